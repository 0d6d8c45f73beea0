import PyProof.Rows.All
import Wide.All
import OpenK.AllK
import Wide.FinOn
import Lean
import PyProof.EqAt
import PyProof.EqKinds
import PyProof.TupleCall
import PyProof.ToksMono
import PyProof.StrCalls6
import PyProof.StrLawsReplace
import PyProof.DictUpdate
import PySem.Challenge.RW_matepoint_k71_offers_as_texts
set_option Elab.async false
set_option linter.all false
set_option maxRecDepth 100000
noncomputable section
open PySem renaming wpAny_bind->Yb,wpAny_pure->Yd,assignEach->Ys,mainGlobals->YB,sizeLine->YJ,Program->YQ,compareOp->Y6,wpAny_truthy_bool->Wi,wpAny_newObj_type->Wt,strKind->Wu,Env->Wv,starEach->Ww,binaryOp->Wy,wpAny_setEntries_of->WF,wpAny_setState_of->WL,wpAny_holding->WN,wpAny_callSpecial?_slot->WP,Comprehension->WQ,wpAny_call_entry->WX,foldedSetIterable->W2,sizeLine_eq->W3,FuncData->W8,wpAny_setField->Ua,SetTable->Uh,bootBuiltins->Ui,wpAny_mono->Ul,wpAny_isNot_other->Um,mem_of_lookup->Us,call_meets->Uv,wpAny_standAt->Ux,wpAny_passesOwn->U4,behindInMarks->Gb,wpAny_askSetting->Gf,wpAny_is_other->Gi,bindArgs->Gj,wpAny_Call_Name_kw->Gk,letOwnedTupleGo->Gm,codeAny_builtin->Gq,NameKind->Gv,wpAny_fieldsOf->GD,Operator->GK,codeAny_mono->GX,call->G5,codeAny->Vb,attributeBase->Ve,builtinsNs->Vm,sliceBounds->Vn,wpAny_rule->Vo,cellsFrom->Vt,pickOrder->Vu,sysModules->VH,typeIs_str->VJ,wpAny_execs_nil->VM,standAt->VN,wpAny_field->VP,scanBound->VV,codeAny_of_tree->V0,wpAny_ite_false->V5,wpAny_loadPart'->V6,wpAny_typeOf->V9,getItem->Yag,swapsWith->Yaj,fits_of_scanBound->Yam,wpAny_pyIter_list->Yan,swapsWithSole->Yat,swappedStores->Yau,call_list_seq->Yax,relayAll->Yay,plainId_quiet->Yaz,wpAny_attempt->YaA,noFill_tuple_add->YaE,holding->YaM,noteFrame->YaR,DictEntry->YaT,typeIs_int->YaX,slotArgs->YaY,isSubtype_type->Ya1,subscripted->Ya2,valueAt->Ya3,slicePicked->Ya4,PassesOwn->Ya5,seq_tuple_add->Ya6,compTurn->Yba,BindsTo->Ybc,typeLookup->Ybd,callerA->Ybg,concat_meets->Ybh,seqIndex_neg->Ybj,setAddHashed->Ybl,lastMarks->Ybo,seqIndex_of->Ybp,wpAny_of_eq->Ybr,compStart->Ybs,wpAny_Name->Ybu,GenState->YbA,Keyword->YbB,storeName->YbD,Arguments->YbF,seqIndex?->YbG,drawOrder->YbH,Fin->YbI,clausesOf->YbJ,setFlight->YbK,setNext->YbM
open List renaming length_map->Yc,size_toArray->Yh,length_append->Yi,getElem?_eq_some_iff->Yj,set_cons_succ->Yk,set_cons_zero->Yl,mem_cons->Ym,replicate->Yo,mem_cons_of_mem->Yp,length_cons->Yq,all_eq_true->Yr,not_mem_nil->Yt,mem_append_right->Yu,mem_cons_self->Yv,map_cons->Yz,getElem?_append_left->YC,getElem?_set_ne->YF,getElem?_append_right->YG,mem_map->YK,getElem?_eq_getElem->YM,getElem?_set_self->YT,length->YW,mem_singleton->YX,length_nil->Y0,getElem?_map->Y4,mem_append->Y7,map_map->Wa,forall_mem_cons->Wb,lookup_cons->We,pairwise_cons->Wf,range->Wh,append_assoc->Wj,mem_append_left->Wm,replicate_succ->Wq,length_set->Wx,length_take->Wz,flatten_cons->WK,Nodup->WM,mem_of_getElem?->WW,length_range->W7,drop_eq_getElem_cons->Ub,nil_append->Uc,getElem?_replicate->Ug,append_nil->Ur,foldl_cons->Ut,isEmpty_nil->Uw,length_replicate->Uy,all_cons->Uz,getElem?_eq_none->UJ,zip_cons_cons->UL,contains_iff_mem->UT,map_nil->U8,filterMap_cons->Ga,sum_cons->Gd,getElem_mem->Ge,length_singleton->Gn,find?_cons->Gp,all_map->Gs,flatMap_cons->Gy,length_eraseIdx_of_lt->Gz,getElem?_zip_eq_some->GF,getElem?_eq_none_iff->GJ,any_eq_true->GP,nodup_cons->Vc,pairwise_singleton->Vf,zip_nil_right->Vh,zip->Vi,zip_nil_left->Vq,map_id'->Vv,set_append_right->Vw,cons_append->Vy,flatMap_map->Vz,mem_flatMap->VB,getElem_of_mem->V2,getElem?_range->V3,forIn_cons->V4,take_left'->V8,getElem?_take->Yac,map->Yae,mem_range->Yaf,drop_zero->Yah,foldl_nil->Yai,foldl->Yak,any_cons->Yaw,length_drop->YaF,take_length->YaI,of_mem_zip->YaN,map_append->YaO,length_zip->YaQ,drop_left'->YaV
open PySem.Heap renaming get?_push_of_some->Ye,lt_size->Yx,get?_push_size->Yy,get?_update_other->Y9,get?_update_self->Wg,size_push->Ws,SameBut->GR,get?_none_of_le->VD,ExtBut->V1
open Bool renaming and_eq_true->Yg,false_ne_true->Yw,false_eq_true->YH,eq_false_iff->Wl,not_true->W9,or_eq_true->Ue,eq_iff_iff->U5,or_false->Yav,true_and->YaC,beq_comm->YaD,or_true->YaU
open Nat renaming le_refl->Yn,lt_of_lt_of_le->YD,ne_of_lt->YZ,le_trans->Y5,lt_irrefl->Wn,lt_succ_of_lt->W6,lt_succ_self->Gg,zero_le->Gr,sub_self->Gu,le_succ->GQ,toDigits->G9,le_of_lt->Vr,ne_of_gt->Vs,lt_trans->Yaa,zero_add->YaS,mul_comm->Ybk,mul_add->Ybt,mod_lt->Ybx,not_lt->Yby
open And renaming intro->YL
open Option.some renaming inj->YS
open Array renaming length_toList->Y8,getElem?_eq_some_iff->Uu,getElem?_toList->UG,getD->Ybz
open PySem.Builtin.Str renaming occurrences->Wc,partsBetween->G8
open PySem.NameKind renaming free->Wd,cell->YaB
open PySem.PyData renaming eqv->Wk,canLay0->Gh,depth->G6,eqvAll->VF,canLayAll0->Yap,depthAll->YaP
open PySem.Obj renaming data_mapFields->Wo,isFreed_of_fields->Ud,mapSeq->Gw,mapFields->Gx,putSet->Yal,cls_mapFields->Yao
open PySem.Heap.SameBut renaming update->Wr
open Option renaming bind_some->WD
open ForInStep renaming yield->WR
open PySem.Value renaming bool->WY,ref->U3,isStrOf->U9,str->Va,none->Vl,isStrOf_shape->VL,type->YaW,int->Ybn
open True renaming intro->W4
open PyProof.Rows renaming slot_tuple_getitem->W5,callWith_type1->Uq,AllBare->Yas,subscriptTail->Ya7,IntsAre->Ybf,Subscript_->Ybv,StrsAre->YbN
open PyProof.Rows.F renaming plain_set_update_loop->Uj
open PySem.SetTable renaming below->Uk,grown->UW
open Ne renaming symm->Uo
open PySem.Builtin.Slice renaming slicePlaces->UV,sliceAdjust->GC
open PySem.Around renaming under_plainId->U0
open PySem.Builtin.Tuple renaming tupleExact->U6
open PySem.W renaming mg_none_of->U7,kia_one->Vx,codeHdIn->YaZ,cellsFrom_some->Ya0,OpenLaw->Ybq,methodObj->YbC,kitx_list->YbE,kas_rev->YbO
open False renaming elim->GZ
open PySem.F renaming args_tuple_add_2->G3,entry_tuple_add->Vd,slot_tuple_add->Vj,plainAttrs_str->Vk,slot_int_rmul->VR,args_tuple_mul_2->Yab,args_str_split_2->Yad,entry_tuple_mul->Yaq,entry_str_split->Yar,slot_tuple_mul->YaH,slot_str_split->YaJ
open PySem.Builtin.List renaming listTooLong->G4
open PySem.AutoSeq1 renaming sub_tuple_tuple->G7,idx_int->YaG
open Int renaming emod_lt_of_pos->Vg,toNat_natCast->Vp,emod_nonneg->V7
open List.cons renaming inj->VG
open PySem.Str renaming length->YaK,ofString->Ybi,length->Ybw
open Sum renaming inr->YaL,inl->Ybb
open PySem.Shared renaming TypeIs->Ya8
open PySem.Txt renaming partition->Ya9,split->YbL
open PySem.SeqAt renaming EqAt->Ybe
open PySem.pickOrder renaming go->Ybm
open PySem.W (Frag OpenLaw cellsFrom_some codeHdIn codeIn findIn fnOf instObj keepIn kia_one kitx_list lookIn methodObj mg_none_of mg_of nsIn tabObj)
section
set_option Elab.async false
namespace L2
open PySem PySem.Spec PyProof.Rows
noncomputable abbrev Key:=Sum Int Str
noncomputable def ZhQ:Key->Value->Bool
 |.inl k,v=>Value.isInt k v
 |.inr x,v=>U9 x v
noncomputable def keyH(w:World):Key->Int
 |.inl k=>hashInt k
 |.inr x=>hashStr w x
theorem Z8:∀{k:Key}{v:Value},ZhQ k v=true->(∃i t,k=Ybb i/\v=Ybn i t)∨(∃x t,k=YaL x/\v=Va x t)
 |.inl i,v,h=>by
  obtain⟨t,e⟩:=Value.isInt_shape (k:=i) (v:=v) h
  exact .inl ⟨i,t,rfl,e⟩
 |.inr x,v,h=>by
  obtain⟨t,e⟩:=VL (x:=x) (v:=v) h
  exact .inr ⟨x,t,rfl,e⟩
theorem ZlT(i:Int)(t:Tok):ZhQ (.inl i) (.int i t)=true:=by simp[ZhQ,Value.isInt]
theorem Zdz(x:Str)(t:Tok):ZhQ (.inr x) (.str x t)=true:=by simp[ZhQ,U9]
theorem key_ll(a b:Int):decide ((Ybb a:Key)=Ybb b)=(a==b):=by
 by_cases e:a=b
 ·subst e;simp
 ·have h:¬(Ybb a:Key)=Ybb b:=λq=>e (Sum.inl.inj q)
  rw[decide_eq_false h]
  exact(beq_eq_false_iff_ne.mpr e).symm
theorem key_rr(a b:Str):decide ((YaL a:Key)=YaL b)=decide (a=b):=by
 by_cases e:a=b
 ·subst e;simp
 ·have h:¬(YaL a:Key)=YaL b:=λq=>e (Sum.inr.inj q)
  rw[decide_eq_false h,decide_eq_false e]
theorem key_lr(a:Int)(b:Str):decide ((Ybb a:Key)=YaL b)=false:=decide_eq_false (λq=>nomatch q)
theorem key_rl(a:Str)(b:Int):decide ((YaL a:Key)=Ybb b)=false:=decide_eq_false (λq=>nomatch q)
noncomputable def Xc(prog:YQ)(w:World):PySem.KeyKind prog w Key where
 is:=ZhQ
 hash:=keyH w
 inj:=λv a b ha hb=>by
  rcases Z8 ha with⟨i,t,rfl,rfl⟩|⟨x,t,rfl,rfl⟩
  ·rcases Z8 hb with⟨j,u,rfl,e⟩|⟨y,u,rfl,e⟩
   ·injection e with e1 _;rw[e1]
   ·exact nomatch e
  ·rcases Z8 hb with⟨j,u,rfl,e⟩|⟨y,u,rfl,e⟩
   ·exact nomatch e
   ·injection e with e1 _;rw[e1]
 byValue:=λk v h=>by
  rcases Z8 h with⟨i,t,rfl,rfl⟩|⟨x,t,rfl,rfl⟩<;>rfl
 pyHash:=λhv h=>by
  rcases Z8 hv with⟨i,t,rfl,rfl⟩|⟨x,t,rfl,rfl⟩
  ·exact wpAny_pyHash_int h
  ·exact wpAny_pyHash_str h
 eqBool:=λhu hv h=>by
  rcases Z8 hu with⟨i,t,rfl,rfl⟩|⟨x,t,rfl,rfl⟩
  ·rcases Z8 hv with⟨j,u,rfl,rfl⟩|⟨y,u,rfl,rfl⟩
   ·rw[key_ll]at h;exact wpAny_eqBool_int h
   ·rw[key_lr]at h;exact SeqAt.EqAt.int_str i t y u _ _ _ _ h
  ·rcases Z8 hv with⟨j,u,rfl,rfl⟩|⟨y,u,rfl,rfl⟩
   ·rw[key_rl]at h;exact SeqAt.EqAt.str_int x t j u _ _ _ _ h
   ·rw[key_rr]at h;exact wpAny_eqBool_str h
 «strs»:=λk x t v h=>by
  rcases Z8 h with⟨i,u,rfl,e⟩|⟨y,u,rfl,e⟩
  ·exact nomatch e
  ·injection e with e1 _
   subst e1
   cases v<;>rfl
theorem ZhN(prog:YQ)(w:World)(i:Int)(t:Tok):(Xc prog w).is (.inl i) (.int i t)=true:=ZlT i t
theorem ZhM(prog:YQ)(w:World)(x:Str)(t:Tok):(Xc prog w).is (.inr x) (.str x t)=true:=Zdz x t
inductive V where
 |non|bl (b:Bool)|int (i:Int)|str (x:Str)|byt (b:Array UInt8)|flt (b:UInt64)|ref (a:Addr)|ty (n:String)
 deriving DecidableEq
noncomputable def RelV:V->Value->Prop
 |.non,u=>u=Vl
 |.bl b,u=>u=WY b
 |.int i,u=>∃t,u=Ybn i t
 |.str x,u=>∃t,u=Va x t
 |.byt b,u=>∃t,u=Value.bytes b t
 |.flt b,u=>∃t,u=Value.float b t
 |.ref a,u=>u=U3 a
 |.ty n,u=>u=YaW n
noncomputable abbrev Vals:List V->List Value->Prop:=Paired RelV
theorem Vals.length{xs:List V}{us:List Value}(r:Vals xs us):xs.length=us.length:=Paired.length r
theorem Vals.get:∀{xs:List V}{us:List Value}{i:Nat}{x:V},Vals xs us->xs[i]?=some x->∃u,us[i]?=some u/\RelV x u
 |_,_,_,_,.nil,e=>by simp at e
 |_,_,0,_,.cons r _,e=>by simp at e;subst e;exact⟨_,rfl,r⟩
 |_,_,i+1,x,.cons _ t,e=>by
  obtain⟨u,h1,h2⟩:=Vals.get (i:=i) (x:=x) t (by simpa using e)
  exact⟨u,by simpa using h1,h2⟩
theorem Vals.set{x:V}{u:Value}(r:RelV x u):∀{xs:List V}{us:List Value}(i:Nat),Vals xs us->Vals (xs.set i x) (us.set i u)
 |_,_,_,.nil=>.nil
 |_,_,0,.cons _ t=>.cons r t
 |_,_,i+1,.cons q t=>.cons q (Vals.set r i t)
theorem Vals.append:∀{xs ys:List V}{us ws:List Value},Vals xs us->Vals ys ws->Vals (xs++ys) (us++ws)
 |_,_,_,_,.nil,s=>s
 |_,_,_,_,.cons r t,s=>.cons r (Vals.append t s)
theorem Vals.take:∀{xs:List V}{us:List Value}(n:Nat),Vals xs us->Vals (xs.take n) (us.take n)
 |_,_,0,_=>.nil
 |_,_,_+1,.nil=>.nil
 |_,_,n+1,.cons r t=>.cons r (Vals.take n t)
theorem Vals.drop:∀{xs:List V}{us:List Value}(n:Nat),Vals xs us->Vals (xs.drop n) (us.drop n)
 |_,_,0,r=>r
 |_,_,_+1,.nil=>.nil
 |_,_,n+1,.cons _ t=>Vals.drop n t
noncomputable def RelO:Option V->Option Value->Prop
 |some v,some u=>RelV v u
 |none,none=>True
 |_,_=>False
noncomputable def KV{κ:Type}:List (κ×V)->List (κ×Value)->Prop:=Paired λ(p:κ×V) (q:κ×Value)=>p.1=q.1/\RelV p.2 q.2
noncomputable def kV:Key->V
 |.inl i=>.int i
 |.inr x=>.str x
inductive HO where
 |lst (xs:List V)
 |tup (xs:List V)
 |dK (kvs:List (Key×V))|dT (kvs:List (List Key×V))
 |set (S:Int->Bool) (n:Nat)
 |ins (C dx:Addr) (fs:List (Str×V))
 |own (x:Addr)
 |xd (fs:List (Str×V))
 |met (f x:Addr)
 |rng (lo hi:Int)
 |frz (o:Obj) (u:HO)
 |tbl (ps:Array Value)
 |ext (φ:Heap->Prop)
noncomputable abbrev Hp:=Addr->Option HO
noncomputable def upd(H:Hp)(a:Addr)(o:HO):Hp:=λb=>if b=a then some o else H b
theorem Xv{H:Hp}{a:Addr}{o:HO}:upd H a o a=some o:=by unfold upd;rw[if_pos rfl]
theorem Z3{H:Hp}{a b:Addr}{o:HO}(h:b≠a):upd H a o b=H b:=by unfold upd;rw[if_neg h]
theorem QH{H:Hp}{a b:Addr}{o:HO}(h:H a=some o)(h':H b=none):a≠b:=by
 intro e;subst e;rw[h]at h';cases h'
noncomputable def TupP(h:Heap)(a:Addr)(items:Array Value):Prop:=∃o,h.get? a=some o/\o.cls=.type "tuple"/\(∃n,o.data=.seq items n)/\o.dict=none
theorem TupP.is{h:Heap}{a:Addr}{items:Array Value}(x:TupP h a items):IsTup h a items:=let⟨o,h1,h2,h3,_⟩:=x;⟨o,h1,h2,h3⟩
theorem TupP.new(h:Heap)(items:Array Value):TupP (h.push { cls:=.type "tuple",data:=.seq items }) h.objs.size items:=⟨_,Yy _ rfl,rfl,⟨_,rfl⟩,rfl⟩
section
variable(P:YQ) (w:World)
noncomputable def JQ(H:Hp)(h:Heap)(a:Addr):HO->Prop
 |.lst xs=>xs.length<=YJ/\∃(its:List Value) (n:Nat),Vals xs its/\h.get? a=some { cls:=.type "list",data:=.seq its.toArray n }
 |.tup xs=>xs.length<=YJ/\∃its:List Value,Vals xs its/\TupP h a its.toArray
 |.dK kvs=>kvs.length<=YJ/\(a==VH)=false/\∃vs,KV kvs vs/\h.DictOf (Xc P w) a vs
 |.dT kvs=>kvs.length<=YJ/\(a==VH)=false/\∃xs:List (List Key×Addr×Value),
  Paired (λ(p:List Key×V) (q:List Key×Addr×Value)=>p.1=q.1/\H q.2.1=some (.tup (p.1.map kV))/\RelV p.2 q.2.2) kvs xs /\
  ∃o es ep,h.get? a=some o/\o.ExactDict/\o.data=.dict es ep/\es.toList=xs.map (entryOfKey (tupleKind (Xc P w)))/\(xs.map (·.1)).Nodup
 |.set S n=>h.SetOf (intKind P w) a S n
 |.ins C dx fs=>H dx=some (.own a)/\fs.length<=1000/\dx≠a/\h.get? a=some (instObj C dx) /\
  ∃mA,h.Ns1 dx mA/\(∀f,RelO (fs.lookup f) (mA f))/\PySem.Within mA (fs.map (·.1))
 |.own _=>∃o,h.get? a=some o
 |.xd fs=>∃mA,h.Ns1 a mA/\∀f,RelO (fs.lookup f) (mA f)
 |.rng lo hi=>∃t u v,h.get? a=some { cls:=.type "range",data:=.fields #[.int lo t,.int hi u,.int 1 v] }
 |.frz o u=>h.get? a=some o/\JQ H h a u
 |.tbl ps=>h.get? a=some { cls:=.none,data:=.fields ps }
 |.met f x=>h.get? a=some (YbC (.ref f) (.ref x))
 |.ext φ=>φ h/\(∃o,h.get? a=some o)/\∀h1 h2:Heap,φ h1->(∀o,h1.get? a=some o->h2.get? a=some o)->φ h2
noncomputable def HOk(H:Hp)(h:Heap):Prop:=∀a o,H a=some o->JQ P w H h a o
end
section
variable{P:YQ}{w:World}{H H':Hp}{h h':Heap}{a:Addr}{o:HO}
theorem JQ.lt(x:JQ P w H h a o):a<h.objs.size:=by
 cases o with
 |lst xs=>obtain⟨_,_,_,_,e⟩:=x;exact Yx e
 |tup xs=>obtain⟨_,_,_,p⟩:=x;exact p.is.lt
 |dK kvs=>obtain⟨_,_,_,_,o,_,_,e,_⟩:=x;exact Yx e
 |dT kvs=>obtain⟨_,_,_,_,o,_,_,e,_⟩:=x;exact Yx e
 |set S n=>obtain⟨o,_,_,_,e,_⟩:=x;exact Yx e
 |ins C dx fs=>obtain⟨_,_,_,e,_⟩:=x;exact Yx e
 |own y=>obtain⟨_,e⟩:=x;exact Yx e
 |xd fs=>obtain⟨_,⟨_,_,_,e,_⟩,_⟩:=x;exact Yx e
 |rng lo hi=>obtain⟨_,_,_,e⟩:=x;exact Yx e
 |frz ob u=>obtain⟨e,_⟩:=x;exact Yx e
 |tbl ps=>exact Yx (show h.get? a=some _ from x)
 |met f y=>exact Yx (show h.get? a=some _ from x)
 |ext φ=>obtain⟨_,⟨_,e⟩,_⟩:=x;exact Yx e
theorem Paired.mapP{α β:Type}{F G:α->β->Prop}:∀{l₁:List α}{l₂:List β},Paired F l₁ l₂->(∀a b,F a b->G a b)->Paired G l₁ l₂
 |_,_,.nil,_=>.nil
 |_,_,.cons r t,f=>.cons (f _ _ r) (Paired.mapP t f)
theorem JQ.stay(x:JQ P w H h a o)(k:∀b u,(b=a∨H b=some (.own a))->h.get? b=some u->h'.get? b=some u)(ho:∀b,H b=some (.own a)->H' b=some (.own a))(ht:∀b xs,H b=some (.tup xs)->H' b=some (.tup xs)):JQ P w H' h' a o:=by
 induction o with
 |lst xs=>obtain⟨z,its,n,r,e⟩:=x;exact⟨z,its,n,r,k _ _ (.inl rfl) e⟩
 |tup xs=>obtain⟨z,its,r,ob,e,c⟩:=x;exact⟨z,its,r,ob,k _ _ (.inl rfl) e,c⟩
 |dK kvs=>obtain⟨z,y,vs,r,ob,es,ep,e,c⟩:=x;exact⟨z,y,vs,r,ob,es,ep,k _ _ (.inl rfl) e,c⟩
 |dT kvs =>
  obtain⟨z,y,xs,r,ob,es,ep,e,c⟩:=x
  exact⟨z,y,xs,Paired.mapP r λp q z=>⟨z.1,ht _ _ z.2.1,z.2.2⟩,ob,es,ep,k _ _ (.inl rfl) e,c⟩
 |set S n=>obtain⟨ob,es,ep,t,e,c⟩:=x;exact⟨ob,es,ep,t,k _ _ (.inl rfl) e,c⟩
 |ins C dx fs =>
  obtain⟨d,z,ne,e,mA,⟨od,es,ep,e2,c⟩,r⟩:=x
  exact⟨ho _ d,z,ne,k _ _ (.inl rfl) e,mA,⟨od,es,ep,k _ _ (.inr d) e2,c⟩,r⟩
 |own y=>obtain⟨ob,e⟩:=x;exact⟨ob,k _ _ (.inl rfl) e⟩
 |xd fs=>obtain⟨mA,⟨od,es,ep,e,c⟩,r⟩:=x;exact⟨mA,⟨od,es,ep,k _ _ (.inl rfl) e,c⟩,r⟩
 |rng lo hi=>obtain⟨t,u,v,e⟩:=x;exact⟨t,u,v,k _ _ (.inl rfl) e⟩
 |frz ob u ih=>obtain⟨e,q⟩:=x;exact⟨k _ _ (.inl rfl) e,ih q⟩
 |tbl ps =>
  have e:h.get? a=some { cls:=.none,data:=.fields ps }:=x
  show h'.get? a=some { cls:=.none,data:=.fields ps }
  exact k a _ (.inl rfl) e
 |met f y =>
  have e:h.get? a=some (YbC (.ref f) (.ref y)):=x
  show h'.get? a=some (YbC (.ref f) (.ref y))
  exact k a _ (.inl rfl) e
 |ext φ=>obtain⟨p,⟨o,e⟩,st⟩:=x;exact⟨st _ _ p λo q=>k _ _ (.inl rfl) q,⟨o,k _ _ (.inl rfl) e⟩,st⟩
theorem HOk.lt(x:HOk P w H h)(e:H a=some o):a<h.objs.size:=(x a o e).lt
theorem HOk.fresh(x:HOk P w H h)(e:h.objs.size<=a):H a=none:=by
 cases q:H a with
 |none=>rfl
 |some u=>exact absurd (YD (x.lt q) e) (Wn _)
theorem HOk.kept(x:HOk P w H h)(k:∀b u,h.get? b=some u->h'.get? b=some u):HOk P w H h':=λa o e =>
 (x a o e).stay (λb u _ q=>k b u q) (λ_ q=>q) λ_ _ q=>q
theorem HOk.laid(x:HOk P w H h)(k:∀b u,h.get? b=some u->h'.get? b=some u)(hp:h.objs.size<=a)(new:JQ P w (upd H a o) h' a o):HOk P w (upd H a o) h':=λb u e=>by
 have hn:=x.fresh hp
 by_cases hb:b=a
 ·subst hb;rw[Xv]at e;cases e;exact new
 ·rw[Z3 hb]at e
  exact(x b u e).stay (λc v _ q=>k c v q) (λc q=>by rw[Z3 (QH q hn)];exact q) λc xs q=>by rw[Z3 (QH q hn)];exact q
end
noncomputable def Rd(H:Hp)(a:Addr)(u:HO):Prop:=H a=some u∨∃o,H a=some (.frz o u)
theorem Rd.ok{P:YQ}{w:World}{H:Hp}{h:Heap}{a:Addr}{u:HO}(r:Rd H a u)(x:HOk P w H h):JQ P w H h a u:=by
 rcases r with r|⟨o,r⟩
 ·exact x a u r
 ·obtain⟨_,q⟩:=x a _ r
  exact q
noncomputable def Mut:Option HO->Prop
 |some (.lst _)=>True
 |some (.dK _)=>True
 |some (.dT _)=>True
 |some (.set _ _)=>True
 |some (.ins _ _ _)=>True
 |some (.ext _)=>True
 |_=>False
section
variable{P:YQ}{w:World}{H:Hp}{h h':Heap}{x e:Addr}{o':HO}
theorem HOk.write(ok:HOk P w H h)(mu:Mut (H x))(he:e=x∨H e=some (.own x))(k:∀b u,b≠e->h.get? b=some u->h'.get? b=some u)(heo:∃u,h'.get? e=some u)(new:JQ P w (upd H x o') h' x o'):HOk P w (upd H x o') h':=λb u q=>by
 have nown:∀c y,H c=some (.own y)->c≠x:=λc y r z=>by subst z;rw[r]at mu;exact mu
 have ntup:∀c xs,H c=some (.tup xs)->c≠x:=λc xs r z=>by subst z;rw[r]at mu;exact mu
 by_cases hb:b=x
 ·subst hb;rw[Xv]at q;cases q;exact new
 ·rw[Z3 hb]at q
  by_cases hbe:b=e
  ·have q':H b=some (.own x):=by
    rcases he with z|z
    ·exact absurd (hbe.trans z) hb
    ·rw[hbe];exact z
   rw[q]at q';cases q'
   obtain⟨v,hv⟩:=heo
   exact⟨v,by rw[hbe];exact hv⟩
  ·refine(ok b u q).stay (λc v hc r=>k c v ?_ r) (λc r=>by rw[Z3 (nown c b r)];exact r) λc xs r=>by rw[Z3 (ntup c xs r)];exact r
   rcases hc with rfl|hc
   ·exact hbe
   ·rintro rfl
    rcases he with z|z
    ·exact nown c b hc z
    ·rw[hc]at z;cases z;exact hb rfl
end
structure Un (fs ex:List Addr) (H H':Hp) (h h':Heap):Prop where
 keep:∀b o,h.get? b=some o->H b=none->b∉fs->b∉ex->h'.get? b=some o
 slot:∀b o,h.get? b=some o->H b=none->b∈fs->b∉ex->∃sl,h'.get? b=some { o with slots:=sl }
 free:∀b o,h.get? b=some o->H b=none->b∉ex->H' b=none
 there:∀b o,h.get? b=some o->b∉ex->∃o',h'.get? b=some o'
 tups:∀b xs,H b=some (.tup xs)->H' b=some (.tup xs)
 frzs:∀b o u,H b=some (.frz o u)->H' b=some (.frz o u)
 tbls:∀b ps,H b=some (.tbl ps)->∃more,H' b=some (.tbl (ps++more))
section
variable{fs fs' ex ex':List Addr}{H H1 H2:Hp}{h h1 h2 h':Heap}{a x e:Addr}{o:HO}
theorem Un.any(u:Un fs ex H H1 h h1){b:Addr}{ob:Obj}(q:h.get? b=some ob)(n:H b=none)(hx:b∉ex):∃sl,h1.get? b=some { ob with slots:=sl }:=by
 by_cases hb:b∈fs
 ·exact u.slot b ob q n hb hx
 ·exact⟨ob.slots,u.keep b ob q n hb hx⟩
theorem Un.kept(k:∀b u,h.get? b=some u->h'.get? b=some u):Un fs ex H H h h':=
 ⟨λb ob q _ _ _=>k b ob q,λb ob q _ _ _=>⟨ob.slots,k b ob q⟩,λ_ _ _ n _=>n,λb ob q _=>⟨ob,k b ob q⟩,λ_ _ q=>q,λ_ _ _ q=>q,λ_ ps q=>⟨#[],by rw[q];simp⟩⟩
theorem Un.refl:Un fs ex H H h h:=Un.kept λ_ _ q=>q
theorem Un.laid(k:∀b u,h.get? b=some u->h'.get? b=some u)(hp:h.objs.size<=a)(hn:H a=none):Un fs ex H (upd H a o) h h' where
 keep:=λb u q _ _ _=>k b u q
 slot:=λb u q _ _ _=>⟨u.slots,k b u q⟩
 free:=λb u q n _=>by rw[Z3 (YZ (YD (Yx q) hp))];exact n
 there:=λb u q _=>⟨u,k b u q⟩
 tups:=λb xs q=>by rw[Z3 (QH q hn)];exact q
 frzs:=λb u xs q=>by rw[Z3 (QH q hn)];exact q
 tbls:=λb ps q=>⟨#[],by rw[Z3 (QH q hn),q];simp⟩
theorem Un.write(mu:Mut (H x))(he:e=x∨H e=some (.own x))(k:∀b u,b≠e->h.get? b=some u->h'.get? b=some u)(heo:∃u,h'.get? e=some u):Un fs ex H (upd H x o) h h':=by
 have hx:∀b,H b=none->b≠x:=λb n z=>by subst z;rw[n]at mu;exact mu
 have hb:∀b,H b=none->b≠e:=λb n z=>by
  subst z
  rcases he with r|r
  ·exact hx b n r
  ·rw[n]at r;cases r
 have hm:∀b u,H b=some u->¬Mut (some u)->b≠x:=λb u q nm z=>by subst z;rw[q]at mu;exact nm mu
 refine⟨λb u q n _ _=>k b u (hb b n) q,λb u q n _ _=>⟨u.slots,k b u (hb b n) q⟩,λb u q n _=>by rw[Z3 (hx b n)];exact n,λb u q _=>?_,
  λb xs q=>by rw[Z3 (hm b _ q λz=>z)];exact q,λb u xs q=>by rw[Z3 (hm b _ q λz=>z)];exact q,λb ps q=>⟨#[],by rw[Z3 (hm b _ q λz=>z),q];simp⟩⟩
 by_cases hbe:b=e
 ·subst hbe;exact heo
 ·exact⟨u,k b u hbe q⟩
end
noncomputable def trk(h:Heap)(H:Hp):List Addr:=(Wh h.objs.size).filter λa=>(H a).isSome
noncomputable def hidT(h:Heap)(H:Hp):Heap:=PySem.W.hideAll h (trk h H)
theorem Zl5(h:Heap)(H:Hp):(hidT h H).objs.size=h.objs.size:=PySem.W.hideAll_size _ _
theorem Zn7{h:Heap}{H:Hp}{b:Addr}{o:Obj}(e:h.get? b=some o)(n:H b=none):(hidT h H).get? b=some o:=
 PySem.W.hideAll_get _ e λhm=>by
  have q:(H b).isSome=true:=(List.mem_filter.mp hm).2
  rw[n]at q;simp at q
theorem Zp0{h:Heap}{H:Hp}{b:Addr}{o:Obj}(e:(hidT h H).get? b=some o):h.get? b=some o/\H b=none:=by
 have e':h.get? b=some o:=PySem.W.of_hideAll (trk h H) e
 refine⟨e',?_⟩
 cases q:H b with
 |none=>rfl
 |some x =>
  have hm:b∈trk h H:=List.mem_filter.mpr ⟨Yaf.mpr (Yx e'),by simp[q]⟩
  have z:(hidT h H).get? b=none:=PySem.W.hideAll_none (trk h H) hm
  rw[z]at e;cases e
noncomputable def ZqK(g h:Heap)(L:Addr):List (Addr×Obj):=(Wh h.objs.size).filterMap λa=>if a=L∨(g.get? a).isSome=true then none else(h.get? a).map λo=>(a,o)
noncomputable def rest(g h:Heap)(L d:Addr):List (Addr×Obj):=(ZqK g h L).filter λp=>decide (p.1≠d)
structure Mod (K:Frag) (mg:Str->Option Value) (base:Heap):Prop where
 kin:K.In base
 glob:base.Ns YB mg
 blt:∃mb,base.Ns Vm mb/\∀x:Str,x≠"__name__"->mb x=Ui x
 nolimit:base.NoLimit
 bm:∃bm ob,mg "__builtins__" = some (.ref bm)/\bm≠Vm/\base.get? bm=some ob/\ob.cls=.type "module"/\ob.dict=some Vm/\ob.data=.plain
structure Cx where
 prog:YQ
 w:World
 K:Frag
 mg:Str->Option Value
 base:Heap
 A:Around
 N:List Str
 s₀:Shared
 H₀:Hp
 env:Env
 outer:List Env
 stack:List Env
 ex:List Addr
 fn:Str->Bool
 calm:Bool
 pn:List (Addr×Obj)
 xe:Value->Shared->Prop
noncomputable def frs(l:List Env):List Addr:=l.filterMap (·.frame)
noncomputable abbrev Cx.fs(X:Cx):List Addr:=frs X.outer
noncomputable def Vis(sc:Scope)(x:Str):Prop:=sc.names.lookup x=some .local∨sc.names.lookup x=some .cell∨sc.names.lookup x=some .free
noncomputable def Loc(sc:Scope)(x:Str):Prop:=sc.names.lookup x=some .local∨sc.names.lookup x=some .cell
noncomputable def Look(env:Env)(h:Heap)(m:Str->Option Value)(x:Str)(u:Value):Prop:=
 (env.kindOf x=some .local/\m x=some u)∨((env.kindOf x=some .cell∨env.kindOf x=some .free)/\∃c,env.cells.lookup x=some c/\h.IsCell c (some u))
structure Cx.Ok (X:Cx):Prop where
 mod:Mod X.K X.mg X.base
 kind:X.env.scope.kind=.function
 glob:X.env.globals=YB
 blt:X.env.builtins=Vm
 above:X.s₀.heap.objs.size<=X.env.locals
 inj:∀x y c,X.env.cells.lookup x=some c->X.env.cells.lookup y=some c->x=y
 has:∀x,(X.env.kindOf x=some .cell∨X.env.kindOf x=some .free)->∃c,X.env.cells.lookup x=some c
 cab:∀x c,X.fn x=true->X.env.cells.lookup x=some c->X.s₀.heap.objs.size<=c
 hd:X.calm=true->X.A.handled=none
 frames:X.A.frames=some X.stack
 stk:X.stack=X.outer∨(X.stack=X.env::X.outer/\X.env.frame=some X.env.locals)
 exf:∀b∈X.ex,b≠X.env.locals/\∀x c,X.env.cells.lookup x=some c->c≠b
 bs:∀b o,X.base.get? b=some o->X.s₀.heap.get? b=some o/\X.H₀ b=none
 bsz:X.base.objs.size<=X.s₀.heap.objs.size
 noex:∀b o,X.base.get? b=some o->b∉X.ex
 exfs:∀b∈X.ex,b∉X.fs
 funs:X.s₀.heap.FunFrames X.base X.outer
 frf:∀b∈X.fs,X.H₀ b=none
structure Inv (X:Cx) (pins:List (Addr×Obj)) (σ:List (Option V)) (H:Hp) (s:Shared):Prop where
 ok:X.Ok
 os:s.os=X.s₀.os
 bare:Yas s.gens
 base:Un X.fs X.ex X.H₀ H X.s₀.heap s.heap
 loc:∃m,s.heap.Ns X.env.locals m/\∀(i:Nat) (x:Str) (v:V),X.N[i]?=some x->σ[i]?=some (some v)->Vis X.env.scope x->∃u,RelV v u/\Look X.env s.heap m x u
 cell:∀x c,X.env.cells.lookup x=some c->∃v,s.heap.IsCell c v
 free:H X.env.locals=none
 freeC:∀x c,X.env.cells.lookup x=some c->H c=none
 pin:∀p∈X.pn++pins,s.heap.get? p.1=some p.2/\H p.1=none/\p.1≠X.env.locals/\p.1∉X.fs/\∀v,p.2.data≠.cell v
 hok:HOk X.prog X.w H s.heap
 len:σ.length=X.N.length
section
variable{X:Cx}{pins:List (Addr×Obj)}{σ:List (Option V)}{H H':Hp}{s:Shared}{h':Heap}
theorem Cx.Ok.nofr(ok:X.Ok){b:Addr}{o:Obj}(e:X.base.get? b=some o):b∉X.fs:=λhb=>by
 have:=(ok.funs.mem hb).1
 rw[e]at this;cases this
theorem Inv.bs(I:Inv X pins σ H s):∀b o,X.base.get? b=some o->s.heap.get? b=some o/\H b=none:=λb o e =>
 ⟨I.base.keep b o (I.ok.bs b o e).1 (I.ok.bs b o e).2 (I.ok.nofr e) (I.ok.noex b o e),I.base.free b o (I.ok.bs b o e).1 (I.ok.bs b o e).2 (I.ok.noex b o e)⟩
theorem Inv.bk(I:Inv X pins σ H s):∀b o,X.base.get? b=some o->s.heap.get? b=some o:=λb o e=>(I.bs b o e).1
theorem Inv.mod(I:Inv X pins σ H s):Mod X.K X.mg X.base:=I.ok.mod
theorem Inv.kIn(I:Inv X pins σ H s):X.K.In s.heap:=I.ok.mod.kin.keeps I.bk
theorem Inv.lt(I:Inv X pins σ H s):X.env.locals<s.heap.objs.size:=let⟨_,hn,_⟩:=I.loc;hn.lt
theorem Inv.sz(I:Inv X pins σ H s):X.s₀.heap.objs.size<=s.heap.objs.size:=Y5 I.ok.above (Vr I.lt)
theorem Inv.nofs(I:Inv X pins σ H s){a:Addr}(h:s.heap.objs.size<=a):a∉X.fs:=λhb=>by
 obtain⟨_,o,ho,_⟩:=I.ok.funs.mem hb
 exact absurd (YD (Yx ho) (Y5 I.sz h)) (Wn _)
theorem Inv.cne(I:Inv X pins σ H s):∀x c,X.env.cells.lookup x=some c->c≠X.env.locals:=λx c e z=>by
 obtain⟨v,o,ho,hd⟩:=I.cell x c e
 obtain⟨m,⟨o',es,ep,ho',hd',_⟩,_⟩:=I.loc
 rw[z,ho']at ho;cases ho;rw[hd']at hd;cases hd
theorem Inv.funs(I:Inv X pins σ H s):s.heap.FunFrames X.base X.outer:=by
 have all:∀(l:List Env),(∀b∈frs l,b∈X.fs)->X.s₀.heap.FunFrames X.base l->s.heap.FunFrames X.base l:=by
  intro l
  induction l with
  |nil=>intro _ _;trivial
  |cons env r ih =>
   intro hs hl
   obtain⟨hk,⟨L,o,hf,hn,ho,hd⟩,hr⟩:=hl
   have hL:L∈X.fs:=hs L (by unfold frs;rw[Ga,hf];exact Yv)
   obtain⟨sl,e⟩:=I.base.slot L o ho (I.ok.frf L hL) hL λz=>I.ok.exfs L z hL
   exact⟨hk,⟨L,_,hf,hn,e,hd⟩,ih (λb hb=>hs b (by unfold frs;rw[Ga,hf];exact Yp _ hb)) hr⟩
 exact all X.outer (λ_ hb=>hb) I.ok.funs
theorem Inv.stack(I:Inv X pins σ H s):s.heap.FunFrames X.base X.stack:=by
 rcases I.ok.stk with e|⟨e,hf⟩
 ·rw[e];exact I.funs
 ·rw[e]
  obtain⟨m,hn,_⟩:=I.loc
  refine .cons (by rw[I.ok.kind];decide) hf hn ?_ I.funs
  exact VD (Y5 I.ok.bsz I.ok.above)
theorem Inv.stkSub(I:Inv X pins σ H s):∀b∈frs X.stack,b∈X.env.locals::X.fs:=λb hb=>by
 rcases I.ok.stk with e|⟨e,hf⟩
 ·rw[e]at hb;exact Yp _ hb
 ·rw[e]at hb
  unfold frs at hb
  rw[Ga,hf]at hb
  exact hb
theorem Inv.stkFree(I:Inv X pins σ H s):∀b∈frs X.stack,H b=none:=λb hb=>by
 rcases Ym.mp (I.stkSub b hb)with e|hb
 ·rw[e];exact I.free
 ·obtain⟨_,o,ho,_⟩:=I.ok.funs.mem hb
  exact I.base.free b o ho (I.ok.frf b hb) λz=>I.ok.exfs b z hb
theorem Inv.step{g':Array YbA}{t':Nat}{d':Drawn}{ch:List Addr}(I:Inv X pins σ H s)(hch:∀b∈ch,(b∈X.ex∨X.s₀.heap.objs.size<=b)/\b≠X.env.locals/\(∀x c,X.env.cells.lookup x=some c->c≠b)/\∀p∈X.pn++pins,p.1≠b)(keep:∀b o,b≠X.env.locals->b∉X.fs->b∉ch->s.heap.get? b=some o->H b=none->h'.get? b=some o)(slot:∀b o,b≠X.env.locals->b∈X.fs->b∉ch->s.heap.get? b=some o->H b=none->∃sl,h'.get? b=some { o with slots:=sl })(free:∀b o,b∉ch->s.heap.get? b=some o->H b=none->H' b=none)(there:∀b o,b∉ch->s.heap.get? b=some o->∃o',h'.get? b=some o')(tups:∀b xs,H b=some (.tup xs)->H' b=some (.tup xs))(frzs:∀b o u,H b=some (.frz o u)->H' b=some (.frz o u))(tbls:∀b ps,H b=some (.tbl ps)->∃more,H' b=some (.tbl (ps++more)))(ns:∀m,s.heap.Ns X.env.locals m->h'.Ns X.env.locals m)(hok:HOk X.prog X.w H' h')(hg:Yas g'):
  Inv X pins σ H' { s with heap:=h',gens:=g',drawn:=d',toks:=t' }:=by
 have neL:∀b o,X.s₀.heap.get? b=some o->b≠X.env.locals:=λb o e=>YZ (YD (Yx e) I.ok.above)
 have neC:∀b o,X.s₀.heap.get? b=some o->b∉X.ex->b∉ch:=λb o e hx hb=>by
  rcases(hch b hb).1 with z|z
  ·exact hx z
  ·exact absurd (YD (Yx e) z) (Wn _)
 have cellK:∀x c,X.env.cells.lookup x=some c->∀v,s.heap.IsCell c v->h'.IsCell c v:=λx c e v ⟨o,ho,hd⟩=>by
  have nch:c∉ch:=λz=>(hch c z).2.2.1 x c e rfl
  by_cases hc:c∈X.fs
  ·obtain⟨sl,q⟩:=slot c o (I.cne x c e) hc nch ho (I.freeC x c e)
   exact⟨_,q,hd⟩
  ·exact⟨o,keep c o (I.cne x c e) hc nch ho (I.freeC x c e),hd⟩
 refine⟨I.ok,I.os,hg,⟨λb o e n hb hx=>?_,λb o e n hb hx=>?_,λb o e n hx=>?_,λb o e hx=>?_,λb xs e=>tups b xs (I.base.tups b xs e),λb o xs e=>frzs b o xs (I.base.frzs b o xs e),λb ps e=>?_⟩,?_,λx c e=>?_,?_,λx c e=>?_,λp hp=>?_,hok,I.len⟩
 ·exact keep b o (neL b o e) hb (neC b o e hx) (I.base.keep b o e n hb hx) (I.base.free b o e n hx)
 ·obtain⟨sl,e1⟩:=I.base.slot b o e n hb hx
  obtain⟨sl',e2⟩:=slot b _ (neL b o e) hb (neC b o e hx) e1 (I.base.free b o e n hx)
  exact⟨sl',e2⟩
 ·obtain⟨o',e1⟩:=I.base.there b o e hx
  exact free b o' (neC b o e hx) e1 (I.base.free b o e n hx)
 ·obtain⟨o',e1⟩:=I.base.there b o e hx
  exact there b o' (neC b o e hx) e1
 ·obtain⟨m1,e1⟩:=I.base.tbls b ps e
  obtain⟨m2,e2⟩:=tbls b _ e1
  exact⟨m1++m2,by rw[e2,Array.append_assoc]⟩
 ·obtain⟨m,hn,hl⟩:=I.loc
  refine⟨m,ns m hn,λi x v e1 e2 e3=>?_⟩
  obtain⟨u,r,l⟩:=hl i x v e1 e2 e3
  refine⟨u,r,?_⟩
  rcases l with l|⟨k,c,e,z⟩
  ·exact .inl l
  ·exact .inr ⟨k,c,e,cellK x c e _ z⟩
 ·obtain⟨v,z⟩:=I.cell x c e
  exact⟨v,cellK x c e v z⟩
 ·obtain⟨m,⟨o,_,_,ho,_⟩,_⟩:=I.loc
  exact free _ o (λz=>(hch _ z).2.1 rfl) ho I.free
 ·obtain⟨v,o,ho,hd⟩:=I.cell x c e
  exact free c o (λz=>(hch c z).2.2.1 x c e rfl) ho (I.freeC x c e)
 ·obtain⟨e,n,ne,nf,d⟩:=I.pin p hp
  have nch:p.1∉ch:=λz=>(hch p.1 z).2.2.2 p hp rfl
  exact⟨keep p.1 p.2 ne nf nch e n,free p.1 p.2 nch e n,ne,nf,d⟩
theorem Inv.un{t':Nat}(I:Inv X pins σ H s)(u:Un X.fs [] H H' s.heap h')(hok:HOk X.prog X.w H' h'):Inv X pins σ H' { s with heap:=h',toks:=t' }:=by
 obtain⟨m,⟨o,es,ep,ho,r⟩,_⟩:=id I.loc
 obtain⟨sl,hL⟩:=u.any ho I.free (by simp)
 exact I.step (g':=s.gens) (d':=s.drawn) (ch:=[]) (λ_ z=>nomatch z) (λb o _ hb _ e n=>u.keep b o e n hb (by simp)) (λb o _ hb _ e n=>u.slot b o e n hb (by simp)) (λb o _ e n=>u.free b o e n (by simp)) (λb o _ e=>u.there b o e (by simp)) u.tups u.frzs u.tbls (λm' hm=>by
  obtain⟨o',es',ep',ho',r'⟩:=hm
  rw[ho]at ho';cases ho'
  exact⟨_,es',ep',hL,r'⟩) hok I.bare
theorem Inv.call{g':Array YbA}{t':Nat}{d':Drawn}{ch:List Addr}(I:Inv X pins σ H s)(u:Un (frs X.stack) ch H H' s.heap h')(hok:HOk X.prog X.w H' h')(hg:Yas g')(hch:∀b∈ch,(b∈X.ex∨X.s₀.heap.objs.size<=b)/\b≠X.env.locals/\(∀x c,X.env.cells.lookup x=some c->c≠b)/\∀p∈X.pn++pins,p.1≠b):
  Inv X pins σ H' { s with heap:=h',gens:=g',drawn:=d',toks:=t' }:=by
 obtain⟨m,⟨o,es,ep,ho,r⟩,_⟩:=id I.loc
 obtain⟨sl,hL⟩:=u.any ho I.free λz=>(hch _ z).2.1 rfl
 exact I.step (ch:=ch) hch (λb o hL hb hc e n=>u.keep b o e n (λz=>(Ym.mp (I.stkSub b z)).elim hL hb) hc) (λb o _ _ hc e n=>u.any e n hc) (λb o hc e n=>u.free b o e n hc) (λb o hc e=>u.there b o e hc) u.tups u.frzs u.tbls (λm' hm=>by
  obtain⟨o',es',ep',ho',r'⟩:=hm
  rw[ho]at ho';cases ho'
  exact⟨_,es',ep',hL,r'⟩) hok hg
theorem Inv.turned{t':Nat}{it:Addr}(I:Inv X pins σ H s)(k:∀b o,b≠it->s.heap.get? b=some o->h'.get? b=some o)(hn:H it=none)(hL:it≠X.env.locals)(h1:it∈X.ex∨X.s₀.heap.objs.size<=it)(h2:∀x c,X.env.cells.lookup x=some c->c≠it)(h3:∀p∈X.pn++pins,p.1≠it):Inv X pins σ H { s with heap:=h',toks:=t' }:=by
 have nit:∀b u,H b=some u->b≠it:=λb u e z=>by rw[z,hn]at e;cases e
 refine I.step (g':=s.gens) (d':=s.drawn) (ch:=[it]) (λb hb=>?_) (λb o _ _ hc e _=>k b o (λz=>hc (by simp[z])) e) (λb o _ _ hc e _=>⟨o.slots,k b o (λz=>hc (by simp[z])) e⟩) (λ_ _ _ _ n=>n)
  (λb o hc e=>⟨o,k b o (λz=>hc (by simp[z])) e⟩) (λ_ _ e=>e) (λ_ _ _ e=>e) (λb ps e=>⟨#[],by rw[e];simp⟩) (λm hm=>?_) (λb u e=>?_) I.bare
 ·have e:b=it:=by simpa using hb
  subst e
  exact⟨h1,hL,h2,h3⟩
 ·obtain⟨o,es,ep,ho,r⟩:=hm
  exact⟨o,es,ep,k _ o (Uo hL) ho,r⟩
 ·refine(I.hok b u e).stay (λc v hc q=>k c v ?_ q) (λ_ q=>q) λ_ _ q=>q
  rcases hc with z|z
  ·rw[z];exact nit b u e
  ·exact nit c _ z
theorem Inv.tok(I:Inv X pins σ H s)(t:Nat):Inv X pins σ H { s with toks:=t }:=I.un (h':=s.heap) (t':=t) Un.refl I.hok
theorem Inv.kept{t':Nat}(I:Inv X pins σ H s)(k:∀b u,s.heap.get? b=some u->h'.get? b=some u):Inv X pins σ H { s with heap:=h',toks:=t' }:=I.un (Un.kept k) (I.hok.kept k)
theorem Inv.laid{a:Addr}{o:HO}{t':Nat}(I:Inv X pins σ H s)(k:∀b u,s.heap.get? b=some u->h'.get? b=some u)(hp:s.heap.objs.size<=a)(new:JQ X.prog X.w (upd H a o) h' a o):
 Inv X pins σ (upd H a o) { s with heap:=h',toks:=t' }:=I.un (Un.laid k hp (I.hok.fresh hp)) (I.hok.laid k hp new)
theorem Inv.write{x e:Addr}{o:HO}{t':Nat}(I:Inv X pins σ H s)(mu:Mut (H x))(he:e=x∨H e=some (.own x))(k:∀b u,b≠e->s.heap.get? b=some u->h'.get? b=some u)(heo:∃u,h'.get? e=some u)(new:JQ X.prog X.w (upd H x o) h' x o):Inv X pins σ (upd H x o) { s with heap:=h',toks:=t' }:=I.un (Un.write mu he k heo) (I.hok.write mu he k heo new)
theorem Inv.pins_of{pins':List (Addr×Obj)}(I:Inv X pins σ H s)(h:∀p∈pins',s.heap.get? p.1=some p.2/\H p.1=none/\p.1≠X.env.locals/\p.1∉X.fs/\∀v,p.2.data≠.cell v):Inv X pins' σ H s:=
 ⟨I.ok,I.os,I.bare,I.base,I.loc,I.cell,I.free,I.freeC,λp hp=>(Y7.mp hp).elim (λz=>I.pin p (Wm _ z)) (h p),I.hok,I.len⟩
theorem ZiE{N:List Str}(hN:N.Nodup){i j:Nat}{x:Str}(a:N[i]?=some x)(b:N[j]?=some x):i=j:=by
 obtain⟨h1,e1⟩:=Yj.mp a
 obtain⟨h2,e2⟩:=Yj.mp b
 exact(List.getElem_inj hN).mp (e1.trans e2.symm)
theorem Zf3{M:Model}{A:Around}{E:Value->Shared->Prop}{i:Nat}{x:Str}{v:V}{u:Value}{Q:Unit->Shared->Prop}(I:Inv X pins σ H s)(hN:X.N.Nodup)(hi:X.N[i]?=some x)(hx:Loc X.env.scope x)(r:RelV v u)(h:∀s',Inv X pins (σ.set i (some v)) H s'->(∃a,GR a s.heap s'.heap/\(a=X.env.locals∨X.env.cells.lookup x=some a))->Q () s')(hf:X.fn x=true∨X.env.scope.names.lookup x=some .local:=by first|exact .inl rfl|exact .inr rfl|assumption):wpAny M A (YbD X.env x u) Q E s:=by
 obtain⟨m,hn,hl⟩:=id I.loc
 have hcls:(X.env.scope.kind==.class || (X.env.scope.kind==.module&&X.env.locals != X.env.globals))=false:=by rw[I.ok.kind];rfl
 have hiσ:i<σ.length:=by rw[I.len];exact(Yj.mp hi).1
 have cne:=I.cne
 have tracked:∀{a:Addr}{h':Heap},(∃o,s.heap.get? a=some o/\H a=none)->GR a s.heap h'->HOk X.prog X.w H h':=λ{a h'} ha hs b ob e=>by
  obtain⟨_,_,hfree⟩:=ha
  refine(I.hok b ob e).stay (λc w' hc q=>(hs.2 c ?_).trans q) (λ_ q=>q) λ_ _ q=>q
  rintro rfl
  rcases hc with rfl|hc
  ·rw[hfree]at e;cases e
  ·rw[hfree]at hc;cases hc
 rcases hx with hk|hk
 ·refine wpAny_storeName_local hk hn (λh' hn' hs=>?_) hcls
  obtain⟨oL,_,_,hoL,_⟩:=id hn
  refine h _ ⟨I.ok,I.os,I.bare,⟨λb o e n hb hx=>?_,λb o e n hb hx=>?_,I.base.free,λb o e hx=>?_,I.base.tups,I.base.frzs,I.base.tbls⟩,⟨_,hn',λj y v' e1 e2 e3=>?_⟩,λy c e=>?_,I.free,I.freeC,λp hp=>?_,tracked ⟨oL,hoL,I.free⟩ hs,by simpa using I.len⟩ ⟨_,hs,.inl rfl⟩
  ·exact(hs.2 b (YZ (YD (Yx e) I.ok.above))).trans (I.base.keep b o e n hb hx)
  ·obtain⟨sl,e1⟩:=I.base.slot b o e n hb hx
   exact⟨sl,(hs.2 b (YZ (YD (Yx e) I.ok.above))).trans e1⟩
  ·obtain⟨o',e1⟩:=I.base.there b o e hx
   exact⟨o',(hs.2 b (YZ (YD (Yx e) I.ok.above))).trans e1⟩
  ·by_cases hj:j=i
   ·subst hj
    rw[hi]at e1;cases e1
    rw[YT hiσ]at e2
    cases e2
    exact⟨u,r,.inl ⟨hk,by simp⟩⟩
   ·rw[YF (Uo hj)]at e2
    obtain⟨u',r',q⟩:=hl j y v' e1 e2 e3
    refine⟨u',r',?_⟩
    rcases q with⟨k,e⟩|⟨k,c,e,z⟩
    ·refine .inl ⟨k,?_⟩
     have:y≠x:=λe=>hj (ZiE hN e1 (e▸hi))
     simp[this,e]
    ·exact .inr ⟨k,c,e,z.sameBut hs (cne y c e)⟩
  ·obtain⟨w',z⟩:=I.cell y c e
   exact⟨w',z.sameBut hs (cne y c e)⟩
  ·obtain⟨e,n,ne,nf,d⟩:=I.pin p hp
   exact⟨(hs.2 p.1 ne).trans e,n,ne,nf,d⟩
 ·have hfn:X.fn x=true:=by
   rcases hf with z|z
   ·exact z
   ·rw[z]at hk;cases hk
  obtain⟨c,hc⟩:=I.ok.has x (.inl hk)
  obtain⟨w',z⟩:=I.cell x c hc
  refine wpAny_storeName_cell I.ok.kind hk hc z (λh' hc' hs=>?_)
  obtain⟨oc,hoc,hocd⟩:=id z
  refine h { s with heap:=h' } ⟨I.ok,I.os,I.bare,⟨λb o e n hb hx=>?_,λb o e n hb hx=>?_,I.base.free,λb o e hx=>?_,I.base.tups,I.base.frzs,I.base.tbls⟩,⟨m,hn.sameBut hs (Uo (cne x c hc)),λj y v' e1 e2 e3=>?_⟩,λy c' e=>?_,I.free,I.freeC,λp hp=>?_,tracked ⟨oc,hoc,I.freeC x c hc⟩ hs,by simpa using I.len⟩ ⟨c,hs,.inr hc⟩
  ·exact(hs.2 b (YZ (YD (Yx e) (I.ok.cab x c hfn hc)))).trans (I.base.keep b o e n hb hx)
  ·obtain⟨sl,e1⟩:=I.base.slot b o e n hb hx
   exact⟨sl,(hs.2 b (YZ (YD (Yx e) (I.ok.cab x c hfn hc)))).trans e1⟩
  ·obtain⟨o',e1⟩:=I.base.there b o e hx
   exact⟨o',(hs.2 b (YZ (YD (Yx e) (I.ok.cab x c hfn hc)))).trans e1⟩
  ·by_cases hj:j=i
   ·subst hj
    rw[hi]at e1;cases e1
    rw[YT hiσ]at e2
    cases e2
    exact⟨u,r,.inr ⟨.inl hk,c,hc,hc'⟩⟩
   ·rw[YF (Uo hj)]at e2
    obtain⟨u',r',q⟩:=hl j y v' e1 e2 e3
    refine⟨u',r',?_⟩
    rcases q with q|⟨k,c',e,z'⟩
    ·exact .inl q
    ·refine .inr ⟨k,c',e,z'.sameBut hs ?_⟩
     rintro rfl
     exact hj (ZiE hN e1 (I.ok.inj _ _ _ e hc▸hi))
  ·by_cases hcc:c'=c
   ·subst hcc;exact⟨_,hc'⟩
   ·obtain⟨w2,z2⟩:=I.cell y c' e
    exact⟨w2,z2.sameBut hs hcc⟩
  ·obtain⟨e,n,ne,nf,d⟩:=I.pin p hp
   refine⟨(hs.2 p.1 ?_).trans e,n,ne,nf,d⟩
   intro q
   rw[q,hoc]at e
   have q':oc=p.2:=YS e
   exact d w' (by rw[<-q'];exact hocd)
theorem ZeW{M:Model}{A:Around}{E:Value->Shared->Prop}{i:Nat}{x:Str}{v:V}{u:Value}{Q:Unit->Shared->Prop}(I:Inv X pins σ H s)(hN:X.N.Nodup)(hi:X.N[i]?=some x)(hx:Loc X.env.scope x)(r:RelV v u)(h:∀s',Inv X pins (σ.set i (some v)) H s'->Q () s')(hf:X.fn x=true∨X.env.scope.names.lookup x=some .local:=by first|exact .inl rfl|exact .inr rfl|assumption):wpAny M A (YbD X.env x u) Q E s:=
 Zf3 I hN hi hx r (λs' I' _=>h s' I') hf
theorem Inv.call'{s':Shared}{ch:List Addr}(I:Inv X pins σ H s)(ho:s'.os=s.os)(u:Un (frs X.stack) ch H H' s.heap s'.heap)(hok:HOk X.prog X.w H' s'.heap)(hg:Yas s'.gens)(hch:∀b∈ch,(b∈X.ex∨X.s₀.heap.objs.size<=b)/\b≠X.env.locals/\(∀x c,X.env.cells.lookup x=some c->c≠b)/\∀p∈X.pn++pins,p.1≠b):Inv X pins σ H' s':=by
 obtain⟨h',g',d',t',o'⟩:=s'
 have e:o'=s.os:=ho
 subst e
 exact I.call (g':=g') (t':=t') (d':=d') u hok hg hch
end
noncomputable abbrev XK:=Value->Option Addr->Hp->Prop
noncomputable abbrev St:=List (Option V)
noncomputable abbrev VK:=V->Hp->Prop
noncomputable abbrev TE:=St->Hp->VK->Prop
noncomputable abbrev TT:=St->Hp->(Bool->Hp->Prop)->Prop
noncomputable abbrev TA:=St->Hp->(List V->Hp->Prop)->Prop
structure Ends where
 nx:St->Hp->Prop
 rt:VK
 bk:St->Hp->Prop:=λ_ _=>False
 ct:St->Hp->Prop:=λ_ _=>False
noncomputable abbrev TS:=Ends->St->Hp->Prop
noncomputable def EP(X:Cx)(pins:List (Addr×Obj))(σ:St)(Q:VK)(u:Value)(s':Shared):Prop:=∃v H',Inv X pins σ H' s'/\RelV v u/\Q v H'
noncomputable def TP(X:Cx)(pins:List (Addr×Obj))(σ:St)(Q:Bool->Hp->Prop)(b:Bool)(s':Shared):Prop:=∃H',Inv X pins σ H' s'/\Q b H'
noncomputable def AP(X:Cx)(pins:List (Addr×Obj))(σ:St)(Q:List V->Hp->Prop)(us:List Value)(s':Shared):Prop:=∃vs H',Inv X pins σ H' s'/\Vals vs us/\Q vs H'
noncomputable def SP(X:Cx)(pins:List (Addr×Obj))(D:Ends)(f:Flow)(s':Shared):Prop:=
 match f with
 |.next=>∃σ' H',Inv X pins σ' H' s'/\D.nx σ' H'
 |.brk=>∃σ' H',Inv X pins σ' H' s'/\D.bk σ' H'
 |.cont=>∃σ' H',Inv X pins σ' H' s'/\D.ct σ' H'
 |.ret u=>∃v σ' H',Inv X pins σ' H' s'/\RelV v u/\D.rt v H'
noncomputable def PE(X:Cx)(e:Expr)(t:TE):Prop:=
 ∀(pins:List (Addr×Obj)) (s:Shared) (σ:St) (H:Hp) (Q:VK),Inv X pins σ H s->t σ H Q->wpAny (model X.prog X.w) X.A (eval e X.env) (EP X pins σ Q) X.xe s
noncomputable def PT(X:Cx)(e:Expr)(t:TT):Prop:=
 ∀(pins:List (Addr×Obj)) (s:Shared) (σ:St) (H:Hp) (Q:Bool->Hp->Prop),Inv X pins σ H s->t σ H Q->wpAny (model X.prog X.w) X.A (isTrue e X.env (eval e X.env)) (TP X pins σ Q) X.xe s
noncomputable def PW(X:Cx)(e:Expr)(t:TT):Prop:=
 ∀(whole:Sem Value) (pins:List (Addr×Obj)) (s:Shared) (σ:St) (H:Hp) (Q:Bool->Hp->Prop),Inv X pins σ H s->t σ H Q->wpAny (model X.prog X.w) X.A (isTrue e X.env whole) (TP X pins σ Q) X.xe s
theorem PW.pt{X:Cx}{e:Expr}{t:TT}(h:PW X e t):PT X e t:=h _
noncomputable def PA(X:Cx)(es:List Expr)(t:TA):Prop:=
 ∀(pos:Pos) (pins:List (Addr×Obj)) (s:Shared) (σ:St) (H:Hp) (Q:List V->Hp->Prop),Inv X pins σ H s->t σ H Q->wpAny (model X.prog X.w) X.A (spliced (backTo pos (Ww es X.env))) (AP X pins σ Q) X.xe s
noncomputable def PS(X:Cx)(st:Stmt)(t:TS):Prop:=
 ∀(pins:List (Addr×Obj)) (s:Shared) (σ:St) (H:Hp) (D:Ends),Inv X pins σ H s->t D σ H->wpAny (model X.prog X.w) X.A (exec st X.env) (SP X pins D) X.xe s
noncomputable def PSs(X:Cx)(st:List Stmt)(t:TS):Prop:=
 ∀(pins:List (Addr×Obj)) (s:Shared) (σ:St) (H:Hp) (D:Ends),Inv X pins σ H s->t D σ H->wpAny (model X.prog X.w) X.A (execs st X.env) (SP X pins D) X.xe s
theorem thn{α:Type}{t:Sem α}{Q Q':α->Shared->Prop}{M:Model}{A:Around}{E:Value->Shared->Prop}{s:Shared}(h:wpAny M A t Q E s)(hQ:∀a s,Q a s->Q' a s):wpAny M A t Q' E s:=Ul h hQ λ_ _ x=>x
section
variable{X:Cx}
theorem bin{a b:Expr}{ta tb:TE}(ha:PE X a ta)(hb:PE X b tb){pins:List (Addr×Obj)}{s:Shared}{σ:St}{H:Hp}{R:V->V->Hp->Prop}(I:Inv X pins σ H s)(h:ta σ H λx H1=>tb σ H1 λy H2=>R x y H2){α:Type}{Q:α->Shared->Prop}{f:Value->Value->Sem α}(hf:∀v u s2 x y H2,Inv X pins σ H2 s2->RelV x v->RelV y u->R x y H2->wpAny (model X.prog X.w) X.A (f v u) Q X.xe s2):
  wpAny (model X.prog X.w) X.A (eval a X.env) (λv s₁=>wpAny (model X.prog X.w) X.A (eval b X.env) (λu s₂=>wpAny (model X.prog X.w) X.A (f v u) Q X.xe s₂) X.xe s₁) X.xe s:=by
 refine thn (ha pins s σ H _ I h) λv s1 ⟨x,H1,I1,r1,q1⟩=>?_
 refine thn (hb pins s1 σ H1 _ I1 q1) λu s2 ⟨y,H2,I2,r2,q2⟩=>?_
 exact hf v u s2 x y H2 I2 r1 r2 q2
noncomputable def tVar(i:Nat):TE:=λσ H Q=>∃v,σ[i]?=some (some v)/\Q v H
noncomputable def tC(v:V):TE:=λ_ H Q=>Q v H
theorem pe_var{i:Nat}{x:Str}{pos:Pos}(hN:X.N[i]?=some x)(hv:Vis X.env.scope x)(hd:(x==("__debug__" : Str))=false:=by decide)(hcd:(x==("__classdict__" : Str))=false:=by decide):PE X (.Name x pos) (tVar i):=by
 intro pins s σ H Q I h
 obtain⟨v,e,h⟩:=h
 obtain⟨m,hn,hl⟩:=I.loc
 obtain⟨u,r,l⟩:=hl i x v hN e hv
 have fin:EP X pins σ Q u s:=⟨v,H,I,r,h⟩
 rcases l with⟨hk,hm⟩|⟨hk,c,hc,hcell⟩
 ·exact Ybu (wpAny_loadName_local I.ok.kind hk hn hm fin) hd
 ·rcases hk with hk|hk
  ·exact Ybu (wpAny_loadName_cell I.ok.kind hk hc hcell fin) hd
  ·exact Ybu (wpAny_loadName_free I.ok.kind hk hc hcell fin hcd) hd
theorem ZoH{i j pos}:PE X (.Constant (.int i) j pos) (tC (.int i)):=λ_ _ _ H _ I h=>wpAny_Constant_int ⟨.int i,H,I.tok _,⟨_,rfl⟩,h⟩
theorem pe_bl{b j pos}:PE X (.Constant (.bool b) j pos) (tC (.bl b)):=λ_ _ _ H _ I h=>Constant_bool ⟨.bl b,H,I,rfl,h⟩
theorem pe_non{j pos}:PE X (.Constant .none j pos) (tC .non):=λ_ _ _ H _ I h=>Constant_none ⟨.non,H,I,rfl,h⟩
theorem pe_str{x j pos}:PE X (.Constant (.str x) j pos) (tC (.str x)):=λ_ _ _ H _ I h=>Calls.Constant_str ⟨.str x,H,I.tok _,⟨_,rfl⟩,h⟩
noncomputable def Gl(X:Cx)(x:Str):Prop:=X.env.kindOf x=some .globalImplicit
theorem Zfw{E:Value->Shared->Prop}{pins:List (Addr×Obj)}{s:Shared}{σ:St}{H:Hp}{x:Str}{u:Value}{pos:Pos}{Q:Value->Shared->Prop}(I:Inv X pins σ H s)(hg:Gl X x)(hm:X.mg x=some u)(h:Q u s)(hd:(x==("__debug__" : Str))=false:=by decide):wpAny (model X.prog X.w) X.A (eval (.Name x pos) X.env) Q E s:=
 Calls.Name_function_global I.ok.kind hg (Calls.loadGlobal_global (by rw[I.ok.glob];exact I.mod.glob.keeps I.bk) hm h) hd
theorem Zdx{E:Value->Shared->Prop}{pins:List (Addr×Obj)}{s:Shared}{σ:St}{H:Hp}{x:Str}{u:Value}{pos:Pos}{Q:Value->Shared->Prop}(I:Inv X pins σ H s)(hg:Gl X x)(hm:X.mg x=none)(hv:Ui x=some u)(h:Q u s)(hn:x≠"__name__":=by decide)(hd:(x==("__debug__" : Str))=false:=by decide):wpAny (model X.prog X.w) X.A (eval (.Name x pos) X.env) Q E s:=by
 obtain⟨mb,h1,h2⟩:=I.mod.blt
 exact Calls.Name_function_global I.ok.kind hg (Calls.loadGlobal_builtin (by rw[I.ok.glob];exact I.mod.glob.keeps I.bk) hm (by rw[I.ok.blt];exact h1.keeps I.bk) ((h2 x hn).trans hv) h) hd
theorem ZpG{x:Str}{v:V}{u:Value}{pos:Pos}(hg:Gl X x)(hm:X.mg x=some u)(r:RelV v u)(hd:(x==("__debug__" : Str))=false:=by decide):PE X (.Name x pos) (tC v):=
 λ_ _ _ H _ I h=>Zfw I hg hm ⟨v,H,I,r,h⟩ hd
theorem ZpN{x:Str}{v:V}{u:Value}{pos:Pos}(hg:Gl X x)(hm:X.mg x=none)(hv:Ui x=some u)(r:RelV v u)(hn:x≠"__name__":=by decide)(hd:(x==("__debug__" : Str))=false:=by decide):PE X (.Name x pos) (tC v):=
 λ_ _ _ H _ I h=>Zdx I hg hm hv ⟨v,H,I,r,h⟩ hn hd
variable{a b:Expr}{ta tb:TE}{pos:Pos}
noncomputable def PC(X:Cx)(op:CmpOp)(a b:Expr)(t:TE):Prop:=
 ∀(pins:List (Addr×Obj)) (s:Shared) (σ:St) (H:Hp) (Q:VK),Inv X pins σ H s->t σ H Q ->
  wpAny (model X.prog X.w) X.A (eval a X.env) (λv s₁=>wpAny (model X.prog X.w) X.A (eval b X.env) (λu s₂=>wpAny (model X.prog X.w) X.A (Y6 op v u) (EP X pins σ Q) X.xe s₂) X.xe s₁) X.xe s
theorem ZnT(b:Expr){op:CmpOp}(h:op≠.In)(h2:op≠.NotIn):Gb op b=false:=by
 have e1:(op==CmpOp.In)=false:=by cases op<;>first|rfl|exact absurd rfl h
 have e2:(op==CmpOp.NotIn)=false:=by cases op<;>first|rfl|exact absurd rfl h2
 cases b<;>simp[Gb,e1,e2]
noncomputable def tB(t:TE):TT:=λσ H Q=>t σ H λx H1=>∃c,x=.bl c/\Q c H1
theorem pt_cmp{op:CmpOp}{t:TE}(h:PC X op a b t)(h1:Gb op b=false:=by first|exact ZnT _ (by decide) (by decide)|rfl):PT X (.Compare a [op] [b] pos) (tB t):=by
 intro pins s σ H Q I hw
 refine wpAny_isTrue_Compare1 (thn (h pins s σ H _ I hw) λv s1 h1=>thn h1 λu s2 h2=>thn h2 λc s3 ⟨x,H1,I1,r1,q1⟩=>?_) h1
 obtain⟨d,rfl,q⟩:=q1
 cases r1
 exact Wi ⟨H1,I1,q⟩
variable{tA tB':TT}{rest:List Expr}
noncomputable def tAnd(t u:TT):TT:=λσ H Q=>t σ H λc H1=>if c=true then u σ H1 Q else Q false H1
noncomputable def tOr(t u:TT):TT:=λσ H Q=>t σ H λc H1=>if c=true then Q true H1 else u σ H1 Q
noncomputable def tNot(t:TT):TT:=λσ H Q=>t σ H λc H1=>Q (!c) H1
theorem Zk3(ha:PT X a tA):PW X (.BoolOp .And [a] pos) tA:=by
 intro wh pins s σ H Q I h
 refine isTrue_and (thn (ha pins s σ H Q I h) λc s1 e=>?_)
 cases c with
 |true=>exact isTrue_and_nil e
 |false=>exact e
theorem pw_or1(ha:PT X a tA):PW X (.BoolOp .Or [a] pos) tA:=by
 intro wh pins s σ H Q I h
 refine isTrue_or (thn (ha pins s σ H Q I h) λc s1 e=>?_)
 cases c with
 |false=>exact isTrue_or_nil e
 |true=>exact e
theorem pw_and(ha:PT X a tA)(hb:PW X (.BoolOp .And (b::rest) pos) tB'):PW X (.BoolOp .And (a::b::rest) pos) (tAnd tA tB'):=by
 intro wh pins s σ H Q I h
 refine isTrue_and (thn (ha pins s σ H _ I h) λc s1 ⟨H1,I1,q1⟩=>?_)
 cases c with
 |true=>exact hb wh pins s1 σ H1 Q I1 q1
 |false=>exact⟨H1,I1,q1⟩
theorem pw_or(ha:PT X a tA)(hb:PW X (.BoolOp .Or (b::rest) pos) tB'):PW X (.BoolOp .Or (a::b::rest) pos) (tOr tA tB'):=by
 intro wh pins s σ H Q I h
 refine isTrue_or (thn (ha pins s σ H _ I h) λc s1 ⟨H1,I1,q1⟩=>?_)
 cases c with
 |true=>exact⟨H1,I1,q1⟩
 |false=>exact hb wh pins s1 σ H1 Q I1 q1
theorem pt_not(ha:PT X a tA):PT X (.UnaryOp .Not a pos) (tNot tA):=by
 intro pins s σ H Q I h
 exact isTrue_not (ha pins s σ H (λc H1=>Q (!c) H1) I h)
noncomputable def tAndV(ta tb:TE):TE:=λσ H Q=>ta σ H λx H1=>∃c,x=.bl c/\if c=true then tb σ H1 Q else Q (.bl false) H1
noncomputable def tOrV(ta tb:TE):TE:=λσ H Q=>ta σ H λx H1=>∃c,x=.bl c/\if c=true then Q (.bl true) H1 else tb σ H1 Q
noncomputable def tNotV(ta:TE):TE:=λσ H Q=>ta σ H λx H1=>∃c,x=.bl c/\Q (.bl (!c)) H1
theorem ZoG{op}{t:TE}(h:PE X a t):PE X (.BoolOp op [a] pos) t:=λpins s σ H Q I hw=>BoolOp_one (h pins s σ H Q I hw)
theorem pe_and(ha:PE X a ta)(hb:PE X (.BoolOp .And (b::rest) pos) tb):PE X (.BoolOp .And (a::b::rest) pos) (tAndV ta tb):=by
 intro pins s σ H Q I h
 refine BoolOp_and (thn (ha pins s σ H _ I h) λv s1 ⟨x,H1,I1,r1,q1⟩=>?_)
 obtain⟨c,rfl,q1⟩:=q1
 cases r1
 refine Wi ?_
 cases c with
 |true=>exact hb pins s1 σ H1 Q I1 q1
 |false=>exact⟨.bl false,H1,I1,rfl,q1⟩
theorem pe_or(ha:PE X a ta)(hb:PE X (.BoolOp .Or (b::rest) pos) tb):PE X (.BoolOp .Or (a::b::rest) pos) (tOrV ta tb):=by
 intro pins s σ H Q I h
 refine BoolOp_or (thn (ha pins s σ H _ I h) λv s1 ⟨x,H1,I1,r1,q1⟩=>?_)
 obtain⟨c,rfl,q1⟩:=q1
 cases r1
 refine Wi ?_
 cases c with
 |false=>exact hb pins s1 σ H1 Q I1 q1
 |true=>exact⟨.bl true,H1,I1,rfl,q1⟩
theorem pe_not(ha:PE X a ta):PE X (.UnaryOp .Not a pos) (tNotV ta):=by
 intro pins s σ H Q I h
 refine UnaryOp_ (thn (ha pins s σ H _ I h) λv s1 ⟨x,H1,I1,r1,q1⟩=>?_)
 obtain⟨c,rfl,q1⟩:=q1
 cases r1
 exact not_of (Wi ⟨.bl (!c),H1,I1,rfl,q1⟩)
end
noncomputable def SqL(K:Frag)(H:Hp)(a:Addr)(xs:List V):Prop:=
 Rd H a (.lst xs) ∨
  ∃(o:Obj) (its:Array Value) (n:Nat),K.lookup a=some o/\o.cls=.type "list"/\o.dict=none/\o.data=.seq its n/\its.size<=YJ/\Vals xs its.toList
noncomputable def SqT(K:Frag)(H:Hp)(a:Addr)(xs:List V):Prop:=
 Rd H a (.tup xs) ∨
  ∃(o:Obj) (its:Array Value) (n:Nat),K.lookup a=some o/\o.cls=.type "tuple"/\o.data=.seq its n/\its.size<=YJ/\Vals xs its.toList/\o.dict=none
noncomputable def absV:Value->Option V
 |.none=>some .non
 |.bool b=>some (.bl b)
 |.int i _=>some (.int i)
 |.str x _=>some (.str x)
 |.bytes b _=>some (.byt b)
 |.float b _=>some (.flt b)
 |.ref a=>some (.ref a)
 |.type n=>some (.ty n)
 |_=>none
theorem RelV.abs{x:V}{u:Value}(r:RelV x u):absV u=some x:=by
 cases x with
 |non=>cases r;rfl
 |bl _=>cases r;rfl
 |int _=>obtain⟨t,rfl⟩:=r;rfl
 |str _=>obtain⟨t,rfl⟩:=r;rfl
 |byt _=>obtain⟨t,rfl⟩:=r;rfl
 |flt _=>obtain⟨t,rfl⟩:=r;rfl
 |ref _=>cases r;rfl
 |ty _=>cases r;rfl
theorem RelV.inj{x y:V}{u:Value}(r:RelV x u)(q:RelV y u):x=y:=YS (r.abs.symm.trans q.abs)
theorem Vals.inj:∀{xs ys:List V}{us:List Value},Vals xs us->Vals ys us->xs=ys
 |_,_,_,.nil,.nil=>rfl
 |_,_,_,.cons r t,.cons r' t'=>by rw[r.inj r',Vals.inj t t']
section
variable{X:Cx}{pins:List (Addr×Obj)}{σ:St}{H:Hp}{s:Shared}{a:Addr}{xs ys:List V}
theorem SqL.of{K:Frag}(h:H a=some (.lst xs)):SqL K H a xs:=.inl (.inl h)
theorem SqT.of{K:Frag}(h:H a=some (.tup xs)):SqT K H a xs:=.inl (.inl h)
theorem Inv.list(I:Inv X pins σ H s)(h:SqL X.K H a xs):∃its:List Value,Vals xs its/\PlainL s.heap a its.toArray/\xs.length<=YJ:=by
 rcases h with h|⟨o,its,n,hk,hc,hd,hs,hz,r⟩
 ·obtain⟨z,its,n,r,e⟩:=h.ok I.hok
  exact⟨its,r,⟨_,n,e,rfl,rfl,rfl⟩,z⟩
 ·refine⟨its.toList,r,⟨o,n,I.kIn a o hk,hc,hd,by simpa using hs⟩,?_⟩
  have e:=r.length
  simp only[Y8]at e
  omega
theorem Inv.tuple(I:Inv X pins σ H s)(h:SqT X.K H a xs):∃its:List Value,Vals xs its/\IsTup s.heap a its.toArray/\xs.length<=YJ:=by
 rcases h with h|⟨o,its,n,hk,hc,hs,hz,r,hdn⟩
 ·obtain⟨z,its,r,p⟩:=h.ok I.hok
  exact⟨its,r,p.is,z⟩
 ·refine⟨its.toList,r,⟨o,I.kIn a o hk,hc,n,by simpa using hs⟩,?_⟩
  have e:=r.length
  simp only[Y8]at e
  omega
theorem Inv.list_inj(I:Inv X pins σ H s)(h:SqL X.K H a xs)(h':SqL X.K H a ys):xs=ys:=by
 obtain⟨its,r,⟨o,n,e,_,_,d⟩,_⟩:=I.list h
 obtain⟨its',r',⟨o',n',e',_,_,d'⟩,_⟩:=I.list h'
 rw[e]at e';cases e'
 rw[d]at d'
 injection d' with d1 _
 have:its=its':=by simpa using congrArg Array.toList d1
 subst this
 exact r.inj r'
theorem Inv.tuple_inj(I:Inv X pins σ H s)(h:SqT X.K H a xs)(h':SqT X.K H a ys):xs=ys:=by
 obtain⟨its,r,⟨o,e,_,n,d⟩,_⟩:=I.tuple h
 obtain⟨its',r',⟨o',e',_,n',d'⟩,_⟩:=I.tuple h'
 rw[e]at e';cases e'
 rw[d]at d'
 injection d' with d1 _
 have:its=its':=by simpa using congrArg Array.toList d1
 subst this
 exact r.inj r'
end
noncomputable abbrev Cx.wish(X:Cx)(E:Value->Shared->Prop):Cx:={ X with xe:=E }
noncomputable abbrev Cx.nox(X:Cx):Cx:=X.wish λ_ _=>False
section
variable{X:Cx}{st:Stmt}{rest:List Stmt}{t u:TS}{e:Expr}{te:TE}{pos:Pos}
noncomputable def tNext:TS:=λD σ H=>D.nx σ H
noncomputable def tSeq(t u:TS):TS:=λD σ H=>t { D with nx:=u D } σ H
theorem Zpm:PSs X [] tNext:=λ_ _ σ H _ I h=>VM ⟨σ,H,I,h⟩
theorem QR(h1:PS X st t)(h2:PSs X rest u):PSs X (st::rest) (tSeq t u):=by
 intro pins s σ H D I h
 refine wpAny_execs_cons (thn (h1 pins s σ H { D with nx:=u D } I h) λf s1 q=>?_)
 cases f with
 |next =>
  obtain⟨σ',H',I',q⟩:=q
  exact h2 pins s1 σ' H' D I' q
 |ret v=>exact q
 |brk=>exact q
 |cont=>exact q
theorem Inv.quiet{pins:List (Addr×Obj)}{σ:St}{H:Hp}{s:Shared}(I:Inv X pins σ H s):interactive X.env=false:=by simp[interactive,I.ok.kind]
noncomputable def tDrop(te:TE):TS:=λD σ H=>te σ H λ_ H1=>D.nx σ H1
theorem Zpp(he:PE X e te)(hs:Yaj e none pos.line X.env=pure false:=by rfl):PS X (.Expr e pos) (tDrop te):=by
 intro pins s σ H D I h
 exact wpAny_Expr_any (thn (he pins s σ H _ I h) λv s1 ⟨x,H1,I1,r1,q1⟩=>⟨σ,H1,I1,q1⟩) I.quiet hs
noncomputable def tRet(te:TE):TS:=λD σ H=>te σ H D.rt
theorem ps_ret(he:PE X e te):PS X (.Return (some e) pos) (tRet te):=by
 intro pins s σ H D I h
 exact wpAny_Return_some (thn (he pins s σ H _ I h) λv s1 ⟨x,H1,I1,r1,q1⟩=>⟨x,σ,H1,I1,r1,q1⟩)
noncomputable def tIfS(c:TT)(t u:TS):TS:=λD σ H=>c σ H λb H1=>if b=true then t D σ H1 else u D σ H1
theorem ps_if{c:Expr}{a b:List Stmt}{tc:TT}(hc:PT X c tc)(ha:PSs X a t)(hb:PSs X b u):PS X (.If c a b pos) (tIfS tc t u):=by
 intro pins s σ H D I h
 refine wpAny_If (thn (hc pins s σ H _ I h) λd s1 ⟨H1,I1,q1⟩=>?_)
 cases d with
 |true=>exact ha pins s1 σ H1 D I1 q1
 |false=>exact hb pins s1 σ H1 D I1 q1
noncomputable def tNever:TS:=λ_ _ _=>False
theorem Zk6{sts:List Stmt}:PSs X sts tNever:=λ_ _ _ _ _ _ h=>h.elim
end
noncomputable abbrev TG:=V->St->Hp->(St->Hp->Prop)->Prop
noncomputable abbrev TGs:=List V->St->Hp->(St->Hp->Prop)->Prop
noncomputable def PG(X:Cx)(target:Expr)(t:TG):Prop:=
 ∀(pins:List (Addr×Obj)) (s:Shared) (σ:St) (H:Hp) (v:V) (u:Value) (Q:St->Hp->Prop),Inv X pins σ H s->RelV v u->t v σ H Q ->
  wpAny (model X.prog X.w) X.A (assign target X.env u) (λ_ s'=>∃σ' H',Inv X pins σ' H' s'/\Q σ' H') X.xe s
noncomputable def PGs(X:Cx)(ts:List Expr)(t:TGs):Prop:=
 ∀(pins:List (Addr×Obj)) (s:Shared) (σ:St) (H:Hp) (vs:List V) (us:List Value) (Q:St->Hp->Prop),Inv X pins σ H s->Vals vs us->t vs σ H Q ->
  wpAny (model X.prog X.w) X.A (assignInOrder ((Ys ts X.env).map (·.2)) us) (λ_ s'=>∃σ' H',Inv X pins σ' H' s'/\Q σ' H') X.xe s
noncomputable abbrev TSet:=V->V->V->Hp->(Hp->Prop)->Prop
noncomputable def PSet(X:Cx)(t:TSet):Prop:=
 ∀(pins:List (Addr×Obj)) (s:Shared) (σ:St) (H:Hp) (o i v:V) (ov iv u:Value) (Q:Hp->Prop),Inv X pins σ H s->RelV o ov->RelV i iv->RelV v u->t o i v H Q ->
  wpAny (model X.prog X.w) X.A (setItem ov iv u) (λ_ s'=>∃H',Inv X pins σ H' s'/\Q H') X.xe s
noncomputable abbrev TIp:=V->V->Hp->VK->Prop
noncomputable def PIp(X:Cx)(op:GK)(t:TIp):Prop:=
 ∀(pins:List (Addr×Obj)) (s:Shared) (σ:St) (H:Hp) (x y:V) (v u:Value) (Q:VK),Inv X pins σ H s->RelV x v->RelV y u->t x y H Q ->
  wpAny (model X.prog X.w) X.A (inplaceOp op v u) (EP X pins σ Q) X.xe s
section
variable{X:Cx}{pos:Pos}
noncomputable def Zql(i:Nat):TG:=λv σ H Q=>Q (σ.set i (some v)) H
theorem Z2{i:Nat}{x:Str}(hN:X.N.Nodup)(hi:X.N[i]?=some x)(hx:Loc X.env.scope x)(hf:X.fn x=true∨X.env.scope.names.lookup x=some .local:=by first|exact .inl rfl|exact .inr rfl|assumption):PG X (.Name x pos) (Zql i):=by
 intro pins s σ H v u Q I r h
 exact wpAny_assign_Name (ZeW I hN hi hx r (λs' I'=>⟨_,H,I',h⟩) hf)
noncomputable def gNil:TGs:=λvs σ H Q=>vs=[]/\Q σ H
noncomputable def gCons(t:TG)(u:TGs):TGs:=λvs σ H Q=>∃v r,vs=v::r/\t v σ H λσ' H'=>u r σ' H' Q
theorem Zdm:PGs X [] gNil:=by
 intro pins s σ H vs us Q I r h
 obtain⟨e,h⟩:=h
 subst e
 cases r
 exact assignInOrder_nil ⟨σ,H,I,h⟩
theorem ZV{e:Expr}{es:List Expr}{t:TG}{u:TGs}(h1:PG X e t)(h2:PGs X es u)(hs:(Ys (e::es) X.env).map (·.2)=assign e X.env::(Ys es X.env).map (·.2):=by rfl):PGs X (e::es) (gCons t u):=by
 intro pins s σ H vs us Q I r h
 obtain⟨v,vr,e1,h⟩:=h
 subst e1
 cases r with
 |cons r rr =>
  rw[hs]
  refine assignInOrder_cons (thn (h1 pins s σ H _ _ _ I r h) λ_ s1 ⟨σ1,H1,I1,q1⟩=>?_)
  exact h2 pins s1 σ1 H1 _ _ Q I1 rr q1
noncomputable def gTup(K:Frag)(n:Nat)(t:TGs):TG:=λv σ H Q=>∃a xs,v=.ref a/\SqT K H a xs/\xs.length=n/\t xs σ H Q
theorem Ziz{es:List Expr}{k:Nat}{t:TGs}{n:Nat}(hc:X.calm=true)(h:PGs X es t)(hn:(Ys es X.env).length=n:=by rfl)(hst:(Ys es X.env).findIdx? (·.1)=none:=by rfl):PG X (.Tuple es k pos) (gTup X.K n t):=by
 intro pins s σ H v u Q I r hw
 obtain⟨a,xs,e1,hq,hl,hw⟩:=hw
 subst e1
 cases r
 obtain⟨its,rv,ht,hz⟩:=I.tuple hq
 refine assign_Tuple_tuple (I.ok.hd hc) ht (by simp[hn,<-hl,rv.length]) hst λh' hx=>?_
 have I1:Inv X pins σ H { s with heap:=h' }:=I.kept (t':=s.toks) λb o e=>hx b o (YZ (Yx e)) e
 exact h pins _ σ H xs _ Q I1 (by simpa using rv) hw
noncomputable def gSub(to ti:TE)(t:TSet):TG:=λv σ H Q=>to σ H λo H1=>ti σ H1 λi H2=>t o i v H2 λH3=>Q σ H3
theorem pg_sub{o i:Expr}{to ti:TE}{t:TSet}(ho:PE X o to)(hi:PE X i ti)(hs:PSet X t)(ha:∀v,assign (.Subscript o i pos) X.env v=(do
  let ov <-YaM [v] (eval o X.env)
  let iv <-YaM [v,ov] (eval i X.env)
  VN pos
  YaM [v,ov,iv] (setItem ov iv v)
  release [v,ov,iv] []):=by intro _;rfl):PG X (.Subscript o i pos) (gSub to ti t):=by
 intro pins s σ H v u Q I r h
 rw[ha]
 refine Yb (WN (thn (ho pins s σ H _ I h) λov s1 ⟨x,H1,I1,r1,q1⟩=>?_))
 refine Yb (WN (thn (hi pins s1 σ H1 _ I1 q1) λiv s2 ⟨y,H2,I2,r2,q2⟩=>?_))
 refine Yb (Ux (Yb (WN (thn (hs pins s2 σ H2 x y v ov iv u _ I2 r1 r2 r q2) λ_ s3 ⟨H3,I3,q3⟩=>?_))))
 exact wpAny_release ⟨σ,H3,I3,q3⟩
noncomputable def tAsg(te:TE)(g:TG):TS:=λD σ H=>te σ H λx H1=>g x σ H1 D.nx
theorem Zk9{tg e:Expr}{te:TE}{g:TG}(he:PE X e te)(hg:PG X tg g)(hs:Yat [tg] e pos.line X.env=pure false:=by rfl)(hw:Yau [tg] e X.env=pure none:=by rfl)(h1:(Ys [tg] X.env).map (·.2)=[assign tg X.env]:=by rfl):PS X (.Assign [tg] e pos) (tAsg te g):=by
 intro pins s σ H D I h
 refine wpAny_Assign_stores (thn (he pins s σ H _ I h) λv s1 ⟨x,H1,I1,r1,q1⟩=>?_) hs hw
 rw[h1]
 exact thn (hg pins s1 σ H1 x v _ I1 r1 q1) λ_ s2 q=>q
theorem ps_set{i:Nat}{x:Str}{e:Expr}{te:TE}{pos':Pos}(hN:X.N.Nodup)(hi:X.N[i]?=some x)(hx:Loc X.env.scope x)(he:PE X e te)(hs:Yaj e (some (.Name x pos')) pos.line X.env=pure false:=by rfl)(hf:X.fn x=true∨X.env.scope.names.lookup x=some .local:=by first|exact .inl rfl|exact .inr rfl|assumption):
  PS X (.Assign [.Name x pos'] e pos) (tAsg te (Zql i)):=by
 intro pins s σ H D I h
 refine wpAny_Assign_Name (thn (he pins s σ H _ I h) λv s1 ⟨y,H1,I1,r1,q1⟩=>?_) hs
 exact ZeW I1 hN hi hx r1 (λs2 I2=>⟨_,H1,I2,q1⟩) hf
noncomputable def tAug(i:Nat)(te:TE)(ti:TIp):TS:=λD σ H=>∃x,σ[i]?=some (some x)/\te σ H λy H1=>ti x y H1 λz H2=>D.nx (σ.set i (some z)) H2
theorem ps_aug{i:Nat}{x:Str}{e:Expr}{te:TE}{op:GK}{ti:TIp}{pos':Pos}(hN:X.N.Nodup)(hi:X.N[i]?=some x)(hx:Loc X.env.scope x)(he:PE X e te)(ho:PIp X op ti)(hf:X.fn x=true∨X.env.scope.names.lookup x=some .local:=by first|exact .inl rfl|exact .inr rfl|assumption):
  PS X (.AugAssign (.Name x pos') op e pos) (tAug i te ti):=by
 intro pins s σ H D I h
 obtain⟨v,e1,h⟩:=h
 obtain⟨m,hn,hl⟩:=I.loc
 have vis:Vis X.env.scope x:=by rcases hx with k|k;exact .inl k;exact .inr (.inl k)
 obtain⟨u,r,l⟩:=hl i x v hi e1 vis
 refine wpAny_AugAssign_Name ?_
 have go:wpAny (model X.prog X.w) X.A (eval e X.env) (λw s₂=>wpAny (model X.prog X.w) X.A (inplaceOp op u w) (λr s₃=>wpAny (model X.prog X.w) X.A (YbD X.env x r) (λ_=>SP X pins D .next) X.xe s₃) X.xe s₂) X.xe s:=by
  refine thn (he pins s σ H _ I h) λw s1 ⟨y,H1,I1,r1,q1⟩=>?_
  refine thn (ho pins s1 σ H1 v y u w _ I1 r r1 q1) λz s2 ⟨zv,H2,I2,r2,q2⟩=>?_
  exact ZeW I2 hN hi hx r2 (λs3 I3=>⟨_,H2,I3,q2⟩) hf
 rcases l with⟨hk,hm⟩|⟨hk,c,hc,hcell⟩
 ·exact wpAny_loadName_local I.ok.kind hk hn hm go
 ·rcases hk with hk|hk
  ·exact wpAny_loadName_cell I.ok.kind hk hc hcell go
  ·rcases hx with k|k
   ·have:X.env.scope.names.lookup x=some .free:=hk
    rw[k]at this;cases this
   ·have:X.env.scope.names.lookup x=some .free:=hk
    rw[k]at this;cases this
noncomputable def ipI(f:Int->Int->Int):TIp:=λx y H Q=>∃i j,x=.int i/\y=.int j/\Q (.int (f i j)) H
theorem ip_add:PIp X .Add (ipI λi j=>i+j):=by
 intro pins s σ H x y v u Q I r1 r2 h
 obtain⟨i,j,e1,e2,q⟩:=h
 subst e1;subst e2
 obtain⟨t,rfl⟩:=r1
 obtain⟨t',rfl⟩:=r2
 exact iadd_int ⟨.int _,H,I.tok _,⟨_,rfl⟩,q⟩
theorem ip_sub:PIp X .Sub (ipI λi j=>i-j):=by
 intro pins s σ H x y v u Q I r1 r2 h
 obtain⟨i,j,e1,e2,q⟩:=h
 subst e1;subst e2
 obtain⟨t,rfl⟩:=r1
 obtain⟨t',rfl⟩:=r2
 exact isub_int ⟨.int _,H,I.tok _,⟨_,rfl⟩,q⟩
noncomputable def tWhile(c:TT)(tb:TS):TS:=λD σ H=>∃W:Nat->St->Hp->Prop,(∃m,W m σ H)/\∀m σ H,W m σ H ->
 c σ H λb H1=>if b=true then ∃N:St->Hp->Prop,(∀σ' H',N σ' H'->∃m',m'<m/\W m' σ' H')/\tb { D with nx:=N,ct:=N,bk:=D.nx } σ H1 else D.nx σ H1
theorem Znp{c:Expr}{body:List Stmt}{tc:TT}{tb:TS}(hp:Ya5 (model X.prog X.w) X.A X.env X.xe)(hc:PT X c tc)(hb:PSs X body tb):PS X (.While c body [] pos) (tWhile tc tb):=by
 intro pins s σ H D I h
 obtain⟨W,⟨m0,w0⟩,turn⟩:=h
 refine wpAny_While (codeAny_whileLoop (λn s'=>∃σ' H',Inv X pins σ' H' s'/\W n σ' H') ?_ m0 ⟨σ,H,I,w0⟩)
 rintro n s1 ⟨σ1,H1,I1,w1⟩
 refine U4 hp (thn (hc pins s1 σ1 H1 _ I1 (turn n σ1 H1 w1)) λb s2 ⟨H2,I2,q2⟩=>?_)
 cases b with
 |true =>
  obtain⟨N,hN,q2⟩:=q2
  rw[if_pos rfl]
  refine U4 hp (thn (hb pins s2 σ1 H2 _ I2 q2) λf s3 q3=>?_)
  cases f with
  |next =>
   obtain⟨σ3,H3,I3,n3⟩:=q3
   obtain⟨m',hm,w3⟩:=hN σ3 H3 n3
   exact⟨m',hm,σ3,H3,I3,w3⟩
  |cont =>
   obtain⟨σ3,H3,I3,n3⟩:=q3
   obtain⟨m',hm,w3⟩:=hN σ3 H3 n3
   exact⟨m',hm,σ3,H3,I3,w3⟩
  |brk=>exact q3
  |ret v=>exact q3
 |false =>
  rw[if_neg Yw]
  exact VM ⟨σ1,H2,I2,q2⟩
end
structure It where
 go:Nat->Hp->Prop
 yld:Nat->Hp->V->Hp->Prop
 stop:Nat->Hp->Prop
noncomputable def FpOk(X:Cx)(pins:List (Addr×Obj))(H:Hp)(b:Addr):Prop:=
 H b=none/\b≠X.env.locals/\b∉X.fs/\(b∈X.ex∨X.s₀.heap.objs.size<=b)/\(∀x c,X.env.cells.lookup x=some c->c≠b)/\∀p∈X.pn++pins,p.1≠b
theorem Inv.fpOk{X:Cx}{pins:List (Addr×Obj)}{σ:St}{H H':Hp}{s:Shared}{b:Addr}(I:Inv X pins σ H s)(hb:s.heap.objs.size<=b)(hn:H' b=none):FpOk X pins H' b:=by
 refine⟨hn,Vs (YD I.lt hb),I.nofs hb,.inr (Y5 I.sz hb),λx c e z=>?_,λp hp z=>?_⟩
 ·obtain⟨v,q⟩:=I.cell x c e
  exact absurd (YD q.lt (by rw[z];exact hb)) (Wn _)
 ·exact absurd (YD (Yx (I.pin p hp).1) (by rw[z];exact hb)) (Wn _)
structure Turn (P:YQ) (w:World) (K:Frag) (tg:Expr) (J:It) (fp:List Addr) (it:Addr) (tn:Nat->Heap->Prop):Prop where
 mem:it∈fp
 obj:∀i h,tn i h->∀b∈fp,∃o,h.get? b=some o/\∀v,o.data≠.cell v
 keep:∀i h h',tn i h->(∀b∈fp,∀o,h.get? b=some o->h'.get? b=some o)->tn i h'
 item:∀(X:Cx),X.prog=P->X.w=w->X.K=K->X.calm=true->∀(i:Nat) (pins:List (Addr×Obj)) (s:Shared) (σ:St) (H:Hp) (E:Value->Shared->Prop),Inv X pins σ H s->(∀b∈fp,FpOk X pins H b)->tn i s.heap->J.go i H ->
  wpAny (model P w) X.A (pyNext (.ref it)) (λr s1=>∃u,r=some u /\
   wpAny (model P w) X.A (Gm tg (.ref it) u) (λ_ s2=>∃x H',Inv X pins σ H' s2/\RelV x u/\J.yld i H x H'/\tn (i+1) s2.heap/\∀b∈fp,H' b=none) E s1) E s
 done:∀(X:Cx),X.prog=P->X.w=w->X.K=K->X.calm=true->∀(i:Nat) (pins:List (Addr×Obj)) (s:Shared) (σ:St) (H:Hp) (E:Value->Shared->Prop),Inv X pins σ H s->(∀b∈fp,FpOk X pins H b)->tn i s.heap->J.stop i H ->
  wpAny (model P w) X.A (pyNext (.ref it)) (λr s1=>r=none/\Inv X pins σ H s1) E s
 self:∀(A:Around) (i:Nat) (s:Shared) (Q:Value->Shared->Prop) (E:Value->Shared->Prop),tn i s.heap->Q (.ref it) s->wpAny (model P w) A (pyIter (.ref it)) Q E s
noncomputable abbrev TI:=St->Hp->(It->Hp->Prop)->Prop
noncomputable def PIE(X:Cx)(pins:List (Addr×Obj))(σ:St)(tg:Expr)(R:It->Hp->Prop)(itv:Value)(s2:Shared):Prop:=
 ∃(it:Addr) (fp:List Addr) (tn:Nat->Heap->Prop) (J:It) (H':Hp),itv=.ref it/\Inv X pins σ H' s2/\Turn X.prog X.w X.K tg J fp it tn/\tn 0 s2.heap/\(∀b∈fp,FpOk X pins H' b)/\R J H'
noncomputable def PI(X:Cx)(tg iter:Expr)(wi:TI):Prop:=
 ∀(pins:List (Addr×Obj)) (s:Shared) (σ:St) (H:Hp) (R:It->Hp->Prop),Inv X pins σ H s->wi σ H R ->
  wpAny (model X.prog X.w) X.A (eval iter X.env) (λv s1=>wpAny (model X.prog X.w) X.A (pyIter v) (PIE X pins σ tg R) X.xe s1) X.xe s
theorem Zn9{M:Model}{A:Around}{E:Value->Shared->Prop}{s:Shared}{tg:Expr}{it:Addr}{u:Value}{o:Obj}{n:String}{vs:Array Value}{Q:Unit->Shared->Prop}(ho:s.heap.get? it=some o)(hc:o.cls=.type n)(hd:o.data=.fields vs)(hn:["enumerate","zip","dict_itemiterator","dict_reverseitemiterator","odict_iterator","itertools.zip_longest","itertools.pairwise"].contains n=false)(hQ:Q () s):wpAny M A (Gm tg (.ref it) u) Q E s:=by
 unfold Gm
 cases tg<;>first
  |exact Yd hQ
  |(cases u<;>first
   |exact Yd hQ
   |(
    refine Yb (wpAny_load ho ?_)
    rw[hc,hd]
    show wpAny M A (if(["enumerate","zip","dict_itemiterator","dict_reverseitemiterator","odict_iterator","itertools.zip_longest","itertools.pairwise"].contains n&&vs[0]?==some (rawInt _))=true then _ else _) Q E s
    rw[if_neg (by intro h;rw[hn,Bool.false_and]at h;cases h)]
    exact Yd hQ))
noncomputable def Itl(K:Frag)(a:Addr):It:=
 ⟨λi H=>∃xs x,SqL K H a xs/\xs[i]?=some x,λi H x H'=>H'=H/\∀xs,SqL K H a xs->xs[i]?=some x,λi H=>∃xs,SqL K H a xs/\xs.length<=i⟩
noncomputable def Itt(K:Frag)(a:Addr):It:=
 ⟨λi H=>∃xs x,SqT K H a xs/\xs[i]?=some x,λi H x H'=>H'=H/\∀xs,SqT K H a xs->xs[i]?=some x,λi H=>∃xs,SqT K H a xs/\xs.length<=i⟩
noncomputable def Itr(lo:Int)(n:Nat):It:=⟨λi _=>i<n,λi H x H'=>H'=H/\x=.int (lo+i),λi _=>n<=i⟩
theorem ZkF{P:YQ}{w:World}{K:Frag}{tg:Expr}(a it:Addr):Turn P w K tg (Itl K a) [it] it (λi h=>h.IsListIter it a i) where
 mem:=by simp
 obj:=λi h st b hb=>by
  have e:b=it:=by simpa using hb
  subst e
  obtain⟨o,e,c,d⟩:=st
  exact⟨o,e,λv z=>by rw[d]at z;cases z⟩
 keep:=λi h h' st k=>st.at λo e=>k it (by simp) o e
 item:=by
  intro X hP hw hK hc i pins s σ H E I hf st hg
  subst hP hw hK
  obtain⟨xs,x,hq,hx⟩:=hg
  obtain⟨its,rv,p,hz⟩:=I.list hq
  obtain⟨u,hu,ru⟩:=rv.get hx
  obtain⟨f0,f1,f2,f3,f4,f5⟩:=hf it (by simp)
  refine wpAny_pyNext_list_item st p.isList (x:=u) (by simpa using hu) λh' st' sb=>?_
  have I1:Inv X pins σ H { s with heap:=h' }:=I.turned (t':=s.toks) (λb o hb e=>(sb.2 b hb).trans e) f0 f1 f3 f4 f5
  obtain⟨o,e,c,d⟩:=id st'
  exact⟨u,rfl,Zn9 (s:={ s with heap:=h' }) e c d (by decide) ⟨x,H,I1,ru,⟨rfl,λys hy=>by rw[I.list_inj hy hq];exact hx⟩,st',λb hb=>(hf b hb).1⟩⟩
 done:=by
  intro X hP hw hK hc i pins s σ H E I hf st hg
  subst hP hw hK
  obtain⟨xs,hq,hx⟩:=hg
  obtain⟨its,rv,p,hz⟩:=I.list hq
  obtain⟨f0,f1,f2,f3,f4,f5⟩:=hf it (by simp)
  have hl:=rv.length
  exact wpAny_pyNext_list_end (I.ok.hd hc) st p.isList (by simp;omega) λh' eb=>⟨rfl,I.turned (t':=s.toks) (λb o hb e=>eb b o hb e) f0 f1 f3 f4 f5⟩
 self:=λ_ _ _ _ _ st h=>wpAny_pyIter_listiter st h
theorem Zi5{P:YQ}{w:World}{K:Frag}{tg:Expr}(a it:Addr):Turn P w K tg (Itt K a) [it] it (λi h=>h.IsTupleIter it a i) where
 mem:=by simp
 obj:=λi h st b hb=>by
  have e:b=it:=by simpa using hb
  subst e
  obtain⟨o,e,c,d⟩:=st
  exact⟨o,e,λv z=>by rw[d]at z;cases z⟩
 keep:=λi h h' st k=>st.at λo e=>k it (by simp) o e
 item:=by
  intro X hP hw hK hc i pins s σ H E I hf st hg
  subst hP hw hK
  obtain⟨xs,x,hq,hx⟩:=hg
  obtain⟨its,rv,p,hz⟩:=I.tuple hq
  obtain⟨u,hu,ru⟩:=rv.get hx
  obtain⟨f0,f1,f2,f3,f4,f5⟩:=hf it (by simp)
  refine wpAny_pyNext_tuple_item st (show s.heap.IsTuple a its.toArray from p) (x:=u) (by simpa using hu) λh' st' sb=>?_
  have I1:Inv X pins σ H { s with heap:=h' }:=I.turned (t':=s.toks) (λb o hb e=>(sb.2 b hb).trans e) f0 f1 f3 f4 f5
  obtain⟨o,e,c,d⟩:=id st'
  exact⟨u,rfl,Zn9 (s:={ s with heap:=h' }) e c d (by decide) ⟨x,H,I1,ru,⟨rfl,λys hy=>by rw[I.tuple_inj hy hq];exact hx⟩,st',λb hb=>(hf b hb).1⟩⟩
 done:=by
  intro X hP hw hK hc i pins s σ H E I hf st hg
  subst hP hw hK
  obtain⟨xs,hq,hx⟩:=hg
  obtain⟨its,rv,p,hz⟩:=I.tuple hq
  obtain⟨f0,f1,f2,f3,f4,f5⟩:=hf it (by simp)
  have hl:=rv.length
  exact wpAny_pyNext_tuple_end (I.ok.hd hc) st (show s.heap.IsTuple a its.toArray from p) (by simp;omega) λh' eb=>⟨rfl,I.turned (t':=s.toks) (λb o hb e=>eb b o hb e) f0 f1 f3 f4 f5⟩
 self:=λ_ _ _ _ _ st h=>wpAny_pyIter_tupleiter st h
theorem Zi6{P:YQ}{w:World}{K:Frag}{tg:Expr}(it:Addr)(lo:Int)(n:Nat):Turn P w K tg (Itr lo n) [it] it (λi h=>IsRangeIter h it (lo+(i:Nat)*1) ((n:Int)-(i:Nat)) 1) where
 mem:=by simp
 obj:=λi h st b hb=>by
  have e:b=it:=by simpa using hb
  subst e
  exact⟨_,st,λv z=>by
   have z':Data.fields _=Data.cell v:=z
   cases z'⟩
 keep:=λi h h' st k=>k it (by simp) _ st
 item:=by
  intro X hP hw hK hc i pins s σ H E I hf st hg
  subst hP hw hK
  obtain⟨f0,f1,f2,f3,f4,f5⟩:=hf it (by simp)
  have W:=Walks.range (prog:=X.prog) (w:=X.w) (I.ok.hd hc) it lo 1 n
  refine W.item i s _ _ hg st λv h' tk hv st' kk=>?_
  obtain⟨t,rfl⟩:=hv
  have I1:Inv X pins σ H { s with heap:=h',toks:=tk }:=I.turned (λb o hb e=>kk b o (by simpa using hb) e) f0 f1 f3 f4 f5
  refine⟨_,rfl,Zn9 (s:={ s with heap:=h',toks:=tk }) (n:="range_iterator") st' rfl rfl (by decide) ⟨.int (lo+i),H,I1,⟨t,?_⟩,⟨rfl,rfl⟩,st',λb hb=>(hf b hb).1⟩⟩
  rw[Int.mul_one]
 done:=by
  intro X hP hw hK hc i pins s σ H E I hf st hg
  subst hP hw hK
  obtain⟨f0,f1,f2,f3,f4,f5⟩:=hf it (by simp)
  exact wpAny_pyNext_range_end (I.ok.hd hc) st (by have:n<=i:=hg;omega) λh' eb=>⟨rfl,I.turned (t':=s.toks) (λb o hb e=>eb b o hb e) f0 f1 f3 f4 f5⟩
 self:=λ_ _ _ _ _ st h=>wpAny_pyIter_rangeiter st h
section
variable{X:Cx}{tg:Expr}
theorem Ziw{pins:List (Addr×Obj)}{σ:St}{H:Hp}{s:Shared}{R:It->Hp->Prop}{E:Value->Shared->Prop}{lo hi:Int}{t u v:Tok}{tk:Nat}(I:Inv X pins σ H s)(h1:-(2^62)<=lo)(h2:lo<2^62)(h3:-(2^62)<=hi)(h4:hi<2^62)(q:R (Itr lo (hi-lo).toNat) H):wpAny (model X.prog X.w) X.A (pyIter (.ref s.heap.objs.size)) (PIE X pins σ tg R) E { s with heap:=s.heap.push { cls:=.type "range",data:=.fields #[.int lo t,.int hi u,.int 1 v] },toks:=tk }:=by
 refine wpAny_pyIter_range (IsRange.new ..) (small_one h1 h2 h3 h4) ?_
 have I1:Inv X pins σ H { s with heap:=s.heap.push { cls:=.type "range",data:=.fields #[.int lo t,.int hi u,.int 1 v] },toks:=tk }:=I.kept λb o e=>Ye _ e
 refine⟨(s.heap.push { cls:=.type "range",data:=.fields #[.int lo t,.int hi u,.int 1 v] }).objs.size,[(s.heap.push { cls:=.type "range",data:=.fields #[.int lo t,.int hi u,.int 1 v] }).objs.size],_,_,H,rfl,
  I1.kept (t':=tk) λb o e=>Ye _ e,Zi6 _ lo (hi-lo).toNat,?_,λb hb=>?_,q⟩
 ·have e1:lo+((0:Nat):Int)*1=lo:=by simp
  have e2:(((hi-lo).toNat:Nat):Int)-((0:Nat):Int)=Builtin.Range.rangeSize lo hi 1:=by rw[rangeSize_one];split<;>omega
  show IsRangeIter _ _ (lo+((0:Nat):Int)*1) ((((hi-lo).toNat:Nat):Int)-((0:Nat):Int)) 1
  rw[e1,e2]
  exact Yy _ rfl
 ·have e:b=(s.heap.push { cls:=.type "range",data:=.fields #[.int lo t,.int hi u,.int 1 v] }).objs.size:=by simpa using hb
  subst e
  exact I1.fpOk (Yn _) (I1.hok.fresh (Yn _))
noncomputable def iRng1(ta:TA):TI:=λσ H R=>ta σ H λvs H1=>∃j:Int,vs=[.int j]/\-(2^62)<=j/\j<2^62/\R (Itr 0 j.toNat) H1
noncomputable def iRng2(ta:TA):TI:=λσ H R=>ta σ H λvs H1=>∃i j:Int,vs=[.int i,.int j]/\(-(2^62)<=i/\i<2^62/\-(2^62)<=j/\j<2^62)/\R (Itr i (j-i).toNat) H1
theorem Zlf{a:Expr}{ta:TA}{p pos:Pos}(hg:Gl X "range")(hm:X.mg "range" = none)(ha:PA X [a] ta)(hs:Ww [a] X.env=[(false,eval a X.env)]:=by rfl):PI X tg (.Call (.Name "range" p) [a] [] pos) (iRng1 ta):=by
 intro pins s σ H R I h
 refine Call_ (Zdx I hg hm boot_range (Uq (thn (ha pos pins s σ H _ I h) λus s1 ⟨vs,H1,I1,r1,q1⟩=>?_) hs rfl))
 obtain⟨j,e,q1,q2,q⟩:=q1
 subst e
 cases r1 with
 |cons r rr =>
  cases rr
  obtain⟨t,rfl⟩:=r
  exact call_range_1 (Ziw I1 (by omega) (by omega) q1 q2 (by simpa using q))
theorem Zle{a b:Expr}{ta:TA}{p pos:Pos}(hg:Gl X "range")(hm:X.mg "range" = none)(ha:PA X [a,b] ta)(hs:Ww [a,b] X.env=[(false,eval a X.env),(false,eval b X.env)]:=by rfl)(hs2:Ww [b] X.env=[(false,eval b X.env)]:=by rfl):
  PI X tg (.Call (.Name "range" p) [a,b] [] pos) (iRng2 ta):=by
 intro pins s σ H R I h
 refine Call_ (Zdx I hg hm boot_range (Uq (thn (ha pos pins s σ H _ I h) λus s1 ⟨vs,H1,I1,r1,q1⟩=>?_) (by rw[hs,hs2]) (by rw[hs2];rfl)))
 obtain⟨i,j,e,⟨q1,q2,q3,q4⟩,q⟩:=q1
 subst e
 cases r1 with
 |cons r rr =>
  cases rr with
  |cons r' rr =>
   cases rr
   obtain⟨t,rfl⟩:=r
   obtain⟨t',rfl⟩:=r'
   exact call_range_2 (Ziw I1 q1 q2 q3 q4 q)
noncomputable def tFor(wi:TI)(g:TG)(tb:TS):TS:=λD σ H=>wi σ H λJ H1=>∃W:Nat->Nat->St->Hp->Prop,(∃m,W 0 m σ H1)/\∀i m σ H,W i m σ H ->
 (J.stop i H/\D.nx σ H)∨(J.go i H/\∃N:St->Hp->Prop,(∀σ' H',N σ' H'->∃m',m'<m/\W (i+1) m' σ' H')/\∀x H',J.yld i H x H'->g x σ H' λσ2 H2=>tb { D with nx:=N,ct:=N,bk:=D.nx } σ2 H2)
noncomputable def ZbH(fp:List Addr)(h:Heap):List (Addr×Obj):=fp.filterMap λb=>(h.get? b).map λo=>(b,o)
theorem Qg{fp:List Addr}{h:Heap}{b:Addr}{o:Obj}(hb:b∈fp)(e:h.get? b=some o):(b,o)∈ZbH fp h:=List.mem_filterMap.mpr ⟨b,hb,by rw[e];rfl⟩
theorem ZgD{fp:List Addr}{h:Heap}{p:Addr×Obj}(hp:p∈ZbH fp h):p.1∈fp/\h.get? p.1=some p.2:=by
 obtain⟨b,hb,e⟩:=List.mem_filterMap.mp hp
 cases q:h.get? b with
 |none=>rw[q]at e;cases e
 |some o =>
  rw[q]at e
  have e':(b,o)=p:=YS e
  subst e'
  exact⟨hb,q⟩
theorem Inv.pinned{pins:List (Addr×Obj)}{σ:St}{H:Hp}{s:Shared}{fp:List Addr}(I:Inv X pins σ H s)(hf:∀b∈fp,FpOk X pins H b)(ho:∀b∈fp,∃o,s.heap.get? b=some o/\∀v,o.data≠.cell v):Inv X (pins++ZbH fp s.heap) σ H s:=
 I.pins_of λp hp=>(Y7.mp hp).elim (λz=>I.pin p (Yu _ z)) λz=>by
  obtain⟨hb,e⟩:=ZgD z
  obtain⟨f0,f1,f2,_⟩:=hf p.1 hb
  obtain⟨o,e',d⟩:=ho p.1 hb
  rw[e]at e';cases e'
  exact⟨e,f0,f1,f2,d⟩
theorem Inv.unpinned{pins pl:List (Addr×Obj)}{σ:St}{H:Hp}{s:Shared}(I:Inv X (pins++pl) σ H s):Inv X pins σ H s:=I.pins_of λp hp=>I.pin p (Yu _ (Wm _ hp))
theorem ps_for{iter:Expr}{body:List Stmt}{wi:TI}{g:TG}{tb:TS}{pos:Pos}(hp:Ya5 (model X.prog X.w) X.A X.env X.xe)(hc:X.calm=true)(hi:PI X tg iter wi)(hg:PG X tg g)(hb:PSs X body tb)(hs:∀x,W2 iter X.env x=pure x:=by intro _;rfl):PS X (.For tg iter body [] pos) (tFor wi g tb):=by
 intro pins s σ H D I h
 refine wpAny_For (thn (hi pins s σ H _ I h) λv s1 h1=>thn h1 λitv s2 h2=>?_) hs
 obtain⟨it,fp,tn,J,H2,e,I2,T,st2,f2,W,⟨m0,w0⟩,turn⟩:=h2
 subst e
 -- what stays true of the iterator's objects through the loop
 have stat:∀{H':Hp},(∀b∈fp,H' b=none)->∀b∈fp,FpOk X pins H' b:=λhn b hb=>⟨hn b hb,(f2 b hb).2⟩
 refine codeAny_forLoop_any (λn s'=>∃i σ' H',Inv X pins σ' H' s'/\tn i s'.heap/\(∀b∈fp,H' b=none)/\W i n σ' H') ?_ m0 ⟨0,σ,H2,I2,st2,λb hb=>(f2 b hb).1,w0⟩
 rintro n s3 ⟨i,σ3,H3,I3,st3,fr3,w3⟩
 rcases turn i n σ3 H3 w3 with⟨stop,qn⟩|⟨go,N,hN,step⟩
 ·refine U4 hp (thn (T.done X rfl rfl rfl hc i pins s3 σ3 H3 X.xe I3 (stat fr3) st3 stop) λr s4 ⟨hr,I4⟩=>?_)
  subst hr
  exact VM ⟨σ3,H3,I4,qn⟩
 ·refine U4 hp (thn (T.item X rfl rfl rfl hc i pins s3 σ3 H3 X.xe I3 (stat fr3) st3 go) λr s4 ⟨u,hr,h4⟩=>?_)
  subst hr
  refine U4 hp (thn h4 λ_ s5 ⟨x,H5,I5,r5,y5,st5,fr5⟩=>?_)
  have I5':=I5.pinned (stat fr5) (T.obj _ _ st5)
  refine U4 hp (thn (hg _ s5 σ3 H5 x u _ I5' r5 (step x H5 y5)) λ_ s6 ⟨σ6,H6,I6,q6⟩=>?_)
  refine U4 hp (thn (hb _ s6 σ6 H6 _ I6 q6) λf s7 q7=>?_)
  have again:∀{σ7:St}{H7:Hp},Inv X (pins++ZbH fp s5.heap) σ7 H7 s7->N σ7 H7->∃m,m<n/\∃i σ' H',Inv X pins σ' H' s7/\tn i s7.heap/\(∀b∈fp,H' b=none)/\W i m σ' H':=λ{σ7 H7} I7 n7=>by
   obtain⟨m',hm,w7⟩:=hN σ7 H7 n7
   refine⟨m',hm,i+1,σ7,H7,I7.unpinned,T.keep _ _ _ st5 λb hb o e=>(I7.pin (b,o) (Yu _ (Yu _ (Qg hb e)))).1,λb hb=>?_,w7⟩
   obtain⟨o,e,d⟩:=T.obj _ _ st5 b hb
   exact(I7.pin (b,o) (Yu _ (Yu _ (Qg hb e)))).2.1
  cases f with
  |next=>obtain⟨σ7,H7,I7,n7⟩:=q7;exact again I7 n7
  |cont=>obtain⟨σ7,H7,I7,n7⟩:=q7;exact again I7 n7
  |brk=>obtain⟨σ7,H7,I7,q7⟩:=q7;exact⟨σ7,H7,I7.unpinned,q7⟩
  |ret v=>obtain⟨x7,σ7,H7,I7,r7,q7⟩:=q7;exact⟨x7,σ7,H7,I7.unpinned,r7,q7⟩
end
noncomputable abbrev R2:=V->V->Hp->VK->Prop
noncomputable def OpR(X:Cx)(f:Value->Value->Sem Value)(r:R2):Prop:=
 ∀(pins:List (Addr×Obj)) (s:Shared) (σ:St) (H:Hp) (x y:V) (v u:Value) (Q:VK),Inv X pins σ H s->RelV x v->RelV y u->r x y H Q ->
  wpAny (model X.prog X.w) X.A (f v u) (EP X pins σ Q) X.xe s
noncomputable def Xr(X:Cx)(f:Value)(r:List V->Hp->VK->Prop):Prop:=
 ∀(pins:List (Addr×Obj)) (s:Shared) (σ:St) (H:Hp) (xs:List V) (us:List Value) (Q:VK),Inv X pins σ H s->Vals xs us->r xs H Q ->
  wpAny (model X.prog X.w) X.A (call f us) (EP X pins σ Q) X.xe s
noncomputable def TruR(X:Cx)(r:V->Hp->(Bool->Hp->Prop)->Prop):Prop:=
 ∀(pins:List (Addr×Obj)) (s:Shared) (σ:St) (H:Hp) (x:V) (v:Value) (Q:Bool->Hp->Prop),Inv X pins σ H s->RelV x v->r x H Q ->
  wpAny (model X.prog X.w) X.A (truthy v) (TP X pins σ Q) X.xe s
noncomputable def tOp(r:R2)(ta tb:TE):TE:=λσ H Q=>ta σ H λx H1=>tb σ H1 λy H2=>r x y H2 Q
noncomputable def rI(C:Int->Int->Prop)(g:Int->Int->V):R2:=λx y H Q=>∃i j,x=.int i/\y=.int j/\C i j/\Q (g i j) H
noncomputable def rI0(g:Int->Int->V):R2:=λx y H Q=>∃i j,x=.int i/\y=.int j/\Q (g i j) H
section
variable{X:Cx}{a b c:Expr}{ta tb tc:TE}{pos:Pos}
theorem binT(ha:PE X a ta)(hb:PE X b tb){pins:List (Addr×Obj)}{s:Shared}{σ:St}{H:Hp}{R:V->V->Hp->Prop}(I:Inv X pins σ H s)(h:ta σ H λx H1=>tb σ H1 λy H2=>R x y H2){Q:Value->Shared->Prop}{f:Value->Value->Sem Value}(hf:∀v u s2 x y H2,Inv X pins σ H2 s2->RelV x v->RelV y u->R x y H2->wpAny (model X.prog X.w) X.A (f v u) Q X.xe s2):
  wpAny (model X.prog X.w) X.A (eval a X.env) (λv s₁=>wpAny (model X.prog X.w) X.A (eval b X.env) (λu s₂=>wpAny (model X.prog X.w) X.A (f v u) Q X.xe s₂) X.xe s₁) X.xe s:=by
 refine thn (ha pins s σ H _ I h) λv s1 ⟨x,H1,I1,r1,q1⟩=>?_
 refine thn (hb pins s1 σ H1 _ I1 q1) λu s2 ⟨y,H2,I2,r2,q2⟩=>?_
 exact hf v u s2 x y H2 I2 r1 r2 q2
theorem pe_op{op:GK}{r:R2}(ho:OpR X (Wy op) r)(ha:PE X a ta)(hb:PE X b tb):PE X (.BinOp a op b pos) (tOp r ta tb):=by
 intro pins s σ H Q I h
 exact wpAny_BinOp (binT ha hb I h λv u s2 x y H2 I2 rx ry q=>ho pins s2 σ H2 x y v u Q I2 rx ry q)
theorem opI{f:Value->Value->Sem Value}{C:Int->Int->Prop}{g:Int->Int->Int}(rule:∀(i j:Int) (t u:Tok) (s:Shared) (Q:Value->Shared->Prop) (E:Value->Shared->Prop),C i j->Q (.int (g i j) s.toks) { s with toks:=s.toks+1 }->wpAny (model X.prog X.w) X.A (f (.int i t) (.int j u)) Q E s):
  OpR X f (rI C λi j=>.int (g i j)):=by
 intro pins s σ H x y v u Q I rx ry h
 obtain⟨i,j,rfl,rfl,hc,q⟩:=h
 obtain⟨t,rfl⟩:=rx
 obtain⟨t',rfl⟩:=ry
 exact rule i j t t' s _ _ hc ⟨.int (g i j),H,I.tok _,⟨_,rfl⟩,q⟩
theorem opI0{f:Value->Value->Sem Value}{g:Int->Int->Int}(rule:∀(i j:Int) (t u:Tok) (s:Shared) (Q:Value->Shared->Prop) (E:Value->Shared->Prop),Q (.int (g i j) s.toks) { s with toks:=s.toks+1 }->wpAny (model X.prog X.w) X.A (f (.int i t) (.int j u)) Q E s):
  OpR X f (rI0 λi j=>.int (g i j)):=by
 intro pins s σ H x y v u Q I rx ry h
 obtain⟨i,j,rfl,rfl,q⟩:=h
 obtain⟨t,rfl⟩:=rx
 obtain⟨t',rfl⟩:=ry
 exact rule i j t t' s _ _ ⟨.int (g i j),H,I.tok _,⟨_,rfl⟩,q⟩
theorem opB0{f:Value->Value->Sem Value}{g:Int->Int->Bool}(rule:∀(i j:Int) (t u:Tok) (s:Shared) (Q:Value->Shared->Prop) (E:Value->Shared->Prop),Q (.bool (g i j)) s->wpAny (model X.prog X.w) X.A (f (.int i t) (.int j u)) Q E s):
  OpR X f (rI0 λi j=>.bl (g i j)):=by
 intro pins s σ H x y v u Q I rx ry h
 obtain⟨i,j,rfl,rfl,q⟩:=h
 obtain⟨t,rfl⟩:=rx
 obtain⟨t',rfl⟩:=ry
 exact rule i j t t' s _ _ ⟨.bl (g i j),H,I,rfl,q⟩
noncomputable def CDiv(i j:Int):Prop:=0<j/\j<1073741824
noncomputable def CPow(i j:Int):Prop:=0<=j/\j<=1000000/\i.natAbs<2^64
noncomputable def CMul(i j:Int):Prop:=(-(2^64)<i/\i<2^64)∨(-(2^64)<j/\j<2^64)
theorem CMul.ok{i j:Int}(h:CMul i j):IntMulOk i j:=by
 rcases h with⟨h1,h2⟩|⟨h1,h2⟩
 ·exact .of_left (intBits_le_64 h1 h2)
 ·exact .of_right (intBits_le_64 h1 h2)
theorem op_add:OpR X (Wy .Add) (rI0 λi j=>.int (i+j)):=opI0 λ_ _ _ _ _ _ _ q=>add_int q
theorem op_sub:OpR X (Wy .Sub) (rI0 λi j=>.int (i-j)):=opI0 λ_ _ _ _ _ _ _ q=>sub_int q
theorem ZpW:OpR X (Wy .FloorDiv) (rI CDiv λi j=>.int (i / j)):=opI λi j _ _ _ _ _ hc q=>by
 have h1:(0:Int)<j:=hc.1
 have h2:j<1073741824:=hc.2
 exact floordiv_int (by omega) (by rw[Int.fdiv_eq_ediv_of_nonneg i (by omega)];exact q) (.inl (PyProof.noPylong_small (by omega)))
theorem op_mod:OpR X (Wy .Mod) (rI (λ_ j=>0<j) λi j=>.int (i%j)):=opI λi j _ _ _ _ _ hc q=>by
 have h1:(0:Int)<j:=hc
 exact mod_int' (by omega) (by rw[Int.fmod_eq_emod_of_nonneg i (by omega)];exact q)
theorem op_pow:OpR X (Wy .Pow) (rI CPow λi j=>.int (i^j.toNat)):=opI λ_ _ _ _ _ _ _ hc q=>pow_int_small hc.1 hc.2.1 hc.2.2 q
end
noncomputable def scal:V->V->Bool
 |.non,.non=>true|.non,.int _=>true|.int _,.non=>true|.non,.bl _=>true|.bl _,.non=>true|.non,.str _=>true|.str _,.non=>true
 |.int _,.int _=>true|.bl _,.bl _=>true|.str _,.str _=>true|.byt _,.byt _=>true
 |.int _,.str _=>true|.str _,.int _=>true|.bl _,.str _=>true|.str _,.bl _=>true
 |_,_=>false
noncomputable def rEq:R2:=λx y H Q=>scal x y=true/\Q (.bl (decide (x=y))) H
noncomputable def rNe:R2:=λx y H Q=>scal x y=true/\Q (.bl (!decide (x=y))) H
theorem Zh5{i j:Int}:decide (V.int i=V.int j)=(i==j):=by
 rw[U5]
 simp
theorem Zmq{i j:Bool}:decide (V.bl i=V.bl j)=(i==j):=by
 rw[U5]
 simp
theorem Zmo{i j:Str}:decide (V.str i=V.str j)=(i==j):=by
 rw[U5]
 simp
theorem Zmp{i j:Array UInt8}:decide (V.byt i=V.byt j)=(i.toList==j.toList):=by
 rw[U5]
 cases i
 cases j
 simp
section
variable{X:Cx}{a b c:Expr}{ta tb tc:TE}{pos:Pos}
theorem ZR{pins:List (Addr×Obj)}{σ:St}{H:Hp}{s:Shared}{Q:VK}{k k':Bool}(I:Inv X pins σ H s)(q:Q (.bl k) H)(e:k=k'):EP X pins σ Q (.bool k') s:=by
 subst e
 exact⟨.bl k,H,I,rfl,q⟩
theorem op_eq:OpR X (Y6 .Eq) rEq:=by
 intro pins s σ H x y v u Q I rx ry h
 obtain⟨hs,q⟩:=h
 cases x with
 |non =>
  cases rx
  cases y with
  |non=>cases ry;exact PySem.EqNone.eq_none_none (ZR I q (by simp))
  |bl j=>cases ry;exact PySem.EqNone.eq_none_bool (ZR I q (by simp))
  |int j=>obtain⟨t',rfl⟩:=ry;exact PySem.EqNone.eq_none_int (ZR I q (by simp))
  |str j=>obtain⟨t',rfl⟩:=ry;exact PySem.EqNone.eq_none_str (ZR I q (by simp))
  |_=>exact absurd (show false=true from hs) Yw
 |bl i =>
  cases rx
  cases y with
  |non=>cases ry;exact PySem.EqNone.eq_bool_none (ZR I q (by simp))
  |bl j=>cases ry;exact eq_bool (ZR I q Zmq)
  |str j=>obtain⟨t',rfl⟩:=ry;exact PySem.EqMixed.eq_bool_str (ZR I q (by simp))
  |_=>exact absurd (show false=true from hs) Yw
 |int i =>
  obtain⟨t,rfl⟩:=rx
  cases y with
  |non=>cases ry;exact PySem.EqNone.eq_int_none (ZR I q (by simp))
  |int j=>obtain⟨t',rfl⟩:=ry;exact eq_int (ZR I q Zh5)
  |str j=>obtain⟨t',rfl⟩:=ry;exact PySem.EqMixed.eq_int_str (ZR I q (by simp))
  |_=>exact absurd (show false=true from hs) Yw
 |str i =>
  obtain⟨t,rfl⟩:=rx
  cases y with
  |non=>cases ry;exact PySem.EqNone.eq_str_none (ZR I q (by simp))
  |bl j=>cases ry;exact PySem.EqMixed.eq_str_bool (ZR I q (by simp))
  |int j=>obtain⟨t',rfl⟩:=ry;exact PySem.EqMixed.eq_str_int (ZR I q (by simp))
  |str j=>obtain⟨t',rfl⟩:=ry;exact eq_str (ZR I q Zmo)
  |_=>exact absurd (show false=true from hs) Yw
 |byt i =>
  obtain⟨t,rfl⟩:=rx
  cases y with
  |byt j=>obtain⟨t',rfl⟩:=ry;exact PySem.W.eq_bytes (ZR I q Zmp)
  |_=>exact absurd (show false=true from hs) Yw
 |_=>cases y<;>exact absurd (show false=true from hs) Yw
theorem op_ne:OpR X (Y6 .NotEq) rNe:=by
 intro pins s σ H x y v u Q I rx ry h
 obtain⟨hs,q⟩:=h
 cases x with
 |non =>
  cases rx
  cases y with
  |non=>cases ry;exact PySem.EqNone.ne_none_none (ZR I q (by simp))
  |bl j=>cases ry;exact PySem.EqNone.ne_none_bool (ZR I q (by simp))
  |int j=>obtain⟨t',rfl⟩:=ry;exact PySem.EqNone.ne_none_int (ZR I q (by simp))
  |str j=>obtain⟨t',rfl⟩:=ry;exact PySem.EqNone.ne_none_str (ZR I q (by simp))
  |_=>exact absurd (show false=true from hs) Yw
 |bl i =>
  cases rx
  cases y with
  |non=>cases ry;exact PySem.EqNone.ne_bool_none (ZR I q (by simp))
  |bl j=>cases ry;exact ne_bool (ZR I q (congrArg not Zmq))
  |str j=>obtain⟨t',rfl⟩:=ry;exact PySem.EqMixed.ne_bool_str (ZR I q (by simp))
  |_=>exact absurd (show false=true from hs) Yw
 |int i =>
  obtain⟨t,rfl⟩:=rx
  cases y with
  |non=>cases ry;exact PySem.EqNone.ne_int_none (ZR I q (by simp))
  |int j=>obtain⟨t',rfl⟩:=ry;exact ne_int (ZR I q (congrArg not Zh5))
  |str j=>obtain⟨t',rfl⟩:=ry;exact PySem.EqMixed.ne_int_str (ZR I q (by simp))
  |_=>exact absurd (show false=true from hs) Yw
 |str i =>
  obtain⟨t,rfl⟩:=rx
  cases y with
  |non=>cases ry;exact PySem.EqNone.ne_str_none (ZR I q (by simp))
  |bl j=>cases ry;exact PySem.EqMixed.ne_str_bool (ZR I q (by simp))
  |int j=>obtain⟨t',rfl⟩:=ry;exact PySem.EqMixed.ne_str_int (ZR I q (by simp))
  |str j=>obtain⟨t',rfl⟩:=ry;exact ne_str (ZR I q (congrArg not Zmo))
  |_=>exact absurd (show false=true from hs) Yw
 |byt i =>
  obtain⟨t,rfl⟩:=rx
  cases y with
  |byt j=>obtain⟨t',rfl⟩:=ry;exact PySem.W.ne_bytes (ZR I q (congrArg not Zmp))
  |_=>exact absurd (show false=true from hs) Yw
 |_=>cases y<;>exact absurd (show false=true from hs) Yw
theorem op_lt:OpR X (Y6 .Lt) (rI0 λi j=>.bl (decide (i<j))):=opB0 λ_ _ _ _ _ _ _ q=>lt_int q
theorem op_le:OpR X (Y6 .LtE) (rI0 λi j=>.bl (decide (i<=j))):=opB0 λ_ _ _ _ _ _ _ q=>le_int q
theorem op_gt:OpR X (Y6 .Gt) (rI0 λi j=>.bl (decide (j<i))):=opB0 λ_ _ _ _ _ _ _ q=>gt_int q
theorem op_ge:OpR X (Y6 .GtE) (rI0 λi j=>.bl (decide (j<=i))):=opB0 λ_ _ _ _ _ _ _ q=>ge_int q
theorem Zll:OpR X (Y6 .Lt) (λx y H Q=>∃i j,x=.str i/\y=.str j/\Q (.bl (decide (i.cps.toList<j.cps.toList))) H):=by
 intro pins s σ H x y v u Q I rx ry h
 obtain⟨i,j,rfl,rfl,q⟩:=h
 obtain⟨t,rfl⟩:=rx
 obtain⟨t',rfl⟩:=ry
 exact lt_str (ZR I q rfl)
theorem Zlm:OpR X (Y6 .In) (λx y H Q=>∃i j,x=.str i/\y=.str j/\Q (.bl (!(Wc j i 0 j.length 1).isEmpty)) H):=by
 intro pins s σ H x y v u Q I rx ry h
 obtain⟨i,j,rfl,rfl,q⟩:=h
 obtain⟨t,rfl⟩:=rx
 obtain⟨t',rfl⟩:=ry
 exact in_str (ZR I q rfl)
theorem op_isN:OpR X (Y6 .Is) (λx y H Q=>y=.non/\Q (.bl (decide (x=.non))) H):=by
 intro pins s σ H x y v u Q I rx ry h
 obtain⟨rfl,q⟩:=h
 cases ry
 refine is_none_gen (ZR I q ?_)
 cases x<;>first
  |(cases rx;rfl)
  |(obtain⟨t,rfl⟩:=rx;rfl)
theorem ZpT:OpR X (Y6 .IsNot) (λx y H Q=>y=.non/\Q (.bl (!decide (x=.non))) H):=by
 intro pins s σ H x y v u Q I rx ry h
 obtain⟨rfl,q⟩:=h
 cases ry
 refine isnot_none_gen (ZR I q ?_)
 cases x<;>first
  |(cases rx;rfl)
  |(obtain⟨t,rfl⟩:=rx;rfl)
theorem Zgz:OpR X (Y6 .NotIn) (λx y H Q=>∃i j,x=.str i/\y=.str j/\Q (.bl (!(!(Wc j i 0 j.length 1).isEmpty))) H):=by
 intro pins s σ H x y v u Q I rx ry h
 obtain⟨i,j,rfl,rfl,q⟩:=h
 obtain⟨t,rfl⟩:=rx
 obtain⟨t',rfl⟩:=ry
 exact notIn_str (ZR I q rfl)
theorem ZpJ{op:CmpOp}{r:R2}(ho:OpR X (Y6 op) r)(ha:PE X a ta)(hb:PE X b tb)(hm:Gb op b=false):PE X (.Compare a [op] [b] pos) (tOp r ta tb):=by
 intro pins s σ H Q I h
 exact wpAny_Compare1 (binT ha hb I h λv u s2 x y H2 I2 rx ry q=>ho pins s2 σ H2 x y v u Q I2 rx ry q) hm
noncomputable def Zo6(t:TE):TT:=λσ H Q=>t σ H λx H'=>∃k,x=.bl k/\Q k H'
theorem Zpk{op:CmpOp}{r:R2}(ho:OpR X (Y6 op) r)(ha:PE X a ta)(hb:PE X b tb)(hm:Gb op b=false):PT X (.Compare a [op] [b] pos) (Zo6 (tOp r ta tb)):=by
 intro pins s σ H Q I h
 refine wpAny_isTrue_Compare1 (thn (ha pins s σ H _ I h) λv s1 ⟨x,H1,I1,r1,q1⟩=>thn (hb pins s1 σ H1 _ I1 q1) λu s2 ⟨y,H2,I2,r2,q2⟩ =>
  thn (ho pins s2 σ H2 x y v u _ I2 r1 r2 q2) λc s3 ⟨z,H3,I3,r3,k,e,q3⟩=>?_) hm
 subst e
 cases r3
 exact Wi ⟨H3,I3,q3⟩
noncomputable def ZkH(r r':R2)(ta tb tc:TE):TE:=λσ H Q=>ta σ H λx H1=>tb σ H1 λy H2=>r x y H2 λz H3=>∃k,z=.bl k /\
 (if k=true then tc σ H3 λw' H4=>r' y w' H4 Q else Q (.bl false) H3)
theorem ZnL{op op':CmpOp}{r r':R2}(ho:OpR X (Y6 op) r)(ho':OpR X (Y6 op') r')(ha:PE X a ta)(hb:PE X b tb)(hc:PE X c tc)(hm:Ybo [op,op'] [b,c]=false:=by with_unfolding_all rfl):PE X (.Compare a [op,op'] [b,c] pos) (ZkH r r' ta tb tc):=by
 intro pins s σ H Q I h
 refine Compare_chain (thn (ha pins s σ H _ I h) λv s1 ⟨x,H1,I1,r1,q1⟩=>chain_link (thn (hb pins s1 σ H1 _ I1 q1) λu s2 ⟨y,H2,I2,r2,q2⟩ =>
  thn (ho pins s2 σ H2 x y v u _ I2 r1 r2 q2) λd s3 ⟨z,H3,I3,r3,k,e,q3⟩=>?_)) hm
 subst e
 cases r3
 refine Wi ?_
 cases k with
 |false=>exact ite_ff ⟨.bl false,H3,I3,rfl,q3⟩
 |true=>exact ite_tt (chain_last (thn (hc pins s3 σ H3 _ I3 q3) λw' s4 ⟨z',H4,I4,r4,q4⟩=>ho' pins s4 σ H4 y z' u w' Q I4 r2 r4 q4))
theorem Zng{op op':CmpOp}{r r':R2}(ho:OpR X (Y6 op) r)(ho':OpR X (Y6 op') r')(ha:PE X a ta)(hb:PE X b tb)(hc:PE X c tc)(hm:Ybo [op,op'] [b,c]=false:=by with_unfolding_all rfl):PT X (.Compare a [op,op'] [b,c] pos) (Zo6 (ZkH r r' ta tb tc)):=by
 intro pins s σ H Q I h
 refine isTrue_chain (thn (ha pins s σ H _ I h) λv s1 ⟨x,H1,I1,r1,q1⟩=>test_link (thn (hb pins s1 σ H1 _ I1 q1) λu s2 ⟨y,H2,I2,r2,q2⟩ =>
  thn (ho pins s2 σ H2 x y v u _ I2 r1 r2 q2) λd s3 ⟨z,H3,I3,r3,k,e,q3⟩=>?_)) hm
 subst e
 cases r3
 refine Wi ?_
 cases k with
 |false =>
  obtain⟨k',e',q'⟩:=q3
  cases e'
  exact ite_ff ⟨H3,I3,q'⟩
 |true =>
  refine ite_tt (test_last (thn (hc pins s3 σ H3 _ I3 q3) λw' s4 ⟨z',H4,I4,r4,q4⟩=>thn (ho' pins s4 σ H4 y z' u w' _ I4 r2 r4 q4) λd' s5 ⟨z2,H5,I5,r5,k2,e2,q5⟩=>?_))
  subst e2
  cases r5
  exact Wi ⟨H5,I5,q5⟩
noncomputable def TruV(K:Frag)(x:V)(H:Hp)(k:Bool):Prop:=
 match x with
 |.non=>k=false
 |.bl b=>k=b
 |.int i=>k=(i != 0)
 |.str y=>y.length<=YJ/\k=((y.length:Int) != 0)
 |.byt y=>y.size<=YJ/\k=((y.size:Int) != 0)
 |.ref p=>(∃xs,SqL K H p xs/\k=!xs.isEmpty)∨(∃xs,SqT K H p xs/\k=!xs.isEmpty)∨∃kvs,H p=some (.dK kvs)/\k=!kvs.isEmpty
 |_=>False
theorem ZjZ{κ:Type}{kvs:List (κ×V)}{vs:List (κ×Value)}(r:KV kvs vs):(!vs.isEmpty)=!kvs.isEmpty:=by
 cases r<;>rfl
theorem ZeM{xs:List V}{its:List Value}(r:Vals xs its):(!its.toArray.isEmpty)=!xs.isEmpty:=by
 cases r<;>simp
theorem ZeH:(YJ:Nat)<2^63:=by rw[W3];decide
theorem Zoy:TruR X (λx H Q=>∃k,TruV X.K x H k/\Q k H):=by
 intro pins s σ H x v Q I rx h
 obtain⟨k,e,q⟩:=h
 have hl:=ZeH
 have hs:YJ=16777216:=W3
 cases x with
 |non =>
  cases rx
  have e':k=false:=e
  subst e'
  exact truthy_none ⟨H,I,q⟩
 |bl b =>
  cases rx
  have e':k=b:=e
  subst e'
  exact Wi ⟨H,I,q⟩
 |int i =>
  obtain⟨t,rfl⟩:=rx
  have e':k=(i != 0):=e
  subst e'
  exact PySem.P.truthy_int ⟨H,I,q⟩
 |str y =>
  obtain⟨t,rfl⟩:=rx
  obtain⟨hy,e'⟩:y.length<=YJ/\k=((y.length:Int) != 0):=e
  subst e'
  exact PySem.P.truthy_str (by omega) ⟨H,I.tok _,q⟩
 |byt y =>
  obtain⟨t,rfl⟩:=rx
  obtain⟨hy,e'⟩:y.size<=YJ/\k=((y.size:Int) != 0):=e
  subst e'
  exact PySem.W.truthy_bytes (by omega) ⟨H,I.tok _,q⟩
 |ref p =>
  cases rx
  have e':(∃xs,SqL X.K H p xs/\k=!xs.isEmpty)∨(∃xs,SqT X.K H p xs/\k=!xs.isEmpty)∨∃kvs,H p=some (.dK kvs)/\k=!kvs.isEmpty:=e
  rcases e' with⟨xs,hx,e'⟩|⟨xs,hx,e'⟩|⟨kvs,hx,e'⟩
  ·subst e'
   obtain⟨its,r,pl,hz⟩:=I.list hx
   have hlen:=r.length
   exact wpAny_truthy_list pl.isList (by simp only[Yh];omega) ⟨H,I.tok _,by rw[ZeM r];exact q⟩
  ·subst e'
   obtain⟨its,r,pl,hz⟩:=I.tuple hx
   have hlen:=r.length
   exact truthy_tuple pl (by simp only[Yh];omega) ⟨H,I.tok _,by rw[ZeM r];exact q⟩
  ·subst e'
   obtain⟨hz,hS,vs,r,m⟩:kvs.length<=YJ/\(p==VH)=false/\∃vs,KV kvs vs/\s.heap.DictOf (Xc X.prog X.w) p vs:=I.hok p _ hx
   have hlen:kvs.length=vs.length:=Paired.length r
   exact wpAny_truthy_dict hS m (by omega) ⟨H,I.tok _,by rw[ZjZ r];exact q⟩
 |_=>exact(show False from e).elim
theorem Znf(ha:PE X a ta)(he:∀whole,isTrue a X.env whole=(do let v <-whole;VN a.pos;YaM [v] (truthy v))):
  PT X a (λσ H Q=>ta σ H λx H'=>∃k,TruV X.K x H' k/\Q k H'):=by
 intro pins s σ H Q I h
 exact isTrue_plain (thn (ha pins s σ H _ I h) λv s1 ⟨x,H1,I1,r1,q1⟩=>Zoy pins s1 σ H1 x v Q I1 r1 q1) (he _)
theorem ZjJ:OpR X (Wy .Add) (λx y H Q=>∃i j,x=.str i/\y=.str j/\i.length+j.length<=YJ/\Q (.str (i++j)) H):=by
 intro pins s σ H x y v u Q I rx ry h
 obtain⟨i,j,rfl,rfl,hz,q⟩:=h
 obtain⟨t,rfl⟩:=rx
 obtain⟨t',rfl⟩:=ry
 exact add_str (λt' tk=>⟨.str (i++j),H,I.tok _,⟨_,rfl⟩,q⟩) hz
theorem vals1{x:V}{us:List Value}(r:Vals [x] us):∃u,us=[u]/\RelV x u:=by
 cases r with
 |cons r1 r2=>cases r2;exact⟨_,rfl,r1⟩
theorem vals2{x y:V}{us:List Value}(r:Vals [x,y] us):∃u w',us=[u,w']/\RelV x u/\RelV y w':=by
 cases r with
 |cons r1 r2 =>
  cases r2 with
  |cons r3 r4=>cases r4;exact⟨_,_,rfl,r1,r3⟩
theorem ZmB(hc:X.calm=true):Xr X (.builtin "min") (λxs H Q=>∃i j,xs=[.int i,.int j]/\Q (.int (if j<i then j else i)) H):=by
 intro pins s σ H xs us Q I r h
 obtain⟨i,j,rfl,q⟩:=h
 obtain⟨u,w',rfl,⟨t,rfl⟩,⟨t',rfl⟩⟩:=vals2 r
 refine min_two_ints (I.ok.hd hc) λh' tk k=>⟨_,H,I.kept k,?_,q⟩
 by_cases hj:j<i
 ·rw[if_pos hj,if_pos hj];exact⟨_,rfl⟩
 ·rw[if_neg hj,if_neg hj];exact⟨_,rfl⟩
theorem Zhe:Xr X (.type "int") (λxs H Q=>(∃i,xs=[.int i]/\Q (.int i) H)∨∃k,xs=[.bl k]/\Q (.int (if k then 1 else 0)) H):=by
 intro pins s σ H xs us Q I r h
 rcases h with⟨i,rfl,q⟩|⟨k,rfl,q⟩
 ·obtain⟨u,rfl,t,rfl⟩:=vals1 r
  exact call_int_int ⟨.int i,H,I,⟨_,rfl⟩,q⟩
 ·obtain⟨u,rfl,r1⟩:=vals1 r
  cases r1
  exact call_int_bool ⟨.int (if k then 1 else 0),H,I.tok _,⟨_,rfl⟩,q⟩
theorem Zhc:Xr X (.type "str") (λxs H Q=>∃i,xs=[.int i]/\i.natAbs.log2<1920/\Q (.str (toString i)) H):=by
 intro pins s σ H xs us Q I r h
 obtain⟨i,rfl,hz,q⟩:=h
 obtain⟨u,rfl,t,rfl⟩:=vals1 r
 exact PySem.P.str_of_int hz ⟨.str _,H,I.tok _,⟨_,rfl⟩,q⟩
noncomputable def LenV(K:Frag)(x:V)(H:Hp)(n:Nat):Prop:=
 match x with
 |.str y=>y.length<=YJ/\n=y.length
 |.byt y=>y.size<=YJ/\n=y.size
 |.ref p=>(∃xs,SqL K H p xs/\n=xs.length)∨∃xs,SqT K H p xs/\n=xs.length
 |_=>False
theorem Zc5:Xr X (.builtin "len") (λxs H Q=>∃x n,xs=[x]/\LenV X.K x H n/\Q (.int n) H):=by
 intro pins s σ H xs us Q I r h
 obtain⟨x,n,rfl,e,q⟩:=h
 obtain⟨u,rfl,rx⟩:=vals1 r
 have hl:=ZeH
 have hs:YJ=16777216:=W3
 cases x with
 |str y =>
  obtain⟨t,rfl⟩:=rx
  obtain⟨hy,e'⟩:y.length<=YJ/\n=y.length:=e
  subst e'
  exact len_str (by omega) ⟨.int _,H,I.tok _,⟨_,rfl⟩,q⟩
 |byt y =>
  obtain⟨t,rfl⟩:=rx
  obtain⟨hy,e'⟩:y.size<=YJ/\n=y.size:=e
  subst e'
  exact PySem.W.len_bytes (by omega) ⟨.int _,H,I.tok _,⟨_,rfl⟩,q⟩
 |ref p =>
  cases rx
  have e':(∃xs,SqL X.K H p xs/\n=xs.length)∨∃xs,SqT X.K H p xs/\n=xs.length:=e
  rcases e' with⟨xs,hx,e'⟩|⟨xs,hx,e'⟩
  ·subst e'
   obtain⟨its,r',pl,hz⟩:=I.list hx
   have hlen:=r'.length
   exact Calls.call_len_list pl.isList (by simp only[Yh];omega) ⟨.int xs.length,H,I.tok _,⟨_,by simp only[Yh];rw[hlen]⟩,q⟩
  ·subst e'
   obtain⟨its,r',pl,hz⟩:=I.tuple hx
   have hlen:=r'.length
   exact len_tuple pl (by simp only[Yh];omega) ⟨.int xs.length,H,I.tok _,⟨_,by simp only[Yh];rw[hlen]⟩,q⟩
 |_=>exact(show False from e).elim
end
structure ObjM (h:Heap) (x dx C:Addr) (mA:Str->Option Value):Prop where
 obj:h.get? x=some (instObj C dx)
 ns:h.Ns1 dx mA
 ne:dx≠x
theorem ZlK{h:Heap}{dx:Addr}{mA:Str->Option Value}(n:h.Ns1 dx mA):∃od,h.get? dx=some od/\∀name,lookIn name od=some (mA name):=by
 obtain⟨o,es,ep,ho,hd,hk,_,hm⟩:=n
 refine⟨o,ho,λname=>?_⟩
 have e:=hm name
 unfold nsFind findBy at e
 rw[<-Array.find?_toList]at e
 unfold lookIn
 rw[hd]
 dsimp only
 split
 ·rename_i y q
  rw[q]at e
  exact congrArg some e
 ·rename_i q
  rw[q]at e
  have a:es.toList.any (·.refKey)=false:=by
   rw[List.any_eq_false]
   intro y hy
   obtain⟨z,t,hkey⟩:=hk y (Array.mem_toList_iff.mp hy)
   simp[DictEntry.refKey,hkey]
  have a':¬es.toList.any (·.refKey)=true:=by rw[a];exact Yw
  rw[if_neg a']
  exact congrArg some e
theorem ObjM.look{h:Heap}{x dx C:Addr}{mA:Str->Option Value}(I:ObjM h x dx C mA):∃od,PySem.W.InstAt h x (instObj C dx) C (some od)/\∀name,lookIn name od=some (mA name):=
 let⟨od,ho,hl⟩:=ZlK I.ns
 ⟨od,⟨I.obj,rfl,rfl,ho⟩,hl⟩
theorem RelO.some_of{v:V}{o:Option Value}(r:RelO (some v) o):∃u,o=some u/\RelV v u:=by
 cases o with
 |none=>exact(show False from r).elim
 |some u=>exact⟨u,rfl,r⟩
theorem RelO.none_of{o:Option Value}(r:RelO none o):o=none:=by
 cases o with
 |none=>rfl
 |some u=>exact(show False from r).elim
section
variable{P:YQ}{w:World}{H H':Hp}{h h':Heap}{a C dx:Addr}{fs fs':List (Str×V)}
theorem Zqi(hok:HOk P w H h)(e:H a=some (.ins C dx fs)):∃mA,ObjM h a dx C mA/\(∀f,RelO (fs.lookup f) (mA f))/\PySem.Within mA (fs.map (·.1))/\fs.length<=1000/\H dx=some (.own a):=by
 obtain⟨d,z,ne,ob,mA,n,r,q⟩:=(show JQ P w H h a (.ins C dx fs)from hok a _ e)
 exact⟨mA,⟨ob,n,ne⟩,r,q,z,d⟩
end
structure Cls (K:Frag) (C:Addr):Prop where
 pg:PySem.W.plainGet K C Str.empty=true
 hd:PySem.W.hasDictIn K C=true
 po:PySem.W.plainOver K C=true
 sa:findIn K (.ref C) "__setattr__" = some (some (.builtin "object.__setattr__"))
theorem Cls.get{K:Frag}{C:Addr}(c:Cls K C)(f:Str):PySem.W.plainGet K C f=true:=c.pg
structure Con (K:Frag) (C:Addr) (f:Str) (v:V) (u:Value):Prop where
 at_:findIn K (.ref C) f=some (some u)
 rel:RelV v u
 get:PySem.W.specialIn K u "__get__" = some none
 cp:PySem.W.copiedNames.contains f=false
structure Meth (K:Frag) (C:Addr) (m:Str) (f:Addr):Prop where
 at_:findIn K (.ref C) m=some (some (.ref f))
 fn:PySem.W.isFn K (.ref f)=true
 kp:keepIn K (.ref f)=true
section
variable{X:Cx}{pins:List (Addr×Obj)}{σ:St}{H:Hp}{s:Shared}{A:Around}{E:Value->Shared->Prop}{Q:Value->Shared->Prop}{c:Value}{b:Bool}
inductive TyOf (K:Frag) (H:Hp):V->Value->Prop where
 |non:TyOf K H .non (.type "NoneType")
 |bl (x:Bool):TyOf K H (.bl x) (.type "bool")
 |int (i:Int):TyOf K H (.int i) (.type "int")
 |str (x:Str):TyOf K H (.str x) (.type "str")
 |flt (x:UInt64):TyOf K H (.flt x) (.type "float")
 |lst {a:Addr}{xs:List V}(e:H a=some (.lst xs)):TyOf K H (.ref a) (.type "list")
 |frz {a:Addr}{o:Obj}{xs:List V}(e:H a=some (.frz o (.lst xs))):TyOf K H (.ref a) (.type "list")
 |tup {a:Addr}{xs:List V}(e:H a=some (.tup xs)):TyOf K H (.ref a) (.type "tuple")
 |dK {a:Addr}{kvs:List (Key×V)}(e:H a=some (.dK kvs)):TyOf K H (.ref a) (.type "dict")
 |dT {a:Addr}{kvs:List (List Key×V)}(e:H a=some (.dT kvs)):TyOf K H (.ref a) (.type "dict")
 |ins {a C dx:Addr}{fs:List (Str×V)}(e:H a=some (.ins C dx fs)) (cl:Cls K C) (ha:findIn K (.ref C) "__class__" = some (some (.builtin "object.__class__")))
  (hn:PySem.W.specialIn K (.builtin "object.__class__") "__get__" = some (some (.builtin "getset_descriptor.__get__"))) (htk:PySem.W.takesIn K (.builtin "object.__class__")=some true)
  (hm:PySem.W.mroIn K C (.type "object")=some true):TyOf K H (.ref a) (.ref C)
theorem Zay{x:V}{u t:Value}(I:Inv X pins σ H s)(rx:RelV x u)(ty:TyOf X.K H x t)(e:PySem.W.kitOne X.K t c=some b)(h:∀tk,Q (.bool b) { s with toks:=tk }):
  wpAny (model X.prog X.w) A (call (.builtin "isinstance") [u,c]) Q E s:=by
 cases ty with
 |non=>cases(show u=Vl from rx);exact Vx PySem.W.kitx_none I.kIn W4 e (λz=>nomatch z) h
 |bl y=>cases(show u=WY y from rx);exact Vx PySem.W.kitx_bool I.kIn W4 e (λz=>nomatch z) h
 |int i=>obtain⟨t,q⟩:=(show ∃t,u=Ybn i t from rx);cases q;exact Vx PySem.W.kitx_int I.kIn W4 e (λz=>nomatch z) h
 |str y=>obtain⟨t,q⟩:=(show ∃t,u=Va y t from rx);cases q;exact Vx PySem.W.kitx_str I.kIn W4 e (λz=>nomatch z) h
 |flt y=>obtain⟨t,q⟩:=(show ∃t,u=Value.float y t from rx);cases q;exact Vx PySem.W.kitx_float I.kIn W4 e (λz=>nomatch z) h
 |@lst a xs ea =>
  cases(show u=U3 a from rx)
  obtain⟨_,_,n,_,h1⟩:=(show JQ X.prog X.w H s.heap a (.lst xs)from I.hok a _ ea)
  exact Vx YbE I.kIn ⟨_,h1,rfl⟩ e (λz=>nomatch z) h
 |@frz a ob xs ea =>
  cases(show u=U3 a from rx)
  obtain⟨_,_,_,n,_,h1⟩:=(show JQ X.prog X.w H s.heap a (.frz ob (.lst xs))from I.hok a _ ea)
  exact Vx YbE I.kIn ⟨_,h1,rfl⟩ e (λz=>nomatch z) h
 |@tup a xs ea =>
  cases(show u=U3 a from rx)
  obtain⟨_,_,_,p⟩:=(show JQ X.prog X.w H s.heap a (.tup xs)from I.hok a _ ea)
  obtain⟨o,h1,h2,_⟩:=p
  exact Vx PySem.W.kitx_tuple I.kIn ⟨o,h1,h2⟩ e (λz=>nomatch z) h
 |@dK a kvs ea =>
  cases(show u=U3 a from rx)
  obtain⟨_,_,vs,_,p⟩:=(show JQ X.prog X.w H s.heap a (.dK kvs)from I.hok a _ ea)
  obtain⟨o,es,ep,h1,h2,_⟩:=p
  exact Vx PySem.W.kitx_dict I.kIn ⟨o,h1,h2.1⟩ e (λz=>nomatch z) h
 |@dT a kvs ea =>
  cases(show u=U3 a from rx)
  obtain⟨_,_,xs,_,o,es,ep,h1,h2,_⟩:=(show JQ X.prog X.w H s.heap a (.dT kvs)from I.hok a _ ea)
  exact Vx PySem.W.kitx_dict I.kIn ⟨o,h1,h2.1⟩ e (λz=>nomatch z) h
 |@ins a C dx fs ea cl ha hn htk hm =>
  cases(show u=U3 a from rx)
  obtain⟨mA,O,_⟩:=Zqi I.hok ea
  obtain⟨od,J,_⟩:=O.look
  exact Vx (PySem.W.kitx_own (cl.get _) cl.hd ha hn htk hm) I.kIn J e (λz=>nomatch z) h
end
structure Room (k:Nat) (A:Around):Prop where
 hd:A.handled=none
 dp:A.depth+3*k+5<recursionLimit
 un:A.units+16*k+200<cLine
theorem Room.deeper{k:Nat}{A:Around}(r:Room (k+1) A)(env:Env):Room k (A.deeper env):=
 ⟨r.hd,by have:=r.dp;show A.depth+1+3*k+5<_;omega,by have:=r.un;show A.units+3+16*k+200<_;omega⟩
theorem Room.depth{k:Nat}{A:Around}(r:Room k A):A.depth<recursionLimit:=by have:=r.dp;omega
theorem Room.units{k:Nat}{A:Around}(r:Room k A):A.units+64<cLine:=by have:=r.un;omega
noncomputable def tNil:TA:=λ_ H Q=>Q [] H
noncomputable def tCons(ta:TE)(tr:TA):TA:=λσ H Q=>ta σ H λx H1=>tr σ H1 λxs H2=>Q (x::xs) H2
section
variable{X:Cx}{e:Expr}{es:List Expr}{te:TE}{t:TA}{pos:Pos}
theorem ZoI:PA X [] tNil:=λ_ _ _ _ H Q I h=>Calls.spliced_nil ⟨[],H,I,.nil,h⟩
theorem ZhH(ha:PE X e te)(hr:PA X es t)(hs:Ww (e::es) X.env=(false,eval e X.env)::Ww es X.env:=by rfl):PA X (e::es) (tCons te t):=by
 intro pos pins s σ H Q I h
 rw[hs]
 show wpAny _ _ (spliced ((false,eval e X.env)::backTo pos (Ww es X.env))) _ _ s
 refine Calls.spliced_cons (thn (ha pins s σ H _ I h) λu s1 ⟨x,H1,I1,r1,q1⟩=>?_)
 exact thn (hr pos pins s1 σ H1 _ I1 q1) λus s2 ⟨xs,H2,I2,r2,q2⟩=>⟨x::xs,H2,I2,.cons r1 r2,q2⟩
noncomputable def tTup(t:TA):TE:=λσ H Q=>t σ H λxs H1=>xs.length<=YJ/\∀p,H1 p=none->Q (.ref p) (upd H1 p (.tup xs))
noncomputable def tLst(t:TA):TE:=λσ H Q=>t σ H λxs H1=>xs.length<=YJ/\∀p,H1 p=none->Q (.ref p) (upd H1 p (.lst xs))
theorem pe_tup{x1}(h:PA X es t):PE X (.Tuple es x1 pos) (tTup t):=by
 intro pins s σ H Q I hq
 refine wpAny_Tuple_spliced (thn (h pos pins s σ H _ I hq) λus s1 ⟨xs,H1,I1,r,z,q⟩=>⟨by rw[<-r.length];exact z,?_⟩)
 have hf:H1 s1.heap.objs.size=none:=I1.hok.fresh (Yn _)
 refine⟨.ref s1.heap.objs.size,upd H1 s1.heap.objs.size (.tup xs),I1.laid (t':=s1.toks) (λb u e=>Ye _ e) (Yn _) ?_,rfl,q _ hf⟩
 exact⟨z,us,r,⟨_,Yy _ rfl,rfl,⟨_,rfl⟩,rfl⟩⟩
theorem pe_lst(h:PA X es t):PE X (.List es pos) (tLst t):=by
 intro pins s σ H Q I hq
 refine wpAny_List_spliced (thn (h pos pins s σ H _ I hq) λus s1 ⟨xs,H1,I1,r,z,q⟩=>⟨by rw[<-r.length];exact z,?_⟩)
 have hf:H1 s1.heap.objs.size=none:=I1.hok.fresh (Yn _)
 refine⟨.ref s1.heap.objs.size,upd H1 s1.heap.objs.size (.lst xs),I1.laid (t':=s1.toks) (λb u e=>Ye _ e) (Yn _) ?_,rfl,q _ hf⟩
 exact⟨z,us,0,r,Yy _ rfl⟩
end
noncomputable abbrev Sp:=List V->Hp->VK->XK->Prop
noncomputable abbrev CXT:=List Env->Hp->Shared->XK->Value->Shared->Prop
structure Env0 (P:YQ) (w:World) (K:Frag) (mg:Str->Option Value) (base:Heap) (A:Around) (outer:List Env) (s:Shared) (H:Hp):Prop where
 frames:A.frames=some outer
 mod:Mod K mg base
 bs:∀b o,base.get? b=some o->s.heap.get? b=some o/\H b=none
 bsz:base.objs.size<=s.heap.objs.size
 funs:s.heap.FunFrames base outer
 frf:∀b∈frs outer,H b=none
 hok:HOk P w H s.heap
 bare:Yas s.gens
noncomputable def CE(outer:List Env)(P:YQ)(w:World)(H:Hp)(s:Shared)(Q:VK)(u:Value)(s':Shared):Prop:=
 ∃v H',s'.os=s.os/\Yas s'.gens/\Un (frs outer) [] H H' s.heap s'.heap/\HOk P w H' s'.heap/\RelV v u/\Q v H'
noncomputable def CR(CX:CXT)(outer:List Env)(P:YQ)(w:World)(H:Hp)(s:Shared)(Q:VK)(E:XK)(r:Result)(s':Shared):Prop:=
 match r with
 |.ok (.ret u)=>CE outer P w H s Q u s'
 |.ok _=>False
 |.error e=>CX outer H s E e s'
structure FnOk (P:YQ) (w:World) (K:Frag) (mg:Str->Option Value) (base:Heap) (CX:CXT) (k:Nat) (f:Addr) (fd:W8) (ps:List Str) (sp:Sp):Prop where
 len:∀vs H Q E,sp vs H Q E->vs.length=ps.length
 run:∀(A:Around) (outer:List Env) (s:Shared) (H:Hp) (args:Args) (us:List Value) (vs:List V) (Q:VK) (E:XK),Room k A->Env0 P w K mg base A outer s H->Ybc s fd args (ps.zip us)->Vals vs us->sp vs H Q E ->
  Vb (model P w) A (.call (.ref f) args) (CR CX outer P w H s Q E) s
section
variable{X:Cx}{pins:List (Addr×Obj)}{σ:St}{H:Hp}{s s':Shared}
theorem Inv.env0(I:Inv X pins σ H s):Env0 X.prog X.w X.K X.mg X.base X.A X.stack s H:=
 ⟨I.ok.frames,I.ok.mod,I.bs,Y5 I.ok.bsz I.sz,I.stack,I.stkFree,I.hok,I.bare⟩
theorem Inv.after{Q:VK}{u:Value}(I:Inv X pins σ H s)(h:CE X.stack X.prog X.w H s Q u s'):EP X pins σ Q u s':=by
 obtain⟨v,H',os,bare,un,hok,r,q⟩:=h
 obtain⟨hh,g,d,t,os'⟩:=s'
 obtain rfl:os'=s.os:=os
 exact⟨v,H',I.call (h':=hh) (g':=g) (d':=d) (t':=t) (ch:=[]) un hok bare (λb z=>absurd z (by simp)),r,q⟩
end
noncomputable def tCall(sp:Sp)(dvs:List V)(E:XK)(t:TA):TE:=λσ H Q=>t σ H λvs H1=>sp (vs++dvs) H1 Q E
noncomputable def Binds(K:Frag)(fd:W8)(ps:List Str)(ds:List Value):Prop:=
 ∀(s:Shared) (us:List Value),K.In s.heap->(us++ds).length=ps.length->Ybc s fd ⟨us,[]⟩ (ps.zip (us++ds))
theorem Binds.all{K:Frag}{fd:W8}{ps:List Str}(h:∀us:List Value,us.length=ps.length->Gj fd ⟨us,[]⟩=pure (ps.zip us)):Binds K fd ps []:=λs us _ hl=>by
 rw[Ur]at hl ⊢
 exact .of_eq (h us hl)
noncomputable def ZmN(CX:CXT)(X:Cx)(E:XK):Prop:=∀(pins:List (Addr×Obj)) (σ:St) (H:Hp) (s:Shared) (e:Value) (s':Shared),Inv X pins σ H s->CX X.stack H s E e s'->X.xe e s'
section
variable{X:Cx}{CX:CXT}{k:Nat}{f C:Addr}{fd:W8}{ps:List Str}{sp:Sp}{dvs:List V}{ds:List Value}{E:XK}{x m:Str}{p pos apos:Pos}{e o:Expr}{es:List Expr}{ta:TE}{t:TA}
theorem run_fn{pins:List (Addr×Obj)}{σ:St}{H:Hp}{s:Shared}{Q:VK}{us:List Value}{vs:List V}(F:FnOk X.prog X.w X.K X.mg X.base CX k f fd ps sp)(hr:Room k X.A)(hb:Binds X.K fd ps ds)(hd:Vals dvs ds)(hx:ZmN CX X E)(I:Inv X pins σ H s)(r:Vals vs us)(h:sp (vs++dvs) H Q E):wpAny (model X.prog X.w) X.A (call (.ref f) us) (EP X pins σ Q) X.xe s:=by
 have r2:Vals (vs++dvs) (us++ds):=r.append hd
 have hl:(us++ds).length=ps.length:=by rw[<-r2.length];exact F.len _ _ _ _ h
 refine wpAny_call (GX (F.run X.A X.stack s H ⟨us,[]⟩ (us++ds) (vs++dvs) Q E hr I.env0 (hb s us I.kIn hl) r2 h) λr s' hq=>?_)
 cases r with
 |error e=>exact hx pins σ H s e s' I hq
 |ok fl =>
  cases fl with
  |ret u=>exact I.after hq
  |next=>exact GZ hq
  |brk=>exact GZ hq
  |cont=>exact GZ hq
theorem ZpM(F:FnOk X.prog X.w X.K X.mg X.base CX k f fd ps sp)(hr:Room k X.A)(hg:Gl X x)(hm:X.mg x=some (.ref f))(hk:keepIn X.K (.ref f)=true)(hb:Binds X.K fd ps ds)(hd:Vals dvs ds)(hx:ZmN CX X E)(ha:PA X (e::es) t)(hdb:(x==("__debug__" : Str))=false:=by decide)(he:Ww (e::es) X.env=(false,eval e X.env)::Ww es X.env:=by rfl)(hpl:(backTo pos (Ww es X.env)).any (·.1)=false:=by rfl):
  PE X (.Call (.Name x p) (e::es) [] pos) (tCall sp dvs E t):=by
 intro pins s σ H Q I h
 refine Gk (Zfw I hg hm ?_ hdb)
 refine PySem.W.callWith_K (h₀:=X.base) I.ok.mod.kin hk (thn (ha pos pins s σ H _ I h) λus s1 ⟨vs,H1,I1,r,q⟩=>⟨I1.kIn,?_⟩) he hpl
 exact run_fn F hr hb hd hx I1 r q
structure Mk (K:Frag) (C f:Addr):Prop where
 makes:PySem.W.makesIn K C=true
 init:findIn K (.ref C) "__init__" = some (some (.ref f))
 fn:PySem.W.isFn K (.ref f)=true
 kp:keepIn K (.ref C)=true
end
section
variable{X:Cx}{CX:CXT}{k:Nat}{f C:Addr}{fd:W8}{ps ks:List Str}{sp:Sp}{E:XK}{x m:Str}{p pos apos kpos:Pos}{e o:Expr}{es:List Expr}{kws:List YbB}{te ta:TE}{t tk:TA}{nm:Option Str}
structure KBinds (K:Frag) (fd:W8) (ps ks:List Str) (g:List Value->List Value->List Value) (gV:List V->List V->List V):Prop where
 to:∀(s:Shared) (us ws:List Value),K.In s.heap->(g us ws).length=ps.length->Ybc s fd ⟨us,ks.zip ws⟩ (ps.zip (g us ws))
 rel:∀{vs:List V}{us:List Value}{zs:List V}{ws:List Value},Vals vs us->Vals zs ws->Vals (gV vs zs) (g us ws)
variable{g:List Value->List Value->List Value}{gV:List V->List V->List V}
end
structure FnScope (N P:List Str) (sc:Scope):Prop where
 kind:sc.kind=.function
 co:sc.isCoroutine=false
 gen:sc.isGenerator=false
 nd:N.Nodup
 pre:N.take P.length=P
 par:∀x∈P,sc.names.lookup x=some .local∨sc.names.lookup x=some .cell
 nofree:∀y∈sc.names,y.2≠.free
theorem Zhi{kindOf:Str->Option Gv}{x:Str}:∀{binds:List (Str×Value)}{m:Str->Option Value},(∀v,(x,v)∉binds)->bindL kindOf binds m x=m x
 |[],_,_=>rfl
 |(n,v)::r,m,h=>by
  unfold bindL
  rw[Zhi λw hw=>h w (Yp _ hw)]
  split
  ·have:x≠n:=by rintro rfl;exact h v Yv
   simp[this]
  ·rfl
theorem Zhk{kindOf:Str->Option Gv}{x:Str}:∀{binds:List (Str×Value)}{m:Str->Option Value},(∀v,(x,v)∉binds)->bindC kindOf binds m x=m x
 |[],_,_=>rfl
 |(n,v)::r,m,h=>by
  unfold bindC
  rw[Zhk λw hw=>h w (Yp _ hw)]
  split
  ·rfl
  ·have:x≠n:=by rintro rfl;exact h v Yv
   simp[this]
theorem Zhj{kindOf:Str->Option Gv}{x:Str}{v:Value}:∀{P:List Str}{vs:List Value}{i:Nat}{m:Str->Option Value},P.Nodup->P[i]?=some x->vs[i]?=some v->kindOf x=some .local ->
  bindL kindOf (P.zip vs) m x=some v
 |[],_,_,_,_,h,_,_=>by simp at h
 |_::_,[],_,_,_,_,h,_=>by simp at h
 |p::P,w::vs,0,m,nd,h1,h2,hk=>by
  simp at h1 h2;subst h1;subst h2
  show bindL kindOf ((p,w)::P.zip vs) m p=_
  unfold bindL
  rw[Zhi λv hv=>(Vc.mp nd).1 (YaN hv).1,if_pos hk]
  simp
 |p::P,w::vs,i+1,m,nd,h1,h2,hk=>by
  show bindL kindOf ((p,w)::P.zip vs) m x=_
  unfold bindL
  exact Zhj (i:=i) (Vc.mp nd).2 (by simpa using h1) (by simpa using h2) hk
theorem Zhl{kindOf:Str->Option Gv}{x:Str}{v:Value}:∀{P:List Str}{vs:List Value}{i:Nat}{m:Str->Option Value},P.Nodup->P[i]?=some x->vs[i]?=some v->kindOf x≠some .local ->
  bindC kindOf (P.zip vs) m x=some v
 |[],_,_,_,_,h,_,_=>by simp at h
 |_::_,[],_,_,_,_,h,_=>by simp at h
 |p::P,w::vs,0,m,nd,h1,h2,hk=>by
  simp at h1 h2;subst h1;subst h2
  show bindC kindOf ((p,w)::P.zip vs) m p=_
  unfold bindC
  rw[Zhk λv hv=>(Vc.mp nd).1 (YaN hv).1,if_neg hk]
  simp
 |p::P,w::vs,i+1,m,nd,h1,h2,hk=>by
  show bindC kindOf ((p,w)::P.zip vs) m x=_
  unfold bindC
  exact Zhl (i:=i) (Vc.mp nd).2 (by simpa using h1) (by simpa using h2) hk
noncomputable def start(N:List Str)(vs:List V):St:=vs.map some++Yo (N.length-vs.length) none
noncomputable def cxOf(CX:CXT)(P:YQ)(w:World)(K:Frag)(mg:Str->Option Value)(base:Heap)(N:List Str)(qual:Str)(scope:Scope)(f:Addr)(cd:Value)(A:Around)(outer:List Env)(s:Shared)(H:Hp)(E:XK):Cx where
 prog:=P
 w:=w
 K:=K
 mg:=mg
 base:=base
 A:=A.deeper (envOfC qual scope s.heap.objs.size f cd)
 N:=N
 s₀:=s
 H₀:=H
 env:=envOfC qual scope s.heap.objs.size f cd
 outer:=outer
 stack:=envOfC qual scope s.heap.objs.size f cd::outer
 ex:=[]
 calm:=true
 fn:=λ_=>true
 pn:=[]
 xe:=λe s'=>wpAny (model P w) (A.deeper (envOfC qual scope s.heap.objs.size f cd)) (leaving (envOfC qual scope s.heap.objs.size f cd) e) (λ_ s''=>CX outer H s E e s'') (λe' s''=>CX outer H s E e' s'') s'
theorem ZiW{sc:Scope}{n:Nat}{x:Str}(h:sc.names.lookup x=some .cell):∃c,(Vt n sc.names []).lookup x=some c:=by
 have q:=Ya0 sc.names n [] (.inl h)
 exact Option.isSome_iff_exists.mp q
theorem ZlZ{CX:CXT}{P:YQ}{w:World}{K:Frag}{mg:Str->Option Value}{base:Heap}{N ps:List Str}{qual:Str}{scope:Scope}{f:Addr}{cd:Value}{A:Around}{outer:List Env}{s s1:Shared}{H:Hp}{E:XK}{us:List Value}{vs:List V}(S:FnScope N ps scope)(hd:A.handled=none)(e0:Env0 P w K mg base A outer s H)(hl:vs.length=ps.length)(r:Vals vs us)(x:InCallC s s.heap.objs.size (bindL (envOfC qual scope s.heap.objs.size f cd).kindOf (ps.zip us) λ_=>none) (Vt (s.heap.objs.size+1) scope.names []) (bindC (envOfC qual scope s.heap.objs.size f cd).kindOf (ps.zip us) λ_=>none) s1):
  Inv (cxOf CX P w K mg base N qual scope f cd A outer s H E) [] (start N vs) H s1:=by
 have hpl:ps.length<=N.length:=by have:=congrArg YW S.pre;rw[Wz]at this;omega
 obtain⟨h1,tk,rfl,hk⟩:=x.done
 have noA:∀b:Addr,b∉(cxOf CX P w K mg base N qual scope f cd A outer s H E).ex:=λb z=>absurd (show b∈([]:List Addr)from z) (by simp)
 refine⟨⟨e0.mod,S.kind,rfl,rfl,Yn _,λy z c h1 h2=>?_,λy hy=>?_,λy c _ h=>?_,λ_=>hd,Around.frames_deeper e0.frames,.inr ⟨rfl,rfl⟩,λb z=>absurd z (noA b),e0.bs,e0.bsz,λb _ _=>noA b,λb z=>absurd z (noA b),e0.funs,e0.frf⟩,
  rfl,e0.bare,Un.kept hk,⟨_,x.toInCall.ns,λi y v h1 h2 h3=>?_⟩,λy c h=>⟨_,x.cell y c h⟩,e0.hok.fresh (Yn _),λy c h=>?_,λp hp=>absurd (show p∈([]:List (Addr×Obj))from hp) (by simp),e0.hok.kept hk,?_⟩
 ·exact name_of_addr x.apart (Us h1) (Us h2)
 ·have hy:scope.names.lookup y=some .cell∨scope.names.lookup y=some .free:=hy
  rcases hy with hy|hy
  ·exact ZiW hy
  ·exact absurd rfl (S.nofree _ (Us hy))
 ·exact Vr (x.above y c (Us h))
 ·have hi:i<vs.length:=by
   unfold start at h2
   by_cases hi:i<vs.length
   ·exact hi
   ·rw[YG (by simpa using hi)]at h2
    rw[Ug]at h2
    split at h2<;>cases h2
  have ha:vs[i]?=some v:=by
   unfold start at h2
   rw[YC (by simpa using hi),Y4]at h2
   cases e:vs[i]? with
   |none=>rw[e]at h2;cases h2
   |some a=>rw[e]at h2;cases h2;rfl
  obtain⟨u,hu,rv⟩:=r.get ha
  have hp:ps[i]?=some y:=by
   rw[<-S.pre,List.getElem?_take_of_lt (by omega)];exact h1
  have ndP:ps.Nodup:=by rw[<-S.pre];exact S.nd.sublist (List.take_sublist _ _)
  refine⟨u,rv,?_⟩
  rcases S.par y (WW hp)with k|k
  ·exact .inl ⟨k,Zhj ndP hp hu k⟩
  ·obtain⟨c,e⟩:=ZiW (n:=s.heap.objs.size+1) k
   refine .inr ⟨.inl k,c,e,?_⟩
   have q:=x.cell y c e
   rw[Zhl ndP hp hu (by show scope.names.lookup y≠_;rw[k];decide)]at q
   exact q
 ·exact e0.hok.fresh (Vr (x.above y c (Us h)))
 ·unfold start
  show _=N.length
  rw[Yi,Yc,Uy]
  omega
theorem fn_of{CX:CXT}{P:YQ}{w:World}{K:Frag}{mg:Str->Option Value}{base:Heap}{k:Nat}{f:Addr}{name qual:Str}{params:YbF}{body:List Stmt}{scope:Scope}{dV kV doc pm cdv ct oc:Value}{an od:Option Addr}{osl:Array (Option Value)}{N ps:List Str}{sp:Sp}(lk:K.lookup f=some ⟨oc,od,.func (fnOf name qual params body scope dV kV doc pm an cdv ct),osl⟩)(hcd:codeIn K cdv qual=true)(S:FnScope N ps scope)(len:∀vs H Q E,sp vs H Q E->vs.length=ps.length)(hbody:∀(A:Around) (outer:List Env) (s:Shared) (H:Hp) (vs:List V) (Q:VK) (E:XK),Room (k+1) A->HOk P w H s.heap->sp vs H Q E ->
   ∃t,PSs (cxOf CX P w K mg base N qual scope f cdv A outer s H E) body t/\t { nx:=λ_ H'=>Q .non H',rt:=Q } (start N vs) H):
  FnOk P w K mg base CX (k+1) f (fnOf name qual params body scope dV kV doc pm an cdv ct) ps sp:=by
 refine⟨len,λA outer s H args us vs Q E hr e0 hb r hsp=>?_⟩
 have hl:=len _ _ _ _ hsp
 have KX:K.In s.heap:=e0.mod.kin.keeps λb o e=>(e0.bs b o e).1
 have lim:s.heap.NoLimit:=e0.mod.nolimit.keeps λb o e=>(e0.bs b o e).1
 have hkind:∀y∈ps.zip us,scope.names.lookup y.1=some .local∨(scope.names.lookup y.1=some .cell/\((Vt (s.heap.objs.size+1) scope.names []).lookup y.1).isSome=true):=λ⟨n,v⟩ hy=>by
  rcases S.par n (YaN hy).1 with q|q
  ·exact .inl q
  ·exact .inr ⟨q,Ya0 _ _ _ (.inl q)⟩
 refine codeAny_call_function hr.depth (KX _ _ lk) rfl S.co S.gen rfl (PySem.W.codeRec_of KX hcd) (hb _ _ _ _ ?_)
 refine wpAny_newFunctionEnv_cells S.kind hkind λenv he s1 x=>?_
 subst he
 refine⟨lim.keeps x.toInCall.keep,codeAny_func ?_⟩
 obtain⟨t,ht,hq⟩:=hbody A outer s H vs Q E hr e0.hok hsp
 have I:Inv (cxOf CX P w K mg base N qual scope f cdv A outer s H E) [] (start N vs) H s1:=ZlZ S hr.hd e0 hl r x
 refine Ul (ht [] s1 (start N vs) H _ I hq) (λfl s' hs=>?_) λe s' hs=>hs
 have fin:∀{σ':St}{H':Hp}{v:V}{u:Value},Inv (cxOf CX P w K mg base N qual scope f cdv A outer s H E) [] σ' H' s'->RelV v u->Q v H'->CE outer P w H s Q u s':=
  λ{σ' H' v u} J rv q=>⟨v,H',J.os,J.bare,J.base,J.hok,rv,q⟩
 cases fl with
 |ret u =>
  obtain⟨v,σ',H',J,rv,q⟩:=hs
  exact fin J rv q
 |next =>
  obtain⟨σ',H',J,q⟩:=hs
  exact fin (v:=V.non) (u:=Vl) J rfl q
 |brk =>
  obtain⟨_,_,_,q⟩:=hs
  exact GZ q
 |cont =>
  obtain⟨_,_,_,q⟩:=hs
  exact GZ q
section
variable{X:Cx}{x:Str}{p pos:Pos}{e:Expr}{es:List Expr}{t:TA}{id T:String}{r:List V->Hp->VK->Prop}
noncomputable def tCB(r:List V->Hp->VK->Prop)(t:TA):TE:=λσ H Q=>t σ H λvs H1=>r vs H1 Q
theorem ZiA(hc:Xr X (.builtin id) r)(hg:Gl X x)(hm:X.mg x=none)(hv:Ui x=some (.builtin id))(ha:PA X (e::es) t)(hn:x≠"__name__":=by decide)(hdb:(x==("__debug__" : Str))=false:=by decide)(he:Ww (e::es) X.env=(false,eval e X.env)::Ww es X.env:=by rfl)(hpl:(backTo pos (Ww es X.env)).any (·.1)=false:=by rfl):PE X (.Call (.Name x p) (e::es) [] pos) (tCB r t):=by
 intro pins s σ H Q I h
 refine Gk (Zdx I hg hm hv ?_ hn hdb)
 exact PyProof.Rows.callWith_builtin1 (thn (ha pos pins s σ H _ I h) λus s1 ⟨vs,H1,I1,r1,q1⟩=>hc pins s1 σ H1 vs us Q I1 r1 q1) he hpl
theorem Zgy(hc:Xr X (.type T) r)(hg:Gl X x)(hm:X.mg x=none)(hv:Ui x=some (.type T))(ha:PA X (e::es) t)(hn:x≠"__name__":=by decide)(hdb:(x==("__debug__" : Str))=false:=by decide)(he:Ww (e::es) X.env=(false,eval e X.env)::Ww es X.env:=by rfl)(hpl:(backTo pos (Ww es X.env)).any (·.1)=false:=by rfl):PE X (.Call (.Name x p) (e::es) [] pos) (tCB r t):=by
 intro pins s σ H Q I h
 refine Gk (Zdx I hg hm hv ?_ hn hdb)
 exact Uq (thn (ha pos pins s σ H _ I h) λus s1 ⟨vs,H1,I1,r1,q1⟩=>hc pins s1 σ H1 vs us Q I1 r1 q1) he hpl
end
end L2
namespace HT
open PySem PyProof.Rows
section
variable{prog:YQ}{w:World}{A:Around}{E:Value->Shared->Prop}{s:Shared}
theorem cat_tup{t b:Addr}{vs ws:List Value}{Q:Value->Shared->Prop}(ht:IsTup s.heap t vs.toArray)(hb:IsTup s.heap b ws.toArray)(hv:vs≠[])(h1:ws=[]->Q (.ref t) s)(h2:ws≠[]->Q (.ref s.heap.objs.size) { s with heap:=s.heap.push { cls:=.type "tuple",data:=.seq (vs++ws).toArray } })(hsz:vs.length+ws.length<=YJ):wpAny (model prog w) A (Wy .Add (.ref t) (.ref b)) Q E s:=by
 obtain⟨⟨cls,dd,data,sl⟩,ho,hc,n,hd⟩:=id ht
 obtain⟨⟨cls2,dd2,data2,sl2⟩,ho2,hc2,n2,hd2⟩:=id hb
 simp only at hc hd hc2 hd2
 subst hc hd hc2 hd2
 have e:vs.toArray++ws.toArray=(vs++ws).toArray:=by simp
 by_cases hw:ws=[]
 ·exact Ybh ⟨_,ho,rfl⟩ ⟨_,ho2,rfl⟩ YaE Ya6 Vj Vd (G3 _ _)
   (tuple_addW1 t b vs.toArray ws.toArray n n2 dd dd2 sl sl2 (by simpa using hv) (by simp[hw])) ⟨ho,ho2,h1 hw⟩
 ·refine Ybh ⟨_,ho,rfl⟩ ⟨_,ho2,rfl⟩ YaE Ya6 Vj Vd (G3 _ _)
   (tuple_addW2 t b vs.toArray ws.toArray n n2 dd dd2 sl sl2 (by simpa using hv) (by simpa using hw) (by rw[Yh,Yh];exact hsz)) ⟨ho,ho2,?_⟩
  rw[e]
  exact h2 hw
noncomputable def sIx(n d:Nat):Option Int->Nat
 |none=>d
 |some v=>if v<0 then(v+(n:Int)).toNat else min v.toNat n
theorem sIx_le(n d:Nat)(hd:d<=n)(o:Option Int):sIx n d o<=n:=by
 cases o with
 |none=>exact hd
 |some v =>
  show(if v<0 then(v+(n:Int)).toNat else min v.toNat n)<=n
  by_cases hv:v<0
  ·rw[if_pos hv];omega
  ·rw[if_neg hv];exact Nat.min_le_right _ _
theorem Zmu(v:Int)(n d:Nat):(if v<0 then max (v+(n:Int)) 0 else min v (n:Int))=((sIx n d (some v):Nat):Int):=by
 show(if v<0 then max (v+(n:Int)) 0 else min v (n:Int))=(((if v<0 then(v+(n:Int)).toNat else min v.toNat n):Nat):Int)
 by_cases hv:v<0
 ·simp only[if_pos hv];omega
 ·simp only[if_neg hv];omega
theorem Zks(lo hi:Option Int)(n:Nat):GC lo hi 1 (n:Int)=(((sIx n 0 lo:Nat):Int),((sIx n n hi:Nat):Int)):=by
 have h1:¬((1:Int)<0):=by omega
 unfold GC
 simp only[h1,if_false]
 refine Prod.ext ?_ ?_
 ·cases lo with
  |none=>rfl
  |some v=>exact Zmu v n 0
 ·cases hi with
  |none=>rfl
  |some v=>exact Zmu v n n
theorem Zjz(i j:Nat):UV (i:Int) (j:Int) 1=j-i:=by
 unfold UV
 have h1:(1:Int)>0:=by omega
 simp only[h1,if_true,Int.ediv_one]
 split<;>omega
theorem Zew{v:Value}{o:Option Int}{Q:Option Int->Shared->Prop}(p:IsPart v o)(h:Q o s):wpAny (model prog w) A (Builtin.Slice.slicePartIndex v) Q E s:=by
 cases p with
 |none=>exact slicePart_none h
 |int i t=>exact slicePart_int h
theorem sliceApplied_gen{sl:Addr}{vl vu:Value}{lo hi:Option Int}{n:Nat}{Q:Int×Int×Nat->Shared->Prop}(hs:s.heap.IsSliceOf sl vl vu .none)(pl:IsPart vl lo)(pu:IsPart vu hi)(h:Q (((sIx n 0 lo:Nat):Int),1,sIx n n hi-sIx n 0 lo) s):wpAny (model prog w) A (Builtin.Slice.sliceApplied (.ref sl) (pure (n:Int))) Q E s:=by
 obtain⟨os,hos,hcs,hds⟩:=id hs
 unfold Builtin.Slice.sliceApplied Builtin.Slice.sliceFields
 refine Yb (Yb (VP hos hds (x:=vl) rfl (Yb (VP hos hds (x:=vu) rfl (Yb (VP hos hds (x:=.none) rfl (Yd ?_)))))))
 refine Yb (slicePart_none ?_)
 show wpAny _ _ (if((1:Int)==0)=true then _ else _) _ _ s
 rw[if_neg (by decide)]
 refine Yb (Zew pl (Yb (Zew pu (Yb (Yd ?_)))))
 show wpAny _ _ (match GC lo hi 1 (n:Int)with|(lo,hi)=>pure (lo,(1:Int),UV lo hi 1)) _ _ s
 rw[Zks lo hi n]
 show wpAny _ _ (pure (((sIx n 0 lo:Nat):Int),(1:Int),UV ((sIx n 0 lo:Nat):Int) ((sIx n n hi:Nat):Int) 1)) _ _ s
 rw[Zjz]
 exact Yd h
theorem ZnC(xs:Array Value)(i k:Nat):((Wh k).filterMap λ(m:Nat)=>xs[((i:Int)+(m:Int)*1).toNat]?).toArray=((xs.toList.drop i).take k).toArray:=by
 have e:(λ(m:Nat)=>xs[((i:Int)+(m:Int)*1).toNat]?)=λm=>xs[i+m]?:=by
  funext m
  have:((i:Int)+(m:Int)*1).toNat=i+m:=by omega
  rw[this]
 rw[e]
 have:=pick_run xs i k
 rw[List.filterMap_map]at this
 have e2:((λx=>xs[x]?) ∘ λx=>i+x)=λm=>xs[i+m]?:=rfl
 rw[e2]at this
 rw[this]
theorem getItem_tuple_cut{t sl:Addr}{items:Array Value}{vl vu:Value}{lo hi:Option Int}{Q:Value->Shared->Prop}(ht:IsTup s.heap t items)(hs:s.heap.IsSliceOf sl vl vu .none)(pl:IsPart vl lo)(pu:IsPart vu hi)(hw:¬(sIx items.size 0 lo=0/\sIx items.size items.size hi=items.size))(h:Q (.ref s.heap.objs.size) { s with heap:=s.heap.push { cls:=.type "tuple",data:=.seq ((items.toList.drop (sIx items.size 0 lo)).take (sIx items.size items.size hi-sIx items.size 0 lo)).toArray } })(hsz:items.size<=YJ):wpAny (model prog w) A (Yag (.ref t) (.ref sl)) Q E s:=by
 have htake:sizeOk (.seq ((items.toList.drop (sIx items.size 0 lo)).take (sIx items.size items.size hi-sIx items.size 0 lo)).toArray):=by
  show((items.toList.drop (sIx items.size 0 lo)).take (sIx items.size items.size hi-sIx items.size 0 lo)).toArray.size<=YJ
  rw[Yh,Wz,YaF,Y8]
  omega
 have hj:sIx items.size items.size hi<=items.size:=sIx_le _ _ (Yn _) hi
 obtain⟨os,hos,hcs,hds⟩:=id hs
 have hTs:s.TypeIs (.ref sl) "slice":=⟨os,hos,hcs⟩
 unfold Yag
 try with_reducible refine WN ?_
 first|refine Yb (Yd ?_)|skip
 refine Yb (wpAny_sequenceKey ht.typeIs (by decide) ?_)
 refine Yb (WP (name:=Ybi "__getitem__") ht.typeIs W5
  (WX W5 ht.typeIs entry_tuple_getitem ?_ (args_tuple_getitem _ _)))
 show wpAny _ _ (Builtin.Tuple.tupleItemsOf (.ref t) >>= _) _ _ s
 refine Yb (tupleItemsOf_ ht ?_)
 refine Yb (V9 hTs ?_)
 rw[if_pos (by decide)]
 refine Yb (sliceApplied_gen hs pl pu ?_)
 have hno:¬((((sIx items.size 0 lo:Nat):Int)==0&&(1:Int)==1&&(sIx items.size items.size hi-sIx items.size 0 lo)==items.size)=true):=by
  intro q
  rw[Yg,Yg]at q
  have q1:((sIx items.size 0 lo:Nat):Int)=0:=eq_of_beq q.1.1
  have q2:sIx items.size items.size hi-sIx items.size 0 lo=items.size:=eq_of_beq q.2
  exact hw ⟨by omega,by omega⟩
 show wpAny _ _ (if(((sIx items.size 0 lo:Nat):Int)==0&&(1:Int)==1&&(sIx items.size items.size hi-sIx items.size 0 lo)==items.size)=true then _ else _) _ _ s
 rw[if_neg hno,ZnC]
 first
  |exact Yb (m:=U6 _) (Wt (Yd ⟨_,rfl,Yd h⟩) htake)
  |exact Yb (m:=U6 _) (Wt (Yb (Yd (Yd ⟨_,rfl,Yd h⟩))) htake)
  |exact Yb (Yb (m:=U6 _) (Wt (Yd (Yd ⟨_,rfl,Yd h⟩)) htake))
  |exact Yb (Yb (m:=U6 _) (Wt (Yd ⟨_,rfl,Yd h⟩) htake))
end
end HT
namespace L2
open PySem PySem.Spec PyProof.Rows
noncomputable abbrev TO:=St->Hp->(Option Int->Hp->Prop)->Prop
noncomputable def PO(X:Cx)(e:Option Expr)(t:TO):Prop:=
 ∀(pins:List (Addr×Obj)) (s:Shared) (σ:St) (H:Hp) (Q:Option Int->Hp->Prop),Inv X pins σ H s->t σ H Q ->
  wpAny (model X.prog X.w) X.A (evalPart e X.env) (λu s'=>∃o H',Inv X pins σ H' s'/\IsPart u o/\Q o H') X.xe s
noncomputable def Zo7:TO:=λ_ H Q=>Q none H
noncomputable def tPart(t:TE):TO:=λσ H Q=>t σ H λx H1=>∃i,x=.int i/\Q (some i) H1
section
variable{X:Cx}{e:Expr}{te:TE}{lo hi:Option Expr}{tl th:TO}{pos p2:Pos}
theorem Zpr:PO X none Zo7:=by
 intro pins s σ H Q I h
 rw[evalPart_none]
 exact Yd ⟨none,H,I,.none,h⟩
theorem Zpq(h:PE X e te):PO X (some e) (tPart te):=by
 intro pins s σ H Q I hw
 rw[evalPart_some]
 refine thn (h pins s σ H _ I hw) λu s1 ⟨x,H1,I1,r1,q1⟩=>?_
 obtain⟨i,rfl,q⟩:=q1
 obtain⟨t,rfl⟩:=r1
 exact⟨some i,H1,I1,.int i t,q⟩
noncomputable def SlR(X:Cx)(r:V->Option Int->Option Int->Hp->VK->Prop):Prop:=
 ∀(pins:List (Addr×Obj)) (s:Shared) (σ:St) (H:Hp) (x:V) (v vl vu:Value) (lo hi:Option Int) (sl:Addr) (Q:VK),Inv X pins σ H s->RelV x v->s.heap.IsSliceOf sl vl vu .none->IsPart vl lo->IsPart vu hi->r x lo hi H Q ->
  ∃T id,Ybd (.type T) "__getitem__" = pure (some (.builtin id))/\s.TypeIs v T/\wpAny (model X.prog X.w) X.A (Yag v (.ref sl)) (EP X pins σ Q) X.xe s
noncomputable def tSl(r:V->Option Int->Option Int->Hp->VK->Prop)(te:TE)(tl th:TO):TE:=λσ H Q=>te σ H λx H1=>tl σ H1 λl H2=>th σ H2 λu H3=>r x l u H3 Q
theorem ZnG{r:V->Option Int->Option Int->Hp->VK->Prop}(hr:SlR X r)(he:PE X e te)(hl:PO X lo tl)(hu:PO X hi th):PE X (.Subscript e (.Slice lo hi none p2) pos) (tSl r te tl th):=by
 intro pins s σ H Q I h
 refine Ybv (thn (he pins s σ H _ I h) λv s1 ⟨x,H1,I1,r1,q1⟩=>?_)
 refine wpAny_Slice (thn (hl pins s1 σ H1 _ I1 q1) λvl s2 ⟨l,H2,I2,pl,q2⟩=>thn (hu pins s2 σ H2 _ I2 q2) λvu s3 ⟨u,H3,I3,pu,q3⟩=>?_)
 rw[evalPart_none]
 refine Yd ?_
 have I4:Inv X pins σ H3 { s3 with heap:=s3.heap.push { cls:=.type "slice",data:=.fields #[vl,vu,.none] } }:=I3.kept (t':=s3.toks) λb ob q=>Ye _ q
 obtain⟨T,id,hT,ht,hg⟩:=hr pins { s3 with heap:=s3.heap.push { cls:=.type "slice",data:=.fields #[vl,vu,.none] } } σ H3 x v vl vu l u s3.heap.objs.size Q I4 r1 (Heap.IsSliceOf.new ..) pl pu q3
 show wpAny (model X.prog X.w) X.A (Ya7 e (.Slice lo hi none p2) v (.ref s3.heap.objs.size)) (EP X pins σ Q) X.xe { s3 with heap:=s3.heap.push { cls:=.type "slice",data:=.fields #[vl,vu,.none] } }
 exact tail_any (ops:=[.ref s3.heap.objs.size,v]) ht hT hg (by with_unfolding_all rfl)
noncomputable def cutV(xs:List V)(lo hi:Option Int):List V:=(xs.drop (HT.sIx xs.length 0 lo)).take (HT.sIx xs.length xs.length hi-HT.sIx xs.length 0 lo)
theorem ZdL(xs:List V)(lo hi:Option Int):(cutV xs lo hi).length<=xs.length:=by
 unfold cutV
 rw[Wz,YaF]
 omega
noncomputable def rSlT(K:Frag):V->Option Int->Option Int->Hp->VK->Prop:=λx lo hi H Q=>∃a xs,x=.ref a/\SqT K H a xs /\
 ¬(HT.sIx xs.length 0 lo=0/\HT.sIx xs.length xs.length hi=xs.length)/\∀p,H p=none->Q (.ref p) (upd H p (.tup (cutV xs lo hi)))
theorem sl_tup:SlR X (rSlT X.K):=by
 intro pins s σ H x v vl vu lo hi sl Q I rx hs pl pu h
 obtain⟨a,xs,rfl,hx,hw,q⟩:=h
 cases rx
 obtain⟨its,r,ht,hz⟩:=I.tuple hx
 have hlen:its.toArray.size=xs.length:=by rw[Yh];exact r.length.symm
 refine⟨"tuple",_,PyProof.Rows.slot_tuple_getitem.lookup,ht.typeIs,?_⟩
 refine HT.getItem_tuple_cut ht hs pl pu (by rw[hlen];exact hw) ?_ (by rw[hlen];exact hz)
 rw[hlen]
 refine⟨.ref s.heap.objs.size,_,I.laid (t':=s.toks) (o:=.tup (cutV xs lo hi)) (λb ob q=>Ye _ q) (Yn _) ?_,rfl,q _ (I.hok.fresh (Yn _))⟩
 exact⟨Y5 (ZdL xs lo hi) hz,_,(r.drop (HT.sIx xs.length 0 lo)).take (HT.sIx xs.length xs.length hi-HT.sIx xs.length 0 lo),TupP.new _ _⟩
noncomputable def rCatT(K:Frag):R2:=λx y H Q=>∃a b xs ys,x=.ref a/\y=.ref b/\SqT K H a xs/\SqT K H b ys/\xs≠[]/\xs.length+ys.length<=YJ /\
 (ys=[]->Q (.ref a) H)/\(ys≠[]->∀p,H p=none->Q (.ref p) (upd H p (.tup (xs++ys))))
theorem Vals.nil_iff{xs:List V}{us:List Value}(r:Vals xs us):us=[]↔xs=[]:=by
 cases r with
 |nil=>simp
 |cons _ _=>simp
theorem ZpX:OpR X (Wy .Add) (rCatT X.K):=by
 intro pins s σ H x y v u Q I rx ry h
 obtain⟨a,b,xs,ys,rfl,rfl,ha,hb,hx,hz,q1,q2⟩:=h
 cases rx
 cases ry
 obtain⟨its,r1,p1,_⟩:=I.tuple ha
 obtain⟨its2,r2,p2,_⟩:=I.tuple hb
 refine HT.cat_tup p1 p2 (λz=>hx (r1.nil_iff.mp z)) (λz=>⟨.ref a,H,I,rfl,q1 (r2.nil_iff.mp z)⟩) (λz=>?_) (by rw[<-r1.length,<-r2.length];exact hz)
 refine⟨.ref s.heap.objs.size,_,I.laid (t':=s.toks) (o:=.tup (xs++ys)) (λb ob q=>Ye _ q) (Yn _) ?_,rfl,q2 (λw=>z (r2.nil_iff.mpr w)) _ (I.hok.fresh (Yn _))⟩
 exact⟨by rw[Yi];exact hz,_,r1.append r2,TupP.new _ _⟩
end
noncomputable def ixN(n:Nat)(i:Int):Option Nat:=if 0<=i then(if i<n then some i.toNat else none)else if -(n:Int)<=i then some (i+n).toNat else none
noncomputable def atI{α:Type}(xs:List α)(i:Int):Option α:=(ixN xs.length i).bind λj=>xs[j]?
theorem ZhS{n:Nat}{i:Int}{j:Nat}(h:ixN n i=some j):YbG i n=some j/\j<n/\-(n:Int)<=i/\i<n:=by
 unfold ixN at h
 by_cases h0:0<=i
 ·rw[if_pos h0]at h
  by_cases h1:i<n
  ·rw[if_pos h1]at h
   have e:i.toNat=j:=YS h
   exact⟨by rw[Ybp h0 h1,e],by omega,by omega,h1⟩
  ·rw[if_neg h1]at h;cases h
 ·rw[if_neg h0]at h
  by_cases h1:-(n:Int)<=i
  ·rw[if_pos h1]at h
   have e:(i+n).toNat=j:=YS h
   exact⟨by rw[Ybj (by omega) h1,e],by omega,h1,by omega⟩
  ·rw[if_neg h1]at h;cases h
theorem Zig{α:Type}{xs:List α}{i:Int}{v:α}(h:atI xs i=some v):∃j,YbG i xs.length=some j/\xs[j]?=some v/\j<xs.length/\-(xs.length:Int)<=i/\i<xs.length:=by
 unfold atI at h
 cases e:ixN xs.length i with
 |none=>rw[e]at h;cases h
 |some j =>
  rw[e]at h
  obtain⟨h1,h2,h3,h4⟩:=ZhS e
  exact⟨j,h1,h,h2,h3,h4⟩
noncomputable def ZmM(b:Expr):Prop:=∀o i,Ya2 b false o i=operate [o,i] (Yag o i)
noncomputable def IxR(X:Cx)(r:R2):Prop:=
 ∀(value slice:Expr) (pins:List (Addr×Obj)) (s:Shared) (σ:St) (H:Hp) (x y:V) (v u:Value) (Q:VK),Inv X pins σ H s->RelV x v->RelV y u->r x y H Q ->
  Ya2 slice false v u=operate [v,u] (Yag v u)->wpAny (model X.prog X.w) X.A (Ya7 value slice v u) (EP X pins σ Q) X.xe s
noncomputable def MtR(X:Cx)(id:String)(r:V->List V->Hp->VK->Prop):Prop:=
 ∀(pins:List (Addr×Obj)) (s:Shared) (σ:St) (H:Hp) (x:V) (xs:List V) (v:Value) (us:List Value) (Q:VK),Inv X pins σ H s->RelV x v->Vals xs us->r x xs H Q ->
  wpAny (model X.prog X.w) X.A (call (.builtin id) (v::us)) (EP X pins σ Q) X.xe s
section
variable{X:Cx}{a b:Expr}{ta tb:TE}{pos:Pos}
theorem pe_ix{r:R2}(hr:IxR X r)(ha:PE X a ta)(hb:PE X b tb)(hs:ZmM b):PE X (.Subscript a b pos) (tOp r ta tb):=by
 intro pins s σ H Q I h
 exact Ybv (binT ha hb I h λv u s2 x y H2 I2 rx ry q=>hr a b pins s2 σ H2 x y v u Q I2 rx ry q (hs _ _))
noncomputable def rIxL(K:Frag):R2:=λx y H Q=>∃p xs i v,x=.ref p/\y=.int i/\SqL K H p xs/\atI xs i=some v/\Q v H
noncomputable def rIxT(K:Frag):R2:=λx y H Q=>∃p xs i v,x=.ref p/\y=.int i/\SqT K H p xs/\atI xs i=some v/\Q v H
noncomputable def rIxS:R2:=λx y H Q=>∃z i c,x=.str z/\y=.int i/\z.length<=YJ/\atI z.cps.toList i=some c/\Q (.str ⟨#[c]⟩) H
theorem ZlY:IxR X (rIxL X.K):=by
 intro value slice pins s σ H x y v u Q I rx ry h hs
 obtain⟨p,xs,i,z,rfl,rfl,hq,he,q⟩:=h
 cases rx
 obtain⟨t,rfl⟩:=ry
 obtain⟨its,r,pl,hz⟩:=I.list hq
 obtain⟨j,h1,h2,h3,h4,h5⟩:=Zig he
 obtain⟨w,ew,rw'⟩:=r.get h2
 have hl:=r.length
 have hn:=ZeH
 have fin:EP X pins σ Q w s:=⟨z,H,I,rw',q⟩
 by_cases h0:0<=i
 ·have hj:i.toNat=j:=by
   rw[Ybp h0 h5]at h1
   exact YS h1
  exact item_listR pl.isList h0 (by omega) (by rw[hj];simpa using ew) fin hs
 ·have hj:(i+(its.toArray.size:Int)).toNat=j:=by
   rw[Ybj (by omega) h4]at h1
   rw[Yh,<-hl]
   exact YS h1
  exact subscriptTail_builtinR (x:=w) pl.isList.typeIs slot_list_getitem.lookup
   (wpAny_getItem_list_neg (Q:=λr s'=>r=w/\EP X pins σ Q r s') pl.isList (by omega) (by rw[Yh]<;>omega) (by omega) (by rw[hj];simpa using ew) ⟨rfl,fin⟩) hs
theorem ix_tup:IxR X (rIxT X.K):=by
 intro value slice pins s σ H x y v u Q I rx ry h hs
 obtain⟨p,xs,i,z,rfl,rfl,hq,he,q⟩:=h
 cases rx
 obtain⟨t,rfl⟩:=ry
 obtain⟨its,r,pl,hz⟩:=I.tuple hq
 obtain⟨j,h1,h2,h3,h4,h5⟩:=Zig he
 obtain⟨w,ew,rw'⟩:=r.get h2
 have hl:=r.length
 have hn:=ZeH
 have fin:EP X pins σ Q w s:=⟨z,H,I,rw',q⟩
 exact subscriptTail_builtinR (x:=w) pl.typeIs slot_tuple_getitem.lookup
  (getItem_tuple (j:=j) (Q:=λr s'=>r=w/\EP X pins σ Q r s') pl (by omega) (by omega) (by rw[Yh,<-hl];exact h1) (by simpa using ew) ⟨rfl,fin⟩) hs
theorem ix_str:IxR X rIxS:=by
 intro value slice pins s σ H x y v u Q I rx ry h hs
 obtain⟨z,i,c,rfl,rfl,hz,he,q⟩:=h
 obtain⟨t,rfl⟩:=rx
 obtain⟨t',rfl⟩:=ry
 obtain⟨j,h1,h2,h3,h4,h5⟩:=Zig he
 have hl:z.cps.toList.length=z.length:=by simp[Ybw]
 rw[hl]at h1 h4 h5
 have hn:=ZeH
 exact tail_any (VJ s z t) slot_str_getitem.lookup (getItem_str (c:=c) (by
  have e1:decide (i < -(2^63:Int))=false:=decide_eq_false (by omega)
  have e2:decide (i ≥ 2^63)=false:=decide_eq_false (by omega)
  rw[e1,e2,Yav]) (by rw[h1];simpa using h2) ⟨.str ⟨#[c]⟩,H,I.tok _,⟨_,rfl⟩,q⟩) hs
theorem ZjO(its:List Value)(n j:Nat)(u:Value):Gw (·.setIfInBounds j u) { cls:=.type "list",data:=.seq its.toArray n }={ cls:=.type "list",data:=.seq (its.set j u).toArray n }:=by
 simp[Gw]
theorem Inv.lst{pins:List (Addr×Obj)}{σ:St}{H:Hp}{s:Shared}{p:Addr}{xs:List V}(I:Inv X pins σ H s)(h:H p=some (.lst xs)):
  ∃(its:List Value) (n:Nat),Vals xs its/\s.heap.get? p=some { cls:=.type "list",data:=.seq its.toArray n }/\xs.length<=YJ:=by
 obtain⟨z,its,n,r,e⟩:=I.hok p _ h
 exact⟨its,n,r,e,z⟩
theorem Inv.lstUpd{pins:List (Addr×Obj)}{σ:St}{H:Hp}{s:Shared}{p:Addr}{xs ys:List V}{its its':List Value}{n n':Nat}{f:Obj->Obj}(I:Inv X pins σ H s)(h:H p=some (.lst xs))(ho:s.heap.get? p=some { cls:=.type "list",data:=.seq its.toArray n })(hf:f { cls:=.type "list",data:=.seq its.toArray n }={ cls:=.type "list",data:=.seq its'.toArray n' })(r:Vals ys its')(hz:ys.length<=YJ)(t:Nat):
  Inv X pins σ (upd H p (.lst ys)) { s with heap:=s.heap.update p f,toks:=t }:=by
 have e:(s.heap.update p f).get? p=some { cls:=.type "list",data:=.seq its'.toArray n' }:=by
  rw[Wg f ho (by rw[hf]<;>rfl),hf]
 refine I.write (x:=p) (e:=p) (by rw[h];trivial) (.inl rfl) (λb u hb q=>(Y9 _ _ (Uo hb)).trans q) ⟨_,e⟩ ?_
 exact⟨hz,its',n',r,e⟩
noncomputable def rSetL:V->V->V->Hp->(Hp->Prop)->Prop:=λo i v H Q=>∃p xs k j,o=.ref p/\i=.int k/\H p=some (.lst xs)/\ixN xs.length k=some j/\Q (upd H p (.lst (xs.set j v)))
theorem set_list:PSet X rSetL:=by
 intro pins s σ H o i v ov iv u Q I ro ri rv h
 obtain⟨p,xs,k,j,rfl,rfl,hp,hj,q⟩:=h
 cases ro
 obtain⟨t,rfl⟩:=ri
 obtain⟨its,n,r,ho,hz⟩:=I.lst hp
 obtain⟨h1,h2,h3,h4⟩:=ZhS hj
 have hl:=r.length
 have hn:=ZeH
 have I':Inv X pins σ (upd H p (.lst (xs.set j v))) { s with heap:=s.heap.update p (Gw (·.setIfInBounds j u)) }:=
  I.lstUpd hp ho (ZjO its n j u) (r.set rv j) (by rw[Wx];exact hz) s.toks
 by_cases h0:0<=k
 ·have hk:k.toNat=j:=by
   rw[Ybp h0 h4]at h1
   exact YS h1
  exact PySem.W.ki_setAt ho h0 (by omega) (by rw[Yh,<-hl];exact h4) (by rw[hk];exact⟨_,I',q⟩)
 ·have hk:(k+(its.toArray.size:Int)).toNat=j:=by
   rw[Ybj (by omega) h3]at h1
   rw[Yh,<-hl]
   exact YS h1
  exact PySem.W.ki_setBack ho (by omega) (by rw[Yh,<-hl];exact h3) (by omega) (by rw[hk];exact⟨_,I',q⟩)
theorem Zf7(lo hi:Option Int)(n:Nat):(Vn lo hi none n).1=((HT.sIx n 0 lo:Nat):Int)/\(Vn lo hi none n).2.1=((HT.sIx n n hi:Nat):Int)/\(Vn lo hi none n).2.2=1:=by
 refine⟨?_,?_,rfl⟩
 ·cases lo with
  |none=>simp[Vn,HT.sIx]
  |some i =>
   simp only[Vn,HT.sIx,Option.getD_none,show(1:Int)>0 by decide,if_true]
   by_cases h:i<0
   ·simp only[h,if_true]<;>omega
   ·simp only[h,if_false]<;>omega
 ·cases hi with
  |none=>simp[Vn,HT.sIx]
  |some i =>
   simp only[Vn,HT.sIx,Option.getD_none,show(1:Int)>0 by decide,if_true]
   by_cases h:i<0
   ·simp only[h,if_true]<;>omega
   ·simp only[h,if_false]<;>omega
theorem ZeY(its:List Value)(lo hi:Option Int):slicePick its.toArray lo hi none=((its.drop (HT.sIx its.length 0 lo)).take (HT.sIx its.length its.length hi-HT.sIx its.length 0 lo)).toArray:=by
 obtain⟨h1,h2,h3⟩:=Zf7 lo hi its.toArray.size
 unfold slicePick
 rw[h1,h2,h3]
 simp only[sliceRange_one,pick_run,Yh]<;>rfl
noncomputable def rSlL(K:Frag):V->Option Int->Option Int->Hp->VK->Prop:=λx lo hi H Q=>∃a xs,x=.ref a/\SqL K H a xs/\∀p,H p=none->Q (.ref p) (upd H p (.lst (cutV xs lo hi)))
theorem ZkS:SlR X (rSlL X.K):=by
 intro pins s σ H x v vl vu lo hi sl Q I rx hs pl pu h
 obtain⟨a,xs,rfl,hx,q⟩:=h
 cases rx
 obtain⟨its,r,ht,hz⟩:=I.list hx
 have hlen:=r.length
 refine⟨"list",_,slot_list_getitem.lookup,ht.isList.typeIs,?_⟩
 refine wpAny_getItem_list_slice ht.isList hs pl pu .none (by simp) ?_ (by rw[Yh]<;>omega)
 rw[ZeY,<-hlen]
 refine⟨.ref s.heap.objs.size,_,I.laid (t':=s.toks) (o:=.lst (cutV xs lo hi)) (λb ob q=>Ye _ q) (Yn _) ?_,rfl,q _ (I.hok.fresh (Yn _))⟩
 exact⟨Y5 (ZdL xs lo hi) hz,_,0,(r.drop (HT.sIx xs.length 0 lo)).take (HT.sIx xs.length xs.length hi-HT.sIx xs.length 0 lo),Yy _ rfl⟩
noncomputable def ZcO:V->Bool
 |.non=>true
 |.bl _=>true
 |.int _=>true
 |.str _=>true
 |_=>false
noncomputable def eqV:V->V->Bool
 |.non,.non=>true
 |.bl a,.bl b=>a==b
 |.bl a,.int b=>(if a then 1 else 0)==b
 |.int a,.bl b=>a==(if b then 1 else 0)
 |.int a,.int b=>a==b
 |.str a,.str b=>a==b
 |_,_=>false
theorem eqAt_V{A:Around}{s:Shared}{y x:V}{u v:Value}(ry:RelV y u)(rx:RelV x v)(fy:ZcO y=true)(fx:ZcO x=true):Ybe A s u v (eqV y x):=by
 cases y with
 |non =>
  cases ry
  cases x with
  |non=>cases rx;exact SeqAt.EqAt.same _
  |bl b=>cases rx;exact SeqAt.EqAt.none_bool b
  |int b=>obtain⟨t,rfl⟩:=rx;exact SeqAt.EqAt.none_int b t
  |str b=>obtain⟨t,rfl⟩:=rx;exact SeqAt.EqAt.none_str b t
  |_=>exact absurd (show false=true from fx) Yw
 |bl a =>
  cases ry
  cases x with
  |non=>cases rx;exact SeqAt.EqAt.bool_none a
  |bl b=>cases rx;exact SeqAt.EqAt.bool_bool a b
  |int b=>obtain⟨t,rfl⟩:=rx;exact SeqAt.EqAt.bool_int a b t
  |str b=>obtain⟨t,rfl⟩:=rx;exact SeqAt.EqAt.bool_str a b t
  |_=>exact absurd (show false=true from fx) Yw
 |int a =>
  obtain⟨t',rfl⟩:=ry
  cases x with
  |non=>cases rx;exact SeqAt.EqAt.int_none a t'
  |bl b=>cases rx;exact SeqAt.EqAt.int_bool a t' b
  |int b=>obtain⟨t,rfl⟩:=rx;exact SeqAt.EqAt.int_int a t' b t
  |str b=>obtain⟨t,rfl⟩:=rx;exact SeqAt.EqAt.int_str a t' b t
  |_=>exact absurd (show false=true from fx) Yw
 |str a =>
  obtain⟨t',rfl⟩:=ry
  cases x with
  |non=>cases rx;exact SeqAt.EqAt.str_none a t'
  |bl b=>cases rx;exact SeqAt.EqAt.str_bool a t' b
  |int b=>obtain⟨t,rfl⟩:=rx;exact SeqAt.EqAt.str_int a t' b t
  |str b=>obtain⟨t,rfl⟩:=rx;exact SeqAt.EqAt.str_str a t' b t
  |_=>exact absurd (show false=true from fx) Yw
 |_=>exact absurd (show false=true from fy) Yw
noncomputable def eqU(x:V)(u:Value):Bool:=match u with
 |.none=>eqV .non x
 |.bool b=>eqV (.bl b) x
 |.int i _=>eqV (.int i) x
 |.str z _=>eqV (.str z) x
 |_=>false
theorem ZoT{x y:V}{u:Value}(r:RelV y u)(f:ZcO y=true):eqU x u=eqV y x:=by
 cases y with
 |non=>cases r;rfl
 |bl b=>cases r;rfl
 |int i=>obtain⟨t,rfl⟩:=r;rfl
 |str z=>obtain⟨t,rfl⟩:=r;rfl
 |_=>exact absurd (show false=true from f) Yw
theorem Zd8{x:V}:∀{xs:List V}{us:List Value},Vals xs us->xs.all ZcO=true->us.any (eqU x)=xs.any λy=>eqV y x
 |_,_,.nil,_=>rfl
 |y::xs,u::us,.cons r t,f=>by
  rw[Uz,Yg]at f
  rw[Yaw,Yaw,ZoT r f.1,Zd8 t f.2]
theorem ZbL{A:Around}{s:Shared}{x:V}{v:Value}(rx:RelV x v)(fx:ZcO x=true):∀{xs:List V}{us:List Value},Vals xs us->xs.all ZcO=true->∀u∈us,Ybe A s u v (eqU x u)
 |_,_,.nil,_=>λu hu=>by cases hu
 |y::xs,u::us,.cons r t,f=>λu' hu=>by
  rw[Uz,Yg]at f
  rcases Ym.mp hu with rfl|hu
  ·rw[ZoT r f.1];exact eqAt_V r rx f.1 fx
  ·exact ZbL rx fx t f.2 u' hu
noncomputable def inV(x:V)(xs:List V):Bool:=xs.any λy=>eqV y x
noncomputable def rIn(K:Frag)(neg:Bool):R2:=λx y H Q=>∃p xs,y=.ref p/\(SqL K H p xs∨SqT K H p xs)/\ZcO x=true/\xs.all ZcO=true/\Q (.bl (if neg then !inV x xs else inV x xs)) H
theorem ZgA:OpR X (Y6 .In) (rIn X.K false):=by
 intro pins s σ H x y v u Q I rx ry h
 obtain⟨p,xs,rfl,hq,fx,fs,q⟩:=h
 cases ry
 rcases hq with hq|hq
 ·obtain⟨its,r,pl,hz⟩:=I.list hq
  refine SeqAt.in_listAt (eqU x) pl.isList (λw hw=>ZbL rx fx r fs w (by simpa using hw)) ⟨.bl _,H,I,rfl,?_⟩
  rw[show its.toArray.any (eqU x)=its.any (eqU x) by simp,Zd8 r fs]
  exact q
 ·obtain⟨its,r,pl,hz⟩:=I.tuple hq
  refine SeqAt.in_tupleAt (eqU x) pl (λw hw=>ZbL rx fx r fs w (by simpa using hw)) ⟨.bl _,H,I,rfl,?_⟩
  rw[show its.toArray.any (eqU x)=its.any (eqU x) by simp,Zd8 r fs]
  exact q
theorem Zcz:OpR X (Y6 .NotIn) (rIn X.K true):=by
 intro pins s σ H x y v u Q I rx ry h
 obtain⟨p,xs,rfl,hq,fx,fs,q⟩:=h
 cases ry
 rcases hq with hq|hq
 ·obtain⟨its,r,pl,hz⟩:=I.list hq
  refine SeqAt.notIn_listAt (eqU x) pl.isList (λw hw=>ZbL rx fx r fs w (by simpa using hw)) ⟨.bl _,H,I,rfl,?_⟩
  rw[show its.toArray.any (eqU x)=its.any (eqU x) by simp,Zd8 r fs]
  exact q
 ·obtain⟨its,r,pl,hz⟩:=I.tuple hq
  refine SeqAt.notIn_tupleAt (eqU x) pl (λw hw=>ZbL rx fx r fs w (by simpa using hw)) ⟨.bl _,H,I,rfl,?_⟩
  rw[show its.toArray.any (eqU x)=its.any (eqU x) by simp,Zd8 r fs]
  exact q
theorem ZcG:Xr X (.type "list") (λxs H Q=>∃p ys,xs=[.ref p]/\(SqL X.K H p ys∨SqT X.K H p ys)/\∀l,H l=none->Q (.ref l) (upd H l (.lst ys))):=by
 intro pins s σ H xs us Q I r h
 obtain⟨p,ys,rfl,hq,q⟩:=h
 obtain⟨u,rfl,rx⟩:=vals1 r
 cases rx
 have fin:∀(its:List Value),Vals ys its->ys.length<=YJ->∀(h':Heap) (c':Nat),(∀b o',s.heap.get? b=some o'->h'.get? b=some o') ->
   h'.get? s.heap.objs.size=some { cls:=.type "list",dict:=none,data:=.seq its.toArray c',slots:=#[] }->EP X pins σ Q (.ref s.heap.objs.size) { s with heap:=h' }:=λits r' hz h' c' kp e =>
  ⟨.ref s.heap.objs.size,_,I.laid (t':=s.toks) kp (Yn _) (show JQ X.prog X.w _ h' _ (.lst ys)from⟨hz,its,c',r',e⟩),rfl,q _ (I.hok.fresh (Yn _))⟩
 rcases hq with hq|hq
 ·obtain⟨its,r',pl,hz⟩:=I.list hq
  have hlen:=r'.length
  obtain⟨o,ho,hc,n,hd⟩:=pl.isList
  exact Yax p (.inl rfl) ho hc hd (λh' c' kp e=>fin its r' hz h' c' kp e) (by simp only[Yh]<;>omega)
 ·obtain⟨its,r',pl,hz⟩:=I.tuple hq
  have hlen:=r'.length
  obtain⟨o,ho,hc,n,hd⟩:=pl
  exact Yax p (.inr rfl) ho hc hd (λh' c' kp e=>fin its r' hz h' c' kp e) (by simp only[Yh]<;>omega)
theorem Zb2:Xr X (.type "tuple") (λxs H Q=>∃p ys,xs=[.ref p]/\((SqL X.K H p ys/\∀l,H l=none->Q (.ref l) (upd H l (.tup ys)))∨(SqT X.K H p ys/\Q (.ref p) H))):=by
 intro pins s σ H xs us Q I r h
 obtain⟨p,ys,rfl,h⟩:=h
 obtain⟨u,rfl,rx⟩:=vals1 r
 cases rx
 rcases h with⟨hq,q⟩|⟨hq,q⟩
 ·obtain⟨its,r',pl,hz⟩:=I.list hq
  have hlen:=r'.length
  refine call_tuple_list pl.isList (λh' kp=>?_) (by simp only[Yh]<;>omega)
  have I1:Inv X pins σ H { s with heap:=h' }:=I.kept (t':=s.toks) kp
  have I2:Inv X pins σ (upd H h'.objs.size (.tup ys)) { s with heap:=h'.push { cls:=.type "tuple",data:=.seq its.toArray } }:=
   I1.laid (t':=s.toks) (λb o e=>Ye _ e) (Yn _) (show JQ X.prog X.w _ _ _ (.tup ys)from⟨hz,its,r',TupP.new _ _⟩)
  exact⟨.ref h'.objs.size,_,I2,rfl,q _ (I1.hok.fresh (Yn _))⟩
 ·obtain⟨its,r',pl,hz⟩:=I.tuple hq
  exact call_tuple_same pl ⟨.ref p,H,I,rfl,q⟩
noncomputable def tyV(K:Frag)(T:String)(x:V)(H:Hp):Prop:=match x with
 |.str _=>T = "str"
 |.int _=>T = "int"
 |.ref p=>(T = "list"/\∃xs,SqL K H p xs)∨(T = "tuple"/\∃o,K.lookup p=some o/\o.cls=.type "tuple"/\o.dict=none) ∨
  (T = "dict"/\((∃kvs,H p=some (.dK kvs))∨∃kvs,H p=some (.dT kvs)))∨(T = "set"/\∃S n,H p=some (.set S n))
 |_=>False
theorem tyV_is{pins:List (Addr×Obj)}{σ:St}{H:Hp}{s:Shared}{T:String}{x:V}{v:Value}(I:Inv X pins σ H s)(r:RelV x v)(ty:tyV X.K T x H):
  s.TypeIs v T/\∀a,v=.ref a->∃ob,s.heap.get? a=some ob/\ob.dict=none:=by
 cases x with
 |str z =>
  obtain⟨t,rfl⟩:=r
  cases(show T = "str" from ty)
  exact⟨VJ s z t,λ_ e=>nomatch e⟩
 |int i =>
  obtain⟨t,rfl⟩:=r
  cases(show T = "int" from ty)
  exact⟨YaX s i t,λ_ e=>nomatch e⟩
 |ref p =>
  cases r
  rcases ty with⟨rfl,xs,hq⟩|⟨rfl,o,hk,hc,hd⟩|⟨rfl,hk⟩|⟨rfl,S,n,hk⟩
  ·obtain⟨its,_,pl,_⟩:=I.list hq
   refine⟨pl.isList.typeIs,λa e=>?_⟩
   cases e
   obtain⟨o,n,e,c,hd,_⟩:=pl
   exact⟨o,e,hd⟩
  ·refine⟨⟨o,I.kIn p o hk,hc⟩,λa e=>?_⟩
   cases e
   exact⟨o,I.kIn _ o hk,hd⟩
  ·have z:∃o,s.heap.get? p=some o/\o.ExactDict:=by
    rcases hk with⟨kvs,hk⟩|⟨kvs,hk⟩
    ·obtain⟨_,_,_,_,o,_,_,e,ex,_⟩:=I.hok p _ hk
     exact⟨o,e,ex⟩
    ·obtain⟨_,_,_,_,o,_,_,e,ex,_⟩:=I.hok p _ hk
     exact⟨o,e,ex⟩
   obtain⟨o,e,ex⟩:=z
   refine⟨⟨o,e,ex.1⟩,λa e2=>?_⟩
   cases e2
   exact⟨o,e,ex.2.1⟩
  ·obtain⟨o,_,_,_,e,ex,_⟩:=I.hok p _ hk
   refine⟨⟨o,e,ex.1⟩,λa e2=>?_⟩
   cases e2
   exact⟨o,e,ex.2.1⟩
 |_=>exact GZ ty
noncomputable def tBM(K:Frag)(T:String)(r:V->List V->Hp->VK->Prop)(to:TE)(t:TA):TE:=λσ H Q=>to σ H λx H1=>tyV K T x H1/\t σ H1 λxs H2=>r x xs H2 Q
variable{o e:Expr}{es:List Expr}{to:TE}{t:TA}{name:Str}{apos cpos:Pos}{T id:String}{r:V->List V->Hp->VK->Prop}
theorem Zlj(pa:PlainAttrs T)(slot:Slot T name id)(hty:typeOf (.builtin id)=pure (.type "method_descriptor"))(hm:MtR X id r)(ho:PE X o to)(ha:PA X (e::es) t)(hbase:Ve o name X.env (eval o X.env)=eval o X.env:=by rfl)(hfew:((backTo cpos (Ww (e::es) X.env)).all (λx=>!x.1)&&(backToKw cpos (keywordEach [] X.env)).all (λx=>x.1.isSome)
   && decide ((e::es).length+([]:List YbB).length+(if([]:List YbB).isEmpty then 0 else 1)<30))=true:=by rfl)(hline:(apos.endLine==cpos.line)=true:=by rfl)(hs:Ww (e::es) X.env=(false,eval e X.env)::Ww es X.env:=by rfl)(hplain:(backTo cpos (Ww es X.env)).any (·.1)=false:=by rfl):
  PE X (.Call (.Attribute o name apos) (e::es) [] cpos) (tBM X.K T r to t):=by
 intro pins s σ H Q I h
 refine wpAny_Call_method_late hbase hfew hline rfl (thn (ho pins s σ H _ I h) λv s1 ⟨x,H1,I1,r1,ty,q1⟩=>?_)
 obtain⟨h1,h2⟩:=tyV_is I1 r1 ty
 refine⟨T,id,pa,slot,hty,h1,h2,?_⟩
 have hA:=ha cpos pins s1 σ H1 _ I1 q1
 rw[hs]at hA ⊢
 refine Calls.callWith_builtin (by show(false || (backTo cpos (Ww es X.env)).any (·.1))=false;rw[hplain]<;>rfl) (Calls.evalArgs_plain ?_)
 exact thn hA λus s2 ⟨vs,H2,I2,r2,q2⟩=>hm pins s2 σ H2 x vs v us Q I2 r1 r2 q2
end
noncomputable def MtM(X:Cx)(id:String)(r:V->List V->Hp->VK->Prop):Prop:=
 ∀(pins:List (Addr×Obj)) (s:Shared) (σ:St) (H:Hp) (x:V) (xs:List V) (v:Value) (us:List Value) (Q:VK),Inv X pins σ H s->RelV x v->Vals xs us->r x xs H Q ->
  wpAny (model X.prog X.w) X.A (call (.builtin id) (v::us)) (EP X pins σ Q) X.xe s
theorem Vals.one:∀{x:V}{us:List Value},Vals [x] us->∃u,us=[u]/\RelV x u
 |_,_,.cons r .nil=>⟨_,rfl,r⟩
theorem Vals.eraseIdx:∀{xs:List V}{us:List Value}(i:Nat),Vals xs us->Vals (xs.eraseIdx i) (us.eraseIdx i)
 |_,_,_,.nil=>.nil
 |_,_,0,.cons _ t=>t
 |_,_,i+1,.cons r t=>.cons r (Vals.eraseIdx i t)
theorem Vals.rep{xs:List V}{us:List Value}(h:Vals xs us):∀k:Nat,Vals (Yo k xs).flatten (Yo k us).flatten
 |0=>.nil
 |k+1=>by
  rw[Wq,Wq,WK,WK]
  exact Vals.append h (Vals.rep h k)
theorem ZgJ{α:Type}:∀(l:List α) (i:Nat),(l.eraseIdx i).length<=l.length
 |[],_=>Yn _
 |_::_,0=>GQ _
 |_::r,i+1=>Nat.succ_le_succ (ZgJ r i)
theorem foldl_rep(its:List Value):∀(k:Nat) (acc:List Value),
  Yak (λx1 x2=>x1++x2) acc.toArray (Yo k its.toArray)=(acc++(Yo k its).flatten).toArray
 |0,acc=>by simp
 |k+1,acc=>by
  have e:acc.toArray++its.toArray=(acc++its).toArray:=by simp
  have e2:(acc++its)++(Yo k its).flatten=acc++(Yo (k+1) its).flatten:=by
   rw[Wq,WK,Wj]
  rw[<-e2,<-foldl_rep its k (acc++its),<-e,Wq,Ut]
section
variable{X:Cx}{pins:List (Addr×Obj)}{σ:St}{H:Hp}{s:Shared}{l b:Addr}{xs ys zs:List V}
theorem Inv.lset{its its':List Value}{n:Nat}{f:Array Value->Array Value}{t':Nat}(I:Inv X pins σ H s)(hH:H l=some (.lst xs))(e:s.heap.get? l=some { cls:=.type "list",data:=.seq its.toArray n })(hf:f its.toArray=its'.toArray)(hv:Vals ys its')(hz:ys.length<=YJ):
  Inv X pins σ (upd H l (.lst ys)) { s with heap:=s.heap.update l (Gw f),toks:=t' }:=by
 have q:=PySem.IsL.update e f
 rw[hf]at q
 refine I.write (x:=l) (e:=l) (by rw[hH];exact trivial) (.inl rfl) (λb' u hb hu=>(Y9 s.heap (Gw f) (Uo hb)).trans hu) ⟨_,q⟩ ?_
 exact⟨hz,its',_,hv,q⟩
theorem Inv.lnew{its:List Value}{t':Nat}(I:Inv X pins σ H s)(hv:Vals ys its)(hz:ys.length<=YJ):
  Inv X pins σ (upd H s.heap.objs.size (.lst ys)) { s with heap:=s.heap.push { cls:=.type "list",data:=.seq its.toArray },toks:=t' }:=
 I.laid (λ_ _ q=>Ye _ q) (Yn _) ⟨hz,its,0,hv,Yy _ rfl⟩
theorem Inv.fresh(I:Inv X pins σ H s):H s.heap.objs.size=none:=I.hok.fresh (Yn _)
theorem Inv.lstM(I:Inv X pins σ H s)(hH:H l=some (.lst xs)):xs.length<=YJ/\∃(its:List Value) (n:Nat),Vals xs its/\xs.length=its.length/\s.heap.get? l=some { cls:=.type "list",data:=.seq its.toArray n }:=by
 obtain⟨z,its,n,r,e⟩:=I.hok l _ hH
 exact⟨z,its,n,r,r.length,e⟩
theorem ZnS{n:Nat}(h:n<=YJ):G4 n=false:=by
 unfold G4
 exact decide_eq_false (by omega)
end
section
variable{X:Cx}
noncomputable def Zpg:V->List V->Hp->VK->Prop:=λx vs H Q=>∃l xs y,x=.ref l/\vs=[y]/\H l=some (.lst xs)/\xs.length<YJ/\Q .non (upd H l (.lst (xs++[y])))
theorem ZlI:MtM X "list.append" Zpg:=by
 intro pins s σ H x vs v us Q I rx rv h
 obtain⟨l,xs,y,rfl,rfl,hH,hz,q⟩:=h
 cases rx
 obtain⟨u,rfl,ru⟩:=rv.one
 obtain⟨z,its,n,r,hl,e⟩:=I.lstM hH
 refine Uv F.slot_list_append ⟨_,e,rfl⟩ F.entry_list_append (F.args_list_append_2 _ _) (PySem.list_append l its.toArray n u (by rw[Yh];omega)) ⟨e,?_⟩
 refine⟨.non,_,I.lset (its':=its++[u]) hH e (by simp) (r.append (.cons ru .nil)) ?_,rfl,q⟩
 rw[Yi,Gn]
 omega
noncomputable def rPopAt:V->List V->Hp->VK->Prop:=λx vs H Q=>∃l xs i k y,x=.ref l/\vs=[.int i]/\H l=some (.lst xs)/\-(2^63)<=i/\i<2^63/\YbG i xs.length=some k/\xs[k]?=some y/\Q y (upd H l (.lst (xs.eraseIdx k)))
theorem ZnX:MtM X "list.pop" rPopAt:=by
 intro pins s σ H x vs v us Q I rx rv h
 obtain⟨l,xs,i,k,y,rfl,rfl,hH,h1,h2,hk,hy,q⟩:=h
 cases rx
 obtain⟨u,rfl,ru⟩:=rv.one
 obtain⟨t,rfl⟩:=ru
 obtain⟨z,its,n,r,hl,e⟩:=I.lstM hH
 obtain⟨w,hw,rw'⟩:=r.get hy
 refine Uv F.slot_list_pop ⟨_,e,rfl⟩ F.entry_list_pop (F.args_list_pop_2 _ _)
  (MeetsSeq.list_pop_at l its.toArray n i t k w (fitsIndex_both h1 h2) (by rw[Yh,<-hl];exact hk) (by rw[<-UG];exact hw) (by rw[Yh];omega)) ⟨e,?_⟩
 refine⟨y,_,I.lset (its':=its.eraseIdx k) hH e ?_ (r.eraseIdx k) ?_,rw',q⟩
 ·show its.toArray.eraseIdxIfInBounds k=(its.eraseIdx k).toArray
  rw[List.eraseIdxIfInBounds_toArray]
 ·have:=ZgJ xs k
  omega
noncomputable def rCat:R2:=λx y H Q=>∃l b xs zs,x=.ref l/\y=.ref b/\H l=some (.lst xs)/\H b=some (.lst zs)/\xs.length+zs.length<=YJ/\∀p,H p=none->Q (.ref p) (upd H p (.lst (xs++zs)))
theorem op_cat:OpR X (Wy .Add) rCat:=by
 intro pins s σ H x y v u Q I rx ry h
 obtain⟨l,b,xs,zs,rfl,rfl,hH,hB,hz,q⟩:=h
 cases rx
 cases ry
 obtain⟨z,its,n,r,hl,e⟩:=I.lstM hH
 obtain⟨z2,its2,n2,r2,hl2,e2⟩:=I.lstM hB
 refine PySem.P.add_list e e2 ?_ (by rw[Yh,Yh];omega)
 have ea:its.toArray++its2.toArray=(its++its2).toArray:=by simp
 rw[ea]
 exact⟨.ref _,_,I.lnew (t':=s.toks) (r.append r2) (by rw[Yi];omega),rfl,q _ I.fresh⟩
noncomputable def rRep:R2:=λx y H Q=>∃l k xs,x=.ref l/\y=.int k/\H l=some (.lst xs)/\-(2^63)<=k/\k<2^63/\xs.length*k.toNat<=YJ /\
 ∀p,H p=none->Q (.ref p) (upd H p (.lst (Yo k.toNat xs).flatten))
theorem len_rep{α:Type}(xs:List α)(k:Nat):(Yo k xs).flatten.length=k*xs.length:=by
 induction k with
 |zero=>simp
 |succ k ih=>rw[Wq,WK,Yi,ih,Nat.succ_mul,Nat.add_comm]
theorem op_rep:OpR X (Wy .Mult) rRep:=by
 intro pins s σ H x y v u Q I rx ry h
 obtain⟨l,k,xs,rfl,rfl,hH,h1,h2,hz,q⟩:=h
 cases rx
 obtain⟨t,rfl⟩:=ry
 obtain⟨z,its,n,r,hl,e⟩:=I.lstM hH
 have hlen:its.toArray.size*k.toNat<=YJ:=by rw[Yh,<-hl];exact hz
 have hcap:¬its.toArray.size*k.toNat>(2^63-1) / 8:=by
  have:(YJ:Nat)<=(2^63-1) / 8:=by decide
  omega
 have hfit:¬(!Builtin.List.listFitsIndex k)=true:=by
  rw[fitsIndex_both h1 h2]
  exact Yw
 have hlong:¬G4 (its.toArray.size*k.toNat)=true:=by
  rw[ZnS hlen]
  exact Yw
 have hnew:Yak (λx1 x2=>x1++x2) #[] (Yo (if its.toArray.isEmpty=true then 0 else k.toNat) its.toArray)=(Yo k.toNat its).flatten.toArray:=by
  have f0:∀m:Nat,Yak (λx1 x2=>x1++x2) #[] (Yo m its.toArray)=(Yo m its).flatten.toArray:=λm=>by
   have:=foldl_rep its m []
   rw[Uc]at this
   exact this
  rw[f0]
  cases its with
  |nil=>simp
  |cons a r'=>rw[if_neg (by simp)]
 refine wpAny_binaryOp_repeat_ref (T:="list") (U:="int") (by decide) ⟨_,e,rfl⟩ (λs'=>YaX s' k t) noFill_list_mul F.fills_int_mul VR repeat_list F.slot_int_index.lookup
  (Uv VR (YaX s k t) F.entry_int_rmul (F.args_int_rmul_2 _ _) (int___rmul___int_list k t l its.toArray n)
   ⟨e,rfl,⟨_,e,rfl⟩,Uv F.slot_list_mul ⟨_,e,rfl⟩ F.entry_list_mul (F.args_list_mul_2 _ _) (AutoListH.list___mul___list_int_3 l its.toArray n k t hfit hcap hlong) ⟨e,?_⟩⟩)
 rw[hnew]
 exact⟨.ref _,_,I.lnew (t':=s.toks) (r.rep k.toNat) (by rw[len_rep,Ybk];exact hz),rfl,q _ I.fresh⟩
end
section
variable{prog:YQ}{w:World}{A:Around}{E:Value->Shared->Prop}{s:Shared}
set_option maxRecDepth 100000 in
end
end L2
namespace Att
open PySem PySem.W PySem.Calls PyProof.Rows
theorem ZdB{P:Params}{h:Heap}:∀(ns:List Int) (vs:List Value),WellAll P h vs (ns.map WData.int)->Ybf vs ns:=by
 intro ns
 induction ns with
 |nil =>
  intro vs w
  rw[U8]at w
  cases w
  exact .nil
 |cons n ns ih =>
  intro vs w
  rw[Yz]at w
  cases w with
  |cons a b =>
   cases a
   exact .cons _ _ (ih _ b)
theorem ZkV{l:Ybq}{n:Nat}(hn:l.most=some n){P:Params}{h:Heap}{args:List WData}{vals:List Value}(hpre:l.row.toRowW.claim.pre args=true)(hwl:WellAll P h vals args):
  ∃a vs ns,vals=[U3 a]/\args=[WData.list (ns.map WData.int)]/\h.get? a=some { cls:=.type "list",data:=.seq vs.toArray }/\Ybf vs ns/\ns.length<=n:=by
 have hsh:WShape.hasAll [] args [.list .int]=true:=(pre_splitW hpre).1
 have hc:l.pre.holds [] { args:=args }=true:=(pre_splitW hpre).2
 obtain⟨d,r,rfl,h1,h2⟩:=hasAllW_cons hsh
 obtain rfl:=hasAllW_nil h2
 obtain⟨xs,rfl,h3⟩:=hasW_list h1
 obtain⟨ns,rfl⟩:=items_int h3
 have hlen:ns.length<=n:=by
  unfold OpenLaw.pre at hc
  have h4:(WTm.not (.lt (.lit (.int (n:Int))) (.len (.arg 0)))).holds [] { args:=[.list (ns.map .int)] }=true:=by
   have h4:=(holds_andW hc).1
   rw[hn]at h4
   exact h4
  have h5:=condW_of h4 (w_not (w_lt w_lit (w_len_list (w_arg rfl))))
  rw[Yc]at h5
  refine Nat.le_of_not_lt λq=>?_
  have q':(n:Int)<((ns.length:Nat):Int):=by omega
  first
   |(rw[decide_eq_true q']at h5;exact absurd h5 (by decide))
   |(simp at h5;omega)
 cases hwl with
 |cons w1 w2 =>
  cases w2
  cases w1 with
  |list ho hall=>exact⟨_,_,ns,rfl,rfl,ho,ZdB ns _ hall,hlen⟩
theorem Zlc(l:Ybq)(args:List WData):l.row.toRowW.claim.post args (.bool true) args=true:=
 postW_of (r:=l.row.toRowW) (X:=(true==true))
  (show WShape.has [] (.bool true) .bool=true by first|rfl|decide|simp[WShape.has,WShape.arms,WShape.armsAll])
  (show(WTm.eq .res (.lit (.bool true))).value [] { args:=args,res:=some (.bool true),after:=args }=some (.bool (true==true))from w_eq_bool (w_res rfl) w_lit) rfl
theorem attach_call{l:Ybq}{n:Nat}{q:YQ}{loose:List Str}{XP:(Str->Option Value)->Heap->Prop}{YP:World->Heap->Prop}{d:DefRec}(hn:l.most=some n)(hdf:d.params.defaults=[])(call:∀(w:World) (s₀ s₁:Shared) (mg mb:Str->Option Value) (fa:Addr) (o:Obj) (pm cd doc:Value) (a:Addr) (vs:List Value) (ns:List Int),
   Ground q loose [] XP w s₀ mg mb s₁.heap->YP w s₁.heap ->
   s₁.heap.get? fa=some o->o.data=.func (docDef d.name d.params d.body d.scope pm cd doc)->s₁.heap.CodeRec cd d.name->mg d.name=some (.ref fa) ->
   s₁.heap.get? a=some { cls:=.type "list",data:=.seq vs.toArray }->Ybf vs ns->ns.length<=n->s₁.gens=#[] ->
   Vb (model l.prog w) Ybg (.call (.ref fa) ⟨[.ref a],[]⟩) (λr s'=>r=.ok (.ret (.bool true))/\OldK s₁.heap s'.heap/\s'.os=s₁.os/\Yas s'.gens) s₁):
  WalkO q loose XP YP l.row.toRowW d [] (λf vs=>G5 f vs):=by
 intro w s₀ s₁ mg mb G Y fa o pm cd doc dV kV ho hd hcd hD hmg hg args vals as hpre hlay hrd hwl hlo
 obtain rfl:dV=.none:=Dflts.none hD hdf
 obtain rfl:kV=.none:=Dflts.noKw hD
 obtain⟨a,vs,ns,rfl,rfl,hobj,hints,hlen⟩:=ZkV hn hpre hwl
 refine enter_call (GX (call w s₀ s₁ mg mb fa o pm cd doc a vs ns G Y ho (fd_plain hd) hcd hmg hobj hints hlen hg) λr s' hq=>?_)
 obtain⟨rfl,h2,h3,h4⟩:=hq
 exact⟨.inl ⟨.bool true,.bool true,[],rfl,λ_=>rfl,.bool true,Zlc l _,λ_=>⟨List.Pairwise.nil,λ_ hm=>(nomatch hm)⟩⟩,h2,h3,h4⟩
end Att
namespace L2
open PySem PySem.Spec PyProof.Rows
theorem ZfY:∀{vs:List Value}{ns:List Int},Ybf vs ns->Vals (ns.map V.int) vs
 |_,_,.nil=>.nil
 |_,_,.cons n t h=>.cons ⟨t,rfl⟩ (ZfY h)
noncomputable def ZaF(s:Stmt):YbF:=match s with
 |.FunctionDef _ a _ _ _ _ _ _ _ _=>a
 |_=>{ posonlyargs:=[],args:=[],vararg:=none,kwonlyargs:=[],kw_defaults:=[],kwarg:=none,defaults:=[] }
noncomputable def Q5(s:Stmt):List Stmt:=match s with
 |.FunctionDef _ _ b _ _ _ _ _ _ _=>b
 |_=>[]
noncomputable def Zc(s:Stmt):Scope:=match s with
 |.FunctionDef _ _ _ _ _ _ sc _ _ _=>sc
 |_=>{ kind:=.function,names:=[],isGenerator:=false,isCoroutine:=false }
noncomputable abbrev CX0:CXT:=λ_ _ _ _ _ _=>False
structure Fun (K:Frag) (x qual:Str) (st:Stmt) (f:Addr) (fd:W8):Prop where
 ex:∃(oc:Value) (od:Option Addr) (kV doc pm:Value) (an:Option Addr) (cdv ct:Value) (osl:Array (Option Value)),
  fd=fnOf x qual (ZaF st) (Q5 st) (Zc st) .none kV doc pm an cdv ct/\K.lookup f=some ⟨oc,od,.func fd,osl⟩/\codeIn K cdv qual=true
 kp:keepIn K (.ref f)=true
section
variable{P:YQ}{w:World}{K:Frag}{mg:Str->Option Value}{base:Heap}
theorem Fun.binds{x qual:Str}{st:Stmt}{f:Addr}{fd:W8}{ps:List Str}(F:Fun K x qual st f fd)(h:∀(kV doc pm:Value) (an:Option Addr) (cdv ct:Value) (us:List Value),us.length=ps.length->Gj (fnOf x qual (ZaF st) (Q5 st) (Zc st) .none kV doc pm an cdv ct) ⟨us,[]⟩=pure (ps.zip us)):Binds K fd ps []:=by
 obtain⟨oc,od,kV,doc,pm,an,cdv,ct,osl,rfl,lk,hcd⟩:=F.ex
 exact .all (h kV doc pm an cdv ct)
theorem ZoP{x qual:Str}{st:Stmt}{f:Addr}{oc:Value}{od an:Option Addr}{osl:Array (Option Value)}{kV doc pm cdv ct:Value}(l:K.lookup f=some ⟨oc,od,.func (fnOf x qual (ZaF st) (Q5 st) (Zc st) .none kV doc pm an cdv ct),osl⟩)(c:codeIn K cdv qual=true)(k:keepIn K (.ref f)=true):Fun K x qual st f (fnOf x qual (ZaF st) (Q5 st) (Zc st) .none kV doc pm an cdv ct):=⟨⟨oc,od,kV,doc,pm,an,cdv,ct,osl,rfl,l,c⟩,k⟩
end
theorem iteF{A B:Prop}(h:B):if false=true then A else B:=by
 rw[if_neg Yw]
 exact h
theorem iteT{A B:Prop}(h:A):if true=true then A else B:=by
 rw[if_pos rfl]
 exact h
noncomputable def Same(H H':Hp):Prop:=∀b o,H b=some o->H' b=some o
end L2
end
namespace L2
open PySem PySem.Spec PyProof.Rows
section
variable{κ:Type}[DecidableEq κ]
noncomputable def valV(kvs:List (κ×V))(k:κ):Option V:=(kvs.find? λkv=>decide (kv.1=k)).map (·.2)
noncomputable def putK(kvs:List (κ×V))(k:κ)(v:V):List (κ×V):=
 if(kvs.any λkv=>decide (kv.1=k))=true then kvs.map (λkv=>if kv.1=k then(kv.1,v)else kv)else kvs++[(k,v)]
noncomputable def dropK(kvs:List (κ×V))(k:κ):List (κ×V):=kvs.filter λkv=>decide (kv.1≠k)
theorem ZmV{p:κ×V}{r:List (κ×V)}{k:κ}(e:p.1=k):valV (p::r) k=some p.2:=by simp[valV,Gp,e]
theorem ZmW{p:κ×V}{r:List (κ×V)}{k:κ}(e:¬p.1=k):valV (p::r) k=valV r k:=by simp[valV,Gp,e]
theorem KV.val{kvs:List (κ×V)}{vs:List (κ×Value)}(r:KV kvs vs)(k:κ):RelO (valV kvs k) (Ya3 vs k):=by
 unfold KV at r
 induction r with
 |nil=>exact W4
 |@cons p q ps qs h t ih =>
  obtain⟨h1,h2⟩:=h
  by_cases e:p.1=k
  ·have e':q.1=k:=h1.symm.trans e
   have b:Ya3 (q::qs) k=some q.2:=by simp[Ya3,Gp,e']
   rw[ZmV e,b];exact h2
  ·have e':¬q.1=k:=λz=>e (h1.trans z)
   have b:Ya3 (q::qs) k=Ya3 qs k:=by simp[Ya3,Gp,e']
   rw[ZmW e,b];exact ih
end
theorem Zqe{P:YQ}{w:World}{k:Key}{u:Value}(r:RelV (kV k) u):(Xc P w).is k u=true:=by
 cases k with
 |inl i=>obtain⟨t,e⟩:=(show ∃t,u=Ybn i t from r);subst e;exact ZhN P w i t
 |inr x=>obtain⟨t,e⟩:=(show ∃t,u=Va x t from r);subst e;exact ZhM P w x t
noncomputable abbrev KT(H:Hp):List (List Key×V)->List (List Key×Addr×Value)->Prop:=Paired λp q=>p.1=q.1/\H q.2.1=some (.tup (p.1.map kV))/\RelV p.2 q.2.2
noncomputable def DGet(H:Hp)(a:Addr)(y:V)(r:Option V):Prop:=
 (∃kvs k,Rd H a (.dK kvs)/\y=kV k/\r=valV kvs k)∨∃kvs k b,Rd H a (.dT kvs)/\y=.ref b/\H b=some (.tup (k.map kV))/\r=valV kvs k
noncomputable def DPut(H:Hp)(a:Addr)(y v:V)(H':Hp):Prop:=
 (∃kvs k,H a=some (.dK kvs)/\y=kV k/\kvs.length<YJ/\H'=upd H a (.dK (putK kvs k v))) ∨
 ∃kvs k b,H a=some (.dT kvs)/\y=.ref b/\H b=some (.tup (k.map kV))/\kvs.length<YJ/\H'=upd H a (.dT (putK kvs k v))
noncomputable def NoSl(i:Expr):Prop:=∀ov iv,Ya2 i false ov iv=operate [ov,iv] (Yag ov iv)
theorem Zo9{prog:YQ}{w:World}{A:Around}{E:Value->Shared->Prop}{s:Shared}{env:Env}{value slice:Expr}{pos:Pos}{T id:String}{Q:Value->Shared->Prop}(hl:Ybd (.type T) "__getitem__" = pure (some (.builtin id)))(hs:NoSl slice)(h:wpAny (model prog w) A (eval value env) (λo s₁=>wpAny (model prog w) A (eval slice env) (λi s₂=>s₂.TypeIs o T/\wpAny (model prog w) A (Yag o i) Q E s₂) E s₁) E s):
  wpAny (model prog w) A (eval (.Subscript value slice pos) env) Q E s:=by
 refine Ybv (Ul h (λo s₁ h₁=>Ul h₁ (λi s₂ h₂=>?_) λ_ _ x=>x) λ_ _ x=>x)
 obtain⟨hT,h₂⟩:=h₂
 unfold Ya7
 refine Yb ?_
 rw[getitemInPython_of_ne hT.not_modules]
 refine Yb (wpAny_specialOf hT hl ?_)
 have fin:wpAny (model prog w) A (Ya2 slice false o i) (λr s₃=>wpAny (model prog w) A (letTemporaryGo value o r >>= λ_=>pure r) Q E s₃) E s₂:=by
  rw[hs o i]
  exact wpAny_operating (Ul h₂ (λr s₃ h₃=>Yb (wpAny_letTemporaryGo (Yd h₃))) λ_ _ x=>x)
 first
  |exact Yd (Yb fin)
  |exact Yb (Yd (Yb fin))
  |exact Yb fin
end L2
namespace Mi
open PySem PySem.Spec PyProof.Rows L2
theorem Zfp(t:Uh)(n:Nat):(t.orStandIn n).led=t.led:=by unfold SetTable.orStandIn;split<;>rfl
theorem Zdr(t:Uh)(n:Nat)(h:t.plain=false):(t.orStandIn n).plain=false:=by unfold SetTable.orStandIn;split<;>first|exact h|rfl
theorem ZjR(t:Uh)(es:Array (Int×Value))(h:Int)(x:Value):(layNew t es h x).2.1.led=t.led:=by
 unfold layNew
 split
 ·exact Zfp _ _
 ·rfl
theorem ZgL(t:Uh)(es:Array (Int×Value))(h:Int)(x:Value)(hp:t.plain=false):(layNew t es h x).2.1.plain=false:=by
 unfold layNew
 split
 ·exact Zdr _ _ hp
 ·rfl
theorem ZeB{t t':Uh}{hs:Array Int}{n:Nat}{o:Array Nat}(h:t.relaid hs n=some (t',o)):t'.led=t.led/\t'.plain=t.plain:=by
 unfold SetTable.relaid SetTable.laid at h
 simp only[Option.bind_eq_bind]at h
 obtain⟨w,_,h2⟩:=Option.bind_eq_some_iff.mp h
 cases h2
 exact⟨rfl,rfl⟩
theorem Zgk(t:Uh)(es:Array (Int×Value))(n:Nat):(Yay t es n).2.1.led=t.led:=by
 unfold Yay
 split
 ·rename_i t' o h
  dsimp only
  split
  ·exact(ZeB h).1
  ·rfl
 ·rfl
theorem Zed(t:Uh)(es:Array (Int×Value))(n:Nat)(hp:t.plain=false):(Yay t es n).2.1.plain=false:=by
 unfold Yay
 split
 ·rename_i t' o h
  dsimp only
  split
  ·exact(ZeB h).2.trans hp
  ·rfl
 ·rfl
structure SetE (prog:YQ) (w:World) (led:Bool) (o:Obj) (D:List Str) (es:Array (Int×Value)) (ep:Nat) (t:Uh):Prop where
 ex:o.ExactSet
 data:o.data=.set es ep t
 el:ElemsOf (Wu prog w) es.toList
 txs:(es.toList.map λe=>strOf e.2).Perm D
 nd:D.Nodup
 room:es.size<VV
 fits:t.fits es.size=true
 led:t.led=led
 plain:es.size≠0->t.plain=false
noncomputable def SetS(prog:YQ)(w:World)(led:Bool)(h:Heap)(a:Addr)(D:List Str):Prop:=∃o es ep t,h.get? a=some o/\SetE prog w led o D es ep t
theorem ZdA{x:Str}{v:Value}(h:U9 x v=true):strOf v=x:=by
 obtain⟨t,rfl⟩:=VL h
 rfl
section
variable{prog:YQ}{w:World}{A:Around}{E:Value->Shared->Prop}{s:Shared}{led:Bool}
theorem Zm4{v:Value}(h:∃k,(Wu prog w).is k v=true):U9 (strOf v) v=true:=by
 obtain⟨k,hk⟩:=h
 have hk:=hk
 rw[ZdA hk]
 exact hk
theorem ZiF{es:List (Int×Value)}(he:ElemsOf (Wu prog w) es)(k:Str):(∃e∈es,(Wu prog w).is k e.2=true)↔k∈es.map λe=>strOf e.2:=by
 constructor
 ·rintro ⟨e,he,hk⟩
  exact YK.mpr ⟨e,he,ZdA hk⟩
 ·intro h
  obtain⟨e,hm,rfl⟩:=YK.mp h
  obtain⟨⟨k,hk,_⟩,_⟩:=he e hm
  exact⟨e,hm,Zm4 ⟨k,hk⟩⟩
theorem add_str{a:Addr}{D:List Str}{x:Str}{tk:Tok}{Q:Bool->Shared->Prop}(hS:SetS prog w led s.heap a D)(hroom:D.length+1<VV)(h:∀h' b,GR a s.heap h'->SetS prog w led h' a (if x∈D then D else D++[x])->Q b { s with heap:=h' }):
  wpAny (model prog w) A (Ybl a (.str x tk) (hashStr w x)) Q E s:=by
 obtain⟨o,es,ep,t,ho,hE⟩:=hS
 have hex:=hE.ex
 have hd:=hE.data
 have hel:=hE.el
 have hf:=hE.fits
 have hkey:(Wu prog w).is x (.str x tk)=true:=by show U9 x (.str x tk)=true;simp[U9]
 have hsc:(Va x tk).scannable=true:=rfl
 have hlen:es.size=D.length:=by rw[<-hE.txs.length_eq,Yc,Y8]
 show wpAny (model prog w) A (Ybl a (.str x tk) ((Wu prog w).hash x)) Q E s
 unfold Ybl setAddHashedIn
 refine WN (Yb (WL ho hd hf ?_))
 dsimp only
 rw[byScan_of hsc hE.room hel]
 simp only[↓reduceIte]
 unfold setAddByScan
 refine Yb ?_
 refine Yb (Vo ?_)
 refine Yb (wpAny_setScan_of hkey ho hd hf hel ?_)
 cases hr:List.findIdx? (λe=>(Wu prog w).is x e.2) es.toList with
 |some j =>
  obtain⟨hj,hpj,_⟩:=List.findIdx?_eq_some_iff_getElem.mp hr
  have hm:=hE.txs.mem_iff.mp ((ZiF hel x).mp ⟨_,Ge hj,hpj⟩)
  refine Yd (Yd ?_)
  have:=h s.heap false (Heap.SameBut.refl a s.heap) (by rw[if_pos hm];exact⟨o,es,ep,t,ho,hE⟩)
  exact this
 |none =>
  have hm:x∉D:=λhx=>by
   obtain⟨e,he,hp⟩:=(ZiF hel x).mpr (hE.txs.mem_iff.mpr hx)
   have:=List.findIdx?_eq_none_iff.mp hr e he
   rw[hp]at this
   exact Bool.noConfusion this
  have hgw:∀(b:Bool) (s₁:Shared) (Q':Unit->Shared->Prop),Q' () s₁->wpAny (model prog w) A (match b with|true=>rule "set.scan.the-table-gave-way" | false=>pure ()) Q' E s₁:=
   λb s₁ Q' hq=>by cases b<;>first|exact Yd hq|exact Vo hq
  have hperm:=layNew_perm t es ((Wu prog w).hash x) (.str x tk)
  have hfits:=layNew_fits t es ((Wu prog w).hash x) (.str x tk)
  have hled:=ZjR t es ((Wu prog w).hash x) (.str x tk)
  have hplain:=ZgL t es ((Wu prog w).hash x) (.str x tk)
  generalize hL:layNew t es ((Wu prog w).hash x) (.str x tk)=L at hperm hfits hled hplain ⊢
  obtain⟨es1,t1,wasDummy,gave⟩:=L
  dsimp only at hperm hfits hled hplain ⊢
  rw[Array.toList_push]at hperm
  have hel1:=(hel.push hkey hsc).perm hperm
  have hsz1:es1.size=es.size+1:=by rw[<-Y8,hperm.length_eq,Yi,Y8];rfl
  have hb1:es1.size<VV:=by omega
  have hst1:(es1.toList.map λe=>strOf e.2).Perm (D++[x]):=by
   refine(hperm.map _).trans ?_
   rw[YaO]
   exact hE.txs.append_right _
  have hnd:(D++[x]).Nodup:=by
   rw[List.nodup_append]
   refine⟨hE.nd,by simp,λy hy z hz=>?_⟩
   rw[YX.mp hz]
   exact λe=>hm (e▸hy)
  -- the end,at a table that is plain no more
  have fin:∀t2:Uh,t2.led=led->t2.plain=false->t2.fits es1.size=true->wpAny (model prog w) A (do
    storeSet a es1 t2
    if(!wasDummy&&t2.tooFull)=true then do
      (match(Yay t2 es1 (UW es1.size)).2.2 with|true=>rule "set.scan.the-table-gave-way" | false=>pure ())
      storeSet a (Yay t2 es1 (UW es1.size)).1 (Yay t2 es1 (UW es1.size)).2.1
      pure (some true)
     else pure (some true)) (λr s'=>match r with
      |some b=>Q b s'
      |none=>False) E s:=λt2 hl2 hp2 hf2=>by
   have hg1:(s.heap.update a (Yal es1 t2)).get? a=some { o with data:=.set es1 (ep+1) t2 }:=by
    have:=Wg (Yal es1 t2) ho (by rw[putSet_of es1 t2 hd];rfl)
    rw[putSet_of es1 t2 hd]at this
    exact this
   have hsb1:=Wr s.heap a (Yal es1 t2)
   refine Yb (wpAny_storeSet_of ho hd ?_ (Yam hb1))
   split
   ·have hp:=relayAll_perm t2 es1 (UW es1.size)
    have hfr:=relayAll_fits t2 es1 (UW es1.size)
    have hrl:=Zgk t2 es1 (UW es1.size)
    have hrp:=Zed t2 es1 (UW es1.size) hp2
    generalize Yay t2 es1 (UW es1.size)=Rl at hp hfr hrl hrp ⊢
    obtain⟨es2,t3,gave2⟩:=Rl
    dsimp only at hp hfr hrl hrp ⊢
    have hsz:es2.size=es1.size:=by rw[<-Y8,hp.length_eq,Y8]
    refine Yb (hgw _ _ _ ?_)
    refine Yb (wpAny_storeSet_of hg1 rfl ?_ (Yam (by omega)))
    have hg2:((s.heap.update a (Yal es1 t2)).update a (Yal es2 t3)).get? a=some { o with data:=.set es2 (ep+1+1) t3 }:=
     Wg (Yal es2 t3) hg1 rfl
    refine Yd (h _ true (hsb1.trans (Wr _ a _)) ?_)
    rw[if_neg hm]
    exact⟨_,es2,_,t3,hg2,⟨hex,rfl,hel1.perm hp,(hp.map _).trans hst1,hnd,by omega,hfr,hrl.trans hl2,λ_=>hrp⟩⟩
   ·refine Yd (h _ true hsb1 ?_)
    rw[if_neg hm]
    exact⟨_,es1,_,t2,hg1,⟨hex,rfl,hel1,hst1,hnd,hb1,hf2,hl2,λ_=>hp2⟩⟩
  refine Yb (hgw _ _ _ ?_)
  have done:∀{r:Option Bool}{s':Shared},(match r with
    |some b=>Q b s'
    |none=>False)->wpAny (model prog w) A (match r with
     |some added=>pure added
     |none=>setAddHashedIn a (.str x tk) ((Wu prog w).hash x) 99999) Q E s':=λ{r s'} hr=>by
   cases r with
   |none=>exact hr.elim
   |some b=>exact Yd hr
  split
  ·refine Yb ?_
   rw[hashByValue_scannable 8 hsc]
   refine Yd ?_
   exact Ul (fin { t1 with plain:=false } (hled.trans hE.led) rfl (SetTable.fits_plain_off hfits)) (λr s' hr=>done hr) λ_ _ e=>e
  ·rename_i hpl
   refine Yb (Yd ?_)
   simp only[↓reduceIte]
   exact Ul (fin t1 (hled.trans hE.led) (by simpa using hpl) hfits) (λr s' hr=>done hr) λ_ _ e=>e
noncomputable def dd(val:Nat->Str):Nat->List Str
 |0=>[]
 |i+1=>if val i∈dd val i then dd val i else dd val i++[val i]
theorem Zmr(val:Nat->Str):∀i,(dd val i).length<=i
 |0=>Yn _
 |i+1=>by
  have:=Zmr val i
  unfold dd
  split
  ·omega
  ·rw[Yi,Gn];omega
noncomputable abbrev Zaw(w:World):Bool:=!w.params.followText "set-order"
theorem SetS.at'{h h':Heap}{a:Addr}{D:List Str}(hS:SetS prog w led h a D)(k:∀o,h.get? a=some o->h'.get? a=some o):SetS prog w led h' a D:=by
 obtain⟨o,es,ep,t,ho,hE⟩:=hS
 exact⟨o,es,ep,t,k o ho,hE⟩
theorem Zm9{I:Addr}{fp wr:List Addr}{G:Array YbA->Array YbA->Prop}{n:Nat}{P:Nat->Value->Prop}{St:Nat->Shared->Prop}{R:Result->Shared->Prop}(W:WalksS prog w A.in1 I fp wr G n P St)(S:Addr)(hSf:S∉fp)(val:Nat->Str)(hval:∀i v,P i v->∃t,v=.str (val i) t)(hb:n+1<VV):∀(k i:Nat) (s:Shared),n-i=k->i<=n->St i s->SetS prog w led s.heap S (dd val i) ->
   (∀s',Moved (S::wr) G s s'->SetS prog w led s'.heap S (dd val n)->R (.ok (.ret .none)) s')->Vb (model prog w) A (.builtin "set.update.loop" ⟨[.ref S,.ref I],[]⟩) R s:=by
 have hSw:=λh=>hSf (W.sub _ h)
 have hsub:∀b∈wr,b∈S::wr:=λb hb=>Yp _ hb
 intro k
 induction k with
 |zero =>
  intro i s hk hi hst hS hR
  have hin:i=n:=by omega
  subst hin
  refine Gq PyProof.Rows.F.entry_set_update_loop ?_
  rw[U0 Uj _]
  refine Yb (W.done s _ _ hst λs' hm=>?_)
  exact Yd (hR s' (hm.mono hsub) (hS.at' λo ho=>hm.heap S _ hSw ho))
 |succ k ih =>
  intro i s hk hi hst hS hR
  have hlt:i<n:=by omega
  refine Gq PyProof.Rows.F.entry_set_update_loop ?_
  rw[U0 Uj _]
  refine Yb (W.item i s _ _ hlt hst λv s' hP hst' hm=>?_)
  obtain⟨t,rfl⟩:=hval i v hP
  have hS':=hS.at' λo ho=>hm.heap S _ hSw ho
  refine Yb (WN ?_)
  unfold setAdd
  refine WN ?_
  refine Yb ((Wu prog w).pyHash (by show U9 (val i) (.str (val i) t)=true;simp[U9]) ?_)
  have hroom:(dd val i).length+1<VV:=by have:=Zmr val i;omega
  refine add_str hS' hroom λh' b hsb hS2=>?_
  refine Yd ⟨Yaz Uj _,ih (i+1) _ (by omega) hlt (W.frame _ s' _ _ hst' (GQ _) λb hb o e=>?_) hS2 λs'' hm'' hS''=>?_⟩
  ·rw[hsb.2 b (λh:b=S=>hSf (by rw[<-h];exact hb))];exact e
  ·refine hR s'' (Moved.trans W.gtrans ((hm.mono hsub).then_heap (GQ _) λb o hb e=>?_) hm'') hS''
   rw[hsb.2 b (λh:b=S=>hb (by rw[h];exact Yv))];exact e
theorem Zm8(a:Value){Q₁:Value->Shared->Prop}(h:Q₁ (.ref s.heap.objs.size) { s with heap:=s.heap.push { cls:=.type "set",dict:=none,data:=.set #[] 0 (.fresh 0 0 (Zaw w)) } }):
  Vb (model prog w) A (.call (.builtin "set.__new__") ⟨[.type "set",a],[]⟩) (wants Q₁ E) s:=by
 refine V0 ?_
 refine Yb (Ybr (PySem.F.newCall_set_1 a) (Yd ⟨Yaz PySem.F.plain_set_new _,Gq PySem.F.entry_set_new ?_⟩))
 rw[U0 PySem.F.plain_set_new _]
 unfold Builtin.«set.__new__» Builtin.Frozenset.newClass
 have hsub:=sub_set_self
 obtain⟨hp,g,d,tk,os⟩:=s
 wp_walk
 refine Gf (Yd ?_)
 simp only[newObj]
 refine Yb (wpAny_alloc (Yd ?_))
 exact Yd h
theorem Zma{h:Heap}{a:Addr}{led:Bool}(ha:h.get? a=some { cls:=.type "set",dict:=none,data:=.set #[] 0 (.fresh 0 0 led) }):SetS prog w led h a []:=
 ⟨_,#[],0,_,ha,⟨⟨rfl,rfl,rfl⟩,rfl,λe he=>by simp at he,List.Perm.nil,List.nodup_nil,by unfold VV;decide,rfl,rfl,λh=>absurd rfl h⟩⟩
set_option maxHeartbeats 3200000 in
theorem ZfP{l:Addr}{items:Array Value}{val:Nat->Str}{Q:Value->Shared->Prop}(hh:A.handled=none)(hl:s.heap.IsList l items)(hv:∀(i:Nat) v,items[i]?=some v->∃t,v=.str (val i) t)(hb:items.size+1<VV)(h:∀(h':Heap) (tk:Nat),SetS prog w (Zaw w) h' s.heap.objs.size (dd val items.size)->(∀b o,s.heap.get? b=some o->h'.get? b=some o)->Q (.ref s.heap.objs.size) { s with heap:=h',toks:=tk }):
  wpAny (model prog w) A (G5 (.type "set") [.ref l]) Q E s:=by
 obtain⟨c,tl,hmro⟩:=PySem.F.called_set.mro
 have hmade:=PySem.F.called_set.made
 have hsub:=PySem.F.called_set.sub
 refine wpAny_call (V0 ?_)
 refine Yd ⟨Code.quiet_builtin _ (by decide +kernel),Gq PySem.F.entry_type_call ?_⟩
 rw[Around.under_plain (weight_type_call_type "set" [.ref l] []) rfl]
 have h1:=PySem.F.called_set.notType
 have h2:=PySem.F.called_set.canCreate
 have hct:=PySem.F.typeCall_set_1 (.ref l)
 repeat (any_goals (first|assumption|wp_step))
 refine GX (Zm8 (.ref l) (E:=E) (Q₁:=λobj s₁=>obj=.ref s.heap.objs.size/\s₁={ s with heap:=s.heap.push { cls:=.type "set",dict:=none,data:=.set #[] 0 (.fresh 0 0 (Zaw w)) } }) ⟨rfl,rfl⟩) λr s₁ hr=>?_
 cases r with
 |error e=>exact hr
 |ok fl =>
  cases fl with
  |ret obj =>
   obtain⟨rfl,rfl⟩:=hr
   have hS:(s.heap.push { cls:=.type "set",dict:=none,data:=.set #[] 0 (.fresh 0 0 (Zaw w)) }).get? s.heap.objs.size=some { cls:=.type "set",dict:=none,data:=.set #[] 0 (.fresh 0 0 (Zaw w)) }:=Yy _ rfl
   have hT:Ya8 { s with heap:=s.heap.push { cls:=.type "set",dict:=none,data:=.set #[] 0 (.fresh 0 0 (Zaw w)) } } (.ref s.heap.objs.size) "set":=⟨_,hS,rfl⟩
   have hli:=PySem.F.called_set.init.lookup
   have hbi:=PySem.F.called_set.init.bind (.ref s.heap.objs.size)
   repeat (any_goals (first|assumption|wp_step))
   refine GX (codeAny_call_builtin (R:=wants (λr s₂=>r=.none/\∃h' tk,s₂={ s with heap:=h',toks:=tk }/\SetS prog w (Zaw w) h' s.heap.objs.size (dd val items.size)/\(∀b o,s.heap.get? b=some o->h'.get? b=some o)) E) PySem.F.called_set.init.plain PySem.F.entry_set_init (check_set_init_1 hT ?_)) λr₂ s₂ hr₂=>?_
   ·obtain⟨ol,hol,hcl,nl,hdl⟩:=hl
    obtain⟨ocls,odict,odata,oslots⟩:=ol
    simp only at hcl hdl
    subst hcl;subst hdl
    have hol':(s.heap.push { cls:=.type "set",dict:=none,data:=.set #[] 0 (.fresh 0 0 (Zaw w)) }).get? l=some { cls:=.type "list",dict:=odict,data:=.seq items nl,slots:=oslots }:=Ye _ hol
    have hsls:=PySem.F.sub_list_set
    have hslf:=PySem.F.sub_list_frozenset
    have hne:(YaW "list" == YaW "dict")=false:=by decide
    have hl1:(s.heap.push { cls:=.type "set",dict:=none,data:=.set #[] 0 (.fresh 0 0 (Zaw w)) }).IsList l items:=⟨_,hol',rfl,nl,rfl⟩
    unfold Builtin.«set.__init__» noKeywords Builtin.Frozenset.updateFrom
    generalize hPI:pyIter=PI
    wp_walk
    subst hPI
    refine Yan hl1 ?_
    refine Yb (wpAny_runValue ?_)
    have hlS:=Yx hol
    have hh3:A.in1.in1.in1.handled=none:=by simp[hh]
    have hneI:l≠(s.heap.push { cls:=.type "set",dict:=none,data:=.set #[] 0 (.fresh 0 0 (Zaw w)) }).objs.size:=by
     rw[Ws];exact YZ (W6 hlS)
    have hSf:s.heap.objs.size∉[(s.heap.push { cls:=.type "set",dict:=none,data:=.set #[] 0 (.fresh 0 0 (Zaw w)) }).objs.size,l]:=by
     rw[Ws];simp only[Ym,YX,Yt,or_false,not_or]
     exact⟨YZ (Gg _),Vs hlS⟩
    refine Zm9 (led:=Zaw w) ((Walks.list hh3 _ l hneI items).toS) s.heap.objs.size hSf val hv hb (items.size-0) 0 _ (by omega) (Gr _)
     ⟨⟨_,Yy _ rfl,rfl,rfl⟩,(hl1.push _)⟩ ?hS0 ?hR
    case hS0 =>
     exact Zma (Ye _ hS)
    case hR =>
     intro s' hm hS'
     obtain⟨h',g',d',tk',os'⟩:=s'
     have eg:=hm.gens
     have ed:=hm.drawn
     have eo:=hm.os
     subst eg;subst ed;subst eo
     refine Yd ?_
     refine Yd ⟨rfl,h',tk',rfl,hS',λb o e=>?_⟩
     have hb:=Yx e
     have hb1:=YZ hb
     have hb2:b≠(s.heap.push { cls:=.type "set",dict:=none,data:=.set #[] 0 (.fresh 0 0 (Zaw w)) }).objs.size:=by
      rw[Ws];exact YZ (W6 hb)
     exact hm.heap b o (by simp only[Ym,YX,Yt,or_false,not_or];exact⟨hb1,hb2⟩) (Ye _ (Ye _ e))
   ·cases r₂ with
    |error e=>exact hr₂
    |ok fl₂ =>
     cases fl₂ with
     |ret r =>
      obtain⟨rfl,h',tk,rfl,hS',hk'⟩:=hr₂
      repeat (any_goals (first|assumption|wp_step))
      exact h _ _ hS' hk'
     |_=>exact hr₂.elim
  |_=>exact hr.elim
end
end Mi
namespace PySem.F
theorem Zak:Manifest.owners.lookup (String.ofList ['r','o','t','a','r','e','t','i','_','t','e','s'].reverse)=some Manifest.sig_set_iterator:=by kernel_rfl
theorem slot_set_iterator_next:Slot "set_iterator" "__next__" "set_iterator.__next__" :=
 .of (owner:="set_iterator") (n:="__next__") (by rw[typeLookup_type,builtinLookup_eq_fast];kernel_rfl) (by decide +kernel) (by decide +kernel) (by decide +kernel)
  (by first|exact .inl (by decide +kernel)|exact .inr (by decide +kernel)) (by rw[Ya1];kernel_rfl)
theorem entry_set_iterator_next:entryFor table "set_iterator.__next__" = some Builtin.«set_iterator.__next__»:=entryFor_of_tree (by kernel_rfl)
theorem args_set_iterator_next_1(a:Value):argsOk "set_iterator.__next__" ⟨[a],[]⟩:=by
 unfold argsOk;rw[signature?_of (n:=['_','_','t','x','e','n','_','_']) (by kernel_rfl) Zak];kernel_rfl
theorem entry_set_iter_here:entryFor table "set.__iter__" = some Builtin.«frozenset.__iter__»:=entryFor_alias (id':="frozenset.__iter__") (by kernel_rfl) rfl (by decide +kernel) (by kernel_rfl)
end PySem.F
namespace Mi
open PySem PySem.Spec PyProof.Rows L2
section
variable{M:Model}{A:Around}{E:Value->Shared->Prop}{s:Shared}
theorem Zi3{src:Source}{n:Nat}{Q:Nat->Shared->Prop}(hn:n≠0)(h:∀i d,i<n->Q i { s with drawn:=d }):wpAny M A (choose src n) Q E s:=
 λΓ p hΓ=>⟨hn,h _ _ (Ybx _ (Nat.pos_of_ne_zero hn))⟩
theorem Zcj{α:Type}:∀(l:List α) (i:Nat) (h:i<l.length),(l[i]::l.eraseIdx i).Perm l
 |_::_,0,_=>.refl _
 |x::l,i+1,h=>by
  have h':i<l.length:=by simpa using h
  exact(List.Perm.swap ..).trans ((Zcj l i h').cons x)
theorem Zdq{α:Type}:∀(n:Nat) (xs:List α) {s:Shared}{Q:List α->Shared->Prop},xs.length=n->(∀ys d,ys.Perm xs->Q ys { s with drawn:=d })->wpAny M A (YbH n xs) Q E s
 |0,xs,s,Q,hl,h=>by
  have e:=List.eq_nil_of_length_eq_zero hl
  subst e
  unfold YbH
  exact Yd (h [] s.drawn .nil)
 |n+1,[],s,Q,hl,h=>by simp at hl
 |n+1,x::xs,s,Q,hl,h=>by
  unfold YbH
  refine Yb (Zi3 (by simp) λi d hi=>?_)
  have e:=YM hi
  rw[e]
  refine Yb (Zdq n ((x::xs).eraseIdx i) (by rw[Gz hi,hl];rfl) λys d' hp=>?_)
  exact Yd (h _ d' ((hp.cons _).trans (Zcj _ _ hi)))
theorem Zgx{α:Type}(next:Nat->Nat):∀(fuel k:Nat) (left:List α) (out:Array α),left.length=fuel->(Ybm next fuel k left out).toList.Perm (out.toList++left)
 |0,k,left,out,h=>by
  have e:=List.eq_nil_of_length_eq_zero h
  subst e
  unfold Ybm
  rw[Ur]
 |fuel+1,k,left,out,h=>by
  unfold Ybm
  have hi:next k%left.length<left.length:=Ybx _ (by omega)
  rw[YM hi]
  refine(Zgx next fuel (k+1) _ _ (by rw[Gz hi];omega)).trans ?_
  rw[Array.toList_push,Wj]
  exact(Zcj left _ hi).append_left _
theorem picked{α:Type}(next:Nat->Nat)(xs:Array α):(Vu next xs).toList.Perm xs.toList:=by
 unfold Vu
 exact Zgx next xs.size 0 xs.toList #[] (by simp)
end
section
variable{prog:YQ}{w:World}{A:Around}{E:Value->Shared->Prop}{s:Shared}
noncomputable def Xe(h:Heap)(it a:Addr)(first:Value)(i n ep:Nat):Prop:=∃o,h.get? it=some o/\o.cls=.type "set_iterator"/\o.data=.fields #[first,.int i 0,.ref a,.int n 0,.int ep 0]
theorem Xe.typeIs{it a:Addr}{first:Value}{i n ep:Nat}(h:Xe s.heap it a first i n ep):s.TypeIs (.ref it) "set_iterator":=let⟨o,ho,hc,_⟩:=h;⟨o,ho,hc⟩
theorem ZjM{it a tp:Addr}{i:Nat}{ep:Nat}{o:Obj}{es:Array (Int×Value)}{t:Uh}{pl:Array Value}{pp:Nat}{e:Int×Value}{Q:Option Value->Shared->Prop}(h:Xe s.heap it a (.ref tp) i es.size ep)(ha:s.heap.get? a=some o)(hd:o.data=.set es ep t)(hf:t.fits es.size=true)(htp:s.heap.IsTuple tp pl)(hp:pl[i]?=some (.int pp 0))(he:es[pp]?=some e)(q:∀h',Xe h' it a (.ref tp) (i+1) es.size ep->GR it s.heap h'->Q (some e.2) { s with heap:=h' }):wpAny (model prog w) A (pyNext (.ref it)) Q E s:=by
 obtain⟨oi,hoi,hci,hdi⟩:=id h
 obtain⟨ot,hot,_,nt,hdt⟩:=htp
 unfold pyNext
 refine Yb (YaA (WP h.typeIs PySem.F.slot_set_iterator_next (WX PySem.F.slot_set_iterator_next h.typeIs PySem.F.entry_set_iterator_next ?_ (PySem.F.args_set_iterator_next_1 _))))
 unfold Builtin.«set_iterator.__next__» YaY
 simp only[Uw,W9,YH,↓reduceIte,bind_assoc,Y0,bne_self_eq_false]
 refine Yb (Yd ?_)
 refine Yb (GD hoi hdi ?_)
 refine Yb (WF ha hd hf ?_)
 simp only[bne_self_eq_false,YH,↓reduceIte]
 refine Yb (wpAny_seqItems hot hdt ?_)
 simp only[Vp,hp]
 refine Yb ?_
 unfold setNextDrawn
 refine Yb (WL ha hd hf ?_)
 simp only[bne_self_eq_false,YH,↓reduceIte,he]
 refine Yd ?_
 refine Yb (Ua hoi hdi (by simp) (Yd ⟨_,rfl,Yd (q _ ⟨_,Wg _ hoi (Ud (Wo hdi _)),(Yao ..).trans hci,?_⟩ (Wr ..))⟩))
 rw[Wo hdi];simp[rawInt]
theorem Jy{Q:Bool->Shared->Prop}{M:Model}(h:Q (M.w.params.followText "set-order") s):wpAny M A setsByText Q E s:=by
 unfold setsByText
 exact Yb (Gf (Yd h))
theorem Zet{it a:Addr}{f0 f0':Value}{i n ep:Nat}{v:Value}{Q:Value->Shared->Prop}(h:Xe s.heap it a f0 i n ep)(q:∀h',Xe h' it a f0' (i+1) n ep->GR it s.heap h'->Q v { s with heap:=h' }):
  wpAny (model prog w) A (do setField (.ref it) 0 f0';setField (.ref it) 1 (rawInt ((i:Int)+1));ret v) (λfin s'=>∃r,fin=.done (.ret r)/\Q r s') E s:=by
 obtain⟨oi,hoi,hci,hdi⟩:=id h
 refine Yb (Ua hoi hdi (by simp) ?_)
 have h1:(s.heap.update it (Gx λx=>x.setIfInBounds 0 f0')).get? it=some (Gx (λx=>x.setIfInBounds 0 f0') oi):=Wg _ hoi (Ud (Wo hdi _))
 have hd1:(Gx (λx=>x.setIfInBounds 0 f0') oi).data=.fields #[f0',.int i 0,.ref a,.int n 0,.int ep 0]:=by rw[Wo hdi];simp
 refine Yb (Ua h1 hd1 (by simp) (Yd ⟨_,rfl,q _ ⟨_,Wg _ h1 (Ud (Wo hd1 _)),(Yao ..).trans ((Yao ..).trans hci),?_⟩ ((Wr ..).trans (Wr ..))⟩))
 rw[Wo hd1];simp[rawInt]
theorem ZlD{it a:Addr}{i sl:Nat}{ep:Nat}{o:Obj}{es:Array (Int×Value)}{t:Uh}{e:Int×Value}{Q:Option Value->Shared->Prop}(hb:w.params.followText "set-order" = true)(h:Xe s.heap it a (.int sl 0) i es.size ep)(ha:s.heap.get? a=some o)(hd:o.data=.set es ep t)(hf:t.fits es.size=true)(he:(Vu (w.params.setOrder a ep) es)[i]?=some e)(q:∀h',Xe h' it a (.int sl 0) (i+1) es.size ep->GR it s.heap h'->Q (some e.2) { s with heap:=h' }):wpAny (model prog w) A (pyNext (.ref it)) Q E s:=by
 obtain⟨oi,hoi,hci,hdi⟩:=id h
 unfold pyNext
 refine Yb (YaA (WP h.typeIs PySem.F.slot_set_iterator_next (WX PySem.F.slot_set_iterator_next h.typeIs PySem.F.entry_set_iterator_next ?_ (PySem.F.args_set_iterator_next_1 _))))
 unfold Builtin.«set_iterator.__next__» YaY
 simp only[Uw,W9,YH,↓reduceIte,bind_assoc,Y0,bne_self_eq_false]
 refine Yb (Yd ?_)
 refine Yb (GD hoi hdi ?_)
 refine Yb (WF ha hd hf ?_)
 simp only[bne_self_eq_false,YH,↓reduceIte]
 refine Yb ?_
 unfold YbM
 refine Yb (WL ha hd hf ?_)
 refine Yb (Jy ?_)
 show wpAny _ _ (if w.params.followText "set-order" = true then _ else _) _ _ _
 rw[if_pos hb]
 simp only[Vp,bne_self_eq_false,YH,↓reduceIte]
 refine Yb ?_
 unfold setWalk
 refine Yb (WL ha hd hf ?_)
 refine Yb (Jy ?_)
 show wpAny _ _ (if w.params.followText "set-order" = true then _ else _) _ _ _
 rw[if_pos hb]
 refine Yb (Gf (Yd ?_))
 refine Yd ?_
 show wpAny _ _ (match((Vu (w.params.setOrder a ep) es)[i]?).map λe=>(e.2,sl)with
  |some (x,next)=>_
  |none=>_) _ _ _
 rw[he]
 exact Zet h λh' h1 h2=>Yd (q h' h1 h2)
theorem below0(j:Nat):Uk #[j] 0=0:=by simp[Uk,SetTable.below.go]
theorem below1(j:Nat):Uk #[j] (j+1)=1:=by simp[Uk,SetTable.below.go]
theorem Zcc{α:Type}{Q:α->Shared->Prop}(hA:A.handled=none)(q:∀g e,(∀c o,s.heap.get? c=some o->g.get? c=some o)->(∃o,g.get? e=some o/\o.cls=.type "StopIteration")->E (.ref e) { s with heap:=g }):wpAny (model prog w) A (newExc (.type "StopIteration") [] >>= λe=>(raiseNew e:Sem α)) Q E s:=by
 refine Yb ?_
 simp only[newExc,newTuple]
 refine Yb (Wt ?_ (by size_fits))
 refine Yb (Ybr (by first|rfl|(simp only[firstArgMember];rfl)) (Wt ?_ (by size_fits)))
 simp only[raiseNew]
 refine Yb (wpAny_handled ?_)
 rw[hA]
 exact Yb (Yd (wpAny_throw (q _ _ (λc o e=>Ye _ (Ye _ e)) ⟨_,Yy _ rfl,rfl⟩)))
theorem ZnU{it a:Addr}{ep:Nat}{o:Obj}{e:Int×Value}{t:Uh}{j:Nat}{Q:Option Value->Shared->Prop}(hb:w.params.followText "set-order" = false)(hled:t.led=true)(hpl:t.place=#[j])(h:Xe s.heap it a (.int 0 0) 0 1 ep)(ha:s.heap.get? a=some o)(hd:o.data=.set #[e] ep t)(hf:t.fits 1=true)(q:∀h',Xe h' it a (.int (j+1:Nat) 0) 1 1 ep->GR it s.heap h'->Q (some e.2) { s with heap:=h' }):wpAny (model prog w) A (pyNext (.ref it)) Q E s:=by
 obtain⟨oi,hoi,hci,hdi⟩:=id h
 unfold pyNext
 refine Yb (YaA (WP h.typeIs PySem.F.slot_set_iterator_next (WX PySem.F.slot_set_iterator_next h.typeIs PySem.F.entry_set_iterator_next ?_ (PySem.F.args_set_iterator_next_1 _))))
 unfold Builtin.«set_iterator.__next__» YaY
 simp only[Uw,W9,YH,↓reduceIte,bind_assoc,Y0,bne_self_eq_false]
 refine Yb (Yd ?_)
 refine Yb (GD hoi hdi ?_)
 refine Yb (WF ha hd hf ?_)
 rw[if_neg (by simp)]
 refine Yb ?_
 unfold YbM
 refine Yb (WL ha hd hf ?_)
 refine Yb (Jy ?_)
 show wpAny _ _ (if w.params.followText "set-order" = true then _ else _) _ _ _
 rw[if_neg (by rw[hb];decide)]
 split
 ·rename_i hdr
  have hdr:(!t.plain&&decide (1>1))=true:=hdr
  simp at hdr
 ·refine Yb ?_
  show wpAny _ _ (if(!t.led&&!(#[e]:Array (Int×Value)).isEmpty)=true then _ else _) _ _ _
  rw[if_neg (by rw[hled];simp)]
  refine Yd ?_
  rw[hpl]
  show wpAny _ _ (pure (match(#[e]:Array (Int×Value))[Uk #[j] 0]?,(#[j]:Array Nat)[Uk #[j] 0]? with
   |some (_,x),some j=>some (x,j+1)
   |_,_=>none)) _ _ _
  rw[below0]
  refine Yd ?_
  exact Zet h λh' h1 h2=>Yd (q h' h1 h2)
theorem Zmk{it a:Addr}{f0:Value}{i n ep:Nat}{Q:Option Value->Shared->Prop}(hA:A.handled=none)(h:Xe s.heap it a f0 i n ep)(b:∀{Q':Fin->Shared->Prop}{E':Value->Shared->Prop},(∀g e,V1 it s.heap g->(∃o,g.get? e=some o/\o.cls=.type "StopIteration")->E' (.ref e) { s with heap:=g })->wpAny (model prog w) A.in1 (Builtin.«set_iterator.__next__» ⟨[.ref it],[]⟩) Q' E' s)(q:∀g,V1 it s.heap g->Q none { s with heap:=g }):wpAny (model prog w) A (pyNext (.ref it)) Q E s:=by
 unfold pyNext
 refine Yb (YaA (WP h.typeIs PySem.F.slot_set_iterator_next (WX PySem.F.slot_set_iterator_next h.typeIs PySem.F.entry_set_iterator_next (b λg e k he=>?_) (PySem.F.args_set_iterator_next_1 _))))
 obtain⟨o,ho,hc⟩:=he
 exact Yb (wpAny_isInstance ⟨o,ho,hc⟩ isSubtype_stop (Yd (q g k)))
theorem Zml{it a tp:Addr}{i:Nat}{ep:Nat}{o:Obj}{es:Array (Int×Value)}{t:Uh}{pl:Array Value}{Q:Option Value->Shared->Prop}(hA:A.handled=none)(h:Xe s.heap it a (.ref tp) i es.size ep)(ha:s.heap.get? a=some o)(hd:o.data=.set es ep t)(hf:t.fits es.size=true)(htp:s.heap.IsTuple tp pl)(hp:pl[i]?=none)(q:∀g,V1 it s.heap g->Q none { s with heap:=g }):wpAny (model prog w) A (pyNext (.ref it)) Q E s:=by
 refine Zmk hA h (λ{Q' E'} r=>?_) q
 obtain⟨oi,hoi,hci,hdi⟩:=id h
 obtain⟨ot,hot,_,nt,hdt⟩:=htp
 unfold Builtin.«set_iterator.__next__» YaY
 simp only[Uw,W9,YH,↓reduceIte,bind_assoc,Y0,bne_self_eq_false]
 refine Yb (Yd ?_)
 refine Yb (GD hoi hdi ?_)
 refine Yb (WF ha hd hf ?_)
 simp only[bne_self_eq_false,YH,↓reduceIte]
 refine Yb (wpAny_seqItems hot hdt ?_)
 simp only[Vp,hp]
 refine Yb (Ua hoi hdi (by simp) ?_)
 have h1:(s.heap.update it (Gx λx=>x.setIfInBounds 0 (rawInt 0))).get? it=some (Gx (λx=>x.setIfInBounds 0 (rawInt 0)) oi):=Wg _ hoi (Ud (Wo hdi _))
 have hd1:(Gx (λx=>x.setIfInBounds 0 (rawInt 0)) oi).data=.fields #[rawInt 0,.int i 0,.ref a,.int es.size 0,.int ep 0]:=by rw[Wo hdi];simp
 refine Yb (Ua h1 hd1 (by simp) (Zcc (by simp[hA]) λg e k he=>r g e (λc o n x=>?_) he))
 exact k c o (((Wr ..).trans (Wr ..)).extBut c o n x)
theorem Zog{it a:Addr}{i sl:Nat}{ep:Nat}{o:Obj}{es:Array (Int×Value)}{t:Uh}{Q:Option Value->Shared->Prop}(hA:A.handled=none)(hb:w.params.followText "set-order" = true)(h:Xe s.heap it a (.int sl 0) i es.size ep)(ha:s.heap.get? a=some o)(hd:o.data=.set es ep t)(hf:t.fits es.size=true)(he:(Vu (w.params.setOrder a ep) es)[i]?=none)(q:∀g,V1 it s.heap g->Q none { s with heap:=g }):wpAny (model prog w) A (pyNext (.ref it)) Q E s:=by
 refine Zmk hA h (λ{Q' E'} r=>?_) q
 obtain⟨oi,hoi,hci,hdi⟩:=id h
 unfold Builtin.«set_iterator.__next__» YaY
 simp only[Uw,W9,YH,↓reduceIte,bind_assoc,Y0,bne_self_eq_false]
 refine Yb (Yd ?_)
 refine Yb (GD hoi hdi ?_)
 refine Yb (WF ha hd hf ?_)
 simp only[bne_self_eq_false,YH,↓reduceIte]
 refine Yb ?_
 unfold YbM
 refine Yb (WL ha hd hf ?_)
 refine Yb (Jy ?_)
 show wpAny _ _ (if w.params.followText "set-order" = true then _ else _) _ _ _
 rw[if_pos hb]
 simp only[Vp,bne_self_eq_false,YH,↓reduceIte]
 refine Yb ?_
 unfold setWalk
 refine Yb (WL ha hd hf ?_)
 refine Yb (Jy ?_)
 show wpAny _ _ (if w.params.followText "set-order" = true then _ else _) _ _ _
 rw[if_pos hb]
 refine Yb (Gf (Yd ?_))
 refine Yd ?_
 show wpAny _ _ (match((Vu (w.params.setOrder a ep) es)[i]?).map λe=>(e.2,sl)with
  |some (x,next)=>_
  |none=>_) _ _ _
 rw[he]
 refine Yb (Ua hoi hdi (by simp) (Zcc (by simp[hA]) λg e k he=>r g e (λc o n x=>?_) he))
 exact k c o ((Wr ..).extBut c o n x)
theorem Zqv{it a:Addr}{i sl:Nat}{ep:Nat}{o:Obj}{es:Array (Int×Value)}{t:Uh}{Q:Option Value->Shared->Prop}(hA:A.handled=none)(hb:w.params.followText "set-order" = false)(hled:t.led=true)(h:Xe s.heap it a (.int sl 0) i es.size ep)(ha:s.heap.get? a=some o)(hd:o.data=.set es ep t)(hf:t.fits es.size=true)(hs:es.size<=1)(he:es[Uk t.place sl]?=none)(q:∀g,V1 it s.heap g->Q none { s with heap:=g }):wpAny (model prog w) A (pyNext (.ref it)) Q E s:=by
 refine Zmk hA h (λ{Q' E'} r=>?_) q
 obtain⟨oi,hoi,hci,hdi⟩:=id h
 unfold Builtin.«set_iterator.__next__» YaY
 simp only[Uw,W9,YH,↓reduceIte,bind_assoc,Y0,bne_self_eq_false]
 refine Yb (Yd ?_)
 refine Yb (GD hoi hdi ?_)
 refine Yb (WF ha hd hf ?_)
 simp only[bne_self_eq_false,YH,↓reduceIte]
 refine Yb ?_
 unfold YbM
 refine Yb (WL ha hd hf ?_)
 refine Yb (Jy ?_)
 show wpAny _ _ (if w.params.followText "set-order" = true then _ else _) _ _ _
 rw[if_neg (by rw[hb];decide)]
 split
 ·rename_i hdr
  have hdr:(!t.plain&&decide (es.size>1))=true:=hdr
  simp at hdr
  omega
 ·refine Yb ?_
  show wpAny _ _ (if(!t.led&&!es.isEmpty)=true then _ else _) _ _ _
  rw[if_neg (by rw[hled];simp)]
  refine Yd ?_
  show wpAny _ _ (pure (match es[Uk t.place sl]?,t.place[Uk t.place sl]? with
   |some (_,x),some j=>some (x,j+1)
   |_,_=>none)) _ _ _
  rw[he]
  refine Yd ?_
  refine Yb (Ua hoi hdi (by simp) (Zcc (by simp[hA]) λg e k he=>r g e (λc o n x=>?_) he))
  exact k c o ((Wr ..).extBut c o n x)
end
end Mi
namespace PySem.F
theorem slot_set_iterator_iter:Slot "set_iterator" "__iter__" "set_iterator.__iter__" :=
 .of (owner:="set_iterator") (n:="__iter__") (by rw[typeLookup_type,builtinLookup_eq_fast];kernel_rfl) (by decide +kernel) (by decide +kernel) (by decide +kernel)
  (by first|exact .inl (by decide +kernel)|exact .inr (by decide +kernel)) (by rw[Ya1];kernel_rfl)
theorem entry_set_iterator_iter:entryFor table "set_iterator.__iter__" = some Builtin.«dict_keyiterator.__iter__»:=entryFor_alias (id':="dict_keyiterator.__iter__") (by kernel_rfl) rfl (by decide +kernel) (by kernel_rfl)
theorem args_set_iterator_iter_1(a:Value):argsOk "set_iterator.__iter__" ⟨[a],[]⟩:=by
 unfold argsOk;rw[signature?_of (n:=['_','_','r','e','t','i','_','_']) (by kernel_rfl) Zak];kernel_rfl
end PySem.F
namespace Mi
open PySem PySem.Spec PyProof.Rows L2
section
variable{prog:YQ}{w:World}{A:Around}{E:Value->Shared->Prop}{s:Shared}
theorem Xe.at'{h h':Heap}{it a:Addr}{f0:Value}{i n ep:Nat}(x:Xe h it a f0 i n ep)(k:∀o,h.get? it=some o->h'.get? it=some o):Xe h' it a f0 i n ep:=let⟨o,ho,r⟩:=x;⟨o,k o ho,r⟩
inductive SetIt (w:World) (h:Heap) (it a tp:Addr) (vs:List Value) (i:Nat):Prop where
 |drawn {o:Obj}{es:Array (Int×Value)}{ep:Nat}{t:Uh}{pl:Array Value}:Xe h it a (.ref tp) i es.size ep->h.get? a=some o->o.data=.set es ep t->t.fits es.size=true->h.IsTuple tp pl ->
  (∀(k:Nat) v,vs[k]?=some v->∃(pp:Nat) (e:Int×Value),pl[k]?=some (.int pp 0)/\es[pp]?=some e/\e.2=v)->pl.size=vs.length->SetIt w h it a tp vs i
 |text {o:Obj}{es:Array (Int×Value)}{ep:Nat}{t:Uh}:w.params.followText "set-order" = true->Xe h it a (.int (0:Nat) 0) i es.size ep->h.get? a=some o->o.data=.set es ep t->t.fits es.size=true ->
  vs=(Vu (w.params.setOrder a ep) es).toList.map (·.2)->SetIt w h it a tp vs i
 |few {o:Obj}{es:Array (Int×Value)}{ep:Nat}{t:Uh}{sl:Nat}:w.params.followText "set-order" = false->t.led=true->Xe h it a (.int sl 0) i es.size ep->h.get? a=some o->o.data=.set es ep t->t.fits es.size=true->es.size<=1 ->
  vs=es.toList.map (·.2)->(i=0/\sl=0∨i=1/\es.size=1/\∃j,t.place=#[j]/\sl=j+1)->SetIt w h it a tp vs i
theorem SetIt.at'{h h':Heap}{it a tp:Addr}{vs:List Value}{i:Nat}(x:SetIt w h it a tp vs i)(k:∀b∈[it,a,tp],∀o,h.get? b=some o->h'.get? b=some o):SetIt w h' it a tp vs i:=by
 cases x with
 |drawn h1 h2 h3 h4 h5 h6 h7=>exact .drawn (h1.at' (k it (by simp))) (k a (by simp) _ h2) h3 h4 (let⟨o,ho,r⟩:=h5;⟨o,k tp (by simp) o ho,r⟩) h6 h7
 |text h0 h1 h2 h3 h4 h5=>exact .text h0 (h1.at' (k it (by simp))) (k a (by simp) _ h2) h3 h4 h5
 |few h0 hl h1 h2 h3 h4 h5 h6 h7=>exact .few h0 hl (h1.at' (k it (by simp))) (k a (by simp) _ h2) h3 h4 h5 h6 h7
theorem Zld{t:Uh}(h:t.fits 1=true):∃j,t.place=#[j]:=by
 unfold SetTable.fits at h
 simp only[Yg,beq_iff_eq]at h
 have h1:=h.1
 rcases hp:t.place with⟨l⟩
 rw[hp]at h1
 match l,h1 with
 |[j],_=>exact⟨j,rfl⟩
theorem ZkT(hA:A.handled=none){it a tp:Addr}{vs:List Value}:Walks prog w A it [it,a,tp] [it] vs.length (λi v=>vs[i]?=some v) (λi h=>SetIt w h it a tp vs i/\a≠it/\tp≠it) where
 sub:=λb hb=>by simp at hb;simp[hb]
 frame:=λ_ _ _ st hk=>⟨st.1.at' hk,st.2⟩
 item:=λi s Q E hi st hQ=>by
  obtain⟨st,na,nt⟩:=st
  have hv:=YM hi
  cases st with
  |drawn h1 h2 h3 h4 h5 h6 h7 =>
   obtain⟨pp,e,q1,q2,q3⟩:=h6 i _ hv
   refine ZjM h1 h2 h3 h4 h5 q1 q2 λh' r hs=>?_
   rw[q3]
   obtain⟨ot,hot,rt⟩:=h5
   exact hQ _ h' s.toks hv ⟨.drawn r (hs.extBut _ _ na h2) h3 h4 ⟨ot,hs.extBut _ _ nt hot,rt⟩ h6 h7,na,nt⟩ λb o hb e=>hs.extBut b o (λh=>hb (by simp[h])) e
  |@text o es ep t h0 h1 h2 h3 h4 h5 =>
   have he:∃e,(Vu (w.params.setOrder a ep) es)[i]?=some e/\e.2=vs[i]:=by
    have hv':=hv
    generalize hx:vs[i]=x at hv' ⊢
    rw[h5,Y4,UG]at hv'
    cases q:(Vu (w.params.setOrder a ep) es)[i]? with
    |none=>rw[q]at hv';cases hv'
    |some e=>rw[q]at hv';exact⟨e,rfl,YS hv'⟩
   obtain⟨e,he,hev⟩:=he
   refine ZlD h0 h1 h2 h3 h4 he λh' r hs=>?_
   rw[hev]
   exact hQ _ h' s.toks hv ⟨.text h0 r (hs.extBut _ _ na h2) h3 h4 h5,na,nt⟩ λb o hb e=>hs.extBut b o (λh=>hb (by simp[h])) e
  |@few o es ep t sl h0 hl h1 h2 h3 h4 h5 h6 h7 =>
   have hsz:vs.length=es.size:=by rw[h6,Yc,Y8]
   have e1:es.size=1:=by omega
   rcases h7 with⟨rfl,rfl⟩|⟨rfl,_⟩
   ·obtain⟨e,rfl⟩:∃e,es=#[e]:=by
     rcases es with⟨l⟩
     match l,e1 with
     |[e],_=>exact⟨e,rfl⟩
    obtain⟨j,hj⟩:=Zld h4
    refine ZnU h0 hl hj h1 h2 h3 h4 λh' r hs=>?_
    have hve:e.2=vs[0]:=by simp[h6]
    rw[hve]
    exact hQ _ h' s.toks hv ⟨.few h0 hl r (hs.extBut _ _ na h2) h3 h4 h5 h6 (.inr ⟨rfl,rfl,j,hj,rfl⟩),na,nt⟩ λb o hb e=>hs.extBut b o (λh=>hb (by simp[h])) e
   ·omega
 done:=λs Q E st hQ=>by
  obtain⟨st,na,nt⟩:=st
  have fin:∀g,V1 it s.heap g->Q none { s with heap:=g }:=λg k=>hQ g s.toks λb o hb e=>k b o (λh=>hb (by simp[h])) e
  cases st with
  |drawn h1 h2 h3 h4 h5 h6 h7=>exact Zml hA h1 h2 h3 h4 h5 (by rw[<-h7];simp) fin
  |@text o es ep t h0 h1 h2 h3 h4 h5=>exact Zog hA h0 h1 h2 h3 h4 (by rw[h5];simp) fin
  |@few o es ep t sl h0 hl h1 h2 h3 h4 h5 h6 h7 =>
   have hsz:vs.length=es.size:=by rw[h6,Yc,Y8]
   refine Zqv hA h0 hl h1 h2 h3 h4 h5 ?_ fin
   rcases h7 with⟨h8,rfl⟩|⟨h8,h9,j,hj,rfl⟩
   ·have:es.size=0:=by omega
    simp[this]
   ·rw[hj,below1]
    simp[h9]
 self:=λi s Q E st h=>by
  have hT:s.TypeIs (.ref it) "set_iterator":=by
   cases st.1 with
   |drawn h1=>exact h1.typeIs
   |text _ h1=>exact h1.typeIs
   |few _ _ h1=>exact h1.typeIs
  refine wpAny_pyIter_slot hT PySem.F.slot_set_iterator_iter (WX PySem.F.slot_set_iterator_iter hT PySem.F.entry_set_iterator_iter ?_ (PySem.F.args_set_iterator_iter_1 _))
  exact Yd ⟨_,rfl,"set_iterator",_,hT,PySem.F.slot_set_iterator_next.lookup,h⟩
noncomputable def ZfU(vs:List Value)(D:List Str):Prop:=(∀v∈vs,∃x t,v=.str x t)/\(vs.map strOf).Perm D
theorem ZeV{led:Bool}{o:Obj}{D:List Str}{es:Array (Int×Value)}{ep:Nat}{t:Uh}(hE:SetE prog w led o D es ep t){l:List (Int×Value)}(hp:l.Perm es.toList):ZfU (l.map (·.2)) D:=by
 constructor
 ·intro v hv
  obtain⟨e,he,rfl⟩:=YK.mp hv
  obtain⟨⟨k,hk,_⟩,_⟩:=hE.el e (hp.mem_iff.mp he)
  obtain⟨u,hu⟩:=VL hk
  exact⟨k,u,hu⟩
 ·rw[Wa]
  exact(hp.map (strOf ∘ λe:Int×Value=>e.2)).trans hE.txs
theorem range_list:∀l:List (Int×Value),(Wh l.length).filterMap (λp=>l[p]?)=l
 |[]=>rfl
 |x::l=>by
  rw[Yq,List.range_succ_eq_map,Ga,List.filterMap_map]
  show x::(Wh l.length).filterMap (λp=>l[p]?)=_
  rw[range_list l]
theorem Zjk(es:Array (Int×Value)):((Wh es.size).filterMap λp=>es[p]?)=es.toList:=by
 have:=range_list es.toList
 rw[Y8]at this
 simpa only[UG]using this
theorem ZhW{es:Array (Int×Value)}:∀{ys:List Nat},(∀p∈ys,p<es.size)->(ys.filterMap λp=>es[p]?)=ys.map λp=>es[p]?.getD (0,.none)
 |[],_=>rfl
 |p::ys,h=>by
  have hlt:=h p Yv
  rw[Ga,Yz,ZhW λq hq=>h q (Yp _ hq)]
  simp[hlt]
theorem Zn5{a:Addr}{D:List Str}{Q:Value->Shared->Prop}(hS:SetS prog w (Zaw w) s.heap a D)(h:∀(h':Heap) d it tp vs,SetIt w h' it a tp vs 0->a≠it->tp≠it->ZfU vs D->s.heap.objs.size<=it->(tp=a∨s.heap.objs.size<=tp)->tp<h'.objs.size->it<h'.objs.size->(∀b o,s.heap.get? b=some o->h'.get? b=some o)->Q (.ref it) { s with heap:=h',drawn:=d }):
  wpAny (model prog w) A (pyIter (.ref a)) Q E s:=by
 obtain⟨o,es,ep,t,ha,hE⟩:=hS
 have hT:s.TypeIs (.ref a) "set":=⟨o,ha,hE.ex.1⟩
 have hal:=Yx ha
 refine wpAny_pyIter_slot hT PySem.F.slot_set_iter (WX PySem.F.slot_set_iter hT PySem.F.entry_set_iter_here ?_ (PySem.F.args_set_iter_1 _))
 unfold Builtin.«frozenset.__iter__» Builtin.Frozenset.slot0 YaY
 simp only[Uw,W9,YH,↓reduceIte,bind_assoc,Y0,bne_self_eq_false]
 unfold Builtin.Frozenset.addrOf Builtin.Frozenset.sizeOf
 refine Yb (Yd ?_)
 first
  |refine Yb (Yb (WF ha hE.data hE.fits (Yd ?_)))
  |(refine Yb (Yd ?_);refine Yb (Yb (WF ha hE.data hE.fits (Yd ?_))))
 refine Yb ?_
 unfold setDrawn
 refine Yb (WL ha hE.data hE.fits ?_)
 refine Yb (Jy ?_)
 refine Yd ?_
 -- what is made at the end
 have made:∀(h1:Heap) (d:_) (first:Value),(∀b o,s.heap.get? b=some o->h1.get? b=some o)->s.heap.objs.size<=h1.objs.size->(∀h':Heap,(∀b o,h1.get? b=some o->h'.get? b=some o)->h'.objs.size=h1.objs.size+1->Xe h' h1.objs.size a first 0 es.size ep->∃tp vs,SetIt w h' h1.objs.size a tp vs 0/\tp≠h1.objs.size/\ZfU vs D/\(tp=a∨s.heap.objs.size<=tp)/\tp<h'.objs.size) ->
   wpAny (model prog w) A.in1 (do
    let e <-setEpoch a
    let r <-newFields "set_iterator" [first,rawInt 0,.ref a,rawInt es.size,rawInt e]
    ret r) (λfin s'=>∃v,fin=.done (.ret v)/\∃T' r,s'.TypeIs v T'/\Ybd (.type T') "__next__" = pure (some r)/\Q v s') E { s with heap:=h1,drawn:=d }:=λh1 d first k1 z1 mk=>by
  refine Yb (wpAny_setEpoch_of (k1 _ _ ha) hE.data hE.fits ?_)
  refine Yb (Wt (Yd ⟨_,rfl,"set_iterator",_,⟨_,Yy _ rfl,rfl⟩,PySem.F.slot_set_iterator_next.lookup,?_⟩))
  have hz:(h1.push { cls:=.type "set_iterator",data:=.fields [first,rawInt 0,.ref a,rawInt es.size,rawInt ep].toArray }).objs.size=h1.objs.size+1:=Ws ..
  obtain⟨tp,vs,q1,q2,q3,q4,q5⟩:=mk (h1.push { cls:=.type "set_iterator",data:=.fields [first,rawInt 0,.ref a,rawInt es.size,rawInt ep].toArray }) (λb o e=>Ye _ e) hz ⟨_,Yy _ rfl,rfl,rfl⟩
  exact h _ d h1.objs.size tp vs q1 (YZ (YD hal z1)) q2 q3 z1 q4 q5 (by rw[hz];exact Gg _) λb o e=>Ye _ (k1 b o e)
 cases hb:w.params.followText "set-order" with
 |true =>
  rw[if_neg (by show ¬((!(w.params.followText "set-order")&&_)=true);rw[hb];simp)]
  refine Yb (Yd ?_)
  refine made s.heap s.drawn (rawInt 0) (λ_ _ e=>e) (Yn _) λh' k hz r=>?_
  exact⟨a,_,.text hb r (k _ _ ha) hE.data hE.fits rfl,YZ hal,ZeV hE (picked _ _),.inl rfl,by rw[hz];exact W6 hal⟩
 |false =>
  by_cases h2:es.size<=1
  ·rw[if_neg (by
    show ¬((!(w.params.followText "set-order")&&(!t.plain&&decide (es.size>1)))=true)
    simp
    intros
    omega)]
   refine Yb (Yd ?_)
   refine made s.heap s.drawn (rawInt 0) (λ_ _ e=>e) (Yn _) λh' k hz r=>?_
   exact⟨a,_,.few hb (by rw[hE.led];simp[hb]) (r) (k _ _ ha) hE.data hE.fits h2 rfl (.inl ⟨rfl,rfl⟩),YZ hal,ZeV hE (.refl _),.inl rfl,by rw[hz];exact W6 hal⟩
  ·have hpl:=hE.plain (by omega)
   rw[if_pos (by
    show(!(w.params.followText "set-order")&&(!t.plain&&decide (es.size>1)))=true
    rw[hb,hpl]
    simp
    omega)]
   refine Yb (Zdq es.size (Wh es.size) W7 λys d hp=>?_)
   refine Yb (wpAny_newTuple ?_ (by rw[Yc,hp.length_eq,W7];exact Yam hE.room))
   have hz1:(s.heap.push { cls:=.type "tuple",data:=.seq (ys.map λ(i:Nat)=>rawInt i).toArray }).objs.size=s.heap.objs.size+1:=Ws ..
   refine made (s.heap.push { cls:=.type "tuple",data:=.seq (ys.map λ(i:Nat)=>rawInt i).toArray }) d (.ref s.heap.objs.size) (λb o e=>Ye _ e) (by omega) λh' k hz r=>?_
   have hys:∀p∈ys,p<es.size:=λp hm=>Yaf.mp (hp.mem_iff.mp hm)
   have hvs:(ys.filterMap λp=>es[p]?).Perm es.toList:=by
    rw[<-Zjk es]
    exact hp.filterMap _
   refine⟨s.heap.objs.size,(ys.filterMap λp=>es[p]?).map (·.2),.drawn r (k _ _ (Ye _ ha)) hE.data hE.fits ⟨_,k _ _ (Yy _ rfl),rfl,_,rfl⟩ ?_ ?_,by rw[hz1];exact YZ (Gg _),ZeV hE hvs,.inr (Yn _),by rw[hz,hz1];exact W6 (Gg _)⟩
   ·have e:=ZhW hys
    intro j v hv
    rw[e,Wa,Y4]at hv
    cases q:ys[j]? with
    |none=>rw[q]at hv;cases hv
    |some p =>
     rw[q]at hv
     have hlt:=hys p (WW q)
     refine⟨p,es[p],?_,by simp[hlt],?_⟩
     ·simp[q,rawInt]
     ·have:=YS hv
      simpa[hlt]using this
   ·rw[ZhW hys]
    simp only[Yh,Yc]
theorem Zh7{a:Addr}{D:List Str}{Q:List Value->Shared->Prop}(hA:A.handled=none)(hS:SetS prog w (Zaw w) s.heap a D)(hz:D.length<=1000)(q:∀h' tk d vs,ZfU vs D->(∀b o,s.heap.get? b=some o->h'.get? b=some o)->s.toks<=tk->s.heap.objs.size<h'.objs.size->Q vs { s with heap:=h',toks:=tk,drawn:=d }):wpAny (model prog w) A (collect (.ref a)) Q E s:=by
 obtain⟨o,es,ep,t,ha,hE⟩:=id hS
 have hal:=Yx ha
 have hsz:D.length<=YJ:=by rw[W3];omega
 unfold collect
 refine Yb (wpAny_runValue (Gq PySem.F.entry_proto_collect ?_))
 rw[U0 PySem.F.plain_proto_collect _]
 refine Yb (Wt ?_)
 refine Yd ⟨Yaz PySem.F.plain_list_iadd _,Gq PySem.F.entry_list_iadd ?_⟩
 rw[U0 PySem.F.plain_list_iadd _]
 have hS₁:SetS prog w (Zaw w) (s.heap.push { cls:=.type "list",data:=.seq ([]:List Value).toArray }) a D:=hS.at' λo e=>Ye _ e
 have hL₁:(s.heap.push { cls:=.type "list",data:=.seq ([]:List Value).toArray }).get? s.heap.objs.size=some { cls:=.type "list",data:=.seq ([]:List Value).toArray }:=Yy _ rfl
 have ha₁:(s.heap.push { cls:=.type "list",data:=.seq ([]:List Value).toArray }).get? a=some o:=Ye _ ha
 have hne:=Vs hal
 have h1:Builtin.List.listSameRef (.ref s.heap.objs.size) (.ref a)=false:=by simp[Builtin.List.listSameRef,hne]
 show wpAny _ A.in1 (Builtin.List.listExtendWith (.ref s.heap.objs.size) (.ref a) (.ref s.heap.objs.size)) _ _ _
 unfold Builtin.List.listExtendWith
 have hT:Ya8 { s with heap:=s.heap.push { cls:=.type "list",data:=.seq ([]:List Value).toArray } } (.ref a) "set":=⟨o,ha₁,hE.ex.1⟩
 refine Yb (V9 hT ?_)
 rw[if_neg (by rw[h1];decide)]
 refine Yb (Zn5 hS₁ λh' d it tp vs st na nt tx l1 l2 l3 l4 k=>?_)
 have hT':Ya8 { s with heap:=h',drawn:=d } (.ref a) "set":=⟨o,k _ _ ha₁,hE.ex.1⟩
 refine Yb (WN ?_)
 unfold Builtin.List.listLengthHint
 refine Yb (wpAny_specialOf hT' PySem.F.slot_set_len.lookup ?_)
 generalize hid:("set.__len__" : String)=id0
 wp_delta
 rw[show splitId id0=some ("set","__len__")from by subst hid;decide +kernel]
 subst hid
 refine Yb (wpAny_isInstance (b:=true) hT' (by rw[Ya1];kernel_rfl) ?_)
 refine Yb (V9 hT' ?_)
 refine Yd ?_
 rw[if_pos (by rfl)]
 refine Yb (Vo ?_)
 have hL':=k _ _ hL₁
 refine Yb ?_
 unfold Builtin.List.listTouch
 refine Yb (listUpdate_at hL' rfl ?_ (by simp) (by simp[W3]))
 have hL2:=get?_update_seq hL' (λxs=>xs.push Vl)
 refine listUpdate_at hL2 rfl ?_ (by simp[W3]) (by simp[W3])
 have hL3:=get?_update_seq hL2 (λxs=>xs.pop)
 have hse:((#[]:Array Value).push Vl).pop=#[]:=by simp
 rw[hse]at hL3
 have hSf:s.heap.objs.size∉[it,a,tp]:=by
  have z:(s.heap.push { cls:=.type "list",data:=.seq ([]:List Value).toArray }).objs.size=s.heap.objs.size+1:=Ws ..
  have l1':=z▸l1
  simp only[Ym,Yt,or_false,not_or]
  refine⟨YZ l1',hne,?_⟩
  rcases l2 with rfl|l2
  ·exact hne
  ·have l2':=z▸l2
   exact YZ l2'
 have hot:∀b∈[it,a,tp],∀o,h'.get? b=some o->((h'.update s.heap.objs.size (Gw λxs=>xs.push Vl)).update s.heap.objs.size (Gw λxs=>xs.pop)).get? b=some o:=λb hb o e=>by
  have nb:s.heap.objs.size≠b:=λz=>hSf (by rw[z];exact hb)
  rw[Y9 _ _ nb,Y9 _ _ nb]
  exact e
 have hvl:vs.length=D.length:=by rw[<-tx.2.length_eq,Yc]
 refine Yd ⟨Yaz PySem.F.plain_extend_loop _,codeAny_extend_loopS ((ZkT (by simp[hA])).toS) (by omega) _ hSf _ vs.length 0 _ _ _ rfl (Gr _) ⟨st.at' hot,na,nt⟩ hL3 (ItemsOf.nil _) λs' acc' c' hm hS' hacc=>?_⟩
 refine Yb (wpAny_load hS' ?_)
 have hacc':acc'.toList=vs:=by
  obtain⟨h1,h2⟩:=hacc
  refine List.ext_getElem? λj=>?_
  rw[UG]
  cases qj:acc'[j]? with
  |some v=>rw[h2 j v qj]
  |none =>
   rw[UJ]
   have:=Array.getElem?_eq_none_iff.mp qj
   omega
 obtain⟨hh,g',d',tk',os'⟩:=s'
 have eg:g'=s.gens:=hm.gens
 have ed:d'=d:=hm.drawn
 have eo:os'=s.os:=hm.os
 subst eg;subst ed;subst eo
 refine Yd ?_
 show Q acc'.toList _
 rw[hacc']
 refine q hh tk' d' vs tx (λb o e=>?_) hm.toks (Yx hS')
 have nb:s.heap.objs.size≠b:=Vs (Yx e)
 have nit:b≠it:=λz=>by
  have z1:(s.heap.push { cls:=.type "list",data:=.seq ([]:List Value).toArray }).objs.size=s.heap.objs.size+1:=Ws ..
  have l1':s.heap.objs.size+1<=it:=z1▸l1
  have:=Yx e
  rw[z]at this
  exact absurd (YD this (Nat.le_of_succ_le l1')) (Wn _)
 refine hm.heap b o (by simp only[Ym,Yt,or_false,not_or];exact⟨λz=>nb z.symm,nit⟩) ?_
 show((h'.update s.heap.objs.size (Gw λxs=>xs.push Vl)).update s.heap.objs.size (Gw λxs=>xs.pop)).get? b=some o
 rw[Y9 _ _ nb,Y9 _ _ nb]
 exact k b o (Ye _ e)
theorem Zi9{a:Addr}{D:List Str}{Q:Value->Shared->Prop}(hA:A.handled=none)(hS:SetS prog w (Zaw w) s.heap a D)(hz:D.length<64)(q:∀h' tk d l out ss' e,YbN out ss'->ss'.Perm D->sortedS ss'=true->h'.get? l=some (seqObj "list" out.toArray e)->s.heap.objs.size<=l->(∀b o,s.heap.get? b=some o->h'.get? b=some o)->s.toks<=tk->Q (.ref l) { s with heap:=h',toks:=tk,drawn:=d }):
  wpAny (model prog w) A (G5 (.builtin "sorted") [.ref a]) Q E s:=by
 refine Calls.call_function_entry kind_sorted plain_sorted entry_sorted (args_sorted1 _) ?_
 unfold Builtin.«sorted»
 refine Yb (Yd ?_)
 refine Yb (Zh7 (by simp[hA]) hS (by omega) λh' tk d vs tx k ht hlt=>?_)
 have hvl:vs.length=D.length:=by rw[<-tx.2.length_eq,Yc]
 refine Yb (wpAny_newList ?_ (by rw[W3];omega))
 have hoL:(h'.push (seqObj "list" vs.toArray 0)).get? h'.objs.size=some (seqObj "list" vs.toArray 0):=Yy _ rfl
 have hStr:=strsAre_map vs tx.1
 refine Yb (WN (WX slot_list_sort ⟨_,hoL,rfl⟩ entry_list_sort (list_sort_treeK strKind_oneLt hoL hStr.keysOf (λv₁ v₂ rest e=>keyKind_strs (by rw[<-e];exact hStr)) (by omega) λst' a1 a2=>⟨_,rfl,?_⟩) (args_list_sort _)))
 obtain⟨ss',b1,b2,b3⟩:=sorted_out_str hStr a1 a2
 obtain⟨e,he⟩:=sortedHeap_at hoL
 refine Yd ⟨_,rfl,q _ tk d h'.objs.size ((arrOf st').map (·.2)).toList ss' e b1 (b2.trans tx.2) b3 he (Vr hlt) (λb o x=>?_) ht⟩
 rw[sortedHeap_old (YZ (Yx (k b o x))) (by rw[size_push'];exact W6 (Yx (k b o x)))]
 exact Ye _ (k b o x)
end
end Mi
namespace Mi
open PySem
inductive T where
 |non|bl (b:Bool)|int (i:Int)|str (cs:List Nat)
 |tup (ts:List T)|lst (ts:List T)
 |dct (ks:List L2.Key) (ts:List T)
 |scr (ns:List Int)
 deriving Inhabited
inductive W where
 |t (x:T)|c (i:Nat)|f (a:Nat)|x (cls:Nat) (nms:List Str) (ts:List T)|o (C:Nat) (nms:List Str) (ts:List T)|u
 deriving Inhabited
noncomputable abbrev Mem:=List (Option (Bool×List T))
structure Exc where
 cls:Nat
 nms:List Str
 flds:List T
inductive Res (a:Type) where
 |ok (x:a) (m:Mem)|exc (x:Exc) (m:Mem)|stuck
noncomputable def Res.bind{a b:Type}(r:Res a)(f:a->Mem->Res b):Res b:=match r with
 |.ok x m=>f x m
 |.exc x m=>.exc x m
 |.stuck=>.stuck
noncomputable abbrev Env:=List (Option W)
inductive B where
 |len|int|str|tuple|list|all|any|sum|min2|max2|sortset|sorted|dict|range1|range2|enum|zip2
 |bool|dget|din|dnot|zip4|lenset|minl|isbis|maxl|sortt|sortn|dictc|orv
 deriving DecidableEq
inductive Mt where
 |join|upper|append|pop|popat|insert|clear|count|get|index|split|partition|extend|reverse
 deriving DecidableEq
inductive Ty where
 |int|bool|str|tuple|list|dict
 deriving DecidableEq
inductive Tg where
 |nm (i:Nat)|tp (is:List Nat)
 deriving DecidableEq
mutual
inductive E where
 |var (i:Nat)|gl (k:Nat)|con (x:T)
 |bin (op:GK) (a b:E)|neg (a:E)|not (a:E)
 |and (a b:E)|or (a b:E)|one (a:E)
 |cmp (op:CmpOp) (a b:E)|chn (op op':CmpOp) (a b c:E)
 |ite (c a b:E)
 |tup (es:Es)|lst (es:Es)|cel (es:Es)|celb (b:B) (es:Es)|celL (a:E)|celA (a b:E)|dsp (ks vs:Es)
 |ix (a b:E)|slc (a lo hi:E)|rev (a:E)|hole
 |call (f:Nat) (es:Es)|blt (b:B) (es:Es)|mth (b:Mt) (o:E) (es:Es)
 |isi (a:E) (ty:Ty)
 |comp (own:Nat) (keep:List Nat) (it:E) (tg:Tg) (cs:Es) (inner:E)
 |more (it:E) (tg:Tg) (cs:Es) (inner:E)
 |emit (a:E)|emit2 (a b:E)
 |tr (a:E)
 |fnv (j:Nat)|callV (i:Nat) (tab:List (Nat×Nat)) (es:Es)
 |xat (a:E) (cs:List Nat) (nm:Str)|xis (a:E) (yes no:List Nat)
 |ptd (a b:E)
 |sortk (keep:List Nat) (a b:E)
 |fld (a:E) (C:Nat) (f:Str)|mcal (f C:Nat) (nm:Str) (o:E) (es:Es)|make (f C:Nat) (nms:List Str) (es:Es)|emp (k:Nat) (a:E)
 |fst (es:Es)|gdg (k:Nat) (e:E)|gdn (k:Nat) (neg:Bool) (e:E)|dsn (ks:List (List Nat)) (vs:Es)
inductive Es where
 |nil|cons (e:E) (es:Es)
end
noncomputable def Zj:E->Bool
 |.hole=>true
 |_=>false
inductive S where
 |done
 |asg (i:Nat) (e:E) (k:S)
 |asgT (is:List Nat) (e:E) (k:S)
 |asgC (i:Nat) (e:E) (k:S)
 |asgL (is:List Nat) (e:E) (k:S)
 |set (o i v:E) (k:S)
 |aug (i:Nat) (op:GK) (e:E) (k:S)
 |ife (c:E) (a b k:S)
 |forr (tg:Tg) (it:E) (body k:S)
 |whil (c:E) (body k:S)
 |ret (e:E) (k:S)|retN (k:S)
 |expr (e:E) (k:S)|pass (k:S)|brk (k:S)|cont (k:S)
 |rse (c:Nat) (nms:List Str) (es:Es) (k:S)|stk
 |tri (b:S) (yes:List Nat) (nm:Option Nat) (h k:S)
noncomputable def lim:Nat:=1000000
noncomputable def nlt:List Nat->List Nat->Bool
 |[],[]=>false
 |[],_::_=>true
 |_::_,[]=>false
 |a::x,b::y=>if a<b then true else if b<a then false else nlt x y
noncomputable def b2i(b:Bool):Int:=if b then 1 else 0
mutual
noncomputable def eqT:T->T->Bool
 |.non,.non=>true
 |.bl a,.bl b=>a==b
 |.bl a,.int b=>b2i a==b
 |.int a,.bl b=>a==b2i b
 |.int a,.int b=>a==b
 |.str a,.str b=>a==b
 |.tup a,.tup b=>eqTs a b
 |.lst a,.lst b=>eqTs a b
 |_,_=>false
noncomputable def eqTs:List T->List T->Bool
 |[],[]=>true
 |a::x,b::y=>eqT a b&&eqTs x y
 |_,_=>false
end
mutual
noncomputable def Zm:Nat->T->Bool
 |_,.non=>true
 |_,.bl _=>true
 |_,.int _=>true
 |_,.str cs=>PyData.strOk ⟨cs.toArray⟩
 |n+1,.tup ts=>ZK n ts
 |n+1,.lst ts=>ZK n ts
 |_,_=>false
noncomputable def ZK:Nat->List T->Bool
 |_,[]=>true
 |n,t::ts=>Zm n t&&ZK n ts
end
noncomputable def flat:T->Bool
 |.non|.bl _|.int _|.str _=>true
 |_=>false
mutual
noncomputable def eqok:Nat->T->Bool
 |_,.non=>true
 |_,.bl _=>true
 |_,.int _=>true
 |_,.str _=>true
 |n+1,.tup ts=>Zqu n ts
 |n+1,.lst ts=>Zqu n ts
 |_,_=>false
noncomputable def Zqu:Nat->List T->Bool
 |_,[]=>true
 |n,t::ts=>eqok n t&&Zqu n ts
end
noncomputable def Zij:T->Bool
 |.non=>false
 |.bl b=>b
 |.int i=>i != 0
 |.str cs=>!cs.isEmpty
 |.tup ts=>!ts.isEmpty
 |.lst ts=>!ts.isEmpty
 |.dct ks _=>!ks.isEmpty
 |.scr ns=>!ns.isEmpty
noncomputable def ixOf(n:Nat)(i:Int):Option Nat:=if 0<=i then(if i<n then some i.toNat else none)else if -(n:Int)<=i then some (i+n).toNat else none
noncomputable def atT{a:Type}(xs:List a)(i:Int):Option a:=(ixOf xs.length i).bind λj=>xs[j]?
noncomputable def Zj6(n d:Nat):Option Int->Nat
 |none=>d
 |some i=>if i<0 then(i+n).toNat else min i.toNat n
noncomputable def cut{a:Type}(xs:List a)(lo hi:Option Int):List a:=
 (xs.drop (Zj6 xs.length 0 lo)).take (Zj6 xs.length xs.length hi-Zj6 xs.length 0 lo)
noncomputable def repT{a:Type}(xs:List a)(k:Nat):List a:=(Yo k xs).flatten
noncomputable def bigN:Nat:=(2^250)^8
noncomputable def small(i:Int):Bool:=decide (i.natAbs<2^64)
noncomputable def Zbd(i j:Int):Bool:=small i || small j || (decide (i.natAbs<bigN)&&decide (j.natAbs<bigN))
noncomputable def addT:T->T->Option T
 |.int i,.int j=>some (.int (i+j))
 |.str a,.str b=>if a.length+b.length<=lim then some (.str (a++b))else none
 |.tup a,.tup b=>if a.length+b.length<=lim then some (.tup (a++b))else none
 |.lst a,.lst b=>if a.length+b.length<=lim then some (.lst (a++b))else none
 |_,_=>none
noncomputable def mulT(x y:T):Option T:=match y with
 |.int k=>match x with
  |.int i=>if Zbd i k then some (.int (i*k))else none
  |.tup a=>if(-(lim:Int)<=k/\k<=lim)/\a.length*k.toNat<=lim then some (.tup (repT a k.toNat))else none
  |.lst a=>if(-(lim:Int)<=k/\k<=lim)/\a.length*k.toNat<=lim then some (.lst (repT a k.toNat))else none
  |.str a=>if(0<=k/\k<=64)/\a.length<=1000 then some (.str (repT a k.toNat))else none
  |_=>none
 |_=>none
noncomputable def intT(f:Int->Int->Option T)(x y:T):Option T:=match x with
 |.int i=>match y with
  |.int j=>f i j
  |_=>none
 |_=>none
noncomputable def binT(op:GK)(x y:T):Option T:=
 match op with
 |.Add=>addT x y
 |.Sub=>intT (λi j=>some (.int (i-j))) x y
 |.Mult=>mulT x y
 |.FloorDiv=>intT (λi j=>if 0<j/\j<1073741824 then some (.int (i / j))else none) x y
 |.Mod=>intT (λi j=>if 0<j then some (.int (i%j))else none) x y
 |.Pow=>intT (λi j=>if 0<=j/\j<=1000/\i.natAbs<2^64 then some (.int (i^j.toNat))else none) x y
 |_=>none
noncomputable def augT(op:GK)(x y:T):Option T:=
 match op,x,y with
 |.Add,.int i,.int j=>some (.int (i+j))
 |.Sub,.int i,.int j=>some (.int (i-j))
 |_,_,_=>none
noncomputable def Zht(x y:T):Bool:=match x,y with
 |.bl _,.int _=>false
 |.int _,.bl _=>false
 |x,y=>flat x&&flat y
noncomputable def hasT(x:T)(y:T):Option Bool:=
 match y with
 |.tup ts=>if flat x&&ts.all flat then some (ts.any λt=>eqT t x)else none
 |.lst ts=>if flat x&&ts.all flat then some (ts.any λt=>eqT t x)else if Zm 59 x&&ZK 59 ts then some (ts.any λt=>eqT t x)else none
 |_=>none
noncomputable def Zei(f:Int->Int->Bool)(x y:T):Option Bool:=match x with
 |.int i=>match y with
  |.int j=>some (f i j)
  |_=>none
 |_=>none
noncomputable def ltT(x y:T):Option Bool:=match x with
 |.int i=>match y with
  |.int j=>some (decide (i<j))
  |_=>none
 |.str a=>match y with
  |.str b=>some (nlt a b)
  |_=>none
 |_=>none
noncomputable def inT(x y:T):Option Bool:=match x with
 |.str [a]=>match y with
  |.str b=>some (decide (a∈b))
  |y=>hasT (.str [a]) y
 |.str (a::a'::r)=>match y with
  |.str b=>some (!(Wc ⟨b.toArray⟩ ⟨(a::a'::r).toArray⟩ 0 b.length 1).isEmpty)
  |y=>hasT (.str (a::a'::r)) y
 |x=>hasT x y
noncomputable def sameT(x y:T):Option Bool:=match y with
 |.non=>some (match x with|.non=>true|_=>false)
 |.bl b=>some (match x with|.bl a=>a==b|_=>false)
 |_=>none
noncomputable def cmpT(op:CmpOp)(x y:T):Option Bool:=
 match op with
 |.Lt=>ltT x y
 |.LtE=>Zei (λi j=>decide (i<=j)) x y
 |.Gt=>Zei (λi j=>decide (j<i)) x y
 |.GtE=>Zei (λi j=>decide (j<=i)) x y
 |.Eq=>if Zht x y || (Zm 60 x&&Zm 60 y)then some (eqT x y)else none
 |.NotEq=>if Zht x y || (Zm 60 x&&Zm 60 y)then some (!eqT x y)else none
 |.In=>inT x y
 |.NotIn=>(inT x y).map (!·)
 |.Is=>sameT x y
 |.IsNot=>(sameT x y).map (!·)
noncomputable def isT(x:T)(ty:Ty):Bool:=
 match x,ty with
 |.int _,.int=>true
 |.bl _,.int=>true
 |.bl _,.bool=>true
 |.str _,.str=>true
 |.tup _,.tuple=>true
 |.lst _,.list=>true
 |.scr _,.list=>true
 |.dct _ _,.dict=>true
 |_,_=>false
noncomputable def ixT(x i:T):Option T:=
 match x,i with
 |.tup ts,.int k=>atT ts k
 |.lst ts,.int k=>atT ts k
 |.scr ns,.int k=>(atT ns k).map .int
 |.str cs,.int k=>if cs.length<=lim then(atT cs k).map λc=>.str [c]else none
 |_,_=>none
noncomputable def slT(x:T)(lo hi:Option Int):Option T:=
 match x with
 |.tup ts=>some (.tup (cut ts lo hi))
 |.lst ts=>some (.lst (cut ts lo hi))
 |.scr ns=>some (.lst ((cut ns lo hi).map .int))
 |.str cs=>if cs.length<=lim then some (.str (cut cs lo hi))else none
 |_=>none
noncomputable def insT(x:List Nat):List (List Nat)->List (List Nat)
 |[]=>[x]
 |y::r=>if nlt x y then x::y::r else if nlt y x then y::insT x r else y::r
noncomputable def Z6(xs:List (List Nat)):List (List Nat):=xs.foldr insT []
noncomputable def insN(x:List Nat):List (List Nat)->List (List Nat)
 |[]=>[x]
 |y::r=>if nlt y x then y::insN x r else x::y::r
noncomputable def Zbp(xs:List (List Nat)):List (List Nat):=xs.foldr insN []
noncomputable def strs?: List T->Option (List (List Nat))
 |[]=>some []
 |.str c::r=>(strs? r).map (c::·)
 |_=>none
noncomputable def Zpa(d:Int)(w:List Nat):Int:=d+(if w==[40]then 1 else 0)-(if w==[41]then 1 else 0)
noncomputable def pgo(x:List Nat):List (List Nat)->Int->List (List Nat)->List (List (List Nat))->List (List (List Nat))
 |[],_,cur,acc=>acc++[cur]
 |w::r,d,cur,acc=>if w==x&&decide (Zpa d w=0)then pgo x r (Zpa d w) [] (acc++[cur])else pgo x r (Zpa d w) (cur++[w]) acc
noncomputable def parted(x:List Nat)(ws:List (List Nat)):List (List (List Nat)):=pgo x ws 0 [] []
noncomputable def ptT(x y:T):Option T:=match x,y with
 |.lst ts,.str c=>(strs? ts).bind λws=>if ws.length<1000 then some (.lst ((parted c ws).map λp=>.lst (p.map .str)))else none
 |_,_=>none
noncomputable def ints?: List T->Option (List Int)
 |[]=>some []
 |.int c::r=>(ints? r).map (c::·)
 |_=>none
noncomputable def bools?: List T->Option (List Bool)
 |[]=>some []
 |.bl c::r=>(bools? r).map (c::·)
 |_=>none
noncomputable def tupI?: T->Option (List Int)
 |.tup ts=>ints? ts
 |_=>none
noncomputable def tups?: List T->Option (List (List Int))
 |[]=>some []
 |t::r=>(tupI? t).bind λk=>(tups? r).map (k::·)
noncomputable def lexI:List Int->List Int->Bool
 |[],[]=>false
 |[],_::_=>true
 |_::_,[]=>false
 |x::xs,y::ys=>if x=y then lexI xs ys else decide (x<y)
noncomputable def insI(x:List Int):List (List Int)->List (List Int)
 |[]=>[x]
 |y::r=>if lexI y x then y::insI x r else x::y::r
noncomputable def sortI(xs:List (List Int)):List (List Int):=xs.foldr insI []
noncomputable def tupT(k:List Int):T:=.tup (k.map .int)
noncomputable def sorttT(ts:List T):Option T:=(tups? ts).bind λks=>if ks.Nodup/\ks.length<64/\(ks.all λk=>!k.isEmpty)=true then some (.lst ((sortI ks).map tupT))else none
noncomputable def sortnT(ts:List T):Option T:=(ints? ts).bind λns=>if ns.Nodup/\ns.length<64 then some (.lst ((sortI (ns.map λn=>[n])).map λk=>.int (k.headD 0)))else none
noncomputable def insK(x:List Int×T):List (List Int×T)->List (List Int×T)
 |[]=>[x]
 |y::r=>if lexI y.1 x.1 then y::insK x r else x::y::r
noncomputable def sortK(xs:List (List Int×T)):List (List Int×T):=xs.foldr insK []
noncomputable def sortkT(ks:List (List Int))(ts:List T):Option T:=if ks.Nodup/\ks.length<64 then some (.lst ((sortK (ks.zip ts)).map (·.2)))else none
noncomputable def Zd(sep:List Nat):List (List Nat)->List Nat
 |[]=>[]
 |[x]=>x
 |x::r=>x++sep++Zd sep r
noncomputable def upN(c:Nat):Nat:=if 97<=c/\c<=122 then c-32 else c
noncomputable def asciiN(c:Nat):Bool:=decide (c<128)
noncomputable def decI(i:Int):List Nat:=(Ybi (toString i)).cps.toList
noncomputable def rangeT(lo:Int)(n:Nat):List T:=(Wh n).map λk:Nat=>.int (lo+(k:Int))
noncomputable def Q8(c:Nat):List Nat->List (List Nat)
 |[]=>[[]]
 |a::r=>if a=c then[]::Q8 c r else match Q8 c r with
  |x::xs=>(a::x)::xs
  |[]=>[[a]]
noncomputable def fmtT:T->Option (List Nat)
 |.str cs=>some cs
 |.int i=>if i.natAbs<2^250 then some (decI i)else none
 |_=>none
noncomputable def ZgO:T->Option (List T)
 |.tup ts=>some ts
 |.lst ts=>some ts
 |.scr ns=>some (ns.map .int)
 |.str cs=>if cs.length<=lim then some (cs.map λc=>.str [c])else none
 |_=>none
noncomputable def view(w:W)(m:Mem):Option T:=match w with
 |.t x=>some x
 |.f _=>none
 |.x _ _ _=>none
 |.o _ _ _=>none
 |.u=>none
 |.c i=>match m[i]? with
  |some (some (_,ts))=>some (.lst ts)
  |_=>none
noncomputable def pur(o:Option T)(m:Mem):Res W:=match o with
 |some t=>.ok (.t t) m
 |none=>.stuck
noncomputable def frz(w:W)(m:Mem):Res T:=match w with
 |.t x=>.ok x m
 |.f _=>.stuck
 |.x _ _ _=>.stuck
 |.o _ _ _=>.stuck
 |.u=>.stuck
 |.c i=>match m[i]? with
  |some (some (false,ts))=>.ok (.lst ts) (m.set i none)
  |_=>.stuck
noncomputable def frzs:List W->Mem->Res (List T)
 |[],m=>.ok [] m
 |w::ws,m=>(frz w m).bind λt m=>(frzs ws m).bind λts m=>.ok (t::ts) m
noncomputable def views:List W->Mem->Option (List T)
 |[],_=>some []
 |w::ws,m=>(view w m).bind λt=>(views ws m).map (t::·)
noncomputable def Z5(w:W)(m:Mem):Res (List T):=match w with
 |.f _=>.stuck
 |.x _ _ _=>.stuck
 |.o _ _ _=>.stuck
 |.u=>.stuck
 |.t x=>match ZgO x with
  |some ts=>.ok ts m
  |none=>.stuck
 |.c i=>match m[i]? with
  |some (some (_,ts))=>.ok ts (m.set i (some (true,ts)))
  |_=>.stuck
noncomputable def giveBack(w:W)(m0 m:Mem):Mem:=match w with
 |.t _=>m
 |.f _=>m
 |.x _ _ _=>m
 |.o _ _ _=>m
 |.u=>m
 |.c i=>match m0[i]? with
  |some c=>m.set i c
  |none=>m
noncomputable def Qs(tg:Tg)(t:T)(env:Env):Option Env:=match tg with
 |.nm i=>some (env.set i (some (.t t)))
 |.tp is=>match t with
  |.tup ts=>if ts.length=is.length then some ((is.zip ts).foldl (λenv p=>env.set p.1 (some (.t p.2))) env)else none
  |_=>none
noncomputable def one1(f:T->Option T):List T->Option T
 |[x]=>f x
 |_=>none
noncomputable def two2(f:Int->Int->Option T):List T->Option T
 |[.int i,.int j]=>f i j
 |_=>none
noncomputable def bLen:T->Option T
 |.str cs=>if cs.length<=lim then some (.int cs.length)else none
 |.tup ts=>some (.int ts.length)
 |.lst ts=>some (.int ts.length)
 |.scr ns=>some (.int ns.length)
 |_=>none
noncomputable def figV(cs:List Nat):Int:=((cs.foldl (λn c=>n*10+(c-48)) 0:Nat):Int)
noncomputable def bInt:T->Option T
 |.int i=>some (.int i)
 |.bl b=>some (.int (b2i b))
 |.str cs=>if cs≠[]/\cs.length<=600/\cs.all (λc=>decide (48<=c)&&decide (c<=57))=true then some (.int (figV cs))else none
 |_=>none
noncomputable def bStr:T->Option T
 |.int i=>if i.natAbs<2^250 then some (.str (decI i))else none
 |_=>none
noncomputable def bTup:T->Option T
 |.tup ts=>some (.tup ts)
 |.lst ts=>some (.tup ts)
 |.str cs=>if cs.length<=lim then some (.tup (cs.map λc=>.str [c]))else none
 |_=>none
noncomputable def bLst:T->Option T
 |.tup ts=>some (.lst ts)
 |.lst ts=>some (.lst ts)
 |_=>none
noncomputable def Zfr(f:List T->Option T):T->Option T
 |.lst ts=>f ts
 |_=>none
noncomputable def bRng:T->Option T
 |.int i=>if i<2^62/\-(2^62)<=i then some (.lst (rangeT 0 i.toNat))else none
 |_=>none
noncomputable def zipL(xs ys:List T):List T:=List.zipWith (λx y=>.tup [x,y]) xs ys
noncomputable def zipT:List T->Option T
 |[.tup xs,.tup ys]=>if xs.length=ys.length/\xs.length<=lim then some (.lst (zipL xs ys))else none
 |_=>none
noncomputable def Zkx(a b c d:List T):List T:=(a.zip (b.zip (c.zip d))).map λp=>.tup [p.1,p.2.1,p.2.2.1,p.2.2.2]
noncomputable def zip4T:List T->Option T
 |[.lst a,.lst b,.lst c,.lst d]=>if(a.length=b.length/\a.length=c.length/\a.length=d.length)/\a.length<=lim then some (.lst (Zkx a b c d))else none
 |_=>none
noncomputable def Zj5(xs:List T):List T:=List.zipWith (λ(k:Nat) x=>T.tup [.int (k:Int),x]) (Wh xs.length) xs
noncomputable def lensT(ts:List T):Option T:=(strs? ts).bind λxs=>if xs.length<64 then some (.int ((Z6 xs).length:Int))else none
noncomputable def minI(n:Int)(ns:List Int):Int:=ns.foldl (λa b=>if b<a then b else a) n
noncomputable def minlT(ts:List T):Option T:=(ints? ts).bind λns=>match ns with
 |[]=>none
 |n::r=>if r.length<64 then some (.int (minI n r))else none
noncomputable def maxI(n:Int)(ns:List Int):Int:=ns.foldl (λa b=>if a<b then b else a) n
noncomputable def maxlT(ts:List T):Option T:=(ints? ts).bind λns=>match ns with
 |[]=>none
 |n::r=>if r.length<64 then some (.int (maxI n r))else none
noncomputable def bIsb:T->Option T
 |.bl _=>some (.bl true)
 |.int _=>some (.bl true)
 |.str _=>some (.bl true)
 |_=>none
noncomputable def keyT:T->Option L2.Key
 |.int i=>some (.inl i)
 |.str cs=>some (.inr ⟨cs.toArray⟩)
 |_=>none
noncomputable def pairs?: List T->Option (List (List Nat×T))
 |[]=>some []
 |.tup [.str k,v]::ts=>(pairs? ts).map ((k,v)::·)
 |_=>none
noncomputable def dctT(ps:List (List Nat×T)):T:=.dct (ps.map λp=>.inr ⟨p.1.toArray⟩) (ps.map (·.2))
noncomputable def bDict:T->Option T
 |.tup ts=>(pairs? ts).bind λps=>if ts.length<=lim/\(ps.map (·.1)).Nodup then some (dctT ps)else none
 |_=>none
noncomputable def Qv(ks:List L2.Key)(ts:List T)(k:L2.Key):Option T:=((ks.zip ts).find? λp=>decide (p.1=k)).map (·.2)
noncomputable def dGetT:List T->Option T
 |[.dct ks vs,x]=>(keyT x).bind (Qv ks vs)
 |_=>none
noncomputable def dInT(neg:Bool):List T->Option T
 |[x,.dct ks vs]=>(keyT x).map λk=>.bl (if neg then !(Qv ks vs k).isSome else(Qv ks vs k).isSome)
 |_=>none
noncomputable def gDct(o:Option T)(f:List L2.Key->List T->Option T):Option T:=match o with
 |some (.dct ks vs)=>f ks vs
 |_=>none
noncomputable def ZjK(f:List T->Option T):T->Option T
 |.lst ts=>f ts
 |.tup ts=>f ts
 |_=>none
noncomputable def Zox:List T->Option (List L2.Key×List T)
 |[]=>some ([],[])
 |k::v::r=>(keyT k).bind λkk=>(Zox r).map λp=>(kk::p.1,v::p.2)
 |_=>none
noncomputable def dictcT(ts:List T):Option T:=(Zox ts).bind λp=>if p.1.Nodup/\p.1.length<=1000 then some (.dct p.1 p.2)else none
noncomputable def orvT:List T->Option T
 |[.str cs,t]=>if cs.length<=lim then some (if cs.isEmpty then t else .str cs)else none
 |_=>none
noncomputable def bltT(b:B)(ts:List T):Option T:=
 match b with
 |.len=>one1 bLen ts
 |.int=>one1 bInt ts
 |.str=>one1 bStr ts
 |.tuple=>one1 bTup ts
 |.list=>one1 bLst ts
 |.all=>one1 (ZjK λts=>(bools? ts).map λbs=>.bl (bs.all id)) ts
 |.any=>one1 (ZjK λts=>(bools? ts).map λbs=>.bl (bs.any id)) ts
 |.sum=>one1 (Zfr λts=>(ints? ts).map λns=>.int ns.sum) ts
 |.sortset=>one1 (Zfr λts=>(strs? ts).bind λxs=>if xs.length<64 then some (.lst ((Z6 xs).map .str))else none) ts
 |.sorted=>one1 (Zfr λts=>(strs? ts).bind λxs=>if xs.length<64 then some (.lst ((Zbp xs).map .str))else none) ts
 |.min2=>two2 (λi j=>some (.int (if j<i then j else i))) ts
 |.max2=>two2 (λi j=>some (.int (if j>i then j else i))) ts
 |.range1=>one1 bRng ts
 |.zip2=>zipT ts
 |.dict=>one1 bDict ts
 |.zip4=>zip4T ts
 |.enum=>one1 (Zfr λts=>if ts.length<=lim then some (.lst (Zj5 ts))else none) ts
 |.lenset=>one1 (ZjK lensT) ts
 |.minl=>one1 (Zfr minlT) ts
 |.sortt=>one1 (Zfr sorttT) ts
 |.dictc=>one1 (Zfr dictcT) ts
 |.sortn=>one1 (Zfr sortnT) ts
 |.maxl=>one1 (Zfr maxlT) ts
 |.isbis=>one1 bIsb ts
 |.dget=>dGetT ts
 |.din=>dInT false ts
 |.orv=>orvT ts
 |.dnot=>dInT true ts
 |.range2=>two2 (λi j=>if(i<2^62/\-(2^62)<=i)/\j<2^62/\-(2^62)<=j then some (.lst (rangeT i (j-i).toNat))else none) ts
 |_=>none
noncomputable def ofBl(f:Bool->Option T):T->Option T
 |.bl b=>f b
 |_=>none
noncomputable def idxT(xs:List T)(b:Bool):Option T:=(bools? xs).bind λbs=>if bs.length<=lim then(bs.findIdx? (·==b)).map λk=>.int (k:Int)else none
noncomputable def cntT(xs:List T)(b:Bool):Option T:=(bools? xs).bind λbs=>if bs.length<=lim then some (.int ((bs.countP (·==b):Nat):Int))else none
noncomputable def cntS(xs:List T)(b:List Nat):Option T:=(strs? xs).bind λbs=>if bs.length<=lim then some (.int ((bs.countP (·==b):Nat):Int))else none
noncomputable def cntO(xs:List T):T->Option T
 |.bl b=>cntT xs b
 |.str b=>cntS xs b
 |_=>none
noncomputable def Zfo(cs sep:List Nat):T:=let p:=Ya9 ⟨cs.toArray⟩ ⟨sep.toArray⟩;.tup [.str p.1.cps.toList,.str p.2.1.cps.toList,.str p.2.2.cps.toList]
noncomputable def mthT(b:Mt)(o:T)(ts:List T):Option T:=
 match b with
 |.join=>match o with
  |.str sep=>one1 (ZjK λxs=>(strs? xs).bind λys=>if(ys.map YW).sum+ys.length*sep.length<=lim then some (.str (Zd sep ys))else none) ts
  |_=>none
 |.index=>match o with
  |.lst xs=>one1 (ofBl (idxT xs)) ts
  |_=>none
 |.count=>match o with
  |.lst xs=>one1 (cntO xs) ts
  |_=>none
 |.get=>match o with
  |.dct ks vs=>one1 (λx=>(keyT x).map λk=>(Qv ks vs k).getD .non) ts
  |_=>none
 |.split=>match o with
  |.str cs=>match ts with
   |[.str [c]]=>if cs.length<=900000 then some (.lst ((Q8 c cs).map .str))else none
   |_=>none
  |_=>none
 |.partition=>match o with
  |.str cs=>match ts with
   |[.str (c::sep)]=>if cs.length<=900000 then some (Zfo cs (c::sep))else none
   |_=>none
  |_=>none
 |.upper=>match o with
  |.str cs=>match ts with
   |[]=>if cs.all asciiN&&decide (cs.length<=lim)then some (.str (cs.map upN))else none
   |_=>none
  |_=>none
 |_=>none
noncomputable def mutM(b:Mt)(xs:List T)(ts:List T):Option (T×List T):=
 match b,ts with
 |.append,[t]=>if xs.length<lim then some (.non,xs++[t])else none
 |.extend,[.lst ys]=>if xs.length+ys.length<=lim then some (.non,xs++ys)else none
 |.insert,[.int i,t]=>if 0<=i/\i<=xs.length/\xs.length<lim then some (.non,xs.take i.toNat++t::xs.drop i.toNat)else none
 |.clear,[]=>some (.non,[])
 |.popat,[.int i]=>match ixOf xs.length i with
  |some k=>(xs[k]?).map λt=>(t,xs.eraseIdx k)
  |none=>none
 |.pop,[]=>match xs.getLast? with
  |some t=>some (t,xs.dropLast)
  |none=>none
 |_,_=>none
noncomputable def doM(b:Mt)(o:W)(ws:List W)(m:Mem):Res W:=match b with
 |.append|.pop|.popat|.insert|.clear|.extend|.reverse=>match o with
  |.c i=>(frzs ws m).bind λts m=>match m[i]? with
   |some (some (false,xs))=>match mutM b xs ts with
    |some (t,ys)=>.ok (.t t) (m.set i (some (false,ys)))
    |none=>.stuck
   |_=>.stuck
  |.t _=>.stuck
  |.f _=>.stuck
  |.x _ _ _=>.stuck
  |.o _ _ _=>.stuck
  |.u=>.stuck
 |_=>pur ((view o m).bind λx=>(views ws m).bind λts=>mthT b x ts) m
noncomputable def addC(x y:W)(m:Mem):Res W:=match(view x m).bind λx=>(view y m).bind λy=>addT x y with
 |some (.lst ts)=>.ok (.c m.length) (m++[some (false,ts)])
 |_=>.stuck
noncomputable def setM(o i v:W)(m:Mem):Res Unit:=match o,i with
 |.c c,.t (.int k)=>(frz v m).bind λt m=>match m[c]? with
  |some (some (false,xs))=>match ixOf xs.length k with
   |some j=>.ok () (m.set c (some (false,xs.set j t)))
   |none=>.stuck
  |_=>.stuck
 |_,_=>.stuck
noncomputable def intP(w:W)(m:Mem):Res (Option Int):=match w with
 |.t (.int i)=>.ok (some i) m
 |_=>.stuck
noncomputable def dspT(ks vs:List W)(m:Mem):Res W:=match ks,vs with
 |[],[]=>.ok (.t (.dct [] [])) m
 |[.t k],[.t v]=>match keyT k with
  |some kk=>.ok (.t (.dct [kk] [v])) m
  |none=>.stuck
 |_,_=>.stuck
noncomputable def tyM(b:Mt)(w:W)(m:Mem):Bool:=match b with
 |.join|.upper|.split|.partition=>match view w m with
  |some (.str _)=>true
  |_=>false
 |.append|.pop|.popat|.insert|.clear|.extend|.reverse=>match w with
  |.c i=>match m[i]? with
   |some (some _)=>true
   |_=>false
  |_=>false
 |.count|.index=>match view w m with
  |some (.lst _)=>true
  |_=>false
 |.get=>match view w m with
  |some (.dct _ _)=>true
  |_=>false
noncomputable def Jg(f:Env->Mem->Res (List T))(tg:Tg):List T->Env->Mem->Res (List T)
 |[],_,m=>.ok [] m
 |t::ts,env,m=>match Qs tg t env with
  |none=>.stuck
  |some env'=>(f env' m).bind λxs m=>(Jg f tg ts env m).bind λys m=>.ok (xs++ys) m
noncomputable def keyL(w:W):Option (List Int):=match w with
 |.t (.lst us)=>ints? us
 |_=>none
noncomputable def loopK(f:Env->Mem->Res W)(kept:Env):List T->Mem->Res (List (List Int))
 |[],m=>.ok [] m
 |t::ts,m=>(f (some (.t t)::kept) m).bind λw m=>match keyL w with
  |some k=>(loopK f kept ts m).bind λks m=>.ok (k::ks) m
  |none=>.stuck
noncomputable def Res.only{a:Type}(r:Res a):Res a:=match r with
 |.exc _ _=>.stuck
 |r=>r
inductive Flow where
 |next (env:Env)|ret (w:W)|brk (env:Env)|cont (env:Env)
noncomputable def Q3(f:Env->Mem->Res Flow)(tg:Tg):List T->Env->Mem->Res Flow
 |[],env,m=>.ok (.next env) m
 |t::ts,env,m=>match Qs tg t env with
  |none=>.stuck
  |some env=>(f env m).bind λfl m=>match fl with
   |.next env=>Q3 f tg ts env m
   |.cont env=>Q3 f tg ts env m
   |.brk env=>.ok (.next env) m
   |.ret w=>.ok (.ret w) m
noncomputable def Jr(c:Env->Mem->Res Bool)(f:Env->Mem->Res Flow):Nat->Env->Mem->Res Flow
 |0,_,_=>.stuck
 |n+1,env,m=>(c env m).bind λb m=>if b then(f env m).bind λfl m=>match fl with
   |.next env=>Jr c f n env m
   |.cont env=>Jr c f n env m
   |.brk env=>.ok (.next env) m
   |.ret w=>.ok (.ret w) m
  else .ok (.next env) m
noncomputable def turns:Nat:=1000000
noncomputable def fitT:T->Bool
 |.str cs=>decide (cs.length<=lim)
 |_=>true
noncomputable def QK(w:W)(m:Mem):Res Bool:=match view w m with
 |some t=>if fitT t then .ok (Zij t) m else .stuck
 |none=>.stuck
noncomputable def ZcR(w:W)(m:Mem):Res Bool:=match w with
 |.t (.bl b)=>.ok b m
 |_=>.stuck
noncomputable def ZfS(w:W)(m:Mem):Res (List T):=match w with
 |.t (.lst ts)=>.ok ts m
 |_=>.stuck
noncomputable def xatT(cs:List Nat)(nm:Str)(x:W):Option T:=match x with
 |.x c nms ts=>if c∈cs then(nms.zip ts).lookup nm else none
 |_=>none
noncomputable def xisT(yes no:List Nat)(x:W):Option T:=match x with
 |.x c _ _=>if c∈yes then some (.bl true)else if c∈no then some (.bl false)else none
 |_=>none
noncomputable def fldT(C:Nat)(f:Str)(x:W):Option T:=match x with
 |.o D nms ts=>if D=C then(nms.zip ts).lookup f else none
 |_=>none
noncomputable def isO(C:Nat)(nm:Str)(x:W):Bool:=match x with
 |.o D nms _=>decide (D=C)&&!decide (nm∈nms)
 |_=>false
noncomputable def isTr:W->Bool
 |.t _=>true
 |_=>false
noncomputable def mkO(C:Nat)(nms:List Str)(w:W)(m:Mem):Res W:=match w with
 |.t (.tup ts)=>if ts.length=nms.length then .ok (.o C nms ts) m else .stuck
 |_=>.stuck
noncomputable def empT(k:Nat)(t:T):Option T:=match t with
 |.lst []=>if k=0 then some (.lst [])else if k=1 then some (.dct [] [])else none
 |.dct [] []=>if k=2 then some (.bl true)else none
 |_=>none
noncomputable def hEnv(n:Nat)(nm:Option Nat)(x:Exc):Env:=match nm with
 |some i=>(Yo n none).set i (some (.x x.cls x.nms x.flds))
 |none=>Yo n none
noncomputable def unE(nm:Option Nat)(env:Env):Env:=match nm with
 |some i=>env.set i none
 |none=>env
noncomputable def fmtW(acc:List Nat)(w:W)(m:Mem):Res (List Nat):=match(view w m).bind fmtT with
 |some a=>if acc.length+a.length<=lim then .ok (acc++a) m else .stuck
 |none=>.stuck
noncomputable def treeW(w:W)(m:Mem):Res W:=match w with
 |.t x=>.ok (.t x) m
 |.c _=>.stuck
 |.f _=>.stuck
 |.x _ _ _=>.stuck
 |.o _ _ _=>.stuck
 |.u=>.stuck
noncomputable def Zp7(gv:List T)(a:Nat):List (Nat×Nat)->Option Nat
 |[]=>none
 |(j,k)::r=>match gv[j]? with
  |some (.int b)=>if b=(a:Int)then some k else Zp7 gv a r
  |_=>Zp7 gv a r
section
variable(call:Nat->List W->Mem->Res W) (gv:List T)
mutual
noncomputable def ev:E->Env->Mem->Res W
 |.var i,env,m=>match env[i]? with
  |some (some w)=>.ok w m
  |_=>.stuck
 |.gl k,_,m=>pur gv[k]? m
 |.con t,_,m=>.ok (.t t) m
 |.bin op a b,env,m=>(ev a env m).bind λx m=>(ev b env m).bind λy m=>pur ((view x m).bind λx=>(view y m).bind λy=>binT op x y) m
 |.neg a,env,m=>(ev a env m).bind λx m=>pur ((view x m).bind λx=>match x with
  |.int i=>some (.int (-i))
  |_=>none) m
 |.not a,env,m=>(ev a env m).bind λx m=>(ZcR x m).bind λk m=>.ok (.t (.bl (!k))) m
 |.and a b,env,m=>(ev a env m).bind λx m=>(ZcR x m).bind λk m=>if k then ev b env m else .ok (.t (.bl false)) m
 |.or a b,env,m=>(ev a env m).bind λx m=>(ZcR x m).bind λk m=>if k then .ok (.t (.bl true)) m else ev b env m
 |.one a,env,m=>ev a env m
 |.cmp op a b,env,m=>(ev a env m).bind λx m=>(ev b env m).bind λy m=>pur (((view x m).bind λx=>(view y m).bind λy=>cmpT op x y).map .bl) m
 |.chn op op' a b c,env,m=>(ev a env m).bind λx m=>(ev b env m).bind λy m =>
   match(view x m).bind λx=>(view y m).bind λy=>cmpT op x y with
   |some true=>(ev c env m).bind λz m=>pur (((view y m).bind λy=>(view z m).bind λz=>cmpT op' y z).map .bl) m
   |some false=>.ok (.t (.bl false)) m
   |none=>.stuck
 |.ite c a b,env,m=>(ev c env m).bind λx m=>(QK x m).bind λk m=>if k then ev a env m else ev b env m
 |.tup es,env,m=>(evs es env m).bind λws m=>(frzs ws m).bind λts m=>if ts.length<=lim then .ok (.t (.tup ts)) m else .stuck
 |.lst es,env,m=>(evs es env m).bind λws m=>(frzs ws m).bind λts m=>if ts.length<=lim then .ok (.t (.lst ts)) m else .stuck
 |.cel es,env,m=>(evs es env m).bind λws m=>(frzs ws m).bind λts m=>if ts.length<=lim then .ok (.c m.length) (m++[some (false,ts)])else .stuck
 |.celL a,env,m=>(ev a env m).bind λx m=>match view x m with
  |some (.lst ts)=>.ok (.c m.length) (m++[some (false,ts)])
  |some (.tup ts)=>.ok (.c m.length) (m++[some (false,ts)])
  |_=>.stuck
 |.celb b es,env,m=>(evs es env m).bind λws m=>match(views ws m).bind λts=>bltT b ts with
  |some (.lst ts)=>.ok (.c m.length) (m++[some (false,ts)])
  |_=>.stuck
 |.celA a b,env,m=>(ev a env m).bind λx m=>(ev b env m).bind λy m=>addC x y m
 |.dsp ks vs,env,m=>(evs ks env m).bind λkw m=>(evs vs env m).bind λvw m=>dspT kw vw m
 |.ix a b,env,m=>(ev a env m).bind λx m=>(ev b env m).bind λy m=>pur ((view x m).bind λx=>(view y m).bind λy=>ixT x y) m
 |.slc a lo hi,env,m=>(ev a env m).bind λx m=>(if Zj lo then Res.ok none m else(ev lo env m).bind intP).bind λl m =>
   (if Zj hi then Res.ok none m else(ev hi env m).bind intP).bind λh m=>pur ((view x m).bind λx=>slT x l h) m
 |.hole,_,m=>.ok (.t .non) m
 |.rev a,env,m=>(ev a env m).bind λx m=>pur ((view x m).bind λx=>match x with
  |.tup ts=>some (.tup ts.reverse)
  |.lst ts=>some (.lst ts.reverse)
  |_=>none) m
 |.call f es,env,m=>(evs es env m).bind λws m=>call f ws m
 |.blt b es,env,m=>(evs es env m).bind λws m=>pur ((views ws m).bind λts=>bltT b ts) m
 |.mth b o es,env,m=>(ev o env m).bind λx m=>if tyM b x m then(evs es env m).bind λws m=>doM b x ws m else .stuck
 |.isi a ty,env,m=>(ev a env m).bind λx m=>pur ((view x m).map λx=>.bl (isT x ty)) m
 |.comp own keep it tg cs inner,env,m=>(ev it env m).only.bind λx m0=>(Z5 x m0).bind λts m =>
   (Jg (λenv m=>(tests cs env m).bind λk m=>if k then(ev inner env m).bind ZfS else .ok [] m) tg ts (Yo own none++keep.map λi=>(env[i]?).join) m).only.bind λout m =>
    if out.length<=lim then .ok (.t (.lst out)) (giveBack x m0 m)else .stuck
 |.more it tg cs inner,env,m=>(ev it env m).bind λx m0=>(Z5 x m0).bind λts m =>
   (Jg (λenv m=>(tests cs env m).bind λk m=>if k then(ev inner env m).bind ZfS else .ok [] m) tg ts env m).bind λout m=>.ok (.t (.lst out)) (giveBack x m0 m)
 |.emit a,env,m=>(ev a env m).bind λx m=>(frz x m).bind λt m=>.ok (.t (.lst [t])) m
 |.emit2 a b,env,m=>(ev a env m).bind λx m=>(ev b env m).bind λy m=>match x with
  |.t t=>if(keyT t).isSome then(frz y m).bind λu m=>.ok (.t (.lst [t,u])) m else .stuck
  |_=>.stuck
 |.tr a,env,m=>(ev a env m).bind treeW
 |.fnv j,_,m=>match gv[j]? with
  |some (.int a)=>.ok (.f a.toNat) m
  |_=>.stuck
 |.callV i tab es,env,m=>match env[i]? with
  |some (some (.f a))=>match Zp7 gv a tab with
   |some k=>(evs es env m).bind λws m=>call k ws m
   |none=>.stuck
  |_=>.stuck
 |.xat a cs nm,env,m=>(ev a env m).bind λx m=>pur (xatT cs nm x) m
 |.xis a yes no,env,m=>(ev a env m).bind λx m=>pur (xisT yes no x) m
 |.ptd a b,env,m=>(ev a env m).bind λx m=>(ev b env m).bind λy m=>pur ((view x m).bind λx=>(view y m).bind λy=>ptT x y) m
 |.sortk keep a b,env,m=>(ev a env m).bind λx m=>match view x m with
  |some (.lst ts)=>(loopK (λenv m=>ev b env m) (keep.map λi=>(env[i]?).join) ts m).only.bind λks m=>pur (sortkT ks ts) m
  |_=>.stuck
 |.fld a C f,env,m=>(ev a env m).bind λx m=>pur (fldT C f x) m
 |.mcal f C nm o es,env,m=>(ev o env m).bind λx m=>if isO C nm x then(evs es env m).bind λws m=>call f (x::ws) m else .stuck
 |.make f C nms es,env,m=>(evs es env m).bind λws m=>if ws.all isTr then(call f (.u::ws) m).bind (mkO C nms)else .stuck
 |.emp k a,env,m=>(ev a env m).bind λx m=>pur ((view x m).bind (empT k)) m
 |.fst es,env,m=>(evf es [] env m).bind λcs m=>.ok (.t (.str cs)) m
 |.gdg k e,env,m=>(ev e env m).bind λx m=>pur ((view x m).bind λx=>gDct gv[k]? λks vs=>(keyT x).bind (Qv ks vs)) m
 |.gdn k neg e,env,m=>(ev e env m).bind λx m=>pur ((view x m).bind λx=>gDct gv[k]? λks vs=>(keyT x).map λk=>.bl (if neg then !(Qv ks vs k).isSome else(Qv ks vs k).isSome)) m
 |.dsn ks vs,env,m=>(evs vs env m).bind λws m=>(frzs ws m).bind λts m=>if ks.length=ts.length/\ks.length<=1000/\ks.Nodup then .ok (.t (.dct (ks.map λk=>.inr ⟨k.toArray⟩) ts)) m else .stuck
noncomputable def evs:Es->Env->Mem->Res (List W)
 |.nil,_,m=>.ok [] m
 |.cons e es,env,m=>(ev e env m).bind λw m=>(evs es env m).bind λws m=>.ok (w::ws) m
noncomputable def evf:Es->List Nat->Env->Mem->Res (List Nat)
 |.nil,acc,_,m=>.ok acc m
 |.cons e es,acc,env,m=>(ev e env m).bind λw m=>(fmtW acc w m).bind λacc m=>evf es acc env m
noncomputable def tests:Es->Env->Mem->Res Bool
 |.nil,_,m=>.ok true m
 |.cons e es,env,m=>(ev e env m).bind λx m=>(QK x m).bind λk m=>if k then tests es env m else .ok false m
end
noncomputable def ex:S->Env->Mem->Res Flow
 |.done,env,m=>.ok (.next env) m
 |.asg i e k,env,m=>(ev call gv e env m).bind λw m=>ex k (env.set i (some w)) m
 |.asgT is e k,env,m=>(ev call gv e env m).bind λw m=>match w with
  |.t t=>match Qs (.tp is) t env with
   |some env=>ex k env m
   |none=>.stuck
  |.c _=>.stuck
  |.f _=>.stuck
  |.x _ _ _=>.stuck
  |.o _ _ _=>.stuck
  |.u=>.stuck
 |.asgC i e k,env,m=>(ev call gv e env m).bind λw m=>match w with
  |.t (.lst ts)=>ex k (env.set i (some (.c m.length))) (m++[some (false,ts)])
  |_=>.stuck
 |.asgL is e k,env,m=>(ev call gv e env m).bind λw m=>match w with
  |.t (.lst ts)=>match Qs (.tp is) (.tup ts) env with
   |some env=>ex k env m
   |none=>.stuck
  |_=>.stuck
 |.set o i v k,env,m=>(ev call gv v env m).bind λz m=>(ev call gv o env m).bind λx m=>(ev call gv i env m).bind λy m =>
   (setM x y z m).bind λ_ m=>ex k env m
 |.aug i op e k,env,m=>match env[i]? with
  |some (some x)=>(ev call gv e env m).bind λy m=>(pur ((view x m).bind λx=>(view y m).bind λy=>augT op x y) m).bind λz m=>ex k (env.set i (some z)) m
  |_=>.stuck
 |.ife c a b k,env,m=>(ev call gv c env m).bind λx m=>(QK x m).bind λt m =>
   (if t then ex a env m else ex b env m).bind λfl m=>match fl with
    |.next env=>ex k env m
    |fl=>.ok fl m
 |.forr tg it body k,env,m=>(ev call gv it env m).bind λx m0=>(Z5 x m0).bind λts m =>
   (Q3 (λenv m=>ex body env m) tg ts env m).bind λfl m=>match fl with
    |.next env=>ex k env (giveBack x m0 m)
    |.ret w=>.ok (.ret w) (giveBack x m0 m)
    |_=>.stuck
 |.whil c body k,env,m=>(Jr (λenv m=>(ev call gv c env m).bind QK) (λenv m=>ex body env m) turns env m).bind λfl m=>match fl with
    |.next env=>ex k env m
    |fl=>.ok fl m
 |.ret e _,env,m=>(ev call gv e env m).bind λw m=>.ok (.ret w) m
 |.retN _,_,m=>.ok (.ret (.t .non)) m
 |.expr e k,env,m=>(ev call gv e env m).bind λ_ m=>ex k env m
 |.pass k,env,m=>ex k env m
 |.brk _,env,m=>.ok (.brk env) m
 |.cont _,env,m=>.ok (.cont env) m
 |.stk,_,_=>.stuck
 |.rse c nms es _,env,m=>(evs call gv es env m).bind λws m=>(frzs ws m).bind λts m=>if nms=[]then(if ts.length<=1000 then .exc ⟨c,[],[]⟩ m else .stuck)else if ts.length=nms.length then .exc ⟨c,nms,ts⟩ m else .stuck
 |.tri b yes nm h k,env,m=>match ex b env m with
  |.ok fl m=>match fl with
   |.next env=>ex k env m
   |fl=>.ok fl m
  |.exc x m=>if x.cls∈yes then(ex h (hEnv env.length nm x) m).only.bind λfl m=>match fl with
    |.next env=>ex k (unE nm env) m
    |.ret w=>.ok (.ret w) m
    |_=>.stuck
   else .stuck
  |.stuck=>.stuck
end
structure Fn where
 ps:Nat
 n:Nat
 body:S
 cell:Bool:=false
noncomputable def fin(n:Nat)(cell:Bool)(fl:Flow)(m:Mem):Res W:=match fl with
 |.ret (.t t)=>.ok (.t t) (m.take n)
 |.ret (.c i)=>if i<n then .ok (.c i) (m.take n)else match m[i]? with
  |some (some (false,ts))=>if cell then .ok (.c n) (m.take n++[some (false,ts)])else .ok (.t (.lst ts)) (m.take n)
  |_=>.stuck
 |.next _=>.ok (.t .non) (m.take n)
 |_=>.stuck
noncomputable def Zbm(fns:List Fn)(gv:List T):Nat->Nat->List W->Mem->Res W
 |0,_,_,_=>.stuck
 |n+1,f,ws,m=>match fns[f]? with
  |none=>.stuck
  |some d=>if ws.length=d.ps then(ex (Zbm fns gv n) gv d.body (ws.map some++Yo (d.n-d.ps) none) m).bind λfl m'=>fin m.length d.cell fl m' else .stuck
end Mi
namespace Mi
open PySem L2
noncomputable def ZfV:HO->Option HO->Prop
 |.tbl _,r=>∃qs,r=some (.tbl qs)
 |o,r=>r=some o
theorem ZfV.of{o:HO}{r:Option HO}(h:r=some o):ZfV o r:=by cases o<;>first|exact h|exact⟨_,h⟩
theorem ZfV.trans{o:HO}{r r':Option HO}(h:ZfV o r)(k:∀o',r=some o'->ZfV o' r'):ZfV o r':=by
 cases o with
 |tbl ps =>
  obtain⟨qs,h⟩:=h
  obtain⟨rs,h⟩:=k _ h
  exact⟨rs,h⟩
 |_=>exact k _ h
theorem ZfV.some{o:HO}{r:Option HO}(h:ZfV o r):∃o',r=some o':=by
 cases o with
 |tbl ps=>obtain⟨qs,h⟩:=h;exact⟨_,h⟩
 |_=>exact⟨_,h⟩
noncomputable def ZbO:List Str:=["row_of","first_meeting"]
noncomputable def lamQ(q:Str):Str:=(q++".<locals>.")++"<lambda>"
noncomputable def Zag(o:Obj):Option (Str×Addr):=match o.data with
 |.fields vs=>match vs[1]?,vs[11]? with
  |some (Va q _),some (U3 P)=>if ZbO.contains q then some (q,P)else none
  |_,_=>none
 |_=>none
noncomputable def ZmO(K:Frag)(q:Str)(P:Addr):Prop:=∃c o,K.lookup c=some o/\Zag o=some (q,P)/\K.lookup P=none
noncomputable def Zi1(q:Str)(H:Hp)(ps:Array Value):Prop:=TriplesOk ps.toList/\∀pos cv,codeAmong pos ps.toList=some cv->∃(c:Addr) (o:Obj) (vs:Array Value) (t:Tok) (u:HO),cv=.ref c/\H c=some (.frz o u)/\o.data=.fields vs/\vs[1]?=some (.str (lamQ q) t)
noncomputable def TabR(K:Frag)(H:Hp):Prop:=∀q P,ZmO K q P->∃ps,H P=some (.tbl ps)/\Zi1 q H ps
theorem Zi1.kept{q:Str}{H H':Hp}{ps:Array Value}(h:Zi1 q H ps)(k2:∀a o u,H a=some (.frz o u)->H' a=some (.frz o u)):Zi1 q H' ps:=by
 refine⟨h.1,λpos cv hc=>?_⟩
 obtain⟨c,o,vs,t,u,a1,a2,a3,a4⟩:=h.2 pos cv hc
 exact⟨c,o,vs,t,u,a1,k2 _ _ _ a2,a3,a4⟩
theorem TabR.kept{K:Frag}{H H':Hp}(h:TabR K H)(k1:∀a ps,H a=some (.tbl ps)->H' a=some (.tbl ps))(k2:∀a o u,H a=some (.frz o u)->H' a=some (.frz o u)):TabR K H':=λq P e=>by
 obtain⟨ps,h1,h2⟩:=h q P e
 exact⟨ps,k1 _ _ h1,h2.kept k2⟩
theorem TabR.upd{K:Frag}{H:Hp}{a:Addr}{o:HO}(h:TabR K H)(hn:∀u,H a=some u->∃xs,u=.lst xs):TabR K (upd H a o):=
 h.kept (λb ps e=>by rw[Z3];exact e;rintro rfl;obtain⟨xs,z⟩:=hn _ e;cases z) λb o u e=>by rw[Z3];exact e;rintro rfl;obtain⟨xs,z⟩:=hn _ e;cases z
section
variable(K:Frag)
noncomputable def ZC(cm:List Addr)(m:Mem)(a:Addr):Prop:=∀(i:Nat) p,m[i]?=some (some p)->cm[i]?≠some a
noncomputable def Zec(H:Hp)(a:Addr)(ns:List Int):Prop:=(∃o,H a=some (.frz o (.lst (ns.map V.int)))) ∨
 ∃(o:Obj) (its:Array Value) (n:Nat),K.lookup a=some o/\o.cls=.type "list"/\o.dict=none/\o.data=.seq its n/\its.size<=YJ/\Vals (ns.map V.int) its.toList
inductive RT (cm:List Addr) (m:Mem) (H:Hp):T->V->Prop where
 |non:RT cm m H .non .non
 |bl (b:Bool):RT cm m H (.bl b) (.bl b)
 |int (i:Int):RT cm m H (.int i) (.int i)
 |str (cs:List Nat):RT cm m H (.str cs) (.str ⟨cs.toArray⟩)
 |tup {a:Addr}{ts:List T}{vs:List V}:SqT K H a vs->ts.length=vs.length->(∀(i:Nat) t v,ts[i]?=some t->vs[i]?=some v->RT cm m H t v)->RT cm m H (.tup ts) (.ref a)
 |lst {a:Addr}{ts:List T}{vs:List V}:H a=some (.lst vs)->ZC cm m a->ts.length=vs.length->(∀(i:Nat) t v,ts[i]?=some t->vs[i]?=some v->RT cm m H t v)->RT cm m H (.lst ts) (.ref a)
 |dct {a:Addr}{ks:List Key}{ts:List T}{vs:List V}:H a=some (.dK (ks.zip vs))->ZC cm m a->ks.length=vs.length->ts.length=vs.length ->
  (∀(i:Nat) t v,ts[i]?=some t->vs[i]?=some v->RT cm m H t v)->RT cm m H (.dct ks ts) (.ref a)
 |scr {a:Addr}(ns:List Int):Zec K H a ns->RT cm m H (.scr ns) (.ref a)
noncomputable abbrev RTs(cm:List Addr)(m:Mem)(H:Hp)(ts:List T)(vs:List V):Prop:=Paired (RT K cm m H) ts vs
noncomputable def XF(cm:List Addr)(m:Mem)(H:Hp)(nms:List Str)(ts:List T)(dx:Option Addr):Prop:=match dx with
 |none=>nms=[]/\ts=[]
 |some d=>∃vs,H d=some (.xd (nms.zip vs))/\nms.length=vs.length/\RTs K cm m H ts vs
noncomputable def RW(cm:List Addr)(m:Mem)(H:Hp):W->V->Prop
 |.t x,v=>RT K cm m H x v
 |.c i,v=>∃a,cm[i]?=some a/\v=.ref a
 |.f a,v=>v=.ref a
 |.x c nms ts,v=>∃a o u,v=.ref a/\H a=some (.frz o u)/\o.cls=.ref c/\(∃fs,o.data=.fields fs)/\XF K cm m H nms ts o.dict
 |.o C nms ts,v=>∃a dx vs,v=.ref a/\H a=some (.ins C dx (nms.zip vs))/\nms.length=vs.length/\RTs K cm m H ts vs
 |.u,_=>True
noncomputable abbrev RWs(cm:List Addr)(m:Mem)(H:Hp)(ws:List W)(vs:List V):Prop:=Paired (RW K cm m H) ws vs
structure MemR (cm:List Addr) (m:Mem) (H:Hp):Prop where
 len:cm.length=m.length
 inj:∀(i j:Nat) a p q,m[i]?=some (some p)->m[j]?=some (some q)->cm[i]?=some a->cm[j]?=some a->i=j
 at':∀(i:Nat) p,m[i]?=some (some p)->∃a vs,cm[i]?=some a/\H a=some (.lst vs)/\K.lookup a=none/\RTs K cm m H p.2 vs
 tab:TabR K H
noncomputable def EnvR(cm:List Addr)(m:Mem)(H:Hp)(env:Env)(σ:L2.St):Prop:=∀(i:Nat) w,env[i]?=some (some w)->∃v,σ[i]?=some (some v)/\RW K cm m H w v
structure Ext (cm:List Addr) (m:Mem) (H:Hp) (cm':List Addr) (m':Mem) (H':Hp):Prop where
 pre:∀(i:Nat) a,cm[i]?=some a->cm'[i]?=some a
 len:m.length<=m'.length
 lent:∀(i:Nat) ts,m[i]?=some (some (true,ts))->m'[i]?=some (some (true,ts))
 keep:∀a o,H a=some o->ZC cm m a->ZfV o (H' a)/\ZC cm' m' a
end
section
variable{K:Frag}{cm cm' cm'':List Addr}{m m' m'':Mem}{H H' H'':Hp}
theorem Zdo{α β:Type}{F:α->β->Prop}:∀{xs:List α}{ys:List β},xs.length=ys.length->(∀(i:Nat) x y,xs[i]?=some x->ys[i]?=some y->F x y)->Paired F xs ys
 |[],[],_,_=>.nil
 |x::xs,y::ys,hl,h=>.cons (h 0 x y rfl rfl) (Zdo (by simpa using hl) λi a b ha hb=>h (i+1) a b (by simpa using ha) (by simpa using hb))
 |[],_::_,hl,_=>by simp at hl
 |_::_,[],hl,_=>by simp at hl
theorem Xj{α β:Type}{F:α->β->Prop}:∀{xs:List α}{ys:List β},Paired F xs ys->∀(i:Nat) x y,xs[i]?=some x->ys[i]?=some y->F x y
 |_,_,.nil,i,x,y,h,_=>by simp at h
 |_,_,.cons r t,0,x,y,h1,h2=>by simp at h1 h2;subst h1;subst h2;exact r
 |_,_,.cons r t,i+1,x,y,h1,h2=>Xj t i x y (by simpa using h1) (by simpa using h2)
theorem ZX{α β:Type}{F:α->β->Prop}{xs:List α}{ys:List β}(h:Paired F xs ys){i:Nat}{x:α}(hx:xs[i]?=some x):∃y,ys[i]?=some y/\F x y:=by
 have hl:=h.length
 have hi:=(Yj.mp hx).1
 have hy:ys[i]?=some (ys[i]'(by omega)):=YM (by omega)
 exact⟨_,hy,Xj h i _ _ hx hy⟩
theorem Z7{α β:Type}{F:α->β->Prop}:∀{xs xs':List α}{ys ys':List β},Paired F xs ys->Paired F xs' ys'->Paired F (xs++xs') (ys++ys')
 |_,_,_,_,.nil,h=>h
 |_,_,_,_,.cons r t,h=>.cons r (Z7 t h)
theorem Zdn{α β:Type}{F:α->β->Prop}:∀{xs:List α}{ys:List β}(n:Nat),Paired F xs ys->Paired F (xs.take n) (ys.take n)
 |_,_,0,_=>.nil
 |_,_,_+1,.nil=>.nil
 |_,_,n+1,.cons r t=>.cons r (Zdn n t)
theorem Zdp{α β:Type}{F:α->β->Prop}:∀{xs:List α}{ys:List β}(n:Nat),Paired F xs ys->Paired F (xs.drop n) (ys.drop n)
 |_,_,0,r=>r
 |_,_,_+1,.nil=>.nil
 |_,_,n+1,.cons _ t=>Zdp n t
theorem ZeC{α β:Type}{F:α->β->Prop}{x:α}{y:β}(r:F x y):∀{xs:List α}{ys:List β}(i:Nat),Paired F xs ys->Paired F (xs.set i x) (ys.set i y)
 |_,_,_,.nil=>.nil
 |_,_,0,.cons _ t=>.cons r t
 |_,_,i+1,.cons q t=>.cons q (ZeC r i t)
theorem Zt{α β:Type}{F G:α->β->Prop}(f:∀a b,F a b->G a b){xs:List α}{ys:List β}(h:Paired F xs ys):Paired G xs ys:=L2.Paired.mapP h f
theorem RT.mtup{a:Addr}{ts:List T}{vs:List V}(h:SqT K H a vs)(r:RTs K cm m H ts vs):RT K cm m H (.tup ts) (.ref a):=.tup h r.length λi t v h1 h2=>Xj r i t v h1 h2
theorem RT.mlst{a:Addr}{ts:List T}{vs:List V}(h:H a=some (.lst vs))(n:ZC cm m a)(r:RTs K cm m H ts vs):RT K cm m H (.lst ts) (.ref a):=.lst h n r.length λi t v h1 h2=>Xj r i t v h1 h2
theorem RT.itup{ts:List T}{v:V}(h:RT K cm m H (.tup ts) v):∃a vs,v=.ref a/\SqT K H a vs/\RTs K cm m H ts vs:=by
 cases h with
 |tup h1 h2 h3=>exact⟨_,_,rfl,h1,Zdo h2 h3⟩
theorem RT.ilst{ts:List T}{v:V}(h:RT K cm m H (.lst ts) v):∃a vs,v=.ref a/\H a=some (.lst vs)/\ZC cm m a/\RTs K cm m H ts vs:=by
 cases h with
 |lst h1 h2 h3 h4=>exact⟨_,_,rfl,h1,h2,Zdo h3 h4⟩
theorem Q0(M:MemR K cm m H){a:Addr}{o:HO}(h:H a=some o)(hn:∀vs,o≠.lst vs):ZC cm m a:=λi ts e z=>by
 obtain⟨b,vs,h1,h2,_,_⟩:=M.at' i ts e
 rw[h1]at z;cases z
 rw[h2]at h;cases h
 exact hn _ rfl
theorem Ext.sqT(x:Ext cm m H cm' m' H')(M:MemR K cm m H){a:Addr}{vs:List V}(h:SqT K H a vs):SqT K H' a vs:=by
 rcases h with(h|⟨o,h⟩)|h
 ·exact .inl (.inl (x.keep a _ h (Q0 M h (λ_ z=>by cases z))).1)
 ·exact .inl (.inr ⟨o,(x.keep a _ h (Q0 M h (λ_ z=>by cases z))).1⟩)
 ·exact .inr h
theorem Ext.scr(x:Ext cm m H cm' m' H')(M:MemR K cm m H){a:Addr}{ns:List Int}(h:Zec K H a ns):Zec K H' a ns:=by
 rcases h with⟨o,h⟩|h
 ·exact .inl ⟨o,(x.keep a _ h (Q0 M h (λ_ z=>by cases z))).1⟩
 ·exact .inr h
theorem Zec.sq{a:Addr}{ns:List Int}(h:Zec K H a ns):SqL K H a (ns.map V.int):=by
 rcases h with⟨o,h⟩|h
 ·exact .inl (.inr ⟨o,h⟩)
 ·exact .inr h
theorem RT.ext(x:Ext cm m H cm' m' H')(M:MemR K cm m H)(M':MemR K cm' m' H'){t:T}{v:V}(h:RT K cm m H t v):RT K cm' m' H' t v:=by
 induction h with
 |non=>exact .non
 |bl b=>exact .bl b
 |int i=>exact .int i
 |str cs=>exact .str cs
 |tup h1 h2 _ ih=>exact .tup (x.sqT M h1) h2 ih
 |lst h1 h2 h3 _ ih=>exact .lst (x.keep _ _ h1 h2).1 (x.keep _ _ h1 h2).2 h3 ih
 |scr ns h=>exact .scr ns (x.scr M h)
 |dct h1 h2 h3 h4 _ ih=>exact .dct (x.keep _ _ h1 h2).1 (x.keep _ _ h1 h2).2 h3 h4 ih
theorem RTs.ext(x:Ext cm m H cm' m' H')(M:MemR K cm m H)(M':MemR K cm' m' H'){ts:List T}{vs:List V}(h:RTs K cm m H ts vs):RTs K cm' m' H' ts vs:=Zt (λ_ _ z=>z.ext x M M') h
theorem XF.ext(x:Ext cm m H cm' m' H')(M:MemR K cm m H)(M':MemR K cm' m' H'){nms:List Str}{ts:List T}{dx:Option Addr}(h:XF K cm m H nms ts dx):XF K cm' m' H' nms ts dx:=by
 cases dx with
 |none=>exact h
 |some d =>
  obtain⟨vs,h1,h2,h3⟩:=h
  exact⟨vs,(x.keep d _ h1 (Q0 M h1 (λ_ z=>by cases z))).1,h2,h3.ext x M M'⟩
theorem RW.ext(x:Ext cm m H cm' m' H')(M:MemR K cm m H)(M':MemR K cm' m' H'){w:W}{v:V}(h:RW K cm m H w v):RW K cm' m' H' w v:=by
 cases w with
 |t t=>exact RT.ext x M M' h
 |c i=>obtain⟨a,h1,h2⟩:=h;exact⟨a,x.pre i a h1,h2⟩
 |f a=>exact h
 |x c nms ts=>obtain⟨a,o,u,h1,h2,h3,h3',h4⟩:=h;exact⟨a,o,u,h1,(x.keep a _ h2 (Q0 M h2 (λ_ z=>by cases z))).1,h3,h3',h4.ext x M M'⟩
 |o C nms ts=>obtain⟨a,dx,vs,h1,h2,h3,h4⟩:=h;exact⟨a,dx,vs,h1,(x.keep a _ h2 (Q0 M h2 (λ_ z=>by cases z))).1,h3,h4.ext x M M'⟩
 |u=>exact W4
theorem RWs.ext(x:Ext cm m H cm' m' H')(M:MemR K cm m H)(M':MemR K cm' m' H'){ws:List W}{vs:List V}(h:RWs K cm m H ws vs):RWs K cm' m' H' ws vs:=Zt (λ_ _ z=>RW.ext x M M' z) h
theorem EnvR.ext(x:Ext cm m H cm' m' H')(M:MemR K cm m H)(M':MemR K cm' m' H'){env:Env}{σ:L2.St}(h:EnvR K cm m H env σ):EnvR K cm' m' H' env σ:=λi w e=>by
 obtain⟨v,h1,h2⟩:=h i w e
 exact⟨v,h1,h2.ext x M M'⟩
theorem Ext.refl:Ext cm m H cm m H:=⟨λ_ _ h=>h,Yn _,λ_ _ h=>h,λ_ _ h n=>⟨.of h,n⟩⟩
theorem Ext.trans(x:Ext cm m H cm' m' H')(y:Ext cm' m' H' cm'' m'' H''):Ext cm m H cm'' m'' H'':=
 ⟨λi a h=>y.pre i a (x.pre i a h),Y5 x.len y.len,λi ts h=>y.lent i ts (x.lent i ts h),λa o h n=>⟨(x.keep a o h n).1.trans λo' e=>(y.keep a o' e (x.keep a o h n).2).1,(x.keep a o h n).1.some.elim λo' e=>(y.keep a o' e (x.keep a o h n).2).2⟩⟩
noncomputable abbrev XR:=Exc->List Addr->Mem->Hp->Prop
noncomputable def xr0:XR:=λ_ _ _ _=>False
variable(K) in
noncomputable def OkR{α:Type}(r:Res α)(xr:XR)(cm:List Addr)(m:Mem)(H:Hp)(k:α->List Addr->Mem->Hp->Prop):Prop:=match r with
 |.ok a m'=>∀cm' H',Ext cm m H cm' m' H'->MemR K cm' m' H'->k a cm' m' H'
 |.exc x m'=>∀cm' H',Ext cm m H cm' m' H'->MemR K cm' m' H'->xr x cm' m' H'
 |.stuck=>False
variable{xr:XR}
theorem OkR.shift{α:Type}{r:Res α}{k:α->List Addr->Mem->Hp->Prop}(h:OkR K r xr cm m H k)(x:Ext cm m H cm' m' H'):OkR K r xr cm' m' H' k:=by
 cases r with
 |ok a m2=>exact λc h' e M=>h c h' (x.trans e) M
 |exc a m2=>exact λc h' e M=>h c h' (x.trans e) M
 |stuck=>exact h
theorem OkR.bind{α β:Type}{r:Res α}{f:α->Mem->Res β}{k:β->List Addr->Mem->Hp->Prop}(h:OkR K (r.bind f) xr cm m H k):
  OkR K r xr cm m H λa cm' m' H'=>OkR K (f a m') xr cm' m' H' k:=by
 cases r with
 |ok a m2=>exact λc h' e M=>OkR.shift (show OkR K (f a m2) xr cm m H k from h) e
 |exc a m2=>exact h
 |stuck=>exact h
theorem OkR.bind0{α β:Type}{r:Res α}{f:α->Mem->Res β}{k:β->List Addr->Mem->Hp->Prop}(h:OkR K (r.bind f) xr cm m H k):
  OkR K r xr cm m H λa _ m' _=>OkR K (f a m') xr cm m H k:=by
 cases r with
 |ok a m2=>exact λc h' e M=>h
 |exc a m2=>exact h
 |stuck=>exact h
theorem OkR.mono{α:Type}{r:Res α}{k k':α->List Addr->Mem->Hp->Prop}(h:OkR K r xr cm m H k)(f:∀a cm' m' H',Ext cm m H cm' m' H'->MemR K cm' m' H'->k a cm' m' H'->k' a cm' m' H'):OkR K r xr cm m H k':=by
 cases r with
 |ok a m2=>exact λc h' e M=>f a c m2 h' e M (h c h' e M)
 |exc a m2=>exact h
 |stuck=>exact h
theorem OkR.now{α:Type}{a:α}{k:α->List Addr->Mem->Hp->Prop}(h:OkR K (.ok a m) xr cm m H k)(M:MemR K cm m H):k a cm m H:=h cm H .refl M
theorem OkR.to{α:Type}{a:α}{m':Mem}{k:α->List Addr->Mem->Hp->Prop}(h:OkR K (.ok a m') xr cm m H k)(x:Ext cm m H cm' m' H')(M:MemR K cm' m' H'):k a cm' m' H':=h cm' H' x M
end
section
variable(K:Frag) (call:Nat->List W->Mem->Res W) (gv:List T) (xr:XR)
noncomputable def tE(e:E):TE:=λσ H Q=>∃env cm m,EnvR K cm m H env σ/\MemR K cm m H/\OkR K (ev call gv e env m) xr cm m H λw cm' m' H'=>∀v,RW K cm' m' H' w v->Q v H'
noncomputable def tA(es:Es):TA:=λσ H Q=>∃env cm m,EnvR K cm m H env σ/\MemR K cm m H/\OkR K (evs call gv es env m) xr cm m H λws cm' m' H'=>∀vs,RWs K cm' m' H' ws vs->Q vs H'
noncomputable def tT(e:E):TT:=λσ H Q=>∃env cm m,EnvR K cm m H env σ/\MemR K cm m H/\OkR K ((ev call gv e env m).bind QK) xr cm m H λk _ _ H'=>Q k H'
noncomputable def r2(f:W->W->Mem->Res W):R2:=λx y H Q=>∃cm m a b,MemR K cm m H/\RW K cm m H a x/\RW K cm m H b y/\OkR K (f a b m) xr cm m H λw cm' m' H'=>∀v,RW K cm' m' H' w v->Q v H'
noncomputable def r1(f:W->Mem->Res W):V->Hp->VK->Prop:=λx H Q=>∃cm m a,MemR K cm m H/\RW K cm m H a x/\OkR K (f a m) xr cm m H λw cm' m' H'=>∀v,RW K cm' m' H' w v->Q v H'
noncomputable def rN(f:List W->Mem->Res W):List V->Hp->VK->Prop:=λxs H Q=>∃cm m ws,MemR K cm m H/\RWs K cm m H ws xs/\OkR K (f ws m) xr cm m H λw cm' m' H'=>∀v,RW K cm' m' H' w v->Q v H'
end
section
variable{K:Frag}{call:Nat->List W->Mem->Res W}{gv:List T}{xr:XR}{X:Cx}
theorem PE.mono{e:Expr}{t t':TE}(h:PE X e t)(f:∀σ H Q,t' σ H Q->t σ H Q):PE X e t':=λpins s σ H Q I q=>h pins s σ H Q I (f σ H Q q)
theorem PT.mono{e:Expr}{t t':TT}(h:PT X e t)(f:∀σ H Q,t' σ H Q->t σ H Q):PT X e t':=λpins s σ H Q I q=>h pins s σ H Q I (f σ H Q q)
theorem PA.mono{e:List Expr}{t t':TA}(h:PA X e t)(f:∀σ H Q,t' σ H Q->t σ H Q):PA X e t':=λpos pins s σ H Q I q=>h pos pins s σ H Q I (f σ H Q q)
theorem ZkI{a b e:E}{f:W->W->Mem->Res W}(h:∀env m,ev call gv e env m=(ev call gv a env m).bind λx m=>(ev call gv b env m).bind λy m=>f x y m)(σ:L2.St)(H:Hp)(Q:VK)(q:tE K call gv xr e σ H Q):
  tOp (r2 K xr f) (tE K call gv xr a) (tE K call gv xr b) σ H Q:=by
 obtain⟨env,cm,m,hE,hM,ho⟩:=q
 rw[h]at ho
 refine⟨env,cm,m,hE,hM,ho.bind.mono λw cm1 m1 H1 x1 M1 o1 v rv=>?_⟩
 refine⟨env,cm1,m1,hE.ext x1 hM M1,M1,o1.bind.mono λw2 cm2 m2 H2 x2 M2 o2 v2 rv2=>?_⟩
 exact⟨cm2,m2,w,w2,M2,rv.ext x2 M1 M2,rv2,o2⟩
end
end Mi
namespace Mi
open PySem PySem.Spec PyProof.Rows L2
section
variable{K:Frag}{cm:List Addr}{m:Mem}{H:Hp}{xr:XR}{X:Cx}
theorem Zg{w:W}{v:V}{t:T}(h:RW K cm m H w v)(e:view w m=some t)(n:∀ts,t≠.lst ts):RT K cm m H t v:=by
 cases w with
 |t x=>cases e;exact h
 |f a=>cases e
 |x _ _ _=>cases e
 |o _ _ _=>cases e
 |u=>cases e
 |c i =>
  unfold view at e
  dsimp only at e
  split at e
  ·cases e;exact absurd rfl (n _)
  ·cases e
theorem ZD{w:W}{v:V}{ts:List T}(M:MemR K cm m H)(h:RW K cm m H w v)(e:view w m=some (.lst ts)):∃a vs,v=.ref a/\H a=some (.lst vs)/\RTs K cm m H ts vs:=by
 cases w with
 |t x =>
  cases e
  obtain⟨a,vs,h1,h2,_,h3⟩:=RT.ilst h
  exact⟨a,vs,h1,h2,h3⟩
 |f a=>cases e
 |x _ _ _=>cases e
 |o _ _ _=>cases e
 |u=>cases e
 |c i =>
  unfold view at e
  dsimp only at e
  split at e
  ·rename_i fl us hu
   cases e
   obtain⟨a,h1,h2⟩:=h
   obtain⟨b,vs,h3,h4,_,h5⟩:=M.at' i _ hu
   rw[h1]at h3;cases h3
   exact⟨a,vs,h2,h4,h5⟩
  ·cases e
theorem RT.vint{i:Int}{v:V}(h:RT K cm m H (.int i) v):v=.int i:=by cases h;rfl
theorem RT.vbl{b:Bool}{v:V}(h:RT K cm m H (.bl b) v):v=.bl b:=by cases h;rfl
theorem RT.vnon{v:V}(h:RT K cm m H .non v):v=.non:=by cases h;rfl
theorem RT.vstr{cs:List Nat}{v:V}(h:RT K cm m H (.str cs) v):v=.str ⟨cs.toArray⟩:=by cases h;rfl
theorem RT.vscr{ns:List Int}{v:V}(h:RT K cm m H (.scr ns) v):∃a,v=.ref a/\Zec K H a ns:=by
 cases h with
 |scr _ h=>exact⟨_,rfl,h⟩
theorem ZhL(M:MemR K cm m H){p:Addr}(hp:H p=none):ZC cm m p:=λi ts e z=>by
 obtain⟨a,vs,h1,h2,_⟩:=M.at' i ts e
 rw[h1]at z;cases z
 rw[hp]at h2;cases h2
theorem Ext.new{p:Addr}{o:HO}(hp:H p=none):Ext cm m H cm m (upd H p o):=
 ⟨λ_ _ h=>h,Yn _,λ_ _ h=>h,λa u h n=>⟨.of (by rw[Z3 (QH h hp)];exact h),n⟩⟩
theorem RT.same{H':Hp}{cm':List Addr}{m':Mem}(h1:∀a o,H a=some o->H' a=some o)(h2:∀a,ZC cm m a->H a≠none->ZC cm' m' a){t:T}{v:V}(h:RT K cm m H t v):RT K cm' m' H' t v:=by
 induction h with
 |non=>exact .non
 |bl b=>exact .bl b
 |int i=>exact .int i
 |str cs=>exact .str cs
 |tup q1 q2 _ ih =>
  refine .tup ?_ q2 ih
  rcases q1 with(q|⟨o,q⟩)|q
  ·exact .inl (.inl (h1 _ _ q))
  ·exact .inl (.inr ⟨o,h1 _ _ q⟩)
  ·exact .inr q
 |lst q1 q2 q3 _ ih=>exact .lst (h1 _ _ q1) (h2 _ q2 (by rw[q1];simp)) q3 ih
 |dct q1 q2 q3 q4 _ ih=>exact .dct (h1 _ _ q1) (h2 _ q2 (by rw[q1];simp)) q3 q4 ih
 |scr ns q =>
  refine .scr ns ?_
  rcases q with⟨o,q⟩|q
  ·exact .inl ⟨o,h1 _ _ q⟩
  ·exact .inr q
theorem XF.same{H':Hp}{cm':List Addr}{m':Mem}(h1:∀a o,H a=some o->H' a=some o)(f:∀t v,RT K cm m H t v->RT K cm' m' H' t v){nms:List Str}{ts:List T}{dx:Option Addr}(h:XF K cm m H nms ts dx):XF K cm' m' H' nms ts dx:=by
 cases dx with
 |none=>exact h
 |some d =>
  obtain⟨vs,q1,q2,q3⟩:=h
  exact⟨vs,h1 _ _ q1,q2,Zt (λt v z=>f t v z) q3⟩
theorem RO.wsame{cm':List Addr}{m':Mem}(f:∀t v,RT K cm m H t v->RT K cm' m' H t v){c:Nat}{nms:List Str}{ts:List T}{v:V}(h:RW K cm m H (.o c nms ts) v):RW K cm' m' H (.o c nms ts) v:=by
 obtain⟨a,dx,vs,h1,h2,h3,h4⟩:=h
 exact⟨a,dx,vs,h1,h2,h3,Zt (λ_ _ z=>f _ _ z) h4⟩
theorem XF.wsame{cm':List Addr}{m':Mem}(f:∀t v,RT K cm m H t v->RT K cm' m' H t v){c:Nat}{nms:List Str}{ts:List T}{v:V}(h:RW K cm m H (.x c nms ts) v):RW K cm' m' H (.x c nms ts) v:=by
 obtain⟨a,o,u,q1,q2,q3,q3',q4⟩:=h
 exact⟨a,o,u,q1,q2,q3,q3',q4.same (λ_ _ z=>z) f⟩
theorem Xh{p:Addr}{o:HO}(hp:H p=none):∀a u,H a=some u->upd H p o a=some u:=λa u h=>by rw[Z3 (QH h hp)];exact h
theorem MemR.new(M:MemR K cm m H){p:Addr}{o:HO}(hp:H p=none):MemR K cm m (upd H p o):=
 ⟨M.len,M.inj,λi ts e=>by
  obtain⟨a,vs,h1,h2,h3,h4⟩:=M.at' i ts e
  exact⟨a,vs,h1,Xh hp _ _ h2,h3,Zt (λ_ _ z=>z.same (Xh hp) λ_ n _=>n) h4⟩,M.tab.upd λu z=>by rw[hp]at z;cases z⟩
theorem RTs.new{ts:List T}{vs:List V}(r:RTs K cm m H ts vs){p:Addr}{o:HO}(hp:H p=none):RTs K cm m (upd H p o) ts vs:=Zt (λ_ _ z=>z.same (Xh hp) λ_ n _=>n) r
theorem RT.newTup{ts:List T}{vs:List V}(r:RTs K cm m H ts vs){p:Addr}(hp:H p=none):RT K cm m (upd H p (.tup vs)) (.tup ts) (.ref p):=.mtup (.of Xv) (RTs.new r hp)
theorem RT.newLst(M:MemR K cm m H){ts:List T}{vs:List V}(r:RTs K cm m H ts vs){p:Addr}(hp:H p=none):RT K cm m (upd H p (.lst vs)) (.lst ts) (.ref p):=.mlst Xv (ZhL M hp) (RTs.new r hp)
theorem Zdw{p:Addr}{c:Bool×List T}(hl:cm.length=m.length){a:Addr}(n:ZC cm m a)(ne:a≠p):ZC (cm++[p]) (m++[some c]) a:=λi us e z=>by
 by_cases hi:i<m.length
 ·rw[YC hi]at e
  rw[YC (by omega)]at z
  exact n i us e z
 ·by_cases hj:i=m.length
  ·subst hj
   rw[<-hl,YG (Yn _)]at z
   simp at z
   exact ne z.symm
  ·rw[UJ (by simp;omega)]at e
   cases e
theorem Zc4(M:MemR K cm m H){ts:List T}{vs:List V}(r:RTs K cm m H ts vs){p:Addr}(hp:H p=none)(hk:K.lookup p=none):
  Ext cm m H (cm++[p]) (m++[some (false,ts)]) (upd H p (.lst vs))/\MemR K (cm++[p]) (m++[some (false,ts)]) (upd H p (.lst vs))/\RW K (cm++[p]) (m++[some (false,ts)]) (upd H p (.lst vs)) (.c m.length) (.ref p):=by
 have sm:∀{t:T}{v:V},RT K cm m H t v->RT K (cm++[p]) (m++[some (false,ts)]) (upd H p (.lst vs)) t v:=λh =>
  h.same (Xh hp) λa n hn=>Zdw M.len n λz=>by subst z;exact hn hp
 have cs:∀{i:Nat}{c:Bool×List T},(m++[some (false,ts)])[i]?=some (some c)->(m[i]?=some (some c)/\i<m.length)∨(i=m.length/\c=(false,ts)):=λ{i c} e=>by
  by_cases hi:i<m.length
  ·rw[YC hi]at e
   exact .inl ⟨e,hi⟩
  ·by_cases hj:i=m.length
   ·subst hj
    simp at e
    exact .inr ⟨rfl,e.symm⟩
   ·rw[UJ (by simp;omega)]at e
    cases e
 have cl:∀{i:Nat},i<m.length->(cm++[p])[i]?=cm[i]?:=λ{i} h=>YC (by rw[M.len];exact h)
 have cp:(cm++[p])[m.length]?=some p:=by rw[<-M.len];simp
 have np:∀{i:Nat}{c:Bool×List T}{a:Addr},m[i]?=some (some c)->cm[i]?=some a->a≠p:=λ{i c a} e1 e2 z=>by
  subst z
  obtain⟨b,ws,q1,q2,_⟩:=M.at' i c e1
  rw[e2]at q1;cases q1
  rw[hp]at q2;cases q2
 refine⟨⟨λi a h=>?_,by simp,λi us h=>?_,λa o h n=>⟨.of (Xh hp _ _ h),Zdw M.len n (QH h hp)⟩⟩,⟨by simp[M.len],λi j a us us' e1 e2 f1 f2=>?_,λi us e=>?_,M.tab.upd λu z=>by rw[hp]at z;cases z⟩,⟨p,cp,rfl⟩⟩
 ·rw[YC (Yj.mp h).1];exact h
 ·rw[YC (Yj.mp h).1];exact h
 ·rcases cs e1 with⟨g1,l1⟩|⟨k1,_⟩
  ·rw[cl l1]at f1
   rcases cs e2 with⟨g2,l2⟩|⟨k2,_⟩
   ·rw[cl l2]at f2
    exact M.inj i j a _ _ g1 g2 f1 f2
   ·rw[k2,cp]at f2;cases f2
    exact absurd rfl (np g1 f1)
  ·rw[k1,cp]at f1;cases f1
   rcases cs e2 with⟨g2,l2⟩|⟨k2,_⟩
   ·rw[cl l2]at f2
    exact absurd rfl (np g2 f2)
   ·rw[k1,k2]
 ·rcases cs e with⟨g,l⟩|⟨k,z⟩
  ·obtain⟨a,ws,q1,q2,q3,q4⟩:=M.at' i us g
   exact⟨a,ws,by rw[cl l];exact q1,Xh hp _ _ q2,q3,Zt (λ_ _ z=>sm z) q4⟩
  ·rw[k,z]
   exact⟨p,vs,cp,Xv,hk,Zt (λ_ _ z=>sm z) r⟩
theorem ZaZ{i:Nat}{c c':Bool×List T}(e:m[i]?=some (some c)){j:Nat}{d:Bool×List T}(q:(m.set i (some c'))[j]?=some (some d)):∃d',m[j]?=some (some d'):=by
 by_cases hj:j=i
 ·subst hj;exact⟨c,e⟩
 ·rw[YF (Uo hj)]at q;exact⟨d,q⟩
theorem Zcr(M:MemR K cm m H){i:Nat}{ts ts':List T}{a:Addr}{vs':List V}(e:m[i]?=some (some (false,ts)))(hc:cm[i]?=some a)(r:RTs K cm m H ts' vs'):
  Ext cm m H cm (m.set i (some (false,ts'))) (upd H a (.lst vs'))/\MemR K cm (m.set i (some (false,ts'))) (upd H a (.lst vs')):=by
 have hi:=(Yj.mp e).1
 have nl:∀{b:Addr},ZC cm m b->ZC cm (m.set i (some (false,ts'))) b:=λ{b} n j us q=>by
  obtain⟨us',q'⟩:=ZaZ e q
  exact n j us' q'
 have ne:∀{b:Addr},ZC cm m b->b≠a:=λ{b} n z=>by subst z;exact n i _ e hc
 have x:Ext cm m H cm (m.set i (some (false,ts'))) (upd H a (.lst vs')):=⟨λ_ _ h=>h,by simp,λj us h=>by
  by_cases hj:j=i
  ·subst hj;rw[e]at h;cases h
  ·rw[YF (Uo hj)];exact h,λb o h n=>⟨.of (by rw[Z3 (ne n)];exact h),nl n⟩⟩
 have sm:∀{t:T}{v:V},RT K cm m H t v->RT K cm (m.set i (some (false,ts'))) (upd H a (.lst vs')) t v:=λ{t v} h=>by
  induction h with
  |non=>exact .non
  |bl b=>exact .bl b
  |int i=>exact .int i
  |str cs=>exact .str cs
  |tup q1 q2 _ ih=>exact .tup (x.sqT M q1) q2 ih
  |lst q1 q2 q3 _ ih=>exact .lst (x.keep _ _ q1 q2).1 (x.keep _ _ q1 q2).2 q3 ih
  |dct q1 q2 q3 q4 _ ih=>exact .dct (x.keep _ _ q1 q2).1 (x.keep _ _ q1 q2).2 q3 q4 ih
  |scr ns q=>exact .scr ns (x.scr M q)
 refine⟨x,⟨by simp[M.len],λj k b us us' e1 e2 f1 f2=>?_,λj us q=>?_,by
  obtain⟨b0,vs0,w1,w2,_⟩:=M.at' i _ e
  rw[hc]at w1;cases w1
  exact M.tab.upd λu z=>by rw[w2]at z;cases z;exact⟨_,rfl⟩⟩⟩
 ·obtain⟨_,e1⟩:=ZaZ e e1
  obtain⟨_,e2⟩:=ZaZ e e2
  exact M.inj j k b _ _ e1 e2 f1 f2
 ·by_cases hj:j=i
  ·subst hj
   rw[YT hi]at q
   cases q
   obtain⟨b,ws,q1,_,q3,_⟩:=M.at' j _ e
   rw[hc]at q1;cases q1
   exact⟨a,vs',hc,Xv,q3,Zt (λ_ _ z=>sm z) r⟩
  ·rw[YF (Uo hj)]at q
   obtain⟨b,ws,q1,q2,q3,q4⟩:=M.at' j us q
   have hb:b≠a:=λz=>by
    subst z
    exact hj (M.inj j i b _ _ q e q1 hc)
   exact⟨b,ws,q1,by rw[Z3 hb];exact q2,q3,Zt (λ_ _ z=>sm z) q4⟩
theorem Zmy(M:MemR K cm m H){i:Nat}{ts:List T}(e:m[i]?=some (some (false,ts))):
  ∃a vs,cm[i]?=some a/\H a=some (.lst vs)/\K.lookup a=none/\Ext cm m H cm (m.set i none) H/\MemR K cm (m.set i none) H/\RTs K cm (m.set i none) H ts vs/\RT K cm (m.set i none) H (.lst ts) (.ref a):=by
 obtain⟨a,vs,q1,q2,q3,q4⟩:=M.at' i _ e
 have hi:=(Yj.mp e).1
 have lv:∀{j:Nat}{us:Bool×List T},(m.set i none)[j]?=some (some us)->m[j]?=some (some us)/\j≠i:=λ{j us} q=>by
  by_cases hj:j=i
  ·subst hj;rw[YT hi]at q;cases q
  ·rw[YF (Uo hj)]at q;exact⟨q,hj⟩
 have nl:∀{b:Addr},ZC cm m b->ZC cm (m.set i none) b:=λ{b} n j us q=>n j us (lv q).1
 have sm:∀{t:T}{v:V},RT K cm m H t v->RT K cm (m.set i none) H t v:=λh=>h.same (λ_ _ z=>z) λ_ n _=>nl n
 have na:ZC cm (m.set i none) a:=λj us q z=>(lv q).2 (M.inj j i a _ _ (lv q).1 e z q1)
 have rs:=Zt (λ_ _ z=>sm z) q4
 refine⟨a,vs,q1,q2,q3,⟨λ_ _ h=>h,by simp,λj us h=>?_,λb o h n=>⟨.of h,nl n⟩⟩,⟨by simp[M.len],λj k b us us' e1 e2=>M.inj j k b _ _ (lv e1).1 (lv e2).1,λj us q=>?_,M.tab⟩,rs,.mlst q2 na rs⟩
 ·by_cases hj:j=i
  ·subst hj;rw[e]at h;cases h
  ·rw[YF (Uo hj)];exact h
 ·obtain⟨b,ws,p1,p2,p3,p4⟩:=M.at' j us (lv q).1
  exact⟨b,ws,p1,p2,p3,Zt (λ_ _ z=>sm z) p4⟩
theorem ZdS(M:MemR K cm m H){i:Nat}{b b':Bool}{ts:List T}(e:m[i]?=some (some (b,ts))):
  (∀a,ZC cm m a↔ZC cm (m.set i (some (b',ts))) a)/\MemR K cm (m.set i (some (b',ts))) H/\(∀t v,RT K cm m H t v->RT K cm (m.set i (some (b',ts))) H t v):=by
 have hi:=(Yj.mp e).1
 have nl:∀a,ZC cm m a↔ZC cm (m.set i (some (b',ts))) a:=λa=>by
  constructor
  ·intro n j us q
   obtain⟨d,q'⟩:=ZaZ e q
   exact n j d q'
  ·intro n j us q
   by_cases hj:j=i
   ·subst hj
    exact n j _ (YT hi)
   ·exact n j us (by rw[YF (Uo hj)];exact q)
 have sm:∀t v,RT K cm m H t v->RT K cm (m.set i (some (b',ts))) H t v:=λt v h=>h.same (λ_ _ z=>z) λa n _=>(nl a).mp n
 refine⟨nl,⟨by simp[M.len],λj k a us us' e1 e2 f1 f2=>?_,λj us q=>?_,M.tab⟩,sm⟩
 ·obtain⟨_,e1⟩:=ZaZ e e1
  obtain⟨_,e2⟩:=ZaZ e e2
  exact M.inj j k a _ _ e1 e2 f1 f2
 ·by_cases hj:j=i
  ·subst hj
   rw[YT hi]at q
   cases q
   obtain⟨a,vs,q1,q2,q3,q4⟩:=M.at' j _ e
   exact⟨a,vs,q1,q2,q3,Zt (λ_ _ z=>sm _ _ z) q4⟩
  ·rw[YF (Uo hj)]at q
   obtain⟨a,vs,q1,q2,q3,q4⟩:=M.at' j us q
   exact⟨a,vs,q1,q2,q3,Zt (λ_ _ z=>sm _ _ z) q4⟩
theorem Zmx(M:MemR K cm m H){i:Nat}{b:Bool}{ts:List T}(e:m[i]?=some (some (b,ts))):Ext cm m H cm (m.set i (some (true,ts))) H/\MemR K cm (m.set i (some (true,ts))) H:=by
 have hi:=(Yj.mp e).1
 obtain⟨nl,M',_⟩:=ZdS (b':=true) M e
 refine⟨⟨λ_ _ h=>h,by simp,λj us h=>?_,λa o h n=>⟨.of h,(nl a).mp n⟩⟩,M'⟩
 by_cases hj:j=i
 ·subst hj
  rw[e]at h;cases h
  exact YT hi
 ·rw[YF (Uo hj)];exact h
theorem ZbY{cm':List Addr}{m1 m':Mem}{H':Hp}{w:W}{ts:List T}(M:MemR K cm m H)(e:Z5 w m=.ok ts m1)(x:Ext cm m1 H cm' m' H')(M':MemR K cm' m' H'):
  Ext cm m H cm' (giveBack w m m') H'/\MemR K cm' (giveBack w m m') H'/\∀t v,RT K cm' m' H' t v->RT K cm' (giveBack w m m') H' t v:=by
 cases w with
 |t t =>
  unfold Z5 at e
  dsimp only at e
  split at e<;>cases e
  exact⟨x,M',λ_ _ h=>h⟩
 |f a=>cases e
 |x _ _ _=>cases e
 |o _ _ _=>cases e
 |u=>cases e
 |c i =>
  unfold Z5 at e
  dsimp only at e
  split at e
  ·rename_i b us h
   cases e
   have hi:=(Yj.mp h).1
   have h':=x.lent i ts (YT hi)
   have hi':=(Yj.mp h').1
   obtain⟨nl,M2,sm⟩:=ZdS (b':=b) M' h'
   have eg:giveBack (.c i) m m'=m'.set i (some (b,ts)):=by unfold giveBack;dsimp only;rw[h]
   rw[eg]
   obtain⟨nl0,M1,_⟩:=ZdS (b':=true) M h
   refine⟨⟨λj a q=>x.pre j a q,by rw[Wx];have:=x.len;rw[Wx]at this;exact this,λj vs q=>?_,λa o q n=>?_⟩,M2,sm⟩
   ·by_cases hj:j=i
    ·subst hj
     rw[h]at q;cases q
     exact YT hi'
    ·rw[YF (Uo hj)]
     exact x.lent j vs (by rw[YF (Uo hj)];exact q)
   ·obtain⟨q1,q2⟩:=x.keep a o q ((nl0 a).mp n)
    exact⟨q1,(nl a).mp q2⟩
  ·cases e
theorem ZF:lim<=YJ:=by rw[W3];decide
theorem QX{o:Option T}{k:W->List Addr->Mem->Hp->Prop}(h:OkR K (pur o m) xr cm m H k):∃t,o=some t/\OkR K (.ok (.t t) m) xr cm m H k:=by
 cases o with
 |none=>exact h.elim
 |some t=>exact⟨t,rfl,h⟩
theorem ZdZ{α:Type}{o p:Option T}{f:T->T->Option α}{z:α}(h:(o.bind λx=>p.bind λy=>f x y)=some z):∃x y,o=some x/\p=some y/\f x y=some z:=by
 cases o with
 |none=>cases h
 |some x =>
  cases p with
  |none=>cases h
  |some y=>exact⟨x,y,rfl,rfl,h⟩
theorem ZkL(a b:List Nat):(⟨a.toArray⟩:Str)++⟨b.toArray⟩=⟨(a++b).toArray⟩:=by
 show(⟨a.toArray++b.toArray⟩:Str)=_
 simp
theorem Zaq(a:List Nat):(⟨a.toArray⟩:Str).length=a.length:=by simp[Ybw]
theorem ans{t:T}{Q:VK}(ho:OkR K (.ok (.t t) m) xr cm m H λw cm' m' H'=>∀v,RW K cm' m' H' w v->Q v H')(M:MemR K cm m H){v:V}(r:RT K cm m H t v):Q v H:=ho.now M v r
theorem Zd9{ts:List T}{Q:VK}(ho:OkR K (.ok (.t (.tup ts)) m) xr cm m H λw cm' m' H'=>∀v,RW K cm' m' H' w v->Q v H')(M:MemR K cm m H){vs:List V}(r:RTs K cm m H ts vs){p:Addr}(hp:H p=none):
 Q (.ref p) (upd H p (.tup vs)):=ho.to (.new hp) (M.new hp) _ (RT.newTup r hp)
theorem Zba{ts:List T}{Q:VK}(ho:OkR K (.ok (.t (.lst ts)) m) xr cm m H λw cm' m' H'=>∀v,RW K cm' m' H' w v->Q v H')(M:MemR K cm m H){vs:List V}(r:RTs K cm m H ts vs){p:Addr}(hp:H p=none):
 Q (.ref p) (upd H p (.lst vs)):=ho.to (.new hp) (M.new hp) _ (RT.newLst M r hp)
theorem Zp4{i j:Int}(h1:i.natAbs<bigN)(h2:j.natAbs<bigN):IntMulOk i j:=by
 have b:∀{k:Int},k.natAbs<bigN->Builtin.Int.intBits k<=2000:=λ{k} h=>intBits_le (by
  have e:bigN=2^(250*8):=by unfold bigN;rw[<-Nat.pow_mul]
  rw[e]at h
  exact h)
 exact mulOk_of_bits (b h1) (b h2) (by decide)
theorem Zf6{i:Int}(h:small i=true):-(2^64)<i/\i<2^64:=by
 have h':=of_decide_eq_true h
 omega
theorem ZnW{i j:Int}(h:Zbd i j=true):IntMulOk i j:=by
 unfold Zbd at h
 simp only[Ue,Yg,decide_eq_true_eq]at h
 rcases h with(h|h)|⟨h1,h2⟩
 ·exact CMul.ok (.inl (Zf6 h))
 ·exact CMul.ok (.inr (Zf6 h))
 ·exact Zp4 h1 h2
theorem ZpV:OpR X (Wy .Mult) (rI (λi j=>Zbd i j=true) λi j=>.int (i*j)):=opI λ_ _ _ _ _ _ _ hc q=>mul_int q (ZnW hc)
theorem ZqB{prog:YQ}{w:World}{A:Around}{E:Value->Shared->Prop}{s:Shared}{t b:Addr}{ws:List Value}{Q:Value->Shared->Prop}(ht:IsTup s.heap t ([]:List Value).toArray)(hb:IsTup s.heap b ws.toArray)(h:Q (.ref b) s):wpAny (model prog w) A (Wy .Add (.ref t) (.ref b)) Q E s:=by
 obtain⟨⟨cls,dd,data,sl⟩,ho,hc,n,hd⟩:=id ht
 obtain⟨⟨cls2,dd2,data2,sl2⟩,ho2,hc2,n2,hd2⟩:=id hb
 simp only at hc hd hc2 hd2
 subst hc hd hc2 hd2
 exact Ybh ⟨_,ho,rfl⟩ ⟨_,ho2,rfl⟩ YaE Ya6 Vj Vd (G3 _ _)
  (tuple_addW0 t b ([]:List Value).toArray ws.toArray n n2 dd dd2 sl sl2 (by simp)) ⟨ho,ho2,h⟩
theorem ZpU:OpR X (Wy .Add) (λx y H Q=>∃a b ys,x=.ref a/\y=.ref b/\SqT X.K H a []/\SqT X.K H b ys/\Q (.ref b) H):=by
 intro pins s σ H x y v u Q I rx ry h
 obtain⟨a,b,ys,rfl,rfl,ha,hb,q⟩:=h
 cases rx
 cases ry
 obtain⟨its,r1,p1,_⟩:=I.tuple ha
 obtain⟨its2,r2,p2,_⟩:=I.tuple hb
 cases r1
 exact ZqB p1 p2 ⟨.ref b,H,I,rfl,q⟩
theorem ZbR{f:Int->Int->Option T}{x y t:T}(e:intT f x y=some t):∃i j,x=.int i/\y=.int j/\f i j=some t:=by
 cases x with
 |int i=>cases y with
  |int j=>exact⟨i,j,rfl,rfl,e⟩
  |_=>cases e
 |_=>cases e
theorem Zco{f:Int->Int->Bool}{x y:T}{c:Bool}(e:Zei f x y=some c):∃i j,x=.int i/\y=.int j/\f i j=c:=by
 cases x with
 |int i=>cases y with
  |int j=>exact⟨i,j,rfl,rfl,YS e⟩
  |_=>cases e
 |_=>cases e
noncomputable def fBin(op:GK)(x y:W)(m:Mem):Res W:=pur ((view x m).bind λx=>(view y m).bind λy=>binT op x y) m
theorem ZjI:OpR X (Wy .Add) (r2 X.K xr (fBin .Add)):=by
 rintro pins s σ H x y v u Q I rx ry ⟨cm,m,a,b,M,ra,rb,ho⟩
 obtain⟨t,e,ho⟩:=QX ho
 obtain⟨ta,tb,ea,eb,e⟩:=ZdZ e
 change addT ta tb=some t at e
 unfold addT at e
 have hz:=ZF
 split at e
 ·cases e
  cases(Zg ra ea (λ_ z=>by cases z)).vint
  cases(Zg rb eb (λ_ z=>by cases z)).vint
  exact op_add pins s σ H _ _ v u Q I rx ry ⟨_,_,rfl,rfl,ans ho M (.int _)⟩
 ·split at e<;>cases e
  cases(Zg ra ea (λ_ z=>by cases z)).vstr
  cases(Zg rb eb (λ_ z=>by cases z)).vstr
  exact ZjJ pins s σ H _ _ v u Q I rx ry ⟨_,_,rfl,rfl,by rw[Zaq,Zaq];omega,by rw[ZkL];exact ans ho M (.str _)⟩
 ·split at e<;>cases e
  obtain⟨p,vs,rfl,h1,r1⟩:=(Zg ra ea (λ_ z=>by cases z)).itup
  obtain⟨q,us,rfl,h2,r2⟩:=(Zg rb eb (λ_ z=>by cases z)).itup
  have l1:=r1.length
  have l2:=r2.length
  cases vs with
  |nil =>
   cases r1
   exact ZpU pins s σ H _ _ v u Q I rx ry ⟨p,q,us,rfl,rfl,h1,h2,ans ho M (.mtup h2 r2)⟩
  |cons v1 vs =>
   refine ZpX pins s σ H _ _ v u Q I rx ry ⟨p,q,_,us,rfl,rfl,h1,h2,by simp,by omega,λz=>?_,λz l hl=>Zd9 ho M (Z7 r1 r2) hl⟩
   subst z
   cases r2
   rw[Ur]at ho
   exact ans ho M (.mtup h1 r1)
 ·split at e<;>cases e
  obtain⟨p,vs,rfl,h1,r1⟩:=ZD M ra ea
  obtain⟨q,us,rfl,h2,r2⟩:=ZD M rb eb
  have l1:=r1.length
  have l2:=r2.length
  exact op_cat pins s σ H _ _ v u Q I rx ry ⟨p,q,vs,us,rfl,rfl,h1,h2,by omega,λl hl=>Zba ho M (Z7 r1 r2) hl⟩
 all_goals cases e
theorem ZjE:OpR X (Wy .Sub) (r2 X.K xr (fBin .Sub)):=by
 rintro pins s σ H x y v u Q I rx ry ⟨cm,m,a,b,M,ra,rb,ho⟩
 obtain⟨t,e,ho⟩:=QX ho
 obtain⟨ta,tb,ea,eb,e⟩:=ZdZ e
 obtain⟨i,j,rfl,rfl,e2⟩:=ZbR e
 cases(Zg ra ea (λ_ z=>by cases z)).vint
 cases(Zg rb eb (λ_ z=>by cases z)).vint
 cases e2
 exact op_sub pins s σ H _ _ v u Q I rx ry ⟨_,_,rfl,rfl,ans ho M (.int _)⟩
theorem ZhI:OpR X (Wy .FloorDiv) (r2 X.K xr (fBin .FloorDiv)):=by
 rintro pins s σ H x y v u Q I rx ry ⟨cm,m,a,b,M,ra,rb,ho⟩
 obtain⟨t,e,ho⟩:=QX ho
 obtain⟨ta,tb,ea,eb,e⟩:=ZdZ e
 obtain⟨i,j,rfl,rfl,e2⟩:=ZbR e
 cases(Zg ra ea (λ_ z=>by cases z)).vint
 cases(Zg rb eb (λ_ z=>by cases z)).vint
 split at e2<;>cases e2
 exact ZpW pins s σ H _ _ v u Q I rx ry ⟨_,_,rfl,rfl,‹_/\_›,ans ho M (.int _)⟩
theorem ZjH:OpR X (Wy .Mod) (r2 X.K xr (fBin .Mod)):=by
 rintro pins s σ H x y v u Q I rx ry ⟨cm,m,a,b,M,ra,rb,ho⟩
 obtain⟨t,e,ho⟩:=QX ho
 obtain⟨ta,tb,ea,eb,e⟩:=ZdZ e
 obtain⟨i,j,rfl,rfl,e2⟩:=ZbR e
 cases(Zg ra ea (λ_ z=>by cases z)).vint
 cases(Zg rb eb (λ_ z=>by cases z)).vint
 split at e2<;>cases e2
 exact op_mod pins s σ H _ _ v u Q I rx ry ⟨_,_,rfl,rfl,‹_›,ans ho M (.int _)⟩
theorem ZjF:OpR X (Wy .Pow) (r2 X.K xr (fBin .Pow)):=by
 rintro pins s σ H x y v u Q I rx ry ⟨cm,m,a,b,M,ra,rb,ho⟩
 obtain⟨t,e,ho⟩:=QX ho
 obtain⟨ta,tb,ea,eb,e⟩:=ZdZ e
 obtain⟨i,j,rfl,rfl,e2⟩:=ZbR e
 cases(Zg ra ea (λ_ z=>by cases z)).vint
 cases(Zg rb eb (λ_ z=>by cases z)).vint
 have hc:0<=j/\j<=1000/\i.natAbs<2^64:=by
  by_cases hc:0<=j/\j<=1000/\i.natAbs<2^64
  ·exact hc
  ·rw[if_neg hc]at e2;cases e2
 rw[if_pos hc]at e2
 cases e2
 exact op_pow pins s σ H _ _ v u Q I rx ry ⟨_,_,rfl,rfl,⟨hc.1,by omega,hc.2.2⟩,ans ho M (.int _)⟩
theorem Zck{α β:Type}{F:α->β->Prop}{xs:List α}{ys:List β}(h:Paired F xs ys):∀k:Nat,Paired F (repT xs k) (Yo k ys).flatten
 |0=>.nil
 |k+1=>by
  unfold repT
  rw[Wq,Wq,WK,WK]
  exact Z7 h (Zck h k)
noncomputable def fCmp(op:CmpOp)(x y:W)(m:Mem):Res W:=pur (((view x m).bind λx=>(view y m).bind λy=>cmpT op x y).map .bl) m
theorem Za7{op:CmpOp}{a b:W}{k:W->List Addr->Mem->Hp->Prop}(h:OkR K (fCmp op a b m) xr cm m H k):∃ta tb c,view a m=some ta/\view b m=some tb/\cmpT op ta tb=some c/\OkR K (.ok (.t (.bl c)) m) xr cm m H k:=by
 obtain⟨t,e,ho⟩:=QX h
 cases q:((view a m).bind λx=>(view b m).bind λy=>cmpT op x y)with
 |none=>rw[q]at e;cases e
 |some c =>
  rw[q]at e;cases e
  obtain⟨ta,tb,ea,eb,e⟩:=ZdZ q
  exact⟨ta,tb,c,ea,eb,e,ho⟩
noncomputable def flV:T->V
 |.bl b=>.bl b
 |.int i=>.int i
 |.str cs=>.str ⟨cs.toArray⟩
 |_=>.non
theorem RT.fl{t:T}{v:V}(h:RT K cm m H t v)(f:flat t=true):v=flV t:=by
 cases h<;>first|rfl|cases f
theorem Xn{w:W}{v:V}{t:T}(h:RW K cm m H w v)(e:view w m=some t)(f:flat t=true):v=flV t:=
 (Zg h e (λts z=>by subst z;cases f)).fl f
theorem Zhr{a b:List Nat}:(⟨a.toArray⟩:Str)=⟨b.toArray⟩↔a=b:=by
 constructor
 ·intro h
  injection h with h
  simpa using h
 ·intro h;rw[h]
theorem Zoj{a b:List Nat}:decide (V.str ⟨a.toArray⟩=V.str ⟨b.toArray⟩)=(a==b):=by
 by_cases h:a=b
 ·subst h;simp
 ·rw[beq_eq_false_iff_ne.mpr h]
  exact decide_eq_false λz=>h (Zhr.mp (V.str.inj z))
theorem ZkW{x y:T}(h:Zht x y=true):flat x=true/\flat y=true/\scal (flV x) (flV y)=true/\decide (flV x=flV y)=eqT x y:=by
 cases x<;>cases y<;>first
  |(cases h;done)
  |(refine⟨rfl,rfl,rfl,?_⟩;unfold eqT;first|exact Zh5|exact Zmq|exact Zoj|exact decide_eq_true rfl|exact decide_eq_false (λz=>nomatch z))
theorem Zqy(x y:T):cmpT .Eq x y=if Zht x y || (Zm 60 x&&Zm 60 y)then some (eqT x y)else none:=by cases x<;>cases y<;>rfl
theorem Zqx(x y:T):cmpT .NotEq x y=if Zht x y || (Zm 60 x&&Zm 60 y)then some (!eqT x y)else none:=by cases x<;>cases y<;>rfl
mutual
noncomputable def pyT:T->PyData
 |.bl b=>.bool b
 |.int i=>.int i
 |.str cs=>.str ⟨cs.toArray⟩
 |.tup ts=>.tuple (pyTs ts)
 |.lst ts=>.list (pyTs ts)
 |_=>.none
noncomputable def pyTs:List T->List PyData
 |[]=>[]
 |t::ts=>pyT t::pyTs ts
end
mutual
theorem Zdj:∀(n:Nat) (t:T),Zm n t=true->Gh (pyT t)=true/\G6 (pyT t)<=n
 |n,.non,h=>⟨by simp[pyT,Gh],by simp[pyT,G6]⟩
 |n,.bl b,h=>⟨by rw[pyT];simp[Gh],by rw[pyT];simp[G6]⟩
 |n,.int i,h=>⟨by rw[pyT];simp[Gh],by rw[pyT];simp[G6]⟩
 |n,.str cs,h=>⟨by rw[pyT,Gh];rw[Zm]at h;exact h,by rw[pyT];simp[G6]⟩
 |0,.tup ts,h=>by simp[Zm]at h
 |0,.lst ts,h=>by simp[Zm]at h
 |n+1,.tup ts,h=>by
  rw[Zm]at h
  have:=Zhx n ts h
  exact⟨by rw[pyT,Gh];exact this.1,by rw[pyT];simp only[G6];omega⟩
 |n+1,.lst ts,h=>by
  rw[Zm]at h
  have:=Zhx n ts h
  exact⟨by rw[pyT,Gh];exact this.1,by rw[pyT];simp only[G6];omega⟩
 |n,.dct _ _,h=>by cases n<;>simp[Zm]at h
 |n,.scr _,h=>by cases n<;>simp[Zm]at h
theorem Zhx:∀(n:Nat) (ts:List T),ZK n ts=true->Yap (pyTs ts)=true/\YaP (pyTs ts)<=n
 |n,[],h=>⟨by rw[pyTs];simp[Yap],by rw[pyTs];simp[YaP]⟩
 |n,t::ts,h=>by
  rw[ZK,Yg]at h
  have h1:=Zdj n t h.1
  have h2:=Zhx n ts h.2
  refine⟨by rw[pyTs,Yap,h1.1,h2.1];rfl,?_⟩
  rw[pyTs,YaP]
  omega
end
theorem str_beq{a b:List Nat}:((⟨a.toArray⟩:Str)==⟨b.toArray⟩)=(a==b):=by
 by_cases h:a=b
 ·subst h;simp
 ·rw[beq_eq_false_iff_ne.mpr h,beq_eq_false_iff_ne.mpr λz=>h (Zhr.mp z)]
mutual
theorem Zix:∀(n k:Nat) (x y:T),Zm n x=true->Zm k y=true->Wk (pyT x) (pyT y)=eqT x y
 |n,k,.tup xs,.tup ys,h1,h2=>by
  cases n with
  |zero=>simp[Zm]at h1
  |succ n=>cases k with
   |zero=>simp[Zm]at h2
   |succ k =>
    rw[Zm]at h1 h2
    rw[pyT,pyT,Wk,eqT]
    exact Zhy n k xs ys h1 h2
 |n,k,.lst xs,.lst ys,h1,h2=>by
  cases n with
  |zero=>simp[Zm]at h1
  |succ n=>cases k with
   |zero=>simp[Zm]at h2
   |succ k =>
    rw[Zm]at h1 h2
    rw[pyT,pyT,Wk,eqT]
    exact Zhy n k xs ys h1 h2
 |n,k,.str xs,.str ys,_,_=>by rw[pyT,pyT,Wk,eqT];exact str_beq
 |n,k,.non,y,_,h2=>by cases y<;>first|(simp[pyT,Wk,eqT];done)|(cases k<;>simp[Zm]at h2)
 |n,k,.bl b,y,_,h2=>by cases y<;>first|(simp[pyT,Wk,eqT,b2i];done)|(cases k<;>simp[Zm]at h2)
 |n,k,.int b,y,_,h2=>by cases y<;>first|(simp[pyT,Wk,eqT,b2i];done)|(cases k<;>simp[Zm]at h2)
 |n,k,.str xs,.non,_,_=>by simp[pyT,Wk,eqT]
 |n,k,.str xs,.bl _,_,_=>by simp[pyT,Wk,eqT]
 |n,k,.str xs,.int _,_,_=>by simp[pyT,Wk,eqT]
 |n,k,.str xs,.tup _,_,_=>by simp[pyT,Wk,eqT]
 |n,k,.str xs,.lst _,_,_=>by simp[pyT,Wk,eqT]
 |n,k,.tup xs,.non,_,_=>by simp[pyT,Wk,eqT]
 |n,k,.tup xs,.bl _,_,_=>by simp[pyT,Wk,eqT]
 |n,k,.tup xs,.int _,_,_=>by simp[pyT,Wk,eqT]
 |n,k,.tup xs,.str _,_,_=>by simp[pyT,Wk,eqT]
 |n,k,.tup xs,.lst _,_,_=>by simp[pyT,Wk,eqT]
 |n,k,.lst xs,.non,_,_=>by simp[pyT,Wk,eqT]
 |n,k,.lst xs,.bl _,_,_=>by simp[pyT,Wk,eqT]
 |n,k,.lst xs,.int _,_,_=>by simp[pyT,Wk,eqT]
 |n,k,.lst xs,.str _,_,_=>by simp[pyT,Wk,eqT]
 |n,k,.lst xs,.tup _,_,_=>by simp[pyT,Wk,eqT]
 |n,k,x,.dct _ _,_,h2=>by cases k<;>simp[Zm]at h2
 |n,k,x,.scr _,_,h2=>by cases k<;>simp[Zm]at h2
 |n,k,.dct _ _,y,h1,_=>by cases n<;>simp[Zm]at h1
 |n,k,.scr _,y,h1,_=>by cases n<;>simp[Zm]at h1
theorem Zhy:∀(n k:Nat) (xs ys:List T),ZK n xs=true->ZK k ys=true->VF (pyTs xs) (pyTs ys)=eqTs xs ys
 |n,k,[],[],_,_=>by rw[pyTs,VF,eqTs]
 |n,k,[],_::_,_,_=>by rw[pyTs,pyTs,VF,eqTs]<;>simp
 |n,k,_::_,[],_,_=>by rw[pyTs,pyTs,VF,eqTs]<;>simp
 |n,k,x::xs,y::ys,h1,h2=>by
  rw[ZK,Yg]at h1 h2
  rw[pyTs,pyTs,VF,eqTs,Zix n k x y h1.1 h2.1,Zhy n k xs ys h1.2 h2.2]
end
theorem ZbG{pins:List (Addr×Obj)}{σ:L2.St}{s:Shared}(I:Inv X pins σ H s):∀{ts:List T}{vs:List V}{us:List Value},ts.length=vs.length->(∀(i:Nat) t v u,ts[i]?=some t->vs[i]?=some v->RelV v u->∃as,Reads s.heap u (pyT t) as)->Vals vs us->∃as,ReadsAll s.heap us (pyTs ts) as
 |[],[],_,_,_,.nil=>⟨_,by rw[pyTs];exact .nil⟩
 |t::ts,v::vs,_,hl,h,.cons r rs=>by
  obtain⟨as,h1⟩:=h 0 t v _ rfl rfl r
  obtain⟨bs,h2⟩:=ZbG I (by simpa using hl) (λi t v u a b c=>h (i+1) t v u (by simpa using a) (by simpa using b) c) rs
  exact⟨_,by rw[pyTs];exact .cons h1 h2⟩
 |[],_::_,_,hl,_,_=>by simp at hl
 |_::_,[],_,hl,_,_=>by simp at hl
theorem RT.reads{pins:List (Addr×Obj)}{σ:L2.St}{s:Shared}{K:Frag}(hK:X.K=K)(I:Inv X pins σ H s){t:T}{v:V}(h:RT K cm m H t v):∀{n:Nat}{u:Value},Zm n t=true->RelV v u->∃as,Reads s.heap u (pyT t) as:=by
 subst hK
 induction h with
 |non=>intro n u _ r;cases r;exact⟨[],by simp only[pyT];exact .none⟩
 |bl b=>intro n u _ r;cases r;exact⟨_,by rw[pyT];exact .bool b⟩
 |int i=>intro n u _ r;obtain⟨t,rfl⟩:=r;exact⟨_,by rw[pyT];exact .int i t⟩
 |str cs=>intro n u _ r;obtain⟨t,rfl⟩:=r;exact⟨_,by rw[pyT];exact .str _ t⟩
 |@tup a ts vs h1 h2 h3 ih =>
  intro n u hd r
  cases n with
  |zero=>simp[Zm]at hd
  |succ n =>
   rw[Zm]at hd
   cases r
   obtain⟨its,rv,⟨o,ho,hc,k,hdt⟩,hz⟩:=I.tuple h1
   have hall:∀(i:Nat) t,ts[i]?=some t->Zm n t=true:=λi t e=>by
    have:∀{l:List T},ZK n l=true->∀x∈l,Zm n x=true:=λ{l}=>by
     induction l with
     |nil=>intro _ x hx;cases hx
     |cons y l ih=>intro h x hx;rw[ZK,Yg]at h;rcases Ym.mp hx with rfl|hx;exact h.1;exact ih h.2 x hx
    exact this hd t (WW e)
   obtain⟨as,hr⟩:=ZbG I h2 (λi t v u e1 e2 r=>ih i t v e1 e2 (hall i t e1) r) rv
   exact⟨_,by rw[pyT];exact .tuple ho hc hdt (by simpa using hr)⟩
 |@lst a ts vs h1 h2 h3 h4 ih =>
  intro n u hd r
  cases n with
  |zero=>simp[Zm]at hd
  |succ n =>
   rw[Zm]at hd
   cases r
   obtain⟨its,k,rv,ho,hz⟩:=I.lst h1
   have hall:∀(i:Nat) t,ts[i]?=some t->Zm n t=true:=λi t e=>by
    have:∀{l:List T},ZK n l=true->∀x∈l,Zm n x=true:=λ{l}=>by
     induction l with
     |nil=>intro _ x hx;cases hx
     |cons y l ih=>intro h x hx;rw[ZK,Yg]at h;rcases Ym.mp hx with rfl|hx;exact h.1;exact ih h.2 x hx
    exact this hd t (WW e)
   obtain⟨as,hr⟩:=ZbG I h3 (λi t v u e1 e2 r=>ih i t v e1 e2 (hall i t e1) r) rv
   exact⟨_,by rw[pyT];exact .list ho rfl rfl (by simpa using hr)⟩
 |dct _ _ _ _ _ _=>intro n u hd _;cases n<;>simp[Zm]at hd
 |scr _ _=>intro n u hd _;cases n<;>simp[Zm]at hd
theorem Xg{pins:List (Addr×Obj)}{σ:L2.St}{s:Shared}(I:Inv X pins σ H s)(M:MemR X.K cm m H){w:W}{t:T}{v:V}{u:Value}(r:RW X.K cm m H w v)(e:view w m=some t)(rv:RelV v u){n:Nat}(hd:Zm n t=true):∃as,Reads s.heap u (pyT t) as:=by
 cases t with
 |lst ts =>
  cases n with
  |zero=>simp[Zm]at hd
  |succ n =>
   rw[Zm]at hd
   obtain⟨a,vs,rfl,h1,rr⟩:=ZD M r e
   cases rv
   obtain⟨its,k,rv,ho,hz⟩:=I.lst h1
   obtain⟨as,hr⟩:=ZbG I rr.length (λi t v u e1 e2 r=>RT.reads rfl I (Xj rr i t v e1 e2) (by
    have:∀{l:List T},ZK n l=true->∀x∈l,Zm n x=true:=λ{l}=>by
     induction l with
     |nil=>intro _ x hx;cases hx
     |cons y l ih=>intro h x hx;rw[ZK,Yg]at h;rcases Ym.mp hx with rfl|hx;exact h.1;exact ih h.2 x hx
    exact this hd t (WW e1)) r) rv
   exact⟨_,by rw[pyT];exact .list ho rfl rfl (by simpa using hr)⟩
 |_=>exact RT.reads rfl I (Zg r e (λ_ z=>by cases z)) hd rv
theorem Zlu(hu:X.A.units+64<cLine):OpR X (Y6 .Eq) (r2 X.K xr (fCmp .Eq)):=by
 rintro pins s σ H x y v u Q I rx ry ⟨cm,m,a,b,M,ra,rb,ho⟩
 obtain⟨ta,tb,c,ea,eb,e,ho⟩:=Za7 ho
 rw[Zqy]at e
 split at e<;>cases e
 rename_i hs
 rw[Ue]at hs
 rcases hs with hs|hs
 ·obtain⟨f1,f2,f3,f4⟩:=ZkW hs
  cases Xn ra ea f1
  cases Xn rb eb f2
  exact op_eq pins s σ H _ _ v u Q I rx ry ⟨f3,by rw[f4];exact ans ho M (.bl _)⟩
 ·rw[Yg]at hs
  obtain⟨as,ha⟩:=Xg I M ra ea rx hs.1
  obtain⟨bs,hb⟩:=Xg I M rb eb ry hs.2
  have d1:=Zdj 60 ta hs.1
  have d2:=Zdj 60 tb hs.2
  refine SeqAt.compareEq_reads ha hb d1.1 d2.1 (by omega) ⟨.bl (eqT ta tb),H,I,?_,ans ho M (.bl _)⟩
  rw[Zix 60 60 ta tb hs.1 hs.2]
  rfl
theorem Zln(hu:X.A.units+64<cLine):OpR X (Y6 .NotEq) (r2 X.K xr (fCmp .NotEq)):=by
 rintro pins s σ H x y v u Q I rx ry ⟨cm,m,a,b,M,ra,rb,ho⟩
 obtain⟨ta,tb,c,ea,eb,e,ho⟩:=Za7 ho
 rw[Zqx]at e
 split at e<;>cases e
 rename_i hs
 rw[Ue]at hs
 rcases hs with hs|hs
 ·obtain⟨f1,f2,f3,f4⟩:=ZkW hs
  cases Xn ra ea f1
  cases Xn rb eb f2
  exact op_ne pins s σ H _ _ v u Q I rx ry ⟨f3,by rw[f4];exact ans ho M (.bl _)⟩
 ·rw[Yg]at hs
  obtain⟨as,ha⟩:=Xg I M ra ea rx hs.1
  obtain⟨bs,hb⟩:=Xg I M rb eb ry hs.2
  have d1:=Zdj 60 ta hs.1
  have d2:=Zdj 60 tb hs.2
  refine SeqAt.compareNe_reads ha hb d1.1 d2.1 (by omega) ⟨.bl (!eqT ta tb),H,I,?_,ans ho M (.bl _)⟩
  rw[Zix 60 60 ta tb hs.1 hs.2]
  rfl
theorem ZgH:∀a b:List Nat,nlt a b=decide (a<b)
 |[],[]=>by simp[nlt]
 |[],_::_=>by simp[nlt]
 |_::_,[]=>by simp[nlt]
 |a::x,b::y=>by
  unfold nlt
  rw[ZgH x y]
  by_cases h:a<b
  ·rw[if_pos h]
   exact(decide_eq_true (List.cons_lt_cons_iff.mpr (.inl h))).symm
  ·rw[if_neg h]
   by_cases h2:b<a
   ·rw[if_pos h2]
    refine(decide_eq_false λz=>?_).symm
    rcases List.cons_lt_cons_iff.mp z with z|⟨z,_⟩<;>omega
   ·rw[if_neg h2]
    have e:a=b:=by omega
    subst e
    simp
theorem Zlo:OpR X (Y6 .Lt) (r2 X.K xr (fCmp .Lt)):=by
 rintro pins s σ H x y v u Q I rx ry ⟨cm,m,a,b,M,ra,rb,ho⟩
 obtain⟨ta,tb,c,ea,eb,e,ho⟩:=Za7 ho
 change ltT ta tb=some c at e
 cases ta with
 |int i=>cases tb with
  |int j =>
   cases e
   cases(Zg ra ea (λ_ z=>by cases z)).vint
   cases(Zg rb eb (λ_ z=>by cases z)).vint
   exact op_lt pins s σ H _ _ v u Q I rx ry ⟨_,_,rfl,rfl,ans ho M (.bl _)⟩
  |_=>cases e
 |str i=>cases tb with
  |str j =>
   cases e
   cases(Zg ra ea (λ_ z=>by cases z)).vstr
   cases(Zg rb eb (λ_ z=>by cases z)).vstr
   refine Zll pins s σ H _ _ v u Q I rx ry ⟨_,_,rfl,rfl,?_⟩
   have:=ans ho M (.bl _)
   rw[ZgH]at this
   exact this
  |_=>cases e
 |_=>cases e
theorem Zlp:OpR X (Y6 .LtE) (r2 X.K xr (fCmp .LtE)):=by
 rintro pins s σ H x y v u Q I rx ry ⟨cm,m,a,b,M,ra,rb,ho⟩
 obtain⟨ta,tb,c,ea,eb,e,ho⟩:=Za7 ho
 obtain⟨i,j,rfl,rfl,rfl⟩:=Zco e
 cases(Zg ra ea (λ_ z=>by cases z)).vint
 cases(Zg rb eb (λ_ z=>by cases z)).vint
 exact op_le pins s σ H _ _ v u Q I rx ry ⟨_,_,rfl,rfl,ans ho M (.bl _)⟩
theorem Zls:OpR X (Y6 .Gt) (r2 X.K xr (fCmp .Gt)):=by
 rintro pins s σ H x y v u Q I rx ry ⟨cm,m,a,b,M,ra,rb,ho⟩
 obtain⟨ta,tb,c,ea,eb,e,ho⟩:=Za7 ho
 obtain⟨i,j,rfl,rfl,rfl⟩:=Zco e
 cases(Zg ra ea (λ_ z=>by cases z)).vint
 cases(Zg rb eb (λ_ z=>by cases z)).vint
 exact op_gt pins s σ H _ _ v u Q I rx ry ⟨_,_,rfl,rfl,ans ho M (.bl _)⟩
theorem Zlt:OpR X (Y6 .GtE) (r2 X.K xr (fCmp .GtE)):=by
 rintro pins s σ H x y v u Q I rx ry ⟨cm,m,a,b,M,ra,rb,ho⟩
 obtain⟨ta,tb,c,ea,eb,e,ho⟩:=Za7 ho
 obtain⟨i,j,rfl,rfl,rfl⟩:=Zco e
 cases(Zg ra ea (λ_ z=>by cases z)).vint
 cases(Zg rb eb (λ_ z=>by cases z)).vint
 exact op_ge pins s σ H _ _ v u Q I rx ry ⟨_,_,rfl,rfl,ans ho M (.bl _)⟩
theorem Zoe{a b:List Nat}:eqV (.str ⟨a.toArray⟩) (.str ⟨b.toArray⟩)=(a==b):=by
 show((⟨a.toArray⟩:Str)==⟨b.toArray⟩)=(a==b)
 by_cases h:a=b
 ·subst h;simp
 ·rw[beq_eq_false_iff_ne.mpr h,beq_eq_false_iff_ne.mpr λz=>h (Zhr.mp z)]
theorem fl_eqV{x y:T}(f:flat x=true)(g:flat y=true):eqV (flV y) (flV x)=eqT y x:=by
 cases x<;>cases y<;>first
  |(cases f;done)
  |(cases g;done)
  |(unfold eqT;exact Zoe)
  |(unfold eqT;rfl)
theorem RTs.fl{ts:List T}{vs:List V}(h:RTs K cm m H ts vs)(f:ts.all flat=true):vs=ts.map flV/\vs.all ZcO=true:=by
 induction h with
 |nil=>exact⟨rfl,rfl⟩
 |@cons t v _ _ r _ ih =>
  rw[Uz,Yg]at f
  obtain⟨h1,h2⟩:=ih f.2
  have h3:=r.fl f.1
  subst h3
  refine⟨by rw[Yz,h1],?_⟩
  rw[Uz,h2,Bool.and_true]
  cases t<;>first|rfl|(cases f.1)
theorem ZmK{x:T}(f:flat x=true):∀{ts:List T},ts.all flat=true->inV (flV x) (ts.map flV)=ts.any λt=>eqT t x
 |[],_=>rfl
 |t::ts,g=>by
  rw[Uz,Yg]at g
  have ih:=ZmK f g.2
  unfold inV at ih ⊢
  rw[Yz,Yaw,Yaw,ih,fl_eqV f g.1]
theorem ZcY{x:T}(f:flat x=true):ZcO (flV x)=true:=by cases x<;>first|rfl|cases f
theorem found1(b:List Nat)(a:Nat):(!(Wc ⟨b.toArray⟩ ⟨#[a]⟩ 0 (⟨b.toArray⟩:Str).length 1).isEmpty)=decide (a∈b):=by
 have:=PySem.StrLaws.found_one (⟨b.toArray⟩:Str) a
 simpa using this
theorem Zb1{x y:T}{c:Bool}(e:cmpT .In x y=some c):(∃a b,x=.str a/\y=.str b/\c=!(Wc ⟨b.toArray⟩ ⟨a.toArray⟩ 0 (⟨b.toArray⟩:Str).length 1).isEmpty)∨(flat x=true/\∃ts,(y=.tup ts∨y=.lst ts)/\ts.all flat=true/\c=ts.any λt=>eqT t x)∨∃ts,y=.lst ts/\Zm 59 x=true/\ZK 59 ts=true/\c=ts.any λt=>eqT t x:=by
 have hh:∀{x y:T}{c:Bool},hasT x y=some c->(flat x=true/\∃ts,(y=.tup ts∨y=.lst ts)/\ts.all flat=true/\c=ts.any λt=>eqT t x)∨∃ts,y=.lst ts/\Zm 59 x=true/\ZK 59 ts=true/\c=ts.any λt=>eqT t x:=by
  intro x y c e
  unfold hasT at e
  split at e
  ·split at e<;>cases e
   rename_i h
   rw[Yg]at h
   exact .inl ⟨h.1,_,.inl rfl,h.2,rfl⟩
  ·split at e
   ·cases e
    rename_i h
    rw[Yg]at h
    exact .inl ⟨h.1,_,.inr rfl,h.2,rfl⟩
   ·split at e<;>cases e
    rename_i h
    rw[Yg]at h
    exact .inr ⟨_,rfl,h.1,h.2,rfl⟩
  ·cases e
 cases x with
 |str cs =>
  cases cs with
  |nil=>cases y<;>exact .inr (hh e)
  |cons a r =>
   cases r with
   |nil =>
    cases y with
    |str b=>cases e;exact .inl ⟨[a],b,rfl,rfl,(found1 b a).symm⟩
    |_=>exact .inr (hh e)
   |cons a' r =>
    cases y with
    |str b=>cases e;exact .inl ⟨_,b,rfl,rfl,rfl⟩
    |_=>exact .inr (hh e)
 |_=>cases y<;>exact .inr (hh e)
theorem Zoi{ts:List T}{n:Nat}(h:ZK n ts=true):∀x∈ts,Zm n x=true:=by
 induction ts with
 |nil=>intro x hx;cases hx
 |cons y l ih =>
  intro x hx
  rw[ZK,Yg]at h
  rcases Ym.mp hx with rfl|hx
  ·exact h.1
  ·exact ih h.2 x hx
theorem ZmU{vs:List V}{us:List Value}(r:Vals vs us):∀(i:Nat) (u:Value),us[i]?=some u->∃v,vs[i]?=some v/\RelV v u:=by
 induction r with
 |nil=>intro i u h;simp at h
 |cons r rs ih =>
  intro i u h
  cases i with
  |zero=>simp at h;subst h;exact⟨_,rfl,r⟩
  |succ i=>exact ih i u (by simpa using h)
theorem Zmn{pins:List (Addr×Obj)}{σ:L2.St}{s:Shared}{H:Hp}{w:W}{tx:T}{xv:V}{v:Value}{p:Addr}{ts:List T}{vs:List V}(hu:X.A.units+64<cLine)(I:Inv X pins σ H s)(M:MemR X.K cm m H)(ra:RW X.K cm m H w xv)(ea:view w m=some tx)(rx:RelV xv v)(dx:Zm 59 tx=true)(h1:H p=some (.lst vs))(r:RTs X.K cm m H ts vs)(dt:ZK 59 ts=true):
  ∃(its:Array Value) (e:Value->Bool),s.heap.IsList p its/\(∀y,y∈its->Ybe X.A.in1 s y v (e y))/\its.any e=ts.any λt=>eqT t tx:=by
 classical
 obtain⟨as,hx⟩:=Xg I M ra ea rx dx
 obtain⟨its,k,rv,ho,hz⟩:=I.lst h1
 have hlen:=r.length.trans rv.length
 have at_:∀(i:Nat) (t:T) (y:Value),ts[i]?=some t->its[i]?=some y->Ybe X.A.in1 s y v (eqT t tx):=by
  intro i t y e1 e2
  obtain⟨u,e3,e4⟩:=ZmU rv i y e2
  have d:=Zoi dt t (WW e1)
  obtain⟨bs,hb⟩:=RT.reads rfl I (Xj r i t u e1 e3) d e4
  have l1:=Zdj 59 t d
  have l2:=Zdj 59 tx dx
  have:=SeqAt.eqAt_reads (pyT t) (pyT tx) X.A.in1 s y v bs as hb hx l1.1 l2.1 (by
   have:X.A.in1.units<=X.A.units+1:=by simp[Around.in1]
   omega)
  rw[Zix 59 59 t tx d dx]at this
  exact this
 refine⟨its.toArray,λy=>decide (∃(i:Nat) (t:T),ts[i]?=some t/\its[i]?=some y/\eqT t tx=true),⟨_,ho,rfl,k,rfl⟩,λy hy=>?_,?_⟩
 ·by_cases q:∃(i:Nat) (t:T),ts[i]?=some t/\its[i]?=some y/\eqT t tx=true
  ·dsimp only;rw[decide_eq_true q]
   obtain⟨i,t,e1,e2,e3⟩:=q
   have:=at_ i t y e1 e2
   rw[e3]at this
   exact this
  ·dsimp only;rw[decide_eq_false q]
   obtain⟨i,hi,e2⟩:=V2 (show y∈its by simpa using hy)
   have hi':i<ts.length:=by omega
   have e1:=YM hi'
   have e2:its[i]?=some y:=by rw[<-e2];exact YM hi
   have:=at_ i ts[i] y e1 e2
   cases q2:eqT ts[i] tx with
   |false=>rw[q2]at this;exact this
   |true=>exact absurd ⟨i,ts[i],e1,e2,q2⟩ q
 ·rw[U5,List.any_toArray,GP,GP]
  constructor
  ·rintro ⟨y,hy,q⟩
   obtain⟨i,t,e1,_,e3⟩:=of_decide_eq_true q
   exact⟨t,WW e1,e3⟩
  ·rintro ⟨t,ht,e3⟩
   obtain⟨i,hi,e1⟩:=V2 ht
   have hi':i<its.length:=by omega
   exact⟨its[i],Ge hi',decide_eq_true ⟨i,t,by rw[<-e1];exact YM hi,YM hi',e3⟩⟩
theorem Zka(x y:T):cmpT .NotIn x y=(cmpT .In x y).map (!·):=by
 cases x with
 |str cs =>
  cases cs with
  |nil=>cases y<;>rfl
  |cons a r=>cases r<;>cases y<;>rfl
 |_=>cases y<;>rfl
theorem Zlr(hu:X.A.units+64<cLine):OpR X (Y6 .In) (r2 X.K xr (fCmp .In)):=by
 rintro pins s σ H x y v u Q I rx ry ⟨cm,m,a,b,M,ra,rb,ho⟩
 obtain⟨ta,tb,c,ea,eb,e,ho⟩:=Za7 ho
 rcases Zb1 e with⟨p,q,rfl,rfl,rfl⟩|⟨f,ts,hy,g,rfl⟩|⟨ts,rfl,dx,dt,rfl⟩
 ·cases(Zg ra ea (λ_ z=>by cases z)).vstr
  cases(Zg rb eb (λ_ z=>by cases z)).vstr
  exact Zlm pins s σ H _ _ v u Q I rx ry ⟨_,_,rfl,rfl,ans ho M (.bl _)⟩
 ·cases Xn ra ea f
  have fin:∀{vs:List V},RTs X.K cm m H ts vs->vs=ts.map flV/\vs.all ZcO=true/\Q (.bl (inV (flV ta) vs)) H:=λr=>by
   obtain⟨h1,h2⟩:=RTs.fl r g
   exact⟨h1,h2,by rw[h1,ZmK f g];exact ans ho M (.bl _)⟩
  rcases hy with rfl|rfl
  ·obtain⟨p,vs,rfl,h1,r⟩:=(Zg rb eb (λ_ z=>by cases z)).itup
   obtain⟨_,f2,f3⟩:=fin r
   exact ZgA pins s σ H _ _ v u Q I rx ry ⟨p,vs,rfl,.inr h1,ZcY f,f2,f3⟩
  ·obtain⟨p,vs,rfl,h1,r⟩:=ZD M rb eb
   obtain⟨_,f2,f3⟩:=fin r
   exact ZgA pins s σ H _ _ v u Q I rx ry ⟨p,vs,rfl,.inl (.of h1),ZcY f,f2,f3⟩
 ·obtain⟨p,vs,rfl,h1,r⟩:=ZD M rb eb
  cases ry
  obtain⟨its,e,hl,he,ha⟩:=Zmn hu I M ra ea rx dx h1 r dt
  refine SeqAt.in_listAt e hl he ?_
  rw[ha]
  exact⟨.bl _,H,I,rfl,ans ho M (.bl _)⟩
theorem ZgB(hu:X.A.units+64<cLine):OpR X (Y6 .NotIn) (r2 X.K xr (fCmp .NotIn)):=by
 rintro pins s σ H x y v u Q I rx ry ⟨cm,m,a,b,M,ra,rb,ho⟩
 obtain⟨ta,tb,c',ea,eb,e,ho⟩:=Za7 ho
 rw[Zka]at e
 cases e2:cmpT .In ta tb with
 |none=>rw[e2]at e;cases e
 |some c =>
 rw[e2]at e;cases e
 rcases Zb1 e2 with⟨p,q,rfl,rfl,rfl⟩|⟨f,ts,hy,g,rfl⟩|⟨ts,rfl,dx,dt,rfl⟩
 ·cases(Zg ra ea (λ_ z=>by cases z)).vstr
  cases(Zg rb eb (λ_ z=>by cases z)).vstr
  exact Zgz pins s σ H _ _ v u Q I rx ry ⟨_,_,rfl,rfl,ans ho M (.bl _)⟩
 ·cases Xn ra ea f
  have fin:∀{vs:List V},RTs X.K cm m H ts vs->vs=ts.map flV/\vs.all ZcO=true/\Q (.bl (!inV (flV ta) vs)) H:=λr=>by
   obtain⟨h1,h2⟩:=RTs.fl r g
   exact⟨h1,h2,by rw[h1,ZmK f g];exact ans ho M (.bl _)⟩
  rcases hy with rfl|rfl
  ·obtain⟨p,vs,rfl,h1,r⟩:=(Zg rb eb (λ_ z=>by cases z)).itup
   obtain⟨_,f2,f3⟩:=fin r
   exact Zcz pins s σ H _ _ v u Q I rx ry ⟨p,vs,rfl,.inr h1,ZcY f,f2,f3⟩
  ·obtain⟨p,vs,rfl,h1,r⟩:=ZD M rb eb
   obtain⟨_,f2,f3⟩:=fin r
   exact Zcz pins s σ H _ _ v u Q I rx ry ⟨p,vs,rfl,.inl (.of h1),ZcY f,f2,f3⟩
 ·obtain⟨p,vs,rfl,h1,r⟩:=ZD M rb eb
  cases ry
  obtain⟨its,e,hl,he,ha⟩:=Zmn hu I M ra ea rx dx h1 r dt
  refine SeqAt.notIn_listAt e hl he ?_
  rw[ha]
  exact⟨.bl _,H,I,rfl,ans ho M (.bl _)⟩
noncomputable def hdV:V->Option (Option Bool)
 |.non=>some none
 |.bl b=>some (some b)
 |_=>none
noncomputable def hdT:T->Option (Option Bool)
 |.non=>some none
 |.bl b=>some (some b)
 |_=>none
theorem RW.hd{w:W}{v:V}{t:T}(M:MemR K cm m H)(h:RW K cm m H w v)(e:view w m=some t):hdV v=hdT t:=by
 cases t with
 |lst ts=>obtain⟨a,vs,rfl,_⟩:=ZD M h e;rfl
 |_=>cases Zg h e (λ_ z=>by cases z)<;>rfl
theorem is_bl{prog:YQ}{w:World}{A:Around}{E:Value->Shared->Prop}{s:Shared}{x:V}{v:Value}{b:Bool}{Q:Value->Shared->Prop}(rx:RelV x v)(h:Q (.bool (hdV x==some (some b))) s):
  wpAny (model prog w) A (Y6 .Is v (.bool b)) Q E s:=by
 cases x with
 |bl c =>
  cases rx
  refine wpAny_is_plain rfl ?_
  have e:((WY c)==(WY b))=(hdV (.bl c)==some (some b)):=by cases c<;>cases b<;>rfl
  rw[e];exact h
 |non=>cases rx;exact Gi rfl (λz=>nomatch z) h
 |int i=>obtain⟨t,rfl⟩:=rx;exact Gi rfl (λz=>nomatch z) h
 |str i=>obtain⟨t,rfl⟩:=rx;exact Gi rfl (λz=>nomatch z) h
 |byt i=>obtain⟨t,rfl⟩:=rx;exact Gi rfl (λz=>nomatch z) h
 |flt i=>obtain⟨t,rfl⟩:=rx;exact Gi rfl (λz=>nomatch z) h
 |ref a=>cases rx;exact Gi rfl (λz=>nomatch z) h
 |ty n=>cases rx;exact Gi rfl (λz=>nomatch z) h
theorem Zn6{prog:YQ}{w:World}{A:Around}{E:Value->Shared->Prop}{s:Shared}{x:V}{v:Value}{b:Bool}{Q:Value->Shared->Prop}(rx:RelV x v)(h:Q (.bool (!(hdV x==some (some b)))) s):
  wpAny (model prog w) A (Y6 .IsNot v (.bool b)) Q E s:=by
 cases x with
 |bl c =>
  cases rx
  refine wpAny_isNot_plain rfl ?_
  have e:((WY c)==(WY b))=(hdV (.bl c)==some (some b)):=by cases c<;>cases b<;>rfl
  rw[e];exact h
 |non=>cases rx;exact Um rfl (λz=>nomatch z) h
 |int i=>obtain⟨t,rfl⟩:=rx;exact Um rfl (λz=>nomatch z) h
 |str i=>obtain⟨t,rfl⟩:=rx;exact Um rfl (λz=>nomatch z) h
 |byt i=>obtain⟨t,rfl⟩:=rx;exact Um rfl (λz=>nomatch z) h
 |flt i=>obtain⟨t,rfl⟩:=rx;exact Um rfl (λz=>nomatch z) h
 |ref a=>cases rx;exact Um rfl (λz=>nomatch z) h
 |ty n=>cases rx;exact Um rfl (λz=>nomatch z) h
theorem Zmt{x y:T}{c:Bool}(e:cmpT .Is x y=some c):(y=.non/\c=(hdT x==some none))∨∃b,y=.bl b/\c=(hdT x==some (some b)):=by
 cases y with
 |non=>cases x<;>(cases e;exact .inl ⟨rfl,rfl⟩)
 |bl b =>
  refine .inr ⟨b,rfl,?_⟩
  cases x with
  |bl a=>cases e;cases a<;>cases b<;>rfl
  |_=>cases e;rfl
 |_=>cases x<;>cases e
theorem Zkb(x y:T):cmpT .IsNot x y=(cmpT .Is x y).map (!·):=by
 cases y with
 |non=>cases x<;>rfl
 |bl b=>cases x<;>first|rfl|(rename_i a;cases a<;>cases b<;>rfl)
 |_=>cases x<;>rfl
theorem ZoN{x:V}:decide (x=.non)=(hdV x==some none):=by cases x<;>first|rfl|exact decide_eq_true rfl|exact decide_eq_false (λz=>nomatch z)
theorem Zlq:OpR X (Y6 .Is) (r2 X.K xr (fCmp .Is)):=by
 rintro pins s σ H x y v u Q I rx ry ⟨cm,m,a,b,M,ra,rb,ho⟩
 obtain⟨ta,tb,c,ea,eb,e,ho⟩:=Za7 ho
 have hx:=RW.hd M ra ea
 rcases Zmt e with⟨rfl,rfl⟩|⟨k,rfl,rfl⟩
 ·cases(Zg rb eb (λ_ z=>by cases z)).vnon
  refine op_isN pins s σ H _ _ v u Q I rx ry ⟨rfl,?_⟩
  rw[ZoN,hx]
  exact ans ho M (.bl _)
 ·cases(Zg rb eb (λ_ z=>by cases z)).vbl
  cases ry
  refine is_bl rx ⟨.bl _,H,I,rfl,?_⟩
  rw[hx]
  exact ans ho M (.bl _)
theorem ZgC:OpR X (Y6 .IsNot) (r2 X.K xr (fCmp .IsNot)):=by
 rintro pins s σ H x y v u Q I rx ry ⟨cm,m,a,b,M,ra,rb,ho⟩
 obtain⟨ta,tb,c',ea,eb,e,ho⟩:=Za7 ho
 have hx:=RW.hd M ra ea
 rw[Zkb]at e
 cases e2:cmpT .Is ta tb with
 |none=>rw[e2]at e;cases e
 |some c =>
 rw[e2]at e;cases e
 rcases Zmt e2 with⟨rfl,rfl⟩|⟨k,rfl,rfl⟩
 ·cases(Zg rb eb (λ_ z=>by cases z)).vnon
  refine ZpT pins s σ H _ _ v u Q I rx ry ⟨rfl,?_⟩
  rw[ZoN,hx]
  exact ans ho M (.bl _)
 ·cases(Zg rb eb (λ_ z=>by cases z)).vbl
  cases ry
  refine Zn6 rx ⟨.bl _,H,I,rfl,?_⟩
  rw[hx]
  exact ans ho M (.bl _)
theorem ZeD(hu:X.A.units+64<cLine):∀op:CmpOp,OpR X (Y6 op) (r2 X.K xr (fCmp op))
 |.Eq=>Zlu hu
 |.NotEq=>Zln hu
 |.Lt=>Zlo
 |.LtE=>Zlp
 |.Gt=>Zls
 |.GtE=>Zlt
 |.Is=>Zlq
 |.IsNot=>ZgC
 |.In=>Zlr hu
 |.NotIn=>ZgB hu
noncomputable def fIx(x y:W)(m:Mem):Res W:=pur ((view x m).bind λx=>(view y m).bind λy=>ixT x y) m
theorem Zqg(n:Nat)(i:Int):ixOf n i=ixN n i:=rfl
theorem Zcs{α β:Type}{F:α->β->Prop}{xs:List α}{ys:List β}(h:Paired F xs ys){i:Int}{x:α}(e:atT xs i=some x):∃y,atI ys i=some y/\F x y:=by
 unfold atT at e
 unfold atI
 rw[<-h.length]
 cases q:ixOf xs.length i with
 |none=>rw[q]at e;cases e
 |some j =>
  rw[q]at e
  rw[Zqg]at q
  obtain⟨y,e1,e2⟩:=ZX h e
  exact⟨y,by rw[q];exact e1,e2⟩
theorem Zce(ns:List Int):RTs K cm m H (ns.map .int) (ns.map V.int):=by
 induction ns with
 |nil=>exact .nil
 |cons n ns ih=>exact .cons (.int n) ih
theorem ZqJ{α β:Type}(f:α->β)(xs:List α)(i:Int):atT (xs.map f) i=(atT xs i).map f:=by
 unfold atT
 rw[Yc]
 cases ixOf xs.length i with
 |none=>rfl
 |some j=>simp
theorem ix_ix:IxR X (r2 X.K xr fIx):=by
 rintro value slice pins s σ H x y v u Q I rx ry ⟨cm,m,a,b,M,ra,rb,ho⟩ hs
 obtain⟨t,e,ho⟩:=QX ho
 obtain⟨ta,tb,ea,eb,e⟩:=ZdZ e
 unfold ixT at e
 have hz:=ZF
 split at e
 ·cases(Zg rb eb (λ_ z=>by cases z)).vint
  obtain⟨p,vs,rfl,h1,r⟩:=(Zg ra ea (λ_ z=>by cases z)).itup
  obtain⟨z,e1,e2⟩:=Zcs r e
  exact ix_tup value slice pins s σ H _ _ v u Q I rx ry ⟨p,vs,_,z,rfl,rfl,h1,e1,ans ho M e2⟩ hs
 ·cases(Zg rb eb (λ_ z=>by cases z)).vint
  obtain⟨p,vs,rfl,h1,r⟩:=ZD M ra ea
  obtain⟨z,e1,e2⟩:=Zcs r e
  exact ZlY value slice pins s σ H _ _ v u Q I rx ry ⟨p,vs,_,z,rfl,rfl,.of h1,e1,ans ho M e2⟩ hs
 ·cases(Zg rb eb (λ_ z=>by cases z)).vint
  obtain⟨p,rfl,h1⟩:=(Zg ra ea (λ_ z=>by cases z)).vscr
  rw[<-ZqJ]at e
  obtain⟨z,e1,e2⟩:=Zcs (Zce _) e
  exact ZlY value slice pins s σ H _ _ v u Q I rx ry ⟨p,_,_,z,rfl,rfl,h1.sq,e1,ans ho M e2⟩ hs
 ·split at e
  ·rename_i cs k hl
   cases(Zg rb eb (λ_ z=>by cases z)).vint
   cases(Zg ra ea (λ_ z=>by cases z)).vstr
   cases q:atT cs k with
   |none=>rw[q]at e;cases e
   |some c =>
    rw[q]at e;cases e
    exact ix_str value slice pins s σ H _ _ v u Q I rx ry ⟨_,k,c,rfl,rfl,by rw[Zaq];omega,q,ans ho M (.str [c])⟩ hs
  ·cases e
 ·cases e
end
section
variable{P:YQ}{w:World}{A:Around}{E:Value->Shared->Prop}{s:Shared}
structure Side (z TI TO i j a b:Addr) (k:Nat) (h:Heap):Prop where
 zip:IsZip h z TI TO .none
 its:IsPair h TI (.ref i) (.ref j)
 out:∃p q,IsPair h TO p q
 one:h.IsTupleIter i a k
 two:h.IsTupleIter j b k
end
noncomputable def Itz(K:Frag)(a b:Addr):It:=
 ⟨λi H=>∃xs ys x y,SqT K H a xs/\SqT K H b ys/\xs[i]?=some x/\ys[i]?=some y,
  λi H v H'=>∃x y c,(∀xs,SqT K H a xs->xs[i]?=some x)/\(∀ys,SqT K H b ys->ys[i]?=some y)/\H c=none/\v=.ref c/\H'=upd H c (.tup [x,y]),
  λi H=>∃xs,SqT K H a xs/\xs.length<=i⟩
noncomputable def It4(n:Nat)(l:Nat->Nat)(xs:Nat->Array Value)(p:Nat->Nat)(h:Heap):Prop:=∀j:Nat,j<4->h.IsListIter (n+j) (l j) (p j)/\h.IsList (l j) (xs j)/\l j<n
noncomputable abbrev IsZ(h:Heap)(n:Nat)(f0:Value)(f1:Bool):Prop:=
 h.get? (n+6)=some { cls:=.type "zip",dict:=none,data:=.fields #[f0,.bool f1,.bool false,.ref (n+4),.ref (n+5)],slots:=#[] }
noncomputable abbrev IsQ(h:Heap)(t:Nat)(a b c d:Value):Prop:=h.get? t=some { cls:=.type "tuple",data:=.seq #[a,b,c,d] }
section
variable{P:YQ}{w:World}{A:Around}{E:Value->Shared->Prop}{s:Shared}{n:Nat}{l:Nat->Nat}{xs:Nat->Array Value}{p:Nat->Nat}
noncomputable def Free(h:Heap)(n:Nat):Prop:=∃f1,IsZ h n .none f1∨∃a:Nat,IsZ h n (rawInt a) f1
structure Sd (n:Nat) (l:Nat->Nat) (k:Nat) (h:Heap):Prop where
 zip:Free h n
 its:IsQ h (n+4) (.ref (n+0)) (.ref (n+1)) (.ref (n+2)) (.ref (n+3))
 out:∃a b c d,IsQ h (n+5) a b c d
 pos:∀j:Nat,j<4->h.IsListIter (n+j) (l j) k/\l j<n
noncomputable def Kp(n:Nat)(h g:Heap):Prop:=g.objs.size=h.objs.size/\∀c o,(c<n∨n+7<=c)->h.get? c=some o->g.get? c=some o
end
noncomputable abbrev fp4(n:Nat):List Addr:=[n+6,n+4,n+5,n+0,n+1,n+2,n+3]
noncomputable def Itz4(K:Frag)(l:Nat->Nat):It:=
 ⟨λi H=>∃(xs:Nat->List V) (x:Nat->V),∀j:Nat,j<4->SqL K H (l j) (xs j)/\(xs j)[i]?=some (x j),
  λi H v H'=>∃(x:Nat->V) (c:Addr),(∀j:Nat,j<4->∀ys,SqL K H (l j) ys->ys[i]?=some (x j))/\H c=none/\v=.ref c/\H'=upd H c (.tup [x 0,x 1,x 2,x 3]),
  λi H=>∃xs,SqL K H (l 0) xs/\xs.length<=i⟩
noncomputable def pick4{α:Type}(a b c d:α):Nat->α
 |0=>a
 |1=>b
 |2=>c
 |_=>d
theorem all4{Q:Nat->Prop}(h0:Q 0)(h1:Q 1)(h2:Q 2)(h3:Q 3):∀j:Nat,j<4->Q j
 |0,_=>h0
 |1,_=>h1
 |2,_=>h2
 |3,_=>h3
noncomputable def Ite(K:Frag)(l:Addr):It:=
 ⟨λi H=>∃xs x,SqL K H l xs/\xs[i]?=some x,
  λi H v H'=>∃x c,(∀xs,SqL K H l xs->xs[i]?=some x)/\H c=none/\v=.ref c/\H'=upd H c (.tup [.int (i:Int),x]),
  λi H=>∃xs,SqL K H l xs/\xs.length<=i⟩
noncomputable def Its(cs:List Nat):It:=⟨λi _=>i<cs.length,λi H x H'=>H'=H/\∃c,cs[i]?=some c/\x=.str ⟨#[c]⟩,λi _=>cs.length<=i⟩
theorem Zii{P:YQ}{w:World}{K:Frag}{tg:Expr}{cs:List Nat}{it:Addr}{cl:String}{t:Tok}(hcl:["enumerate","zip","dict_itemiterator","dict_reverseitemiterator","odict_iterator","itertools.zip_longest","itertools.pairwise"].contains cl=false)(hself:∀(A:Around) (i:Nat) (s:Shared) (Q:Value->Shared->Prop) (E:Value->Shared->Prop),s.heap.IsStrIter it cl ⟨cs.toArray⟩ t i->Q (.ref it) s->wpAny (model P w) A (pyIter (.ref it)) Q E s)(W:∀A':Around,A'.handled=none->Walks P w A' it [it] [it] cs.length (SignAt ⟨cs.toArray⟩) (λi h=>h.IsStrIter it cl ⟨cs.toArray⟩ t i)):Turn P w K tg (Its cs) [it] it (λi h=>h.IsStrIter it cl ⟨cs.toArray⟩ t i/\i<=cs.length) where
 mem:=by simp
 obj:=λi h st b hb=>by
  have e:b=it:=by simpa using hb
  subst e
  obtain⟨⟨o,e,c,d⟩,_⟩:=st
  exact⟨o,e,λv z=>by rw[d]at z;cases z⟩
 keep:=λi h h' st k=>⟨let⟨⟨o,ho,r⟩,_⟩:=st;⟨o,k it (by simp) o ho,r⟩,st.2⟩
 item:=by
  intro X hP hw hK hc i pins s σ H E I hf st hg
  subst hP hw hK
  obtain⟨f0,f1,f2,f3,f4,f5⟩:=hf it (by simp)
  have hg':i<cs.length:=hg
  refine(W X.A (I.ok.hd hc)).item i s _ _ hg' st.1 λv h' tk hv st' kk=>?_
  obtain⟨c,u,hc',rfl⟩:=hv
  have I1:Inv X pins σ H { s with heap:=h',toks:=tk }:=I.turned (λb o hb e=>kk b o (by simpa using hb) e) f0 f1 f3 f4 f5
  obtain⟨o,e,cc,d⟩:=id st'
  refine⟨_,rfl,Zn9 e cc d hcl ⟨.str ⟨#[c]⟩,H,I1,⟨u,rfl⟩,⟨rfl,c,by simpa using hc',rfl⟩,⟨st',by omega⟩,λb hb=>(hf b hb).1⟩⟩
 done:=by
  intro X hP hw hK hc i pins s σ H E I hf st hg
  subst hP hw hK
  obtain⟨f0,f1,f2,f3,f4,f5⟩:=hf it (by simp)
  have hg':cs.length<=i:=hg
  have e:i=cs.length:=by have:=st.2;omega
  subst e
  exact(W X.A (I.ok.hd hc)).done s _ _ st.1 λh' tk kk=>⟨rfl,I.turned (λb o hb e=>kk b o (by simpa using hb) e) f0 f1 f3 f4 f5⟩
 self:=λA i s Q E st h=>hself A i s Q E st.1 h
section
variable{K:Frag}{cm cm':List Addr}{m m':Mem}{H H':Hp}{xr:XR}{X:Cx}
variable(K) in
inductive Src (cm:List Addr) (m:Mem) (H:Hp):It->List T->Prop where
 |tup {a:Addr}{vs:List V}{ts:List T}:SqT K H a vs->RTs K cm m H ts vs->Src cm m H (Itt K a) ts
 |lst {a:Addr}{vs:List V}{ts:List T}:H a=some (.lst vs)->ZC cm m a->RTs K cm m H ts vs->Src cm m H (Itl K a) ts
 |cel {a:Addr}{i:Nat}{ts:List T}:m[i]?=some (some (true,ts))->cm[i]?=some a->Src cm m H (Itl K a) ts
 |scr {a:Addr}(ns:List Int):Zec K H a ns->Src cm m H (Itl K a) (ns.map .int)
 |str (cs:List Nat):Src cm m H (Its cs) (cs.map λc=>.str [c])
 |rng (lo:Int) (n:Nat):Src cm m H (Itr lo n) (rangeT lo n)
 |zip {a b:Addr}{xs ys:List V}{ts us:List T}:SqT K H a xs->SqT K H b ys->RTs K cm m H ts xs->RTs K cm m H us ys->ts.length=us.length->Src cm m H (Itz K a b) (zipL ts us)
 |zip4 {l:Nat->Nat}{vs:Nat->List V}{ts:Nat->List T}:(∀j:Nat,j<4->H (l j)=some (.lst (vs j))/\ZC cm m (l j)/\RTs K cm m H (ts j) (vs j))->(∀j:Nat,j<4->(ts 0).length=(ts j).length)->Src cm m H (Itz4 K l) (Zkx (ts 0) (ts 1) (ts 2) (ts 3))
 |enm {a:Addr}{vs:List V}{ts:List T}:H a=some (.lst vs)->ZC cm m a->RTs K cm m H ts vs->Src cm m H (Ite K a) (Zj5 ts)
theorem Src.ext(x:Ext cm m H cm' m' H')(M:MemR K cm m H)(M':MemR K cm' m' H'){J:It}{ts:List T}(h:Src K cm m H J ts):Src K cm' m' H' J ts:=by
 cases h with
 |tup h1 h2=>exact .tup (x.sqT M h1) (RTs.ext x M M' h2)
 |lst h1 h2 h3=>exact .lst (x.keep _ _ h1 h2).1 (x.keep _ _ h1 h2).2 (RTs.ext x M M' h3)
 |cel h1 h2=>exact .cel (x.lent _ _ h1) (x.pre _ _ h2)
 |scr ns h=>exact .scr ns (x.scr M h)
 |str cs=>exact .str cs
 |rng lo n=>exact .rng lo n
 |zip h1 h2 h3 h4 h5=>exact .zip (x.sqT M h1) (x.sqT M h2) (RTs.ext x M M' h3) (RTs.ext x M M' h4) h5
 |zip4 h1 h2=>exact .zip4 (λj hj=>let⟨a,b,c⟩:=h1 j hj;⟨(x.keep _ _ a b).1,(x.keep _ _ a b).2,RTs.ext x M M' c⟩) h2
 |enm h1 h2 h3=>exact .enm (x.keep _ _ h1 h2).1 (x.keep _ _ h1 h2).2 (RTs.ext x M M' h3)
theorem stay(M:MemR K cm m H)(z:H'=H){t:T}{x:V}(r:RT K cm m H t x):Ext cm m H cm m H'/\MemR K cm m H'/\RT K cm m H' t x:=by
 subst z
 exact⟨.refl,M,r⟩
theorem ZmR{xs ys:List T}{i:Nat}{t:T}(e:(zipL xs ys)[i]?=some t):∃x y,xs[i]?=some x/\ys[i]?=some y/\t=.tup [x,y]:=by
 unfold zipL at e
 rw[List.getElem?_zipWith]at e
 split at e
 ·rename_i x y h1 h2
  cases e
  exact⟨x,y,h1,h2,rfl⟩
 ·cases e
theorem Zkw{a b c d:List T}{i:Nat}{t:T}(e:(Zkx a b c d)[i]?=some t):∃x y z w,a[i]?=some x/\b[i]?=some y/\c[i]?=some z/\d[i]?=some w/\t=.tup [x,y,z,w]:=by
 unfold Zkx at e
 rw[Y4]at e
 obtain⟨p,h1,h2⟩:=Option.map_eq_some_iff.mp e
 obtain⟨q1,q2⟩:=GF.mp h1
 obtain⟨q3,q4⟩:=GF.mp q2
 obtain⟨q5,q6⟩:=GF.mp q4
 exact⟨_,_,_,_,q1,q3,q5,q6,h2.symm⟩
theorem Zmi{xs:List T}{i:Nat}{t:T}(e:(Zj5 xs)[i]?=some t):∃x,xs[i]?=some x/\t=.tup [.int (i:Int),x]:=by
 unfold Zj5 at e
 rw[List.getElem?_zipWith]at e
 split at e
 ·rename_i k y h1 h2
  cases e
  have hi:=(Yj.mp h1).1
  rw[W7]at hi
  rw[V3 hi]at h1
  cases h1
  exact⟨y,h2,rfl⟩
 ·cases e
theorem ZgX(xs:List T):(Zj5 xs).length=xs.length:=by
 unfold Zj5
 rw[List.length_zipWith,W7,Nat.min_self]
theorem Src.go(M:MemR K cm m H){J:It}{ts:List T}(h:Src K cm m H J ts){i:Nat}{t:T}(e:ts[i]?=some t):J.go i H/\∀x H',J.yld i H x H'->Ext cm m H cm m H'/\MemR K cm m H'/\RT K cm m H' t x:=by
 cases h with
 |tup h1 h2 =>
  obtain⟨v,e1,e2⟩:=ZX h2 e
  refine⟨⟨_,v,h1,e1⟩,λx H' ⟨z,q⟩=>stay M z ?_⟩
  have:=q _ h1
  rw[e1]at this;cases this
  exact e2
 |lst h1 h2 h3 =>
  obtain⟨v,e1,e2⟩:=ZX h3 e
  refine⟨⟨_,v,.of h1,e1⟩,λx H' ⟨z,q⟩=>stay M z ?_⟩
  have:=q _ (.of h1)
  rw[e1]at this;cases this
  exact e2
 |cel h1 h2 =>
  obtain⟨b,vs,q1,q2,q3,q4⟩:=M.at' _ _ h1
  rw[h2]at q1;cases q1
  obtain⟨v,e1,e2⟩:=ZX q4 e
  refine⟨⟨_,v,.of q2,e1⟩,λx H' ⟨z,q⟩=>stay M z ?_⟩
  have:=q _ (.of q2)
  rw[e1]at this;cases this
  exact e2
 |scr ns h =>
  obtain⟨v,e1,e2⟩:=ZX (Zce ns) e
  refine⟨⟨_,v,h.sq,e1⟩,λx H' ⟨z,q⟩=>stay M z ?_⟩
  have:=q _ h.sq
  rw[e1]at this;cases this
  exact e2
 |str cs =>
  rw[Y4]at e
  cases q:cs[i]? with
  |none=>rw[q]at e;cases e
  |some c =>
   rw[q]at e;cases e
   refine⟨(Yj.mp q).1,λx H' ⟨z,c',q',e'⟩=>stay M z ?_⟩
   rw[q]at q';cases q'
   subst e'
   exact .str [c]
 |rng lo n =>
  unfold rangeT at e
  rw[Y4]at e
  cases q:(Wh n)[i]? with
  |none=>rw[q]at e;cases e
  |some k =>
   rw[q]at e;cases e
   have hi:=(Yj.mp q).1
   rw[W7]at hi
   rw[V3 hi]at q
   cases q
   exact⟨hi,λx H' ⟨z,e'⟩=>stay M z (by subst e';exact .int _)⟩
 |zip h1 h2 h3 h4 h5 =>
  obtain⟨x,y,hx,hy,rfl⟩:=ZmR e
  obtain⟨u,e1,r1⟩:=ZX h3 hx
  obtain⟨v,e2,r2⟩:=ZX h4 hy
  refine⟨⟨_,_,u,v,h1,h2,e1,e2⟩,?_⟩
  rintro x' H' ⟨u',v',c,q1,q2,hc,rfl,rfl⟩
  have z1:=q1 _ h1
  rw[e1]at z1;cases z1
  have z2:=q2 _ h2
  rw[e2]at z2;cases z2
  exact⟨.new hc,M.new hc,RT.newTup (.cons r1 (.cons r2 .nil)) hc⟩
 |@zip4 l vs ts h1 h2 =>
  obtain⟨x0,x1,x2,x3,e0,e1,e2,e3,rfl⟩:=Zkw e
  obtain⟨q0,_,p0⟩:=h1 0 (by decide)
  obtain⟨q1,_,p1⟩:=h1 1 (by decide)
  obtain⟨q2,_,p2⟩:=h1 2 (by decide)
  obtain⟨q3,_,p3⟩:=h1 3 (by decide)
  obtain⟨u0,f0,r0⟩:=ZX p0 e0
  obtain⟨u1,f1,r1⟩:=ZX p1 e1
  obtain⟨u2,f2,r2⟩:=ZX p2 e2
  obtain⟨u3,f3,r3⟩:=ZX p3 e3
  refine⟨⟨vs,pick4 u0 u1 u2 u3,all4 ⟨.of q0,f0⟩ ⟨.of q1,f1⟩ ⟨.of q2,f2⟩ ⟨.of q3,f3⟩⟩,?_⟩
  rintro x' H' ⟨x,c,q,hc,rfl,rfl⟩
  have z0:=q 0 (by decide) _ (.of q0)
  rw[f0]at z0
  have z1:=q 1 (by decide) _ (.of q1)
  rw[f1]at z1
  have z2:=q 2 (by decide) _ (.of q2)
  rw[f2]at z2
  have z3:=q 3 (by decide) _ (.of q3)
  rw[f3]at z3
  rw[<-YS z0,<-YS z1,<-YS z2,<-YS z3]
  exact⟨.new hc,M.new hc,RT.newTup (.cons r0 (.cons r1 (.cons r2 (.cons r3 .nil)))) hc⟩
 |enm h1 h2 h3 =>
  obtain⟨x,hx,rfl⟩:=Zmi e
  obtain⟨u,e1,r1⟩:=ZX h3 hx
  refine⟨⟨_,u,.of h1,e1⟩,?_⟩
  rintro x' H' ⟨u',c,q1,hc,rfl,rfl⟩
  have z1:=q1 _ (.of h1)
  rw[e1]at z1;cases z1
  exact⟨.new hc,M.new hc,RT.newTup (.cons (.int _) (.cons r1 .nil)) hc⟩
theorem Src.stop(M:MemR K cm m H){J:It}{ts:List T}(h:Src K cm m H J ts){i:Nat}(e:ts[i]?=none):J.stop i H:=by
 have l:=GJ.mp e
 cases h with
 |tup h1 h2=>exact⟨_,h1,by rw[<-h2.length];exact l⟩
 |lst h1 h2 h3=>exact⟨_,.of h1,by rw[<-h3.length];exact l⟩
 |cel h1 h2 =>
  obtain⟨b,vs,q1,q2,q3,q4⟩:=M.at' _ _ h1
  rw[h2]at q1;cases q1
  exact⟨_,.of q2,by rw[<-q4.length];exact l⟩
 |scr ns h=>exact⟨_,h.sq,by rw[Yc]at l ⊢;exact l⟩
 |str cs=>rw[Yc]at l;exact l
 |rng lo n =>
  unfold rangeT at l
  rw[Yc,W7]at l
  exact l
 |zip h1 h2 h3 h4 h5 =>
  refine⟨_,h1,?_⟩
  unfold zipL at l
  rw[List.length_zipWith]at l
  rw[<-h3.length]
  omega
 |@zip4 l vs ts h1 h2 =>
  obtain⟨q0,_,p0⟩:=h1 0 (by decide)
  refine⟨_,.of q0,?_⟩
  have l1:=h2 1 (by decide)
  have l2:=h2 2 (by decide)
  have l3:=h2 3 (by decide)
  unfold Zkx at l
  rw[Yc,YaQ,YaQ,YaQ]at l
  rw[<-p0.length]
  omega
 |enm h1 h2 h3 =>
  refine⟨_,.of h1,?_⟩
  rw[ZgX]at l
  rw[<-h3.length]
  exact l
variable(K) in
noncomputable def tI(call:Nat->List W->Mem->Res W)(gv:List T)(xr:XR)(it:E):TI:=λσ H R=>∃env cm m,EnvR K cm m H env σ/\MemR K cm m H /\
 OkR K (ev call gv it env m) xr cm m H λx cm1 m1 H1=>∃ts m2,Z5 x m1=.ok ts m2/\∀J,Src K cm1 m2 H1 J ts->R J H1
theorem PI.mono{tg iter:Expr}{t t':TI}(h:PI X tg iter t)(f:∀σ H R,t' σ H R->t σ H R):PI X tg iter t':=λpins s σ H R I q=>h pins s σ H R I (f σ H R q)
theorem pi_of{tg iter:Expr}{call:Nat->List W->Mem->Res W}{gv:List T}{it:E}(h:PE X iter (tE X.K call gv xr it)):PI X tg iter (tI X.K call gv xr it):=by
 rintro pins s σ H R I ⟨env,cm,m,hE,hM,ho⟩
 refine thn (h pins s σ H (λv H1=>∃cm1 m1 w,MemR X.K cm1 m1 H1/\RW X.K cm1 m1 H1 w v/\∃ts m2,Z5 w m1=.ok ts m2/\∀J,Src X.K cm1 m2 H1 J ts->R J H1) I
  ⟨env,cm,m,hE,hM,ho.mono λw cm1 m1 H1 x1 M1 o1 v rv=>⟨cm1,m1,w,M1,rv,o1⟩⟩) λv s1 ⟨x,H1,I1,r1,cm1,m1,w,M1,rw1,ts0,m2,eb,o1⟩=>?_
 -- an iterator over a list that stands at a
 have onList:∀(a:Addr) (vs:List V),x=.ref a->SqL X.K H1 a vs->R (Itl X.K a) H1->wpAny (model X.prog X.w) X.A (pyIter v) (PIE X pins σ tg R) X.xe s1:=λa vs e hq q=>by
  subst e
  cases r1
  obtain⟨its,rv,p,hz⟩:=I1.list hq
  refine Yan p.isList ?_
  refine⟨s1.heap.objs.size,[s1.heap.objs.size],_,_,H1,rfl,I1.kept (t':=s1.toks) λb o e=>Ye _ e,ZkF a _,⟨_,Yy _ rfl,rfl,rfl⟩,λb hb=>?_,q⟩
  have e:b=s1.heap.objs.size:=by simpa using hb
  subst e
  exact I1.fpOk (Yn _) (I1.hok.fresh (Yn _))
 cases w with
 |f a=>cases eb
 |x _ _ _=>cases eb
 |o _ _ _=>cases eb
 |u=>cases eb
 |c i =>
  unfold Z5 at eb
  dsimp only at eb
  split at eb
  ·rename_i fl ts e
   cases eb
   obtain⟨a,vs,q1,q2,_⟩:=M1.at' i _ e
   obtain⟨b,h1,h2⟩:=rw1
   rw[q1]at h1;cases h1
   exact onList a vs h2 (.of q2) (o1 _ (.cel (YT (Yj.mp e).1) q1))
  ·cases eb
 |t t =>
  unfold Z5 at eb
  cases t with
  |tup ts =>
   cases eb
   obtain⟨a,vs,e,h1,h2⟩:=RT.itup rw1
   subst e
   cases r1
   obtain⟨its,rv,p,hz⟩:=I1.tuple h1
   refine wpAny_pyIter_tuple (p) ?_
   refine⟨s1.heap.objs.size,[s1.heap.objs.size],_,_,H1,rfl,I1.kept (t':=s1.toks) λb o e=>Ye _ e,Zi5 a _,⟨_,Yy _ rfl,rfl,rfl⟩,λb hb=>?_,o1 _ (.tup h1 h2)⟩
   have e:b=s1.heap.objs.size:=by simpa using hb
   subst e
   exact I1.fpOk (Yn _) (I1.hok.fresh (Yn _))
  |lst ts =>
   cases eb
   obtain⟨a,vs,e,h1,h2,h3⟩:=RT.ilst rw1
   exact onList a vs e (.of h1) (o1 _ (.lst h1 h2 h3))
  |scr ns =>
   cases eb
   obtain⟨a,e,h1⟩:=RT.vscr rw1
   exact onList a _ e h1.sq (o1 _ (.scr ns h1))
  |str cs =>
   unfold ZgO at eb
   dsimp only at eb
   split at eb
   ·rename_i ts e
    split at e<;>cases e
    cases eb
    cases RT.vstr rw1
    obtain⟨t,rfl⟩:=r1
    have q:=o1 _ (.str cs)
    have I2:∀o:Obj,Inv X pins σ H1 { s1 with heap:=s1.heap.push o }:=λo=>I1.kept (t':=s1.toks) λb o e=>Ye _ e
    have fpk:∀b∈[s1.heap.objs.size],FpOk X pins H1 b:=λb hb=>by
     have e:b=s1.heap.objs.size:=by simpa using hb
     subst e
     exact I1.fpOk (Yn _) (I1.hok.fresh (Yn _))
    cases ha:(⟨cs.toArray⟩:Str).cps.all (·<128)
    ·refine wpAny_pyIter_wide ha ?_
     exact⟨s1.heap.objs.size,[s1.heap.objs.size],_,_,H1,rfl,I2 _,Zii (by decide) (λA i s Q E st h=>wpAny_pyIter_striter_wide st h) (λA' hA=>by simpa using Walks.strWide hA _ ⟨cs.toArray⟩ t),⟨⟨_,Yy _ rfl,rfl,rfl⟩,Gr _⟩,fpk,q⟩
    ·refine wpAny_pyIter_ascii ha ?_
     exact⟨s1.heap.objs.size,[s1.heap.objs.size],_,_,H1,rfl,I2 _,Zii (by decide) (λA i s Q E st h=>wpAny_pyIter_striter_ascii st h) (λA' hA=>by simpa using Walks.strAscii hA _ ⟨cs.toArray⟩ t),⟨⟨_,Yy _ rfl,rfl,rfl⟩,Gr _⟩,fpk,q⟩
   ·cases eb
  |_=>cases eb
end
theorem ZfI{elt:Expr}{gens:List WQ}{scope:Scope}{pos:Pos}{d:Nat}{target iter:Expr}{ifs:List Expr}{it acc:Value}{env:Wv}(hg:gens[d]?=some ⟨target,iter,ifs,0⟩)(hn:gens[d+1]?=none):
  Yba (.ListComp elt gens scope pos) d it acc env=(do
   VN iter.pos
   match <-pyNext it with
   |none=>pure (.done .next)
   |some v =>
    Gm target it v
    assign target env v
    let mut ok:=true
    for c in ifs do
     if ok then ok <-isTrue c env (eval c env)
    if ok then
     (do let _ <-call (.builtin "list.append") [acc,<-eval elt env])
    again (.compLoop (.ListComp elt gens scope pos) d it acc env)):=by
 unfold Yba
 simp only[hg,hn]
 rfl
theorem ZfH{elt:Expr}{gens:List WQ}{scope:Scope}{pos:Pos}{d:Nat}{target iter:Expr}{ifs:List Expr}{it acc:Value}{env:Wv}{target' iter':Expr}{ifs':List Expr}(hg:gens[d]?=some ⟨target,iter,ifs,0⟩)(hn:gens[d+1]?=some ⟨target',iter',ifs',0⟩):
  Yba (.ListComp elt gens scope pos) d it acc env=(do
   VN iter.pos
   match <-pyNext it with
   |none=>pure (.done .next)
   |some v =>
    Gm target it v
    assign target env v
    let mut ok:=true
    for c in ifs do
     if ok then ok <-isTrue c env (eval c env)
    if ok then
     let x <-eval iter' env
     VN iter'.pos
     let x <-W2 iter' env x
     let _ <-runOwn (.compStart (.ListComp elt gens scope pos) (d+1) (<-YaM [x] (pyIter x)) acc env) env
    again (.compLoop (.ListComp elt gens scope pos) d it acc env)):=by
 unfold Yba
 simp only[hg,hn]
 rfl
section
variable{K:Frag}{cm cm':List Addr}{m m':Mem}{H H':Hp}{xr:XR}{Y:Cx}
noncomputable def AccAt(h:Heap)(D:Addr)(vs:List V):Prop:=vs.length<=YJ/\∃(its:List Value) (n:Nat),Vals vs its/\h.get? D=some { cls:=.type "list",data:=.seq its.toArray n }
structure DOk (Y:Cx) (pins:List (Addr×Obj)) (H:Hp) (D:Addr):Prop where
 free:H D=none
 loc:D≠Y.env.locals
 nofs:D∉Y.fs
 own:D∈Y.ex∨Y.s₀.heap.objs.size<=D
 cell:∀x c,Y.env.cells.lookup x=some c->c≠D
 pin:∀p∈Y.pn++pins,p.1≠D
theorem pe_run{e:Expr}{call:Nat->List W->Mem->Res W}{gv:List T}{a:E}(h:PE Y e (tE Y.K call gv xr a)){pins:List (Addr×Obj)}{s:Shared}{σ:L2.St}{env:Env}{w:W}(I:Inv Y pins σ H s)(hE:EnvR Y.K cm m H env σ)(M:MemR Y.K cm m H)(ok:ev call gv a env m=.ok w m'):wpAny (model Y.prog Y.w) Y.A (eval e Y.env) (EP Y pins σ λv H'=>∃cm',Ext cm m H cm' m' H'/\MemR Y.K cm' m' H'/\RW Y.K cm' m' H' w v) Y.xe s:=by
 refine h pins s σ H _ I ⟨env,cm,m,hE,M,?_⟩
 rw[ok]
 exact λcm' H' x M' v r=>⟨cm',x,M',r⟩
theorem pt_run{e:Expr}{call:Nat->List W->Mem->Res W}{gv:List T}{a:E}(h:PT Y e (tT Y.K call gv xr a)){pins:List (Addr×Obj)}{s:Shared}{σ:L2.St}{env:Env}{k:Bool}(I:Inv Y pins σ H s)(hE:EnvR Y.K cm m H env σ)(M:MemR Y.K cm m H)(ok:(ev call gv a env m).bind QK=.ok k m'):wpAny (model Y.prog Y.w) Y.A (isTrue e Y.env (eval e Y.env)) (TP Y pins σ λb H'=>b=k/\∃cm',Ext cm m H cm' m' H'/\MemR Y.K cm' m' H') Y.xe s:=by
 refine h pins s σ H _ I ⟨env,cm,m,hE,M,?_⟩
 rw[ok]
 exact λcm' H' x M'=>⟨rfl,cm',x,M'⟩
noncomputable def PTs(Y:Cx)(call:Nat->List W->Mem->Res W)(gv:List T)(xr:XR):Es->List Expr->Prop
 |.nil,[]=>True
 |.cons a es,e::r=>PT Y e (tT Y.K call gv xr a)/\PTs Y call gv xr es r
 |_,_=>False
theorem Zdd{env:Wv}{M:Model}{A:Around}{E:Value->Shared->Prop}{s:Shared}{Q:Bool->Shared->Prop}(h:Q false s):∀ifs:List Expr,
  wpAny M A (forIn ifs false λc r=>if r=true then do let ok <-isTrue c env (eval c env);pure (WR ok)else pure (WR r)) Q E s
 |[]=>Yd h
 |_::r=>by
  simp only[V4,YH,if_false]
  exact Yb (Yd (Zdd h r))
theorem Zf1{call:Nat->List W->Mem->Res W}{gv:List T}{pins:List (Addr×Obj)}{σ:L2.St}{env:Env}:∀{cs:Es}{ifs:List Expr}{cm:List Addr}{m m':Mem}{H:Hp}{s:Shared}{k:Bool},PTs Y call gv xr cs ifs->Inv Y pins σ H s->EnvR Y.K cm m H env σ->MemR Y.K cm m H ->
  tests call gv cs env m=.ok k m' ->
  wpAny (model Y.prog Y.w) Y.A (forIn ifs true λc r=>if r=true then do let ok <-isTrue c Y.env (eval c Y.env);pure (WR ok)else pure (WR r))
   (λb s'=>b=k/\∃H' cm',Inv Y pins σ H' s'/\Ext cm m H cm' m' H'/\MemR Y.K cm' m' H') Y.xe s
 |.nil,[],cm,m,m',H,s,k,_,I,hE,M,ok=>by
  unfold tests at ok
  cases ok
  exact Yd ⟨rfl,H,cm,I,.refl,M⟩
 |.cons a es,e::r,cm,m,m',H,s,k,hp,I,hE,M,ok=>by
  unfold tests at ok
  obtain⟨h1,h2⟩:=hp
  simp only[V4,if_true]
  cases e1:ev call gv a env m with
  |ok w m1 =>
   rw[e1]at ok
   change (QK w m1).bind _=_ at ok
   cases e2:QK w m1 with
   |ok b m2 =>
    rw[e2]at ok
    change (if b=true then _ else _)=_ at ok
    refine Yb (Yb (thn (pt_run h1 I hE M (m':=m2) (k:=b) (by rw[e1];exact e2)) λc s1 ⟨H1,I1,hb,cm1,x1,M1⟩=>Yd ?_))
    subst hb
    cases c with
    |true =>
     rw[if_pos rfl]at ok
     exact thn (Zf1 h2 I1 (hE.ext x1 M M1) M1 ok) λb' s2 ⟨hb',H2,cm2,I2,x2,M2⟩=>⟨hb',H2,cm2,I2,x1.trans x2,M2⟩
    |false =>
     rw[if_neg Yw]at ok
     cases ok
     exact Zdd ⟨rfl,H1,cm1,I1,x1,M1⟩ r
   |exc _ _=>rw[e2]at ok;cases ok
   |stuck=>rw[e2]at ok;cases ok
  |exc _ _=>rw[e1]at ok;cases ok
  |stuck=>rw[e1]at ok;cases ok
 |.nil,_::_,_,_,_,_,_,_,hp,_,_,_,_=>hp.elim
 |.cons _ _,[],_,_,_,_,_,_,hp,_,_,_,_=>hp.elim
noncomputable def tgS:Tg->List Nat
 |.nm i=>[i]
 |.tp is=>is
noncomputable def Agree(S:List Nat)(σ σ':L2.St):Prop:=∀i,i∉S->σ'[i]?=σ[i]?
noncomputable def setAll:List Nat->List V->L2.St->L2.St
 |i::is,v::vs,σ=>setAll is vs (σ.set i (some v))
 |_,_,σ=>σ
variable(K) in
noncomputable def gT:Tg->TG
 |.nm i=>Zql i
 |.tp is=>λv σ H Q=>∃a xs,v=.ref a/\SqT K H a xs/\xs.length=is.length/\Q (setAll is xs σ) H
theorem Zcu:∀(is:List Nat) (vs:List V) (σ:L2.St),Agree is σ (setAll is vs σ)
 |[],_,_=>λ_ _=>by unfold setAll;rfl
 |_::_,[],_=>λ_ _=>by unfold setAll;rfl
 |i::is,v::vs,σ=>λj hj=>by
  unfold setAll
  rw[Ym]at hj
  rw[Zcu is vs _ j λz=>hj (.inr z),YF λz=>hj (.inl z.symm)]
theorem EnvR.set{env:Env}{σ:L2.St}(h:EnvR K cm m H env σ){w:W}{v:V}(r:RW K cm m H w v)(i:Nat)(hi:i<σ.length):EnvR K cm m H (env.set i (some w)) (σ.set i (some v)):=λj u e=>by
 by_cases hj:j=i
 ·subst hj
  have hl:j<env.length:=by
   have:=(Yj.mp e).1
   rwa [Wx]at this
  rw[YT hl]at e
  cases e
  exact⟨v,YT hi,r⟩
 ·rw[YF (Uo hj)]at e
  obtain⟨v',h1,h2⟩:=h j u e
  exact⟨v',by rw[YF (Uo hj)];exact h1,h2⟩
theorem EnvR.setAll:∀{is:List Nat}{ts:List T}{vs:List V}{env:Env}{σ:L2.St},EnvR K cm m H env σ->RTs K cm m H ts vs->(∀i∈is,i<σ.length) ->
  EnvR K cm m H ((is.zip ts).foldl (λenv p=>env.set p.1 (some (.t p.2))) env) (Mi.setAll is vs σ)
 |[],_,_,_,_,h,_,_=>by unfold Mi.setAll;exact h
 |_::_,[],_,_,_,h,.nil,_=>by unfold Mi.setAll;exact h
 |i::is,t::ts,v::vs,env,σ,h,.cons r rs,hi=>by
  unfold Mi.setAll
  rw[UL,Ut]
  refine EnvR.setAll (h.set (w:=.t t) r i (hi i Yv)) rs λj hj=>?_
  rw[Wx]
  exact hi j (Yp _ hj)
theorem Zqk{tg:Tg}{t:T}{v:V}{env env':Env}{σ:L2.St}(hE:EnvR K cm m H env σ)(hi:∀i∈tgS tg,i<σ.length)(r:RT K cm m H t v)(e:Qs tg t env=some env'){Q:L2.St->Hp->Prop}(q:∀σ',EnvR K cm m H env' σ'->Agree (tgS tg) σ σ'->Q σ' H):gT K tg v σ H Q:=by
 cases tg with
 |nm i =>
  cases e
  refine q _ (hE.set (w:=.t t) r i (hi i (by simp[tgS]))) λj hj=>?_
  rw[YF]
  intro z
  exact hj (by simp[tgS,z])
 |tp is =>
  unfold Qs at e
  dsimp only at e
  split at e
  ·split at e<;>cases e
   rename_i ts hl
   obtain⟨a,vs,rfl,h1,h2⟩:=RT.itup r
   exact⟨a,vs,rfl,h1,by rw[<-h2.length];exact hl,q _ (EnvR.setAll hE h2 hi) (Zcu is vs σ)⟩
  ·cases e
end
noncomputable def innS:E->List Nat
 |.more _ tg _ inner=>tgS tg++innS inner
 |_=>[]
section
variable{xr:XR}{Y:Cx}{call:Nat->List W->Mem->Res W}{gv:List T}
inductive Ins (xr:XR) (Y:Cx) (call:Nat->List W->Mem->Res W) (gv:List T) (elt:Expr) (gens:List WQ):Nat->E->Prop
 |emit {d:Nat}{a:E}:gens[d+1]?=none->PE Y elt (tE Y.K call gv xr a)->Ins xr Y call gv elt gens d (.emit a)
 |more {d:Nat}{it inner:E}{tg:Tg}{cs:Es}{target iter:Expr}{ifs:List Expr}:gens[d+1]?=some ⟨target,iter,ifs,0⟩->PI Y target iter (tI Y.K call gv xr it)->(∀x,W2 iter Y.env x=pure x)->PG Y target (gT Y.K tg)->PTs Y call gv xr cs ifs ->
  (∀i∈tgS tg,i∉innS inner)->(∀i∈tgS tg++innS inner,i<Y.N.length)->Ins xr Y call gv elt gens (d+1) inner->Ins xr Y call gv elt gens d (.more it tg cs inner)
theorem ZjL{α:Type}{M:Model}{A:Around}{t:Sem α}{Q:α->Shared->Prop}{E:Value->Shared->Prop}{s:Shared}(hxe:∀e s,¬Y.xe e s)(h:wpAny M A t Q Y.xe s):wpAny M A t Q E s:=Ul h (λ_ _ q=>q) λ_ _ z=>(hxe _ _ z).elim
noncomputable abbrev turnF(call:Nat->List W->Mem->Res W)(gv:List T)(cs:Es)(inner:E):Env->Mem->Res (List T):=λenv m=>(tests call gv cs env m).bind λk m=>if k then(ev call gv inner env m).bind ZfS else .ok [] m
noncomputable def ZmQ(Y:Cx)(Acc:Heap->List V->Prop)(D:Addr)(S:List Nat)(pins:List (Addr×Obj))(σ:L2.St)(cm:List Addr)(m:Mem)(H:Hp)(vs:List V)(out:List T)(m':Mem)(s':Shared):Prop:=
 ∃σ' H' cm' vs',Inv Y pins σ' H' s'/\Ext cm m H cm' m' H'/\MemR Y.K cm' m' H'/\RTs Y.K cm' m' H' out vs'/\Acc s'.heap (vs++vs')/\Agree S σ σ'/\H' D=none
noncomputable abbrev CEnd(Y:Cx)(D:Addr):=ZmQ Y (λh vs=>AccAt h D vs) D
theorem AccAt.keep{h h':Heap}{D:Addr}{vs:List V}(a:AccAt h D vs)(k:∀o,h.get? D=some o->h'.get? D=some o):AccAt h' D vs:=by
 obtain⟨z,its,n,r,e⟩:=a
 exact⟨z,its,n,r,k _ e⟩
theorem EnvR.agree{K:Frag}{cm:List Addr}{m:Mem}{H:Hp}{env:Env}{σ σ':L2.St}{S:List Nat}(h:EnvR K cm m H env σ)(a:Agree S σ σ')(n:∀i∈S,∀w,env[i]?≠some (some w)):EnvR K cm m H env σ':=λi w e=>by
 obtain⟨v,h1,h2⟩:=h i w e
 refine⟨v,?_,h2⟩
 rw[a i λz=>n i z w e]
 exact h1
theorem Agree.trans{S:List Nat}{a b c:L2.St}(h:Agree S a b)(g:Agree S b c):Agree S a c:=λi hi=>(g i hi).trans (h i hi)
theorem Agree.mono{S S':List Nat}{a b:L2.St}(h:Agree S a b)(g:∀i∈S,i∈S'):Agree S' a b:=λi hi=>h i λz=>hi (g i z)
theorem Agree.refl{S:List Nat}{a:L2.St}:Agree S a a:=λ_ _=>rfl
theorem Zif{tg:Tg}{t:T}{env env':Env}(e:Qs tg t env=some env'){i:Nat}(hi:i∉tgS tg):env'[i]?=env[i]?:=by
 cases tg with
 |nm j =>
  cases e
  rw[YF]
  intro z;exact hi (by simp[tgS,z])
 |tp is =>
  unfold Qs at e
  dsimp only at e
  split at e
  ·split at e<;>cases e
   rename_i ts hl
   have:∀(is:List Nat) (ts:List T) (env:Env),i∉is->((is.zip ts).foldl (λenv p=>env.set p.1 (some (.t p.2))) env)[i]?=env[i]?:=by
    intro is
    induction is with
    |nil=>intro ts env _;rfl
    |cons j is ih =>
     intro ts env h
     cases ts with
     |nil=>rfl
     |cons t ts =>
      rw[Ym]at h
      rw[UL,Ut,ih ts _ λz=>h (.inr z),YF λz=>h (.inl z.symm)]
   exact this is ts env hi
  ·cases e
theorem Zz{α β:Type}{r:Res α}{f:α->Mem->Res β}{y:β}{m':Mem}(h:r.bind f=.ok y m'):∃x m,r=.ok x m/\f x m=.ok y m':=by
 cases r with
 |ok x m=>exact⟨x,m,rfl,h⟩
 |exc _ _=>cases h
 |stuck=>cases h
theorem Zho{w:W}{m m':Mem}{ts:List T}(h:ZfS w m=.ok ts m'):w=.t (.lst ts)/\m'=m:=by
 unfold ZfS at h
 split at h<;>cases h
 exact⟨rfl,rfl⟩
theorem Zl9{K:Frag}{cm:List Addr}{m m':Mem}{H:Hp}{w:W}{v:V}{t:T}(M:MemR K cm m H)(r:RW K cm m H w v)(e:frz w m=.ok t m'):Ext cm m H cm m' H/\MemR K cm m' H/\RT K cm m' H t v:=by
 cases w with
 |t x=>cases e;exact⟨.refl,M,r⟩
 |f a=>cases e
 |x _ _ _=>cases e
 |o _ _ _=>cases e
 |u=>cases e
 |c i =>
  unfold frz at e
  dsimp only at e
  split at e
  ·rename_i ts h
   cases e
   obtain⟨a,vs,q1,q2,q3,q4,q5,q6,q7⟩:=Zmy M h
   obtain⟨b,h1,h2⟩:=r
   rw[q1]at h1;cases h1
   subst h2
   exact⟨q4,q5,q7⟩
  ·cases e
theorem Zmc{pins:List (Addr×Obj)}{H:Hp}{b:Addr}{fp:List Addr}{h:Heap}(f:FpOk Y pins H b)(n:b∉fp):FpOk Y (pins++ZbH fp h) H b:=
 ⟨f.1,f.2.1,f.2.2.1,f.2.2.2.1,f.2.2.2.2.1,λp hp z=>by
  rw[<-Wj]at hp
  rcases Y7.mp hp with hp|hp
  ·exact f.2.2.2.2.2 p hp z
  ·exact n (by rw[<-z];exact(ZgD hp).1)⟩
structure AccK (D:Addr) (Acc:Heap->List V->Prop):Prop where
 obj:∀{h vs},Acc h vs->∃o,h.get? D=some o/\∀v,o.data≠.cell v
 keep:∀{h h' vs},Acc h vs->(∀o,h.get? D=some o->h'.get? D=some o)->Acc h' vs
theorem Zc6(D:Addr):AccK D (λh vs=>AccAt h D vs):=⟨λ⟨_,_,_,_,e⟩=>⟨_,e,λv z=>by cases z⟩,λa k=>a.keep k⟩
theorem Zi0{pins:List (Addr×Obj)}{s:Shared}{σ:L2.St}{H:Hp}{D:Addr}{Acc:Heap->List V->Prop}(hA:AccK D Acc){vs:List V}(I:Inv Y pins σ H s)(f:FpOk Y pins H D)(a:Acc s.heap vs):Inv Y (pins++ZbH [D] s.heap) σ H s:=by
 refine I.pinned (λb hb=>?_) λb hb=>?_
 ·have e:b=D:=by simpa using hb
  rw[e];exact f
 ·have e:b=D:=by simpa using hb
  obtain⟨o,q,n⟩:=hA.obj a
  rw[e]
  exact⟨_,q,n⟩
theorem ZfT{pins:List (Addr×Obj)}{h:Heap}{s:Shared}{σ:L2.St}{H:Hp}{D:Addr}{Acc:Heap->List V->Prop}(hA:AccK D Acc){vs:List V}(a:Acc h vs)(I:Inv Y pins σ H s)(hp:∀o,h.get? D=some o->(D,o)∈pins):Acc s.heap vs/\H D=none:=by
 obtain⟨o,q,_⟩:=hA.obj a
 obtain⟨h1,h2,_⟩:=I.pin _ (Yu _ (hp _ q))
 refine⟨hA.keep a λo' e=>?_,h2⟩
 rw[q]at e;cases e
 exact h1
theorem ZmL{pins:List (Addr×Obj)}{s:Shared}{σ:L2.St}{H:Hp}{D:Addr}{vs:List V}(I:Inv Y pins σ H s)(f:FpOk Y pins H D)(a:AccAt s.heap D vs):Inv Y (pins++ZbH [D] s.heap) σ H s:=Zi0 (Zc6 D) I f a
theorem ZoZ{pins:List (Addr×Obj)}{h:Heap}{s:Shared}{σ:L2.St}{H:Hp}{D:Addr}{vs:List V}(a:AccAt h D vs)(I:Inv Y pins σ H s)(hp:∀o,h.get? D=some o->(D,o)∈pins):AccAt s.heap D vs/\H D=none:=ZfT (Zc6 D) a I hp
noncomputable abbrev Zm0(target iter:Expr)(ifs:List Expr)(env:Wv)(it:Value)(c:Code)(br:Sem YbI):Sem YbI:=
 VN iter.pos >>= λ_=>pyNext it >>= λr=>match r with
  |none=>pure (.done .next)
  |some v=>Gm target it v >>= λ_=>assign target env v >>= λ_ =>
   (forIn ifs true λc r=>if r=true then do let ok <-isTrue c env (eval c env);pure (WR ok)else pure (WR r)) >>= λok=>if ok=true then br else again c
theorem ZiG(hc:Y.calm=true)(hxe:∀e s,¬Y.xe e s){ce:Expr}{D:Addr}{Acc:Heap->List V->Prop}(hA:AccK D Acc){L:Nat}{Pt:T->Prop}{inner:E}{d:Nat}{target iter:Expr}{ifs:List Expr}{tg:Tg}{cs:Es}{it:Addr}{br:Sem YbI}(hu:Y.A.under (.compLoop ce d (.ref it) (.ref D) Y.env)=Y.A)(hd:(model Y.prog Y.w).den (.compLoop ce d (.ref it) (.ref D) Y.env)=(Yba ce d (.ref it) (.ref D) Y.env).onRaise (λx=>do YaR x Y.env;theTreesLotGoes x))(code:Yba ce d (.ref it) (.ref D) Y.env=Zm0 target iter ifs Y.env (.ref it) (.compLoop ce d (.ref it) (.ref D) Y.env) br)(hg:PG Y target (gT Y.K tg))(ht:PTs Y call gv xr cs ifs)(hdis:∀i∈tgS tg,i∉innS inner)(hlt:∀i∈tgS tg++innS inner,i<Y.N.length)(hbr:∀{pins:List (Addr×Obj)}{s:Shared}{σ:L2.St}{H:Hp}{cm:List Addr}{m m':Mem}{env:Env}{out:List T}{vs:List V},Inv Y pins σ H s->FpOk Y pins H D->Acc s.heap vs->EnvR Y.K cm m H env σ->(∀i∈innS inner,∀w,env[i]?≠some (some w))->MemR Y.K cm m H ->
   (ev call gv inner env m).bind ZfS=.ok out m'->vs.length+out.length<=L->(∀t∈out,Pt t) ->
   wpAny (model Y.prog Y.w) Y.A br (λfin s'=>fin=.again (.compLoop ce d (.ref it) (.ref D) Y.env)/\ZmQ Y Acc D (innS inner) pins σ cm m H vs out m' s') Y.xe s){pins:List (Addr×Obj)}{s:Shared}{σ:L2.St}{H:Hp}{cm:List Addr}{m m':Mem}{env:Env}{ts out:List T}{J:It}{fp:List Addr}{tn:Nat->Heap->Prop}{vs:List V}(I:Inv Y pins σ H s)(hD:FpOk Y pins H D)(ha:Acc s.heap vs)(hT:Turn Y.prog Y.w Y.K target J fp it tn)(h0:tn 0 s.heap)(hf:∀b∈fp,FpOk Y pins H b)(hDf:D∉fp)(hE:EnvR Y.K cm m H env σ)(hn:∀i∈tgS tg++innS inner,∀w,env[i]?≠some (some w))(M:MemR Y.K cm m H)(hs:Src Y.K cm m H J ts)(ok:Jg (turnF call gv cs inner) tg ts env m=.ok out m')(hl:vs.length+out.length<=L)(hpt:∀t∈out,Pt t):
  Vb (model Y.prog Y.w) Y.A (.compLoop ce d (.ref it) (.ref D) Y.env) (λr s'=>r=.ok .next/\ZmQ Y Acc D (tgS tg++innS inner) pins σ cm m H vs out m' s') s:=by
 have statD:∀{H1:Hp},H1 D=none->FpOk Y pins H1 D:=λh=>⟨h,hD.2⟩
 have stat:∀{H1:Hp},(∀b∈fp,H1 b=none)->∀b∈fp,FpOk Y pins H1 b:=λh b hb=>⟨h b hb,(hf b hb).2⟩
 refine codeAny_loop rfl (λn s1=>∃i σ1 H1 cm1 m1 vs1 done rest,Inv Y pins σ1 H1 s1/\tn i s1.heap/\(∀b∈fp,H1 b=none)/\H1 D=none/\Ext cm m H cm1 m1 H1/\MemR Y.K cm1 m1 H1/\Agree (tgS tg++innS inner) σ σ1 /\
   Acc s1.heap (vs++vs1)/\RTs Y.K cm1 m1 H1 done vs1/\Jg (turnF call gv cs inner) tg (ts.drop i) env m1=.ok rest m'/\out=done++rest/\n=ts.length+1-i/\i<=ts.length) ?_ (ts.length+1)
  ⟨0,σ,H,cm,m,[],[],out,I,h0,λb hb=>(hf b hb).1,hD.1,.refl,M,.refl,by rw[Ur];exact ha,.nil,by rw[Yah];exact ok,rfl,rfl,Gr _⟩
 rintro n s1 ⟨i,σ1,H1,cm1,m1,vs1,done,rest,I1,st1,fr1,d1,x1,M1,ag1,a1,r1,ok1,eo,rfl,hi⟩
 rw[hu,hd]
 refine wpAny_noted ?_
 rw[code]
 refine Yb (Ux (Yb ?_))
 have hE1:=(hE.ext x1 M M1).agree ag1 hn
 have s1':=hs.ext x1 M M1
 have I1D:=Zi0 hA I1 (statD d1) a1
 have fpD:∀{H1:Hp},(∀b∈fp,H1 b=none)->∀b∈fp,FpOk Y (pins++ZbH [D] s1.heap) H1 b:=λh b hb=>Zmc (stat h b hb) λz=>hDf (by
  have e:b=D:=by simpa using z
  rw[<-e];exact hb)
 have inD:∀o,s1.heap.get? D=some o->(D,o)∈pins++ZbH [D] s1.heap:=λo e=>Yu _ (Qg (by simp) e)
 cases et:ts[i]? with
 |none =>
  refine ZjL hxe (thn (hT.done Y rfl rfl rfl hc i _ s1 σ1 H1 Y.xe I1D (fpD fr1) st1 (Src.stop M1 s1' et)) λr s2 ⟨hr,I2⟩=>?_)
  subst hr
  have hd:=List.drop_eq_nil_of_le (GJ.mp et)
  rw[hd]at ok1
  unfold Jg at ok1
  cases ok1
  rw[Ur]at eo
  subst eo
  exact Yd ⟨rfl,σ1,H1,cm1,vs1,I2.unpinned,x1,M1,r1,(ZfT hA a1 I2 inD).1,ag1,(ZfT hA a1 I2 inD).2⟩
 |some t =>
  obtain⟨go,yl⟩:=Src.go M1 s1' et
  have hit:=(Yj.mp et).1
  have hd:ts.drop i=t::ts.drop (i+1):=by
   rw[Ub hit]
   congr 1
   exact YS ((YM hit).symm.trans et)
  rw[hd]at ok1
  unfold Jg at ok1
  split at ok1
  ·cases ok1
  ·rename_i env' eb
   obtain⟨xs,m2,ok2,ok3⟩:=Zz ok1
   obtain⟨ys,m3,ok4,ok5⟩:=Zz ok3
   cases ok5
   obtain⟨k,m4,okt,okb⟩:=Zz ok2
   refine ZjL hxe (thn (hT.item Y rfl rfl rfl hc i _ s1 σ1 H1 Y.xe I1D (fpD fr1) st1 go) λr s2 ⟨u,hr,h2⟩=>?_)
   subst hr
   refine Yb (ZjL hxe (thn h2 λ_ s3 ⟨x,H3,I3,rx,y3,st3,fr3⟩=>?_))
   obtain⟨xy,My,rt⟩:=yl x H3 y3
   have hE1:=hE1.ext xy M1 My
   have x1:=x1.trans xy
   have r1:=RTs.ext xy M1 My r1
   have M1:=My
   -- pinned: the list that is filled,and the iterator
   have I3':=I3.pinned (fpD fr3) (hT.obj _ _ st3)
   refine Yb (ZjL hxe (thn (hg _ s3 σ1 H3 x u (λσ' H'=>H'=H3/\EnvR Y.K cm1 m1 H3 env' σ'/\Agree (tgS tg) σ1 σ') I3' rx (Zqk hE1 (λj hj=>by rw[I3.len];exact hlt j (Wm _ hj)) rt eb λσ' h1 h2=>⟨rfl,h1,h2⟩)) λ_ s4 ⟨σ4,H4,I4,e4,hE4,ag4⟩=>?_))
   subst e4
   refine Yb (ZjL hxe (thn (Zf1 ht I4 hE4 M1 okt) λb s5 ⟨hb,H5,cm5,I5,x5,M5⟩=>?_))
   subst hb
   have a5:=ZfT hA a1 I5 λo e=>Wm _ (inD o e)
   have st5:=hT.keep _ _ _ st3 λb hb o e=>(I5.pin (b,o) (Yu _ (Yu _ (Qg hb e)))).1
   have f5:∀b∈fp,H5 b=none:=λb hb=>by
    obtain⟨o,e,dd⟩:=hT.obj _ _ st3 b hb
    exact(I5.pin (b,o) (Yu _ (Yu _ (Qg hb e)))).2.1
   have ag45:=ag1.trans (ag4.mono λi hi=>Wm _ hi)
   cases b with
   |false =>
    rw[if_neg Yw]at okb ⊢
    cases okb
    rw[Uc]at eo
    exact Yd ⟨rfl,_,by omega,i+1,σ4,H5,cm5,m2,vs1,done,ys,I5.unpinned.unpinned,st5,f5,a5.2,x1.trans x5,M5,ag45,a5.1,RTs.ext x5 M1 M5 r1,ok4,eo,rfl,hit⟩
   |true =>
    rw[if_pos rfl]at okb ⊢
    have I6:=I5.unpinned.unpinned.pinned (stat f5) (hT.obj _ _ st5)
    have hv:=r1.length
    have hz:(vs++vs1).length+xs.length<=L:=by
     rw[Yi,<-hv]
     rw[eo,Yi,Yi]at hl
     omega
    have hn6:∀j∈innS inner,∀w,env'[j]?≠some (some w):=λj hj w=>by
     rw[Zif eb λz=>hdis j z hj]
     exact hn j (Yu _ hj) w
    refine ZjL hxe (thn (hbr I6 (Zmc (statD a5.2) hDf) a5.1 (hE4.ext x5 M1 M5) hn6 M5 okb hz λt ht'=>hpt t (by rw[eo];exact Yu _ (Wm _ ht'))) λfin s7 ⟨hfin,σ7,H7,cm7,vs7,I7,x7,M7,r7,a7,ag7,d7⟩=>?_)
    subst hfin
    have keep7:=λb hb o e=>(I7.pin (b,o) (Yu _ (Yu _ (Qg hb e)))).1
    refine⟨rfl,_,by omega,i+1,σ7,H7,cm7,m2,vs1++vs7,done++xs,ys,I7.unpinned,hT.keep _ _ _ st5 keep7,λb hb=>?_,?_,(x1.trans x5).trans x7,M7,ag45.trans (ag7.mono λi hi=>Yu _ hi),by rw[<-Wj];exact a7,
     Z7 (RTs.ext x7 M5 M7 (RTs.ext x5 M1 M5 r1)) r7,ok4,by rw[eo,Wj],rfl,hit⟩
    ·obtain⟨o,e,dd⟩:=hT.obj _ _ st5 b hb
     exact(I7.pin (b,o) (Yu _ (Yu _ (Qg hb e)))).2.1
    ·exact d7
theorem ZfJ{prog:YQ}{w:World}{A:Around}{R:Result->Shared->Prop}{s:Shared}{elt:Expr}{gens:List WQ}{scope:Scope}{pos:Pos}{d:Nat}{target iter:Expr}{ifs:List Expr}{it acc:Value}{env:Wv}(hg:gens[d]?=some ⟨target,iter,ifs,0⟩)(h0:Vb (model prog w) A (.compLoop (.ListComp elt gens scope pos) d it acc env) R s)(h:wpAny (model prog w) A (pyIter it) (λit' s'=>Vb (model prog w) A (.compLoop (.ListComp elt gens scope pos) d it' acc env) R s') (notedBy (model prog w) A env λx s'=>R (.error x) s') s):
  Vb (model prog w) A (.compStart (.ListComp elt gens scope pos) d it acc env) R s:=by
 refine V0 ?_
 refine wpAny_notedAt ?_
 unfold Ybs
 have e:(YbJ (.ListComp elt gens scope pos))[d]?=some ⟨target,iter,ifs,0⟩:=hg
 rw[e]
 refine Yb (Gf (wpAny_ite ?_))
 split
 ·first
   |exact Yb (Yd (Yd (YL rfl h0)))
   |exact Yd (YL rfl h0)
 ·first
   |exact Yb (Vo (Yb (Ux (Yb (Ul h (λit' s' h'=>Yd (YL rfl h')) λ_ _ x=>x)))))
   |(refine Yb (Vo ?_);show wpAny _ _ (VN iter.pos >>= _) _ _ s;exact Yb (Ux (Yb (Ul h (λit' s' h'=>Yd (YL rfl h')) λ_ _ x=>x))))
theorem Zkt{pins:List (Addr×Obj)}{s:Shared}{σ:L2.St}{H:Hp}{D:Addr}{vs:List V}{v:V}{u:Value}{E:Value->Shared->Prop}{Q:Value->Shared->Prop}(I:Inv Y pins σ H s)(f:FpOk Y pins H D)(a:AccAt s.heap D vs)(r:RelV v u)(hz:vs.length<YJ)(q:∀s',Inv Y pins σ H s'->AccAt s'.heap D (vs++[v])->Q .none s'):wpAny (model Y.prog Y.w) Y.A (G5 (.builtin "list.append") [.ref D,u]) Q E s:=by
 obtain⟨z,its,n,rv,e⟩:=a
 have hl:=rv.length
 refine Uv F.slot_list_append ⟨_,e,rfl⟩ F.entry_list_append (F.args_list_append_2 _ _) (PySem.list_append D its.toArray n u (by rw[Yh];omega)) ⟨e,?_⟩
 have e2:=PySem.IsL.update e (·.push u)
 have hf:its.toArray.push u=(its++[u]).toArray:=by simp
 rw[hf]at e2
 obtain⟨f0,f1,f2,f3,f4,f5⟩:=f
 refine q _ (I.turned (t':=s.toks) (λb o hb eb=>(Y9 s.heap (Gw (·.push u)) (Uo hb)).trans eb) f0 f1 f3 f4 f5) ⟨?_,its++[u],_,rv.append (.cons r .nil),e2⟩
 rw[Yi,Gn]
 omega
theorem ZdY{K:Frag}{cm:List Addr}{m m1:Mem}{H:Hp}{w:W}{ts:List T}(M:MemR K cm m H)(e:Z5 w m=.ok ts m1):Ext cm m H cm m1 H/\MemR K cm m1 H:=by
 cases w with
 |t t =>
  unfold Z5 at e
  dsimp only at e
  split at e<;>cases e
  exact⟨.refl,M⟩
 |f a=>cases e
 |x _ _ _=>cases e
 |o _ _ _=>cases e
 |u=>cases e
 |c i =>
  unfold Z5 at e
  dsimp only at e
  split at e
  ·cases e
   exact Zmx M (by assumption)
  ·cases e
theorem Zp6(hc:Y.calm=true)(hxe:∀e s,¬Y.xe e s){elt:Expr}{gens:List WQ}{scope:Scope}{pos:Pos}{D:Addr}{inner:E}{d:Nat}(hin:Ins xr Y call gv elt gens d inner):∀{target iter:Expr}{ifs:List Expr}{tg:Tg}{cs:Es},gens[d]?=some ⟨target,iter,ifs,0⟩ ->
  PG Y target (gT Y.K tg)->PTs Y call gv xr cs ifs->(∀i∈tgS tg,i∉innS inner)->(∀i∈tgS tg++innS inner,i<Y.N.length) ->
  ∀{pins:List (Addr×Obj)}{s:Shared}{σ:L2.St}{H:Hp}{cm:List Addr}{m m':Mem}{env:Env}{ts out:List T}{J:It}{it:Addr}{fp:List Addr}{tn:Nat->Heap->Prop}{vs:List V},Inv Y pins σ H s->FpOk Y pins H D->AccAt s.heap D vs ->
   Turn Y.prog Y.w Y.K target J fp it tn->tn 0 s.heap->(∀b∈fp,FpOk Y pins H b)->D∉fp->EnvR Y.K cm m H env σ->(∀i∈tgS tg++innS inner,∀w,env[i]?≠some (some w))->MemR Y.K cm m H->Src Y.K cm m H J ts ->
   Jg (turnF call gv cs inner) tg ts env m=.ok out m'->vs.length+out.length<=lim ->
   Vb (model Y.prog Y.w) Y.A (.compLoop (.ListComp elt gens scope pos) d (.ref it) (.ref D) Y.env) (λr s'=>r=.ok .next/\CEnd Y D (tgS tg++innS inner) pins σ cm m H vs out m' s') s:=by
 induction hin with
 |@emit d a hnx pe =>
  intro target iter ifs tg cs hg pg pt hdis hlt pins s σ H cm m m' env ts out J it fp tn vs I hD ha hT h0 hf hDf hE hn M hs ok hl
  refine ZiG hc hxe (Zc6 D) rfl rfl (ZfI hg hnx) pg pt hdis hlt ?_ I hD ha hT h0 hf hDf hE hn M hs ok hl (λ_ _=>trivial)
  intro pins s σ H cm m m' env out vs I hD ha hE hn M ok hl _
  obtain⟨w,m1,ok1,ok2⟩:=Zz ok
  obtain⟨rfl,rfl⟩:=Zho ok2
  unfold ev at ok1
  obtain⟨w1,m2,ok3,ok4⟩:=Zz ok1
  obtain⟨t,m3,ok5,ok6⟩:=Zz ok4
  cases ok6
  have hz:=ZF
  refine Yb (Yb (thn (pe_run pe (ZmL I hD ha) hE M ok3) λu s1 ⟨v,H1,I1,rv,cm1,x1,M1,r1⟩=>?_))
  obtain⟨a1,d1⟩:=ZoZ ha I1 λo e=>Yu _ (Qg (by simp) e)
  obtain⟨x2,M2,r2⟩:=Zl9 M1 r1 ok5
  have I1':=I1.unpinned
  refine Yb (Zkt I1' ⟨d1,hD.2⟩ a1 rv (by simp at hl;omega) λs2 I2 a2=>Yd (Yd ⟨rfl,σ,H1,cm1,[v],I2,x1.trans x2,M2,.cons r2 .nil,a2,.refl,d1⟩))
 |@more d it' inner' tg' cs' target' iter' ifs' hnx pi hfs pg' pt' hdis' hlt' hin' ih =>
  intro target iter ifs tg cs hg pg pt hdis hlt pins s σ H cm m m' env ts out J it fp tn vs I hD ha hT h0 hf hDf hE hn M hs ok hl
  refine ZiG hc hxe (Zc6 D) rfl rfl (ZfH hg hnx) pg pt hdis hlt ?_ I hD ha hT h0 hf hDf hE hn M hs ok hl (λ_ _=>trivial)
  intro pins s σ H cm m m' env out vs I hD ha hE hn M ok hl _
  obtain⟨w,m1,ok1,ok2⟩:=Zz ok
  obtain⟨rfl,rfl⟩:=Zho ok2
  unfold ev at ok1
  obtain⟨w1,m2,ok3,ok4⟩:=Zz ok1
  obtain⟨ts',m3,ok5,ok6⟩:=Zz ok4
  obtain⟨out',m4,ok7,ok8⟩:=Zz ok6
  cases ok8
  have hz:=ZF
  refine Yb (thn (pi _ s σ H (λJ H1=>∃cm1,Ext cm m H cm1 m2 H1/\MemR Y.K cm1 m2 H1/\Src Y.K cm1 m3 H1 J ts') (ZmL I hD ha) ⟨env,cm,m,hE,M,by
   rw[ok3]
   exact λcm1 H1 x M1=>⟨ts',m3,ok5,λJ hs=>⟨cm1,x,M1,hs⟩⟩⟩) λxv s1 h1=>?_)
  refine Yb (Ux (Yb (Ybr (hfs xv) (Yb (WN (thn h1 λitv s2 h2=>?_))))))
  obtain⟨it2,fp2,tn2,J2,H2,rfl,I2,T2,st2,f2,cm2,x2,M2,hs2⟩:=h2
  obtain⟨a2,d2⟩:=ZoZ ha I2 λo e=>Yu _ (Qg (by simp) e)
  have hDf2:D∉fp2:=λz=>by
   obtain⟨_,its,n,_,e⟩:=id ha
   exact(f2 D z).2.2.2.2.2 (D,_) (Yu _ (Yu _ (Qg (by simp) e))) rfl
  have f2':∀b∈fp2,FpOk Y pins H2 b:=λb hb=>⟨(f2 b hb).1,(f2 b hb).2.1,(f2 b hb).2.2.1,(f2 b hb).2.2.2.1,(f2 b hb).2.2.2.2.1,λp hp=>(f2 b hb).2.2.2.2.2 p (by rw[<-Wj];exact Wm _ hp)⟩
  have hb3:=ZdY M2 ok5
  have E2:=(hE.ext x2 M M2).ext hb3.1 M2 hb3.2
  have go:=ih hnx pg' pt' hdis' hlt' I2.unpinned ⟨d2,hD.2⟩ a2 T2 st2 f2' hDf2 E2 hn hb3.2 hs2 ok7 hl
  have self:=ZfJ hnx go (T2.self Y.A 0 s2 _ _ st2 go)
  refine Yb (wpAny_runOwn (GX self λr s3 ⟨hr,σ3,H3,cm3,vs3,I3,x3,M3,r3,a3,ag3,d3⟩=>?_))
  subst hr
  obtain⟨x4,M4,sm⟩:=ZbY M2 ok5 x3 M3
  exact Yd ⟨rfl,σ3,H3,cm3,vs3,I3,x2.trans x4,M4,Zt (λ_ _ z=>sm _ _ z) r3,a3,ag3,d3⟩
end
theorem Zkc{scope:Scope}{env:Wv}(h:∀x,(x,Wd)∈scope.names->∃c,env.cells.lookup x=some c):
  ∃cl,closureFor scope env=pure cl/\(∀x c,cl.lookup x=some c->env.cells.lookup x=some c)/\∀x,(x,Wd)∈scope.names->∃c,cl.lookup x=some c:=by
 have go:∀(ns:List (Str×Gv)) (acc:List (Str×Addr)),(∀x,(x,Wd)∈ns->∃c,env.cells.lookup x=some c)->(∀x c,acc.lookup x=some c->env.cells.lookup x=some c) ->
   ∃cl,(forIn ns acc λ(x:Str×Gv) cs=>(match x with|(name,kind)=>if(kind==Wd)=true then do let a <-cellOf env name;pure (WR ((name,a)::cs))else pure (WR cs):Sem (ForInStep (List (Str×Addr)))))=pure cl /\
    (∀x c,cl.lookup x=some c->env.cells.lookup x=some c)/\(∀x,(x,Wd)∈ns->∃c,cl.lookup x=some c)/\∀x c,acc.lookup x=some c->∃c,cl.lookup x=some c:=by
  intro ns
  induction ns with
  |nil=>intro acc _ h2;exact⟨acc,rfl,h2,λx hx=>absurd hx (by simp),λx c e=>⟨c,e⟩⟩
  |cons p ns ih =>
   intro acc h1 h2
   obtain⟨n,k⟩:=p
   have h1':=λx hx=>h1 x (Yp _ hx)
   by_cases hk:k=.free
   ·subst hk
    obtain⟨c,hc⟩:=h1 n Yv
    have h2':∀x d,((n,c)::acc).lookup x=some d->env.cells.lookup x=some d:=λx d e=>by
     rw[We]at e
     cases hx:x==n with
     |true=>rw[hx]at e;cases e;rw[eq_of_beq hx];exact hc
     |false=>rw[hx]at e;exact h2 x d e
    obtain⟨cl,e1,e2,e3,e4⟩:=ih ((n,c)::acc) h1' h2'
    refine⟨cl,?_,e2,λx hx=>?_,λx d e=>?_⟩
    ·rw[V4]
     simp only[beq_self_eq_true,if_true,cellOf,hc,pure_bind]
     exact e1
    ·rcases Ym.mp hx with z|z
     ·cases z
      exact e4 n c (by rw[We,beq_self_eq_true])
     ·exact e3 x z
    ·by_cases hx:x=n
     ·subst hx;exact e4 x c (by rw[We,beq_self_eq_true])
     ·exact e4 x d (by rw[We,beq_eq_false_iff_ne.mpr hx];exact e)
   ·obtain⟨cl,e1,e2,e3,e4⟩:=ih acc h1' h2
    have hb:=beq_eq_false_iff_ne.mpr hk
    refine⟨cl,?_,e2,λx hx=>?_,e4⟩
    ·rw[V4]
     simp only[hb,YH,if_false,pure_bind]
     exact e1
    ·rcases Ym.mp hx with z|z
     ·cases z;exact absurd rfl hk
     ·exact e3 x z
 obtain⟨cl,e1,e2,e3,_⟩:=go scope.names [] h (λx c e=>by simp at e)
 refine⟨cl,?_,e2,e3⟩
 unfold closureFor
 have:(forIn scope.names ([]:List (Str×Addr)) λ(x:Str×Gv) cs=>(match x with|(name,kind)=>if(kind==Wd)=true then do let a <-cellOf env name;pure (WR ((name,a)::cs))else pure (WR cs):Sem (ForInStep (List (Str×Addr))))) >>= (λcs=>pure cs)=(pure cl:Sem (List (Str×Addr))):=by rw[e1];rfl
 exact this
section
variable{xr:XR}{X:Cx}{call:Nat->List W->Mem->Res W}{gv:List T}
noncomputable abbrev J8(X:Cx)(N':List Str)(scope:Scope)(cl:List (Str×Addr))(C:Addr)(s2:Shared)(H2:Hp)(fp:List Addr):Cx:=
 { X with N:=N',s₀:=s2,H₀:=H2,env:=compEnvC scope cl C X.env,outer:=X.stack,stack:=X.stack,ex:=fp,fn:=λx=>scope.names.lookup x==some .cell,pn:=[],xe:=λ_ _=>False }
structure CompSc (X:Cx) (N':List Str) (scope:Scope):Prop where
 kind:scope.kind=.function
 look:∀p∈scope.names,scope.names.lookup p.1=some p.2
 free:∀x,(x,Wd)∈scope.names->X.env.kindOf x=some .cell∨X.env.kindOf x=some .free
theorem Zcw{scope:Scope}{env:Wv}(look:∀p∈scope.names,scope.names.lookup p.1=some p.2){x:Str}{k:Gv}(h:(relabel scope env).names.lookup x=some k):
  ∃k',scope.names.lookup x=some k'/\(k=k'∨(k'=.free/\k=.cell)):=by
 have go:∀(ns:List (Str×Gv)),(ns.map λ(n,k)=>if(k==Wd&&env.scope.kind==.function&&env.kindOf n==some .cell)then(n,YaB)else(n,k)).lookup x=some k->∃k',ns.lookup x=some k'/\(k=k'∨(k'=.free/\k=.cell)):=by
  intro ns
  induction ns with
  |nil=>intro h;simp at h
  |cons p r ih =>
   obtain⟨n,q⟩:=p
   intro h
   rw[Yz]at h
   by_cases hc:(q==Wd&&env.scope.kind==.function&&env.kindOf n==some .cell)=true
   ·simp only[hc,if_true]at h
    rw[We]at h ⊢
    cases hx:x==n with
    |true =>
     rw[hx]at h;cases h
     rw[Yg,Yg]at hc
     exact⟨q,rfl,.inr ⟨eq_of_beq hc.1.1,rfl⟩⟩
    |false=>rw[hx]at h;exact ih h
   ·simp only[hc,YH,if_false]at h
    rw[We]at h ⊢
    cases hx:x==n with
    |true=>rw[hx]at h;cases h;exact⟨_,rfl,.inl rfl⟩
    |false=>rw[hx]at h;exact ih h
 exact go scope.names h
theorem Zdv{ns:List (Str×Gv)}{x:Str}{k:Gv}(h:ns.lookup x=some k):(x,k)∈ns:=Us h
structure CA (h:Heap) (lo:Nat) (cs:List (Str×Addr)):Prop where
 lt:∀x c,cs.lookup x=some c->c<h.objs.size
 inj:∀x y c,cs.lookup x=some c->cs.lookup y=some c->x=y
 new:∀x c,cs.lookup x=some c->lo<=c->h.IsCell c none
theorem Zav{α:Type}{x y:Str}{a c:α}{l:List (Str×α)}(h:List.lookup x ((y,a)::l)=some c):(x=y/\c=a)∨l.lookup x=some c:=by
 rw[We]at h
 cases e:x==y with
 |true=>rw[e]at h;cases h;exact .inl ⟨eq_of_beq e,rfl⟩
 |false=>rw[e]at h;exact .inr h
theorem Zie:∀(names:List (Str×Gv)) (h:Heap) (lo:Nat) (acc:List (Str×Addr)),CA h lo acc->lo<=h.objs.size->CA (pushCells h names) lo (Vt h.objs.size names acc)
 |[],_,_,_,x,_=>x
 |(name,kind)::r,h,lo,acc,x,hlo=>by
  unfold pushCells Vt
  split
  ·have:=Zie r (h.push { cls:=.type "cell",data:=.cell none }) lo ((name,h.objs.size)::acc)
    ⟨λn c hm=>by
      rw[Ws]
      rcases Zav hm with⟨_,rfl⟩|hm
      ·exact Gg _
      ·exact W6 (x.lt n c hm),
     λn n' c h1 h2=>by
      rcases Zav h1 with⟨e1,z1⟩|h1<;>rcases Zav h2 with⟨e2,z2⟩|h2
      ·rw[e1,e2]
      ·exact absurd (x.lt _ _ h2) (by rw[z1];exact Wn _)
      ·exact absurd (x.lt _ _ h1) (by rw[z2];exact Wn _)
      ·exact x.inj n n' c h1 h2,
     λn c hm hc=>by
      rcases Zav hm with⟨_,rfl⟩|hm
      ·exact⟨_,Yy _ rfl,rfl⟩
      ·exact(x.new n c hm hc).keeps λb o e=>Ye _ e⟩ (by rw[Ws];omega)
   rwa [Ws]at this
  ·exact Zie r h lo acc x hlo
theorem Zc3{x:Str}{c:Addr}:∀(names:List (Str×Gv)) (n:Nat) (acc:List (Str×Addr)),(Vt n names acc).lookup x=some c->(n<=c/\(x,YaB)∈names)∨acc.lookup x=some c
 |[],_,_,h=>.inr h
 |(y,k)::r,n,acc,h=>by
  unfold Vt at h
  split at h
  ·rename_i hk
   have hk:=eq_of_beq hk
   rcases Zc3 r (n+1) _ h with⟨h1,h2⟩|h1
   ·exact .inl ⟨by omega,Yp _ h2⟩
   ·rcases Zav h1 with⟨rfl,rfl⟩|h1
    ·exact .inl ⟨Yn _,by rw[hk];exact Yv⟩
    ·exact .inr h1
  ·rcases Zc3 r n _ h with⟨h1,h2⟩|h1
   ·exact .inl ⟨h1,Yp _ h2⟩
   ·exact .inr h1
theorem ZdR{x:Str}{c:Addr}:∀(names:List (Str×Gv)) (n:Nat) (acc:List (Str×Addr)),names.lookup x=some .cell->(Vt n names acc).lookup x=some c->n<=c
 |[],_,_,h,_=>by cases h
 |(y,k)::r,n,acc,h,e=>by
  unfold Vt at e
  rw[We]at h
  cases q:x==y with
  |true =>
   rw[q]at h
   cases h
   have e:=e
   rcases Zc3 r (n+1) _ e with⟨h1,_⟩|h1
   ·omega
   ·rw[We,q]at h1
    cases h1
    exact Yn _
  |false =>
   rw[q]at h
   split at e
   ·have:=ZdR r (n+1) _ h e
    omega
   ·exact ZdR r n _ h e
structure Clo (X:Cx) (scope:Scope) (cl:List (Str×Addr)) (C:Addr) (h:Heap):Prop where
 one:∀x c,cl.lookup x=some c->(C<c/\(x,YaB)∈scope.names/\h.IsCell c none)∨X.env.cells.lookup x=some c
 own:∀x c,scope.names.lookup x=some .cell->cl.lookup x=some c->C<c
 inj:∀x y c,cl.lookup x=some c->cl.lookup y=some c->x=y
 has:∀x,(x,Wd)∈scope.names∨scope.names.lookup x=some .cell->∃c,cl.lookup x=some c
theorem Clo.ne{scope:Scope}{cl:List (Str×Addr)}{C:Addr}{h:Heap}(k:Clo X scope cl C h){b:Addr}(hb:b<C)(hx:∀x c,X.env.cells.lookup x=some c->c≠b):∀x c,cl.lookup x=some c->c≠b:=λx c e=>by
 rcases k.one x c e with⟨h1,_⟩|h1
 ·exact Vs (Yaa hb h1)
 ·exact hx x c h1
theorem Zi2{M:Model}{A:Around}{E:Value->Shared->Prop}{s:Shared}{scope:Scope}{cl0:List (Str×Addr)}{Q:Wv->Shared->Prop}(hcl1:∀x c,cl0.lookup x=some c->X.env.cells.lookup x=some c)(hcl2:∀x,(x,Wd)∈scope.names->∃c,cl0.lookup x=some c)(hlt:∀x c,X.env.cells.lookup x=some c->c<s.heap.objs.size)(hinj:∀x y c,X.env.cells.lookup x=some c->X.env.cells.lookup y=some c->x=y)(h:∀h1 cl,(∃m,h1.Ns s.heap.objs.size m)->(∀b o,s.heap.get? b=some o->h1.get? b=some o)->Clo X scope cl s.heap.objs.size h1->Q (newEnv scope s.heap.objs.size X.env.globals cl X.env.qual none .none (some X.env) Vm) { s with heap:=h1 }):
  wpAny M A (newFunctionEnv scope X.env.globals cl0 [] X.env.qual none .none (some X.env)) Q E s:=by
 simp only[newFunctionEnv,Option.isSome_some,if_true]
 refine Yb (wpAny_alloc ?_)
 refine Yb (wpAny_layCells _ (λname kind cells=>by cases hkc:kind==YaB<;>simp[hkc]) _ _ _ _ ?_)
 have hz:(s.heap.push { cls:=.type "dict",data:=.dict #[] }).objs.size=s.heap.objs.size+1:=Ws ..
 have ok:=Zie scope.names (s.heap.push { cls:=.type "dict",data:=.dict #[] }) (s.heap.objs.size+1) cl0
  ⟨λx c e=>by rw[hz];exact W6 (hlt x c (hcl1 x c e)),λx y c e1 e2=>hinj x y c (hcl1 x c e1) (hcl1 y c e2),λx c e z=>absurd (hlt x c (hcl1 x c e)) (Yby.mpr (Nat.le_of_succ_le z))⟩ (by rw[hz];exact Yn _)
 rw[List.forIn_nil]
 refine Yb (Yd (Yd ?_))
 refine h _ _ ⟨_,(Heap.Ns.new s.heap (.type "dict")).keeps (pushCells_keeps _ _)⟩ (λb o e=>pushCells_keeps _ _ b o (Ye _ e)) ⟨λx c e=>?_,λx c hx e=>?_,ok.inj,λx hx=>?_⟩
 ·rcases Zc3 _ _ _ e with⟨h1,h2⟩|h1
  ·rw[show({ s with heap:=s.heap.push { cls:=.type "dict",data:=.dict #[] } }:Shared).heap.objs.size=s.heap.objs.size+1 from hz]at h1
   exact .inl ⟨h1,h2,ok.new x c e h1⟩
  ·exact .inr (hcl1 x c h1)
 ·have:=ZdR _ _ _ hx e
  rw[show({ s with heap:=s.heap.push { cls:=.type "dict",data:=.dict #[] } }:Shared).heap.objs.size=s.heap.objs.size+1 from hz]at this
  exact this
 ·refine Option.isSome_iff_exists.mp (Ya0 _ _ _ ?_)
  rcases hx with hx|hx
  ·obtain⟨c,e⟩:=hcl2 x hx
   exact .inr (by rw[e];rfl)
  ·exact .inl hx
theorem Zj8{pins:List (Addr×Obj)}{s:Shared}{σ σ':L2.St}{H:Hp}{fp:List Addr}{N':List Str}{scope:Scope}{cl:List (Str×Addr)}{C:Addr}{h1:Heap}{t:Nat}(I:Inv X pins σ H s)(S:CompSc X N' scope)(hf:∀b∈fp,FpOk X pins H b)(hlt:∀b∈fp,b<s.heap.objs.size)(hC:s.heap.objs.size<=C)(hns:∃m,h1.Ns C m)(hk:∀b o,s.heap.get? b=some o->h1.get? b=some o)(kc:Clo X scope cl C h1)(hl:σ'.length=N'.length)(hσ:∀(i:Nat) (x:Str) (v:V),N'[i]?=some x->σ'[i]?=some (some v)->∃j:Nat,X.N[j]?=some x/\σ[j]?=some (some v)/\(x,Wd)∈scope.names):
  Inv (J8 X N' scope cl C s H fp) [] σ' H { s with heap:=h1,toks:=t }:=by
 have hfree:∀x k,(relabel scope X.env).names.lookup x=some k->(k=.cell∨k=.free)->(x,Wd)∈scope.names∨scope.names.lookup x=some .cell:=λx k h hk'=>by
  obtain⟨k',h1,h2⟩:=Zcw S.look h
  rcases h2 with rfl|⟨rfl,_⟩
  ·rcases hk' with rfl|rfl
   ·exact .inr h1
   ·exact .inl (Zdv h1)
  ·exact .inl (Zdv h1)
 obtain⟨mm,hns⟩:=hns
 refine⟨⟨I.ok.mod,S.kind,I.ok.glob,I.ok.blt,hC,kc.inj,λx hx=>?_,λx c h e=>?_,I.ok.hd,I.ok.frames,.inl rfl,λb hb=>⟨YZ (YD (hlt b hb) hC),kc.ne (YD (hlt b hb) hC) (hf b hb).2.2.2.2.1⟩,I.bs,Y5 I.ok.bsz I.sz,λb o e hb=>?_,λb hb z=>?_,I.stack,I.stkFree⟩,
  rfl,I.bare,Un.kept hk,⟨mm,hns,λi x v e1 e2 e3=>?_⟩,λx c e=>?_,I.hok.fresh hC,λx c e=>?_,λp hp=>absurd (hp) (by simp),I.hok.kept hk,hl⟩
 ·rcases hx with hx|hx
  ·exact kc.has x (hfree x _ hx (.inl rfl))
  ·exact kc.has x (hfree x _ hx (.inr rfl))
 ·have h:=h
  exact Y5 hC (Vr (kc.own x c (eq_of_beq h) e))
 ·rcases(hf b hb).2.2.2.1 with z|z
  ·exact I.ok.noex b o e z
  ·exact absurd (YD (Yx e) (Y5 I.ok.bsz z)) (Wn _)
 ·rcases Ym.mp (I.stkSub b z)with q|q
  ·exact(hf b hb).2.1 q
  ·exact(hf b hb).2.2.1 q
 ·obtain⟨j,h1',h2',h3'⟩:=hσ i x v e1 e2
  obtain⟨m0,hn0,hl0⟩:=I.loc
  have kx:=S.free x h3'
  obtain⟨u,ru,lu⟩:=hl0 j x v h1' h2' (kx.elim (λz=>.inr (.inl z)) λz=>.inr (.inr z))
  refine⟨u,ru,.inr ?_⟩
  obtain⟨c,ec,ic⟩:∃c,X.env.cells.lookup x=some c/\s.heap.IsCell c (some u):=by
   rcases lu with⟨q,_⟩|⟨_,c,q1,q2⟩
   ·rcases kx with z|z
    ·rw[z]at q;cases q
    ·rw[z]at q;cases q
   ·exact⟨c,q1,q2⟩
  obtain⟨c',ec'⟩:=kc.has x (.inl h3')
  have:c'=c:=by
   rcases kc.one x c' ec' with⟨_,q,_⟩|this
   ·have q1:=S.look _ q
    rw[S.look _ h3']at q1
    cases q1
   ·rw[ec]at this;exact(YS this).symm
  subst this
  obtain⟨o,ho,hd⟩:=ic
  refine⟨?_,c',ec',o,hk _ _ ho,hd⟩
  rcases e3 with e3|e3|e3
  ·obtain⟨k',q1,q2⟩:=Zcw S.look e3
   rw[S.look _ h3']at q1;cases q1
   rcases q2 with q2|⟨_,q2⟩<;>cases q2
  ·exact .inl e3
  ·exact .inr e3
 ·rcases kc.one x c e with⟨_,_,q⟩|q
  ·exact⟨_,q⟩
  ·obtain⟨v,o,ho,hd⟩:=I.cell x c q
   exact⟨v,o,hk _ _ ho,hd⟩
 ·rcases kc.one x c e with⟨q,_⟩|q
  ·exact I.hok.fresh (Y5 hC (Vr q))
  ·exact I.freeC x c q
theorem Zj7{pins:List (Addr×Obj)}{s s':Shared}{σ σ':L2.St}{H H':Hp}{fp:List Addr}{N':List Str}{scope:Scope}{cl:List (Str×Addr)}{C:Addr}(I:Inv X pins σ H s)(hf:∀b∈fp,FpOk X pins H b)(J:Inv (J8 X N' scope cl C s H fp) [] σ' H' s'):
  Inv X pins σ H' s':=
 I.call' J.os J.base J.hok J.bare λb hb=>⟨(hf b hb).2.2.2.1,(hf b hb).2.1,(hf b hb).2.2.2.2.1,(hf b hb).2.2.2.2.2⟩
theorem Inv.adopt{pins:List (Addr×Obj)}{s:Shared}{σ:L2.St}{H:Hp}{D:Addr}{ho:HO}(I:Inv X pins σ H s)(f:FpOk X pins H D)(a:JQ X.prog X.w (upd H D ho) s.heap D ho):Inv X pins σ (upd H D ho) s:=by
 obtain⟨f0,f1,f2,f3,f4,f5⟩:=f
 have hne:∀b u,H b=some u->b≠D:=λb u e z=>by subst z;rw[f0]at e;cases e
 refine I.call' (ch:=[D]) rfl ⟨λb o e _ _ _=>e,λb o e _ _ _=>⟨o.slots,e⟩,λb o e n hx=>by rw[Z3 (by simpa using hx)];exact n,λb o e _=>⟨o,e⟩,λb xs e=>by rw[Z3 (hne b _ e)];exact e,λb o u e=>by rw[Z3 (hne b _ e)];exact e,
  λb ps e=>⟨#[],by rw[Z3 (hne b _ e),e];simp⟩⟩ (λb u e=>?_) I.bare λb hb=>?_
 ·by_cases hb:b=D
  ·subst hb
   rw[Xv]at e;cases e
   exact a
  ·rw[Z3 hb]at e
   exact(I.hok b u e).stay (λ_ _ _ q=>q) (λc q=>by rw[Z3 (hne c _ q)];exact q) λc xs q=>by rw[Z3 (hne c _ q)];exact q
 ·have e:b=D:=by simpa using hb
  subst e
  exact⟨f3,f1,f4,f5⟩
noncomputable def ZmP(X:Cx)(xr:XR)(call:Nat->List W->Mem->Res W)(gv:List T)(N':List Str)(scope:Scope)(elt target:Expr)(ifs:List Expr)(gens:List WQ)(tg:Tg)(cs:Es)(inner:E):Prop:=
 ∀(cl:List (Str×Addr)) (C:Addr) (s2:Shared) (H2:Hp) (fp:List Addr),PG (J8 X N' scope cl C s2 H2 fp) target (gT X.K tg)/\PTs (J8 X N' scope cl C s2 H2 fp) call gv xr cs ifs/\Ins xr (J8 X N' scope cl C s2 H2 fp) call gv elt gens 0 inner
noncomputable def envC(own:Nat)(keep:List Nat)(env:Env):Env:=Yo own none++keep.map λi=>(env[i]?).join
noncomputable def stC(own:Nat)(keep:List Nat)(σ:L2.St):L2.St:=Yo own none++keep.map λi=>(σ[i]?).join
theorem envC_R{K:Frag}{cm:List Addr}{m:Mem}{H:Hp}{env:Env}{σ:L2.St}{own:Nat}{keep:List Nat}(h:EnvR K cm m H env σ):EnvR K cm m H (envC own keep env) (stC own keep σ):=λi w e=>by
 unfold envC at e
 unfold stC
 by_cases hi:i<own
 ·rw[YC (by simpa using hi),Ug]at e
  split at e<;>cases e
 ·rw[YG (by simpa using hi),Uy,Y4]at e
  rw[YG (by simpa using hi),Uy,Y4]
  cases q:keep[i-own]? with
  |none=>rw[q]at e;cases e
  |some j =>
   rw[q]at e
   have e':(env[j]?).join=some w:=YS e
   cases r:env[j]? with
   |none=>rw[r]at e';cases e'
   |some o =>
    rw[r]at e'
    have e2:=e'
    subst e2
    obtain⟨v,h1,h2⟩:=h j w r
    exact⟨v,by simp[h1],h2⟩
theorem ZiC{α:Type}{r:Res α}{x:α}{m:Mem}(h:r.only=.ok x m):r=.ok x m:=by
 cases r with
 |ok _ _=>exact h
 |exc _ _=>cases h
 |stuck=>cases h
theorem ZeE{α β:Type}{r:Res α}{f:α->Mem->Res β}(hf:∀x m e m',f x m≠.exc e m')(e:Exc)(m':Mem):r.only.bind f≠.exc e m':=by
 cases r with
 |ok x m=>exact hf x m e m'
 |exc _ _=>intro h;cases h
 |stuck=>intro h;cases h
theorem ZeQ{own:Nat}{keep:List Nat}{it:E}{tg:Tg}{cs:Es}{inner:E}{env:Env}{m:Mem}(e:Exc)(m':Mem):ev call gv (.comp own keep it tg cs inner) env m≠.exc e m':=by
 unfold ev
 refine ZeE (λx m0 e m'=>?_) e m'
 cases h:Z5 x m0 with
 |ok ts m1 =>
  refine ZeE (λout m2 e m'=>?_) e m'
  split<;>(intro h;cases h)
 |exc _ _ =>
  unfold Z5 at h
  split at h<;>first
   |(cases h;done)
   |(split at h<;>cases h)
 |stuck=>intro h;cases h
theorem ZgZ{own:Nat}{keep:List Nat}{it:E}{tg:Tg}{cs:Es}{inner:E}{env:Env}{m m':Mem}{w:W}(h:ev call gv (.comp own keep it tg cs inner) env m=.ok w m'):∃out,w=.t (.lst out):=by
 unfold ev at h
 obtain⟨_,_,_,h⟩:=Zz h
 obtain⟨_,_,_,h⟩:=Zz h
 obtain⟨out,_,_,h⟩:=Zz h
 split at h<;>cases h
 exact⟨_,rfl⟩
theorem Zel{prog:YQ}{w:World}{A:Around}{R:Result->Shared->Prop}{s:Shared}{node:Expr}{d:Nat}{target iter:Expr}{ifs:List Expr}{it acc:Value}{env:Wv}(hg:(YbJ node)[d]?=some ⟨target,iter,ifs,0⟩)(hd:(model prog w).den (.compStart node d it acc env)=(Ybs node d it acc env).onRaise (λx=>do YaR x env;VN theWindowsPlace))(hA:A.under (.compStart node d it acc env)=A)(h0:Vb (model prog w) A (.compLoop node d it acc env) R s)(h:wpAny (model prog w) A (pyIter it) (λit' s'=>Vb (model prog w) A (.compLoop node d it' acc env) R s') (notedBy (model prog w) A env λx s'=>R (.error x) s') s):
  Vb (model prog w) A (.compStart node d it acc env) R s:=by
 refine V0 ?_
 rw[hd,hA]
 refine wpAny_notedAt ?_
 unfold Ybs
 rw[hg]
 refine Yb (Gf (wpAny_ite ?_))
 split
 ·first
   |exact Yb (Yd (Yd (YL rfl h0)))
   |exact Yd (YL rfl h0)
 ·first
   |exact Yb (Vo (Yb (Ux (Yb (Ul h (λit' s' h'=>Yd (YL rfl h')) λ_ _ x=>x)))))
   |(refine Yb (Vo ?_);show wpAny _ _ (VN iter.pos >>= _) _ _ s;exact Yb (Ux (Yb (Ul h (λit' s' h'=>Yd (YL rfl h')) λ_ _ x=>x))))
theorem Zj9{node target iter:Expr}{ifs:List Expr}{gs:List WQ}{scope:Scope}{pos':Pos}{N':List Str}{own:Nat}{keep:List Nat}{it:E}{tg:Tg}{cs:Es}{inner:E}{use:Option (Value->Sem Unit)}{nw:Sem Value}{oN:Obj}{Acc:Addr->Heap->List V->Prop}(hc:X.calm=true)(S:CompSc X N' scope)(hown:N'.length=own+keep.length)(hkeep:∀(i:Nat) x,N'[own+i]?=some x->∃j,keep[i]?=some j/\X.N[j]?=some x/\(x,Wd)∈scope.names)(hlocal:∀x∈scope.names,x.2=NameKind.local->scope.names.lookup x.1=some .local)(pi:PI X target iter (tI X.K call gv xr it))(hfs:∀x,W2 iter X.env x=pure x)(hcl:YbJ node=⟨target,iter,ifs,0⟩::gs)(hal:oN.isFreed=false)(hd:∀it acc env,(model X.prog X.w).den (.compStart node 0 it acc env)=(Ybs node 0 it acc env).onRaise (λx=>do YaR x env;VN theWindowsPlace))(hA:∀it acc env,X.A.under (.compStart node 0 it acc env)=X.A)(hnw:∀{A:Around}{E:Value->Shared->Prop}{s:Shared}{Q:Value->Shared->Prop},Q (.ref s.heap.objs.size) { s with heap:=s.heap.push oN }->wpAny (model X.prog X.w) A nw Q E s)(h0:∀{h:Heap}{D:Addr},h.get? D=some oN->Acc D h [])(hdis:∀i∈tgS tg,i∉innS inner)(hsl:∀i∈tgS tg++innS inner,i<own){pins:List (Addr×Obj)}{s:Shared}{σ:L2.St}{H:Hp}{cm:List Addr}{m m':Mem}{env:Env}{out:List T}{Q:Value->Shared->Prop}(I:Inv X pins σ H s)(hE:EnvR X.K cm m H env σ)(M:MemR X.K cm m H)(loop:∀(cl:List (Str×Addr)) (C:Addr) (s2:Shared) (H2:Hp) (fp:List Addr) {D:Addr}{pins:List (Addr×Obj)}{s:Shared}{σ:L2.St}{H:Hp}{cm:List Addr}{m m':Mem}{env:Env}{ts:List T}{J:It}{it:Addr}{fp':List Addr}{tn:Nat->Heap->Prop},Inv (J8 X N' scope cl C s2 H2 fp) pins σ H s->FpOk (J8 X N' scope cl C s2 H2 fp) pins H D->Acc D s.heap [] ->
   Turn X.prog X.w X.K target J fp' it tn->tn 0 s.heap->(∀b∈fp',FpOk (J8 X N' scope cl C s2 H2 fp) pins H b)->D∉fp'->EnvR X.K cm m H env σ->(∀i∈tgS tg++innS inner,∀w,env[i]?≠some (some w))->MemR X.K cm m H->Src X.K cm m H J ts->Jg (turnF call gv cs inner) tg ts env m=.ok out m'->out.length<=lim ->
   Vb (model X.prog X.w) X.A (.compLoop node 0 (.ref it) (.ref D) (compEnvC scope cl C X.env)) (λr s'=>r=.ok .next/\ZmQ (J8 X N' scope cl C s2 H2 fp) (Acc D) D (tgS tg++innS inner) pins σ cm m H [] out m' s') s)(ok:ev call gv (.comp own keep it tg cs inner) env m=.ok (.t (.lst out)) m')(fin:∀(D C:Addr) (s3:Shared) (H3:Hp) (cm3:List Addr) (vs:List V),Inv X pins σ H3 s3->Acc D s3.heap vs->FpOk X pins H3 D->X.s₀.heap.objs.size<=D->X.K.lookup D=none->Ext cm m H cm3 m' H3->MemR X.K cm3 m' H3->RTs X.K cm3 m' H3 out vs->(∃mm,s3.heap.Ns C mm)->FpOk X pins H3 C->D≠C ->
   compPost (model X.prog X.w) X.A X.xe use Q (.ref D) C (.ok .next) s3):
  wpAny (model X.prog X.w) X.A (comprehension node scope X.env pos' nw false (eval iter X.env) use) Q X.xe s:=by
 obtain⟨cl0,hclos,hcl1,hcl2⟩:=Zkc λx hx=>I.ok.has x (S.free x hx)
 unfold ev at ok
 obtain⟨w1,m1,ok0,ok2⟩:=Zz ok
 have ok1:=ZiC ok0
 obtain⟨ts,m2,ok3,ok4⟩:=Zz ok2
 obtain⟨out',m3,ok5,ok6⟩:=Zz ok4
 split at ok6<;>cases ok6
 rename_i hlen
 have ok5':=ZiC ok5
 have hz:=ZF
 refine wpAny_comprehension_free hcl hfs hclos S.kind hlocal (thn (pi pins s σ H (λJ H1=>∃cm1,Ext cm m H cm1 m1 H1/\MemR X.K cm1 m1 H1/\Src X.K cm1 m2 H1 J ts) I ⟨env,cm,m,hE,M,by
   rw[ok1]
   exact λcm1 H1 x M1=>⟨ts,m2,ok3,λJ hs=>⟨cm1,x,M1,hs⟩⟩⟩) λxv s1 h1=>thn h1 λitv s2 h2=>?_)
 obtain⟨it2,fp,tn,J,H2,rfl,I2,T2,st2,f2,cm2,x2,M2,hs2⟩:=h2
 refine hnw (Zi2 hcl1 hcl2 (λx c e=>?_) I2.ok.inj λh₁ cl hns₁ hsb₁ kc=>?_)
 ·obtain⟨v,q⟩:=I2.cell x c e
  exact YD q.lt (by show _<=(Heap.push _ _).objs.size;rw[Ws];exact GQ _)
 dsimp only at hns₁ hsb₁ kc ⊢
 generalize hH2:s2.heap.push oN=P2 at hns₁ hsb₁ kc ⊢
 have hCs:P2.objs.size=s2.heap.objs.size+1:=by rw[<-hH2,Ws]
 have hDC:s2.heap.objs.size≠P2.objs.size:=by omega
 have below:∀b,b<s2.heap.objs.size->b≠P2.objs.size:=λb hb=>by omega
 have old:=λb o e=>hsb₁ b o (hH2▸Ye _ e)
 have hacc:=hsb₁ _ _ (hH2▸Yy _ hal)
 have flt:∀b∈fp,b<s2.heap.objs.size:=λb hb=>by
  obtain⟨o,e,_⟩:=T2.obj _ _ st2 b hb
  exact Yx e
 have hb3:=ZdY M2 ok3
 have E2:=(hE.ext x2 M M2).ext hb3.1 M2 hb3.2
 have hσl:(stC own keep σ).length=N'.length:=by unfold stC;simp[hown]
 have J0:Inv (J8 X N' scope cl P2.objs.size s2 H2 fp) [] (stC own keep σ) H2 { s2 with heap:=h₁ }:=
  Zj8 I2 S f2 flt (by omega) hns₁ old kc hσl λi x v e1 e2=>by
   unfold stC at e2
   by_cases hi:i<own
   ·rw[YC (by simpa using hi),Ug]at e2
    split at e2<;>cases e2
   ·rw[YG (by simpa using hi),Uy,Y4]at e2
    have ei:N'[own+(i-own)]?=some x:=by rw[show own+(i-own)=i by omega];exact e1
    obtain⟨j,q1,q2,q3⟩:=hkeep (i-own) x ei
    rw[q1]at e2
    have e3:(σ[j]?).join=some v:=YS e2
    refine⟨j,q2,?_,q3⟩
    cases r:σ[j]? with
    |none=>rw[r]at e3;cases e3
    |some o=>rw[r]at e3;exact congrArg some e3
 have fD:FpOk (J8 X N' scope cl P2.objs.size s2 H2 fp) [] H2 s2.heap.objs.size:=by
  refine⟨I2.hok.fresh (Yn _),hDC,λz=>?_,.inr (Yn _),λx c e z=>?_,λp hp=>absurd (hp) (by simp)⟩
  ·have:=I2.stkSub _ z
   rcases Ym.mp this with q|q
   ·exact absurd I2.lt (by rw[<-q];exact Wn _)
   ·exact I2.nofs (Yn _) q
  ·rcases kc.one x c e with⟨q,_⟩|q
   ·exact absurd q (by rw[z,hCs];exact Yby.mpr (GQ _))
   ·obtain⟨v,q⟩:=I2.cell x c q
    exact absurd q.lt (by rw[z];exact Wn _)
 have fF:∀b∈fp,FpOk (J8 X N' scope cl P2.objs.size s2 H2 fp) [] H2 b:=λb hb=>by
  refine⟨(f2 b hb).1,below b (flt b hb),λz=>?_,.inl hb,kc.ne (YD (flt b hb) (by rw[hCs];exact GQ _)) (f2 b hb).2.2.2.2.1,λp hp=>absurd (hp) (by simp)⟩
  rcases Ym.mp (I2.stkSub b z)with q|q
  ·exact(f2 b hb).2.1 q
  ·exact(f2 b hb).2.2.1 q
 have st2':=T2.keep _ _ _ st2 λb _ o e=>old b o e
 have hDf:s2.heap.objs.size∉fp:=λz=>absurd (flt _ z) (Wn _)
 have hnone:∀i∈tgS tg++innS inner,∀w,(envC own keep env)[i]?≠some (some w):=λi hi w e=>by
  unfold envC at e
  rw[YC (by simpa using hsl i hi),Ug]at e
  split at e<;>cases e
 have go:=loop cl P2.objs.size s2 H2 fp J0 fD (h0 hacc) T2 st2' fF hDf (envC_R E2) hnone hb3.2 hs2 ok5' hlen
 have fine:∀r s3,(r=.ok .next/\ZmQ (J8 X N' scope cl P2.objs.size s2 H2 fp) (Acc s2.heap.objs.size) s2.heap.objs.size (tgS tg++innS inner) [] (stC own keep σ) cm2 m2 H2 [] out m3 s3)->compPost (model X.prog X.w) X.A X.xe use Q (.ref s2.heap.objs.size) P2.objs.size r s3:=λr s3 ⟨hr,σ3,H3,cm3,vs3,J3,x3,M3,r3,a3,ag3,d3⟩=>by
  subst hr
  rw[Uc]at a3
  obtain⟨x4,M4,sm⟩:=ZbY M2 ok3 x3 M3
  have I3:=Zj7 I2 f2 J3
  have fX:∀b,s2.heap.objs.size<=b->∀H',H' b=none->FpOk X pins H' b:=λb hb H' hn=>I2.fpOk hb hn
  obtain⟨mm,hmm,_⟩:=J3.loc
  refine fin s2.heap.objs.size P2.objs.size s3 H3 cm3 vs3 I3 a3 (fX _ (Yn _) _ d3) I2.sz ?_ (x2.trans x4) M4 (Zt (λ_ _ z=>sm _ _ z) r3) ⟨mm,hmm⟩ (fX _ (by omega) _ J3.free) hDC
  cases q:X.K.lookup s2.heap.objs.size with
  |none=>rfl
  |some o=>exact absurd (Yx (I2.kIn _ _ q)) (Wn _)
 exact GX (Zel (by rw[hcl];rfl) (hd _ _ _) (hA _ _ _) go (T2.self X.A 0 { s2 with heap:=h₁ } _ _ st2' go)) fine
theorem Zg0{elt target iter:Expr}{ifs:List Expr}{gs:List WQ}{scope:Scope}{pos pos':Pos}{N':List Str}{own:Nat}{keep:List Nat}{it:E}{tg:Tg}{cs:Es}{inner:E}{use:Option (Value->Sem Unit)}(hc:X.calm=true)(S:CompSc X N' scope)(hown:N'.length=own+keep.length)(hkeep:∀(i:Nat) x,N'[own+i]?=some x->∃j,keep[i]?=some j/\X.N[j]?=some x/\(x,Wd)∈scope.names)(hlocal:∀x∈scope.names,x.2=NameKind.local->scope.names.lookup x.1=some .local)(pi:PI X target iter (tI X.K call gv xr it))(hfs:∀x,W2 iter X.env x=pure x)(hY:ZmP X xr call gv N' scope elt target ifs (⟨target,iter,ifs,0⟩::gs) tg cs inner)(hdis:∀i∈tgS tg,i∉innS inner)(hsl:∀i∈tgS tg++innS inner,i<own){pins:List (Addr×Obj)}{s:Shared}{σ:L2.St}{H:Hp}{cm:List Addr}{m m':Mem}{env:Env}{out:List T}{Q:Value->Shared->Prop}(I:Inv X pins σ H s)(hE:EnvR X.K cm m H env σ)(M:MemR X.K cm m H)(ok:ev call gv (.comp own keep it tg cs inner) env m=.ok (.t (.lst out)) m')(fin:∀(D C:Addr) (s3:Shared) (H3:Hp) (cm3:List Addr) (vs:List V),Inv X pins σ (upd H3 D (.lst vs)) s3->H3 D=none->X.K.lookup D=none->Ext cm m H cm3 m' H3->MemR X.K cm3 m' H3->RTs X.K cm3 m' H3 out vs->(∃mm,s3.heap.Ns C mm)->FpOk X pins (upd H3 D (.lst vs)) C ->
   compPost (model X.prog X.w) X.A X.xe use Q (.ref D) C (.ok .next) s3):
  wpAny (model X.prog X.w) X.A (comprehension (.ListComp elt (⟨target,iter,ifs,0⟩::gs) scope pos) scope X.env pos' (newList []) false (eval iter X.env) use) Q X.xe s:=
 Zj9 hc S hown hkeep hlocal pi hfs rfl rfl (λ_ _ _=>rfl) (λ_ _ _=>rfl) (λh=>Wt h) (λh=>⟨Gr _,[],0,.nil,h⟩) hdis hsl I hE M
  (λcl C s2 H2 fp D pins s σ H cm m m' env ts J it fp' tn J0 fD h0 hT ht hf hDf hE hn M hs ok hl=>let⟨pg,pt,hin⟩:=hY cl C s2 H2 fp
   Zp6 (Y:=J8 X N' scope cl C s2 H2 fp) hc (λ_ _ z=>z) hin rfl pg pt hdis (λi hi=>by
    rw[hown]
    have:=hsl i hi
    omega) J0 fD h0 hT ht hf hDf hE hn M hs ok (by rw[Y0,YaS];exact hl)) ok
  λD C s3 H3 cm3 vs I3 a3 f3 _ k3 x3 M3 r3 n3 c3 ne=>fin D C s3 H3 cm3 vs (Inv.adopt I3 f3 a3) f3.1 k3 x3 M3 r3 n3 ⟨by rw[Z3 (Uo ne)];exact c3.1,c3.2⟩
structure CompK (X:Cx) (xr:XR) (call:Nat->List W->Mem->Res W) (gv:List T) (N':List Str) (scope:Scope) (own:Nat) (keep:List Nat) (elt target iter:Expr) (ifs:List Expr) (gs:List WQ) (it:E) (tg:Tg) (cs:Es) (inner:E):Prop where
 sc:CompSc X N' scope
 hown:N'.length=own+keep.length
 hkeep:∀(i:Nat) x,N'[own+i]?=some x->∃j,keep[i]?=some j/\X.N[j]?=some x/\(x,Wd)∈scope.names
 pi:PI X target iter (tI X.K call gv xr it)
 fs:∀x,W2 iter X.env x=pure x
 ins:ZmP X xr call gv N' scope elt target ifs (⟨target,iter,ifs,0⟩::gs) tg cs inner
 dis:∀i∈tgS tg,i∉innS inner
 slt:∀i∈tgS tg++innS inner,i<own
variable{elt target iter:Expr}{ifs:List Expr}{gs:List WQ}{scope:Scope}{pos:Pos}{N':List Str}{own:Nat}{keep:List Nat}{it:E}{tg:Tg}{cs:Es}{inner:E}
theorem QF(hc:X.calm=true)(k:CompK X xr0 call gv N' scope own keep elt target iter ifs gs it tg cs inner):
  PE X (.ListComp elt (⟨target,iter,ifs,0⟩::gs) scope pos) (tE X.K call gv xr (.comp own keep it tg cs inner)):=by
 rintro pins s σ H Q I ⟨env,cm,m,hE,M,ho⟩
 cases h:ev call gv (.comp own keep it tg cs inner) env m with
 |stuck=>rw[h]at ho;exact ho.elim
 |exc e m'=>exact absurd h (ZeQ e m')
 |ok w m' =>
  obtain⟨out,rfl⟩:=ZgZ h
  rw[h]at ho
  rw[eval_ListComp]
  refine Zg0 hc k.sc k.hown k.hkeep (λx hx e=>by rw[k.sc.look x hx,e]) k.pi k.fs k.ins k.dis k.slt I hE M h ?_
  rintro D C s3 H3 cm3 vs I3 hD _ x3 M3 r3 ⟨mm,hm⟩ fC
  refine⟨mm,hm,λh' hs'=>?_⟩
  have I4:=I3.turned (t':=s3.toks) (λb o hb e=>(hs'.2 b hb).trans e) fC.1 fC.2.1 fC.2.2.2.1 fC.2.2.2.2.1 fC.2.2.2.2.2
  exact⟨.ref D,_,I4,rfl,OkR.to ho (x3.trans (.new hD)) (M3.new hD) _ (RT.newLst M3 r3 hD)⟩
theorem Zok{i:Nat}{x:Str}{px spos:Pos}(hc:X.calm=true)(k:CompK X xr0 call gv N' scope own keep elt target iter ifs gs it tg cs inner)(hN:X.N.Nodup)(hi:X.N[i]?=some x)(hx:X.env.scope.names.lookup x=some .local)(hsw:Yaj (.ListComp elt (⟨target,iter,ifs,0⟩::gs) scope pos) (some (.Name x px)) spos.line X.env=pure true){pins:List (Addr×Obj)}{s:Shared}{σ:L2.St}{H:Hp}{cm:List Addr}{m m':Mem}{env:Env}{out:List T}{D:Ends}(I:Inv X pins σ H s)(hE:EnvR X.K cm m H env σ)(M:MemR X.K cm m H)(ok:ev call gv (.comp own keep it tg cs inner) env m=.ok (.t (.lst out)) m')(q:∀(p:Addr) (H3:Hp) (cm3:List Addr) (vs:List V),H3 p=none->X.K.lookup p=none->Ext cm m H cm3 m' H3->MemR X.K cm3 m' H3->RTs X.K cm3 m' H3 out vs->D.nx (σ.set i (some (.ref p))) (upd H3 p (.lst vs))):
  wpAny (model X.prog X.w) X.A (exec (.Assign [.Name x px] (.ListComp elt (⟨target,iter,ifs,0⟩::gs) scope pos) spos) X.env) (SP X pins D) X.xe s:=by
 rw[exec_Assign_Name_used _ _ _ _ hsw]
 refine Yb (Ux (Yb ?_))
 refine Yb (thn (Zg0 hc k.sc k.hown k.hkeep (λx hx e=>by rw[k.sc.look x hx,e]) k.pi k.fs k.ins k.dis k.slt I hE M ok ?_) λ_ s' h=>Yd (Yd h))
 rintro p C s3 H3 cm3 vs I3 hD hK x3 M3 r3 ⟨mm,hm⟩ fC
 refine wpAny_assign_Name (Zf3 I3 hN hi (.inl hx) (v:=.ref p) rfl (λs4 I4 ⟨a,hs4,ha⟩=>?_) (.inr hx))
 have hac:C≠a:=by
  rcases ha with rfl|ha
  ·exact fC.2.1
  ·exact λz=>fC.2.2.2.2.1 x a ha z.symm
 refine⟨mm,hm.sameBut hs4 hac,λh' hs'=>?_⟩
 have I5:=I4.turned (t':=s4.toks) (λb o hb e=>(hs'.2 b hb).trans e) fC.1 fC.2.1 fC.2.2.2.1 fC.2.2.2.2.1 fC.2.2.2.2.2
 exact⟨_,_,I5,q p H3 cm3 vs hD hK x3 M3 r3⟩
end
section
variable{K:Frag}{cm:List Addr}{m:Mem}{H:Hp}{xr:XR}{X:Cx}{call:Nat->List W->Mem->Res W}{gv:List T}
theorem RTs.nil_iff{ts:List T}{vs:List V}(h:RTs K cm m H ts vs):(!ts.isEmpty)=!vs.isEmpty:=by cases h<;>rfl
theorem Zoz{w:W}{v:V}{t:T}(M:MemR K cm m H)(r:RW K cm m H w v)(e:view w m=some t)(f:fitT t=true):TruV K v H (Zij t):=by
 have hz:=ZF
 cases t with
 |lst ts =>
  obtain⟨a,vs,rfl,h1,h2⟩:=ZD M r e
  exact .inl ⟨vs,.of h1,h2.nil_iff⟩
 |non=>cases(Zg r e (λ_ z=>by cases z)).vnon;exact rfl
 |bl b=>cases(Zg r e (λ_ z=>by cases z)).vbl;exact rfl
 |int i=>cases(Zg r e (λ_ z=>by cases z)).vint;exact rfl
 |str cs =>
  cases(Zg r e (λ_ z=>by cases z)).vstr
  have hl:=of_decide_eq_true f
  refine⟨by rw[Zaq];omega,?_⟩
  rw[Zaq]
  cases cs with
  |nil=>rfl
  |cons c cs =>
   show true=_
   symm
   simp
   omega
 |tup ts =>
  obtain⟨a,vs,rfl,h1,h2⟩:=(Zg r e (λ_ z=>by cases z)).itup
  exact .inr (.inl ⟨vs,h1,h2.nil_iff⟩)
 |dct ks ts =>
  have h:=Zg r e (λ_ z=>by cases z)
  cases h with
  |@dct a ks ts vs h1 h2 h3 h4 h5 =>
   refine .inr (.inr ⟨_,h1,?_⟩)
   cases ks with
   |nil=>rfl
   |cons k ks =>
    cases vs with
    |nil=>simp at h3
    |cons v vs=>rfl
 |scr ns =>
  obtain⟨a,rfl,h1⟩:=(Zg r e (λ_ z=>by cases z)).vscr
  exact .inl ⟨_,h1.sq,by cases ns<;>rfl⟩
theorem ZkG{w:W}{k:Bool->List Addr->Mem->Hp->Prop}(h:OkR K (QK w m) xr cm m H k):∃t,view w m=some t/\fitT t=true/\OkR K (.ok (Zij t) m) xr cm m H k:=by
 unfold QK at h
 split at h
 ·split at h
  ·exact⟨_,‹_›,‹_›,h⟩
  ·exact h.elim
 ·exact h.elim
theorem ZfR{w:W}{k:Bool->List Addr->Mem->Hp->Prop}(h:OkR K (ZcR w m) xr cm m H k):∃b,w=.t (.bl b)/\OkR K (.ok b m) xr cm m H k:=by
 unfold ZcR at h
 split at h
 ·exact⟨_,rfl,h⟩
 ·exact h.elim
theorem pt_of{e:Expr}{a:E}(h:PE X e (tE X.K call gv xr a))(he:∀whole,isTrue e X.env whole=(do let v <-whole;VN e.pos;YaM [v] (truthy v))):PT X e (tT X.K call gv xr a):=by
 refine PT.mono (Znf h he) λσ H Q ⟨env,cm,m,hE,M,ho⟩=>⟨env,cm,m,hE,M,ho.bind.mono λw cm1 m1 H1 x1 M1 o1 v rv=>?_⟩
 obtain⟨t,e1,f1,o2⟩:=ZkG o1
 exact⟨Zij t,Zoz M1 rv e1 f1,OkR.now o2 M1⟩
theorem ZpP{a b:Expr}{rest:List Expr}{pos:Pos}{ea eb:E}(ha:PE X a (tE X.K call gv xr ea))(hb:PE X (.BoolOp .And (b::rest) pos) (tE X.K call gv xr eb)):PE X (.BoolOp .And (a::b::rest) pos) (tE X.K call gv xr (.and ea eb)):=by
 refine PE.mono (pe_and ha hb) ?_
 rintro σ H Q ⟨env,cm,m,hE,M,ho⟩
 unfold ev at ho
 refine⟨env,cm,m,hE,M,ho.bind.mono λw cm1 m1 H1 x1 M1 o1 v rv=>?_⟩
 obtain⟨c,rfl,o2⟩:=ZfR o1.bind
 cases RT.vbl rv
 have o3:=OkR.now o2 M1
 refine⟨c,rfl,?_⟩
 cases c with
 |true=>exact iteT ⟨env,cm1,m1,hE.ext x1 M M1,M1,o3⟩
 |false=>exact iteF (OkR.now o3 M1 _ (.bl false))
theorem ZoF{a b:Expr}{rest:List Expr}{pos:Pos}{ea eb:E}(ha:PE X a (tE X.K call gv xr ea))(hb:PE X (.BoolOp .Or (b::rest) pos) (tE X.K call gv xr eb)):PE X (.BoolOp .Or (a::b::rest) pos) (tE X.K call gv xr (.or ea eb)):=by
 refine PE.mono (pe_or ha hb) ?_
 rintro σ H Q ⟨env,cm,m,hE,M,ho⟩
 unfold ev at ho
 refine⟨env,cm,m,hE,M,ho.bind.mono λw cm1 m1 H1 x1 M1 o1 v rv=>?_⟩
 obtain⟨c,rfl,o2⟩:=ZfR o1.bind
 cases RT.vbl rv
 have o3:=OkR.now o2 M1
 refine⟨c,rfl,?_⟩
 cases c with
 |true=>exact iteT (OkR.now o3 M1 _ (.bl true))
 |false=>exact iteF ⟨env,cm1,m1,hE.ext x1 M M1,M1,o3⟩
theorem Zpz{a:Expr}{pos:Pos}{ea:E}(ha:PE X a (tE X.K call gv xr ea)):PE X (.UnaryOp .Not a pos) (tE X.K call gv xr (.not ea)):=by
 refine PE.mono (pe_not ha) ?_
 rintro σ H Q ⟨env,cm,m,hE,M,ho⟩
 unfold ev at ho
 refine⟨env,cm,m,hE,M,ho.bind.mono λw cm1 m1 H1 x1 M1 o1 v rv=>?_⟩
 obtain⟨c,rfl,o2⟩:=ZfR o1.bind
 cases RT.vbl rv
 exact⟨c,rfl,OkR.now (OkR.now o2 M1) M1 _ (.bl _)⟩
theorem Zhp{a:E}{σ:L2.St}{H:Hp}{env:Env}{cm:List Addr}{m:Mem}{f:Bool->Mem->Res W}{Q:Bool->Hp->Prop}(hE:EnvR K cm m H env σ)(M:MemR K cm m H)(ho:OkR K (((ev call gv a env m).bind λx m=>(ZcR x m).bind f).bind QK) xr cm m H λk _ _ H'=>Q k H'):
  tT K call gv xr a σ H λc H1=>∃cm1 m1,Ext cm m H cm1 m1 H1/\MemR K cm1 m1 H1/\OkR K ((f c m1).bind QK) xr cm1 m1 H1 λk _ _ H'=>Q k H':=by
 refine⟨env,cm,m,hE,M,?_⟩
 cases h:ev call gv a env m with
 |stuck=>rw[h]at ho;exact ho.elim
 |exc e m'=>rw[h]at ho;exact ho
 |ok w m1 =>
  rw[h]at ho
  have ho':=ho
  cases w with
  |f a=>exact ho'.elim
  |x _ _ _=>exact ho'.elim
  |o _ _ _=>exact ho'.elim
  |u=>exact ho'.elim
  |c i=>exact ho'.elim
  |t x =>
   cases x with
   |bl b=>exact λcm1 H1 x1 M1=>⟨cm1,m1,x1,M1,OkR.shift ho' x1⟩
   |_=>exact ho'.elim
theorem Zk2{a b:Expr}{rest:List Expr}{pos:Pos}{ea eb:E}(ha:PT X a (tT X.K call gv xr ea))(hb:PW X (.BoolOp .And (b::rest) pos) (tT X.K call gv xr eb)):PW X (.BoolOp .And (a::b::rest) pos) (tT X.K call gv xr (.and ea eb)):=by
 rintro whole pins s σ H Q I ⟨env,cm,m,hE,M,ho⟩
 unfold ev at ho
 obtain⟨env',cm',m',hE',M',ho'⟩:=Zhp hE M ho
 refine pw_and ha hb whole pins s σ H Q I ⟨env',cm',m',hE',M',ho'.mono λc cm1 m1 H1 _ _ ⟨cm2,m2,x2,M2,o2⟩=>?_⟩
 cases c with
 |true=>exact iteT ⟨env,cm2,m2,hE.ext x2 M M2,M2,o2⟩
 |false=>exact iteF (OkR.now (o2) M2)
theorem pw_orW{a b:Expr}{rest:List Expr}{pos:Pos}{ea eb:E}(ha:PT X a (tT X.K call gv xr ea))(hb:PW X (.BoolOp .Or (b::rest) pos) (tT X.K call gv xr eb)):PW X (.BoolOp .Or (a::b::rest) pos) (tT X.K call gv xr (.or ea eb)):=by
 rintro whole pins s σ H Q I ⟨env,cm,m,hE,M,ho⟩
 unfold ev at ho
 obtain⟨env',cm',m',hE',M',ho'⟩:=Zhp hE M ho
 refine pw_or ha hb whole pins s σ H Q I ⟨env',cm',m',hE',M',ho'.mono λc cm1 m1 H1 _ _ ⟨cm2,m2,x2,M2,o2⟩=>?_⟩
 cases c with
 |true=>exact iteT (OkR.now (o2) M2)
 |false=>exact iteF ⟨env,cm2,m2,hE.ext x2 M M2,M2,o2⟩
theorem Zph{a:Expr}{pos:Pos}{ea:E}(ha:PT X a (tT X.K call gv xr ea)):PT X (.UnaryOp .Not a pos) (tT X.K call gv xr (.not ea)):=by
 refine PT.mono (pt_not ha) ?_
 rintro σ H Q ⟨env,cm,m,hE,M,ho⟩
 unfold ev at ho
 obtain⟨env',cm',m',hE',M',ho'⟩:=Zhp hE M ho
 exact⟨env',cm',m',hE',M',ho'.mono λc cm1 m1 H1 _ _ ⟨cm2,m2,x2,M2,o2⟩=>OkR.now (o2) M2⟩
end
end Mi
namespace Mi
open PySem PySem.Spec PyProof.Rows L2
open Builtin
theorem ZcM:fillsNumberSlot (.type "tuple") "mul" = pure false:=
 PySem.fillsNumberSlot_seq F.slot_tuple_mul.lookup (by decide +kernel) F.slot_tuple_rmul.lookup (by decide +kernel)
theorem Zgj:seqRepeat? (.type "tuple")=pure (some (.builtin "tuple.__mul__")):=by
 unfold seqRepeat?
 rw[PySem.seqSlot_of (name:="__mul__") F.slot_tuple_mul.lookup (by decide +kernel),PySem.seqSlot_of (name:="__rmul__") F.slot_tuple_rmul.lookup (by decide +kernel)]
 rfl
theorem Zjj(a:Int)(t:Tok)(l:Addr)(items:Array Value)(n:Nat)(dd:Option Addr)(sl:Array (Option Value)):
  Meets (Builtin.«int.__rmul__» ⟨[.int a t,.ref l],[]⟩) (λ_ R s=>s.heap.get? l=some { cls:=.type "tuple",dict:=dd,data:=.seq items n,slots:=sl }/\R (.ok (.ret Value.notImplemented)) s):=
 .of_wp λprog w A R s h=>by obtain⟨hp,g,d,tk,os⟩:=s;obtain⟨hl,h⟩:=h;wp_walk;exact⟨_,rfl,h⟩
theorem tmul0(l:Addr)(items:Array Value)(n:Nat)(dd:Option Addr)(sl:Array (Option Value))(k:Int)(u:Tok)(h1:(decide (k < -(2^63)) || decide (k ≥ 2^63))=false)(hc:(items.isEmpty || k==1)=true):
  Meets (Builtin.«tuple.__mul__» ⟨[.ref l,.int k u],[]⟩) (λ_ R s=>s.heap.get? l=some { cls:=.type "tuple",dict:=dd,data:=.seq items n,slots:=sl }/\R (.ok (.ret (U3 l))) s):=
 .of_wp λprog w A R s h=>by obtain⟨hp,g,d,tk,os⟩:=s;obtain⟨hl,h⟩:=h;have f1:=YaG;have f2:=G7;wp_walk;refine V5 (decide_eq_false (Wl.mp h1)) ?_;wp_walk using V6 hl;exact⟨_,rfl,h⟩
theorem tmul1(l:Addr)(items:Array Value)(n:Nat)(dd:Option Addr)(sl:Array (Option Value))(k:Int)(u:Tok)(h1:(decide (k < -(2^63)) || decide (k ≥ 2^63))=false)(hc:¬(items.isEmpty || k==1)=true)(hc1:(decide (k<=0) || items.isEmpty)=true):
  Meets (Builtin.«tuple.__mul__» ⟨[.ref l,.int k u],[]⟩) (λ_ R s=>s.heap.get? l=some { cls:=.type "tuple",dict:=dd,data:=.seq items n,slots:=sl }/\R (.ok (.ret (U3 s.heap.objs.size))) { s with heap:=s.heap.push { cls:=YaW "tuple",data:=Data.seq #[] },toks:=s.toks }):=
 .of_wp λprog w A R s h=>by obtain⟨hp,g,d,tk,os⟩:=s;obtain⟨hl,h⟩:=h;have f1:=YaG;have f2:=G7;wp_walk;refine V5 (decide_eq_false (Wl.mp h1)) ?_;wp_walk using V6 hl;exact⟨_,rfl,h⟩
theorem tmul2(l:Addr)(items:Array Value)(n:Nat)(dd:Option Addr)(sl:Array (Option Value))(k:Int)(u:Tok)(h1:(decide (k < -(2^63)) || decide (k ≥ 2^63))=false)(hc:¬(items.isEmpty || k==1)=true)(hc1:¬(decide (k<=0) || items.isEmpty)=true)(hc2:¬(items.size:Int)*k>(2^63-1) / 8)(hc3:¬Tuple.tupleTooMany ((items.size:Int)*k)=true)(hz:(Yak (λx1 x2=>x1++x2) #[] (Yo k.toNat items)).size<=YJ):
  Meets (Builtin.«tuple.__mul__» ⟨[.ref l,.int k u],[]⟩) (λ_ R s=>s.heap.get? l=some { cls:=.type "tuple",dict:=dd,data:=.seq items n,slots:=sl }/\R (.ok (.ret (U3 s.heap.objs.size))) { s with heap:=s.heap.push { cls:=YaW "tuple",data:=Data.seq (Yak (λx1 x2=>x1++x2) #[] (Yo k.toNat items)) },toks:=s.toks }):=
 .of_wp λprog w A R s h=>by obtain⟨hp,g,d,tk,os⟩:=s;obtain⟨hl,h⟩:=h;have f1:=YaG;have f2:=G7;wp_walk;refine V5 (decide_eq_false (Wl.mp h1)) ?_;wp_walk using V6 hl;refine V5 (decide_eq_false hc2) ?_;wp_walk using V6 hl;exact⟨_,rfl,h⟩
section
variable{X:Cx}
theorem Zi7{n:Nat}(h:n<=YJ):¬Tuple.tupleTooMany (n:Int)=true:=by
 unfold Tuple.tupleTooMany
 intro hc
 have:=of_decide_eq_true hc
 have e:=W3
 omega
theorem ZpS:OpR X (Wy .Mult) (λx y H Q=>∃l k xs,x=.ref l/\y=.int k/\SqT X.K H l xs/\(-(2^63)<=k/\k<2^63)/\xs.length*k.toNat<=YJ/\((xs=[]∨k=1)->Q (.ref l) H) /\
  (¬(xs=[]∨k=1)->∀p,H p=none->Q (.ref p) (upd H p (.tup (Yo k.toNat xs).flatten)))):=by
 intro pins s σ H x y v u Q I rx ry h
 obtain⟨l,k,xs,rfl,rfl,hH,⟨h1,h2⟩,hz,q1,q2⟩:=h
 cases rx
 obtain⟨t,rfl⟩:=ry
 obtain⟨its,r,⟨⟨cls,dd,data,sl⟩,ho,hc,n,hd⟩,hz2⟩:=I.tuple hH
 simp only at hc hd
 subst hc hd
 have hl:=r.length
 have g1:(decide (k < -(2^63)) || decide (k ≥ 2^63))=false:=by
  rw[decide_eq_false (by omega),decide_eq_false (by omega)];rfl
 have road:∀{Q':Value->Shared->Prop},wpAny (model X.prog X.w) X.A (call (.builtin "tuple.__mul__") [.ref l,.int k t]) Q' X.xe s->wpAny (model X.prog X.w) X.A (Wy .Mult (.ref l) (.int k t)) Q' X.xe s:=λhq =>
  wpAny_binaryOp_repeat_ref (by decide) ⟨_,ho,rfl⟩ (λs'=>YaX s' k t) ZcM F.fills_int_mul VR Zgj F.slot_int_index.lookup
   (Uv VR (YaX s k t) F.entry_int_rmul (F.args_int_rmul_2 _ _) (Zjj k t l its.toArray n dd sl) ⟨ho,rfl,⟨_,ho,rfl⟩,hq⟩)
 refine road ?_
 by_cases hc:xs=[]∨k=1
 ·have g2:(its.toArray.isEmpty || k==1)=true:=by
   rcases hc with rfl|rfl
   ·cases r;rfl
   ·simp
  exact Uv YaH ⟨_,ho,rfl⟩ Yaq (Yab _ _) (tmul0 l its.toArray n dd sl k t g1 g2) ⟨ho,.ref l,H,I,rfl,q1 hc⟩
 ·have hne:=λe=>hc (.inl (r.nil_iff.mp e))
  have g2:¬(its.toArray.isEmpty || k==1)=true:=by
   intro hh
   rw[Ue]at hh
   rcases hh with hh|hh
   ·exact hne (by simpa using hh)
   ·exact hc (.inr (eq_of_beq hh))
  have fin:∀arr:Array Value,arr=(Yo k.toNat its).flatten.toArray->EP X pins σ Q (.ref s.heap.objs.size) { s with heap:=s.heap.push { cls:=.type "tuple",data:=.seq arr } }:=λarr e=>by
   subst e
   refine⟨.ref s.heap.objs.size,_,I.laid (t':=s.toks) (λb ob q=>Ye _ q) (Yn _) ?_,rfl,q2 hc _ (I.hok.fresh (Yn _))⟩
   exact⟨by rw[len_rep,Ybk];exact hz,_,r.rep k.toNat,TupP.new _ _⟩
  by_cases h0:k<=0
  ·have g3:(decide (k<=0) || its.toArray.isEmpty)=true:=by rw[decide_eq_true h0];rfl
   refine Uv YaH ⟨_,ho,rfl⟩ Yaq (Yab _ _) (tmul1 l its.toArray n dd sl k t g1 g2 g3) ⟨ho,fin #[] ?_⟩
   have:k.toNat=0:=by omega
   rw[this];rfl
  ·have g3:¬(decide (k<=0) || its.toArray.isEmpty)=true:=by
    intro hh
    rw[Ue]at hh
    rcases hh with hh|hh
    ·exact h0 (of_decide_eq_true hh)
    ·exact hne (by simpa using hh)
   have hk:(k.toNat:Int)=k:=by omega
   have hs:(its.toArray.size:Int)*k=((xs.length*k.toNat:Nat):Int):=by
    rw[Yh,<-hl,Int.natCast_mul,hk]
   have hsl:=W3
   have hf:Yak (λx1 x2=>x1++x2) #[] (Yo k.toNat its.toArray)=(Yo k.toNat its).flatten.toArray:=by
    have:=foldl_rep its k.toNat []
    rw[Uc]at this
    exact this
   refine Uv YaH ⟨_,ho,rfl⟩ Yaq (Yab _ _) (tmul2 l its.toArray n dd sl k t g1 g2 g3 (by rw[hs];omega) (by rw[hs];exact Zi7 hz) ?_) ⟨ho,fin _ hf⟩
   rw[hf,Yh,len_rep,<-hl,Ybk]
   exact hz
end
end Mi
namespace Mi
open PySem PySem.Spec PyProof.Rows L2
section
variable{K:Frag}{cm:List Addr}{m:Mem}{H:Hp}{xr:XR}{X:Cx}{call:Nat->List W->Mem->Res W}{gv:List T}
theorem Zpt{i:Nat}{x:Str}{pos:Pos}(hN:X.N[i]?=some x)(hv:Vis X.env.scope x)(hd:(x==("__debug__" : Str))=false)(hcd:(x==("__classdict__" : Str))=false):PE X (.Name x pos) (tE X.K call gv xr (.var i)):=by
 refine PE.mono (pe_var hN hv hd hcd) ?_
 rintro σ H Q ⟨env,cm,m,hE,M,ho⟩
 unfold ev at ho
 split at ho
 ·rename_i w e
  obtain⟨v,h1,h2⟩:=hE i w e
  exact⟨v,h1,OkR.now ho M v h2⟩
 ·exact ho.elim
noncomputable def Qt(K:Frag)(mg:Str->Option Value)(x:Str)(t:T):Prop:=∃u v,mg x=some u/\RelV v u/\∀cm m H,RT K cm m H t v
theorem QZ{k:Nat}{x:Str}{t:T}{pos:Pos}(hg:Gl X x)(hk:gv[k]?=some t)(ok:Qt X.K X.mg x t)(hd:(x==("__debug__" : Str))=false):PE X (.Name x pos) (tE X.K call gv xr (.gl k)):=by
 obtain⟨u,v,h1,h2,h3⟩:=ok
 refine PE.mono (ZpG hg h1 h2 hd) ?_
 rintro σ H Q ⟨env,cm,m,hE,M,ho⟩
 unfold ev at ho
 rw[hk]at ho
 exact OkR.now ho M v (h3 cm m H)
theorem ZpF{i:Int}{j pos}:PE X (.Constant (.int i) j pos) (tE X.K call gv xr (.con (.int i))):=PE.mono ZoH λσ H Q ⟨env,cm,m,hE,M,ho⟩=>by
 unfold ev at ho
 exact OkR.now ho M _ (.int i)
theorem pe_blW{b:Bool}{j pos}:PE X (.Constant (.bool b) j pos) (tE X.K call gv xr (.con (.bl b))):=PE.mono pe_bl λσ H Q ⟨env,cm,m,hE,M,ho⟩=>by
 unfold ev at ho
 exact OkR.now ho M _ (.bl b)
theorem ZpA{j pos}:PE X (.Constant .none j pos) (tE X.K call gv xr (.con .non)):=PE.mono pe_non λσ H Q ⟨env,cm,m,hE,M,ho⟩=>by
 unfold ev at ho
 exact OkR.now ho M _ .non
theorem Zde{x:Str}{cs:List Nat}(h:x.cps.toList=cs):x=⟨cs.toArray⟩:=by
 subst h
 cases x
 simp
theorem Zpv{x:Str}{cs:List Nat}{j pos}(h:x.cps.toList=cs):PE X (.Constant (.str x) j pos) (tE X.K call gv xr (.con (.str cs))):=PE.mono pe_str λσ H Q ⟨env,cm,m,hE,M,ho⟩=>by
 unfold ev at ho
 have:=OkR.now ho M _ (.str cs)
 rw[Zde h]
 exact this
theorem ZiT(cs:List Nat):∀(n:Nat) (acc:Array Nat),(Yo n cs.toArray).foldl (·++·) acc=acc++(Yo n cs).flatten.toArray
 |0,acc=>by simp
 |n+1,acc=>by
  rw[Wq,Ut,ZiT cs n,Wq,WK]
  apply Array.toList_inj.mp
  simp
theorem ZnV{cs:List Nat}{k:Int}(h:0<=k):Txt.mul ⟨cs.toArray⟩ k=⟨(repT cs k.toNat).toArray⟩:=by
 unfold Txt.mul repT
 by_cases h1:k<1
 ·have:k=0:=by omega
  subst this
  rw[if_pos h1]
  rfl
 ·rw[if_neg h1]
  by_cases h2:(k==1 || (⟨cs.toArray⟩:Str).length==0)=true
  ·rw[if_pos h2]
   rcases Ue _ _▸h2 with h3|h3
   ·have:k=1:=eq_of_beq h3
    subst this
    simp
   ·have hl:cs.toArray.size=0:=eq_of_beq h3
    have:cs=[]:=by simpa using hl
    subst this
    simp
  ·rw[if_neg h2,ZiT]
   simp
theorem mul_fits{cs:List Nat}{k:Int}(h:0<=k/\k<=64)(hl:cs.length<=1000):MulOk ⟨cs.toArray⟩ k:=by
 have e:(⟨cs.toArray⟩:Str).length=cs.length:=by show cs.toArray.size=_;simp
 have hk:k.toNat<=64:=by omega
 have hm:=Nat.mul_le_mul hl hk
 refine⟨?_,λh1 _=>?_,λh1 _=>?_⟩
 ·have a:¬k < -(2^63:Int):=by omega
  have b:¬k ≥ (2^63:Int):=by omega
  simp only[a,b,decide_false,Bool.or_self]
 ·rw[e]
  have:(1000:Int)<=(2^63-1) / k:=(Int.le_ediv_iff_mul_le (by omega)).mpr (by omega)
  omega
 ·rw[e]
  unfold Builtin.Str.tooLong
  have:=ZF
  unfold lim at this
  exact decide_eq_false (by omega)
theorem ZjG:OpR X (Wy .Mult) (r2 X.K xr (fBin .Mult)):=by
 rintro pins s σ H x y v u Q I rx ry ⟨cm,m,a,b,M,ra,rb,ho⟩
 obtain⟨t,e,ho⟩:=QX ho
 obtain⟨ta,tb,ea,eb,e⟩:=ZdZ e
 change mulT ta tb=some t at e
 unfold mulT at e
 split at e
 rotate_left
 ·cases e
 rename_i k
 split at e
 ·split at e<;>cases e
  cases(Zg ra ea (λ_ z=>by cases z)).vint
  cases(Zg rb eb (λ_ z=>by cases z)).vint
  exact ZpV pins s σ H _ _ v u Q I rx ry ⟨_,_,rfl,rfl,‹_›,ans ho M (.int _)⟩
 ·split at e<;>cases e
  rename_i ts hc
  obtain⟨p,vs,rfl,h1,r1⟩:=(Zg ra ea (λ_ z=>by cases z)).itup
  cases(Zg rb eb (λ_ z=>by cases z)).vint
  have l1:=r1.length
  have hz:=ZF
  have hl:(lim:Int)<2^63:=by unfold lim;decide
  refine ZpS pins s σ H _ _ v u Q I rx ry ⟨p,_,vs,rfl,rfl,h1,by omega,by rw[<-l1];omega,λhq=>?_,λ_ l hl=>Zd9 ho M (Zck r1 _) hl⟩
  have e:repT ts k.toNat=ts:=by
   rcases hq with rfl|rfl
   ·cases r1;simp[repT]
   ·simp[repT]
  rw[e]at ho
  exact ans ho M (.mtup h1 r1)
 ·split at e<;>cases e
  rename_i hc
  obtain⟨p,vs,rfl,h1,r1⟩:=ZD M ra ea
  cases(Zg rb eb (λ_ z=>by cases z)).vint
  have l1:=r1.length
  have hz:=ZF
  have hl:(lim:Int)<2^63:=by unfold lim;decide
  exact op_rep pins s σ H _ _ v u Q I rx ry ⟨p,_,vs,rfl,rfl,h1,by omega,by omega,by rw[<-l1];omega,λl hl=>Zba ho M (Zck r1 _) hl⟩
 ·split at e<;>cases e
  rename_i cs hc
  cases(Zg ra ea (λ_ z=>by cases z)).vstr
  cases(Zg rb eb (λ_ z=>by cases z)).vint
  obtain⟨tx,rfl⟩:=rx
  obtain⟨ty,rfl⟩:=ry
  refine SB.mul (mul_fits hc.1 hc.2) λt' k'=>⟨.str ⟨(repT cs k.toNat).toArray⟩,H,I.tok _,⟨t',?_⟩,ans ho M (.str _)⟩
  rw[ZnV hc.1.1]
 all_goals cases e
theorem op_no{op:GK}(h:∀x y,binT op x y=none):OpR X (Wy op) (r2 X.K xr (fBin op)):=by
 rintro pins s σ H x y v u Q I rx ry ⟨cm,m,a,b,M,ra,rb,ho⟩
 obtain⟨t,e,ho⟩:=QX ho
 obtain⟨ta,tb,ea,eb,e⟩:=ZdZ e
 rw[h]at e
 cases e
theorem op_bin(op:GK):OpR X (Wy op) (r2 X.K xr (fBin op)):=by
 cases op<;>first|exact ZjI|exact ZjE|exact ZjG|exact ZhI|exact ZjH|exact ZjF|exact op_no λx y=>by cases x<;>cases y<;>rfl
variable{a b c:Expr}{ea eb ec:E}{pos:Pos}
theorem ZpO{op:GK}(ha:PE X a (tE X.K call gv xr ea))(hb:PE X b (tE X.K call gv xr eb)):PE X (.BinOp a op b pos) (tE X.K call gv xr (.bin op ea eb)):=
 PE.mono (pe_op (op_bin op) ha hb) (ZkI λenv m=>by rw[ev];rfl)
theorem ZpI{op:CmpOp}(ha:PE X a (tE X.K call gv xr ea))(hb:PE X b (tE X.K call gv xr eb))(hm:Gb op b=false)(hu:X.A.units+64<cLine):PE X (.Compare a [op] [b] pos) (tE X.K call gv xr (.cmp op ea eb)):=
 PE.mono (ZpJ (ZeD hu op) ha hb hm) (ZkI λenv m=>by rw[ev];rfl)
theorem Zmg{op:CmpOp}{x y w:W}{m m':Mem}(h:fCmp op x y m=.ok w m'):∃k,w=.t (.bl k)/\m'=m:=by
 unfold fCmp at h
 cases q:((view x m).bind λx=>(view y m).bind λy=>cmpT op x y)with
 |none=>rw[q]at h;cases h
 |some k=>rw[q]at h;cases h;exact⟨k,rfl,rfl⟩
theorem Zhz{f:Env->Mem->Res W}{e:Expr}{te:TE}{a:E}(h:PT X e (Zo6 te))(hk:∀env m w m',ev call gv a env m=.ok w m'->∃k,w=.t (.bl k))(he:∀σ H Q,tE X.K call gv xr a σ H Q->te σ H Q):PT X e (tT X.K call gv xr a):=by
 refine PT.mono h λσ H Q ⟨env,cm,m,hE,M,ho⟩=>he σ H _ ⟨env,cm,m,hE,M,?_⟩
 cases q:ev call gv a env m with
 |stuck=>rw[q]at ho;exact ho.elim
 |exc e m'=>rw[q]at ho;exact ho
 |ok w m' =>
  obtain⟨k,rfl⟩:=hk env m w m' q
  rw[q]at ho
  intro cm1 H1 x1 M1 v rv
  cases RT.vbl rv
  exact⟨k,rfl,(ho) cm1 H1 x1 M1⟩
theorem Zpj{op:CmpOp}(ha:PE X a (tE X.K call gv xr ea))(hb:PE X b (tE X.K call gv xr eb))(hm:Gb op b=false)(hu:X.A.units+64<cLine):PT X (.Compare a [op] [b] pos) (tT X.K call gv xr (.cmp op ea eb)):=by
 refine Zhz (f:=λ_ _=>.stuck) (Zpk (ZeD hu op) ha hb hm) (λenv m w m' h=>?_) (ZkI λenv m=>by rw[ev];rfl)
 rw[ev]at h
 obtain⟨x,m1,_,h⟩:=Zz h
 obtain⟨y,m2,_,h⟩:=Zz h
 obtain⟨k,hk,_⟩:=Zmg h
 exact⟨k,hk⟩
theorem ZoW{op op':CmpOp}(σ:L2.St)(H:Hp)(Q:VK)(q:tE X.K call gv xr (.chn op op' ea eb ec) σ H Q):
  ZkH (r2 X.K xr (fCmp op)) (r2 X.K xr (fCmp op')) (tE X.K call gv xr ea) (tE X.K call gv xr eb) (tE X.K call gv xr ec) σ H Q:=by
 obtain⟨env,cm,m,hE,hM,ho⟩:=q
 rw[ev]at ho
 refine⟨env,cm,m,hE,hM,ho.bind.mono λw cm1 m1 H1 x1 M1 o1 v rv=>?_⟩
 refine⟨env,cm1,m1,hE.ext x1 hM M1,M1,o1.bind.mono λw2 cm2 m2 H2 x2 M2 o2 v2 rv2=>?_⟩
 refine⟨cm2,m2,w,w2,M2,rv.ext x2 M1 M2,rv2,?_⟩
 split at o2
 ·rename_i e
  have e1:fCmp op w w2 m2=.ok (.t (.bl true)) m2:=by unfold fCmp;rw[e];rfl
  rw[e1]
  intro cm3 H3 x3 M3 v3 rv3
  cases RT.vbl rv3
  refine⟨true,rfl,iteT ?_⟩
  refine⟨env,cm3,m2,(hE.ext (x1.trans (x2.trans x3)) hM M3),M3,(OkR.shift o2 x3).bind.mono λw4 cm4 m4 H4 x4 M4 o4 v4 rv4=>?_⟩
  exact⟨cm4,m4,w2,w4,M4,(rv2.ext x3 M2 M3).ext x4 M3 M4,rv4,o4⟩
 ·rename_i e
  have e1:fCmp op w w2 m2=.ok (.t (.bl false)) m2:=by unfold fCmp;rw[e];rfl
  rw[e1]
  intro cm3 H3 x3 M3 v3 rv3
  cases RT.vbl rv3
  exact⟨false,rfl,iteF (OkR.to o2 x3 M3 _ (.bl false))⟩
 ·exact o2.elim
theorem ZpK{op op':CmpOp}(ha:PE X a (tE X.K call gv xr ea))(hb:PE X b (tE X.K call gv xr eb))(hc:PE X c (tE X.K call gv xr ec))(hm:Ybo [op,op'] [b,c]=false)(hu:X.A.units+64<cLine):
 PE X (.Compare a [op,op'] [b,c] pos) (tE X.K call gv xr (.chn op op' ea eb ec)):=PE.mono (ZnL (ZeD hu op) (ZeD hu op') ha hb hc hm) ZoW
theorem Zpl{op op':CmpOp}(ha:PE X a (tE X.K call gv xr ea))(hb:PE X b (tE X.K call gv xr eb))(hc:PE X c (tE X.K call gv xr ec))(hm:Ybo [op,op'] [b,c]=false)(hu:X.A.units+64<cLine):
  PT X (.Compare a [op,op'] [b,c] pos) (tT X.K call gv xr (.chn op op' ea eb ec)):=by
 refine Zhz (f:=λ_ _=>.stuck) (Zng (ZeD hu op) (ZeD hu op') ha hb hc hm) (λenv m w m' h=>?_) ZoW
 rw[ev]at h
 obtain⟨x,m1,_,h⟩:=Zz h
 obtain⟨y,m2,_,h⟩:=Zz h
 split at h
 ·obtain⟨z,m3,_,h⟩:=Zz h
  obtain⟨k,hk,_⟩:=Zmg h
  exact⟨k,hk⟩
 ·cases h;exact⟨_,rfl⟩
 ·cases h
theorem pe_ixW(ha:PE X a (tE X.K call gv xr ea))(hb:PE X b (tE X.K call gv xr eb))(hs:ZmM b):PE X (.Subscript a b pos) (tE X.K call gv xr (.ix ea eb)):=
 PE.mono (pe_ix ix_ix ha hb hs) (ZkI λenv m=>by rw[ev];rfl)
end
section
variable{K:Frag}{cm:List Addr}{m:Mem}{H:Hp}{xr:XR}{X:Cx}{call:Nat->List W->Mem->Res W}{gv:List T}
variable{a b c e:Expr}{es:List Expr}{ea eb ec:E}{eas:Es}{pos p:Pos}
noncomputable def notStar:Expr->Bool
 |.Starred _ _=>false
 |_=>true
theorem QL{env:Wv}(h:notStar e=true):Ww (e::es) env=(false,eval e env)::Ww es env:=by
 cases e<;>first|rfl|cases h
theorem ZkN{env:Wv}:∀{es:List Expr},es.all notStar=true->(backTo pos (Ww es env)).all (λx=>!x.1)=true
 |[],_=>rfl
 |e::es,h=>by
  rw[Uz,Yg]at h
  rw[QL h.1]
  show(!false&&(backTo pos (Ww es env)).all (λx=>!x.1))=true
  rw[ZkN h.2]
  rfl
theorem Za3{env:Wv}{es:List Expr}(h:es.all notStar=true):(backTo pos (Ww es env)).any (·.1)=false:=by
 have h1:=ZkN (pos:=pos) (env:=env) h
 rw[List.any_eq_false]
 intro x hx
 have:=Yr.mp h1 x hx
 simpa using this
theorem ZpR:PA X [] (tA X.K call gv xr .nil):=PA.mono ZoI λσ H Q ⟨env,cm,m,hE,M,ho⟩=>by
 rw[evs]at ho
 exact OkR.now ho M [] .nil
theorem ZnR(ha:PE X e (tE X.K call gv xr ea))(hr:PA X es (tA X.K call gv xr eas))(hs:notStar e=true):PA X (e::es) (tA X.K call gv xr (.cons ea eas)):=by
 refine PA.mono (ZhH ha hr (QL hs)) ?_
 rintro σ H Q ⟨env,cm,m,hE,M,ho⟩
 rw[evs]at ho
 refine⟨env,cm,m,hE,M,ho.bind.mono λw cm1 m1 H1 x1 M1 o1 v rv=>?_⟩
 exact⟨env,cm1,m1,hE.ext x1 M M1,M1,o1.bind.mono λws cm2 m2 H2 x2 M2 o2 vs rvs=>OkR.now o2 M2 (v::vs) (.cons (rv.ext x2 M1 M2) rvs)⟩
theorem ZgT{w:W}{m m':Mem}{x:Exc}:frz w m≠.exc x m':=by
 intro h
 unfold frz at h
 split at h<;>first|cases h|(split at h<;>cases h)
theorem ZeN:∀{ws:List W}{m m':Mem}{x:Exc},frzs ws m≠.exc x m'
 |[],_,_,_=>λh=>by cases h
 |w::ws,m,m',x=>λh=>by
  rw[frzs]at h
  cases q:frz w m with
  |stuck=>rw[q]at h;cases h
  |exc y m1=>exact ZgT q
  |ok t m1 =>
   rw[q]at h
   have h':((frzs ws m1).bind λts m=>Res.ok (t::ts) m)=.exc x m':=h
   cases q2:frzs ws m1 with
   |stuck=>rw[q2]at h';cases h'
   |exc y m2=>exact ZeN q2
   |ok ts m2=>rw[q2]at h';cases h'
theorem Zcp:∀{ws:List W}{vs:List V}{ts:List T}{m m':Mem},MemR K cm m H->RWs K cm m H ws vs->frzs ws m=.ok ts m'->Ext cm m H cm m' H/\MemR K cm m' H/\RTs K cm m' H ts vs
 |[],_,_,_,_,M,.nil,e=>by cases e;exact⟨.refl,M,.nil⟩
 |w::ws,v::vs,ts,m,m',M,.cons r rs,e=>by
  rw[frzs]at e
  obtain⟨t,m1,e1,e⟩:=Zz e
  obtain⟨us,m2,e2,e⟩:=Zz e
  cases e
  obtain⟨x1,M1,r1⟩:=Zl9 M r e1
  obtain⟨x2,M2,r2⟩:=Zcp M1 (RWs.ext x1 M M1 rs) e2
  exact⟨x1.trans x2,M2,.cons (RT.ext x2 M1 M2 r1) r2⟩
theorem ZbZ{α:Type}{ws:List W}{f:List T->Mem->Res α}{k:α->List Addr->Mem->Hp->Prop}(h:OkR K ((frzs ws m).bind f) xr cm m H k):∃ts m',frzs ws m=.ok ts m'/\OkR K (f ts m') xr cm m H k:=by
 cases q:frzs ws m with
 |stuck=>rw[q]at h;exact h.elim
 |exc x m'=>exact absurd q ZeN
 |ok ts m'=>rw[q]at h;exact⟨ts,m',rfl,h⟩
theorem ZcD{α:Type}{c:Prop}[Decidable c]{r:Res α}{k:α->List Addr->Mem->Hp->Prop}(h:OkR K (if c then r else .stuck) xr cm m H k):c/\OkR K r xr cm m H k:=by
 by_cases hc:c
 ·rw[if_pos hc]at h;exact⟨hc,h⟩
 ·rw[if_neg hc]at h;exact h.elim
theorem Zpu{x1}(h:PA X es (tA X.K call gv xr eas)):PE X (.Tuple es x1 pos) (tE X.K call gv xr (.tup eas)):=by
 refine PE.mono (pe_tup h) ?_
 rintro σ H Q ⟨env,cm,m,hE,M,ho⟩
 rw[ev]at ho
 refine⟨env,cm,m,hE,M,ho.bind.mono λws cm1 m1 H1 x1 M1 o1 vs rvs=>?_⟩
 obtain⟨ts,m2,e2,o2⟩:=ZbZ o1
 obtain⟨hl,o3⟩:=ZcD o2
 obtain⟨x2,M2,r2⟩:=Zcp M1 rvs e2
 have l2:=r2.length
 have hz:=ZF
 exact⟨by omega,λp hp=>Zd9 (OkR.shift o3 x2) M2 r2 hp⟩
theorem ZpB(h:PA X es (tA X.K call gv xr eas)):PE X (.List es pos) (tE X.K call gv xr (.lst eas)):=by
 refine PE.mono (pe_lst h) ?_
 rintro σ H Q ⟨env,cm,m,hE,M,ho⟩
 rw[ev]at ho
 refine⟨env,cm,m,hE,M,ho.bind.mono λws cm1 m1 H1 x1 M1 o1 vs rvs=>?_⟩
 obtain⟨ts,m2,e2,o2⟩:=ZbZ o1
 obtain⟨hl,o3⟩:=ZcD o2
 obtain⟨x2,M2,r2⟩:=Zcp M1 rvs e2
 have l2:=r2.length
 have hz:=ZF
 exact⟨by omega,λp hp=>Zba (OkR.shift o3 x2) M2 r2 hp⟩
noncomputable def tLstN(K:Frag)(t:TA):TE:=λσ H Q=>t σ H λxs H1=>xs.length<=YJ/\∀p,H1 p=none->K.lookup p=none->Q (.ref p) (upd H1 p (.lst xs))
theorem Inv.notK{pins:List (Addr×Obj)}{σ:L2.St}{H:Hp}{s:Shared}(I:Inv X pins σ H s):X.K.lookup s.heap.objs.size=none:=by
 cases q:X.K.lookup s.heap.objs.size with
 |none=>rfl
 |some o=>exact absurd (Yx (I.kIn _ _ q)) (Wn _)
theorem ZpC{t:TA}(h:PA X es t):PE X (.List es pos) (tLstN X.K t):=by
 intro pins s σ H Q I hq
 refine wpAny_List_spliced (thn (h pos pins s σ H _ I hq) λus s1 ⟨xs,H1,I1,r,z,q⟩=>⟨by rw[<-r.length];exact z,?_⟩)
 have hf:=I1.hok.fresh (Yn _)
 refine⟨.ref s1.heap.objs.size,upd H1 s1.heap.objs.size (.lst xs),I1.laid (t':=s1.toks) (λb u e=>Ye _ e) (Yn _) ?_,rfl,q _ hf (Mi.Inv.notK I1)⟩
 exact⟨z,us,0,r,Yy _ rfl⟩
theorem ZpL(h:PA X es (tA X.K call gv xr eas)):PE X (.List es pos) (tE X.K call gv xr (.cel eas)):=by
 refine PE.mono (ZpC h) ?_
 rintro σ H Q ⟨env,cm,m,hE,M,ho⟩
 rw[ev]at ho
 refine⟨env,cm,m,hE,M,ho.bind.mono λws cm1 m1 H1 x1 M1 o1 vs rvs=>?_⟩
 obtain⟨ts,m2,e2,o2⟩:=ZbZ o1
 obtain⟨hl,o3⟩:=ZcD o2
 obtain⟨x2,M2,r2⟩:=Zcp M1 rvs e2
 have l2:=r2.length
 have hz:=ZF
 refine⟨by omega,λp hp hk=>?_⟩
 obtain⟨x3,M3,r3⟩:=Zc4 M2 r2 hp hk
 exact OkR.to o3 (x2.trans x3) M3 _ r3
theorem ZcF{α:Type}(xs:List α)(lo hi:Option Int):cut xs lo hi=(xs.drop (HT.sIx xs.length 0 lo)).take (HT.sIx xs.length xs.length hi-HT.sIx xs.length 0 lo):=by
 have e:∀n d o,Zj6 n d o=HT.sIx n d o:=λn d o=>by cases o<;>rfl
 unfold cut
 rw[e,e]
theorem Zcl{α β:Type}{F:α->β->Prop}{xs:List α}{ys:List β}(h:Paired F xs ys)(lo hi:Option Int):Paired F (cut xs lo hi) (cut ys lo hi):=by
 rw[ZcF,ZcF,<-h.length]
 exact Zdn _ (Zdp _ h)
theorem Zh6(xs:List V)(lo hi:Option Int):cutV xs lo hi=cut xs lo hi:=(ZcF xs lo hi).symm
theorem Zne(x y:Nat):sliceRange (x:Int) (y:Int) 1=(Wh (y-x)).map λk=>x+k:=by
 unfold sliceRange
 simp only[show((1:Int)>0)=True from by simp,if_true]
 by_cases h:(x:Int)<y
 ·have e3:(((y:Int)-x+1-1) / 1).toNat=y-x:=by first|omega|(simp;done)|(simp;omega)
  rw[if_pos h,e3]
  refine List.map_congr_left λk _=>?_
  omega
 ·have e3:y-x=0:=by omega
  rw[if_neg h,e3]
  rfl
theorem Zc2(n d:Nat)(v:Int):max 0 (min (if v<0 then v+n else v) (n:Int))=((HT.sIx n d (some v):Nat):Int):=by
 show max 0 (min (if v<0 then v+n else v) (n:Int))=(((if v<0 then(v+(n:Int)).toNat else min v.toNat n):Nat):Int)
 split<;>omega
theorem Zj0(lo hi:Option Int)(n:Nat):(Builtin.Str.strSliceIndices lo hi 1 n)=(Wh (HT.sIx n n hi-HT.sIx n 0 lo)).map λk=>HT.sIx n 0 lo+k:=by
 rw[<-Zne]
 unfold Builtin.Str.strSliceIndices
 cases lo with
 |none =>
  cases hi with
  |none=>rfl
  |some j =>
   rw[<-Zc2]
   rfl
 |some i =>
  cases hi with
  |none =>
   rw[<-Zc2]
   rfl
  |some j =>
   rw[<-Zc2,<-Zc2]
   rfl
noncomputable def fSl(w:W)(lo hi:Option Int)(m:Mem):Res W:=pur ((view w m).bind λx=>slT x lo hi) m
noncomputable def rSl(K:Frag)(xr:XR):V->Option Int->Option Int->Hp->VK->Prop:=λx lo hi H Q=>∃cm m w,MemR K cm m H/\RW K cm m H w x/\OkR K (fSl w lo hi m) xr cm m H λw cm' m' H'=>∀v,RW K cm' m' H' w v->Q v H'
theorem ZkR{prog:YQ}{w:World}{A:Around}{E:Value->Shared->Prop}{s:Shared}{cs:List Nat}{t:Tok}{sl:Addr}{vl vu:Value}{lo hi:Option Int}{Q:Value->Shared->Prop}(hs:s.heap.IsSliceOf sl vl vu .none)(pl:IsPart vl lo)(pu:IsPart vu hi)(hz:cs.length<=lim)(h:∀t' k,Q (.str ⟨(cut cs lo hi).toArray⟩ t') { s with toks:=k }):wpAny (model prog w) A (Yag (.str ⟨cs.toArray⟩ t) (.ref sl)) Q E s:=by
 have hl:=ZF
 obtain⟨l,e1,e2⟩:∃l:Option (Int×Tok),vl=partValue l/\l.map (·.1)=lo:=by
  cases pl with
  |none=>exact⟨none,rfl,rfl⟩
  |int i t=>exact⟨some (i,t),rfl,rfl⟩
 obtain⟨u,f1,f2⟩:∃l:Option (Int×Tok),vu=partValue l/\l.map (·.1)=hi:=by
  cases pu with
  |none=>exact⟨none,rfl,rfl⟩
  |int i t=>exact⟨some (i,t),rfl,rfl⟩
 subst e1 f1
 refine wpAny_getItem_str_slice (st:=none) hs (by rfl) ?_
 have pk:Ya4 ⟨cs.toArray⟩ l u none=(Wh (HT.sIx cs.length cs.length hi-HT.sIx cs.length 0 lo)).map λk=>HT.sIx cs.length 0 lo+k:=by
  unfold Ya4
  rw[e2,f2,Zaq]
  exact Zj0 lo hi cs.length
 have hn:HT.sIx cs.length cs.length hi<=cs.length:=HT.sIx_le _ _ (Yn _) hi
 have fm:((Ya4 ⟨cs.toArray⟩ l u none).filterMap ((⟨cs.toArray⟩:Str).cps[·]?))=cut cs lo hi:=by
  rw[pk,ZcF]
  by_cases hle:HT.sIx cs.length 0 lo<=HT.sIx cs.length cs.length hi
  ·have:=StrLaws.picks cs (HT.sIx cs.length cs.length hi-HT.sIx cs.length 0 lo) (HT.sIx cs.length 0 lo) (by omega)
   rw[<-this]
   simp
  ·have:HT.sIx cs.length cs.length hi-HT.sIx cs.length 0 lo=0:=by omega
   rw[this]
   simp
 unfold sliceMade
 split
 ·rename_i hw
  rw[Yg]at hw
  have q:(Ya4 ⟨cs.toArray⟩ l u none).length=cs.length:=by rw[eq_of_beq hw.2,Zaq]
  rw[pk,Yc,W7]at q
  have e:cut cs lo hi=cs:=by
   rw[ZcF]
   have:HT.sIx cs.length 0 lo=0∨cs.length=0:=by omega
   rcases this with h0|h0
   ·rw[h0]at q ⊢
    rw[Yah,q]
    exact YaI
   ·rw[List.length_eq_zero_iff]at h0
    subst h0
    simp
  have:=h t s.toks
  rw[e]at this
  exact this
 ·rw[fm]
  have hc:(cut cs lo hi).length<=cs.length:=by
   rw[ZcF,Wz,YaF];omega
  exact⟨by show(cut cs lo hi).toArray.size<=_;rw[Yh];omega,h _ _⟩
theorem Zkz{prog:YQ}{w:World}{A:Around}{E:Value->Shared->Prop}{s:Shared}{t sl:Addr}{items:Array Value}{vl vu:Value}{lo hi:Option Int}{Q:Value->Shared->Prop}(ht:IsTup s.heap t items)(hs:s.heap.IsSliceOf sl vl vu .none)(pl:IsPart vl lo)(pu:IsPart vu hi)(hw:HT.sIx items.size 0 lo=0/\HT.sIx items.size items.size hi=items.size)(h:Q (.ref t) s):wpAny (model prog w) A (Yag (.ref t) (.ref sl)) Q E s:=by
 obtain⟨os,hos,hcs,hds⟩:=id hs
 have hTs:s.TypeIs (.ref sl) "slice":=⟨os,hos,hcs⟩
 unfold Yag
 try with_reducible refine WN ?_
 first|refine Yb (Yd ?_)|skip
 refine Yb (wpAny_sequenceKey ht.typeIs (by decide) ?_)
 refine Yb (WP ht.typeIs W5
  (WX W5 ht.typeIs entry_tuple_getitem ?_ (args_tuple_getitem _ _)))
 show wpAny _ _ (Builtin.Tuple.tupleItemsOf (.ref t) >>= _) _ _ s
 refine Yb (tupleItemsOf_ ht ?_)
 refine Yb (V9 hTs ?_)
 rw[if_pos (by decide)]
 refine Yb (HT.sliceApplied_gen hs pl pu ?_)
 show wpAny _ _ (if(((HT.sIx items.size 0 lo:Nat):Int)==0&&(1:Int)==1&&(HT.sIx items.size items.size hi-HT.sIx items.size 0 lo)==items.size)=true then _ else _) _ _ s
 rw[if_pos (by rw[hw.1,hw.2];simp)]
 refine Yb ?_
 unfold Builtin.Tuple.tupleIsExact
 refine Yb (V9 ht.typeIs (Yd ?_))
 rw[if_pos (by decide)]
 exact Yb (Vo (Yd ⟨_,rfl,Yd h⟩))
theorem Zm6{pins:List (Addr×Obj)}{s:Shared}{σ:L2.St}{H:Hp}{x:V}{v vl vu:Value}{lo hi:Option Int}{sl:Addr}{Q:VK}{a:Addr}{xs:List V}(I:Inv X pins σ H s)(rx:RelV x v)(hs:s.heap.IsSliceOf sl vl vu .none)(pl:IsPart vl lo)(pu:IsPart vu hi)(e:x=.ref a)(hx:SqT X.K H a xs)(hw:HT.sIx xs.length 0 lo=0/\HT.sIx xs.length xs.length hi=xs.length)(q:Q (.ref a) H):∃T id,Ybd (.type T) "__getitem__" = pure (some (.builtin id))/\s.TypeIs v T/\wpAny (model X.prog X.w) X.A (Yag v (.ref sl)) (EP X pins σ Q) X.xe s:=by
 subst e
 cases rx
 obtain⟨its,r,ht,hz⟩:=I.tuple hx
 have hlen:its.toArray.size=xs.length:=by rw[Yh];exact r.length.symm
 exact⟨"tuple",_,PyProof.Rows.slot_tuple_getitem.lookup,ht.typeIs,Zkz ht hs pl pu (by rw[hlen];exact hw) ⟨.ref a,H,I,rfl,q⟩⟩
theorem sl_any:SlR X (rSl X.K xr):=by
 rintro pins s σ H x v vl vu lo hi sl Q I rx hs pl pu ⟨cm,m,w,M,rw',ho⟩
 obtain⟨t,e,ho⟩:=QX ho
 cases q:view w m with
 |none=>rw[q]at e;cases e
 |some tw =>
  rw[q]at e
  have e:slT tw lo hi=some t:=e
  cases tw with
  |tup ts =>
   cases e
   obtain⟨a,vs,rfl,h1,r1⟩:=(Zg rw' q (λ_ z=>by cases z)).itup
   have l1:=r1.length
   have e:∀n d o,Zj6 n d o=HT.sIx n d o:=λn d o=>by cases o<;>rfl
   by_cases hc:HT.sIx vs.length 0 lo=0/\HT.sIx vs.length vs.length hi=vs.length
   ·refine Zm6 I rx hs pl pu rfl h1 hc ?_
    have ec:cut ts lo hi=ts:=by
     unfold cut
     rw[e,e,l1,hc.1,hc.2,Yah,Nat.sub_zero,<-l1,YaI]
    rw[ec]at ho
    exact ans ho M (.mtup h1 r1)
   ·refine sl_tup pins s σ H _ v vl vu lo hi sl Q I rx hs pl pu ⟨a,vs,rfl,h1,hc,λp hp=>?_⟩
    rw[Zh6];exact Zd9 ho M (Zcl r1 lo hi) hp
  |lst ts =>
   cases e
   obtain⟨a,vs,rfl,h1,r1⟩:=ZD M rw' q
   exact ZkS pins s σ H _ v vl vu lo hi sl Q I rx hs pl pu ⟨a,vs,rfl,.of h1,λp hp=>by rw[Zh6];exact Zba ho M (Zcl r1 lo hi) hp⟩
  |scr ns =>
   cases e
   obtain⟨a,rfl,h1⟩:=(Zg rw' q (λ_ z=>by cases z)).vscr
   refine ZkS pins s σ H _ v vl vu lo hi sl Q I rx hs pl pu ⟨a,_,rfl,h1.sq,λp hp=>?_⟩
   rw[Zh6]
   refine Zba ho M ?_ hp
   have:=Zcl (Zce (K:=X.K) (cm:=cm) (m:=m) (H:=H) ns) lo hi
   have e:cut (ns.map T.int) lo hi=(cut ns lo hi).map T.int:=by
    rw[ZcF,ZcF,Yc,List.map_take,List.map_drop]
   rw[e]at this
   exact this
  |str cs =>
   unfold slT at e
   dsimp only at e
   split at e<;>cases e
   rename_i hc
   cases(Zg rw' q (λ_ z=>by cases z)).vstr
   obtain⟨t,rfl⟩:=rx
   exact⟨"str",_,slot_str_getitem.lookup,VJ s _ t,ZkR hs pl pu hc λt' k=>⟨.str ⟨(cut cs lo hi).toArray⟩,H,I.tok _,⟨t',rfl⟩,ans ho M (.str _)⟩⟩
  |_=>cases e
noncomputable def evP(call:Nat->List W->Mem->Res W)(gv:List T)(lo:E)(env:Env)(m:Mem):Res (Option Int):=if Zj lo then Res.ok none m else(ev call gv lo env m).bind intP
noncomputable def tP(K:Frag)(call:Nat->List W->Mem->Res W)(gv:List T)(xr:XR)(lo:E):TO:=λσ H Q=>∃env cm m,EnvR K cm m H env σ/\MemR K cm m H/\OkR K (evP call gv lo env m) xr cm m H λo cm' m' H'=>Q o H'
theorem ZnA:PO X none (tP X.K call gv xr .hole):=λpins s σ H Q I ⟨env,cm,m,hE,M,ho⟩=>Zpr pins s σ H Q I (OkR.now ho M)
theorem Znz{lo:Expr}(h:PE X lo (tE X.K call gv xr ea))(hn:evP call gv ea=λenv m=>(ev call gv ea env m).bind intP):PO X (some lo) (tP X.K call gv xr ea):=λpins s σ H Q I ⟨env,cm,m,hE,M,ho⟩=>by
 rw[hn]at ho
 refine Zpq h pins s σ H Q I ⟨env,cm,m,hE,M,(OkR.bind ho).mono λw cm1 m1 H1 x1 M1 o1 v rv=>?_⟩
 unfold intP at o1
 split at o1
 ·cases RT.vint rv
  exact⟨_,rfl,OkR.now o1 M1⟩
 ·exact o1.elim
theorem Zpw{lo hi:Option Expr}{p2:Pos}(he:PE X e (tE X.K call gv xr ea))(hl:PO X lo (tP X.K call gv xr eb))(hu:PO X hi (tP X.K call gv xr ec)):PE X (.Subscript e (.Slice lo hi none p2) pos) (tE X.K call gv xr (.slc ea eb ec)):=by
 refine PE.mono (ZnG (sl_any (xr:=xr)) he hl hu) ?_
 rintro σ H Q ⟨env,cm,m,hE,M,ho⟩
 have e:ev call gv (.slc ea eb ec) env m=(ev call gv ea env m).bind λx m=>(evP call gv eb env m).bind λl m=>(evP call gv ec env m).bind λh m=>fSl x l h m:=by
  rw[ev]
  rfl
 rw[e]at ho
 refine⟨env,cm,m,hE,M,ho.bind.mono λw cm1 m1 H1 x1 M1 o1 v rv=>?_⟩
 refine⟨env,cm1,m1,hE.ext x1 M M1,M1,o1.bind.mono λl cm2 m2 H2 x2 M2 o2=>?_⟩
 refine⟨env,cm2,m2,(hE.ext x1 M M1).ext x2 M1 M2,M2,o2.bind.mono λh cm3 m3 H3 x3 M3 o3=>?_⟩
 exact⟨cm3,m3,w,M3,(rv.ext x2 M1 M2).ext x3 M2 M3,o3⟩
noncomputable def fBlt(b:B)(ws:List W)(m:Mem):Res W:=pur ((views ws m).bind λts=>bltT b ts) m
theorem ZoA{b:B}(σ:L2.St)(H:Hp)(Q:VK)(q:tE X.K call gv xr (.blt b eas) σ H Q):tCB (rN X.K xr (fBlt b)) (tA X.K call gv xr eas) σ H Q:=by
 obtain⟨env,cm,m,hE,M,ho⟩:=q
 rw[ev]at ho
 exact⟨env,cm,m,hE,M,ho.bind.mono λws cm1 m1 H1 x1 M1 o1 vs rvs=>⟨cm1,m1,ws,M1,rvs,o1⟩⟩
theorem Zfn{b:B}{id:String}{x:Str}(hc:Xr X (.builtin id) (rN X.K xr (fBlt b)))(hv:Ui x=some (.builtin id))(hg:Gl X x)(hm:X.mg x=none)(ha:PA X (e::es) (tA X.K call gv xr eas))(hn:x≠"__name__")(hdb:(x==("__debug__" : Str))=false)(he:notStar e=true)(hpl:es.all notStar=true):PE X (.Call (.Name x p) (e::es) [] pos) (tE X.K call gv xr (.blt b eas)):=
 PE.mono (ZiA hc hg hm hv ha hn hdb (QL he) (Za3 hpl)) ZoA
theorem Zfm{b:B}{id:String}{x:Str}(hc:Xr X (.type id) (rN X.K xr (fBlt b)))(hv:Ui x=some (.type id))(hg:Gl X x)(hm:X.mg x=none)(ha:PA X (e::es) (tA X.K call gv xr eas))(hn:x≠"__name__")(hdb:(x==("__debug__" : Str))=false)(he:notStar e=true)(hpl:es.all notStar=true):PE X (.Call (.Name x p) (e::es) [] pos) (tE X.K call gv xr (.blt b eas)):=
 PE.mono (Zgy hc hg hm hv ha hn hdb (QL he) (Za3 hpl)) ZoA
theorem blt1{b:B}{ws:List W}{vs:List V}{k:W->List Addr->Mem->Hp->Prop}(r:RWs K cm m H ws vs)(h1:∀ts t,bltT b ts=some t->ts.length=1)(h:OkR K (fBlt b ws m) xr cm m H k):
  ∃w v t r,ws=[w]/\vs=[v]/\RW K cm m H w v/\view w m=some t/\bltT b [t]=some r/\OkR K (.ok (.t r) m) xr cm m H k:=by
 obtain⟨t,e,ho⟩:=QX h
 cases q:views ws m with
 |none=>rw[q]at e;cases e
 |some ts =>
  rw[q]at e
  have e:=e
  have hl:=h1 ts t e
  have hvl:∀(ws:List W) (ts:List T),views ws m=some ts->ts.length=ws.length:=λws=>by
   induction ws with
   |nil=>intro ts h;cases h;rfl
   |cons w ws ih =>
    intro ts h
    unfold views at h
    cases q1:view w m with
    |none=>rw[q1]at h;cases h
    |some t1 =>
     rw[q1]at h
     cases q2:views ws m with
     |none=>rw[q2]at h;cases h
     |some us=>rw[q2]at h;cases h;simp[ih us q2]
  have hw:=hvl ws ts q
  match ws,vs,r with
  |[],_,_=>rw[hl]at hw;simp at hw
  |w::w'::ws,_,_=>rw[hl]at hw;simp at hw
  |[w],_,.cons rv .nil =>
   unfold views at q
   cases q1:view w m with
   |none=>rw[q1]at q;cases q
   |some t1 =>
    rw[q1]at q
    cases q
    exact⟨w,_,t1,t,rfl,rfl,rv,q1,e,ho⟩
theorem Zlx{f:T->Option T}:∀{ts:List T}{t:T},one1 f ts=some t->∃x,ts=[x]/\f x=some t
 |[],_,h=>by cases h
 |[x],_,h=>⟨x,rfl,h⟩
 |_::_::_,_,h=>by cases h
theorem ZfZ{f:Int->Int->Option T}{ts:List T}{t:T}(h:two2 f ts=some t):∃i j,ts=[.int i,.int j]/\f i j=some t:=by
 unfold two2 at h
 split at h
 ·exact⟨_,_,rfl,h⟩
 ·cases h
theorem Zai{b:B}(hb:b≠.min2/\b≠.max2/\b≠.range2/\b≠.zip2/\b≠.zip4/\b≠.dget/\b≠.din/\b≠.dnot/\b≠.orv):∀ts t,bltT b ts=some t->ts.length=1:=by
 intro ts t h
 have h1:∀f:T->Option T,one1 f ts=some t->ts.length=1:=λf h=>by
  obtain⟨x,rfl,_⟩:=Zlx h
  rfl
 cases b<;>first|exact h1 _ h|exact absurd hb (by decide)|cases h
theorem ZmC:Xr X (.builtin "len") (rN X.K xr (fBlt .len)):=by
 rintro pins s σ H xs us Q I r ⟨cm,m,ws,M,rws,ho⟩
 obtain⟨w,v,t,rr,rfl,rfl,rv,e,eb,ho⟩:=blt1 rws (Zai (by decide)) ho
 have hz:=ZF
 cases t with
 |str cs =>
  change (if cs.length<=lim then some (T.int cs.length)else none)=some rr at eb
  split at eb<;>cases eb
  cases(Zg rv e (λ_ z=>by cases z)).vstr
  exact Zc5 pins s σ H _ us Q I r ⟨_,_,rfl,⟨by rw[Zaq];omega,rfl⟩,by rw[Zaq];exact ans ho M (.int _)⟩
 |tup ts =>
  cases eb
  obtain⟨a,vs,rfl,h1,r1⟩:=(Zg rv e (λ_ z=>by cases z)).itup
  exact Zc5 pins s σ H _ us Q I r ⟨_,_,rfl,.inr ⟨vs,h1,r1.length⟩,ans ho M (.int _)⟩
 |lst ts =>
  cases eb
  obtain⟨a,vs,rfl,h1,r1⟩:=ZD M rv e
  exact Zc5 pins s σ H _ us Q I r ⟨_,_,rfl,.inl ⟨vs,.of h1,r1.length⟩,ans ho M (.int _)⟩
 |scr ns =>
  cases eb
  obtain⟨a,rfl,h1⟩:=(Zg rv e (λ_ z=>by cases z)).vscr
  exact Zc5 pins s σ H _ us Q I r ⟨_,_,rfl,.inl ⟨_,h1.sq,by simp⟩,ans ho M (.int _)⟩
 |_=>cases eb
theorem ZmD:Xr X (.type "int") (rN X.K xr (fBlt .int)):=by
 rintro pins s σ H xs us Q I r ⟨cm,m,ws,M,rws,ho⟩
 obtain⟨w,v,t,rr,rfl,rfl,rv,e,eb,ho⟩:=blt1 rws (Zai (by decide)) ho
 cases t with
 |int i =>
  cases eb
  cases(Zg rv e (λ_ z=>by cases z)).vint
  exact Zhe pins s σ H _ us Q I r (.inl ⟨_,rfl,ans ho M (.int _)⟩)
 |bl b =>
  cases eb
  cases(Zg rv e (λ_ z=>by cases z)).vbl
  exact Zhe pins s σ H _ us Q I r (.inr ⟨_,rfl,ans ho M (.int _)⟩)
 |str cs =>
  have eb:(if cs≠[]/\cs.length<=600/\cs.all (λc=>decide (48<=c)&&decide (c<=57))=true then some (T.int (figV cs))else none)=some rr:=eb
  split at eb<;>cases eb
  rename_i hc
  cases(Zg rv e (λ_ z=>by cases z)).vstr
  obtain⟨u,rfl,tt,rfl⟩:=vals1 r
  have hd:NumText.AllDigits (⟨cs.toArray⟩:Str).cps.toList:=λc hcm=>by
   have:=Yr.mp hc.2.2 c (by simpa using hcm)
   rw[Yg]at this
   exact⟨of_decide_eq_true this.1,of_decide_eq_true this.2⟩
  have ht:=PySem.intText_digits hd (by simpa using hc.1) (by show cs.toArray.size<=_;rw[Yh];omega)
  refine W.KIN.call_text ht (by show cs.toArray.size<=_;rw[Yh];omega) ⟨.int (figV cs),H,I.tok _,⟨s.toks,?_⟩,ans ho M (.int _)⟩
  rw[show(⟨cs.toArray⟩:Str).cps.toList=cs from by simp]
  rfl
 |_=>cases eb
theorem Zmz:Xr X (.type "str") (rN X.K xr (fBlt .str)):=by
 rintro pins s σ H xs us Q I r ⟨cm,m,ws,M,rws,ho⟩
 obtain⟨w,v,t,rr,rfl,rfl,rv,e,eb,ho⟩:=blt1 rws (Zai (by decide)) ho
 cases t with
 |int i =>
  have eb:(if i.natAbs<2^250 then some (T.str (decI i))else none)=some rr:=eb
  split at eb<;>cases eb
  rename_i hc
  cases(Zg rv e (λ_ z=>by cases z)).vint
  refine Zhc pins s σ H _ us Q I r ⟨i,rfl,?_,?_⟩
  ·by_cases h0:i.natAbs=0
   ·rw[h0];decide
   ·exact YD ((Nat.log2_lt h0).mpr hc) (by decide)
  ·have:=ans ho M (.str _)
   have e2:(⟨(decI i).toArray⟩:Str)=Ybi (toString i):=(Zde rfl).symm
   rw[e2]at this
   exact this
 |_=>cases eb
theorem Zom(cs:List Nat):RTs K cm m H (cs.map λc=>T.str [c]) (cs.map λc=>V.str ⟨#[c]⟩):=by
 induction cs with
 |nil=>exact .nil
 |cons c cs ih=>exact .cons (.str [c]) ih
theorem ZeR{x:Str}:∀(cs:List Nat) (k:Nat) (vs:List Value),vs.length=cs.length->(∀(j:Nat) (v:Value),vs[j]?=some v->∃c u,cs[j]?=some c/\v=Va ⟨#[c]⟩ u)->Vals (cs.map λc=>V.str ⟨#[c]⟩) vs
 |[],_,[],_,_=>.nil
 |[],_,_::_,h,_=>by simp at h
 |_::_,_,[],h,_=>by simp at h
 |c::cs,k,v::vs,hl,h=>by
  obtain⟨c',u,e1,e2⟩:=h 0 v rfl
  cases e1
  exact .cons ⟨u,e2⟩ (ZeR (x:=x) cs k vs (by simpa using hl) λj w hw=>h (j+1) w (by simpa using hw))
theorem Zid(hcalm:X.calm=true):Xr X (.type "tuple") (rN X.K xr (fBlt .tuple)):=by
 rintro pins s σ H xs us Q I r ⟨cm,m,ws,M,rws,ho⟩
 obtain⟨w,v,t,rr,rfl,rfl,rv,e,eb,ho⟩:=blt1 rws (Zai (by decide)) ho
 cases t with
 |tup ts =>
  cases eb
  obtain⟨a,vs,rfl,h1,r1⟩:=(Zg rv e (λ_ z=>by cases z)).itup
  exact Zb2 pins s σ H _ us Q I r ⟨a,vs,rfl,.inr ⟨h1,ans ho M (.mtup h1 r1)⟩⟩
 |lst ts =>
  cases eb
  obtain⟨a,vs,rfl,h1,r1⟩:=ZD M rv e
  exact Zb2 pins s σ H _ us Q I r ⟨a,vs,rfl,.inl ⟨.of h1,λl hl=>Zd9 ho M r1 hl⟩⟩
 |str cs =>
  change (if cs.length<=lim then some (T.tup (cs.map λc=>T.str [c]))else none)=some rr at eb
  split at eb<;>cases eb
  rename_i hc
  cases(Zg rv e (λ_ z=>by cases z)).vstr
  obtain⟨u,rfl,ru⟩:=vals1 r
  obtain⟨tk,rfl⟩:=ru
  have hz:=ZF
  refine call_tuple_str (I.ok.hd hcalm) ⟨cs.toArray⟩ tk (λh' tk' acc hk hit=>?_) (by show cs.toArray.size<=_;rw[Yh];omega)
  obtain⟨h1,h2⟩:=hit
  have I1:Inv X pins σ H { s with heap:=h',toks:=tk' }:=I.kept hk
  have rv2:=ZeR (x:=⟨cs.toArray⟩) cs 0 acc.toList (by simpa using h1) λj w hw=>by
   obtain⟨c,u,e1,e2⟩:=h2 j w (by simpa using hw)
   exact⟨c,u,by simpa using e1,e2⟩
  refine⟨.ref h'.objs.size,_,I1.laid (t':=tk') (λb ob q=>Ye _ q) (Yn _) ?_,rfl,Zd9 ho M (Zom cs) (I1.hok.fresh (Yn _))⟩
  refine⟨by rw[Yc];omega,acc.toList,rv2,?_⟩
  have:=TupP.new h' acc.toList.toArray
  simpa using this
 |_=>cases eb
theorem Zko:Xr X (.type "list") (rN X.K xr (fBlt .list)):=by
 rintro pins s σ H xs us Q I r ⟨cm,m,ws,M,rws,ho⟩
 obtain⟨w,v,t,rr,rfl,rfl,rv,e,eb,ho⟩:=blt1 rws (Zai (by decide)) ho
 cases t with
 |tup ts =>
  cases eb
  obtain⟨a,vs,rfl,h1,r1⟩:=(Zg rv e (λ_ z=>by cases z)).itup
  exact ZcG pins s σ H _ us Q I r ⟨a,vs,rfl,.inr h1,λl hl=>Zba ho M r1 hl⟩
 |lst ts =>
  cases eb
  obtain⟨a,vs,rfl,h1,r1⟩:=ZD M rv e
  exact ZcG pins s σ H _ us Q I r ⟨a,vs,rfl,.inl (.of h1),λl hl=>Zba ho M r1 hl⟩
 |_=>cases eb
theorem RTs.bools:∀{ts:List T}{vs:List V}{bs:List Bool},RTs K cm m H ts vs->bools? ts=some bs->vs=bs.map V.bl
 |[],_,_,.nil,e=>by cases e;rfl
 |t::ts,_,bs,.cons r rs,e=>by
  cases t with
  |bl c =>
   unfold bools? at e
   cases q:bools? ts with
   |none=>rw[q]at e;cases e
   |some cs =>
    rw[q]at e;cases e
    cases RT.vbl r
    rw[RTs.bools rs q]
    rfl
  |_=>cases e
theorem Zb9:∀{bs:List Bool}{us:List Value},Vals (bs.map V.bl) us->us=bs.map WY
 |[],_,.nil=>rfl
 |b::bs,_,.cons r rs=>by
  cases r
  rw[Zb9 rs]
  rfl
theorem ZlU{s:Shared}{h':Heap}{o:Obj}(hk:∀b x,b∉[s.heap.objs.size]->(s.heap.push o).get? b=some x->h'.get? b=some x):∀b x,s.heap.get? b=some x->h'.get? b=some x:=
 λb x e=>hk b x (λhm=>by rw[YX.mp hm]at e;exact Wn _ (Yx e)) (Ye _ e)
theorem ZoD{α:Type}(f:List α->Bool)(bs:List Bool)(d:Bool):(Wh bs.length).map (λi=>(bs[i]?).getD d)=bs:=by
 apply List.ext_getElem?
 intro i
 rw[Y4]
 by_cases h:i<bs.length
 ·rw[V3 h];simp[h]
 ·simp[h]
theorem ZmE(hc:X.calm=true):Xr X (.builtin "all") (rN X.K xr (fBlt .all)):=by
 rintro pins s σ H xs us Q I r ⟨cm,m,ws,M,rws,ho⟩
 obtain⟨w,v,t,rr,rfl,rfl,rv,e,eb,ho⟩:=blt1 rws (Zai (by decide)) ho
 cases t with
 |lst ts =>
  have eb:(bools? ts).map (λbs=>T.bl (bs.all id))=some rr:=eb
  cases q:bools? ts with
  |none=>rw[q]at eb;cases eb
  |some bs =>
   rw[q]at eb;cases eb
   obtain⟨a,vs,rfl,h1,r1⟩:=ZD M rv e
   obtain⟨u,rfl,ru⟩:=vals1 r
   cases ru
   obtain⟨its,rv',pl,hz⟩:=I.list (.of h1)
   cases RTs.bools r1 q
   cases Zb9 rv'
   have hl:=pl.isList
   have hlt:a<s.heap.objs.size:=by obtain⟨_,e,_⟩:=hl;exact Yx e
   refine call_all_walk (Yan hl ?_)
   refine⟨s.heap.objs.size,[s.heap.objs.size,a],[s.heap.objs.size],(bs.map WY).toArray.size,_,_,λi=>(bs[i]?).getD true,rfl,Walks.list (A:=X.A.in1) (I.ok.hd hc) _ a (YZ hlt) (bs.map WY).toArray,
    ⟨⟨_,Yy _ rfl,rfl,rfl⟩,hl.push _⟩,λi v s' Q' E' hP hQ=>?_,λh' tk hk=>?_⟩
   ·have hP':(bs.map WY)[i]?=some v:=by simpa using hP
    rw[Y4]at hP'
    cases qq:bs[i]? with
    |none=>rw[qq]at hP';cases hP'
    |some b =>
     rw[qq]at hP';cases hP'
     dsimp only at hQ
     rw[qq]at hQ
     exact Wi hQ
   ·have e:((Wh (bs.map WY).toArray.size).all λi=>(bs[i]?).getD true)=bs.all id:=by
     rw[Yh,Yc]
     have:=congrArg (λl=>l.all id) (ZoD (α:=Nat) (λ_=>true) bs true)
     rw[<-this,Gs]
     rfl
    rw[e]
    exact⟨.bl _,H,I.kept (ZlU hk),rfl,ans ho M (.bl _)⟩
 |tup ts =>
  have eb:(bools? ts).map (λbs=>T.bl (bs.all id))=some rr:=eb
  cases q:bools? ts with
  |none=>rw[q]at eb;cases eb
  |some bs =>
   rw[q]at eb;cases eb
   obtain⟨a,vs,rfl,h1,r1⟩:=RT.itup (Zg rv e (λ_ z=>by cases z))
   obtain⟨u,rfl,ru⟩:=vals1 r
   cases ru
   obtain⟨its,rv',pl,hz⟩:=I.tuple h1
   cases RTs.bools r1 q
   cases Zb9 rv'
   have hl:=pl
   have hlt:a<s.heap.objs.size:=by obtain⟨_,e,_⟩:=hl;exact Yx e
   refine call_all_walk (wpAny_pyIter_tuple hl ?_)
   refine⟨s.heap.objs.size,[s.heap.objs.size,a],[s.heap.objs.size],(bs.map WY).toArray.size,_,_,λi=>(bs[i]?).getD true,rfl,Walks.tuple (A:=X.A.in1) (I.ok.hd hc) _ a (YZ hlt) (bs.map WY).toArray,
    ⟨⟨_,Yy _ rfl,rfl,rfl⟩,(let⟨o,ho,r⟩:=hl;⟨o,Ye _ ho,r⟩)⟩,λi v s' Q' E' hP hQ=>?_,λh' tk hk=>?_⟩
   ·have hP':(bs.map WY)[i]?=some v:=by simpa using hP
    rw[Y4]at hP'
    cases qq:bs[i]? with
    |none=>rw[qq]at hP';cases hP'
    |some b =>
     rw[qq]at hP';cases hP'
     dsimp only at hQ
     rw[qq]at hQ
     exact Wi hQ
   ·have e:((Wh (bs.map WY).toArray.size).all λi=>(bs[i]?).getD true)=bs.all id:=by
     rw[Yh,Yc]
     have:=congrArg (λl=>l.all id) (ZoD (α:=Nat) (λ_=>true) bs true)
     rw[<-this,Gs]
     rfl
    rw[e]
    exact⟨.bl _,H,I.kept (ZlU hk),rfl,ans ho M (.bl _)⟩
 |_=>cases eb
end
section
variable{K:Frag}{cm:List Addr}{m:Mem}{H:Hp}{xr:XR}{X:Cx}{call:Nat->List W->Mem->Res W}{gv:List T}
variable{a b c e:Expr}{es:List Expr}{ea eb ec:E}{eas:Es}{pos p p2:Pos}
noncomputable def tyN:Ty->String
 |.int=>"int"
 |.bool=>"bool"
 |.str=>"str"
 |.tuple=>"tuple"
 |.list=>"list"
 |.dict=>"dict"
noncomputable def tyT:T->String
 |.non=>"NoneType"
 |.bl _=>"bool"
 |.int _=>"int"
 |.str _=>"str"
 |.tup _=>"tuple"
 |.lst _=>"list"
 |.dct _ _=>"dict"
 |.scr _=>"list"
theorem Zqb(t:T)(ty:Ty):PySem.W.kitOne K (.type (tyT t)) (.type (tyN ty))=some (isT t ty):=by cases t<;>cases ty<;>rfl
theorem Zqh{pins:List (Addr×Obj)}{σ:L2.St}{s:Shared}{A:Around}{E:Value->Shared->Prop}{Q:Value->Shared->Prop}{w:W}{v:V}{u:Value}{t:T}{ty:Ty}(I:Inv X pins σ H s)(M:MemR X.K cm m H)(rx:RelV v u)(r:RW X.K cm m H w v)(ew:view w m=some t)(h:∀tk,Q (.bool (isT t ty)) { s with toks:=tk }):
  wpAny (model X.prog X.w) A (G5 (.builtin "isinstance") [u,.type (tyN ty)]) Q E s:=by
 have k:=Zqb (K:=X.K) t ty
 have onL:∀(a:Addr) (vs:List V),v=.ref a->SqL X.K H a vs->tyT t = "list"->wpAny (model X.prog X.w) A (G5 (.builtin "isinstance") [u,.type (tyN ty)]) Q E s:=λa vs e hq et=>by
  subst e
  cases rx
  obtain⟨its,_,pl,_⟩:=I.list hq
  obtain⟨o,n,e,c,_⟩:=pl
  rw[et]at k
  exact Vx YbE I.kIn ⟨o,e,c⟩ k (λz=>nomatch z) h
 cases t with
 |non=>cases(Zg r ew (λ_ z=>by cases z)).vnon;exact Zay I rx .non k h
 |bl y=>cases(Zg r ew (λ_ z=>by cases z)).vbl;exact Zay I rx (.bl y) k h
 |int i=>cases(Zg r ew (λ_ z=>by cases z)).vint;exact Zay I rx (.int i) k h
 |str cs=>cases(Zg r ew (λ_ z=>by cases z)).vstr;exact Zay I rx (.str _) k h
 |tup ts =>
  obtain⟨a,vs,rfl,h1,_⟩:=(Zg r ew (λ_ z=>by cases z)).itup
  cases rx
  obtain⟨its,_,p,_⟩:=I.tuple h1
  obtain⟨o,h1,h2,_⟩:=p
  exact Vx PySem.W.kitx_tuple I.kIn ⟨o,h1,h2⟩ k (λz=>nomatch z) h
 |lst ts =>
  obtain⟨a,vs,e,h1,_⟩:=ZD M r ew
  exact onL a vs e (.of h1) rfl
 |scr ns =>
  obtain⟨a,e,h1⟩:=(Zg r ew (λ_ z=>by cases z)).vscr
  exact onL a _ e h1.sq rfl
 |dct ks ts =>
  have r':=Zg r ew (λ_ z=>by cases z)
  cases r' with
  |dct q1 q2 q3 q4 q5=>exact Zay I rx (.dK q1) k h
noncomputable def fIsi(ty:Ty)(w:W)(m:Mem):Res W:=pur ((view w m).map λx=>.bl (isT x ty)) m
theorem Zow{ty:Ty}:Xr X (.builtin "isinstance") (λxs H Q=>∃x,xs=[x,.ty (tyN ty)]/\r1 X.K xr (fIsi ty) x H Q):=by
 rintro pins s σ H xs us Q I r ⟨x,e,cm,m,w,M,rw',ho⟩
 subst e
 obtain⟨u1,u2,rfl,ru1,ru2⟩:=vals2 r
 cases(ru2)
 obtain⟨t,et,ho⟩:=QX ho
 cases q:view w m with
 |none=>rw[q]at et;cases et
 |some tw =>
  rw[q]at et;cases et
  exact Zqh I M ru1 rw' q λtk=>⟨.bl _,H,I.tok _,rfl,ans ho M (.bl _)⟩
theorem ZpE{ty:Ty}{x:Str}(ha:PE X a (tE X.K call gv xr ea))(hg:Gl X "isinstance")(hm:X.mg "isinstance" = none)(hgT:Gl X x)(hmT:X.mg x=none)(hv:Ui x=some (.type (tyN ty)))(hn:x≠"__name__":=by decide)(hd:(x==("__debug__" : Str))=false:=by decide)(hs:notStar a=true:=by rfl):
  PE X (.Call (.Name "isinstance" p) [a,.Name x p2] [] pos) (tE X.K call gv xr (.isi ea ty)):=by
 refine PE.mono (ZiA (Zow (ty:=ty) (xr:=xr)) hg hm (by decide +kernel) (ZhH ha (ZhH (ZpN (v:=.ty (tyN ty)) hgT hmT hv rfl hn hd) ZoI (QL rfl)) (QL hs)) (by decide) (by decide) (QL hs) (Za3 rfl)) ?_
 rintro σ H Q ⟨env,cm,m,hE,M,ho⟩
 rw[ev]at ho
 exact⟨env,cm,m,hE,M,ho.bind.mono λw cm1 m1 H1 x1 M1 o1 v rv=>⟨v,rfl,cm1,m1,w,M1,rv,o1⟩⟩
noncomputable def rM(K:Frag)(xr:XR)(b:Mt):V->List V->Hp->VK->Prop:=λx xs H Q=>∃cm m w ws,MemR K cm m H/\RW K cm m H w x/\RWs K cm m H ws xs/\OkR K (doM b w ws m) xr cm m H λw cm' m' H'=>∀v,RW K cm' m' H' w v->Q v H'
theorem ZhR(sep:List Nat):∀xs:List (List Nat),Str.join ⟨sep.toArray⟩ (xs.map λc=>(⟨c.toArray⟩:Str))=⟨(Zd sep xs).toArray⟩
 |[]=>rfl
 |[x]=>rfl
 |x::y::r=>by
  show(⟨x.toArray⟩:Str)++⟨sep.toArray⟩++Str.join ⟨sep.toArray⟩ ((y::r).map λc=>(⟨c.toArray⟩:Str))=⟨(x++sep++Zd sep (y::r)).toArray⟩
  rw[ZhR sep (y::r),ZkL,ZkL]
theorem RTs.strs:∀{ts:List T}{vs:List V}{bs:List (List Nat)},RTs K cm m H ts vs->strs? ts=some bs->vs=bs.map λc=>V.str ⟨c.toArray⟩
 |[],_,_,.nil,e=>by cases e;rfl
 |t::ts,_,bs,.cons r rs,e=>by
  cases t with
  |str c =>
   unfold strs? at e
   cases q:strs? ts with
   |none=>rw[q]at e;cases e
   |some cs =>
    rw[q]at e;cases e
    cases RT.vstr r
    rw[RTs.strs rs q]
    rfl
  |_=>cases e
theorem Zap:∀{bs:List (List Nat)}{us:List Value},Vals (bs.map λc=>V.str ⟨c.toArray⟩) us->YbN us (bs.map λc=>(⟨c.toArray⟩:Str))
 |[],_,.nil=>.nil
 |b::bs,_,.cons ⟨t,e⟩ rs=>by
  cases e
  exact .cons _ t (Zap rs)
theorem Zdb{ws:List W}{t:T}(h:views ws m=some [t]):∃w,ws=[w]/\view w m=some t:=by
 cases ws with
 |nil=>cases h
 |cons w ws =>
  unfold views at h
  cases q1:view w m with
  |none=>rw[q1]at h;cases h
  |some t1 =>
   rw[q1]at h
   have h:=h
   cases q2:views ws m with
   |none=>rw[q2]at h;cases h
   |some ts =>
    rw[q2]at h
    cases h
    cases ws with
    |nil=>exact⟨w,rfl,by rw[q1]⟩
    |cons w2 ws =>
     unfold views at q2
     cases q3:view w2 m with
     |none=>rw[q3]at q2;cases q2
     |some t3 =>
      rw[q3]at q2
      cases q4:views ws m with
      |none=>rw[q4]at q2;cases q2
      |some t4=>rw[q4]at q2;cases q2
theorem ZlF{b:Mt}{w:W}{ws:List W}{k:W->List Addr->Mem->Hp->Prop}(h:OkR K (pur ((view w m).bind λx=>(views ws m).bind λts=>mthT b x ts) m) xr cm m H k):∃x ts t,view w m=some x/\views ws m=some ts/\mthT b x ts=some t/\OkR K (.ok (.t t) m) xr cm m H k:=by
 obtain⟨t,e,ho⟩:=QX h
 cases q1:view w m with
 |none=>rw[q1]at e;cases e
 |some x =>
  cases q2:views ws m with
  |none=>rw[q1,q2]at e;cases e
  |some ts=>rw[q1,q2]at e;exact⟨x,ts,t,rfl,rfl,e,ho⟩
theorem ZiK{sep:List Nat}{zs:List (List Nat)}(hc:(zs.map YW).sum+zs.length*sep.length<=lim):((zs.map λc:List Nat=>(⟨c.toArray⟩:Str)).map (·.length)).sum+(zs.map λc:List Nat=>(⟨c.toArray⟩:Str)).length*(⟨sep.toArray⟩:Str).length<=16777216:=by
 rw[Wa,Zaq,Yc]
 have e5:((λx:Str=>x.length) ∘ λc:List Nat=>(⟨c.toArray⟩:Str))=YW:=by funext c;exact Zaq c
 have e6:(lim:Nat)<=16777216:=by decide
 rw[e5]
 omega
theorem ZlW(sep:List Nat)(zs:List (List Nat))(t:Tok):Va (Txt.join ⟨sep.toArray⟩ (zs.map λc=>⟨c.toArray⟩)) t=.str ⟨(Zd sep zs).toArray⟩ t:=by
 unfold Txt.join
 rw[StrLaws.glued_eq_join,ZhR]
theorem seq_ok{f:List T->Option T}{ts:List T}{t:T}(h:one1 (ZjK f) ts=some t):∃ys,f ys=some t/\(ts=[.lst ys]∨ts=[.tup ys]):=by
 rcases ts with _|⟨x,_|⟨y,r⟩⟩
 ·cases h
 ·cases x<;>first|exact⟨_,h,.inl rfl⟩|exact⟨_,h,.inr rfl⟩|cases h
 ·cases h
theorem ZnZ:MtR X "str.join" (rM X.K xr .join):=by
 rintro pins s σ H x xs v us Q I rx rs ⟨cm,m,w,ws,M,rw',rws,ho⟩
 obtain⟨tw,ts,t,q1,q2,e0,hz9⟩:=ZlF ho
 clear ho
 cases tw with
 |str sep =>
  obtain⟨ys,e,hs⟩:=seq_ok (show one1 (ZjK λxs=>(strs? xs).bind λys=>if(ys.map YW).sum+ys.length*sep.length<=lim then some (T.str (Zd sep ys))else none) ts=some t from e0)
  clear e0
  cases q3:strs? ys with
  |none=>rw[q3]at e;cases e
  |some zs =>
   rw[q3]at e
   have e:(if(zs.map YW).sum+zs.length*sep.length<=lim then some (T.str (Zd sep zs))else none)=some t:=e
   split at e<;>cases e
   rename_i hc
   cases(Zg rw' q1 (λ_ z=>by cases z)).vstr
   obtain⟨tt,rfl⟩:=rx
   rcases hs with rfl|rfl<;>obtain⟨w1,rfl,q4⟩:=Zdb q2<;>obtain _|⟨rv,_|_⟩:=rws<;>obtain⟨u,rfl,ru⟩:=vals1 rs
   ·obtain⟨a,vs,rfl,h1,r1⟩:=ZD M rv q4
    cases ru
    obtain⟨its,rv',pl,hz⟩:=I.list (.of h1)
    cases RTs.strs r1 q3
    exact join_list pl.isList (Zap rv') (ZiK hc) λt' k=>⟨.str ⟨(Zd sep zs).toArray⟩,H,I.tok _,⟨t',ZlW sep zs t'⟩,ans hz9 M (.str _)⟩
   ·obtain⟨a,vs,rfl,h1,r1⟩:=(Zg rv q4 (λ_ z=>by cases z)).itup
    cases ru
    obtain⟨its,rv',pl,hz⟩:=I.tuple h1
    cases RTs.strs r1 q3
    exact join_tuple pl (Zap rv') (ZiK hc) λt' k=>⟨.str ⟨(Zd sep zs).toArray⟩,H,I.tok _,⟨t',ZlW sep zs t'⟩,ans hz9 M (.str _)⟩
 |_=>cases e0
theorem ty_str{w:W}{v:V}{b:Mt}(hb:b=.join∨b=.upper)(r:RW K cm m H w v)(h:tyM b w m=true):tyV K "str" v H:=by
 have h':(match view w m with|some (.str _)=>true|_=>false)=true:=by
  rcases hb with rfl|rfl<;>exact h
 split at h'
 ·rename_i cs e
  cases(Zg r e (λ_ z=>by cases z)).vstr
  rfl
 ·cases h'
theorem few1{cpos:Pos}(hs:notStar e=true):((backTo cpos (Ww [e] X.env)).all (λx=>!x.1)&&(backToKw cpos (keywordEach [] X.env)).all (λx=>x.1.isSome)
  && decide ([e].length+([]:List YbB).length+(if([]:List YbB).isEmpty then 0 else 1)<30))=true:=by
 rw[ZkN (by rw[Uz,hs];rfl)]
 rfl
theorem ZnJ{o:Expr}{apos cpos:Pos}(ho:PE X o (tE X.K call gv xr ea))(ha:PA X [e] (tA X.K call gv xr eas))(hbase:Ve o "join" X.env (eval o X.env)=eval o X.env:=by rfl)(hline:(apos.endLine==cpos.line)=true:=by rfl)(hs:notStar e=true:=by rfl):
  PE X (.Call (.Attribute o "join" apos) [e] [] cpos) (tE X.K call gv xr (.mth .join ea eas)):=by
 refine PE.mono (Zlj Vk PySem.F.slot_str_join PySem.F.type_str_join (ZnZ (xr:=xr)) ho ha hbase (few1 hs) hline (QL hs) (Za3 rfl)) ?_
 rintro σ H Q ⟨env,cm,m,hE,M,hq⟩
 rw[ev]at hq
 refine⟨env,cm,m,hE,M,hq.bind.mono λw cm1 m1 H1 x1 M1 o1 v rv=>?_⟩
 obtain⟨ht,o1⟩:=ZcD o1
 refine⟨ty_str (.inl rfl) rv ht,env,cm1,m1,hE.ext x1 M M1,M1,o1.bind.mono λws cm2 m2 H2 x2 M2 o2 vs rvs=>?_⟩
 exact⟨cm2,m2,w,ws,M2,rv.ext x2 M1 M2,rvs,o2⟩
structure At (X:Cx) (call:Nat->List W->Mem->Res W) (gv:List T) (e:Expr) (a:E) (f:L2.St->Option V):Prop where
 pe:PE X e (λσ H Q=>∃v,f σ=some v/\Q v H)
 rd:∀env cm m H σ,EnvR X.K cm m H env σ->(∃w v,ev call gv a env m=.ok w m/\f σ=some v/\RW X.K cm m H w v)∨ev call gv a env m=.stuck
theorem Zhn{i:Int}{j}:At X call gv (.Constant (.int i) j pos) (.con (.int i)) (λ_=>some (.int i)):=
 ⟨PE.mono ZoH λσ H Q ⟨v,e,q⟩=>by cases e;exact q,λenv cm m H σ hE=>.inl ⟨.t (.int i),_,by rw[ev],rfl,RT.int i⟩⟩
theorem ZjB{tg:Expr}(hg:Gl X "range")(hm:X.mg "range" = none)(ha:PA X [a] (tA X.K call gv xr eas))(hs:notStar a=true:=by rfl):PI X tg (.Call (.Name "range" p) [a] [] pos) (tI X.K call gv xr (.blt .range1 eas)):=by
 refine PI.mono (Zlf hg hm ha (QL hs)) ?_
 rintro σ H R ⟨env,cm,m,hE,M,ho⟩
 rw[ev]at ho
 refine⟨env,cm,m,hE,M,ho.bind.mono λws cm1 m1 H1 x1 M1 o1 vs rvs=>?_⟩
 obtain⟨w,v,t,rr,rfl,rfl,rv,e,eb,o2⟩:=blt1 rvs (Zai (by decide)) o1
 cases t with
 |int i =>
  change (if i<2^62/\-(2^62)<=i then some (T.lst (rangeT 0 i.toNat))else none)=some rr at eb
  split at eb<;>cases eb
  rename_i hc
  cases(Zg rv e (λ_ z=>by cases z)).vint
  obtain⟨ts,m2,q1,q2⟩:=OkR.now o2 M1
  cases q1
  exact⟨_,rfl,hc.2,hc.1,q2 _ (.rng 0 _)⟩
 |_=>cases eb
end
section
variable(K:Frag) (call:Nat->List W->Mem->Res W) (gv:List T) (xr:XR)
noncomputable def ZfG(n:Nat)(D:Ends)(fl:Flow)(cm:List Addr)(m:Mem)(H:Hp):Prop:=match fl with
 |.next env=>∀σ:L2.St,σ.length=n->EnvR K cm m H env σ->D.nx σ H
 |.ret w=>∀v,RW K cm m H w v->D.rt v H
 |.brk env=>∀σ:L2.St,σ.length=n->EnvR K cm m H env σ->D.bk σ H
 |.cont env=>∀σ:L2.St,σ.length=n->EnvR K cm m H env σ->D.ct σ H
noncomputable def tS(n:Nat)(s:S):TS:=λD σ H=>σ.length=n/\∃env cm m,EnvR K cm m H env σ/\MemR K cm m H/\OkR K (ex call gv s env m) xr cm m H λfl cm' m' H'=>ZfG K n D fl cm' m' H'
end
section
variable{K:Frag}{cm:List Addr}{m:Mem}{H:Hp}{xr:XR}{X:Cx}{call:Nat->List W->Mem->Res W}{gv:List T}
variable{a b c e:Expr}{es:List Expr}{ea eb ec:E}{eas:Es}{pos p p2:Pos}{rest:List Stmt}{k:S}{n:Nat}
theorem PSs.mono{sts:List Stmt}{t t':TS}(h:PSs X sts t)(f:∀D σ H,t' D σ H->t D σ H):PSs X sts t':=λpins s σ H D I q=>h pins s σ H D I (f D σ H q)
theorem Znk:PSs X [] (tS X.K call gv xr n .done):=PSs.mono Zpm λD σ H ⟨hl,env,cm,m,hE,M,ho⟩=>by
 rw[ex]at ho
 exact OkR.now ho M σ hl hE
theorem Znj(h:PE X e (tE X.K call gv xr ea)):PSs X (.Return (some e) pos::rest) (tS X.K call gv xr n (.ret ea k)):=PSs.mono (QR (ps_ret h) Zk6) λD σ H ⟨hl,env,cm,m,hE,M,ho⟩=>by
 rw[ex]at ho
 exact⟨env,cm,m,hE,M,ho.bind.mono λw cm1 m1 H1 x1 M1 o1 v rv=>OkR.now o1 M1 v rv⟩
theorem Zk7(h:PE X e (tE X.K call gv xr ea))(hk:PSs X rest (tS X.K call gv xr n k))(hs:Yaj e none pos.line X.env=pure false:=by rfl):PSs X (.Expr e pos::rest) (tS X.K call gv xr n (.expr ea k)):=PSs.mono (QR (Zpp h hs) hk) λD σ H ⟨hl,env,cm,m,hE,M,ho⟩=>by
 rw[ex]at ho
 exact⟨env,cm,m,hE,M,ho.bind.mono λw cm1 m1 H1 x1 M1 o1 v rv=>⟨hl,env,cm1,m1,hE.ext x1 M M1,M1,o1⟩⟩
theorem Znn{i:Nat}{x:Str}{px:Pos}(hN:X.N.Nodup)(hn:X.N.length=n)(hi:X.N[i]?=some x)(hx:Loc X.env.scope x)(h:PE X e (tE X.K call gv xr ea))(hk:PSs X rest (tS X.K call gv xr n k))(hs:Yaj e (some (.Name x px)) pos.line X.env=pure false:=by rfl)(hf:X.fn x=true∨X.env.scope.names.lookup x=some .local:=by first|exact .inl rfl|exact .inr rfl|assumption):PSs X (.Assign [.Name x px] e pos::rest) (tS X.K call gv xr n (.asg i ea k)):=PSs.mono (QR (ps_set hN hi hx h hs hf) hk) λD σ H ⟨hl,env,cm,m,hE,M,ho⟩=>by
 rw[ex]at ho
 have hi':i<σ.length:=by rw[hl,<-hn];exact(Yj.mp hi).1
 exact⟨env,cm,m,hE,M,ho.bind.mono λw cm1 m1 H1 x1 M1 o1 v rv=>⟨by rw[Wx];exact hl,env.set i (some w),cm1,m1,EnvR.set (hE.ext x1 M M1) rv i hi',M1,o1⟩⟩
theorem Zni{o i v:Expr}{eo ei ev':E}{tp:Pos}(hv:PE X v (tE X.K call gv xr ev'))(ho:PE X o (tE X.K call gv xr eo))(hi:PE X i (tE X.K call gv xr ei))(hk:PSs X rest (tS X.K call gv xr n k))(ha:∀v,assign (.Subscript o i tp) X.env v=(do
   let ov <-YaM [v] (eval o X.env)
   let iv <-YaM [v,ov] (eval i X.env)
   VN tp
   YaM [v,ov,iv] (setItem ov iv v)
   release [v,ov,iv] []):=by intro _;rfl)(hs:Yat [.Subscript o i tp] v pos.line X.env=pure false:=by rfl)(hw:Yau [.Subscript o i tp] v X.env=pure none:=by rfl)(h1:(Ys [.Subscript o i tp] X.env).map (·.2)=[assign (.Subscript o i tp) X.env]:=by rfl):PSs X (.Assign [.Subscript o i tp] v pos::rest) (tS X.K call gv xr n (.set eo ei ev' k)):=
 PSs.mono (QR (Zk9 hv (pg_sub ho hi set_list ha) hs hw h1) hk) λD σ H ⟨hl,env,cm,m,hE,M,hq⟩=>by
  rw[ex]at hq
  refine⟨env,cm,m,hE,M,hq.bind.mono λz cm1 m1 H1 x1 M1 o1 vz rz=>?_⟩
  refine⟨env,cm1,m1,hE.ext x1 M M1,M1,o1.bind.mono λx cm2 m2 H2 x2 M2 o2 vx rx=>?_⟩
  refine⟨env,cm2,m2,(hE.ext x1 M M1).ext x2 M1 M2,M2,o2.bind.mono λy cm3 m3 H3 x3 M3 o3 vy ry=>?_⟩
  unfold setM at o3
  split at o3
  ·rename_i cc kk
   cases q:frz z m3 with
   |stuck=>rw[q]at o3;exact o3.elim
   |exc e' m'=>exact absurd q ZgT
   |ok t m4 =>
    rw[q]at o3
    obtain⟨x4,M4,r4⟩:=Zl9 M3 ((rz.ext x2 M1 M2).ext x3 M2 M3) q
    have rx':=(rx.ext x3 M2 M3).ext x4 M3 M4
    cases RT.vint ry
    obtain⟨a,ha1,rfl⟩:=rx'
    have o3:OkR X.K ((match m4[cc]? with
     |some (some (false,xs))=>match ixOf xs.length kk with
      |some j=>Res.ok () (m4.set cc (some (false,xs.set j t)))
      |none=>.stuck
     |_=>.stuck).bind λ_ m=>ex call gv k env m) xr cm3 m3 H3 _:=o3
    split at o3
    ·rename_i xs e1
     split at o3
     ·rename_i j e2
      obtain⟨b,vs,q1,q2,q3,q4⟩:=M4.at' cc _ e1
      rw[ha1]at q1;cases q1
      have l4:=q4.length
      obtain⟨x5,M5⟩:=Zcr M4 e1 ha1 (ZeC r4 j q4)
      refine⟨a,vs,kk,j,rfl,rfl,q2,by rw[<-l4];exact e2,?_⟩
      have xx:=(x4.trans x5)
      exact⟨hl,env,cm3,_,(((hE.ext x1 M M1).ext x2 M1 M2).ext x3 M2 M3).ext xx M3 M5,M5,OkR.shift (o3) xx⟩
     ·exact o3.elim
    ·exact o3.elim
  ·exact o3.elim
theorem bind_assoc{α β γ:Type}(r:Res α)(f:α->Mem->Res β)(g:β->Mem->Res γ):(r.bind f).bind g=r.bind λa m=>(f a m).bind g:=by cases r<;>rfl
theorem Zpn{A B:List Stmt}{sa sb:S}(hc:PT X c (tT X.K call gv xr ec))(ha:PSs X A (tS X.K call gv xr n sa))(hb:PSs X B (tS X.K call gv xr n sb))(hk:PSs X rest (tS X.K call gv xr n k)):PSs X (.If c A B pos::rest) (tS X.K call gv xr n (.ife ec sa sb k)):=
 PSs.mono (QR (ps_if hc ha hb) hk) λD σ H ⟨hl,env,cm,m,hE,M,ho⟩=>by
  rw[ex,<-bind_assoc]at ho
  refine⟨env,cm,m,hE,M,ho.bind.mono λt cm1 m1 H1 x1 M1 o1=>?_⟩
  have go:∀s:S,OkR X.K ((ex call gv s env m1).bind λfl m=>match fl with|.next env=>ex call gv k env m|fl=>.ok fl m) xr cm1 m1 H1 (λfl cm' m' H'=>ZfG X.K n D fl cm' m' H')->tS X.K call gv xr n s { D with nx:=tS X.K call gv xr n k D } σ H1:=λs o=>by
   refine⟨hl,env,cm1,m1,hE.ext x1 M M1,M1,o.bind.mono λfl cm2 m2 H2 x2 M2 o2=>?_⟩
   cases fl with
   |next env'=>exact λσ' hl' hE'=>⟨hl',env',cm2,m2,hE',M2,o2⟩
   |ret w=>exact OkR.now (xr:=xr) o2 M2
   |brk env'=>exact OkR.now (xr:=xr) o2 M2
   |cont env'=>exact OkR.now (xr:=xr) o2 M2
  cases t with
  |true=>exact iteT (go sa o1)
  |false=>exact iteF (go sb o1)
theorem Xz:∀(is:List Nat) (vs:List V) (σ:L2.St),(setAll is vs σ).length=σ.length
 |[],_,_=>by unfold setAll;rfl
 |_::_,[],_=>by unfold setAll;rfl
 |i::is,v::vs,σ=>by unfold setAll;rw[Xz,Wx]
theorem ZoO{tg:Tg}{v:V}{σ:L2.St}{Q:L2.St->Hp->Prop}(h:gT K tg v σ H Q):gT K tg v σ H λσ' H'=>σ'.length=σ.length/\Q σ' H':=by
 cases tg with
 |nm i=>exact⟨Wx,h⟩
 |tp is =>
  obtain⟨a,xs,h1,h2,h3,h4⟩:=h
  exact⟨a,xs,h1,h2,h3,Xz _ _ _,h4⟩
theorem EnvR.same{cm:List Addr}{m m':Mem}{H:Hp}{env:Env}{σ:L2.St}(h:EnvR K cm m H env σ)(f:∀t v,RT K cm m H t v->RT K cm m' H t v):EnvR K cm m' H env σ:=λi w e=>by
 obtain⟨v,h1,h2⟩:=h i w e
 refine⟨v,h1,?_⟩
 cases w with
 |t t=>exact f t v h2
 |f a=>exact h2
 |x _ _ _=>exact XF.wsame f h2
 |o _ _ _=>exact RO.wsame f h2
 |u=>exact W4
 |c i=>exact h2
theorem Znl{tgt iter:Expr}{body:List Stmt}{tg:Tg}{it:E}{sb:S}(hc:X.calm=true)(hp:Ya5 (model X.prog X.w) X.A X.env X.xe)(hi:PI X tgt iter (tI X.K call gv xr it))(hg:PG X tgt (gT X.K tg))(ht:∀i∈tgS tg,i<n)(hb:PSs X body (tS X.K call gv xr n sb))(hk:PSs X rest (tS X.K call gv xr n k))(hs:∀x,W2 iter X.env x=pure x:=by intro _;rfl):PSs X (.For tgt iter body [] pos::rest) (tS X.K call gv xr n (.forr tg it sb k)):=
 PSs.mono (QR (ps_for hp hc hi hg hb hs) hk) λD σ0 H0 ⟨hl0,env0,cm0,m0,hE0,M0,ho⟩=>by
  rw[ex]at ho
  refine⟨env0,cm0,m0,hE0,M0,ho.bind.mono λx cm1 m1 H1 x1 M1 o1=>?_⟩
  cases hbr:Z5 x m1 with
  |stuck=>rw[hbr]at o1;exact o1.elim
  |exc e' m' =>
   exfalso
   unfold Z5 at hbr
   split at hbr<;>first|(cases hbr;done)|(split at hbr<;>cases hbr)
  |ok ts m2 =>
   rw[hbr]at o1
   obtain⟨xb,Mb⟩:=ZdY M1 hbr
   let g:Flow->Mem->Res Flow:=λfl m=>match fl with
    |.next env=>ex call gv k env (giveBack x m1 m)
    |.ret w=>.ok (.ret w) (giveBack x m1 m)
    |_=>.stuck
   have o1:OkR X.K ((Q3 (λenv m=>ex call gv sb env m) tg ts env0 m2).bind g) xr cm1 m1 H1 (λfl cm' m' H'=>ZfG X.K n D fl cm' m' H'):=o1
   refine⟨ts,m2,rfl,λJ hJ=>?_⟩
   let P:Flow->List Addr->Mem->Hp->Prop:=λfl _ m' _=>OkR X.K (g fl m') xr cm1 m1 H1 (λfl cm' m' H'=>ZfG X.K n D fl cm' m' H')
   -- behind the walk
   have fin:∀env cm m H σ,σ.length=n->EnvR X.K cm m H env σ->MemR X.K cm m H->Ext cm1 m2 H1 cm m H->P (.next env) cm m H->tS X.K call gv xr n k D σ H:=λenv cm m H σ hl hE M xx hP=>by
    obtain⟨xg,Mg,fg⟩:=ZbY M1 hbr xx M
    exact⟨hl,env,cm,_,EnvR.same hE fg,Mg,OkR.shift (hP) xg⟩
   refine⟨λi μ σ H=>μ=ts.length-i/\σ.length=n/\∃env cm m,EnvR X.K cm m H env σ/\MemR X.K cm m H/\Ext cm1 m2 H1 cm m H/\OkR X.K (Q3 (λenv m=>ex call gv sb env m) tg (ts.drop i) env m) xr cm m H P,⟨ts.length-0,rfl,hl0,env0,cm1,m2,(hE0.ext x1 M0 M1).ext xb M1 Mb,Mb,.refl,?_⟩,?_⟩
   ·rw[Yah]
    exact OkR.shift o1.bind0 xb
   ·rintro i μ σ H ⟨rfl,hl,env,cm,m,hE,M,xx,hq⟩
    have sJ:=hJ.ext xx Mb M
    cases e:ts[i]? with
    |none =>
     have ed:=List.drop_eq_nil_iff.mpr (GJ.mp e)
     rw[ed,Q3]at hq
     exact .inl ⟨sJ.stop M e,fin env cm m H σ hl hE M xx (OkR.now hq M)⟩
    |some t =>
     have hlt:=(Yj.mp e).1
     have ed:ts.drop i=t::ts.drop (i+1):=by
      rw[Ub hlt]
      rw[(Yj.mp e).2]
     rw[ed,Q3]at hq
     obtain⟨go,hy⟩:=sJ.go M e
     refine .inr ⟨go,λσ' H'=>σ'.length=n/\∃env cm m,EnvR X.K cm m H' env σ'/\MemR X.K cm m H'/\Ext cm1 m2 H1 cm m H'/\OkR X.K (Q3 (λenv m=>ex call gv sb env m) tg (ts.drop (i+1)) env m) xr cm m H' P,
      λσ' H' hN=>⟨ts.length-(i+1),by omega,rfl,hN⟩,λv H' y=>?_⟩
     obtain⟨xy,My,rt⟩:=hy v H' y
     have hE:=hE.ext xy M My
     have xx:=xx.trans xy
     have hq:=OkR.shift hq xy
     have M:=My
     split at hq
     ·exact hq.elim
     ·rename_i env' eb
      have:=ZoO (Zqk (Q:=λσ' H2=>H2=H'/\EnvR X.K cm m H' env' σ') hE (λj hj=>by rw[hl];exact ht j hj) rt eb λσ' hE' _=>⟨rfl,hE'⟩)
      have mono:∀{Q Q':L2.St->Hp->Prop},gT X.K tg v σ H' Q->(∀σ' H',Q σ' H'->Q' σ' H')->gT X.K tg v σ H' Q':=λ{Q Q'} h f=>by
       cases tg with
       |nm j=>exact f _ _ h
       |tp is =>
        obtain⟨a1,xs,z1,z2,z3,z4⟩:=h
        exact⟨a1,xs,z1,z2,z3,f _ _ z4⟩
      refine mono this ?_
      rintro σ2 H2 ⟨hl2,e2,hE2⟩
      subst e2
      refine⟨hl2.trans hl,env',cm,m,hE2,M,hq.bind.mono λfl cm3 m3 H3 x3 M3 o3=>?_⟩
      cases fl with
      |next env3=>exact λσ3 hl3 hE3=>⟨hl3,env3,cm3,m3,hE3,M3,xx.trans x3,o3⟩
      |cont env3=>exact λσ3 hl3 hE3=>⟨hl3,env3,cm3,m3,hE3,M3,xx.trans x3,o3⟩
      |brk env3=>exact λσ3 hl3 hE3=>fin env3 cm3 m3 H3 σ3 hl3 hE3 M3 (xx.trans x3) (OkR.now o3 M3)
      |ret w =>
       intro v3 rv3
       have hP:=OkR.now o3 M3
       obtain⟨xg,Mg,fg⟩:=ZbY M1 hbr (xx.trans x3) M3
       refine OkR.to (m':=giveBack x m1 m3) hP xg Mg v3 ?_
       cases w with
       |t t=>exact fg t v3 rv3
       |f a=>exact rv3
       |x _ _ _=>exact XF.wsame fg rv3
       |o _ _ _=>exact RO.wsame fg rv3
       |u=>exact W4
       |c j=>exact rv3
theorem Ziy{elt target iter:Expr}{ifs:List Expr}{gs:List WQ}{scope:Scope}{N':List Str}{own:Nat}{keep:List Nat}{it:E}{tg:Tg}{cs:Es}{inner:E}{i:Nat}{x:Str}{px spos:Pos}(hc:X.calm=true)(kk:CompK X xr0 call gv N' scope own keep elt target iter ifs gs it tg cs inner)(hN:X.N.Nodup)(hn:X.N.length=n)(hi:X.N[i]?=some x)(hx:X.env.scope.names.lookup x=some .local)(hk:PSs X rest (tS X.K call gv xr n k))(hsw:Yaj (.ListComp elt (⟨target,iter,ifs,0⟩::gs) scope pos) (some (.Name x px)) spos.line X.env=pure true:=by rfl):
  PSs X (.Assign [.Name x px] (.ListComp elt (⟨target,iter,ifs,0⟩::gs) scope pos) spos::rest) (tS X.K call gv xr n (.asg i (.comp own keep it tg cs inner) k)):=by
 have h1:PS X (.Assign [.Name x px] (.ListComp elt (⟨target,iter,ifs,0⟩::gs) scope pos) spos) (λD σ H=>∃env cm m m' out,EnvR X.K cm m H env σ/\MemR X.K cm m H/\ev call gv (.comp own keep it tg cs inner) env m=.ok (.t (.lst out)) m' /\
   ∀(p:Addr) (H3:Hp) (cm3:List Addr) (vs:List V),H3 p=none->X.K.lookup p=none->Ext cm m H cm3 m' H3->MemR X.K cm3 m' H3->RTs X.K cm3 m' H3 out vs->D.nx (σ.set i (some (.ref p))) (upd H3 p (.lst vs))):=
  λpins s σ H D I ⟨env,cm,m,m',out,hE,M,ok,q⟩=>Zok hc kk hN hi hx hsw I hE M ok q
 refine PSs.mono (QR h1 hk) ?_
 rintro D σ H ⟨hl,env,cm,m,hE,M,ho⟩
 rw[ex]at ho
 cases h:ev call gv (.comp own keep it tg cs inner) env m with
 |stuck=>rw[h]at ho;exact ho.elim
 |exc e m'=>exact absurd h (ZeQ e m')
 |ok w m' =>
  obtain⟨out,rfl⟩:=ZgZ h
  rw[h]at ho
  refine⟨env,cm,m,m',out,hE,M,h,λp H3 cm3 vs hp _ x3 M3 r3=>?_⟩
  have hi':i<σ.length:=by rw[hl,<-hn];exact(Yj.mp hi).1
  have x4:=x3.trans (Ext.new (o:=.lst vs) hp)
  have M4:=M3.new (o:=.lst vs) hp
  exact⟨by rw[Wx];exact hl,_,cm3,m',EnvR.set (w:=.t (.lst out)) (hE.ext x4 M M4) (RT.newLst M3 r3 hp) i hi',M4,OkR.shift (ho) x4⟩
end
noncomputable def Ahead(h:Heap)(e:Addr)(mk hd:Value):Prop:=hd=.none∨∃T oT ts,hd=.ref T/\T≠e/\h.get? T=some oT/\oT.data=.fields ts/\ts[3]?=some mk
theorem ZcB{o:Obj}{vs:Array Value}(h:o.data=.fields vs)(f:Array Value->Array Value):o.mapFields f={ o with data:=.fields (f vs) }:=by
 obtain⟨c,d,dt,sl⟩:=o
 cases h
 rfl
structure Noted (fr:List Addr) (h:Heap) (e:Addr) (oe:Obj) (mk:Value) (h':Heap):Prop where
 keep:∀b o,b∉fr->b≠e->h.get? b=some o->h'.get? b=some o
 slot:∀b o,b∈fr->h.get? b=some o->∃sl,h'.get? b=some { o with slots:=sl }
 new:∃T oT ts vs,h.get? T=none/\T≠e/\h'.get? T=some oT/\oT.data=.fields ts/\ts[3]?=some mk/\h'.get? e=some { oe with data:=.fields vs }/\vs[1]?=some (.ref T)
section
variable{M:Model}{A:Around}{E:Value->Shared->Prop}{s:Shared}{base:Heap}{env:Wv}{outer:List Wv}{L e:Addr}{oe:Obj}{vs:Array Value}{hd:Value}{Q:Unit->Shared->Prop}
theorem Zmj{before:Bool}(hfr:A.frames=some (env::outer))(hl:s.heap.FunFrames base (env::outer))(hf:env.frame=some L)(he:s.heap.get? e=some oe)(hv:oe.data=.fields vs)(h1:1<vs.size)(k:∀h':Heap,Noted (frs (env::outer)) s.heap e oe (rawInt L) h'->Q () { s with heap:=h' }):
  wpAny M A (do
   let a <-frameOf env
   let pl <-entryPlaceOf L before
   let b <-EntryCells.newEntry hd a .none (rawInt L) .none pl
   setField (.ref e) 1 b) Q E s:=by
 have ne:e∉frs (env::outer):=λhm=>by
  obtain⟨_,o,q,nf⟩:=hl.mem hm
  rw[he]at q;cases q
  exact nf vs hv
 refine Yb (wpAny_frameOf_fun hfr hl hf λh1' so=>?_)
 refine Yb (wpAny_entryPlaceOf λpl hp=>?_)
 unfold EntryCells.newEntry newFields
 refine Yb (Wt ?_ (hp.sizeOk5 _ _ _ _ _))
 have e1:=(so.2.1 e ne).trans he
 generalize hob:({ cls:=.type "traceback",dict:=none,data:=.fields ([hd,.ref L,.none,rawInt L,.none]++(if pl.isEmpty then Yo 6 Vl else pl)).toArray }:Obj)=ob
 have e2:=Ye ob e1
 have obf:ob.isFreed=false:=by rw[<-hob];rfl
 refine Ua e2 hv h1 (k _ ?_)
 have nT:=Vs (Yx e1)
 have kp:∀b o,b≠e->h1'.get? b=some o->((h1'.push ob).update e (Gx (·.setIfInBounds 1 (U3 h1'.objs.size)))).get? b=some o:=λb o hb q=>by
  rw[Y9 _ _ (Uo hb)]
  exact Ye _ q
 refine⟨λb o hb hbe q=>kp b o hbe ((so.2.1 b hb).trans q),λb o hb q=>?_,?_⟩
 ·obtain⟨sl,z⟩:=so.2.2 b o q
  exact⟨sl,kp b _ (λy=>ne (y▸hb)) z⟩
 ·refine⟨h1'.objs.size,ob,_,vs.setIfInBounds 1 (U3 h1'.objs.size),VD (by rw[so.1];exact Yn _),nT,?_,by rw[<-hob],?_,?_,?_⟩
  ·rw[Y9 _ _ (Uo nT)]
   exact Yy _ obf
  ·simp
  ·rw[Wg _ e2 (Ud (Wo hv _)),ZcB hv]
  ·simp[h1]
theorem note_x(hfr:A.frames=some (env::outer))(hl:s.heap.FunFrames base (env::outer))(hf:env.frame=some L)(he:s.heap.get? e=some oe)(hv:oe.data=.fields vs)(h1:vs[1]?=some hd)(ah:Ahead s.heap e .none hd)(k:∀h':Heap,Noted (frs (env::outer)) s.heap e oe (rawInt L) h'->Q () { s with heap:=h' }):wpAny M A (YaR (.ref e) env) Q E s:=by
 have hz:=(Uu.mp h1).1
 unfold YaR
 simp only[hf]
 refine Yb (VP he hv h1 ?_)
 rcases ah with rfl|⟨T,oT,ts,rfl,ne,hT,dT,mT⟩
 ·rw[if_neg (by decide)]
  exact Zmj hfr hl hf he hv hz k
 ·rw[if_pos (by simp)]
  refine Yb (VP hT dT mT ?_)
  rw[if_neg (by simp[rawInt])]
  refine Yb (Ua hT dT (Uu.mp mT).1 ?_)
  rw[Heap.update_setField_same s.heap T oT ts 3 .none hT dT mT]
  exact Zmj hfr hl hf he hv hz k
theorem Zoa{T:Addr}{oT:Obj}{ts:Array Value}{mk:Value}(he:s.heap.get? e=some oe)(hv:oe.data=.fields vs)(h1:vs[1]?=some (.ref T))(hT:s.heap.get? T=some oT)(dT:oT.data=.fields ts)(mT:ts[3]?=some mk)(k:∀h':Heap,(∀b,b≠T->h'.get? b=s.heap.get? b)->h'.get? T=some { oT with data:=.fields (ts.setIfInBounds 3 .none) }->Q () { s with heap:=h' }):wpAny M A (YbK (.ref e) none) Q E s:=by
 unfold YbK
 refine Yb (VP he hv h1 ?_)
 rw[if_pos (by simp)]
 refine Ua hT dT (Uu.mp mT).1 (k _ (λb hb=>Y9 _ _ (Uo hb)) ?_)
 rw[Wg _ hT (Ud (Wo dT _)),ZcB dT]
 rfl
end
noncomputable def xeP(e C:Addr)(dx:Option Addr)(hd:Value)(h:Heap):Prop:=∃oe vs,h.get? e=some oe/\oe.cls=.ref C/\oe.dict=dx/\oe.data=.fields vs/\vs[1]?=some hd
noncomputable def xtP(T:Addr)(h:Heap):Prop:=∃oT ts,h.get? T=some oT/\oT.data=.fields ts/\ts[3]?=some .none
structure Air (P:YQ) (w:World) (fr:List Addr) (H:Hp) (s:Shared) (H':Hp) (e C:Addr) (dx:Option Addr) (s':Shared):Prop where
 os:s'.os=s.os
 bare:Yas s'.gens
 un:Un fr [] H H' s.heap s'.heap
 hok:HOk P w H' s'.heap
 no:H' e=none
 new:s.heap.get? e=none
 at':∃hd,xeP e C dx hd s'.heap/\(hd=.none∨∃T,hd=.ref T/\T≠e/\xtP T s'.heap)
section
variable{P:YQ}{w:World}{M:Model}{A:Around}{E:Value->Shared->Prop}{s s':Shared}{H H':Hp}{base:Heap}{env:Wv}{outer:List Wv}{L e C:Addr}{dx:Option Addr}{Q:Unit->Shared->Prop}
theorem land(a:Air P w (frs (env::outer)) H s H' e C dx s')(fre:∀b∈frs (env::outer),H' b=none)(hfr:A.frames=some (env::outer))(hl:s'.heap.FunFrames base (env::outer))(hf:env.frame=some L)(k:∀(h':Heap) (T:Addr),Air P w (frs (env::outer)) H s H' e C dx { s' with heap:=h' }->xeP e C dx (.ref T) h'->xtP T h'->T≠e->Q () { s' with heap:=h' }):
  wpAny M A (YaR (.ref e) env) (λ_ s1=>wpAny M A (YbK (.ref e) none) Q E s1) E s':=by
 obtain⟨hd,⟨oe,vs,q1,q2,q3,q4,q5⟩,ah⟩:=a.at'
 refine note_x hfr hl hf q1 q4 q5 ?_ λh1 N=>?_
 ·rcases ah with rfl|⟨T,rfl,ne,oT,ts,z⟩
  ·exact .inl rfl
  ·exact .inr ⟨T,oT,ts,rfl,ne,z⟩
 obtain⟨T,oT,ts,vs',a1,a2,a3,a4,a5,a6,a7⟩:=N.new
 refine Zoa a6 rfl a7 a3 a4 a5 λh2 k2 hT=>?_
 have neT:∀b o,s'.heap.get? b=some o->b≠T:=λb o q z=>by rw[z,a1]at q;cases q
 have kp:=λb o hb hbe q=>(k2 b (neT b o q)).trans (N.keep b o hb hbe q)
 have sl:∀b o,b∈frs (env::outer)->s'.heap.get? b=some o->∃sl,h2.get? b=some { o with slots:=sl }:=λb o hb q=>by
  obtain⟨sl,z⟩:=N.slot b o hb q
  exact⟨sl,(k2 b (neT b o q)).trans z⟩
 have nb:∀b o,s.heap.get? b=some o->b≠e:=λb o q z=>by rw[z,a.new]at q;cases q
 have xe2:xeP e C dx (.ref T) h2:=⟨_,vs',(k2 e (Uo a2)).trans a6,q2,q3,rfl,a7⟩
 have xt2:xtP T h2:=⟨_,_,hT,rfl,by simp[(Uu.mp a5).1]⟩
 refine k h2 T ⟨a.os,a.bare,⟨λb o q n hb hx=>kp b o hb (nb b o q) (a.un.keep b o q n hb hx),λb o q n hb hx=>?_,a.un.free,λb o q hx=>?_,a.un.tups,a.un.frzs,a.un.tbls⟩,λb u q=>?_,a.no,a.new,_,xe2,.inr ⟨T,rfl,a2,xt2⟩⟩ xe2 xt2 a2
 ·obtain⟨s1,e1⟩:=a.un.slot b o q n hb hx
  obtain⟨s2,e2⟩:=sl b _ hb e1
  exact⟨s2,e2⟩
 ·obtain⟨o',e1⟩:=a.un.there b o q hx
  by_cases hb:b∈frs (env::outer)
  ·obtain⟨s2,e2⟩:=sl b _ hb e1
   exact⟨_,e2⟩
  ·exact⟨_,kp b o' hb (nb b o q) e1⟩
 ·refine(a.hok b u q).stay (λc v hc r=>kp c v ?_ ?_ r) (λ_ z=>z) λ_ _ z=>z
  ·intro hm
   rcases hc with rfl|hc
   ·rw[fre _ hm]at q;cases q
   ·rw[fre _ hm]at hc;cases hc
  ·rintro rfl
   rcases hc with rfl|hc
   ·rw[a.no]at q;cases q
   ·rw[a.no]at hc;cases hc
theorem ZlL(a:Air P w (frs (env::outer)) H s H' e C dx s')(fre:∀b∈frs (env::outer),H' b=none)(hfr:A.frames=some (env::outer))(hl:s'.heap.FunFrames base (env::outer))(hf:env.frame=some L)(k:∀h':Heap,Air P w (frs (env::outer)) H s H' e C dx { s' with heap:=h' }->Q () { s' with heap:=h' }):wpAny M A (leaving env (.ref e)) Q E s':=by
 unfold leaving
 exact Yb (land a fre hfr hl hf λh' T a' _ _ _=>k h' a')
end
noncomputable def CXF(P:YQ)(w:World):CXT:=λouter H s E ev s'=>∃e C dx H',ev=.ref e/\Air P w (frs outer) H s H' e C dx s'/\E (.ref C) dx H'
noncomputable def Lk(X:Cx)(xr:XR):Prop:=∀(pins:List (Addr×Obj)) (σ:L2.St) (H:Hp) (s:Shared) (H':Hp) (e:Addr) (dx:Option Addr) (s':Shared) (cm:List Addr) (m:Mem) (x:Exc),Inv X pins σ H s ->
 Air X.prog X.w (frs X.stack) H s H' e x.cls dx s'->MemR X.K cm m H'->XF X.K cm m H' x.nms x.flds dx->xr x cm m H'->X.xe (.ref e) s'
theorem lk0{X:Cx}:Lk X xr0:=λ_ _ _ _ _ _ _ _ _ _ _ _ _ _ _ h=>h.elim
noncomputable abbrev asX(X:Cx)(xe:Value->Shared->Prop)(pn:List (Addr×Obj)):Cx:={ X with xe:=xe,pn:=pn }
structure Go (X:Cx) (xr:XR):Prop where
 lk:Lk X xr
 po:Ya5 (model X.prog X.w) X.A X.env X.xe
section
variable{K:Frag}{cm cm':List Addr}{m m':Mem}{H H' H'':Hp}{X:Cx}
variable(K) in
noncomputable def xrE(E:XK):XR:=λx cm m H=>∀dx,XF K cm m H x.nms x.flds dx->E (.ref x.cls) dx H
variable(K) in
noncomputable def EX(xr:XR):XK:=λcls dx H=>∃cm m x,MemR K cm m H/\cls=.ref x.cls/\XF K cm m H x.nms x.flds dx/\xr x cm m H
theorem Lk.passes{xr:XR}(h:Lk X xr):ZmN (CXF X.prog X.w) X (EX X.K xr):=λpins σ H s ev s' I ⟨e,C,dx,H',he,air,cm,m,x,M,hc,hf,q⟩=>by
 subst he
 cases hc
 exact h pins σ H s H' e dx s' cm m x I air M hf q
theorem OkR.monoX{α:Type}{r:Res α}{xr xr':XR}{k:α->List Addr->Mem->Hp->Prop}(h:OkR K r xr cm m H k)(f:∀x cm' m' H',Ext cm m H cm' m' H'->MemR K cm' m' H'->xr x cm' m' H'->xr' x cm' m' H'):OkR K r xr' cm m H k:=by
 cases r with
 |ok a m2=>exact h
 |exc a m2=>exact λc h' e M=>f _ _ _ _ e M (h c h' e M)
 |stuck=>exact h
theorem OkR.toE{α:Type}{r:Res α}{xr:XR}{k:α->List Addr->Mem->Hp->Prop}(h:OkR K r xr cm m H k):OkR K r (xrE K (EX K xr)) cm m H k:=
 h.monoX λx cm' m' H' _ M q dx hf=>⟨cm',m',x,M,rfl,hf,q⟩
theorem Zo2{fs:List Addr}{H0 H1 H2:Hp}{h0 h1 h2:Heap}{L:Addr}(a:Un fs [] H0 H1 h0 h1)(b:Un (L::fs) [] H1 H2 h1 h2)(hL:h0.get? L=none):Un fs [] H0 H2 h0 h2 where
 keep:=λc ob q n hc hx=>b.keep c ob (a.keep c ob q n hc hx) (a.free c ob q n hx) (λz=>(Ym.mp z).elim (λz=>by rw[z,hL]at q;cases q) hc) hx
 slot:=λc ob q n hc hx=>by
  obtain⟨sl,e1⟩:=a.slot c ob q n hc hx
  obtain⟨sl',e2⟩:=b.slot c _ e1 (a.free c ob q n hx) (Yp _ hc) hx
  exact⟨sl',e2⟩
 free:=λc ob q n hx=>by
  obtain⟨o',e1⟩:=a.there c ob q hx
  exact b.free c o' e1 (a.free c ob q n hx) hx
 there:=λc ob q hx=>by
  obtain⟨o',e1⟩:=a.there c ob q hx
  exact b.there c o' e1 hx
 tups:=λc xs q=>b.tups c xs (a.tups c xs q)
 frzs:=λc ob xs q=>b.frzs c ob xs (a.frzs c ob xs q)
 tbls:=λc ps q=>by
  obtain⟨m1,e1⟩:=a.tbls c ps q
  obtain⟨m2,e2⟩:=b.tbls c _ e1
  exact⟨m1++m2,by rw[e2,Array.append_assoc]⟩
end
theorem Inv.air{X:Cx}{pins:List (Addr×Obj)}{σ:L2.St}{H H':Hp}{s s':Shared}{e C:Addr}{dx:Option Addr}(I:Inv X pins σ H s)(a:Air X.prog X.w (frs X.stack) H s H' e C dx s'):Inv X pins σ H' s':=
 I.call' a.os a.un a.hok a.bare λb z=>absurd z (by simp)
theorem Zqj{P:YQ}{w:World}{K:Frag}{mg:Str->Option Value}{base:Heap}{N:List Str}{qual:Str}{scope:Scope}{f:Addr}{cd:Value}{A:Around}{outer:List Wv}{s:Shared}{H:Hp}{E:XK}:
  Go (cxOf (CXF P w) P w K mg base N qual scope f cd A outer s H E) (xrE K E):=by
 refine⟨λpins σ H1 s1 H' e dx s' cm m x I a M hf q=>?_,PassesOwn.leaving⟩
 have I':=Inv.air I a
 have gone:s.heap.get? e=none:=by
  cases y:s.heap.get? e with
  |none=>rfl
  |some o =>
   obtain⟨o',y'⟩:=I.base.there e o y (by intro z;cases z)
   rw[a.new]at y';cases y'
 refine ZlL a I'.stkFree I'.ok.frames I'.stack rfl λh' a'=>?_
 exact⟨e,x.cls,dx,H',rfl,⟨I'.os,a'.bare,Zo2 I.base a'.un (VD (Yn _)),a'.hok,a'.no,gone,a'.at'⟩,q dx hf⟩
theorem Zqm{P:YQ}{w:World}{K:Frag}{mg:Str->Option Value}{base:Heap}{x qual:Str}{st:Stmt}{f:Addr}{fd:W8}{N ps:List Str}{k:Nat}{sp:Sp}(F:Fun K x qual st f fd)(S:FnScope N ps (Zc st))(len:∀vs H Q E,sp vs H Q E->vs.length=ps.length)(hbody:∀(cdv:Value),codeIn K cdv qual=true->∀(A:Around) (outer:List Wv) (s:Shared) (H:Hp) (vs:List V) (Q:VK) (E:XK),Room (k+1) A->HOk P w H s.heap->sp vs H Q E ->
  ∃t,PSs (cxOf (CXF P w) P w K mg base N qual (Zc st) f cdv A outer s H E) (Q5 st) t/\t { nx:=λ_ H'=>Q .non H',rt:=Q } (start N vs) H):FnOk P w K mg base (CXF P w) (k+1) f fd ps sp:=by
 obtain⟨oc,od,kV,doc,pm,an,cdv,ct,osl,rfl,lk,hcd⟩:=F.ex
 exact fn_of lk hcd S len λA outer s H vs Q E hr hk hsp=>hbody cdv hcd A outer s H vs Q E hr hk hsp
noncomputable def spF(K:Frag)(fns:List Fn)(gv:List T)(k f:Nat):Sp:=λvs H Q E=>∃cm m ws,MemR K cm m H/\RWs K cm m H ws vs/\OkR K (Zbm fns gv k f ws m) (xrE K E) cm m H λw cm' m' H'=>∀v,RW K cm' m' H' w v->Q v H'
noncomputable def FOk(P:YQ)(w:World)(K:Frag)(mg:Str->Option Value)(base:Heap)(fns:List Fn)(gv:List T)(k:Nat)(x:Str)(fi:Nat):Prop:=
 ∃f fd ps,mg x=some (.ref f)/\keepIn K (.ref f)=true/\Binds K fd ps []/\FnOk P w K mg base (CXF P w) k f fd ps (spF K fns gv k fi)
section
variable{K:Frag}{cm cm':List Addr}{m m':Mem}{H H':Hp}{X:Cx}{fns:List Fn}{gv:List T}
variable{a b c e:Expr}{es:List Expr}{ea eb ec:E}{eas:Es}{pos p p2:Pos}{k n:Nat}
theorem ZnO{fi:Nat}{x:Str}{xr:XR}(lk:Lk X xr)(F:FOk X.prog X.w X.K X.mg X.base fns gv k x fi)(hr:Room k X.A)(hg:Gl X x)(ha:PA X (e::es) (tA X.K (Zbm fns gv k) gv xr eas))(hdb:(x==("__debug__" : Str))=false:=by decide)(he:notStar e=true:=by rfl)(hpl:es.all notStar=true:=by rfl):
  PE X (.Call (.Name x p) (e::es) [] pos) (tE X.K (Zbm fns gv k) gv xr (.call fi eas)):=by
 obtain⟨f,fd,ps,hm,hk,hb,F⟩:=F
 refine PE.mono (ZpM F hr hg hm hk hb .nil lk.passes ha hdb (QL he) (Za3 hpl)) ?_
 rintro σ H Q ⟨env,cm,m,hE,M,ho⟩
 rw[ev]at ho
 refine⟨env,cm,m,hE,M,ho.bind.mono λws cm1 m1 H1 x1 M1 o1 vs rvs=>?_⟩
 show spF X.K fns gv k fi (vs++[]) H1 Q (EX X.K xr)
 rw[Ur]
 exact⟨cm1,m1,ws,M1,rvs,o1.toE⟩
theorem Xl{i n:Nat}{c:Bool×List T}(h:(m.take n)[i]?=some (some c)):m[i]?=some (some c)/\i<n:=by
 rw[Yac]at h
 split at h
 ·exact⟨h,‹_›⟩
 ·cases h
theorem Q9{i n:Nat}(h:i<n):(cm.take n)[i]?=cm[i]?:=by rw[Yac,if_pos h]
theorem Zau{n:Nat}{a:Addr}(h:ZC cm m a):ZC (cm.take n) (m.take n) a:=λi q e=>by
 obtain⟨e1,hi⟩:=Xl e
 rw[Q9 hi]
 exact h i q e1
theorem Zm2(M:MemR K cm m H)(n:Nat):MemR K (cm.take n) (m.take n) H/\∀t v,RT K cm m H t v->RT K (cm.take n) (m.take n) H t v:=by
 have sm:∀t v,RT K cm m H t v->RT K (cm.take n) (m.take n) H t v:=λt v r=>r.same (λ_ _ z=>z) λ_ z _=>Zau z
 refine⟨⟨by rw[Wz,Wz,M.len],λi j a q r e1 e2 f1 f2=>?_,λi q e=>?_,M.tab⟩,sm⟩
 ·obtain⟨e1,h1⟩:=Xl e1
  obtain⟨e2,h2⟩:=Xl e2
  rw[Q9 h1]at f1
  rw[Q9 h2]at f2
  exact M.inj i j a q r e1 e2 f1 f2
 ·obtain⟨e1,h1⟩:=Xl e
  obtain⟨a,vs,q1,q2,q3,q4⟩:=M.at' i q e1
  exact⟨a,vs,by rw[Q9 h1];exact q1,q2,q3,Zt (λ_ _ z=>sm _ _ z) q4⟩
theorem Zm3(M:MemR K cm m H)(x:Ext cm m H cm' m' H'):Ext cm m H (cm'.take m.length) (m'.take m.length) H':=by
 refine⟨λi a h=>?_,by rw[Wz];have:=x.len;omega,λi ts h=>?_,λa o h n=>⟨(x.keep a o h n).1,Zau (x.keep a o h n).2⟩⟩
 ·have hi:=(Yj.mp h).1
  rw[M.len]at hi
  rw[Q9 hi]
  exact x.pre i a h
 ·have hi:=(Yj.mp h).1
  rw[Yac,if_pos hi]
  exact x.lent i ts h
theorem fin_ok{xr:XR}{cell:Bool}{fl:Flow}{Q:VK}{nn:Nat}(M:MemR K cm m H)(x:Ext cm m H cm' m' H')(M':MemR K cm' m' H')(ho:OkR K (fin m.length cell fl m') xr cm m H λw cm' m' H'=>∀v,RW K cm' m' H' w v->Q v H'):
  ZfG K nn { nx:=λ_ H'=>Q .non H',rt:=Q } fl cm' m' H':=by
 obtain⟨Mt,st⟩:=Zm2 M' m.length
 have xt:=Zm3 M x
 cases fl with
 |next env=>exact λσ _ _=>OkR.to ho xt Mt _ .non
 |brk env=>exact ho.elim
 |cont env=>exact ho.elim
 |ret w =>
  intro v rv
  cases w with
  |t t=>exact OkR.to ho xt Mt v (st t v rv)
  |f a=>exact ho.elim
  |x _ _ _=>exact ho.elim
  |o _ _ _=>exact ho.elim
  |u=>exact ho.elim
  |c i =>
   unfold fin at ho
   dsimp only at ho
   split at ho
   ·rename_i hi
    obtain⟨a,h1,h2⟩:=rv
    exact OkR.to ho xt Mt v ⟨a,by rw[Q9 hi];exact h1,h2⟩
   ·rename_i hi
    split at ho
    ·rename_i ts e
     obtain⟨a,h1,h2⟩:=rv
     obtain⟨a',vs,q1,q2,q3,q4⟩:=M'.at' i _ e
     rw[h1]at q1;cases q1
     have na:ZC (cm'.take m.length) (m'.take m.length) a:=λj q ej z=>by
      obtain⟨ej,hj⟩:=Xl ej
      rw[Q9 hj]at z
      have:=M'.inj j i a _ _ ej e z h1
      omega
     have lt:(cm'.take m.length).length=m.length:=by rw[Wz,M'.len];have:=x.len;omega
     have lm:(m'.take m.length).length=m.length:=by rw[Wz];have:=x.len;omega
     split at ho
     ·-- a list that may change is handed back
      have nl:∀b,ZC cm' m' b->ZC (cm'.take m.length++[a]) (m'.take m.length++[some (false,ts)]) b:=λb n=>by
       refine Zdw (by rw[lt,lm]) (Zau n) λz=>?_
       subst z
       exact n i _ e h1
      have sm:∀t v,RT K cm' m' H' t v->RT K (cm'.take m.length++[a]) (m'.take m.length++[some (false,ts)]) H' t v:=λt v r=>r.same (λ_ _ z=>z) λb z _=>nl b z
      have cs:∀{j:Nat}{c:Bool×List T},(m'.take m.length++[some (false,ts)])[j]?=some (some c)->((m'.take m.length)[j]?=some (some c)/\j<m.length)∨(j=m.length/\c=(false,ts)):=λ{j c} ej=>by
       by_cases hj:j<m.length
       ·rw[YC (by rw[lm];exact hj)]at ej
        exact .inl ⟨ej,hj⟩
       ·by_cases hj2:j=m.length
        ·subst hj2
         rw[YG (by rw[lm];exact Yn _),lm,Gu]at ej
         cases ej
         exact .inr ⟨rfl,rfl⟩
        ·rw[UJ (by rw[Yi,lm];simp;omega)]at ej
         cases ej
      have cl:∀{j:Nat},j<m.length->(cm'.take m.length++[a])[j]?=(cm'.take m.length)[j]?:=λ{j} hj=>YC (by rw[lt];exact hj)
      have cp:(cm'.take m.length++[a])[m.length]?=some a:=by
       rw[YG (by rw[lt];exact Yn _),lt,Gu]
       rfl
      refine OkR.to (cm':=cm'.take m.length++[a]) ho ⟨λj b h=>?_,by rw[Yi,lm];simp,λj us h=>?_,λb o h nb=>⟨(x.keep b o h nb).1,nl b (x.keep b o h nb).2⟩⟩ ⟨by rw[Yi,Yi,lt,lm];rfl,λj1 j2 b c1 c2 e1 e2 f1 f2=>?_,λj c ej=>?_,M'.tab⟩ v ⟨a,cp,h2⟩
      ·have hj:=(Yj.mp h).1
       rw[M.len]at hj
       rw[cl hj]
       exact xt.pre j b h
      ·have hj:=(Yj.mp h).1
       rw[YC (by rw[lm];exact hj)]
       exact xt.lent j us h
      ·rcases cs e1 with⟨g1,l1⟩|⟨k1,_⟩
       ·rw[cl l1]at f1
        rcases cs e2 with⟨g2,l2⟩|⟨k2,_⟩
        ·rw[cl l2]at f2
         exact Mt.inj j1 j2 b _ _ g1 g2 f1 f2
        ·rw[k2,cp]at f2;cases f2
         exact absurd f1 (na j1 _ g1)
       ·rw[k1,cp]at f1;cases f1
        rcases cs e2 with⟨g2,l2⟩|⟨k2,_⟩
        ·rw[cl l2]at f2
         exact absurd f2 (na j2 _ g2)
        ·rw[k1,k2]
      ·rcases cs ej with⟨g,l⟩|⟨kk,z⟩
       ·obtain⟨gg,_⟩:=Xl g
        obtain⟨b,ws,w1,w2,w3,w4⟩:=M'.at' j c gg
        exact⟨b,ws,by rw[cl l,Q9 l];exact w1,w2,w3,Zt (λ_ _ z=>sm _ _ z) w4⟩
       ·rw[kk,z]
        exact⟨a,vs,cp,q2,q3,Zt (λ_ _ z=>sm _ _ z) q4⟩
     ·subst h2
      exact OkR.to ho xt Mt _ (RT.mlst q2 na (Zt (λ_ _ z=>st _ _ z) q4))
    ·exact ho.elim
theorem Zpb{N:List Str}{ws:List W}{vs:List V}{j:Nat}(r:RWs K cm m H ws vs)(hj:j=N.length-vs.length):EnvR K cm m H (ws.map some++Yo j none) (L2.start N vs):=λi w e=>by
 unfold L2.start
 have hl:=r.length
 by_cases hi:i<ws.length
 ·rw[YC (by simpa using hi),Y4]at e
  cases q:ws[i]? with
  |none=>rw[q]at e;cases e
  |some w' =>
   rw[q]at e;cases e
   obtain⟨v,h1,h2⟩:=ZX r q
   refine⟨v,?_,h2⟩
   rw[YC (by rw[Yc];omega),Y4,h1]
   rfl
 ·rw[YG (by simpa using hi),Ug]at e
  split at e<;>cases e
theorem ZkM{N:List Str}{vs:List V}(h:vs.length<=N.length):(L2.start N vs).length=N.length:=by
 unfold L2.start
 rw[Yi,Yc,Uy]
 omega
theorem fn_okL{P:YQ}{w:World}{mg:Str->Option Value}{base:Heap}{x qual:Str}{st:Stmt}{f:Addr}{fd:W8}{N ps:List Str}{fi:Nat}{d:Fn}(F:Fun K x qual st f fd)(S:FnScope N ps (Zc st))(hd:fns[fi]?=some d)(hps:d.ps=ps.length)(hn:d.n=N.length)(hbody:∀(cdv:Value),codeIn K cdv qual=true->∀(A:Around) (outer:List Wv) (s:Shared) (H:Hp) (E:XK),Room (k+1) A->∀(xe:Value->Shared->Prop) (pn:List (Addr×Obj)) (xr:XR),
   Go (asX (cxOf (CXF P w) P w K mg base N qual (Zc st) f cdv A outer s H E) xe pn) xr->PSs (asX (cxOf (CXF P w) P w K mg base N qual (Zc st) f cdv A outer s H E) xe pn) (Q5 st) (tS K (Zbm fns gv k) gv xr N.length d.body)):
  FnOk P w K mg base (CXF P w) (k+1) f fd ps (spF K fns gv (k+1) fi):=by
 have hpl:ps.length<=N.length:=by have:=congrArg YW S.pre;rw[Wz]at this;omega
 have len:∀{ws:List W}{m:Mem}{cm:List Addr}{H:Hp}{xr:XR}{post:W->List Addr->Mem->Hp->Prop},OkR K (Zbm fns gv (k+1) fi ws m) xr cm m H post->ws.length=d.ps/\OkR K ((ex (Zbm fns gv k) gv d.body (ws.map some++Yo (d.n-d.ps) none) m).bind λfl m'=>fin m.length d.cell fl m') xr cm m H post:=λ{ws m cm H xr post} h=>by
  rw[Zbm,hd]at h
  dsimp only at h
  by_cases hc:ws.length=d.ps
  ·rw[if_pos hc]at h;exact⟨hc,h⟩
  ·rw[if_neg hc]at h;exact h.elim
 refine Zqm F S (λvs H Q E ⟨cm,m,ws,M,r,ho⟩=>by rw[<-r.length,(len ho).1,hps]) (λcdv hcd A outer s H vs Q E hr hk ⟨cm,m,ws,M,r,ho⟩=>?_)
 obtain⟨hl,ho⟩:=len ho
 have hv:vs.length=ps.length:=by rw[<-r.length,hl,hps]
 refine⟨_,hbody cdv hcd A outer s H E hr _ _ (xrE K E) Zqj,ZkM (by omega),ws.map some++Yo (d.n-d.ps) none,cm,m,Zpb r (by rw[hn,hps,hv]),M,?_⟩
 exact ho.bind0.mono λfl cm1 m1 H1 x1 M1 o1=>fin_ok M x1 M1 o1
theorem fn_okW{P:YQ}{w:World}{mg:Str->Option Value}{base:Heap}{x qual:Str}{st:Stmt}{f:Addr}{fd:W8}{N ps:List Str}{fi:Nat}{d:Fn}(F:Fun K x qual st f fd)(S:FnScope N ps (Zc st))(hd:fns[fi]?=some d)(hps:d.ps=ps.length)(hn:d.n=N.length)(hbody:∀(cdv:Value) (A:Around) (outer:List Wv) (s:Shared) (H:Hp) (E:XK),Room k (A.deeper (envOfC qual (Zc st) s.heap.objs.size f cdv))->∀(xe:Value->Shared->Prop) (pn:List (Addr×Obj)) (xr:XR),
   Go (asX (cxOf (CXF P w) P w K mg base N qual (Zc st) f cdv A outer s H E) xe pn) xr->PSs (asX (cxOf (CXF P w) P w K mg base N qual (Zc st) f cdv A outer s H E) xe pn) (Q5 st) (tS K (Zbm fns gv k) gv xr N.length d.body)):
  FnOk P w K mg base (CXF P w) (k+1) f fd ps (spF K fns gv (k+1) fi):=
 fn_okL F S hd hps hn λcdv _ A outer s H E hr=>hbody cdv A outer s H E (hr.deeper _)
theorem Zqo{P:YQ}{w:World}{mg:Str->Option Value}{base:Heap}{f:Addr}{fd:W8}{ps:List Str}{fi:Nat}:FnOk P w K mg base (CXF P w) 0 f fd ps (spF K fns gv 0 fi):=by
 have no:∀vs H Q E,¬spF K fns gv 0 fi vs H Q E:=λvs H Q E ⟨cm,m,ws,M,r,ho⟩=>by
  rw[Zbm]at ho
  exact ho
 exact⟨λvs H Q E h=>absurd h (no vs H Q E),λA outer s H args us vs Q E _ _ _ _ h=>absurd h (no vs H Q E)⟩
end
end Mi
namespace Mi
open PySem PySem.Spec PyProof.Rows L2 PySem.W
section
variable{X:Cx}{pins pins':List (Addr×Obj)}{σ:L2.St}{H:Hp}{s:Shared}{xe:Value->Shared->Prop}{e:Option Value}
theorem inv_as(I:Inv X pins σ H s)(xe:Value->Shared->Prop):Inv (asX X xe (X.pn++pins)) [] σ H s:=
 ⟨⟨I.ok.mod,I.ok.kind,I.ok.glob,I.ok.blt,I.ok.above,I.ok.inj,I.ok.has,I.ok.cab,I.ok.hd,I.ok.frames,I.ok.stk,I.ok.exf,I.ok.bs,I.ok.bsz,I.ok.noex,I.ok.exfs,I.ok.funs,I.ok.frf⟩,I.os,I.bare,I.base,I.loc,I.cell,I.free,I.freeC,λp hp=>I.pin p (by rw[Ur]at hp;exact hp),I.hok,I.len⟩
theorem ZiM(I:Inv (asX X xe (X.pn++pins)) pins' σ H s):Inv X pins σ H s:=
 ⟨⟨I.ok.mod,I.ok.kind,I.ok.glob,I.ok.blt,I.ok.above,I.ok.inj,I.ok.has,I.ok.cab,I.ok.hd,I.ok.frames,I.ok.stk,I.ok.exf,I.ok.bs,I.ok.bsz,I.ok.noex,I.ok.exfs,I.ok.funs,I.ok.frf⟩,I.os,I.bare,I.base,I.loc,I.cell,I.free,I.freeC,λp hp=>I.pin p (Wm _ hp),I.hok,I.len⟩
end
section
variable{X:Cx}{xr:XR}{call:Nat->List W->Mem->Res W}{gv:List T}{n:Nat}
noncomputable def unS(i:Option Nat)(σ:L2.St):L2.St:=match i with
 |some j=>σ.set j none
 |none=>σ
end
end Mi
namespace Mi
open PySem PySem.Spec PyProof.Rows L2
section
variable{K:Frag}{xr:XR}{X:Cx}{call:Nat->List W->Mem->Res W}{gv:List T}
variable{e:Expr}{ea:E}{pos:Pos}{rest:List Stmt}{k:S}{n:Nat}
theorem vr(i:Nat){x:Str}{pos:Pos}(hN:X.N[i]?=some x:=by rfl)(hv:Vis X.env.scope x:=by first|exact Or.inl rfl|exact Or.inr (Or.inl rfl)|exact Or.inr (Or.inr rfl))(hd:(x==("__debug__" : Str))=false:=by decide)(hcd:(x==("__classdict__" : Str))=false:=by decide):PE X (.Name x pos) (tE X.K call gv xr (.var i)):=Zpt hN hv hd hcd
theorem sg(i:Nat){x:Str}{px:Pos}(hN:X.N.Nodup)(h:PE X e (tE X.K call gv xr ea))(hk:PSs X rest (tS X.K call gv xr n k))(hn:X.N.length=n:=by rfl)(hi:X.N[i]?=some x:=by rfl)(hx:Loc X.env.scope x:=by first|exact Or.inl rfl|exact Or.inr rfl)(hs:Yaj e (some (.Name x px)) pos.line X.env=pure false:=by rfl)(hf:X.fn x=true∨X.env.scope.names.lookup x=some .local:=by first|exact .inl rfl|exact .inr rfl):PSs X (.Assign [.Name x px] e pos::rest) (tS X.K call gv xr n (.asg i ea k)):=Znn hN hn hi hx h hk hs hf
theorem ZW(i:Nat){x:Str}{pos:Pos}(hN:X.N.Nodup)(hi:X.N[i]?=some x:=by rfl)(hx:Loc X.env.scope x:=by first|exact Or.inl rfl|exact Or.inr rfl)(hf:X.fn x=true∨X.env.scope.names.lookup x=some .local:=by first|exact .inl rfl|exact .inr rfl):PG X (.Name x pos) (gT X.K (.nm i)):=Z2 hN hi hx hf
noncomputable def scOk(scope osc:Scope):Bool:=scope.kind==.function&&scope.names.all λp=>scope.names.lookup p.1==some p.2&&(p.2 != .free || osc.names.lookup p.1==some .cell || osc.names.lookup p.1==some .free)
noncomputable def ZoL(N' N:List Str)(own:Nat)(keep:List Nat)(scope:Scope):Bool:=N'.length==own+keep.length&&(Wh keep.length).all λi=>match N'[own+i]?,keep[i]? with
 |some x,some j=>N[j]?==some x&&scope.names.any λp=>p.1==x&&p.2==.free
 |_,_=>false
theorem Zol{N':List Str}{scope:Scope}{own:Nat}{keep:List Nat}{elt target iter:Expr}{ifs:List Expr}{gs:List WQ}{it:E}{tg:Tg}{cs:Es}{inner:E}(h1:scOk scope X.env.scope=true)(h2:ZoL N' X.N own keep scope=true)(pi:PI X target iter (tI X.K call gv xr it))(fs:∀x,W2 iter X.env x=pure x)(ins:ZmP X xr call gv N' scope elt target ifs (⟨target,iter,ifs,0⟩::gs) tg cs inner)(dis:∀i∈tgS tg,i∉innS inner)(slt:∀i∈tgS tg++innS inner,i<own):
  CompK X xr call gv N' scope own keep elt target iter ifs gs it tg cs inner:=by
 unfold scOk at h1
 rw[Yg]at h1
 obtain⟨hk,h1⟩:=h1
 have h1:=Yr.mp h1
 unfold ZoL at h2
 rw[Yg]at h2
 obtain⟨hl,h2⟩:=h2
 have h2:=Yr.mp h2
 refine⟨⟨eq_of_beq hk,λp hp=>?_,λx hx=>?_⟩,eq_of_beq hl,λi x e=>?_,pi,fs,ins,dis,slt⟩
 ·have:=h1 p hp
  simp only[Yg]at this
  exact eq_of_beq this.1
 ·have:=h1 _ hx
  simp only[Yg,Ue]at this
  rcases this.2 with(h|h)|h
  ·cases h
  ·exact .inl (eq_of_beq h)
  ·exact .inr (eq_of_beq h)
 ·have hlen:=eq_of_beq hl
  have hi:i<keep.length:=by
   have:=(Yj.mp e).1
   omega
  have h:=h2 i (Yaf.mpr hi)
  rw[e]at h
  cases q:keep[i]? with
  |none=>rw[q]at h;cases h
  |some j =>
   rw[q]at h
   have h:=h
   rw[Yg]at h
   refine⟨j,rfl,eq_of_beq h.1,?_⟩
   obtain⟨p,hp,hq⟩:=GP.mp h.2
   rw[Yg]at hq
   rw[<-eq_of_beq hq.1]
   have:p.2=Wd:=eq_of_beq hq.2
   rw[<-this]
   exact hp
theorem law_sp{fns:List Fn}{k fi:Nat}{H:Hp}{a:Addr}{ns:List Int}{E:XK}(hT:TabR K H)(hS:Zec K H a ns)(h:∃m,Zbm fns gv k fi [.t (.scr ns)] []=.ok (.t (.bl true)) m):spF K fns gv k fi [.ref a] H (λv _=>v=.bl true) E:=by
 obtain⟨m,h⟩:=h
 refine⟨[],[],[.t (.scr ns)],⟨rfl,λi j a p q e=>by simp at e,λi p e=>by simp at e,hT⟩,.cons (.scr ns hS) .nil,?_⟩
 rw[h]
 intro cm' H' x M v rv
 cases RT.vbl rv
 rfl
theorem ZfE{mg:Str->Option Value}{x y:Str}{t:Tok}{cs:List Nat}(h:mg x=some (.str y t))(e:y.cps.toList=cs):Qt K mg x (.str cs):=⟨_,.str y,h,⟨t,rfl⟩,λcm m H=>by rw[Zde e];exact .str cs⟩
theorem QC{mg:Str->Option Value}{x:Str}{i:Int}{t:Tok}(h:mg x=some (.int i t)):Qt K mg x (.int i):=⟨_,.int i,h,⟨t,rfl⟩,λcm m H=>.int i⟩
inductive StrsV:List (List Nat)->List Value->Prop where
 |nil:StrsV [] []
 |cons {y:Str}{t:Tok}{cs:List Nat}{r:List (List Nat)}{us:List Value}:y.cps.toList=cs->StrsV r us->StrsV (cs::r) (.str y t::us)
theorem ZdF{mg:Str->Option Value}{x:Str}{a:Addr}{its:Array Value}{nn:Nat}{sl:Array (Option Value)}{css:List (List Nat)}(h:mg x=some (.ref a))(l:K.lookup a=some ⟨.type "tuple",none,.seq its nn,sl⟩)(hz:its.size<=YJ)(hs:StrsV css its.toList):Qt K mg x (.tup (css.map .str)):=by
 refine⟨_,.ref a,h,rfl,λcm m H=>?_⟩
 have go:∀{css:List (List Nat)}{us:List Value},StrsV css us->Vals (css.map λc=>V.str ⟨c.toArray⟩) us/\RTs K cm m H (css.map .str) (css.map λc=>V.str ⟨c.toArray⟩):=λ{css us} h=>by
  induction h with
  |nil=>exact⟨.nil,.nil⟩
  |@cons y t cs r us e _ ih =>
   refine⟨.cons ?_ ih.1,.cons (.str cs) ih.2⟩
   show ∃t',Va y t=Va ⟨cs.toArray⟩ t'
   rw[<-Zde e]
   exact⟨t,rfl⟩
 exact .mtup (.inr ⟨_,its,nn,l,rfl,rfl,hz,(go hs).1,rfl⟩) (go hs).2
end
section
variable{K:Frag}{cm:List Addr}{m:Mem}{H:Hp}{xr:XR}{X:Cx}{call:Nat->List W->Mem->Res W}{gv:List T}
variable{a b c e:Expr}{es:List Expr}{ea eb ec:E}{eas:Es}{pos p p2:Pos}{rest:List Stmt}{k:S}{n:Nat}
theorem blt2{b:B}{ws:List W}{vs:List V}{k:W->List Addr->Mem->Hp->Prop}(r:RWs K cm m H ws vs)(h1:∀ts t,bltT b ts=some t->∃i j,ts=[.int i,.int j])(h:OkR K (fBlt b ws m) xr cm m H k):
  ∃i j r,vs=[.int i,.int j]/\bltT b [.int i,.int j]=some r/\OkR K (.ok (.t r) m) xr cm m H k:=by
 obtain⟨t,e,ho⟩:=QX h
 cases q:views ws m with
 |none=>rw[q]at e;cases e
 |some ts =>
  rw[q]at e
  have e:=e
  obtain⟨i,j,rfl⟩:=h1 ts t e
  match ws,vs,r with
  |[],_,_=>cases q
  |[w],_,_ =>
   unfold views at q
   cases q1:view w m with
   |none=>rw[q1]at q;cases q
   |some t1=>rw[q1]at q;cases q
  |[w1,w2],_,.cons r1 (.cons r2 .nil) =>
   unfold views at q
   cases q1:view w1 m with
   |none=>rw[q1]at q;cases q
   |some t1 =>
    rw[q1]at q
    unfold views at q
    cases q2:view w2 m with
    |none=>rw[q2]at q;cases q
    |some t2 =>
     rw[q2]at q
     cases q
     cases(Zg r1 q1 (λ_ z=>by cases z)).vint
     cases(Zg r2 q2 (λ_ z=>by cases z)).vint
     exact⟨i,j,t,rfl,e,ho⟩
  |w1::w2::w3::ws,_,_ =>
   unfold views at q
   cases q1:view w1 m with
   |none=>rw[q1]at q;cases q
   |some t1 =>
    rw[q1]at q
    unfold views at q
    cases q2:view w2 m with
    |none=>rw[q2]at q;cases q
    |some t2 =>
     rw[q2]at q
     unfold views at q
     cases q3:view w3 m with
     |none=>rw[q3]at q;cases q
     |some t3 =>
      rw[q3]at q
      cases q4:views ws m with
      |none=>rw[q4]at q;cases q
      |some t4=>rw[q4]at q;cases q
theorem ZmY{b:B}(hb:b=.min2∨b=.max2):∀ts t,bltT b ts=some t->∃i j,ts=[.int i,.int j]:=by
 intro ts t h
 rcases hb with rfl|rfl<;>exact(ZfZ h).imp λi hi=>hi.imp λj hj=>hj.1
theorem ZmA(hc:X.calm=true):Xr X (.builtin "min") (rN X.K xr (fBlt .min2)):=by
 rintro pins s σ H xs us Q I r ⟨cm,m,ws,M,rws,ho⟩
 obtain⟨i,j,rr,rfl,eb,ho⟩:=blt2 rws (ZmY (.inl rfl)) ho
 cases eb
 exact ZmB hc pins s σ H _ us Q I r ⟨i,j,rfl,ans ho M (.int _)⟩
theorem ip_aug{op:GK}:PIp X op (r2 X.K xr λx y m=>pur ((view x m).bind λx=>(view y m).bind λy=>augT op x y) m):=by
 rintro pins s σ H x y v u Q I rx ry ⟨cm,m,a,b,M,ra,rb,ho⟩
 obtain⟨t,e,ho⟩:=QX ho
 obtain⟨ta,tb,ea,eb,e⟩:=ZdZ e
 unfold augT at e
 split at e
 ·cases e
  cases(Zg ra ea (λ_ z=>by cases z)).vint
  cases(Zg rb eb (λ_ z=>by cases z)).vint
  exact ip_add pins s σ H _ _ v u Q I rx ry ⟨_,_,rfl,rfl,ans ho M (.int _)⟩
 ·cases e
  cases(Zg ra ea (λ_ z=>by cases z)).vint
  cases(Zg rb eb (λ_ z=>by cases z)).vint
  exact ip_sub pins s σ H _ _ v u Q I rx ry ⟨_,_,rfl,rfl,ans ho M (.int _)⟩
 ·cases e
theorem Znm(i:Nat){x:Str}{op:GK}{px:Pos}(hN:X.N.Nodup)(h:PE X e (tE X.K call gv xr ea))(hk:PSs X rest (tS X.K call gv xr n k))(hn:X.N.length=n:=by rfl)(hi:X.N[i]?=some x:=by rfl)(hx:Loc X.env.scope x:=by first|exact Or.inl rfl|exact Or.inr rfl)(hf:X.fn x=true∨X.env.scope.names.lookup x=some .local:=by first|exact .inl rfl|exact .inr rfl):PSs X (.AugAssign (.Name x px) op e pos::rest) (tS X.K call gv xr n (.aug i op ea k)):=by
 refine PSs.mono (QR (ps_aug hN hi hx h (ip_aug (xr:=xr)) hf) hk) ?_
 rintro D σ H ⟨hl,env,cm,m,hE,M,ho⟩
 rw[ex]at ho
 split at ho
 ·rename_i w e
  obtain⟨v,h1,h2⟩:=hE i w e
  have hi':i<σ.length:=by rw[hl,<-hn];exact(Yj.mp hi).1
  refine⟨v,h1,env,cm,m,hE,M,ho.bind.mono λy cm1 m1 H1 x1 M1 o1 vy ry=>?_⟩
  refine⟨cm1,m1,w,y,M1,h2.ext x1 M M1,ry,o1.bind.mono λz cm2 m2 H2 x2 M2 o2 vz rz=>?_⟩
  exact⟨by rw[Wx];exact hl,env.set i (some z),cm2,m2,EnvR.set ((hE.ext x1 M M1).ext x2 M1 M2) rz i hi',M2,o2⟩
 ·exact ho.elim
theorem ZjN:MtR X "list.append" (rM X.K xr .append):=by
 rintro pins s σ H x xs v us Q I rx rs ⟨cm,m,w,ws,M,rw',rws,ho⟩
 cases w with
 |t t=>exact ho.elim
 |f a=>exact ho.elim
 |x _ _ _=>exact ho.elim
 |o _ _ _=>exact ho.elim
 |u=>exact ho.elim
 |c i =>
  have ho:OkR X.K ((frzs ws m).bind λts m=>match m[i]? with
   |some (some (false,xs))=>match mutM .append xs ts with
    |some (t,ys)=>.ok (W.t t) (m.set i (some (false,ys)))
    |none=>.stuck
   |_=>.stuck) xr cm m H _:=ho
  obtain⟨ts,m2,e2,o2⟩:=ZbZ ho
  obtain⟨x2,M2,r2⟩:=Zcp M rws e2
  obtain⟨a,ha,rfl⟩:=rw'
  split at o2
  ·rename_i ys e3
   split at o2
   ·rename_i t zs e4
    obtain⟨b,vs,q1,q2,q3,q4⟩:=M2.at' i _ e3
    rw[ha]at q1;cases q1
    have l4:=q4.length
    dsimp only at l4
    have hz:=ZF
    match ts,r2,e4 with
    |[t1],.cons r3 .nil,e4 =>
     unfold mutM at e4
     dsimp only at e4
     split at e4<;>cases e4
     rename_i hlt
     obtain⟨x5,M5⟩:=Zcr M2 e3 ha (Z7 q4 (.cons r3 .nil))
     exact ZlI pins s σ H _ _ v us Q I rx rs ⟨a,vs,_,rfl,rfl,q2,by omega,OkR.to o2 (x2.trans x5) M5 _ .non⟩
    |[],_,e4=>cases e4
    |_::_::_,_,e4=>cases e4
   ·exact o2.elim
  ·exact o2.elim
theorem ZjD{o:Expr}{apos cpos:Pos}(ho:PE X o (tE X.K call gv xr ea))(ha:PA X [e] (tA X.K call gv xr eas))(hbase:Ve o "append" X.env (eval o X.env)=eval o X.env:=by rfl)(hline:(apos.endLine==cpos.line)=true:=by rfl)(hs:notStar e=true:=by rfl):
  PE X (.Call (.Attribute o "append" apos) [e] [] cpos) (tE X.K call gv xr (.mth .append ea eas)):=by
 refine PE.mono (Zlj PySem.F.plainAttrs_list PySem.F.slot_list_append PySem.F.type_list_append (ZjN (xr:=xr)) ho ha hbase (few1 hs) hline (QL hs) (Za3 rfl)) ?_
 rintro σ H Q ⟨env,cm,m,hE,M,hq⟩
 rw[ev]at hq
 refine⟨env,cm,m,hE,M,hq.bind.mono λw cm1 m1 H1 x1 M1 o1 v rv=>?_⟩
 obtain⟨ht,o1⟩:=ZcD o1
 refine⟨?_,env,cm1,m1,hE.ext x1 M M1,M1,o1.bind.mono λws cm2 m2 H2 x2 M2 o2 vs rvs=>?_⟩
 ·cases w with
  |t t=>cases ht
  |f a=>cases ht
  |x _ _ _=>cases ht
  |o _ _ _=>cases ht
  |u=>cases ht
  |c i =>
   obtain⟨a,h1,rfl⟩:=rv
   have ht:(match m1[i]? with
    |some (some _)=>true
    |_=>false)=true:=ht
   split at ht
   ·rename_i c e1
    obtain⟨b,vs,q1,q2,_⟩:=M1.at' i _ e1
    rw[h1]at q1;cases q1
    exact .inl ⟨rfl,vs,.of q2⟩
   ·cases ht
 ·exact⟨cm2,m2,w,ws,M2,rv.ext x2 M1 M2,rvs,o2⟩
theorem Zjl{body:List Stmt}{sb:S}(hp:Ya5 (model X.prog X.w) X.A X.env X.xe)(hc:PT X c (tT X.K call gv xr ec))(hb:PSs X body (tS X.K call gv xr n sb))(hk:PSs X rest (tS X.K call gv xr n k)):
  PSs X (.While c body [] pos::rest) (tS X.K call gv xr n (.whil ec sb k)):=by
 refine PSs.mono (QR (Znp hp hc hb) hk) ?_
 rintro D σ0 H0 ⟨hl0,env0,cm0,m0,hE0,M0,ho⟩
 rw[ex]at ho
 let g:Flow->Mem->Res Flow:=λfl m=>match fl with
  |.next env=>ex call gv k env m
  |fl=>.ok fl m
 let P:Flow->List Addr->Mem->Hp->Prop:=λfl cm m H=>OkR X.K (g fl m) xr cm m H (λfl cm' m' H'=>ZfG X.K n D fl cm' m' H')
 have ho:=ho
 refine⟨λμ σ H=>σ.length=n/\∃env cm m,EnvR X.K cm m H env σ/\MemR X.K cm m H/\OkR X.K (Jr (λenv m=>(ev call gv ec env m).bind QK) (λenv m=>ex call gv sb env m) μ env m) xr cm m H P,⟨turns,hl0,env0,cm0,m0,hE0,M0,ho.bind⟩,?_⟩
 rintro μ σ H ⟨hl,env,cm,m,hE,M,hq⟩
 cases μ with
 |zero=>rw[Jr]at hq;exact hq.elim
 |succ μ =>
  rw[Jr]at hq
  refine⟨env,cm,m,hE,M,hq.bind.mono λb cm1 m1 H1 x1 M1 o1=>?_⟩
  cases b with
  |false=>exact iteF ⟨hl,env,cm1,m1,hE.ext x1 M M1,M1,OkR.now o1 M1⟩
  |true =>
   have o1:OkR X.K ((ex call gv sb env m1).bind λfl m=>match fl with
    |.next env=>Jr (λenv m=>(ev call gv ec env m).bind QK) (λenv m=>ex call gv sb env m) μ env m
    |.cont env=>Jr (λenv m=>(ev call gv ec env m).bind QK) (λenv m=>ex call gv sb env m) μ env m
    |.brk env=>.ok (.next env) m
    |.ret w=>.ok (.ret w) m) xr cm1 m1 H1 P:=o1
   refine iteT ⟨λσ' H'=>σ'.length=n/\∃env cm m,EnvR X.K cm m H' env σ'/\MemR X.K cm m H'/\OkR X.K (Jr (λenv m=>(ev call gv ec env m).bind QK) (λenv m=>ex call gv sb env m) μ env m) xr cm m H' P,λσ' H' h=>⟨μ,Gg _,h⟩,hl,env,cm1,m1,hE.ext x1 M M1,M1,o1.bind.mono λfl cm2 m2 H2 x2 M2 o2=>?_⟩
   cases fl with
   |next env2=>exact λσ2 hl2 hE2=>⟨hl2,env2,cm2,m2,hE2,M2,o2⟩
   |cont env2=>exact λσ2 hl2 hE2=>⟨hl2,env2,cm2,m2,hE2,M2,o2⟩
   |brk env2=>exact λσ2 hl2 hE2=>⟨hl2,env2,cm2,m2,hE2,M2,OkR.now o2 M2⟩
   |ret w=>exact OkR.now (xr:=xr) (OkR.now o2 M2) M2
theorem ZbI(i j:Nat){x y:Str}{px py:Pos}{kk:Nat}(hc:X.calm=true)(hN:X.N.Nodup)(hi:X.N[i]?=some x:=by rfl)(hj:X.N[j]?=some y:=by rfl)(hx:Loc X.env.scope x:=by first|exact Or.inl rfl|exact Or.inr rfl)(hy:Loc X.env.scope y:=by first|exact Or.inl rfl|exact Or.inr rfl)(hf:X.fn x=true∨X.env.scope.names.lookup x=some .local:=by first|exact .inl rfl|exact .inr rfl)(hg:X.fn y=true∨X.env.scope.names.lookup y=some .local:=by first|exact .inl rfl|exact .inr rfl)(hs:(Ys [.Name x px,.Name y py] X.env).map (·.2)=assign (.Name x px) X.env::(Ys [.Name y py] X.env).map (·.2):=by rfl)(hs2:(Ys [.Name y py] X.env).map (·.2)=assign (.Name y py) X.env::(Ys [] X.env).map (·.2):=by rfl)(hn:(Ys [.Name x px,.Name y py] X.env).length=2:=by rfl)(hst:(Ys [.Name x px,.Name y py] X.env).findIdx? (·.1)=none:=by rfl):PG X (.Tuple [.Name x px,.Name y py] kk pos) (gT X.K (.tp [i,j])):=by
 rintro pins s σ H v u Q I r ⟨a,xs,e1,h1,h2,h3⟩
 refine Ziz hc (ZV (Z2 hN hi hx hf) (ZV (Z2 hN hj hy hg) Zdm hs2) hs) hn hst pins s σ H v u Q I r ⟨a,xs,e1,h1,h2,?_⟩
 match xs,h2 with
 |[v1,v2],_=>exact⟨v1,[v2],rfl,v2,[],rfl,rfl,h3⟩
theorem Zno{tg:Expr}{is:List Nat}(hN:∀i∈is,i<n)(h:PE X e (tE X.K call gv xr ea))(hg:PG X tg (gT X.K (.tp is)))(hk:PSs X rest (tS X.K call gv xr n k))(hs:Yat [tg] e pos.line X.env=pure false:=by rfl)(hw:Yau [tg] e X.env=pure none:=by rfl)(h1:(Ys [tg] X.env).map (·.2)=[assign tg X.env]:=by rfl):PSs X (.Assign [tg] e pos::rest) (tS X.K call gv xr n (.asgT is ea k)):=by
 refine PSs.mono (QR (Zk9 h hg hs hw h1) hk) ?_
 rintro D σ H ⟨hl,env,cm,m,hE,M,ho⟩
 rw[ex]at ho
 refine⟨env,cm,m,hE,M,ho.bind.mono λw cm1 m1 H1 x1 M1 o1 v rv=>?_⟩
 cases w with
 |f a=>exact o1.elim
 |x _ _ _=>exact o1.elim
 |o _ _ _=>exact o1.elim
 |u=>exact o1.elim
 |c i=>exact o1.elim
 |t t =>
  have o1:OkR X.K (match Qs (.tp is) t env with
   |some env=>ex call gv k env m1
   |none=>.stuck) xr cm1 m1 H1 _:=o1
  split at o1
  ·rename_i env' eb
   have:=ZoO (Zqk (Q:=λσ' H'=>H'=H1/\EnvR X.K cm1 m1 H1 env' σ') (hE.ext x1 M M1) (λj hj=>by rw[hl];exact hN j hj) rv eb λσ' hE' _=>⟨rfl,hE'⟩)
   obtain⟨a1,xs,z1,z2,z3,z4,z5,z6⟩:=this
   exact⟨a1,xs,z1,z2,z3,z4.trans hl,env',cm1,m1,z6,M1,o1⟩
  ·exact o1.elim
end
section
variable{xr:XR}{X:Cx}{call:Nat->List W->Mem->Res W}{gv:List T}
variable{e:Expr}{es:List Expr}{eas:Es}{pos p:Pos}
theorem ZpD(hg:Gl X "len")(hm:X.mg "len" = none)(ha:PA X (e::es) (tA X.K call gv xr eas))(he:notStar e=true)(hpl:es.all notStar=true):PE X (.Call (.Name "len" p) (e::es) [] pos) (tE X.K call gv xr (.blt .len eas)):=Zfn ZmC (by decide +kernel) hg hm ha (by decide) (by decide) he hpl
theorem ZnK(hg:Gl X "int")(hm:X.mg "int" = none)(ha:PA X (e::es) (tA X.K call gv xr eas))(he:notStar e=true)(hpl:es.all notStar=true):PE X (.Call (.Name "int" p) (e::es) [] pos) (tE X.K call gv xr (.blt .int eas)):=Zfm ZmD (by decide +kernel) hg hm ha (by decide) (by decide) he hpl
theorem ZnF(hg:Gl X "str")(hm:X.mg "str" = none)(ha:PA X (e::es) (tA X.K call gv xr eas))(he:notStar e=true)(hpl:es.all notStar=true):PE X (.Call (.Name "str" p) (e::es) [] pos) (tE X.K call gv xr (.blt .str eas)):=Zfm Zmz (by decide +kernel) hg hm ha (by decide) (by decide) he hpl
theorem ZjC(hg:Gl X "tuple")(hm:X.mg "tuple" = none)(ha:PA X (e::es) (tA X.K call gv xr eas))(he:notStar e=true)(hpl:es.all notStar=true)(hc:X.calm=true:=by rfl):PE X (.Call (.Name "tuple" p) (e::es) [] pos) (tE X.K call gv xr (.blt .tuple eas)):=Zfm (Zid hc) (by decide +kernel) hg hm ha (by decide) (by decide) he hpl
theorem Zlh(hg:Gl X "list")(hm:X.mg "list" = none)(ha:PA X (e::es) (tA X.K call gv xr eas))(he:notStar e=true)(hpl:es.all notStar=true):PE X (.Call (.Name "list" p) (e::es) [] pos) (tE X.K call gv xr (.blt .list eas)):=Zfm Zko (by decide +kernel) hg hm ha (by decide) (by decide) he hpl
theorem ZnP(hg:Gl X "all")(hm:X.mg "all" = none)(ha:PA X (e::es) (tA X.K call gv xr eas))(he:notStar e=true)(hpl:es.all notStar=true)(hc:X.calm=true:=by rfl):PE X (.Call (.Name "all" p) (e::es) [] pos) (tE X.K call gv xr (.blt .all eas)):=Zfn (ZmE hc) (by decide +kernel) hg hm ha (by decide) (by decide) he hpl
theorem ZnI(hg:Gl X "min")(hm:X.mg "min" = none)(ha:PA X (e::es) (tA X.K call gv xr eas))(he:notStar e=true)(hpl:es.all notStar=true)(hc:X.calm=true:=by rfl):PE X (.Call (.Name "min" p) (e::es) [] pos) (tE X.K call gv xr (.blt .min2 eas)):=Zfn (ZmA hc) (by decide +kernel) hg hm ha (by decide) (by decide) he hpl
end
structure Bd (X:Cx) (st:List Stmt) (t:TS):Prop where
 h:PSs X st t
theorem ZoQ{K:Frag}{fns:List Fn}{gv:List T}{k:Nat}{P:YQ}{w:World}{mg:Str->Option Value}{base:Heap}{x qual:Str}{st:Stmt}{f:Addr}{fd:W8}{N ps:List Str}{fi np n:Nat}{body:S}{cell:Bool}(F:Fun K x qual st f fd)(S:FnScope N ps (Zc st))(hd:fns[fi]?=some ⟨np,n,body,cell⟩)(hps:np=ps.length)(hn:N.length=n)(hbody:∀(cdv:Value) (A:Around) (outer:List Wv) (s:Shared) (H:Hp) (E:XK),Room k (A.deeper (envOfC qual (Zc st) s.heap.objs.size f cdv)) ->
   ∀(xe:Value->Shared->Prop) (pn:List (Addr×Obj)) (xr:XR),Go (asX (cxOf (CXF P w) P w K mg base N qual (Zc st) f cdv A outer s H E) xe pn) xr->Bd (asX (cxOf (CXF P w) P w K mg base N qual (Zc st) f cdv A outer s H E) xe pn) (Q5 st) (tS K (Zbm fns gv k) gv xr n body)):
  FnOk P w K mg base (CXF P w) (k+1) f fd ps (spF K fns gv (k+1) fi):=by
 subst hn
 exact fn_okW F S hd hps rfl λcdv A outer s H E hr xe pn xr go=>(hbody cdv A outer s H E hr xe pn xr go).h
section
variable{K:Frag}{X:Cx}{fns:List Fn}{gv:List T}{xr:XR}{call:Nat->List W->Mem->Res W}
variable{e:Expr}{es:List Expr}{eas:Es}{pos p:Pos}{k:Nat}
inductive TabOk (P:YQ) (w:World) (K:Frag) (mg:Str->Option Value) (base:Heap) (fns:List Fn) (gv:List T) (k:Nat):List (Nat×Nat)->Prop where
 |nil:TabOk P w K mg base fns gv k []
 |cons {j fi a:Nat}{x:Str}{r:List (Nat×Nat)}:FOk P w K mg base fns gv k x fi->mg x=some (.ref a)->gv[j]?=some (.int (a:Int))->TabOk P w K mg base fns gv k r->TabOk P w K mg base fns gv k ((j,fi)::r)
end
section
variable{K:Frag}{cm:List Addr}{m:Mem}{H:Hp}{xr:XR}{X:Cx}{call:Nat->List W->Mem->Res W}{gv:List T}
variable{a b c e:Expr}{es:List Expr}{ea eb ec:E}{eas:Es}{pos p p2:Pos}{rest:List Stmt}{k:S}{n:Nat}
theorem ZjA{tg:Expr}(hg:Gl X "range")(hm:X.mg "range" = none)(ha:PA X [a,b] (tA X.K call gv xr eas))(hs:notStar a=true:=by rfl)(hs2:notStar b=true:=by rfl):PI X tg (.Call (.Name "range" p) [a,b] [] pos) (tI X.K call gv xr (.blt .range2 eas)):=by
 refine PI.mono (Zle hg hm ha (by rw[QL hs,QL hs2];rfl) (QL hs2)) ?_
 rintro σ H R ⟨env,cm,m,hE,M,ho⟩
 rw[ev]at ho
 refine⟨env,cm,m,hE,M,ho.bind.mono λws cm1 m1 H1 x1 M1 o1 vs rvs=>?_⟩
 have two:∀ts t,bltT .range2 ts=some t->∃i j,ts=[.int i,.int j]:=by
  intro ts t h
  exact(ZfZ h).imp λi hi=>hi.imp λj hj=>hj.1
 obtain⟨i,j,rr,rfl,eb,o2⟩:=blt2 rvs two o1
 simp only[bltT,two2]at eb
 split at eb<;>cases eb
 rename_i hc
 obtain⟨ts,m2,q1,q2⟩:=OkR.now o2 M1
 cases q1
 exact⟨_,_,rfl,⟨hc.1.2,hc.1.1,hc.2.2,hc.2.1⟩,q2 _ (.rng _ _)⟩
theorem Zfl(i0:Nat)(i1:Nat)(i2:Nat){x0 x1 x2:Str}{p0 p1 p2:Pos}{kk:Nat}(hc:X.calm=true)(hN:X.N.Nodup)(hi0:X.N[i0]?=some x0:=by rfl)(hi1:X.N[i1]?=some x1:=by rfl)(hi2:X.N[i2]?=some x2:=by rfl)(hx0:Loc X.env.scope x0:=by first|exact Or.inl rfl|exact Or.inr rfl)(hx1:Loc X.env.scope x1:=by first|exact Or.inl rfl|exact Or.inr rfl)(hx2:Loc X.env.scope x2:=by first|exact Or.inl rfl|exact Or.inr rfl)(hf0:X.fn x0=true∨X.env.scope.names.lookup x0=some .local:=by first|exact .inl rfl|exact .inr rfl)(hf1:X.fn x1=true∨X.env.scope.names.lookup x1=some .local:=by first|exact .inl rfl|exact .inr rfl)(hf2:X.fn x2=true∨X.env.scope.names.lookup x2=some .local:=by first|exact .inl rfl|exact .inr rfl)(hs0:(Ys [.Name x0 p0,.Name x1 p1,.Name x2 p2] X.env).map (·.2)=assign (.Name x0 p0) X.env::(Ys [.Name x1 p1,.Name x2 p2] X.env).map (·.2):=by rfl)(hs1:(Ys [.Name x1 p1,.Name x2 p2] X.env).map (·.2)=assign (.Name x1 p1) X.env::(Ys [.Name x2 p2] X.env).map (·.2):=by rfl)(hs2:(Ys [.Name x2 p2] X.env).map (·.2)=assign (.Name x2 p2) X.env::(Ys [] X.env).map (·.2):=by rfl)(hn:(Ys [.Name x0 p0,.Name x1 p1,.Name x2 p2] X.env).length=3:=by rfl)(hst:(Ys [.Name x0 p0,.Name x1 p1,.Name x2 p2] X.env).findIdx? (·.1)=none:=by rfl):PG X (.Tuple [.Name x0 p0,.Name x1 p1,.Name x2 p2] kk pos) (gT X.K (.tp [i0,i1,i2])):=by
 rintro pins s σ H v u Q I r ⟨a,xs,e1,h1,h2,h3⟩
 refine Ziz hc (ZV (Z2 hN hi0 hx0 hf0) (ZV (Z2 hN hi1 hx1 hf1) (ZV (Z2 hN hi2 hx2 hf2) Zdm hs2) hs1) hs0) hn hst pins s σ H v u Q I r ⟨a,xs,e1,h1,h2,?_⟩
 match xs,h2 with
 |[v0,v1,v2],_=>exact⟨v0,[v1,v2],rfl,v1,[v2],rfl,v2,[],rfl,rfl,h3⟩
theorem ZnD(i0:Nat)(i1:Nat)(i2:Nat)(i3:Nat){x0 x1 x2 x3:Str}{p0 p1 p2 p3:Pos}{kk:Nat}(hc:X.calm=true)(hN:X.N.Nodup)(hi0:X.N[i0]?=some x0:=by rfl)(hi1:X.N[i1]?=some x1:=by rfl)(hi2:X.N[i2]?=some x2:=by rfl)(hi3:X.N[i3]?=some x3:=by rfl)(hx0:Loc X.env.scope x0:=by first|exact Or.inl rfl|exact Or.inr rfl)(hx1:Loc X.env.scope x1:=by first|exact Or.inl rfl|exact Or.inr rfl)(hx2:Loc X.env.scope x2:=by first|exact Or.inl rfl|exact Or.inr rfl)(hx3:Loc X.env.scope x3:=by first|exact Or.inl rfl|exact Or.inr rfl)(hf0:X.fn x0=true∨X.env.scope.names.lookup x0=some .local:=by first|exact .inl rfl|exact .inr rfl)(hf1:X.fn x1=true∨X.env.scope.names.lookup x1=some .local:=by first|exact .inl rfl|exact .inr rfl)(hf2:X.fn x2=true∨X.env.scope.names.lookup x2=some .local:=by first|exact .inl rfl|exact .inr rfl)(hf3:X.fn x3=true∨X.env.scope.names.lookup x3=some .local:=by first|exact .inl rfl|exact .inr rfl)(hs0:(Ys [.Name x0 p0,.Name x1 p1,.Name x2 p2,.Name x3 p3] X.env).map (·.2)=assign (.Name x0 p0) X.env::(Ys [.Name x1 p1,.Name x2 p2,.Name x3 p3] X.env).map (·.2):=by rfl)(hs1:(Ys [.Name x1 p1,.Name x2 p2,.Name x3 p3] X.env).map (·.2)=assign (.Name x1 p1) X.env::(Ys [.Name x2 p2,.Name x3 p3] X.env).map (·.2):=by rfl)(hs2:(Ys [.Name x2 p2,.Name x3 p3] X.env).map (·.2)=assign (.Name x2 p2) X.env::(Ys [.Name x3 p3] X.env).map (·.2):=by rfl)(hs3:(Ys [.Name x3 p3] X.env).map (·.2)=assign (.Name x3 p3) X.env::(Ys [] X.env).map (·.2):=by rfl)(hn:(Ys [.Name x0 p0,.Name x1 p1,.Name x2 p2,.Name x3 p3] X.env).length=4:=by rfl)(hst:(Ys [.Name x0 p0,.Name x1 p1,.Name x2 p2,.Name x3 p3] X.env).findIdx? (·.1)=none:=by rfl):PG X (.Tuple [.Name x0 p0,.Name x1 p1,.Name x2 p2,.Name x3 p3] kk pos) (gT X.K (.tp [i0,i1,i2,i3])):=by
 rintro pins s σ H v u Q I r ⟨a,xs,e1,h1,h2,h3⟩
 refine Ziz hc (ZV (Z2 hN hi0 hx0 hf0) (ZV (Z2 hN hi1 hx1 hf1) (ZV (Z2 hN hi2 hx2 hf2) (ZV (Z2 hN hi3 hx3 hf3) Zdm hs3) hs2) hs1) hs0) hn hst pins s σ H v u Q I r ⟨a,xs,e1,h1,h2,?_⟩
 match xs,h2 with
 |[v0,v1,v2,v3],_=>exact⟨v0,[v1,v2,v3],rfl,v1,[v2,v3],rfl,v2,[v3],rfl,v3,[],rfl,rfl,h3⟩
theorem Zfk(i0:Nat)(i1:Nat)(i2:Nat)(i3:Nat)(i4:Nat)(i5:Nat)(i6:Nat){x0 x1 x2 x3 x4 x5 x6:Str}{p0 p1 p2 p3 p4 p5 p6:Pos}{kk:Nat}(hc:X.calm=true)(hN:X.N.Nodup)(hi0:X.N[i0]?=some x0:=by rfl)(hi1:X.N[i1]?=some x1:=by rfl)(hi2:X.N[i2]?=some x2:=by rfl)(hi3:X.N[i3]?=some x3:=by rfl)(hi4:X.N[i4]?=some x4:=by rfl)(hi5:X.N[i5]?=some x5:=by rfl)(hi6:X.N[i6]?=some x6:=by rfl)(hx0:Loc X.env.scope x0:=by first|exact Or.inl rfl|exact Or.inr rfl)(hx1:Loc X.env.scope x1:=by first|exact Or.inl rfl|exact Or.inr rfl)(hx2:Loc X.env.scope x2:=by first|exact Or.inl rfl|exact Or.inr rfl)(hx3:Loc X.env.scope x3:=by first|exact Or.inl rfl|exact Or.inr rfl)(hx4:Loc X.env.scope x4:=by first|exact Or.inl rfl|exact Or.inr rfl)(hx5:Loc X.env.scope x5:=by first|exact Or.inl rfl|exact Or.inr rfl)(hx6:Loc X.env.scope x6:=by first|exact Or.inl rfl|exact Or.inr rfl)(hf0:X.fn x0=true∨X.env.scope.names.lookup x0=some .local:=by first|exact .inl rfl|exact .inr rfl)(hf1:X.fn x1=true∨X.env.scope.names.lookup x1=some .local:=by first|exact .inl rfl|exact .inr rfl)(hf2:X.fn x2=true∨X.env.scope.names.lookup x2=some .local:=by first|exact .inl rfl|exact .inr rfl)(hf3:X.fn x3=true∨X.env.scope.names.lookup x3=some .local:=by first|exact .inl rfl|exact .inr rfl)(hf4:X.fn x4=true∨X.env.scope.names.lookup x4=some .local:=by first|exact .inl rfl|exact .inr rfl)(hf5:X.fn x5=true∨X.env.scope.names.lookup x5=some .local:=by first|exact .inl rfl|exact .inr rfl)(hf6:X.fn x6=true∨X.env.scope.names.lookup x6=some .local:=by first|exact .inl rfl|exact .inr rfl)(hs0:(Ys [.Name x0 p0,.Name x1 p1,.Name x2 p2,.Name x3 p3,.Name x4 p4,.Name x5 p5,.Name x6 p6] X.env).map (·.2)=assign (.Name x0 p0) X.env::(Ys [.Name x1 p1,.Name x2 p2,.Name x3 p3,.Name x4 p4,.Name x5 p5,.Name x6 p6] X.env).map (·.2):=by rfl)(hs1:(Ys [.Name x1 p1,.Name x2 p2,.Name x3 p3,.Name x4 p4,.Name x5 p5,.Name x6 p6] X.env).map (·.2)=assign (.Name x1 p1) X.env::(Ys [.Name x2 p2,.Name x3 p3,.Name x4 p4,.Name x5 p5,.Name x6 p6] X.env).map (·.2):=by rfl)(hs2:(Ys [.Name x2 p2,.Name x3 p3,.Name x4 p4,.Name x5 p5,.Name x6 p6] X.env).map (·.2)=assign (.Name x2 p2) X.env::(Ys [.Name x3 p3,.Name x4 p4,.Name x5 p5,.Name x6 p6] X.env).map (·.2):=by rfl)(hs3:(Ys [.Name x3 p3,.Name x4 p4,.Name x5 p5,.Name x6 p6] X.env).map (·.2)=assign (.Name x3 p3) X.env::(Ys [.Name x4 p4,.Name x5 p5,.Name x6 p6] X.env).map (·.2):=by rfl)(hs4:(Ys [.Name x4 p4,.Name x5 p5,.Name x6 p6] X.env).map (·.2)=assign (.Name x4 p4) X.env::(Ys [.Name x5 p5,.Name x6 p6] X.env).map (·.2):=by rfl)(hs5:(Ys [.Name x5 p5,.Name x6 p6] X.env).map (·.2)=assign (.Name x5 p5) X.env::(Ys [.Name x6 p6] X.env).map (·.2):=by rfl)(hs6:(Ys [.Name x6 p6] X.env).map (·.2)=assign (.Name x6 p6) X.env::(Ys [] X.env).map (·.2):=by rfl)(hn:(Ys [.Name x0 p0,.Name x1 p1,.Name x2 p2,.Name x3 p3,.Name x4 p4,.Name x5 p5,.Name x6 p6] X.env).length=7:=by rfl)(hst:(Ys [.Name x0 p0,.Name x1 p1,.Name x2 p2,.Name x3 p3,.Name x4 p4,.Name x5 p5,.Name x6 p6] X.env).findIdx? (·.1)=none:=by rfl):PG X (.Tuple [.Name x0 p0,.Name x1 p1,.Name x2 p2,.Name x3 p3,.Name x4 p4,.Name x5 p5,.Name x6 p6] kk pos) (gT X.K (.tp [i0,i1,i2,i3,i4,i5,i6])):=by
 rintro pins s σ H v u Q I r ⟨a,xs,e1,h1,h2,h3⟩
 refine Ziz hc (ZV (Z2 hN hi0 hx0 hf0) (ZV (Z2 hN hi1 hx1 hf1) (ZV (Z2 hN hi2 hx2 hf2) (ZV (Z2 hN hi3 hx3 hf3) (ZV (Z2 hN hi4 hx4 hf4) (ZV (Z2 hN hi5 hx5 hf5) (ZV (Z2 hN hi6 hx6 hf6) Zdm hs6) hs5) hs4) hs3) hs2) hs1) hs0) hn hst pins s σ H v u Q I r ⟨a,xs,e1,h1,h2,?_⟩
 match xs,h2 with
 |[v0,v1,v2,v3,v4,v5,v6],_=>exact⟨v0,[v1,v2,v3,v4,v5,v6],rfl,v1,[v2,v3,v4,v5,v6],rfl,v2,[v3,v4,v5,v6],rfl,v3,[v4,v5,v6],rfl,v4,[v5,v6],rfl,v5,[v6],rfl,v6,[],rfl,rfl,h3⟩
end
end Mi
namespace Mi
theorem Z0{f:Env->Mem->Res (List T)}{tg:Tg}{env:Env}{m:Mem}{g:T->List T}:∀(ts:List T),(∀t∈ts,∃env',Qs tg t env=some env'/\f env' m=.ok (g t) m)->Jg f tg ts env m=.ok (ts.flatMap g) m
 |[],_=>rfl
 |t::ts,h=>by
  obtain⟨env',e1,e2⟩:=h t Yv
  rw[Jg,e1]
  show(f env' m).bind _=_
  rw[e2]
  show(Jg f tg ts env m).bind _=_
  rw[Z0 ts λt ht=>h t (Yp _ ht)]
  rfl
inductive Turns {α β:Type}(R:α->β->Prop):List α->List β->Prop where
 |nil:Turns R [] []
 |cons {a:α}{b:β}{as:List α}{bs:List β}:R a b->Turns R as bs->Turns R (a::as) (b::bs)
theorem Zfs{f:Env->Mem->Res (List T)}{tg:Tg}{env:Env}{P:Mem->Prop}{R:T->List T->Prop}:∀(ts:List T) (m:Mem),P m->(∀t∈ts,∀m,P m->∃env' xs m',Qs tg t env=some env'/\f env' m=.ok xs m'/\P m'/\R t xs) ->
  ∃xss m',Jg f tg ts env m=.ok xss.flatten m'/\P m'/\Turns R ts xss
 |[],m,hm,_=>⟨[],m,rfl,hm,.nil⟩
 |t::ts,m,hm,h=>by
  obtain⟨env',xs,m1,e1,e2,p1,r1⟩:=h t Yv m hm
  obtain⟨xss,m2,e3,p2,r2⟩:=Zfs ts m1 p1 λt ht=>h t (Yp _ ht)
  refine⟨xs::xss,m2,?_,p2,.cons r1 r2⟩
  rw[Jg,e1]
  show(f env' m).bind _=_
  rw[e2]
  show(Jg f tg ts env m1).bind _=_
  rw[e3]
  rfl
theorem ZeG{f:Env->Mem->Res Flow}{tg:Tg}{P:Env->Mem->Prop}:∀(ts:List T) (env:Env) (m:Mem),P env m->(∀t∈ts,∀env m,P env m->∃env1 env2 m2,Qs tg t env=some env1/\f env1 m=.ok (.next env2) m2/\P env2 m2) ->
  ∃env' m',Q3 f tg ts env m=.ok (.next env') m'/\P env' m'
 |[],env,m,hm,_=>⟨env,m,rfl,hm⟩
 |t::ts,env,m,hm,h=>by
  obtain⟨env1,env2,m2,e1,e2,p2⟩:=h t Yv env m hm
  obtain⟨env3,m3,e3,p3⟩:=ZeG ts env2 m2 p2 λt ht=>h t (Yp _ ht)
  refine⟨env3,m3,?_,p3⟩
  rw[Q3,e1]
  show(f env1 m).bind _=_
  rw[e2]
  exact e3
theorem Zbo{α:Type}{xs:List α}{i:Int}(h0:0<=i)(h1:i<xs.length):∃x,atT xs i=some x/\x∈xs:=by
 have hi:i.toNat<xs.length:=by omega
 refine⟨xs[i.toNat],?_,Ge hi⟩
 unfold atT ixOf
 rw[if_pos h0,if_pos h1]
 exact YM hi
theorem Jz{α:Type}(f:α->Bool):∀xs:List α,bools? (xs.map λx=>.bl (f x))=some (xs.map f)
 |[]=>rfl
 |x::xs=>by
  rw[Yz,bools?,Jz f xs]
  rfl
theorem strs_map{α:Type}(f:α->List Nat):∀xs:List α,strs? (xs.map λx=>.str (f x))=some (xs.map f)
 |[]=>rfl
 |x::xs=>by
  rw[Yz,strs?,strs_map f xs]
  rfl
theorem ZgN:∀xs:List (List Nat),Zd [] xs=xs.flatten
 |[]=>rfl
 |[x]=>by simp[Zd]
 |x::y::r=>by
  show x++[]++Zd [] (y::r)=_
  rw[ZgN (y::r)];simp
section
variable{call:Nat->List W->Mem->Res W}{gv:List T}
noncomputable def Qj(call:Nat->List W->Mem->Res W)(gv:List T)(cs:Es)(inner:E)(env:Env)(m:Mem):Res (List T):=(tests call gv cs env m).bind λk m=>if k then(ev call gv inner env m).bind ZfS else .ok [] m
theorem ZL{own:Nat}{keep:List Nat}{it:E}{tg:Tg}{cs:Es}{inner:E}{env:Env}{m m0 m1 m2:Mem}{x:W}{ts out:List T}(h1:ev call gv it env m=.ok x m0)(h2:Z5 x m0=.ok ts m1)(h3:Jg (Qj call gv cs inner) tg ts (Yo own none++keep.map λi=>(env[i]?).join) m1=.ok out m2)(hz:out.length<=lim):ev call gv (.comp own keep it tg cs inner) env m=.ok (.t (.lst out)) (giveBack x m0 m2):=by
 have e:ev call gv (.comp own keep it tg cs inner) env m=(ev call gv it env m).only.bind λx m0=>(Z5 x m0).bind λts m =>
  (Jg (Qj call gv cs inner) tg ts (Yo own none++keep.map λi=>(env[i]?).join) m).only.bind λout m =>
   if out.length<=lim then .ok (.t (.lst out)) (giveBack x m0 m)else .stuck:=by rw[ev];rfl
 rw[e,h1]
 show(Z5 x m0).bind _=_
 rw[h2]
 show(Jg (Qj call gv cs inner) tg ts (Yo own none++keep.map λi=>(env[i]?).join) m1).only.bind _=_
 rw[h3]
 exact if_pos hz
theorem ZcX{tg:Tg}{it:E}{body k:S}{env env':Env}{m m0 m1 m2:Mem}{x:W}{ts:List T}(h1:ev call gv it env m=.ok x m0)(h2:Z5 x m0=.ok ts m1)(h3:Q3 (ex call gv body) tg ts env m1=.ok (.next env') m2):
  ex call gv (.forr tg it body k) env m=ex call gv k env' (giveBack x m0 m2):=by
 rw[ex,h1]
 show(Z5 x m0).bind _=_
 rw[h2]
 show(Q3 (ex call gv body) tg ts env m1).bind _=_
 rw[h3]
 rfl
end
section
variable{call:Nat->List W->Mem->Res W}{gv:List T}{env:Env}{m m1 m2:Mem}{k a b:S}{e:E}{w:W}
theorem Ze{α β:Type}(x:α)(m:Mem)(f:α->Mem->Res β):(Res.ok x m).bind f=f x m:=rfl
theorem only_k{α:Type}(x:α)(m:Mem):(Res.ok x m).only=.ok x m:=rfl
theorem view_k(x:T)(m:Mem):view (.t x) m=some x:=rfl
theorem pur_k(x:T)(m:Mem):pur (some x) m=.ok (.t x) m:=rfl
theorem ZqH(x:Bool)(m:Mem):ZcR (.t (.bl x)) m=.ok x m:=rfl
theorem Zm1(x:Bool)(m:Mem):QK (.t (.bl x)) m=.ok x m:=rfl
theorem frz_k(x:T)(m:Mem):frz (.t x) m=.ok x m:=rfl
theorem ZmJ(x:List T)(m:Mem):ZfS (.t (.lst x)) m=.ok x m:=rfl
theorem intP_k(x:Int)(m:Mem):intP (.t (.int x)) m=.ok (some x) m:=rfl
theorem c_lt(i j:Int):cmpT .Lt (.int i) (.int j)=some (decide (i<j)):=rfl
theorem c_le(i j:Int):cmpT .LtE (.int i) (.int j)=some (decide (i<=j)):=rfl
theorem c_gt(i j:Int):cmpT .Gt (.int i) (.int j)=some (decide (j<i)):=rfl
theorem c_ge(i j:Int):cmpT .GtE (.int i) (.int j)=some (decide (j<=i)):=rfl
theorem Zep(i j:Int):cmpT .Eq (.int i) (.int j)=some (i==j):=rfl
theorem c_neI(i j:Int):cmpT .NotEq (.int i) (.int j)=some (!(i==j)):=rfl
theorem c_eqB(i j:Bool):cmpT .Eq (.bl i) (.bl j)=some (i==j):=rfl
theorem c_neB(i j:Bool):cmpT .NotEq (.bl i) (.bl j)=some (!(i==j)):=rfl
theorem Zhf(i j:List Nat):cmpT .Eq (.str i) (.str j)=some (i==j):=rfl
theorem ZqD(i j:List Nat):cmpT .NotEq (.str i) (.str j)=some (!(i==j)):=rfl
theorem c_in1(i:Nat)(j:List Nat):cmpT .In (.str [i]) (.str j)=some (decide (i∈j)):=rfl
theorem c_isT(b x:Bool):cmpT .Is (.bl x) (.bl b)=some (x==b):=rfl
theorem Zao(i j:Int):binT .Add (.int i) (.int j)=some (.int (i+j)):=rfl
theorem ZmH(i j:Int):binT .Sub (.int i) (.int j)=some (.int (i-j)):=rfl
theorem Jj{a b:List Nat}(h:a.length+b.length<=lim):binT .Add (.str a) (.str b)=some (.str (a++b)):=if_pos h
theorem Zkq{i j:Int}(h:Zbd i j=true):binT .Mult (.int i) (.int j)=some (.int (i*j)):=if_pos h
theorem ZmI{i j:Int}(h:0<j/\j<1073741824):binT .FloorDiv (.int i) (.int j)=some (.int (i / j)):=if_pos h
theorem Zes{i j:Int}(h:0<j):binT .Mod (.int i) (.int j)=some (.int (i%j)):=if_pos h
theorem b_pow{i j:Int}(h:0<=j/\j<=1000/\i.natAbs<2^64):binT .Pow (.int i) (.int j)=some (.int (i^j.toNat)):=if_pos h
theorem x_tup(ts:List T)(i:Int):ixT (.tup ts) (.int i)=atT ts i:=rfl
theorem x_lst(ts:List T)(i:Int):ixT (.lst ts) (.int i)=atT ts i:=rfl
theorem x_scr(ts:List Int)(i:Int):ixT (.scr ts) (.int i)=(atT ts i).map .int:=rfl
theorem x_str{cs:List Nat}(h:cs.length<=lim)(i:Int):ixT (.str cs) (.int i)=(atT cs i).map λc=>.str [c]:=if_pos h
theorem s_lst(ts:List T)(lo hi:Option Int):slT (.lst ts) lo hi=some (.lst (cut ts lo hi)):=rfl
theorem s_scr(ts:List Int)(lo hi:Option Int):slT (.scr ts) lo hi=some (.lst ((cut ts lo hi).map .int)):=rfl
theorem ZjS{cs:List Nat}(h:cs.length<=lim):bltT .len [.str cs]=some (.int cs.length):=if_pos h
theorem ZlP(ts:List T):bltT .len [.lst ts]=some (.int ts.length):=rfl
theorem Zn2(ts:List T):bltT .len [.tup ts]=some (.int ts.length):=rfl
theorem l_scr(ts:List Int):bltT .len [.scr ts]=some (.int ts.length):=rfl
theorem Zn3(b:Bool):bltT .int [.bl b]=some (.int (b2i b)):=rfl
theorem ZlO{i:Int}(h:i.natAbs<2^250):bltT .str [.int i]=some (.str (decI i)):=if_pos h
theorem Zdy(ts:List T):bltT .tuple [.lst ts]=some (.tup ts):=rfl
theorem ZjU{ts:List T}{bs:List Bool}(h:bools? ts=some bs):bltT .all [.lst ts]=some (.bl (bs.all id)):=by
 show(bools? ts).map _=_
 rw[h];rfl
theorem ZjT{i:Int}(h:i<2^62/\-(2^62)<=i):bltT .range1 [.int i]=some (.lst (rangeT 0 i.toNat)):=if_pos h
theorem ZkB:views [] m=some []:=rfl
theorem ZkC(x:T)(ws:List W):views (.t x::ws) m=(views ws m).map (x::·):=rfl
theorem Ji:frzs [] m=.ok [] m:=rfl
theorem Xm(x:T)(ws:List W):frzs (.t x::ws) m=(frzs ws m).bind λts m=>.ok (x::ts) m:=rfl
theorem Zn{i:Nat}(h:ev call gv e env m=.ok w m1):ex call gv (.asg i e k) env m=ex call gv k (env.set i (some w)) m1:=by rw[ex,h];rfl
theorem Zf(h:ev call gv e env m=.ok w m1):ex call gv (.ret e k) env m=.ok (.ret w) m1:=by rw[ex,h];rfl
theorem Zw(h:ev call gv e env m=.ok (.t (.bl true)) m1)(h2:ex call gv a env m1=.ok (.ret w) m2):ex call gv (.ife e a b k) env m=.ok (.ret w) m2:=by
 rw[ex,h]
 show(ex call gv a env m1).bind _=_
 rw[h2];rfl
theorem Zq(h:ev call gv e env m=.ok (.t (.bl false)) m1):ex call gv (.ife e a .done k) env m=ex call gv k env m1:=by rw[ex,h];rfl
theorem ZhX{c:Nat}{o i v:E}{x:T}{j:Int}{xs:List T}{q:Nat}(h1:ev call gv v env m=.ok (.t x) m1)(h2:ev call gv o env m1=.ok (.c c) m1)(h3:ev call gv i env m1=.ok (.t (.int j)) m1)(h4:m1[c]?=some (some (false,xs)))(h5:ixOf xs.length j=some q):
  ex call gv (.set o i v k) env m=ex call gv k env (m1.set c (some (false,xs.set q x))):=by
 rw[ex,h1]
 show((ev call gv o env m1).bind _)=_
 rw[h2]
 show((ev call gv i env m1).bind _)=_
 rw[h3]
 show(setM (.c c) (.t (.int j)) (.t x) m1).bind _=_
 have:setM (.c c) (.t (.int j)) (.t x) m1=.ok () (m1.set c (some (false,xs.set q x))):=by
  unfold setM
  dsimp only[frz,Res.bind]
  rw[h4]
  dsimp only
  rw[h5]
 rw[this];rfl
theorem Zi{n:Nat}{cell:Bool}{t:T}(h:m1.length=n):fin n cell (.ret (.t t)) m1=.ok (.t t) m1:=by
 show Res.ok (W.t t) (m1.take n)=_
 rw[<-h,YaI]
theorem Zv{c:Prop}[Decidable c]{b:S}{env:Env}{m m1 m2:Mem}{k:Nat}{cell:Bool}{X:Res W}{w w':W}(hX:X=if c then(ex call gv b env m).bind λfl m'=>fin k cell fl m' else .stuck)(hc:c)(key:ex call gv b env m=.ok (.ret w) m1)(hf:fin k cell (.ret w) m1=.ok w' m2):X=.ok w' m2:=by
 rw[hX,if_pos hc,key]
 exact hf
theorem ZoV{sep:List Nat}{xs:List T}{ys:List (List Nat)}(h:strs? xs=some ys)(hz:(ys.map YW).sum+ys.length*sep.length<=lim):doM .join (.t (.str sep)) [.t (.lst xs)] m=.ok (.t (.str (Zd sep ys))) m:=by
 show pur ((strs? xs).bind λys=>if(ys.map YW).sum+ys.length*sep.length<=lim then some (.str (Zd sep ys))else none) m=_
 rw[h]
 show pur (if(ys.map YW).sum+ys.length*sep.length<=lim then some (.str (Zd sep ys))else none) m=_
 rw[if_pos hz]
 rfl
theorem ZoB{x:List Nat}:tyM .join (.t (.str x)) m=true:=rfl
end
noncomputable def EVs:=YL @Ze (YL @only_k (YL @view_k (YL @pur_k (YL @ZqH (YL @Zm1 (YL @frz_k (YL @ZmJ (YL @intP_k (YL @c_lt (YL @c_le (YL @c_gt (YL @c_ge (YL @Zep (YL @c_neI (YL @c_eqB (YL @c_neB (YL @Zhf (YL @ZqD (YL @c_in1 (YL @c_isT (YL @Zao (YL @ZmH (YL @x_tup (YL @x_lst (YL @x_scr (YL @s_lst (YL @s_scr (YL @ZlP (YL @Zn2 (YL @l_scr (YL @Zn3 (YL @Zdy (YL @ZkB (YL @ZkC (YL @Ji (@Xm))))))))))))))))))))))))))))))))))))
end Mi
namespace Mi
open PySem PySem.Spec PyProof.Rows L2
theorem ZcV:∀{a b:List Nat},nlt a b=false->nlt b a=false->a=b
 |[],[],_,_=>rfl
 |[],_::_,h,_=>by simp[nlt]at h
 |_::_,[],_,h=>by simp[nlt]at h
 |a::x,b::y,h1,h2=>by
  unfold nlt at h1 h2
  by_cases h:a<b
  ·simp[h]at h1
  ·by_cases h':b<a
   ·simp[h']at h2
   ·have e:a=b:=by omega
    subst e
    simp at h1 h2
    rw[ZcV h1 h2]
theorem ZlC:∀{a b c:List Nat},nlt b a=false->nlt c b=false->nlt c a=false
 |a,b,[],h1,h2=>by
  cases b with
  |nil=>cases a with
   |nil=>rfl
   |cons _ _=>simp[nlt]at h1
  |cons _ _=>simp[nlt]at h2
 |[],_,_::_,_,_=>rfl
 |a::x,[],c::z,h1,h2=>by simp[nlt]at h1
 |a::x,b::y,c::z,h1,h2=>by
  unfold nlt at h1 h2 ⊢
  by_cases p1:b<a
  ·simp[p1]at h1
  ·by_cases p2:c<b
   ·simp[p2]at h2
   ·by_cases p3:a<b
    ·have:¬c<a:=by omega
     have q:a<c:=by omega
     simp[this,q]
    ·have e:a=b:=by omega
     subst e
     by_cases p4:a<c
     ·simp[p4,p2]
     ·have e:c=a:=by omega
      subst e
      simp at h1 h2 ⊢
      exact ZlC h1 h2
theorem ZdC(x:List Nat):∀l,(insN x l).Perm (x::l)
 |[]=>.refl _
 |y::r=>by
  unfold insN
  split
  ·exact((ZdC x r).cons y).trans (.swap x y r)
  ·exact .refl _
theorem Xi:∀xs,(Zbp xs).Perm xs
 |[]=>.refl _
 |x::xs=>(ZdC x _).trans ((Xi xs).cons x)
theorem Zl1(x:List Nat):∀{l:List (List Nat)},l.Pairwise (λa b=>nlt b a=false)->(insN x l).Pairwise (λa b=>nlt b a=false)
 |[],_=>Vf _ _
 |y::r,h=>by
  rw[Wf]at h
  unfold insN
  split
  ·rename_i hy
   refine Wf.mpr ⟨λz hz=>?_,Zl1 x h.2⟩
   rcases Ym.mp ((ZdC x r).mem_iff.mp hz)with rfl|hz
   ·cases q:nlt z y with
    |false=>rfl
    |true =>
     have:nlt y z=false:=by
      rw[ZgH]at hy q ⊢
      exact decide_eq_false λw=>absurd (List.lt_trans (of_decide_eq_true q) w) (List.lt_irrefl _)
     rw[this]at hy;cases hy
   ·exact h.1 z hz
  ·rename_i hy
   have hy:nlt y x=false:=by simpa using hy
   refine Wf.mpr ⟨λz hz=>?_,Wf.mpr h⟩
   rcases Ym.mp hz with rfl|hz
   ·exact hy
   ·exact ZlC hy (h.1 z hz)
theorem ZeX:∀xs:List (List Nat),(Zbp xs).Pairwise (λa b=>nlt b a=false)
 |[]=>.nil
 |x::xs=>Zl1 x (ZeX xs)
theorem ZoK:∀a b:List Nat,ltCps a b=nlt a b
 |[],[]=>by simp[ltCps,nlt]
 |[],_::_=>by simp[ltCps,nlt]
 |_::_,[]=>by simp[ltCps,nlt]
 |a::x,b::y=>by
  unfold ltCps nlt
  rw[ZoK x y]
  by_cases h:a<b
  ·simp[h]
  ·by_cases h2:b<a
   ·have:¬a=b:=by omega
    simp[h,h2,this]
   ·have:a=b:=by omega
    subst this
    simp
theorem Zch:∀(l:List (List Nat)) (x:List Nat),risingS ⟨x.toArray⟩ (l.map λc=>(⟨c.toArray⟩:Str))=true->(x::l).Pairwise (λa b=>nlt b a=false)
 |[],x,_=>Vf _ _
 |y::l,x,h=>by
  rw[Yz,risingS.eq_2,Yg]at h
  have h1:nlt y x=false:=by
   have:=h.1
   rw[ZoK]at this
   simpa using this
  have ih:=Zch l y h.2
  refine Wf.mpr ⟨λz hz=>?_,ih⟩
  rcases Ym.mp hz with rfl|hz
  ·exact h1
  ·exact ZlC h1 ((Wf.mp ih).1 z hz)
theorem ZkP{xs ys:List (List Nat)}(hp:(ys.map λc=>(⟨c.toArray⟩:Str)).Perm (xs.map λc=>(⟨c.toArray⟩:Str)))(hs:sortedS (ys.map λc=>(⟨c.toArray⟩:Str))=true):ys=Zbp xs:=by
 have hp':ys.Perm xs:=by
  have:=hp.map λs:Str=>s.cps.toList
  simpa[Wa,Function.comp_def]using this
 have hw:ys.Pairwise (λa b=>nlt b a=false):=by
  cases ys with
  |nil=>exact .nil
  |cons y ys=>exact Zch ys y hs
 exact List.Perm.eq_of_pairwise (λa b _ _ h1 h2=>ZcV h2 h1) hw (ZeX xs) (hp'.trans (Xi xs).symm)
section
variable{K:Frag}{cm:List Addr}{m:Mem}{H:Hp}{xr:XR}{X:Cx}{call:Nat->List W->Mem->Res W}{gv:List T}
variable{a b c e:Expr}{es:List Expr}{ea eb ec:E}{eas:Es}{pos p p2:Pos}{rest:List Stmt}{k:S}{n:Nat}
theorem Zf2{us:List Value}{ss:List Str}(h:YbN us ss):∃ys:List (List Nat),ss=ys.map (λc=>(⟨c.toArray⟩:Str))/\Vals (ys.map λc=>V.str ⟨c.toArray⟩) us:=by
 induction h with
 |nil=>exact⟨[],rfl,.nil⟩
 |cons y t _ ih =>
  obtain⟨ys,rfl,h2⟩:=ih
  exact⟨y.cps.toList::ys,by simp,.cons ⟨t,by simp⟩ h2⟩
theorem ZkK(ys:List (List Nat)):RTs K cm m H (ys.map .str) (ys.map λc=>V.str ⟨c.toArray⟩):=by
 induction ys with
 |nil=>exact .nil
 |cons y ys ih=>exact .cons (.str y) ih
theorem Zhd:Xr X (.builtin "sorted") (rN X.K xr (fBlt .sorted)):=by
 rintro pins s σ H xs us Q I r ⟨cm,m,ws,M,rws,ho⟩
 obtain⟨w,v,t,rr,rfl,rfl,rv,e,eb,ho⟩:=blt1 rws (Zai (by decide)) ho
 cases t with
 |lst ts =>
  have eb:((strs? ts).bind λxs=>if xs.length<64 then some (T.lst ((Zbp xs).map .str))else none)=some rr:=eb
  cases q:strs? ts with
  |none=>rw[q]at eb;cases eb
  |some bs =>
   rw[q]at eb
   have eb:(if bs.length<64 then some (T.lst ((Zbp bs).map .str))else none)=some rr:=eb
   split at eb<;>cases eb
   rename_i h64
   obtain⟨a,vs,rfl,h1,r1⟩:=ZD M rv e
   obtain⟨u,rfl,ru⟩:=vals1 r
   cases ru
   obtain⟨its,rv',pl,hz⟩:=I.list (.of h1)
   cases RTs.strs r1 q
   have hsa:=Zap rv'
   have hl:=rv'.length
   rw[Yc]at hl
   refine sorted_strs pl.isList hsa (by omega) λout ss' hso hperm hsort=>?_
   obtain⟨ys,rfl,hv⟩:=Zf2 hso
   have ey:=ZkP hperm hsort
   subst ey
   obtain⟨ep,hat⟩:=sortedAll_at s.heap its out
   have hlen:=hv.length
   have hsl:=W3
   have hpl:=(Xi bs).length_eq
   refine⟨.ref (s.heap.objs.size+1),_,I.laid (t':=s.toks) (λb ob q=>sortedAll_old q) (GQ _) ?_,rfl,Zba ho M (ZkK _) (I.hok.fresh (GQ _))⟩
   refine⟨by rw[Yc];omega,out.toList,ep,hv,?_⟩
   simpa[seqObj]using hat
 |_=>cases eb
theorem ZhG(hg:Gl X "sorted")(hm:X.mg "sorted" = none)(ha:PA X (e::es) (tA X.K call gv xr eas))(he:notStar e=true)(hpl:es.all notStar=true):PE X (.Call (.Name "sorted" p) (e::es) [] pos) (tE X.K call gv xr (.blt .sorted eas)):=Zfn Zhd (by decide +kernel) hg hm ha (by decide) (by decide) he hpl
theorem Zcy{α β:Type}{F:α->β->Prop}:∀{xs:List α}{ys:List β}(k:Nat),Paired F xs ys->Paired F (xs.eraseIdx k) (ys.eraseIdx k)
 |_,_,_,.nil=>.nil
 |_,_,0,.cons _ t=>t
 |_,_,k+1,.cons r t=>.cons r (Zcy k t)
theorem ZlH:MtR X "list.pop" (rM X.K xr .popat):=by
 rintro pins s σ H x xs v us Q I rx rs ⟨cm,m,w,ws,M,rw',rws,ho⟩
 cases w with
 |t t=>exact ho.elim
 |f a=>exact ho.elim
 |x _ _ _=>exact ho.elim
 |o _ _ _=>exact ho.elim
 |u=>exact ho.elim
 |c i =>
  have ho:OkR X.K ((frzs ws m).bind λts m=>match m[i]? with
   |some (some (false,xs))=>match mutM .popat xs ts with
    |some (t,ys)=>.ok (W.t t) (m.set i (some (false,ys)))
    |none=>.stuck
   |_=>.stuck) xr cm m H _:=ho
  obtain⟨ts,m2,e2,o2⟩:=ZbZ ho
  obtain⟨x2,M2,r2⟩:=Zcp M rws e2
  obtain⟨a,ha,rfl⟩:=rw'
  split at o2
  ·rename_i ys e3
   split at o2
   ·rename_i t zs e4
    obtain⟨b,vs,q1,q2,q3,q4⟩:=M2.at' i _ e3
    rw[ha]at q1;cases q1
    have l4:=q4.length
    have hz:=ZF
    match ts,r2,e4 with
    |[.int j],.cons r3 .nil,e4 =>
     have e4:(match ixOf ys.length j with
      |some k=>(ys[k]?).map λt=>(t,ys.eraseIdx k)
      |none=>none)=some (t,zs):=e4
     split at e4
     ·rename_i k hk
      cases q5:ys[k]? with
      |none=>rw[q5]at e4;cases e4
      |some y =>
       rw[q5]at e4;cases e4
       cases RT.vint r3
       obtain⟨yv,hy,ry⟩:=ZX q4 q5
       obtain⟨x5,M5⟩:=Zcr M2 e3 ha (Zcy k q4)
       have hk2:ixN vs.length j=some k:=by rw[<-l4];exact hk
       obtain⟨z1,z2,z3,z4⟩:=ZhS hk2
       obtain⟨its,nn,rr,hho,hzz⟩:=I.lst q2
       have hsl:=W3
       exact ZnX pins s σ H _ _ v us Q I rx rs ⟨a,vs,j,k,yv,rfl,rfl,q2,by omega,by omega,z1,hy,OkR.to o2 (x2.trans x5) M5 _ (RT.ext x5 M2 M5 ry)⟩
     ·cases e4
    |[],_,e4=>cases e4
    |x1::_::_,_,e4=>cases x1<;>cases e4
    |[.non],_,e4=>cases e4
    |[.bl _],_,e4=>cases e4
    |[.str _],_,e4=>cases e4
    |[.tup _],_,e4=>cases e4
    |[.lst _],_,e4=>cases e4
    |[.dct _ _],_,e4=>cases e4
    |[.scr _],_,e4=>cases e4
   ·exact o2.elim
  ·exact o2.elim
theorem ty_cell{b:Mt}{w:W}{v:V}(hb:b=.append∨b=.popat)(M:MemR K cm m H)(r:RW K cm m H w v)(h:tyM b w m=true):tyV K "list" v H:=by
 cases w with
 |t t=>rcases hb with rfl|rfl<;>cases h
 |f a=>rcases hb with rfl|rfl<;>cases h
 |x _ _ _=>rcases hb with rfl|rfl<;>cases h
 |o _ _ _=>rcases hb with rfl|rfl<;>cases h
 |u=>rcases hb with rfl|rfl<;>cases h
 |c i =>
  obtain⟨a,h1,rfl⟩:=r
  have ht:(match m[i]? with
   |some (some _)=>true
   |_=>false)=true:=by rcases hb with rfl|rfl<;>exact h
  split at ht
  ·rename_i c e1
   obtain⟨b,vs,q1,q2,_⟩:=M.at' i _ e1
   rw[h1]at q1;cases q1
   exact .inl ⟨rfl,vs,.of q2⟩
  ·cases ht
theorem Zpx{o:Expr}{apos cpos:Pos}(ho:PE X o (tE X.K call gv xr ea))(ha:PA X [e] (tA X.K call gv xr eas))(hbase:Ve o "pop" X.env (eval o X.env)=eval o X.env:=by rfl)(hline:(apos.endLine==cpos.line)=true:=by rfl)(hs:notStar e=true:=by rfl):
  PE X (.Call (.Attribute o "pop" apos) [e] [] cpos) (tE X.K call gv xr (.mth .popat ea eas)):=by
 refine PE.mono (Zlj PySem.F.plainAttrs_list PySem.F.slot_list_pop PySem.F.type_list_pop (ZlH (xr:=xr)) ho ha hbase (few1 hs) hline (QL hs) (Za3 rfl)) ?_
 rintro σ H Q ⟨env,cm,m,hE,M,hq⟩
 rw[ev]at hq
 refine⟨env,cm,m,hE,M,hq.bind.mono λw cm1 m1 H1 x1 M1 o1 v rv=>?_⟩
 obtain⟨ht,o1⟩:=ZcD o1
 exact⟨ty_cell (.inr rfl) M1 rv ht,env,cm1,m1,hE.ext x1 M M1,M1,o1.bind.mono λws cm2 m2 H2 x2 M2 o2 vs rvs=>⟨cm2,m2,w,ws,M2,rv.ext x2 M1 M2,rvs,o2⟩⟩
theorem Zkp:Xr X (.type "list") (λxs H Q=>∃p ys,xs=[.ref p]/\(SqL X.K H p ys∨SqT X.K H p ys)/\∀l,H l=none->X.K.lookup l=none->Q (.ref l) (upd H l (.lst ys))):=by
 intro pins s σ H xs us Q I r h
 obtain⟨p,ys,rfl,hq,q⟩:=h
 obtain⟨u,rfl,rx⟩:=vals1 r
 cases rx
 have fin:∀(its:List Value),Vals ys its->ys.length<=YJ->∀(h':Heap) (c':Nat),(∀b o',s.heap.get? b=some o'->h'.get? b=some o') ->
   h'.get? s.heap.objs.size=some { cls:=.type "list",dict:=none,data:=.seq its.toArray c',slots:=#[] }->EP X pins σ Q (.ref s.heap.objs.size) { s with heap:=h' }:=λits r' hz h' c' kp e =>
  ⟨.ref s.heap.objs.size,_,I.laid (t':=s.toks) kp (Yn _) (show JQ X.prog X.w _ h' _ (.lst ys)from⟨hz,its,c',r',e⟩),rfl,q _ (I.hok.fresh (Yn _)) (Mi.Inv.notK I)⟩
 rcases hq with hq|hq
 ·obtain⟨its,r',pl,hz⟩:=I.list hq
  have hlen:=r'.length
  obtain⟨o,ho,hc,n,hd⟩:=pl.isList
  exact Yax p (.inl rfl) ho hc hd (λh' c' kp e=>fin its r' hz h' c' kp e) (by simp only[Yh]<;>omega)
 ·obtain⟨its,r',pl,hz⟩:=I.tuple hq
  have hlen:=r'.length
  obtain⟨o,ho,hc,n,hd⟩:=pl
  exact Yax p (.inr rfl) ho hc hd (λh' c' kp e=>fin its r' hz h' c' kp e) (by simp only[Yh]<;>omega)
theorem ZnM(hg:Gl X "list")(hm:X.mg "list" = none)(ha:PA X [e] (tA X.K call gv xr (.cons ea .nil)))(he:notStar e=true):PE X (.Call (.Name "list" p) [e] [] pos) (tE X.K call gv xr (.celL ea)):=by
 refine PE.mono (Zgy Zkp hg hm (by decide +kernel) ha (by decide) (by decide) (QL he) (Za3 rfl)) ?_
 rintro σ H Q ⟨env,cm,m,hE,M,ho⟩
 rw[ev]at ho
 have e0:evs call gv (.cons ea .nil) env m=(ev call gv ea env m).bind λw m=>.ok [w] m:=by
  rw[evs]
  cases ev call gv ea env m with
  |ok w m1=>simp only[Res.bind,evs]
  |exc x m1=>rfl
  |stuck=>rfl
 refine⟨env,cm,m,hE,M,?_⟩
 rw[e0]
 cases q:ev call gv ea env m with
 |stuck=>rw[q]at ho;exact ho.elim
 |exc x m1=>rw[q]at ho;exact ho
 |ok w m1 =>
  rw[q]at ho
  intro cm1 H1 x1 M1 vs rvs
  cases rvs with
  |cons rv r0 =>
   cases r0
   have ho:OkR X.K (match view w m1 with
    |some (.lst ts)=>.ok (W.c m1.length) (m1++[some (false,ts)])
    |some (.tup ts)=>.ok (W.c m1.length) (m1++[some (false,ts)])
    |_=>.stuck) xr cm1 m1 H1 _:=OkR.shift ho x1
   split at ho
   ·rename_i ts e1
    obtain⟨a,us,rfl,h1,r1⟩:=ZD M1 rv e1
    refine⟨a,us,rfl,.inl (.of h1),λl hl hk=>?_⟩
    obtain⟨x3,M3,r3⟩:=Zc4 M1 r1 hl hk
    exact OkR.to ho x3 M3 _ r3
   ·rename_i ts e1
    obtain⟨a,us,rfl,h1,r1⟩:=(Zg rv e1 (λ_ z=>by cases z)).itup
    refine⟨a,us,rfl,.inr h1,λl hl hk=>?_⟩
    obtain⟨x3,M3,r3⟩:=Zc4 M1 r1 hl hk
    exact OkR.to ho x3 M3 _ r3
   ·exact ho.elim
theorem ZpY:OpR X (Wy .Add) (λx y H Q=>∃l b xs zs,x=.ref l/\y=.ref b/\H l=some (.lst xs)/\H b=some (.lst zs)/\xs.length+zs.length<=YJ/\∀p,H p=none->X.K.lookup p=none->Q (.ref p) (upd H p (.lst (xs++zs)))):=by
 intro pins s σ H x y v u Q I rx ry h
 obtain⟨l,b,xs,zs,rfl,rfl,hH,hB,hz,q⟩:=h
 cases rx
 cases ry
 obtain⟨z,its,n,r,hl,e⟩:=I.lstM hH
 obtain⟨z2,its2,n2,r2,hl2,e2⟩:=I.lstM hB
 refine PySem.P.add_list e e2 ?_ (by rw[Yh,Yh];omega)
 have ea:its.toArray++its2.toArray=(its++its2).toArray:=by simp
 rw[ea]
 exact⟨.ref _,_,I.lnew (t':=s.toks) (r.append r2) (by rw[Yi];omega),rfl,q _ I.fresh (Mi.Inv.notK I)⟩
theorem ZpZ:OpR X (Wy .Add) (r2 X.K xr addC):=by
 rintro pins s σ H x y v u Q I rx ry ⟨cm,m,a,b,M,ra,rb,ho⟩
 unfold addC at ho
 split at ho
 ·rename_i ts e
  obtain⟨ta,tb,ea,eb,e⟩:=ZdZ e
  unfold addT at e
  have hz:=ZF
  split at e
  ·cases e
  ·split at e<;>cases e
  ·split at e<;>cases e
  ·split at e<;>cases e
   obtain⟨p,vs,rfl,h1,r1⟩:=ZD M ra ea
   obtain⟨q,us,rfl,h2,r2⟩:=ZD M rb eb
   have l1:=r1.length
   have l2:=r2.length
   refine ZpY pins s σ H _ _ v u Q I rx ry ⟨p,q,vs,us,rfl,rfl,h1,h2,by omega,λl hl hk=>?_⟩
   obtain⟨x3,M3,r3⟩:=Zc4 M (Z7 r1 r2) hl hk
   exact OkR.to ho x3 M3 _ r3
  ·cases e
 ·exact ho.elim
theorem ZnN(ha:PE X a (tE X.K call gv xr ea))(hb:PE X b (tE X.K call gv xr eb)):PE X (.BinOp a .Add b pos) (tE X.K call gv xr (.celA ea eb)):=
 PE.mono (pe_op ZpZ ha hb) (ZkI λenv m=>by rw[ev])
end
theorem ZlB(a:List Nat):nlt a a=false:=by rw[ZgH];simp
theorem ZoJ{a b c:List Nat}(h1:nlt a b=true)(h2:nlt b c=true):nlt a c=true:=by
 rw[ZgH]at *
 have h1:=of_decide_eq_true h1
 have h2:=of_decide_eq_true h2
 exact decide_eq_true (List.lt_trans h1 h2)
theorem Zp2{a b:List Nat}(h:nlt a b=true):nlt b a=false:=by
 cases q:nlt b a with
 |false=>rfl
 |true =>
  have:=ZoJ h q
  rw[ZlB]at this
  cases this
theorem Zfz(x y:List Nat):∀l,y∈insT x l↔y=x∨y∈l
 |[]=>by simp[insT]
 |z::l=>by
  unfold insT
  split
  ·simp
  ·split
   ·rw[Ym,Zfz x y l,Ym]
    constructor
    ·rintro (h|h|h)
     ·exact .inr (.inl h)
     ·exact .inl h
     ·exact .inr (.inr h)
    ·rintro (h|h|h)
     ·exact .inr (.inl h)
     ·exact .inl h
     ·exact .inr (.inr h)
   ·rename_i h1 h2
    have e:=ZcV (by simpa using h1) (by simpa using h2)
    subst e
    simp
theorem Zl0(x:List Nat):∀l,l.Pairwise (λa b=>nlt a b=true)->(insT x l).Pairwise (λa b=>nlt a b=true)
 |[],_=>Vf _ _
 |z::l,h=>by
  unfold insT
  obtain⟨h1,h2⟩:=Wf.mp h
  split
  ·rename_i hx
   refine Wf.mpr ⟨λy hy=>?_,h⟩
   rcases Ym.mp hy with rfl|hy
   ·exact hx
   ·exact ZoJ hx (h1 y hy)
  ·split
   ·rename_i hz
    refine Wf.mpr ⟨λy hy=>?_,Zl0 x l h2⟩
    rcases(Zfz x y l).mp hy with rfl|hy
    ·exact hz
    ·exact h1 y hy
   ·exact h
theorem Xy(y:List Nat):∀xs,y∈Z6 xs↔y∈xs
 |[]=>by simp[Z6]
 |x::xs=>by
  show y∈insT x (Z6 xs)↔_
  rw[Zfz,Xy y xs,Ym]
theorem Zcd:∀xs,(Z6 xs).Pairwise (λa b=>nlt a b=true)
 |[]=>.nil
 |x::xs=>Zl0 x _ (Zcd xs)
theorem Zev(xs:List (List Nat)):(Z6 xs).Nodup:=(Zcd xs).imp λ{a b} h e=>by
 subst e
 rw[ZlB]at h
 cases h
theorem ZoU(val:Nat->Str)(x:Str):∀n,x∈dd val n↔∃i,i<n/\val i=x
 |0=>by simp[dd]
 |n+1=>by
  have ih:=ZoU val x n
  unfold dd
  split
  ·rename_i h
   rw[ih]
   constructor
   ·rintro ⟨i,hi,e⟩
    exact⟨i,by omega,e⟩
   ·rintro ⟨i,hi,e⟩
    by_cases hn:i=n
    ·subst hn
     rw[e]at h
     exact ih.mp h
    ·exact⟨i,by omega,e⟩
  ·rw[Y7,ih,YX]
   constructor
   ·rintro (⟨i,hi,e⟩|e)
    ·exact⟨i,by omega,e⟩
    ·exact⟨n,by omega,e.symm⟩
   ·rintro ⟨i,hi,e⟩
    by_cases hn:i=n
    ·subst hn;exact .inr e.symm
    ·exact .inl ⟨i,by omega,e⟩
theorem ZlJ{a b:List Nat}(h:(⟨a.toArray⟩:Str)=⟨b.toArray⟩):a=b:=by
 injection h with h
 simpa using h
theorem set_is{xs ys:List (List Nat)}{val:Nat->Str}(hv:∀(i:Nat) c,xs[i]?=some c->val i=⟨c.toArray⟩)(hd:(dd val xs.length).Nodup)(hp:(ys.map λc=>(⟨c.toArray⟩:Str)).Perm (dd val xs.length))(hs:sortedS (ys.map λc=>(⟨c.toArray⟩:Str))=true):ys=Z6 xs:=by
 have hw:ys.Pairwise (λa b=>nlt b a=false):=by
  cases ys with
  |nil=>exact .nil
  |cons y ys=>exact Zch ys y hs
 have hn:ys.Nodup:=by
  have h1:=hp.nodup_iff.mpr hd
  exact(List.pairwise_map.mp h1).imp λ{a b} h e=>h (by rw[e])
 have hm:∀c,c∈ys↔c∈Z6 xs:=λc=>by
  rw[Xy]
  have h1:c∈ys↔(⟨c.toArray⟩:Str)∈ys.map λc=>(⟨c.toArray⟩:Str):=by
   constructor
   ·exact λh=>YK.mpr ⟨c,h,rfl⟩
   ·intro h
    obtain⟨d,hd,e⟩:=YK.mp h
    rw[<-ZlJ e]
    exact hd
  rw[h1,hp.mem_iff,ZoU]
  constructor
  ·rintro ⟨i,hi,e⟩
   have:=hv i xs[i] (YM hi)
   rw[this]at e
   rw[<-ZlJ e]
   exact Ge hi
  ·intro h
   obtain⟨i,hi,rfl⟩:=V2 h
   exact⟨i,hi,hv i _ (YM hi)⟩
 have hpm:=(List.perm_ext_iff_of_nodup hn (Zev xs)).mpr hm
 exact List.Perm.eq_of_pairwise (λa b _ _ h1 h2=>ZcV h2 h1) hw ((Zcd xs).imp λ{a b} h=>Zp2 h) hpm
section
variable{K:Frag}{cm:List Addr}{m:Mem}{H:Hp}{xr:XR}{X:Cx}{call:Nat->List W->Mem->Res W}{gv:List T}
variable{a b c e:Expr}{es:List Expr}{ea eb ec:E}{eas:Es}{pos p p2 pos2:Pos}{rest:List Stmt}{k:S}{n:Nat}
theorem Inv.redraw{pins:List (Addr×Obj)}{s:Shared}{σ:L2.St}{d:Drawn}(I:Inv X pins σ H s):Inv X pins σ H { s with drawn:=d }:=
 ⟨I.ok,I.os,I.bare,I.base,I.loc,I.cell,I.free,I.freeC,I.pin,I.hok,I.len⟩
theorem str_at{its:List Value}{xs:List (List Nat)}(h:YbN its (xs.map λc=>(⟨c.toArray⟩:Str))):∀(i:Nat) v,its[i]?=some v->∃t,v=.str ((xs.map λc=>(⟨c.toArray⟩:Str)).getD i ⟨#[]⟩) t:=by
 generalize xs.map (λc=>(⟨c.toArray⟩:Str))=ss at h
 induction h with
 |nil=>intro i v e;simp at e
 |cons y t _ ih =>
  intro i v e
  cases i with
  |zero=>simp at e;exact⟨t,by rw[<-e];rfl⟩
  |succ i =>
   obtain⟨t',h'⟩:=ih i v (by simpa using e)
   exact⟨t',by rw[h'];rfl⟩
theorem ZhF(hc:X.calm=true)(hg1:Gl X "sorted")(hm1:X.mg "sorted" = none)(hg2:Gl X "set")(hm2:X.mg "set" = none)(ha:PA X [e] (tA X.K call gv xr (.cons ea .nil)))(he:notStar e=true:=by rfl):
  PE X (.Call (.Name "sorted" p) [.Call (.Name "set" p2) [e] [] pos2] [] pos) (tE X.K call gv xr (.blt .sortset (.cons ea .nil))):=by
 rintro pins s σ H Q I ⟨env,cm,m,hE,M,ho⟩
 rw[ev]at ho
 refine Gk (Zdx I hg1 hm1 (show Ui "sorted" = some (.builtin "sorted")from by decide +kernel) ?_ (by decide) (by decide))
 refine PyProof.Rows.callWith_builtin1 ?_ rfl rfl
 refine Calls.spliced_cons ?_
 refine Gk (Zdx I hg2 hm2 (show Ui "set" = some (.type "set")from by decide +kernel) ?_ (by decide) (by decide))
 refine Uq (thn (ha pos2 pins s σ H (λvs H1=>∃cm1 m1 ws,MemR X.K cm1 m1 H1/\RWs X.K cm1 m1 H1 ws vs/\OkR X.K (fBlt .sortset ws m1) xr cm1 m1 H1 λw cm' m' H'=>∀v,RW X.K cm' m' H' w v->Q v H') I ⟨env,cm,m,hE,M,ho.bind.mono λws cm1 m1 H1 x1 M1 o1 vs rvs=>⟨cm1,m1,ws,M1,rvs,o1⟩⟩) λus s1 ⟨vs,H1,I1,r1,cm1,m1,ws,M1,rws,o1⟩=>?_) (QL he) rfl
 obtain⟨w,v,t,rr,rfl,rfl,rv,eq,eb,ho⟩:=blt1 rws (Zai (by decide)) o1
 cases t with
 |lst ts =>
  have eb:((strs? ts).bind λxs=>if xs.length<64 then some (T.lst ((Z6 xs).map .str))else none)=some rr:=eb
  cases q:strs? ts with
  |none=>rw[q]at eb;cases eb
  |some bs =>
   rw[q]at eb
   have eb:(if bs.length<64 then some (T.lst ((Z6 bs).map .str))else none)=some rr:=eb
   split at eb<;>cases eb
   rename_i h64
   obtain⟨a,vs,rfl,h1,rr1⟩:=ZD M1 rv eq
   obtain⟨u,rfl,ru⟩:=vals1 r1
   cases ru
   obtain⟨its,rv',pl,hz⟩:=I1.list (.of h1)
   cases RTs.strs rr1 q
   have hsa:=Zap rv'
   have hl:=rv'.length
   rw[Yc]at hl
   have hA:=I1.ok.hd hc
   refine ZfP hA pl.isList (λi v hv=>str_at hsa i v (by simpa using hv)) (by unfold VV;simp;omega) λh' tk hS kp=>?_
   have I2:Inv X pins σ H1 { s1 with heap:=h',toks:=tk }:=I1.kept kp
   refine Yd ?_
   rw[show its.toArray.size=bs.length by simp;omega]at hS
   have hlen:=Zmr (λi=>(bs.map λc=>(⟨c.toArray⟩:Str)).getD i ⟨#[]⟩) bs.length
   have hnd:(dd (λi=>(bs.map λc=>(⟨c.toArray⟩:Str)).getD i ⟨#[]⟩) bs.length).Nodup:=by
    obtain⟨_,_,_,_,_,hE⟩:=hS
    exact hE.nd
   refine Zi9 hA hS (by omega) λh2 tk2 d l out ss' ep hso hperm hsort hat hle kp2 ht=>?_
   obtain⟨ys,rfl,hv⟩:=Zf2 hso
   have ey:=set_is (λi c hc=>by simp[List.getD,hc]) hnd hperm hsort
   subst ey
   have hvl:=hv.length
   have hsl:=W3
   have hpl:(Z6 bs).length<=bs.length:=by
    have:=hperm.length_eq
    rw[Yc]at this
    omega
   have I3:Inv X pins σ (upd H1 l (.lst ((Z6 bs).map λc=>V.str ⟨c.toArray⟩))) { s1 with heap:=h2,toks:=tk2 }:=
    I2.laid (t':=tk2) kp2 hle ⟨by rw[Yc];omega,out,ep,hv,by simpa[seqObj]using hat⟩
   exact⟨.ref l,_,Inv.redraw I3,rfl,Zba ho M1 (ZkK _) (I2.hok.fresh hle)⟩
 |_=>cases eb
theorem Zft:∀{ks:List Key}{ts:List T}{vs:List V}(_:RTs K cm m H ts vs) (k:Key),(∃t v,Qv ks ts k=some t/\valV (ks.zip vs) k=some v/\RT K cm m H t v)∨(Qv ks ts k=none/\valV (ks.zip vs) k=none)
 |[],_,_,_,k=>.inr ⟨by simp[Qv],by simp[valV]⟩
 |_::_,_,_,.nil,k=>.inr ⟨by simp[Qv],by simp[valV]⟩
 |k0::ks,t::ts,v::vs,.cons r rs,k=>by
  by_cases h:k0=k
  ·subst h
   exact .inl ⟨t,v,by simp[Qv],by simp[valV],r⟩
  ·have e1:Qv (k0::ks) (t::ts) k=Qv ks ts k:=by simp[Qv,Gp,h]
   have e2:valV ((k0::ks).zip (v::vs)) k=valV (ks.zip vs) k:=by simp[valV,Gp,h]
   rw[e1,e2]
   exact Zft rs k
theorem Zqd{t:T}{k:Key}{v:V}(h:keyT t=some k)(r:RT K cm m H t v):v=kV k:=by
 unfold keyT at h
 split at h<;>cases h
 ·cases RT.vint r;rfl
 ·cases RT.vstr r;rfl
end
noncomputable abbrev q1(h:Heap)(a:Addr):Heap:=h.push { cls:=.type "list_iterator",data:=.fields #[.ref a,.int 0 0] }
noncomputable abbrev q5(h:Heap)(a b c d:Addr):Heap:=(q1 (q1 (q1 (q1 h a) b) c) d).push { cls:=.type "tuple",data:=.seq #[.ref h.objs.size,.ref (q1 h a).objs.size,.ref (q1 (q1 h a) b).objs.size,.ref (q1 (q1 (q1 h a) b) c).objs.size] }
noncomputable abbrev q6(h:Heap)(a b c d:Addr):Heap:=(q5 h a b c d).push { cls:=.type "tuple",data:=.seq #[.none,.none,.none,.none] }
noncomputable abbrev q7(h:Heap)(a b c d:Addr):Heap:=(q6 h a b c d).push { cls:=.type "zip",data:=.fields #[.none,.bool false,.bool false,.ref (q1 (q1 (q1 (q1 h a) b) c) d).objs.size,.ref (q5 h a b c d).objs.size] }
set_option maxHeartbeats 4000000 in
theorem Res.assoc{α β γ:Type}(r:Res α)(f:α->Mem->Res β)(g:β->Mem->Res γ):(r.bind f).bind g=r.bind λa m=>(f a m).bind g:=by cases r<;>rfl
section
variable{K:Frag}{cm cm':List Addr}{m m':Mem}{H H':Hp}{xr:XR}{X:Cx}{call:Nat->List W->Mem->Res W}{gv:List T}
variable{a b c e:Expr}{es:List Expr}{ea eb ec:E}{eas:Es}{pos p p2:Pos}{rest:List Stmt}{k:S}{n:Nat}
noncomputable def PP(X:Cx)(call:Nat->List W->Mem->Res W)(gv:List T)(xr:XR)(p:Expr)(ea:E):Prop:=
 ∀(pins:List (Addr×Obj)) (s:Shared) (σ:L2.St) (H:Hp) (cm:List Addr) (m:Mem) (env:Env) (acc:List Nat) (Q:List Nat->List Addr->Mem->Hp->Prop),Inv X pins σ H s->EnvR X.K cm m H env σ->MemR X.K cm m H ->
  OkR X.K ((ev call gv ea env m).bind λw m=>fmtW acc w m) xr cm m H Q ->
  wpAny (model X.prog X.w) X.A (eval p X.env) (λv s'=>∃H' cm' m' a tk,Inv X pins σ H' s'/\Ext cm m H cm' m' H'/\MemR X.K cm' m' H'/\v=.str ⟨List.toArray a⟩ tk/\acc.length+a.length<=lim/\Q (acc++a) cm' m' H') X.xe s
theorem Zmd{acc:List Nat}{w:W}{Q:List Nat->List Addr->Mem->Hp->Prop}(h:OkR K (fmtW acc w m) xr cm m H Q)(M:MemR K cm m H):∃t a,w=.t t/\fmtT t=some a/\acc.length+a.length<=lim/\Q (acc++a) cm m H:=by
 unfold fmtW at h
 split at h
 ·rename_i a e
  split at h
  ·rename_i hl
   cases w with
   |t t=>exact⟨t,a,rfl,e,hl,h.now M⟩
   |f _=>cases e
   |x _ _ _=>cases e
   |o _ _ _=>cases e
   |u=>cases e
   |c i =>
    exfalso
    unfold view at e
    dsimp only at e
    split at e<;>cases e
  ·exact h.elim
 ·exact h.elim
theorem pp_con{x:Str}{cs:List Nat}{j}(h:x.cps.toList=cs):PP X call gv xr (.Constant (.str x) j pos) (.con (.str cs)):=by
 intro pins s σ H cm m env acc Q I hE M ho
 rw[ev]at ho
 obtain⟨t,a,e1,e2,hl,q⟩:=Zmd (show OkR X.K (fmtW acc (.t (.str cs)) m) xr cm m H Q from ho) M
 cases e1
 cases e2
 rw[Zde h]
 exact Calls.Constant_str ⟨H,cm,m,cs,_,I.tok _,.refl,M,rfl,hl,q⟩
theorem pp_fmt(h:PE X e (tE X.K call gv xr ea)):PP X call gv xr (.FormattedValue e (-1) none pos) ea:=by
 intro pins s σ H cm m env acc Q I hE M ho
 refine FormattedValue_plain (thn (h pins s σ H (λv H1=>∃cm1 m1 w,Ext cm m H cm1 m1 H1/\MemR X.K cm1 m1 H1/\RW X.K cm1 m1 H1 w v/\OkR X.K (fmtW acc w m1) xr cm1 m1 H1 Q) I ⟨env,cm,m,hE,M,ho.bind.mono λw cm1 m1 H1 x1 M1 o1 v rv=>⟨cm1,m1,w,x1,M1,rv,o1⟩⟩) ?_)
 rintro u s1 ⟨v,H1,I1,ru,cm1,m1,w,x1,M1,rv,o1⟩
 obtain⟨t,a,rfl,e2,hl,q⟩:=Zmd o1 M1
 have hz:=ZF
 cases t with
 |str cs =>
  cases e2
  cases RT.vstr rv
  obtain⟨tk,rfl⟩:=ru
  exact formatField_str (λt' k'=>⟨H1,cm1,m1,a,t',I1.tok _,x1,M1,rfl,hl,q⟩) (by show a.toArray.size<=_;rw[Yh];omega)
 |int i =>
  have e2:(if i.natAbs<2^250 then some (decI i)else none)=some a:=e2
  split at e2<;>cases e2
  rename_i hc
  cases RT.vint rv
  obtain⟨tk,rfl⟩:=ru
  have hd:i.natAbs.log2<1920:=by
   by_cases h0:i.natAbs=0
   ·rw[h0];decide
   ·have:i.natAbs.log2<250:=(Nat.log2_lt h0).mpr hc
    omega
  refine formatField_int_small hd ⟨H1,cm1,m1,decI i,s1.toks+1,I1.tok _,x1,M1,?_,hl,q⟩
  congr 1
 |_=>cases e2
noncomputable def PFs(X:Cx)(call:Nat->List W->Mem->Res W)(gv:List T)(xr:XR):List Expr->Es->Prop
 |[],.nil=>True
 |p::ps,.cons e es=>PP X call gv xr p e/\PFs X call gv xr ps es
 |_,_=>False
theorem pf_nil:PFs X call gv xr [] .nil:=W4
theorem Zps(h1:PP X call gv xr e ea)(h2:PFs X call gv xr es eas):PFs X call gv xr (e::es) (.cons ea eas):=⟨h1,h2⟩
theorem ZiJ{pins:List (Addr×Obj)}{σ:L2.St}{env:Env}{Q:VK}:∀{ps:List Expr}{eas:Es}{s:Shared}{H:Hp}{cm:List Addr}{m:Mem}{acc:List Nat},PFs X call gv xr ps eas->Inv X pins σ H s->EnvR X.K cm m H env σ->MemR X.K cm m H->acc.length<=lim ->
  OkR X.K ((evf call gv eas acc env m).bind λcs m=>.ok (W.t (.str cs)) m) xr cm m H (λw cm' m' H'=>∀v,RW X.K cm' m' H' w v->Q v H')->wpAny (model X.prog X.w) X.A (joinParts ⟨acc.toArray⟩ (evalEach ps X.env)) (EP X pins σ Q) X.xe s
 |[],.nil,s,H,cm,m,acc,_,I,hE,M,hl,ho=>by
  rw[evf]at ho
  have hz:=ZF
  exact joinParts_nil ⟨.str ⟨acc.toArray⟩,H,I.tok _,⟨_,rfl⟩,ans ho M (.str acc)⟩ (by show acc.toArray.size<=_;rw[Yh];omega)
 |p::ps,.cons e es,s,H,cm,m,acc,hp,I,hE,M,hl,ho=>by
  rw[evf,Res.assoc]at ho
  have e0:((ev call gv e env m).bind λw m=>((fmtW acc w m).bind λacc m=>evf call gv es acc env m).bind λcs m=>.ok (W.t (.str cs)) m)=((ev call gv e env m).bind λw m=>fmtW acc w m).bind λacc m=>(evf call gv es acc env m).bind λcs m=>.ok (W.t (.str cs)) m:=by
   rw[Res.assoc]
   congr 1
   funext w m
   rw[Res.assoc]
  rw[e0]at ho
  refine joinParts_cons (thn (hp.1 pins s σ H cm m env acc _ I hE M ho.bind) ?_)
  rintro v s1 ⟨H1,cm1,m1,a,tk,I1,x1,M1,rfl,hl1,o1⟩
  have hz:=ZF
  have hap:(⟨acc.toArray⟩:Str)++(⟨a.toArray⟩:Str)=⟨(acc++a).toArray⟩:=by
   show(⟨acc.toArray++a.toArray⟩:Str)=_
   simp
  refine⟨?_,?_⟩
  ·rw[hap]
   show(acc++a).toArray.size<=_
   rw[Yh,Yi];omega
  ·rw[hap]
   exact ZiJ hp.2 I1 (hE.ext x1 M M1) M1 (by rw[Yi];exact hl1) o1
 |[],.cons _ _,_,_,_,_,_,hp,_,_,_,_,_=>hp.elim
 |_::_,.nil,_,_,_,_,_,hp,_,_,_,_,_=>hp.elim
theorem ZpH{ps:List Expr}(h:PFs X call gv xr ps eas)(h2:2<=ps.length):PE X (.JoinedStr ps pos) (tE X.K call gv xr (.fst eas)):=by
 rintro pins s σ H Q I ⟨env,cm,m,hE,M,ho⟩
 rw[ev]at ho
 match ps,h2,h with
 |p1::p2::r,_,h=>exact JoinedStr_many (ZiJ h I hE M (Gr _) ho)
theorem Znh{sts:List Stmt}:PSs X sts (tS X.K call gv xr n .stk):=by
 rintro pins s σ H D I ⟨hl,env,cm,m,hE,M,ho⟩
 rw[ex]at ho
 exact ho.elim
theorem Xx{c:Nat}:∀{ws:List (List Nat)},ws≠[]->(∀w∈ws,c∉w)->Q8 c (Zd [c] ws)=ws
 |[],h,_=>absurd rfl h
 |[w],h0,hc=>by
  show Q8 c w=[w]
  have hw:=hc w (YX.mpr rfl)
  clear hc h0
  induction w with
  |nil=>rfl
  |cons a r ih =>
   rw[Q8,if_neg (λz=>hw (by rw[z];exact Yv)),ih λz=>hw (Yp _ z)]
 |w::v::r,h0,hc=>by
  have ih:=Xx (by simp) λu hu=>hc u (Yp _ hu)
  show Q8 c (w++[c]++Zd [c] (v::r))=_
  have hw:=hc w Yv
  clear hc h0
  induction w with
  |nil =>
   show Q8 c (c::Zd [c] (v::r))=_
   rw[Q8,if_pos rfl,ih]
  |cons a w ihw =>
   show Q8 c (a::(w++[c]++Zd [c] (v::r)))=_
   rw[Q8,if_neg (λz=>hw (by rw[z];exact Yv)),ihw λz=>hw (Yp _ z)]
theorem Zm5(c:Nat)(cs:List Nat):YbL ⟨cs.toArray⟩ ⟨#[c]⟩=(Q8 c cs).map λw=>(⟨w.toArray⟩:Str):=by
 have h1:=StrLaws.join_split ⟨cs.toArray⟩ ⟨#[c]⟩
 have h2:=StrLaws.split_free ⟨cs.toArray⟩ c
 have h3:=split_pos (⟨cs.toArray⟩:Str) ⟨#[c]⟩
 generalize hq:YbL ⟨cs.toArray⟩ ⟨#[c]⟩=ps at h1 h2 h3
 have hm:ps=(ps.map λp=>p.cps.toList).map λw=>(⟨w.toArray⟩:Str):=by
  rw[Wa]
  exact(Vv (l:=ps)).symm.trans (List.map_congr_left λx _=>by cases x;simp)
 have hj:Zd [c] (ps.map λp=>p.cps.toList)=cs:=by
  have:=ZhR [c] (ps.map λp=>p.cps.toList)
  rw[<-hm]at this
  have e2:=h1.symm.trans this
  have e3:=congrArg (λz:Str=>z.cps.toList) e2
  simpa using e3.symm
 have hs:=Xx (ws:=ps.map λp=>p.cps.toList) (by
  intro z
  have:ps=[]:=List.map_eq_nil_iff.mp z
  rw[this]at h3
  simp at h3) (λw hw=>by
  obtain⟨q,hq,rfl⟩:=YK.mp hw
  exact h2 q hq)
 rw[hj]at hs
 rw[hs]
 exact hm
theorem ZkO{prog:YQ}{w:World}{A:Around}{E:Value->Shared->Prop}{s:Shared}{Q:Value->Shared->Prop}{x y:Str}{t u:Tok}(hy:(y.length==0)=false)(hz:x.length+2<=YJ)(h:∀(l:List (Str×Tok)) (k:Nat),l.map (·.1)=YbL x y->Q (.ref s.heap.objs.size) { s with heap:=s.heap.push { cls:=.type "list",data:=.seq (strValues l).toArray },toks:=k }):
  wpAny (model prog w) A (G5 (.builtin "str.split") [.str x t,.str y u]) Q E s:=by
 have many:(G8 x (Wc x y 0 x.length (x.length+1)) y.length).length<=YJ:=by
  have:=StrLaws.occ_length_le x y 0 x.length (x.length+1)
  rw[length_partsBetween];omega
 by_cases h1:(decide (x.length<y.length) || decide (Builtin.Str.strKind x<Builtin.Str.strKind y))=true
 ·refine Uv YaJ (VJ _ _ _) Yar (Yad _ _) (meets_str_split_cannot_occur x y t u h1) ?_
  exact h [(x,t)] s.toks (if_pos h1).symm
 ·have g1:=Wl.mpr h1
  by_cases h2:(Wc x y 0 x.length (x.length+1)).isEmpty=true
  ·refine Uv YaJ (VJ _ _ _) Yar (Yad _ _) (meets_str_split_not_found x y t u g1 hy h2) ?_
   exact h [(x,t)] s.toks ((if_neg h1).trans (if_pos h2)).symm
  ·have g2:=Wl.mpr h2
   refine Uv YaJ (VJ _ _ _) Yar (Yad _ _) (meets_str_split_sep x y t u g1 hy g2 (by omega) many) ?_
   have q:=h (numbered s.toks (G8 x (Wc x y 0 x.length (x.length+1)) y.length)) (s.toks+(G8 x (Wc x y 0 x.length (x.length+1)) y.length).length) ((numbered_texts _ _).trans ((if_neg h1).trans (if_neg h2)).symm)
   rw[<-strsFrom_eq]at q
   exact q
theorem Zdf:∀{l:List (Str×Tok)}{xs:List Str},l.map (·.1)=xs->Vals (xs.map V.str) (strValues l)
 |[],_,e=>by cases e;exact .nil
 |q::l,_,e=>by cases e;exact .cons ⟨q.2,rfl⟩ (Zdf rfl)
theorem Ziu:∀(ws:List (List Nat)),RTs K cm m H (ws.map T.str) (ws.map λw=>V.str ⟨w.toArray⟩)
 |[]=>.nil
 |w::ws=>.cons (.str w) (Ziu ws)
theorem Zeu(c:Nat):∀x:List Nat,(Q8 c x).length<=x.length+1
 |[]=>by rw[Q8];simp
 |a::r=>by
  have ih:=Zeu c r
  rw[Q8]
  split
  ·simp only[Yq];omega
  ·split
   ·rename_i e;rw[e]at ih;simp only[Yq]at ih ⊢;omega
   ·simp only[Yq,Y0];omega
theorem ZlG:MtR X "str.split" (rM X.K xr .split):=by
 rintro pins s σ H x xs v us Q I rx rs ⟨cm,m,w,ws,M,rw',rws,ho⟩
 obtain⟨tw,ts,t,q1,q2,e,hz9⟩:=ZlF ho
 clear ho
 unfold mthT at e
 dsimp only at e
 split at e
 ·rename_i cs
  split at e
  ·rename_i c
   split at e<;>cases e
   rename_i hl
   obtain⟨w1,rfl,e1⟩:=Zdb q2
   cases(Zg rw' q1 (λ_ z=>by cases z)).vstr
   cases rws with
   |cons r1 r0 =>
    cases r0
    cases(Zg r1 e1 (λ_ z=>by cases z)).vstr
    obtain⟨tt,rfl⟩:=rx
    obtain⟨u1,rfl,tu,rfl⟩:=vals1 rs
    have hz:=ZF
    unfold lim at hz
    refine ZkO rfl (by show cs.toArray.size+2<=_;rw[Yh];omega) λl k' el=>?_
    rw[Zm5 c cs]at el
    have hv:=Zdf el
    rw[Wa]at hv
    have hlen:=Zeu c cs
    have I':=I.lnew (t':=k') hv (by rw[Yc];omega)
    exact⟨.ref s.heap.objs.size,_,I',rfl,Zba hz9 M (Ziu _) I.fresh⟩
  ·cases e
 ·cases e
theorem ZkD{w:W}{v:V}(r:RW K cm m H w v)(h:tyM .split w m=true):tyV K "str" v H:=by
 have h':(match view w m with|some (.str _)=>true|_=>false)=true:=h
 split at h'
 ·rename_i cs e
  cases(Zg r e (λ_ z=>by cases z)).vstr
  rfl
 ·cases h'
theorem Zlg{o:Expr}{apos cpos:Pos}(ho:PE X o (tE X.K call gv xr ea))(ha:PA X [e] (tA X.K call gv xr eas))(hbase:Ve o "split" X.env (eval o X.env)=eval o X.env:=by rfl)(hline:(apos.endLine==cpos.line)=true:=by rfl)(hs:notStar e=true:=by rfl):
  PE X (.Call (.Attribute o "split" apos) [e] [] cpos) (tE X.K call gv xr (.mth .split ea eas)):=by
 refine PE.mono (Zlj Vk PySem.F.slot_str_split PySem.F.type_str_split (ZlG (xr:=xr)) ho ha hbase (few1 hs) hline (QL hs) (Za3 rfl)) ?_
 rintro σ H Q ⟨env,cm,m,hE,M,hq⟩
 rw[ev]at hq
 refine⟨env,cm,m,hE,M,hq.bind.mono λw cm1 m1 H1 x1 M1 o1 v rv=>?_⟩
 obtain⟨ht,o1⟩:=ZcD o1
 refine⟨ZkD rv ht,env,cm1,m1,hE.ext x1 M M1,M1,o1.bind.mono λws cm2 m2 H2 x2 M2 o2 vs rvs=>?_⟩
 exact⟨cm2,m2,w,ws,M2,rv.ext x2 M1 M2,rvs,o2⟩
end
noncomputable def Zku(P:YQ)(w:World)(K:Frag)(mg:Str->Option Value)(x:Str)(ks:List Key)(ts:List T):Prop:=
 ∃(a:Addr) (us:List Value) (ys:List V),mg x=some (.ref a)/\(∀h:Heap,K.In h->h.DictOf (Xc P w) a (ks.zip us))/\(a==VH)=false/\Vals ys us/\ks.length=us.length/\∀cm m H,RTs K cm m H ts ys
section
variable{K:Frag}{cm cm':List Addr}{m m':Mem}{H H':Hp}{xr:XR}{X:Cx}{call:Nat->List W->Mem->Res W}{gv:List T}
variable{a b c e:Expr}{es:List Expr}{ea eb ec:E}{eas:Es}{pos p p2:Pos}{rest:List Stmt}{k:Nat}{n:Nat}
theorem ZlQ:∀{ks:List Key}{ys:List V}{us:List Value},Vals ys us->KV (ks.zip ys) (ks.zip us)
 |[],_,_,_=>.nil
 |_::_,_,_,.nil=>.nil
 |_::_,_,_,.cons r rs=>.cons ⟨rfl,r⟩ (ZlQ rs)
theorem ZdG{o:Option T}{f:List Key->List T->Option T}{t:T}(h:gDct o f=some t):∃ks ts,o=some (.dct ks ts)/\f ks ts=some t:=by
 unfold gDct at h
 split at h
 ·exact⟨_,_,rfl,h⟩
 ·cases h
theorem ZfX{w:W}{t:T}{kk:Key}{v:V}(r:RW K cm m H w v)(e:view w m=some t)(hk:keyT t=some kk):v=kV kk:=by
 refine Zqd hk (Zg r e λts z=>?_)
 subst z
 cases hk
theorem Zli{x:Str}{ks:List Key}{ts:List T}(hg:Gl X x)(hk:gv[k]?=some (.dct ks ts))(ok:Zku X.prog X.w X.K X.mg x ks ts)(hb:PE X b (tE X.K call gv xr eb))(hs:NoSl b)(hd:(x==("__debug__" : Str))=false):PE X (.Subscript (.Name x p) b pos) (tE X.K call gv xr (.gdg k eb)):=by
 obtain⟨a,us,ys,h1,h2,h3,h4,h5,h6⟩:=ok
 rintro pins s σ H Q I ⟨env,cm,m,hE,M,ho⟩
 rw[ev]at ho
 refine Zo9 PySem.F.slot_dict_getitem.lookup hs (Zfw I hg h1 (thn (hb pins s σ H (λv H1=>∃cm1 m1 w,MemR X.K cm1 m1 H1/\RW X.K cm1 m1 H1 w v/\OkR X.K (pur ((view w m1).bind λx=>gDct gv[k]? λks vs=>(keyT x).bind (Qv ks vs)) m1) xr cm1 m1 H1 λw cm' m' H'=>∀v,RW X.K cm' m' H' w v->Q v H') I ⟨env,cm,m,hE,M,ho.bind.mono λw cm1 m1 H1 x1 M1 o1 v rv=>⟨cm1,m1,w,M1,rv,o1⟩⟩) ?_) hd)
 rintro u s1 ⟨v,H1,I1,ru,cm1,m1,w,M1,rv,o1⟩
 obtain⟨t,e,o1⟩:=QX o1
 have dd:=h2 _ I1.kIn
 refine⟨dd.typeIs,?_⟩
 cases q:view w m1 with
 |none=>rw[q]at e;cases e
 |some tw =>
  rw[q]at e
  obtain⟨ks',ts',e1,e2⟩:=ZdG (show gDct gv[k]? (λks vs=>(keyT tw).bind (Qv ks vs))=some t from e)
  rw[hk]at e1
  cases e1
  cases q2:keyT tw with
  |none=>rw[q2]at e2;cases e2
  |some kk =>
   rw[q2]at e2
   have e2:Qv ks ts kk=some t:=e2
   cases ZfX rv q q2
   rcases Zft (ks:=ks) (h6 cm1 m1 H1) kk with⟨t',v',f1,f2,f3⟩|⟨f1,_⟩
   ·rw[e2]at f1;cases f1
    obtain⟨u',g1,g2⟩:=RelO.some_of (v:=v') (o:=Ya3 (ks.zip us) kk) (by rw[<-f2];exact(ZlQ h4).val kk)
    exact wpAny_getItem_of (Zqe ru) dd.mapOf g1 ⟨v',H1,I1.tok _,g2,ans o1 M1 f3⟩
   ·rw[e2]at f1;cases f1
noncomputable def Zp1(neg:Bool):CmpOp:=if neg then .NotIn else .In
theorem ZpQ{x:Str}{neg:Bool}{ks:List Key}{ts:List T}(hg:Gl X x)(hk:gv[k]?=some (.dct ks ts))(ok:Zku X.prog X.w X.K X.mg x ks ts)(hb:PE X b (tE X.K call gv xr eb))(hd:(x==("__debug__" : Str))=false):PC X (Zp1 neg) b (.Name x p) (tE X.K call gv xr (.gdn k neg eb)):=by
 obtain⟨a,us,ys,h1,h2,h3,h4,h5,h6⟩:=ok
 rintro pins s σ H Q I ⟨env,cm,m,hE,M,ho⟩
 rw[ev]at ho
 refine thn (hb pins s σ H (λv H1=>∃cm1 m1 w,MemR X.K cm1 m1 H1/\RW X.K cm1 m1 H1 w v/\OkR X.K (pur ((view w m1).bind λx=>gDct gv[k]? λks vs=>(keyT x).map λk=>T.bl (if neg then !(Qv ks vs k).isSome else(Qv ks vs k).isSome)) m1) xr cm1 m1 H1 λw cm' m' H'=>∀v,RW X.K cm' m' H' w v->Q v H') I ⟨env,cm,m,hE,M,ho.bind.mono λw cm1 m1 H1 x1 M1 o1 v rv=>⟨cm1,m1,w,M1,rv,o1⟩⟩) ?_
 rintro u s1 ⟨v,H1,I1,ru,cm1,m1,w,M1,rv,o1⟩
 refine Zfw I1 hg h1 ?_ hd
 obtain⟨t,e,o1⟩:=QX o1
 have dd:=h2 _ I1.kIn
 cases q:view w m1 with
 |none=>rw[q]at e;cases e
 |some tw =>
  rw[q]at e
  obtain⟨ks',ts',e1,e2⟩:=ZdG (show gDct gv[k]? (λks vs=>(keyT tw).map λk=>T.bl (if neg then !(Qv ks vs k).isSome else(Qv ks vs k).isSome))=some t from e)
  rw[hk]at e1
  cases e1
  cases q2:keyT tw with
  |none=>rw[q2]at e2;cases e2
  |some kk =>
   rw[q2]at e2
   cases e2
   cases ZfX rv q q2
   have hv:(Ya3 (ks.zip us) kk).isSome=(Qv ks ts kk).isSome:=by
    have r:=(ZlQ (ks:=ks) h4).val kk
    rcases Zft (ks:=ks) (h6 cm1 m1 H1) kk with⟨t',v',f1,f2,f3⟩|⟨f1,f2⟩
    ·rw[f2]at r
     obtain⟨u',g1,_⟩:=RelO.some_of r
     rw[g1,f1];rfl
    ·rw[f2]at r
     rw[RelO.none_of r,f1];rfl
   cases neg with
   |true =>
    refine wpAny_notIn_of (Zqe ru) h3 dd.mapOf ?_
    rw[hv]
    exact⟨.bl _,H1,I1.tok _,rfl,ans o1 M1 (.bl _)⟩
   |false =>
    refine wpAny_in_of (Zqe ru) h3 dd.mapOf ?_
    rw[hv]
    exact⟨.bl _,H1,I1.tok _,rfl,ans o1 M1 (.bl _)⟩
theorem gdn_bl{env:Env}{m m':Mem}{neg:Bool}{w:W}(h:ev call gv (.gdn k neg eb) env m=.ok w m'):∃k,w=.t (.bl k):=by
 rw[ev]at h
 obtain⟨x,m1,_,h⟩:=Zz h
 unfold pur at h
 split at h
 ·rename_i t e
  obtain⟨rfl,rfl⟩:W.t t=w/\m1=m':=by cases h;exact⟨rfl,rfl⟩
  cases q:view x m1 with
  |none=>rw[q]at e;cases e
  |some tw =>
   rw[q]at e
   obtain⟨ks',ts',e1,e2⟩:=ZdG e
   cases q2:keyT tw with
   |none=>rw[q2]at e2;cases e2
   |some kk=>rw[q2]at e2;cases e2;exact⟨_,rfl⟩
 ·cases h
theorem Zpi{x:Str}{neg:Bool}{ks:List Key}{ts:List T}(hg:Gl X x)(hk:gv[k]?=some (.dct ks ts))(ok:Zku X.prog X.w X.K X.mg x ks ts)(hb:PE X b (tE X.K call gv xr eb))(hd:(x==("__debug__" : Str))=false)(hm:Gb (Zp1 neg) (.Name x p)=false):PT X (.Compare b [Zp1 neg] [.Name x p] pos) (tT X.K call gv xr (.gdn k neg eb)):=
 Zhz (f:=λ_ _=>.stuck) (te:=tE X.K call gv xr (.gdn k neg eb)) (PT.mono (pt_cmp (ZpQ (neg:=neg) hg hk ok hb hd) hm) λσ H Q q=>q) (λenv m w m' h=>gdn_bl h) (λσ H Q q=>q)
theorem ZjV{ks:List (List Nat)}(h:ks.Nodup):(ks.map λk=>(YaL ⟨k.toArray⟩:Key)).Nodup:=by
 refine List.Pairwise.map _ (λa b hne z=>hne ?_) h
 have:=congrArg (λq:Key=>match q with|.inr x=>x.cps.toList|.inl _=>[]) z
 simpa using this
theorem Zkv{α β:Type}:∀{xs:List α}{ys:List β},xs.length=ys.length->(xs.zip ys).map (·.1)=xs
 |[],_,_=>rfl
 |_::_,[],h=>by simp at h
 |x::xs,y::ys,h=>by simp[Zkv (xs:=xs) (ys:=ys) (by simpa using h)]
inductive Ents (w:World):List (List Nat)->List Value->List YaT->Prop where
 |nil:Ents w [] [] []
 |cons {y:Str}{t:Tok}{cs:List Nat}{h:Int}{u:Value}{css:List (List Nat)}{us:List Value}{es:List YaT}:y.cps.toList=cs->h=hashStr w y->Ents w css us es->Ents w (cs::css) (u::us) (⟨h,.str y t,u⟩::es)
noncomputable def VT(K:Frag)(u:Value)(t:T):Prop:=∃v,RelV v u/\∀cm m H,RT K cm m H t v
inductive VTs (K:Frag):List Value->List T->Prop where
 |nil:VTs K [] []
 |cons {u:Value}{t:T}{us:List Value}{ts:List T}:VT K u t->VTs K us ts->VTs K (u::us) (t::ts)
theorem vt_str{y:Str}{t:Tok}{cs:List Nat}(h:y.cps.toList=cs):VT K (.str y t) (.str cs):=⟨.str y,⟨t,rfl⟩,λcm m H=>by rw[Zde h];exact .str cs⟩
theorem VTs.get:∀{us:List Value}{ts:List T},VTs K us ts->∃ys,Vals ys us/\∀cm m H,RTs K cm m H ts ys
 |_,_,.nil=>⟨[],.nil,λ_ _ _=>.nil⟩
 |_,_,.cons ⟨v,h1,h2⟩ r=>let⟨ys,h3,h4⟩:=r.get;⟨v::ys,.cons h1 h3,λcm m H=>.cons (h2 cm m H) (h4 cm m H)⟩
theorem vt_tup{a:Addr}{its:Array Value}{nn:Nat}{sl:Array (Option Value)}{ts:List T}(l:K.lookup a=some ⟨.type "tuple",none,.seq its nn,sl⟩)(hz:its.size<=YJ)(hs:VTs K its.toList ts):VT K (.ref a) (.tup ts):=by
 obtain⟨ys,h1,h2⟩:=hs.get
 exact⟨.ref a,rfl,λcm m H=>.mtup (.inr ⟨_,its,nn,l,rfl,rfl,hz,h1,rfl⟩) (h2 cm m H)⟩
theorem Ents.pairs{P:YQ}{w:World}:∀{css:List (List Nat)}{us:List Value}{es:List YaT},Ents w css us es->(∀e∈es,∃k,(Xc P w).is k e.key=true/\e.hash=(Xc P w).hash k)/\Pairs (Xc P w) es ((css.map λk=>(YaL ⟨k.toArray⟩:Key)).zip us)/\css.length=us.length
 |_,_,_,.nil=>YL (λe he=>nomatch he) (YL Pairs.nil rfl)
 |_,_,_,@Ents.cons _ y t cs h u css us es e1 e2 r=>by
  obtain⟨h1,h2,h3⟩:=Ents.pairs (P:=P) r
  refine⟨λe he=>?_,.cons (kv:=(.inr ⟨cs.toArray⟩,u)) ?_ rfl h2,by simp[h3]⟩
  ·rcases Ym.mp he with rfl|he
   ·exact⟨.inr y,Zdz y t,e2⟩
   ·exact h1 e he
  ·show ZhQ (.inr ⟨cs.toArray⟩) (.str y t)=true
   rw[<-Zde e1]
   exact Zdz y t
theorem ZgS{P:YQ}{w:World}{mg:Str->Option Value}{x:Str}{a:Addr}{es:Array YaT}{nn:Nat}{css:List (List Nat)}{us:List Value}{ts:List T}(h:mg x=some (.ref a))(l:K.lookup a=some ⟨.type "dict",none,.dict es nn,#[]⟩)(hz:(a==VH)=false)(he:Ents w css us es.toList)(nd:css.Nodup)(hv:VTs K us ts):Zku P w K mg x (css.map λk=>.inr ⟨k.toArray⟩) ts:=by
 obtain⟨ys,h1,h2⟩:=hv.get
 obtain⟨p1,p2,p3⟩:=he.pairs (P:=P)
 refine⟨a,us,ys,h,λhh hK=>⟨_,es,nn,hK a _ l,⟨rfl,rfl,rfl⟩,rfl,λe hm=>p1 e (Array.mem_toList_iff.mpr hm),p2,?_⟩,hz,h1,by rw[Yc];exact p3,h2⟩
 rw[Zkv (by rw[Yc];exact p3)]
 exact ZjV nd
end
end Mi
namespace So
open PySem PySem.W PyProof.Rows
variable{n:Nat}{R:Nat->Nat->Bool}{cmp:Nat->Nat->(Bool->Shared->Prop)->Shared->Prop}{s:Shared}{p:Array Nat}
structure Ord (n:Nat) (R:Nat->Nat->Bool):Prop where
 tr:∀i j k,i<n->j<n->k<n->R i j=true->R j k=true->R i k=true
 tot:∀i j,i<n->j<n->i≠j->R i j=false->R j i=true
 asy:∀i j,i<n->j<n->R i j=true->R j i=false
noncomputable def Pm(n:Nat)(p:Array Nat):Prop:=p.toList.Perm (Wh n)
theorem Pm.size(h:Pm n p):p.size=n:=by
 have:=h.length_eq;simpa using this
theorem Pm.lt(h:Pm n p){k:Nat}(hk:k<n):p.getD k 0<n:=by
 have hs:=h.size
 have e:p.getD k 0=p[k]'(by omega):=by simp[Ybz,hs,hk]
 rw[e]
 have:p[k]'(by omega)∈p.toList:=by simp
 have:=h.mem_iff.1 this
 simpa using this
theorem Pm.ne(h:Pm n p){i j:Nat}(hi:i<n)(hj:j<n)(hij:i≠j):p.getD i 0≠p.getD j 0:=by
 have hs:=h.size
 have nd:p.toList.Nodup:=h.nodup_iff.2 List.nodup_range
 have ei:p.getD i 0=p.toList[i]'(by simp;omega):=by simp[Ybz,hs,hi]
 have ej:p.getD j 0=p.toList[j]'(by simp;omega):=by simp[Ybz,hs,hj]
 rw[ei,ej]
 have pw:=List.pairwise_iff_getElem.1 nd
 rcases Nat.lt_or_gt_of_ne hij with c|c
 ·exact pw i j _ _ c
 ·exact λe=>pw j i _ _ c e.symm
theorem Pm.rev(h:Pm n p)(i j:Nat):Pm n (YbO p i j):=(Array.perm_iff_toList_perm.1 (mirror_perm p i j _)).trans h
theorem ZhV(q:Array Nat)(k:Nat):q.getD k 0=(q[k]?).getD 0:=by
 simp[Array.getD_eq_getD_getElem?]
theorem ZoC(h:Pm n p){m:Nat}(hm:m<=n)(k:Nat):(YbO p 0 m).getD k 0=if k<m then p.getD (m-1-k) 0 else p.getD k 0:=by
 rw[ZhV,YbO,getElem?_mirror_all (by rw[h.size];exact hm)]
 by_cases hk:k<m
 ·rw[if_pos ⟨Gr _,hk⟩,if_pos hk,ZhV];simp
 ·rw[if_neg (by omega),if_neg hk,ZhV]
noncomputable def Up(R:Nat->Nat->Bool)(p:Array Nat)(m:Nat):Prop:=∀i j,i<j->j<m->R (p.getD i 0) (p.getD j 0)=true
noncomputable def Dn(R:Nat->Nat->Bool)(p:Array Nat)(m:Nat):Prop:=∀i j,i<j->j<m->R (p.getD j 0) (p.getD i 0)=true
theorem Up.succ(O:Ord n R)(P:Pm n p){m:Nat}(h1:1<=m)(hm:m<n)(u:Up R p m)(e:R (p.getD (m-1) 0) (p.getD m 0)=true):Up R p (m+1):=by
 intro i j hij hj
 by_cases c:j<m
 ·exact u i j hij c
 have:j=m:=by omega
 subst this
 by_cases d:i=j-1
 ·subst d;exact e
 have d1:i<j-1:=by omega
 have d2:j-1<j:=by omega
 exact O.tr _ _ _ (P.lt (Yaa hij hm)) (P.lt (Yaa d2 hm)) (P.lt hm) (u i (j-1) d1 d2) e
theorem Dn.succ(O:Ord n R)(P:Pm n p){m:Nat}(h1:1<=m)(hm:m<n)(u:Dn R p m)(e:R (p.getD m 0) (p.getD (m-1) 0)=true):Dn R p (m+1):=by
 intro i j hij hj
 by_cases c:j<m
 ·exact u i j hij c
 have:j=m:=by omega
 subst this
 by_cases d:i=j-1
 ·subst d;exact e
 have d1:i<j-1:=by omega
 have d2:j-1<j:=by omega
 exact O.tr _ _ _ (P.lt hm) (P.lt (Yaa d2 hm)) (P.lt (Yaa hij hm)) e (u i (j-1) d1 d2)
theorem Dn.rev(P:Pm n p){m:Nat}(hm:m<=n)(u:Dn R p m):Up R (YbO p 0 m) m:=by
 intro i j hij hj
 rw[ZoC P hm,ZoC P hm,if_pos (by omega),if_pos hj]
 exact u _ _ (by omega) (by omega)
section
variable(O:Ord n R) (hc:∀i j (C:Bool->Shared->Prop),i<n->j<n->C (R i j) s->cmp i j C s)
include O hc
end
end So
section
set_option maxHeartbeats 1000000
namespace Mi
open PySem PySem.Spec PyProof.Rows L2
section
open PySem.W
variable{prog:YQ}{w:World}{A:Around}{E:Value->Shared->Prop}{s:Shared}
noncomputable def TI(h:Heap)(v:Value)(k:List Int):Prop:=∃a o its n,v=.ref a/\h.get? a=some o/\o.cls=.type "tuple"/\o.data=.seq its n/\Ybf its.toList k
open Classical in
end
section
variable{K:Frag}{cm:List Addr}{m:Mem}{H:Hp}{xr:XR}{X:Cx}{call:Nat->List W->Mem->Res W}{gv:List T}
variable{e:Expr}{es:List Expr}{ea:E}{eas:Es}{pos p p2:Pos}{rest:List Stmt}{k:S}{n:Nat}
theorem pg_lst{es:List Expr}{k:Nat}{t:TGs}{n:Nat}(hc:X.calm=true)(h:PGs X es t)(hn:(Ys es X.env).length=n:=by rfl)(hst:(Ys es X.env).findIdx? (·.1)=none:=by rfl):PG X (.Tuple es k pos) (λv σ H Q=>∃a xs,v=.ref a/\H a=some (.lst xs)/\xs.length=n/\t xs σ H Q):=by
 intro pins s σ H v u Q I r hw
 obtain⟨a,xs,e1,hq,hl,hw⟩:=hw
 subst e1
 cases r
 obtain⟨its,rv,ht,hz⟩:=I.list (.of hq)
 have hlen:=rv.length
 rw[assign_Tuple]
 refine Yb (Ux ?_)
 unfold unpack
 rw[hn,hst,show n=its.toArray.size by simp;omega]
 refine Yb (WN (PySem.W.kun_itemsOf (I.ok.hd hc) ht.isList λh' hx=>?_))
 have I1:Inv X pins σ H { s with heap:=h' }:=I.kept (t':=s.toks) λb o e=>hx b o (YZ (Yx e)) e
 exact h pins _ σ H xs _ Q I1 (by simpa using rv) hw
noncomputable def gLs(is:List Nat):TG:=λv σ H Q=>∃a xs,v=.ref a/\H a=some (.lst xs)/\xs.length=is.length/\Q (setAll is xs σ) H
theorem Zk8{tg:Expr}{is:List Nat}(hN:∀i∈is,i<n)(h:PE X e (tE X.K call gv xr ea))(hg:PG X tg (gLs is))(hk:PSs X rest (tS X.K call gv xr n k))(hs:Yat [tg] e pos.line X.env=pure false:=by rfl)(hw:Yau [tg] e X.env=pure none:=by rfl)(h1:(Ys [tg] X.env).map (·.2)=[assign tg X.env]:=by rfl):PSs X (.Assign [tg] e pos::rest) (tS X.K call gv xr n (.asgL is ea k)):=by
 refine PSs.mono (QR (Zk9 h hg hs hw h1) hk) ?_
 rintro D σ H ⟨hl,env,cm,m,hE,M,ho⟩
 rw[ex]at ho
 refine⟨env,cm,m,hE,M,ho.bind.mono λw cm1 m1 H1 x1 M1 o1 v rv=>?_⟩
 cases w with
 |f a=>exact o1.elim
 |x _ _ _=>exact o1.elim
 |o _ _ _=>exact o1.elim
 |u=>exact o1.elim
 |c i=>exact o1.elim
 |t t =>
  cases t with
  |lst ts =>
   have o1:OkR X.K (match Qs (.tp is) (.tup ts) env with
    |some env=>ex call gv k env m1
    |none=>.stuck) xr cm1 m1 H1 _:=o1
   have eb:Qs (.tp is) (.tup ts) env=if ts.length=is.length then some ((is.zip ts).foldl (λenv p=>env.set p.1 (some (.t p.2))) env)else none:=rfl
   by_cases hlen:ts.length=is.length
   ·rw[eb,if_pos hlen]at o1
    obtain⟨a,vs,rfl,h2,_,r2⟩:=RT.ilst rv
    exact⟨a,vs,rfl,h2,by rw[<-r2.length];exact hlen,(Xz _ _ _).trans hl,_,cm1,m1,EnvR.setAll (hE.ext x1 M M1) r2 (λj hj=>by rw[hl];exact hN j hj),M1,o1⟩
   ·rw[eb,if_neg hlen]at o1
    exact o1.elim
  |_=>exact o1.elim
noncomputable def iv:Value->Int
 |.int n _=>n
 |_=>0
end
open AutoSeq1 (wpAny_loadPart') in
open MeetsSeq MeetsSeq2 MeetsSeq3 in
open AutoSeq1 (wpAny_loadPart') in
open MeetsSeq MeetsSeq2 MeetsSeq3 in
noncomputable def LI(h:Heap)(v:Value)(k:List Int):Prop:=∃a its n,v=.ref a/\h.get? a=some { cls:=.type "list",data:=.seq its n }/\Ybf its.toList k
structure LamK (K:Frag):Prop where
 uniq:∀q q' P,ZmO K q P->ZmO K q' P->q=q'
 hd:∀c q,codeIn K (.ref c) q=true->ZbO.contains q=true->∃P,YaZ K c P=true/\K.lookup P=none/\ZmO K q P
section
variable{X:Cx}{params:YbF}{body:Expr}{scope:Scope}{pos:Pos}{q:Str}
structure LamSc (X:Cx) (y:Str) (scope:Scope):Prop where
 kind:scope.kind=.function
 co:scope.isCoroutine=false
 gen:scope.isGenerator=false
 nocell:∀x∈scope.names,x.2≠.cell
 par:scope.names.lookup y=some .local
 look:∀p∈scope.names,scope.names.lookup p.1=some p.2
 free:∀x,(x,Wd)∈scope.names->X.env.kindOf x=some .cell∨X.env.kindOf x=some .free
end
noncomputable def Z9(ps:List Addr)(K:Frag):Frag:=K.filter λp=>!ps.contains p.1
theorem Qw{ps:List Addr}{a:Addr}:∀(K:Frag),(Z9 ps K).lookup a=if ps.contains a then none else K.lookup a
 |[]=>by cases ps.contains a<;>rfl
 |(b,o)::K=>by
  have ih:=Qw (ps:=ps) (a:=a) K
  unfold Z9 at ih ⊢
  rw[List.filter_cons]
  by_cases hb:a=b
  ·subst hb
   cases hc:ps.contains a with
   |true =>
    simp only[hc,W9,YH,if_false,if_true]at ih ⊢
    exact ih
   |false=>simp only[hc,Bool.not_false,if_true,YH,if_false,We,beq_self_eq_true]
  ·have e:=beq_eq_false_iff_ne.mpr hb
   rw[We,e]
   cases hc:ps.contains b with
   |true =>
    simp only[hc,W9,YH,if_false]
    exact ih
   |false =>
    simp only[hc,Bool.not_false,if_true,We,e]
    exact ih
theorem ZbJ{a:Addr}{o:Obj}:∀{K:Frag},K.lookup a=some o->(a,o)∈K
 |[],h=>by cases h
 |(b,u)::K,h=>by
  rw[We]at h
  cases e:a==b with
  |true=>rw[e]at h;cases h;rw[eq_of_beq e];exact Yv
  |false=>rw[e]at h;exact Yp _ (ZbJ h)
noncomputable def ZdM(o:Obj):Option Str:=match o.data with
 |.fields vs=>match vs.toList with
  |_::.str n _::_=>some n
  |_=>none
 |_=>none
noncomputable def lamB(ps:List Addr)(K:Frag):Bool:=K.all λp=>match ZdM p.2 with
 |some q=>!ZbO.contains q || (match Zag p.2 with
  |some x=>ps.contains x.2&&YaZ K p.1 x.2&&K.all λp'=>match Zag p'.2 with
   |some x'=>!decide (x'.2=x.2) || decide (x'.1=x.1)
   |none=>true
  |none=>false)
 |none=>true
section
variable{ps:List Addr}{K:Frag}(T:∀P∈ps,K.lookup P=some (tabObj #[]))
include T
theorem hT_out{a:Addr}{o:Obj}(l:K.lookup a=some o)(nd:o.data≠.fields #[]):(Z9 ps K).lookup a=some o:=by
 rw[Qw,if_neg λz=>?_]
 ·exact l
 ·have:=T a (UT.mp z)
  rw[l]at this
  cases this
  exact nd rfl
theorem Zl8{cd:Value}{x:Str}(e:codeIn K cd x=true):codeIn (Z9 ps K) cd x=true:=by
 cases cd with
 |ref c =>
  have:(Z9 ps K).lookup c=K.lookup c:=by
   rw[Qw,if_neg λz=>?_]
   have:=T c (UT.mp z)
   unfold codeIn at e
   dsimp only at e
   rw[this]at e
   cases e
  unfold codeIn at e ⊢
  dsimp only at e ⊢
  rw[this]
  exact e
 |_=>cases e
theorem Zl7{f:Addr}{oc:Value}{od:Option Addr}{fd:W8}{sl:Array (Option Value)}(l:K.lookup f=some ⟨oc,od,.func fd,sl⟩):keepIn (Z9 ps K) (.ref f)=true:=by
 have:=hT_out T l (λz=>by cases z)
 unfold keepIn
 dsimp only
 rw[this]
omit T in
omit T in
theorem Js{o:Obj}{q:Str}{P:Addr}(h:Zag o=some (q,P)):ZdM o=some q/\ZbO.contains q=true:=by
 unfold Zag at h
 unfold ZdM
 split at h
 ·rename_i vs hd
  try rw[hd]
  try dsimp only
  split at h
  ·rename_i q' t P' h1 h2
   split at h
   ·rename_i hc
    cases h
    refine⟨?_,hc⟩
    rw[<-UG]at h1
    cases hv:vs.toList with
    |nil=>rw[hv]at h1;cases h1
    |cons a r =>
     rw[hv]at h1
     cases r with
     |nil=>cases h1
     |cons b r =>
      have h1:=h1
      cases h1
      rfl
   ·cases h
  ·cases h
 ·cases h
theorem lam_of(B:lamB ps K=true):LamK (Z9 ps K):=by
 have B:=Yr.mp B
 have at':∀{c:Addr}{o:Obj}{q:Str},(Z9 ps K).lookup c=some o->ZdM o=some q->ZbO.contains q=true->∃x,Zag o=some x/\ps.contains x.2=true/\YaZ K c x.2=true/\∀p∈K,∀x',Zag p.2=some x'->x'.2=x.2->x'.1=x.1:=λ{c o q} l hq hn=>by
  rw[Qw]at l
  split at l
  ·cases l
  ·have b:=B (c,o) (ZbJ l)
   rw[hq]at b
   dsimp only at b
   rw[hn]at b
   cases hx:Zag o with
   |none=>rw[hx]at b;cases b
   |some x =>
    rw[hx]at b
    simp only[W9,Bool.false_or,Yg]at b
    refine⟨x,rfl,b.1.1,b.1.2,λp hp x' hx' e=>?_⟩
    have:=Yr.mp b.2 p hp
    rw[hx']at this
    simp only[Ue,Bool.not_eq_true',decide_eq_false_iff_not,decide_eq_true_eq]at this
    exact this.resolve_left λz=>z e
 have tb:∀{q:Str}{P:Addr},ZmO (Z9 ps K) q P->∃c o,(c,o)∈K/\(Z9 ps K).lookup c=some o/\Zag o=some (q,P):=λ⟨c,o,h1,h2,_⟩=>by
  refine⟨c,o,?_,h1,h2⟩
  rw[Qw]at h1
  split at h1
  ·cases h1
  ·exact ZbJ h1
 refine⟨λq q' P h1 h2=>?_,λc q hc hn=>?_⟩
 ·obtain⟨c,o,m1,l1,t1⟩:=tb h1
  obtain⟨c',o',m2,l2,t2⟩:=tb h2
  obtain⟨x,e1,_,_,u⟩:=at' l1 (Js t1).1 (Js t1).2
  rw[t1]at e1;cases e1
  exact(u _ m2 _ t2 rfl).symm
 ·have hl:∃o,(Z9 ps K).lookup c=some o/\ZdM o=some q:=by
   unfold codeIn at hc
   dsimp only at hc
   split at hc
   ·rename_i vs _ ho
    refine⟨_,ho,?_⟩
    unfold ZdM
    dsimp only
    split at hc
    ·rename_i n t r hv
     rw[hv]
     rw[eq_of_beq hc]
    ·cases hc
   ·cases hc
  obtain⟨o,lo,no⟩:=hl
  obtain⟨x,e1,e2,e3,_⟩:=at' lo no hn
  obtain⟨q',P⟩:=x
  obtain rfl:q'=q:=by
   have:=(Js e1).1
   rw[no]at this
   exact(YS this).symm
  have hP:(Z9 ps K).lookup P=none:=by rw[Qw,if_pos e2]
  refine⟨P,?_,hP,c,o,lo,e1,hP⟩
  have lc:(Z9 ps K).lookup c=K.lookup c:=by
   rw[Qw]at lo ⊢
   split at lo
   ·cases lo
   ·rename_i z;rw[if_neg z]
  unfold YaZ at e3 ⊢
  rw[lc]
  exact e3
end
theorem law_callT{P:YQ}{w:World}{K:Frag}{ps:List Addr}{mg mb:Str->Option Value}{CX:CXT}{k:Nat}{fa a:Addr}{fd:W8}{x:Str}{sp:Sp}{s₁:Shared}{vs:List Value}{ns:List Int}(KX:K.In s₁.heap)(T:∀P∈ps,K.lookup P=some (tabObj #[]))(C:∀P∈ps,∃c,YaZ K c P=true)(B:lamB ps K=true)(hns:s₁.heap.Ns YB mg)(hb:s₁.heap.Ns Vm mb)(hbb:∀x:Str,x≠"__name__"->mb x=Ui x)(hlim:s₁.heap.NoLimit)(hbm:∃bm ob,mg "__builtins__" = some (.ref bm)/\bm≠Vm/\s₁.heap.get? bm=some ob/\ob.cls=.type "module"/\ob.dict=some Vm/\ob.data=.plain)(hg:s₁.gens=#[])(ha:s₁.heap.get? a=some { cls:=.type "list",data:=.seq vs.toArray })(hi:Ybf vs ns)(hl:ns.length<=YJ)(hr:Room k Ybg)(F:∀base:Heap,(Z9 ps K).In base->base.Ns YB mg->FnOk P w (Z9 ps K) mg base CX k fa fd [x] sp)(hbind:∀(s:Shared) (u:Value),Ybc s fd ⟨[u],[]⟩ [(x,u)])(hsp:∀H:Hp,TabR (Z9 ps K) H->Zec (Z9 ps K) H a ns->sp [.ref a] H (λv _=>v=.bl true) λ_ _ _=>False)(hCX:∀H e s',CX [] H s₁ (λ_ _ _=>False) e s'->False):
  Vb (model P w) Ybg (.call (.ref fa) ⟨[.ref a],[]⟩) (λr s'=>r=.ok (.ret (.bool true))/\OldK s₁.heap s'.heap/\s'.os=s₁.os/\Yas s'.gens) s₁:=by
 have rv:=ZfY hi
 have lenV:=hi.length
 have TH:=λP hP=>KX P _ (T P hP)
 have aps:a∉ps:=λz=>by have:=TH a z;rw[ha]at this;cases this
 have core:∀(H:Hp),Zec (Z9 ps K) H a ns->HOk P w H s₁.heap->(∀b u,H b=some u->(b=a/\∃o xs,u=.frz o (.lst xs))∨(b∈ps/\u=.tbl #[]))->(∀b∈ps,H b=some (.tbl #[]))->(H a≠none->K.lookup a=none) ->
   Vb (model P w) Ybg (.call (.ref fa) ⟨[.ref a],[]⟩) (λr s'=>r=.ok (.ret (.bool true))/\OldK s₁.heap s'.heap/\s'.os=s₁.os/\Yas s'.gens) s₁:=by
  intro H hS hok hA hT hK
  have base_of:∀{b:Addr}{o:Obj},s₁.heap.get? b=some o->H b=none->(hidT s₁.heap H).get? b=some o:=λe n=>Zn7 e n
  have noA:∀{b:Addr}{o:Obj},s₁.heap.get? b=some o->o.cls≠.type "list"∨(∀its n,o.data≠.seq its n)->(∀gs,o.data≠.fields gs)->H b=none:=λ{b o} e d1 d2=>by
   cases q:H b with
   |none=>rfl
   |some u =>
    rcases hA b u q with⟨e',_⟩|⟨e',_⟩
    ·subst e'
     rw[ha]at e;cases e
     rcases d1 with d|d
     ·exact absurd rfl d
     ·exact absurd rfl (d _ _)
    ·have:=TH b e'
     rw[this]at e;cases e
     exact absurd rfl (d2 _)
  have nsK:∀{b:Addr}{m:Str->Option Value},s₁.heap.Ns b m->(hidT s₁.heap H).Ns b m:=λ{b m} ⟨o,es,ep,e,d,r⟩=>⟨o,es,ep,base_of e (noA e (.inr λ_ _ z=>by rw[d]at z;cases z) λ_ z=>by rw[d]at z;cases z),d,r⟩
  have hKb:(Z9 ps K).In (hidT s₁.heap H):=λb o e=>by
   rw[Qw]at e
   split at e
   ·cases e
   ·rename_i z
    refine base_of (KX b o e) ?_
    cases q:H b with
    |none=>rfl
    |some u =>
     rcases hA b u q with⟨e',_⟩|⟨e',_⟩
     ·subst e'
      rw[hK (by rw[q];simp)]at e;cases e
     ·exact absurd (UT.mpr e') z
  have hM:Mod (Z9 ps K) mg (hidT s₁.heap H):=⟨hKb,nsK hns,⟨mb,nsK hb,hbb⟩,let⟨mc,h1,h2⟩:=hlim;⟨mc,nsK h1,h2⟩,by
   obtain⟨bm,ob,b1,b2,b3,b4,b5,b6⟩:=hbm
   exact⟨bm,ob,b1,b2,base_of b3 (noA b3 (.inr λ_ _ z=>by rw[b6]at z;cases z) λ_ z=>by rw[b6]at z;cases z),b4,b5,b6⟩⟩
  have e0:Env0 P w (Z9 ps K) mg (hidT s₁.heap H) Ybg [] s₁ H:=⟨rfl,hM,λb o e=>Zp0 e,Nat.le_of_eq (Zl5 _ _),trivial,λb hb=>absurd (show b∈([]:List Addr)from hb) (by simp),hok,.of_eq hg⟩
  have tab:TabR (Z9 ps K) H:=λq Q ⟨c,o,l,t,n⟩=>by
   have L:=lam_of T B
   refine⟨#[],hT Q ?_,trivial,λpos cv z=>by cases z⟩
   have hc:codeIn (Z9 ps K) (.ref c) q=true:=by
    have:=(Js t).1
    unfold ZdM at this
    unfold codeIn
    dsimp only
    rw[l]
    obtain⟨oc,od,da,sl⟩:=o
    cases da with
    |fields gs =>
     dsimp only at this ⊢
     split at this
     ·cases this
      rename_i hv
      rw[hv]
      exact beq_self_eq_true _
     ·cases this
    |_=>cases this
   obtain⟨Q',h1,h2,c',o',l',t',_⟩:=L.hd c q hc (Js t).2
   rw[Qw]at n
   by_cases hq:ps.contains Q=true
   ·exact UT.mp hq
   ·-- the table of c is Q
    rw[Qw]at l
    split at l
    ·cases l
    ·have b:=Yr.mp B (c,o) (ZbJ l)
     rw[(Js t).1]at b
     dsimp only at b
     rw[(Js t).2,t]at b
     simp only[W9,Bool.false_or,Yg]at b
     exact UT.mp b.1.1
  refine GX ((F _ hKb (nsK hns)).run Ybg [] s₁ H ⟨[.ref a],[]⟩ [.ref a] [.ref a] _ _ hr e0 (hbind s₁ (.ref a)) (.cons rfl .nil) (hsp H tab hS)) λr s' h=>?_
  cases r with
  |error e=>exact(hCX H e s' h).elim
  |ok fl =>
   cases fl with
   |next=>exact GZ h
   |brk=>exact GZ h
   |cont=>exact GZ h
   |ret u =>
    obtain⟨v,H',os,bare,un,hok',r',q⟩:=h
    have q':=q
    subst q'
    obtain rfl:u=WY true:=r'
    have all:∀b o,s₁.heap.get? b=some o->s'.heap.get? b=some o∨(b∈ps/\∃more,s'.heap.get? b=some (tabObj more)):=λb o e=>by
     cases q:H b with
     |none=>exact .inl (un.keep b o e q (by intro z;exact absurd (show b∈([]:List Addr)from z) (by simp)) (by simp))
     |some u =>
      rcases hA b u q with⟨_,ob,xs,z⟩|⟨z1,z⟩
      ·subst z
       have z2:=un.frzs b ob _ q
       obtain⟨e1,_⟩:=hok b _ q
       obtain⟨e2,_⟩:=hok' b _ z2
       rw[e]at e1;cases e1
       exact .inl e2
      ·subst z
       obtain⟨more,z2⟩:=un.tbls b _ q
       exact .inr ⟨z1,_,hok' b _ z2⟩
    refine⟨rfl,⟨λb o e=>?_,λb o e=>?_⟩,os,bare⟩
    ·rcases all b o e with z|⟨z1,more,z⟩
     ·exact .inl z
     ·have e':=TH b z1
      rw[e]at e';cases e'
      obtain⟨c,hc⟩:=C b z1
      exact .inr (.inl ⟨((PySem.W.codeHd_of_K KX hc).tab e).isCodeTable,rfl,#[],more,rfl,by rw[z];simp⟩)
    ·rcases all b o e with z|⟨_,more,z⟩
     ·exact⟨_,z⟩
     ·exact⟨_,z⟩
 have tabOk:∀{H:Hp}{b:Addr},b∈ps->JQ P w H s₁.heap b (.tbl #[]):=λhb=>TH _ hb
 cases hk:K.lookup a with
 |some o =>
  have e:=KX a o hk
  rw[ha]at e
  cases e
  refine core (λb=>if b∈ps then some (.tbl #[])else none) (.inr ⟨_,vs.toArray,_,hT_out T hk (λz=>by cases z),rfl,rfl,rfl,by rw[Yh,lenV];exact hl,by simpa using rv⟩) (λb u z=>?_) (λb u z=>?_) (λb hb=>if_pos hb) λz=>absurd (if_neg aps) z
  ·by_cases hb:b∈ps
   ·have z:=(if_pos hb).symm.trans z
    cases z
    exact tabOk hb
   ·have z:=(if_neg hb).symm.trans z
    cases z
  ·by_cases hb:b∈ps
   ·have z:=(if_pos hb).symm.trans z
    cases z
    exact .inr ⟨hb,rfl⟩
   ·have z:=(if_neg hb).symm.trans z
    cases z
 |none =>
  generalize hH:(λb=>if b=a then some (.frz { cls:=.type "list",data:=.seq vs.toArray } (.lst (ns.map V.int)))else if b∈ps then some (.tbl #[])else none:Hp)=H
  have Ha:H a=some (.frz { cls:=.type "list",data:=.seq vs.toArray } (.lst (ns.map V.int))):=by rw[<-hH];exact if_pos rfl
  have Hp':∀b∈ps,H b=some (.tbl #[]):=λb hb=>by
   rw[<-hH]
   exact(if_neg λz=>aps (by rw[<-z];exact hb)).trans (if_pos hb)
  have Hc:∀b u,H b=some u->(b=a/\u=.frz { cls:=.type "list",data:=.seq vs.toArray } (.lst (ns.map V.int)))∨(b∈ps/\u=.tbl #[]):=λb u z=>by
   by_cases hb:b=a
   ·subst hb
    rw[Ha]at z;cases z
    exact .inl ⟨rfl,rfl⟩
   ·by_cases hb':b∈ps
    ·rw[Hp' b hb']at z;cases z
     exact .inr ⟨hb',rfl⟩
    ·rw[<-hH]at z
     have z:none=some u:=((if_neg hb).trans (if_neg hb')).symm.trans z
     cases z
  refine core H (.inl ⟨_,Ha⟩) (λb u z=>?_) (λb u z=>?_) Hp' λ_=>hk
  ·rcases Hc b u z with⟨rfl,rfl⟩|⟨h1,rfl⟩
   ·exact⟨ha,by rw[Yc];exact hl,vs,_,rv,ha⟩
   ·exact tabOk h1
  ·rcases Hc b u z with⟨h1,rfl⟩|h
   ·exact .inl ⟨h1,_,_,rfl⟩
   ·exact .inr h
theorem walk_ofT{l:Ybq}{n k:Nat}{q:YQ}{loose:List Str}{XP:(Str->Option Value)->Heap->Prop}{YP:World->Heap->Prop}{d:DefRec}{K:Params->Frag}{ps:List Addr}{CX:World->CXT}{sp:World->Sp}{x:Str}(hn:l.most=some n)(hn2:n<=YJ)(hdf:d.params.defaults=[])(hr:Room k Ybg)(hY:∀(w:World) (h:Heap),YP w h->(K w.params).In h)(T:∀(w:World) P,P∈ps->(K w.params).lookup P=some (tabObj #[]))(C:∀(w:World) P,P∈ps->∃c,YaZ (K w.params) c P=true)(B:∀w:World,lamB ps (K w.params)=true)(F:∀(w:World) (mg:Str->Option Value) (fa:Addr) (h:Heap),(K w.params).In h->h.Ns YB mg->mg d.name=some (.ref fa) ->
   ∃fd:W8,(∀(s:Shared) (u:Value),Ybc s fd ⟨[u],[]⟩ [(x,u)]) /\
    ∀base:Heap,(Z9 ps (K w.params)).In base->base.Ns YB mg->FnOk l.prog w (Z9 ps (K w.params)) mg base (CX w) k fa fd [x] (sp w))(hsp:∀(w:World) (H:Hp) (a:Addr) (ns:List Int),ns.length<=n->TabR (Z9 ps (K w.params)) H->Zec (Z9 ps (K w.params)) H a ns->sp w [.ref a] H (λv _=>v=.bl true) λ_ _ _=>False)(hCX:∀(w:World) (H:Hp) (s:Shared) (e:Value) (s':Shared),CX w [] H s (λ_ _ _=>False) e s'->False):
  PySem.W.WalkO q loose XP YP l.row.toRowW d [] (λf vs=>G5 f vs):=by
 refine Att.attach_call hn hdf λw s₀ s₁ mg mb fa o pm cd doc a vs ns G Y ho hd hcd hmg hobj hints hlen hg=>?_
 have KX:=hY w _ Y
 obtain⟨fd,hb,hF⟩:=F w mg fa _ KX G.T.g hmg
 exact law_callT KX (T w) (C w) (B w) G.T.g G.T.b G.T.builtins G.T.nolimit G.T.bmain hg hobj hints (Y5 hlen hn2) hr hF hb (λH hO hS=>hsp w H a ns hlen hO hS) λH e s'=>hCX w H s₁ e s'
end Mi
end
namespace Mi
open PySem PySem.Spec PyProof.Rows L2 PySem.Builtin PySem.Builtin.Str
section
variable{X:L2.Cx}{call:Nat->List W->Mem->Res W}{gv:List T}{xr:XR}
theorem ZnY:MtR X "str.partition" (rM X.K xr .partition):=by
 rintro pins s σ H x xs v us Q I rx rs ⟨cm,m,w,ws,M,rw',rws,ho⟩
 obtain⟨tw,ts,t,q1,q2,e,hz9⟩:=ZlF ho
 clear ho
 unfold mthT at e
 dsimp only at e
 split at e
 ·rename_i cs
  split at e
  ·rename_i c sep
   split at e<;>cases e
   rename_i hl
   obtain⟨w1,rfl,e1⟩:=Zdb q2
   cases(Zg rw' q1 (λ_ z=>by cases z)).vstr
   obtain _|⟨r1,_|_⟩:=rws
   cases(Zg r1 e1 (λ_ z=>by cases z)).vstr
   obtain⟨tt,rfl⟩:=rx
   obtain⟨u1,rfl,tu,rfl⟩:=vals1 rs
   have hz:=ZF
   unfold lim at hz
   refine Uv F.slot_str_partition (VJ _ _ _) F.entry_str_partition (F.args_str_partition_2 _ _) (meets_str_partition _ _ tt tu rfl (by show cs.toArray.size<=_;rw[Yh];omega)) ?_
   have key:∀(a b c':Str) (ta tb tc:Tok) (k:Nat),(a,b,c')=Ya9 ⟨cs.toArray⟩ ⟨(c::sep).toArray⟩ ->
     EP X pins σ Q (.ref s.heap.objs.size) { s with toks:=k,heap:=s.heap.push { cls:=.type "tuple",data:=.seq [.str a ta,.str b tb,.str c' tc].toArray } }:=λa b c' ta tb tc k e=>by
    have hr:RTs X.K cm m H [.str a.cps.toList,.str b.cps.toList,.str c'.cps.toList] [.str a,.str b,.str c']:=.cons (.str _) (.cons (.str _) (.cons (.str _) .nil))
    refine⟨.ref s.heap.objs.size,_,I.laid (t':=k) (o:=.tup [.str a,.str b,.str c']) (λ_ _ q=>Ye _ q) (Yn _) ⟨Y5 (show 3<=1000000 by decide) hz,_,.cons ⟨ta,rfl⟩ (.cons ⟨tb,rfl⟩ (.cons ⟨tc,rfl⟩ .nil)),TupP.new _ _⟩,rfl,Zd9 (xr:=xr) (ts:=[.str a.cps.toList,.str b.cps.toList,.str c'.cps.toList]) ?_ M hr I.fresh⟩
    unfold Zfo at hz9
    rw[<-e]at hz9
    exact hz9
   unfold Ya9 at key
   revert key
   cases occurrences ⟨cs.toArray⟩ ⟨(c::sep).toArray⟩ 0 (Ybw ⟨cs.toArray⟩) 1 with
   |nil=>exact λkey=>key _ _ _ _ _ _ _ rfl
   |cons i r=>exact λkey=>key _ _ _ _ _ _ _ rfl
  ·cases e
 ·cases e
theorem Zo3{K:Frag}{cm:List Addr}{m:Mem}{H:Hp}{w:W}{v:V}(r:RW K cm m H w v)(h:tyM .partition w m=true):tyV K "str" v H:=ZkD r h
theorem ZnH{ea:E}{eas:Es}{e o:Expr}{apos cpos:Pos}(ho:PE X o (tE X.K call gv xr ea))(ha:PA X [e] (tA X.K call gv xr eas))(hbase:Ve o "partition" X.env (eval o X.env)=eval o X.env:=by rfl)(hline:(apos.endLine==cpos.line)=true:=by rfl)(hs:notStar e=true:=by rfl):
  PE X (.Call (.Attribute o "partition" apos) [e] [] cpos) (tE X.K call gv xr (.mth .partition ea eas)):=by
 refine PE.mono (Zlj Vk PySem.F.slot_str_partition PySem.F.type_str_partition (ZnY (xr:=xr)) ho ha hbase (few1 hs) hline (QL hs) (Za3 rfl)) ?_
 rintro σ H Q ⟨env,cm,m,hE,M,hq⟩
 rw[ev]at hq
 refine⟨env,cm,m,hE,M,hq.bind.mono λw cm1 m1 H1 x1 M1 o1 v rv=>?_⟩
 obtain⟨ht,o1⟩:=ZcD o1
 refine⟨Zo3 rv ht,env,cm1,m1,hE.ext x1 M M1,M1,o1.bind.mono λws cm2 m2 H2 x2 M2 o2 vs rvs=>?_⟩
 exact⟨cm2,m2,w,ws,M2,rv.ext x2 M1 M2,rvs,o2⟩
theorem pe_orX{a b:Expr}{rest:List Expr}{pos:Pos}{ta tb:TE}(ha:PE X a ta)(hb:PE X (.BoolOp .Or (b::rest) pos) tb):PE X (.BoolOp .Or (a::b::rest) pos) (λσ H Q=>ta σ H λx H1=>∃k,TruV X.K x H1 k/\if k=true then Q x H1 else tb σ H1 Q):=by
 intro pins s σ H Q I h
 refine BoolOp_or (thn (ha pins s σ H _ I h) λv s1 ⟨x,H1,I1,r1,k,tk,q1⟩=>?_)
 refine Ul (Zoy pins s1 σ H1 x v (λc H2=>if c=true then Q x H2 else tb σ H2 Q) I1 r1 ⟨k,tk,q1⟩) (λc s2 ⟨H2,I2,q2⟩=>?_) λ_ _ z=>z
 cases c with
 |true=>exact⟨x,H2,I2,r1,q2⟩
 |false=>exact hb pins s2 σ H2 Q I2 q2
theorem Zpy{a b:Expr}{pos:Pos}{ea:E}{k:Nat}{t:T}(hk:gv[k]?=some t)(ha:PE X a (tE X.K call gv xr ea))(hb:PE X b (tE X.K call gv xr (.gl k))):PE X (.BoolOp .Or [a,b] pos) (tE X.K call gv xr (.blt .orv (.cons ea (.cons (.gl k) .nil)))):=by
 refine PE.mono (pe_orX ha (ZoG hb)) ?_
 rintro σ H Q ⟨env,cm,m,hE,M,ho⟩
 rw[ev,evs]at ho
 refine⟨env,cm,m,hE,M,ho.bind.bind.mono λw cm1 m1 H1 x1 M1 o1 v rv=>?_⟩
 have e0:evs call gv (.cons (.gl k) .nil) env m1=.ok [.t t] m1:=by
  simp only[evs,ev,hk]
  rfl
 rw[e0]at o1
 obtain⟨u,e,ho⟩:=QX (OkR.now o1 M1)
 cases q:view w m1 with
 |none=>unfold views at e;rw[q]at e;cases e
 |some y =>
  unfold views at e
  rw[q]at e
  cases y with
  |str cs =>
   have e:(if cs.length<=lim then some (if cs.isEmpty=true then t else T.str cs)else none)=some u:=e
   split at e<;>cases e
   rename_i hl
   refine⟨!cs.isEmpty,Zoz M1 rv q (decide_eq_true hl),?_⟩
   cases cs with
   |nil=>exact⟨env,cm1,m1,hE.ext x1 M M1,M1,by rw[ev,hk];exact ho⟩
   |cons c cs =>
    cases(Zg rv q (λ_ z=>by cases z)).vstr
    exact OkR.now ho M1 _ (.str _)
  |_=>cases e
theorem ZnE(i0 i1 i2 i3:Nat){x0 x1 x2 x3:Str}{p0 p1 p2 p3 pos:Pos}{kk:Nat}(hc:X.calm=true)(hN:X.N.Nodup)(hi0:X.N[i0]?=some x0:=by rfl)(hi1:X.N[i1]?=some x1:=by rfl)(hi2:X.N[i2]?=some x2:=by rfl)(hi3:X.N[i3]?=some x3:=by rfl)(hx0:Loc X.env.scope x0:=by first|exact Or.inl rfl|exact Or.inr rfl)(hx1:Loc X.env.scope x1:=by first|exact Or.inl rfl|exact Or.inr rfl)(hx2:Loc X.env.scope x2:=by first|exact Or.inl rfl|exact Or.inr rfl)(hx3:Loc X.env.scope x3:=by first|exact Or.inl rfl|exact Or.inr rfl)(hf0:X.fn x0=true∨X.env.scope.names.lookup x0=some .local:=by first|exact .inl rfl|exact .inr rfl)(hf1:X.fn x1=true∨X.env.scope.names.lookup x1=some .local:=by first|exact .inl rfl|exact .inr rfl)(hf2:X.fn x2=true∨X.env.scope.names.lookup x2=some .local:=by first|exact .inl rfl|exact .inr rfl)(hf3:X.fn x3=true∨X.env.scope.names.lookup x3=some .local:=by first|exact .inl rfl|exact .inr rfl)(hs0:(Ys [.Name x0 p0,.Name x1 p1,.Name x2 p2,.Name x3 p3] X.env).map (·.2)=assign (.Name x0 p0) X.env::(Ys [.Name x1 p1,.Name x2 p2,.Name x3 p3] X.env).map (·.2):=by rfl)(hs1:(Ys [.Name x1 p1,.Name x2 p2,.Name x3 p3] X.env).map (·.2)=assign (.Name x1 p1) X.env::(Ys [.Name x2 p2,.Name x3 p3] X.env).map (·.2):=by rfl)(hs2:(Ys [.Name x2 p2,.Name x3 p3] X.env).map (·.2)=assign (.Name x2 p2) X.env::(Ys [.Name x3 p3] X.env).map (·.2):=by rfl)(hs3:(Ys [.Name x3 p3] X.env).map (·.2)=assign (.Name x3 p3) X.env::(Ys [] X.env).map (·.2):=by rfl)(hn:(Ys [.Name x0 p0,.Name x1 p1,.Name x2 p2,.Name x3 p3] X.env).length=4:=by rfl)(hst:(Ys [.Name x0 p0,.Name x1 p1,.Name x2 p2,.Name x3 p3] X.env).findIdx? (·.1)=none:=by rfl):PG X (.Tuple [.Name x0 p0,.Name x1 p1,.Name x2 p2,.Name x3 p3] kk pos) (gLs [i0,i1,i2,i3]):=by
 rintro pins s σ H v u Q I r ⟨a,xs,e1,h1,h2,h3⟩
 refine pg_lst hc (ZV (Z2 hN hi0 hx0 hf0) (ZV (Z2 hN hi1 hx1 hf1) (ZV (Z2 hN hi2 hx2 hf2) (ZV (Z2 hN hi3 hx3 hf3) Zdm hs3) hs2) hs1) hs0) hn hst pins s σ H v u Q I r ⟨a,xs,e1,h1,h2,?_⟩
 rcases xs with _|⟨v0,_|⟨v1,_|⟨v2,_|⟨v3,_|⟨v4,r⟩⟩⟩⟩⟩
 ·cases h2
 ·cases h2
 ·cases h2
 ·cases h2
 ·exact⟨v0,[v1,v2,v3],rfl,v1,[v2,v3],rfl,v2,[v3],rfl,v3,[],rfl,rfl,h3⟩
 ·cases h2
theorem Zk5{n:Nat}{body:List Stmt}{y:Str}{yp hpos pos:Pos}{nmo:Option Str}{b0:Stmt}{suite rest:List Stmt}{sb k:S}(hb:∀xe pn xr',Go (asX X xe pn) xr'->PSs (asX X xe pn) body (tS X.K call gv xr' n sb))(hk:PSs X rest (tS X.K call gv xr n k)):
  PSs X (.Try body [.ExceptHandler (some (.Name y yp)) nmo (b0::suite) hpos] [] [] pos::rest) (tS X.K call gv xr n (.tri sb [] none .stk k)):=by
 rintro pins s σ H D0 I ⟨hl,env,cm,m,hE,M,ho⟩
 refine wpAny_execs_cons (wpAny_Try_except ?_)
 rw[ex]at ho
 cases r:ex call gv sb env m with
 |stuck=>rw[r]at ho;exact ho.elim
 |exc x m1=>rw[r]at ho;exact(show OkR X.K (if x.cls∈[]then _ else _) xr cm m H _ from ho).elim
 |ok fl m1 =>
  rw[r]at ho
  refine Ul (hb _ (X.pn++pins) xr0 ⟨lk0,PassesOwn.looking⟩ [] s σ H { D0 with nx:=tS X.K call gv xr n k D0 } (inv_as I _) ⟨hl,env,cm,m,hE,M,?_⟩) (λf s1 q=>?_) λ_ _ z=>z
  ·rw[r]
   refine λcm1 H1 x1 M1=>?_
   cases fl with
   |next env'=>exact λσ' hl' hE'=>⟨hl',env',cm1,m1,hE',M1,OkR.shift ho x1⟩
   |ret w=>show ZfG X.K n D0 (.ret w) cm1 m1 H1;exact OkR.to (xr:=xr) (a:=Flow.ret w) ho x1 M1
   |brk env'=>show ZfG X.K n D0 (.brk env') cm1 m1 H1;exact OkR.to (xr:=xr) (a:=Flow.brk env') ho x1 M1
   |cont env'=>show ZfG X.K n D0 (.cont env') cm1 m1 H1;exact OkR.to (xr:=xr) (a:=Flow.cont env') ho x1 M1
  ·cases f with
   |next =>
    obtain⟨σ',H',I',q⟩:=q
    exact VM (hk pins s1 σ' H' D0 (ZiM I') q)
   |ret u=>obtain⟨v,σ',H',I',r,q⟩:=q;exact⟨v,σ',H',ZiM I',r,q⟩
   |brk=>obtain⟨σ',H',I',q⟩:=q;exact⟨σ',H',ZiM I',q⟩
   |cont=>obtain⟨σ',H',I',q⟩:=q;exact⟨σ',H',ZiM I',q⟩
end
end Mi
namespace My
open Mi
noncomputable def Jh:E:=(.emit (.cmp .In (.var 0) (.gl 0)))
noncomputable def Zan:E:=(.comp 1 [] (.var 0) (.nm 0) .nil Jh)
noncomputable def Qx:S:=(.ret (.and (.cmp .Gt (.blt .len (.cons (.var 0) .nil)) (.con (.int 0))) (.and (.cmp .NotIn (.var 0) (.gl 2)) (.blt .all (.cons Zan .nil)))) .done)
noncomputable def JK:S:=(.ret (.and (.isi (.var 0) .str) (.and (.cmp .LtE (.blt .len (.cons (.var 0) .nil)) (.gl 1)) (.call 0 (.cons (.var 0) .nil)))) .done)
noncomputable def Za2:S:=(.ret (.and (.isi (.var 0) .int) (.not (.isi (.var 0) .bool))) .done)
noncomputable def JL:S:=(.ret (.and (.call 2 (.cons (.var 0) .nil)) (.chn .LtE .LtE (.con (.int 0)) (.var 0) (.gl 3))) .done)
noncomputable def Zb6:S:=(.ret (.call 3 (.cons (.var 0) .nil)) .done)
noncomputable def ZcW:E:=(.emit (.cmp .Lt (.ix (.var 1) (.bin .Sub (.var 0) (.con (.int 1)))) (.ix (.var 1) (.var 0))))
noncomputable def ZiX:E:=(.comp 1 [0] (.blt .range2 (.cons (.con (.int 1)) (.cons (.blt .len (.cons (.var 0) .nil)) .nil))) (.nm 0) .nil ZcW)
noncomputable def Zhm:S:=(.ret (.blt .all (.cons ZiX .nil)) .done)
noncomputable def Zaa:E:=(.emit (.call 1 (.cons (.var 0) .nil)))
noncomputable def Zb5:E:=(.comp 1 [] (.var 0) (.nm 0) .nil Zaa)
noncomputable def JP:S:=(.ife (.or (.not (.isi (.var 0) .tuple)) (.cmp .Gt (.blt .len (.cons (.var 0) .nil)) (.gl 4))) (.ret (.con (.bl false)) .done) .done (.ret (.and (.blt .all (.cons Zb5 .nil)) (.call 5 (.cons (.var 0) .nil))) .done))
noncomputable def ZaO:S:=(.ret (.and (.isi (.var 0) .tuple) (.and (.cmp .Eq (.blt .len (.cons (.var 0) .nil)) (.con (.int 2))) (.and (.call 1 (.cons (.ix (.var 0) (.con (.int 0))) .nil)) (.call 3 (.cons (.ix (.var 0) (.con (.int 1))) .nil))))) .done)
noncomputable def X8:E:=(.emit (.ix (.var 0) (.con (.int 0))))
noncomputable def Zb4:E:=(.comp 1 [] (.var 0) (.nm 0) .nil X8)
noncomputable def X7:E:=(.emit (.call 7 (.cons (.var 0) .nil)))
noncomputable def Zb3:E:=(.comp 1 [] (.var 0) (.nm 0) .nil X7)
noncomputable def JM:S:=(.ife (.or (.not (.isi (.var 0) .tuple)) (.cmp .Gt (.blt .len (.cons (.var 0) .nil)) (.gl 5))) (.ret (.con (.bl false)) .done) .done (.ret (.and (.blt .all (.cons Zb3 .nil)) (.call 5 (.cons Zb4 .nil))) .done))
noncomputable def ZaP:S:=(.ife (.or (.not (.isi (.var 0) .tuple)) (.cmp .NotEq (.blt .len (.cons (.var 0) .nil)) (.con (.int 4)))) (.ret (.con (.bl false)) .done) .done (.ret (.and (.call 1 (.cons (.ix (.var 0) (.con (.int 0))) .nil)) (.and (.call 1 (.cons (.ix (.var 0) (.con (.int 1))) .nil)) (.and (.call 6 (.cons (.ix (.var 0) (.con (.int 2))) .nil)) (.call 8 (.cons (.ix (.var 0) (.con (.int 3))) .nil))))) .done))
noncomputable def Zaj:S:=(.ret (.and (.isi (.var 0) .str) (.cmp .In (.var 0) (.var 1))) .done)
noncomputable def Qn:S:=(.ife (.not (.isi (.var 0) .tuple)) (.ret (.con (.bl false)) .done) .done (.ife (.cmp .Eq (.blt .len (.cons (.var 0) .nil)) (.con (.int 1))) (.ret (.call 10 (.cons (.ix (.var 0) (.con (.int 0))) (.cons (.tup (.cons (.con (.str [97,110,121])) .nil)) .nil))) .done) .done (.ife (.cmp .Eq (.blt .len (.cons (.var 0) .nil)) (.con (.int 2))) (.ret (.and (.call 10 (.cons (.ix (.var 0) (.con (.int 0))) (.cons (.tup (.cons (.con (.str [105,115])) (.cons (.con (.str [98,121])) .nil))) .nil))) (.call 1 (.cons (.ix (.var 0) (.con (.int 1))) .nil))) .done) .done (.ife (.cmp .Eq (.blt .len (.cons (.var 0) .nil)) (.con (.int 3))) (.ret (.and (.call 10 (.cons (.ix (.var 0) (.con (.int 0))) (.cons (.tup (.cons (.con (.str [108,101,97,115,116])) (.cons (.con (.str [109,111,115,116])) .nil))) .nil))) (.and (.call 1 (.cons (.ix (.var 0) (.con (.int 1))) .nil)) (.call 3 (.cons (.ix (.var 0) (.con (.int 2))) .nil)))) .done) .done (.ret (.con (.bl false)) .done)))))
noncomputable def Jf:S:=(.ret (.and (.isi (.var 0) .tuple) (.chn .LtE .LtE (.gl 8) (.blt .len (.cons (.var 0) .nil)) (.gl 9))) .done)
noncomputable def JB:S:=(.ife (.or (.not (.isi (.var 0) .tuple)) (.cmp .NotEq (.blt .len (.cons (.var 0) .nil)) (.con (.int 2)))) (.ret (.tup .nil) .done) .done (.ife (.call 10 (.cons (.ix (.var 0) (.con (.int 0))) (.cons (.tup (.cons (.con (.str [110,111,116])) .nil)) .nil))) (.ret (.tup (.cons (.ix (.var 0) (.con (.int 1))) .nil)) .done) .done (.ife (.and (.call 10 (.cons (.ix (.var 0) (.con (.int 0))) (.cons (.tup (.cons (.con (.str [97,110,100])) (.cons (.con (.str [111,114])) .nil))) .nil))) (.call 12 (.cons (.ix (.var 0) (.con (.int 1))) .nil))) (.ret (.ix (.var 0) (.con (.int 1))) .done) .done (.ret (.tup .nil) .done))))
noncomputable def Xq:S:=(.ret (.or (.call 11 (.cons (.var 0) .nil)) (.cmp .Gt (.blt .len (.cons (.call 13 (.cons (.var 0) .nil)) .nil)) (.con (.int 0)))) .done)
noncomputable def Q4:E:=(.more (.call 13 (.cons (.var 0) .nil)) (.nm 1) .nil (.emit (.var 1)))
noncomputable def ZdU:E:=(.comp 2 [] (.var 1) (.nm 0) .nil Q4)
noncomputable def Zbh:E:=(.emit (.call 14 (.cons (.var 0) .nil)))
noncomputable def ZdT:E:=(.comp 1 [] (.var 1) (.nm 0) .nil Zbh)
noncomputable def ZG:S:=(.aug 2 .Add (.blt .len (.cons (.var 1) .nil)) (.ife (.or (.cmp .Gt (.var 2) (.gl 7)) (.not (.blt .all (.cons ZdT .nil)))) (.ret (.con (.bl false)) .done) .done (.asg 1 ZdU .done)))
noncomputable def ZaN:S:=(.asg 1 (.lst (.cons (.var 0) .nil)) (.asg 2 (.con (.int 0)) (.forr (.nm 3) (.blt .range1 (.cons (.gl 6) .nil)) ZG (.ret (.cmp .Eq (.blt .len (.cons (.var 1) .nil)) (.con (.int 0))) .done))))
noncomputable def Je:S:=(.ret (.and (.call 2 (.cons (.var 0) .nil)) (.chn .LtE .LtE (.var 1) (.var 0) (.var 2))) .done)
noncomputable def Xp:S:=(.ife (.or (.not (.isi (.var 0) .tuple)) (.cmp .NotEq (.blt .len (.cons (.var 0) .nil)) (.con (.int 7)))) (.ret (.con (.bl false)) .done) .done (.asgT [1,2,3,4,5,6,7] (.var 0) (.ife (.or (.not (.call 10 (.cons (.var 1) (.cons (.gl 10) .nil)))) (.or (.not (.call 9 (.cons (.var 2) .nil))) (.not (.call 15 (.cons (.var 3) .nil))))) (.ret (.con (.bl false)) .done) .done (.ife (.or (.not (.call 16 (.cons (.var 4) (.cons (.con (.int 1)) (.cons (.gl 11) .nil))))) (.not (.call 16 (.cons (.var 5) (.cons (.con (.int 1)) (.cons (.var 4) .nil)))))) (.ret (.con (.bl false)) .done) .done (.ret (.and (.call 16 (.cons (.var 6) (.cons (.con (.int 0)) (.cons (.gl 12) .nil)))) (.call 4 (.cons (.var 7) .nil))) .done)))))
noncomputable def ZfB:E:=(.emit (.call 19 (.cons (.var 1) (.cons (.var 0) .nil))))
noncomputable def ZfQ:E:=(.comp 1 [1] (.ix (.var 0) (.con (.int 1))) (.nm 0) .nil ZfB)
noncomputable def Qc:S:=(.asg 1 (.ix (.var 0) (.con (.int 0))) (.ife (.cmp .Eq (.var 1) (.con (.str [97,110,121]))) (.ret (.var 1) .done) .done (.ife (.cmp .In (.var 1) (.tup (.cons (.con (.str [105,115])) (.cons (.con (.str [98,121])) .nil)))) (.ret (.fst (.cons (.var 1) (.cons (.con (.str [32])) (.cons (.ix (.var 0) (.con (.int 1))) .nil)))) .done) .done (.ife (.cmp .Eq (.var 1) (.con (.str [108,101,97,115,116]))) (.ret (.fst (.cons (.ix (.var 0) (.con (.int 1))) (.cons (.con (.str [32,62,61,32])) (.cons (.ix (.var 0) (.con (.int 2))) .nil)))) .done) .done (.ife (.cmp .Eq (.var 1) (.con (.str [109,111,115,116]))) (.ret (.fst (.cons (.ix (.var 0) (.con (.int 1))) (.cons (.con (.str [32,60,61,32])) (.cons (.ix (.var 0) (.con (.int 2))) .nil)))) .done) .done (.ife (.cmp .Eq (.var 1) (.con (.str [110,111,116]))) (.ret (.fst (.cons (.con (.str [110,111,116,32])) (.cons (.call 19 (.cons (.var 1) (.cons (.ix (.var 0) (.con (.int 1))) .nil))) .nil))) .done) .done (.asg 2 (.fst (.cons (.con (.str [32])) (.cons (.var 1) (.cons (.con (.str [32])) .nil)))) (.ret (.mth .join (.var 2) (.cons ZfQ .nil)) .done))))))))
noncomputable def QV:S:=(.asg 2 (.call 18 (.cons (.var 1) .nil)) (.ife (.cmp .In (.ix (.var 1) (.con (.int 0))) (.gdg 18 (.var 0))) (.ret (.fst (.cons (.con (.str [40,32])) (.cons (.var 2) (.cons (.con (.str [32,41])) .nil)))) .done) .done (.ret (.var 2) .done)))
noncomputable def J7:E:=(.emit (.cmp .In (.var 0) (.gl 13)))
noncomputable def QT:E:=(.comp 1 [] (.var 0) (.nm 0) .nil J7)
noncomputable def Qf:S:=(.ife (.or (.not (.chn .LtE .LtE (.con (.int 1)) (.blt .len (.cons (.var 0) .nil)) (.gl 14))) (.not (.blt .all (.cons QT .nil)))) (.ret (.con (.bl false)) .done) .done (.ret (.or (.cmp .Eq (.var 0) (.con (.str [48]))) (.cmp .NotEq (.ix (.var 0) (.con (.int 0))) (.con (.str [48])))) .done))
noncomputable def ZaJ:S:=(.ife (.cmp .Lt (.var 1) (.blt .len (.cons (.var 0) .nil))) (.ret (.ix (.var 0) (.var 1)) .done) .done (.ret (.con (.str [])) .done))
noncomputable def ZaM:S:=(.asg 2 (.call 21 (.cons (.var 0) (.cons (.var 1) .nil))) (.ife (.not (.call 0 (.cons (.var 2) .nil))) .stk .done (.ret (.var 2) .done)))
noncomputable def JG:S:=(.asg 2 (.call 21 (.cons (.var 0) (.cons (.var 1) .nil))) (.ife (.not (.call 20 (.cons (.var 2) .nil))) .stk .done (.ret (.blt .int (.cons (.var 2) .nil)) .done)))
noncomputable def Jb:S:=(.asg 2 (.call 21 (.cons (.var 0) (.cons (.var 1) .nil))) (.ife (.cmp .Eq (.var 2) (.con (.str [97,110,121]))) (.ret (.tup (.cons (.tup (.cons (.var 2) .nil)) (.cons (.bin .Add (.var 1) (.con (.int 1))) .nil))) .done) .done (.ife (.cmp .In (.var 2) (.tup (.cons (.con (.str [105,115])) (.cons (.con (.str [98,121])) .nil)))) (.ret (.tup (.cons (.tup (.cons (.var 2) (.cons (.call 22 (.cons (.var 0) (.cons (.bin .Add (.var 1) (.con (.int 1))) .nil))) .nil))) (.cons (.bin .Add (.var 1) (.con (.int 2))) .nil))) .done) .done (.asg 3 (.call 22 (.cons (.var 0) (.cons (.var 1) .nil))) (.asg 4 (.call 21 (.cons (.var 0) (.cons (.bin .Add (.var 1) (.con (.int 1))) .nil))) (.ife (.gdn 16 true (.var 4)) .stk .done (.ret (.tup (.cons (.tup (.cons (.gdg 16 (.var 4)) (.cons (.var 3) (.cons (.call 23 (.cons (.var 0) (.cons (.bin .Add (.var 1) (.con (.int 2))) .nil))) .nil)))) (.cons (.bin .Add (.var 1) (.con (.int 3))) .nil))) .done)))))))
noncomputable def Qq:S:=(.asg 3 (.call 21 (.cons (.var 0) (.cons (.var 1) .nil))) (.ife (.cmp .NotIn (.var 3) (.tup (.cons (.con (.str [110,111,116])) (.cons (.con (.str [40])) .nil)))) (.ret (.call 24 (.cons (.var 0) (.cons (.var 1) .nil))) .done) .done (.ife (.cmp .Eq (.var 2) (.gl 15)) .stk .done (.ife (.cmp .Eq (.var 3) (.con (.str [110,111,116]))) (.asgT [4,5] (.call 25 (.cons (.var 0) (.cons (.bin .Add (.var 1) (.con (.int 1))) (.cons (.bin .Add (.var 2) (.con (.int 1))) .nil)))) (.ret (.tup (.cons (.tup (.cons (.con (.str [110,111,116])) (.cons (.var 4) .nil))) (.cons (.var 5) .nil))) .done)) .done (.asgT [4,5] (.call 26 (.cons (.var 0) (.cons (.bin .Add (.var 1) (.con (.int 1))) (.cons (.bin .Add (.var 2) (.con (.int 1))) (.cons (.gl 17) .nil))))) (.ife (.cmp .NotEq (.call 21 (.cons (.var 0) (.cons (.var 5) .nil))) (.con (.str [41]))) .stk .done (.ret (.tup (.cons (.var 4) (.cons (.bin .Add (.var 5) (.con (.int 1))) .nil))) .done)))))))
noncomputable def QS:S:=(.asgT [4,5] (.call 26 (.cons (.var 0) (.cons (.bin .Add (.var 5) (.con (.int 1))) (.cons (.var 2) (.cons (.slc (.var 3) (.con (.int 1)) .hole) .nil))))) (.expr (.mth .append (.var 6) (.cons (.var 4) .nil)) .done))
noncomputable def Qd:S:=(.ife (.cmp .Eq (.blt .len (.cons (.var 3) .nil)) (.con (.int 0))) (.ret (.call 25 (.cons (.var 0) (.cons (.var 1) (.cons (.var 2) .nil)))) .done) .done (.asgT [4,5] (.call 26 (.cons (.var 0) (.cons (.var 1) (.cons (.var 2) (.cons (.slc (.var 3) (.con (.int 1)) .hole) .nil))))) (.asg 6 (.cel (.cons (.var 4) .nil)) (.whil (.cmp .Eq (.call 21 (.cons (.var 0) (.cons (.var 5) .nil))) (.ix (.var 3) (.con (.int 0)))) QS (.ife (.cmp .Eq (.blt .len (.cons (.var 6) .nil)) (.con (.int 1))) (.ret (.tup (.cons (.var 4) (.cons (.var 5) .nil))) .done) .done (.ret (.tup (.cons (.tup (.cons (.ix (.var 3) (.con (.int 0))) (.cons (.blt .tuple (.cons (.var 6) .nil)) .nil))) (.cons (.var 5) .nil))) .done))))))
noncomputable def JC:S:=(.ife (.not (.isi (.var 0) .str)) .stk .done (.asg 1 (.mth .split (.var 0) (.cons (.con (.str [32])) .nil)) (.asgT [2,3] (.call 26 (.cons (.var 1) (.cons (.con (.int 0)) (.cons (.con (.int 0)) (.cons (.gl 17) .nil))))) (.ife (.or (.cmp .Lt (.var 3) (.blt .len (.cons (.var 1) .nil))) (.not (.call 15 (.cons (.var 2) .nil)))) .stk .done (.ret (.var 2) .done)))))
noncomputable def JH:S:=(.ret (.blt .orv (.cons (.mth .join (.con (.str [44])) (.cons (.var 0) .nil)) (.cons (.gl 19) .nil))) .done)
noncomputable def JD:S:=(.ife (.cmp .Eq (.var 0) (.gl 19)) (.ret (.lst .nil) .done) .done (.ret (.mth .split (.var 0) (.cons (.con (.str [44])) .nil)) .done))
noncomputable def Xd:E:=(.emit (.fst (.cons (.var 0) (.cons (.con (.str [61])) (.cons (.var 1) .nil)))))
noncomputable def Za9:E:=(.comp 2 [] (.var 11) (.tp [0,1]) .nil Xd)
noncomputable def Jd:S:=(.asgT [1,2,3,4,5,6,7] (.var 0) (.asgT [8,9,10,11] (.var 2) (.asg 12 (.call 28 (.cons Za9 .nil)) (.ret (.fst (.cons (.var 1) (.cons (.con (.str [32])) (.cons (.var 8) (.cons (.con (.str [32])) (.cons (.var 9) (.cons (.con (.str [32])) (.cons (.call 28 (.cons (.var 10) .nil)) (.cons (.con (.str [32])) (.cons (.var 12) (.cons (.con (.str [32])) (.cons (.var 4) (.cons (.con (.str [32])) (.cons (.var 5) (.cons (.con (.str [32])) (.cons (.var 6) (.cons (.con (.str [32])) (.cons (.var 7) (.cons (.con (.str [32,124,32])) (.cons (.call 18 (.cons (.var 3) .nil)) .nil)))))))))))))))))))) .done))))
noncomputable def JF:S:=(.ife (.and (.call 20 (.cons (.var 0) .nil)) (.call 3 (.cons (.blt .int (.cons (.var 0) .nil)) .nil))) (.ret (.blt .int (.cons (.var 0) .nil)) .done) .done (.ret (.con .non) .done))
noncomputable def ZaL:S:=(.asgT [1,2,3] (.mth .partition (.var 0) (.cons (.con (.str [61])) .nil)) (.ret (.tup (.cons (.var 1) (.cons (.call 31 (.cons (.var 3) .nil)) .nil))) .done))
noncomputable def ZaK:S:=(.tri (.ret (.call 27 (.cons (.var 0) .nil)) .done) [] none .stk .done)
noncomputable def ZaB:E:=(.emit (.call 31 (.cons (.var 0) .nil)))
noncomputable def ZcI:E:=(.comp 1 [] (.slc (.var 4) (.con (.int 5)) .hole) (.nm 0) .nil ZaB)
noncomputable def ZaA:E:=(.emit (.call 32 (.cons (.var 0) .nil)))
noncomputable def ZcH:E:=(.comp 1 [] (.call 29 (.cons (.ix (.var 4) (.con (.int 4))) .nil)) (.nm 0) .nil ZaA)
noncomputable def Xo:S:=(.asgT [1,2,3] (.mth .partition (.var 0) (.cons (.con (.str [32,124,32])) .nil)) (.asg 4 (.mth .split (.var 1) (.cons (.con (.str [32])) .nil)) (.ife (.cmp .NotEq (.blt .len (.cons (.var 4) .nil)) (.con (.int 9))) (.ret (.con .non) .done) .done (.asg 5 (.blt .tuple (.cons (.call 29 (.cons (.ix (.var 4) (.con (.int 3))) .nil)) .nil)) (.asg 6 (.blt .tuple (.cons ZcH .nil)) (.asgL [7,8,9,10] ZcI (.asg 11 (.tup (.cons (.ix (.var 4) (.con (.int 0))) (.cons (.tup (.cons (.ix (.var 4) (.con (.int 1))) (.cons (.ix (.var 4) (.con (.int 2))) (.cons (.var 5) (.cons (.var 6) .nil))))) (.cons (.call 33 (.cons (.var 3) .nil)) (.cons (.var 7) (.cons (.var 8) (.cons (.var 9) (.cons (.var 10) .nil)))))))) (.ife (.call 17 (.cons (.var 11) .nil)) (.ret (.var 11) .done) .done (.ret (.con .non) .done)))))))))
noncomputable def Jc:S:=(.ife (.not (.isi (.var 0) .str)) .stk .done (.asg 1 (.call 34 (.cons (.var 0) .nil)) (.ife (.cmp .Is (.var 1) (.con .non)) .stk .done (.ret (.var 1) .done))))
noncomputable def Zd6:S:=(.ife (.cmp .Lt (.var 1) (.blt .len (.cons (.var 0) .nil))) (.ret (.ix (.var 0) (.var 1)) .done) .done (.ret (.con (.int 0)) .done))
noncomputable def Zb8:S:=(.asg 2 (.bin .Mod (.bin .Mult (.bin .Add (.bin .Add (.var 0) (.bin .Mult (.con (.int 7919)) (.var 1))) (.con (.int 1))) (.con (.int 48271))) (.con (.int 2147483647))) (.ret (.bin .Mod (.bin .Mult (.var 2) (.bin .Add (.bin .FloorDiv (.var 2) (.con (.int 1009))) (.con (.int 69621)))) (.con (.int 2147483647))) .done))
noncomputable def Zb7:S:=(.asg 2 (.bin .Mod (.bin .Mult (.bin .Add (.bin .Add (.call 37 (.cons (.var 0) (.cons (.var 1) .nil))) (.bin .Mult (.con (.int 104729)) (.var 1))) (.con (.int 11))) (.con (.int 69621))) (.con (.int 2147483647))) (.ret (.bin .Mod (.bin .Mult (.var 2) (.bin .Add (.bin .FloorDiv (.var 2) (.con (.int 1013))) (.con (.int 48271)))) (.con (.int 2147483647))) .done))
noncomputable def Zd1:S:=(.asg 2 (.call 36 (.cons (.var 0) (.cons (.var 1) .nil))) (.ret (.cel (.cons (.ix (.lst (.cons (.con (.int 0)) (.cons (.var 2) .nil))) (.blt .int (.cons (.cmp .GtE (.var 2) (.bin .Pow (.con (.int 10)) (.con (.int 18)))) .nil))) (.cons (.con (.int 0)) (.cons (.bin .Add (.var 2) (.var 1)) .nil)))) .done))
noncomputable def Zd5:S:=(.ife (.cmp .Gt (.ix (.var 0) (.con (.int 0))) (.con (.int 0))) (.asg 2 (.bin .Mod (.ix (.var 0) (.con (.int 0))) (.var 1)) (.set (.var 0) (.con (.int 0)) (.bin .FloorDiv (.ix (.var 0) (.con (.int 0))) (.var 1)) (.ret (.var 2) .done))) .done (.set (.var 0) (.con (.int 1)) (.bin .Add (.ix (.var 0) (.con (.int 1))) (.con (.int 1))) (.ret (.bin .Mod (.call 38 (.cons (.ix (.var 0) (.con (.int 2))) (.cons (.ix (.var 0) (.con (.int 1))) .nil))) (.var 1)) .done)))
noncomputable def Zax:S:=(.expr (.mth .append (.var 4) (.cons (.mth .popat (.var 3) (.cons (.call 40 (.cons (.var 0) (.cons (.blt .len (.cons (.var 3) .nil)) .nil))) .nil)) .nil)) .done)
noncomputable def Zd2:S:=(.asg 3 (.celL (.var 1)) (.asg 4 (.cel .nil) (.forr (.nm 5) (.blt .range1 (.cons (.call 40 (.cons (.var 0) (.cons (.bin .Add (.var 2) (.con (.int 1))) .nil))) .nil)) Zax (.ret (.blt .tuple (.cons (.blt .sorted (.cons (.var 4) .nil)) .nil)) .done))))
noncomputable def ZaQ:S:=(.ret (.ix (.lst (.cons (.call 40 (.cons (.var 0) (.cons (.con (.int 10)) .nil))) (.cons (.call 40 (.cons (.var 0) (.cons (.con (.int 10)) .nil))) (.cons (.bin .Sub (.bin .Pow (.con (.int 10)) (.con (.int 9))) (.call 40 (.cons (.var 0) (.cons (.con (.int 2)) .nil)))) .nil)))) (.bin .Mod (.bin .FloorDiv (.call 40 (.cons (.var 0) (.cons (.con (.int 8)) .nil))) (.con (.int 3))) (.con (.int 3)))) .done)
noncomputable def Zl2:E:=(.emit (.ix (.var 1) (.call 40 (.cons (.var 2) (.cons (.con (.int 26)) .nil)))))
noncomputable def ZdV:E:=(.comp 1 [1,0] (.blt .range1 (.cons (.bin .Add (.con (.int 1)) (.call 40 (.cons (.var 0) (.cons (.con (.int 8)) .nil)))) .nil)) (.nm 0) .nil Zl2)
noncomputable def Zd4:S:=(.asg 1 (.con (.str [97,98,99,100,101,102,103,104,105,106,107,108,109,110,111,112,113,114,115,116,117,118,119,120,121,122])) (.asg 2 (.mth .join (.con (.str [])) (.cons ZdV .nil)) (.ife (.cmp .In (.var 2) (.tup (.cons (.con (.str [97,110,121])) (.cons (.con (.str [105,115])) (.cons (.con (.str [98,121])) (.cons (.con (.str [110,111,116])) (.cons (.con (.str [97,110,100])) (.cons (.con (.str [111,114])) .nil)))))))) (.ret (.bin .Add (.var 2) (.con (.str [113]))) .done) .done (.ret (.var 2) .done))))
noncomputable def Zd0:S:=(.ife (.cmp .Eq (.call 40 (.cons (.var 0) (.cons (.con (.int 3)) .nil))) (.con (.int 0))) (.ret (.call 43 (.cons (.var 0) .nil)) .done) .done (.ret (.ix (.var 1) (.call 40 (.cons (.var 0) (.cons (.blt .len (.cons (.var 1) .nil)) .nil)))) .done))
noncomputable def ZdD:E:=(.emit (.tup (.cons (.var 0) (.cons (.call 42 (.cons (.var 1) .nil)) .nil))))
noncomputable def ZdX:E:=(.comp 1 [0] (.call 41 (.cons (.var 0) (.cons (.ix (.var 3) (.con (.int 1))) (.cons (.blt .min2 (.cons (.con (.int 6)) (.cons (.blt .len (.cons (.ix (.var 3) (.con (.int 1))) .nil)) .nil))) .nil)))) (.nm 0) .nil ZdD)
noncomputable def Zl4:E:=(.emit (.call 43 (.cons (.var 1) .nil)))
noncomputable def Zhh:E:=(.comp 1 [1] (.blt .range1 (.cons (.con (.int 8)) .nil)) (.nm 0) .nil Zl4)
noncomputable def Zl3:E:=(.emit (.blt .sortset (.cons (.bin .Add Zhh (.lst (.cons (.con (.str [109,110])) .nil))) .nil)))
noncomputable def ZdW:E:=(.comp 1 [0] (.blt .range1 (.cons (.con (.int 2)) .nil)) (.nm 0) .nil Zl3)
noncomputable def Zd7:S:=(.asg 1 (.call 44 (.cons (.var 0) (.cons (.lst (.cons (.con (.str [97,110,110])) (.cons (.con (.str [98,111,98])) (.cons (.con (.str [99,121])) (.cons (.con (.str [122,122,122,122,122,122,122,122])) (.cons (.con (.str [112,114,105,99,101])) .nil)))))) .nil))) (.asg 2 (.call 44 (.cons (.var 0) (.cons (.lst (.cons (.con (.str [98,114,101,97,100])) (.cons (.con (.str [119,111,111,100])) (.cons (.con (.str [105,115,108,101])) .nil)))) .nil))) (.asg 3 (.lst (.cons (.lst (.cons (.con (.str [97])) (.cons (.con (.str [102,114,101,115,104])) (.cons (.con (.str [111,108,100])) (.cons (.con (.str [114,121,101])) (.cons (.con (.str [97,110,110])) (.cons (.con (.str [97,110,121,120])) .nil))))))) (.cons (.lst (.cons (.con (.str [97])) (.cons (.con (.str [112,114,105,99,101])) (.cons (.con (.str [119,105,100,116,104])) (.cons (.con (.str [111,108,100])) .nil))))) .nil))) (.ife (.cmp .Eq (.call 40 (.cons (.var 0) (.cons (.con (.int 2)) .nil))) (.con (.int 0))) (.asg 3 ZdW .done) .done (.asg 4 (.call 41 (.cons (.var 0) (.cons (.ix (.var 3) (.con (.int 0))) (.cons (.blt .min2 (.cons (.con (.int 6)) (.cons (.blt .len (.cons (.ix (.var 3) (.con (.int 0))) .nil)) .nil))) .nil)))) (.asg 5 (.blt .tuple (.cons ZdX .nil)) (.ret (.tup (.cons (.var 1) (.cons (.var 2) (.cons (.var 4) (.cons (.var 5) .nil))))) .done)))))))
noncomputable def Zd3:S:=(.asg 1 (.call 40 (.cons (.var 0) (.cons (.con (.int 8)) .nil))) (.ife (.cmp .Lt (.var 1) (.con (.int 2))) (.ret (.tup (.cons (.con (.str [97,110,121])) .nil)) .done) .done (.ife (.cmp .Eq (.var 1) (.con (.int 2))) (.ret (.tup (.cons (.con (.str [98,121])) (.cons (.call 44 (.cons (.var 0) (.cons (.lst (.cons (.con (.str [97,110,110])) (.cons (.con (.str [98,111,98])) (.cons (.con (.str [99,121])) (.cons (.con (.str [122,122,122,122,122,122,122,122])) .nil))))) .nil))) .nil))) .done) .done (.ife (.cmp .Lt (.var 1) (.con (.int 5))) (.ret (.tup (.cons (.ix (.lst (.cons (.con (.str [108,101,97,115,116])) (.cons (.con (.str [109,111,115,116])) .nil))) (.bin .Mod (.var 1) (.con (.int 2)))) (.cons (.call 44 (.cons (.var 0) (.cons (.lst (.cons (.con (.str [97])) (.cons (.con (.str [112,114,105,99,101])) (.cons (.con (.str [119,105,100,116,104])) (.cons (.con (.str [111,108,100])) .nil))))) .nil))) (.cons (.call 42 (.cons (.var 0) .nil)) .nil)))) .done) .done (.ret (.tup (.cons (.con (.str [105,115])) (.cons (.call 44 (.cons (.var 0) (.cons (.lst (.cons (.con (.str [97])) (.cons (.con (.str [102,114,101,115,104])) (.cons (.con (.str [111,108,100])) (.cons (.con (.str [114,121,101])) (.cons (.con (.str [97,110,110])) (.cons (.con (.str [119,111,111,100])) .nil))))))) .nil))) .nil))) .done)))))
noncomputable def ZbS:E:=(.emit (.call 47 (.cons (.var 1) (.cons (.bin .Sub (.var 3) (.con (.int 1))) (.cons (.var 2) .nil)))))
noncomputable def Zhg:E:=(.comp 1 [0,2,1] (.blt .range1 (.cons (.var 4) .nil)) (.nm 0) .nil ZbS)
noncomputable def Zbn:S:=(.set (.var 2) (.con (.int 0)) (.bin .Sub (.ix (.var 2) (.con (.int 0))) (.con (.int 1))) (.asg 3 (.call 40 (.cons (.var 0) (.cons (.con (.int 6)) .nil))) (.ife (.or (.cmp .Lt (.var 1) (.con (.int 2))) (.or (.cmp .Lt (.var 3) (.con (.int 2))) (.cmp .Lt (.ix (.var 2) (.con (.int 0))) (.con (.int 3))))) (.ret (.call 46 (.cons (.var 0) .nil)) .done) .done (.ife (.cmp .Eq (.var 3) (.con (.int 2))) (.ret (.tup (.cons (.con (.str [110,111,116])) (.cons (.call 47 (.cons (.var 0) (.cons (.bin .Sub (.var 1) (.con (.int 1))) (.cons (.var 2) .nil)))) .nil))) .done) .done (.asg 4 (.bin .Add (.con (.int 2)) (.call 40 (.cons (.var 0) (.cons (.ix (.lst (.cons (.con (.int 2)) (.cons (.con (.int 5)) .nil))) (.bin .FloorDiv (.call 40 (.cons (.var 0) (.cons (.con (.int 3)) .nil))) (.con (.int 2)))) .nil)))) (.ret (.tup (.cons (.ix (.lst (.cons (.con (.str [97,110,100])) (.cons (.con (.str [111,114])) .nil))) (.bin .Mod (.var 3) (.con (.int 2)))) (.cons (.blt .tuple (.cons Zhg .nil)) .nil))) .done))))))
noncomputable def Qy:S:=(.asg 1 (.ix (.lst (.cons (.bin .Add (.con (.int 1)) (.call 40 (.cons (.var 0) (.cons (.con (.int 9)) .nil)))) (.cons (.bin .Add (.con (.int 1)) (.call 40 (.cons (.var 0) (.cons (.bin .Pow (.con (.int 10)) (.con (.int 6))) .nil)))) (.cons (.bin .Pow (.con (.int 10)) (.con (.int 6))) .nil)))) (.call 40 (.cons (.var 0) (.cons (.con (.int 3)) .nil)))) (.asg 2 (.ix (.lst (.cons (.con (.int 1)) (.cons (.bin .Add (.con (.int 1)) (.call 40 (.cons (.var 0) (.cons (.var 1) .nil)))) (.cons (.var 1) .nil)))) (.call 40 (.cons (.var 0) (.cons (.con (.int 3)) .nil)))) (.asg 3 (.ix (.lst (.cons (.con (.int 0)) (.cons (.con (.int 1000)) (.cons (.call 40 (.cons (.var 0) (.cons (.con (.int 1001)) .nil))) .nil)))) (.call 40 (.cons (.var 0) (.cons (.con (.int 3)) .nil)))) (.asg 4 (.ix (.lst (.cons (.con (.int 0)) (.cons (.bin .Pow (.con (.int 10)) (.con (.int 9))) (.cons (.call 40 (.cons (.var 0) (.cons (.bin .Add (.bin .Pow (.con (.int 10)) (.con (.int 9))) (.con (.int 1))) .nil))) (.cons (.call 40 (.cons (.var 0) (.cons (.con (.int 30)) .nil))) .nil))))) (.call 40 (.cons (.var 0) (.cons (.con (.int 4)) .nil)))) (.asg 5 (.call 45 (.cons (.var 0) .nil)) (.asg 6 (.call 47 (.cons (.var 0) (.cons (.bin .Add (.con (.int 1)) (.call 40 (.cons (.var 0) (.cons (.con (.int 6)) .nil)))) (.cons (.cel (.cons (.con (.int 12)) .nil)) .nil)))) (.ret (.tup (.cons (.ix (.lst (.cons (.con (.str [103,105,118,101])) (.cons (.con (.str [116,97,107,101])) (.cons (.con (.str [98,101,97,114])) .nil)))) (.call 40 (.cons (.var 0) (.cons (.con (.int 3)) .nil)))) (.cons (.var 5) (.cons (.var 6) (.cons (.var 1) (.cons (.var 2) (.cons (.var 3) (.cons (.var 4) .nil)))))))) .done)))))))
noncomputable def ZaS:S:=(.asg 2 (.call 50 (.cons (.var 0) .nil)) (.ife (.cmp .In (.ix (.var 0) (.con (.int 0))) (.var 1)) (.ret (.bin .Add (.bin .Add (.con (.str [40,32])) (.var 2)) (.con (.str [32,41]))) .done) .done (.ret (.var 2) .done)))
noncomputable def Zek:E:=(.emit (.call 49 (.cons (.var 0) (.cons (.tup (.cons (.con (.str [111,114])) .nil)) .nil))))
noncomputable def Zer:E:=(.comp 1 [] (.ix (.var 0) (.con (.int 1))) (.nm 0) .nil Zek)
noncomputable def Zej:E:=(.emit (.call 49 (.cons (.var 0) (.cons (.tup (.cons (.con (.str [97,110,100])) (.cons (.con (.str [111,114])) .nil))) .nil))))
noncomputable def Zeq:E:=(.comp 1 [] (.ix (.var 0) (.con (.int 1))) (.nm 0) .nil Zej)
noncomputable def Z1:S:=(.asg 1 (.ix (.var 0) (.con (.int 0))) (.ife (.cmp .In (.var 1) (.tup (.cons (.con (.str [108,101,97,115,116])) (.cons (.con (.str [109,111,115,116])) .nil)))) (.ret (.bin .Add (.bin .Add (.ix (.var 0) (.con (.int 1))) (.ix (.lst (.cons (.con (.str [32,60,61,32])) (.cons (.con (.str [32,62,61,32])) .nil))) (.blt .int (.cons (.cmp .Eq (.var 1) (.con (.str [108,101,97,115,116]))) .nil)))) (.blt .str (.cons (.ix (.var 0) (.con (.int 2))) .nil))) .done) .done (.ife (.cmp .Eq (.var 1) (.con (.str [110,111,116]))) (.ret (.bin .Add (.con (.str [110,111,116,32])) (.call 49 (.cons (.ix (.var 0) (.con (.int 1))) (.cons (.tup (.cons (.con (.str [97,110,100])) (.cons (.con (.str [111,114])) .nil))) .nil)))) .done) .done (.ife (.cmp .Eq (.var 1) (.con (.str [97,110,100]))) (.ret (.mth .join (.con (.str [32,97,110,100,32])) (.cons Zeq .nil)) .done) .done (.ife (.cmp .Eq (.var 1) (.con (.str [111,114]))) (.ret (.mth .join (.con (.str [32,111,114,32])) (.cons Zer .nil)) .done) .done (.ret (.mth .join (.con (.str [32])) (.cons (.var 0) .nil)) .done))))))
noncomputable def ZaR:S:=(.ret (.ix (.lst (.cons (.mth .join (.con (.str [44])) (.cons (.var 0) .nil)) (.cons (.con (.str [45])) .nil))) (.blt .int (.cons (.cmp .Eq (.var 0) (.lst .nil)) .nil))) .done)
noncomputable def Jv:E:=(.emit (.blt .str (.cons (.var 0) .nil)))
noncomputable def ZaI:E:=(.comp 1 [] (.lst (.cons (.var 4) (.cons (.var 5) (.cons (.var 6) (.cons (.var 7) .nil))))) (.nm 0) .nil Jv)
noncomputable def Ju:E:=(.emit (.bin .Add (.bin .Add (.var 0) (.con (.str [61]))) (.blt .str (.cons (.var 1) .nil))))
noncomputable def ZaH:E:=(.comp 2 [] (.ix (.var 2) (.con (.int 3))) (.tp [0,1]) .nil Ju)
noncomputable def QW:S:=(.asgT [1,2,3,4,5,6,7] (.var 0) (.asg 8 (.cel (.cons (.var 1) (.cons (.ix (.var 2) (.con (.int 0))) (.cons (.ix (.var 2) (.con (.int 1))) (.cons (.call 51 (.cons (.blt .list (.cons (.ix (.var 2) (.con (.int 2))) .nil)) .nil)) .nil))))) (.expr (.mth .append (.var 8) (.cons (.call 51 (.cons ZaH .nil)) .nil)) (.asg 8 (.celA (.var 8) ZaI) (.ret (.bin .Add (.bin .Add (.mth .join (.con (.str [32])) (.cons (.var 8) .nil)) (.con (.str [32,124,32]))) (.call 50 (.cons (.var 3) .nil))) .done)))))
noncomputable def ZhP:S:=(.asg 8 (.call 35 (.cons (.var 7) .nil)) (.ife (.or (.not (.isi (.var 8) .tuple)) (.or (.cmp .NotEq (.var 8) (.var 2)) (.cmp .NotEq (.call 30 (.cons (.var 8) .nil)) (.var 3)))) (.ret (.con (.bl false)) .done) .done (.asg 9 (.ix (.var 8) (.con (.int 1))) (.ife (.or (.not (.isi (.var 9) .tuple)) (.or (.not (.isi (.ix (.var 9) (.con (.int 2))) .tuple)) (.not (.isi (.ix (.var 9) (.con (.int 3))) .tuple)))) (.ret (.con (.bl false)) .done) .done .done))))
noncomputable def Zfx:S:=(.asg 2 (.call 48 (.cons (.call 39 (.cons (.var 0) (.cons (.var 1) .nil))) .nil)) (.asg 3 (.call 52 (.cons (.var 2) .nil)) (.ife (.cmp .NotEq (.call 30 (.cons (.var 2) .nil)) (.var 3)) (.ret (.con (.bl false)) .done) .done (.asgT [4,5,6] (.mth .partition (.var 3) (.cons (.con (.str [32,124,32])) .nil)) (.forr (.nm 7) (.lst (.cons (.var 3) (.cons (.bin .Add (.bin .Add (.bin .Add (.var 4) (.con (.str [32,124,32,40,32]))) (.var 6)) (.con (.str [32,41]))) (.cons (.bin .Add (.bin .Add (.bin .Add (.var 4) (.con (.str [32,124,32,40,32,40,32]))) (.var 6)) (.con (.str [32,41,32,41]))) .nil)))) ZhP .done)))))
noncomputable def Zkr:S:=(.forr (.nm 1) (.blt .range1 (.cons (.con (.int 6)) .nil)) Zfx (.ret (.con (.bl true)) .done))
noncomputable def fns:List Fn:=[⟨1,1,Qx,false⟩,⟨1,1,JK,false⟩,⟨1,1,Za2,false⟩,⟨1,1,JL,false⟩,⟨1,1,Zb6,false⟩,⟨1,1,Zhm,false⟩,⟨1,1,JP,false⟩,⟨1,1,ZaO,false⟩,⟨1,1,JM,false⟩,⟨1,1,ZaP,false⟩,⟨2,2,Zaj,false⟩,⟨1,1,Qn,false⟩,⟨1,1,Jf,false⟩,⟨1,1,JB,false⟩,⟨1,1,Xq,false⟩,⟨1,4,ZaN,false⟩,⟨3,3,Je,false⟩,⟨1,8,Xp,false⟩,⟨1,3,Qc,false⟩,⟨2,3,QV,false⟩,⟨1,1,Qf,false⟩,⟨2,2,ZaJ,false⟩,⟨2,3,ZaM,false⟩,⟨2,3,JG,false⟩,⟨2,5,Jb,false⟩,⟨3,6,Qq,false⟩,⟨4,7,Qd,false⟩,⟨1,4,JC,false⟩,⟨1,1,JH,false⟩,⟨1,1,JD,false⟩,⟨1,13,Jd,false⟩,⟨1,1,JF,false⟩,⟨1,4,ZaL,false⟩,⟨1,1,ZaK,false⟩,⟨1,12,Xo,false⟩,⟨1,2,Jc,false⟩,⟨2,2,Zd6,false⟩,⟨2,3,Zb8,false⟩,⟨2,3,Zb7,false⟩,⟨2,3,Zd1,true⟩,⟨2,3,Zd5,false⟩,⟨3,6,Zd2,false⟩,⟨1,1,ZaQ,false⟩,⟨1,3,Zd4,false⟩,⟨2,2,Zd0,false⟩,⟨1,6,Zd7,false⟩,⟨1,2,Zd3,false⟩,⟨3,5,Zbn,false⟩,⟨1,7,Qy,false⟩,⟨2,3,ZaS,false⟩,⟨1,2,Z1,false⟩,⟨1,1,ZaR,false⟩,⟨1,9,QW,false⟩,⟨1,10,Zkr,false⟩]
noncomputable def gv:List T:=[(.str [97,98,99,100,101,102,103,104,105,106,107,108,109,110,111,112,113,114,115,116,117,118,119,120,121,122]),(.int 8),(.tup [(.str [97,110,121]),(.str [105,115]),(.str [98,121]),(.str [110,111,116]),(.str [97,110,100]),(.str [111,114])]),(.int 1000000000),(.int 6),(.int 6),(.int 6),(.int 40),(.int 2),(.int 6),(.tup [(.str [103,105,118,101]),(.str [116,97,107,101]),(.str [98,101,97,114])]),(.int 1000000),(.int 1000),(.str [48,49,50,51,52,53,54,55,56,57]),(.int 10),(.int 12),(.dct (Yae (λk=>.inr ⟨k.toArray⟩) [[62,61],[60,61]]) [(.str [108,101,97,115,116]),(.str [109,111,115,116])]),(.tup [(.str [111,114]),(.str [97,110,100])]),(.dct (Yae (λk=>.inr ⟨k.toArray⟩) [[110,111,116],[97,110,100],[111,114]]) [(.tup [(.str [97,110,100]),(.str [111,114])]),(.tup [(.str [97,110,100]),(.str [111,114])]),(.tup [(.str [111,114])])]),(.str [45])]
noncomputable abbrev cf:=Zbm fns gv
noncomputable abbrev CF(k:Nat)(b:S)(p q:Nat)(c:Bool):Prop:=∀(n:Nat) (ws:List W) (m:Mem),cf (n+1) k ws m=if ws.length=p then(ex (cf n) gv b (ws.map some++Yo (q-p) none) m).bind λfl m'=>fin m.length c fl m' else .stuck
theorem ZdP:CF 0 Qx 1 1 false:=λ_ _ _=>rfl
theorem ZeS:CF 1 JK 1 1 false:=λ_ _ _=>rfl
theorem Zia:CF 2 Za2 1 1 false:=λ_ _ _=>rfl
theorem Zg9:CF 3 JL 1 1 false:=λ_ _ _=>rfl
theorem Zki:CF 4 Zb6 1 1 false:=λ_ _ _=>rfl
theorem Zqz:CF 5 Zhm 1 1 false:=λ_ _ _=>rfl
theorem Zhb:CF 6 JP 1 1 false:=λ_ _ _=>rfl
theorem Zkj:CF 7 ZaO 1 1 false:=λ_ _ _=>rfl
theorem Zha:CF 8 JM 1 1 false:=λ_ _ _=>rfl
theorem Zkk:CF 9 ZaP 1 1 false:=λ_ _ _=>rfl
theorem Zg8:CF 10 Zaj 2 2 false:=λ_ _ _=>rfl
theorem ZcQ:CF 11 Qn 1 1 false:=λ_ _ _=>rfl
theorem ZfO:CF 12 Jf 1 1 false:=λ_ _ _=>rfl
theorem Zg2:CF 13 JB 1 1 false:=λ_ _ _=>rfl
theorem Zic:CF 14 Xq 1 1 false:=λ_ _ _=>rfl
theorem Zkh:CF 15 ZaN 1 4 false:=λ_ _ _=>rfl
theorem ZfN:CF 16 Je 3 3 false:=λ_ _ _=>rfl
theorem Zib:CF 17 Xp 1 8 false:=λ_ _ _=>rfl
theorem ZaG:CF 18 Qc 1 3 false:=λ_ _ _=>rfl
theorem Zem:CF 19 QV 2 3 false:=λ_ _ _=>rfl
theorem Zcq:CF 20 Qf 1 1 false:=λ_ _ _=>rfl
theorem Zkd:CF 21 ZaJ 2 2 false:=λ_ _ _=>rfl
theorem Zkg:CF 22 ZaM 2 3 false:=λ_ _ _=>rfl
theorem Zg6:CF 23 JG 2 3 false:=λ_ _ _=>rfl
theorem ZfK:CF 24 Jb 2 5 false:=λ_ _ _=>rfl
theorem Zbl:CF 25 Qq 3 6 false:=λ_ _ _=>rfl
theorem Za8:CF 26 Qd 4 7 false:=λ_ _ _=>rfl
theorem Zg3:CF 27 JC 1 4 false:=λ_ _ _=>rfl
theorem Zg7:CF 28 JH 1 1 false:=λ_ _ _=>rfl
theorem Zg4:CF 29 JD 1 1 false:=λ_ _ _=>rfl
theorem ZfM:CF 30 Jd 1 13 false:=λ_ _ _=>rfl
theorem Zg5:CF 31 JF 1 1 false:=λ_ _ _=>rfl
theorem Zkf:CF 32 ZaL 1 4 false:=λ_ _ _=>rfl
theorem Zke:CF 33 ZaK 1 1 false:=λ_ _ _=>rfl
theorem Zh9:CF 34 Xo 1 12 false:=λ_ _ _=>rfl
theorem ZfL:CF 35 Jc 1 2 false:=λ_ _ _=>rfl
theorem Zot:CF 36 Zd6 2 2 false:=λ_ _ _=>rfl
theorem Zmw:CF 37 Zb8 2 3 false:=λ_ _ _=>rfl
theorem Zmv:CF 38 Zb7 2 3 false:=λ_ _ _=>rfl
theorem Zoo:CF 39 Zd1 2 3 true:=λ_ _ _=>rfl
theorem Zos:CF 40 Zd5 2 3 false:=λ_ _ _=>rfl
theorem Zop:CF 41 Zd2 3 6 false:=λ_ _ _=>rfl
theorem Zkl:CF 42 ZaQ 1 1 false:=λ_ _ _=>rfl
theorem Zor:CF 43 Zd4 1 3 false:=λ_ _ _=>rfl
theorem Zon:CF 44 Zd0 2 2 false:=λ_ _ _=>rfl
theorem Zou:CF 45 Zd7 1 6 false:=λ_ _ _=>rfl
theorem Zoq:CF 46 Zd3 1 2 false:=λ_ _ _=>rfl
theorem ZiV:CF 47 Zbn 3 5 false:=λ_ _ _=>rfl
theorem ZdQ:CF 48 Qy 1 7 false:=λ_ _ _=>rfl
theorem Zkn:CF 49 ZaS 2 3 false:=λ_ _ _=>rfl
theorem Zah:CF 50 Z1 1 2 false:=λ_ _ _=>rfl
theorem Zkm:CF 51 ZaR 1 1 false:=λ_ _ _=>rfl
theorem Zen:CF 52 QW 1 9 false:=λ_ _ _=>rfl
theorem cf_law:CF 53 Zkr 1 10 false:=λ_ _ _=>rfl
theorem Zj1:gv[0]?=some (.str [97,98,99,100,101,102,103,104,105,106,107,108,109,110,111,112,113,114,115,116,117,118,119,120,121,122]):=rfl
theorem ZaD:gv[1]?=some (.int 8):=rfl
theorem ZbT:gv[2]?=some (.tup [(.str [97,110,121]),(.str [105,115]),(.str [98,121]),(.str [110,111,116]),(.str [97,110,100]),(.str [111,114])]):=rfl
theorem ZbX:gv[3]?=some (.int 1000000000):=rfl
theorem ZbV:gv[4]?=some (.int 6):=rfl
theorem ZbU:gv[5]?=some (.int 6):=rfl
theorem Zj3:gv[6]?=some (.int 6):=rfl
theorem Zab:gv[7]?=some (.int 40):=rfl
theorem Zam:gv[8]?=some (.int 2):=rfl
theorem Za6:gv[9]?=some (.int 6):=rfl
theorem Zn8:gv[10]?=some (.tup [(.str [103,105,118,101]),(.str [116,97,107,101]),(.str [98,101,97,114])]):=rfl
theorem ZcN:gv[11]?=some (.int 1000000):=rfl
theorem ZbW:gv[12]?=some (.int 1000):=rfl
theorem Zj2:gv[13]?=some (.str [48,49,50,51,52,53,54,55,56,57]):=rfl
theorem ZdE:gv[14]?=some (.int 10):=rfl
theorem Za5:gv[15]?=some (.int 12):=rfl
theorem ZiQ:gv[16]?=some (.dct (Yae (λk=>.inr ⟨k.toArray⟩) [[62,61],[60,61]]) [(.str [108,101,97,115,116]),(.str [109,111,115,116])]):=rfl
theorem ZiR:gv[17]?=some (.tup [(.str [111,114]),(.str [97,110,100])]):=rfl
theorem ZgR:gv[18]?=some (.dct (Yae (λk=>.inr ⟨k.toArray⟩) [[110,111,116],[97,110,100],[111,114]]) [(.tup [(.str [97,110,100]),(.str [111,114])]),(.tup [(.str [97,110,100]),(.str [111,114])]),(.tup [(.str [111,114])])]):=rfl
theorem ZaC:gv[19]?=some (.str [45]):=rfl
end My
section
set_option maxRecDepth 20000
namespace My
open Mi
noncomputable def IsSt(s:List T):Prop:=∃a b c:Int,s=[.int a,.int b,.int c]
noncomputable def put(m:Mem)(i:Nat)(s:List T):Mem:=m.set i (some (false,s))
theorem Zk4{m:Mem}{i:Nat}{s:List T}(h:i<m.length):(put m i s)[i]?=some (some (false,s)):=YT h
theorem Zx{m:Mem}{i:Nat}{s:List T}:(put m i s).length=m.length:=Wx
theorem ZkU{m:Mem}{i:Nat}{s s':List T}:(put m i s).set i (some (false,s'))=put m i s':=List.set_set _
theorem mulL{i j:Int}(h:0<=i)(h':i<4294967296):Zbd i j=true:=by
 have:i.natAbs<2^64:=by omega
 simp[Zbd,small,this]
theorem mulR{i j:Int}(h:0<=j)(h':j<4294967296):Zbd i j=true:=by
 have:j.natAbs<2^64:=by omega
 simp[Zbd,small,this]
section
variable{call:Nat->List W->Mem->Res W}{gv:List T}{env:Env}{m m1 m2 m3:Mem}{a b c e o v i:E}{x y z r:T}{w w1 w2:W}{f:Nat}{bb:B}{k:Bool}
theorem Zk{op:PySem.Operator}(h1:ev call gv a env m=.ok (.t x) m1)(h2:ev call gv b env m1=.ok (.t y) m2)(h3:binT op x y=some r):ev call gv (.bin op a b) env m=.ok (.t r) m2:=by
 rw[ev,h1,Ze,h2,Ze]
 show pur (binT op x y) m2=_
 rw[h3];rfl
theorem Zu{op:PySem.CmpOp}(h1:ev call gv a env m=.ok (.t x) m1)(h2:ev call gv b env m1=.ok (.t y) m2)(h3:cmpT op x y=some k):ev call gv (.cmp op a b) env m=.ok (.t (.bl k)) m2:=by
 rw[ev,h1,Ze,h2,Ze]
 show pur ((cmpT op x y).map .bl) m2=_
 rw[h3];rfl
theorem Zb(t:T):ev call gv (.con t) env m=.ok (.t t) m:=by rw[ev]
theorem Za{i:Nat}{w:W}(h:env[i]?=some (some w)):ev call gv (.var i) env m=.ok w m:=by rw[ev,h]
theorem ZcE{c j:Nat}{k:Int}{xs:List T}(h:env[c]?=some (some (.c j)))(hm:m[j]?=some (some (false,xs)))(hx:atT xs k=some r):ev call gv (.ix (.var c) (.con (.int k))) env m=.ok (.t r) m:=by
 rw[ev,Za h,Ze,Zb,Ze]
 simp only[view,hm,WD,ixT,hx]
 rfl
theorem Ql(h1:ev call gv a env m=.ok (.t x) m1)(h2:ev call gv b env m1=.ok (.t y) m2)(h3:ixT x y=some r):ev call gv (.ix a b) env m=.ok (.t r) m2:=by
 rw[ev,h1,Ze,h2,Ze]
 show pur (ixT x y) m2=_
 rw[h3];rfl
theorem Zy(h:ev call gv e env m=.ok (.t x) m1)(hb:bltT bb [x]=some r):ev call gv (.blt bb (.cons e .nil)) env m=.ok (.t r) m1:=by
 rw[ev,evs,h]
 show pur (bltT bb [x]) m1=_
 rw[hb];rfl
theorem Zr(h:ev call gv e env m=.ok w m1):ev call gv (.call f (.cons e .nil)) env m=call f [w] m1:=by
 rw[ev,evs,h]
 rfl
theorem Zh(h1:ev call gv a env m=.ok w m1)(h2:ev call gv b env m1=.ok w1 m2):ev call gv (.call f (.cons a (.cons b .nil))) env m=call f [w,w1] m2:=by
 simp only[ev,evs,h1,h2,Ze]
theorem Za1(h1:ev call gv a env m=.ok w m1)(h2:ev call gv b env m1=.ok w1 m2)(h3:ev call gv c env m2=.ok w2 m3):ev call gv (.call f (.cons a (.cons b (.cons c .nil)))) env m=call f [w,w1,w2] m3:=by
 simp only[ev,evs,h1,h2,h3,Ze]
theorem Zh0(h1:ev call gv a env m=.ok (.t x) m1):ev call gv (.tup (.cons a .nil)) env m=.ok (.t (.tup [x])) m1:=by
 simp only[ev,evs,h1,Ze,Xm,Ji]
 exact if_pos (by simp[lim])
theorem ZZ(h1:ev call gv a env m=.ok (.t x) m1)(h2:ev call gv b env m1=.ok (.t y) m2):ev call gv (.tup (.cons a (.cons b .nil))) env m=.ok (.t (.tup [x,y])) m2:=by
 simp only[ev,evs,h1,h2,Ze,Xm,Ji]
 exact if_pos (by simp[lim])
theorem ZhZ(h1:ev call gv a env m=.ok (.t x) m1)(h2:ev call gv b env m1=.ok (.t y) m2)(h3:ev call gv c env m2=.ok (.t z) m3):ev call gv (.tup (.cons a (.cons b (.cons c .nil)))) env m=.ok (.t (.tup [x,y,z])) m3:=by
 simp only[ev,evs,h1,h2,h3,Ze,Xm,Ji]
 exact if_pos (by simp[lim])
theorem ZaE(h1:ev call gv a env m=.ok (.t x) m1)(h2:ev call gv b env m1=.ok (.t y) m2):ev call gv (.lst (.cons a (.cons b .nil))) env m=.ok (.t (.lst [x,y])) m2:=by
 simp only[ev,evs,h1,h2,Ze,Xm,Ji]
 exact if_pos (by simp[lim])
theorem Zh3(h:ev call gv a env m=.ok (.t (.bl true)) m1):ev call gv (.and a b) env m=ev call gv b env m1:=by rw[ev,h];rfl
theorem Zqt(h:ev call gv a env m=.ok (.t (.bl false)) m1):ev call gv (.and a b) env m=.ok (.t (.bl false)) m1:=by rw[ev,h];rfl
theorem Z4(h:ev call gv a env m=.ok (.t (.bl k)) m1):ev call gv (.not a) env m=.ok (.t (.bl (!k))) m1:=by rw[ev,h];rfl
theorem ZdI(h:ev call gv a env m=.ok (.t (.bl true)) m1):ev call gv (.or a b) env m=.ok (.t (.bl true)) m1:=by rw[ev,h];rfl
theorem QJ(h:ev call gv a env m=.ok (.t (.bl false)) m1):ev call gv (.or a b) env m=ev call gv b env m1:=by rw[ev,h];rfl
theorem ZeO{ty:Ty}(h:ev call gv a env m=.ok (.t x) m1)(hk:isT x ty=k):ev call gv (.isi a ty) env m=.ok (.t (.bl k)) m1:=by rw[ev,h,<-hk];rfl
end
section
variable{call:Nat->List W->Mem->Res W}{gv:List T}{env:Env}{m m1 m2 m3:Mem}{a lo hi:E}{es:Es}{x y z r:T}{w:W}{ws:List W}{ts:List T}{f:Nat}{bb:B}
theorem Ja{ts:List T}(h:ts.length<=1000:=by exact Nat.le_of_ble_eq_true rfl):ts.length<=lim:=Y5 h (by decide)
theorem QG:evs call gv .nil env m=.ok [] m:=by rw[evs]
theorem Zo(h1:ev call gv a env m=.ok w m1)(h2:evs call gv es env m1=.ok ws m2):evs call gv (.cons a es) env m=.ok (w::ws) m2:=by rw[evs,h1,Ze,h2];rfl
theorem Jw(h:evs call gv es env m=.ok ws m1)(h2:frzs ws m1=.ok ts m1)(hl:ts.length<=lim):ev call gv (.lst es) env m=.ok (.t (.lst ts)) m1:=by rw[ev,h,Ze,h2,Ze,if_pos hl]
theorem ZoR(h:evs call gv es env m=.ok ws m1)(h2:frzs ws m1=.ok ts m1)(hl:ts.length<=lim):ev call gv (.tup es) env m=.ok (.t (.tup ts)) m1:=by rw[ev,h,Ze,h2,Ze,if_pos hl]
theorem Zbk(h:evs call gv es env m=.ok ws m1):ev call gv (.call f es) env m=call f ws m1:=by rw[ev,h];rfl
theorem ev_blt(h:evs call gv es env m=.ok ws m1)(h2:views ws m1=some ts)(h3:bltT bb ts=some r):ev call gv (.blt bb es) env m=.ok (.t r) m1:=by
 rw[ev,h,Ze,h2]
 show pur (bltT bb ts) m1=_
 rw[h3];rfl
theorem ZcP{k:Nat}(h:gv[k]?=some x):ev call gv (.gl k) env m=.ok (.t x) m:=by rw[ev,h];rfl
theorem Zmh{k:Int}(h1:ev call gv a env m=.ok (.t x) m1)(h2:ev call gv lo env m1=.ok (.t (.int k)) m2)(h3:slT x (some k) none=some r)(hh:Zj lo=false:=by rfl):ev call gv (.slc a lo .hole) env m=.ok (.t r) m2:=by
 rw[ev,h1,Ze,hh,if_neg Yw,h2]
 show pur (slT x (some k) none) m2=_
 rw[h3];rfl
end
section
variable{call:Nat->List W->Mem->Res W}{gv:List T}{env env':Env}{m m1 m2:Mem}{k a b:S}{e:E}{w:W}
theorem ex_ifA(h:ev call gv e env m=.ok (.t (.bl true)) m1)(h2:ex call gv a env m1=.ok (.next env') m2):ex call gv (.ife e a b k) env m=ex call gv k env' m2:=by
 rw[ex,h]
 show(ex call gv a env m1).bind _=_
 rw[h2];rfl
theorem ZhY(h:ev call gv e env m=.ok w m1):ex call gv (.expr e k) env m=ex call gv k env m1:=by rw[ex,h];rfl
end
section
variable{call:Nat->List W->Mem->Res W}{gv:List T}{env:Env}{m m1 m2:Mem}{a c inner:E}{x:T}{xs:List T}
theorem Jx(h:ev call gv a env m=.ok (.t x) m1):ev call gv (.emit a) env m=.ok (.t (.lst [x])) m1:=by rw[ev,h];rfl
theorem Zdc(h2:ev call gv inner env m=.ok (.t (.lst xs)) m2):Qj call gv .nil inner env m=.ok xs m2:=by
 unfold Qj
 rw[tests,Ze,if_pos rfl,h2]
 rfl
end
theorem at0{α:Type}(a:α)(r:List α):atT (a::r) 0=some a:=by simp[atT,ixOf]
theorem at1{α:Type}(a b:α)(r:List α):atT (a::b::r) 1=some b:=by
 have:(1:Int)<(r.length:Int)+1+1:=by omega
 simp[atT,ixOf,this]
theorem ZoX{α:Type}{xs:List α}{i:Int}(h0:0<=i)(h1:i<xs.length):atT xs i=xs[i.toNat]?:=by
 unfold atT ixOf
 rw[if_pos h0,if_pos h1]
 rfl
theorem Qa{α β:Type}(f:α->β)(xs:List α):xs.flatMap (λx=>[f x])=xs.map f:=by
 induction xs with
 |nil=>rfl
 |cons x xs ih=>simp[ih]
section
variable{m:Mem}
theorem cf2{n f:Nat}{a b t:T}{body:S}{k:Nat}(hcf:∀ws:List W,cf (n+1) f ws m=if ws.length=2 then(ex (cf n) gv body (ws.map some++Yo (2+k-2) none) m).bind λfl m'=>fin m.length false fl m' else .stuck)(h:ex (cf n) gv body ([some (.t a),some (.t b)]++Yo k none) m=.ok (.ret (.t t)) m):cf (n+1) f [.t a,.t b] m=.ok (.t t) m:=by
 rw[hcf]
 rw[if_pos (show[W.t a,W.t b].length=2 from rfl)]
 have:2+k-2=k:=by omega
 rw[this]
 show(ex (cf n) gv body ([some (.t a),some (.t b)]++Yo k none) m).bind _=_
 rw[h]
 exact Zi (cell:=false) rfl
end
theorem Zn0{n:Nat}{m:Mem}{x k:Int}:∃y:Int,cf (n+1) 37 [.t (.int x),.t (.int k)] m=.ok (.t (.int y)) m:=by
 have h4:Zbd 7919 k=true:=mulL (by decide) (by decide)
 have h5:∀x,Zbd x 48271=true:=λx=>mulR (by decide) (by decide)
 have h6:∀x y,Zbd (x%2147483647) y=true:=λx y=>mulL (V7 _ (by decide)) (by have:=Vg x (b:=2147483647) (by decide);omega)
 refine⟨((x+7919*k+1)*48271%2147483647)*((x+7919*k+1)*48271%2147483647 / 1009+69621)%2147483647,?_⟩
 refine cf2 (n:=n) (k:=1) (λws=>Zmw _ ws m) ?_
 show ex _ gv Zb8 [some (.t (.int x)),some (.t (.int k)),none] m=_
 unfold Zb8
 rw[Zn (Zk (Zk (Zk (Zk (Za rfl) (Zk (Zb _) (Za rfl) (Zkq h4)) (Zao _ _)) (Zb _) (Zao _ _)) (Zb _) (Zkq (h5 _))) (Zb _) (Zes (by decide)))]
 exact Zf (Zk (Zk (Za rfl) (Zk (Zk (Za rfl) (Zb _) (ZmI (by decide))) (Zb _) (Zao _ _)) (Zkq (h6 _ _))) (Zb _) (Zes (by decide)))
theorem ZmZ{n:Nat}{m:Mem}{x k:Int}:∃y:Int,cf (n+2) 38 [.t (.int x),.t (.int k)] m=.ok (.t (.int y)) m:=by
 have h4:Zbd 104729 k=true:=mulL (by decide) (by decide)
 have h5:∀x,Zbd x 69621=true:=λx=>mulR (by decide) (by decide)
 have h6:∀x y,Zbd (x%2147483647) y=true:=λx y=>mulL (V7 _ (by decide)) (by have:=Vg x (b:=2147483647) (by decide);omega)
 obtain⟨z,hz⟩:=Zn0 (n:=n) (m:=m) (x:=x) (k:=k)
 refine⟨((z+104729*k+11)*69621%2147483647)*((z+104729*k+11)*69621%2147483647 / 1013+48271)%2147483647,?_⟩
 refine cf2 (n:=n+1) (k:=1) (λws=>Zmv _ ws m) ?_
 show ex _ gv Zb7 [some (.t (.int x)),some (.t (.int k)),none] m=_
 unfold Zb7
 rw[Zn (Zk (Zk (Zk (Zk ((Zh (Za rfl) (Za rfl)).trans hz) (Zk (Zb _) (Za rfl) (Zkq h4)) (Zao _ _)) (Zb _) (Zao _ _)) (Zb _) (Zkq (h5 _))) (Zb _) (Zes (by decide)))]
 exact Zf (Zk (Zk (Za rfl) (Zk (Zk (Za rfl) (Zb _) (ZmI (by decide))) (Zb _) (Zao _ _)) (Zkq (h6 _ _))) (Zb _) (Zes (by decide)))
theorem ZJ{n:Nat}{m:Mem}{i:Nat}{s:List T}{many:Int}(hi:i<m.length)(hs:IsSt s)(h1:0<many)(h2:many<1073741824):
  ∃r s',cf (n+3) 40 [.c i,.t (.int many)] (put m i s)=.ok (.t (.int r)) (put m i s')/\IsSt s'/\0<=r/\r<many:=by
 obtain⟨a,b,c,rfl⟩:=hs
 have key:∃r s',ex (cf (n+2)) gv Zd5 [some (.c i),some (.t (.int many)),none] (put m i [.int a,.int b,.int c])=.ok (.ret (.t (.int r))) (put m i s')/\IsSt s'/\0<=r/\r<many:=by
  have h:=Zk4 (s:=[.int a,.int b,.int c]) hi
  unfold Zd5
  have hg:ev (cf (n+2)) gv (.cmp .Gt (.ix (.var 0) (.con (.int 0))) (.con (.int 0))) [some (.c i),some (.t (.int many)),none] (put m i [.int a,.int b,.int c])=.ok (.t (.bl (decide (0<a)))) (put m i [.int a,.int b,.int c]):=Zu (ZcE rfl h rfl) (Zb _) (c_gt _ _)
  by_cases ha:0<a
  ·rw[decide_eq_true ha]at hg
   refine⟨a%many,[.int (a / many),.int b,.int c],Zw hg ?_,⟨_,_,_,rfl⟩,V7 _ (by omega),Vg _ h1⟩
   rw[Zn (Zk (ZcE rfl h rfl) (Za rfl) (Zes h1))]
   rw[ZhX (Zk (ZcE rfl h rfl) (Za rfl) (ZmI ⟨h1,h2⟩)) (Za rfl) (Zb _) h rfl]
   rw[ZkU]
   exact Zf (Za rfl)
  ·rw[decide_eq_false ha]at hg
   rw[Zq hg]
   have hp:=Zk4 (s:=[.int a,.int (b+1),.int c]) hi
   obtain⟨z,hz⟩:=ZmZ (n:=n) (m:=put m i [.int a,.int (b+1),.int c]) (x:=c) (k:=b+1)
   refine⟨z%many,[.int a,.int (b+1),.int c],?_,⟨_,_,_,rfl⟩,V7 _ (by omega),Vg _ h1⟩
   rw[ZhX (Zk (ZcE rfl h rfl) (Zb _) (Zao _ _)) (Za rfl) (Zb _) h rfl]
   show ex (cf (n+2)) gv _ _ (put m i [.int a,.int b,.int c] |>.set i (some (false,[.int a,.int (b+1),.int c])))=_
   rw[ZkU]
   exact Zf (Zk ((Zh (ZcE rfl hp rfl) (ZcE rfl hp rfl)).trans hz) (Za rfl) (Zes h1))
 obtain⟨r,s',e,h⟩:=key
 refine⟨r,s',?_,h⟩
 rw[Zos]
 simp only[Yq,Y0,Yz,U8,if_true,Yo,Vy,Uc,YaS]
 rw[e]
 exact Zi (cell:=false) (by rw[Zx,Zx])
theorem ZqA{n:Nat}{m:Mem}{ns:List Int}{k:Int}(hk:0<=k):∃v:Int,cf (n+1) 36 [.t (.scr ns),.t (.int k)] m=.ok (.t (.int v)) m:=by
 have key:∃v:Int,ex (cf n) gv Zd6 [some (.t (.scr ns)),some (.t (.int k))] m=.ok (.ret (.t (.int v))) m:=by
  unfold Zd6
  have hc:ev (cf n) gv (.cmp .Lt (.var 1) (.blt .len (.cons (.var 0) .nil))) [some (.t (.scr ns)),some (.t (.int k))] m=.ok (.t (.bl (decide (k<ns.length)))) m:=Zu (Za rfl) (Zy (Za rfl) (l_scr ns)) (c_lt _ _)
  by_cases h:k<ns.length
  ·obtain⟨v,hv,_⟩:=Zbo (xs:=ns) (i:=k) hk h
   rw[decide_eq_true h]at hc
   exact⟨v,Zw hc (Zf (Ql (Za rfl) (Za rfl) (by rw[x_scr,hv];rfl)))⟩
  ·rw[decide_eq_false h]at hc
   exact⟨0,by rw[Zq hc];exact Zf (Zb _)⟩
 obtain⟨v,e⟩:=key
 exact⟨v,cf2 (n:=n) (k:=0) (λws=>Zot _ ws m) e⟩
theorem Zo1{n:Nat}{m:Mem}{ns:List Int}{k:Int}(hk:0<=k):∃s,cf (n+2) 39 [.t (.scr ns),.t (.int k)] m=.ok (.c m.length) (put (m++[none]) m.length s)/\IsSt s:=by
 obtain⟨v,hv⟩:=ZqA (n:=n) (m:=m) (ns:=ns) hk
 have hx:∀b:Bool,atT [T.int 0,.int v] (b2i b)=some (.int (if b then v else 0)):=λb=>by cases b<;>rfl
 refine⟨[.int (if decide (1000000000000000000<=v)then v else 0),.int 0,.int (v+k)],?_,⟨_,_,_,rfl⟩⟩
 have key:ex (cf (n+1)) gv Zd1 [some (.t (.scr ns)),some (.t (.int k)),none] m=.ok (.ret (.c m.length)) (m++[some (false,[.int (if decide (1000000000000000000<=v)then v else 0),.int 0,.int (v+k)])]):=by
  unfold Zd1
  rw[Zn ((Zh (Za rfl) (Za rfl)).trans hv)]
  have h1:ev (cf (n+1)) gv (.ix (.lst (.cons (.con (.int 0)) (.cons (.var 2) .nil))) (.blt .int (.cons (.cmp .GtE (.var 2) (.bin .Pow (.con (.int 10)) (.con (.int 18)))) .nil))) [some (.t (.scr ns)),some (.t (.int k)),some (.t (.int v))] m=.ok (.t (.int (if decide (1000000000000000000<=v)then v else 0))) m:=
   Ql (ZaE (Zb _) (Za rfl)) (Zy (Zu (Za rfl) (Zk (Zb _) (Zb _) (b_pow (by decide))) (c_ge _ _)) (Zn3 _)) (hx _)
  have h2:ev (cf (n+1)) gv (.bin .Add (.var 2) (.var 1)) [some (.t (.scr ns)),some (.t (.int k)),some (.t (.int v))] m=.ok (.t (.int (v+k))) m:=Zk (Za rfl) (Za rfl) (Zao _ _)
  refine Zf ?_
  rw[ev]
  simp only[evs,h1,h2,Zb,Ze,Yk,Yl,Xm,Ji]
  exact if_pos (by simp[lim])
 rw[Zoo]
 simp only[Yq,Y0,Yz,U8,if_true,Yo,Vy,Uc,YaS]
 rw[key]
 simp[Ze,fin,put]
theorem QQ{m xs:Mem}{i:Nat}{s:List T}(hi:i<m.length):put (m++xs) i s=put m i s++xs:=by
 unfold put
 rw[List.set_append_left _ _ hi]
section
variable{m:Mem}{i:Nat}{s L F L' F':List T}
theorem two0(hi:i<m.length):(put (m++[some (false,L),some (false,F)]) i s)[m.length]?=some (some (false,L)):=by
 rw[QQ hi,YG (by rw[Zx];exact Yn _),Zx,Gu];rfl
theorem two1(hi:i<m.length):(put (m++[some (false,L),some (false,F)]) i s)[m.length+1]?=some (some (false,F)):=by
 rw[QQ hi,YG (by rw[Zx];omega),Zx,Nat.add_sub_cancel_left];rfl
theorem two0s(hi:i<m.length):(put (m++[some (false,L),some (false,F)]) i s).set m.length (some (false,L'))=put (m++[some (false,L'),some (false,F)]) i s:=by
 rw[QQ hi,QQ hi,Vw _ _ (by rw[Zx];exact Yn _),Zx,Gu];rfl
theorem two1s(hi:i<m.length):(put (m++[some (false,L),some (false,F)]) i s).set (m.length+1) (some (false,F'))=put (m++[some (false,L),some (false,F')]) i s:=by
 rw[QQ hi,QQ hi,Vw _ _ (by rw[Zx];omega),Zx,Nat.add_sub_cancel_left];rfl
theorem ZmX(hi:i<m.length):(put (m++[some (false,L),some (false,F)]) i s).take m.length=put m i s:=by
 rw[QQ hi]
 exact V8 Zx
end
theorem ZgW{α β:Type}(f:α->β):∀(xs:List α) (k:Nat),(xs.map f).eraseIdx k=(xs.eraseIdx k).map f
 |[],_=>rfl
 |_::_,0=>rfl
 |x::xs,k+1=>by
  rw[Yz,List.eraseIdx_cons_succ,List.eraseIdx_cons_succ,Yz,ZgW f xs k]
theorem d_mut{m:Mem}{b:Mt}{j:Nat}{xs ys:List T}{x t:T}(hb:b=.append∨b=.popat)(h:m[j]?=some (some (false,xs)))(hm:mutM b xs [x]=some (t,ys)):doM b (.c j) [.t x] m=.ok (.t t) (m.set j (some (false,ys))):=by
 rcases hb with rfl|rfl<;>simp[doM,Xm,Ji,Ze,h,hm]
theorem Zn4{n:Nat}{q:Int}(h0:0<=q)(h1:q<n):ixOf n q=some q.toNat:=by unfold ixOf;rw[if_pos h0,if_pos h1]
theorem ZeP{α:Type}:∀{l:List α}{k:Nat}(h:k<l.length),([l[k]]++l.eraseIdx k).Perm l
 |_::_,0,_=>List.Perm.refl _
 |a::l,k+1,h=>(List.Perm.swap a (l[k]'(Nat.lt_of_succ_lt_succ h)) (l.eraseIdx k)).trans ((ZeP (Nat.lt_of_succ_lt_succ h)).cons a)
theorem ZkQ{n:Nat}{m:Mem}{i:Nat}{s:List T}{ls fs:List (List Nat)}{e1 e2:Option W}{x:T}(hi:i<m.length)(hs:IsSt s)(h0:0<ls.length)(h1:ls.length<=60)(h2:fs.length<=60):
  ∃(ls' fs':List (List Nat)) (s':List T),ex (cf (n+3)) gv Zax [some (.c i),e1,e2,some (.c m.length),some (.c (m.length+1)),some (.t x)] (put (m++[some (false,ls.map .str),some (false,fs.map .str)]) i s)=.ok (.next [some (.c i),e1,e2,some (.c m.length),some (.c (m.length+1)),some (.t x)]) (put (m++[some (false,ls'.map .str),some (false,fs'.map .str)]) i s')/\IsSt s'/\ls'.length+1=ls.length/\fs'.length=fs.length+1/\(fs'++ls').Perm (fs++ls):=by
 have hiM:i<(m++[some (false,ls.map T.str),some (false,fs.map T.str)]).length:=by rw[Yi];omega
 obtain⟨q,s1,d1,hs1,q0,q1⟩:=ZJ (n:=n) (many:=(ls.length:Int)) hiM hs (by omega) (by omega)
 have hq:q.toNat<ls.length:=by omega
 have hv:∀ws,views (.c m.length::ws) (put (m++[some (false,ls.map .str),some (false,fs.map .str)]) i s)=(views ws (put (m++[some (false,ls.map .str),some (false,fs.map .str)]) i s)).map (.lst (ls.map .str)::·):=λws=>by
  simp[views,view,two0 hi]
 have hlen:ev (cf (n+3)) gv (.blt .len (.cons (.var 3) .nil)) [some (.c i),e1,e2,some (.c m.length),some (.c (m.length+1)),some (.t x)] (put (m++[some (false,ls.map .str),some (false,fs.map .str)]) i s)=.ok (.t (.int (ls.length:Int))) (put (m++[some (false,ls.map .str),some (false,fs.map .str)]) i s):=by
  rw[ev,evs,Za rfl,Ze,evs,Ze,Ze,hv]
  simp[views,bltT,one1,bLen,pur]
 have hpop:ev (cf (n+3)) gv (.mth .popat (.var 3) (.cons (.call 40 (.cons (.var 0) (.cons (.blt .len (.cons (.var 3) .nil)) .nil))) .nil)) [some (.c i),e1,e2,some (.c m.length),some (.c (m.length+1)),some (.t x)] (put (m++[some (false,ls.map .str),some (false,fs.map .str)]) i s)=.ok (.t (.str ls[q.toNat])) (put (m++[some (false,(ls.eraseIdx q.toNat).map .str),some (false,fs.map .str)]) i s1):=by
  rw[ev,Za rfl,Ze]
  have ht:tyM .popat (.c m.length) (put (m++[some (false,ls.map .str),some (false,fs.map .str)]) i s)=true:=by
   show(match(put (m++[some (false,ls.map .str),some (false,fs.map .str)]) i s)[m.length]? with
    |some (some _)=>true
    |_=>false)=true
   rw[two0 hi]
  rw[if_pos ht,evs,Zh (Za rfl) hlen,d1,Ze,evs,Ze,Ze]
  have hm:mutM .popat (ls.map T.str) [.int q]=some (.str ls[q.toNat],(ls.eraseIdx q.toNat).map .str):=by
   show(match ixOf (ls.map T.str).length q with
    |some k=>((ls.map T.str)[k]?).map λt=>(t,(ls.map T.str).eraseIdx k)
    |none=>none)=_
   rw[Yc,Zn4 q0 q1]
   dsimp only
   rw[Y4,YM hq,ZgW]
   rfl
  rw[d_mut (.inr rfl) (two0 hi) hm,two0s hi]
 refine⟨ls.eraseIdx q.toNat,fs++[ls[q.toNat]],s1,?_,hs1,by rw[Gz hq];omega,by simp,?_⟩
 rotate_left
 ·rw[Wj]
  exact List.Perm.append_left fs (ZeP hq)
 unfold Zax
 have happ:ev (cf (n+3)) gv (.mth .append (.var 4) (.cons (.mth .popat (.var 3) (.cons (.call 40 (.cons (.var 0) (.cons (.blt .len (.cons (.var 3) .nil)) .nil))) .nil)) .nil)) [some (.c i),e1,e2,some (.c m.length),some (.c (m.length+1)),some (.t x)] (put (m++[some (false,ls.map .str),some (false,fs.map .str)]) i s)=.ok (.t .non) (put (m++[some (false,(ls.eraseIdx q.toNat).map .str),some (false,(fs++[ls[q.toNat]]).map .str)]) i s1):=by
  rw[ev,Za rfl,Ze]
  have ht:tyM .append (.c (m.length+1)) (put (m++[some (false,ls.map .str),some (false,fs.map .str)]) i s)=true:=by
   show(match(put (m++[some (false,ls.map .str),some (false,fs.map .str)]) i s)[m.length+1]? with
    |some (some _)=>true
    |_=>false)=true
   rw[two1 hi]
  rw[if_pos ht,evs,hpop,Ze,evs,Ze,Ze]
  have hm:mutM .append (fs.map T.str) [.str ls[q.toNat]]=some (.non,(fs++[ls[q.toNat]]).map .str):=by
   show(if(fs.map T.str).length<lim then some (T.non,fs.map T.str++[.str ls[q.toNat]])else none)=_
   rw[if_pos (by rw[Yc];unfold lim;omega),YaO]
   rfl
  rw[d_mut (.inl rfl) (two1 hi) hm,two1s hi]
 rw[ZhY happ,ex]
theorem X6{n:Nat}{m:Mem}{x:T}:cf (n+1) 2 [.t x] m=.ok (.t (.bl (isT x .int&&!isT x .bool))) m:=by
 rw[Zia]
 cases x<;>simp[Za2,ex,ev,Res.bind,view,pur,isT,ZcR,fin]
noncomputable def numB:T->Bool
 |.int i=>decide (0<=i)&&decide (i<=1000000000)
 |_=>false
theorem J6{n:Nat}{m:Mem}{x:T}:cf (n+2) 3 [.t x] m=.ok (.t (.bl (numB x))) m:=by
 rw[Zg9]
 cases x with
 |int i =>
  by_cases h:0<=i<;>simp[JL,ex,ev,evs,Res.bind,view,pur,isT,ZcR,fin,X6,cmpT,Zei,ltT,inT,numB,h,ZbX]
 |_=>simp[JL,ex,ev,evs,Res.bind,view,pur,isT,ZcR,fin,X6,numB]
noncomputable def lett:List Nat:=[97,98,99,100,101,102,103,104,105,106,107,108,109,110,111,112,113,114,115,116,117,118,119,120,121,122]
noncomputable def six:List (List Nat):=[[97,110,121],[105,115],[98,121],[110,111,116],[97,110,100],[111,114]]
noncomputable def ZfA(cs:List Nat):Bool:=six.any λa=>a==cs
noncomputable def Qh(cs:List Nat):Bool:=decide (1<=cs.length)&&decide (cs.length<=8)&&!ZfA cs&&cs.all λc=>decide (c∈lett)
theorem Zky{n:Nat}{cs:List Nat}{m:Mem}(hl:cs.length<=lim):ev (cf n) gv Zan [some (.t (.str cs))] m=.ok (.t (.lst (cs.map λc=>.bl (decide (c∈lett))))) m:=by
 have h:=Z0 (f:=Qj (cf n) gv .nil Jh) (tg:=.nm 0) (env:=[none]) (m:=m)
  (g:=λt=>match t with|.str [c]=>[.bl (decide (c∈lett))]|_=>[]) (cs.map λc=>.str [c]) (λt ht=>by
   obtain⟨c,_,rfl⟩:=YK.mp ht
   exact⟨[some (.t (.str [c]))],rfl,by simp[Qj,tests,Jh,ev,Res.bind,view,pur,Zj1,cmpT,Zei,ltT,inT,ZfS,frz,lett]⟩)
 have e:(cs.map λc=>T.str [c]).flatMap (λt=>match t with|.str [c]=>[T.bl (decide (c∈lett))]|_=>[])=cs.map λc=>.bl (decide (c∈lett)):=by
  rw[Vz]
  exact Qa _ _
 rw[e]at h
 exact ZL (x:=.t (.str cs)) (m0:=m) (by simp[ev]) (by simp[Z5,ZgO,hl]) h (by simpa using hl)
theorem Zl6(cs:List Nat):hasT (.str cs) (.tup [.str [97,110,121],.str [105,115],.str [98,121],.str [110,111,116],.str [97,110,100],.str [111,114]])=some (ZfA cs):=by
 simp[hasT,flat,eqT,six,ZfA]
noncomputable def Zbe(cs:List Nat):Bool:=decide (1<=cs.length)&&!ZfA cs&&cs.all λc=>decide (c∈lett)
theorem ZeL{n:Nat}{m:Mem}{cs:List Nat}(hl:cs.length<=lim):cf (n+1) 0 [.t (.str cs)] m=.ok (.t (.bl (Zbe cs))) m:=by
 have e:ex (cf n) gv Qx [some (.t (.str cs))] m=.ok (.ret (.t (.bl (Zbe cs)))) m:=by
  unfold Qx
  refine Zf ?_
  by_cases h1:0<cs.length
  ·have h1':(0:Int)<cs.length:=by omega
   have h1'':(decide (1<=cs.length))=true:=decide_eq_true h1
   have hin:cmpT .NotIn (.str cs) (.tup [.str [97,110,121],.str [105,115],.str [98,121],.str [110,111,116],.str [97,110,100],.str [111,114]])=some (!ZfA cs):=by
    rcases cs with _|⟨c,_|⟨d,r⟩⟩<;>simp[cmpT,Zei,ltT,inT,Zl6]
   cases h6:ZfA cs
   ·simp only[Zbe,h1'',h6]
    simp[ev,evs,isT,Zj,EVs,ZjS hl,h1,h1',hin,h6,ZbT,Zky hl,ZjU (Jz _ cs)]
   ·simp[ev,evs,isT,Zj,EVs,ZjS hl,h1,h1',hin,h6,ZbT,Zbe]
  ·have h1':¬(0:Int)<cs.length:=by omega
   have h1'':(decide (1<=cs.length))=false:=decide_eq_false h1
   simp only[Zbe,h1'']
   simp[ev,evs,isT,Zj,EVs,ZjS hl,h1,h1']
 exact Zv (ZdP _ _ _) rfl e (Zi (cell:=false) rfl)
theorem ZhT{n:Nat}{m:Mem}{cs:List Nat}(hl:cs.length<=lim):cf (n+2) 1 [.t (.str cs)] m=.ok (.t (.bl (Qh cs))) m:=by
 have e:ex (cf (n+1)) gv JK [some (.t (.str cs))] m=.ok (.ret (.t (.bl (Qh cs)))) m:=by
  unfold JK
  refine Zf ?_
  by_cases h8:cs.length<=8
  ·have h8':(cs.length:Int)<=8:=by omega
   have hw:Qh cs=Zbe cs:=by simp[Qh,Zbe,h8]
   simp[ev,evs,isT,Zj,EVs,ZjS hl,h8',ZaD,ZeL (n:=n) hl,hw]
  ·have h8':¬(cs.length:Int)<=8:=by omega
   simp[ev,evs,isT,Zj,EVs,ZjS hl,h8',ZaD,Qh,h8]
 exact Zv (ZeS _ _ _) rfl e (Zi (cell:=false) rfl)
theorem ZjW{n:Nat}{m:Mem}{x:T}(h:isT x .str=false):cf (n+2) 1 [.t x] m=.ok (.t (.bl false)) m:=by
 have e:ex (cf (n+1)) gv JK [some (.t x)] m=.ok (.ret (.t (.bl false))) m:=by
  unfold JK
  refine Zf ?_
  cases x with
  |str cs=>cases h
  |_=>simp[ev,evs,isT,Zj,EVs]
 exact Zv (ZeS _ _ _) rfl e (Zi (cell:=false) rfl)
theorem Zo8(cs:List Nat):((cs.map λc=>[c]).map YW).sum=cs.length:=by
 induction cs with
 |nil=>rfl
 |cons c cs ih=>rw[Yz,Yz,Gd,ih];simp;omega
noncomputable def fitL:T->Prop:=λt=>∀cs,t=.str cs->cs.length<=lim
noncomputable def oneOf(x:T)(ws:List (List Nat)):Bool:=match x with
 |.str cs=>ws.any λa=>a==cs
 |_=>false
theorem Zds{n:Nat}{m:Mem}{x:T}{ws:List (List Nat)}:cf (n+1) 10 [.t x,.t (.tup (ws.map .str))] m=.ok (.t (.bl (oneOf x ws))) m:=by
 have hh:∀cs,cmpT .In (.str cs) (.tup (ws.map .str))=some (ws.any λa=>a==cs):=λcs=>by
  have h1:hasT (.str cs) (.tup (ws.map .str))=some (ws.any λa=>a==cs):=by
   have ha:∀ws:List (List Nat),(ws.map T.str).all flat=true:=λws=>by simp[flat]
   have hb:∀ws:List (List Nat),((ws.map T.str).any λt=>eqT t (.str cs))=ws.any λa=>a==cs:=λws=>by
    induction ws with
    |nil=>rfl
    |cons w ws ih=>simp[eqT]at ih ⊢;rw[ih]
   unfold hasT
   dsimp only
   rw[ha,hb]
   rfl
  rw[<-h1]
  cases cs with
  |nil=>rfl
  |cons c r=>cases r<;>rfl
 rw[Zg8]
 cases x with
 |str cs=>simp[Zaj,ex,ev,evs,isT,Zj,EVs,hh,oneOf,fin]
 |_=>exact Zv rfl rfl rfl (Zi (cell:=false) rfl)
noncomputable def Jq:T->Bool
 |.str cs=>Qh cs
 |_=>false
theorem Jp{n:Nat}{m:Mem}{x:T}(h:fitL x):cf (n+2) 1 [.t x] m=.ok (.t (.bl (Jq x))) m:=by
 cases x with
 |str cs=>exact ZhT (h cs rfl)
 |_=>exact ZjW rfl
noncomputable def J4:T->Bool
 |.tup [a]=>oneOf a [[97,110,121]]
 |.tup [a,b]=>oneOf a [[105,115],[98,121]]&&Jq b
 |.tup [a,b,c]=>oneOf a [[108,101,97,115,116],[109,111,115,116]]&&Jq b&&numB c
 |_=>false
noncomputable def fit1:T->Prop
 |.tup ts=>∀t∈ts,fitL t
 |_=>True
theorem one1{n:Nat}{m:Mem}{x:T}{w:List Nat}:cf (n+1) 10 [.t x,.t (.tup [.str w])] m=.ok (.t (.bl (oneOf x [w]))) m:=Zds (ws:=[w])
theorem one2{n:Nat}{m:Mem}{x:T}{w v:List Nat}:cf (n+1) 10 [.t x,.t (.tup [.str w,.str v])] m=.ok (.t (.bl (oneOf x [w,v]))) m:=Zds (ws:=[w,v])
theorem at2{α:Type}(a b c:α)(r:List α):atT (a::b::c::r) 2=some c:=by
 have:(2:Int)<(r.length:Int)+1+1+1:=by omega
 simp[atT,ixOf,this]
theorem ZnB{n:Nat}{m:Mem}{x:T}(h:fit1 x):cf (n+3) 11 [.t x] m=.ok (.t (.bl (J4 x))) m:=by
 have key:ex (cf (n+2)) gv Qn [some (.t x)] m=.ok (.ret (.t (.bl (J4 x)))) m:=by
  unfold Qn
  cases x with
  |tup ts =>
   rw[Zq (m1:=m) rfl]
   match ts,h with
   |[],_ =>
    rw[Zq (m1:=m) rfl,Zq (m1:=m) rfl,Zq (m1:=m) rfl]
    exact Zf rfl
   |[a],_ =>
    exact Zw (m1:=m) rfl (Zf (by simp[ev,evs,isT,Zj,EVs,at0,one1 (n:=n+1),lim,J4]))
   |[a,b],h =>
    rw[Zq (m1:=m) rfl]
    have hb:=Jp (n:=n) (m:=m) (x:=b) (h b (by simp))
    refine Zw (m1:=m) rfl (Zf ?_)
    cases ho:oneOf a [[105,115],[98,121]]<;>simp[ev,evs,isT,Zj,EVs,at0,at1,one2 (n:=n+1),lim,J4,ho,hb]
   |[a,b,c],h =>
    rw[Zq (m1:=m) rfl,Zq (m1:=m) rfl]
    have hb:=Jp (n:=n) (m:=m) (x:=b) (h b (by simp))
    have hc:=J6 (n:=n) (m:=m) (x:=c)
    refine Zw (m1:=m) rfl (Zf ?_)
    cases ho:oneOf a [[108,101,97,115,116],[109,111,115,116]]<;>cases hw:Jq b<;>simp[ev,evs,isT,Zj,EVs,at0,at1,at2,one2 (n:=n+1),lim,J4,ho,hb,hw,hc]
   |a::b::c::d::r,_ =>
    have h1:¬(r.length:Int)+1+1+1+1=1:=by omega
    have h2:¬(r.length:Int)+1+1+1+1=2:=by omega
    have h3:¬(r.length:Int)+1+1+1+1=3:=by omega
    rw[Zq (m1:=m) (by simp[ev,evs,isT,Zj,EVs,h1]),Zq (m1:=m) (by simp[ev,evs,isT,Zj,EVs,h2]),Zq (m1:=m) (by simp[ev,evs,isT,Zj,EVs,h3])]
    exact Zf rfl
  |_=>exact Zw (m1:=m) rfl (Zf rfl)
 exact Zv (ZcQ _ _ _) rfl key (Zi (cell:=false) rfl)
noncomputable def Zbf:T->Bool
 |.tup ts=>decide (2<=ts.length)&&decide (ts.length<=6)
 |_=>false
theorem ZgM{n:Nat}{m:Mem}{x:T}:cf (n+1) 12 [.t x] m=.ok (.t (.bl (Zbf x))) m:=by
 rw[ZfO]
 cases x with
 |tup ts =>
  by_cases h:2<=ts.length
  ·have h':(2:Int)<=ts.length:=by omega
   simp[Jf,ex,ev,evs,isT,Zj,EVs,Zam,Za6,h',Zbf,h,fin]
   omega
  ·have h':¬(2:Int)<=ts.length:=by omega
   simp[Jf,ex,ev,evs,isT,Zj,EVs,Zam,Za6,h',Zbf,h,fin]
 |_=>exact Zv rfl rfl rfl (Zi (cell:=false) rfl)
noncomputable def kids:T->List T
 |.tup [a,b]=>if oneOf a [[110,111,116]]then[b]else if oneOf a [[97,110,100],[111,114]]&&Zbf b then(match b with
  |.tup ts=>ts
  |_=>[])else[]
 |_=>[]
theorem Zf0{n:Nat}{m:Mem}{x:T}:cf (n+2) 13 [.t x] m=.ok (.t (.tup (kids x))) m:=by
 have key:ex (cf (n+1)) gv JB [some (.t x)] m=.ok (.ret (.t (.tup (kids x)))) m:=by
  unfold JB
  cases x with
  |tup ts =>
   match ts with
   |[]=>exact Zw (m1:=m) rfl (Zf rfl)
   |[a]=>exact Zw (m1:=m) rfl (Zf rfl)
   |[a,b] =>
    rw[Zq (m1:=m) rfl]
    cases hn:oneOf a [[110,111,116]]with
    |true=>exact Zw (m1:=m) (by simp[ev,evs,isT,Zj,EVs,at0,one1 (n:=n),lim,hn]) (Zf (by simp[ev,evs,isT,Zj,EVs,at1,lim,kids,hn]))
    |false =>
     rw[Zq (m1:=m) (by simp[ev,evs,isT,Zj,EVs,at0,one1 (n:=n),lim,hn])]
     cases ho:oneOf a [[97,110,100],[111,114]]with
     |false =>
      rw[Zq (m1:=m) (by simp[ev,evs,isT,Zj,EVs,at0,one2 (n:=n),lim,ho])]
      exact Zf (by simp[ev,evs,isT,Zj,EVs,lim,kids,hn,ho])
     |true =>
      cases hj:Zbf b with
      |false =>
       rw[Zq (m1:=m) (by simp[ev,evs,isT,Zj,EVs,at0,at1,one2 (n:=n),lim,ho,ZgM (n:=n),hj])]
       exact Zf (by simp[ev,evs,isT,Zj,EVs,lim,kids,hn,ho,hj])
      |true =>
       refine Zw (m1:=m) (by simp[ev,evs,isT,Zj,EVs,at0,at1,one2 (n:=n),lim,ho,ZgM (n:=n),hj]) (Zf ?_)
       cases b with
       |tup ts=>simp[ev,evs,isT,Zj,EVs,at1,kids,hn,ho,hj]
       |_=>cases hj
   |a::b::c::r =>
    have h1:¬(r.length:Int)+1+1+1=2:=by omega
    exact Zw (m1:=m) (by simp[ev,evs,isT,Zj,EVs,h1]) (Zf rfl)
  |_=>exact Zw (m1:=m) rfl (Zf rfl)
 exact Zv (Zg2 _ _ _) rfl key (Zi (cell:=false) rfl)
noncomputable def JS(x:T):Bool:=J4 x || decide (0<(kids x).length)
theorem Zqn{n:Nat}{m:Mem}{x:T}(h:fit1 x):cf (n+4) 14 [.t x] m=.ok (.t (.bl (JS x))) m:=by
 have key:ex (cf (n+3)) gv Xq [some (.t x)] m=.ok (.ret (.t (.bl (JS x)))) m:=by
  unfold Xq
  refine Zf ?_
  cases hp:J4 x<;>simp[ev,evs,isT,Zj,EVs,ZnB (n:=n) h,hp,Zf0 (n:=n+1),JS]
 exact Zv (Zic _ _ _) rfl key (Zi (cell:=false) rfl)
theorem Zqc(x:T):(kids x).length<=6:=by
 unfold kids
 split
 ·rename_i a b
  split
  ·simp
  ·split
   ·rename_i h
    rw[Yg]at h
    cases b with
    |tup ts =>
     have:=h.2
     unfold Zbf at this
     simp at this
     exact this.2
    |_=>simp
   ·simp
 ·simp
theorem Zj4{n:Nat}{m:Mem}{l:List T}{e0 e2 e3:Option W}(hf:∀x∈l,fit1 x)(hl:l.length<=lim):ev (cf (n+4)) gv ZdT [e0,some (.t (.lst l)),e2,e3] m=.ok (.t (.lst (l.map λx=>.bl (JS x)))) m:=by
 have h:=Z0 (f:=Qj (cf (n+4)) gv .nil Zbh) (tg:=.nm 0) (env:=[none]) (m:=m) (g:=λx=>[.bl (JS x)]) l (λt ht=>⟨[some (.t t)],rfl,by simp[Qj,tests,Zbh,ev,evs,isT,Zj,EVs,Zqn (n:=n) (hf t ht)]⟩)
 rw[Qa]at h
 exact ZL (x:=.t (.lst l)) (m0:=m) rfl rfl h (by simpa using hl)
theorem ZlR{n:Nat}{m:Mem}{x:T}:Qj (cf (n+4)) gv .nil Q4 [some (.t x),none] m=.ok (kids x) m:=by
 have h:=Z0 (f:=Qj (cf (n+4)) gv .nil (.emit (.var 1))) (tg:=.nm 1) (env:=[some (.t x),none]) (m:=m) (g:=λy=>[y]) (kids x) (λt ht=>⟨[some (.t x),some (.t t)],rfl,by simp[Qj,tests,ev,evs,isT,Zj,EVs]⟩)
 rw[Qa,Vv]at h
 have e:ev (cf (n+4)) gv Q4 [some (.t x),none] m=.ok (.t (.lst (kids x))) m:=by
  have e1:ev (cf (n+4)) gv Q4 [some (.t x),none] m=(ev (cf (n+4)) gv (.call 13 (.cons (.var 0) .nil)) [some (.t x),none] m).bind λy m0=>(Z5 y m0).bind λts m =>
    (Jg (Qj (cf (n+4)) gv .nil (.emit (.var 1))) (.nm 1) ts [some (.t x),none] m).bind λout m=>.ok (.t (.lst out)) (giveBack y m0 m):=by
   unfold Q4
   rw[ev]
   rfl
  rw[e1]
  have e2:ev (cf (n+4)) gv (.call 13 (.cons (.var 0) .nil)) [some (.t x),none] m=.ok (.t (.tup (kids x))) m:=by simp[ev,evs,isT,Zj,EVs,Zf0 (n:=n+2)]
  rw[e2]
  show(Jg (Qj (cf (n+4)) gv .nil (.emit (.var 1))) (.nm 1) (kids x) [some (.t x),none] m).bind _=_
  rw[h]
  rfl
 unfold Qj
 simp[tests,Ze,e,ZmJ]
theorem ZlS{n:Nat}{m:Mem}{l:List T}{e0 e2 e3:Option W}(hl:(l.flatMap kids).length<=lim):ev (cf (n+4)) gv ZdU [e0,some (.t (.lst l)),e2,e3] m=.ok (.t (.lst (l.flatMap kids))) m:=by
 have h:=Z0 (f:=Qj (cf (n+4)) gv .nil Q4) (tg:=.nm 0) (env:=[none,none]) (m:=m) (g:=kids) l (λt ht=>⟨[some (.t t),none],rfl,ZlR⟩)
 exact ZL (x:=.t (.lst l)) (m0:=m) rfl rfl h hl
noncomputable def lay:Nat->List T->List T
 |0,l=>l
 |k+1,l=>lay k (l.flatMap kids)
noncomputable def run:Nat->Nat->List T->Option (List T)
 |0,_,l=>some l
 |k+1,p,l=>if 40<p+l.length∨l.all JS=false then none else run k (p+l.length) (l.flatMap kids)
theorem Zob(l:List T):(l.flatMap kids).length<=6*l.length:=by
 induction l with
 |nil=>simp
 |cons x l ih =>
  have:=Zqc x
  rw[Gy,Yi,Yq]
  omega
theorem ZmF(l:List T):((l.map JS).all id)=l.all JS:=by rw[Gs];rfl
theorem layers{n:Nat}{m:Mem}{x:Option W}:∀(ts:List T) (l:List T) (p:Nat) (d:Option W),(∀k,∀y∈lay k l,fit1 y)->l.length<=lim->match run ts.length p l with
  |none=>Q3 (ex (cf (n+4)) gv ZG) (.nm 3) ts [x,some (.t (.lst l)),some (.t (.int p)),d] m=.ok (.ret (.t (.bl false))) m
  |some l'=>∃p' d',Q3 (ex (cf (n+4)) gv ZG) (.nm 3) ts [x,some (.t (.lst l)),some (.t (.int p)),d] m=.ok (.next [x,some (.t (.lst l')),p',d']) m
 |[],l,p,d,_,_=>⟨_,_,rfl⟩
 |t::ts,l,p,d,hf,hl=>by
  have hd:Qs (.nm 3) t [x,some (.t (.lst l)),some (.t (.int p)),d]=some [x,some (.t (.lst l)),some (.t (.int p)),some (.t t)]:=rfl
  have hfo:=Zj4 (n:=n) (m:=m) (l:=l) (e0:=x) (e2:=some (.t (.int ((p:Int)+l.length)))) (e3:=some (.t t)) (λy hy=>hf 0 y hy) hl
  have ha:=ZjU (Jz JS l)
  rw[ZmF]at ha
  have haug:∀k,ex (cf (n+4)) gv (.aug 2 .Add (.blt .len (.cons (.var 1) .nil)) k) [x,some (.t (.lst l)),some (.t (.int p)),some (.t t)] m=ex (cf (n+4)) gv k [x,some (.t (.lst l)),some (.t (.int ((p:Int)+l.length))),some (.t t)] m:=λk=>by
   rw[ex]
   simp[ev,evs,isT,Zj,EVs,augT]
  rw[Yq,run]
  by_cases hc:40<p+l.length∨l.all JS=false
  ·rw[if_pos hc]
   show Q3 _ _ _ _ _=_
   rw[Q3,hd]
   show(ex (cf (n+4)) gv ZG [x,some (.t (.lst l)),some (.t (.int p)),some (.t t)] m).bind _=_
   have e:ex (cf (n+4)) gv ZG [x,some (.t (.lst l)),some (.t (.int p)),some (.t t)] m=.ok (.ret (.t (.bl false))) m:=by
    unfold ZG
    rw[haug]
    refine Zw (m1:=m) ?_ (Zf rfl)
    by_cases h4:40<p+l.length
    ·have h4':(40:Int)<(p:Int)+l.length:=by omega
     simp[ev,evs,isT,Zj,EVs,Zab,h4']
    ·have h4':¬(40:Int)<(p:Int)+l.length:=by omega
     have hal:l.all JS=false:=by
      rcases hc with h|h
      ·exact absurd h h4
      ·exact h
     rw[hal]at ha
     simp[ev,evs,isT,Zj,EVs,Zab,h4',hfo,ha]
   rw[e]
   rfl
  ·rw[if_neg hc]
   have h4:¬40<p+l.length:=λh=>hc (.inl h)
   have hal:l.all JS=true:=by
    cases h:l.all JS with
    |true=>rfl
    |false=>exact absurd (.inr h) hc
   have hfl:=Zob l
   have hl2:(l.flatMap kids).length<=lim:=by unfold lim;omega
   have hk:=ZlS (n:=n) (m:=m) (e0:=x) (e2:=some (.t (.int ((p:Int)+l.length)))) (e3:=some (.t t)) hl2
   have e:ex (cf (n+4)) gv ZG [x,some (.t (.lst l)),some (.t (.int p)),some (.t t)] m=.ok (.next [x,some (.t (.lst (l.flatMap kids))),some (.t (.int ((p+l.length:Nat):Int))),some (.t t)]) m:=by
    unfold ZG
    rw[haug]
    have h4':¬(40:Int)<(p:Int)+l.length:=by omega
    rw[hal]at ha
    rw[Zq (m1:=m) (by simp[ev,evs,isT,Zj,EVs,Zab,h4',hfo,ha])]
    rw[Zn hk]
    rw[ex]
    simp
   have ih:=layers (n:=n) (m:=m) (x:=x) ts (l.flatMap kids) (p+l.length) (some (.t t)) (λk y hy=>hf (k+1) y hy) hl2
   have step:Q3 (ex (cf (n+4)) gv ZG) (.nm 3) (t::ts) [x,some (.t (.lst l)),some (.t (.int p)),d] m=Q3 (ex (cf (n+4)) gv ZG) (.nm 3) ts [x,some (.t (.lst (l.flatMap kids))),some (.t (.int ((p+l.length:Nat):Int))),some (.t t)] m:=by
    rw[Q3,hd]
    show(ex (cf (n+4)) gv ZG [x,some (.t (.lst l)),some (.t (.int p)),some (.t t)] m).bind _=_
    rw[e]
    rfl
   rw[step]
   exact ih
noncomputable def Zaz(x:T):Bool:=match run 6 0 [x]with
 |none=>false
 |some l=>l.isEmpty
theorem ZeK{n:Nat}{m:Mem}{x:T}(hf:∀k,∀y∈lay k [x],fit1 y):cf (n+5) 15 [.t x] m=.ok (.t (.bl (Zaz x))) m:=by
 have key:ex (cf (n+4)) gv ZaN [some (.t x),none,none,none] m=.ok (.ret (.t (.bl (Zaz x)))) m:=by
  unfold ZaN
  rw[Zn (w:=.t (.lst [x])) (m1:=m) rfl]
  rw[Zn (w:=.t (.int 0)) (m1:=m) rfl]
  simp only[Yk,Yl]
  have hit:ev (cf (n+4)) gv (.blt .range1 (.cons (.gl 6) .nil)) [some (.t x),some (.t (.lst [x])),some (.t (.int 0)),none] m=.ok (.t (.lst (rangeT 0 6))) m:=by
   simp[ev,evs,isT,Zj,EVs,Zj3,ZjT (show(6:Int)<2^62/\-(2^62)<=(6:Int) by decide)]
  have h:=layers (n:=n) (m:=m) (x:=some (.t x)) (rangeT 0 6) [x] 0 none hf (by show 1<=lim;decide)
  have hr:(rangeT 0 6).length=6:=rfl
  rw[hr]at h
  unfold Zaz
  cases q:run 6 0 [x]with
  |none =>
   rw[q]at h
   have h:Q3 (ex (cf (n+4)) gv ZG) (.nm 3) (rangeT 0 6) [some (.t x),some (.t (.lst [x])),some (.t (.int 0)),none] m=.ok (.ret (.t (.bl false))) m:=h
   rw[ex,hit]
   show(Q3 (ex (cf (n+4)) gv ZG) (.nm 3) (rangeT 0 6) [some (.t x),some (.t (.lst [x])),some (.t (.int 0)),none] m).bind _=_
   rw[h]
   rfl
  |some l' =>
   rw[q]at h
   obtain⟨p',d',h⟩:=h
   have h:Q3 (ex (cf (n+4)) gv ZG) (.nm 3) (rangeT 0 6) [some (.t x),some (.t (.lst [x])),some (.t (.int 0)),none] m=.ok (.next [some (.t x),some (.t (.lst l')),p',d']) m:=h
   rw[ZcX hit rfl h]
   refine Zf ?_
   cases l'<;>simp[ev,evs,isT,Zj,EVs,giveBack]
   omega
 exact Zv (Zkh _ _ _) rfl key (Zi (cell:=false) rfl)
theorem ZlN:∀k:Nat,lay k []=[]
 |0=>rfl
 |k+1=>ZlN k
noncomputable def tot:Nat->List T->Nat
 |0,_=>0
 |d+1,l=>l.length+tot d (l.flatMap kids)
theorem Zca:∀(d:Nat) (a b:List T),tot d (a++b)=tot d a+tot d b
 |0,_,_=>rfl
 |d+1,a,b=>by
  rw[tot,tot,tot,List.flatMap_append,Zca d,Yi]
  omega
theorem Xw:∀d:Nat,tot d []=0
 |0=>rfl
 |d+1=>by rw[tot];simpa using Xw d
theorem ZeT(d:Nat):∀l:List T,tot d l=(l.map λx=>tot d [x]).sum
 |[]=>by rw[Xw];rfl
 |x::l=>by rw[show x::l=[x]++l from rfl,Zca,ZeT d l];simp
theorem J9(d:Nat)(x:T):tot (d+1) [x]=1+tot d (kids x):=by
 rw[tot]
 simp
theorem Zit:∀(k p:Nat) (l:List T),p+tot k l<=40->(∀i<k,∀y∈lay i l,JS y=true)->run k p l=some (lay k l)
 |0,p,l,_,_=>rfl
 |k+1,p,l,hp,hf=>by
  rw[tot]at hp
  rw[run,if_neg,lay]
  ·exact Zit k (p+l.length) _ (by omega) λi hi y hy=>hf (i+1) (by omega) y hy
  ·rintro (h|h)
   ·omega
   ·have:l.all JS=true:=Yr.mpr λy hy=>hf 0 (by omega) y hy
    rw[this]at h
    cases h
noncomputable def Bad(k:Nat)(x:T):Prop:=(∃i,i<k/\∃y∈lay i [x],JS y=false)∨lay k [x]≠[]
noncomputable def NB(x:T):Prop:=JS x=false∨∃y∈kids x,JS y=false
noncomputable def Fit(x:T):Prop:=∀k,∀y∈lay k [x],fit1 y
inductive WT:Nat->T->Prop where
 |leaf {d:Nat}{t:T}:J4 t=true->kids t=[]->fit1 t->WT (d+1) t
 |nt {d:Nat}{a:T}:WT d a->WT (d+1) (.tup [.str [110,111,116],a])
 |jn {d:Nat}{w:List Nat}{ts:List T}:(w=[97,110,100]∨w=[111,114])->2<=ts.length->ts.length<=6->(∀t∈ts,WT d t)->WT (d+1) (.tup [.str w,.tup ts])
theorem Za0(a:T):kids (.tup [.str [110,111,116],a])=[a]:=by simp[kids,oneOf]
theorem Zcm{w:List Nat}{ts:List T}(hw:w=[97,110,100]∨w=[111,114])(h2:2<=ts.length)(h6:ts.length<=6):kids (.tup [.str w,.tup ts])=ts:=by
 rcases hw with rfl|rfl<;>simp[kids,oneOf,Zbf,h2,h6]
theorem WT.form{d:Nat}{t:T}(h:WT d t):JS t=true:=by
 cases h with
 |leaf h1 _ _=>simp[JS,h1]
 |nt _=>simp[JS,Za0]
 |jn hw h2 h6 _ =>
  unfold JS
  rw[Zcm hw h2 h6]
  have:0<YW _:=YD (by decide:0<2) h2
  rw[decide_eq_true this,YaU]
theorem WT.kid{d:Nat}{t:T}(h:WT (d+1) t):∀y∈kids t,WT d y:=by
 intro y hy
 cases h with
 |leaf _ h2 _=>rw[h2]at hy;cases hy
 |nt h =>
  rw[Za0,YX]at hy
  subst hy
  exact h
 |jn hw h2 h6 h=>rw[Zcm hw h2 h6]at hy;exact h y hy
theorem WT.layer:∀{d:Nat}(i:Nat) {l:List T},(∀t∈l,WT d t)->∀y∈lay i l,i<d/\WT (d-i) y
 |d,0,l,h,y,hy=>by
  have:=h y hy
  cases d with
  |zero=>cases this
  |succ d=>exact⟨by omega,this⟩
 |0,i+1,l,h,y,hy=>by
  cases l with
  |nil=>rw[ZlN]at hy;cases hy
  |cons a l=>cases h a Yv
 |d+1,i+1,l,h,y,hy=>by
  have:=WT.layer (d:=d) i (l:=l.flatMap kids) (λt ht=>by
   obtain⟨x,hx,hk⟩:=VB.mp ht
   exact(h x hx).kid t hk) y hy
  exact⟨by omega,by rw[show d+1-(i+1)=d-i by omega];exact this.2⟩
theorem WT.notStr{d:Nat}{t:T}(h:WT d t)(cs:List Nat):t≠.str cs:=by
 rintro rfl
 cases h with
 |leaf h1 _ _=>cases h1
theorem WT.fit1{d:Nat}{t:T}(h:WT d t):fit1 t:=by
 cases h with
 |leaf _ _ h3=>exact h3
 |nt h =>
  intro t ht cs e
  rcases Ym.mp ht with rfl|ht
  ·cases e;decide
  ·rw[YX]at ht
   subst ht
   exact absurd e (h.notStr cs)
 |jn hw _ _ _ =>
  intro t ht cs e
  subst e
  simp at ht
  subst ht
  rcases hw with rfl|rfl<;>decide
theorem WT.fit{d:Nat}{t:T}(h:WT d t):Fit t:=λk y hy=>((WT.layer (d:=d) k (l:=[t]) (λx hx=>by rw[YX]at hx;subst hx;exact h) y hy).2).fit1
theorem Zih{d:Nat}{t:T}(h:WT d t)(hd:d<=6)(hp:tot 6 [t]<=40):Zaz t=true:=by
 have hl:∀x∈[t],WT d x:=λx hx=>by rw[YX]at hx;subst hx;exact h
 have h6:lay 6 [t]=[]:=by
  cases q:lay 6 [t]with
  |nil=>rfl
  |cons a b =>
   have:=(WT.layer 6 hl a (by rw[q];exact Yv)).1
   omega
 have:=Zit 6 0 [t] (by omega) λi hi y hy=>((WT.layer i hl y hy).2).form
 unfold Zaz
 rw[this,h6]
 rfl
theorem ZgQ(w a b:List Nat):cmpT .In (.str w) (.tup [.str a,.str b])=some (a==w || b==w):=by
 have h:hasT (.str w) (.tup [.str a,.str b])=some (a==w || b==w):=by simp[hasT,flat,eqT]
 rw[<-h]
 cases w with
 |nil=>rfl
 |cons c r=>cases r<;>rfl
noncomputable def wl(ws:List (List Nat)):T:=.lst (ws.map .str)
noncomputable def wat(ws:List (List Nat))(i:Nat):List Nat:=(ws[i]?).getD []
theorem Zda{pre mid post:List (List Nat)}{j i:Nat}(h:j<mid.length)(e:i=pre.length+j:=by omega):wat (pre++mid++post) i=wat mid j:=by
 subst e
 unfold wat
 rw[Wj,YG (by omega),YC (by omega),show pre.length+j-pre.length=j by omega]
theorem ZkA{pre mid post:List (List Nat)}{i:Nat}(e:i=pre.length+mid.length:=by omega):wat (pre++mid++post) i=wat post 0:=by
 subst e
 unfold wat
 rw[YG (by simp),Yi,Gu]
theorem Qo{n:Nat}{m:Mem}{ws:List (List Nat)}{k:Int}{i:Nat}(hk:k=(i:Int)):cf (n+1) 21 [.t (wl ws),.t (.int k)] m=.ok (.t (.str (wat ws i))) m:=by
 subst hk
 have key:ex (cf n) gv ZaJ [some (.t (wl ws)),some (.t (.int i))] m=.ok (.ret (.t (.str (wat ws i)))) m:=by
  unfold ZaJ
  have hc:ev (cf n) gv (.cmp .Lt (.var 1) (.blt .len (.cons (.var 0) .nil))) [some (.t (wl ws)),some (.t (.int i))] m=.ok (.t (.bl (decide (i<ws.length)))) m:=by
   refine(Zu (Za rfl) (Zy (Za rfl) (ZlP _)) (c_lt _ _)).trans ?_
   rw[Yc]
   congr 3
   exact decide_eq_decide.mpr (by omega)
  by_cases h:i<ws.length
  ·rw[decide_eq_true h]at hc
   refine Zw hc (Zf (Ql (Za rfl) (Za rfl) ?_))
   show atT (ws.map T.str) (i:Int)=_
   rw[ZoX (by omega) (by rw[Yc];omega)]
   simp[wat,h]
  ·rw[decide_eq_false h]at hc
   rw[Zq hc]
   refine Zf ?_
   rw[show wat ws i=[] by simp[wat,UJ (Yby.mp h)]]
   exact Zb _
 exact Zv (Zkd _ _ _) rfl key (Zi (cell:=false) rfl)
theorem ZeF{n:Nat}{m:Mem}{ws:List (List Nat)}{k:Int}{i:Nat}(hk:k=(i:Int))(hl:(wat ws i).length<=lim)(hw:Zbe (wat ws i)=true):cf (n+2) 22 [.t (wl ws),.t (.int k)] m=.ok (.t (.str (wat ws i))) m:=by
 have key:ex (cf (n+1)) gv ZaM [some (.t (wl ws)),some (.t (.int k)),none] m=.ok (.ret (.t (.str (wat ws i)))) m:=by
  unfold ZaM
  rw[Zn ((Zh (Za rfl) (Za rfl)).trans (Qo hk))]
  dsimp only[Yk,Yl]
  have hi:=ZeL (n:=n) (m:=m) hl
  rw[hw]at hi
  rw[Zq (Z4 (k:=true) ((Zr (Za rfl)).trans hi))]
  exact Zf (Za rfl)
 exact Zv (Zkg _ _ _) rfl key (Zi (cell:=false) rfl)
noncomputable def digs:List Nat:=[48,49,50,51,52,53,54,55,56,57]
noncomputable def figB(cs:List Nat):Bool:=decide (1<=cs.length)&&decide (cs.length<=10)&&(cs.all λc=>decide (c∈digs))&&(cs==[48] || cs.head? != some 48)
theorem Zoh{n:Nat}{cs:List Nat}{m:Mem}(hl:cs.length<=lim):ev (cf n) gv QT [some (.t (.str cs))] m=.ok (.t (.lst (cs.map λc=>.bl (decide (c∈digs))))) m:=by
 have h:=Z0 (f:=Qj (cf n) gv .nil J7) (tg:=.nm 0) (env:=[none]) (m:=m)
  (g:=λt=>match t with|.str [c]=>[.bl (decide (c∈digs))]|_=>[]) (cs.map λc=>.str [c]) (λt ht=>by
   obtain⟨c,_,rfl⟩:=YK.mp ht
   exact⟨[some (.t (.str [c]))],rfl,Zdc (Jx (Zu (Za rfl) (ZcP Zj2) (c_in1 _ _)))⟩)
 have e:(cs.map λc=>T.str [c]).flatMap (λt=>match t with|.str [c]=>[T.bl (decide (c∈digs))]|_=>[])=cs.map λc=>.bl (decide (c∈digs)):=by
  clear h hl
  induction cs with
  |nil=>rfl
  |cons c cs ih=>rw[Yz,Gy,ih];rfl
 rw[e]at h
 have hb:Z5 (.t (.str cs)) m=.ok (cs.map λc=>.str [c]) m:=by simp[Z5,ZgO,hl]
 exact ZL (x:=.t (.str cs)) (m0:=m) (m1:=m) (Za rfl) hb h (by rw[Yc];exact hl)
theorem Zdt{n:Nat}{m:Mem}{cs:List Nat}(hl:cs.length<=lim):cf (n+1) 20 [.t (.str cs)] m=.ok (.t (.bl (figB cs))) m:=by
 have key:ex (cf n) gv Qf [some (.t (.str cs))] m=.ok (.ret (.t (.bl (figB cs)))) m:=by
  unfold Qf
  have ha:ev (cf n) gv (.not (.blt .all (.cons QT .nil))) [some (.t (.str cs))] m=.ok (.t (.bl (!(cs.all λc=>decide (c∈digs))))) m:=by
   refine(Z4 (Zy (Zoh hl) (ZjU (Jz _ _)))).trans ?_
   rw[Gs];rfl
  have hb:ev (cf n) gv (.chn .LtE .LtE (.con (.int 1)) (.blt .len (.cons (.var 0) .nil)) (.gl 14)) [some (.t (.str cs))] m=.ok (.t (.bl (decide (1<=cs.length)&&decide (cs.length<=10)))) m:=by
   rw[ev,Zb,Ze,Zy (Za rfl) (ZjS hl),Ze]
   simp only[view,WD,c_le]
   by_cases h1:1<=cs.length
   ·rw[decide_eq_true (show(1:Int)<=(cs.length:Int) by omega)]
    dsimp only
    rw[ZcP ZdE,Ze]
    simp only[view,WD,c_le,h1,decide_true,YaC,Option.map_some,pur]
    congr 3
    exact decide_eq_decide.mpr (by omega)
   ·rw[decide_eq_false (show ¬(1:Int)<=(cs.length:Int) by omega)]
    simp[h1]
  by_cases h1:(decide (1<=cs.length)&&decide (cs.length<=10))=true
  ·rw[h1]at hb
   by_cases h2:(cs.all λc=>decide (c∈digs))=true
   ·rw[h2]at ha
    rw[Zq ((QJ (Z4 hb)).trans ha)]
    rw[Yg]at h1
    have hlen:=of_decide_eq_true h1.1
    have hf:figB cs=(cs==[48] || cs.head? != some 48):=by
     unfold figB;rw[h1.1,h1.2,h2];rfl
    rw[hf]
    cases cs with
    |nil=>simp at hlen
    |cons c r =>
     have e1:ev (cf n) gv (.cmp .Eq (.var 0) (.con (.str [48]))) [some (.t (.str (c::r)))] m=.ok (.t (.bl (c::r==[48]))) m:=Zu (Za rfl) (Zb _) (Zhf _ _)
     cases q:(c::r==[48])with
     |true =>
      rw[q]at e1
      exact Zf (ZdI e1)
     |false =>
      rw[q]at e1
      refine Zf ((QJ e1).trans (Zu (Ql (Za rfl) (Zb _) ((x_str hl _).trans (by rw[at0];rfl))) (Zb _) ?_))
      rw[ZqD]
      simp[bne]
   ·rw[Wl.mpr h2]at ha
    have hf:figB cs=false:=by unfold figB;rw[Wl.mpr h2];simp
    rw[hf]
    exact Zw ((QJ (Z4 hb)).trans ha) (Zf (Zb _))
  ·rw[Wl.mpr h1]at hb
   have hf:figB cs=false:=by unfold figB;rw[Wl.mpr h1];simp
   rw[hf]
   exact Zw (ZdI (Z4 hb)) (Zf (Zb _))
 exact Zv (Zcq _ _ _) rfl key (Zi (cell:=false) rfl)
theorem ZfF{cs:List Nat}(h:figB cs=true):bltT .int [.str cs]=some (.int (figV cs))/\cs.length<=lim:=by
 unfold figB at h
 simp only[Yg,decide_eq_true_eq,Yr]at h
 obtain⟨⟨⟨h1,h2⟩,h3⟩,_⟩:=h
 refine⟨?_,by unfold lim;omega⟩
 show(if cs≠[]/\cs.length<=600/\cs.all (λc=>decide (48<=c)&&decide (c<=57))=true then some (T.int (figV cs))else none)=_
 refine if_pos ⟨λz=>by subst z;simp at h1,by omega,Yr.mpr λc hc=>?_⟩
 have:=h3 c hc
 unfold digs at this
 rw[Yg]
 refine⟨decide_eq_true ?_,decide_eq_true ?_⟩<;>(simp at this;omega)
theorem ZgF{n:Nat}{m:Mem}{ws:List (List Nat)}{k:Int}{i:Nat}(hk:k=(i:Int))(hw:figB (wat ws i)=true):cf (n+2) 23 [.t (wl ws),.t (.int k)] m=.ok (.t (.int (figV (wat ws i)))) m:=by
 have key:ex (cf (n+1)) gv JG [some (.t (wl ws)),some (.t (.int k)),none] m=.ok (.ret (.t (.int (figV (wat ws i))))) m:=by
  unfold JG
  rw[Zn ((Zh (Za rfl) (Za rfl)).trans (Qo hk))]
  dsimp only[Yk,Yl]
  have hi:=Zdt (n:=n) (m:=m) (ZfF hw).2
  rw[hw]at hi
  rw[Zq (Z4 (k:=true) ((Zr (Za rfl)).trans hi))]
  exact Zf (Zy (Za rfl) (ZfF hw).1)
 exact Zv (Zg6 _ _ _) rfl key (Zi (cell:=false) rfl)
inductive LeafW:T->List (List Nat)->Prop where
 |any:LeafW (.tup [.str [97,110,121]]) [[97,110,121]]
 |two {w v:List Nat}:(w=[105,115]∨w=[98,121])->Zbe v=true->v.length<=lim->LeafW (.tup [.str w,.str v]) [w,v]
 |three {a w v f:List Nat}:(a=[62,61]/\w=[108,101,97,115,116]∨a=[60,61]/\w=[109,111,115,116])->Zbe v=true->v.length<=lim->figB f=true->LeafW (.tup [.str w,.str v,.int (figV f)]) [v,a,f]
theorem Zfu{v w:List Nat}(h:Zbe v=true)(hw:ZfA w=true):(v==w)=false:=by
 rw[Wl]
 intro z
 have:=eq_of_beq z
 subst this
 unfold Zbe at h
 rw[hw]at h
 simp at h
theorem Zp8{v:List Nat}(h:Zbe v=true):(v==[40])=false:=by
 rw[Wl]
 intro z
 have:=eq_of_beq z
 subst this
 revert h
 decide
theorem Zb0{call:Nat->List W->Mem->Res W}{gv:List T}{env:Env}{m m1:Mem}{k:S}{e:E}{i j:Nat}{x y:T}(h:ev call gv e env m=.ok (.t (.tup [x,y])) m1):ex call gv (.asgT [i,j] e k) env m=ex call gv k ((env.set i (some (.t x))).set j (some (.t y))) m1:=by
 rw[ex,h];rfl
theorem ZoS{call:Nat->List W->Mem->Res W}{gv:List T}{env:Env}{m m1:Mem}{e:E}{k:Nat}{x r:T}{ks:List L2.Key}{vs:List T}(h:ev call gv e env m=.ok (.t x) m1)(hk:gv[k]?=some (.dct ks vs))(hr:(keyT x).bind (Qv ks vs)=some r):ev call gv (.gdg k e) env m=.ok (.t r) m1:=by
 rw[ev,h]
 show pur (gDct gv[k]? λks vs=>(keyT x).bind (Qv ks vs)) m1=_
 rw[hk]
 show pur ((keyT x).bind (Qv ks vs)) m1=_
 rw[hr];rfl
theorem ev_gdn{call:Nat->List W->Mem->Res W}{gv:List T}{env:Env}{m m1:Mem}{e:E}{k:Nat}{neg b:Bool}{x:T}{ks:List L2.Key}{vs:List T}(h:ev call gv e env m=.ok (.t x) m1)(hk:gv[k]?=some (.dct ks vs))(hr:((keyT x).map λk=>T.bl (if neg then !(Qv ks vs k).isSome else(Qv ks vs k).isSome))=some (.bl b)):ev call gv (.gdn k neg e) env m=.ok (.t (.bl b)) m1:=by
 rw[ev,h]
 show pur (gDct gv[k]? λks vs=>(keyT x).map λk=>T.bl (if neg then !(Qv ks vs k).isSome else(Qv ks vs k).isSome)) m1=_
 rw[hk]
 show pur ((keyT x).map λk=>T.bl (if neg then !(Qv ks vs k).isSome else(Qv ks vs k).isSome)) m1=_
 rw[hr];rfl
theorem QB{call:Nat->List W->Mem->Res W}{gv:List T}{env:Env}{m:Mem}{i:Nat}{a b:Int}(h:env[i]?=some (some (.t (.int a)))):ev call gv (.bin .Add (.var i) (.con (.int b))) env m=.ok (.t (.int (a+b))) m:=Zk (Za h) (Zb _) (Zao _ _)
theorem Zfc{n:Nat}{m:Mem}{t:T}{pre mid post:List (List Nat)}(h:LeafW t mid):cf (n+3) 24 [.t (wl (pre++mid++post)),.t (.int (pre.length:Int))] m=.ok (.t (.tup [t,.int ((pre.length+mid.length:Nat):Int)])) m:=by
 have key:ex (cf (n+2)) gv Jb [some (.t (wl (pre++mid++post))),some (.t (.int (pre.length:Int))),none,none,none] m=.ok (.ret (.t (.tup [t,.int ((pre.length+mid.length:Nat):Int)]))) m:=by
  unfold Jb
  rw[Zn ((Zh (Za rfl) (Za rfl)).trans (Qo rfl))]
  dsimp only[Yk,Yl]
  have h0:wat (pre++mid++post) pre.length=wat mid 0:=Zda (j:=0) (by cases h<;>simp)
  rw[h0]
  cases h with
  |any =>
   refine Zw (m1:=m) (Zu (k:=true) (Za rfl) (Zb _) rfl) (Zf ?_)
   refine(ZZ (Zh0 (Za rfl)) (QB rfl)).trans ?_
   rfl
  |@two w v hw hv hl =>
   have h1:wat (pre++[w,v]++post) (pre.length+1)=v:=(Zda (j:=1) (by simp)).trans rfl
   have hn:=ZeF (n:=n) (m:=m) (ws:=pre++[w,v]++post) (k:=(pre.length:Int)+1) (i:=pre.length+1) (by omega) (by rw[h1];exact hl) (by rw[h1];exact hv)
   rw[h1]at hn
   have ha:(w==[97,110,121])=false:=by rcases hw with rfl|rfl<;>rfl
   rw[Zq (m1:=m) (Zu (k:=false) (Za rfl) (Zb _) (by rw[Zhf];exact congrArg some ha))]
   refine Zw (m1:=m) (Zu (k:=true) (Za rfl) (ZZ (Zb _) (Zb _)) ?_) (Zf ?_)
   ·rw[ZgQ]
    rcases hw with rfl|rfl<;>rfl
   ·refine(ZZ (ZZ (Za rfl) ((Zh (Za rfl) (QB rfl)).trans hn)) (QB rfl)).trans ?_
    rfl
  |@three a w v f hw hv hl hf =>
   have h1:wat (pre++[v,a,f]++post) pre.length=v:=h0.trans rfl
   have h2:wat (pre++[v,a,f]++post) (pre.length+1)=a:=(Zda (j:=1) (by simp)).trans rfl
   have h3:wat (pre++[v,a,f]++post) (pre.length+2)=f:=(Zda (j:=2) (by simp)).trans rfl
   have hn:=ZeF (n:=n) (m:=m) (ws:=pre++[v,a,f]++post) (k:=(pre.length:Int)) (i:=pre.length) rfl (by rw[h1];exact hl) (by rw[h1];exact hv)
   rw[h1]at hn
   have hs:=Qo (n:=n+1) (m:=m) (ws:=pre++[v,a,f]++post) (k:=(pre.length:Int)+1) (i:=pre.length+1) (by omega)
   rw[h2]at hs
   have hm:=ZgF (n:=n) (m:=m) (ws:=pre++[v,a,f]++post) (k:=(pre.length:Int)+2) (i:=pre.length+2) (by omega) (by rw[h3];exact hf)
   rw[h3]at hm
   show ex (cf (n+2)) gv _ [_,_,some (.t (.str v)),none,none] m=_
   rw[Zq (m1:=m) (Zu (k:=false) (Za rfl) (Zb _) (by rw[Zhf];exact congrArg some (Zfu hv rfl)))]
   rw[Zq (m1:=m) (Zu (k:=false) (Za rfl) (ZZ (Zb _) (Zb _)) (by rw[ZgQ];refine congrArg some ?_;have e1:=Zfu hv (w:=[105,115]) rfl;have e2:=Zfu hv (w:=[98,121]) rfl;rw[YaD,e1,YaD,e2];rfl))]
   rw[Zn ((Zh (Za rfl) (Za rfl)).trans hn)]
   dsimp only[Yk,Yl]
   rw[Zn ((Zh (Za rfl) (QB rfl)).trans hs)]
   dsimp only[Yk,Yl]
   rw[Zq (ev_gdn (b:=false) (Za rfl) ZiQ (by rcases hw with⟨rfl,rfl⟩|⟨rfl,rfl⟩<;>rfl))]
   refine Zf ?_
   have hg:ev (cf (n+2)) gv (.gdg 16 (.var 4)) [some (.t (wl (pre++[v,a,f]++post))),some (.t (.int (pre.length:Int))),some (.t (.str v)),some (.t (.str v)),some (.t (.str a))] m=.ok (.t (.str w)) m:=
    ZoS (Za rfl) ZiQ (by rcases hw with⟨rfl,rfl⟩|⟨rfl,rfl⟩<;>rfl)
   refine(ZZ (ZhZ hg (Za rfl) ((Zh (Za rfl) (QB rfl)).trans hm)) (QB rfl)).trans ?_
   rfl
 exact Zv (ZfK _ _ _) rfl key (Zi (cell:=false) rfl)
noncomputable def Jof(s:List Nat)(P:T->List (List Nat)->Prop)(t:T)(ws:List (List Nat)):Prop:=
 P t ws∨∃(q:T×List (List Nat)) (qs:List (T×List (List Nat))),qs≠[]/\P q.1 q.2/\(∀p∈qs,P p.1 p.2)/\t=.tup [.str s,.tup (q.1::qs.map (·.1))]/\ws=q.2++qs.flatMap λp=>s::p.2
noncomputable def G1:Nat->T->List (List Nat)->Prop
 |0=>LeafW
 |k+1=>λt ws=>LeafW t ws∨(∃t' ws',G1 k t' ws'/\t=.tup [.str [110,111,116],t']/\ws=[110,111,116]::ws')∨∃ws',Jof [111,114] (Jof [97,110,100] (G1 k)) t ws'/\ws=[40]::(ws'++[[41]])
noncomputable abbrev GA(k:Nat):=Jof [97,110,100] (G1 k)
noncomputable abbrev GO(k:Nat):=Jof [111,114] (GA k)
theorem ZmS{c:Env->Mem->Res Bool}{f:Env->Mem->Res Flow}{n:Nat}{env env':Env}{m m1 m2:Mem}(h1:c env m=.ok true m1)(h2:f env m1=.ok (.next env') m2):Jr c f (n+1) env m=Jr c f n env' m2:=by
 rw[Jr,h1]
 show(f env m1).bind _=_
 rw[h2];rfl
theorem ZmT{c:Env->Mem->Res Bool}{f:Env->Mem->Res Flow}{n:Nat}{env:Env}{m m1:Mem}(h1:c env m=.ok false m1):Jr c f (n+1) env m=.ok (.next env) m1:=by
 rw[Jr,h1];rfl
theorem Zmm{m:Mem}{ts:List T}{t:T}(hl:ts.length<lim):doM .append (.c m.length) [.t t] (m++[some (false,ts)])=.ok (.t .non) (m++[some (false,ts++[t])]):=by
 have hg:(m++[some (false,ts)])[m.length]?=some (some (false,ts)):=by rw[YG (Yn _),Gu];rfl
 unfold doM
 dsimp only
 rw[Xm,Ji,Ze,Ze,hg]
 dsimp only
 unfold mutM
 dsimp only
 rw[if_pos hl]
 dsimp only
 rw[Vw _ _ (Yn _),Gu]
 rfl
theorem ZiS{m:Mem}{c:Option (Bool×List T)}:(m++[c])[m.length]?=some c:=by rw[YG (Yn _),Gu];rfl
theorem ev_app{call:Nat->List W->Mem->Res W}{gv:List T}{env:Env}{m:Mem}{i j:Nat}{ts:List T}{t:T}(hi:env[i]?=some (some (.c m.length)))(hj:env[j]?=some (some (.t t)))(hl:ts.length<lim):ev call gv (.mth .append (.var i) (.cons (.var j) .nil)) env (m++[some (false,ts)])=.ok (.t .non) (m++[some (false,ts++[t])]):=by
 rw[ev,Za hi,Ze]
 rw[show tyM .append (.c m.length) (m++[some (false,ts)])=true by unfold tyM;dsimp only;rw[ZiS]]
 rw[if_pos rfl,evs,Za hj,Ze,evs,Ze,Ze]
 exact Zmm hl
theorem Zc0{call:Nat->List W->Mem->Res W}{gv:List T}{env:Env}{m m1 m2 m3 m4:Mem}{f:Nat}{a b c d:E}{w w1 w2 w3:W}(h1:ev call gv a env m=.ok w m1)(h2:ev call gv b env m1=.ok w1 m2)(h3:ev call gv c env m2=.ok w2 m3)(h4:ev call gv d env m3=.ok w3 m4):ev call gv (.call f (.cons a (.cons b (.cons c (.cons d .nil))))) env m=call f [w,w1,w2,w3] m4:=by
 simp only[ev,evs,h1,h2,h3,h4,Ze]
section
variable{N:Nat}{s:List Nat}{rest:List T}{P:T->List (List Nat)->Prop}{I:List Nat->Prop}{wi:Int}
noncomputable def Reads(N:Nat)(rest:List T)(wi:Int)(P:T->List (List Nat)->Prop)(I:List Nat->Prop):Prop:=
 ∀(m:Mem) (t:T) (pre mid post:List (List Nat)) (b:Int),P t mid->mid.length<900000->I (wat post 0)->b=(pre.length:Int)->cf N 26 [.t (wl (pre++mid++post)),.t (.int b),.t (.int wi),.t (.tup rest)] m=.ok (.t (.tup [t,.int ((pre.length+mid.length:Nat):Int)])) m
theorem ZeI(s:List Nat)(rest:List T):slT (.tup (.str s::rest)) (some 1) none=some (.tup rest):=by
 show some (T.tup (cut (T.str s::rest) (some 1) none))=_
 simp only[cut,Zj6,Yq]
 rw[if_neg (by decide),show min (1:Int).toNat (rest.length+1)=1 by simp]
 simp
theorem ZlE(hs:I s){qs:List (T×List (List Nat))}{post:List (List Nat)}(hI:I (wat post 0)):I (wat ((qs.flatMap λp=>s::p.2)++post) 0):=by
 cases qs with
 |nil=>exact hI
 |cons q qs=>exact hs
theorem join_loop(R:Reads (N+1) rest wi P I)(hs:I s){W0:List (List Nat)}{e1:Option W}{m:Mem}:∀(qs:List (T×List (List Nat))) (f:Nat) (ts:List T) (t:T) (pre:List (List Nat)) (post:List (List Nat)) (b:Int),qs.length<f->ts.length+qs.length<1000000->(qs.flatMap λp=>s::p.2).length<900000->W0=pre++(qs.flatMap λp=>s::p.2)++post->b=(pre.length:Int)->(∀p∈qs,P p.1 p.2)->(wat post 0==s)=false->I (wat post 0) ->
  Jr (λenv m=>(ev (cf (N+1)) gv (.cmp .Eq (.call 21 (.cons (.var 0) (.cons (.var 5) .nil))) (.ix (.var 3) (.con (.int 0)))) env m).bind QK) (λenv m=>ex (cf (N+1)) gv QS env m) f
   [some (.t (wl W0)),e1,some (.t (.int wi)),some (.t (.tup (.str s::rest))),some (.t t),some (.t (.int b)),some (.c m.length)] (m++[some (false,ts)]) =
  .ok (.next [some (.t (wl W0)),e1,some (.t (.int wi)),some (.t (.tup (.str s::rest))),some (.t ((qs.map (·.1)).getLastD t)),some (.t (.int ((pre.length+(qs.flatMap λp=>s::p.2).length:Nat):Int))),some (.c m.length)]) (m++[some (false,ts++qs.map (·.1))]):=by
 have cond:∀{i:Nat}{b:Int}{t:T}{ts:List T}{k:Bool},b=(i:Int)->(wat W0 i==s)=k->(ev (cf (N+1)) gv (.cmp .Eq (.call 21 (.cons (.var 0) (.cons (.var 5) .nil))) (.ix (.var 3) (.con (.int 0)))) [some (.t (wl W0)),e1,some (.t (.int wi)),some (.t (.tup (.str s::rest))),some (.t t),some (.t (.int b)),some (.c m.length)] (m++[some (false,ts)])).bind QK=.ok k (m++[some (false,ts)]):=λ{i b t ts k} hb hk=>by
  have h0:ixT (.tup (.str s::rest)) (.int 0)=some (.str s):=at0 _ _
  rw[Zu ((Zh (Za rfl) (Za rfl)).trans (Qo hb)) (Ql (Za rfl) (Zb _) h0) (by rw[Zhf,hk])]
  rfl
 intro qs
 induction qs with
 |nil =>
  intro f ts t pre post b hf hl hz hW hb hq hn hI
  obtain⟨f,rfl⟩:∃g,f=g+1:=⟨f-1,by simp at hf;omega⟩
  have hw:wat W0 pre.length=wat post 0:=by rw[hW];exact ZkA (mid:=[]) (by simp)
  rw[ZmT (cond hb (by rw[hw];exact hn))]
  subst hb
  simp
 |cons q qs ih =>
  intro f ts t pre post b hf hl hz hW hb hq hn hI
  obtain⟨f,rfl⟩:∃g,f=g+1:=⟨f-1,by simp at hf;omega⟩
  rw[Yq]at hf hl
  have hW1:W0=(pre++[s])++q.2++((qs.flatMap λp=>s::p.2)++post):=by rw[hW];simp
  have hW2:W0=(pre++s::q.2)++(qs.flatMap λp=>s::p.2)++post:=by rw[hW];simp
  have hw:wat W0 pre.length=s:=by
   rw[hW]
   simp[wat]
  have hr:=R (m++[some (false,ts)]) q.1 (pre++[s]) q.2 ((qs.flatMap λp=>s::p.2)++post) (b+1) (hq q Yv) (by simp at hz;omega) (ZlE hs hI) (by rw[hb];simp)
  rw[<-hW1]at hr
  have hbody:ex (cf (N+1)) gv QS [some (.t (wl W0)),e1,some (.t (.int wi)),some (.t (.tup (.str s::rest))),some (.t t),some (.t (.int b)),some (.c m.length)] (m++[some (false,ts)]) =
    .ok (.next [some (.t (wl W0)),e1,some (.t (.int wi)),some (.t (.tup (.str s::rest))),some (.t q.1),some (.t (.int (((pre++[s]).length+q.2.length:Nat):Int))),some (.c m.length)]) (m++[some (false,ts++[q.1])]):=by
   unfold QS
   rw[Zb0 ((Zc0 (Za rfl) (QB rfl) (Za rfl) (Zmh (Za rfl) (Zb _) (ZeI s rest))).trans hr)]
   dsimp only[Yk,Yl]
   rw[ZhY (ev_app rfl rfl (by unfold lim;omega)),ex]
  rw[ZmS (cond hb (by rw[hw];simp)) hbody]
  rw[ih f (ts++[q.1]) q.1 (pre++s::q.2) post _ (by omega) (by rw[Yi,Gn];omega) (by rw[Gy,Yi]at hz;omega) hW2 (by simp;omega) (λp hp=>hq p (Yp _ hp)) hn hI]
  have e1:(q::qs).map (·.1)=q.1::qs.map (·.1):=rfl
  rw[e1,List.getLastD_cons]
  congr 3
  ·congr 7
   congr 2
   simp
   omega
  ·simp
theorem Zme(s:List Nat):∀qs:List (T×List (List Nat)),qs.length<=(qs.flatMap λp=>s::p.2).length
 |[]=>by simp
 |q::qs=>by
  have:=Zme s qs
  rw[Gy,Yi,Yq,Yq]
  omega
theorem ZiY{call:Nat->List W->Mem->Res W}{gv:List T}{env:Env}{m:Mem}{i:Nat}{ts:List T}{bb:B}{r:T}(hi:env[i]?=some (some (.c m.length)))(hr:bltT bb [.lst ts]=some r):ev call gv (.blt bb (.cons (.var i) .nil)) env (m++[some (false,ts)])=.ok (.t r) (m++[some (false,ts)]):=
 ev_blt (Zo (Za hi) QG) (show views [.c m.length] (m++[some (false,ts)])=some [.lst ts] by unfold views views view;dsimp only;rw[ZiS];rfl) hr
theorem ZeJ(R:Reads (N+1) rest wi P I)(hs:I s):Reads (N+2) (.str s::rest) wi (Jof s P) (λw=>I w/\(w==s)=false):=by
 intro m t pre mid post b h hlen hI hb
 obtain⟨q,qs,hP,hPs,ht,hm⟩:∃(q:T×List (List Nat)) (qs:List (T×List (List Nat))),P q.1 q.2/\(∀p∈qs,P p.1 p.2)/\t=(if qs=[]then q.1 else .tup [.str s,.tup (q.1::qs.map (·.1))])/\mid=q.2++qs.flatMap λp=>s::p.2:=by
  rcases h with h|⟨q,qs,h0,h1,h2,h3,h4⟩
  ·exact⟨(t,mid),[],h,by simp⟩
  ·exact⟨q,qs,h1,h2,by rw[if_neg h0];exact h3,h4⟩
 have hq:=Zme s qs
 have hl2:q.2.length+(qs.flatMap λp=>s::p.2).length<900000:=by rw[hm,Yi]at hlen;exact hlen
 have hW1:pre++mid++post=pre++q.2++((qs.flatMap λp=>s::p.2)++post):=by rw[hm];simp
 have hW2:pre++mid++post=(pre++q.2)++(qs.flatMap λp=>s::p.2)++post:=by rw[hm];simp
 have key:ex (cf (N+1)) gv Qd [some (.t (wl (pre++mid++post))),some (.t (.int b)),some (.t (.int wi)),some (.t (.tup (.str s::rest))),none,none,none] m=.ok (.ret (.t (.tup [t,.int ((pre.length+mid.length:Nat):Int)]))) (m++[some (false,q.1::qs.map (·.1))]):=by
  unfold Qd
  rw[Zq (m1:=m) (Zu (k:=false) (Zy (Za rfl) (Zn2 _)) (Zb _) (by rw[Zep];simp;omega))]
  have hr:=R m q.1 pre q.2 ((qs.flatMap λp=>s::p.2)++post) b hP (by omega) (ZlE hs hI.1) hb
  rw[<-hW1]at hr
  rw[Zb0 ((Zc0 (Za rfl) (Za rfl) (Za rfl) (Zmh (Za rfl) (Zb _) (ZeI s rest))).trans hr)]
  dsimp only[Yk,Yl]
  rw[Zn (show ev (cf (N+1)) gv (.cel (.cons (.var 4) .nil)) _ m=.ok (.c m.length) (m++[some (false,[q.1])]) by rw[ev,Zo (Za rfl) QG,Ze,Xm,Ji,Ze,Ze,if_pos (by simp[lim])])]
  dsimp only[Yk,Yl]
  rw[ex,join_loop R hs (W0:=pre++mid++post) qs turns [q.1] q.1 (pre++q.2) post _ (by unfold turns;omega) (by simp;omega) (by omega) hW2 (by simp) hPs hI.2 hI.1,Ze]
  dsimp only
  have hlast:((pre++q.2).length+(qs.flatMap λp=>s::p.2).length:Nat)=pre.length+mid.length:=by rw[hm];simp;omega
  rw[hlast]
  have hc:∀e4:Option W,ev (cf (N+1)) gv (.cmp .Eq (.blt .len (.cons (.var 6) .nil)) (.con (.int 1))) [some (.t (wl (pre++mid++post))),some (.t (.int b)),some (.t (.int wi)),some (.t (.tup (.str s::rest))),e4,some (.t (.int ((pre.length+mid.length:Nat):Int))),some (.c m.length)] (m++[some (false,[q.1]++qs.map (·.1))])=.ok (.t (.bl qs.isEmpty)) (m++[some (false,[q.1]++qs.map (·.1))]):=λe4=>by
   refine Zu (ZiY rfl (ZlP _)) (Zb _) ?_
   rw[Zep]
   cases qs with
   |nil=>rfl
   |cons q' qs =>
    refine congrArg some ?_
    show((([q.1]++q'.1::qs.map (·.1)).length:Int)==1)=false
    rw[Yi,Yq,Yq,beq_eq_false_iff_ne]
    simp only[Y0]
    omega
  cases qs with
  |nil =>
   rw[Zw (hc _) (Zf (ZZ (Za rfl) (Za rfl)))]
   subst ht
   rfl
  |cons q' qs =>
   rw[Zq (hc _)]
   have h0:ixT (.tup (.str s::rest)) (.int 0)=some (.str s):=at0 _ _
   rw[Zf (ZZ (ZZ (Ql (Za rfl) (Zb _) h0) (ZiY rfl (Zdy _))) (Za rfl))]
   rw[ht,if_neg (by simp)]
   rfl
 refine Zv (Za8 _ _ _) rfl key ?_
 show Res.ok _ ((m++[_]).take m.length)=_
 rw[List.take_left]
end
noncomputable def Zc7(N:Nat)(wi:Int)(P:T->List (List Nat)->Prop):Prop:=
 ∀(m:Mem) (t:T) (pre mid post:List (List Nat)) (b:Int),P t mid->mid.length<900000->b=(pre.length:Int)->cf N 25 [.t (wl (pre++mid++post)),.t (.int b),.t (.int wi)] m=.ok (.t (.tup [t,.int ((pre.length+mid.length:Nat):Int)])) m
theorem ZqI{N:Nat}{wi:Int}{P:T->List (List Nat)->Prop}(R:Zc7 N wi P):Reads (N+1) [] wi P (λ_=>True):=by
 intro m t pre mid post b h hlen _ hb
 have key:ex (cf N) gv Qd [some (.t (wl (pre++mid++post))),some (.t (.int b)),some (.t (.int wi)),some (.t (.tup [])),none,none,none] m=.ok (.ret (.t (.tup [t,.int ((pre.length+mid.length:Nat):Int)]))) m:=by
  unfold Qd
  exact Zw (m1:=m) (Zu (k:=true) (Zy (Za rfl) (Zn2 _)) (Zb _) rfl) (Zf ((Za1 (Za rfl) (Za rfl) (Za rfl)).trans (R m t pre mid post b h hlen hb)))
 exact Zv (Za8 _ _ _) rfl key (Zi (cell:=false) rfl)
noncomputable def JN:List T:=[.str [111,114],.str [97,110,100]]
noncomputable def After(w:List Nat):Prop:=(True/\(w==[97,110,100])=false)/\(w==[111,114])=false
theorem or_ok{N:Nat}{wi:Int}{P:T->List (List Nat)->Prop}(R:Zc7 N wi P):Reads (N+3) JN wi (Jof [111,114] (Jof [97,110,100] P)) After:=
 ZeJ (ZeJ (ZqI R) W4) ⟨W4,rfl⟩
theorem Zdu(w a b:List Nat):cmpT .NotIn (.str w) (.tup [.str a,.str b])=some (!(a==w || b==w)):=by
 show(inT (.str w) (.tup [.str a,.str b])).map (!·)=_
 rw[show inT (.str w) (.tup [.str a,.str b])=some (a==w || b==w)from ZgQ w a b]
 rfl
theorem ZjQ{t:T}{mid:List (List Nat)}(h:LeafW t mid):mid≠[]/\([110,111,116]==wat mid 0)=false/\([40]==wat mid 0)=false:=by
 cases h with
 |any=>exact⟨by simp,rfl,rfl⟩
 |two hw _ _=>rcases hw with rfl|rfl<;>exact⟨by simp,rfl,rfl⟩
 |three hw hv _ _ =>
  refine⟨by simp,?_,?_⟩
  ·rw[YaD];exact Zfu hv rfl
  ·rw[YaD];exact Zp8 hv
theorem ZiD{n:Nat}{wi:Int}:Zc7 (n+4) wi LeafW:=by
 intro m t pre mid post b h hlen hb
 obtain⟨h1,h2,h3⟩:=ZjQ h
 have hw:wat (pre++mid++post) pre.length=wat mid 0:=Zda (j:=0) (List.length_pos_iff.mpr h1)
 have key:ex (cf (n+3)) gv Qq [some (.t (wl (pre++mid++post))),some (.t (.int b)),some (.t (.int wi)),none,none,none] m=.ok (.ret (.t (.tup [t,.int ((pre.length+mid.length:Nat):Int)]))) m:=by
  unfold Qq
  rw[Zn ((Zh (Za rfl) (Za rfl)).trans (Qo hb))]
  dsimp only[Yk,Yl]
  rw[hw]
  refine Zw (m1:=m) (Zu (k:=true) (Za rfl) (ZZ (Zb _) (Zb _)) (by rw[Zdu,h2,h3];rfl)) (Zf ((Zh (Za rfl) (Za rfl)).trans ?_))
  rw[hb]
  exact Zfc h
 exact Zv (Zbl _ _ _) rfl key (Zi (cell:=false) rfl)
theorem Zlw:∀(k n:Nat) (wi:Int),0<=wi->wi+k<=12->Zc7 (n+4*k+4) wi (G1 k)
 |0,n,wi,h0,h1=>ZiD
 |k+1,n,wi,h0,h1=>by
  intro m t pre mid post b h hlen hb
  have ih:=Zlw k n (wi+1) (by omega) (by omega)
  have hwi:(wi==12)=false:=by rw[beq_eq_false_iff_ne];omega
  rcases h with h|⟨t',ws',h,rfl,rfl⟩|⟨ws',h,rfl⟩
  ·exact ZiD (n:=n+4*(k+1)) m t pre mid post b h hlen hb
  ·have hW:pre++[110,111,116]::ws'++post=pre++[[110,111,116]]++ws'++post:=by simp
   have hw:wat (pre++[110,111,116]::ws'++post) pre.length=[110,111,116]:=(Zda (j:=0) (by simp)).trans rfl
   have hr:=Zlw k (n+3) (wi+1) (by omega) (by omega) m t' (pre++[[110,111,116]]) ws' post (b+1) h (by simp at hlen;omega) (by rw[hb];simp)
   rw[<-hW]at hr
   have key:ex (cf (n+4*(k+1)+3)) gv Qq [some (.t (wl (pre++[110,111,116]::ws'++post))),some (.t (.int b)),some (.t (.int wi)),none,none,none] m=.ok (.ret (.t (.tup [.tup [.str [110,111,116],t'],.int ((pre.length+([110,111,116]::ws').length:Nat):Int)]))) m:=by
    unfold Qq
    rw[Zn ((Zh (Za rfl) (Za rfl)).trans (Qo hb))]
    dsimp only[Yk,Yl]
    rw[hw]
    rw[Zq (m1:=m) (Zu (k:=false) (Za rfl) (ZZ (Zb _) (Zb _)) (by rw[Zdu];rfl))]
    rw[Zq (m1:=m) (Zu (k:=false) (Za rfl) (ZcP Za5) (by rw[Zep,hwi]))]
    refine Zw (m1:=m) (Zu (k:=true) (Za rfl) (Zb _) rfl) ?_
    have e0:n+4*(k+1)+3=n+3+4*k+4:=by omega
    rw[e0]
    rw[Zb0 ((Za1 (Za rfl) (QB rfl) (QB rfl)).trans hr)]
    dsimp only[Yk,Yl]
    rw[Zf (ZZ (ZZ (Zb _) (Za rfl)) (Za rfl))]
    congr 7
    simp
    omega
   exact Zv (Zbl _ _ _) rfl key (Zi (cell:=false) rfl)
  ·have hW:pre++[40]::(ws'++[[41]])++post=pre++[[40]]++ws'++([41]::post):=by simp
   have hw:wat (pre++[40]::(ws'++[[41]])++post) pre.length=[40]:=(Zda (j:=0) (by simp)).trans rfl
   have hr:=or_ok ih m t (pre++[[40]]) ws' ([41]::post) (b+1) h (by simp at hlen;omega) ⟨⟨W4,rfl⟩,rfl⟩ (by rw[hb];simp)
   rw[<-hW]at hr
   have hw2:wat (pre++[40]::(ws'++[[41]])++post) ((pre++[[40]]).length+ws'.length)=[41]:=by
    rw[hW]
    exact(ZkA rfl).trans rfl
   have key:ex (cf (n+4*(k+1)+3)) gv Qq [some (.t (wl (pre++[40]::(ws'++[[41]])++post))),some (.t (.int b)),some (.t (.int wi)),none,none,none] m=.ok (.ret (.t (.tup [t,.int ((pre.length+([40]::(ws'++[[41]])).length:Nat):Int)]))) m:=by
    unfold Qq
    rw[Zn ((Zh (Za rfl) (Za rfl)).trans (Qo hb))]
    dsimp only[Yk,Yl]
    rw[hw]
    rw[Zq (m1:=m) (Zu (k:=false) (Za rfl) (ZZ (Zb _) (Zb _)) (by rw[Zdu];rfl))]
    rw[Zq (m1:=m) (Zu (k:=false) (Za rfl) (ZcP Za5) (by rw[Zep,hwi]))]
    rw[Zq (m1:=m) (Zu (k:=false) (Za rfl) (Zb _) rfl)]
    have e0:n+4*(k+1)+3=n+4*k+4+3:=by omega
    rw[e0]
    rw[Zb0 ((Zc0 (Za rfl) (QB rfl) (QB rfl) (ZcP ZiR)).trans hr)]
    dsimp only[Yk,Yl]
    rw[Zq (m1:=m) (Zu (k:=false) ((Zh (Za rfl) (Za rfl)).trans (Qo rfl)) (Zb _) (by rw[hw2];rfl))]
    rw[Zf (ZZ (Za rfl) (QB rfl))]
    congr 7
    simp
    omega
   exact Zv (Zbl _ _ _) rfl key (Zi (cell:=false) rfl)
theorem Zhs{ws:List (List Nat)}(h0:ws≠[])(h:∀w∈ws,32∉w)(hl:(Zd [32] ws).length<=900000){m:Mem}:doM .split (.t (.str (Zd [32] ws))) [.t (.str [32])] m=.ok (.t (wl ws)) m:=by
 show pur (if(Zd [32] ws).length<=900000 then some (.lst ((Q8 32 (Zd [32] ws)).map .str))else none) m=_
 rw[if_pos hl,Xx h0 h]
 rfl
theorem ZlV(ws:List (List Nat)):ws.length<=(Zd [32] ws).length+1:=by
 induction ws with
 |nil=>simp
 |cons w r ih =>
  cases r with
  |nil=>simp[Zd]
  |cons v r =>
   show _<=(w++[32]++Zd [32] (v::r)).length+1
   rw[Yi,Yi,Yq]
   simp only[Yq,Y0]at ih ⊢
   omega
theorem Zgl{n:Nat}{m:Mem}{t:T}{ws:List (List Nat)}(h:GO 12 t ws)(h0:ws≠[])(hw:∀w∈ws,32∉w)(hl:(Zd [32] ws).length<=800000)(hy:∀{m:Mem},cf (n+55) 15 [.t t] m=.ok (.t (.bl true)) m):
  cf (n+56) 27 [.t (.str (Zd [32] ws))] m=.ok (.t t) m:=by
 have hlen:=ZlV ws
 have hr:=or_ok (Zlw 12 n 0 (by omega) (by omega)) m t [] ws [] 0 h (by omega) ⟨⟨W4,rfl⟩,rfl⟩ rfl
 rw[Uc,Ur]at hr
 have key:ex (cf (n+55)) gv JC [some (.t (.str (Zd [32] ws))),none,none,none] m=.ok (.ret (.t t)) m:=by
  unfold JC
  rw[Zq (m1:=m) (Z4 (k:=true) (ZeO (Za rfl) rfl))]
  rw[Zn (show ev (cf (n+55)) gv (.mth .split (.var 0) (.cons (.con (.str [32])) .nil)) [some (.t (.str (Zd [32] ws))),none,none,none] m=.ok (.t (wl ws)) m by
   rw[ev,Za rfl,Ze,show tyM .split (.t (.str (Zd [32] ws))) m=true from rfl,if_pos rfl,Zo (Zb _) QG,Ze]
   exact Zhs h0 hw (by omega))]
  dsimp only[Yk,Yl]
  rw[Zb0 ((Zc0 (Za rfl) (Zb _) (Zb _) (ZcP ZiR)).trans hr)]
  dsimp only[Yk,Yl]
  have hc:ev (cf (n+55)) gv (.cmp .Lt (.var 3) (.blt .len (.cons (.var 1) .nil))) [some (.t (.str (Zd [32] ws))),some (.t (wl ws)),some (.t t),some (.t (.int ((([]:List (List Nat)).length+ws.length:Nat):Int)))] m=.ok (.t (.bl false)) m:=by
   refine Zu (Za rfl) (Zy (Za rfl) (ZlP _)) ?_
   rw[c_lt,Yc]
   refine congrArg some (decide_eq_false ?_)
   simp
  rw[Zq ((QJ hc).trans (Z4 (k:=true) ((Zr (Za rfl)).trans hy)))]
  exact Zf (Za rfl)
 exact Zv (Zg3 _ _ _) rfl key (Zi (cell:=false) rfl)
inductive Leaf:T->Prop where
 |any:Leaf (.tup [.str [97,110,121]])
 |two {w v:List Nat}:(w=[105,115]∨w=[98,121])->Qh v=true->Leaf (.tup [.str w,.str v])
 |three {w v:List Nat}{k:Int}:(w=[108,101,97,115,116]∨w=[109,111,115,116])->Qh v=true->0<=k->k<=1000000000->Leaf (.tup [.str w,.str v,.int k])
theorem Xu{cs:List Nat}(h:Qh cs=true):cs.length<=lim:=by
 unfold Qh at h
 simp at h
 unfold lim
 omega
theorem Leaf.wt{d:Nat}{t:T}(h:Leaf t):WT (d+1) t:=by
 cases h with
 |any=>exact .leaf (by decide) (by rfl) λt ht cs e=>by subst e;simp at ht;subst ht;decide
 |two hw hv =>
  refine .leaf ?_ ?_ λt ht cs e=>?_
  ·rcases hw with rfl|rfl<;>simp[J4,oneOf,Jq,hv]
  ·rcases hw with rfl|rfl<;>simp[kids,oneOf]
  ·subst e
   simp at ht
   rcases ht with rfl|rfl
   ·rcases hw with rfl|rfl<;>decide
   ·exact Xu hv
 |three hw hv h0 h1 =>
  refine .leaf ?_ ?_ λt ht cs e=>?_
  ·rcases hw with rfl|rfl<;>simp[J4,oneOf,Jq,hv,numB,h0,h1]
  ·rfl
  ·subst e
   simp at ht
   rcases ht with rfl|rfl
   ·rcases hw with rfl|rfl<;>decide
   ·exact Xu hv
theorem Xk{a:T}{ws:List (List Nat)}(h:oneOf a ws=true):∃cs,a=.str cs/\cs∈ws:=by
 cases a with
 |str cs =>
  obtain⟨w,h1,h2⟩:=GP.mp (show(ws.any λa=>a==cs)=true from h)
  exact⟨cs,rfl,by rw[<-eq_of_beq h2];exact h1⟩
 |_=>cases h
theorem Zjy{t:T}(h:J4 t=true):∃w r,t=.tup (.str w::r)/\w≠[110,111,116]/\w≠[97,110,100]/\w≠[111,114]:=by
 unfold J4 at h
 split at h
 ·obtain⟨w,rfl,hw⟩:=Xk h
  simp at hw
  subst hw
  exact⟨_,_,rfl,by decide,by decide,by decide⟩
 ·rw[Yg]at h
  obtain⟨w,rfl,hw⟩:=Xk h.1
  simp at hw
  rcases hw with rfl|rfl<;>exact⟨_,_,rfl,by decide,by decide,by decide⟩
 ·rw[Yg,Yg]at h
  obtain⟨w,rfl,hw⟩:=Xk h.1.1
  simp at hw
  rcases hw with rfl|rfl<;>exact⟨_,_,rfl,by decide,by decide,by decide⟩
 ·cases h
theorem Zbj{call:Nat->List W->Mem->Res W}{gv:List T}{env env':Env}{m m1:Mem}{k:S}{e:E}{is:List Nat}{t:T}(h:ev call gv e env m=.ok (.t t) m1)(h2:Qs (.tp is) t env=some env'):ex call gv (.asgT is e k) env m=ex call gv k env' m1:=by
 rw[ex,h]
 show(match Qs (.tp is) t env with
  |some env=>ex call gv k env m1
  |none=>.stuck)=_
 rw[h2]
theorem Leaf.kids0{t:T}(h:Leaf t):kids t=[]:=by
 cases h with
 |any=>rfl
 |two hw _=>rcases hw with rfl|rfl<;>simp[kids,oneOf]
 |three _ _ _ _=>rfl
theorem Zh4(m:Nat)(h:0<m):∃c r,G9 10 m=c::r/\c≠'0':=by
 induction m using Nat.strongRecOn with
 |_ m ih =>
  by_cases hm:m<10
  ·refine⟨Nat.digitChar m,[],Nat.toDigits_of_lt_base hm,?_⟩
   have:∀k:Nat,k<10->0<k->Nat.digitChar k≠'0':=by decide
   exact this m hm h
  ·obtain⟨c,r,e,hc⟩:=ih (m / 10) (by omega) (by omega)
   have t:G9 10 (m / 10)++G9 10 (m%10)=G9 10 (10*(m / 10)+m%10):=Nat.toDigits_append_toDigits (by decide) (by omega) (Ybx m (by decide))
   rw[Nat.div_add_mod]at t
   exact⟨c,r++G9 10 (m%10),by rw[<-t,e];rfl,hc⟩
theorem ZS{k:Int}(h0:0<=k)(h1:k<10000000000):figB (decI k)=true/\figV (decI k)=k/\32∉decI k/\(decI k).length<=10:=by
 obtain⟨n,rfl⟩:=Int.eq_ofNat_of_zero_le h0
 have hl:(decI (n:Int)).length<=10:=by
  have:=PySem.W.KT.len_num h0 h1
  unfold decI
  rw[Y8]
  exact this
 have e:decI (n:Int)=(G9 10 n).map Char.toNat:=PySem.W.KIN.signs_num n
 have hd:∀c∈decI (n:Int),48<=c/\c<=57:=λc hc=>by
  rw[e]at hc
  obtain⟨ch,hch,rfl⟩:=YK.mp hc
  exact PyProof.Rows.digit_range (Nat.isDigit_of_mem_toDigits (by decide) (by decide) hch)
 have h1':1<=(decI (n:Int)).length:=by rw[e,Yc];exact PySem.toDigits_len_ge 10 n
 refine⟨?_,?_,λz=>absurd (hd 32 z).1 (by decide),hl⟩
 ·unfold figB
  rw[decide_eq_true h1',decide_eq_true hl]
  simp only[YaC,Yg,Yr]
  refine⟨λc hc=>decide_eq_true ?_,?_⟩
  ·have:=hd c hc
   obtain⟨i,rfl⟩:∃i,c=48+i:=⟨c-48,by omega⟩
   exact(by decide:∀i<10,48+i∈digs) i (by omega)
  ·by_cases hn:n=0
   ·subst hn
    rw[e]
    rfl
   ·obtain⟨c,r,e2,hc⟩:=Zh4 n (by omega)
    rw[e,e2]
    simp only[Yz,List.head?_cons,Ue]
    right
    rw[bne_iff_ne]
    intro z
    have z:c.toNat=48:=YS z
    exact hc (Char.ext (UInt32.toNat_inj.mp z))
 ·have:=PySem.W.KIN.val_back n
  rw[e]
  show((PySem.NumText.digitsVal ((G9 10 n).map Char.toNat):Nat):Int)=_
  rw[this]
noncomputable def Zbi:T->List Nat
 |.tup (.str w::_)=>w
 |_=>[]
noncomputable def clos(s:List (List Nat))(t:T)(ws:List (List Nat)):List (List Nat):=if(s.any λa=>a==Zbi t)=true then[40]::(ws++[[41]])else ws
noncomputable def Zbg(s:List Nat):List (List (List Nat))->List (List Nat)
 |[]=>[]
 |x::r=>x++r.flatMap λy=>s::y
noncomputable def kset(w:List Nat):List (List Nat):=if(w==[111,114])=true then[[111,114]]else[[97,110,100],[111,114]]
noncomputable def cw:Nat->T->List (List Nat)
 |0,_=>[]
 |d+1,t=>match t with
  |.tup [.str w]=>[w]
  |.tup [.str w,.str v]=>[w,v]
  |.tup [.str w,.str v,.int k]=>[v,if(w==[108,101,97,115,116])=true then[62,61]else[60,61],decI k]
  |.tup [.str w,.tup ts]=>if(w==[110,111,116])=true then w::clos (kset w) (.tup ts) (cw d (.tup ts))else Zbg w (ts.map λy=>clos (kset w) y (cw d y))
  |_=>[]
theorem Zfv{t:T}(h:J4 t=true):Leaf t:=by
 unfold J4 at h
 split at h
 ·rename_i a
  obtain⟨cs,rfl,hc⟩:=Xk h
  simp at hc
  subst hc
  exact .any
 ·rename_i a b
  rw[Yg]at h
  obtain⟨cs,rfl,hc⟩:=Xk h.1
  cases b with
  |str v=>exact .two (by simpa using hc) h.2
  |_=>cases h.2
 ·rename_i a b c
  rw[Yg,Yg]at h
  obtain⟨cs,rfl,hc⟩:=Xk h.1.1
  cases b with
  |str v =>
   cases c with
   |int k =>
    have hk:(decide (0<=k)&&decide (k<=1000000000))=true:=h.2
    rw[Yg]at hk
    exact .three (by simpa using hc) h.1.2 (of_decide_eq_true hk.1) (of_decide_eq_true hk.2)
   |_=>cases h.2
  |_=>cases h.1.2
 ·cases h
theorem Xf{v:List Nat}(h:Qh v=true):Zbe v=true/\v.length<=8/\32∉v:=by
 unfold Qh at h
 simp only[Yg,decide_eq_true_eq]at h
 obtain⟨⟨⟨h1,h2⟩,h3⟩,h4⟩:=h
 refine⟨by unfold Zbe;rw[decide_eq_true h1,h3,h4];rfl,h2,λz=>?_⟩
 have:=of_decide_eq_true (Yr.mp h4 32 z)
 revert this
 decide
theorem ZjP{d:Nat}{t:T}(h:Leaf t):LeafW t (cw (d+1) t)/\(∀w∈cw (d+1) t,32∉w)/\(Zd [32] (cw (d+1) t)).length<=60/\cw (d+1) t≠[]:=by
 cases h with
 |any=>exact⟨.any,by simp[cw],by simp[cw,Zd],by simp[cw]⟩
 |@two w v hw hv =>
  obtain⟨h1,h2,h3⟩:=Xf hv
  refine⟨.two hw h1 (by unfold lim;omega),?_,?_,by simp[cw]⟩
  ·intro x hx
   simp only[cw,Ym,Yt,or_false]at hx
   rcases hx with rfl|rfl
   ·rcases hw with rfl|rfl<;>decide
   ·exact h3
  ·show(w++[32]++v).length<=60
   rw[Yi,Yi]
   rcases hw with rfl|rfl<;>(simp;omega)
 |@three w v k hw hv k0 k1 =>
  obtain⟨h1,h2,h3⟩:=Xf hv
  obtain⟨f1,f2,f3,f4⟩:=ZS k0 (by omega)
  have key:∀a:List Nat,(a=[62,61]/\w=[108,101,97,115,116]∨a=[60,61]/\w=[109,111,115,116])->cw (d+1) (.tup [.str w,.str v,.int k])=[v,a,decI k]->LeafW (.tup [.str w,.str v,.int k]) (cw (d+1) (.tup [.str w,.str v,.int k]))/\(∀x∈cw (d+1) (.tup [.str w,.str v,.int k]),32∉x)/\(Zd [32] (cw (d+1) (.tup [.str w,.str v,.int k]))).length<=60/\cw (d+1) (.tup [.str w,.str v,.int k])≠[]:=λa ha e=>by
   rw[e]
   have hL:LeafW (.tup [.str w,.str v,.int (figV (decI k))]) [v,a,decI k]:=.three ha h1 (by unfold lim;omega) f1
   rw[f2]at hL
   refine⟨hL,?_,?_,by simp⟩
   ·intro x hx
    simp only[Ym,Yt,or_false]at hx
    rcases hx with rfl|rfl|rfl
    ·exact h3
    ·rcases ha with⟨rfl,_⟩|⟨rfl,_⟩<;>decide
    ·exact f3
   ·show(v++[32]++(a++[32]++decI k)).length<=60
    simp only[Yi,Yq,Y0]
    have:a.length=2:=by rcases ha with⟨rfl,_⟩|⟨rfl,_⟩<;>rfl
    omega
  rcases hw with rfl|rfl
  ·exact key _ (.inl ⟨rfl,rfl⟩) rfl
  ·exact key _ (.inr ⟨rfl,rfl⟩) rfl
theorem Jt:∀{a b:List (List Nat)},a≠[]->b≠[]->Zd [32] (a++b)=Zd [32] a++32::Zd [32] b
 |[],_,h,_=>absurd rfl h
 |[x],b,_,hb=>by
  cases b with
  |nil=>exact absurd rfl hb
  |cons y r=>show x++[32]++Zd [32] (y::r)=x++32::Zd [32] (y::r);simp
 |x::y::r,b,_,hb=>by
  have ih:=Jt (a:=y::r) (by simp) hb
  show x++[32]++Zd [32] (y::r++b)=(x++[32]++Zd [32] (y::r))++_
  rw[ih]
  simp
theorem Zfy{ws:List (List Nat)}(h:ws≠[]):Zd [32] ([40]::(ws++[[41]]))=[40,32]++Zd [32] ws++[32,41]:=by
 have e:[40]::(ws++[[41]])=[[40]]++(ws++[[41]]):=rfl
 rw[e,Jt (by simp) (by simp),Jt h (by simp)]
 simp[Zd]
theorem ZiL{s:List Nat}{x:List (List Nat)}{r:List (List (List Nat))}(h:x≠[]):Zbg s (x::r)≠[]:=by
 unfold Zbg
 intro z
 exact h (List.append_eq_nil_iff.mp z).1
theorem Zcn{s:List Nat}:∀{wss:List (List (List Nat))},(∀x∈wss,x≠[])->Zd (32::s++[32]) (wss.map (Zd [32]))=Zd [32] (Zbg s wss)
 |[],_=>rfl
 |[x],h=>by simp[Zbg,Zd]
 |x::y::r,h=>by
  have ih:=Zcn (s:=s) (wss:=y::r) λz hz=>h z (Yp _ hz)
  have hx:=h x Yv
  show Zd [32] x++(32::s++[32])++Zd (32::s++[32]) ((y::r).map (Zd [32]))=_
  rw[ih]
  have e:Zbg s (x::y::r)=x++(s::Zbg s (y::r)):=by simp[Zbg]
  rw[e,Jt hx (by simp)]
  have hy:Zbg s (y::r)≠[]:=ZiL (h y (by simp))
  have e2:s::Zbg s (y::r)=[s]++Zbg s (y::r):=rfl
  rw[e2,Jt (by simp) hy]
  simp[Zd]
theorem ZdO{s:List (List Nat)}{t:T}{ws:List (List Nat)}(h:ws≠[]):clos s t ws≠[]:=by
 unfold clos
 split
 ·simp
 ·exact h
theorem ZdN{s:List (List Nat)}{t:T}{ws:List (List Nat)}(h:ws≠[]):Zd [32] (clos s t ws)=if(s.any λa=>a==Zbi t)=true then[40,32]++Zd [32] ws++[32,41]else Zd [32] ws:=by
 unfold clos
 split
 ·exact Zfy h
 ·rfl
section
variable{call:Nat->List W->Mem->Res W}{gv:List T}{env:Env}{m m1 m2 m3:Mem}{a b c e:E}{x y z:T}{p q r:List Nat}{s k:S}{w:W}
theorem Zqs(h1:ev call gv a env m=.ok (.t x) m1)(hx:fmtT x=some p)(h2:ev call gv b env m1=.ok (.t y) m2)(hy:fmtT y=some q)(hl:p.length+q.length<=lim):ev call gv (.fst (.cons a (.cons b .nil))) env m=.ok (.t (.str (p++q))) m2:=by
 have f1:fmtW [] (.t x) m1=.ok p m1:=by
  unfold fmtW
  show(match fmtT x with|some a=>_|none=>_)=_
  rw[hx]
  exact if_pos (by simp;omega)
 have f2:fmtW p (.t y) m2=.ok (p++q) m2:=by
  unfold fmtW
  show(match fmtT y with|some a=>_|none=>_)=_
  rw[hy]
  exact if_pos hl
 rw[ev,evf,h1,Ze,f1,Ze,evf,h2,Ze,f2,Ze,evf,Ze]
theorem ZdK(h1:ev call gv a env m=.ok (.t x) m1)(hx:fmtT x=some p)(h2:ev call gv b env m1=.ok (.t y) m2)(hy:fmtT y=some q)(h3:ev call gv c env m2=.ok (.t z) m3)(hz:fmtT z=some r)(hl:p.length+q.length+r.length<=lim):ev call gv (.fst (.cons a (.cons b (.cons c .nil)))) env m=.ok (.t (.str (p++q++r))) m3:=by
 have f1:fmtW [] (.t x) m1=.ok p m1:=by
  unfold fmtW
  show(match fmtT x with|some a=>_|none=>_)=_
  rw[hx]
  exact if_pos (by simp;omega)
 have f2:fmtW p (.t y) m2=.ok (p++q) m2:=by
  unfold fmtW
  show(match fmtT y with|some a=>_|none=>_)=_
  rw[hy]
  exact if_pos (by omega)
 have f3:fmtW (p++q) (.t z) m3=.ok (p++q++r) m3:=by
  unfold fmtW
  show(match fmtT z with|some a=>_|none=>_)=_
  rw[hz]
  exact if_pos (by rw[Yi];exact hl)
 rw[ev,evf,h1,Ze,f1,Ze,evf,h2,Ze,f2,Ze,evf,h3,Ze,f3,Ze,evf,Ze]
theorem skEq(h:ev call gv e env m=.ok (.t (.str p)) m)(hb:(p==q)=false):ex call gv (.ife (.cmp .Eq e (.con (.str q))) s .done k) env m=ex call gv k env m:=Zq (Zu h (Zb _) (by rw[Zhf,hb]))
theorem tkEq(h:ev call gv e env m=.ok (.t (.str p)) m)(hb:(p==q)=true)(hs:ex call gv s env m=.ok (.ret w) m2):ex call gv (.ife (.cmp .Eq e (.con (.str q))) s .done k) env m=.ok (.ret w) m2:=Zw (Zu h (Zb _) (by rw[Zhf,hb])) hs
theorem skIn(h:ev call gv e env m=.ok (.t (.str p)) m)(hb:(q==p || r==p)=false):ex call gv (.ife (.cmp .In e (.tup (.cons (.con (.str q)) (.cons (.con (.str r)) .nil)))) s .done k) env m=ex call gv k env m:=Zq (Zu h (ZZ (Zb _) (Zb _)) (by rw[ZgQ,hb]))
theorem tkIn(h:ev call gv e env m=.ok (.t (.str p)) m)(hb:(q==p || r==p)=true)(hs:ex call gv s env m=.ok (.ret w) m2):ex call gv (.ife (.cmp .In e (.tup (.cons (.con (.str q)) (.cons (.con (.str r)) .nil)))) s .done k) env m=.ok (.ret w) m2:=Zw (Zu h (ZZ (Zb _) (Zb _)) (by rw[ZgQ,hb])) hs
theorem ZcJ{ts:List T}(h:ev call gv e env m=.ok (.t (.tup (x::y::ts))) m):ev call gv (.ix e (.con (.int 1))) env m=.ok (.t y) m:=Ql h (Zb _) (at1 _ _ _)
theorem QD{ts:List T}(h:ev call gv e env m=.ok (.t (.tup (.str p::ts))) m):ev call gv (.ix e (.con (.int 0))) env m=.ok (.t (.str p)) m:=Ql h (Zb _) (at0 _ _)
end
theorem ZoM(h:List Nat)(ws:List (List Nat)):cmpT .In (.str h) (.tup (ws.map .str))=some (ws.any λa=>a==h)/\cmpT .In (.str h) (.lst (ws.map .str))=some (ws.any λa=>a==h):=by
 have ha:(ws.map T.str).all flat=true:=by simp[flat]
 have hb:((ws.map T.str).any λt=>eqT t (.str h))=ws.any λa=>a==h:=by
  clear ha
  induction ws with
  |nil=>rfl
  |cons w ws ih=>simp[eqT]at ih ⊢;rw[ih]
 have h1:hasT (.str h) (.tup (ws.map .str))=some (ws.any λa=>a==h):=by
  unfold hasT;dsimp only;rw[ha,hb];rfl
 have h2:hasT (.str h) (.lst (ws.map .str))=some (ws.any λa=>a==h):=by
  unfold hasT;dsimp only;rw[ha,hb];rfl
 constructor
 ·rw[<-h1]
  match h with
  |[]=>rfl
  |[c]=>rfl
  |c::c'::r=>rfl
 ·rw[<-h2]
  match h with
  |[]=>rfl
  |[c]=>rfl
  |c::c'::r=>rfl
theorem ZqF{w:List Nat}(hw:w=[110,111,116]∨w=[97,110,100]∨w=[111,114]):(keyT (.str w)).bind (Qv (Yae (λk=>.inr ⟨k.toArray⟩) [[110,111,116],[97,110,100],[111,114]]) [(.tup [(.str [97,110,100]),(.str [111,114])]),(.tup [(.str [97,110,100]),(.str [111,114])]),(.tup [(.str [111,114])])])=some (.tup ((kset w).map .str)):=by
 rcases hw with rfl|rfl|rfl<;>rfl
theorem ZfW{N:Nat}{w h:List Nat}{r:List T}{ws:List (List Nat)}(hw:w=[110,111,116]∨w=[97,110,100]∨w=[111,114])(hne:ws≠[])(hl:(Zd [32] ws).length<=3000)(hx:∀m:Mem,cf N 18 [.t (.tup (.str h::r))] m=.ok (.t (.str (Zd [32] ws))) m)(m:Mem):
  cf (N+1) 19 [.t (.str w),.t (.tup (.str h::r))] m=.ok (.t (.str (Zd [32] (clos (kset w) (.tup (.str h::r)) ws)))) m:=by
 have key:ex (cf N) gv QV [some (.t (.str w)),some (.t (.tup (.str h::r))),none] m=.ok (.ret (.t (.str (Zd [32] (clos (kset w) (.tup (.str h::r)) ws))))) m:=by
  unfold QV
  rw[Zn ((Zr (Za rfl)).trans (hx m))]
  dsimp only[Yk,Yl]
  rw[ZdN hne]
  have hc:ev (cf N) gv (.cmp .In (.ix (.var 1) (.con (.int 0))) (.gdg 18 (.var 0))) [some (.t (.str w)),some (.t (.tup (.str h::r))),some (.t (.str (Zd [32] ws)))] m=.ok (.t (.bl ((kset w).any λa=>a==h))) m:=
   Zu (QD (Za rfl)) (ZoS (Za rfl) ZgR (ZqF hw)) (ZoM h _).1
  show ex _ _ _ _ _=.ok (.ret (.t (.str (if((kset w).any λa=>a==h)=true then _ else _)))) m
  cases q:(kset w).any λa=>a==h with
  |true =>
   rw[q]at hc
   exact Zw hc (Zf (ZdK (Zb _) rfl (Za rfl) rfl (Zb _) rfl (by simp[lim];omega)))
  |false =>
   rw[q]at hc
   rw[Zq hc]
   exact Zf (Za rfl)
 exact Zv (Zem _ _ _) rfl key (Zi (cell:=false) rfl)
theorem Jof.mono{s:List Nat}{P P':T->List (List Nat)->Prop}(hp:∀t ws,P t ws->P' t ws){t:T}{ws:List (List Nat)}(h:Jof s P t ws):Jof s P' t ws:=by
 rcases h with h|⟨q,qs,h0,h1,h2,h3,h4⟩
 ·exact .inl (hp _ _ h)
 ·exact .inr ⟨q,qs,h0,hp _ _ h1,λp hq=>hp _ _ (h2 p hq),h3,h4⟩
theorem G1.up:∀{k:Nat}{t:T}{ws:List (List Nat)},G1 k t ws->G1 (k+1) t ws
 |0,t,ws,h=>.inl h
 |k+1,t,ws,h=>by
  rcases h with h|⟨t',ws',h,e1,e2⟩|⟨ws',h,e⟩
  ·exact .inl h
  ·exact .inr (.inl ⟨t',ws',h.up,e1,e2⟩)
  ·exact .inr (.inr ⟨ws',h.mono λ_ _ z=>z.mono λ_ _ z=>z.up,e⟩)
theorem G1.leaf{k:Nat}{t:T}{ws:List (List Nat)}(h:LeafW t ws):G1 k t ws:=by
 cases k with
 |zero=>exact h
 |succ k=>exact .inl h
noncomputable def Zeb(k:Nat)(t:T)(ws:List (List Nat)):Prop:=(Zbi t=[97,110,100]->GA k t ws)/\(Zbi t=[111,114]->GO k t ws)/\(Zbi t≠[97,110,100]->Zbi t≠[111,114]->G1 k t ws)
theorem Zeb.go{k:Nat}{t:T}{ws:List (List Nat)}(h:Zeb k t ws):GO k t ws:=by
 by_cases h1:Zbi t=[97,110,100]
 ·exact .inl (h.1 h1)
 ·by_cases h2:Zbi t=[111,114]
  ·exact h.2.1 h2
  ·exact .inl (.inl (h.2.2 h1 h2))
theorem Zo5(h:List Nat):([[97,110,100],[111,114]].any λa=>a==h)=(decide (h=[97,110,100]) || decide (h=[111,114])):=by
 show([97,110,100]==h || ([111,114]==h || false))=_
 rw[Yav]
 congr 1
 ·rw[U5,beq_iff_eq,decide_eq_true_eq];exact eq_comm
 ·rw[U5,beq_iff_eq,decide_eq_true_eq];exact eq_comm
theorem Zeb.clos2{k:Nat}{t:T}{ws:List (List Nat)}(h:Zeb k t ws):G1 (k+1) t (clos [[97,110,100],[111,114]] t ws):=by
 unfold clos
 rw[Zo5]
 by_cases h1:Zbi t=[97,110,100]
 ·rw[decide_eq_true h1,Bool.true_or,if_pos rfl]
  exact .inr (.inr ⟨ws,h.go,rfl⟩)
 ·by_cases h2:Zbi t=[111,114]
  ·rw[decide_eq_true h2,YaU,if_pos rfl]
   exact .inr (.inr ⟨ws,h.go,rfl⟩)
  ·rw[decide_eq_false h1,decide_eq_false h2,Yav,if_neg Yw]
   exact(h.2.2 h1 h2).up
theorem Zeb.clos1{k:Nat}{t:T}{ws:List (List Nat)}(h:Zeb k t ws):GA (k+1) t (clos [[111,114]] t ws):=by
 unfold clos
 show GA (k+1) t (if([111,114]==Zbi t || false)=true then _ else _)
 rw[Yav]
 by_cases h2:Zbi t=[111,114]
 ·rw[h2,if_pos (by decide)]
  exact .inl (.inr (.inr ⟨ws,h.go,rfl⟩))
 ·rw[if_neg (λz=>h2 (eq_of_beq z).symm)]
  by_cases h1:Zbi t=[97,110,100]
  ·exact(h.1 h1).mono λ_ _ z=>z.up
  ·exact .inl (h.2.2 h1 h2).up
theorem ZlX(s:List Nat)(f:T->List (List Nat))(t:T)(ts:List T):Zbg s ((t::ts).map f)=(t,f t).2++((ts.map λy=>(y,f y)).flatMap λp=>s::p.2):=by
 rw[Yz,Zbg]
 congr 1
 rw[Vz,Vz]
structure Tx (d:Nat) (t:T):Prop where
 ne:cw d t≠[]
 sp:∀w∈cw d t,32∉w
 len:(Zd [32] (cw d t)).length<=60*tot d [t]
 wt:∀n m,cf (n+2*d) 18 [.t t] m=.ok (.t (.str (Zd [32] (cw d t)))) m
 st:∀k,2*d<=k+2->Zeb k t (cw d t)
theorem Zqa{d:Nat}{t:T}(h:Leaf t):Tx (d+1) t:=by
 obtain⟨h1,h2,h3,h4⟩:=ZjP (d:=d) h
 have htot:tot (d+1) [t]=1:=by rw[J9,h.kids0,Xw]
 refine⟨h4,h2,by rw[htot];exact h3,λn m=>?_,?_⟩
 ·have key:∀call,ex call gv Qc [some (.t t),none,none] m=.ok (.ret (.t (.str (Zd [32] (cw (d+1) t))))) m:=λcall=>by
   unfold Qc
   cases h with
   |any =>
    rw[Zn (QD (Za rfl))]
    exact tkEq (Za rfl) rfl (Zf (Za rfl))
   |@two w v hw hv =>
    obtain⟨_,g2,_⟩:=Xf hv
    rw[Zn (QD (Za rfl)),skEq (Za rfl) (by rcases hw with rfl|rfl<;>rfl)]
    refine tkIn (Za rfl) (by rcases hw with rfl|rfl<;>rfl) (Zf ((ZdK (r:=v) (Za rfl) rfl (Zb _) rfl (ZcJ (Za rfl)) rfl ?_).trans rfl))
    rcases hw with rfl|rfl<;>(simp[lim];omega)
   |@three w v k hw hv k0 k1 =>
    obtain⟨_,g2,_⟩:=Xf hv
    obtain⟨_,_,_,f4⟩:=ZS k0 (by omega)
    have hk:fmtT (.int k)=some (decI k):=if_pos (by omega)
    have e2:∀env:Env,env[0]?=some (some (.t (.tup [.str w,.str v,.int k])))->ev call gv (.ix (.var 0) (.con (.int 2))) env m=.ok (.t (.int k)) m:=λenv he=>Ql (Za he) (Zb _) rfl
    rw[Zn (QD (Za rfl)),skEq (Za rfl) (by rcases hw with rfl|rfl<;>rfl),skIn (Za rfl) (by rcases hw with rfl|rfl<;>rfl)]
    rcases hw with rfl|rfl
    ·refine tkEq (Za rfl) rfl (Zf ((ZdK (ZcJ (Za rfl)) rfl (Zb _) rfl (e2 _ rfl) hk (by simp[lim];omega)).trans ?_))
     show Res.ok (W.t (.str (v++[32,62,61,32]++decI k))) m=.ok (.t (.str (v++[32]++([62,61]++[32]++decI k)))) m
     simp
    ·rw[skEq (Za rfl) rfl]
     refine tkEq (Za rfl) rfl (Zf ((ZdK (ZcJ (Za rfl)) rfl (Zb _) rfl (e2 _ rfl) hk (by simp[lim];omega)).trans ?_))
     show Res.ok (W.t (.str (v++[32,60,61,32]++decI k))) m=.ok (.t (.str (v++[32]++([60,61]++[32]++decI k)))) m
     simp
  exact Zv (ZaG _ _ _) rfl (key _) (Zi (cell:=false) rfl)
 ·refine λ_ _=>⟨λz=>?_,λz=>?_,λ_ _=>.leaf h1⟩
  ·cases h with
   |any=>cases z
   |two hw _=>rcases hw with rfl|rfl<;>cases z
   |three hw _ _ _=>rcases hw with rfl|rfl<;>cases z
  ·cases h with
   |any=>cases z
   |two hw _=>rcases hw with rfl|rfl<;>cases z
   |three hw _ _ _=>rcases hw with rfl|rfl<;>cases z
theorem WT.pos{d:Nat}{t:T}(h:WT d t):1<=d:=by cases h<;>omega
theorem Tx.cons{d:Nat}{t:T}(h:WT d t):∃w r,t=.tup (.str w::r):=by
 cases h with
 |leaf h _ _=>obtain⟨w,r,e,_⟩:=Zjy h;exact⟨w,r,e⟩
 |nt _=>exact⟨_,_,rfl⟩
 |jn _ _ _ _=>exact⟨_,_,rfl⟩
theorem ZgY{d:Nat}{t:T}(h:WT d t):cw (d+1) (.tup [.str [110,111,116],t])=[110,111,116]::clos [[97,110,100],[111,114]] t (cw d t):=by
 obtain⟨w,r,rfl⟩:=Tx.cons h
 rfl
theorem Zc1{s:List (List Nat)}{t:T}{ws:List (List Nat)}(h:ws≠[]):(Zd [32] (clos s t ws)).length<=(Zd [32] ws).length+4:=by
 rw[ZdN h]
 split
 ·simp only[Yi,Yq,Y0];omega
 ·omega
theorem Zh8{s:List (List Nat)}{t:T}{ws:List (List Nat)}(h:∀w∈ws,32∉w):∀w∈clos s t ws,32∉w:=by
 unfold clos
 split
 ·intro w hw
  simp only[Ym,Y7,Yt,or_false]at hw
  rcases hw with rfl|hw|rfl
  ·decide
  ·exact h w hw
  ·decide
 ·exact h
theorem not_tx{d:Nat}{t:T}(hw:WT d t)(h:Tx d t)(hz:60*tot (d+1) [.tup [.str [110,111,116],t]]<=2400):Tx (d+1) (.tup [.str [110,111,116],t]):=by
 have htot:tot (d+1) [.tup [.str [110,111,116],t]]=1+tot d [t]:=by rw[J9,Za0]
 have hc:=ZdO (s:=[[97,110,100],[111,114]]) (t:=t) h.ne
 have hcl:=Zc1 (s:=[[97,110,100],[111,114]]) (t:=t) h.ne
 have hlen:=h.len
 have etext:Zd [32] (cw (d+1) (.tup [.str [110,111,116],t]))=[110,111,116,32]++Zd [32] (clos [[97,110,100],[111,114]] t (cw d t)):=by
  rw[ZgY hw]
  exact(Jt (a:=[[110,111,116]]) (by simp) hc).trans rfl
 refine⟨by rw[ZgY hw];simp,?_,?_,λn m=>?_,?_⟩
 ·rw[ZgY hw]
  intro w hm
  rcases Ym.mp hm with rfl|hm
  ·decide
  ·exact Zh8 h.sp w hm
 ·rw[etext,htot,Yi]
  simp only[Yq,Y0]
  omega
 ·obtain⟨a,r,rfl⟩:=Tx.cons hw
  have hi:=ZfW (N:=n+2*d) (w:=[110,111,116]) (.inl rfl) h.ne (by omega) (λm=>h.wt n m) m
  have key:ex (cf (n+2*d+1)) gv Qc [some (.t (.tup [.str [110,111,116],.tup (.str a::r)])),none,none] m=.ok (.ret (.t (.str (Zd [32] (cw (d+1) (.tup [.str [110,111,116],.tup (.str a::r)])))))) m:=by
   unfold Qc
   rw[etext,Zn (QD (Za rfl)),skEq (Za rfl) rfl,skIn (Za rfl) rfl,skEq (Za rfl) rfl,skEq (Za rfl) rfl]
   exact tkEq (Za rfl) rfl (Zf (Zqs (Zb _) rfl ((Zh (Za rfl) (ZcJ (Za rfl))).trans hi) rfl (by show 4+(Zd [32] (clos [[97,110,100],[111,114]] _ _)).length<=lim;unfold lim;omega)))
  exact Zv (ZaG _ _ _) rfl key (Zi (cell:=false) rfl)
 ·intro k hk
  obtain⟨k,rfl⟩:∃j,k=j+2:=⟨k-2,by have:=hw.pos;omega⟩
  refine⟨(λz=>by cases z),(λz=>by cases z),λ_ _=>?_⟩
  rw[ZgY hw]
  exact .inr (.inl ⟨t,_,(h.st k (by omega)).clos2,rfl,rfl⟩)
theorem Zms{d:Nat}{w:List Nat}{ts:List T}(hw:w=[97,110,100]∨w=[111,114]):cw (d+1) (.tup [.str w,.tup ts])=Zbg w (ts.map λy=>clos (kset w) y (cw d y)):=by
 rcases hw with rfl|rfl<;>rfl
theorem ZkJ{f g:T->Nat}:∀{ts:List T},(∀t∈ts,f t<=g t)->(ts.map f).sum<=(ts.map g).sum
 |[],_=>Yn _
 |t::ts,h=>by
  rw[Yz,Yz,Gd,Gd]
  exact Nat.add_le_add (h t Yv) (ZkJ λx hx=>h x (Yp _ hx))
theorem ZiH{f:T->Nat}:∀{ts:List T}{t:T},t∈ts->f t<=(ts.map f).sum
 |x::ts,t,h=>by
  rw[Yz,Gd]
  rcases Ym.mp h with rfl|h
  ·omega
  ·have:=ZiH (f:=f) h
   omega
theorem Zhq(f:T->Nat)(k c:Nat):∀ts:List T,(ts.map λt=>k*f t+c).sum=k*(ts.map f).sum+c*ts.length
 |[]=>by simp
 |t::ts=>by
  rw[Yz,Yz,Gd,Gd,Zhq f k c ts,Yq,Ybt,Ybt]
  omega
theorem ZbP(sep:List Nat):∀ys:List (List Nat),(Zd sep ys).length<=(ys.map YW).sum+ys.length*sep.length
 |[]=>by simp[Zd]
 |[x]=>by simp[Zd]
 |x::y::r=>by
  have ih:=ZbP sep (y::r)
  show(x++sep++Zd sep (y::r)).length<=_
  rw[Yi,Yi,Yz,Gd,Yq,Nat.add_mul]
  omega
theorem Zh1{call:Nat->List W->Mem->Res W}{gv:List T}{env:Env}{m m1 m2:Mem}{a b:E}{sep:List Nat}{ys:List (List Nat)}(h1:ev call gv a env m=.ok (.t (.str sep)) m1)(h2:ev call gv b env m1=.ok (.t (.lst (ys.map .str))) m2)(hz:(ys.map YW).sum+ys.length*sep.length<=lim):ev call gv (.mth .join a (.cons b .nil)) env m=.ok (.t (.str (Zd sep ys))) m2:=by
 rw[ev,h1,Ze,ZoB,if_pos rfl,Zo h2 QG,Ze]
 have hs:strs? (ys.map T.str)=some ys:=by
  have:=strs_map (λx:List Nat=>x) ys
  simpa using this
 exact ZoV hs hz
theorem Zi8{call:Nat->List W->Mem->Res W}{gv:List T}{m:Mem}{c cl:E}{env:Env}{ts:List T}{x1:W}{w:List Nat}{f:T->List Nat}(hc:c=.comp 1 [1] (.ix (.var 0) (.con (.int 1))) (.nm 0) .nil (.emit cl))(h0:env[0]?=some (some (.t (.tup [.str w,.tup ts]))))(h1:env[1]?=some (some x1))(hl:ts.length<=100)(hf:∀t∈ts,ev call gv cl [some (.t t),some x1] m=.ok (.t (.str (f t))) m):
  ev call gv c env m=.ok (.t (.lst ((ts.map f).map .str))) m:=by
 subst hc
 have h:=Z0 (f:=Qj call gv .nil (.emit cl)) (tg:=.nm 0) (env:=[none,some x1]) (m:=m) (g:=λt=>[.str (f t)]) ts (λt ht=>⟨[some (.t t),some x1],rfl,Zdc (Jx (hf t ht))⟩)
 rw[Qa,show(ts.map λt=>T.str (f t))=(ts.map f).map T.str by rw[Wa];rfl]at h
 refine ZL (x:=.t (.tup ts)) (m0:=m) (m1:=m) (ZcJ (Za h0)) rfl ?_ (by rw[Yc,Yc];unfold lim;omega)
 rw[show(Yo 1 none++[1].map λi=>(env[i]?).join)=[none,some x1] by simp[h1]]
 exact h
theorem jn_tx{d:Nat}{w:List Nat}{ts:List T}(hw:w=[97,110,100]∨w=[111,114])(h2:2<=ts.length)(h6:ts.length<=6)(hts:∀t∈ts,WT d t)(h:∀t∈ts,Tx d t)(hz:60*tot (d+1) [.tup [.str w,.tup ts]]<=2400):Tx (d+1) (.tup [.str w,.tup ts]):=by
 have htot:tot (d+1) [.tup [.str w,.tup ts]]=1+(ts.map λx=>tot d [x]).sum:=by rw[J9,Zcm hw h2 h6,ZeT]
 have hsum:(ts.map λt=>(Zd [32] (clos (kset w) t (cw d t))).length).sum<=60*(ts.map λx=>tot d [x]).sum+4*ts.length:=by
  rw[<-Zhq]
  exact ZkJ λt ht=>Y5 (Zc1 (h t ht).ne) (Nat.add_le_add_right (h t ht).len 4)
 have hw3:w.length<=3:=by rcases hw with rfl|rfl<;>decide
 have hsz:((ts.map λt=>Zd [32] (clos (kset w) t (cw d t))).map YW).sum+(ts.map λt=>Zd [32] (clos (kset w) t (cw d t))).length*(32::w++[32]).length<=60*(1+(ts.map λx=>tot d [x]).sum):=by
  rw[Wa,Yc]
  have e:(32::w++[32]).length<=5:=by simp;omega
  have e2:ts.length*(32::w++[32]).length<=ts.length*5:=Nat.mul_le_mul_left _ e
  have e3:(Yae (YW ∘ λt=>Zd [32] (clos (kset w) t (cw d t))) ts).sum=(ts.map λt=>(Zd [32] (clos (kset w) t (cw d t))).length).sum:=rfl
  rw[e3]
  omega
 have etext:Zd [32] (cw (d+1) (.tup [.str w,.tup ts]))=Zd (32::w++[32]) (ts.map λt=>Zd [32] (clos (kset w) t (cw d t))):=by
  rw[Zms hw,<-Zcn,Wa]
  ·rfl
  ·intro x hx
   obtain⟨t,ht,rfl⟩:=YK.mp hx
   exact ZdO (h t ht).ne
 have hwn:w=[110,111,116]∨w=[97,110,100]∨w=[111,114]:=.inr hw
 have each:∀t∈ts,(Zd [32] (cw d t)).length<=3000:=λt ht=>by
  have a1:=(h t ht).len
  have a2:tot d [t]<=(ts.map λx=>tot d [x]).sum:=ZiH (f:=λx=>tot d [x]) ht
  omega
 refine⟨?_,?_,?_,λn m=>?_,?_⟩
 ·rw[Zms hw]
  cases ts with
  |nil=>simp at h2
  |cons t ts=>exact ZiL (ZdO (h t Yv).ne)
 ·rw[Zms hw]
  cases ts with
  |nil=>simp at h2
  |cons t ts =>
   intro x hx
   rw[Yz,Zbg]at hx
   rcases Y7.mp hx with hx|hx
   ·exact Zh8 (h t Yv).sp x hx
   ·obtain⟨y,hy,hx⟩:=VB.mp hx
    obtain⟨t',ht',rfl⟩:=YK.mp hy
    rcases Ym.mp hx with rfl|hx
    ·rcases hw with rfl|rfl<;>decide
    ·exact Zh8 (h t' (Yp _ ht')).sp x hx
 ·rw[etext,htot]
  exact Y5 (ZbP _ _) hsz
 ·have key:ex (cf (n+2*d+1)) gv Qc [some (.t (.tup [.str w,.tup ts])),none,none] m=.ok (.ret (.t (.str (Zd [32] (cw (d+1) (.tup [.str w,.tup ts])))))) m:=by
   unfold Qc
   rw[etext,Zn (QD (Za rfl)),skEq (Za rfl) (by rcases hw with rfl|rfl<;>rfl),skIn (Za rfl) (by rcases hw with rfl|rfl<;>rfl),skEq (Za rfl) (by rcases hw with rfl|rfl<;>rfl),skEq (Za rfl) (by rcases hw with rfl|rfl<;>rfl),skEq (Za rfl) (by rcases hw with rfl|rfl<;>rfl)]
   rw[Zn (ZdK (Zb _) rfl (Za rfl) rfl (Zb _) rfl (by simp[lim];omega))]
   dsimp only[Yk,Yl]
   refine Zf (Zh1 (Za rfl) (Zi8 (f:=λt=>Zd [32] (clos (kset w) t (cw d t))) rfl rfl rfl (by omega) λt ht=>?_) (Y5 hsz (by unfold lim;omega)))
   obtain⟨a,r,rfl⟩:=Tx.cons (hts t ht)
   exact(Zh (Za rfl) (Za rfl)).trans (ZfW hwn (h _ ht).ne (each _ ht) (λm=>(h _ ht).wt n m) m)
  exact Zv (ZaG _ _ _) rfl key (Zi (cell:=false) rfl)
 ·intro k hk
  cases ts with
  |nil=>simp at h2
  |cons t ts =>
   obtain⟨k,rfl⟩:∃j,k=j+2:=⟨k-2,by have:=(hts t Yv).pos;omega⟩
   have hq:2*d<=k+2:=by omega
   have hne:ts≠[]:=by intro z;subst z;simp at h2
   rw[Zms hw,ZlX]
   rcases hw with rfl|rfl
   ·refine⟨λ_=>?_,(λz=>by cases z),λz _=>absurd rfl z⟩
    refine .inr ⟨(t,clos (kset [97,110,100]) t (cw d t)),ts.map λy=>(y,clos (kset [97,110,100]) y (cw d y)),by simpa using hne,((h t Yv).st k hq).clos2.up,λp hp=>?_,?_,rfl⟩
    ·obtain⟨y,hy,rfl⟩:=YK.mp hp
     exact((h y (Yp _ hy)).st k hq).clos2.up
    ·rw[Wa]
     show T.tup _=T.tup [_,T.tup (t::ts.map (λy=>y))]
     rw[Vv]
   ·refine⟨(λz=>by cases z),λ_=>?_,λ_ z=>absurd rfl z⟩
    refine .inr ⟨(t,clos (kset [111,114]) t (cw d t)),ts.map λy=>(y,clos (kset [111,114]) y (cw d y)),by simpa using hne,((h t Yv).st k hq).clos1.mono (λ_ _ z=>z.up),λp hp=>?_,?_,rfl⟩
    ·obtain⟨y,hy,rfl⟩:=YK.mp hp
     exact((h y (Yp _ hy)).st k hq).clos1.mono (λ_ _ z=>z.up)
    ·rw[Wa]
     show T.tup _=T.tup [_,T.tup (t::ts.map (λy=>y))]
     rw[Vv]
theorem Zo4:∀{d:Nat}{t:T},WT d t->60*tot d [t]<=2400->Tx d t:=by
 intro d t h
 induction h with
 |leaf hp _ _=>exact λ_=>Zqa (Zfv hp)
 |@nt d a hw ih =>
  intro hz
  have htot:tot (d+1) [.tup [.str [110,111,116],a]]=1+tot d [a]:=by rw[J9,Za0]
  exact not_tx hw (ih (by omega)) hz
 |@jn d w ts hw h2 h6 hts ih =>
  intro hz
  refine jn_tx hw h2 h6 hts (λt ht=>ih t ht ?_) hz
  have htot:tot (d+1) [.tup [.str w,.tup ts]]=1+(ts.map λx=>tot d [x]).sum:=by rw[J9,Zcm hw h2 h6,ZeT]
  have a2:tot d [t]<=(ts.map λx=>tot d [x]).sum:=ZiH (f:=λx=>tot d [x]) ht
  omega
theorem Zof:∀(n:Nat) (t:T),Zm n t=true->eqT t t=true:=by
 intro n
 induction n with
 |zero =>
  intro t h
  cases t with
  |non=>rfl
  |bl b=>simp[eqT]
  |int b=>simp[eqT]
  |str b=>simp[eqT]
  |tup ts=>simp[Zm]at h
  |lst ts=>simp[Zm]at h
  |dct ks ts=>simp[Zm]at h
  |scr ns=>simp[Zm]at h
 |succ n ih =>
  have hl:∀ts:List T,ZK n ts=true->eqTs ts ts=true:=by
   intro ts
   induction ts with
   |nil=>intro _;rfl
   |cons t ts iht =>
    intro h
    rw[ZK,Yg]at h
    rw[eqTs,ih t h.1,iht h.2]
    rfl
  intro t h
  cases t with
  |tup ts=>rw[Zm]at h;rw[eqT];exact hl ts h
  |lst ts=>rw[Zm]at h;rw[eqT];exact hl ts h
  |non=>rfl
  |bl b=>simp[eqT]
  |int b=>simp[eqT]
  |str b=>simp[eqT]
  |dct ks ts=>simp[Zm]at h
  |scr ns=>simp[Zm]at h
theorem Zp3{t:T}(h:Zm 60 t=true):cmpT .NotEq t t=some false:=by
 show(if(Zht t t || (Zm 60 t&&Zm 60 t))=true then some (!eqT t t)else none)=_
 rw[h,YaC,YaU,if_pos rfl,Zof 60 t h]
 rfl
theorem Zaf{k:Nat}{w:List Nat}(h:Qh w=true):Zm k (.str w)=true:=by
 unfold Zm
 show(w.toArray.all λc=>decide (c<0x110000))=true
 rw[List.all_toArray,Yr]
 intro c hc
 have:c<200:=by
  unfold Qh at h
  simp only[Yg]at h
  exact(by decide:∀c∈lett,c<200) c (of_decide_eq_true (Yr.mp h.2 c hc))
 exact decide_eq_true (by omega)
theorem Qm{k:Nat}:∀{ts:List T},(∀t∈ts,Zm k t=true)->ZK k ts=true
 |[],_=>by unfold ZK;rfl
 |t::ts,h=>by
  unfold ZK
  rw[h t Yv,Qm λu hu=>h u (Yp _ hu)]
  rfl
theorem Zae{k:Nat}{w:List Nat}(h:∀c∈w,c<1114112):Zm k (.str w)=true:=by
 unfold Zm
 show(w.toArray.all λc=>decide (c<0x110000))=true
 rw[List.all_toArray,Yr]
 exact λc hc=>decide_eq_true (h c hc)
theorem Zp9{k:Nat}{t:T}(h:Leaf t):Zm (k+1) t=true:=by
 cases h with
 |any=>rw[Zm];exact Qm λx hx=>by simp at hx;subst hx;exact Zae (by decide)
 |@two w v hw hv =>
  rw[Zm]
  refine Qm λx hx=>?_
  simp only[Ym,Yt,or_false]at hx
  rcases hx with rfl|rfl
  ·rcases hw with rfl|rfl<;>exact Zae (by decide)
  ·exact Zaf hv
 |@three w v n hw hv _ _ =>
  rw[Zm]
  refine Qm λx hx=>?_
  simp only[Ym,Yt,or_false]at hx
  rcases hx with rfl|rfl|rfl
  ·rcases hw with rfl|rfl<;>exact Zae (by decide)
  ·exact Zaf hv
  ·unfold Zm;rfl
mutual
noncomputable def fits:T->Bool
 |.str cs=>decide (cs.length<=lim)
 |.tup ts=>Zac ts
 |_=>true
noncomputable def Zac:List T->Bool
 |[]=>true
 |t::ts=>fits t&&Zac ts
end
theorem Qe:∀{ts:List T}{t:T},Zac ts=true->t∈ts->fits t=true
 |a::ts,t,h,ht=>by
  rw[Zac,Yg]at h
  rcases Ym.mp ht with rfl|ht
  ·exact h.1
  ·exact Qe h.2 ht
theorem ZcZ:∀{ts:List T},(∀t∈ts,fits t=true)->Zac ts=true
 |[],_=>by rw[Zac]
 |a::ts,h=>by
  rw[Zac,h a Yv,ZcZ λt ht=>h t (Yp _ ht)]
  rfl
theorem ZgV{t:T}(h:fits t=true):fitL t:=by
 rintro cs rfl
 rw[fits]at h
 exact of_decide_eq_true h
theorem fits_1{t:T}(h:fits t=true):fit1 t:=by
 cases t with
 |tup ts=>rw[fits]at h;exact λu hu=>ZgV (Qe h hu)
 |_=>exact W4
theorem Zmf{x:T}(h:fits x=true):∀y∈kids x,fits y=true:=by
 intro y hy
 unfold kids at hy
 split at hy
 ·rename_i a b
  rw[fits,Zac,Zac,Zac,Yg,Yg]at h
  split at hy
  ·rw[YX]at hy;subst hy;exact h.2.1
  ·split at hy
   ·cases b with
    |tup ts=>exact Qe (by have:=h.2.1;rw[fits]at this;exact this) hy
    |_=>cases hy
   ·cases hy
 ·cases hy
theorem ZiU:∀(k:Nat) (l:List T),(∀t∈l,fits t=true)->∀y∈lay k l,fits y=true
 |0,l,h=>h
 |k+1,l,h=>ZiU k _ λt ht=>by
  obtain⟨x,hx,hk⟩:=VB.mp ht
  exact Zmf (h x hx) t hk
theorem Zoc{x:T}(h:fits x=true):Fit x:=λk y hy=>fits_1 (ZiU k [x] (λt ht=>by rw[YX]at ht;subst ht;exact h) y hy)
section
variable{call:Nat->List W->Mem->Res W}{gv:List T}{env:Env}{m m1 m2:Mem}{a b e:E}{x y r:T}{w:W}{f:Nat}{bb:B}
theorem Zh2(h1:ev call gv a env m=.ok (.t x) m1)(h2:ev call gv b env m1=.ok (.t y) m2)(hb:bltT bb [x,y]=some r):ev call gv (.blt bb (.cons a (.cons b .nil))) env m=.ok (.t r) m2:=by
 simp only[ev,evs,h1,h2,Ze,ZkC,ZkB,Option.map_some,WD,hb]
 rfl
end
noncomputable def ZbF:List (List Nat)->Bool
 |a::b::r=>nlt a b&&ZbF (b::r)
 |_=>true
theorem Ziv:∀ws:List (List Nat),((Wh (ws.length-1)).map λk=>nlt (ws.getD k []) (ws.getD (k+1) [])).all id=ZbF ws
 |[]=>rfl
 |[a]=>rfl
 |a::b::r=>by
  have ih:=Ziv (b::r)
  have e:(a::b::r).length-1=((b::r).length-1)+1:=by simp
  rw[e,List.range_succ_eq_map,Yz,Uz,Wa,ZbF,<-ih]
  rfl
theorem ZiZ{ws:List (List Nat)}{k:Nat}(h:k<ws.length):atT (ws.map T.str) (k:Int)=some (.str (ws.getD k [])):=by
 rw[ZoX (by omega) (by rw[Yc];omega)]
 simp[h]
theorem l_rng2{i j:Int}(h:(i<2^62/\-(2^62)<=i)/\j<2^62/\-(2^62)<=j):bltT .range2 [.int i,.int j]=some (.lst (rangeT i (j-i).toNat)):=if_pos h
theorem Zk0(ws:List (List Nat))(l:List Nat):(l.map λk:Nat=>T.int (1+(k:Int))).flatMap (λt=>match t with|.int i=>[T.bl (nlt (ws.getD (i.toNat-1) []) (ws.getD i.toNat []))]|_=>[])=l.map λk=>.bl (nlt (ws.getD k []) (ws.getD (k+1) [])):=by
 induction l with
 |nil=>rfl
 |cons k l ih =>
  rw[Yz,Gy,ih,Yz]
  have e3:(1+(k:Int)).toNat=k+1:=by omega
  simp[e3]
theorem ZkX{n:Nat}{m:Mem}{x:T}{ws:List (List Nat)}(hix:∀k:Nat,k<ws.length->ixT x (.int (k:Int))=some (.str (ws.getD k []))){k:Nat}(hk:k+1<ws.length):
  Qj (cf n) gv .nil ZcW [some (.t (.int (1+(k:Int)))),some (.t x)] m=.ok [.bl (nlt (ws.getD k []) (ws.getD (k+1) []))] m:=by
 have e1:(1+(k:Int))-1=((k:Nat):Int):=by omega
 have e2:(1+(k:Int))=((k+1:Nat):Int):=by omega
 have i1:=hix k (by omega)
 have i2:=hix (k+1) (by omega)
 rw[<-e1]at i1
 rw[<-e2]at i2
 simp[Qj,tests,ZcW,ev,evs,isT,Zj,EVs,i1,i2,cmpT,Zei,ltT,inT]
theorem Znd{n:Nat}{m:Mem}{x:T}{k:Nat}(hlen:bltT .len [x]=some (.int (k:Int)))(hk:k<=1000):ev (cf n) gv (.blt .range2 (.cons (.con (.int 1)) (.cons (.blt .len (.cons (.var 0) .nil)) .nil))) [some (.t x)] m=.ok (.t (.lst (rangeT 1 ((k:Int)-1).toNat))) m:=by
 have hb:(k:Int)<2^62:=by
  have:(1000:Int)<2^62:=by decide
  omega
 have hb2:-(2^62)<=(k:Int):=by omega
 have h2:bltT .range2 [.int 1,.int (k:Int)]=some (.lst (rangeT 1 ((k:Int)-1).toNat)):=l_rng2 ⟨⟨by decide,by decide⟩,hb,hb2⟩
 have h3:ev (cf n) gv (.blt .len (.cons (.var 0) .nil)) [some (.t x)] m=.ok (.t (.int k)) m:=Zy (by rw[ev];rfl) hlen
 exact Zh2 (by rw[ev]) h3 h2
theorem Zk1{n:Nat}{m:Mem}{x:T}{ws:List (List Nat)}(hix:∀k:Nat,k<ws.length->ixT x (.int (k:Int))=some (.str (ws.getD k [])))(hlen:bltT .len [x]=some (.int ws.length))(hl:ws.length<=1000):
  ev (cf n) gv ZiX [some (.t x)] m=.ok (.t (.lst ((Wh (ws.length-1)).map λk=>.bl (nlt (ws.getD k []) (ws.getD (k+1) []))))) m:=by
 have h:=Z0 (f:=Qj (cf n) gv .nil ZcW) (tg:=.nm 0) (env:=[none,some (.t x)]) (m:=m)
  (g:=λt=>match t with|.int i=>[.bl (nlt (ws.getD (i.toNat-1) []) (ws.getD i.toNat []))]|_=>[]) (rangeT 1 ((ws.length:Int)-1).toNat) (λt ht=>by
   unfold rangeT at ht
   obtain⟨k,hk,rfl⟩:=YK.mp ht
   have hk:=Yaf.mp hk
   refine⟨[some (.t (.int (1+(k:Int)))),some (.t x)],rfl,?_⟩
   have e3:(1+(k:Int)).toNat=k+1:=by omega
   simp only[e3,Nat.add_sub_cancel]
   exact ZkX hix (by omega))
 have e:(rangeT 1 ((ws.length:Int)-1).toNat).flatMap (λt=>match t with|.int i=>[T.bl (nlt (ws.getD (i.toNat-1) []) (ws.getD i.toNat []))]|_=>[])=(Wh (ws.length-1)).map λk=>.bl (nlt (ws.getD k []) (ws.getD (k+1) [])):=by
  rw[<-Zk0]
  unfold rangeT
  rw[show((ws.length:Int)-1).toNat=ws.length-1 by omega]
 rw[e]at h
 have hz:((Wh (ws.length-1)).map λk=>T.bl (nlt (ws.getD k []) (ws.getD (k+1) []))).length<=lim:=by
  rw[Yc,W7];unfold lim;omega
 exact ZL (x:=.t (.lst (rangeT 1 ((ws.length:Int)-1).toNat))) (m0:=m) (m1:=m) (Znd hlen hl) rfl h hz
theorem ZkZ{n:Nat}{m:Mem}{x:T}{ws:List (List Nat)}(hx:x=.tup (ws.map .str)∨x=.lst (ws.map .str))(hl:ws.length<=1000):cf (n+1) 5 [.t x] m=.ok (.t (.bl (ZbF ws))) m:=by
 have hix:∀k:Nat,k<ws.length->ixT x (.int (k:Int))=some (.str (ws.getD k [])):=λk hk=>by
  rcases hx with rfl|rfl
  ·rw[x_tup,ZiZ hk]
  ·rw[x_lst,ZiZ hk]
 have hlen:bltT .len [x]=some (.int ws.length):=by
  rcases hx with rfl|rfl
  ·rw[Zn2,Yc]
  ·rw[ZlP,Yc]
 have hc:=Zk1 (n:=n) (m:=m) hix hlen hl
 have ha:=ZjU (Jz (λk=>nlt (ws.getD k []) (ws.getD (k+1) [])) (Wh (ws.length-1)))
 rw[Ziv]at ha
 have key:ex (cf n) gv Zhm [some (.t x)] m=.ok (.ret (.t (.bl (ZbF ws)))) m:=by
  unfold Zhm
  exact Zf (Zy hc ha)
 exact Zv (Zqz _ _ _) rfl key (Zi (cell:=false) rfl)
noncomputable def strO:T->List Nat
 |.str c=>c
 |_=>[]
theorem Zea:∀{ts:List T},ts.all Jq=true->ts=(ts.map strO).map .str
 |[],_=>rfl
 |t::ts,h=>by
  rw[Uz,Yg]at h
  rw[Yz,Yz,<-Zea h.2]
  cases t with
  |str c=>rfl
  |_=>cases h.1
noncomputable def ZbM:T->Bool
 |.tup ts=>decide (ts.length<=6)&&(ts.all Jq&&ZbF (ts.map strO))
 |_=>false
theorem Zn1{n:Nat}{m:Mem}{x:T}(h:fits x=true):cf (n+3) 6 [.t x] m=.ok (.t (.bl (ZbM x))) m:=by
 have key:ex (cf (n+2)) gv JP [some (.t x)] m=.ok (.ret (.t (.bl (ZbM x)))) m:=by
  unfold JP
  cases x with
  |tup ts =>
   by_cases hl:ts.length<=6
   ·have hl':¬(6:Int)<ts.length:=by omega
    rw[Zq (m1:=m) (by simp[ev,evs,isT,Zj,EVs,ZbV,hl'])]
    have hc:ev (cf (n+2)) gv Zb5 [some (.t (.tup ts))] m=.ok (.t (.lst (ts.map λt=>.bl (Jq t)))) m:=by
     have h3:=Z0 (f:=Qj (cf (n+2)) gv .nil Zaa) (tg:=.nm 0) (env:=[none]) (m:=m) (g:=λt=>[.bl (Jq t)]) ts (λt ht=>⟨[some (.t t)],rfl,by
      rw[fits]at h
      simp[Qj,tests,Zaa,ev,evs,isT,Zj,EVs,Jp (n:=n) (ZgV (Qe h ht))]⟩)
     rw[Qa]at h3
     exact ZL (x:=.t (.tup ts)) (m0:=m) rfl rfl h3 (by rw[Yc];unfold lim;omega)
    have ha:=ZjU (Jz Jq ts)
    have hb:(ts.map Jq).all id=ts.all Jq:=by rw[Gs];rfl
    rw[hb]at ha
    refine Zf ?_
    cases hw:ts.all Jq with
    |false =>
     rw[hw]at ha
     simp only[ZbM,hw]
     simp[ev,evs,isT,Zj,EVs,hc,ha]
    |true =>
     rw[hw]at ha
     have hr:=ZkZ (n:=n+1) (m:=m) (x:=.tup ts) (ws:=ts.map strO) (.inl (congrArg T.tup (Zea hw))) (by rw[Yc];omega)
     simp only[ZbM,hw,decide_eq_true hl]
     simp[ev,evs,isT,Zj,EVs,hc,ha,hr]
   ·have hl':(6:Int)<ts.length:=by omega
    refine Zw (m1:=m) (by simp[ev,evs,isT,Zj,EVs,ZbV,hl']) (Zf ?_)
    simp only[ZbM,decide_eq_false hl]
    simp[ev,evs,isT,Zj,EVs]
  |_=>exact Zw (m1:=m) rfl (Zf rfl)
 exact Zv (Zhb _ _ _) rfl key (Zi (cell:=false) rfl)
noncomputable def Zbb:T->Bool
 |.tup [a,b]=>Jq a&&numB b
 |_=>false
theorem Zpd{n:Nat}{m:Mem}{x:T}(h:fits x=true):cf (n+3) 7 [.t x] m=.ok (.t (.bl (Zbb x))) m:=by
 have key:ex (cf (n+2)) gv ZaO [some (.t x)] m=.ok (.ret (.t (.bl (Zbb x)))) m:=by
  unfold ZaO
  refine Zf ?_
  cases x with
  |tup ts =>
   match ts,h with
   |[],_=>rfl
   |[a],_=>rfl
   |[a,b],h =>
    rw[fits]at h
    have hw:=Jp (n:=n) (m:=m) (x:=a) (ZgV (Qe h (by simp)))
    have hn:=J6 (n:=n) (m:=m) (x:=b)
    cases hwa:Jq a<;>simp[ev,evs,isT,Zj,EVs,at0,at1,hw,hn,hwa,Zbb]
   |a::b::c::r,_ =>
    have h1:¬(r.length:Int)+1+1+1=2:=by omega
    simp[ev,evs,isT,Zj,EVs,Zbb,h1]
  |_=>rfl
 exact Zv (Zkj _ _ _) rfl key (Zi (cell:=false) rfl)
noncomputable def fstO:T->T
 |.tup (a::_)=>a
 |_=>.non
theorem Zim{t:T}(h:Zbb t=true):∃a b,t=.tup [a,b]/\Jq a=true:=by
 unfold Zbb at h
 split at h
 ·rw[Yg]at h
  exact⟨_,_,rfl,h.1⟩
 ·cases h
noncomputable def Zct:T->Bool
 |.tup ts=>decide (ts.length<=6)&&(ts.all Zbb&&ZbF ((ts.map fstO).map strO))
 |_=>false
theorem Zm7{n:Nat}{m:Mem}{x:T}(h:fits x=true):cf (n+4) 8 [.t x] m=.ok (.t (.bl (Zct x))) m:=by
 have key:ex (cf (n+3)) gv JM [some (.t x)] m=.ok (.ret (.t (.bl (Zct x)))) m:=by
  unfold JM
  cases x with
  |tup ts =>
   rw[fits]at h
   by_cases hl:ts.length<=6
   ·have hl':¬(6:Int)<ts.length:=by omega
    rw[Zq (m1:=m) (by simp[ev,evs,isT,Zj,EVs,ZbU,hl'])]
    have hc:ev (cf (n+3)) gv Zb3 [some (.t (.tup ts))] m=.ok (.t (.lst (ts.map λt=>.bl (Zbb t)))) m:=by
     have h3:=Z0 (f:=Qj (cf (n+3)) gv .nil X7) (tg:=.nm 0) (env:=[none]) (m:=m) (g:=λt=>[.bl (Zbb t)]) ts (λt ht=>⟨[some (.t t)],rfl,by
      simp[Qj,tests,X7,ev,evs,isT,Zj,EVs,Zpd (n:=n) (Qe h ht)]⟩)
     rw[Qa]at h3
     exact ZL (x:=.t (.tup ts)) (m0:=m) rfl rfl h3 (by rw[Yc];unfold lim;omega)
    have ha:=ZjU (Jz Zbb ts)
    have hb:(ts.map Zbb).all id=ts.all Zbb:=by rw[Gs];rfl
    rw[hb]at ha
    refine Zf ?_
    cases hw:ts.all Zbb with
    |false =>
     rw[hw]at ha
     simp only[Zct,hw]
     simp[ev,evs,isT,Zj,EVs,hc,ha]
    |true =>
     rw[hw]at ha
     have hs:∀t∈ts,Zbb t=true:=λt ht=>Yr.mp hw t ht
     have hf:ev (cf (n+3)) gv Zb4 [some (.t (.tup ts))] m=.ok (.t (.lst (ts.map fstO))) m:=by
      have h3:=Z0 (f:=Qj (cf (n+3)) gv .nil X8) (tg:=.nm 0) (env:=[none]) (m:=m) (g:=λt=>[fstO t]) ts (λt ht=>⟨[some (.t t)],rfl,by
       obtain⟨a,b,rfl,_⟩:=Zim (hs t ht)
       simp[Qj,tests,X8,ev,evs,isT,Zj,EVs,at0,fstO]⟩)
      rw[Qa]at h3
      exact ZL (x:=.t (.tup ts)) (m0:=m) rfl rfl h3 (by rw[Yc];unfold lim;omega)
     have hw2:(ts.map fstO).all Jq=true:=Yr.mpr λt ht=>by
      obtain⟨u,hu,rfl⟩:=YK.mp ht
      obtain⟨a,b,rfl,hwa⟩:=Zim (hs u hu)
      exact hwa
     have hr:=ZkZ (n:=n+2) (m:=m) (x:=.lst (ts.map fstO)) (ws:=(ts.map fstO).map strO) (.inr (congrArg T.lst (Zea hw2))) (by rw[Yc,Yc];omega)
     simp only[Zct,hw,decide_eq_true hl,YaC]
     rw[Zh3 (Zy hc ha),Zr hf]
     exact hr
   ·have hl':(6:Int)<ts.length:=by omega
    refine Zw (m1:=m) (by simp[ev,evs,isT,Zj,EVs,ZbU,hl']) (Zf ?_)
    simp only[Zct,decide_eq_false hl]
    simp[ev,evs,isT,Zj,EVs]
  |_=>exact Zw (m1:=m) rfl (Zf rfl)
 exact Zv (Zha _ _ _) rfl key (Zi (cell:=false) rfl)
noncomputable def Zeo:T->Bool
 |.tup [a,b,c,d]=>Jq a&&(Jq b&&(ZbM c&&Zct d))
 |_=>false
theorem at3{α:Type}(a b c d:α)(r:List α):atT (a::b::c::d::r) 3=some d:=by
 have:(3:Int)<(r.length:Int)+1+1+1+1:=by omega
 simp[atT,ixOf,this]
theorem Zov{ts:List T}(h:¬ts.length=4):Zeo (.tup ts)=false:=by
 unfold Zeo
 split
 ·rename_i e;cases e;exact absurd rfl h
 ·rfl
theorem ZjY{n:Nat}{m:Mem}{x:T}(h:fits x=true):cf (n+5) 9 [.t x] m=.ok (.t (.bl (Zeo x))) m:=by
 have key:ex (cf (n+4)) gv ZaP [some (.t x)] m=.ok (.ret (.t (.bl (Zeo x)))) m:=by
  unfold ZaP
  cases x with
  |tup ts =>
   by_cases hl:ts.length=4
   ·match ts,hl,h with
    |[a,b,c,d],_,h =>
     rw[fits]at h
     have ha:=Jp (n:=n+2) (m:=m) (x:=a) (ZgV (Qe h (by simp)))
     have hb:=Jp (n:=n+2) (m:=m) (x:=b) (ZgV (Qe h (by simp)))
     have hc:=Zn1 (n:=n+1) (m:=m) (x:=c) (Qe h (by simp))
     have hd:=Zm7 (n:=n) (m:=m) (x:=d) (Qe h (by simp))
     rw[Zq (m1:=m) rfl]
     refine Zf ?_
     cases hwa:Jq a<;>cases hwb:Jq b<;>cases hmc:ZbM c<;>simp[ev,evs,isT,Zj,EVs,at0,at1,at2,at3,ha,hb,hc,hd,hwa,hwb,hmc,Zeo]
   ·have hl':¬(ts.length:Int)=4:=by omega
    exact Zw (m1:=m) (by simp[ev,evs,isT,Zj,EVs,hl']) (Zf (by simp[ev,evs,isT,Zj,EVs,Zov hl]))
  |_=>exact Zw (m1:=m) rfl (Zf rfl)
 exact Zv (Zkk _ _ _) rfl key (Zi (cell:=false) rfl)
theorem ZjX{n:Nat}{m:Mem}{x:T}:cf (n+3) 4 [.t x] m=.ok (.t (.bl (numB x))) m:=by
 rw[Zki]
 simp[Zb6,ex,ev,evs,Res.bind,J6,fin]
noncomputable def betB(x:T)(lo hi:Int):Bool:=match x with
 |.int i=>decide (lo<=i)&&decide (i<=hi)
 |_=>false
theorem ZmG{n:Nat}{m:Mem}{x:T}{lo hi:Int}:cf (n+2) 16 [.t x,.t (.int lo),.t (.int hi)] m=.ok (.t (.bl (betB x lo hi))) m:=by
 rw[ZfN]
 cases x with
 |int i=>by_cases h:lo<=i<;>simp[Je,ex,ev,evs,Res.bind,view,pur,isT,ZcR,fin,X6,cmpT,Zei,ltT,inT,betB,h]
 |_=>simp[Je,ex,ev,evs,Res.bind,view,pur,isT,ZcR,fin,X6,betB]
noncomputable def sides:List (List Nat):=[[103,105,118,101],[116,97,107,101],[98,101,97,114]]
noncomputable def ZgK(x y:T):Bool:=match y with
 |.int k=>betB x 1 k
 |_=>false
noncomputable def Zal:T->Bool
 |.tup [a,b,c,d,e,f,g]=>oneOf a sides&&(Zeo b&&(Zaz c&&(betB d 1 1000000&&(ZgK e d&&(betB f 0 1000&&numB g)))))
 |_=>false
theorem Zly{ts:List T}(h:¬ts.length=7):Zal (.tup ts)=false:=by
 unfold Zal
 split
 ·rename_i e;cases e;exact absurd rfl h
 ·rfl
theorem Zlv{n:Nat}{m:Mem}{x:T}:cf (n+1) 10 [.t x,.t (.tup [.str [103,105,118,101],.str [116,97,107,101],.str [98,101,97,114]])] m=.ok (.t (.bl (oneOf x sides))) m:=Zds (ws:=sides)
theorem ZhU{n:Nat}{m:Mem}{x:T}(h:fits x=true):cf (n+6) 17 [.t x] m=.ok (.t (.bl (Zal x))) m:=by
 have key:ex (cf (n+5)) gv Xp [some (.t x),none,none,none,none,none,none,none] m=.ok (.ret (.t (.bl (Zal x)))) m:=by
  unfold Xp
  cases x with
  |tup ts =>
   by_cases hl:ts.length=7
   ·match ts,hl,h with
    |[a,b,c,d,e,f,g],_,h =>
     rw[fits]at h
     rw[Zq (m1:=m) rfl]
     rw[Zbj (t:=.tup [a,b,c,d,e,f,g]) (m1:=m) (env':=[some (.t (.tup [a,b,c,d,e,f,g])),some (.t a),some (.t b),some (.t c),some (.t d),some (.t e),some (.t f),some (.t g)]) rfl rfl]
     generalize hE:([some (.t (.tup [a,b,c,d,e,f,g])),some (.t a),some (.t b),some (.t c),some (.t d),some (.t e),some (.t f),some (.t g)]:Env)=env
     have hside:ev (cf (n+5)) gv (.call 10 (.cons (.var 1) (.cons (.gl 10) .nil))) env m=.ok (.t (.bl (oneOf a sides))) m:=by subst hE;exact(Zbk (Zo (Za rfl) (Zo (ZcP Zn8) QG))).trans (Zlv (n:=n+4))
     have hcard:ev (cf (n+5)) gv (.call 9 (.cons (.var 2) .nil)) env m=.ok (.t (.bl (Zeo b))) m:=by subst hE;exact(Zbk (Zo (Za rfl) QG)).trans (ZjY (n:=n) (Qe h (show b∈[a,b,c,d,e,f,g] by simp)))
     have hwish:ev (cf (n+5)) gv (.call 15 (.cons (.var 3) .nil)) env m=.ok (.t (.bl (Zaz c))) m:=by subst hE;exact(Zbk (Zo (Za rfl) QG)).trans (ZeK (n:=n) (Zoc (Qe h (show c∈[a,b,c,d,e,f,g] by simp))))
     have hmany:ev (cf (n+5)) gv (.call 16 (.cons (.var 4) (.cons (.con (.int 1)) (.cons (.gl 11) .nil)))) env m=.ok (.t (.bl (betB d 1 1000000))) m:=by subst hE;exact(Zbk (Zo (Za rfl) (Zo (Zb _) (Zo (ZcP ZcN) QG)))).trans (ZmG (n:=n+3))
     have hleast:∀k,d=.int k->ev (cf (n+5)) gv (.call 16 (.cons (.var 5) (.cons (.con (.int 1)) (.cons (.var 4) .nil)))) env m=.ok (.t (.bl (ZgK e d))) m:=by rintro k rfl;subst hE;exact(Zbk (Zo (Za rfl) (Zo (Zb _) (Zo (Za rfl) QG)))).trans (ZmG (n:=n+3))
     have hweight:ev (cf (n+5)) gv (.call 16 (.cons (.var 6) (.cons (.con (.int 0)) (.cons (.gl 12) .nil)))) env m=.ok (.t (.bl (betB f 0 1000))) m:=by subst hE;exact(Zbk (Zo (Za rfl) (Zo (Zb _) (Zo (ZcP ZbW) QG)))).trans (ZmG (n:=n+3))
     have htill:ev (cf (n+5)) gv (.call 4 (.cons (.var 7) .nil)) env m=.ok (.t (.bl (numB g))) m:=by subst hE;exact(Zbk (Zo (Za rfl) QG)).trans (ZjX (n:=n+2))
     have hfalse:∀k:S,ex (cf (n+5)) gv (.ret (.con (.bl false)) k) env m=.ok (.ret (.t (.bl false))) m:=λk=>Zf (by rw[ev])
     cases v1:oneOf a sides with
     |false =>
      rw[v1]at hside
      rw[Zw (ZdI (Z4 hside)) (hfalse _)]
      simp[Zal,v1]
     |true =>
     rw[v1]at hside
     cases v2:Zeo b with
     |false =>
      rw[v2]at hcard
      rw[Zw ((QJ (Z4 hside)).trans (ZdI (Z4 hcard))) (hfalse _)]
      simp[Zal,v2]
     |true =>
     rw[v2]at hcard
     cases v3:Zaz c with
     |false =>
      rw[v3]at hwish
      rw[Zw ((QJ (Z4 hside)).trans ((QJ (Z4 hcard)).trans (Z4 hwish))) (hfalse _)]
      simp[Zal,v3]
     |true =>
     rw[v3]at hwish
     rw[Zq ((QJ (Z4 hside)).trans ((QJ (Z4 hcard)).trans (Z4 hwish)))]
     cases v4:betB d 1 1000000 with
     |false =>
      rw[v4]at hmany
      rw[Zw (ZdI (Z4 hmany)) (hfalse _)]
      simp[Zal,v4]
     |true =>
     have hk:∃k,d=.int k:=by
      cases d with
      |int k=>exact⟨k,rfl⟩
      |_=>cases v4
     obtain⟨k,hk⟩:=hk
     have hleast:=hleast k hk
     rw[v4]at hmany
     cases v5:ZgK e d with
     |false =>
      rw[v5]at hleast
      rw[Zw ((QJ (Z4 hmany)).trans (Z4 hleast)) (hfalse _)]
      simp[Zal,v5]
     |true =>
     rw[v5]at hleast
     rw[Zq ((QJ (Z4 hmany)).trans (Z4 hleast))]
     refine Zf ?_
     have ho:Zal (.tup [a,b,c,d,e,f,g])=(betB f 0 1000&&numB g):=by simp[Zal,v1,v2,v3,v4,v5]
     rw[ho]
     cases v6:betB f 0 1000 with
     |false=>rw[v6]at hweight;rw[Zqt hweight];rfl
     |true=>rw[v6]at hweight;rw[Zh3 hweight,htill];rfl
   ·have hl':¬(ts.length:Int)=7:=by omega
    exact Zw (m1:=m) (by simp[ev,evs,isT,Zj,EVs,hl']) (Zf (by simp[ev,evs,isT,Zj,EVs,Zly hl]))
  |_=>exact Zw (m1:=m) rfl (Zf rfl)
 exact Zv (Zib _ _ _) rfl key (Zi (cell:=false) rfl)
theorem ZlA:∀{a b:List Nat},nlt a b=false->nlt b a=false->a=b
 |[],[],_,_=>rfl
 |[],_::_,h,_=>by cases h
 |_::_,[],_,h=>by cases h
 |a::x,b::y,h1,h2=>by
  unfold nlt at h1 h2
  by_cases q:a<b
  ·rw[if_pos q]at h1;cases h1
  ·by_cases q2:b<a
   ·rw[if_pos q2]at h2;cases h2
   ·rw[if_neg q,if_neg q2]at h1
    rw[if_neg q2,if_neg q]at h2
    rw[show a=b by omega,ZlA h1 h2]
theorem Zch:∀{xs:List (List Nat)},xs.Pairwise (λa b=>nlt b a=false)->xs.Nodup->ZbF xs=true
 |[],_,_=>rfl
 |[_],_,_=>rfl
 |a::b::r,h,hn=>by
  have h1:=(Wf.mp h).1 b (by simp)
  have h2:nlt a b=true:=by
   cases q:nlt a b with
   |true=>rfl
   |false=>exact absurd (ZlA q h1) λz=>by rw[z]at hn;simp at hn
  show(nlt a b&&ZbF (b::r))=true
  rw[h2,Zch (Wf.mp h).2 (Vc.mp hn).2]
  rfl
theorem ZkY{xs:List (List Nat)}(hn:xs.Nodup):ZbF (Zbp xs)=true:=Zch (ZeX xs) ((Xi xs).nodup_iff.mpr hn)
theorem Zf5{n:Nat}{m:Mem}{i:Nat}{e1 e2:Option W}(hi:i<m.length):∀(ts:List T) (ls fs:List (List Nat)) (s:List T) (e5:Option W),IsSt s->ts.length<=ls.length->ls.length<=30->ts.length+fs.length<=60 ->
  ∃(ls' fs':List (List Nat)) (s':List T) (e5':Option W),Q3 (ex (cf (n+3)) gv Zax) (.nm 5) ts [some (.c i),e1,e2,some (.c m.length),some (.c (m.length+1)),e5] (put (m++[some (false,ls.map .str),some (false,fs.map .str)]) i s)=.ok (.next [some (.c i),e1,e2,some (.c m.length),some (.c (m.length+1)),e5']) (put (m++[some (false,ls'.map .str),some (false,fs'.map .str)]) i s')/\IsSt s'/\fs'.length=fs.length+ts.length/\(fs'++ls').Perm (fs++ls)
 |[],ls,fs,s,e5,hs,_,_,_=>⟨ls,fs,s,e5,rfl,hs,rfl,.refl _⟩
 |t::ts,ls,fs,s,e5,hs,h1,h2,h3=>by
  rw[Yq]at h1 h3
  obtain⟨l1,f1,s1,g1,hs1,k1,k2,p1⟩:=ZkQ (n:=n) (e1:=e1) (e2:=e2) (x:=t) (ls:=ls) (fs:=fs) hi hs (by omega) (by omega) (by omega)
  obtain⟨l2,f2,s2,e6,g2,hs2,k3,p2⟩:=Zf5 hi ts l1 f1 s1 (some (.t t)) hs1 (by omega) (by omega) (by omega)
  refine⟨l2,f2,s2,e6,?_,hs2,by rw[k3,k2,Yq];omega,p2.trans p1⟩
  rw[Q3]
  show(ex (cf (n+3)) gv Zax [some (.c i),e1,e2,some (.c m.length),some (.c (m.length+1)),some (.t t)] _).bind _=_
  rw[g1]
  exact g2
theorem ZiO(x:List Nat):∀l,(insN x l).length=l.length+1
 |[]=>rfl
 |y::r=>by
  unfold insN
  split
  ·rw[Yq,ZiO x r,Yq]
  ·rfl
theorem Zf4:∀xs:List (List Nat),(Zbp xs).length=xs.length
 |[]=>rfl
 |x::xs=>by rw[show Zbp (x::xs)=insN x (Zbp xs)from rfl,ZiO,Zf4 xs,Yq]
theorem Zcb(xs:List (List Nat)):strs? (xs.map T.str)=some xs:=by
 have:=strs_map (λc:List Nat=>c) xs
 simpa using this
theorem Zpc{n:Nat}{m:Mem}{i:Nat}{s:List T}{ws:List (List Nat)}{most:Nat}(hi:i<m.length)(hs:IsSt s)(h1:most<=ws.length)(h2:ws.length<=20)(hd:ws.Nodup):
  ∃(fs:List (List Nat)) (s':List T),cf (n+4) 41 [.c i,.t (.lst (ws.map .str)),.t (.int (most:Int))] (put m i s)=.ok (.t (.tup (fs.map .str))) (put m i s')/\IsSt s'/\fs.length<=most/\ZbF fs=true/\∀w∈fs,w∈ws:=by
 have hi2:i<(m++[some (false,ws.map T.str),some (false,([]:List T))]).length:=by rw[Yi];omega
 obtain⟨r,s1,d1,hs1,r0,r1⟩:=ZJ (n:=n) (many:=(most:Int)+1) hi2 hs (by omega) (by omega)
 obtain⟨l2,f2,s2,e5,g2,hs2,k2,p2⟩:=Zf5 (n:=n) (e1:=some (.t (.lst (ws.map .str)))) (e2:=some (.t (.int (most:Int)))) hi (rangeT 0 r.toNat) ws [] s1 none hs1 (by simp[rangeT];omega) (by omega) (by simp[rangeT];omega)
 have hl:(rangeT 0 r.toNat).length=r.toNat:=by simp[rangeT]
 rw[hl]at k2
 have hk:f2.length<=most:=by rw[k2];simp;omega
 have hn:f2.Nodup:=(List.nodup_append.mp (p2.nodup_iff.mpr hd)).1
 refine⟨Zbp f2,s2,?_,hs2,by rw[Zf4];exact hk,ZkY hn,λw hw=>p2.mem_iff.mp (Wm _ ((Xi f2).mem_iff.mp hw))⟩
 have key:ex (cf (n+3)) gv Zd2 [some (.c i),some (.t (.lst (ws.map .str))),some (.t (.int (most:Int))),none,none,none] (put m i s)=.ok (.ret (.t (.tup ((Zbp f2).map .str)))) (put (m++[some (false,l2.map .str),some (false,f2.map .str)]) i s2):=by
  unfold Zd2
  have c1:ev (cf (n+3)) gv (.celL (.var 1)) [some (.c i),some (.t (.lst (ws.map .str))),some (.t (.int (most:Int))),none,none,none] (put m i s)=.ok (.c m.length) (put m i s++[some (false,ws.map .str)]):=by
   rw[ev,Za rfl,Ze]
   simp[view,Zx]
  rw[Zn c1]
  simp only[Yk,Yl]
  have c2:ev (cf (n+3)) gv (.cel .nil) [some (.c i),some (.t (.lst (ws.map .str))),some (.t (.int (most:Int))),some (.c m.length),none,none] (put m i s++[some (false,ws.map .str)])=.ok (.c (m.length+1)) (put (m++[some (false,ws.map .str),some (false,[])]) i s):=by
   rw[QQ hi]
   simp[ev,evs,Ze,Ji,lim,Zx]
  rw[Zn c2]
  simp only[Yk,Yl]
  have hr:=ZjT (i:=r) ⟨by omega,by omega⟩
  have hit:ev (cf (n+3)) gv (.blt .range1 (.cons (.call 40 (.cons (.var 0) (.cons (.bin .Add (.var 2) (.con (.int 1))) .nil))) .nil)) [some (.c i),some (.t (.lst (ws.map .str))),some (.t (.int (most:Int))),some (.c m.length),some (.c (m.length+1)),none] (put (m++[some (false,ws.map .str),some (false,[])]) i s)=.ok (.t (.lst (rangeT 0 r.toNat))) (put (m++[some (false,ws.map .str),some (false,[])]) i s1):=
   Zy ((Zh (Za rfl) (Zk (Za rfl) (Zb _) (Zao _ _))).trans d1) hr
  rw[ZcX hit rfl g2]
  refine Zf (Zy (x:=.lst ((Zbp f2).map .str)) ?_ (Zdy _))
  have hv:∀ws,views (.c (m.length+1)::ws) (put (m++[some (false,l2.map .str),some (false,f2.map .str)]) i s2)=(views ws (put (m++[some (false,l2.map .str),some (false,f2.map .str)]) i s2)).map (.lst (f2.map .str)::·):=λws=>by
   simp[views,view,two1 hi]
  show ev (cf (n+3)) gv (.blt .sorted (.cons (.var 4) .nil)) _ (put (m++[some (false,l2.map .str),some (false,f2.map .str)]) i s2)=_
  rw[ev,evs,Za rfl,Ze,evs,Ze,Ze,hv]
  show pur ((strs? (f2.map T.str)).bind λxs=>if xs.length<64 then some (T.lst ((Zbp xs).map .str))else none) _=_
  rw[Zcb,WD,if_pos (by omega)]
  rfl
 rw[Zop]
 simp only[Yq,Y0,Yz,U8,if_true,Yo,Vy,Uc,YaS]
 rw[key]
 show Res.ok _ ((put (m++[some (false,l2.map .str),some (false,f2.map .str)]) i s2).take (put m i s).length)=_
 rw[Zx,ZmX hi]
theorem ZkE{α:Type}{f:α->T}{P:α->Prop}{ts:List T}{xss:List (List T)}(h:Turns (λ_ xs=>∃c,P c/\xs=[f c]) ts xss):∃cs:List α,xss.flatten=cs.map f/\cs.length=ts.length/\∀c∈cs,P c:=by
 induction h with
 |nil=>exact⟨[],rfl,rfl,λ_ h=>by cases h⟩
 |cons h _ ih =>
  obtain⟨c,hc,rfl⟩:=h
  obtain⟨cs,h1,h2,h3⟩:=ih
  exact⟨c::cs,by rw[WK,h1];rfl,by simp[h2],by simpa using⟨hc,h3⟩⟩
theorem drawn{α:Type}{f:α->T}{P:α->Prop}{n own:Nat}{keep:List Nat}{c it e inner:E}{tg:Tg}{env:Env}{m m0:Mem}{i:Nat}{s:List T}{x:T}{ts:List T}(hc:c=.comp own keep it tg .nil inner)(he:inner=.emit e)(hs:IsSt s)(h0:ev (cf n) gv it env m0=.ok (.t x) (put m i s))(hx:ZgO x=some ts)(hl:ts.length<=lim)(h:∀t∈ts,∀s,IsSt s->∃env' c s',Qs tg t (Yo own none++keep.map λi=>(env[i]?).join)=some env'/\ev (cf n) gv e env' (put m i s)=.ok (.t (f c)) (put m i s')/\IsSt s'/\P c):
  ∃(cs:List α) (s':List T),ev (cf n) gv c env m0=.ok (.t (.lst (cs.map f))) (put m i s')/\IsSt s'/\cs.length=ts.length/\∀c∈cs,P c:=by
 subst hc he
 obtain⟨xss,m',h2,⟨s2,rfl,hs2⟩,ht⟩:=Zfs (f:=Qj (cf n) gv .nil (.emit e)) (tg:=tg) (env:=Yo own none++keep.map λi=>(env[i]?).join) (P:=λm'=>∃s,m'=put m i s/\IsSt s) (R:=λ_ xs=>∃c,P c/\xs=[f c]) ts (put m i s) ⟨s,rfl,hs⟩ (by
  rintro t ht m' ⟨s,rfl,hs⟩
  obtain⟨env',c,s',h1,h2,h3,h4⟩:=h t ht s hs
  exact⟨env',_,_,h1,Zdc (Jx h2),⟨s',rfl,h3⟩,c,h4,rfl⟩)
 obtain⟨cs,e1,e2,e3⟩:=ZkE ht
 rw[e1]at h2
 exact⟨cs,s2,ZL (x:=.t x) h0 (by simp[Z5,hx]) h2 (by rw[Yc];omega),hs2,e2,e3⟩
section
variable{n:Nat}{m:Mem}{i:Nat}{s:List T}
theorem ZgE(hi:i<m.length)(hs:IsSt s):∃(v:Int) (s':List T),cf (n+4) 42 [.c i] (put m i s)=.ok (.t (.int v)) (put m i s')/\IsSt s'/\0<=v/\v<=1000000000:=by
 obtain⟨r1,s1,h1,hs1,a0,a1⟩:=ZJ (n:=n) (many:=10) hi hs (by decide) (by decide)
 obtain⟨r2,s2,h2,hs2,b0,b1⟩:=ZJ (n:=n) (many:=10) hi hs1 (by decide) (by decide)
 obtain⟨r3,s3,h3,hs3,c0,c1⟩:=ZJ (n:=n) (many:=2) hi hs2 (by decide) (by decide)
 obtain⟨r5,s5,h5,hs5,k0,k1⟩:=ZJ (n:=n) (many:=8) hi hs3 (by decide) (by decide)
 obtain⟨z,hz,hzm⟩:=Zbo (xs:=[T.int r1,.int r2,.int (1000000000-r3)]) (i:=r5 / 3%3) (by omega) (by simp;omega)
 have hz':∃v:Int,z=.int v/\0<=v/\v<=1000000000:=by
  simp only[Ym,Yt,or_false]at hzm
  rcases hzm with rfl|rfl|rfl<;>exact⟨_,rfl,by omega,by omega⟩
 obtain⟨v,rfl,hv⟩:=hz'
 refine⟨v,s5,?_,hs5,hv⟩
 have key:ex (cf (n+3)) gv ZaQ [some (.c i)] (put m i s)=.ok (.ret (.t (.int v))) (put m i s5):=by
  unfold ZaQ
  exact Zf (Ql (Jw (Zo ((Zh (Za rfl) (Zb _)).trans h1) (Zo ((Zh (Za rfl) (Zb _)).trans h2) (Zo (Zk (Zk (Zb _) (Zb _) rfl) ((Zh (Za rfl) (Zb _)).trans h3) (ZmH _ _)) QG))) rfl Ja) (Zk (Zk ((Zh (Za rfl) (Zb _)).trans h5) (Zb _) (ZmI (by decide))) (Zb _) (Zes (by decide))) hz)
 exact Zv (Zkl _ _ _) rfl key (Zi (cell:=false) (by rw[Zx,Zx]))
theorem Zeh(cs:List Nat):Zd [] (cs.map λc=>[c])=cs:=by
 rw[ZgN,<-List.flatMap_def,Qa]
 simp
theorem Zmb(hi:i<m.length)(hs:IsSt s):∃(cs:List Nat) (s':List T),cf (n+4) 43 [.c i] (put m i s)=.ok (.t (.str cs)) (put m i s')/\IsSt s'/\Qh cs=true:=by
 have key:∃(cs:List Nat) (s':List T),ex (cf (n+3)) gv Zd4 [some (.c i),none,none] (put m i s)=.ok (.ret (.t (.str cs))) (put m i s')/\IsSt s'/\Qh cs=true:=by
  obtain⟨r,s1,d1,hs1,r0,r1⟩:=ZJ (n:=n) (many:=8) hi hs (by decide) (by decide)
  unfold Zd4
  rw[Zn (Zb _)]
  obtain⟨cs,s2,h2,hs2,l2,hl⟩:=drawn (c:=ZdV) (f:=λc=>T.str [c]) (P:=λc=>c∈lett) (env:=[some (.c i),some (.t (.str lett)),none]) rfl rfl hs1 (Zy (Zk (Zb (.int 1)) ((Zh (Za rfl) (Zb (.int 8))).trans d1) (Zao _ _)) (ZjT (show 1+r<2^62/\-(2^62)<=1+r by omega))) rfl (by simp[rangeT,lim];omega) (λt _ s hs=>by
   obtain⟨q,s3,h3,hs3,hq0,hq1⟩:=ZJ (n:=n) (many:=26) hi hs (by decide) (by decide)
   obtain⟨c,hc,hcm⟩:=Zbo (xs:=lett) hq0 (by simpa[lett]using hq1)
   exact⟨_,c,s3,rfl,Ql (Za rfl) ((Zh (Za rfl) (Zb _)).trans h3) (by rw[x_str (by decide),hc];rfl),hs3,hcm⟩)
  have l8:1<=cs.length/\cs.length<=8:=by simp[rangeT]at l2;omega
  have hj:=ZoV (m:=put m i s2) (sep:=[]) (strs_map (λc=>[c]) cs) (by rw[Zo8,Y0,Nat.mul_zero];unfold lim;omega)
  rw[Zeh]at hj
  have h2:ev (cf (n+3)) gv ZdV [some (.c i),some (.t (.str [97,98,99,100,101,102,103,104,105,106,107,108,109,110,111,112,113,114,115,116,117,118,119,120,121,122])),none] (put m i s)=_:=h2
  simp only[Yk,Yl]
  rw[Zn (w:=.t (.str cs)) (m1:=put m i s2) (by simp[ev,evs,isT,Zj,EVs,ZoB,h2,hj])]
  have hin:cmpT .In (.str cs) (.tup [.str [97,110,121],.str [105,115],.str [98,121],.str [110,111,116],.str [97,110,100],.str [111,114]])=some (ZfA cs):=by
   rcases cs with _|⟨c,_|⟨d,r⟩⟩<;>simp[cmpT,Zei,ltT,inT,Zl6]
  cases h6:ZfA cs with
  |true =>
   have hc:cs∈six:=by
    obtain⟨a,ha,hb⟩:=GP.mp h6
    rw[<-eq_of_beq hb];exact ha
   refine⟨cs++[113],s2,Zw (m1:=put m i s2) (by simp[ev,evs,isT,Zj,EVs,lim,hin,h6]) (Zf (by simp[ev,evs,isT,Zj,EVs,Jj (a:=cs) (b:=[113]) (by simp[lim];omega)])),hs2,?_⟩
   simp only[six,Ym,Yt,or_false]at hc
   rcases hc with rfl|rfl|rfl|rfl|rfl|rfl<;>decide
  |false =>
   refine⟨cs,s2,?_,hs2,?_⟩
   ·rw[Zq (m1:=put m i s2) (by simp[ev,evs,isT,Zj,EVs,lim,hin,h6])]
    exact Zf (by simp[ev,evs,isT,Zj,EVs])
   ·simp[Qh,h6,l8]
    exact hl
 obtain⟨cs,s',e,hs',hw⟩:=key
 exact⟨cs,s',Zv (Zor _ _ _) rfl e (Zi (cell:=false) (by rw[Zx,Zx])),hs',hw⟩
theorem Zc8{ws:List (List Nat)}(hi:i<m.length)(hs:IsSt s)(h0:0<ws.length)(h1:ws.length<100)(hw:ws.all Qh=true):∃(cs:List Nat) (s':List T),cf (n+5) 44 [.c i,.t (.lst (ws.map .str))] (put m i s)=.ok (.t (.str cs)) (put m i s')/\IsSt s'/\Qh cs=true:=by
 have key:∃(cs:List Nat) (s':List T),ex (cf (n+4)) gv Zd0 [some (.c i),some (.t (.lst (ws.map .str)))] (put m i s)=.ok (.ret (.t (.str cs))) (put m i s')/\IsSt s'/\Qh cs=true:=by
  obtain⟨r,s1,d1,hs1,r0,r1⟩:=ZJ (n:=n+1) (many:=3) hi hs (by decide) (by decide)
  unfold Zd0
  have c1:=Zu (op:=.Eq) ((Zh (f:=40) (call:=cf (n+4)) (gv:=gv) (env:=[some (.c i),some (.t (.lst (ws.map .str)))]) (a:=.var 0) (Za rfl) (Zb (.int 3))).trans d1) (Zb (.int 0)) (Zep _ _)
  cases hr:r==0 with
  |true =>
   rw[hr]at c1
   obtain⟨cs,s2,d2,hs2,h2⟩:=Zmb (n:=n) hi hs1
   exact⟨cs,s2,Zw c1 (Zf ((Zr (Za rfl)).trans d2)),hs2,h2⟩
  |false =>
   rw[hr]at c1
   obtain⟨q,s2,d2,hs2,q0,q1⟩:=ZJ (n:=n+1) (many:=(ws.length:Int)) hi hs1 (by omega) (by omega)
   obtain⟨x,hx,hm⟩:=Zbo (xs:=ws.map T.str) q0 (by rw[Yc];exact q1)
   obtain⟨w,hwm,rfl⟩:=YK.mp hm
   have hl:bltT .len [.lst (ws.map T.str)]=some (.int (ws.length:Int)):=by simp[bltT,Mi.one1,bLen]
   refine⟨w,s2,?_,hs2,Yr.mp hw w hwm⟩
   rw[Zq c1]
   exact Zf (Ql (Za rfl) ((Zh (Za rfl) (Zy (Za rfl) hl)).trans d2) hx)
 obtain⟨cs,s',e,hs',h⟩:=key
 exact⟨cs,s',Zv (Zon _ _ _) rfl e (Zi (cell:=false) (by rw[Zx,Zx])),hs',h⟩
end
theorem ZiN(x:List Nat):∀l,(insT x l).length<=l.length+1
 |[]=>Yn _
 |y::l=>by
  unfold insT
  split
  ·exact Yn _
  ·split
   ·rw[Yq,Yq]
    have:=ZiN x l
    omega
   ·rw[Yq];omega
theorem Zdg:∀xs,(Z6 xs).length<=xs.length
 |[]=>Yn _
 |x::xs=>by
  have h1:=ZiN x (Z6 xs)
  have h2:=Zdg xs
  show(insT x (Z6 xs)).length<=_
  rw[Yq]
  omega
theorem Zqr{call:Nat->List W->Mem->Res W}{gv:List T}{env:Env}{m m1:Mem}{a:E}{x:T}(h1:ev call gv a env m=.ok (.t x) m1):ev call gv (.lst (.cons a .nil)) env m=.ok (.t (.lst [x])) m1:=by
 simp only[ev,evs,h1,Ze,Xm,Ji]
 exact if_pos (by simp[lim])
noncomputable def JR(p:List Nat×Int):T:=.tup [.str p.1,.int p.2]
noncomputable def Qi(nm kd:List Nat)(mk:List (List Nat))(sz:List (List Nat×Int)):T:=.tup [.str nm,.str kd,.tup (mk.map .str),.tup (sz.map JR)]
noncomputable def wsL(ws:List (List Nat)):T:=.lst (ws.map .str)
structure GoodL (ws:List (List Nat)):Prop where
 one:1<=ws.length
 few:ws.length<=9
 nd:ws.Nodup
 wd:ws.all Qh=true
structure GoodC (nm kd:List Nat) (mk:List (List Nat)) (sz:List (List Nat×Int)):Prop where
 nm:Qh nm=true
 kd:Qh kd=true
 mkl:mk.length<=6
 mkr:ZbF mk=true
 mkw:mk.all Qh=true
 szl:sz.length<=6
 szr:ZbF (sz.map (·.1))=true
 szw:∀p∈sz,Qh p.1=true/\0<=p.2/\p.2<=1000000000
section
variable{n:Nat}{m:Mem}{i:Nat}{s:List T}
theorem Zpe{e1 e2 e3 e4 e5:Option W}(hi:i<m.length)(hs:IsSt s):∃(a b:List (List Nat)) (s':List T),ev (cf (n+4)) gv ZdW [some (.c i),e1,e2,e3,e4,e5] (put m i s)=.ok (.t (.lst [wsL a,wsL b])) (put m i s')/\IsSt s'/\GoodL a/\GoodL b:=by
 obtain⟨cs,s2,h2,hs2,l2,hp⟩:=drawn (c:=ZdW) (f:=wsL) (P:=GoodL) (env:=[some (.c i),e1,e2,e3,e4,e5]) (n:=n+4) rfl rfl hs (Zy (Zb (.int 2)) (ZjT (by decide))) rfl (by simp[rangeT,lim]) (λt _ s hs=>by
  obtain⟨fs,s3,h3,hs3,l3,hw⟩:=drawn (c:=Zhh) (f:=T.str) (P:=λc=>Qh c=true) (env:=[some (.t t),some (.c i)]) (n:=n+4) rfl rfl hs (Zy (Zb (.int 8)) (ZjT (by decide))) rfl (by simp[rangeT,lim]) (λt _ s hs=>by
   obtain⟨c,s4,h4,hs4,hc⟩:=Zmb (n:=n) hi hs
   exact⟨_,c,s4,rfl,(Zr (Za rfl)).trans h4,hs4,hc⟩)
  have l3:fs.length=8:=by simpa[rangeT]using l3
  have hadd:binT .Add (.lst (fs.map .str)) (.lst [.str [109,110]])=some (.lst ((fs++[[109,110]]).map .str)):=by
   show(if _ then _ else _)=_
   rw[if_pos (by simp[l3,lim]),YaO]
   rfl
  have hset:bltT .sortset [.lst ((fs++[[109,110]]).map .str)]=some (wsL (Z6 (fs++[[109,110]]))):=by
   show((strs? ((fs++[[109,110]]).map T.str)).bind λxs=>if xs.length<64 then some (T.lst ((Z6 xs).map .str))else none)=_
   rw[Zcb,WD,if_pos (by simp[l3])]
   rfl
  refine⟨_,Z6 (fs++[[109,110]]),s3,rfl,Zy (Zk h3 (Zqr (Zb _)) hadd) hset,hs3,?_,?_,Zev _,?_⟩
  ·exact List.length_pos_of_mem ((Xy [109,110] _).mpr (by simp))
  ·have:=Zdg (fs++[[109,110]])
   rw[Yi,l3]at this
   exact this
  ·rw[Yr]
   intro w hm
   rcases Y7.mp ((Xy w _).mp hm)with h|h
   ·exact hw w h
   ·rw[YX]at h
    rw[h];decide)
 have l2:cs.length=2:=by simpa[rangeT]using l2
 rcases cs with _|⟨a,_|⟨b,_|_⟩⟩
 ·cases l2
 ·cases l2
 ·exact⟨a,b,s2,h2,hs2,hp a (by simp),hp b (by simp)⟩
 ·simp at l2
theorem l_min6(k:Nat):bltT .min2 [.int 6,.int (k:Int)]=some (.int ((min 6 k:Nat):Int)):=by
 show some (T.int (if(k:Int)<6 then(k:Int)else 6))=_
 by_cases h:k<6
 ·rw[if_pos (by omega),Nat.min_eq_right (by omega)]
 ·rw[if_neg (by omega),Nat.min_eq_left (by omega)];rfl
theorem l_wsL(ws:List (List Nat)):bltT .len [wsL ws]=some (.int (ws.length:Int)):=by simp[bltT,Mi.one1,bLen,wsL]
theorem some6{env:Env}{ws:List (List Nat)}{e:E}(hi:i<m.length)(hs:IsSt s)(hg:GoodL ws)(h0:env[0]?=some (some (.c i)))(he:∀s,ev (cf (n+4)) gv e env (put m i s)=.ok (.t (wsL ws)) (put m i s)):
  ∃(fs:List (List Nat)) (s':List T),ev (cf (n+4)) gv (.call 41 (.cons (.var 0) (.cons e (.cons (.blt .min2 (.cons (.con (.int 6)) (.cons (.blt .len (.cons e .nil)) .nil))) .nil)))) env (put m i s)=.ok (.t (.tup (fs.map .str))) (put m i s')/\IsSt s'/\fs.length<=6/\ZbF fs=true/\fs.all Qh=true:=by
 obtain⟨fs,s1,h1,hs1,l1,r1,w1⟩:=Zpc (n:=n) (ws:=ws) (most:=min 6 ws.length) hi hs (by omega) (by have:=hg.few;omega) hg.nd
 exact⟨fs,s1,(Za1 (Za h0) (he s) (Zh2 (Zb _) (Zy (he s) (l_wsL ws)) (l_min6 _))).trans h1,hs1,by omega,r1,Yr.mpr λw hw=>Yr.mp hg.wd w (w1 w hw)⟩
theorem ZqC(hi:i<m.length)(hs:IsSt s):∃(nm kd:List Nat) (mk:List (List Nat)) (sz:List (List Nat×Int)) (s':List T),cf (n+6) 45 [.c i] (put m i s)=.ok (.t (Qi nm kd mk sz)) (put m i s')/\IsSt s'/\GoodC nm kd mk sz:=by
 obtain⟨nm,s1,h1,hs1,w1⟩:=Zc8 (n:=n) (ws:=[[97,110,110],[98,111,98],[99,121],[122,122,122,122,122,122,122,122],[112,114,105,99,101]]) hi hs (by decide) (by decide) (by decide)
 obtain⟨kd,s2,h2,hs2,w2⟩:=Zc8 (n:=n) (ws:=[[98,114,101,97,100],[119,111,111,100],[105,115,108,101]]) hi hs1 (by decide) (by decide) (by decide)
 obtain⟨r,s3,h3,hs3,r0,r1⟩:=ZJ (n:=n+2) (many:=2) hi hs2 (by decide) (by decide)
 have rest:∀(a b:List (List Nat)) (s:List T),IsSt s->GoodL a->GoodL b->∃(mk:List (List Nat)) (sz:List (List Nat×Int)) (s':List T),ex (cf (n+5)) gv (.asg 4 (.call 41 (.cons (.var 0) (.cons (.ix (.var 3) (.con (.int 0))) (.cons (.blt .min2 (.cons (.con (.int 6)) (.cons (.blt .len (.cons (.ix (.var 3) (.con (.int 0))) .nil)) .nil))) .nil)))) (.asg 5 (.blt .tuple (.cons ZdX .nil)) (.ret (.tup (.cons (.var 1) (.cons (.var 2) (.cons (.var 4) (.cons (.var 5) .nil))))) .done))) [some (.c i),some (.t (.str nm)),some (.t (.str kd)),some (.t (.lst [wsL a,wsL b])),none,none] (put m i s)=.ok (.ret (.t (Qi nm kd mk sz))) (put m i s')/\IsSt s'/\GoodC nm kd mk sz:=λa b s hs ga gb=>by
  obtain⟨mk,s4,h4,hs4,l4,r4,w4⟩:=some6 (n:=n+1) (env:=[some (.c i),some (.t (.str nm)),some (.t (.str kd)),some (.t (.lst [wsL a,wsL b])),none,none]) (e:=.ix (.var 3) (.con (.int 0))) hi hs ga rfl (λs=>Ql (Za rfl) (Zb _) (at0 _ _))
  rw[Zn h4]
  simp only[Yk,Yl]
  obtain⟨fs,s5,h5,hs5,l5,r5,w5⟩:=some6 (n:=n+1) (env:=[some (.c i),some (.t (.str nm)),some (.t (.str kd)),some (.t (.lst [wsL a,wsL b])),some (.t (.tup (mk.map .str))),none]) (e:=.ix (.var 3) (.con (.int 1))) hi hs4 gb rfl (λs=>Ql (Za rfl) (Zb _) (at1 _ _ _))
  have walk:∃(sz:List (List Nat×Int)) (s':List T),ev (cf (n+5)) gv ZdX [some (.c i),some (.t (.str nm)),some (.t (.str kd)),some (.t (.lst [wsL a,wsL b])),some (.t (.tup (mk.map .str))),none] (put m i s4)=.ok (.t (.lst (sz.map JR))) (put m i s')/\IsSt s'/\sz.map (·.1)=fs/\∀p∈sz,0<=p.2/\p.2<=1000000000:=by
   obtain⟨xss,m',g1,⟨s2,rfl,hs2⟩,ht⟩:=Zfs (f:=Qj (cf (n+5)) gv .nil ZdD) (tg:=.nm 0) (env:=[none,some (.c i)]) (P:=λm'=>∃s,m'=put m i s/\IsSt s) (R:=λt xs=>∃p:List Nat×Int,(0<=p.2/\p.2<=1000000000)/\t=.str p.1/\xs=[JR p]) (fs.map .str) (put m i s5) ⟨s5,rfl,hs5⟩ (by
    rintro t ht m' ⟨s,rfl,hs⟩
    obtain⟨w,_,rfl⟩:=YK.mp ht
    obtain⟨v,s3,h3,hs3,hv⟩:=ZgE (n:=n+1) hi hs
    exact⟨[some (.t (.str w)),some (.c i)],_,_,rfl,Zdc (show ev (cf (n+5)) gv ZdD _ _=_ from Jx (ZZ (Za rfl) ((Zr (Za rfl)).trans h3))),⟨s3,rfl,hs3⟩,(w,v),hv,rfl,rfl⟩)
   have:∀(fs:List (List Nat)) (xss:List (List T)),Turns (λt xs=>∃p:List Nat×Int,(0<=p.2/\p.2<=1000000000)/\t=.str p.1/\xs=[JR p]) (fs.map T.str) xss->∃sz:List (List Nat×Int),xss.flatten=sz.map JR/\sz.map (·.1)=fs/\∀p∈sz,0<=p.2/\p.2<=1000000000:=λfs=>by
    induction fs with
    |nil=>intro xss h;cases h;exact⟨[],rfl,rfl,λ_ h=>by cases h⟩
    |cons f fs ih =>
     intro xss h
     cases h with
     |cons h1 h2 =>
      obtain⟨p,hp,e,rfl⟩:=h1
      cases e
      obtain⟨sz,q1,q2,q3⟩:=ih _ h2
      exact⟨p::sz,by rw[WK,q1];rfl,by rw[Yz,q2],Wb.mpr ⟨hp,q3⟩⟩
   obtain⟨sz,q1,q2,q3⟩:=this _ _ ht
   rw[q1]at g1
   have ql:sz.length=fs.length:=by rw[<-q2,Yc]
   exact⟨sz,s2,ZL (x:=.t (.tup (fs.map .str))) h5 rfl g1 (by rw[Yc];unfold lim;omega),hs2,q2,q3⟩
  obtain⟨sz,s6,h6,hs6,e6,b6⟩:=walk
  rw[Zn (Zy h6 (Zdy _))]
  refine⟨mk,sz,s6,Zf (ZoR (Zo (Za rfl) (Zo (Za rfl) (Zo (Za rfl) (Zo (Za rfl) QG)))) rfl Ja),hs6,w1,w2,l4,r4,w4,?_,by rw[e6];exact r5,λp hp=>⟨Yr.mp w5 p.1 (by rw[<-e6];exact List.mem_map_of_mem hp),b6 p hp⟩⟩
  have:=congrArg YW e6
  rw[Yc]at this
  omega
 have key:∃(mk:List (List Nat)) (sz:List (List Nat×Int)) (s':List T),ex (cf (n+5)) gv Zd7 [some (.c i),none,none,none,none,none] (put m i s)=.ok (.ret (.t (Qi nm kd mk sz))) (put m i s')/\IsSt s'/\GoodC nm kd mk sz:=by
  unfold Zd7
  rw[Zn (w:=.t (.str nm)) (m1:=put m i s1) ((Zh (Za rfl) (Jw (Zo (Zb _) (Zo (Zb _) (Zo (Zb _) (Zo (Zb _) (Zo (Zb _) QG))))) rfl Ja)).trans h1)]
  rw[Zn (w:=.t (.str kd)) (m1:=put m i s2) ((Zh (Za rfl) (Jw (Zo (Zb _) (Zo (Zb _) (Zo (Zb _) QG))) rfl Ja)).trans h2)]
  rw[Zn (w:=.t (.lst [wsL [[97],[102,114,101,115,104],[111,108,100],[114,121,101],[97,110,110],[97,110,121,120]],wsL [[97],[112,114,105,99,101],[119,105,100,116,104],[111,108,100]]])) (m1:=put m i s2) (ZaE (Jw (Zo (Zb _) (Zo (Zb _) (Zo (Zb _) (Zo (Zb _) (Zo (Zb _) (Zo (Zb _) QG)))))) rfl Ja) (Jw (Zo (Zb _) (Zo (Zb _) (Zo (Zb _) (Zo (Zb _) QG)))) rfl Ja))]
  simp only[Yk,Yl]
  have c1:=λenv (h:env[0]?=some (some (.c i)))=>Zu (op:=.Eq) ((Zh (f:=40) (call:=cf (n+5)) (gv:=gv) (env:=env) (a:=.var 0) (Za h) (Zb (.int 2))).trans h3) (Zb (.int 0)) (Zep _ _)
  cases hr:r==0 with
  |true =>
   rw[hr]at c1
   obtain⟨a,b,s4,h4,hs4,ga,gb⟩:=Zpe (n:=n+1) (e1:=some (.t (.str nm))) (e2:=some (.t (.str kd))) (e3:=some (.t (.lst [wsL [[97],[102,114,101,115,104],[111,108,100],[114,121,101],[97,110,110],[97,110,121,120]],wsL [[97],[112,114,105,99,101],[119,105,100,116,104],[111,108,100]]]))) (e4:=none) (e5:=none) hi hs3
   obtain⟨mk,sz,s5,h5,hs5,g5⟩:=rest a b s4 hs4 ga gb
   refine⟨mk,sz,s5,?_,hs5,g5⟩
   rw[ex_ifA (c1 _ rfl) (by rw[Zn h4,ex])]
   exact h5
  |false =>
   rw[hr]at c1
   obtain⟨mk,sz,s5,h5,hs5,g5⟩:=rest [[97],[102,114,101,115,104],[111,108,100],[114,121,101],[97,110,110],[97,110,121,120]] [[97],[112,114,105,99,101],[119,105,100,116,104],[111,108,100]] s3 hs3 ⟨by decide,by decide,by decide,by decide⟩ ⟨by decide,by decide,by decide,by decide⟩
   refine⟨mk,sz,s5,?_,hs5,g5⟩
   rw[Zq (c1 _ rfl)]
   exact h5
 obtain⟨mk,sz,s',e,hs',h⟩:=key
 exact⟨nm,kd,mk,sz,s',Zv (Zou _ _ _) rfl e (Zi (cell:=false) (by rw[Zx,Zx])),hs',h⟩
theorem ZlM(hi:i<m.length)(hs:IsSt s):∃(t:T) (s':List T),cf (n+6) 46 [.c i] (put m i s)=.ok (.t t) (put m i s')/\IsSt s'/\Leaf t:=by
 have key:∃(t:T) (s':List T),ex (cf (n+5)) gv Zd3 [some (.c i),none] (put m i s)=.ok (.ret (.t t)) (put m i s')/\IsSt s'/\Leaf t:=by
  obtain⟨r,s1,d1,hs1,r0,r1⟩:=ZJ (n:=n+2) (many:=8) hi hs (by decide) (by decide)
  have d1:cf (n+5) 40 [.c i,.t (.int 8)] (put m i s)=.ok (.t (.int r)) (put m i s1):=d1
  unfold Zd3
  rw[Zn ((Zh (Za rfl) (Zb _)).trans d1)]
  by_cases h2:r<2
  ·exact⟨_,s1,Zw (Zu (k:=true) (Za rfl) (Zb _) ((c_lt _ _).trans (congrArg some (decide_eq_true h2)))) (Zf (Zh0 (Zb _))),hs1,.any⟩
  rw[Zq (Zu (k:=false) (Za rfl) (Zb _) ((c_lt _ _).trans (congrArg some (decide_eq_false h2))))]
  by_cases h3:r=2
  ·obtain⟨w,s2,d2,hs2,w2⟩:=Zc8 (n:=n) (ws:=[[97,110,110],[98,111,98],[99,121],[122,122,122,122,122,122,122,122]]) hi hs1 (by decide) (by decide) (by decide)
   simp only[Yz,U8]at d2
   exact⟨_,s2,Zw (Zu (k:=true) (Za rfl) (Zb _) (by rw[Zep,h3];rfl)) (Zf (ZZ (Zb _) ((Zh (Za rfl) (Jw (Zo (Zb _) (Zo (Zb _) (Zo (Zb _) (Zo (Zb _) QG)))) rfl Ja)).trans d2))),hs2,.two (.inr rfl) w2⟩
  rw[Zq (Zu (k:=false) (Za rfl) (Zb _) (by rw[Zep,beq_false_of_ne h3]))]
  by_cases h4:r<5
  ·obtain⟨w,s2,d2,hs2,w2⟩:=Zc8 (n:=n) (ws:=[[97],[112,114,105,99,101],[119,105,100,116,104],[111,108,100]]) hi hs1 (by decide) (by decide) (by decide)
   simp only[Yz,U8]at d2
   obtain⟨v,s3,d3,hs3,v0,v1⟩:=ZgE (n:=n+1) hi hs2
   by_cases hr:r%2=0
   ·exact⟨_,s3,Zw (Zu (k:=true) (Za rfl) (Zb _) ((c_lt _ _).trans (congrArg some (decide_eq_true h4)))) (Zf (ZhZ (Ql (ZaE (Zb _) (Zb _)) (Zk (Za rfl) (Zb _) (Zes (by decide))) (by rw[hr];rfl)) ((Zh (Za rfl) (Jw (Zo (Zb _) (Zo (Zb _) (Zo (Zb _) (Zo (Zb _) QG)))) rfl Ja)).trans d2) ((Zr (Za rfl)).trans d3))),hs3,.three (.inl rfl) w2 v0 v1⟩
   ·have hr:r%2=1:=by omega
    exact⟨_,s3,Zw (Zu (k:=true) (Za rfl) (Zb _) ((c_lt _ _).trans (congrArg some (decide_eq_true h4)))) (Zf (ZhZ (Ql (ZaE (Zb _) (Zb _)) (Zk (Za rfl) (Zb _) (Zes (by decide))) (by rw[hr];rfl)) ((Zh (Za rfl) (Jw (Zo (Zb _) (Zo (Zb _) (Zo (Zb _) (Zo (Zb _) QG)))) rfl Ja)).trans d2) ((Zr (Za rfl)).trans d3))),hs3,.three (.inr rfl) w2 v0 v1⟩
  rw[Zq (Zu (k:=false) (Za rfl) (Zb _) ((c_lt _ _).trans (congrArg some (decide_eq_false h4))))]
  obtain⟨w,s2,d2,hs2,w2⟩:=Zc8 (n:=n) (ws:=[[97],[102,114,101,115,104],[111,108,100],[114,121,101],[97,110,110],[119,111,111,100]]) hi hs1 (by decide) (by decide) (by decide)
  simp only[Yz,U8]at d2
  exact⟨_,s2,Zf (ZZ (Zb _) ((Zh (Za rfl) (Jw (Zo (Zb _) (Zo (Zb _) (Zo (Zb _) (Zo (Zb _) (Zo (Zb _) (Zo (Zb _) QG)))))) rfl Ja)).trans d2)),hs2,.two (.inl rfl) w2⟩
 obtain⟨t,s',e,hs',h⟩:=key
 exact⟨t,s',Zv (Zoq _ _ _) rfl e (Zi (cell:=false) (by rw[Zx,Zx])),hs',h⟩
end
theorem Zhw{M:Mem}{i j:Nat}{s R:List T}(hij:i≠j)(hj:j<M.length):(put (put M j R) i s)[j]?=some (some (false,R)):=by
 have h:=Zk4 (m:=M) (i:=j) (s:=R) hj
 unfold put at h ⊢
 rw[YF hij]
 exact h
theorem Znc{M:Mem}{i j:Nat}{s R R':List T}(hij:i≠j):(put (put M j R) i s).set j (some (false,R'))=put (put M j R') i s:=by
 unfold put
 rw[List.set_comm _ _ hij.symm,List.set_set]
 exact List.set_comm _ _ hij
theorem Zin{call:Nat->List W->Mem->Res W}{env:Env}{M:Mem}{i j:Nat}{s:List T}{r:Int}{k:S}(hij:i≠j)(hj:j<M.length)(h2:env[2]?=some (some (.c j))):
  ex call gv (.set (.var 2) (.con (.int 0)) (.bin .Sub (.ix (.var 2) (.con (.int 0))) (.con (.int 1))) k) env (put (put M j [.int r]) i s)=ex call gv k env (put (put M j [.int (r-1)]) i s):=by
 rw[ZhX (Zk (ZcE h2 (Zhw hij hj) rfl) (Zb _) (ZmH _ _)) (Za h2) (Zb _) (Zhw hij hj) rfl]
 show ex call gv k env ((put (put M j [.int r]) i s).set j (some (false,[.int (r-1)])))=_
 rw[Znc hij]
theorem Leaf.tot{d:Nat}{t:T}(h:Leaf t):tot (d+1) [t]=1:=by rw[J9,h.kids0,Xw]
noncomputable def Drawn(N d:Nat)(M:Mem)(i j:Nat):Prop:=∀(s:List T) (r:Int),IsSt s->∃(t:T) (s':List T),cf N 47 [.c i,.t (.int ((d:Int)+1)),.c j] (put (put M j [.int r]) i s)=.ok (.t t) (put (put M j [.int (r-(tot (d+1) [t]:Nat))]) i s')/\IsSt s'/\WT (d+1) t/\(r<=3->tot (d+1) [t]=1)/\(3<r->(tot (d+1) [t]:Int)<=r-3+5*d+1)
theorem Zc9{N d:Nat}{M:Mem}{i j:Nat}(h:Drawn N d M i j):∀(ts:List T) (s:List T) (r:Int),IsSt s->∃(ws:List T) (s':List T),Jg (Qj (cf N) gv .nil ZbS) (.nm 0) ts [none,some (.c i),some (.c j),some (.t (.int ((d:Int)+1+1)))] (put (put M j [.int r]) i s)=.ok ws (put (put M j [.int (r-(tot (d+1) ws:Nat))]) i s')/\IsSt s'/\ws.length=ts.length/\(∀w∈ws,WT (d+1) w)/\(r<=3->tot (d+1) ws=ts.length)/\(3<r->(tot (d+1) ws:Int)<=r-3+5*d+ts.length)
 |[],s,r,hs=>⟨[],s,by rw[Jg,Xw];simp,hs,rfl,λ_ h=>(by cases h),λ_=>Xw _,λh=>by rw[Xw];simp;omega⟩
 |t::ts,s,r,hs=>by
  obtain⟨w,s1,h1,hs1,w1,a1,b1⟩:=h s r hs
  obtain⟨ws,s2,h2,hs2,l2,w2,a2,b2⟩:=Zc9 h ts s1 (r-(tot (d+1) [w]:Nat)) hs1
  have ht:tot (d+1) (w::ws)=tot (d+1) [w]+tot (d+1) ws:=Zca (d+1) [w] ws
  refine⟨w::ws,s2,?_,hs2,by simp[l2],Wb.mpr ⟨w1,w2⟩,λh=>?_,λh=>?_⟩
  ·rw[Jg]
   have hb:Qs (.nm 0) t [none,some (.c i),some (.c j),some (.t (.int ((d:Int)+1+1)))]=some [some (.t t),some (.c i),some (.c j),some (.t (.int ((d:Int)+1+1)))]:=rfl
   rw[hb]
   dsimp only
   have hsub:=Zk (call:=cf N) (gv:=gv) (env:=[some (.t t),some (.c i),some (.c j),some (.t (.int ((d:Int)+1+1)))]) (m:=put (put M j [.int r]) i s) (Za (i:=3) rfl) (Zb (.int 1)) (ZmH ((d:Int)+1+1) 1)
   rw[show(d:Int)+1+1-1=(d:Int)+1 by omega]at hsub
   rw[Zdc (show ev (cf N) gv ZbS _ _=_ from Jx ((Za1 (Za rfl) hsub (Za rfl)).trans h1)),Ze,h2,Ze,show r-(tot (d+1) [w]:Nat)-(tot (d+1) ws:Nat)=r-(tot (d+1) (w::ws):Nat) by rw[ht];omega]
   rfl
  ·have:=a1 h
   have:=a2 (by omega)
   rw[ht,Yq];omega
  ·have:=b1 h
   rw[ht,Yq]
   by_cases h3:r-(tot (d+1) [w]:Nat)<=3
   ·have:=a2 h3;omega
   ·have:=b2 (by omega);omega
theorem Zo0:∀(d:Nat) {n:Nat}{M:Mem}{i j:Nat},i≠j->i<M.length->j<M.length->Drawn (n+(d+7)) d M i j:=by
 intro d
 induction d with
 |zero =>
  intro n M i j hij hi hj s r hs
  have hi':i<(put M j [.int (r-1)]).length:=by rw[Zx];exact hi
  obtain⟨q,s1,d1,hs1,q0,q1⟩:=ZJ (n:=n+3) (many:=6) hi' hs (by decide) (by decide)
  obtain⟨t,s2,d2,hs2,hl⟩:=ZlM (n:=n) hi' hs1
  refine⟨t,s2,?_,hs2,hl.wt,λ_=>hl.tot,λh=>by rw[hl.tot];omega⟩
  rw[hl.tot]
  have key:ex (cf (n+6)) gv Zbn [some (.c i),some (.t (.int 1)),some (.c j),none,none] (put (put M j [.int r]) i s)=.ok (.ret (.t t)) (put (put M j [.int (r-1)]) i s2):=by
   unfold Zbn
   rw[Zin hij hj rfl]
   rw[Zn ((Zh (Za rfl) (Zb _)).trans d1)]
   exact Zw (ZdI (Zu (k:=true) (Za rfl) (Zb _) rfl)) (Zf ((Zr (Za rfl)).trans d2))
  exact Zv (ZiV _ _ _) rfl key (Zi (cell:=false) (by rw[Zx,Zx,Zx,Zx]))
 |succ d ih =>
  intro n M i j hij hi hj s r hs
  have D:=ih (n:=n) hij hi hj
  have hi':∀r:Int,i<(put M j [.int r]).length:=λr=>by rw[Zx];exact hi
  obtain⟨q,s1,d1,hs1,q0,q1⟩:=ZJ (n:=n+(d+4)) (many:=6) (hi' (r-1)) hs (by decide) (by decide)
  have d1:cf (n+(d+7)) 40 [.c i,.t (.int 6)] (put (put M j [.int (r-1)]) i s)=.ok (.t (.int q)) (put (put M j [.int (r-1)]) i s1):=d1
  have key:∃(t:T) (s':List T),ex (cf (n+(d+7))) gv Zbn [some (.c i),some (.t (.int ((d:Int)+1+1))),some (.c j),none,none] (put (put M j [.int r]) i s)=.ok (.ret (.t t)) (put (put M j [.int (r-(tot (d+2) [t]:Nat))]) i s')/\IsSt s'/\WT (d+2) t/\(r<=3->tot (d+2) [t]=1)/\(3<r->(tot (d+2) [t]:Int)<=r-3+5*(d+1)+1):=by
   unfold Zbn
   rw[Zin hij hj rfl]
   rw[Zn ((Zh (Za rfl) (Zb _)).trans d1)]
   simp only[Yk,Yl]
   generalize hE:([some (.c i),some (.t (.int ((d:Int)+1+1))),some (.c j),some (.t (.int q)),none]:Env)=env
   have e0:env[0]?=some (some (.c i)):=by rw[<-hE];rfl
   have e1:env[1]?=some (some (.t (.int ((d:Int)+1+1)))):=by rw[<-hE];rfl
   have e2:env[2]?=some (some (.c j)):=by rw[<-hE];rfl
   have e3:env[3]?=some (some (.t (.int q))):=by rw[<-hE];rfl
   have c1:=Zu (call:=cf (n+(d+7))) (gv:=gv) (m:=put (put M j [.int (r-1)]) i s1) (Za e1) (Zb (.int 2)) (c_lt _ _)
   rw[decide_eq_false (by omega)]at c1
   have c2:=Zu (call:=cf (n+(d+7))) (gv:=gv) (m:=put (put M j [.int (r-1)]) i s1) (Za e3) (Zb (.int 2)) (c_lt _ _)
   have c3:=Zu (call:=cf (n+(d+7))) (gv:=gv) (ZcE (k:=0) e2 (Zhw (s:=s1) (R:=[.int (r-1)]) hij hj) rfl) (Zb (.int 3)) (c_lt (r-1) 3)
   have leafs:∀k:S,ev (cf (n+(d+7))) gv (.or (.cmp .Lt (.var 1) (.con (.int 2))) (.or (.cmp .Lt (.var 3) (.con (.int 2))) (.cmp .Lt (.ix (.var 2) (.con (.int 0))) (.con (.int 3))))) env (put (put M j [.int (r-1)]) i s1)=.ok (.t (.bl true)) (put (put M j [.int (r-1)]) i s1)->∃(t:T) (s':List T),ex (cf (n+(d+7))) gv (.ife (.or (.cmp .Lt (.var 1) (.con (.int 2))) (.or (.cmp .Lt (.var 3) (.con (.int 2))) (.cmp .Lt (.ix (.var 2) (.con (.int 0))) (.con (.int 3))))) (.ret (.call 46 (.cons (.var 0) .nil)) .done) .done k) env (put (put M j [.int (r-1)]) i s1)=.ok (.ret (.t t)) (put (put M j [.int (r-(tot (d+2) [t]:Nat))]) i s')/\IsSt s'/\WT (d+2) t/\(r<=3->tot (d+2) [t]=1)/\(3<r->(tot (d+2) [t]:Int)<=r-3+5*(d+1)+1):=λk hc=>by
    obtain⟨t,s2,d2,hs2,hl⟩:=ZlM (n:=n+(d+1)) (hi' (r-1)) hs1
    have d2:cf (n+(d+7)) 46 [.c i] (put (put M j [.int (r-1)]) i s1)=.ok (.t t) (put (put M j [.int (r-1)]) i s2):=d2
    have ht:tot (d+2) [t]=1:=hl.tot
    refine⟨t,s2,?_,hs2,hl.wt,λ_=>ht,λh=>by rw[ht];omega⟩
    rw[ht]
    exact Zw hc (Zf ((Zr (Za e0)).trans d2))
   by_cases hq:q<2
   ·rw[decide_eq_true hq]at c2
    exact leafs _ (by rw[QJ c1,ZdI c2])
   rw[decide_eq_false hq]at c2
   by_cases hr:r-1<3
   ·rw[decide_eq_true hr]at c3
    exact leafs _ (by rw[QJ c1,QJ c2,c3])
   rw[decide_eq_false hr]at c3
   rw[Zq (by rw[QJ c1,QJ c2,c3])]
   have hsub:∀m,ev (cf (n+(d+7))) gv (.bin .Sub (.var 1) (.con (.int 1))) env m=.ok (.t (.int ((d:Int)+1))) m:=λm=>by
    have:=Zk (call:=cf (n+(d+7))) (gv:=gv) (m:=m) (Za e1) (Zb (.int 1)) (ZmH ((d:Int)+1+1) 1)
    rw[show(d:Int)+1+1-1=(d:Int)+1 by omega]at this
    exact this
   have c4:=Zu (call:=cf (n+(d+7))) (gv:=gv) (m:=put (put M j [.int (r-1)]) i s1) (Za e3) (Zb (.int 2)) (Zep _ _)
   cases e4:(q==2)with
   |true =>
    rw[e4]at c4
    obtain⟨t,s2,d2,hs2,hw,a2,b2⟩:=D s1 (r-1) hs1
    have ht:tot (d+2) [.tup [.str [110,111,116],t]]=1+tot (d+1) [t]:=by rw[J9,Za0]
    refine⟨_,s2,Zw c4 (Zf (ZZ (Zb _) ((Za1 (Za e0) (hsub _) (Za e2)).trans ?_))),hs2,.nt hw,λh=>by omega,λh=>?_⟩
    ·rw[ht,d2,show r-1-(tot (d+1) [t]:Nat)=r-((1+tot (d+1) [t]:Nat):Int) by omega]
    ·rw[ht]
     by_cases h3:r-1<=3
     ·have:=a2 h3;omega
     ·have:=b2 (by omega);omega
   |false =>
    rw[e4]at c4
    rw[Zq c4]
    obtain⟨q3,s2,d2,hs2,a0,a1⟩:=ZJ (n:=n+(d+4)) (many:=3) (hi' (r-1)) hs1 (by decide) (by decide)
    have d2:cf (n+(d+7)) 40 [.c i,.t (.int 3)] (put (put M j [.int (r-1)]) i s1)=.ok (.t (.int q3)) (put (put M j [.int (r-1)]) i s2):=d2
    obtain⟨z,hz,hzm⟩:=Zbo (xs:=[T.int 2,.int 5]) (i:=q3 / 2) (by omega) (by simp;omega)
    have hz':∃v:Int,z=.int v/\2<=v/\v<=5:=by
     simp only[Ym,Yt,or_false]at hzm
     rcases hzm with rfl|rfl<;>exact⟨_,rfl,by decide,by decide⟩
    obtain⟨v,rfl,v0,v1⟩:=hz'
    obtain⟨q4,s3,d3,hs3,b0,b1⟩:=ZJ (n:=n+(d+4)) (many:=v) (hi' (r-1)) hs2 (by omega) (by omega)
    have d3:cf (n+(d+7)) 40 [.c i,.t (.int v)] (put (put M j [.int (r-1)]) i s2)=.ok (.t (.int q4)) (put (put M j [.int (r-1)]) i s3):=d3
    have hz:ixT (.lst [T.int 2,.int 5]) (.int (q3 / 2))=some (.int v):=hz
    rw[Zn (Zk (Zb (.int 2)) ((Zh (Za e0) (Ql (ZaE (Zb _) (Zb _)) (Zk ((Zh (Za e0) (Zb _)).trans d2) (Zb _) (ZmI (by decide))) hz)).trans d3) (Zao _ _))]
    obtain⟨ws,s4,h5,hs4,l4,w4,a4,b4⟩:=Zc9 D (rangeT 0 (2+q4).toNat) s3 (r-1) hs3
    have hl:ws.length=(2+q4).toNat:=by rw[l4];simp[rangeT]
    have hl':(rangeT 0 (2+q4).toNat).length=(2+q4).toNat:=by simp[rangeT]
    rw[hl']at a4 b4
    have hb:∃w,ixT (.lst [T.str [97,110,100],.str [111,114]]) (.int (q%2))=some (.str w)/\(w=[97,110,100]∨w=[111,114]):=by
     by_cases h:q%2=0
     ·exact⟨_,by rw[h];rfl,.inl rfl⟩
     ·exact⟨_,by rw[show q%2=1 by omega];rfl,.inr rfl⟩
    obtain⟨w,hb,hw⟩:=hb
    have ht:tot (d+2) [.tup [.str w,.tup ws]]=1+tot (d+1) ws:=by rw[J9,Zcm hw (by omega) (by omega)]
    subst hE
    simp only[Yk,Yl]
    have hcomp:=ZL (own:=1) (keep:=[0,2,1]) (tg:=.nm 0) (cs:=.nil) (inner:=ZbS) (env:=[some (.c i),some (.t (.int ((d:Int)+1+1))),some (.c j),some (.t (.int q)),some (.t (.int (2+q4)))]) (x:=.t (.lst (rangeT 0 (2+q4).toNat))) (Zy (Za (i:=4) rfl) (ZjT (show 2+q4<2^62/\-(2^62)<=2+q4 by omega))) rfl h5 (by rw[hl];unfold lim;omega)
    refine⟨_,s4,Zf (ZZ (Ql (ZaE (Zb _) (Zb _)) (Zk (Za rfl) (Zb _) (Zes (by decide))) hb) (Zy (e:=Zhg) (hcomp.trans ?_) (Zdy _))),hs4,.jn hw (by omega) (by omega) w4,λh=>by omega,λh=>?_⟩
    ·rw[ht,show r-1-(tot (d+1) ws:Nat)=r-((1+tot (d+1) ws:Nat):Int) by omega]
     rfl
    ·rw[ht]
     by_cases h3:r-1<=3
     ·have:=a4 h3;omega
     ·have:=b4 (by omega);omega
  obtain⟨t,s',e,hs',hl⟩:=key
  exact⟨t,s',Zv (ZiV _ _ _) rfl e (Zi (cell:=false) (by rw[Zx,Zx,Zx,Zx])),hs',hl⟩
noncomputable def offT(side:List Nat)(card w:T)(a b c e:Int):T:=.tup [.str side,card,w,.int a,.int b,.int c,.int e]
inductive GoodO:T->Prop where
 |mk {side nm kd:List Nat}{mk:List (List Nat)}{sz:List (List Nat×Int)}{d:Nat}{w:T}{a b c e:Int}:side∈sides->GoodC nm kd mk sz->d<=5->WT (d+1) w->tot (d+1) [w]<=40->1<=a->a<=1000000->1<=b->b<=a->0<=c->c<=1000->0<=e->e<=1000000000->GoodO (offT side (Qi nm kd mk sz) w a b c e)
theorem Zhn{xs:List Int}{lo hi q:Int}(h:∀x∈xs,lo<=x/\x<=hi)(q0:0<=q)(q1:q<xs.length):∃v,atT (xs.map T.int) q=some (.int v)/\lo<=v/\v<=hi:=by
 obtain⟨x,hx,hm⟩:=Zbo (xs:=xs.map T.int) q0 (by rw[Yc];exact q1)
 obtain⟨v,hv,rfl⟩:=YK.mp hm
 exact⟨v,hx,h v hv⟩
theorem ZhK{n:Nat}{m:Mem}{i:Nat}{s:List T}(hi:i<m.length)(hs:IsSt s):∃(t:T) (s':List T),cf (n+14) 48 [.c i] (put m i s)=.ok (.t t) (put m i s')/\IsSt s'/\GoodO t:=by
 obtain⟨p1,s1,h1,hs1,p10,p11⟩:=ZJ (n:=n+10) (many:=9) hi hs (by decide) (by decide)
 obtain⟨p2,s2,h2,hs2,p20,p21⟩:=ZJ (n:=n+10) (many:=1000000) hi hs1 (by decide) (by decide)
 obtain⟨p3,s3,h3,hs3,p30,p31⟩:=ZJ (n:=n+10) (many:=3) hi hs2 (by decide) (by decide)
 obtain⟨a,ha,a0,a1⟩:=Zhn (xs:=[1+p1,1+p2,1000000]) (lo:=1) (hi:=1000000) (by simp;omega) p30 (by simpa using p31)
 obtain⟨p4,s4,h4,hs4,p40,p41⟩:=ZJ (n:=n+10) (many:=a) hi hs3 (by omega) (by omega)
 obtain⟨p5,s5,h5,hs5,p50,p51⟩:=ZJ (n:=n+10) (many:=3) hi hs4 (by decide) (by decide)
 obtain⟨b,hb,b0,b1⟩:=Zhn (xs:=[1,1+p4,a]) (lo:=1) (hi:=a) (by simp;omega) p50 (by simpa using p51)
 obtain⟨p6,s6,h6,hs6,p60,p61⟩:=ZJ (n:=n+10) (many:=1001) hi hs5 (by decide) (by decide)
 obtain⟨p7,s7,h7,hs7,p70,p71⟩:=ZJ (n:=n+10) (many:=3) hi hs6 (by decide) (by decide)
 obtain⟨c,hc,c0,c1⟩:=Zhn (xs:=[0,1000,p6]) (lo:=0) (hi:=1000) (by simp;omega) p70 (by simpa using p71)
 obtain⟨p8,s8,h8,hs8,p80,p81⟩:=ZJ (n:=n+10) (many:=1000000001) hi hs7 (by decide) (by decide)
 obtain⟨p9,s9,h9,hs9,p90,p91⟩:=ZJ (n:=n+10) (many:=30) hi hs8 (by decide) (by decide)
 obtain⟨pa,sa,hA,hsa,pa0,pa1⟩:=ZJ (n:=n+10) (many:=4) hi hs9 (by decide) (by decide)
 obtain⟨e,he,e0,e1⟩:=Zhn (xs:=[0,1000000000,p8,p9]) (lo:=0) (hi:=1000000000) (by simp;omega) pa0 (by simpa using pa1)
 obtain⟨nm,kd,mk,sz,sb,hB,hsb,gc⟩:=ZqC (n:=n+7) hi hsa
 obtain⟨q,sc,hC,hsc,q0,q1⟩:=ZJ (n:=n+10) (many:=6) hi hsb (by decide) (by decide)
 have hj:m.length<(m++[none]).length:=by simp
 have hi2:i<(m++[none]).length:=by rw[Yi];omega
 obtain⟨d,hd⟩:∃d:Nat,q=(d:Int)/\d<=5:=⟨q.toNat,by omega,by omega⟩
 obtain⟨w,sd,hD,hsd,hw,_,tw⟩:=Zo0 d (n:=n+(6-d)) (show i≠m.length by omega) hi2 hj sc 12 hsc
 rw[show n+(6-d)+(d+7)=n+13 by omega]at hD
 have hmem:∀(z:Int) (s:List T),put (put (m++[none]) m.length [.int z]) i s=put m i s++[some (false,[T.int z])]:=λz s=>by
  have:put (m++[none]) m.length [T.int z]=m++[some (false,[T.int z])]:=by simp[put]
  rw[this,QQ hi]
 rw[hmem,hmem]at hD
 generalize 12-((tot (d+1) [w]:Nat):Int)=r3 at hD
 have hi3:i<(m++[some (false,[T.int r3])]).length:=by rw[Yi];omega
 obtain⟨q2,se,hE,hse,g0,g1⟩:=ZJ (n:=n+10) (many:=3) hi3 hsd (by decide) (by decide)
 rw[QQ hi,QQ hi]at hE
 obtain⟨y,hy,hym⟩:=Zbo (xs:=[T.str [103,105,118,101],.str [116,97,107,101],.str [98,101,97,114]]) g0 (by simpa using g1)
 obtain⟨side,hside,rfl⟩:∃side,side∈sides/\y=.str side:=by
  simp only[Ym,Yt,or_false]at hym
  rcases hym with rfl|rfl|rfl<;>exact⟨_,by decide,rfl⟩
 refine⟨offT side (Qi nm kd mk sz) w a b c e,se,?_,hse,.mk hside gc hd.2 hw (by have:=tw (by decide);omega) a0 a1 b0 b1 c0 c1 e0 e1⟩
 have key:ex (cf (n+13)) gv Qy [some (.c i),none,none,none,none,none,none] (put m i s)=.ok (.ret (.t (offT side (Qi nm kd mk sz) w a b c e))) (put m i se++[some (false,[.int r3])]):=by
  simp only[Yz,U8]at ha hb hc he
  unfold Qy
  rw[Zn (Ql (Jw (Zo (Zk (Zb _) ((Zh (Za rfl) (Zb _)).trans h1) (Zao _ _)) (Zo (Zk (Zb _) ((Zh (Za rfl) (Zk (Zb _) (Zb _) rfl)).trans h2) (Zao _ _)) (Zo (Zk (Zb _) (Zb _) rfl) QG))) rfl Ja) ((Zh (Za rfl) (Zb _)).trans h3) ha)]
  rw[Zn (Ql (Jw (Zo (Zb _) (Zo (Zk (Zb _) ((Zh (Za rfl) (Za rfl)).trans h4) (Zao _ _)) (Zo (Za rfl) QG))) rfl Ja) ((Zh (Za rfl) (Zb _)).trans h5) hb)]
  rw[Zn (Ql (Jw (Zo (Zb _) (Zo (Zb _) (Zo ((Zh (Za rfl) (Zb _)).trans h6) QG))) rfl Ja) ((Zh (Za rfl) (Zb _)).trans h7) hc)]
  rw[Zn (Ql (Jw (Zo (Zb _) (Zo (Zk (Zb _) (Zb _) rfl) (Zo ((Zh (Za rfl) (Zk (Zk (Zb _) (Zb _) rfl) (Zb _) (Zao _ _))).trans h8) (Zo ((Zh (Za rfl) (Zb _)).trans h9) QG)))) rfl Ja) ((Zh (Za rfl) (Zb _)).trans hA) he)]
  rw[Zn ((Zr (Za rfl)).trans hB)]
  simp only[Yk,Yl]
  rw[Zn (w:=.t w) (m1:=put m i sd++[some (false,[.int r3])]) ?_]
  ·exact Zf (ZoR (Zo (Ql (Jw (Zo (Zb _) (Zo (Zb _) (Zo (Zb _) QG))) rfl Ja) ((Zh (Za rfl) (Zb _)).trans hE) hy) (Zo (Za rfl) (Zo (Za rfl) (Zo (Za rfl) (Zo (Za rfl) (Zo (Za rfl) (Zo (Za rfl) QG))))))) rfl Ja)
  ·refine(Za1 (Za rfl) (Zk (Zb _) ((Zh (Za rfl) (Zb _)).trans hC) (Zao _ _)) (w2:=.c m.length) (m3:=put m i sc++[some (false,[.int 12])]) ?_).trans ?_
   ·simp[ev,evs,Ze,Xm,Ji,lim,Zx]
   ·rw[hd.1,Int.add_comm 1]
    exact hD
 exact Zv (ZdQ _ _ _) rfl key (show Res.ok _ ((put m i se++[some (false,[T.int r3])]).take (put m i s).length)=_ from by rw[Zx];exact congrArg _ (V8 Zx))
theorem Zlk{a sep b:List Nat}(hn:∀k<a.length,((a++(sep++b)).drop k).take sep.length≠sep):Zfo (a++(sep++b)) sep=.tup [.str a,.str sep,.str b]:=by
 have at_iff:∀k,PySem.StrLaws.At ⟨(a++(sep++b)).toArray⟩ ⟨sep.toArray⟩ (YaK ⟨(a++(sep++b)).toArray⟩) k↔k+sep.length<=(a++(sep++b)).length/\((a++(sep++b)).drop k).take sep.length=sep:=λk=>by
  unfold PySem.StrLaws.At
  rw[PySem.StrLaws.subAt_eq,beq_iff_eq]
  simp[YaK]
 have hA:((a++(sep++b)).drop a.length).take sep.length=sep:=by rw[YaV,V8]<;>rfl
 unfold Zfo
 rcases PyProof.Rows.partition_whole ⟨(a++(sep++b)).toArray⟩ ⟨sep.toArray⟩with⟨_,hN⟩|⟨i,hp,hi,hm⟩
 ·exact absurd ((at_iff a.length).mpr ⟨by simp,hA⟩) (hN _)
 ·rw[at_iff]at hi
  have e:i=a.length:=by
   rcases Nat.lt_trichotomy i a.length with h|h|h
   ·exact absurd hi.2 (hn i h)
   ·exact h
   ·exact absurd ((at_iff a.length).mpr ⟨by simp,hA⟩) (hm _ h)
  subst e
  have e3:((a++(sep++b)).drop (a.length+sep.length)).take ((a++(sep++b)).length-(a.length+sep.length))=b:=by
   rw[<-List.drop_drop,YaV rfl,YaV rfl,List.take_of_length_le]
   simp only[Yi]
   omega
  rw[hp]
  simp only[PySem.StrLaws.strSub_toList,YaK,Yh,e3]
  simp
theorem ZnQ{a b:List Nat}{c:Nat}(h:c∉a):Zfo (a++([c]++b)) [c]=.tup [.str a,.str [c],.str b]:=Zlk λk hk e=>by
 rw[List.drop_append_of_le_length (by omega),Ub hk]at e
 have e:[a[k]]=[c]:=e
 cases e
 exact h (Ge hk)
theorem ZiB{a b:List Nat}(h:124∉a):Zfo (a++([32,124,32]++b)) [32,124,32]=.tup [.str a,.str [32,124,32],.str b]:=Zlk λk hk e=>by
 rw[List.drop_append_of_le_length (by omega),Ub hk]at e
 by_cases h1:k+1<a.length
 ·rw[Ub h1]at e
  have e:a[k]::a[k+1]::List.take 1 (List.drop (k+1+1) a++([32,124,32]++b))=[32,124,32]:=e
  exact h ((VG (VG e).2).1▸Ge h1)
 ·rw[List.drop_eq_nil_of_le (by omega)]at e
  have e:[a[k],32,124]=[32,124,32]:=e
  cases(VG (VG e).2).1
noncomputable def Qk(ws:List (List Nat)):List Nat:=if ws=[]then[45]else Zd [44] ws
theorem Zqf:∀{ws:List (List Nat)},ws≠[]->(∀w∈ws,w≠[])->Zd [44] ws≠[]
 |[x],_,h=>h x (by simp)
 |x::y::r,_,h=>by
  rw[Zd]
  ·simp
  ·simp
theorem Zil:∀{ws:List (List Nat)}{k:Nat},(∀w∈ws,w.length<=k)->(ws.map YW).sum<=ws.length*k
 |[],_,_=>by simp
 |a::l,k,h=>by
  have:=h a (by simp)
  have:=Zil λw hw=>h w (Yp _ hw)
  rw[Yz,Gd,Yq,Nat.succ_mul]
  omega
theorem ZbQ(sep:List Nat):∀{ws:List (List Nat)}{k:Nat},(∀w∈ws,w.length<=k)->(Zd sep ws).length<=ws.length*(k+sep.length)/\(ws.map YW).sum+ws.length*sep.length<=ws.length*(k+sep.length)
 |[],k,_=>by simp[Zd]
 |x::r,k,h=>by
  have h0:=ZbP sep (x::r)
  have h1:=Zil h
  rw[Ybt]
  omega
theorem ZcC{n:Nat}{m:Mem}{x:T}{ws:List (List Nat)}(hx:x=.lst (ws.map .str)∨x=.tup (ws.map .str))(hl:ws.length<=100)(hw:∀w∈ws,w≠[]/\w.length<=100):cf (n+1) 28 [.t x] m=.ok (.t (.str (Qk ws))) m:=by
 have hb:=(ZbQ [44] (ws:=ws) (k:=100) λw h=>(hw w h).2)
 have hb2:ws.length*(100+[44].length)<=10100:=by simp;omega
 have hm:mthT .join (.str [44]) [x]=some (.str (Zd [44] ws)):=by
  rcases hx with rfl|rfl<;>(show((strs? (ws.map T.str)).bind λys=>if(ys.map YW).sum+ys.length*[44].length<=lim then some (T.str (Zd [44] ys))else none)=_;rw[Zcb,WD,if_pos (by unfold lim;omega)])
 have hj:ev (cf n) gv (.mth .join (.con (.str [44])) (.cons (.var 0) .nil)) [some (.t x)] m=.ok (.t (.str (Zd [44] ws))) m:=by
  rw[ev,Zb,Ze,if_pos (show tyM .join (.t (.str [44])) m=true from rfl),evs,Za rfl,Ze,evs,Ze,Ze]
  show pur (mthT .join (.str [44]) [x]) m=_
  rw[hm];rfl
 have key:ex (cf n) gv JH [some (.t x)] m=.ok (.ret (.t (.str (Qk ws)))) m:=by
  unfold JH
  refine Zf (Zh2 hj (ZcP ZaC) ?_)
  show(if(Zd [44] ws).length<=lim then some (if(Zd [44] ws).isEmpty=true then T.str [45]else T.str (Zd [44] ws))else none)=_
  rw[if_pos (by unfold lim;omega)]
  unfold Qk
  by_cases h:ws=[]
  ·subst h;rfl
  ·rw[if_neg h,if_neg (by have:=Zqf h λw hw'=>(hw w hw').1;simpa using this)]
 exact Zv (Zg7 _ _ _) rfl key (Zi (cell:=false) rfl)
theorem ZgI{n:Nat}{m:Mem}{ws:List (List Nat)}(hl:ws.length<=100)(hd:Zm 60 (.lst (ws.map .str))=true)(hw:∀w∈ws,w≠[]/\w.length<=100):cf (n+1) 51 [.t (.lst (ws.map .str))] m=.ok (.t (.str (Qk ws))) m:=by
 have hb:=(ZbQ [44] (ws:=ws) (k:=100) λw h=>(hw w h).2)
 have hb2:ws.length*(100+[44].length)<=10100:=by simp;omega
 have hm:mthT .join (.str [44]) [.lst (ws.map .str)]=some (.str (Zd [44] ws)):=by
  show((strs? (ws.map T.str)).bind λys=>if(ys.map YW).sum+ys.length*[44].length<=lim then some (T.str (Zd [44] ys))else none)=_
  rw[Zcb,WD,if_pos (by unfold lim;omega)]
 have hj:ev (cf n) gv (.mth .join (.con (.str [44])) (.cons (.var 0) .nil)) [some (.t (.lst (ws.map .str)))] m=.ok (.t (.str (Zd [44] ws))) m:=by
  rw[ev,Zb,Ze,if_pos (show tyM .join (.t (.str [44])) m=true from rfl),evs,Za rfl,Ze,evs,Ze,Ze]
  show pur (mthT .join (.str [44]) [.lst (ws.map .str)]) m=_
  rw[hm];rfl
 have hq:cmpT .Eq (.lst (ws.map .str)) (.lst [])=some (decide (ws=[])):=by
  show(if Zht _ _ || (Zm 60 _&&Zm 60 (.lst []))then _ else _)=_
  rw[if_pos (by rw[hd];exact YaU _)]
  cases ws<;>rfl
 have key:ex (cf n) gv ZaR [some (.t (.lst (ws.map .str)))] m=.ok (.ret (.t (.str (Qk ws)))) m:=by
  unfold ZaR
  refine Zf (Ql (ZaE hj (Zb _)) (Zy (Zu (Za rfl) (by simp[ev,evs,Ze,Ji,lim]) hq) (Zn3 _)) ?_)
  unfold Qk
  by_cases h:ws=[]
  ·subst h;rfl
  ·rw[if_neg h,decide_eq_false h];rfl
 exact Zv (Zkm _ _ _) rfl key (Zi (cell:=false) rfl)
theorem Qu{w:List Nat}(h:Qh w=true):w≠[]/\w.length<=8/\∀c∈w,c∈lett:=by
 unfold Qh at h
 simp at h
 exact⟨λe=>by simp[e]at h,h.1.1.2,h.2⟩
theorem J5{w:List Nat}{c:Nat}(h:Qh w=true)(hc:c∉lett):c∉w:=λhm=>hc ((Qu h).2.2 c hm)
theorem ZdJ{call:Nat->List W->Mem->Res W}{gv:List T}{env:Env}{m:Mem}{b:Mt}{o e:E}{x y r:T}(hb:b=.split∨b=.partition)(ho:ev call gv o env m=.ok (.t x) m)(he:ev call gv e env m=.ok (.t y) m)(hx:isT x .str=true)(hm:mthT b x [y]=some r):ev call gv (.mth b o (.cons e .nil)) env m=.ok (.t r) m:=by
 cases x with
 |str cs =>
  rcases hb with rfl|rfl<;>rw[ev,ho,Ze,if_pos (by rfl),evs,he,Ze,evs,Ze,Ze]
  ·show pur (mthT .split (.str cs) [y]) m=_
   rw[hm];rfl
  ·show pur (mthT .partition (.str cs) [y]) m=_
   rw[hm];rfl
 |_=>cases hx
theorem m_split{c:Nat}{ws:List (List Nat)}(h0:ws≠[])(h:∀w∈ws,c∉w)(hl:(Zd [c] ws).length<=900000):mthT .split (.str (Zd [c] ws)) [.str [c]]=some (.lst (ws.map .str)):=by
 show(if(Zd [c] ws).length<=900000 then some (T.lst ((Q8 c (Zd [c] ws)).map .str))else none)=_
 rw[if_pos hl,Xx h0 h]
theorem ZcA{n:Nat}{m:Mem}{k:Int}(h0:0<=k)(h1:k<=1000000000):cf (n+3) 31 [.t (.str (decI k))] m=.ok (.t (.int k)) m:=by
 obtain⟨hf,hv,_,_⟩:=ZS h0 (by omega)
 have hi:=Zdt (n:=n+1) (m:=m) (ZfF hf).2
 rw[hf]at hi
 have hb:=(ZfF hf).1
 rw[hv]at hb
 have hn:=J6 (n:=n) (m:=m) (x:=.int k)
 rw[show numB (.int k)=true by simp[numB];omega]at hn
 have key:ex (cf (n+2)) gv JF [some (.t (.str (decI k)))] m=.ok (.ret (.t (.int k))) m:=by
  unfold JF
  exact Zw (by rw[Zh3 ((Zr (Za rfl)).trans hi)];exact(Zr (Zy (Za rfl) hb)).trans hn) (Zf (Zy (Za rfl) hb))
 exact Zv (Zg5 _ _ _) rfl key (Zi (cell:=false) rfl)
theorem Zcx{n:Nat}{m:Mem}{ws:List (List Nat)}(hl:ws.length<=100)(hw:∀w∈ws,w≠[]/\w.length<=100/\44∉w)(hd:ws.length=1->ws≠[[45]]):cf (n+1) 29 [.t (.str (Qk ws))] m=.ok (.t (.lst (ws.map .str))) m:=by
 have key:ex (cf n) gv JD [some (.t (.str (Qk ws)))] m=.ok (.ret (.t (.lst (ws.map .str)))) m:=by
  unfold JD
  have hq:cmpT .Eq (.str (Qk ws)) (.str [45])=some (Qk ws==[45]):=rfl
  by_cases h:ws=[]
  ·subst h
   exact Zw (Zu (k:=true) (Za rfl) (ZcP ZaC) hq) (Zf (by simp[ev,evs,Ze,Ji,lim]))
  ·have hb:=(ZbQ [44] (ws:=ws) (k:=100) λw h=>(hw w h).2.1).1
   have hb2:ws.length*(100+[44].length)<=10100:=by simp;omega
   have e:Qk ws=Zd [44] ws:=if_neg h
   have hne:(Qk ws==[45])=false:=by
    rw[e,beq_eq_false_iff_ne]
    rcases ws with _|⟨x,_|⟨y,r⟩⟩
    ·exact absurd rfl h
    ·intro z
     exact hd rfl (by rw[show x=[45]from z])
    ·intro z
     have z:x++[44]++Zd [44] (y::r)=[45]:=z
     have:=congrArg YW z
     have h1:=List.length_pos_iff.mpr (hw x (by simp)).1
     simp at this
     omega
   rw[hne]at hq
   rw[Zq (Zu (Za rfl) (ZcP ZaC) hq),e]
   exact Zf (ZdJ (.inl rfl) (Za rfl) (Zb _) rfl (m_split h (λw hm=>(hw w hm).2.2) (by omega)))
 exact Zv (Zg4 _ _ _) rfl key (Zi (cell:=false) rfl)
noncomputable def szX(p:List Nat×Int):List Nat:=p.1++([61]++decI p.2)
theorem Zja{n:Nat}{m:Mem}{p:List Nat×Int}(hw:Qh p.1=true)(h0:0<=p.2)(h1:p.2<=1000000000):cf (n+4) 32 [.t (.str (szX p))] m=.ok (.t (JR p)) m:=by
 have hd:=(ZS h0 (by omega)).2.2.2
 have hl:=(Qu hw).2.1
 have hp:mthT .partition (.str (szX p)) [.str [61]]=some (.tup [.str p.1,.str [61],.str (decI p.2)]):=by
  show(if(szX p).length<=900000 then some (Zfo (szX p) [61])else none)=_
  rw[if_pos (by simp[szX];omega),show szX p=p.1++([61]++decI p.2)from rfl,ZnQ (J5 hw (by decide))]
 have key:ex (cf (n+3)) gv ZaL [some (.t (.str (szX p))),none,none,none] m=.ok (.ret (.t (JR p))) m:=by
  unfold ZaL
  rw[Zbj (ZdJ (.inr rfl) (Za rfl) (Zb _) rfl hp) rfl]
  exact Zf (ZZ (Za rfl) ((Zr (Za rfl)).trans (ZcA h0 h1)))
 exact Zv (Zkf _ _ _) rfl key (Zi (cell:=false) rfl)
theorem Zod{call:Nat->List W->Mem->Res W}{gv:List T}{env:Env}{m m1:Mem}{e:E}{es:Es}{acc p:List Nat}{x:T}(h:ev call gv e env m=.ok (.t x) m1)(hx:fmtT x=some p)(hl:acc.length+p.length<=lim):evf call gv (.cons e es) acc env m=evf call gv es (acc++p) env m1:=by
 have f:fmtW acc (.t x) m1=.ok (acc++p) m1:=by
  unfold fmtW
  show(match fmtT x with|some a=>_|none=>_)=_
  rw[hx]
  exact if_pos hl
 rw[evf,h,Ze,f,Ze]
theorem Zad{call:Nat->List W->Mem->Res W}{gv:List T}{env:Env}{m m1:Mem}{e:E}{es:Es}{acc p:List Nat}{x:T}{n k:Nat}{r:Res (List Nat)}(ha:acc.length<=n)(h:ev call gv e env m=.ok (.t x) m1)(hx:fmtT x=some p)(hp:p.length<=k)(hl:n+k<=1000000)(hr:(acc++p).length<=n+k->evf call gv es (acc++p) env m1=r):evf call gv (.cons e es) acc env m=r:=by
 have:=Nat.add_le_add ha hp
 rw[Zod h hx (Y5 this hl)]
 exact hr (by rw[Yi];exact this)
theorem ZdH{k:Int}(h0:0<=k)(h1:k<=1000000000):fmtT (.int k)=some (decI k):=if_pos (by
 have:(1000000001:Nat)<=2^250:=by decide +kernel
 omega)
noncomputable def Qp(side nm kd:List Nat)(mk:List (List Nat))(sz:List (List Nat×Int))(a b c e:Int):List (List Nat):=[side,nm,kd,Qk mk,Qk (sz.map szX),decI a,decI b,decI c,decI e]
theorem ZbN{ws:List (List Nat)}(hl:ws.length<=6)(h:∀w∈ws,w.length<=20):(Qk ws).length<=126:=by
 unfold Qk
 split
 ·simp
 ·have:=(ZbQ [44] h).1
  simp at this
  omega
theorem Zik{p:List Nat×Int}(hw:Qh p.1=true)(h0:0<=p.2)(h1:p.2<=1000000000):szX p≠[]/\(szX p).length<=20:=by
 have hd:=(ZS h0 (by omega)).2.2.2
 have hl:=(Qu hw).2.1
 refine⟨by simp[szX],?_⟩
 simp[szX]
 omega
theorem Zfq{n d:Nat}{m:Mem}{side nm kd:List Nat}{mk:List (List Nat)}{sz:List (List Nat×Int)}{w:T}{a b c e:Int}(hs:side∈sides)(g:GoodC nm kd mk sz)(hw:WT (d+1) w)(ht:tot (d+1) [w]<=40)(hd:d<=5)(a0:0<=a)(a1:a<=1000000000)(b0:0<=b)(b1:b<=1000000000)(c0:0<=c)(c1:c<=1000000000)(e0:0<=e)(e1:e<=1000000000)(hwt:∀m,cf (n+40) 18 [.t w] m=.ok (.t (.str (Zd [32] (cw (d+1) w)))) m)(hwl:(Zd [32] (cw (d+1) w)).length<=2400):
  cf (n+41) 30 [.t (offT side (Qi nm kd mk sz) w a b c e)] m=.ok (.t (.str (Zd [32] (Qp side nm kd mk sz a b c e)++([32,124,32]++Zd [32] (cw (d+1) w))))) m:=by
 have ls:side.length<=4:=by
  simp only[sides,Ym,Yt,or_false]at hs
  rcases hs with rfl|rfl|rfl<;>decide
 have ln:=(Qu g.nm).2.1
 have lk:=(Qu g.kd).2.1
 have la:=(ZS a0 (by omega)).2.2.2
 have lb:=(ZS b0 (by omega)).2.2.2
 have lc:=(ZS c0 (by omega)).2.2.2
 have le:=(ZS e0 (by omega)).2.2.2
 have lm:=ZbN g.mkl λw hw=>by have:=(Qu (Yr.mp g.mkw w hw)).2.1;omega
 have hz:∀w∈sz.map szX,w≠[]/\w.length<=20:=λw hw=>by
  obtain⟨p,hp,rfl⟩:=YK.mp hw
  have:=g.szw p hp
  exact Zik this.1 this.2.1 this.2.2
 have lz:=ZbN (ws:=sz.map szX) (by rw[Yc];exact g.szl) λw hw=>(hz w hw).2
 have hm:=λm=>ZcC (n:=n+39) (m:=m) (x:=.tup (mk.map .str)) (ws:=mk) (.inr rfl) (by have:=g.mkl;omega) λw hw=>by
  have:=Qu (Yr.mp g.mkw w hw)
  exact⟨this.1,by omega⟩
 have hzt:=λm=>ZcC (n:=n+39) (m:=m) (x:=.lst ((sz.map szX).map .str)) (ws:=sz.map szX) (.inl rfl) (by rw[Yc];have:=g.szl;omega) λw hw=>⟨(hz w hw).1,by have:=(hz w hw).2;omega⟩
 have hcomp:∀(env:Env),env[11]?=some (some (.t (.tup (sz.map JR))))->ev (cf (n+40)) gv Za9 env m=.ok (.t (.lst ((sz.map szX).map .str))) m:=λenv he=>by
  have h:=Z0 (f:=Qj (cf (n+40)) gv .nil Xd) (tg:=.tp [0,1]) (env:=[none,none]) (m:=m) (g:=λt=>match t with|.tup [.str w,.int k]=>[T.str (szX (w,k))]|_=>[]) (sz.map JR) (λt ht=>by
   obtain⟨p,hp,rfl⟩:=YK.mp ht
   have q:=g.szw p hp
   have hd':=(ZS q.2.1 (by omega)).2.2.2
   have hl':=(Qu q.1).2.1
   refine⟨[some (.t (.str p.1)),some (.t (.int p.2))],rfl,Zdc (show ev (cf (n+40)) gv Xd _ _=_ from Jx ?_)⟩
   rw[ev,Zod (Za rfl) rfl (by simp[lim];omega),Zod (Zb _) rfl (by simp[lim];omega),Zod (Za rfl) (ZdH q.2.1 q.2.2) (by simp[lim];omega),evf,Ze]
   simp[szX])
  have e':(sz.map JR).flatMap (λt=>match t with|.tup [.str w,.int k]=>[T.str (szX (w,k))]|_=>[])=(sz.map szX).map .str:=by
   rw[Vz,Wa]
   exact Qa _ _
  rw[e']at h
  exact ZL (x:=.t (.tup (sz.map JR))) (m0:=m) (Za he) rfl h (by rw[Yc,Yc];have:=g.szl;unfold lim;omega)
 have key:ex (cf (n+40)) gv Jd [some (.t (offT side (Qi nm kd mk sz) w a b c e)),none,none,none,none,none,none,none,none,none,none,none,none] m=.ok (.ret (.t (.str (Zd [32] (Qp side nm kd mk sz a b c e)++([32,124,32]++Zd [32] (cw (d+1) w)))))) m:=by
  unfold Jd
  rw[Zbj (Za rfl) rfl]
  rw[Zbj (t:=Qi nm kd mk sz) (Za rfl) rfl]
  simp only[UL,Vh,Vq,Ut,Yai,Yk,Yl]
  rw[Zn ((Zr (hcomp _ rfl)).trans (hzt m))]
  refine Zf ?_
  simp only[Yk,Yl]
  rw[ev]
  refine Eq.trans (congrArg (λr=>Res.bind r _) (Zad (Gr 0) (Za rfl) rfl ls (by decide) λh=>Zad h (Zb _) rfl (by decide:[32].length<=1) (by decide) λh=>Zad h (Za rfl) rfl ln (by decide) λh=>Zad h (Zb _) rfl (by decide:[32].length<=1) (by decide) λh=>Zad h (Za rfl) rfl lk (by decide) λh=>Zad h (Zb _) rfl (by decide:[32].length<=1) (by decide) λh=>Zad h ((Zr (Za rfl)).trans (hm m)) rfl lm (by decide) λh=>Zad h (Zb _) rfl (by decide:[32].length<=1) (by decide) λh=>Zad h (Za rfl) rfl lz (by decide) λh=>Zad h (Zb _) rfl (by decide:[32].length<=1) (by decide) λh=>Zad h (Za rfl) (ZdH a0 a1) la (by decide) λh=>Zad h (Zb _) rfl (by decide:[32].length<=1) (by decide) λh=>Zad h (Za rfl) (ZdH b0 b1) lb (by decide) λh=>Zad h (Zb _) rfl (by decide:[32].length<=1) (by decide) λh=>Zad h (Za rfl) (ZdH c0 c1) lc (by decide) λh=>Zad h (Zb _) rfl (by decide:[32].length<=1) (by decide) λh=>Zad h (Za rfl) (ZdH e0 e1) le (by decide) λh=>Zad h (Zb _) rfl (by decide:[32,124,32].length<=3) (by decide) λh=>Zad h ((Zr (Za rfl)).trans (hwt m)) rfl hwl (by decide) λh=>(by rw[evf]))) ?_
  rw[Ze]
  simp[Qp,Zd]
 exact Zv (ZfM _ _ _) rfl key (Zi (cell:=false) rfl)
theorem ZeU:∀{d:Nat}{l:List T}(e:Nat),(∀t∈l,WT d t)->tot (d+e) l=tot d l
 |0,l,e,h=>by
  cases l with
  |nil=>rw[Xw,Xw]
  |cons t l=>exact absurd (h t (by simp)) λz=>by cases z
 |d+1,l,e,h=>by
  rw[show d+1+e=(d+e)+1 by omega,tot,tot,ZeU e λt ht=>?_]
  obtain⟨x,hx,hy⟩:=VB.mp ht
  exact(h x hx).kid t hy
theorem ZgU{w:List Nat}(h:Qh w=true):fits (.str w)=true:=by
 rw[fits]
 exact decide_eq_true (Xu h)
theorem Zqp{d:Nat}{t:T}(h:WT d t):fits t=true:=by
 induction h with
 |leaf h _ _ =>
  cases Zfv h with
  |any=>rfl
  |two hw hv=>rcases hw with rfl|rfl<;>simp[fits,Zac,lim]<;>exact decide_eq_true (Xu hv)
  |three hw hv _ _=>rcases hw with rfl|rfl<;>simp[fits,Zac,lim]<;>exact decide_eq_true (Xu hv)
 |nt _ ih=>simp[fits,Zac,lim,ih]
 |jn hw _ _ _ ih=>rcases hw with rfl|rfl<;>simp[fits,Zac,lim]<;>exact ZcZ ih
theorem GoodC.fits{nm kd:List Nat}{mk:List (List Nat)}{sz:List (List Nat×Int)}(g:GoodC nm kd mk sz):My.fits (Qi nm kd mk sz)=true:=by
 have h1:Zac (mk.map T.str)=true:=ZcZ λt ht=>by
  obtain⟨w,hw,rfl⟩:=YK.mp ht
  exact ZgU (Yr.mp g.mkw w hw)
 have h2:Zac (sz.map JR)=true:=ZcZ λt ht=>by
  obtain⟨p,hp,rfl⟩:=YK.mp ht
  have:=ZgU (g.szw p hp).1
  simp[JR,My.fits,Zac]at this ⊢
  exact this
 simp only[Qi,My.fits,Zac,h1,h2,Bool.and_true]
 rw[decide_eq_true (Xu g.nm),decide_eq_true (Xu g.kd)]
 rfl
theorem GoodC.card{nm kd:List Nat}{mk:List (List Nat)}{sz:List (List Nat×Int)}(g:GoodC nm kd mk sz):Zeo (Qi nm kd mk sz)=true:=by
 have h1:(mk.map T.str).map strO=mk:=by rw[Wa];exact Vv mk
 have h2:((sz.map JR).map fstO).map strO=sz.map (·.1):=by rw[Wa,Wa];rfl
 have h3:(mk.map T.str).all Jq=true:=by rw[Gs];exact g.mkw
 have h4:(sz.map JR).all Zbb=true:=by
  rw[Gs,Yr]
  intro p hp
  have:=g.szw p hp
  show(Qh p.1&&numB (.int p.2))=true
  rw[this.1]
  simp[numB,this.2]
 show(Qh nm&&(Qh kd&&(ZbM (.tup (mk.map .str))&&Zct (.tup (sz.map JR)))))=true
 rw[g.nm,g.kd]
 simp only[ZbM,Zct,h1,h2,h3,h4,g.mkr,g.szr,Yc,decide_eq_true g.mkl,decide_eq_true g.szl]
 rfl
theorem ZgP{n d:Nat}{m:Mem}{side nm kd:List Nat}{mk:List (List Nat)}{sz:List (List Nat×Int)}{w:T}{a b c e:Int}(hs:side∈sides)(g:GoodC nm kd mk sz)(hw:WT (d+1) w)(ht:tot (d+1) [w]<=40)(hd:d<=5)(a0:1<=a)(a1:a<=1000000)(b0:1<=b)(b1:b<=a)(c0:0<=c)(c1:c<=1000)(e0:0<=e)(e1:e<=1000000000):
  cf (n+6) 17 [.t (offT side (Qi nm kd mk sz) w a b c e)] m=.ok (.t (.bl true)) m:=by
 have hw6:Zaz w=true:=Zih hw (by omega) (by
  rw[show 6=d+1+(5-d) by omega,ZeU (5-d) λt h=>by rw[YX]at h;exact h▸hw]
  exact ht)
 have hfit:fits (offT side (Qi nm kd mk sz) w a b c e)=true:=by
  have:fits (.str side)=true:=by
   simp only[sides,Ym,Yt,or_false]at hs
   rcases hs with rfl|rfl|rfl<;>simp[fits,lim]
  simp only[offT,fits,Zac,g.fits,Zqp hw]at this ⊢
  simpa using this
 have hone:oneOf (.str side) sides=true:=by
  simp only[sides,Ym,Yt,or_false]at hs
  rcases hs with rfl|rfl|rfl<;>decide
 have:=ZhU (n:=n) (m:=m) hfit
 rw[this]
 have hB:Zal (offT side (Qi nm kd mk sz) w a b c e)=true:=by
  show(oneOf (.str side) sides&&(Zeo (Qi nm kd mk sz)&&(Zaz w&&(betB (.int a) 1 1000000&&(ZgK (.int b) (.int a)&&(betB (.int c) 0 1000&&numB (.int e)))))))=true
  rw[hone,g.card,hw6]
  simp[betB,ZgK,numB]
  omega
 rw[hB]
theorem Zqq{call:Nat->List W->Mem->Res W}{gv:List T}{env env':Env}{m m1:Mem}{is:List Nat}{e:E}{k:S}{ts:List T}(h:ev call gv e env m=.ok (.t (.lst ts)) m1)(h2:Qs (.tp is) (.tup ts) env=some env'):ex call gv (.asgL is e k) env m=ex call gv k env' m1:=by
 rw[ex,h,Ze]
 dsimp only
 rw[h2]
theorem dec_not{k:Int}{c:Nat}(h0:0<=k)(h1:k<=1000000000)(hc:c∉digs):c∉decI k:=λhm=>by
 have:=(ZS h0 (by omega)).1
 unfold figB at this
 simp only[Yg,Yr,decide_eq_true_eq]at this
 exact hc (this.1.2 c hm)
theorem ZbK{sep:List Nat}{c:Nat}:∀{ws:List (List Nat)},c∈Zd sep ws->c∈sep∨∃w∈ws,c∈w
 |[],h=>by cases h
 |[x],h=>.inr ⟨x,by simp,h⟩
 |x::y::r,h=>by
  have h:c∈x++sep++Zd sep (y::r):=h
  rcases Y7.mp h with h|h
  ·rcases Y7.mp h with h|h
   ·exact .inr ⟨x,by simp,h⟩
   ·exact .inl h
  ·rcases ZbK h with h|⟨w,hw,h⟩
   ·exact .inl h
   ·exact .inr ⟨w,Yp _ hw,h⟩
theorem ZgG{c:Nat}{ws:List (List Nat)}(h1:c≠44)(h2:c≠45)(h:∀w∈ws,c∉w):c∉Qk ws:=λhm=>by
 unfold Qk at hm
 split at hm
 ·exact h2 (by simpa using hm)
 ·rcases ZbK hm with hm|⟨w,hw,hm⟩
  ·exact h1 (by simpa using hm)
  ·exact h w hw hm
theorem ZiP{c:Nat}{side nm kd:List Nat}{mk:List (List Nat)}{sz:List (List Nat×Int)}{a b d e:Int}(hs:side∈sides)(g:GoodC nm kd mk sz)(a0:0<=a)(a1:a<=1000000000)(b0:0<=b)(b1:b<=1000000000)(c0:0<=d)(c1:d<=1000000000)(e0:0<=e)(e1:e<=1000000000)(hl:c∉lett)(hd:c∉digs)(h1:c≠44)(h2:c≠45)(h3:c≠61):∀w∈Qp side nm kd mk sz a b d e,c∉w:=by
 have q1:c∉side:=λhm=>by
  simp only[sides,Ym,Yt,or_false]at hs
  refine hl ?_
  rcases hs with rfl|rfl|rfl<;>(simp only[Ym,Yt,or_false]at hm;rcases hm with rfl|rfl|rfl|rfl<;>decide)
 have q2:c∉Qk mk:=ZgG h1 h2 λw hw=>J5 (Yr.mp g.mkw w hw) hl
 have q3:c∉Qk (sz.map szX):=ZgG h1 h2 λw hw=>by
  obtain⟨p,hp,rfl⟩:=YK.mp hw
  have q:=g.szw p hp
  intro hm
  rcases Y7.mp hm with hm|hm
  ·exact J5 q.1 hl hm
  ·rcases Y7.mp hm with hm|hm
   ·exact h3 (by simpa using hm)
   ·exact dec_not q.2.1 q.2.2 hd hm
 unfold Qp
 exact Wb.mpr ⟨q1,Wb.mpr ⟨J5 g.nm hl,Wb.mpr ⟨J5 g.kd hl,Wb.mpr ⟨q2,Wb.mpr ⟨q3,Wb.mpr ⟨dec_not a0 a1 hd,Wb.mpr ⟨dec_not b0 b1 hd,Wb.mpr ⟨dec_not c0 c1 hd,Wb.mpr ⟨dec_not e0 e1 hd,λ_ h=>absurd h Yt⟩⟩⟩⟩⟩⟩⟩⟩⟩
theorem ZfC{side nm kd:List Nat}{mk:List (List Nat)}{sz:List (List Nat×Int)}{a b d e:Int}(hs:side∈sides)(g:GoodC nm kd mk sz)(a0:0<=a)(a1:a<=1000000000)(b0:0<=b)(b1:b<=1000000000)(c0:0<=d)(c1:d<=1000000000)(e0:0<=e)(e1:e<=1000000000):((Qp side nm kd mk sz a b d e).map YW).sum+9<=2000:=by
 have ls:side.length<=4:=by
  simp only[sides,Ym,Yt,or_false]at hs
  rcases hs with rfl|rfl|rfl<;>decide
 have ln:=(Qu g.nm).2.1
 have lk:=(Qu g.kd).2.1
 have la:=(ZS a0 (by omega)).2.2.2
 have lb:=(ZS b0 (by omega)).2.2.2
 have lc:=(ZS c0 (by omega)).2.2.2
 have le:=(ZS e0 (by omega)).2.2.2
 have lm:=ZbN g.mkl λw hw=>by have:=(Qu (Yr.mp g.mkw w hw)).2.1;omega
 have lz:=ZbN (ws:=sz.map szX) (by rw[Yc];exact g.szl) λw hw=>by
  obtain⟨p,hp,rfl⟩:=YK.mp hw
  have:=g.szw p hp
  exact(Zik this.1 this.2.1 this.2.2).2
 simp[Qp]
 omega
theorem ZfD{side nm kd:List Nat}{mk:List (List Nat)}{sz:List (List Nat×Int)}{a b d e:Int}(h:((Qp side nm kd mk sz a b d e).map YW).sum+9<=2000):(Zd [32] (Qp side nm kd mk sz a b d e)).length<=2000:=Y5 (ZbP [32] _) h
theorem Zi4{n:Nat}{m:Mem}{x t:T}(h:cf n 27 [.t x] m=.ok (.t t) m):cf (n+1) 33 [.t x] m=.ok (.t t) m:=by
 have key:ex (cf n) gv ZaK [some (.t x)] m=.ok (.ret (.t t)) m:=by
  unfold ZaK
  rw[ex,Zf ((Zr (Za rfl)).trans h)]
 exact Zv (Zke _ _ _) rfl key (Zi (cell:=false) rfl)
theorem ZaY{α:Type}{f:Env->Mem->Res (List T)}{tg:Tg}{env:Env}{m:Mem}(i o:α->T):∀(xs:List α),(∀x∈xs,∃env',Qs tg (i x) env=some env'/\f env' m=.ok [o x] m)->Jg f tg (xs.map i) env m=.ok (xs.map o) m
 |[],_=>rfl
 |x::xs,h=>by
  obtain⟨env',h1,h2⟩:=h x (by simp)
  rw[Yz,Jg,h1]
  dsimp only
  rw[h2,Ze,ZaY i o xs (λy hy=>h y (Yp _ hy)),Ze]
  rfl
theorem ZhJ{n d:Nat}{m:Mem}{side nm kd:List Nat}{mk:List (List Nat)}{sz:List (List Nat×Int)}{w:T}{a b c e:Int}{ws:List (List Nat)}(hs:side∈sides)(g:GoodC nm kd mk sz)(hw:WT (d+1) w)(ht:tot (d+1) [w]<=40)(hd:d<=5)(a0:1<=a)(a1:a<=1000000)(b0:1<=b)(b1:b<=a)(c0:0<=c)(c1:c<=1000)(e0:0<=e)(e1:e<=1000000000)(hgo:GO 12 w ws)(h0:ws≠[])(hsp:∀w∈ws,32∉w)(hl:(Zd [32] ws).length<=800000):
  cf (n+58) 34 [.t (.str (Zd [32] (Qp side nm kd mk sz a b c e)++([32,124,32]++Zd [32] ws)))] m=.ok (.t (offT side (Qi nm kd mk sz) w a b c e)) m:=by
 have hn:∀{z:Nat},z∉lett->z∉digs->z≠44->z≠45->z≠61->∀w∈Qp side nm kd mk sz a b c e,z∉w:=λh1 h2 h3 h4 h5=>ZiP hs g (by omega) (by omega) (by omega) (by omega) c0 (by omega) e0 e1 h1 h2 h3 h4 h5
 have hlen:=ZfD (ZfC hs g (show 0<=a by omega) (show a<=1000000000 by omega) (show 0<=b by omega) (show b<=1000000000 by omega) c0 (show c<=1000000000 by omega) e0 e1)
 have hbar:124∉Zd [32] (Qp side nm kd mk sz a b c e):=λhm=>by
  rcases ZbK hm with hm|⟨w,hw,hm⟩
  ·simp at hm
  ·exact hn (by decide) (by decide) (by decide) (by decide) (by decide) w hw hm
 have hp:mthT .partition (.str (Zd [32] (Qp side nm kd mk sz a b c e)++([32,124,32]++Zd [32] ws))) [.str [32,124,32]]=some (.tup [.str (Zd [32] (Qp side nm kd mk sz a b c e)),.str [32,124,32],.str (Zd [32] ws)]):=by
  show(if(Zd [32] (Qp side nm kd mk sz a b c e)++([32,124,32]++Zd [32] ws)).length<=900000 then some (Zfo (Zd [32] (Qp side nm kd mk sz a b c e)++([32,124,32]++Zd [32] ws)) [32,124,32])else none)=_
  rw[if_pos (by simp;omega),ZiB hbar]
 have hsplit:=m_split (c:=32) (ws:=Qp side nm kd mk sz a b c e) (by simp[Qp]) (hn (by decide) (by decide) (by decide) (by decide) (by decide)) (by omega)
 have hread:=Zgl (n:=n) (m:=m) hgo h0 hsp hl (λ{m}=>by
  have h6:Zaz w=true:=Zih hw (by omega) (by
   rw[show 6=d+1+(5-d) by omega,ZeU (5-d) λt h=>by rw[YX]at h;exact h▸hw]
   exact ht)
  have:=ZeK (n:=n+50) (m:=m) hw.fit
  rw[h6]at this
  exact this)
 have hwish:=Zi4 hread
 have hmk:cf (n+57) 29 [.t (.str (Qk mk))] m=.ok (.t (.lst (mk.map .str))) m:=Zcx (n:=n+56) (by have:=g.mkl;omega) (λw hw=>by
  have q:=Yr.mp g.mkw w hw
  exact⟨(Qu q).1,by have:=(Qu q).2.1;omega,J5 q (by decide)⟩) (λ_ z=>by
  have q:=g.mkw
  rw[z]at q
  exact absurd q (by decide))
 have hsz:cf (n+57) 29 [.t (.str (Qk (sz.map szX)))] m=.ok (.t (.lst ((sz.map szX).map .str))) m:=Zcx (n:=n+56) (by rw[Yc];have:=g.szl;omega) (λw hw=>by
  obtain⟨p,hp,rfl⟩:=YK.mp hw
  have q:=g.szw p hp
  have q2:=Zik q.1 q.2.1 q.2.2
  refine⟨q2.1,by omega,λhm=>?_⟩
  rcases Y7.mp hm with hm|hm
  ·exact J5 q.1 (by decide) hm
  ·rcases Y7.mp hm with hm|hm
   ·simp at hm
   ·exact dec_not q.2.1 q.2.2 (by decide) hm) (λh1 z=>by
  cases sz with
  |nil=>cases h1
  |cons p r =>
   have e:szX p=[45]:=(VG z).1
   have q:=(g.szw p (by simp)).1
   have:=Qu q
   have l:=congrArg YW e
   simp[szX]at l
   exact this.1 (List.length_eq_zero_iff.mp (by omega)))
 generalize hT:Zd [32] (Qp side nm kd mk sz a b c e)++([32,124,32]++Zd [32] ws)=X at hp
 have key:ex (cf (n+57)) gv Xo [some (.t (.str X)),none,none,none,none,none,none,none,none,none,none,none] m=.ok (.ret (.t (offT side (Qi nm kd mk sz) w a b c e))) m:=by
  unfold Xo
  rw[Zbj (ZdJ (.inr rfl) (Za rfl) (Zb _) rfl hp) rfl]
  simp only[UL,Vh,Vq,Ut,Yai,Yk,Yl]
  rw[Zn (ZdJ (.inl rfl) (Za rfl) (Zb _) rfl hsplit)]
  simp only[Qp,Yz,U8,Yk,Yl]
  rw[Zq (Zu (k:=false) (Zy (Za rfl) rfl) (Zb _) rfl)]
  rw[Zn (Zy ((Zr (Ql (Za rfl) (Zb _) rfl)).trans hmk) (Zdy _))]
  simp only[Yk,Yl]
  have k1:∀env:Env,env[4]?=some (some (.t (.lst [.str side,.str nm,.str kd,.str (Qk mk),.str (Qk (sz.map szX)),.str (decI a),.str (decI b),.str (decI c),.str (decI e)])))->ev (cf (n+57)) gv ZcH env m=.ok (.t (.lst (sz.map JR))) m:=λenv he=>by
   have h:=ZaY (f:=Qj (cf (n+57)) gv .nil ZaA) (tg:=.nm 0) (env:=[none]) (m:=m) (λp=>T.str (szX p)) JR sz (λp hp=>by
    have q:=g.szw p hp
    exact⟨_,rfl,Zdc (show ev (cf (n+57)) gv ZaA _ _=_ from Jx ((Zr (Za rfl)).trans (Zja (n:=n+53) q.1 q.2.1 q.2.2)))⟩)
   rw[Wa]at hsz
   exact ZL (x:=.t (.lst (sz.map λp=>T.str (szX p)))) (m0:=m) ((Zr (Ql (Za he) (Zb _) rfl)).trans hsz) rfl h (by rw[Yc];have:=g.szl;unfold lim;omega)
  rw[Zn (Zy (k1 _ rfl) (Zdy _))]
  simp only[Yk,Yl]
  have k0:∀env:Env,env[4]?=some (some (.t (.lst [.str side,.str nm,.str kd,.str (Qk mk),.str (Qk (sz.map szX)),.str (decI a),.str (decI b),.str (decI c),.str (decI e)])))->ev (cf (n+57)) gv ZcI env m=.ok (.t (.lst [.int a,.int b,.int c,.int e])) m:=λenv he=>by
   have h:=ZaY (f:=Qj (cf (n+57)) gv .nil ZaB) (tg:=.nm 0) (env:=[none]) (m:=m) (λk=>T.str (decI k)) T.int [a,b,c,e] (λk hk=>by
    have q:0<=k/\k<=1000000000:=by
     simp only[Ym,Yt,or_false]at hk
     rcases hk with rfl|rfl|rfl|rfl<;>omega
    exact⟨_,rfl,Zdc (show ev (cf (n+57)) gv ZaB _ _=_ from Jx ((Zr (Za rfl)).trans (ZcA (n:=n+54) q.1 q.2)))⟩)
   refine ZL (x:=.t (.lst ([a,b,c,e].map λk=>T.str (decI k)))) (m0:=m) ?_ rfl h (by simp[lim])
   rw[ev,Za he,Ze,Zb]
   rfl
  rw[Zqq (k0 _ rfl) rfl]
  simp only[UL,Vh,Vq,Ut,Yai,Yk,Yl]
  rw[Zn (w:=.t (offT side (Qi nm kd mk sz) w a b c e)) (m1:=m) (by simp[ev,evs,isT,Zj,EVs,lim,hwish,offT,Qi,atT,ixOf])]
  simp only[Yk,Yl]
  exact Zw ((Zr (Za rfl)).trans (ZgP (n:=n+51) hs g hw ht hd a0 a1 b0 b1 c0 c1 e0 e1)) (Zf (Za rfl))
 exact Zv (Zh9 _ _ _) rfl key (Zi (cell:=false) rfl)
theorem Zfd{n:Nat}{m:Mem}{x:List Nat}{ts:List T}(h:cf n 34 [.t (.str x)] m=.ok (.t (.tup ts)) m):cf (n+1) 35 [.t (.str x)] m=.ok (.t (.tup ts)) m:=by
 have key:ex (cf n) gv Jc [some (.t (.str x)),none] m=.ok (.ret (.t (.tup ts))) m:=by
  unfold Jc
  rw[Zq (Z4 (k:=true) (ZeO (Za rfl) rfl)),Zn ((Zr (Za rfl)).trans h)]
  simp only[Yk,Yl]
  rw[Zq (Zu (k:=false) (Za rfl) (Zb _) rfl)]
  exact Zf (Za rfl)
 exact Zv (ZfL _ _ _) rfl key (Zi (cell:=false) rfl)
theorem Zg1{N:Nat}{s:List (List Nat)}{h:List Nat}{r:List T}{ws:List (List Nat)}{m:Mem}(hne:ws≠[])(hl:(Zd [32] ws).length<=3000)(hx:∀m:Mem,cf N 50 [.t (.tup (.str h::r))] m=.ok (.t (.str (Zd [32] ws))) m):
  cf (N+1) 49 [.t (.tup (.str h::r)),.t (.tup (s.map .str))] m=.ok (.t (.str (Zd [32] (clos s (.tup (.str h::r)) ws)))) m:=by
 have key:ex (cf N) gv ZaS [some (.t (.tup (.str h::r))),some (.t (.tup (s.map .str))),none] m=.ok (.ret (.t (.str (Zd [32] (clos s (.tup (.str h::r)) ws))))) m:=by
  unfold ZaS
  rw[Zn ((Zr (Za rfl)).trans (hx m)),ZdN hne]
  simp only[Yk,Yl]
  have hc:=Zu (call:=cf N) (gv:=gv) (env:=[some (.t (.tup (.str h::r))),some (.t (.tup (s.map .str))),some (.t (.str (Zd [32] ws)))]) (m:=m) (QD (Za (i:=0) rfl)) (Za (i:=1) rfl) (ZoM h s).1
  cases hk:(s.any λa=>a==h)with
  |true =>
   rw[hk]at hc
   rw[show(s.any λa=>a==Zbi (.tup (.str h::r)))=true from hk,if_pos rfl]
   exact Zw hc (Zf (Zk (Zk (Zb _) (Za rfl) (Jj (by simp[lim];omega))) (Zb _) (Jj (by simp[lim];omega))))
  |false =>
   rw[hk]at hc
   rw[show(s.any λa=>a==Zbi (.tup (.str h::r)))=false from hk,if_neg (by simp),Zq hc]
   exact Zf (Za rfl)
 exact Zv (Zkn _ _ _) rfl key (Zi (cell:=false) rfl)
theorem ZiI{call:Nat->List W->Mem->Res W}{gv:List T}{env:Env}{m:Mem}{o:E}{ys:List (List Nat)}(h:ev call gv o env m=.ok (.t (.tup (ys.map .str))) m)(hl:(ys.map YW).sum+ys.length<=lim):ev call gv (.mth .join (.con (.str [32])) (.cons o .nil)) env m=.ok (.t (.str (Zd [32] ys))) m:=by
 rw[ev,Zb,Ze,if_pos (show tyM .join (.t (.str [32])) m=true from rfl),evs,h,Ze,evs,Ze,Ze]
 show pur ((strs? (ys.map T.str)).bind λzs=>if(zs.map YW).sum+zs.length*[32].length<=lim then some (T.str (Zd [32] zs))else none) m=_
 rw[Zcb,WD,if_pos (by simpa using hl)]
 rfl
theorem Zp5{n d:Nat}{t:T}{m:Mem}(h:Leaf t):cf (n+1) 50 [.t t] m=.ok (.t (.str (Zd [32] (cw (d+1) t)))) m:=by
 have key:ex (cf n) gv Z1 [some (.t t),none] m=.ok (.ret (.t (.str (Zd [32] (cw (d+1) t))))) m:=by
  unfold Z1
  cases h with
  |any =>
   rw[Zn (QD (Za rfl)),skIn (Za rfl) rfl,skEq (Za rfl) rfl,skEq (Za rfl) rfl,skEq (Za rfl) rfl]
   exact Zf ((ZiI (ys:=[[97,110,121]]) (Za rfl) (by simp[lim])).trans rfl)
  |@two w v hw hv =>
   obtain⟨_,g2,_⟩:=Xf hv
   rw[Zn (QD (Za rfl)),skIn (Za rfl) (by rcases hw with rfl|rfl<;>rfl),skEq (Za rfl) (by rcases hw with rfl|rfl<;>rfl),skEq (Za rfl) (by rcases hw with rfl|rfl<;>rfl),skEq (Za rfl) (by rcases hw with rfl|rfl<;>rfl)]
   refine Zf ((ZiI (ys:=[w,v]) (Za rfl) ?_).trans ?_)
   ·rcases hw with rfl|rfl<;>(simp[lim];omega)
   ·rcases hw with rfl|rfl<;>rfl
  |@three w v k hw hv k0 k1 =>
   obtain⟨_,g2,_⟩:=Xf hv
   obtain⟨_,_,_,f4⟩:=ZS k0 (by omega)
   rw[Zn (QD (Za rfl))]
   have e2:ev (cf n) gv (.ix (.var 0) (.con (.int 2))) [some (.t (.tup [.str w,.str v,.int k])),some (.t (.str w))] m=.ok (.t (.int k)) m:=Ql (Za rfl) (Zb _) rfl
   have es:ev (cf n) gv (.ix (.lst (.cons (.con (.str [32,60,61,32])) (.cons (.con (.str [32,62,61,32])) .nil))) (.blt .int (.cons (.cmp .Eq (.var 1) (.con (.str [108,101,97,115,116]))) .nil))) [some (.t (.tup [.str w,.str v,.int k])),some (.t (.str w))] m=.ok (.t (.str (if(w==[108,101,97,115,116])=true then[32,62,61,32]else[32,60,61,32]))) m:=by
    refine Ql (ZaE (Zb _) (Zb _)) (Zy (Zu (Za rfl) (Zb _) (Zhf _ _)) (Zn3 _)) ?_
    rcases hw with rfl|rfl<;>rfl
   refine tkIn (Za rfl) (by rcases hw with rfl|rfl<;>rfl) (Zf ((Zk (Zk (ZcJ (Za rfl)) es (Jj ?_)) (Zy e2 (ZlO (by omega))) (Jj ?_)).trans ?_))
   ·rcases hw with rfl|rfl<;>(simp[lim];omega)
   ·rcases hw with rfl|rfl<;>(simp[lim];omega)
   ·rcases hw with rfl|rfl
    ·show Res.ok (W.t (.str (v++[32,62,61,32]++decI k))) m=.ok (.t (.str (v++[32]++([62,61]++[32]++decI k)))) m
     simp
    ·show Res.ok (W.t (.str (v++[32,60,61,32]++decI k))) m=.ok (.t (.str (v++[32]++([60,61]++[32]++decI k)))) m
     simp
 exact Zv (Zah _ _ _) rfl key (Zi (cell:=false) rfl)
theorem lw_of:∀{d:Nat}{t:T},WT d t->60*tot d [t]<=2400->∀(n:Nat) (m:Mem),cf (n+2*d) 50 [.t t] m=.ok (.t (.str (Zd [32] (cw d t)))) m:=by
 intro d t h
 induction h with
 |leaf hp _ _=>exact λ_ n m=>Zp5 (Zfv hp)
 |@nt d t hw ih =>
  intro hz n m
  have htot:tot (d+1) [.tup [.str [110,111,116],t]]=1+tot d [t]:=by rw[J9,Za0]
  have h:=Zo4 hw (by omega)
  have hc:=ZdO (s:=[[97,110,100],[111,114]]) (t:=t) h.ne
  have hcl:=Zc1 (s:=[[97,110,100],[111,114]]) (t:=t) h.ne
  have hlen:=h.len
  have etext:Zd [32] (cw (d+1) (.tup [.str [110,111,116],t]))=[110,111,116,32]++Zd [32] (clos [[97,110,100],[111,114]] t (cw d t)):=by
   rw[ZgY hw]
   exact(Jt (a:=[[110,111,116]]) (by simp) hc).trans rfl
  obtain⟨a,r,rfl⟩:=Tx.cons hw
  have hi:=Zg1 (N:=n+2*d) (m:=m) (s:=[[97,110,100],[111,114]]) h.ne (by omega) (λm=>ih (by omega) n m)
  have key:ex (cf (n+2*d+1)) gv Z1 [some (.t (.tup [.str [110,111,116],.tup (.str a::r)])),none] m=.ok (.ret (.t (.str (Zd [32] (cw (d+1) (.tup [.str [110,111,116],.tup (.str a::r)])))))) m:=by
   unfold Z1
   rw[etext,Zn (QD (Za rfl)),skIn (Za rfl) rfl]
   exact tkEq (Za rfl) rfl (Zf (Zk (Zb _) ((Zh (ZcJ (Za rfl)) (ZZ (Zb _) (Zb _))).trans hi) (Jj (by simp[lim];omega))))
  exact Zv (Zah _ _ _) rfl key (Zi (cell:=false) rfl)
 |@jn d w ts hw h2 h6 hts ih =>
  intro hz n m
  have htot:tot (d+1) [.tup [.str w,.tup ts]]=1+(ts.map λx=>tot d [x]).sum:=by rw[J9,Zcm hw h2 h6,ZeT]
  have small:∀t∈ts,60*tot d [t]<=2400:=λt ht=>by
   have a2:tot d [t]<=(ts.map λx=>tot d [x]).sum:=ZiH (f:=λx=>tot d [x]) ht
   omega
  have h:∀t∈ts,Tx d t:=λt ht=>Zo4 (hts t ht) (small t ht)
  have hsum:(ts.map λt=>(Zd [32] (clos (kset w) t (cw d t))).length).sum<=60*(ts.map λx=>tot d [x]).sum+4*ts.length:=by
   rw[<-Zhq]
   exact ZkJ λt ht=>Y5 (Zc1 (h t ht).ne) (Nat.add_le_add_right (h t ht).len 4)
  have hsz:((ts.map λt=>Zd [32] (clos (kset w) t (cw d t))).map YW).sum+(ts.map λt=>Zd [32] (clos (kset w) t (cw d t))).length*(32::w++[32]).length<=lim:=by
   rw[Wa,Yc]
   have e:(32::w++[32]).length<=5:=by rcases hw with rfl|rfl<;>decide
   have e2:ts.length*(32::w++[32]).length<=ts.length*5:=Nat.mul_le_mul_left _ e
   have e3:(Yae (YW ∘ λt=>Zd [32] (clos (kset w) t (cw d t))) ts).sum=(ts.map λt=>(Zd [32] (clos (kset w) t (cw d t))).length).sum:=rfl
   rw[e3]
   unfold lim
   omega
  have etext:Zd [32] (cw (d+1) (.tup [.str w,.tup ts]))=Zd (32::w++[32]) (ts.map λt=>Zd [32] (clos (kset w) t (cw d t))):=by
   rw[Zms hw,<-Zcn,Wa]
   ·rfl
   ·intro x hx
    obtain⟨t,ht,rfl⟩:=YK.mp hx
    exact ZdO (h t ht).ne
  have each:∀(e:E) (x:T),x=.tup ((kset w).map .str)->(∀env,ev (cf (n+2*d+1)) gv e env m=.ok (.t x) m)->∀env:Env,env[0]?=some (some (.t (.tup [.str w,.tup ts])))->ev (cf (n+2*d+1)) gv (.comp 1 [] (.ix (.var 0) (.con (.int 1))) (.nm 0) .nil (.emit (.call 49 (.cons (.var 0) (.cons e .nil))))) env m=.ok (.t (.lst ((ts.map λt=>Zd [32] (clos (kset w) t (cw d t))).map .str))) m:=λe x hx he env h0=>by
   have hl:=ZaY (f:=Qj (cf (n+2*d+1)) gv .nil (.emit (.call 49 (.cons (.var 0) (.cons e .nil))))) (tg:=.nm 0) (env:=[none]) (m:=m) (λt=>t) (λt=>T.str (Zd [32] (clos (kset w) t (cw d t)))) ts (λt ht=>by
    obtain⟨a,r,rfl⟩:=Tx.cons (hts t ht)
    have q:=(h _ ht).len
    have q2:=small _ ht
    refine⟨_,rfl,Zdc (Jx ((Zh (Za rfl) (he _)).trans ?_))⟩
    rw[hx]
    exact Zg1 (h _ ht).ne (by omega) (λm=>ih _ ht q2 n m))
   rw[Vv]at hl
   rw[Wa]
   exact ZL (x:=.t (.tup ts)) (m0:=m) (ZcJ (Za h0)) rfl hl (by rw[Yc];unfold lim;omega)
  have key:ex (cf (n+2*d+1)) gv Z1 [some (.t (.tup [.str w,.tup ts])),none] m=.ok (.ret (.t (.str (Zd [32] (cw (d+1) (.tup [.str w,.tup ts])))))) m:=by
   unfold Z1
   rw[etext,Zn (QD (Za rfl)),skIn (Za rfl) (by rcases hw with rfl|rfl<;>rfl),skEq (Za rfl) (by rcases hw with rfl|rfl<;>rfl)]
   rcases hw with rfl|rfl
   ·exact tkEq (Za rfl) rfl (Zf (Zh1 (Zb _) (each (.tup (.cons (.con (.str [97,110,100])) (.cons (.con (.str [111,114])) .nil))) _ rfl (λenv=>ZZ (Zb _) (Zb _)) _ rfl) hsz))
   ·rw[skEq (Za rfl) rfl]
    exact tkEq (Za rfl) rfl (Zf (Zh1 (Zb _) (each (.tup (.cons (.con (.str [111,114])) .nil)) _ rfl (λenv=>Zh0 (Zb _)) _ rfl) hsz))
  exact Zv (Zah _ _ _) rfl key (Zi (cell:=false) rfl)
theorem Zqw{p:List Nat×Int}(h:Qh p.1=true/\0<=p.2/\p.2<=1000000000):∀c∈szX p,c<1114112:=λc hc=>by
 refine Nat.lt_of_not_le λhz=>?_
 rcases Y7.mp hc with hc|hc
 ·exact J5 h.1 (c:=c) (λq=>absurd ((by decide:∀c∈lett,c<200) c q) (by omega)) hc
 ·rcases Y7.mp hc with hc|hc
  ·simp at hc;omega
  ·exact dec_not h.2.1 h.2.2 (c:=c) (λq=>absurd ((by decide:∀c∈digs,c<200) c q) (by omega)) hc
theorem law_text_ok{n d:Nat}{m:Mem}{side nm kd:List Nat}{mk:List (List Nat)}{sz:List (List Nat×Int)}{w:T}{a b c e:Int}(hs:side∈sides)(g:GoodC nm kd mk sz)(a0:0<=a)(a1:a<=1000000000)(b0:0<=b)(b1:b<=1000000000)(c0:0<=c)(c1:c<=1000000000)(e0:0<=e)(e1:e<=1000000000)(hwt:∀m,cf (n+40) 50 [.t w] m=.ok (.t (.str (Zd [32] (cw d w)))) m)(hwl:(Zd [32] (cw d w)).length<=2400):
  cf (n+41) 52 [.t (offT side (Qi nm kd mk sz) w a b c e)] m=.ok (.t (.str (Zd [32] (Qp side nm kd mk sz a b c e)++([32,124,32]++Zd [32] (cw d w))))) m:=by
 have hsum:=ZfC hs g a0 a1 b0 b1 c0 c1 e0 e1
 have hlen:=ZfD hsum
 have hm:=λm=>ZgI (n:=n+39) (m:=m) (ws:=mk) (by have:=g.mkl;omega) (by
  rw[Zm]
  refine Qm λt ht=>?_
  obtain⟨w,hw,rfl⟩:=YK.mp ht
  exact Zaf (Yr.mp g.mkw w hw)) λw hw=>by
  have:=Qu (Yr.mp g.mkw w hw)
  exact⟨this.1,by omega⟩
 have hz:=λm=>ZgI (n:=n+39) (m:=m) (ws:=sz.map szX) (by rw[Yc];have:=g.szl;omega) (by
  rw[Zm]
  refine Qm λt ht=>?_
  obtain⟨w,hw,rfl⟩:=YK.mp ht
  obtain⟨p,hp,rfl⟩:=YK.mp hw
  exact Zae (Zqw (g.szw p hp))) λw hw=>by
  obtain⟨p,hp,rfl⟩:=YK.mp hw
  have q:=g.szw p hp
  have:=Zik q.1 q.2.1 q.2.2
  exact⟨this.1,by omega⟩
 have k1:∀(M:Mem) (env:Env),env[2]?=some (some (.t (Qi nm kd mk sz)))->ev (cf (n+40)) gv ZaH env M=.ok (.t (.lst ((sz.map szX).map .str))) M:=λM env he=>by
  have h:=ZaY (f:=Qj (cf (n+40)) gv .nil Ju) (tg:=.tp [0,1]) (env:=[none,none]) (m:=M) JR (λp=>T.str (szX p)) sz (λp hp=>by
   have q:=g.szw p hp
   have q1:=(ZS q.2.1 (by omega)).2.2.2
   have q2:=(Qu q.1).2.1
   refine⟨[some (.t (.str p.1)),some (.t (.int p.2))],rfl,Zdc (show ev (cf (n+40)) gv Ju _ _=_ from Jx ((Zk (Zk (Za rfl) (Zb _) (Jj (by simp[lim];omega))) (Zy (Za rfl) (ZlO (by omega))) (Jj (by simp[lim];omega))).trans ?_))⟩
   simp[szX])
  rw[Wa]
  exact ZL (x:=.t (.tup (sz.map JR))) (m0:=M) (Ql (Za he) (Zb _) rfl) rfl h (by rw[Yc];have:=g.szl;unfold lim;omega)
 have k0:∀(M:Mem) (env:Env),env[4]?=some (some (.t (.int a)))->env[5]?=some (some (.t (.int b)))->env[6]?=some (some (.t (.int c)))->env[7]?=some (some (.t (.int e)))->ev (cf (n+40)) gv ZaI env M=.ok (.t (.lst ([a,b,c,e].map λk=>T.str (decI k)))) M:=λM env h4 h5 h6 h7=>by
  have h:=ZaY (f:=Qj (cf (n+40)) gv .nil Jv) (tg:=.nm 0) (env:=[none]) (m:=M) T.int (λk=>T.str (decI k)) [a,b,c,e] (λk hk=>by
   have q:0<=k/\k<=1000000000:=by
    simp only[Ym,Yt,or_false]at hk
    rcases hk with rfl|rfl|rfl|rfl<;>omega
   exact⟨_,rfl,Zdc (show ev (cf (n+40)) gv Jv _ _=_ from Jx (Zy (Za rfl) (ZlO (by omega))))⟩)
  refine ZL (x:=.t (.lst ([a,b,c,e].map T.int))) (m0:=M) ?_ rfl h (by simp[lim])
  simp[ev,evs,h4,h5,h6,h7,Ze,Xm,Ji,lim]
 have hv:∀(M:Mem) (ts:List T),view (.c M.length) (M++[some (false,ts)])=some (.lst ts):=λM ts=>by simp[view]
 have key:ex (cf (n+40)) gv QW [some (.t (offT side (Qi nm kd mk sz) w a b c e)),none,none,none,none,none,none,none,none] m=.ok (.ret (.t (.str (Zd [32] (Qp side nm kd mk sz a b c e)++([32,124,32]++Zd [32] (cw d w)))))) (m++[some (false,[T.str side,.str nm,.str kd,.str (Qk mk),.str (Qk (sz.map szX))])]++[some (false,(Qp side nm kd mk sz a b c e).map .str)]):=by
  unfold QW
  rw[Zbj (Za rfl) rfl]
  simp only[UL,Vh,Vq,Ut,Yai,Yk,Yl]
  rw[Zn (w:=.c m.length) (m1:=m++[some (false,[T.str side,.str nm,.str kd,.str (Qk mk)])]) (by
   rw[ev,Zo (Za rfl) (Zo (Ql (Za rfl) (Zb _) rfl) (Zo (Ql (Za rfl) (Zb _) rfl) (Zo ((Zr (Zy (Ql (Za rfl) (Zb _) rfl) rfl)).trans (hm m)) QG))),Ze]
   simp[Xm,Ji,Ze,lim])]
  simp only[Yk,Yl]
  rw[ZhY (w:=.t .non) (m1:=m++[some (false,[T.str side,.str nm,.str kd,.str (Qk mk),.str (Qk (sz.map szX))])]) (by
   rw[ev,Za rfl,Ze,if_pos (by simp[tyM]),Zo ((Zr (k1 _ _ rfl)).trans (hz _)) QG,Ze]
   exact Zmm (by simp[lim]))]
  rw[Zn (w:=.c (m.length+1)) (m1:=m++[some (false,[T.str side,.str nm,.str kd,.str (Qk mk),.str (Qk (sz.map szX))])]++[some (false,(Qp side nm kd mk sz a b c e).map .str)]) (by
   rw[ev,Za rfl,Ze,k0 _ _ rfl rfl rfl rfl,Ze]
   unfold addC
   rw[hv]
   simp[view,addT,lim,Qp])]
  simp only[Yk,Yl]
  refine Zf (Zk (Zk (x:=.str (Zd [32] (Qp side nm kd mk sz a b c e))) ?_ (Zb _) (Jj (by simp[lim];omega))) ((Zr (Za rfl)).trans (hwt _)) ((Jj (by simp[lim];omega)).trans (by rw[Wj])))
  rw[ev,Zb,Ze,if_pos (show tyM .join (.t (.str [32])) _=true from rfl),Zo (Za rfl) QG,Ze]
  have hl1:m.length+1=(m++[some (false,[T.str side,.str nm,.str kd,.str (Qk mk),.str (Qk (sz.map szX))])]).length:=by simp
  show pur ((view _ _).bind λx=>(views [_] _).bind λts=>mthT .join x ts) _=_
  rw[hl1,views,hv]
  show pur ((strs? ((Qp side nm kd mk sz a b c e).map T.str)).bind λzs=>if(zs.map YW).sum+zs.length*[32].length<=lim then some (T.str (Zd [32] zs))else none) _=_
  rw[Zcb,WD,if_pos (by unfold lim;exact Y5 hsum (by decide))]
  rfl
 exact Zv (Zen _ _ _) rfl key (show Res.ok _ ((m++_++_).take m.length)=_ from by rw[Wj];exact congrArg _ (V8 rfl))
theorem WTx.deep{d:Nat}{t:T}(h:WT d t):∀k,Zm (2*d+k) t=true:=by
 induction h with
 |@leaf d t hp _ _ =>
  intro k
  rw[show 2*(d+1)+k=(2*d+1+k)+1 by omega]
  exact Zp9 (Zfv hp)
 |@nt d a hw ih =>
  intro k
  rw[show 2*(d+1)+k=(2*d+(k+1))+1 by omega,Zm]
  refine Qm λx hx=>?_
  simp only[Ym,Yt,or_false]at hx
  rcases hx with rfl|rfl
  ·exact Zae (by decide)
  ·exact ih _
 |@jn d w ts hw h2 h6 hts ih =>
  intro k
  rw[show 2*(d+1)+k=(2*d+k)+1+1 by omega,Zm]
  refine Qm λx hx=>?_
  simp only[Ym,Yt,or_false]at hx
  rcases hx with rfl|rfl
  ·rcases hw with rfl|rfl<;>exact Zae (by decide)
  ·rw[Zm]
   exact Qm λx hx=>ih x hx k
theorem ne_str(x:List Nat):cmpT .NotEq (.str x) (.str x)=some false:=by rw[ZqD];simp
theorem Zlz{d:Nat}{side nm kd:List Nat}{mk:List (List Nat)}{sz:List (List Nat×Int)}{w:T}{a b c e:Int}(hs:side∈sides)(g:GoodC nm kd mk sz)(hw:WT (d+1) w)(hd:d<=5):Zm 60 (offT side (Qi nm kd mk sz) w a b c e)=true:=by
 have h1:∀k,Zm k (.str side)=true:=λk=>by
  simp only[sides,Ym,Yt,or_false]at hs
  rcases hs with rfl|rfl|rfl<;>exact Zae (by decide)
 have h2:Zm 58 (.tup (mk.map .str))=true:=by
  rw[Zm]
  refine Qm λt ht=>?_
  obtain⟨w,hw,rfl⟩:=YK.mp ht
  exact Zaf (Yr.mp g.mkw w hw)
 have h3:Zm 58 (.tup (sz.map JR))=true:=by
  rw[Zm]
  refine Qm λt ht=>?_
  obtain⟨p,hp,rfl⟩:=YK.mp ht
  rw[JR,Zm,ZK,ZK,ZK,Zaf (g.szw p hp).1]
  simp[Zm]
 have h4:=WTx.deep hw (57-2*d)
 rw[show 2*(d+1)+(57-2*d)=59 by omega]at h4
 have h5:Zm 59 (Qi nm kd mk sz)=true:=by
  rw[Qi,Zm,ZK,ZK,ZK,ZK,ZK,Zaf g.nm,Zaf g.kd,h2,h3]
  rfl
 rw[offT,Zm,ZK,ZK,ZK,h1,h5,h4]
 simp[ZK,Zm]
theorem law_read{n:Nat}{m:Mem}{x y:List Nat}{side nm kd:List Nat}{mk:List (List Nat)}{sz:List (List Nat×Int)}{w:T}{a b c e:Int}{e0 e1 e4 e5 e6 e8 e9:Option W}(h1:cf (n+59) 35 [.t (.str y)] m=.ok (.t (offT side (Qi nm kd mk sz) w a b c e)) m)(h2:cf (n+59) 30 [.t (offT side (Qi nm kd mk sz) w a b c e)] m=.ok (.t (.str x)) m)(hd:Zm 60 (offT side (Qi nm kd mk sz) w a b c e)=true):
  ex (cf (n+59)) gv ZhP [e0,e1,some (.t (offT side (Qi nm kd mk sz) w a b c e)),some (.t (.str x)),e4,e5,e6,some (.t (.str y)),e8,e9] m=.ok (.next [e0,e1,some (.t (offT side (Qi nm kd mk sz) w a b c e)),some (.t (.str x)),e4,e5,e6,some (.t (.str y)),some (.t (offT side (Qi nm kd mk sz) w a b c e)),some (.t (Qi nm kd mk sz))]) m:=by
 unfold ZhP
 refine(Zn ((Zr (Za rfl)).trans h1)).trans ?_
 refine(Zq ((QJ (Z4 (k:=true) (ZeO (Za rfl) rfl))).trans ((QJ (Zu (k:=false) (Za rfl) (Za rfl) (Zp3 hd))).trans (Zu (k:=false) ((Zr (Za rfl)).trans h2) (Za rfl) (ne_str x))))).trans ?_
 refine(Zn (Ql (Za rfl) (Zb _) rfl)).trans ?_
 refine(Zq ((QJ (Z4 (k:=true) (ZeO (Za rfl) rfl))).trans ((QJ (Z4 (k:=true) (ZeO (Ql (Za rfl) (Zb _) rfl) rfl))).trans (Z4 (k:=true) (ZeO (Ql (Za rfl) (Zb _) rfl) rfl))))).trans ?_
 rw[ex]
 rfl
theorem ZhO{f:Env->Mem->Res Flow}{tg:Tg}{env env1 env2:Env}{m m2:Mem}{t:T}{ts:List T}(h1:Qs tg t env=some env1)(h2:f env1 m=.ok (.next env2) m2):Q3 f tg (t::ts) env m=Q3 f tg ts env2 m2:=by
 rw[Q3,h1]
 show(f env1 m).bind _=_
 rw[h2]
 rfl
noncomputable def br(ws:List (List Nat)):List (List Nat):=[40]::(ws++[[41]])
theorem ZqG{k:Nat}{t:T}{ws:List (List Nat)}(h:GO k t ws):GO (k+1) t (br ws):=.inl (.inl (.inr (.inr ⟨ws,h,rfl⟩)))
theorem ZqE{ws:List (List Nat)}(h:∀w∈ws,32∉w):∀w∈br ws,32∉w:=by
 intro w hw
 simp only[br,Ym,Y7,Yt,or_false]at hw
 rcases hw with rfl|hw|rfl
 ·decide
 ·exact h w hw
 ·decide
theorem law_turn{n:Nat}{m:Mem}{ns:List Int}{k:Int}{e2 e3 e4 e5 e6 e7 e8 e9:Option W}(hk:0<=k):∃(m':Mem) (f2 f3 f4 f5 f6 f7 f8 f9:Option W),ex (cf (n+59)) gv Zfx [some (.t (.scr ns)),some (.t (.int k)),e2,e3,e4,e5,e6,e7,e8,e9] m=.ok (.next [some (.t (.scr ns)),some (.t (.int k)),f2,f3,f4,f5,f6,f7,f8,f9]) m':=by
 obtain⟨s,h1,hs⟩:=Zo1 (n:=n+57) (m:=m) (ns:=ns) hk
 have hi:m.length<(m++[none]).length:=by simp
 generalize hM:m++[none]=M at h1 hi
 generalize hI:m.length=i at h1 hi
 obtain⟨t,s',h2,_,gO⟩:=ZhK (n:=n+45) hi hs
 generalize put M i s'=m' at h2
 cases gO with
 |@mk side nm kd mk sz d w a b c e hs g hd hw ht a0 a1 b0 b1 c0 c1 e0 e1 =>
  have tx:=Zo4 hw (by omega)
  have hl:=tx.len
  have hwl:(Zd [32] (cw (d+1) w)).length<=2400:=by omega
  have hot:=λm=>Zfq (n:=n+18) (m:=m) hs g hw ht hd (show 0<=a by omega) (show a<=1000000000 by omega) (show 0<=b by omega) (show b<=1000000000 by omega) c0 (show c<=1000000000 by omega) e0 e1 (λm=>by have:=tx.wt (n+58-2*(d+1)) m;rwa [show n+58-2*(d+1)+2*(d+1)=n+18+40 by omega]at this) hwl
  have hlt:=λm=>law_text_ok (n:=n+18) (m:=m) (d:=d+1) (w:=w) hs g (show 0<=a by omega) (show a<=1000000000 by omega) (show 0<=b by omega) (show b<=1000000000 by omega) c0 (show c<=1000000000 by omega) e0 e1 (λm=>by have:=lw_of hw (by omega) (n+58-2*(d+1)) m;rwa [show n+58-2*(d+1)+2*(d+1)=n+18+40 by omega]at this) hwl
  have hsum:=ZfC hs g (show 0<=a by omega) (show a<=1000000000 by omega) (show 0<=b by omega) (show b<=1000000000 by omega) c0 (show c<=1000000000 by omega) e0 e1
  have hlen:=ZfD hsum
  have hn:=ZiP (c:=124) hs g (show 0<=a by omega) (show a<=1000000000 by omega) (show 0<=b by omega) (show b<=1000000000 by omega) c0 (show c<=1000000000 by omega) e0 e1 (by decide) (by decide) (by decide) (by decide) (by decide)
  have hbar:124∉Zd [32] (Qp side nm kd mk sz a b c e):=λhm=>by
   rcases ZbK hm with hm|⟨w,hw,hm⟩
   ·simp at hm
   ·exact hn w hw hm
  have hdeep:=Zlz (a:=a) (b:=b) (c:=c) (e:=e) hs g hw hd
  have hread:∀{ws:List (List Nat)},GO 12 w ws->ws≠[]->(∀w∈ws,32∉w)->(Zd [32] ws).length<=800000->cf (n+59) 35 [.t (.str (Zd [32] (Qp side nm kd mk sz a b c e)++([32,124,32]++Zd [32] ws)))] m'=.ok (.t (offT side (Qi nm kd mk sz) w a b c e)) m':=λp1 p2 p3 p4=>Zfd (ZhJ (n:=n) hs g hw ht hd a0 a1 b0 b1 c0 c1 e0 e1 p1 p2 p3 p4)
  have x1:Zd [32] (br (cw (d+1) w))=[40,32]++Zd [32] (cw (d+1) w)++[32,41]:=Zfy tx.ne
  have x2:Zd [32] (br (br (cw (d+1) w)))=[40,32]++Zd [32] (br (cw (d+1) w))++[32,41]:=Zfy (by simp[br])
  have r0:=hread (tx.st 12 (by omega)).go tx.ne tx.sp (by omega)
  have r1:=hread (ZqG (tx.st 11 (by omega)).go) (by simp[br]) (ZqE tx.sp) (by rw[x1];simp;omega)
  have r2:=hread (ZqG (ZqG (tx.st 10 (by omega)).go)) (by simp[br]) (ZqE (ZqE tx.sp)) (by rw[x2,x1];simp;omega)
  rw[x2]at r2
  rw[x1]at r1 r2
  have hot:=hot m'
  have hlt:=hlt m'
  have hp:mthT .partition (.str (Zd [32] (Qp side nm kd mk sz a b c e)++([32,124,32]++Zd [32] (cw (d+1) w)))) [.str [32,124,32]]=some (.tup [.str (Zd [32] (Qp side nm kd mk sz a b c e)),.str [32,124,32],.str (Zd [32] (cw (d+1) w))]):=by
   show(if(Zd [32] (Qp side nm kd mk sz a b c e)++([32,124,32]++Zd [32] (cw (d+1) w))).length<=900000 then some (Zfo (Zd [32] (Qp side nm kd mk sz a b c e)++([32,124,32]++Zd [32] (cw (d+1) w))) [32,124,32])else none)=_
   rw[if_pos (by simp;omega),ZiB hbar]
  generalize Zd [32] (Qp side nm kd mk sz a b c e)=H at *
  generalize Zd [32] (cw (d+1) w)=V at *
  refine⟨m',some (.t (offT side (Qi nm kd mk sz) w a b c e)),some (.t (.str (H++([32,124,32]++V)))),some (.t (.str H)),some (.t (.str [32,124,32])),some (.t (.str V)),some (.t (.str (H++([32,124,32]++([40,32]++([40,32]++V++[32,41])++[32,41]))))),some (.t (offT side (Qi nm kd mk sz) w a b c e)),some (.t (Qi nm kd mk sz)),?_⟩
  unfold Zfx
  refine(Zn ((Zr ((Zh (Za rfl) (Za rfl)).trans h1)).trans h2)).trans ?_
  refine(Zn ((Zr (Za rfl)).trans hlt)).trans ?_
  refine(Zq (Zu (k:=false) ((Zr (Za rfl)).trans hot) (Za rfl) (ne_str _))).trans ?_
  refine(Zbj (ZdJ (.inr rfl) (Za rfl) (Zb _) rfl hp) rfl).trans ?_
  refine(ZcX (x:=.t (.lst [.str (H++([32,124,32]++V)),.str (H++[32,124,32,40,32]++V++[32,41]),.str (H++[32,124,32,40,32,40,32]++V++[32,41,32,41])])) (m0:=m') (m2:=m') (Jw (Zo (Za rfl) (Zo (Zk (Zk (Zk (Za rfl) (Zb _) (Jj (by simp[lim];omega))) (Za rfl) (Jj (by simp[lim];omega))) (Zb _) (Jj (by simp[lim];omega))) (Zo (Zk (Zk (Zk (Za rfl) (Zb _) (Jj (by simp[lim];omega))) (Za rfl) (Jj (by simp[lim];omega))) (Zb _) (Jj (by simp[lim];omega))) QG))) rfl Ja) rfl ?_).trans (by rw[ex];rfl)
  simp only[Wj,Vy,Uc]at r0 r1 r2 hot ⊢
  have t0:=λe8 e9=>law_read (e0:=some (.t (.scr ns))) (e1:=some (.t (.int k))) (e4:=some (.t (.str H))) (e5:=some (.t (.str [32,124,32]))) (e6:=some (.t (.str V))) (e8:=e8) (e9:=e9) r0 hot hdeep
  have t1:=λe8 e9=>law_read (e0:=some (.t (.scr ns))) (e1:=some (.t (.int k))) (e4:=some (.t (.str H))) (e5:=some (.t (.str [32,124,32]))) (e6:=some (.t (.str V))) (e8:=e8) (e9:=e9) r1 hot hdeep
  have t2:=λe8 e9=>law_read (e0:=some (.t (.scr ns))) (e1:=some (.t (.int k))) (e4:=some (.t (.str H))) (e5:=some (.t (.str [32,124,32]))) (e6:=some (.t (.str V))) (e8:=e8) (e9:=e9) r2 hot hdeep
  exact(ZhO rfl (t0 _ _)).trans ((ZhO rfl (t1 _ _)).trans ((ZhO rfl (t2 _ _)).trans rfl))
theorem law_true(ns:List Int)(hl:ns.length<=63):∃m,Zbm fns gv 60 53 [.t (.scr ns)] []=.ok (.t (.bl true)) m:=by
 obtain⟨env1,m1,e1,a1,a2,a3,a4,a5,a6,a7,a8,a9,rfl⟩:=ZeG (f:=ex (cf 59) gv Zfx) (tg:=.nm 1) (P:=λenv m=>∃a b c d e f g h j,env=[some (.t (.scr ns)),a,b,c,d,e,f,g,h,j]) (rangeT 0 6) [some (.t (.scr ns)),none,none,none,none,none,none,none,none,none] [] ⟨_,_,_,_,_,_,_,_,_,rfl⟩ (by
  rintro t ht env m ⟨a,b,c,d,e,f,g,h,j,rfl⟩
  obtain⟨x,rfl,hx⟩:∃x:Int,t=.int x/\0<=x:=by
   simp[rangeT]at ht
   obtain⟨k,_,rfl⟩:=ht
   exact⟨_,rfl,by omega⟩
  obtain⟨m',f2,f3,f4,f5,f6,f7,f8,f9,h1⟩:=law_turn (n:=0) (ns:=ns) (m:=m) (e2:=b) (e3:=c) (e4:=d) (e5:=e) (e6:=f) (e7:=g) (e8:=h) (e9:=j) hx
  exact⟨_,_,m',rfl,h1,_,_,_,_,_,_,_,_,_,rfl⟩)
 refine⟨[],?_⟩
 have key:ex (cf 59) gv Zkr [some (.t (.scr ns)),none,none,none,none,none,none,none,none,none] []=.ok (.ret (.t (.bl true))) m1:=by
  unfold Zkr
  exact(ZcX (Zy (Zb _) rfl) rfl e1).trans (Zf (Zb _))
 show cf 60 53 [.t (.scr ns)] []=_
 rw[cf_law]
 simp[key,Ze,fin]
end My
end
section
set_option maxHeartbeats 1000000
namespace My
open PySem PySem.Spec PyProof.Rows L2 Mi
noncomputable def top(i:Nat):Stmt:=PySem.Challenge.pw_matepoint_k71_offers_as_texts.main.body.getD i (.Pass ⟨0,0,0,0⟩)
noncomputable abbrev Q6:Stmt:=top 7
noncomputable abbrev Zbx:Stmt:=top 8
noncomputable abbrev ZaV:Stmt:=top 9
noncomputable abbrev X3:Stmt:=top 10
noncomputable abbrev Zbz:Stmt:=top 11
noncomputable abbrev Zis:Stmt:=top 12
noncomputable abbrev X5:Stmt:=top 13
noncomputable abbrev ZbA:Stmt:=top 14
noncomputable abbrev X4:Stmt:=top 15
noncomputable abbrev ZbB:Stmt:=top 16
noncomputable abbrev XX:Stmt:=top 25
noncomputable abbrev QM:Stmt:=top 26
noncomputable abbrev JZ:Stmt:=top 27
noncomputable abbrev XH:Stmt:=top 28
noncomputable abbrev ZaX:Stmt:=top 29
noncomputable abbrev Zby:Stmt:=top 30
noncomputable abbrev JX:Stmt:=top 35
noncomputable abbrev ZaW:Stmt:=top 36
noncomputable abbrev XD:Stmt:=top 44
noncomputable abbrev Jl:Stmt:=top 45
noncomputable abbrev Qz:Stmt:=top 46
noncomputable abbrev Zbt:Stmt:=top 47
noncomputable abbrev Zbw:Stmt:=top 48
noncomputable abbrev XQ:Stmt:=top 49
noncomputable abbrev JT:Stmt:=top 50
noncomputable abbrev ZaT:Stmt:=top 51
noncomputable abbrev Jm:Stmt:=top 52
noncomputable abbrev XJ:Stmt:=top 53
noncomputable abbrev XS:Stmt:=top 56
noncomputable abbrev XM:Stmt:=top 57
noncomputable abbrev JW:Stmt:=top 58
noncomputable abbrev XN:Stmt:=top 59
noncomputable abbrev Zbv:Stmt:=top 60
noncomputable abbrev Zbu:Stmt:=top 61
noncomputable abbrev ZaU:Stmt:=top 62
noncomputable abbrev JV:Stmt:=top 63
noncomputable abbrev Zfa:Stmt:=top 65
noncomputable abbrev ZcU:Stmt:=top 66
noncomputable abbrev ZcT:Stmt:=top 67
noncomputable abbrev Ze5:Stmt:=top 68
noncomputable abbrev Ze9:Stmt:=top 69
noncomputable abbrev Ze6:Stmt:=top 70
noncomputable abbrev ZbC:Stmt:=top 71
noncomputable abbrev Ze8:Stmt:=top 72
noncomputable abbrev Ze3:Stmt:=top 73
noncomputable abbrev Zfb:Stmt:=top 74
noncomputable abbrev Ze7:Stmt:=top 75
noncomputable abbrev Ze4:Stmt:=top 76
noncomputable abbrev Q7:Stmt:=top 77
noncomputable abbrev ZbE:Stmt:=top 78
noncomputable abbrev J1:Stmt:=top 79
noncomputable abbrev ZbD:Stmt:=top 80
noncomputable abbrev Jo:Stmt:=top 81
noncomputable abbrev Zgi:Stmt:=top 82
set_option hygiene false
local macro_rules
 | `(tactic| wtm_at $s:str)=>do
  let q ←`(?_)
  let mut r:Array (Lean.TSyntax `tactic):=#[]
  for c in s.getString.toList do
   let t ← match c with
    | '0'=>`(tactic| exact rfl)
    | '8'=>`(tactic| exact (Zpv (by decide +kernel)))
    | 'b'=>`(tactic| exact (fun _ _=>rfl))
    | 'e'=>`(tactic| exact (by decide))
    | 'f'=>`(tactic| exact (by with_unfolding_all rfl))
    | 'j'=>`(tactic| exact ⟨rfl,rfl,rfl,by decide +kernel,rfl,by decide +kernel,by decide +kernel⟩)
    | 'k'=>`(tactic| intro P w K mg base k f cdv A outer s H E T0 T1 hr xe pn xr go)
    | 'l'=>`(tactic| refine ⟨?_⟩)
    | 'n'=>`(tactic| exact (fun _=>rfl))
    | 'p'=>`(tactic| exact (by kernel_rfl))
    | 'D'=>`(tactic| intro _ _ _ _ _)
    | 'E'=>`(tactic| refine ⟨?_,?_,?_⟩)
    | 'F'=>`(tactic| refine .emit ?_ ?_)
    | 'K'=>`(tactic| exact (by decide +kernel))
    | 'M'=>`(tactic| exact (pp_con (by decide +kernel)))
    | 'Ã'=>`(tactic| refine QF (N':=["size"]) ?_ ?_)
    | 'Ä'=>`(tactic| exact (ZW 0 (show WM (["size"]:List Str) from by decide +kernel)))
    | 'Ö'=>`(tactic| refine QF (N':=["sign"]) ?_ ?_)
    | 'Ø'=>`(tactic| exact (ZW 0 (show WM (["sign"]:List Str) from by decide +kernel)))
    | 'Ü'=>`(tactic| exact (ZbI 4 5 rfl Zbc.nd))
    | 'Ý'=>`(tactic| exact (QZ rfl rfl T0.g_JOINS (by decide)))
    | 'Þ'=>`(tactic| exact (ZbI 4 5 rfl Xa.nd))
    | 'ß'=>`(tactic| exact (QZ rfl rfl T0.g_NONE_TEXT (by decide)))
    | 'ã'=>`(tactic| refine QF (N':=["_law_one"]) ?_ ?_)
    | 'ä'=>`(tactic| exact (ZW 0 (show WM (["_law_one"]:List Str) from by decide +kernel)))
    |_=>match("13ZnR 20ZpR 30ZpF 4v0 55ZnO 60hr 70go.lk 91Znj av1 c3pe_ixW d2ZpO g0hr.units h0Znk i4Zpn mv2 o4Zpj q1Zpu r2Zps sv3 t2pt_of u5ZpD v0T0.b_len w0T1.f_Ldraw x1ZpB yv4 z1Zph A0W4 B2ZpP C7Zol G1pp_fmt H1pi_of I6ZpE J0T0.b_isinstance L0T0.b_tuple N2pw_orW O1ZoG P0lk0 Q4ZpI R1PW.pt Ss2 T0pe_blW U1pw_or1 Vv5 W4Zno Xv6 Ys1 Z0Znh !v8 #0T0.b_range $2ZpH %0pf_nil &2ZnJ (0T0.b_str )0T0.b_int *3ZjB +0T1.f_word_at ,s3 -5ZnP .0T0.b_all /0T1.f_is_word :0T1.f_is_one_of ;5ZnK <s4 =5ZjC >0Zir.nd ?0Zat.nd @0go.po [v7 ]1ZpL ^v9 _0T1.f_Lword `0T1.f_is_number {0Zcf.nd |7Znl }0T1.f_read_joined ~0ZpA À0XC.nd Á0Zez.nd Â5ZpK Å0T1.f_is_between Æ0Zbq.nd Ç3Zpw È2Znz É0ZnA Ês6 Ë2Zk7 Ì2ZjD Í2Zlg Îv11 Ï2ZnH Ðs5 Ñ4Zni Ò0T1.f_Lwish Ó5ZnF Ô0T1.f_Lclosed Õs8 Ù0T1.f_is_long_word Ú0T1.f_text_within Û0T1.f_is_number_text à5ZnI á0T1.f_Lnumber â0T1.f_Lwish_text å0Xb.nd æ0T1.f_Llisted".splitOn " ").find? (λe=>e.toList.head?==some c) with
     |some e=>
      let d:=e.toList.tail.headD c
      let x:=String.ofList (e.toList.drop 2)
      if d=='v' then `(tactic| exact (vr $(Lean.quote x.toNat!)))
      else if d=='s' then `(tactic| refine sg (i:=$(Lean.quote x.toNat!)) ?_ ?_ ?_)
      else if d=='0' then `(tactic| exact $(Lean.mkIdent x.toName))
      else `(tactic| refine $(Lean.mkIdent x.toName) $((List.replicate (d.toNat-48) q).toArray)*)
     |_=>Lean.Macro.throwUnsupported
   r:=r.push t
  `(tactic| ($[$r:tactic];*))
theorem Zdi:FnScope ["text"] ["text"] (Zc Q6):=by
 wtm_at "j"
theorem Zjd:FnScope ["thing"] ["thing"] (Zc Zbx):=by
 wtm_at "j"
theorem Zhu:FnScope ["thing"] ["thing"] (Zc ZaV):=by
 wtm_at "j"
theorem Zgd:FnScope ["thing"] ["thing"] (Zc X3):=by
 wtm_at "j"
theorem Zje:FnScope ["thing"] ["thing"] (Zc Zbz):=by
 wtm_at "j"
theorem Zpf:FnScope ["words"] ["words"] (Zc Zis):=by
 wtm_at "j"
theorem Zgf:FnScope ["thing"] ["thing"] (Zc X5):=by
 wtm_at "j"
theorem Zjf:FnScope ["thing"] ["thing"] (Zc ZbA):=by
 wtm_at "j"
theorem Zge:FnScope ["thing"] ["thing"] (Zc X4):=by
 wtm_at "j"
theorem Zjg:FnScope ["thing"] ["thing"] (Zc ZbB):=by
 wtm_at "j"
theorem Zgc:FnScope ["thing","texts"] ["thing","texts"] (Zc XX):=by
 wtm_at "j"
theorem ZcK:FnScope ["thing"] ["thing"] (Zc QM):=by
 wtm_at "j"
theorem Ze0:FnScope ["thing"] ["thing"] (Zc JZ):=by
 wtm_at "j"
theorem Zf8:FnScope ["thing"] ["thing"] (Zc XH):=by
 wtm_at "j"
theorem Zhv:FnScope ["thing"] ["thing"] (Zc ZaX):=by
 wtm_at "j"
theorem Zcf:FnScope ["thing","layer","parts","depth"] ["thing"] (Zc Zby):=by
 wtm_at "j"
theorem ZeZ:FnScope ["thing","low","high"] ["thing","low","high"] (Zc JX):=by
 wtm_at "j"
theorem Zdh:FnScope ["thing","side","card","wish","many","least","weight","till"] ["thing"] (Zc ZaW):=by
 wtm_at "j"
theorem Zar:FnScope ["wish","word","between"] ["wish"] (Zc XD):=by
 wtm_at "j"
theorem Za4:FnScope ["word","wish","text"] ["word","wish"] (Zc Jl):=by
 wtm_at "j"
theorem Zcg:FnScope ["word"] ["word"] (Zc Qz):=by
 wtm_at "j"
theorem Zjb:FnScope ["words","at"] ["words","at"] (Zc Zbt):=by
 wtm_at "j"
theorem Zey:FnScope ["words","at","word"] ["words","at"] (Zc Zbw):=by
 wtm_at "j"
theorem Zcv:FnScope ["words","at","word"] ["words","at"] (Zc XQ):=by
 wtm_at "j"
theorem Zbq:FnScope ["words","at","word","size","sign"] ["words","at"] (Zc JT):=by
 wtm_at "j"
theorem Zbc:FnScope ["words","at","within","word","wish","behind"] ["words","at","within"] (Zc ZaT):=by
 wtm_at "j"
theorem Xa:FnScope ["words","at","within","joins","wish","behind","wishes"] ["words","at","within","joins"] (Zc Jm):=by
 wtm_at "j"
theorem Zas:FnScope ["text","words","wish","behind"] ["text"] (Zc XJ):=by
 wtm_at "j"
theorem Zgb:FnScope ["texts"] ["texts"] (Zc XS):=by
 wtm_at "j"
theorem Zf9:FnScope ["text"] ["text"] (Zc XM):=by
 wtm_at "j"
theorem Jk:FnScope ["offer","side","card","wish","many","least","weight","till","name","kind","marks","sizes","size_text"] ["offer"] (Zc JW):=by
 wtm_at "j"
theorem Zga:FnScope ["word"] ["word"] (Zc XN):=by
 wtm_at "j"
theorem Zex:FnScope ["text","name","sign","number"] ["text"] (Zc Zbv):=by
 wtm_at "j"
theorem Zjc:FnScope ["text"] ["text"] (Zc Zbu):=by
 wtm_at "j"
theorem XC:FnScope ["text","head","bar","wish","words","marks","sizes","many","least","weight","till","offer"] ["text"] (Zc ZaU):=by
 wtm_at "j"
theorem Zbr:FnScope ["text","offer"] ["text"] (Zc JV):=by
 wtm_at "j"
theorem Znb:FnScope ["_law_script","_law_k"] ["_law_script","_law_k"] (Zc Zfa):=by
 wtm_at "j"
theorem Zgh:FnScope ["_law_cell_here","_law_k","_law_number_here"] ["_law_cell_here","_law_k"] (Zc ZcU):=by
 wtm_at "j"
theorem Zgg:FnScope ["_law_cell_here","_law_k","_law_number_here"] ["_law_cell_here","_law_k"] (Zc ZcT):=by
 wtm_at "j"
theorem Zio:FnScope ["_law_script","_law_k","_law_cell_here"] ["_law_script","_law_k"] (Zc Ze5):=by
 wtm_at "j"
theorem Ziq:FnScope ["_law_well_here","_law_most","_law_number_here"] ["_law_well_here","_law_most"] (Zc Ze9):=by
 wtm_at "j"
theorem ZcS:FnScope ["_law_well_here","_law_words","_law_most","_law_left","_law_found","_law_k"] ["_law_well_here","_law_words","_law_most"] (Zc Ze6):=by
 wtm_at "j"
theorem Zjh:FnScope ["_law_well_here"] ["_law_well_here"] (Zc ZbC):=by
 wtm_at "j"
theorem Ze2:FnScope ["_law_well_here","_law_letters","_law_word_here"] ["_law_well_here"] (Zc Ze8):=by
 wtm_at "j"
theorem Zna:FnScope ["_law_well_here","_law_some_here"] ["_law_well_here","_law_some_here"] (Zc Ze3):=by
 wtm_at "j"
theorem Zir:FnScope ["_law_well_here","_law_name","_law_kind","_law_some_here","_law_marks","_law_sizes"] ["_law_well_here"] (Zc Zfb):=by
 wtm_at "j"
theorem Zip:FnScope ["_law_well_here","_law_way"] ["_law_well_here"] (Zc Ze7):=by
 wtm_at "j"
theorem Ze1:FnScope ["_law_well_here","_law_deep","_law_room","_law_way","_law_many"] ["_law_well_here","_law_deep","_law_room"] (Zc Ze4):=by
 wtm_at "j"
theorem Zat:FnScope ["_law_well_here","_law_many","_law_least","_law_weight","_law_till","_law_card_here","_law_wish_here"] ["_law_well_here"] (Zc Q7):=by
 wtm_at "j"
theorem ZeA:FnScope ["_law_wish_here","_law_kinds","_law_text"] ["_law_wish_here","_law_kinds"] (Zc ZbE):=by
 wtm_at "j"
theorem Zbs:FnScope ["_law_wish_here","_law_word_here"] ["_law_wish_here"] (Zc J1):=by
 wtm_at "j"
theorem Zji:FnScope ["_law_words"] ["_law_words"] (Zc ZbD):=by
 wtm_at "j"
theorem Xb:FnScope ["_law_offer","_law_side","_law_card_here","_law_wish_here","_law_many","_law_least","_law_weight","_law_till","_law_words"] ["_law_offer"] (Zc Jo):=by
 wtm_at "j"
theorem Zez:FnScope ["_law_script","_law_k","_law_offer","_law_text","_law_head","_law_bar","_law_wish_here","_law_one","_law_found","_law_card_here"] ["_law_script"] (Zc Zgi):=by
 wtm_at "j"
structure Txt0 (P:YQ) (w:World) (K:Frag) (mg:Str->Option Value):Prop where
 b_all:mg "all" = none
 b_bool:mg "bool" = none
 b_int:mg "int" = none
 b_isinstance:mg "isinstance" = none
 b_len:mg "len" = none
 b_list:mg "list" = none
 b_min:mg "min" = none
 b_range:mg "range" = none
 b_set:mg "set" = none
 b_sorted:mg "sorted" = none
 b_str:mg "str" = none
 b_tuple:mg "tuple" = none
 g_LETTERS:Qt K mg "LETTERS" (.str [97,98,99,100,101,102,103,104,105,106,107,108,109,110,111,112,113,114,115,116,117,118,119,120,121,122])
 g_LONGEST_WORD:Qt K mg "LONGEST_WORD" (.int 8)
 g_WISH_WORDS:Qt K mg "WISH_WORDS" (.tup [(.str [97,110,121]),(.str [105,115]),(.str [98,121]),(.str [110,111,116]),(.str [97,110,100]),(.str [111,114])])
 g_GREATEST_NUMBER:Qt K mg "GREATEST_NUMBER" (.int 1000000000)
 g_MOST_MARKS:Qt K mg "MOST_MARKS" (.int 6)
 g_MOST_SIZES:Qt K mg "MOST_SIZES" (.int 6)
 g_DEEPEST:Qt K mg "DEEPEST" (.int 6)
 g_MOST_PARTS:Qt K mg "MOST_PARTS" (.int 40)
 g_FEWEST_JOINED:Qt K mg "FEWEST_JOINED" (.int 2)
 g_MOST_JOINED:Qt K mg "MOST_JOINED" (.int 6)
 g_SIDES:Qt K mg "SIDES" (.tup [(.str [103,105,118,101]),(.str [116,97,107,101]),(.str [98,101,97,114])])
 g_GREATEST_MANY:Qt K mg "GREATEST_MANY" (.int 1000000)
 g_GREATEST_WEIGHT:Qt K mg "GREATEST_WEIGHT" (.int 1000)
 g_FIGURES:Qt K mg "FIGURES" (.str [48,49,50,51,52,53,54,55,56,57])
 g_MOST_FIGURES:Qt K mg "MOST_FIGURES" (.int 10)
 g_MOST_WITHIN:Qt K mg "MOST_WITHIN" (.int 12)
 d_SIGNS:Zku P w K mg "SIGNS" (Yae (λk=>.inr ⟨k.toArray⟩) [[62,61],[60,61]]) [(.str [108,101,97,115,116]),(.str [109,111,115,116])]
 g_JOINS:Qt K mg "JOINS" (.tup [(.str [111,114]),(.str [97,110,100])])
 d_BRACKETED:Zku P w K mg "BRACKETED" (Yae (λk=>.inr ⟨k.toArray⟩) [[110,111,116],[97,110,100],[111,114]]) [(.tup [(.str [97,110,100]),(.str [111,114])]),(.tup [(.str [97,110,100]),(.str [111,114])]),(.tup [(.str [111,114])])]
 g_NONE_TEXT:Qt K mg "NONE_TEXT" (.str [45])
structure Txt1 (P:YQ) (w:World) (K:Frag) (mg:Str->Option Value) (base:Heap) (k:Nat):Prop where
 f_is_long_word:FOk P w K mg base fns gv k "is_long_word" 0
 f_is_word:FOk P w K mg base fns gv k "is_word" 1
 f_is_whole:FOk P w K mg base fns gv k "is_whole" 2
 f_is_number:FOk P w K mg base fns gv k "is_number" 3
 f_is_time:FOk P w K mg base fns gv k "is_time" 4
 f_rise:FOk P w K mg base fns gv k "rise" 5
 f_are_marks:FOk P w K mg base fns gv k "are_marks" 6
 f_is_size:FOk P w K mg base fns gv k "is_size" 7
 f_are_sizes:FOk P w K mg base fns gv k "are_sizes" 8
 f_is_card:FOk P w K mg base fns gv k "is_card" 9
 f_is_one_of:FOk P w K mg base fns gv k "is_one_of" 10
 f_is_plain_wish:FOk P w K mg base fns gv k "is_plain_wish" 11
 f_are_joined:FOk P w K mg base fns gv k "are_joined" 12
 f_things_in:FOk P w K mg base fns gv k "things_in" 13
 f_has_form:FOk P w K mg base fns gv k "has_form" 14
 f_is_wish:FOk P w K mg base fns gv k "is_wish" 15
 f_is_between:FOk P w K mg base fns gv k "is_between" 16
 f_is_offer:FOk P w K mg base fns gv k "is_offer" 17
 f_wish_text:FOk P w K mg base fns gv k "wish_text" 18
 f_text_within:FOk P w K mg base fns gv k "text_within" 19
 f_is_number_text:FOk P w K mg base fns gv k "is_number_text" 20
 f_word_at:FOk P w K mg base fns gv k "word_at" 21
 f_name_at:FOk P w K mg base fns gv k "name_at" 22
 f_number_at:FOk P w K mg base fns gv k "number_at" 23
 f_read_plain:FOk P w K mg base fns gv k "read_plain" 24
 f_read_one:FOk P w K mg base fns gv k "read_one" 25
 f_read_joined:FOk P w K mg base fns gv k "read_joined" 26
 f_read_wish:FOk P w K mg base fns gv k "read_wish" 27
 f_list_text:FOk P w K mg base fns gv k "list_text" 28
 f_read_list:FOk P w K mg base fns gv k "read_list" 29
 f_offer_text:FOk P w K mg base fns gv k "offer_text" 30
 f_number_in:FOk P w K mg base fns gv k "number_in" 31
 f_size_in:FOk P w K mg base fns gv k "size_in" 32
 f_wish_in:FOk P w K mg base fns gv k "wish_in" 33
 f_offer_in:FOk P w K mg base fns gv k "offer_in" 34
 f_read_offer:FOk P w K mg base fns gv k "read_offer" 35
 f_Lcell:FOk P w K mg base fns gv k "_law_cell" 36
 f_Lmixed:FOk P w K mg base fns gv k "_law_mixed" 37
 f_Ltwice:FOk P w K mg base fns gv k "_law_twice" 38
 f_Lwell:FOk P w K mg base fns gv k "_law_well" 39
 f_Ldraw:FOk P w K mg base fns gv k "_law_draw" 40
 f_Lsome:FOk P w K mg base fns gv k "_law_some" 41
 f_Lnumber:FOk P w K mg base fns gv k "_law_number" 42
 f_Lfree:FOk P w K mg base fns gv k "_law_free" 43
 f_Lword:FOk P w K mg base fns gv k "_law_word" 44
 f_Lcard:FOk P w K mg base fns gv k "_law_card" 45
 f_Lleaf:FOk P w K mg base fns gv k "_law_leaf" 46
 f_Lwish:FOk P w K mg base fns gv k "_law_wish" 47
 f_Lgreat_offer:FOk P w K mg base fns gv k "_law_great_offer" 48
 f_Lclosed:FOk P w K mg base fns gv k "_law_closed" 49
 f_Lwish_text:FOk P w K mg base fns gv k "_law_wish_text" 50
 f_Llisted:FOk P w K mg base fns gv k "_law_listed" 51
 f_Loffer_text:FOk P w K mg base fns gv k "_law_offer_text" 52
 f_law:FOk P w K mg base fns gv k "law" 53
noncomputable abbrev PsF(ns:List Str)(x:Str)(st:Stmt)(n:Nat)(b:S):Prop:=∀{P:YQ}{w:World}{K:Frag}{mg:Str->Option Value}{base:Heap}{k:Nat}{f:Addr}{cdv:Value}{A:Around}{outer:List Wv}{s:Shared}{H:Hp}{E:XK},Txt0 P w K mg->Txt1 P w K mg base k->Room k (A.deeper (envOfC x (Zc st) s.heap.objs.size f cdv))->∀{xe:Value->Shared->Prop}{pn:List (Addr×Obj)}{xr:XR},Go (asX (cxOf (CXF P w) P w K mg base ns x (Zc st) f cdv A outer s H E) xe pn) xr->Bd (asX (cxOf (CXF P w) P w K mg base ns x (Zc st) f cdv A outer s H E) xe pn) (Q5 st) (tS K (Zbm fns gv k) gv xr n b)
section
variable{P:YQ}{w:World}{K:Frag}{mg:Str->Option Value}{base:Heap}{k:Nat}{f:Addr}{cdv:Value}{A:Around}{outer:List Wv}{s:Shared}{H:Hp}{E:XK}
theorem Zdk:PsF ["text"] "is_long_word" Q6 1 Qx:=by
 wtm_at "kl9BQu0v1420003fgBQ4";exact(QZ rfl rfl T0.g_WISH_WORDS (by decide));wtm_at "fgO-0.1Ö0CppH4nDEØAF0Q4";exact(QZ rfl rfl T0.g_LETTERS (by decide));wtm_at "fgee2000"
theorem Zjq:PsF ["thing"] "is_word" Zbx 1 JK:=by
 wtm_at "kl9BI40J0(KBQu0v142000";exact(QZ rfl rfl T0.g_LONGEST_WORD (by decide));wtm_at "fgO57Ù601420"
theorem ZhC:PsF ["thing"] "is_whole" ZaV 1 Za2:=by
 wtm_at "kl9BI40J0)KO";refine Zpz ?_;wtm_at "I40J0";exact T0.b_bool;wtm_at "K"
theorem Zgu:PsF ["thing"] "is_number" X3 1 JL:=by
 wtm_at "kl9B57";exact T1.f_is_whole;wtm_at "601420OÂ34";exact(QZ rfl rfl T0.g_GREATEST_NUMBER (by decide));wtm_at "fg"
theorem Zjs:PsF ["thing"] "is_time" Zbz 1 Zb6:=by
 wtm_at "kl957`601420"
theorem Zpo:PsF ["words"] "rise" Zis 1 Zhm:=by
 wtm_at "kl9-0.1";refine QF (N':=["at","words"]) ?_ ?_;wtm_at "0Cpp";refine ZjA ?_ ?_ ?_;wtm_at "0#131u0v142000200nDE";exact(ZW 0 (show WM (["at","words"]:List Str)from by decide +kernel));wtm_at "AF0Qcad43bca4bfgee2000"
theorem Zgw:PsF ["thing"] "are_marks" X5 1 JP:=by
 wtm_at "kliRNztI40J0LKnUou0v142000";exact(QZ rfl rfl T0.g_MOST_MARKS (by decide));wtm_at "fg9Th9B-0.1";refine QF (N':=["mark"]) ?_ ?_;wtm_at "0CppH4nDE";exact(ZW 0 (show WM (["mark"]:List Str)from by decide +kernel));wtm_at "AF05P/601420ee2000O57";exact T1.f_rise;wtm_at "601420"
theorem Zjt:PsF ["thing"] "is_size" ZbA 1 ZaO:=by
 wtm_at "kl9BI40J0LKBQu0v1420003fgB57/601c43b20O57`601c43b20"
theorem Zgv:PsF ["thing"] "are_sizes" X4 1 JM:=by
 wtm_at "kliRNztI40J0LKnUou0v142000";exact(QZ rfl rfl T0.g_MOST_SIZES (by decide));wtm_at "fg9Th9B-0.1Ã0CppH4nDEÄAF05P";exact T1.f_is_size;wtm_at "601420ee2000O57";exact T1.f_rise;wtm_at "601Ã0CppH4nDEÄAF0c43bee20"
theorem Zju:PsF ["thing"] "is_card" ZbB 1 ZaP:=by
 wtm_at "kliRNztI40J0LKnUou0v1420003fg9Th9B57/601c43b20B57/601c43b20B57";exact T1.f_are_marks;wtm_at "601c43b20O57";exact T1.f_are_sizes;wtm_at "601c43b20"
theorem Zgt:PsF ["thing","texts"] "is_one_of" XX 2 Zaj:=by
 wtm_at "kl9BI40J0(KOQ4afg"
theorem ZcL:PsF ["thing"] "is_plain_wish" QM 1 Qn:=by
 wtm_at "kliztI40J0LKn9Thiou0v1420003fg957:601c43b1q1820200hiou0v1420003fg9B57:601c43b1q1818200200O57/601c43b20hiou0v1420003fg9B57:601c43b1q1818200200B57/601c43b20O57`601c43b20h9T"
theorem Zfi:PsF ["thing"] "are_joined" JZ 1 Jf:=by
 wtm_at "kl9BI40J0LKOÂ";exact(QZ rfl rfl T0.g_FEWEST_JOINED (by decide));wtm_at "u0v142000";exact(QZ rfl rfl T0.g_MOST_JOINED (by decide));wtm_at "fg"
theorem Zgn:PsF ["thing"] "things_in" XH 1 JB:=by
 wtm_at "kliRNztI40J0LKnUou0v1420003fg9q2hit57:601c43b1q1820200n9q1c43b20hiR";refine Zk2 ?_ ?_;wtm_at "t57:601c43b1q1818200200n";refine Zk3 ?_;wtm_at "t57";exact T1.f_are_joined;wtm_at "601c43b20n9c43bh9q2"
theorem ZhE:PsF ["thing"] "has_form" ZaX 1 Xq:=by
 wtm_at "kl9";refine ZoF ?_ ?_;wtm_at "57";exact T1.f_is_plain_wish;wtm_at "601420OQu0v157";exact T1.f_things_in;wtm_at "60142020003fg"
theorem Zjr:PsF ["thing","layer","parts","depth"] "is_wish" Zby 4 ZaN:=by
 wtm_at "klY{x1420S{3|0@*0#1";exact(QZ rfl rfl T0.g_DEEPEST (by decide));wtm_at "20";exact(ZW 3 Zcf.nd);wtm_at "e";refine Znm (i:=2) ?_ ?_ ?_;wtm_at "{u0v1a2000iRNom";exact(QZ rfl rfl T0.g_MOST_PARTS (by decide));wtm_at "fgUzt-0.1";refine QF (N':=["one"]) ?_ ?_;wtm_at "0CppHanDE";exact(ZW 0 (show WM (["one"]:List Str)from by decide +kernel));wtm_at "AF05P";exact T1.f_has_form;wtm_at "601420ee2000n9Th";refine Ziy (N':=["one","below"]) ?_ ?_ ?_ ?_ ?_ ?_ ?_;wtm_at "0CppHanDE";exact(ZW 0 (show WM (["one","below"]:List Str)from by decide +kernel));wtm_at "A";refine .more rfl ?_ (λ_=>rfl) ?_ ?_ (by decide) (show ∀i∈tgS (.nm 1)++innS (.emit (.var 1)),i<2 from by decide) ?_;wtm_at "H5P";exact T1.f_things_in;wtm_at "601420";exact(ZW 1 (show WM (["one","below"]:List Str)from by decide +kernel));wtm_at "AF0aee{000h9Qu0v1a20003fg"
theorem Zfh:PsF ["thing","low","high"] "is_between" JX 3 Je:=by
 wtm_at "kl9B57";exact T1.f_is_whole;wtm_at "601420OÂa4mfg"
theorem ZhD:PsF ["thing","side","card","wish","many","least","weight","till"] "is_offer" ZaW 8 Xp:=by
 wtm_at "kliRNztI40J0LKnUou0v1420003fg9ThWe4";exact(Zfk 1 2 3 4 5 6 7 rfl Zdh.nd);wtm_at "iRNzt57:601a1";exact(QZ rfl rfl T0.g_SIDES (by decide));wtm_at "200nNzt57";exact T1.f_is_card;wtm_at "601m20nUzt57";exact T1.f_is_wish;wtm_at "601s20n9ThiRNzt57Å601y131";exact(QZ rfl rfl T0.g_GREATEST_MANY (by decide));wtm_at "2000nUzt57Å601V131y2000n9Th9B57Å601X131";exact(QZ rfl rfl T0.g_GREATEST_WEIGHT (by decide));wtm_at "2000O57";exact T1.f_is_time;wtm_at "601[20"
theorem Zgm:PsF ["wish","word","between"] "wish_text" XD 3 Qc:=by
 wtm_at "klY";exact Zar.nd;wtm_at "c43bioa8fg9ahioaq1818200fg9$rGarMrGc43b%ehioa8fg9$rGc43brMrGc43b%ehioa8fg9$rGc43brMrGc43b%ehioa8fg9$rMrG57Ú601a1c43b200%ehS";exact Zar.nd;wtm_at "$rMrGarM%e9&m1";refine QF (N':=["one","word"]) ?_ ?_;wtm_at "0CppHc43bnDE";exact(ZW 0 (show WM (["one","word"]:List Str)from by decide +kernel));wtm_at "AF05PÚ601a14200ee20"
theorem Zee:PsF ["word","wish","text"] "text_within" Jl 3 QV:=by
 wtm_at "klS";exact Za4.nd;wtm_at "57";exact T1.f_wish_text;wtm_at "601a20ioca3b";refine Zli (ok:=T0.d_BRACKETED) ?_ ?_ ?_ ?_ ?_;wtm_at "004befg9$rMrGmrM%eh9m"
theorem Zci:PsF ["word"] "is_number_text" Qz 1 Qf:=by
 wtm_at "kliRNz";refine Zpl ?_ ?_ ?_ ?_ ?_;wtm_at "3u0v142000";exact(QZ rfl rfl T0.g_MOST_FIGURES (by decide));wtm_at "fgUzt-0.1Ö0CppH4nDEØAF0Q4";exact(QZ rfl rfl T0.g_FIGURES (by decide));wtm_at "fgee2000n9Th9";refine ZoF ?_ ?_;wtm_at "Q48fgOQc43b8fg"
theorem Zjm:PsF ["words","at"] "word_at" Zbt 2 ZaJ:=by
 wtm_at "klioau0v142000fg9c4abh98"
theorem Zjp:PsF ["words","at","word"] "name_at" Zbw 3 ZaM:=by
 wtm_at "klS";exact Zey.nd;wtm_at "57+60141a200izt57Ù601m20nZh9m"
theorem Zgr:PsF ["words","at","word"] "number_at" XQ 3 JG:=by
 wtm_at "klS";exact Zcv.nd;wtm_at "57+60141a200izt57Û601m20nZh9;0)1m2000"
theorem Zfe:PsF ["words","at","word","size","sign"] "read_plain" JT 5 Jb:=by
 wtm_at "klSÆ57+60141a200iom8fg9q1q1m201da3200hiomq1818200fg9q1q1m157";exact T1.f_name_at;wtm_at "60141da32002001da3200h,Æ57";exact T1.f_name_at;wtm_at "60141a200<Æ57+60141da3200i";refine Zpi (neg:=true) (ok:=T0.d_SIGNS) ?_ ?_ ?_ ?_ ?_;wtm_at "00yefZh9q1q1";refine Zli (ok:=T0.d_SIGNS) ?_ ?_ ?_ ?_ ?_;wtm_at "00ybe1s157";exact T1.f_number_at;wtm_at "60141da320020001da3200"
theorem ZhA:PsF ["words","at","within","word","wish","behind"] "read_one" ZaT 6 Qq:=by
 wtm_at "kl,";exact Zbc.nd;wtm_at "57+60141a200iosq1818200fg957";exact T1.f_read_plain;wtm_at "60141a200hiom";exact(QZ rfl rfl T0.g_MOST_WITHIN (by decide));wtm_at "fgZhios8fgWe57";exact T1.f_read_one;wtm_at "60141da31dm32000Ü9q1q181y2001V200hWe57}60141da31dm31Ý20000Üio57+60141V2008fgZh9q1y1dV3200"
theorem Zef:PsF ["words","at","within","joins","wish","behind","wishes"] "read_joined" Jm 7 Qd:=by
 wtm_at "kliou0v1s20003fg957";exact T1.f_read_one;wtm_at "60141a1m2000hWe57}60141a1m1ÇsÈ30É20000ÞÊ";exact Xa.nd;wtm_at "]1y20";refine Zjl ?_ ?_ ?_ ?_;wtm_at "@o57+60141V200cs3bfgWe57}60141dV31m1ÇsÈ30É20000ÞËÌX1y20hiou0v1X20003fg9q1y1V200h9q1q1cs3b1=0L1X20002001V200"
theorem Zgo:PsF ["text","words","wish","behind"] "read_wish" XJ 4 JC:=by
 wtm_at "kliztI40J0(KnZhY";exact Zas.nd;wtm_at "Í41820We57}601a13131Ý20000";exact(ZbI 2 3 rfl Zas.nd);wtm_at "iRNosu0v1a2000fgUzt57";exact T1.f_is_wish;wtm_at "601m20nZh9m"
theorem Zgs:PsF ["texts"] "list_text" XS 1 JH:=by
 wtm_at "kl9";refine Zpy (t:=(.str [45])) ?_ ?_ ?_;wtm_at "0&81420ß"
theorem Zgp:PsF ["text"] "read_list" XM 1 JD:=by
 wtm_at "klio4ßfg9x2h9Í41820"
theorem Zfg:PsF ["offer","side","card","wish","many","least","weight","till","name","kind","marks","sizes","size_text"] "offer_text" JW 13 Jd:=by
 wtm_at "klWe4";exact(Zfk 1 2 3 4 5 6 7 rfl Jk.nd);wtm_at "Wem";exact(ZnD 8 9 10 11 rfl Jk.nd);refine sg (i:=12) ?_ ?_ ?_;exact Jk.nd;wtm_at "57";exact T1.f_list_text;wtm_at "601";refine QF (N':=["word","number"]) ?_ ?_;wtm_at "0CppHÎnDE";exact(ZbI 0 1 rfl (show WM (["word","number"]:List Str)from by decide +kernel));wtm_at "AF0$rG4rMrGa%eee209$rGarMrG!rMrG^rMrG57";exact T1.f_list_text;wtm_at "601";exact(vr 10);wtm_at "20rMrG";exact(vr 12);wtm_at "rMrGyrMrGVrMrGXrMrG[rMrG57";exact T1.f_wish_text;wtm_at "601s20%e"
theorem Zgq:PsF ["word"] "number_in" XN 1 JF:=by
 wtm_at "kliR";refine Zk2 ?_ ?_;wtm_at "t57Û601420n";refine Zk3 ?_;wtm_at "t57`601;0)14200020n9;0)142000h9~"
theorem Zjo:PsF ["text","name","sign","number"] "size_in" Zbv 4 ZaL:=by
 wtm_at "klWeÏ41820";exact(Zfl 1 2 3 rfl Zex.nd);wtm_at "9q1a157";exact T1.f_number_in;wtm_at "601s20200"
theorem Zjn:PsF ["text"] "wish_in" Zbu 1 ZaK:=by
 wtm_at "kl";refine Zk5 ?_ ?_;intro xe pn xr go;wtm_at "957";exact T1.f_read_wish;wtm_at "601420h"
theorem ZhB:PsF ["text","head","bar","wish","words","marks","sizes","many","least","weight","till","offer"] "offer_in" ZaU 12 Xo:=by
 wtm_at "klWeÏ41820";exact(Zfl 1 2 3 rfl XC.nd);wtm_at "<ÀÍa1820iou0v1y20003fg9~hÐÀ=0L157";exact T1.f_read_list;wtm_at "601cy3b202000ÊÀ=0L1Ã0CppH5P";exact T1.f_read_list;wtm_at "601cy3b20nDEÄAF05P";exact T1.f_size_in;wtm_at "601420ee2000";refine Zk8 ?_ ?_ ?_ ?_;wtm_at "e";refine QF (N':=["word"]) ?_ ?_;wtm_at "0CppHÇyÈ30ÉnDE";exact(ZW 0 (show WM (["word"]:List Str)from by decide +kernel));wtm_at "AF05P";exact T1.f_number_in;wtm_at "601420ee";exact(ZnE 7 8 9 10 rfl XC.nd);refine sg (i:=11) ?_ ?_ ?_;wtm_at "Àq1cy3b1q1cy3b1cy3b1V1X20000157";exact T1.f_wish_in;wtm_at "601s201[1!1^1";exact(vr 10);wtm_at "20000000it57";exact T1.f_is_offer;wtm_at "601Î20n9Îh9~"
theorem Zff:PsF ["text","offer"] "read_offer" JV 2 Jc:=by
 wtm_at "kliztI40J0(KnZhY";exact Zbr.nd;wtm_at "57";exact T1.f_offer_in;wtm_at "601420ioa~fgZh9a"
theorem Znx:PsF ["_law_script","_law_k"] "_law_cell" Zfa 2 Zd6:=by
 wtm_at "klioau0v142000fg9c4abh93"
theorem Zlb:PsF ["_law_cell_here","_law_k","_law_number_here"] "_law_mixed" ZcU 3 Zb8:=by
 wtm_at "klS";exact Zgh.nd;wtm_at "dddd4d3a3339ddmddm333"
theorem Zla:PsF ["_law_cell_here","_law_k","_law_number_here"] "_law_twice" ZcT 3 Zb7:=by
 wtm_at "klS";exact Zgg.nd;wtm_at "dddd57";exact T1.f_Lmixed;wtm_at "60141a200d3a3339ddmddm333"
theorem Zns:PsF ["_law_script","_law_k","_law_cell_here"] "_law_well" Ze5 3 Zd1:=by
 wtm_at "klS";exact Zio.nd;wtm_at "57";exact T1.f_Lcell;wtm_at "60141a2009]1cx131m200;0)1Qmd33fg2000b131dma2000"
theorem Znw:PsF ["_law_well_here","_law_most","_law_number_here"] "_law_draw" Ze9 3 Zd5:=by
 wtm_at "klioc43b3fgS";exact Ziq.nd;wtm_at "dc43baÑdc43ba439mhÑdc43b3439d57";exact T1.f_Ltwice;wtm_at "601c43b1c43b200a"
theorem Znt:PsF ["_law_well_here","_law_words","_law_most","_law_left","_law_found","_law_k"] "_law_some" Ze6 6 Zd2:=by
 wtm_at "kl,";exact ZcS.nd;refine ZnM ?_ ?_ ?_ ?_;wtm_at "0";exact T0.b_list;wtm_at "1a200<";exact ZcS.nd;wtm_at "]2|0@*0#157w60141dm320020";exact(ZW 5 ZcS.nd);wtm_at "eËÌy1";refine Zpx ?_ ?_;wtm_at "s157w60141u0v1s20002002020h9=0L1";refine ZhG ?_ ?_ ?_ ?_ ?_;wtm_at "0";exact T0.b_sorted;wtm_at "1y20002000"
theorem Zjv:PsF ["_law_well_here"] "_law_number" ZbC 1 ZaQ:=by
 wtm_at "kl9cx157w601413200157w6014132001dd3357w6014132002000dd57w60141320033b"
theorem Znv:PsF ["_law_well_here","_law_letters","_law_word_here"] "_law_free" Ze8 3 Zd4:=by
 wtm_at "klY";exact Ze2.nd;wtm_at "8S";exact Ze2.nd;wtm_at "&81";refine QF (N':=["_law_k","_law_letters","_law_well_here"]) ?_ ?_;wtm_at "0Cpp*0#1d35Pw60141320020nDE";exact(ZW 0 (show WM (["_law_k","_law_letters","_law_well_here"]:List Str)from by decide +kernel));wtm_at "AF0ca5Pw601m13200bee20iomq1818181818182000000fg9dm8h9m"
theorem Znq:PsF ["_law_well_here","_law_some_here"] "_law_word" Ze3 2 Zd0:=by
 wtm_at "klio57w6014132003fg957";exact T1.f_Lfree;wtm_at "601420h9ca57w60141u0v1a2000200b"
theorem Zny:PsF ["_law_well_here","_law_name","_law_kind","_law_some_here","_law_marks","_law_sizes"] "_law_card" Zfb 6 Zd7:=by
 wtm_at "klY>57_60141x1818181818200000200S>57_60141x1818182000200,>x1x18181818181820000001x1818181820000200io57w6014132003fg";refine Ziy (N':=["_law_turn","_law_well_here"]) ?_ ?_ ?_ ?_ ?_ ?_ ?_;wtm_at "0Cpp*0#1320nDE";exact(ZW 0 (show WM (["_law_turn","_law_well_here"]:List Str)from by decide +kernel));wtm_at "AF0";refine ZhF ?_ ?_ ?_ ?_ ?_ ?_;wtm_at "00";exact T0.b_sorted;wtm_at "0";exact T0.b_set;wtm_at "1d";refine QF (N':=["_law_k","_law_well_here"]) ?_ ?_;wtm_at "0Cpp*0#1320nDE";exact(ZW 0 (show WM (["_law_k","_law_well_here"]:List Str)from by decide +kernel));wtm_at "AF05P";exact T1.f_Lfree;wtm_at "601a20eex182020ee>000hh<>57";exact T1.f_Lsome;wtm_at "60141cs3b1à0";exact T0.b_min;wtm_at "131u0v1cs3b2000200002000Ð>=0L1";refine QF (N':=["_law_word_here","_law_well_here"]) ?_ ?_;wtm_at "0CppH5P";exact T1.f_Lsome;wtm_at "60141cs3b1à0";exact T0.b_min;wtm_at "131u0v1cs3b2000200002000nDE";exact(ZW 0 (show WM (["_law_word_here","_law_well_here"]:List Str)from by decide +kernel));wtm_at "AF0q1415Pá601a20200ee20009q1a1m1y1V20000"
theorem Znu:PsF ["_law_well_here","_law_way"] "_law_leaf" Ze7 2 Zd3:=by
 wtm_at "klY";exact Zip.nd;wtm_at "57w601413200ioa3fg9q1820hioa3fg9q18157_60141x1818181820000200200hioa3fg9q1cx1818200da3b157_60141x1818181820000200157á6014202000h9q18157_60141x1818181818182000000200200"
theorem Znr:PsF ["_law_well_here","_law_deep","_law_room","_law_way","_law_many"] "_law_wish" Ze4 5 Zbn:=by
 wtm_at "klÑdcm3b3m3,";exact Ze1.nd;wtm_at "57w601413200iRNoa3fgNos3fgUocm3b3fg957";exact T1.f_Lleaf;wtm_at "601420hios3fg9q18157Ò60141da31m2000200h<";exact Ze1.nd;wtm_at "d357w60141cx1313200d57w6014132003b2009q1cx1818200ds3b1=0L1";refine QF (N':=["_law_k","_law_well_here","_law_room","_law_deep"]) ?_ ?_;wtm_at "0Cpp*0#1y20nDE";exact(ZW 0 (show WM (["_law_k","_law_well_here","_law_room","_law_deep"]:List Str)from by decide +kernel));wtm_at "AF05PÒ601a1ds31m2000ee2000200"
theorem Zdl:PsF ["_law_well_here","_law_many","_law_least","_law_weight","_law_till","_law_card_here","_law_wish_here"] "_law_great_offer" Q7 7 Qy:=by
 wtm_at "klY?cx1d357w6014132001d357w60141d332001d33200057w601413200bS?cx131d357w60141a2001a200057w601413200b,?cx1313157w601413200200057w601413200b<?cx131d33157w60141dd333200157w6014132002000057w601413200bÐ?57";exact T1.f_Lcard;wtm_at "601420Ê?57Ò60141d357w6014132001]132020009q1cx181818200057w601413200b1V1X1a1m1s1y20000000"
theorem Zjx:PsF ["_law_wish_here","_law_kinds","_law_text"] "_law_closed" ZbE 3 ZaS:=by
 wtm_at "klS";exact ZeA.nd;wtm_at "57â601420ioc43bafg9dd8m8h9m"
theorem Zfj:PsF ["_law_wish_here","_law_word_here"] "_law_wish_text" J1 2 Z1:=by
 wtm_at "klY";exact Zbs.nd;wtm_at "c43bioaq1818200fg9ddc43bcx1818200;0)1Qa8fg2000bÓ0(1c43b2000hioa8fg9d857Ô601c43b1q1818200200hioa8fg9&81ã0CppHc43bnDEäAF05PÔ60141q1818200200ee20hioa8fg9&81ã0CppHc43bnDEäAF05PÔ60141q1820200ee20h9&81420"
theorem Zjw:PsF ["_law_words"] "_law_listed" ZbD 1 ZaR:=by
 wtm_at "kl9cx1&8142018200;0)1Q4x2fg2000b"
theorem Zeg:PsF ["_law_offer","_law_side","_law_card_here","_law_wish_here","_law_many","_law_least","_law_weight","_law_till","_law_words"] "_law_offer_text" Jo 9 QW:=by
 wtm_at "klWe4";exact(Zfk 1 2 3 4 5 6 7 rfl Xb.nd);wtm_at "Õå]1a1cm3b1cm3b157æ601";refine Zlh ?_ ?_ ?_ ?_ ?_;wtm_at "0";exact T0.b_list;wtm_at "1cm3b20002020000ËÌ!157æ601";refine QF (N':=["_law_size","_law_number_here"]) ?_ ?_;wtm_at "0CppHcm3bnDE";exact(ZbI 0 1 rfl (show WM (["_law_size","_law_number_here"]:List Str)from by decide +kernel));wtm_at "AF0dd48Ó0(1a2000ee2020Õå";refine ZnN ?_ ?_;wtm_at "!";refine QF (N':=["_law_number_here"]) ?_ ?_;wtm_at "0CppHx1y1V1X1[20000nDE";exact(ZW 0 (show WM (["_law_number_here"]:List Str)from by decide +kernel));wtm_at "AF0Ó0(142000ee9dd&81!20857â601s20"
theorem ZoE:PsF ["_law_script","_law_k","_law_offer","_law_text","_law_head","_law_bar","_law_wish_here","_law_one","_law_found","_law_card_here"] "law" Zgi 10 Zkr:=by
 wtm_at "kl|0@*0#1320";exact(ZW 1 Zez.nd);wtm_at "eSÁ57";exact T1.f_Lgreat_offer;wtm_at "60157";exact T1.f_Lwell;wtm_at "60141a20020,Á57";exact T1.f_Loffer_text;wtm_at "601m20io57";exact T1.f_offer_text;wtm_at "601m20sfg9ThWeÏs1820";exact(Zfl 4 5 6 rfl Zez.nd);wtm_at "|0@Hx1s1dddy8X81dddy8X82000";exact(ZW 7 Zez.nd);wtm_at "eÕÁ57";exact T1.f_read_offer;wtm_at "601[20iRNztI!0J0LKnNo!mfgUo57";exact T1.f_offer_text;wtm_at "601!20sfg9Th";refine sg (i:=9) ?_ ?_ ?_;wtm_at "Ác!3biRNztI^0J0LKnNztIc^3b0J0LKnUztIc^3b0J0LKn9Thhh9T"
end
noncomputable abbrev FB(K:Frag)(mg:Str->Option Value)(x:Str)(st:Stmt)(ps:List Str):Prop:=∃f fd,Fun K x x st f fd/\mg x=some (.ref f)/\Binds K fd ps []
structure TxtF (K:Frag) (mg:Str->Option Value):Prop where
 f_is_long_word:FB K mg "is_long_word" Q6 ["text"]
 f_is_word:FB K mg "is_word" Zbx ["thing"]
 f_is_whole:FB K mg "is_whole" ZaV ["thing"]
 f_is_number:FB K mg "is_number" X3 ["thing"]
 f_is_time:FB K mg "is_time" Zbz ["thing"]
 f_rise:FB K mg "rise" Zis ["words"]
 f_are_marks:FB K mg "are_marks" X5 ["thing"]
 f_is_size:FB K mg "is_size" ZbA ["thing"]
 f_are_sizes:FB K mg "are_sizes" X4 ["thing"]
 f_is_card:FB K mg "is_card" ZbB ["thing"]
 f_is_one_of:FB K mg "is_one_of" XX ["thing","texts"]
 f_is_plain_wish:FB K mg "is_plain_wish" QM ["thing"]
 f_are_joined:FB K mg "are_joined" JZ ["thing"]
 f_things_in:FB K mg "things_in" XH ["thing"]
 f_has_form:FB K mg "has_form" ZaX ["thing"]
 f_is_wish:FB K mg "is_wish" Zby ["thing"]
 f_is_between:FB K mg "is_between" JX ["thing","low","high"]
 f_is_offer:FB K mg "is_offer" ZaW ["thing"]
 f_wish_text:FB K mg "wish_text" XD ["wish"]
 f_text_within:FB K mg "text_within" Jl ["word","wish"]
 f_is_number_text:FB K mg "is_number_text" Qz ["word"]
 f_word_at:FB K mg "word_at" Zbt ["words","at"]
 f_name_at:FB K mg "name_at" Zbw ["words","at"]
 f_number_at:FB K mg "number_at" XQ ["words","at"]
 f_read_plain:FB K mg "read_plain" JT ["words","at"]
 f_read_one:FB K mg "read_one" ZaT ["words","at","within"]
 f_read_joined:FB K mg "read_joined" Jm ["words","at","within","joins"]
 f_read_wish:FB K mg "read_wish" XJ ["text"]
 f_list_text:FB K mg "list_text" XS ["texts"]
 f_read_list:FB K mg "read_list" XM ["text"]
 f_offer_text:FB K mg "offer_text" JW ["offer"]
 f_number_in:FB K mg "number_in" XN ["word"]
 f_size_in:FB K mg "size_in" Zbv ["text"]
 f_wish_in:FB K mg "wish_in" Zbu ["text"]
 f_offer_in:FB K mg "offer_in" ZaU ["text"]
 f_read_offer:FB K mg "read_offer" JV ["text"]
 f_Lcell:FB K mg "_law_cell" Zfa ["_law_script","_law_k"]
 f_Lmixed:FB K mg "_law_mixed" ZcU ["_law_cell_here","_law_k"]
 f_Ltwice:FB K mg "_law_twice" ZcT ["_law_cell_here","_law_k"]
 f_Lwell:FB K mg "_law_well" Ze5 ["_law_script","_law_k"]
 f_Ldraw:FB K mg "_law_draw" Ze9 ["_law_well_here","_law_most"]
 f_Lsome:FB K mg "_law_some" Ze6 ["_law_well_here","_law_words","_law_most"]
 f_Lnumber:FB K mg "_law_number" ZbC ["_law_well_here"]
 f_Lfree:FB K mg "_law_free" Ze8 ["_law_well_here"]
 f_Lword:FB K mg "_law_word" Ze3 ["_law_well_here","_law_some_here"]
 f_Lcard:FB K mg "_law_card" Zfb ["_law_well_here"]
 f_Lleaf:FB K mg "_law_leaf" Ze7 ["_law_well_here"]
 f_Lwish:FB K mg "_law_wish" Ze4 ["_law_well_here","_law_deep","_law_room"]
 f_Lgreat_offer:FB K mg "_law_great_offer" Q7 ["_law_well_here"]
 f_Lclosed:FB K mg "_law_closed" ZbE ["_law_wish_here","_law_kinds"]
 f_Lwish_text:FB K mg "_law_wish_text" J1 ["_law_wish_here"]
 f_Llisted:FB K mg "_law_listed" ZbD ["_law_words"]
 f_Loffer_text:FB K mg "_law_offer_text" Jo ["_law_offer"]
 f_law:FB K mg "law" Zgi ["_law_script"]
theorem ZM{x:Str}{st:Stmt}{N ps:List Str}{fi np n:Nat}{b:S}{cell:Bool}(sc:FnScope N ps (Zc st))(p:PsF N x st n b)(hd:fns[fi]?=some ⟨np,n,b,cell⟩)(hps:np=ps.length)(hn:N.length=n){P:YQ}{w:World}{K:Frag}{mg:Str->Option Value}{base:Heap}{k:Nat}(T0:Txt0 P w K mg)(ih:Txt1 P w K mg base k)(F:FB K mg x st ps):FOk P w K mg base fns gv (k+1) x fi:=by
 obtain⟨f,fd,F,m,bb⟩:=F;exact⟨f,fd,_,m,F.kp,bb,ZoQ F sc hd hps hn λ_ _ _ _ _ _ hr _ _ _ go=>p T0 ih hr go⟩
theorem ZP{x:Str}{st:Stmt}{ps:List Str}{i:Nat}{P:YQ}{w:World}{K:Frag}{mg:Str->Option Value}{base:Heap}(F:FB K mg x st ps):FOk P w K mg base fns gv 0 x i:=
 let⟨_,_,F,m,b⟩:=F
 ⟨_,_,_,m,F.kp,b,Zqo⟩
theorem ZoY{P:YQ}{w:World}{K:Frag}{mg:Str->Option Value}{base:Heap}(T0:Txt0 P w K mg)(TF:TxtF K mg):∀k:Nat,Txt1 P w K mg base k
 |0=>⟨ZP TF.f_is_long_word,ZP TF.f_is_word,ZP TF.f_is_whole,ZP TF.f_is_number,ZP TF.f_is_time,ZP TF.f_rise,ZP TF.f_are_marks,ZP TF.f_is_size,ZP TF.f_are_sizes,ZP TF.f_is_card,ZP TF.f_is_one_of,ZP TF.f_is_plain_wish,ZP TF.f_are_joined,ZP TF.f_things_in,ZP TF.f_has_form,ZP TF.f_is_wish,ZP TF.f_is_between,ZP TF.f_is_offer,ZP TF.f_wish_text,ZP TF.f_text_within,ZP TF.f_is_number_text,ZP TF.f_word_at,ZP TF.f_name_at,ZP TF.f_number_at,ZP TF.f_read_plain,ZP TF.f_read_one,ZP TF.f_read_joined,ZP TF.f_read_wish,ZP TF.f_list_text,ZP TF.f_read_list,ZP TF.f_offer_text,ZP TF.f_number_in,ZP TF.f_size_in,ZP TF.f_wish_in,ZP TF.f_offer_in,ZP TF.f_read_offer,ZP TF.f_Lcell,ZP TF.f_Lmixed,ZP TF.f_Ltwice,ZP TF.f_Lwell,ZP TF.f_Ldraw,ZP TF.f_Lsome,ZP TF.f_Lnumber,ZP TF.f_Lfree,ZP TF.f_Lword,ZP TF.f_Lcard,ZP TF.f_Lleaf,ZP TF.f_Lwish,ZP TF.f_Lgreat_offer,ZP TF.f_Lclosed,ZP TF.f_Lwish_text,ZP TF.f_Llisted,ZP TF.f_Loffer_text,ZP TF.f_law⟩
 |k+1 =>
  have ih:=ZoY T0 TF k
  ⟨ZM Zdi Zdk rfl rfl rfl T0 ih TF.f_is_long_word,ZM Zjd Zjq rfl rfl rfl T0 ih TF.f_is_word,ZM Zhu ZhC rfl rfl rfl T0 ih TF.f_is_whole,ZM Zgd Zgu rfl rfl rfl T0 ih TF.f_is_number,ZM Zje Zjs rfl rfl rfl T0 ih TF.f_is_time,ZM Zpf Zpo rfl rfl rfl T0 ih TF.f_rise,ZM Zgf Zgw rfl rfl rfl T0 ih TF.f_are_marks,ZM Zjf Zjt rfl rfl rfl T0 ih TF.f_is_size,ZM Zge Zgv rfl rfl rfl T0 ih TF.f_are_sizes,ZM Zjg Zju rfl rfl rfl T0 ih TF.f_is_card,ZM Zgc Zgt rfl rfl rfl T0 ih TF.f_is_one_of,ZM ZcK ZcL rfl rfl rfl T0 ih TF.f_is_plain_wish,ZM Ze0 Zfi rfl rfl rfl T0 ih TF.f_are_joined,ZM Zf8 Zgn rfl rfl rfl T0 ih TF.f_things_in,ZM Zhv ZhE rfl rfl rfl T0 ih TF.f_has_form,ZM Zcf Zjr rfl rfl rfl T0 ih TF.f_is_wish,ZM ZeZ Zfh rfl rfl rfl T0 ih TF.f_is_between,ZM Zdh ZhD rfl rfl rfl T0 ih TF.f_is_offer,ZM Zar Zgm rfl rfl rfl T0 ih TF.f_wish_text,ZM Za4 Zee rfl rfl rfl T0 ih TF.f_text_within,ZM Zcg Zci rfl rfl rfl T0 ih TF.f_is_number_text,ZM Zjb Zjm rfl rfl rfl T0 ih TF.f_word_at,ZM Zey Zjp rfl rfl rfl T0 ih TF.f_name_at,ZM Zcv Zgr rfl rfl rfl T0 ih TF.f_number_at,ZM Zbq Zfe rfl rfl rfl T0 ih TF.f_read_plain,ZM Zbc ZhA rfl rfl rfl T0 ih TF.f_read_one,ZM Xa Zef rfl rfl rfl T0 ih TF.f_read_joined,ZM Zas Zgo rfl rfl rfl T0 ih TF.f_read_wish,ZM Zgb Zgs rfl rfl rfl T0 ih TF.f_list_text,ZM Zf9 Zgp rfl rfl rfl T0 ih TF.f_read_list,ZM Jk Zfg rfl rfl rfl T0 ih TF.f_offer_text,ZM Zga Zgq rfl rfl rfl T0 ih TF.f_number_in,ZM Zex Zjo rfl rfl rfl T0 ih TF.f_size_in,ZM Zjc Zjn rfl rfl rfl T0 ih TF.f_wish_in,ZM XC ZhB rfl rfl rfl T0 ih TF.f_offer_in,ZM Zbr Zff rfl rfl rfl T0 ih TF.f_read_offer,ZM Znb Znx rfl rfl rfl T0 ih TF.f_Lcell,ZM Zgh Zlb rfl rfl rfl T0 ih TF.f_Lmixed,ZM Zgg Zla rfl rfl rfl T0 ih TF.f_Ltwice,ZM Zio Zns rfl rfl rfl T0 ih TF.f_Lwell,ZM Ziq Znw rfl rfl rfl T0 ih TF.f_Ldraw,ZM ZcS Znt rfl rfl rfl T0 ih TF.f_Lsome,ZM Zjh Zjv rfl rfl rfl T0 ih TF.f_Lnumber,ZM Ze2 Znv rfl rfl rfl T0 ih TF.f_Lfree,ZM Zna Znq rfl rfl rfl T0 ih TF.f_Lword,ZM Zir Zny rfl rfl rfl T0 ih TF.f_Lcard,ZM Zip Znu rfl rfl rfl T0 ih TF.f_Lleaf,ZM Ze1 Znr rfl rfl rfl T0 ih TF.f_Lwish,ZM Zat Zdl rfl rfl rfl T0 ih TF.f_Lgreat_offer,ZM ZeA Zjx rfl rfl rfl T0 ih TF.f_Lclosed,ZM Zbs Zfj rfl rfl rfl T0 ih TF.f_Lwish_text,ZM Zji Zjw rfl rfl rfl T0 ih TF.f_Llisted,ZM Xb Zeg rfl rfl rfl T0 ih TF.f_Loffer_text,ZM Zez ZoE rfl rfl rfl T0 ih TF.f_law⟩
end My
namespace My
open PySem PySem.Spec PyProof.Rows L2 Mi
theorem us_1{α:Type}{P:List α->Prop}{us:List α}(hl:us.length=1)(h:∀x0:α,P [x0]):P us:=by
 rcases us with _|⟨x0,us⟩
 ·simp at hl
 rcases us with _|⟨y,us⟩
 ·exact h x0
 ·simp at hl
theorem us_2{α:Type}{P:List α->Prop}{us:List α}(hl:us.length=2)(h:∀x0 x1:α,P [x0,x1]):P us:=by
 rcases us with _|⟨x0,us⟩
 ·simp at hl
 rcases us with _|⟨x1,us⟩
 ·simp at hl
 rcases us with _|⟨y,us⟩
 ·exact h x0 x1
 ·simp at hl
theorem us_3{α:Type}{P:List α->Prop}{us:List α}(hl:us.length=3)(h:∀x0 x1 x2:α,P [x0,x1,x2]):P us:=by
 rcases us with _|⟨x0,us⟩
 ·simp at hl
 rcases us with _|⟨x1,us⟩
 ·simp at hl
 rcases us with _|⟨x2,us⟩
 ·simp at hl
 rcases us with _|⟨y,us⟩
 ·exact h x0 x1 x2
 ·simp at hl
theorem us_4{α:Type}{P:List α->Prop}{us:List α}(hl:us.length=4)(h:∀x0 x1 x2 x3:α,P [x0,x1,x2,x3]):P us:=by
 rcases us with _|⟨x0,us⟩
 ·simp at hl
 rcases us with _|⟨x1,us⟩
 ·simp at hl
 rcases us with _|⟨x2,us⟩
 ·simp at hl
 rcases us with _|⟨x3,us⟩
 ·simp at hl
 rcases us with _|⟨y,us⟩
 ·exact h x0 x1 x2 x3
 ·simp at hl
noncomputable abbrev FE(K:Frag)(x:Str)(st:Stmt):Prop:=∃(f:Addr) (oc kV dc pm cd ct:Value) (od an:Option Addr) (sl:Array (Option Value)),nsIn K YB x=some (some (.ref f))/\K.lookup f=some ⟨oc,od,.func (fnOf x x (ZaF st) (Q5 st) (Zc st) .none kV dc pm an cd ct),sl⟩/\codeIn K cd x=true
theorem ZQ{K:Frag}{tbs:List Addr}(tT:∀P∈tbs,K.lookup P=some (tabObj #[])){h:Heap}{mg:Str->Option Value}{x:Str}{st:Stmt}{ps:List Str}(X:K.In h)(G:h.Ns YB mg)(e:FE K x st)(hb:∀(kV doc pm:Value) (an:Option Addr) (cdv ct:Value) (us:List Value),us.length=ps.length->Gj (fnOf x x (ZaF st) (Q5 st) (Zc st) .none kV doc pm an cdv ct) ⟨us,[]⟩=pure (ps.zip us)):FB (Z9 tbs K) mg x st ps:=by
 obtain⟨f,oc,kV,dc,pm,cd,ct,od,an,sl,a,l,c⟩:=e
 have F:=ZoP (st:=st) (hT_out tT l (λz=>by cases z)) (Zl8 tT c) (Zl7 tT l)
 exact⟨_,_,F,mg_of X G a,F.binds (ps:=ps) hb⟩
theorem fe_in{K:Frag}{x:Str}{st:Stmt}{f:Addr}{oc kV dc pm cd ct:Value}{od an:Option Addr}{sl:Array (Option Value)}(a:nsIn K YB x=some (some (.ref f)))(l:K.lookup f=some ⟨oc,od,.func (fnOf x x (ZaF st) (Q5 st) (Zc st) .none kV dc pm an cd ct),sl⟩)(c:codeIn K cd x=true):FE K x st:=
 ⟨_,_,_,_,_,_,_,_,_,_,a,l,c⟩
theorem bd_1{fd:W8}{ps:List Str}(h:∀x0:Value,Gj fd ⟨[x0],[]⟩=pure (Vi ps [x0]))(us:List Value)(hl:us.length=1):Gj fd ⟨us,[]⟩=pure (Vi ps us):=us_1 (P:=λus=>Gj fd ⟨us,[]⟩=pure (Vi ps us)) hl h
theorem bd_2{fd:W8}{ps:List Str}(h:∀x0 x1:Value,Gj fd ⟨[x0,x1],[]⟩=pure (Vi ps [x0,x1]))(us:List Value)(hl:us.length=2):Gj fd ⟨us,[]⟩=pure (Vi ps us):=us_2 (P:=λus=>Gj fd ⟨us,[]⟩=pure (Vi ps us)) hl h
theorem bd_3{fd:W8}{ps:List Str}(h:∀x0 x1 x2:Value,Gj fd ⟨[x0,x1,x2],[]⟩=pure (Vi ps [x0,x1,x2]))(us:List Value)(hl:us.length=3):Gj fd ⟨us,[]⟩=pure (Vi ps us):=us_3 (P:=λus=>Gj fd ⟨us,[]⟩=pure (Vi ps us)) hl h
theorem bd_4{fd:W8}{ps:List Str}(h:∀x0 x1 x2 x3:Value,Gj fd ⟨[x0,x1,x2,x3],[]⟩=pure (Vi ps [x0,x1,x2,x3]))(us:List Value)(hl:us.length=4):Gj fd ⟨us,[]⟩=pure (Vi ps us):=us_4 (P:=λus=>Gj fd ⟨us,[]⟩=pure (Vi ps us)) hl h
theorem all_mk{l:Ybq}{w:World}{K:Frag}{h:Heap}{mg:Str->Option Value}{fa:Addr}(tT:∀P∈([]:List Addr),K.lookup P=some (tabObj #[]))(tB:lamB ([]:List Addr) K=true)(X:K.In h)(G:h.Ns YB mg)(hfa:mg "law" = some (.ref fa))(h0:FE K "is_long_word" Q6)(h1:FE K "is_word" Zbx)(h2:FE K "is_whole" ZaV)(h3:FE K "is_number" X3)(h4:FE K "is_time" Zbz)(h5:FE K "rise" Zis)(h6:FE K "are_marks" X5)(h7:FE K "is_size" ZbA)(h8:FE K "are_sizes" X4)(h9:FE K "is_card" ZbB)(h10:FE K "is_one_of" XX)(h11:FE K "is_plain_wish" QM)(h12:FE K "are_joined" JZ)(h13:FE K "things_in" XH)(h14:FE K "has_form" ZaX)(h15:FE K "is_wish" Zby)(h16:FE K "is_between" JX)(h17:FE K "is_offer" ZaW)(h18:FE K "wish_text" XD)(h19:FE K "text_within" Jl)(h20:FE K "is_number_text" Qz)(h21:FE K "word_at" Zbt)(h22:FE K "name_at" Zbw)(h23:FE K "number_at" XQ)(h24:FE K "read_plain" JT)(h25:FE K "read_one" ZaT)(h26:FE K "read_joined" Jm)(h27:FE K "read_wish" XJ)(h28:FE K "list_text" XS)(h29:FE K "read_list" XM)(h30:FE K "offer_text" JW)(h31:FE K "number_in" XN)(h32:FE K "size_in" Zbv)(h33:FE K "wish_in" Zbu)(h34:FE K "offer_in" ZaU)(h35:FE K "read_offer" JV)(h36:FE K "_law_cell" Zfa)(h37:FE K "_law_mixed" ZcU)(h38:FE K "_law_twice" ZcT)(h39:FE K "_law_well" Ze5)(h40:FE K "_law_draw" Ze9)(h41:FE K "_law_some" Ze6)(h42:FE K "_law_number" ZbC)(h43:FE K "_law_free" Ze8)(h44:FE K "_law_word" Ze3)(h45:FE K "_law_card" Zfb)(h46:FE K "_law_leaf" Ze7)(h47:FE K "_law_wish" Ze4)(h48:FE K "_law_great_offer" Q7)(h49:FE K "_law_closed" ZbE)(h50:FE K "_law_wish_text" J1)(h51:FE K "_law_listed" ZbD)(h52:FE K "_law_offer_text" Jo)(h53:FE K "law" Zgi){t0:Tok}(gv0:nsIn K YB "LETTERS" = some (some (.str "abcdefghijklmnopqrstuvwxyz" t0))){t1:Tok}(gv1:nsIn K YB "LONGEST_WORD" = some (some (.int 8 t1))){ga2:Addr}{its2:Array Value}{gn2:Nat}{gsl2:Array (Option Value)}(gv2:nsIn K YB "WISH_WORDS" = some (some (.ref ga2)))(gl2:K.lookup ga2=some ⟨.type "tuple",none,.seq its2 gn2,gsl2⟩)(gz2:its2.size<=YJ)(gs2:StrsV [[97,110,121],[105,115],[98,121],[110,111,116],[97,110,100],[111,114]] its2.toList){t3:Tok}(gv3:nsIn K YB "GREATEST_NUMBER" = some (some (.int 1000000000 t3))){t4:Tok}(gv4:nsIn K YB "MOST_MARKS" = some (some (.int 6 t4))){t5:Tok}(gv5:nsIn K YB "MOST_SIZES" = some (some (.int 6 t5))){t6:Tok}(gv6:nsIn K YB "DEEPEST" = some (some (.int 6 t6))){t7:Tok}(gv7:nsIn K YB "MOST_PARTS" = some (some (.int 40 t7))){t8:Tok}(gv8:nsIn K YB "FEWEST_JOINED" = some (some (.int 2 t8))){t9:Tok}(gv9:nsIn K YB "MOST_JOINED" = some (some (.int 6 t9))){ga10:Addr}{its10:Array Value}{gn10:Nat}{gsl10:Array (Option Value)}(gv10:nsIn K YB "SIDES" = some (some (.ref ga10)))(gl10:K.lookup ga10=some ⟨.type "tuple",none,.seq its10 gn10,gsl10⟩)(gz10:its10.size<=YJ)(gs10:StrsV [[103,105,118,101],[116,97,107,101],[98,101,97,114]] its10.toList){t11:Tok}(gv11:nsIn K YB "GREATEST_MANY" = some (some (.int 1000000 t11))){t12:Tok}(gv12:nsIn K YB "GREATEST_WEIGHT" = some (some (.int 1000 t12))){t13:Tok}(gv13:nsIn K YB "FIGURES" = some (some (.str "0123456789" t13))){t14:Tok}(gv14:nsIn K YB "MOST_FIGURES" = some (some (.int 10 t14))){t15:Tok}(gv15:nsIn K YB "MOST_WITHIN" = some (some (.int 12 t15))){ga16:Addr}{des16:Array YaT}{gn16:Nat}{dus16:List Value}(gv16:nsIn K YB "SIGNS" = some (some (.ref ga16)))(gl16:K.lookup ga16=some ⟨.type "dict",none,.dict des16 gn16,#[]⟩)(gz16:(ga16==VH)=false)(ge16:Ents w [[62,61],[60,61]] dus16 des16.toList)(gx16:VTs (Z9 ([]:List Addr) K) dus16 [(.str [108,101,97,115,116]),(.str [109,111,115,116])]){ga17:Addr}{its17:Array Value}{gn17:Nat}{gsl17:Array (Option Value)}(gv17:nsIn K YB "JOINS" = some (some (.ref ga17)))(gl17:K.lookup ga17=some ⟨.type "tuple",none,.seq its17 gn17,gsl17⟩)(gz17:its17.size<=YJ)(gs17:StrsV [[111,114],[97,110,100]] its17.toList){ga18:Addr}{des18:Array YaT}{gn18:Nat}{dus18:List Value}(gv18:nsIn K YB "BRACKETED" = some (some (.ref ga18)))(gl18:K.lookup ga18=some ⟨.type "dict",none,.dict des18 gn18,#[]⟩)(gz18:(ga18==VH)=false)(ge18:Ents w [[110,111,116],[97,110,100],[111,114]] dus18 des18.toList)(gx18:VTs (Z9 ([]:List Addr) K) dus18 [(.tup [(.str [97,110,100]),(.str [111,114])]),(.tup [(.str [97,110,100]),(.str [111,114])]),(.tup [(.str [111,114])])]){t19:Tok}(gv19:nsIn K YB "NONE_TEXT" = some (some (.str "-" t19)))(z0:nsIn K YB "all" = some none)(z1:nsIn K YB "bool" = some none)(z2:nsIn K YB "int" = some none)(z3:nsIn K YB "isinstance" = some none)(z4:nsIn K YB "len" = some none)(z5:nsIn K YB "list" = some none)(z6:nsIn K YB "min" = some none)(z7:nsIn K YB "range" = some none)(z8:nsIn K YB "set" = some none)(z9:nsIn K YB "sorted" = some none)(z10:nsIn K YB "str" = some none)(z11:nsIn K YB "tuple" = some none): ∃fd:W8,(∀(s:Shared) (v:Value),Ybc s fd ⟨[v],[]⟩ [("_law_script",v)])/\∀base:Heap,(Z9 ([]:List Addr) K).In base->base.Ns YB mg->FnOk l.prog w (Z9 ([]:List Addr) K) mg base (CXF l.prog w) 60 fa fd ["_law_script"] (spF (Z9 ([]:List Addr) K) fns gv 60 53):=by
 have T0:Txt0 l.prog w (Z9 ([]:List Addr) K) mg:=⟨U7 X G z0,U7 X G z1,U7 X G z2,U7 X G z3,U7 X G z4,U7 X G z5,U7 X G z6,U7 X G z7,U7 X G z8,U7 X G z9,U7 X G z10,U7 X G z11,ZfE (mg_of X G gv0) (by decide +kernel),QC (mg_of X G gv1),ZdF (mg_of X G gv2) (hT_out tT gl2 (λz=>by cases z)) gz2 gs2,QC (mg_of X G gv3),QC (mg_of X G gv4),QC (mg_of X G gv5),QC (mg_of X G gv6),QC (mg_of X G gv7),QC (mg_of X G gv8),QC (mg_of X G gv9),ZdF (mg_of X G gv10) (hT_out tT gl10 (λz=>by cases z)) gz10 gs10,QC (mg_of X G gv11),QC (mg_of X G gv12),ZfE (mg_of X G gv13) (by decide +kernel),QC (mg_of X G gv14),QC (mg_of X G gv15),ZgS (mg_of X G gv16) (hT_out tT gl16 (λz=>by cases z)) gz16 ge16 (by decide) gx16,ZdF (mg_of X G gv17) (hT_out tT gl17 (λz=>by cases z)) gz17 gs17,ZgS (mg_of X G gv18) (hT_out tT gl18 (λz=>by cases z)) gz18 ge18 (by decide) gx18,ZfE (mg_of X G gv19) (by decide +kernel)⟩
 have TF:TxtF (Z9 ([]:List Addr) K) mg:=⟨ZQ tT X G h0 λ_ _ _ _ _ _ us hl=>bd_1 (λ_=>rfl) us hl,ZQ tT X G h1 λ_ _ _ _ _ _ us hl=>bd_1 (λ_=>rfl) us hl,ZQ tT X G h2 λ_ _ _ _ _ _ us hl=>bd_1 (λ_=>rfl) us hl,ZQ tT X G h3 λ_ _ _ _ _ _ us hl=>bd_1 (λ_=>rfl) us hl,ZQ tT X G h4 λ_ _ _ _ _ _ us hl=>bd_1 (λ_=>rfl) us hl,ZQ tT X G h5 λ_ _ _ _ _ _ us hl=>bd_1 (λ_=>rfl) us hl,ZQ tT X G h6 λ_ _ _ _ _ _ us hl=>bd_1 (λ_=>rfl) us hl,ZQ tT X G h7 λ_ _ _ _ _ _ us hl=>bd_1 (λ_=>rfl) us hl,ZQ tT X G h8 λ_ _ _ _ _ _ us hl=>bd_1 (λ_=>rfl) us hl,ZQ tT X G h9 λ_ _ _ _ _ _ us hl=>bd_1 (λ_=>rfl) us hl,ZQ tT X G h10 λ_ _ _ _ _ _ us hl=>bd_2 (λ_ _=>rfl) us hl,ZQ tT X G h11 λ_ _ _ _ _ _ us hl=>bd_1 (λ_=>rfl) us hl,ZQ tT X G h12 λ_ _ _ _ _ _ us hl=>bd_1 (λ_=>rfl) us hl,ZQ tT X G h13 λ_ _ _ _ _ _ us hl=>bd_1 (λ_=>rfl) us hl,ZQ tT X G h14 λ_ _ _ _ _ _ us hl=>bd_1 (λ_=>rfl) us hl,ZQ tT X G h15 λ_ _ _ _ _ _ us hl=>bd_1 (λ_=>rfl) us hl,ZQ tT X G h16 λ_ _ _ _ _ _ us hl=>bd_3 (λ_ _ _=>rfl) us hl,ZQ tT X G h17 λ_ _ _ _ _ _ us hl=>bd_1 (λ_=>rfl) us hl,ZQ tT X G h18 λ_ _ _ _ _ _ us hl=>bd_1 (λ_=>rfl) us hl,ZQ tT X G h19 λ_ _ _ _ _ _ us hl=>bd_2 (λ_ _=>rfl) us hl,ZQ tT X G h20 λ_ _ _ _ _ _ us hl=>bd_1 (λ_=>rfl) us hl,ZQ tT X G h21 λ_ _ _ _ _ _ us hl=>bd_2 (λ_ _=>rfl) us hl,ZQ tT X G h22 λ_ _ _ _ _ _ us hl=>bd_2 (λ_ _=>rfl) us hl,ZQ tT X G h23 λ_ _ _ _ _ _ us hl=>bd_2 (λ_ _=>rfl) us hl,ZQ tT X G h24 λ_ _ _ _ _ _ us hl=>bd_2 (λ_ _=>rfl) us hl,ZQ tT X G h25 λ_ _ _ _ _ _ us hl=>bd_3 (λ_ _ _=>rfl) us hl,ZQ tT X G h26 λ_ _ _ _ _ _ us hl=>bd_4 (λ_ _ _ _=>rfl) us hl,ZQ tT X G h27 λ_ _ _ _ _ _ us hl=>bd_1 (λ_=>rfl) us hl,ZQ tT X G h28 λ_ _ _ _ _ _ us hl=>bd_1 (λ_=>rfl) us hl,ZQ tT X G h29 λ_ _ _ _ _ _ us hl=>bd_1 (λ_=>rfl) us hl,ZQ tT X G h30 λ_ _ _ _ _ _ us hl=>bd_1 (λ_=>rfl) us hl,ZQ tT X G h31 λ_ _ _ _ _ _ us hl=>bd_1 (λ_=>rfl) us hl,ZQ tT X G h32 λ_ _ _ _ _ _ us hl=>bd_1 (λ_=>rfl) us hl,ZQ tT X G h33 λ_ _ _ _ _ _ us hl=>bd_1 (λ_=>rfl) us hl,ZQ tT X G h34 λ_ _ _ _ _ _ us hl=>bd_1 (λ_=>rfl) us hl,ZQ tT X G h35 λ_ _ _ _ _ _ us hl=>bd_1 (λ_=>rfl) us hl,ZQ tT X G h36 λ_ _ _ _ _ _ us hl=>bd_2 (λ_ _=>rfl) us hl,ZQ tT X G h37 λ_ _ _ _ _ _ us hl=>bd_2 (λ_ _=>rfl) us hl,ZQ tT X G h38 λ_ _ _ _ _ _ us hl=>bd_2 (λ_ _=>rfl) us hl,ZQ tT X G h39 λ_ _ _ _ _ _ us hl=>bd_2 (λ_ _=>rfl) us hl,ZQ tT X G h40 λ_ _ _ _ _ _ us hl=>bd_2 (λ_ _=>rfl) us hl,ZQ tT X G h41 λ_ _ _ _ _ _ us hl=>bd_3 (λ_ _ _=>rfl) us hl,ZQ tT X G h42 λ_ _ _ _ _ _ us hl=>bd_1 (λ_=>rfl) us hl,ZQ tT X G h43 λ_ _ _ _ _ _ us hl=>bd_1 (λ_=>rfl) us hl,ZQ tT X G h44 λ_ _ _ _ _ _ us hl=>bd_2 (λ_ _=>rfl) us hl,ZQ tT X G h45 λ_ _ _ _ _ _ us hl=>bd_1 (λ_=>rfl) us hl,ZQ tT X G h46 λ_ _ _ _ _ _ us hl=>bd_1 (λ_=>rfl) us hl,ZQ tT X G h47 λ_ _ _ _ _ _ us hl=>bd_3 (λ_ _ _=>rfl) us hl,ZQ tT X G h48 λ_ _ _ _ _ _ us hl=>bd_1 (λ_=>rfl) us hl,ZQ tT X G h49 λ_ _ _ _ _ _ us hl=>bd_2 (λ_ _=>rfl) us hl,ZQ tT X G h50 λ_ _ _ _ _ _ us hl=>bd_1 (λ_=>rfl) us hl,ZQ tT X G h51 λ_ _ _ _ _ _ us hl=>bd_1 (λ_=>rfl) us hl,ZQ tT X G h52 λ_ _ _ _ _ _ us hl=>bd_1 (λ_=>rfl) us hl,ZQ tT X G h53 λ_ _ _ _ _ _ us hl=>bd_1 (λ_=>rfl) us hl⟩
 obtain⟨f53,oc53,kV53,dc53,pm53,cd53,ct53,od53,an53,sl53,a53,l53,c53⟩:=h53
 have e:=hfa.symm.trans (mg_of X G a53)
 cases e
 have F53:=ZoP (st:=Zgi) (hT_out tT l53 (λz=>by cases z)) (Zl8 tT c53) (Zl7 tT l53)
 refine⟨fnOf "law" "law" (ZaF Zgi) (Q5 Zgi) (Zc Zgi) .none kV53 dc53 pm53 an53 cd53 ct53,λs v=>.of_eq rfl,λbase _ _=>?_⟩
 refine ZoQ (fi:=53) (np:=1) (n:=10) (body:=Zkr) (cell:=false) F53 Zez ?_ ?_ ?_ ?_
 exact rfl
 exact rfl
 exact rfl
 intro _ _ _ _ _ _ hr _ _ _ go
 refine ZoE ?_ ?_ ?_ ?_
 exact T0
 exact ZoY T0 TF 59
 exact hr
 exact go
theorem walkX{l:Ybq}{q:YQ}{loose:List Str}{XP:(Str->Option Value)->Heap->Prop}{d:DefRec}{K:Params->Frag}{as:List Addr}{n t:Nat}(hn:l.most=some 63)(hdf:d.params.defaults=[])(he:∀P,as=(K P).map (·.1))(T:∀(w:World) P,P∈([]:List Addr)->(K w.params).lookup P=some (tabObj #[]))(C:∀(w:World) P,P∈([]:List Addr)->∃c,YaZ (K w.params) c P=true)(B:∀w:World,lamB ([]:List Addr) (K w.params)=true)(F:∀(w:World) (mg:Str->Option Value) (fa:Addr) (h:Heap),(K w.params).In h->h.Ns YB mg->mg d.name=some (.ref fa) ->
   ∃fd:W8,(∀(s:Shared) (u:Value),Ybc s fd ⟨[u],[]⟩ [("_law_script",u)])/\∀base:Heap,(Z9 ([]:List Addr) (K w.params)).In base->base.Ns YB mg->FnOk l.prog w (Z9 ([]:List Addr) (K w.params)) mg base (CXF l.prog w) 60 fa fd ["_law_script"] (spF (Z9 ([]:List Addr) (K w.params)) fns gv 60 53)):
  PySem.W.WalkX q loose XP (PySem.W.X.obsZ as) (PySem.W.X.valZ K n t) l.row.toRowW d [] (λf vs=>G5 f vs):=by
 intro w s₀ s₁ mg mb G y fa o pm cd doc dV kV ho hd hcd hD hmg hg args vals as' L
 exact Mi.walk_ofT (n:=63) (k:=60) (x:="_law_script") (CX:=λw=>CXF l.prog w) (sp:=λw=>spF (Z9 ([]:List Addr) (K w.params)) fns gv 60 53) (YP:=λw h=>(K w.params).In h) hn (by decide) hdf ⟨rfl,by decide,by decide⟩ (λ_ _ h=>h) T C B F (λ_ _ a ns hl hO hS=>law_sp hO hS (law_true ns hl)) (λ_ _ _ _ _ z=>by obtain⟨_,_,_,_,_,_,h⟩:=z;exact h) w s₀ s₁ mg mb G (PySem.W.InK.keeps w _ _ (PySem.W.X.z_facts he y).2.1 (PySem.W.Laid.keeps L)) fa o pm cd doc dV kV ho hd hcd hD hmg hg args vals as'
end My
set_option Elab.async false
namespace PySem.W.Fast
def tw17079357806406501985:=()
def tw832316572005772372:=()
def tw17456783444364571619:=()
def tw9159791296522154530:=()
def tw2664099351091402974:=()
def tw2966707020839970392:=()
def tw15609327679504829093:=()
def tw7914240818414711671:=()
def tw18093941806013394330:=()
def tw9819318312456243270:=()
def tw14903898345843754942:=()
def tw12759257900665165436:=()
def tw3329948834525078549:=()
def tw1290942999987714073:=()
def tw6000332158515950894:=()
def tw8220562940021455869:=()
def tw15495684362456746767:=()
def tw14276909510561091468:=()
def tw1407538139842742113:=()
def tw2138461317663368054:=()
def tw13744923075814157933:=()
def tw2397206863203428090:=()
def tw4769231938103074318:=()
def tw2811136247497355633:=()
def tw4808663230023761054:=()
def tw11746391748918330312:=()
def tw7605766812251854739:=()
def tw8036053744420528038:=()
def tw6055806580526431076:=()
def tw16036169348470409017:=()
def tw6991073452401069525:=()
def tw16429537066551866268:=()
def tw12508562661716368150:=()
def tw3512902697671076101:=()
def tw7513372140731329103:=()
def tw18356090256834155814:=()
def tw14885312087355229755:=()
def tw12238404076702893784:=()
def tw6616150094934174693:=()
def tw11064669249560584544:=()
def tw10209773490969621483:=()
def tw5188443339376645503:=()
def tw11725705839450262489:=()
def tw10081580729302245910:=()
def tw17121983588392099780:=()
def tw1600772627654673678:=()
def tw9651753882338789698:=()
def tw2769085250313531642:=()
def tw5594821395498494048:=()
def tw43759703173162265:=()
def tw10156614205543379294:=()
def tw4526225046673333411:=()
def tw5102606297352307944:=()
def tw15051299678173611324:=()
def tw5696125197465872616:=()
def tw13241892635161679474:=()
def tw17834504059007899600:=()
def tw1570140029806620248:=()
def tw5263669850559045632:=()
def tw7520358934896733659:=()
def tw13628304944559120668:=()
def tw3487052081988676820:=()
def tw5318673517523121629:=()
def tw8342514557719833125:=()
def tw1278875107946382183:=()
def tw6676751676712962714:=()
def tw1829788315401765133:=()
def tw5288934085549508353:=()
def tw12582589007485282797:=()
def tw13104663679457725504:=()
def tw10241304291325314397:=()
def tw11670675016940130156:=()
def tw16125009702804608183:=()
def tw13634431633312353011:=()
def tw16231134227348245900:=()
def tw5981863949221663803:=()
def tw5826415534993593680:=()
def tw11746379407831936710:=()
def tw18142603718531706198:=()
def tw7750727329884452441:=()
def tw4493800946200646998:=()
def tw2554835625182471256:=()
def tw14114352768801715029:=()
def tw7685549170184132308:=()
def tw4326239657751524480:=()
def tw16014950934984517278:=()
def tw12720512509902097892:=()
def tw2962392127025783488:=()
def tw16887136596645604131:=()
def tw12315805694395130399:=()
def tw8188231482751583432:=()
def tw16987101621013512950:=()
def tw14804817723947415457:=()
def tw1969225747592041108:=()
def tw18417498281039011485:=()
def tw4370941762357094698:=()
def tw3563605664238264712:=()
def tw2097090335993898990:=()
def tw11391460808661721780:=()
def tw17766439829500000355:=()
def tw17183470057607881667:=()
def tw14707874205355138602:=()
def tw12982921741780491853:=()
def tw1476252073584891391:=()
def tw8054797264820389788:=()
def tw4875809482069292945:=()
def tw1727524696737918599:=()
def tw7046808067013084244:=()
def tw4646607272962090288:=()
def tw16998953169210612252:=()
def tw5611936269176567494:=()
def tw14150281647450745744:=()
def tw14997337024996472310:=()
def tw2136660787759087530:=()
def tw10807769957651933707:=()
def tw8903862640079998231:=()
def tw9621702043373076097:=()
def tw1905285250878749646:=()
def tw9489274679157185242:=()
def tw4450840302207118237:=()
def tw12059282687509401367:=()
def tw8803941086155535555:=()
def tw17901036666053110758:=()
def tw6853712312024359978:=()
def tw6936070981550836797:=()
def tw14060063936791657761:=()
def tw10525748720278050393:=()
def tw14266740513711427206:=()
def tw10905765092388061519:=()
def tw8778684258171931377:=()
def tw14229710248598646233:=()
def tw13077338673196109693:=()
def tw9994725664339683952:=()
def tw4675343136778073327:=()
def tw2776472369157972838:=()
def tw16494561889614532447:=()
def tw1396879376072168298:=()
def tw15390757113738155340:=()
def tw3506215410257167906:=()
def tw14616601132576794339:=()
def tw4720226448389727304:=()
def tw2937625158183057040:=()
def tw17539712311104939151:=()
def tw500500996782226063:=()
def tw1382156196307664341:=()
def tw16184011176600366757:=()
def tw2882983397688012100:=()
def tw4125181493584860705:=()
def tw14447401894331547563:=()
def tw15297969164198437652:=()
def tw7751695587426971024:=()
def tw17401692638081149124:=()
def tw16991921157133197080:=()
def tw5155938855122759562:=()
def tw13553623815643351658:=()
def tw12229272191481963421:=()
def tw412593698474464209:=()
def tw17096646899834863180:=()
def tw14048525986525937723:=()
def tw8426948022711129785:=()
def tw12960880387778797763:=()
def tw18248014846348935618:=()
def tw14012040471160810720:=()
def tw12410900496638655688:=()
def tw4620453937587877191:=()
def tw11858131299436309985:=()
def tw8133900490405575633:=()
def tw3969768445634211102:=()
def tw17616179469524937466:=()
def tw10518899975691211281:=()
def tw13327392503220476904:=()
def tw11849484945055748446:=()
def tw8856413272313868120:=()
def tw15118475130300305081:=()
def tw16893142735958889743:=()
def tw3958959437804870031:=()
def tw18033422783282199639:=()
def tw8018886726620159974:=()
def tw9138918074118337239:=()
def tw10474475085917069486:=()
def tw17662105760560211527:=()
def tw12356310273191287188:=()
def tw6319271636032142446:=()
def tw796973063744737118:=()
def tw6380739378033932140:=()
def tw5217090501974839862:=()
def tw10456616522409223067:=()
def tw5962119907001688841:=()
def tw9280198648387259082:=()
def tw885771516314374117:=()
def tw6882643139295559618:=()
def tw11532788921581882679:=()
def tw1057895706211221551:=()
def tw10073462001077049614:=()
def tw7712552927536848412:=()
def tw9615906166708046958:=()
def tw10914140365564845043:=()
def tw18243261724610886750:=()
def tw12439193801809162389:=()
def tw4624499086467725707:=()
def tw12898706440803620223:=()
def tw7752848383916149035:=()
def tw9639318567787757216:=()
def tw6264715340379514832:=()
def tw15503710855688769871:=()
def tw13715486995700915277:=()
def tw17722857032069678159:=()
def tw490443429367111631:=()
def tw10304743681695462707:=()
def tw6886741222116566393:=()
def tw10542170158559863179:=()
def tw7755964432095245874:=()
def tw3435281623024261403:=()
def tw418018092949796783:=()
def tw8635314245820884382:=()
def tw1459124938574201492:=()
def tw2002392648620964241:=()
def tw14835063421749131064:=()
def tw10494871401823556668:=()
def tw17437726056465777118:=()
def tw15022359029481483150:=()
def tw8574033553779053790:=()
def tw14080531593752016865:=()
def tw1755576173933771316:=()
def tw18227429838750499365:=()
def tw14343331088227990614:=()
def tw4497849526133403394:=()
def tw9123111744434150426:=()
def tw3953324873510635566:=()
def tw4481377160662762778:=()
def tw15702925583947440318:=()
def tw7170910616394350147:=()
def tw14768817805596078086:=()
def tw6501113759583931193:=()
def tw16952964410239229953:=()
def tw18440967317856965830:=()
def tw2756778609212590801:=()
def tw5773600675620508117:=()
def tw15144694572991108986:=()
def tw15789132558647649646:=()
def tw9640356140961387608:=()
def tw5914830698823361182:=()
def tw2923529773409226676:=()
def tw2583425698733424335:=()
def tw1288767279921249751:=()
def tw15019259001049799794:=()
def tw17024616459633647938:=()
def tw6993837293029887236:=()
def tw8587327517058791826:=()
def tw15406449700441523268:=()
def tw6111765092300988730:=()
def tw11027148423149134990:=()
def tw8157634474669341161:=()
def tw7872626374455681603:=()
def tw11965709761758441789:=()
def tw2815472651484967447:=()
def tw9032576810275042457:=()
end PySem.W.Fast
noncomputable def PySem.W.Fast.tw691946491215780211:PySem.Program:=PySem.Challenge.pw_matepoint_k71_offers_as_texts
theorem PySem.W.Fast.te691946491215780211:PySem.Challenge.pw_matepoint_k71_offers_as_texts=PySem.W.Fast.tw691946491215780211:=rfl
open PySem PySem.W PyProof.Rows
set_option maxRecDepth 100000 in
set_option maxHeartbeats 0 in
theorem PySem.Challenge.cw_matepoint_k71_offers_as_texts_holds : PySem.Challenge.rw_matepoint_k71_offers_as_texts.Holds := by
 w_on;o_law;z_head;(case hw=>w_witness2)
 k_fill
 refine My.walkX (l:=PySem.Challenge.rw_matepoint_k71_offers_as_texts) rfl rfl (λ_=>rfl) ?T ?C ?B ?F
 case T=>exact λw=>(λ_ h=>absurd h Yt)
 case C=>exact λw=>(λ_ h=>absurd h Yt)
 case B=>exact λw=>by kernel_rfl
 case F =>
  intro w mg fa h KX G hmg
  refine' My.all_mk ?tT ?tB KX G hmg ?h0 ?h1 ?h2 ?h3 ?h4 ?h5 ?h6 ?h7 ?h8 ?h9 ?h10 ?h11 ?h12 ?h13 ?h14 ?h15 ?h16 ?h17 ?h18 ?h19 ?h20 ?h21 ?h22 ?h23 ?h24 ?h25 ?h26 ?h27 ?h28 ?h29 ?h30 ?h31 ?h32 ?h33 ?h34 ?h35 ?h36 ?h37 ?h38 ?h39 ?h40 ?h41 ?h42 ?h43 ?h44 ?h45 ?h46 ?h47 ?h48 ?h49 ?h50 ?h51 ?h52 ?h53 ?gv0 ?gv1 ?gv2 ?gl2 ?gz2 ?gs2 ?gv3 ?gv4 ?gv5 ?gv6 ?gv7 ?gv8 ?gv9 ?gv10 ?gl10 ?gz10 ?gs10 ?gv11 ?gv12 ?gv13 ?gv14 ?gv15 ?gv16 ?gl16 ?gz16 ?ge16 ?gx16 ?gv17 ?gl17 ?gz17 ?gs17 ?gv18 ?gl18 ?gz18 ?ge18 ?gx18 ?gv19 ?z0 ?z1 ?z2 ?z3 ?z4 ?z5 ?z6 ?z7 ?z8 ?z9 ?z10 ?z11
  (case h0|h1|h2|h3|h4|h5|h6|h7|h8|h9|h10|h11|h12|h13|h14|h15|h16|h17|h18|h19|h20|h21|h22|h23|h24|h25|h26|h27|h28|h29|h30|h31|h32|h33|h34|h35|h36|h37|h38|h39|h40|h41|h42|h43|h44|h45|h46|h47|h48|h49|h50|h51|h52|h53=>refine' My.fe_in ?a ?l ?c;(case a=>k_is);(case l=>k_is);(case c=>k_is))
  (case tT=>exact(λ_ h=>absurd h Yt))
  (case tB=>kernel_rfl)
  (case gv0|gv1|gv2|gl2=>k_is)
  (case gz2=>decide)
  (case gs2=>exact(.cons (by decide +kernel) (.cons (by decide +kernel) (.cons (by decide +kernel) (.cons (by decide +kernel) (.cons (by decide +kernel) (.cons (by decide +kernel) .nil)))))))
  (case gv3|gv4|gv5|gv6|gv7|gv8|gv9|gv10|gl10=>k_is)
  (case gz10=>decide)
  (case gs10=>exact(.cons (by decide +kernel) (.cons (by decide +kernel) (.cons (by decide +kernel) .nil))))
  (case gv11|gv12|gv13|gv14|gv15|gv16|gl16=>k_is)
  (case gz16=>decide)
  (case ge16=>exact(Mi.Ents.cons (by decide +kernel) (by with_unfolding_all rfl) (Mi.Ents.cons (by decide +kernel) (by with_unfolding_all rfl) Mi.Ents.nil)))
  (case gx16=>exact(Mi.VTs.cons (Mi.vt_str (by decide +kernel)) (Mi.VTs.cons (Mi.vt_str (by decide +kernel)) Mi.VTs.nil)))
  (case gv17|gl17=>k_is)
  (case gz17=>decide)
  (case gs17=>exact(.cons (by decide +kernel) (.cons (by decide +kernel) .nil)))
  (case gv18|gl18=>k_is)
  (case gz18=>decide)
  (case ge18=>exact(Mi.Ents.cons (by decide +kernel) (by with_unfolding_all rfl) (Mi.Ents.cons (by decide +kernel) (by with_unfolding_all rfl) (Mi.Ents.cons (by decide +kernel) (by with_unfolding_all rfl) Mi.Ents.nil))))
  (case gx18=>exact(Mi.VTs.cons (Mi.vt_tup (Mi.hT_out (ps:=([]:List Addr)) ((λ_ h=>absurd h Yt)) (by k_is) (λz=>by cases z)) (by decide) (Mi.VTs.cons (Mi.vt_str (by decide +kernel)) (Mi.VTs.cons (Mi.vt_str (by decide +kernel)) Mi.VTs.nil))) (Mi.VTs.cons (Mi.vt_tup (Mi.hT_out (ps:=([]:List Addr)) ((λ_ h=>absurd h Yt)) (by k_is) (λz=>by cases z)) (by decide) (Mi.VTs.cons (Mi.vt_str (by decide +kernel)) (Mi.VTs.cons (Mi.vt_str (by decide +kernel)) Mi.VTs.nil))) (Mi.VTs.cons (Mi.vt_tup (Mi.hT_out (ps:=([]:List Addr)) ((λ_ h=>absurd h Yt)) (by k_is) (λz=>by cases z)) (by decide) (Mi.VTs.cons (Mi.vt_str (by decide +kernel)) Mi.VTs.nil)) Mi.VTs.nil))))
  (case gv19|z0|z1|z2|z3|z4|z5|z6|z7|z8|z9|z10|z11=>k_is)
end
