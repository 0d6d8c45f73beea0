import PyProof.Rows.All
import Wide.All
import OpenK.AllK
import Wide.FinOn
import Lean
import PyProof.EqAt
import PyProof.EqKinds
import PyProof.TupleCall
import PyProof.ToksMono
import PyProof.StrCalls6
import PyProof.StrLawsReplace
import PyProof.DictUpdate
import PySem.Challenge.RW_matepoint_k42_rows_of_waiters
set_option Elab.async false
set_option linter.all false
set_option maxRecDepth 100000
open PySem.W (Frag OpenLaw cellsFrom_some codeHdIn codeIn envX findIn fnOf instObj keepIn kia_one kitx_list kla_fn lookIn methodObj mg_none_of nsIn tabObj)
section
set_option Elab.async false
namespace L2
open PySem PySem.Spec PyProof.Rows
noncomputable abbrev Key:=Sum Int Str
noncomputable def Zd0:Key->Value->Bool
 |.inl k,v=>Value.isInt k v
 |.inr x,v=>Value.isStrOf x v
noncomputable def keyH(w:World):Key->Int
 |.inl k=>hashInt k
 |.inr x=>hashStr w x
theorem ZP:∀{k:Key}{v:Value},Zd0 k v=true->(∃i t,k=Sum.inl i/\v=Value.int i t)∨(∃x t,k=Sum.inr x/\v=Value.str x t)
 |.inl i,v,h=>by
  obtain⟨t,e⟩:=Value.isInt_shape (k:=i) (v:=v) h
  exact .inl ⟨i,t,rfl,e⟩
 |.inr x,v,h=>by
  obtain⟨t,e⟩:=Value.isStrOf_shape (x:=x) (v:=v) h
  exact .inr ⟨x,t,rfl,e⟩
theorem Zfz(i:Int)(t:Tok):Zd0 (.inl i) (.int i t)=true:=by simp[Zd0,Value.isInt]
theorem Zfy(x:Str)(t:Tok):Zd0 (.inr x) (.str x t)=true:=by simp[Zd0,Value.isStrOf]
theorem key_ll(a b:Int):decide ((Sum.inl a:Key)=Sum.inl b)=(a==b):=by
 by_cases e:a=b
 ·subst e;simp
 ·have h:¬(Sum.inl a:Key)=Sum.inl b:=λq=>e (Sum.inl.inj q)
  rw[decide_eq_false h]
  exact(beq_eq_false_iff_ne.mpr e).symm
theorem key_rr(a b:Str):decide ((Sum.inr a:Key)=Sum.inr b)=decide (a=b):=by
 by_cases e:a=b
 ·subst e;simp
 ·have h:¬(Sum.inr a:Key)=Sum.inr b:=λq=>e (Sum.inr.inj q)
  rw[decide_eq_false h,decide_eq_false e]
theorem key_lr(a:Int)(b:Str):decide ((Sum.inl a:Key)=Sum.inr b)=false:=decide_eq_false (λq=>nomatch q)
theorem key_rl(a:Str)(b:Int):decide ((Sum.inr a:Key)=Sum.inl b)=false:=decide_eq_false (λq=>nomatch q)
noncomputable def ZX(prog:Program)(w:World):PySem.KeyKind prog w Key where
 is:=Zd0
 hash:=keyH w
 inj:=λv a b ha hb=>by
  rcases ZP ha with⟨i,t,rfl,rfl⟩|⟨x,t,rfl,rfl⟩
  ·rcases ZP hb with⟨j,u,rfl,e⟩|⟨y,u,rfl,e⟩
   ·injection e with e1 _;rw[e1]
   ·exact nomatch e
  ·rcases ZP hb with⟨j,u,rfl,e⟩|⟨y,u,rfl,e⟩
   ·exact nomatch e
   ·injection e with e1 _;rw[e1]
 byValue:=λk v h=>by
  rcases ZP h with⟨i,t,rfl,rfl⟩|⟨x,t,rfl,rfl⟩<;>rfl
 pyHash:=λhv h=>by
  rcases ZP hv with⟨i,t,rfl,rfl⟩|⟨x,t,rfl,rfl⟩
  ·exact wpAny_pyHash_int h
  ·exact wpAny_pyHash_str h
 eqBool:=λhu hv h=>by
  rcases ZP hu with⟨i,t,rfl,rfl⟩|⟨x,t,rfl,rfl⟩
  ·rcases ZP hv with⟨j,u,rfl,rfl⟩|⟨y,u,rfl,rfl⟩
   ·rw[key_ll]at h;exact wpAny_eqBool_int h
   ·rw[key_lr]at h;exact SeqAt.EqAt.int_str i t y u _ _ _ _ h
  ·rcases ZP hv with⟨j,u,rfl,rfl⟩|⟨y,u,rfl,rfl⟩
   ·rw[key_rl]at h;exact SeqAt.EqAt.str_int x t j u _ _ _ _ h
   ·rw[key_rr]at h;exact wpAny_eqBool_str h
 «strs»:=λk x t v h=>by
  rcases ZP h with⟨i,u,rfl,e⟩|⟨y,u,rfl,e⟩
  ·exact nomatch e
  ·injection e with e1 _
   subst e1
   cases v<;>rfl
theorem Zct(prog:Program)(w:World)(i:Int)(t:Tok):(ZX prog w).is (.inl i) (.int i t)=true:=Zfz i t
theorem Zcs(prog:Program)(w:World)(x:Str)(t:Tok):(ZX prog w).is (.inr x) (.str x t)=true:=Zfy x t
inductive V where
 |non|bl (b:Bool)|int (i:Int)|str (x:Str)|byt (b:Array UInt8)|flt (b:UInt64)|ref (a:Addr)|ty (n:String)
 deriving DecidableEq
noncomputable def RelV:V->Value->Prop
 |.non,u=>u=Value.none
 |.bl b,u=>u=Value.bool b
 |.int i,u=>∃t,u=Value.int i t
 |.str x,u=>∃t,u=Value.str x t
 |.byt b,u=>∃t,u=Value.bytes b t
 |.flt b,u=>∃t,u=Value.float b t
 |.ref a,u=>u=Value.ref a
 |.ty n,u=>u=Value.type n
noncomputable abbrev Vals:List V->List Value->Prop:=Paired RelV
theorem Vals.length{xs:List V}{us:List Value}(r:Vals xs us):xs.length=us.length:=Paired.length r
theorem Vals.get:∀{xs:List V}{us:List Value}{i:Nat}{x:V},Vals xs us->xs[i]?=some x->∃u,us[i]?=some u/\RelV x u
 |_,_,_,_,.nil,e=>by simp at e
 |_,_,0,_,.cons r _,e=>by simp at e;subst e;exact⟨_,rfl,r⟩
 |_,_,i+1,x,.cons _ t,e=>by
  obtain⟨u,h1,h2⟩:=Vals.get (i:=i) (x:=x) t (by simpa using e)
  exact⟨u,by simpa using h1,h2⟩
theorem Vals.set{x:V}{u:Value}(r:RelV x u):∀{xs:List V}{us:List Value}(i:Nat),Vals xs us->Vals (xs.set i x) (us.set i u)
 |_,_,_,.nil=>.nil
 |_,_,0,.cons _ t=>.cons r t
 |_,_,i+1,.cons q t=>.cons q (Vals.set r i t)
theorem Vals.append:∀{xs ys:List V}{us ws:List Value},Vals xs us->Vals ys ws->Vals (xs++ys) (us++ws)
 |_,_,_,_,.nil,s=>s
 |_,_,_,_,.cons r t,s=>.cons r (Vals.append t s)
theorem Vals.take:∀{xs:List V}{us:List Value}(n:Nat),Vals xs us->Vals (xs.take n) (us.take n)
 |_,_,0,_=>.nil
 |_,_,_+1,.nil=>.nil
 |_,_,n+1,.cons r t=>.cons r (Vals.take n t)
theorem Vals.drop:∀{xs:List V}{us:List Value}(n:Nat),Vals xs us->Vals (xs.drop n) (us.drop n)
 |_,_,0,r=>r
 |_,_,_+1,.nil=>.nil
 |_,_,n+1,.cons _ t=>Vals.drop n t
noncomputable def RelO:Option V->Option Value->Prop
 |some v,some u=>RelV v u
 |none,none=>True
 |_,_=>False
noncomputable def KV{κ:Type}:List (κ×V)->List (κ×Value)->Prop:=Paired λ(p:κ×V) (q:κ×Value)=>p.1=q.1/\RelV p.2 q.2
noncomputable def kV:Key->V
 |.inl i=>.int i
 |.inr x=>.str x
inductive HO where
 |lst (xs:List V)
 |tup (xs:List V)
 |dK (kvs:List (Key×V))|dT (kvs:List (List Key×V))
 |set (S:Int->Bool) (n:Nat)
 |ins (C dx:Addr) (fs:List (Str×V))
 |own (x:Addr)
 |xd (fs:List (Str×V))
 |met (f x:Addr)
 |rng (lo hi:Int)
 |frz (o:Obj) (u:HO)
 |tbl (ps:Array Value)
 |ext (φ:Heap->Prop)
noncomputable abbrev Hp:=Addr->Option HO
noncomputable def upd(H:Hp)(a:Addr)(o:HO):Hp:=λb=>if b=a then some o else H b
theorem Z8{H:Hp}{a:Addr}{o:HO}:upd H a o a=some o:=by unfold upd;rw[if_pos rfl]
theorem Zw{H:Hp}{a b:Addr}{o:HO}(h:b≠a):upd H a o b=H b:=by unfold upd;rw[if_neg h]
theorem ZW{H:Hp}{a b:Addr}{o:HO}(h:H a=some o)(h':H b=none):a≠b:=by
 intro e;subst e;rw[h]at h';cases h'
noncomputable def TupP(h:Heap)(a:Addr)(items:Array Value):Prop:=∃o,h.get? a=some o/\o.cls=.type "tuple"/\(∃n,o.data=.seq items n)/\o.dict=none
theorem TupP.is{h:Heap}{a:Addr}{items:Array Value}(x:TupP h a items):IsTup h a items:=let⟨o,h1,h2,h3,_⟩:=x;⟨o,h1,h2,h3⟩
theorem TupP.new(h:Heap)(items:Array Value):TupP (h.push { cls:=.type "tuple",data:=.seq items }) h.objs.size items:=⟨_,Heap.get?_push_size _ rfl,rfl,⟨_,rfl⟩,rfl⟩
section
variable(P:Program) (w:World)
noncomputable def Z7(H:Hp)(h:Heap)(a:Addr):HO->Prop
 |.lst xs=>xs.length<=sizeLine/\∃(its:List Value) (n:Nat),Vals xs its/\h.get? a=some { cls:=.type "list",data:=.seq its.toArray n }
 |.tup xs=>xs.length<=sizeLine/\∃its:List Value,Vals xs its/\TupP h a its.toArray
 |.dK kvs=>kvs.length<=sizeLine/\(a==sysModules)=false/\∃vs,KV kvs vs/\h.DictOf (ZX P w) a vs
 |.dT kvs=>kvs.length<=sizeLine/\(a==sysModules)=false/\∃xs:List (List Key×Addr×Value),
  Paired (λ(p:List Key×V) (q:List Key×Addr×Value)=>p.1=q.1/\H q.2.1=some (.tup (p.1.map kV))/\RelV p.2 q.2.2) kvs xs /\
  ∃o es ep,h.get? a=some o/\o.ExactDict/\o.data=.dict es ep/\es.toList=xs.map (entryOfKey (tupleKind (ZX P w)))/\(xs.map (·.1)).Nodup
 |.set S n=>h.SetOf (intKind P w) a S n
 |.ins C dx fs=>H dx=some (.own a)/\fs.length<=1000/\dx≠a/\h.get? a=some (instObj C dx) /\
  ∃mA,h.Ns1 dx mA/\(∀f,RelO (fs.lookup f) (mA f))/\PySem.Within mA (fs.map (·.1))
 |.own _=>∃o,h.get? a=some o
 |.xd fs=>∃mA,h.Ns1 a mA/\∀f,RelO (fs.lookup f) (mA f)
 |.rng lo hi=>∃t u v,h.get? a=some { cls:=.type "range",data:=.fields #[.int lo t,.int hi u,.int 1 v] }
 |.frz o u=>h.get? a=some o/\Z7 H h a u
 |.tbl ps=>h.get? a=some { cls:=.none,data:=.fields ps }
 |.met f x=>h.get? a=some (methodObj (.ref f) (.ref x))
 |.ext φ=>φ h/\(∃o,h.get? a=some o)/\∀h1 h2:Heap,φ h1->(∀o,h1.get? a=some o->h2.get? a=some o)->φ h2
noncomputable def HOk(H:Hp)(h:Heap):Prop:=∀a o,H a=some o->Z7 P w H h a o
end
section
variable{P:Program}{w:World}{H H':Hp}{h h':Heap}{a:Addr}{o:HO}
theorem Z7.lt(x:Z7 P w H h a o):a<h.objs.size:=by
 cases o with
 |lst xs=>obtain⟨_,_,_,_,e⟩:=x;exact Heap.lt_size e
 |tup xs=>obtain⟨_,_,_,p⟩:=x;exact p.is.lt
 |dK kvs=>obtain⟨_,_,_,_,o,_,_,e,_⟩:=x;exact Heap.lt_size e
 |dT kvs=>obtain⟨_,_,_,_,o,_,_,e,_⟩:=x;exact Heap.lt_size e
 |set S n=>obtain⟨o,_,_,_,e,_⟩:=x;exact Heap.lt_size e
 |ins C dx fs=>obtain⟨_,_,_,e,_⟩:=x;exact Heap.lt_size e
 |own y=>obtain⟨_,e⟩:=x;exact Heap.lt_size e
 |xd fs=>obtain⟨_,⟨_,_,_,e,_⟩,_⟩:=x;exact Heap.lt_size e
 |rng lo hi=>obtain⟨_,_,_,e⟩:=x;exact Heap.lt_size e
 |frz ob u=>obtain⟨e,_⟩:=x;exact Heap.lt_size e
 |tbl ps=>exact Heap.lt_size (show h.get? a=some _ from x)
 |met f y=>exact Heap.lt_size (show h.get? a=some _ from x)
 |ext φ=>obtain⟨_,⟨_,e⟩,_⟩:=x;exact Heap.lt_size e
theorem Paired.mapP{α β:Type}{F G:α->β->Prop}:∀{l₁:List α}{l₂:List β},Paired F l₁ l₂->(∀a b,F a b->G a b)->Paired G l₁ l₂
 |_,_,.nil,_=>.nil
 |_,_,.cons r t,f=>.cons (f _ _ r) (Paired.mapP t f)
theorem Z7.stay(x:Z7 P w H h a o)(k:∀b u,(b=a∨H b=some (.own a))->h.get? b=some u->h'.get? b=some u)(ho:∀b,H b=some (.own a)->H' b=some (.own a))(ht:∀b xs,H b=some (.tup xs)->H' b=some (.tup xs)):Z7 P w H' h' a o:=by
 induction o with
 |lst xs=>obtain⟨z,its,n,r,e⟩:=x;exact⟨z,its,n,r,k _ _ (.inl rfl) e⟩
 |tup xs=>obtain⟨z,its,r,ob,e,c⟩:=x;exact⟨z,its,r,ob,k _ _ (.inl rfl) e,c⟩
 |dK kvs=>obtain⟨z,y,vs,r,ob,es,ep,e,c⟩:=x;exact⟨z,y,vs,r,ob,es,ep,k _ _ (.inl rfl) e,c⟩
 |dT kvs =>
  obtain⟨z,y,xs,r,ob,es,ep,e,c⟩:=x
  exact⟨z,y,xs,Paired.mapP r λp q z=>⟨z.1,ht _ _ z.2.1,z.2.2⟩,ob,es,ep,k _ _ (.inl rfl) e,c⟩
 |set S n=>obtain⟨ob,es,ep,t,e,c⟩:=x;exact⟨ob,es,ep,t,k _ _ (.inl rfl) e,c⟩
 |ins C dx fs =>
  obtain⟨d,z,ne,e,mA,⟨od,es,ep,e2,c⟩,r⟩:=x
  exact⟨ho _ d,z,ne,k _ _ (.inl rfl) e,mA,⟨od,es,ep,k _ _ (.inr d) e2,c⟩,r⟩
 |own y=>obtain⟨ob,e⟩:=x;exact⟨ob,k _ _ (.inl rfl) e⟩
 |xd fs=>obtain⟨mA,⟨od,es,ep,e,c⟩,r⟩:=x;exact⟨mA,⟨od,es,ep,k _ _ (.inl rfl) e,c⟩,r⟩
 |rng lo hi=>obtain⟨t,u,v,e⟩:=x;exact⟨t,u,v,k _ _ (.inl rfl) e⟩
 |frz ob u ih=>obtain⟨e,q⟩:=x;exact⟨k _ _ (.inl rfl) e,ih q⟩
 |tbl ps =>
  have e:h.get? a=some { cls:=.none,data:=.fields ps }:=x
  show h'.get? a=some { cls:=.none,data:=.fields ps }
  exact k a _ (.inl rfl) e
 |met f y =>
  have e:h.get? a=some (methodObj (.ref f) (.ref y)):=x
  show h'.get? a=some (methodObj (.ref f) (.ref y))
  exact k a _ (.inl rfl) e
 |ext φ=>obtain⟨p,⟨o,e⟩,st⟩:=x;exact⟨st _ _ p λo q=>k _ _ (.inl rfl) q,⟨o,k _ _ (.inl rfl) e⟩,st⟩
theorem HOk.lt(x:HOk P w H h)(e:H a=some o):a<h.objs.size:=(x a o e).lt
theorem HOk.fresh(x:HOk P w H h)(e:h.objs.size<=a):H a=none:=by
 cases q:H a with
 |none=>rfl
 |some u=>exact absurd (Nat.lt_of_lt_of_le (x.lt q) e) (Nat.lt_irrefl _)
theorem HOk.kept(x:HOk P w H h)(k:∀b u,h.get? b=some u->h'.get? b=some u):HOk P w H h':=λa o e =>
 (x a o e).stay (λb u _ q=>k b u q) (λ_ q=>q) λ_ _ q=>q
theorem HOk.laid(x:HOk P w H h)(k:∀b u,h.get? b=some u->h'.get? b=some u)(hp:h.objs.size<=a)(new:Z7 P w (upd H a o) h' a o):HOk P w (upd H a o) h':=λb u e=>by
 have hn:=x.fresh hp
 by_cases hb:b=a
 ·subst hb;rw[Z8]at e;cases e;exact new
 ·rw[Zw hb]at e
  exact(x b u e).stay (λc v _ q=>k c v q) (λc q=>by rw[Zw (ZW q hn)];exact q) λc xs q=>by rw[Zw (ZW q hn)];exact q
end
noncomputable def Rd(H:Hp)(a:Addr)(u:HO):Prop:=H a=some u∨∃o,H a=some (.frz o u)
theorem Rd.ok{P:Program}{w:World}{H:Hp}{h:Heap}{a:Addr}{u:HO}(r:Rd H a u)(x:HOk P w H h):Z7 P w H h a u:=by
 rcases r with r|⟨o,r⟩
 ·exact x a u r
 ·obtain⟨_,q⟩:=x a _ r
  exact q
noncomputable def Mut:Option HO->Prop
 |some (.lst _)=>True
 |some (.dK _)=>True
 |some (.dT _)=>True
 |some (.set _ _)=>True
 |some (.ins _ _ _)=>True
 |some (.ext _)=>True
 |_=>False
section
variable{P:Program}{w:World}{H:Hp}{h h':Heap}{x e:Addr}{o':HO}
theorem HOk.write(ok:HOk P w H h)(mu:Mut (H x))(he:e=x∨H e=some (.own x))(k:∀b u,b≠e->h.get? b=some u->h'.get? b=some u)(heo:∃u,h'.get? e=some u)(new:Z7 P w (upd H x o') h' x o'):HOk P w (upd H x o') h':=λb u q=>by
 have nown:∀c y,H c=some (.own y)->c≠x:=λc y r z=>by subst z;rw[r]at mu;exact mu
 have ntup:∀c xs,H c=some (.tup xs)->c≠x:=λc xs r z=>by subst z;rw[r]at mu;exact mu
 by_cases hb:b=x
 ·subst hb;rw[Z8]at q;cases q;exact new
 ·rw[Zw hb]at q
  by_cases hbe:b=e
  ·have q':H b=some (.own x):=by
    rcases he with z|z
    ·exact absurd (hbe.trans z) hb
    ·rw[hbe];exact z
   rw[q]at q';cases q'
   obtain⟨v,hv⟩:=heo
   exact⟨v,by rw[hbe];exact hv⟩
  ·refine(ok b u q).stay (λc v hc r=>k c v ?_ r) (λc r=>by rw[Zw (nown c b r)];exact r) λc xs r=>by rw[Zw (ntup c xs r)];exact r
   rcases hc with rfl|hc
   ·exact hbe
   ·rintro rfl
    rcases he with z|z
    ·exact nown c b hc z
    ·rw[hc]at z;cases z;exact hb rfl
end
structure Un (fs ex:List Addr) (H H':Hp) (h h':Heap):Prop where
 keep:∀b o,h.get? b=some o->H b=none->b∉fs->b∉ex->h'.get? b=some o
 slot:∀b o,h.get? b=some o->H b=none->b∈fs->b∉ex->∃sl,h'.get? b=some { o with slots:=sl }
 free:∀b o,h.get? b=some o->H b=none->b∉ex->H' b=none
 there:∀b o,h.get? b=some o->b∉ex->∃o',h'.get? b=some o'
 tups:∀b xs,H b=some (.tup xs)->H' b=some (.tup xs)
 frzs:∀b o u,H b=some (.frz o u)->H' b=some (.frz o u)
 tbls:∀b ps,H b=some (.tbl ps)->∃more,H' b=some (.tbl (ps++more))
section
variable{fs fs' ex ex':List Addr}{H H1 H2:Hp}{h h1 h2 h':Heap}{a x e:Addr}{o:HO}
theorem Un.any(u:Un fs ex H H1 h h1){b:Addr}{ob:Obj}(q:h.get? b=some ob)(n:H b=none)(hx:b∉ex):∃sl,h1.get? b=some { ob with slots:=sl }:=by
 by_cases hb:b∈fs
 ·exact u.slot b ob q n hb hx
 ·exact⟨ob.slots,u.keep b ob q n hb hx⟩
theorem Un.kept(k:∀b u,h.get? b=some u->h'.get? b=some u):Un fs ex H H h h':=
 ⟨λb ob q _ _ _=>k b ob q,λb ob q _ _ _=>⟨ob.slots,k b ob q⟩,λ_ _ _ n _=>n,λb ob q _=>⟨ob,k b ob q⟩,λ_ _ q=>q,λ_ _ _ q=>q,λ_ ps q=>⟨#[],by rw[q];simp⟩⟩
theorem Un.refl:Un fs ex H H h h:=Un.kept λ_ _ q=>q
theorem Un.laid(k:∀b u,h.get? b=some u->h'.get? b=some u)(hp:h.objs.size<=a)(hn:H a=none):Un fs ex H (upd H a o) h h' where
 keep:=λb u q _ _ _=>k b u q
 slot:=λb u q _ _ _=>⟨u.slots,k b u q⟩
 free:=λb u q n _=>by rw[Zw (Nat.ne_of_lt (Nat.lt_of_lt_of_le (Heap.lt_size q) hp))];exact n
 there:=λb u q _=>⟨u,k b u q⟩
 tups:=λb xs q=>by rw[Zw (ZW q hn)];exact q
 frzs:=λb u xs q=>by rw[Zw (ZW q hn)];exact q
 tbls:=λb ps q=>⟨#[],by rw[Zw (ZW q hn),q];simp⟩
theorem Un.write(mu:Mut (H x))(he:e=x∨H e=some (.own x))(k:∀b u,b≠e->h.get? b=some u->h'.get? b=some u)(heo:∃u,h'.get? e=some u):Un fs ex H (upd H x o) h h':=by
 have hx:∀b,H b=none->b≠x:=λb n z=>by subst z;rw[n]at mu;exact mu
 have hb:∀b,H b=none->b≠e:=λb n z=>by
  subst z
  rcases he with r|r
  ·exact hx b n r
  ·rw[n]at r;cases r
 have hm:∀b u,H b=some u->¬Mut (some u)->b≠x:=λb u q nm z=>by subst z;rw[q]at mu;exact nm mu
 refine⟨λb u q n _ _=>k b u (hb b n) q,λb u q n _ _=>⟨u.slots,k b u (hb b n) q⟩,λb u q n _=>by rw[Zw (hx b n)];exact n,λb u q _=>?_,
  λb xs q=>by rw[Zw (hm b _ q λz=>z)];exact q,λb u xs q=>by rw[Zw (hm b _ q λz=>z)];exact q,λb ps q=>⟨#[],by rw[Zw (hm b _ q λz=>z),q];simp⟩⟩
 by_cases hbe:b=e
 ·subst hbe;exact heo
 ·exact⟨u,k b u hbe q⟩
end
noncomputable def trk(h:Heap)(H:Hp):List Addr:=(List.range h.objs.size).filter λa=>(H a).isSome
noncomputable def hidT(h:Heap)(H:Hp):Heap:=PySem.W.hideAll h (trk h H)
theorem ZfH(h:Heap)(H:Hp):(hidT h H).objs.size=h.objs.size:=PySem.W.hideAll_size _ _
theorem Zhn{h:Heap}{H:Hp}{b:Addr}{o:Obj}(e:h.get? b=some o)(n:H b=none):(hidT h H).get? b=some o:=
 PySem.W.hideAll_get _ e λhm=>by
  have q:(H b).isSome=true:=(List.mem_filter.mp hm).2
  rw[n]at q;simp at q
theorem Zji{h:Heap}{H:Hp}{b:Addr}{o:Obj}(e:(hidT h H).get? b=some o):h.get? b=some o/\H b=none:=by
 have e':h.get? b=some o:=PySem.W.of_hideAll (trk h H) e
 refine⟨e',?_⟩
 cases q:H b with
 |none=>rfl
 |some x =>
  have hm:b∈trk h H:=List.mem_filter.mpr ⟨List.mem_range.mpr (Heap.lt_size e'),by simp[q]⟩
  have z:(hidT h H).get? b=none:=PySem.W.hideAll_none (trk h H) hm
  rw[z]at e;cases e
noncomputable def Zj8(g h:Heap)(L:Addr):List (Addr×Obj):=(List.range h.objs.size).filterMap λa=>if a=L∨(g.get? a).isSome=true then none else(h.get? a).map λo=>(a,o)
noncomputable def rest(g h:Heap)(L d:Addr):List (Addr×Obj):=(Zj8 g h L).filter λp=>decide (p.1≠d)
structure Mod (K:Frag) (mg:Str->Option Value) (base:Heap):Prop where
 kin:K.In base
 glob:base.Ns mainGlobals mg
 blt:∃mb,base.Ns builtinsNs mb/\∀x:Str,x≠"__name__"->mb x=bootBuiltins x
 nolimit:base.NoLimit
 bm:∃bm ob,mg "__builtins__" = some (.ref bm)/\bm≠builtinsNs/\base.get? bm=some ob/\ob.cls=.type "module"/\ob.dict=some builtinsNs/\ob.data=.plain
structure Cx where
 prog:Program
 w:World
 K:Frag
 mg:Str->Option Value
 base:Heap
 A:Around
 N:List Str
 s₀:Shared
 H₀:Hp
 env:Env
 outer:List Env
 stack:List Env
 ex:List Addr
 fn:Str->Bool
 calm:Bool
 pn:List (Addr×Obj)
 xe:Value->Shared->Prop
noncomputable def frs(l:List Env):List Addr:=l.filterMap (·.frame)
noncomputable abbrev Cx.fs(X:Cx):List Addr:=frs X.outer
noncomputable def Vis(sc:Scope)(x:Str):Prop:=sc.names.lookup x=some .local∨sc.names.lookup x=some .cell∨sc.names.lookup x=some .free
noncomputable def Loc(sc:Scope)(x:Str):Prop:=sc.names.lookup x=some .local∨sc.names.lookup x=some .cell
noncomputable def Look(env:Env)(h:Heap)(m:Str->Option Value)(x:Str)(u:Value):Prop:=
 (env.kindOf x=some .local/\m x=some u)∨((env.kindOf x=some .cell∨env.kindOf x=some .free)/\∃c,env.cells.lookup x=some c/\h.IsCell c (some u))
structure Cx.Ok (X:Cx):Prop where
 mod:Mod X.K X.mg X.base
 kind:X.env.scope.kind=.function
 glob:X.env.globals=mainGlobals
 blt:X.env.builtins=builtinsNs
 above:X.s₀.heap.objs.size<=X.env.locals
 inj:∀x y c,X.env.cells.lookup x=some c->X.env.cells.lookup y=some c->x=y
 has:∀x,(X.env.kindOf x=some .cell∨X.env.kindOf x=some .free)->∃c,X.env.cells.lookup x=some c
 cab:∀x c,X.fn x=true->X.env.cells.lookup x=some c->X.s₀.heap.objs.size<=c
 hd:X.calm=true->X.A.handled=none
 frames:X.A.frames=some X.stack
 stk:X.stack=X.outer∨(X.stack=X.env::X.outer/\X.env.frame=some X.env.locals)
 exf:∀b∈X.ex,b≠X.env.locals/\∀x c,X.env.cells.lookup x=some c->c≠b
 bs:∀b o,X.base.get? b=some o->X.s₀.heap.get? b=some o/\X.H₀ b=none
 bsz:X.base.objs.size<=X.s₀.heap.objs.size
 noex:∀b o,X.base.get? b=some o->b∉X.ex
 exfs:∀b∈X.ex,b∉X.fs
 funs:X.s₀.heap.FunFrames X.base X.outer
 frf:∀b∈X.fs,X.H₀ b=none
structure Inv (X:Cx) (pins:List (Addr×Obj)) (σ:List (Option V)) (H:Hp) (s:Shared):Prop where
 ok:X.Ok
 os:s.os=X.s₀.os
 bare:AllBare s.gens
 base:Un X.fs X.ex X.H₀ H X.s₀.heap s.heap
 loc:∃m,s.heap.Ns X.env.locals m/\∀(i:Nat) (x:Str) (v:V),X.N[i]?=some x->σ[i]?=some (some v)->Vis X.env.scope x->∃u,RelV v u/\Look X.env s.heap m x u
 cell:∀x c,X.env.cells.lookup x=some c->∃v,s.heap.IsCell c v
 free:H X.env.locals=none
 freeC:∀x c,X.env.cells.lookup x=some c->H c=none
 pin:∀p∈X.pn++pins,s.heap.get? p.1=some p.2/\H p.1=none/\p.1≠X.env.locals/\p.1∉X.fs/\∀v,p.2.data≠.cell v
 hok:HOk X.prog X.w H s.heap
 len:σ.length=X.N.length
section
variable{X:Cx}{pins:List (Addr×Obj)}{σ:List (Option V)}{H H':Hp}{s:Shared}{h':Heap}
theorem Cx.Ok.nofr(ok:X.Ok){b:Addr}{o:Obj}(e:X.base.get? b=some o):b∉X.fs:=λhb=>by
 have:=(ok.funs.mem hb).1
 rw[e]at this;cases this
theorem Inv.bs(I:Inv X pins σ H s):∀b o,X.base.get? b=some o->s.heap.get? b=some o/\H b=none:=λb o e =>
 ⟨I.base.keep b o (I.ok.bs b o e).1 (I.ok.bs b o e).2 (I.ok.nofr e) (I.ok.noex b o e),I.base.free b o (I.ok.bs b o e).1 (I.ok.bs b o e).2 (I.ok.noex b o e)⟩
theorem Inv.bk(I:Inv X pins σ H s):∀b o,X.base.get? b=some o->s.heap.get? b=some o:=λb o e=>(I.bs b o e).1
theorem Inv.mod(I:Inv X pins σ H s):Mod X.K X.mg X.base:=I.ok.mod
theorem Inv.kIn(I:Inv X pins σ H s):X.K.In s.heap:=I.ok.mod.kin.keeps I.bk
theorem Inv.nolimit(I:Inv X pins σ H s):s.heap.NoLimit:=I.ok.mod.nolimit.keeps I.bk
theorem Inv.lt(I:Inv X pins σ H s):X.env.locals<s.heap.objs.size:=let⟨_,hn,_⟩:=I.loc;hn.lt
theorem Inv.sz(I:Inv X pins σ H s):X.s₀.heap.objs.size<=s.heap.objs.size:=Nat.le_trans I.ok.above (Nat.le_of_lt I.lt)
theorem Inv.nofs(I:Inv X pins σ H s){a:Addr}(h:s.heap.objs.size<=a):a∉X.fs:=λhb=>by
 obtain⟨_,o,ho,_⟩:=I.ok.funs.mem hb
 exact absurd (Nat.lt_of_lt_of_le (Heap.lt_size ho) (Nat.le_trans I.sz h)) (Nat.lt_irrefl _)
theorem Inv.cne(I:Inv X pins σ H s):∀x c,X.env.cells.lookup x=some c->c≠X.env.locals:=λx c e z=>by
 obtain⟨v,o,ho,hd⟩:=I.cell x c e
 obtain⟨m,⟨o',es,ep,ho',hd',_⟩,_⟩:=I.loc
 rw[z,ho']at ho;cases ho;rw[hd']at hd;cases hd
theorem Inv.funs(I:Inv X pins σ H s):s.heap.FunFrames X.base X.outer:=by
 have all:∀(l:List Env),(∀b∈frs l,b∈X.fs)->X.s₀.heap.FunFrames X.base l->s.heap.FunFrames X.base l:=by
  intro l
  induction l with
  |nil=>intro _ _;trivial
  |cons env r ih =>
   intro hs hl
   obtain⟨hk,⟨L,o,hf,hn,ho,hd⟩,hr⟩:=hl
   have hL:L∈X.fs:=hs L (by unfold frs;rw[List.filterMap_cons,hf];exact List.mem_cons_self)
   obtain⟨sl,e⟩:=I.base.slot L o ho (I.ok.frf L hL) hL λz=>I.ok.exfs L z hL
   exact⟨hk,⟨L,_,hf,hn,e,hd⟩,ih (λb hb=>hs b (by unfold frs;rw[List.filterMap_cons,hf];exact List.mem_cons_of_mem _ hb)) hr⟩
 exact all X.outer (λ_ hb=>hb) I.ok.funs
theorem Inv.stack(I:Inv X pins σ H s):s.heap.FunFrames X.base X.stack:=by
 rcases I.ok.stk with e|⟨e,hf⟩
 ·rw[e];exact I.funs
 ·rw[e]
  obtain⟨m,hn,_⟩:=I.loc
  refine .cons (by rw[I.ok.kind];decide) hf hn ?_ I.funs
  exact Heap.get?_none_of_le (Nat.le_trans I.ok.bsz I.ok.above)
theorem Inv.stkSub(I:Inv X pins σ H s):∀b∈frs X.stack,b∈X.env.locals::X.fs:=λb hb=>by
 rcases I.ok.stk with e|⟨e,hf⟩
 ·rw[e]at hb;exact List.mem_cons_of_mem _ hb
 ·rw[e]at hb
  unfold frs at hb
  rw[List.filterMap_cons,hf]at hb
  exact hb
theorem Inv.stkFree(I:Inv X pins σ H s):∀b∈frs X.stack,H b=none:=λb hb=>by
 rcases List.mem_cons.mp (I.stkSub b hb)with e|hb
 ·rw[e];exact I.free
 ·obtain⟨_,o,ho,_⟩:=I.ok.funs.mem hb
  exact I.base.free b o ho (I.ok.frf b hb) λz=>I.ok.exfs b z hb
theorem Inv.step{g':Array GenState}{t':Nat}{d':Drawn}{ch:List Addr}(I:Inv X pins σ H s)(hch:∀b∈ch,(b∈X.ex∨X.s₀.heap.objs.size<=b)/\b≠X.env.locals/\(∀x c,X.env.cells.lookup x=some c->c≠b)/\∀p∈X.pn++pins,p.1≠b)(keep:∀b o,b≠X.env.locals->b∉X.fs->b∉ch->s.heap.get? b=some o->H b=none->h'.get? b=some o)(slot:∀b o,b≠X.env.locals->b∈X.fs->b∉ch->s.heap.get? b=some o->H b=none->∃sl,h'.get? b=some { o with slots:=sl })(free:∀b o,b∉ch->s.heap.get? b=some o->H b=none->H' b=none)(there:∀b o,b∉ch->s.heap.get? b=some o->∃o',h'.get? b=some o')(tups:∀b xs,H b=some (.tup xs)->H' b=some (.tup xs))(frzs:∀b o u,H b=some (.frz o u)->H' b=some (.frz o u))(tbls:∀b ps,H b=some (.tbl ps)->∃more,H' b=some (.tbl (ps++more)))(ns:∀m,s.heap.Ns X.env.locals m->h'.Ns X.env.locals m)(hok:HOk X.prog X.w H' h')(hg:AllBare g'):
  Inv X pins σ H' { s with heap:=h',gens:=g',drawn:=d',toks:=t' }:=by
 have neL:∀b o,X.s₀.heap.get? b=some o->b≠X.env.locals:=λb o e=>Nat.ne_of_lt (Nat.lt_of_lt_of_le (Heap.lt_size e) I.ok.above)
 have neC:∀b o,X.s₀.heap.get? b=some o->b∉X.ex->b∉ch:=λb o e hx hb=>by
  rcases(hch b hb).1 with z|z
  ·exact hx z
  ·exact absurd (Nat.lt_of_lt_of_le (Heap.lt_size e) z) (Nat.lt_irrefl _)
 have cellK:∀x c,X.env.cells.lookup x=some c->∀v,s.heap.IsCell c v->h'.IsCell c v:=λx c e v ⟨o,ho,hd⟩=>by
  have nch:c∉ch:=λz=>(hch c z).2.2.1 x c e rfl
  by_cases hc:c∈X.fs
  ·obtain⟨sl,q⟩:=slot c o (I.cne x c e) hc nch ho (I.freeC x c e)
   exact⟨_,q,hd⟩
  ·exact⟨o,keep c o (I.cne x c e) hc nch ho (I.freeC x c e),hd⟩
 refine⟨I.ok,I.os,hg,⟨λb o e n hb hx=>?_,λb o e n hb hx=>?_,λb o e n hx=>?_,λb o e hx=>?_,λb xs e=>tups b xs (I.base.tups b xs e),λb o xs e=>frzs b o xs (I.base.frzs b o xs e),λb ps e=>?_⟩,?_,λx c e=>?_,?_,λx c e=>?_,λp hp=>?_,hok,I.len⟩
 ·exact keep b o (neL b o e) hb (neC b o e hx) (I.base.keep b o e n hb hx) (I.base.free b o e n hx)
 ·obtain⟨sl,e1⟩:=I.base.slot b o e n hb hx
  obtain⟨sl',e2⟩:=slot b _ (neL b o e) hb (neC b o e hx) e1 (I.base.free b o e n hx)
  exact⟨sl',e2⟩
 ·obtain⟨o',e1⟩:=I.base.there b o e hx
  exact free b o' (neC b o e hx) e1 (I.base.free b o e n hx)
 ·obtain⟨o',e1⟩:=I.base.there b o e hx
  exact there b o' (neC b o e hx) e1
 ·obtain⟨m1,e1⟩:=I.base.tbls b ps e
  obtain⟨m2,e2⟩:=tbls b _ e1
  exact⟨m1++m2,by rw[e2,Array.append_assoc]⟩
 ·obtain⟨m,hn,hl⟩:=I.loc
  refine⟨m,ns m hn,λi x v e1 e2 e3=>?_⟩
  obtain⟨u,r,l⟩:=hl i x v e1 e2 e3
  refine⟨u,r,?_⟩
  rcases l with l|⟨k,c,e,z⟩
  ·exact .inl l
  ·exact .inr ⟨k,c,e,cellK x c e _ z⟩
 ·obtain⟨v,z⟩:=I.cell x c e
  exact⟨v,cellK x c e v z⟩
 ·obtain⟨m,⟨o,_,_,ho,_⟩,_⟩:=I.loc
  exact free _ o (λz=>(hch _ z).2.1 rfl) ho I.free
 ·obtain⟨v,o,ho,hd⟩:=I.cell x c e
  exact free c o (λz=>(hch c z).2.2.1 x c e rfl) ho (I.freeC x c e)
 ·obtain⟨e,n,ne,nf,d⟩:=I.pin p hp
  have nch:p.1∉ch:=λz=>(hch p.1 z).2.2.2 p hp rfl
  exact⟨keep p.1 p.2 ne nf nch e n,free p.1 p.2 nch e n,ne,nf,d⟩
theorem Inv.un{t':Nat}(I:Inv X pins σ H s)(u:Un X.fs [] H H' s.heap h')(hok:HOk X.prog X.w H' h'):Inv X pins σ H' { s with heap:=h',toks:=t' }:=by
 obtain⟨m,⟨o,es,ep,ho,r⟩,_⟩:=id I.loc
 obtain⟨sl,hL⟩:=u.any ho I.free (by simp)
 exact I.step (g':=s.gens) (d':=s.drawn) (ch:=[]) (λ_ z=>nomatch z) (λb o _ hb _ e n=>u.keep b o e n hb (by simp)) (λb o _ hb _ e n=>u.slot b o e n hb (by simp)) (λb o _ e n=>u.free b o e n (by simp)) (λb o _ e=>u.there b o e (by simp)) u.tups u.frzs u.tbls (λm' hm=>by
  obtain⟨o',es',ep',ho',r'⟩:=hm
  rw[ho]at ho';cases ho'
  exact⟨_,es',ep',hL,r'⟩) hok I.bare
theorem Inv.call{g':Array GenState}{t':Nat}{d':Drawn}{ch:List Addr}(I:Inv X pins σ H s)(u:Un (frs X.stack) ch H H' s.heap h')(hok:HOk X.prog X.w H' h')(hg:AllBare g')(hch:∀b∈ch,(b∈X.ex∨X.s₀.heap.objs.size<=b)/\b≠X.env.locals/\(∀x c,X.env.cells.lookup x=some c->c≠b)/\∀p∈X.pn++pins,p.1≠b):
  Inv X pins σ H' { s with heap:=h',gens:=g',drawn:=d',toks:=t' }:=by
 obtain⟨m,⟨o,es,ep,ho,r⟩,_⟩:=id I.loc
 obtain⟨sl,hL⟩:=u.any ho I.free λz=>(hch _ z).2.1 rfl
 exact I.step (ch:=ch) hch (λb o hL hb hc e n=>u.keep b o e n (λz=>(List.mem_cons.mp (I.stkSub b z)).elim hL hb) hc) (λb o _ _ hc e n=>u.any e n hc) (λb o hc e n=>u.free b o e n hc) (λb o hc e=>u.there b o e hc) u.tups u.frzs u.tbls (λm' hm=>by
  obtain⟨o',es',ep',ho',r'⟩:=hm
  rw[ho]at ho';cases ho'
  exact⟨_,es',ep',hL,r'⟩) hok hg
theorem Inv.turned{t':Nat}{it:Addr}(I:Inv X pins σ H s)(k:∀b o,b≠it->s.heap.get? b=some o->h'.get? b=some o)(hn:H it=none)(hL:it≠X.env.locals)(h1:it∈X.ex∨X.s₀.heap.objs.size<=it)(h2:∀x c,X.env.cells.lookup x=some c->c≠it)(h3:∀p∈X.pn++pins,p.1≠it):Inv X pins σ H { s with heap:=h',toks:=t' }:=by
 have nit:∀b u,H b=some u->b≠it:=λb u e z=>by rw[z,hn]at e;cases e
 refine I.step (g':=s.gens) (d':=s.drawn) (ch:=[it]) (λb hb=>?_) (λb o _ _ hc e _=>k b o (λz=>hc (by simp[z])) e) (λb o _ _ hc e _=>⟨o.slots,k b o (λz=>hc (by simp[z])) e⟩) (λ_ _ _ _ n=>n)
  (λb o hc e=>⟨o,k b o (λz=>hc (by simp[z])) e⟩) (λ_ _ e=>e) (λ_ _ _ e=>e) (λb ps e=>⟨#[],by rw[e];simp⟩) (λm hm=>?_) (λb u e=>?_) I.bare
 ·have e:b=it:=by simpa using hb
  subst e
  exact⟨h1,hL,h2,h3⟩
 ·obtain⟨o,es,ep,ho,r⟩:=hm
  exact⟨o,es,ep,k _ o (Ne.symm hL) ho,r⟩
 ·refine(I.hok b u e).stay (λc v hc q=>k c v ?_ q) (λ_ q=>q) λ_ _ q=>q
  rcases hc with z|z
  ·rw[z];exact nit b u e
  ·exact nit c _ z
theorem Inv.tok(I:Inv X pins σ H s)(t:Nat):Inv X pins σ H { s with toks:=t }:=I.un (h':=s.heap) (t':=t) Un.refl I.hok
theorem Inv.kept{t':Nat}(I:Inv X pins σ H s)(k:∀b u,s.heap.get? b=some u->h'.get? b=some u):Inv X pins σ H { s with heap:=h',toks:=t' }:=I.un (Un.kept k) (I.hok.kept k)
theorem Inv.laid{a:Addr}{o:HO}{t':Nat}(I:Inv X pins σ H s)(k:∀b u,s.heap.get? b=some u->h'.get? b=some u)(hp:s.heap.objs.size<=a)(new:Z7 X.prog X.w (upd H a o) h' a o):
 Inv X pins σ (upd H a o) { s with heap:=h',toks:=t' }:=I.un (Un.laid k hp (I.hok.fresh hp)) (I.hok.laid k hp new)
theorem Inv.write{x e:Addr}{o:HO}{t':Nat}(I:Inv X pins σ H s)(mu:Mut (H x))(he:e=x∨H e=some (.own x))(k:∀b u,b≠e->s.heap.get? b=some u->h'.get? b=some u)(heo:∃u,h'.get? e=some u)(new:Z7 X.prog X.w (upd H x o) h' x o):Inv X pins σ (upd H x o) { s with heap:=h',toks:=t' }:=I.un (Un.write mu he k heo) (I.hok.write mu he k heo new)
theorem Inv.pins_of{pins':List (Addr×Obj)}(I:Inv X pins σ H s)(h:∀p∈pins',s.heap.get? p.1=some p.2/\H p.1=none/\p.1≠X.env.locals/\p.1∉X.fs/\∀v,p.2.data≠.cell v):Inv X pins' σ H s:=
 ⟨I.ok,I.os,I.bare,I.base,I.loc,I.cell,I.free,I.freeC,λp hp=>(List.mem_append.mp hp).elim (λz=>I.pin p (List.mem_append_left _ z)) (h p),I.hok,I.len⟩
theorem Zc9{N:List Str}(hN:N.Nodup){i j:Nat}{x:Str}(a:N[i]?=some x)(b:N[j]?=some x):i=j:=by
 obtain⟨h1,e1⟩:=List.getElem?_eq_some_iff.mp a
 obtain⟨h2,e2⟩:=List.getElem?_eq_some_iff.mp b
 exact(List.getElem_inj hN).mp (e1.trans e2.symm)
theorem Zex{M:Model}{A:Around}{E:Value->Shared->Prop}{i:Nat}{x:Str}{v:V}{u:Value}{Q:Unit->Shared->Prop}(I:Inv X pins σ H s)(hN:X.N.Nodup)(hi:X.N[i]?=some x)(hx:Loc X.env.scope x)(r:RelV v u)(h:∀s',Inv X pins (σ.set i (some v)) H s'->(∃a,Heap.SameBut a s.heap s'.heap/\(a=X.env.locals∨X.env.cells.lookup x=some a))->Q () s')(hf:X.fn x=true∨X.env.scope.names.lookup x=some .local:=by first|exact .inl rfl|exact .inr rfl|assumption):wpAny M A (storeName X.env x u) Q E s:=by
 obtain⟨m,hn,hl⟩:=id I.loc
 have hcls:(X.env.scope.kind==.class || (X.env.scope.kind==.module&&X.env.locals != X.env.globals))=false:=by rw[I.ok.kind];rfl
 have hiσ:i<σ.length:=by rw[I.len];exact(List.getElem?_eq_some_iff.mp hi).1
 have cne:=I.cne
 have tracked:∀{a:Addr}{h':Heap},(∃o,s.heap.get? a=some o/\H a=none)->Heap.SameBut a s.heap h'->HOk X.prog X.w H h':=λ{a h'} ha hs b ob e=>by
  obtain⟨_,_,hfree⟩:=ha
  refine(I.hok b ob e).stay (λc w' hc q=>(hs.2 c ?_).trans q) (λ_ q=>q) λ_ _ q=>q
  rintro rfl
  rcases hc with rfl|hc
  ·rw[hfree]at e;cases e
  ·rw[hfree]at hc;cases hc
 rcases hx with hk|hk
 ·refine wpAny_storeName_local hk hn (λh' hn' hs=>?_) hcls
  obtain⟨oL,_,_,hoL,_⟩:=id hn
  refine h _ ⟨I.ok,I.os,I.bare,⟨λb o e n hb hx=>?_,λb o e n hb hx=>?_,I.base.free,λb o e hx=>?_,I.base.tups,I.base.frzs,I.base.tbls⟩,⟨_,hn',λj y v' e1 e2 e3=>?_⟩,λy c e=>?_,I.free,I.freeC,λp hp=>?_,tracked ⟨oL,hoL,I.free⟩ hs,by simpa using I.len⟩ ⟨_,hs,.inl rfl⟩
  ·exact(hs.2 b (Nat.ne_of_lt (Nat.lt_of_lt_of_le (Heap.lt_size e) I.ok.above))).trans (I.base.keep b o e n hb hx)
  ·obtain⟨sl,e1⟩:=I.base.slot b o e n hb hx
   exact⟨sl,(hs.2 b (Nat.ne_of_lt (Nat.lt_of_lt_of_le (Heap.lt_size e) I.ok.above))).trans e1⟩
  ·obtain⟨o',e1⟩:=I.base.there b o e hx
   exact⟨o',(hs.2 b (Nat.ne_of_lt (Nat.lt_of_lt_of_le (Heap.lt_size e) I.ok.above))).trans e1⟩
  ·by_cases hj:j=i
   ·subst hj
    rw[hi]at e1;cases e1
    rw[List.getElem?_set_self hiσ]at e2
    cases e2
    exact⟨u,r,.inl ⟨hk,by simp⟩⟩
   ·rw[List.getElem?_set_ne (Ne.symm hj)]at e2
    obtain⟨u',r',q⟩:=hl j y v' e1 e2 e3
    refine⟨u',r',?_⟩
    rcases q with⟨k,e⟩|⟨k,c,e,z⟩
    ·refine .inl ⟨k,?_⟩
     have:y≠x:=λe=>hj (Zc9 hN e1 (e▸hi))
     simp[this,e]
    ·exact .inr ⟨k,c,e,z.sameBut hs (cne y c e)⟩
  ·obtain⟨w',z⟩:=I.cell y c e
   exact⟨w',z.sameBut hs (cne y c e)⟩
  ·obtain⟨e,n,ne,nf,d⟩:=I.pin p hp
   exact⟨(hs.2 p.1 ne).trans e,n,ne,nf,d⟩
 ·have hfn:X.fn x=true:=by
   rcases hf with z|z
   ·exact z
   ·rw[z]at hk;cases hk
  obtain⟨c,hc⟩:=I.ok.has x (.inl hk)
  obtain⟨w',z⟩:=I.cell x c hc
  refine wpAny_storeName_cell I.ok.kind hk hc z (λh' hc' hs=>?_)
  obtain⟨oc,hoc,hocd⟩:=id z
  refine h { s with heap:=h' } ⟨I.ok,I.os,I.bare,⟨λb o e n hb hx=>?_,λb o e n hb hx=>?_,I.base.free,λb o e hx=>?_,I.base.tups,I.base.frzs,I.base.tbls⟩,⟨m,hn.sameBut hs (Ne.symm (cne x c hc)),λj y v' e1 e2 e3=>?_⟩,λy c' e=>?_,I.free,I.freeC,λp hp=>?_,tracked ⟨oc,hoc,I.freeC x c hc⟩ hs,by simpa using I.len⟩ ⟨c,hs,.inr hc⟩
  ·exact(hs.2 b (Nat.ne_of_lt (Nat.lt_of_lt_of_le (Heap.lt_size e) (I.ok.cab x c hfn hc)))).trans (I.base.keep b o e n hb hx)
  ·obtain⟨sl,e1⟩:=I.base.slot b o e n hb hx
   exact⟨sl,(hs.2 b (Nat.ne_of_lt (Nat.lt_of_lt_of_le (Heap.lt_size e) (I.ok.cab x c hfn hc)))).trans e1⟩
  ·obtain⟨o',e1⟩:=I.base.there b o e hx
   exact⟨o',(hs.2 b (Nat.ne_of_lt (Nat.lt_of_lt_of_le (Heap.lt_size e) (I.ok.cab x c hfn hc)))).trans e1⟩
  ·by_cases hj:j=i
   ·subst hj
    rw[hi]at e1;cases e1
    rw[List.getElem?_set_self hiσ]at e2
    cases e2
    exact⟨u,r,.inr ⟨.inl hk,c,hc,hc'⟩⟩
   ·rw[List.getElem?_set_ne (Ne.symm hj)]at e2
    obtain⟨u',r',q⟩:=hl j y v' e1 e2 e3
    refine⟨u',r',?_⟩
    rcases q with q|⟨k,c',e,z'⟩
    ·exact .inl q
    ·refine .inr ⟨k,c',e,z'.sameBut hs ?_⟩
     rintro rfl
     exact hj (Zc9 hN e1 (I.ok.inj _ _ _ e hc▸hi))
  ·by_cases hcc:c'=c
   ·subst hcc;exact⟨_,hc'⟩
   ·obtain⟨w2,z2⟩:=I.cell y c' e
    exact⟨w2,z2.sameBut hs hcc⟩
  ·obtain⟨e,n,ne,nf,d⟩:=I.pin p hp
   refine⟨(hs.2 p.1 ?_).trans e,n,ne,nf,d⟩
   intro q
   rw[q,hoc]at e
   have q':oc=p.2:=Option.some.inj e
   exact d w' (by rw[<-q'];exact hocd)
theorem ZcU{M:Model}{A:Around}{E:Value->Shared->Prop}{i:Nat}{x:Str}{v:V}{u:Value}{Q:Unit->Shared->Prop}(I:Inv X pins σ H s)(hN:X.N.Nodup)(hi:X.N[i]?=some x)(hx:Loc X.env.scope x)(r:RelV v u)(h:∀s',Inv X pins (σ.set i (some v)) H s'->Q () s')(hf:X.fn x=true∨X.env.scope.names.lookup x=some .local:=by first|exact .inl rfl|exact .inr rfl|assumption):wpAny M A (storeName X.env x u) Q E s:=
 Zex I hN hi hx r (λs' I' _=>h s' I') hf
theorem Inv.call'{s':Shared}{ch:List Addr}(I:Inv X pins σ H s)(ho:s'.os=s.os)(u:Un (frs X.stack) ch H H' s.heap s'.heap)(hok:HOk X.prog X.w H' s'.heap)(hg:AllBare s'.gens)(hch:∀b∈ch,(b∈X.ex∨X.s₀.heap.objs.size<=b)/\b≠X.env.locals/\(∀x c,X.env.cells.lookup x=some c->c≠b)/\∀p∈X.pn++pins,p.1≠b):Inv X pins σ H' s':=by
 obtain⟨h',g',d',t',o'⟩:=s'
 have e:o'=s.os:=ho
 subst e
 exact I.call (g':=g') (t':=t') (d':=d') u hok hg hch
end
noncomputable abbrev XK:=Value->Option Addr->Hp->Prop
noncomputable abbrev St:=List (Option V)
noncomputable abbrev VK:=V->Hp->Prop
noncomputable abbrev TE:=St->Hp->VK->Prop
noncomputable abbrev TT:=St->Hp->(Bool->Hp->Prop)->Prop
noncomputable abbrev TA:=St->Hp->(List V->Hp->Prop)->Prop
structure Ends where
 nx:St->Hp->Prop
 rt:VK
 bk:St->Hp->Prop:=λ_ _=>False
 ct:St->Hp->Prop:=λ_ _=>False
noncomputable abbrev TS:=Ends->St->Hp->Prop
noncomputable def EP(X:Cx)(pins:List (Addr×Obj))(σ:St)(Q:VK)(u:Value)(s':Shared):Prop:=∃v H',Inv X pins σ H' s'/\RelV v u/\Q v H'
noncomputable def TP(X:Cx)(pins:List (Addr×Obj))(σ:St)(Q:Bool->Hp->Prop)(b:Bool)(s':Shared):Prop:=∃H',Inv X pins σ H' s'/\Q b H'
noncomputable def AP(X:Cx)(pins:List (Addr×Obj))(σ:St)(Q:List V->Hp->Prop)(us:List Value)(s':Shared):Prop:=∃vs H',Inv X pins σ H' s'/\Vals vs us/\Q vs H'
noncomputable def SP(X:Cx)(pins:List (Addr×Obj))(D:Ends)(f:Flow)(s':Shared):Prop:=
 match f with
 |.next=>∃σ' H',Inv X pins σ' H' s'/\D.nx σ' H'
 |.brk=>∃σ' H',Inv X pins σ' H' s'/\D.bk σ' H'
 |.cont=>∃σ' H',Inv X pins σ' H' s'/\D.ct σ' H'
 |.ret u=>∃v σ' H',Inv X pins σ' H' s'/\RelV v u/\D.rt v H'
noncomputable def PE(X:Cx)(e:Expr)(t:TE):Prop:=
 ∀(pins:List (Addr×Obj)) (s:Shared) (σ:St) (H:Hp) (Q:VK),Inv X pins σ H s->t σ H Q->wpAny (model X.prog X.w) X.A (eval e X.env) (EP X pins σ Q) X.xe s
noncomputable def PT(X:Cx)(e:Expr)(t:TT):Prop:=
 ∀(pins:List (Addr×Obj)) (s:Shared) (σ:St) (H:Hp) (Q:Bool->Hp->Prop),Inv X pins σ H s->t σ H Q->wpAny (model X.prog X.w) X.A (isTrue e X.env (eval e X.env)) (TP X pins σ Q) X.xe s
noncomputable def PW(X:Cx)(e:Expr)(t:TT):Prop:=
 ∀(whole:Sem Value) (pins:List (Addr×Obj)) (s:Shared) (σ:St) (H:Hp) (Q:Bool->Hp->Prop),Inv X pins σ H s->t σ H Q->wpAny (model X.prog X.w) X.A (isTrue e X.env whole) (TP X pins σ Q) X.xe s
theorem PW.pt{X:Cx}{e:Expr}{t:TT}(h:PW X e t):PT X e t:=h _
noncomputable def PA(X:Cx)(es:List Expr)(t:TA):Prop:=
 ∀(pos:Pos) (pins:List (Addr×Obj)) (s:Shared) (σ:St) (H:Hp) (Q:List V->Hp->Prop),Inv X pins σ H s->t σ H Q->wpAny (model X.prog X.w) X.A (spliced (backTo pos (starEach es X.env))) (AP X pins σ Q) X.xe s
noncomputable def PS(X:Cx)(st:Stmt)(t:TS):Prop:=
 ∀(pins:List (Addr×Obj)) (s:Shared) (σ:St) (H:Hp) (D:Ends),Inv X pins σ H s->t D σ H->wpAny (model X.prog X.w) X.A (exec st X.env) (SP X pins D) X.xe s
noncomputable def PSs(X:Cx)(st:List Stmt)(t:TS):Prop:=
 ∀(pins:List (Addr×Obj)) (s:Shared) (σ:St) (H:Hp) (D:Ends),Inv X pins σ H s->t D σ H->wpAny (model X.prog X.w) X.A (execs st X.env) (SP X pins D) X.xe s
theorem thn{α:Type}{t:Sem α}{Q Q':α->Shared->Prop}{M:Model}{A:Around}{E:Value->Shared->Prop}{s:Shared}(h:wpAny M A t Q E s)(hQ:∀a s,Q a s->Q' a s):wpAny M A t Q' E s:=wpAny_mono h hQ λ_ _ x=>x
section
variable{X:Cx}
theorem bin{a b:Expr}{ta tb:TE}(ha:PE X a ta)(hb:PE X b tb){pins:List (Addr×Obj)}{s:Shared}{σ:St}{H:Hp}{R:V->V->Hp->Prop}(I:Inv X pins σ H s)(h:ta σ H λx H1=>tb σ H1 λy H2=>R x y H2){α:Type}{Q:α->Shared->Prop}{f:Value->Value->Sem α}(hf:∀v u s2 x y H2,Inv X pins σ H2 s2->RelV x v->RelV y u->R x y H2->wpAny (model X.prog X.w) X.A (f v u) Q X.xe s2):
  wpAny (model X.prog X.w) X.A (eval a X.env) (λv s₁=>wpAny (model X.prog X.w) X.A (eval b X.env) (λu s₂=>wpAny (model X.prog X.w) X.A (f v u) Q X.xe s₂) X.xe s₁) X.xe s:=by
 refine thn (ha pins s σ H _ I h) λv s1 ⟨x,H1,I1,r1,q1⟩=>?_
 refine thn (hb pins s1 σ H1 _ I1 q1) λu s2 ⟨y,H2,I2,r2,q2⟩=>?_
 exact hf v u s2 x y H2 I2 r1 r2 q2
noncomputable def tVar(i:Nat):TE:=λσ H Q=>∃v,σ[i]?=some (some v)/\Q v H
noncomputable def tC(v:V):TE:=λ_ H Q=>Q v H
theorem pe_var{i:Nat}{x:Str}{pos:Pos}(hN:X.N[i]?=some x)(hv:Vis X.env.scope x)(hd:(x==("__debug__" : Str))=false:=by decide)(hcd:(x==("__classdict__" : Str))=false:=by decide):PE X (.Name x pos) (tVar i):=by
 intro pins s σ H Q I h
 obtain⟨v,e,h⟩:=h
 obtain⟨m,hn,hl⟩:=I.loc
 obtain⟨u,r,l⟩:=hl i x v hN e hv
 have fin:EP X pins σ Q u s:=⟨v,H,I,r,h⟩
 rcases l with⟨hk,hm⟩|⟨hk,c,hc,hcell⟩
 ·exact wpAny_Name (wpAny_loadName_local I.ok.kind hk hn hm fin) hd
 ·rcases hk with hk|hk
  ·exact wpAny_Name (wpAny_loadName_cell I.ok.kind hk hc hcell fin) hd
  ·exact wpAny_Name (wpAny_loadName_free I.ok.kind hk hc hcell fin hcd) hd
theorem pe_int{i j pos}:PE X (.Constant (.int i) j pos) (tC (.int i)):=λ_ _ _ H _ I h=>wpAny_Constant_int ⟨.int i,H,I.tok _,⟨_,rfl⟩,h⟩
theorem pe_bl{b j pos}:PE X (.Constant (.bool b) j pos) (tC (.bl b)):=λ_ _ _ H _ I h=>Constant_bool ⟨.bl b,H,I,rfl,h⟩
theorem ZhY{x j pos}:PE X (.Constant (.str x) j pos) (tC (.str x)):=λ_ _ _ H _ I h=>Calls.Constant_str ⟨.str x,H,I.tok _,⟨_,rfl⟩,h⟩
noncomputable def Gl(X:Cx)(x:Str):Prop:=X.env.kindOf x=some .globalImplicit
theorem Zjs{E:Value->Shared->Prop}{pins:List (Addr×Obj)}{s:Shared}{σ:St}{H:Hp}{x:Str}{u:Value}{pos:Pos}{Q:Value->Shared->Prop}(I:Inv X pins σ H s)(hg:Gl X x)(hm:X.mg x=some u)(h:Q u s)(hd:(x==("__debug__" : Str))=false:=by decide):wpAny (model X.prog X.w) X.A (eval (.Name x pos) X.env) Q E s:=
 Calls.Name_function_global I.ok.kind hg (Calls.loadGlobal_global (by rw[I.ok.glob];exact I.mod.glob.keeps I.bk) hm h) hd
theorem ZbS{E:Value->Shared->Prop}{pins:List (Addr×Obj)}{s:Shared}{σ:St}{H:Hp}{x:Str}{u:Value}{pos:Pos}{Q:Value->Shared->Prop}(I:Inv X pins σ H s)(hg:Gl X x)(hm:X.mg x=none)(hv:bootBuiltins x=some u)(h:Q u s)(hn:x≠"__name__":=by decide)(hd:(x==("__debug__" : Str))=false:=by decide):wpAny (model X.prog X.w) X.A (eval (.Name x pos) X.env) Q E s:=by
 obtain⟨mb,h1,h2⟩:=I.mod.blt
 exact Calls.Name_function_global I.ok.kind hg (Calls.loadGlobal_builtin (by rw[I.ok.glob];exact I.mod.glob.keeps I.bk) hm (by rw[I.ok.blt];exact h1.keeps I.bk) ((h2 x hn).trans hv) h) hd
theorem Zi8{x:Str}{v:V}{u:Value}{pos:Pos}(hg:Gl X x)(hm:X.mg x=none)(hv:bootBuiltins x=some u)(r:RelV v u)(hn:x≠"__name__":=by decide)(hd:(x==("__debug__" : Str))=false:=by decide):PE X (.Name x pos) (tC v):=
 λ_ _ _ H _ I h=>ZbS I hg hm hv ⟨v,H,I,r,h⟩ hn hd
variable{a b:Expr}{ta tb:TE}{pos:Pos}
noncomputable def tB(t:TE):TT:=λσ H Q=>t σ H λx H1=>∃c,x=.bl c/\Q c H1
variable{tA tB':TT}{rest:List Expr}
noncomputable def tAnd(t u:TT):TT:=λσ H Q=>t σ H λc H1=>if c=true then u σ H1 Q else Q false H1
noncomputable def tOr(t u:TT):TT:=λσ H Q=>t σ H λc H1=>if c=true then Q true H1 else u σ H1 Q
noncomputable def tNot(t:TT):TT:=λσ H Q=>t σ H λc H1=>Q (!c) H1
theorem ZiE(ha:PT X a tA):PW X (.BoolOp .And [a] pos) tA:=by
 intro wh pins s σ H Q I h
 refine isTrue_and (thn (ha pins s σ H Q I h) λc s1 e=>?_)
 cases c with
 |true=>exact isTrue_and_nil e
 |false=>exact e
theorem ZhT(ha:PT X a tA):PW X (.BoolOp .Or [a] pos) tA:=by
 intro wh pins s σ H Q I h
 refine isTrue_or (thn (ha pins s σ H Q I h) λc s1 e=>?_)
 cases c with
 |false=>exact isTrue_or_nil e
 |true=>exact e
theorem pw_and(ha:PT X a tA)(hb:PW X (.BoolOp .And (b::rest) pos) tB'):PW X (.BoolOp .And (a::b::rest) pos) (tAnd tA tB'):=by
 intro wh pins s σ H Q I h
 refine isTrue_and (thn (ha pins s σ H _ I h) λc s1 ⟨H1,I1,q1⟩=>?_)
 cases c with
 |true=>exact hb wh pins s1 σ H1 Q I1 q1
 |false=>exact⟨H1,I1,q1⟩
theorem pw_or(ha:PT X a tA)(hb:PW X (.BoolOp .Or (b::rest) pos) tB'):PW X (.BoolOp .Or (a::b::rest) pos) (tOr tA tB'):=by
 intro wh pins s σ H Q I h
 refine isTrue_or (thn (ha pins s σ H _ I h) λc s1 ⟨H1,I1,q1⟩=>?_)
 cases c with
 |true=>exact⟨H1,I1,q1⟩
 |false=>exact hb wh pins s1 σ H1 Q I1 q1
theorem pt_not(ha:PT X a tA):PT X (.UnaryOp .Not a pos) (tNot tA):=by
 intro pins s σ H Q I h
 exact isTrue_not (ha pins s σ H (λc H1=>Q (!c) H1) I h)
end
noncomputable def SqL(K:Frag)(H:Hp)(a:Addr)(xs:List V):Prop:=
 Rd H a (.lst xs) ∨
  ∃(o:Obj) (its:Array Value) (n:Nat),K.lookup a=some o/\o.cls=.type "list"/\o.dict=none/\o.data=.seq its n/\its.size<=sizeLine/\Vals xs its.toList
noncomputable def SqT(K:Frag)(H:Hp)(a:Addr)(xs:List V):Prop:=
 Rd H a (.tup xs) ∨
  ∃(o:Obj) (its:Array Value) (n:Nat),K.lookup a=some o/\o.cls=.type "tuple"/\o.data=.seq its n/\its.size<=sizeLine/\Vals xs its.toList/\o.dict=none
noncomputable def absV:Value->Option V
 |.none=>some .non
 |.bool b=>some (.bl b)
 |.int i _=>some (.int i)
 |.str x _=>some (.str x)
 |.bytes b _=>some (.byt b)
 |.float b _=>some (.flt b)
 |.ref a=>some (.ref a)
 |.type n=>some (.ty n)
 |_=>none
theorem RelV.abs{x:V}{u:Value}(r:RelV x u):absV u=some x:=by
 cases x with
 |non=>cases r;rfl
 |bl _=>cases r;rfl
 |int _=>obtain⟨t,rfl⟩:=r;rfl
 |str _=>obtain⟨t,rfl⟩:=r;rfl
 |byt _=>obtain⟨t,rfl⟩:=r;rfl
 |flt _=>obtain⟨t,rfl⟩:=r;rfl
 |ref _=>cases r;rfl
 |ty _=>cases r;rfl
theorem RelV.inj{x y:V}{u:Value}(r:RelV x u)(q:RelV y u):x=y:=Option.some.inj (r.abs.symm.trans q.abs)
theorem Vals.inj:∀{xs ys:List V}{us:List Value},Vals xs us->Vals ys us->xs=ys
 |_,_,_,.nil,.nil=>rfl
 |_,_,_,.cons r t,.cons r' t'=>by rw[r.inj r',Vals.inj t t']
section
variable{X:Cx}{pins:List (Addr×Obj)}{σ:St}{H:Hp}{s:Shared}{a:Addr}{xs ys:List V}
theorem SqL.of{K:Frag}(h:H a=some (.lst xs)):SqL K H a xs:=.inl (.inl h)
theorem SqT.of{K:Frag}(h:H a=some (.tup xs)):SqT K H a xs:=.inl (.inl h)
theorem Inv.list(I:Inv X pins σ H s)(h:SqL X.K H a xs):∃its:List Value,Vals xs its/\PlainL s.heap a its.toArray/\xs.length<=sizeLine:=by
 rcases h with h|⟨o,its,n,hk,hc,hd,hs,hz,r⟩
 ·obtain⟨z,its,n,r,e⟩:=h.ok I.hok
  exact⟨its,r,⟨_,n,e,rfl,rfl,rfl⟩,z⟩
 ·refine⟨its.toList,r,⟨o,n,I.kIn a o hk,hc,hd,by simpa using hs⟩,?_⟩
  have e:=r.length
  simp only[Array.length_toList]at e
  omega
theorem Inv.tuple(I:Inv X pins σ H s)(h:SqT X.K H a xs):∃its:List Value,Vals xs its/\IsTup s.heap a its.toArray/\xs.length<=sizeLine:=by
 rcases h with h|⟨o,its,n,hk,hc,hs,hz,r,hdn⟩
 ·obtain⟨z,its,r,p⟩:=h.ok I.hok
  exact⟨its,r,p.is,z⟩
 ·refine⟨its.toList,r,⟨o,I.kIn a o hk,hc,n,by simpa using hs⟩,?_⟩
  have e:=r.length
  simp only[Array.length_toList]at e
  omega
theorem Inv.list_inj(I:Inv X pins σ H s)(h:SqL X.K H a xs)(h':SqL X.K H a ys):xs=ys:=by
 obtain⟨its,r,⟨o,n,e,_,_,d⟩,_⟩:=I.list h
 obtain⟨its',r',⟨o',n',e',_,_,d'⟩,_⟩:=I.list h'
 rw[e]at e';cases e'
 rw[d]at d'
 injection d' with d1 _
 have:its=its':=by simpa using congrArg Array.toList d1
 subst this
 exact r.inj r'
theorem Inv.tuple_inj(I:Inv X pins σ H s)(h:SqT X.K H a xs)(h':SqT X.K H a ys):xs=ys:=by
 obtain⟨its,r,⟨o,e,_,n,d⟩,_⟩:=I.tuple h
 obtain⟨its',r',⟨o',e',_,n',d'⟩,_⟩:=I.tuple h'
 rw[e]at e';cases e'
 rw[d]at d'
 injection d' with d1 _
 have:its=its':=by simpa using congrArg Array.toList d1
 subst this
 exact r.inj r'
end
noncomputable abbrev Cx.wish(X:Cx)(E:Value->Shared->Prop):Cx:={ X with xe:=E }
noncomputable abbrev Cx.nox(X:Cx):Cx:=X.wish λ_ _=>False
section
variable{X:Cx}{st:Stmt}{rest:List Stmt}{t u:TS}{e:Expr}{te:TE}{pos:Pos}
noncomputable def tNext:TS:=λD σ H=>D.nx σ H
noncomputable def tSeq(t u:TS):TS:=λD σ H=>t { D with nx:=u D } σ H
theorem ZiJ:PSs X [] tNext:=λ_ _ σ H _ I h=>wpAny_execs_nil ⟨σ,H,I,h⟩
theorem Qp(h1:PS X st t)(h2:PSs X rest u):PSs X (st::rest) (tSeq t u):=by
 intro pins s σ H D I h
 refine wpAny_execs_cons (thn (h1 pins s σ H { D with nx:=u D } I h) λf s1 q=>?_)
 cases f with
 |next =>
  obtain⟨σ',H',I',q⟩:=q
  exact h2 pins s1 σ' H' D I' q
 |ret v=>exact q
 |brk=>exact q
 |cont=>exact q
theorem Inv.quiet{pins:List (Addr×Obj)}{σ:St}{H:Hp}{s:Shared}(I:Inv X pins σ H s):interactive X.env=false:=by simp[interactive,I.ok.kind]
noncomputable def tDrop(te:TE):TS:=λD σ H=>te σ H λ_ H1=>D.nx σ H1
theorem ZiM(he:PE X e te)(hs:swapsWith e none pos.line X.env=pure false:=by rfl):PS X (.Expr e pos) (tDrop te):=by
 intro pins s σ H D I h
 exact wpAny_Expr_any (thn (he pins s σ H _ I h) λv s1 ⟨x,H1,I1,r1,q1⟩=>⟨σ,H1,I1,q1⟩) I.quiet hs
noncomputable def tRet(te:TE):TS:=λD σ H=>te σ H D.rt
theorem ps_ret(he:PE X e te):PS X (.Return (some e) pos) (tRet te):=by
 intro pins s σ H D I h
 exact wpAny_Return_some (thn (he pins s σ H _ I h) λv s1 ⟨x,H1,I1,r1,q1⟩=>⟨x,σ,H1,I1,r1,q1⟩)
noncomputable def tIfS(c:TT)(t u:TS):TS:=λD σ H=>c σ H λb H1=>if b=true then t D σ H1 else u D σ H1
theorem ps_if{c:Expr}{a b:List Stmt}{tc:TT}(hc:PT X c tc)(ha:PSs X a t)(hb:PSs X b u):PS X (.If c a b pos) (tIfS tc t u):=by
 intro pins s σ H D I h
 refine wpAny_If (thn (hc pins s σ H _ I h) λd s1 ⟨H1,I1,q1⟩=>?_)
 cases d with
 |true=>exact ha pins s1 σ H1 D I1 q1
 |false=>exact hb pins s1 σ H1 D I1 q1
noncomputable def tNever:TS:=λ_ _ _=>False
theorem ZeQ{sts:List Stmt}:PSs X sts tNever:=λ_ _ _ _ _ _ h=>h.elim
end
noncomputable abbrev TG:=V->St->Hp->(St->Hp->Prop)->Prop
noncomputable abbrev TGs:=List V->St->Hp->(St->Hp->Prop)->Prop
noncomputable def PG(X:Cx)(target:Expr)(t:TG):Prop:=
 ∀(pins:List (Addr×Obj)) (s:Shared) (σ:St) (H:Hp) (v:V) (u:Value) (Q:St->Hp->Prop),Inv X pins σ H s->RelV v u->t v σ H Q ->
  wpAny (model X.prog X.w) X.A (assign target X.env u) (λ_ s'=>∃σ' H',Inv X pins σ' H' s'/\Q σ' H') X.xe s
noncomputable def PGs(X:Cx)(ts:List Expr)(t:TGs):Prop:=
 ∀(pins:List (Addr×Obj)) (s:Shared) (σ:St) (H:Hp) (vs:List V) (us:List Value) (Q:St->Hp->Prop),Inv X pins σ H s->Vals vs us->t vs σ H Q ->
  wpAny (model X.prog X.w) X.A (assignInOrder ((assignEach ts X.env).map (·.2)) us) (λ_ s'=>∃σ' H',Inv X pins σ' H' s'/\Q σ' H') X.xe s
noncomputable abbrev TSet:=V->V->V->Hp->(Hp->Prop)->Prop
noncomputable def PSet(X:Cx)(t:TSet):Prop:=
 ∀(pins:List (Addr×Obj)) (s:Shared) (σ:St) (H:Hp) (o i v:V) (ov iv u:Value) (Q:Hp->Prop),Inv X pins σ H s->RelV o ov->RelV i iv->RelV v u->t o i v H Q ->
  wpAny (model X.prog X.w) X.A (setItem ov iv u) (λ_ s'=>∃H',Inv X pins σ H' s'/\Q H') X.xe s
section
variable{X:Cx}{pos:Pos}
noncomputable def ZjG(i:Nat):TG:=λv σ H Q=>Q (σ.set i (some v)) H
theorem Zbh{i:Nat}{x:Str}(hN:X.N.Nodup)(hi:X.N[i]?=some x)(hx:Loc X.env.scope x)(hf:X.fn x=true∨X.env.scope.names.lookup x=some .local:=by first|exact .inl rfl|exact .inr rfl|assumption):PG X (.Name x pos) (ZjG i):=by
 intro pins s σ H v u Q I r h
 exact wpAny_assign_Name (ZcU I hN hi hx r (λs' I'=>⟨_,H,I',h⟩) hf)
noncomputable def gNil:TGs:=λvs σ H Q=>vs=[]/\Q σ H
noncomputable def gCons(t:TG)(u:TGs):TGs:=λvs σ H Q=>∃v r,vs=v::r/\t v σ H λσ' H'=>u r σ' H' Q
theorem ZiQ:PGs X [] gNil:=by
 intro pins s σ H vs us Q I r h
 obtain⟨e,h⟩:=h
 subst e
 cases r
 exact assignInOrder_nil ⟨σ,H,I,h⟩
theorem Zbg{e:Expr}{es:List Expr}{t:TG}{u:TGs}(h1:PG X e t)(h2:PGs X es u)(hs:(assignEach (e::es) X.env).map (·.2)=assign e X.env::(assignEach es X.env).map (·.2):=by rfl):PGs X (e::es) (gCons t u):=by
 intro pins s σ H vs us Q I r h
 obtain⟨v,vr,e1,h⟩:=h
 subst e1
 cases r with
 |cons r rr =>
  rw[hs]
  refine assignInOrder_cons (thn (h1 pins s σ H _ _ _ I r h) λ_ s1 ⟨σ1,H1,I1,q1⟩=>?_)
  exact h2 pins s1 σ1 H1 _ _ Q I1 rr q1
noncomputable def gTup(K:Frag)(n:Nat)(t:TGs):TG:=λv σ H Q=>∃a xs,v=.ref a/\SqT K H a xs/\xs.length=n/\t xs σ H Q
theorem pg_tup{es:List Expr}{k:Nat}{t:TGs}{n:Nat}(hc:X.calm=true)(h:PGs X es t)(hn:(assignEach es X.env).length=n:=by rfl)(hst:(assignEach es X.env).findIdx? (·.1)=none:=by rfl):PG X (.Tuple es k pos) (gTup X.K n t):=by
 intro pins s σ H v u Q I r hw
 obtain⟨a,xs,e1,hq,hl,hw⟩:=hw
 subst e1
 cases r
 obtain⟨its,rv,ht,hz⟩:=I.tuple hq
 refine assign_Tuple_tuple (I.ok.hd hc) ht (by simp[hn,<-hl,rv.length]) hst λh' hx=>?_
 have I1:Inv X pins σ H { s with heap:=h' }:=I.kept (t':=s.toks) λb o e=>hx b o (Nat.ne_of_lt (Heap.lt_size e)) e
 exact h pins _ σ H xs _ Q I1 (by simpa using rv) hw
noncomputable def gSub(to ti:TE)(t:TSet):TG:=λv σ H Q=>to σ H λo H1=>ti σ H1 λi H2=>t o i v H2 λH3=>Q σ H3
theorem pg_sub{o i:Expr}{to ti:TE}{t:TSet}(ho:PE X o to)(hi:PE X i ti)(hs:PSet X t)(ha:∀v,assign (.Subscript o i pos) X.env v=(do
  let ov <-holding [v] (eval o X.env)
  let iv <-holding [v,ov] (eval i X.env)
  standAt pos
  holding [v,ov,iv] (setItem ov iv v)
  release [v,ov,iv] []):=by intro _;rfl):PG X (.Subscript o i pos) (gSub to ti t):=by
 intro pins s σ H v u Q I r h
 rw[ha]
 refine wpAny_bind (wpAny_holding (thn (ho pins s σ H _ I h) λov s1 ⟨x,H1,I1,r1,q1⟩=>?_))
 refine wpAny_bind (wpAny_holding (thn (hi pins s1 σ H1 _ I1 q1) λiv s2 ⟨y,H2,I2,r2,q2⟩=>?_))
 refine wpAny_bind (wpAny_standAt (wpAny_bind (wpAny_holding (thn (hs pins s2 σ H2 x y v ov iv u _ I2 r1 r2 r q2) λ_ s3 ⟨H3,I3,q3⟩=>?_))))
 exact wpAny_release ⟨σ,H3,I3,q3⟩
noncomputable def tAsg(te:TE)(g:TG):TS:=λD σ H=>te σ H λx H1=>g x σ H1 D.nx
theorem ZhX{tg e:Expr}{te:TE}{g:TG}(he:PE X e te)(hg:PG X tg g)(hs:swapsWithSole [tg] e pos.line X.env=pure false:=by rfl)(hw:swappedStores [tg] e X.env=pure none:=by rfl)(h1:(assignEach [tg] X.env).map (·.2)=[assign tg X.env]:=by rfl):PS X (.Assign [tg] e pos) (tAsg te g):=by
 intro pins s σ H D I h
 refine wpAny_Assign_stores (thn (he pins s σ H _ I h) λv s1 ⟨x,H1,I1,r1,q1⟩=>?_) hs hw
 rw[h1]
 exact thn (hg pins s1 σ H1 x v _ I1 r1 q1) λ_ s2 q=>q
theorem ps_set{i:Nat}{x:Str}{e:Expr}{te:TE}{pos':Pos}(hN:X.N.Nodup)(hi:X.N[i]?=some x)(hx:Loc X.env.scope x)(he:PE X e te)(hs:swapsWith e (some (.Name x pos')) pos.line X.env=pure false:=by rfl)(hf:X.fn x=true∨X.env.scope.names.lookup x=some .local:=by first|exact .inl rfl|exact .inr rfl|assumption):
  PS X (.Assign [.Name x pos'] e pos) (tAsg te (ZjG i)):=by
 intro pins s σ H D I h
 refine wpAny_Assign_Name (thn (he pins s σ H _ I h) λv s1 ⟨y,H1,I1,r1,q1⟩=>?_) hs
 exact ZcU I1 hN hi hx r1 (λs2 I2=>⟨_,H1,I2,q1⟩) hf
noncomputable def tWhile(c:TT)(tb:TS):TS:=λD σ H=>∃W:Nat->St->Hp->Prop,(∃m,W m σ H)/\∀m σ H,W m σ H ->
 c σ H λb H1=>if b=true then ∃N:St->Hp->Prop,(∀σ' H',N σ' H'->∃m',m'<m/\W m' σ' H')/\tb { D with nx:=N,ct:=N,bk:=D.nx } σ H1 else D.nx σ H1
theorem ZgN{c:Expr}{body:List Stmt}{tc:TT}{tb:TS}(hp:PassesOwn (model X.prog X.w) X.A X.env X.xe)(hc:PT X c tc)(hb:PSs X body tb):PS X (.While c body [] pos) (tWhile tc tb):=by
 intro pins s σ H D I h
 obtain⟨W,⟨m0,w0⟩,turn⟩:=h
 refine wpAny_While (codeAny_whileLoop (λn s'=>∃σ' H',Inv X pins σ' H' s'/\W n σ' H') ?_ m0 ⟨σ,H,I,w0⟩)
 rintro n s1 ⟨σ1,H1,I1,w1⟩
 refine wpAny_passesOwn hp (thn (hc pins s1 σ1 H1 _ I1 (turn n σ1 H1 w1)) λb s2 ⟨H2,I2,q2⟩=>?_)
 cases b with
 |true =>
  obtain⟨N,hN,q2⟩:=q2
  rw[if_pos rfl]
  refine wpAny_passesOwn hp (thn (hb pins s2 σ1 H2 _ I2 q2) λf s3 q3=>?_)
  cases f with
  |next =>
   obtain⟨σ3,H3,I3,n3⟩:=q3
   obtain⟨m',hm,w3⟩:=hN σ3 H3 n3
   exact⟨m',hm,σ3,H3,I3,w3⟩
  |cont =>
   obtain⟨σ3,H3,I3,n3⟩:=q3
   obtain⟨m',hm,w3⟩:=hN σ3 H3 n3
   exact⟨m',hm,σ3,H3,I3,w3⟩
  |brk=>exact q3
  |ret v=>exact q3
 |false =>
  rw[if_neg Bool.false_ne_true]
  exact wpAny_execs_nil ⟨σ1,H2,I2,q2⟩
end
structure It where
 go:Nat->Hp->Prop
 yld:Nat->Hp->V->Hp->Prop
 stop:Nat->Hp->Prop
noncomputable def FpOk(X:Cx)(pins:List (Addr×Obj))(H:Hp)(b:Addr):Prop:=
 H b=none/\b≠X.env.locals/\b∉X.fs/\(b∈X.ex∨X.s₀.heap.objs.size<=b)/\(∀x c,X.env.cells.lookup x=some c->c≠b)/\∀p∈X.pn++pins,p.1≠b
theorem Inv.fpOk{X:Cx}{pins:List (Addr×Obj)}{σ:St}{H H':Hp}{s:Shared}{b:Addr}(I:Inv X pins σ H s)(hb:s.heap.objs.size<=b)(hn:H' b=none):FpOk X pins H' b:=by
 refine⟨hn,Nat.ne_of_gt (Nat.lt_of_lt_of_le I.lt hb),I.nofs hb,.inr (Nat.le_trans I.sz hb),λx c e z=>?_,λp hp z=>?_⟩
 ·obtain⟨v,q⟩:=I.cell x c e
  exact absurd (Nat.lt_of_lt_of_le q.lt (by rw[z];exact hb)) (Nat.lt_irrefl _)
 ·exact absurd (Nat.lt_of_lt_of_le (Heap.lt_size (I.pin p hp).1) (by rw[z];exact hb)) (Nat.lt_irrefl _)
structure Turn (P:Program) (w:World) (K:Frag) (tg:Expr) (J:It) (fp:List Addr) (it:Addr) (tn:Nat->Heap->Prop):Prop where
 mem:it∈fp
 obj:∀i h,tn i h->∀b∈fp,∃o,h.get? b=some o/\∀v,o.data≠.cell v
 keep:∀i h h',tn i h->(∀b∈fp,∀o,h.get? b=some o->h'.get? b=some o)->tn i h'
 item:∀(X:Cx),X.prog=P->X.w=w->X.K=K->X.calm=true->∀(i:Nat) (pins:List (Addr×Obj)) (s:Shared) (σ:St) (H:Hp) (E:Value->Shared->Prop),Inv X pins σ H s->(∀b∈fp,FpOk X pins H b)->tn i s.heap->J.go i H ->
  wpAny (model P w) X.A (pyNext (.ref it)) (λr s1=>∃u,r=some u /\
   wpAny (model P w) X.A (letOwnedTupleGo tg (.ref it) u) (λ_ s2=>∃x H',Inv X pins σ H' s2/\RelV x u/\J.yld i H x H'/\tn (i+1) s2.heap/\∀b∈fp,H' b=none) E s1) E s
 done:∀(X:Cx),X.prog=P->X.w=w->X.K=K->X.calm=true->∀(i:Nat) (pins:List (Addr×Obj)) (s:Shared) (σ:St) (H:Hp) (E:Value->Shared->Prop),Inv X pins σ H s->(∀b∈fp,FpOk X pins H b)->tn i s.heap->J.stop i H ->
  wpAny (model P w) X.A (pyNext (.ref it)) (λr s1=>r=none/\Inv X pins σ H s1) E s
 self:∀(A:Around) (i:Nat) (s:Shared) (Q:Value->Shared->Prop) (E:Value->Shared->Prop),tn i s.heap->Q (.ref it) s->wpAny (model P w) A (pyIter (.ref it)) Q E s
noncomputable abbrev TI:=St->Hp->(It->Hp->Prop)->Prop
noncomputable def PIE(X:Cx)(pins:List (Addr×Obj))(σ:St)(tg:Expr)(R:It->Hp->Prop)(itv:Value)(s2:Shared):Prop:=
 ∃(it:Addr) (fp:List Addr) (tn:Nat->Heap->Prop) (J:It) (H':Hp),itv=.ref it/\Inv X pins σ H' s2/\Turn X.prog X.w X.K tg J fp it tn/\tn 0 s2.heap/\(∀b∈fp,FpOk X pins H' b)/\R J H'
noncomputable def PI(X:Cx)(tg iter:Expr)(wi:TI):Prop:=
 ∀(pins:List (Addr×Obj)) (s:Shared) (σ:St) (H:Hp) (R:It->Hp->Prop),Inv X pins σ H s->wi σ H R ->
  wpAny (model X.prog X.w) X.A (eval iter X.env) (λv s1=>wpAny (model X.prog X.w) X.A (pyIter v) (PIE X pins σ tg R) X.xe s1) X.xe s
theorem Zho{M:Model}{A:Around}{E:Value->Shared->Prop}{s:Shared}{tg:Expr}{it:Addr}{u:Value}{o:Obj}{n:String}{vs:Array Value}{Q:Unit->Shared->Prop}(ho:s.heap.get? it=some o)(hc:o.cls=.type n)(hd:o.data=.fields vs)(hn:["enumerate","zip","dict_itemiterator","dict_reverseitemiterator","odict_iterator","itertools.zip_longest","itertools.pairwise"].contains n=false)(hQ:Q () s):wpAny M A (letOwnedTupleGo tg (.ref it) u) Q E s:=by
 unfold letOwnedTupleGo
 cases tg<;>first
  |exact wpAny_pure hQ
  |(cases u<;>first
   |exact wpAny_pure hQ
   |(
    refine wpAny_bind (wpAny_load ho ?_)
    rw[hc,hd]
    show wpAny M A (if(["enumerate","zip","dict_itemiterator","dict_reverseitemiterator","odict_iterator","itertools.zip_longest","itertools.pairwise"].contains n&&vs[0]?==some (rawInt _))=true then _ else _) Q E s
    rw[if_neg (by intro h;rw[hn,Bool.false_and]at h;cases h)]
    exact wpAny_pure hQ))
noncomputable def Itl(K:Frag)(a:Addr):It:=
 ⟨λi H=>∃xs x,SqL K H a xs/\xs[i]?=some x,λi H x H'=>H'=H/\∀xs,SqL K H a xs->xs[i]?=some x,λi H=>∃xs,SqL K H a xs/\xs.length<=i⟩
noncomputable def Itt(K:Frag)(a:Addr):It:=
 ⟨λi H=>∃xs x,SqT K H a xs/\xs[i]?=some x,λi H x H'=>H'=H/\∀xs,SqT K H a xs->xs[i]?=some x,λi H=>∃xs,SqT K H a xs/\xs.length<=i⟩
noncomputable def Itr(lo:Int)(n:Nat):It:=⟨λi _=>i<n,λi H x H'=>H'=H/\x=.int (lo+i),λi _=>n<=i⟩
theorem Zeu{P:Program}{w:World}{K:Frag}{tg:Expr}(a it:Addr):Turn P w K tg (Itl K a) [it] it (λi h=>h.IsListIter it a i) where
 mem:=by simp
 obj:=λi h st b hb=>by
  have e:b=it:=by simpa using hb
  subst e
  obtain⟨o,e,c,d⟩:=st
  exact⟨o,e,λv z=>by rw[d]at z;cases z⟩
 keep:=λi h h' st k=>st.at λo e=>k it (by simp) o e
 item:=by
  intro X hP hw hK hc i pins s σ H E I hf st hg
  subst hP hw hK
  obtain⟨xs,x,hq,hx⟩:=hg
  obtain⟨its,rv,p,hz⟩:=I.list hq
  obtain⟨u,hu,ru⟩:=rv.get hx
  obtain⟨f0,f1,f2,f3,f4,f5⟩:=hf it (by simp)
  refine wpAny_pyNext_list_item st p.isList (x:=u) (by simpa using hu) λh' st' sb=>?_
  have I1:Inv X pins σ H { s with heap:=h' }:=I.turned (t':=s.toks) (λb o hb e=>(sb.2 b hb).trans e) f0 f1 f3 f4 f5
  obtain⟨o,e,c,d⟩:=id st'
  exact⟨u,rfl,Zho (s:={ s with heap:=h' }) e c d (by decide) ⟨x,H,I1,ru,⟨rfl,λys hy=>by rw[I.list_inj hy hq];exact hx⟩,st',λb hb=>(hf b hb).1⟩⟩
 done:=by
  intro X hP hw hK hc i pins s σ H E I hf st hg
  subst hP hw hK
  obtain⟨xs,hq,hx⟩:=hg
  obtain⟨its,rv,p,hz⟩:=I.list hq
  obtain⟨f0,f1,f2,f3,f4,f5⟩:=hf it (by simp)
  have hl:=rv.length
  exact wpAny_pyNext_list_end (I.ok.hd hc) st p.isList (by simp;omega) λh' eb=>⟨rfl,I.turned (t':=s.toks) (λb o hb e=>eb b o hb e) f0 f1 f3 f4 f5⟩
 self:=λ_ _ _ _ _ st h=>wpAny_pyIter_listiter st h
theorem Zdt{P:Program}{w:World}{K:Frag}{tg:Expr}(a it:Addr):Turn P w K tg (Itt K a) [it] it (λi h=>h.IsTupleIter it a i) where
 mem:=by simp
 obj:=λi h st b hb=>by
  have e:b=it:=by simpa using hb
  subst e
  obtain⟨o,e,c,d⟩:=st
  exact⟨o,e,λv z=>by rw[d]at z;cases z⟩
 keep:=λi h h' st k=>st.at λo e=>k it (by simp) o e
 item:=by
  intro X hP hw hK hc i pins s σ H E I hf st hg
  subst hP hw hK
  obtain⟨xs,x,hq,hx⟩:=hg
  obtain⟨its,rv,p,hz⟩:=I.tuple hq
  obtain⟨u,hu,ru⟩:=rv.get hx
  obtain⟨f0,f1,f2,f3,f4,f5⟩:=hf it (by simp)
  refine wpAny_pyNext_tuple_item st (show s.heap.IsTuple a its.toArray from p) (x:=u) (by simpa using hu) λh' st' sb=>?_
  have I1:Inv X pins σ H { s with heap:=h' }:=I.turned (t':=s.toks) (λb o hb e=>(sb.2 b hb).trans e) f0 f1 f3 f4 f5
  obtain⟨o,e,c,d⟩:=id st'
  exact⟨u,rfl,Zho (s:={ s with heap:=h' }) e c d (by decide) ⟨x,H,I1,ru,⟨rfl,λys hy=>by rw[I.tuple_inj hy hq];exact hx⟩,st',λb hb=>(hf b hb).1⟩⟩
 done:=by
  intro X hP hw hK hc i pins s σ H E I hf st hg
  subst hP hw hK
  obtain⟨xs,hq,hx⟩:=hg
  obtain⟨its,rv,p,hz⟩:=I.tuple hq
  obtain⟨f0,f1,f2,f3,f4,f5⟩:=hf it (by simp)
  have hl:=rv.length
  exact wpAny_pyNext_tuple_end (I.ok.hd hc) st (show s.heap.IsTuple a its.toArray from p) (by simp;omega) λh' eb=>⟨rfl,I.turned (t':=s.toks) (λb o hb e=>eb b o hb e) f0 f1 f3 f4 f5⟩
 self:=λ_ _ _ _ _ st h=>wpAny_pyIter_tupleiter st h
theorem Zdu{P:Program}{w:World}{K:Frag}{tg:Expr}(it:Addr)(lo:Int)(n:Nat):Turn P w K tg (Itr lo n) [it] it (λi h=>IsRangeIter h it (lo+(i:Nat)*1) ((n:Int)-(i:Nat)) 1) where
 mem:=by simp
 obj:=λi h st b hb=>by
  have e:b=it:=by simpa using hb
  subst e
  exact⟨_,st,λv z=>by
   have z':Data.fields _=Data.cell v:=z
   cases z'⟩
 keep:=λi h h' st k=>k it (by simp) _ st
 item:=by
  intro X hP hw hK hc i pins s σ H E I hf st hg
  subst hP hw hK
  obtain⟨f0,f1,f2,f3,f4,f5⟩:=hf it (by simp)
  have W:=Walks.range (prog:=X.prog) (w:=X.w) (I.ok.hd hc) it lo 1 n
  refine W.item i s _ _ hg st λv h' tk hv st' kk=>?_
  obtain⟨t,rfl⟩:=hv
  have I1:Inv X pins σ H { s with heap:=h',toks:=tk }:=I.turned (λb o hb e=>kk b o (by simpa using hb) e) f0 f1 f3 f4 f5
  refine⟨_,rfl,Zho (s:={ s with heap:=h',toks:=tk }) (n:="range_iterator") st' rfl rfl (by decide) ⟨.int (lo+i),H,I1,⟨t,?_⟩,⟨rfl,rfl⟩,st',λb hb=>(hf b hb).1⟩⟩
  rw[Int.mul_one]
 done:=by
  intro X hP hw hK hc i pins s σ H E I hf st hg
  subst hP hw hK
  obtain⟨f0,f1,f2,f3,f4,f5⟩:=hf it (by simp)
  exact wpAny_pyNext_range_end (I.ok.hd hc) st (by have:n<=i:=hg;omega) λh' eb=>⟨rfl,I.turned (t':=s.toks) (λb o hb e=>eb b o hb e) f0 f1 f3 f4 f5⟩
 self:=λ_ _ _ _ _ st h=>wpAny_pyIter_rangeiter st h
section
variable{X:Cx}{tg:Expr}
theorem ZgE{pins:List (Addr×Obj)}{σ:St}{H:Hp}{s:Shared}{R:It->Hp->Prop}{E:Value->Shared->Prop}{lo hi:Int}{t u v:Tok}{tk:Nat}(I:Inv X pins σ H s)(h1:-(2^62)<=lo)(h2:lo<2^62)(h3:-(2^62)<=hi)(h4:hi<2^62)(q:R (Itr lo (hi-lo).toNat) H):wpAny (model X.prog X.w) X.A (pyIter (.ref s.heap.objs.size)) (PIE X pins σ tg R) E { s with heap:=s.heap.push { cls:=.type "range",data:=.fields #[.int lo t,.int hi u,.int 1 v] },toks:=tk }:=by
 refine wpAny_pyIter_range (IsRange.new ..) (small_one h1 h2 h3 h4) ?_
 have I1:Inv X pins σ H { s with heap:=s.heap.push { cls:=.type "range",data:=.fields #[.int lo t,.int hi u,.int 1 v] },toks:=tk }:=I.kept λb o e=>Heap.get?_push_of_some _ e
 refine⟨(s.heap.push { cls:=.type "range",data:=.fields #[.int lo t,.int hi u,.int 1 v] }).objs.size,[(s.heap.push { cls:=.type "range",data:=.fields #[.int lo t,.int hi u,.int 1 v] }).objs.size],_,_,H,rfl,
  I1.kept (t':=tk) λb o e=>Heap.get?_push_of_some _ e,Zdu _ lo (hi-lo).toNat,?_,λb hb=>?_,q⟩
 ·have e1:lo+((0:Nat):Int)*1=lo:=by simp
  have e2:(((hi-lo).toNat:Nat):Int)-((0:Nat):Int)=Builtin.Range.rangeSize lo hi 1:=by rw[rangeSize_one];split<;>omega
  show IsRangeIter _ _ (lo+((0:Nat):Int)*1) ((((hi-lo).toNat:Nat):Int)-((0:Nat):Int)) 1
  rw[e1,e2]
  exact Heap.get?_push_size _ rfl
 ·have e:b=(s.heap.push { cls:=.type "range",data:=.fields #[.int lo t,.int hi u,.int 1 v] }).objs.size:=by simpa using hb
  subst e
  exact I1.fpOk (Nat.le_refl _) (I1.hok.fresh (Nat.le_refl _))
noncomputable def iRng1(ta:TA):TI:=λσ H R=>ta σ H λvs H1=>∃j:Int,vs=[.int j]/\-(2^62)<=j/\j<2^62/\R (Itr 0 j.toNat) H1
theorem ZeY{a:Expr}{ta:TA}{p pos:Pos}(hg:Gl X "range")(hm:X.mg "range" = none)(ha:PA X [a] ta)(hs:starEach [a] X.env=[(false,eval a X.env)]:=by rfl):PI X tg (.Call (.Name "range" p) [a] [] pos) (iRng1 ta):=by
 intro pins s σ H R I h
 refine Call_ (ZbS I hg hm boot_range (PyProof.Rows.callWith_type1 (thn (ha pos pins s σ H _ I h) λus s1 ⟨vs,H1,I1,r1,q1⟩=>?_) hs rfl))
 obtain⟨j,e,q1,q2,q⟩:=q1
 subst e
 cases r1 with
 |cons r rr =>
  cases rr
  obtain⟨t,rfl⟩:=r
  exact call_range_1 (ZgE I1 (by omega) (by omega) q1 q2 (by simpa using q))
noncomputable def tFor(wi:TI)(g:TG)(tb:TS):TS:=λD σ H=>wi σ H λJ H1=>∃W:Nat->Nat->St->Hp->Prop,(∃m,W 0 m σ H1)/\∀i m σ H,W i m σ H ->
 (J.stop i H/\D.nx σ H)∨(J.go i H/\∃N:St->Hp->Prop,(∀σ' H',N σ' H'->∃m',m'<m/\W (i+1) m' σ' H')/\∀x H',J.yld i H x H'->g x σ H' λσ2 H2=>tb { D with nx:=N,ct:=N,bk:=D.nx } σ2 H2)
noncomputable def Jr(fp:List Addr)(h:Heap):List (Addr×Obj):=fp.filterMap λb=>(h.get? b).map λo=>(b,o)
theorem ZR{fp:List Addr}{h:Heap}{b:Addr}{o:Obj}(hb:b∈fp)(e:h.get? b=some o):(b,o)∈Jr fp h:=List.mem_filterMap.mpr ⟨b,hb,by rw[e];rfl⟩
theorem ZbN{fp:List Addr}{h:Heap}{p:Addr×Obj}(hp:p∈Jr fp h):p.1∈fp/\h.get? p.1=some p.2:=by
 obtain⟨b,hb,e⟩:=List.mem_filterMap.mp hp
 cases q:h.get? b with
 |none=>rw[q]at e;cases e
 |some o =>
  rw[q]at e
  have e':(b,o)=p:=Option.some.inj e
  subst e'
  exact⟨hb,q⟩
theorem Inv.pinned{pins:List (Addr×Obj)}{σ:St}{H:Hp}{s:Shared}{fp:List Addr}(I:Inv X pins σ H s)(hf:∀b∈fp,FpOk X pins H b)(ho:∀b∈fp,∃o,s.heap.get? b=some o/\∀v,o.data≠.cell v):Inv X (pins++Jr fp s.heap) σ H s:=
 I.pins_of λp hp=>(List.mem_append.mp hp).elim (λz=>I.pin p (List.mem_append_right _ z)) λz=>by
  obtain⟨hb,e⟩:=ZbN z
  obtain⟨f0,f1,f2,_⟩:=hf p.1 hb
  obtain⟨o,e',d⟩:=ho p.1 hb
  rw[e]at e';cases e'
  exact⟨e,f0,f1,f2,d⟩
theorem Inv.unpinned{pins pl:List (Addr×Obj)}{σ:St}{H:Hp}{s:Shared}(I:Inv X (pins++pl) σ H s):Inv X pins σ H s:=I.pins_of λp hp=>I.pin p (List.mem_append_right _ (List.mem_append_left _ hp))
theorem ps_for{iter:Expr}{body:List Stmt}{wi:TI}{g:TG}{tb:TS}{pos:Pos}(hp:PassesOwn (model X.prog X.w) X.A X.env X.xe)(hc:X.calm=true)(hi:PI X tg iter wi)(hg:PG X tg g)(hb:PSs X body tb)(hs:∀x,foldedSetIterable iter X.env x=pure x:=by intro _;rfl):PS X (.For tg iter body [] pos) (tFor wi g tb):=by
 intro pins s σ H D I h
 refine wpAny_For (thn (hi pins s σ H _ I h) λv s1 h1=>thn h1 λitv s2 h2=>?_) hs
 obtain⟨it,fp,tn,J,H2,e,I2,T,st2,f2,W,⟨m0,w0⟩,turn⟩:=h2
 subst e
 -- what stays true of the iterator's objects through the loop
 have stat:∀{H':Hp},(∀b∈fp,H' b=none)->∀b∈fp,FpOk X pins H' b:=λhn b hb=>⟨hn b hb,(f2 b hb).2⟩
 refine codeAny_forLoop_any (λn s'=>∃i σ' H',Inv X pins σ' H' s'/\tn i s'.heap/\(∀b∈fp,H' b=none)/\W i n σ' H') ?_ m0 ⟨0,σ,H2,I2,st2,λb hb=>(f2 b hb).1,w0⟩
 rintro n s3 ⟨i,σ3,H3,I3,st3,fr3,w3⟩
 rcases turn i n σ3 H3 w3 with⟨stop,qn⟩|⟨go,N,hN,step⟩
 ·refine wpAny_passesOwn hp (thn (T.done X rfl rfl rfl hc i pins s3 σ3 H3 X.xe I3 (stat fr3) st3 stop) λr s4 ⟨hr,I4⟩=>?_)
  subst hr
  exact wpAny_execs_nil ⟨σ3,H3,I4,qn⟩
 ·refine wpAny_passesOwn hp (thn (T.item X rfl rfl rfl hc i pins s3 σ3 H3 X.xe I3 (stat fr3) st3 go) λr s4 ⟨u,hr,h4⟩=>?_)
  subst hr
  refine wpAny_passesOwn hp (thn h4 λ_ s5 ⟨x,H5,I5,r5,y5,st5,fr5⟩=>?_)
  have I5':=I5.pinned (stat fr5) (T.obj _ _ st5)
  refine wpAny_passesOwn hp (thn (hg _ s5 σ3 H5 x u _ I5' r5 (step x H5 y5)) λ_ s6 ⟨σ6,H6,I6,q6⟩=>?_)
  refine wpAny_passesOwn hp (thn (hb _ s6 σ6 H6 _ I6 q6) λf s7 q7=>?_)
  have again:∀{σ7:St}{H7:Hp},Inv X (pins++Jr fp s5.heap) σ7 H7 s7->N σ7 H7->∃m,m<n/\∃i σ' H',Inv X pins σ' H' s7/\tn i s7.heap/\(∀b∈fp,H' b=none)/\W i m σ' H':=λ{σ7 H7} I7 n7=>by
   obtain⟨m',hm,w7⟩:=hN σ7 H7 n7
   refine⟨m',hm,i+1,σ7,H7,I7.unpinned,T.keep _ _ _ st5 λb hb o e=>(I7.pin (b,o) (List.mem_append_right _ (List.mem_append_right _ (ZR hb e)))).1,λb hb=>?_,w7⟩
   obtain⟨o,e,d⟩:=T.obj _ _ st5 b hb
   exact(I7.pin (b,o) (List.mem_append_right _ (List.mem_append_right _ (ZR hb e)))).2.1
  cases f with
  |next=>obtain⟨σ7,H7,I7,n7⟩:=q7;exact again I7 n7
  |cont=>obtain⟨σ7,H7,I7,n7⟩:=q7;exact again I7 n7
  |brk=>obtain⟨σ7,H7,I7,q7⟩:=q7;exact⟨σ7,H7,I7.unpinned,q7⟩
  |ret v=>obtain⟨x7,σ7,H7,I7,r7,q7⟩:=q7;exact⟨x7,σ7,H7,I7.unpinned,r7,q7⟩
end
noncomputable abbrev R2:=V->V->Hp->VK->Prop
noncomputable def OpR(X:Cx)(f:Value->Value->Sem Value)(r:R2):Prop:=
 ∀(pins:List (Addr×Obj)) (s:Shared) (σ:St) (H:Hp) (x y:V) (v u:Value) (Q:VK),Inv X pins σ H s->RelV x v->RelV y u->r x y H Q ->
  wpAny (model X.prog X.w) X.A (f v u) (EP X pins σ Q) X.xe s
noncomputable def UnR(X:Cx)(f:Value->Sem Value)(r:V->Hp->VK->Prop):Prop:=
 ∀(pins:List (Addr×Obj)) (s:Shared) (σ:St) (H:Hp) (x:V) (v:Value) (Q:VK),Inv X pins σ H s->RelV x v->r x H Q ->
  wpAny (model X.prog X.w) X.A (f v) (EP X pins σ Q) X.xe s
noncomputable def Jy(X:Cx)(f:Value)(r:List V->Hp->VK->Prop):Prop:=
 ∀(pins:List (Addr×Obj)) (s:Shared) (σ:St) (H:Hp) (xs:List V) (us:List Value) (Q:VK),Inv X pins σ H s->Vals xs us->r xs H Q ->
  wpAny (model X.prog X.w) X.A (call f us) (EP X pins σ Q) X.xe s
noncomputable def TruR(X:Cx)(r:V->Hp->(Bool->Hp->Prop)->Prop):Prop:=
 ∀(pins:List (Addr×Obj)) (s:Shared) (σ:St) (H:Hp) (x:V) (v:Value) (Q:Bool->Hp->Prop),Inv X pins σ H s->RelV x v->r x H Q ->
  wpAny (model X.prog X.w) X.A (truthy v) (TP X pins σ Q) X.xe s
noncomputable def tOp(r:R2)(ta tb:TE):TE:=λσ H Q=>ta σ H λx H1=>tb σ H1 λy H2=>r x y H2 Q
noncomputable def tUn(r:V->Hp->VK->Prop)(ta:TE):TE:=λσ H Q=>ta σ H λx H1=>r x H1 Q
noncomputable def rI(C:Int->Int->Prop)(g:Int->Int->V):R2:=λx y H Q=>∃i j,x=.int i/\y=.int j/\C i j/\Q (g i j) H
noncomputable def rI0(g:Int->Int->V):R2:=λx y H Q=>∃i j,x=.int i/\y=.int j/\Q (g i j) H
noncomputable def rU(g:Int->V):V->Hp->VK->Prop:=λx H Q=>∃i,x=.int i/\Q (g i) H
section
variable{X:Cx}{a b c:Expr}{ta tb tc:TE}{pos:Pos}
theorem binT(ha:PE X a ta)(hb:PE X b tb){pins:List (Addr×Obj)}{s:Shared}{σ:St}{H:Hp}{R:V->V->Hp->Prop}(I:Inv X pins σ H s)(h:ta σ H λx H1=>tb σ H1 λy H2=>R x y H2){Q:Value->Shared->Prop}{f:Value->Value->Sem Value}(hf:∀v u s2 x y H2,Inv X pins σ H2 s2->RelV x v->RelV y u->R x y H2->wpAny (model X.prog X.w) X.A (f v u) Q X.xe s2):
  wpAny (model X.prog X.w) X.A (eval a X.env) (λv s₁=>wpAny (model X.prog X.w) X.A (eval b X.env) (λu s₂=>wpAny (model X.prog X.w) X.A (f v u) Q X.xe s₂) X.xe s₁) X.xe s:=by
 refine thn (ha pins s σ H _ I h) λv s1 ⟨x,H1,I1,r1,q1⟩=>?_
 refine thn (hb pins s1 σ H1 _ I1 q1) λu s2 ⟨y,H2,I2,r2,q2⟩=>?_
 exact hf v u s2 x y H2 I2 r1 r2 q2
theorem pe_op{op:Operator}{r:R2}(ho:OpR X (binaryOp op) r)(ha:PE X a ta)(hb:PE X b tb):PE X (.BinOp a op b pos) (tOp r ta tb):=by
 intro pins s σ H Q I h
 exact wpAny_BinOp (binT ha hb I h λv u s2 x y H2 I2 rx ry q=>ho pins s2 σ H2 x y v u Q I2 rx ry q)
theorem pe_un{op:UnaryOp}{r:V->Hp->VK->Prop}(ho:UnR X (unaryOp op) r)(ha:PE X a ta):PE X (.UnaryOp op a pos) (tUn r ta):=by
 intro pins s σ H Q I h
 exact UnaryOp_ (thn (ha pins s σ H _ I h) λv s1 ⟨x,H1,I1,r1,q1⟩=>ho pins s1 σ H1 x v Q I1 r1 q1)
theorem opI{f:Value->Value->Sem Value}{C:Int->Int->Prop}{g:Int->Int->Int}(rule:∀(i j:Int) (t u:Tok) (s:Shared) (Q:Value->Shared->Prop) (E:Value->Shared->Prop),C i j->Q (.int (g i j) s.toks) { s with toks:=s.toks+1 }->wpAny (model X.prog X.w) X.A (f (.int i t) (.int j u)) Q E s):
  OpR X f (rI C λi j=>.int (g i j)):=by
 intro pins s σ H x y v u Q I rx ry h
 obtain⟨i,j,rfl,rfl,hc,q⟩:=h
 obtain⟨t,rfl⟩:=rx
 obtain⟨t',rfl⟩:=ry
 exact rule i j t t' s _ _ hc ⟨.int (g i j),H,I.tok _,⟨_,rfl⟩,q⟩
theorem opI0{f:Value->Value->Sem Value}{g:Int->Int->Int}(rule:∀(i j:Int) (t u:Tok) (s:Shared) (Q:Value->Shared->Prop) (E:Value->Shared->Prop),Q (.int (g i j) s.toks) { s with toks:=s.toks+1 }->wpAny (model X.prog X.w) X.A (f (.int i t) (.int j u)) Q E s):
  OpR X f (rI0 λi j=>.int (g i j)):=by
 intro pins s σ H x y v u Q I rx ry h
 obtain⟨i,j,rfl,rfl,q⟩:=h
 obtain⟨t,rfl⟩:=rx
 obtain⟨t',rfl⟩:=ry
 exact rule i j t t' s _ _ ⟨.int (g i j),H,I.tok _,⟨_,rfl⟩,q⟩
theorem opB0{f:Value->Value->Sem Value}{g:Int->Int->Bool}(rule:∀(i j:Int) (t u:Tok) (s:Shared) (Q:Value->Shared->Prop) (E:Value->Shared->Prop),Q (.bool (g i j)) s->wpAny (model X.prog X.w) X.A (f (.int i t) (.int j u)) Q E s):
  OpR X f (rI0 λi j=>.bl (g i j)):=by
 intro pins s σ H x y v u Q I rx ry h
 obtain⟨i,j,rfl,rfl,q⟩:=h
 obtain⟨t,rfl⟩:=rx
 obtain⟨t',rfl⟩:=ry
 exact rule i j t t' s _ _ ⟨.bl (g i j),H,I,rfl,q⟩
noncomputable def CDiv(i j:Int):Prop:=0<j/\j<1073741824
noncomputable def CPow(i j:Int):Prop:=0<=j/\j<=1000000/\i.natAbs<2^64
noncomputable def CMul(i j:Int):Prop:=(-(2^64)<i/\i<2^64)∨(-(2^64)<j/\j<2^64)
theorem CMul.ok{i j:Int}(h:CMul i j):IntMulOk i j:=by
 rcases h with⟨h1,h2⟩|⟨h1,h2⟩
 ·exact .of_left (intBits_le_64 h1 h2)
 ·exact .of_right (intBits_le_64 h1 h2)
theorem op_add:OpR X (binaryOp .Add) (rI0 λi j=>.int (i+j)):=opI0 λ_ _ _ _ _ _ _ q=>add_int q
theorem op_sub:OpR X (binaryOp .Sub) (rI0 λi j=>.int (i-j)):=opI0 λ_ _ _ _ _ _ _ q=>sub_int q
theorem Zjf:OpR X (binaryOp .FloorDiv) (rI CDiv λi j=>.int (i / j)):=opI λi j _ _ _ _ _ hc q=>by
 have h1:(0:Int)<j:=hc.1
 have h2:j<1073741824:=hc.2
 exact floordiv_int (by omega) (by rw[Int.fdiv_eq_ediv_of_nonneg i (by omega)];exact q) (.inl (PyProof.noPylong_small (by omega)))
theorem op_mod:OpR X (binaryOp .Mod) (rI (λ_ j=>0<j) λi j=>.int (i%j)):=opI λi j _ _ _ _ _ hc q=>by
 have h1:(0:Int)<j:=hc
 exact mod_int' (by omega) (by rw[Int.fmod_eq_emod_of_nonneg i (by omega)];exact q)
theorem op_pow:OpR X (binaryOp .Pow) (rI CPow λi j=>.int (i^j.toNat)):=opI λ_ _ _ _ _ _ _ hc q=>pow_int_small hc.1 hc.2.1 hc.2.2 q
theorem unI{f:Value->Sem Value}{g:Int->Int}(rule:∀(i:Int) (t:Tok) (s:Shared) (Q:Value->Shared->Prop) (E:Value->Shared->Prop),Q (.int (g i) s.toks) { s with toks:=s.toks+1 }->wpAny (model X.prog X.w) X.A (f (.int i t)) Q E s):
  UnR X f (rU λi=>.int (g i)):=by
 intro pins s σ H x v Q I rx h
 obtain⟨i,rfl,q⟩:=h
 obtain⟨t,rfl⟩:=rx
 exact rule i t s _ _ ⟨.int (g i),H,I.tok _,⟨_,rfl⟩,q⟩
theorem un_neg:UnR X (unaryOp .USub) (rU λi=>.int (-i)):=unI λ_ _ _ _ _ q=>neg_int q
end
noncomputable def scal:V->V->Bool
 |.non,.non=>true|.non,.int _=>true|.int _,.non=>true|.non,.bl _=>true|.bl _,.non=>true|.non,.str _=>true|.str _,.non=>true
 |.int _,.int _=>true|.bl _,.bl _=>true|.str _,.str _=>true|.byt _,.byt _=>true
 |.int _,.str _=>true|.str _,.int _=>true|.bl _,.str _=>true|.str _,.bl _=>true
 |_,_=>false
noncomputable def rEq:R2:=λx y H Q=>scal x y=true/\Q (.bl (decide (x=y))) H
noncomputable def rNe:R2:=λx y H Q=>scal x y=true/\Q (.bl (!decide (x=y))) H
theorem ZcB{i j:Int}:decide (V.int i=V.int j)=(i==j):=by
 rw[Bool.eq_iff_iff]
 simp
theorem ZfW{i j:Bool}:decide (V.bl i=V.bl j)=(i==j):=by
 rw[Bool.eq_iff_iff]
 simp
theorem ZfU{i j:Str}:decide (V.str i=V.str j)=(i==j):=by
 rw[Bool.eq_iff_iff]
 simp
theorem ZfV{i j:Array UInt8}:decide (V.byt i=V.byt j)=(i.toList==j.toList):=by
 rw[Bool.eq_iff_iff]
 cases i
 cases j
 simp
section
variable{X:Cx}{a b c:Expr}{ta tb tc:TE}{pos:Pos}
theorem Zx{pins:List (Addr×Obj)}{σ:St}{H:Hp}{s:Shared}{Q:VK}{k k':Bool}(I:Inv X pins σ H s)(q:Q (.bl k) H)(e:k=k'):EP X pins σ Q (.bool k') s:=by
 subst e
 exact⟨.bl k,H,I,rfl,q⟩
theorem op_eq:OpR X (compareOp .Eq) rEq:=by
 intro pins s σ H x y v u Q I rx ry h
 obtain⟨hs,q⟩:=h
 cases x with
 |non =>
  cases rx
  cases y with
  |non=>cases ry;exact PySem.EqNone.eq_none_none (Zx I q (by simp))
  |bl j=>cases ry;exact PySem.EqNone.eq_none_bool (Zx I q (by simp))
  |int j=>obtain⟨t',rfl⟩:=ry;exact PySem.EqNone.eq_none_int (Zx I q (by simp))
  |str j=>obtain⟨t',rfl⟩:=ry;exact PySem.EqNone.eq_none_str (Zx I q (by simp))
  |_=>exact absurd (show false=true from hs) Bool.false_ne_true
 |bl i =>
  cases rx
  cases y with
  |non=>cases ry;exact PySem.EqNone.eq_bool_none (Zx I q (by simp))
  |bl j=>cases ry;exact eq_bool (Zx I q ZfW)
  |str j=>obtain⟨t',rfl⟩:=ry;exact PySem.EqMixed.eq_bool_str (Zx I q (by simp))
  |_=>exact absurd (show false=true from hs) Bool.false_ne_true
 |int i =>
  obtain⟨t,rfl⟩:=rx
  cases y with
  |non=>cases ry;exact PySem.EqNone.eq_int_none (Zx I q (by simp))
  |int j=>obtain⟨t',rfl⟩:=ry;exact eq_int (Zx I q ZcB)
  |str j=>obtain⟨t',rfl⟩:=ry;exact PySem.EqMixed.eq_int_str (Zx I q (by simp))
  |_=>exact absurd (show false=true from hs) Bool.false_ne_true
 |str i =>
  obtain⟨t,rfl⟩:=rx
  cases y with
  |non=>cases ry;exact PySem.EqNone.eq_str_none (Zx I q (by simp))
  |bl j=>cases ry;exact PySem.EqMixed.eq_str_bool (Zx I q (by simp))
  |int j=>obtain⟨t',rfl⟩:=ry;exact PySem.EqMixed.eq_str_int (Zx I q (by simp))
  |str j=>obtain⟨t',rfl⟩:=ry;exact eq_str (Zx I q ZfU)
  |_=>exact absurd (show false=true from hs) Bool.false_ne_true
 |byt i =>
  obtain⟨t,rfl⟩:=rx
  cases y with
  |byt j=>obtain⟨t',rfl⟩:=ry;exact PySem.W.eq_bytes (Zx I q ZfV)
  |_=>exact absurd (show false=true from hs) Bool.false_ne_true
 |_=>cases y<;>exact absurd (show false=true from hs) Bool.false_ne_true
theorem op_ne:OpR X (compareOp .NotEq) rNe:=by
 intro pins s σ H x y v u Q I rx ry h
 obtain⟨hs,q⟩:=h
 cases x with
 |non =>
  cases rx
  cases y with
  |non=>cases ry;exact PySem.EqNone.ne_none_none (Zx I q (by simp))
  |bl j=>cases ry;exact PySem.EqNone.ne_none_bool (Zx I q (by simp))
  |int j=>obtain⟨t',rfl⟩:=ry;exact PySem.EqNone.ne_none_int (Zx I q (by simp))
  |str j=>obtain⟨t',rfl⟩:=ry;exact PySem.EqNone.ne_none_str (Zx I q (by simp))
  |_=>exact absurd (show false=true from hs) Bool.false_ne_true
 |bl i =>
  cases rx
  cases y with
  |non=>cases ry;exact PySem.EqNone.ne_bool_none (Zx I q (by simp))
  |bl j=>cases ry;exact ne_bool (Zx I q (congrArg not ZfW))
  |str j=>obtain⟨t',rfl⟩:=ry;exact PySem.EqMixed.ne_bool_str (Zx I q (by simp))
  |_=>exact absurd (show false=true from hs) Bool.false_ne_true
 |int i =>
  obtain⟨t,rfl⟩:=rx
  cases y with
  |non=>cases ry;exact PySem.EqNone.ne_int_none (Zx I q (by simp))
  |int j=>obtain⟨t',rfl⟩:=ry;exact ne_int (Zx I q (congrArg not ZcB))
  |str j=>obtain⟨t',rfl⟩:=ry;exact PySem.EqMixed.ne_int_str (Zx I q (by simp))
  |_=>exact absurd (show false=true from hs) Bool.false_ne_true
 |str i =>
  obtain⟨t,rfl⟩:=rx
  cases y with
  |non=>cases ry;exact PySem.EqNone.ne_str_none (Zx I q (by simp))
  |bl j=>cases ry;exact PySem.EqMixed.ne_str_bool (Zx I q (by simp))
  |int j=>obtain⟨t',rfl⟩:=ry;exact PySem.EqMixed.ne_str_int (Zx I q (by simp))
  |str j=>obtain⟨t',rfl⟩:=ry;exact ne_str (Zx I q (congrArg not ZfU))
  |_=>exact absurd (show false=true from hs) Bool.false_ne_true
 |byt i =>
  obtain⟨t,rfl⟩:=rx
  cases y with
  |byt j=>obtain⟨t',rfl⟩:=ry;exact PySem.W.ne_bytes (Zx I q (congrArg not ZfV))
  |_=>exact absurd (show false=true from hs) Bool.false_ne_true
 |_=>cases y<;>exact absurd (show false=true from hs) Bool.false_ne_true
theorem op_lt:OpR X (compareOp .Lt) (rI0 λi j=>.bl (decide (i<j))):=opB0 λ_ _ _ _ _ _ _ q=>lt_int q
theorem op_le:OpR X (compareOp .LtE) (rI0 λi j=>.bl (decide (i<=j))):=opB0 λ_ _ _ _ _ _ _ q=>le_int q
theorem op_gt:OpR X (compareOp .Gt) (rI0 λi j=>.bl (decide (j<i))):=opB0 λ_ _ _ _ _ _ _ q=>gt_int q
theorem op_ge:OpR X (compareOp .GtE) (rI0 λi j=>.bl (decide (j<=i))):=opB0 λ_ _ _ _ _ _ _ q=>ge_int q
theorem Ze7:OpR X (compareOp .Lt) (λx y H Q=>∃i j,x=.str i/\y=.str j/\Q (.bl (decide (i.cps.toList<j.cps.toList))) H):=by
 intro pins s σ H x y v u Q I rx ry h
 obtain⟨i,j,rfl,rfl,q⟩:=h
 obtain⟨t,rfl⟩:=rx
 obtain⟨t',rfl⟩:=ry
 exact lt_str (Zx I q rfl)
theorem Ze8:OpR X (compareOp .In) (λx y H Q=>∃i j,x=.str i/\y=.str j/\Q (.bl (!(Builtin.Str.occurrences j i 0 j.length 1).isEmpty)) H):=by
 intro pins s σ H x y v u Q I rx ry h
 obtain⟨i,j,rfl,rfl,q⟩:=h
 obtain⟨t,rfl⟩:=rx
 obtain⟨t',rfl⟩:=ry
 exact in_str (Zx I q rfl)
theorem op_isN:OpR X (compareOp .Is) (λx y H Q=>y=.non/\Q (.bl (decide (x=.non))) H):=by
 intro pins s σ H x y v u Q I rx ry h
 obtain⟨rfl,q⟩:=h
 cases ry
 refine is_none_gen (Zx I q ?_)
 cases x<;>first
  |(cases rx;rfl)
  |(obtain⟨t,rfl⟩:=rx;rfl)
theorem Zjc:OpR X (compareOp .IsNot) (λx y H Q=>y=.non/\Q (.bl (!decide (x=.non))) H):=by
 intro pins s σ H x y v u Q I rx ry h
 obtain⟨rfl,q⟩:=h
 cases ry
 refine isnot_none_gen (Zx I q ?_)
 cases x<;>first
  |(cases rx;rfl)
  |(obtain⟨t,rfl⟩:=rx;rfl)
theorem ZbJ:OpR X (compareOp .NotIn) (λx y H Q=>∃i j,x=.str i/\y=.str j/\Q (.bl (!(!(Builtin.Str.occurrences j i 0 j.length 1).isEmpty))) H):=by
 intro pins s σ H x y v u Q I rx ry h
 obtain⟨i,j,rfl,rfl,q⟩:=h
 obtain⟨t,rfl⟩:=rx
 obtain⟨t',rfl⟩:=ry
 exact notIn_str (Zx I q rfl)
theorem Zi4{op:CmpOp}{r:R2}(ho:OpR X (compareOp op) r)(ha:PE X a ta)(hb:PE X b tb)(hm:behindInMarks op b=false):PE X (.Compare a [op] [b] pos) (tOp r ta tb):=by
 intro pins s σ H Q I h
 exact wpAny_Compare1 (binT ha hb I h λv u s2 x y H2 I2 rx ry q=>ho pins s2 σ H2 x y v u Q I2 rx ry q) hm
noncomputable def tTest(t:TE):TT:=λσ H Q=>t σ H λx H'=>∃k,x=.bl k/\Q k H'
theorem ZiH{op:CmpOp}{r:R2}(ho:OpR X (compareOp op) r)(ha:PE X a ta)(hb:PE X b tb)(hm:behindInMarks op b=false):PT X (.Compare a [op] [b] pos) (tTest (tOp r ta tb)):=by
 intro pins s σ H Q I h
 refine wpAny_isTrue_Compare1 (thn (ha pins s σ H _ I h) λv s1 ⟨x,H1,I1,r1,q1⟩=>thn (hb pins s1 σ H1 _ I1 q1) λu s2 ⟨y,H2,I2,r2,q2⟩ =>
  thn (ho pins s2 σ H2 x y v u _ I2 r1 r2 q2) λc s3 ⟨z,H3,I3,r3,k,e,q3⟩=>?_) hm
 subst e
 cases r3
 exact wpAny_truthy_bool ⟨H3,I3,q3⟩
noncomputable def TruV(K:Frag)(x:V)(H:Hp)(k:Bool):Prop:=
 match x with
 |.non=>k=false
 |.bl b=>k=b
 |.int i=>k=(i != 0)
 |.str y=>y.length<=sizeLine/\k=((y.length:Int) != 0)
 |.byt y=>y.size<=sizeLine/\k=((y.size:Int) != 0)
 |.ref p=>(∃xs,SqL K H p xs/\k=!xs.isEmpty)∨(∃xs,SqT K H p xs/\k=!xs.isEmpty)∨∃kvs,H p=some (.dK kvs)/\k=!kvs.isEmpty
 |_=>False
theorem Zd1{κ:Type}{kvs:List (κ×V)}{vs:List (κ×Value)}(r:KV kvs vs):(!vs.isEmpty)=!kvs.isEmpty:=by
 cases r<;>rfl
theorem ZaR{xs:List V}{its:List Value}(r:Vals xs its):(!its.toArray.isEmpty)=!xs.isEmpty:=by
 cases r<;>simp
theorem ZaQ:(sizeLine:Nat)<2^63:=by rw[sizeLine_eq];decide
theorem tru_ok:TruR X (λx H Q=>∃k,TruV X.K x H k/\Q k H):=by
 intro pins s σ H x v Q I rx h
 obtain⟨k,e,q⟩:=h
 have hl:=ZaQ
 have hs:sizeLine=16777216:=sizeLine_eq
 cases x with
 |non =>
  cases rx
  have e':k=false:=e
  subst e'
  exact truthy_none ⟨H,I,q⟩
 |bl b =>
  cases rx
  have e':k=b:=e
  subst e'
  exact wpAny_truthy_bool ⟨H,I,q⟩
 |int i =>
  obtain⟨t,rfl⟩:=rx
  have e':k=(i != 0):=e
  subst e'
  exact PySem.P.truthy_int ⟨H,I,q⟩
 |str y =>
  obtain⟨t,rfl⟩:=rx
  obtain⟨hy,e'⟩:y.length<=sizeLine/\k=((y.length:Int) != 0):=e
  subst e'
  exact PySem.P.truthy_str (by omega) ⟨H,I.tok _,q⟩
 |byt y =>
  obtain⟨t,rfl⟩:=rx
  obtain⟨hy,e'⟩:y.size<=sizeLine/\k=((y.size:Int) != 0):=e
  subst e'
  exact PySem.W.truthy_bytes (by omega) ⟨H,I.tok _,q⟩
 |ref p =>
  cases rx
  have e':(∃xs,SqL X.K H p xs/\k=!xs.isEmpty)∨(∃xs,SqT X.K H p xs/\k=!xs.isEmpty)∨∃kvs,H p=some (.dK kvs)/\k=!kvs.isEmpty:=e
  rcases e' with⟨xs,hx,e'⟩|⟨xs,hx,e'⟩|⟨kvs,hx,e'⟩
  ·subst e'
   obtain⟨its,r,pl,hz⟩:=I.list hx
   have hlen:=r.length
   exact wpAny_truthy_list pl.isList (by simp only[List.size_toArray];omega) ⟨H,I.tok _,by rw[ZaR r];exact q⟩
  ·subst e'
   obtain⟨its,r,pl,hz⟩:=I.tuple hx
   have hlen:=r.length
   exact truthy_tuple pl (by simp only[List.size_toArray];omega) ⟨H,I.tok _,by rw[ZaR r];exact q⟩
  ·subst e'
   obtain⟨hz,hS,vs,r,m⟩:kvs.length<=sizeLine/\(p==sysModules)=false/\∃vs,KV kvs vs/\s.heap.DictOf (ZX X.prog X.w) p vs:=I.hok p _ hx
   have hlen:kvs.length=vs.length:=Paired.length r
   exact wpAny_truthy_dict hS m (by omega) ⟨H,I.tok _,by rw[Zd1 r];exact q⟩
 |_=>exact(show False from e).elim
theorem ZgG(ha:PE X a ta)(he:∀whole,isTrue a X.env whole=(do let v <-whole;standAt a.pos;holding [v] (truthy v))):
  PT X a (λσ H Q=>ta σ H λx H'=>∃k,TruV X.K x H' k/\Q k H'):=by
 intro pins s σ H Q I h
 exact isTrue_plain (thn (ha pins s σ H _ I h) λv s1 ⟨x,H1,I1,r1,q1⟩=>tru_ok pins s1 σ H1 x v Q I1 r1 q1) (he _)
theorem ZdQ:OpR X (binaryOp .Add) (λx y H Q=>∃i j,x=.str i/\y=.str j/\i.length+j.length<=sizeLine/\Q (.str (i++j)) H):=by
 intro pins s σ H x y v u Q I rx ry h
 obtain⟨i,j,rfl,rfl,hz,q⟩:=h
 obtain⟨t,rfl⟩:=rx
 obtain⟨t',rfl⟩:=ry
 exact add_str (λt' tk=>⟨.str (i++j),H,I.tok _,⟨_,rfl⟩,q⟩) hz
theorem vals1{x:V}{us:List Value}(r:Vals [x] us):∃u,us=[u]/\RelV x u:=by
 cases r with
 |cons r1 r2=>cases r2;exact⟨_,rfl,r1⟩
theorem vals2{x y:V}{us:List Value}(r:Vals [x,y] us):∃u w',us=[u,w']/\RelV x u/\RelV y w':=by
 cases r with
 |cons r1 r2 =>
  cases r2 with
  |cons r3 r4=>cases r4;exact⟨_,_,rfl,r1,r3⟩
theorem Zb2:Jy X (.type "int") (λxs H Q=>(∃i,xs=[.int i]/\Q (.int i) H)∨∃k,xs=[.bl k]/\Q (.int (if k then 1 else 0)) H):=by
 intro pins s σ H xs us Q I r h
 rcases h with⟨i,rfl,q⟩|⟨k,rfl,q⟩
 ·obtain⟨u,rfl,t,rfl⟩:=vals1 r
  exact call_int_int ⟨.int i,H,I,⟨_,rfl⟩,q⟩
 ·obtain⟨u,rfl,r1⟩:=vals1 r
  cases r1
  exact call_int_bool ⟨.int (if k then 1 else 0),H,I.tok _,⟨_,rfl⟩,q⟩
noncomputable def LenV(K:Frag)(x:V)(H:Hp)(n:Nat):Prop:=
 match x with
 |.str y=>y.length<=sizeLine/\n=y.length
 |.byt y=>y.size<=sizeLine/\n=y.size
 |.ref p=>(∃xs,SqL K H p xs/\n=xs.length)∨∃xs,SqT K H p xs/\n=xs.length
 |_=>False
theorem X7:Jy X (.builtin "len") (λxs H Q=>∃x n,xs=[x]/\LenV X.K x H n/\Q (.int n) H):=by
 intro pins s σ H xs us Q I r h
 obtain⟨x,n,rfl,e,q⟩:=h
 obtain⟨u,rfl,rx⟩:=vals1 r
 have hl:=ZaQ
 have hs:sizeLine=16777216:=sizeLine_eq
 cases x with
 |str y =>
  obtain⟨t,rfl⟩:=rx
  obtain⟨hy,e'⟩:y.length<=sizeLine/\n=y.length:=e
  subst e'
  exact len_str (by omega) ⟨.int _,H,I.tok _,⟨_,rfl⟩,q⟩
 |byt y =>
  obtain⟨t,rfl⟩:=rx
  obtain⟨hy,e'⟩:y.size<=sizeLine/\n=y.size:=e
  subst e'
  exact PySem.W.len_bytes (by omega) ⟨.int _,H,I.tok _,⟨_,rfl⟩,q⟩
 |ref p =>
  cases rx
  have e':(∃xs,SqL X.K H p xs/\n=xs.length)∨∃xs,SqT X.K H p xs/\n=xs.length:=e
  rcases e' with⟨xs,hx,e'⟩|⟨xs,hx,e'⟩
  ·subst e'
   obtain⟨its,r',pl,hz⟩:=I.list hx
   have hlen:=r'.length
   exact Calls.call_len_list pl.isList (by simp only[List.size_toArray];omega) ⟨.int xs.length,H,I.tok _,⟨_,by simp only[List.size_toArray];rw[hlen]⟩,q⟩
  ·subst e'
   obtain⟨its,r',pl,hz⟩:=I.tuple hx
   have hlen:=r'.length
   exact len_tuple pl (by simp only[List.size_toArray];omega) ⟨.int xs.length,H,I.tok _,⟨_,by simp only[List.size_toArray];rw[hlen]⟩,q⟩
 |_=>exact(show False from e).elim
end
structure ObjM (h:Heap) (x dx C:Addr) (mA:Str->Option Value):Prop where
 obj:h.get? x=some (instObj C dx)
 ns:h.Ns1 dx mA
 ne:dx≠x
theorem Zft{h:Heap}{dx:Addr}{mA:Str->Option Value}(n:h.Ns1 dx mA):∃od,h.get? dx=some od/\∀name,lookIn name od=some (mA name):=by
 obtain⟨o,es,ep,ho,hd,hk,_,hm⟩:=n
 refine⟨o,ho,λname=>?_⟩
 have e:=hm name
 unfold nsFind findBy at e
 rw[<-Array.find?_toList]at e
 unfold lookIn
 rw[hd]
 dsimp only
 split
 ·rename_i y q
  rw[q]at e
  exact congrArg some e
 ·rename_i q
  rw[q]at e
  have a:es.toList.any (·.refKey)=false:=by
   rw[List.any_eq_false]
   intro y hy
   obtain⟨z,t,hkey⟩:=hk y (Array.mem_toList_iff.mp hy)
   simp[DictEntry.refKey,hkey]
  have a':¬es.toList.any (·.refKey)=true:=by rw[a];exact Bool.false_ne_true
  rw[if_neg a']
  exact congrArg some e
theorem ObjM.look{h:Heap}{x dx C:Addr}{mA:Str->Option Value}(I:ObjM h x dx C mA):∃od,PySem.W.InstAt h x (instObj C dx) C (some od)/\∀name,lookIn name od=some (mA name):=
 let⟨od,ho,hl⟩:=Zft I.ns
 ⟨od,⟨I.obj,rfl,rfl,ho⟩,hl⟩
theorem RelO.some_of{v:V}{o:Option Value}(r:RelO (some v) o):∃u,o=some u/\RelV v u:=by
 cases o with
 |none=>exact(show False from r).elim
 |some u=>exact⟨u,rfl,r⟩
section
variable{P:Program}{w:World}{H H':Hp}{h h':Heap}{a C dx:Addr}{fs fs':List (Str×V)}
theorem ZjA(hok:HOk P w H h)(e:H a=some (.ins C dx fs)):∃mA,ObjM h a dx C mA/\(∀f,RelO (fs.lookup f) (mA f))/\PySem.Within mA (fs.map (·.1))/\fs.length<=1000/\H dx=some (.own a):=by
 obtain⟨d,z,ne,ob,mA,n,r,q⟩:=(show Z7 P w H h a (.ins C dx fs)from hok a _ e)
 exact⟨mA,⟨ob,n,ne⟩,r,q,z,d⟩
end
structure Cls (K:Frag) (C:Addr):Prop where
 pg:PySem.W.plainGet K C Str.empty=true
 hd:PySem.W.hasDictIn K C=true
 po:PySem.W.plainOver K C=true
 sa:findIn K (.ref C) "__setattr__" = some (some (.builtin "object.__setattr__"))
theorem Cls.get{K:Frag}{C:Addr}(c:Cls K C)(f:Str):PySem.W.plainGet K C f=true:=c.pg
structure Con (K:Frag) (C:Addr) (f:Str) (v:V) (u:Value):Prop where
 at_:findIn K (.ref C) f=some (some u)
 rel:RelV v u
 get:PySem.W.specialIn K u "__get__" = some none
 cp:PySem.W.copiedNames.contains f=false
structure Meth (K:Frag) (C:Addr) (m:Str) (f:Addr):Prop where
 at_:findIn K (.ref C) m=some (some (.ref f))
 fn:PySem.W.isFn K (.ref f)=true
 kp:keepIn K (.ref f)=true
section
variable{X:Cx}{pins:List (Addr×Obj)}{σ:St}{H:Hp}{s:Shared}{A:Around}{E:Value->Shared->Prop}{Q:Value->Shared->Prop}{c:Value}{b:Bool}
inductive TyOf (K:Frag) (H:Hp):V->Value->Prop where
 |non:TyOf K H .non (.type "NoneType")
 |bl (x:Bool):TyOf K H (.bl x) (.type "bool")
 |int (i:Int):TyOf K H (.int i) (.type "int")
 |str (x:Str):TyOf K H (.str x) (.type "str")
 |flt (x:UInt64):TyOf K H (.flt x) (.type "float")
 |lst {a:Addr}{xs:List V}(e:H a=some (.lst xs)):TyOf K H (.ref a) (.type "list")
 |frz {a:Addr}{o:Obj}{xs:List V}(e:H a=some (.frz o (.lst xs))):TyOf K H (.ref a) (.type "list")
 |tup {a:Addr}{xs:List V}(e:H a=some (.tup xs)):TyOf K H (.ref a) (.type "tuple")
 |dK {a:Addr}{kvs:List (Key×V)}(e:H a=some (.dK kvs)):TyOf K H (.ref a) (.type "dict")
 |dT {a:Addr}{kvs:List (List Key×V)}(e:H a=some (.dT kvs)):TyOf K H (.ref a) (.type "dict")
 |ins {a C dx:Addr}{fs:List (Str×V)}(e:H a=some (.ins C dx fs)) (cl:Cls K C) (ha:findIn K (.ref C) "__class__" = some (some (.builtin "object.__class__")))
  (hn:PySem.W.specialIn K (.builtin "object.__class__") "__get__" = some (some (.builtin "getset_descriptor.__get__"))) (htk:PySem.W.takesIn K (.builtin "object.__class__")=some true)
  (hm:PySem.W.mroIn K C (.type "object")=some true):TyOf K H (.ref a) (.ref C)
theorem Jb{x:V}{u t:Value}(I:Inv X pins σ H s)(rx:RelV x u)(ty:TyOf X.K H x t)(e:PySem.W.kitOne X.K t c=some b)(h:∀tk,Q (.bool b) { s with toks:=tk }):
  wpAny (model X.prog X.w) A (call (.builtin "isinstance") [u,c]) Q E s:=by
 cases ty with
 |non=>cases(show u=Value.none from rx);exact kia_one PySem.W.kitx_none I.kIn True.intro e (λz=>nomatch z) h
 |bl y=>cases(show u=Value.bool y from rx);exact kia_one PySem.W.kitx_bool I.kIn True.intro e (λz=>nomatch z) h
 |int i=>obtain⟨t,q⟩:=(show ∃t,u=Value.int i t from rx);cases q;exact kia_one PySem.W.kitx_int I.kIn True.intro e (λz=>nomatch z) h
 |str y=>obtain⟨t,q⟩:=(show ∃t,u=Value.str y t from rx);cases q;exact kia_one PySem.W.kitx_str I.kIn True.intro e (λz=>nomatch z) h
 |flt y=>obtain⟨t,q⟩:=(show ∃t,u=Value.float y t from rx);cases q;exact kia_one PySem.W.kitx_float I.kIn True.intro e (λz=>nomatch z) h
 |@lst a xs ea =>
  cases(show u=Value.ref a from rx)
  obtain⟨_,_,n,_,h1⟩:=(show Z7 X.prog X.w H s.heap a (.lst xs)from I.hok a _ ea)
  exact kia_one kitx_list I.kIn ⟨_,h1,rfl⟩ e (λz=>nomatch z) h
 |@frz a ob xs ea =>
  cases(show u=Value.ref a from rx)
  obtain⟨_,_,_,n,_,h1⟩:=(show Z7 X.prog X.w H s.heap a (.frz ob (.lst xs))from I.hok a _ ea)
  exact kia_one kitx_list I.kIn ⟨_,h1,rfl⟩ e (λz=>nomatch z) h
 |@tup a xs ea =>
  cases(show u=Value.ref a from rx)
  obtain⟨_,_,_,p⟩:=(show Z7 X.prog X.w H s.heap a (.tup xs)from I.hok a _ ea)
  obtain⟨o,h1,h2,_⟩:=p
  exact kia_one PySem.W.kitx_tuple I.kIn ⟨o,h1,h2⟩ e (λz=>nomatch z) h
 |@dK a kvs ea =>
  cases(show u=Value.ref a from rx)
  obtain⟨_,_,vs,_,p⟩:=(show Z7 X.prog X.w H s.heap a (.dK kvs)from I.hok a _ ea)
  obtain⟨o,es,ep,h1,h2,_⟩:=p
  exact kia_one PySem.W.kitx_dict I.kIn ⟨o,h1,h2.1⟩ e (λz=>nomatch z) h
 |@dT a kvs ea =>
  cases(show u=Value.ref a from rx)
  obtain⟨_,_,xs,_,o,es,ep,h1,h2,_⟩:=(show Z7 X.prog X.w H s.heap a (.dT kvs)from I.hok a _ ea)
  exact kia_one PySem.W.kitx_dict I.kIn ⟨o,h1,h2.1⟩ e (λz=>nomatch z) h
 |@ins a C dx fs ea cl ha hn htk hm =>
  cases(show u=Value.ref a from rx)
  obtain⟨mA,O,_⟩:=ZjA I.hok ea
  obtain⟨od,J,_⟩:=O.look
  exact kia_one (PySem.W.kitx_own (cl.get _) cl.hd ha hn htk hm) I.kIn J e (λz=>nomatch z) h
end
structure Room (k:Nat) (A:Around):Prop where
 hd:A.handled=none
 dp:A.depth+3*k+5<recursionLimit
 un:A.units+16*k+200<cLine
theorem Room.deeper{k:Nat}{A:Around}(r:Room (k+1) A)(env:Env):Room k (A.deeper env):=
 ⟨r.hd,by have:=r.dp;show A.depth+1+3*k+5<_;omega,by have:=r.un;show A.units+3+16*k+200<_;omega⟩
theorem Room.depth{k:Nat}{A:Around}(r:Room k A):A.depth<recursionLimit:=by have:=r.dp;omega
theorem Room.units{k:Nat}{A:Around}(r:Room k A):A.units+64<cLine:=by have:=r.un;omega
noncomputable def tNil:TA:=λ_ H Q=>Q [] H
noncomputable def tCons(ta:TE)(tr:TA):TA:=λσ H Q=>ta σ H λx H1=>tr σ H1 λxs H2=>Q (x::xs) H2
section
variable{X:Cx}{e:Expr}{es:List Expr}{te:TE}{t:TA}{pos:Pos}
theorem Ze6:PA X [] tNil:=λ_ _ _ _ H Q I h=>Calls.spliced_nil ⟨[],H,I,.nil,h⟩
theorem Zbi(ha:PE X e te)(hr:PA X es t)(hs:starEach (e::es) X.env=(false,eval e X.env)::starEach es X.env:=by rfl):PA X (e::es) (tCons te t):=by
 intro pos pins s σ H Q I h
 rw[hs]
 show wpAny _ _ (spliced ((false,eval e X.env)::backTo pos (starEach es X.env))) _ _ s
 refine Calls.spliced_cons (thn (ha pins s σ H _ I h) λu s1 ⟨x,H1,I1,r1,q1⟩=>?_)
 exact thn (hr pos pins s1 σ H1 _ I1 q1) λus s2 ⟨xs,H2,I2,r2,q2⟩=>⟨x::xs,H2,I2,.cons r1 r2,q2⟩
noncomputable def tTup(t:TA):TE:=λσ H Q=>t σ H λxs H1=>xs.length<=sizeLine/\∀p,H1 p=none->Q (.ref p) (upd H1 p (.tup xs))
noncomputable def tLst(t:TA):TE:=λσ H Q=>t σ H λxs H1=>xs.length<=sizeLine/\∀p,H1 p=none->Q (.ref p) (upd H1 p (.lst xs))
theorem pe_tup{x1}(h:PA X es t):PE X (.Tuple es x1 pos) (tTup t):=by
 intro pins s σ H Q I hq
 refine wpAny_Tuple_spliced (thn (h pos pins s σ H _ I hq) λus s1 ⟨xs,H1,I1,r,z,q⟩=>⟨by rw[<-r.length];exact z,?_⟩)
 have hf:H1 s1.heap.objs.size=none:=I1.hok.fresh (Nat.le_refl _)
 refine⟨.ref s1.heap.objs.size,upd H1 s1.heap.objs.size (.tup xs),I1.laid (t':=s1.toks) (λb u e=>Heap.get?_push_of_some _ e) (Nat.le_refl _) ?_,rfl,q _ hf⟩
 exact⟨z,us,r,⟨_,Heap.get?_push_size _ rfl,rfl,⟨_,rfl⟩,rfl⟩⟩
theorem pe_lst(h:PA X es t):PE X (.List es pos) (tLst t):=by
 intro pins s σ H Q I hq
 refine wpAny_List_spliced (thn (h pos pins s σ H _ I hq) λus s1 ⟨xs,H1,I1,r,z,q⟩=>⟨by rw[<-r.length];exact z,?_⟩)
 have hf:H1 s1.heap.objs.size=none:=I1.hok.fresh (Nat.le_refl _)
 refine⟨.ref s1.heap.objs.size,upd H1 s1.heap.objs.size (.lst xs),I1.laid (t':=s1.toks) (λb u e=>Heap.get?_push_of_some _ e) (Nat.le_refl _) ?_,rfl,q _ hf⟩
 exact⟨z,us,0,r,Heap.get?_push_size _ rfl⟩
end
noncomputable abbrev Sp:=List V->Hp->VK->XK->Prop
noncomputable abbrev CXT:=List Env->Hp->Shared->XK->Value->Shared->Prop
structure Env0 (P:Program) (w:World) (K:Frag) (mg:Str->Option Value) (base:Heap) (A:Around) (outer:List Env) (s:Shared) (H:Hp):Prop where
 frames:A.frames=some outer
 mod:Mod K mg base
 bs:∀b o,base.get? b=some o->s.heap.get? b=some o/\H b=none
 bsz:base.objs.size<=s.heap.objs.size
 funs:s.heap.FunFrames base outer
 frf:∀b∈frs outer,H b=none
 hok:HOk P w H s.heap
 bare:AllBare s.gens
noncomputable def CE(outer:List Env)(P:Program)(w:World)(H:Hp)(s:Shared)(Q:VK)(u:Value)(s':Shared):Prop:=
 ∃v H',s'.os=s.os/\AllBare s'.gens/\Un (frs outer) [] H H' s.heap s'.heap/\HOk P w H' s'.heap/\RelV v u/\Q v H'
noncomputable def CR(CX:CXT)(outer:List Env)(P:Program)(w:World)(H:Hp)(s:Shared)(Q:VK)(E:XK)(r:Result)(s':Shared):Prop:=
 match r with
 |.ok (.ret u)=>CE outer P w H s Q u s'
 |.ok _=>False
 |.error e=>CX outer H s E e s'
structure FnOk (P:Program) (w:World) (K:Frag) (mg:Str->Option Value) (base:Heap) (CX:CXT) (k:Nat) (f:Addr) (fd:FuncData) (ps:List Str) (sp:Sp):Prop where
 len:∀vs H Q E,sp vs H Q E->vs.length=ps.length
 run:∀(A:Around) (outer:List Env) (s:Shared) (H:Hp) (args:Args) (us:List Value) (vs:List V) (Q:VK) (E:XK),Room k A->Env0 P w K mg base A outer s H->BindsTo s fd args (ps.zip us)->Vals vs us->sp vs H Q E ->
  codeAny (model P w) A (.call (.ref f) args) (CR CX outer P w H s Q E) s
section
variable{X:Cx}{pins:List (Addr×Obj)}{σ:St}{H:Hp}{s s':Shared}
theorem Inv.env0(I:Inv X pins σ H s):Env0 X.prog X.w X.K X.mg X.base X.A X.stack s H:=
 ⟨I.ok.frames,I.ok.mod,I.bs,Nat.le_trans I.ok.bsz I.sz,I.stack,I.stkFree,I.hok,I.bare⟩
theorem Inv.after{Q:VK}{u:Value}(I:Inv X pins σ H s)(h:CE X.stack X.prog X.w H s Q u s'):EP X pins σ Q u s':=by
 obtain⟨v,H',os,bare,un,hok,r,q⟩:=h
 obtain⟨hh,g,d,t,os'⟩:=s'
 obtain rfl:os'=s.os:=os
 exact⟨v,H',I.call (h':=hh) (g':=g) (d':=d) (t':=t) (ch:=[]) un hok bare (λb z=>absurd z (by simp)),r,q⟩
end
noncomputable def tCall(sp:Sp)(dvs:List V)(E:XK)(t:TA):TE:=λσ H Q=>t σ H λvs H1=>sp (vs++dvs) H1 Q E
noncomputable def Binds(K:Frag)(fd:FuncData)(ps:List Str)(ds:List Value):Prop:=
 ∀(s:Shared) (us:List Value),K.In s.heap->(us++ds).length=ps.length->BindsTo s fd ⟨us,[]⟩ (ps.zip (us++ds))
theorem Binds.all{K:Frag}{fd:FuncData}{ps:List Str}(h:∀us:List Value,us.length=ps.length->bindArgs fd ⟨us,[]⟩=pure (ps.zip us)):Binds K fd ps []:=λs us _ hl=>by
 rw[List.append_nil]at hl ⊢
 exact .of_eq (h us hl)
noncomputable def Zgi(CX:CXT)(X:Cx)(E:XK):Prop:=∀(pins:List (Addr×Obj)) (σ:St) (H:Hp) (s:Shared) (e:Value) (s':Shared),Inv X pins σ H s->CX X.stack H s E e s'->X.xe e s'
section
variable{X:Cx}{CX:CXT}{k:Nat}{f C:Addr}{fd:FuncData}{ps:List Str}{sp:Sp}{dvs:List V}{ds:List Value}{E:XK}{x m:Str}{p pos apos:Pos}{e o:Expr}{es:List Expr}{ta:TE}{t:TA}
theorem run_fn{pins:List (Addr×Obj)}{σ:St}{H:Hp}{s:Shared}{Q:VK}{us:List Value}{vs:List V}(F:FnOk X.prog X.w X.K X.mg X.base CX k f fd ps sp)(hr:Room k X.A)(hb:Binds X.K fd ps ds)(hd:Vals dvs ds)(hx:Zgi CX X E)(I:Inv X pins σ H s)(r:Vals vs us)(h:sp (vs++dvs) H Q E):wpAny (model X.prog X.w) X.A (call (.ref f) us) (EP X pins σ Q) X.xe s:=by
 have r2:Vals (vs++dvs) (us++ds):=r.append hd
 have hl:(us++ds).length=ps.length:=by rw[<-r2.length];exact F.len _ _ _ _ h
 refine wpAny_call (codeAny_mono (F.run X.A X.stack s H ⟨us,[]⟩ (us++ds) (vs++dvs) Q E hr I.env0 (hb s us I.kIn hl) r2 h) λr s' hq=>?_)
 cases r with
 |error e=>exact hx pins σ H s e s' I hq
 |ok fl =>
  cases fl with
  |ret u=>exact I.after hq
  |next=>exact False.elim hq
  |brk=>exact False.elim hq
  |cont=>exact False.elim hq
theorem Zi6(F:FnOk X.prog X.w X.K X.mg X.base CX k f fd ps sp)(hr:Room k X.A)(hg:Gl X x)(hm:X.mg x=some (.ref f))(hk:keepIn X.K (.ref f)=true)(hb:Binds X.K fd ps ds)(hd:Vals dvs ds)(hx:Zgi CX X E)(ha:PA X (e::es) t)(hdb:(x==("__debug__" : Str))=false:=by decide)(he:starEach (e::es) X.env=(false,eval e X.env)::starEach es X.env:=by rfl)(hpl:(backTo pos (starEach es X.env)).any (·.1)=false:=by rfl):
  PE X (.Call (.Name x p) (e::es) [] pos) (tCall sp dvs E t):=by
 intro pins s σ H Q I h
 refine wpAny_Call_Name_kw (Zjs I hg hm ?_ hdb)
 refine PySem.W.callWith_K (h₀:=X.base) I.ok.mod.kin hk (thn (ha pos pins s σ H _ I h) λus s1 ⟨vs,H1,I1,r,q⟩=>⟨I1.kIn,?_⟩) he hpl
 exact run_fn F hr hb hd hx I1 r q
structure Mk (K:Frag) (C f:Addr):Prop where
 makes:PySem.W.makesIn K C=true
 init:findIn K (.ref C) "__init__" = some (some (.ref f))
 fn:PySem.W.isFn K (.ref f)=true
 kp:keepIn K (.ref C)=true
end
section
variable{X:Cx}{CX:CXT}{k:Nat}{f C:Addr}{fd:FuncData}{ps ks:List Str}{sp:Sp}{E:XK}{x m:Str}{p pos apos kpos:Pos}{e o:Expr}{es:List Expr}{kws:List Keyword}{te ta:TE}{t tk:TA}{nm:Option Str}
structure KBinds (K:Frag) (fd:FuncData) (ps ks:List Str) (g:List Value->List Value->List Value) (gV:List V->List V->List V):Prop where
 to:∀(s:Shared) (us ws:List Value),K.In s.heap->(g us ws).length=ps.length->BindsTo s fd ⟨us,ks.zip ws⟩ (ps.zip (g us ws))
 rel:∀{vs:List V}{us:List Value}{zs:List V}{ws:List Value},Vals vs us->Vals zs ws->Vals (gV vs zs) (g us ws)
variable{g:List Value->List Value->List Value}{gV:List V->List V->List V}
end
structure FnScope (N P:List Str) (sc:Scope):Prop where
 kind:sc.kind=.function
 co:sc.isCoroutine=false
 gen:sc.isGenerator=false
 nd:N.Nodup
 pre:N.take P.length=P
 par:∀x∈P,sc.names.lookup x=some .local∨sc.names.lookup x=some .cell
 nofree:∀y∈sc.names,y.2≠.free
theorem Zb6{kindOf:Str->Option NameKind}{x:Str}:∀{binds:List (Str×Value)}{m:Str->Option Value},(∀v,(x,v)∉binds)->bindL kindOf binds m x=m x
 |[],_,_=>rfl
 |(n,v)::r,m,h=>by
  unfold bindL
  rw[Zb6 λw hw=>h w (List.mem_cons_of_mem _ hw)]
  split
  ·have:x≠n:=by rintro rfl;exact h v List.mem_cons_self
   simp[this]
  ·rfl
theorem Zb8{kindOf:Str->Option NameKind}{x:Str}:∀{binds:List (Str×Value)}{m:Str->Option Value},(∀v,(x,v)∉binds)->bindC kindOf binds m x=m x
 |[],_,_=>rfl
 |(n,v)::r,m,h=>by
  unfold bindC
  rw[Zb8 λw hw=>h w (List.mem_cons_of_mem _ hw)]
  split
  ·rfl
  ·have:x≠n:=by rintro rfl;exact h v List.mem_cons_self
   simp[this]
theorem Zb7{kindOf:Str->Option NameKind}{x:Str}{v:Value}:∀{P:List Str}{vs:List Value}{i:Nat}{m:Str->Option Value},P.Nodup->P[i]?=some x->vs[i]?=some v->kindOf x=some .local ->
  bindL kindOf (P.zip vs) m x=some v
 |[],_,_,_,_,h,_,_=>by simp at h
 |_::_,[],_,_,_,_,h,_=>by simp at h
 |p::P,w::vs,0,m,nd,h1,h2,hk=>by
  simp at h1 h2;subst h1;subst h2
  show bindL kindOf ((p,w)::P.zip vs) m p=_
  unfold bindL
  rw[Zb6 λv hv=>(List.nodup_cons.mp nd).1 (List.of_mem_zip hv).1,if_pos hk]
  simp
 |p::P,w::vs,i+1,m,nd,h1,h2,hk=>by
  show bindL kindOf ((p,w)::P.zip vs) m x=_
  unfold bindL
  exact Zb7 (i:=i) (List.nodup_cons.mp nd).2 (by simpa using h1) (by simpa using h2) hk
theorem Zb9{kindOf:Str->Option NameKind}{x:Str}{v:Value}:∀{P:List Str}{vs:List Value}{i:Nat}{m:Str->Option Value},P.Nodup->P[i]?=some x->vs[i]?=some v->kindOf x≠some .local ->
  bindC kindOf (P.zip vs) m x=some v
 |[],_,_,_,_,h,_,_=>by simp at h
 |_::_,[],_,_,_,_,h,_=>by simp at h
 |p::P,w::vs,0,m,nd,h1,h2,hk=>by
  simp at h1 h2;subst h1;subst h2
  show bindC kindOf ((p,w)::P.zip vs) m p=_
  unfold bindC
  rw[Zb8 λv hv=>(List.nodup_cons.mp nd).1 (List.of_mem_zip hv).1,if_neg hk]
  simp
 |p::P,w::vs,i+1,m,nd,h1,h2,hk=>by
  show bindC kindOf ((p,w)::P.zip vs) m x=_
  unfold bindC
  exact Zb9 (i:=i) (List.nodup_cons.mp nd).2 (by simpa using h1) (by simpa using h2) hk
noncomputable def start(N:List Str)(vs:List V):St:=vs.map some++List.replicate (N.length-vs.length) none
noncomputable def cxOf(CX:CXT)(P:Program)(w:World)(K:Frag)(mg:Str->Option Value)(base:Heap)(N:List Str)(qual:Str)(scope:Scope)(f:Addr)(cd:Value)(A:Around)(outer:List Env)(s:Shared)(H:Hp)(E:XK):Cx where
 prog:=P
 w:=w
 K:=K
 mg:=mg
 base:=base
 A:=A.deeper (envOfC qual scope s.heap.objs.size f cd)
 N:=N
 s₀:=s
 H₀:=H
 env:=envOfC qual scope s.heap.objs.size f cd
 outer:=outer
 stack:=envOfC qual scope s.heap.objs.size f cd::outer
 ex:=[]
 calm:=true
 fn:=λ_=>true
 pn:=[]
 xe:=λe s'=>wpAny (model P w) (A.deeper (envOfC qual scope s.heap.objs.size f cd)) (leaving (envOfC qual scope s.heap.objs.size f cd) e) (λ_ s''=>CX outer H s E e s'') (λe' s''=>CX outer H s E e' s'') s'
theorem Zdn{sc:Scope}{n:Nat}{x:Str}(h:sc.names.lookup x=some .cell):∃c,(cellsFrom n sc.names []).lookup x=some c:=by
 have q:=cellsFrom_some sc.names n [] (.inl h)
 exact Option.isSome_iff_exists.mp q
theorem ZfC{CX:CXT}{P:Program}{w:World}{K:Frag}{mg:Str->Option Value}{base:Heap}{N ps:List Str}{qual:Str}{scope:Scope}{f:Addr}{cd:Value}{A:Around}{outer:List Env}{s s1:Shared}{H:Hp}{E:XK}{us:List Value}{vs:List V}(S:FnScope N ps scope)(hd:A.handled=none)(e0:Env0 P w K mg base A outer s H)(hl:vs.length=ps.length)(r:Vals vs us)(x:InCallC s s.heap.objs.size (bindL (envOfC qual scope s.heap.objs.size f cd).kindOf (ps.zip us) λ_=>none) (cellsFrom (s.heap.objs.size+1) scope.names []) (bindC (envOfC qual scope s.heap.objs.size f cd).kindOf (ps.zip us) λ_=>none) s1):
  Inv (cxOf CX P w K mg base N qual scope f cd A outer s H E) [] (start N vs) H s1:=by
 have hpl:ps.length<=N.length:=by have:=congrArg List.length S.pre;rw[List.length_take]at this;omega
 obtain⟨h1,tk,rfl,hk⟩:=x.done
 have noA:∀b:Addr,b∉(cxOf CX P w K mg base N qual scope f cd A outer s H E).ex:=λb z=>absurd (show b∈([]:List Addr)from z) (by simp)
 refine⟨⟨e0.mod,S.kind,rfl,rfl,Nat.le_refl _,λy z c h1 h2=>?_,λy hy=>?_,λy c _ h=>?_,λ_=>hd,Around.frames_deeper e0.frames,.inr ⟨rfl,rfl⟩,λb z=>absurd z (noA b),e0.bs,e0.bsz,λb _ _=>noA b,λb z=>absurd z (noA b),e0.funs,e0.frf⟩,
  rfl,e0.bare,Un.kept hk,⟨_,x.toInCall.ns,λi y v h1 h2 h3=>?_⟩,λy c h=>⟨_,x.cell y c h⟩,e0.hok.fresh (Nat.le_refl _),λy c h=>?_,λp hp=>absurd (show p∈([]:List (Addr×Obj))from hp) (by simp),e0.hok.kept hk,?_⟩
 ·exact name_of_addr x.apart (PySem.mem_of_lookup h1) (PySem.mem_of_lookup h2)
 ·have hy:scope.names.lookup y=some .cell∨scope.names.lookup y=some .free:=hy
  rcases hy with hy|hy
  ·exact Zdn hy
  ·exact absurd rfl (S.nofree _ (PySem.mem_of_lookup hy))
 ·exact Nat.le_of_lt (x.above y c (PySem.mem_of_lookup h))
 ·have hi:i<vs.length:=by
   unfold start at h2
   by_cases hi:i<vs.length
   ·exact hi
   ·rw[List.getElem?_append_right (by simpa using hi)]at h2
    rw[List.getElem?_replicate]at h2
    split at h2<;>cases h2
  have ha:vs[i]?=some v:=by
   unfold start at h2
   rw[List.getElem?_append_left (by simpa using hi),List.getElem?_map]at h2
   cases e:vs[i]? with
   |none=>rw[e]at h2;cases h2
   |some a=>rw[e]at h2;cases h2;rfl
  obtain⟨u,hu,rv⟩:=r.get ha
  have hp:ps[i]?=some y:=by
   rw[<-S.pre,List.getElem?_take_of_lt (by omega)];exact h1
  have ndP:ps.Nodup:=by rw[<-S.pre];exact S.nd.sublist (List.take_sublist _ _)
  refine⟨u,rv,?_⟩
  rcases S.par y (List.mem_of_getElem? hp)with k|k
  ·exact .inl ⟨k,Zb7 ndP hp hu k⟩
  ·obtain⟨c,e⟩:=Zdn (n:=s.heap.objs.size+1) k
   refine .inr ⟨.inl k,c,e,?_⟩
   have q:=x.cell y c e
   rw[Zb9 ndP hp hu (by show scope.names.lookup y≠_;rw[k];decide)]at q
   exact q
 ·exact e0.hok.fresh (Nat.le_of_lt (x.above y c (PySem.mem_of_lookup h)))
 ·unfold start
  show _=N.length
  rw[List.length_append,List.length_map,List.length_replicate]
  omega
theorem fn_of{CX:CXT}{P:Program}{w:World}{K:Frag}{mg:Str->Option Value}{base:Heap}{k:Nat}{f:Addr}{name qual:Str}{params:Arguments}{body:List Stmt}{scope:Scope}{dV kV doc pm cdv ct oc:Value}{an od:Option Addr}{osl:Array (Option Value)}{N ps:List Str}{sp:Sp}(lk:K.lookup f=some ⟨oc,od,.func (fnOf name qual params body scope dV kV doc pm an cdv ct),osl⟩)(hcd:codeIn K cdv qual=true)(S:FnScope N ps scope)(len:∀vs H Q E,sp vs H Q E->vs.length=ps.length)(hbody:∀(A:Around) (outer:List Env) (s:Shared) (H:Hp) (vs:List V) (Q:VK) (E:XK),Room (k+1) A->HOk P w H s.heap->sp vs H Q E ->
   ∃t,PSs (cxOf CX P w K mg base N qual scope f cdv A outer s H E) body t/\t { nx:=λ_ H'=>Q .non H',rt:=Q } (start N vs) H):
  FnOk P w K mg base CX (k+1) f (fnOf name qual params body scope dV kV doc pm an cdv ct) ps sp:=by
 refine⟨len,λA outer s H args us vs Q E hr e0 hb r hsp=>?_⟩
 have hl:=len _ _ _ _ hsp
 have KX:K.In s.heap:=e0.mod.kin.keeps λb o e=>(e0.bs b o e).1
 have lim:s.heap.NoLimit:=e0.mod.nolimit.keeps λb o e=>(e0.bs b o e).1
 have hkind:∀y∈ps.zip us,scope.names.lookup y.1=some .local∨(scope.names.lookup y.1=some .cell/\((cellsFrom (s.heap.objs.size+1) scope.names []).lookup y.1).isSome=true):=λ⟨n,v⟩ hy=>by
  rcases S.par n (List.of_mem_zip hy).1 with q|q
  ·exact .inl q
  ·exact .inr ⟨q,cellsFrom_some _ _ _ (.inl q)⟩
 refine codeAny_call_function hr.depth (KX _ _ lk) rfl S.co S.gen rfl (PySem.W.codeRec_of KX hcd) (hb _ _ _ _ ?_)
 refine wpAny_newFunctionEnv_cells S.kind hkind λenv he s1 x=>?_
 subst he
 refine⟨lim.keeps x.toInCall.keep,codeAny_func ?_⟩
 obtain⟨t,ht,hq⟩:=hbody A outer s H vs Q E hr e0.hok hsp
 have I:Inv (cxOf CX P w K mg base N qual scope f cdv A outer s H E) [] (start N vs) H s1:=ZfC S hr.hd e0 hl r x
 refine wpAny_mono (ht [] s1 (start N vs) H _ I hq) (λfl s' hs=>?_) λe s' hs=>hs
 have fin:∀{σ':St}{H':Hp}{v:V}{u:Value},Inv (cxOf CX P w K mg base N qual scope f cdv A outer s H E) [] σ' H' s'->RelV v u->Q v H'->CE outer P w H s Q u s':=
  λ{σ' H' v u} J rv q=>⟨v,H',J.os,J.bare,J.base,J.hok,rv,q⟩
 cases fl with
 |ret u =>
  obtain⟨v,σ',H',J,rv,q⟩:=hs
  exact fin J rv q
 |next =>
  obtain⟨σ',H',J,q⟩:=hs
  exact fin (v:=V.non) (u:=Value.none) J rfl q
 |brk =>
  obtain⟨_,_,_,q⟩:=hs
  exact False.elim q
 |cont =>
  obtain⟨_,_,_,q⟩:=hs
  exact False.elim q
section
variable{X:Cx}{x:Str}{p pos:Pos}{e:Expr}{es:List Expr}{t:TA}{id T:String}{r:List V->Hp->VK->Prop}
noncomputable def tCB(r:List V->Hp->VK->Prop)(t:TA):TE:=λσ H Q=>t σ H λvs H1=>r vs H1 Q
theorem Zc7(hc:Jy X (.builtin id) r)(hg:Gl X x)(hm:X.mg x=none)(hv:bootBuiltins x=some (.builtin id))(ha:PA X (e::es) t)(hn:x≠"__name__":=by decide)(hdb:(x==("__debug__" : Str))=false:=by decide)(he:starEach (e::es) X.env=(false,eval e X.env)::starEach es X.env:=by rfl)(hpl:(backTo pos (starEach es X.env)).any (·.1)=false:=by rfl):PE X (.Call (.Name x p) (e::es) [] pos) (tCB r t):=by
 intro pins s σ H Q I h
 refine wpAny_Call_Name_kw (ZbS I hg hm hv ?_ hn hdb)
 exact PyProof.Rows.callWith_builtin1 (thn (ha pos pins s σ H _ I h) λus s1 ⟨vs,H1,I1,r1,q1⟩=>hc pins s1 σ H1 vs us Q I1 r1 q1) he hpl
theorem ZbH(hc:Jy X (.type T) r)(hg:Gl X x)(hm:X.mg x=none)(hv:bootBuiltins x=some (.type T))(ha:PA X (e::es) t)(hn:x≠"__name__":=by decide)(hdb:(x==("__debug__" : Str))=false:=by decide)(he:starEach (e::es) X.env=(false,eval e X.env)::starEach es X.env:=by rfl)(hpl:(backTo pos (starEach es X.env)).any (·.1)=false:=by rfl):PE X (.Call (.Name x p) (e::es) [] pos) (tCB r t):=by
 intro pins s σ H Q I h
 refine wpAny_Call_Name_kw (ZbS I hg hm hv ?_ hn hdb)
 exact PyProof.Rows.callWith_type1 (thn (ha pos pins s σ H _ I h) λus s1 ⟨vs,H1,I1,r1,q1⟩=>hc pins s1 σ H1 vs us Q I1 r1 q1) he hpl
end
end L2
namespace HT
open PySem PyProof.Rows
section
variable{prog:Program}{w:World}{A:Around}{E:Value->Shared->Prop}{s:Shared}
theorem cat_tup{t b:Addr}{vs ws:List Value}{Q:Value->Shared->Prop}(ht:IsTup s.heap t vs.toArray)(hb:IsTup s.heap b ws.toArray)(hv:vs≠[])(h1:ws=[]->Q (.ref t) s)(h2:ws≠[]->Q (.ref s.heap.objs.size) { s with heap:=s.heap.push { cls:=.type "tuple",data:=.seq (vs++ws).toArray } })(hsz:vs.length+ws.length<=sizeLine):wpAny (model prog w) A (binaryOp .Add (.ref t) (.ref b)) Q E s:=by
 obtain⟨⟨cls,dd,data,sl⟩,ho,hc,n,hd⟩:=id ht
 obtain⟨⟨cls2,dd2,data2,sl2⟩,ho2,hc2,n2,hd2⟩:=id hb
 simp only at hc hd hc2 hd2
 subst hc hd hc2 hd2
 have e:vs.toArray++ws.toArray=(vs++ws).toArray:=by simp
 by_cases hw:ws=[]
 ·exact concat_meets ⟨_,ho,rfl⟩ ⟨_,ho2,rfl⟩ noFill_tuple_add seq_tuple_add PySem.F.slot_tuple_add PySem.F.entry_tuple_add (PySem.F.args_tuple_add_2 _ _)
   (tuple_addW1 t b vs.toArray ws.toArray n n2 dd dd2 sl sl2 (by simpa using hv) (by simp[hw])) ⟨ho,ho2,h1 hw⟩
 ·refine concat_meets ⟨_,ho,rfl⟩ ⟨_,ho2,rfl⟩ noFill_tuple_add seq_tuple_add PySem.F.slot_tuple_add PySem.F.entry_tuple_add (PySem.F.args_tuple_add_2 _ _)
   (tuple_addW2 t b vs.toArray ws.toArray n n2 dd dd2 sl sl2 (by simpa using hv) (by simpa using hw) (by rw[List.size_toArray,List.size_toArray];exact hsz)) ⟨ho,ho2,?_⟩
  rw[e]
  exact h2 hw
noncomputable def sIx(n d:Nat):Option Int->Nat
 |none=>d
 |some v=>if v<0 then(v+(n:Int)).toNat else min v.toNat n
theorem sIx_le(n d:Nat)(hd:d<=n)(o:Option Int):sIx n d o<=n:=by
 cases o with
 |none=>exact hd
 |some v =>
  show(if v<0 then(v+(n:Int)).toNat else min v.toNat n)<=n
  by_cases hv:v<0
  ·rw[if_pos hv];omega
  ·rw[if_neg hv];exact Nat.min_le_right _ _
theorem Zf1(v:Int)(n d:Nat):(if v<0 then max (v+(n:Int)) 0 else min v (n:Int))=((sIx n d (some v):Nat):Int):=by
 show(if v<0 then max (v+(n:Int)) 0 else min v (n:Int))=(((if v<0 then(v+(n:Int)).toNat else min v.toNat n):Nat):Int)
 by_cases hv:v<0
 ·simp only[if_pos hv];omega
 ·simp only[if_neg hv];omega
theorem Zek(lo hi:Option Int)(n:Nat):Builtin.Slice.sliceAdjust lo hi 1 (n:Int)=(((sIx n 0 lo:Nat):Int),((sIx n n hi:Nat):Int)):=by
 have h1:¬((1:Int)<0):=by omega
 unfold Builtin.Slice.sliceAdjust
 simp only[h1,if_false]
 refine Prod.ext ?_ ?_
 ·cases lo with
  |none=>rfl
  |some v=>exact Zf1 v n 0
 ·cases hi with
  |none=>rfl
  |some v=>exact Zf1 v n n
theorem ZdE(i j:Nat):Builtin.Slice.slicePlaces (i:Int) (j:Int) 1=j-i:=by
 unfold Builtin.Slice.slicePlaces
 have h1:(1:Int)>0:=by omega
 simp only[h1,if_true,Int.ediv_one]
 split<;>omega
theorem ZaI{v:Value}{o:Option Int}{Q:Option Int->Shared->Prop}(p:IsPart v o)(h:Q o s):wpAny (model prog w) A (Builtin.Slice.slicePartIndex v) Q E s:=by
 cases p with
 |none=>exact slicePart_none h
 |int i t=>exact slicePart_int h
theorem sliceApplied_gen{sl:Addr}{vl vu:Value}{lo hi:Option Int}{n:Nat}{Q:Int×Int×Nat->Shared->Prop}(hs:s.heap.IsSliceOf sl vl vu .none)(pl:IsPart vl lo)(pu:IsPart vu hi)(h:Q (((sIx n 0 lo:Nat):Int),1,sIx n n hi-sIx n 0 lo) s):wpAny (model prog w) A (Builtin.Slice.sliceApplied (.ref sl) (pure (n:Int))) Q E s:=by
 obtain⟨os,hos,hcs,hds⟩:=id hs
 unfold Builtin.Slice.sliceApplied Builtin.Slice.sliceFields
 refine wpAny_bind (wpAny_bind (wpAny_field hos hds (x:=vl) rfl (wpAny_bind (wpAny_field hos hds (x:=vu) rfl (wpAny_bind (wpAny_field hos hds (x:=.none) rfl (wpAny_pure ?_)))))))
 refine wpAny_bind (slicePart_none ?_)
 show wpAny _ _ (if((1:Int)==0)=true then _ else _) _ _ s
 rw[if_neg (by decide)]
 refine wpAny_bind (ZaI pl (wpAny_bind (ZaI pu (wpAny_bind (wpAny_pure ?_)))))
 show wpAny _ _ (match Builtin.Slice.sliceAdjust lo hi 1 (n:Int)with|(lo,hi)=>pure (lo,(1:Int),Builtin.Slice.slicePlaces lo hi 1)) _ _ s
 rw[Zek lo hi n]
 show wpAny _ _ (pure (((sIx n 0 lo:Nat):Int),(1:Int),Builtin.Slice.slicePlaces ((sIx n 0 lo:Nat):Int) ((sIx n n hi:Nat):Int) 1)) _ _ s
 rw[ZdE]
 exact wpAny_pure h
theorem ZgY(xs:Array Value)(i k:Nat):((List.range k).filterMap λ(m:Nat)=>xs[((i:Int)+(m:Int)*1).toNat]?).toArray=((xs.toList.drop i).take k).toArray:=by
 have e:(λ(m:Nat)=>xs[((i:Int)+(m:Int)*1).toNat]?)=λm=>xs[i+m]?:=by
  funext m
  have:((i:Int)+(m:Int)*1).toNat=i+m:=by omega
  rw[this]
 rw[e]
 have:=pick_run xs i k
 rw[List.filterMap_map]at this
 have e2:((λx=>xs[x]?) ∘ λx=>i+x)=λm=>xs[i+m]?:=rfl
 rw[e2]at this
 rw[this]
theorem getItem_tuple_cut{t sl:Addr}{items:Array Value}{vl vu:Value}{lo hi:Option Int}{Q:Value->Shared->Prop}(ht:IsTup s.heap t items)(hs:s.heap.IsSliceOf sl vl vu .none)(pl:IsPart vl lo)(pu:IsPart vu hi)(hw:¬(sIx items.size 0 lo=0/\sIx items.size items.size hi=items.size))(h:Q (.ref s.heap.objs.size) { s with heap:=s.heap.push { cls:=.type "tuple",data:=.seq ((items.toList.drop (sIx items.size 0 lo)).take (sIx items.size items.size hi-sIx items.size 0 lo)).toArray } })(hsz:items.size<=sizeLine):wpAny (model prog w) A (getItem (.ref t) (.ref sl)) Q E s:=by
 have htake:sizeOk (.seq ((items.toList.drop (sIx items.size 0 lo)).take (sIx items.size items.size hi-sIx items.size 0 lo)).toArray):=by
  show((items.toList.drop (sIx items.size 0 lo)).take (sIx items.size items.size hi-sIx items.size 0 lo)).toArray.size<=sizeLine
  rw[List.size_toArray,List.length_take,List.length_drop,Array.length_toList]
  omega
 have hj:sIx items.size items.size hi<=items.size:=sIx_le _ _ (Nat.le_refl _) hi
 obtain⟨os,hos,hcs,hds⟩:=id hs
 have hTs:s.TypeIs (.ref sl) "slice":=⟨os,hos,hcs⟩
 unfold getItem
 try with_reducible refine wpAny_holding ?_
 first|refine wpAny_bind (wpAny_pure ?_)|skip
 refine wpAny_bind (wpAny_sequenceKey ht.typeIs (by decide) ?_)
 refine wpAny_bind (wpAny_callSpecial?_slot (name:=Str.ofString "__getitem__") ht.typeIs PyProof.Rows.slot_tuple_getitem
  (wpAny_call_entry PyProof.Rows.slot_tuple_getitem ht.typeIs entry_tuple_getitem ?_ (args_tuple_getitem _ _)))
 show wpAny _ _ (Builtin.Tuple.tupleItemsOf (.ref t) >>= _) _ _ s
 refine wpAny_bind (tupleItemsOf_ ht ?_)
 refine wpAny_bind (wpAny_typeOf hTs ?_)
 rw[if_pos (by decide)]
 refine wpAny_bind (sliceApplied_gen hs pl pu ?_)
 have hno:¬((((sIx items.size 0 lo:Nat):Int)==0&&(1:Int)==1&&(sIx items.size items.size hi-sIx items.size 0 lo)==items.size)=true):=by
  intro q
  rw[Bool.and_eq_true,Bool.and_eq_true]at q
  have q1:((sIx items.size 0 lo:Nat):Int)=0:=eq_of_beq q.1.1
  have q2:sIx items.size items.size hi-sIx items.size 0 lo=items.size:=eq_of_beq q.2
  exact hw ⟨by omega,by omega⟩
 show wpAny _ _ (if(((sIx items.size 0 lo:Nat):Int)==0&&(1:Int)==1&&(sIx items.size items.size hi-sIx items.size 0 lo)==items.size)=true then _ else _) _ _ s
 rw[if_neg hno,ZgY]
 first
  |exact wpAny_bind (m:=Builtin.Tuple.tupleExact _) (wpAny_newObj_type (wpAny_pure ⟨_,rfl,wpAny_pure h⟩) htake)
  |exact wpAny_bind (m:=Builtin.Tuple.tupleExact _) (wpAny_newObj_type (wpAny_bind (wpAny_pure (wpAny_pure ⟨_,rfl,wpAny_pure h⟩))) htake)
  |exact wpAny_bind (wpAny_bind (m:=Builtin.Tuple.tupleExact _) (wpAny_newObj_type (wpAny_pure (wpAny_pure ⟨_,rfl,wpAny_pure h⟩)) htake))
  |exact wpAny_bind (wpAny_bind (m:=Builtin.Tuple.tupleExact _) (wpAny_newObj_type (wpAny_pure ⟨_,rfl,wpAny_pure h⟩) htake))
end
end HT
namespace L2
open PySem PySem.Spec PyProof.Rows
noncomputable abbrev TO:=St->Hp->(Option Int->Hp->Prop)->Prop
noncomputable def PO(X:Cx)(e:Option Expr)(t:TO):Prop:=
 ∀(pins:List (Addr×Obj)) (s:Shared) (σ:St) (H:Hp) (Q:Option Int->Hp->Prop),Inv X pins σ H s->t σ H Q ->
  wpAny (model X.prog X.w) X.A (evalPart e X.env) (λu s'=>∃o H',Inv X pins σ H' s'/\IsPart u o/\Q o H') X.xe s
noncomputable def tPart(t:TE):TO:=λσ H Q=>t σ H λx H1=>∃i,x=.int i/\Q (some i) H1
section
variable{X:Cx}{e:Expr}{te:TE}{lo hi:Option Expr}{tl th:TO}{pos p2:Pos}
theorem ZiP(h:PE X e te):PO X (some e) (tPart te):=by
 intro pins s σ H Q I hw
 rw[evalPart_some]
 refine thn (h pins s σ H _ I hw) λu s1 ⟨x,H1,I1,r1,q1⟩=>?_
 obtain⟨i,rfl,q⟩:=q1
 obtain⟨t,rfl⟩:=r1
 exact⟨some i,H1,I1,.int i t,q⟩
noncomputable def SlR(X:Cx)(r:V->Option Int->Option Int->Hp->VK->Prop):Prop:=
 ∀(pins:List (Addr×Obj)) (s:Shared) (σ:St) (H:Hp) (x:V) (v vl vu:Value) (lo hi:Option Int) (sl:Addr) (Q:VK),Inv X pins σ H s->RelV x v->s.heap.IsSliceOf sl vl vu .none->IsPart vl lo->IsPart vu hi->r x lo hi H Q ->
  ∃T id,typeLookup (.type T) "__getitem__" = pure (some (.builtin id))/\s.TypeIs v T/\wpAny (model X.prog X.w) X.A (getItem v (.ref sl)) (EP X pins σ Q) X.xe s
noncomputable def tSl(r:V->Option Int->Option Int->Hp->VK->Prop)(te:TE)(tl th:TO):TE:=λσ H Q=>te σ H λx H1=>tl σ H1 λl H2=>th σ H2 λu H3=>r x l u H3 Q
theorem ZgZ{r:V->Option Int->Option Int->Hp->VK->Prop}(hr:SlR X r)(he:PE X e te)(hl:PO X lo tl)(hu:PO X hi th):PE X (.Subscript e (.Slice lo hi none p2) pos) (tSl r te tl th):=by
 intro pins s σ H Q I h
 refine Subscript_ (thn (he pins s σ H _ I h) λv s1 ⟨x,H1,I1,r1,q1⟩=>?_)
 refine wpAny_Slice (thn (hl pins s1 σ H1 _ I1 q1) λvl s2 ⟨l,H2,I2,pl,q2⟩=>thn (hu pins s2 σ H2 _ I2 q2) λvu s3 ⟨u,H3,I3,pu,q3⟩=>?_)
 rw[evalPart_none]
 refine wpAny_pure ?_
 have I4:Inv X pins σ H3 { s3 with heap:=s3.heap.push { cls:=.type "slice",data:=.fields #[vl,vu,.none] } }:=I3.kept (t':=s3.toks) λb ob q=>Heap.get?_push_of_some _ q
 obtain⟨T,id,hT,ht,hg⟩:=hr pins { s3 with heap:=s3.heap.push { cls:=.type "slice",data:=.fields #[vl,vu,.none] } } σ H3 x v vl vu l u s3.heap.objs.size Q I4 r1 (Heap.IsSliceOf.new ..) pl pu q3
 show wpAny (model X.prog X.w) X.A (subscriptTail e (.Slice lo hi none p2) v (.ref s3.heap.objs.size)) (EP X pins σ Q) X.xe { s3 with heap:=s3.heap.push { cls:=.type "slice",data:=.fields #[vl,vu,.none] } }
 exact tail_any (ops:=[.ref s3.heap.objs.size,v]) ht hT hg (by with_unfolding_all rfl)
noncomputable def cutV(xs:List V)(lo hi:Option Int):List V:=(xs.drop (HT.sIx xs.length 0 lo)).take (HT.sIx xs.length xs.length hi-HT.sIx xs.length 0 lo)
theorem Zar(xs:List V)(lo hi:Option Int):(cutV xs lo hi).length<=xs.length:=by
 unfold cutV
 rw[List.length_take,List.length_drop]
 omega
noncomputable def rSlT(K:Frag):V->Option Int->Option Int->Hp->VK->Prop:=λx lo hi H Q=>∃a xs,x=.ref a/\SqT K H a xs /\
 ¬(HT.sIx xs.length 0 lo=0/\HT.sIx xs.length xs.length hi=xs.length)/\∀p,H p=none->Q (.ref p) (upd H p (.tup (cutV xs lo hi)))
theorem sl_tup:SlR X (rSlT X.K):=by
 intro pins s σ H x v vl vu lo hi sl Q I rx hs pl pu h
 obtain⟨a,xs,rfl,hx,hw,q⟩:=h
 cases rx
 obtain⟨its,r,ht,hz⟩:=I.tuple hx
 have hlen:its.toArray.size=xs.length:=by rw[List.size_toArray];exact r.length.symm
 refine⟨"tuple",_,PyProof.Rows.slot_tuple_getitem.lookup,ht.typeIs,?_⟩
 refine HT.getItem_tuple_cut ht hs pl pu (by rw[hlen];exact hw) ?_ (by rw[hlen];exact hz)
 rw[hlen]
 refine⟨.ref s.heap.objs.size,_,I.laid (t':=s.toks) (o:=.tup (cutV xs lo hi)) (λb ob q=>Heap.get?_push_of_some _ q) (Nat.le_refl _) ?_,rfl,q _ (I.hok.fresh (Nat.le_refl _))⟩
 exact⟨Nat.le_trans (Zar xs lo hi) hz,_,(r.drop (HT.sIx xs.length 0 lo)).take (HT.sIx xs.length xs.length hi-HT.sIx xs.length 0 lo),TupP.new _ _⟩
noncomputable def rCatT(K:Frag):R2:=λx y H Q=>∃a b xs ys,x=.ref a/\y=.ref b/\SqT K H a xs/\SqT K H b ys/\xs≠[]/\xs.length+ys.length<=sizeLine /\
 (ys=[]->Q (.ref a) H)/\(ys≠[]->∀p,H p=none->Q (.ref p) (upd H p (.tup (xs++ys))))
theorem Vals.nil_iff{xs:List V}{us:List Value}(r:Vals xs us):us=[]↔xs=[]:=by
 cases r with
 |nil=>simp
 |cons _ _=>simp
theorem Zjg:OpR X (binaryOp .Add) (rCatT X.K):=by
 intro pins s σ H x y v u Q I rx ry h
 obtain⟨a,b,xs,ys,rfl,rfl,ha,hb,hx,hz,q1,q2⟩:=h
 cases rx
 cases ry
 obtain⟨its,r1,p1,_⟩:=I.tuple ha
 obtain⟨its2,r2,p2,_⟩:=I.tuple hb
 refine HT.cat_tup p1 p2 (λz=>hx (r1.nil_iff.mp z)) (λz=>⟨.ref a,H,I,rfl,q1 (r2.nil_iff.mp z)⟩) (λz=>?_) (by rw[<-r1.length,<-r2.length];exact hz)
 refine⟨.ref s.heap.objs.size,_,I.laid (t':=s.toks) (o:=.tup (xs++ys)) (λb ob q=>Heap.get?_push_of_some _ q) (Nat.le_refl _) ?_,rfl,q2 (λw=>z (r2.nil_iff.mpr w)) _ (I.hok.fresh (Nat.le_refl _))⟩
 exact⟨by rw[List.length_append];exact hz,_,r1.append r2,TupP.new _ _⟩
end
noncomputable def ixN(n:Nat)(i:Int):Option Nat:=if 0<=i then(if i<n then some i.toNat else none)else if -(n:Int)<=i then some (i+n).toNat else none
noncomputable def atI{α:Type}(xs:List α)(i:Int):Option α:=(ixN xs.length i).bind λj=>xs[j]?
theorem Zcv{n:Nat}{i:Int}{j:Nat}(h:ixN n i=some j):seqIndex? i n=some j/\j<n/\-(n:Int)<=i/\i<n:=by
 unfold ixN at h
 by_cases h0:0<=i
 ·rw[if_pos h0]at h
  by_cases h1:i<n
  ·rw[if_pos h1]at h
   have e:i.toNat=j:=Option.some.inj h
   exact⟨by rw[seqIndex_of h0 h1,e],by omega,by omega,h1⟩
  ·rw[if_neg h1]at h;cases h
 ·rw[if_neg h0]at h
  by_cases h1:-(n:Int)<=i
  ·rw[if_pos h1]at h
   have e:(i+n).toNat=j:=Option.some.inj h
   exact⟨by rw[seqIndex_neg (by omega) h1,e],by omega,h1,by omega⟩
  ·rw[if_neg h1]at h;cases h
theorem ZcM{α:Type}{xs:List α}{i:Int}{v:α}(h:atI xs i=some v):∃j,seqIndex? i xs.length=some j/\xs[j]?=some v/\j<xs.length/\-(xs.length:Int)<=i/\i<xs.length:=by
 unfold atI at h
 cases e:ixN xs.length i with
 |none=>rw[e]at h;cases h
 |some j =>
  rw[e]at h
  obtain⟨h1,h2,h3,h4⟩:=Zcv e
  exact⟨j,h1,h,h2,h3,h4⟩
noncomputable def Zgh(b:Expr):Prop:=∀o i,subscripted b false o i=operate [o,i] (getItem o i)
noncomputable def IxR(X:Cx)(r:R2):Prop:=
 ∀(value slice:Expr) (pins:List (Addr×Obj)) (s:Shared) (σ:St) (H:Hp) (x y:V) (v u:Value) (Q:VK),Inv X pins σ H s->RelV x v->RelV y u->r x y H Q ->
  subscripted slice false v u=operate [v,u] (getItem v u)->wpAny (model X.prog X.w) X.A (subscriptTail value slice v u) (EP X pins σ Q) X.xe s
noncomputable def MtR(X:Cx)(id:String)(r:V->List V->Hp->VK->Prop):Prop:=
 ∀(pins:List (Addr×Obj)) (s:Shared) (σ:St) (H:Hp) (x:V) (xs:List V) (v:Value) (us:List Value) (Q:VK),Inv X pins σ H s->RelV x v->Vals xs us->r x xs H Q ->
  wpAny (model X.prog X.w) X.A (call (.builtin id) (v::us)) (EP X pins σ Q) X.xe s
section
variable{X:Cx}{a b:Expr}{ta tb:TE}{pos:Pos}
theorem pe_ix{r:R2}(hr:IxR X r)(ha:PE X a ta)(hb:PE X b tb)(hs:Zgh b):PE X (.Subscript a b pos) (tOp r ta tb):=by
 intro pins s σ H Q I h
 exact Subscript_ (binT ha hb I h λv u s2 x y H2 I2 rx ry q=>hr a b pins s2 σ H2 x y v u Q I2 rx ry q (hs _ _))
noncomputable def rIxL(K:Frag):R2:=λx y H Q=>∃p xs i v,x=.ref p/\y=.int i/\SqL K H p xs/\atI xs i=some v/\Q v H
noncomputable def rIxT(K:Frag):R2:=λx y H Q=>∃p xs i v,x=.ref p/\y=.int i/\SqT K H p xs/\atI xs i=some v/\Q v H
noncomputable def rIxS:R2:=λx y H Q=>∃z i c,x=.str z/\y=.int i/\z.length<=sizeLine/\atI z.cps.toList i=some c/\Q (.str ⟨#[c]⟩) H
theorem ZfB:IxR X (rIxL X.K):=by
 intro value slice pins s σ H x y v u Q I rx ry h hs
 obtain⟨p,xs,i,z,rfl,rfl,hq,he,q⟩:=h
 cases rx
 obtain⟨t,rfl⟩:=ry
 obtain⟨its,r,pl,hz⟩:=I.list hq
 obtain⟨j,h1,h2,h3,h4,h5⟩:=ZcM he
 obtain⟨w,ew,rw'⟩:=r.get h2
 have hl:=r.length
 have hn:=ZaQ
 have fin:EP X pins σ Q w s:=⟨z,H,I,rw',q⟩
 by_cases h0:0<=i
 ·have hj:i.toNat=j:=by
   rw[seqIndex_of h0 h5]at h1
   exact Option.some.inj h1
  exact item_listR pl.isList h0 (by omega) (by rw[hj];simpa using ew) fin hs
 ·have hj:(i+(its.toArray.size:Int)).toNat=j:=by
   rw[seqIndex_neg (by omega) h4]at h1
   rw[List.size_toArray,<-hl]
   exact Option.some.inj h1
  exact subscriptTail_builtinR (x:=w) pl.isList.typeIs slot_list_getitem.lookup
   (wpAny_getItem_list_neg (Q:=λr s'=>r=w/\EP X pins σ Q r s') pl.isList (by omega) (by rw[List.size_toArray]<;>omega) (by omega) (by rw[hj];simpa using ew) ⟨rfl,fin⟩) hs
theorem ix_tup:IxR X (rIxT X.K):=by
 intro value slice pins s σ H x y v u Q I rx ry h hs
 obtain⟨p,xs,i,z,rfl,rfl,hq,he,q⟩:=h
 cases rx
 obtain⟨t,rfl⟩:=ry
 obtain⟨its,r,pl,hz⟩:=I.tuple hq
 obtain⟨j,h1,h2,h3,h4,h5⟩:=ZcM he
 obtain⟨w,ew,rw'⟩:=r.get h2
 have hl:=r.length
 have hn:=ZaQ
 have fin:EP X pins σ Q w s:=⟨z,H,I,rw',q⟩
 exact subscriptTail_builtinR (x:=w) pl.typeIs slot_tuple_getitem.lookup
  (getItem_tuple (j:=j) (Q:=λr s'=>r=w/\EP X pins σ Q r s') pl (by omega) (by omega) (by rw[List.size_toArray,<-hl];exact h1) (by simpa using ew) ⟨rfl,fin⟩) hs
theorem ix_str:IxR X rIxS:=by
 intro value slice pins s σ H x y v u Q I rx ry h hs
 obtain⟨z,i,c,rfl,rfl,hz,he,q⟩:=h
 obtain⟨t,rfl⟩:=rx
 obtain⟨t',rfl⟩:=ry
 obtain⟨j,h1,h2,h3,h4,h5⟩:=ZcM he
 have hl:z.cps.toList.length=z.length:=by simp[Str.length]
 rw[hl]at h1 h4 h5
 have hn:=ZaQ
 exact tail_any (typeIs_str s z t) slot_str_getitem.lookup (getItem_str (c:=c) (by
  have e1:decide (i < -(2^63:Int))=false:=decide_eq_false (by omega)
  have e2:decide (i ≥ 2^63)=false:=decide_eq_false (by omega)
  rw[e1,e2,Bool.or_false]) (by rw[h1];simpa using h2) ⟨.str ⟨#[c]⟩,H,I.tok _,⟨_,rfl⟩,q⟩) hs
theorem ZdW(its:List Value)(n j:Nat)(u:Value):Obj.mapSeq (·.setIfInBounds j u) { cls:=.type "list",data:=.seq its.toArray n }={ cls:=.type "list",data:=.seq (its.set j u).toArray n }:=by
 simp[Obj.mapSeq]
theorem Inv.lst{pins:List (Addr×Obj)}{σ:St}{H:Hp}{s:Shared}{p:Addr}{xs:List V}(I:Inv X pins σ H s)(h:H p=some (.lst xs)):
  ∃(its:List Value) (n:Nat),Vals xs its/\s.heap.get? p=some { cls:=.type "list",data:=.seq its.toArray n }/\xs.length<=sizeLine:=by
 obtain⟨z,its,n,r,e⟩:=I.hok p _ h
 exact⟨its,n,r,e,z⟩
theorem Inv.lstUpd{pins:List (Addr×Obj)}{σ:St}{H:Hp}{s:Shared}{p:Addr}{xs ys:List V}{its its':List Value}{n n':Nat}{f:Obj->Obj}(I:Inv X pins σ H s)(h:H p=some (.lst xs))(ho:s.heap.get? p=some { cls:=.type "list",data:=.seq its.toArray n })(hf:f { cls:=.type "list",data:=.seq its.toArray n }={ cls:=.type "list",data:=.seq its'.toArray n' })(r:Vals ys its')(hz:ys.length<=sizeLine)(t:Nat):
  Inv X pins σ (upd H p (.lst ys)) { s with heap:=s.heap.update p f,toks:=t }:=by
 have e:(s.heap.update p f).get? p=some { cls:=.type "list",data:=.seq its'.toArray n' }:=by
  rw[Heap.get?_update_self f ho (by rw[hf]<;>rfl),hf]
 refine I.write (x:=p) (e:=p) (by rw[h];trivial) (.inl rfl) (λb u hb q=>(Heap.get?_update_other _ _ (Ne.symm hb)).trans q) ⟨_,e⟩ ?_
 exact⟨hz,its',n',r,e⟩
noncomputable def rSetL:V->V->V->Hp->(Hp->Prop)->Prop:=λo i v H Q=>∃p xs k j,o=.ref p/\i=.int k/\H p=some (.lst xs)/\ixN xs.length k=some j/\Q (upd H p (.lst (xs.set j v)))
theorem set_list:PSet X rSetL:=by
 intro pins s σ H o i v ov iv u Q I ro ri rv h
 obtain⟨p,xs,k,j,rfl,rfl,hp,hj,q⟩:=h
 cases ro
 obtain⟨t,rfl⟩:=ri
 obtain⟨its,n,r,ho,hz⟩:=I.lst hp
 obtain⟨h1,h2,h3,h4⟩:=Zcv hj
 have hl:=r.length
 have hn:=ZaQ
 have I':Inv X pins σ (upd H p (.lst (xs.set j v))) { s with heap:=s.heap.update p (Obj.mapSeq (·.setIfInBounds j u)) }:=
  I.lstUpd hp ho (ZdW its n j u) (r.set rv j) (by rw[List.length_set];exact hz) s.toks
 by_cases h0:0<=k
 ·have hk:k.toNat=j:=by
   rw[seqIndex_of h0 h4]at h1
   exact Option.some.inj h1
  exact PySem.W.ki_setAt ho h0 (by omega) (by rw[List.size_toArray,<-hl];exact h4) (by rw[hk];exact⟨_,I',q⟩)
 ·have hk:(k+(its.toArray.size:Int)).toNat=j:=by
   rw[seqIndex_neg (by omega) h3]at h1
   rw[List.size_toArray,<-hl]
   exact Option.some.inj h1
  exact PySem.W.ki_setBack ho (by omega) (by rw[List.size_toArray,<-hl];exact h3) (by omega) (by rw[hk];exact⟨_,I',q⟩)
theorem Zbx(lo hi:Option Int)(n:Nat):(sliceBounds lo hi none n).1=((HT.sIx n 0 lo:Nat):Int)/\(sliceBounds lo hi none n).2.1=((HT.sIx n n hi:Nat):Int)/\(sliceBounds lo hi none n).2.2=1:=by
 refine⟨?_,?_,rfl⟩
 ·cases lo with
  |none=>simp[sliceBounds,HT.sIx]
  |some i =>
   simp only[sliceBounds,HT.sIx,Option.getD_none,show(1:Int)>0 by decide,if_true]
   by_cases h:i<0
   ·simp only[h,if_true]<;>omega
   ·simp only[h,if_false]<;>omega
 ·cases hi with
  |none=>simp[sliceBounds,HT.sIx]
  |some i =>
   simp only[sliceBounds,HT.sIx,Option.getD_none,show(1:Int)>0 by decide,if_true]
   by_cases h:i<0
   ·simp only[h,if_true]<;>omega
   ·simp only[h,if_false]<;>omega
theorem Za2(its:List Value)(lo hi:Option Int):slicePick its.toArray lo hi none=((its.drop (HT.sIx its.length 0 lo)).take (HT.sIx its.length its.length hi-HT.sIx its.length 0 lo)).toArray:=by
 obtain⟨h1,h2,h3⟩:=Zbx lo hi its.toArray.size
 unfold slicePick
 rw[h1,h2,h3]
 simp only[sliceRange_one,pick_run,List.size_toArray]<;>rfl
noncomputable def rSlL(K:Frag):V->Option Int->Option Int->Hp->VK->Prop:=λx lo hi H Q=>∃a xs,x=.ref a/\SqL K H a xs/\∀p,H p=none->Q (.ref p) (upd H p (.lst (cutV xs lo hi)))
theorem ZeH:SlR X (rSlL X.K):=by
 intro pins s σ H x v vl vu lo hi sl Q I rx hs pl pu h
 obtain⟨a,xs,rfl,hx,q⟩:=h
 cases rx
 obtain⟨its,r,ht,hz⟩:=I.list hx
 have hlen:=r.length
 refine⟨"list",_,slot_list_getitem.lookup,ht.isList.typeIs,?_⟩
 refine wpAny_getItem_list_slice ht.isList hs pl pu .none (by simp) ?_ (by rw[List.size_toArray]<;>omega)
 rw[Za2,<-hlen]
 refine⟨.ref s.heap.objs.size,_,I.laid (t':=s.toks) (o:=.lst (cutV xs lo hi)) (λb ob q=>Heap.get?_push_of_some _ q) (Nat.le_refl _) ?_,rfl,q _ (I.hok.fresh (Nat.le_refl _))⟩
 exact⟨Nat.le_trans (Zar xs lo hi) hz,_,0,(r.drop (HT.sIx xs.length 0 lo)).take (HT.sIx xs.length xs.length hi-HT.sIx xs.length 0 lo),Heap.get?_push_size _ rfl⟩
noncomputable def XJ:V->Bool
 |.non=>true
 |.bl _=>true
 |.int _=>true
 |.str _=>true
 |_=>false
noncomputable def eqV:V->V->Bool
 |.non,.non=>true
 |.bl a,.bl b=>a==b
 |.bl a,.int b=>(if a then 1 else 0)==b
 |.int a,.bl b=>a==(if b then 1 else 0)
 |.int a,.int b=>a==b
 |.str a,.str b=>a==b
 |_,_=>false
theorem eqAt_V{A:Around}{s:Shared}{y x:V}{u v:Value}(ry:RelV y u)(rx:RelV x v)(fy:XJ y=true)(fx:XJ x=true):SeqAt.EqAt A s u v (eqV y x):=by
 cases y with
 |non =>
  cases ry
  cases x with
  |non=>cases rx;exact SeqAt.EqAt.same _
  |bl b=>cases rx;exact SeqAt.EqAt.none_bool b
  |int b=>obtain⟨t,rfl⟩:=rx;exact SeqAt.EqAt.none_int b t
  |str b=>obtain⟨t,rfl⟩:=rx;exact SeqAt.EqAt.none_str b t
  |_=>exact absurd (show false=true from fx) Bool.false_ne_true
 |bl a =>
  cases ry
  cases x with
  |non=>cases rx;exact SeqAt.EqAt.bool_none a
  |bl b=>cases rx;exact SeqAt.EqAt.bool_bool a b
  |int b=>obtain⟨t,rfl⟩:=rx;exact SeqAt.EqAt.bool_int a b t
  |str b=>obtain⟨t,rfl⟩:=rx;exact SeqAt.EqAt.bool_str a b t
  |_=>exact absurd (show false=true from fx) Bool.false_ne_true
 |int a =>
  obtain⟨t',rfl⟩:=ry
  cases x with
  |non=>cases rx;exact SeqAt.EqAt.int_none a t'
  |bl b=>cases rx;exact SeqAt.EqAt.int_bool a t' b
  |int b=>obtain⟨t,rfl⟩:=rx;exact SeqAt.EqAt.int_int a t' b t
  |str b=>obtain⟨t,rfl⟩:=rx;exact SeqAt.EqAt.int_str a t' b t
  |_=>exact absurd (show false=true from fx) Bool.false_ne_true
 |str a =>
  obtain⟨t',rfl⟩:=ry
  cases x with
  |non=>cases rx;exact SeqAt.EqAt.str_none a t'
  |bl b=>cases rx;exact SeqAt.EqAt.str_bool a t' b
  |int b=>obtain⟨t,rfl⟩:=rx;exact SeqAt.EqAt.str_int a t' b t
  |str b=>obtain⟨t,rfl⟩:=rx;exact SeqAt.EqAt.str_str a t' b t
  |_=>exact absurd (show false=true from fx) Bool.false_ne_true
 |_=>exact absurd (show false=true from fy) Bool.false_ne_true
noncomputable def eqU(x:V)(u:Value):Bool:=match u with
 |.none=>eqV .non x
 |.bool b=>eqV (.bl b) x
 |.int i _=>eqV (.int i) x
 |.str z _=>eqV (.str z) x
 |_=>false
theorem Zid{x y:V}{u:Value}(r:RelV y u)(f:XJ y=true):eqU x u=eqV y x:=by
 cases y with
 |non=>cases r;rfl
 |bl b=>cases r;rfl
 |int i=>obtain⟨t,rfl⟩:=r;rfl
 |str z=>obtain⟨t,rfl⟩:=r;rfl
 |_=>exact absurd (show false=true from f) Bool.false_ne_true
theorem ZaD{x:V}:∀{xs:List V}{us:List Value},Vals xs us->xs.all XJ=true->us.any (eqU x)=xs.any λy=>eqV y x
 |_,_,.nil,_=>rfl
 |y::xs,u::us,.cons r t,f=>by
  rw[List.all_cons,Bool.and_eq_true]at f
  rw[List.any_cons,List.any_cons,Zid r f.1,ZaD t f.2]
theorem JQ{A:Around}{s:Shared}{x:V}{v:Value}(rx:RelV x v)(fx:XJ x=true):∀{xs:List V}{us:List Value},Vals xs us->xs.all XJ=true->∀u∈us,SeqAt.EqAt A s u v (eqU x u)
 |_,_,.nil,_=>λu hu=>by cases hu
 |y::xs,u::us,.cons r t,f=>λu' hu=>by
  rw[List.all_cons,Bool.and_eq_true]at f
  rcases List.mem_cons.mp hu with rfl|hu
  ·rw[Zid r f.1];exact eqAt_V r rx f.1 fx
  ·exact JQ rx fx t f.2 u' hu
noncomputable def inV(x:V)(xs:List V):Bool:=xs.any λy=>eqV y x
noncomputable def rIn(K:Frag)(neg:Bool):R2:=λx y H Q=>∃p xs,y=.ref p/\(SqL K H p xs∨SqT K H p xs)/\XJ x=true/\xs.all XJ=true/\Q (.bl (if neg then !inV x xs else inV x xs)) H
theorem ZbK:OpR X (compareOp .In) (rIn X.K false):=by
 intro pins s σ H x y v u Q I rx ry h
 obtain⟨p,xs,rfl,hq,fx,fs,q⟩:=h
 cases ry
 rcases hq with hq|hq
 ·obtain⟨its,r,pl,hz⟩:=I.list hq
  refine SeqAt.in_listAt (eqU x) pl.isList (λw hw=>JQ rx fx r fs w (by simpa using hw)) ⟨.bl _,H,I,rfl,?_⟩
  rw[show its.toArray.any (eqU x)=its.any (eqU x) by simp,ZaD r fs]
  exact q
 ·obtain⟨its,r,pl,hz⟩:=I.tuple hq
  refine SeqAt.in_tupleAt (eqU x) pl (λw hw=>JQ rx fx r fs w (by simpa using hw)) ⟨.bl _,H,I,rfl,?_⟩
  rw[show its.toArray.any (eqU x)=its.any (eqU x) by simp,ZaD r fs]
  exact q
theorem Xq:OpR X (compareOp .NotIn) (rIn X.K true):=by
 intro pins s σ H x y v u Q I rx ry h
 obtain⟨p,xs,rfl,hq,fx,fs,q⟩:=h
 cases ry
 rcases hq with hq|hq
 ·obtain⟨its,r,pl,hz⟩:=I.list hq
  refine SeqAt.notIn_listAt (eqU x) pl.isList (λw hw=>JQ rx fx r fs w (by simpa using hw)) ⟨.bl _,H,I,rfl,?_⟩
  rw[show its.toArray.any (eqU x)=its.any (eqU x) by simp,ZaD r fs]
  exact q
 ·obtain⟨its,r,pl,hz⟩:=I.tuple hq
  refine SeqAt.notIn_tupleAt (eqU x) pl (λw hw=>JQ rx fx r fs w (by simpa using hw)) ⟨.bl _,H,I,rfl,?_⟩
  rw[show its.toArray.any (eqU x)=its.any (eqU x) by simp,ZaD r fs]
  exact q
theorem XC:Jy X (.type "list") (λxs H Q=>∃p ys,xs=[.ref p]/\(SqL X.K H p ys∨SqT X.K H p ys)/\∀l,H l=none->Q (.ref l) (upd H l (.lst ys))):=by
 intro pins s σ H xs us Q I r h
 obtain⟨p,ys,rfl,hq,q⟩:=h
 obtain⟨u,rfl,rx⟩:=vals1 r
 cases rx
 have fin:∀(its:List Value),Vals ys its->ys.length<=sizeLine->∀(h':Heap) (c':Nat),(∀b o',s.heap.get? b=some o'->h'.get? b=some o') ->
   h'.get? s.heap.objs.size=some { cls:=.type "list",dict:=none,data:=.seq its.toArray c',slots:=#[] }->EP X pins σ Q (.ref s.heap.objs.size) { s with heap:=h' }:=λits r' hz h' c' kp e =>
  ⟨.ref s.heap.objs.size,_,I.laid (t':=s.toks) kp (Nat.le_refl _) (show Z7 X.prog X.w _ h' _ (.lst ys)from⟨hz,its,c',r',e⟩),rfl,q _ (I.hok.fresh (Nat.le_refl _))⟩
 rcases hq with hq|hq
 ·obtain⟨its,r',pl,hz⟩:=I.list hq
  have hlen:=r'.length
  obtain⟨o,ho,hc,n,hd⟩:=pl.isList
  exact call_list_seq p (.inl rfl) ho hc hd (λh' c' kp e=>fin its r' hz h' c' kp e) (by simp only[List.size_toArray]<;>omega)
 ·obtain⟨its,r',pl,hz⟩:=I.tuple hq
  have hlen:=r'.length
  obtain⟨o,ho,hc,n,hd⟩:=pl
  exact call_list_seq p (.inr rfl) ho hc hd (λh' c' kp e=>fin its r' hz h' c' kp e) (by simp only[List.size_toArray]<;>omega)
theorem J8:Jy X (.type "tuple") (λxs H Q=>∃p ys,xs=[.ref p]/\((SqL X.K H p ys/\∀l,H l=none->Q (.ref l) (upd H l (.tup ys)))∨(SqT X.K H p ys/\Q (.ref p) H))):=by
 intro pins s σ H xs us Q I r h
 obtain⟨p,ys,rfl,h⟩:=h
 obtain⟨u,rfl,rx⟩:=vals1 r
 cases rx
 rcases h with⟨hq,q⟩|⟨hq,q⟩
 ·obtain⟨its,r',pl,hz⟩:=I.list hq
  have hlen:=r'.length
  refine call_tuple_list pl.isList (λh' kp=>?_) (by simp only[List.size_toArray]<;>omega)
  have I1:Inv X pins σ H { s with heap:=h' }:=I.kept (t':=s.toks) kp
  have I2:Inv X pins σ (upd H h'.objs.size (.tup ys)) { s with heap:=h'.push { cls:=.type "tuple",data:=.seq its.toArray } }:=
   I1.laid (t':=s.toks) (λb o e=>Heap.get?_push_of_some _ e) (Nat.le_refl _) (show Z7 X.prog X.w _ _ _ (.tup ys)from⟨hz,its,r',TupP.new _ _⟩)
  exact⟨.ref h'.objs.size,_,I2,rfl,q _ (I1.hok.fresh (Nat.le_refl _))⟩
 ·obtain⟨its,r',pl,hz⟩:=I.tuple hq
  exact call_tuple_same pl ⟨.ref p,H,I,rfl,q⟩
noncomputable def tyV(K:Frag)(T:String)(x:V)(H:Hp):Prop:=match x with
 |.str _=>T = "str"
 |.int _=>T = "int"
 |.ref p=>(T = "list"/\∃xs,SqL K H p xs)∨(T = "tuple"/\∃o,K.lookup p=some o/\o.cls=.type "tuple"/\o.dict=none) ∨
  (T = "dict"/\((∃kvs,H p=some (.dK kvs))∨∃kvs,H p=some (.dT kvs)))∨(T = "set"/\∃S n,H p=some (.set S n))
 |_=>False
theorem ZhL{pins:List (Addr×Obj)}{σ:St}{H:Hp}{s:Shared}{T:String}{x:V}{v:Value}(I:Inv X pins σ H s)(r:RelV x v)(ty:tyV X.K T x H):
  s.TypeIs v T/\∀a,v=.ref a->∃ob,s.heap.get? a=some ob/\ob.dict=none:=by
 cases x with
 |str z =>
  obtain⟨t,rfl⟩:=r
  cases(show T = "str" from ty)
  exact⟨typeIs_str s z t,λ_ e=>nomatch e⟩
 |int i =>
  obtain⟨t,rfl⟩:=r
  cases(show T = "int" from ty)
  exact⟨typeIs_int s i t,λ_ e=>nomatch e⟩
 |ref p =>
  cases r
  rcases ty with⟨rfl,xs,hq⟩|⟨rfl,o,hk,hc,hd⟩|⟨rfl,hk⟩|⟨rfl,S,n,hk⟩
  ·obtain⟨its,_,pl,_⟩:=I.list hq
   refine⟨pl.isList.typeIs,λa e=>?_⟩
   cases e
   obtain⟨o,n,e,c,hd,_⟩:=pl
   exact⟨o,e,hd⟩
  ·refine⟨⟨o,I.kIn p o hk,hc⟩,λa e=>?_⟩
   cases e
   exact⟨o,I.kIn _ o hk,hd⟩
  ·have z:∃o,s.heap.get? p=some o/\o.ExactDict:=by
    rcases hk with⟨kvs,hk⟩|⟨kvs,hk⟩
    ·obtain⟨_,_,_,_,o,_,_,e,ex,_⟩:=I.hok p _ hk
     exact⟨o,e,ex⟩
    ·obtain⟨_,_,_,_,o,_,_,e,ex,_⟩:=I.hok p _ hk
     exact⟨o,e,ex⟩
   obtain⟨o,e,ex⟩:=z
   refine⟨⟨o,e,ex.1⟩,λa e2=>?_⟩
   cases e2
   exact⟨o,e,ex.2.1⟩
  ·obtain⟨o,_,_,_,e,ex,_⟩:=I.hok p _ hk
   refine⟨⟨o,e,ex.1⟩,λa e2=>?_⟩
   cases e2
   exact⟨o,e,ex.2.1⟩
 |_=>exact False.elim ty
noncomputable def tBM0(K:Frag)(T:String)(r:V->List V->Hp->VK->Prop)(to:TE):TE:=λσ H Q=>to σ H λx H1=>tyV K T x H1/\r x [] H1 Q
noncomputable def tBM(K:Frag)(T:String)(r:V->List V->Hp->VK->Prop)(to:TE)(t:TA):TE:=λσ H Q=>to σ H λx H1=>tyV K T x H1/\t σ H1 λxs H2=>r x xs H2 Q
variable{o e:Expr}{es:List Expr}{to:TE}{t:TA}{name:Str}{apos cpos:Pos}{T id:String}{r:V->List V->Hp->VK->Prop}
theorem pe_bm0(pa:PlainAttrs T)(slot:Slot T name id)(hty:typeOf (.builtin id)=pure (.type "method_descriptor"))(hm:MtR X id r)(ho:PE X o to)(hbase:attributeBase o name X.env (eval o X.env)=eval o X.env:=by rfl)(hline:(apos.endLine==cpos.line)=true:=by rfl):PE X (.Call (.Attribute o name apos) [] [] cpos) (tBM0 X.K T r to):=by
 intro pins s σ H Q I h
 refine wpAny_Call_method0_late hbase hline (thn (ho pins s σ H _ I h) λv s1 ⟨x,H1,I1,r1,ty,q1⟩=>?_)
 obtain⟨h1,h2⟩:=ZhL I1 r1 ty
 exact⟨T,id,pa,slot,hty,h1,h2,Calls.callWith_builtin rfl (PySem.evalArgs_none (hm pins s1 σ H1 x [] v [] Q I1 r1 .nil q1))⟩
theorem Zi7(pa:PlainAttrs T)(slot:Slot T name id)(hty:typeOf (.builtin id)=pure (.type "method_descriptor"))(hm:MtR X id r)(ho:PE X o to)(ha:PA X (e::es) t)(hbase:attributeBase o name X.env (eval o X.env)=eval o X.env:=by rfl)(hfew:((backTo cpos (starEach (e::es) X.env)).all (λx=>!x.1)&&(backToKw cpos (keywordEach [] X.env)).all (λx=>x.1.isSome)
   && decide ((e::es).length+([]:List Keyword).length+(if([]:List Keyword).isEmpty then 0 else 1)<30))=true:=by rfl)(hline:(apos.endLine==cpos.line)=true:=by rfl)(hs:starEach (e::es) X.env=(false,eval e X.env)::starEach es X.env:=by rfl)(hplain:(backTo cpos (starEach es X.env)).any (·.1)=false:=by rfl):
  PE X (.Call (.Attribute o name apos) (e::es) [] cpos) (tBM X.K T r to t):=by
 intro pins s σ H Q I h
 refine wpAny_Call_method_late hbase hfew hline rfl (thn (ho pins s σ H _ I h) λv s1 ⟨x,H1,I1,r1,ty,q1⟩=>?_)
 obtain⟨h1,h2⟩:=ZhL I1 r1 ty
 refine⟨T,id,pa,slot,hty,h1,h2,?_⟩
 have hA:=ha cpos pins s1 σ H1 _ I1 q1
 rw[hs]at hA ⊢
 refine Calls.callWith_builtin (by show(false || (backTo cpos (starEach es X.env)).any (·.1))=false;rw[hplain]<;>rfl) (Calls.evalArgs_plain ?_)
 exact thn hA λus s2 ⟨vs,H2,I2,r2,q2⟩=>hm pins s2 σ H2 x vs v us Q I2 r1 r2 q2
end
noncomputable def MtM(X:Cx)(id:String)(r:V->List V->Hp->VK->Prop):Prop:=
 ∀(pins:List (Addr×Obj)) (s:Shared) (σ:St) (H:Hp) (x:V) (xs:List V) (v:Value) (us:List Value) (Q:VK),Inv X pins σ H s->RelV x v->Vals xs us->r x xs H Q ->
  wpAny (model X.prog X.w) X.A (call (.builtin id) (v::us)) (EP X pins σ Q) X.xe s
theorem Vals.one:∀{x:V}{us:List Value},Vals [x] us->∃u,us=[u]/\RelV x u
 |_,_,.cons r .nil=>⟨_,rfl,r⟩
theorem Vals.zero:∀{us:List Value},Vals [] us->us=[]
 |_,.nil=>rfl
theorem Vals.eraseIdx:∀{xs:List V}{us:List Value}(i:Nat),Vals xs us->Vals (xs.eraseIdx i) (us.eraseIdx i)
 |_,_,_,.nil=>.nil
 |_,_,0,.cons _ t=>t
 |_,_,i+1,.cons r t=>.cons r (Vals.eraseIdx i t)
theorem Vals.rep{xs:List V}{us:List Value}(h:Vals xs us):∀k:Nat,Vals (List.replicate k xs).flatten (List.replicate k us).flatten
 |0=>.nil
 |k+1=>by
  rw[List.replicate_succ,List.replicate_succ,List.flatten_cons,List.flatten_cons]
  exact Vals.append h (Vals.rep h k)
theorem ZbR{α:Type}:∀(l:List α) (i:Nat),(l.eraseIdx i).length<=l.length
 |[],_=>Nat.le_refl _
 |_::_,0=>Nat.le_succ _
 |_::r,i+1=>Nat.succ_le_succ (ZbR r i)
theorem foldl_rep(its:List Value):∀(k:Nat) (acc:List Value),
  List.foldl (λx1 x2=>x1++x2) acc.toArray (List.replicate k its.toArray)=(acc++(List.replicate k its).flatten).toArray
 |0,acc=>by simp
 |k+1,acc=>by
  have e:acc.toArray++its.toArray=(acc++its).toArray:=by simp
  have e2:(acc++its)++(List.replicate k its).flatten=acc++(List.replicate (k+1) its).flatten:=by
   rw[List.replicate_succ,List.flatten_cons,List.append_assoc]
  rw[<-e2,<-foldl_rep its k (acc++its),<-e,List.replicate_succ,List.foldl_cons]
section
variable{X:Cx}{pins:List (Addr×Obj)}{σ:St}{H:Hp}{s:Shared}{l b:Addr}{xs ys zs:List V}
theorem Inv.lset{its its':List Value}{n:Nat}{f:Array Value->Array Value}{t':Nat}(I:Inv X pins σ H s)(hH:H l=some (.lst xs))(e:s.heap.get? l=some { cls:=.type "list",data:=.seq its.toArray n })(hf:f its.toArray=its'.toArray)(hv:Vals ys its')(hz:ys.length<=sizeLine):
  Inv X pins σ (upd H l (.lst ys)) { s with heap:=s.heap.update l (Obj.mapSeq f),toks:=t' }:=by
 have q:=PySem.IsL.update e f
 rw[hf]at q
 refine I.write (x:=l) (e:=l) (by rw[hH];exact trivial) (.inl rfl) (λb' u hb hu=>(Heap.get?_update_other s.heap (Obj.mapSeq f) (Ne.symm hb)).trans hu) ⟨_,q⟩ ?_
 exact⟨hz,its',_,hv,q⟩
theorem Inv.lnew{its:List Value}{t':Nat}(I:Inv X pins σ H s)(hv:Vals ys its)(hz:ys.length<=sizeLine):
  Inv X pins σ (upd H s.heap.objs.size (.lst ys)) { s with heap:=s.heap.push { cls:=.type "list",data:=.seq its.toArray },toks:=t' }:=
 I.laid (λ_ _ q=>Heap.get?_push_of_some _ q) (Nat.le_refl _) ⟨hz,its,0,hv,Heap.get?_push_size _ rfl⟩
theorem Inv.fresh(I:Inv X pins σ H s):H s.heap.objs.size=none:=I.hok.fresh (Nat.le_refl _)
theorem Inv.lstM(I:Inv X pins σ H s)(hH:H l=some (.lst xs)):xs.length<=sizeLine/\∃(its:List Value) (n:Nat),Vals xs its/\xs.length=its.length/\s.heap.get? l=some { cls:=.type "list",data:=.seq its.toArray n }:=by
 obtain⟨z,its,n,r,e⟩:=I.hok l _ hH
 exact⟨z,its,n,r,r.length,e⟩
theorem Zg8{n:Nat}(h:n<=sizeLine):Builtin.List.listTooLong n=false:=by
 unfold Builtin.List.listTooLong
 exact decide_eq_false (by omega)
end
section
variable{X:Cx}
noncomputable def ZiC:V->List V->Hp->VK->Prop:=λx vs H Q=>∃l xs y,x=.ref l/\vs=[y]/\H l=some (.lst xs)/\xs.length<sizeLine/\Q .non (upd H l (.lst (xs++[y])))
theorem Zfo:MtM X "list.append" ZiC:=by
 intro pins s σ H x vs v us Q I rx rv h
 obtain⟨l,xs,y,rfl,rfl,hH,hz,q⟩:=h
 cases rx
 obtain⟨u,rfl,ru⟩:=rv.one
 obtain⟨z,its,n,r,hl,e⟩:=I.lstM hH
 refine call_meets F.slot_list_append ⟨_,e,rfl⟩ F.entry_list_append (F.args_list_append_2 _ _) (PySem.list_append l its.toArray n u (by rw[List.size_toArray];omega)) ⟨e,?_⟩
 refine⟨.non,_,I.lset (its':=its++[u]) hH e (by simp) (r.append (.cons ru .nil)) ?_,rfl,q⟩
 rw[List.length_append,List.length_singleton]
 omega
noncomputable def rPopAt:V->List V->Hp->VK->Prop:=λx vs H Q=>∃l xs i k y,x=.ref l/\vs=[.int i]/\H l=some (.lst xs)/\-(2^63)<=i/\i<2^63/\seqIndex? i xs.length=some k/\xs[k]?=some y/\Q y (upd H l (.lst (xs.eraseIdx k)))
theorem Zhb:MtM X "list.pop" rPopAt:=by
 intro pins s σ H x vs v us Q I rx rv h
 obtain⟨l,xs,i,k,y,rfl,rfl,hH,h1,h2,hk,hy,q⟩:=h
 cases rx
 obtain⟨u,rfl,ru⟩:=rv.one
 obtain⟨t,rfl⟩:=ru
 obtain⟨z,its,n,r,hl,e⟩:=I.lstM hH
 obtain⟨w,hw,rw'⟩:=r.get hy
 refine call_meets F.slot_list_pop ⟨_,e,rfl⟩ F.entry_list_pop (F.args_list_pop_2 _ _)
  (MeetsSeq.list_pop_at l its.toArray n i t k w (fitsIndex_both h1 h2) (by rw[List.size_toArray,<-hl];exact hk) (by rw[<-Array.getElem?_toList];exact hw) (by rw[List.size_toArray];omega)) ⟨e,?_⟩
 refine⟨y,_,I.lset (its':=its.eraseIdx k) hH e ?_ (r.eraseIdx k) ?_,rw',q⟩
 ·show its.toArray.eraseIdxIfInBounds k=(its.eraseIdx k).toArray
  rw[List.eraseIdxIfInBounds_toArray]
 ·have:=ZbR xs k
  omega
noncomputable def rClear:V->List V->Hp->VK->Prop:=λx vs H Q=>∃l xs,x=.ref l/\vs=[]/\H l=some (.lst xs)/\Q .non (upd H l (.lst []))
theorem Zhc:MtM X "list.clear" rClear:=by
 intro pins s σ H x vs v us Q I rx rv h
 obtain⟨l,xs,rfl,rfl,hH,q⟩:=h
 cases rx
 have hus:=rv.zero
 subst hus
 obtain⟨z,its,n,r,hl,e⟩:=I.lstM hH
 refine call_meets F.slot_list_clear ⟨_,e,rfl⟩ F.entry_list_clear (F.args_list_clear_1 _) (AutoSeq1.list_clear_list_0 l its.toArray n (by rw[List.size_toArray];omega)) ⟨e,?_⟩
 exact⟨.non,_,I.lset (its':=[]) (ys:=[]) hH e rfl .nil (Nat.zero_le _),rfl,q⟩
noncomputable def rCat:R2:=λx y H Q=>∃l b xs zs,x=.ref l/\y=.ref b/\H l=some (.lst xs)/\H b=some (.lst zs)/\xs.length+zs.length<=sizeLine/\∀p,H p=none->Q (.ref p) (upd H p (.lst (xs++zs)))
theorem op_cat:OpR X (binaryOp .Add) rCat:=by
 intro pins s σ H x y v u Q I rx ry h
 obtain⟨l,b,xs,zs,rfl,rfl,hH,hB,hz,q⟩:=h
 cases rx
 cases ry
 obtain⟨z,its,n,r,hl,e⟩:=I.lstM hH
 obtain⟨z2,its2,n2,r2,hl2,e2⟩:=I.lstM hB
 refine PySem.P.add_list e e2 ?_ (by rw[List.size_toArray,List.size_toArray];omega)
 have ea:its.toArray++its2.toArray=(its++its2).toArray:=by simp
 rw[ea]
 exact⟨.ref _,_,I.lnew (t':=s.toks) (r.append r2) (by rw[List.length_append];omega),rfl,q _ I.fresh⟩
noncomputable def rRep:R2:=λx y H Q=>∃l k xs,x=.ref l/\y=.int k/\H l=some (.lst xs)/\-(2^63)<=k/\k<2^63/\xs.length*k.toNat<=sizeLine /\
 ∀p,H p=none->Q (.ref p) (upd H p (.lst (List.replicate k.toNat xs).flatten))
theorem len_rep{α:Type}(xs:List α)(k:Nat):(List.replicate k xs).flatten.length=k*xs.length:=by
 induction k with
 |zero=>simp
 |succ k ih=>rw[List.replicate_succ,List.flatten_cons,List.length_append,ih,Nat.succ_mul,Nat.add_comm]
theorem op_rep:OpR X (binaryOp .Mult) rRep:=by
 intro pins s σ H x y v u Q I rx ry h
 obtain⟨l,k,xs,rfl,rfl,hH,h1,h2,hz,q⟩:=h
 cases rx
 obtain⟨t,rfl⟩:=ry
 obtain⟨z,its,n,r,hl,e⟩:=I.lstM hH
 have hlen:its.toArray.size*k.toNat<=sizeLine:=by rw[List.size_toArray,<-hl];exact hz
 have hcap:¬its.toArray.size*k.toNat>(2^63-1) / 8:=by
  have:(sizeLine:Nat)<=(2^63-1) / 8:=by decide
  omega
 have hfit:¬(!Builtin.List.listFitsIndex k)=true:=by
  rw[fitsIndex_both h1 h2]
  exact Bool.false_ne_true
 have hlong:¬Builtin.List.listTooLong (its.toArray.size*k.toNat)=true:=by
  rw[Zg8 hlen]
  exact Bool.false_ne_true
 have hnew:List.foldl (λx1 x2=>x1++x2) #[] (List.replicate (if its.toArray.isEmpty=true then 0 else k.toNat) its.toArray)=(List.replicate k.toNat its).flatten.toArray:=by
  have f0:∀m:Nat,List.foldl (λx1 x2=>x1++x2) #[] (List.replicate m its.toArray)=(List.replicate m its).flatten.toArray:=λm=>by
   have:=foldl_rep its m []
   rw[List.nil_append]at this
   exact this
  rw[f0]
  cases its with
  |nil=>simp
  |cons a r'=>rw[if_neg (by simp)]
 refine wpAny_binaryOp_repeat_ref (T:="list") (U:="int") (by decide) ⟨_,e,rfl⟩ (λs'=>typeIs_int s' k t) noFill_list_mul F.fills_int_mul F.slot_int_rmul repeat_list F.slot_int_index.lookup
  (call_meets F.slot_int_rmul (typeIs_int s k t) F.entry_int_rmul (F.args_int_rmul_2 _ _) (int___rmul___int_list k t l its.toArray n)
   ⟨e,rfl,⟨_,e,rfl⟩,call_meets F.slot_list_mul ⟨_,e,rfl⟩ F.entry_list_mul (F.args_list_mul_2 _ _) (AutoListH.list___mul___list_int_3 l its.toArray n k t hfit hcap hlong) ⟨e,?_⟩⟩)
 rw[hnew]
 exact⟨.ref _,_,I.lnew (t':=s.toks) (r.rep k.toNat) (by rw[len_rep,Nat.mul_comm];exact hz),rfl,q _ I.fresh⟩
end
section
variable{prog:Program}{w:World}{A:Around}{E:Value->Shared->Prop}{s:Shared}
set_option maxRecDepth 100000 in
end
end L2
namespace Att
open PySem PySem.W PySem.Calls PyProof.Rows
theorem Zan{P:Params}{h:Heap}:∀(ns:List Int) (vs:List Value),WellAll P h vs (ns.map WData.int)->IntsAre vs ns:=by
 intro ns
 induction ns with
 |nil =>
  intro vs w
  rw[List.map_nil]at w
  cases w
  exact .nil
 |cons n ns ih =>
  intro vs w
  rw[List.map_cons]at w
  cases w with
  |cons a b =>
   cases a
   exact .cons _ _ (ih _ b)
theorem ZeM{l:OpenLaw}{n:Nat}(hn:l.most=some n){P:Params}{h:Heap}{args:List WData}{vals:List Value}(hpre:l.row.toRowW.claim.pre args=true)(hwl:WellAll P h vals args):
  ∃a vs ns,vals=[Value.ref a]/\args=[WData.list (ns.map WData.int)]/\h.get? a=some { cls:=.type "list",data:=.seq vs.toArray }/\IntsAre vs ns/\ns.length<=n:=by
 have hsh:WShape.hasAll [] args [.list .int]=true:=(pre_splitW hpre).1
 have hc:l.pre.holds [] { args:=args }=true:=(pre_splitW hpre).2
 obtain⟨d,r,rfl,h1,h2⟩:=hasAllW_cons hsh
 obtain rfl:=hasAllW_nil h2
 obtain⟨xs,rfl,h3⟩:=hasW_list h1
 obtain⟨ns,rfl⟩:=items_int h3
 have hlen:ns.length<=n:=by
  unfold OpenLaw.pre at hc
  have h4:(WTm.not (.lt (.lit (.int (n:Int))) (.len (.arg 0)))).holds [] { args:=[.list (ns.map .int)] }=true:=by
   have h4:=(holds_andW hc).1
   rw[hn]at h4
   exact h4
  have h5:=condW_of h4 (w_not (w_lt w_lit (w_len_list (w_arg rfl))))
  rw[List.length_map]at h5
  refine Nat.le_of_not_lt λq=>?_
  have q':(n:Int)<((ns.length:Nat):Int):=by omega
  first
   |(rw[decide_eq_true q']at h5;exact absurd h5 (by decide))
   |(simp at h5;omega)
 cases hwl with
 |cons w1 w2 =>
  cases w2
  cases w1 with
  |list ho hall=>exact⟨_,_,ns,rfl,rfl,ho,Zan ns _ hall,hlen⟩
theorem ZeV(l:OpenLaw)(args:List WData):l.row.toRowW.claim.post args (.bool true) args=true:=
 postW_of (r:=l.row.toRowW) (X:=(true==true))
  (show WShape.has [] (.bool true) .bool=true by first|rfl|decide|simp[WShape.has,WShape.arms,WShape.armsAll])
  (show(WTm.eq .res (.lit (.bool true))).value [] { args:=args,res:=some (.bool true),after:=args }=some (.bool (true==true))from w_eq_bool (w_res rfl) w_lit) rfl
theorem attach_call{l:OpenLaw}{n:Nat}{q:Program}{loose:List Str}{XP:(Str->Option Value)->Heap->Prop}{YP:World->Heap->Prop}{d:DefRec}(hn:l.most=some n)(hdf:d.params.defaults=[])(call:∀(w:World) (s₀ s₁:Shared) (mg mb:Str->Option Value) (fa:Addr) (o:Obj) (pm cd doc:Value) (a:Addr) (vs:List Value) (ns:List Int),
   Ground q loose [] XP w s₀ mg mb s₁.heap->YP w s₁.heap ->
   s₁.heap.get? fa=some o->o.data=.func (docDef d.name d.params d.body d.scope pm cd doc)->s₁.heap.CodeRec cd d.name->mg d.name=some (.ref fa) ->
   s₁.heap.get? a=some { cls:=.type "list",data:=.seq vs.toArray }->IntsAre vs ns->ns.length<=n->s₁.gens=#[] ->
   codeAny (model l.prog w) callerA (.call (.ref fa) ⟨[.ref a],[]⟩) (λr s'=>r=.ok (.ret (.bool true))/\OldK s₁.heap s'.heap/\s'.os=s₁.os/\AllBare s'.gens) s₁):
  WalkO q loose XP YP l.row.toRowW d [] (λf vs=>PySem.call f vs):=by
 intro w s₀ s₁ mg mb G Y fa o pm cd doc dV kV ho hd hcd hD hmg hg args vals as hpre hlay hrd hwl hlo
 obtain rfl:dV=.none:=Dflts.none hD hdf
 obtain rfl:kV=.none:=Dflts.noKw hD
 obtain⟨a,vs,ns,rfl,rfl,hobj,hints,hlen⟩:=ZeM hn hpre hwl
 refine enter_call (codeAny_mono (call w s₀ s₁ mg mb fa o pm cd doc a vs ns G Y ho (fd_plain hd) hcd hmg hobj hints hlen hg) λr s' hq=>?_)
 obtain⟨rfl,h2,h3,h4⟩:=hq
 exact⟨.inl ⟨.bool true,.bool true,[],rfl,λ_=>rfl,.bool true,ZeV l _,λ_=>⟨List.Pairwise.nil,λ_ hm=>(nomatch hm)⟩⟩,h2,h3,h4⟩
end Att
namespace L2
open PySem PySem.Spec PyProof.Rows
theorem Zab:∀{vs:List Value}{ns:List Int},IntsAre vs ns->Vals (ns.map V.int) vs
 |_,_,.nil=>.nil
 |_,_,.cons n t h=>.cons ⟨t,rfl⟩ (Zab h)
noncomputable def Je(s:Stmt):Arguments:=match s with
 |.FunctionDef _ a _ _ _ _ _ _ _ _=>a
 |_=>{ posonlyargs:=[],args:=[],vararg:=none,kwonlyargs:=[],kw_defaults:=[],kwarg:=none,defaults:=[] }
noncomputable def Z6(s:Stmt):List Stmt:=match s with
 |.FunctionDef _ _ b _ _ _ _ _ _ _=>b
 |_=>[]
noncomputable def Zd(s:Stmt):Scope:=match s with
 |.FunctionDef _ _ _ _ _ _ sc _ _ _=>sc
 |_=>{ kind:=.function,names:=[],isGenerator:=false,isCoroutine:=false }
noncomputable abbrev CX0:CXT:=λ_ _ _ _ _ _=>False
structure Fun (K:Frag) (x qual:Str) (st:Stmt) (f:Addr) (fd:FuncData):Prop where
 ex:∃(oc:Value) (od:Option Addr) (kV doc pm:Value) (an:Option Addr) (cdv ct:Value) (osl:Array (Option Value)),
  fd=fnOf x qual (Je st) (Z6 st) (Zd st) .none kV doc pm an cdv ct/\K.lookup f=some ⟨oc,od,.func fd,osl⟩/\codeIn K cdv qual=true
 kp:keepIn K (.ref f)=true
section
variable{P:Program}{w:World}{K:Frag}{mg:Str->Option Value}{base:Heap}
theorem Fun.binds{x qual:Str}{st:Stmt}{f:Addr}{fd:FuncData}{ps:List Str}(F:Fun K x qual st f fd)(h:∀(kV doc pm:Value) (an:Option Addr) (cdv ct:Value) (us:List Value),us.length=ps.length->bindArgs (fnOf x qual (Je st) (Z6 st) (Zd st) .none kV doc pm an cdv ct) ⟨us,[]⟩=pure (ps.zip us)):Binds K fd ps []:=by
 obtain⟨oc,od,kV,doc,pm,an,cdv,ct,osl,rfl,lk,hcd⟩:=F.ex
 exact .all (h kV doc pm an cdv ct)
theorem Zia{x qual:Str}{st:Stmt}{f:Addr}{oc:Value}{od an:Option Addr}{osl:Array (Option Value)}{kV doc pm cdv ct:Value}(l:K.lookup f=some ⟨oc,od,.func (fnOf x qual (Je st) (Z6 st) (Zd st) .none kV doc pm an cdv ct),osl⟩)(c:codeIn K cdv qual=true)(k:keepIn K (.ref f)=true):Fun K x qual st f (fnOf x qual (Je st) (Z6 st) (Zd st) .none kV doc pm an cdv ct):=⟨⟨oc,od,kV,doc,pm,an,cdv,ct,osl,rfl,l,c⟩,k⟩
end
theorem iteF{A B:Prop}(h:B):if false=true then A else B:=by
 rw[if_neg Bool.false_ne_true]
 exact h
theorem iteT{A B:Prop}(h:A):if true=true then A else B:=by
 rw[if_pos rfl]
 exact h
noncomputable def Same(H H':Hp):Prop:=∀b o,H b=some o->H' b=some o
end L2
end
namespace L2
open PySem PySem.Spec PyProof.Rows
section
variable{κ:Type}[DecidableEq κ]
noncomputable def valV(kvs:List (κ×V))(k:κ):Option V:=(kvs.find? λkv=>decide (kv.1=k)).map (·.2)
noncomputable def putK(kvs:List (κ×V))(k:κ)(v:V):List (κ×V):=
 if(kvs.any λkv=>decide (kv.1=k))=true then kvs.map (λkv=>if kv.1=k then(kv.1,v)else kv)else kvs++[(k,v)]
noncomputable def dropK(kvs:List (κ×V))(k:κ):List (κ×V):=kvs.filter λkv=>decide (kv.1≠k)
theorem ZcP{p:κ×V}{r:List (κ×V)}{k:κ}(e:p.1=k):valV (p::r) k=some p.2:=by simp[valV,List.find?_cons,e]
theorem ZcQ{p:κ×V}{r:List (κ×V)}{k:κ}(e:¬p.1=k):valV (p::r) k=valV r k:=by simp[valV,List.find?_cons,e]
theorem Zcu(kvs:List (κ×V))(k:κ)(v:V):(putK kvs k v).length<=kvs.length+1:=by
 unfold putK
 split
 ·rw[List.length_map];omega
 ·rw[List.length_append,List.length_cons,List.length_nil];omega
theorem KV.val{kvs:List (κ×V)}{vs:List (κ×Value)}(r:KV kvs vs)(k:κ):RelO (valV kvs k) (valueAt vs k):=by
 unfold KV at r
 induction r with
 |nil=>exact True.intro
 |@cons p q ps qs h t ih =>
  obtain⟨h1,h2⟩:=h
  by_cases e:p.1=k
  ·have e':q.1=k:=h1.symm.trans e
   have b:valueAt (q::qs) k=some q.2:=by simp[valueAt,List.find?_cons,e']
   rw[ZcP e,b];exact h2
  ·have e':¬q.1=k:=λz=>e (h1.trans z)
   have b:valueAt (q::qs) k=valueAt qs k:=by simp[valueAt,List.find?_cons,e']
   rw[ZcQ e,b];exact ih
theorem KV.any{kvs:List (κ×V)}{vs:List (κ×Value)}(r:KV kvs vs)(k:κ):(kvs.any λkv=>decide (kv.1=k))=vs.any λkv=>decide (kv.1=k):=by
 unfold KV at r
 induction r with
 |nil=>rfl
 |cons h t ih=>rw[List.any_cons,List.any_cons,ih,h.1]
theorem KV.repl{kvs:List (κ×V)}{vs:List (κ×Value)}(r:KV kvs vs)(k:κ){y:V}{u:Value}(ry:RelV y u):
  KV (kvs.map λkv=>if kv.1=k then(kv.1,y)else kv) (vs.map λkv=>if kv.1=k then(kv.1,u)else kv):=by
 unfold KV at r ⊢
 induction r with
 |nil=>exact .nil
 |@cons p q ps qs h t ih =>
  rw[List.map_cons,List.map_cons]
  refine .cons ?_ ih
  obtain⟨h1,h2⟩:=h
  by_cases e:p.1=k
  ·rw[if_pos e,if_pos (h1.symm.trans e)];exact⟨h1,ry⟩
  ·rw[if_neg e,if_neg (λz=>e (h1.trans z))];exact⟨h1,h2⟩
theorem KV.put{kvs:List (κ×V)}{vs:List (κ×Value)}(r:KV kvs vs)(k:κ){y:V}{u:Value}(ry:RelV y u):KV (putK kvs k y) (stored vs k u):=by
 unfold putK stored
 rw[r.any k]
 by_cases e:(vs.any λkv=>decide (kv.1=k))=true
 ·rw[if_pos e,if_pos e];exact r.repl k ry
 ·rw[if_neg e,if_neg e];exact Paired.snoc r ⟨rfl,ry⟩
end
theorem Zjx{P:Program}{w:World}{k:Key}{u:Value}(r:RelV (kV k) u):(ZX P w).is k u=true:=by
 cases k with
 |inl i=>obtain⟨t,e⟩:=(show ∃t,u=Value.int i t from r);subst e;exact Zct P w i t
 |inr x=>obtain⟨t,e⟩:=(show ∃t,u=Value.str x t from r);subst e;exact Zcs P w x t
theorem ZbX{P:Program}{w:World}:∀{ks:List Key}{us:List Value},Vals (ks.map kV) us->ItemsAre (ZX P w) ks us
 |[],_,r=>by rw[List.map_nil]at r;cases r;exact .nil
 |k::ks,_,r=>by
  rw[List.map_cons]at r
  cases r with
  |cons h t=>exact .cons (Zjx h) (ZbX t)
noncomputable abbrev KT(H:Hp):List (List Key×V)->List (List Key×Addr×Value)->Prop:=Paired λp q=>p.1=q.1/\H q.2.1=some (.tup (p.1.map kV))/\RelV p.2 q.2.2
theorem KT.val{H:Hp}{kvs:List (List Key×V)}{xs:List (List Key×Addr×Value)}(r:KT H kvs xs)(k:List Key):RelO (valV kvs k) ((atKey xs k).map (·.2)):=by
 induction r with
 |nil=>exact True.intro
 |@cons p q ps qs h t ih =>
  obtain⟨h1,_,h2⟩:=h
  by_cases e:p.1=k
  ·have e':q.1=k:=h1.symm.trans e
   have b:atKey (q::qs) k=some q.2:=by simp[atKey,List.find?_cons,e']
   rw[ZcP e,b];exact h2
  ·have e':¬q.1=k:=λz=>e (h1.trans z)
   have b:atKey (q::qs) k=atKey qs k:=by simp[atKey,List.find?_cons,e']
   rw[ZcQ e,b];exact ih
section
variable{P:Program}{w:World}{H:Hp}{h:Heap}{a:Addr}
theorem rd_of{u:HO}(ok:HOk P w H h)(e:Rd H a u):Z7 P w H h a u:=e.ok ok
theorem dk_rd{kvs:List (Key×V)}(ok:HOk P w H h)(e:Rd H a (.dK kvs)):kvs.length<=sizeLine/\(a==sysModules)=false/\∃vs,KV kvs vs/\h.DictOf (ZX P w) a vs:=
 show Z7 P w H h a (.dK kvs)from rd_of ok e
theorem Zh3{ks:List Key}(ok:HOk P w H h)(e:H a=some (.tup (ks.map kV))):(tupleKind (ZX P w)).is h ks a:=by
 obtain⟨_,its,r,o,h1,h2,⟨n,h3⟩,_⟩:=(show Z7 P w H h a (.tup (ks.map kV))from ok a _ e)
 exact⟨o,its.toArray,n,h1,h2,h3,by simpa using ZbX r⟩
theorem dt_rd{kvs:List (List Key×V)}(ok:HOk P w H h)(e:Rd H a (.dT kvs)):kvs.length<=sizeLine/\(a==sysModules)=false /\
  ∃xs,KT H kvs xs/\h.DictOfH (tupleKind (ZX P w)) a xs:=by
 obtain⟨z,y,xs,r,o,es,ep,h1,h2,h3,h4,h5⟩:=(show Z7 P w H h a (.dT kvs)from rd_of ok e)
 refine⟨z,y,xs,r,o,es,ep,h1,h2,h3,h4,λx hx=>?_,h5⟩
 have all:∀{l:List (List Key×V)}{m:List (List Key×Addr×Value)},KT H l m->∀x∈m,(tupleKind (ZX P w)).is h x.1 x.2.1:=by
  intro l m q
  induction q with
  |nil=>intro x hx;exact nomatch hx
  |@cons p q ps qs hq t ih =>
   intro x hx
   rcases List.mem_cons.mp hx with e|hx
   ·subst e
    exact Zh3 ok (by rw[<-hq.1];exact hq.2.1)
   ·exact ih x hx
 exact all r x hx
end
noncomputable def DGet(H:Hp)(a:Addr)(y:V)(r:Option V):Prop:=
 (∃kvs k,Rd H a (.dK kvs)/\y=kV k/\r=valV kvs k)∨∃kvs k b,Rd H a (.dT kvs)/\y=.ref b/\H b=some (.tup (k.map kV))/\r=valV kvs k
noncomputable def DPut(H:Hp)(a:Addr)(y v:V)(H':Hp):Prop:=
 (∃kvs k,H a=some (.dK kvs)/\y=kV k/\kvs.length<sizeLine/\H'=upd H a (.dK (putK kvs k v))) ∨
 ∃kvs k b,H a=some (.dT kvs)/\y=.ref b/\H b=some (.tup (k.map kV))/\kvs.length<sizeLine/\H'=upd H a (.dT (putK kvs k v))
theorem DGet.k{H:Hp}{a:Addr}{kvs:List (Key×V)}{k:Key}(e:H a=some (.dK kvs)):DGet H a (kV k) (valV kvs k):=.inl ⟨kvs,k,.inl e,rfl,rfl⟩
section
variable{X:Cx}{pins:List (Addr×Obj)}{σ:St}{H:Hp}{s:Shared}{a:Addr}{y v:V}{u r:Value}{o:Option V}{A:Around}{E:Value->Shared->Prop}
theorem Inv.big(I:Inv X pins σ H s):sysModules<s.heap.objs.size:=by
 have h:mainGlobals<s.heap.objs.size:=(I.mod.glob.keeps I.bk).lt
 exact Nat.lt_trans (by decide) h
theorem ZfX{Q:Value->Shared->Prop}(hu:A.units+1<cLine)(I:Inv X pins σ H s)(g:DGet H a y (some v))(ry:RelV y u)(h:∀w' s',Inv X pins σ H s'->RelV v w'->Q w' s'):
  wpAny (model X.prog X.w) A (getItem (.ref a) u) Q E s:=by
 rcases g with⟨kvs,k,e,ey,l⟩|⟨kvs,k,b,e,ey,eb,l⟩
 ·subst ey
  obtain⟨z,hd,vs,rel,dd⟩:=dk_rd I.hok e
  obtain⟨w',hw,rw'⟩:=RelO.some_of (v:=v) (o:=valueAt vs k) (by rw[l];exact rel.val k)
  exact wpAny_getItem_of (Zjx ry) dd.mapOf hw (h w' _ (I.tok _) rw')
 ·subst ey
  cases(show u=Value.ref b from ry)
  obtain⟨z,hd,xs,rel,dd⟩:=dt_rd I.hok e
  obtain⟨w',hw,rw'⟩:=RelO.some_of (v:=v) (o:=(atKey xs k).map (·.2)) (by rw[l];exact rel.val k)
  obtain⟨p,hp,hp2⟩:=Option.map_eq_some_iff.mp hw
  refine wpAny_getItem_heap (tupleKind_room_in1 hu) (Zh3 I.hok eb) dd hp ?_
  rw[hp2]
  exact h w' _ (I.tok _) rw'
theorem ZjS{h':Heap}{t':Nat}{ob:HO}(I:Inv X pins σ H s)(mu:Mut (H a))(hs:Heap.SameBut a s.heap h')(he:∃q,h'.get? a=some q)(new:Z7 X.prog X.w (upd H a ob) h' a ob):
  Inv X pins σ (upd H a ob) { s with heap:=h',toks:=t' }:=
 I.write (x:=a) (e:=a) mu (.inl rfl) (λb q hb z=>(hs.2 b hb).trans z) he new
theorem dk_new{P:Program}{w:World}{H':Hp}{h':Heap}{kvs:List (Key×V)}{vs:List (Key×Value)}(z:kvs.length<=sizeLine)(hd:(a==sysModules)=false)(rel:KV kvs vs)(dd:h'.DictOf (ZX P w) a vs):
 Z7 P w H' h' a (.dK kvs):=⟨z,hd,vs,rel,dd⟩
end
noncomputable def NoSl(i:Expr):Prop:=∀ov iv,subscripted i false ov iv=operate [ov,iv] (getItem ov iv)
theorem Zis{prog:Program}{w:World}{A:Around}{E:Value->Shared->Prop}{s:Shared}{env:Env}{value slice:Expr}{pos:Pos}{T id:String}{Q:Value->Shared->Prop}(hl:typeLookup (.type T) "__getitem__" = pure (some (.builtin id)))(hs:NoSl slice)(h:wpAny (model prog w) A (eval value env) (λo s₁=>wpAny (model prog w) A (eval slice env) (λi s₂=>s₂.TypeIs o T/\wpAny (model prog w) A (getItem o i) Q E s₂) E s₁) E s):
  wpAny (model prog w) A (eval (.Subscript value slice pos) env) Q E s:=by
 refine Subscript_ (wpAny_mono h (λo s₁ h₁=>wpAny_mono h₁ (λi s₂ h₂=>?_) λ_ _ x=>x) λ_ _ x=>x)
 obtain⟨hT,h₂⟩:=h₂
 unfold subscriptTail
 refine wpAny_bind ?_
 rw[getitemInPython_of_ne hT.not_modules]
 refine wpAny_bind (wpAny_specialOf hT hl ?_)
 have fin:wpAny (model prog w) A (subscripted slice false o i) (λr s₃=>wpAny (model prog w) A (letTemporaryGo value o r >>= λ_=>pure r) Q E s₃) E s₂:=by
  rw[hs o i]
  exact wpAny_operating (wpAny_mono h₂ (λr s₃ h₃=>wpAny_bind (wpAny_letTemporaryGo (wpAny_pure h₃))) λ_ _ x=>x)
 first
  |exact wpAny_pure (wpAny_bind fin)
  |exact wpAny_bind (wpAny_pure (wpAny_bind fin))
  |exact wpAny_bind fin
theorem ZcA{X:Cx}{pins:List (Addr×Obj)}{σ:St}{H:Hp}{s:Shared}{a:Addr}{y:V}{o:Option V}(I:Inv X pins σ H s)(g:DGet H a y o):s.TypeIs (.ref a) "dict":=by
 rcases g with⟨kvs,k,e,_,_⟩|⟨kvs,k,b,e,_,_,_⟩
 ·obtain⟨_,_,vs,_,dd⟩:=dk_rd I.hok e
  exact dd.typeIs
 ·obtain⟨_,_,xs,_,dd⟩:=dt_rd I.hok e
  exact dd.typeIs
noncomputable def tDGet(td ty:TE):TE:=λσ H Q=>td σ H λx H1=>ty σ H1 λy H2=>∃a v,x=.ref a/\DGet H2 a y (some v)/\Q v H2
section
variable{X:Cx}{o i e value:Expr}{pos pos' tpos:Pos}{td ty tv:TE}
theorem Zi2(hu:X.A.units+1<cLine)(ho:PE X o td)(hi:PE X i ty)(hs:NoSl i):PE X (.Subscript o i pos) (tDGet td ty):=by
 intro pins s σ H Q I h
 refine Zis PySem.F.slot_dict_getitem.lookup hs (thn (ho pins s σ H _ I h) λu s1 ⟨x,H1,I1,rx,q1⟩=>thn (hi pins s1 σ H1 _ I1 q1) λiv s2 ⟨y,H2,I2,ry,a,v,ex,g,q2⟩=>?_)
 subst ex
 obtain rfl:u=Value.ref a:=rx
 exact⟨ZcA I2 g,ZfX hu I2 g ry λw' s3 I3 rw'=>⟨v,H2,I3,rw',q2⟩⟩
end
theorem Zhu{P:Program}{w:World}{H:Hp}(h:Heap)(hb:sysModules<h.objs.size):Z7 P w H (h.push { cls:=.type "dict",data:=.dict #[] }) h.objs.size (.dK []):=
 ⟨Nat.zero_le _,beq_eq_false_iff_ne.mpr (Ne.symm (Nat.ne_of_lt hb)),[],.nil,Heap.DictOf.new h⟩
noncomputable def ZcT:List (TE×TE)->St->Hp->(List (V×V)->Hp->Prop)->Prop
 |[],_,H,Q=>Q [] H
 |(tk,tv)::r,σ,H,Q=>tk σ H λx H1=>tv σ H1 λy H2=>ZcT r σ H2 λps H3=>Q ((x,y)::ps) H3
noncomputable abbrev VV:List (V×V)->List (Value×Value)->Prop:=Paired λp q=>RelV p.1 q.1/\RelV p.2 q.2
noncomputable def PPs(X:Cx)(pos:Pos)(keys:List (Option Expr))(values:List Expr)(trs:List (TE×TE)):Prop:=
 ∀(pins:List (Addr×Obj)) (s:Shared) (σ:St) (H:Hp) (Q:List (V×V)->Hp->Prop),Inv X pins σ H s->ZcT trs σ H Q ->
  wpAny (model X.prog X.w) X.A (evalPairs (pairTrees keys values X.env pos)) (λvs s'=>∃ps H',Inv X pins σ H' s'/\VV ps vs/\Q ps H') X.xe s
theorem ZiO{X:Cx}{pos:Pos}:PPs X pos [] [] []:=λpins s σ H Q I h=>pairTrees_nil_walk ⟨[],H,I,.nil,h⟩
theorem ZgW{X:Cx}{pos:Pos}{k v:Expr}{ks:List (Option Expr)}{vs:List Expr}{tk tv:TE}{trs:List (TE×TE)}(hk:PE X k tk)(hv:PE X v tv)(hr:PPs X pos ks vs trs):
  PPs X pos (some k::ks) (v::vs) ((tk,tv)::trs):=λpins s σ H Q I h =>
 pairTrees_cons_walk (thn (hk pins s σ H _ I h) λu s1 ⟨x,H1,I1,rx,q1⟩=>thn (hv pins s1 σ H1 _ I1 q1) λw2 s2 ⟨y,H2,I2,ry,q2⟩ =>
  thn (hr pins s2 σ H2 _ I2 q2) λws s3 ⟨ps,H3,I3,rel,q3⟩=>⟨(x,y)::ps,H3,I3,.cons ⟨rx,ry⟩ rel,q3⟩)
noncomputable def Xu(kvs more:List (Key×V)):List (Key×V):=more.foldl (λacc kv=>putK acc kv.1 kv.2) kvs
theorem KV.merge:∀{more:List (Key×V)}{rs:List (Key×Value)}{kvs:List (Key×V)}{vs:List (Key×Value)},KV more rs->KV kvs vs->KV (Xu kvs more) (merged vs rs):=by
 intro more rs kvs vs r
 unfold KV at r
 induction r generalizing kvs vs with
 |nil=>intro q;exact q
 |@cons p q ps qs h t ih =>
  intro r0
  have e:KV (putK kvs p.1 p.2) (stored vs q.1 q.2):=by
   have:=r0.put p.1 h.2
   rw[<-h.1];exact this
  exact ih e
theorem JS:∀(more kvs:List (Key×V)),(Xu kvs more).length<=kvs.length+more.length
 |[],kvs=>by show kvs.length<=kvs.length+0;omega
 |p::r,kvs=>by
  have h1:=JS r (putK kvs p.1 p.2)
  have h2:=Zcu kvs p.1 p.2
  show(Xu (putK kvs p.1 p.2) r).length<=_
  rw[List.length_cons];omega
theorem ZaY{P:Program}{w:World}:∀{kvs:List (Key×V)}{ws:List (Value×Value)},VV (kvs.map λkv=>(kV kv.1,kv.2)) ws->∃rs,Carries (ZX P w) ws rs/\KV kvs rs
 |[],_,r=>by rw[List.map_nil]at r;cases r;exact⟨[],True.intro,.nil⟩
 |p::kvs,_,r=>by
  rw[List.map_cons]at r
  cases r with
  |@cons a b as bs h t =>
   obtain⟨rs,c,q⟩:=ZaY (P:=P) (w:=w) t
   obtain⟨b1,b2⟩:=b
   exact⟨(p.1,b2)::rs,⟨Zjx h.1,rfl,c⟩,.cons ⟨rfl,h.2⟩ q⟩
end L2
namespace Mi
open PySem PySem.Spec PyProof.Rows L2
theorem Zbj(t:SetTable)(n:Nat):(t.orStandIn n).led=t.led:=by unfold SetTable.orStandIn;split<;>rfl
theorem Zag(t:SetTable)(n:Nat)(h:t.plain=false):(t.orStandIn n).plain=false:=by unfold SetTable.orStandIn;split<;>first|exact h|rfl
theorem ZdX(t:SetTable)(es:Array (Int×Value))(h:Int)(x:Value):(layNew t es h x).2.1.led=t.led:=by
 unfold layNew
 split
 ·exact Zbj _ _
 ·rfl
theorem ZbT(t:SetTable)(es:Array (Int×Value))(h:Int)(x:Value)(hp:t.plain=false):(layNew t es h x).2.1.plain=false:=by
 unfold layNew
 split
 ·exact Zag _ _ hp
 ·rfl
theorem ZaL{t t':SetTable}{hs:Array Int}{n:Nat}{o:Array Nat}(h:t.relaid hs n=some (t',o)):t'.led=t.led/\t'.plain=t.plain:=by
 unfold SetTable.relaid SetTable.laid at h
 simp only[Option.bind_eq_bind]at h
 obtain⟨w,_,h2⟩:=Option.bind_eq_some_iff.mp h
 cases h2
 exact⟨rfl,rfl⟩
theorem ZbF(t:SetTable)(es:Array (Int×Value))(n:Nat):(relayAll t es n).2.1.led=t.led:=by
 unfold relayAll
 split
 ·rename_i t' o h
  dsimp only
  split
  ·exact(ZaL h).1
  ·rfl
 ·rfl
theorem ZaG(t:SetTable)(es:Array (Int×Value))(n:Nat)(hp:t.plain=false):(relayAll t es n).2.1.plain=false:=by
 unfold relayAll
 split
 ·rename_i t' o h
  dsimp only
  split
  ·exact(ZaL h).2.trans hp
  ·rfl
 ·rfl
structure SetE (prog:Program) (w:World) (led:Bool) (o:Obj) (D:List Str) (es:Array (Int×Value)) (ep:Nat) (t:SetTable):Prop where
 ex:o.ExactSet
 data:o.data=.set es ep t
 el:ElemsOf (PySem.strKind prog w) es.toList
 txs:(es.toList.map λe=>strOf e.2).Perm D
 nd:D.Nodup
 room:es.size<scanBound
 fits:t.fits es.size=true
 led:t.led=led
 plain:es.size≠0->t.plain=false
noncomputable def SetS(prog:Program)(w:World)(led:Bool)(h:Heap)(a:Addr)(D:List Str):Prop:=∃o es ep t,h.get? a=some o/\SetE prog w led o D es ep t
theorem Zal{x:Str}{v:Value}(h:Value.isStrOf x v=true):strOf v=x:=by
 obtain⟨t,rfl⟩:=Value.isStrOf_shape h
 rfl
section
variable{prog:Program}{w:World}{A:Around}{E:Value->Shared->Prop}{s:Shared}{led:Bool}
theorem Zgt{v:Value}(h:∃k,(PySem.strKind prog w).is k v=true):Value.isStrOf (strOf v) v=true:=by
 obtain⟨k,hk⟩:=h
 have hk:Value.isStrOf k v=true:=hk
 rw[Zal hk]
 exact hk
theorem Zda{es:List (Int×Value)}(he:ElemsOf (PySem.strKind prog w) es)(k:Str):(∃e∈es,(PySem.strKind prog w).is k e.2=true)↔k∈es.map λe=>strOf e.2:=by
 constructor
 ·rintro ⟨e,he,hk⟩
  exact List.mem_map.mpr ⟨e,he,Zal hk⟩
 ·intro h
  obtain⟨e,hm,rfl⟩:=List.mem_map.mp h
  obtain⟨⟨k,hk,_⟩,_⟩:=he e hm
  exact⟨e,hm,Zgt ⟨k,hk⟩⟩
theorem add_str{a:Addr}{D:List Str}{x:Str}{tk:Tok}{Q:Bool->Shared->Prop}(hS:SetS prog w led s.heap a D)(hroom:D.length+1<scanBound)(h:∀h' b,Heap.SameBut a s.heap h'->SetS prog w led h' a (if x∈D then D else D++[x])->Q b { s with heap:=h' }):
  wpAny (model prog w) A (setAddHashed a (.str x tk) (hashStr w x)) Q E s:=by
 obtain⟨o,es,ep,t,ho,hE⟩:=hS
 have hex:=hE.ex
 have hd:=hE.data
 have hel:=hE.el
 have hf:=hE.fits
 have hkey:(PySem.strKind prog w).is x (.str x tk)=true:=by show Value.isStrOf x (.str x tk)=true;simp[Value.isStrOf]
 have hsc:(Value.str x tk).scannable=true:=rfl
 have hlen:es.size=D.length:=by rw[<-hE.txs.length_eq,List.length_map,Array.length_toList]
 show wpAny (model prog w) A (setAddHashed a (.str x tk) ((PySem.strKind prog w).hash x)) Q E s
 unfold setAddHashed setAddHashedIn
 refine wpAny_holding (wpAny_bind (wpAny_setState_of ho hd hf ?_))
 dsimp only
 rw[byScan_of hsc hE.room hel]
 simp only[↓reduceIte]
 unfold setAddByScan
 refine wpAny_bind ?_
 refine wpAny_bind (wpAny_rule ?_)
 refine wpAny_bind (wpAny_setScan_of hkey ho hd hf hel ?_)
 cases hr:List.findIdx? (λe=>(PySem.strKind prog w).is x e.2) es.toList with
 |some j =>
  dsimp only
  obtain⟨hj,hpj,_⟩:=List.findIdx?_eq_some_iff_getElem.mp hr
  have hm:x∈D:=hE.txs.mem_iff.mp ((Zda hel x).mp ⟨_,List.getElem_mem hj,hpj⟩)
  refine wpAny_pure (wpAny_pure ?_)
  have:=h s.heap false (Heap.SameBut.refl a s.heap) (by rw[if_pos hm];exact⟨o,es,ep,t,ho,hE⟩)
  exact this
 |none =>
  dsimp only
  have hm:x∉D:=λhx=>by
   obtain⟨e,he,hp⟩:=(Zda hel x).mpr (hE.txs.mem_iff.mpr hx)
   have:=List.findIdx?_eq_none_iff.mp hr e he
   rw[hp]at this
   exact Bool.noConfusion this
  have hgw:∀(b:Bool) (s₁:Shared) (Q':Unit->Shared->Prop),Q' () s₁->wpAny (model prog w) A (match b with|true=>rule "set.scan.the-table-gave-way" | false=>pure ()) Q' E s₁:=
   λb s₁ Q' hq=>by cases b<;>first|exact wpAny_pure hq|exact wpAny_rule hq
  have hperm:=layNew_perm t es ((PySem.strKind prog w).hash x) (.str x tk)
  have hfits:=layNew_fits t es ((PySem.strKind prog w).hash x) (.str x tk)
  have hled:=ZdX t es ((PySem.strKind prog w).hash x) (.str x tk)
  have hplain:=ZbT t es ((PySem.strKind prog w).hash x) (.str x tk)
  generalize hL:layNew t es ((PySem.strKind prog w).hash x) (.str x tk)=L at hperm hfits hled hplain ⊢
  obtain⟨es1,t1,wasDummy,gave⟩:=L
  dsimp only at hperm hfits hled hplain ⊢
  rw[Array.toList_push]at hperm
  have hel1:ElemsOf (PySem.strKind prog w) es1.toList:=(hel.push hkey hsc).perm hperm
  have hsz1:es1.size=es.size+1:=by rw[<-Array.length_toList,hperm.length_eq,List.length_append,Array.length_toList];rfl
  have hb1:es1.size<scanBound:=by omega
  have hst1:(es1.toList.map λe=>strOf e.2).Perm (D++[x]):=by
   refine(hperm.map _).trans ?_
   rw[List.map_append]
   exact hE.txs.append_right _
  have hnd:(D++[x]).Nodup:=by
   rw[List.nodup_append]
   refine⟨hE.nd,by simp,λy hy z hz=>?_⟩
   rw[List.mem_singleton.mp hz]
   exact λe=>hm (e▸hy)
  -- the end,at a table that is plain no more
  have fin:∀t2:SetTable,t2.led=led->t2.plain=false->t2.fits es1.size=true->wpAny (model prog w) A (do
    storeSet a es1 t2
    if(!wasDummy&&t2.tooFull)=true then do
      (match(relayAll t2 es1 (SetTable.grown es1.size)).2.2 with|true=>rule "set.scan.the-table-gave-way" | false=>pure ())
      storeSet a (relayAll t2 es1 (SetTable.grown es1.size)).1 (relayAll t2 es1 (SetTable.grown es1.size)).2.1
      pure (some true)
     else pure (some true)) (λr s'=>match r with
      |some b=>Q b s'
      |none=>False) E s:=λt2 hl2 hp2 hf2=>by
   have hg1:(s.heap.update a (Obj.putSet es1 t2)).get? a=some { o with data:=.set es1 (ep+1) t2 }:=by
    have:=Heap.get?_update_self (Obj.putSet es1 t2) ho (by rw[putSet_of es1 t2 hd];rfl)
    rw[putSet_of es1 t2 hd]at this
    exact this
   have hsb1:=Heap.SameBut.update s.heap a (Obj.putSet es1 t2)
   refine wpAny_bind (wpAny_storeSet_of ho hd ?_ (fits_of_scanBound hb1))
   split
   ·have hp:=relayAll_perm t2 es1 (SetTable.grown es1.size)
    have hfr:=relayAll_fits t2 es1 (SetTable.grown es1.size)
    have hrl:=ZbF t2 es1 (SetTable.grown es1.size)
    have hrp:=ZaG t2 es1 (SetTable.grown es1.size) hp2
    generalize relayAll t2 es1 (SetTable.grown es1.size)=Rl at hp hfr hrl hrp ⊢
    obtain⟨es2,t3,gave2⟩:=Rl
    dsimp only at hp hfr hrl hrp ⊢
    have hsz:es2.size=es1.size:=by rw[<-Array.length_toList,hp.length_eq,Array.length_toList]
    refine wpAny_bind (hgw _ _ _ ?_)
    refine wpAny_bind (wpAny_storeSet_of hg1 rfl ?_ (fits_of_scanBound (by omega)))
    have hg2:((s.heap.update a (Obj.putSet es1 t2)).update a (Obj.putSet es2 t3)).get? a=some { o with data:=.set es2 (ep+1+1) t3 }:=
     Heap.get?_update_self (Obj.putSet es2 t3) hg1 rfl
    refine wpAny_pure (h _ true (hsb1.trans (Heap.SameBut.update _ a _)) ?_)
    rw[if_neg hm]
    exact⟨_,es2,_,t3,hg2,⟨hex,rfl,hel1.perm hp,(hp.map _).trans hst1,hnd,by omega,hfr,hrl.trans hl2,λ_=>hrp⟩⟩
   ·refine wpAny_pure (h _ true hsb1 ?_)
    rw[if_neg hm]
    exact⟨_,es1,_,t2,hg1,⟨hex,rfl,hel1,hst1,hnd,hb1,hf2,hl2,λ_=>hp2⟩⟩
  refine wpAny_bind (hgw _ _ _ ?_)
  have done:∀{r:Option Bool}{s':Shared},(match r with
    |some b=>Q b s'
    |none=>False)->wpAny (model prog w) A (match r with
     |some added=>pure added
     |none=>setAddHashedIn a (.str x tk) ((PySem.strKind prog w).hash x) 99999) Q E s':=λ{r s'} hr=>by
   cases r with
   |none=>exact hr.elim
   |some b=>exact wpAny_pure hr
  split
  ·refine wpAny_bind ?_
   rw[hashByValue_scannable 8 hsc]
   refine wpAny_pure ?_
   exact wpAny_mono (fin { t1 with plain:=false } (hled.trans hE.led) rfl (SetTable.fits_plain_off hfits)) (λr s' hr=>done hr) λ_ _ e=>e
  ·rename_i hpl
   refine wpAny_bind (wpAny_pure ?_)
   simp only[↓reduceIte]
   exact wpAny_mono (fin t1 (hled.trans hE.led) (by simpa using hpl) hfits) (λr s' hr=>done hr) λ_ _ e=>e
noncomputable def dd(val:Nat->Str):Nat->List Str
 |0=>[]
 |i+1=>if val i∈dd val i then dd val i else dd val i++[val i]
set_option maxHeartbeats 3200000 in
end
section
variable{M:Model}{A:Around}{E:Value->Shared->Prop}{s:Shared}
theorem ZaM{α:Type}:∀(l:List α) (i:Nat) (h:i<l.length),(l[i]::l.eraseIdx i).Perm l
 |_::_,0,_=>.refl _
 |x::l,i+1,h=>by
  have h':i<l.length:=by simpa using h
  show(l[i]::x::l.eraseIdx i).Perm (x::l)
  exact(List.Perm.swap ..).trans ((ZaM l i h').cons x)
end
section
variable{prog:Program}{w:World}{A:Around}{E:Value->Shared->Prop}{s:Shared}
noncomputable def Zj9(h:Heap)(it a:Addr)(first:Value)(i n ep:Nat):Prop:=∃o,h.get? it=some o/\o.cls=.type "set_iterator"/\o.data=.fields #[first,.int i 0,.ref a,.int n 0,.int ep 0]
inductive SetIt (w:World) (h:Heap) (it a tp:Addr) (vs:List Value) (i:Nat):Prop where
 |drawn {o:Obj}{es:Array (Int×Value)}{ep:Nat}{t:SetTable}{pl:Array Value}:Zj9 h it a (.ref tp) i es.size ep->h.get? a=some o->o.data=.set es ep t->t.fits es.size=true->h.IsTuple tp pl ->
  (∀(k:Nat) v,vs[k]?=some v->∃(pp:Nat) (e:Int×Value),pl[k]?=some (.int pp 0)/\es[pp]?=some e/\e.2=v)->pl.size=vs.length->SetIt w h it a tp vs i
 |text {o:Obj}{es:Array (Int×Value)}{ep:Nat}{t:SetTable}:w.params.followText "set-order" = true->Zj9 h it a (.int (0:Nat) 0) i es.size ep->h.get? a=some o->o.data=.set es ep t->t.fits es.size=true ->
  vs=(pickOrder (w.params.setOrder a ep) es).toList.map (·.2)->SetIt w h it a tp vs i
 |few {o:Obj}{es:Array (Int×Value)}{ep:Nat}{t:SetTable}{sl:Nat}:w.params.followText "set-order" = false->t.led=true->Zj9 h it a (.int sl 0) i es.size ep->h.get? a=some o->o.data=.set es ep t->t.fits es.size=true->es.size<=1 ->
  vs=es.toList.map (·.2)->(i=0/\sl=0∨i=1/\es.size=1/\∃j,t.place=#[j]/\sl=j+1)->SetIt w h it a tp vs i
end
end Mi
namespace Mi
open PySem
inductive T where
 |non|bl (b:Bool)|int (i:Int)|str (cs:List Nat)
 |tup (ts:List T)|lst (ts:List T)
 |dct (ks:List L2.Key) (ts:List T)
 |scr (ns:List Int)
 deriving Inhabited
inductive W where
 |t (x:T)|c (i:Nat)|f (a:Nat)|x (cls:Nat) (nms:List Str) (ts:List T)
 deriving Inhabited
noncomputable abbrev Mem:=List (Option (Bool×List T))
structure Exc where
 cls:Nat
 nms:List Str
 flds:List T
inductive Res (a:Type) where
 |ok (x:a) (m:Mem)|exc (x:Exc) (m:Mem)|stuck
noncomputable def Res.bind{a b:Type}(r:Res a)(f:a->Mem->Res b):Res b:=match r with
 |.ok x m=>f x m
 |.exc x m=>.exc x m
 |.stuck=>.stuck
noncomputable abbrev Env:=List (Option W)
inductive B where
 |len|int|str|tuple|list|all|any|sum|min2|max2|sortset|sorted|dict|range1|range2|enum|zip2
 |bool|dget|din|dnot|zip4|lenset|minl|isbis|maxl|sortt|sortn
 deriving DecidableEq
inductive Mt where
 |join|upper|append|pop|popat|insert|clear|count|get|index|split|partition|extend|reverse
 deriving DecidableEq
inductive Ty where
 |int|bool|str|tuple|list|dict
 deriving DecidableEq
inductive Tg where
 |nm (i:Nat)|tp (is:List Nat)
 deriving DecidableEq
mutual
inductive E where
 |var (i:Nat)|gl (k:Nat)|con (x:T)
 |bin (op:Operator) (a b:E)|neg (a:E)|not (a:E)
 |and (a b:E)|or (a b:E)|one (a:E)
 |cmp (op:CmpOp) (a b:E)|chn (op op':CmpOp) (a b c:E)
 |ite (c a b:E)
 |tup (es:Es)|lst (es:Es)|cel (es:Es)|celb (b:B) (es:Es)|celL (a:E)|celA (a b:E)|dsp (ks vs:Es)
 |ix (a b:E)|slc (a lo hi:E)|rev (a:E)|hole
 |call (f:Nat) (es:Es)|blt (b:B) (es:Es)|mth (b:Mt) (o:E) (es:Es)
 |isi (a:E) (ty:Ty)
 |comp (own:Nat) (keep:List Nat) (it:E) (tg:Tg) (cs:Es) (inner:E)
 |more (it:E) (tg:Tg) (cs:Es) (inner:E)
 |emit (a:E)
 |tr (a:E)
 |fnv (j:Nat)|callV (i:Nat) (tab:List (Nat×Nat)) (es:Es)
 |xat (a:E) (cs:List Nat) (nm:Str)|xis (a:E) (yes no:List Nat)
 |ptd (a b:E)
 |sortk (keep:List Nat) (a b:E)
 |fst (es:Es)|gdg (k:Nat) (e:E)|gdn (k:Nat) (neg:Bool) (e:E)|dsn (ks:List (List Nat)) (vs:Es)
inductive Es where
 |nil|cons (e:E) (es:Es)
end
noncomputable def Zv:E->Bool
 |.hole=>true
 |_=>false
inductive S where
 |done
 |asg (i:Nat) (e:E) (k:S)
 |asgT (is:List Nat) (e:E) (k:S)
 |asgC (i:Nat) (e:E) (k:S)
 |asgL (is:List Nat) (e:E) (k:S)
 |set (o i v:E) (k:S)
 |aug (i:Nat) (op:Operator) (e:E) (k:S)
 |ife (c:E) (a b k:S)
 |forr (tg:Tg) (it:E) (body k:S)
 |whil (c:E) (body k:S)
 |ret (e:E) (k:S)|retN (k:S)
 |expr (e:E) (k:S)|pass (k:S)|brk (k:S)|cont (k:S)
 |rse (c:Nat) (nms:List Str) (es:Es) (k:S)|stk
 |tri (b:S) (yes:List Nat) (nm:Option Nat) (h k:S)
noncomputable def lim:Nat:=1000000
noncomputable def nlt:List Nat->List Nat->Bool
 |[],[]=>false
 |[],_::_=>true
 |_::_,[]=>false
 |a::x,b::y=>if a<b then true else if b<a then false else nlt x y
noncomputable def b2i(b:Bool):Int:=if b then 1 else 0
mutual
noncomputable def eqT:T->T->Bool
 |.non,.non=>true
 |.bl a,.bl b=>a==b
 |.bl a,.int b=>b2i a==b
 |.int a,.bl b=>a==b2i b
 |.int a,.int b=>a==b
 |.str a,.str b=>a==b
 |.tup a,.tup b=>eqTs a b
 |.lst a,.lst b=>eqTs a b
 |_,_=>false
noncomputable def eqTs:List T->List T->Bool
 |[],[]=>true
 |a::x,b::y=>eqT a b&&eqTs x y
 |_,_=>false
end
mutual
noncomputable def Zg:Nat->T->Bool
 |_,.non=>true
 |_,.bl _=>true
 |_,.int _=>true
 |_,.str cs=>PyData.strOk ⟨cs.toArray⟩
 |n+1,.tup ts=>Zk n ts
 |n+1,.lst ts=>Zk n ts
 |_,_=>false
noncomputable def Zk:Nat->List T->Bool
 |_,[]=>true
 |n,t::ts=>Zg n t&&Zk n ts
end
noncomputable def flat:T->Bool
 |.non|.bl _|.int _|.str _=>true
 |_=>false
mutual
noncomputable def eqok:Nat->T->Bool
 |_,.non=>true
 |_,.bl _=>true
 |_,.int _=>true
 |_,.str _=>true
 |n+1,.tup ts=>ZjQ n ts
 |n+1,.lst ts=>ZjQ n ts
 |_,_=>false
noncomputable def ZjQ:Nat->List T->Bool
 |_,[]=>true
 |n,t::ts=>eqok n t&&ZjQ n ts
end
noncomputable def ZcS:T->Bool
 |.non=>false
 |.bl b=>b
 |.int i=>i != 0
 |.str cs=>!cs.isEmpty
 |.tup ts=>!ts.isEmpty
 |.lst ts=>!ts.isEmpty
 |.dct ks _=>!ks.isEmpty
 |.scr ns=>!ns.isEmpty
noncomputable def ixOf(n:Nat)(i:Int):Option Nat:=if 0<=i then(if i<n then some i.toNat else none)else if -(n:Int)<=i then some (i+n).toNat else none
noncomputable def atT{a:Type}(xs:List a)(i:Int):Option a:=(ixOf xs.length i).bind λj=>xs[j]?
noncomputable def ZfY(n d:Nat):Option Int->Nat
 |none=>d
 |some i=>if i<0 then(i+n).toNat else min i.toNat n
noncomputable def cut{a:Type}(xs:List a)(lo hi:Option Int):List a:=
 (xs.drop (ZfY xs.length 0 lo)).take (ZfY xs.length xs.length hi-ZfY xs.length 0 lo)
noncomputable def repT{a:Type}(xs:List a)(k:Nat):List a:=(List.replicate k xs).flatten
noncomputable def bigN:Nat:=(2^250)^8
noncomputable def small(i:Int):Bool:=decide (i.natAbs<2^64)
noncomputable def Xe(i j:Int):Bool:=small i || small j || (decide (i.natAbs<bigN)&&decide (j.natAbs<bigN))
noncomputable def addT:T->T->Option T
 |.int i,.int j=>some (.int (i+j))
 |.str a,.str b=>if a.length+b.length<=lim then some (.str (a++b))else none
 |.tup a,.tup b=>if a.length+b.length<=lim then some (.tup (a++b))else none
 |.lst a,.lst b=>if a.length+b.length<=lim then some (.lst (a++b))else none
 |_,_=>none
noncomputable def mulT(x y:T):Option T:=match y with
 |.int k=>match x with
  |.int i=>if Xe i k then some (.int (i*k))else none
  |.tup a=>if(-(lim:Int)<=k/\k<=lim)/\a.length*k.toNat<=lim then some (.tup (repT a k.toNat))else none
  |.lst a=>if(-(lim:Int)<=k/\k<=lim)/\a.length*k.toNat<=lim then some (.lst (repT a k.toNat))else none
  |.str a=>if(0<=k/\k<=64)/\a.length<=1000 then some (.str (repT a k.toNat))else none
  |_=>none
 |_=>none
noncomputable def intT(f:Int->Int->Option T)(x y:T):Option T:=match x with
 |.int i=>match y with
  |.int j=>f i j
  |_=>none
 |_=>none
noncomputable def binT(op:Operator)(x y:T):Option T:=
 match op with
 |.Add=>addT x y
 |.Sub=>intT (λi j=>some (.int (i-j))) x y
 |.Mult=>mulT x y
 |.FloorDiv=>intT (λi j=>if 0<j/\j<1073741824 then some (.int (i / j))else none) x y
 |.Mod=>intT (λi j=>if 0<j then some (.int (i%j))else none) x y
 |.Pow=>intT (λi j=>if 0<=j/\j<=1000/\i.natAbs<2^64 then some (.int (i^j.toNat))else none) x y
 |_=>none
noncomputable def augT(op:Operator)(x y:T):Option T:=
 match op,x,y with
 |.Add,.int i,.int j=>some (.int (i+j))
 |.Sub,.int i,.int j=>some (.int (i-j))
 |_,_,_=>none
noncomputable def Zby(x y:T):Bool:=match x,y with
 |.bl _,.int _=>false
 |.int _,.bl _=>false
 |x,y=>flat x&&flat y
noncomputable def hasT(x:T)(y:T):Option Bool:=
 match y with
 |.tup ts=>if flat x&&ts.all flat then some (ts.any λt=>eqT t x)else none
 |.lst ts=>if flat x&&ts.all flat then some (ts.any λt=>eqT t x)else if Zg 59 x&&Zk 59 ts then some (ts.any λt=>eqT t x)else none
 |_=>none
noncomputable def Zhk(f:Int->Int->Bool)(x y:T):Option Bool:=match x with
 |.int i=>match y with
  |.int j=>some (f i j)
  |_=>none
 |_=>none
noncomputable def ltT(x y:T):Option Bool:=match x with
 |.int i=>match y with
  |.int j=>some (decide (i<j))
  |_=>none
 |.str a=>match y with
  |.str b=>some (nlt a b)
  |_=>none
 |_=>none
noncomputable def inT(x y:T):Option Bool:=match x with
 |.str [a]=>match y with
  |.str b=>some (decide (a∈b))
  |y=>hasT (.str [a]) y
 |.str (a::a'::r)=>match y with
  |.str b=>some (!(Builtin.Str.occurrences ⟨b.toArray⟩ ⟨(a::a'::r).toArray⟩ 0 b.length 1).isEmpty)
  |y=>hasT (.str (a::a'::r)) y
 |x=>hasT x y
noncomputable def sameT(x y:T):Option Bool:=match y with
 |.non=>some (match x with|.non=>true|_=>false)
 |.bl b=>some (match x with|.bl a=>a==b|_=>false)
 |_=>none
noncomputable def cmpT(op:CmpOp)(x y:T):Option Bool:=
 match op with
 |.Lt=>ltT x y
 |.LtE=>Zhk (λi j=>decide (i<=j)) x y
 |.Gt=>Zhk (λi j=>decide (j<i)) x y
 |.GtE=>Zhk (λi j=>decide (j<=i)) x y
 |.Eq=>if Zby x y || (Zg 60 x&&Zg 60 y)then some (eqT x y)else none
 |.NotEq=>if Zby x y || (Zg 60 x&&Zg 60 y)then some (!eqT x y)else none
 |.In=>inT x y
 |.NotIn=>(inT x y).map (!·)
 |.Is=>sameT x y
 |.IsNot=>(sameT x y).map (!·)
noncomputable def isT(x:T)(ty:Ty):Bool:=
 match x,ty with
 |.int _,.int=>true
 |.bl _,.int=>true
 |.bl _,.bool=>true
 |.str _,.str=>true
 |.tup _,.tuple=>true
 |.lst _,.list=>true
 |.scr _,.list=>true
 |.dct _ _,.dict=>true
 |_,_=>false
noncomputable def ixT(x i:T):Option T:=
 match x,i with
 |.tup ts,.int k=>atT ts k
 |.lst ts,.int k=>atT ts k
 |.scr ns,.int k=>(atT ns k).map .int
 |.str cs,.int k=>if cs.length<=lim then(atT cs k).map λc=>.str [c]else none
 |_,_=>none
noncomputable def slT(x:T)(lo hi:Option Int):Option T:=
 match x with
 |.tup ts=>some (.tup (cut ts lo hi))
 |.lst ts=>some (.lst (cut ts lo hi))
 |.scr ns=>some (.lst ((cut ns lo hi).map .int))
 |.str cs=>if cs.length<=lim then some (.str (cut cs lo hi))else none
 |_=>none
noncomputable def insT(x:List Nat):List (List Nat)->List (List Nat)
 |[]=>[x]
 |y::r=>if nlt x y then x::y::r else if nlt y x then y::insT x r else y::r
noncomputable def ZeE(xs:List (List Nat)):List (List Nat):=xs.foldr insT []
noncomputable def insN(x:List Nat):List (List Nat)->List (List Nat)
 |[]=>[x]
 |y::r=>if nlt y x then y::insN x r else x::y::r
noncomputable def sortN(xs:List (List Nat)):List (List Nat):=xs.foldr insN []
noncomputable def strs?: List T->Option (List (List Nat))
 |[]=>some []
 |.str c::r=>(strs? r).map (c::·)
 |_=>none
noncomputable def Zit(d:Int)(w:List Nat):Int:=d+(if w==[40]then 1 else 0)-(if w==[41]then 1 else 0)
noncomputable def pgo(x:List Nat):List (List Nat)->Int->List (List Nat)->List (List (List Nat))->List (List (List Nat))
 |[],_,cur,acc=>acc++[cur]
 |w::r,d,cur,acc=>if w==x&&decide (Zit d w=0)then pgo x r (Zit d w) [] (acc++[cur])else pgo x r (Zit d w) (cur++[w]) acc
noncomputable def parted(x:List Nat)(ws:List (List Nat)):List (List (List Nat)):=pgo x ws 0 [] []
noncomputable def ptT(x y:T):Option T:=match x,y with
 |.lst ts,.str c=>(strs? ts).bind λws=>if ws.length<1000 then some (.lst ((parted c ws).map λp=>.lst (p.map .str)))else none
 |_,_=>none
noncomputable def ints?: List T->Option (List Int)
 |[]=>some []
 |.int c::r=>(ints? r).map (c::·)
 |_=>none
noncomputable def bools?: List T->Option (List Bool)
 |[]=>some []
 |.bl c::r=>(bools? r).map (c::·)
 |_=>none
noncomputable def tupI?: T->Option (List Int)
 |.tup ts=>ints? ts
 |_=>none
noncomputable def tups?: List T->Option (List (List Int))
 |[]=>some []
 |t::r=>(tupI? t).bind λk=>(tups? r).map (k::·)
noncomputable def lexI:List Int->List Int->Bool
 |[],[]=>false
 |[],_::_=>true
 |_::_,[]=>false
 |x::xs,y::ys=>if x=y then lexI xs ys else decide (x<y)
noncomputable def insI(x:List Int):List (List Int)->List (List Int)
 |[]=>[x]
 |y::r=>if lexI y x then y::insI x r else x::y::r
noncomputable def sortI(xs:List (List Int)):List (List Int):=xs.foldr insI []
noncomputable def tupT(k:List Int):T:=.tup (k.map .int)
noncomputable def sorttT(ts:List T):Option T:=(tups? ts).bind λks=>if ks.Nodup/\ks.length<=900000/\(ks.all λk=>!k.isEmpty)=true then some (.lst ((sortI ks).map tupT))else none
noncomputable def Zbv(ts:List T):Option T:=(ints? ts).bind λns=>if ns.Nodup/\ns.length<=900000 then some (.lst ((sortI (ns.map λn=>[n])).map λk=>.int (k.headD 0)))else none
noncomputable def insK(x:List Int×T):List (List Int×T)->List (List Int×T)
 |[]=>[x]
 |y::r=>if lexI y.1 x.1 then y::insK x r else x::y::r
noncomputable def ZaF(xs:List (List Int×T)):List (List Int×T):=xs.foldr insK []
noncomputable def Xm(ks:List (List Int))(ts:List T):Option T:=if ks.Nodup/\ks.length<=900000 then some (.lst ((ZaF (ks.zip ts)).map (·.2)))else none
noncomputable def joinN(sep:List Nat):List (List Nat)->List Nat
 |[]=>[]
 |[x]=>x
 |x::r=>x++sep++joinN sep r
noncomputable def upN(c:Nat):Nat:=if 97<=c/\c<=122 then c-32 else c
noncomputable def asciiN(c:Nat):Bool:=decide (c<128)
noncomputable def decI(i:Int):List Nat:=(Str.ofString (toString i)).cps.toList
noncomputable def rangeT(lo:Int)(n:Nat):List T:=(List.range n).map λk:Nat=>.int (lo+(k:Int))
noncomputable def Zez(c:Nat):List Nat->List (List Nat)
 |[]=>[[]]
 |a::r=>if a=c then[]::Zez c r else match Zez c r with
  |x::xs=>(a::x)::xs
  |[]=>[[a]]
noncomputable def fmtT:T->Option (List Nat)
 |.str cs=>some cs
 |.int i=>if i.natAbs<2^250 then some (decI i)else none
 |_=>none
noncomputable def Zh5:T->Option (List T)
 |.tup ts=>some ts
 |.lst ts=>some ts
 |.scr ns=>some (ns.map .int)
 |.str cs=>if cs.length<=lim then some (cs.map λc=>.str [c])else none
 |_=>none
noncomputable def view(w:W)(m:Mem):Option T:=match w with
 |.t x=>some x
 |.f _=>none
 |.x _ _ _=>none
 |.c i=>match m[i]? with
  |some (some (_,ts))=>some (.lst ts)
  |_=>none
noncomputable def pur(o:Option T)(m:Mem):Res W:=match o with
 |some t=>.ok (.t t) m
 |none=>.stuck
noncomputable def frz(w:W)(m:Mem):Res T:=match w with
 |.t x=>.ok x m
 |.f _=>.stuck
 |.x _ _ _=>.stuck
 |.c i=>match m[i]? with
  |some (some (false,ts))=>.ok (.lst ts) (m.set i none)
  |_=>.stuck
noncomputable def frzs:List W->Mem->Res (List T)
 |[],m=>.ok [] m
 |w::ws,m=>(frz w m).bind λt m=>(frzs ws m).bind λts m=>.ok (t::ts) m
noncomputable def views:List W->Mem->Option (List T)
 |[],_=>some []
 |w::ws,m=>(view w m).bind λt=>(views ws m).map (t::·)
noncomputable def ZJ(w:W)(m:Mem):Res (List T):=match w with
 |.f _=>.stuck
 |.x _ _ _=>.stuck
 |.t x=>match Zh5 x with
  |some ts=>.ok ts m
  |none=>.stuck
 |.c i=>match m[i]? with
  |some (some (_,ts))=>.ok ts (m.set i (some (true,ts)))
  |_=>.stuck
noncomputable def giveBack(w:W)(m0 m:Mem):Mem:=match w with
 |.t _=>m
 |.f _=>m
 |.x _ _ _=>m
 |.c i=>match m0[i]? with
  |some c=>m.set i c
  |none=>m
noncomputable def Qs(tg:Tg)(t:T)(env:Env):Option Env:=match tg with
 |.nm i=>some (env.set i (some (.t t)))
 |.tp is=>match t with
  |.tup ts=>if ts.length=is.length then some ((is.zip ts).foldl (λenv p=>env.set p.1 (some (.t p.2))) env)else none
  |_=>none
noncomputable def one1(f:T->Option T):List T->Option T
 |[x]=>f x
 |_=>none
noncomputable def two2(f:Int->Int->Option T):List T->Option T
 |[.int i,.int j]=>f i j
 |_=>none
noncomputable def bLen:T->Option T
 |.str cs=>if cs.length<=lim then some (.int cs.length)else none
 |.tup ts=>some (.int ts.length)
 |.lst ts=>some (.int ts.length)
 |.scr ns=>some (.int ns.length)
 |_=>none
noncomputable def figV(cs:List Nat):Int:=((cs.foldl (λn c=>n*10+(c-48)) 0:Nat):Int)
noncomputable def bInt:T->Option T
 |.int i=>some (.int i)
 |.bl b=>some (.int (b2i b))
 |.str cs=>if cs≠[]/\cs.length<=600/\cs.all (λc=>decide (48<=c)&&decide (c<=57))=true then some (.int (figV cs))else none
 |_=>none
noncomputable def bStr:T->Option T
 |.int i=>if i.natAbs<2^250 then some (.str (decI i))else none
 |_=>none
noncomputable def bTup:T->Option T
 |.tup ts=>some (.tup ts)
 |.lst ts=>some (.tup ts)
 |.str cs=>if cs.length<=lim then some (.tup (cs.map λc=>.str [c]))else none
 |_=>none
noncomputable def bLst:T->Option T
 |.tup ts=>some (.lst ts)
 |.lst ts=>some (.lst ts)
 |_=>none
noncomputable def Zbk(f:List T->Option T):T->Option T
 |.lst ts=>f ts
 |_=>none
noncomputable def bRng:T->Option T
 |.int i=>if i<2^62/\-(2^62)<=i then some (.lst (rangeT 0 i.toNat))else none
 |_=>none
noncomputable def zipL(xs ys:List T):List T:=List.zipWith (λx y=>.tup [x,y]) xs ys
noncomputable def zipT:List T->Option T
 |[.tup xs,.tup ys]=>if xs.length=ys.length/\xs.length<=lim then some (.lst (zipL xs ys))else none
 |_=>none
noncomputable def Zep(a b c d:List T):List T:=(a.zip (b.zip (c.zip d))).map λp=>.tup [p.1,p.2.1,p.2.2.1,p.2.2.2]
noncomputable def zip4T:List T->Option T
 |[.lst a,.lst b,.lst c,.lst d]=>if(a.length=b.length/\a.length=c.length/\a.length=d.length)/\a.length<=lim then some (.lst (Zep a b c d))else none
 |_=>none
noncomputable def Zd5(xs:List T):List T:=List.zipWith (λ(k:Nat) x=>T.tup [.int (k:Int),x]) (List.range xs.length) xs
noncomputable def lensT(ts:List T):Option T:=(strs? ts).bind λxs=>if xs.length<64 then some (.int ((ZeE xs).length:Int))else none
noncomputable def minI(n:Int)(ns:List Int):Int:=ns.foldl (λa b=>if b<a then b else a) n
noncomputable def minlT(ts:List T):Option T:=(ints? ts).bind λns=>match ns with
 |[]=>none
 |n::r=>if r.length<64 then some (.int (minI n r))else none
noncomputable def maxI(n:Int)(ns:List Int):Int:=ns.foldl (λa b=>if a<b then b else a) n
noncomputable def maxlT(ts:List T):Option T:=(ints? ts).bind λns=>match ns with
 |[]=>none
 |n::r=>if r.length<64 then some (.int (maxI n r))else none
noncomputable def bIsb:T->Option T
 |.bl _=>some (.bl true)
 |.int _=>some (.bl true)
 |.str _=>some (.bl true)
 |_=>none
noncomputable def keyT:T->Option L2.Key
 |.int i=>some (.inl i)
 |.str cs=>some (.inr ⟨cs.toArray⟩)
 |_=>none
noncomputable def pairs?: List T->Option (List (List Nat×T))
 |[]=>some []
 |.tup [.str k,v]::ts=>(pairs? ts).map ((k,v)::·)
 |_=>none
noncomputable def dctT(ps:List (List Nat×T)):T:=.dct (ps.map λp=>.inr ⟨p.1.toArray⟩) (ps.map (·.2))
noncomputable def bDict:T->Option T
 |.tup ts=>(pairs? ts).bind λps=>if ts.length<=lim/\(ps.map (·.1)).Nodup then some (dctT ps)else none
 |_=>none
noncomputable def Q9(ks:List L2.Key)(ts:List T)(k:L2.Key):Option T:=((ks.zip ts).find? λp=>decide (p.1=k)).map (·.2)
noncomputable def dGetT:List T->Option T
 |[.dct ks vs,x]=>(keyT x).bind (Q9 ks vs)
 |_=>none
noncomputable def dInT(neg:Bool):List T->Option T
 |[x,.dct ks vs]=>(keyT x).map λk=>.bl (if neg then !(Q9 ks vs k).isSome else(Q9 ks vs k).isSome)
 |_=>none
noncomputable def gDct(o:Option T)(f:List L2.Key->List T->Option T):Option T:=match o with
 |some (.dct ks vs)=>f ks vs
 |_=>none
noncomputable def Zjj(f:List T->Option T):T->Option T
 |.lst ts=>f ts
 |.tup ts=>f ts
 |_=>none
noncomputable def bltT(b:B)(ts:List T):Option T:=
 match b with
 |.len=>one1 bLen ts
 |.int=>one1 bInt ts
 |.str=>one1 bStr ts
 |.tuple=>one1 bTup ts
 |.list=>one1 bLst ts
 |.all=>one1 (Zjj λts=>(bools? ts).map λbs=>.bl (bs.all id)) ts
 |.any=>one1 (Zjj λts=>(bools? ts).map λbs=>.bl (bs.any id)) ts
 |.sum=>one1 (Zbk λts=>(ints? ts).map λns=>.int ns.sum) ts
 |.sortset=>one1 (Zbk λts=>(strs? ts).bind λxs=>if xs.length<64 then some (.lst ((ZeE xs).map .str))else none) ts
 |.sorted=>one1 (Zbk λts=>(strs? ts).bind λxs=>if xs.length<64 then some (.lst ((sortN xs).map .str))else none) ts
 |.min2=>two2 (λi j=>some (.int (if j<i then j else i))) ts
 |.max2=>two2 (λi j=>some (.int (if j>i then j else i))) ts
 |.range1=>one1 bRng ts
 |.zip2=>zipT ts
 |.dict=>one1 bDict ts
 |.zip4=>zip4T ts
 |.enum=>one1 (Zbk λts=>if ts.length<=lim then some (.lst (Zd5 ts))else none) ts
 |.lenset=>one1 (Zjj lensT) ts
 |.minl=>one1 (Zbk minlT) ts
 |.sortt=>one1 (Zbk sorttT) ts
 |.sortn=>one1 (Zbk Zbv) ts
 |.maxl=>one1 (Zbk maxlT) ts
 |.isbis=>one1 bIsb ts
 |.dget=>dGetT ts
 |.din=>dInT false ts
 |.dnot=>dInT true ts
 |.range2=>two2 (λi j=>if(i<2^62/\-(2^62)<=i)/\j<2^62/\-(2^62)<=j then some (.lst (rangeT i (j-i).toNat))else none) ts
 |_=>none
noncomputable def ofBl(f:Bool->Option T):T->Option T
 |.bl b=>f b
 |_=>none
noncomputable def idxT(xs:List T)(b:Bool):Option T:=(bools? xs).bind λbs=>if bs.length<=lim then(bs.findIdx? (·==b)).map λk=>.int (k:Int)else none
noncomputable def cntT(xs:List T)(b:Bool):Option T:=(bools? xs).bind λbs=>if bs.length<=lim then some (.int ((bs.countP (·==b):Nat):Int))else none
noncomputable def cntS(xs:List T)(b:List Nat):Option T:=(strs? xs).bind λbs=>if bs.length<=lim then some (.int ((bs.countP (·==b):Nat):Int))else none
noncomputable def cntO(xs:List T):T->Option T
 |.bl b=>cntT xs b
 |.str b=>cntS xs b
 |_=>none
noncomputable def mthT(b:Mt)(o:T)(ts:List T):Option T:=
 match b with
 |.join=>match o with
  |.str sep=>one1 (Zbk λxs=>(strs? xs).bind λys=>if(ys.map List.length).sum+ys.length*sep.length<=lim then some (.str (joinN sep ys))else none) ts
  |_=>none
 |.index=>match o with
  |.lst xs=>one1 (ofBl (idxT xs)) ts
  |_=>none
 |.count=>match o with
  |.lst xs=>one1 (cntO xs) ts
  |_=>none
 |.get=>match o with
  |.dct ks vs=>one1 (λx=>(keyT x).map λk=>(Q9 ks vs k).getD .non) ts
  |_=>none
 |.split=>match o with
  |.str cs=>match ts with
   |[.str [c]]=>if cs.length<=900000 then some (.lst ((Zez c cs).map .str))else none
   |_=>none
  |_=>none
 |.upper=>match o with
  |.str cs=>match ts with
   |[]=>if cs.all asciiN&&decide (cs.length<=lim)then some (.str (cs.map upN))else none
   |_=>none
  |_=>none
 |_=>none
noncomputable def mutM(b:Mt)(xs:List T)(ts:List T):Option (T×List T):=
 match b,ts with
 |.append,[t]=>if xs.length<lim then some (.non,xs++[t])else none
 |.extend,[.lst ys]=>if xs.length+ys.length<=lim then some (.non,xs++ys)else none
 |.insert,[.int i,t]=>if 0<=i/\i<=xs.length/\xs.length<lim then some (.non,xs.take i.toNat++t::xs.drop i.toNat)else none
 |.clear,[]=>some (.non,[])
 |.popat,[.int i]=>match ixOf xs.length i with
  |some k=>(xs[k]?).map λt=>(t,xs.eraseIdx k)
  |none=>none
 |.pop,[]=>match xs.getLast? with
  |some t=>some (t,xs.dropLast)
  |none=>none
 |_,_=>none
noncomputable def doM(b:Mt)(o:W)(ws:List W)(m:Mem):Res W:=match b with
 |.append|.pop|.popat|.insert|.clear|.extend|.reverse=>match o with
  |.c i=>(frzs ws m).bind λts m=>match m[i]? with
   |some (some (false,xs))=>match mutM b xs ts with
    |some (t,ys)=>.ok (.t t) (m.set i (some (false,ys)))
    |none=>.stuck
   |_=>.stuck
  |.t _=>.stuck
  |.f _=>.stuck
  |.x _ _ _=>.stuck
 |_=>pur ((view o m).bind λx=>(views ws m).bind λts=>mthT b x ts) m
noncomputable def addC(x y:W)(m:Mem):Res W:=match(view x m).bind λx=>(view y m).bind λy=>addT x y with
 |some (.lst ts)=>.ok (.c m.length) (m++[some (false,ts)])
 |_=>.stuck
noncomputable def setM(o i v:W)(m:Mem):Res Unit:=match o,i with
 |.c c,.t (.int k)=>(frz v m).bind λt m=>match m[c]? with
  |some (some (false,xs))=>match ixOf xs.length k with
   |some j=>.ok () (m.set c (some (false,xs.set j t)))
   |none=>.stuck
  |_=>.stuck
 |_,_=>.stuck
noncomputable def intP(w:W)(m:Mem):Res (Option Int):=match w with
 |.t (.int i)=>.ok (some i) m
 |_=>.stuck
noncomputable def dspT(ks vs:List W)(m:Mem):Res W:=match ks,vs with
 |[],[]=>.ok (.t (.dct [] [])) m
 |[.t k],[.t v]=>match keyT k with
  |some kk=>.ok (.t (.dct [kk] [v])) m
  |none=>.stuck
 |_,_=>.stuck
noncomputable def tyM(b:Mt)(w:W)(m:Mem):Bool:=match b with
 |.join|.upper|.split|.partition=>match view w m with
  |some (.str _)=>true
  |_=>false
 |.append|.pop|.popat|.insert|.clear|.extend|.reverse=>match w with
  |.c i=>match m[i]? with
   |some (some _)=>true
   |_=>false
  |_=>false
 |.count|.index=>match view w m with
  |some (.lst _)=>true
  |_=>false
 |.get=>match view w m with
  |some (.dct _ _)=>true
  |_=>false
noncomputable def Q7(f:Env->Mem->Res (List T))(tg:Tg):List T->Env->Mem->Res (List T)
 |[],_,m=>.ok [] m
 |t::ts,env,m=>match Qs tg t env with
  |none=>.stuck
  |some env'=>(f env' m).bind λxs m=>(Q7 f tg ts env m).bind λys m=>.ok (xs++ys) m
noncomputable def keyL(w:W):Option (List Int):=match w with
 |.t (.lst us)=>ints? us
 |_=>none
noncomputable def JR(f:Env->Mem->Res W)(kept:Env):List T->Mem->Res (List (List Int))
 |[],m=>.ok [] m
 |t::ts,m=>(f (some (.t t)::kept) m).bind λw m=>match keyL w with
  |some k=>(JR f kept ts m).bind λks m=>.ok (k::ks) m
  |none=>.stuck
noncomputable def Res.only{a:Type}(r:Res a):Res a:=match r with
 |.exc _ _=>.stuck
 |r=>r
inductive Flow where
 |next (env:Env)|ret (w:W)|brk (env:Env)|cont (env:Env)
noncomputable def Z1(f:Env->Mem->Res Flow)(tg:Tg):List T->Env->Mem->Res Flow
 |[],env,m=>.ok (.next env) m
 |t::ts,env,m=>match Qs tg t env with
  |none=>.stuck
  |some env=>(f env m).bind λfl m=>match fl with
   |.next env=>Z1 f tg ts env m
   |.cont env=>Z1 f tg ts env m
   |.brk env=>.ok (.next env) m
   |.ret w=>.ok (.ret w) m
noncomputable def Qm(c:Env->Mem->Res Bool)(f:Env->Mem->Res Flow):Nat->Env->Mem->Res Flow
 |0,_,_=>.stuck
 |n+1,env,m=>(c env m).bind λb m=>if b then(f env m).bind λfl m=>match fl with
   |.next env=>Qm c f n env m
   |.cont env=>Qm c f n env m
   |.brk env=>.ok (.next env) m
   |.ret w=>.ok (.ret w) m
  else .ok (.next env) m
noncomputable def turns:Nat:=1000000
noncomputable def fitT:T->Bool
 |.str cs=>decide (cs.length<=lim)
 |_=>true
noncomputable def ZZ(w:W)(m:Mem):Res Bool:=match view w m with
 |some t=>if fitT t then .ok (ZcS t) m else .stuck
 |none=>.stuck
noncomputable def Zeg(w:W)(m:Mem):Res Bool:=match w with
 |.t (.bl b)=>.ok b m
 |_=>.stuck
noncomputable def Zcd(w:W)(m:Mem):Res (List T):=match w with
 |.t (.lst ts)=>.ok ts m
 |_=>.stuck
noncomputable def xatT(cs:List Nat)(nm:Str)(x:W):Option T:=match x with
 |.x c nms ts=>if c∈cs then(nms.zip ts).lookup nm else none
 |_=>none
noncomputable def xisT(yes no:List Nat)(x:W):Option T:=match x with
 |.x c _ _=>if c∈yes then some (.bl true)else if c∈no then some (.bl false)else none
 |_=>none
noncomputable def hEnv(n:Nat)(nm:Option Nat)(x:Exc):Env:=match nm with
 |some i=>(List.replicate n none).set i (some (.x x.cls x.nms x.flds))
 |none=>List.replicate n none
noncomputable def unE(nm:Option Nat)(env:Env):Env:=match nm with
 |some i=>env.set i none
 |none=>env
noncomputable def fmtW(acc:List Nat)(w:W)(m:Mem):Res (List Nat):=match(view w m).bind fmtT with
 |some a=>if acc.length+a.length<=lim then .ok (acc++a) m else .stuck
 |none=>.stuck
noncomputable def treeW(w:W)(m:Mem):Res W:=match w with
 |.t x=>.ok (.t x) m
 |.c _=>.stuck
 |.f _=>.stuck
 |.x _ _ _=>.stuck
noncomputable def Zjq(gv:List T)(a:Nat):List (Nat×Nat)->Option Nat
 |[]=>none
 |(j,k)::r=>match gv[j]? with
  |some (.int b)=>if b=(a:Int)then some k else Zjq gv a r
  |_=>Zjq gv a r
section
variable(call:Nat->List W->Mem->Res W) (gv:List T)
mutual
noncomputable def ev:E->Env->Mem->Res W
 |.var i,env,m=>match env[i]? with
  |some (some w)=>.ok w m
  |_=>.stuck
 |.gl k,_,m=>pur gv[k]? m
 |.con t,_,m=>.ok (.t t) m
 |.bin op a b,env,m=>(ev a env m).bind λx m=>(ev b env m).bind λy m=>pur ((view x m).bind λx=>(view y m).bind λy=>binT op x y) m
 |.neg a,env,m=>(ev a env m).bind λx m=>pur ((view x m).bind λx=>match x with
  |.int i=>some (.int (-i))
  |_=>none) m
 |.not a,env,m=>(ev a env m).bind λx m=>(Zeg x m).bind λk m=>.ok (.t (.bl (!k))) m
 |.and a b,env,m=>(ev a env m).bind λx m=>(Zeg x m).bind λk m=>if k then ev b env m else .ok (.t (.bl false)) m
 |.or a b,env,m=>(ev a env m).bind λx m=>(Zeg x m).bind λk m=>if k then .ok (.t (.bl true)) m else ev b env m
 |.one a,env,m=>ev a env m
 |.cmp op a b,env,m=>(ev a env m).bind λx m=>(ev b env m).bind λy m=>pur (((view x m).bind λx=>(view y m).bind λy=>cmpT op x y).map .bl) m
 |.chn op op' a b c,env,m=>(ev a env m).bind λx m=>(ev b env m).bind λy m =>
   match(view x m).bind λx=>(view y m).bind λy=>cmpT op x y with
   |some true=>(ev c env m).bind λz m=>pur (((view y m).bind λy=>(view z m).bind λz=>cmpT op' y z).map .bl) m
   |some false=>.ok (.t (.bl false)) m
   |none=>.stuck
 |.ite c a b,env,m=>(ev c env m).bind λx m=>(ZZ x m).bind λk m=>if k then ev a env m else ev b env m
 |.tup es,env,m=>(evs es env m).bind λws m=>(frzs ws m).bind λts m=>if ts.length<=lim then .ok (.t (.tup ts)) m else .stuck
 |.lst es,env,m=>(evs es env m).bind λws m=>(frzs ws m).bind λts m=>if ts.length<=lim then .ok (.t (.lst ts)) m else .stuck
 |.cel es,env,m=>(evs es env m).bind λws m=>(frzs ws m).bind λts m=>if ts.length<=lim then .ok (.c m.length) (m++[some (false,ts)])else .stuck
 |.celL a,env,m=>(ev a env m).bind λx m=>match view x m with
  |some (.lst ts)=>.ok (.c m.length) (m++[some (false,ts)])
  |some (.tup ts)=>.ok (.c m.length) (m++[some (false,ts)])
  |_=>.stuck
 |.celb b es,env,m=>(evs es env m).bind λws m=>match(views ws m).bind λts=>bltT b ts with
  |some (.lst ts)=>.ok (.c m.length) (m++[some (false,ts)])
  |_=>.stuck
 |.celA a b,env,m=>(ev a env m).bind λx m=>(ev b env m).bind λy m=>addC x y m
 |.dsp ks vs,env,m=>(evs ks env m).bind λkw m=>(evs vs env m).bind λvw m=>dspT kw vw m
 |.ix a b,env,m=>(ev a env m).bind λx m=>(ev b env m).bind λy m=>pur ((view x m).bind λx=>(view y m).bind λy=>ixT x y) m
 |.slc a lo hi,env,m=>(ev a env m).bind λx m=>(if Zv lo then Res.ok none m else(ev lo env m).bind intP).bind λl m =>
   (if Zv hi then Res.ok none m else(ev hi env m).bind intP).bind λh m=>pur ((view x m).bind λx=>slT x l h) m
 |.hole,_,m=>.ok (.t .non) m
 |.rev a,env,m=>(ev a env m).bind λx m=>pur ((view x m).bind λx=>match x with
  |.tup ts=>some (.tup ts.reverse)
  |.lst ts=>some (.lst ts.reverse)
  |_=>none) m
 |.call f es,env,m=>(evs es env m).bind λws m=>call f ws m
 |.blt b es,env,m=>(evs es env m).bind λws m=>pur ((views ws m).bind λts=>bltT b ts) m
 |.mth b o es,env,m=>(ev o env m).bind λx m=>if tyM b x m then(evs es env m).bind λws m=>doM b x ws m else .stuck
 |.isi a ty,env,m=>(ev a env m).bind λx m=>pur ((view x m).map λx=>.bl (isT x ty)) m
 |.comp own keep it tg cs inner,env,m=>(ev it env m).only.bind λx m0=>(ZJ x m0).bind λts m =>
   (Q7 (λenv m=>(tests cs env m).bind λk m=>if k then(ev inner env m).bind Zcd else .ok [] m) tg ts (List.replicate own none++keep.map λi=>(env[i]?).join) m).only.bind λout m =>
    if out.length<=lim then .ok (.t (.lst out)) (giveBack x m0 m)else .stuck
 |.more it tg cs inner,env,m=>(ev it env m).bind λx m0=>(ZJ x m0).bind λts m =>
   (Q7 (λenv m=>(tests cs env m).bind λk m=>if k then(ev inner env m).bind Zcd else .ok [] m) tg ts env m).bind λout m=>.ok (.t (.lst out)) (giveBack x m0 m)
 |.emit a,env,m=>(ev a env m).bind λx m=>(frz x m).bind λt m=>.ok (.t (.lst [t])) m
 |.tr a,env,m=>(ev a env m).bind treeW
 |.fnv j,_,m=>match gv[j]? with
  |some (.int a)=>.ok (.f a.toNat) m
  |_=>.stuck
 |.callV i tab es,env,m=>match env[i]? with
  |some (some (.f a))=>match Zjq gv a tab with
   |some k=>(evs es env m).bind λws m=>call k ws m
   |none=>.stuck
  |_=>.stuck
 |.xat a cs nm,env,m=>(ev a env m).bind λx m=>pur (xatT cs nm x) m
 |.xis a yes no,env,m=>(ev a env m).bind λx m=>pur (xisT yes no x) m
 |.ptd a b,env,m=>(ev a env m).bind λx m=>(ev b env m).bind λy m=>pur ((view x m).bind λx=>(view y m).bind λy=>ptT x y) m
 |.sortk keep a b,env,m=>(ev a env m).bind λx m=>match view x m with
  |some (.lst ts)=>(JR (λenv m=>ev b env m) (keep.map λi=>(env[i]?).join) ts m).only.bind λks m=>pur (Xm ks ts) m
  |_=>.stuck
 |.fst es,env,m=>(evf es [] env m).bind λcs m=>.ok (.t (.str cs)) m
 |.gdg k e,env,m=>(ev e env m).bind λx m=>pur ((view x m).bind λx=>gDct gv[k]? λks vs=>(keyT x).bind (Q9 ks vs)) m
 |.gdn k neg e,env,m=>(ev e env m).bind λx m=>pur ((view x m).bind λx=>gDct gv[k]? λks vs=>(keyT x).map λk=>.bl (if neg then !(Q9 ks vs k).isSome else(Q9 ks vs k).isSome)) m
 |.dsn ks vs,env,m=>(evs vs env m).bind λws m=>(frzs ws m).bind λts m=>if ks.length=ts.length/\ks.length<=1000/\ks.Nodup then .ok (.t (.dct (ks.map λk=>.inr ⟨k.toArray⟩) ts)) m else .stuck
noncomputable def evs:Es->Env->Mem->Res (List W)
 |.nil,_,m=>.ok [] m
 |.cons e es,env,m=>(ev e env m).bind λw m=>(evs es env m).bind λws m=>.ok (w::ws) m
noncomputable def evf:Es->List Nat->Env->Mem->Res (List Nat)
 |.nil,acc,_,m=>.ok acc m
 |.cons e es,acc,env,m=>(ev e env m).bind λw m=>(fmtW acc w m).bind λacc m=>evf es acc env m
noncomputable def tests:Es->Env->Mem->Res Bool
 |.nil,_,m=>.ok true m
 |.cons e es,env,m=>(ev e env m).bind λx m=>(ZZ x m).bind λk m=>if k then tests es env m else .ok false m
end
noncomputable def ex:S->Env->Mem->Res Flow
 |.done,env,m=>.ok (.next env) m
 |.asg i e k,env,m=>(ev call gv e env m).bind λw m=>ex k (env.set i (some w)) m
 |.asgT is e k,env,m=>(ev call gv e env m).bind λw m=>match w with
  |.t t=>match Qs (.tp is) t env with
   |some env=>ex k env m
   |none=>.stuck
  |.c _=>.stuck
  |.f _=>.stuck
  |.x _ _ _=>.stuck
 |.asgC i e k,env,m=>(ev call gv e env m).bind λw m=>match w with
  |.t (.lst ts)=>ex k (env.set i (some (.c m.length))) (m++[some (false,ts)])
  |_=>.stuck
 |.asgL is e k,env,m=>(ev call gv e env m).bind λw m=>match w with
  |.t (.lst ts)=>match Qs (.tp is) (.tup ts) env with
   |some env=>ex k env m
   |none=>.stuck
  |_=>.stuck
 |.set o i v k,env,m=>(ev call gv v env m).bind λz m=>(ev call gv o env m).bind λx m=>(ev call gv i env m).bind λy m =>
   (setM x y z m).bind λ_ m=>ex k env m
 |.aug i op e k,env,m=>match env[i]? with
  |some (some x)=>(ev call gv e env m).bind λy m=>(pur ((view x m).bind λx=>(view y m).bind λy=>augT op x y) m).bind λz m=>ex k (env.set i (some z)) m
  |_=>.stuck
 |.ife c a b k,env,m=>(ev call gv c env m).bind λx m=>(ZZ x m).bind λt m =>
   (if t then ex a env m else ex b env m).bind λfl m=>match fl with
    |.next env=>ex k env m
    |fl=>.ok fl m
 |.forr tg it body k,env,m=>(ev call gv it env m).bind λx m0=>(ZJ x m0).bind λts m =>
   (Z1 (λenv m=>ex body env m) tg ts env m).bind λfl m=>match fl with
    |.next env=>ex k env (giveBack x m0 m)
    |.ret w=>.ok (.ret w) (giveBack x m0 m)
    |_=>.stuck
 |.whil c body k,env,m=>(Qm (λenv m=>(ev call gv c env m).bind ZZ) (λenv m=>ex body env m) turns env m).bind λfl m=>match fl with
    |.next env=>ex k env m
    |fl=>.ok fl m
 |.ret e _,env,m=>(ev call gv e env m).bind λw m=>.ok (.ret w) m
 |.retN _,_,m=>.ok (.ret (.t .non)) m
 |.expr e k,env,m=>(ev call gv e env m).bind λ_ m=>ex k env m
 |.pass k,env,m=>ex k env m
 |.brk _,env,m=>.ok (.brk env) m
 |.cont _,env,m=>.ok (.cont env) m
 |.stk,_,_=>.stuck
 |.rse c nms es _,env,m=>(evs call gv es env m).bind λws m=>(frzs ws m).bind λts m=>if nms=[]then(if ts.length<=1000 then .exc ⟨c,[],[]⟩ m else .stuck)else if ts.length=nms.length then .exc ⟨c,nms,ts⟩ m else .stuck
 |.tri b yes nm h k,env,m=>match ex b env m with
  |.ok fl m=>match fl with
   |.next env=>ex k env m
   |fl=>.ok fl m
  |.exc x m=>if x.cls∈yes then(ex h (hEnv env.length nm x) m).only.bind λfl m=>match fl with
    |.next env=>ex k (unE nm env) m
    |.ret w=>.ok (.ret w) m
    |_=>.stuck
   else .stuck
  |.stuck=>.stuck
end
structure Fn where
 ps:Nat
 n:Nat
 body:S
 cell:Bool:=false
noncomputable def fin(n:Nat)(cell:Bool)(fl:Flow)(m:Mem):Res W:=match fl with
 |.ret (.t t)=>.ok (.t t) (m.take n)
 |.ret (.c i)=>if i<n then .ok (.c i) (m.take n)else match m[i]? with
  |some (some (false,ts))=>if cell then .ok (.c n) (m.take n++[some (false,ts)])else .ok (.t (.lst ts)) (m.take n)
  |_=>.stuck
 |.next _=>.ok (.t .non) (m.take n)
 |_=>.stuck
noncomputable def Jf(fns:List Fn)(gv:List T):Nat->Nat->List W->Mem->Res W
 |0,_,_,_=>.stuck
 |n+1,f,ws,m=>match fns[f]? with
  |none=>.stuck
  |some d=>if ws.length=d.ps then(ex (Jf fns gv n) gv d.body (ws.map some++List.replicate (d.n-d.ps) none) m).bind λfl m'=>fin m.length d.cell fl m' else .stuck
end Mi
namespace Mi
open PySem L2
noncomputable def Zbs:HO->Option HO->Prop
 |.tbl _,r=>∃qs,r=some (.tbl qs)
 |o,r=>r=some o
theorem Zbs.of{o:HO}{r:Option HO}(h:r=some o):Zbs o r:=by cases o<;>first|exact h|exact⟨_,h⟩
theorem Zbs.trans{o:HO}{r r':Option HO}(h:Zbs o r)(k:∀o',r=some o'->Zbs o' r'):Zbs o r':=by
 cases o with
 |tbl ps =>
  obtain⟨qs,h⟩:=h
  obtain⟨rs,h⟩:=k _ h
  exact⟨rs,h⟩
 |_=>exact k _ h
theorem Zbs.some{o:HO}{r:Option HO}(h:Zbs o r):∃o',r=some o':=by
 cases o with
 |tbl ps=>obtain⟨qs,h⟩:=h;exact⟨_,h⟩
 |_=>exact⟨_,h⟩
noncomputable def Qq:List Str:=["row_of","first_meeting"]
noncomputable def lamQ(q:Str):Str:=(q++".<locals>.")++"<lambda>"
noncomputable def QW(o:Obj):Option (Str×Addr):=match o.data with
 |.fields vs=>match vs[1]?,vs[11]? with
  |some (Value.str q _),some (Value.ref P)=>if Qq.contains q then some (q,P)else none
  |_,_=>none
 |_=>none
noncomputable def Zgj(K:Frag)(q:Str)(P:Addr):Prop:=∃c o,K.lookup c=some o/\QW o=some (q,P)/\K.lookup P=none
noncomputable def Zdq(q:Str)(H:Hp)(ps:Array Value):Prop:=TriplesOk ps.toList/\∀pos cv,codeAmong pos ps.toList=some cv->∃(c:Addr) (o:Obj) (vs:Array Value) (t:Tok) (u:HO),cv=.ref c/\H c=some (.frz o u)/\o.data=.fields vs/\vs[1]?=some (.str (lamQ q) t)
noncomputable def TabR(K:Frag)(H:Hp):Prop:=∀q P,Zgj K q P->∃ps,H P=some (.tbl ps)/\Zdq q H ps
theorem Zdq.kept{q:Str}{H H':Hp}{ps:Array Value}(h:Zdq q H ps)(k2:∀a o u,H a=some (.frz o u)->H' a=some (.frz o u)):Zdq q H' ps:=by
 refine⟨h.1,λpos cv hc=>?_⟩
 obtain⟨c,o,vs,t,u,a1,a2,a3,a4⟩:=h.2 pos cv hc
 exact⟨c,o,vs,t,u,a1,k2 _ _ _ a2,a3,a4⟩
theorem TabR.kept{K:Frag}{H H':Hp}(h:TabR K H)(k1:∀a ps,H a=some (.tbl ps)->H' a=some (.tbl ps))(k2:∀a o u,H a=some (.frz o u)->H' a=some (.frz o u)):TabR K H':=λq P e=>by
 obtain⟨ps,h1,h2⟩:=h q P e
 exact⟨ps,k1 _ _ h1,h2.kept k2⟩
theorem TabR.upd{K:Frag}{H:Hp}{a:Addr}{o:HO}(h:TabR K H)(hn:∀u,H a=some u->∃xs,u=.lst xs):TabR K (upd H a o):=
 h.kept (λb ps e=>by rw[Zw];exact e;rintro rfl;obtain⟨xs,z⟩:=hn _ e;cases z) λb o u e=>by rw[Zw];exact e;rintro rfl;obtain⟨xs,z⟩:=hn _ e;cases z
section
variable(K:Frag)
noncomputable def Zo(cm:List Addr)(m:Mem)(a:Addr):Prop:=∀(i:Nat) p,m[i]?=some (some p)->cm[i]?≠some a
noncomputable def ZaE(H:Hp)(a:Addr)(ns:List Int):Prop:=(∃o,H a=some (.frz o (.lst (ns.map V.int)))) ∨
 ∃(o:Obj) (its:Array Value) (n:Nat),K.lookup a=some o/\o.cls=.type "list"/\o.dict=none/\o.data=.seq its n/\its.size<=sizeLine/\Vals (ns.map V.int) its.toList
inductive RT (cm:List Addr) (m:Mem) (H:Hp):T->V->Prop where
 |non:RT cm m H .non .non
 |bl (b:Bool):RT cm m H (.bl b) (.bl b)
 |int (i:Int):RT cm m H (.int i) (.int i)
 |str (cs:List Nat):RT cm m H (.str cs) (.str ⟨cs.toArray⟩)
 |tup {a:Addr}{ts:List T}{vs:List V}:SqT K H a vs->ts.length=vs.length->(∀(i:Nat) t v,ts[i]?=some t->vs[i]?=some v->RT cm m H t v)->RT cm m H (.tup ts) (.ref a)
 |lst {a:Addr}{ts:List T}{vs:List V}:H a=some (.lst vs)->Zo cm m a->ts.length=vs.length->(∀(i:Nat) t v,ts[i]?=some t->vs[i]?=some v->RT cm m H t v)->RT cm m H (.lst ts) (.ref a)
 |dct {a:Addr}{ks:List Key}{ts:List T}{vs:List V}:H a=some (.dK (ks.zip vs))->Zo cm m a->ks.length=vs.length->ts.length=vs.length ->
  (∀(i:Nat) t v,ts[i]?=some t->vs[i]?=some v->RT cm m H t v)->RT cm m H (.dct ks ts) (.ref a)
 |scr {a:Addr}(ns:List Int):ZaE K H a ns->RT cm m H (.scr ns) (.ref a)
noncomputable abbrev RTs(cm:List Addr)(m:Mem)(H:Hp)(ts:List T)(vs:List V):Prop:=Paired (RT K cm m H) ts vs
noncomputable def XF(cm:List Addr)(m:Mem)(H:Hp)(nms:List Str)(ts:List T)(dx:Option Addr):Prop:=match dx with
 |none=>nms=[]/\ts=[]
 |some d=>∃vs,H d=some (.xd (nms.zip vs))/\nms.length=vs.length/\RTs K cm m H ts vs
noncomputable def RW(cm:List Addr)(m:Mem)(H:Hp):W->V->Prop
 |.t x,v=>RT K cm m H x v
 |.c i,v=>∃a,cm[i]?=some a/\v=.ref a
 |.f a,v=>v=.ref a
 |.x c nms ts,v=>∃a o u,v=.ref a/\H a=some (.frz o u)/\o.cls=.ref c/\(∃fs,o.data=.fields fs)/\XF K cm m H nms ts o.dict
noncomputable abbrev RWs(cm:List Addr)(m:Mem)(H:Hp)(ws:List W)(vs:List V):Prop:=Paired (RW K cm m H) ws vs
structure MemR (cm:List Addr) (m:Mem) (H:Hp):Prop where
 len:cm.length=m.length
 inj:∀(i j:Nat) a p q,m[i]?=some (some p)->m[j]?=some (some q)->cm[i]?=some a->cm[j]?=some a->i=j
 at':∀(i:Nat) p,m[i]?=some (some p)->∃a vs,cm[i]?=some a/\H a=some (.lst vs)/\K.lookup a=none/\RTs K cm m H p.2 vs
 tab:TabR K H
noncomputable def EnvR(cm:List Addr)(m:Mem)(H:Hp)(env:Env)(σ:L2.St):Prop:=∀(i:Nat) w,env[i]?=some (some w)->∃v,σ[i]?=some (some v)/\RW K cm m H w v
structure Ext (cm:List Addr) (m:Mem) (H:Hp) (cm':List Addr) (m':Mem) (H':Hp):Prop where
 pre:∀(i:Nat) a,cm[i]?=some a->cm'[i]?=some a
 len:m.length<=m'.length
 lent:∀(i:Nat) ts,m[i]?=some (some (true,ts))->m'[i]?=some (some (true,ts))
 keep:∀a o,H a=some o->Zo cm m a->Zbs o (H' a)/\Zo cm' m' a
end
section
variable{K:Frag}{cm cm' cm'':List Addr}{m m' m'':Mem}{H H' H'':Hp}
theorem JM{α β:Type}{F:α->β->Prop}:∀{xs:List α}{ys:List β},xs.length=ys.length->(∀(i:Nat) x y,xs[i]?=some x->ys[i]?=some y->F x y)->Paired F xs ys
 |[],[],_,_=>.nil
 |x::xs,y::ys,hl,h=>.cons (h 0 x y rfl rfl) (JM (by simpa using hl) λi a b ha hb=>h (i+1) a b (by simpa using ha) (by simpa using hb))
 |[],_::_,hl,_=>by simp at hl
 |_::_,[],hl,_=>by simp at hl
theorem Z0{α β:Type}{F:α->β->Prop}:∀{xs:List α}{ys:List β},Paired F xs ys->∀(i:Nat) x y,xs[i]?=some x->ys[i]?=some y->F x y
 |_,_,.nil,i,x,y,h,_=>by simp at h
 |_,_,.cons r t,0,x,y,h1,h2=>by simp at h1 h2;subst h1;subst h2;exact r
 |_,_,.cons r t,i+1,x,y,h1,h2=>Z0 t i x y (by simpa using h1) (by simpa using h2)
theorem Zt{α β:Type}{F:α->β->Prop}{xs:List α}{ys:List β}(h:Paired F xs ys){i:Nat}{x:α}(hx:xs[i]?=some x):∃y,ys[i]?=some y/\F x y:=by
 have hl:=h.length
 have hi:=(List.getElem?_eq_some_iff.mp hx).1
 have hy:ys[i]?=some (ys[i]'(by omega)):=List.getElem?_eq_getElem (by omega)
 exact⟨_,hy,Z0 h i _ _ hx hy⟩
theorem ZC{α β:Type}{F:α->β->Prop}:∀{xs xs':List α}{ys ys':List β},Paired F xs ys->Paired F xs' ys'->Paired F (xs++xs') (ys++ys')
 |_,_,_,_,.nil,h=>h
 |_,_,_,_,.cons r t,h=>.cons r (ZC t h)
theorem QK{α β:Type}{F:α->β->Prop}:∀{xs:List α}{ys:List β}(n:Nat),Paired F xs ys->Paired F (xs.take n) (ys.take n)
 |_,_,0,_=>.nil
 |_,_,_+1,.nil=>.nil
 |_,_,n+1,.cons r t=>.cons r (QK n t)
theorem QL{α β:Type}{F:α->β->Prop}:∀{xs:List α}{ys:List β}(n:Nat),Paired F xs ys->Paired F (xs.drop n) (ys.drop n)
 |_,_,0,r=>r
 |_,_,_+1,.nil=>.nil
 |_,_,n+1,.cons _ t=>QL n t
theorem ZaN{α β:Type}{F:α->β->Prop}{x:α}{y:β}(r:F x y):∀{xs:List α}{ys:List β}(i:Nat),Paired F xs ys->Paired F (xs.set i x) (ys.set i y)
 |_,_,_,.nil=>.nil
 |_,_,0,.cons _ t=>.cons r t
 |_,_,i+1,.cons q t=>.cons q (ZaN r i t)
theorem Zf{α β:Type}{F G:α->β->Prop}(f:∀a b,F a b->G a b){xs:List α}{ys:List β}(h:Paired F xs ys):Paired G xs ys:=L2.Paired.mapP h f
theorem RT.mtup{a:Addr}{ts:List T}{vs:List V}(h:SqT K H a vs)(r:RTs K cm m H ts vs):RT K cm m H (.tup ts) (.ref a):=.tup h r.length λi t v h1 h2=>Z0 r i t v h1 h2
theorem RT.mlst{a:Addr}{ts:List T}{vs:List V}(h:H a=some (.lst vs))(n:Zo cm m a)(r:RTs K cm m H ts vs):RT K cm m H (.lst ts) (.ref a):=.lst h n r.length λi t v h1 h2=>Z0 r i t v h1 h2
theorem RT.itup{ts:List T}{v:V}(h:RT K cm m H (.tup ts) v):∃a vs,v=.ref a/\SqT K H a vs/\RTs K cm m H ts vs:=by
 cases h with
 |tup h1 h2 h3=>exact⟨_,_,rfl,h1,JM h2 h3⟩
theorem RT.ilst{ts:List T}{v:V}(h:RT K cm m H (.lst ts) v):∃a vs,v=.ref a/\H a=some (.lst vs)/\Zo cm m a/\RTs K cm m H ts vs:=by
 cases h with
 |lst h1 h2 h3 h4=>exact⟨_,_,rfl,h1,h2,JM h3 h4⟩
theorem Qc(M:MemR K cm m H){a:Addr}{o:HO}(h:H a=some o)(hn:∀vs,o≠.lst vs):Zo cm m a:=λi ts e z=>by
 obtain⟨b,vs,h1,h2,_,_⟩:=M.at' i ts e
 rw[h1]at z;cases z
 rw[h2]at h;cases h
 exact hn _ rfl
theorem Ext.sqT(x:Ext cm m H cm' m' H')(M:MemR K cm m H){a:Addr}{vs:List V}(h:SqT K H a vs):SqT K H' a vs:=by
 rcases h with(h|⟨o,h⟩)|h
 ·exact .inl (.inl (x.keep a _ h (Qc M h (λ_ z=>by cases z))).1)
 ·exact .inl (.inr ⟨o,(x.keep a _ h (Qc M h (λ_ z=>by cases z))).1⟩)
 ·exact .inr h
theorem Ext.scr(x:Ext cm m H cm' m' H')(M:MemR K cm m H){a:Addr}{ns:List Int}(h:ZaE K H a ns):ZaE K H' a ns:=by
 rcases h with⟨o,h⟩|h
 ·exact .inl ⟨o,(x.keep a _ h (Qc M h (λ_ z=>by cases z))).1⟩
 ·exact .inr h
theorem ZaE.sq{a:Addr}{ns:List Int}(h:ZaE K H a ns):SqL K H a (ns.map V.int):=by
 rcases h with⟨o,h⟩|h
 ·exact .inl (.inr ⟨o,h⟩)
 ·exact .inr h
theorem RT.ext(x:Ext cm m H cm' m' H')(M:MemR K cm m H)(M':MemR K cm' m' H'){t:T}{v:V}(h:RT K cm m H t v):RT K cm' m' H' t v:=by
 induction h with
 |non=>exact .non
 |bl b=>exact .bl b
 |int i=>exact .int i
 |str cs=>exact .str cs
 |tup h1 h2 _ ih=>exact .tup (x.sqT M h1) h2 ih
 |lst h1 h2 h3 _ ih=>exact .lst (x.keep _ _ h1 h2).1 (x.keep _ _ h1 h2).2 h3 ih
 |scr ns h=>exact .scr ns (x.scr M h)
 |dct h1 h2 h3 h4 _ ih=>exact .dct (x.keep _ _ h1 h2).1 (x.keep _ _ h1 h2).2 h3 h4 ih
theorem RTs.ext(x:Ext cm m H cm' m' H')(M:MemR K cm m H)(M':MemR K cm' m' H'){ts:List T}{vs:List V}(h:RTs K cm m H ts vs):RTs K cm' m' H' ts vs:=Zf (λ_ _ z=>z.ext x M M') h
theorem XF.ext(x:Ext cm m H cm' m' H')(M:MemR K cm m H)(M':MemR K cm' m' H'){nms:List Str}{ts:List T}{dx:Option Addr}(h:XF K cm m H nms ts dx):XF K cm' m' H' nms ts dx:=by
 cases dx with
 |none=>exact h
 |some d =>
  obtain⟨vs,h1,h2,h3⟩:=h
  exact⟨vs,(x.keep d _ h1 (Qc M h1 (λ_ z=>by cases z))).1,h2,h3.ext x M M'⟩
theorem RW.ext(x:Ext cm m H cm' m' H')(M:MemR K cm m H)(M':MemR K cm' m' H'){w:W}{v:V}(h:RW K cm m H w v):RW K cm' m' H' w v:=by
 cases w with
 |t t=>exact RT.ext x M M' h
 |c i=>obtain⟨a,h1,h2⟩:=h;exact⟨a,x.pre i a h1,h2⟩
 |f a=>exact h
 |x c nms ts=>obtain⟨a,o,u,h1,h2,h3,h3',h4⟩:=h;exact⟨a,o,u,h1,(x.keep a _ h2 (Qc M h2 (λ_ z=>by cases z))).1,h3,h3',h4.ext x M M'⟩
theorem RWs.ext(x:Ext cm m H cm' m' H')(M:MemR K cm m H)(M':MemR K cm' m' H'){ws:List W}{vs:List V}(h:RWs K cm m H ws vs):RWs K cm' m' H' ws vs:=Zf (λ_ _ z=>RW.ext x M M' z) h
theorem EnvR.ext(x:Ext cm m H cm' m' H')(M:MemR K cm m H)(M':MemR K cm' m' H'){env:Env}{σ:L2.St}(h:EnvR K cm m H env σ):EnvR K cm' m' H' env σ:=λi w e=>by
 obtain⟨v,h1,h2⟩:=h i w e
 exact⟨v,h1,h2.ext x M M'⟩
theorem Ext.refl:Ext cm m H cm m H:=⟨λ_ _ h=>h,Nat.le_refl _,λ_ _ h=>h,λ_ _ h n=>⟨.of h,n⟩⟩
theorem Ext.trans(x:Ext cm m H cm' m' H')(y:Ext cm' m' H' cm'' m'' H''):Ext cm m H cm'' m'' H'':=
 ⟨λi a h=>y.pre i a (x.pre i a h),Nat.le_trans x.len y.len,λi ts h=>y.lent i ts (x.lent i ts h),λa o h n=>⟨(x.keep a o h n).1.trans λo' e=>(y.keep a o' e (x.keep a o h n).2).1,(x.keep a o h n).1.some.elim λo' e=>(y.keep a o' e (x.keep a o h n).2).2⟩⟩
noncomputable abbrev XR:=Exc->List Addr->Mem->Hp->Prop
noncomputable def xr0:XR:=λ_ _ _ _=>False
variable(K) in
noncomputable def OkR{α:Type}(r:Res α)(xr:XR)(cm:List Addr)(m:Mem)(H:Hp)(k:α->List Addr->Mem->Hp->Prop):Prop:=match r with
 |.ok a m'=>∀cm' H',Ext cm m H cm' m' H'->MemR K cm' m' H'->k a cm' m' H'
 |.exc x m'=>∀cm' H',Ext cm m H cm' m' H'->MemR K cm' m' H'->xr x cm' m' H'
 |.stuck=>False
variable{xr:XR}
theorem OkR.shift{α:Type}{r:Res α}{k:α->List Addr->Mem->Hp->Prop}(h:OkR K r xr cm m H k)(x:Ext cm m H cm' m' H'):OkR K r xr cm' m' H' k:=by
 cases r with
 |ok a m2=>exact λc h' e M=>h c h' (x.trans e) M
 |exc a m2=>exact λc h' e M=>h c h' (x.trans e) M
 |stuck=>exact h
theorem OkR.bind{α β:Type}{r:Res α}{f:α->Mem->Res β}{k:β->List Addr->Mem->Hp->Prop}(h:OkR K (r.bind f) xr cm m H k):
  OkR K r xr cm m H λa cm' m' H'=>OkR K (f a m') xr cm' m' H' k:=by
 cases r with
 |ok a m2=>exact λc h' e M=>OkR.shift (show OkR K (f a m2) xr cm m H k from h) e
 |exc a m2=>exact h
 |stuck=>exact h
theorem OkR.bind0{α β:Type}{r:Res α}{f:α->Mem->Res β}{k:β->List Addr->Mem->Hp->Prop}(h:OkR K (r.bind f) xr cm m H k):
  OkR K r xr cm m H λa _ m' _=>OkR K (f a m') xr cm m H k:=by
 cases r with
 |ok a m2=>exact λc h' e M=>h
 |exc a m2=>exact h
 |stuck=>exact h
theorem OkR.mono{α:Type}{r:Res α}{k k':α->List Addr->Mem->Hp->Prop}(h:OkR K r xr cm m H k)(f:∀a cm' m' H',Ext cm m H cm' m' H'->MemR K cm' m' H'->k a cm' m' H'->k' a cm' m' H'):OkR K r xr cm m H k':=by
 cases r with
 |ok a m2=>exact λc h' e M=>f a c m2 h' e M (h c h' e M)
 |exc a m2=>exact h
 |stuck=>exact h
theorem OkR.now{α:Type}{a:α}{k:α->List Addr->Mem->Hp->Prop}(h:OkR K (.ok a m) xr cm m H k)(M:MemR K cm m H):k a cm m H:=h cm H .refl M
theorem OkR.to{α:Type}{a:α}{m':Mem}{k:α->List Addr->Mem->Hp->Prop}(h:OkR K (.ok a m') xr cm m H k)(x:Ext cm m H cm' m' H')(M:MemR K cm' m' H'):k a cm' m' H':=h cm' H' x M
end
section
variable(K:Frag) (call:Nat->List W->Mem->Res W) (gv:List T) (xr:XR)
noncomputable def tE(e:E):TE:=λσ H Q=>∃env cm m,EnvR K cm m H env σ/\MemR K cm m H/\OkR K (ev call gv e env m) xr cm m H λw cm' m' H'=>∀v,RW K cm' m' H' w v->Q v H'
noncomputable def tA(es:Es):TA:=λσ H Q=>∃env cm m,EnvR K cm m H env σ/\MemR K cm m H/\OkR K (evs call gv es env m) xr cm m H λws cm' m' H'=>∀vs,RWs K cm' m' H' ws vs->Q vs H'
noncomputable def tT(e:E):TT:=λσ H Q=>∃env cm m,EnvR K cm m H env σ/\MemR K cm m H/\OkR K ((ev call gv e env m).bind ZZ) xr cm m H λk _ _ H'=>Q k H'
noncomputable def r2(f:W->W->Mem->Res W):R2:=λx y H Q=>∃cm m a b,MemR K cm m H/\RW K cm m H a x/\RW K cm m H b y/\OkR K (f a b m) xr cm m H λw cm' m' H'=>∀v,RW K cm' m' H' w v->Q v H'
noncomputable def r1(f:W->Mem->Res W):V->Hp->VK->Prop:=λx H Q=>∃cm m a,MemR K cm m H/\RW K cm m H a x/\OkR K (f a m) xr cm m H λw cm' m' H'=>∀v,RW K cm' m' H' w v->Q v H'
noncomputable def rN(f:List W->Mem->Res W):List V->Hp->VK->Prop:=λxs H Q=>∃cm m ws,MemR K cm m H/\RWs K cm m H ws xs/\OkR K (f ws m) xr cm m H λw cm' m' H'=>∀v,RW K cm' m' H' w v->Q v H'
end
section
variable{K:Frag}{call:Nat->List W->Mem->Res W}{gv:List T}{xr:XR}{X:Cx}
theorem PE.mono{e:Expr}{t t':TE}(h:PE X e t)(f:∀σ H Q,t' σ H Q->t σ H Q):PE X e t':=λpins s σ H Q I q=>h pins s σ H Q I (f σ H Q q)
theorem PT.mono{e:Expr}{t t':TT}(h:PT X e t)(f:∀σ H Q,t' σ H Q->t σ H Q):PT X e t':=λpins s σ H Q I q=>h pins s σ H Q I (f σ H Q q)
theorem PA.mono{e:List Expr}{t t':TA}(h:PA X e t)(f:∀σ H Q,t' σ H Q->t σ H Q):PA X e t':=λpos pins s σ H Q I q=>h pos pins s σ H Q I (f σ H Q q)
theorem Zew{a b e:E}{f:W->W->Mem->Res W}(h:∀env m,ev call gv e env m=(ev call gv a env m).bind λx m=>(ev call gv b env m).bind λy m=>f x y m)(σ:L2.St)(H:Hp)(Q:VK)(q:tE K call gv xr e σ H Q):
  tOp (r2 K xr f) (tE K call gv xr a) (tE K call gv xr b) σ H Q:=by
 obtain⟨env,cm,m,hE,hM,ho⟩:=q
 rw[h]at ho
 refine⟨env,cm,m,hE,hM,ho.bind.mono λw cm1 m1 H1 x1 M1 o1 v rv=>?_⟩
 refine⟨env,cm1,m1,hE.ext x1 hM M1,M1,o1.bind.mono λw2 cm2 m2 H2 x2 M2 o2 v2 rv2=>?_⟩
 exact⟨cm2,m2,w,w2,M2,rv.ext x2 M1 M2,rv2,o2⟩
theorem t1_of{a e:E}{f:W->Mem->Res W}(h:∀env m,ev call gv e env m=(ev call gv a env m).bind λx m=>f x m)(σ:L2.St)(H:Hp)(Q:VK)(q:tE K call gv xr e σ H Q):
  tUn (r1 K xr f) (tE K call gv xr a) σ H Q:=by
 obtain⟨env,cm,m,hE,hM,ho⟩:=q
 rw[h]at ho
 exact⟨env,cm,m,hE,hM,ho.bind.mono λw cm1 m1 H1 x1 M1 o1 v rv=>⟨cm1,m1,w,M1,rv,o1⟩⟩
end
end Mi
namespace Mi
open PySem PySem.Spec PyProof.Rows L2
section
variable{K:Frag}{cm:List Addr}{m:Mem}{H:Hp}{xr:XR}{X:Cx}
theorem Ze{w:W}{v:V}{t:T}(h:RW K cm m H w v)(e:view w m=some t)(n:∀ts,t≠.lst ts):RT K cm m H t v:=by
 cases w with
 |t x=>cases e;exact h
 |f a=>cases e
 |x _ _ _=>cases e
 |c i =>
  unfold view at e
  dsimp only at e
  split at e
  ·cases e;exact absurd rfl (n _)
  ·cases e
theorem Zz{w:W}{v:V}{ts:List T}(M:MemR K cm m H)(h:RW K cm m H w v)(e:view w m=some (.lst ts)):∃a vs,v=.ref a/\H a=some (.lst vs)/\RTs K cm m H ts vs:=by
 cases w with
 |t x =>
  cases e
  obtain⟨a,vs,h1,h2,_,h3⟩:=RT.ilst h
  exact⟨a,vs,h1,h2,h3⟩
 |f a=>cases e
 |x _ _ _=>cases e
 |c i =>
  unfold view at e
  dsimp only at e
  split at e
  ·rename_i fl us hu
   cases e
   obtain⟨a,h1,h2⟩:=h
   obtain⟨b,vs,h3,h4,_,h5⟩:=M.at' i _ hu
   rw[h1]at h3;cases h3
   exact⟨a,vs,h2,h4,h5⟩
  ·cases e
theorem RT.vint{i:Int}{v:V}(h:RT K cm m H (.int i) v):v=.int i:=by cases h;rfl
theorem RT.vbl{b:Bool}{v:V}(h:RT K cm m H (.bl b) v):v=.bl b:=by cases h;rfl
theorem RT.vnon{v:V}(h:RT K cm m H .non v):v=.non:=by cases h;rfl
theorem RT.vstr{cs:List Nat}{v:V}(h:RT K cm m H (.str cs) v):v=.str ⟨cs.toArray⟩:=by cases h;rfl
theorem RT.vscr{ns:List Int}{v:V}(h:RT K cm m H (.scr ns) v):∃a,v=.ref a/\ZaE K H a ns:=by
 cases h with
 |scr _ h=>exact⟨_,rfl,h⟩
theorem Zah(M:MemR K cm m H){p:Addr}(hp:H p=none):Zo cm m p:=λi ts e z=>by
 obtain⟨a,vs,h1,h2,_⟩:=M.at' i ts e
 rw[h1]at z;cases z
 rw[hp]at h2;cases h2
theorem Ext.new{p:Addr}{o:HO}(hp:H p=none):Ext cm m H cm m (upd H p o):=
 ⟨λ_ _ h=>h,Nat.le_refl _,λ_ _ h=>h,λa u h n=>⟨.of (by rw[Zw (ZW h hp)];exact h),n⟩⟩
theorem RT.same{H':Hp}{cm':List Addr}{m':Mem}(h1:∀a o,H a=some o->H' a=some o)(h2:∀a,Zo cm m a->H a≠none->Zo cm' m' a){t:T}{v:V}(h:RT K cm m H t v):RT K cm' m' H' t v:=by
 induction h with
 |non=>exact .non
 |bl b=>exact .bl b
 |int i=>exact .int i
 |str cs=>exact .str cs
 |tup q1 q2 _ ih =>
  refine .tup ?_ q2 ih
  rcases q1 with(q|⟨o,q⟩)|q
  ·exact .inl (.inl (h1 _ _ q))
  ·exact .inl (.inr ⟨o,h1 _ _ q⟩)
  ·exact .inr q
 |lst q1 q2 q3 _ ih=>exact .lst (h1 _ _ q1) (h2 _ q2 (by rw[q1];simp)) q3 ih
 |dct q1 q2 q3 q4 _ ih=>exact .dct (h1 _ _ q1) (h2 _ q2 (by rw[q1];simp)) q3 q4 ih
 |scr ns q =>
  refine .scr ns ?_
  rcases q with⟨o,q⟩|q
  ·exact .inl ⟨o,h1 _ _ q⟩
  ·exact .inr q
theorem XF.same{H':Hp}{cm':List Addr}{m':Mem}(h1:∀a o,H a=some o->H' a=some o)(f:∀t v,RT K cm m H t v->RT K cm' m' H' t v){nms:List Str}{ts:List T}{dx:Option Addr}(h:XF K cm m H nms ts dx):XF K cm' m' H' nms ts dx:=by
 cases dx with
 |none=>exact h
 |some d =>
  obtain⟨vs,q1,q2,q3⟩:=h
  exact⟨vs,h1 _ _ q1,q2,Zf (λt v z=>f t v z) q3⟩
theorem XF.wsame{cm':List Addr}{m':Mem}(f:∀t v,RT K cm m H t v->RT K cm' m' H t v){c:Nat}{nms:List Str}{ts:List T}{v:V}(h:RW K cm m H (.x c nms ts) v):RW K cm' m' H (.x c nms ts) v:=by
 obtain⟨a,o,u,q1,q2,q3,q3',q4⟩:=h
 exact⟨a,o,u,q1,q2,q3,q3',q4.same (λ_ _ z=>z) f⟩
theorem Qu{p:Addr}{o:HO}(hp:H p=none):∀a u,H a=some u->upd H p o a=some u:=λa u h=>by rw[Zw (ZW h hp)];exact h
theorem MemR.new(M:MemR K cm m H){p:Addr}{o:HO}(hp:H p=none):MemR K cm m (upd H p o):=
 ⟨M.len,M.inj,λi ts e=>by
  obtain⟨a,vs,h1,h2,h3,h4⟩:=M.at' i ts e
  exact⟨a,vs,h1,Qu hp _ _ h2,h3,Zf (λ_ _ z=>z.same (Qu hp) λ_ n _=>n) h4⟩,M.tab.upd λu z=>by rw[hp]at z;cases z⟩
theorem RTs.new{ts:List T}{vs:List V}(r:RTs K cm m H ts vs){p:Addr}{o:HO}(hp:H p=none):RTs K cm m (upd H p o) ts vs:=Zf (λ_ _ z=>z.same (Qu hp) λ_ n _=>n) r
theorem RT.newTup{ts:List T}{vs:List V}(r:RTs K cm m H ts vs){p:Addr}(hp:H p=none):RT K cm m (upd H p (.tup vs)) (.tup ts) (.ref p):=.mtup (.of Z8) (RTs.new r hp)
theorem RT.newLst(M:MemR K cm m H){ts:List T}{vs:List V}(r:RTs K cm m H ts vs){p:Addr}(hp:H p=none):RT K cm m (upd H p (.lst vs)) (.lst ts) (.ref p):=.mlst Z8 (Zah M hp) (RTs.new r hp)
theorem Zak{p:Addr}{c:Bool×List T}(hl:cm.length=m.length){a:Addr}(n:Zo cm m a)(ne:a≠p):Zo (cm++[p]) (m++[some c]) a:=λi us e z=>by
 by_cases hi:i<m.length
 ·rw[List.getElem?_append_left hi]at e
  rw[List.getElem?_append_left (by omega)]at z
  exact n i us e z
 ·by_cases hj:i=m.length
  ·subst hj
   rw[<-hl,List.getElem?_append_right (Nat.le_refl _)]at z
   simp at z
   exact ne z.symm
  ·rw[List.getElem?_eq_none (by simp;omega)]at e
   cases e
theorem X6(M:MemR K cm m H){ts:List T}{vs:List V}(r:RTs K cm m H ts vs){p:Addr}(hp:H p=none)(hk:K.lookup p=none):
  Ext cm m H (cm++[p]) (m++[some (false,ts)]) (upd H p (.lst vs))/\MemR K (cm++[p]) (m++[some (false,ts)]) (upd H p (.lst vs))/\RW K (cm++[p]) (m++[some (false,ts)]) (upd H p (.lst vs)) (.c m.length) (.ref p):=by
 have sm:∀{t:T}{v:V},RT K cm m H t v->RT K (cm++[p]) (m++[some (false,ts)]) (upd H p (.lst vs)) t v:=λh =>
  h.same (Qu hp) λa n hn=>Zak M.len n λz=>by subst z;exact hn hp
 have cs:∀{i:Nat}{c:Bool×List T},(m++[some (false,ts)])[i]?=some (some c)->(m[i]?=some (some c)/\i<m.length)∨(i=m.length/\c=(false,ts)):=λ{i c} e=>by
  by_cases hi:i<m.length
  ·rw[List.getElem?_append_left hi]at e
   exact .inl ⟨e,hi⟩
  ·by_cases hj:i=m.length
   ·subst hj
    simp at e
    exact .inr ⟨rfl,e.symm⟩
   ·rw[List.getElem?_eq_none (by simp;omega)]at e
    cases e
 have cl:∀{i:Nat},i<m.length->(cm++[p])[i]?=cm[i]?:=λ{i} h=>List.getElem?_append_left (by rw[M.len];exact h)
 have cp:(cm++[p])[m.length]?=some p:=by rw[<-M.len];simp
 have np:∀{i:Nat}{c:Bool×List T}{a:Addr},m[i]?=some (some c)->cm[i]?=some a->a≠p:=λ{i c a} e1 e2 z=>by
  subst z
  obtain⟨b,ws,q1,q2,_⟩:=M.at' i c e1
  rw[e2]at q1;cases q1
  rw[hp]at q2;cases q2
 refine⟨⟨λi a h=>?_,by simp,λi us h=>?_,λa o h n=>⟨.of (Qu hp _ _ h),Zak M.len n (ZW h hp)⟩⟩,⟨by simp[M.len],λi j a us us' e1 e2 f1 f2=>?_,λi us e=>?_,M.tab.upd λu z=>by rw[hp]at z;cases z⟩,⟨p,cp,rfl⟩⟩
 ·rw[List.getElem?_append_left (List.getElem?_eq_some_iff.mp h).1];exact h
 ·rw[List.getElem?_append_left (List.getElem?_eq_some_iff.mp h).1];exact h
 ·rcases cs e1 with⟨g1,l1⟩|⟨k1,_⟩
  ·rw[cl l1]at f1
   rcases cs e2 with⟨g2,l2⟩|⟨k2,_⟩
   ·rw[cl l2]at f2
    exact M.inj i j a _ _ g1 g2 f1 f2
   ·rw[k2,cp]at f2;cases f2
    exact absurd rfl (np g1 f1)
  ·rw[k1,cp]at f1;cases f1
   rcases cs e2 with⟨g2,l2⟩|⟨k2,_⟩
   ·rw[cl l2]at f2
    exact absurd rfl (np g2 f2)
   ·rw[k1,k2]
 ·rcases cs e with⟨g,l⟩|⟨k,z⟩
  ·obtain⟨a,ws,q1,q2,q3,q4⟩:=M.at' i us g
   exact⟨a,ws,by rw[cl l];exact q1,Qu hp _ _ q2,q3,Zf (λ_ _ z=>sm z) q4⟩
  ·rw[k,z]
   exact⟨p,vs,cp,Z8,hk,Zf (λ_ _ z=>sm z) r⟩
theorem Jm{i:Nat}{c c':Bool×List T}(e:m[i]?=some (some c)){j:Nat}{d:Bool×List T}(q:(m.set i (some c'))[j]?=some (some d)):∃d',m[j]?=some (some d'):=by
 by_cases hj:j=i
 ·subst hj;exact⟨c,e⟩
 ·rw[List.getElem?_set_ne (Ne.symm hj)]at q;exact⟨d,q⟩
theorem QD(M:MemR K cm m H){i:Nat}{ts ts':List T}{a:Addr}{vs':List V}(e:m[i]?=some (some (false,ts)))(hc:cm[i]?=some a)(r:RTs K cm m H ts' vs'):
  Ext cm m H cm (m.set i (some (false,ts'))) (upd H a (.lst vs'))/\MemR K cm (m.set i (some (false,ts'))) (upd H a (.lst vs')):=by
 have hi:i<m.length:=(List.getElem?_eq_some_iff.mp e).1
 have nl:∀{b:Addr},Zo cm m b->Zo cm (m.set i (some (false,ts'))) b:=λ{b} n j us q=>by
  obtain⟨us',q'⟩:=Jm e q
  exact n j us' q'
 have ne:∀{b:Addr},Zo cm m b->b≠a:=λ{b} n z=>by subst z;exact n i _ e hc
 have x:Ext cm m H cm (m.set i (some (false,ts'))) (upd H a (.lst vs')):=⟨λ_ _ h=>h,by simp,λj us h=>by
  by_cases hj:j=i
  ·subst hj;rw[e]at h;cases h
  ·rw[List.getElem?_set_ne (Ne.symm hj)];exact h,λb o h n=>⟨.of (by rw[Zw (ne n)];exact h),nl n⟩⟩
 have sm:∀{t:T}{v:V},RT K cm m H t v->RT K cm (m.set i (some (false,ts'))) (upd H a (.lst vs')) t v:=λ{t v} h=>by
  induction h with
  |non=>exact .non
  |bl b=>exact .bl b
  |int i=>exact .int i
  |str cs=>exact .str cs
  |tup q1 q2 _ ih=>exact .tup (x.sqT M q1) q2 ih
  |lst q1 q2 q3 _ ih=>exact .lst (x.keep _ _ q1 q2).1 (x.keep _ _ q1 q2).2 q3 ih
  |dct q1 q2 q3 q4 _ ih=>exact .dct (x.keep _ _ q1 q2).1 (x.keep _ _ q1 q2).2 q3 q4 ih
  |scr ns q=>exact .scr ns (x.scr M q)
 refine⟨x,⟨by simp[M.len],λj k b us us' e1 e2 f1 f2=>?_,λj us q=>?_,by
  obtain⟨b0,vs0,w1,w2,_⟩:=M.at' i _ e
  rw[hc]at w1;cases w1
  exact M.tab.upd λu z=>by rw[w2]at z;cases z;exact⟨_,rfl⟩⟩⟩
 ·obtain⟨_,e1⟩:=Jm e e1
  obtain⟨_,e2⟩:=Jm e e2
  exact M.inj j k b _ _ e1 e2 f1 f2
 ·by_cases hj:j=i
  ·subst hj
   rw[List.getElem?_set_self hi]at q
   cases q
   obtain⟨b,ws,q1,_,q3,_⟩:=M.at' j _ e
   rw[hc]at q1;cases q1
   exact⟨a,vs',hc,Z8,q3,Zf (λ_ _ z=>sm z) r⟩
  ·rw[List.getElem?_set_ne (Ne.symm hj)]at q
   obtain⟨b,ws,q1,q2,q3,q4⟩:=M.at' j us q
   have hb:b≠a:=λz=>by
    subst z
    exact hj (M.inj j i b _ _ q e q1 hc)
   exact⟨b,ws,q1,by rw[Zw hb];exact q2,q3,Zf (λ_ _ z=>sm z) q4⟩
theorem Zf6(M:MemR K cm m H){i:Nat}{ts:List T}(e:m[i]?=some (some (false,ts))):
  ∃a vs,cm[i]?=some a/\H a=some (.lst vs)/\K.lookup a=none/\Ext cm m H cm (m.set i none) H/\MemR K cm (m.set i none) H/\RTs K cm (m.set i none) H ts vs/\RT K cm (m.set i none) H (.lst ts) (.ref a):=by
 obtain⟨a,vs,q1,q2,q3,q4⟩:=M.at' i _ e
 have hi:i<m.length:=(List.getElem?_eq_some_iff.mp e).1
 have lv:∀{j:Nat}{us:Bool×List T},(m.set i none)[j]?=some (some us)->m[j]?=some (some us)/\j≠i:=λ{j us} q=>by
  by_cases hj:j=i
  ·subst hj;rw[List.getElem?_set_self hi]at q;cases q
  ·rw[List.getElem?_set_ne (Ne.symm hj)]at q;exact⟨q,hj⟩
 have nl:∀{b:Addr},Zo cm m b->Zo cm (m.set i none) b:=λ{b} n j us q=>n j us (lv q).1
 have sm:∀{t:T}{v:V},RT K cm m H t v->RT K cm (m.set i none) H t v:=λh=>h.same (λ_ _ z=>z) λ_ n _=>nl n
 have na:Zo cm (m.set i none) a:=λj us q z=>(lv q).2 (M.inj j i a _ _ (lv q).1 e z q1)
 have rs:RTs K cm (m.set i none) H ts vs:=Zf (λ_ _ z=>sm z) q4
 refine⟨a,vs,q1,q2,q3,⟨λ_ _ h=>h,by simp,λj us h=>?_,λb o h n=>⟨.of h,nl n⟩⟩,⟨by simp[M.len],λj k b us us' e1 e2=>M.inj j k b _ _ (lv e1).1 (lv e2).1,λj us q=>?_,M.tab⟩,rs,.mlst q2 na rs⟩
 ·by_cases hj:j=i
  ·subst hj;rw[e]at h;cases h
  ·rw[List.getElem?_set_ne (Ne.symm hj)];exact h
 ·obtain⟨b,ws,p1,p2,p3,p4⟩:=M.at' j us (lv q).1
  exact⟨b,ws,p1,p2,p3,Zf (λ_ _ z=>sm z) p4⟩
theorem Zau(M:MemR K cm m H){i:Nat}{b b':Bool}{ts:List T}(e:m[i]?=some (some (b,ts))):
  (∀a,Zo cm m a↔Zo cm (m.set i (some (b',ts))) a)/\MemR K cm (m.set i (some (b',ts))) H/\(∀t v,RT K cm m H t v->RT K cm (m.set i (some (b',ts))) H t v):=by
 have hi:i<m.length:=(List.getElem?_eq_some_iff.mp e).1
 have nl:∀a,Zo cm m a↔Zo cm (m.set i (some (b',ts))) a:=λa=>by
  constructor
  ·intro n j us q
   obtain⟨d,q'⟩:=Jm e q
   exact n j d q'
  ·intro n j us q
   by_cases hj:j=i
   ·subst hj
    exact n j _ (List.getElem?_set_self hi)
   ·exact n j us (by rw[List.getElem?_set_ne (Ne.symm hj)];exact q)
 have sm:∀t v,RT K cm m H t v->RT K cm (m.set i (some (b',ts))) H t v:=λt v h=>h.same (λ_ _ z=>z) λa n _=>(nl a).mp n
 refine⟨nl,⟨by simp[M.len],λj k a us us' e1 e2 f1 f2=>?_,λj us q=>?_,M.tab⟩,sm⟩
 ·obtain⟨_,e1⟩:=Jm e e1
  obtain⟨_,e2⟩:=Jm e e2
  exact M.inj j k a _ _ e1 e2 f1 f2
 ·by_cases hj:j=i
  ·subst hj
   rw[List.getElem?_set_self hi]at q
   cases q
   obtain⟨a,vs,q1,q2,q3,q4⟩:=M.at' j _ e
   exact⟨a,vs,q1,q2,q3,Zf (λ_ _ z=>sm _ _ z) q4⟩
  ·rw[List.getElem?_set_ne (Ne.symm hj)]at q
   obtain⟨a,vs,q1,q2,q3,q4⟩:=M.at' j us q
   exact⟨a,vs,q1,q2,q3,Zf (λ_ _ z=>sm _ _ z) q4⟩
theorem Zf5(M:MemR K cm m H){i:Nat}{b:Bool}{ts:List T}(e:m[i]?=some (some (b,ts))):Ext cm m H cm (m.set i (some (true,ts))) H/\MemR K cm (m.set i (some (true,ts))) H:=by
 have hi:i<m.length:=(List.getElem?_eq_some_iff.mp e).1
 obtain⟨nl,M',_⟩:=Zau (b':=true) M e
 refine⟨⟨λ_ _ h=>h,by simp,λj us h=>?_,λa o h n=>⟨.of h,(nl a).mp n⟩⟩,M'⟩
 by_cases hj:j=i
 ·subst hj
  rw[e]at h;cases h
  exact List.getElem?_set_self hi
 ·rw[List.getElem?_set_ne (Ne.symm hj)];exact h
theorem J1{cm':List Addr}{m1 m':Mem}{H':Hp}{w:W}{ts:List T}(M:MemR K cm m H)(e:ZJ w m=.ok ts m1)(x:Ext cm m1 H cm' m' H')(M':MemR K cm' m' H'):
  Ext cm m H cm' (giveBack w m m') H'/\MemR K cm' (giveBack w m m') H'/\∀t v,RT K cm' m' H' t v->RT K cm' (giveBack w m m') H' t v:=by
 cases w with
 |t t =>
  unfold ZJ at e
  dsimp only at e
  split at e<;>cases e
  exact⟨x,M',λ_ _ h=>h⟩
 |f a=>cases e
 |x _ _ _=>cases e
 |c i =>
  unfold ZJ at e
  dsimp only at e
  split at e
  ·rename_i b us h
   cases e
   have hi:i<m.length:=(List.getElem?_eq_some_iff.mp h).1
   have h':m'[i]?=some (some (true,ts)):=x.lent i ts (List.getElem?_set_self hi)
   have hi':i<m'.length:=(List.getElem?_eq_some_iff.mp h').1
   obtain⟨nl,M2,sm⟩:=Zau (b':=b) M' h'
   have eg:giveBack (.c i) m m'=m'.set i (some (b,ts)):=by unfold giveBack;dsimp only;rw[h]
   rw[eg]
   obtain⟨nl0,M1,_⟩:=Zau (b':=true) M h
   refine⟨⟨λj a q=>x.pre j a q,by rw[List.length_set];have:=x.len;rw[List.length_set]at this;exact this,λj vs q=>?_,λa o q n=>?_⟩,M2,sm⟩
   ·by_cases hj:j=i
    ·subst hj
     rw[h]at q;cases q
     exact List.getElem?_set_self hi'
    ·rw[List.getElem?_set_ne (Ne.symm hj)]
     exact x.lent j vs (by rw[List.getElem?_set_ne (Ne.symm hj)];exact q)
   ·obtain⟨q1,q2⟩:=x.keep a o q ((nl0 a).mp n)
    exact⟨q1,(nl a).mp q2⟩
  ·cases e
theorem ZD:lim<=sizeLine:=by rw[sizeLine_eq];decide
theorem Qo{o:Option T}{k:W->List Addr->Mem->Hp->Prop}(h:OkR K (pur o m) xr cm m H k):∃t,o=some t/\OkR K (.ok (.t t) m) xr cm m H k:=by
 cases o with
 |none=>exact h.elim
 |some t=>exact⟨t,rfl,h⟩
theorem Zbq{α:Type}{o p:Option T}{f:T->T->Option α}{z:α}(h:(o.bind λx=>p.bind λy=>f x y)=some z):∃x y,o=some x/\p=some y/\f x y=some z:=by
 cases o with
 |none=>cases h
 |some x =>
  cases p with
  |none=>cases h
  |some y=>exact⟨x,y,rfl,rfl,h⟩
theorem strApp(a b:List Nat):(⟨a.toArray⟩:Str)++⟨b.toArray⟩=⟨(a++b).toArray⟩:=by
 show(⟨a.toArray++b.toArray⟩:Str)=_
 simp
theorem JB(a:List Nat):(⟨a.toArray⟩:Str).length=a.length:=by simp[Str.length]
theorem ans{t:T}{Q:VK}(ho:OkR K (.ok (.t t) m) xr cm m H λw cm' m' H'=>∀v,RW K cm' m' H' w v->Q v H')(M:MemR K cm m H){v:V}(r:RT K cm m H t v):Q v H:=ho.now M v r
theorem Za0{ts:List T}{Q:VK}(ho:OkR K (.ok (.t (.tup ts)) m) xr cm m H λw cm' m' H'=>∀v,RW K cm' m' H' w v->Q v H')(M:MemR K cm m H){vs:List V}(r:RTs K cm m H ts vs){p:Addr}(hp:H p=none):
 Q (.ref p) (upd H p (.tup vs)):=ho.to (.new hp) (M.new hp) _ (RT.newTup r hp)
theorem XD{ts:List T}{Q:VK}(ho:OkR K (.ok (.t (.lst ts)) m) xr cm m H λw cm' m' H'=>∀v,RW K cm' m' H' w v->Q v H')(M:MemR K cm m H){vs:List V}(r:RTs K cm m H ts vs){p:Addr}(hp:H p=none):
 Q (.ref p) (upd H p (.lst vs)):=ho.to (.new hp) (M.new hp) _ (RT.newLst M r hp)
theorem Zjl{i j:Int}(h1:i.natAbs<bigN)(h2:j.natAbs<bigN):IntMulOk i j:=by
 have b:∀{k:Int},k.natAbs<bigN->Builtin.Int.intBits k<=2000:=λ{k} h=>intBits_le (by
  have e:bigN=2^(250*8):=by unfold bigN;rw[<-Nat.pow_mul]
  rw[e]at h
  exact h)
 exact mulOk_of_bits (b h1) (b h2) (by decide)
theorem Zbw{i:Int}(h:small i=true):-(2^64)<i/\i<2^64:=by
 have h':i.natAbs<2^64:=of_decide_eq_true h
 omega
theorem Zha{i j:Int}(h:Xe i j=true):IntMulOk i j:=by
 unfold Xe at h
 simp only[Bool.or_eq_true,Bool.and_eq_true,decide_eq_true_eq]at h
 rcases h with(h|h)|⟨h1,h2⟩
 ·exact CMul.ok (.inl (Zbw h))
 ·exact CMul.ok (.inr (Zbw h))
 ·exact Zjl h1 h2
theorem Zje:OpR X (binaryOp .Mult) (rI (λi j=>Xe i j=true) λi j=>.int (i*j)):=opI λ_ _ _ _ _ _ _ hc q=>mul_int q (Zha hc)
theorem ZjY{prog:Program}{w:World}{A:Around}{E:Value->Shared->Prop}{s:Shared}{t b:Addr}{ws:List Value}{Q:Value->Shared->Prop}(ht:IsTup s.heap t ([]:List Value).toArray)(hb:IsTup s.heap b ws.toArray)(h:Q (.ref b) s):wpAny (model prog w) A (binaryOp .Add (.ref t) (.ref b)) Q E s:=by
 obtain⟨⟨cls,dd,data,sl⟩,ho,hc,n,hd⟩:=id ht
 obtain⟨⟨cls2,dd2,data2,sl2⟩,ho2,hc2,n2,hd2⟩:=id hb
 simp only at hc hd hc2 hd2
 subst hc hd hc2 hd2
 exact concat_meets ⟨_,ho,rfl⟩ ⟨_,ho2,rfl⟩ noFill_tuple_add seq_tuple_add PySem.F.slot_tuple_add PySem.F.entry_tuple_add (PySem.F.args_tuple_add_2 _ _)
  (tuple_addW0 t b ([]:List Value).toArray ws.toArray n n2 dd dd2 sl sl2 (by simp)) ⟨ho,ho2,h⟩
theorem Zjd:OpR X (binaryOp .Add) (λx y H Q=>∃a b ys,x=.ref a/\y=.ref b/\SqT X.K H a []/\SqT X.K H b ys/\Q (.ref b) H):=by
 intro pins s σ H x y v u Q I rx ry h
 obtain⟨a,b,ys,rfl,rfl,ha,hb,q⟩:=h
 cases rx
 cases ry
 obtain⟨its,r1,p1,_⟩:=I.tuple ha
 obtain⟨its2,r2,p2,_⟩:=I.tuple hb
 cases r1
 exact ZjY p1 p2 ⟨.ref b,H,I,rfl,q⟩
theorem JV{f:Int->Int->Option T}{x y t:T}(e:intT f x y=some t):∃i j,x=.int i/\y=.int j/\f i j=some t:=by
 cases x with
 |int i=>cases y with
  |int j=>exact⟨i,j,rfl,rfl,e⟩
  |_=>cases e
 |_=>cases e
theorem Xf{f:Int->Int->Bool}{x y:T}{c:Bool}(e:Zhk f x y=some c):∃i j,x=.int i/\y=.int j/\f i j=c:=by
 cases x with
 |int i=>cases y with
  |int j=>exact⟨i,j,rfl,rfl,Option.some.inj e⟩
  |_=>cases e
 |_=>cases e
noncomputable def fBin(op:Operator)(x y:W)(m:Mem):Res W:=pur ((view x m).bind λx=>(view y m).bind λy=>binT op x y) m
theorem ZdP:OpR X (binaryOp .Add) (r2 X.K xr (fBin .Add)):=by
 rintro pins s σ H x y v u Q I rx ry ⟨cm,m,a,b,M,ra,rb,ho⟩
 obtain⟨t,e,ho⟩:=Qo ho
 obtain⟨ta,tb,ea,eb,e⟩:=Zbq e
 change addT ta tb=some t at e
 unfold addT at e
 have hz:=ZD
 split at e
 ·cases e
  cases(Ze ra ea (λ_ z=>by cases z)).vint
  cases(Ze rb eb (λ_ z=>by cases z)).vint
  exact op_add pins s σ H _ _ v u Q I rx ry ⟨_,_,rfl,rfl,ans ho M (.int _)⟩
 ·split at e<;>cases e
  cases(Ze ra ea (λ_ z=>by cases z)).vstr
  cases(Ze rb eb (λ_ z=>by cases z)).vstr
  exact ZdQ pins s σ H _ _ v u Q I rx ry ⟨_,_,rfl,rfl,by rw[JB,JB];omega,by rw[strApp];exact ans ho M (.str _)⟩
 ·split at e<;>cases e
  obtain⟨p,vs,rfl,h1,r1⟩:=(Ze ra ea (λ_ z=>by cases z)).itup
  obtain⟨q,us,rfl,h2,r2⟩:=(Ze rb eb (λ_ z=>by cases z)).itup
  have l1:=r1.length
  have l2:=r2.length
  cases vs with
  |nil =>
   cases r1
   exact Zjd pins s σ H _ _ v u Q I rx ry ⟨p,q,us,rfl,rfl,h1,h2,ans ho M (.mtup h2 r2)⟩
  |cons v1 vs =>
   refine Zjg pins s σ H _ _ v u Q I rx ry ⟨p,q,_,us,rfl,rfl,h1,h2,by simp,by omega,λz=>?_,λz l hl=>Za0 ho M (ZC r1 r2) hl⟩
   subst z
   cases r2
   rw[List.append_nil]at ho
   exact ans ho M (.mtup h1 r1)
 ·split at e<;>cases e
  obtain⟨p,vs,rfl,h1,r1⟩:=Zz M ra ea
  obtain⟨q,us,rfl,h2,r2⟩:=Zz M rb eb
  have l1:=r1.length
  have l2:=r2.length
  exact op_cat pins s σ H _ _ v u Q I rx ry ⟨p,q,vs,us,rfl,rfl,h1,h2,by omega,λl hl=>XD ho M (ZC r1 r2) hl⟩
 all_goals cases e
theorem ZdL:OpR X (binaryOp .Sub) (r2 X.K xr (fBin .Sub)):=by
 rintro pins s σ H x y v u Q I rx ry ⟨cm,m,a,b,M,ra,rb,ho⟩
 obtain⟨t,e,ho⟩:=Qo ho
 obtain⟨ta,tb,ea,eb,e⟩:=Zbq e
 obtain⟨i,j,rfl,rfl,e2⟩:=JV e
 cases(Ze ra ea (λ_ z=>by cases z)).vint
 cases(Ze rb eb (λ_ z=>by cases z)).vint
 cases e2
 exact op_sub pins s σ H _ _ v u Q I rx ry ⟨_,_,rfl,rfl,ans ho M (.int _)⟩
theorem Zcr:OpR X (binaryOp .FloorDiv) (r2 X.K xr (fBin .FloorDiv)):=by
 rintro pins s σ H x y v u Q I rx ry ⟨cm,m,a,b,M,ra,rb,ho⟩
 obtain⟨t,e,ho⟩:=Qo ho
 obtain⟨ta,tb,ea,eb,e⟩:=Zbq e
 obtain⟨i,j,rfl,rfl,e2⟩:=JV e
 cases(Ze ra ea (λ_ z=>by cases z)).vint
 cases(Ze rb eb (λ_ z=>by cases z)).vint
 split at e2<;>cases e2
 exact Zjf pins s σ H _ _ v u Q I rx ry ⟨_,_,rfl,rfl,‹_/\_›,ans ho M (.int _)⟩
theorem ZdO:OpR X (binaryOp .Mod) (r2 X.K xr (fBin .Mod)):=by
 rintro pins s σ H x y v u Q I rx ry ⟨cm,m,a,b,M,ra,rb,ho⟩
 obtain⟨t,e,ho⟩:=Qo ho
 obtain⟨ta,tb,ea,eb,e⟩:=Zbq e
 obtain⟨i,j,rfl,rfl,e2⟩:=JV e
 cases(Ze ra ea (λ_ z=>by cases z)).vint
 cases(Ze rb eb (λ_ z=>by cases z)).vint
 split at e2<;>cases e2
 exact op_mod pins s σ H _ _ v u Q I rx ry ⟨_,_,rfl,rfl,‹_›,ans ho M (.int _)⟩
theorem ZdM:OpR X (binaryOp .Pow) (r2 X.K xr (fBin .Pow)):=by
 rintro pins s σ H x y v u Q I rx ry ⟨cm,m,a,b,M,ra,rb,ho⟩
 obtain⟨t,e,ho⟩:=Qo ho
 obtain⟨ta,tb,ea,eb,e⟩:=Zbq e
 obtain⟨i,j,rfl,rfl,e2⟩:=JV e
 cases(Ze ra ea (λ_ z=>by cases z)).vint
 cases(Ze rb eb (λ_ z=>by cases z)).vint
 have hc:0<=j/\j<=1000/\i.natAbs<2^64:=by
  by_cases hc:0<=j/\j<=1000/\i.natAbs<2^64
  ·exact hc
  ·rw[if_neg hc]at e2;cases e2
 rw[if_pos hc]at e2
 cases e2
 exact op_pow pins s σ H _ _ v u Q I rx ry ⟨_,_,rfl,rfl,⟨hc.1,by omega,hc.2.2⟩,ans ho M (.int _)⟩
theorem Xc{α β:Type}{F:α->β->Prop}{xs:List α}{ys:List β}(h:Paired F xs ys):∀k:Nat,Paired F (repT xs k) (List.replicate k ys).flatten
 |0=>.nil
 |k+1=>by
  unfold repT
  rw[List.replicate_succ,List.replicate_succ,List.flatten_cons,List.flatten_cons]
  exact ZC h (Xc h k)
noncomputable def fCmp(op:CmpOp)(x y:W)(m:Mem):Res W:=pur (((view x m).bind λx=>(view y m).bind λy=>cmpT op x y).map .bl) m
theorem Jt{op:CmpOp}{a b:W}{k:W->List Addr->Mem->Hp->Prop}(h:OkR K (fCmp op a b m) xr cm m H k):∃ta tb c,view a m=some ta/\view b m=some tb/\cmpT op ta tb=some c/\OkR K (.ok (.t (.bl c)) m) xr cm m H k:=by
 obtain⟨t,e,ho⟩:=Qo h
 cases q:((view a m).bind λx=>(view b m).bind λy=>cmpT op x y)with
 |none=>rw[q]at e;cases e
 |some c =>
  rw[q]at e;cases e
  obtain⟨ta,tb,ea,eb,e⟩:=Zbq q
  exact⟨ta,tb,c,ea,eb,e,ho⟩
noncomputable def flV:T->V
 |.bl b=>.bl b
 |.int i=>.int i
 |.str cs=>.str ⟨cs.toArray⟩
 |_=>.non
theorem RT.fl{t:T}{v:V}(h:RT K cm m H t v)(f:flat t=true):v=flV t:=by
 cases h<;>first|rfl|cases f
theorem Qy{w:W}{v:V}{t:T}(h:RW K cm m H w v)(e:view w m=some t)(f:flat t=true):v=flV t:=
 (Ze h e (λts z=>by subst z;cases f)).fl f
theorem Zch{a b:List Nat}:(⟨a.toArray⟩:Str)=⟨b.toArray⟩↔a=b:=by
 constructor
 ·intro h
  injection h with h
  simpa using h
 ·intro h;rw[h]
theorem Zhw{a b:List Nat}:decide (V.str ⟨a.toArray⟩=V.str ⟨b.toArray⟩)=(a==b):=by
 by_cases h:a=b
 ·subst h;simp
 ·rw[beq_eq_false_iff_ne.mpr h]
  exact decide_eq_false λz=>h (Zch.mp (V.str.inj z))
theorem ZeN{x y:T}(h:Zby x y=true):flat x=true/\flat y=true/\scal (flV x) (flV y)=true/\decide (flV x=flV y)=eqT x y:=by
 cases x<;>cases y<;>first
  |(cases h;done)
  |(refine⟨rfl,rfl,rfl,?_⟩;unfold eqT;first|exact ZcB|exact ZfW|exact Zhw|exact decide_eq_true rfl|exact decide_eq_false (λz=>nomatch z))
theorem ZjU(x y:T):cmpT .Eq x y=if Zby x y || (Zg 60 x&&Zg 60 y)then some (eqT x y)else none:=by cases x<;>cases y<;>rfl
theorem ZjT(x y:T):cmpT .NotEq x y=if Zby x y || (Zg 60 x&&Zg 60 y)then some (!eqT x y)else none:=by cases x<;>cases y<;>rfl
mutual
noncomputable def pyT:T->PyData
 |.bl b=>.bool b
 |.int i=>.int i
 |.str cs=>.str ⟨cs.toArray⟩
 |.tup ts=>.tuple (pyTs ts)
 |.lst ts=>.list (pyTs ts)
 |_=>.none
noncomputable def pyTs:List T->List PyData
 |[]=>[]
 |t::ts=>pyT t::pyTs ts
end
mutual
theorem Zae:∀(n:Nat) (t:T),Zg n t=true->PyData.canLay0 (pyT t)=true/\PyData.depth (pyT t)<=n
 |n,.non,h=>⟨by simp[pyT,PyData.canLay0],by simp[pyT,PyData.depth]⟩
 |n,.bl b,h=>⟨by rw[pyT];simp[PyData.canLay0],by rw[pyT];simp[PyData.depth]⟩
 |n,.int i,h=>⟨by rw[pyT];simp[PyData.canLay0],by rw[pyT];simp[PyData.depth]⟩
 |n,.str cs,h=>⟨by rw[pyT,PyData.canLay0];rw[Zg]at h;exact h,by rw[pyT];simp[PyData.depth]⟩
 |0,.tup ts,h=>by simp[Zg]at h
 |0,.lst ts,h=>by simp[Zg]at h
 |n+1,.tup ts,h=>by
  rw[Zg]at h
  have:=Zcm n ts h
  exact⟨by rw[pyT,PyData.canLay0];exact this.1,by rw[pyT];simp only[PyData.depth];omega⟩
 |n+1,.lst ts,h=>by
  rw[Zg]at h
  have:=Zcm n ts h
  exact⟨by rw[pyT,PyData.canLay0];exact this.1,by rw[pyT];simp only[PyData.depth];omega⟩
 |n,.dct _ _,h=>by cases n<;>simp[Zg]at h
 |n,.scr _,h=>by cases n<;>simp[Zg]at h
theorem Zcm:∀(n:Nat) (ts:List T),Zk n ts=true->PyData.canLayAll0 (pyTs ts)=true/\PyData.depthAll (pyTs ts)<=n
 |n,[],h=>⟨by rw[pyTs];simp[PyData.canLayAll0],by rw[pyTs];simp[PyData.depthAll]⟩
 |n,t::ts,h=>by
  rw[Zk,Bool.and_eq_true]at h
  have h1:=Zae n t h.1
  have h2:=Zcm n ts h.2
  refine⟨by rw[pyTs,PyData.canLayAll0,h1.1,h2.1];rfl,?_⟩
  rw[pyTs,PyData.depthAll]
  omega
end
theorem str_beq{a b:List Nat}:((⟨a.toArray⟩:Str)==⟨b.toArray⟩)=(a==b):=by
 by_cases h:a=b
 ·subst h;simp
 ·rw[beq_eq_false_iff_ne.mpr h,beq_eq_false_iff_ne.mpr λz=>h (Zch.mp z)]
mutual
theorem Zc5:∀(n k:Nat) (x y:T),Zg n x=true->Zg k y=true->PyData.eqv (pyT x) (pyT y)=eqT x y
 |n,k,.tup xs,.tup ys,h1,h2=>by
  cases n with
  |zero=>simp[Zg]at h1
  |succ n=>cases k with
   |zero=>simp[Zg]at h2
   |succ k =>
    rw[Zg]at h1 h2
    rw[pyT,pyT,PyData.eqv,eqT]
    exact Zcn n k xs ys h1 h2
 |n,k,.lst xs,.lst ys,h1,h2=>by
  cases n with
  |zero=>simp[Zg]at h1
  |succ n=>cases k with
   |zero=>simp[Zg]at h2
   |succ k =>
    rw[Zg]at h1 h2
    rw[pyT,pyT,PyData.eqv,eqT]
    exact Zcn n k xs ys h1 h2
 |n,k,.str xs,.str ys,_,_=>by rw[pyT,pyT,PyData.eqv,eqT];exact str_beq
 |n,k,.non,y,_,h2=>by cases y<;>first|(simp[pyT,PyData.eqv,eqT];done)|(cases k<;>simp[Zg]at h2)
 |n,k,.bl b,y,_,h2=>by cases y<;>first|(simp[pyT,PyData.eqv,eqT,b2i];done)|(cases k<;>simp[Zg]at h2)
 |n,k,.int b,y,_,h2=>by cases y<;>first|(simp[pyT,PyData.eqv,eqT,b2i];done)|(cases k<;>simp[Zg]at h2)
 |n,k,.str xs,.non,_,_=>by simp[pyT,PyData.eqv,eqT]
 |n,k,.str xs,.bl _,_,_=>by simp[pyT,PyData.eqv,eqT]
 |n,k,.str xs,.int _,_,_=>by simp[pyT,PyData.eqv,eqT]
 |n,k,.str xs,.tup _,_,_=>by simp[pyT,PyData.eqv,eqT]
 |n,k,.str xs,.lst _,_,_=>by simp[pyT,PyData.eqv,eqT]
 |n,k,.tup xs,.non,_,_=>by simp[pyT,PyData.eqv,eqT]
 |n,k,.tup xs,.bl _,_,_=>by simp[pyT,PyData.eqv,eqT]
 |n,k,.tup xs,.int _,_,_=>by simp[pyT,PyData.eqv,eqT]
 |n,k,.tup xs,.str _,_,_=>by simp[pyT,PyData.eqv,eqT]
 |n,k,.tup xs,.lst _,_,_=>by simp[pyT,PyData.eqv,eqT]
 |n,k,.lst xs,.non,_,_=>by simp[pyT,PyData.eqv,eqT]
 |n,k,.lst xs,.bl _,_,_=>by simp[pyT,PyData.eqv,eqT]
 |n,k,.lst xs,.int _,_,_=>by simp[pyT,PyData.eqv,eqT]
 |n,k,.lst xs,.str _,_,_=>by simp[pyT,PyData.eqv,eqT]
 |n,k,.lst xs,.tup _,_,_=>by simp[pyT,PyData.eqv,eqT]
 |n,k,x,.dct _ _,_,h2=>by cases k<;>simp[Zg]at h2
 |n,k,x,.scr _,_,h2=>by cases k<;>simp[Zg]at h2
 |n,k,.dct _ _,y,h1,_=>by cases n<;>simp[Zg]at h1
 |n,k,.scr _,y,h1,_=>by cases n<;>simp[Zg]at h1
theorem Zcn:∀(n k:Nat) (xs ys:List T),Zk n xs=true->Zk k ys=true->PyData.eqvAll (pyTs xs) (pyTs ys)=eqTs xs ys
 |n,k,[],[],_,_=>by rw[pyTs,PyData.eqvAll,eqTs]
 |n,k,[],_::_,_,_=>by rw[pyTs,pyTs,PyData.eqvAll,eqTs]<;>simp
 |n,k,_::_,[],_,_=>by rw[pyTs,pyTs,PyData.eqvAll,eqTs]<;>simp
 |n,k,x::xs,y::ys,h1,h2=>by
  rw[Zk,Bool.and_eq_true]at h1 h2
  rw[pyTs,pyTs,PyData.eqvAll,eqTs,Zc5 n k x y h1.1 h2.1,Zcn n k xs ys h1.2 h2.2]
end
theorem JL{pins:List (Addr×Obj)}{σ:L2.St}{s:Shared}(I:Inv X pins σ H s):∀{ts:List T}{vs:List V}{us:List Value},ts.length=vs.length->(∀(i:Nat) t v u,ts[i]?=some t->vs[i]?=some v->RelV v u->∃as,Reads s.heap u (pyT t) as)->Vals vs us->∃as,ReadsAll s.heap us (pyTs ts) as
 |[],[],_,_,_,.nil=>⟨_,by rw[pyTs];exact .nil⟩
 |t::ts,v::vs,_,hl,h,.cons r rs=>by
  obtain⟨as,h1⟩:=h 0 t v _ rfl rfl r
  obtain⟨bs,h2⟩:=JL I (ts:=ts) (vs:=vs) (by simpa using hl) (λi t v u a b c=>h (i+1) t v u (by simpa using a) (by simpa using b) c) rs
  exact⟨_,by rw[pyTs];exact .cons h1 h2⟩
 |[],_::_,_,hl,_,_=>by simp at hl
 |_::_,[],_,hl,_,_=>by simp at hl
theorem RT.reads{pins:List (Addr×Obj)}{σ:L2.St}{s:Shared}{K:Frag}(hK:X.K=K)(I:Inv X pins σ H s){t:T}{v:V}(h:RT K cm m H t v):∀{n:Nat}{u:Value},Zg n t=true->RelV v u->∃as,Reads s.heap u (pyT t) as:=by
 subst hK
 induction h with
 |non=>intro n u _ r;cases r;exact⟨[],by simp only[pyT];exact .none⟩
 |bl b=>intro n u _ r;cases r;exact⟨_,by rw[pyT];exact .bool b⟩
 |int i=>intro n u _ r;obtain⟨t,rfl⟩:=r;exact⟨_,by rw[pyT];exact .int i t⟩
 |str cs=>intro n u _ r;obtain⟨t,rfl⟩:=r;exact⟨_,by rw[pyT];exact .str _ t⟩
 |@tup a ts vs h1 h2 h3 ih =>
  intro n u hd r
  cases n with
  |zero=>simp[Zg]at hd
  |succ n =>
   rw[Zg]at hd
   cases r
   obtain⟨its,rv,⟨o,ho,hc,k,hdt⟩,hz⟩:=I.tuple h1
   have hall:∀(i:Nat) t,ts[i]?=some t->Zg n t=true:=λi t e=>by
    have:∀{l:List T},Zk n l=true->∀x∈l,Zg n x=true:=λ{l}=>by
     induction l with
     |nil=>intro _ x hx;cases hx
     |cons y l ih=>intro h x hx;rw[Zk,Bool.and_eq_true]at h;rcases List.mem_cons.mp hx with rfl|hx;exact h.1;exact ih h.2 x hx
    exact this hd t (List.mem_of_getElem? e)
   obtain⟨as,hr⟩:=JL I h2 (λi t v u e1 e2 r=>ih i t v e1 e2 (hall i t e1) r) rv
   exact⟨_,by rw[pyT];exact .tuple ho hc hdt (by simpa using hr)⟩
 |@lst a ts vs h1 h2 h3 h4 ih =>
  intro n u hd r
  cases n with
  |zero=>simp[Zg]at hd
  |succ n =>
   rw[Zg]at hd
   cases r
   obtain⟨its,k,rv,ho,hz⟩:=I.lst h1
   have hall:∀(i:Nat) t,ts[i]?=some t->Zg n t=true:=λi t e=>by
    have:∀{l:List T},Zk n l=true->∀x∈l,Zg n x=true:=λ{l}=>by
     induction l with
     |nil=>intro _ x hx;cases hx
     |cons y l ih=>intro h x hx;rw[Zk,Bool.and_eq_true]at h;rcases List.mem_cons.mp hx with rfl|hx;exact h.1;exact ih h.2 x hx
    exact this hd t (List.mem_of_getElem? e)
   obtain⟨as,hr⟩:=JL I h3 (λi t v u e1 e2 r=>ih i t v e1 e2 (hall i t e1) r) rv
   exact⟨_,by rw[pyT];exact .list ho rfl rfl (by simpa using hr)⟩
 |dct _ _ _ _ _ _=>intro n u hd _;cases n<;>simp[Zg]at hd
 |scr _ _=>intro n u hd _;cases n<;>simp[Zg]at hd
theorem Qt{pins:List (Addr×Obj)}{σ:L2.St}{s:Shared}(I:Inv X pins σ H s)(M:MemR X.K cm m H){w:W}{t:T}{v:V}{u:Value}(r:RW X.K cm m H w v)(e:view w m=some t)(rv:RelV v u){n:Nat}(hd:Zg n t=true):∃as,Reads s.heap u (pyT t) as:=by
 cases t with
 |lst ts =>
  cases n with
  |zero=>simp[Zg]at hd
  |succ n =>
   rw[Zg]at hd
   obtain⟨a,vs,rfl,h1,rr⟩:=Zz M r e
   cases rv
   obtain⟨its,k,rv,ho,hz⟩:=I.lst h1
   obtain⟨as,hr⟩:=JL I rr.length (λi t v u e1 e2 r=>RT.reads rfl I (Z0 rr i t v e1 e2) (n:=n) (by
    have:∀{l:List T},Zk n l=true->∀x∈l,Zg n x=true:=λ{l}=>by
     induction l with
     |nil=>intro _ x hx;cases hx
     |cons y l ih=>intro h x hx;rw[Zk,Bool.and_eq_true]at h;rcases List.mem_cons.mp hx with rfl|hx;exact h.1;exact ih h.2 x hx
    exact this hd t (List.mem_of_getElem? e1)) r) rv
   exact⟨_,by rw[pyT];exact .list ho rfl rfl (by simpa using hr)⟩
 |_=>exact RT.reads rfl I (Ze r e (λ_ z=>by cases z)) hd rv
theorem Zfg(hu:X.A.units+64<cLine):OpR X (compareOp .Eq) (r2 X.K xr (fCmp .Eq)):=by
 rintro pins s σ H x y v u Q I rx ry ⟨cm,m,a,b,M,ra,rb,ho⟩
 obtain⟨ta,tb,c,ea,eb,e,ho⟩:=Jt ho
 rw[ZjU]at e
 split at e<;>cases e
 rename_i hs
 rw[Bool.or_eq_true]at hs
 rcases hs with hs|hs
 ·obtain⟨f1,f2,f3,f4⟩:=ZeN hs
  cases Qy ra ea f1
  cases Qy rb eb f2
  exact op_eq pins s σ H _ _ v u Q I rx ry ⟨f3,by rw[f4];exact ans ho M (.bl _)⟩
 ·rw[Bool.and_eq_true]at hs
  obtain⟨as,ha⟩:=Qt I M ra ea rx hs.1
  obtain⟨bs,hb⟩:=Qt I M rb eb ry hs.2
  have d1:=Zae 60 ta hs.1
  have d2:=Zae 60 tb hs.2
  refine SeqAt.compareEq_reads ha hb d1.1 d2.1 (by omega) ⟨.bl (eqT ta tb),H,I,?_,ans ho M (.bl _)⟩
  rw[Zc5 60 60 ta tb hs.1 hs.2]
  rfl
theorem Ze9(hu:X.A.units+64<cLine):OpR X (compareOp .NotEq) (r2 X.K xr (fCmp .NotEq)):=by
 rintro pins s σ H x y v u Q I rx ry ⟨cm,m,a,b,M,ra,rb,ho⟩
 obtain⟨ta,tb,c,ea,eb,e,ho⟩:=Jt ho
 rw[ZjT]at e
 split at e<;>cases e
 rename_i hs
 rw[Bool.or_eq_true]at hs
 rcases hs with hs|hs
 ·obtain⟨f1,f2,f3,f4⟩:=ZeN hs
  cases Qy ra ea f1
  cases Qy rb eb f2
  exact op_ne pins s σ H _ _ v u Q I rx ry ⟨f3,by rw[f4];exact ans ho M (.bl _)⟩
 ·rw[Bool.and_eq_true]at hs
  obtain⟨as,ha⟩:=Qt I M ra ea rx hs.1
  obtain⟨bs,hb⟩:=Qt I M rb eb ry hs.2
  have d1:=Zae 60 ta hs.1
  have d2:=Zae 60 tb hs.2
  refine SeqAt.compareNe_reads ha hb d1.1 d2.1 (by omega) ⟨.bl (!eqT ta tb),H,I,?_,ans ho M (.bl _)⟩
  rw[Zc5 60 60 ta tb hs.1 hs.2]
  rfl
theorem Zh0:∀a b:List Nat,nlt a b=decide (a<b)
 |[],[]=>by simp[nlt]
 |[],_::_=>by simp[nlt]
 |_::_,[]=>by simp[nlt]
 |a::x,b::y=>by
  unfold nlt
  rw[Zh0 x y]
  by_cases h:a<b
  ·rw[if_pos h]
   exact(decide_eq_true (List.cons_lt_cons_iff.mpr (.inl h))).symm
  ·rw[if_neg h]
   by_cases h2:b<a
   ·rw[if_pos h2]
    refine(decide_eq_false λz=>?_).symm
    rcases List.cons_lt_cons_iff.mp z with z|⟨z,_⟩<;>omega
   ·rw[if_neg h2]
    have e:a=b:=by omega
    subst e
    simp
theorem Zfa:OpR X (compareOp .Lt) (r2 X.K xr (fCmp .Lt)):=by
 rintro pins s σ H x y v u Q I rx ry ⟨cm,m,a,b,M,ra,rb,ho⟩
 obtain⟨ta,tb,c,ea,eb,e,ho⟩:=Jt ho
 change ltT ta tb=some c at e
 cases ta with
 |int i=>cases tb with
  |int j =>
   cases e
   cases(Ze ra ea (λ_ z=>by cases z)).vint
   cases(Ze rb eb (λ_ z=>by cases z)).vint
   exact op_lt pins s σ H _ _ v u Q I rx ry ⟨_,_,rfl,rfl,ans ho M (.bl _)⟩
  |_=>cases e
 |str i=>cases tb with
  |str j =>
   cases e
   cases(Ze ra ea (λ_ z=>by cases z)).vstr
   cases(Ze rb eb (λ_ z=>by cases z)).vstr
   refine Ze7 pins s σ H _ _ v u Q I rx ry ⟨_,_,rfl,rfl,?_⟩
   have:=ans ho M (.bl _)
   rw[Zh0]at this
   exact this
  |_=>cases e
 |_=>cases e
theorem Zfb:OpR X (compareOp .LtE) (r2 X.K xr (fCmp .LtE)):=by
 rintro pins s σ H x y v u Q I rx ry ⟨cm,m,a,b,M,ra,rb,ho⟩
 obtain⟨ta,tb,c,ea,eb,e,ho⟩:=Jt ho
 obtain⟨i,j,rfl,rfl,rfl⟩:=Xf e
 cases(Ze ra ea (λ_ z=>by cases z)).vint
 cases(Ze rb eb (λ_ z=>by cases z)).vint
 exact op_le pins s σ H _ _ v u Q I rx ry ⟨_,_,rfl,rfl,ans ho M (.bl _)⟩
theorem Zfe:OpR X (compareOp .Gt) (r2 X.K xr (fCmp .Gt)):=by
 rintro pins s σ H x y v u Q I rx ry ⟨cm,m,a,b,M,ra,rb,ho⟩
 obtain⟨ta,tb,c,ea,eb,e,ho⟩:=Jt ho
 obtain⟨i,j,rfl,rfl,rfl⟩:=Xf e
 cases(Ze ra ea (λ_ z=>by cases z)).vint
 cases(Ze rb eb (λ_ z=>by cases z)).vint
 exact op_gt pins s σ H _ _ v u Q I rx ry ⟨_,_,rfl,rfl,ans ho M (.bl _)⟩
theorem Zff:OpR X (compareOp .GtE) (r2 X.K xr (fCmp .GtE)):=by
 rintro pins s σ H x y v u Q I rx ry ⟨cm,m,a,b,M,ra,rb,ho⟩
 obtain⟨ta,tb,c,ea,eb,e,ho⟩:=Jt ho
 obtain⟨i,j,rfl,rfl,rfl⟩:=Xf e
 cases(Ze ra ea (λ_ z=>by cases z)).vint
 cases(Ze rb eb (λ_ z=>by cases z)).vint
 exact op_ge pins s σ H _ _ v u Q I rx ry ⟨_,_,rfl,rfl,ans ho M (.bl _)⟩
theorem Zhs{a b:List Nat}:eqV (.str ⟨a.toArray⟩) (.str ⟨b.toArray⟩)=(a==b):=by
 show((⟨a.toArray⟩:Str)==⟨b.toArray⟩)=(a==b)
 by_cases h:a=b
 ·subst h;simp
 ·rw[beq_eq_false_iff_ne.mpr h,beq_eq_false_iff_ne.mpr λz=>h (Zch.mp z)]
theorem fl_eqV{x y:T}(f:flat x=true)(g:flat y=true):eqV (flV y) (flV x)=eqT y x:=by
 cases x<;>cases y<;>first
  |(cases f;done)
  |(cases g;done)
  |(unfold eqT;exact Zhs)
  |(unfold eqT;rfl)
theorem RTs.fl{ts:List T}{vs:List V}(h:RTs K cm m H ts vs)(f:ts.all flat=true):vs=ts.map flV/\vs.all XJ=true:=by
 induction h with
 |nil=>exact⟨rfl,rfl⟩
 |@cons t v _ _ r _ ih =>
  rw[List.all_cons,Bool.and_eq_true]at f
  obtain⟨h1,h2⟩:=ih f.2
  have h3:=r.fl f.1
  subst h3
  refine⟨by rw[List.map_cons,h1],?_⟩
  rw[List.all_cons,h2,Bool.and_true]
  cases t<;>first|rfl|(cases f.1)
theorem Zgf{x:T}(f:flat x=true):∀{ts:List T},ts.all flat=true->inV (flV x) (ts.map flV)=ts.any λt=>eqT t x
 |[],_=>rfl
 |t::ts,g=>by
  rw[List.all_cons,Bool.and_eq_true]at g
  have ih:=Zgf f g.2
  unfold inV at ih ⊢
  rw[List.map_cons,List.any_cons,List.any_cons,ih,fl_eqV f g.1]
theorem X3{x:T}(f:flat x=true):XJ (flV x)=true:=by cases x<;>first|rfl|cases f
theorem found1(b:List Nat)(a:Nat):(!(Builtin.Str.occurrences ⟨b.toArray⟩ ⟨#[a]⟩ 0 (⟨b.toArray⟩:Str).length 1).isEmpty)=decide (a∈b):=by
 have:=PySem.StrLaws.found_one (⟨b.toArray⟩:Str) a
 simpa using this
theorem J7{x y:T}{c:Bool}(e:cmpT .In x y=some c):(∃a b,x=.str a/\y=.str b/\c=!(Builtin.Str.occurrences ⟨b.toArray⟩ ⟨a.toArray⟩ 0 (⟨b.toArray⟩:Str).length 1).isEmpty)∨(flat x=true/\∃ts,(y=.tup ts∨y=.lst ts)/\ts.all flat=true/\c=ts.any λt=>eqT t x)∨∃ts,y=.lst ts/\Zg 59 x=true/\Zk 59 ts=true/\c=ts.any λt=>eqT t x:=by
 have hh:∀{x y:T}{c:Bool},hasT x y=some c->(flat x=true/\∃ts,(y=.tup ts∨y=.lst ts)/\ts.all flat=true/\c=ts.any λt=>eqT t x)∨∃ts,y=.lst ts/\Zg 59 x=true/\Zk 59 ts=true/\c=ts.any λt=>eqT t x:=by
  intro x y c e
  unfold hasT at e
  split at e
  ·split at e<;>cases e
   rename_i h
   rw[Bool.and_eq_true]at h
   exact .inl ⟨h.1,_,.inl rfl,h.2,rfl⟩
  ·split at e
   ·cases e
    rename_i h
    rw[Bool.and_eq_true]at h
    exact .inl ⟨h.1,_,.inr rfl,h.2,rfl⟩
   ·split at e<;>cases e
    rename_i h
    rw[Bool.and_eq_true]at h
    exact .inr ⟨_,rfl,h.1,h.2,rfl⟩
  ·cases e
 cases x with
 |str cs =>
  cases cs with
  |nil=>cases y<;>exact .inr (hh e)
  |cons a r =>
   cases r with
   |nil =>
    cases y with
    |str b=>cases e;exact .inl ⟨[a],b,rfl,rfl,(found1 b a).symm⟩
    |_=>exact .inr (hh e)
   |cons a' r =>
    cases y with
    |str b=>cases e;exact .inl ⟨_,b,rfl,rfl,rfl⟩
    |_=>exact .inr (hh e)
 |_=>cases y<;>exact .inr (hh e)
theorem Zhv{ts:List T}{n:Nat}(h:Zk n ts=true):∀x∈ts,Zg n x=true:=by
 induction ts with
 |nil=>intro x hx;cases hx
 |cons y l ih =>
  intro x hx
  rw[Zk,Bool.and_eq_true]at h
  rcases List.mem_cons.mp hx with rfl|hx
  ·exact h.1
  ·exact ih h.2 x hx
theorem Zgn{vs:List V}{us:List Value}(r:Vals vs us):∀(i:Nat) (u:Value),us[i]?=some u->∃v,vs[i]?=some v/\RelV v u:=by
 induction r with
 |nil=>intro i u h;simp at h
 |cons r rs ih =>
  intro i u h
  cases i with
  |zero=>simp at h;subst h;exact⟨_,rfl,r⟩
  |succ i=>exact ih i u (by simpa using h)
theorem ZfT{pins:List (Addr×Obj)}{σ:L2.St}{s:Shared}{H:Hp}{w:W}{tx:T}{xv:V}{v:Value}{p:Addr}{ts:List T}{vs:List V}(hu:X.A.units+64<cLine)(I:Inv X pins σ H s)(M:MemR X.K cm m H)(ra:RW X.K cm m H w xv)(ea:view w m=some tx)(rx:RelV xv v)(dx:Zg 59 tx=true)(h1:H p=some (.lst vs))(r:RTs X.K cm m H ts vs)(dt:Zk 59 ts=true):
  ∃(its:Array Value) (e:Value->Bool),s.heap.IsList p its/\(∀y,y∈its->SeqAt.EqAt X.A.in1 s y v (e y))/\its.any e=ts.any λt=>eqT t tx:=by
 classical
 obtain⟨as,hx⟩:=Qt I M ra ea rx dx
 obtain⟨its,k,rv,ho,hz⟩:=I.lst h1
 have hlen:ts.length=its.length:=r.length.trans rv.length
 have at_:∀(i:Nat) (t:T) (y:Value),ts[i]?=some t->its[i]?=some y->SeqAt.EqAt X.A.in1 s y v (eqT t tx):=by
  intro i t y e1 e2
  obtain⟨u,e3,e4⟩:=Zgn rv i y e2
  have d:=Zhv dt t (List.mem_of_getElem? e1)
  obtain⟨bs,hb⟩:=RT.reads rfl I (Z0 r i t u e1 e3) (n:=59) d e4
  have l1:=Zae 59 t d
  have l2:=Zae 59 tx dx
  have:=SeqAt.eqAt_reads (pyT t) (pyT tx) X.A.in1 s y v bs as hb hx l1.1 l2.1 (by
   have:X.A.in1.units<=X.A.units+1:=by simp[Around.in1]
   omega)
  rw[Zc5 59 59 t tx d dx]at this
  exact this
 refine⟨its.toArray,λy=>decide (∃(i:Nat) (t:T),ts[i]?=some t/\its[i]?=some y/\eqT t tx=true),⟨_,ho,rfl,k,rfl⟩,λy hy=>?_,?_⟩
 ·by_cases q:∃(i:Nat) (t:T),ts[i]?=some t/\its[i]?=some y/\eqT t tx=true
  ·dsimp only;rw[decide_eq_true q]
   obtain⟨i,t,e1,e2,e3⟩:=q
   have:=at_ i t y e1 e2
   rw[e3]at this
   exact this
  ·dsimp only;rw[decide_eq_false q]
   obtain⟨i,hi,e2⟩:=List.getElem_of_mem (show y∈its by simpa using hy)
   have hi':i<ts.length:=by omega
   have e1:ts[i]?=some ts[i]:=List.getElem?_eq_getElem hi'
   have e2:its[i]?=some y:=by rw[<-e2];exact List.getElem?_eq_getElem hi
   have:=at_ i ts[i] y e1 e2
   cases q2:eqT ts[i] tx with
   |false=>rw[q2]at this;exact this
   |true=>exact absurd ⟨i,ts[i],e1,e2,q2⟩ q
 ·rw[Bool.eq_iff_iff,List.any_toArray,List.any_eq_true,List.any_eq_true]
  constructor
  ·rintro ⟨y,hy,q⟩
   obtain⟨i,t,e1,_,e3⟩:=of_decide_eq_true q
   exact⟨t,List.mem_of_getElem? e1,e3⟩
  ·rintro ⟨t,ht,e3⟩
   obtain⟨i,hi,e1⟩:=List.getElem_of_mem ht
   have hi':i<its.length:=by omega
   exact⟨its[i],List.getElem_mem hi',decide_eq_true ⟨i,t,by rw[<-e1];exact List.getElem?_eq_getElem hi,List.getElem?_eq_getElem hi',e3⟩⟩
theorem Zd8(x y:T):cmpT .NotIn x y=(cmpT .In x y).map (!·):=by
 cases x with
 |str cs =>
  cases cs with
  |nil=>cases y<;>rfl
  |cons a r=>cases r<;>cases y<;>rfl
 |_=>cases y<;>rfl
theorem Zfd(hu:X.A.units+64<cLine):OpR X (compareOp .In) (r2 X.K xr (fCmp .In)):=by
 rintro pins s σ H x y v u Q I rx ry ⟨cm,m,a,b,M,ra,rb,ho⟩
 obtain⟨ta,tb,c,ea,eb,e,ho⟩:=Jt ho
 rcases J7 e with⟨p,q,rfl,rfl,rfl⟩|⟨f,ts,hy,g,rfl⟩|⟨ts,rfl,dx,dt,rfl⟩
 ·cases(Ze ra ea (λ_ z=>by cases z)).vstr
  cases(Ze rb eb (λ_ z=>by cases z)).vstr
  exact Ze8 pins s σ H _ _ v u Q I rx ry ⟨_,_,rfl,rfl,ans ho M (.bl _)⟩
 ·cases Qy ra ea f
  have fin:∀{vs:List V},RTs X.K cm m H ts vs->vs=ts.map flV/\vs.all XJ=true/\Q (.bl (inV (flV ta) vs)) H:=λr=>by
   obtain⟨h1,h2⟩:=RTs.fl r g
   exact⟨h1,h2,by rw[h1,Zgf f g];exact ans ho M (.bl _)⟩
  rcases hy with rfl|rfl
  ·obtain⟨p,vs,rfl,h1,r⟩:=(Ze rb eb (λ_ z=>by cases z)).itup
   obtain⟨_,f2,f3⟩:=fin r
   exact ZbK pins s σ H _ _ v u Q I rx ry ⟨p,vs,rfl,.inr h1,X3 f,f2,f3⟩
  ·obtain⟨p,vs,rfl,h1,r⟩:=Zz M rb eb
   obtain⟨_,f2,f3⟩:=fin r
   exact ZbK pins s σ H _ _ v u Q I rx ry ⟨p,vs,rfl,.inl (.of h1),X3 f,f2,f3⟩
 ·obtain⟨p,vs,rfl,h1,r⟩:=Zz M rb eb
  cases ry
  obtain⟨its,e,hl,he,ha⟩:=ZfT hu I M ra ea rx dx h1 r dt
  refine SeqAt.in_listAt e hl he ?_
  rw[ha]
  exact⟨.bl _,H,I,rfl,ans ho M (.bl _)⟩
theorem ZbL(hu:X.A.units+64<cLine):OpR X (compareOp .NotIn) (r2 X.K xr (fCmp .NotIn)):=by
 rintro pins s σ H x y v u Q I rx ry ⟨cm,m,a,b,M,ra,rb,ho⟩
 obtain⟨ta,tb,c',ea,eb,e,ho⟩:=Jt ho
 rw[Zd8]at e
 cases e2:cmpT .In ta tb with
 |none=>rw[e2]at e;cases e
 |some c =>
 rw[e2]at e;cases e
 rcases J7 e2 with⟨p,q,rfl,rfl,rfl⟩|⟨f,ts,hy,g,rfl⟩|⟨ts,rfl,dx,dt,rfl⟩
 ·cases(Ze ra ea (λ_ z=>by cases z)).vstr
  cases(Ze rb eb (λ_ z=>by cases z)).vstr
  exact ZbJ pins s σ H _ _ v u Q I rx ry ⟨_,_,rfl,rfl,ans ho M (.bl _)⟩
 ·cases Qy ra ea f
  have fin:∀{vs:List V},RTs X.K cm m H ts vs->vs=ts.map flV/\vs.all XJ=true/\Q (.bl (!inV (flV ta) vs)) H:=λr=>by
   obtain⟨h1,h2⟩:=RTs.fl r g
   exact⟨h1,h2,by rw[h1,Zgf f g];exact ans ho M (.bl _)⟩
  rcases hy with rfl|rfl
  ·obtain⟨p,vs,rfl,h1,r⟩:=(Ze rb eb (λ_ z=>by cases z)).itup
   obtain⟨_,f2,f3⟩:=fin r
   exact Xq pins s σ H _ _ v u Q I rx ry ⟨p,vs,rfl,.inr h1,X3 f,f2,f3⟩
  ·obtain⟨p,vs,rfl,h1,r⟩:=Zz M rb eb
   obtain⟨_,f2,f3⟩:=fin r
   exact Xq pins s σ H _ _ v u Q I rx ry ⟨p,vs,rfl,.inl (.of h1),X3 f,f2,f3⟩
 ·obtain⟨p,vs,rfl,h1,r⟩:=Zz M rb eb
  cases ry
  obtain⟨its,e,hl,he,ha⟩:=ZfT hu I M ra ea rx dx h1 r dt
  refine SeqAt.notIn_listAt e hl he ?_
  rw[ha]
  exact⟨.bl _,H,I,rfl,ans ho M (.bl _)⟩
noncomputable def hdV:V->Option (Option Bool)
 |.non=>some none
 |.bl b=>some (some b)
 |_=>none
noncomputable def hdT:T->Option (Option Bool)
 |.non=>some none
 |.bl b=>some (some b)
 |_=>none
theorem RW.hd{w:W}{v:V}{t:T}(M:MemR K cm m H)(h:RW K cm m H w v)(e:view w m=some t):hdV v=hdT t:=by
 cases t with
 |lst ts=>obtain⟨a,vs,rfl,_⟩:=Zz M h e;rfl
 |_=>cases Ze h e (λ_ z=>by cases z)<;>rfl
theorem is_bl{prog:Program}{w:World}{A:Around}{E:Value->Shared->Prop}{s:Shared}{x:V}{v:Value}{b:Bool}{Q:Value->Shared->Prop}(rx:RelV x v)(h:Q (.bool (hdV x==some (some b))) s):
  wpAny (model prog w) A (compareOp .Is v (.bool b)) Q E s:=by
 cases x with
 |bl c =>
  cases rx
  refine wpAny_is_plain rfl ?_
  have e:((Value.bool c)==(Value.bool b))=(hdV (.bl c)==some (some b)):=by cases c<;>cases b<;>rfl
  rw[e];exact h
 |non=>cases rx;exact wpAny_is_other rfl (λz=>nomatch z) h
 |int i=>obtain⟨t,rfl⟩:=rx;exact wpAny_is_other rfl (λz=>nomatch z) h
 |str i=>obtain⟨t,rfl⟩:=rx;exact wpAny_is_other rfl (λz=>nomatch z) h
 |byt i=>obtain⟨t,rfl⟩:=rx;exact wpAny_is_other rfl (λz=>nomatch z) h
 |flt i=>obtain⟨t,rfl⟩:=rx;exact wpAny_is_other rfl (λz=>nomatch z) h
 |ref a=>cases rx;exact wpAny_is_other rfl (λz=>nomatch z) h
 |ty n=>cases rx;exact wpAny_is_other rfl (λz=>nomatch z) h
theorem Zhj{prog:Program}{w:World}{A:Around}{E:Value->Shared->Prop}{s:Shared}{x:V}{v:Value}{b:Bool}{Q:Value->Shared->Prop}(rx:RelV x v)(h:Q (.bool (!(hdV x==some (some b)))) s):
  wpAny (model prog w) A (compareOp .IsNot v (.bool b)) Q E s:=by
 cases x with
 |bl c =>
  cases rx
  refine wpAny_isNot_plain rfl ?_
  have e:((Value.bool c)==(Value.bool b))=(hdV (.bl c)==some (some b)):=by cases c<;>cases b<;>rfl
  rw[e];exact h
 |non=>cases rx;exact wpAny_isNot_other rfl (λz=>nomatch z) h
 |int i=>obtain⟨t,rfl⟩:=rx;exact wpAny_isNot_other rfl (λz=>nomatch z) h
 |str i=>obtain⟨t,rfl⟩:=rx;exact wpAny_isNot_other rfl (λz=>nomatch z) h
 |byt i=>obtain⟨t,rfl⟩:=rx;exact wpAny_isNot_other rfl (λz=>nomatch z) h
 |flt i=>obtain⟨t,rfl⟩:=rx;exact wpAny_isNot_other rfl (λz=>nomatch z) h
 |ref a=>cases rx;exact wpAny_isNot_other rfl (λz=>nomatch z) h
 |ty n=>cases rx;exact wpAny_isNot_other rfl (λz=>nomatch z) h
theorem Zf0{x y:T}{c:Bool}(e:cmpT .Is x y=some c):(y=.non/\c=(hdT x==some none))∨∃b,y=.bl b/\c=(hdT x==some (some b)):=by
 cases y with
 |non=>cases x<;>(cases e;exact .inl ⟨rfl,rfl⟩)
 |bl b =>
  refine .inr ⟨b,rfl,?_⟩
  cases x with
  |bl a=>cases e;cases a<;>cases b<;>rfl
  |_=>cases e;rfl
 |_=>cases x<;>cases e
theorem Zd9(x y:T):cmpT .IsNot x y=(cmpT .Is x y).map (!·):=by
 cases y with
 |non=>cases x<;>rfl
 |bl b=>cases x<;>first|rfl|(rename_i a;cases a<;>cases b<;>rfl)
 |_=>cases x<;>rfl
theorem Zh8{x:V}:decide (x=.non)=(hdV x==some none):=by cases x<;>first|rfl|exact decide_eq_true rfl|exact decide_eq_false (λz=>nomatch z)
theorem Zfc:OpR X (compareOp .Is) (r2 X.K xr (fCmp .Is)):=by
 rintro pins s σ H x y v u Q I rx ry ⟨cm,m,a,b,M,ra,rb,ho⟩
 obtain⟨ta,tb,c,ea,eb,e,ho⟩:=Jt ho
 have hx:=RW.hd M ra ea
 rcases Zf0 e with⟨rfl,rfl⟩|⟨k,rfl,rfl⟩
 ·cases(Ze rb eb (λ_ z=>by cases z)).vnon
  refine op_isN pins s σ H _ _ v u Q I rx ry ⟨rfl,?_⟩
  rw[Zh8,hx]
  exact ans ho M (.bl _)
 ·cases(Ze rb eb (λ_ z=>by cases z)).vbl
  cases ry
  refine is_bl rx ⟨.bl _,H,I,rfl,?_⟩
  rw[hx]
  exact ans ho M (.bl _)
theorem ZbM:OpR X (compareOp .IsNot) (r2 X.K xr (fCmp .IsNot)):=by
 rintro pins s σ H x y v u Q I rx ry ⟨cm,m,a,b,M,ra,rb,ho⟩
 obtain⟨ta,tb,c',ea,eb,e,ho⟩:=Jt ho
 have hx:=RW.hd M ra ea
 rw[Zd9]at e
 cases e2:cmpT .Is ta tb with
 |none=>rw[e2]at e;cases e
 |some c =>
 rw[e2]at e;cases e
 rcases Zf0 e2 with⟨rfl,rfl⟩|⟨k,rfl,rfl⟩
 ·cases(Ze rb eb (λ_ z=>by cases z)).vnon
  refine Zjc pins s σ H _ _ v u Q I rx ry ⟨rfl,?_⟩
  rw[Zh8,hx]
  exact ans ho M (.bl _)
 ·cases(Ze rb eb (λ_ z=>by cases z)).vbl
  cases ry
  refine Zhj rx ⟨.bl _,H,I,rfl,?_⟩
  rw[hx]
  exact ans ho M (.bl _)
theorem ZhZ(hu:X.A.units+64<cLine):∀op:CmpOp,OpR X (compareOp op) (r2 X.K xr (fCmp op))
 |.Eq=>Zfg hu
 |.NotEq=>Ze9 hu
 |.Lt=>Zfa
 |.LtE=>Zfb
 |.Gt=>Zfe
 |.GtE=>Zff
 |.Is=>Zfc
 |.IsNot=>ZbM
 |.In=>Zfd hu
 |.NotIn=>ZbL hu
noncomputable def fIx(x y:W)(m:Mem):Res W:=pur ((view x m).bind λx=>(view y m).bind λy=>ixT x y) m
theorem Zjy(n:Nat)(i:Int):ixOf n i=ixN n i:=rfl
theorem Xk{α β:Type}{F:α->β->Prop}{xs:List α}{ys:List β}(h:Paired F xs ys){i:Int}{x:α}(e:atT xs i=some x):∃y,atI ys i=some y/\F x y:=by
 unfold atT at e
 unfold atI
 rw[<-h.length]
 cases q:ixOf xs.length i with
 |none=>rw[q]at e;cases e
 |some j =>
  rw[q]at e
  rw[Zjy]at q
  obtain⟨y,e1,e2⟩:=Zt h e
  exact⟨y,by rw[q];exact e1,e2⟩
theorem Xb(ns:List Int):RTs K cm m H (ns.map .int) (ns.map V.int):=by
 induction ns with
 |nil=>exact .nil
 |cons n ns ih=>exact .cons (.int n) ih
theorem Zj6{α β:Type}(f:α->β)(xs:List α)(i:Int):atT (xs.map f) i=(atT xs i).map f:=by
 unfold atT
 rw[List.length_map]
 cases ixOf xs.length i with
 |none=>rfl
 |some j=>simp
theorem ix_ix:IxR X (r2 X.K xr fIx):=by
 rintro value slice pins s σ H x y v u Q I rx ry ⟨cm,m,a,b,M,ra,rb,ho⟩ hs
 obtain⟨t,e,ho⟩:=Qo ho
 obtain⟨ta,tb,ea,eb,e⟩:=Zbq e
 unfold ixT at e
 have hz:=ZD
 split at e
 ·cases(Ze rb eb (λ_ z=>by cases z)).vint
  obtain⟨p,vs,rfl,h1,r⟩:=(Ze ra ea (λ_ z=>by cases z)).itup
  obtain⟨z,e1,e2⟩:=Xk r e
  exact ix_tup value slice pins s σ H _ _ v u Q I rx ry ⟨p,vs,_,z,rfl,rfl,h1,e1,ans ho M e2⟩ hs
 ·cases(Ze rb eb (λ_ z=>by cases z)).vint
  obtain⟨p,vs,rfl,h1,r⟩:=Zz M ra ea
  obtain⟨z,e1,e2⟩:=Xk r e
  exact ZfB value slice pins s σ H _ _ v u Q I rx ry ⟨p,vs,_,z,rfl,rfl,.of h1,e1,ans ho M e2⟩ hs
 ·cases(Ze rb eb (λ_ z=>by cases z)).vint
  obtain⟨p,rfl,h1⟩:=(Ze ra ea (λ_ z=>by cases z)).vscr
  rw[<-Zj6]at e
  obtain⟨z,e1,e2⟩:=Xk (Xb (K:=X.K) (cm:=cm) (m:=m) (H:=H) _) e
  exact ZfB value slice pins s σ H _ _ v u Q I rx ry ⟨p,_,_,z,rfl,rfl,h1.sq,e1,ans ho M e2⟩ hs
 ·split at e
  ·rename_i cs k hl
   cases(Ze rb eb (λ_ z=>by cases z)).vint
   cases(Ze ra ea (λ_ z=>by cases z)).vstr
   cases q:atT cs k with
   |none=>rw[q]at e;cases e
   |some c =>
    rw[q]at e;cases e
    exact ix_str value slice pins s σ H _ _ v u Q I rx ry ⟨_,k,c,rfl,rfl,by rw[JB];omega,q,ans ho M (.str [c])⟩ hs
  ·cases e
 ·cases e
end
section
variable{P:Program}{w:World}{A:Around}{E:Value->Shared->Prop}{s:Shared}
structure Side (z TI TO i j a b:Addr) (k:Nat) (h:Heap):Prop where
 zip:IsZip h z TI TO .none
 its:IsPair h TI (.ref i) (.ref j)
 out:∃p q,IsPair h TO p q
 one:h.IsTupleIter i a k
 two:h.IsTupleIter j b k
end
noncomputable def Itz(K:Frag)(a b:Addr):It:=
 ⟨λi H=>∃xs ys x y,SqT K H a xs/\SqT K H b ys/\xs[i]?=some x/\ys[i]?=some y,
  λi H v H'=>∃x y c,(∀xs,SqT K H a xs->xs[i]?=some x)/\(∀ys,SqT K H b ys->ys[i]?=some y)/\H c=none/\v=.ref c/\H'=upd H c (.tup [x,y]),
  λi H=>∃xs,SqT K H a xs/\xs.length<=i⟩
noncomputable def It4(n:Nat)(l:Nat->Nat)(xs:Nat->Array Value)(p:Nat->Nat)(h:Heap):Prop:=∀j:Nat,j<4->h.IsListIter (n+j) (l j) (p j)/\h.IsList (l j) (xs j)/\l j<n
noncomputable abbrev IsZ(h:Heap)(n:Nat)(f0:Value)(f1:Bool):Prop:=
 h.get? (n+6)=some { cls:=.type "zip",dict:=none,data:=.fields #[f0,.bool f1,.bool false,.ref (n+4),.ref (n+5)],slots:=#[] }
noncomputable abbrev IsQ(h:Heap)(t:Nat)(a b c d:Value):Prop:=h.get? t=some { cls:=.type "tuple",data:=.seq #[a,b,c,d] }
section
variable{P:Program}{w:World}{A:Around}{E:Value->Shared->Prop}{s:Shared}{n:Nat}{l:Nat->Nat}{xs:Nat->Array Value}{p:Nat->Nat}
noncomputable def Free(h:Heap)(n:Nat):Prop:=∃f1,IsZ h n .none f1∨∃a:Nat,IsZ h n (rawInt a) f1
structure Sd (n:Nat) (l:Nat->Nat) (k:Nat) (h:Heap):Prop where
 zip:Free h n
 its:IsQ h (n+4) (.ref (n+0)) (.ref (n+1)) (.ref (n+2)) (.ref (n+3))
 out:∃a b c d,IsQ h (n+5) a b c d
 pos:∀j:Nat,j<4->h.IsListIter (n+j) (l j) k/\l j<n
noncomputable def Kp(n:Nat)(h g:Heap):Prop:=g.objs.size=h.objs.size/\∀c o,(c<n∨n+7<=c)->h.get? c=some o->g.get? c=some o
end
noncomputable abbrev fp4(n:Nat):List Addr:=[n+6,n+4,n+5,n+0,n+1,n+2,n+3]
noncomputable def Itz4(K:Frag)(l:Nat->Nat):It:=
 ⟨λi H=>∃(xs:Nat->List V) (x:Nat->V),∀j:Nat,j<4->SqL K H (l j) (xs j)/\(xs j)[i]?=some (x j),
  λi H v H'=>∃(x:Nat->V) (c:Addr),(∀j:Nat,j<4->∀ys,SqL K H (l j) ys->ys[i]?=some (x j))/\H c=none/\v=.ref c/\H'=upd H c (.tup [x 0,x 1,x 2,x 3]),
  λi H=>∃xs,SqL K H (l 0) xs/\xs.length<=i⟩
noncomputable def pick4{α:Type}(a b c d:α):Nat->α
 |0=>a
 |1=>b
 |2=>c
 |_=>d
theorem all4{Q:Nat->Prop}(h0:Q 0)(h1:Q 1)(h2:Q 2)(h3:Q 3):∀j:Nat,j<4->Q j
 |0,_=>h0
 |1,_=>h1
 |2,_=>h2
 |3,_=>h3
noncomputable def Ite(K:Frag)(l:Addr):It:=
 ⟨λi H=>∃xs x,SqL K H l xs/\xs[i]?=some x,
  λi H v H'=>∃x c,(∀xs,SqL K H l xs->xs[i]?=some x)/\H c=none/\v=.ref c/\H'=upd H c (.tup [.int (i:Int),x]),
  λi H=>∃xs,SqL K H l xs/\xs.length<=i⟩
noncomputable def Its(cs:List Nat):It:=⟨λi _=>i<cs.length,λi H x H'=>H'=H/\∃c,cs[i]?=some c/\x=.str ⟨#[c]⟩,λi _=>cs.length<=i⟩
theorem ZcR{P:Program}{w:World}{K:Frag}{tg:Expr}{cs:List Nat}{it:Addr}{cl:String}{t:Tok}(hcl:["enumerate","zip","dict_itemiterator","dict_reverseitemiterator","odict_iterator","itertools.zip_longest","itertools.pairwise"].contains cl=false)(hself:∀(A:Around) (i:Nat) (s:Shared) (Q:Value->Shared->Prop) (E:Value->Shared->Prop),s.heap.IsStrIter it cl ⟨cs.toArray⟩ t i->Q (.ref it) s->wpAny (model P w) A (pyIter (.ref it)) Q E s)(W:∀A':Around,A'.handled=none->Walks P w A' it [it] [it] cs.length (SignAt ⟨cs.toArray⟩) (λi h=>h.IsStrIter it cl ⟨cs.toArray⟩ t i)):Turn P w K tg (Its cs) [it] it (λi h=>h.IsStrIter it cl ⟨cs.toArray⟩ t i/\i<=cs.length) where
 mem:=by simp
 obj:=λi h st b hb=>by
  have e:b=it:=by simpa using hb
  subst e
  obtain⟨⟨o,e,c,d⟩,_⟩:=st
  exact⟨o,e,λv z=>by rw[d]at z;cases z⟩
 keep:=λi h h' st k=>⟨let⟨⟨o,ho,r⟩,_⟩:=st;⟨o,k it (by simp) o ho,r⟩,st.2⟩
 item:=by
  intro X hP hw hK hc i pins s σ H E I hf st hg
  subst hP hw hK
  obtain⟨f0,f1,f2,f3,f4,f5⟩:=hf it (by simp)
  have hg':i<cs.length:=hg
  refine(W X.A (I.ok.hd hc)).item i s _ _ hg' st.1 λv h' tk hv st' kk=>?_
  obtain⟨c,u,hc',rfl⟩:=hv
  have I1:Inv X pins σ H { s with heap:=h',toks:=tk }:=I.turned (λb o hb e=>kk b o (by simpa using hb) e) f0 f1 f3 f4 f5
  obtain⟨o,e,cc,d⟩:=id st'
  refine⟨_,rfl,Zho (s:={ s with heap:=h',toks:=tk }) e cc d hcl ⟨.str ⟨#[c]⟩,H,I1,⟨u,rfl⟩,⟨rfl,c,by simpa using hc',rfl⟩,⟨st',by omega⟩,λb hb=>(hf b hb).1⟩⟩
 done:=by
  intro X hP hw hK hc i pins s σ H E I hf st hg
  subst hP hw hK
  obtain⟨f0,f1,f2,f3,f4,f5⟩:=hf it (by simp)
  have hg':cs.length<=i:=hg
  have e:i=cs.length:=by have:=st.2;omega
  subst e
  exact(W X.A (I.ok.hd hc)).done s _ _ st.1 λh' tk kk=>⟨rfl,I.turned (λb o hb e=>kk b o (by simpa using hb) e) f0 f1 f3 f4 f5⟩
 self:=λA i s Q E st h=>hself A i s Q E st.1 h
section
variable{K:Frag}{cm cm':List Addr}{m m':Mem}{H H':Hp}{xr:XR}{X:Cx}
variable(K) in
inductive Src (cm:List Addr) (m:Mem) (H:Hp):It->List T->Prop where
 |tup {a:Addr}{vs:List V}{ts:List T}:SqT K H a vs->RTs K cm m H ts vs->Src cm m H (Itt K a) ts
 |lst {a:Addr}{vs:List V}{ts:List T}:H a=some (.lst vs)->Zo cm m a->RTs K cm m H ts vs->Src cm m H (Itl K a) ts
 |cel {a:Addr}{i:Nat}{ts:List T}:m[i]?=some (some (true,ts))->cm[i]?=some a->Src cm m H (Itl K a) ts
 |scr {a:Addr}(ns:List Int):ZaE K H a ns->Src cm m H (Itl K a) (ns.map .int)
 |str (cs:List Nat):Src cm m H (Its cs) (cs.map λc=>.str [c])
 |rng (lo:Int) (n:Nat):Src cm m H (Itr lo n) (rangeT lo n)
 |zip {a b:Addr}{xs ys:List V}{ts us:List T}:SqT K H a xs->SqT K H b ys->RTs K cm m H ts xs->RTs K cm m H us ys->ts.length=us.length->Src cm m H (Itz K a b) (zipL ts us)
 |zip4 {l:Nat->Nat}{vs:Nat->List V}{ts:Nat->List T}:(∀j:Nat,j<4->H (l j)=some (.lst (vs j))/\Zo cm m (l j)/\RTs K cm m H (ts j) (vs j))->(∀j:Nat,j<4->(ts 0).length=(ts j).length)->Src cm m H (Itz4 K l) (Zep (ts 0) (ts 1) (ts 2) (ts 3))
 |enm {a:Addr}{vs:List V}{ts:List T}:H a=some (.lst vs)->Zo cm m a->RTs K cm m H ts vs->Src cm m H (Ite K a) (Zd5 ts)
theorem Src.ext(x:Ext cm m H cm' m' H')(M:MemR K cm m H)(M':MemR K cm' m' H'){J:It}{ts:List T}(h:Src K cm m H J ts):Src K cm' m' H' J ts:=by
 cases h with
 |tup h1 h2=>exact .tup (x.sqT M h1) (RTs.ext x M M' h2)
 |lst h1 h2 h3=>exact .lst (x.keep _ _ h1 h2).1 (x.keep _ _ h1 h2).2 (RTs.ext x M M' h3)
 |cel h1 h2=>exact .cel (x.lent _ _ h1) (x.pre _ _ h2)
 |scr ns h=>exact .scr ns (x.scr M h)
 |str cs=>exact .str cs
 |rng lo n=>exact .rng lo n
 |zip h1 h2 h3 h4 h5=>exact .zip (x.sqT M h1) (x.sqT M h2) (RTs.ext x M M' h3) (RTs.ext x M M' h4) h5
 |zip4 h1 h2=>exact .zip4 (λj hj=>let⟨a,b,c⟩:=h1 j hj;⟨(x.keep _ _ a b).1,(x.keep _ _ a b).2,RTs.ext x M M' c⟩) h2
 |enm h1 h2 h3=>exact .enm (x.keep _ _ h1 h2).1 (x.keep _ _ h1 h2).2 (RTs.ext x M M' h3)
theorem stay(M:MemR K cm m H)(z:H'=H){t:T}{x:V}(r:RT K cm m H t x):Ext cm m H cm m H'/\MemR K cm m H'/\RT K cm m H' t x:=by
 subst z
 exact⟨.refl,M,r⟩
theorem Zgm{xs ys:List T}{i:Nat}{t:T}(e:(zipL xs ys)[i]?=some t):∃x y,xs[i]?=some x/\ys[i]?=some y/\t=.tup [x,y]:=by
 unfold zipL at e
 rw[List.getElem?_zipWith]at e
 split at e
 ·rename_i x y h1 h2
  cases e
  exact⟨x,y,h1,h2,rfl⟩
 ·cases e
theorem Zeo{a b c d:List T}{i:Nat}{t:T}(e:(Zep a b c d)[i]?=some t):∃x y z w,a[i]?=some x/\b[i]?=some y/\c[i]?=some z/\d[i]?=some w/\t=.tup [x,y,z,w]:=by
 unfold Zep at e
 rw[List.getElem?_map]at e
 obtain⟨p,h1,h2⟩:=Option.map_eq_some_iff.mp e
 obtain⟨q1,q2⟩:=List.getElem?_zip_eq_some.mp h1
 obtain⟨q3,q4⟩:=List.getElem?_zip_eq_some.mp q2
 obtain⟨q5,q6⟩:=List.getElem?_zip_eq_some.mp q4
 exact⟨_,_,_,_,q1,q3,q5,q6,h2.symm⟩
theorem ZfR{xs:List T}{i:Nat}{t:T}(e:(Zd5 xs)[i]?=some t):∃x,xs[i]?=some x/\t=.tup [.int (i:Int),x]:=by
 unfold Zd5 at e
 rw[List.getElem?_zipWith]at e
 split at e
 ·rename_i k y h1 h2
  cases e
  have hi:=(List.getElem?_eq_some_iff.mp h1).1
  rw[List.length_range]at hi
  rw[List.getElem?_range hi]at h1
  cases h1
  exact⟨y,h2,rfl⟩
 ·cases e
theorem ZbZ(xs:List T):(Zd5 xs).length=xs.length:=by
 unfold Zd5
 rw[List.length_zipWith,List.length_range,Nat.min_self]
theorem Src.go(M:MemR K cm m H){J:It}{ts:List T}(h:Src K cm m H J ts){i:Nat}{t:T}(e:ts[i]?=some t):J.go i H/\∀x H',J.yld i H x H'->Ext cm m H cm m H'/\MemR K cm m H'/\RT K cm m H' t x:=by
 cases h with
 |tup h1 h2 =>
  obtain⟨v,e1,e2⟩:=Zt h2 e
  refine⟨⟨_,v,h1,e1⟩,λx H' ⟨z,q⟩=>stay M z ?_⟩
  have:=q _ h1
  rw[e1]at this;cases this
  exact e2
 |lst h1 h2 h3 =>
  obtain⟨v,e1,e2⟩:=Zt h3 e
  refine⟨⟨_,v,.of h1,e1⟩,λx H' ⟨z,q⟩=>stay M z ?_⟩
  have:=q _ (.of h1)
  rw[e1]at this;cases this
  exact e2
 |cel h1 h2 =>
  obtain⟨b,vs,q1,q2,q3,q4⟩:=M.at' _ _ h1
  rw[h2]at q1;cases q1
  obtain⟨v,e1,e2⟩:=Zt q4 e
  refine⟨⟨_,v,.of q2,e1⟩,λx H' ⟨z,q⟩=>stay M z ?_⟩
  have:=q _ (.of q2)
  rw[e1]at this;cases this
  exact e2
 |scr ns h =>
  obtain⟨v,e1,e2⟩:=Zt (Xb (K:=K) (cm:=cm) (m:=m) (H:=H) ns) e
  refine⟨⟨_,v,h.sq,e1⟩,λx H' ⟨z,q⟩=>stay M z ?_⟩
  have:=q _ h.sq
  rw[e1]at this;cases this
  exact e2
 |str cs =>
  rw[List.getElem?_map]at e
  cases q:cs[i]? with
  |none=>rw[q]at e;cases e
  |some c =>
   rw[q]at e;cases e
   refine⟨(List.getElem?_eq_some_iff.mp q).1,λx H' ⟨z,c',q',e'⟩=>stay M z ?_⟩
   rw[q]at q';cases q'
   subst e'
   exact .str [c]
 |rng lo n =>
  unfold rangeT at e
  rw[List.getElem?_map]at e
  cases q:(List.range n)[i]? with
  |none=>rw[q]at e;cases e
  |some k =>
   rw[q]at e;cases e
   have hi:=(List.getElem?_eq_some_iff.mp q).1
   rw[List.length_range]at hi
   rw[List.getElem?_range hi]at q
   cases q
   exact⟨hi,λx H' ⟨z,e'⟩=>stay M z (by subst e';exact .int _)⟩
 |zip h1 h2 h3 h4 h5 =>
  obtain⟨x,y,hx,hy,rfl⟩:=Zgm e
  obtain⟨u,e1,r1⟩:=Zt h3 hx
  obtain⟨v,e2,r2⟩:=Zt h4 hy
  refine⟨⟨_,_,u,v,h1,h2,e1,e2⟩,?_⟩
  rintro x' H' ⟨u',v',c,q1,q2,hc,rfl,rfl⟩
  have z1:=q1 _ h1
  rw[e1]at z1;cases z1
  have z2:=q2 _ h2
  rw[e2]at z2;cases z2
  exact⟨.new hc,M.new hc,RT.newTup (.cons r1 (.cons r2 .nil)) hc⟩
 |@zip4 l vs ts h1 h2 =>
  obtain⟨x0,x1,x2,x3,e0,e1,e2,e3,rfl⟩:=Zeo e
  obtain⟨q0,_,p0⟩:=h1 0 (by decide)
  obtain⟨q1,_,p1⟩:=h1 1 (by decide)
  obtain⟨q2,_,p2⟩:=h1 2 (by decide)
  obtain⟨q3,_,p3⟩:=h1 3 (by decide)
  obtain⟨u0,f0,r0⟩:=Zt p0 e0
  obtain⟨u1,f1,r1⟩:=Zt p1 e1
  obtain⟨u2,f2,r2⟩:=Zt p2 e2
  obtain⟨u3,f3,r3⟩:=Zt p3 e3
  refine⟨⟨vs,pick4 u0 u1 u2 u3,all4 ⟨.of q0,f0⟩ ⟨.of q1,f1⟩ ⟨.of q2,f2⟩ ⟨.of q3,f3⟩⟩,?_⟩
  rintro x' H' ⟨x,c,q,hc,rfl,rfl⟩
  have z0:=q 0 (by decide) _ (.of q0)
  rw[f0]at z0
  have z1:=q 1 (by decide) _ (.of q1)
  rw[f1]at z1
  have z2:=q 2 (by decide) _ (.of q2)
  rw[f2]at z2
  have z3:=q 3 (by decide) _ (.of q3)
  rw[f3]at z3
  rw[<-Option.some.inj z0,<-Option.some.inj z1,<-Option.some.inj z2,<-Option.some.inj z3]
  exact⟨.new hc,M.new hc,RT.newTup (.cons r0 (.cons r1 (.cons r2 (.cons r3 .nil)))) hc⟩
 |enm h1 h2 h3 =>
  obtain⟨x,hx,rfl⟩:=ZfR e
  obtain⟨u,e1,r1⟩:=Zt h3 hx
  refine⟨⟨_,u,.of h1,e1⟩,?_⟩
  rintro x' H' ⟨u',c,q1,hc,rfl,rfl⟩
  have z1:=q1 _ (.of h1)
  rw[e1]at z1;cases z1
  exact⟨.new hc,M.new hc,RT.newTup (.cons (.int _) (.cons r1 .nil)) hc⟩
theorem Src.stop(M:MemR K cm m H){J:It}{ts:List T}(h:Src K cm m H J ts){i:Nat}(e:ts[i]?=none):J.stop i H:=by
 have l:=List.getElem?_eq_none_iff.mp e
 cases h with
 |tup h1 h2=>exact⟨_,h1,by rw[<-h2.length];exact l⟩
 |lst h1 h2 h3=>exact⟨_,.of h1,by rw[<-h3.length];exact l⟩
 |cel h1 h2 =>
  obtain⟨b,vs,q1,q2,q3,q4⟩:=M.at' _ _ h1
  rw[h2]at q1;cases q1
  exact⟨_,.of q2,by rw[<-q4.length];exact l⟩
 |scr ns h=>exact⟨_,h.sq,by rw[List.length_map]at l ⊢;exact l⟩
 |str cs=>rw[List.length_map]at l;exact l
 |rng lo n =>
  unfold rangeT at l
  rw[List.length_map,List.length_range]at l
  exact l
 |zip h1 h2 h3 h4 h5 =>
  refine⟨_,h1,?_⟩
  unfold zipL at l
  rw[List.length_zipWith]at l
  rw[<-h3.length]
  omega
 |@zip4 l vs ts h1 h2 =>
  obtain⟨q0,_,p0⟩:=h1 0 (by decide)
  refine⟨_,.of q0,?_⟩
  have l1:=h2 1 (by decide)
  have l2:=h2 2 (by decide)
  have l3:=h2 3 (by decide)
  unfold Zep at l
  rw[List.length_map,List.length_zip,List.length_zip,List.length_zip]at l
  rw[<-p0.length]
  omega
 |enm h1 h2 h3 =>
  refine⟨_,.of h1,?_⟩
  rw[ZbZ]at l
  rw[<-h3.length]
  exact l
variable(K) in
noncomputable def tI(call:Nat->List W->Mem->Res W)(gv:List T)(xr:XR)(it:E):TI:=λσ H R=>∃env cm m,EnvR K cm m H env σ/\MemR K cm m H /\
 OkR K (ev call gv it env m) xr cm m H λx cm1 m1 H1=>∃ts m2,ZJ x m1=.ok ts m2/\∀J,Src K cm1 m2 H1 J ts->R J H1
theorem PI.mono{tg iter:Expr}{t t':TI}(h:PI X tg iter t)(f:∀σ H R,t' σ H R->t σ H R):PI X tg iter t':=λpins s σ H R I q=>h pins s σ H R I (f σ H R q)
theorem pi_of{tg iter:Expr}{call:Nat->List W->Mem->Res W}{gv:List T}{it:E}(h:PE X iter (tE X.K call gv xr it)):PI X tg iter (tI X.K call gv xr it):=by
 rintro pins s σ H R I ⟨env,cm,m,hE,hM,ho⟩
 refine thn (h pins s σ H (λv H1=>∃cm1 m1 w,MemR X.K cm1 m1 H1/\RW X.K cm1 m1 H1 w v/\∃ts m2,ZJ w m1=.ok ts m2/\∀J,Src X.K cm1 m2 H1 J ts->R J H1) I
  ⟨env,cm,m,hE,hM,ho.mono λw cm1 m1 H1 x1 M1 o1 v rv=>⟨cm1,m1,w,M1,rv,o1⟩⟩) λv s1 ⟨x,H1,I1,r1,cm1,m1,w,M1,rw1,ts0,m2,eb,o1⟩=>?_
 -- an iterator over a list that stands at a
 have onList:∀(a:Addr) (vs:List V),x=.ref a->SqL X.K H1 a vs->R (Itl X.K a) H1->wpAny (model X.prog X.w) X.A (pyIter v) (PIE X pins σ tg R) X.xe s1:=λa vs e hq q=>by
  subst e
  cases r1
  obtain⟨its,rv,p,hz⟩:=I1.list hq
  refine wpAny_pyIter_list p.isList ?_
  refine⟨s1.heap.objs.size,[s1.heap.objs.size],_,_,H1,rfl,I1.kept (t':=s1.toks) λb o e=>Heap.get?_push_of_some _ e,Zeu a _,⟨_,Heap.get?_push_size _ rfl,rfl,rfl⟩,λb hb=>?_,q⟩
  have e:b=s1.heap.objs.size:=by simpa using hb
  subst e
  exact I1.fpOk (Nat.le_refl _) (I1.hok.fresh (Nat.le_refl _))
 cases w with
 |f a=>cases eb
 |x _ _ _=>cases eb
 |c i =>
  unfold ZJ at eb
  dsimp only at eb
  split at eb
  ·rename_i fl ts e
   cases eb
   obtain⟨a,vs,q1,q2,_⟩:=M1.at' i _ e
   obtain⟨b,h1,h2⟩:=rw1
   rw[q1]at h1;cases h1
   exact onList a vs h2 (.of q2) (o1 _ (.cel (List.getElem?_set_self (List.getElem?_eq_some_iff.mp e).1) q1))
  ·cases eb
 |t t =>
  unfold ZJ at eb
  dsimp only at eb
  cases t with
  |tup ts =>
   cases eb
   obtain⟨a,vs,e,h1,h2⟩:=RT.itup rw1
   subst e
   cases r1
   obtain⟨its,rv,p,hz⟩:=I1.tuple h1
   refine wpAny_pyIter_tuple (show s1.heap.IsTuple a its.toArray from p) ?_
   refine⟨s1.heap.objs.size,[s1.heap.objs.size],_,_,H1,rfl,I1.kept (t':=s1.toks) λb o e=>Heap.get?_push_of_some _ e,Zdt a _,⟨_,Heap.get?_push_size _ rfl,rfl,rfl⟩,λb hb=>?_,o1 _ (.tup h1 h2)⟩
   have e:b=s1.heap.objs.size:=by simpa using hb
   subst e
   exact I1.fpOk (Nat.le_refl _) (I1.hok.fresh (Nat.le_refl _))
  |lst ts =>
   cases eb
   obtain⟨a,vs,e,h1,h2,h3⟩:=RT.ilst rw1
   exact onList a vs e (.of h1) (o1 _ (.lst h1 h2 h3))
  |scr ns =>
   cases eb
   obtain⟨a,e,h1⟩:=RT.vscr rw1
   exact onList a _ e h1.sq (o1 _ (.scr ns h1))
  |str cs =>
   unfold Zh5 at eb
   dsimp only at eb
   split at eb
   ·rename_i ts e
    split at e<;>cases e
    cases eb
    cases RT.vstr rw1
    obtain⟨t,rfl⟩:=r1
    have q:=o1 _ (.str cs)
    have I2:∀o:Obj,Inv X pins σ H1 { s1 with heap:=s1.heap.push o }:=λo=>I1.kept (t':=s1.toks) λb o e=>Heap.get?_push_of_some _ e
    have fpk:∀b∈[s1.heap.objs.size],FpOk X pins H1 b:=λb hb=>by
     have e:b=s1.heap.objs.size:=by simpa using hb
     subst e
     exact I1.fpOk (Nat.le_refl _) (I1.hok.fresh (Nat.le_refl _))
    cases ha:(⟨cs.toArray⟩:Str).cps.all (·<128)
    ·refine wpAny_pyIter_wide ha ?_
     exact⟨s1.heap.objs.size,[s1.heap.objs.size],_,_,H1,rfl,I2 _,ZcR (cl:="str_iterator") (t:=t) (by decide) (λA i s Q E st h=>wpAny_pyIter_striter_wide st h) (λA' hA=>by simpa using Walks.strWide hA _ ⟨cs.toArray⟩ t),⟨⟨_,Heap.get?_push_size _ rfl,rfl,rfl⟩,Nat.zero_le _⟩,fpk,q⟩
    ·refine wpAny_pyIter_ascii ha ?_
     exact⟨s1.heap.objs.size,[s1.heap.objs.size],_,_,H1,rfl,I2 _,ZcR (cl:="str_ascii_iterator") (t:=t) (by decide) (λA i s Q E st h=>wpAny_pyIter_striter_ascii st h) (λA' hA=>by simpa using Walks.strAscii hA _ ⟨cs.toArray⟩ t),⟨⟨_,Heap.get?_push_size _ rfl,rfl,rfl⟩,Nat.zero_le _⟩,fpk,q⟩
   ·cases eb
  |_=>cases eb
end
theorem Zbp{elt:Expr}{gens:List Comprehension}{scope:Scope}{pos:Pos}{d:Nat}{target iter:Expr}{ifs:List Expr}{it acc:Value}{env:PySem.Env}(hg:gens[d]?=some ⟨target,iter,ifs,0⟩)(hn:gens[d+1]?=none):
  compTurn (.ListComp elt gens scope pos) d it acc env=(do
   standAt iter.pos
   match <-pyNext it with
   |none=>pure (.done .next)
   |some v =>
    letOwnedTupleGo target it v
    assign target env v
    let mut ok:=true
    for c in ifs do
     if ok then ok <-isTrue c env (eval c env)
    if ok then
     (do let _ <-call (.builtin "list.append") [acc,<-eval elt env])
    again (.compLoop (.ListComp elt gens scope pos) d it acc env)):=by
 unfold compTurn
 simp only[hg,hn]
 rfl
theorem Zbo{elt:Expr}{gens:List Comprehension}{scope:Scope}{pos:Pos}{d:Nat}{target iter:Expr}{ifs:List Expr}{it acc:Value}{env:PySem.Env}{target' iter':Expr}{ifs':List Expr}(hg:gens[d]?=some ⟨target,iter,ifs,0⟩)(hn:gens[d+1]?=some ⟨target',iter',ifs',0⟩):
  compTurn (.ListComp elt gens scope pos) d it acc env=(do
   standAt iter.pos
   match <-pyNext it with
   |none=>pure (.done .next)
   |some v =>
    letOwnedTupleGo target it v
    assign target env v
    let mut ok:=true
    for c in ifs do
     if ok then ok <-isTrue c env (eval c env)
    if ok then
     let x <-eval iter' env
     standAt iter'.pos
     let x <-foldedSetIterable iter' env x
     let _ <-runOwn (.compStart (.ListComp elt gens scope pos) (d+1) (<-holding [x] (pyIter x)) acc env) env
    again (.compLoop (.ListComp elt gens scope pos) d it acc env)):=by
 unfold compTurn
 simp only[hg,hn]
 rfl
section
variable{K:Frag}{cm cm':List Addr}{m m':Mem}{H H':Hp}{xr:XR}{Y:Cx}
noncomputable def AccAt(h:Heap)(D:Addr)(vs:List V):Prop:=vs.length<=sizeLine/\∃(its:List Value) (n:Nat),Vals vs its/\h.get? D=some { cls:=.type "list",data:=.seq its.toArray n }
structure DOk (Y:Cx) (pins:List (Addr×Obj)) (H:Hp) (D:Addr):Prop where
 free:H D=none
 loc:D≠Y.env.locals
 nofs:D∉Y.fs
 own:D∈Y.ex∨Y.s₀.heap.objs.size<=D
 cell:∀x c,Y.env.cells.lookup x=some c->c≠D
 pin:∀p∈Y.pn++pins,p.1≠D
theorem pe_run{e:Expr}{call:Nat->List W->Mem->Res W}{gv:List T}{a:E}(h:PE Y e (tE Y.K call gv xr a)){pins:List (Addr×Obj)}{s:Shared}{σ:L2.St}{env:Env}{w:W}(I:Inv Y pins σ H s)(hE:EnvR Y.K cm m H env σ)(M:MemR Y.K cm m H)(ok:ev call gv a env m=.ok w m'):wpAny (model Y.prog Y.w) Y.A (eval e Y.env) (EP Y pins σ λv H'=>∃cm',Ext cm m H cm' m' H'/\MemR Y.K cm' m' H'/\RW Y.K cm' m' H' w v) Y.xe s:=by
 refine h pins s σ H _ I ⟨env,cm,m,hE,M,?_⟩
 rw[ok]
 exact λcm' H' x M' v r=>⟨cm',x,M',r⟩
theorem pt_run{e:Expr}{call:Nat->List W->Mem->Res W}{gv:List T}{a:E}(h:PT Y e (tT Y.K call gv xr a)){pins:List (Addr×Obj)}{s:Shared}{σ:L2.St}{env:Env}{k:Bool}(I:Inv Y pins σ H s)(hE:EnvR Y.K cm m H env σ)(M:MemR Y.K cm m H)(ok:(ev call gv a env m).bind ZZ=.ok k m'):wpAny (model Y.prog Y.w) Y.A (isTrue e Y.env (eval e Y.env)) (TP Y pins σ λb H'=>b=k/\∃cm',Ext cm m H cm' m' H'/\MemR Y.K cm' m' H') Y.xe s:=by
 refine h pins s σ H _ I ⟨env,cm,m,hE,M,?_⟩
 rw[ok]
 exact λcm' H' x M'=>⟨rfl,cm',x,M'⟩
noncomputable def PTs(Y:Cx)(call:Nat->List W->Mem->Res W)(gv:List T)(xr:XR):Es->List Expr->Prop
 |.nil,[]=>True
 |.cons a es,e::r=>PT Y e (tT Y.K call gv xr a)/\PTs Y call gv xr es r
 |_,_=>False
theorem Zac{env:PySem.Env}{M:Model}{A:Around}{E:Value->Shared->Prop}{s:Shared}{Q:Bool->Shared->Prop}(h:Q false s):∀ifs:List Expr,
  wpAny M A (forIn ifs false λc r=>if r=true then do let ok <-isTrue c env (eval c env);pure (ForInStep.yield ok)else pure (ForInStep.yield r)) Q E s
 |[]=>wpAny_pure h
 |_::r=>by
  simp only[List.forIn_cons,Bool.false_eq_true,if_false]
  exact wpAny_bind (wpAny_pure (Zac h r))
theorem Zbu{call:Nat->List W->Mem->Res W}{gv:List T}{pins:List (Addr×Obj)}{σ:L2.St}{env:Env}:∀{cs:Es}{ifs:List Expr}{cm:List Addr}{m m':Mem}{H:Hp}{s:Shared}{k:Bool},PTs Y call gv xr cs ifs->Inv Y pins σ H s->EnvR Y.K cm m H env σ->MemR Y.K cm m H ->
  tests call gv cs env m=.ok k m' ->
  wpAny (model Y.prog Y.w) Y.A (forIn ifs true λc r=>if r=true then do let ok <-isTrue c Y.env (eval c Y.env);pure (ForInStep.yield ok)else pure (ForInStep.yield r))
   (λb s'=>b=k/\∃H' cm',Inv Y pins σ H' s'/\Ext cm m H cm' m' H'/\MemR Y.K cm' m' H') Y.xe s
 |.nil,[],cm,m,m',H,s,k,_,I,hE,M,ok=>by
  unfold tests at ok
  cases ok
  exact wpAny_pure ⟨rfl,H,cm,I,.refl,M⟩
 |.cons a es,e::r,cm,m,m',H,s,k,hp,I,hE,M,ok=>by
  unfold tests at ok
  obtain⟨h1,h2⟩:=hp
  simp only[List.forIn_cons,if_true]
  cases e1:ev call gv a env m with
  |ok w m1 =>
   rw[e1]at ok
   change (ZZ w m1).bind _=_ at ok
   cases e2:ZZ w m1 with
   |ok b m2 =>
    rw[e2]at ok
    change (if b=true then _ else _)=_ at ok
    refine wpAny_bind (wpAny_bind (thn (pt_run h1 I hE M (m':=m2) (k:=b) (by rw[e1];exact e2)) λc s1 ⟨H1,I1,hb,cm1,x1,M1⟩=>wpAny_pure ?_))
    subst hb
    cases c with
    |true =>
     rw[if_pos rfl]at ok
     exact thn (Zbu h2 I1 (hE.ext x1 M M1) M1 ok) λb' s2 ⟨hb',H2,cm2,I2,x2,M2⟩=>⟨hb',H2,cm2,I2,x1.trans x2,M2⟩
    |false =>
     rw[if_neg Bool.false_ne_true]at ok
     cases ok
     exact Zac (Q:=λb s'=>b=false/\∃H' cm',Inv Y pins σ H' s'/\Ext cm m H cm' m' H'/\MemR Y.K cm' m' H') ⟨rfl,H1,cm1,I1,x1,M1⟩ r
   |exc _ _=>rw[e2]at ok;cases ok
   |stuck=>rw[e2]at ok;cases ok
  |exc _ _=>rw[e1]at ok;cases ok
  |stuck=>rw[e1]at ok;cases ok
 |.nil,_::_,_,_,_,_,_,_,hp,_,_,_,_=>hp.elim
 |.cons _ _,[],_,_,_,_,_,_,hp,_,_,_,_=>hp.elim
noncomputable def tgS:Tg->List Nat
 |.nm i=>[i]
 |.tp is=>is
noncomputable def Agree(S:List Nat)(σ σ':L2.St):Prop:=∀i,i∉S->σ'[i]?=σ[i]?
noncomputable def setAll:List Nat->List V->L2.St->L2.St
 |i::is,v::vs,σ=>setAll is vs (σ.set i (some v))
 |_,_,σ=>σ
variable(K) in
noncomputable def gT:Tg->TG
 |.nm i=>ZjG i
 |.tp is=>λv σ H Q=>∃a xs,v=.ref a/\SqT K H a xs/\xs.length=is.length/\Q (setAll is xs σ) H
theorem Xn:∀(is:List Nat) (vs:List V) (σ:L2.St),Agree is σ (setAll is vs σ)
 |[],_,_=>λ_ _=>by unfold setAll;rfl
 |_::_,[],_=>λ_ _=>by unfold setAll;rfl
 |i::is,v::vs,σ=>λj hj=>by
  unfold setAll
  rw[List.mem_cons]at hj
  rw[Xn is vs _ j λz=>hj (.inr z),List.getElem?_set_ne λz=>hj (.inl z.symm)]
theorem EnvR.set{env:Env}{σ:L2.St}(h:EnvR K cm m H env σ){w:W}{v:V}(r:RW K cm m H w v)(i:Nat)(hi:i<σ.length):EnvR K cm m H (env.set i (some w)) (σ.set i (some v)):=λj u e=>by
 by_cases hj:j=i
 ·subst hj
  have hl:j<env.length:=by
   have:=(List.getElem?_eq_some_iff.mp e).1
   rwa [List.length_set]at this
  rw[List.getElem?_set_self hl]at e
  cases e
  exact⟨v,List.getElem?_set_self hi,r⟩
 ·rw[List.getElem?_set_ne (Ne.symm hj)]at e
  obtain⟨v',h1,h2⟩:=h j u e
  exact⟨v',by rw[List.getElem?_set_ne (Ne.symm hj)];exact h1,h2⟩
theorem EnvR.setAll:∀{is:List Nat}{ts:List T}{vs:List V}{env:Env}{σ:L2.St},EnvR K cm m H env σ->RTs K cm m H ts vs->(∀i∈is,i<σ.length) ->
  EnvR K cm m H ((is.zip ts).foldl (λenv p=>env.set p.1 (some (.t p.2))) env) (Mi.setAll is vs σ)
 |[],_,_,_,_,h,_,_=>by unfold Mi.setAll;exact h
 |_::_,[],_,_,_,h,.nil,_=>by unfold Mi.setAll;exact h
 |i::is,t::ts,v::vs,env,σ,h,.cons r rs,hi=>by
  unfold Mi.setAll
  rw[List.zip_cons_cons,List.foldl_cons]
  refine EnvR.setAll (h.set (w:=.t t) r i (hi i List.mem_cons_self)) rs λj hj=>?_
  rw[List.length_set]
  exact hi j (List.mem_cons_of_mem _ hj)
theorem ZjF{tg:Tg}{t:T}{v:V}{env env':Env}{σ:L2.St}(hE:EnvR K cm m H env σ)(hi:∀i∈tgS tg,i<σ.length)(r:RT K cm m H t v)(e:Qs tg t env=some env'){Q:L2.St->Hp->Prop}(q:∀σ',EnvR K cm m H env' σ'->Agree (tgS tg) σ σ'->Q σ' H):gT K tg v σ H Q:=by
 cases tg with
 |nm i =>
  cases e
  refine q _ (hE.set (w:=.t t) r i (hi i (by simp[tgS]))) λj hj=>?_
  rw[List.getElem?_set_ne]
  intro z
  exact hj (by simp[tgS,z])
 |tp is =>
  unfold Qs at e
  dsimp only at e
  split at e
  ·split at e<;>cases e
   rename_i ts hl
   obtain⟨a,vs,rfl,h1,h2⟩:=RT.itup r
   exact⟨a,vs,rfl,h1,by rw[<-h2.length];exact hl,q _ (EnvR.setAll hE h2 hi) (Xn is vs σ)⟩
  ·cases e
end
noncomputable def innS:E->List Nat
 |.more _ tg _ inner=>tgS tg++innS inner
 |_=>[]
section
variable{xr:XR}{Y:Cx}{call:Nat->List W->Mem->Res W}{gv:List T}
variable(Y call gv xr) in
noncomputable def Ins(elt:Expr)(gens:List Comprehension):Nat->E->Prop
 |d,.emit a=>gens[d+1]?=none/\PE Y elt (tE Y.K call gv xr a)
 |d,.more it tg cs inner=>(∃target iter ifs,gens[d+1]?=some ⟨target,iter,ifs,0⟩/\PI Y target iter (tI Y.K call gv xr it)/\(∀x,foldedSetIterable iter Y.env x=pure x)/\PG Y target (gT Y.K tg)/\PTs Y call gv xr cs ifs) /\
  (∀i∈tgS tg,i∉innS inner)/\(∀i∈tgS tg++innS inner,i<Y.N.length)/\Ins elt gens (d+1) inner
 |_,_=>False
theorem ZdR{α:Type}{M:Model}{A:Around}{t:Sem α}{Q:α->Shared->Prop}{E:Value->Shared->Prop}{s:Shared}(hxe:∀e s,¬Y.xe e s)(h:wpAny M A t Q Y.xe s):wpAny M A t Q E s:=wpAny_mono h (λ_ _ q=>q) λ_ _ z=>(hxe _ _ z).elim
noncomputable abbrev turnF(call:Nat->List W->Mem->Res W)(gv:List T)(cs:Es)(inner:E):Env->Mem->Res (List T):=λenv m=>(tests call gv cs env m).bind λk m=>if k then(ev call gv inner env m).bind Zcd else .ok [] m
noncomputable def Zka(Y:Cx)(Acc:Heap->List V->Prop)(D:Addr)(S:List Nat)(pins:List (Addr×Obj))(σ:L2.St)(cm:List Addr)(m:Mem)(H:Hp)(vs:List V)(out:List T)(m':Mem)(s':Shared):Prop:=
 ∃σ' H' cm' vs',Inv Y pins σ' H' s'/\Ext cm m H cm' m' H'/\MemR Y.K cm' m' H'/\RTs Y.K cm' m' H' out vs'/\Acc s'.heap (vs++vs')/\Agree S σ σ'/\H' D=none
noncomputable abbrev CEnd(Y:Cx)(D:Addr):=Zka Y (λh vs=>AccAt h D vs) D
theorem AccAt.keep{h h':Heap}{D:Addr}{vs:List V}(a:AccAt h D vs)(k:∀o,h.get? D=some o->h'.get? D=some o):AccAt h' D vs:=by
 obtain⟨z,its,n,r,e⟩:=a
 exact⟨z,its,n,r,k _ e⟩
theorem EnvR.agree{K:Frag}{cm:List Addr}{m:Mem}{H:Hp}{env:Env}{σ σ':L2.St}{S:List Nat}(h:EnvR K cm m H env σ)(a:Agree S σ σ')(n:∀i∈S,∀w,env[i]?≠some (some w)):EnvR K cm m H env σ':=λi w e=>by
 obtain⟨v,h1,h2⟩:=h i w e
 refine⟨v,?_,h2⟩
 rw[a i λz=>n i z w e]
 exact h1
theorem Agree.trans{S:List Nat}{a b c:L2.St}(h:Agree S a b)(g:Agree S b c):Agree S a c:=λi hi=>(g i hi).trans (h i hi)
theorem Agree.mono{S S':List Nat}{a b:L2.St}(h:Agree S a b)(g:∀i∈S,i∈S'):Agree S' a b:=λi hi=>h i λz=>hi (g i z)
theorem Agree.refl{S:List Nat}{a:L2.St}:Agree S a a:=λ_ _=>rfl
theorem ZcI{tg:Tg}{t:T}{env env':Env}(e:Qs tg t env=some env'){i:Nat}(hi:i∉tgS tg):env'[i]?=env[i]?:=by
 cases tg with
 |nm j =>
  cases e
  rw[List.getElem?_set_ne]
  intro z;exact hi (by simp[tgS,z])
 |tp is =>
  unfold Qs at e
  dsimp only at e
  split at e
  ·split at e<;>cases e
   rename_i ts hl
   have:∀(is:List Nat) (ts:List T) (env:Env),i∉is->((is.zip ts).foldl (λenv p=>env.set p.1 (some (.t p.2))) env)[i]?=env[i]?:=by
    intro is
    induction is with
    |nil=>intro ts env _;rfl
    |cons j is ih =>
     intro ts env h
     cases ts with
     |nil=>rfl
     |cons t ts =>
      rw[List.mem_cons]at h
      rw[List.zip_cons_cons,List.foldl_cons,ih ts _ λz=>h (.inr z),List.getElem?_set_ne λz=>h (.inl z.symm)]
   exact this is ts env hi
  ·cases e
theorem Zq{α β:Type}{r:Res α}{f:α->Mem->Res β}{y:β}{m':Mem}(h:r.bind f=.ok y m'):∃x m,r=.ok x m/\f x m=.ok y m':=by
 cases r with
 |ok x m=>exact⟨x,m,rfl,h⟩
 |exc _ _=>cases h
 |stuck=>cases h
theorem Zcc{w:W}{m m':Mem}{ts:List T}(h:Zcd w m=.ok ts m'):w=.t (.lst ts)/\m'=m:=by
 unfold Zcd at h
 split at h<;>cases h
 exact⟨rfl,rfl⟩
theorem ZfM{K:Frag}{cm:List Addr}{m m':Mem}{H:Hp}{w:W}{v:V}{t:T}(M:MemR K cm m H)(r:RW K cm m H w v)(e:frz w m=.ok t m'):Ext cm m H cm m' H/\MemR K cm m' H/\RT K cm m' H t v:=by
 cases w with
 |t x=>cases e;exact⟨.refl,M,r⟩
 |f a=>cases e
 |x _ _ _=>cases e
 |c i =>
  unfold frz at e
  dsimp only at e
  split at e
  ·rename_i ts h
   cases e
   obtain⟨a,vs,q1,q2,q3,q4,q5,q6,q7⟩:=Zf6 M h
   obtain⟨b,h1,h2⟩:=r
   rw[q1]at h1;cases h1
   subst h2
   exact⟨q4,q5,q7⟩
  ·cases e
theorem ZfN{pins:List (Addr×Obj)}{H:Hp}{b:Addr}{fp:List Addr}{h:Heap}(f:FpOk Y pins H b)(n:b∉fp):FpOk Y (pins++Jr fp h) H b:=
 ⟨f.1,f.2.1,f.2.2.1,f.2.2.2.1,f.2.2.2.2.1,λp hp z=>by
  rw[<-List.append_assoc]at hp
  rcases List.mem_append.mp hp with hp|hp
  ·exact f.2.2.2.2.2 p hp z
  ·exact n (by rw[<-z];exact(ZbN hp).1)⟩
structure AccK (D:Addr) (Acc:Heap->List V->Prop):Prop where
 obj:∀{h vs},Acc h vs->∃o,h.get? D=some o/\∀v,o.data≠.cell v
 keep:∀{h h' vs},Acc h vs->(∀o,h.get? D=some o->h'.get? D=some o)->Acc h' vs
theorem Zaa(D:Addr):AccK D (λh vs=>AccAt h D vs):=⟨λ⟨_,_,_,_,e⟩=>⟨_,e,λv z=>by cases z⟩,λa k=>a.keep k⟩
theorem Zdp{pins:List (Addr×Obj)}{s:Shared}{σ:L2.St}{H:Hp}{D:Addr}{Acc:Heap->List V->Prop}(hA:AccK D Acc){vs:List V}(I:Inv Y pins σ H s)(f:FpOk Y pins H D)(a:Acc s.heap vs):Inv Y (pins++Jr [D] s.heap) σ H s:=by
 refine I.pinned (λb hb=>?_) λb hb=>?_
 ·have e:b=D:=by simpa using hb
  rw[e];exact f
 ·have e:b=D:=by simpa using hb
  obtain⟨o,q,n⟩:=hA.obj a
  rw[e]
  exact⟨_,q,n⟩
theorem Zbr{pins:List (Addr×Obj)}{h:Heap}{s:Shared}{σ:L2.St}{H:Hp}{D:Addr}{Acc:Heap->List V->Prop}(hA:AccK D Acc){vs:List V}(a:Acc h vs)(I:Inv Y pins σ H s)(hp:∀o,h.get? D=some o->(D,o)∈pins):Acc s.heap vs/\H D=none:=by
 obtain⟨o,q,_⟩:=hA.obj a
 obtain⟨h1,h2,_⟩:=I.pin _ (List.mem_append_right _ (hp _ q))
 refine⟨hA.keep a λo' e=>?_,h2⟩
 rw[q]at e;cases e
 exact h1
theorem Zgg{pins:List (Addr×Obj)}{s:Shared}{σ:L2.St}{H:Hp}{D:Addr}{vs:List V}(I:Inv Y pins σ H s)(f:FpOk Y pins H D)(a:AccAt s.heap D vs):Inv Y (pins++Jr [D] s.heap) σ H s:=Zdp (Zaa D) I f a
theorem Zii{pins:List (Addr×Obj)}{h:Heap}{s:Shared}{σ:L2.St}{H:Hp}{D:Addr}{vs:List V}(a:AccAt h D vs)(I:Inv Y pins σ H s)(hp:∀o,h.get? D=some o->(D,o)∈pins):AccAt s.heap D vs/\H D=none:=Zbr (Zaa D) a I hp
noncomputable abbrev Zgp(target iter:Expr)(ifs:List Expr)(env:PySem.Env)(it:Value)(c:Code)(br:Sem PySem.Fin):Sem PySem.Fin:=
 standAt iter.pos >>= λ_=>pyNext it >>= λr=>match r with
  |none=>pure (.done .next)
  |some v=>letOwnedTupleGo target it v >>= λ_=>assign target env v >>= λ_ =>
   (forIn ifs true λc r=>if r=true then do let ok <-isTrue c env (eval c env);pure (ForInStep.yield ok)else pure (ForInStep.yield r)) >>= λok=>if ok=true then br else again c
theorem Zdb(hc:Y.calm=true)(hxe:∀e s,¬Y.xe e s){ce:Expr}{D:Addr}{Acc:Heap->List V->Prop}(hA:AccK D Acc){L:Nat}{Pt:T->Prop}{inner:E}{d:Nat}{target iter:Expr}{ifs:List Expr}{tg:Tg}{cs:Es}{it:Addr}{br:Sem PySem.Fin}(hu:Y.A.under (.compLoop ce d (.ref it) (.ref D) Y.env)=Y.A)(hd:(model Y.prog Y.w).den (.compLoop ce d (.ref it) (.ref D) Y.env)=(compTurn ce d (.ref it) (.ref D) Y.env).onRaise (λx=>do noteFrame x Y.env;theTreesLotGoes x))(code:compTurn ce d (.ref it) (.ref D) Y.env=Zgp target iter ifs Y.env (.ref it) (.compLoop ce d (.ref it) (.ref D) Y.env) br)(hg:PG Y target (gT Y.K tg))(ht:PTs Y call gv xr cs ifs)(hdis:∀i∈tgS tg,i∉innS inner)(hlt:∀i∈tgS tg++innS inner,i<Y.N.length)(hbr:∀{pins:List (Addr×Obj)}{s:Shared}{σ:L2.St}{H:Hp}{cm:List Addr}{m m':Mem}{env:Env}{out:List T}{vs:List V},Inv Y pins σ H s->FpOk Y pins H D->Acc s.heap vs->EnvR Y.K cm m H env σ->(∀i∈innS inner,∀w,env[i]?≠some (some w))->MemR Y.K cm m H ->
   (ev call gv inner env m).bind Zcd=.ok out m'->vs.length+out.length<=L->(∀t∈out,Pt t) ->
   wpAny (model Y.prog Y.w) Y.A br (λfin s'=>fin=.again (.compLoop ce d (.ref it) (.ref D) Y.env)/\Zka Y Acc D (innS inner) pins σ cm m H vs out m' s') Y.xe s){pins:List (Addr×Obj)}{s:Shared}{σ:L2.St}{H:Hp}{cm:List Addr}{m m':Mem}{env:Env}{ts out:List T}{J:It}{fp:List Addr}{tn:Nat->Heap->Prop}{vs:List V}(I:Inv Y pins σ H s)(hD:FpOk Y pins H D)(ha:Acc s.heap vs)(hT:Turn Y.prog Y.w Y.K target J fp it tn)(h0:tn 0 s.heap)(hf:∀b∈fp,FpOk Y pins H b)(hDf:D∉fp)(hE:EnvR Y.K cm m H env σ)(hn:∀i∈tgS tg++innS inner,∀w,env[i]?≠some (some w))(M:MemR Y.K cm m H)(hs:Src Y.K cm m H J ts)(ok:Q7 (turnF call gv cs inner) tg ts env m=.ok out m')(hl:vs.length+out.length<=L)(hpt:∀t∈out,Pt t):
  codeAny (model Y.prog Y.w) Y.A (.compLoop ce d (.ref it) (.ref D) Y.env) (λr s'=>r=.ok .next/\Zka Y Acc D (tgS tg++innS inner) pins σ cm m H vs out m' s') s:=by
 have statD:∀{H1:Hp},H1 D=none->FpOk Y pins H1 D:=λh=>⟨h,hD.2⟩
 have stat:∀{H1:Hp},(∀b∈fp,H1 b=none)->∀b∈fp,FpOk Y pins H1 b:=λh b hb=>⟨h b hb,(hf b hb).2⟩
 refine codeAny_loop rfl (λn s1=>∃i σ1 H1 cm1 m1 vs1 done rest,Inv Y pins σ1 H1 s1/\tn i s1.heap/\(∀b∈fp,H1 b=none)/\H1 D=none/\Ext cm m H cm1 m1 H1/\MemR Y.K cm1 m1 H1/\Agree (tgS tg++innS inner) σ σ1 /\
   Acc s1.heap (vs++vs1)/\RTs Y.K cm1 m1 H1 done vs1/\Q7 (turnF call gv cs inner) tg (ts.drop i) env m1=.ok rest m'/\out=done++rest/\n=ts.length+1-i/\i<=ts.length) ?_ (ts.length+1)
  ⟨0,σ,H,cm,m,[],[],out,I,h0,λb hb=>(hf b hb).1,hD.1,.refl,M,.refl,by rw[List.append_nil];exact ha,.nil,by rw[List.drop_zero];exact ok,rfl,rfl,Nat.zero_le _⟩
 rintro n s1 ⟨i,σ1,H1,cm1,m1,vs1,done,rest,I1,st1,fr1,d1,x1,M1,ag1,a1,r1,ok1,eo,rfl,hi⟩
 rw[hu,hd]
 refine wpAny_noted ?_
 rw[code]
 refine wpAny_bind (wpAny_standAt (wpAny_bind ?_))
 have hE1:EnvR Y.K cm1 m1 H1 env σ1:=(hE.ext x1 M M1).agree ag1 hn
 have s1':=hs.ext x1 M M1
 have I1D:=Zdp hA I1 (statD d1) a1
 have fpD:∀{H1:Hp},(∀b∈fp,H1 b=none)->∀b∈fp,FpOk Y (pins++Jr [D] s1.heap) H1 b:=λh b hb=>ZfN (stat h b hb) λz=>hDf (by
  have e:b=D:=by simpa using z
  rw[<-e];exact hb)
 have inD:∀o,s1.heap.get? D=some o->(D,o)∈pins++Jr [D] s1.heap:=λo e=>List.mem_append_right _ (ZR (by simp) e)
 cases et:ts[i]? with
 |none =>
  refine ZdR hxe (thn (hT.done Y rfl rfl rfl hc i _ s1 σ1 H1 Y.xe I1D (fpD fr1) st1 (Src.stop M1 s1' et)) λr s2 ⟨hr,I2⟩=>?_)
  subst hr
  have hd:ts.drop i=[]:=List.drop_eq_nil_of_le (List.getElem?_eq_none_iff.mp et)
  rw[hd]at ok1
  unfold Q7 at ok1
  cases ok1
  rw[List.append_nil]at eo
  subst eo
  exact wpAny_pure ⟨rfl,σ1,H1,cm1,vs1,I2.unpinned,x1,M1,r1,(Zbr hA a1 I2 inD).1,ag1,(Zbr hA a1 I2 inD).2⟩
 |some t =>
  obtain⟨go,yl⟩:=Src.go M1 s1' et
  have hit:i<ts.length:=(List.getElem?_eq_some_iff.mp et).1
  have hd:ts.drop i=t::ts.drop (i+1):=by
   rw[List.drop_eq_getElem_cons hit]
   congr 1
   exact Option.some.inj ((List.getElem?_eq_getElem hit).symm.trans et)
  rw[hd]at ok1
  unfold Q7 at ok1
  split at ok1
  ·cases ok1
  ·rename_i env' eb
   obtain⟨xs,m2,ok2,ok3⟩:=Zq ok1
   obtain⟨ys,m3,ok4,ok5⟩:=Zq ok3
   cases ok5
   obtain⟨k,m4,okt,okb⟩:=Zq ok2
   refine ZdR hxe (thn (hT.item Y rfl rfl rfl hc i _ s1 σ1 H1 Y.xe I1D (fpD fr1) st1 go) λr s2 ⟨u,hr,h2⟩=>?_)
   subst hr
   refine wpAny_bind (ZdR hxe (thn h2 λ_ s3 ⟨x,H3,I3,rx,y3,st3,fr3⟩=>?_))
   obtain⟨xy,My,rt⟩:=yl x H3 y3
   have hE1:=hE1.ext xy M1 My
   have x1:=x1.trans xy
   have r1:=RTs.ext xy M1 My r1
   have M1:=My
   -- pinned: the list that is filled,and the iterator
   have I3':=I3.pinned (fpD fr3) (hT.obj _ _ st3)
   refine wpAny_bind (ZdR hxe (thn (hg _ s3 σ1 H3 x u (λσ' H'=>H'=H3/\EnvR Y.K cm1 m1 H3 env' σ'/\Agree (tgS tg) σ1 σ') I3' rx (ZjF hE1 (λj hj=>by rw[I3.len];exact hlt j (List.mem_append_left _ hj)) rt eb λσ' h1 h2=>⟨rfl,h1,h2⟩)) λ_ s4 ⟨σ4,H4,I4,e4,hE4,ag4⟩=>?_))
   subst e4
   refine wpAny_bind (ZdR hxe (thn (Zbu ht I4 hE4 M1 okt) λb s5 ⟨hb,H5,cm5,I5,x5,M5⟩=>?_))
   subst hb
   have a5:=Zbr hA a1 I5 λo e=>List.mem_append_left _ (inD o e)
   have st5:tn (i+1) s5.heap:=hT.keep _ _ _ st3 λb hb o e=>(I5.pin (b,o) (List.mem_append_right _ (List.mem_append_right _ (ZR hb e)))).1
   have f5:∀b∈fp,H5 b=none:=λb hb=>by
    obtain⟨o,e,dd⟩:=hT.obj _ _ st3 b hb
    exact(I5.pin (b,o) (List.mem_append_right _ (List.mem_append_right _ (ZR hb e)))).2.1
   have ag45:Agree (tgS tg++innS inner) σ σ4:=ag1.trans (ag4.mono λi hi=>List.mem_append_left _ hi)
   cases b with
   |false =>
    rw[if_neg Bool.false_ne_true]at okb ⊢
    cases okb
    rw[List.nil_append]at eo
    exact wpAny_pure ⟨rfl,_,by omega,i+1,σ4,H5,cm5,m2,vs1,done,ys,I5.unpinned.unpinned,st5,f5,a5.2,x1.trans x5,M5,ag45,a5.1,RTs.ext x5 M1 M5 r1,ok4,eo,rfl,hit⟩
   |true =>
    rw[if_pos rfl]at okb ⊢
    have I6:Inv Y (pins++Jr fp s5.heap) σ4 H5 s5:=I5.unpinned.unpinned.pinned (stat f5) (hT.obj _ _ st5)
    have hv:=r1.length
    have hz:(vs++vs1).length+xs.length<=L:=by
     rw[List.length_append,<-hv]
     rw[eo,List.length_append,List.length_append]at hl
     omega
    have hn6:∀j∈innS inner,∀w,env'[j]?≠some (some w):=λj hj w=>by
     rw[ZcI eb λz=>hdis j z hj]
     exact hn j (List.mem_append_right _ hj) w
    refine ZdR hxe (thn (hbr I6 (ZfN (statD a5.2) hDf) a5.1 (hE4.ext x5 M1 M5) hn6 M5 okb hz λt ht'=>hpt t (by rw[eo];exact List.mem_append_right _ (List.mem_append_left _ ht'))) λfin s7 ⟨hfin,σ7,H7,cm7,vs7,I7,x7,M7,r7,a7,ag7,d7⟩=>?_)
    subst hfin
    have keep7:∀b∈fp,∀o,s5.heap.get? b=some o->s7.heap.get? b=some o:=λb hb o e=>(I7.pin (b,o) (List.mem_append_right _ (List.mem_append_right _ (ZR hb e)))).1
    refine⟨rfl,_,by omega,i+1,σ7,H7,cm7,m2,vs1++vs7,done++xs,ys,I7.unpinned,hT.keep _ _ _ st5 keep7,λb hb=>?_,?_,(x1.trans x5).trans x7,M7,ag45.trans (ag7.mono λi hi=>List.mem_append_right _ hi),by rw[<-List.append_assoc];exact a7,
     ZC (RTs.ext x7 M5 M7 (RTs.ext x5 M1 M5 r1)) r7,ok4,by rw[eo,List.append_assoc],rfl,hit⟩
    ·obtain⟨o,e,dd⟩:=hT.obj _ _ st5 b hb
     exact(I7.pin (b,o) (List.mem_append_right _ (List.mem_append_right _ (ZR hb e)))).2.1
    ·exact d7
theorem J6{prog:Program}{w:World}{A:Around}{R:Result->Shared->Prop}{s:Shared}{elt:Expr}{gens:List Comprehension}{scope:Scope}{pos:Pos}{d:Nat}{target iter:Expr}{ifs:List Expr}{it acc:Value}{env:PySem.Env}(hg:gens[d]?=some ⟨target,iter,ifs,0⟩)(h0:codeAny (model prog w) A (.compLoop (.ListComp elt gens scope pos) d it acc env) R s)(h:wpAny (model prog w) A (pyIter it) (λit' s'=>codeAny (model prog w) A (.compLoop (.ListComp elt gens scope pos) d it' acc env) R s') (notedBy (model prog w) A env λx s'=>R (.error x) s') s):
  codeAny (model prog w) A (.compStart (.ListComp elt gens scope pos) d it acc env) R s:=by
 refine codeAny_of_tree ?_
 show wpAny _ _ ((compStart (.ListComp elt gens scope pos) d it acc env).onRaise (λx=>do noteFrame x env;standAt theWindowsPlace)) _ _ s
 refine wpAny_notedAt ?_
 unfold compStart
 have e:(clausesOf (.ListComp elt gens scope pos))[d]?=some ⟨target,iter,ifs,0⟩:=hg
 rw[e]
 show wpAny _ _ (ask >>= _) _ _ s
 refine wpAny_bind (wpAny_askSetting (wpAny_ite ?_))
 split
 ·first
   |exact wpAny_bind (wpAny_pure (wpAny_pure (And.intro rfl h0)))
   |exact wpAny_pure (And.intro rfl h0)
 ·first
   |exact wpAny_bind (wpAny_rule (wpAny_bind (wpAny_standAt (wpAny_bind (wpAny_mono h (λit' s' h'=>wpAny_pure (And.intro rfl h')) λ_ _ x=>x)))))
   |(refine wpAny_bind (wpAny_rule ?_);show wpAny _ _ (standAt iter.pos >>= _) _ _ s;exact wpAny_bind (wpAny_standAt (wpAny_bind (wpAny_mono h (λit' s' h'=>wpAny_pure (And.intro rfl h')) λ_ _ x=>x))))
theorem Zel{pins:List (Addr×Obj)}{s:Shared}{σ:L2.St}{H:Hp}{D:Addr}{vs:List V}{v:V}{u:Value}{E:Value->Shared->Prop}{Q:Value->Shared->Prop}(I:Inv Y pins σ H s)(f:FpOk Y pins H D)(a:AccAt s.heap D vs)(r:RelV v u)(hz:vs.length<sizeLine)(q:∀s',Inv Y pins σ H s'->AccAt s'.heap D (vs++[v])->Q .none s'):wpAny (model Y.prog Y.w) Y.A (PySem.call (.builtin "list.append") [.ref D,u]) Q E s:=by
 obtain⟨z,its,n,rv,e⟩:=a
 have hl:=rv.length
 refine call_meets F.slot_list_append ⟨_,e,rfl⟩ F.entry_list_append (F.args_list_append_2 _ _) (PySem.list_append D its.toArray n u (by rw[List.size_toArray];omega)) ⟨e,?_⟩
 have e2:=PySem.IsL.update e (·.push u)
 have hf:its.toArray.push u=(its++[u]).toArray:=by simp
 rw[hf]at e2
 obtain⟨f0,f1,f2,f3,f4,f5⟩:=f
 refine q _ (I.turned (t':=s.toks) (it:=D) (λb o hb eb=>(Heap.get?_update_other s.heap (Obj.mapSeq (·.push u)) (Ne.symm hb)).trans eb) f0 f1 f3 f4 f5) ⟨?_,its++[u],_,rv.append (.cons r .nil),e2⟩
 rw[List.length_append,List.length_singleton]
 omega
theorem Zaw{K:Frag}{cm:List Addr}{m m1:Mem}{H:Hp}{w:W}{ts:List T}(M:MemR K cm m H)(e:ZJ w m=.ok ts m1):Ext cm m H cm m1 H/\MemR K cm m1 H:=by
 cases w with
 |t t =>
  unfold ZJ at e
  dsimp only at e
  split at e<;>cases e
  exact⟨.refl,M⟩
 |f a=>cases e
 |x _ _ _=>cases e
 |c i =>
  unfold ZJ at e
  dsimp only at e
  split at e
  ·cases e
   exact Zf5 M (by assumption)
  ·cases e
theorem Zfs(hc:Y.calm=true)(hxe:∀e s,¬Y.xe e s){elt:Expr}{gens:List Comprehension}{scope:Scope}{pos:Pos}{D:Addr}:∀(inner:E) (d:Nat) (target iter:Expr) (ifs:List Expr) (tg:Tg) (cs:Es),gens[d]?=some ⟨target,iter,ifs,0⟩ ->
  PG Y target (gT Y.K tg)->PTs Y call gv xr cs ifs->Ins xr Y call gv elt gens d inner->(∀i∈tgS tg,i∉innS inner)->(∀i∈tgS tg++innS inner,i<Y.N.length) ->
  ∀{pins:List (Addr×Obj)}{s:Shared}{σ:L2.St}{H:Hp}{cm:List Addr}{m m':Mem}{env:Env}{ts out:List T}{J:It}{it:Addr}{fp:List Addr}{tn:Nat->Heap->Prop}{vs:List V},Inv Y pins σ H s->FpOk Y pins H D->AccAt s.heap D vs ->
   Turn Y.prog Y.w Y.K target J fp it tn->tn 0 s.heap->(∀b∈fp,FpOk Y pins H b)->D∉fp->EnvR Y.K cm m H env σ->(∀i∈tgS tg++innS inner,∀w,env[i]?≠some (some w))->MemR Y.K cm m H->Src Y.K cm m H J ts ->
   Q7 (turnF call gv cs inner) tg ts env m=.ok out m'->vs.length+out.length<=lim ->
   codeAny (model Y.prog Y.w) Y.A (.compLoop (.ListComp elt gens scope pos) d (.ref it) (.ref D) Y.env) (λr s'=>r=.ok .next/\CEnd Y D (tgS tg++innS inner) pins σ cm m H vs out m' s') s
 |.emit a=>@λd target iter ifs tg cs hg pg pt hin hdis hlt pins s σ H cm m m' env ts out J it fp tn vs I hD ha hT h0 hf hDf hE hn M hs ok hl=>by
  obtain⟨hnx,pe⟩:=hin
  refine Zdb hc hxe (Zaa D) (br:=do(do let _ <-PySem.call (.builtin "list.append") [.ref D,<-eval elt Y.env]);again (.compLoop (.ListComp elt gens scope pos) d (.ref it) (.ref D) Y.env)) rfl rfl (Zbp hg hnx) pg pt hdis hlt ?_ I hD ha hT h0 hf hDf hE hn M hs ok hl (Pt:=λ_=>True) (λ_ _=>trivial)
  intro pins s σ H cm m m' env out vs I hD ha hE hn M ok hl _
  obtain⟨w,m1,ok1,ok2⟩:=Zq ok
  obtain⟨rfl,rfl⟩:=Zcc ok2
  unfold ev at ok1
  obtain⟨w1,m2,ok3,ok4⟩:=Zq ok1
  obtain⟨t,m3,ok5,ok6⟩:=Zq ok4
  cases ok6
  have hz:=ZD
  refine wpAny_bind (wpAny_bind (thn (pe_run pe (Zgg I hD ha) hE M ok3) λu s1 ⟨v,H1,I1,rv,cm1,x1,M1,r1⟩=>?_))
  obtain⟨a1,d1⟩:=Zii ha I1 λo e=>List.mem_append_right _ (ZR (by simp) e)
  obtain⟨x2,M2,r2⟩:=ZfM M1 r1 ok5
  have I1':Inv Y pins σ H1 s1:=I1.unpinned
  refine wpAny_bind (Zel I1' ⟨d1,hD.2⟩ a1 rv (by simp at hl;omega) λs2 I2 a2=>wpAny_pure (wpAny_pure ⟨rfl,σ,H1,cm1,[v],I2,x1.trans x2,M2,.cons r2 .nil,a2,.refl,d1⟩))
 |.more it' tg' cs' inner'=>@λd target iter ifs tg cs hg pg pt hin hdis hlt pins s σ H cm m m' env ts out J it fp tn vs I hD ha hT h0 hf hDf hE hn M hs ok hl=>by
  obtain⟨⟨target',iter',ifs',hnx,pi,hfs,pg',pt'⟩,hdis',hlt',hin'⟩:=hin
  have rec_:=@Zfs hc hxe elt gens scope pos D inner' (d+1) target' iter' ifs' tg' cs' hnx pg' pt' hin' hdis' hlt'
  refine Zdb hc hxe (Zaa D) rfl rfl (Zbo hg hnx) pg pt hdis hlt ?_ I hD ha hT h0 hf hDf hE hn M hs ok hl (Pt:=λ_=>True) (λ_ _=>trivial)
  intro pins s σ H cm m m' env out vs I hD ha hE hn M ok hl _
  obtain⟨w,m1,ok1,ok2⟩:=Zq ok
  obtain⟨rfl,rfl⟩:=Zcc ok2
  unfold ev at ok1
  obtain⟨w1,m2,ok3,ok4⟩:=Zq ok1
  obtain⟨ts',m3,ok5,ok6⟩:=Zq ok4
  obtain⟨out',m4,ok7,ok8⟩:=Zq ok6
  cases ok8
  have hz:=ZD
  refine wpAny_bind (thn (pi _ s σ H (λJ H1=>∃cm1,Ext cm m H cm1 m2 H1/\MemR Y.K cm1 m2 H1/\Src Y.K cm1 m3 H1 J ts') (Zgg I hD ha) ⟨env,cm,m,hE,M,by
   rw[ok3]
   exact λcm1 H1 x M1=>⟨ts',m3,ok5,λJ hs=>⟨cm1,x,M1,hs⟩⟩⟩) λxv s1 h1=>?_)
  refine wpAny_bind (wpAny_standAt (wpAny_bind (wpAny_of_eq (hfs xv) (wpAny_bind (wpAny_holding (thn h1 λitv s2 h2=>?_))))))
  obtain⟨it2,fp2,tn2,J2,H2,rfl,I2,T2,st2,f2,cm2,x2,M2,hs2⟩:=h2
  obtain⟨a2,d2⟩:=Zii ha I2 λo e=>List.mem_append_right _ (ZR (by simp) e)
  have hDf2:D∉fp2:=λz=>by
   obtain⟨_,its,n,_,e⟩:=id ha
   exact(f2 D z).2.2.2.2.2 (D,_) (List.mem_append_right _ (List.mem_append_right _ (ZR (by simp) e))) rfl
  have f2':∀b∈fp2,FpOk Y pins H2 b:=λb hb=>⟨(f2 b hb).1,(f2 b hb).2.1,(f2 b hb).2.2.1,(f2 b hb).2.2.2.1,(f2 b hb).2.2.2.2.1,λp hp=>(f2 b hb).2.2.2.2.2 p (by rw[<-List.append_assoc];exact List.mem_append_left _ hp)⟩
  have hb3:Ext cm2 m2 H2 cm2 m3 H2/\MemR Y.K cm2 m3 H2:=Zaw M2 ok5
  have E2:EnvR Y.K cm2 m3 H2 env σ:=(hE.ext x2 M M2).ext hb3.1 M2 hb3.2
  have go:=rec_ I2.unpinned ⟨d2,hD.2⟩ a2 T2 st2 f2' hDf2 E2 hn hb3.2 hs2 ok7 hl
  have self:codeAny (model Y.prog Y.w) Y.A (.compStart (.ListComp elt gens scope pos) (d+1) (.ref it2) (.ref D) Y.env) _ s2:=J6 hnx go (T2.self Y.A 0 s2 _ _ st2 go)
  refine wpAny_bind (wpAny_runOwn (codeAny_mono self λr s3 ⟨hr,σ3,H3,cm3,vs3,I3,x3,M3,r3,a3,ag3,d3⟩=>?_))
  subst hr
  obtain⟨x4,M4,sm⟩:=J1 M2 ok5 x3 M3
  exact wpAny_pure ⟨rfl,σ3,H3,cm3,vs3,I3,x2.trans x4,M4,Zf (λ_ _ z=>sm _ _ z) r3,a3,ag3,d3⟩
 |.var _=>@λd target iter ifs tg cs hg pg pt hin=>hin.elim
 |.gl _=>@λd target iter ifs tg cs hg pg pt hin=>hin.elim
 |.con _=>@λd target iter ifs tg cs hg pg pt hin=>hin.elim
 |.bin _ _ _=>@λd target iter ifs tg cs hg pg pt hin=>hin.elim
 |.neg _=>@λd target iter ifs tg cs hg pg pt hin=>hin.elim
 |.not _=>@λd target iter ifs tg cs hg pg pt hin=>hin.elim
 |.and _ _=>@λd target iter ifs tg cs hg pg pt hin=>hin.elim
 |.or _ _=>@λd target iter ifs tg cs hg pg pt hin=>hin.elim
 |.one _=>@λd target iter ifs tg cs hg pg pt hin=>hin.elim
 |.cmp _ _ _=>@λd target iter ifs tg cs hg pg pt hin=>hin.elim
 |.chn _ _ _ _ _=>@λd target iter ifs tg cs hg pg pt hin=>hin.elim
 |.ite _ _ _=>@λd target iter ifs tg cs hg pg pt hin=>hin.elim
 |.tup _=>@λd target iter ifs tg cs hg pg pt hin=>hin.elim
 |.lst _=>@λd target iter ifs tg cs hg pg pt hin=>hin.elim
 |.cel _=>@λd target iter ifs tg cs hg pg pt hin=>hin.elim
 |.celL _=>@λd target iter ifs tg cs hg pg pt hin=>hin.elim
 |.celb _ _=>@λd target iter ifs tg cs hg pg pt hin=>hin.elim
 |.celA _ _=>@λd target iter ifs tg cs hg pg pt hin=>hin.elim
 |.dsp _ _=>@λd target iter ifs tg cs hg pg pt hin=>hin.elim
 |.ix _ _=>@λd target iter ifs tg cs hg pg pt hin=>hin.elim
 |.slc _ _ _=>@λd target iter ifs tg cs hg pg pt hin=>hin.elim
 |.rev _=>@λd target iter ifs tg cs hg pg pt hin=>hin.elim
 |.hole=>@λd target iter ifs tg cs hg pg pt hin=>hin.elim
 |.call _ _=>@λd target iter ifs tg cs hg pg pt hin=>hin.elim
 |.blt _ _=>@λd target iter ifs tg cs hg pg pt hin=>hin.elim
 |.mth _ _ _=>@λd target iter ifs tg cs hg pg pt hin=>hin.elim
 |.isi _ _=>@λd target iter ifs tg cs hg pg pt hin=>hin.elim
 |.comp _ _ _ _ _ _=>@λd target iter ifs tg cs hg pg pt hin=>hin.elim
 |.tr _=>@λd target iter ifs tg cs hg pg pt hin=>hin.elim
 |.fnv _=>@λd target iter ifs tg cs hg pg pt hin=>hin.elim
 |.callV _ _ _=>@λd target iter ifs tg cs hg pg pt hin=>hin.elim
 |.fst _=>@λd target iter ifs tg cs hg pg pt hin=>hin.elim
 |.xat _ _ _=>@λd target iter ifs tg cs hg pg pt hin=>hin.elim
 |.xis _ _ _=>@λd target iter ifs tg cs hg pg pt hin=>hin.elim
 |.gdg _ _=>@λd target iter ifs tg cs hg pg pt hin=>hin.elim
 |.ptd _ _=>@λd target iter ifs tg cs hg pg pt hin=>hin.elim
 |.gdn _ _ _=>@λd target iter ifs tg cs hg pg pt hin=>hin.elim
 |.dsn _ _=>@λd target iter ifs tg cs hg pg pt hin=>hin.elim
 |.sortk _ _ _=>@λd target iter ifs tg cs hg pg pt hin=>hin.elim
end
theorem ZaW{scope:Scope}{env:PySem.Env}(h:∀x,(x,NameKind.free)∈scope.names->∃c,env.cells.lookup x=some c):
  ∃cl,closureFor scope env=pure cl/\(∀x c,cl.lookup x=some c->env.cells.lookup x=some c)/\∀x,(x,NameKind.free)∈scope.names->∃c,cl.lookup x=some c:=by
 have go:∀(ns:List (Str×NameKind)) (acc:List (Str×Addr)),(∀x,(x,NameKind.free)∈ns->∃c,env.cells.lookup x=some c)->(∀x c,acc.lookup x=some c->env.cells.lookup x=some c) ->
   ∃cl,(forIn ns acc λ(x:Str×NameKind) cs=>(match x with|(name,kind)=>if(kind==NameKind.free)=true then do let a <-cellOf env name;pure (ForInStep.yield ((name,a)::cs))else pure (ForInStep.yield cs):Sem (ForInStep (List (Str×Addr)))))=pure cl /\
    (∀x c,cl.lookup x=some c->env.cells.lookup x=some c)/\(∀x,(x,NameKind.free)∈ns->∃c,cl.lookup x=some c)/\∀x c,acc.lookup x=some c->∃c,cl.lookup x=some c:=by
  intro ns
  induction ns with
  |nil=>intro acc _ h2;exact⟨acc,rfl,h2,λx hx=>absurd hx (by simp),λx c e=>⟨c,e⟩⟩
  |cons p ns ih =>
   intro acc h1 h2
   obtain⟨n,k⟩:=p
   have h1':∀x,(x,NameKind.free)∈ns->∃c,env.cells.lookup x=some c:=λx hx=>h1 x (List.mem_cons_of_mem _ hx)
   by_cases hk:k=.free
   ·subst hk
    obtain⟨c,hc⟩:=h1 n List.mem_cons_self
    have h2':∀x d,((n,c)::acc).lookup x=some d->env.cells.lookup x=some d:=λx d e=>by
     rw[List.lookup_cons]at e
     cases hx:x==n with
     |true=>rw[hx]at e;cases e;rw[eq_of_beq hx];exact hc
     |false=>rw[hx]at e;exact h2 x d e
    obtain⟨cl,e1,e2,e3,e4⟩:=ih ((n,c)::acc) h1' h2'
    refine⟨cl,?_,e2,λx hx=>?_,λx d e=>?_⟩
    ·rw[List.forIn_cons]
     simp only[beq_self_eq_true,if_true,cellOf,hc,pure_bind]
     exact e1
    ·rcases List.mem_cons.mp hx with z|z
     ·cases z
      exact e4 n c (by rw[List.lookup_cons,beq_self_eq_true])
     ·exact e3 x z
    ·by_cases hx:x=n
     ·subst hx;exact e4 x c (by rw[List.lookup_cons,beq_self_eq_true])
     ·exact e4 x d (by rw[List.lookup_cons,beq_eq_false_iff_ne.mpr hx];exact e)
   ·obtain⟨cl,e1,e2,e3,e4⟩:=ih acc h1' h2
    have hb:(k==NameKind.free)=false:=beq_eq_false_iff_ne.mpr hk
    refine⟨cl,?_,e2,λx hx=>?_,e4⟩
    ·rw[List.forIn_cons]
     simp only[hb,Bool.false_eq_true,if_false,pure_bind]
     exact e1
    ·rcases List.mem_cons.mp hx with z|z
     ·cases z;exact absurd rfl hk
     ·exact e3 x z
 obtain⟨cl,e1,e2,e3,_⟩:=go scope.names [] h (λx c e=>by simp at e)
 refine⟨cl,?_,e2,e3⟩
 unfold closureFor
 have:(forIn scope.names ([]:List (Str×Addr)) λ(x:Str×NameKind) cs=>(match x with|(name,kind)=>if(kind==NameKind.free)=true then do let a <-cellOf env name;pure (ForInStep.yield ((name,a)::cs))else pure (ForInStep.yield cs):Sem (ForInStep (List (Str×Addr))))) >>= (λcs=>pure cs)=(pure cl:Sem (List (Str×Addr))):=by rw[e1];rfl
 exact this
section
variable{xr:XR}{X:Cx}{call:Nat->List W->Mem->Res W}{gv:List T}
noncomputable abbrev Js(X:Cx)(N':List Str)(scope:Scope)(cl:List (Str×Addr))(C:Addr)(s2:Shared)(H2:Hp)(fp:List Addr):Cx:=
 { X with N:=N',s₀:=s2,H₀:=H2,env:=compEnvC scope cl C X.env,outer:=X.stack,stack:=X.stack,ex:=fp,fn:=λx=>scope.names.lookup x==some .cell,pn:=[],xe:=λ_ _=>False }
structure CompSc (X:Cx) (N':List Str) (scope:Scope):Prop where
 kind:scope.kind=.function
 look:∀p∈scope.names,scope.names.lookup p.1=some p.2
 free:∀x,(x,NameKind.free)∈scope.names->X.env.kindOf x=some .cell∨X.env.kindOf x=some .free
theorem Xo{scope:Scope}{env:PySem.Env}(look:∀p∈scope.names,scope.names.lookup p.1=some p.2){x:Str}{k:NameKind}(h:(relabel scope env).names.lookup x=some k):
  ∃k',scope.names.lookup x=some k'/\(k=k'∨(k'=.free/\k=.cell)):=by
 have go:∀(ns:List (Str×NameKind)),(ns.map λ(n,k)=>if(k==NameKind.free&&env.scope.kind==.function&&env.kindOf n==some .cell)then(n,NameKind.cell)else(n,k)).lookup x=some k->∃k',ns.lookup x=some k'/\(k=k'∨(k'=.free/\k=.cell)):=by
  intro ns
  induction ns with
  |nil=>intro h;simp at h
  |cons p r ih =>
   obtain⟨n,q⟩:=p
   intro h
   rw[List.map_cons]at h
   by_cases hc:(q==NameKind.free&&env.scope.kind==.function&&env.kindOf n==some .cell)=true
   ·simp only[hc,if_true]at h
    rw[List.lookup_cons]at h ⊢
    cases hx:x==n with
    |true =>
     rw[hx]at h;cases h
     rw[Bool.and_eq_true,Bool.and_eq_true]at hc
     exact⟨q,rfl,.inr ⟨eq_of_beq hc.1.1,rfl⟩⟩
    |false=>rw[hx]at h;exact ih h
   ·simp only[hc,Bool.false_eq_true,if_false]at h
    rw[List.lookup_cons]at h ⊢
    cases hx:x==n with
    |true=>rw[hx]at h;cases h;exact⟨_,rfl,.inl rfl⟩
    |false=>rw[hx]at h;exact ih h
 exact go scope.names h
theorem Zaj{ns:List (Str×NameKind)}{x:Str}{k:NameKind}(h:ns.lookup x=some k):(x,k)∈ns:=PySem.mem_of_lookup h
structure CA (h:Heap) (lo:Nat) (cs:List (Str×Addr)):Prop where
 lt:∀x c,cs.lookup x=some c->c<h.objs.size
 inj:∀x y c,cs.lookup x=some c->cs.lookup y=some c->x=y
 new:∀x c,cs.lookup x=some c->lo<=c->h.IsCell c none
theorem Q8{α:Type}{x y:Str}{a c:α}{l:List (Str×α)}(h:List.lookup x ((y,a)::l)=some c):(x=y/\c=a)∨l.lookup x=some c:=by
 rw[List.lookup_cons]at h
 cases e:x==y with
 |true=>rw[e]at h;cases h;exact .inl ⟨eq_of_beq e,rfl⟩
 |false=>rw[e]at h;exact .inr h
theorem ZcH:∀(names:List (Str×NameKind)) (h:Heap) (lo:Nat) (acc:List (Str×Addr)),CA h lo acc->lo<=h.objs.size->CA (pushCells h names) lo (cellsFrom h.objs.size names acc)
 |[],_,_,_,x,_=>x
 |(name,kind)::r,h,lo,acc,x,hlo=>by
  unfold pushCells cellsFrom
  split
  ·have:=ZcH r (h.push { cls:=.type "cell",data:=.cell none }) lo ((name,h.objs.size)::acc)
    ⟨λn c hm=>by
      rw[Heap.size_push]
      rcases Q8 hm with⟨_,rfl⟩|hm
      ·exact Nat.lt_succ_self _
      ·exact Nat.lt_succ_of_lt (x.lt n c hm),
     λn n' c h1 h2=>by
      rcases Q8 h1 with⟨e1,z1⟩|h1<;>rcases Q8 h2 with⟨e2,z2⟩|h2
      ·rw[e1,e2]
      ·exact absurd (x.lt _ _ h2) (by rw[z1];exact Nat.lt_irrefl _)
      ·exact absurd (x.lt _ _ h1) (by rw[z2];exact Nat.lt_irrefl _)
      ·exact x.inj n n' c h1 h2,
     λn c hm hc=>by
      rcases Q8 hm with⟨_,rfl⟩|hm
      ·exact⟨_,Heap.get?_push_size _ rfl,rfl⟩
      ·exact(x.new n c hm hc).keeps λb o e=>Heap.get?_push_of_some _ e⟩ (by rw[Heap.size_push];omega)
   rwa [Heap.size_push]at this
  ·exact ZcH r h lo acc x hlo
theorem X5{x:Str}{c:Addr}:∀(names:List (Str×NameKind)) (n:Nat) (acc:List (Str×Addr)),(cellsFrom n names acc).lookup x=some c->(n<=c/\(x,NameKind.cell)∈names)∨acc.lookup x=some c
 |[],_,_,h=>.inr h
 |(y,k)::r,n,acc,h=>by
  unfold cellsFrom at h
  split at h
  ·rename_i hk
   have hk:k=.cell:=eq_of_beq hk
   rcases X5 r (n+1) _ h with⟨h1,h2⟩|h1
   ·exact .inl ⟨by omega,List.mem_cons_of_mem _ h2⟩
   ·rcases Q8 h1 with⟨rfl,rfl⟩|h1
    ·exact .inl ⟨Nat.le_refl _,by rw[hk];exact List.mem_cons_self⟩
    ·exact .inr h1
  ·rcases X5 r n _ h with⟨h1,h2⟩|h1
   ·exact .inl ⟨h1,List.mem_cons_of_mem _ h2⟩
   ·exact .inr h1
theorem Zat{x:Str}{c:Addr}:∀(names:List (Str×NameKind)) (n:Nat) (acc:List (Str×Addr)),names.lookup x=some .cell->(cellsFrom n names acc).lookup x=some c->n<=c
 |[],_,_,h,_=>by cases h
 |(y,k)::r,n,acc,h,e=>by
  unfold cellsFrom at e
  rw[List.lookup_cons]at h
  cases q:x==y with
  |true =>
   rw[q]at h
   cases h
   have e:(cellsFrom (n+1) r ((y,n)::acc)).lookup x=some c:=e
   rcases X5 r (n+1) _ e with⟨h1,_⟩|h1
   ·omega
   ·rw[List.lookup_cons,q]at h1
    cases h1
    exact Nat.le_refl _
  |false =>
   rw[q]at h
   split at e
   ·have:=Zat r (n+1) _ h e
    omega
   ·exact Zat r n _ h e
structure Clo (X:Cx) (scope:Scope) (cl:List (Str×Addr)) (C:Addr) (h:Heap):Prop where
 one:∀x c,cl.lookup x=some c->(C<c/\(x,NameKind.cell)∈scope.names/\h.IsCell c none)∨X.env.cells.lookup x=some c
 own:∀x c,scope.names.lookup x=some .cell->cl.lookup x=some c->C<c
 inj:∀x y c,cl.lookup x=some c->cl.lookup y=some c->x=y
 has:∀x,(x,NameKind.free)∈scope.names∨scope.names.lookup x=some .cell->∃c,cl.lookup x=some c
theorem Clo.ne{scope:Scope}{cl:List (Str×Addr)}{C:Addr}{h:Heap}(k:Clo X scope cl C h){b:Addr}(hb:b<C)(hx:∀x c,X.env.cells.lookup x=some c->c≠b):∀x c,cl.lookup x=some c->c≠b:=λx c e=>by
 rcases k.one x c e with⟨h1,_⟩|h1
 ·exact Nat.ne_of_gt (Nat.lt_trans hb h1)
 ·exact hx x c h1
theorem Zdr{M:Model}{A:Around}{E:Value->Shared->Prop}{s:Shared}{scope:Scope}{cl0:List (Str×Addr)}{Q:PySem.Env->Shared->Prop}(hcl1:∀x c,cl0.lookup x=some c->X.env.cells.lookup x=some c)(hcl2:∀x,(x,NameKind.free)∈scope.names->∃c,cl0.lookup x=some c)(hlt:∀x c,X.env.cells.lookup x=some c->c<s.heap.objs.size)(hinj:∀x y c,X.env.cells.lookup x=some c->X.env.cells.lookup y=some c->x=y)(h:∀h1 cl,(∃m,h1.Ns s.heap.objs.size m)->(∀b o,s.heap.get? b=some o->h1.get? b=some o)->Clo X scope cl s.heap.objs.size h1->Q (newEnv scope s.heap.objs.size X.env.globals cl X.env.qual none .none (some X.env) builtinsNs) { s with heap:=h1 }):
  wpAny M A (newFunctionEnv scope X.env.globals cl0 [] X.env.qual none .none (some X.env)) Q E s:=by
 simp only[newFunctionEnv,Option.isSome_some,if_true]
 refine wpAny_bind (wpAny_alloc ?_)
 refine wpAny_bind (wpAny_layCells _ (λname kind cells=>by cases hkc:kind==NameKind.cell<;>simp[hkc]) _ _ _ _ ?_)
 have hz:(s.heap.push { cls:=.type "dict",data:=.dict #[] }).objs.size=s.heap.objs.size+1:=Heap.size_push ..
 have ok:=ZcH scope.names (s.heap.push { cls:=.type "dict",data:=.dict #[] }) (s.heap.objs.size+1) cl0
  ⟨λx c e=>by rw[hz];exact Nat.lt_succ_of_lt (hlt x c (hcl1 x c e)),λx y c e1 e2=>hinj x y c (hcl1 x c e1) (hcl1 y c e2),λx c e z=>absurd (hlt x c (hcl1 x c e)) (Nat.not_lt.mpr (Nat.le_of_succ_le z))⟩ (by rw[hz];exact Nat.le_refl _)
 rw[List.forIn_nil]
 refine wpAny_bind (wpAny_pure (wpAny_pure ?_))
 refine h _ _ ⟨_,(Heap.Ns.new s.heap (.type "dict")).keeps (pushCells_keeps _ _)⟩ (λb o e=>pushCells_keeps _ _ b o (Heap.get?_push_of_some _ e)) ⟨λx c e=>?_,λx c hx e=>?_,ok.inj,λx hx=>?_⟩
 ·rcases X5 _ _ _ e with⟨h1,h2⟩|h1
  ·rw[show({ s with heap:=s.heap.push { cls:=.type "dict",data:=.dict #[] } }:Shared).heap.objs.size=s.heap.objs.size+1 from hz]at h1
   exact .inl ⟨h1,h2,ok.new x c e h1⟩
  ·exact .inr (hcl1 x c h1)
 ·have:=Zat _ _ _ hx e
  rw[show({ s with heap:=s.heap.push { cls:=.type "dict",data:=.dict #[] } }:Shared).heap.objs.size=s.heap.objs.size+1 from hz]at this
  exact this
 ·refine Option.isSome_iff_exists.mp (cellsFrom_some _ _ _ ?_)
  rcases hx with hx|hx
  ·obtain⟨c,e⟩:=hcl2 x hx
   exact .inr (by rw[e];rfl)
  ·exact .inl hx
theorem Zd7{pins:List (Addr×Obj)}{s:Shared}{σ σ':L2.St}{H:Hp}{fp:List Addr}{N':List Str}{scope:Scope}{cl:List (Str×Addr)}{C:Addr}{h1:Heap}{t:Nat}(I:Inv X pins σ H s)(S:CompSc X N' scope)(hf:∀b∈fp,FpOk X pins H b)(hlt:∀b∈fp,b<s.heap.objs.size)(hC:s.heap.objs.size<=C)(hns:∃m,h1.Ns C m)(hk:∀b o,s.heap.get? b=some o->h1.get? b=some o)(kc:Clo X scope cl C h1)(hl:σ'.length=N'.length)(hσ:∀(i:Nat) (x:Str) (v:V),N'[i]?=some x->σ'[i]?=some (some v)->∃j:Nat,X.N[j]?=some x/\σ[j]?=some (some v)/\(x,NameKind.free)∈scope.names):
  Inv (Js X N' scope cl C s H fp) [] σ' H { s with heap:=h1,toks:=t }:=by
 have hfree:∀x k,(relabel scope X.env).names.lookup x=some k->(k=.cell∨k=.free)->(x,NameKind.free)∈scope.names∨scope.names.lookup x=some .cell:=λx k h hk'=>by
  obtain⟨k',h1,h2⟩:=Xo S.look h
  rcases h2 with rfl|⟨rfl,_⟩
  ·rcases hk' with rfl|rfl
   ·exact .inr h1
   ·exact .inl (Zaj h1)
  ·exact .inl (Zaj h1)
 obtain⟨mm,hns⟩:=hns
 refine⟨⟨I.ok.mod,S.kind,I.ok.glob,I.ok.blt,hC,kc.inj,λx hx=>?_,λx c h e=>?_,I.ok.hd,I.ok.frames,.inl rfl,λb hb=>⟨Nat.ne_of_lt (Nat.lt_of_lt_of_le (hlt b hb) hC),kc.ne (Nat.lt_of_lt_of_le (hlt b hb) hC) (hf b hb).2.2.2.2.1⟩,I.bs,Nat.le_trans I.ok.bsz I.sz,λb o e hb=>?_,λb hb z=>?_,I.stack,I.stkFree⟩,
  rfl,I.bare,Un.kept hk,⟨mm,hns,λi x v e1 e2 e3=>?_⟩,λx c e=>?_,I.hok.fresh hC,λx c e=>?_,λp hp=>absurd (show p∈([]:List (Addr×Obj))from hp) (by simp),I.hok.kept hk,hl⟩
 ·rcases hx with hx|hx
  ·exact kc.has x (hfree x _ hx (.inl rfl))
  ·exact kc.has x (hfree x _ hx (.inr rfl))
 ·have h:(scope.names.lookup x==some .cell)=true:=h
  exact Nat.le_trans hC (Nat.le_of_lt (kc.own x c (eq_of_beq h) e))
 ·rcases(hf b hb).2.2.2.1 with z|z
  ·exact I.ok.noex b o e z
  ·exact absurd (Nat.lt_of_lt_of_le (Heap.lt_size e) (Nat.le_trans I.ok.bsz z)) (Nat.lt_irrefl _)
 ·rcases List.mem_cons.mp (I.stkSub b z)with q|q
  ·exact(hf b hb).2.1 q
  ·exact(hf b hb).2.2.1 q
 ·obtain⟨j,h1',h2',h3'⟩:=hσ i x v e1 e2
  obtain⟨m0,hn0,hl0⟩:=I.loc
  have kx:=S.free x h3'
  obtain⟨u,ru,lu⟩:=hl0 j x v h1' h2' (kx.elim (λz=>.inr (.inl z)) λz=>.inr (.inr z))
  refine⟨u,ru,.inr ?_⟩
  obtain⟨c,ec,ic⟩:∃c,X.env.cells.lookup x=some c/\s.heap.IsCell c (some u):=by
   rcases lu with⟨q,_⟩|⟨_,c,q1,q2⟩
   ·rcases kx with z|z
    ·rw[z]at q;cases q
    ·rw[z]at q;cases q
   ·exact⟨c,q1,q2⟩
  obtain⟨c',ec'⟩:=kc.has x (.inl h3')
  have:c'=c:=by
   rcases kc.one x c' ec' with⟨_,q,_⟩|this
   ·have q1:=S.look _ q
    rw[S.look _ h3']at q1
    cases q1
   ·rw[ec]at this;exact(Option.some.inj this).symm
  subst this
  obtain⟨o,ho,hd⟩:=ic
  refine⟨?_,c',ec',o,hk _ _ ho,hd⟩
  rcases e3 with e3|e3|e3
  ·obtain⟨k',q1,q2⟩:=Xo S.look e3
   rw[S.look _ h3']at q1;cases q1
   rcases q2 with q2|⟨_,q2⟩<;>cases q2
  ·exact .inl e3
  ·exact .inr e3
 ·rcases kc.one x c e with⟨_,_,q⟩|q
  ·exact⟨_,q⟩
  ·obtain⟨v,o,ho,hd⟩:=I.cell x c q
   exact⟨v,o,hk _ _ ho,hd⟩
 ·rcases kc.one x c e with⟨q,_⟩|q
  ·exact I.hok.fresh (Nat.le_trans hC (Nat.le_of_lt q))
  ·exact I.freeC x c q
theorem Zd6{pins:List (Addr×Obj)}{s s':Shared}{σ σ':L2.St}{H H':Hp}{fp:List Addr}{N':List Str}{scope:Scope}{cl:List (Str×Addr)}{C:Addr}(I:Inv X pins σ H s)(hf:∀b∈fp,FpOk X pins H b)(J:Inv (Js X N' scope cl C s H fp) [] σ' H' s'):
  Inv X pins σ H' s':=
 I.call' J.os J.base J.hok J.bare λb hb=>⟨(hf b hb).2.2.2.1,(hf b hb).2.1,(hf b hb).2.2.2.2.1,(hf b hb).2.2.2.2.2⟩
theorem Inv.adopt{pins:List (Addr×Obj)}{s:Shared}{σ:L2.St}{H:Hp}{D:Addr}{vs:List V}(I:Inv X pins σ H s)(f:FpOk X pins H D)(a:AccAt s.heap D vs):Inv X pins σ (upd H D (.lst vs)) s:=by
 obtain⟨f0,f1,f2,f3,f4,f5⟩:=f
 have hne:∀b u,H b=some u->b≠D:=λb u e z=>by subst z;rw[f0]at e;cases e
 refine I.call' (ch:=[D]) rfl ⟨λb o e _ _ _=>e,λb o e _ _ _=>⟨o.slots,e⟩,λb o e n hx=>by rw[Zw (by simpa using hx)];exact n,λb o e _=>⟨o,e⟩,λb xs e=>by rw[Zw (hne b _ e)];exact e,λb o u e=>by rw[Zw (hne b _ e)];exact e,
  λb ps e=>⟨#[],by rw[Zw (hne b _ e),e];simp⟩⟩ (λb u e=>?_) I.bare λb hb=>?_
 ·by_cases hb:b=D
  ·subst hb
   rw[Z8]at e;cases e
   exact a
  ·rw[Zw hb]at e
   exact(I.hok b u e).stay (λ_ _ _ q=>q) (λc q=>by rw[Zw (hne c _ q)];exact q) λc xs q=>by rw[Zw (hne c _ q)];exact q
 ·have e:b=D:=by simpa using hb
  subst e
  exact⟨f3,f1,f4,f5⟩
noncomputable def Zgk(X:Cx)(xr:XR)(call:Nat->List W->Mem->Res W)(gv:List T)(N':List Str)(scope:Scope)(elt target:Expr)(ifs:List Expr)(gens:List Comprehension)(tg:Tg)(cs:Es)(inner:E):Prop:=
 ∀(cl:List (Str×Addr)) (C:Addr) (s2:Shared) (H2:Hp) (fp:List Addr),PG (Js X N' scope cl C s2 H2 fp) target (gT X.K tg)/\PTs (Js X N' scope cl C s2 H2 fp) call gv xr cs ifs/\Ins xr (Js X N' scope cl C s2 H2 fp) call gv elt gens 0 inner
noncomputable def envC(own:Nat)(keep:List Nat)(env:Env):Env:=List.replicate own none++keep.map λi=>(env[i]?).join
noncomputable def stC(own:Nat)(keep:List Nat)(σ:L2.St):L2.St:=List.replicate own none++keep.map λi=>(σ[i]?).join
theorem envC_R{K:Frag}{cm:List Addr}{m:Mem}{H:Hp}{env:Env}{σ:L2.St}{own:Nat}{keep:List Nat}(h:EnvR K cm m H env σ):EnvR K cm m H (envC own keep env) (stC own keep σ):=λi w e=>by
 unfold envC at e
 unfold stC
 by_cases hi:i<own
 ·rw[List.getElem?_append_left (by simpa using hi),List.getElem?_replicate]at e
  split at e<;>cases e
 ·rw[List.getElem?_append_right (by simpa using hi),List.length_replicate,List.getElem?_map]at e
  rw[List.getElem?_append_right (by simpa using hi),List.length_replicate,List.getElem?_map]
  cases q:keep[i-own]? with
  |none=>rw[q]at e;cases e
  |some j =>
   rw[q]at e
   have e':(env[j]?).join=some w:=Option.some.inj e
   cases r:env[j]? with
   |none=>rw[r]at e';cases e'
   |some o =>
    rw[r]at e'
    have e2:o=some w:=e'
    subst e2
    obtain⟨v,h1,h2⟩:=h j w r
    exact⟨v,by simp[h1],h2⟩
theorem Zc8{α:Type}{r:Res α}{x:α}{m:Mem}(h:r.only=.ok x m):r=.ok x m:=by
 cases r with
 |ok _ _=>exact h
 |exc _ _=>cases h
 |stuck=>cases h
theorem ZaO{α β:Type}{r:Res α}{f:α->Mem->Res β}(hf:∀x m e m',f x m≠.exc e m')(e:Exc)(m':Mem):r.only.bind f≠.exc e m':=by
 cases r with
 |ok x m=>exact hf x m e m'
 |exc _ _=>intro h;cases h
 |stuck=>intro h;cases h
theorem ZaV{own:Nat}{keep:List Nat}{it:E}{tg:Tg}{cs:Es}{inner:E}{env:Env}{m:Mem}(e:Exc)(m':Mem):ev call gv (.comp own keep it tg cs inner) env m≠.exc e m':=by
 unfold ev
 refine ZaO (λx m0 e m'=>?_) e m'
 cases h:ZJ x m0 with
 |ok ts m1 =>
  refine ZaO (λout m2 e m'=>?_) e m'
  split<;>(intro h;cases h)
 |exc _ _ =>
  unfold ZJ at h
  split at h<;>first
   |(cases h;done)
   |(split at h<;>cases h)
 |stuck=>intro h;cases h
theorem Zb0{own:Nat}{keep:List Nat}{it:E}{tg:Tg}{cs:Es}{inner:E}{env:Env}{m m':Mem}{w:W}(h:ev call gv (.comp own keep it tg cs inner) env m=.ok w m'):∃out,w=.t (.lst out):=by
 unfold ev at h
 obtain⟨_,_,_,h⟩:=Zq h
 obtain⟨_,_,_,h⟩:=Zq h
 obtain⟨out,_,_,h⟩:=Zq h
 split at h<;>cases h
 exact⟨_,rfl⟩
theorem Zb1{elt target iter:Expr}{ifs:List Expr}{gs:List Comprehension}{scope:Scope}{pos pos':Pos}{N':List Str}{own:Nat}{keep:List Nat}{it:E}{tg:Tg}{cs:Es}{inner:E}{use:Option (Value->Sem Unit)}(hc:X.calm=true)(S:CompSc X N' scope)(hown:N'.length=own+keep.length)(hkeep:∀(i:Nat) x,N'[own+i]?=some x->∃j,keep[i]?=some j/\X.N[j]?=some x/\(x,NameKind.free)∈scope.names)(hlocal:∀x∈scope.names,x.2=NameKind.local->scope.names.lookup x.1=some .local)(pi:PI X target iter (tI X.K call gv xr it))(hfs:∀x,foldedSetIterable iter X.env x=pure x)(hY:Zgk X xr call gv N' scope elt target ifs (⟨target,iter,ifs,0⟩::gs) tg cs inner)(hdis:∀i∈tgS tg,i∉innS inner)(hsl:∀i∈tgS tg++innS inner,i<own){pins:List (Addr×Obj)}{s:Shared}{σ:L2.St}{H:Hp}{cm:List Addr}{m m':Mem}{env:Env}{out:List T}{Q:Value->Shared->Prop}(I:Inv X pins σ H s)(hE:EnvR X.K cm m H env σ)(M:MemR X.K cm m H)(ok:ev call gv (.comp own keep it tg cs inner) env m=.ok (.t (.lst out)) m')(fin:∀(D C:Addr) (s3:Shared) (H3:Hp) (cm3:List Addr) (vs:List V),Inv X pins σ (upd H3 D (.lst vs)) s3->H3 D=none->X.K.lookup D=none->Ext cm m H cm3 m' H3->MemR X.K cm3 m' H3->RTs X.K cm3 m' H3 out vs->(∃mm,s3.heap.Ns C mm)->FpOk X pins (upd H3 D (.lst vs)) C ->
   compPost (model X.prog X.w) X.A X.xe use Q (.ref D) C (.ok .next) s3):
  wpAny (model X.prog X.w) X.A (comprehension (.ListComp elt (⟨target,iter,ifs,0⟩::gs) scope pos) scope X.env pos' (newList []) false (eval iter X.env) use) Q X.xe s:=by
 obtain⟨cl0,hclos,hcl1,hcl2⟩:=ZaW (scope:=scope) (env:=X.env) λx hx=>I.ok.has x (S.free x hx)
 unfold ev at ok
 obtain⟨w1,m1,ok0,ok2⟩:=Zq ok
 have ok1:=Zc8 ok0
 obtain⟨ts,m2,ok3,ok4⟩:=Zq ok2
 obtain⟨out',m3,ok5,ok6⟩:=Zq ok4
 split at ok6<;>cases ok6
 rename_i hlen
 have ok5':Q7 (turnF call gv cs inner) tg ts (envC own keep env) m2=.ok out m3:=Zc8 ok5
 have hz:=ZD
 refine wpAny_comprehension_free rfl hfs hclos S.kind hlocal (thn (pi pins s σ H (λJ H1=>∃cm1,Ext cm m H cm1 m1 H1/\MemR X.K cm1 m1 H1/\Src X.K cm1 m2 H1 J ts) I ⟨env,cm,m,hE,M,by
   rw[ok1]
   exact λcm1 H1 x M1=>⟨ts,m2,ok3,λJ hs=>⟨cm1,x,M1,hs⟩⟩⟩) λxv s1 h1=>thn h1 λitv s2 h2=>?_)
 obtain⟨it2,fp,tn,J,H2,rfl,I2,T2,st2,f2,cm2,x2,M2,hs2⟩:=h2
 refine wpAny_newObj_type (Zdr hcl1 hcl2 (λx c e=>?_) I2.ok.inj λh₁ cl hns₁ hsb₁ kc=>?_)
 ·obtain⟨v,q⟩:=I2.cell x c e
  exact Nat.lt_of_lt_of_le q.lt (by show _<=(Heap.push _ _).objs.size;rw[Heap.size_push];exact Nat.le_succ _)
 dsimp only at hns₁ hsb₁ kc ⊢
 generalize hH2:s2.heap.push { cls:=.type "list",dict:=none,data:=.seq ([]:List Value).toArray }=P2 at hns₁ hsb₁ kc ⊢
 have hCs:P2.objs.size=s2.heap.objs.size+1:=by rw[<-hH2,Heap.size_push]
 have hDC:s2.heap.objs.size≠P2.objs.size:=by omega
 have below:∀b,b<s2.heap.objs.size->b≠P2.objs.size:=λb hb=>by omega
 have old:∀b o,s2.heap.get? b=some o->h₁.get? b=some o:=λb o e=>hsb₁ b o (hH2▸Heap.get?_push_of_some _ e)
 have hacc:h₁.get? s2.heap.objs.size=some { cls:=.type "list",data:=.seq ([]:List Value).toArray }:=hsb₁ _ _ (hH2▸Heap.get?_push_size _ rfl)
 have flt:∀b∈fp,b<s2.heap.objs.size:=λb hb=>by
  obtain⟨o,e,_⟩:=T2.obj _ _ st2 b hb
  exact Heap.lt_size e
 have hb3:=Zaw M2 ok3
 have E2:EnvR X.K cm2 m2 H2 env σ:=(hE.ext x2 M M2).ext hb3.1 M2 hb3.2
 have hσl:(stC own keep σ).length=N'.length:=by unfold stC;simp[hown]
 have J0:Inv (Js X N' scope cl P2.objs.size s2 H2 fp) [] (stC own keep σ) H2 { s2 with heap:=h₁ }:=
  Zd7 (t:=s2.toks) I2 S f2 flt (by omega) hns₁ old kc hσl λi x v e1 e2=>by
   unfold stC at e2
   by_cases hi:i<own
   ·rw[List.getElem?_append_left (by simpa using hi),List.getElem?_replicate]at e2
    split at e2<;>cases e2
   ·rw[List.getElem?_append_right (by simpa using hi),List.length_replicate,List.getElem?_map]at e2
    have ei:N'[own+(i-own)]?=some x:=by rw[show own+(i-own)=i by omega];exact e1
    obtain⟨j,q1,q2,q3⟩:=hkeep (i-own) x ei
    rw[q1]at e2
    have e3:(σ[j]?).join=some v:=Option.some.inj e2
    refine⟨j,q2,?_,q3⟩
    cases r:σ[j]? with
    |none=>rw[r]at e3;cases e3
    |some o=>rw[r]at e3;exact congrArg some e3
 obtain⟨pg,pt,hin⟩:=hY cl P2.objs.size s2 H2 fp
 have fD:FpOk (Js X N' scope cl P2.objs.size s2 H2 fp) [] H2 s2.heap.objs.size:=by
  refine⟨I2.hok.fresh (Nat.le_refl _),hDC,λz=>?_,.inr (Nat.le_refl _),λx c e z=>?_,λp hp=>absurd (show p∈([]:List (Addr×Obj))from hp) (by simp)⟩
  ·have:=I2.stkSub _ z
   rcases List.mem_cons.mp this with q|q
   ·exact absurd I2.lt (by rw[<-q];exact Nat.lt_irrefl _)
   ·exact I2.nofs (Nat.le_refl _) q
  ·rcases kc.one x c e with⟨q,_⟩|q
   ·exact absurd q (by rw[z,hCs];exact Nat.not_lt.mpr (Nat.le_succ _))
   ·obtain⟨v,q⟩:=I2.cell x c q
    exact absurd q.lt (by rw[z];exact Nat.lt_irrefl _)
 have fF:∀b∈fp,FpOk (Js X N' scope cl P2.objs.size s2 H2 fp) [] H2 b:=λb hb=>by
  refine⟨(f2 b hb).1,below b (flt b hb),λz=>?_,.inl hb,kc.ne (Nat.lt_of_lt_of_le (flt b hb) (by rw[hCs];exact Nat.le_succ _)) (f2 b hb).2.2.2.2.1,λp hp=>absurd (show p∈([]:List (Addr×Obj))from hp) (by simp)⟩
  rcases List.mem_cons.mp (I2.stkSub b z)with q|q
  ·exact(f2 b hb).2.1 q
  ·exact(f2 b hb).2.2.1 q
 have st2':tn 0 h₁:=T2.keep _ _ _ st2 λb _ o e=>old b o e
 have hDf:s2.heap.objs.size∉fp:=λz=>absurd (flt _ z) (Nat.lt_irrefl _)
 have hnone:∀i∈tgS tg++innS inner,∀w,(envC own keep env)[i]?≠some (some w):=λi hi w e=>by
  unfold envC at e
  rw[List.getElem?_append_left (by simpa using hsl i hi),List.getElem?_replicate]at e
  split at e<;>cases e
 have go:=Zfs (Y:=Js X N' scope cl P2.objs.size s2 H2 fp) (xr:=xr) (call:=call) (gv:=gv) hc (λ_ _ z=>z) (elt:=elt) (scope:=scope) (pos:=pos) (D:=s2.heap.objs.size) inner 0 target iter ifs tg cs rfl pg pt hin hdis (λi hi=>by
  show i<N'.length
  rw[hown]
  have:=hsl i hi
  omega) J0 fD (vs:=[]) ⟨Nat.zero_le _,[],0,.nil,hacc⟩ T2 st2' fF hDf (envC_R E2) hnone hb3.2 hs2 ok5' (by rw[List.length_nil,Nat.zero_add];exact hlen)
 have fine:∀r s3,(r=.ok .next/\CEnd (Js X N' scope cl P2.objs.size s2 H2 fp) s2.heap.objs.size (tgS tg++innS inner) [] (stC own keep σ) cm2 m2 H2 [] out m3 s3)->compPost (model X.prog X.w) X.A X.xe use Q (.ref s2.heap.objs.size) P2.objs.size r s3:=λr s3 ⟨hr,σ3,H3,cm3,vs3,J3,x3,M3,r3,a3,ag3,d3⟩=>by
  subst hr
  rw[List.nil_append]at a3
  obtain⟨x4,M4,sm⟩:=J1 M2 ok3 x3 M3
  have I3:Inv X pins σ H3 s3:=Zd6 I2 f2 J3
  have fX:∀b,s2.heap.objs.size<=b->∀H',H' b=none->FpOk X pins H' b:=λb hb H' hn=>I2.fpOk hb hn
  obtain⟨mm,hmm,_⟩:=J3.loc
  have neC:P2.objs.size≠s2.heap.objs.size:=Ne.symm hDC
  refine fin s2.heap.objs.size P2.objs.size s3 H3 cm3 vs3 (Inv.adopt I3 (fX _ (Nat.le_refl _) _ d3) a3) d3 ?_ (x2.trans x4) M4 (Zf (λ_ _ z=>sm _ _ z) r3) ⟨mm,hmm⟩ (fX _ (by omega) _ ?_)
  ·cases q:X.K.lookup s2.heap.objs.size with
   |none=>rfl
   |some o=>exact absurd (Heap.lt_size (I2.kIn _ _ q)) (Nat.lt_irrefl _)
  ·rw[Zw neC];exact J3.free
 exact codeAny_mono (J6 (gens:=⟨target,iter,ifs,0⟩::gs) rfl go (T2.self X.A 0 { s2 with heap:=h₁ } _ _ st2' go)) fine
structure CompK (X:Cx) (xr:XR) (call:Nat->List W->Mem->Res W) (gv:List T) (N':List Str) (scope:Scope) (own:Nat) (keep:List Nat) (elt target iter:Expr) (ifs:List Expr) (gs:List Comprehension) (it:E) (tg:Tg) (cs:Es) (inner:E):Prop where
 sc:CompSc X N' scope
 hown:N'.length=own+keep.length
 hkeep:∀(i:Nat) x,N'[own+i]?=some x->∃j,keep[i]?=some j/\X.N[j]?=some x/\(x,NameKind.free)∈scope.names
 pi:PI X target iter (tI X.K call gv xr it)
 fs:∀x,foldedSetIterable iter X.env x=pure x
 ins:Zgk X xr call gv N' scope elt target ifs (⟨target,iter,ifs,0⟩::gs) tg cs inner
 dis:∀i∈tgS tg,i∉innS inner
 slt:∀i∈tgS tg++innS inner,i<own
variable{elt target iter:Expr}{ifs:List Expr}{gs:List Comprehension}{scope:Scope}{pos:Pos}{N':List Str}{own:Nat}{keep:List Nat}{it:E}{tg:Tg}{cs:Es}{inner:E}
theorem Jv(hc:X.calm=true)(k:CompK X xr0 call gv N' scope own keep elt target iter ifs gs it tg cs inner):
  PE X (.ListComp elt (⟨target,iter,ifs,0⟩::gs) scope pos) (tE X.K call gv xr (.comp own keep it tg cs inner)):=by
 rintro pins s σ H Q I ⟨env,cm,m,hE,M,ho⟩
 cases h:ev call gv (.comp own keep it tg cs inner) env m with
 |stuck=>rw[h]at ho;exact ho.elim
 |exc e m'=>exact absurd h (ZaV e m')
 |ok w m' =>
  obtain⟨out,rfl⟩:=Zb0 h
  rw[h]at ho
  rw[eval_ListComp]
  refine Zb1 (use:=none) hc k.sc k.hown k.hkeep (λx hx e=>by rw[k.sc.look x hx,e]) k.pi k.fs k.ins k.dis k.slt I hE M h ?_
  rintro D C s3 H3 cm3 vs I3 hD _ x3 M3 r3 ⟨mm,hm⟩ fC
  refine⟨mm,hm,λh' hs'=>?_⟩
  have I4:Inv X pins σ (upd H3 D (.lst vs)) { s3 with heap:=h' }:=I3.turned (t':=s3.toks) (it:=C) (λb o hb e=>(hs'.2 b hb).trans e) fC.1 fC.2.1 fC.2.2.2.1 fC.2.2.2.2.1 fC.2.2.2.2.2
  exact⟨.ref D,_,I4,rfl,OkR.to ho (x3.trans (.new hD)) (M3.new hD) _ (RT.newLst M3 r3 hD)⟩
end
section
variable{K:Frag}{cm:List Addr}{m:Mem}{H:Hp}{xr:XR}{X:Cx}{call:Nat->List W->Mem->Res W}{gv:List T}
theorem RTs.nil_iff{ts:List T}{vs:List V}(h:RTs K cm m H ts vs):(!ts.isEmpty)=!vs.isEmpty:=by cases h<;>rfl
theorem tru_of{w:W}{v:V}{t:T}(M:MemR K cm m H)(r:RW K cm m H w v)(e:view w m=some t)(f:fitT t=true):TruV K v H (ZcS t):=by
 have hz:=ZD
 cases t with
 |lst ts =>
  obtain⟨a,vs,rfl,h1,h2⟩:=Zz M r e
  exact .inl ⟨vs,.of h1,h2.nil_iff⟩
 |non=>cases(Ze r e (λ_ z=>by cases z)).vnon;exact rfl
 |bl b=>cases(Ze r e (λ_ z=>by cases z)).vbl;exact rfl
 |int i=>cases(Ze r e (λ_ z=>by cases z)).vint;exact rfl
 |str cs =>
  cases(Ze r e (λ_ z=>by cases z)).vstr
  have hl:cs.length<=lim:=of_decide_eq_true f
  refine⟨by rw[JB];omega,?_⟩
  rw[JB]
  cases cs with
  |nil=>rfl
  |cons c cs =>
   show true=_
   symm
   simp
   omega
 |tup ts =>
  obtain⟨a,vs,rfl,h1,h2⟩:=(Ze r e (λ_ z=>by cases z)).itup
  exact .inr (.inl ⟨vs,h1,h2.nil_iff⟩)
 |dct ks ts =>
  have h:=Ze r e (λ_ z=>by cases z)
  cases h with
  |@dct a ks ts vs h1 h2 h3 h4 h5 =>
   refine .inr (.inr ⟨_,h1,?_⟩)
   cases ks with
   |nil=>rfl
   |cons k ks =>
    cases vs with
    |nil=>simp at h3
    |cons v vs=>rfl
 |scr ns =>
  obtain⟨a,rfl,h1⟩:=(Ze r e (λ_ z=>by cases z)).vscr
  exact .inl ⟨_,h1.sq,by cases ns<;>rfl⟩
theorem Zev{w:W}{k:Bool->List Addr->Mem->Hp->Prop}(h:OkR K (ZZ w m) xr cm m H k):∃t,view w m=some t/\fitT t=true/\OkR K (.ok (ZcS t) m) xr cm m H k:=by
 unfold ZZ at h
 split at h
 ·split at h
  ·exact⟨_,‹_›,‹_›,h⟩
  ·exact h.elim
 ·exact h.elim
theorem pt_of{e:Expr}{a:E}(h:PE X e (tE X.K call gv xr a))(he:∀whole,isTrue e X.env whole=(do let v <-whole;standAt e.pos;holding [v] (truthy v))):PT X e (tT X.K call gv xr a):=by
 refine PT.mono (ZgG h he) λσ H Q ⟨env,cm,m,hE,M,ho⟩=>⟨env,cm,m,hE,M,ho.bind.mono λw cm1 m1 H1 x1 M1 o1 v rv=>?_⟩
 obtain⟨t,e1,f1,o2⟩:=Zev o1
 exact⟨ZcS t,tru_of M1 rv e1 f1,OkR.now o2 M1⟩
theorem Zcg{a:E}{σ:L2.St}{H:Hp}{env:Env}{cm:List Addr}{m:Mem}{f:Bool->Mem->Res W}{Q:Bool->Hp->Prop}(hE:EnvR K cm m H env σ)(M:MemR K cm m H)(ho:OkR K (((ev call gv a env m).bind λx m=>(Zeg x m).bind f).bind ZZ) xr cm m H λk _ _ H'=>Q k H'):
  tT K call gv xr a σ H λc H1=>∃cm1 m1,Ext cm m H cm1 m1 H1/\MemR K cm1 m1 H1/\OkR K ((f c m1).bind ZZ) xr cm1 m1 H1 λk _ _ H'=>Q k H':=by
 refine⟨env,cm,m,hE,M,?_⟩
 cases h:ev call gv a env m with
 |stuck=>rw[h]at ho;exact ho.elim
 |exc e m'=>rw[h]at ho;exact ho
 |ok w m1 =>
  rw[h]at ho
  have ho':OkR K (((Zeg w m1).bind f).bind ZZ) xr cm m H λk _ _ H'=>Q k H':=ho
  cases w with
  |f a=>exact ho'.elim
  |x _ _ _=>exact ho'.elim
  |c i=>exact ho'.elim
  |t x =>
   cases x with
   |bl b=>exact λcm1 H1 x1 M1=>⟨cm1,m1,x1,M1,OkR.shift ho' x1⟩
   |_=>exact ho'.elim
theorem ZiD{a b:Expr}{rest:List Expr}{pos:Pos}{ea eb:E}(ha:PT X a (tT X.K call gv xr ea))(hb:PW X (.BoolOp .And (b::rest) pos) (tT X.K call gv xr eb)):PW X (.BoolOp .And (a::b::rest) pos) (tT X.K call gv xr (.and ea eb)):=by
 rintro whole pins s σ H Q I ⟨env,cm,m,hE,M,ho⟩
 unfold ev at ho
 obtain⟨env',cm',m',hE',M',ho'⟩:=Zcg hE M ho
 refine pw_and ha hb whole pins s σ H Q I ⟨env',cm',m',hE',M',ho'.mono λc cm1 m1 H1 _ _ ⟨cm2,m2,x2,M2,o2⟩=>?_⟩
 cases c with
 |true=>exact iteT ⟨env,cm2,m2,hE.ext x2 M M2,M2,o2⟩
 |false=>exact iteF (OkR.now (show OkR X.K (.ok false m2) xr cm2 m2 H1 _ from o2) M2)
theorem pw_orW{a b:Expr}{rest:List Expr}{pos:Pos}{ea eb:E}(ha:PT X a (tT X.K call gv xr ea))(hb:PW X (.BoolOp .Or (b::rest) pos) (tT X.K call gv xr eb)):PW X (.BoolOp .Or (a::b::rest) pos) (tT X.K call gv xr (.or ea eb)):=by
 rintro whole pins s σ H Q I ⟨env,cm,m,hE,M,ho⟩
 unfold ev at ho
 obtain⟨env',cm',m',hE',M',ho'⟩:=Zcg hE M ho
 refine pw_or ha hb whole pins s σ H Q I ⟨env',cm',m',hE',M',ho'.mono λc cm1 m1 H1 _ _ ⟨cm2,m2,x2,M2,o2⟩=>?_⟩
 cases c with
 |true=>exact iteT (OkR.now (show OkR X.K (.ok true m2) xr cm2 m2 H1 _ from o2) M2)
 |false=>exact iteF ⟨env,cm2,m2,hE.ext x2 M M2,M2,o2⟩
theorem ZiF{a:Expr}{pos:Pos}{ea:E}(ha:PT X a (tT X.K call gv xr ea)):PT X (.UnaryOp .Not a pos) (tT X.K call gv xr (.not ea)):=by
 refine PT.mono (pt_not ha) ?_
 rintro σ H Q ⟨env,cm,m,hE,M,ho⟩
 unfold ev at ho
 obtain⟨env',cm',m',hE',M',ho'⟩:=Zcg hE M ho
 exact⟨env',cm',m',hE',M',ho'.mono λc cm1 m1 H1 _ _ ⟨cm2,m2,x2,M2,o2⟩=>OkR.now (show OkR X.K (.ok (!c) m2) xr cm2 m2 H1 _ from o2) M2⟩
end
end Mi
namespace Mi
open PySem PySem.Spec PyProof.Rows L2
open Builtin
theorem XH:fillsNumberSlot (.type "tuple") "mul" = pure false:=
 PySem.fillsNumberSlot_seq (id:="tuple.__mul__") (r:=some (.builtin "tuple.__rmul__")) F.slot_tuple_mul.lookup (by decide +kernel) F.slot_tuple_rmul.lookup (by decide +kernel)
theorem ZbE:seqRepeat? (.type "tuple")=pure (some (.builtin "tuple.__mul__")):=by
 unfold seqRepeat?
 rw[PySem.seqSlot_of (T:="tuple") (name:="__mul__") (id:="tuple.__mul__") F.slot_tuple_mul.lookup (by decide +kernel),PySem.seqSlot_of (T:="tuple") (name:="__rmul__") (id:="tuple.__rmul__") F.slot_tuple_rmul.lookup (by decide +kernel)]
 rfl
theorem Zdz(a:Int)(t:Tok)(l:Addr)(items:Array Value)(n:Nat)(dd:Option Addr)(sl:Array (Option Value)):
  Meets (Builtin.«int.__rmul__» ⟨[.int a t,.ref l],[]⟩) (λ_ R s=>s.heap.get? l=some { cls:=.type "tuple",dict:=dd,data:=.seq items n,slots:=sl }/\R (.ok (.ret Value.notImplemented)) s):=
 .of_wp λprog w A R s h=>by obtain⟨hp,g,d,tk,os⟩:=s;obtain⟨hl,h⟩:=h;wp_walk;exact⟨_,rfl,h⟩
theorem tmul0(l:Addr)(items:Array Value)(n:Nat)(dd:Option Addr)(sl:Array (Option Value))(k:Int)(u:Tok)(h1:(decide (k < -(2^63)) || decide (k ≥ 2^63))=false)(hc:(items.isEmpty || k==1)=true):
  Meets (Builtin.«tuple.__mul__» ⟨[.ref l,.int k u],[]⟩) (λ_ R s=>s.heap.get? l=some { cls:=.type "tuple",dict:=dd,data:=.seq items n,slots:=sl }/\R (.ok (.ret (Value.ref l))) s):=
 .of_wp λprog w A R s h=>by obtain⟨hp,g,d,tk,os⟩:=s;obtain⟨hl,h⟩:=h;have f1:=AutoSeq1.idx_int;have f2:=AutoSeq1.sub_tuple_tuple;wp_walk;refine wpAny_ite_false (decide_eq_false (Bool.eq_false_iff.mp h1)) ?_;wp_walk using wpAny_loadPart' hl;exact⟨_,rfl,h⟩
theorem tmul1(l:Addr)(items:Array Value)(n:Nat)(dd:Option Addr)(sl:Array (Option Value))(k:Int)(u:Tok)(h1:(decide (k < -(2^63)) || decide (k ≥ 2^63))=false)(hc:¬(items.isEmpty || k==1)=true)(hc1:(decide (k<=0) || items.isEmpty)=true):
  Meets (Builtin.«tuple.__mul__» ⟨[.ref l,.int k u],[]⟩) (λ_ R s=>s.heap.get? l=some { cls:=.type "tuple",dict:=dd,data:=.seq items n,slots:=sl }/\R (.ok (.ret (Value.ref s.heap.objs.size))) { s with heap:=s.heap.push { cls:=Value.type "tuple",data:=Data.seq #[] },toks:=s.toks }):=
 .of_wp λprog w A R s h=>by obtain⟨hp,g,d,tk,os⟩:=s;obtain⟨hl,h⟩:=h;have f1:=AutoSeq1.idx_int;have f2:=AutoSeq1.sub_tuple_tuple;wp_walk;refine wpAny_ite_false (decide_eq_false (Bool.eq_false_iff.mp h1)) ?_;wp_walk using wpAny_loadPart' hl;exact⟨_,rfl,h⟩
theorem tmul2(l:Addr)(items:Array Value)(n:Nat)(dd:Option Addr)(sl:Array (Option Value))(k:Int)(u:Tok)(h1:(decide (k < -(2^63)) || decide (k ≥ 2^63))=false)(hc:¬(items.isEmpty || k==1)=true)(hc1:¬(decide (k<=0) || items.isEmpty)=true)(hc2:¬(items.size:Int)*k>(2^63-1) / 8)(hc3:¬Tuple.tupleTooMany ((items.size:Int)*k)=true)(hz:(List.foldl (λx1 x2=>x1++x2) #[] (List.replicate k.toNat items)).size<=sizeLine):
  Meets (Builtin.«tuple.__mul__» ⟨[.ref l,.int k u],[]⟩) (λ_ R s=>s.heap.get? l=some { cls:=.type "tuple",dict:=dd,data:=.seq items n,slots:=sl }/\R (.ok (.ret (Value.ref s.heap.objs.size))) { s with heap:=s.heap.push { cls:=Value.type "tuple",data:=Data.seq (List.foldl (λx1 x2=>x1++x2) #[] (List.replicate k.toNat items)) },toks:=s.toks }):=
 .of_wp λprog w A R s h=>by obtain⟨hp,g,d,tk,os⟩:=s;obtain⟨hl,h⟩:=h;have f1:=AutoSeq1.idx_int;have f2:=AutoSeq1.sub_tuple_tuple;wp_walk;refine wpAny_ite_false (decide_eq_false (Bool.eq_false_iff.mp h1)) ?_;wp_walk using wpAny_loadPart' hl;refine wpAny_ite_false (decide_eq_false hc2) ?_;wp_walk using wpAny_loadPart' hl;exact⟨_,rfl,h⟩
section
variable{X:Cx}
theorem Zdv{n:Nat}(h:n<=sizeLine):¬Tuple.tupleTooMany (n:Int)=true:=by
 unfold Tuple.tupleTooMany
 intro hc
 have:=of_decide_eq_true hc
 have e:=sizeLine_eq
 omega
theorem Zjb:OpR X (binaryOp .Mult) (λx y H Q=>∃l k xs,x=.ref l/\y=.int k/\SqT X.K H l xs/\(-(2^63)<=k/\k<2^63)/\xs.length*k.toNat<=sizeLine/\((xs=[]∨k=1)->Q (.ref l) H) /\
  (¬(xs=[]∨k=1)->∀p,H p=none->Q (.ref p) (upd H p (.tup (List.replicate k.toNat xs).flatten)))):=by
 intro pins s σ H x y v u Q I rx ry h
 obtain⟨l,k,xs,rfl,rfl,hH,⟨h1,h2⟩,hz,q1,q2⟩:=h
 cases rx
 obtain⟨t,rfl⟩:=ry
 obtain⟨its,r,⟨⟨cls,dd,data,sl⟩,ho,hc,n,hd⟩,hz2⟩:=I.tuple hH
 simp only at hc hd
 subst hc hd
 have hl:=r.length
 have g1:(decide (k < -(2^63)) || decide (k ≥ 2^63))=false:=by
  rw[decide_eq_false (by omega),decide_eq_false (by omega)];rfl
 have road:∀{Q':Value->Shared->Prop},wpAny (model X.prog X.w) X.A (call (.builtin "tuple.__mul__") [.ref l,.int k t]) Q' X.xe s->wpAny (model X.prog X.w) X.A (binaryOp .Mult (.ref l) (.int k t)) Q' X.xe s:=λhq =>
  wpAny_binaryOp_repeat_ref (T:="tuple") (U:="int") (by decide) ⟨_,ho,rfl⟩ (λs'=>typeIs_int s' k t) XH F.fills_int_mul F.slot_int_rmul ZbE F.slot_int_index.lookup
   (call_meets F.slot_int_rmul (typeIs_int s k t) F.entry_int_rmul (F.args_int_rmul_2 _ _) (Zdz k t l its.toArray n dd sl) ⟨ho,rfl,⟨_,ho,rfl⟩,hq⟩)
 refine road ?_
 by_cases hc:xs=[]∨k=1
 ·have g2:(its.toArray.isEmpty || k==1)=true:=by
   rcases hc with rfl|rfl
   ·cases r;rfl
   ·simp
  exact call_meets F.slot_tuple_mul ⟨_,ho,rfl⟩ F.entry_tuple_mul (F.args_tuple_mul_2 _ _) (tmul0 l its.toArray n dd sl k t g1 g2) ⟨ho,.ref l,H,I,rfl,q1 hc⟩
 ·have hne:its≠[]:=λe=>hc (.inl (r.nil_iff.mp e))
  have g2:¬(its.toArray.isEmpty || k==1)=true:=by
   intro hh
   rw[Bool.or_eq_true]at hh
   rcases hh with hh|hh
   ·exact hne (by simpa using hh)
   ·exact hc (.inr (eq_of_beq hh))
  have fin:∀arr:Array Value,arr=(List.replicate k.toNat its).flatten.toArray->EP X pins σ Q (.ref s.heap.objs.size) { s with heap:=s.heap.push { cls:=.type "tuple",data:=.seq arr } }:=λarr e=>by
   subst e
   refine⟨.ref s.heap.objs.size,_,I.laid (t':=s.toks) (o:=.tup (List.replicate k.toNat xs).flatten) (λb ob q=>Heap.get?_push_of_some _ q) (Nat.le_refl _) ?_,rfl,q2 hc _ (I.hok.fresh (Nat.le_refl _))⟩
   exact⟨by rw[len_rep,Nat.mul_comm];exact hz,_,r.rep k.toNat,TupP.new _ _⟩
  by_cases h0:k<=0
  ·have g3:(decide (k<=0) || its.toArray.isEmpty)=true:=by rw[decide_eq_true h0];rfl
   refine call_meets F.slot_tuple_mul ⟨_,ho,rfl⟩ F.entry_tuple_mul (F.args_tuple_mul_2 _ _) (tmul1 l its.toArray n dd sl k t g1 g2 g3) ⟨ho,fin #[] ?_⟩
   have:k.toNat=0:=by omega
   rw[this];rfl
  ·have g3:¬(decide (k<=0) || its.toArray.isEmpty)=true:=by
    intro hh
    rw[Bool.or_eq_true]at hh
    rcases hh with hh|hh
    ·exact h0 (of_decide_eq_true hh)
    ·exact hne (by simpa using hh)
   have hk:(k.toNat:Int)=k:=by omega
   have hs:(its.toArray.size:Int)*k=((xs.length*k.toNat:Nat):Int):=by
    rw[List.size_toArray,<-hl,Int.natCast_mul,hk]
   have hsl:(sizeLine:Nat)=16777216:=sizeLine_eq
   have hf:List.foldl (λx1 x2=>x1++x2) #[] (List.replicate k.toNat its.toArray)=(List.replicate k.toNat its).flatten.toArray:=by
    have:=foldl_rep its k.toNat []
    rw[List.nil_append]at this
    exact this
   refine call_meets F.slot_tuple_mul ⟨_,ho,rfl⟩ F.entry_tuple_mul (F.args_tuple_mul_2 _ _) (tmul2 l its.toArray n dd sl k t g1 g2 g3 (by rw[hs];omega) (by rw[hs];exact Zdv hz) ?_) ⟨ho,fin _ hf⟩
   rw[hf,List.size_toArray,len_rep,<-hl,Nat.mul_comm]
   exact hz
end
end Mi
namespace Mi
open PySem PySem.Spec PyProof.Rows L2
section
variable{K:Frag}{cm:List Addr}{m:Mem}{H:Hp}{xr:XR}{X:Cx}{call:Nat->List W->Mem->Res W}{gv:List T}
theorem ZiR{i:Nat}{x:Str}{pos:Pos}(hN:X.N[i]?=some x)(hv:Vis X.env.scope x)(hd:(x==("__debug__" : Str))=false)(hcd:(x==("__classdict__" : Str))=false):PE X (.Name x pos) (tE X.K call gv xr (.var i)):=by
 refine PE.mono (pe_var hN hv hd hcd) ?_
 rintro σ H Q ⟨env,cm,m,hE,M,ho⟩
 unfold ev at ho
 split at ho
 ·rename_i w e
  obtain⟨v,h1,h2⟩:=hE i w e
  exact⟨v,h1,OkR.now ho M v h2⟩
 ·exact ho.elim
theorem Zi0{i:Int}{j pos}:PE X (.Constant (.int i) j pos) (tE X.K call gv xr (.con (.int i))):=PE.mono pe_int λσ H Q ⟨env,cm,m,hE,M,ho⟩=>by
 unfold ev at ho
 exact OkR.now ho M _ (.int i)
theorem pe_blW{b:Bool}{j pos}:PE X (.Constant (.bool b) j pos) (tE X.K call gv xr (.con (.bl b))):=PE.mono pe_bl λσ H Q ⟨env,cm,m,hE,M,ho⟩=>by
 unfold ev at ho
 exact OkR.now ho M _ (.bl b)
theorem str_of{x:Str}{cs:List Nat}(h:x.cps.toList=cs):x=⟨cs.toArray⟩:=by
 subst h
 cases x
 simp
theorem ZiT{x:Str}{cs:List Nat}{j pos}(h:x.cps.toList=cs):PE X (.Constant (.str x) j pos) (tE X.K call gv xr (.con (.str cs))):=PE.mono ZhY λσ H Q ⟨env,cm,m,hE,M,ho⟩=>by
 unfold ev at ho
 have:=OkR.now ho M _ (.str cs)
 rw[str_of h]
 exact this
theorem Zdh(cs:List Nat):∀(n:Nat) (acc:Array Nat),(List.replicate n cs.toArray).foldl (·++·) acc=acc++(List.replicate n cs).flatten.toArray
 |0,acc=>by simp
 |n+1,acc=>by
  rw[List.replicate_succ,List.foldl_cons,Zdh cs n,List.replicate_succ,List.flatten_cons]
  apply Array.toList_inj.mp
  simp
theorem Zg9{cs:List Nat}{k:Int}(h:0<=k):Txt.mul ⟨cs.toArray⟩ k=⟨(repT cs k.toNat).toArray⟩:=by
 unfold Txt.mul repT
 by_cases h1:k<1
 ·have:k=0:=by omega
  subst this
  rw[if_pos h1]
  rfl
 ·rw[if_neg h1]
  by_cases h2:(k==1 || (⟨cs.toArray⟩:Str).length==0)=true
  ·rw[if_pos h2]
   rcases Bool.or_eq_true _ _▸h2 with h3|h3
   ·have:k=1:=eq_of_beq h3
    subst this
    simp
   ·have hl:cs.toArray.size=0:=eq_of_beq h3
    have:cs=[]:=by simpa using hl
    subst this
    simp
  ·rw[if_neg h2,Zdh]
   simp
theorem mul_fits{cs:List Nat}{k:Int}(h:0<=k/\k<=64)(hl:cs.length<=1000):MulOk ⟨cs.toArray⟩ k:=by
 have e:(⟨cs.toArray⟩:Str).length=cs.length:=by show cs.toArray.size=_;simp
 have hk:k.toNat<=64:=by omega
 have hm:cs.length*k.toNat<=1000*64:=Nat.mul_le_mul hl hk
 refine⟨?_,λh1 _=>?_,λh1 _=>?_⟩
 ·have a:¬k < -(2^63:Int):=by omega
  have b:¬k ≥ (2^63:Int):=by omega
  simp only[a,b,decide_false,Bool.or_self]
 ·rw[e]
  have:(1000:Int)<=(2^63-1) / k:=(Int.le_ediv_iff_mul_le (by omega)).mpr (by omega)
  omega
 ·rw[e]
  unfold Builtin.Str.tooLong
  have:=ZD
  unfold lim at this
  exact decide_eq_false (by omega)
theorem ZdN:OpR X (binaryOp .Mult) (r2 X.K xr (fBin .Mult)):=by
 rintro pins s σ H x y v u Q I rx ry ⟨cm,m,a,b,M,ra,rb,ho⟩
 obtain⟨t,e,ho⟩:=Qo ho
 obtain⟨ta,tb,ea,eb,e⟩:=Zbq e
 change mulT ta tb=some t at e
 unfold mulT at e
 split at e
 rotate_left
 ·cases e
 rename_i k
 split at e
 ·split at e<;>cases e
  cases(Ze ra ea (λ_ z=>by cases z)).vint
  cases(Ze rb eb (λ_ z=>by cases z)).vint
  exact Zje pins s σ H _ _ v u Q I rx ry ⟨_,_,rfl,rfl,‹_›,ans ho M (.int _)⟩
 ·split at e<;>cases e
  rename_i ts hc
  obtain⟨p,vs,rfl,h1,r1⟩:=(Ze ra ea (λ_ z=>by cases z)).itup
  cases(Ze rb eb (λ_ z=>by cases z)).vint
  have l1:=r1.length
  have hz:=ZD
  have hl:(lim:Int)<2^63:=by unfold lim;decide
  refine Zjb pins s σ H _ _ v u Q I rx ry ⟨p,_,vs,rfl,rfl,h1,by omega,by rw[<-l1];omega,λhq=>?_,λ_ l hl=>Za0 ho M (Xc r1 _) hl⟩
  have e:repT ts k.toNat=ts:=by
   rcases hq with rfl|rfl
   ·cases r1;simp[repT]
   ·simp[repT]
  rw[e]at ho
  exact ans ho M (.mtup h1 r1)
 ·split at e<;>cases e
  rename_i hc
  obtain⟨p,vs,rfl,h1,r1⟩:=Zz M ra ea
  cases(Ze rb eb (λ_ z=>by cases z)).vint
  have l1:=r1.length
  have hz:=ZD
  have hl:(lim:Int)<2^63:=by unfold lim;decide
  exact op_rep pins s σ H _ _ v u Q I rx ry ⟨p,_,vs,rfl,rfl,h1,by omega,by omega,by rw[<-l1];omega,λl hl=>XD ho M (Xc r1 _) hl⟩
 ·split at e<;>cases e
  rename_i cs hc
  cases(Ze ra ea (λ_ z=>by cases z)).vstr
  cases(Ze rb eb (λ_ z=>by cases z)).vint
  obtain⟨tx,rfl⟩:=rx
  obtain⟨ty,rfl⟩:=ry
  refine SB.mul (mul_fits hc.1 hc.2) λt' k'=>⟨.str ⟨(repT cs k.toNat).toArray⟩,H,I.tok _,⟨t',?_⟩,ans ho M (.str _)⟩
  rw[Zg9 hc.1.1]
 all_goals cases e
theorem op_no{op:Operator}(h:∀x y,binT op x y=none):OpR X (binaryOp op) (r2 X.K xr (fBin op)):=by
 rintro pins s σ H x y v u Q I rx ry ⟨cm,m,a,b,M,ra,rb,ho⟩
 obtain⟨t,e,ho⟩:=Qo ho
 obtain⟨ta,tb,ea,eb,e⟩:=Zbq e
 rw[h]at e
 cases e
theorem op_bin(op:Operator):OpR X (binaryOp op) (r2 X.K xr (fBin op)):=by
 cases op<;>first|exact ZdP|exact ZdL|exact ZdN|exact Zcr|exact ZdO|exact ZdM|exact op_no λx y=>by cases x<;>cases y<;>rfl
variable{a b c:Expr}{ea eb ec:E}{pos:Pos}
theorem Zi9{op:Operator}(ha:PE X a (tE X.K call gv xr ea))(hb:PE X b (tE X.K call gv xr eb)):PE X (.BinOp a op b pos) (tE X.K call gv xr (.bin op ea eb)):=
 PE.mono (pe_op (op_bin op) ha hb) (Zew λenv m=>by rw[ev];rfl)
noncomputable def fNeg(x:W)(m:Mem):Res W:=pur ((view x m).bind λx=>match x with
 |.int i=>some (.int (-i))
 |_=>none) m
theorem Zio:UnR X (unaryOp .USub) (r1 X.K xr fNeg):=by
 rintro pins s σ H x v Q I rx ⟨cm,m,a,M,ra,ho⟩
 obtain⟨t,e,ho⟩:=Qo ho
 cases q:view a m with
 |none=>rw[q]at e;cases e
 |some ta =>
  rw[q]at e
  cases ta with
  |int i =>
   cases e
   cases(Ze ra q (λ_ z=>by cases z)).vint
   exact un_neg pins s σ H _ v Q I rx ⟨_,rfl,ans ho M (.int _)⟩
  |_=>cases e
theorem ZiV(ha:PE X a (tE X.K call gv xr ea)):PE X (.UnaryOp .USub a pos) (tE X.K call gv xr (.neg ea)):=
 PE.mono (pe_un Zio ha) (t1_of λenv m=>by rw[ev];rfl)
theorem Zi3{op:CmpOp}(ha:PE X a (tE X.K call gv xr ea))(hb:PE X b (tE X.K call gv xr eb))(hm:behindInMarks op b=false)(hu:X.A.units+64<cLine):PE X (.Compare a [op] [b] pos) (tE X.K call gv xr (.cmp op ea eb)):=
 PE.mono (Zi4 (ZhZ hu op) ha hb hm) (Zew λenv m=>by rw[ev];rfl)
theorem ZjL{op:CmpOp}{x y w:W}{m m':Mem}(h:fCmp op x y m=.ok w m'):∃k,w=.t (.bl k)/\m'=m:=by
 unfold fCmp at h
 cases q:((view x m).bind λx=>(view y m).bind λy=>cmpT op x y)with
 |none=>rw[q]at h;cases h
 |some k=>rw[q]at h;cases h;exact⟨k,rfl,rfl⟩
theorem ZiI{f:Env->Mem->Res W}{e:Expr}{te:TE}{a:E}(h:PT X e (tTest te))(hk:∀env m w m',ev call gv a env m=.ok w m'->∃k,w=.t (.bl k))(he:∀σ H Q,tE X.K call gv xr a σ H Q->te σ H Q):PT X e (tT X.K call gv xr a):=by
 refine PT.mono h λσ H Q ⟨env,cm,m,hE,M,ho⟩=>he σ H _ ⟨env,cm,m,hE,M,?_⟩
 cases q:ev call gv a env m with
 |stuck=>rw[q]at ho;exact ho.elim
 |exc e m'=>rw[q]at ho;exact ho
 |ok w m' =>
  obtain⟨k,rfl⟩:=hk env m w m' q
  rw[q]at ho
  intro cm1 H1 x1 M1 v rv
  cases RT.vbl rv
  exact⟨k,rfl,(show OkR X.K (.ok k m') xr cm m H _ from ho) cm1 H1 x1 M1⟩
theorem ZiG{op:CmpOp}(ha:PE X a (tE X.K call gv xr ea))(hb:PE X b (tE X.K call gv xr eb))(hm:behindInMarks op b=false)(hu:X.A.units+64<cLine):PT X (.Compare a [op] [b] pos) (tT X.K call gv xr (.cmp op ea eb)):=by
 refine ZiI (f:=λ_ _=>.stuck) (ZiH (ZhZ hu op) ha hb hm) (λenv m w m' h=>?_) (Zew λenv m=>by rw[ev];rfl)
 rw[ev]at h
 obtain⟨x,m1,_,h⟩:=Zq h
 obtain⟨y,m2,_,h⟩:=Zq h
 obtain⟨k,hk,_⟩:=ZjL h
 exact⟨k,hk⟩
theorem pe_ixW(ha:PE X a (tE X.K call gv xr ea))(hb:PE X b (tE X.K call gv xr eb))(hs:Zgh b):PE X (.Subscript a b pos) (tE X.K call gv xr (.ix ea eb)):=
 PE.mono (pe_ix ix_ix ha hb hs) (Zew λenv m=>by rw[ev];rfl)
end
section
variable{K:Frag}{cm:List Addr}{m:Mem}{H:Hp}{xr:XR}{X:Cx}{call:Nat->List W->Mem->Res W}{gv:List T}
variable{a b c e:Expr}{es:List Expr}{ea eb ec:E}{eas:Es}{pos p:Pos}
noncomputable def notStar:Expr->Bool
 |.Starred _ _=>false
 |_=>true
theorem Qn{env:PySem.Env}(h:notStar e=true):starEach (e::es) env=(false,eval e env)::starEach es env:=by
 cases e<;>first|rfl|cases h
theorem ZcV{env:PySem.Env}:∀{es:List Expr},es.all notStar=true->(backTo pos (starEach es env)).all (λx=>!x.1)=true
 |[],_=>rfl
 |e::es,h=>by
  rw[List.all_cons,Bool.and_eq_true]at h
  rw[Qn h.1]
  show(!false&&(backTo pos (starEach es env)).all (λx=>!x.1))=true
  rw[ZcV h.2]
  rfl
theorem Xl{env:PySem.Env}{es:List Expr}(h:es.all notStar=true):(backTo pos (starEach es env)).any (·.1)=false:=by
 have h1:=ZcV (pos:=pos) (env:=env) h
 rw[List.any_eq_false]
 intro x hx
 have:=List.all_eq_true.mp h1 x hx
 simpa using this
theorem Zja:PA X [] (tA X.K call gv xr .nil):=PA.mono Ze6 λσ H Q ⟨env,cm,m,hE,M,ho⟩=>by
 rw[evs]at ho
 exact OkR.now ho M [] .nil
theorem Zg6(ha:PE X e (tE X.K call gv xr ea))(hr:PA X es (tA X.K call gv xr eas))(hs:notStar e=true):PA X (e::es) (tA X.K call gv xr (.cons ea eas)):=by
 refine PA.mono (Zbi ha hr (Qn hs)) ?_
 rintro σ H Q ⟨env,cm,m,hE,M,ho⟩
 rw[evs]at ho
 refine⟨env,cm,m,hE,M,ho.bind.mono λw cm1 m1 H1 x1 M1 o1 v rv=>?_⟩
 exact⟨env,cm1,m1,hE.ext x1 M M1,M1,o1.bind.mono λws cm2 m2 H2 x2 M2 o2 vs rvs=>OkR.now o2 M2 (v::vs) (.cons (rv.ext x2 M1 M2) rvs)⟩
theorem ZbY{w:W}{m m':Mem}{x:Exc}:frz w m≠.exc x m':=by
 intro h
 unfold frz at h
 split at h
 ·cases h
 ·cases h
 ·cases h
 ·split at h<;>cases h
theorem Xg:∀{ws:List W}{m m':Mem}{x:Exc},frzs ws m≠.exc x m'
 |[],_,_,_=>λh=>by cases h
 |w::ws,m,m',x=>λh=>by
  rw[frzs]at h
  cases q:frz w m with
  |stuck=>rw[q]at h;cases h
  |exc y m1=>exact ZbY q
  |ok t m1 =>
   rw[q]at h
   have h':((frzs ws m1).bind λts m=>Res.ok (t::ts) m)=.exc x m':=h
   cases q2:frzs ws m1 with
   |stuck=>rw[q2]at h';cases h'
   |exc y m2=>exact Xg q2
   |ok ts m2=>rw[q2]at h';cases h'
theorem Jd:∀{ws:List W}{vs:List V}{ts:List T}{m m':Mem},MemR K cm m H->RWs K cm m H ws vs->frzs ws m=.ok ts m'->Ext cm m H cm m' H/\MemR K cm m' H/\RTs K cm m' H ts vs
 |[],_,_,_,_,M,.nil,e=>by cases e;exact⟨.refl,M,.nil⟩
 |w::ws,v::vs,ts,m,m',M,.cons r rs,e=>by
  rw[frzs]at e
  obtain⟨t,m1,e1,e⟩:=Zq e
  obtain⟨us,m2,e2,e⟩:=Zq e
  cases e
  obtain⟨x1,M1,r1⟩:=ZfM M r e1
  obtain⟨x2,M2,r2⟩:=Jd M1 (RWs.ext x1 M M1 rs) e2
  exact⟨x1.trans x2,M2,.cons (RT.ext x2 M1 M2 r1) r2⟩
theorem Jp{α:Type}{ws:List W}{f:List T->Mem->Res α}{k:α->List Addr->Mem->Hp->Prop}(h:OkR K ((frzs ws m).bind f) xr cm m H k):∃ts m',frzs ws m=.ok ts m'/\OkR K (f ts m') xr cm m H k:=by
 cases q:frzs ws m with
 |stuck=>rw[q]at h;exact h.elim
 |exc x m'=>exact absurd q Xg
 |ok ts m'=>rw[q]at h;exact⟨ts,m',rfl,h⟩
theorem Xw{α:Type}{c:Prop}[Decidable c]{r:Res α}{k:α->List Addr->Mem->Hp->Prop}(h:OkR K (if c then r else .stuck) xr cm m H k):c/\OkR K r xr cm m H k:=by
 by_cases hc:c
 ·rw[if_pos hc]at h;exact⟨hc,h⟩
 ·rw[if_neg hc]at h;exact h.elim
theorem ZiS{x1}(h:PA X es (tA X.K call gv xr eas)):PE X (.Tuple es x1 pos) (tE X.K call gv xr (.tup eas)):=by
 refine PE.mono (pe_tup h) ?_
 rintro σ H Q ⟨env,cm,m,hE,M,ho⟩
 rw[ev]at ho
 refine⟨env,cm,m,hE,M,ho.bind.mono λws cm1 m1 H1 x1 M1 o1 vs rvs=>?_⟩
 obtain⟨ts,m2,e2,o2⟩:=Jp o1
 obtain⟨hl,o3⟩:=Xw o2
 obtain⟨x2,M2,r2⟩:=Jd M1 rvs e2
 have l2:=r2.length
 have hz:=ZD
 exact⟨by omega,λp hp=>Za0 (OkR.shift o3 x2) M2 r2 hp⟩
theorem ZiW(h:PA X es (tA X.K call gv xr eas)):PE X (.List es pos) (tE X.K call gv xr (.lst eas)):=by
 refine PE.mono (pe_lst h) ?_
 rintro σ H Q ⟨env,cm,m,hE,M,ho⟩
 rw[ev]at ho
 refine⟨env,cm,m,hE,M,ho.bind.mono λws cm1 m1 H1 x1 M1 o1 vs rvs=>?_⟩
 obtain⟨ts,m2,e2,o2⟩:=Jp o1
 obtain⟨hl,o3⟩:=Xw o2
 obtain⟨x2,M2,r2⟩:=Jd M1 rvs e2
 have l2:=r2.length
 have hz:=ZD
 exact⟨by omega,λp hp=>XD (OkR.shift o3 x2) M2 r2 hp⟩
noncomputable def tLstN(K:Frag)(t:TA):TE:=λσ H Q=>t σ H λxs H1=>xs.length<=sizeLine/\∀p,H1 p=none->K.lookup p=none->Q (.ref p) (upd H1 p (.lst xs))
theorem Inv.notK{pins:List (Addr×Obj)}{σ:L2.St}{H:Hp}{s:Shared}(I:Inv X pins σ H s):X.K.lookup s.heap.objs.size=none:=by
 cases q:X.K.lookup s.heap.objs.size with
 |none=>rfl
 |some o=>exact absurd (Heap.lt_size (I.kIn _ _ q)) (Nat.lt_irrefl _)
theorem ZiX{t:TA}(h:PA X es t):PE X (.List es pos) (tLstN X.K t):=by
 intro pins s σ H Q I hq
 refine wpAny_List_spliced (thn (h pos pins s σ H _ I hq) λus s1 ⟨xs,H1,I1,r,z,q⟩=>⟨by rw[<-r.length];exact z,?_⟩)
 have hf:H1 s1.heap.objs.size=none:=I1.hok.fresh (Nat.le_refl _)
 refine⟨.ref s1.heap.objs.size,upd H1 s1.heap.objs.size (.lst xs),I1.laid (t':=s1.toks) (λb u e=>Heap.get?_push_of_some _ e) (Nat.le_refl _) ?_,rfl,q _ hf (Mi.Inv.notK I1)⟩
 exact⟨z,us,0,r,Heap.get?_push_size _ rfl⟩
theorem Zi5(h:PA X es (tA X.K call gv xr eas)):PE X (.List es pos) (tE X.K call gv xr (.cel eas)):=by
 refine PE.mono (ZiX h) ?_
 rintro σ H Q ⟨env,cm,m,hE,M,ho⟩
 rw[ev]at ho
 refine⟨env,cm,m,hE,M,ho.bind.mono λws cm1 m1 H1 x1 M1 o1 vs rvs=>?_⟩
 obtain⟨ts,m2,e2,o2⟩:=Jp o1
 obtain⟨hl,o3⟩:=Xw o2
 obtain⟨x2,M2,r2⟩:=Jd M1 rvs e2
 have l2:=r2.length
 have hz:=ZD
 refine⟨by omega,λp hp hk=>?_⟩
 obtain⟨x3,M3,r3⟩:=X6 M2 r2 hp hk
 exact OkR.to o3 (x2.trans x3) M3 _ r3
theorem Xz{α:Type}(xs:List α)(lo hi:Option Int):cut xs lo hi=(xs.drop (HT.sIx xs.length 0 lo)).take (HT.sIx xs.length xs.length hi-HT.sIx xs.length 0 lo):=by
 have e:∀n d o,ZfY n d o=HT.sIx n d o:=λn d o=>by cases o<;>rfl
 unfold cut
 rw[e,e]
theorem Xd{α β:Type}{F:α->β->Prop}{xs:List α}{ys:List β}(h:Paired F xs ys)(lo hi:Option Int):Paired F (cut xs lo hi) (cut ys lo hi):=by
 rw[Xz,Xz,<-h.length]
 exact QK _ (QL _ h)
theorem ZcC(xs:List V)(lo hi:Option Int):cutV xs lo hi=cut xs lo hi:=(Xz xs lo hi).symm
theorem ZgF(x y:Nat):sliceRange (x:Int) (y:Int) 1=(List.range (y-x)).map λk=>x+k:=by
 unfold sliceRange
 simp only[show((1:Int)>0)=True from by simp,if_true]
 by_cases h:(x:Int)<y
 ·have e3:(((y:Int)-x+1-1) / 1).toNat=y-x:=by first|omega|(simp;done)|(simp;omega)
  rw[if_pos h,e3]
  refine List.map_congr_left λk _=>?_
  omega
 ·have e3:y-x=0:=by omega
  rw[if_neg h,e3]
  rfl
theorem X4(n d:Nat)(v:Int):max 0 (min (if v<0 then v+n else v) (n:Int))=((HT.sIx n d (some v):Nat):Int):=by
 show max 0 (min (if v<0 then v+n else v) (n:Int))=(((if v<0 then(v+(n:Int)).toNat else min v.toNat n):Nat):Int)
 split<;>omega
theorem Zd2(lo hi:Option Int)(n:Nat):(Builtin.Str.strSliceIndices lo hi 1 n)=(List.range (HT.sIx n n hi-HT.sIx n 0 lo)).map λk=>HT.sIx n 0 lo+k:=by
 rw[<-ZgF]
 unfold Builtin.Str.strSliceIndices
 cases lo with
 |none =>
  cases hi with
  |none=>rfl
  |some j =>
   rw[<-X4]
   rfl
 |some i =>
  cases hi with
  |none =>
   rw[<-X4]
   rfl
  |some j =>
   rw[<-X4,<-X4]
   rfl
noncomputable def fSl(w:W)(lo hi:Option Int)(m:Mem):Res W:=pur ((view w m).bind λx=>slT x lo hi) m
noncomputable def rSl(K:Frag)(xr:XR):V->Option Int->Option Int->Hp->VK->Prop:=λx lo hi H Q=>∃cm m w,MemR K cm m H/\RW K cm m H w x/\OkR K (fSl w lo hi m) xr cm m H λw cm' m' H'=>∀v,RW K cm' m' H' w v->Q v H'
theorem ZeG{prog:Program}{w:World}{A:Around}{E:Value->Shared->Prop}{s:Shared}{cs:List Nat}{t:Tok}{sl:Addr}{vl vu:Value}{lo hi:Option Int}{Q:Value->Shared->Prop}(hs:s.heap.IsSliceOf sl vl vu .none)(pl:IsPart vl lo)(pu:IsPart vu hi)(hz:cs.length<=lim)(h:∀t' k,Q (.str ⟨(cut cs lo hi).toArray⟩ t') { s with toks:=k }):wpAny (model prog w) A (getItem (.str ⟨cs.toArray⟩ t) (.ref sl)) Q E s:=by
 have hl:=ZD
 obtain⟨l,e1,e2⟩:∃l:Option (Int×Tok),vl=partValue l/\l.map (·.1)=lo:=by
  cases pl with
  |none=>exact⟨none,rfl,rfl⟩
  |int i t=>exact⟨some (i,t),rfl,rfl⟩
 obtain⟨u,f1,f2⟩:∃l:Option (Int×Tok),vu=partValue l/\l.map (·.1)=hi:=by
  cases pu with
  |none=>exact⟨none,rfl,rfl⟩
  |int i t=>exact⟨some (i,t),rfl,rfl⟩
 subst e1 f1
 refine wpAny_getItem_str_slice (l:=l) (u:=u) (st:=none) hs (by rfl) ?_
 have pk:slicePicked ⟨cs.toArray⟩ l u none=(List.range (HT.sIx cs.length cs.length hi-HT.sIx cs.length 0 lo)).map λk=>HT.sIx cs.length 0 lo+k:=by
  unfold slicePicked
  rw[e2,f2,JB]
  exact Zd2 lo hi cs.length
 have hn:HT.sIx cs.length cs.length hi<=cs.length:=HT.sIx_le _ _ (Nat.le_refl _) hi
 have fm:((slicePicked ⟨cs.toArray⟩ l u none).filterMap ((⟨cs.toArray⟩:Str).cps[·]?))=cut cs lo hi:=by
  rw[pk,Xz]
  by_cases hle:HT.sIx cs.length 0 lo<=HT.sIx cs.length cs.length hi
  ·have:=StrLaws.picks cs (HT.sIx cs.length cs.length hi-HT.sIx cs.length 0 lo) (HT.sIx cs.length 0 lo) (by omega)
   rw[<-this]
   simp
  ·have:HT.sIx cs.length cs.length hi-HT.sIx cs.length 0 lo=0:=by omega
   rw[this]
   simp
 unfold sliceMade
 split
 ·rename_i hw
  rw[Bool.and_eq_true]at hw
  have q:(slicePicked ⟨cs.toArray⟩ l u none).length=cs.length:=by rw[eq_of_beq hw.2,JB]
  rw[pk,List.length_map,List.length_range]at q
  have e:cut cs lo hi=cs:=by
   rw[Xz]
   have:HT.sIx cs.length 0 lo=0∨cs.length=0:=by omega
   rcases this with h0|h0
   ·rw[h0]at q ⊢
    rw[List.drop_zero,q]
    exact List.take_length
   ·rw[List.length_eq_zero_iff]at h0
    subst h0
    simp
  have:=h t s.toks
  rw[e]at this
  exact this
 ·rw[fm]
  have hc:(cut cs lo hi).length<=cs.length:=by
   rw[Xz,List.length_take,List.length_drop];omega
  exact⟨by show(cut cs lo hi).toArray.size<=_;rw[List.size_toArray];omega,h _ _⟩
theorem Zeq{prog:Program}{w:World}{A:Around}{E:Value->Shared->Prop}{s:Shared}{t sl:Addr}{items:Array Value}{vl vu:Value}{lo hi:Option Int}{Q:Value->Shared->Prop}(ht:IsTup s.heap t items)(hs:s.heap.IsSliceOf sl vl vu .none)(pl:IsPart vl lo)(pu:IsPart vu hi)(hw:HT.sIx items.size 0 lo=0/\HT.sIx items.size items.size hi=items.size)(h:Q (.ref t) s):wpAny (model prog w) A (getItem (.ref t) (.ref sl)) Q E s:=by
 obtain⟨os,hos,hcs,hds⟩:=id hs
 have hTs:s.TypeIs (.ref sl) "slice":=⟨os,hos,hcs⟩
 unfold getItem
 try with_reducible refine wpAny_holding ?_
 first|refine wpAny_bind (wpAny_pure ?_)|skip
 refine wpAny_bind (wpAny_sequenceKey ht.typeIs (by decide) ?_)
 refine wpAny_bind (wpAny_callSpecial?_slot (name:=Str.ofString "__getitem__") ht.typeIs PyProof.Rows.slot_tuple_getitem
  (wpAny_call_entry PyProof.Rows.slot_tuple_getitem ht.typeIs entry_tuple_getitem ?_ (args_tuple_getitem _ _)))
 show wpAny _ _ (Builtin.Tuple.tupleItemsOf (.ref t) >>= _) _ _ s
 refine wpAny_bind (tupleItemsOf_ ht ?_)
 refine wpAny_bind (wpAny_typeOf hTs ?_)
 rw[if_pos (by decide)]
 refine wpAny_bind (HT.sliceApplied_gen hs pl pu ?_)
 show wpAny _ _ (if(((HT.sIx items.size 0 lo:Nat):Int)==0&&(1:Int)==1&&(HT.sIx items.size items.size hi-HT.sIx items.size 0 lo)==items.size)=true then _ else _) _ _ s
 rw[if_pos (by rw[hw.1,hw.2];simp)]
 refine wpAny_bind ?_
 unfold Builtin.Tuple.tupleIsExact
 refine wpAny_bind (wpAny_typeOf ht.typeIs (wpAny_pure ?_))
 rw[if_pos (by decide)]
 exact wpAny_bind (wpAny_rule (wpAny_pure ⟨_,rfl,wpAny_pure h⟩))
theorem Zgv{pins:List (Addr×Obj)}{s:Shared}{σ:L2.St}{H:Hp}{x:V}{v vl vu:Value}{lo hi:Option Int}{sl:Addr}{Q:VK}{a:Addr}{xs:List V}(I:Inv X pins σ H s)(rx:RelV x v)(hs:s.heap.IsSliceOf sl vl vu .none)(pl:IsPart vl lo)(pu:IsPart vu hi)(e:x=.ref a)(hx:SqT X.K H a xs)(hw:HT.sIx xs.length 0 lo=0/\HT.sIx xs.length xs.length hi=xs.length)(q:Q (.ref a) H):∃T id,typeLookup (.type T) "__getitem__" = pure (some (.builtin id))/\s.TypeIs v T/\wpAny (model X.prog X.w) X.A (getItem v (.ref sl)) (EP X pins σ Q) X.xe s:=by
 subst e
 cases rx
 obtain⟨its,r,ht,hz⟩:=I.tuple hx
 have hlen:its.toArray.size=xs.length:=by rw[List.size_toArray];exact r.length.symm
 exact⟨"tuple",_,PyProof.Rows.slot_tuple_getitem.lookup,ht.typeIs,Zeq ht hs pl pu (by rw[hlen];exact hw) ⟨.ref a,H,I,rfl,q⟩⟩
theorem sl_any:SlR X (rSl X.K xr):=by
 rintro pins s σ H x v vl vu lo hi sl Q I rx hs pl pu ⟨cm,m,w,M,rw',ho⟩
 obtain⟨t,e,ho⟩:=Qo ho
 cases q:view w m with
 |none=>rw[q]at e;cases e
 |some tw =>
  rw[q]at e
  have e:slT tw lo hi=some t:=e
  cases tw with
  |tup ts =>
   cases e
   obtain⟨a,vs,rfl,h1,r1⟩:=(Ze rw' q (λ_ z=>by cases z)).itup
   have l1:=r1.length
   have e:∀n d o,ZfY n d o=HT.sIx n d o:=λn d o=>by cases o<;>rfl
   by_cases hc:HT.sIx vs.length 0 lo=0/\HT.sIx vs.length vs.length hi=vs.length
   ·refine Zgv I rx hs pl pu rfl h1 hc ?_
    have ec:cut ts lo hi=ts:=by
     unfold cut
     rw[e,e,l1,hc.1,hc.2,List.drop_zero,Nat.sub_zero,<-l1,List.take_length]
    rw[ec]at ho
    exact ans ho M (.mtup h1 r1)
   ·refine sl_tup pins s σ H _ v vl vu lo hi sl Q I rx hs pl pu ⟨a,vs,rfl,h1,hc,λp hp=>?_⟩
    rw[ZcC];exact Za0 ho M (Xd r1 lo hi) hp
  |lst ts =>
   cases e
   obtain⟨a,vs,rfl,h1,r1⟩:=Zz M rw' q
   exact ZeH pins s σ H _ v vl vu lo hi sl Q I rx hs pl pu ⟨a,vs,rfl,.of h1,λp hp=>by rw[ZcC];exact XD ho M (Xd r1 lo hi) hp⟩
  |scr ns =>
   cases e
   obtain⟨a,rfl,h1⟩:=(Ze rw' q (λ_ z=>by cases z)).vscr
   refine ZeH pins s σ H _ v vl vu lo hi sl Q I rx hs pl pu ⟨a,_,rfl,h1.sq,λp hp=>?_⟩
   rw[ZcC]
   refine XD ho M ?_ hp
   have:=Xd (Xb (K:=X.K) (cm:=cm) (m:=m) (H:=H) ns) lo hi
   have e:cut (ns.map T.int) lo hi=(cut ns lo hi).map T.int:=by
    rw[Xz,Xz,List.length_map,List.map_take,List.map_drop]
   rw[e]at this
   exact this
  |str cs =>
   unfold slT at e
   dsimp only at e
   split at e<;>cases e
   rename_i hc
   cases(Ze rw' q (λ_ z=>by cases z)).vstr
   obtain⟨t,rfl⟩:=rx
   exact⟨"str",_,slot_str_getitem.lookup,typeIs_str s _ t,ZeG hs pl pu hc λt' k=>⟨.str ⟨(cut cs lo hi).toArray⟩,H,I.tok _,⟨t',rfl⟩,ans ho M (.str _)⟩⟩
  |_=>cases e
noncomputable def evP(call:Nat->List W->Mem->Res W)(gv:List T)(lo:E)(env:Env)(m:Mem):Res (Option Int):=if Zv lo then Res.ok none m else(ev call gv lo env m).bind intP
noncomputable def tP(K:Frag)(call:Nat->List W->Mem->Res W)(gv:List T)(xr:XR)(lo:E):TO:=λσ H Q=>∃env cm m,EnvR K cm m H env σ/\MemR K cm m H/\OkR K (evP call gv lo env m) xr cm m H λo cm' m' H'=>Q o H'
theorem Zc6{lo:Expr}(h:PE X lo (tE X.K call gv xr ea))(hn:evP call gv ea=λenv m=>(ev call gv ea env m).bind intP):PO X (some lo) (tP X.K call gv xr ea):=λpins s σ H Q I ⟨env,cm,m,hE,M,ho⟩=>by
 rw[hn]at ho
 refine ZiP h pins s σ H Q I ⟨env,cm,m,hE,M,(OkR.bind ho).mono λw cm1 m1 H1 x1 M1 o1 v rv=>?_⟩
 unfold intP at o1
 split at o1
 ·cases RT.vint rv
  exact⟨_,rfl,OkR.now o1 M1⟩
 ·exact o1.elim
theorem ZiU{lo hi:Option Expr}{p2:Pos}(he:PE X e (tE X.K call gv xr ea))(hl:PO X lo (tP X.K call gv xr eb))(hu:PO X hi (tP X.K call gv xr ec)):PE X (.Subscript e (.Slice lo hi none p2) pos) (tE X.K call gv xr (.slc ea eb ec)):=by
 refine PE.mono (ZgZ (sl_any (xr:=xr)) he hl hu) ?_
 rintro σ H Q ⟨env,cm,m,hE,M,ho⟩
 have e:ev call gv (.slc ea eb ec) env m=(ev call gv ea env m).bind λx m=>(evP call gv eb env m).bind λl m=>(evP call gv ec env m).bind λh m=>fSl x l h m:=by
  rw[ev]
  rfl
 rw[e]at ho
 refine⟨env,cm,m,hE,M,ho.bind.mono λw cm1 m1 H1 x1 M1 o1 v rv=>?_⟩
 refine⟨env,cm1,m1,hE.ext x1 M M1,M1,o1.bind.mono λl cm2 m2 H2 x2 M2 o2=>?_⟩
 refine⟨env,cm2,m2,(hE.ext x1 M M1).ext x2 M1 M2,M2,o2.bind.mono λh cm3 m3 H3 x3 M3 o3=>?_⟩
 exact⟨cm3,m3,w,M3,(rv.ext x2 M1 M2).ext x3 M2 M3,o3⟩
noncomputable def fBlt(b:B)(ws:List W)(m:Mem):Res W:=pur ((views ws m).bind λts=>bltT b ts) m
theorem ZhO{b:B}(σ:L2.St)(H:Hp)(Q:VK)(q:tE X.K call gv xr (.blt b eas) σ H Q):tCB (rN X.K xr (fBlt b)) (tA X.K call gv xr eas) σ H Q:=by
 obtain⟨env,cm,m,hE,M,ho⟩:=q
 rw[ev]at ho
 exact⟨env,cm,m,hE,M,ho.bind.mono λws cm1 m1 H1 x1 M1 o1 vs rvs=>⟨cm1,m1,ws,M1,rvs,o1⟩⟩
theorem Ze5{b:B}{id:String}{x:Str}(hc:Jy X (.builtin id) (rN X.K xr (fBlt b)))(hv:bootBuiltins x=some (.builtin id))(hg:Gl X x)(hm:X.mg x=none)(ha:PA X (e::es) (tA X.K call gv xr eas))(hn:x≠"__name__")(hdb:(x==("__debug__" : Str))=false)(he:notStar e=true)(hpl:es.all notStar=true):PE X (.Call (.Name x p) (e::es) [] pos) (tE X.K call gv xr (.blt b eas)):=
 PE.mono (Zc7 hc hg hm hv ha hn hdb (Qn he) (Xl hpl)) ZhO
theorem Zcq{b:B}{id:String}{x:Str}(hc:Jy X (.type id) (rN X.K xr (fBlt b)))(hv:bootBuiltins x=some (.type id))(hg:Gl X x)(hm:X.mg x=none)(ha:PA X (e::es) (tA X.K call gv xr eas))(hn:x≠"__name__")(hdb:(x==("__debug__" : Str))=false)(he:notStar e=true)(hpl:es.all notStar=true):PE X (.Call (.Name x p) (e::es) [] pos) (tE X.K call gv xr (.blt b eas)):=
 PE.mono (ZbH hc hg hm hv ha hn hdb (Qn he) (Xl hpl)) ZhO
theorem blt1{b:B}{ws:List W}{vs:List V}{k:W->List Addr->Mem->Hp->Prop}(r:RWs K cm m H ws vs)(h1:∀ts t,bltT b ts=some t->ts.length=1)(h:OkR K (fBlt b ws m) xr cm m H k):
  ∃w v t r,ws=[w]/\vs=[v]/\RW K cm m H w v/\view w m=some t/\bltT b [t]=some r/\OkR K (.ok (.t r) m) xr cm m H k:=by
 obtain⟨t,e,ho⟩:=Qo h
 cases q:views ws m with
 |none=>rw[q]at e;cases e
 |some ts =>
  rw[q]at e
  have e:bltT b ts=some t:=e
  have hl:=h1 ts t e
  have hvl:∀(ws:List W) (ts:List T),views ws m=some ts->ts.length=ws.length:=λws=>by
   induction ws with
   |nil=>intro ts h;cases h;rfl
   |cons w ws ih =>
    intro ts h
    unfold views at h
    cases q1:view w m with
    |none=>rw[q1]at h;cases h
    |some t1 =>
     rw[q1]at h
     cases q2:views ws m with
     |none=>rw[q2]at h;cases h
     |some us=>rw[q2]at h;cases h;simp[ih us q2]
  have hw:=hvl ws ts q
  match ws,vs,r with
  |[],_,_=>rw[hl]at hw;simp at hw
  |w::w'::ws,_,_=>rw[hl]at hw;simp at hw
  |[w],_,.cons rv .nil =>
   unfold views at q
   cases q1:view w m with
   |none=>rw[q1]at q;cases q
   |some t1 =>
    rw[q1]at q
    cases q
    exact⟨w,_,t1,t,rfl,rfl,rv,q1,e,ho⟩
theorem Zfh{f:T->Option T}:∀{ts:List T}{t:T},one1 f ts=some t->∃x,ts=[x]/\f x=some t
 |[],_,h=>by cases h
 |[x],_,h=>⟨x,rfl,h⟩
 |_::_::_,_,h=>by cases h
theorem Xj{b:B}(hb:b≠.min2/\b≠.max2/\b≠.range2/\b≠.zip2/\b≠.zip4/\b≠.dget/\b≠.din/\b≠.dnot):∀ts t,bltT b ts=some t->ts.length=1:=by
 intro ts t h
 have h1:∀f:T->Option T,one1 f ts=some t->ts.length=1:=λf h=>by
  obtain⟨x,rfl,_⟩:=Zfh h
  rfl
 cases b<;>first|exact h1 _ h|exact absurd hb (by decide)|cases h
theorem Zf8:Jy X (.builtin "len") (rN X.K xr (fBlt .len)):=by
 rintro pins s σ H xs us Q I r ⟨cm,m,ws,M,rws,ho⟩
 obtain⟨w,v,t,rr,rfl,rfl,rv,e,eb,ho⟩:=blt1 rws (Xj (by decide)) ho
 have hz:=ZD
 cases t with
 |str cs =>
  change (if cs.length<=lim then some (T.int cs.length)else none)=some rr at eb
  split at eb<;>cases eb
  cases(Ze rv e (λ_ z=>by cases z)).vstr
  exact X7 pins s σ H _ us Q I r ⟨_,_,rfl,⟨by rw[JB];omega,rfl⟩,by rw[JB];exact ans ho M (.int _)⟩
 |tup ts =>
  cases eb
  obtain⟨a,vs,rfl,h1,r1⟩:=(Ze rv e (λ_ z=>by cases z)).itup
  exact X7 pins s σ H _ us Q I r ⟨_,_,rfl,.inr ⟨vs,h1,r1.length⟩,ans ho M (.int _)⟩
 |lst ts =>
  cases eb
  obtain⟨a,vs,rfl,h1,r1⟩:=Zz M rv e
  exact X7 pins s σ H _ us Q I r ⟨_,_,rfl,.inl ⟨vs,.of h1,r1.length⟩,ans ho M (.int _)⟩
 |scr ns =>
  cases eb
  obtain⟨a,rfl,h1⟩:=(Ze rv e (λ_ z=>by cases z)).vscr
  exact X7 pins s σ H _ us Q I r ⟨_,_,rfl,.inl ⟨_,h1.sq,by simp⟩,ans ho M (.int _)⟩
 |_=>cases eb
theorem Zf9:Jy X (.type "int") (rN X.K xr (fBlt .int)):=by
 rintro pins s σ H xs us Q I r ⟨cm,m,ws,M,rws,ho⟩
 obtain⟨w,v,t,rr,rfl,rfl,rv,e,eb,ho⟩:=blt1 rws (Xj (by decide)) ho
 cases t with
 |int i =>
  cases eb
  cases(Ze rv e (λ_ z=>by cases z)).vint
  exact Zb2 pins s σ H _ us Q I r (.inl ⟨_,rfl,ans ho M (.int _)⟩)
 |bl b =>
  cases eb
  cases(Ze rv e (λ_ z=>by cases z)).vbl
  exact Zb2 pins s σ H _ us Q I r (.inr ⟨_,rfl,ans ho M (.int _)⟩)
 |str cs =>
  have eb:(if cs≠[]/\cs.length<=600/\cs.all (λc=>decide (48<=c)&&decide (c<=57))=true then some (T.int (figV cs))else none)=some rr:=eb
  split at eb<;>cases eb
  rename_i hc
  cases(Ze rv e (λ_ z=>by cases z)).vstr
  obtain⟨u,rfl,tt,rfl⟩:=vals1 r
  have hd:NumText.AllDigits (⟨cs.toArray⟩:Str).cps.toList:=λc hcm=>by
   have:=List.all_eq_true.mp hc.2.2 c (by simpa using hcm)
   rw[Bool.and_eq_true]at this
   exact⟨of_decide_eq_true this.1,of_decide_eq_true this.2⟩
  have ht:=PySem.intText_digits (x:=⟨cs.toArray⟩) hd (by simpa using hc.1) (by show cs.toArray.size<=_;rw[List.size_toArray];omega)
  refine W.KIN.call_text ht (by show cs.toArray.size<=_;rw[List.size_toArray];omega) ⟨.int (figV cs),H,I.tok _,⟨s.toks,?_⟩,ans ho M (.int _)⟩
  show Value.int _ _=Value.int (figV cs) _
  rw[show(⟨cs.toArray⟩:Str).cps.toList=cs from by simp]
  rfl
 |_=>cases eb
theorem Zhy(cs:List Nat):RTs K cm m H (cs.map λc=>T.str [c]) (cs.map λc=>V.str ⟨#[c]⟩):=by
 induction cs with
 |nil=>exact .nil
 |cons c cs ih=>exact .cons (.str [c]) ih
theorem ZaX{x:Str}:∀(cs:List Nat) (k:Nat) (vs:List Value),vs.length=cs.length->(∀(j:Nat) (v:Value),vs[j]?=some v->∃c u,cs[j]?=some c/\v=Value.str ⟨#[c]⟩ u)->Vals (cs.map λc=>V.str ⟨#[c]⟩) vs
 |[],_,[],_,_=>.nil
 |[],_,_::_,h,_=>by simp at h
 |_::_,_,[],h,_=>by simp at h
 |c::cs,k,v::vs,hl,h=>by
  obtain⟨c',u,e1,e2⟩:=h 0 v rfl
  cases e1
  exact .cons ⟨u,e2⟩ (ZaX (x:=x) cs k vs (by simpa using hl) λj w hw=>h (j+1) w (by simpa using hw))
theorem ZcF(hcalm:X.calm=true):Jy X (.type "tuple") (rN X.K xr (fBlt .tuple)):=by
 rintro pins s σ H xs us Q I r ⟨cm,m,ws,M,rws,ho⟩
 obtain⟨w,v,t,rr,rfl,rfl,rv,e,eb,ho⟩:=blt1 rws (Xj (by decide)) ho
 cases t with
 |tup ts =>
  cases eb
  obtain⟨a,vs,rfl,h1,r1⟩:=(Ze rv e (λ_ z=>by cases z)).itup
  exact J8 pins s σ H _ us Q I r ⟨a,vs,rfl,.inr ⟨h1,ans ho M (.mtup h1 r1)⟩⟩
 |lst ts =>
  cases eb
  obtain⟨a,vs,rfl,h1,r1⟩:=Zz M rv e
  exact J8 pins s σ H _ us Q I r ⟨a,vs,rfl,.inl ⟨.of h1,λl hl=>Za0 ho M r1 hl⟩⟩
 |str cs =>
  change (if cs.length<=lim then some (T.tup (cs.map λc=>T.str [c]))else none)=some rr at eb
  split at eb<;>cases eb
  rename_i hc
  cases(Ze rv e (λ_ z=>by cases z)).vstr
  obtain⟨u,rfl,ru⟩:=vals1 r
  obtain⟨tk,rfl⟩:=ru
  have hz:=ZD
  refine call_tuple_str (I.ok.hd hcalm) ⟨cs.toArray⟩ tk (λh' tk' acc hk hit=>?_) (by show cs.toArray.size<=_;rw[List.size_toArray];omega)
  obtain⟨h1,h2⟩:=hit
  have I1:Inv X pins σ H { s with heap:=h',toks:=tk' }:=I.kept hk
  have rv2:Vals (cs.map λc=>V.str ⟨#[c]⟩) acc.toList:=ZaX (x:=⟨cs.toArray⟩) cs 0 acc.toList (by simpa using h1) λj w hw=>by
   obtain⟨c,u,e1,e2⟩:=h2 j w (by simpa using hw)
   exact⟨c,u,by simpa using e1,e2⟩
  refine⟨.ref h'.objs.size,_,I1.laid (t':=tk') (o:=.tup (cs.map λc=>V.str ⟨#[c]⟩)) (λb ob q=>Heap.get?_push_of_some _ q) (Nat.le_refl _) ?_,rfl,Za0 ho M (Zhy cs) (I1.hok.fresh (Nat.le_refl _))⟩
  refine⟨by rw[List.length_map];omega,acc.toList,rv2,?_⟩
  have:=TupP.new h' acc.toList.toArray
  simpa using this
 |_=>cases eb
theorem Zee:Jy X (.type "list") (rN X.K xr (fBlt .list)):=by
 rintro pins s σ H xs us Q I r ⟨cm,m,ws,M,rws,ho⟩
 obtain⟨w,v,t,rr,rfl,rfl,rv,e,eb,ho⟩:=blt1 rws (Xj (by decide)) ho
 cases t with
 |tup ts =>
  cases eb
  obtain⟨a,vs,rfl,h1,r1⟩:=(Ze rv e (λ_ z=>by cases z)).itup
  exact XC pins s σ H _ us Q I r ⟨a,vs,rfl,.inr h1,λl hl=>XD ho M r1 hl⟩
 |lst ts =>
  cases eb
  obtain⟨a,vs,rfl,h1,r1⟩:=Zz M rv e
  exact XC pins s σ H _ us Q I r ⟨a,vs,rfl,.inl (.of h1),λl hl=>XD ho M r1 hl⟩
 |_=>cases eb
end
section
variable{K:Frag}{cm:List Addr}{m:Mem}{H:Hp}{xr:XR}{X:Cx}{call:Nat->List W->Mem->Res W}{gv:List T}
variable{a b c e:Expr}{es:List Expr}{ea eb ec:E}{eas:Es}{pos p p2:Pos}
noncomputable def tyN:Ty->String
 |.int=>"int"
 |.bool=>"bool"
 |.str=>"str"
 |.tuple=>"tuple"
 |.list=>"list"
 |.dict=>"dict"
noncomputable def tyT:T->String
 |.non=>"NoneType"
 |.bl _=>"bool"
 |.int _=>"int"
 |.str _=>"str"
 |.tup _=>"tuple"
 |.lst _=>"list"
 |.dct _ _=>"dict"
 |.scr _=>"list"
theorem Zju(t:T)(ty:Ty):PySem.W.kitOne K (.type (tyT t)) (.type (tyN ty))=some (isT t ty):=by cases t<;>cases ty<;>rfl
theorem Zjz{pins:List (Addr×Obj)}{σ:L2.St}{s:Shared}{A:Around}{E:Value->Shared->Prop}{Q:Value->Shared->Prop}{w:W}{v:V}{u:Value}{t:T}{ty:Ty}(I:Inv X pins σ H s)(M:MemR X.K cm m H)(rx:RelV v u)(r:RW X.K cm m H w v)(ew:view w m=some t)(h:∀tk,Q (.bool (isT t ty)) { s with toks:=tk }):
  wpAny (model X.prog X.w) A (PySem.call (.builtin "isinstance") [u,.type (tyN ty)]) Q E s:=by
 have k:=Zju (K:=X.K) t ty
 have onL:∀(a:Addr) (vs:List V),v=.ref a->SqL X.K H a vs->tyT t = "list"->wpAny (model X.prog X.w) A (PySem.call (.builtin "isinstance") [u,.type (tyN ty)]) Q E s:=λa vs e hq et=>by
  subst e
  cases rx
  obtain⟨its,_,pl,_⟩:=I.list hq
  obtain⟨o,n,e,c,_⟩:=pl
  rw[et]at k
  exact kia_one kitx_list I.kIn ⟨o,e,c⟩ k (λz=>nomatch z) h
 cases t with
 |non=>cases(Ze r ew (λ_ z=>by cases z)).vnon;exact Jb I rx .non k h
 |bl y=>cases(Ze r ew (λ_ z=>by cases z)).vbl;exact Jb I rx (.bl y) k h
 |int i=>cases(Ze r ew (λ_ z=>by cases z)).vint;exact Jb I rx (.int i) k h
 |str cs=>cases(Ze r ew (λ_ z=>by cases z)).vstr;exact Jb I rx (.str _) k h
 |tup ts =>
  obtain⟨a,vs,rfl,h1,_⟩:=(Ze r ew (λ_ z=>by cases z)).itup
  cases rx
  obtain⟨its,_,p,_⟩:=I.tuple h1
  obtain⟨o,h1,h2,_⟩:=p
  exact kia_one PySem.W.kitx_tuple I.kIn ⟨o,h1,h2⟩ k (λz=>nomatch z) h
 |lst ts =>
  obtain⟨a,vs,e,h1,_⟩:=Zz M r ew
  exact onL a vs e (.of h1) rfl
 |scr ns =>
  obtain⟨a,e,h1⟩:=(Ze r ew (λ_ z=>by cases z)).vscr
  exact onL a _ e h1.sq rfl
 |dct ks ts =>
  have r':=Ze r ew (λ_ z=>by cases z)
  cases r' with
  |dct q1 q2 q3 q4 q5=>exact Jb I rx (.dK q1) k h
noncomputable def fIsi(ty:Ty)(w:W)(m:Mem):Res W:=pur ((view w m).map λx=>.bl (isT x ty)) m
theorem ZhG{ty:Ty}:Jy X (.builtin "isinstance") (λxs H Q=>∃x,xs=[x,.ty (tyN ty)]/\r1 X.K xr (fIsi ty) x H Q):=by
 rintro pins s σ H xs us Q I r ⟨x,e,cm,m,w,M,rw',ho⟩
 subst e
 obtain⟨u1,u2,rfl,ru1,ru2⟩:=vals2 r
 cases(show u2=Value.type (tyN ty)from ru2)
 obtain⟨t,et,ho⟩:=Qo ho
 cases q:view w m with
 |none=>rw[q]at et;cases et
 |some tw =>
  rw[q]at et;cases et
  exact Zjz I M ru1 rw' q λtk=>⟨.bl _,H,I.tok _,rfl,ans ho M (.bl _)⟩
theorem ZiZ{ty:Ty}{x:Str}(ha:PE X a (tE X.K call gv xr ea))(hg:Gl X "isinstance")(hm:X.mg "isinstance" = none)(hgT:Gl X x)(hmT:X.mg x=none)(hv:bootBuiltins x=some (.type (tyN ty)))(hn:x≠"__name__":=by decide)(hd:(x==("__debug__" : Str))=false:=by decide)(hs:notStar a=true:=by rfl):
  PE X (.Call (.Name "isinstance" p) [a,.Name x p2] [] pos) (tE X.K call gv xr (.isi ea ty)):=by
 refine PE.mono (Zc7 (ZhG (ty:=ty) (xr:=xr)) hg hm (by decide +kernel) (Zbi ha (Zbi (Zi8 (v:=.ty (tyN ty)) hgT hmT hv rfl hn hd) Ze6 (Qn rfl)) (Qn hs)) (by decide) (by decide) (Qn hs) (Xl rfl)) ?_
 rintro σ H Q ⟨env,cm,m,hE,M,ho⟩
 rw[ev]at ho
 exact⟨env,cm,m,hE,M,ho.bind.mono λw cm1 m1 H1 x1 M1 o1 v rv=>⟨v,rfl,cm1,m1,w,M1,rv,o1⟩⟩
noncomputable def rM(K:Frag)(xr:XR)(b:Mt):V->List V->Hp->VK->Prop:=λx xs H Q=>∃cm m w ws,MemR K cm m H/\RW K cm m H w x/\RWs K cm m H ws xs/\OkR K (doM b w ws m) xr cm m H λw cm' m' H'=>∀v,RW K cm' m' H' w v->Q v H'
theorem few1{cpos:Pos}(hs:notStar e=true):((backTo cpos (starEach [e] X.env)).all (λx=>!x.1)&&(backToKw cpos (keywordEach [] X.env)).all (λx=>x.1.isSome)
  && decide ([e].length+([]:List Keyword).length+(if([]:List Keyword).isEmpty then 0 else 1)<30))=true:=by
 rw[ZcV (by rw[List.all_cons,hs];rfl)]
 rfl
structure At (X:Cx) (call:Nat->List W->Mem->Res W) (gv:List T) (e:Expr) (a:E) (f:L2.St->Option V):Prop where
 pe:PE X e (λσ H Q=>∃v,f σ=some v/\Q v H)
 rd:∀env cm m H σ,EnvR X.K cm m H env σ->(∃w v,ev call gv a env m=.ok w m/\f σ=some v/\RW X.K cm m H w v)∨ev call gv a env m=.stuck
theorem ZdF{tg:Expr}(hg:Gl X "range")(hm:X.mg "range" = none)(ha:PA X [a] (tA X.K call gv xr eas))(hs:notStar a=true:=by rfl):PI X tg (.Call (.Name "range" p) [a] [] pos) (tI X.K call gv xr (.blt .range1 eas)):=by
 refine PI.mono (ZeY hg hm ha (Qn hs)) ?_
 rintro σ H R ⟨env,cm,m,hE,M,ho⟩
 rw[ev]at ho
 refine⟨env,cm,m,hE,M,ho.bind.mono λws cm1 m1 H1 x1 M1 o1 vs rvs=>?_⟩
 obtain⟨w,v,t,rr,rfl,rfl,rv,e,eb,o2⟩:=blt1 (b:=.range1) rvs (Xj (by decide)) o1
 cases t with
 |int i =>
  change (if i<2^62/\-(2^62)<=i then some (T.lst (rangeT 0 i.toNat))else none)=some rr at eb
  split at eb<;>cases eb
  rename_i hc
  cases(Ze rv e (λ_ z=>by cases z)).vint
  obtain⟨ts,m2,q1,q2⟩:=OkR.now o2 M1
  cases q1
  exact⟨_,rfl,hc.2,hc.1,q2 _ (.rng 0 _)⟩
 |_=>cases eb
end
section
variable(K:Frag) (call:Nat->List W->Mem->Res W) (gv:List T) (xr:XR)
noncomputable def Zcz(n:Nat)(D:Ends)(fl:Flow)(cm:List Addr)(m:Mem)(H:Hp):Prop:=match fl with
 |.next env=>∀σ:L2.St,σ.length=n->EnvR K cm m H env σ->D.nx σ H
 |.ret w=>∀v,RW K cm m H w v->D.rt v H
 |.brk env=>∀σ:L2.St,σ.length=n->EnvR K cm m H env σ->D.bk σ H
 |.cont env=>∀σ:L2.St,σ.length=n->EnvR K cm m H env σ->D.ct σ H
noncomputable def tS(n:Nat)(s:S):TS:=λD σ H=>σ.length=n/\∃env cm m,EnvR K cm m H env σ/\MemR K cm m H/\OkR K (ex call gv s env m) xr cm m H λfl cm' m' H'=>Zcz K n D fl cm' m' H'
end
section
variable{K:Frag}{cm:List Addr}{m:Mem}{H:Hp}{xr:XR}{X:Cx}{call:Nat->List W->Mem->Res W}{gv:List T}
variable{a b c e:Expr}{es:List Expr}{ea eb ec:E}{eas:Es}{pos p p2:Pos}{rest:List Stmt}{k:S}{n:Nat}
theorem PSs.mono{sts:List Stmt}{t t':TS}(h:PSs X sts t)(f:∀D σ H,t' D σ H->t D σ H):PSs X sts t':=λpins s σ H D I q=>h pins s σ H D I (f D σ H q)
theorem ZgJ:PSs X [] (tS X.K call gv xr n .done):=PSs.mono ZiJ λD σ H ⟨hl,env,cm,m,hE,M,ho⟩=>by
 rw[ex]at ho
 exact OkR.now ho M σ hl hE
theorem ZgI(h:PE X e (tE X.K call gv xr ea)):PSs X (.Return (some e) pos::rest) (tS X.K call gv xr n (.ret ea k)):=PSs.mono (Qp (ps_ret h) ZeQ) λD σ H ⟨hl,env,cm,m,hE,M,ho⟩=>by
 rw[ex]at ho
 exact⟨env,cm,m,hE,M,ho.bind.mono λw cm1 m1 H1 x1 M1 o1 v rv=>OkR.now o1 M1 v rv⟩
theorem ZeR(h:PE X e (tE X.K call gv xr ea))(hk:PSs X rest (tS X.K call gv xr n k))(hs:swapsWith e none pos.line X.env=pure false:=by rfl):PSs X (.Expr e pos::rest) (tS X.K call gv xr n (.expr ea k)):=PSs.mono (Qp (ZiM h hs) hk) λD σ H ⟨hl,env,cm,m,hE,M,ho⟩=>by
 rw[ex]at ho
 exact⟨env,cm,m,hE,M,ho.bind.mono λw cm1 m1 H1 x1 M1 o1 v rv=>⟨hl,env,cm1,m1,hE.ext x1 M M1,M1,o1⟩⟩
theorem ZgL{i:Nat}{x:Str}{px:Pos}(hN:X.N.Nodup)(hn:X.N.length=n)(hi:X.N[i]?=some x)(hx:Loc X.env.scope x)(h:PE X e (tE X.K call gv xr ea))(hk:PSs X rest (tS X.K call gv xr n k))(hs:swapsWith e (some (.Name x px)) pos.line X.env=pure false:=by rfl)(hf:X.fn x=true∨X.env.scope.names.lookup x=some .local:=by first|exact .inl rfl|exact .inr rfl|assumption):PSs X (.Assign [.Name x px] e pos::rest) (tS X.K call gv xr n (.asg i ea k)):=PSs.mono (Qp (ps_set hN hi hx h hs hf) hk) λD σ H ⟨hl,env,cm,m,hE,M,ho⟩=>by
 rw[ex]at ho
 have hi':i<σ.length:=by rw[hl,<-hn];exact(List.getElem?_eq_some_iff.mp hi).1
 exact⟨env,cm,m,hE,M,ho.bind.mono λw cm1 m1 H1 x1 M1 o1 v rv=>⟨by rw[List.length_set];exact hl,env.set i (some w),cm1,m1,EnvR.set (hE.ext x1 M M1) rv i hi',M1,o1⟩⟩
theorem ZgH{o i v:Expr}{eo ei ev':E}{tp:Pos}(hv:PE X v (tE X.K call gv xr ev'))(ho:PE X o (tE X.K call gv xr eo))(hi:PE X i (tE X.K call gv xr ei))(hk:PSs X rest (tS X.K call gv xr n k))(ha:∀v,assign (.Subscript o i tp) X.env v=(do
   let ov <-holding [v] (eval o X.env)
   let iv <-holding [v,ov] (eval i X.env)
   standAt tp
   holding [v,ov,iv] (setItem ov iv v)
   release [v,ov,iv] []):=by intro _;rfl)(hs:swapsWithSole [.Subscript o i tp] v pos.line X.env=pure false:=by rfl)(hw:swappedStores [.Subscript o i tp] v X.env=pure none:=by rfl)(h1:(assignEach [.Subscript o i tp] X.env).map (·.2)=[assign (.Subscript o i tp) X.env]:=by rfl):PSs X (.Assign [.Subscript o i tp] v pos::rest) (tS X.K call gv xr n (.set eo ei ev' k)):=
 PSs.mono (Qp (ZhX hv (pg_sub ho hi set_list ha) hs hw h1) hk) λD σ H ⟨hl,env,cm,m,hE,M,hq⟩=>by
  rw[ex]at hq
  refine⟨env,cm,m,hE,M,hq.bind.mono λz cm1 m1 H1 x1 M1 o1 vz rz=>?_⟩
  refine⟨env,cm1,m1,hE.ext x1 M M1,M1,o1.bind.mono λx cm2 m2 H2 x2 M2 o2 vx rx=>?_⟩
  refine⟨env,cm2,m2,(hE.ext x1 M M1).ext x2 M1 M2,M2,o2.bind.mono λy cm3 m3 H3 x3 M3 o3 vy ry=>?_⟩
  unfold setM at o3
  split at o3
  ·rename_i cc kk
   cases q:frz z m3 with
   |stuck=>rw[q]at o3;exact o3.elim
   |exc e' m'=>exact absurd q ZbY
   |ok t m4 =>
    rw[q]at o3
    obtain⟨x4,M4,r4⟩:=ZfM M3 ((rz.ext x2 M1 M2).ext x3 M2 M3) q
    have rx':RW X.K cm3 m4 H3 (.c cc) vx:=(rx.ext x3 M2 M3).ext x4 M3 M4
    cases RT.vint ry
    obtain⟨a,ha1,rfl⟩:=rx'
    have o3:OkR X.K ((match m4[cc]? with
     |some (some (false,xs))=>match ixOf xs.length kk with
      |some j=>Res.ok () (m4.set cc (some (false,xs.set j t)))
      |none=>.stuck
     |_=>.stuck).bind λ_ m=>ex call gv k env m) xr cm3 m3 H3 _:=o3
    split at o3
    ·rename_i xs e1
     split at o3
     ·rename_i j e2
      obtain⟨b,vs,q1,q2,q3,q4⟩:=M4.at' cc _ e1
      rw[ha1]at q1;cases q1
      have l4:=q4.length
      dsimp only at l4
      obtain⟨x5,M5⟩:=QD M4 e1 ha1 (ZaN r4 j q4)
      refine⟨a,vs,kk,j,rfl,rfl,q2,by rw[<-l4];exact e2,?_⟩
      have xx:=(x4.trans x5)
      exact⟨hl,env,cm3,_,(((hE.ext x1 M M1).ext x2 M1 M2).ext x3 M2 M3).ext xx M3 M5,M5,OkR.shift (show OkR X.K (ex call gv k env _) xr cm3 m3 H3 _ from o3) xx⟩
     ·exact o3.elim
    ·exact o3.elim
  ·exact o3.elim
theorem bind_assoc{α β γ:Type}(r:Res α)(f:α->Mem->Res β)(g:β->Mem->Res γ):(r.bind f).bind g=r.bind λa m=>(f a m).bind g:=by cases r<;>rfl
theorem ZiK{A B:List Stmt}{sa sb:S}(hc:PT X c (tT X.K call gv xr ec))(ha:PSs X A (tS X.K call gv xr n sa))(hb:PSs X B (tS X.K call gv xr n sb))(hk:PSs X rest (tS X.K call gv xr n k)):PSs X (.If c A B pos::rest) (tS X.K call gv xr n (.ife ec sa sb k)):=
 PSs.mono (Qp (ps_if hc ha hb) hk) λD σ H ⟨hl,env,cm,m,hE,M,ho⟩=>by
  rw[ex,<-bind_assoc]at ho
  refine⟨env,cm,m,hE,M,ho.bind.mono λt cm1 m1 H1 x1 M1 o1=>?_⟩
  have go:∀s:S,OkR X.K ((ex call gv s env m1).bind λfl m=>match fl with|.next env=>ex call gv k env m|fl=>.ok fl m) xr cm1 m1 H1 (λfl cm' m' H'=>Zcz X.K n D fl cm' m' H')->tS X.K call gv xr n s { D with nx:=tS X.K call gv xr n k D } σ H1:=λs o=>by
   refine⟨hl,env,cm1,m1,hE.ext x1 M M1,M1,o.bind.mono λfl cm2 m2 H2 x2 M2 o2=>?_⟩
   cases fl with
   |next env'=>exact λσ' hl' hE'=>⟨hl',env',cm2,m2,hE',M2,o2⟩
   |ret w=>exact OkR.now (xr:=xr) (a:=Flow.ret w) o2 M2
   |brk env'=>exact OkR.now (xr:=xr) (a:=Flow.brk env') o2 M2
   |cont env'=>exact OkR.now (xr:=xr) (a:=Flow.cont env') o2 M2
  cases t with
  |true=>exact iteT (go sa o1)
  |false=>exact iteF (go sb o1)
theorem JF:∀(is:List Nat) (vs:List V) (σ:L2.St),(setAll is vs σ).length=σ.length
 |[],_,_=>by unfold setAll;rfl
 |_::_,[],_=>by unfold setAll;rfl
 |i::is,v::vs,σ=>by unfold setAll;rw[JF,List.length_set]
theorem Zh9{tg:Tg}{v:V}{σ:L2.St}{Q:L2.St->Hp->Prop}(h:gT K tg v σ H Q):gT K tg v σ H λσ' H'=>σ'.length=σ.length/\Q σ' H':=by
 cases tg with
 |nm i=>exact⟨List.length_set,h⟩
 |tp is =>
  obtain⟨a,xs,h1,h2,h3,h4⟩:=h
  exact⟨a,xs,h1,h2,h3,JF _ _ _,h4⟩
theorem EnvR.same{cm:List Addr}{m m':Mem}{H:Hp}{env:Env}{σ:L2.St}(h:EnvR K cm m H env σ)(f:∀t v,RT K cm m H t v->RT K cm m' H t v):EnvR K cm m' H env σ:=λi w e=>by
 obtain⟨v,h1,h2⟩:=h i w e
 refine⟨v,h1,?_⟩
 cases w with
 |t t=>exact f t v h2
 |f a=>exact h2
 |x _ _ _=>exact XF.wsame f h2
 |c i=>exact h2
theorem ZgK{tgt iter:Expr}{body:List Stmt}{tg:Tg}{it:E}{sb:S}(hc:X.calm=true)(hp:PassesOwn (model X.prog X.w) X.A X.env X.xe)(hi:PI X tgt iter (tI X.K call gv xr it))(hg:PG X tgt (gT X.K tg))(ht:∀i∈tgS tg,i<n)(hb:PSs X body (tS X.K call gv xr n sb))(hk:PSs X rest (tS X.K call gv xr n k))(hs:∀x,foldedSetIterable iter X.env x=pure x:=by intro _;rfl):PSs X (.For tgt iter body [] pos::rest) (tS X.K call gv xr n (.forr tg it sb k)):=
 PSs.mono (Qp (ps_for hp hc hi hg hb hs) hk) λD σ0 H0 ⟨hl0,env0,cm0,m0,hE0,M0,ho⟩=>by
  rw[ex]at ho
  refine⟨env0,cm0,m0,hE0,M0,ho.bind.mono λx cm1 m1 H1 x1 M1 o1=>?_⟩
  cases hbr:ZJ x m1 with
  |stuck=>rw[hbr]at o1;exact o1.elim
  |exc e' m' =>
   exfalso
   unfold ZJ at hbr
   split at hbr<;>first|(cases hbr;done)|(split at hbr<;>cases hbr)
  |ok ts m2 =>
   rw[hbr]at o1
   obtain⟨xb,Mb⟩:=Zaw M1 hbr
   let g:Flow->Mem->Res Flow:=λfl m=>match fl with
    |.next env=>ex call gv k env (giveBack x m1 m)
    |.ret w=>.ok (.ret w) (giveBack x m1 m)
    |_=>.stuck
   have o1:OkR X.K ((Z1 (λenv m=>ex call gv sb env m) tg ts env0 m2).bind g) xr cm1 m1 H1 (λfl cm' m' H'=>Zcz X.K n D fl cm' m' H'):=o1
   refine⟨ts,m2,rfl,λJ hJ=>?_⟩
   let P:Flow->List Addr->Mem->Hp->Prop:=λfl _ m' _=>OkR X.K (g fl m') xr cm1 m1 H1 (λfl cm' m' H'=>Zcz X.K n D fl cm' m' H')
   -- behind the walk
   have fin:∀env cm m H σ,σ.length=n->EnvR X.K cm m H env σ->MemR X.K cm m H->Ext cm1 m2 H1 cm m H->P (.next env) cm m H->tS X.K call gv xr n k D σ H:=λenv cm m H σ hl hE M xx hP=>by
    obtain⟨xg,Mg,fg⟩:=J1 M1 hbr xx M
    exact⟨hl,env,cm,_,EnvR.same hE fg,Mg,OkR.shift (show OkR X.K (ex call gv k env (giveBack x m1 m)) xr cm1 m1 H1 _ from hP) xg⟩
   refine⟨λi μ σ H=>μ=ts.length-i/\σ.length=n/\∃env cm m,EnvR X.K cm m H env σ/\MemR X.K cm m H/\Ext cm1 m2 H1 cm m H/\OkR X.K (Z1 (λenv m=>ex call gv sb env m) tg (ts.drop i) env m) xr cm m H P,⟨ts.length-0,rfl,hl0,env0,cm1,m2,(hE0.ext x1 M0 M1).ext xb M1 Mb,Mb,.refl,?_⟩,?_⟩
   ·rw[List.drop_zero]
    exact OkR.shift o1.bind0 xb
   ·rintro i μ σ H ⟨rfl,hl,env,cm,m,hE,M,xx,hq⟩
    have sJ:=hJ.ext xx Mb M
    cases e:ts[i]? with
    |none =>
     have ed:ts.drop i=[]:=List.drop_eq_nil_iff.mpr (List.getElem?_eq_none_iff.mp e)
     rw[ed,Z1]at hq
     exact .inl ⟨sJ.stop M e,fin env cm m H σ hl hE M xx (OkR.now hq M)⟩
    |some t =>
     have hlt:=(List.getElem?_eq_some_iff.mp e).1
     have ed:ts.drop i=t::ts.drop (i+1):=by
      rw[List.drop_eq_getElem_cons hlt]
      rw[(List.getElem?_eq_some_iff.mp e).2]
     rw[ed,Z1]at hq
     obtain⟨go,hy⟩:=sJ.go M e
     refine .inr ⟨go,λσ' H'=>σ'.length=n/\∃env cm m,EnvR X.K cm m H' env σ'/\MemR X.K cm m H'/\Ext cm1 m2 H1 cm m H'/\OkR X.K (Z1 (λenv m=>ex call gv sb env m) tg (ts.drop (i+1)) env m) xr cm m H' P,
      λσ' H' hN=>⟨ts.length-(i+1),by omega,rfl,hN⟩,λv H' y=>?_⟩
     obtain⟨xy,My,rt⟩:=hy v H' y
     have hE:=hE.ext xy M My
     have xx:=xx.trans xy
     have hq:=OkR.shift hq xy
     have M:=My
     split at hq
     ·exact hq.elim
     ·rename_i env' eb
      have:=Zh9 (ZjF (Q:=λσ' H2=>H2=H'/\EnvR X.K cm m H' env' σ') hE (λj hj=>by rw[hl];exact ht j hj) rt eb λσ' hE' _=>⟨rfl,hE'⟩)
      have mono:∀{Q Q':L2.St->Hp->Prop},gT X.K tg v σ H' Q->(∀σ' H',Q σ' H'->Q' σ' H')->gT X.K tg v σ H' Q':=λ{Q Q'} h f=>by
       cases tg with
       |nm j=>exact f _ _ h
       |tp is =>
        obtain⟨a1,xs,z1,z2,z3,z4⟩:=h
        exact⟨a1,xs,z1,z2,z3,f _ _ z4⟩
      refine mono this ?_
      rintro σ2 H2 ⟨hl2,e2,hE2⟩
      subst e2
      refine⟨hl2.trans hl,env',cm,m,hE2,M,hq.bind.mono λfl cm3 m3 H3 x3 M3 o3=>?_⟩
      cases fl with
      |next env3=>exact λσ3 hl3 hE3=>⟨hl3,env3,cm3,m3,hE3,M3,xx.trans x3,o3⟩
      |cont env3=>exact λσ3 hl3 hE3=>⟨hl3,env3,cm3,m3,hE3,M3,xx.trans x3,o3⟩
      |brk env3=>exact λσ3 hl3 hE3=>fin env3 cm3 m3 H3 σ3 hl3 hE3 M3 (xx.trans x3) (OkR.now (a:=Flow.next env3) o3 M3)
      |ret w =>
       intro v3 rv3
       have hP:P (.ret w) cm3 m3 H3:=OkR.now (a:=Flow.ret w) o3 M3
       obtain⟨xg,Mg,fg⟩:=J1 M1 hbr (xx.trans x3) M3
       refine OkR.to (a:=Flow.ret w) (m':=giveBack x m1 m3) hP xg Mg v3 ?_
       cases w with
       |t t=>exact fg t v3 rv3
       |f a=>exact rv3
       |x _ _ _=>exact XF.wsame fg rv3
       |c j=>exact rv3
end
noncomputable def Ahead(h:Heap)(e:Addr)(mk hd:Value):Prop:=hd=.none∨∃T oT ts,hd=.ref T/\T≠e/\h.get? T=some oT/\oT.data=.fields ts/\ts[3]?=some mk
theorem Xv{o:Obj}{vs:Array Value}(h:o.data=.fields vs)(f:Array Value->Array Value):o.mapFields f={ o with data:=.fields (f vs) }:=by
 obtain⟨c,d,dt,sl⟩:=o
 cases h
 rfl
structure Noted (fr:List Addr) (h:Heap) (e:Addr) (oe:Obj) (mk:Value) (h':Heap):Prop where
 keep:∀b o,b∉fr->b≠e->h.get? b=some o->h'.get? b=some o
 slot:∀b o,b∈fr->h.get? b=some o->∃sl,h'.get? b=some { o with slots:=sl }
 new:∃T oT ts vs,h.get? T=none/\T≠e/\h'.get? T=some oT/\oT.data=.fields ts/\ts[3]?=some mk/\h'.get? e=some { oe with data:=.fields vs }/\vs[1]?=some (.ref T)
section
variable{M:Model}{A:Around}{E:Value->Shared->Prop}{s:Shared}{base:Heap}{env:PySem.Env}{outer:List PySem.Env}{L e:Addr}{oe:Obj}{vs:Array Value}{hd:Value}{Q:Unit->Shared->Prop}
theorem ZfS{before:Bool}(hfr:A.frames=some (env::outer))(hl:s.heap.FunFrames base (env::outer))(hf:env.frame=some L)(he:s.heap.get? e=some oe)(hv:oe.data=.fields vs)(h1:1<vs.size)(k:∀h':Heap,Noted (frs (env::outer)) s.heap e oe (rawInt L) h'->Q () { s with heap:=h' }):
  wpAny M A (do
   let a <-frameOf env
   let pl <-entryPlaceOf L before
   let b <-EntryCells.newEntry hd a .none (rawInt L) .none pl
   setField (.ref e) 1 b) Q E s:=by
 have ne:e∉frs (env::outer):=λhm=>by
  obtain⟨_,o,q,nf⟩:=hl.mem hm
  rw[he]at q;cases q
  exact nf vs hv
 refine wpAny_bind (wpAny_frameOf_fun hfr hl hf λh1' so=>?_)
 refine wpAny_bind (wpAny_entryPlaceOf λpl hp=>?_)
 unfold EntryCells.newEntry newFields
 refine wpAny_bind (wpAny_newObj_type ?_ (hp.sizeOk5 _ _ _ _ _))
 have e1:h1'.get? e=some oe:=(so.2.1 e ne).trans he
 generalize hob:({ cls:=.type "traceback",dict:=none,data:=.fields ([hd,.ref L,.none,rawInt L,.none]++(if pl.isEmpty then List.replicate 6 Value.none else pl)).toArray }:Obj)=ob
 have e2:=Heap.get?_push_of_some (h:=h1') ob e1
 have obf:ob.isFreed=false:=by rw[<-hob];rfl
 refine wpAny_setField e2 hv h1 (k _ ?_)
 have nT:h1'.objs.size≠e:=Nat.ne_of_gt (Heap.lt_size e1)
 have kp:∀b o,b≠e->h1'.get? b=some o->((h1'.push ob).update e (Obj.mapFields (·.setIfInBounds 1 (Value.ref h1'.objs.size)))).get? b=some o:=λb o hb q=>by
  rw[Heap.get?_update_other _ _ (Ne.symm hb)]
  exact Heap.get?_push_of_some _ q
 refine⟨λb o hb hbe q=>kp b o hbe ((so.2.1 b hb).trans q),λb o hb q=>?_,?_⟩
 ·obtain⟨sl,z⟩:=so.2.2 b o q
  exact⟨sl,kp b _ (λy=>ne (y▸hb)) z⟩
 ·refine⟨h1'.objs.size,ob,_,vs.setIfInBounds 1 (Value.ref h1'.objs.size),Heap.get?_none_of_le (by rw[so.1];exact Nat.le_refl _),nT,?_,by rw[<-hob],?_,?_,?_⟩
  ·rw[Heap.get?_update_other _ _ (Ne.symm nT)]
   exact Heap.get?_push_size _ obf
  ·simp
  ·rw[Heap.get?_update_self _ e2 (Obj.isFreed_of_fields (Obj.data_mapFields hv _)),Xv hv]
  ·simp[h1]
theorem note_x(hfr:A.frames=some (env::outer))(hl:s.heap.FunFrames base (env::outer))(hf:env.frame=some L)(he:s.heap.get? e=some oe)(hv:oe.data=.fields vs)(h1:vs[1]?=some hd)(ah:Ahead s.heap e .none hd)(k:∀h':Heap,Noted (frs (env::outer)) s.heap e oe (rawInt L) h'->Q () { s with heap:=h' }):wpAny M A (noteFrame (.ref e) env) Q E s:=by
 have hz:1<vs.size:=(Array.getElem?_eq_some_iff.mp h1).1
 unfold noteFrame
 simp only[hf]
 refine wpAny_bind (wpAny_field he hv h1 ?_)
 rcases ah with rfl|⟨T,oT,ts,rfl,ne,hT,dT,mT⟩
 ·rw[if_neg (by decide)]
  exact ZfS hfr hl hf he hv hz k
 ·rw[if_pos (show(Value.ref T != Value.none)=true from by simp)]
  refine wpAny_bind (wpAny_field hT dT mT ?_)
  rw[if_neg (show ¬((Value.none==rawInt L)=true)from by simp[rawInt])]
  refine wpAny_bind (wpAny_setField hT dT (Array.getElem?_eq_some_iff.mp mT).1 ?_)
  rw[Heap.update_setField_same s.heap T oT ts 3 .none hT dT mT]
  exact ZfS hfr hl hf he hv hz k
theorem Zhp{T:Addr}{oT:Obj}{ts:Array Value}{mk:Value}(he:s.heap.get? e=some oe)(hv:oe.data=.fields vs)(h1:vs[1]?=some (.ref T))(hT:s.heap.get? T=some oT)(dT:oT.data=.fields ts)(mT:ts[3]?=some mk)(k:∀h':Heap,(∀b,b≠T->h'.get? b=s.heap.get? b)->h'.get? T=some { oT with data:=.fields (ts.setIfInBounds 3 .none) }->Q () { s with heap:=h' }):wpAny M A (setFlight (.ref e) none) Q E s:=by
 unfold setFlight
 refine wpAny_bind (wpAny_field he hv h1 ?_)
 rw[if_pos (show(Value.ref T != Value.none)=true from by simp)]
 refine wpAny_setField hT dT (Array.getElem?_eq_some_iff.mp mT).1 (k _ (λb hb=>Heap.get?_update_other _ _ (Ne.symm hb)) ?_)
 rw[Heap.get?_update_self _ hT (Obj.isFreed_of_fields (Obj.data_mapFields dT _)),Xv dT]
 rfl
end
noncomputable def xeP(e C:Addr)(dx:Option Addr)(hd:Value)(h:Heap):Prop:=∃oe vs,h.get? e=some oe/\oe.cls=.ref C/\oe.dict=dx/\oe.data=.fields vs/\vs[1]?=some hd
noncomputable def xtP(T:Addr)(h:Heap):Prop:=∃oT ts,h.get? T=some oT/\oT.data=.fields ts/\ts[3]?=some .none
structure Air (P:Program) (w:World) (fr:List Addr) (H:Hp) (s:Shared) (H':Hp) (e C:Addr) (dx:Option Addr) (s':Shared):Prop where
 os:s'.os=s.os
 bare:AllBare s'.gens
 un:Un fr [] H H' s.heap s'.heap
 hok:HOk P w H' s'.heap
 no:H' e=none
 new:s.heap.get? e=none
 at':∃hd,xeP e C dx hd s'.heap/\(hd=.none∨∃T,hd=.ref T/\T≠e/\xtP T s'.heap)
section
variable{P:Program}{w:World}{M:Model}{A:Around}{E:Value->Shared->Prop}{s s':Shared}{H H':Hp}{base:Heap}{env:PySem.Env}{outer:List PySem.Env}{L e C:Addr}{dx:Option Addr}{Q:Unit->Shared->Prop}
theorem land(a:Air P w (frs (env::outer)) H s H' e C dx s')(fre:∀b∈frs (env::outer),H' b=none)(hfr:A.frames=some (env::outer))(hl:s'.heap.FunFrames base (env::outer))(hf:env.frame=some L)(k:∀(h':Heap) (T:Addr),Air P w (frs (env::outer)) H s H' e C dx { s' with heap:=h' }->xeP e C dx (.ref T) h'->xtP T h'->T≠e->Q () { s' with heap:=h' }):
  wpAny M A (noteFrame (.ref e) env) (λ_ s1=>wpAny M A (setFlight (.ref e) none) Q E s1) E s':=by
 obtain⟨hd,⟨oe,vs,q1,q2,q3,q4,q5⟩,ah⟩:=a.at'
 refine note_x hfr hl hf q1 q4 q5 ?_ λh1 N=>?_
 ·rcases ah with rfl|⟨T,rfl,ne,oT,ts,z⟩
  ·exact .inl rfl
  ·exact .inr ⟨T,oT,ts,rfl,ne,z⟩
 obtain⟨T,oT,ts,vs',a1,a2,a3,a4,a5,a6,a7⟩:=N.new
 refine Zhp (s:={ s' with heap:=h1 }) a6 rfl a7 a3 a4 a5 λh2 k2 hT=>?_
 have neT:∀b o,s'.heap.get? b=some o->b≠T:=λb o q z=>by rw[z,a1]at q;cases q
 have kp:∀b o,b∉frs (env::outer)->b≠e->s'.heap.get? b=some o->h2.get? b=some o:=λb o hb hbe q=>(k2 b (neT b o q)).trans (N.keep b o hb hbe q)
 have sl:∀b o,b∈frs (env::outer)->s'.heap.get? b=some o->∃sl,h2.get? b=some { o with slots:=sl }:=λb o hb q=>by
  obtain⟨sl,z⟩:=N.slot b o hb q
  exact⟨sl,(k2 b (neT b o q)).trans z⟩
 have nb:∀b o,s.heap.get? b=some o->b≠e:=λb o q z=>by rw[z,a.new]at q;cases q
 have xe2:xeP e C dx (.ref T) h2:=⟨_,vs',(k2 e (Ne.symm a2)).trans a6,q2,q3,rfl,a7⟩
 have xt2:xtP T h2:=⟨_,_,hT,rfl,by simp[(Array.getElem?_eq_some_iff.mp a5).1]⟩
 refine k h2 T ⟨a.os,a.bare,⟨λb o q n hb hx=>kp b o hb (nb b o q) (a.un.keep b o q n hb hx),λb o q n hb hx=>?_,a.un.free,λb o q hx=>?_,a.un.tups,a.un.frzs,a.un.tbls⟩,λb u q=>?_,a.no,a.new,_,xe2,.inr ⟨T,rfl,a2,xt2⟩⟩ xe2 xt2 a2
 ·obtain⟨s1,e1⟩:=a.un.slot b o q n hb hx
  obtain⟨s2,e2⟩:=sl b _ hb e1
  exact⟨s2,e2⟩
 ·obtain⟨o',e1⟩:=a.un.there b o q hx
  by_cases hb:b∈frs (env::outer)
  ·obtain⟨s2,e2⟩:=sl b _ hb e1
   exact⟨_,e2⟩
  ·exact⟨_,kp b o' hb (nb b o q) e1⟩
 ·refine(a.hok b u q).stay (λc v hc r=>kp c v ?_ ?_ r) (λ_ z=>z) λ_ _ z=>z
  ·intro hm
   rcases hc with rfl|hc
   ·rw[fre _ hm]at q;cases q
   ·rw[fre _ hm]at hc;cases hc
  ·rintro rfl
   rcases hc with rfl|hc
   ·rw[a.no]at q;cases q
   ·rw[a.no]at hc;cases hc
theorem Zfu(a:Air P w (frs (env::outer)) H s H' e C dx s')(fre:∀b∈frs (env::outer),H' b=none)(hfr:A.frames=some (env::outer))(hl:s'.heap.FunFrames base (env::outer))(hf:env.frame=some L)(k:∀h':Heap,Air P w (frs (env::outer)) H s H' e C dx { s' with heap:=h' }->Q () { s' with heap:=h' }):wpAny M A (leaving env (.ref e)) Q E s':=by
 unfold leaving
 exact wpAny_bind (land a fre hfr hl hf λh' T a' _ _ _=>k h' a')
end
noncomputable def CXF(P:Program)(w:World):CXT:=λouter H s E ev s'=>∃e C dx H',ev=.ref e/\Air P w (frs outer) H s H' e C dx s'/\E (.ref C) dx H'
noncomputable def Lk(X:Cx)(xr:XR):Prop:=∀(pins:List (Addr×Obj)) (σ:L2.St) (H:Hp) (s:Shared) (H':Hp) (e:Addr) (dx:Option Addr) (s':Shared) (cm:List Addr) (m:Mem) (x:Exc),Inv X pins σ H s ->
 Air X.prog X.w (frs X.stack) H s H' e x.cls dx s'->MemR X.K cm m H'->XF X.K cm m H' x.nms x.flds dx->xr x cm m H'->X.xe (.ref e) s'
theorem lk0{X:Cx}:Lk X xr0:=λ_ _ _ _ _ _ _ _ _ _ _ _ _ _ _ h=>h.elim
noncomputable abbrev asX(X:Cx)(xe:Value->Shared->Prop)(pn:List (Addr×Obj)):Cx:={ X with xe:=xe,pn:=pn }
structure Go (X:Cx) (xr:XR):Prop where
 lk:Lk X xr
 po:PassesOwn (model X.prog X.w) X.A X.env X.xe
section
variable{K:Frag}{cm cm':List Addr}{m m':Mem}{H H' H'':Hp}{X:Cx}
variable(K) in
noncomputable def xrE(E:XK):XR:=λx cm m H=>∀dx,XF K cm m H x.nms x.flds dx->E (.ref x.cls) dx H
variable(K) in
noncomputable def EX(xr:XR):XK:=λcls dx H=>∃cm m x,MemR K cm m H/\cls=.ref x.cls/\XF K cm m H x.nms x.flds dx/\xr x cm m H
theorem Lk.passes{xr:XR}(h:Lk X xr):Zgi (CXF X.prog X.w) X (EX X.K xr):=λpins σ H s ev s' I ⟨e,C,dx,H',he,air,cm,m,x,M,hc,hf,q⟩=>by
 subst he
 cases hc
 exact h pins σ H s H' e dx s' cm m x I air M hf q
theorem OkR.monoX{α:Type}{r:Res α}{xr xr':XR}{k:α->List Addr->Mem->Hp->Prop}(h:OkR K r xr cm m H k)(f:∀x cm' m' H',Ext cm m H cm' m' H'->MemR K cm' m' H'->xr x cm' m' H'->xr' x cm' m' H'):OkR K r xr' cm m H k:=by
 cases r with
 |ok a m2=>exact h
 |exc a m2=>exact λc h' e M=>f _ _ _ _ e M (h c h' e M)
 |stuck=>exact h
theorem OkR.toE{α:Type}{r:Res α}{xr:XR}{k:α->List Addr->Mem->Hp->Prop}(h:OkR K r xr cm m H k):OkR K r (xrE K (EX K xr)) cm m H k:=
 h.monoX λx cm' m' H' _ M q dx hf=>⟨cm',m',x,M,rfl,hf,q⟩
theorem Zin{fs:List Addr}{H0 H1 H2:Hp}{h0 h1 h2:Heap}{L:Addr}(a:Un fs [] H0 H1 h0 h1)(b:Un (L::fs) [] H1 H2 h1 h2)(hL:h0.get? L=none):Un fs [] H0 H2 h0 h2 where
 keep:=λc ob q n hc hx=>b.keep c ob (a.keep c ob q n hc hx) (a.free c ob q n hx) (λz=>(List.mem_cons.mp z).elim (λz=>by rw[z,hL]at q;cases q) hc) hx
 slot:=λc ob q n hc hx=>by
  obtain⟨sl,e1⟩:=a.slot c ob q n hc hx
  obtain⟨sl',e2⟩:=b.slot c _ e1 (a.free c ob q n hx) (List.mem_cons_of_mem _ hc) hx
  exact⟨sl',e2⟩
 free:=λc ob q n hx=>by
  obtain⟨o',e1⟩:=a.there c ob q hx
  exact b.free c o' e1 (a.free c ob q n hx) hx
 there:=λc ob q hx=>by
  obtain⟨o',e1⟩:=a.there c ob q hx
  exact b.there c o' e1 hx
 tups:=λc xs q=>b.tups c xs (a.tups c xs q)
 frzs:=λc ob xs q=>b.frzs c ob xs (a.frzs c ob xs q)
 tbls:=λc ps q=>by
  obtain⟨m1,e1⟩:=a.tbls c ps q
  obtain⟨m2,e2⟩:=b.tbls c _ e1
  exact⟨m1++m2,by rw[e2,Array.append_assoc]⟩
end
theorem Inv.air{X:Cx}{pins:List (Addr×Obj)}{σ:L2.St}{H H':Hp}{s s':Shared}{e C:Addr}{dx:Option Addr}(I:Inv X pins σ H s)(a:Air X.prog X.w (frs X.stack) H s H' e C dx s'):Inv X pins σ H' s':=
 I.call' (ch:=[]) a.os a.un a.hok a.bare λb z=>absurd z (by simp)
theorem ZjD{P:Program}{w:World}{K:Frag}{mg:Str->Option Value}{base:Heap}{N:List Str}{qual:Str}{scope:Scope}{f:Addr}{cd:Value}{A:Around}{outer:List PySem.Env}{s:Shared}{H:Hp}{E:XK}:
  Go (cxOf (CXF P w) P w K mg base N qual scope f cd A outer s H E) (xrE K E):=by
 refine⟨λpins σ H1 s1 H' e dx s' cm m x I a M hf q=>?_,PassesOwn.leaving⟩
 have I':=Inv.air I a
 have gone:s.heap.get? e=none:=by
  cases y:s.heap.get? e with
  |none=>rfl
  |some o =>
   obtain⟨o',y'⟩:=I.base.there e o y (by intro z;cases z)
   rw[a.new]at y';cases y'
 refine Zfu a I'.stkFree I'.ok.frames I'.stack rfl λh' a'=>?_
 exact⟨e,x.cls,dx,H',rfl,⟨I'.os,a'.bare,Zin I.base a'.un (Heap.get?_none_of_le (Nat.le_refl _)),a'.hok,a'.no,gone,a'.at'⟩,q dx hf⟩
theorem ZjH{P:Program}{w:World}{K:Frag}{mg:Str->Option Value}{base:Heap}{x qual:Str}{st:Stmt}{f:Addr}{fd:FuncData}{N ps:List Str}{k:Nat}{sp:Sp}(F:Fun K x qual st f fd)(S:FnScope N ps (Zd st))(len:∀vs H Q E,sp vs H Q E->vs.length=ps.length)(hbody:∀(cdv:Value),codeIn K cdv qual=true->∀(A:Around) (outer:List PySem.Env) (s:Shared) (H:Hp) (vs:List V) (Q:VK) (E:XK),Room (k+1) A->HOk P w H s.heap->sp vs H Q E ->
  ∃t,PSs (cxOf (CXF P w) P w K mg base N qual (Zd st) f cdv A outer s H E) (Z6 st) t/\t { nx:=λ_ H'=>Q .non H',rt:=Q } (start N vs) H):FnOk P w K mg base (CXF P w) (k+1) f fd ps sp:=by
 obtain⟨oc,od,kV,doc,pm,an,cdv,ct,osl,rfl,lk,hcd⟩:=F.ex
 exact fn_of lk hcd S len λA outer s H vs Q E hr hk hsp=>hbody cdv hcd A outer s H vs Q E hr hk hsp
noncomputable def spF(K:Frag)(fns:List Fn)(gv:List T)(k f:Nat):Sp:=λvs H Q E=>∃cm m ws,MemR K cm m H/\RWs K cm m H ws vs/\OkR K (Jf fns gv k f ws m) (xrE K E) cm m H λw cm' m' H'=>∀v,RW K cm' m' H' w v->Q v H'
noncomputable def FOk(P:Program)(w:World)(K:Frag)(mg:Str->Option Value)(base:Heap)(fns:List Fn)(gv:List T)(k:Nat)(x:Str)(fi:Nat):Prop:=
 ∃f fd ps,mg x=some (.ref f)/\keepIn K (.ref f)=true/\Binds K fd ps []/\FnOk P w K mg base (CXF P w) k f fd ps (spF K fns gv k fi)
section
variable{K:Frag}{cm cm':List Addr}{m m':Mem}{H H':Hp}{X:Cx}{fns:List Fn}{gv:List T}
variable{a b c e:Expr}{es:List Expr}{ea eb ec:E}{eas:Es}{pos p p2:Pos}{k n:Nat}
theorem Zg5{fi:Nat}{x:Str}{xr:XR}(lk:Lk X xr)(F:FOk X.prog X.w X.K X.mg X.base fns gv k x fi)(hr:Room k X.A)(hg:Gl X x)(ha:PA X (e::es) (tA X.K (Jf fns gv k) gv xr eas))(hdb:(x==("__debug__" : Str))=false:=by decide)(he:notStar e=true:=by rfl)(hpl:es.all notStar=true:=by rfl):
  PE X (.Call (.Name x p) (e::es) [] pos) (tE X.K (Jf fns gv k) gv xr (.call fi eas)):=by
 obtain⟨f,fd,ps,hm,hk,hb,F⟩:=F
 refine PE.mono (Zi6 F hr hg hm hk hb (dvs:=[]) .nil (E:=EX X.K xr) lk.passes ha hdb (Qn he) (Xl hpl)) ?_
 rintro σ H Q ⟨env,cm,m,hE,M,ho⟩
 rw[ev]at ho
 refine⟨env,cm,m,hE,M,ho.bind.mono λws cm1 m1 H1 x1 M1 o1 vs rvs=>?_⟩
 show spF X.K fns gv k fi (vs++[]) H1 Q (EX X.K xr)
 rw[List.append_nil]
 exact⟨cm1,m1,ws,M1,rvs,o1.toE⟩
theorem Qv{i n:Nat}{c:Bool×List T}(h:(m.take n)[i]?=some (some c)):m[i]?=some (some c)/\i<n:=by
 rw[List.getElem?_take]at h
 split at h
 ·exact⟨h,‹_›⟩
 ·cases h
theorem Qf{i n:Nat}(h:i<n):(cm.take n)[i]?=cm[i]?:=by rw[List.getElem?_take,if_pos h]
theorem Q6{n:Nat}{a:Addr}(h:Zo cm m a):Zo (cm.take n) (m.take n) a:=λi q e=>by
 obtain⟨e1,hi⟩:=Qv e
 rw[Qf hi]
 exact h i q e1
theorem Zgr(M:MemR K cm m H)(n:Nat):MemR K (cm.take n) (m.take n) H/\∀t v,RT K cm m H t v->RT K (cm.take n) (m.take n) H t v:=by
 have sm:∀t v,RT K cm m H t v->RT K (cm.take n) (m.take n) H t v:=λt v r=>r.same (λ_ _ z=>z) λ_ z _=>Q6 z
 refine⟨⟨by rw[List.length_take,List.length_take,M.len],λi j a q r e1 e2 f1 f2=>?_,λi q e=>?_,M.tab⟩,sm⟩
 ·obtain⟨e1,h1⟩:=Qv e1
  obtain⟨e2,h2⟩:=Qv e2
  rw[Qf h1]at f1
  rw[Qf h2]at f2
  exact M.inj i j a q r e1 e2 f1 f2
 ·obtain⟨e1,h1⟩:=Qv e
  obtain⟨a,vs,q1,q2,q3,q4⟩:=M.at' i q e1
  exact⟨a,vs,by rw[Qf h1];exact q1,q2,q3,Zf (λ_ _ z=>sm _ _ z) q4⟩
theorem Zgs(M:MemR K cm m H)(x:Ext cm m H cm' m' H'):Ext cm m H (cm'.take m.length) (m'.take m.length) H':=by
 refine⟨λi a h=>?_,by rw[List.length_take];have:=x.len;omega,λi ts h=>?_,λa o h n=>⟨(x.keep a o h n).1,Q6 (x.keep a o h n).2⟩⟩
 ·have hi:=(List.getElem?_eq_some_iff.mp h).1
  rw[M.len]at hi
  rw[Qf hi]
  exact x.pre i a h
 ·have hi:=(List.getElem?_eq_some_iff.mp h).1
  rw[List.getElem?_take,if_pos hi]
  exact x.lent i ts h
theorem fin_ok{xr:XR}{cell:Bool}{fl:Flow}{Q:VK}{nn:Nat}(M:MemR K cm m H)(x:Ext cm m H cm' m' H')(M':MemR K cm' m' H')(ho:OkR K (fin m.length cell fl m') xr cm m H λw cm' m' H'=>∀v,RW K cm' m' H' w v->Q v H'):
  Zcz K nn { nx:=λ_ H'=>Q .non H',rt:=Q } fl cm' m' H':=by
 obtain⟨Mt,st⟩:=Zgr M' m.length
 have xt:=Zgs M x
 cases fl with
 |next env=>exact λσ _ _=>OkR.to (a:=W.t .non) ho xt Mt _ .non
 |brk env=>exact ho.elim
 |cont env=>exact ho.elim
 |ret w =>
  intro v rv
  cases w with
  |t t=>exact OkR.to (a:=W.t t) ho xt Mt v (st t v rv)
  |f a=>exact ho.elim
  |x _ _ _=>exact ho.elim
  |c i =>
   unfold fin at ho
   dsimp only at ho
   split at ho
   ·rename_i hi
    obtain⟨a,h1,h2⟩:=rv
    exact OkR.to ho xt Mt v ⟨a,by rw[Qf hi];exact h1,h2⟩
   ·rename_i hi
    split at ho
    ·rename_i ts e
     obtain⟨a,h1,h2⟩:=rv
     obtain⟨a',vs,q1,q2,q3,q4⟩:=M'.at' i _ e
     rw[h1]at q1;cases q1
     have na:Zo (cm'.take m.length) (m'.take m.length) a:=λj q ej z=>by
      obtain⟨ej,hj⟩:=Qv ej
      rw[Qf hj]at z
      have:=M'.inj j i a _ _ ej e z h1
      omega
     have lt:(cm'.take m.length).length=m.length:=by rw[List.length_take,M'.len];have:=x.len;omega
     have lm:(m'.take m.length).length=m.length:=by rw[List.length_take];have:=x.len;omega
     split at ho
     ·-- a list that may change is handed back
      have nl:∀b,Zo cm' m' b->Zo (cm'.take m.length++[a]) (m'.take m.length++[some (false,ts)]) b:=λb n=>by
       refine Zak (by rw[lt,lm]) (Q6 n) λz=>?_
       subst z
       exact n i _ e h1
      have sm:∀t v,RT K cm' m' H' t v->RT K (cm'.take m.length++[a]) (m'.take m.length++[some (false,ts)]) H' t v:=λt v r=>r.same (λ_ _ z=>z) λb z _=>nl b z
      have cs:∀{j:Nat}{c:Bool×List T},(m'.take m.length++[some (false,ts)])[j]?=some (some c)->((m'.take m.length)[j]?=some (some c)/\j<m.length)∨(j=m.length/\c=(false,ts)):=λ{j c} ej=>by
       by_cases hj:j<m.length
       ·rw[List.getElem?_append_left (by rw[lm];exact hj)]at ej
        exact .inl ⟨ej,hj⟩
       ·by_cases hj2:j=m.length
        ·subst hj2
         rw[List.getElem?_append_right (by rw[lm];exact Nat.le_refl _),lm,Nat.sub_self]at ej
         cases ej
         exact .inr ⟨rfl,rfl⟩
        ·rw[List.getElem?_eq_none (by rw[List.length_append,lm];simp;omega)]at ej
         cases ej
      have cl:∀{j:Nat},j<m.length->(cm'.take m.length++[a])[j]?=(cm'.take m.length)[j]?:=λ{j} hj=>List.getElem?_append_left (by rw[lt];exact hj)
      have cp:(cm'.take m.length++[a])[m.length]?=some a:=by
       rw[List.getElem?_append_right (by rw[lt];exact Nat.le_refl _),lt,Nat.sub_self]
       rfl
      refine OkR.to (cm':=cm'.take m.length++[a]) ho ⟨λj b h=>?_,by rw[List.length_append,lm];simp,λj us h=>?_,λb o h nb=>⟨(x.keep b o h nb).1,nl b (x.keep b o h nb).2⟩⟩ ⟨by rw[List.length_append,List.length_append,lt,lm];rfl,λj1 j2 b c1 c2 e1 e2 f1 f2=>?_,λj c ej=>?_,M'.tab⟩ v ⟨a,cp,h2⟩
      ·have hj:=(List.getElem?_eq_some_iff.mp h).1
       rw[M.len]at hj
       rw[cl hj]
       exact xt.pre j b h
      ·have hj:=(List.getElem?_eq_some_iff.mp h).1
       rw[List.getElem?_append_left (by rw[lm];exact hj)]
       exact xt.lent j us h
      ·rcases cs e1 with⟨g1,l1⟩|⟨k1,_⟩
       ·rw[cl l1]at f1
        rcases cs e2 with⟨g2,l2⟩|⟨k2,_⟩
        ·rw[cl l2]at f2
         exact Mt.inj j1 j2 b _ _ g1 g2 f1 f2
        ·rw[k2,cp]at f2;cases f2
         exact absurd f1 (na j1 _ g1)
       ·rw[k1,cp]at f1;cases f1
        rcases cs e2 with⟨g2,l2⟩|⟨k2,_⟩
        ·rw[cl l2]at f2
         exact absurd f2 (na j2 _ g2)
        ·rw[k1,k2]
      ·rcases cs ej with⟨g,l⟩|⟨kk,z⟩
       ·obtain⟨gg,_⟩:=Qv g
        obtain⟨b,ws,w1,w2,w3,w4⟩:=M'.at' j c gg
        exact⟨b,ws,by rw[cl l,Qf l];exact w1,w2,w3,Zf (λ_ _ z=>sm _ _ z) w4⟩
       ·rw[kk,z]
        exact⟨a,vs,cp,q2,q3,Zf (λ_ _ z=>sm _ _ z) q4⟩
     ·subst h2
      exact OkR.to (a:=W.t (.lst ts)) ho xt Mt _ (RT.mlst q2 na (Zf (λ_ _ z=>st _ _ z) q4))
    ·exact ho.elim
theorem Ziu{N:List Str}{ws:List W}{vs:List V}{j:Nat}(r:RWs K cm m H ws vs)(hj:j=N.length-vs.length):EnvR K cm m H (ws.map some++List.replicate j none) (L2.start N vs):=λi w e=>by
 unfold L2.start
 have hl:=r.length
 by_cases hi:i<ws.length
 ·rw[List.getElem?_append_left (by simpa using hi),List.getElem?_map]at e
  cases q:ws[i]? with
  |none=>rw[q]at e;cases e
  |some w' =>
   rw[q]at e;cases e
   obtain⟨v,h1,h2⟩:=Zt r q
   refine⟨v,?_,h2⟩
   rw[List.getElem?_append_left (by rw[List.length_map];omega),List.getElem?_map,h1]
   rfl
 ·rw[List.getElem?_append_right (by simpa using hi),List.getElem?_replicate]at e
  split at e<;>cases e
theorem Zey{N:List Str}{vs:List V}(h:vs.length<=N.length):(L2.start N vs).length=N.length:=by
 unfold L2.start
 rw[List.length_append,List.length_map,List.length_replicate]
 omega
theorem Zic{P:Program}{w:World}{mg:Str->Option Value}{base:Heap}{x qual:Str}{st:Stmt}{f:Addr}{fd:FuncData}{N ps:List Str}{fi:Nat}{d:Fn}(F:Fun K x qual st f fd)(S:FnScope N ps (Zd st))(hd:fns[fi]?=some d)(hps:d.ps=ps.length)(hn:d.n=N.length)(hbody:∀(cdv:Value),codeIn K cdv qual=true->∀(A:Around) (outer:List PySem.Env) (s:Shared) (H:Hp) (E:XK),Room (k+1) A->∀(xe:Value->Shared->Prop) (pn:List (Addr×Obj)) (xr:XR),
   Go (asX (cxOf (CXF P w) P w K mg base N qual (Zd st) f cdv A outer s H E) xe pn) xr->PSs (asX (cxOf (CXF P w) P w K mg base N qual (Zd st) f cdv A outer s H E) xe pn) (Z6 st) (tS K (Jf fns gv k) gv xr N.length d.body)):
  FnOk P w K mg base (CXF P w) (k+1) f fd ps (spF K fns gv (k+1) fi):=by
 have hpl:ps.length<=N.length:=by have:=congrArg List.length S.pre;rw[List.length_take]at this;omega
 have len:∀{ws:List W}{m:Mem}{cm:List Addr}{H:Hp}{xr:XR}{post:W->List Addr->Mem->Hp->Prop},OkR K (Jf fns gv (k+1) fi ws m) xr cm m H post->ws.length=d.ps/\OkR K ((ex (Jf fns gv k) gv d.body (ws.map some++List.replicate (d.n-d.ps) none) m).bind λfl m'=>fin m.length d.cell fl m') xr cm m H post:=λ{ws m cm H xr post} h=>by
  rw[Jf,hd]at h
  dsimp only at h
  by_cases hc:ws.length=d.ps
  ·rw[if_pos hc]at h;exact⟨hc,h⟩
  ·rw[if_neg hc]at h;exact h.elim
 refine ZjH F S (λvs H Q E ⟨cm,m,ws,M,r,ho⟩=>by rw[<-r.length,(len ho).1,hps]) (λcdv hcd A outer s H vs Q E hr hk ⟨cm,m,ws,M,r,ho⟩=>?_)
 obtain⟨hl,ho⟩:=len ho
 have hv:vs.length=ps.length:=by rw[<-r.length,hl,hps]
 refine⟨_,hbody cdv hcd A outer s H E hr _ _ (xrE K E) ZjD,Zey (by omega),ws.map some++List.replicate (d.n-d.ps) none,cm,m,Ziu r (by rw[hn,hps,hv]),M,?_⟩
 exact ho.bind0.mono λfl cm1 m1 H1 x1 M1 o1=>fin_ok M x1 M1 o1
theorem fn_okW{P:Program}{w:World}{mg:Str->Option Value}{base:Heap}{x qual:Str}{st:Stmt}{f:Addr}{fd:FuncData}{N ps:List Str}{fi:Nat}{d:Fn}(F:Fun K x qual st f fd)(S:FnScope N ps (Zd st))(hd:fns[fi]?=some d)(hps:d.ps=ps.length)(hn:d.n=N.length)(hbody:∀(cdv:Value) (A:Around) (outer:List PySem.Env) (s:Shared) (H:Hp) (E:XK),Room k (A.deeper (envOfC qual (Zd st) s.heap.objs.size f cdv))->∀(xe:Value->Shared->Prop) (pn:List (Addr×Obj)) (xr:XR),
   Go (asX (cxOf (CXF P w) P w K mg base N qual (Zd st) f cdv A outer s H E) xe pn) xr->PSs (asX (cxOf (CXF P w) P w K mg base N qual (Zd st) f cdv A outer s H E) xe pn) (Z6 st) (tS K (Jf fns gv k) gv xr N.length d.body)):
  FnOk P w K mg base (CXF P w) (k+1) f fd ps (spF K fns gv (k+1) fi):=
 Zic F S hd hps hn λcdv _ A outer s H E hr=>hbody cdv A outer s H E (hr.deeper _)
theorem ZjK{P:Program}{w:World}{mg:Str->Option Value}{base:Heap}{f:Addr}{fd:FuncData}{ps:List Str}{fi:Nat}:FnOk P w K mg base (CXF P w) 0 f fd ps (spF K fns gv 0 fi):=by
 have no:∀vs H Q E,¬spF K fns gv 0 fi vs H Q E:=λvs H Q E ⟨cm,m,ws,M,r,ho⟩=>by
  rw[Jf]at ho
  exact ho
 exact⟨λvs H Q E h=>absurd h (no vs H Q E),λA outer s H args us vs Q E _ _ _ _ h=>absurd h (no vs H Q E)⟩
end
end Mi
namespace Mi
open PySem PySem.Spec PyProof.Rows L2 PySem.W
section
variable{X:Cx}{xr:XR}{call:Nat->List W->Mem->Res W}{gv:List T}{n:Nat}
noncomputable def unS(i:Option Nat)(σ:L2.St):L2.St:=match i with
 |some j=>σ.set j none
 |none=>σ
end
end Mi
namespace Mi
open PySem PySem.Spec PyProof.Rows L2
section
variable{K:Frag}{xr:XR}{X:Cx}{call:Nat->List W->Mem->Res W}{gv:List T}
variable{e:Expr}{ea:E}{pos:Pos}{rest:List Stmt}{k:S}{n:Nat}
theorem vr(i:Nat){x:Str}{pos:Pos}(hN:X.N[i]?=some x:=by rfl)(hv:Vis X.env.scope x:=by first|exact Or.inl rfl|exact Or.inr (Or.inl rfl)|exact Or.inr (Or.inr rfl))(hd:(x==("__debug__" : Str))=false:=by decide)(hcd:(x==("__classdict__" : Str))=false:=by decide):PE X (.Name x pos) (tE X.K call gv xr (.var i)):=ZiR hN hv hd hcd
theorem sg(i:Nat){x:Str}{px:Pos}(hN:X.N.Nodup)(h:PE X e (tE X.K call gv xr ea))(hk:PSs X rest (tS X.K call gv xr n k))(hn:X.N.length=n:=by rfl)(hi:X.N[i]?=some x:=by rfl)(hx:Loc X.env.scope x:=by first|exact Or.inl rfl|exact Or.inr rfl)(hs:swapsWith e (some (.Name x px)) pos.line X.env=pure false:=by rfl)(hf:X.fn x=true∨X.env.scope.names.lookup x=some .local:=by first|exact .inl rfl|exact .inr rfl):PSs X (.Assign [.Name x px] e pos::rest) (tS X.K call gv xr n (.asg i ea k)):=ZgL hN hn hi hx h hk hs hf
theorem Z5(i:Nat){x:Str}{pos:Pos}(hN:X.N.Nodup)(hi:X.N[i]?=some x:=by rfl)(hx:Loc X.env.scope x:=by first|exact Or.inl rfl|exact Or.inr rfl)(hf:X.fn x=true∨X.env.scope.names.lookup x=some .local:=by first|exact .inl rfl|exact .inr rfl):PG X (.Name x pos) (gT X.K (.nm i)):=Zbh hN hi hx hf
noncomputable def scOk(scope osc:Scope):Bool:=scope.kind==.function&&scope.names.all λp=>scope.names.lookup p.1==some p.2&&(p.2 != .free || osc.names.lookup p.1==some .cell || osc.names.lookup p.1==some .free)
noncomputable def ZbW(N' N:List Str)(own:Nat)(keep:List Nat)(scope:Scope):Bool:=N'.length==own+keep.length&&(List.range keep.length).all λi=>match N'[own+i]?,keep[i]? with
 |some x,some j=>N[j]?==some x&&scope.names.any λp=>p.1==x&&p.2==.free
 |_,_=>false
theorem Zhx{N':List Str}{scope:Scope}{own:Nat}{keep:List Nat}{elt target iter:Expr}{ifs:List Expr}{gs:List Comprehension}{it:E}{tg:Tg}{cs:Es}{inner:E}(h1:scOk scope X.env.scope=true)(h2:ZbW N' X.N own keep scope=true)(pi:PI X target iter (tI X.K call gv xr it))(fs:∀x,foldedSetIterable iter X.env x=pure x)(ins:Zgk X xr call gv N' scope elt target ifs (⟨target,iter,ifs,0⟩::gs) tg cs inner)(dis:∀i∈tgS tg,i∉innS inner)(slt:∀i∈tgS tg++innS inner,i<own):
  CompK X xr call gv N' scope own keep elt target iter ifs gs it tg cs inner:=by
 unfold scOk at h1
 rw[Bool.and_eq_true]at h1
 obtain⟨hk,h1⟩:=h1
 have h1:=List.all_eq_true.mp h1
 unfold ZbW at h2
 rw[Bool.and_eq_true]at h2
 obtain⟨hl,h2⟩:=h2
 have h2:=List.all_eq_true.mp h2
 refine⟨⟨eq_of_beq hk,λp hp=>?_,λx hx=>?_⟩,eq_of_beq hl,λi x e=>?_,pi,fs,ins,dis,slt⟩
 ·have:=h1 p hp
  simp only[Bool.and_eq_true]at this
  exact eq_of_beq this.1
 ·have:=h1 _ hx
  simp only[Bool.and_eq_true,Bool.or_eq_true]at this
  rcases this.2 with(h|h)|h
  ·cases h
  ·exact .inl (eq_of_beq h)
  ·exact .inr (eq_of_beq h)
 ·have hlen:N'.length=own+keep.length:=eq_of_beq hl
  have hi:i<keep.length:=by
   have:=(List.getElem?_eq_some_iff.mp e).1
   omega
  have h:=h2 i (List.mem_range.mpr hi)
  rw[e]at h
  cases q:keep[i]? with
  |none=>rw[q]at h;cases h
  |some j =>
   rw[q]at h
   have h:(X.N[j]?==some x&&scope.names.any λp=>p.1==x&&p.2==.free)=true:=h
   rw[Bool.and_eq_true]at h
   refine⟨j,rfl,eq_of_beq h.1,?_⟩
   obtain⟨p,hp,hq⟩:=List.any_eq_true.mp h.2
   rw[Bool.and_eq_true]at hq
   rw[<-eq_of_beq hq.1]
   have:p.2=NameKind.free:=eq_of_beq hq.2
   rw[<-this]
   exact hp
theorem law_sp{fns:List Fn}{k fi:Nat}{H:Hp}{a:Addr}{ns:List Int}{E:XK}(hT:TabR K H)(hS:ZaE K H a ns)(h:∃m,Jf fns gv k fi [.t (.scr ns)] []=.ok (.t (.bl true)) m):spF K fns gv k fi [.ref a] H (λv _=>v=.bl true) E:=by
 obtain⟨m,h⟩:=h
 refine⟨[],[],[.t (.scr ns)],⟨rfl,λi j a p q e=>by simp at e,λi p e=>by simp at e,hT⟩,.cons (.scr ns hS) .nil,?_⟩
 rw[h]
 intro cm' H' x M v rv
 cases RT.vbl rv
 rfl
inductive StrsV:List (List Nat)->List Value->Prop where
 |nil:StrsV [] []
 |cons {y:Str}{t:Tok}{cs:List Nat}{r:List (List Nat)}{us:List Value}:y.cps.toList=cs->StrsV r us->StrsV (cs::r) (.str y t::us)
end
section
variable{K:Frag}{cm:List Addr}{m:Mem}{H:Hp}{xr:XR}{X:Cx}{call:Nat->List W->Mem->Res W}{gv:List T}
variable{a b c e:Expr}{es:List Expr}{ea eb ec:E}{eas:Es}{pos p p2:Pos}{rest:List Stmt}{k:S}{n:Nat}
theorem ZdU:MtR X "list.append" (rM X.K xr .append):=by
 rintro pins s σ H x xs v us Q I rx rs ⟨cm,m,w,ws,M,rw',rws,ho⟩
 cases w with
 |t t=>exact ho.elim
 |f a=>exact ho.elim
 |x _ _ _=>exact ho.elim
 |c i =>
  have ho:OkR X.K ((frzs ws m).bind λts m=>match m[i]? with
   |some (some (false,xs))=>match mutM .append xs ts with
    |some (t,ys)=>.ok (W.t t) (m.set i (some (false,ys)))
    |none=>.stuck
   |_=>.stuck) xr cm m H _:=ho
  obtain⟨ts,m2,e2,o2⟩:=Jp ho
  obtain⟨x2,M2,r2⟩:=Jd M rws e2
  obtain⟨a,ha,rfl⟩:=rw'
  split at o2
  ·rename_i ys e3
   split at o2
   ·rename_i t zs e4
    obtain⟨b,vs,q1,q2,q3,q4⟩:=M2.at' i _ e3
    rw[ha]at q1;cases q1
    have l4:=q4.length
    dsimp only at l4
    have hz:=ZD
    match ts,r2,e4 with
    |[t1],.cons r3 .nil,e4 =>
     unfold mutM at e4
     dsimp only at e4
     split at e4<;>cases e4
     rename_i hlt
     obtain⟨x5,M5⟩:=QD M2 e3 ha (ZC q4 (.cons r3 .nil))
     exact Zfo pins s σ H _ _ v us Q I rx rs ⟨a,vs,_,rfl,rfl,q2,by omega,OkR.to o2 (x2.trans x5) M5 _ .non⟩
    |[],_,e4=>cases e4
    |_::_::_,_,e4=>cases e4
   ·exact o2.elim
  ·exact o2.elim
theorem ZdJ{o:Expr}{apos cpos:Pos}(ho:PE X o (tE X.K call gv xr ea))(ha:PA X [e] (tA X.K call gv xr eas))(hbase:attributeBase o "append" X.env (eval o X.env)=eval o X.env:=by rfl)(hline:(apos.endLine==cpos.line)=true:=by rfl)(hs:notStar e=true:=by rfl):
  PE X (.Call (.Attribute o "append" apos) [e] [] cpos) (tE X.K call gv xr (.mth .append ea eas)):=by
 refine PE.mono (Zi7 PySem.F.plainAttrs_list PySem.F.slot_list_append PySem.F.type_list_append (ZdU (xr:=xr)) ho ha hbase (few1 hs) hline (Qn hs) (Xl rfl)) ?_
 rintro σ H Q ⟨env,cm,m,hE,M,hq⟩
 rw[ev]at hq
 refine⟨env,cm,m,hE,M,hq.bind.mono λw cm1 m1 H1 x1 M1 o1 v rv=>?_⟩
 obtain⟨ht,o1⟩:=Xw o1
 refine⟨?_,env,cm1,m1,hE.ext x1 M M1,M1,o1.bind.mono λws cm2 m2 H2 x2 M2 o2 vs rvs=>?_⟩
 ·cases w with
  |t t=>cases ht
  |f a=>cases ht
  |x _ _ _=>cases ht
  |c i =>
   obtain⟨a,h1,rfl⟩:=rv
   have ht:(match m1[i]? with
    |some (some _)=>true
    |_=>false)=true:=ht
   split at ht
   ·rename_i c e1
    obtain⟨b,vs,q1,q2,_⟩:=M1.at' i _ e1
    rw[h1]at q1;cases q1
    exact .inl ⟨rfl,vs,.of q2⟩
   ·cases ht
 ·exact⟨cm2,m2,w,ws,M2,rv.ext x2 M1 M2,rvs,o2⟩
theorem ZdA{body:List Stmt}{sb:S}(hp:PassesOwn (model X.prog X.w) X.A X.env X.xe)(hc:PT X c (tT X.K call gv xr ec))(hb:PSs X body (tS X.K call gv xr n sb))(hk:PSs X rest (tS X.K call gv xr n k)):
  PSs X (.While c body [] pos::rest) (tS X.K call gv xr n (.whil ec sb k)):=by
 refine PSs.mono (Qp (ZgN hp hc hb) hk) ?_
 rintro D σ0 H0 ⟨hl0,env0,cm0,m0,hE0,M0,ho⟩
 rw[ex]at ho
 let g:Flow->Mem->Res Flow:=λfl m=>match fl with
  |.next env=>ex call gv k env m
  |fl=>.ok fl m
 let P:Flow->List Addr->Mem->Hp->Prop:=λfl cm m H=>OkR X.K (g fl m) xr cm m H (λfl cm' m' H'=>Zcz X.K n D fl cm' m' H')
 have ho:OkR X.K ((Qm (λenv m=>(ev call gv ec env m).bind ZZ) (λenv m=>ex call gv sb env m) turns env0 m0).bind g) xr cm0 m0 H0 (λfl cm' m' H'=>Zcz X.K n D fl cm' m' H'):=ho
 refine⟨λμ σ H=>σ.length=n/\∃env cm m,EnvR X.K cm m H env σ/\MemR X.K cm m H/\OkR X.K (Qm (λenv m=>(ev call gv ec env m).bind ZZ) (λenv m=>ex call gv sb env m) μ env m) xr cm m H P,⟨turns,hl0,env0,cm0,m0,hE0,M0,ho.bind⟩,?_⟩
 rintro μ σ H ⟨hl,env,cm,m,hE,M,hq⟩
 cases μ with
 |zero=>rw[Qm]at hq;exact hq.elim
 |succ μ =>
  rw[Qm]at hq
  refine⟨env,cm,m,hE,M,hq.bind.mono λb cm1 m1 H1 x1 M1 o1=>?_⟩
  cases b with
  |false=>exact iteF ⟨hl,env,cm1,m1,hE.ext x1 M M1,M1,OkR.now (a:=Flow.next env) o1 M1⟩
  |true =>
   have o1:OkR X.K ((ex call gv sb env m1).bind λfl m=>match fl with
    |.next env=>Qm (λenv m=>(ev call gv ec env m).bind ZZ) (λenv m=>ex call gv sb env m) μ env m
    |.cont env=>Qm (λenv m=>(ev call gv ec env m).bind ZZ) (λenv m=>ex call gv sb env m) μ env m
    |.brk env=>.ok (.next env) m
    |.ret w=>.ok (.ret w) m) xr cm1 m1 H1 P:=o1
   refine iteT ⟨λσ' H'=>σ'.length=n/\∃env cm m,EnvR X.K cm m H' env σ'/\MemR X.K cm m H'/\OkR X.K (Qm (λenv m=>(ev call gv ec env m).bind ZZ) (λenv m=>ex call gv sb env m) μ env m) xr cm m H' P,λσ' H' h=>⟨μ,Nat.lt_succ_self _,h⟩,hl,env,cm1,m1,hE.ext x1 M M1,M1,o1.bind.mono λfl cm2 m2 H2 x2 M2 o2=>?_⟩
   cases fl with
   |next env2=>exact λσ2 hl2 hE2=>⟨hl2,env2,cm2,m2,hE2,M2,o2⟩
   |cont env2=>exact λσ2 hl2 hE2=>⟨hl2,env2,cm2,m2,hE2,M2,o2⟩
   |brk env2=>exact λσ2 hl2 hE2=>⟨hl2,env2,cm2,m2,hE2,M2,OkR.now (a:=Flow.next env2) o2 M2⟩
   |ret w=>exact OkR.now (xr:=xr) (a:=Flow.ret w) (OkR.now (a:=Flow.ret w) o2 M2) M2
theorem ZgM{tg:Expr}{is:List Nat}(hN:∀i∈is,i<n)(h:PE X e (tE X.K call gv xr ea))(hg:PG X tg (gT X.K (.tp is)))(hk:PSs X rest (tS X.K call gv xr n k))(hs:swapsWithSole [tg] e pos.line X.env=pure false:=by rfl)(hw:swappedStores [tg] e X.env=pure none:=by rfl)(h1:(assignEach [tg] X.env).map (·.2)=[assign tg X.env]:=by rfl):PSs X (.Assign [tg] e pos::rest) (tS X.K call gv xr n (.asgT is ea k)):=by
 refine PSs.mono (Qp (ZhX h hg hs hw h1) hk) ?_
 rintro D σ H ⟨hl,env,cm,m,hE,M,ho⟩
 rw[ex]at ho
 refine⟨env,cm,m,hE,M,ho.bind.mono λw cm1 m1 H1 x1 M1 o1 v rv=>?_⟩
 cases w with
 |f a=>exact o1.elim
 |x _ _ _=>exact o1.elim
 |c i=>exact o1.elim
 |t t =>
  have o1:OkR X.K (match Qs (.tp is) t env with
   |some env=>ex call gv k env m1
   |none=>.stuck) xr cm1 m1 H1 _:=o1
  split at o1
  ·rename_i env' eb
   have:=Zh9 (ZjF (Q:=λσ' H'=>H'=H1/\EnvR X.K cm1 m1 H1 env' σ') (hE.ext x1 M M1) (λj hj=>by rw[hl];exact hN j hj) rv eb λσ' hE' _=>⟨rfl,hE'⟩)
   obtain⟨a1,xs,z1,z2,z3,z4,z5,z6⟩:=this
   exact⟨a1,xs,z1,z2,z3,z4.trans hl,env',cm1,m1,z6,M1,o1⟩
  ·exact o1.elim
end
section
variable{xr:XR}{X:Cx}{call:Nat->List W->Mem->Res W}{gv:List T}
variable{e:Expr}{es:List Expr}{eas:Es}{pos p:Pos}
theorem ZiY(hg:Gl X "len")(hm:X.mg "len" = none)(ha:PA X (e::es) (tA X.K call gv xr eas))(he:notStar e=true)(hpl:es.all notStar=true):PE X (.Call (.Name "len" p) (e::es) [] pos) (tE X.K call gv xr (.blt .len eas)):=Ze5 Zf8 (by decide +kernel) hg hm ha (by decide) (by decide) he hpl
theorem Zg0(hg:Gl X "int")(hm:X.mg "int" = none)(ha:PA X (e::es) (tA X.K call gv xr eas))(he:notStar e=true)(hpl:es.all notStar=true):PE X (.Call (.Name "int" p) (e::es) [] pos) (tE X.K call gv xr (.blt .int eas)):=Zcq Zf9 (by decide +kernel) hg hm ha (by decide) (by decide) he hpl
theorem ZdG(hg:Gl X "tuple")(hm:X.mg "tuple" = none)(ha:PA X (e::es) (tA X.K call gv xr eas))(he:notStar e=true)(hpl:es.all notStar=true)(hc:X.calm=true:=by rfl):PE X (.Call (.Name "tuple" p) (e::es) [] pos) (tE X.K call gv xr (.blt .tuple eas)):=Zcq (ZcF hc) (by decide +kernel) hg hm ha (by decide) (by decide) he hpl
theorem Ze3(hg:Gl X "list")(hm:X.mg "list" = none)(ha:PA X (e::es) (tA X.K call gv xr eas))(he:notStar e=true)(hpl:es.all notStar=true):PE X (.Call (.Name "list" p) (e::es) [] pos) (tE X.K call gv xr (.blt .list eas)):=Zcq Zee (by decide +kernel) hg hm ha (by decide) (by decide) he hpl
end
structure Bd (X:Cx) (st:List Stmt) (t:TS):Prop where
 h:PSs X st t
theorem Zib{K:Frag}{fns:List Fn}{gv:List T}{k:Nat}{P:Program}{w:World}{mg:Str->Option Value}{base:Heap}{x qual:Str}{st:Stmt}{f:Addr}{fd:FuncData}{N ps:List Str}{fi np n:Nat}{body:S}{cell:Bool}(F:Fun K x qual st f fd)(S:FnScope N ps (Zd st))(hd:fns[fi]?=some ⟨np,n,body,cell⟩)(hps:np=ps.length)(hn:N.length=n)(hbody:∀(cdv:Value) (A:Around) (outer:List PySem.Env) (s:Shared) (H:Hp) (E:XK),Room k (A.deeper (envOfC qual (Zd st) s.heap.objs.size f cdv)) ->
   ∀(xe:Value->Shared->Prop) (pn:List (Addr×Obj)) (xr:XR),Go (asX (cxOf (CXF P w) P w K mg base N qual (Zd st) f cdv A outer s H E) xe pn) xr->Bd (asX (cxOf (CXF P w) P w K mg base N qual (Zd st) f cdv A outer s H E) xe pn) (Z6 st) (tS K (Jf fns gv k) gv xr n body)):
  FnOk P w K mg base (CXF P w) (k+1) f fd ps (spF K fns gv (k+1) fi):=by
 subst hn
 exact fn_okW F S hd hps rfl λcdv A outer s H E hr xe pn xr go=>(hbody cdv A outer s H E hr xe pn xr go).h
section
variable{K:Frag}{X:Cx}{fns:List Fn}{gv:List T}{xr:XR}{call:Nat->List W->Mem->Res W}
variable{e:Expr}{es:List Expr}{eas:Es}{pos p:Pos}{k:Nat}
inductive TabOk (P:Program) (w:World) (K:Frag) (mg:Str->Option Value) (base:Heap) (fns:List Fn) (gv:List T) (k:Nat):List (Nat×Nat)->Prop where
 |nil:TabOk P w K mg base fns gv k []
 |cons {j fi a:Nat}{x:Str}{r:List (Nat×Nat)}:FOk P w K mg base fns gv k x fi->mg x=some (.ref a)->gv[j]?=some (.int (a:Int))->TabOk P w K mg base fns gv k r->TabOk P w K mg base fns gv k ((j,fi)::r)
end
section
variable{K:Frag}{cm:List Addr}{m:Mem}{H:Hp}{xr:XR}{X:Cx}{call:Nat->List W->Mem->Res W}{gv:List T}
variable{a b c e:Expr}{es:List Expr}{ea eb ec:E}{eas:Es}{pos p p2:Pos}{rest:List Stmt}{k:S}{n:Nat}
theorem XS(i0:Nat)(i1:Nat)(i2:Nat){x0 x1 x2:Str}{p0 p1 p2:Pos}{kk:Nat}(hc:X.calm=true)(hN:X.N.Nodup)(hi0:X.N[i0]?=some x0:=by rfl)(hi1:X.N[i1]?=some x1:=by rfl)(hi2:X.N[i2]?=some x2:=by rfl)(hx0:Loc X.env.scope x0:=by first|exact Or.inl rfl|exact Or.inr rfl)(hx1:Loc X.env.scope x1:=by first|exact Or.inl rfl|exact Or.inr rfl)(hx2:Loc X.env.scope x2:=by first|exact Or.inl rfl|exact Or.inr rfl)(hf0:X.fn x0=true∨X.env.scope.names.lookup x0=some .local:=by first|exact .inl rfl|exact .inr rfl)(hf1:X.fn x1=true∨X.env.scope.names.lookup x1=some .local:=by first|exact .inl rfl|exact .inr rfl)(hf2:X.fn x2=true∨X.env.scope.names.lookup x2=some .local:=by first|exact .inl rfl|exact .inr rfl)(hs0:(assignEach [.Name x0 p0,.Name x1 p1,.Name x2 p2] X.env).map (·.2)=assign (.Name x0 p0) X.env::(assignEach [.Name x1 p1,.Name x2 p2] X.env).map (·.2):=by rfl)(hs1:(assignEach [.Name x1 p1,.Name x2 p2] X.env).map (·.2)=assign (.Name x1 p1) X.env::(assignEach [.Name x2 p2] X.env).map (·.2):=by rfl)(hs2:(assignEach [.Name x2 p2] X.env).map (·.2)=assign (.Name x2 p2) X.env::(assignEach [] X.env).map (·.2):=by rfl)(hn:(assignEach [.Name x0 p0,.Name x1 p1,.Name x2 p2] X.env).length=3:=by rfl)(hst:(assignEach [.Name x0 p0,.Name x1 p1,.Name x2 p2] X.env).findIdx? (·.1)=none:=by rfl):PG X (.Tuple [.Name x0 p0,.Name x1 p1,.Name x2 p2] kk pos) (gT X.K (.tp [i0,i1,i2])):=by
 rintro pins s σ H v u Q I r ⟨a,xs,e1,h1,h2,h3⟩
 refine pg_tup hc (Zbg (Zbh hN hi0 hx0 hf0) (Zbg (Zbh hN hi1 hx1 hf1) (Zbg (Zbh hN hi2 hx2 hf2) ZiQ hs2) hs1) hs0) hn hst pins s σ H v u Q I r ⟨a,xs,e1,h1,h2,?_⟩
 match xs,h2 with
 |[v0,v1,v2],_=>exact⟨v0,[v1,v2],rfl,v1,[v2],rfl,v2,[],rfl,rfl,h3⟩
end
end Mi
namespace Mi
inductive Turns {α β:Type}(R:α->β->Prop):List α->List β->Prop where
 |nil:Turns R [] []
 |cons {a:α}{b:β}{as:List α}{bs:List β}:R a b->Turns R as bs->Turns R (a::as) (b::bs)
theorem XX{f:Env->Mem->Res (List T)}{tg:Tg}{env:Env}{P:Mem->Prop}{R:T->List T->Prop}:∀(ts:List T) (m:Mem),P m->(∀t∈ts,∀m,P m->∃env' xs m',Qs tg t env=some env'/\f env' m=.ok xs m'/\P m'/\R t xs) ->
  ∃xss m',Q7 f tg ts env m=.ok xss.flatten m'/\P m'/\Turns R ts xss
 |[],m,hm,_=>⟨[],m,rfl,hm,.nil⟩
 |t::ts,m,hm,h=>by
  obtain⟨env',xs,m1,e1,e2,p1,r1⟩:=h t List.mem_cons_self m hm
  obtain⟨xss,m2,e3,p2,r2⟩:=XX ts m1 p1 λt ht=>h t (List.mem_cons_of_mem _ ht)
  refine⟨xs::xss,m2,?_,p2,.cons r1 r2⟩
  rw[Q7,e1]
  show(f env' m).bind _=_
  rw[e2]
  show(Q7 f tg ts env m1).bind _=_
  rw[e3]
  rfl
theorem ZaP{f:Env->Mem->Res Flow}{tg:Tg}{P:Env->Mem->Prop}:∀(ts:List T) (env:Env) (m:Mem),P env m->(∀t∈ts,∀env m,P env m->∃env1 env2 m2,Qs tg t env=some env1/\f env1 m=.ok (.next env2) m2/\P env2 m2) ->
  ∃env' m',Z1 f tg ts env m=.ok (.next env') m'/\P env' m'
 |[],env,m,hm,_=>⟨env,m,rfl,hm⟩
 |t::ts,env,m,hm,h=>by
  obtain⟨env1,env2,m2,e1,e2,p2⟩:=h t List.mem_cons_self env m hm
  obtain⟨env3,m3,e3,p3⟩:=ZaP ts env2 m2 p2 λt ht=>h t (List.mem_cons_of_mem _ ht)
  refine⟨env3,m3,?_,p3⟩
  rw[Z1,e1]
  show(f env1 m).bind _=_
  rw[e2]
  exact e3
theorem Qa{α:Type}{xs:List α}{i:Int}(h0:0<=i)(h1:i<xs.length):∃x,atT xs i=some x/\x∈xs:=by
 have hi:i.toNat<xs.length:=by omega
 refine⟨xs[i.toNat],?_,List.getElem_mem hi⟩
 unfold atT ixOf
 rw[if_pos h0,if_pos h1]
 exact List.getElem?_eq_getElem hi
section
variable{call:Nat->List W->Mem->Res W}{gv:List T}
noncomputable def QH(call:Nat->List W->Mem->Res W)(gv:List T)(cs:Es)(inner:E)(env:Env)(m:Mem):Res (List T):=(tests call gv cs env m).bind λk m=>if k then(ev call gv inner env m).bind Zcd else .ok [] m
theorem QC{own:Nat}{keep:List Nat}{it:E}{tg:Tg}{cs:Es}{inner:E}{env:Env}{m m0 m1 m2:Mem}{x:W}{ts out:List T}(h1:ev call gv it env m=.ok x m0)(h2:ZJ x m0=.ok ts m1)(h3:Q7 (QH call gv cs inner) tg ts (List.replicate own none++keep.map λi=>(env[i]?).join) m1=.ok out m2)(hz:out.length<=lim):ev call gv (.comp own keep it tg cs inner) env m=.ok (.t (.lst out)) (giveBack x m0 m2):=by
 have e:ev call gv (.comp own keep it tg cs inner) env m=(ev call gv it env m).only.bind λx m0=>(ZJ x m0).bind λts m =>
  (Q7 (QH call gv cs inner) tg ts (List.replicate own none++keep.map λi=>(env[i]?).join) m).only.bind λout m =>
   if out.length<=lim then .ok (.t (.lst out)) (giveBack x m0 m)else .stuck:=by rw[ev];rfl
 rw[e,h1]
 show(ZJ x m0).bind _=_
 rw[h2]
 show(Q7 (QH call gv cs inner) tg ts (List.replicate own none++keep.map λi=>(env[i]?).join) m1).only.bind _=_
 rw[h3]
 exact if_pos hz
theorem QR{tg:Tg}{it:E}{body k:S}{env env':Env}{m m0 m1 m2:Mem}{x:W}{ts:List T}(h1:ev call gv it env m=.ok x m0)(h2:ZJ x m0=.ok ts m1)(h3:Z1 (ex call gv body) tg ts env m1=.ok (.next env') m2):
  ex call gv (.forr tg it body k) env m=ex call gv k env' (giveBack x m0 m2):=by
 rw[ex,h1]
 show(ZJ x m0).bind _=_
 rw[h2]
 show(Z1 (ex call gv body) tg ts env m1).bind _=_
 rw[h3]
 rfl
end
section
variable{call:Nat->List W->Mem->Res W}{gv:List T}{env:Env}{m m1 m2:Mem}{k a b:S}{e:E}{w:W}
theorem Zh{α β:Type}(x:α)(m:Mem)(f:α->Mem->Res β):(Res.ok x m).bind f=f x m:=rfl
theorem only_k{α:Type}(x:α)(m:Mem):(Res.ok x m).only=.ok x m:=rfl
theorem view_k(x:T)(m:Mem):view (.t x) m=some x:=rfl
theorem pur_k(x:T)(m:Mem):pur (some x) m=.ok (.t x) m:=rfl
theorem Zj1(x:Bool)(m:Mem):Zeg (.t (.bl x)) m=.ok x m:=rfl
theorem Za1(x:Bool)(m:Mem):ZZ (.t (.bl x)) m=.ok x m:=rfl
theorem frz_k(x:T)(m:Mem):frz (.t x) m=.ok x m:=rfl
theorem Zj7(x:List T)(m:Mem):Zcd (.t (.lst x)) m=.ok x m:=rfl
theorem intP_k(x:Int)(m:Mem):intP (.t (.int x)) m=.ok (some x) m:=rfl
theorem c_lt(i j:Int):cmpT .Lt (.int i) (.int j)=some (decide (i<j)):=rfl
theorem c_le(i j:Int):cmpT .LtE (.int i) (.int j)=some (decide (i<=j)):=rfl
theorem c_gt(i j:Int):cmpT .Gt (.int i) (.int j)=some (decide (j<i)):=rfl
theorem c_ge(i j:Int):cmpT .GtE (.int i) (.int j)=some (decide (j<=i)):=rfl
theorem c_eqI(i j:Int):cmpT .Eq (.int i) (.int j)=some (i==j):=rfl
theorem Zj0(i j:Int):cmpT .NotEq (.int i) (.int j)=some (!(i==j)):=rfl
theorem c_eqB(i j:Bool):cmpT .Eq (.bl i) (.bl j)=some (i==j):=rfl
theorem c_neB(i j:Bool):cmpT .NotEq (.bl i) (.bl j)=some (!(i==j)):=rfl
theorem c_eqS(i j:List Nat):cmpT .Eq (.str i) (.str j)=some (i==j):=rfl
theorem c_neS(i j:List Nat):cmpT .NotEq (.str i) (.str j)=some (!(i==j)):=rfl
theorem c_in1(i:Nat)(j:List Nat):cmpT .In (.str [i]) (.str j)=some (decide (i∈j)):=rfl
theorem c_isT(b x:Bool):cmpT .Is (.bl x) (.bl b)=some (x==b):=rfl
theorem ZcL(i j:Int):binT .Add (.int i) (.int j)=some (.int (i+j)):=rfl
theorem Zj2(i j:Int):binT .Sub (.int i) (.int j)=some (.int (i-j)):=rfl
theorem Zig{a b:List T}(h:a.length+b.length<=lim):binT .Add (.lst a) (.lst b)=some (.lst (a++b)):=if_pos h
theorem Zeh{i j:Int}(h:Xe i j=true):binT .Mult (.int i) (.int j)=some (.int (i*j)):=if_pos h
theorem Zj3{i j:Int}(h:0<j/\j<1073741824):binT .FloorDiv (.int i) (.int j)=some (.int (i / j)):=if_pos h
theorem ZcK{i j:Int}(h:0<j):binT .Mod (.int i) (.int j)=some (.int (i%j)):=if_pos h
theorem b_pow{i j:Int}(h:0<=j/\j<=1000/\i.natAbs<2^64):binT .Pow (.int i) (.int j)=some (.int (i^j.toNat)):=if_pos h
theorem x_tup(ts:List T)(i:Int):ixT (.tup ts) (.int i)=atT ts i:=rfl
theorem x_lst(ts:List T)(i:Int):ixT (.lst ts) (.int i)=atT ts i:=rfl
theorem x_scr(ts:List Int)(i:Int):ixT (.scr ts) (.int i)=(atT ts i).map .int:=rfl
theorem s_lst(ts:List T)(lo hi:Option Int):slT (.lst ts) lo hi=some (.lst (cut ts lo hi)):=rfl
theorem s_scr(ts:List Int)(lo hi:Option Int):slT (.scr ts) lo hi=some (.lst ((cut ts lo hi).map .int)):=rfl
theorem Zhi(ts:List T):bltT .len [.lst ts]=some (.int ts.length):=rfl
theorem l_tup(ts:List T):bltT .len [.tup ts]=some (.int ts.length):=rfl
theorem l_scr(ts:List Int):bltT .len [.scr ts]=some (.int ts.length):=rfl
theorem l_int(b:Bool):bltT .int [.bl b]=some (.int (b2i b)):=rfl
theorem Zde(ts:List T):bltT .tuple [.lst ts]=some (.tup ts):=rfl
theorem Zhh{i:Int}(h:i<2^62/\-(2^62)<=i):bltT .range1 [.int i]=some (.lst (rangeT 0 i.toNat)):=if_pos h
theorem Zil:views [] m=some []:=rfl
theorem Zim(x:T)(ws:List W):views (.t x::ws) m=(views ws m).map (x::·):=rfl
theorem ZaS:frzs [] m=.ok [] m:=rfl
theorem ZaT(x:T)(ws:List W):frzs (.t x::ws) m=(frzs ws m).bind λts m=>.ok (x::ts) m:=rfl
theorem Zr{i:Nat}(h:ev call gv e env m=.ok w m1):ex call gv (.asg i e k) env m=ex call gv k (env.set i (some w)) m1:=by rw[ex,h];rfl
theorem ZG(h:ev call gv e env m=.ok w m1):ex call gv (.ret e k) env m=.ok (.ret w) m1:=by rw[ex,h];rfl
theorem QX(h:ev call gv e env m=.ok (.t (.bl true)) m1)(h2:ex call gv a env m1=.ok (.ret w) m2):ex call gv (.ife e a b k) env m=.ok (.ret w) m2:=by
 rw[ex,h]
 show(ex call gv a env m1).bind _=_
 rw[h2];rfl
theorem Z9(h:ev call gv e env m=.ok (.t (.bl false)) m1):ex call gv (.ife e a .done k) env m=ex call gv k env m1:=by rw[ex,h];rfl
theorem ZfO{c:Nat}{o i v:E}{x:T}{j:Int}{xs:List T}{q:Nat}(h1:ev call gv v env m=.ok (.t x) m1)(h2:ev call gv o env m1=.ok (.c c) m1)(h3:ev call gv i env m1=.ok (.t (.int j)) m1)(h4:m1[c]?=some (some (false,xs)))(h5:ixOf xs.length j=some q):
  ex call gv (.set o i v k) env m=ex call gv k env (m1.set c (some (false,xs.set q x))):=by
 rw[ex,h1]
 show((ev call gv o env m1).bind _)=_
 rw[h2]
 show((ev call gv i env m1).bind _)=_
 rw[h3]
 show(setM (.c c) (.t (.int j)) (.t x) m1).bind _=_
 have:setM (.c c) (.t (.int j)) (.t x) m1=.ok () (m1.set c (some (false,xs.set q x))):=by
  unfold setM
  dsimp only[frz,Res.bind]
  rw[h4]
  dsimp only
  rw[h5]
 rw[this];rfl
theorem Qj{n:Nat}{cell:Bool}{t:T}(h:m1.length=n):fin n cell (.ret (.t t)) m1=.ok (.t t) m1:=by
 show Res.ok (W.t t) (m1.take n)=_
 rw[<-h,List.take_length]
theorem Qh{c:Prop}[Decidable c]{b:S}{env:Env}{m m1 m2:Mem}{k:Nat}{cell:Bool}{X:Res W}{w w':W}(hX:X=if c then(ex call gv b env m).bind λfl m'=>fin k cell fl m' else .stuck)(hc:c)(key:ex call gv b env m=.ok (.ret w) m1)(hf:fin k cell (.ret w) m1=.ok w' m2):X=.ok w' m2:=by
 rw[hX,if_pos hc,key]
 exact hf
end
noncomputable def EVs:=And.intro @Zh (And.intro @only_k (And.intro @view_k (And.intro @pur_k (And.intro @Zj1 (And.intro @Za1 (And.intro @frz_k (And.intro @Zj7 (And.intro @intP_k (And.intro @c_lt (And.intro @c_le (And.intro @c_gt (And.intro @c_ge (And.intro @c_eqI (And.intro @Zj0 (And.intro @c_eqB (And.intro @c_neB (And.intro @c_eqS (And.intro @c_neS (And.intro @c_in1 (And.intro @c_isT (And.intro @ZcL (And.intro @Zj2 (And.intro @x_tup (And.intro @x_lst (And.intro @x_scr (And.intro @s_lst (And.intro @s_scr (And.intro @Zhi (And.intro @l_tup (And.intro @l_scr (And.intro @l_int (And.intro @Zde (And.intro @Zil (And.intro @Zim (And.intro @ZaS (@ZaT))))))))))))))))))))))))))))))))))))
end Mi
namespace Mi
open PySem PySem.Spec PyProof.Rows L2
section
variable{K:Frag}{cm:List Addr}{m:Mem}{H:Hp}{xr:XR}{X:Cx}{call:Nat->List W->Mem->Res W}{gv:List T}
variable{a b c e:Expr}{es:List Expr}{ea eb ec:E}{eas:Es}{pos p p2:Pos}{rest:List Stmt}{k:S}{n:Nat}
theorem Xp{α β:Type}{F:α->β->Prop}:∀{xs:List α}{ys:List β}(k:Nat),Paired F xs ys->Paired F (xs.eraseIdx k) (ys.eraseIdx k)
 |_,_,_,.nil=>.nil
 |_,_,0,.cons _ t=>t
 |_,_,k+1,.cons r t=>.cons r (Xp k t)
theorem Zfm:MtR X "list.pop" (rM X.K xr .popat):=by
 rintro pins s σ H x xs v us Q I rx rs ⟨cm,m,w,ws,M,rw',rws,ho⟩
 cases w with
 |t t=>exact ho.elim
 |f a=>exact ho.elim
 |x _ _ _=>exact ho.elim
 |c i =>
  have ho:OkR X.K ((frzs ws m).bind λts m=>match m[i]? with
   |some (some (false,xs))=>match mutM .popat xs ts with
    |some (t,ys)=>.ok (W.t t) (m.set i (some (false,ys)))
    |none=>.stuck
   |_=>.stuck) xr cm m H _:=ho
  obtain⟨ts,m2,e2,o2⟩:=Jp ho
  obtain⟨x2,M2,r2⟩:=Jd M rws e2
  obtain⟨a,ha,rfl⟩:=rw'
  split at o2
  ·rename_i ys e3
   split at o2
   ·rename_i t zs e4
    obtain⟨b,vs,q1,q2,q3,q4⟩:=M2.at' i _ e3
    rw[ha]at q1;cases q1
    have l4:=q4.length
    dsimp only at l4
    have hz:=ZD
    match ts,r2,e4 with
    |[.int j],.cons r3 .nil,e4 =>
     have e4:(match ixOf ys.length j with
      |some k=>(ys[k]?).map λt=>(t,ys.eraseIdx k)
      |none=>none)=some (t,zs):=e4
     split at e4
     ·rename_i k hk
      cases q5:ys[k]? with
      |none=>rw[q5]at e4;cases e4
      |some y =>
       rw[q5]at e4;cases e4
       cases RT.vint r3
       obtain⟨yv,hy,ry⟩:=Zt q4 q5
       obtain⟨x5,M5⟩:=QD M2 e3 ha (Xp k q4)
       have hk2:ixN vs.length j=some k:=by rw[<-l4];exact hk
       obtain⟨z1,z2,z3,z4⟩:=Zcv hk2
       obtain⟨its,nn,rr,hho,hzz⟩:=I.lst q2
       have hsl:=sizeLine_eq
       exact Zhb pins s σ H _ _ v us Q I rx rs ⟨a,vs,j,k,yv,rfl,rfl,q2,by omega,by omega,z1,hy,OkR.to o2 (x2.trans x5) M5 _ (RT.ext x5 M2 M5 ry)⟩
     ·cases e4
    |[],_,e4=>cases e4
    |x1::_::_,_,e4=>cases x1<;>cases e4
    |[.non],_,e4=>cases e4
    |[.bl _],_,e4=>cases e4
    |[.str _],_,e4=>cases e4
    |[.tup _],_,e4=>cases e4
    |[.lst _],_,e4=>cases e4
    |[.dct _ _],_,e4=>cases e4
    |[.scr _],_,e4=>cases e4
   ·exact o2.elim
  ·exact o2.elim
theorem ty_cell{b:Mt}{w:W}{v:V}(hb:b=.append∨b=.popat)(M:MemR K cm m H)(r:RW K cm m H w v)(h:tyM b w m=true):tyV K "list" v H:=by
 cases w with
 |t t=>rcases hb with rfl|rfl<;>cases h
 |f a=>rcases hb with rfl|rfl<;>cases h
 |x _ _ _=>rcases hb with rfl|rfl<;>cases h
 |c i =>
  obtain⟨a,h1,rfl⟩:=r
  have ht:(match m[i]? with
   |some (some _)=>true
   |_=>false)=true:=by rcases hb with rfl|rfl<;>exact h
  split at ht
  ·rename_i c e1
   obtain⟨b,vs,q1,q2,_⟩:=M.at' i _ e1
   rw[h1]at q1;cases q1
   exact .inl ⟨rfl,vs,.of q2⟩
  ·cases ht
theorem Ze2{o:Expr}{apos cpos:Pos}(ho:PE X o (tE X.K call gv xr ea))(ha:PA X [e] (tA X.K call gv xr eas))(hbase:attributeBase o "pop" X.env (eval o X.env)=eval o X.env:=by rfl)(hline:(apos.endLine==cpos.line)=true:=by rfl)(hs:notStar e=true:=by rfl):
  PE X (.Call (.Attribute o "pop" apos) [e] [] cpos) (tE X.K call gv xr (.mth .popat ea eas)):=by
 refine PE.mono (Zi7 PySem.F.plainAttrs_list PySem.F.slot_list_pop PySem.F.type_list_pop (Zfm (xr:=xr)) ho ha hbase (few1 hs) hline (Qn hs) (Xl rfl)) ?_
 rintro σ H Q ⟨env,cm,m,hE,M,hq⟩
 rw[ev]at hq
 refine⟨env,cm,m,hE,M,hq.bind.mono λw cm1 m1 H1 x1 M1 o1 v rv=>?_⟩
 obtain⟨ht,o1⟩:=Xw o1
 exact⟨ty_cell (.inr rfl) M1 rv ht,env,cm1,m1,hE.ext x1 M M1,M1,o1.bind.mono λws cm2 m2 H2 x2 M2 o2 vs rvs=>⟨cm2,m2,w,ws,M2,rv.ext x2 M1 M2,rvs,o2⟩⟩
theorem Zef:Jy X (.type "list") (λxs H Q=>∃p ys,xs=[.ref p]/\(SqL X.K H p ys∨SqT X.K H p ys)/\∀l,H l=none->X.K.lookup l=none->Q (.ref l) (upd H l (.lst ys))):=by
 intro pins s σ H xs us Q I r h
 obtain⟨p,ys,rfl,hq,q⟩:=h
 obtain⟨u,rfl,rx⟩:=vals1 r
 cases rx
 have fin:∀(its:List Value),Vals ys its->ys.length<=sizeLine->∀(h':Heap) (c':Nat),(∀b o',s.heap.get? b=some o'->h'.get? b=some o') ->
   h'.get? s.heap.objs.size=some { cls:=.type "list",dict:=none,data:=.seq its.toArray c',slots:=#[] }->EP X pins σ Q (.ref s.heap.objs.size) { s with heap:=h' }:=λits r' hz h' c' kp e =>
  ⟨.ref s.heap.objs.size,_,I.laid (t':=s.toks) kp (Nat.le_refl _) (show Z7 X.prog X.w _ h' _ (.lst ys)from⟨hz,its,c',r',e⟩),rfl,q _ (I.hok.fresh (Nat.le_refl _)) (Mi.Inv.notK I)⟩
 rcases hq with hq|hq
 ·obtain⟨its,r',pl,hz⟩:=I.list hq
  have hlen:=r'.length
  obtain⟨o,ho,hc,n,hd⟩:=pl.isList
  exact call_list_seq p (.inl rfl) ho hc hd (λh' c' kp e=>fin its r' hz h' c' kp e) (by simp only[List.size_toArray]<;>omega)
 ·obtain⟨its,r',pl,hz⟩:=I.tuple hq
  have hlen:=r'.length
  obtain⟨o,ho,hc,n,hd⟩:=pl
  exact call_list_seq p (.inr rfl) ho hc hd (λh' c' kp e=>fin its r' hz h' c' kp e) (by simp only[List.size_toArray]<;>omega)
theorem Zg4(hg:Gl X "list")(hm:X.mg "list" = none)(ha:PA X [e] (tA X.K call gv xr (.cons ea .nil)))(he:notStar e=true):PE X (.Call (.Name "list" p) [e] [] pos) (tE X.K call gv xr (.celL ea)):=by
 refine PE.mono (ZbH Zef hg hm (by decide +kernel) ha (by decide) (by decide) (Qn he) (Xl rfl)) ?_
 rintro σ H Q ⟨env,cm,m,hE,M,ho⟩
 rw[ev]at ho
 have e0:evs call gv (.cons ea .nil) env m=(ev call gv ea env m).bind λw m=>.ok [w] m:=by
  rw[evs]
  cases ev call gv ea env m with
  |ok w m1=>simp only[Res.bind,evs]
  |exc x m1=>rfl
  |stuck=>rfl
 refine⟨env,cm,m,hE,M,?_⟩
 rw[e0]
 cases q:ev call gv ea env m with
 |stuck=>rw[q]at ho;exact ho.elim
 |exc x m1=>rw[q]at ho;exact ho
 |ok w m1 =>
  rw[q]at ho
  intro cm1 H1 x1 M1 vs rvs
  cases rvs with
  |cons rv r0 =>
   cases r0
   have ho:OkR X.K (match view w m1 with
    |some (.lst ts)=>.ok (W.c m1.length) (m1++[some (false,ts)])
    |some (.tup ts)=>.ok (W.c m1.length) (m1++[some (false,ts)])
    |_=>.stuck) xr cm1 m1 H1 _:=OkR.shift ho x1
   split at ho
   ·rename_i ts e1
    obtain⟨a,us,rfl,h1,r1⟩:=Zz M1 rv e1
    refine⟨a,us,rfl,.inl (.of h1),λl hl hk=>?_⟩
    obtain⟨x3,M3,r3⟩:=X6 M1 r1 hl hk
    exact OkR.to ho x3 M3 _ r3
   ·rename_i ts e1
    obtain⟨a,us,rfl,h1,r1⟩:=(Ze rv e1 (λ_ z=>by cases z)).itup
    refine⟨a,us,rfl,.inr h1,λl hl hk=>?_⟩
    obtain⟨x3,M3,r3⟩:=X6 M1 r1 hl hk
    exact OkR.to ho x3 M3 _ r3
   ·exact ho.elim
end
section
variable{K:Frag}{cm:List Addr}{m:Mem}{H:Hp}{xr:XR}{X:Cx}{call:Nat->List W->Mem->Res W}{gv:List T}
variable{a b c e:Expr}{es:List Expr}{ea eb ec:E}{eas:Es}{pos p p2 pos2:Pos}{rest:List Stmt}{k:S}{n:Nat}
theorem Zdc:∀{ks:List Key}{ts:List T}{vs:List V}(_:RTs K cm m H ts vs) (k:Key),(∃t v,Q9 ks ts k=some t/\valV (ks.zip vs) k=some v/\RT K cm m H t v)∨(Q9 ks ts k=none/\valV (ks.zip vs) k=none)
 |[],_,_,_,k=>.inr ⟨by simp[Q9],by simp[valV]⟩
 |_::_,_,_,.nil,k=>.inr ⟨by simp[Q9],by simp[valV]⟩
 |k0::ks,t::ts,v::vs,.cons r rs,k=>by
  by_cases h:k0=k
  ·subst h
   exact .inl ⟨t,v,by simp[Q9],by simp[valV],r⟩
  ·have e1:Q9 (k0::ks) (t::ts) k=Q9 ks ts k:=by simp[Q9,List.find?_cons,h]
   have e2:valV ((k0::ks).zip (v::vs)) k=valV (ks.zip vs) k:=by simp[valV,List.find?_cons,h]
   rw[e1,e2]
   exact Zdc rs k
theorem Zjw{t:T}{k:Key}{v:V}(h:keyT t=some k)(r:RT K cm m H t v):v=kV k:=by
 unfold keyT at h
 split at h<;>cases h
 ·cases RT.vint r;rfl
 ·cases RT.vstr r;rfl
theorem evs2{env:Env}:evs call gv (.cons ea (.cons eb .nil)) env m=(ev call gv ea env m).bind λx m=>(ev call gv eb env m).bind λy m=>.ok [x,y] m:=by
 rw[evs]
 cases ev call gv ea env m with
 |ok w m1 =>
  simp only[Res.bind]
  rw[evs]
  cases ev call gv eb env m1 with
  |ok w2 m2=>simp only[Res.bind,evs]
  |exc x m2=>rfl
  |stuck=>rfl
 |exc x m1=>rfl
 |stuck=>rfl
theorem ZhM{g:B}(σ:L2.St)(H:Hp)(Q:VK)(q:tE X.K call gv xr (.blt g (.cons ea (.cons eb .nil))) σ H Q):tOp (r2 X.K xr λx y m=>fBlt g [x,y] m) (tE X.K call gv xr ea) (tE X.K call gv xr eb) σ H Q:=by
 refine Zew (λenv m=>?_) σ H Q q
 rw[ev,evs2]
 cases ev call gv ea env m with
 |ok w m1 =>
  simp only[Res.bind]
  cases ev call gv eb env m1 with
  |ok w2 m2=>rfl
  |exc x m2=>rfl
  |stuck=>rfl
 |exc x m1=>rfl
 |stuck=>rfl
theorem Zgo{g:B}{x y:W}{k:W->List Addr->Mem->Hp->Prop}(h:OkR K (fBlt g [x,y] m) xr cm m H k):∃t1 t2 t,view x m=some t1/\view y m=some t2/\bltT g [t1,t2]=some t/\OkR K (.ok (.t t) m) xr cm m H k:=by
 obtain⟨t,e,ho⟩:=Qo h
 cases q:views [x,y] m with
 |none=>rw[q]at e;cases e
 |some ts =>
  rw[q]at e
  have e:bltT g ts=some t:=e
  unfold views at q
  cases q1:view x m with
  |none=>rw[q1]at q;cases q
  |some t1 =>
   rw[q1]at q
   unfold views at q
   cases q2:view y m with
   |none=>rw[q2]at q;cases q
   |some t2 =>
    rw[q2]at q
    cases q
    exact⟨t1,t2,t,rfl,rfl,e,ho⟩
theorem ZjR{ks:List Key}{ts:List T}{v:V}(h:RT K cm m H (.dct ks ts) v):∃a vs,v=.ref a/\H a=some (.dK (ks.zip vs))/\RTs K cm m H ts vs:=by
 cases h with
 |dct q1 q2 q3 q4 q5=>exact⟨_,_,rfl,q1,JM q4 q5⟩
theorem Zg2(ha:PE X a (tE X.K call gv xr ea))(hb:PE X b (tE X.K call gv xr eb))(hs:NoSl b)(hu:X.A.units+64<cLine):PE X (.Subscript a b pos) (tE X.K call gv xr (.blt .dget (.cons ea (.cons eb .nil)))):=by
 refine PE.mono (Zi2 (by omega) ha hb hs) ?_
 rintro σ H Q ⟨env,cm,m,hE,M,ho⟩
 rw[ev,evs2]at ho
 refine⟨env,cm,m,hE,M,ho.bind.bind.mono λw cm1 m1 H1 x1 M1 o1 v rv=>?_⟩
 refine⟨env,cm1,m1,hE.ext x1 M M1,M1,o1.bind.mono λw2 cm2 m2 H2 x2 M2 o2 v2 rv2=>?_⟩
 obtain⟨t1,t2,t,q1,q2,e,o3⟩:=Zgo (g:=.dget) (o2.now M2)
 cases t1 with
 |dct ks ts =>
  have e:(keyT t2).bind (Q9 ks ts)=some t:=e
  cases qk:keyT t2 with
  |none=>rw[qk]at e;cases e
  |some kk =>
   rw[qk]at e
   have e:Q9 ks ts kk=some t:=e
   obtain⟨a,vs,rfl,h1,r1⟩:=ZjR (Ze (rv.ext x2 M1 M2) q1 (λ_ z=>by cases z))
   have ey:=Zjw qk (Ze rv2 q2 (λ_ z=>by subst z;cases qk))
   subst ey
   rcases Zdc (ks:=ks) r1 kk with⟨t',v',l1,l2,l3⟩|⟨l1,l2⟩
   ·rw[l1]at e
    cases e
    exact⟨a,v',rfl,by rw[<-l2];exact .k h1,ans o3 M2 l3⟩
   ·rw[l1]at e;cases e
 |_=>cases e
end
noncomputable abbrev q1(h:Heap)(a:Addr):Heap:=h.push { cls:=.type "list_iterator",data:=.fields #[.ref a,.int 0 0] }
noncomputable abbrev q5(h:Heap)(a b c d:Addr):Heap:=(q1 (q1 (q1 (q1 h a) b) c) d).push { cls:=.type "tuple",data:=.seq #[.ref h.objs.size,.ref (q1 h a).objs.size,.ref (q1 (q1 h a) b).objs.size,.ref (q1 (q1 (q1 h a) b) c).objs.size] }
noncomputable abbrev q6(h:Heap)(a b c d:Addr):Heap:=(q5 h a b c d).push { cls:=.type "tuple",data:=.seq #[.none,.none,.none,.none] }
noncomputable abbrev q7(h:Heap)(a b c d:Addr):Heap:=(q6 h a b c d).push { cls:=.type "zip",data:=.fields #[.none,.bool false,.bool false,.ref (q1 (q1 (q1 (q1 h a) b) c) d).objs.size,.ref (q5 h a b c d).objs.size] }
set_option maxHeartbeats 4000000 in
section
variable{K:Frag}{cm cm':List Addr}{m m':Mem}{H H':Hp}{xr:XR}{X:Cx}{call:Nat->List W->Mem->Res W}{gv:List T}
variable{a b c e:Expr}{es:List Expr}{ea eb ec:E}{eas:Es}{pos p p2:Pos}{rest:List Stmt}{k:Nat}{n:Nat}
noncomputable def Zd4:Es->Nat
 |.nil=>0
 |.cons _ es=>Zd4 es+1
noncomputable def Zip(K:Frag)(call:Nat->List W->Mem->Res W)(gv:List T)(xr:XR):List (List Nat)->Es->List (TE×TE)
 |x::xs,.cons e es=>(tC (.str ⟨x.toArray⟩),tE K call gv xr e)::Zip K call gv xr xs es
 |_,_=>[]
theorem ZbI{σ:L2.St}{env:Env}:∀{ks:List (List Nat)}{vs:Es}{cm:List Addr}{m:Mem}{H:Hp}{Q:List (V×V)->Hp->Prop}{R:List W->List Addr->Mem->Hp->Prop},EnvR K cm m H env σ->MemR K cm m H->OkR K (evs call gv vs env m) xr cm m H R ->
  (∀ws cm' m' H',Ext cm m H cm' m' H'->MemR K cm' m' H'->R ws cm' m' H'->∀ys,RWs K cm' m' H' ws ys->Q ((ks.map λk=>V.str ⟨k.toArray⟩).zip ys) H')->Zd4 vs=ks.length->ZcT (Zip K call gv xr ks vs) σ H Q
 |[],vs,cm,m,H,Q,R,hE,M,ho,hq,hl=>by
  cases vs with
  |nil =>
   rw[evs]at ho
   exact hq [] cm m H .refl M (ho.now M) [] .nil
  |cons e es=>simp[Zd4]at hl
 |k::ks,.nil,cm,m,H,Q,R,hE,M,ho,hq,hl=>by simp[Zd4]at hl
 |k::ks,.cons e es,cm,m,H,Q,R,hE,M,ho,hq,hl=>by
  rw[evs]at ho
  refine⟨env,cm,m,hE,M,ho.bind.mono λw cm1 m1 H1 x1 M1 o1 v rv=>?_⟩
  refine ZbI (ks:=ks) (hE.ext x1 M M1) M1 o1.bind (λws cm2 m2 H2 x2 M2 r2 ys ry=>?_) (by simpa[Zd4]using hl)
  exact hq (w::ws) cm2 m2 H2 (x1.trans x2) M2 (r2.now M2) (v::ys) (.cons (rv.ext x2 M1 M2) ry)
theorem ZbP:∀{more kvs:List (Key×V)},((kvs++more).map (·.1)).Nodup->Xu kvs more=kvs++more
 |[],kvs,_=>by simp[Xu]
 |q::more,kvs,h=>by
  have hn:(kvs.any λkv=>decide (kv.1=q.1))=false:=by
   rw[List.any_eq_false]
   intro kv hkv z
   have z:=of_decide_eq_true z
   rw[List.map_append,List.nodup_append]at h
   exact h.2.2 kv.1 (List.mem_map_of_mem hkv) q.1 (by simp) z
  have e:putK kvs q.1 q.2=kvs++[q]:=by unfold putK;rw[hn];rfl
  show Xu (putK kvs q.1 q.2) more=_
  rw[e,ZbP (by rw[List.append_assoc];exact h),List.append_assoc]
  rfl
theorem ZdZ{ks:List (List Nat)}(h:ks.Nodup):(ks.map λk=>(Sum.inr ⟨k.toArray⟩:Key)).Nodup:=by
 refine List.Pairwise.map _ (λa b hne z=>hne ?_) h
 have:=congrArg (λq:Key=>match q with|.inr x=>x.cps.toList|.inl _=>[]) z
 simpa using this
theorem Zen{α β:Type}:∀{xs:List α}{ys:List β},xs.length=ys.length->(xs.zip ys).map (·.1)=xs
 |[],_,_=>rfl
 |_::_,[],h=>by simp at h
 |x::xs,y::ys,h=>by simp[Zen (xs:=xs) (ys:=ys) (by simpa using h)]
theorem ZhK:∀(ks:List (List Nat)) (ys:List V),(ks.map λk=>V.str ⟨k.toArray⟩).zip ys=((ks.map λk=>(Sum.inr ⟨k.toArray⟩:Key)).zip ys).map λkv=>(kV kv.1,kv.2)
 |[],_=>rfl
 |_::_,[]=>rfl
 |k::ks,y::ys=>by simp[ZhK ks ys,kV]
noncomputable def tDispX(trs:List (TE×TE)):TE:=λσ H Q=>∀p φ,H p=none->ZcT trs σ (upd H p (.ext φ)) λps H2=>H2 p=some (.ext φ)/\∃kvs:List (Key×V),ps=kvs.map (λkv=>(kV kv.1,kv.2))/\kvs.length<=15/\Q (.ref p) (upd H2 p (.dK (Xu [] kvs)))
theorem Zg1{keys:List (Option Expr)}{values:List Expr}{trs:List (TE×TE)}(h:PPs X pos keys values trs)(hall:keys.all (·.isSome)=true)(hl:keys.length=values.length)(h0:keys≠[])(h15:keys.length<=15):PE X (.Dict keys values pos) (tDispX trs):=by
 intro pins s σ H Q I q
 have hn:=I.hok.fresh (Nat.le_refl s.heap.objs.size)
 have hok0:Z7 X.prog X.w (upd H s.heap.objs.size (.dK [])) (s.heap.push { cls:=.type "dict",data:=.dict #[] }) s.heap.objs.size (.dK []):=Zhu s.heap I.big
 obtain⟨_,hd0,vs0,r0,dd0⟩:=hok0
 cases r0
 have I1:=I.laid (a:=s.heap.objs.size) (o:=.ext λh=>h.DictOf (ZX X.prog X.w) s.heap.objs.size ([]:List (Key×Value))) (h':=s.heap.push { cls:=.type "dict",data:=.dict #[] }) (t':=s.toks) (λ_ _ q=>Heap.get?_push_of_some _ q) (Nat.le_refl _)
  ⟨dd0,⟨_,Heap.get?_push_size _ rfl⟩,λh1 h2 ⟨o,es,ep,g1,g2⟩ k=>⟨o,es,ep,k o g1,g2⟩⟩
 refine wpAny_Dict_walk (knd:=ZX X.prog X.w) hall hl h0 h15 (thn (h pins _ σ _ _ I1 (q _ _ hn)) λws s2 ⟨ps,H2,I2,rel,e,kvs,ep,lk,q2⟩=>?_)
 subst ep
 obtain⟨rs,c,rk⟩:=ZaY (P:=X.prog) (w:=X.w) rel
 obtain⟨dd,_,_⟩:=(show Z7 X.prog X.w H2 s2.heap s.heap.objs.size (.ext λh=>h.DictOf (ZX X.prog X.w) s.heap.objs.size ([]:List (Key×Value)))from I2.hok _ _ e)
 refine⟨rs,c,dd,λh' dd' hs=>⟨.ref s.heap.objs.size,_,?_,rfl,q2⟩⟩
 have hz:(Xu [] kvs).length<=sizeLine:=by
  have h1:=JS kvs []
  rw[List.length_nil]at h1
  rw[sizeLine_eq];omega
 have he:∃q,h'.get? s.heap.objs.size=some q:=let⟨q,_,_,hq,_⟩:=dd';⟨q,hq⟩
 exact ZjS I2 (by rw[e];exact True.intro) hs he (dk_new hz hd0 (rk.merge .nil) dd')
theorem RT.offP{p:Addr}{φ:Heap->Prop}{o:HO}(hp:H p=some (.ext φ)){t:T}{v:V}(h:RT K cm m H t v):RT K cm m (upd H p o) t v:=by
 have ne:∀{a:Addr}{u:HO},H a=some u->(∀ψ,u≠.ext ψ)->upd H p o a=some u:=λ{a u} e n=>by
  have:a≠p:=λz=>by subst z;rw[hp]at e;cases e;exact n _ rfl
  rw[Zw this];exact e
 induction h with
 |non=>exact .non
 |bl b=>exact .bl b
 |int i=>exact .int i
 |str cs=>exact .str cs
 |tup q1 q2 _ ih =>
  refine .tup ?_ q2 ih
  rcases q1 with(q|⟨o,q⟩)|q
  ·exact .inl (.inl (ne q λ_ z=>by cases z))
  ·exact .inl (.inr ⟨o,ne q λ_ z=>by cases z⟩)
  ·exact .inr q
 |lst q1 q2 q3 _ ih=>exact .lst (ne q1 λ_ z=>by cases z) q2 q3 ih
 |dct q1 q2 q3 q4 _ ih=>exact .dct (ne q1 λ_ z=>by cases z) q2 q3 q4 ih
 |scr ns q =>
  refine .scr ns ?_
  rcases q with⟨o,q⟩|q
  ·exact .inl ⟨o,ne q λ_ z=>by cases z⟩
  ·exact .inr q
theorem ZfL{α:Type}{ws:List W}{m0:Mem}{f:List T->Mem->Res α}{k:α->List Addr->Mem->Hp->Prop}(h:OkR K ((frzs ws m0).bind f) xr cm m H k):∃ts m',frzs ws m0=.ok ts m'/\OkR K (f ts m') xr cm m H k:=by
 cases q:frzs ws m0 with
 |stuck=>rw[q]at h;exact h.elim
 |exc x m'=>exact absurd q Xg
 |ok ts m'=>rw[q]at h;exact⟨ts,m',rfl,h⟩
theorem Zi1{keys:List (Option Expr)}{values:List Expr}{ks:List (List Nat)}{vs:Es}(h:PPs X pos keys values (Zip X.K call gv xr ks vs))(hall:keys.all (·.isSome)=true)(hl:keys.length=values.length)(h0:keys≠[])(h15:keys.length<=15)(hk:keys.length=ks.length)(hlen:Zd4 vs=ks.length):
  PE X (.Dict keys values pos) (tE X.K call gv xr (.dsn ks vs)):=by
 refine PE.mono (Zg1 h hall hl h0 h15) ?_
 rintro σ H Q ⟨env,cm,m,hE,M,ho⟩ p φ hp
 rw[ev]at ho
 have M1:=M.new (o:=.ext φ) hp
 have X1:Ext cm m H cm m (upd H p (.ext φ)):=.new hp
 refine ZbI (hE.ext X1 M M1) M1 (OkR.shift ho.bind0 X1) (λws cm2 m2 H2 x2 M2 o2 ys ry=>?_) hlen
 obtain⟨ts,m3,e3,o3⟩:=ZfL o2
 obtain⟨hc,o3⟩:=Xw o3
 obtain⟨x3,M3,r3⟩:=Jd M2 ry e3
 have hp2:=x2.keep p _ Z8 (Zah M hp)
 have hly:ks.length=ys.length:=by rw[hc.1];exact r3.length
 refine⟨hp2.1,(ks.map λk=>(Sum.inr ⟨k.toArray⟩:Key)).zip ys,ZhK ks ys,?_,?_⟩
 ·rw[List.length_zip,List.length_map];omega
 ·have ek:(((ks.map λk=>(Sum.inr ⟨k.toArray⟩:Key)).zip ys).map (·.1)).Nodup:=by
   rw[Zen (by rw[List.length_map];exact hly)]
   exact ZdZ hc.2.2
  rw[ZbP (by simpa using ek),List.nil_append]
  have n3:Zo cm2 m3 p:=(x3.keep p _ hp2.1 hp2.2).2
  refine OkR.to (cm':=cm2) o3 ?_ ?_ (.ref p) ?_
  ·have x23:=x2.trans x3
   refine⟨λi a e=>x23.pre i a (X1.pre i a e),x23.len,x23.lent,λa o e n=>?_⟩
   have hne:a≠p:=ZW e hp
   have q:=(X1.trans x23).keep a o e n
   exact⟨by rw[Zw hne];exact q.1,q.2⟩
  ·refine⟨M3.len,M3.inj,λi c e=>?_,M3.tab.kept (λb ps e=>by rw[Zw];exact e;rintro rfl;rw[hp2.1]at e;cases e) λb o u e=>by rw[Zw];exact e;rintro rfl;rw[hp2.1]at e;cases e⟩
   obtain⟨a,us,q1,q2,q3,q4⟩:=M3.at' i c e
   have hne:a≠p:=λz=>by subst z;rw[hp2.1]at q2;cases q2
   exact⟨a,us,q1,by rw[Zw hne];exact q2,q3,Zf (λ_ _ z=>RT.offP hp2.1 z) q4⟩
  ·refine RT.dct (ks:=ks.map λk=>(Sum.inr ⟨k.toArray⟩:Key)) Z8 n3 (by rw[List.length_map];exact hly) r3.length λi t v h1 h2=>RT.offP hp2.1 (Z0 r3 i t v h1 h2)
inductive Ents (w:World):List (List Nat)->List Value->List DictEntry->Prop where
 |nil:Ents w [] [] []
 |cons {y:Str}{t:Tok}{cs:List Nat}{h:Int}{u:Value}{css:List (List Nat)}{us:List Value}{es:List DictEntry}:y.cps.toList=cs->h=hashStr w y->Ents w css us es->Ents w (cs::css) (u::us) (⟨h,.str y t,u⟩::es)
noncomputable def VT(K:Frag)(u:Value)(t:T):Prop:=∃v,RelV v u/\∀cm m H,RT K cm m H t v
inductive VTs (K:Frag):List Value->List T->Prop where
 |nil:VTs K [] []
 |cons {u:Value}{t:T}{us:List Value}{ts:List T}:VT K u t->VTs K us ts->VTs K (u::us) (t::ts)
end
end Mi
namespace Ts
open PySem PyProof.Rows
noncomputable def gal:Bool->Keyed->Array Keyed->Nat->Nat->Nat->StateT SortSt Sem (Option Nat):=sortPriv% PySem.Builtin.gallop
noncomputable def mLo:Array Keyed->Array Keyed->StateT SortSt Sem (Array Keyed):=sortPriv% PySem.Builtin.mergeLo
noncomputable def mHi:Array Keyed->Array Keyed->StateT SortSt Sem (Array Keyed):=sortPriv% PySem.Builtin.mergeHi
noncomputable def cRun:Nat->Nat->StateT SortSt Sem (Option Nat):=sortPriv% PySem.Builtin.countRun
noncomputable def bSort:Nat->Nat->Nat->StateT SortSt Sem Bool:=sortPriv% PySem.Builtin.binarySort
structure Cmp (prog:Program) (w:World) (A:Around) (s:Shared) (κ:SortKind) (U:Keyed->Prop) (B:Keyed->Keyed->Bool):Prop where
 lt:∀x y,U x->U y->∀(E:Value->Shared->Prop) (Q:Bool->Shared->Prop),Q (B x y) s->wpAny (model prog w) A (keyLt' κ x.1 y.1) Q E s
 tr:∀x y z,U x->U y->U z->B y x=false->B z y=false->B z x=false
 asy:∀x y,U x->U y->B x y=true->B y x=false
 tot:∀x y,U x->U y->B x y=false->B y x=false->x=y
section
variable{prog:Program}{w:World}{A:Around}{E:Value->Shared->Prop}{s:Shared}{κ:SortKind}{U:Keyed->Prop}{B:Keyed->Keyed->Bool}
theorem s_lt(C:Cmp prog w A s κ U B){x y:Keyed}{st:SortSt}{Q:Option Bool->SortSt->Prop}(hx:U x)(hy:U y)(hk:kindOf st=κ)(h:Q (some (B x y)) st):wpS (model prog w) A E s (lt' x y) Q st:=by
 rw[lt'_eq]
 refine wpS_bind (wpS_get ?_)
 rw[hk]
 exact wpS_bind (wpS_lift (wpAny_attempt (C.lt x y hx hy _ _ ⟨rfl,wpS_pure h⟩)))
theorem s_el{arr:Array Keyed}{i:Nat}{p:Keyed}{st:SortSt}{Q:Keyed->SortSt->Prop}(hp:arr[i]?=some p)(h:Q p st):wpS (model prog w) A E s (elem' arr i) Q st:=by
 rw[elem'_eq,hp]
 exact wpS_pure h
noncomputable def bey(B:Keyed->Keyed->Bool)(left:Bool)(key x:Keyed):Bool:=if left then B x key else !B key x
theorem s_bey(C:Cmp prog w A s κ U B){left:Bool}{key x:Keyed}{arr:Array Keyed}{i:Nat}{st:SortSt}{Q:Option Bool->SortSt->Prop}(hp:arr[i]?=some x)(hx:U x)(hy:U key)(hk:kindOf st=κ)(h:Q (some (bey B left key x)) st):
  wpS (model prog w) A E s (elem' arr i >>= λx=>if left=true then lt' x key else lt' key x >>= λr=>pure (Option.map (λx=>!x) r)) Q st:=by
 refine wpS_bind (s_el hp ?_)
 cases left with
 |true=>rw[if_pos rfl];exact s_lt C hx hy hk h
 |false =>
  rw[if_neg Bool.false_ne_true]
  exact wpS_bind (s_lt C hy hx hk (wpS_pure h))
theorem s_gal(C:Cmp prog w A s κ U B){left:Bool}{key:Keyed}{arr:Array Keyed}{base n hint:Nat}{f:Nat->Keyed}{st:SortSt}{Q:Option Nat->SortSt->Prop}(hf:∀i,i<n->arr[base+i]?=some (f i)/\U (f i))(hy:U key)(hk:kindOf st=κ)(hh:hint<n)(mono:∀i j,i<=j->j<n->bey B left key (f j)=true->bey B left key (f i)=true)(h:∀k,k<=n->(∀i,i<k->bey B left key (f i)=true)->(∀i,k<=i->i<n->bey B left key (f i)=false)->Q (some k) st):wpS (model prog w) A E s (gal left key arr base n hint) Q st:=by
 have bb:∀{i:Nat}{Q':Option Bool->SortSt->Prop},i<n->Q' (some (bey B left key (f i))) st->wpS (model prog w) A E s (elem' arr (base+i) >>= λx=>if left=true then lt' x key else lt' key x >>= λr=>pure (Option.map (λx=>!x) r)) Q' st:=λ{i Q'} hi hq=>s_bey C (hf i hi).1 (hf i hi).2 hy hk hq
 -- the last part: between lo and hi
 have last:∀{R:Type}(F:Nat->Option R×Nat×Nat->StateT SortSt Sem (ForInStep (Option R×Nat×Nat))) (Q':Option R×Nat×Nat->SortSt->Prop) (lo hi:Nat),lo<=hi->hi<=n->(∀i,i<lo->bey B left key (f i)=true)->(∀i,hi<=i->i<n->bey B left key (f i)=false) ->
   (∀x lo hi Q',hi<=lo->Q' (.done (none,lo,hi)) st->wpS (model prog w) A E s (F x (none,lo,hi)) Q' st) ->
   (∀x lo hi Q',lo<hi->hi<=n->Q' (.yield (if bey B left key (f (lo+(hi-lo) / 2))=true then(none,lo+(hi-lo) / 2+1,hi)else(none,lo,lo+(hi-lo) / 2))) st->wpS (model prog w) A E s (F x (none,lo,hi)) Q' st) ->
   (∀lo hi,hi<=n->(∀i,i<hi->bey B left key (f i)=true)->(∀i,hi<=i->i<n->bey B left key (f i)=false)->Q' (none,lo,hi) st)->wpS (model prog w) A E s (forIn [0:n] (none,lo,hi) F) Q' st:=by
  intro R F Q' lo hi h1 h2 h3 h4 f0 f1 fq
  refine wpS_forRange (I:=λi sx st'=>st'=st/\sx.1=none/\sx.2.1<=sx.2.2/\sx.2.2<=n/\sx.2.2-sx.2.1<=n-i/\(∀i,i<sx.2.1->bey B left key (f i)=true)/\∀i,sx.2.2<=i->i<n->bey B left key (f i)=false) ?_ ?_ ⟨rfl,rfl,h1,h2,(by show hi-lo<=n-0;omega),h3,h4⟩
  ·rintro i ⟨r,lo,hi⟩ st' _ hi2 ⟨rfl,rfl,a1,a2,a3,a4,a5⟩
   dsimp only at a1 a2 a3 a4 a5 ⊢
   by_cases hc:hi<=lo
   ·exact f0 _ _ _ _ hc (fq lo hi a2 (λj hj=>a4 j (by omega)) a5)
   ·refine f1 _ _ _ _ (by omega) a2 ?_
    cases q:bey B left key (f (lo+(hi-lo) / 2))with
    |true =>
     rw[if_pos rfl]
     exact⟨rfl,rfl,by dsimp only;omega,a2,by dsimp only;omega,λj hj=>mono j _ (by dsimp only at hj;omega) (by omega) q,a5⟩
    |false =>
     rw[if_neg Bool.false_ne_true]
     refine⟨rfl,rfl,by dsimp only;omega,by dsimp only;omega,by dsimp only;omega,a4,λj hj hjn=>?_⟩
     cases z:bey B left key (f j)with
     |false=>rfl
     |true=>rw[mono _ j hj hjn z]at q;cases q
  ·rintro ⟨r,lo,hi⟩ st' ⟨rfl,rfl,a1,a2,a3,a4,a5⟩
   dsimp only at a1 a2 a3 a4 a5 ⊢
   exact fq lo hi a2 (λj hj=>a4 j (by omega)) a5
 refine wpS_bind (bb hh ?_)
 cases q:bey B left key (f hint)with
 |true =>
  refine wpS_bind (wpS_mono (wpS_forRange (I:=λ(i:Nat) (sx:Option (Option Nat)×Nat×Nat) st'=>st'=st/\sx.1=none/\sx.2.1<sx.2.2/\i<=sx.2.1/\hint+sx.2.1<n/\bey B left key (f (hint+sx.2.1))=true) (Q:=λsx st'=>st'=st/\sx.1=none/\sx.2.1<sx.2.2/\hint+sx.2.1<n/\bey B left key (f (hint+sx.2.1))=true/\(∀i,hint+sx.2.2<=i->i<n->bey B left key (f i)=false)) ?_ ?_ ⟨rfl,rfl,Nat.zero_lt_one,Nat.zero_le _,hh,q⟩) ?_)
  ·rintro i ⟨r,la,of⟩ st' _ hi2 ⟨rfl,rfl,a1,a2,a3,a4⟩
   dsimp only at a1 a2 a3 a4 ⊢
   by_cases hc:of ≥ n-hint
   ·rw[if_pos hc]
    exact wpS_pure ⟨rfl,rfl,a1,a3,a4,λj hj hjn=>by dsimp only at hj;omega⟩
   ·rw[if_neg hc]
    refine wpS_bind (bb (by omega) ?_)
    cases z:bey B left key (f (hint+of))with
    |true =>
     dsimp only
     rw[if_neg (by simp)]
     exact wpS_pure ⟨rfl,rfl,(by show of<2*of+1;omega),(by show i+1<=of;omega),(by show hint+of<n;omega),z⟩
    |false =>
     dsimp only
     rw[if_pos (by simp)]
     refine wpS_pure ⟨rfl,rfl,a1,a3,a4,λj hj hjn=>?_⟩
     cases y:bey B left key (f j)with
     |false=>rfl
     |true=>rw[mono _ j hj hjn y]at z;cases z
  ·rintro ⟨r,la,of⟩ st' ⟨rfl,rfl,a1,a2,a3,a4⟩
   dsimp only at a1 a2 a3 a4 ⊢
   exact⟨rfl,rfl,a1,a3,a4,λj hj hjn=>by omega⟩
  ·rintro ⟨r,la,of⟩ st' ⟨rfl,rfl,a1,a3,a4,a5⟩
   dsimp only at a1 a3 a4 a5 ⊢
   refine wpS_bind (last _ _ (hint+la+1) (hint+min of (n-hint)) (by omega) (by omega) (λj hj=>mono j (hint+la) (by omega) a3 a4) (λj hj hjn=>a5 j (by omega) hjn) ?_ ?_ ?_)
   ·intro x lo hi Q' hc hq
    dsimp only
    rw[if_pos hc]
    exact wpS_pure hq
   ·intro x lo hi Q' hc hn hq
    dsimp only
    rw[if_neg (by omega)]
    refine wpS_bind (bb (by omega) ?_)
    cases q:bey B left key (f (lo+(hi-lo) / 2))with
    |true =>
     rw[q,if_pos rfl]at hq
     exact wpS_pure hq
    |false =>
     rw[q,if_neg Bool.false_ne_true]at hq
     exact wpS_pure hq
   ·intro lo hi h1 h2 h3
    exact wpS_pure (h hi h1 h2 h3)
 |false =>
  refine wpS_bind (wpS_mono (wpS_forRange (I:=λ(i:Nat) (sx:Option (Option Nat)×Nat×Nat) st'=>st'=st/\sx.1=none/\sx.2.1<sx.2.2/\i<=sx.2.1/\sx.2.1<=hint/\bey B left key (f (hint-sx.2.1))=false) (Q:=λsx st'=>st'=st/\sx.1=none/\sx.2.1<sx.2.2/\sx.2.1<=hint/\bey B left key (f (hint-sx.2.1))=false/\(∀i,i+sx.2.2<=hint->bey B left key (f i)=true)) ?_ ?_ ⟨rfl,rfl,Nat.zero_lt_one,Nat.zero_le _,Nat.zero_le _,q⟩) ?_)
  ·rintro i ⟨r,la,of⟩ st' _ hi2 ⟨rfl,rfl,a1,a2,a3,a4⟩
   dsimp only at a1 a2 a3 a4 ⊢
   by_cases hc:of ≥ hint+1
   ·rw[if_pos hc]
    exact wpS_pure ⟨rfl,rfl,a1,a3,a4,λj hj=>by dsimp only at hj;omega⟩
   ·rw[if_neg hc]
    refine wpS_bind (bb (by omega) ?_)
    cases z:bey B left key (f (hint-of))with
    |true =>
     dsimp only
     rw[if_pos rfl]
     exact wpS_pure ⟨rfl,rfl,a1,a3,a4,λj hj=>mono j _ (by dsimp only at hj;omega) (by omega) z⟩
    |false =>
     dsimp only
     rw[if_neg Bool.false_ne_true]
     exact wpS_pure ⟨rfl,rfl,(by show of<2*of+1;omega),(by show i+1<=of;omega),(by show of<=hint;omega),z⟩
  ·rintro ⟨r,la,of⟩ st' ⟨rfl,rfl,a1,a2,a3,a4⟩
   dsimp only at a1 a2 a3 a4 ⊢
   exact⟨rfl,rfl,a1,a3,a4,λj hj=>by omega⟩
  ·rintro ⟨r,la,of⟩ st' ⟨rfl,rfl,a1,a3,a4,a5⟩
   dsimp only at a1 a3 a4 a5 ⊢
   refine wpS_bind (last _ _ (hint+1-min of (hint+1)) (hint-la) (by omega) (by omega) (λj hj=>a5 j (by omega)) (λj hj hjn=>by
    cases y:bey B left key (f j)with
    |false=>rfl
    |true=>rw[mono _ j hj hjn y]at a4;cases a4) ?_ ?_ ?_)
   ·intro x lo hi Q' hc hq
    dsimp only
    rw[if_pos hc]
    exact wpS_pure hq
   ·intro x lo hi Q' hc hn hq
    dsimp only
    rw[if_neg (by omega)]
    refine wpS_bind (bb (by omega) ?_)
    cases q:bey B left key (f (lo+(hi-lo) / 2))with
    |true =>
     rw[q,if_pos rfl]at hq
     exact wpS_pure hq
    |false =>
     rw[q,if_neg Bool.false_ne_true]at hq
     exact wpS_pure hq
   ·intro lo hi h1 h2 h3
    exact wpS_pure (h hi h1 h2 h3)
end
noncomputable def Srt(B:Keyed->Keyed->Bool)(l:List Keyed):Prop:=l.Pairwise λx y=>B y x=false
structure MJ (B:Keyed->Keyed->Bool) (W o la lb:List Keyed):Prop where
 perm:(o++(la++lb)).Perm W
 so:Srt B o
 sa:Srt B la
 sb:Srt B lb
 le:∀x∈o,∀y∈la++lb,B y x=false
section
variable{prog:Program}{w:World}{A:Around}{E:Value->Shared->Prop}{s:Shared}{κ:SortKind}{U:Keyed->Prop}{B:Keyed->Keyed->Bool}{W o la lb p:List Keyed}{x y z:Keyed}
theorem MJ.mem(m:MJ B W o la lb)(hU:∀x∈W,U x){x:Keyed}(h:x∈o++(la++lb)):U x:=hU x (m.perm.mem_iff.mp h)
theorem MJ.ua(m:MJ B W o la lb)(hU:∀x∈W,U x){x:Keyed}(h:x∈la):U x:=m.mem hU (by simp[h])
theorem MJ.ub(m:MJ B W o la lb)(hU:∀x∈W,U x){x:Keyed}(h:x∈lb):U x:=m.mem hU (by simp[h])
theorem Srt.app{l r:List Keyed}(h1:Srt B l)(h2:Srt B r)(h3:∀x∈l,∀y∈r,B y x=false):Srt B (l++r):=List.pairwise_append.mpr ⟨h1,h2,h3⟩
theorem Srt.head(h:Srt B (x::la)):∀y∈la,B y x=false:=(List.pairwise_cons.mp h).1
theorem Srt.tail(h:Srt B (x::la)):Srt B la:=(List.pairwise_cons.mp h).2
theorem MJ.appA(C:Cmp prog w A s κ U B)(hU:∀x∈W,U x)(m:MJ B W o (p++la) (y::lb))(h:∀x∈p,B y x=false):MJ B W (o++p) la (y::lb):=by
 have sp:=List.pairwise_append.mp m.sa
 refine⟨by simpa[List.append_assoc]using m.perm,m.so.app sp.1 λa ha b hb=>m.le a ha b (by simp[hb]),sp.2.1,m.sb,λa ha b hb=>?_⟩
 rcases List.mem_append.mp ha with ha|ha
 ·exact m.le a ha b (List.mem_append.mpr ((List.mem_append.mp hb).imp (List.mem_append_right _) id))
 ·rcases List.mem_append.mp hb with hb|hb
  ·exact sp.2.2 a ha b hb
  ·rcases List.mem_cons.mp hb with rfl|hb'
   ·exact h a ha
   ·exact C.tr a y b (m.ua hU (by simp[ha])) (m.ub hU (by simp)) (m.ub hU (by simp[hb'])) (h a ha) (m.sb.head b hb')
theorem MJ.appB(C:Cmp prog w A s κ U B)(hU:∀x∈W,U x)(m:MJ B W o (x::la) (p++lb))(h:∀y∈p,B y x=true):MJ B W (o++p) (x::la) lb:=by
 have sp:=List.pairwise_append.mp m.sb
 have ux:=m.ua hU (show x∈x::la by simp)
 refine⟨?_,m.so.app sp.1 λa ha b hb=>m.le a ha b (by simp[hb]),m.sa,sp.2.1,λa ha b hb=>?_⟩
 ·refine List.Perm.trans ?_ m.perm
  rw[List.append_assoc]
  refine List.Perm.append_left o ?_
  rw[<-List.append_assoc,<-List.append_assoc]
  exact List.Perm.append_right lb List.perm_append_comm
 ·rcases List.mem_append.mp ha with ha|ha
  ·exact m.le a ha b (List.mem_append.mpr ((List.mem_append.mp hb).imp id (List.mem_append_right _)))
  ·rcases List.mem_append.mp hb with hb|hb
   ·have ua:=m.ub hU (show a∈p++lb by simp[ha])
    have hax:=C.asy a x ua ux (h a ha)
    rcases List.mem_cons.mp hb with rfl|hb'
    ·exact hax
    ·exact C.tr a x b ua ux (m.ua hU (by simp[hb'])) hax (m.sa.head b hb')
   ·exact sp.2.2 a ha b hb
theorem MJ.pushA(C:Cmp prog w A s κ U B)(hU:∀x∈W,U x)(m:MJ B W o (x::la) (y::lb))(h:B y x=false):MJ B W (o++[x]) la (y::lb):=MJ.appA (p:=[x]) C hU m λz hz=>by simp at hz;subst hz;exact h
theorem MJ.pushB(C:Cmp prog w A s κ U B)(hU:∀x∈W,U x)(m:MJ B W o (x::la) (y::lb))(h:B y x=true):MJ B W (o++[y]) (x::la) lb:=MJ.appB (p:=[y]) C hU m λz hz=>by simp at hz;subst hz;exact h
noncomputable def Gd(B:Keyed->Keyed->Bool)(W:List Keyed)(r:List Keyed):Prop:=r.Perm W/\Srt B r
theorem MJ.done(m:MJ B W o la []):Gd B W (o++la):=⟨by simpa using m.perm,m.so.app m.sa λa ha b hb=>m.le a ha b (by simp[hb])⟩
theorem MJ.lastA(C:Cmp prog w A s κ U B)(hU:∀x∈W,U x)(m:MJ B W o [z] lb)(h:∀y∈lb,B y z=true):Gd B W (o++lb++[z]):=by
 have k:=MJ.appB (p:=lb) (lb:=[]) C hU (by simpa using m) h
 exact k.done
end
noncomputable def Sm(st st':SortSt):Prop:=kindOf st'=kindOf st/\arrOf st'=arrOf st/\pendingOf st'=pendingOf st/\failedOf st'=failedOf st
theorem Sm.refl(st:SortSt):Sm st st:=⟨rfl,rfl,rfl,rfl⟩
noncomputable def sGal:Nat->StateT SortSt Sem Unit:=sortPriv% PySem.Builtin.setMinGallop
section
variable{prog:Program}{w:World}{A:Around}{E:Value->Shared->Prop}{s:Shared}{κ:SortKind}{U:Keyed->Prop}{B:Keyed->Keyed->Bool}{st st':SortSt}
theorem Zgz{g:Nat}{Q:Unit->SortSt->Prop}(hs:Sm st st')(h:∀st'',Sm st st''->Q () st''):wpS (model prog w) A E s (sGal g) Q st':=
 wpS_modify (h _ ⟨hs.1,hs.2.1,hs.2.2.1,hs.2.2.2⟩)
theorem Zn{c:Prop}[Decidable c]{α:Type}{x y:StateT SortSt Sem α}{Q:α->SortSt->Prop}(h1:c->wpS (model prog w) A E s x Q st)(h2:¬c->wpS (model prog w) A E s y Q st):wpS (model prog w) A E s (if c then x else y) Q st:=by
 by_cases h:c
 ·rw[if_pos h];exact h1 h
 ·rw[if_neg h];exact h2 h
theorem Qi{l:Array Keyed}{i:Nat}(h:i<l.size):l.toList.drop i=l[i]::l.toList.drop (i+1):=by
 rw[List.drop_eq_getElem_cons (by simpa using h)]
 simp
theorem ZQ{l:Array Keyed}{i:Nat}(h:i<l.size):l[i]?=some l[i]:=by simp[h]
theorem Zjn{l:Array Keyed}{d i:Nat}(h:d<=i)(hi:i<l.size):l[i]∈l.toList.drop d:=by
 rw[List.mem_iff_getElem]
 exact⟨i-d,by simp;omega,by simp[show d+(i-d)=i by omega]⟩
theorem ZaH{l:Array Keyed}{i j:Nat}:(l.extract i j).toList=(l.toList.drop i).take (j-i):=by simp[List.take_drop,List.extract_eq_drop_take]
theorem Zhq{l:Array Keyed}{i:Nat}:(l.extract i l.size).toList=l.toList.drop i:=by rw[ZaH,List.take_of_length_le (by simp)]
section
variable{W:List Keyed}{a b out:Array Keyed}{ia ib k:Nat}
theorem MJ.uA(m:MJ B W out.toList (a.toList.drop ia) (b.toList.drop ib))(hU:∀x∈W,U x)(h:ia<a.size):U a[ia]:=m.ua hU (by rw[Qi h];simp)
theorem MJ.uB(m:MJ B W out.toList (a.toList.drop ia) (b.toList.drop ib))(hU:∀x∈W,U x)(h:ib<b.size):U b[ib]:=m.ub hU (by rw[Qi h];simp)
theorem MJ.stB(C:Cmp prog w A s κ U B)(hU:∀x∈W,U x)(m:MJ B W out.toList (a.toList.drop ia) (b.toList.drop ib))(h1:ia<a.size)(h2:ib<b.size)(h:B b[ib] a[ia]=true):MJ B W (out.push b[ib]).toList (a.toList.drop ia) (b.toList.drop (ib+1)):=by
 rw[Qi h1,Qi h2]at m
 rw[Qi h1,Array.toList_push]
 exact m.pushB C hU h
theorem MJ.stA(C:Cmp prog w A s κ U B)(hU:∀x∈W,U x)(m:MJ B W out.toList (a.toList.drop ia) (b.toList.drop ib))(h1:ia<a.size)(h2:ib<b.size)(h:B b[ib] a[ia]=false):MJ B W (out.push a[ia]).toList (a.toList.drop (ia+1)) (b.toList.drop ib):=by
 rw[Qi h1,Qi h2]at m
 rw[Qi h2,Array.toList_push]
 exact m.pushA C hU h
theorem Zie{l:Array Keyed}{i k:Nat}(h:i+k<=l.size):l.toList.drop i=(l.extract i (i+k)).toList++l.toList.drop (i+k)/\∀x∈(l.extract i (i+k)).toList,∃j,∃hj:i+j<l.size,j<k/\x=l[i+j]:=by
 refine⟨by rw[ZaH,Nat.add_sub_cancel_left,<-List.drop_drop,List.take_append_drop],λx hx=>?_⟩
 rw[ZaH,Nat.add_sub_cancel_left]at hx
 obtain⟨j,hj,rfl⟩:=List.mem_iff_getElem.mp hx
 have hj':j<k:=by simp at hj;omega
 exact⟨j,by omega,hj',by simp⟩
theorem MJ.glA(C:Cmp prog w A s κ U B)(hU:∀x∈W,U x)(m:MJ B W out.toList (a.toList.drop ia) (b.toList.drop ib))(h1:ia+k<=a.size)(h2:ib<b.size)(h:∀j (hj:ia+j<a.size),j<k->B b[ib] a[ia+j]=false):MJ B W (out++a.extract ia (ia+k)).toList (a.toList.drop (ia+k)) (b.toList.drop ib):=by
 obtain⟨e,hm⟩:=Zie h1
 rw[e,Qi h2]at m
 rw[Qi h2,Array.toList_append]
 exact m.appA C hU λx hx=>by
  obtain⟨j,hj,hjk,rfl⟩:=hm x hx
  exact h j hj hjk
theorem MJ.glB(C:Cmp prog w A s κ U B)(hU:∀x∈W,U x)(m:MJ B W out.toList (a.toList.drop ia) (b.toList.drop ib))(h1:ia<a.size)(h2:ib+k<=b.size)(h:∀j (hj:ib+j<b.size),j<k->B b[ib+j] a[ia]=true):MJ B W (out++b.extract ib (ib+k)).toList (a.toList.drop ia) (b.toList.drop (ib+k)):=by
 obtain⟨e,hm⟩:=Zie h2
 rw[e,Qi h1]at m
 rw[Qi h1,Array.toList_append]
 exact m.appB C hU λx hx=>by
  obtain⟨j,hj,hjk,rfl⟩:=hm x hx
  exact h j hj hjk
theorem Srt.at{l:Array Keyed}{d i j:Nat}(h:Srt B (l.toList.drop d))(hd:d<=i)(hij:i<j)(hj:j<l.size):B l[j] l[i]=false:=by
 have:=List.pairwise_iff_getElem.mp h (i-d) (j-d) (by simp;omega) (by simp;omega) (by omega)
 simpa[show d+(j-d)=j by omega,show d+(i-d)=i by omega]using this
end
theorem ZeP(C:Cmp prog w A s κ U B){key:Keyed}{arr:Array Keyed}{base n hint:Nat}{Q:Option Nat->SortSt->Prop}(hn:base+n<=arr.size)(hu:∀i (h:i<arr.size),base<=i->i<base+n->U arr[i])(hy:U key)(so:∀i j (hj:j<arr.size) (hij:i<j),base<=i->j<base+n->B arr[j] arr[i]=false)(hh:hint<n)(hk:kindOf st=κ)(h:∀k,k<=n->(∀i (hi:i<arr.size),base<=i->i<base+k->B key arr[i]=false)->(∀i (hi:i<arr.size),base+k<=i->i<base+n->B key arr[i]=true)->Q (some k) st):wpS (model prog w) A E s (gal false key arr base n hint) Q st:=by
 have ff:∀i (hi:i<n),(arr[base+i]?).getD key=arr[base+i]'(by omega):=λi hi=>by rw[ZQ (by omega)];rfl
 refine s_gal C (f:=λi=>(arr[base+i]?).getD key) (λi hi=>?_) hy hk hh (λi j hij hj q=>?_) λk k1 k2 k3=>h k k1 (λi hi h1 h2=>?_) λi hi h1 h2=>?_
 ·rw[ff i hi]
  exact⟨ZQ _,hu _ _ (by omega) (by omega)⟩
 ·dsimp only[bey]at q ⊢
  rw[ff _ hj]at q
  rw[ff i (by omega)]
  rcases Nat.eq_or_lt_of_le hij with e|e
  ·subst e;exact q
  ·have q:B key arr[base+j]=false:=by simpa using q
   have:=C.tr _ _ _ (hu (base+i) (by omega) (by omega) (by omega)) (hu (base+j) (by omega) (by omega) (by omega)) hy (so _ _ _ (by omega) (by omega) (by omega)) q
   simpa using this
 ·have:=k2 (i-base) (by omega)
  dsimp only[bey]at this
  rw[ff _ (by omega)]at this
  simpa[show base+(i-base)=i by omega]using this
 ·have:=k3 (i-base) (by omega) (by omega)
  dsimp only[bey]at this
  rw[ff _ (by omega)]at this
  simpa[show base+(i-base)=i by omega]using this
theorem ZbD(C:Cmp prog w A s κ U B){key:Keyed}{arr:Array Keyed}{base n hint:Nat}{Q:Option Nat->SortSt->Prop}(hn:base+n<=arr.size)(hu:∀i (h:i<arr.size),base<=i->i<base+n->U arr[i])(hy:U key)(so:∀i j (hj:j<arr.size) (hij:i<j),base<=i->j<base+n->B arr[j] arr[i]=false)(hh:hint<n)(hk:kindOf st=κ)(h:∀k,k<=n->(∀i (hi:i<arr.size),base<=i->i<base+k->B arr[i] key=true)->(∀i (hi:i<arr.size),base+k<=i->i<base+n->B arr[i] key=false)->Q (some k) st):wpS (model prog w) A E s (gal true key arr base n hint) Q st:=by
 have ff:∀i (hi:i<n),(arr[base+i]?).getD key=arr[base+i]'(by omega):=λi hi=>by rw[ZQ (by omega)];rfl
 refine s_gal C (f:=λi=>(arr[base+i]?).getD key) (λi hi=>?_) hy hk hh (λi j hij hj q=>?_) λk k1 k2 k3=>h k k1 (λi hi h1 h2=>?_) λi hi h1 h2=>?_
 ·rw[ff i hi]
  exact⟨ZQ _,hu _ _ (by omega) (by omega)⟩
 ·dsimp only[bey]at q ⊢
  rw[ff _ hj,if_pos rfl]at q
  rw[ff i (by omega),if_pos rfl]
  rcases Nat.eq_or_lt_of_le hij with e|e
  ·subst e;exact q
  ·cases z:B arr[base+i] key with
   |true=>rfl
   |false =>
    have:=C.tr _ _ _ hy (hu (base+i) (by omega) (by omega) (by omega)) (hu (base+j) (by omega) (by omega) (by omega)) z (so _ _ _ (by omega) (by omega) (by omega))
    rw[this]at q;cases q
 ·have:=k2 (i-base) (by omega)
  dsimp only[bey]at this
  rw[ff _ (by omega),if_pos rfl]at this
  simpa[show base+(i-base)=i by omega]using this
 ·have:=k3 (i-base) (by omega) (by omega)
  dsimp only[bey]at this
  rw[ff _ (by omega),if_pos rfl]at this
  simpa[show base+(i-base)=i by omega]using this
theorem s_mLo(C:Cmp prog w A s κ U B){a b:Array Keyed}{Q:Array Keyed->SortSt->Prop}(hU:∀x∈a.toList++b.toList,U x)(ha:0<a.size)(hb:0<b.size)(sa:Srt B a.toList)(sb:Srt B b.toList)(hk:kindOf st=κ)(h0:B b[0] a[0]=true)(h1:∀y∈b.toList,B y a[a.size-1]=true)(h:∀r st',Sm st st'->Gd B (a.toList++b.toList) r.toList->Q r st'):wpS (model prog w) A E s (mLo a b) Q st:=by
 generalize hW:a.toList++b.toList=W at hU h
 have lb:∀{i:Nat},∀y∈b.toList.drop i,B y a[a.size-1]=true:=λy hy=>h1 y (List.mem_of_mem_drop hy)
 -- what the ends give
 have eB:∀{out:Array Keyed}{ia ib:Nat},MJ B W out.toList (a.toList.drop ia) (b.toList.drop ib)->(ib==b.size)=true->Gd B W (out++a.extract ia a.size++b.extract ib b.size).toList:=λ{out ia ib} m e=>by
  have e:ib=b.size:=by simpa using e
  subst e
  have hd:b.toList.drop b.size=[]:=List.drop_eq_nil_of_le (by simp)
  rw[hd]at m
  rw[Array.toList_append,Array.toList_append,Zhq,Zhq,hd,List.append_nil]
  exact m.done
 have eA:∀{out:Array Keyed}{ia ib:Nat},MJ B W out.toList (a.toList.drop ia) (b.toList.drop ib)->(ia+1==a.size)=true->Gd B W (out++b.extract ib b.size++a.extract ia a.size).toList:=λ{out ia ib} m e=>by
  have e:ia+1=a.size:=by simpa using e
  have ez:a.toList.drop ia=[a[a.size-1]]:=by
   rw[Qi (by omega),List.drop_eq_nil_of_le (by simp;omega)]
   congr 2
   omega
  rw[ez]at m
  rw[Array.toList_append,Array.toList_append,Zhq,Zhq,ez]
  exact m.lastA C hU lb
 have start:MJ B W [b[0]] (a.toList.drop 0) (b.toList.drop 1):=by
  have m0:MJ B W [] (a.toList.drop 0) (b.toList.drop 0):=⟨by simp[hW],.nil,by simpa using sa,by simpa using sb,λx hx=>by simp at hx⟩
  rw[Qi ha,Qi hb]at m0
  rw[Qi ha]
  exact m0.pushB C hU h0
 refine wpS_bind (wpS_lift (wpAny_rule ⟨rfl,?_⟩))
 refine wpS_bind (s_el (ZQ hb) ?_)
 dsimp only
 refine Zn (λc1=>wpS_pure (h _ _ (Sm.refl _) (eB start c1))) λc1=>?_
 refine Zn (λc2=>wpS_pure (h _ _ (Sm.refl _) (eA start c2))) λc2=>?_
 have c1:1≠b.size:=by simpa using c1
 have c2:0+1≠a.size:=by simpa using c2
 refine wpS_bind (wpS_get ?_)
 refine wpS_bind (wpS_mono (wpS_forRange (I:=λ(i:Nat) (sx:Option (Array Keyed)×Array Keyed×Nat×Nat×Nat) st'=>Sm st st'/\sx.1=none/\MJ B W sx.2.1.toList (a.toList.drop sx.2.2.1) (b.toList.drop sx.2.2.2.1)/\sx.2.2.1+1<a.size/\sx.2.2.2.1<b.size/\i+1<=sx.2.2.1+sx.2.2.2.1)
  (Q:=λsx st'=>Sm st st'/\∃r,sx.1=some r/\Gd B W r.toList) ?_ ?_ ⟨Sm.refl _,rfl,start,(by show 0+1<a.size;omega),(by show 1<b.size;omega),(by show 0+1<=0+1;omega)⟩) ?_)
 ·rintro i ⟨r,out,ia,ib,mg⟩ st1 _ hi ⟨hs,rfl,m,q1,q2,q3⟩
  dsimp only at m q1 q2 q3 ⊢
  refine wpS_bind (wpS_mono (wpS_forRange (I:=λ(j:Nat) (sx:Option (Array Keyed)×Array Keyed×Nat×Nat×Nat×Nat) st'=>Sm st st'/\sx.1=none/\MJ B W sx.2.1.toList (a.toList.drop sx.2.2.1) (b.toList.drop sx.2.2.2.1)/\sx.2.2.1+1<a.size/\sx.2.2.2.1<b.size/\ia+ib+j<=sx.2.2.1+sx.2.2.2.1)
   (Q:=λsx st'=>Sm st st'/\((∃r,sx.1=some r/\Gd B W r.toList)∨(sx.1=none/\MJ B W sx.2.1.toList (a.toList.drop sx.2.2.1) (b.toList.drop sx.2.2.2.1)/\sx.2.2.1+1<a.size/\sx.2.2.2.1<b.size/\ia+ib+1<=sx.2.2.1+sx.2.2.2.1))) ?_ ?_ ⟨hs,rfl,m,q1,q2,Nat.le_refl _⟩) ?_)
  ·rintro j ⟨r,out,ja,jb,ac,bc⟩ st2 _ hj ⟨hs,rfl,m,p1,p2,p3⟩
   dsimp only at m p1 p2 p3 ⊢
   have p0:ja<a.size:=by omega
   refine wpS_bind (s_el (ZQ p2) (wpS_bind (s_el (ZQ p0) (wpS_bind (s_lt C (m.uB hU p2) (m.uA hU p0) (hs.1.trans hk) ?_)))))
   cases q:B b[jb] a[ja]with
   |true =>
    have m2:=m.stB C hU p0 p2 q
    refine Zn (λ_=>?_) λz=>absurd rfl z
    refine wpS_bind (s_el (ZQ p2) (Zn (λz=>wpS_pure ⟨hs,.inl ⟨_,rfl,eB m2 z⟩⟩) λz=>?_))
    ·have z:jb+1≠b.size:=by simpa using z
     refine Zn (λ_=>?_) λ_=>?_
     ·exact wpS_pure ⟨hs,.inr ⟨rfl,m2,p1,(by show jb+1<b.size;omega),(by show ia+ib+1<=ja+(jb+1);omega)⟩⟩
     ·exact wpS_pure ⟨hs,rfl,m2,p1,(by show jb+1<b.size;omega),(by show ia+ib+(j+1)<=ja+(jb+1);omega)⟩
   |false =>
    have m2:=m.stA C hU p0 p2 q
    refine Zn (λz=>absurd z Bool.false_ne_true) λ_=>?_
    refine wpS_bind (s_el (ZQ p0) (Zn (λz=>wpS_pure ⟨hs,.inl ⟨_,rfl,eA m2 z⟩⟩) λz=>?_))
    ·have z:ja+1+1≠a.size:=by simpa using z
     refine Zn (λ_=>?_) λ_=>?_
     ·exact wpS_pure ⟨hs,.inr ⟨rfl,m2,(by show ja+1+1<a.size;omega),p2,(by show ia+ib+1<=ja+1+jb;omega)⟩⟩
     ·exact wpS_pure ⟨hs,rfl,m2,(by show ja+1+1<a.size;omega),p2,(by show ia+ib+(j+1)<=ja+1+jb;omega)⟩
  ·rintro ⟨r,out,ja,jb,ac,bc⟩ st2 ⟨_,_,_,p1,p2,p3⟩
   dsimp only at p1 p2 p3
   omega
  ·rintro ⟨r,out,ja,jb,ac,bc⟩ st2 ⟨hs,⟨r',rfl,g⟩|⟨rfl,m,p1,p2,p3⟩⟩
   ·exact wpS_pure ⟨hs,r',rfl,g⟩
   ·dsimp only at m p1 p2 p3 ⊢
    refine wpS_bind (wpS_lift (wpAny_rule ⟨rfl,?_⟩))
    refine wpS_bind (wpS_mono (wpS_forRange (I:=λ(j:Nat) (sx:Option (Array Keyed)×Array Keyed×Nat×Nat×Nat×Nat×Nat) st'=>Sm st st'/\sx.1=none/\MJ B W sx.2.1.toList (a.toList.drop sx.2.2.1) (b.toList.drop sx.2.2.2.1)/\sx.2.2.1+1<a.size/\sx.2.2.2.1<b.size/\ja+jb+j<=sx.2.2.1+sx.2.2.2.1)
     (Q:=λsx st'=>Sm st st'/\((∃r,sx.1=some r/\Gd B W r.toList)∨(sx.1=none/\MJ B W sx.2.1.toList (a.toList.drop sx.2.2.1) (b.toList.drop sx.2.2.2.1)/\sx.2.2.1+1<a.size/\sx.2.2.2.1<b.size/\ja+jb<=sx.2.2.1+sx.2.2.2.1))) ?_ ?_ ⟨hs,rfl,m,p1,p2,Nat.le_refl _⟩) ?_)
    ·rintro j ⟨r,out,ka,kb,mg,ac,bc⟩ st2 _ hj ⟨hs,rfl,m,t1,t2,t3⟩
     dsimp only at m t1 t2 t3
     refine Zn (λ_=>?_) (λ_=>?_)
     all_goals
      refine wpS_bind (Zgz hs λst3 hs=>wpS_bind (s_el (ZQ t2) (wpS_bind (ZeP C (key:=b[kb]) (arr:=a) (base:=ka) (n:=a.size-ka) (hint:=0) (by omega) (λi hi z _=>m.ua hU (Zjn z hi)) (m.uB hU t2) (λi j hj hij h1 h2=>m.sa.at h1 hij hj) (by omega) (hs.1.trans hk) λk k1 k2 k3=>?_))))
      have nz:ka+k+1<=a.size:=by
       rcases Nat.lt_or_ge (ka+k) a.size with z|z
       ·exact z
       ·have e1:=k2 (a.size-1) (by omega) (by omega) (by omega)
        have e2:=h1 b[kb] (by simp)
        rw[e1]at e2;cases e2
      have m2:=m.glA C hU (k:=k) (by omega) t2 λj hj hjk=>k2 _ _ (by omega) (by omega)
      have lt:=k3 (ka+k) (by omega) (by omega) (by omega)
      refine Zn (λhk0=>Zn (λz=>wpS_pure ⟨hs,.inl ⟨_,rfl,eA m2 z⟩⟩) λz=>Zn (λz2=>absurd (show ka+k=a.size by simpa using z2) (by omega)) λ_=>?_) λhk0=>?_
      ·have z:ka+k+1≠a.size:=by simpa using z
       have hc:ka+k<a.size:=by omega
       have m3:=m2.stB C hU hc t2 lt
       refine wpS_bind (s_el (ZQ t2) (Zn (λz=>wpS_pure ⟨hs,.inl ⟨_,rfl,eB m3 z⟩⟩) λz=>?_))
       have z:kb+1≠b.size:=by simpa using z
       refine wpS_bind (s_el (ZQ hc) (wpS_bind (ZbD C (arr:=b) (base:=kb+1) (n:=b.size-(kb+1)) (hint:=0) (by omega) (λi hi y _=>m3.ub hU (Zjn y hi)) (m3.uA hU hc) (λi j hj hij h1 h2=>m3.sb.at h1 hij hj) (by omega) (hs.1.trans hk) λl l1 l2 l3=>?_)))
       have m4:=m3.glB C hU (k:=l) hc (by omega) λj hj hjk=>l2 _ _ (by omega) (by omega)
       refine Zn (λhl0=>Zn (λy=>wpS_pure ⟨hs,.inl ⟨_,rfl,eB m4 y⟩⟩) λy=>?_) λhl0=>?_
       ·have y:kb+1+l≠b.size:=by simpa using y
        have hd:kb+1+l<b.size:=by omega
        have ge:=l3 (kb+1+l) hd (by omega) (by omega)
        have m5:=m4.stA C hU hc hd ge
        refine wpS_bind (s_el (ZQ hc) (Zn (λx=>wpS_pure ⟨hs,.inl ⟨_,rfl,eA m5 x⟩⟩) λx=>?_))
        have x:ka+k+1+1≠a.size:=by simpa using x
        have w1:ka+k+1+1<a.size:=by omega
        have w2:ja+jb+(j+1)<=ka+k+1+(kb+1+l):=by omega
        exact Zn (λ_=>wpS_pure ⟨hs,.inr ⟨rfl,m5,w1,hd,(Nat.le_trans (Nat.le_add_right _ _) w2)⟩⟩) λ_=>wpS_pure ⟨hs,rfl,m5,w1,hd,w2⟩
       ·obtain rfl:l=0:=by omega
        have hd:kb+1<b.size:=by omega
        have ge:=l3 (kb+1) hd (by omega) (by omega)
        have m5:=m3.stA C hU hc hd ge
        refine wpS_bind (s_el (ZQ hc) (Zn (λx=>wpS_pure ⟨hs,.inl ⟨_,rfl,eA m5 x⟩⟩) λx=>?_))
        have x:ka+k+1+1≠a.size:=by simpa using x
        have w1:ka+k+1+1<a.size:=by omega
        have w2:ja+jb+(j+1)<=ka+k+1+(kb+1):=by omega
        exact Zn (λ_=>wpS_pure ⟨hs,.inr ⟨rfl,m5,w1,hd,(Nat.le_trans (Nat.le_add_right _ _) w2)⟩⟩) λ_=>wpS_pure ⟨hs,rfl,m5,w1,hd,w2⟩
      ·obtain rfl:k=0:=by omega
       have m2:=m
       have lt:B b[kb] a[ka]=true:=lt
       have hc:ka<a.size:=by omega
       have m3:=m2.stB C hU hc t2 lt
       refine wpS_bind (s_el (ZQ t2) (Zn (λz=>wpS_pure ⟨hs,.inl ⟨_,rfl,eB m3 z⟩⟩) λz=>?_))
       have z:kb+1≠b.size:=by simpa using z
       refine wpS_bind (s_el (ZQ hc) (wpS_bind (ZbD C (arr:=b) (base:=kb+1) (n:=b.size-(kb+1)) (hint:=0) (by omega) (λi hi y _=>m3.ub hU (Zjn y hi)) (m3.uA hU hc) (λi j hj hij h1 h2=>m3.sb.at h1 hij hj) (by omega) (hs.1.trans hk) λl l1 l2 l3=>?_)))
       have m4:=m3.glB C hU (k:=l) hc (by omega) λj hj hjk=>l2 _ _ (by omega) (by omega)
       refine Zn (λhl0=>Zn (λy=>wpS_pure ⟨hs,.inl ⟨_,rfl,eB m4 y⟩⟩) λy=>?_) λhl0=>?_
       ·have y:kb+1+l≠b.size:=by simpa using y
        have hd:kb+1+l<b.size:=by omega
        have ge:=l3 (kb+1+l) hd (by omega) (by omega)
        have m5:=m4.stA C hU hc hd ge
        refine wpS_bind (s_el (ZQ hc) (Zn (λx=>wpS_pure ⟨hs,.inl ⟨_,rfl,eA m5 x⟩⟩) λx=>?_))
        have x:ka+1+1≠a.size:=by simpa using x
        have w1:ka+1+1<a.size:=by omega
        have w2:ja+jb+(j+1)<=ka+1+(kb+1+l):=by omega
        exact Zn (λ_=>wpS_pure ⟨hs,.inr ⟨rfl,m5,w1,hd,(Nat.le_trans (Nat.le_add_right _ _) w2)⟩⟩) λ_=>wpS_pure ⟨hs,rfl,m5,w1,hd,w2⟩
       ·obtain rfl:l=0:=by omega
        have hd:kb+1<b.size:=by omega
        have ge:=l3 (kb+1) hd (by omega) (by omega)
        have m5:=m3.stA C hU hc hd ge
        refine wpS_bind (s_el (ZQ hc) (Zn (λx=>wpS_pure ⟨hs,.inl ⟨_,rfl,eA m5 x⟩⟩) λx=>?_))
        have x:ka+1+1≠a.size:=by simpa using x
        have w1:ka+1+1<a.size:=by omega
        have w2:ja+jb+(j+1)<=ka+1+(kb+1):=by omega
        exact Zn (λ_=>wpS_pure ⟨hs,.inr ⟨rfl,m5,w1,hd,(Nat.le_trans (Nat.le_add_right _ _) w2)⟩⟩) λ_=>wpS_pure ⟨hs,rfl,m5,w1,hd,w2⟩
    ·rintro ⟨r,out,ka,kb,mg,ac,bc⟩ st2 ⟨_,_,_,p1,p2,p3⟩
     dsimp only at p1 p2 p3
     omega
    ·rintro ⟨r,out,ka,kb,mg,ac,bc⟩ st2 ⟨hs,⟨r',rfl,g⟩|⟨rfl,m,p1,p2,p3⟩⟩
     ·exact wpS_pure ⟨hs,r',rfl,g⟩
     ·dsimp only at m p1 p2 p3 ⊢
      refine wpS_bind (Zgz hs λst3 hs=>?_)
      exact wpS_pure ⟨hs,rfl,m,p1,p2,(by show i+1+1<=ka+kb;omega)⟩
 ·rintro ⟨r,out,ia,ib,mg⟩ st' ⟨_,_,_,q1,q2,q3⟩
  dsimp only at q1 q2 q3
  omega
 ·rintro ⟨r,out,ia,ib,mg⟩ st' ⟨hs,r',rfl,g⟩
  exact wpS_pure (h _ _ hs g)
end
structure NJ (B:Keyed->Keyed->Bool) (W o la lb:List Keyed):Prop where
 perm:((la++lb)++o).Perm W
 so:Srt B o
 sa:Srt B la
 sb:Srt B lb
 ge:∀x∈o,∀y∈la++lb,B x y=false
section
variable{prog:Program}{w:World}{A:Around}{E:Value->Shared->Prop}{s:Shared}{κ:SortKind}{U:Keyed->Prop}{B:Keyed->Keyed->Bool}{W o la lb p:List Keyed}{x y z:Keyed}
theorem NJ.mem(m:NJ B W o la lb)(hU:∀x∈W,U x){x:Keyed}(h:x∈(la++lb)++o):U x:=hU x (m.perm.mem_iff.mp h)
theorem NJ.ua(m:NJ B W o la lb)(hU:∀x∈W,U x){x:Keyed}(h:x∈la):U x:=m.mem hU (by simp[h])
theorem NJ.ub(m:NJ B W o la lb)(hU:∀x∈W,U x){x:Keyed}(h:x∈lb):U x:=m.mem hU (by simp[h])
theorem Srt.snoc(h:Srt B (la++[x])):Srt B la/\∀y∈la,B x y=false:=⟨(List.pairwise_append.mp h).1,λy hy=>(List.pairwise_append.mp h).2.2 y hy x (by simp)⟩
theorem NJ.appA(C:Cmp prog w A s κ U B)(hU:∀x∈W,U x)(m:NJ B W o (la++p) (lb++[y]))(h:∀x∈p,B y x=true):NJ B W (p++o) la (lb++[y]):=by
 have sp:=List.pairwise_append.mp m.sa
 have uy:=m.ub hU (show y∈lb++[y] by simp)
 refine⟨?_,Srt.app sp.2.1 m.so λa ha b hb=>m.ge b hb a (by simp[ha]),sp.1,m.sb,λa ha b hb=>?_⟩
 ·refine List.Perm.trans ?_ m.perm
  rw[<-List.append_assoc]
  refine List.Perm.append_right o ?_
  rw[List.append_assoc la (lb++[y]) p,List.append_assoc la p (lb++[y])]
  exact List.Perm.append_left la List.perm_append_comm
 ·rcases List.mem_append.mp ha with ha|ha
  ·have ua:=m.ua hU (show a∈la++p by simp[ha])
   rcases List.mem_append.mp hb with hb|hb
   ·exact sp.2.2 b hb a ha
   ·have hay:=C.asy y a uy ua (h a ha)
    rcases List.mem_append.mp hb with hb'|hb'
    ·exact C.tr b y a (m.ub hU hb) uy ua (m.sb.snoc.2 b hb') hay
    ·simp at hb';subst hb';exact hay
  ·exact m.ge a ha b (List.mem_append.mpr ((List.mem_append.mp hb).imp (List.mem_append_left _) id))
theorem NJ.appB(C:Cmp prog w A s κ U B)(hU:∀x∈W,U x)(m:NJ B W o (la++[x]) (lb++p))(h:∀y∈p,B y x=false):NJ B W (p++o) (la++[x]) lb:=by
 have sp:=List.pairwise_append.mp m.sb
 have ux:=m.ua hU (show x∈la++[x] by simp)
 refine⟨by simpa[List.append_assoc]using m.perm,Srt.app sp.2.1 m.so λa ha b hb=>m.ge b hb a (by simp[ha]),m.sa,sp.1,λa ha b hb=>?_⟩
 rcases List.mem_append.mp ha with ha|ha
 ·have ua:=m.ub hU (show a∈lb++p by simp[ha])
  rcases List.mem_append.mp hb with hb|hb
  ·rcases List.mem_append.mp hb with hb'|hb'
   ·exact C.tr b x a (m.ua hU hb) ux ua (m.sa.snoc.2 b hb') (h a ha)
   ·simp at hb';subst hb';exact h a ha
  ·exact sp.2.2 b hb a ha
 ·exact m.ge a ha b (List.mem_append.mpr ((List.mem_append.mp hb).imp id (List.mem_append_left _)))
theorem NJ.done(m:NJ B W o [] lb):Gd B W (lb++o):=⟨by simpa using m.perm,m.sb.app m.so λa ha b hb=>m.ge b hb a (by simp[ha])⟩
theorem NJ.firstB(C:Cmp prog w A s κ U B)(hU:∀x∈W,U x)(m:NJ B W o la [z])(h:∀x∈la,B z x=true):Gd B W (z::la++o):=by
 have k:=NJ.appA (p:=la) (la:=[]) (lb:=[]) C hU (by simpa using m) h
 simpa using k.done
end
section
variable{prog:Program}{w:World}{A:Around}{E:Value->Shared->Prop}{s:Shared}{κ:SortKind}{U:Keyed->Prop}{B:Keyed->Keyed->Bool}{st st':SortSt}{W:List Keyed}{a b out:Array Keyed}{na nb k:Nat}
theorem Q4{l:Array Keyed}{n:Nat}(h0:0<n)(h:n<=l.size):l.toList.take n=l.toList.take (n-1)++[l[n-1]]:=by
 obtain⟨i,rfl⟩:∃i,n=i+1:=⟨n-1,by omega⟩
 rw[List.take_add_one]
 simp
noncomputable abbrev NR(B:Keyed->Keyed->Bool)(W:List Keyed)(out a b:Array Keyed)(na nb:Nat):Prop:=NJ B W out.toList.reverse (a.toList.take na) (b.toList.take nb)
theorem Zfr{l:Array Keyed}{n i:Nat}(h:i<n)(hi:i<l.size):l[i]∈l.toList.take n:=by
 rw[List.mem_iff_getElem]
 exact⟨i,by simp;omega,by simp⟩
theorem Srt.tat{l:Array Keyed}{n i j:Nat}(h:Srt B (l.toList.take n))(hij:i<j)(hj:j<l.size)(hn:j<n):B l[j] l[i]=false:=by
 have:=List.pairwise_iff_getElem.mp h i j (by simp;omega) (by simp;omega) hij
 simpa using this
theorem ZhP{l:Array Keyed}{i n:Nat}(h:i<=n)(hn:n<=l.size):l.toList.take n=l.toList.take i++(l.extract i n).toList/\∀x∈(l.extract i n).toList,∃j,∃hj:j<l.size,i<=j/\j<n/\x=l[j]:=by
 refine⟨?_,λx hx=>?_⟩
 ·rw[ZaH,<-List.take_add,show i+(n-i)=n by omega]
 ·rw[ZaH]at hx
  obtain⟨j,hj,rfl⟩:=List.mem_iff_getElem.mp hx
  simp at hj
  exact⟨i+j,by omega,by omega,by omega,by simp⟩
theorem NJ.glA(C:Cmp prog w A s κ U B)(hU:∀x∈W,U x)(m:NR B W out a b na nb)(h1:k<=na)(h1':na<=a.size)(h2:0<nb)(h2':nb<=b.size)(h:∀j (hj:j<a.size),k<=j->j<na->B b[nb-1] a[j]=true):NR B W (out++(a.extract k na).reverse) a b k nb:=by
 obtain⟨e,hm⟩:=ZhP h1 h1'
 unfold NR at m ⊢
 rw[e,Q4 h2 h2']at m
 rw[Q4 h2 h2',show(out++(a.extract k na).reverse).toList.reverse=(a.extract k na).toList++out.toList.reverse by simp]
 exact m.appA C hU λx hx=>by
  obtain⟨j,hj,hjk,hjn,rfl⟩:=hm x hx
  exact h j hj hjk hjn
theorem NJ.glB(C:Cmp prog w A s κ U B)(hU:∀x∈W,U x)(m:NR B W out a b na nb)(h1:0<na)(h1':na<=a.size)(h2:k<=nb)(h2':nb<=b.size)(h:∀j (hj:j<b.size),k<=j->j<nb->B b[j] a[na-1]=false):NR B W (out++(b.extract k nb).reverse) a b na k:=by
 obtain⟨e,hm⟩:=ZhP h2 h2'
 unfold NR at m ⊢
 rw[e,Q4 h1 h1']at m
 rw[Q4 h1 h1',show(out++(b.extract k nb).reverse).toList.reverse=(b.extract k nb).toList++out.toList.reverse by simp]
 exact m.appB C hU λx hx=>by
  obtain⟨j,hj,hjk,hjn,rfl⟩:=hm x hx
  exact h j hj hjk hjn
theorem NJ.stA(C:Cmp prog w A s κ U B)(hU:∀x∈W,U x)(m:NR B W out a b na nb)(h1:0<na)(h1':na<=a.size)(h2:0<nb)(h2':nb<=b.size)(h:B b[nb-1] a[na-1]=true):NR B W (out.push a[na-1]) a b (na-1) nb:=by
 unfold NR at m ⊢
 rw[Q4 h1 h1',Q4 h2 h2']at m
 rw[Q4 h2 h2',show(out.push a[na-1]).toList.reverse=[a[na-1]]++out.toList.reverse by simp]
 exact m.appA C hU λx hx=>by simp at hx;subst hx;exact h
theorem NJ.stB(C:Cmp prog w A s κ U B)(hU:∀x∈W,U x)(m:NR B W out a b na nb)(h1:0<na)(h1':na<=a.size)(h2:0<nb)(h2':nb<=b.size)(h:B b[nb-1] a[na-1]=false):NR B W (out.push b[nb-1]) a b na (nb-1):=by
 unfold NR at m ⊢
 rw[Q4 h1 h1',Q4 h2 h2']at m
 rw[Q4 h1 h1',show(out.push b[nb-1]).toList.reverse=[b[nb-1]]++out.toList.reverse by simp]
 exact m.appB C hU λx hx=>by simp at hx;subst hx;exact h
theorem NJ.uA(m:NR B W out a b na nb)(hU:∀x∈W,U x)(h0:0<na)(h:na<=a.size):U a[na-1]:=m.ua hU (Zfr (by omega) _)
theorem NJ.uB(m:NR B W out a b na nb)(hU:∀x∈W,U x)(h0:0<nb)(h:nb<=b.size):U b[nb-1]:=m.ub hU (Zfr (by omega) _)
set_option maxHeartbeats 1000000
theorem s_mHi(C:Cmp prog w A s κ U B){Q:Array Keyed->SortSt->Prop}(hU:∀x∈a.toList++b.toList,U x)(ha:0<a.size)(hb:0<b.size)(sa:Srt B a.toList)(sb:Srt B b.toList)(hk:kindOf st=κ)(h0:∀x∈a.toList,B b[0] x=true)(h1:B b[b.size-1] a[a.size-1]=true)(h:∀r st',Sm st st'->Gd B (a.toList++b.toList) r.toList->Q r st'):wpS (model prog w) A E s (mHi a b) Q st:=by
 generalize hW:a.toList++b.toList=W at hU h
 have eA:∀{out:Array Keyed}{na nb:Nat},NR B W out a b na nb->(na==0)=true->Gd B W (a.extract 0 na++b.extract 0 nb++out.reverse).toList:=λ{out na nb} m e=>by
  have e:na=0:=by simpa using e
  subst e
  unfold NR at m
  rw[List.take_zero]at m
  rw[Array.toList_append,Array.toList_append,ZaH,ZaH,Array.toList_reverse,List.drop_zero,List.drop_zero,Nat.sub_zero,Nat.sub_zero,List.take_zero,List.nil_append]
  exact m.done
 have eB:∀{out:Array Keyed}{na nb:Nat},NR B W out a b na nb->(nb==1)=true->Gd B W (b.extract 0 nb++a.extract 0 na++out.reverse).toList:=λ{out na nb} m e=>by
  have e:nb=1:=by simpa using e
  subst e
  have e1:b.toList.take 1=[b[0]]:=by rw[Q4 (by omega) (by omega)];simp
  unfold NR at m
  rw[e1]at m
  rw[Array.toList_append,Array.toList_append,ZaH,ZaH,Array.toList_reverse,List.drop_zero,List.drop_zero,Nat.sub_zero,Nat.sub_zero,e1]
  exact m.firstB C hU λx hx=>h0 x (List.mem_of_mem_take hx)
 have start:NR B W #[a[a.size-1]] a b (a.size-1) b.size:=by
  have m0:NR B W #[] a b a.size b.size:=by
   have e1:a.toList.take a.size=a.toList:=List.take_of_length_le (by simp)
   have e2:b.toList.take b.size=b.toList:=List.take_of_length_le (by simp)
   unfold NR
   rw[e1,e2]
   exact⟨by simp[hW],.nil,sa,sb,λx hx=>by simp at hx⟩
  exact m0.stA C hU ha (Nat.le_refl _) hb (Nat.le_refl _) h1
 refine wpS_bind (wpS_lift (wpAny_rule ⟨rfl,?_⟩))
 refine wpS_bind (s_el (ZQ (show a.size-1<a.size by omega)) ?_)
 refine Zn (λc1=>wpS_pure (h _ _ (Sm.refl _) (eA start c1))) λc1=>Zn (λc2=>wpS_pure (h _ _ (Sm.refl _) (eB start c2))) λc2=>?_
 have c1:a.size-1≠0:=by simpa using c1
 have c2:b.size≠1:=by simpa using c2
 refine wpS_bind (wpS_get ?_)
 refine wpS_bind (wpS_mono (wpS_forRange (I:=λ(i:Nat) (sx:Option (Array Keyed)×Nat×Nat×Array Keyed×Nat) st'=>Sm st st'/\sx.1=none/\NR B W sx.2.2.2.1 a b sx.2.1 sx.2.2.1/\0<sx.2.1/\sx.2.1<=a.size/\1<sx.2.2.1/\sx.2.2.1<=b.size/\i+1+(sx.2.1+sx.2.2.1)<=a.size+b.size)
  (Q:=λsx st'=>Sm st st'/\∃r,sx.1=some r/\Gd B W r.toList) ?_ ?_ ⟨Sm.refl _,rfl,start,(by show 0<a.size-1;omega),(by show a.size-1<=a.size;omega),(by show 1<b.size;omega),Nat.le_refl _,(by show 0+1+(a.size-1+b.size)<=a.size+b.size;omega)⟩) ?_)
 ·rintro i ⟨r,na,nb,out,mg⟩ st1 _ hi ⟨hs,rfl,m,q1,q2,q3,q4,q5⟩
  dsimp only at m q1 q2 q3 q4 q5
  refine wpS_bind (wpS_mono (wpS_forRange (I:=λ(j:Nat) (sx:Option (Array Keyed)×Nat×Nat×Array Keyed×Nat×Nat) st'=>Sm st st'/\sx.1=none/\NR B W sx.2.2.2.1 a b sx.2.1 sx.2.2.1/\0<sx.2.1/\sx.2.1<=a.size/\1<sx.2.2.1/\sx.2.2.1<=b.size/\sx.2.1+sx.2.2.1+j<=na+nb)
   (Q:=λsx st'=>Sm st st'/\((∃r,sx.1=some r/\Gd B W r.toList)∨(sx.1=none/\NR B W sx.2.2.2.1 a b sx.2.1 sx.2.2.1/\0<sx.2.1/\sx.2.1<=a.size/\1<sx.2.2.1/\sx.2.2.1<=b.size/\sx.2.1+sx.2.2.1+1<=na+nb))) ?_ ?_ ⟨hs,rfl,m,q1,q2,q3,q4,Nat.le_refl _⟩) ?_)
  ·rintro j ⟨r,ja,jb,out,ac,bc⟩ st2 _ hj ⟨hs,rfl,m,p1,p2,p3,p4,p5⟩
   dsimp only at m p1 p2 p3 p4 p5
   refine wpS_bind (s_el (ZQ (show jb-1<b.size by omega)) (wpS_bind (s_el (ZQ (show ja-1<a.size by omega)) (wpS_bind (s_lt C (m.uB hU (by omega) p4) (m.uA hU p1 p2) (hs.1.trans hk) ?_)))))
   cases q:B b[jb-1] a[ja-1]with
   |true =>
    have m2:=m.stA C hU p1 p2 (by omega) p4 q
    refine wpS_bind (s_el (ZQ (show ja-1<a.size by omega)) (Zn (λz=>wpS_pure ⟨hs,.inl ⟨_,rfl,eA m2 z⟩⟩) λz=>?_))
    have z:ja-1≠0:=by simpa using z
    have w1:0<ja-1:=by omega
    have w2:ja-1<=a.size:=by omega
    have w3:ja-1+jb+1<=na+nb:=by omega
    have w4:ja-1+jb+(j+1)<=na+nb:=by omega
    exact Zn (λ_=>wpS_pure ⟨hs,.inr ⟨rfl,m2,w1,w2,p3,p4,w3⟩⟩) λ_=>wpS_pure ⟨hs,rfl,m2,w1,w2,p3,p4,w4⟩
   |false =>
    have m2:=m.stB C hU p1 p2 (by omega) p4 q
    refine wpS_bind (s_el (ZQ (show jb-1<b.size by omega)) (Zn (λz=>wpS_pure ⟨hs,.inl ⟨_,rfl,eB m2 z⟩⟩) λz=>?_))
    have z:jb-1≠1:=by simpa using z
    have w1:1<jb-1:=by omega
    have w2:jb-1<=b.size:=by omega
    have w3:ja+(jb-1)+1<=na+nb:=by omega
    have w4:ja+(jb-1)+(j+1)<=na+nb:=by omega
    exact Zn (λ_=>wpS_pure ⟨hs,.inr ⟨rfl,m2,p1,p2,w1,w2,w3⟩⟩) λ_=>wpS_pure ⟨hs,rfl,m2,p1,p2,w1,w2,w4⟩
  ·rintro ⟨r,ja,jb,out,ac,bc⟩ st2 ⟨_,_,_,p1,p2,p3,p4,p5⟩
   dsimp only at p1 p2 p3 p4 p5
   omega
  ·rintro ⟨r,ja,jb,out,ac,bc⟩ st2 ⟨hs,⟨r',rfl,g⟩|⟨rfl,m,p1,p2,p3,p4,p5⟩⟩
   ·exact wpS_pure ⟨hs,r',rfl,g⟩
   ·dsimp only at m p1 p2 p3 p4 p5
    refine wpS_bind (wpS_lift (wpAny_rule ⟨rfl,?_⟩))
    refine wpS_bind (wpS_mono (wpS_forRange (I:=λ(j:Nat) (sx:Option (Array Keyed)×Nat×Nat×Array Keyed×Nat×Nat×Nat) st'=>Sm st st'/\sx.1=none/\NR B W sx.2.2.2.1 a b sx.2.1 sx.2.2.1/\0<sx.2.1/\sx.2.1<=a.size/\1<sx.2.2.1/\sx.2.2.1<=b.size/\sx.2.1+sx.2.2.1+j<=ja+jb)
     (Q:=λsx st'=>Sm st st'/\((∃r,sx.1=some r/\Gd B W r.toList)∨(sx.1=none/\NR B W sx.2.2.2.1 a b sx.2.1 sx.2.2.1/\0<sx.2.1/\sx.2.1<=a.size/\1<sx.2.2.1/\sx.2.2.1<=b.size/\sx.2.1+sx.2.2.1<=ja+jb))) ?_ ?_ ⟨hs,rfl,m,p1,p2,p3,p4,Nat.le_refl _⟩) ?_)
    ·rintro j ⟨r,ka,kb,out,mg,ac,bc⟩ st2 _ hj ⟨hs,rfl,m,t1,t1',t2,t2',t3⟩
     dsimp only at m t1 t1' t2 t2' t3
     refine Zn (λ_=>?_) (λ_=>?_)
     all_goals
      refine wpS_bind (Zgz hs λst3 hs=>wpS_bind (s_el (ZQ (show kb-1<b.size by omega)) (wpS_bind (ZeP C (key:=b[kb-1]) (arr:=a) (base:=0) (n:=ka) (hint:=ka-1) (by omega) (λi hi z _=>m.ua hU (Zfr (by omega) hi)) (m.uB hU (by omega) t2') (λi j hj hij h1 h2=>m.sa.tat hij hj (by omega)) (by omega) (hs.1.trans hk) λt k1 k2 k3=>?_))))
      have m2:=m.glA C hU (k:=t) k1 t1' (by omega) t2' λj hj h1 h2=>k3 _ _ (by omega) (by omega)
      refine Zn (λhk0=>Zn (λz=>wpS_pure ⟨hs,.inl ⟨_,rfl,eA m2 z⟩⟩) λz=>?_) λhk0=>?_
      ·have z:t≠0:=by simpa using z
       have hc:0<t:=by omega
       have ge:B b[kb-1] a[t-1]=false:=k2 (t-1) (by omega) (by omega) (by omega)
       have m3:=m2.stB C hU hc (by omega) (by omega) (by omega) ge
       refine wpS_bind (s_el (ZQ (show kb-1<b.size by omega)) (Zn (λz=>wpS_pure ⟨hs,.inl ⟨_,rfl,eB m3 z⟩⟩) λz=>?_))
       have z:kb-1≠1:=by simpa using z
       refine wpS_bind (s_el (ZQ (show t-1<a.size by omega)) (wpS_bind (ZbD C (arr:=b) (base:=0) (n:=kb-1) (hint:=kb-1-1) (by omega) (λi hi y _=>m3.ub hU (Zfr (by omega) hi)) (m3.uA hU hc (by omega)) (λi j hj hij h1 h2=>m3.sb.tat hij hj (by omega)) (by omega) (hs.1.trans hk) λl l1 l2 l3=>?_)))
       have hl:0<l:=by
        rcases Nat.eq_zero_or_pos l with e|e
        ·have e1:=l3 0 (by omega) (by omega) (by omega)
         have e2:=h0 a[t-1] (by simp)
         rw[e1]at e2;cases e2
        ·exact e
       have m4:=m3.glB C hU (k:=l) hc (by omega) l1 (by omega) λj hj h1 h2=>l3 _ _ (by omega) (by omega)
       refine Zn (λhl0=>Zn (λy=>wpS_pure ⟨hs,.inl ⟨_,rfl,eB m4 y⟩⟩) λy=>Zn (λy2=>absurd (show l=0 by simpa using y2) (by omega)) λ_=>?_) λhl0=>?_
       ·have y:l≠1:=by simpa using y
        have hd:B b[l-1] a[t-1]=true:=l2 (l-1) (by omega) (by omega) (by omega)
        have m5:=m4.stA C hU hc (by omega) (by omega) (by omega) hd
        refine wpS_bind (s_el (ZQ (show t-1<a.size by omega)) (Zn (λx=>wpS_pure ⟨hs,.inl ⟨_,rfl,eA m5 x⟩⟩) λx=>?_))
        have x:t-1≠0:=by simpa using x
        have w1:0<t-1:=by omega
        have w2:t-1<=a.size:=by omega
        have w3:1<l:=by omega
        have w4:l<=b.size:=by omega
        have w5:t-1+(l)+(j+1)<=ja+jb:=by omega
        exact Zn (λ_=>wpS_pure ⟨hs,.inr ⟨rfl,m5,w1,w2,w3,w4,(Nat.le_trans (Nat.le_add_right _ _) w5)⟩⟩) λ_=>wpS_pure ⟨hs,rfl,m5,w1,w2,w3,w4,w5⟩
       ·have hl0:¬kb-1-l>0:=hl0
        obtain rfl:l=kb-1:=by omega
        have hd:B b[kb-1-1] a[t-1]=true:=l2 (kb-1-1) (by omega) (by omega) (by omega)
        have m5:=m3.stA C hU hc (by omega) (by omega) (by omega) hd
        refine wpS_bind (s_el (ZQ (show t-1<a.size by omega)) (Zn (λx=>wpS_pure ⟨hs,.inl ⟨_,rfl,eA m5 x⟩⟩) λx=>?_))
        have x:t-1≠0:=by simpa using x
        have w1:0<t-1:=by omega
        have w2:t-1<=a.size:=by omega
        have w3:1<kb-1:=by omega
        have w4:kb-1<=b.size:=by omega
        have w5:t-1+(kb-1)+(j+1)<=ja+jb:=by omega
        exact Zn (λ_=>wpS_pure ⟨hs,.inr ⟨rfl,m5,w1,w2,w3,w4,(Nat.le_trans (Nat.le_add_right _ _) w5)⟩⟩) λ_=>wpS_pure ⟨hs,rfl,m5,w1,w2,w3,w4,w5⟩
      ·have hk0:¬ka-t>0:=hk0
       obtain rfl:t=ka:=by omega
       have m2:=m
       have hc:0<t:=by omega
       have ge:B b[kb-1] a[t-1]=false:=k2 (t-1) (by omega) (by omega) (by omega)
       have m3:=m2.stB C hU hc (by omega) (by omega) (by omega) ge
       refine wpS_bind (s_el (ZQ (show kb-1<b.size by omega)) (Zn (λz=>wpS_pure ⟨hs,.inl ⟨_,rfl,eB m3 z⟩⟩) λz=>?_))
       have z:kb-1≠1:=by simpa using z
       refine wpS_bind (s_el (ZQ (show t-1<a.size by omega)) (wpS_bind (ZbD C (arr:=b) (base:=0) (n:=kb-1) (hint:=kb-1-1) (by omega) (λi hi y _=>m3.ub hU (Zfr (by omega) hi)) (m3.uA hU hc (by omega)) (λi j hj hij h1 h2=>m3.sb.tat hij hj (by omega)) (by omega) (hs.1.trans hk) λl l1 l2 l3=>?_)))
       have hl:0<l:=by
        rcases Nat.eq_zero_or_pos l with e|e
        ·have e1:=l3 0 (by omega) (by omega) (by omega)
         have e2:=h0 a[t-1] (by simp)
         rw[e1]at e2;cases e2
        ·exact e
       have m4:=m3.glB C hU (k:=l) hc (by omega) l1 (by omega) λj hj h1 h2=>l3 _ _ (by omega) (by omega)
       refine Zn (λhl0=>Zn (λy=>wpS_pure ⟨hs,.inl ⟨_,rfl,eB m4 y⟩⟩) λy=>Zn (λy2=>absurd (show l=0 by simpa using y2) (by omega)) λ_=>?_) λhl0=>?_
       ·have y:l≠1:=by simpa using y
        have hd:B b[l-1] a[t-1]=true:=l2 (l-1) (by omega) (by omega) (by omega)
        have m5:=m4.stA C hU hc (by omega) (by omega) (by omega) hd
        refine wpS_bind (s_el (ZQ (show t-1<a.size by omega)) (Zn (λx=>wpS_pure ⟨hs,.inl ⟨_,rfl,eA m5 x⟩⟩) λx=>?_))
        have x:t-1≠0:=by simpa using x
        have w1:0<t-1:=by omega
        have w2:t-1<=a.size:=by omega
        have w3:1<l:=by omega
        have w4:l<=b.size:=by omega
        have w5:t-1+(l)+(j+1)<=ja+jb:=by omega
        exact Zn (λ_=>wpS_pure ⟨hs,.inr ⟨rfl,m5,w1,w2,w3,w4,(Nat.le_trans (Nat.le_add_right _ _) w5)⟩⟩) λ_=>wpS_pure ⟨hs,rfl,m5,w1,w2,w3,w4,w5⟩
       ·have hl0:¬kb-1-l>0:=hl0
        obtain rfl:l=kb-1:=by omega
        have hd:B b[kb-1-1] a[t-1]=true:=l2 (kb-1-1) (by omega) (by omega) (by omega)
        have m5:=m3.stA C hU hc (by omega) (by omega) (by omega) hd
        refine wpS_bind (s_el (ZQ (show t-1<a.size by omega)) (Zn (λx=>wpS_pure ⟨hs,.inl ⟨_,rfl,eA m5 x⟩⟩) λx=>?_))
        have x:t-1≠0:=by simpa using x
        have w1:0<t-1:=by omega
        have w2:t-1<=a.size:=by omega
        have w3:1<kb-1:=by omega
        have w4:kb-1<=b.size:=by omega
        have w5:t-1+(kb-1)+(j+1)<=ja+jb:=by omega
        exact Zn (λ_=>wpS_pure ⟨hs,.inr ⟨rfl,m5,w1,w2,w3,w4,(Nat.le_trans (Nat.le_add_right _ _) w5)⟩⟩) λ_=>wpS_pure ⟨hs,rfl,m5,w1,w2,w3,w4,w5⟩
    ·rintro ⟨r,ka,kb,out,mg,ac,bc⟩ st2 ⟨_,_,_,p1,p2,p3,p4,p5⟩
     dsimp only at p1 p2 p3 p4 p5
     omega
    ·rintro ⟨r,ka,kb,out,mg,ac,bc⟩ st2 ⟨hs,⟨r',rfl,g⟩|⟨rfl,m,p1,p2,p3,p4,p5⟩⟩
     ·exact wpS_pure ⟨hs,r',rfl,g⟩
     ·dsimp only at m p1 p2 p3 p4 p5
      refine wpS_bind (Zgz hs λst3 hs=>?_)
      exact wpS_pure ⟨hs,rfl,m,p1,p2,p3,p4,(by show i+1+1+(ka+kb)<=a.size+b.size;omega)⟩
 ·rintro ⟨r,na,nb,out,mg⟩ st' ⟨_,_,_,q1,q2,q3,q4,q5⟩
  dsimp only at q1 q2 q3 q4 q5
  omega
 ·rintro ⟨r,na,nb,out,mg⟩ st' ⟨hs,r',rfl,g⟩
  exact wpS_pure (h _ _ hs g)
end
theorem Zcf:∀(M:List Keyed) (n d:Nat) (xs:Array Keyed),d+n+M.length<=xs.size ->
  ((M.zipIdx n).foldl (λa x=>match x with|(p,j)=>a.setIfInBounds (d+j) p) xs).toList=xs.toList.take (d+n)++M++xs.toList.drop (d+n+M.length)
 |[],n,d,xs,h=>by simp
 |x::M,n,d,xs,h=>by
  rw[List.zipIdx_cons,List.foldl_cons]
  rw[Zcf M (n+1) d _ (by simp at h ⊢;omega)]
  rw[List.length_cons]at h
  have e1:((xs.setIfInBounds (d+n) x).toList).take (d+(n+1))=xs.toList.take (d+n)++[x]:=by
   rw[Array.toList_setIfInBounds,show d+(n+1)=d+n+1 by omega,List.take_succ,List.take_set_of_le (Nat.le_refl _),List.getElem?_set_self (by simp;omega)]
   rfl
  have e2:((xs.setIfInBounds (d+n) x).toList).drop (d+(n+1)+M.length)=xs.toList.drop (d+n+(M.length+1)):=by
   rw[Array.toList_setIfInBounds,List.drop_set_of_lt (by omega)]
   congr 1
   omega
  show List.take (d+(n+1)) (xs.setIfInBounds (d+n) x).toList++M++List.drop (d+(n+1)+M.length) (xs.setIfInBounds (d+n) x).toList=_
  rw[e1,e2,List.length_cons]
  simp
theorem ZgC{xs:Array Keyed}{i j:Nat}(hij:i<=j)(hj:j<=xs.size):(mirror xs i j ((j-i) / 2)).toList=xs.toList.take i++((xs.toList.drop i).take (j-i)).reverse++xs.toList.drop j:=by
 apply List.ext_getElem?
 intro k
 have h:=getElem?_mirror_all (i:=i) hj k
 rw[Array.getElem?_toList,h]
 have z1:min i xs.size=i:=Nat.min_eq_left (Nat.le_trans hij hj)
 have z2:min (j-i) (xs.size-i)=j-i:=Nat.min_eq_left (Nat.sub_le_sub_right hj i)
 have z3:i+(j-i)=j:=Nat.add_sub_of_le hij
 simp only[List.getElem?_append,List.length_append,List.length_take,List.length_reverse,List.length_drop,Array.length_toList,z1,z2,z3]
 clear h z1 z2
 by_cases c1:k<i
 ·rw[if_neg (by omega),if_pos (by omega),if_pos (by omega),List.getElem?_take,if_pos c1,Array.getElem?_toList]
 ·by_cases c2:k<j
  ·have z4:((xs.toList.drop i).take (j-i)).length=j-i:=by rw[List.length_take,List.length_drop,Array.length_toList];exact Nat.min_eq_left (Nat.sub_le_sub_right hj i)
   rw[if_pos (by omega),if_pos c2,if_neg c1,List.getElem?_reverse (by rw[z4];omega),z4,List.getElem?_take,if_pos (by omega),List.getElem?_drop,Array.getElem?_toList]
   congr 1
   omega
  ·rw[if_neg (by omega),if_neg (by omega),List.getElem?_drop,Array.getElem?_toList]
   congr 1
   omega
theorem ZhI{xs:Array Keyed}{src d:Nat}(hs:src<xs.size)(hd:d<=src):(bubble xs src d).toList=xs.toList.take (src-d)++[xs[src]]++(xs.toList.drop (src-d)).take d++xs.toList.drop (src+1):=by
 apply List.ext_getElem?
 intro k
 have h:=getElem?_bubble hs d hd k
 rw[Array.getElem?_toList,h]
 have z1:min (src-d) xs.size=src-d:=Nat.min_eq_left (Nat.le_trans (Nat.sub_le _ _) (Nat.le_of_lt hs))
 have z2:min d (xs.size-(src-d))=d:=Nat.min_eq_left (by omega)
 simp only[List.getElem?_append,List.length_append,List.length_take,List.length_drop,Array.length_toList,List.length_cons,List.length_nil,z1,z2]
 clear h z1 z2
 by_cases c1:k<src-d
 ·rw[if_neg (by omega),if_neg (by omega),if_pos (by omega),if_pos (by omega),if_pos (by omega),List.getElem?_take,if_pos c1,Array.getElem?_toList]
 ·by_cases c2:k=src-d
  ·rw[if_pos c2,if_pos (by omega),if_pos (by omega),if_neg (by omega),ZQ hs]
   rw[show k-(src-d)=0 by omega]
   rfl
  ·by_cases c3:k<=src
   ·rw[if_neg c2,if_pos (by omega),if_pos (by omega),if_neg (by omega),List.getElem?_take,if_pos (by omega),List.getElem?_drop,Array.getElem?_toList]
    congr 1
    omega
   ·rw[if_neg c2,if_neg (by omega),if_neg (by omega),List.getElem?_drop,Array.getElem?_toList]
    congr 1
    omega
noncomputable def seg(xs:Array Keyed)(lo n:Nat):List Keyed:=(xs.toList.drop lo).take n
structure Bs (κ:SortKind) (W:List Keyed) (st:SortSt):Prop where
 kind:kindOf st=κ
 fl:failedOf st=none
 perm:(arrOf st).toList.Perm W
section
variable{prog:Program}{w:World}{A:Around}{E:Value->Shared->Prop}{s:Shared}{κ:SortKind}{U:Keyed->Prop}{B:Keyed->Keyed->Bool}{st st':SortSt}{W:List Keyed}{xs:Array Keyed}{lo n nrem:Nat}
theorem Bs.u(b:Bs κ W st)(hU:∀x∈W,U x){i:Nat}(h:i<(arrOf st).size):U (arrOf st)[i]:=hU _ (b.perm.mem_iff.mp (by simp))
theorem Bs.ne(b:Bs κ W st)(hN:W.Nodup){i j:Nat}(hi:i<(arrOf st).size)(hj:j<(arrOf st).size)(h:i≠j):(arrOf st)[i]≠(arrOf st)[j]:=by
 have hn:=(b.perm.nodup_iff).mpr hN
 intro e
 exact h ((List.getElem_inj (h₀:=by simpa using hi) (h₁:=by simpa using hj) hn).mp (by simpa using e))
theorem Bs.strict(b:Bs κ W st)(C:Cmp prog w A s κ U B)(hU:∀x∈W,U x)(hN:W.Nodup){i j:Nat}(hi:i<(arrOf st).size)(hj:j<(arrOf st).size)(h:i≠j)(hb:B (arrOf st)[i] (arrOf st)[j]=false):B (arrOf st)[j] (arrOf st)[i]=true:=by
 cases q:B (arrOf st)[j] (arrOf st)[i]with
 |true=>rfl
 |false=>exact absurd (C.tot _ _ (b.u hU hi) (b.u hU hj) hb q) (b.ne hN hi hj h)
theorem s_at(C:Cmp prog w A s κ U B)(hU:∀x∈W,U x)(b:Bs κ W st){i j:Nat}{Q:Option Bool->SortSt->Prop}(hi:i<(arrOf st).size)(hj:j<(arrOf st).size)(h:Q (some (B (arrOf st)[i] (arrOf st)[j])) st):wpS (model prog w) A E s (ltAt' i j) Q st:=by
 rw[ltAt'_eq]
 refine wpS_bind (wpS_get ?_)
 exact wpS_bind (s_el (ZQ hi) (wpS_bind (s_el (ZQ hj) (s_lt C (b.u hU hi) (b.u hU hj) b.kind h))))
theorem ZcZ(h:lo+n<xs.size):seg xs lo (n+1)=seg xs lo n++[xs[lo+n]]:=by
 unfold seg
 rw[List.take_add_one,List.getElem?_drop,Array.getElem?_toList,ZQ h]
 rfl
theorem Zad{x:Keyed}(h:x∈seg xs lo n):∃i,∃hi:lo+i<xs.size,i<n/\x=xs[lo+i]:=by
 unfold seg at h
 obtain⟨j,hj,rfl⟩:=List.mem_iff_getElem.mp h
 simp at hj
 exact⟨j,by omega,by omega,by simp⟩
theorem seg_at{i j:Nat}{R:Keyed->Keyed->Prop}(h:(seg xs lo n).Pairwise R)(hij:i<j)(hj:j<n)(hz:lo+j<xs.size):R xs[lo+i] xs[lo+j]:=by
 unfold seg at h
 have:=List.pairwise_iff_getElem.mp h i j (by simp;omega) (by simp;omega) hij
 simpa using this
theorem Zcj:(seg xs lo 1).Pairwise R:=by
 unfold seg
 cases xs.toList.drop lo with
 |nil=>exact .nil
 |cons x r=>simp
theorem Sg.succ(C:Cmp prog w A s κ U B)(hU:∀x∈W,U x)(b:Bs κ W st)(h1:1<=n)(hz:lo+n<(arrOf st).size)(h:Srt B (seg (arrOf st) lo n))(hb:B (arrOf st)[lo+n] (arrOf st)[lo+n-1]=false):Srt B (seg (arrOf st) lo (n+1)):=by
 rw[ZcZ hz]
 refine h.app (List.pairwise_singleton _ _) λx hx y hy=>?_
 simp at hy
 subst hy
 obtain⟨i,hi,hin,rfl⟩:=Zad hx
 rcases Nat.lt_or_ge i (n-1)with e|e
 ·have:=seg_at h e (by omega) (by omega)
  have e2:lo+(n-1)=lo+n-1:=by omega
  simp only[e2]at this
  exact C.tr _ _ _ (b.u hU _) (b.u hU _) (b.u hU _) this hb
 ·have e2:lo+n-1=lo+i:=by omega
  simp only[e2]at hb
  exact hb
theorem Dn.succ(C:Cmp prog w A s κ U B)(hU:∀x∈W,U x)(b:Bs κ W st)(h1:1<=n)(hz:lo+n<(arrOf st).size)(h:(seg (arrOf st) lo n).Pairwise λx y=>B x y=false)(hb:B (arrOf st)[lo+n] (arrOf st)[lo+n-1]=true):(seg (arrOf st) lo (n+1)).Pairwise λx y=>B x y=false:=by
 rw[ZcZ hz]
 refine List.pairwise_append.mpr ⟨h,List.pairwise_singleton _ _,λx hx y hy=>?_⟩
 simp at hy
 subst hy
 have hb:=C.asy _ _ (b.u hU _) (b.u hU _) hb
 obtain⟨i,hi,hin,rfl⟩:=Zad hx
 rcases Nat.lt_or_ge i (n-1)with e|e
 ·have:=seg_at h e (by omega) (by omega)
  have e2:lo+(n-1)=lo+n-1:=by omega
  simp only[e2]at this
  exact C.tr _ _ _ (b.u hU _) (b.u hU _) (b.u hU _) hb this
 ·have e2:lo+n-1=lo+i:=by omega
  simp only[e2]at hb
  exact hb
theorem s_asc(C:Cmp prog w A s κ U B)(hU:∀x∈W,U x)(b:Bs κ W st){R:Type}(F:Nat->Option R×Nat->StateT SortSt Sem (ForInStep (Option R×Nat))){Q:Option R×Nat->SortSt->Prop}{a:Nat}(h1:1<=a)(ha:a<=nrem)(hz:lo+nrem<=(arrOf st).size)(h:Srt B (seg (arrOf st) lo a))(hF:∀x n Q' (hn:lo+n<(arrOf st).size),1<=n->Q' (if B (arrOf st)[lo+n] (arrOf st)[lo+n-1]=true then .done (none,n)else .yield (none,n+1)) st->wpS (model prog w) A E s (F x (none,n)) Q' st)(hq:∀n,a<=n->n<=nrem->Srt B (seg (arrOf st) lo n)->(∀(hn:lo+n<(arrOf st).size),n<nrem->B (arrOf st)[lo+n] (arrOf st)[lo+n-1]=true)->Q (none,n) st):wpS (model prog w) A E s (forIn [a:nrem] (none,a) F) Q st:=by
 refine wpS_forRange (I:=λi sx st'=>st'=st/\sx=(none,i)/\Srt B (seg (arrOf st) lo i)) ?_ ?_ ⟨rfl,rfl,h⟩
 ·rintro i _ st' hi hi2 ⟨rfl,rfl,a1⟩
  refine hF _ _ _ (by omega) (by omega) ?_
  cases q:B (arrOf st')[lo+i] (arrOf st')[lo+i-1]with
  |true=>rw[if_pos rfl];exact hq i hi (by omega) a1 λ_ _=>q
  |false=>rw[if_neg Bool.false_ne_true];exact⟨rfl,rfl,Sg.succ C hU b (by omega) (by omega) a1 q⟩
 ·rintro _ st' ⟨rfl,rfl,a1⟩
  rw[Nat.max_eq_right ha]at a1 ⊢
  exact hq nrem ha (Nat.le_refl _) a1 λ_ z=>by omega
theorem s_rev{i j:Nat}{Q:Unit->SortSt->Prop}(h:Q () (setArr st (mirror (arrOf st) i j ((j-i) / 2)))):wpS (model prog w) A E s (reverseSlice' i j) Q st:=by
 rw[reverseSlice'_eq]
 exact wpS_modify h
theorem Bs.arr(b:Bs κ W st){ys:Array Keyed}(h:ys.toList.Perm (arrOf st).toList):Bs κ W (setArr st ys):=⟨b.kind,b.fl,h.trans b.perm⟩
theorem Zix{m:Nat}(hz:lo+m<=xs.size):seg (mirror xs lo (lo+m) ((lo+m-lo) / 2)) lo m=(seg xs lo m).reverse/\(mirror xs lo (lo+m) ((lo+m-lo) / 2)).toList.take lo=xs.toList.take lo:=by
 have e:=ZgC (xs:=xs) (i:=lo) (j:=lo+m) (by omega) hz
 rw[Nat.add_sub_cancel_left]at e
 have hl:(xs.toList.take lo).length=lo:=by simp;omega
 unfold seg
 rw[show lo+m-lo=m by omega,e,List.append_assoc]
 constructor
 ·rw[List.drop_append_of_le_length (by omega),List.drop_eq_nil_of_le (by omega),List.nil_append,List.take_append_of_le_length (by simp;omega),List.take_of_length_le (by simp;omega)]
 ·rw[List.take_append_of_le_length (by omega),List.take_of_length_le (by omega)]
theorem s_cRun(C:Cmp prog w A s κ U B)(hU:∀x∈W,U x)(hN:W.Nodup)(b:Bs κ W st){Q:Option Nat->SortSt->Prop}(h1:1<=nrem)(hz:lo+nrem<=(arrOf st).size)(h:∀n st',1<=n->n<=nrem->Bs κ W st'->pendingOf st'=pendingOf st->(arrOf st').toList.take lo=(arrOf st).toList.take lo->Srt B (seg (arrOf st') lo n)->Q (some n) st'):wpS (model prog w) A E s (cRun lo nrem) Q st:=by
 refine wpS_bind (s_asc C hU b _ (Nat.le_refl 1) h1 hz Zcj (λx n Q' hn h1 hq=>?_) λn n1 n2 sn brk=>?_)
 ·refine wpS_bind (s_at C hU b hn (by omega) ?_)
  cases q:B (arrOf st)[lo+n] (arrOf st)[lo+n-1]with
  |true=>rw[q]at hq;exact wpS_pure hq
  |false=>rw[q]at hq;exact wpS_pure hq
 ·refine Zn (λe=>wpS_pure (h n st n1 n2 b rfl rfl sn)) λe=>?_
  have e:n≠nrem:=by simpa using e
  refine Zn (λn3=>wpS_bind (s_at C hU b (by omega) (by omega) ?_)) λn3=>?_
  ·have n3:n>1:=n3
   have q:B (arrOf st)[lo] (arrOf st)[lo+n-1]=true:=by
    refine b.strict C hU hN (by omega) (by omega) (by omega) ?_
    have:=seg_at (i:=0) (j:=n-1) sn (by omega) (by omega) (by omega)
    simpa[show lo+(n-1)=lo+n-1 by omega]using this
   rw[q]
   exact wpS_pure (h n st n1 n2 b rfl rfl sn)
  ·have n3:¬n>1:=n3
   obtain rfl:n=1:=by omega
   refine wpS_bind (wpS_lift (wpAny_rule ⟨rfl,?_⟩))
   refine wpS_bind (wpS_mono (wpS_forRange (I:=λi (sx:Option (Option Nat)×Nat×Nat) st'=>st'=st/\sx=(none,i,0)/\(seg (arrOf st) lo i).Pairwise λx y=>B x y=false)
    (Q:=λsx st'=>st'=st/\∃m,2<=m/\m<=nrem/\sx=(none,m,0)/\(seg (arrOf st) lo m).Pairwise λx y=>B x y=false) ?_ ?_ ⟨rfl,rfl,Dn.succ C hU b (Nat.le_refl 1) (by omega) Zcj (brk (by omega) (by omega))⟩) ?_)
   ·rintro i _ st' hi hi2 ⟨rfl,rfl,a1⟩
    have hi:2<=i:=hi
    refine wpS_bind (s_at C hU b (show lo+i<(arrOf st').size by omega) (show lo+i-1<(arrOf st').size by omega) ?_)
    cases q:B (arrOf st')[lo+i] (arrOf st')[lo+i-1]with
    |true=>exact wpS_pure ⟨rfl,rfl,Dn.succ C hU b (by omega) (by omega) a1 q⟩
    |false =>
     refine wpS_bind (s_at C hU b (show lo+i-1<(arrOf st').size by omega) (show lo+i<(arrOf st').size by omega) ?_)
     rw[b.strict C hU hN (by omega) (by omega) (by omega) q]
     exact wpS_pure ⟨rfl,i,hi,by omega,rfl,a1⟩
   ·rintro _ st' ⟨rfl,rfl,a1⟩
    rw[Nat.max_eq_right (by omega)]at a1 ⊢
    exact⟨rfl,nrem,by omega,Nat.le_refl _,rfl,a1⟩
   ·rintro _ st' ⟨rfl,m,m1,m2,rfl,a1⟩
    have sr:=Zix (xs:=arrOf st') (lo:=lo) (m:=m) (by omega)
    have b2:Bs κ W (setArr st' (mirror (arrOf st') lo (lo+m) ((lo+m-lo) / 2))):=b.arr (Array.perm_iff_toList_perm.mp (mirror_perm _ _ _ _))
    refine wpS_bind (s_rev ?_)
    have hs:(arrOf (setArr st' (mirror (arrOf st') lo (lo+m) ((lo+m-lo) / 2)))).size=(arrOf st').size:=mirror_size _ _ _ _
    have srt:Srt B (seg (arrOf (setArr st' (mirror (arrOf st') lo (lo+m) ((lo+m-lo) / 2)))) lo m):=by
     show Srt B (seg (mirror (arrOf st') lo (lo+m) ((lo+m-lo) / 2)) lo m)
     rw[sr.1]
     exact List.pairwise_reverse.mpr a1
    refine wpS_bind (s_asc (a:=m) C hU b2 _ (by omega) m2 (by rw[hs];exact hz) srt (λx n Q' hn h1 hq=>?_) λn n1 n2 sn brk=>?_)
    ·refine wpS_bind (s_at C hU b2 hn (by omega) ?_)
     generalize B _ _=q at hq ⊢
     cases q with
     |true=>exact wpS_pure hq
     |false=>exact wpS_pure hq
    ·exact wpS_pure (h n _ (by omega) n2 b2 rfl sr.2 sn)
end
end Ts
section
set_option maxHeartbeats 1000000
namespace Ts
open PySem PyProof.Rows
section
variable{prog:Program}{w:World}{A:Around}{E:Value->Shared->Prop}{s:Shared}{κ:SortKind}{U:Keyed->Prop}{B:Keyed->Keyed->Bool}{st st':SortSt}{W:List Keyed}{xs:Array Keyed}{lo n nrem:Nat}
theorem s_mov{i j:Nat}{Q:Unit->SortSt->Prop}(h:Q () (setArr st (bubble (arrOf st) i (i-j)))):wpS (model prog w) A E s (moveDown' i j) Q st:=by
 rw[moveDown'_eq]
 exact wpS_modify h
theorem Za4{l k:Nat}(h:l<=k):seg xs lo k=seg xs lo l++seg xs (lo+l) (k-l):=by
 unfold seg
 rw[<-List.drop_drop,<-List.take_add,show l+(k-l)=k by omega]
theorem Ziy{l k:Nat}(h:l<=k)(hz:lo+k<xs.size):seg (bubble xs (lo+k) (lo+k-(lo+l))) lo (k+1)=seg xs lo l++[xs[lo+k]]++seg xs (lo+l) (k-l)/\(bubble xs (lo+k) (lo+k-(lo+l))).toList.take lo=xs.toList.take lo:=by
 have e:=ZhI (xs:=xs) (src:=lo+k) (d:=lo+k-(lo+l)) hz (by omega)
 rw[show lo+k-(lo+k-(lo+l))=lo+l by omega,show lo+k-(lo+l)=k-l by omega]at e
 have hl:(xs.toList.take lo).length=lo:=by simp;omega
 have hs:(seg xs lo l).length=l:=by unfold seg;simp;omega
 have hs2:(seg xs (lo+l) (k-l)).length=k-l:=by unfold seg;simp;omega
 have e2:xs.toList.take (lo+l)=xs.toList.take lo++seg xs lo l:=by unfold seg;rw[List.take_add]
 have e3:(bubble xs (lo+k) (k-l)).toList=xs.toList.take lo++(seg xs lo l++[xs[lo+k]]++seg xs (lo+l) (k-l)++xs.toList.drop (lo+k+1)):=by
  rw[e,e2]
  unfold seg
  simp
 rw[show lo+k-(lo+l)=k-l by omega]
 constructor
 ·rw[seg,e3,List.drop_append_of_le_length (by omega),List.drop_eq_nil_of_le (by omega),List.nil_append,List.take_append_of_le_length (by simp;omega),List.take_of_length_le (by simp;omega)]
 ·rw[e3,List.take_append_of_le_length (by omega),List.take_of_length_le (by omega)]
theorem Ziz(C:Cmp prog w A s κ U B)(hU:∀x∈W,U x)(b:Bs κ W st){ok:Nat}{Q:Bool->SortSt->Prop}(hz:lo+n<=(arrOf st).size)(h1:1<=n)(hok:ok<=n)(hs:Srt B (seg (arrOf st) lo ok))(h:∀st',Bs κ W st'->pendingOf st'=pendingOf st->(arrOf st').toList.take lo=(arrOf st).toList.take lo->Srt B (seg (arrOf st') lo n)->Q true st'):wpS (model prog w) A E s (bSort lo n ok) Q st:=by
 have hs1:Srt B (seg (arrOf st) lo (max ok 1)):=by
  rcases Nat.lt_or_ge ok 1 with e|e
  ·rw[show max ok 1=1 by omega];exact Zcj
  ·rw[show max ok 1=ok by omega];exact hs
 have sz:∀{st':SortSt},Bs κ W st'->(arrOf st').size=(arrOf st).size:=λ{st'} b'=>by
  have:=(b'.perm.trans b.perm.symm).length_eq
  simpa using this
 refine wpS_bind (wpS_mono (wpS_forRange (I:=λk (sx:Option Bool×Unit) st'=>sx=(none,())/\Bs κ W st'/\pendingOf st'=pendingOf st/\(arrOf st').toList.take lo=(arrOf st).toList.take lo/\Srt B (seg (arrOf st') lo k))
  (Q:=λsx st'=>sx=(none,())/\Bs κ W st'/\pendingOf st'=pendingOf st/\(arrOf st').toList.take lo=(arrOf st).toList.take lo/\Srt B (seg (arrOf st') lo n)) ?_ ?_ ⟨rfl,b,rfl,rfl,hs1⟩) ?_)
 ·rintro k _ st1 hk hk2 ⟨rfl,b1,e1,e2,a1⟩
  have z1:=sz b1
  have hk1:1<=k:=by omega
  refine wpS_bind (wpS_mono (wpS_forRange (I:=λj (sx:Option Bool×Nat×Nat) st'=>st'=st1/\sx.1=none/\sx.2.1<=sx.2.2/\sx.2.2<=k/\sx.2.2-sx.2.1<=k-j/\(∀i (hi:lo+i<(arrOf st1).size),i<sx.2.1->B ((arrOf st1)[lo+k]'(by omega)) (arrOf st1)[lo+i]=false)/\(∀i (hi:lo+i<(arrOf st1).size),sx.2.2<=i->i<k->B ((arrOf st1)[lo+k]'(by omega)) (arrOf st1)[lo+i]=true))
   (Q:=λsx st'=>st'=st1/\∃l,sx=(none,l,l)/\l<=k/\(∀i (hi:lo+i<(arrOf st1).size),i<l->B ((arrOf st1)[lo+k]'(by omega)) (arrOf st1)[lo+i]=false)/\(∀i (hi:lo+i<(arrOf st1).size),l<=i->i<k->B ((arrOf st1)[lo+k]'(by omega)) (arrOf st1)[lo+i]=true)) ?_ ?_ ⟨rfl,rfl,Nat.zero_le _,Nat.le_refl _,(by show k-0<=k-0;omega),λi hi z=>absurd z (Nat.not_lt_zero _),λi hi z z2=>absurd z2 (by dsimp only at z;omega)⟩) ?_)
  ·rintro j ⟨r,l,r2⟩ st2 _ hj ⟨rfl,rfl,q1,q2,q3,q4,q5⟩
   dsimp only at q1 q2 q3 q4 q5
   refine Zn (λc=>?_) λc=>?_
   ·have c:l ≥ r2:=c
    obtain rfl:l=r2:=by omega
    exact wpS_pure ⟨rfl,l,rfl,q2,q4,q5⟩
   ·have c:¬l ≥ r2:=c
    have lk:∀i j (hi:lo+i<(arrOf st2).size) (hj:lo+j<(arrOf st2).size),i<=j->j<k->B (arrOf st2)[lo+j] (arrOf st2)[lo+i]=false∨i=j:=λi j hi hj hij hjk=>by
     rcases Nat.lt_or_ge i j with e|e
     ·exact .inl (seg_at a1 e hjk hj)
     ·exact .inr (by omega)
    refine wpS_bind (s_at C hU b1 (show lo+k<(arrOf st2).size by omega) (show lo+(l+r2) / 2<(arrOf st2).size by omega) ?_)
    cases q:B ((arrOf st2)[lo+k]'(by omega)) ((arrOf st2)[lo+(l+r2) / 2]'(by omega))with
    |true =>
     refine wpS_pure ⟨rfl,rfl,(by show l<=(l+r2) / 2;omega),(by show(l+r2) / 2<=k;omega),(by show(l+r2) / 2-l<=k-(j+1);omega),q4,λi hi z z2=>?_⟩
     have z:(l+r2) / 2<=i:=z
     rcases lk _ _ (show lo+(l+r2) / 2<(arrOf st2).size by omega) hi z z2 with e|e
     ·cases y:B ((arrOf st2)[lo+k]'(by omega)) (arrOf st2)[lo+i]with
      |true=>rfl
      |false =>
       have:=C.tr _ _ _ (b1.u hU _) (b1.u hU _) (b1.u hU _) e y
       rw[this]at q;cases q
     ·subst e;exact q
    |false =>
     refine wpS_pure ⟨rfl,rfl,(by show(l+r2) / 2+1<=r2;omega),q2,(by show r2-((l+r2) / 2+1)<=k-(j+1);omega),λi hi z=>?_,q5⟩
     have z:i<(l+r2) / 2+1:=z
     rcases lk _ _ hi (show lo+(l+r2) / 2<(arrOf st2).size by omega) (by omega) (by omega)with e|e
     ·exact C.tr _ _ _ (b1.u hU _) (b1.u hU _) (b1.u hU _) e q
     ·subst e;exact q
  ·rintro ⟨r,l,r2⟩ st2 ⟨rfl,rfl,q1,q2,q3,q4,q5⟩
   dsimp only at q1 q2 q3 q4 q5
   obtain rfl:l=r2:=by omega
   exact⟨rfl,l,rfl,q2,q4,q5⟩
  ·rintro _ st2 ⟨rfl,l,rfl,l1,l2,l3⟩
   refine wpS_bind (s_mov ?_)
   have si:=Ziy (xs:=arrOf st2) (lo:=lo) l1 (show lo+k<(arrOf st2).size by omega)
   refine wpS_pure ⟨rfl,b1.arr (Array.perm_iff_toList_perm.mp (bubble_perm _ _ _)),e1,si.2.trans e2,?_⟩
   show Srt B (seg (bubble (arrOf st2) (lo+k) (lo+k-(lo+l))) lo (k+1))
   rw[si.1]
   rw[Za4 l1]at a1
   have sp:=List.pairwise_append.mp a1
   refine Srt.app (Srt.app sp.1 (List.pairwise_singleton _ _) λx hx y hy=>?_) sp.2.1 λx hx y hy=>?_
   ·simp at hy;subst hy
    obtain⟨i,hi,hil,rfl⟩:=Zad hx
    exact l2 i hi hil
   ·rcases List.mem_append.mp hx with hx|hx
    ·exact sp.2.2 x hx y hy
    ·simp at hx;subst hx
     obtain⟨i,hi,hil,rfl⟩:=Zad hy
     refine C.asy _ _ (b1.u hU _) (b1.u hU _) ?_
     have:=l3 (l+i) (by omega) (by omega) (by omega)
     simpa[Nat.add_assoc]using this
 ·rintro _ st1 ⟨rfl,b1,e1,e2,a1⟩
  rw[show max (max ok 1) n=n by omega]at a1
  exact⟨rfl,b1,e1,e2,a1⟩
 ·rintro _ st1 ⟨rfl,b1,e1,e2,a1⟩
  exact wpS_pure (h _ b1 e1 e2 a1)
end
noncomputable def mAt:Nat->StateT SortSt Sem Bool:=sortPriv% PySem.Builtin.mergeAt
section
variable{prog:Program}{w:World}{A:Around}{E:Value->Shared->Prop}{s:Shared}{κ:SortKind}{U:Keyed->Prop}{B:Keyed->Keyed->Bool}{st st':SortSt}{W:List Keyed}{X:Array Keyed}{lo n nrem:Nat}
theorem s_put{st2:SortSt}{Q:PUnit->SortSt->Prop}(h:Q ⟨⟩ st2):wpS (model prog w) A E s (set st2:StateT SortSt Sem PUnit) Q st:=by
 unfold wpS
 rw[StateT.run_set]
 exact wpAny_pure ⟨rfl,h⟩
theorem Sg.ij{i j:Nat}(h:Srt B (seg X lo n))(hi:lo<=i)(hij:i<j)(hj:j<lo+n)(hz:j<X.size):B X[j] X[i]=false:=by
 have:=seg_at (i:=i-lo) (j:=j-lo) h (by omega) (by omega) (by omega)
 simpa[show lo+(i-lo)=i by omega,show lo+(j-lo)=j by omega]using this
theorem ZeL{i j:Nat}:(X.extract i j).toList=seg X i (j-i):=ZaH
theorem JD{x:Keyed}(h:x∈seg X lo n):∃i,∃hi:i<X.size,lo<=i/\i<lo+n/\x=X[i]:=by
 obtain⟨i,hi,hin,rfl⟩:=Zad h
 exact⟨lo+i,hi,by omega,by omega,rfl⟩
theorem Xa(h:lo+n<=X.size):(seg X lo n).length=n:=by unfold seg;simp;omega
theorem s_mAt(C:Cmp prog w A s κ U B)(hU:∀x∈W,U x)(b:Bs κ W st){i sa na pw sb nb pw':Nat}{pre post:List (Nat×Nat×Nat)}{Q:Bool->SortSt->Prop}(hp:(pendingOf st).toList=pre++(sa,na,pw)::(sb,nb,pw')::post)(hi:i=pre.length)(hsb:sb=sa+na)(ha:1<=na)(hb:1<=nb)(hz:sb+nb<=(arrOf st).size)(s1:Srt B (seg (arrOf st) sa na))(s2:Srt B (seg (arrOf st) sb nb))(h:∀st',Bs κ W st'->(pendingOf st').toList=pre++(sa,na+nb,pw)::post->(arrOf st').toList.take sa=(arrOf st).toList.take sa->(arrOf st').toList.drop (sb+nb)=(arrOf st).toList.drop (sb+nb)->Srt B (seg (arrOf st') sa (na+nb))->Q true st'):wpS (model prog w) A E s (mAt i) Q st:=by
 subst hsb
 have g1:(pendingOf st)[i]?=some (sa,na,pw):=by rw[<-Array.getElem?_toList,hp,hi];simp
 have g2:(pendingOf st)[i+1]?=some (sa+na,nb,pw'):=by rw[<-Array.getElem?_toList,hp,hi];simp
 obtain⟨P',hP',eP⟩:∃P',P'=((pendingOf st).setIfInBounds i (sa,na+nb,pw)).eraseIdxIfInBounds (i+1)/\P'.toList=pre++(sa,na+nb,pw)::post:=⟨_,rfl,by
  rw[Array.toList_eraseIdxIfInBounds,Array.toList_setIfInBounds,hp,hi,List.set_append_right _ _ (Nat.le_refl _),Nat.sub_self,List.set_cons_zero,List.eraseIdx_append_of_length_le (by omega),Nat.add_sub_cancel_left]
  rfl⟩
 generalize hX:arrOf st=X at *
 have uX:∀i (hi:i<X.size),U X[i]:=λi hi=>by subst hX;exact b.u hU hi
 have b1:Bs κ W (SortSt.mk' (kindOf st) X P' (gallopOf st) (failedOf st)):=⟨b.kind,b.fl,by subst hX;exact b.perm⟩
 have hmid:∀{x y:Array Keyed}{k t:Nat},k<na->1<=t->t<=nb->x.toList=seg X (sa+k) (na-k)->y.toList=seg X (sa+na) t->∀z∈x.toList++y.toList,∃i,∃hi:i<X.size,sa+k<=i/\i<sa+na+t/\z=X[i]:=λ{x y k t} h1 h2 h3 ex ey z hz'=>by
  rw[ex,ey]at hz'
  rcases List.mem_append.mp hz' with hz'|hz'
  ·obtain⟨i,hi,i1,i2,rfl⟩:=JD hz'
   exact⟨i,hi,by omega,by omega,rfl⟩
  ·obtain⟨i,hi,i1,i2,rfl⟩:=JD hz'
   exact⟨i,hi,by omega,by omega,rfl⟩
 refine wpS_bind (wpS_get ?_)
 rw[g1,g2]
 refine wpS_bind (s_put ?_)
 subst hX
 have hk1:kindOf (SortSt.mk' (kindOf st) (arrOf st) P' (gallopOf st) (failedOf st))=κ:=b.kind
 rw[<-hP']
 refine wpS_bind (s_el (ZQ (show sa+na<(arrOf st).size by omega)) (wpS_bind (ZeP C (arr:=arrOf st) (base:=sa) (n:=na) (hint:=0) (by omega) (λi hi _ _=>uX i hi) (uX _ _) (λi j hj hij h1 h2=>Sg.ij s1 h1 hij h2 hj) (by omega) hk1 λk k1 k2 k3=>?_)))
 have cut:∀{l m:Nat}{ys:Array Keyed},seg ys sa (l+m)=seg ys sa l++seg ys (sa+l) m:=λ{l m ys}=>by
  rw[Za4 (Nat.le_add_right l m),Nat.add_sub_cancel_left]
 refine Zn (λe=>?_) λe=>?_
 ·have e:na-k=0:=by simpa using e
  obtain rfl:k=na:=by omega
  refine wpS_pure (h _ b1 eP rfl rfl ?_)
  show Srt B (seg (arrOf st) sa (k+nb))
  rw[cut]
  refine s1.app s2 λx hx y hy=>?_
  obtain⟨i,hi,i1,i2,rfl⟩:=JD hx
  obtain⟨j,hj,j1,j2,rfl⟩:=JD hy
  have q:=k2 i hi i1 i2
  rcases Nat.eq_or_lt_of_le j1 with e|e
  ·subst e;exact q
  ·exact C.tr _ _ _ (uX _ _) (uX _ _) (uX _ _) q (Sg.ij s2 (Nat.le_refl _) e j2 hj)
 ·have e:na-k≠0:=by simpa using e
  have kl:∀(h:sa+k+(na-k)-1<(arrOf st).size) (h2:sa+na-1<(arrOf st).size),(arrOf st)[sa+k+(na-k)-1]=(arrOf st)[sa+na-1]:=λ_ _=>by congr 1;omega
  refine wpS_bind (s_el (ZQ (show sa+k+(na-k)-1<(arrOf st).size by omega)) (wpS_bind (ZbD C (arr:=arrOf st) (base:=sa+na) (n:=nb) (hint:=nb-1) (by omega) (λi hi _ _=>uX i hi) (uX _ _) (λi j hj hij h1 h2=>Sg.ij s2 h1 hij h2 hj) (by omega) hk1 λt t1 t2 t3=>?_)))
  rw[kl (by omega) (by omega)]at t2 t3
  have last:∀i (hi:i<(arrOf st).size),sa<=i->i<sa+na->B (arrOf st)[sa+na-1] (arrOf st)[i]=false∨i=sa+na-1:=λi hi h1 h2=>by
   rcases Nat.lt_or_ge i (sa+na-1)with e|e
   ·exact .inl (Sg.ij s1 h1 e (by omega) (by omega))
   ·exact .inr (by omega)
  have tpos:t≠0:=λz=>by
   have e1:=t3 (sa+na) (by omega) (by omega) (by omega)
   have e2:=k3 (sa+na-1) (by omega) (by omega) (by omega)
   rw[e1]at e2;cases e2
  refine Zn (λe2=>absurd (show t=0 by simpa using e2) tpos) λ_=>?_
  have ex:((arrOf st).extract (sa+k) (sa+na)).toList=seg (arrOf st) (sa+k) (na-k):=by rw[ZeL];congr 1;omega
  have ey:((arrOf st).extract (sa+na) (sa+na+t)).toList=seg (arrOf st) (sa+na) t:=by rw[ZeL];congr 1;omega
  have zx:((arrOf st).extract (sa+k) (sa+na)).size=na-k:=by simp;omega
  have zy:((arrOf st).extract (sa+na) (sa+na+t)).size=t:=by simp;omega
  have mid:=hmid (k:=k) (t:=t) (by omega) (by omega) t1 ex ey
  have hUm:∀z∈((arrOf st).extract (sa+k) (sa+na)).toList++((arrOf st).extract (sa+na) (sa+na+t)).toList,U z:=λz hz'=>by
   obtain⟨i,hi,_,_,rfl⟩:=mid z hz'
   exact uX i hi
  have s1k:=s1
  rw[show na=k+(na-k) by omega,cut]at s1k
  have s2t:=s2
  rw[show nb=t+(nb-t) by omega,Za4 (Nat.le_add_right t (nb-t)),Nat.add_sub_cancel_left]at s2t
  have p1:=List.pairwise_append.mp s1k
  have p2:=List.pairwise_append.mp s2t
  have fin:∀(r:Array Keyed) (st2 st3:SortSt),Sm (SortSt.mk' (kindOf st) (arrOf st) P' (gallopOf st) (failedOf st)) st2->Gd B (((arrOf st).extract (sa+k) (sa+na)).toList++((arrOf st).extract (sa+na) (sa+na+t)).toList) r.toList->r.toList.length=(na-k)+t->(∀z∈r.toList,∃i,∃hi:i<(arrOf st).size,sa+k<=i/\i<sa+na+t/\z=(arrOf st)[i]) ->
    (arrOf st3).toList=(arrOf st).toList.take (sa+k)++r.toList++(arrOf st).toList.drop (sa+na+t)->kindOf st3=kindOf st2->pendingOf st3=pendingOf st2->failedOf st3=failedOf st2->Q (failedOf st3).isNone st3:=by
   intro r st2 st3 hs g rl rm ew ek ep ef
   have ef':failedOf st3=none:=ef.trans (hs.2.2.2.trans b.fl)
   rw[ef']
   have hta:(arrOf st).toList.take (sa+k)=(arrOf st).toList.take sa++seg (arrOf st) sa k:=by unfold seg;rw[List.take_add]
   have hdr:(arrOf st).toList.drop (sa+na+t)=seg (arrOf st) (sa+na+t) (nb-t)++(arrOf st).toList.drop (sa+na+nb):=by
    unfold seg
    rw[show sa+na+nb=sa+na+t+(nb-t) by omega,<-List.drop_drop (i:=nb-t),List.take_append_drop]
   have hl0:((arrOf st).toList.take sa).length=sa:=by simp;omega
   have hlk:(seg (arrOf st) sa k).length=k:=Xa (by omega)
   have hlt:(seg (arrOf st) (sa+na+t) (nb-t)).length=nb-t:=Xa (by omega)
   have ew2:(arrOf st3).toList=(arrOf st).toList.take sa++((seg (arrOf st) sa k++r.toList++seg (arrOf st) (sa+na+t) (nb-t))++(arrOf st).toList.drop (sa+na+nb)):=by
    rw[ew,hta,hdr]
    simp
   have hml:(seg (arrOf st) sa k++r.toList++seg (arrOf st) (sa+na+t) (nb-t)).length=na+nb:=by
    rw[List.length_append,List.length_append,hlk,rl,hlt];omega
   refine h st3 ⟨ek.trans (hs.1.trans b.kind),ef',?_⟩ ?_ ?_ ?_ ?_
   ·rw[ew]
    refine List.Perm.trans ?_ b.perm
    have e0:(arrOf st).toList=(arrOf st).toList.take (sa+k)++(seg (arrOf st) (sa+k) (na-k)++seg (arrOf st) (sa+na) t)++(arrOf st).toList.drop (sa+na+t):=by
     have e1:=Za4 (xs:=arrOf st) (lo:=sa+k) (l:=na-k) (k:=na-k+t) (by omega)
     rw[show sa+k+(na-k)=sa+na by omega,Nat.add_sub_cancel_left]at e1
     rw[<-e1]
     unfold seg
     rw[<-List.take_add,show sa+k+(na-k+t)=sa+na+t by omega,List.take_append_drop]
    have gp:=g.1
    rw[ex,ey]at gp
    rw[e0]
    simp only[List.append_assoc]
    have e2:List.take (sa+k) ((arrOf st).toList.take (sa+k)++(seg (arrOf st) (sa+k) (na-k)++(seg (arrOf st) (sa+na) t++(arrOf st).toList.drop (sa+na+t))))=(arrOf st).toList.take (sa+k):=by
     rw[<-List.append_assoc (seg (arrOf st) (sa+k) (na-k)),<-List.append_assoc,<-e0]
    have e3:List.drop (sa+na+t) ((arrOf st).toList.take (sa+k)++(seg (arrOf st) (sa+k) (na-k)++(seg (arrOf st) (sa+na) t++(arrOf st).toList.drop (sa+na+t))))=(arrOf st).toList.drop (sa+na+t):=by
     rw[<-List.append_assoc (seg (arrOf st) (sa+k) (na-k)),<-List.append_assoc,<-e0]
    rw[e2,e3]
    refine List.Perm.append_left _ ?_
    rw[<-List.append_assoc]
    exact List.Perm.append_right _ gp
   ·rw[ep,hs.2.2.1];exact eP
   ·rw[ew2,List.take_append_of_le_length (by omega),List.take_of_length_le (by omega)]
   ·rw[ew2,List.drop_append,hl0,List.drop_eq_nil_of_le (by omega),List.nil_append,List.drop_append,hml,List.drop_eq_nil_of_le (by omega),List.nil_append,show sa+na+nb-sa-(na+nb)=0 by omega,List.drop_zero]
   ·have e5:seg (arrOf st3) sa (na+nb)=seg (arrOf st) sa k++r.toList++seg (arrOf st) (sa+na+t) (nb-t):=by
     rw[seg,ew2,List.drop_append_of_le_length (by omega),List.drop_eq_nil_of_le (by omega),List.nil_append,List.take_append_of_le_length (by omega),List.take_of_length_le (by omega)]
    rw[e5]
    refine Srt.app (Srt.app p1.1 g.2 λx hx y hy=>?_) p2.2.1 λx hx y hy=>?_
    ·obtain⟨i,hi,i1,i2,rfl⟩:=JD hx
     obtain⟨j,hj,j1,j2,rfl⟩:=rm y hy
     have q:=k2 i hi i1 i2
     rcases Nat.lt_or_ge j (sa+na)with e|e
     ·exact Sg.ij s1 i1 (by omega) e hj
     ·rcases Nat.eq_or_lt_of_le e with e|e
      ·subst e;exact q
      ·exact C.tr _ _ _ (uX _ _) (uX _ _) (uX _ _) q (Sg.ij s2 (Nat.le_refl _) e (by omega) hj)
    ·obtain⟨j,hj,j1,j2,rfl⟩:=JD hy
     have lj:=t3 j hj j1 (by omega)
     rcases List.mem_append.mp hx with hx|hx
     ·obtain⟨i,hi,i1,i2,rfl⟩:=JD hx
      exact C.tr _ _ _ (uX _ _) (uX (sa+na) (by omega)) (uX _ _) (k2 i hi i1 i2) (Sg.ij s2 (Nat.le_refl _) (by omega) (by omega) hj)
     ·obtain⟨i,hi,i1,i2,rfl⟩:=rm x hx
      rcases Nat.lt_or_ge i (sa+na)with e|e
      ·rcases last i hi (by omega) e with q|q
       ·exact C.tr _ _ _ (uX _ _) (uX _ _) (uX _ _) q lj
       ·subst q;exact lj
      ·exact Sg.ij s2 e (by omega) (by omega) hj
  refine Zn (λ_=>wpS_bind (s_mLo (a:=(arrOf st).extract (sa+k) (sa+na)) (b:=(arrOf st).extract (sa+na) (sa+na+t)) C hUm (by omega) (by omega) (by rw[ex];exact p1.2.1) (by rw[ey];exact p2.1) hk1 ?_ ?_ λr st2 hs g=>?_)) λ_=>wpS_bind (s_mHi (a:=(arrOf st).extract (sa+k) (sa+na)) (b:=(arrOf st).extract (sa+na) (sa+na+t)) C hUm (by omega) (by omega) (by rw[ex];exact p1.2.1) (by rw[ey];exact p2.1) hk1 ?_ ?_ λr st2 hs g=>?_)
  ·simpa using k3 (sa+k) (by omega) (by omega) (by omega)
  ·intro y hy
   rw[ey]at hy
   obtain⟨i,hi,i1,i2,rfl⟩:=JD hy
   have:=t2 i hi i1 i2
   simpa[zx,show sa+k+(na-k-1)=sa+na-1 by omega]using this
  ·skip
   have rl:r.toList.length=(na-k)+t:=by rw[g.1.length_eq,ex,ey,List.length_append,Xa (by omega),Xa (by omega)]
   have rm:∀z∈r.toList,∃i,∃hi:i<(arrOf st).size,sa+k<=i/\i<sa+na+t/\z=(arrOf st)[i]:=λz hz'=>mid z (g.1.mem_iff.mp hz')
   refine wpS_bind (wpS_modify (wpS_bind (wpS_get (wpS_pure ?_))))
   have ew:(arrOf (SortSt.mk' (kindOf st2) (r.toList.zipIdx.foldl (λa x=>match x with|(p,j)=>a.setIfInBounds (sa+k+j) p) (arrOf st2)) (pendingOf st2) (gallopOf st2) (failedOf st2))).toList=(arrOf st).toList.take (sa+k)++r.toList++(arrOf st).toList.drop (sa+na+t):=by
    have z2:arrOf st2=arrOf st:=hs.2.1
    have:=Zcf r.toList 0 (sa+k) (arrOf st2) (by rw[z2,rl];omega)
    rw[z2]at this
    refine(show _=_ from(by rw[z2])).trans (this.trans ?_)
    rw[rl,Nat.add_zero,show sa+k+(na-k+t)=sa+na+t by omega]
   have efl:(failedOf (SortSt.mk' (kindOf st2) (r.toList.zipIdx.foldl (λa x=>match x with|(p,j)=>a.setIfInBounds (sa+k+j) p) (arrOf st2)) (pendingOf st2) (gallopOf st2) (failedOf st2)))=none:=hs.2.2.2.trans b.fl
   exact fin r st2 _ hs g rl rm ew rfl rfl rfl
  ·intro x hx
   rw[ex]at hx
   obtain⟨i,hi,i1,i2,rfl⟩:=JD hx
   have:=k3 i hi i1 (by omega)
   simpa using this
  ·have:=t2 (sa+na+(t-1)) (by omega) (by omega) (by omega)
   simpa[zx,zy,show sa+k+(na-k-1)=sa+na-1 by omega]using this
  ·skip
   have rl:r.toList.length=(na-k)+t:=by rw[g.1.length_eq,ex,ey,List.length_append,Xa (by omega),Xa (by omega)]
   have rm:∀z∈r.toList,∃i,∃hi:i<(arrOf st).size,sa+k<=i/\i<sa+na+t/\z=(arrOf st)[i]:=λz hz'=>mid z (g.1.mem_iff.mp hz')
   refine wpS_bind (wpS_modify (wpS_bind (wpS_get (wpS_pure ?_))))
   have ew:(arrOf (SortSt.mk' (kindOf st2) (r.toList.zipIdx.foldl (λa x=>match x with|(p,j)=>a.setIfInBounds (sa+k+j) p) (arrOf st2)) (pendingOf st2) (gallopOf st2) (failedOf st2))).toList=(arrOf st).toList.take (sa+k)++r.toList++(arrOf st).toList.drop (sa+na+t):=by
    have z2:arrOf st2=arrOf st:=hs.2.1
    have:=Zcf r.toList 0 (sa+k) (arrOf st2) (by rw[z2,rl];omega)
    rw[z2]at this
    refine(show _=_ from(by rw[z2])).trans (this.trans ?_)
    rw[rl,Nat.add_zero,show sa+k+(na-k+t)=sa+na+t by omega]
   have efl:(failedOf (SortSt.mk' (kindOf st2) (r.toList.zipIdx.foldl (λa x=>match x with|(p,j)=>a.setIfInBounds (sa+k+j) p) (arrOf st2)) (pendingOf st2) (gallopOf st2) (failedOf st2)))=none:=hs.2.2.2.trans b.fl
   exact fin r st2 _ hs g rl rm ew rfl rfl rfl
end
noncomputable def sRuns:StateT SortSt Sem Unit:=sortPriv% PySem.Builtin.sortRuns
noncomputable def Ch:List (Nat×Nat)->Nat->Nat->Prop
 |[],a,b=>a=b
 |(s,n)::r,a,b=>s=a/\1<=n/\Ch r (a+n) b
theorem Ch.app:∀{p q:List (Nat×Nat)}{a b:Nat},Ch (p++q) a b↔∃c,Ch p a c/\Ch q c b
 |[],q,a,b=>by simp[Ch]
 |(s,n)::r,q,a,b=>by
  rw[List.cons_append,Ch,Ch.app (p:=r)]
  constructor
  ·rintro ⟨h1,h2,c,h3,h4⟩
   exact⟨c,⟨h1,h2,h3⟩,h4⟩
  ·rintro ⟨c,⟨h1,h2,h3⟩,h4⟩
   exact⟨h1,h2,c,h3,h4⟩
theorem Ch.len:∀{p:List (Nat×Nat)}{a b:Nat},Ch p a b->a+p.length<=b/\∀q∈p,a<=q.1/\q.1+q.2<=b
 |[],a,b,h=>by
  have h:a=b:=h
  subst h
  exact⟨by simp,λq hq=>by simp at hq⟩
 |(s,n)::r,a,b,⟨h1,h2,h3⟩=>by
  subst h1
  obtain⟨k1,k2⟩:=h3.len
  refine⟨by simp;omega,λq hq=>?_⟩
  rcases List.mem_cons.mp hq with rfl|hq
  ·exact⟨Nat.le_refl _,by dsimp only;omega⟩
  ·have:=k2 q hq
   exact⟨by omega,this.2⟩
noncomputable def prs(st:SortSt):List (Nat×Nat):=(pendingOf st).toList.map λq=>(q.1,q.2.1)
structure J (κ:SortKind) (W:List Keyed) (B:Keyed->Keyed->Bool) (st:SortSt) (lo:Nat):Prop where
 bs:Bs κ W st
 ch:Ch (prs st) 0 lo
 le:lo<=(arrOf st).size
 rn:∀q∈prs st,Srt B (seg (arrOf st) q.1 q.2)
section
variable{prog:Program}{w:World}{A:Around}{E:Value->Shared->Prop}{s:Shared}{κ:SortKind}{U:Keyed->Prop}{B:Keyed->Keyed->Bool}{st st':SortSt}{W:List Keyed}{X Y:Array Keyed}{lo n nrem:Nat}
theorem ZeK{d:Nat}(h:X.toList.take d=Y.toList.take d)(hd:lo+n<=d):seg X lo n=seg Y lo n:=by
 unfold seg
 have:∀Z:Array Keyed,(Z.toList.drop lo).take n=((Z.toList.take d).drop lo).take n:=λZ=>by
  rw[List.drop_take,List.take_take,Nat.min_eq_left (by omega)]
 rw[this X,this Y,h]
theorem Za3{d:Nat}(h:X.toList.drop d=Y.toList.drop d)(hd:d<=lo):seg X lo n=seg Y lo n:=by
 unfold seg
 have:∀Z:Array Keyed,Z.toList.drop lo=(Z.toList.drop d).drop (lo-d):=λZ=>by rw[List.drop_drop];congr 1;omega
 rw[this X,this Y,h]
theorem Bs.size(b:Bs κ W st):(arrOf st).size=W.length:=by simpa using b.perm.length_eq
theorem ZhM{α:Type}{l:List α}{i:Nat}(h:i+1<l.length):∃pre x y post,l=pre++x::y::post/\i=pre.length:=by
 refine⟨l.take i,l[i],l[i+1],l.drop (i+2),?_,by simp;omega⟩
 rw[<-List.drop_eq_getElem_cons,<-List.drop_eq_getElem_cons,List.take_append_drop]
theorem J.merge(C:Cmp prog w A s κ U B)(hU:∀x∈W,U x)(j:J κ W B st lo){i:Nat}{Q:Bool->SortSt->Prop}(hi:i+1<(prs st).length)(h:∀st',J κ W B st' lo->(prs st').length+1=(prs st).length->(arrOf st').toList.drop lo=(arrOf st).toList.drop lo->Q true st'):wpS (model prog w) A E s (mAt i) Q st:=by
 obtain⟨pre,⟨sa,na,pw⟩,⟨sb,nb,pw'⟩,post,hp,e⟩:=ZhM (l:=(pendingOf st).toList) (i:=i) (by simpa[prs]using hi)
 have epr:prs st=pre.map (λq=>(q.1,q.2.1))++(sa,na)::(sb,nb)::post.map λq=>(q.1,q.2.1):=by unfold prs;rw[hp];simp
 have hc:=j.ch
 rw[epr]at hc
 obtain⟨c,c1,c2⟩:=Ch.app.mp hc
 obtain⟨rfl,c3,rfl,c4,c5⟩:=c2
 have l5:=c5.len
 have l1:=c1.len
 have jl:=j.le
 refine s_mAt C hU j.bs hp e rfl c3 c4 (by omega) (j.rn (sa,na) (by rw[epr];simp)) (j.rn (sa+na,nb) (by rw[epr];simp)) λst2 b2 ep et ed sr=>?_
 have epr2:prs st2=pre.map (λq=>(q.1,q.2.1))++(sa,na+nb)::post.map λq=>(q.1,q.2.1):=by unfold prs;rw[ep];simp
 refine h st2 ⟨b2,?_,?_,λq hq=>?_⟩ ?_ ?_
 ·rw[epr2]
  refine Ch.app.mpr ⟨sa,c1,rfl,by omega,?_⟩
  rw[<-Nat.add_assoc]
  exact c5
 ·rw[b2.size,<-j.bs.size];exact jl
 ·rw[epr2]at hq
  rcases List.mem_append.mp hq with hq|hq
  ·rw[ZeK et (l1.2 q hq).2]
   exact j.rn q (by rw[epr];simp only[List.mem_append];exact .inl hq)
  ·rcases List.mem_cons.mp hq with rfl|hq
   ·exact sr
   ·rw[Za3 ed (l5.2 q hq).1]
    exact j.rn q (by rw[epr];simp only[List.mem_append,List.mem_cons];exact .inr (.inr (.inr hq)))
 ·rw[epr,epr2];simp;omega
 ·have hd:∀Z:Array Keyed,Z.toList.drop lo=(Z.toList.drop (sa+na+nb)).drop (lo-(sa+na+nb)):=λZ=>by rw[List.drop_drop];congr 1;omega
  rw[hd,ed,<-hd]
theorem J.push(j:J κ W B st lo){g:Nat}(h1:1<=n)(hz:lo+n<=(arrOf st).size)(hs:Srt B (seg (arrOf st) lo n)):J κ W B (SortSt.mk' (kindOf st) (arrOf st) ((pendingOf st).push (lo,n,0)) g (failedOf st)) (lo+n):=by
 have e:prs (SortSt.mk' (kindOf st) (arrOf st) ((pendingOf st).push (lo,n,0)) g (failedOf st))=prs st++[(lo,n)]:=by
  show(((pendingOf st).push (lo,n,0)).toList.map λq=>(q.1,q.2.1))=_
  rw[Array.toList_push,List.map_append]
  rfl
 refine⟨⟨j.bs.kind,j.bs.fl,j.bs.perm⟩,?_,hz,λq hq=>?_⟩
 ·rw[e]
  exact Ch.app.mpr ⟨lo,j.ch,rfl,h1,rfl⟩
 ·rw[e]at hq
  rcases List.mem_append.mp hq with hq|hq
  ·exact j.rn q hq
  ·simp at hq;subst hq;exact hs
theorem J.other(j:J κ W B st lo)(b:Bs κ W st')(hp:prs st'=prs st)(ht:(arrOf st').toList.take lo=(arrOf st).toList.take lo):J κ W B st' lo:=by
 refine⟨b,by rw[hp];exact j.ch,by rw[b.size,<-j.bs.size];exact j.le,λq hq=>?_⟩
 rw[hp]at hq
 rw[ZeK ht (j.ch.len.2 q hq).2]
 exact j.rn q hq
end
end Ts
end
section
set_option maxHeartbeats 2000000
namespace Ts
open PySem PyProof.Rows
section
variable{prog:Program}{w:World}{A:Around}{E:Value->Shared->Prop}{s:Shared}{κ:SortKind}{U:Keyed->Prop}{B:Keyed->Keyed->Bool}{st st':SortSt}{W:List Keyed}{X Y:Array Keyed}{lo n nrem:Nat}
theorem s_mod{f:SortSt->SortSt}{Q:PUnit->SortSt->Prop}(h:∀st5,st5=f st->Q ⟨⟩ st5):wpS (model prog w) A E s (modify f:StateT SortSt Sem PUnit) Q st:=wpS_modify (h _ rfl)
theorem ite_lt{c:Prop}[Decidable c]{m:Nat}(h:2<=m):(if c then m-2-1 else m-2)+1<m:=by split<;>omega
theorem ZeU{P:Array (Nat×Nat×Nat)}{i pw:Nat}:((P.modify i λx=>match x with|(st,len,snd)=>(st,len,pw)).toList.map λq=>(q.1,q.2.1))=P.toList.map λq=>(q.1,q.2.1):=by
 rw[Array.toList_modify]
 apply List.ext_getElem?
 intro j
 rw[List.getElem?_map,List.getElem?_map,List.getElem?_modify]
 cases P.toList[j]? with
 |none=>rfl
 |some q =>
  obtain⟨a,b,c⟩:=q
  by_cases h:i=j
  ·simp[h]
  ·simp[h]
theorem ZhQ(C:Cmp prog w A s κ U B)(hU:∀x∈W,U x)(hN:W.Nodup)(b:Bs κ W st)(hp:pendingOf st=#[]){Q:Unit->SortSt->Prop}(h:∀st',Bs κ W st'->Srt B (arrOf st').toList->Q () st'):wpS (model prog w) A E s sRuns Q st:=by
 have sz:∀{st':SortSt},Bs κ W st'->(arrOf st').size=(arrOf st).size:=λb'=>by rw[b'.size,b.size]
 have j0:J κ W B st 0:=⟨b,by unfold prs;rw[hp];rfl,Nat.zero_le _,λq hq=>by unfold prs at hq;rw[hp]at hq;simp at hq⟩
 refine wpS_bind (wpS_get ?_)
 refine wpS_bind (wpS_mono (wpS_forRange (I:=λi (sx:Option Unit×Nat) st'=>sx.1=none/\J κ W B st' sx.2/\i<=sx.2) (Q:=λsx st'=>sx.1=none/\J κ W B st' (arrOf st).size) ?_ ?_ ⟨rfl,j0,Nat.le_refl _⟩) ?_)
 ·rintro i ⟨r,lo⟩ st1 _ hi ⟨rfl,j1,il⟩
  dsimp only at j1 il
  have z1:=sz j1.bs
  have jl:=j1.le
  refine Zn (λc=>?_) λc=>?_
  ·have c:lo ≥ (arrOf st).size:=c
   refine wpS_pure ⟨rfl,?_⟩
   have:lo=(arrOf st).size:=by omega
   rw[<-this];exact j1
  ·have c:¬lo ≥ (arrOf st).size:=c
   refine wpS_bind (s_cRun C hU hN j1.bs (nrem:=(arrOf st).size-lo) (lo:=lo) (by omega) (by omega) λn st2 n1 n2 b2 p2 t2 s2=>?_)
   have j2:J κ W B st2 lo:=j1.other b2 (by unfold prs;rw[p2]) t2
   refine Zn (λc2=>?_) λc2=>?_
   ·refine wpS_bind (wpS_lift (wpAny_rule ⟨rfl,?_⟩))
    have c2:n<minRun' (arrOf st).size (arrOf st).size 0:=c2
    refine wpS_bind (Ziz C hU b2 (lo:=lo) (n:=min ((arrOf st).size-lo) (minRun' (arrOf st).size (arrOf st).size 0)) (ok:=n) (by rw[sz b2];omega) (by omega) (by omega) s2 λst3 b3 p3 t3 s3=>?_)
    have j3:J κ W B st3 lo:=j2.other b3 (by unfold prs;rw[p3]) t3
    refine Zn (λz=>absurd z (by simp)) λ_=>?_
    refine wpS_bind (wpS_get ?_)
    cases hb:(pendingOf st3).back? with
    |none =>
     refine wpS_bind (wpS_modify ?_)
     exact wpS_pure ⟨rfl,j3.push (n:=min ((arrOf st).size-lo) (minRun' (arrOf st).size (arrOf st).size 0)) (by omega) (by rw[sz j3.bs];omega) s3,(by show i+1<=lo+min ((arrOf st).size-lo) (minRun' (arrOf st).size (arrOf st).size 0);omega)⟩
    |some q =>
     obtain⟨s1,n1,x1⟩:=q
     refine wpS_bind (wpS_mono (wpS_forRange (I:=λ_ (sx:Option Unit×Unit) st'=>sx.1=none/\J κ W B st' lo/\Srt B (seg (arrOf st') lo (min ((arrOf st).size-lo) (minRun' (arrOf st).size (arrOf st).size 0)))) (Q:=λsx st'=>sx.1=none/\J κ W B st' lo/\Srt B (seg (arrOf st') lo (min ((arrOf st).size-lo) (minRun' (arrOf st).size (arrOf st).size 0)))) ?_ (λ_ _ z=>z) ⟨rfl,j3,s3⟩) ?_)
     ·rintro i ⟨r,_⟩ st4 _ _ ⟨rfl,j4,s4⟩
      have pl:(prs st4).length=(pendingOf st4).size:=by unfold prs;simp
      refine wpS_bind (wpS_get ?_)
      by_cases cp:(pendingOf st4).size>1
      ·obtain⟨⟨a1,b1,o1⟩,g⟩:∃q,(if(pendingOf st4).size>1 then(pendingOf st4)[(pendingOf st4).size-2]? else none)=some q:=⟨(pendingOf st4)[(pendingOf st4).size-2]'(by omega),by rw[if_pos cp];simp⟩
       dsimp only
       rw[g]
       refine Zn (λ_=>wpS_pure ⟨rfl,j4,s4⟩) λ_=>?_
       refine wpS_bind (J.merge C hU j4 (by rw[pl];show(pendingOf st4).size-2+1<_;omega) λst5 j5 l5 d5=>?_)
       refine Zn (λz=>absurd z (by simp)) λ_=>?_
       refine wpS_pure ⟨rfl,j5,?_⟩
       rw[Za3 d5 (Nat.le_refl _)]
       exact s4
      ·have g:(if(pendingOf st4).size>1 then(pendingOf st4)[(pendingOf st4).size-2]? else none)=none:=if_neg cp
       dsimp only
       rw[g]
       exact wpS_pure ⟨rfl,j4,s4⟩
     ·rintro ⟨r,_⟩ st4 ⟨rfl,j4,s4⟩
      refine wpS_bind (s_mod λst5 h5=>wpS_bind (wpS_modify ?_))
      have j5:J κ W B st5 lo:=J.other j4 (by rw[h5];exact⟨j4.bs.kind,j4.bs.fl,j4.bs.perm⟩) (by rw[h5];exact ZeU) (by rw[h5])
      have s5:Srt B (seg (arrOf st5) lo (min ((arrOf st).size-lo) (minRun' (arrOf st).size (arrOf st).size 0))):=by rw[h5];exact s4
      exact wpS_pure ⟨rfl,j5.push (n:=min ((arrOf st).size-lo) (minRun' (arrOf st).size (arrOf st).size 0)) (by omega) (by rw[sz j5.bs];omega) s5,(by show i+1<=lo+min ((arrOf st).size-lo) (minRun' (arrOf st).size (arrOf st).size 0);omega)⟩
   ·have c2:¬n<minRun' (arrOf st).size (arrOf st).size 0:=c2
    refine wpS_bind (wpS_get ?_)
    cases hb:(pendingOf st2).back? with
    |none =>
     refine wpS_bind (wpS_modify ?_)
     exact wpS_pure ⟨rfl,j2.push (n:=n) (by omega) (by rw[sz j2.bs];omega) s2,(by show i+1<=lo+n;omega)⟩
    |some q =>
     obtain⟨s1,n1,x1⟩:=q
     refine wpS_bind (wpS_mono (wpS_forRange (I:=λ_ (sx:Option Unit×Unit) st'=>sx.1=none/\J κ W B st' lo/\Srt B (seg (arrOf st') lo (n))) (Q:=λsx st'=>sx.1=none/\J κ W B st' lo/\Srt B (seg (arrOf st') lo (n))) ?_ (λ_ _ z=>z) ⟨rfl,j2,s2⟩) ?_)
     ·rintro i ⟨r,_⟩ st4 _ _ ⟨rfl,j4,s4⟩
      have pl:(prs st4).length=(pendingOf st4).size:=by unfold prs;simp
      refine wpS_bind (wpS_get ?_)
      by_cases cp:(pendingOf st4).size>1
      ·obtain⟨⟨a1,b1,o1⟩,g⟩:∃q,(if(pendingOf st4).size>1 then(pendingOf st4)[(pendingOf st4).size-2]? else none)=some q:=⟨(pendingOf st4)[(pendingOf st4).size-2]'(by omega),by rw[if_pos cp];simp⟩
       dsimp only
       rw[g]
       refine Zn (λ_=>wpS_pure ⟨rfl,j4,s4⟩) λ_=>?_
       refine wpS_bind (J.merge C hU j4 (by rw[pl];show(pendingOf st4).size-2+1<_;omega) λst5 j5 l5 d5=>?_)
       refine Zn (λz=>absurd z (by simp)) λ_=>?_
       refine wpS_pure ⟨rfl,j5,?_⟩
       rw[Za3 d5 (Nat.le_refl _)]
       exact s4
      ·have g:(if(pendingOf st4).size>1 then(pendingOf st4)[(pendingOf st4).size-2]? else none)=none:=if_neg cp
       dsimp only
       rw[g]
       exact wpS_pure ⟨rfl,j4,s4⟩
     ·rintro ⟨r,_⟩ st4 ⟨rfl,j4,s4⟩
      refine wpS_bind (s_mod λst5 h5=>wpS_bind (wpS_modify ?_))
      have j5:J κ W B st5 lo:=J.other j4 (by rw[h5];exact⟨j4.bs.kind,j4.bs.fl,j4.bs.perm⟩) (by rw[h5];exact ZeU) (by rw[h5])
      have s5:Srt B (seg (arrOf st5) lo (n)):=by rw[h5];exact s4
      exact wpS_pure ⟨rfl,j5.push (n:=n) (by omega) (by rw[sz j5.bs];omega) s5,(by show i+1<=lo+n;omega)⟩
 ·rintro ⟨r,lo⟩ st1 ⟨rfl,j1,il⟩
  dsimp only at j1
  have il:max 0 (arrOf st).size<=lo:=il
  have:=j1.le
  rw[sz j1.bs]at this
  have:lo=(arrOf st).size:=by omega
  refine⟨rfl,?_⟩
  rw[<-this];exact j1
 ·rintro ⟨r,lo⟩ st1 ⟨rfl,j1⟩
  refine wpS_bind (wpS_mono (wpS_forRange (I:=λi (sx:Option Unit×Unit) st'=>sx.1=none/\J κ W B st' (arrOf st).size/\(prs st').length+i<=(arrOf st).size) (Q:=λsx st'=>sx.1=none/\J κ W B st' (arrOf st).size/\(prs st').length<=1) ?_ ?_ ⟨rfl,j1,by have:=j1.ch.len.1;omega⟩) ?_)
  ·rintro i ⟨r,_⟩ st2 _ hi ⟨rfl,j2,l2⟩
   have pl:(prs st2).length=(pendingOf st2).size:=by unfold prs;simp
   refine wpS_bind (wpS_get ?_)
   refine Zn (λc=>?_) λc=>?_
   ·have c:(pendingOf st2).size<=1:=c
    exact wpS_pure ⟨rfl,j2,by omega⟩
   ·have c:¬(pendingOf st2).size<=1:=c
    refine wpS_bind (J.merge C hU j2 ?_ λst3 j3 l3 _=>?_)
    ·rw[pl]
     exact ite_lt (m:=(pendingOf st2).size) (by omega)
    ·refine Zn (λz=>absurd z (by simp)) λ_=>?_
     exact wpS_pure ⟨rfl,j3,by omega⟩
  ·rintro ⟨r,_⟩ st2 ⟨rfl,j2,l2⟩
   have l2:(prs st2).length+max 0 (arrOf st).size<=(arrOf st).size:=l2
   exact⟨rfl,j2,by omega⟩
  ·rintro ⟨r,_⟩ st2 ⟨rfl,j2,l2⟩
   refine wpS_pure (h st2 j2.bs ?_)
   have ch:=j2.ch
   have rn:=j2.rn
   have z2:=sz j2.bs
   match e:prs st2,l2 with
   |[],_ =>
    rw[e]at ch
    have ch:0=(arrOf st).size:=ch
    have:(arrOf st2).toList=[]:=by
     exact List.length_eq_zero_iff.mp (by rw[Array.length_toList];omega)
    rw[this];exact .nil
   |[(a,k)],_ =>
    rw[e]at ch rn
    obtain⟨rfl,_,ch⟩:=ch
    have ch:0+k=(arrOf st).size:=ch
    have:=rn (0,k) (by simp)
    unfold seg at this
    rw[List.drop_zero,List.take_of_length_le (by simp;omega)]at this
    exact this
end
end Ts
end
section
set_option maxHeartbeats 1000000
namespace Ts
open PySem PyProof.Rows
section
variable{prog:Program}{w:World}{A:Around}{E:Value->Shared->Prop}{s:Shared}{κ:SortKind}{B:Keyed->Keyed->Bool}
theorem ZhU{α:Type}{R:α->α->Prop}{l:List α}(h:l.length<2):l.Pairwise R:=by
 rcases l with _|⟨x,_|⟨y,r⟩⟩
 ·exact .nil
 ·exact List.pairwise_singleton _ _
 ·rw[List.length_cons,List.length_cons]at h
  exact absurd h (Nat.not_lt.mpr (Nat.le_add_left _ _))
theorem Ziv{a:Addr}{vs:List Value}{n:Nat}{P:PySem.Fin->Shared->Prop}(ho:s.heap.get? a=some (seqObj "list" vs.toArray n))(hz:vs.length<=sizeLine)(hN:(pairsOf vs).toList.Nodup)(hk:2<=vs.length->∀h',(∀b o,b≠a->s.heap.get? b=some o->h'.get? b=some o)->∀Q':SortKind->Shared->Prop,Q' κ { s with heap:=h' }->wpAny (model prog w) A (keyKind' vs.toArray) Q' E { s with heap:=h' })(hC:∀h',(∀b o,b≠a->s.heap.get? b=some o->h'.get? b=some o)->Cmp prog w A { s with heap:=h' } κ (λx=>x∈(pairsOf vs).toList) B)(h:∀out:Array Keyed,out.toList.Perm (pairsOf vs).toList->Srt B out.toList->P (.done (.ret .none)) { s with heap:=sortedHeap s.heap a vs (out.map (·.2)) }):
  wpAny (model prog w) A (Builtin.«list.sort» ⟨[.ref a],[]⟩) P E s:=by
 rw[list_sort_plain]
 have ha:a<s.heap.objs.size:=Heap.lt_size ho
 have hsz:vs.toArray.size=vs.length:=by simp
 refine wpAny_bind (listItems_at ho rfl (wpAny_bind (listUpdate_at ho rfl ?_ (by rw[hsz];exact hz) (Nat.zero_le _))))
 obtain⟨e1,ho1⟩:∃e1,(s.heap.update a (Obj.mapSeq λ_=>(#[]:Array Value))).get? a=some (seqObj "list" #[] e1):=⟨_,get?_update_seq ho (λ_=>#[])⟩
 refine wpAny_bind (seqEpoch_at ho1 rfl (wpAny_bind (wpAny_newTuple (wpAny_bind (wpAny_newList (wpAny_holding ?_) (Nat.zero_le _))) (by show vs.length<=_;exact hz))))
 have nk:∀b o,s.heap.get? b=some o->b≠(s.heap.update a (Obj.mapSeq λ_=>(#[]:Array Value))).objs.size/\b≠((s.heap.update a (Obj.mapSeq λ_=>(#[]:Array Value))).push (seqObj "tuple" vs.toArray 0)).objs.size:=λb o q=>by
  rw[size_push',Heap.size_update]
  have:=Heap.lt_size q
  exact⟨Nat.ne_of_lt this,Nat.ne_of_lt (Nat.lt_succ_of_lt this)⟩
 have kp:∀b o,b≠a->s.heap.get? b=some o->(((s.heap.update a (Obj.mapSeq λ_=>(#[]:Array Value))).push (seqObj "tuple" vs.toArray 0)).push (seqObj "list" #[] 0)).get? b=some o:=λb o hb q=>by
  rw[Heap.get?_push_ne _ _ _ (nk b o q).2,Heap.get?_push_ne _ _ _ (nk b o q).1,Heap.get?_update_ne _ _ _ _ hb]
  exact q
 have ho6:(((s.heap.update a (Obj.mapSeq λ_=>(#[]:Array Value))).push (seqObj "tuple" vs.toArray 0)).push (seqObj "list" #[] 0)).get? a=some (seqObj "list" #[] e1):=by
  rw[Heap.get?_push_ne _ _ _ (nk a _ ho).2,Heap.get?_push_ne _ _ _ (nk a _ ho).1]
  exact ho1
 dsimp only
 by_cases h2:vs.toArray.size<2
 ·rw[if_pos h2,if_pos h2]
  refine wpAny_bind (wpAny_pure ?_)
  rw[StateT.run_pure]
  refine wpAny_bind (wpAny_pure (wpAny_bind (seqEpoch_at ho6 rfl (wpAny_bind (listUpdate_at ho6 rfl ?_ (Nat.zero_le _) (by rw[Array.size_map];show(pairsOf vs).size<=_;rw[pairsOf_size];omega))))))
  simp only[bne_self_eq_false,Bool.false_eq_true,if_false]
  refine wpAny_pure (h (pairsOf vs) (List.Perm.refl _) ?_)
  have hl:(pairsOf vs).toList.length<2:=by rw[Array.length_toList,pairsOf_size];omega
  exact ZhU hl
 ·rw[if_neg h2,if_neg h2]
  refine wpAny_bind (hk (by omega) _ kp _ ?_)
  refine wpAny_bind (wpAny_mono (ZhQ (W:=(pairsOf vs).toList) (st:=SortSt.mk' κ (vs.toArray.zip vs.toArray) #[] 7 none) (hC _ kp) (λx hx=>hx) hN ⟨rfl,rfl,List.Perm.refl _⟩ rfl (Q:=λ_ st'=>Bs κ (pairsOf vs).toList st'/\Srt B (arrOf st').toList) λst' b1 b2=>⟨b1,b2⟩) ?_ λ_ _ e=>e)
  rintro ⟨⟨⟩,st'⟩ s' ⟨rfl,b1,b2⟩
  dsimp only
  refine wpAny_bind (seqEpoch_at ho6 rfl (wpAny_bind (listUpdate_at ho6 rfl ?_ (Nat.zero_le _) ?_)))
  ·rw[b1.fl]
   simp only[bne_self_eq_false,Bool.false_eq_true,if_false]
   exact wpAny_pure (h (arrOf st') b1.perm b2)
  ·have:=b1.size
   rw[Array.length_toList,pairsOf_size]at this
   rw[Array.size_map,this]
   omega
theorem so_call{l:Addr}{vs:List Value}{Q:Value->Shared->Prop}(hl:s.heap.IsList l vs.toArray)(hz:vs.length<=sizeLine)(hN:(pairsOf vs).toList.Nodup)(hk:2<=vs.length->∀A' h',(∀b o,s.heap.get? b=some o->h'.get? b=some o)->∀(E':Value->Shared->Prop) (Q':SortKind->Shared->Prop),Q' κ { s with heap:=h' }->wpAny (model prog w) A' (keyKind' vs.toArray) Q' E' { s with heap:=h' })(hC:∀A' h',(∀b o,s.heap.get? b=some o->h'.get? b=some o)->Cmp prog w A' { s with heap:=h' } κ (λx=>x∈(pairsOf vs).toList) B)(h:∀out:Array Keyed,out.toList.Perm (pairsOf vs).toList->Srt B out.toList->Q (.ref (s.heap.objs.size+1)) { s with heap:=sortedAll s.heap vs (out.map (·.2)) }):
  wpAny (model prog w) A (call (.builtin "sorted") [.ref l]) Q E s:=by
 refine Calls.call_function_entry kind_sorted plain_sorted entry_sorted (args_sorted1 _) ?_
 unfold Builtin.«sorted»
 refine wpAny_bind (m:=checkCount "sorted" 1 1 _) (wpAny_pure (wpAny_bind (collect_list hl (wpAny_bind (wpAny_newList ?_ (by simpa using hz))) hz)))
 have hsz:((s.heap.push (seqObj "list" #[] 0)).update s.heap.objs.size (Obj.mapSeq (·++vs.toArray))).objs.size=s.heap.objs.size+1:=by rw[Heap.size_update,size_push']
 have hoL:(((s.heap.push (seqObj "list" #[] 0)).update s.heap.objs.size (Obj.mapSeq (·++vs.toArray))).push (seqObj "list" vs.toArray 0)).get? (s.heap.objs.size+1)=some (seqObj "list" vs.toArray 0):=by
  rw[<-hsz];exact Heap.get?_push_size _ rfl
 have kp:∀h':Heap,(∀b o,b≠s.heap.objs.size+1->(((s.heap.push (seqObj "list" #[] 0)).update s.heap.objs.size (Obj.mapSeq (·++vs.toArray))).push (seqObj "list" vs.toArray 0)).get? b=some o->h'.get? b=some o)->∀b o,s.heap.get? b=some o->h'.get? b=some o:=λh' k b o q=>by
  have hlt:=Heap.lt_size q
  refine k b o (Nat.ne_of_lt (Nat.lt_succ_of_lt hlt)) ?_
  rw[Heap.get?_push_ne _ _ _ (by rw[hsz];exact Nat.ne_of_lt (Nat.lt_succ_of_lt hlt)),Heap.get?_update_ne _ _ _ _ (Nat.ne_of_lt hlt),Heap.get?_push_ne _ _ _ (Nat.ne_of_lt hlt)]
  exact q
 show wpAny _ _ _ _ _ { s with heap:=((s.heap.push (seqObj "list" #[] 0)).update s.heap.objs.size (Obj.mapSeq (·++vs.toArray))).push (seqObj "list" vs.toArray 0) }
 rw[hsz]
 refine wpAny_bind (wpAny_holding (wpAny_call_entry slot_list_sort ⟨_,hoL,rfl⟩ entry_list_sort (Ziv hoL hz hN (λh2 h' k Q' q=>hk h2 _ h' (kp h' k) _ Q' q) (λh' k=>hC _ h' (kp h' k)) λout a1 a2=>⟨_,rfl,wpAny_pure ⟨_,rfl,h out a1 a2⟩⟩) (args_list_sort _)))
end
end Ts
namespace Ts
open PySem PyProof.Rows PySem.W PySem.Calls
section
variable{prog:Program}{w:World}{A:Around}{E:Value->Shared->Prop}{s:Shared}
theorem ZeI{kS:Addr}{f:Value}{G:List Value->Shared->Prop}{n:Nat}{body:Value->PUnit->Sem (ForInStep PUnit)}(hb:∀x ks (s:Shared),ks.length<n->G ks s->wpAny (model prog w) A (call f [x]) (λk s2=>∃e,s2.heap.get? kS=some (seqObj "list" ks.toArray e)/\G (ks++[k]) { s2 with heap:=s2.heap.update kS (Obj.mapSeq (·.push k)) }) (λ_ _=>False) s ->
   wpAny (model prog w) A (body x ⟨⟩) (λr s'=>r=.yield ⟨⟩/\∃k,G (ks++[k]) s') E s)(vs:List Value)(step:∀ks x r s,vs.drop ks.length=x::r->G ks s->wpAny (model prog w) A (call f [x]) (λk s2=>∃e,s2.heap.get? kS=some (seqObj "list" ks.toArray e)/\G (ks++[k]) { s2 with heap:=s2.heap.update kS (Obj.mapSeq (·.push k)) }) (λ_ _=>False) s):∀(r ks:List Value) (s:Shared),ks.length+r.length=n->vs.drop ks.length=r->G ks s ->
   wpAny (model prog w) A (forIn r PUnit.unit body) (λ_ s'=>∃ks,ks.length=n/\G ks s') E s
 |[],ks,s,hl,_,h=>by
  rw[List.forIn_nil]
  exact wpAny_pure ⟨ks,by simpa using hl,h⟩
 |x::r,ks,s,hl,hd,h=>by
  rw[List.length_cons]at hl
  rw[List.forIn_cons]
  refine wpAny_bind (wpAny_mono (hb x ks s (by omega) h (step ks x r s hd h)) (λq s' hq=>?_) λ_ _ x=>x)
  obtain⟨rfl,k,h2⟩:=hq
  show wpAny (model prog w) A (forIn r PUnit.unit body) _ E s'
  refine ZeI hb vs step r (ks++[k]) s' (by rw[List.length_append,List.length_singleton];omega) ?_ h2
  rw[List.length_append,List.length_singleton,<-List.drop_drop,hd]
  rfl
theorem Ziw{a:Addr}{f:Value}{vs:List Value}{n:Nat}{P:PySem.Fin->Shared->Prop}(ho:s.heap.get? a=some (seqObj "list" vs.toArray n))(hz:vs.length<=sizeLine)(h:∀kS e1 h',kS=s.heap.objs.size+1->h'.get? a=some (seqObj "list" #[] e1)->h'.get? kS=some (seqObj "list" #[] 0)->(∀b o,b≠a->s.heap.get? b=some o->h'.get? b=some o) ->
   ∃G:List Value->Shared->Prop,G [] { s with heap:=h' }/\(∀ks s,G ks s->∃e,s.heap.get? kS=some (seqObj "list" ks.toArray e)) /\
    (∀ks x r s,vs.drop ks.length=x::r->G ks s->wpAny (model prog w) A (call f [x]) (λk s2=>∃e,s2.heap.get? kS=some (seqObj "list" ks.toArray e)/\G (ks++[k]) { s2 with heap:=s2.heap.update kS (Obj.mapSeq (·.push k)) }) (λ_ _=>False) s) /\
    ∀ks s',ks.length=vs.length->G ks s'->∃κ B,(ks.zip vs).Nodup/\(2<=vs.length->∀Q':SortKind->Shared->Prop,Q' κ s'->wpAny (model prog w) A (keyKind' ks.toArray) Q' E s')/\Cmp prog w A s' κ (λx=>x∈ks.zip vs) B /\
     s'.heap.get? a=some (seqObj "list" #[] e1)/\∀out:List Keyed,out.Perm (ks.zip vs)->Srt B out->P (.done (.ret .none)) { s' with heap:=(s'.heap.update kS (Obj.mapSeq λ_=>(#[]:Array Value))).update a (Obj.mapSeq λ_=>(out.map (·.2)).toArray) }):
  wpAny (model prog w) A (ksk_tree a f false) P E s:=by
 have ha:a<s.heap.objs.size:=Heap.lt_size ho
 obtain⟨e1,ho1⟩:∃e1,(s.heap.update a (Obj.mapSeq λ_=>(#[]:Array Value))).get? a=some (seqObj "list" #[] e1):=⟨_,get?_update_seq ho λ_=>#[]⟩
 have hkS:((s.heap.update a (Obj.mapSeq λ_=>(#[]:Array Value))).push (seqObj "tuple" vs.toArray 0)).objs.size=s.heap.objs.size+1:=by rw[size_push',Heap.size_update]
 have kp:∀b o,b≠a->s.heap.get? b=some o->(((s.heap.update a (Obj.mapSeq λ_=>(#[]:Array Value))).push (seqObj "tuple" vs.toArray 0)).push (seqObj "list" #[] 0)).get? b=some o:=λb o hb q =>
  Heap.get?_push_of_some _ (Heap.get?_push_of_some _ (by rw[Heap.get?_update_ne _ _ _ _ hb];exact q))
 obtain⟨G,g0,gk,step,fin⟩:=h _ e1 (((s.heap.update a (Obj.mapSeq λ_=>(#[]:Array Value))).push (seqObj "tuple" vs.toArray 0)).push (seqObj "list" #[] 0)) rfl (Heap.get?_push_of_some _ (Heap.get?_push_of_some _ ho1)) (by rw[<-hkS];exact Heap.get?_push_size _ rfl) kp
 unfold ksk_tree
 refine wpAny_bind (listItems_at ho rfl ?_)
 refine wpAny_bind (listUpdate_at ho rfl ?_ (by rw[List.size_toArray];exact hz) (Nat.zero_le _))
 refine wpAny_bind (seqEpoch_at ho1 rfl ?_)
 refine wpAny_bind (wpAny_newTuple ?_ (by show vs.length<=_;exact hz))
 refine wpAny_bind (wpAny_newList ?_ (Nat.zero_le _))
 refine wpAny_holding ?_
 show wpAny _ _ (ksk_rest a f false vs.toArray e1 (.ref ((s.heap.update a (Obj.mapSeq λ_=>(#[]:Array Value))).push (seqObj "tuple" vs.toArray 0)).objs.size)) _ _ { s with heap:=((s.heap.update a (Obj.mapSeq λ_=>(#[]:Array Value))).push (seqObj "tuple" vs.toArray 0)).push (seqObj "list" #[] 0) }
 rw[hkS]
 unfold ksk_rest
 refine wpAny_bind (wpAny_rule ?_)
 first
  |rw[List.forIn_toArray]
  |(rw[<-Array.forIn_toList];simp only[List.toList_toArray])
  |rw[<-Array.forIn_toList]
 refine wpAny_bind (wpAny_mono (ZeI (n:=vs.length) (λx ks s' hlt hg hx=>?_) vs step vs [] _ (by simp) rfl g0) (λ_ s' hd=>?_) λ_ _ x=>x)
 ·refine wpAny_bind (wpAny_attempt (wpAny_mono hx (λk s'' hk=>?_) λ_ _ hF=>hF.elim))
  obtain⟨e,hk1,hk2⟩:=hk
  refine wpAny_bind (listUpdate_at hk1 rfl ?_ (by rw[List.size_toArray];omega) (Nat.le_trans (Nat.le_of_eq (Array.size_push ..)) (by rw[List.size_toArray];omega)))
  exact wpAny_pure ⟨rfl,k,hk2⟩
 ·obtain⟨ks,hl,hg⟩:=hd
  obtain⟨e,hke⟩:=gk ks s' hg
  obtain⟨κ,B,hN,hkk,hC,ha',fi⟩:=fin ks s' hl hg
  refine wpAny_bind (listItems_at hke rfl ?_)
  have hzip:(ks.toArray.zip vs.toArray).toList=ks.zip vs:=by simp
  have hka:a≠s.heap.objs.size+1:=Nat.ne_of_lt (Nat.lt_succ_of_lt ha)
  have tail:∀st:SortSt,failedOf st=none->(arrOf st).toList.Perm (ks.zip vs)->Srt B (arrOf st).toList->wpAny (model prog w) A (ksk_tail a false e1 (.ref (s.heap.objs.size+1)) st) P E s':=λst hf hp hs=>by
   have na:(s'.heap.update (s.heap.objs.size+1) (Obj.mapSeq λ_=>(#[]:Array Value))).get? a=some (seqObj "list" #[] e1):=by
    rw[Heap.get?_update_ne _ _ _ _ hka]
    exact ha'
   have hlen:(arrOf st).size=vs.length:=by
    have:=hp.length_eq
    rw[Array.length_toList,List.length_zip,hl,Nat.min_self]at this
    exact this
   unfold ksk_tail
   refine wpAny_bind (listUpdate_at hke rfl ?_ (by rw[List.size_toArray];omega) (Nat.zero_le _))
   refine wpAny_bind (wpAny_letGo ?_)
   refine wpAny_bind (seqEpoch_at na rfl ?_)
   refine wpAny_bind (listUpdate_at na rfl ?_ (Nat.zero_le _) (by
    show((arrOf st).map (·.2)).size<=_
    rw[Array.size_map,hlen];omega))
   rw[hf]
   simp only[bne_self_eq_false,Bool.false_eq_true,if_false]
   refine wpAny_pure ?_
   have:=fi (arrOf st).toList hp hs
   rw[show((arrOf st).toList.map (·.2)).toArray=(arrOf st).map (·.2) by rw[<-Array.toList_map,Array.toArray_toList]]at this
   exact this
  unfold ksk_end
  simp only[Bool.false_eq_true,if_false]
  by_cases h2:vs.toArray.size<2
  ·rw[if_pos h2,if_pos h2]
   refine wpAny_bind (wpAny_pure ?_)
   rw[StateT.run_pure]
   refine wpAny_bind (wpAny_pure ?_)
   refine tail _ rfl (by show(ks.toArray.zip vs.toArray).toList.Perm _;rw[hzip]) ?_
   show Srt B (ks.toArray.zip vs.toArray).toList
   rw[hzip]
   refine ZhU ?_
   rw[List.length_zip,hl,Nat.min_self]
   simpa using h2
  ·rw[if_neg h2,if_neg h2]
   have h2':2<=vs.length:=by simp at h2;omega
   refine wpAny_bind (hkk h2' _ ?_)
   refine wpAny_bind (wpAny_mono (ZhQ (W:=ks.zip vs) (st:=SortSt.mk' κ (ks.toArray.zip vs.toArray) #[] 7 none) hC (λx hx=>hx) hN ⟨rfl,rfl,by show(ks.toArray.zip vs.toArray).toList.Perm _;rw[hzip]⟩ rfl (Q:=λ_ st'=>Bs κ (ks.zip vs) st'/\Srt B (arrOf st').toList) λst' b1 b2=>⟨b1,b2⟩) ?_ λ_ _ x=>x)
   rintro ⟨⟨⟩,st'⟩ s'' ⟨rfl,b1,b2⟩
   exact tail st' b1.fl b1.perm b2
theorem sk_call{l q:Addr}{vs:List Value}{Q:Value->Shared->Prop}(hl:s.heap.IsList l vs.toArray)(hz:vs.length<=sizeLine)(h:∀D kS e1 h',s.heap.objs.size<=D->D<kS->h'.get? D=some (seqObj "list" #[] e1)->h'.get? kS=some (seqObj "list" #[] 0)->(∀b o,s.heap.get? b=some o->h'.get? b=some o) ->
   ∃G:List Value->Shared->Prop,G [] { s with heap:=h' }/\(∀ks s,G ks s->∃e,s.heap.get? kS=some (seqObj "list" ks.toArray e)) /\
    (∀ks x r s,vs.drop ks.length=x::r->G ks s->wpAny (model prog w) A.in1.in1 (call (.ref q) [x]) (λk s2=>∃e,s2.heap.get? kS=some (seqObj "list" ks.toArray e)/\G (ks++[k]) { s2 with heap:=s2.heap.update kS (Obj.mapSeq (·.push k)) }) (λ_ _=>False) s) /\
    ∀ks s',ks.length=vs.length->G ks s'->∃κ B,(ks.zip vs).Nodup/\(2<=vs.length->∀(E':Value->Shared->Prop) (Q':SortKind->Shared->Prop),Q' κ s'->wpAny (model prog w) A.in1.in1 (keyKind' ks.toArray) Q' E' s')/\Cmp prog w A.in1.in1 s' κ (λx=>x∈ks.zip vs) B /\
     s'.heap.get? D=some (seqObj "list" #[] e1)/\∀out:List Keyed,out.Perm (ks.zip vs)->Srt B out->Q (.ref D) { s' with heap:=(s'.heap.update kS (Obj.mapSeq λ_=>(#[]:Array Value))).update D (Obj.mapSeq λ_=>(out.map (·.2)).toArray) }):
  wpAny (model prog w) A (call (.builtin "sorted") [.ref l] [(Str.ofString "key",.ref q)]) Q E s:=by
 refine call_function_entry_kw kind_sorted plain_sorted entry_sorted (ksk_s1 _ _) ?_
 unfold Builtin.«sorted»
 refine wpAny_bind (m:=checkCount "sorted" 1 1 _) (wpAny_pure (wpAny_bind (collect_list hl (wpAny_bind (wpAny_newList ?_ (by simpa using hz))) hz)))
 have hsz:((s.heap.push (seqObj "list" #[] 0)).update s.heap.objs.size (Obj.mapSeq (·++vs.toArray))).objs.size=s.heap.objs.size+1:=by rw[Heap.size_update,size_push']
 have hoL:(((s.heap.push (seqObj "list" #[] 0)).update s.heap.objs.size (Obj.mapSeq (·++vs.toArray))).push (seqObj "list" vs.toArray 0)).get? (s.heap.objs.size+1)=some (seqObj "list" vs.toArray 0):=by
  rw[<-hsz];exact Heap.get?_push_size _ rfl
 have kp:∀h':Heap,(∀b o,b≠s.heap.objs.size+1->(((s.heap.push (seqObj "list" #[] 0)).update s.heap.objs.size (Obj.mapSeq (·++vs.toArray))).push (seqObj "list" vs.toArray 0)).get? b=some o->h'.get? b=some o)->∀b o,s.heap.get? b=some o->h'.get? b=some o:=λh' k b o q=>by
  have hlt:=Heap.lt_size q
  refine k b o (Nat.ne_of_lt (Nat.lt_succ_of_lt hlt)) ?_
  rw[Heap.get?_push_ne _ _ _ (by rw[hsz];exact Nat.ne_of_lt (Nat.lt_succ_of_lt hlt)),Heap.get?_update_ne _ _ _ _ (Nat.ne_of_lt hlt),Heap.get?_push_ne _ _ _ (Nat.ne_of_lt hlt)]
  exact q
 show wpAny _ _ _ _ _ { s with heap:=((s.heap.push (seqObj "list" #[] 0)).update s.heap.objs.size (Obj.mapSeq (·++vs.toArray))).push (seqObj "list" vs.toArray 0) }
 rw[hsz]
 refine wpAny_bind (wpAny_holding (wpAny_call_entry_kw slot_list_sort ⟨_,hoL,rfl⟩ entry_list_sort ?_ (ksk_l1 _ _)))
 show wpAny (model prog w) A.in1.in1 (Builtin.«list.sort» ⟨[.ref (s.heap.objs.size+1)],[(Str.ofString "key",.ref q)]⟩) _ _ _
 rw[ksk_t1]
 refine Ziw hoL hz λkS e1 h' hkS h1 h2 h3=>?_
 obtain⟨G,g0,gk,st,fin⟩:=h (s.heap.objs.size+1) kS e1 h' (Nat.le_succ _) (by rw[hkS];exact Nat.lt_succ_of_lt (Heap.lt_size hoL)) h1 h2 (kp h' h3)
 refine⟨G,g0,gk,st,λks s' hk hg=>?_⟩
 obtain⟨κ,B,a1,a2,a3,a4,a5⟩:=fin ks s' hk hg
 exact⟨κ,B,a1,λz Q' q=>a2 z _ Q' q,a3,a4,λout p o=>⟨_,rfl,wpAny_pure ⟨_,rfl,a5 out p o⟩⟩⟩
end
end Ts
namespace Mi
open PySem PySem.Spec PyProof.Rows L2
theorem QQ:∀{x y:List Int},lexI x y=true->lexI y x=false
 |[],[],h=>by cases h
 |[],_::_,_=>rfl
 |_::_,[],h=>by cases h
 |a::x,b::y,h=>by
  rw[lexI]at h ⊢
  by_cases e:a=b
  ·subst e
   rw[if_pos rfl]at h ⊢
   exact QQ h
  ·rw[if_neg e]at h
   rw[if_neg (Ne.symm e)]
   have:=of_decide_eq_true h
   exact decide_eq_false (by omega)
theorem Jo:∀{x y:List Int},lexI x y=false->lexI y x=false->x=y
 |[],[],_,_=>rfl
 |[],_::_,h,_=>by cases h
 |_::_,[],_,h=>by cases h
 |a::x,b::y,h1,h2=>by
  rw[lexI]at h1 h2
  by_cases e:a=b
  ·subst e
   rw[if_pos rfl]at h1 h2
   rw[Jo h1 h2]
  ·rw[if_neg e]at h1
   rw[if_neg (Ne.symm e)]at h2
   have h1:=of_decide_eq_false h1
   have h2:=of_decide_eq_false h2
   omega
theorem Ja:∀{x y z:List Int},lexI y x=false->lexI z y=false->lexI z x=false
 |[],[],_,_,h=>h
 |[],_::_,[],_,_=>rfl
 |[],_::_,_::_,_,_=>rfl
 |_::_,[],_,h,_=>by cases h
 |_::_,_::_,[],_,h=>by cases h
 |a::x,b::y,c::z,h1,h2=>by
  rw[lexI]at h1 h2 ⊢
  by_cases e1:b=a
  ·by_cases e2:c=b
   ·rw[if_pos e1]at h1
    rw[if_pos e2]at h2
    rw[if_pos (e2.trans e1)]
    exact Ja h1 h2
   ·rw[if_neg e2]at h2
    have h2:=of_decide_eq_false h2
    rw[if_neg (by omega)]
    exact decide_eq_false (by omega)
  ·rw[if_neg e1]at h1
   have h1:=of_decide_eq_false h1
   by_cases e2:c=b
   ·rw[if_neg (by omega)]
    exact decide_eq_false (by omega)
   ·rw[if_neg e2]at h2
    have h2:=of_decide_eq_false h2
    rw[if_neg (by omega)]
    exact decide_eq_false (by omega)
theorem insI_perm(x:List Int):∀l:List (List Int),(insI x l).Perm (x::l)
 |[]=>.refl _
 |y::r=>by
  rw[insI]
  split
  ·exact((insI_perm x r).cons y).trans (.swap _ _ _)
  ·exact .refl _
theorem sortI_perm:∀xs:List (List Int),(sortI xs).Perm xs
 |[]=>.refl _
 |x::r=>(insI_perm x _).trans ((sortI_perm r).cons x)
theorem ZfE(x:List Int):∀{l:List (List Int)},l.Pairwise (λa b=>lexI b a=false)->(insI x l).Pairwise (λa b=>lexI b a=false)
 |[],_=>List.pairwise_singleton _ _
 |y::r,h=>by
  rw[insI]
  obtain⟨h1,h2⟩:=List.pairwise_cons.mp h
  split
  ·rename_i q
   refine List.pairwise_cons.mpr ⟨λz hz=>?_,ZfE x h2⟩
   rcases List.mem_cons.mp ((insI_perm x r).mem_iff.mp hz)with rfl|hz
   ·exact QQ q
   ·exact h1 z hz
  ·rename_i q
   have q:lexI y x=false:=by simpa using q
   refine List.pairwise_cons.mpr ⟨λz hz=>?_,h⟩
   rcases List.mem_cons.mp hz with rfl|hz
   ·exact q
   ·exact Ja q (h1 z hz)
theorem ZcX:∀xs:List (List Int),(sortI xs).Pairwise (λa b=>lexI b a=false)
 |[]=>.nil
 |x::r=>ZfE x (ZcX r)
theorem ZcY{xs ys:List (List Int)}(hp:ys.Perm xs)(hw:ys.Pairwise (λa b=>lexI b a=false)):ys=sortI xs:=
 List.Perm.eq_of_pairwise (λa b _ _ h1 h2=>Jo h2 h1) hw (ZcX xs) (hp.trans (sortI_perm xs).symm)
section
open PySem.W
variable{prog:Program}{w:World}{A:Around}{E:Value->Shared->Prop}{s:Shared}
noncomputable def TI(h:Heap)(v:Value)(k:List Int):Prop:=∃a o its n,v=.ref a/\h.get? a=some o/\o.cls=.type "tuple"/\o.data=.seq its n/\IntsAre its.toList k
open Classical in
theorem Zam:∀{ns:List Int}{us:List Value},Vals (ns.map V.int) us->IntsAre us ns
 |[],_,.nil=>.nil
 |n::ns,_,.cons ⟨t,e⟩ r=>by subst e;exact .cons n t (Zam r)
end
theorem Zcw:∀{ts:List T}{ns:List Int},ints? ts=some ns->ts=ns.map .int
 |[],_,h=>by cases h;rfl
 |t::r,ns,h=>by
  cases t with
  |int c =>
   have h:(ints? r).map (c::·)=some ns:=h
   cases q:ints? r with
   |none=>rw[q]at h;cases h
   |some ms=>rw[q]at h;cases h;rw[Zcw q];rfl
  |_=>cases h
section
variable{K:Frag}{cm:List Addr}{m:Mem}{H:Hp}{xr:XR}{X:Cx}{call:Nat->List W->Mem->Res W}{gv:List T}
variable{e:Expr}{es:List Expr}{ea:E}{eas:Es}{pos p:Pos}
theorem RTs.intsV:∀{ns:List Int}{vs:List V},RTs K cm m H (ns.map .int) vs->vs=ns.map V.int
 |[],_,.nil=>rfl
 |n::ns,_,.cons r t=>by cases r;rw[RTs.intsV t];rfl
theorem Xr{α β:Type}{f:α->β}{l:List α}(h:(l.map f).Nodup):l.Nodup:=(List.pairwise_map.mp h).imp λq e=>q (congrArg f e)
end
section
variable{K:Frag}{cm:List Addr}{m:Mem}{H:Hp}{xr:XR}{X:Cx}{call:Nat->List W->Mem->Res W}{gv:List T}
variable{e:Expr}{es:List Expr}{ea:E}{eas:Es}{pos p p2:Pos}{rest:List Stmt}{k:S}{n:Nat}
noncomputable def iv:Value->Int
 |.int n _=>n
 |_=>0
theorem Zh4:∀{us:List Value}{ns:List Int},IntsAre us ns->us.map iv=ns
 |_,_,.nil=>rfl
 |_,_,.cons n t r=>by rw[List.map_cons,Zh4 r];rfl
theorem ints_of:∀{us:List Value}{ns:List Int},IntsAre us ns->∀os:List Value,(∀u∈os,u∈us)->IntsAre os (os.map iv):=λ{us ns} h os ho=>by
 have mem:∀u∈us,∃n t,u=Value.int n t:=λu hu=>by
  clear ho
  induction h with
  |nil=>cases hu
  |cons n t r ih =>
   rcases List.mem_cons.mp hu with rfl|hu
   ·exact⟨n,t,rfl⟩
   ·exact ih hu
 induction os with
 |nil=>exact .nil
 |cons u os ih =>
  obtain⟨n,t,rfl⟩:=mem u (ho u List.mem_cons_self)
  exact .cons n t (ih λv hv=>ho v (List.mem_cons_of_mem _ hv))
theorem lex1(a b:Int):lexI [a] [b]=decide (a<b):=by
 by_cases h:a=b
 ·subst h
  rw[lexI,if_pos rfl]
  simp[lexI]
 ·rw[lexI,if_neg h]
theorem ZeC{s:Shared}{A:Around}{E:Value->Shared->Prop}{l:Addr}{ns:List Int}{us:List Value}{Q:Value->Shared->Prop}(P:IntsAre us ns)(hl:s.heap.IsList l us.toArray)(hz:us.length<=sizeLine)(hN:ns.Nodup)(h:∀out:List Value,IntsAre out ((sortI (ns.map λn=>[n])).map λk=>k.headD 0)->Q (.ref (s.heap.objs.size+1)) { s with heap:=sortedAll s.heap us out.toArray }):
  wpAny (model X.prog X.w) A (PySem.call (.builtin "sorted") [.ref l]) Q E s:=by
 have hm:us.map iv=ns:=Zh4 P
 have nd:(us.map iv).Nodup:=by rw[hm];exact hN
 have inj:∀v∈us,∀u∈us,iv v=iv u->v=u:=λv hv' u hu e=>by
  obtain⟨i,hi,rfl⟩:=List.mem_iff_getElem.mp hv'
  obtain⟨j,hj,rfl⟩:=List.mem_iff_getElem.mp hu
  have:=(List.getElem_inj (h₀:=by simpa using hi) (h₁:=by simpa using hj) nd).mp (by simpa using e)
  subst this;rfl
 have ndu:us.Nodup:=Xr nd
 have ndp:(pairsOf us).toList.Nodup:=by
  rw[pairsOf_toList]
  have:(us.zip us).map (·.1)=us:=by rw[List.map_fst_zip (Nat.le_refl _)]
  exact Xr (f:=(·.1)) (by rw[this];exact ndu)
 have mz:∀{x:Keyed},x∈(pairsOf us).toList->x.1=x.2/\x.1∈us:=λh=>by rw[pairsOf_toList]at h;exact mem_zip_self h
 have form:∀u∈us,∃t,u=Value.int (iv u) t:=λu hu=>by
  have:=ints_of P [u] (λv hv=>by rw[List.mem_singleton.mp hv];exact hu)
  generalize e1:[u]=l1 at this
  generalize e2:l1.map iv=l2 at this
  cases this with
  |nil=>cases e1
  |cons n t r =>
   injection e1 with e1 _
   subst e1
   exact⟨t,rfl⟩
 refine Ts.so_call (κ:=oneType') (B:=λx y=>lexI [iv x.1] [iv y.1]) hl hz ndp (λh2 A' h' kp E' Q' q=>?_) (λA' h' kp=>⟨λx y hx hy E Q q=>?_,λx y z _ _ _=>Ja,λx y _ _=>QQ,λx y hx hy h1 h2=>?_⟩) λout hp hs=>?_
 ·obtain⟨v1,v2,vr,rfl⟩:∃v1 v2 vr,us=v1::v2::vr:=by
   rcases us with _|⟨a,_|⟨b,r⟩⟩
   ·simp at h2
   ·simp at h2
   ·exact⟨a,b,r,rfl⟩
  rw[keyKind_ints P]
  exact wpAny_pure q
 ·obtain⟨t,e1⟩:=form _ (mz hx).2
  obtain⟨u,e2⟩:=form _ (mz hy).2
  rw[lex1]at q
  rw[e1,e2]
  exact PySem.W.kat_lt_int q
 ·have e0:iv x.1=iv y.1:=by
   have:=Jo h1 h2
   injection this
  have:=inj _ (mz hx).2 _ (mz hy).2 e0
  exact Prod.ext this (by rw[<-(mz hx).1,<-(mz hy).1];exact this)
 ·have mm:∀x∈out.toList,x.1=x.2/\x.1∈us:=λx hx=>mz (hp.mem_iff.mp hx)
  have e2:(out.map (·.2)).toList=out.toList.map (·.1):=by
   rw[Array.toList_map]
   exact List.map_congr_left λx hx=>((mm x hx).1).symm
  have pu:(out.toList.map (·.1)).Perm us:=by
   have:=hp.map (·.1)
   rw[pairsOf_toList,List.map_fst_zip (Nat.le_refl _)]at this
   exact this
  have ek:(out.toList.map (·.1)).map (λv=>[iv v])=sortI (ns.map λn=>[n]):=by
   refine ZcY ?_ ?_
   ·have:=pu.map (λv=>[iv v])
    rw[show us.map (λv=>[iv v])=ns.map λn=>[n] by rw[<-hm,List.map_map];rfl]at this
    exact this
   ·rw[List.map_map]
    exact List.pairwise_map.mpr hs
  have i1:=ints_of P (out.toList.map (·.1)) λu hu=>pu.mem_iff.mp hu
  have e3:(out.toList.map (·.1)).map iv=(sortI (ns.map λn=>[n])).map λk=>k.headD 0:=by
   rw[<-ek,List.map_map,List.map_map,List.map_map]
   rfl
  rw[e3]at i1
  have:=h (out.toList.map (·.1)) i1
  rw[<-e2]at this
  exact this
theorem Zdf:∀ns:List Int,RTs K cm m H (ns.map .int) (ns.map V.int)
 |[]=>.nil
 |n::ns=>.cons (.int n) (Zdf ns)
theorem ZcG:Jy X (.builtin "sorted") (rN X.K xr (fBlt .sortn)):=by
 rintro pins s σ H xs us Q I r ⟨cm,m,ws,M,rws,ho⟩
 obtain⟨w,v,t,rr,rfl,rfl,rv,e,eb,ho⟩:=blt1 rws (Xj (by decide)) ho
 cases t with
 |lst ts =>
  have eb:((ints? ts).bind λns=>if ns.Nodup/\ns.length<=900000 then some (T.lst ((sortI (ns.map λn=>[n])).map λk=>.int (k.headD 0)))else none)=some rr:=eb
  cases qt:ints? ts with
  |none=>rw[qt]at eb;cases eb
  |some ns =>
   rw[qt]at eb
   have eb:(if ns.Nodup/\ns.length<=900000 then some (T.lst ((sortI (ns.map λn=>[n])).map λk=>.int (k.headD 0)))else none)=some rr:=eb
   by_cases hc:ns.Nodup/\ns.length<=900000
   case neg=>rw[if_neg hc]at eb;cases eb
   rw[if_pos hc]at eb
   cases eb
   obtain⟨a,vs,rfl,h1,r1⟩:=Zz M rv e
   obtain⟨u,rfl,ru⟩:=vals1 r
   cases ru
   cases Zcw qt
   cases RTs.intsV r1
   obtain⟨its,rv',pl,hz⟩:=I.list (.of h1)
   have hi:=Zam rv'
   have hl:=hi.length
   have hsl:=sizeLine_eq
   refine ZeC (X:=X) hi pl.isList (by omega) hc.1 λout ho'=>?_
   obtain⟨ep,hat⟩:=sortedAll_at s.heap its out.toArray
   have hl2:=ho'.length
   have hpl:(sortI (ns.map λn=>[n])).length=ns.length:=by rw[(sortI_perm _).length_eq,List.length_map]
   have hv:=Zab ho'
   rw[List.length_map]at hl2
   refine⟨.ref (s.heap.objs.size+1),_,I.laid (t':=s.toks) (o:=.lst (((sortI (ns.map λn=>[n])).map λk=>k.headD 0).map V.int)) (a:=s.heap.objs.size+1) (λb ob q=>sortedAll_old q) (Nat.le_succ _) ⟨by rw[List.length_map,List.length_map];omega,out,ep,hv,by simpa[seqObj]using hat⟩,rfl,?_⟩
   refine XD ho M ?_ (I.hok.fresh (Nat.le_succ _))
   have:=Zdf (K:=X.K) (cm:=cm) (m:=m) (H:=H) ((sortI (ns.map λn=>[n])).map λk=>k.headD 0)
   rw[List.map_map]at this
   exact this
 |_=>cases eb
theorem ZdH(hg:Gl X "sorted")(hm:X.mg "sorted" = none)(ha:PA X (e::es) (tA X.K call gv xr eas))(he:notStar e=true)(hpl:es.all notStar=true):PE X (.Call (.Name "sorted" p) (e::es) [] pos) (tE X.K call gv xr (.blt .sortn eas)):=Ze5 ZcG (by decide +kernel) hg hm ha (by decide) (by decide) he hpl
end
theorem ints_get:∀{vs:List Value}{ns:List Int},IntsAre vs ns->∀(i:Nat) (v:Value) (x:Int),vs[i]?=some v->ns[i]?=some x->∃t,v=.int x t
 |_,_,.nil,i,v,x,h,_=>by simp at h
 |_,_,.cons n t r,0,v,x,h1,h2=>by
  simp at h1 h2
  exact⟨t,by rw[<-h1,<-h2]⟩
 |_,_,.cons n t r,i+1,v,x,h1,h2=>ints_get r i v x (by simpa using h1) (by simpa using h2)
open AutoSeq1 (wpAny_loadPart') in
open MeetsSeq MeetsSeq2 MeetsSeq3 in
theorem Zjr(l b:Addr)(items items2:Array Value)(n n2:Nat)(xs ys:List Int)(g1:IntsAre items.toList xs)(g2:IntsAre items2.toList ys):∀(k i:Nat),items.size-i=k->i<=items.size->i<=items2.size ->
  Meets (Builtin.«list.__eq__.loop» ⟨[.ref l,.ref b,rawInt i,rawInt 0],[]⟩)
   (λA R s=>s.heap.get? l=some { cls:=.type "list",data:=.seq items n }/\s.heap.get? b=some { cls:=.type "list",data:=.seq items2 n2 }/\R (.ok (.ret (.bool (lexI (xs.drop i) (ys.drop i))))) s):=by
 have z1:xs.length=items.size:=by rw[<-g1.length,Array.length_toList]
 have z2:ys.length=items2.size:=by rw[<-g2.length,Array.length_toList]
 intro k
 induction k with
 |zero =>
  intro i hk hi1 hi2 prog w A R s h
  obtain⟨hp,g,d,tk,os⟩:=s;obtain⟨hl,hb,h⟩:=h
  wp_walk using wpAny_loadPart' hl,wpAny_loadPart' hb
  have e:i=items.size:=by omega
  have ii1:items[((i:Nat):Int).toNat]?=none:=by simp;omega
  rw[ii1]
  have hd:xs.drop i=[]:=List.drop_eq_nil_of_le (by omega)
  have hx:lexI (xs.drop i) (ys.drop i)=decide (items.size<items2.size):=by
   rw[hd]
   cases hy:ys.drop i with
   |nil =>
    have:=List.drop_eq_nil_iff.mp hy
    rw[decide_eq_false (by omega)]
    rfl
   |cons y r =>
    have:¬ys.length<=i:=λz=>by rw[List.drop_eq_nil_of_le z]at hy;cases hy
    rw[decide_eq_true (by omega)]
    rfl
  rw[hx]at h
  wp_walk using wpAny_loadPart' hl,wpAny_loadPart' hb
  exact h
 |succ k ih =>
  intro i hk hi1 hi2 prog w A R s h
  obtain⟨hp,g,d,tk,os⟩:=s;obtain⟨hl,hb,h⟩:=h
  wp_walk using wpAny_loadPart' hl,wpAny_loadPart' hb
  have hlt:i<items.size:=by omega
  have ii1:items[((i:Nat):Int).toNat]?=some items[i]:=by simp[hlt]
  rw[ii1]
  by_cases hlt2:i<items2.size
  ·have ii2:items2[((i:Nat):Int).toNat]?=some items2[i]:=by simp[hlt2]
   have l1:i<xs.length:=by omega
   have l2:i<ys.length:=by omega
   obtain⟨t,et⟩:∃t,items[i]=.int xs[i] t:=ints_get g1 i _ _ (by rw[Array.getElem?_toList,Array.getElem?_eq_getElem hlt]) (List.getElem?_eq_getElem l1)
   obtain⟨u,eu⟩:∃t,items2[i]=.int ys[i] t:=ints_get g2 i _ _ (by rw[Array.getElem?_toList,Array.getElem?_eq_getElem hlt2]) (List.getElem?_eq_getElem l2)
   rw[ii2,et,eu]
   rw[List.drop_eq_getElem_cons l1,List.drop_eq_getElem_cons l2,lexI]at h
   refine wpAny_bind (wpAny_eqBool_int ?_)
   have hc:((i:Int)+1)=((i+1:Nat):Int):=by push_cast;rfl
   by_cases he:xs[i]=ys[i]
   ·rw[if_pos he]at h
    have hb':(xs[i]==ys[i])=true:=by rw[he];exact beq_self_eq_true _
    rw[hb']
    wp_walk
    rw[hc]
    exact⟨plainId_quiet plain_eq_loop _,codeAny_builtin entry_eq_loop (by
     rw[Around.under_plainId plain_eq_loop _]
     exact ih (i+1) (by omega) (by omega) (by omega) prog w A R _ ⟨hl,hb,h⟩)⟩
   ·rw[if_neg he]at h
    have hb':(xs[i]==ys[i])=false:=beq_eq_false_iff_ne.mpr he
    rw[hb']
    wp_walk using wpAny_loadPart' hl,wpAny_loadPart' hb
    rw[ii1,ii2,et,eu]
    refine wpAny_bind (wpAny_lt_int ?_)
    exact wpAny_pure h
  ·have ii2:items2[((i:Nat):Int).toNat]?=none:=by simp;omega
   rw[ii2]
   have hd:ys.drop i=[]:=List.drop_eq_nil_of_le (by omega)
   have hx:lexI (xs.drop i) (ys.drop i)=decide (items.size<items2.size):=by
    rw[hd,List.drop_eq_getElem_cons (show i<xs.length by omega),decide_eq_false (by omega)]
    rfl
   rw[hx]at h
   wp_walk using wpAny_loadPart' hl,wpAny_loadPart' hb
   exact h
open AutoSeq1 (wpAny_loadPart') in
open MeetsSeq MeetsSeq2 MeetsSeq3 in
theorem Zhd(l b:Addr)(items items2:Array Value)(n n2:Nat)(xs ys:List Int)(g1:IntsAre items.toList xs)(g2:IntsAre items2.toList ys):
  Meets (Builtin.«list.__lt__» ⟨[.ref l,.ref b],[]⟩)
   (λA R s=>s.heap.get? l=some { cls:=.type "list",data:=.seq items n }/\s.heap.get? b=some { cls:=.type "list",data:=.seq items2 n2 }/\R (.ok (.ret (.bool (lexI xs ys)))) s):=by
 intro prog w A R s h
 obtain⟨hp,g,d,tk,os⟩:=s;obtain⟨hl,hb,h⟩:=h
 have f3:=AutoSeq1.sub_list_list
 wp_walk using wpAny_loadPart' hl,wpAny_loadPart' hb
 exact⟨plainId_quiet plain_eq_loop _,codeAny_builtin entry_eq_loop (by
  rw[Around.under_plainId plain_eq_loop _]
  exact Zjr l b items items2 n n2 xs ys g1 g2 _ 0 rfl (Nat.zero_le _) (Nat.zero_le _) prog w A R _ ⟨hl,hb,by simpa using h⟩)⟩
noncomputable def LI(h:Heap)(v:Value)(k:List Int):Prop:=∃a its n,v=.ref a/\h.get? a=some { cls:=.type "list",data:=.seq its n }/\IntsAre its.toList k
section
variable{prog:Program}{w:World}{A:Around}{E:Value->Shared->Prop}{s:Shared}
theorem ll_lt{x y:Value}{xs ys:List Int}{Q:Bool->Shared->Prop}(hx:LI s.heap x xs)(hy:LI s.heap y ys)(hu:A.units<cLine)(h:Q (lexI xs ys) s):wpAny (model prog w) A (keyLt' oneType' x y) Q E s:=by
 obtain⟨a,its,n,rfl,e2,e3⟩:=hx
 obtain⟨b,jts,k,rfl,f2,f3⟩:=hy
 rw[keyLt'_oneType,oneLt'_eq]
 simp only[if_true]
 refine wpAny_bind (wpAny_cRoomFor hu ?_)
 refine wpAny_bind (wpAny_callSpecialIfBound?_slot (T:="list") ⟨_,e2,rfl⟩ PySem.F.slot_list_lt (call_meets PySem.F.slot_list_lt ⟨_,e2,rfl⟩ PySem.F.entry_list_lt (PySem.F.args_list_lt_2 _ _) (Zhd a b its jts n k xs ys e3 f3) ⟨e2,f2,?_⟩))
 exact wpAny_truthy_bool h
theorem ZfZ{ks vs:List Value}{kf:Value->List Int}(hv:∀v∈ks,LI s.heap v (kf v))(inj:∀x∈ks.zip vs,∀y∈ks.zip vs,kf x.1=kf y.1->x=y)(hu:A.units<cLine):
  Ts.Cmp prog w A s oneType' (λx=>x∈ks.zip vs) (λx y=>lexI (kf x.1) (kf y.1)):=by
 refine⟨λx y hx hy E Q q=>?_,λx y z _ _ _=>Ja,λx y _ _=>QQ,λx y hx hy h1 h2=>inj x hx y hy (Jo h1 h2)⟩
 exact ll_lt (hv _ (List.of_mem_zip hx).1) (hv _ (List.of_mem_zip hy).1) hu q
theorem Zai:∀(vs:List Value) {Q:List (Option Value)->Shared->Prop},(∀v∈vs,∃k,LI s.heap v k)->Q (vs.map λ_=>none) s->wpAny (model prog w) A (vs.mapM firstOfTuple') Q E s
 |[],_,_,h=>by rw[List.mapM_nil];exact wpAny_pure h
 |v::vs,Q,t,h=>by
  obtain⟨_,a,its,n,rfl,ho,_⟩:=t v List.mem_cons_self
  rw[List.mapM_cons]
  refine wpAny_bind ?_
  rw[PySem.W.kas_first_eq]
  refine wpAny_bind (PySem.W.Looks.here (show PySem.W.Looks (model prog w) s.heap (typeOf (.ref a)) (.type "list")from(PySem.W.Looks.ld ho).andThen .now) ?_)
  rw[if_pos (by first|decide|simp)]
  refine wpAny_pure ?_
  exact wpAny_bind (Zai vs (Q:=λbs s'=>wpAny (model prog w) A (pure (none::bs)) Q E s') (λu hu=>t u (List.mem_cons_of_mem _ hu)) (wpAny_pure h))
theorem ZdY{vs:List Value}(hv:∀v∈vs,∃k,LI s.heap v k)(h0:0<vs.length){Q:SortKind->Shared->Prop}(h:Q oneType' s):wpAny (model prog w) A (keyKind' vs.toArray) Q E s:=by
 obtain⟨v,vr,rfl⟩:∃v vr,vs=v::vr:=by
  cases vs with
  |nil=>exact absurd h0 (Nat.lt_irrefl _)
  |cons v vr=>exact⟨v,vr,rfl⟩
 rw[kat_kind_eq,List.mapM_toArray,map_eq_pure_bind]
 refine wpAny_bind (wpAny_bind (Zai _ hv (wpAny_pure ?_)))
 have hall:¬(((v::vr).map λ_=>(none:Option Value)).toArray.all λx=>x.isSome)=true:=by simp
 rw[if_neg hall]
 have hf:¬(((((v::vr).map λ_=>(none:Option Value)).toArray)[0]?.bind id).isSome=true):=by simp
 rw[if_neg hf,oneTypeOnly'_eq,List.mapM_toArray,map_eq_pure_bind]
 refine wpAny_bind (wpAny_bind (wpAny_bind (PySem.W.kas_mapM (r:=.type "list") _ (λv hv' Q' hq=>?_) (wpAny_pure ?_))))
 ·obtain⟨_,a,its,n,rfl,ho,_⟩:=hv v hv'
  exact PySem.W.Looks.here (show PySem.W.Looks (model prog w) s.heap (typeOf (.ref a)) (.type "list")from(PySem.W.Looks.ld ho).andThen .now) hq
 have hall2:((List.map (λ_=>Value.type "list") (v::vr)).toArray.all λx=>x==Value.type "list")=true:=by
  simp only[List.all_toArray,List.all_map,List.all_eq_true]
  intro _ _
  rfl
 have h0:(List.map (λ_=>Value.type "list") (v::vr)).toArray[0]?=some (Value.type "list"):=by simp
 rw[h0]
 simp only[hall2,if_true]
 exact wpAny_pure (wpAny_pure h)
end
section
variable{K:Frag}{cm:List Addr}{m:Mem}{H:Hp}{xr:XR}{X:Cx}{call:Nat->List W->Mem->Res W}{gv:List T}
variable{e e2:Expr}{es:List Expr}{ea:E}{eas:Es}{pos p p2:Pos}{rest:List Stmt}{k:S}{n:Nat}
theorem ZdT{l:Addr}{pins:List (Addr×Obj)}{s:Shared}{σ:L2.St}{xs:List V}{i:Int}{y:V}{u:Value}{t:Tok}{E:Value->Shared->Prop}{Q:VK}(I:Inv X pins σ H s)(hH:H l=some (.lst xs))(h0:0<=i)(h1:i<=xs.length)(hz:xs.length<sizeLine)(ry:RelV y u)(q:Q .non (upd H l (.lst (xs.take i.toNat++y::xs.drop i.toNat)))):
  wpAny (model X.prog X.w) X.A (PySem.call (.builtin "list.insert") [.ref l,.int i t,u]) (λv s'=>∃w H',Inv X pins σ H' s'/\RelV w v/\Q w H') E s:=by
 obtain⟨z,its,n,r,hl,e⟩:=I.lstM hH
 have hsl:=sizeLine_eq
 have fi:Builtin.List.listFitsIndex i=true:=fitsIndex_both (by omega) (by omega)
 refine call_meets PySem.F.slot_list_insert ⟨_,e,rfl⟩ PySem.F.entry_list_insert (PySem.F.args_list_insert_3 _ _ _) (AutoListH.list_insert_list_int_val_1 l its.toArray n i t u (by rw[fi];decide) (by rw[List.size_toArray];omega)) ⟨e,?_⟩
 refine⟨.non,_,I.lset (its':=its.take i.toNat++u::its.drop i.toNat) hH e ?_ ?_ ?_,rfl,q⟩
 ·show(its.toArray.extract 0 (if i<0 then _ else min i.toNat its.toArray.size)).push u++its.toArray.extract (if i<0 then _ else min i.toNat its.toArray.size)=_
  rw[if_neg (by omega),List.size_toArray,Nat.min_eq_left (by omega)]
  apply Array.ext'
  simp
  exact List.take_of_length_le (by rw[List.length_drop];exact Nat.le_refl _)
 ·exact ZC (QK i.toNat r) (.cons ry (QL i.toNat r))
 ·rw[List.length_append,List.length_take,List.length_cons,List.length_drop]
  omega
theorem Zjk{xs ts ys:List T}{t:T}(h:mutM .insert xs ts=some (t,ys)):∃(i:Int) (u:T),ts=[.int i,u]/\(0<=i/\i<=xs.length/\xs.length<lim)/\t=.non/\ys=xs.take i.toNat++u::xs.drop i.toNat:=by
 cases ts with
 |nil=>cases h
 |cons a r =>
  cases r with
  |nil=>cases a<;>cases h
  |cons b r =>
   cases r with
   |nil =>
    cases a with
    |int i =>
     have h:(if 0<=i/\i<=xs.length/\xs.length<lim then some (T.non,xs.take i.toNat++b::xs.drop i.toNat)else none)=some (t,ys):=h
     split at h<;>cases h
     exact⟨i,b,rfl,‹_›,rfl,rfl⟩
    |_=>cases h
   |cons c r=>cases a<;>cases h
theorem ZdS:MtR X "list.insert" (rM X.K xr .insert):=by
 rintro pins s σ H x xs v us Q I rx rs ⟨cm,m,w,ws,M,rw',rws,ho⟩
 cases w with
 |t t=>exact ho.elim
 |f a=>exact ho.elim
 |x _ _ _=>exact ho.elim
 |c i =>
  have ho:OkR X.K ((frzs ws m).bind λts m=>match m[i]? with
   |some (some (false,xs))=>match mutM .insert xs ts with
    |some (t,ys)=>.ok (W.t t) (m.set i (some (false,ys)))
    |none=>.stuck
   |_=>.stuck) xr cm m H _:=ho
  obtain⟨ts,m2,e2,o2⟩:=Jp ho
  obtain⟨x2,M2,r2⟩:=Jd M rws e2
  obtain⟨a,ha,rfl⟩:=rw'
  split at o2
  ·rename_i ys e3
   split at o2
   ·rename_i t zs e4
    obtain⟨b,vs,q1,q2,q3,q4⟩:=M2.at' i _ e3
    rw[ha]at q1;cases q1
    have l4:=q4.length
    dsimp only at l4
    have hz:=ZD
    obtain⟨j,y,rfl,⟨hj0,hj1,hlt⟩,rfl,rfl⟩:=Zjk e4
    cases r2 with
    |cons r3 r0 =>
     cases r0 with
     |cons r4 r0 =>
      cases r0
      cases r3
      cases rs with
      |cons s3 s0 =>
       cases s0 with
       |cons s4 s0 =>
        cases s0
        obtain⟨tk,rfl⟩:=s3
        cases rx
        obtain⟨x5,M5⟩:=QD M2 e3 ha (ZC (QK j.toNat q4) (.cons r4 (QL j.toNat q4)))
        exact ZdT I q2 hj0 (by omega) (by omega) s4 (OkR.to o2 (x2.trans x5) M5 _ .non)
   ·exact o2.elim
  ·exact o2.elim
theorem few2{cpos:Pos}(hs:[e,e2].all notStar=true):((backTo cpos (starEach [e,e2] X.env)).all (λx=>!x.1)&&(backToKw cpos (keywordEach [] X.env)).all (λx=>x.1.isSome)
  && decide ([e,e2].length+([]:List Keyword).length+(if([]:List Keyword).isEmpty then 0 else 1)<30))=true:=by
 rw[ZcV hs]
 rfl
theorem Zf4{b:Mt}{w:W}{v:V}(hb:b=.insert∨b=.clear)(M:MemR X.K cm m H)(rv:RW X.K cm m H w v)(ht:tyM b w m=true):(∃i,w=.c i)/\tyV X.K "list" v H:=by
 cases w with
 |t t=>rcases hb with rfl|rfl<;>cases ht
 |f a=>rcases hb with rfl|rfl<;>cases ht
 |x _ _ _=>rcases hb with rfl|rfl<;>cases ht
 |c i =>
  obtain⟨a,h1,rfl⟩:=rv
  have ht:(match m[i]? with
   |some (some _)=>true
   |_=>false)=true:=by rcases hb with rfl|rfl<;>exact ht
  split at ht
  ·rename_i c e1
   obtain⟨b,vs,q1,q2,_⟩:=M.at' i _ e1
   rw[h1]at q1;cases q1
   exact⟨⟨_,rfl⟩,.inl ⟨rfl,vs,.of q2⟩⟩
  ·cases ht
theorem ZdI{o:Expr}{apos cpos:Pos}(ho:PE X o (tE X.K call gv xr ea))(ha:PA X [e,e2] (tA X.K call gv xr eas))(hbase:attributeBase o "insert" X.env (eval o X.env)=eval o X.env:=by rfl)(hline:(apos.endLine==cpos.line)=true:=by rfl)(hs:[e,e2].all notStar=true:=by rfl)(h1:notStar e=true:=by rfl)(h2:[e2].all notStar=true:=by rfl):
  PE X (.Call (.Attribute o "insert" apos) [e,e2] [] cpos) (tE X.K call gv xr (.mth .insert ea eas)):=by
 refine PE.mono (Zi7 PySem.F.plainAttrs_list PySem.F.slot_list_insert PySem.F.type_list_insert (ZdS (xr:=xr)) ho ha hbase (few2 hs) hline (Qn h1) (Xl h2)) ?_
 rintro σ H Q ⟨env,cm,m,hE,M,hq⟩
 rw[ev]at hq
 refine⟨env,cm,m,hE,M,hq.bind.mono λw cm1 m1 H1 x1 M1 o1 v rv=>?_⟩
 obtain⟨ht,o1⟩:=Xw o1
 exact⟨(Zf4 (.inl rfl) M1 rv ht).2,env,cm1,m1,hE.ext x1 M M1,M1,o1.bind.mono λws cm2 m2 H2 x2 M2 o2 vs rvs=>⟨cm2,m2,w,ws,M2,rv.ext x2 M1 M2,rvs,o2⟩⟩
noncomputable def rClr(K:Frag)(xr:XR):V->List V->Hp->VK->Prop:=λx xs H Q=>xs=[]/\∃cm m w,MemR K cm m H/\RW K cm m H w x/\OkR K (doM .clear w [] m) xr cm m H λw cm' m' H'=>∀v,RW K cm' m' H' w v->Q v H'
theorem Zfn:MtR X "list.clear" (rClr X.K xr):=by
 rintro pins s σ H x xs v us Q I rx rs ⟨rfl,cm,m,w,M,rw',ho⟩
 cases w with
 |t t=>exact ho.elim
 |f a=>exact ho.elim
 |x _ _ _=>exact ho.elim
 |c i =>
  have ho:OkR X.K (match m[i]? with
   |some (some (false,xs))=>.ok (W.t .non) (m.set i (some (false,[])))
   |_=>.stuck) xr cm m H _:=ho
  obtain⟨a,ha,rfl⟩:=rw'
  split at ho
  ·rename_i ys e3
   obtain⟨b,vs,q1,q2,q3,q4⟩:=M.at' i _ e3
   rw[ha]at q1;cases q1
   obtain⟨x5,M5⟩:=QD M e3 ha (.nil:RTs X.K cm m H [] [])
   exact Zhc pins s σ H _ _ v us Q I rx rs ⟨a,vs,rfl,rfl,q2,OkR.to ho x5 M5 _ .non⟩
  ·exact ho.elim
theorem Ze4{o:Expr}{apos cpos:Pos}(ho:PE X o (tE X.K call gv xr ea))(hbase:attributeBase o "clear" X.env (eval o X.env)=eval o X.env:=by rfl)(hline:(apos.endLine==cpos.line)=true:=by rfl):
  PE X (.Call (.Attribute o "clear" apos) [] [] cpos) (tE X.K call gv xr (.mth .clear ea .nil)):=by
 refine PE.mono (pe_bm0 PySem.F.plainAttrs_list PySem.F.slot_list_clear PySem.F.type_list_clear (Zfn (xr:=xr)) ho hbase hline) ?_
 rintro σ H Q ⟨env,cm,m,hE,M,hq⟩
 rw[ev]at hq
 refine⟨env,cm,m,hE,M,hq.bind.mono λw cm1 m1 H1 x1 M1 o1 v rv=>?_⟩
 obtain⟨ht,o1⟩:=Xw o1
 refine⟨(Zf4 (.inr rfl) M1 rv ht).2,rfl,cm1,m1,w,M1,rv,?_⟩
 rw[evs]at o1
 exact o1
end
theorem Zej{pos:Pos}{a b:Int}{c v:Value}(l:List Value)(h:TriplesOk l)(e:codeAmong pos (l++[rawInt a,rawInt b,c])=some v):codeAmong pos l=some v∨v=c:=by
 fun_induction TriplesOk l with
 |case1 =>
  simp only[List.nil_append,rawInt,codeAmong]at e
  split at e
  ·cases e;exact .inr rfl
  ·cases e
 |case2 a' t b' u x rest ih =>
  simp only[List.cons_append,codeAmong]at e ⊢
  split at e
  ·rename_i q
   cases e
   rw[if_pos q]
   exact .inl rfl
  ·rename_i q
   rw[if_neg q]
   exact ih h e
 |case3 l h1 h2=>exact h.elim
structure LamK (K:Frag):Prop where
 uniq:∀q q' P,Zgj K q P->Zgj K q' P->q=q'
 hd:∀c q,codeIn K (.ref c) q=true->Qq.contains q=true->∃P,codeHdIn K c P=true/\K.lookup P=none/\Zgj K q P
theorem RT.extM{K:Frag}{cm cm':List Addr}{m m':Mem}{H H':Hp}(x:Ext cm m H cm' m' H')(M:MemR K cm m H){t:T}{v:V}(h:RT K cm m H t v):RT K cm' m' H' t v:=by
 induction h with
 |non=>exact .non
 |bl b=>exact .bl b
 |int i=>exact .int i
 |str cs=>exact .str cs
 |tup h1 h2 _ ih=>exact .tup (x.sqT M h1) h2 ih
 |lst h1 h2 h3 _ ih=>exact .lst (x.keep _ _ h1 h2).1 (x.keep _ _ h1 h2).2 h3 ih
 |scr ns h=>exact .scr ns (x.scr M h)
 |dct h1 h2 h3 h4 _ ih=>exact .dct (x.keep _ _ h1 h2).1 (x.keep _ _ h1 h2).2 h3 h4 ih
section
variable{X:Cx}{params:Arguments}{body:Expr}{scope:Scope}{pos:Pos}{q:Str}
noncomputable def Zem(H:Hp)(cv:Value)(q:Str):Prop:=∃(c:Addr) (o:Obj) (vs:Array Value) (t:Tok) (u:HO),cv=.ref c/\H c=some (.frz o u)/\o.data=.fields vs/\vs[1]?=some (.str q t)
theorem Zem.rec{P:Program}{w:World}{H:Hp}{h:Heap}{cv:Value}{q:Str}(x:Zem H cv q)(ok:HOk P w H h):h.CodeRec cv q:=by
 obtain⟨c,o,vs,t,u,rfl,h1,h2,h3⟩:=x
 exact⟨c,o,vs,t,rfl,(ok c _ h1).1,h2,h3⟩
noncomputable abbrev Qw(q:Str)(params:Arguments)(body:Expr)(scope:Scope)(cl:List (Str×Addr))(pm cv ct:Value):Obj:={ cls:=.type "function",data:=.func (kla_fn "<lambda>" (lamQ q) params body scope cl pm cv ct) }
theorem Zhe{pins:List (Addr×Obj)}{s:Shared}{σ:L2.St}{H:Hp}{cm:List Addr}{m:Mem}{Q:Value->Shared->Prop}{E:Value->Shared->Prop}{A:Around}(I:Inv X pins σ H s)(M:MemR X.K cm m H)(LK:LamK X.K)(hq:X.env.qual=q++".<locals>.")(hn:Qq.contains q=true)(hcd:codeIn X.K X.env.code q=true)(hdef:defaultsOf params X.env=([],[])){cl:List (Str×Addr)}(hcl:closureFor scope X.env=pure cl)(h:∀f pm cv ct H' s',Inv X ((f,Qw q params body scope cl pm cv ct)::pins) σ H' s'->MemR X.K cm m H'->Ext cm m H cm m H'->Zem H' cv (lamQ q)->Q (.ref f) s'):
  wpAny (model X.prog X.w) A (eval (.Lambda params body scope pos) X.env) Q E s:=by
 obtain⟨c,hc⟩:∃c,X.env.code=.ref c:=by
  cases e:X.env.code with
  |ref c=>exact⟨c,rfl⟩
  |_=>rw[e]at hcd;cases hcd
 rw[hc]at hcd
 obtain⟨P,hP,hPn,hT⟩:=LK.hd c q hcd hn
 obtain⟨ps,hps,ht⟩:=M.tab q P hT
 have CH:PySem.W.CodeHd s.heap c P:=PySem.W.codeHd_of_K I.kIn hP
 have gP:s.heap.get? P=some (tabObj ps):=I.hok P _ hps
 have hg:s.heap.Ns mainGlobals X.mg:=I.mod.glob.keeps I.bk
 have hgP:mainGlobals≠P:=λz=>by
  obtain⟨o,es,ep,e,hd,_⟩:=hg
  rw[z,gP]at e;cases e;cases hd
 obtain⟨bm,ob,b1,b2,b3,b4,b5,b6⟩:=I.mod.bm
 have b3':=I.bk _ _ b3
 have hbP:bm≠P:=λz=>by rw[z,gP]at b3';cases b3';cases b4
 have hbG:bm≠mainGlobals:=λz=>by
  obtain⟨o,es,ep,e,hd,_⟩:=hg
  rw[z,e]at b3';cases b3';rw[hd]at b6;cases b6
 have hb:s.heap.BuiltinsAt X.mg P:=⟨bm,ob,b1,b2,hbG,hbP,b3',b4,b5,b6⟩
 refine PySem.W.kla_eval hdef ?_
 have eq:X.env.qual++"<lambda>" = lamQ q:=by rw[hq];rfl
 rw[eq]
 have pin:∀{h':Heap}{H':Hp}{tk:Nat}{fo:Obj},Inv X pins σ H' { s with heap:=h'.push fo,toks:=tk }->s.heap.objs.size<=h'.objs.size->(∀b u,H' b=some u->b<h'.objs.size)->(∀v,fo.data≠.cell v)->(h'.push fo).get? h'.objs.size=some fo->Inv X ((h'.objs.size,fo)::pins) σ H' { s with heap:=h'.push fo,toks:=tk }:=λ{h' H' tk fo} J hz hu hd hf=>by
  refine J.pins_of λp hp=>?_
  rcases List.mem_cons.mp hp with rfl|hp
  ·refine⟨hf,?_,Nat.ne_of_gt (Nat.lt_of_lt_of_le I.lt hz),I.nofs hz,hd⟩
   cases z:H' h'.objs.size with
   |none=>rfl
   |some u=>exact absurd (hu _ _ z) (Nat.lt_irrefl _)
  ·exact J.pin p (List.mem_append_right _ hp)
 cases hca:codeAmong pos ps.toList with
 |some cv =>
  refine PySem.W.kla_makeFunctionHit hcl I.ok.glob hg hc CH gP ht.1 hca hb λctv h' tk hk hz=>?_
  have J:Inv X pins σ H { s with heap:=h'.push (Qw q params body scope cl ((X.mg "__name__").getD .none) cv ctv),toks:=tk }:=I.kept λb u e=>Heap.get?_push_of_some _ (hk b u e)
  exact h _ _ _ _ H _ (pin J hz (λb u e=>Nat.lt_of_lt_of_le (I.hok.lt e) hz) (λv z=>by cases z) (Heap.get?_push_size _ rfl)) M .refl (ht.2 pos cv hca)
 |none =>
  refine PySem.W.kla_makeFunction hcl I.ok.glob hg hc CH gP ht.1 hca hgP hb λc' ctv h' tk hx hge hlt hrec htb=>?_
  obtain⟨c₂,oc,vs,t,e2,hoc,hd,hv⟩:=hrec
  cases e2
  have hne:c'≠P:=λz=>by
   have:=Heap.lt_size gP
   rw[<-z]at this
   exact absurd (Nat.lt_of_lt_of_le this hge) (Nat.lt_irrefl _)
  have hf:H c'=none:=I.hok.fresh hge
  have hz:s.heap.objs.size<=h'.objs.size:=Nat.le_trans hge (Nat.le_of_lt hlt)
  have nP:∀{b:Addr},H b=none->b≠P:=λe z=>by rw[z,hps]at e;cases e
  have nc:∀{b:Addr}{u:HO},H b=some u->b≠c':=λe z=>by rw[z,hf]at e;cases e
  generalize hH':upd (upd H P (.tbl (ps++#[rawInt pos.line,rawInt pos.col,.ref c']))) c' (.frz oc (.own 0))=H'
  have at_c:H' c'=some (.frz oc (.own 0)):=by rw[<-hH',Z8]
  have at_P:H' P=some (.tbl (ps++#[rawInt pos.line,rawInt pos.col,.ref c'])):=by rw[<-hH',Zw (Ne.symm hne),Z8]
  have at_o:∀{b:Addr},b≠P->b≠c'->H' b=H b:=λh1 h2=>by rw[<-hH',Zw h2,Zw h1]
  have kp:∀b o,b≠P->s.heap.get? b=some o->(h'.push (Qw q params body scope cl ((X.mg "__name__").getD .none) (.ref c') ctv)).get? b=some o:=λb o hb e=>Heap.get?_push_of_some _ (hx b o hb e)
  have kH:∀b u,H b=some u->b≠P->H' b=some u:=λb u e z=>by rw[at_o z (nc e)];exact e
  have nT:∀{b:Addr}{u:HO},H b=some u->(∀qs,u≠.tbl qs)->b≠P:=λe z y=>by rw[y,hps]at e;cases e;exact z _ rfl
  have un:Un X.fs [] H H' s.heap (h'.push (Qw q params body scope cl ((X.mg "__name__").getD .none) (.ref c') ctv)):=
   ⟨λb o e n _ _=>kp b o (nP n) e,λb o e n _ _=>⟨o.slots,kp b o (nP n) e⟩,λb o e n _=>by
     rw[at_o (nP n) λz=>absurd (Nat.lt_of_lt_of_le (Heap.lt_size e) hge) (by rw[z];exact Nat.lt_irrefl _)];exact n,
    λb o e _=>by
     by_cases hb:b=P
     ·exact⟨_,by rw[hb];exact Heap.get?_push_of_some _ htb⟩
     ·exact⟨o,kp b o hb e⟩,
    λb xs e=>kH _ _ e (nT e λ_ z=>by cases z),λb o u e=>kH _ _ e (nT e λ_ z=>by cases z),λb qs e=>by
     by_cases hb:b=P
     ·rw[hb]at e ⊢
      rw[hps]at e;cases e
      exact⟨_,at_P⟩
     ·exact⟨#[],by rw[kH _ _ e hb];simp⟩⟩
  have hok:HOk X.prog X.w H' (h'.push (Qw q params body scope cl ((X.mg "__name__").getD .none) (.ref c') ctv)):=λb u e=>by
   by_cases hb:b=P
   · subst hb
     rw[at_P]at e;cases e
     exact Heap.get?_push_of_some _ htb
   · by_cases hbc:b=c'
     ·subst hbc
      rw[at_c]at e;cases e
      exact⟨Heap.get?_push_of_some _ hoc,_,Heap.get?_push_of_some _ hoc⟩
     ·rw[at_o hb hbc]at e
      refine(I.hok b u e).stay (λb' v hb' e'=>kp b' v ?_ e') (λb' e'=>kH _ _ e' (nT e' λ_ z=>by cases z)) λb' xs e'=>kH _ _ e' (nT e' λ_ z=>by cases z)
      rcases hb' with rfl|hb'
      ·exact hb
      ·exact nT hb' λ_ z=>by cases z
  have J:Inv X pins σ H' { s with heap:=h'.push (Qw q params body scope cl ((X.mg "__name__").getD .none) (.ref c') ctv),toks:=tk }:=I.un un hok
  have x:Ext cm m H cm m H':=⟨λ_ _ e=>e,Nat.le_refl _,λ_ _ e=>e,λb u e n=>⟨by
   by_cases hb:b=P
   · subst hb
     rw[hps]at e;cases e
     exact⟨_,at_P⟩
   · exact .of (kH _ _ e hb),n⟩⟩
  have frz:∀a o u,H a=some (.frz o u)->H' a=some (.frz o u):=λa o u e=>kH _ _ e (nT e λ_ z=>by cases z)
  have M':MemR X.K cm m H':=⟨M.len,M.inj,λi p e=>by
   obtain⟨a,us,h1,h2,h3,h4⟩:=M.at' i p e
   exact⟨a,us,h1,kH _ _ h2 (nT h2 λ_ z=>by cases z),h3,Zf (λ_ _ z=>z.extM x M) h4⟩,λq' P' hT'=>by
   by_cases hb:P'=P
   · subst hb
     obtain rfl:=LK.uniq _ _ _ hT hT'
     refine⟨_,at_P,?_,λpos' cv e=>?_⟩
     ·simpa using TriplesOk_snoc pos.line pos.col (.ref c') ps.toList ht.1
     ·rcases Zej _ ht.1 (by simpa using e)with e|e
      ·exact(ht.kept frz).2 pos' cv e
      ·exact⟨c',oc,vs,t,_,e,at_c,hd,hv⟩
   · obtain⟨qs,h1,h2⟩:=M.tab q' P' hT'
     exact⟨qs,kH _ _ h1 hb,h2.kept frz⟩⟩
  refine h _ _ _ _ H' _ (pin J hz (λb u e=>?_) (λv z=>by cases z) (Heap.get?_push_size _ rfl)) M' x ⟨c',oc,vs,t,_,rfl,at_c,hd,hv⟩
  by_cases hb:b=P
  ·rw[hb];exact Heap.lt_size htb
  ·by_cases hbc:b=c'
   · rw[hbc];exact hlt
   · rw[at_o hb hbc]at e
     exact Nat.lt_of_lt_of_le (I.hok.lt e) hz
noncomputable abbrev ZbU(X:Cx)(N':List Str)(q:Str)(scope:Scope)(cl:List (Str×Addr))(f:Addr)(cv:Value)(s:Shared)(H:Hp):Cx:=
 { X with A:=X.A.in1.in1.deeper (envX (lamQ q) scope s.heap.objs.size f cv cl),N:=N',s₀:=s,H₀:=H,env:=envX (lamQ q) scope s.heap.objs.size f cv cl,outer:=X.stack,stack:=envX (lamQ q) scope s.heap.objs.size f cv cl::X.stack,ex:=[],fn:=λ_=>false,pn:=[],xe:=λ_ _=>False }
structure LamSc (X:Cx) (y:Str) (scope:Scope):Prop where
 kind:scope.kind=.function
 co:scope.isCoroutine=false
 gen:scope.isGenerator=false
 nocell:∀x∈scope.names,x.2≠.cell
 par:scope.names.lookup y=some .local
 look:∀p∈scope.names,scope.names.lookup p.1=some p.2
 free:∀x,(x,NameKind.free)∈scope.names->X.env.kindOf x=some .cell∨X.env.kindOf x=some .free
noncomputable def stK(keep:List Nat)(σ:L2.St):L2.St:=keep.map λi=>(σ[i]?).join
theorem Zhf{pins:List (Addr×Obj)}{s:Shared}{σ:L2.St}{H:Hp}{y:Str}{N':List Str}{keep:List Nat}{cl:List (Str×Addr)}{f:Addr}{pm cv ct x:Value}{v:V}{t:TE}{Q:VK}(I:Inv X ((f,Qw q params body scope cl pm cv ct)::pins) σ H s)(S:LamSc X y scope)(cf:Zem H cv (lamQ q))(hcl1:∀x c,cl.lookup x=some c->X.env.cells.lookup x=some c)(hcl2:∀x,(x,NameKind.free)∈scope.names->∃c,cl.lookup x=some c)(hroom:X.A.depth<recursionLimit)(hbind:bindArgs (kla_fn "<lambda>" (lamQ q) params body scope cl pm cv ct) ⟨[x],[]⟩=pure [(y,x)])(rx:RelV v x)(hy:N'[0]?=some y)(hown:N'.length=1+keep.length)(hkeep:∀(i:Nat) x,N'[1+i]?=some x->∃j,keep[i]?=some j/\X.N[j]?=some x/\(x,NameKind.free)∈scope.names)(hb:PE (ZbU X N' q scope cl f cv s H) body t)(ht:t (some v::stK keep σ) H Q):
  wpAny (model X.prog X.w) X.A.in1.in1 (call (.ref f) [x]) (λu s'=>CE X.stack X.prog X.w H s Q u s') (λ_ _=>False) s:=by
 have hp:=I.pin (f,Qw q params body scope cl pm cv ct) (List.mem_append_right _ List.mem_cons_self)
 refine wpAny_call (codeAny_mono (R:=λr s'=>∃u,r=.ok (.ret u)/\CE X.stack X.prog X.w H s Q u s') (PySem.W.kla_callFunE (A:=X.A.in1.in1) hroom hp.1 rfl S.co S.gen rfl (cf.rec I.hok) ?_) λr s' hq=>?_)
 ·rw[hbind]
  refine wpAny_pure (wpAny_newFunctionEnv S.nocell (λz hz=>?_) (λh₁ hns hsb=>⟨I.nolimit.fresh _ hsb,?_⟩) S.kind)
  ·obtain rfl:z=(y,x):=List.mem_singleton.mp hz
   exact S.par
  show codeAny _ _ (.expr body (envX (lamQ q) scope s.heap.objs.size f cv cl)) _ _
  have hk₁:∀b o,s.heap.get? b=some o->h₁.get? b=some o:=λb o e=>hsb.extBut b o (Nat.ne_of_lt (Heap.lt_size e)) (Heap.get?_push_of_some _ e)
  have noA:∀b:Addr,b∉(ZbU X N' q scope cl f cv s H).ex:=λb z=>absurd (show b∈([]:List Addr)from z) (by simp)
  have J:Inv (ZbU X N' q scope cl f cv s H) [] (some v::stK keep σ) H { s with heap:=h₁,toks:=s.toks+1 }:=by
   refine⟨⟨I.ok.mod,S.kind,rfl,rfl,Nat.le_refl _,λa b c h1 h2=>I.ok.inj a b c (hcl1 a c h1) (hcl1 b c h2),λz hz=>?_,λz c h1 _=>(by cases h1),I.ok.hd,Around.frames_deeper I.ok.frames,.inr ⟨rfl,rfl⟩,λb z=>absurd z (noA b),I.bs,Nat.le_trans I.ok.bsz I.sz,λb _ _=>noA b,λb z=>absurd z (noA b),I.stack,I.stkFree⟩,
    rfl,I.bare,Un.kept hk₁,⟨_,hns,λi z u h1 h2 h3=>?_⟩,λz c h=>?_,I.hok.fresh (Nat.le_refl _),λz c h=>I.freeC z c (hcl1 z c h),λp hp=>absurd (show p∈([]:List (Addr×Obj))from hp) (by simp),I.hok.kept hk₁,?_⟩
   ·have hz:scope.names.lookup z=some .cell∨scope.names.lookup z=some .free:=hz
    rcases hz with hz|hz
    ·exact absurd rfl (S.nocell _ (PySem.mem_of_lookup hz))
    ·exact hcl2 z (PySem.mem_of_lookup hz)
   ·cases i with
    |zero =>
     have e1:z=y:=by rw[show(ZbU X N' q scope cl f cv s H).N[0]?=N'[0]? from rfl,hy]at h1;exact(Option.some.inj h1).symm
     have e2:u=v:=by have h2:some (some v)=some (some u):=h2;cases h2;rfl
     subst e1;subst e2
     exact⟨x,rx,.inl ⟨S.par,by simp⟩⟩
    |succ i =>
     obtain⟨j,q1,q2,q3⟩:=hkeep i z (by rw[Nat.add_comm];exact h1)
     have h2:(stK keep σ)[i]?=some (some u):=h2
     unfold stK at h2
     rw[List.getElem?_map,q1]at h2
     have e3:(σ[j]?).join=some u:=Option.some.inj h2
     have e4:σ[j]?=some (some u):=by
      cases r:σ[j]? with
      |none=>rw[r]at e3;cases e3
      |some o=>rw[r]at e3;exact congrArg some e3
     obtain⟨m0,hn0,hl0⟩:=I.loc
     have kx:=S.free z q3
     obtain⟨w,ru,lu⟩:=hl0 j z u q2 e4 (kx.elim (λz=>.inr (.inl z)) λz=>.inr (.inr z))
     obtain⟨c,ec,ic⟩:∃c,X.env.cells.lookup z=some c/\s.heap.IsCell c (some w):=by
      rcases lu with⟨r,_⟩|⟨_,c,r1,r2⟩
      ·rcases kx with k|k<;>· rw[k]at r;cases r
      ·exact⟨c,r1,r2⟩
     obtain⟨c',ec'⟩:=hcl2 z q3
     obtain rfl:c'=c:=by have:=hcl1 z c' ec';rw[ec]at this;exact(Option.some.inj this).symm
     obtain⟨o,ho,hd⟩:=ic
     exact⟨w,ru,.inr ⟨.inr (S.look _ q3),c',ec',o,hk₁ _ _ ho,hd⟩⟩
   ·obtain⟨w,o,ho,hd⟩:=I.cell z c (hcl1 z c h)
    exact⟨w,o,hk₁ _ _ ho,hd⟩
   ·show(some v::stK keep σ).length=N'.length
    unfold stK
    rw[List.length_cons,List.length_map,hown,Nat.add_comm]
  refine PySem.W.kla_codeExpr (wpAny_mono (hb [] _ _ H Q J ht) (λu s' ⟨v',H',J',rv,qv⟩=>⟨u,rfl,v',H',J'.os,J'.bare,J'.base,J'.hok,rv,qv⟩) λ_ _ z=>z.elim)
 ·obtain⟨u,rfl,hc⟩:=hq
  exact hc
end
theorem Zao(x:List Int×T):∀l:List (List Int×T),(insK x l).Perm (x::l)
 |[]=>.refl _
 |y::r=>by
  rw[insK]
  split
  ·exact((Zao x r).cons y).trans (.swap _ _ _)
  ·exact .refl _
theorem J9:∀xs:List (List Int×T),(ZaF xs).Perm xs
 |[]=>.refl _
 |x::r=>(Zao x _).trans ((J9 r).cons x)
theorem ZfD(x:List Int×T):∀{l:List (List Int×T)},l.Pairwise (λa b=>lexI b.1 a.1=false)->(insK x l).Pairwise (λa b=>lexI b.1 a.1=false)
 |[],_=>List.pairwise_singleton _ _
 |y::r,h=>by
  rw[insK]
  obtain⟨h1,h2⟩:=List.pairwise_cons.mp h
  split
  ·rename_i q
   refine List.pairwise_cons.mpr ⟨λz hz=>?_,ZfD x h2⟩
   rcases List.mem_cons.mp ((Zao x r).mem_iff.mp hz)with rfl|hz
   ·exact QQ q
   ·exact h1 z hz
  ·rename_i q
   have q:lexI y.1 x.1=false:=by simpa using q
   refine List.pairwise_cons.mpr ⟨λz hz=>?_,h⟩
   rcases List.mem_cons.mp hz with rfl|hz
   ·exact q
   ·exact Ja q (h1 z hz)
theorem ZcW:∀xs:List (List Int×T),(ZaF xs).Pairwise (λa b=>lexI b.1 a.1=false)
 |[]=>.nil
 |x::r=>ZfD x (ZcW r)
theorem JN{α β:Type}:∀{xs:List (α×β)},(xs.map (·.1)).Nodup->∀{a b:α×β},a∈xs->b∈xs->a.1=b.1->a=b
 |[],_,_,_,h,_,_=>by cases h
 |x::xs,hn,a,b,ha,hb,e=>by
  obtain⟨h1,h2⟩:=List.nodup_cons.mp (show(x.1::xs.map (·.1)).Nodup from hn)
  rcases List.mem_cons.mp ha with z1|z1
  ·rcases List.mem_cons.mp hb with z2|z2
   ·rw[z1,z2]
   ·exact(h1 (List.mem_map.mpr ⟨b,z2,by rw[<-z1];exact e.symm⟩)).elim
  ·rcases List.mem_cons.mp hb with z2|z2
   ·exact(h1 (List.mem_map.mpr ⟨a,z1,by rw[<-z2];exact e⟩)).elim
   ·exact JN h2 z1 z2 e
theorem Zgu{xs ys:List (List Int×T)}(hn:(xs.map (·.1)).Nodup)(hp:ys.Perm xs)(hw:ys.Pairwise (λa b=>lexI b.1 a.1=false)):ys=ZaF xs:=
 List.Perm.eq_of_pairwise (λa b ha hb h1 h2=>JN hn (hp.mem_iff.mp ha) ((J9 xs).mem_iff.mp hb) (Jo h2 h1)) hw (ZcW xs) (hp.trans (J9 xs).symm)
theorem ZeZ{α β:Type}(f:α->β){out ys:List β}(h:out.Perm ys):∀l:List α,ys=l.map f->∃l':List α,l'.Perm l/\out=l'.map f:=by
 induction h with
 |nil =>
  intro l e
  cases l with
  |nil=>exact⟨[],.nil,rfl⟩
  |cons=>cases e
 |cons x _ ih =>
  intro l e
  cases l with
  |nil=>cases e
  |cons a l =>
   injection e with e1 e2
   obtain⟨l',p,q⟩:=ih l e2
   exact⟨a::l',p.cons a,by rw[q,e1];rfl⟩
 |swap x y r =>
  intro l e
  cases l with
  |nil=>cases e
  |cons a l =>
   cases l with
   |nil=>cases e
   |cons b l =>
    injection e with e1 e2
    injection e2 with e2 e3
    exact⟨b::a::l,.swap _ _ _,by rw[e1,e2,e3];rfl⟩
 |trans _ _ ih1 ih2 =>
  intro l e
  obtain⟨l2,p2,q2⟩:=ih2 l e
  obtain⟨l1,p1,q1⟩:=ih1 l2 q2
  exact⟨l1,p1.trans p2,q1⟩
theorem ZbQ{f:Env->Mem->Res W}{kept:Env}:∀{ts:List T}{m m':Mem}{ks:List (List Int)},JR f kept ts m=.ok ks m'->ks.length=ts.length
 |[],_,_,_,h=>by cases h;rfl
 |t::ts,m,m',ks,h=>by
  rw[JR]at h
  obtain⟨w,m1,_,h⟩:=Zq h
  cases q:keyL w with
  |none=>rw[q]at h;cases h
  |some k =>
   rw[q]at h
   obtain⟨ks',m2,h1,h2⟩:=Zq h
   cases h2
   rw[List.length_cons,List.length_cons,ZbQ h1]
noncomputable def KR(cm:List Addr)(m:Mem)(H:Hp)(k:List Int)(v:Value):Prop:=∃a,v=.ref a/\H a=some (.lst (k.map V.int))/\Zo cm m a
noncomputable def kfH(H:Hp)(v:Value):List Int:=match v with
 |.ref a=>match H a with
  |some (.lst us)=>us.filterMap λu=>match u with
   |.int i=>some i
   |_=>none
  |_=>[]
 |_=>[]
theorem Zfv{cm:List Addr}{m:Mem}{H:Hp}{k:List Int}{v:Value}(h:KR cm m H k v):kfH H v=k:=by
 obtain⟨a,rfl,e,_⟩:=h
 unfold kfH
 dsimp only
 rw[e]
 dsimp only
 rw[List.filterMap_map]
 exact List.filterMap_some
theorem KR.li{P:Program}{w:World}{cm:List Addr}{m:Mem}{H:Hp}{h:Heap}{k:List Int}{v:Value}(x:KR cm m H k v)(ok:HOk P w H h):LI h v k:=by
 obtain⟨a,rfl,e,_⟩:=x
 obtain⟨_,its,n,r,q⟩:=ok a _ e
 exact⟨a,its.toArray,n,rfl,q,by simpa using Zam r⟩
theorem Zfx{w:W}{k:List Int}(h:keyL w=some k):w=.t (.lst (k.map .int)):=by
 cases w with
 |t x =>
  cases x with
  |lst us=>rw[Zcw (show ints? us=some k from h)]
  |_=>cases h
 |_=>cases h
theorem XM{α β:Type}:∀{as:List α}{bs:List β},as.length=bs.length->(as.zip bs).map (·.1)=as
 |[],[],_=>rfl
 |a::as,b::bs,h=>by rw[List.zip_cons_cons,List.map_cons,XM (by simpa using h)]
 |[],_::_,h=>by cases h
 |_::_,[],h=>by cases h
theorem ZcN{α β:Type}:∀{as:List α}{bs:List β},as.length=bs.length->(as.zip bs).map (·.2)=bs
 |[],[],_=>rfl
 |a::as,b::bs,h=>by rw[List.zip_cons_cons,List.map_cons,ZcN (by simpa using h)]
 |[],_::_,h=>by cases h
 |_::_,[],h=>by cases h
theorem Zgl{α β:Type}{as:List α}{bs:List β}{p:α×β}(h:p∈as.zip bs):∃i:Nat,as[i]?=some p.1/\bs[i]?=some p.2:=by
 obtain⟨i,hi,e⟩:=List.getElem_of_mem h
 rw[List.getElem_zip]at e
 rw[List.length_zip]at hi
 exact⟨i,by rw[<-e];exact List.getElem?_eq_getElem (by omega),by rw[<-e];exact List.getElem?_eq_getElem (by omega)⟩
theorem ZaK{K:Frag}{cm:List Addr}{m:Mem}{H:Hp}{α:Type}{f:α->T}{g:α->Value}:∀(l:List α),(∀z∈l,∃v,RT K cm m H (f z) v/\RelV v (g z))->∃vs,RTs K cm m H (l.map f) vs/\Vals vs (l.map g)
 |[],_=>⟨[],.nil,.nil⟩
 |z::l,h=>by
  obtain⟨v,h1,h2⟩:=h z List.mem_cons_self
  obtain⟨vs,h3,h4⟩:=ZaK l λz hz=>h z (List.mem_cons_of_mem _ hz)
  exact⟨v::vs,.cons h1 h3,.cons h2 h4⟩
section
variable{xr:XR}{X:Cx}{call:Nat->List W->Mem->Res W}{gv:List T}{params:Arguments}{body:Expr}{scope:Scope}{q:Str}
theorem ZeB{pins:List (Addr×Obj)}{s:Shared}{σ:L2.St}{H:Hp}{cm:List Addr}{m m':Mem}{env:Env}{y:Str}{N':List Str}{keep:List Nat}{cl:List (Str×Addr)}{f l:Addr}{pm cv ct:Value}{eb:E}{ts:List T}{vs:List V}{kI:List (List Int)}{Q E:Value->Shared->Prop}(I:Inv X ((f,Qw q params body scope cl pm cv ct)::pins) σ H s)(S:LamSc X y scope)(cf:Zem H cv (lamQ q))(hcl1:∀x c,cl.lookup x=some c->X.env.cells.lookup x=some c)(hcl2:∀x,(x,NameKind.free)∈scope.names->∃c,cl.lookup x=some c)(hdp:X.A.depth<recursionLimit)(hun:X.A.units+64<cLine)(hbind:∀x,bindArgs (kla_fn "<lambda>" (lamQ q) params body scope cl pm cv ct) ⟨[x],[]⟩=pure [(y,x)])(hy:N'[0]?=some y)(hown:N'.length=1+keep.length)(hkeep:∀(i:Nat) x,N'[1+i]?=some x->∃j,keep[i]?=some j/\X.N[j]?=some x/\(x,NameKind.free)∈scope.names)(hb:∀s H,PE (ZbU X N' q scope cl f cv s H) body (tE X.K call gv xr0 eb))(hE:EnvR X.K cm m H env σ)(M:MemR X.K cm m H)(h1:H l=some (.lst vs))(r1:RTs X.K cm m H ts vs)(ok:JR (λenv m=>ev call gv eb env m) (keep.map λi=>(env[i]?).join) ts m=.ok kI m')(hn:kI.Nodup)(fin:∀(D:Addr) (H':Hp) (cm':List Addr) (s':Shared) (us:List V),Inv X pins σ (upd H' D (.lst us)) s'->H' D=none->X.K.lookup D=none->Ext cm m H cm' m' H'->MemR X.K cm' m' H'->RTs X.K cm' m' H' ((ZaF (kI.zip ts)).map (·.2)) us->Q (.ref D) s'):
  wpAny (model X.prog X.w) X.A (PySem.call (.builtin "sorted") [.ref l] [(Str.ofString "key",.ref f)]) Q E s:=by
 obtain⟨its,rv,pl,hz⟩:=I.list (.of h1)
 have lv:vs.length=its.length:=rv.length
 have lt:ts.length=vs.length:=r1.length
 have lk:=ZbQ ok
 refine Ts.sk_call pl.isList (by omega) λD kS e1 h' hD hDS gD gS kp=>?_
 have hS:s.heap.objs.size<=kS:=Nat.le_trans hD (Nat.le_of_lt hDS)
 have nF:∀{b:Addr},s.heap.objs.size<=b->b∉frs X.stack:=λ{b} hb z=>by
  rcases List.mem_cons.mp (I.stkSub b z)with e|e
  ·exact absurd I.lt (by rw[<-e];exact Nat.not_lt.mpr hb)
  ·exact I.nofs hb e
 have turn:∀{b:Addr}{H1:Hp}{s1:Shared}{g:Obj->Obj},s.heap.objs.size<=b->H1 b=none->Inv X ((f,Qw q params body scope cl pm cv ct)::pins) σ H1 s1->Inv X ((f,Qw q params body scope cl pm cv ct)::pins) σ H1 { s1 with heap:=s1.heap.update b g }:=λ{b H1 s1 g} hb hn1 J=>by
  have fp:=I.fpOk hb hn1
  exact J.turned (t':=s1.toks) (λb' o ne e=>by rw[Heap.get?_update_ne _ _ _ _ ne];exact e) hn1 fp.2.1 fp.2.2.2.1 fp.2.2.2.2.1 fp.2.2.2.2.2
 refine⟨λks s1=>∃cm1 m1 H1,Inv X ((f,Qw q params body scope cl pm cv ct)::pins) σ H1 s1/\H1 D=none/\H1 kS=none/\s1.heap.get? D=some (seqObj "list" #[] e1)/\(∃e,s1.heap.get? kS=some (seqObj "list" ks.toArray e))/\MemR X.K cm1 m1 H1/\Ext cm m H cm1 m1 H1 /\
  JR (λenv m=>ev call gv eb env m) (keep.map λi=>(env[i]?).join) (ts.drop ks.length) m1=.ok (kI.drop ks.length) m'/\Paired (KR cm1 m1 H1) (kI.take ks.length) ks,?_,?_,?_,?_⟩
 ·exact⟨cm,m,H,I.kept kp,I.hok.fresh hD,I.hok.fresh hS,gD,⟨0,gS⟩,M,.refl,ok,.nil⟩
 ·rintro ks s1 ⟨_,_,_,_,_,_,_,g,_⟩
  exact g
 ·rintro ks x r s1 hd ⟨cm1,m1,H1,I1,nD,nS,aD,⟨e,aS⟩,M1,x1,run,kr⟩
  have hi:ks.length<its.length:=by
   have:=congrArg List.length hd
   rw[List.length_drop,List.length_cons]at this
   omega
  have ex:its[ks.length]?=some x:=by
   have:=congrArg (·[0]?) hd
   simpa using this
  obtain⟨t,et⟩:∃t,ts[ks.length]?=some t:=⟨_,List.getElem?_eq_getElem (by omega)⟩
  obtain⟨v,ev',rt⟩:=Zt r1 et
  obtain⟨x',ex',rx⟩:=rv.get ev'
  rw[ex]at ex';cases ex'
  have edr:ts.drop ks.length=t::ts.drop (ks.length+1):=by
   rw[List.drop_eq_getElem_cons (show ks.length<ts.length by omega)]
   rw[List.getElem?_eq_getElem (by omega)]at et
   rw[Option.some.inj et]
  rw[edr,JR]at run
  obtain⟨w,m2,run1,run2⟩:=Zq run
  cases hk:keyL w with
  |none=>rw[hk]at run2;cases run2
  |some k =>
  rw[hk]at run2
  obtain⟨ks',m3,run3,run4⟩:=Zq run2
  injection run4 with e4 e5
  subst e5
  have ekd:kI.drop (ks.length+1)=ks':=by
   rw[<-List.drop_drop,<-e4]
   rfl
  have ekt:kI.take (ks.length+1)=kI.take ks.length++[k]:=by
   have hlt:ks.length<kI.length:=by omega
   have:kI[ks.length]?=some k:=by
    have:=congrArg (·[0]?) e4
    simpa using this.symm
   rw[List.take_add_one,this]
   rfl
  have hE1:EnvR X.K cm1 m1 H1 (some (.t t)::keep.map λi=>(env[i]?).join) (some v::stK keep σ):=λi w' e'=>by
   cases i with
   |zero =>
    have e':some (some (W.t t))=some (some w'):=e'
    cases e'
    exact⟨v,rfl,rt.extM x1 M⟩
   |succ i =>
    have e':(keep.map λi=>(env[i]?).join)[i]?=some (some w'):=e'
    show ∃v,(stK keep σ)[i]?=some (some v)/\_
    unfold stK
    rw[List.getElem?_map]at e' ⊢
    cases qk:keep[i]? with
    |none=>rw[qk]at e';cases e'
    |some j =>
     rw[qk]at e'
     have e':(env[j]?).join=some w':=Option.some.inj e'
     have ej:env[j]?=some (some w'):=by
      cases qj:env[j]? with
      |none=>rw[qj]at e';cases e'
      |some o=>rw[qj]at e';exact congrArg some e'
     obtain⟨v',s1',s2'⟩:=(hE.ext x1 M M1) j w' ej
     exact⟨v',by show some ((σ[j]?).join)=_;rw[s1'];rfl,s2'⟩
  have cf1:Zem H1 cv (lamQ q):=by
   obtain⟨c,o,vs',t',u,a1,a2,a3,a4⟩:=cf
   exact⟨c,o,vs',t',u,a1,(x1.keep c _ a2 (Qc M a2 λ_ z=>by cases z)).1,a3,a4⟩
  refine thn (Zhf (Q:=λv' H'=>∃cm',Ext cm1 m1 H1 cm' m2 H'/\MemR X.K cm' m2 H'/\RW X.K cm' m2 H' w v') I1 S cf1 hcl1 hcl2 hdp (hbind x) rx hy hown hkeep (hb s1 H1) ⟨_,cm1,m1,hE1,M1,by
   rw[run1]
   exact λcm' H' x' M' v' rv'=>⟨cm',x',M',rv'⟩⟩) λu s2 hc=>?_
  obtain⟨v',H2,os,bare,un,hok,ru,cm2,x2,M2,rw2⟩:=hc
  have I2:Inv X ((f,Qw q params body scope cl pm cv ct)::pins) σ H2 s2:=I1.call' (ch:=[]) os un hok bare λb z=>absurd z (by simp)
  have aS2:=un.keep kS _ aS nS (nF hS) (by simp)
  have nS2:=un.free kS _ aS nS (by simp)
  have aD2:=un.keep D _ aD nD (nF hD) (by simp)
  have nD2:=un.free D _ aD nD (by simp)
  obtain rfl:=Zfx hk
  obtain⟨a,us,rfl,g1,g2,g3⟩:=RT.ilst (show RT X.K cm2 m2 H2 (.lst (k.map .int)) v' from rw2)
  cases RTs.intsV g3
  cases ru
  refine⟨e,aS2,cm2,m2,H2,turn hS nS2 I2,nD2,nS2,by rw[Heap.get?_update_ne _ _ _ _ (Nat.ne_of_lt hDS)];exact aD2,⟨_,(get?_update_seq aS2 (·.push (Value.ref a))).trans (by rw[List.push_toArray])⟩,M2,x1.trans x2,?_,?_⟩
  ·rw[List.length_append,List.length_singleton,run3,ekd]
  ·rw[List.length_append,List.length_singleton,ekt]
   refine ZC (Zf (λk v h=>?_) kr) (.cons ⟨a,rfl,g1,g2⟩ .nil)
   obtain⟨b,rfl,b1,b2⟩:=h
   exact⟨b,rfl,(x2.keep b _ b1 b2).1,(x2.keep b _ b1 b2).2⟩
 ·rintro ks s1 hl ⟨cm1,m1,H1,I1,nD,nS,aD,⟨e,aS⟩,M1,x1,run,kr⟩
  have ekl:kI.length=ks.length:=by omega
  rw[List.drop_eq_nil_of_le (by omega),List.drop_eq_nil_of_le (by omega)]at run
  injection run with _ em
  subst em
  rw[List.take_of_length_le (by omega)]at kr
  have kv:∀v∈ks,LI s1.heap v (kfH H1 v):=λv hv=>by
   obtain⟨i,hi,e'⟩:=List.getElem_of_mem hv
   have:=Z0 kr i kI[i] v (List.getElem?_eq_getElem (by omega)) (by rw[<-e'];exact List.getElem?_eq_getElem hi)
   rw[Zfv this]
   exact this.li I1.hok
  have kz:(ks.map (kfH H1))=kI:=by
   refine List.ext_getElem (by rw[List.length_map];omega) λi h1 h2=>?_
   rw[List.getElem_map]
   exact Zfv (Z0 kr i kI[i] _ (List.getElem?_eq_getElem h2) (List.getElem?_eq_getElem (by omega)))
  have nk:(ks.zip its).map (·.1)=ks:=XM hl
  have hzn:((ks.zip its).map (λp=>kfH H1 p.1)).Nodup:=by
   have:(ks.zip its).map (λp=>kfH H1 p.1)=((ks.zip its).map (·.1)).map (kfH H1):=by rw[List.map_map];rfl
   rw[this,nk,kz]
   exact hn
  have inj:∀a∈ks.zip its,∀b∈ks.zip its,kfH H1 a.1=kfH H1 b.1->a=b:=λa ha b hb' e'=>by
   have:=JN (xs:=(ks.zip its).map λp=>(kfH H1 p.1,p)) (by rw[List.map_map];exact hzn) (List.mem_map.mpr ⟨a,ha,rfl⟩) (List.mem_map.mpr ⟨b,hb',rfl⟩) e'
   exact(Prod.mk.inj this).2
  refine⟨oneType',λa b=>lexI (kfH H1 a.1) (kfH H1 b.1),?_,λh2 E' Q' hq=>ZdY (λv hv=>⟨_,kv v hv⟩) (by omega) hq,ZfZ kv inj (by show X.A.units+1+1<cLine;omega),aD,λout hp hs=>?_⟩
  ·exact(List.pairwise_map.mp hzn).imp λh z=>h (by rw[z])
  ·have lz:(ks.zip its).length=(kI.zip ts).length:=by rw[List.length_zip,List.length_zip];omega
   obtain⟨Z,pz,ez⟩:=ZeZ (·.1) hp ((ks.zip its).zip (kI.zip ts)) (XM lz).symm
   have mem:∀z∈Z,kfH H1 z.1.1=z.2.1/\∃v,RT X.K cm1 m1 H1 z.2.2 v/\RelV v z.1.2:=λz hz=>by
    obtain⟨i,i1,i2⟩:=Zgl (pz.mem_iff.mp hz)
    obtain⟨j,j2⟩:=List.getElem?_eq_some_iff.mp i1
    obtain⟨k,k1⟩:=List.getElem?_eq_some_iff.mp i2
    rw[List.getElem_zip]at j2
    rw[List.getElem_zip]at k1
    rw[List.length_zip]at j k
    have a1:=Z0 kr i kI[i] ks[i] (List.getElem?_eq_getElem (by omega)) (List.getElem?_eq_getElem (by omega))
    have hiT:i<ts.length:=by omega
    obtain⟨v,v1,v2⟩:=Zt r1 (List.getElem?_eq_getElem hiT)
    obtain⟨u,u1,u2⟩:=rv.get v1
    have hiI:i<its.length:=by omega
    rw[List.getElem?_eq_getElem hiI]at u1
    cases u1
    rw[<-j2,<-k1]
    exact⟨Zfv a1,v,v2.extM x1 M,u2⟩
   have es:Z.map (·.2)=ZaF (kI.zip ts):=by
    refine Zgu (by rw[XM (by omega)];exact hn) ?_ ?_
    ·have:=pz.map (·.2)
     rw[ZcN lz]at this
     exact this
    ·refine List.pairwise_map.mpr ?_
     unfold Ts.Srt at hs
     rw[ez]at hs
     refine(List.pairwise_map.mp hs).imp_of_mem λ{a b} ha hb' h=>?_
     dsimp only at h
     rw[(mem a ha).1,(mem b hb').1]at h
     exact h
   obtain⟨us,u1,u2⟩:=ZaK (f:=λz=>z.2.2) (g:=λz=>z.1.2) Z λz hz=>(mem z hz).2
   have e1':(ZaF (kI.zip ts)).map (·.2)=Z.map λz=>z.2.2:=by rw[<-es,List.map_map];rfl
   have e2':out.map (·.2)=Z.map λz=>z.1.2:=by rw[ez,List.map_map];rfl
   have lz2:us.length=its.length:=by
    rw[u2.length,List.length_map,pz.length_eq,List.length_zip,List.length_zip,List.length_zip]
    omega
   rw[e2']
   have J2:=turn (g:=Obj.mapSeq λ_=>(Z.map λz=>z.1.2).toArray) hD nD (turn (g:=Obj.mapSeq λ_=>(#[]:Array Value)) hS nS I1)
   have aD1:(s1.heap.update kS (Obj.mapSeq λ_=>(#[]:Array Value))).get? D=some (seqObj "list" #[] e1):=by rw[Heap.get?_update_ne _ _ _ _ (Nat.ne_of_lt hDS)];exact aD
   have J3:=Inv.adopt J2 (I.fpOk hD nD) (vs:=us) ⟨by omega,_,_,u2,get?_update_seq aD1 λ_=>(Z.map λz=>z.1.2).toArray⟩
   refine fin D H1 cm1 _ us (J3.pins_of λp hp=>J3.pin p (List.mem_append_right _ (List.mem_cons_of_mem _ hp))) nD ?_ x1 M1 (by rw[e1'];exact u1)
   cases qk:X.K.lookup D with
   |none=>rfl
   |some o=>exact absurd (Heap.lt_size (I.kIn D o qk)) (Nat.not_lt.mpr hD)
noncomputable def fSk(call:Nat->List W->Mem->Res W)(gv:List T)(keep:List Nat)(eb:E)(env:Env)(x:W)(m:Mem):Res W:=match view x m with
 |some (.lst ts)=>(JR (λenv m=>ev call gv eb env m) (keep.map λi=>(env[i]?).join) ts m).only.bind λks m=>pur (Xm ks ts) m
 |_=>.stuck
theorem Ze0{e:Expr}{ea eb:E}{y:Str}{N':List Str}{keep:List Nat}{p pl kp pos:Pos}(hdp:X.A.depth<recursionLimit)(hun:X.A.units+64<cLine)(LK:LamK X.K)(hq:X.env.qual=q++".<locals>.")(hn:Qq.contains q=true)(hcd:codeIn X.K X.env.code q=true)(hg:Gl X "sorted")(hm:X.mg "sorted" = none)(S:LamSc X y scope)(hdef:defaultsOf params X.env=([],[]))(hbind:∀cl pm cv ct x,bindArgs (kla_fn "<lambda>" (lamQ q) params body scope cl pm cv ct) ⟨[x],[]⟩=pure [(y,x)])(hy:N'[0]?=some y)(hown:N'.length=1+keep.length)(hkeep:∀(i:Nat) x,N'[1+i]?=some x->∃j,keep[i]?=some j/\X.N[j]?=some x/\(x,NameKind.free)∈scope.names)(ha:PE X e (tE X.K call gv xr ea))(he:notStar e=true)(hb:∀cl f cv s H,PE (ZbU X N' q scope cl f cv s H) body (tE X.K call gv xr0 eb)):
  PE X (.Call (.Name "sorted" p) [e] [⟨some "key",.Lambda params body scope pl,kp⟩] pos) (tE X.K call gv xr (.sortk keep ea eb)):=by
 rintro pins s σ H Q I ⟨env,cm,m,hE,M,ho⟩
 have ho:OkR X.K ((ev call gv ea env m).bind (fSk call gv keep eb env)) xr cm m H (λw cm' m' H'=>∀v,RW X.K cm' m' H' w v->Q v H'):=by rw[ev]at ho;exact ho
 obtain⟨cl,hclos,hcl1,hcl2⟩:=ZaW (scope:=scope) (env:=X.env) λx hx=>I.ok.has x (S.free x hx)
 refine wpAny_Call_Name_kw (ZbS (u:=.builtin "sorted") I hg hm (by decide +kernel) ?_ (by decide) (by decide))
 have st:=Qn (env:=X.env) (es:=[]) he
 refine callWith_kw (thn ((Zbi ha Ze6 st) pos pins s σ H (λus H1=>∃v cm1 m1 x,us=[v]/\Ext cm m H cm1 m1 H1/\MemR X.K cm1 m1 H1/\RW X.K cm1 m1 H1 x v/\OkR X.K (fSk call gv keep eb env x m1) xr cm1 m1 H1 (λw cm' m' H'=>∀v,RW X.K cm' m' H' w v->Q v H')) I ⟨env,cm,m,hE,M,ho.bind.mono λx cm1 m1 H1 x1 M1 o1 v rv=>⟨v,cm1,m1,x,rfl,x1,M1,rv,o1⟩⟩) λus s1 h1=>?_) (by rw[st];rfl) (by rw[st];rfl) rfl rfl
 obtain⟨vs,H1,I1,r,v,cm1,m1,x,rfl,x1,M1,rv,o1⟩:=h1
 obtain⟨u,rfl,ru⟩:=vals1 r
 unfold fSk at o1
 cases qv:view x m1 with
 |none=>rw[qv]at o1;exact o1.elim
 |some tx =>
 rw[qv]at o1
 cases tx with
 |lst ts =>
  have o1:OkR X.K ((JR (λenv m=>ev call gv eb env m) (keep.map λi=>(env[i]?).join) ts m1).only.bind λks m=>pur (Xm ks ts) m) xr cm1 m1 H1 _:=o1
  cases ql:JR (λenv m=>ev call gv eb env m) (keep.map λi=>(env[i]?).join) ts m1 with
  |stuck=>rw[ql]at o1;exact o1.elim
  |exc _ _=>rw[ql]at o1;exact o1.elim
  |ok kI m2 =>
   rw[ql]at o1
   have o1:OkR X.K (pur (Xm kI ts) m2) xr cm1 m1 H1 _:=o1
   by_cases hc:kI.Nodup/\kI.length<=900000
   case neg =>
    unfold Xm at o1
    rw[if_neg hc]at o1
    exact o1.elim
   unfold Xm at o1
   rw[if_pos hc]at o1
   show wpAny _ _ (evalAll [do let v <-eval (.Lambda params body scope pl) X.env;standAt pos;pure v]) _ _ s1
   refine wpAny_evalAll_cons (wpAny_bind (Zhe I1 M1 LK hq hn hcd hdef hclos λf pm cv ct H2 s2 I2 M2 x2 cf=>wpAny_bind (wpAny_standAt (wpAny_pure (wpAny_evalAll_nil ?_)))))
   obtain⟨a,us,rfl,g1,g2⟩:=Zz M2 (rv.ext x2 M1 M2) qv
   cases ru
   refine ZeB I2 S cf hcl1 hcl2 hdp hun (λz=>hbind _ _ _ _ z) hy hown hkeep (λs H=>hb cl f cv s H) ((hE.ext x1 M M1).ext x2 M1 M2) M2 g1 g2 ql hc.1 λD H3 cm3 s3 us3 I3 nD kD x3 M3 r3=>?_
   refine⟨.ref D,_,I3,rfl,?_⟩
   exact OkR.to (a:=W.t (.lst ((ZaF (kI.zip ts)).map (·.2)))) o1 ((x2.trans x3).trans (Ext.new nD)) (M3.new nD) _ (RT.newLst M3 r3 nD)
 |_=>exact o1.elim
noncomputable def Zjt(scope osc:Scope)(y:Str):Bool:=scOk scope osc&&!scope.isCoroutine&&!scope.isGenerator&&(scope.names.all λp=>p.2 != .cell)&&scope.names.lookup y==some .local
theorem Zhg{y:Str}(h:Zjt scope X.env.scope y=true):LamSc X y scope:=by
 unfold Zjt at h
 simp only[Bool.and_eq_true]at h
 obtain⟨⟨⟨⟨h1,h2⟩,h3⟩,h4⟩,h5⟩:=h
 unfold scOk at h1
 rw[Bool.and_eq_true]at h1
 obtain⟨hk,h1⟩:=h1
 have h1:=List.all_eq_true.mp h1
 have h4:=List.all_eq_true.mp h4
 refine⟨eq_of_beq hk,by simpa using h2,by simpa using h3,λx hx z=>?_,eq_of_beq h5,λp hp=>?_,λx hx=>?_⟩
 ·have:=h4 x hx
  rw[z]at this
  cases this
 ·have:=h1 p hp
  simp only[Bool.and_eq_true]at this
  exact eq_of_beq this.1
 ·have:=h1 _ hx
  simp only[Bool.and_eq_true,Bool.or_eq_true]at this
  rcases this.2 with(h|h)|h
  ·cases h
  ·exact .inl (eq_of_beq h)
  ·exact .inr (eq_of_beq h)
theorem ZfA{N' N:List Str}{own:Nat}{keep:List Nat}(h2:ZbW N' N own keep scope=true):N'.length=own+keep.length/\∀(i:Nat) x,N'[own+i]?=some x->∃j,keep[i]?=some j/\N[j]?=some x/\(x,NameKind.free)∈scope.names:=by
 unfold ZbW at h2
 rw[Bool.and_eq_true]at h2
 obtain⟨hl,h2⟩:=h2
 have h2:=List.all_eq_true.mp h2
 refine⟨eq_of_beq hl,λi x e=>?_⟩
 have hlen:N'.length=own+keep.length:=eq_of_beq hl
 have hi:i<keep.length:=by
  have:=(List.getElem?_eq_some_iff.mp e).1
  omega
 have h:=h2 i (List.mem_range.mpr hi)
 rw[e]at h
 cases q:keep[i]? with
 |none=>rw[q]at h;cases h
 |some j =>
  rw[q]at h
  have h:(N[j]?==some x&&scope.names.any λp=>p.1==x&&p.2==.free)=true:=h
  rw[Bool.and_eq_true]at h
  refine⟨j,rfl,eq_of_beq h.1,?_⟩
  obtain⟨p,hp,hq⟩:=List.any_eq_true.mp h.2
  rw[Bool.and_eq_true]at hq
  rw[<-eq_of_beq hq.1]
  have:p.2=NameKind.free:=eq_of_beq hq.2
  rw[<-this]
  exact hp
theorem Ze1{e:Expr}{ea eb:E}{y:Str}{N':List Str}{keep:List Nat}{p pl kp pos:Pos}{k:Nat}(q:Str)(hr:Room k X.A)(hl:∀e,Room k (X.A.in1.in1.deeper e))(LK:LamK X.K)(hcd:codeIn X.K X.env.code q=true)(hm:X.mg "sorted" = none)(h1:Zjt scope X.env.scope y=true)(h2:ZbW (y::N') X.N 1 keep scope=true)(hg:Gl X "sorted")(hq:X.env.qual=q++".<locals>.")(hn:Qq.contains q=true)(hdef:defaultsOf params X.env=([],[]))(hbind:∀cl pm cv ct x,bindArgs (kla_fn "<lambda>" (lamQ q) params body scope cl pm cv ct) ⟨[x],[]⟩=pure [(y,x)])(he:notStar e=true)(ha:PE X e (tE X.K call gv xr ea))(hb:∀cl f cv s H,Room k (ZbU X (y::N') q scope cl f cv s H).A->PE (ZbU X (y::N') q scope cl f cv s H) body (tE X.K call gv xr0 eb)):
  PE X (.Call (.Name "sorted" p) [e] [⟨some "key",.Lambda params body scope pl,kp⟩] pos) (tE X.K call gv xr (.sortk keep ea eb)):=
 Ze0 hr.depth hr.units LK hq hn hcd hg hm (Zhg h1) hdef hbind rfl (ZfA h2).1 (ZfA h2).2 ha he λcl f cv s H=>hb cl f cv s H (hl _)
end
theorem Room.lam{k:Nat}{A:Around}(r:Room (k+1) A){e e':PySem.Env}:Room k ((A.deeper e).in1.in1.deeper e'):=
 ⟨r.hd,by have:=r.dp;show A.depth+1+1+3*k+5<_;omega,by have:=r.un;show A.units+3+1+1+3+16*k+200<_;omega⟩
theorem ZjJ{K:Frag}{fns:List Fn}{gv:List T}{k:Nat}{P:Program}{w:World}{mg:Str->Option Value}{base:Heap}{x qual:Str}{st:Stmt}{f:Addr}{fd:FuncData}{N ps:List Str}{fi np n:Nat}{body:S}{cell:Bool}(F:Fun K x qual st f fd)(S:FnScope N ps (Zd st))(hd:fns[fi]?=some ⟨np,n,body,cell⟩)(hps:np=ps.length)(hn:N.length=n)(hbody:∀(cdv:Value),codeIn K cdv qual=true->∀(A:Around) (outer:List PySem.Env) (s:Shared) (H:Hp) (E:XK),Room (k+1) A ->
   ∀(xe:Value->Shared->Prop) (pn:List (Addr×Obj)) (xr:XR),Go (asX (cxOf (CXF P w) P w K mg base N qual (Zd st) f cdv A outer s H E) xe pn) xr->Bd (asX (cxOf (CXF P w) P w K mg base N qual (Zd st) f cdv A outer s H E) xe pn) (Z6 st) (tS K (Jf fns gv k) gv xr n body)):
  FnOk P w K mg base (CXF P w) (k+1) f fd ps (spF K fns gv (k+1) fi):=by
 subst hn
 exact Zic F S hd hps rfl λcdv hcd A outer s H E hr xe pn xr go=>(hbody cdv hcd A outer s H E hr xe pn xr go).h
section
variable{xr:XR}{X:Cx}{call:Nat->List W->Mem->Res W}{gv:List T}{N':List Str}{scope:Scope}{own:Nat}{keep:List Nat}{elt target iter:Expr}{ifs:List Expr}{gs:List Comprehension}{it:E}{tg:Tg}{cs:Es}{inner:E}{pos:Pos}
theorem Zg3(hc:X.calm=true)(k:CompK X xr0 call gv N' scope own keep elt target iter ifs gs it tg cs inner):
  PE X (.ListComp elt (⟨target,iter,ifs,0⟩::gs) scope pos) (tE X.K call gv xr (.celL (.comp own keep it tg cs inner))):=by
 rintro pins s σ H Q I ⟨env,cm,m,hE,M,ho⟩
 rw[ev]at ho
 cases h:ev call gv (.comp own keep it tg cs inner) env m with
 |stuck=>rw[h]at ho;exact ho.elim
 |exc e m'=>exact absurd h (ZaV e m')
 |ok w m' =>
  obtain⟨out,rfl⟩:=Zb0 h
  rw[h]at ho
  have ho:OkR X.K (.ok (W.c m'.length) (m'++[some (false,out)])) xr cm m H (λw cm' m' H'=>∀v,RW X.K cm' m' H' w v->Q v H'):=ho
  rw[eval_ListComp]
  refine Zb1 (use:=none) hc k.sc k.hown k.hkeep (λx hx e=>by rw[k.sc.look x hx,e]) k.pi k.fs k.ins k.dis k.slt I hE M h ?_
  rintro D C s3 H3 cm3 vs I3 hD hK x3 M3 r3 ⟨mm,hm⟩ fC
  refine⟨mm,hm,λh' hs'=>?_⟩
  have I4:Inv X pins σ (upd H3 D (.lst vs)) { s3 with heap:=h' }:=I3.turned (t':=s3.toks) (it:=C) (λb o hb e=>(hs'.2 b hb).trans e) fC.1 fC.2.1 fC.2.2.2.1 fC.2.2.2.2.1 fC.2.2.2.2.2
  obtain⟨x4,M4,r4⟩:=X6 M3 r3 hD hK
  exact⟨.ref D,_,I4,rfl,OkR.to ho (x3.trans x4) M4 _ r4⟩
end
noncomputable def ZS(ps:List Addr)(K:Frag):Frag:=K.filter λp=>!ps.contains p.1
theorem Z2{ps:List Addr}{a:Addr}:∀(K:Frag),(ZS ps K).lookup a=if ps.contains a then none else K.lookup a
 |[]=>by cases ps.contains a<;>rfl
 |(b,o)::K=>by
  have ih:=Z2 (ps:=ps) (a:=a) K
  unfold ZS at ih ⊢
  rw[List.filter_cons]
  by_cases hb:a=b
  ·subst hb
   cases hc:ps.contains a with
   |true =>
    simp only[hc,Bool.not_true,Bool.false_eq_true,if_false,if_true]at ih ⊢
    exact ih
   |false=>simp only[hc,Bool.not_false,if_true,Bool.false_eq_true,if_false,List.lookup_cons,beq_self_eq_true]
  ·have e:(a==b)=false:=beq_eq_false_iff_ne.mpr hb
   rw[List.lookup_cons,e]
   cases hc:ps.contains b with
   |true =>
    simp only[hc,Bool.not_true,Bool.false_eq_true,if_false]
    exact ih
   |false =>
    simp only[hc,Bool.not_false,if_true,List.lookup_cons,e]
    exact ih
theorem JP{a:Addr}{o:Obj}:∀{K:Frag},K.lookup a=some o->(a,o)∈K
 |[],h=>by cases h
 |(b,u)::K,h=>by
  rw[List.lookup_cons]at h
  cases e:a==b with
  |true=>rw[e]at h;cases h;rw[eq_of_beq e];exact List.mem_cons_self
  |false=>rw[e]at h;exact List.mem_cons_of_mem _ (JP h)
noncomputable def Zas(o:Obj):Option Str:=match o.data with
 |.fields vs=>match vs.toList with
  |_::.str n _::_=>some n
  |_=>none
 |_=>none
noncomputable def lamB(ps:List Addr)(K:Frag):Bool:=K.all λp=>match Zas p.2 with
 |some q=>!Qq.contains q || (match QW p.2 with
  |some x=>ps.contains x.2&&codeHdIn K p.1 x.2&&K.all λp'=>match QW p'.2 with
   |some x'=>!decide (x'.2=x.2) || decide (x'.1=x.1)
   |none=>true
  |none=>false)
 |none=>true
section
variable{ps:List Addr}{K:Frag}(T:∀P∈ps,K.lookup P=some (tabObj #[]))
include T
theorem Zdg{a:Addr}{o:Obj}(l:K.lookup a=some o)(nd:o.data≠.fields #[]):(ZS ps K).lookup a=some o:=by
 rw[Z2,if_neg λz=>?_]
 ·exact l
 ·have:=T a (List.contains_iff_mem.mp z)
  rw[l]at this
  cases this
  exact nd rfl
theorem ZfJ{cd:Value}{x:Str}(e:codeIn K cd x=true):codeIn (ZS ps K) cd x=true:=by
 cases cd with
 |ref c =>
  have:(ZS ps K).lookup c=K.lookup c:=by
   rw[Z2,if_neg λz=>?_]
   have:=T c (List.contains_iff_mem.mp z)
   unfold codeIn at e
   dsimp only at e
   rw[this]at e
   cases e
  unfold codeIn at e ⊢
  dsimp only at e ⊢
  rw[this]
  exact e
 |_=>cases e
theorem ZfI{f:Addr}{oc:Value}{od:Option Addr}{fd:FuncData}{sl:Array (Option Value)}(l:K.lookup f=some ⟨oc,od,.func fd,sl⟩):keepIn (ZS ps K) (.ref f)=true:=by
 have:=Zdg T l (λz=>by cases z)
 unfold keepIn
 dsimp only
 rw[this]
omit T in
omit T in
theorem Ql{o:Obj}{q:Str}{P:Addr}(h:QW o=some (q,P)):Zas o=some q/\Qq.contains q=true:=by
 unfold QW at h
 unfold Zas
 split at h
 ·rename_i vs hd
  try rw[hd]
  try dsimp only
  split at h
  ·rename_i q' t P' h1 h2
   split at h
   ·rename_i hc
    cases h
    refine⟨?_,hc⟩
    rw[<-Array.getElem?_toList]at h1
    cases hv:vs.toList with
    |nil=>rw[hv]at h1;cases h1
    |cons a r =>
     rw[hv]at h1
     cases r with
     |nil=>cases h1
     |cons b r =>
      have h1:some b=some (Value.str q t):=h1
      cases h1
      rfl
   ·cases h
  ·cases h
 ·cases h
theorem Zh2(B:lamB ps K=true):LamK (ZS ps K):=by
 have B:=List.all_eq_true.mp B
 have at':∀{c:Addr}{o:Obj}{q:Str},(ZS ps K).lookup c=some o->Zas o=some q->Qq.contains q=true->∃x,QW o=some x/\ps.contains x.2=true/\codeHdIn K c x.2=true/\∀p∈K,∀x',QW p.2=some x'->x'.2=x.2->x'.1=x.1:=λ{c o q} l hq hn=>by
  rw[Z2]at l
  split at l
  ·cases l
  ·have b:=B (c,o) (JP l)
   dsimp only at b
   rw[hq]at b
   dsimp only at b
   rw[hn]at b
   cases hx:QW o with
   |none=>rw[hx]at b;cases b
   |some x =>
    rw[hx]at b
    simp only[Bool.not_true,Bool.false_or,Bool.and_eq_true]at b
    refine⟨x,rfl,b.1.1,b.1.2,λp hp x' hx' e=>?_⟩
    have:=List.all_eq_true.mp b.2 p hp
    rw[hx']at this
    simp only[Bool.or_eq_true,Bool.not_eq_true',decide_eq_false_iff_not,decide_eq_true_eq]at this
    exact this.resolve_left λz=>z e
 have tb:∀{q:Str}{P:Addr},Zgj (ZS ps K) q P->∃c o,(c,o)∈K/\(ZS ps K).lookup c=some o/\QW o=some (q,P):=λ⟨c,o,h1,h2,_⟩=>by
  refine⟨c,o,?_,h1,h2⟩
  rw[Z2]at h1
  split at h1
  ·cases h1
  ·exact JP h1
 refine⟨λq q' P h1 h2=>?_,λc q hc hn=>?_⟩
 ·obtain⟨c,o,m1,l1,t1⟩:=tb h1
  obtain⟨c',o',m2,l2,t2⟩:=tb h2
  obtain⟨x,e1,_,_,u⟩:=at' l1 (Ql t1).1 (Ql t1).2
  rw[t1]at e1;cases e1
  exact(u _ m2 _ t2 rfl).symm
 ·have hl:∃o,(ZS ps K).lookup c=some o/\Zas o=some q:=by
   unfold codeIn at hc
   dsimp only at hc
   split at hc
   ·rename_i vs _ ho
    refine⟨_,ho,?_⟩
    unfold Zas
    dsimp only
    split at hc
    ·rename_i n t r hv
     rw[hv]
     rw[eq_of_beq hc]
    ·cases hc
   ·cases hc
  obtain⟨o,lo,no⟩:=hl
  obtain⟨x,e1,e2,e3,_⟩:=at' lo no hn
  obtain⟨q',P⟩:=x
  obtain rfl:q'=q:=by
   have:=(Ql e1).1
   rw[no]at this
   exact(Option.some.inj this).symm
  have hP:(ZS ps K).lookup P=none:=by rw[Z2,if_pos e2]
  refine⟨P,?_,hP,c,o,lo,e1,hP⟩
  have lc:(ZS ps K).lookup c=K.lookup c:=by
   rw[Z2]at lo ⊢
   split at lo
   ·cases lo
   ·rename_i z;rw[if_neg z]
  unfold codeHdIn at e3 ⊢
  rw[lc]
  exact e3
end
theorem law_callT{P:Program}{w:World}{K:Frag}{ps:List Addr}{mg mb:Str->Option Value}{CX:CXT}{k:Nat}{fa a:Addr}{fd:FuncData}{x:Str}{sp:Sp}{s₁:Shared}{vs:List Value}{ns:List Int}(KX:K.In s₁.heap)(T:∀P∈ps,K.lookup P=some (tabObj #[]))(C:∀P∈ps,∃c,codeHdIn K c P=true)(B:lamB ps K=true)(hns:s₁.heap.Ns mainGlobals mg)(hb:s₁.heap.Ns builtinsNs mb)(hbb:∀x:Str,x≠"__name__"->mb x=bootBuiltins x)(hlim:s₁.heap.NoLimit)(hbm:∃bm ob,mg "__builtins__" = some (.ref bm)/\bm≠builtinsNs/\s₁.heap.get? bm=some ob/\ob.cls=.type "module"/\ob.dict=some builtinsNs/\ob.data=.plain)(hg:s₁.gens=#[])(ha:s₁.heap.get? a=some { cls:=.type "list",data:=.seq vs.toArray })(hi:IntsAre vs ns)(hl:ns.length<=sizeLine)(hr:Room k callerA)(F:∀base:Heap,(ZS ps K).In base->base.Ns mainGlobals mg->FnOk P w (ZS ps K) mg base CX k fa fd [x] sp)(hbind:∀(s:Shared) (u:Value),BindsTo s fd ⟨[u],[]⟩ [(x,u)])(hsp:∀H:Hp,TabR (ZS ps K) H->ZaE (ZS ps K) H a ns->sp [.ref a] H (λv _=>v=.bl true) λ_ _ _=>False)(hCX:∀H e s',CX [] H s₁ (λ_ _ _=>False) e s'->False):
  codeAny (model P w) callerA (.call (.ref fa) ⟨[.ref a],[]⟩) (λr s'=>r=.ok (.ret (.bool true))/\OldK s₁.heap s'.heap/\s'.os=s₁.os/\AllBare s'.gens) s₁:=by
 have rv:=Zab hi
 have lenV:=hi.length
 have TH:∀P∈ps,s₁.heap.get? P=some (tabObj #[]):=λP hP=>KX P _ (T P hP)
 have aps:a∉ps:=λz=>by have:=TH a z;rw[ha]at this;cases this
 have core:∀(H:Hp),ZaE (ZS ps K) H a ns->HOk P w H s₁.heap->(∀b u,H b=some u->(b=a/\∃o xs,u=.frz o (.lst xs))∨(b∈ps/\u=.tbl #[]))->(∀b∈ps,H b=some (.tbl #[]))->(H a≠none->K.lookup a=none) ->
   codeAny (model P w) callerA (.call (.ref fa) ⟨[.ref a],[]⟩) (λr s'=>r=.ok (.ret (.bool true))/\OldK s₁.heap s'.heap/\s'.os=s₁.os/\AllBare s'.gens) s₁:=by
  intro H hS hok hA hT hK
  have base_of:∀{b:Addr}{o:Obj},s₁.heap.get? b=some o->H b=none->(hidT s₁.heap H).get? b=some o:=λe n=>Zhn e n
  have noA:∀{b:Addr}{o:Obj},s₁.heap.get? b=some o->o.cls≠.type "list"∨(∀its n,o.data≠.seq its n)->(∀gs,o.data≠.fields gs)->H b=none:=λ{b o} e d1 d2=>by
   cases q:H b with
   |none=>rfl
   |some u =>
    rcases hA b u q with⟨e',_⟩|⟨e',_⟩
    ·subst e'
     rw[ha]at e;cases e
     rcases d1 with d|d
     ·exact absurd rfl d
     ·exact absurd rfl (d _ _)
    ·have:=TH b e'
     rw[this]at e;cases e
     exact absurd rfl (d2 _)
  have nsK:∀{b:Addr}{m:Str->Option Value},s₁.heap.Ns b m->(hidT s₁.heap H).Ns b m:=λ{b m} ⟨o,es,ep,e,d,r⟩=>⟨o,es,ep,base_of e (noA e (.inr λ_ _ z=>by rw[d]at z;cases z) λ_ z=>by rw[d]at z;cases z),d,r⟩
  have hKb:(ZS ps K).In (hidT s₁.heap H):=λb o e=>by
   rw[Z2]at e
   split at e
   ·cases e
   ·rename_i z
    refine base_of (KX b o e) ?_
    cases q:H b with
    |none=>rfl
    |some u =>
     rcases hA b u q with⟨e',_⟩|⟨e',_⟩
     ·subst e'
      rw[hK (by rw[q];simp)]at e;cases e
     ·exact absurd (List.contains_iff_mem.mpr e') z
  have hM:Mod (ZS ps K) mg (hidT s₁.heap H):=⟨hKb,nsK hns,⟨mb,nsK hb,hbb⟩,let⟨mc,h1,h2⟩:=hlim;⟨mc,nsK h1,h2⟩,by
   obtain⟨bm,ob,b1,b2,b3,b4,b5,b6⟩:=hbm
   exact⟨bm,ob,b1,b2,base_of b3 (noA b3 (.inr λ_ _ z=>by rw[b6]at z;cases z) λ_ z=>by rw[b6]at z;cases z),b4,b5,b6⟩⟩
  have e0:Env0 P w (ZS ps K) mg (hidT s₁.heap H) callerA [] s₁ H:=⟨rfl,hM,λb o e=>Zji e,Nat.le_of_eq (ZfH _ _),trivial,λb hb=>absurd (show b∈([]:List Addr)from hb) (by simp),hok,.of_eq hg⟩
  have tab:TabR (ZS ps K) H:=λq Q ⟨c,o,l,t,n⟩=>by
   have L:=Zh2 T B
   refine⟨#[],hT Q ?_,trivial,λpos cv z=>by cases z⟩
   have hc:codeIn (ZS ps K) (.ref c) q=true:=by
    have:=(Ql t).1
    unfold Zas at this
    unfold codeIn
    dsimp only
    rw[l]
    obtain⟨oc,od,da,sl⟩:=o
    cases da with
    |fields gs =>
     dsimp only at this ⊢
     split at this
     ·cases this
      rename_i hv
      rw[hv]
      exact beq_self_eq_true _
     ·cases this
    |_=>cases this
   obtain⟨Q',h1,h2,c',o',l',t',_⟩:=L.hd c q hc (Ql t).2
   rw[Z2]at n
   by_cases hq:ps.contains Q=true
   ·exact List.contains_iff_mem.mp hq
   ·-- the table of c is Q
    rw[Z2]at l
    split at l
    ·cases l
    ·have b:=List.all_eq_true.mp B (c,o) (JP l)
     dsimp only at b
     rw[(Ql t).1]at b
     dsimp only at b
     rw[(Ql t).2,t]at b
     simp only[Bool.not_true,Bool.false_or,Bool.and_eq_true]at b
     exact List.contains_iff_mem.mp b.1.1
  refine codeAny_mono ((F _ hKb (nsK hns)).run callerA [] s₁ H ⟨[.ref a],[]⟩ [.ref a] [.ref a] _ _ hr e0 (hbind s₁ (.ref a)) (.cons rfl .nil) (hsp H tab hS)) λr s' h=>?_
  cases r with
  |error e=>exact(hCX H e s' h).elim
  |ok fl =>
   cases fl with
   |next=>exact False.elim h
   |brk=>exact False.elim h
   |cont=>exact False.elim h
   |ret u =>
    obtain⟨v,H',os,bare,un,hok',r',q⟩:=h
    have q':v=.bl true:=q
    subst q'
    obtain rfl:u=Value.bool true:=r'
    have all:∀b o,s₁.heap.get? b=some o->s'.heap.get? b=some o∨(b∈ps/\∃more,s'.heap.get? b=some (tabObj more)):=λb o e=>by
     cases q:H b with
     |none=>exact .inl (un.keep b o e q (by intro z;exact absurd (show b∈([]:List Addr)from z) (by simp)) (by simp))
     |some u =>
      rcases hA b u q with⟨_,ob,xs,z⟩|⟨z1,z⟩
      ·subst z
       have z2:=un.frzs b ob _ q
       obtain⟨e1,_⟩:=hok b _ q
       obtain⟨e2,_⟩:=hok' b _ z2
       rw[e]at e1;cases e1
       exact .inl e2
      ·subst z
       obtain⟨more,z2⟩:=un.tbls b _ q
       exact .inr ⟨z1,_,hok' b _ z2⟩
    refine⟨rfl,⟨λb o e=>?_,λb o e=>?_⟩,os,bare⟩
    ·rcases all b o e with z|⟨z1,more,z⟩
     ·exact .inl z
     ·have e':=TH b z1
      rw[e]at e';cases e'
      obtain⟨c,hc⟩:=C b z1
      exact .inr (.inl ⟨((PySem.W.codeHd_of_K KX hc).tab e).isCodeTable,rfl,#[],more,rfl,by rw[z];simp⟩)
    ·rcases all b o e with z|⟨_,more,z⟩
     ·exact⟨_,z⟩
     ·exact⟨_,z⟩
 have tabOk:∀{H:Hp}{b:Addr},b∈ps->Z7 P w H s₁.heap b (.tbl #[]):=λhb=>TH _ hb
 cases hk:K.lookup a with
 |some o =>
  have e:=KX a o hk
  rw[ha]at e
  cases e
  refine core (λb=>if b∈ps then some (.tbl #[])else none) (.inr ⟨_,vs.toArray,_,Zdg T hk (λz=>by cases z),rfl,rfl,rfl,by rw[List.size_toArray,lenV];exact hl,by simpa using rv⟩) (λb u z=>?_) (λb u z=>?_) (λb hb=>if_pos hb) λz=>absurd (if_neg aps) z
  ·by_cases hb:b∈ps
   ·have z:some (HO.tbl #[])=some u:=(if_pos hb).symm.trans z
    cases z
    exact tabOk hb
   ·have z:none=some u:=(if_neg hb).symm.trans z
    cases z
  ·by_cases hb:b∈ps
   ·have z:some (HO.tbl #[])=some u:=(if_pos hb).symm.trans z
    cases z
    exact .inr ⟨hb,rfl⟩
   ·have z:none=some u:=(if_neg hb).symm.trans z
    cases z
 |none =>
  generalize hH:(λb=>if b=a then some (.frz { cls:=.type "list",data:=.seq vs.toArray } (.lst (ns.map V.int)))else if b∈ps then some (.tbl #[])else none:Hp)=H
  have Ha:H a=some (.frz { cls:=.type "list",data:=.seq vs.toArray } (.lst (ns.map V.int))):=by rw[<-hH];exact if_pos rfl
  have Hp':∀b∈ps,H b=some (.tbl #[]):=λb hb=>by
   rw[<-hH]
   exact(if_neg λz=>aps (by rw[<-z];exact hb)).trans (if_pos hb)
  have Hc:∀b u,H b=some u->(b=a/\u=.frz { cls:=.type "list",data:=.seq vs.toArray } (.lst (ns.map V.int)))∨(b∈ps/\u=.tbl #[]):=λb u z=>by
   by_cases hb:b=a
   ·subst hb
    rw[Ha]at z;cases z
    exact .inl ⟨rfl,rfl⟩
   ·by_cases hb':b∈ps
    ·rw[Hp' b hb']at z;cases z
     exact .inr ⟨hb',rfl⟩
    ·rw[<-hH]at z
     have z:none=some u:=((if_neg hb).trans (if_neg hb')).symm.trans z
     cases z
  refine core H (.inl ⟨_,Ha⟩) (λb u z=>?_) (λb u z=>?_) Hp' λ_=>hk
  ·rcases Hc b u z with⟨rfl,rfl⟩|⟨h1,rfl⟩
   ·exact⟨ha,by rw[List.length_map];exact hl,vs,_,rv,ha⟩
   ·exact tabOk h1
  ·rcases Hc b u z with⟨h1,rfl⟩|h
   ·exact .inl ⟨h1,_,_,rfl⟩
   ·exact .inr h
theorem walk_ofT{l:OpenLaw}{n k:Nat}{q:Program}{loose:List Str}{XP:(Str->Option Value)->Heap->Prop}{YP:World->Heap->Prop}{d:DefRec}{K:Params->Frag}{ps:List Addr}{CX:World->CXT}{sp:World->Sp}{x:Str}(hn:l.most=some n)(hn2:n<=sizeLine)(hdf:d.params.defaults=[])(hr:Room k callerA)(hY:∀(w:World) (h:Heap),YP w h->(K w.params).In h)(T:∀(w:World) P,P∈ps->(K w.params).lookup P=some (tabObj #[]))(C:∀(w:World) P,P∈ps->∃c,codeHdIn (K w.params) c P=true)(B:∀w:World,lamB ps (K w.params)=true)(F:∀(w:World) (mg:Str->Option Value) (fa:Addr) (h:Heap),(K w.params).In h->h.Ns mainGlobals mg->mg d.name=some (.ref fa) ->
   ∃fd:FuncData,(∀(s:Shared) (u:Value),BindsTo s fd ⟨[u],[]⟩ [(x,u)]) /\
    ∀base:Heap,(ZS ps (K w.params)).In base->base.Ns mainGlobals mg->FnOk l.prog w (ZS ps (K w.params)) mg base (CX w) k fa fd [x] (sp w))(hsp:∀(w:World) (H:Hp) (a:Addr) (ns:List Int),ns.length<=n->TabR (ZS ps (K w.params)) H->ZaE (ZS ps (K w.params)) H a ns->sp w [.ref a] H (λv _=>v=.bl true) λ_ _ _=>False)(hCX:∀(w:World) (H:Hp) (s:Shared) (e:Value) (s':Shared),CX w [] H s (λ_ _ _=>False) e s'->False):
  PySem.W.WalkO q loose XP YP l.row.toRowW d [] (λf vs=>PySem.call f vs):=by
 refine Att.attach_call hn hdf λw s₀ s₁ mg mb fa o pm cd doc a vs ns G Y ho hd hcd hmg hobj hints hlen hg=>?_
 have KX:=hY w _ Y
 obtain⟨fd,hb,hF⟩:=F w mg fa _ KX G.T.g hmg
 exact law_callT KX (T w) (C w) (B w) G.T.g G.T.b G.T.builtins G.T.nolimit G.T.bmain hg hobj hints (Nat.le_trans hlen hn2) hr hF hb (λH hO hS=>hsp w H a ns hlen hO hS) λH e s'=>hCX w H s₁ e s'
end Mi
end
namespace My
open Mi
noncomputable def Zca:S:=(.asgT [2,3,4] (.var 1) (.ife (.cmp .Eq (.var 0) (.con (.str [104,101,97,118,121]))) (.ret (.neg (.ix (.var 3) (.con (.int 5)))) .done) .done (.ife (.cmp .Eq (.var 0) (.con (.str [103,114,101,97,116]))) (.ret (.neg (.var 4)) .done) .done (.ife (.cmp .Eq (.var 0) (.con (.str [115,109,97,108,108]))) (.ret (.var 4) .done) .done (.ret (.ix (.var 3) (.con (.int 6))) .done)))))
noncomputable def ZfG:E:=(.emit (.call 0 (.cons (.var 0) (.cons (.var 1) .nil))))
noncomputable def Zb3:E:=(.comp 1 [1] (.var 0) (.nm 0) .nil ZfG)
noncomputable def ZcJ:S:=(.ret (.bin .Add Zb3 (.lst (.cons (.ix (.var 1) (.con (.int 0))) .nil))) .done)
noncomputable def Zd3:E:=(.emit (.var 0))
noncomputable def ZaZ:E:=(.comp 3 [] (.var 2) (.tp [0,1,2]) .nil Zd3)
noncomputable def Qx:E:=(.call 1 (.cons (.var 1) (.cons (.var 0) .nil)))
noncomputable def Jq:S:=(.asg 2 (.sortk [0] (.var 1) Qx) (.ret (.celL ZaZ) .done))
noncomputable def QG:S:=(.ife (.cmp .Lt (.var 1) (.blt .len (.cons (.var 0) .nil))) (.ret (.ix (.var 0) (.var 1)) .done) .done (.ret (.con (.int 0)) .done))
noncomputable def Zax:S:=(.ret (.cel (.cons (.bin .Mult (.var 0) (.blt .int (.cons (.cmp .GtE (.var 0) (.bin .Pow (.con (.int 10)) (.con (.int 18)))) .nil))) (.cons (.bin .Mod (.var 0) (.con (.int 2147483647))) (.cons (.con (.int 0)) .nil)))) .done)
noncomputable def ZaB:S:=(.ife (.cmp .Gt (.ix (.var 0) (.con (.int 0))) (.con (.int 0))) (.asg 2 (.bin .Mod (.ix (.var 0) (.con (.int 0))) (.var 1)) (.set (.var 0) (.con (.int 0)) (.bin .FloorDiv (.ix (.var 0) (.con (.int 0))) (.var 1)) (.ret (.var 2) .done))) .done (.set (.var 0) (.con (.int 2)) (.bin .Add (.ix (.var 0) (.con (.int 2))) (.con (.int 1))) (.asg 3 (.bin .Mod (.bin .Mult (.bin .Add (.bin .Add (.ix (.var 0) (.con (.int 1))) (.bin .Mult (.con (.int 7919)) (.ix (.var 0) (.con (.int 2))))) (.con (.int 1))) (.con (.int 48271))) (.con (.int 2147483647))) (.asg 3 (.bin .Mod (.bin .Mult (.var 3) (.bin .Add (.bin .FloorDiv (.var 3) (.con (.int 1009))) (.con (.int 69621)))) (.con (.int 2147483647))) (.ret (.bin .Mod (.bin .Mod (.bin .Mult (.var 3) (.bin .Add (.bin .FloorDiv (.var 3) (.con (.int 2003))) (.con (.int 40692)))) (.con (.int 2147483399))) (.var 1)) .done)))))
noncomputable def Zaz:S:=(.ret (.ix (.var 1) (.call 5 (.cons (.var 0) (.cons (.blt .len (.cons (.var 1) .nil)) .nil)))) .done)
noncomputable def ZaA:S:=(.asg 1 (.lst (.cons (.con (.str [97])) (.cons (.con (.str [97,98])) (.cons (.con (.str [98])) (.cons (.con (.str [97,110,121,97])) (.cons (.con (.str [105,115,108,97,110,100])) (.cons (.con (.str [97,98,99])) (.cons (.con (.str [122])) (.cons (.con (.str [98,121,98,121,101])) (.cons (.con (.str [111,114,100,101,114])) (.cons (.con (.str [110,111,116,101,115])) (.cons (.con (.str [99])) (.cons (.con (.str [122,122,122,122,122,122,122,122])) .nil))))))))))))) (.ret (.ix (.var 1) (.bin .Mod (.var 0) (.con (.int 12)))) .done))
noncomputable def Jh:S:=(.ret (.ix (.lst (.cons (.call 5 (.cons (.var 0) (.cons (.con (.int 6)) .nil))) (.cons (.call 5 (.cons (.var 0) (.cons (.con (.int 6)) .nil))) (.cons (.bin .Sub (.bin .Pow (.con (.int 10)) (.con (.int 9))) (.call 5 (.cons (.var 0) (.cons (.con (.int 3)) .nil)))) .nil)))) (.call 5 (.cons (.var 0) (.cons (.con (.int 3)) .nil)))) .done)
noncomputable def JZ:E:=(.emit (.tup (.cons (.var 0) (.cons (.call 8 (.cons (.var 1) .nil)) .nil))))
noncomputable def Zb5:E:=(.comp 1 [0] (.lst (.cons (.con (.str [112,114,105,99,101])) (.cons (.con (.str [119,105,100,101])) .nil))) (.nm 0) (.cons (.cmp .Eq (.call 5 (.cons (.var 1) (.cons (.con (.int 2)) .nil))) (.con (.int 1))) .nil) JZ)
noncomputable def JX:E:=(.emit (.var 0))
noncomputable def Zav:E:=(.comp 1 [0] (.lst (.cons (.con (.str [102,114,101,115,104])) (.cons (.con (.str [111,108,100])) (.cons (.con (.str [111,108,100,115])) .nil)))) (.nm 0) (.cons (.cmp .Eq (.call 5 (.cons (.var 1) (.cons (.con (.int 2)) .nil))) (.con (.int 1))) .nil) JX)
noncomputable def ZaC:S:=(.asg 3 (.blt .tuple (.cons Zav .nil)) (.asg 4 (.blt .tuple (.cons Zb5 .nil)) (.ret (.tup (.cons (.var 1) (.cons (.var 2) (.cons (.var 3) (.cons (.var 4) .nil))))) .done)))
noncomputable def Zap:E:=(.emit (.call 10 (.cons (.var 1) (.cons (.bin .Sub (.var 2) (.con (.int 1))) .nil))))
noncomputable def Zb4:E:=(.comp 1 [0,1] (.blt .range1 (.cons (.var 3) .nil)) (.nm 0) .nil Zap)
noncomputable def Jx:S:=(.asg 2 (.call 5 (.cons (.var 0) (.cons (.bin .Add (.con (.int 6)) (.bin .Mult (.con (.int 3)) (.blt .int (.cons (.cmp .Gt (.var 1) (.con (.int 0))) .nil)))) .nil))) (.ife (.cmp .Lt (.var 2) (.con (.int 2))) (.ret (.tup (.cons (.con (.str [97,110,121])) .nil)) .done) .done (.ife (.cmp .Eq (.var 2) (.con (.int 2))) (.ret (.tup (.cons (.con (.str [105,115])) (.cons (.call 6 (.cons (.var 0) (.cons (.lst (.cons (.con (.str [102,114,101,115,104])) (.cons (.con (.str [111,108,100])) (.cons (.con (.str [111,108,100,115])) (.cons (.con (.str [110,101,119])) .nil))))) .nil))) .nil))) .done) .done (.ife (.cmp .Eq (.var 2) (.con (.int 3))) (.ret (.tup (.cons (.con (.str [98,121])) (.cons (.call 7 (.cons (.call 5 (.cons (.var 0) (.cons (.con (.int 12)) .nil))) .nil)) .nil))) .done) .done (.ife (.cmp .Lt (.var 2) (.con (.int 6))) (.ret (.tup (.cons (.ix (.lst (.cons (.con (.str [108,101,97,115,116])) (.cons (.con (.str [109,111,115,116])) .nil))) (.bin .Sub (.var 2) (.con (.int 4)))) (.cons (.call 6 (.cons (.var 0) (.cons (.lst (.cons (.con (.str [112,114,105,99,101])) (.cons (.con (.str [119,105,100,101])) (.cons (.con (.str [102,97,114])) .nil)))) .nil))) (.cons (.call 8 (.cons (.var 0) .nil)) .nil)))) .done) .done (.ife (.cmp .Eq (.var 2) (.con (.int 6))) (.ret (.tup (.cons (.con (.str [110,111,116])) (.cons (.call 10 (.cons (.var 0) (.cons (.bin .Sub (.var 1) (.con (.int 1))) .nil))) .nil))) .done) .done (.asg 3 (.bin .Add (.con (.int 2)) (.call 5 (.cons (.var 0) (.cons (.con (.int 2)) .nil)))) (.ret (.tup (.cons (.ix (.lst (.cons (.con (.str [97,110,100])) (.cons (.con (.str [111,114])) .nil))) (.bin .Sub (.var 2) (.con (.int 7)))) (.cons (.blt .tuple (.cons Zb4 .nil)) .nil))) .done))))))))
noncomputable def X8:S:=(.asg 5 (.ix (.lst (.cons (.bin .Add (.con (.int 1)) (.call 5 (.cons (.var 0) (.cons (.con (.int 9)) .nil)))) (.cons (.bin .Add (.con (.int 1)) (.call 5 (.cons (.var 0) (.cons (.con (.int 9)) .nil)))) (.cons (.bin .Add (.con (.int 1)) (.call 5 (.cons (.var 0) (.cons (.bin .Pow (.con (.int 10)) (.con (.int 6))) .nil)))) .nil)))) (.call 5 (.cons (.var 0) (.cons (.con (.int 3)) .nil)))) (.asg 6 (.ix (.lst (.cons (.con (.int 1)) (.cons (.bin .Add (.con (.int 1)) (.call 5 (.cons (.var 0) (.cons (.var 5) .nil)))) (.cons (.var 5) .nil)))) (.call 5 (.cons (.var 0) (.cons (.con (.int 3)) .nil)))) (.asg 7 (.ix (.lst (.cons (.tup (.cons (.con (.str [97,110,121])) .nil)) (.cons (.call 10 (.cons (.var 0) (.cons (.con (.int 2)) .nil))) .nil))) (.call 5 (.cons (.var 0) (.cons (.con (.int 2)) .nil)))) (.asg 8 (.ix (.lst (.cons (.call 5 (.cons (.var 0) (.cons (.con (.int 3)) .nil))) (.cons (.call 5 (.cons (.var 0) (.cons (.con (.int 1001)) .nil))) .nil))) (.call 5 (.cons (.var 0) (.cons (.con (.int 2)) .nil)))) (.ret (.tup (.cons (.var 1) (.cons (.call 9 (.cons (.var 0) (.cons (.var 2) (.cons (.var 3) .nil)))) (.cons (.var 7) (.cons (.var 5) (.cons (.var 6) (.cons (.var 8) (.cons (.var 4) .nil)))))))) .done)))))
noncomputable def Qe:S:=(.expr (.mth .append (.var 4) (.cons (.blt .dget (.cons (.dsn [[104,101,97,118,121],[103,114,101,97,116],[115,109,97,108,108],[115,111,111,110]] (.cons (.bin .Sub (.con (.int 0)) (.ix (.var 6) (.con (.int 5)))) (.cons (.bin .Sub (.con (.int 0)) (.var 7)) (.cons (.var 7) (.cons (.ix (.var 6) (.con (.int 6))) .nil))))) (.cons (.var 3) .nil))) .nil)) .done)
noncomputable def ZM:S:=(.asg 4 (.cel .nil) (.forr (.tp [5,6,7]) (.lst (.cons (.var 1) (.cons (.var 2) .nil))) Qe (.ife (.cmp .NotEq (.ix (.var 4) (.con (.int 0))) (.ix (.var 4) (.con (.int 1)))) (.ret (.cmp .Lt (.ix (.var 4) (.con (.int 0))) (.ix (.var 4) (.con (.int 1)))) .done) .done .done)))
noncomputable def Ji:S:=(.forr (.nm 3) (.var 0) ZM (.ret (.cmp .Lt (.ix (.var 1) (.con (.int 0))) (.ix (.var 2) (.con (.int 0)))) .done))
noncomputable def Zhm:E:=(.emit (.var 0))
noncomputable def ZhH:E:=(.comp 3 [] (.var 2) (.tp [0,1,2]) .nil Zhm)
noncomputable def Zhl:E:=(.emit (.var 0))
noncomputable def Zdo:E:=(.comp 1 [0,3] (.var 2) (.nm 0) (.cons (.call 12 (.cons (.var 1) (.cons (.var 0) (.cons (.var 2) .nil)))) .nil) Zhl)
noncomputable def JT:S:=(.asg 4 (.blt .len (.cons Zdo .nil)) (.expr (.mth .insert (.var 2) (.cons (.var 4) (.cons (.var 3) .nil))) .done))
noncomputable def Zcb:S:=(.asg 2 (.cel .nil) (.forr (.nm 3) (.var 1) JT (.ret ZhH .done)))
noncomputable def ZbV:S:=(.expr (.mth .append (.var 2) (.cons (.mth .popat (.var 1) (.cons (.call 5 (.cons (.var 0) (.cons (.blt .len (.cons (.var 1) .nil)) .nil))) .nil)) .nil)) .done)
noncomputable def Zay:S:=(.asg 1 (.cel (.cons (.con (.str [104,101,97,118,121])) (.cons (.con (.str [103,114,101,97,116])) (.cons (.con (.str [115,109,97,108,108])) (.cons (.con (.str [115,111,111,110])) .nil))))) (.asg 2 (.cel .nil) (.forr (.nm 3) (.blt .range1 (.cons (.ix (.lst (.cons (.con (.int 0)) (.cons (.con (.int 1)) (.cons (.con (.int 1)) (.cons (.con (.int 2)) (.cons (.con (.int 3)) .nil)))))) (.call 5 (.cons (.var 0) (.cons (.con (.int 5)) .nil)))) .nil)) ZbV (.ret (.blt .tuple (.cons (.var 2) .nil)) .done))))
noncomputable def Qg:S:=(.asg 7 (.call 6 (.cons (.var 0) (.cons (.lst (.cons (.con (.str [103,105,118,101])) (.cons (.con (.str [116,97,107,101])) (.cons (.con (.str [103,105,118,101])) (.cons (.con (.str [116,97,107,101])) (.cons (.con (.str [98,101,97,114])) .nil)))))) .nil))) (.asg 8 (.ix (.lst (.cons (.con (.str [114,121,101])) (.cons (.con (.str [111,97,116])) (.cons (.con (.str [111])) .nil)))) (.call 5 (.cons (.var 0) (.cons (.bin .Add (.con (.int 1)) (.var 5)) .nil)))) (.asg 9 (.call 7 (.cons (.bin .Add (.var 3) (.bin .Mult (.var 6) (.blt .int (.cons (.cmp .Gt (.call 5 (.cons (.var 0) (.cons (.con (.int 16)) .nil))) (.con (.int 0))) .nil)))) .nil)) (.asg 10 (.call 11 (.cons (.var 0) (.cons (.var 7) (.cons (.var 9) (.cons (.var 8) (.cons (.call 5 (.cons (.var 0) (.cons (.con (.int 9)) .nil))) .nil)))))) (.ife (.and (.cmp .NotEq (.var 2) (.lst .nil)) (.cmp .Eq (.call 5 (.cons (.var 0) (.cons (.con (.int 12)) .nil))) (.con (.int 0)))) (.asg 10 (.ix (.ix (.var 2) (.neg (.con (.int 1)))) (.con (.int 1))) .done) .done (.asg 11 (.ix (.lst (.cons (.ix (.var 10) (.con (.int 3))) (.cons (.bin .Add (.con (.int 1)) (.call 5 (.cons (.var 0) (.cons (.ix (.var 10) (.con (.int 3))) .nil)))) .nil))) (.call 5 (.cons (.var 0) (.cons (.con (.int 2)) .nil)))) (.expr (.mth .append (.var 2) (.cons (.tup (.cons (.var 4) (.cons (.var 10) (.cons (.var 11) .nil)))) .nil)) (.asg 4 (.bin .Add (.bin .Add (.var 4) (.con (.int 1))) (.call 5 (.cons (.var 0) (.cons (.con (.int 4)) .nil)))) .done))))))))
noncomputable def QF:S:=(.asg 2 (.cel .nil) (.asg 3 (.call 5 (.cons (.var 0) (.cons (.con (.int 12)) .nil))) (.asg 4 (.call 5 (.cons (.var 0) (.cons (.con (.int 5)) .nil))) (.asg 5 (.call 5 (.cons (.var 0) (.cons (.con (.int 3)) .nil))) (.forr (.nm 6) (.blt .range1 (.cons (.call 5 (.cons (.var 0) (.cons (.bin .Add (.var 1) (.con (.int 1))) .nil))) .nil)) Qg (.ret (.var 2) .done))))))
noncomputable def Qd:S:=(.expr (.mth .append (.var 3) (.cons (.mth .popat (.var 2) (.cons (.call 5 (.cons (.var 0) (.cons (.blt .len (.cons (.var 2) .nil)) .nil))) .nil)) .nil)) .done)
noncomputable def Jg:S:=(.asg 2 (.celL (.var 1)) (.asg 3 (.cel .nil) (.whil (.cmp .NotEq (.var 2) (.lst .nil)) Qd (.ret (.var 3) .done))))
noncomputable def ZjC:E:=(.emit (.var 0))
noncomputable def Zgb:E:=(.comp 3 [] (.var 4) (.tp [0,1,2]) .nil ZjC)
noncomputable def ZjB:E:=(.emit (.var 0))
noncomputable def Zga:E:=(.comp 1 [] (.var 9) (.nm 0) (.cons (.isi (.var 0) .bool) .nil) ZjB)
noncomputable def Jw:S:=(.asg 7 (.call 16 (.cons (.var 2) (.cons (.var 4) .nil))) (.asg 8 (.blt .list (.cons (.var 7) .nil)) (.asg 9 (.call 2 (.cons (.var 3) (.cons (.var 8) .nil))) (.ife (.or (.not (.isi (.var 9) .list)) (.or (.cmp .NotEq (.var 9) (.var 5)) (.cmp .NotEq (.var 8) (.var 7)))) (.ret (.con (.bl false)) .done) .done (.ife (.cmp .NotEq Zga (.lst .nil)) (.ret (.con (.bl false)) .done) .done (.expr (.mth .clear (.var 9) .nil) .done))))))
noncomputable def Zbm:S:=(.asg 2 (.call 4 (.cons (.var 1) .nil)) (.asg 3 (.call 14 (.cons (.var 2) .nil)) (.asg 4 (.call 15 (.cons (.var 2) (.cons (.ix (.lst (.cons (.con (.int 12)) (.cons (.con (.int 12)) (.cons (.con (.int 12)) (.cons (.con (.int 12)) (.cons (.con (.int 12)) (.cons (.con (.int 12)) (.cons (.con (.int 12)) (.cons (.con (.int 30)) .nil))))))))) (.call 5 (.cons (.var 2) (.cons (.con (.int 8)) .nil)))) .nil))) (.asg 5 (.call 13 (.cons (.var 3) (.cons (.var 4) .nil))) (.forr (.nm 6) (.blt .range1 (.cons (.con (.int 3)) .nil)) Jw (.asg 10 (.blt .sortn (.cons Zgb .nil)) (.ife (.or (.cmp .NotEq (.call 2 (.cons (.tup .nil) (.cons (.var 4) .nil))) (.var 10)) (.cmp .NotEq (.blt .sortn (.cons (.call 2 (.cons (.var 3) (.cons (.var 4) .nil))) .nil)) (.var 10))) (.ret (.con (.bl false)) .done) .done .done)))))))
noncomputable def Zei:S:=(.forr (.nm 1) (.bin .Add (.lst (.cons (.call 3 (.cons (.var 0) (.cons (.con (.int 0)) .nil))) .nil)) (.slc (.var 0) (.con (.int 1)) (.con (.int 8)))) Zbm (.ret (.cmp .Eq (.call 2 (.cons (.tup (.cons (.con (.str [104,101,97,118,121])) (.cons (.con (.str [115,111,111,110])) .nil))) (.cons (.lst .nil) .nil))) (.lst .nil)) .done))
noncomputable def fns:List Fn:=[⟨2,5,Zca,false⟩,⟨2,2,ZcJ,false⟩,⟨2,3,Jq,true⟩,⟨2,2,QG,false⟩,⟨1,1,Zax,true⟩,⟨2,4,ZaB,false⟩,⟨2,2,Zaz,false⟩,⟨1,2,ZaA,false⟩,⟨1,1,Jh,false⟩,⟨3,5,ZaC,false⟩,⟨2,4,Jx,false⟩,⟨5,9,X8,false⟩,⟨3,8,Ji,false⟩,⟨2,5,Zcb,false⟩,⟨1,4,Zay,false⟩,⟨2,12,QF,false⟩,⟨2,4,Jg,false⟩,⟨1,11,Zei,false⟩]
noncomputable def gv:List T:=[]
noncomputable abbrev cf:=Jf fns gv
noncomputable abbrev CF(k:Nat)(b:S)(p q:Nat)(c:Bool):Prop:=∀(n:Nat) (ws:List W) (m:Mem),cf (n+1) k ws m=if ws.length=p then(ex (cf n) gv b (ws.map some++List.replicate (q-p) none) m).bind λfl m'=>fin m.length c fl m' else .stuck
theorem ZjV:CF 0 Zca 2 5 false:=λ_ _ _=>rfl
theorem Zhz:CF 1 ZcJ 2 2 false:=λ_ _ _=>rfl
theorem Zf2:CF 2 Jq 2 3 true:=λ_ _ _=>rfl
theorem ZcE:CF 3 QG 2 2 false:=λ_ _ _=>rfl
theorem ZhA:CF 4 Zax 1 1 true:=λ_ _ _=>rfl
theorem ZhE:CF 5 ZaB 2 4 false:=λ_ _ _=>rfl
theorem ZhC:CF 6 Zaz 2 2 false:=λ_ _ _=>rfl
theorem ZhD:CF 7 ZaA 1 2 false:=λ_ _ _=>rfl
theorem Zeb:CF 8 Jh 1 1 false:=λ_ _ _=>rfl
theorem ZhF:CF 9 ZaC 3 5 false:=λ_ _ _=>rfl
theorem Zdm:CF 10 Jx 2 4 false:=λ_ _ _=>rfl
theorem Zf3:CF 11 X8 5 9 false:=λ_ _ _=>rfl
theorem Zec:CF 12 Ji 3 8 false:=λ_ _ _=>rfl
theorem ZjW:CF 13 Zcb 2 5 false:=λ_ _ _=>rfl
theorem ZhB:CF 14 Zay 1 4 false:=λ_ _ _=>rfl
theorem ZcD:CF 15 QF 2 12 false:=λ_ _ _=>rfl
theorem Zea:CF 16 Jg 2 4 false:=λ_ _ _=>rfl
theorem cf_law:CF 17 Zei 1 11 false:=λ_ _ _=>rfl
end My
section
set_option maxRecDepth 20000
namespace My
open Mi
noncomputable def IsSt(s:List T):Prop:=∃a b c:Int,s=[.int a,.int b,.int c]
noncomputable def put(m:Mem)(i:Nat)(s:List T):Mem:=m.set i (some (false,s))
theorem ZhV{m:Mem}{i:Nat}{s:List T}(h:i<m.length):(put m i s)[i]?=some (some (false,s)):=List.getElem?_set_self h
theorem Zm{m:Mem}{i:Nat}{s:List T}:(put m i s).length=m.length:=List.length_set
theorem ZeJ{m:Mem}{i:Nat}{s s':List T}:(put m i s).set i (some (false,s'))=put m i s':=List.set_set _
theorem mulL{i j:Int}(h:0<=i)(h':i<4294967296):Xe i j=true:=by
 have:i.natAbs<2^64:=by omega
 simp[Xe,small,this]
theorem mulR{i j:Int}(h:0<=j)(h':j<4294967296):Xe i j=true:=by
 have:j.natAbs<2^64:=by omega
 simp[Xe,small,this]
section
variable{call:Nat->List W->Mem->Res W}{gv:List T}{env:Env}{m m1 m2 m3:Mem}{a b c e o v i:E}{x y z r:T}{w w1 w2:W}{f:Nat}{bb:B}{k:Bool}
theorem Zy{op:PySem.Operator}(h1:ev call gv a env m=.ok (.t x) m1)(h2:ev call gv b env m1=.ok (.t y) m2)(h3:binT op x y=some r):ev call gv (.bin op a b) env m=.ok (.t r) m2:=by
 rw[ev,h1,Zh,h2,Zh]
 show pur (binT op x y) m2=_
 rw[h3];rfl
theorem J4{op:PySem.CmpOp}(h1:ev call gv a env m=.ok (.t x) m1)(h2:ev call gv b env m1=.ok (.t y) m2)(h3:cmpT op x y=some k):ev call gv (.cmp op a b) env m=.ok (.t (.bl k)) m2:=by
 rw[ev,h1,Zh,h2,Zh]
 show pur ((cmpT op x y).map .bl) m2=_
 rw[h3];rfl
theorem Zb(t:T):ev call gv (.con t) env m=.ok (.t t) m:=by rw[ev]
theorem Za{i:Nat}{w:W}(h:env[i]?=some (some w)):ev call gv (.var i) env m=.ok w m:=by rw[ev,h]
theorem J5{c j:Nat}{k:Int}{xs:List T}(h:env[c]?=some (some (.c j)))(hm:m[j]?=some (some (false,xs)))(hx:atT xs k=some r):ev call gv (.ix (.var c) (.con (.int k))) env m=.ok (.t r) m:=by
 rw[ev,Za h,Zh,Zb,Zh]
 simp only[view,hm,Option.bind_some,ixT,hx]
 rfl
theorem Qz(h1:ev call gv a env m=.ok (.t x) m1)(h2:ev call gv b env m1=.ok (.t y) m2)(h3:ixT x y=some r):ev call gv (.ix a b) env m=.ok (.t r) m2:=by
 rw[ev,h1,Zh,h2,Zh]
 show pur (ixT x y) m2=_
 rw[h3];rfl
theorem QV(h:ev call gv e env m=.ok (.t x) m1)(hb:bltT bb [x]=some r):ev call gv (.blt bb (.cons e .nil)) env m=.ok (.t r) m1:=by
 rw[ev,evs,h]
 show pur (bltT bb [x]) m1=_
 rw[hb];rfl
theorem Zdk(h:ev call gv e env m=.ok w m1):ev call gv (.call f (.cons e .nil)) env m=call f [w] m1:=by
 rw[ev,evs,h]
 rfl
theorem ZF(h1:ev call gv a env m=.ok w m1)(h2:ev call gv b env m1=.ok w1 m2):ev call gv (.call f (.cons a (.cons b .nil))) env m=call f [w,w1] m2:=by
 simp only[ev,evs,h1,h2,Zh]
theorem Zhr(h1:ev call gv a env m=.ok w m1)(h2:ev call gv b env m1=.ok w1 m2)(h3:ev call gv c env m2=.ok w2 m3):ev call gv (.call f (.cons a (.cons b (.cons c .nil)))) env m=call f [w,w1,w2] m3:=by
 simp only[ev,evs,h1,h2,h3,Zh]
theorem ZjM(h1:ev call gv a env m=.ok (.t x) m1)(h2:ev call gv b env m1=.ok (.t y) m2)(h3:ev call gv c env m2=.ok (.t z) m3):ev call gv (.tup (.cons a (.cons b (.cons c .nil)))) env m=.ok (.t (.tup [x,y,z])) m3:=by
 simp only[ev,evs,h1,h2,h3,Zh,ZaT,ZaS]
 exact if_pos (by simp[lim])
theorem ZjN(h1:ev call gv a env m=.ok (.t x) m1)(h2:ev call gv b env m1=.ok (.t y) m2):ev call gv (.lst (.cons a (.cons b .nil))) env m=.ok (.t (.lst [x,y])) m2:=by
 simp only[ev,evs,h1,h2,Zh,ZaT,ZaS]
 exact if_pos (by simp[lim])
theorem ZfQ(h:ev call gv a env m=.ok (.t (.bl true)) m1):ev call gv (.and a b) env m=ev call gv b env m1:=by rw[ev,h];rfl
theorem ZjP(h:ev call gv a env m=.ok (.t (.bl false)) m1):ev call gv (.and a b) env m=.ok (.t (.bl false)) m1:=by rw[ev,h];rfl
theorem ev_not(h:ev call gv a env m=.ok (.t (.bl k)) m1):ev call gv (.not a) env m=.ok (.t (.bl (!k))) m1:=by rw[ev,h];rfl
theorem ZfP(h:ev call gv a env m=.ok (.t (.bl false)) m1):ev call gv (.or a b) env m=ev call gv b env m1:=by rw[ev,h];rfl
theorem ev_isi{ty:Ty}(h:ev call gv a env m=.ok (.t x) m1)(hk:isT x ty=k):ev call gv (.isi a ty) env m=.ok (.t (.bl k)) m1:=by rw[ev,h,<-hk];rfl
end
section
variable{call:Nat->List W->Mem->Res W}{gv:List T}{env:Env}{m m1 m2 m3:Mem}{a lo hi:E}{es:Es}{x y z r:T}{w:W}{ws:List W}{ts:List T}{f:Nat}{bb:B}
theorem ZK{ts:List T}(h:ts.length<=1000:=by exact Nat.le_of_ble_eq_true rfl):ts.length<=lim:=Nat.le_trans h (by decide)
theorem Zj:evs call gv .nil env m=.ok [] m:=by rw[evs]
theorem Zc(h1:ev call gv a env m=.ok w m1)(h2:evs call gv es env m1=.ok ws m2):evs call gv (.cons a es) env m=.ok (w::ws) m2:=by rw[evs,h1,Zh,h2];rfl
theorem Z3(h:evs call gv es env m=.ok ws m1)(h2:frzs ws m1=.ok ts m1)(hl:ts.length<=lim):ev call gv (.lst es) env m=.ok (.t (.lst ts)) m1:=by rw[ev,h,Zh,h2,Zh,if_pos hl]
theorem Xy(h:evs call gv es env m=.ok ws m1)(h2:frzs ws m1=.ok ts m1)(hl:ts.length<=lim):ev call gv (.tup es) env m=.ok (.t (.tup ts)) m1:=by rw[ev,h,Zh,h2,Zh,if_pos hl]
theorem Zu(h:evs call gv es env m=.ok ws m1):ev call gv (.call f es) env m=call f ws m1:=by rw[ev,h];rfl
theorem ZaU(h:evs call gv es env m=.ok ws m1)(h2:views ws m1=some ts)(h3:bltT bb ts=some r):ev call gv (.blt bb es) env m=.ok (.t r) m1:=by
 rw[ev,h,Zh,h2]
 show pur (bltT bb ts) m1=_
 rw[h3];rfl
end
section
variable{call:Nat->List W->Mem->Res W}{gv:List T}{env env':Env}{m m1 m2:Mem}{k a b:S}{e:E}{w:W}
theorem ex_ifA(h:ev call gv e env m=.ok (.t (.bl true)) m1)(h2:ex call gv a env m1=.ok (.next env') m2):ex call gv (.ife e a b k) env m=ex call gv k env' m2:=by
 rw[ex,h]
 show(ex call gv a env m1).bind _=_
 rw[h2];rfl
theorem Xh(h:ev call gv e env m=.ok w m1):ex call gv (.expr e k) env m=ex call gv k env m1:=by rw[ex,h];rfl
end
section
variable{call:Nat->List W->Mem->Res W}{gv:List T}{env:Env}{m m1 m2:Mem}{a c inner:E}{x:T}{xs:List T}
theorem Zcy(h:ev call gv a env m=.ok (.t x) m1):ev call gv (.emit a) env m=.ok (.t (.lst [x])) m1:=by rw[ev,h];rfl
theorem turn1T(h:ev call gv c env m=.ok (.t (.bl true)) m1)(h2:ev call gv inner env m1=.ok (.t (.lst xs)) m2):QH call gv (.cons c .nil) inner env m=.ok xs m2:=by
 unfold QH
 rw[tests,h,Zh,Za1,Zh,if_pos rfl,tests,Zh,if_pos rfl,h2]
 rfl
theorem ZhN(h:ev call gv c env m=.ok (.t (.bl false)) m1):QH call gv (.cons c .nil) inner env m=.ok [] m1:=by
 unfold QH
 rw[tests,h,Zh,Za1,Zh,if_neg (by decide),Zh,if_neg (by decide)]
theorem turn0(h2:ev call gv inner env m=.ok (.t (.lst xs)) m2):QH call gv .nil inner env m=.ok xs m2:=by
 unfold QH
 rw[tests,Zh,if_pos rfl,h2]
 rfl
end
theorem at0{α:Type}(a:α)(r:List α):atT (a::r) 0=some a:=by simp[atT,ixOf]
theorem at1{α:Type}(a b:α)(r:List α):atT (a::b::r) 1=some b:=by
 have:(1:Int)<(r.length:Int)+1+1:=by omega
 simp[atT,ixOf,this]
theorem QS{α β:Type}(f:α->β)(xs:List α):xs.flatMap (λx=>[f x])=xs.map f:=by
 induction xs with
 |nil=>rfl
 |cons x xs ih=>simp[ih]
noncomputable def ZdK(p:List Nat×Int):T:=.tup [.str p.1,.int p.2]
noncomputable def Zed(nm kd:List Nat)(mk:List (List Nat))(sz:List (List Nat×Int)):T:=.tup [.str nm,.str kd,.tup (mk.map .str),.tup (sz.map ZdK)]
inductive Lf:T->Prop where
 |any:Lf (.tup [.str [97,110,121]])
 |is (w:List Nat):Lf (.tup [.str [105,115],.str w])
 |by(w:List Nat):Lf (.tup [.str [98,121],.str w])
 |least (w:List Nat) (v:Int):Lf (.tup [.str [108,101,97,115,116],.str w,.int v])
 |most (w:List Nat) (v:Int):Lf (.tup [.str [109,111,115,116],.str w,.int v])
inductive DW:Nat->T->Prop where
 |leaf {d:Nat}{t:T}:Lf t->DW d t
 |nt {d:Nat}{a:T}:DW d a->DW (d+1) (.tup [.str [110,111,116],a])
 |jn {d:Nat}{b:Bool}{ts:List T}:ts.length<=6->(∀t∈ts,DW d t)->DW (d+1) (.tup [.str (if b then[97,110,100]else[111,114]),.tup ts])
theorem Zi{n:Nat}{m:Mem}{i:Nat}{s:List T}{many:Int}(hi:i<m.length)(hs:IsSt s)(h1:0<many)(h2:many<1073741824):
  ∃r s',cf (n+1) 5 [.c i,.t (.int many)] (put m i s)=.ok (.t (.int r)) (put m i s')/\IsSt s'/\0<=r/\r<many:=by
 obtain⟨a,b,c,rfl⟩:=hs
 have key:∃r s',ex (cf n) gv ZaB [some (.c i),some (.t (.int many)),none,none] (put m i [.int a,.int b,.int c])=.ok (.ret (.t (.int r))) (put m i s')/\IsSt s'/\0<=r/\r<many:=by
  have h:=ZhV (s:=[.int a,.int b,.int c]) hi
  unfold ZaB
  have hg:ev (cf n) gv (.cmp .Gt (.ix (.var 0) (.con (.int 0))) (.con (.int 0))) [some (.c i),some (.t (.int many)),none,none] (put m i [.int a,.int b,.int c])=.ok (.t (.bl (decide (0<a)))) (put m i [.int a,.int b,.int c]):=by
   rw[ev,J5 rfl h rfl,Zh,Zb,Zh]
   rfl
  by_cases ha:0<a
  ·rw[decide_eq_true ha]at hg
   refine⟨a%many,[.int (a / many),.int b,.int c],QX hg ?_,⟨_,_,_,rfl⟩,Int.emod_nonneg _ (by omega),Int.emod_lt_of_pos _ h1⟩
   rw[Zr (Zy (J5 rfl h rfl) (Za rfl) (ZcK h1))]
   rw[ZfO (Zy (J5 rfl h rfl) (Za rfl) (Zj3 ⟨h1,h2⟩)) (Za rfl) (Zb _) h rfl]
   rw[ZeJ]
   exact ZG (Za rfl)
  ·rw[decide_eq_false ha]at hg
   rw[Z9 hg]
   have h4:Xe 7919 (c+1)=true:=mulL (by decide) (by decide)
   have h5:∀x,Xe x 48271=true:=λx=>mulR (by decide) (by decide)
   have h6:∀x y,Xe (x%2147483647) y=true:=λx y=>mulL (Int.emod_nonneg _ (by decide)) (by have:=Int.emod_lt_of_pos x (b:=2147483647) (by decide);omega)
   have hp:=ZhV (s:=[.int a,.int b,.int (c+1)]) hi
   obtain⟨z,hz⟩:∃z:Int,ex (cf n) gv (.set (.var 0) (.con (.int 2)) (.bin .Add (.ix (.var 0) (.con (.int 2))) (.con (.int 1))) (.asg 3 (.bin .Mod (.bin .Mult (.bin .Add (.bin .Add (.ix (.var 0) (.con (.int 1))) (.bin .Mult (.con (.int 7919)) (.ix (.var 0) (.con (.int 2))))) (.con (.int 1))) (.con (.int 48271))) (.con (.int 2147483647))) (.asg 3 (.bin .Mod (.bin .Mult (.var 3) (.bin .Add (.bin .FloorDiv (.var 3) (.con (.int 1009))) (.con (.int 69621)))) (.con (.int 2147483647))) (.ret (.bin .Mod (.bin .Mod (.bin .Mult (.var 3) (.bin .Add (.bin .FloorDiv (.var 3) (.con (.int 2003))) (.con (.int 40692)))) (.con (.int 2147483399))) (.var 1)) .done)))) [some (.c i),some (.t (.int many)),none,none] (put m i [.int a,.int b,.int c])=.ok (.ret (.t (.int (z%many)))) (put m i [.int a,.int b,.int (c+1)]):=by
    refine⟨(((b+7919*(c+1)+1)*48271%2147483647)*(((b+7919*(c+1)+1)*48271%2147483647) / 1009+69621)%2147483647)*((((b+7919*(c+1)+1)*48271%2147483647)*(((b+7919*(c+1)+1)*48271%2147483647) / 1009+69621)%2147483647) / 2003+40692)%2147483399,?_⟩
    rw[ZfO (Zy (J5 rfl h rfl) (Zb _) (ZcL _ _)) (Za rfl) (Zb _) h rfl]
    show ex (cf n) gv _ _ (put m i [.int a,.int b,.int c] |>.set i (some (false,[.int a,.int b,.int (c+1)])))=_
    rw[ZeJ]
    rw[Zr (Zy (Zy (Zy (Zy (J5 rfl hp rfl) (Zy (Zb _) (J5 rfl hp rfl) (Zeh h4)) (ZcL _ _)) (Zb _) (ZcL _ _)) (Zb _) (Zeh (h5 _))) (Zb _) (ZcK (by decide)))]
    rw[Zr (Zy (Zy (Za rfl) (Zy (Zy (Za rfl) (Zb _) (Zj3 (by decide))) (Zb _) (ZcL _ _)) (Zeh (h6 _ _))) (Zb _) (ZcK (by decide)))]
    exact ZG (Zy (Zy (Zy (Za rfl) (Zy (Zy (Za rfl) (Zb _) (Zj3 (by decide))) (Zb _) (ZcL _ _)) (Zeh (h6 _ _))) (Zb _) (ZcK (by decide))) (Za rfl) (ZcK h1))
   exact⟨z%many,_,hz,⟨_,_,_,rfl⟩,Int.emod_nonneg _ (Int.ne_of_gt h1),Int.emod_lt_of_pos _ h1⟩
 obtain⟨r,s',e,h⟩:=key
 refine⟨r,s',?_,h⟩
 exact Qh (ZhE _ _ _) rfl e (Qj (cell:=false) (by rw[Zm,Zm]))
theorem Ziq{n:Nat}{m:Mem}{x:Int}:∃s,cf (n+1) 4 [.t (.int x)] m=.ok (.c m.length) (put (m++[none]) m.length s)/\IsSt s:=by
 have hb:∀y:Int,∀k:Bool,Xe y (b2i k)=true:=λy k=>mulR (by cases k<;>decide) (by cases k<;>decide)
 refine⟨[.int (x*b2i (decide (1000000000000000000<=x))),.int (x%2147483647),.int 0],?_,⟨_,_,_,rfl⟩⟩
 have key:ex (cf n) gv Zax [some (.t (.int x))] m=.ok (.ret (.c m.length)) (m++[some (false,[.int (x*b2i (decide (1000000000000000000<=x))),.int (x%2147483647),.int 0])]):=by
  unfold Zax
  exact ZG (by simp[ev,evs,isT,Zv,EVs,b_pow,Zeh (hb _ _),ZcK,lim])
 rw[ZhA]
 simp[key,Zh,fin,put]
theorem ZjX{n:Nat}{m:Mem}{ns:List Int}:∃v:Int,cf (n+1) 3 [.t (.scr ns),.t (.int 0)] m=.ok (.t (.int v)) m:=by
 have key:∃v:Int,ex (cf n) gv QG [some (.t (.scr ns)),some (.t (.int 0))] m=.ok (.ret (.t (.int v))) m:=by
  unfold QG
  by_cases h:(0:Int)<ns.length
  ·obtain⟨v,hv,_⟩:=Qa (xs:=ns) (i:=0) (by decide) h
   exact⟨v,QX (m1:=m) (by simp[ev,evs,isT,Zv,EVs];omega) (ZG (by simp[ev,evs,isT,Zv,EVs,hv]))⟩
  ·have h':ns=[]:=List.length_eq_zero_iff.mp (by omega)
   subst h'
   refine⟨0,?_⟩
   rw[Z9 (m1:=m) (by simp[ev,evs,isT,Zv,EVs])]
   exact ZG (by simp[ev,evs,isT,Zv,EVs])
 obtain⟨v,e⟩:=key
 refine⟨v,?_⟩
 rw[ZcE]
 simp[e,Zh,Qj]
noncomputable def okS(cs:List Nat):Bool:=PySem.PyData.strOk ⟨cs.toArray⟩
noncomputable def Dk(d:Nat)(w:T):Prop:=∀k,Zg (k+(2*d+1)) w=true
theorem ZeX{n:Nat}{m:Mem}{i:Nat}{s xs:List T}(hi:i<m.length)(hs:IsSt s)(h0:0<xs.length)(h1:xs.length<1000):
  ∃x s',cf (n+2) 6 [.c i,.t (.lst xs)] (put m i s)=.ok (.t x) (put m i s')/\IsSt s'/\x∈xs:=by
 obtain⟨r,s1,g1,hs1,r0,r1⟩:=Zi (n:=n) (many:=(xs.length:Int)) hi hs (by omega) (by omega)
 obtain⟨x,hx,hm⟩:=Qa r0 r1
 refine⟨x,s1,?_,hs1,hm⟩
 have key:ex (cf (n+1)) gv Zaz [some (.c i),some (.t (.lst xs))] (put m i s)=.ok (.ret (.t x)) (put m i s1):=by
  unfold Zaz
  exact ZG (by simp[ev,evs,isT,Zv,EVs,g1,hx])
 exact Qh (ZhC _ _ _) rfl key (Qj (cell:=false) (by rw[Zm,Zm]))
noncomputable def names12:List T:=[.str [97],.str [97,98],.str [98],.str [97,110,121,97],.str [105,115,108,97,110,100],.str [97,98,99],.str [122],.str [98,121,98,121,101],.str [111,114,100,101,114],.str [110,111,116,101,115],.str [99],.str [122,122,122,122,122,122,122,122]]
theorem Zfl{n:Nat}{m:Mem}{k:Int}:∃cs,cf (n+1) 7 [.t (.int k)] m=.ok (.t (.str cs)) m/\okS cs=true:=by
 obtain⟨w,hw,hm⟩:=Qa (xs:=names12) (i:=k%12) (by omega) (by simp[names12];omega)
 have hw':∃cs:List Nat,w=.str cs/\okS cs=true:=by
  simp only[names12,List.mem_cons,List.not_mem_nil,or_false]at hm
  rcases hm with rfl|rfl|rfl|rfl|rfl|rfl|rfl|rfl|rfl|rfl|rfl|rfl<;>exact⟨_,rfl,by decide +kernel⟩
 obtain⟨cs,rfl,hwb⟩:=hw'
 refine⟨cs,?_,hwb⟩
 have key:ex (cf n) gv ZaA [some (.t (.int k)),none] m=.ok (.ret (.t (.str cs))) m:=by
  unfold ZaA
  rw[Zr (w:=.t (.lst names12)) (m1:=m) (by simp[ev,evs,isT,Zv,EVs,lim,names12])]
  exact ZG (by simp[ev,evs,isT,Zv,EVs,ZcK,hw])
 exact Qh (ZhD _ _ _) rfl key (Qj (cell:=false) rfl)
theorem ZbO{n:Nat}{m:Mem}{i:Nat}{s:List T}(hi:i<m.length)(hs:IsSt s):∃(v:Int) (s':List T),cf (n+2) 8 [.c i] (put m i s)=.ok (.t (.int v)) (put m i s')/\IsSt s'/\0<=v/\v<=1000000000:=by
 have key:∃(v:Int) (s':List T),ex (cf (n+1)) gv Jh [some (.c i)] (put m i s)=.ok (.ret (.t (.int v))) (put m i s')/\IsSt s'/\0<=v/\v<=1000000000:=by
  obtain⟨r1,s1,h1,hs1,a0,a1⟩:=Zi (n:=n) (many:=6) hi hs (by decide) (by decide)
  obtain⟨r2,s2,h2,hs2,b0,b1⟩:=Zi (n:=n) (many:=6) hi hs1 (by decide) (by decide)
  obtain⟨r3,s3,h3,hs3,c0,c1⟩:=Zi (n:=n) (many:=3) hi hs2 (by decide) (by decide)
  obtain⟨r5,s5,h5,hs5,k0,k1⟩:=Zi (n:=n) (many:=3) hi hs3 (by decide) (by decide)
  obtain⟨z,hz,hzm⟩:=Qa (xs:=[T.int r1,.int r2,.int (1000000000-r3)]) k0 (by simpa using k1)
  have hz':∃v:Int,z=.int v/\0<=v/\v<=1000000000:=by
   simp only[List.mem_cons,List.not_mem_nil,or_false]at hzm
   rcases hzm with rfl|rfl|rfl<;>exact⟨_,rfl,by omega,by omega⟩
  obtain⟨v,rfl,hv⟩:=hz'
  refine⟨v,s5,?_,hs5,hv⟩
  unfold Jh
  exact ZG (by simp[ev,evs,isT,Zv,EVs,h1,h2,h3,h5,b_pow,lim,hz])
 obtain⟨v,s',e,hs',hl⟩:=key
 refine⟨v,s',?_,hs',hl⟩
 exact Qh (Zeb _ _ _) rfl e (Qj (cell:=false) (by rw[Zm,Zm]))
theorem turns3{R:T->List T->Prop}{a b c:T}{xss:List (List T)}(h:Turns R [a,b,c] xss):∃x y z,xss=[x,y,z]/\R a x/\R b y/\R c z:=by
 cases h with
 |cons r1 h=>cases h with
  |cons r2 h=>cases h with
   |cons r3 h=>cases h;exact⟨_,_,_,rfl,r1,r2,r3⟩
theorem turns2{R:T->List T->Prop}{a b:T}{xss:List (List T)}(h:Turns R [a,b] xss):∃x y,xss=[x,y]/\R a x/\R b y:=by
 cases h with
 |cons r1 h=>cases h with
  |cons r2 h=>cases h;exact⟨_,_,rfl,r1,r2⟩
theorem ZdV{n:Nat}{m:Mem}{i:Nat}{s:List T}{e1 e2 e3 e4:Option W}(hi:i<m.length)(hs:IsSt s):
  ∃(mk:List (List Nat)) (s':List T),ev (cf (n+1)) gv Zav [some (.c i),e1,e2,e3,e4] (put m i s)=.ok (.t (.lst (mk.map .str))) (put m i s')/\IsSt s'/\mk.length<=100/\∀w∈mk,okS w=true:=by
 obtain⟨xss,m',h2,⟨s2,rfl,hs2⟩,ht⟩:=XX (f:=QH (cf (n+1)) gv (.cons (.cmp .Eq (.call 5 (.cons (.var 1) (.cons (.con (.int 2)) .nil))) (.con (.int 1))) .nil) JX) (tg:=.nm 0) (env:=[none,some (.c i)]) (P:=λm'=>∃s,m'=put m i s/\IsSt s) (R:=λt xs=>xs=[]∨xs=[t]) [.str [102,114,101,115,104],.str [111,108,100],.str [111,108,100,115]] (put m i s) ⟨s,rfl,hs⟩ (by
  rintro t ht m' ⟨s,rfl,hs⟩
  obtain⟨q,s3,h3,hs3,hq0,hq1⟩:=Zi (n:=n) (many:=2) hi hs (by decide) (by decide)
  by_cases hq:q=1
  ·exact⟨[some (.t t),some (.c i)],[t],put m i s3,rfl,by simp[QH,tests,JX,ev,evs,isT,Zv,EVs,h3,hq],⟨s3,rfl,hs3⟩,.inr rfl⟩
  ·exact⟨[some (.t t),some (.c i)],[],put m i s3,rfl,by simp[QH,tests,JX,ev,evs,isT,Zv,EVs,h3,hq],⟨s3,rfl,hs3⟩,.inl rfl⟩)
 obtain⟨x,y,z,rfl,r1,r2,r3⟩:=turns3 ht
 have hx:∃mk:List (List Nat),[x,y,z].flatten=mk.map T.str/\mk.length<=100/\∀w∈mk,okS w=true:=by
  have a1:okS [102,114,101,115,104]=true:=by decide +kernel
  have a2:okS [111,108,100]=true:=by decide +kernel
  have a3:okS [111,108,100,115]=true:=by decide +kernel
  rcases r1 with rfl|rfl<;>rcases r2 with rfl|rfl<;>rcases r3 with rfl|rfl
  ·exact⟨[],rfl,by decide,by simp⟩
  ·exact⟨[_],rfl,by decide,by simp[a3]⟩
  ·exact⟨[_],rfl,by decide,by simp[a2]⟩
  ·exact⟨[_,_],rfl,by decide,by simp[a2,a3]⟩
  ·exact⟨[_],rfl,by decide,by simp[a1]⟩
  ·exact⟨[_,_],rfl,by decide,by simp[a1,a3]⟩
  ·exact⟨[_,_],rfl,by decide,by simp[a1,a2]⟩
  ·exact⟨[_,_,_],rfl,by decide,by simp[a1,a2,a3]⟩
 obtain⟨mk,e,hl,hk⟩:=hx
 rw[e]at h2
 exact⟨mk,s2,QC (x:=.t (.lst [.str [102,114,101,115,104],.str [111,108,100],.str [111,108,100,115]])) (m0:=put m i s) (m1:=put m i s) rfl rfl h2 (by rw[List.length_map];unfold lim;omega),hs2,hl,hk⟩
theorem Zdx{n:Nat}{m:Mem}{i:Nat}{s:List T}{e1 e2 e3 e4:Option W}(hi:i<m.length)(hs:IsSt s):
  ∃(sz:List (List Nat×Int)) (s':List T),ev (cf (n+2)) gv Zb5 [some (.c i),e1,e2,e3,e4] (put m i s)=.ok (.t (.lst (sz.map ZdK))) (put m i s')/\IsSt s'/\sz.length<=100/\∀p∈sz,okS p.1=true:=by
 obtain⟨xss,m',h2,⟨s2,rfl,hs2⟩,ht⟩:=XX (f:=QH (cf (n+2)) gv (.cons (.cmp .Eq (.call 5 (.cons (.var 1) (.cons (.con (.int 2)) .nil))) (.con (.int 1))) .nil) JZ) (tg:=.nm 0) (env:=[none,some (.c i)]) (P:=λm'=>∃s,m'=put m i s/\IsSt s) (R:=λt xs=>xs=[]∨∃v:Int,0<=v/\v<=1000000000/\xs=[.tup [t,.int v]]) [.str [112,114,105,99,101],.str [119,105,100,101]] (put m i s) ⟨s,rfl,hs⟩ (by
  rintro t ht m' ⟨s,rfl,hs⟩
  obtain⟨q,s3,h3,hs3,hq0,hq1⟩:=Zi (n:=n+1) (many:=2) hi hs (by decide) (by decide)
  by_cases hq:q=1
  ·obtain⟨v,s4,h4,hs4,v0,v1⟩:=ZbO (n:=n) hi hs3
   exact⟨[some (.t t),some (.c i)],[.tup [t,.int v]],put m i s4,rfl,by simp[QH,tests,JZ,ev,evs,isT,Zv,EVs,h3,hq,h4,lim],⟨s4,rfl,hs4⟩,.inr ⟨v,v0,v1,rfl⟩⟩
  ·exact⟨[some (.t t),some (.c i)],[],put m i s3,rfl,by simp[QH,tests,JZ,ev,evs,isT,Zv,EVs,h3,hq],⟨s3,rfl,hs3⟩,.inl rfl⟩)
 obtain⟨x,y,rfl,r1,r2⟩:=turns2 ht
 have hx:∃sz:List (List Nat×Int),[x,y].flatten=sz.map ZdK/\sz.length<=100/\∀p∈sz,okS p.1=true:=by
  have a1:okS [112,114,105,99,101]=true:=by decide +kernel
  have a2:okS [119,105,100,101]=true:=by decide +kernel
  rcases r1 with rfl|⟨v,_,_,rfl⟩<;>rcases r2 with rfl|⟨u,_,_,rfl⟩
  ·exact⟨[],rfl,by decide,by simp⟩
  ·exact⟨[(_,u)],rfl,by simp,by simp[a2]⟩
  ·exact⟨[(_,v)],rfl,by simp,by simp[a1]⟩
  ·exact⟨[(_,v),(_,u)],rfl,by simp,by simp[a1,a2]⟩
 obtain⟨sz,e,hl,hk⟩:=hx
 rw[e]at h2
 exact⟨sz,s2,QC (x:=.t (.lst [.str [112,114,105,99,101],.str [119,105,100,101]])) (m0:=put m i s) (m1:=put m i s) rfl rfl h2 (by rw[List.length_map];unfold lim;omega),hs2,hl,hk⟩
noncomputable def ZhJ(nm kd:List Nat)(mk:List (List Nat))(sz:List (List Nat×Int)):Prop:=mk.length<=100/\sz.length<=100/\(∀w∈mk,okS w=true)/\(∀p∈sz,okS p.1=true)/\okS nm=true/\okS kd=true
theorem ZjZ{n:Nat}{m:Mem}{i:Nat}{s:List T}{nm kd:List Nat}(hi:i<m.length)(hs:IsSt s)(h1:okS nm=true)(h2:okS kd=true):∃(mk:List (List Nat)) (sz:List (List Nat×Int)) (s':List T),cf (n+3) 9 [.c i,.t (.str nm),.t (.str kd)] (put m i s)=.ok (.t (Zed nm kd mk sz)) (put m i s')/\IsSt s'/\ZhJ nm kd mk sz:=by
 obtain⟨mk,s1,g1,hs1,m1,m2⟩:=ZdV (n:=n+1) (e1:=some (.t (.str nm))) (e2:=some (.t (.str kd))) (e3:=none) (e4:=none) hi hs
 obtain⟨sz,s2,g2,hs2,z1,z2⟩:=Zdx (n:=n) (e1:=some (.t (.str nm))) (e2:=some (.t (.str kd))) (e3:=some (.t (.tup (mk.map .str)))) (e4:=none) hi hs1
 refine⟨mk,sz,s2,?_,hs2,m1,z1,m2,z2,h1,h2⟩
 have key:ex (cf (n+2)) gv ZaC [some (.c i),some (.t (.str nm)),some (.t (.str kd)),none,none] (put m i s)=.ok (.ret (.t (Zed nm kd mk sz))) (put m i s2):=by
  unfold ZaC
  have g1:ev (cf (n+2)) gv Zav [some (.c i),some (.t (.str nm)),some (.t (.str kd)),none,none] (put m i s)=.ok (.t (.lst (mk.map .str))) (put m i s1):=g1
  rw[Zr (w:=.t (.tup (mk.map .str))) (m1:=put m i s1) (QV (bb:=.tuple) g1 (Zde _))]
  simp only[List.set_cons_succ,List.set_cons_zero]
  rw[Zr (w:=.t (.tup (sz.map ZdK))) (m1:=put m i s2) (QV (bb:=.tuple) g2 (Zde _))]
  exact ZG rfl
 exact Qh (ZhF _ _ _) rfl key (Qj (cell:=false) (by rw[Zm,Zm]))
theorem Zes{Q:T->Prop}{ts:List T}{xss:List (List T)}(h:Turns (λ_ xs=>∃w,xs=[w]/\Q w) ts xss):∃ws:List T,xss.flatten=ws/\ws.length=ts.length/\∀w∈ws,Q w:=by
 induction h with
 |nil=>exact⟨[],rfl,rfl,λw hw=>by cases hw⟩
 |cons h _ ih =>
  obtain⟨w,rfl,hq⟩:=h
  obtain⟨ws,h1,h2,h3⟩:=ih
  refine⟨w::ws,by rw[List.flatten_cons,h1];rfl,by simp[h2],λx hx=>?_⟩
  rcases List.mem_cons.mp hx with rfl|hx
  ·exact hq
  ·exact h3 x hx
theorem ZbG{n:Nat}{m:Mem}{i:Nat}{s:List T}{ws:List (List Nat)}(hi:i<m.length)(hs:IsSt s)(h0:0<ws.length)(h1:ws.length<1000)(hw:∀w∈ws,okS w=true):
  ∃w s',cf (n+2) 6 [.c i,.t (.lst (ws.map .str))] (put m i s)=.ok (.t (.str w)) (put m i s')/\IsSt s'/\okS w=true/\w∈ws:=by
 obtain⟨x,s',g,hs',hx⟩:=ZeX (n:=n) (xs:=ws.map .str) hi hs (by rw[List.length_map];exact h0) (by rw[List.length_map];exact h1)
 obtain⟨w,hw',rfl⟩:=List.mem_map.mp hx
 exact⟨w,s',g,hs',hw w hw',hw'⟩
theorem Zdd{n d:Nat}{m:Mem}{i:Nat}{s:List T}{r:Int}(hi:i<m.length)(hs:IsSt s)(r0:0<=r)(r6:r<6)(k1 k2:S):
  ∃(t:T) (s':List T),ex (cf (n+3)) gv (.ife (.cmp .Lt (.var 2) (.con (.int 2))) (.ret (.tup (.cons (.con (.str [97,110,121])) .nil)) .done) .done (.ife (.cmp .Eq (.var 2) (.con (.int 2))) (.ret (.tup (.cons (.con (.str [105,115])) (.cons (.call 6 (.cons (.var 0) (.cons (.lst (.cons (.con (.str [102,114,101,115,104])) (.cons (.con (.str [111,108,100])) (.cons (.con (.str [111,108,100,115])) (.cons (.con (.str [110,101,119])) .nil))))) .nil))) .nil))) .done) .done (.ife (.cmp .Eq (.var 2) (.con (.int 3))) (.ret (.tup (.cons (.con (.str [98,121])) (.cons (.call 7 (.cons (.call 5 (.cons (.var 0) (.cons (.con (.int 12)) .nil))) .nil)) .nil))) .done) .done (.ife (.cmp .Lt (.var 2) (.con (.int 6))) (.ret (.tup (.cons (.ix (.lst (.cons (.con (.str [108,101,97,115,116])) (.cons (.con (.str [109,111,115,116])) .nil))) (.bin .Sub (.var 2) (.con (.int 4)))) (.cons (.call 6 (.cons (.var 0) (.cons (.lst (.cons (.con (.str [112,114,105,99,101])) (.cons (.con (.str [119,105,100,101])) (.cons (.con (.str [102,97,114])) .nil)))) .nil))) (.cons (.call 8 (.cons (.var 0) .nil)) .nil)))) .done) .done k1)))) [some (.c i),some (.t (.int (d:Int))),some (.t (.int r)),none] (put m i s)=.ok (.ret (.t t)) (put m i s')/\IsSt s'/\Lf t/\Dk 0 t:=by
 have a0:okS [97,110,121]=true:=by decide +kernel
 have a1:okS [105,115]=true:=by decide +kernel
 have a2:okS [98,121]=true:=by decide +kernel
 have a3:okS [108,101,97,115,116]=true:=by decide +kernel
 have a4:okS [109,111,115,116]=true:=by decide +kernel
 have dk1:∀a:List Nat,okS a=true->Dk 0 (.tup [.str a]):=λa h k=>by
  show Zk k [.str a]=true
  unfold okS at h
  simp[Zk,Zg,h]
 have dk2:∀a b:List Nat,okS a=true->okS b=true->Dk 0 (.tup [.str a,.str b]):=λa b h h' k=>by
  show Zk k [.str a,.str b]=true
  unfold okS at h h'
  simp[Zk,Zg,h,h']
 have dk3:∀(a b:List Nat) (v:Int),okS a=true->okS b=true->Dk 0 (.tup [.str a,.str b,.int v]):=λa b v h h' k=>by
  show Zk k [.str a,.str b,.int v]=true
  unfold okS at h h'
  simp[Zk,Zg,h,h']
 by_cases h2:r<2
 ·exact⟨_,s,QX (m1:=put m i s) (by simp[ev,evs,isT,Zv,EVs,h2]) (ZG rfl),hs,.any,dk1 _ a0⟩
 rw[Z9 (m1:=put m i s) (by simp[ev,evs,isT,Zv,EVs,h2]<;>omega)]
 by_cases h3:r=2
 ·obtain⟨w,s2,g2,hs2,hw2,_⟩:=ZbG (n:=n+1) (ws:=[[102,114,101,115,104],[111,108,100],[111,108,100,115],[110,101,119]]) hi hs (by simp) (by simp) (by
   intro w hw
   simp only[List.mem_cons,List.not_mem_nil,or_false]at hw
   rcases hw with rfl|rfl|rfl|rfl<;>decide +kernel)
  simp only[List.map_cons,List.map_nil]at g2
  exact⟨_,s2,QX (m1:=put m i s) (by simp[ev,evs,isT,Zv,EVs,h3]) (ZG (Xy (Zc (Zb _) (Zc ((Zu (Zc (Za rfl) (Zc (Z3 (Zc (Zb _) (Zc (Zb _) (Zc (Zb _) (Zc (Zb _) Zj)))) rfl ZK) Zj))).trans g2) Zj)) rfl ZK)),hs2,.is w,dk2 _ _ a1 hw2⟩
 rw[Z9 (m1:=put m i s) (by simp[ev,evs,isT,Zv,EVs,h3])]
 by_cases h4:r=3
 ·obtain⟨q,s1,g1,hs1,_,_⟩:=Zi (n:=n+2) (many:=12) hi hs (by decide) (by decide)
  obtain⟨w,g2,hw2⟩:=Zfl (n:=n+2) (m:=put m i s1) (k:=q)
  exact⟨_,s1,QX (m1:=put m i s) (by simp[ev,evs,isT,Zv,EVs,h4]) (ZG (Xy (Zc (Zb _) (Zc ((Zu (Zc ((Zu (Zc (Za rfl) (Zc (Zb _) Zj))).trans g1) Zj)).trans g2) Zj)) rfl ZK)),hs1,.by w,dk2 _ _ a2 hw2⟩
 rw[Z9 (m1:=put m i s) (by simp[ev,evs,isT,Zv,EVs,h4])]
 obtain⟨z,hz,hzm⟩:=Qa (xs:=[T.str [108,101,97,115,116],.str [109,111,115,116]]) (i:=r-4) (by omega) (by simp;omega)
 obtain⟨v,s2,g2,hs2,hv2,_⟩:=ZbG (n:=n+1) (ws:=[[112,114,105,99,101],[119,105,100,101],[102,97,114]]) hi hs (by simp) (by simp) (by
   intro w hw
   simp only[List.mem_cons,List.not_mem_nil,or_false]at hw
   rcases hw with rfl|rfl|rfl<;>decide +kernel)
 simp only[List.map_cons,List.map_nil]at g2
 obtain⟨k,s3,g3,hs3,k0,k1⟩:=ZbO (n:=n+1) hi hs2
 simp only[List.mem_cons,List.not_mem_nil,or_false]at hzm
 rcases hzm with rfl|rfl
 ·exact⟨_,s3,QX (m1:=put m i s) (by simp[ev,evs,isT,Zv,EVs,r6]) (ZG (Xy (Zc (Qz (Z3 (Zc (Zb _) (Zc (Zb _) Zj)) rfl ZK) (Zy (Za rfl) (Zb _) rfl) hz) (Zc ((Zu (Zc (Za rfl) (Zc (Z3 (Zc (Zb _) (Zc (Zb _) (Zc (Zb _) Zj))) rfl ZK) Zj))).trans g2) (Zc ((Zu (Zc (Za rfl) Zj)).trans g3) Zj))) rfl ZK)),hs3,.least v k,dk3 _ _ _ a3 hv2⟩
 ·exact⟨_,s3,QX (m1:=put m i s) (by simp[ev,evs,isT,Zv,EVs,r6]) (ZG (Xy (Zc (Qz (Z3 (Zc (Zb _) (Zc (Zb _) Zj)) rfl ZK) (Zy (Za rfl) (Zb _) rfl) hz) (Zc ((Zu (Zc (Za rfl) (Zc (Z3 (Zc (Zb _) (Zc (Zb _) (Zc (Zb _) Zj))) rfl ZK) Zj))).trans g2) (Zc ((Zu (Zc (Za rfl) Zj)).trans g3) Zj))) rfl ZK)),hs3,.most v k,dk3 _ _ _ a4 hv2⟩
theorem Zdw{n d:Nat}{m:Mem}{r:Int}{e0 e1 e3:Option W}(r6:6<=r){a1 a2 a3 a4 k:S}:
  ex (cf n) gv (.ife (.cmp .Lt (.var 2) (.con (.int 2))) a1 .done (.ife (.cmp .Eq (.var 2) (.con (.int 2))) a2 .done (.ife (.cmp .Eq (.var 2) (.con (.int 3))) a3 .done (.ife (.cmp .Lt (.var 2) (.con (.int 6))) a4 .done k)))) [e0,e1,some (.t (.int r)),e3] m=ex (cf n) gv k [e0,e1,some (.t (.int r)),e3] m:=by
 have h1:¬r<2:=by omega
 have h2:¬r=2:=by omega
 have h3:¬r=3:=by omega
 have h4:¬r<6:=by omega
 rw[Z9 (m1:=m) (by simp[ev,evs,isT,Zv,EVs,h1]),Z9 (m1:=m) (by simp[ev,evs,isT,Zv,EVs,h2]),Z9 (m1:=m) (by simp[ev,evs,isT,Zv,EVs,h3]),Z9 (m1:=m) (by simp[ev,evs,isT,Zv,EVs,h4])]
theorem m30:binT .Mult (.int 3) (.int 0)=some (.int 0):=rfl
theorem m31:binT .Mult (.int 3) (.int 1)=some (.int 3):=rfl
theorem Dk.mono{d e:Nat}{t:T}(h:Dk d t)(he:d<=e):Dk e t:=λk=>by
 have:=h (k+2*(e-d))
 rw[show k+2*(e-d)+(2*d+1)=k+(2*e+1) by omega]at this
 exact this
theorem dk_nt{d:Nat}{a:T}(h:Dk d a):Dk (d+1) (.tup [.str [110,111,116],a]):=λk=>by
 have h1:=h (k+1)
 rw[show k+1+(2*d+1)=k+(2*d+2) by omega]at h1
 have h2:okS [110,111,116]=true:=by decide +kernel
 unfold okS at h2
 rw[show k+(2*(d+1)+1)=k+(2*d+2)+1 by omega,Zg]
 simp[Zk,Zg,h1,h2]
theorem QB{n:Nat}:∀{ts:List T},Zk n ts=true↔∀t∈ts,Zg n t=true
 |[]=>by simp[Zk]
 |t::ts=>by simp[Zk,QB (ts:=ts)]
theorem dk_jn{d:Nat}{b:Bool}{ts:List T}(h:∀t∈ts,Dk d t):Dk (d+1) (.tup [.str (if b then[97,110,100]else[111,114]),.tup ts]):=λk=>by
 have h1:Zk (k+(2*d+1)) ts=true:=QB.mpr λt ht=>h t ht k
 have h2:okS (if b then[97,110,100]else[111,114])=true:=by cases b<;>decide +kernel
 unfold okS at h2
 rw[show k+(2*(d+1)+1)=k+(2*d+1)+1+1 by omega,Zg,Zk,Zk,Zk,Zg,Zg,h1,h2]
 rfl
theorem Zik:∀(d:Nat) {n:Nat}{m:Mem}{i:Nat}{s:List T},i<m.length->IsSt s->∃(t:T) (s':List T),cf (n+(d+4)) 10 [.c i,.t (.int (d:Int))] (put m i s)=.ok (.t t) (put m i s')/\IsSt s'/\DW d t/\Dk d t:=by
 intro d
 induction d with
 |zero =>
  intro n m i s hi hs
  obtain⟨r,s1,h1,hs1,r0,r1⟩:=Zi (n:=n+2) (many:=6) hi hs (by decide) (by decide)
  obtain⟨t,s2,h2,hs2,hl⟩:=Zdd (n:=n) (d:=0) hi hs1 r0 r1 _ .done
  refine⟨t,s2,?_,hs2,.leaf hl.1,hl.2⟩
  have e:ex (cf (n+3)) gv Jx [some (.c i),some (.t (.int 0)),none,none] (put m i s)=.ok (.ret (.t t)) (put m i s2):=by
   unfold Jx
   rw[Zr (w:=.t (.int r)) (m1:=put m i s1) (by simp[ev,evs,isT,Zv,EVs,m30,b2i,h1])]
   exact h2
  show cf (n+3+1) _ _ _=_
  exact Qh (Zdm _ _ _) rfl e (Qj (cell:=false) (by rw[Zm,Zm]))
 |succ d ih =>
  intro n m i s hi hs
  have key:∃(t:T) (s':List T),ex (cf (n+(d+4))) gv Jx [some (.c i),some (.t (.int ((d:Int)+1))),none,none] (put m i s)=.ok (.ret (.t t)) (put m i s')/\IsSt s'/\DW (d+1) t/\Dk (d+1) t:=by
   obtain⟨r,s1,h1,hs1,r0,r1⟩:=Zi (n:=n+(d+3)) (many:=9) hi hs (by decide) (by decide)
   have h1:cf (n+(d+4)) 5 [.c i,.t (.int 9)] (put m i s)=_:=h1
   have hd0:(0:Int)<(d:Int)+1:=by omega
   have hm:ev (cf (n+(d+4))) gv (.call 5 (.cons (.var 0) (.cons (.bin .Add (.con (.int 6)) (.bin .Mult (.con (.int 3)) (.blt .int (.cons (.cmp .Gt (.var 1) (.con (.int 0))) .nil)))) .nil))) [some (.c i),some (.t (.int ((d:Int)+1))),none,none] (put m i s)=.ok (.t (.int r)) (put m i s1):=by
    simp[ev,evs,isT,Zv,EVs,m31,b2i,hd0,h1]
   unfold Jx
   rw[Zr hm]
   simp only[List.set_cons_succ,List.set_cons_zero]
   by_cases h6:r<6
   ·obtain⟨t,s2,h2,hs2,hl⟩:=Zdd (n:=n+(d+1)) (d:=d+1) hi hs1 r0 h6 _ .done
    rw[show((d+1:Nat):Int)=(d:Int)+1 by omega]at h2
    exact⟨t,s2,h2,hs2,.leaf hl.1,hl.2.mono (Nat.zero_le _)⟩
   rw[Zdw (d:=d) (by omega)]
   have hsub:(d:Int)+1-1=(d:Int):=by omega
   by_cases h7:r=6
   ·obtain⟨t,s2,h4,hs2,hw⟩:=ih (n:=n) hi hs1
    exact⟨_,s2,QX (m1:=put m i s1) (by simp[ev,evs,isT,Zv,EVs,h7]) (ZG (by simp[ev,evs,isT,Zv,EVs,hsub,h4,lim])),hs2,.nt hw.1,dk_nt hw.2⟩
   rw[Z9 (m1:=put m i s1) (by simp[ev,evs,isT,Zv,EVs,h7])]
   obtain⟨q,s2,h4,hs2,q0,q1⟩:=Zi (n:=n+(d+3)) (many:=2) hi hs1 (by decide) (by decide)
   have h4:cf (n+(d+4)) 5 [.c i,.t (.int 2)] (put m i s1)=_:=h4
   rw[Zr (w:=.t (.int (2+q))) (m1:=put m i s2) (by simp[ev,evs,isT,Zv,EVs,h4])]
   simp only[List.set_cons_succ,List.set_cons_zero]
   obtain⟨z,hz,hzm⟩:=Qa (xs:=[T.str [97,110,100],.str [111,114]]) (i:=r-7) (by omega) (by simp;omega)
   have hz':∃b:Bool,z=.str (if b then[97,110,100]else[111,114]):=by
    simp only[List.mem_cons,List.not_mem_nil,or_false]at hzm
    rcases hzm with rfl|rfl
    ·exact⟨true,rfl⟩
    ·exact⟨false,rfl⟩
   obtain⟨b,rfl⟩:=hz'
   obtain⟨xss,m',h5,⟨s3,rfl,hs3⟩,ht⟩:=XX (f:=QH (cf (n+(d+4))) gv .nil Zap) (tg:=.nm 0) (env:=[none,some (.c i),some (.t (.int ((d:Int)+1)))]) (P:=λm'=>∃s,m'=put m i s/\IsSt s) (R:=λ_ xs=>∃w,xs=[w]/\DW d w/\Dk d w) (rangeT 0 (2+q).toNat) (put m i s2) ⟨s2,rfl,hs2⟩ (by
    rintro t ht m' ⟨s,rfl,hs⟩
    obtain⟨u,s4,h6,hs4,hu⟩:=ih (n:=n) hi hs
    exact⟨[some (.t t),some (.c i),some (.t (.int ((d:Int)+1)))],[u],put m i s4,rfl,by simp[QH,tests,Zap,ev,evs,isT,Zv,EVs,hsub,h6],⟨s4,rfl,hs4⟩,u,rfl,hu⟩)
   obtain⟨ws,e1,e2,e3⟩:=Zes ht
   have hr:(rangeT 0 (2+q).toNat).length=(2+q).toNat:=by simp[rangeT]
   rw[e1]at h5
   have hc:ev (cf (n+(d+4))) gv Zb4 [some (.c i),some (.t (.int ((d:Int)+1))),some (.t (.int r)),some (.t (.int (2+q)))] (put m i s2)=.ok (.t (.lst ws)) (put m i s3):=by
    refine QC (x:=.t (.lst (rangeT 0 (2+q).toNat))) (m0:=put m i s2) (m1:=put m i s2) ?_ rfl h5 (by rw[e2,hr];unfold lim;omega)
    exact QV (by rw[ev];rfl) (Zhh (show 2+q<2^62/\-(2^62)<=2+q by omega))
   refine⟨_,s3,ZG (w:=.t (.tup [.str (if b then[97,110,100]else[111,114]),.tup ws])) (by simp[ev,evs,isT,Zv,EVs,hz,hc,lim]),hs3,.jn (by omega) (λt ht=>(e3 t ht).1),dk_jn λt ht=>(e3 t ht).2⟩
  obtain⟨t,s',e,hs',hl⟩:=key
  refine⟨t,s',?_,hs',hl⟩
  rw[show((d+1:Nat):Int)=(d:Int)+1 by omega]
  show cf (n+(d+4)+1) _ _ _=_
  exact Qh (Zdm _ _ _) rfl e (Qj (cell:=false) (by rw[Zm,Zm]))
noncomputable def offT(sd nm kd:List Nat)(mk:List (List Nat))(sz:List (List Nat×Int))(w:T)(many least wt till:Int):T:=.tup [.str sd,Zed nm kd mk sz,w,.int many,.int least,.int wt,.int till]
theorem Zg7{n:Nat}{m:Mem}{i:Nat}{s:List T}{sd nm kd:List Nat}{till:Int}(hi:i<m.length)(hs:IsSt s)(h1:okS nm=true)(h2:okS kd=true):
  ∃(mk:List (List Nat)) (sz:List (List Nat×Int)) (w:T) (many least weight:Int) (s':List T),cf (n+7) 11 [.c i,.t (.str sd),.t (.str nm),.t (.str kd),.t (.int till)] (put m i s)=.ok (.t (offT sd nm kd mk sz w many least weight till)) (put m i s')/\IsSt s'/\ZhJ nm kd mk sz/\(DW 2 w/\Dk 2 w)/\(1<=many/\many<=1000000)/\(1<=least/\least<=many)/\(0<=weight/\weight<=1000):=by
 obtain⟨a1,s1,d1,hs1,a10,a11⟩:=Zi (n:=n+5) (many:=9) hi hs (by decide) (by decide)
 obtain⟨a2,s2,d2,hs2,a20,a21⟩:=Zi (n:=n+5) (many:=9) hi hs1 (by decide) (by decide)
 obtain⟨a3,s3,d3,hs3,a30,a31⟩:=Zi (n:=n+5) (many:=1000000) hi hs2 (by decide) (by decide)
 obtain⟨a4,s4,d4,hs4,a40,a41⟩:=Zi (n:=n+5) (many:=3) hi hs3 (by decide) (by decide)
 obtain⟨z,hz,hzm⟩:=Qa (xs:=[T.int (1+a1),.int (1+a2),.int (1+a3)]) a40 (by simpa using a41)
 have hz':∃v:Int,z=.int v/\1<=v/\v<=1000000:=by
  simp only[List.mem_cons,List.not_mem_nil,or_false]at hzm
  rcases hzm with rfl|rfl|rfl<;>exact⟨_,rfl,by omega,by omega⟩
 obtain⟨many,rfl,m1,m2⟩:=hz'
 obtain⟨b1,s5,d5,hs5,b10,b11⟩:=Zi (n:=n+5) (many:=many) hi hs4 (by omega) (by omega)
 obtain⟨b2,s6,d6,hs6,b20,b21⟩:=Zi (n:=n+5) (many:=3) hi hs5 (by decide) (by decide)
 obtain⟨z,hz2,hzm⟩:=Qa (xs:=[T.int 1,.int (1+b1),.int many]) b20 (by simpa using b21)
 have hz':∃v:Int,z=.int v/\1<=v/\v<=many:=by
  simp only[List.mem_cons,List.not_mem_nil,or_false]at hzm
  rcases hzm with rfl|rfl|rfl<;>exact⟨_,rfl,by omega,by omega⟩
 obtain⟨least,rfl,l1,l2⟩:=hz'
 obtain⟨w0,s7,d7,hs7,hw0⟩:=Zik 2 (n:=n) hi hs6
 have d7:cf (n+6) 10 [.c i,.t (.int 2)] (put m i s6)=.ok (.t w0) (put m i s7):=d7
 obtain⟨c1,s8,d8,hs8,c10,c11⟩:=Zi (n:=n+5) (many:=2) hi hs7 (by decide) (by decide)
 obtain⟨w,hz3,hzm⟩:=Qa (xs:=[T.tup [.str [97,110,121]],w0]) c10 (by simpa using c11)
 have hw:DW 2 w/\Dk 2 w:=by
  simp only[List.mem_cons,List.not_mem_nil,or_false]at hzm
  rcases hzm with rfl|rfl
  ·exact⟨.leaf .any,λk=>by
    show Zk (k+4) [.str [97,110,121]]=true
    have h:okS [97,110,121]=true:=by decide +kernel
    unfold okS at h
    simp[Zk,Zg,h]⟩
  ·exact hw0
 obtain⟨e1,s9,d9,hs9,e10,e11⟩:=Zi (n:=n+5) (many:=3) hi hs8 (by decide) (by decide)
 obtain⟨e2,s10,d10,hs10,e20,e21⟩:=Zi (n:=n+5) (many:=1001) hi hs9 (by decide) (by decide)
 obtain⟨e3,s11,d11,hs11,e30,e31⟩:=Zi (n:=n+5) (many:=2) hi hs10 (by decide) (by decide)
 obtain⟨z,hz4,hzm⟩:=Qa (xs:=[T.int e1,.int e2]) e30 (by simpa using e31)
 have hz':∃v:Int,z=.int v/\0<=v/\v<=1000:=by
  simp only[List.mem_cons,List.not_mem_nil,or_false]at hzm
  rcases hzm with rfl|rfl<;>exact⟨_,rfl,by omega,by omega⟩
 obtain⟨weight,rfl,g1,g2⟩:=hz'
 obtain⟨mk,sz,s12,d12,hs12,hc⟩:=ZjZ (n:=n+3) hi hs11 h1 h2
 refine⟨mk,sz,w,many,least,weight,s12,?_,hs12,hc,hw,⟨m1,m2⟩,⟨l1,l2⟩,⟨g1,g2⟩⟩
 have key:ex (cf (n+6)) gv X8 [some (.c i),some (.t (.str sd)),some (.t (.str nm)),some (.t (.str kd)),some (.t (.int till)),none,none,none,none] (put m i s)=.ok (.ret (.t (offT sd nm kd mk sz w many least weight till))) (put m i s12):=by
  refine(Zr (w:=.t (.int many)) (m1:=put m i s4) (Qz (Z3 (Zc (Zy (Zb _) ((Zu (Zc (Za rfl) (Zc (Zb _) Zj))).trans d1) rfl) (Zc (Zy (Zb _) ((Zu (Zc (Za rfl) (Zc (Zb _) Zj))).trans d2) rfl) (Zc (Zy (Zb _) ((Zu (Zc (Za rfl) (Zc (Zy (Zb _) (Zb _) rfl) Zj))).trans d3) rfl) Zj))) rfl ZK) ((Zu (Zc (Za rfl) (Zc (Zb _) Zj))).trans d4) hz)).trans ?_
  refine(Zr (w:=.t (.int least)) (m1:=put m i s6) (Qz (Z3 (Zc (Zb _) (Zc (Zy (Zb _) ((Zu (Zc (Za rfl) (Zc (Za rfl) Zj))).trans d5) rfl) (Zc (Za rfl) Zj))) rfl ZK) ((Zu (Zc (Za rfl) (Zc (Zb _) Zj))).trans d6) hz2)).trans ?_
  refine(Zr (w:=.t w) (m1:=put m i s8) (Qz (Z3 (Zc (Xy (Zc (Zb _) Zj) rfl ZK) (Zc ((Zu (Zc (Za rfl) (Zc (Zb _) Zj))).trans d7) Zj)) rfl ZK) ((Zu (Zc (Za rfl) (Zc (Zb _) Zj))).trans d8) hz3)).trans ?_
  refine(Zr (w:=.t (.int weight)) (m1:=put m i s11) (Qz (Z3 (Zc ((Zu (Zc (Za rfl) (Zc (Zb _) Zj))).trans d9) (Zc ((Zu (Zc (Za rfl) (Zc (Zb _) Zj))).trans d10) Zj)) rfl ZK) ((Zu (Zc (Za rfl) (Zc (Zb _) Zj))).trans d11) hz4)).trans ?_
  exact ZG (Xy (Zc (Za rfl) (Zc ((Zu (Zc (Za rfl) (Zc (Za rfl) (Zc (Za rfl) Zj)))).trans d12) (Zc (Za rfl) (Zc (Za rfl) (Zc (Za rfl) (Zc (Za rfl) (Zc (Za rfl) Zj))))))) rfl ZK)
 exact Qh (Zf3 _ _ _) rfl key (Qj (cell:=false) (by rw[Zm,Zm]))
theorem QT{call:Nat->List W->Mem->Res W}{gv:List T}{env:Env}{m:Mem}:ex call gv .done env m=.ok (.next env) m:=by rw[ex]
structure Ent where
 sd:List Nat
 nm:List Nat
 kd:List Nat
 mrk:List (List Nat)
 sz:List (List Nat×Int)
 w:T
 many:Int
 least:Int
 wt:Int
 till:Int
 left:Int
noncomputable def Ent.card(e:Ent):T:=Zed e.nm e.kd e.mrk e.sz
noncomputable def Ent.off(e:Ent):T:=offT e.sd e.nm e.kd e.mrk e.sz e.w e.many e.least e.wt e.till
noncomputable def Ent.t(e:Ent):T:=.tup [e.off,.int e.left]
theorem QM{α:Type}{f:Env->Mem->Res (List T)}{tg:Tg}{env:Env}{m:Mem}{emb:α->T}{g:α->List T}:∀(as:List α),(∀a∈as,∃env',Qs tg (emb a) env=some env'/\f env' m=.ok (g a) m)->Q7 f tg (as.map emb) env m=.ok (as.flatMap g) m
 |[],_=>rfl
 |a::as,h=>by
  obtain⟨env',h1,h2⟩:=h a List.mem_cons_self
  rw[List.map_cons,Q7,h1]
  show(f env' m).bind _=_
  rw[h2,Zh,QM as λx hx=>h x (List.mem_cons_of_mem _ hx)]
  rfl
structure Wt where
 no:Int
 e:Ent
noncomputable def Wt.t(w:Wt):T:=.tup [.int w.no,w.e.off,.int w.e.left]
noncomputable def ZjE:List Nat:=[103,105,118,101]
noncomputable def Zir:List Nat:=[116,97,107,101]
noncomputable def bearS:List Nat:=[98,101,97,114]
section
variable{call:Nat->List W->Mem->Res W}{gv:List T}{env:Env}{m m1:Mem}
theorem compA{α:Type}{own:Nat}{keep:List Nat}{it:E}{tg:Tg}{cs:Es}{inner:E}{x:T}{emb:α->T}{g:α->List T}(as:List α)(hit:ev call gv it env m=.ok (.t x) m)(hb:ZJ (.t x) m=.ok (as.map emb) m)(h:∀a∈as,∃env',Qs tg (emb a) (List.replicate own none++keep.map λi=>(env[i]?).join)=some env'/\QH call gv cs inner env' m=.ok (g a) m)(hz:(as.flatMap g).length<=lim):ev call gv (.comp own keep it tg cs inner) env m=.ok (.t (.lst (as.flatMap g))) m:=
 QC hit hb (QM as h) hz
theorem Zdj{b:Mt}{i j:Nat}{a:E}{c:Bool×List T}{xs ys:List T}{x t:T}(hb:b=.append∨b=.popat∨b=.extend)(hv:env[i]?=some (some (.c j)))(h0:m[j]?=some (some c))(ha:ev call gv a env m=.ok (.t x) m1)(hm:m1[j]?=some (some (false,xs)))(hu:mutM b xs [x]=some (t,ys)):
  ev call gv (.mth b (.var i) (.cons a .nil)) env m=.ok (.t t) (m1.set j (some (false,ys))):=by
 rw[ev,Za hv,Zh]
 have ht:tyM b (.c j) m=true:=by
  rcases hb with rfl|rfl|rfl<;>· unfold tyM;dsimp only;rw[h0]
 rw[if_pos ht,evs,ha,Zh,evs,Zh,Zh]
 rcases hb with rfl|rfl|rfl<;>simp[doM,ZaT,ZaS,Zh,hm,hu]
theorem Xx{α:Type}(p:α->Bool)(F:α->T):∀l:List α,(l.flatMap λa=>if p a then[F a]else[])=(l.filter p).map F
 |[]=>rfl
 |a::l=>by
  rw[List.flatMap_cons,Xx p F l,List.filter_cons]
  cases p a<;>rfl
theorem Jc{c:Option (Bool×List T)}:(m++[c])[m.length]?=some c:=by
 rw[List.getElem?_append_right (Nat.le_refl _),Nat.sub_self]
 rfl
theorem Zci{c d:Option (Bool×List T)}:(m++[c]).set m.length d=m++[d]:=by
 rw[List.set_append_right _ _ (Nat.le_refl _),Nat.sub_self]
 rfl
end
noncomputable def il(ns:List Int):T:=.lst (ns.map .int)
noncomputable def wsT(ws:List Wt):T:=.lst (ws.map Wt.t)
structure EntOk (e:Ent):Prop where
 card:ZhJ e.nm e.kd e.mrk e.sz
 wish:DW 2 e.w/\Dk 2 e.w
 sd:okS e.sd=true
 many:1<=e.many/\e.many<=1000000
theorem Zfk:okS ZjE=true:=by decide +kernel
theorem Zfi:okS Zir=true:=by decide +kernel
theorem Zjh:okS bearS=true:=by decide +kernel
noncomputable def mm(m:Mem)(xs:List T):Mem:=m++[some (false,xs)]
theorem Zfp{m:Mem}{xs:List T}:(mm m xs).length=m.length+1:=by simp[mm]
theorem Zfq{m:Mem}{i:Nat}{s xs:List T}(hi:i<m.length):(put (mm m xs) i s)[m.length]?=some (some (false,xs)):=by
 unfold put mm
 rw[List.getElem?_set_ne (by omega),List.getElem?_append_right (Nat.le_refl _),Nat.sub_self]
 rfl
theorem mm_set{m:Mem}{i:Nat}{s xs ys:List T}(hi:i<m.length):(put (mm m xs) i s).set m.length (some (false,ys))=put (mm m ys) i s:=by
 unfold put mm
 rw[List.set_comm _ _ (by omega),List.set_append_right _ _ (Nat.le_refl _),Nat.sub_self]
 rfl
theorem Zjm{m:Mem}{i:Nat}{s xs:List T}(hi:i<m.length):(put (mm m xs) i s).take m.length=put m i s:=by
 unfold put mm
 rw[List.set_append_left _ _ hi,List.take_left' (by rw[List.length_set])]
theorem mm_nil{m:Mem}{i:Nat}{s:List T}(hi:i<m.length):put m i s++[some (false,[])]=put (mm m []) i s:=by
 unfold put mm
 rw[List.set_append_left _ _ hi]
theorem Zht:∀(n:Nat) (t:T),Zg n t=true->eqT t t=true:=by
 intro n
 induction n with
 |zero =>
  intro t h
  cases t with
  |non=>rfl
  |bl b=>simp[eqT]
  |int b=>simp[eqT]
  |str b=>simp[eqT]
  |tup ts=>simp[Zg]at h
  |lst ts=>simp[Zg]at h
  |dct ks ts=>simp[Zg]at h
  |scr ns=>simp[Zg]at h
 |succ n ih =>
  have hl:∀ts:List T,Zk n ts=true->eqTs ts ts=true:=by
   intro ts
   induction ts with
   |nil=>intro _;rfl
   |cons t ts iht =>
    intro h
    rw[Zk,Bool.and_eq_true]at h
    rw[eqTs,ih t h.1,iht h.2]
    rfl
  intro t h
  cases t with
  |tup ts=>rw[Zg]at h;rw[eqT];exact hl ts h
  |lst ts=>rw[Zg]at h;rw[eqT];exact hl ts h
  |non=>rfl
  |bl b=>simp[eqT]
  |int b=>simp[eqT]
  |str b=>simp[eqT]
  |dct ks ts=>simp[Zg]at h
  |scr ns=>simp[Zg]at h
theorem Zbl{t:T}(h:Zg 60 t=true):cmpT .NotEq t t=some false:=by
 show(if(Zby t t || (Zg 60 t&&Zg 60 t))=true then some (!eqT t t)else none)=_
 rw[h,Bool.true_and,Bool.or_true,if_pos rfl,Zht 60 t h]
 rfl
theorem Zf7{nm kd:List Nat}{mk:List (List Nat)}{sz:List (List Nat×Int)}(h:ZhJ nm kd mk sz):Zg 57 (Zed nm kd mk sz)=true:=by
 obtain⟨_,_,h1,h2,h3,h4⟩:=h
 have e1:Zk 55 (mk.map T.str)=true:=QB.mpr λt ht=>by
  obtain⟨w,hw,rfl⟩:=List.mem_map.mp ht
  exact h1 w hw
 have e2:Zk 55 (sz.map ZdK)=true:=QB.mpr λt ht=>by
  obtain⟨p,hp,rfl⟩:=List.mem_map.mp ht
  have:=h2 p hp
  unfold okS at this
  simp[ZdK,Zg,Zk,this]
 unfold okS at h3 h4
 simp[Zed,Zg,Zk,e1,e2,h3,h4]
theorem Zbn{xs:List T}(h:Zk 59 xs=true):cmpT .Eq (.lst xs) (.lst [])=some xs.isEmpty/\cmpT .NotEq (.lst xs) (.lst [])=some (!xs.isEmpty):=by
 have h1:Zg 60 (.lst xs)=true:=by rw[Zg];exact h
 have h2:Zg 60 (.lst [])=true:=by decide
 have h3:eqT (.lst xs) (.lst [])=xs.isEmpty:=by cases xs<;>simp[eqT,eqTs]
 constructor
 ·show(if(Zby (.lst xs) (.lst []) || (Zg 60 (.lst xs)&&Zg 60 (.lst [])))=true then some (eqT (.lst xs) (.lst []))else none)=_
  rw[h1,h2,Bool.true_and,Bool.or_true,if_pos rfl,h3]
 ·show(if(Zby (.lst xs) (.lst []) || (Zg 60 (.lst xs)&&Zg 60 (.lst [])))=true then some (!eqT (.lst xs) (.lst []))else none)=_
  rw[h1,h2,Bool.true_and,Bool.or_true,if_pos rfl,h3]
theorem ne_int(v:Int):cmpT .NotEq (.int v) (.int v)=some false:=by rw[Zj0];simp
theorem l_list(ts:List T):bltT .list [.lst ts]=some (.lst ts):=rfl
noncomputable def ryeS:List Nat:=[114,121,101]
noncomputable def oatS:List Nat:=[111,97,116]
noncomputable def oS:List Nat:=[111]
structure Wok (w:Wt):Prop where
 ent:EntOk w.e
 kd:w.e.kd=ryeS∨w.e.kd=oatS∨w.e.kd=oS
theorem Zij{w:Wt}(h:EntOk w.e):Zg 59 w.t=true:=by
 have h1:=Zf7 h.card
 have h2:=h.wish.2 52
 have h3:=h.sd
 unfold okS at h3
 have h2:Zg 57 w.e.w=true:=h2
 simp[Wt.t,Ent.off,offT,Zg,Zk,h1,h2,h3]
theorem Zce{ws:List Wt}(h:∀w∈ws,EntOk w.e):Zk 59 (ws.map Wt.t)=true:=by
 refine QB.mpr λt ht=>?_
 obtain⟨e,he,rfl⟩:=List.mem_map.mp ht
 exact Zij (h e he)
theorem Xi{call:Nat->List W->Mem->Res W}{gv:List T}{env:Env}{m m1 m2:Mem}{a b:E}{w:W}{op:PySem.CmpOp}{x y:T}{k:Bool}(h1:ev call gv a env m=.ok w m1)(h2:ev call gv b env m1=.ok (.t y) m2)(hv:view w m2=some x)(h3:cmpT op x y=some k):ev call gv (.cmp op a b) env m=.ok (.t (.bl k)) m2:=by
 rw[ev,h1,Zh,h2,Zh]
 show pur (((view w m2).bind λx=>(some y).bind λy=>cmpT op x y).map .bl) m2=_
 rw[hv]
 show pur ((cmpT op x y).map .bl) m2=_
 rw[h3]
 rfl
theorem Jz{m:Mem}{j:Nat}{xs:List T}(h:m[j]?=some (some (false,xs))):view (.c j) m=some (.lst xs):=by
 unfold view
 dsimp only
 rw[h]
theorem Zj5{α:Type}(xs:List α)(x:α):atT (xs++[x]) (-1)=some x:=by
 have e:ixOf (xs++[x]).length (-1)=some xs.length:=by
  unfold ixOf
  rw[List.length_append,List.length_singleton]
  split
  ·rename_i h;omega
  ·split
   ·exact congrArg some (by omega)
   ·omega
 unfold atT
 rw[e]
 show(xs++[x])[xs.length]?=_
 rw[List.getElem?_append_right (Nat.le_refl _),Nat.sub_self]
 rfl
section
variable{n:Nat}{m:Mem}{i:Nat}{s:List T}
theorem Zer{ws:List Wt}{most turn nb few k:Int}{f7 f8 f9 f10 f11:Option W}(hi:i<m.length)(hs:IsSt s)(hw:∀w∈ws,Wok w)(hl:ws.length<100)(hf:0<=few/\few<3):
  ∃(w:Wt) (s':List T) (nb':Int) (g7 g8 g9 g10 g11:Option W),ex (cf (n+8)) gv Qg [some (.c i),some (.t (.int most)),some (.c m.length),some (.t (.int turn)),some (.t (.int nb)),some (.t (.int few)),some (.t (.int k)),f7,f8,f9,f10,f11] (put (mm m (ws.map Wt.t)) i s) =
   .ok (.next [some (.c i),some (.t (.int most)),some (.c m.length),some (.t (.int turn)),some (.t (.int nb')),some (.t (.int few)),some (.t (.int k)),g7,g8,g9,g10,g11]) (put (mm m ((ws++[w]).map Wt.t)) i s')/\IsSt s'/\Wok w/\w.no=nb/\nb<nb':=by
 have hi':i<(mm m (ws.map Wt.t)).length:=by rw[Zfp];omega
 obtain⟨sd,s1,g1,hs1,hsd⟩:=ZeX (n:=n+6) (xs:=[T.str ZjE,.str Zir,.str ZjE,.str Zir,.str bearS]) hi' hs (by decide) (by decide)
 have hs':∃sd':List Nat,sd=.str sd'/\okS sd'=true:=by
  simp only[List.mem_cons,List.not_mem_nil,or_false]at hsd
  rcases hsd with rfl|rfl|rfl|rfl|rfl
  ·exact⟨_,rfl,Zfk⟩
  ·exact⟨_,rfl,Zfi⟩
  ·exact⟨_,rfl,Zfk⟩
  ·exact⟨_,rfl,Zfi⟩
  ·exact⟨_,rfl,Zjh⟩
 obtain⟨sd,rfl,osd⟩:=hs'
 obtain⟨d2,s2,g2,hs2,a0,a1⟩:=Zi (n:=n+7) (many:=1+few) hi' hs1 (by omega) (by omega)
 obtain⟨kd,hkd,hkm⟩:=Qa (xs:=[T.str ryeS,.str oatS,.str oS]) (i:=d2) a0 (by simp;omega)
 have hk':∃kd':List Nat,kd=.str kd'/\okS kd'=true/\(kd'=ryeS∨kd'=oatS∨kd'=oS):=by
  simp only[List.mem_cons,List.not_mem_nil,or_false]at hkm
  rcases hkm with rfl|rfl|rfl
  ·exact⟨_,rfl,by decide +kernel,.inl rfl⟩
  ·exact⟨_,rfl,by decide +kernel,.inr (.inl rfl)⟩
  ·exact⟨_,rfl,by decide +kernel,.inr (.inr rfl)⟩
 obtain⟨kd,rfl,okd,hk3⟩:=hk'
 obtain⟨d3,s3,g3,hs3,b0,b1⟩:=Zi (n:=n+7) (many:=16) hi' hs2 (by decide) (by decide)
 have hmu:=Zeh (i:=k) (j:=b2i (decide (0<d3))) (mulR (by cases decide (0<d3)<;>decide) (by cases decide (0<d3)<;>decide))
 obtain⟨nm,g4,onm⟩:=Zfl (n:=n+7) (m:=put (mm m (ws.map Wt.t)) i s3) (k:=turn+k*b2i (decide (0<d3)))
 obtain⟨till,s4,g5,hs4,t0,t1⟩:=Zi (n:=n+7) (many:=9) hi' hs3 (by decide) (by decide)
 obtain⟨mk,sz,w,many,least,wt,s5,g6,hs5,hc,hwi,⟨m1,m2⟩,⟨l1,l2⟩,_⟩:=Zg7 (n:=n+1) (sd:=sd) (till:=till) hi' hs4 onm okd
 -- the offer,the last one's or its own
 have key:∃(e:Ent) (s6:List T),EntOk e/\(e.kd=ryeS∨e.kd=oatS∨e.kd=oS)/\IsSt s6 /\
   ∀K:S,ex (cf (n+8)) gv (.ife (.and (.cmp .NotEq (.var 2) (.lst .nil)) (.cmp .Eq (.call 5 (.cons (.var 0) (.cons (.con (.int 12)) .nil))) (.con (.int 0)))) (.asg 10 (.ix (.ix (.var 2) (.con (.int (-1)))) (.con (.int 1))) .done) .done K) [some (.c i),some (.t (.int most)),some (.c m.length),some (.t (.int turn)),some (.t (.int nb)),some (.t (.int few)),some (.t (.int k)),some (.t (.str sd)),some (.t (.str kd)),some (.t (.str nm)),some (.t (offT sd nm kd mk sz w many least wt till)),f11] (put (mm m (ws.map Wt.t)) i s5) =
    ex (cf (n+8)) gv K [some (.c i),some (.t (.int most)),some (.c m.length),some (.t (.int turn)),some (.t (.int nb)),some (.t (.int few)),some (.t (.int k)),some (.t (.str sd)),some (.t (.str kd)),some (.t (.str nm)),some (.t e.off),f11] (put (mm m (ws.map Wt.t)) i s6):=by
  have hq:ev (cf (n+8)) gv (.cmp .NotEq (.var 2) (.lst .nil)) [some (.c i),some (.t (.int most)),some (.c m.length),some (.t (.int turn)),some (.t (.int nb)),some (.t (.int few)),some (.t (.int k)),some (.t (.str sd)),some (.t (.str kd)),some (.t (.str nm)),some (.t (offT sd nm kd mk sz w many least wt till)),f11] (put (mm m (ws.map Wt.t)) i s5)=.ok (.t (.bl (!(ws.map Wt.t).isEmpty))) (put (mm m (ws.map Wt.t)) i s5):=
   Xi (Za rfl) (Z3 Zj rfl ZK) (Jz (Zfq hi)) (Zbn (Zce λw h=>(hw w h).ent)).2
  have own:EntOk ⟨sd,nm,kd,mk,sz,w,many,least,wt,till,0⟩:=⟨hc,hwi,osd,m1,m2⟩
  rcases(show ws=[]∨∃a b,ws=a++[b]from if h:ws=[]then .inl h else .inr ⟨_,_,(List.dropLast_concat_getLast h).symm⟩)with rfl|⟨ws0,v,rfl⟩
  ·refine⟨⟨sd,nm,kd,mk,sz,w,many,least,wt,till,0⟩,s5,own,hk3,hs5,λK=>?_⟩
   exact Z9 (ZjP hq)
  ·have hne:(!((ws0++[v]).map Wt.t).isEmpty)=true:=by rw[List.map_append];cases ws0<;>rfl
   rw[hne]at hq
   obtain⟨d6,s6,g7,hs6,_,_⟩:=Zi (n:=n+7) (many:=12) hi' hs5 (by decide) (by decide)
   have hq2:ev (cf (n+8)) gv (.cmp .Eq (.call 5 (.cons (.var 0) (.cons (.con (.int 12)) .nil))) (.con (.int 0))) [some (.c i),some (.t (.int most)),some (.c m.length),some (.t (.int turn)),some (.t (.int nb)),some (.t (.int few)),some (.t (.int k)),some (.t (.str sd)),some (.t (.str kd)),some (.t (.str nm)),some (.t (offT sd nm kd mk sz w many least wt till)),f11] (put (mm m ((ws0++[v]).map Wt.t)) i s5)=.ok (.t (.bl (d6==0))) (put (mm m ((ws0++[v]).map Wt.t)) i s6):=J4 ((ZF (Za rfl) (Zb _)).trans g7) (Zb _) (c_eqI _ _)
   cases hd:(d6==0)with
   |false =>
    rw[hd]at hq2
    exact⟨⟨sd,nm,kd,mk,sz,w,many,least,wt,till,0⟩,s6,own,hk3,hs6,λK=>Z9 ((ZfQ hq).trans hq2)⟩
   |true =>
    rw[hd]at hq2
    have hv:=hw v (List.mem_append_right _ (List.mem_singleton.mpr rfl))
    refine⟨v.e,s6,hv.ent,hv.kd,hs6,λK=>ex_ifA ((ZfQ hq).trans hq2) ((Zr (Qz (J5 rfl (Zfq hi) ?_) (Zb _) (show ixT v.t (.int 1)=_ from rfl))).trans QT)⟩
    rw[List.map_append]
    exact Zj5 _ _
 obtain⟨e,s6,he,hek,hs6,hK⟩:=key
 obtain⟨c1,s7,g8,hs7,c10,c11⟩:=Zi (n:=n+7) (many:=e.many) hi' hs6 (by have:=he.many;omega) (by have:=he.many;omega)
 obtain⟨c2,s8,g9,hs8,c20,c21⟩:=Zi (n:=n+7) (many:=2) hi' hs7 (by decide) (by decide)
 obtain⟨z,hz,hzm⟩:=Qa (xs:=[T.int e.many,.int (1+c1)]) c20 (by simpa using c21)
 have hz':∃v:Int,z=.int v:=by
  simp only[List.mem_cons,List.not_mem_nil,or_false]at hzm
  rcases hzm with rfl|rfl<;>exact⟨_,rfl⟩
 obtain⟨left,rfl⟩:=hz'
 have hi2:i<(mm m ((ws++([⟨nb,{ e with left:=left }⟩]:List Wt)).map Wt.t)).length:=by rw[Zfp];omega
 obtain⟨d9,s9,g10,hs9,d90,d91⟩:=Zi (n:=n+7) (many:=4) hi2 hs8 (by decide) (by decide)
 refine⟨⟨nb,{ e with left:=left }⟩,s9,nb+1+d9,some (.t (.str sd)),some (.t (.str kd)),some (.t (.str nm)),some (.t e.off),some (.t (.int left)),?_,hs9,⟨⟨he.card,he.wish,he.sd,he.many⟩,hek⟩,rfl,by omega⟩
 unfold Qg
 refine(Zr (w:=.t (.str sd)) (m1:=put (mm m (ws.map Wt.t)) i s1) ((Zu (Zc (Za rfl) (Zc (Z3 (Zc (Zb _) (Zc (Zb _) (Zc (Zb _) (Zc (Zb _) (Zc (Zb _) Zj))))) rfl ZK) Zj))).trans g1)).trans ?_
 dsimp only[List.set_cons_succ,List.set_cons_zero]
 refine(Zr (w:=.t (.str kd)) (m1:=put (mm m (ws.map Wt.t)) i s2) (Qz (Z3 (Zc (Zb _) (Zc (Zb _) (Zc (Zb _) Zj))) rfl ZK) ((Zu (Zc (Za rfl) (Zc (Zy (Zb _) (Za rfl) rfl) Zj))).trans g2) hkd)).trans ?_
 dsimp only[List.set_cons_succ,List.set_cons_zero]
 refine(Zr (w:=.t (.str nm)) (m1:=put (mm m (ws.map Wt.t)) i s3) ((Zu (Zc (Zy (Za rfl) (Zy (Za rfl) (ZaU (Zc (J4 ((Zu (Zc (Za rfl) (Zc (Zb _) Zj))).trans g3) (Zb _) rfl) Zj) rfl rfl) hmu) rfl) Zj)).trans g4)).trans ?_
 dsimp only[List.set_cons_succ,List.set_cons_zero]
 refine(Zr (w:=.t (offT sd nm kd mk sz w many least wt till)) (m1:=put (mm m (ws.map Wt.t)) i s5) ((Zu (Zc (Za rfl) (Zc (Za rfl) (Zc (Za rfl) (Zc (Za rfl) (Zc ((Zu (Zc (Za rfl) (Zc (Zb _) Zj))).trans g5) Zj)))))).trans g6)).trans ?_
 dsimp only[List.set_cons_succ,List.set_cons_zero]
 refine(hK _).trans ?_
 refine(Zr (w:=.t (.int left)) (m1:=put (mm m (ws.map Wt.t)) i s8) (Qz (Z3 (Zc (Qz (Za rfl) (Zb _) rfl) (Zc (Zy (Zb _) ((Zu (Zc (Za rfl) (Zc (Qz (Za rfl) (Zb _) rfl) Zj))).trans g8) rfl) Zj)) rfl ZK) ((Zu (Zc (Za rfl) (Zc (Zb _) Zj))).trans g9) hz)).trans ?_
 dsimp only[List.set_cons_succ,List.set_cons_zero]
 have hu:mutM .append (ws.map Wt.t) [Wt.t ⟨nb,{ e with left:=left }⟩]=some (.non,(ws++([⟨nb,{ e with left:=left }⟩]:List Wt)).map Wt.t):=by
  rw[List.map_append]
  exact if_pos (by rw[List.length_map];unfold lim;omega)
 refine(Xh (Zdj (.inl rfl) rfl (Zfq hi) (ZjM (Za rfl) (Za rfl) (Za rfl)) (Zfq hi) hu)).trans ?_
 rw[mm_set hi]
 exact(Zr (w:=.t (.int (nb+1+d9))) (m1:=put (mm m ((ws++([⟨nb,{ e with left:=left }⟩]:List Wt)).map Wt.t)) i s9) (Zy (Zy (Za rfl) (Zb _) rfl) ((Zu (Zc (Za rfl) (Zc (Zb _) Zj))).trans g10) rfl)).trans QT
theorem Zbt{most turn few:Int}(hi:i<m.length)(hf:0<=few/\few<3):∀(ks:List Int) (ws:List Wt) (s:List T) (nb:Int) (f6 f7 f8 f9 f10 f11:Option W),IsSt s->ws.length+ks.length<100->(∀w∈ws,Wok w)->(ws.map (·.no)).Nodup->(∀w∈ws,w.no<nb) ->
  ∃(ws':List Wt) (s':List T) (env':Env),Z1 (ex (cf (n+8)) gv Qg) (.nm 6) (ks.map .int) [some (.c i),some (.t (.int most)),some (.c m.length),some (.t (.int turn)),some (.t (.int nb)),some (.t (.int few)),f6,f7,f8,f9,f10,f11] (put (mm m (ws.map Wt.t)) i s)=.ok (.next env') (put (mm m (ws'.map Wt.t)) i s')/\IsSt s'/\(∀w∈ws',Wok w)/\(ws'.map (·.no)).Nodup/\ws'.length=ws.length+ks.length/\env'[2]?=some (some (.c m.length))
 |[],ws,s,nb,f6,f7,f8,f9,f10,f11,hs,_,ho,hn,_=>⟨ws,s,_,rfl,hs,ho,hn,rfl,rfl⟩
 |k::ks,ws,s,nb,f6,f7,f8,f9,f10,f11,hs,hl,ho,hn,hb=>by
  rw[List.length_cons]at hl
  obtain⟨w,s1,nb',g7,g8,g9,g10,g11,h1,hs1,hw,hno,hlt⟩:=Zer (n:=n) (most:=most) (turn:=turn) (nb:=nb) (few:=few) (k:=k) (f7:=f7) (f8:=f8) (f9:=f9) (f10:=f10) (f11:=f11) hi hs ho (by omega) hf
  have hm:∀v∈ws++[w],v∈ws∨v=w:=λv hv=>by
   rcases List.mem_append.mp hv with h|h
   ·exact .inl h
   ·exact .inr (List.mem_singleton.mp h)
  obtain⟨ws',s',env',h2,hs',ho',hn',hlen,hv⟩:=Zbt hi hf ks (ws++[w]) s1 nb' (some (.t (.int k))) g7 g8 g9 g10 g11 hs1 (by rw[List.length_append,List.length_singleton];omega)
   (λv hv=>(hm v hv).elim (λh=>ho v h) λh=>h▸hw)
   (by
    rw[List.map_append,List.nodup_append]
    refine⟨hn,by simp,λa ha b hb' e=>?_⟩
    obtain⟨v,hv,rfl⟩:=List.mem_map.mp ha
    have hb':b=w.no:=by simpa using hb'
    have:=hb v hv
    omega)
   (λv hv=>by
    rcases hm v hv with h|rfl
    ·have:=hb v h
     omega
    ·omega)
  refine⟨ws',s',env',?_,hs',ho',hn',by rw[hlen,List.length_append,List.length_singleton,List.length_cons];omega,hv⟩
  rw[List.map_cons,Z1]
  show(ex (cf (n+8)) gv Qg [some (.c i),some (.t (.int most)),some (.c m.length),some (.t (.int turn)),some (.t (.int nb)),some (.t (.int few)),some (.t (.int k)),f7,f8,f9,f10,f11] (put (mm m (ws.map Wt.t)) i s)).bind _=_
  rw[h1]
  exact h2
theorem Zds{most:Int}(hi:i<m.length)(hs:IsSt s)(hmo:0<=most/\most<=30):∃(ws:List Wt) (s':List T),cf (n+9) 15 [.c i,.t (.int most)] (put m i s)=.ok (.t (wsT ws)) (put m i s')/\IsSt s'/\(∀w∈ws,Wok w)/\(ws.map (·.no)).Nodup/\ws.length<=30:=by
 have hi':i<(mm m []).length:=by rw[Zfp];omega
 obtain⟨turn,s1,g1,hs1,_,_⟩:=Zi (n:=n+7) (many:=12) hi' hs (by decide) (by decide)
 obtain⟨nb,s2,g2,hs2,_,_⟩:=Zi (n:=n+7) (many:=5) hi' hs1 (by decide) (by decide)
 obtain⟨few,s3,g3,hs3,f0,f1⟩:=Zi (n:=n+7) (many:=3) hi' hs2 (by decide) (by decide)
 obtain⟨r,s4,g4,hs4,r0,r1⟩:=Zi (n:=n+7) (many:=most+1) hi' hs3 (by omega) (by omega)
 have hrng:rangeT 0 r.toNat=((List.range r.toNat).map λk:Nat=>(k:Int)).map T.int:=by
  unfold rangeT
  rw[List.map_map]
  refine congrArg (λf=>List.map f (List.range r.toNat)) (funext λk=>?_)
  show T.int (0+(k:Int))=T.int (k:Int)
  rw[Int.zero_add]
 obtain⟨ws,s5,env',h5,hs5,ho,hn,hlen,hv⟩:=Zbt (n:=n) (most:=most) (turn:=turn) (few:=few) hi ⟨f0,f1⟩ ((List.range r.toNat).map λk:Nat=>(k:Int)) [] s4 nb none none none none none none hs4 (by simp;omega) (λ_ h=>by cases h) List.nodup_nil (λ_ h=>by cases h)
 refine⟨ws,s5,?_,hs5,ho,hn,by rw[hlen];simp;omega⟩
 have key:ex (cf (n+8)) gv QF [some (.c i),some (.t (.int most)),none,none,none,none,none,none,none,none,none,none] (put m i s)=.ok (.ret (.c m.length)) (put (mm m (ws.map Wt.t)) i s5):=by
  unfold QF
  refine(Zr (w:=.c m.length) (m1:=put (mm m []) i s) ?_).trans ?_
  ·rw[<-mm_nil hi]
   rw[ev,evs]
   show Res.ok (W.c (put m i s).length) _=_
   rw[Zm]
  dsimp only[List.set_cons_succ,List.set_cons_zero]
  refine(Zr ((ZF (Za rfl) (Zb _)).trans g1)).trans ?_
  dsimp only[List.set_cons_succ,List.set_cons_zero]
  refine(Zr ((ZF (Za rfl) (Zb _)).trans g2)).trans ?_
  dsimp only[List.set_cons_succ,List.set_cons_zero]
  refine(Zr ((ZF (Za rfl) (Zb _)).trans g3)).trans ?_
  dsimp only[List.set_cons_succ,List.set_cons_zero]
  have hit:ev (cf (n+8)) gv (.blt .range1 (.cons (.call 5 (.cons (.var 0) (.cons (.bin .Add (.var 1) (.con (.int 1))) .nil))) .nil)) [some (.c i),some (.t (.int most)),some (.c m.length),some (.t (.int turn)),some (.t (.int nb)),some (.t (.int few)),none,none,none,none,none,none] (put (mm m []) i s3)=.ok (.t (.lst (((List.range r.toNat).map λk:Nat=>(k:Int)).map T.int))) (put (mm m []) i s4):=by
   rw[<-hrng]
   exact QV ((ZF (Za rfl) (Zy (Za rfl) (Zb _) (ZcL _ _))).trans g4) (Zhh ⟨by omega,by omega⟩)
  refine(QR hit rfl h5).trans ?_
  exact ZG (Za hv)
 refine Qh (ZcD _ _ _) rfl key ?_
 show fin (put m i s).length false (.ret (.c m.length)) _=_
 rw[Zm]
 unfold fin
 dsimp only
 rw[if_neg (Nat.lt_irrefl _),Zfq hi]
 dsimp only
 rw[if_neg Bool.false_ne_true,Zjm hi]
 rfl
end
theorem Z4{m xs:Mem}{i:Nat}{s:List T}(hi:i<m.length):put (m++xs) i s=put m i s++xs:=by
 unfold put
 rw[List.set_append_left _ _ hi]
noncomputable def m2(m:Mem)(A F:List T):Mem:=m++[some (false,A),some (false,F)]
section
variable{n:Nat}{m:Mem}{i:Nat}{s A F A' F':List T}
theorem m2_0(hi:i<m.length):(put (m2 m A F) i s)[m.length]?=some (some (false,A)):=by
 unfold m2
 rw[Z4 hi,List.getElem?_append_right (by rw[Zm];omega),Zm,Nat.sub_self]
 rfl
theorem m2_1(hi:i<m.length):(put (m2 m A F) i s)[m.length+1]?=some (some (false,F)):=by
 unfold m2
 rw[Z4 hi,List.getElem?_append_right (by rw[Zm];omega),Zm,Nat.add_sub_cancel_left]
 rfl
theorem m2_s0(hi:i<m.length):(put (m2 m A F) i s).set m.length (some (false,A'))=put (m2 m A' F) i s:=by
 unfold m2
 rw[Z4 hi,Z4 hi,List.set_append_right _ _ (by rw[Zm];omega),Zm,Nat.sub_self]
 rfl
theorem m2_s1(hi:i<m.length):(put (m2 m A F) i s).set (m.length+1) (some (false,F'))=put (m2 m A F') i s:=by
 unfold m2
 rw[Z4 hi,Z4 hi,List.set_append_right _ _ (by rw[Zm];omega),Zm,Nat.add_sub_cancel_left]
 rfl
theorem Zjo(hi:i<m.length):(put (m2 m A F) i s).take m.length=put m i s:=by
 unfold m2
 rw[Z4 hi]
 exact List.take_left' Zm
theorem Zaq{α β:Type}(f:α->β):∀(l:List α) (k:Nat),(l.map f).eraseIdx k=(l.eraseIdx k).map f
 |[],_=>rfl
 |_::_,0=>rfl
 |a::l,k+1=>by
  rw[List.map_cons,List.eraseIdx_cons_succ,List.eraseIdx_cons_succ,List.map_cons,Zaq f l k]
theorem ZgX{as fs:List Wt}{e1:Option W}(hi:i<m.length)(hs:IsSt s)(h0:0<as.length)(hl:as.length<1000)(hf:fs.length<1000):
  ∃(w:Wt) (k:Nat) (s':List T),ex (cf (n+1)) gv Qd [some (.c i),e1,some (.c m.length),some (.c (m.length+1))] (put (m2 m (as.map Wt.t) (fs.map Wt.t)) i s)=.ok (.next [some (.c i),e1,some (.c m.length),some (.c (m.length+1))]) (put (m2 m ((as.eraseIdx k).map Wt.t) ((fs++[w]).map Wt.t)) i s')/\IsSt s'/\as[k]?=some w:=by
 have hi':i<(m2 m (as.map Wt.t) (fs.map Wt.t)).length:=by unfold m2;rw[List.length_append];omega
 obtain⟨r,s1,g,hs1,r0,r1⟩:=Zi (n:=n) (many:=(as.length:Int)) hi' hs (by omega) (by omega)
 obtain⟨w,hw⟩:∃w,as[r.toNat]?=some w:=⟨as[r.toNat]'(by omega),List.getElem?_eq_getElem (by omega)⟩
 refine⟨w,r.toNat,s1,?_,hs1,hw⟩
 have hlen:ev (cf (n+1)) gv (.blt .len (.cons (.var 2) .nil)) [some (.c i),e1,some (.c m.length),some (.c (m.length+1))] (put (m2 m (as.map Wt.t) (fs.map Wt.t)) i s)=.ok (.t (.int (as.length:Int))) (put (m2 m (as.map Wt.t) (fs.map Wt.t)) i s):=by
  have hv:views [W.c m.length] (put (m2 m (as.map Wt.t) (fs.map Wt.t)) i s)=some [.lst (as.map Wt.t)]:=by
   show(view (.c m.length) (put (m2 m (as.map Wt.t) (fs.map Wt.t)) i s)).bind _=_
   rw[Jz (m2_0 hi)]
   rfl
  refine ZaU (Zc (Za rfl) Zj) hv ?_
  rw[Zhi,List.length_map]
 have mp:mutM .popat (as.map Wt.t) [.int r]=some (w.t,(as.eraseIdx r.toNat).map Wt.t):=by
  show(match ixOf (as.map Wt.t).length r with
   |some k=>((as.map Wt.t)[k]?).map λt=>(t,(as.map Wt.t).eraseIdx k)
   |none=>none)=_
  have:ixOf (as.map Wt.t).length r=some r.toNat:=by
   unfold ixOf
   rw[if_pos r0,List.length_map,if_pos r1]
  rw[this]
  dsimp only
  rw[List.getElem?_map,hw,Zaq]
  rfl
 have ma:mutM .append (fs.map Wt.t) [w.t]=some (.non,(fs++[w]).map Wt.t):=by
  rw[List.map_append]
  exact if_pos (by rw[List.length_map];unfold lim;omega)
 have hP:ev (cf (n+1)) gv (.mth .popat (.var 2) (.cons (.call 5 (.cons (.var 0) (.cons (.blt .len (.cons (.var 2) .nil)) .nil))) .nil)) [some (.c i),e1,some (.c m.length),some (.c (m.length+1))] (put (m2 m (as.map Wt.t) (fs.map Wt.t)) i s)=.ok (.t w.t) (put (m2 m ((as.eraseIdx r.toNat).map Wt.t) (fs.map Wt.t)) i s1):=by
  refine(Zdj (.inr (.inl rfl)) rfl (m2_0 hi) ((ZF (Za rfl) hlen).trans g) (m2_0 hi) mp).trans ?_
  rw[m2_s0 hi]
 unfold Qd
 refine(Xh (Zdj (.inl rfl) rfl (m2_1 hi) hP (m2_1 hi) ma)).trans ?_
 rw[m2_s1 hi]
 exact QT
theorem pops{e1:Option W}(hi:i<m.length):∀(k:Nat) (as fs:List Wt) (s:List T) (t:Nat),as.length=k->k<t->IsSt s->as.length+fs.length<1000->(∀w∈as,EntOk w.e) ->
  ∃(gs:List Wt) (s':List T),Qm (λenv m=>(ev (cf (n+1)) gv (.cmp .NotEq (.var 2) (.lst .nil)) env m).bind ZZ) (λenv m=>ex (cf (n+1)) gv Qd env m) t [some (.c i),e1,some (.c m.length),some (.c (m.length+1))] (put (m2 m (as.map Wt.t) (fs.map Wt.t)) i s) =
   .ok (.next [some (.c i),e1,some (.c m.length),some (.c (m.length+1))]) (put (m2 m [] (gs.map Wt.t)) i s')/\IsSt s'/\gs.Perm (fs++as)
 |k,as,fs,s,0,hk,ht,hs,hl,ho=>absurd ht (Nat.not_lt_zero _)
 |0,as,fs,s,t+1,hk,ht,hs,hl,ho=>by
  obtain rfl:as=[]:=List.length_eq_zero_iff.mp hk
  refine⟨fs,s,?_,hs,by rw[List.append_nil]⟩
  rw[Qm]
  rw[show ev (cf (n+1)) gv (.cmp .NotEq (.var 2) (.lst .nil)) [some (.c i),e1,some (.c m.length),some (.c (m.length+1))] (put (m2 m (([]:List Wt).map Wt.t) (fs.map Wt.t)) i s)=.ok (.t (.bl false)) (put (m2 m (([]:List Wt).map Wt.t) (fs.map Wt.t)) i s)from Xi (Za rfl) (Z3 Zj rfl ZK) (Jz (m2_0 hi)) (Zbn rfl).2]
  rfl
 |k+1,as,fs,s,t+1,hk,ht,hs,hl,ho=>by
  obtain⟨w,j,s1,h1,hs1,hj⟩:=ZgX (n:=n) (as:=as) (fs:=fs) (e1:=e1) hi hs (by omega) (by omega) (by omega)
  have hjl:j<as.length:=(List.getElem?_eq_some_iff.mp hj).1
  have hjw:as[j]=w:=(List.getElem?_eq_some_iff.mp hj).2
  have hlen:(as.eraseIdx j).length=k:=by rw[List.length_eraseIdx_of_lt hjl];omega
  have hpe:=ZaM as j hjl
  rw[hjw]at hpe
  obtain⟨gs,s',h2,hs',hp⟩:=pops hi k (as.eraseIdx j) (fs++[w]) s1 t hlen (by omega) hs1 (by rw[List.length_append,List.length_singleton];omega) (λv hv=>ho v (hpe.mem_iff.mp (List.mem_cons_of_mem _ hv)))
  refine⟨gs,s',?_,hs',hp.trans ?_⟩
  ·rw[Qm]
   have hne:(!(as.map Wt.t).isEmpty)=true:=by
    cases as with
    |nil=>cases hk
    |cons _ _=>rfl
   have hq:=Xi (call:=cf (n+1)) (gv:=gv) (env:=[some (.c i),e1,some (.c m.length),some (.c (m.length+1))]) (m:=put (m2 m (as.map Wt.t) (fs.map Wt.t)) i s) (a:=.var 2) (b:=.lst .nil) (op:=.NotEq) (Za rfl) (Z3 Zj rfl ZK) (Jz (m2_0 hi)) (Zbn (Zce ho)).2
   rw[hne]at hq
   rw[hq]
   show(ex (cf (n+1)) gv Qd [some (.c i),e1,some (.c m.length),some (.c (m.length+1))] (put (m2 m (as.map Wt.t) (fs.map Wt.t)) i s)).bind _=_
   rw[h1]
   exact h2
  ·rw[List.append_assoc]
   exact List.Perm.append_left fs hpe
theorem Zet{ws:List Wt}(hi:i<m.length)(hs:IsSt s)(hl:ws.length<=30)(ho:∀w∈ws,EntOk w.e):∃(us:List Wt) (s':List T),cf (n+2) 16 [.c i,.t (wsT ws)] (put m i s)=.ok (.t (wsT us)) (put m i s')/\IsSt s'/\us.Perm ws:=by
 obtain⟨us,s1,h,hs1,hp⟩:=pops (n:=n) (e1:=some (.t (wsT ws))) hi ws.length ws [] s turns rfl (by unfold turns;omega) hs (by simp;omega) ho
 refine⟨us,s1,?_,hs1,hp⟩
 have key:ex (cf (n+1)) gv Jg [some (.c i),some (.t (wsT ws)),none,none] (put m i s)=.ok (.ret (.c (m.length+1))) (put (m2 m [] (us.map Wt.t)) i s1):=by
  unfold Jg
  refine(Zr (w:=.c m.length) (m1:=put m i s++[some (false,ws.map Wt.t)]) (by rw[ev,Za rfl,Zh];show Res.ok (W.c (put m i s).length) _=_;rw[Zm])).trans ?_
  dsimp only[List.set_cons_succ,List.set_cons_zero]
  refine(Zr (w:=.c (m.length+1)) (m1:=put (m2 m (ws.map Wt.t) []) i s) ?_).trans ?_
  ·rw[ev,evs]
   show Res.ok (W.c (put m i s++[some (false,ws.map Wt.t)]).length) (put m i s++[some (false,ws.map Wt.t)]++[some (false,[])])=_
   unfold m2
   rw[Z4 hi,List.length_append,Zm,List.append_assoc]
   rfl
  dsimp only[List.set_cons_succ,List.set_cons_zero]
  rw[ex]
  rw[show Qm (λenv m=>(ev (cf (n+1)) gv (.cmp .NotEq (.var 2) (.lst .nil)) env m).bind ZZ) (λenv m=>ex (cf (n+1)) gv Qd env m) turns [some (.c i),some (.t (wsT ws)),some (.c m.length),some (.c (m.length+1))] (put (m2 m (ws.map Wt.t) []) i s)=_ from h]
  show ex (cf (n+1)) gv (.ret (.var 3) .done) [some (.c i),some (.t (wsT ws)),some (.c m.length),some (.c (m.length+1))] (put (m2 m [] (us.map Wt.t)) i s1)=_
  exact ZG (Za rfl)
 refine Qh (Zea _ _ _) rfl key ?_
 show fin (put m i s).length false (.ret (.c (m.length+1))) _=_
 rw[Zm]
 unfold fin
 dsimp only
 rw[if_neg (by omega),m2_1 hi]
 dsimp only
 rw[if_neg Bool.false_ne_true,Zjo hi]
 rfl
end
section
variable{call:Nat->List W->Mem->Res W}{gv:List T}{env:Env}{m m1 m2:Mem}{a b:E}{w w':W}
theorem ZjO{ty:Ty}{x:T}{k:Bool}(h:ev call gv a env m=.ok w m1)(hv:view w m1=some x)(hk:isT x ty=k):ev call gv (.isi a ty) env m=.ok (.t (.bl k)) m1:=by
 rw[ev,h,Zh]
 show pur ((view w m1).map λx=>.bl (isT x ty)) m1=_
 rw[hv,<-hk]
 rfl
theorem compC{α:Type}{own:Nat}{keep:List Nat}{it:E}{tg:Tg}{cs:Es}{inner:E}{j:Nat}{emb:α->T}{g:α->List T}(as:List α)(hit:ev call gv it env m=.ok (.c j) m)(hj:m[j]?=some (some (false,as.map emb)))(h:∀a∈as,∃env',Qs tg (emb a) (List.replicate own none++keep.map λi=>(env[i]?).join)=some env'/\∀m',QH call gv cs inner env' m'=.ok (g a) m')(hz:(as.flatMap g).length<=lim):ev call gv (.comp own keep it tg cs inner) env m=.ok (.t (.lst (as.flatMap g))) m:=by
 have hb:ZJ (.c j) m=.ok (as.map emb) (m.set j (some (true,as.map emb))):=by
  unfold ZJ
  dsimp only
  rw[hj]
 have:=QC (own:=own) (keep:=keep) (tg:=tg) (cs:=cs) (inner:=inner) hit hb (QM as λa ha=>let⟨e,h1,h2⟩:=h a ha;⟨e,h1,h2 _⟩) hz
 rw[this]
 have e:giveBack (.c j) m (m.set j (some (true,as.map emb)))=m:=by
  unfold giveBack
  dsimp only
  rw[hj]
  show(m.set j (some (true,as.map emb))).set j (some (false,as.map emb))=m
  rw[List.set_set]
  obtain⟨h1,h2⟩:=List.getElem?_eq_some_iff.mp hj
  rw[<-h2]
  exact List.set_getElem_self h1
 rw[e]
end
theorem Zdl(k:Nat):∀ns:List Int,Zk k (ns.map T.int)=true
 |[]=>rfl
 |n::ns=>by
  rw[List.map_cons,Zk,Zdl k ns]
  cases k<;>rfl
noncomputable def four:List (List Nat):=[[104,101,97,118,121],[103,114,101,97,116],[115,109,97,108,108],[115,111,111,110]]
theorem Zaf{α:Type}:∀{A:List α}{k:Nat}{w:α},A[k]?=some w->A.Perm (w::A.eraseIdx k)
 |[],_,_,h=>by simp at h
 |a::A,0,w,h=>by
  have:a=w:=by simpa using h
  subst this
  exact List.Perm.refl _
 |a::A,k+1,w,h=>by
  have h':A[k]?=some w:=by simpa using h
  exact((Zaf h').cons a).trans (List.Perm.swap w a _)
structure MI (m:Mem) (i c1 c2:Nat) (A F:List (List Nat)) (M:Mem):Prop where
 tk:M.take m.length=m
 i:i<m.length
 l1:m.length<=c1
 l2:m.length<=c2
 ne:c1≠c2
 g1:M[c1]?=some (some (false,A.map .str))
 g2:M[c2]?=some (some (false,F.map .str))
theorem MI.at1{m:Mem}{i c1 c2:Nat}{A F:List (List Nat)}{M:Mem}(h:MI m i c1 c2 A F M)(s:List T):(put M i s)[c1]?=some (some (false,A.map .str)):=by
 unfold put
 rw[List.getElem?_set_ne (by have:=h.i;have:=h.l1;omega)]
 exact h.g1
theorem MI.at2{m:Mem}{i c1 c2:Nat}{A F:List (List Nat)}{M:Mem}(h:MI m i c1 c2 A F M)(s:List T):(put M i s)[c2]?=some (some (false,F.map .str)):=by
 unfold put
 rw[List.getElem?_set_ne (by have:=h.i;have:=h.l2;omega)]
 exact h.g2
theorem MI.hi{m:Mem}{i c1 c2:Nat}{A F:List (List Nat)}{M:Mem}(h:MI m i c1 c2 A F M):i<M.length:=by
 have h1:=h.i
 have h2:=congrArg List.length h.tk
 rw[List.length_take]at h2
 omega
theorem MI.fin{m:Mem}{i c1 c2:Nat}{A F:List (List Nat)}{M:Mem}(h:MI m i c1 c2 A F M)(s:List T):(put M i s).take m.length=put m i s:=by
 unfold put
 rw[List.take_set,h.tk]
theorem pop_ok{n:Nat}{m:Mem}{i c1 c2 f:Nat}{A F:List (List Nat)}{M:Mem}{s:List T}{env:Env}(h:MI m i c1 c2 A F M)(hs:IsSt s)(hA:0<A.length)(hA':A.length<100)(hF:F.length<100)(e0:env[0]?=some (some (.c i)))(e1:env[1]?=some (some (.c c1)))(ef:env[f]?=some (some (.c c2))):
  ∃(w:List Nat) (k:Nat) (s':List T) (M':Mem),ev (cf (n+1)) gv (.mth .append (.var f) (.cons (.mth .popat (.var 1) (.cons (.call 5 (.cons (.var 0) (.cons (.blt .len (.cons (.var 1) .nil)) .nil))) .nil)) .nil)) env (put M i s)=.ok (.t .non) (put M' i s')/\IsSt s'/\A[k]?=some w/\MI m i c1 c2 (A.eraseIdx k) (F++[w]) M':=by
 obtain⟨r,s1,g,hs1,r0,r1⟩:=Zi (n:=n) (many:=(A.length:Int)) h.hi hs (by omega) (by omega)
 have hr:r.toNat<A.length:=by omega
 have hw:=List.getElem?_eq_getElem hr
 generalize A[r.toNat]=w at hw
 have i1:i≠c1:=by have:=h.i;have:=h.l1;omega
 have i2:i≠c2:=by have:=h.i;have:=h.l2;omega
 have b1:c1<M.length:=(List.getElem?_eq_some_iff.mp h.g1).1
 have b2:c2<M.length:=(List.getElem?_eq_some_iff.mp h.g2).1
 refine⟨w,r.toNat,s1,(M.set c1 (some (false,(A.eraseIdx r.toNat).map .str))).set c2 (some (false,(F++[w]).map .str)),?_,hs1,hw,⟨?_,h.i,h.l1,h.l2,h.ne,?_,?_⟩⟩
 ·have hlen:ev (cf (n+1)) gv (.blt .len (.cons (.var 1) .nil)) env (put M i s)=.ok (.t (.int (A.length:Int))) (put M i s):=by
   have hv:views [W.c c1] (put M i s)=some [.lst (A.map T.str)]:=by
    show(view (.c c1) (put M i s)).bind _=_
    unfold view
    dsimp only
    rw[h.at1 s]
    rfl
   refine ZaU (Zc (Za e1) Zj) hv ?_
   rw[Zhi,List.length_map]
  have hD:ev (cf (n+1)) gv (.call 5 (.cons (.var 0) (.cons (.blt .len (.cons (.var 1) .nil)) .nil))) env (put M i s)=.ok (.t (.int r)) (put M i s1):=(ZF (Za e0) hlen).trans g
  have t1:tyM .popat (.c c1) (put M i s)=true:=by
   show(match(put M i s)[c1]? with
    |some (some _)=>true
    |_=>false)=true
   rw[h.at1 s]
  have t2:tyM .append (.c c2) (put M i s)=true:=by
   show(match(put M i s)[c2]? with
    |some (some _)=>true
    |_=>false)=true
   rw[h.at2 s]
  have mp:mutM .popat (A.map T.str) [.int r]=some (.str w,(A.eraseIdx r.toNat).map T.str):=by
   show(match ixOf (A.map T.str).length r with
    |some k=>((A.map T.str)[k]?).map λt=>(t,(A.map T.str).eraseIdx k)
    |none=>none)=_
   have:ixOf (A.map T.str).length r=some r.toNat:=by
    unfold ixOf
    rw[if_pos r0,List.length_map,if_pos r1]
   rw[this]
   dsimp only
   rw[List.getElem?_map,hw,Zaq]
   rfl
  have hP:ev (cf (n+1)) gv (.mth .popat (.var 1) (.cons (.call 5 (.cons (.var 0) (.cons (.blt .len (.cons (.var 1) .nil)) .nil))) .nil)) env (put M i s)=.ok (.t (.str w)) ((put M i s1).set c1 (some (false,(A.eraseIdx r.toNat).map T.str))):=by
   rw[ev,Za e1,Zh,if_pos t1,Zc hD Zj,Zh]
   show doM .popat (.c c1) [.t (.int r)] (put M i s1)=_
   simp[doM,ZaT,ZaS,Zh,h.at1 s1,mp]
  rw[ev,Za ef,Zh,if_pos t2,Zc hP Zj,Zh]
  have h2:((put M i s1).set c1 (some (false,(A.eraseIdx r.toNat).map T.str)))[c2]?=some (some (false,F.map T.str)):=by
   rw[List.getElem?_set_ne h.ne]
   exact h.at2 s1
  have ma:mutM .append (F.map T.str) [.str w]=some (.non,F.map T.str++[.str w]):=if_pos (by rw[List.length_map];unfold lim;omega)
  show doM .append (.c c2) [.t (.str w)] _=_
  simp only[doM,ZaT,ZaS,Zh,h2,ma]
  unfold put
  rw[List.map_append,List.set_comm _ _ i1,List.set_comm _ _ i2]
  rfl
 ·rw[List.take_set_of_le h.l2,List.take_set_of_le h.l1]
  exact h.tk
 ·rw[List.getElem?_set_ne h.ne.symm,List.getElem?_set_self b1]
 ·rw[List.getElem?_set_self (by rw[List.length_set];exact b2)]
theorem ZeW{n:Nat}{m:Mem}{i c1 c2 f v:Nat}{body:S}(hb:body=.expr (.mth .append (.var f) (.cons (.mth .popat (.var 1) (.cons (.call 5 (.cons (.var 0) (.cons (.blt .len (.cons (.var 1) .nil)) .nil))) .nil)) .nil)) .done)(hv0:v≠0)(hv1:v≠1)(hvf:v≠f):∀(ts:List T) (A F:List (List Nat)) (M:Mem) (s:List T) (env:Env),MI m i c1 c2 A F M->IsSt s->ts.length<=A.length->A.length<50->F.length+ts.length<50->env[0]?=some (some (.c i))->env[1]?=some (some (.c c1))->env[f]?=some (some (.c c2)) ->
  ∃(A' F':List (List Nat)) (M':Mem) (s':List T) (env':Env),Z1 (ex (cf (n+1)) gv body) (.nm v) ts env (put M i s)=.ok (.next env') (put M' i s')/\IsSt s'/\MI m i c1 c2 A' F' M'/\(A'++F').Perm (A++F)/\F'.length=F.length+ts.length/\env'[f]?=some (some (.c c2))
 |[],A,F,M,s,env,h,hs,_,_,_,_,_,ef=>⟨A,F,M,s,env,rfl,hs,h,List.Perm.refl _,rfl,ef⟩
 |t::ts,A,F,M,s,env,h,hs,hl,hA,hF,e0,e1,ef=>by
  rw[List.length_cons]at hl hF
  have q0:(env.set v (some (.t t)))[0]?=some (some (.c i)):=by rw[List.getElem?_set_ne hv0];exact e0
  have q1:(env.set v (some (.t t)))[1]?=some (some (.c c1)):=by rw[List.getElem?_set_ne hv1];exact e1
  have qf:(env.set v (some (.t t)))[f]?=some (some (.c c2)):=by rw[List.getElem?_set_ne hvf];exact ef
  obtain⟨w,k,s1,M1,g,hs1,hw,h1⟩:=pop_ok (n:=n) h hs (by omega) (by omega) (by omega) q0 q1 qf
  have hk:=(List.getElem?_eq_some_iff.mp hw).1
  have hlen:(A.eraseIdx k).length=A.length-1:=List.length_eraseIdx_of_lt hk
  obtain⟨A',F',M',s',env',g2,hs2,h2,hp,hf,he⟩:=ZeW hb hv0 hv1 hvf ts (A.eraseIdx k) (F++[w]) M1 s1 _ h1 hs1 (by omega) (by omega) (by rw[List.length_append,List.length_singleton];omega) q0 q1 qf
  refine⟨A',F',M',s',env',?_,hs2,h2,hp.trans ?_,by rw[hf,List.length_append,List.length_singleton,List.length_cons];omega,he⟩
  ·rw[Z1]
   show(ex (cf (n+1)) gv body (env.set v (some (.t t))) (put M i s)).bind _=_
   have:ex (cf (n+1)) gv body (env.set v (some (.t t))) (put M i s)=.ok (.next (env.set v (some (.t t)))) (put M1 i s1):=by
    rw[hb]
    exact(Xh g).trans QT
   rw[this]
   exact g2
  ·have h3:=Zaf hw
   have h4:(A.eraseIdx k++(F++[w])).Perm (w::(A.eraseIdx k++F)):=by
    rw[<-List.append_assoc]
    exact List.perm_append_comm
   exact h4.trans (h3.symm.append_right F)
theorem Zgq{n:Nat}{f c:Nat}{env:Env}{m:Mem}{xs:List T}(ef:env[f]?=some (some (.c c)))(hc:m[c]?=some (some (false,xs))):ev (cf n) gv (.blt .tuple (.cons (.var f) .nil)) env m=.ok (.t (.tup xs)) m:=by
 have hv:views [W.c c] m=some [.lst xs]:=by
  show(view (.c c) m).bind _=_
  unfold view
  dsimp only
  rw[hc]
  rfl
 exact ZaU (Zc (Za ef) Zj) hv (Zde _)
theorem ZiA{n:Nat}{m:Mem}{i:Nat}{s:List T}(hi:i<m.length)(hs:IsSt s):∃(ws:List (List Nat)) (s':List T),cf (n+2) 14 [.c i] (put m i s)=.ok (.t (.tup (ws.map .str))) (put m i s')/\IsSt s'/\ws.Nodup/\ws.length<=3/\∀w∈ws,w∈four:=by
 have hM:MI m i m.length (m.length+1) four [] (m++[some (false,four.map .str),some (false,[])]):=by
  refine⟨List.take_left' rfl,hi,Nat.le_refl _,Nat.le_succ _,by omega,?_,?_⟩
  ·rw[List.getElem?_append_right (Nat.le_refl _),Nat.sub_self];rfl
  ·rw[List.getElem?_append_right (by omega),Nat.add_sub_cancel_left];rfl
 generalize hMM:m++[some (false,four.map T.str),some (false,[])]=M at hM
 obtain⟨r,s1,g1,hs1,r0,r1⟩:=Zi (n:=n) (many:=5) hM.hi hs (by decide) (by decide)
 obtain⟨z,hz,hzm⟩:=Qa (xs:=[T.int 0,.int 1,.int 1,.int 2,.int 3]) r0 (by simpa using r1)
 have hz':∃v:Nat,z=.int (v:Int)/\v<=3:=by
  simp only[List.mem_cons,List.not_mem_nil,or_false]at hzm
  rcases hzm with rfl|rfl|rfl|rfl|rfl
  ·exact⟨0,rfl,by decide⟩
  ·exact⟨1,rfl,by decide⟩
  ·exact⟨1,rfl,by decide⟩
  ·exact⟨2,rfl,by decide⟩
  ·exact⟨3,rfl,by decide⟩
 obtain⟨v,rfl,hv⟩:=hz'
 have hrl:(rangeT 0 v).length=v:=by simp[rangeT]
 obtain⟨A',F',M',s2,env',g2,hs2,h2,hp,hf,he⟩:=ZeW (n:=n) (f:=2) (v:=3) (body:=ZbV) rfl (by decide) (by decide) (by decide) (rangeT 0 v) four [] M s1 [some (.c i),some (.c m.length),some (.c (m.length+1)),none] hM hs1 (by rw[hrl];show v<=4;omega) (by decide) (by rw[hrl];simp;omega) rfl rfl rfl
 rw[List.append_nil]at hp
 refine⟨F',s2,?_,hs2,?_,by rw[hf,hrl];simpa using hv,λw hw=>hp.mem_iff.mp (List.mem_append_right _ hw)⟩
 ·have key:ex (cf (n+1)) gv Zay [some (.c i),none,none,none] (put m i s)=.ok (.ret (.t (.tup (F'.map .str)))) (put M' i s2):=by
   unfold Zay
   have p1:put M i s=put m i s++[some (false,four.map .str),some (false,[])]:=by
    rw[<-hMM]
    unfold put
    rw[List.set_append_left _ _ hi]
   have w1:ev (cf (n+1)) gv (.cel (.cons (.con (.str [104,101,97,118,121])) (.cons (.con (.str [103,114,101,97,116])) (.cons (.con (.str [115,109,97,108,108])) (.cons (.con (.str [115,111,111,110])) .nil))))) [some (.c i),none,none,none] (put m i s)=.ok (.c m.length) (put m i s++[some (false,four.map .str)]):=by
    rw[ev,Zc (Zb _) (Zc (Zb _) (Zc (Zb _) (Zc (Zb _) Zj)))]
    show Res.ok (W.c (put m i s).length) _=_
    rw[Zm]
    rfl
   have w2:ev (cf (n+1)) gv (.cel .nil) [some (.c i),some (.c m.length),none,none] (put m i s++[some (false,four.map .str)])=.ok (.c (m.length+1)) (put M i s):=by
    rw[ev,Zj]
    show Res.ok (W.c (put m i s++[some (false,four.map T.str)]).length) _=_
    rw[List.length_append,Zm,p1,List.append_assoc]
    rfl
   refine(Zr w1).trans ?_
   dsimp only[List.set_cons_succ,List.set_cons_zero]
   refine(Zr w2).trans ?_
   dsimp only[List.set_cons_succ,List.set_cons_zero]
   have hr:=Zhh (i:=(v:Int)) (by omega)
   rw[Int.toNat_natCast]at hr
   refine(QR (QV (Qz (Z3 (Zc (Zb _) (Zc (Zb _) (Zc (Zb _) (Zc (Zb _) (Zc (Zb _) Zj))))) rfl ZK) ((ZF (Za rfl) (Zb _)).trans g1) hz) hr) rfl g2).trans ?_
   exact ZG (Zgq he (h2.at2 s2))
  refine Qh (ZhB _ _ _) rfl key ?_
  show Res.ok _ ((put M' i s2).take (put m i s).length)=_
  rw[Zm,h2.fin]
 ·have:=hp.nodup_iff.mpr (show four.Nodup by decide)
  exact(List.nodup_append.mp this).2.1
noncomputable def rk(w:List Nat)(x:Wt):Int:=if w==[104,101,97,118,121]then -x.e.wt else if w==[103,114,101,97,116]then -x.e.left else if w==[115,109,97,108,108]then x.e.left else x.e.till
noncomputable def rks(ru:List (List Nat))(x:Wt):List Int:=ru.map (rk · x)++[x.no]
noncomputable def ruT(ru:List (List Nat)):T:=.tup (ru.map .str)
noncomputable def insW(ru:List (List Nat))(x:Wt):List Wt->List Wt
 |[]=>[x]
 |y::r=>if lexI (rks ru y) (rks ru x)then y::insW ru x r else x::y::r
noncomputable def ZL(ru:List (List Nat))(xs:List Wt):List Wt:=xs.foldr (insW ru) []
noncomputable def Sd(ru:List (List Nat))(l:List Wt):Prop:=l.Pairwise λa b=>lexI (rks ru b) (rks ru a)=false
section
variable{ru:List (List Nat)}
theorem JW(x:Wt):∀l:List Wt,(insW ru x l).Perm (x::l)
 |[]=>.refl _
 |y::r=>by
  rw[insW]
  split
  ·exact((JW x r).cons y).trans (.swap _ _ _)
  ·exact .refl _
theorem ZV:∀xs:List Wt,(ZL ru xs).Perm xs
 |[]=>.refl _
 |x::r=>(JW x _).trans ((ZV r).cons x)
theorem Zcx(x:Wt):∀{l:List Wt},Sd ru l->Sd ru (insW ru x l)
 |[],_=>List.pairwise_singleton _ _
 |y::r,h=>by
  rw[insW]
  obtain⟨h1,h2⟩:=List.pairwise_cons.mp h
  split
  ·rename_i q
   refine List.pairwise_cons.mpr ⟨λz hz=>?_,Zcx x h2⟩
   rcases List.mem_cons.mp ((JW x r).mem_iff.mp hz)with rfl|hz
   ·exact QQ q
   ·exact h1 z hz
  ·rename_i q
   have q:lexI (rks ru y) (rks ru x)=false:=by simpa using q
   refine List.pairwise_cons.mpr ⟨λz hz=>?_,h⟩
   rcases List.mem_cons.mp hz with rfl|hz
   ·exact q
   ·exact Ja q (h1 z hz)
theorem JC:∀xs:List Wt,Sd ru (ZL ru xs)
 |[]=>.nil
 |x::r=>Zcx x (JC r)
theorem ZhS{x y:Wt}(h:rks ru x=rks ru y):x.no=y.no:=by
 have h:ru.map (rk · x)++[x.no]=ru.map (rk · y)++[y.no]:=h
 exact(List.cons.inj (List.append_inj h (by rw[List.length_map,List.length_map])).2).1
theorem no_inj{xs:List Wt}(hn:(xs.map (·.no)).Nodup){a b:Wt}(ha:a∈xs)(hb:b∈xs)(h:a.no=b.no):a=b:=by
 have:=JN (xs:=xs.map λx=>(x.no,x)) (by rw[List.map_map];exact hn) (List.mem_map.mpr ⟨a,ha,rfl⟩) (List.mem_map.mpr ⟨b,hb,rfl⟩) h
 exact(Prod.mk.inj this).2
theorem sd_is{xs ys zs:List Wt}(hn:(xs.map (·.no)).Nodup)(py:ys.Perm xs)(pz:zs.Perm xs)(hy:Sd ru ys)(hz:Sd ru zs):ys=zs:=
 List.Perm.eq_of_pairwise (λa b ha hb h1 h2=>no_inj hn (py.mem_iff.mp ha) (pz.mem_iff.mp hb) (ZhS (Jo h2 h1))) hy hz (py.trans pz.symm)
theorem Zh7(x:Wt):∀l:List Wt,insK (rks ru x,x.t) (l.map λy=>(rks ru y,y.t))=(insW ru x l).map λy=>(rks ru y,y.t)
 |[]=>rfl
 |y::r=>by
  rw[List.map_cons,insK,insW]
  dsimp only
  split
  ·rw[Zh7 x r];rfl
  ·rfl
theorem ZeF:∀xs:List Wt,ZaF (xs.map λy=>(rks ru y,y.t))=(ZL ru xs).map λy=>(rks ru y,y.t)
 |[]=>rfl
 |x::r=>by
  rw[List.map_cons]
  show insK (rks ru x,x.t) (ZaF (r.map λy=>(rks ru y,y.t)))=_
  rw[ZeF r,Zh7]
  rfl
theorem Zh6(x:Wt):∀{l:List Wt},Sd ru l->l.take (l.countP λy=>lexI (rks ru y) (rks ru x))++x::l.drop (l.countP λy=>lexI (rks ru y) (rks ru x))=insW ru x l
 |[],_=>rfl
 |y::r,h=>by
  obtain⟨h1,h2⟩:=List.pairwise_cons.mp h
  rw[insW,List.countP_cons]
  cases q:lexI (rks ru y) (rks ru x)with
  |true =>
   rw[if_pos rfl,if_pos rfl,List.take_succ_cons,List.drop_succ_cons,List.cons_append,Zh6 x h2]
  |false =>
   have:(r.countP λy=>lexI (rks ru y) (rks ru x))=0:=by
    rw[List.countP_eq_zero]
    intro z hz e
    exact absurd (Ja (h1 z hz) (QQ e)) (by
     intro w
     have:=Ja (x:=rks ru x) (y:=rks ru y) (z:=rks ru z) q (h1 z hz)
     rw[e]at this;cases this)
   rw[this,if_neg Bool.false_ne_true,if_neg Bool.false_ne_true]
   rfl
theorem Zjv{xs:List Wt}(hn:(xs.map (·.no)).Nodup):(xs.map (rks ru)).Nodup:=by
 refine List.pairwise_map.mpr ?_
 exact(List.pairwise_map.mp hn).imp λh z=>h (ZhS z)
theorem ZeA{xs:List Wt}(hn:(xs.map (·.no)).Nodup)(hl:xs.length<=900000){ys:List Wt}(hp:ys.Perm xs):Zbv ((ys.map (·.no)).map .int)=some (.lst (((ZL [] xs).map (·.no)).map .int)):=by
 have h1:ints? ((ys.map (·.no)).map T.int)=some (ys.map (·.no)):=by
  generalize ys.map (·.no)=ns
  induction ns with
  |nil=>rfl
  |cons n ns ih=>rw[List.map_cons,ints?,ih];rfl
 unfold Zbv
 rw[h1]
 show(if(ys.map (·.no)).Nodup/\(ys.map (·.no)).length<=900000 then _ else none)=_
 rw[if_pos ⟨(hp.map _).nodup_iff.mpr hn,by rw[List.length_map,hp.length_eq];exact hl⟩]
 have e:sortI ((ys.map (·.no)).map λn=>[n])=(ZL [] xs).map λx=>[x.no]:=by
  symm
  refine ZcY ?_ ?_
  ·rw[List.map_map]
   exact((ZV xs).trans hp.symm).map _
  ·exact List.pairwise_map.mpr (JC (ru:=[]) xs)
 rw[e,List.map_map,List.map_map]
 rfl
end
section
variable{n:Nat}{m:Mem}{ru:List (List Nat)}{x y:Wt}
theorem Zh1{call:Nat->List W->Mem->Res W}{gv:List T}{env:Env}{m m1:Mem}{a:E}{i:Int}(h:ev call gv a env m=.ok (.t (.int i)) m1):ev call gv (.neg a) env m=.ok (.t (.int (-i))) m1:=by rw[ev,h];rfl
theorem ZiB{w:List Nat}:cf (n+1) 0 [.t (.str w),.t x.t] m=.ok (.t (.int (rk w x))) m:=by
 have key:ex (cf n) gv Zca [some (.t (.str w)),some (.t x.t),none,none,none] m=.ok (.ret (.t (.int (rk w x)))) m:=by
  unfold Zca
  rw[ex,Za rfl]
  show ex (cf n) gv _ [some (.t (.str w)),some (.t x.t),some (.t (.int x.no)),some (.t x.e.off),some (.t (.int x.e.left))] m=_
  unfold rk
  have c1:∀z,ev (cf n) gv (.cmp .Eq (.var 0) (.con (.str z))) [some (.t (.str w)),some (.t x.t),some (.t (.int x.no)),some (.t x.e.off),some (.t (.int x.e.left))] m=.ok (.t (.bl (w==z))) m:=λz=>J4 (Za rfl) (Zb _) (c_eqS _ _)
  have h1:=c1 [104,101,97,118,121]
  have h2:=c1 [103,114,101,97,116]
  have h3:=c1 [115,109,97,108,108]
  cases e1:w==[104,101,97,118,121]with
  |true=>rw[e1]at h1;exact QX h1 (ZG (Zh1 (Qz (Za rfl) (Zb _) rfl)))
  |false =>
   rw[e1]at h1
   refine(Z9 h1).trans ?_
   rw[if_neg Bool.false_ne_true]
   cases e2:w==[103,114,101,97,116]with
   |true=>rw[e2]at h2;exact QX h2 (ZG (Zh1 (Za rfl)))
   |false =>
    rw[e2]at h2
    refine(Z9 h2).trans ?_
    rw[if_neg Bool.false_ne_true]
    cases e3:w==[115,109,97,108,108]with
    |true=>rw[e3]at h3;exact QX h3 (ZG (Za rfl))
    |false =>
     rw[e3]at h3
     exact(Z9 h3).trans (ZG (Qz (Za rfl) (Zb _) rfl))
 exact Qh (ZjV _ _ _) rfl key (Qj rfl)
theorem ZgD(hl:ru.length<=3):cf (n+2) 1 [.t (ruT ru),.t x.t] m=.ok (.t (.lst ((rks ru x).map .int))) m:=by
 have hc:ev (cf (n+1)) gv Zb3 [some (.t (ruT ru)),some (.t x.t)] m=.ok (.t (.lst (ru.flatMap λw=>[T.int (rk w x)]))) m:=
  compA (emb:=T.str) ru (Za rfl) rfl (λw _=>⟨[some (.t (.str w)),some (.t x.t)],rfl,turn0 (Zcy ((ZF (Za rfl) (Za rfl)).trans ZiB))⟩) (by rw[QS,List.length_map];unfold lim;omega)
 rw[QS]at hc
 have e:(rks ru x).map T.int=(ru.map λw=>T.int (rk w x))++[.int x.no]:=by
  unfold rks
  rw[List.map_append,List.map_map]
  rfl
 rw[e]
 refine Qh (Zhz _ _ _) rfl (ZG (Zy hc (Z3 (Zc (Qz (Za rfl) (Zb _) rfl) Zj) rfl ZK) (Zig ?_))) (Qj rfl)
 rw[List.length_map,List.length_singleton]
 unfold lim
 omega
theorem Zfw(hl:ru.length<=3):∀us:List Wt,JR (λenv m=>ev (cf (n+2)) gv Qx env m) [some (.t (ruT ru))] (us.map Wt.t) m=.ok (us.map (rks ru)) m
 |[]=>rfl
 |u::us=>by
  have h:ev (cf (n+2)) gv Qx [some (.t u.t),some (.t (ruT ru))] m=.ok (.t (.lst ((rks ru u).map .int))) m:=(ZF (Za rfl) (Za rfl)).trans (ZgD hl)
  have hi:keyL (.t (.lst ((rks ru u).map .int)))=some (rks ru u):=by
   show ints? _=_
   generalize rks ru u=ns
   induction ns with
   |nil=>rfl
   |cons n ns ih=>rw[List.map_cons,ints?,ih];rfl
  rw[List.map_cons,JR,h,Zh,hi]
  show(JR _ _ (us.map Wt.t) m).bind _=_
  rw[Zfw hl us]
  rfl
theorem ZcO{α β γ:Type}(f:α->β)(g:α->γ):∀l:List α,(l.map f).zip (l.map g)=l.map λa=>(f a,g a)
 |[]=>rfl
 |a::l=>by rw[List.map_cons,List.map_cons,List.zip_cons_cons,ZcO f g l];rfl
theorem nosC{env:Env}{ws:List Wt}{w:W}{m0 m1:Mem}{it:E}(hl:ws.length<=30)(h1:ev (cf n) gv it env m=.ok w m0)(h2:ZJ w m0=.ok (ws.map Wt.t) m1)(h3:giveBack w m0 m1=m0):ev (cf n) gv (.comp 3 [] it (.tp [0,1,2]) .nil (.emit (.var 0))) env m=.ok (.t (il (ws.map (·.no)))) m0:=by
 have:=QC (own:=3) (keep:=[]) (tg:=.tp [0,1,2]) (cs:=.nil) (inner:=.emit (.var 0)) h1 h2 (QM (m:=m1) (g:=λw:Wt=>[T.int w.no]) ws λw _=>⟨[some (.t (.int w.no)),some (.t w.e.off),some (.t (.int w.e.left))],rfl,turn0 (Zcy (Za rfl))⟩) (by rw[QS,List.length_map];unfold lim;omega)
 rw[this,QS,h3]
 unfold il
 rw[List.map_map]
 rfl
theorem ZhR{us:List Wt}(hl:ru.length<=3)(hu:us.length<=30)(hn:(us.map (·.no)).Nodup):cf (n+3) 2 [.t (ruT ru),.t (wsT us)] m=.ok (.c m.length) (m++[some (false,((ZL ru us).map (·.no)).map .int)]):=by
 have hs:ev (cf (n+2)) gv (.sortk [0] (.var 1) Qx) [some (.t (ruT ru)),some (.t (wsT us)),none] m=.ok (.t (wsT (ZL ru us))) m:=by
  rw[ev,Za rfl,Zh]
  show(JR (λenv m=>ev (cf (n+2)) gv Qx env m) [some (.t (ruT ru))] (us.map Wt.t) m).only.bind _=_
  rw[Zfw hl us]
  show pur (Xm (us.map (rks ru)) (us.map Wt.t)) m=_
  unfold Xm
  rw[if_pos ⟨Zjv hn,by rw[List.length_map];omega⟩,ZcO,ZeF,List.map_map]
  rfl
 have hlw:(ZL ru us).length<=30:=by rw[(ZV us).length_eq];exact hu
 have hc:ev (cf (n+2)) gv ZaZ [some (.t (ruT ru)),some (.t (wsT us)),some (.t (wsT (ZL ru us)))] m=.ok (.t (il ((ZL ru us).map (·.no)))) m:=nosC hlw (Za rfl) rfl rfl
 have key:ex (cf (n+2)) gv Jq [some (.t (ruT ru)),some (.t (wsT us)),none] m=.ok (.ret (.c m.length)) (m++[some (false,((ZL ru us).map (·.no)).map .int)]):=by
  unfold Jq
  refine(Zr hs).trans ?_
  dsimp only[List.set_cons_succ,List.set_cons_zero]
  refine ZG ?_
  rw[ev,hc]
  rfl
 refine Qh (Zf2 _ _ _) rfl key ?_
 unfold fin
 dsimp only
 rw[if_neg (Nat.lt_irrefl _),Jc]
 dsimp only
 rw[if_pos rfl,List.take_left' rfl]
theorem dg_ok{w:List Nat}(hw:w∈four){z:Wt}{e0 e1 e2 e4 e5:Option W}:ev (cf n) gv (.blt .dget (.cons (.dsn [[104,101,97,118,121],[103,114,101,97,116],[115,109,97,108,108],[115,111,111,110]] (.cons (.bin .Sub (.con (.int 0)) (.ix (.var 6) (.con (.int 5)))) (.cons (.bin .Sub (.con (.int 0)) (.var 7)) (.cons (.var 7) (.cons (.ix (.var 6) (.con (.int 6))) .nil))))) (.cons (.var 3) .nil))) [e0,e1,e2,some (.t (.str w)),e4,e5,some (.t z.e.off),some (.t (.int z.e.left))] m=.ok (.t (.int (rk w z))) m:=by
 have h1:ev (cf n) gv (.dsn [[104,101,97,118,121],[103,114,101,97,116],[115,109,97,108,108],[115,111,111,110]] (.cons (.bin .Sub (.con (.int 0)) (.ix (.var 6) (.con (.int 5)))) (.cons (.bin .Sub (.con (.int 0)) (.var 7)) (.cons (.var 7) (.cons (.ix (.var 6) (.con (.int 6))) .nil))))) [e0,e1,e2,some (.t (.str w)),e4,e5,some (.t z.e.off),some (.t (.int z.e.left))] m =
   .ok (.t (.dct ([[104,101,97,118,121],[103,114,101,97,116],[115,109,97,108,108],[115,111,111,110]].map λk=>.inr ⟨k.toArray⟩) [.int (0-z.e.wt),.int (0-z.e.left),.int z.e.left,.int z.e.till])) m:=by
  rw[ev,Zc (Zy (Zb _) (Qz (Za rfl) (Zb _) rfl) (Zj2 _ _)) (Zc (Zy (Zb _) (Za rfl) (Zj2 _ _)) (Zc (Za rfl) (Zc (Qz (Za rfl) (Zb _) rfl) Zj)))]
  rfl
 have e:bltT .dget [.dct ([[104,101,97,118,121],[103,114,101,97,116],[115,109,97,108,108],[115,111,111,110]].map λk=>.inr ⟨k.toArray⟩) [.int (0-z.e.wt),.int (0-z.e.left),.int z.e.left,.int z.e.till],.str w]=some (.int (rk w z)):=by
  unfold four at hw
  simp only[List.mem_cons,List.not_mem_nil,or_false]at hw
  rcases hw with rfl|rfl|rfl|rfl
  ·exact congrArg (λi=>some (T.int i)) (Int.zero_sub _)
  ·exact congrArg (λi=>some (T.int i)) (Int.zero_sub _)
  ·rfl
  ·rfl
 exact ZaU (Zc h1 (Zc (Za rfl) Zj)) rfl e
theorem Zgd{w:List Nat}(hw:w∈four){z:Wt}{j:Nat}{xs:List T}{e0 e1 e2:Option W}(hj:m[j]?=some (some (false,xs)))(hl:xs.length<1000):
  ex (cf n) gv Qe [e0,e1,e2,some (.t (.str w)),some (.c j),some (.t (.int z.no)),some (.t z.e.off),some (.t (.int z.e.left))] m=.ok (.next [e0,e1,e2,some (.t (.str w)),some (.c j),some (.t (.int z.no)),some (.t z.e.off),some (.t (.int z.e.left))]) (m.set j (some (false,xs++[.int (rk w z)]))):=by
 unfold Qe
 exact(Xh (Zdj (.inl rfl) rfl hj (dg_ok hw) hj (if_pos (by unfold lim;omega)))).trans QT
theorem Zj4{w:List Nat}(hw:w∈four){e0 e4 e5 e6 e7:Option W}:∃M f5 f6 f7,M=m++[some (false,[T.int (rk w x),.int (rk w y)])] /\
  ex (cf n) gv ZM [e0,some (.t x.t),some (.t y.t),some (.t (.str w)),e4,e5,e6,e7] m=(if rk w x=rk w y then .ok (.next [e0,some (.t x.t),some (.t y.t),some (.t (.str w)),some (.c m.length),f5,f6,f7]) M else .ok (.ret (.t (.bl (decide (rk w x<rk w y))))) M):=by
 refine⟨_,some (.t (.int y.no)),some (.t y.e.off),some (.t (.int y.e.left)),rfl,?_⟩
 have g:∀c:List T,(m++[some (false,c)])[m.length]?=some (some (false,c)):=λc=>Jc
 have st:∀c d:List T,(m++[some (false,c)]).set m.length (some (false,d))=m++[some (false,d)]:=λc d=>Zci
 unfold ZM
 refine(Zr (w:=.c m.length) (m1:=m++[some (false,[])]) (by rw[ev,Zj];rfl)).trans ?_
 dsimp only[List.set_cons_succ,List.set_cons_zero]
 have hloop:Z1 (ex (cf n) gv Qe) (.tp [5,6,7]) [x.t,y.t] [e0,some (.t x.t),some (.t y.t),some (.t (.str w)),some (.c m.length),e5,e6,e7] (m++[some (false,[])])=.ok (.next [e0,some (.t x.t),some (.t y.t),some (.t (.str w)),some (.c m.length),some (.t (.int y.no)),some (.t y.e.off),some (.t (.int y.e.left))]) (m++[some (false,[T.int (rk w x),.int (rk w y)])]):=by
  rw[Z1]
  show(ex (cf n) gv Qe [e0,some (.t x.t),some (.t y.t),some (.t (.str w)),some (.c m.length),some (.t (.int x.no)),some (.t x.e.off),some (.t (.int x.e.left))] _).bind _=_
  rw[Zgd (xs:=[]) hw (g []) (by decide),Zh,st]
  dsimp only
  rw[Z1]
  show(ex (cf n) gv Qe [e0,some (.t x.t),some (.t y.t),some (.t (.str w)),some (.c m.length),some (.t (.int y.no)),some (.t y.e.off),some (.t (.int y.e.left))] (m++[some (false,[T.int (rk w x)])])).bind _=_
  rw[Zgd (xs:=[T.int (rk w x)]) hw (g _) (by show(1:Nat)<1000;decide),Zh,st]
  rfl
 refine(QR (ZjN (Za rfl) (Za rfl)) rfl hloop).trans ?_
 have q0:=J5 (call:=cf n) (gv:=gv) (env:=[e0,some (.t x.t),some (.t y.t),some (.t (.str w)),some (.c m.length),some (.t (.int y.no)),some (.t y.e.off),some (.t (.int y.e.left))]) (c:=4) (k:=0) rfl (g [T.int (rk w x),.int (rk w y)]) (at0 _ _)
 have q1:=J5 (call:=cf n) (gv:=gv) (env:=[e0,some (.t x.t),some (.t y.t),some (.t (.str w)),some (.c m.length),some (.t (.int y.no)),some (.t y.e.off),some (.t (.int y.e.left))]) (c:=4) (k:=1) rfl (g [T.int (rk w x),.int (rk w y)]) (at1 _ _ _)
 have hc:=J4 q0 q1 (Zj0 _ _)
 by_cases he:rk w x=rk w y
 ·rw[if_pos he]
  rw[show(!(rk w x==rk w y))=false by rw[he,beq_self_eq_true];rfl]at hc
  exact(Z9 hc).trans QT
 ·rw[if_neg he]
  rw[show(!(rk w x==rk w y))=true by rw[beq_eq_false_iff_ne.mpr he];rfl]at hc
  exact QX hc (ZG (J4 q0 q1 (c_lt _ _)))
theorem Zif{e0:Option W}{k:Nat}:∀(ru:List (List Nat)) (m:Mem) (e3 e4 e5 e6 e7:Option W),(∀w∈ru,w∈four)->k<=m.length ->
  (∃env' M,Z1 (ex (cf n) gv ZM) (.nm 3) (ru.map .str) [e0,some (.t x.t),some (.t y.t),e3,e4,e5,e6,e7] m=.ok (.next env') M/\env'[1]?=some (some (.t x.t))/\env'[2]?=some (some (.t y.t))/\M.take k=m.take k/\lexI (rks ru x) (rks ru y)=decide (x.no<y.no)) ∨
  ∃M,Z1 (ex (cf n) gv ZM) (.nm 3) (ru.map .str) [e0,some (.t x.t),some (.t y.t),e3,e4,e5,e6,e7] m=.ok (.ret (.t (.bl (lexI (rks ru x) (rks ru y))))) M/\M.take k=m.take k
 |[],m,e3,e4,e5,e6,e7,_,_=>.inl ⟨_,m,rfl,rfl,rfl,rfl,by
  show(if x.no=y.no then lexI [] []else decide (x.no<y.no))=_
  split
  ·rename_i h;rw[h];simp[lexI]
  ·rfl⟩
 |w::ru,m,e3,e4,e5,e6,e7,hw,hk=>by
  obtain⟨M,f5,f6,f7,hM,h⟩:=Zj4 (n:=n) (m:=m) (x:=x) (y:=y) (w:=w) (e0:=e0) (e4:=e4) (e5:=e5) (e6:=e6) (e7:=e7) (hw w List.mem_cons_self)
  have tk:M.take k=m.take k:=by rw[hM,List.take_append_of_le_length hk]
  have hk':k<=M.length:=by rw[hM,List.length_append];omega
  have el:lexI (rks (w::ru) x) (rks (w::ru) y)=if rk w x=rk w y then lexI (rks ru x) (rks ru y)else decide (rk w x<rk w y):=rfl
  have st:Z1 (ex (cf n) gv ZM) (.nm 3) ((w::ru).map .str) [e0,some (.t x.t),some (.t y.t),e3,e4,e5,e6,e7] m=(ex (cf n) gv ZM [e0,some (.t x.t),some (.t y.t),some (.t (.str w)),e4,e5,e6,e7] m).bind λfl m=>match fl with
   |.next env=>Z1 (ex (cf n) gv ZM) (.nm 3) (ru.map .str) env m
   |.cont env=>Z1 (ex (cf n) gv ZM) (.nm 3) (ru.map .str) env m
   |.brk env=>.ok (.next env) m
   |.ret w=>.ok (.ret w) m:=rfl
  rw[st,h,el]
  by_cases he:rk w x=rk w y
  ·rw[if_pos he,if_pos he,Zh]
   rcases Zif ru M (some (.t (.str w))) (some (.c m.length)) f5 f6 f7 (λv hv=>hw v (List.mem_cons_of_mem _ hv)) hk' with⟨env',M',q1,q2,q3,q4,q5⟩|⟨M',q1,q2⟩
   ·exact .inl ⟨env',M',q1,q2,q3,q4.trans tk,q5⟩
   ·exact .inr ⟨M',q1,q2.trans tk⟩
  ·rw[if_neg he,if_neg he,Zh]
   exact .inr ⟨M,rfl,tk⟩
theorem ZjI{call:Nat->List W->Mem->Res W}{gv:List T}{tg:Tg}{it:E}{body k:S}{env:Env}{m m0 m1 m2:Mem}{x:W}{ts:List T}{w:W}(h1:ev call gv it env m=.ok x m0)(h2:ZJ x m0=.ok ts m1)(h3:Z1 (ex call gv body) tg ts env m1=.ok (.ret w) m2):
  ex call gv (.forr tg it body k) env m=.ok (.ret w) (giveBack x m0 m2):=by
 rw[ex,h1]
 show(ZJ x m0).bind _=_
 rw[h2]
 show(Z1 (ex call gv body) tg ts env m1).bind _=_
 rw[h3]
 rfl
theorem Zgc(hw:∀w∈ru,w∈four):cf (n+1) 12 [.t (ruT ru),.t x.t,.t y.t] m=.ok (.t (.bl (lexI (rks ru x) (rks ru y)))) m:=by
 have key:∃M,ex (cf n) gv Ji [some (.t (ruT ru)),some (.t x.t),some (.t y.t),none,none,none,none,none] m=.ok (.ret (.t (.bl (lexI (rks ru x) (rks ru y))))) M/\M.take m.length=m:=by
  unfold Ji
  rcases Zif (n:=n) (x:=x) (y:=y) (e0:=some (.t (ruT ru))) (k:=m.length) ru m none none none none none hw (Nat.le_refl _)with⟨env',M,q1,q2,q3,q4,q5⟩|⟨M,q1,q2⟩
  ·refine⟨M,(QR (Za rfl) rfl q1).trans ?_,q4.trans List.take_length⟩
   rw[q5]
   exact ZG (J4 (Qz (Za q2) (Zb _) rfl) (Qz (Za q3) (Zb _) rfl) (c_lt _ _))
  ·exact⟨M,ZjI (x:=.t (ruT ru)) (m0:=m) (m1:=m) (Za rfl) rfl q1,q2.trans List.take_length⟩
 obtain⟨M,h1,h2⟩:=key
 refine Qh (Zec _ _ _) rfl h1 ?_
 show Res.ok _ (M.take m.length)=_
 rw[h2]
theorem Zdi{α:Type}(p:α->Bool)(F:α->T)(l:List α):(l.flatMap λa=>if p a then[F a]else[]).length=l.countP p:=by
 rw[Xx,List.length_map,List.countP_eq_length_filter]
theorem ZgA{fs:List Wt}{e1 e4:Option W}(hw:∀w∈ru,w∈four)(hs:Sd ru fs)(hl:fs.length<=30):∃f4,
  ex (cf (n+1)) gv JT [some (.t (ruT ru)),e1,some (.c m.length),some (.t x.t),e4] (m++[some (false,fs.map Wt.t)])=.ok (.next [some (.t (ruT ru)),e1,some (.c m.length),some (.t x.t),f4]) (m++[some (false,(insW ru x fs).map Wt.t)]):=by
 have hc:ev (cf (n+1)) gv Zdo [some (.t (ruT ru)),e1,some (.c m.length),some (.t x.t),e4] (m++[some (false,fs.map Wt.t)])=.ok (.t (.lst (fs.flatMap λy=>if lexI (rks ru y) (rks ru x)then[y.t]else[]))) (m++[some (false,fs.map Wt.t)]):=by
  refine compC (emb:=Wt.t) fs (Za rfl) Jc (λz _=>⟨[some (.t z.t),some (.t (ruT ru)),some (.t x.t)],rfl,λm'=>?_⟩) (by rw[Zdi];exact Nat.le_trans List.countP_le_length (Nat.le_trans hl (by decide)))
  have ht:ev (cf (n+1)) gv (.call 12 (.cons (.var 1) (.cons (.var 0) (.cons (.var 2) .nil)))) [some (.t z.t),some (.t (ruT ru)),some (.t x.t)] m'=.ok (.t (.bl (lexI (rks ru z) (rks ru x)))) m':=(Zhr (Za rfl) (Za rfl) (Za rfl)).trans (Zgc hw)
  cases h:lexI (rks ru z) (rks ru x)with
  |true=>rw[h]at ht;exact turn1T ht (Zcy (Za rfl))
  |false=>rw[h]at ht;exact ZhN ht
 refine⟨some (.t (.int (fs.countP λy=>lexI (rks ru y) (rks ru x):Nat))),?_⟩
 unfold JT
 refine(Zr (QV hc (by rw[Zhi,Zdi]))).trans ?_
 dsimp only[List.set_cons_succ,List.set_cons_zero]
 have hcl:(fs.countP λy=>lexI (rks ru y) (rks ru x))<=fs.length:=List.countP_le_length
 have hu:mutM .insert (fs.map Wt.t) [.int (fs.countP λy=>lexI (rks ru y) (rks ru x):Nat),x.t]=some (.non,(insW ru x fs).map Wt.t):=by
  show(if 0<=((fs.countP λy=>lexI (rks ru y) (rks ru x):Nat):Int)/\((fs.countP λy=>lexI (rks ru y) (rks ru x):Nat):Int)<=(fs.map Wt.t).length/\(fs.map Wt.t).length<lim then some (T.non,(fs.map Wt.t).take ((fs.countP λy=>lexI (rks ru y) (rks ru x):Nat):Int).toNat++x.t::(fs.map Wt.t).drop ((fs.countP λy=>lexI (rks ru y) (rks ru x):Nat):Int).toNat)else none)=_
  rw[if_pos ⟨by omega,by rw[List.length_map];omega,by rw[List.length_map];unfold lim;omega⟩,Int.toNat_natCast,<-Zh6 x hs,List.map_append,List.map_cons,List.map_take,List.map_drop]
 refine(Xh (w:=.t .non) (m1:=m++[some (false,(insW ru x fs).map Wt.t)]) ?_).trans QT
 rw[ev,Za rfl,Zh]
 have ht:tyM .insert (.c m.length) (m++[some (false,fs.map Wt.t)])=true:=by
  unfold tyM
  dsimp only
  rw[Jc]
 rw[if_pos ht,Zc (Za rfl) (Zc (Za rfl) Zj),Zh]
 show(match(m++[some (false,fs.map Wt.t)])[m.length]? with
   |some (some (false,xs))=>match mutM .insert xs [.int (fs.countP λy=>lexI (rks ru y) (rks ru x):Nat),x.t]with
    |some (t,ys)=>Res.ok (W.t t) ((m++[some (false,fs.map Wt.t)]).set m.length (some (false,ys)))
    |none=>.stuck
   |_=>.stuck)=_
 rw[Jc]
 dsimp only
 rw[hu]
 dsimp only
 rw[Zci]
theorem Zc4{e1:Option W}(hw:∀w∈ru,w∈four):∀(us fs:List Wt) (e3 e4:Option W),Sd ru fs->fs.length+us.length<=30->∃env' gs,
  Z1 (ex (cf (n+1)) gv JT) (.nm 3) (us.map Wt.t) [some (.t (ruT ru)),e1,some (.c m.length),e3,e4] (m++[some (false,fs.map Wt.t)])=.ok (.next env') (m++[some (false,gs.map Wt.t)])/\env'[2]?=some (some (.c m.length))/\Sd ru gs/\gs.Perm (us++fs)
 |[],fs,e3,e4,hs,_=>⟨_,fs,rfl,rfl,hs,.refl _⟩
 |u::us,fs,e3,e4,hs,hl=>by
  rw[List.length_cons]at hl
  obtain⟨f4,h1⟩:=ZgA (n:=n) (m:=m) (x:=u) (e1:=e1) (e4:=e4) hw hs (by omega)
  have hp:=JW (ru:=ru) u fs
  obtain⟨env',gs,h2,h3,h4,h5⟩:=Zc4 hw us (insW ru u fs) (some (.t u.t)) f4 (Zcx u hs) (by rw[hp.length_eq,List.length_cons];omega)
  refine⟨env',gs,?_,h3,h4,h5.trans ((hp.append_left us).trans List.perm_middle)⟩
  rw[List.map_cons,Z1]
  show(ex (cf (n+1)) gv JT [some (.t (ruT ru)),e1,some (.c m.length),some (.t u.t),e4] (m++[some (false,fs.map Wt.t)])).bind _=_
  rw[h1]
  exact h2
theorem ZfK{m:Mem}{j:Nat}{xs:List T}(hj:m[j]?=some (some (false,xs))):ZJ (.c j) m=.ok xs (m.set j (some (true,xs)))/\giveBack (.c j) m (m.set j (some (true,xs)))=m:=by
 constructor
 ·unfold ZJ
  dsimp only
  rw[hj]
 ·unfold giveBack
  dsimp only
  rw[hj]
  show(m.set j (some (true,xs))).set j (some (false,xs))=m
  rw[List.set_set]
  obtain⟨h1,h2⟩:=List.getElem?_eq_some_iff.mp hj
  rw[<-h2]
  exact List.set_getElem_self h1
theorem Zjp{us:List Wt}(hw:∀w∈ru,w∈four)(hu:us.length<=30)(hn:(us.map (·.no)).Nodup):cf (n+2) 13 [.t (ruT ru),.t (wsT us)] m=.ok (.t (il ((ZL ru us).map (·.no)))) m:=by
 obtain⟨env',gs,h1,h2,h3,h4⟩:=Zc4 (n:=n) (m:=m) (e1:=some (.t (wsT us))) hw us [] none none .nil (by simpa using hu)
 rw[List.append_nil]at h4
 obtain rfl:gs=ZL ru us:=sd_is hn h4 (ZV us) h3 (JC us)
 obtain⟨b1,b2⟩:=ZfK (Jc (m:=m) (c:=some (false,(ZL ru us).map Wt.t)))
 have key:ex (cf (n+1)) gv Zcb [some (.t (ruT ru)),some (.t (wsT us)),none,none,none] m=.ok (.ret (.t (il ((ZL ru us).map (·.no))))) (m++[some (false,(ZL ru us).map Wt.t)]):=by
  unfold Zcb
  refine(Zr (w:=.c m.length) (m1:=m++[some (false,[])]) (by rw[ev,Zj];rfl)).trans ?_
  dsimp only[List.set_cons_succ,List.set_cons_zero]
  refine(QR (Za rfl) rfl h1).trans ?_
  exact ZG (nosC (by rw[(ZV us).length_eq];exact hu) (Za h2) b1 b2)
 refine Qh (ZjW _ _ _) rfl key ?_
 show Res.ok _ ((m++[some (false,(ZL ru us).map Wt.t)]).take m.length)=_
 rw[List.take_left' rfl]
end
theorem ZfF(ns:List Int):Zg 60 (il ns)=true:=Zdl 59 ns
theorem ZeD{ru:List (List Nat)}{us:List Wt}:(ZL ru us).length=us.length:=(ZV us).length_eq
theorem ZgB{ru:List (List Nat)}{us ws:List Wt}(hp:us.Perm ws)(hn:(ws.map (·.no)).Nodup):ZL ru us=ZL ru ws:=sd_is hn ((ZV us).trans hp) (ZV ws) (JC us) (JC ws)
section
variable{n:Nat}{ns:List Int}{M:Mem}{i:Nat}{s:List T}{ru:List (List Nat)}{ws:List Wt}
theorem Zge(hi:i<M.length)(L:List T):(put (M++[some (false,L)]) i s)[M.length]?=some (some (false,L)):=by
 rw[Z4 hi]
 have:=Jc (m:=put M i s) (c:=some (false,L))
 rw[Zm]at this
 exact this
theorem Zcl(hi:i<M.length)(hr:ru.length<=3)(hl:ws.length<=30)(hn:(ws.map (·.no)).Nodup):cf (n+3) 2 [.t (ruT ru),.t (wsT ws)] (put M i s)=.ok (.c M.length) (put (M++[some (false,((ZL ru ws).map (·.no)).map .int)]) i s):=by
 rw[ZhR hr hl hn,Zm,Z4 hi]
theorem law_0{e1 e6 e7 e8 e9 e10:Option W}(hi:i<M.length)(hs:IsSt s)(hr:ru.length<=3)(hl:ws.length<=30)(ho:∀w∈ws,Wok w)(hn:(ws.map (·.no)).Nodup):
  ∃(M':Mem) (s':List T) (g7 g8 g9:Option W),ex (cf (n+20)) gv Jw [some (.t (.scr ns)),e1,some (.c i),some (.t (ruT ru)),some (.t (wsT ws)),some (.t (il ((ZL ru ws).map (·.no)))),e6,e7,e8,e9,e10] (put M i s) =
   .ok (.next [some (.t (.scr ns)),e1,some (.c i),some (.t (ruT ru)),some (.t (wsT ws)),some (.t (il ((ZL ru ws).map (·.no)))),e6,g7,g8,g9,e10]) (put M' i s')/\i<M'.length/\IsSt s':=by
 obtain⟨us,s1,g1,hs1,hp⟩:=Zet (n:=n+18) hi hs hl λw hw=>(ho w hw).ent
 have g2:=Zcl (n:=n+17) (s:=s1) (ru:=ru) (ws:=us) hi hr (by rw[hp.length_eq];exact hl) ((hp.map _).nodup_iff.mpr hn)
 rw[ZgB hp hn]at g2
 have hdu:Zg 60 (wsT us)=true:=Zce λw hw=>(ho w (hp.mem_iff.mp hw)).ent
 have hX:((ZL ru ws).map (·.no)).length<=30:=by rw[List.length_map,ZeD];exact hl
 generalize (ZL ru ws).map (·.no)=X at g2 hX
 have hat:=Zge (s:=s1) hi (X.map T.int)
 refine⟨M++[some (false,[])],s1,some (.t (wsT us)),some (.t (wsT us)),some (.c M.length),?_,by rw[List.length_append];omega,hs1⟩
 unfold Jw
 refine(Zr ((ZF (Za rfl) (Za rfl)).trans g1)).trans ?_
 dsimp only[List.set_cons_succ,List.set_cons_zero]
 refine(Zr (QV (Za rfl) (l_list _))).trans ?_
 dsimp only[List.set_cons_succ,List.set_cons_zero]
 refine(Zr ((ZF (Za rfl) (Za rfl)).trans g2)).trans ?_
 dsimp only[List.set_cons_succ,List.set_cons_zero]
 refine(Z9 (m1:=put (M++[some (false,X.map T.int)]) i s1) ?_).trans ?_
 ·rw[ZfP (ev_not (ZjO (k:=true) (Za rfl) (Jz hat) rfl)),ZfP (Xi (Za rfl) (Za rfl) (Jz hat) (Zbl (ZfF X)))]
  exact J4 (Za rfl) (Za rfl) (Zbl hdu)
 refine(Z9 (m1:=put (M++[some (false,X.map T.int)]) i s1) ?_).trans ?_
 ·have hc:ev (cf (n+20)) gv Zga [some (.t (.scr ns)),e1,some (.c i),some (.t (ruT ru)),some (.t (wsT ws)),some (.t (il X)),e6,some (.t (wsT us)),some (.t (wsT us)),some (.c M.length),e10] (put (M++[some (false,X.map T.int)]) i s1)=.ok (.t (.lst (X.flatMap λ_=>[]))) (put (M++[some (false,X.map T.int)]) i s1):=by
   refine compC X (Za rfl) hat (λx _=>⟨[some (.t (.int x))],rfl,λm'=>ZhN (ev_isi (k:=false) (Za rfl) rfl)⟩) ?_
   rw[List.flatMap_eq_nil_iff.mpr λ_ _=>rfl]
   exact Nat.zero_le _
  rw[List.flatMap_eq_nil_iff.mpr λ_ _=>rfl]at hc
  exact J4 hc (Z3 Zj rfl ZK) (Zbn rfl).2
 refine(Xh (w:=.t .non) (m1:=put (M++[some (false,[])]) i s1) ?_).trans QT
 rw[ev,Za rfl,Zh]
 have ht:tyM .clear (.c M.length) (put (M++[some (false,X.map T.int)]) i s1)=true:=by
  unfold tyM
  dsimp only
  rw[hat]
 rw[if_pos ht,Zj,Zh]
 show(match(put (M++[some (false,X.map T.int)]) i s1)[M.length]? with
   |some (some (false,xs))=>match mutM .clear xs []with
    |some (t,ys)=>Res.ok (W.t t) ((put (M++[some (false,X.map T.int)]) i s1).set M.length (some (false,ys)))
    |none=>.stuck
   |_=>.stuck)=_
 rw[hat]
 show Res.ok (W.t .non) ((put (M++[some (false,X.map T.int)]) i s1).set M.length (some (false,[])))=_
 rw[Z4 hi,Z4 hi]
 have:=Zci (m:=put M i s1) (c:=some (false,X.map T.int)) (d:=some (false,[]))
 rw[Zm]at this
 rw[this]
theorem law_1{x:Int}{m:Mem}{e2 e3 e4 e5 e6 e7 e8 e9 e10:Option W}:∃(m':Mem) (f2 f3 f4 f5 f6 f7 f8 f9 f10:Option W),ex (cf (n+20)) gv Zbm [some (.t (.scr ns)),some (.t (.int x)),e2,e3,e4,e5,e6,e7,e8,e9,e10] m=.ok (.next [some (.t (.scr ns)),some (.t (.int x)),f2,f3,f4,f5,f6,f7,f8,f9,f10]) m':=by
 obtain⟨s0,g0,hs0⟩:=Ziq (n:=n+19) (m:=m) (x:=x)
 have hi:m.length<(m++[none]).length:=by simp
 generalize hM:m++[none]=M at g0 hi
 generalize hI:m.length=i at g0 hi
 obtain⟨ru,s1,g1,hs1,_,hr,hw⟩:=ZiA (n:=n+18) hi hs0
 obtain⟨r,s2,gr,hs2,r0,r1⟩:=Zi (n:=n+19) (many:=8) hi hs1 (by decide) (by decide)
 obtain⟨z,hz,hzm⟩:=Qa (xs:=[T.int 12,.int 12,.int 12,.int 12,.int 12,.int 12,.int 12,.int 30]) r0 (by simpa using r1)
 have hz':∃most:Int,z=.int most/\(0<=most/\most<=30):=by
  simp only[List.mem_cons,List.not_mem_nil,or_false]at hzm
  rcases hzm with rfl|rfl|rfl|rfl|rfl|rfl|rfl|rfl<;>exact⟨_,rfl,by decide,by decide⟩
 obtain⟨most,rfl,hm2⟩:=hz'
 obtain⟨ws,s3,g3,hs3,ho,hn,hl⟩:=Zds (n:=n+11) hi hs2 hm2
 have g4:=Zjp (n:=n+18) (m:=put M i s3) (ru:=ru) hw hl hn
 have step:∀(M:Mem) (s:List T) (e6 e7 e8 e9:Option W),i<M.length->IsSt s->_:=λM s e6 e7 e8 e9 hi hs=>law_0 (n:=n) (ns:=ns) (ru:=ru) (e1:=some (.t (.int x))) (e6:=e6) (e7:=e7) (e8:=e8) (e9:=e9) (e10:=e10) hi hs hr hl ho hn
 obtain⟨M4,s4,a7,a8,a9,h4,hi4,hs4⟩:=step M s3 (some (.t (.int 0))) e7 e8 e9 hi hs3
 obtain⟨M5,s5,b7,b8,b9,h5,hi5,hs5⟩:=step M4 s4 (some (.t (.int 1))) a7 a8 a9 hi4 hs4
 obtain⟨M6,s6,c7,c8,c9,h6,hi6,hs6⟩:=step M5 s5 (some (.t (.int 2))) b7 b8 b9 hi5 hs5
 generalize hD:il ((ZL ru ws).map (·.no))=D at g4 h4 h5 h6
 have hloop:Z1 (ex (cf (n+20)) gv Jw) (.nm 6) [.int 0,.int 1,.int 2] [some (.t (.scr ns)),some (.t (.int x)),some (.c i),some (.t (ruT ru)),some (.t (wsT ws)),some (.t D),e6,e7,e8,e9,e10] (put M i s3)=.ok (.next [some (.t (.scr ns)),some (.t (.int x)),some (.c i),some (.t (ruT ru)),some (.t (wsT ws)),some (.t D),some (.t (.int 2)),c7,c8,c9,e10]) (put M6 i s6):=by
  rw[Z1]
  show(ex (cf (n+20)) gv Jw [some (.t (.scr ns)),some (.t (.int x)),some (.c i),some (.t (ruT ru)),some (.t (wsT ws)),some (.t D),some (.t (.int 0)),e7,e8,e9,e10] (put M i s3)).bind _=_
  rw[h4,Zh]
  dsimp only
  rw[Z1]
  show(ex (cf (n+20)) gv Jw [some (.t (.scr ns)),some (.t (.int x)),some (.c i),some (.t (ruT ru)),some (.t (wsT ws)),some (.t D),some (.t (.int 1)),a7,a8,a9,e10] (put M4 i s4)).bind _=_
  rw[h5,Zh]
  dsimp only
  rw[Z1]
  show(ex (cf (n+20)) gv Jw [some (.t (.scr ns)),some (.t (.int x)),some (.c i),some (.t (ruT ru)),some (.t (wsT ws)),some (.t D),some (.t (.int 2)),b7,b8,b9,e10] (put M5 i s5)).bind _=_
  rw[h6]
  rfl
 have g7:=Zcl (n:=n+17) (s:=s6) (ru:=[]) (ws:=ws) hi6 (Nat.zero_le _) hl hn
 have hi7:i<(M6++[some (false,((ZL [] ws).map (·.no)).map T.int)]).length:=by rw[List.length_append];omega
 have g8:=Zcl (n:=n+17) (s:=s6) (ru:=ru) (ws:=ws) hi7 hr hl hn
 have hat7:=Zge (s:=s6) hi6 (((ZL [] ws).map (·.no)).map T.int)
 have hat8:=Zge (s:=s6) hi7 (((ZL ru ws).map (·.no)).map T.int)
 generalize hB:il ((ZL [] ws).map (·.no))=B
 have hB':Zbv ((ws.map (·.no)).map .int)=some B:=by rw[<-hB];exact ZeA hn (by omega) (.refl _)
 have hB8:Zbv (((ZL ru ws).map (·.no)).map .int)=some B:=by rw[<-hB];exact ZeA hn (by omega) (ZV ws)
 have hb:Zg 60 B=true:=by rw[<-hB];exact ZfF _
 have by_ok:ev (cf (n+20)) gv (.blt .sortn (.cons Zgb .nil)) [some (.t (.scr ns)),some (.t (.int x)),some (.c i),some (.t (ruT ru)),some (.t (wsT ws)),some (.t D),some (.t (.int 2)),c7,c8,c9,e10] (put M6 i s6)=.ok (.t B) (put M6 i s6):=QV (nosC hl (Za rfl) rfl rfl) hB'
 refine⟨put (M6++[some (false,((ZL [] ws).map (·.no)).map T.int)]++[some (false,((ZL ru ws).map (·.no)).map T.int)]) i s6,some (.c i),some (.t (ruT ru)),some (.t (wsT ws)),some (.t D),some (.t (.int 2)),c7,c8,c9,some (.t B),?_⟩
 unfold Zbm
 refine(Zr ((Zdk (Za rfl)).trans g0)).trans ?_
 dsimp only[List.set_cons_succ,List.set_cons_zero]
 refine(Zr ((Zdk (Za rfl)).trans g1)).trans ?_
 dsimp only[List.set_cons_succ,List.set_cons_zero]
 refine(Zr ((ZF (Za rfl) (Qz (Z3 (Zc (Zb _) (Zc (Zb _) (Zc (Zb _) (Zc (Zb _) (Zc (Zb _) (Zc (Zb _) (Zc (Zb _) (Zc (Zb _) Zj)))))))) rfl ZK) ((ZF (Za rfl) (Zb _)).trans gr) hz)).trans g3)).trans ?_
 dsimp only[List.set_cons_succ,List.set_cons_zero]
 refine(Zr ((ZF (Za rfl) (Za rfl)).trans g4)).trans ?_
 dsimp only[List.set_cons_succ,List.set_cons_zero]
 refine(QR (QV (Zb _) (Zhh (i:=3) (by decide))) rfl hloop).trans ?_
 refine(Zr by_ok).trans ?_
 dsimp only[List.set_cons_succ,List.set_cons_zero]
 have q7:ev (cf (n+20)) gv (.cmp .NotEq (.call 2 (.cons (.tup .nil) (.cons (.var 4) .nil))) (.var 10)) [some (.t (.scr ns)),some (.t (.int x)),some (.c i),some (.t (ruT ru)),some (.t (wsT ws)),some (.t D),some (.t (.int 2)),c7,c8,c9,some (.t B)] (put M6 i s6)=.ok (.t (.bl false)) (put (M6++[some (false,((ZL [] ws).map (·.no)).map T.int)]) i s6):=by
  refine Xi ((ZF (w:=.t (ruT [])) (Xy Zj rfl ZK) (Za rfl)).trans g7) (Za rfl) (Jz hat7) ?_
  show cmpT .NotEq (il ((ZL [] ws).map (·.no))) B=_
  rw[hB]
  exact Zbl hb
 have q8:ev (cf (n+20)) gv (.cmp .NotEq (.blt .sortn (.cons (.call 2 (.cons (.var 3) (.cons (.var 4) .nil))) .nil)) (.var 10)) [some (.t (.scr ns)),some (.t (.int x)),some (.c i),some (.t (ruT ru)),some (.t (wsT ws)),some (.t D),some (.t (.int 2)),c7,c8,c9,some (.t B)] (put (M6++[some (false,((ZL [] ws).map (·.no)).map T.int)]) i s6)=.ok (.t (.bl false)) (put (M6++[some (false,((ZL [] ws).map (·.no)).map T.int)]++[some (false,((ZL ru ws).map (·.no)).map T.int)]) i s6):=by
  refine J4 (ZaU (ts:=[il ((ZL ru ws).map Wt.no)]) (Zc ((ZF (Za rfl) (Za rfl)).trans g8) Zj) ?_ hB8) (Za rfl) (Zbl hb)
  show(view (.c _) _).bind _=_
  rw[Jz hat8]
  rfl
 exact(Z9 ((ZfP q7).trans q8)).trans QT
end
theorem law_true(ns:List Int)(hl:ns.length<=63):∃m,Jf fns gv 41 17 [.t (.scr ns)] []=.ok (.t (.bl true)) m:=by
 obtain⟨v,hv⟩:=ZjX (n:=39) (m:=[]) (ns:=ns)
 obtain⟨env1,m1,e1,e2⟩:=ZaP (f:=ex (cf 40) gv Zbm) (tg:=.nm 1) (P:=λenv m=>∃e1 e2 e3 e4 e5 e6 e7 e8 e9 e10,env=[some (.t (.scr ns)),e1,e2,e3,e4,e5,e6,e7,e8,e9,e10]) (.int v::(cut ns (some 1) (some 8)).map .int) [some (.t (.scr ns)),none,none,none,none,none,none,none,none,none,none] [] ⟨_,_,_,_,_,_,_,_,_,_,rfl⟩ (by
  rintro t ht env m ⟨e1,e2,e3,e4,e5,e6,e7,e8,e9,e10,rfl⟩
  have:∃x:Int,t=.int x:=by
   rcases List.mem_cons.mp ht with rfl|ht
   ·exact⟨v,rfl⟩
   ·obtain⟨x,_,rfl⟩:=List.mem_map.mp ht
    exact⟨x,rfl⟩
  obtain⟨x,rfl⟩:=this
  obtain⟨m',f2,f3,f4,f5,f6,f7,f8,f9,f10,h1⟩:=law_1 (n:=20) (ns:=ns) (x:=x) (m:=m) (e2:=e2) (e3:=e3) (e4:=e4) (e5:=e5) (e6:=e6) (e7:=e7) (e8:=e8) (e9:=e9) (e10:=e10)
  exact⟨_,_,m',rfl,h1,_,_,_,_,_,_,_,_,_,_,rfl⟩)
 refine⟨[],?_⟩
 have key:ex (cf 40) gv Zei [some (.t (.scr ns)),none,none,none,none,none,none,none,none,none,none] []=.ok (.ret (.t (.bl true))) (m1++[some (false,[])]):=by
  unfold Zei
  have hcl:(cut ns (some 1) (some 8)).length<=ns.length:=by unfold cut;simp;omega
  have hit0:ev (cf 40) gv (.bin .Add (.lst (.cons (.call 3 (.cons (.var 0) (.cons (.con (.int 0)) .nil))) .nil)) (.slc (.var 0) (.con (.int 1)) (.con (.int 8)))) [some (.t (.scr ns)),none,none,none,none,none,none,none,none,none,none] []=.ok (.t (.lst (.int v::(cut ns (some 1) (some 8)).map .int))) []:=by
   simp[ev,evs,isT,Zv,EVs,hv,lim]
   rw[Zig (by simp[lim];omega)]
   rfl
  refine(QR hit0 rfl e1).trans ?_
  refine ZG (Xi ((ZF (w:=.t (ruT [[104,101,97,118,121],[115,111,111,110]])) (w1:=.t (wsT [])) (Xy (Zc (Zb _) (Zc (Zb _) Zj)) rfl ZK) (Z3 Zj rfl ZK)).trans (ZhR (n:=37) (by decide) (Nat.zero_le _) List.nodup_nil)) (Z3 Zj rfl ZK) (Jz Jc) rfl)
 show cf 41 17 [.t (.scr ns)] []=_
 rw[cf_law]
 simp[key,Zh,fin]
end My
end
section
set_option maxHeartbeats 1000000
namespace My
open PySem PySem.Spec PyProof.Rows L2 Mi
noncomputable def top(i:Nat):Stmt:=PySem.Challenge.pw_matepoint_k42_rows_of_waiters.main.body.getD i (.Pass ⟨0,0,0,0⟩)
noncomputable abbrev Zc2:Stmt:=top 1
noncomputable abbrev Za8:Stmt:=top 2
noncomputable abbrev QJ:Stmt:=top 3
noncomputable abbrev Jl:Stmt:=top 5
noncomputable abbrev Zba:Stmt:=top 6
noncomputable abbrev Zbe:Stmt:=top 7
noncomputable abbrev Zbc:Stmt:=top 8
noncomputable abbrev Zbd:Stmt:=top 9
noncomputable abbrev JH:Stmt:=top 10
noncomputable abbrev Zbf:Stmt:=top 11
noncomputable abbrev Za9:Stmt:=top 12
noncomputable abbrev XQ:Stmt:=top 13
noncomputable abbrev JK:Stmt:=top 14
noncomputable abbrev Zc3:Stmt:=top 15
noncomputable abbrev Zbb:Stmt:=top 16
noncomputable abbrev Jk:Stmt:=top 17
noncomputable abbrev JG:Stmt:=top 18
noncomputable abbrev ZbC:Stmt:=top 19
set_option hygiene false
local macro_rules
 | `(tactic| wtm_at $s:str)=>do
  let mut r:Array (Lean.TSyntax `tactic):=#[]
  for c in s.getString.toList do
   let t ← match c with
    | '0'=>`(tactic| exact rfl)
    | '1'=>`(tactic| refine Zg6 ?_ ?_ ?_)
    | '2'=>`(tactic| exact Zja)
    | '3'=>`(tactic| exact Zi0)
    | '4'=>`(tactic| exact (vr 0))
    | '5'=>`(tactic| exact hr)
    | '6'=>`(tactic| refine Zg5 ?_ ?_ ?_ ?_ ?_)
    | '7'=>`(tactic| exact go.lk)
    | '8'=>`(tactic| exact (ZiT (by decide +kernel)))
    | '9'=>`(tactic| refine Zi9 ?_ ?_)
    | 'a'=>`(tactic| exact (fun _ _=>rfl))
    | 'b'=>`(tactic| refine pe_ixW ?_ ?_ ?_)
    | 'c'=>`(tactic| exact T1.f_Ldraw)
    | 'd'=>`(tactic| refine ZgI ?_)
    | 'e'=>`(tactic| exact (vr 2))
    | 'f'=>`(tactic| exact (vr 1))
    | 'g'=>`(tactic| exact hr.units)
    | 'h'=>`(tactic| exact (by decide))
    | 'i'=>`(tactic| exact (by with_unfolding_all rfl))
    | 'j'=>`(tactic| refine ZiW ?_)
    | 'k'=>`(tactic| exact ZgJ)
    | 'l'=>`(tactic| refine ZiG ?_ ?_ ?_ ?_)
    | 'm'=>`(tactic| exact (by kernel_rfl))
    | 'n'=>`(tactic| exact ⟨rfl,rfl,rfl,by decide +kernel,rfl,by decide +kernel,by decide +kernel⟩)
    | 'o'=>`(tactic| refine ⟨?_⟩)
    | 'p'=>`(tactic| intro P w K mg base k f cdv A outer s H E T0 T1 hr xe pn xr go)
    | 'q'=>`(tactic| exact (vr 3))
    | 'r'=>`(tactic| exact (vr 4))
    | 's'=>`(tactic| refine ZiK ?_ ?_ ?_ ?_)
    | 't'=>`(tactic| refine ⟨?_,?_⟩)
    | 'u'=>`(tactic| refine ZiS ?_)
    | 'v'=>`(tactic| refine pi_of ?_)
    | 'w'=>`(tactic| exact (fun _=>rfl))
    | 'x'=>`(tactic| exact Ju.nd)
    | 'y'=>`(tactic| refine Zhx ?_ ?_ ?_ ?_ ?_ ?_ ?_)
    | 'z'=>`(tactic| intro _ _ _ _ _)
    | 'A'=>`(tactic| refine ⟨?_,?_,?_⟩)
    | 'B'=>`(tactic| exact True.intro)
    | 'C'=>`(tactic| refine sg (i:=2) ?_ ?_ ?_)
    | 'D'=>`(tactic| exact go.po)
    | 'E'=>`(tactic| exact ZbA.nd)
    | 'F'=>`(tactic| exact lk0)
    | 'G'=>`(tactic| refine Zi5 ?_)
    | 'H'=>`(tactic| refine sg (i:=3) ?_ ?_ ?_)
    | 'I'=>`(tactic| refine ZgK ?_ ?_ ?_ ?_ ?_ ?_ ?_)
    | 'J'=>`(tactic| refine Zi3 ?_ ?_ ?_ ?_)
    | 'K'=>`(tactic| refine sg (i:=4) ?_ ?_ ?_)
    | 'L'=>`(tactic| exact (vr 7))
    | 'M'=>`(tactic| refine ZeR ?_ ?_)
    | 'N'=>`(tactic| refine ZiY ?_ ?_ ?_ ?_ ?_)
    | 'O'=>`(tactic| exact T0.b_len)
    | 'P'=>`(tactic| exact (vr 5))
    | 'Q'=>`(tactic| exact (vr 9))
    | 'R'=>`(tactic| exact (vr 10))
    | 'S'=>`(tactic| refine ZdG ?_ ?_ ?_ ?_ ?_)
    | 'T'=>`(tactic| exact T0.b_tuple)
    | 'U'=>`(tactic| refine ZdF ?_ ?_ ?_)
    | 'V'=>`(tactic| exact T0.b_range)
    | 'W'=>`(tactic| exact ZbB.nd)
    | 'X'=>`(tactic| exact (vr 6))
    | 'Y'=>`(tactic| exact (vr 8))
    | 'Z'=>`(tactic| refine ZdJ ?_ ?_)
    | '!'=>`(tactic| refine ZgW ?_ ?_ ?_)
    | '#'=>`(tactic| exact ZhY)
    | '$'=>`(tactic| exact T1.f_row_of)
    | '%'=>`(tactic| refine ZiV ?_)
    | '&'=>`(tactic| exact T0.b_sorted)
    | '('=>`(tactic| exact (by decide +kernel))
    | ')'=>`(tactic| refine Zg0 ?_ ?_ ?_ ?_ ?_)
    | '*'=>`(tactic| exact T0.b_int)
    | '+'=>`(tactic| exact Zc1.nd)
    | ','=>`(tactic| exact T1.f_Lpick)
    | '-'=>`(tactic| exact T1.f_Lwish)
    | '.'=>`(tactic| refine sg (i:=5) ?_ ?_ ?_)
    | '/'=>`(tactic| refine sg (i:=7) ?_ ?_ ?_)
    | ':'=>`(tactic| refine sg (i:=8) ?_ ?_ ?_)
    | ';'=>`(tactic| refine pt_of ?_ ?_)
    | '<'=>`(tactic| refine sg (i:=10) ?_ ?_ ?_)
    | '='=>`(tactic| refine PW.pt ?_)
    | '>'=>`(tactic| exact T0.b_list)
    | '?'=>`(tactic| refine pw_orW ?_ ?_)
    | '@'=>`(tactic| exact pe_blW)
    | '['=>`(tactic| refine ZgH ?_ ?_ ?_ ?_)
    | ']'=>`(tactic| refine sg (i:=1) ?_ ?_ ?_)
    | '^'=>`(tactic| exact T1.f_Lnumber)
    | '_'=>`(tactic| refine Jv (N':=["_law_number_here","_law_offer_here","_law_left"]) ?_ ?_)
    | '`'=>`(tactic| exact (XS 0 1 2 rfl (show List.Nodup (["_law_number_here","_law_offer_here","_law_left"]:List Str) from by decide +kernel)))
    | '{'=>`(tactic| refine sg (i:=9) ?_ ?_ ?_)
    | '|'=>`(tactic| exact ZaJ.nd)
    | '}'=>`(tactic| refine ZiZ ?_ ?_ ?_ ?_ ?_ ?_)
    | '~'=>`(tactic| refine ZdH ?_ ?_ ?_ ?_ ?_)
    | _=>Lean.Macro.throwUnsupported
   r:=r.push t
  `(tactic| ($[$r:tactic];*))
theorem ZeO:FnScope ["word","waiter","number","offer","left"] ["word","waiter"] (Zd Zc2):=by
 wtm_at "n"
theorem Zgw:FnScope ["rule","waiter"] ["rule","waiter"] (Zd Za8):=by
 wtm_at "n"
theorem Zbz:FnScope ["rule","waiters","by_rule"] ["rule","waiters"] (Zd QJ):=by
 wtm_at "n"
theorem Zck:FnScope ["_law_script","_law_k"] ["_law_script","_law_k"] (Zd Jl):=by
 wtm_at "n"
theorem Zgx:FnScope ["_law_cell"] ["_law_cell"] (Zd Zba):=by
 wtm_at "n"
theorem Zc1:FnScope ["_law_tape_here","_law_many","_law_found","_law_number_here"] ["_law_tape_here","_law_many"] (Zd Zbe):=by
 wtm_at "n"
theorem Zgy:FnScope ["_law_tape_here","_law_some"] ["_law_tape_here","_law_some"] (Zd Zbc):=by
 wtm_at "n"
theorem Zc0:FnScope ["_law_k","_law_some"] ["_law_k"] (Zd Zbd):=by
 wtm_at "n"
theorem Zdy:FnScope ["_law_tape_here"] ["_law_tape_here"] (Zd JH):=by
 wtm_at "n"
theorem Za7:FnScope ["_law_tape_here","_law_name_here","_law_kind","_law_marks","_law_sizes"] ["_law_tape_here","_law_name_here","_law_kind"] (Zd Zbf):=by
 wtm_at "n"
theorem Za5:FnScope ["_law_tape_here","_law_deep","_law_way","_law_many"] ["_law_tape_here","_law_deep"] (Zd Za9):=by
 wtm_at "n"
theorem ZbB:FnScope ["_law_tape_here","_law_side","_law_name_here","_law_kind","_law_till","_law_many","_law_least","_law_wish_here","_law_weight"] ["_law_tape_here","_law_side","_law_name_here","_law_kind","_law_till"] (Zd XQ):=by
 wtm_at "n"
theorem Jj:FnScope ["_law_rule_here","_law_one","_law_other","_law_word","_law_ranks","_law_number_here","_law_offer_here","_law_left"] ["_law_rule_here","_law_one","_law_other"] (Zd JK):=by
 wtm_at "n"
theorem Za6:FnScope ["_law_rule_here","_law_waiters_here","_law_found","_law_one","_law_many"] ["_law_rule_here","_law_waiters_here"] (Zd Zc3):=by
 wtm_at "n"
theorem XN:FnScope ["_law_tape_here","_law_words","_law_found","_law_k"] ["_law_tape_here"] (Zd Zbb):=by
 wtm_at "n"
theorem Ju:FnScope ["_law_tape_here","_law_most","_law_found","_law_turn","_law_number_here","_law_few","_law_k","_law_side","_law_kind","_law_name_here","_law_offer_here","_law_left"] ["_law_tape_here","_law_most"] (Zd Jk):=by
 wtm_at "n"
theorem ZaJ:FnScope ["_law_tape_here","_law_some","_law_left","_law_found"] ["_law_tape_here","_law_some"] (Zd JG):=by
 wtm_at "n"
theorem ZbA:FnScope ["_law_script","_law_cell","_law_tape_here","_law_rule_here","_law_waiters_here","_law_due","_law_turn","_law_some","_law_handed","_law_found","_law_by_number"] ["_law_script"] (Zd ZbC):=by
 wtm_at "n"
structure Txt0 (P:Program) (w:World) (K:Frag) (mg:Str->Option Value):Prop where
 b_bool:mg "bool" = none
 b_int:mg "int" = none
 b_isinstance:mg "isinstance" = none
 b_len:mg "len" = none
 b_list:mg "list" = none
 b_range:mg "range" = none
 b_sorted:mg "sorted" = none
 b_tuple:mg "tuple" = none
 lam:LamK K
structure Txt1 (P:Program) (w:World) (K:Frag) (mg:Str->Option Value) (base:Heap) (k:Nat):Prop where
 f_rank:FOk P w K mg base fns gv k "rank" 0
 f_ranks:FOk P w K mg base fns gv k "ranks" 1
 f_row_of:FOk P w K mg base fns gv k "row_of" 2
 f_Lcell_at:FOk P w K mg base fns gv k "_law_cell_at" 3
 f_Ltape:FOk P w K mg base fns gv k "_law_tape" 4
 f_Ldraw:FOk P w K mg base fns gv k "_law_draw" 5
 f_Lpick:FOk P w K mg base fns gv k "_law_pick" 6
 f_Lname:FOk P w K mg base fns gv k "_law_name" 7
 f_Lnumber:FOk P w K mg base fns gv k "_law_number" 8
 f_Lcard:FOk P w K mg base fns gv k "_law_card" 9
 f_Lwish:FOk P w K mg base fns gv k "_law_wish" 10
 f_Loffer:FOk P w K mg base fns gv k "_law_offer" 11
 f_Lbefore:FOk P w K mg base fns gv k "_law_before" 12
 f_Lrow:FOk P w K mg base fns gv k "_law_row" 13
 f_Lrule:FOk P w K mg base fns gv k "_law_rule" 14
 f_Lwaiters:FOk P w K mg base fns gv k "_law_waiters" 15
 f_Lturned:FOk P w K mg base fns gv k "_law_turned" 16
 f_law:FOk P w K mg base fns gv k "law" 17
noncomputable abbrev PsF(ns:List Str)(x:Str)(st:Stmt)(n:Nat)(b:S):Prop:=∀{P:Program}{w:World}{K:Frag}{mg:Str->Option Value}{base:Heap}{k:Nat}{f:Addr}{cdv:Value}{A:Around}{outer:List PySem.Env}{s:Shared}{H:Hp}{E:XK},Txt0 P w K mg->Txt1 P w K mg base k->Room k (A.deeper (envOfC x (Zd st) s.heap.objs.size f cdv))->∀{xe:Value->Shared->Prop}{pn:List (Addr×Obj)}{xr:XR},Go (asX (cxOf (CXF P w) P w K mg base ns x (Zd st) f cdv A outer s H E) xe pn) xr->Bd (asX (cxOf (CXF P w) P w K mg base ns x (Zd st) f cdv A outer s H E) xe pn) (Z6 st) (tS K (Jf fns gv k) gv xr n b)
section
variable{P:Program}{w:World}{K:Frag}{mg:Str->Option Value}{base:Heap}{k:Nat}{f:Addr}{cdv:Value}{A:Around}{outer:List PySem.Env}{s:Shared}{H:Hp}{E:XK}
theorem ZiL:PsF ["word","waiter","number","offer","left"] "rank" Zc2 5 Zca:=by
 wtm_at "po";refine ZgM ?_ ?_ ?_ ?_;wtm_at "hf";exact(XS 2 3 4 rfl ZeO.nd);wtm_at "sl48igd%bq3aksl48igd%rksl48igdrkdbq3a"
theorem ZgO:PsF ["rule","waiter"] "ranks" Za8 2 ZcJ:=by
 wtm_at "pod9";refine Jv (N':=["word","waiter"]) ?_ ?_;wtm_at "0ymmv4wzA";exact(Z5 0 (show List.Nodup (["word","waiter"]:List Str)from by decide +kernel));wtm_at "Bt06F";exact T1.f_rank;wtm_at "50141f200hhj1bf3a20"
theorem ZeS(T0:Txt0 P w K mg)(T1:Txt1 P w K mg base k)(hr:Room k (A.deeper (envOfC "row_of" (Zd QJ) s.heap.objs.size f cdv)))(hr2:Room (k+1) A)(hcd:codeIn K cdv "row_of" = true){xe:Value->Shared->Prop}{pn:List (Addr×Obj)}{xr:XR}(go:Go (asX (cxOf (CXF P w) P w K mg base ["rule","waiters","by_rule"] "row_of" (Zd QJ) f cdv A outer s H E) xe pn) xr):
  Bd (asX (cxOf (CXF P w) P w K mg base ["rule","waiters","by_rule"] "row_of" (Zd QJ) f cdv A outer s H E) xe pn) (Z6 QJ) (tS K (Jf fns gv k) gv xr 3 Jq):=by
 wtm_at "oC";exact Zbz.nd;refine Ze1 (k:=k) (y:="one") (N':=["rule"]) "row_of" ?_ ?_ ?_ ?_ ?_ ?_ ?_ ?_ ?_ ?_ ?_ ?_ ?_ ?_ ?_;wtm_at "5";exact(λ_=>Room.lam hr2);exact T0.lam;exact hcd;wtm_at "&mm00(0";exact(λ_ _ _ _ _=>rfl);wtm_at "0f";intro _ _ _ _ _ hr;wtm_at "6F";exact T1.f_ranks;wtm_at "501f14200d";refine Zg3 (N':=["number","offer","left"]) ?_ ?_;wtm_at "0ymmvewzA";exact(XS 0 1 2 rfl (show List.Nodup (["number","offer","left"]:List Str)from by decide +kernel));wtm_at "Bt04hh"
theorem Zcp:PsF ["_law_script","_law_k"] "_law_cell_at" Jl 2 QG:=by
 wtm_at "poslfN0O142000igdb4fakd3"
theorem ZgQ:PsF ["_law_cell"] "_law_tape" Zba 1 Zax:=by
 wtm_at "podG194)0*1J4933ig20001943132000"
theorem ZgU:PsF ["_law_tape_here","_law_many","_law_found","_law_number_here"] "_law_draw" Zbe 4 ZaB:=by
 wtm_at "poslb43a3igC+9b43af[9b43af43dek[9b43a343H+9999b43a93b43a333H+99q99q333d999q99q333f"
theorem ZgS:PsF ["_law_tape_here","_law_some"] "_law_pick" Zbc 2 Zaz:=by
 wtm_at "podbf67c50141N0O1f2000200a"
theorem ZgT:PsF ["_law_k","_law_some"] "_law_name" Zbd 2 ZaA:=by
 wtm_at "po]";exact Zc0.nd;wtm_at "j1818181818181818181818182000000000000dbf943a"
theorem ZdC:PsF ["_law_tape_here"] "_law_number" JH 1 Jh:=by
 wtm_at "podbj167c501413200167c5014132001993367c501413200200067c501413200a"
theorem ZgV:PsF ["_law_tape_here","_law_name_here","_law_kind","_law_marks","_law_sizes"] "_law_card" Zbf 5 ZaC:=by
 wtm_at "poH";exact Za7.nd;wtm_at "S0T1";refine Jv (N':=["_law_mark","_law_tape_here"]) ?_ ?_;wtm_at "0ymmvj1818182000wzA";exact(Z5 0 (show List.Nodup (["_law_mark","_law_tape_here"]:List Str)from by decide +kernel));wtm_at "tl6Fc501f132003igBt04hh2000K";exact Za7.nd;wtm_at "S0T1";refine Jv (N':=["_law_word","_law_tape_here"]) ?_ ?_;wtm_at "0ymmvj1818200wzA";exact(Z5 0 (show List.Nodup (["_law_word","_law_tape_here"]:List Str)from by decide +kernel));wtm_at "tl6Fc501f132003igBt0u1416F^501f20200hh2000du1f1e1q1r20000"
theorem ZgP:PsF ["_law_tape_here","_law_deep","_law_way","_law_many"] "_law_wish" Za9 4 Jx:=by
 wtm_at "poC";exact Za5.nd;wtm_at "67c501419393)0*1Jf3ig2000200sle3igdu1820ksle3igdu18167,50141j1818181820000200200ksle3igdu18167";exact T1.f_Lname;wtm_at "50167c50141320020200ksle3igdu1bj18182009e3a167,50141j1818182000200167^5014202000ksle3igdu18167-501419f3200200kH";exact Za5.nd;wtm_at "9367c501413200du1bj18182009e3a1S0T1";refine Jv (N':=["_law_k","_law_tape_here","_law_deep"]) ?_ ?_;wtm_at "0ymmU0V1q20wzA";exact(Z5 0 (show List.Nodup (["_law_k","_law_tape_here","_law_deep"]:List Str)from by decide +kernel));wtm_at "Bt06F-501f19e3200hh2000200"
theorem ZeT:PsF ["_law_tape_here","_law_side","_law_name_here","_law_kind","_law_till","_law_many","_law_least","_law_wish_here","_law_weight"] "_law_offer" XQ 9 X8:=by
 wtm_at "po.Wbj19367c50141320019367c50141320019367c50141933200200067c501413200a";refine sg (i:=6) ?_ ?_ ?_;wtm_at "Wbj1319367c50141P2001P200067c501413200a/Wbj1u1820167-50141320020067c501413200a:Wbj167c501413200167c50141320020067c501413200adu1f167";exact T1.f_Lcard;wtm_at "50141e1q20001L1P1X1Y1r20000000"
theorem ZdD:PsF ["_law_rule_here","_law_one","_law_other","_law_word","_law_ranks","_law_number_here","_law_offer_here","_law_left"] "_law_before" JK 8 Ji:=by
 wtm_at "poI0Dv4";exact(Z5 3 Jj.nd);wtm_at "hK";exact Jj.nd;wtm_at "G2I0Dvj1f1e200";exact(XS 5 6 7 rfl Jj.nd);wtm_at "hMZr1";refine Zg2 ?_ ?_ ?_ ?_;refine Zi1 ?_ ?_ ?_ ?_ ?_ ?_ ?_;wtm_at "!#93bX3a!#93L!#L!#bX3a";exact ZiO;wtm_at "00";exact(by simp);wtm_at "h00qag20kslbr3abr3aigdJbr3abr3aigkkdJbf3abe3aig"
theorem ZiN:PsF ["_law_rule_here","_law_waiters_here","_law_found","_law_one","_law_many"] "_law_row" Zc3 5 Zcb:=by
 wtm_at "poC";exact Za6.nd;wtm_at "G2I0Dvf";exact(Z5 3 Za6.nd);wtm_at "hK";exact Za6.nd;wtm_at "N0O1";refine Jv (N':=["_law_other","_law_rule_here","_law_one"]) ?_ ?_;wtm_at "0ymmvewzA";exact(Z5 0 (show List.Nodup (["_law_other","_law_rule_here","_law_one"]:List Str)from by decide +kernel));wtm_at "t;6F";exact T1.f_Lbefore;wtm_at "501f141e2000wBt04hh2000M";refine ZdI ?_ ?_;wtm_at "e1r1q200kd_0ymmvewzA`Bt04hh"
theorem ZgR:PsF ["_law_tape_here","_law_words","_law_found","_law_k"] "_law_rule" Zbb 4 Zay:=by
 wtm_at "po]";exact XN.nd;wtm_at "G1818181820000C";exact XN.nd;wtm_at "G2I0DU0V1bj131313131320000067c501413200a20";exact(Z5 3 XN.nd);wtm_at "hMZe1";refine Ze2 ?_ ?_;wtm_at "f167c50141N0O1f20002002020kdS0T1e2000"
theorem Zco:PsF ["_law_tape_here","_law_most","_law_found","_law_turn","_law_number_here","_law_few","_law_k","_law_side","_law_kind","_law_name_here","_law_offer_here","_law_left"] "_law_waiters" Jk 12 QF:=by
 wtm_at "poCxG2Hx67c501413200Kx67c501413200.x67c501413200I0DU0V167c501419f320020";exact(Z5 6 Ju.nd);wtm_at "h/x67,50141j1818181818200000200:xbj181818200067c5014193P200a{x67";exact T1.f_Lname;wtm_at "5019q9X)0*1J67c5014132003ig200020<x67";exact T1.f_Loffer;wtm_at "50141L1Q1Y167c501413200200000s=";refine ZiD ?_ ?_;wtm_at "lej2ig";refine ZiE ?_;wtm_at "l67c5014132003ig<xbbe%3a3akk";refine sg (i:=11) ?_ ?_ ?_;wtm_at "xbj1bR3a19367c50141bR3a20020067c501413200aMZe1u1r1R1";exact(vr 11);wtm_at "200020Kx99r367c501413200kde"
theorem ZdB:PsF ["_law_tape_here","_law_some","_law_left","_law_found"] "_law_turned" JG 4 Jg:=by
 wtm_at "poC|";refine Zg4 ?_ ?_ ?_ ?_;wtm_at "0>1f200H|G2";refine ZdA ?_ ?_ ?_ ?_;wtm_at "Dlej2igMZq1";refine Ze2 ?_ ?_;wtm_at "e167c50141N0O1e20002002020kdq"
theorem ZhW:PsF ["_law_script","_law_cell","_law_tape_here","_law_rule_here","_law_waiters_here","_law_due","_law_turn","_law_some","_law_handed","_law_found","_law_by_number"] "law" ZbC 11 Zei:=by
 wtm_at "poI0Dv9j167";exact T1.f_Lcell_at;wtm_at "50141320020";refine ZiU ?_ ?_ ?_;wtm_at "4";refine Zc6 ?_ ?_;wtm_at "30";refine Zc6 ?_ ?_;wtm_at "30";exact(Z5 1 ZbA.nd);wtm_at "hCE67";exact T1.f_Ltape;wtm_at "501f20HE67";exact T1.f_Lrule;wtm_at "501e20KE67";exact T1.f_Lwaiters;wtm_at "501e1bj131313131313131320000000067c501e13200a200.E67";exact T1.f_Lrow;wtm_at "501q1r200I0DU0V1320";exact(Z5 6 ZbA.nd);wtm_at "h/E67";exact T1.f_Lturned;wtm_at "501e1r200:E";refine Ze3 ?_ ?_ ?_ ?_ ?_;wtm_at "0>1L2000{E67$501q1Y200s=?";refine ZiF ?_;wtm_at ";}Q0";exact T0.b_isinstance;wtm_at "0>(w?lQPig";refine ZhT ?_;wtm_at "lYLigd@ksl";refine Jv (N':=["_law_number_here"]) ?_ ?_;wtm_at "0ymmvQwzA";exact(Z5 0 (show List.Nodup (["_law_number_here"]:List Str)from by decide +kernel));wtm_at "t;}40";exact T0.b_isinstance;wtm_at "0";exact T0.b_bool;wtm_at "(wBt04hhj2igd@kM";refine Ze4 ?_;wtm_at "Qk<E~0&1_0ymmvrwzA`Bt04hh2000s=?l67$501u21r200Rig";refine ZhT ?_;wtm_at "l~0&167$501q1r2002000Rigd@kkdJ67$501u18182001j2200j2ig"
end
noncomputable abbrev FB(K:Frag)(mg:Str->Option Value)(x:Str)(st:Stmt)(ps:List Str):Prop:=∃f fd,Fun K x x st f fd/\mg x=some (.ref f)/\Binds K fd ps []
structure TxtF (K:Frag) (mg:Str->Option Value):Prop where
 f_rank:FB K mg "rank" Zc2 ["word","waiter"]
 f_ranks:FB K mg "ranks" Za8 ["rule","waiter"]
 f_row_of:FB K mg "row_of" QJ ["rule","waiters"]
 f_Lcell_at:FB K mg "_law_cell_at" Jl ["_law_script","_law_k"]
 f_Ltape:FB K mg "_law_tape" Zba ["_law_cell"]
 f_Ldraw:FB K mg "_law_draw" Zbe ["_law_tape_here","_law_many"]
 f_Lpick:FB K mg "_law_pick" Zbc ["_law_tape_here","_law_some"]
 f_Lname:FB K mg "_law_name" Zbd ["_law_k"]
 f_Lnumber:FB K mg "_law_number" JH ["_law_tape_here"]
 f_Lcard:FB K mg "_law_card" Zbf ["_law_tape_here","_law_name_here","_law_kind"]
 f_Lwish:FB K mg "_law_wish" Za9 ["_law_tape_here","_law_deep"]
 f_Loffer:FB K mg "_law_offer" XQ ["_law_tape_here","_law_side","_law_name_here","_law_kind","_law_till"]
 f_Lbefore:FB K mg "_law_before" JK ["_law_rule_here","_law_one","_law_other"]
 f_Lrow:FB K mg "_law_row" Zc3 ["_law_rule_here","_law_waiters_here"]
 f_Lrule:FB K mg "_law_rule" Zbb ["_law_tape_here"]
 f_Lwaiters:FB K mg "_law_waiters" Jk ["_law_tape_here","_law_most"]
 f_Lturned:FB K mg "_law_turned" JG ["_law_tape_here","_law_some"]
 f_law:FB K mg "law" ZbC ["_law_script"]
theorem Zfj{P:Program}{w:World}{K:Frag}{mg:Str->Option Value}{base:Heap}{k:Nat}(T0:Txt0 P w K mg)(TF:TxtF K mg)(ih:Txt1 P w K mg base k):FOk P w K mg base fns gv (k+1) "row_of" 2:=by
 obtain⟨f,fd,F,m,b⟩:=TF.f_row_of;refine⟨f,fd,_,m,F.kp,b,?_⟩;refine ZjJ (fi:=2) (np:=2) (n:=3) (body:=Jq) (cell:=true) F Zbz ?_ ?_ ?_ ?_;wtm_at "000";intro _ hcd _ _ _ _ _ hr _ _ _ go;refine ZeS ?_ ?_ ?_ ?_ ?_ ?_;exact T0;exact ih;exact hr.deeper _;wtm_at "5";exact hcd;exact go
theorem Q5{x:Str}{st:Stmt}{N ps:List Str}{fi np n:Nat}{b:S}{cell:Bool}(sc:FnScope N ps (Zd st))(p:PsF N x st n b)(hd:fns[fi]?=some ⟨np,n,b,cell⟩)(hps:np=ps.length)(hn:N.length=n){P:Program}{w:World}{K:Frag}{mg:Str->Option Value}{base:Heap}{k:Nat}(T0:Txt0 P w K mg)(ih:Txt1 P w K mg base k)(F:FB K mg x st ps):FOk P w K mg base fns gv (k+1) x fi:=by
 obtain⟨f,fd,F,m,bb⟩:=F;exact⟨f,fd,_,m,F.kp,bb,Zib F sc hd hps hn λ_ _ _ _ _ _ hr _ _ _ go=>p T0 ih hr go⟩
theorem QZ{x:Str}{st:Stmt}{ps:List Str}{i:Nat}{P:Program}{w:World}{K:Frag}{mg:Str->Option Value}{base:Heap}(F:FB K mg x st ps):FOk P w K mg base fns gv 0 x i:=
 let⟨_,_,F,m,b⟩:=F
 ⟨_,_,_,m,F.kp,b,ZjK⟩
theorem Zih{P:Program}{w:World}{K:Frag}{mg:Str->Option Value}{base:Heap}(T0:Txt0 P w K mg)(TF:TxtF K mg):∀k:Nat,Txt1 P w K mg base k
 |0=>⟨QZ TF.f_rank,QZ TF.f_ranks,QZ TF.f_row_of,QZ TF.f_Lcell_at,QZ TF.f_Ltape,QZ TF.f_Ldraw,QZ TF.f_Lpick,QZ TF.f_Lname,QZ TF.f_Lnumber,QZ TF.f_Lcard,QZ TF.f_Lwish,QZ TF.f_Loffer,QZ TF.f_Lbefore,QZ TF.f_Lrow,QZ TF.f_Lrule,QZ TF.f_Lwaiters,QZ TF.f_Lturned,QZ TF.f_law⟩
 |k+1 =>
  have ih:=Zih T0 TF k
  ⟨Q5 ZeO ZiL rfl rfl rfl T0 ih TF.f_rank,Q5 Zgw ZgO rfl rfl rfl T0 ih TF.f_ranks,Zfj T0 TF ih,Q5 Zck Zcp rfl rfl rfl T0 ih TF.f_Lcell_at,Q5 Zgx ZgQ rfl rfl rfl T0 ih TF.f_Ltape,Q5 Zc1 ZgU rfl rfl rfl T0 ih TF.f_Ldraw,Q5 Zgy ZgS rfl rfl rfl T0 ih TF.f_Lpick,Q5 Zc0 ZgT rfl rfl rfl T0 ih TF.f_Lname,Q5 Zdy ZdC rfl rfl rfl T0 ih TF.f_Lnumber,Q5 Za7 ZgV rfl rfl rfl T0 ih TF.f_Lcard,Q5 Za5 ZgP rfl rfl rfl T0 ih TF.f_Lwish,Q5 ZbB ZeT rfl rfl rfl T0 ih TF.f_Loffer,Q5 Jj ZdD rfl rfl rfl T0 ih TF.f_Lbefore,Q5 Za6 ZiN rfl rfl rfl T0 ih TF.f_Lrow,Q5 XN ZgR rfl rfl rfl T0 ih TF.f_Lrule,Q5 Ju Zco rfl rfl rfl T0 ih TF.f_Lwaiters,Q5 ZaJ ZdB rfl rfl rfl T0 ih TF.f_Lturned,Q5 ZbA ZhW rfl rfl rfl T0 ih TF.f_law⟩
end My
namespace My
open PySem PySem.Spec PyProof.Rows L2 Mi
theorem us_1{α:Type}{P:List α->Prop}{us:List α}(hl:us.length=1)(h:∀x0:α,P [x0]):P us:=by
 rcases us with _|⟨x0,us⟩
 ·simp at hl
 rcases us with _|⟨y,us⟩
 ·exact h x0
 ·simp at hl
theorem us_2{α:Type}{P:List α->Prop}{us:List α}(hl:us.length=2)(h:∀x0 x1:α,P [x0,x1]):P us:=by
 rcases us with _|⟨x0,us⟩
 ·simp at hl
 rcases us with _|⟨x1,us⟩
 ·simp at hl
 rcases us with _|⟨y,us⟩
 ·exact h x0 x1
 ·simp at hl
theorem us_3{α:Type}{P:List α->Prop}{us:List α}(hl:us.length=3)(h:∀x0 x1 x2:α,P [x0,x1,x2]):P us:=by
 rcases us with _|⟨x0,us⟩
 ·simp at hl
 rcases us with _|⟨x1,us⟩
 ·simp at hl
 rcases us with _|⟨x2,us⟩
 ·simp at hl
 rcases us with _|⟨y,us⟩
 ·exact h x0 x1 x2
 ·simp at hl
theorem us_5{α:Type}{P:List α->Prop}{us:List α}(hl:us.length=5)(h:∀x0 x1 x2 x3 x4:α,P [x0,x1,x2,x3,x4]):P us:=by
 rcases us with _|⟨x0,us⟩
 ·simp at hl
 rcases us with _|⟨x1,us⟩
 ·simp at hl
 rcases us with _|⟨x2,us⟩
 ·simp at hl
 rcases us with _|⟨x3,us⟩
 ·simp at hl
 rcases us with _|⟨x4,us⟩
 ·simp at hl
 rcases us with _|⟨y,us⟩
 ·exact h x0 x1 x2 x3 x4
 ·simp at hl
noncomputable abbrev FE(K:Frag)(x:Str)(st:Stmt):Prop:=∃(f:Addr) (oc kV dc pm cd ct:Value) (od an:Option Addr) (sl:Array (Option Value)),nsIn K mainGlobals x=some (some (.ref f))/\K.lookup f=some ⟨oc,od,.func (fnOf x x (Je st) (Z6 st) (Zd st) .none kV dc pm an cd ct),sl⟩/\codeIn K cd x=true
theorem Q3{K:Frag}{tbs:List Addr}(tT:∀P∈tbs,K.lookup P=some (tabObj #[])){h:Heap}{mg:Str->Option Value}{x:Str}{st:Stmt}{ps:List Str}(X:K.In h)(G:h.Ns mainGlobals mg)(e:FE K x st)(hb:∀(kV doc pm:Value) (an:Option Addr) (cdv ct:Value) (us:List Value),us.length=ps.length->bindArgs (fnOf x x (Je st) (Z6 st) (Zd st) .none kV doc pm an cdv ct) ⟨us,[]⟩=pure (ps.zip us)):FB (ZS tbs K) mg x st ps:=by
 obtain⟨f,oc,kV,dc,pm,cd,ct,od,an,sl,a,l,c⟩:=e
 have F:=Zia (st:=st) (Zdg tT l (λz=>by cases z)) (ZfJ tT c) (ZfI tT l)
 exact⟨_,_,F,PySem.W.mg_of X G a,F.binds (ps:=ps) hb⟩
theorem fe_in{K:Frag}{x:Str}{st:Stmt}{f:Addr}{oc kV dc pm cd ct:Value}{od an:Option Addr}{sl:Array (Option Value)}(a:nsIn K mainGlobals x=some (some (.ref f)))(l:K.lookup f=some ⟨oc,od,.func (fnOf x x (Je st) (Z6 st) (Zd st) .none kV dc pm an cd ct),sl⟩)(c:codeIn K cd x=true):FE K x st:=
 ⟨_,_,_,_,_,_,_,_,_,_,a,l,c⟩
theorem bd_1{fd:FuncData}{ps:List Str}(h:∀x0:Value,bindArgs fd ⟨[x0],[]⟩=pure (List.zip ps [x0]))(us:List Value)(hl:us.length=1):bindArgs fd ⟨us,[]⟩=pure (List.zip ps us):=us_1 (P:=λus=>bindArgs fd ⟨us,[]⟩=pure (List.zip ps us)) hl h
theorem bd_2{fd:FuncData}{ps:List Str}(h:∀x0 x1:Value,bindArgs fd ⟨[x0,x1],[]⟩=pure (List.zip ps [x0,x1]))(us:List Value)(hl:us.length=2):bindArgs fd ⟨us,[]⟩=pure (List.zip ps us):=us_2 (P:=λus=>bindArgs fd ⟨us,[]⟩=pure (List.zip ps us)) hl h
theorem bd_3{fd:FuncData}{ps:List Str}(h:∀x0 x1 x2:Value,bindArgs fd ⟨[x0,x1,x2],[]⟩=pure (List.zip ps [x0,x1,x2]))(us:List Value)(hl:us.length=3):bindArgs fd ⟨us,[]⟩=pure (List.zip ps us):=us_3 (P:=λus=>bindArgs fd ⟨us,[]⟩=pure (List.zip ps us)) hl h
theorem bd_5{fd:FuncData}{ps:List Str}(h:∀x0 x1 x2 x3 x4:Value,bindArgs fd ⟨[x0,x1,x2,x3,x4],[]⟩=pure (List.zip ps [x0,x1,x2,x3,x4]))(us:List Value)(hl:us.length=5):bindArgs fd ⟨us,[]⟩=pure (List.zip ps us):=us_5 (P:=λus=>bindArgs fd ⟨us,[]⟩=pure (List.zip ps us)) hl h
theorem all_mk{l:OpenLaw}{w:World}{K:Frag}{h:Heap}{mg:Str->Option Value}{fa:Addr}(tT:∀P∈([28]:List Addr),K.lookup P=some (tabObj #[]))(tB:lamB ([28]:List Addr) K=true)(X:K.In h)(G:h.Ns mainGlobals mg)(hfa:mg "law" = some (.ref fa))(h0:FE K "rank" Zc2)(h1:FE K "ranks" Za8)(h2:FE K "row_of" QJ)(h3:FE K "_law_cell_at" Jl)(h4:FE K "_law_tape" Zba)(h5:FE K "_law_draw" Zbe)(h6:FE K "_law_pick" Zbc)(h7:FE K "_law_name" Zbd)(h8:FE K "_law_number" JH)(h9:FE K "_law_card" Zbf)(h10:FE K "_law_wish" Za9)(h11:FE K "_law_offer" XQ)(h12:FE K "_law_before" JK)(h13:FE K "_law_row" Zc3)(h14:FE K "_law_rule" Zbb)(h15:FE K "_law_waiters" Jk)(h16:FE K "_law_turned" JG)(h17:FE K "law" ZbC)(z0:nsIn K mainGlobals "bool" = some none)(z1:nsIn K mainGlobals "int" = some none)(z2:nsIn K mainGlobals "isinstance" = some none)(z3:nsIn K mainGlobals "len" = some none)(z4:nsIn K mainGlobals "list" = some none)(z5:nsIn K mainGlobals "range" = some none)(z6:nsIn K mainGlobals "sorted" = some none)(z7:nsIn K mainGlobals "tuple" = some none): ∃fd:FuncData,(∀(s:Shared) (v:Value),BindsTo s fd ⟨[v],[]⟩ [("_law_script",v)])/\∀base:Heap,(ZS ([28]:List Addr) K).In base->base.Ns mainGlobals mg->FnOk l.prog w (ZS ([28]:List Addr) K) mg base (CXF l.prog w) 41 fa fd ["_law_script"] (spF (ZS ([28]:List Addr) K) fns gv 41 17):=by
 have T0:Txt0 l.prog w (ZS ([28]:List Addr) K) mg:=⟨mg_none_of X G z0,mg_none_of X G z1,mg_none_of X G z2,mg_none_of X G z3,mg_none_of X G z4,mg_none_of X G z5,mg_none_of X G z6,mg_none_of X G z7,Zh2 tT tB⟩
 have TF:TxtF (ZS ([28]:List Addr) K) mg:=⟨Q3 tT X G h0 λ_ _ _ _ _ _ us hl=>bd_2 (λ_ _=>rfl) us hl,Q3 tT X G h1 λ_ _ _ _ _ _ us hl=>bd_2 (λ_ _=>rfl) us hl,Q3 tT X G h2 λ_ _ _ _ _ _ us hl=>bd_2 (λ_ _=>rfl) us hl,Q3 tT X G h3 λ_ _ _ _ _ _ us hl=>bd_2 (λ_ _=>rfl) us hl,Q3 tT X G h4 λ_ _ _ _ _ _ us hl=>bd_1 (λ_=>rfl) us hl,Q3 tT X G h5 λ_ _ _ _ _ _ us hl=>bd_2 (λ_ _=>rfl) us hl,Q3 tT X G h6 λ_ _ _ _ _ _ us hl=>bd_2 (λ_ _=>rfl) us hl,Q3 tT X G h7 λ_ _ _ _ _ _ us hl=>bd_1 (λ_=>rfl) us hl,Q3 tT X G h8 λ_ _ _ _ _ _ us hl=>bd_1 (λ_=>rfl) us hl,Q3 tT X G h9 λ_ _ _ _ _ _ us hl=>bd_3 (λ_ _ _=>rfl) us hl,Q3 tT X G h10 λ_ _ _ _ _ _ us hl=>bd_2 (λ_ _=>rfl) us hl,Q3 tT X G h11 λ_ _ _ _ _ _ us hl=>bd_5 (λ_ _ _ _ _=>rfl) us hl,Q3 tT X G h12 λ_ _ _ _ _ _ us hl=>bd_3 (λ_ _ _=>rfl) us hl,Q3 tT X G h13 λ_ _ _ _ _ _ us hl=>bd_2 (λ_ _=>rfl) us hl,Q3 tT X G h14 λ_ _ _ _ _ _ us hl=>bd_1 (λ_=>rfl) us hl,Q3 tT X G h15 λ_ _ _ _ _ _ us hl=>bd_2 (λ_ _=>rfl) us hl,Q3 tT X G h16 λ_ _ _ _ _ _ us hl=>bd_2 (λ_ _=>rfl) us hl,Q3 tT X G h17 λ_ _ _ _ _ _ us hl=>bd_1 (λ_=>rfl) us hl⟩
 obtain⟨f17,oc17,kV17,dc17,pm17,cd17,ct17,od17,an17,sl17,a17,l17,c17⟩:=h17
 have e:=hfa.symm.trans (PySem.W.mg_of X G a17)
 cases e
 have F17:=Zia (st:=ZbC) (Zdg tT l17 (λz=>by cases z)) (ZfJ tT c17) (ZfI tT l17)
 refine⟨fnOf "law" "law" (Je ZbC) (Z6 ZbC) (Zd ZbC) .none kV17 dc17 pm17 an17 cd17 ct17,λs v=>.of_eq rfl,λbase _ _=>?_⟩
 refine Zib (fi:=17) (np:=1) (n:=11) (body:=Zei) (cell:=false) F17 ZbA ?_ ?_ ?_ ?_
 exact rfl
 exact rfl
 exact rfl
 intro _ _ _ _ _ _ hr _ _ _ go
 refine ZhW ?_ ?_ ?_ ?_
 exact T0
 exact Zih T0 TF 40
 exact hr
 exact go
theorem walkX{l:OpenLaw}{q:Program}{loose:List Str}{XP:(Str->Option Value)->Heap->Prop}{d:DefRec}{K:Params->Frag}{as:List Addr}{n t:Nat}(hn:l.most=some 63)(hdf:d.params.defaults=[])(he:∀P,as=(K P).map (·.1))(T:∀(w:World) P,P∈([28]:List Addr)->(K w.params).lookup P=some (tabObj #[]))(C:∀(w:World) P,P∈([28]:List Addr)->∃c,codeHdIn (K w.params) c P=true)(B:∀w:World,lamB ([28]:List Addr) (K w.params)=true)(F:∀(w:World) (mg:Str->Option Value) (fa:Addr) (h:Heap),(K w.params).In h->h.Ns mainGlobals mg->mg d.name=some (.ref fa) ->
   ∃fd:FuncData,(∀(s:Shared) (u:Value),BindsTo s fd ⟨[u],[]⟩ [("_law_script",u)])/\∀base:Heap,(ZS ([28]:List Addr) (K w.params)).In base->base.Ns mainGlobals mg->FnOk l.prog w (ZS ([28]:List Addr) (K w.params)) mg base (CXF l.prog w) 41 fa fd ["_law_script"] (spF (ZS ([28]:List Addr) (K w.params)) fns gv 41 17)):
  PySem.W.WalkX q loose XP (PySem.W.X.obsZ as) (PySem.W.X.valZ K n t) l.row.toRowW d [] (λf vs=>PySem.call f vs):=by
 intro w s₀ s₁ mg mb G y fa o pm cd doc dV kV ho hd hcd hD hmg hg args vals as' L
 exact Mi.walk_ofT (n:=63) (k:=41) (x:="_law_script") (CX:=λw=>CXF l.prog w) (sp:=λw=>spF (ZS ([28]:List Addr) (K w.params)) fns gv 41 17) (YP:=λw h=>(K w.params).In h) hn (by decide) hdf ⟨rfl,by decide,by decide⟩ (λ_ _ h=>h) T C B F (λ_ _ a ns hl hO hS=>law_sp hO hS (law_true ns hl)) (λ_ _ _ _ _ z=>by obtain⟨_,_,_,_,_,_,h⟩:=z;exact h) w s₀ s₁ mg mb G (PySem.W.InK.keeps w _ _ (PySem.W.X.z_facts he y).2.1 (PySem.W.Laid.keeps L)) fa o pm cd doc dV kV ho hd hcd hD hmg hg args vals as'
end My
set_option Elab.async false
noncomputable def PySem.W.Fast.tw716674733491385135:PySem.Program:=PySem.Challenge.pw_matepoint_k42_rows_of_waiters
theorem PySem.W.Fast.te716674733491385135:PySem.Challenge.pw_matepoint_k42_rows_of_waiters=PySem.W.Fast.tw716674733491385135:=rfl
namespace PySem.W.Fast
def tw349441073230767021:=()
def tw2757080213062032571:=()
def tw5441224617908995598:=()
def tw9683455262500130427:=()
def tw528654288880962684:=()
def tw10945881369254765517:=()
def tw16630705057687928389:=()
def tw9613481570040303993:=()
def tw848004465502371449:=()
def tw4957705117096499460:=()
def tw11878074036589687854:=()
def tw5386309596780339717:=()
def tw4786027855841375512:=()
def tw4141070099685317544:=()
def tw12526096462717018492:=()
def tw6175284577571039151:=()
def tw12638050282847809725:=()
def tw8208660338115077363:=()
def tw12358579878816184993:=()
def tw16175951040043991641:=()
def tw8892790912614025011:=()
def tw17738406750940969480:=()
def tw4152089657319351197:=()
def tw13393525978010334690:=()
def tw14813927030545798771:=()
def tw8653771553097540806:=()
def tw15258627977832926899:=()
def tw18407347982803405904:=()
def tw1430173287800961260:=()
def tw2086714646655574060:=()
def tw793991841488393733:=()
def tw18384923519892736997:=()
def tw12067755155920412702:=()
def tw13327314810611770203:=()
def tw13228722819007902268:=()
def tw1554310735013327216:=()
def tw13054956642553426000:=()
def tw5626106904768248374:=()
def tw12604149285973142339:=()
def tw16474711353790870489:=()
def tw12451601036443893744:=()
def tw817844994783172020:=()
def tw4448355490300375644:=()
def tw1924016248891002488:=()
def tw8238665344155510406:=()
def tw15077154339085992515:=()
def tw6414786147830490679:=()
end PySem.W.Fast
open PySem PySem.W PyProof.Rows
set_option maxRecDepth 100000 in
set_option maxHeartbeats 0 in
theorem PySem.Challenge.cw_matepoint_k42_rows_of_waiters_holds : PySem.Challenge.rw_matepoint_k42_rows_of_waiters.Holds := by
 w_on;o_law;z_head;(case hw=>w_witness2)
 k_fill
 refine My.walkX (l:=PySem.Challenge.rw_matepoint_k42_rows_of_waiters) rfl rfl (λ_=>rfl) ?T ?C ?B ?F
 case T=>exact λw=>(List.forall_mem_cons.mpr ⟨by k_is,(λ_ h=>absurd h List.not_mem_nil)⟩)
 case C=>exact λw=>(List.forall_mem_cons.mpr ⟨⟨30,by kernel_rfl⟩,(λ_ h=>absurd h List.not_mem_nil)⟩)
 case B=>exact λw=>by kernel_rfl
 case F =>
  intro w mg fa h KX G hmg
  refine' My.all_mk ?tT ?tB KX G hmg ?h0 ?h1 ?h2 ?h3 ?h4 ?h5 ?h6 ?h7 ?h8 ?h9 ?h10 ?h11 ?h12 ?h13 ?h14 ?h15 ?h16 ?h17 ?z0 ?z1 ?z2 ?z3 ?z4 ?z5 ?z6 ?z7
  (case h0|h1|h2|h3|h4|h5|h6|h7|h8|h9|h10|h11|h12|h13|h14|h15|h16|h17=>refine' My.fe_in ?a ?l ?c;(case a=>k_is);(case l=>k_is);(case c=>k_is))
  (case tT=>exact(List.forall_mem_cons.mpr ⟨by k_is,(λ_ h=>absurd h List.not_mem_nil)⟩))
  (case tB=>kernel_rfl)
  all_goals try k_is
end
