import PyProof.Rows.All
import Wide.All
import OpenK.AllK
import Wide.FinOn
import Lean
import PyProof.EqAt
import PyProof.EqKinds
import PyProof.TupleCall
import PyProof.ToksMono
import PyProof.StrCalls6
import PyProof.StrLawsReplace
import PyProof.DictUpdate
import PySem.Challenge.RW_matepoint_k43_sets_of_waiters
set_option Elab.async false
set_option linter.all false
set_option maxRecDepth 100000
open PySem.W (Frag OpenLaw cellsFrom_some codeIn findIn fnOf instObj keepIn kia_one kitx_list lookIn methodObj mg_none_of mg_of nsIn)
section
set_option Elab.async false
namespace L2
open PySem PySem.Spec PyProof.Rows
noncomputable abbrev Key:=Sum Int Str
noncomputable def keyIs:Key->Value->Bool
 |.inl k,v=>Value.isInt k v
 |.inr x,v=>Value.isStrOf x v
noncomputable def keyH(w:World):Key->Int
 |.inl k=>hashInt k
 |.inr x=>hashStr w x
theorem ZS:∀{k:Key}{v:Value},keyIs k v=true->(∃i t,k=Sum.inl i/\v=Value.int i t)∨(∃x t,k=Sum.inr x/\v=Value.str x t)
 |.inl i,v,h=>by
  obtain⟨t,e⟩:=Value.isInt_shape (k:=i) (v:=v) h
  exact .inl ⟨i,t,rfl,e⟩
 |.inr x,v,h=>by
  obtain⟨t,e⟩:=Value.isStrOf_shape (x:=x) (v:=v) h
  exact .inr ⟨x,t,rfl,e⟩
theorem key_ll(a b:Int):decide ((Sum.inl a:Key)=Sum.inl b)=(a==b):=by
 by_cases e:a=b
 ·subst e;simp
 ·have h:¬(Sum.inl a:Key)=Sum.inl b:=λq=>e (Sum.inl.inj q)
  rw[decide_eq_false h]
  exact(beq_eq_false_iff_ne.mpr e).symm
theorem key_rr(a b:Str):decide ((Sum.inr a:Key)=Sum.inr b)=decide (a=b):=by
 by_cases e:a=b
 ·subst e;simp
 ·have h:¬(Sum.inr a:Key)=Sum.inr b:=λq=>e (Sum.inr.inj q)
  rw[decide_eq_false h,decide_eq_false e]
theorem key_lr(a:Int)(b:Str):decide ((Sum.inl a:Key)=Sum.inr b)=false:=decide_eq_false (λq=>nomatch q)
theorem key_rl(a:Str)(b:Int):decide ((Sum.inr a:Key)=Sum.inl b)=false:=decide_eq_false (λq=>nomatch q)
noncomputable def Zc6(prog:Program)(w:World):PySem.KeyKind prog w Key where
 is:=keyIs
 hash:=keyH w
 inj:=λv a b ha hb=>by
  rcases ZS ha with⟨i,t,rfl,rfl⟩|⟨x,t,rfl,rfl⟩
  ·rcases ZS hb with⟨j,u,rfl,e⟩|⟨y,u,rfl,e⟩
   ·injection e with e1 _;rw[e1]
   ·exact nomatch e
  ·rcases ZS hb with⟨j,u,rfl,e⟩|⟨y,u,rfl,e⟩
   ·exact nomatch e
   ·injection e with e1 _;rw[e1]
 byValue:=λk v h=>by
  rcases ZS h with⟨i,t,rfl,rfl⟩|⟨x,t,rfl,rfl⟩<;>rfl
 pyHash:=λhv h=>by
  rcases ZS hv with⟨i,t,rfl,rfl⟩|⟨x,t,rfl,rfl⟩
  ·exact wpAny_pyHash_int h
  ·exact wpAny_pyHash_str h
 eqBool:=λhu hv h=>by
  rcases ZS hu with⟨i,t,rfl,rfl⟩|⟨x,t,rfl,rfl⟩
  ·rcases ZS hv with⟨j,u,rfl,rfl⟩|⟨y,u,rfl,rfl⟩
   ·rw[key_ll]at h;exact wpAny_eqBool_int h
   ·rw[key_lr]at h;exact SeqAt.EqAt.int_str i t y u _ _ _ _ h
  ·rcases ZS hv with⟨j,u,rfl,rfl⟩|⟨y,u,rfl,rfl⟩
   ·rw[key_rl]at h;exact SeqAt.EqAt.str_int x t j u _ _ _ _ h
   ·rw[key_rr]at h;exact wpAny_eqBool_str h
 «strs»:=λk x t v h=>by
  rcases ZS h with⟨i,u,rfl,e⟩|⟨y,u,rfl,e⟩
  ·exact nomatch e
  ·injection e with e1 _
   subst e1
   cases v<;>rfl
inductive V where
 |non|bl (b:Bool)|int (i:Int)|str (x:Str)|byt (b:Array UInt8)|flt (b:UInt64)|ref (a:Addr)|ty (n:String)
 deriving DecidableEq
noncomputable def RelV:V->Value->Prop
 |.non,u=>u=Value.none
 |.bl b,u=>u=Value.bool b
 |.int i,u=>∃t,u=Value.int i t
 |.str x,u=>∃t,u=Value.str x t
 |.byt b,u=>∃t,u=Value.bytes b t
 |.flt b,u=>∃t,u=Value.float b t
 |.ref a,u=>u=Value.ref a
 |.ty n,u=>u=Value.type n
noncomputable abbrev Vals:List V->List Value->Prop:=Paired RelV
theorem Vals.length{xs:List V}{us:List Value}(r:Vals xs us):xs.length=us.length:=Paired.length r
theorem Vals.get:∀{xs:List V}{us:List Value}{i:Nat}{x:V},Vals xs us->xs[i]?=some x->∃u,us[i]?=some u/\RelV x u
 |_,_,_,_,.nil,e=>by simp at e
 |_,_,0,_,.cons r _,e=>by simp at e;subst e;exact⟨_,rfl,r⟩
 |_,_,i+1,x,.cons _ t,e=>by
  obtain⟨u,h1,h2⟩:=Vals.get (i:=i) (x:=x) t (by simpa using e)
  exact⟨u,by simpa using h1,h2⟩
theorem Vals.set{x:V}{u:Value}(r:RelV x u):∀{xs:List V}{us:List Value}(i:Nat),Vals xs us->Vals (xs.set i x) (us.set i u)
 |_,_,_,.nil=>.nil
 |_,_,0,.cons _ t=>.cons r t
 |_,_,i+1,.cons q t=>.cons q (Vals.set r i t)
theorem Vals.append:∀{xs ys:List V}{us ws:List Value},Vals xs us->Vals ys ws->Vals (xs++ys) (us++ws)
 |_,_,_,_,.nil,s=>s
 |_,_,_,_,.cons r t,s=>.cons r (Vals.append t s)
theorem Vals.take:∀{xs:List V}{us:List Value}(n:Nat),Vals xs us->Vals (xs.take n) (us.take n)
 |_,_,0,_=>.nil
 |_,_,_+1,.nil=>.nil
 |_,_,n+1,.cons r t=>.cons r (Vals.take n t)
theorem Vals.drop:∀{xs:List V}{us:List Value}(n:Nat),Vals xs us->Vals (xs.drop n) (us.drop n)
 |_,_,0,r=>r
 |_,_,_+1,.nil=>.nil
 |_,_,n+1,.cons _ t=>Vals.drop n t
noncomputable def RelO:Option V->Option Value->Prop
 |some v,some u=>RelV v u
 |none,none=>True
 |_,_=>False
noncomputable def KV{κ:Type}:List (κ×V)->List (κ×Value)->Prop:=Paired λ(p:κ×V) (q:κ×Value)=>p.1=q.1/\RelV p.2 q.2
noncomputable def kV:Key->V
 |.inl i=>.int i
 |.inr x=>.str x
inductive HO where
 |lst (xs:List V)
 |tup (xs:List V)
 |dK (kvs:List (Key×V))|dT (kvs:List (List Key×V))
 |set (S:Int->Bool) (n:Nat)
 |ins (C dx:Addr) (fs:List (Str×V))
 |own (x:Addr)
 |xd (fs:List (Str×V))
 |met (f x:Addr)
 |rng (lo hi:Int)
 |frz (o:Obj) (u:HO)
 |tbl (ps:Array Value)
 |ext (φ:Heap->Prop)
noncomputable abbrev Hp:=Addr->Option HO
noncomputable def upd(H:Hp)(a:Addr)(o:HO):Hp:=λb=>if b=a then some o else H b
theorem QW{H:Hp}{a:Addr}{o:HO}:upd H a o a=some o:=by unfold upd;rw[if_pos rfl]
theorem ZL{H:Hp}{a b:Addr}{o:HO}(h:b≠a):upd H a o b=H b:=by unfold upd;rw[if_neg h]
theorem Z5{H:Hp}{a b:Addr}{o:HO}(h:H a=some o)(h':H b=none):a≠b:=by
 intro e;subst e;rw[h]at h';cases h'
noncomputable def TupP(h:Heap)(a:Addr)(items:Array Value):Prop:=∃o,h.get? a=some o/\o.cls=.type "tuple"/\(∃n,o.data=.seq items n)/\o.dict=none
theorem TupP.is{h:Heap}{a:Addr}{items:Array Value}(x:TupP h a items):IsTup h a items:=let⟨o,h1,h2,h3,_⟩:=x;⟨o,h1,h2,h3⟩
theorem TupP.new(h:Heap)(items:Array Value):TupP (h.push { cls:=.type "tuple",data:=.seq items }) h.objs.size items:=⟨_,Heap.get?_push_size _ rfl,rfl,⟨_,rfl⟩,rfl⟩
section
variable(P:Program) (w:World)
noncomputable def QF(H:Hp)(h:Heap)(a:Addr):HO->Prop
 |.lst xs=>xs.length<=sizeLine/\∃(its:List Value) (n:Nat),Vals xs its/\h.get? a=some { cls:=.type "list",data:=.seq its.toArray n }
 |.tup xs=>xs.length<=sizeLine/\∃its:List Value,Vals xs its/\TupP h a its.toArray
 |.dK kvs=>kvs.length<=sizeLine/\(a==sysModules)=false/\∃vs,KV kvs vs/\h.DictOf (Zc6 P w) a vs
 |.dT kvs=>kvs.length<=sizeLine/\(a==sysModules)=false/\∃xs:List (List Key×Addr×Value),
  Paired (λ(p:List Key×V) (q:List Key×Addr×Value)=>p.1=q.1/\H q.2.1=some (.tup (p.1.map kV))/\RelV p.2 q.2.2) kvs xs /\
  ∃o es ep,h.get? a=some o/\o.ExactDict/\o.data=.dict es ep/\es.toList=xs.map (entryOfKey (tupleKind (Zc6 P w)))/\(xs.map (·.1)).Nodup
 |.set S n=>h.SetOf (intKind P w) a S n
 |.ins C dx fs=>H dx=some (.own a)/\fs.length<=1000/\dx≠a/\h.get? a=some (instObj C dx) /\
  ∃mA,h.Ns1 dx mA/\(∀f,RelO (fs.lookup f) (mA f))/\PySem.Within mA (fs.map (·.1))
 |.own _=>∃o,h.get? a=some o
 |.xd fs=>∃mA,h.Ns1 a mA/\∀f,RelO (fs.lookup f) (mA f)
 |.rng lo hi=>∃t u v,h.get? a=some { cls:=.type "range",data:=.fields #[.int lo t,.int hi u,.int 1 v] }
 |.frz o u=>h.get? a=some o/\QF H h a u
 |.tbl ps=>h.get? a=some { cls:=.none,data:=.fields ps }
 |.met f x=>h.get? a=some (methodObj (.ref f) (.ref x))
 |.ext φ=>φ h/\(∃o,h.get? a=some o)/\∀h1 h2:Heap,φ h1->(∀o,h1.get? a=some o->h2.get? a=some o)->φ h2
noncomputable def HOk(H:Hp)(h:Heap):Prop:=∀a o,H a=some o->QF P w H h a o
end
section
variable{P:Program}{w:World}{H H':Hp}{h h':Heap}{a:Addr}{o:HO}
theorem QF.lt(x:QF P w H h a o):a<h.objs.size:=by
 cases o with
 |lst xs=>obtain⟨_,_,_,_,e⟩:=x;exact Heap.lt_size e
 |tup xs=>obtain⟨_,_,_,p⟩:=x;exact p.is.lt
 |dK kvs=>obtain⟨_,_,_,_,o,_,_,e,_⟩:=x;exact Heap.lt_size e
 |dT kvs=>obtain⟨_,_,_,_,o,_,_,e,_⟩:=x;exact Heap.lt_size e
 |set S n=>obtain⟨o,_,_,_,e,_⟩:=x;exact Heap.lt_size e
 |ins C dx fs=>obtain⟨_,_,_,e,_⟩:=x;exact Heap.lt_size e
 |own y=>obtain⟨_,e⟩:=x;exact Heap.lt_size e
 |xd fs=>obtain⟨_,⟨_,_,_,e,_⟩,_⟩:=x;exact Heap.lt_size e
 |rng lo hi=>obtain⟨_,_,_,e⟩:=x;exact Heap.lt_size e
 |frz ob u=>obtain⟨e,_⟩:=x;exact Heap.lt_size e
 |tbl ps=>exact Heap.lt_size (show h.get? a=some _ from x)
 |met f y=>exact Heap.lt_size (show h.get? a=some _ from x)
 |ext φ=>obtain⟨_,⟨_,e⟩,_⟩:=x;exact Heap.lt_size e
theorem Paired.mapP{α β:Type}{F G:α->β->Prop}:∀{l₁:List α}{l₂:List β},Paired F l₁ l₂->(∀a b,F a b->G a b)->Paired G l₁ l₂
 |_,_,.nil,_=>.nil
 |_,_,.cons r t,f=>.cons (f _ _ r) (Paired.mapP t f)
theorem QF.stay(x:QF P w H h a o)(k:∀b u,(b=a∨H b=some (.own a))->h.get? b=some u->h'.get? b=some u)(ho:∀b,H b=some (.own a)->H' b=some (.own a))(ht:∀b xs,H b=some (.tup xs)->H' b=some (.tup xs)):QF P w H' h' a o:=by
 induction o with
 |lst xs=>obtain⟨z,its,n,r,e⟩:=x;exact⟨z,its,n,r,k _ _ (.inl rfl) e⟩
 |tup xs=>obtain⟨z,its,r,ob,e,c⟩:=x;exact⟨z,its,r,ob,k _ _ (.inl rfl) e,c⟩
 |dK kvs=>obtain⟨z,y,vs,r,ob,es,ep,e,c⟩:=x;exact⟨z,y,vs,r,ob,es,ep,k _ _ (.inl rfl) e,c⟩
 |dT kvs =>
  obtain⟨z,y,xs,r,ob,es,ep,e,c⟩:=x
  exact⟨z,y,xs,Paired.mapP r λp q z=>⟨z.1,ht _ _ z.2.1,z.2.2⟩,ob,es,ep,k _ _ (.inl rfl) e,c⟩
 |set S n=>obtain⟨ob,es,ep,t,e,c⟩:=x;exact⟨ob,es,ep,t,k _ _ (.inl rfl) e,c⟩
 |ins C dx fs =>
  obtain⟨d,z,ne,e,mA,⟨od,es,ep,e2,c⟩,r⟩:=x
  exact⟨ho _ d,z,ne,k _ _ (.inl rfl) e,mA,⟨od,es,ep,k _ _ (.inr d) e2,c⟩,r⟩
 |own y=>obtain⟨ob,e⟩:=x;exact⟨ob,k _ _ (.inl rfl) e⟩
 |xd fs=>obtain⟨mA,⟨od,es,ep,e,c⟩,r⟩:=x;exact⟨mA,⟨od,es,ep,k _ _ (.inl rfl) e,c⟩,r⟩
 |rng lo hi=>obtain⟨t,u,v,e⟩:=x;exact⟨t,u,v,k _ _ (.inl rfl) e⟩
 |frz ob u ih=>obtain⟨e,q⟩:=x;exact⟨k _ _ (.inl rfl) e,ih q⟩
 |tbl ps =>
  have e:h.get? a=some { cls:=.none,data:=.fields ps }:=x
  show h'.get? a=some { cls:=.none,data:=.fields ps }
  exact k a _ (.inl rfl) e
 |met f y =>
  have e:h.get? a=some (methodObj (.ref f) (.ref y)):=x
  show h'.get? a=some (methodObj (.ref f) (.ref y))
  exact k a _ (.inl rfl) e
 |ext φ=>obtain⟨p,⟨o,e⟩,st⟩:=x;exact⟨st _ _ p λo q=>k _ _ (.inl rfl) q,⟨o,k _ _ (.inl rfl) e⟩,st⟩
theorem HOk.lt(x:HOk P w H h)(e:H a=some o):a<h.objs.size:=(x a o e).lt
theorem HOk.fresh(x:HOk P w H h)(e:h.objs.size<=a):H a=none:=by
 cases q:H a with
 |none=>rfl
 |some u=>exact absurd (Nat.lt_of_lt_of_le (x.lt q) e) (Nat.lt_irrefl _)
theorem HOk.kept(x:HOk P w H h)(k:∀b u,h.get? b=some u->h'.get? b=some u):HOk P w H h':=λa o e =>
 (x a o e).stay (λb u _ q=>k b u q) (λ_ q=>q) λ_ _ q=>q
theorem HOk.laid(x:HOk P w H h)(k:∀b u,h.get? b=some u->h'.get? b=some u)(hp:h.objs.size<=a)(new:QF P w (upd H a o) h' a o):HOk P w (upd H a o) h':=λb u e=>by
 have hn:=x.fresh hp
 by_cases hb:b=a
 ·subst hb;rw[QW]at e;cases e;exact new
 ·rw[ZL hb]at e
  exact(x b u e).stay (λc v _ q=>k c v q) (λc q=>by rw[ZL (Z5 q hn)];exact q) λc xs q=>by rw[ZL (Z5 q hn)];exact q
end
noncomputable def Rd(H:Hp)(a:Addr)(u:HO):Prop:=H a=some u∨∃o,H a=some (.frz o u)
theorem Rd.ok{P:Program}{w:World}{H:Hp}{h:Heap}{a:Addr}{u:HO}(r:Rd H a u)(x:HOk P w H h):QF P w H h a u:=by
 rcases r with r|⟨o,r⟩
 ·exact x a u r
 ·obtain⟨_,q⟩:=x a _ r
  exact q
noncomputable def Mut:Option HO->Prop
 |some (.lst _)=>True
 |some (.dK _)=>True
 |some (.dT _)=>True
 |some (.set _ _)=>True
 |some (.ins _ _ _)=>True
 |some (.ext _)=>True
 |_=>False
section
variable{P:Program}{w:World}{H:Hp}{h h':Heap}{x e:Addr}{o':HO}
theorem HOk.write(ok:HOk P w H h)(mu:Mut (H x))(he:e=x∨H e=some (.own x))(k:∀b u,b≠e->h.get? b=some u->h'.get? b=some u)(heo:∃u,h'.get? e=some u)(new:QF P w (upd H x o') h' x o'):HOk P w (upd H x o') h':=λb u q=>by
 have nown:∀c y,H c=some (.own y)->c≠x:=λc y r z=>by subst z;rw[r]at mu;exact mu
 have ntup:∀c xs,H c=some (.tup xs)->c≠x:=λc xs r z=>by subst z;rw[r]at mu;exact mu
 by_cases hb:b=x
 ·subst hb;rw[QW]at q;cases q;exact new
 ·rw[ZL hb]at q
  by_cases hbe:b=e
  ·have q':H b=some (.own x):=by
    rcases he with z|z
    ·exact absurd (hbe.trans z) hb
    ·rw[hbe];exact z
   rw[q]at q';cases q'
   obtain⟨v,hv⟩:=heo
   exact⟨v,by rw[hbe];exact hv⟩
  ·refine(ok b u q).stay (λc v hc r=>k c v ?_ r) (λc r=>by rw[ZL (nown c b r)];exact r) λc xs r=>by rw[ZL (ntup c xs r)];exact r
   rcases hc with rfl|hc
   ·exact hbe
   ·rintro rfl
    rcases he with z|z
    ·exact nown c b hc z
    ·rw[hc]at z;cases z;exact hb rfl
end
structure Un (fs ex:List Addr) (H H':Hp) (h h':Heap):Prop where
 keep:∀b o,h.get? b=some o->H b=none->b∉fs->b∉ex->h'.get? b=some o
 slot:∀b o,h.get? b=some o->H b=none->b∈fs->b∉ex->∃sl,h'.get? b=some { o with slots:=sl }
 free:∀b o,h.get? b=some o->H b=none->b∉ex->H' b=none
 there:∀b o,h.get? b=some o->b∉ex->∃o',h'.get? b=some o'
 tups:∀b xs,H b=some (.tup xs)->H' b=some (.tup xs)
 frzs:∀b o u,H b=some (.frz o u)->H' b=some (.frz o u)
 tbls:∀b ps,H b=some (.tbl ps)->∃more,H' b=some (.tbl (ps++more))
section
variable{fs fs' ex ex':List Addr}{H H1 H2:Hp}{h h1 h2 h':Heap}{a x e:Addr}{o:HO}
theorem Un.any(u:Un fs ex H H1 h h1){b:Addr}{ob:Obj}(q:h.get? b=some ob)(n:H b=none)(hx:b∉ex):∃sl,h1.get? b=some { ob with slots:=sl }:=by
 by_cases hb:b∈fs
 ·exact u.slot b ob q n hb hx
 ·exact⟨ob.slots,u.keep b ob q n hb hx⟩
theorem Un.kept(k:∀b u,h.get? b=some u->h'.get? b=some u):Un fs ex H H h h':=
 ⟨λb ob q _ _ _=>k b ob q,λb ob q _ _ _=>⟨ob.slots,k b ob q⟩,λ_ _ _ n _=>n,λb ob q _=>⟨ob,k b ob q⟩,λ_ _ q=>q,λ_ _ _ q=>q,λ_ ps q=>⟨#[],by rw[q];simp⟩⟩
theorem Un.refl:Un fs ex H H h h:=Un.kept λ_ _ q=>q
theorem Un.laid(k:∀b u,h.get? b=some u->h'.get? b=some u)(hp:h.objs.size<=a)(hn:H a=none):Un fs ex H (upd H a o) h h' where
 keep:=λb u q _ _ _=>k b u q
 slot:=λb u q _ _ _=>⟨u.slots,k b u q⟩
 free:=λb u q n _=>by rw[ZL (Nat.ne_of_lt (Nat.lt_of_lt_of_le (Heap.lt_size q) hp))];exact n
 there:=λb u q _=>⟨u,k b u q⟩
 tups:=λb xs q=>by rw[ZL (Z5 q hn)];exact q
 frzs:=λb u xs q=>by rw[ZL (Z5 q hn)];exact q
 tbls:=λb ps q=>⟨#[],by rw[ZL (Z5 q hn),q];simp⟩
theorem Un.write(mu:Mut (H x))(he:e=x∨H e=some (.own x))(k:∀b u,b≠e->h.get? b=some u->h'.get? b=some u)(heo:∃u,h'.get? e=some u):Un fs ex H (upd H x o) h h':=by
 have hx:∀b,H b=none->b≠x:=λb n z=>by subst z;rw[n]at mu;exact mu
 have hb:∀b,H b=none->b≠e:=λb n z=>by
  subst z
  rcases he with r|r
  ·exact hx b n r
  ·rw[n]at r;cases r
 have hm:∀b u,H b=some u->¬Mut (some u)->b≠x:=λb u q nm z=>by subst z;rw[q]at mu;exact nm mu
 refine⟨λb u q n _ _=>k b u (hb b n) q,λb u q n _ _=>⟨u.slots,k b u (hb b n) q⟩,λb u q n _=>by rw[ZL (hx b n)];exact n,λb u q _=>?_,
  λb xs q=>by rw[ZL (hm b _ q λz=>z)];exact q,λb u xs q=>by rw[ZL (hm b _ q λz=>z)];exact q,λb ps q=>⟨#[],by rw[ZL (hm b _ q λz=>z),q];simp⟩⟩
 by_cases hbe:b=e
 ·subst hbe;exact heo
 ·exact⟨u,k b u hbe q⟩
end
noncomputable def trk(h:Heap)(H:Hp):List Addr:=(List.range h.objs.size).filter λa=>(H a).isSome
noncomputable def hidT(h:Heap)(H:Hp):Heap:=PySem.W.hideAll h (trk h H)
theorem Zgh(h:Heap)(H:Hp):(hidT h H).objs.size=h.objs.size:=PySem.W.hideAll_size _ _
theorem ZhH{h:Heap}{H:Hp}{b:Addr}{o:Obj}(e:h.get? b=some o)(n:H b=none):(hidT h H).get? b=some o:=
 PySem.W.hideAll_get _ e λhm=>by
  have q:(H b).isSome=true:=(List.mem_filter.mp hm).2
  rw[n]at q;simp at q
theorem ZjC{h:Heap}{H:Hp}{b:Addr}{o:Obj}(e:(hidT h H).get? b=some o):h.get? b=some o/\H b=none:=by
 have e':h.get? b=some o:=PySem.W.of_hideAll (trk h H) e
 refine⟨e',?_⟩
 cases q:H b with
 |none=>rfl
 |some x =>
  have hm:b∈trk h H:=List.mem_filter.mpr ⟨List.mem_range.mpr (Heap.lt_size e'),by simp[q]⟩
  have z:(hidT h H).get? b=none:=PySem.W.hideAll_none (trk h H) hm
  rw[z]at e;cases e
noncomputable def Zkh(g h:Heap)(L:Addr):List (Addr×Obj):=(List.range h.objs.size).filterMap λa=>if a=L∨(g.get? a).isSome=true then none else(h.get? a).map λo=>(a,o)
noncomputable def rest(g h:Heap)(L d:Addr):List (Addr×Obj):=(Zkh g h L).filter λp=>decide (p.1≠d)
structure Mod (K:Frag) (mg:Str->Option Value) (base:Heap):Prop where
 kin:K.In base
 glob:base.Ns mainGlobals mg
 blt:∃mb,base.Ns builtinsNs mb/\∀x:Str,x≠"__name__"->mb x=bootBuiltins x
 nolimit:base.NoLimit
structure Cx where
 prog:Program
 w:World
 K:Frag
 mg:Str->Option Value
 base:Heap
 A:Around
 N:List Str
 s₀:Shared
 H₀:Hp
 env:Env
 outer:List Env
 stack:List Env
 ex:List Addr
 fn:Str->Bool
 calm:Bool
 pn:List (Addr×Obj)
 xe:Value->Shared->Prop
noncomputable def frs(l:List Env):List Addr:=l.filterMap (·.frame)
noncomputable abbrev Cx.fs(X:Cx):List Addr:=frs X.outer
noncomputable def Vis(sc:Scope)(x:Str):Prop:=sc.names.lookup x=some .local∨sc.names.lookup x=some .cell∨sc.names.lookup x=some .free
noncomputable def Loc(sc:Scope)(x:Str):Prop:=sc.names.lookup x=some .local∨sc.names.lookup x=some .cell
noncomputable def Look(env:Env)(h:Heap)(m:Str->Option Value)(x:Str)(u:Value):Prop:=
 (env.kindOf x=some .local/\m x=some u)∨((env.kindOf x=some .cell∨env.kindOf x=some .free)/\∃c,env.cells.lookup x=some c/\h.IsCell c (some u))
structure Cx.Ok (X:Cx):Prop where
 mod:Mod X.K X.mg X.base
 kind:X.env.scope.kind=.function
 glob:X.env.globals=mainGlobals
 blt:X.env.builtins=builtinsNs
 above:X.s₀.heap.objs.size<=X.env.locals
 inj:∀x y c,X.env.cells.lookup x=some c->X.env.cells.lookup y=some c->x=y
 has:∀x,(X.env.kindOf x=some .cell∨X.env.kindOf x=some .free)->∃c,X.env.cells.lookup x=some c
 cab:∀x c,X.fn x=true->X.env.cells.lookup x=some c->X.s₀.heap.objs.size<=c
 hd:X.calm=true->X.A.handled=none
 frames:X.A.frames=some X.stack
 stk:X.stack=X.outer∨(X.stack=X.env::X.outer/\X.env.frame=some X.env.locals)
 exf:∀b∈X.ex,b≠X.env.locals/\∀x c,X.env.cells.lookup x=some c->c≠b
 bs:∀b o,X.base.get? b=some o->X.s₀.heap.get? b=some o/\X.H₀ b=none
 bsz:X.base.objs.size<=X.s₀.heap.objs.size
 noex:∀b o,X.base.get? b=some o->b∉X.ex
 exfs:∀b∈X.ex,b∉X.fs
 funs:X.s₀.heap.FunFrames X.base X.outer
 frf:∀b∈X.fs,X.H₀ b=none
structure Inv (X:Cx) (pins:List (Addr×Obj)) (σ:List (Option V)) (H:Hp) (s:Shared):Prop where
 ok:X.Ok
 os:s.os=X.s₀.os
 bare:AllBare s.gens
 base:Un X.fs X.ex X.H₀ H X.s₀.heap s.heap
 loc:∃m,s.heap.Ns X.env.locals m/\∀(i:Nat) (x:Str) (v:V),X.N[i]?=some x->σ[i]?=some (some v)->Vis X.env.scope x->∃u,RelV v u/\Look X.env s.heap m x u
 cell:∀x c,X.env.cells.lookup x=some c->∃v,s.heap.IsCell c v
 free:H X.env.locals=none
 freeC:∀x c,X.env.cells.lookup x=some c->H c=none
 pin:∀p∈X.pn++pins,s.heap.get? p.1=some p.2/\H p.1=none/\p.1≠X.env.locals/\p.1∉X.fs/\∀v,p.2.data≠.cell v
 hok:HOk X.prog X.w H s.heap
 len:σ.length=X.N.length
section
variable{X:Cx}{pins:List (Addr×Obj)}{σ:List (Option V)}{H H':Hp}{s:Shared}{h':Heap}
theorem Cx.Ok.nofr(ok:X.Ok){b:Addr}{o:Obj}(e:X.base.get? b=some o):b∉X.fs:=λhb=>by
 have:=(ok.funs.mem hb).1
 rw[e]at this;cases this
theorem Inv.bs(I:Inv X pins σ H s):∀b o,X.base.get? b=some o->s.heap.get? b=some o/\H b=none:=λb o e =>
 ⟨I.base.keep b o (I.ok.bs b o e).1 (I.ok.bs b o e).2 (I.ok.nofr e) (I.ok.noex b o e),I.base.free b o (I.ok.bs b o e).1 (I.ok.bs b o e).2 (I.ok.noex b o e)⟩
theorem Inv.bk(I:Inv X pins σ H s):∀b o,X.base.get? b=some o->s.heap.get? b=some o:=λb o e=>(I.bs b o e).1
theorem Inv.mod(I:Inv X pins σ H s):Mod X.K X.mg X.base:=I.ok.mod
theorem Inv.kIn(I:Inv X pins σ H s):X.K.In s.heap:=I.ok.mod.kin.keeps I.bk
theorem Inv.lt(I:Inv X pins σ H s):X.env.locals<s.heap.objs.size:=let⟨_,hn,_⟩:=I.loc;hn.lt
theorem Inv.sz(I:Inv X pins σ H s):X.s₀.heap.objs.size<=s.heap.objs.size:=Nat.le_trans I.ok.above (Nat.le_of_lt I.lt)
theorem Inv.nofs(I:Inv X pins σ H s){a:Addr}(h:s.heap.objs.size<=a):a∉X.fs:=λhb=>by
 obtain⟨_,o,ho,_⟩:=I.ok.funs.mem hb
 exact absurd (Nat.lt_of_lt_of_le (Heap.lt_size ho) (Nat.le_trans I.sz h)) (Nat.lt_irrefl _)
theorem Inv.cne(I:Inv X pins σ H s):∀x c,X.env.cells.lookup x=some c->c≠X.env.locals:=λx c e z=>by
 obtain⟨v,o,ho,hd⟩:=I.cell x c e
 obtain⟨m,⟨o',es,ep,ho',hd',_⟩,_⟩:=I.loc
 rw[z,ho']at ho;cases ho;rw[hd']at hd;cases hd
theorem Inv.funs(I:Inv X pins σ H s):s.heap.FunFrames X.base X.outer:=by
 have all:∀(l:List Env),(∀b∈frs l,b∈X.fs)->X.s₀.heap.FunFrames X.base l->s.heap.FunFrames X.base l:=by
  intro l
  induction l with
  |nil=>intro _ _;trivial
  |cons env r ih =>
   intro hs hl
   obtain⟨hk,⟨L,o,hf,hn,ho,hd⟩,hr⟩:=hl
   have hL:L∈X.fs:=hs L (by unfold frs;rw[List.filterMap_cons,hf];exact List.mem_cons_self)
   obtain⟨sl,e⟩:=I.base.slot L o ho (I.ok.frf L hL) hL λz=>I.ok.exfs L z hL
   exact⟨hk,⟨L,_,hf,hn,e,hd⟩,ih (λb hb=>hs b (by unfold frs;rw[List.filterMap_cons,hf];exact List.mem_cons_of_mem _ hb)) hr⟩
 exact all X.outer (λ_ hb=>hb) I.ok.funs
theorem Inv.stack(I:Inv X pins σ H s):s.heap.FunFrames X.base X.stack:=by
 rcases I.ok.stk with e|⟨e,hf⟩
 ·rw[e];exact I.funs
 ·rw[e]
  obtain⟨m,hn,_⟩:=I.loc
  refine .cons (by rw[I.ok.kind];decide) hf hn ?_ I.funs
  exact Heap.get?_none_of_le (Nat.le_trans I.ok.bsz I.ok.above)
theorem Inv.stkSub(I:Inv X pins σ H s):∀b∈frs X.stack,b∈X.env.locals::X.fs:=λb hb=>by
 rcases I.ok.stk with e|⟨e,hf⟩
 ·rw[e]at hb;exact List.mem_cons_of_mem _ hb
 ·rw[e]at hb
  unfold frs at hb
  rw[List.filterMap_cons,hf]at hb
  exact hb
theorem Inv.stkFree(I:Inv X pins σ H s):∀b∈frs X.stack,H b=none:=λb hb=>by
 rcases List.mem_cons.mp (I.stkSub b hb)with e|hb
 ·rw[e];exact I.free
 ·obtain⟨_,o,ho,_⟩:=I.ok.funs.mem hb
  exact I.base.free b o ho (I.ok.frf b hb) λz=>I.ok.exfs b z hb
theorem Inv.step{g':Array GenState}{t':Nat}{d':Drawn}{ch:List Addr}(I:Inv X pins σ H s)(hch:∀b∈ch,(b∈X.ex∨X.s₀.heap.objs.size<=b)/\b≠X.env.locals/\(∀x c,X.env.cells.lookup x=some c->c≠b)/\∀p∈X.pn++pins,p.1≠b)(keep:∀b o,b≠X.env.locals->b∉X.fs->b∉ch->s.heap.get? b=some o->H b=none->h'.get? b=some o)(slot:∀b o,b≠X.env.locals->b∈X.fs->b∉ch->s.heap.get? b=some o->H b=none->∃sl,h'.get? b=some { o with slots:=sl })(free:∀b o,b∉ch->s.heap.get? b=some o->H b=none->H' b=none)(there:∀b o,b∉ch->s.heap.get? b=some o->∃o',h'.get? b=some o')(tups:∀b xs,H b=some (.tup xs)->H' b=some (.tup xs))(frzs:∀b o u,H b=some (.frz o u)->H' b=some (.frz o u))(tbls:∀b ps,H b=some (.tbl ps)->∃more,H' b=some (.tbl (ps++more)))(ns:∀m,s.heap.Ns X.env.locals m->h'.Ns X.env.locals m)(hok:HOk X.prog X.w H' h')(hg:AllBare g'):
  Inv X pins σ H' { s with heap:=h',gens:=g',drawn:=d',toks:=t' }:=by
 have neL:∀b o,X.s₀.heap.get? b=some o->b≠X.env.locals:=λb o e=>Nat.ne_of_lt (Nat.lt_of_lt_of_le (Heap.lt_size e) I.ok.above)
 have neC:∀b o,X.s₀.heap.get? b=some o->b∉X.ex->b∉ch:=λb o e hx hb=>by
  rcases(hch b hb).1 with z|z
  ·exact hx z
  ·exact absurd (Nat.lt_of_lt_of_le (Heap.lt_size e) z) (Nat.lt_irrefl _)
 have cellK:∀x c,X.env.cells.lookup x=some c->∀v,s.heap.IsCell c v->h'.IsCell c v:=λx c e v ⟨o,ho,hd⟩=>by
  have nch:c∉ch:=λz=>(hch c z).2.2.1 x c e rfl
  by_cases hc:c∈X.fs
  ·obtain⟨sl,q⟩:=slot c o (I.cne x c e) hc nch ho (I.freeC x c e)
   exact⟨_,q,hd⟩
  ·exact⟨o,keep c o (I.cne x c e) hc nch ho (I.freeC x c e),hd⟩
 refine⟨I.ok,I.os,hg,⟨λb o e n hb hx=>?_,λb o e n hb hx=>?_,λb o e n hx=>?_,λb o e hx=>?_,λb xs e=>tups b xs (I.base.tups b xs e),λb o xs e=>frzs b o xs (I.base.frzs b o xs e),λb ps e=>?_⟩,?_,λx c e=>?_,?_,λx c e=>?_,λp hp=>?_,hok,I.len⟩
 ·exact keep b o (neL b o e) hb (neC b o e hx) (I.base.keep b o e n hb hx) (I.base.free b o e n hx)
 ·obtain⟨sl,e1⟩:=I.base.slot b o e n hb hx
  obtain⟨sl',e2⟩:=slot b _ (neL b o e) hb (neC b o e hx) e1 (I.base.free b o e n hx)
  exact⟨sl',e2⟩
 ·obtain⟨o',e1⟩:=I.base.there b o e hx
  exact free b o' (neC b o e hx) e1 (I.base.free b o e n hx)
 ·obtain⟨o',e1⟩:=I.base.there b o e hx
  exact there b o' (neC b o e hx) e1
 ·obtain⟨m1,e1⟩:=I.base.tbls b ps e
  obtain⟨m2,e2⟩:=tbls b _ e1
  exact⟨m1++m2,by rw[e2,Array.append_assoc]⟩
 ·obtain⟨m,hn,hl⟩:=I.loc
  refine⟨m,ns m hn,λi x v e1 e2 e3=>?_⟩
  obtain⟨u,r,l⟩:=hl i x v e1 e2 e3
  refine⟨u,r,?_⟩
  rcases l with l|⟨k,c,e,z⟩
  ·exact .inl l
  ·exact .inr ⟨k,c,e,cellK x c e _ z⟩
 ·obtain⟨v,z⟩:=I.cell x c e
  exact⟨v,cellK x c e v z⟩
 ·obtain⟨m,⟨o,_,_,ho,_⟩,_⟩:=I.loc
  exact free _ o (λz=>(hch _ z).2.1 rfl) ho I.free
 ·obtain⟨v,o,ho,hd⟩:=I.cell x c e
  exact free c o (λz=>(hch c z).2.2.1 x c e rfl) ho (I.freeC x c e)
 ·obtain⟨e,n,ne,nf,d⟩:=I.pin p hp
  have nch:p.1∉ch:=λz=>(hch p.1 z).2.2.2 p hp rfl
  exact⟨keep p.1 p.2 ne nf nch e n,free p.1 p.2 nch e n,ne,nf,d⟩
theorem Inv.un{t':Nat}(I:Inv X pins σ H s)(u:Un X.fs [] H H' s.heap h')(hok:HOk X.prog X.w H' h'):Inv X pins σ H' { s with heap:=h',toks:=t' }:=by
 obtain⟨m,⟨o,es,ep,ho,r⟩,_⟩:=id I.loc
 obtain⟨sl,hL⟩:=u.any ho I.free (by simp)
 exact I.step (g':=s.gens) (d':=s.drawn) (ch:=[]) (λ_ z=>nomatch z) (λb o _ hb _ e n=>u.keep b o e n hb (by simp)) (λb o _ hb _ e n=>u.slot b o e n hb (by simp)) (λb o _ e n=>u.free b o e n (by simp)) (λb o _ e=>u.there b o e (by simp)) u.tups u.frzs u.tbls (λm' hm=>by
  obtain⟨o',es',ep',ho',r'⟩:=hm
  rw[ho]at ho';cases ho'
  exact⟨_,es',ep',hL,r'⟩) hok I.bare
theorem Inv.call{g':Array GenState}{t':Nat}{d':Drawn}{ch:List Addr}(I:Inv X pins σ H s)(u:Un (frs X.stack) ch H H' s.heap h')(hok:HOk X.prog X.w H' h')(hg:AllBare g')(hch:∀b∈ch,(b∈X.ex∨X.s₀.heap.objs.size<=b)/\b≠X.env.locals/\(∀x c,X.env.cells.lookup x=some c->c≠b)/\∀p∈X.pn++pins,p.1≠b):
  Inv X pins σ H' { s with heap:=h',gens:=g',drawn:=d',toks:=t' }:=by
 obtain⟨m,⟨o,es,ep,ho,r⟩,_⟩:=id I.loc
 obtain⟨sl,hL⟩:=u.any ho I.free λz=>(hch _ z).2.1 rfl
 exact I.step (ch:=ch) hch (λb o hL hb hc e n=>u.keep b o e n (λz=>(List.mem_cons.mp (I.stkSub b z)).elim hL hb) hc) (λb o _ _ hc e n=>u.any e n hc) (λb o hc e n=>u.free b o e n hc) (λb o hc e=>u.there b o e hc) u.tups u.frzs u.tbls (λm' hm=>by
  obtain⟨o',es',ep',ho',r'⟩:=hm
  rw[ho]at ho';cases ho'
  exact⟨_,es',ep',hL,r'⟩) hok hg
theorem Inv.turned{t':Nat}{it:Addr}(I:Inv X pins σ H s)(k:∀b o,b≠it->s.heap.get? b=some o->h'.get? b=some o)(hn:H it=none)(hL:it≠X.env.locals)(h1:it∈X.ex∨X.s₀.heap.objs.size<=it)(h2:∀x c,X.env.cells.lookup x=some c->c≠it)(h3:∀p∈X.pn++pins,p.1≠it):Inv X pins σ H { s with heap:=h',toks:=t' }:=by
 have nit:∀b u,H b=some u->b≠it:=λb u e z=>by rw[z,hn]at e;cases e
 refine I.step (g':=s.gens) (d':=s.drawn) (ch:=[it]) (λb hb=>?_) (λb o _ _ hc e _=>k b o (λz=>hc (by simp[z])) e) (λb o _ _ hc e _=>⟨o.slots,k b o (λz=>hc (by simp[z])) e⟩) (λ_ _ _ _ n=>n)
  (λb o hc e=>⟨o,k b o (λz=>hc (by simp[z])) e⟩) (λ_ _ e=>e) (λ_ _ _ e=>e) (λb ps e=>⟨#[],by rw[e];simp⟩) (λm hm=>?_) (λb u e=>?_) I.bare
 ·have e:b=it:=by simpa using hb
  subst e
  exact⟨h1,hL,h2,h3⟩
 ·obtain⟨o,es,ep,ho,r⟩:=hm
  exact⟨o,es,ep,k _ o (Ne.symm hL) ho,r⟩
 ·refine(I.hok b u e).stay (λc v hc q=>k c v ?_ q) (λ_ q=>q) λ_ _ q=>q
  rcases hc with z|z
  ·rw[z];exact nit b u e
  ·exact nit c _ z
theorem Inv.tok(I:Inv X pins σ H s)(t:Nat):Inv X pins σ H { s with toks:=t }:=I.un (h':=s.heap) (t':=t) Un.refl I.hok
theorem Inv.kept{t':Nat}(I:Inv X pins σ H s)(k:∀b u,s.heap.get? b=some u->h'.get? b=some u):Inv X pins σ H { s with heap:=h',toks:=t' }:=I.un (Un.kept k) (I.hok.kept k)
theorem Inv.laid{a:Addr}{o:HO}{t':Nat}(I:Inv X pins σ H s)(k:∀b u,s.heap.get? b=some u->h'.get? b=some u)(hp:s.heap.objs.size<=a)(new:QF X.prog X.w (upd H a o) h' a o):
 Inv X pins σ (upd H a o) { s with heap:=h',toks:=t' }:=I.un (Un.laid k hp (I.hok.fresh hp)) (I.hok.laid k hp new)
theorem Inv.write{x e:Addr}{o:HO}{t':Nat}(I:Inv X pins σ H s)(mu:Mut (H x))(he:e=x∨H e=some (.own x))(k:∀b u,b≠e->s.heap.get? b=some u->h'.get? b=some u)(heo:∃u,h'.get? e=some u)(new:QF X.prog X.w (upd H x o) h' x o):Inv X pins σ (upd H x o) { s with heap:=h',toks:=t' }:=I.un (Un.write mu he k heo) (I.hok.write mu he k heo new)
theorem Inv.pins_of{pins':List (Addr×Obj)}(I:Inv X pins σ H s)(h:∀p∈pins',s.heap.get? p.1=some p.2/\H p.1=none/\p.1≠X.env.locals/\p.1∉X.fs/\∀v,p.2.data≠.cell v):Inv X pins' σ H s:=
 ⟨I.ok,I.os,I.bare,I.base,I.loc,I.cell,I.free,I.freeC,λp hp=>(List.mem_append.mp hp).elim (λz=>I.pin p (List.mem_append_left _ z)) (h p),I.hok,I.len⟩
theorem ZdK{N:List Str}(hN:N.Nodup){i j:Nat}{x:Str}(a:N[i]?=some x)(b:N[j]?=some x):i=j:=by
 obtain⟨h1,e1⟩:=List.getElem?_eq_some_iff.mp a
 obtain⟨h2,e2⟩:=List.getElem?_eq_some_iff.mp b
 exact(List.getElem_inj hN).mp (e1.trans e2.symm)
theorem ZbY{M:Model}{A:Around}{E:Value->Shared->Prop}{i:Nat}{x:Str}{v:V}{u:Value}{Q:Unit->Shared->Prop}(I:Inv X pins σ H s)(hN:X.N.Nodup)(hi:X.N[i]?=some x)(hx:Loc X.env.scope x)(r:RelV v u)(h:∀s',Inv X pins (σ.set i (some v)) H s'->(∃a,Heap.SameBut a s.heap s'.heap/\(a=X.env.locals∨X.env.cells.lookup x=some a))->Q () s')(hf:X.fn x=true∨X.env.scope.names.lookup x=some .local:=by first|exact .inl rfl|exact .inr rfl|assumption):wpAny M A (storeName X.env x u) Q E s:=by
 obtain⟨m,hn,hl⟩:=id I.loc
 have hcls:(X.env.scope.kind==.class || (X.env.scope.kind==.module&&X.env.locals != X.env.globals))=false:=by rw[I.ok.kind];rfl
 have hiσ:i<σ.length:=by rw[I.len];exact(List.getElem?_eq_some_iff.mp hi).1
 have cne:=I.cne
 have tracked:∀{a:Addr}{h':Heap},(∃o,s.heap.get? a=some o/\H a=none)->Heap.SameBut a s.heap h'->HOk X.prog X.w H h':=λ{a h'} ha hs b ob e=>by
  obtain⟨_,_,hfree⟩:=ha
  refine(I.hok b ob e).stay (λc w' hc q=>(hs.2 c ?_).trans q) (λ_ q=>q) λ_ _ q=>q
  rintro rfl
  rcases hc with rfl|hc
  ·rw[hfree]at e;cases e
  ·rw[hfree]at hc;cases hc
 rcases hx with hk|hk
 ·refine wpAny_storeName_local hk hn (λh' hn' hs=>?_) hcls
  obtain⟨oL,_,_,hoL,_⟩:=id hn
  refine h _ ⟨I.ok,I.os,I.bare,⟨λb o e n hb hx=>?_,λb o e n hb hx=>?_,I.base.free,λb o e hx=>?_,I.base.tups,I.base.frzs,I.base.tbls⟩,⟨_,hn',λj y v' e1 e2 e3=>?_⟩,λy c e=>?_,I.free,I.freeC,λp hp=>?_,tracked ⟨oL,hoL,I.free⟩ hs,by simpa using I.len⟩ ⟨_,hs,.inl rfl⟩
  ·exact(hs.2 b (Nat.ne_of_lt (Nat.lt_of_lt_of_le (Heap.lt_size e) I.ok.above))).trans (I.base.keep b o e n hb hx)
  ·obtain⟨sl,e1⟩:=I.base.slot b o e n hb hx
   exact⟨sl,(hs.2 b (Nat.ne_of_lt (Nat.lt_of_lt_of_le (Heap.lt_size e) I.ok.above))).trans e1⟩
  ·obtain⟨o',e1⟩:=I.base.there b o e hx
   exact⟨o',(hs.2 b (Nat.ne_of_lt (Nat.lt_of_lt_of_le (Heap.lt_size e) I.ok.above))).trans e1⟩
  ·by_cases hj:j=i
   ·subst hj
    rw[hi]at e1;cases e1
    rw[List.getElem?_set_self hiσ]at e2
    cases e2
    exact⟨u,r,.inl ⟨hk,by simp⟩⟩
   ·rw[List.getElem?_set_ne (Ne.symm hj)]at e2
    obtain⟨u',r',q⟩:=hl j y v' e1 e2 e3
    refine⟨u',r',?_⟩
    rcases q with⟨k,e⟩|⟨k,c,e,z⟩
    ·refine .inl ⟨k,?_⟩
     have:y≠x:=λe=>hj (ZdK hN e1 (e▸hi))
     simp[this,e]
    ·exact .inr ⟨k,c,e,z.sameBut hs (cne y c e)⟩
  ·obtain⟨w',z⟩:=I.cell y c e
   exact⟨w',z.sameBut hs (cne y c e)⟩
  ·obtain⟨e,n,ne,nf,d⟩:=I.pin p hp
   exact⟨(hs.2 p.1 ne).trans e,n,ne,nf,d⟩
 ·have hfn:X.fn x=true:=by
   rcases hf with z|z
   ·exact z
   ·rw[z]at hk;cases hk
  obtain⟨c,hc⟩:=I.ok.has x (.inl hk)
  obtain⟨w',z⟩:=I.cell x c hc
  refine wpAny_storeName_cell I.ok.kind hk hc z (λh' hc' hs=>?_)
  obtain⟨oc,hoc,hocd⟩:=id z
  refine h { s with heap:=h' } ⟨I.ok,I.os,I.bare,⟨λb o e n hb hx=>?_,λb o e n hb hx=>?_,I.base.free,λb o e hx=>?_,I.base.tups,I.base.frzs,I.base.tbls⟩,⟨m,hn.sameBut hs (Ne.symm (cne x c hc)),λj y v' e1 e2 e3=>?_⟩,λy c' e=>?_,I.free,I.freeC,λp hp=>?_,tracked ⟨oc,hoc,I.freeC x c hc⟩ hs,by simpa using I.len⟩ ⟨c,hs,.inr hc⟩
  ·exact(hs.2 b (Nat.ne_of_lt (Nat.lt_of_lt_of_le (Heap.lt_size e) (I.ok.cab x c hfn hc)))).trans (I.base.keep b o e n hb hx)
  ·obtain⟨sl,e1⟩:=I.base.slot b o e n hb hx
   exact⟨sl,(hs.2 b (Nat.ne_of_lt (Nat.lt_of_lt_of_le (Heap.lt_size e) (I.ok.cab x c hfn hc)))).trans e1⟩
  ·obtain⟨o',e1⟩:=I.base.there b o e hx
   exact⟨o',(hs.2 b (Nat.ne_of_lt (Nat.lt_of_lt_of_le (Heap.lt_size e) (I.ok.cab x c hfn hc)))).trans e1⟩
  ·by_cases hj:j=i
   ·subst hj
    rw[hi]at e1;cases e1
    rw[List.getElem?_set_self hiσ]at e2
    cases e2
    exact⟨u,r,.inr ⟨.inl hk,c,hc,hc'⟩⟩
   ·rw[List.getElem?_set_ne (Ne.symm hj)]at e2
    obtain⟨u',r',q⟩:=hl j y v' e1 e2 e3
    refine⟨u',r',?_⟩
    rcases q with q|⟨k,c',e,z'⟩
    ·exact .inl q
    ·refine .inr ⟨k,c',e,z'.sameBut hs ?_⟩
     rintro rfl
     exact hj (ZdK hN e1 (I.ok.inj _ _ _ e hc▸hi))
  ·by_cases hcc:c'=c
   ·subst hcc;exact⟨_,hc'⟩
   ·obtain⟨w2,z2⟩:=I.cell y c' e
    exact⟨w2,z2.sameBut hs hcc⟩
  ·obtain⟨e,n,ne,nf,d⟩:=I.pin p hp
   refine⟨(hs.2 p.1 ?_).trans e,n,ne,nf,d⟩
   intro q
   rw[q,hoc]at e
   have q':oc=p.2:=Option.some.inj e
   exact d w' (by rw[<-q'];exact hocd)
theorem ZdB{M:Model}{A:Around}{E:Value->Shared->Prop}{i:Nat}{x:Str}{v:V}{u:Value}{Q:Unit->Shared->Prop}(I:Inv X pins σ H s)(hN:X.N.Nodup)(hi:X.N[i]?=some x)(hx:Loc X.env.scope x)(r:RelV v u)(h:∀s',Inv X pins (σ.set i (some v)) H s'->Q () s')(hf:X.fn x=true∨X.env.scope.names.lookup x=some .local:=by first|exact .inl rfl|exact .inr rfl|assumption):wpAny M A (storeName X.env x u) Q E s:=
 ZbY I hN hi hx r (λs' I' _=>h s' I') hf
theorem Inv.call'{s':Shared}{ch:List Addr}(I:Inv X pins σ H s)(ho:s'.os=s.os)(u:Un (frs X.stack) ch H H' s.heap s'.heap)(hok:HOk X.prog X.w H' s'.heap)(hg:AllBare s'.gens)(hch:∀b∈ch,(b∈X.ex∨X.s₀.heap.objs.size<=b)/\b≠X.env.locals/\(∀x c,X.env.cells.lookup x=some c->c≠b)/\∀p∈X.pn++pins,p.1≠b):Inv X pins σ H' s':=by
 obtain⟨h',g',d',t',o'⟩:=s'
 have e:o'=s.os:=ho
 subst e
 exact I.call (g':=g') (t':=t') (d':=d') u hok hg hch
end
noncomputable abbrev XK:=Value->Option Addr->Hp->Prop
noncomputable abbrev St:=List (Option V)
noncomputable abbrev VK:=V->Hp->Prop
noncomputable abbrev TE:=St->Hp->VK->Prop
noncomputable abbrev TT:=St->Hp->(Bool->Hp->Prop)->Prop
noncomputable abbrev TA:=St->Hp->(List V->Hp->Prop)->Prop
structure Ends where
 nx:St->Hp->Prop
 rt:VK
 bk:St->Hp->Prop:=λ_ _=>False
 ct:St->Hp->Prop:=λ_ _=>False
noncomputable abbrev TS:=Ends->St->Hp->Prop
noncomputable def EP(X:Cx)(pins:List (Addr×Obj))(σ:St)(Q:VK)(u:Value)(s':Shared):Prop:=∃v H',Inv X pins σ H' s'/\RelV v u/\Q v H'
noncomputable def TP(X:Cx)(pins:List (Addr×Obj))(σ:St)(Q:Bool->Hp->Prop)(b:Bool)(s':Shared):Prop:=∃H',Inv X pins σ H' s'/\Q b H'
noncomputable def AP(X:Cx)(pins:List (Addr×Obj))(σ:St)(Q:List V->Hp->Prop)(us:List Value)(s':Shared):Prop:=∃vs H',Inv X pins σ H' s'/\Vals vs us/\Q vs H'
noncomputable def SP(X:Cx)(pins:List (Addr×Obj))(D:Ends)(f:Flow)(s':Shared):Prop:=
 match f with
 |.next=>∃σ' H',Inv X pins σ' H' s'/\D.nx σ' H'
 |.brk=>∃σ' H',Inv X pins σ' H' s'/\D.bk σ' H'
 |.cont=>∃σ' H',Inv X pins σ' H' s'/\D.ct σ' H'
 |.ret u=>∃v σ' H',Inv X pins σ' H' s'/\RelV v u/\D.rt v H'
noncomputable def PE(X:Cx)(e:Expr)(t:TE):Prop:=
 ∀(pins:List (Addr×Obj)) (s:Shared) (σ:St) (H:Hp) (Q:VK),Inv X pins σ H s->t σ H Q->wpAny (model X.prog X.w) X.A (eval e X.env) (EP X pins σ Q) X.xe s
noncomputable def PT(X:Cx)(e:Expr)(t:TT):Prop:=
 ∀(pins:List (Addr×Obj)) (s:Shared) (σ:St) (H:Hp) (Q:Bool->Hp->Prop),Inv X pins σ H s->t σ H Q->wpAny (model X.prog X.w) X.A (isTrue e X.env (eval e X.env)) (TP X pins σ Q) X.xe s
noncomputable def PW(X:Cx)(e:Expr)(t:TT):Prop:=
 ∀(whole:Sem Value) (pins:List (Addr×Obj)) (s:Shared) (σ:St) (H:Hp) (Q:Bool->Hp->Prop),Inv X pins σ H s->t σ H Q->wpAny (model X.prog X.w) X.A (isTrue e X.env whole) (TP X pins σ Q) X.xe s
theorem PW.pt{X:Cx}{e:Expr}{t:TT}(h:PW X e t):PT X e t:=h _
noncomputable def PA(X:Cx)(es:List Expr)(t:TA):Prop:=
 ∀(pos:Pos) (pins:List (Addr×Obj)) (s:Shared) (σ:St) (H:Hp) (Q:List V->Hp->Prop),Inv X pins σ H s->t σ H Q->wpAny (model X.prog X.w) X.A (spliced (backTo pos (starEach es X.env))) (AP X pins σ Q) X.xe s
noncomputable def PS(X:Cx)(st:Stmt)(t:TS):Prop:=
 ∀(pins:List (Addr×Obj)) (s:Shared) (σ:St) (H:Hp) (D:Ends),Inv X pins σ H s->t D σ H->wpAny (model X.prog X.w) X.A (exec st X.env) (SP X pins D) X.xe s
noncomputable def PSs(X:Cx)(st:List Stmt)(t:TS):Prop:=
 ∀(pins:List (Addr×Obj)) (s:Shared) (σ:St) (H:Hp) (D:Ends),Inv X pins σ H s->t D σ H->wpAny (model X.prog X.w) X.A (execs st X.env) (SP X pins D) X.xe s
theorem thn{α:Type}{t:Sem α}{Q Q':α->Shared->Prop}{M:Model}{A:Around}{E:Value->Shared->Prop}{s:Shared}(h:wpAny M A t Q E s)(hQ:∀a s,Q a s->Q' a s):wpAny M A t Q' E s:=wpAny_mono h hQ λ_ _ x=>x
section
variable{X:Cx}
theorem bin{a b:Expr}{ta tb:TE}(ha:PE X a ta)(hb:PE X b tb){pins:List (Addr×Obj)}{s:Shared}{σ:St}{H:Hp}{R:V->V->Hp->Prop}(I:Inv X pins σ H s)(h:ta σ H λx H1=>tb σ H1 λy H2=>R x y H2){α:Type}{Q:α->Shared->Prop}{f:Value->Value->Sem α}(hf:∀v u s2 x y H2,Inv X pins σ H2 s2->RelV x v->RelV y u->R x y H2->wpAny (model X.prog X.w) X.A (f v u) Q X.xe s2):
  wpAny (model X.prog X.w) X.A (eval a X.env) (λv s₁=>wpAny (model X.prog X.w) X.A (eval b X.env) (λu s₂=>wpAny (model X.prog X.w) X.A (f v u) Q X.xe s₂) X.xe s₁) X.xe s:=by
 refine thn (ha pins s σ H _ I h) λv s1 ⟨x,H1,I1,r1,q1⟩=>?_
 refine thn (hb pins s1 σ H1 _ I1 q1) λu s2 ⟨y,H2,I2,r2,q2⟩=>?_
 exact hf v u s2 x y H2 I2 r1 r2 q2
noncomputable def tVar(i:Nat):TE:=λσ H Q=>∃v,σ[i]?=some (some v)/\Q v H
noncomputable def tC(v:V):TE:=λ_ H Q=>Q v H
theorem pe_var{i:Nat}{x:Str}{pos:Pos}(hN:X.N[i]?=some x)(hv:Vis X.env.scope x)(hd:(x==("__debug__" : Str))=false:=by decide)(hcd:(x==("__classdict__" : Str))=false:=by decide):PE X (.Name x pos) (tVar i):=by
 intro pins s σ H Q I h
 obtain⟨v,e,h⟩:=h
 obtain⟨m,hn,hl⟩:=I.loc
 obtain⟨u,r,l⟩:=hl i x v hN e hv
 have fin:EP X pins σ Q u s:=⟨v,H,I,r,h⟩
 rcases l with⟨hk,hm⟩|⟨hk,c,hc,hcell⟩
 ·exact wpAny_Name (wpAny_loadName_local I.ok.kind hk hn hm fin) hd
 ·rcases hk with hk|hk
  ·exact wpAny_Name (wpAny_loadName_cell I.ok.kind hk hc hcell fin) hd
  ·exact wpAny_Name (wpAny_loadName_free I.ok.kind hk hc hcell fin hcd) hd
theorem pe_int{i j pos}:PE X (.Constant (.int i) j pos) (tC (.int i)):=λ_ _ _ H _ I h=>wpAny_Constant_int ⟨.int i,H,I.tok _,⟨_,rfl⟩,h⟩
theorem pe_bl{b j pos}:PE X (.Constant (.bool b) j pos) (tC (.bl b)):=λ_ _ _ H _ I h=>Constant_bool ⟨.bl b,H,I,rfl,h⟩
theorem pe_non{j pos}:PE X (.Constant .none j pos) (tC .non):=λ_ _ _ H _ I h=>Constant_none ⟨.non,H,I,rfl,h⟩
theorem pe_str{x j pos}:PE X (.Constant (.str x) j pos) (tC (.str x)):=λ_ _ _ H _ I h=>Calls.Constant_str ⟨.str x,H,I.tok _,⟨_,rfl⟩,h⟩
noncomputable def Gl(X:Cx)(x:Str):Prop:=X.env.kindOf x=some .globalImplicit
theorem Zf5{E:Value->Shared->Prop}{pins:List (Addr×Obj)}{s:Shared}{σ:St}{H:Hp}{x:Str}{u:Value}{pos:Pos}{Q:Value->Shared->Prop}(I:Inv X pins σ H s)(hg:Gl X x)(hm:X.mg x=some u)(h:Q u s)(hd:(x==("__debug__" : Str))=false:=by decide):wpAny (model X.prog X.w) X.A (eval (.Name x pos) X.env) Q E s:=
 Calls.Name_function_global I.ok.kind hg (Calls.loadGlobal_global (by rw[I.ok.glob];exact I.mod.glob.keeps I.bk) hm h) hd
theorem Zba{E:Value->Shared->Prop}{pins:List (Addr×Obj)}{s:Shared}{σ:St}{H:Hp}{x:Str}{u:Value}{pos:Pos}{Q:Value->Shared->Prop}(I:Inv X pins σ H s)(hg:Gl X x)(hm:X.mg x=none)(hv:bootBuiltins x=some u)(h:Q u s)(hn:x≠"__name__":=by decide)(hd:(x==("__debug__" : Str))=false:=by decide):wpAny (model X.prog X.w) X.A (eval (.Name x pos) X.env) Q E s:=by
 obtain⟨mb,h1,h2⟩:=I.mod.blt
 exact Calls.Name_function_global I.ok.kind hg (Calls.loadGlobal_builtin (by rw[I.ok.glob];exact I.mod.glob.keeps I.bk) hm (by rw[I.ok.blt];exact h1.keeps I.bk) ((h2 x hn).trans hv) h) hd
theorem Zjk{x:Str}{v:V}{u:Value}{pos:Pos}(hg:Gl X x)(hm:X.mg x=some u)(r:RelV v u)(hd:(x==("__debug__" : Str))=false:=by decide):PE X (.Name x pos) (tC v):=
 λ_ _ _ H _ I h=>Zf5 I hg hm ⟨v,H,I,r,h⟩ hd
theorem Zjq{x:Str}{v:V}{u:Value}{pos:Pos}(hg:Gl X x)(hm:X.mg x=none)(hv:bootBuiltins x=some u)(r:RelV v u)(hn:x≠"__name__":=by decide)(hd:(x==("__debug__" : Str))=false:=by decide):PE X (.Name x pos) (tC v):=
 λ_ _ _ H _ I h=>Zba I hg hm hv ⟨v,H,I,r,h⟩ hn hd
variable{a b:Expr}{ta tb:TE}{pos:Pos}
variable{tA tB':TT}{rest:List Expr}
noncomputable def tAnd(t u:TT):TT:=λσ H Q=>t σ H λc H1=>if c=true then u σ H1 Q else Q false H1
noncomputable def tOr(t u:TT):TT:=λσ H Q=>t σ H λc H1=>if c=true then Q true H1 else u σ H1 Q
noncomputable def tNot(t:TT):TT:=λσ H Q=>t σ H λc H1=>Q (!c) H1
theorem Zfu(ha:PT X a tA):PW X (.BoolOp .And [a] pos) tA:=by
 intro wh pins s σ H Q I h
 refine isTrue_and (thn (ha pins s σ H Q I h) λc s1 e=>?_)
 cases c with
 |true=>exact isTrue_and_nil e
 |false=>exact e
theorem Zid(ha:PT X a tA):PW X (.BoolOp .Or [a] pos) tA:=by
 intro wh pins s σ H Q I h
 refine isTrue_or (thn (ha pins s σ H Q I h) λc s1 e=>?_)
 cases c with
 |false=>exact isTrue_or_nil e
 |true=>exact e
theorem pw_and(ha:PT X a tA)(hb:PW X (.BoolOp .And (b::rest) pos) tB'):PW X (.BoolOp .And (a::b::rest) pos) (tAnd tA tB'):=by
 intro wh pins s σ H Q I h
 refine isTrue_and (thn (ha pins s σ H _ I h) λc s1 ⟨H1,I1,q1⟩=>?_)
 cases c with
 |true=>exact hb wh pins s1 σ H1 Q I1 q1
 |false=>exact⟨H1,I1,q1⟩
theorem pw_or(ha:PT X a tA)(hb:PW X (.BoolOp .Or (b::rest) pos) tB'):PW X (.BoolOp .Or (a::b::rest) pos) (tOr tA tB'):=by
 intro wh pins s σ H Q I h
 refine isTrue_or (thn (ha pins s σ H _ I h) λc s1 ⟨H1,I1,q1⟩=>?_)
 cases c with
 |true=>exact⟨H1,I1,q1⟩
 |false=>exact hb wh pins s1 σ H1 Q I1 q1
theorem pt_not(ha:PT X a tA):PT X (.UnaryOp .Not a pos) (tNot tA):=by
 intro pins s σ H Q I h
 exact isTrue_not (ha pins s σ H (λc H1=>Q (!c) H1) I h)
noncomputable def tAndV(ta tb:TE):TE:=λσ H Q=>ta σ H λx H1=>∃c,x=.bl c/\if c=true then tb σ H1 Q else Q (.bl false) H1
theorem pe_one{op}{t:TE}(h:PE X a t):PE X (.BoolOp op [a] pos) t:=λpins s σ H Q I hw=>BoolOp_one (h pins s σ H Q I hw)
theorem pe_and(ha:PE X a ta)(hb:PE X (.BoolOp .And (b::rest) pos) tb):PE X (.BoolOp .And (a::b::rest) pos) (tAndV ta tb):=by
 intro pins s σ H Q I h
 refine BoolOp_and (thn (ha pins s σ H _ I h) λv s1 ⟨x,H1,I1,r1,q1⟩=>?_)
 obtain⟨c,rfl,q1⟩:=q1
 cases r1
 refine wpAny_truthy_bool ?_
 cases c with
 |true=>exact hb pins s1 σ H1 Q I1 q1
 |false=>exact⟨.bl false,H1,I1,rfl,q1⟩
end
noncomputable def SqL(K:Frag)(H:Hp)(a:Addr)(xs:List V):Prop:=
 Rd H a (.lst xs) ∨
  ∃(o:Obj) (its:Array Value) (n:Nat),K.lookup a=some o/\o.cls=.type "list"/\o.dict=none/\o.data=.seq its n/\its.size<=sizeLine/\Vals xs its.toList
noncomputable def SqT(K:Frag)(H:Hp)(a:Addr)(xs:List V):Prop:=
 Rd H a (.tup xs) ∨
  ∃(o:Obj) (its:Array Value) (n:Nat),K.lookup a=some o/\o.cls=.type "tuple"/\o.data=.seq its n/\its.size<=sizeLine/\Vals xs its.toList/\o.dict=none
noncomputable def absV:Value->Option V
 |.none=>some .non
 |.bool b=>some (.bl b)
 |.int i _=>some (.int i)
 |.str x _=>some (.str x)
 |.bytes b _=>some (.byt b)
 |.float b _=>some (.flt b)
 |.ref a=>some (.ref a)
 |.type n=>some (.ty n)
 |_=>none
theorem RelV.abs{x:V}{u:Value}(r:RelV x u):absV u=some x:=by
 cases x with
 |non=>cases r;rfl
 |bl _=>cases r;rfl
 |int _=>obtain⟨t,rfl⟩:=r;rfl
 |str _=>obtain⟨t,rfl⟩:=r;rfl
 |byt _=>obtain⟨t,rfl⟩:=r;rfl
 |flt _=>obtain⟨t,rfl⟩:=r;rfl
 |ref _=>cases r;rfl
 |ty _=>cases r;rfl
theorem RelV.inj{x y:V}{u:Value}(r:RelV x u)(q:RelV y u):x=y:=Option.some.inj (r.abs.symm.trans q.abs)
theorem Vals.inj:∀{xs ys:List V}{us:List Value},Vals xs us->Vals ys us->xs=ys
 |_,_,_,.nil,.nil=>rfl
 |_,_,_,.cons r t,.cons r' t'=>by rw[r.inj r',Vals.inj t t']
section
variable{X:Cx}{pins:List (Addr×Obj)}{σ:St}{H:Hp}{s:Shared}{a:Addr}{xs ys:List V}
theorem SqL.of{K:Frag}(h:H a=some (.lst xs)):SqL K H a xs:=.inl (.inl h)
theorem SqT.of{K:Frag}(h:H a=some (.tup xs)):SqT K H a xs:=.inl (.inl h)
theorem Inv.list(I:Inv X pins σ H s)(h:SqL X.K H a xs):∃its:List Value,Vals xs its/\PlainL s.heap a its.toArray/\xs.length<=sizeLine:=by
 rcases h with h|⟨o,its,n,hk,hc,hd,hs,hz,r⟩
 ·obtain⟨z,its,n,r,e⟩:=h.ok I.hok
  exact⟨its,r,⟨_,n,e,rfl,rfl,rfl⟩,z⟩
 ·refine⟨its.toList,r,⟨o,n,I.kIn a o hk,hc,hd,by simpa using hs⟩,?_⟩
  have e:=r.length
  simp only[Array.length_toList]at e
  omega
theorem Inv.tuple(I:Inv X pins σ H s)(h:SqT X.K H a xs):∃its:List Value,Vals xs its/\IsTup s.heap a its.toArray/\xs.length<=sizeLine:=by
 rcases h with h|⟨o,its,n,hk,hc,hs,hz,r,hdn⟩
 ·obtain⟨z,its,r,p⟩:=h.ok I.hok
  exact⟨its,r,p.is,z⟩
 ·refine⟨its.toList,r,⟨o,I.kIn a o hk,hc,n,by simpa using hs⟩,?_⟩
  have e:=r.length
  simp only[Array.length_toList]at e
  omega
theorem Inv.list_inj(I:Inv X pins σ H s)(h:SqL X.K H a xs)(h':SqL X.K H a ys):xs=ys:=by
 obtain⟨its,r,⟨o,n,e,_,_,d⟩,_⟩:=I.list h
 obtain⟨its',r',⟨o',n',e',_,_,d'⟩,_⟩:=I.list h'
 rw[e]at e';cases e'
 rw[d]at d'
 injection d' with d1 _
 have:its=its':=by simpa using congrArg Array.toList d1
 subst this
 exact r.inj r'
theorem Inv.tuple_inj(I:Inv X pins σ H s)(h:SqT X.K H a xs)(h':SqT X.K H a ys):xs=ys:=by
 obtain⟨its,r,⟨o,e,_,n,d⟩,_⟩:=I.tuple h
 obtain⟨its',r',⟨o',e',_,n',d'⟩,_⟩:=I.tuple h'
 rw[e]at e';cases e'
 rw[d]at d'
 injection d' with d1 _
 have:its=its':=by simpa using congrArg Array.toList d1
 subst this
 exact r.inj r'
end
noncomputable abbrev Cx.wish(X:Cx)(E:Value->Shared->Prop):Cx:={ X with xe:=E }
noncomputable abbrev Cx.nox(X:Cx):Cx:=X.wish λ_ _=>False
section
variable{X:Cx}{st:Stmt}{rest:List Stmt}{t u:TS}{e:Expr}{te:TE}{pos:Pos}
noncomputable def tNext:TS:=λD σ H=>D.nx σ H
noncomputable def tSeq(t u:TS):TS:=λD σ H=>t { D with nx:=u D } σ H
theorem Zi2:PSs X [] tNext:=λ_ _ σ H _ I h=>wpAny_execs_nil ⟨σ,H,I,h⟩
theorem Ql(h1:PS X st t)(h2:PSs X rest u):PSs X (st::rest) (tSeq t u):=by
 intro pins s σ H D I h
 refine wpAny_execs_cons (thn (h1 pins s σ H { D with nx:=u D } I h) λf s1 q=>?_)
 cases f with
 |next =>
  obtain⟨σ',H',I',q⟩:=q
  exact h2 pins s1 σ' H' D I' q
 |ret v=>exact q
 |brk=>exact q
 |cont=>exact q
theorem Inv.quiet{pins:List (Addr×Obj)}{σ:St}{H:Hp}{s:Shared}(I:Inv X pins σ H s):interactive X.env=false:=by simp[interactive,I.ok.kind]
noncomputable def tDrop(te:TE):TS:=λD σ H=>te σ H λ_ H1=>D.nx σ H1
theorem Zi4(he:PE X e te)(hs:swapsWith e none pos.line X.env=pure false:=by rfl):PS X (.Expr e pos) (tDrop te):=by
 intro pins s σ H D I h
 exact wpAny_Expr_any (thn (he pins s σ H _ I h) λv s1 ⟨x,H1,I1,r1,q1⟩=>⟨σ,H1,I1,q1⟩) I.quiet hs
noncomputable def tRet(te:TE):TS:=λD σ H=>te σ H D.rt
theorem ps_ret(he:PE X e te):PS X (.Return (some e) pos) (tRet te):=by
 intro pins s σ H D I h
 exact wpAny_Return_some (thn (he pins s σ H _ I h) λv s1 ⟨x,H1,I1,r1,q1⟩=>⟨x,σ,H1,I1,r1,q1⟩)
noncomputable def tIfS(c:TT)(t u:TS):TS:=λD σ H=>c σ H λb H1=>if b=true then t D σ H1 else u D σ H1
theorem ps_if{c:Expr}{a b:List Stmt}{tc:TT}(hc:PT X c tc)(ha:PSs X a t)(hb:PSs X b u):PS X (.If c a b pos) (tIfS tc t u):=by
 intro pins s σ H D I h
 refine wpAny_If (thn (hc pins s σ H _ I h) λd s1 ⟨H1,I1,q1⟩=>?_)
 cases d with
 |true=>exact ha pins s1 σ H1 D I1 q1
 |false=>exact hb pins s1 σ H1 D I1 q1
noncomputable def tNever:TS:=λ_ _ _=>False
theorem Zfw{sts:List Stmt}:PSs X sts tNever:=λ_ _ _ _ _ _ h=>h.elim
end
noncomputable abbrev TG:=V->St->Hp->(St->Hp->Prop)->Prop
noncomputable abbrev TGs:=List V->St->Hp->(St->Hp->Prop)->Prop
noncomputable def PG(X:Cx)(target:Expr)(t:TG):Prop:=
 ∀(pins:List (Addr×Obj)) (s:Shared) (σ:St) (H:Hp) (v:V) (u:Value) (Q:St->Hp->Prop),Inv X pins σ H s->RelV v u->t v σ H Q ->
  wpAny (model X.prog X.w) X.A (assign target X.env u) (λ_ s'=>∃σ' H',Inv X pins σ' H' s'/\Q σ' H') X.xe s
noncomputable def PGs(X:Cx)(ts:List Expr)(t:TGs):Prop:=
 ∀(pins:List (Addr×Obj)) (s:Shared) (σ:St) (H:Hp) (vs:List V) (us:List Value) (Q:St->Hp->Prop),Inv X pins σ H s->Vals vs us->t vs σ H Q ->
  wpAny (model X.prog X.w) X.A (assignInOrder ((assignEach ts X.env).map (·.2)) us) (λ_ s'=>∃σ' H',Inv X pins σ' H' s'/\Q σ' H') X.xe s
noncomputable abbrev TSet:=V->V->V->Hp->(Hp->Prop)->Prop
noncomputable def PSet(X:Cx)(t:TSet):Prop:=
 ∀(pins:List (Addr×Obj)) (s:Shared) (σ:St) (H:Hp) (o i v:V) (ov iv u:Value) (Q:Hp->Prop),Inv X pins σ H s->RelV o ov->RelV i iv->RelV v u->t o i v H Q ->
  wpAny (model X.prog X.w) X.A (setItem ov iv u) (λ_ s'=>∃H',Inv X pins σ H' s'/\Q H') X.xe s
section
variable{X:Cx}{pos:Pos}
noncomputable def ZjW(i:Nat):TG:=λv σ H Q=>Q (σ.set i (some v)) H
theorem QZ{i:Nat}{x:Str}(hN:X.N.Nodup)(hi:X.N[i]?=some x)(hx:Loc X.env.scope x)(hf:X.fn x=true∨X.env.scope.names.lookup x=some .local:=by first|exact .inl rfl|exact .inr rfl|assumption):PG X (.Name x pos) (ZjW i):=by
 intro pins s σ H v u Q I r h
 exact wpAny_assign_Name (ZdB I hN hi hx r (λs' I'=>⟨_,H,I',h⟩) hf)
noncomputable def gNil:TGs:=λvs σ H Q=>vs=[]/\Q σ H
noncomputable def gCons(t:TG)(u:TGs):TGs:=λvs σ H Q=>∃v r,vs=v::r/\t v σ H λσ' H'=>u r σ' H' Q
theorem ZcX:PGs X [] gNil:=by
 intro pins s σ H vs us Q I r h
 obtain⟨e,h⟩:=h
 subst e
 cases r
 exact assignInOrder_nil ⟨σ,H,I,h⟩
theorem QB{e:Expr}{es:List Expr}{t:TG}{u:TGs}(h1:PG X e t)(h2:PGs X es u)(hs:(assignEach (e::es) X.env).map (·.2)=assign e X.env::(assignEach es X.env).map (·.2):=by rfl):PGs X (e::es) (gCons t u):=by
 intro pins s σ H vs us Q I r h
 obtain⟨v,vr,e1,h⟩:=h
 subst e1
 cases r with
 |cons r rr =>
  rw[hs]
  refine assignInOrder_cons (thn (h1 pins s σ H _ _ _ I r h) λ_ s1 ⟨σ1,H1,I1,q1⟩=>?_)
  exact h2 pins s1 σ1 H1 _ _ Q I1 rr q1
noncomputable def gTup(K:Frag)(n:Nat)(t:TGs):TG:=λv σ H Q=>∃a xs,v=.ref a/\SqT K H a xs/\xs.length=n/\t xs σ H Q
theorem Zii{es:List Expr}{k:Nat}{t:TGs}{n:Nat}(hc:X.calm=true)(h:PGs X es t)(hn:(assignEach es X.env).length=n:=by rfl)(hst:(assignEach es X.env).findIdx? (·.1)=none:=by rfl):PG X (.Tuple es k pos) (gTup X.K n t):=by
 intro pins s σ H v u Q I r hw
 obtain⟨a,xs,e1,hq,hl,hw⟩:=hw
 subst e1
 cases r
 obtain⟨its,rv,ht,hz⟩:=I.tuple hq
 refine assign_Tuple_tuple (I.ok.hd hc) ht (by simp[hn,<-hl,rv.length]) hst λh' hx=>?_
 have I1:Inv X pins σ H { s with heap:=h' }:=I.kept (t':=s.toks) λb o e=>hx b o (Nat.ne_of_lt (Heap.lt_size e)) e
 exact h pins _ σ H xs _ Q I1 (by simpa using rv) hw
noncomputable def gSub(to ti:TE)(t:TSet):TG:=λv σ H Q=>to σ H λo H1=>ti σ H1 λi H2=>t o i v H2 λH3=>Q σ H3
theorem pg_sub{o i:Expr}{to ti:TE}{t:TSet}(ho:PE X o to)(hi:PE X i ti)(hs:PSet X t)(ha:∀v,assign (.Subscript o i pos) X.env v=(do
  let ov <-holding [v] (eval o X.env)
  let iv <-holding [v,ov] (eval i X.env)
  standAt pos
  holding [v,ov,iv] (setItem ov iv v)
  release [v,ov,iv] []):=by intro _;rfl):PG X (.Subscript o i pos) (gSub to ti t):=by
 intro pins s σ H v u Q I r h
 rw[ha]
 refine wpAny_bind (wpAny_holding (thn (ho pins s σ H _ I h) λov s1 ⟨x,H1,I1,r1,q1⟩=>?_))
 refine wpAny_bind (wpAny_holding (thn (hi pins s1 σ H1 _ I1 q1) λiv s2 ⟨y,H2,I2,r2,q2⟩=>?_))
 refine wpAny_bind (wpAny_standAt (wpAny_bind (wpAny_holding (thn (hs pins s2 σ H2 x y v ov iv u _ I2 r1 r2 r q2) λ_ s3 ⟨H3,I3,q3⟩=>?_))))
 exact wpAny_release ⟨σ,H3,I3,q3⟩
noncomputable def tAsg(te:TE)(g:TG):TS:=λD σ H=>te σ H λx H1=>g x σ H1 D.nx
theorem Zig{tg e:Expr}{te:TE}{g:TG}(he:PE X e te)(hg:PG X tg g)(hs:swapsWithSole [tg] e pos.line X.env=pure false:=by rfl)(hw:swappedStores [tg] e X.env=pure none:=by rfl)(h1:(assignEach [tg] X.env).map (·.2)=[assign tg X.env]:=by rfl):PS X (.Assign [tg] e pos) (tAsg te g):=by
 intro pins s σ H D I h
 refine wpAny_Assign_stores (thn (he pins s σ H _ I h) λv s1 ⟨x,H1,I1,r1,q1⟩=>?_) hs hw
 rw[h1]
 exact thn (hg pins s1 σ H1 x v _ I1 r1 q1) λ_ s2 q=>q
theorem ps_set{i:Nat}{x:Str}{e:Expr}{te:TE}{pos':Pos}(hN:X.N.Nodup)(hi:X.N[i]?=some x)(hx:Loc X.env.scope x)(he:PE X e te)(hs:swapsWith e (some (.Name x pos')) pos.line X.env=pure false:=by rfl)(hf:X.fn x=true∨X.env.scope.names.lookup x=some .local:=by first|exact .inl rfl|exact .inr rfl|assumption):
  PS X (.Assign [.Name x pos'] e pos) (tAsg te (ZjW i)):=by
 intro pins s σ H D I h
 refine wpAny_Assign_Name (thn (he pins s σ H _ I h) λv s1 ⟨y,H1,I1,r1,q1⟩=>?_) hs
 exact ZdB I1 hN hi hx r1 (λs2 I2=>⟨_,H1,I2,q1⟩) hf
noncomputable def tWhile(c:TT)(tb:TS):TS:=λD σ H=>∃W:Nat->St->Hp->Prop,(∃m,W m σ H)/\∀m σ H,W m σ H ->
 c σ H λb H1=>if b=true then ∃N:St->Hp->Prop,(∀σ' H',N σ' H'->∃m',m'<m/\W m' σ' H')/\tb { D with nx:=N,ct:=N,bk:=D.nx } σ H1 else D.nx σ H1
theorem Zhb{c:Expr}{body:List Stmt}{tc:TT}{tb:TS}(hp:PassesOwn (model X.prog X.w) X.A X.env X.xe)(hc:PT X c tc)(hb:PSs X body tb):PS X (.While c body [] pos) (tWhile tc tb):=by
 intro pins s σ H D I h
 obtain⟨W,⟨m0,w0⟩,turn⟩:=h
 refine wpAny_While (codeAny_whileLoop (λn s'=>∃σ' H',Inv X pins σ' H' s'/\W n σ' H') ?_ m0 ⟨σ,H,I,w0⟩)
 rintro n s1 ⟨σ1,H1,I1,w1⟩
 refine wpAny_passesOwn hp (thn (hc pins s1 σ1 H1 _ I1 (turn n σ1 H1 w1)) λb s2 ⟨H2,I2,q2⟩=>?_)
 cases b with
 |true =>
  obtain⟨N,hN,q2⟩:=q2
  rw[if_pos rfl]
  refine wpAny_passesOwn hp (thn (hb pins s2 σ1 H2 _ I2 q2) λf s3 q3=>?_)
  cases f with
  |next =>
   obtain⟨σ3,H3,I3,n3⟩:=q3
   obtain⟨m',hm,w3⟩:=hN σ3 H3 n3
   exact⟨m',hm,σ3,H3,I3,w3⟩
  |cont =>
   obtain⟨σ3,H3,I3,n3⟩:=q3
   obtain⟨m',hm,w3⟩:=hN σ3 H3 n3
   exact⟨m',hm,σ3,H3,I3,w3⟩
  |brk=>exact q3
  |ret v=>exact q3
 |false =>
  rw[if_neg Bool.false_ne_true]
  exact wpAny_execs_nil ⟨σ1,H2,I2,q2⟩
end
structure It where
 go:Nat->Hp->Prop
 yld:Nat->Hp->V->Hp->Prop
 stop:Nat->Hp->Prop
noncomputable def FpOk(X:Cx)(pins:List (Addr×Obj))(H:Hp)(b:Addr):Prop:=
 H b=none/\b≠X.env.locals/\b∉X.fs/\(b∈X.ex∨X.s₀.heap.objs.size<=b)/\(∀x c,X.env.cells.lookup x=some c->c≠b)/\∀p∈X.pn++pins,p.1≠b
theorem Inv.fpOk{X:Cx}{pins:List (Addr×Obj)}{σ:St}{H H':Hp}{s:Shared}{b:Addr}(I:Inv X pins σ H s)(hb:s.heap.objs.size<=b)(hn:H' b=none):FpOk X pins H' b:=by
 refine⟨hn,Nat.ne_of_gt (Nat.lt_of_lt_of_le I.lt hb),I.nofs hb,.inr (Nat.le_trans I.sz hb),λx c e z=>?_,λp hp z=>?_⟩
 ·obtain⟨v,q⟩:=I.cell x c e
  exact absurd (Nat.lt_of_lt_of_le q.lt (by rw[z];exact hb)) (Nat.lt_irrefl _)
 ·exact absurd (Nat.lt_of_lt_of_le (Heap.lt_size (I.pin p hp).1) (by rw[z];exact hb)) (Nat.lt_irrefl _)
structure Turn (P:Program) (w:World) (K:Frag) (tg:Expr) (J:It) (fp:List Addr) (it:Addr) (tn:Nat->Heap->Prop):Prop where
 mem:it∈fp
 obj:∀i h,tn i h->∀b∈fp,∃o,h.get? b=some o/\∀v,o.data≠.cell v
 keep:∀i h h',tn i h->(∀b∈fp,∀o,h.get? b=some o->h'.get? b=some o)->tn i h'
 item:∀(X:Cx),X.prog=P->X.w=w->X.K=K->X.calm=true->∀(i:Nat) (pins:List (Addr×Obj)) (s:Shared) (σ:St) (H:Hp) (E:Value->Shared->Prop),Inv X pins σ H s->(∀b∈fp,FpOk X pins H b)->tn i s.heap->J.go i H ->
  wpAny (model P w) X.A (pyNext (.ref it)) (λr s1=>∃u,r=some u /\
   wpAny (model P w) X.A (letOwnedTupleGo tg (.ref it) u) (λ_ s2=>∃x H',Inv X pins σ H' s2/\RelV x u/\J.yld i H x H'/\tn (i+1) s2.heap/\∀b∈fp,H' b=none) E s1) E s
 done:∀(X:Cx),X.prog=P->X.w=w->X.K=K->X.calm=true->∀(i:Nat) (pins:List (Addr×Obj)) (s:Shared) (σ:St) (H:Hp) (E:Value->Shared->Prop),Inv X pins σ H s->(∀b∈fp,FpOk X pins H b)->tn i s.heap->J.stop i H ->
  wpAny (model P w) X.A (pyNext (.ref it)) (λr s1=>r=none/\Inv X pins σ H s1) E s
 self:∀(A:Around) (i:Nat) (s:Shared) (Q:Value->Shared->Prop) (E:Value->Shared->Prop),tn i s.heap->Q (.ref it) s->wpAny (model P w) A (pyIter (.ref it)) Q E s
noncomputable abbrev TI:=St->Hp->(It->Hp->Prop)->Prop
noncomputable def PIE(X:Cx)(pins:List (Addr×Obj))(σ:St)(tg:Expr)(R:It->Hp->Prop)(itv:Value)(s2:Shared):Prop:=
 ∃(it:Addr) (fp:List Addr) (tn:Nat->Heap->Prop) (J:It) (H':Hp),itv=.ref it/\Inv X pins σ H' s2/\Turn X.prog X.w X.K tg J fp it tn/\tn 0 s2.heap/\(∀b∈fp,FpOk X pins H' b)/\R J H'
noncomputable def PI(X:Cx)(tg iter:Expr)(wi:TI):Prop:=
 ∀(pins:List (Addr×Obj)) (s:Shared) (σ:St) (H:Hp) (R:It->Hp->Prop),Inv X pins σ H s->wi σ H R ->
  wpAny (model X.prog X.w) X.A (eval iter X.env) (λv s1=>wpAny (model X.prog X.w) X.A (pyIter v) (PIE X pins σ tg R) X.xe s1) X.xe s
theorem ZhJ{M:Model}{A:Around}{E:Value->Shared->Prop}{s:Shared}{tg:Expr}{it:Addr}{u:Value}{o:Obj}{n:String}{vs:Array Value}{Q:Unit->Shared->Prop}(ho:s.heap.get? it=some o)(hc:o.cls=.type n)(hd:o.data=.fields vs)(hn:["enumerate","zip","dict_itemiterator","dict_reverseitemiterator","odict_iterator","itertools.zip_longest","itertools.pairwise"].contains n=false)(hQ:Q () s):wpAny M A (letOwnedTupleGo tg (.ref it) u) Q E s:=by
 unfold letOwnedTupleGo
 cases tg<;>first
  |exact wpAny_pure hQ
  |(cases u<;>first
   |exact wpAny_pure hQ
   |(
    refine wpAny_bind (wpAny_load ho ?_)
    rw[hc,hd]
    show wpAny M A (if(["enumerate","zip","dict_itemiterator","dict_reverseitemiterator","odict_iterator","itertools.zip_longest","itertools.pairwise"].contains n&&vs[0]?==some (rawInt _))=true then _ else _) Q E s
    rw[if_neg (by intro h;rw[hn,Bool.false_and]at h;cases h)]
    exact wpAny_pure hQ))
noncomputable def Itl(K:Frag)(a:Addr):It:=
 ⟨λi H=>∃xs x,SqL K H a xs/\xs[i]?=some x,λi H x H'=>H'=H/\∀xs,SqL K H a xs->xs[i]?=some x,λi H=>∃xs,SqL K H a xs/\xs.length<=i⟩
noncomputable def Itt(K:Frag)(a:Addr):It:=
 ⟨λi H=>∃xs x,SqT K H a xs/\xs[i]?=some x,λi H x H'=>H'=H/\∀xs,SqT K H a xs->xs[i]?=some x,λi H=>∃xs,SqT K H a xs/\xs.length<=i⟩
noncomputable def Itr(lo:Int)(n:Nat):It:=⟨λi _=>i<n,λi H x H'=>H'=H/\x=.int (lo+i),λi _=>n<=i⟩
theorem Ze1{P:Program}{w:World}{K:Frag}{tg:Expr}(a it:Addr):Turn P w K tg (Itl K a) [it] it (λi h=>h.IsListIter it a i) where
 mem:=by simp
 obj:=λi h st b hb=>by
  have e:b=it:=by simpa using hb
  subst e
  obtain⟨o,e,c,d⟩:=st
  exact⟨o,e,λv z=>by rw[d]at z;cases z⟩
 keep:=λi h h' st k=>st.at λo e=>k it (by simp) o e
 item:=by
  intro X hP hw hK hc i pins s σ H E I hf st hg
  subst hP hw hK
  obtain⟨xs,x,hq,hx⟩:=hg
  obtain⟨its,rv,p,hz⟩:=I.list hq
  obtain⟨u,hu,ru⟩:=rv.get hx
  obtain⟨f0,f1,f2,f3,f4,f5⟩:=hf it (by simp)
  refine wpAny_pyNext_list_item st p.isList (x:=u) (by simpa using hu) λh' st' sb=>?_
  have I1:Inv X pins σ H { s with heap:=h' }:=I.turned (t':=s.toks) (λb o hb e=>(sb.2 b hb).trans e) f0 f1 f3 f4 f5
  obtain⟨o,e,c,d⟩:=id st'
  exact⟨u,rfl,ZhJ (s:={ s with heap:=h' }) e c d (by decide) ⟨x,H,I1,ru,⟨rfl,λys hy=>by rw[I.list_inj hy hq];exact hx⟩,st',λb hb=>(hf b hb).1⟩⟩
 done:=by
  intro X hP hw hK hc i pins s σ H E I hf st hg
  subst hP hw hK
  obtain⟨xs,hq,hx⟩:=hg
  obtain⟨its,rv,p,hz⟩:=I.list hq
  obtain⟨f0,f1,f2,f3,f4,f5⟩:=hf it (by simp)
  have hl:=rv.length
  exact wpAny_pyNext_list_end (I.ok.hd hc) st p.isList (by simp;omega) λh' eb=>⟨rfl,I.turned (t':=s.toks) (λb o hb e=>eb b o hb e) f0 f1 f3 f4 f5⟩
 self:=λ_ _ _ _ _ st h=>wpAny_pyIter_listiter st h
theorem Zd1{P:Program}{w:World}{K:Frag}{tg:Expr}(a it:Addr):Turn P w K tg (Itt K a) [it] it (λi h=>h.IsTupleIter it a i) where
 mem:=by simp
 obj:=λi h st b hb=>by
  have e:b=it:=by simpa using hb
  subst e
  obtain⟨o,e,c,d⟩:=st
  exact⟨o,e,λv z=>by rw[d]at z;cases z⟩
 keep:=λi h h' st k=>st.at λo e=>k it (by simp) o e
 item:=by
  intro X hP hw hK hc i pins s σ H E I hf st hg
  subst hP hw hK
  obtain⟨xs,x,hq,hx⟩:=hg
  obtain⟨its,rv,p,hz⟩:=I.tuple hq
  obtain⟨u,hu,ru⟩:=rv.get hx
  obtain⟨f0,f1,f2,f3,f4,f5⟩:=hf it (by simp)
  refine wpAny_pyNext_tuple_item st (show s.heap.IsTuple a its.toArray from p) (x:=u) (by simpa using hu) λh' st' sb=>?_
  have I1:Inv X pins σ H { s with heap:=h' }:=I.turned (t':=s.toks) (λb o hb e=>(sb.2 b hb).trans e) f0 f1 f3 f4 f5
  obtain⟨o,e,c,d⟩:=id st'
  exact⟨u,rfl,ZhJ (s:={ s with heap:=h' }) e c d (by decide) ⟨x,H,I1,ru,⟨rfl,λys hy=>by rw[I.tuple_inj hy hq];exact hx⟩,st',λb hb=>(hf b hb).1⟩⟩
 done:=by
  intro X hP hw hK hc i pins s σ H E I hf st hg
  subst hP hw hK
  obtain⟨xs,hq,hx⟩:=hg
  obtain⟨its,rv,p,hz⟩:=I.tuple hq
  obtain⟨f0,f1,f2,f3,f4,f5⟩:=hf it (by simp)
  have hl:=rv.length
  exact wpAny_pyNext_tuple_end (I.ok.hd hc) st (show s.heap.IsTuple a its.toArray from p) (by simp;omega) λh' eb=>⟨rfl,I.turned (t':=s.toks) (λb o hb e=>eb b o hb e) f0 f1 f3 f4 f5⟩
 self:=λ_ _ _ _ _ st h=>wpAny_pyIter_tupleiter st h
theorem Zd2{P:Program}{w:World}{K:Frag}{tg:Expr}(it:Addr)(lo:Int)(n:Nat):Turn P w K tg (Itr lo n) [it] it (λi h=>IsRangeIter h it (lo+(i:Nat)*1) ((n:Int)-(i:Nat)) 1) where
 mem:=by simp
 obj:=λi h st b hb=>by
  have e:b=it:=by simpa using hb
  subst e
  exact⟨_,st,λv z=>by
   have z':Data.fields _=Data.cell v:=z
   cases z'⟩
 keep:=λi h h' st k=>k it (by simp) _ st
 item:=by
  intro X hP hw hK hc i pins s σ H E I hf st hg
  subst hP hw hK
  obtain⟨f0,f1,f2,f3,f4,f5⟩:=hf it (by simp)
  have W:=Walks.range (prog:=X.prog) (w:=X.w) (I.ok.hd hc) it lo 1 n
  refine W.item i s _ _ hg st λv h' tk hv st' kk=>?_
  obtain⟨t,rfl⟩:=hv
  have I1:Inv X pins σ H { s with heap:=h',toks:=tk }:=I.turned (λb o hb e=>kk b o (by simpa using hb) e) f0 f1 f3 f4 f5
  refine⟨_,rfl,ZhJ (s:={ s with heap:=h',toks:=tk }) (n:="range_iterator") st' rfl rfl (by decide) ⟨.int (lo+i),H,I1,⟨t,?_⟩,⟨rfl,rfl⟩,st',λb hb=>(hf b hb).1⟩⟩
  rw[Int.mul_one]
 done:=by
  intro X hP hw hK hc i pins s σ H E I hf st hg
  subst hP hw hK
  obtain⟨f0,f1,f2,f3,f4,f5⟩:=hf it (by simp)
  exact wpAny_pyNext_range_end (I.ok.hd hc) st (by have:n<=i:=hg;omega) λh' eb=>⟨rfl,I.turned (t':=s.toks) (λb o hb e=>eb b o hb e) f0 f1 f3 f4 f5⟩
 self:=λ_ _ _ _ _ st h=>wpAny_pyIter_rangeiter st h
section
variable{X:Cx}{tg:Expr}
theorem Zg3{pins:List (Addr×Obj)}{σ:St}{H:Hp}{s:Shared}{R:It->Hp->Prop}{E:Value->Shared->Prop}{lo hi:Int}{t u v:Tok}{tk:Nat}(I:Inv X pins σ H s)(h1:-(2^62)<=lo)(h2:lo<2^62)(h3:-(2^62)<=hi)(h4:hi<2^62)(q:R (Itr lo (hi-lo).toNat) H):wpAny (model X.prog X.w) X.A (pyIter (.ref s.heap.objs.size)) (PIE X pins σ tg R) E { s with heap:=s.heap.push { cls:=.type "range",data:=.fields #[.int lo t,.int hi u,.int 1 v] },toks:=tk }:=by
 refine wpAny_pyIter_range (IsRange.new ..) (small_one h1 h2 h3 h4) ?_
 have I1:Inv X pins σ H { s with heap:=s.heap.push { cls:=.type "range",data:=.fields #[.int lo t,.int hi u,.int 1 v] },toks:=tk }:=I.kept λb o e=>Heap.get?_push_of_some _ e
 refine⟨(s.heap.push { cls:=.type "range",data:=.fields #[.int lo t,.int hi u,.int 1 v] }).objs.size,[(s.heap.push { cls:=.type "range",data:=.fields #[.int lo t,.int hi u,.int 1 v] }).objs.size],_,_,H,rfl,
  I1.kept (t':=tk) λb o e=>Heap.get?_push_of_some _ e,Zd2 _ lo (hi-lo).toNat,?_,λb hb=>?_,q⟩
 ·have e1:lo+((0:Nat):Int)*1=lo:=by simp
  have e2:(((hi-lo).toNat:Nat):Int)-((0:Nat):Int)=Builtin.Range.rangeSize lo hi 1:=by rw[rangeSize_one];split<;>omega
  show IsRangeIter _ _ (lo+((0:Nat):Int)*1) ((((hi-lo).toNat:Nat):Int)-((0:Nat):Int)) 1
  rw[e1,e2]
  exact Heap.get?_push_size _ rfl
 ·have e:b=(s.heap.push { cls:=.type "range",data:=.fields #[.int lo t,.int hi u,.int 1 v] }).objs.size:=by simpa using hb
  subst e
  exact I1.fpOk (Nat.le_refl _) (I1.hok.fresh (Nat.le_refl _))
noncomputable def iRng1(ta:TA):TI:=λσ H R=>ta σ H λvs H1=>∃j:Int,vs=[.int j]/\-(2^62)<=j/\j<2^62/\R (Itr 0 j.toNat) H1
theorem ZfF{a:Expr}{ta:TA}{p pos:Pos}(hg:Gl X "range")(hm:X.mg "range" = none)(ha:PA X [a] ta)(hs:starEach [a] X.env=[(false,eval a X.env)]:=by rfl):PI X tg (.Call (.Name "range" p) [a] [] pos) (iRng1 ta):=by
 intro pins s σ H R I h
 refine Call_ (Zba I hg hm boot_range (PyProof.Rows.callWith_type1 (thn (ha pos pins s σ H _ I h) λus s1 ⟨vs,H1,I1,r1,q1⟩=>?_) hs rfl))
 obtain⟨j,e,q1,q2,q⟩:=q1
 subst e
 cases r1 with
 |cons r rr =>
  cases rr
  obtain⟨t,rfl⟩:=r
  exact call_range_1 (Zg3 I1 (by omega) (by omega) q1 q2 (by simpa using q))
noncomputable def tFor(wi:TI)(g:TG)(tb:TS):TS:=λD σ H=>wi σ H λJ H1=>∃W:Nat->Nat->St->Hp->Prop,(∃m,W 0 m σ H1)/\∀i m σ H,W i m σ H ->
 (J.stop i H/\D.nx σ H)∨(J.go i H/\∃N:St->Hp->Prop,(∀σ' H',N σ' H'->∃m',m'<m/\W (i+1) m' σ' H')/\∀x H',J.yld i H x H'->g x σ H' λσ2 H2=>tb { D with nx:=N,ct:=N,bk:=D.nx } σ2 H2)
noncomputable def Jw(fp:List Addr)(h:Heap):List (Addr×Obj):=fp.filterMap λb=>(h.get? b).map λo=>(b,o)
theorem ZP{fp:List Addr}{h:Heap}{b:Addr}{o:Obj}(hb:b∈fp)(e:h.get? b=some o):(b,o)∈Jw fp h:=List.mem_filterMap.mpr ⟨b,hb,by rw[e];rfl⟩
theorem Zcj{fp:List Addr}{h:Heap}{p:Addr×Obj}(hp:p∈Jw fp h):p.1∈fp/\h.get? p.1=some p.2:=by
 obtain⟨b,hb,e⟩:=List.mem_filterMap.mp hp
 cases q:h.get? b with
 |none=>rw[q]at e;cases e
 |some o =>
  rw[q]at e
  have e':(b,o)=p:=Option.some.inj e
  subst e'
  exact⟨hb,q⟩
theorem Inv.pinned{pins:List (Addr×Obj)}{σ:St}{H:Hp}{s:Shared}{fp:List Addr}(I:Inv X pins σ H s)(hf:∀b∈fp,FpOk X pins H b)(ho:∀b∈fp,∃o,s.heap.get? b=some o/\∀v,o.data≠.cell v):Inv X (pins++Jw fp s.heap) σ H s:=
 I.pins_of λp hp=>(List.mem_append.mp hp).elim (λz=>I.pin p (List.mem_append_right _ z)) λz=>by
  obtain⟨hb,e⟩:=Zcj z
  obtain⟨f0,f1,f2,_⟩:=hf p.1 hb
  obtain⟨o,e',d⟩:=ho p.1 hb
  rw[e]at e';cases e'
  exact⟨e,f0,f1,f2,d⟩
theorem Inv.unpinned{pins pl:List (Addr×Obj)}{σ:St}{H:Hp}{s:Shared}(I:Inv X (pins++pl) σ H s):Inv X pins σ H s:=I.pins_of λp hp=>I.pin p (List.mem_append_right _ (List.mem_append_left _ hp))
theorem ps_for{iter:Expr}{body:List Stmt}{wi:TI}{g:TG}{tb:TS}{pos:Pos}(hp:PassesOwn (model X.prog X.w) X.A X.env X.xe)(hc:X.calm=true)(hi:PI X tg iter wi)(hg:PG X tg g)(hb:PSs X body tb)(hs:∀x,foldedSetIterable iter X.env x=pure x:=by intro _;rfl):PS X (.For tg iter body [] pos) (tFor wi g tb):=by
 intro pins s σ H D I h
 refine wpAny_For (thn (hi pins s σ H _ I h) λv s1 h1=>thn h1 λitv s2 h2=>?_) hs
 obtain⟨it,fp,tn,J,H2,e,I2,T,st2,f2,W,⟨m0,w0⟩,turn⟩:=h2
 subst e
 -- what stays true of the iterator's objects through the loop
 have stat:∀{H':Hp},(∀b∈fp,H' b=none)->∀b∈fp,FpOk X pins H' b:=λhn b hb=>⟨hn b hb,(f2 b hb).2⟩
 refine codeAny_forLoop_any (λn s'=>∃i σ' H',Inv X pins σ' H' s'/\tn i s'.heap/\(∀b∈fp,H' b=none)/\W i n σ' H') ?_ m0 ⟨0,σ,H2,I2,st2,λb hb=>(f2 b hb).1,w0⟩
 rintro n s3 ⟨i,σ3,H3,I3,st3,fr3,w3⟩
 rcases turn i n σ3 H3 w3 with⟨stop,qn⟩|⟨go,N,hN,step⟩
 ·refine wpAny_passesOwn hp (thn (T.done X rfl rfl rfl hc i pins s3 σ3 H3 X.xe I3 (stat fr3) st3 stop) λr s4 ⟨hr,I4⟩=>?_)
  subst hr
  exact wpAny_execs_nil ⟨σ3,H3,I4,qn⟩
 ·refine wpAny_passesOwn hp (thn (T.item X rfl rfl rfl hc i pins s3 σ3 H3 X.xe I3 (stat fr3) st3 go) λr s4 ⟨u,hr,h4⟩=>?_)
  subst hr
  refine wpAny_passesOwn hp (thn h4 λ_ s5 ⟨x,H5,I5,r5,y5,st5,fr5⟩=>?_)
  have I5':=I5.pinned (stat fr5) (T.obj _ _ st5)
  refine wpAny_passesOwn hp (thn (hg _ s5 σ3 H5 x u _ I5' r5 (step x H5 y5)) λ_ s6 ⟨σ6,H6,I6,q6⟩=>?_)
  refine wpAny_passesOwn hp (thn (hb _ s6 σ6 H6 _ I6 q6) λf s7 q7=>?_)
  have again:∀{σ7:St}{H7:Hp},Inv X (pins++Jw fp s5.heap) σ7 H7 s7->N σ7 H7->∃m,m<n/\∃i σ' H',Inv X pins σ' H' s7/\tn i s7.heap/\(∀b∈fp,H' b=none)/\W i m σ' H':=λ{σ7 H7} I7 n7=>by
   obtain⟨m',hm,w7⟩:=hN σ7 H7 n7
   refine⟨m',hm,i+1,σ7,H7,I7.unpinned,T.keep _ _ _ st5 λb hb o e=>(I7.pin (b,o) (List.mem_append_right _ (List.mem_append_right _ (ZP hb e)))).1,λb hb=>?_,w7⟩
   obtain⟨o,e,d⟩:=T.obj _ _ st5 b hb
   exact(I7.pin (b,o) (List.mem_append_right _ (List.mem_append_right _ (ZP hb e)))).2.1
  cases f with
  |next=>obtain⟨σ7,H7,I7,n7⟩:=q7;exact again I7 n7
  |cont=>obtain⟨σ7,H7,I7,n7⟩:=q7;exact again I7 n7
  |brk=>obtain⟨σ7,H7,I7,q7⟩:=q7;exact⟨σ7,H7,I7.unpinned,q7⟩
  |ret v=>obtain⟨x7,σ7,H7,I7,r7,q7⟩:=q7;exact⟨x7,σ7,H7,I7.unpinned,r7,q7⟩
end
noncomputable abbrev R2:=V->V->Hp->VK->Prop
noncomputable def OpR(X:Cx)(f:Value->Value->Sem Value)(r:R2):Prop:=
 ∀(pins:List (Addr×Obj)) (s:Shared) (σ:St) (H:Hp) (x y:V) (v u:Value) (Q:VK),Inv X pins σ H s->RelV x v->RelV y u->r x y H Q ->
  wpAny (model X.prog X.w) X.A (f v u) (EP X pins σ Q) X.xe s
noncomputable def UnR(X:Cx)(f:Value->Sem Value)(r:V->Hp->VK->Prop):Prop:=
 ∀(pins:List (Addr×Obj)) (s:Shared) (σ:St) (H:Hp) (x:V) (v:Value) (Q:VK),Inv X pins σ H s->RelV x v->r x H Q ->
  wpAny (model X.prog X.w) X.A (f v) (EP X pins σ Q) X.xe s
noncomputable def Jv(X:Cx)(f:Value)(r:List V->Hp->VK->Prop):Prop:=
 ∀(pins:List (Addr×Obj)) (s:Shared) (σ:St) (H:Hp) (xs:List V) (us:List Value) (Q:VK),Inv X pins σ H s->Vals xs us->r xs H Q ->
  wpAny (model X.prog X.w) X.A (call f us) (EP X pins σ Q) X.xe s
noncomputable def TruR(X:Cx)(r:V->Hp->(Bool->Hp->Prop)->Prop):Prop:=
 ∀(pins:List (Addr×Obj)) (s:Shared) (σ:St) (H:Hp) (x:V) (v:Value) (Q:Bool->Hp->Prop),Inv X pins σ H s->RelV x v->r x H Q ->
  wpAny (model X.prog X.w) X.A (truthy v) (TP X pins σ Q) X.xe s
noncomputable def tOp(r:R2)(ta tb:TE):TE:=λσ H Q=>ta σ H λx H1=>tb σ H1 λy H2=>r x y H2 Q
noncomputable def tUn(r:V->Hp->VK->Prop)(ta:TE):TE:=λσ H Q=>ta σ H λx H1=>r x H1 Q
noncomputable def rI(C:Int->Int->Prop)(g:Int->Int->V):R2:=λx y H Q=>∃i j,x=.int i/\y=.int j/\C i j/\Q (g i j) H
noncomputable def rI0(g:Int->Int->V):R2:=λx y H Q=>∃i j,x=.int i/\y=.int j/\Q (g i j) H
noncomputable def rU(g:Int->V):V->Hp->VK->Prop:=λx H Q=>∃i,x=.int i/\Q (g i) H
section
variable{X:Cx}{a b c:Expr}{ta tb tc:TE}{pos:Pos}
theorem binT(ha:PE X a ta)(hb:PE X b tb){pins:List (Addr×Obj)}{s:Shared}{σ:St}{H:Hp}{R:V->V->Hp->Prop}(I:Inv X pins σ H s)(h:ta σ H λx H1=>tb σ H1 λy H2=>R x y H2){Q:Value->Shared->Prop}{f:Value->Value->Sem Value}(hf:∀v u s2 x y H2,Inv X pins σ H2 s2->RelV x v->RelV y u->R x y H2->wpAny (model X.prog X.w) X.A (f v u) Q X.xe s2):
  wpAny (model X.prog X.w) X.A (eval a X.env) (λv s₁=>wpAny (model X.prog X.w) X.A (eval b X.env) (λu s₂=>wpAny (model X.prog X.w) X.A (f v u) Q X.xe s₂) X.xe s₁) X.xe s:=by
 refine thn (ha pins s σ H _ I h) λv s1 ⟨x,H1,I1,r1,q1⟩=>?_
 refine thn (hb pins s1 σ H1 _ I1 q1) λu s2 ⟨y,H2,I2,r2,q2⟩=>?_
 exact hf v u s2 x y H2 I2 r1 r2 q2
theorem pe_op{op:Operator}{r:R2}(ho:OpR X (binaryOp op) r)(ha:PE X a ta)(hb:PE X b tb):PE X (.BinOp a op b pos) (tOp r ta tb):=by
 intro pins s σ H Q I h
 exact wpAny_BinOp (binT ha hb I h λv u s2 x y H2 I2 rx ry q=>ho pins s2 σ H2 x y v u Q I2 rx ry q)
theorem pe_un{op:UnaryOp}{r:V->Hp->VK->Prop}(ho:UnR X (unaryOp op) r)(ha:PE X a ta):PE X (.UnaryOp op a pos) (tUn r ta):=by
 intro pins s σ H Q I h
 exact UnaryOp_ (thn (ha pins s σ H _ I h) λv s1 ⟨x,H1,I1,r1,q1⟩=>ho pins s1 σ H1 x v Q I1 r1 q1)
theorem opI{f:Value->Value->Sem Value}{C:Int->Int->Prop}{g:Int->Int->Int}(rule:∀(i j:Int) (t u:Tok) (s:Shared) (Q:Value->Shared->Prop) (E:Value->Shared->Prop),C i j->Q (.int (g i j) s.toks) { s with toks:=s.toks+1 }->wpAny (model X.prog X.w) X.A (f (.int i t) (.int j u)) Q E s):
  OpR X f (rI C λi j=>.int (g i j)):=by
 intro pins s σ H x y v u Q I rx ry h
 obtain⟨i,j,rfl,rfl,hc,q⟩:=h
 obtain⟨t,rfl⟩:=rx
 obtain⟨t',rfl⟩:=ry
 exact rule i j t t' s _ _ hc ⟨.int (g i j),H,I.tok _,⟨_,rfl⟩,q⟩
theorem opI0{f:Value->Value->Sem Value}{g:Int->Int->Int}(rule:∀(i j:Int) (t u:Tok) (s:Shared) (Q:Value->Shared->Prop) (E:Value->Shared->Prop),Q (.int (g i j) s.toks) { s with toks:=s.toks+1 }->wpAny (model X.prog X.w) X.A (f (.int i t) (.int j u)) Q E s):
  OpR X f (rI0 λi j=>.int (g i j)):=by
 intro pins s σ H x y v u Q I rx ry h
 obtain⟨i,j,rfl,rfl,q⟩:=h
 obtain⟨t,rfl⟩:=rx
 obtain⟨t',rfl⟩:=ry
 exact rule i j t t' s _ _ ⟨.int (g i j),H,I.tok _,⟨_,rfl⟩,q⟩
theorem opB0{f:Value->Value->Sem Value}{g:Int->Int->Bool}(rule:∀(i j:Int) (t u:Tok) (s:Shared) (Q:Value->Shared->Prop) (E:Value->Shared->Prop),Q (.bool (g i j)) s->wpAny (model X.prog X.w) X.A (f (.int i t) (.int j u)) Q E s):
  OpR X f (rI0 λi j=>.bl (g i j)):=by
 intro pins s σ H x y v u Q I rx ry h
 obtain⟨i,j,rfl,rfl,q⟩:=h
 obtain⟨t,rfl⟩:=rx
 obtain⟨t',rfl⟩:=ry
 exact rule i j t t' s _ _ ⟨.bl (g i j),H,I,rfl,q⟩
noncomputable def CDiv(i j:Int):Prop:=0<j/\j<1073741824
noncomputable def CPow(i j:Int):Prop:=0<=j/\j<=1000000/\i.natAbs<2^64
noncomputable def CMul(i j:Int):Prop:=(-(2^64)<i/\i<2^64)∨(-(2^64)<j/\j<2^64)
theorem CMul.ok{i j:Int}(h:CMul i j):IntMulOk i j:=by
 rcases h with⟨h1,h2⟩|⟨h1,h2⟩
 ·exact .of_left (intBits_le_64 h1 h2)
 ·exact .of_right (intBits_le_64 h1 h2)
theorem op_add:OpR X (binaryOp .Add) (rI0 λi j=>.int (i+j)):=opI0 λ_ _ _ _ _ _ _ q=>add_int q
theorem op_sub:OpR X (binaryOp .Sub) (rI0 λi j=>.int (i-j)):=opI0 λ_ _ _ _ _ _ _ q=>sub_int q
theorem Zjy:OpR X (binaryOp .FloorDiv) (rI CDiv λi j=>.int (i / j)):=opI λi j _ _ _ _ _ hc q=>by
 have h1:(0:Int)<j:=hc.1
 have h2:j<1073741824:=hc.2
 exact floordiv_int (by omega) (by rw[Int.fdiv_eq_ediv_of_nonneg i (by omega)];exact q) (.inl (PyProof.noPylong_small (by omega)))
theorem op_mod:OpR X (binaryOp .Mod) (rI (λ_ j=>0<j) λi j=>.int (i%j)):=opI λi j _ _ _ _ _ hc q=>by
 have h1:(0:Int)<j:=hc
 exact mod_int' (by omega) (by rw[Int.fmod_eq_emod_of_nonneg i (by omega)];exact q)
theorem op_pow:OpR X (binaryOp .Pow) (rI CPow λi j=>.int (i^j.toNat)):=opI λ_ _ _ _ _ _ _ hc q=>pow_int_small hc.1 hc.2.1 hc.2.2 q
theorem unI{f:Value->Sem Value}{g:Int->Int}(rule:∀(i:Int) (t:Tok) (s:Shared) (Q:Value->Shared->Prop) (E:Value->Shared->Prop),Q (.int (g i) s.toks) { s with toks:=s.toks+1 }->wpAny (model X.prog X.w) X.A (f (.int i t)) Q E s):
  UnR X f (rU λi=>.int (g i)):=by
 intro pins s σ H x v Q I rx h
 obtain⟨i,rfl,q⟩:=h
 obtain⟨t,rfl⟩:=rx
 exact rule i t s _ _ ⟨.int (g i),H,I.tok _,⟨_,rfl⟩,q⟩
theorem un_neg:UnR X (unaryOp .USub) (rU λi=>.int (-i)):=unI λ_ _ _ _ _ q=>neg_int q
end
noncomputable def scal:V->V->Bool
 |.non,.non=>true|.non,.int _=>true|.int _,.non=>true|.non,.bl _=>true|.bl _,.non=>true|.non,.str _=>true|.str _,.non=>true
 |.int _,.int _=>true|.bl _,.bl _=>true|.str _,.str _=>true|.byt _,.byt _=>true
 |.int _,.str _=>true|.str _,.int _=>true|.bl _,.str _=>true|.str _,.bl _=>true
 |_,_=>false
noncomputable def rEq:R2:=λx y H Q=>scal x y=true/\Q (.bl (decide (x=y))) H
noncomputable def rNe:R2:=λx y H Q=>scal x y=true/\Q (.bl (!decide (x=y))) H
theorem Zdi{i j:Int}:decide (V.int i=V.int j)=(i==j):=by
 rw[Bool.eq_iff_iff]
 simp
theorem Zgv{i j:Bool}:decide (V.bl i=V.bl j)=(i==j):=by
 rw[Bool.eq_iff_iff]
 simp
theorem Zgt{i j:Str}:decide (V.str i=V.str j)=(i==j):=by
 rw[Bool.eq_iff_iff]
 simp
theorem Zgu{i j:Array UInt8}:decide (V.byt i=V.byt j)=(i.toList==j.toList):=by
 rw[Bool.eq_iff_iff]
 cases i
 cases j
 simp
section
variable{X:Cx}{a b c:Expr}{ta tb tc:TE}{pos:Pos}
theorem Zx{pins:List (Addr×Obj)}{σ:St}{H:Hp}{s:Shared}{Q:VK}{k k':Bool}(I:Inv X pins σ H s)(q:Q (.bl k) H)(e:k=k'):EP X pins σ Q (.bool k') s:=by
 subst e
 exact⟨.bl k,H,I,rfl,q⟩
theorem op_eq:OpR X (compareOp .Eq) rEq:=by
 intro pins s σ H x y v u Q I rx ry h
 obtain⟨hs,q⟩:=h
 cases x with
 |non =>
  cases rx
  cases y with
  |non=>cases ry;exact PySem.EqNone.eq_none_none (Zx I q (by simp))
  |bl j=>cases ry;exact PySem.EqNone.eq_none_bool (Zx I q (by simp))
  |int j=>obtain⟨t',rfl⟩:=ry;exact PySem.EqNone.eq_none_int (Zx I q (by simp))
  |str j=>obtain⟨t',rfl⟩:=ry;exact PySem.EqNone.eq_none_str (Zx I q (by simp))
  |_=>exact absurd (show false=true from hs) Bool.false_ne_true
 |bl i =>
  cases rx
  cases y with
  |non=>cases ry;exact PySem.EqNone.eq_bool_none (Zx I q (by simp))
  |bl j=>cases ry;exact eq_bool (Zx I q Zgv)
  |str j=>obtain⟨t',rfl⟩:=ry;exact PySem.EqMixed.eq_bool_str (Zx I q (by simp))
  |_=>exact absurd (show false=true from hs) Bool.false_ne_true
 |int i =>
  obtain⟨t,rfl⟩:=rx
  cases y with
  |non=>cases ry;exact PySem.EqNone.eq_int_none (Zx I q (by simp))
  |int j=>obtain⟨t',rfl⟩:=ry;exact eq_int (Zx I q Zdi)
  |str j=>obtain⟨t',rfl⟩:=ry;exact PySem.EqMixed.eq_int_str (Zx I q (by simp))
  |_=>exact absurd (show false=true from hs) Bool.false_ne_true
 |str i =>
  obtain⟨t,rfl⟩:=rx
  cases y with
  |non=>cases ry;exact PySem.EqNone.eq_str_none (Zx I q (by simp))
  |bl j=>cases ry;exact PySem.EqMixed.eq_str_bool (Zx I q (by simp))
  |int j=>obtain⟨t',rfl⟩:=ry;exact PySem.EqMixed.eq_str_int (Zx I q (by simp))
  |str j=>obtain⟨t',rfl⟩:=ry;exact eq_str (Zx I q Zgt)
  |_=>exact absurd (show false=true from hs) Bool.false_ne_true
 |byt i =>
  obtain⟨t,rfl⟩:=rx
  cases y with
  |byt j=>obtain⟨t',rfl⟩:=ry;exact PySem.W.eq_bytes (Zx I q Zgu)
  |_=>exact absurd (show false=true from hs) Bool.false_ne_true
 |_=>cases y<;>exact absurd (show false=true from hs) Bool.false_ne_true
theorem op_ne:OpR X (compareOp .NotEq) rNe:=by
 intro pins s σ H x y v u Q I rx ry h
 obtain⟨hs,q⟩:=h
 cases x with
 |non =>
  cases rx
  cases y with
  |non=>cases ry;exact PySem.EqNone.ne_none_none (Zx I q (by simp))
  |bl j=>cases ry;exact PySem.EqNone.ne_none_bool (Zx I q (by simp))
  |int j=>obtain⟨t',rfl⟩:=ry;exact PySem.EqNone.ne_none_int (Zx I q (by simp))
  |str j=>obtain⟨t',rfl⟩:=ry;exact PySem.EqNone.ne_none_str (Zx I q (by simp))
  |_=>exact absurd (show false=true from hs) Bool.false_ne_true
 |bl i =>
  cases rx
  cases y with
  |non=>cases ry;exact PySem.EqNone.ne_bool_none (Zx I q (by simp))
  |bl j=>cases ry;exact ne_bool (Zx I q (congrArg not Zgv))
  |str j=>obtain⟨t',rfl⟩:=ry;exact PySem.EqMixed.ne_bool_str (Zx I q (by simp))
  |_=>exact absurd (show false=true from hs) Bool.false_ne_true
 |int i =>
  obtain⟨t,rfl⟩:=rx
  cases y with
  |non=>cases ry;exact PySem.EqNone.ne_int_none (Zx I q (by simp))
  |int j=>obtain⟨t',rfl⟩:=ry;exact ne_int (Zx I q (congrArg not Zdi))
  |str j=>obtain⟨t',rfl⟩:=ry;exact PySem.EqMixed.ne_int_str (Zx I q (by simp))
  |_=>exact absurd (show false=true from hs) Bool.false_ne_true
 |str i =>
  obtain⟨t,rfl⟩:=rx
  cases y with
  |non=>cases ry;exact PySem.EqNone.ne_str_none (Zx I q (by simp))
  |bl j=>cases ry;exact PySem.EqMixed.ne_str_bool (Zx I q (by simp))
  |int j=>obtain⟨t',rfl⟩:=ry;exact PySem.EqMixed.ne_str_int (Zx I q (by simp))
  |str j=>obtain⟨t',rfl⟩:=ry;exact ne_str (Zx I q (congrArg not Zgt))
  |_=>exact absurd (show false=true from hs) Bool.false_ne_true
 |byt i =>
  obtain⟨t,rfl⟩:=rx
  cases y with
  |byt j=>obtain⟨t',rfl⟩:=ry;exact PySem.W.ne_bytes (Zx I q (congrArg not Zgu))
  |_=>exact absurd (show false=true from hs) Bool.false_ne_true
 |_=>cases y<;>exact absurd (show false=true from hs) Bool.false_ne_true
theorem op_lt:OpR X (compareOp .Lt) (rI0 λi j=>.bl (decide (i<j))):=opB0 λ_ _ _ _ _ _ _ q=>lt_int q
theorem op_le:OpR X (compareOp .LtE) (rI0 λi j=>.bl (decide (i<=j))):=opB0 λ_ _ _ _ _ _ _ q=>le_int q
theorem op_gt:OpR X (compareOp .Gt) (rI0 λi j=>.bl (decide (j<i))):=opB0 λ_ _ _ _ _ _ _ q=>gt_int q
theorem op_ge:OpR X (compareOp .GtE) (rI0 λi j=>.bl (decide (j<=i))):=opB0 λ_ _ _ _ _ _ _ q=>ge_int q
theorem ZfI:OpR X (compareOp .Lt) (λx y H Q=>∃i j,x=.str i/\y=.str j/\Q (.bl (decide (i.cps.toList<j.cps.toList))) H):=by
 intro pins s σ H x y v u Q I rx ry h
 obtain⟨i,j,rfl,rfl,q⟩:=h
 obtain⟨t,rfl⟩:=rx
 obtain⟨t',rfl⟩:=ry
 exact lt_str (Zx I q rfl)
theorem ZfJ:OpR X (compareOp .In) (λx y H Q=>∃i j,x=.str i/\y=.str j/\Q (.bl (!(Builtin.Str.occurrences j i 0 j.length 1).isEmpty)) H):=by
 intro pins s σ H x y v u Q I rx ry h
 obtain⟨i,j,rfl,rfl,q⟩:=h
 obtain⟨t,rfl⟩:=rx
 obtain⟨t',rfl⟩:=ry
 exact in_str (Zx I q rfl)
theorem op_isN:OpR X (compareOp .Is) (λx y H Q=>y=.non/\Q (.bl (decide (x=.non))) H):=by
 intro pins s σ H x y v u Q I rx ry h
 obtain⟨rfl,q⟩:=h
 cases ry
 refine is_none_gen (Zx I q ?_)
 cases x<;>first
  |(cases rx;rfl)
  |(obtain⟨t,rfl⟩:=rx;rfl)
theorem Zjv:OpR X (compareOp .IsNot) (λx y H Q=>y=.non/\Q (.bl (!decide (x=.non))) H):=by
 intro pins s σ H x y v u Q I rx ry h
 obtain⟨rfl,q⟩:=h
 cases ry
 refine isnot_none_gen (Zx I q ?_)
 cases x<;>first
  |(cases rx;rfl)
  |(obtain⟨t,rfl⟩:=rx;rfl)
theorem Zce:OpR X (compareOp .NotIn) (λx y H Q=>∃i j,x=.str i/\y=.str j/\Q (.bl (!(!(Builtin.Str.occurrences j i 0 j.length 1).isEmpty))) H):=by
 intro pins s σ H x y v u Q I rx ry h
 obtain⟨i,j,rfl,rfl,q⟩:=h
 obtain⟨t,rfl⟩:=rx
 obtain⟨t',rfl⟩:=ry
 exact notIn_str (Zx I q rfl)
theorem Zjm{op:CmpOp}{r:R2}(ho:OpR X (compareOp op) r)(ha:PE X a ta)(hb:PE X b tb)(hm:behindInMarks op b=false):PE X (.Compare a [op] [b] pos) (tOp r ta tb):=by
 intro pins s σ H Q I h
 exact wpAny_Compare1 (binT ha hb I h λv u s2 x y H2 I2 rx ry q=>ho pins s2 σ H2 x y v u Q I2 rx ry q) hm
noncomputable def tTest(t:TE):TT:=λσ H Q=>t σ H λx H'=>∃k,x=.bl k/\Q k H'
theorem Zi0{op:CmpOp}{r:R2}(ho:OpR X (compareOp op) r)(ha:PE X a ta)(hb:PE X b tb)(hm:behindInMarks op b=false):PT X (.Compare a [op] [b] pos) (tTest (tOp r ta tb)):=by
 intro pins s σ H Q I h
 refine wpAny_isTrue_Compare1 (thn (ha pins s σ H _ I h) λv s1 ⟨x,H1,I1,r1,q1⟩=>thn (hb pins s1 σ H1 _ I1 q1) λu s2 ⟨y,H2,I2,r2,q2⟩ =>
  thn (ho pins s2 σ H2 x y v u _ I2 r1 r2 q2) λc s3 ⟨z,H3,I3,r3,k,e,q3⟩=>?_) hm
 subst e
 cases r3
 exact wpAny_truthy_bool ⟨H3,I3,q3⟩
noncomputable def TruV(K:Frag)(x:V)(H:Hp)(k:Bool):Prop:=
 match x with
 |.non=>k=false
 |.bl b=>k=b
 |.int i=>k=(i != 0)
 |.str y=>y.length<=sizeLine/\k=((y.length:Int) != 0)
 |.byt y=>y.size<=sizeLine/\k=((y.size:Int) != 0)
 |.ref p=>(∃xs,SqL K H p xs/\k=!xs.isEmpty)∨(∃xs,SqT K H p xs/\k=!xs.isEmpty)∨∃kvs,H p=some (.dK kvs)/\k=!kvs.isEmpty
 |_=>False
theorem ZeD{κ:Type}{kvs:List (κ×V)}{vs:List (κ×Value)}(r:KV kvs vs):(!vs.isEmpty)=!kvs.isEmpty:=by
 cases r<;>rfl
theorem Zbc{xs:List V}{its:List Value}(r:Vals xs its):(!its.toArray.isEmpty)=!xs.isEmpty:=by
 cases r<;>simp
theorem Za9:(sizeLine:Nat)<2^63:=by rw[sizeLine_eq];decide
theorem tru_ok:TruR X (λx H Q=>∃k,TruV X.K x H k/\Q k H):=by
 intro pins s σ H x v Q I rx h
 obtain⟨k,e,q⟩:=h
 have hl:=Za9
 have hs:sizeLine=16777216:=sizeLine_eq
 cases x with
 |non =>
  cases rx
  have e':k=false:=e
  subst e'
  exact truthy_none ⟨H,I,q⟩
 |bl b =>
  cases rx
  have e':k=b:=e
  subst e'
  exact wpAny_truthy_bool ⟨H,I,q⟩
 |int i =>
  obtain⟨t,rfl⟩:=rx
  have e':k=(i != 0):=e
  subst e'
  exact PySem.P.truthy_int ⟨H,I,q⟩
 |str y =>
  obtain⟨t,rfl⟩:=rx
  obtain⟨hy,e'⟩:y.length<=sizeLine/\k=((y.length:Int) != 0):=e
  subst e'
  exact PySem.P.truthy_str (by omega) ⟨H,I.tok _,q⟩
 |byt y =>
  obtain⟨t,rfl⟩:=rx
  obtain⟨hy,e'⟩:y.size<=sizeLine/\k=((y.size:Int) != 0):=e
  subst e'
  exact PySem.W.truthy_bytes (by omega) ⟨H,I.tok _,q⟩
 |ref p =>
  cases rx
  have e':(∃xs,SqL X.K H p xs/\k=!xs.isEmpty)∨(∃xs,SqT X.K H p xs/\k=!xs.isEmpty)∨∃kvs,H p=some (.dK kvs)/\k=!kvs.isEmpty:=e
  rcases e' with⟨xs,hx,e'⟩|⟨xs,hx,e'⟩|⟨kvs,hx,e'⟩
  ·subst e'
   obtain⟨its,r,pl,hz⟩:=I.list hx
   have hlen:=r.length
   exact wpAny_truthy_list pl.isList (by simp only[List.size_toArray];omega) ⟨H,I.tok _,by rw[Zbc r];exact q⟩
  ·subst e'
   obtain⟨its,r,pl,hz⟩:=I.tuple hx
   have hlen:=r.length
   exact truthy_tuple pl (by simp only[List.size_toArray];omega) ⟨H,I.tok _,by rw[Zbc r];exact q⟩
  ·subst e'
   obtain⟨hz,hS,vs,r,m⟩:kvs.length<=sizeLine/\(p==sysModules)=false/\∃vs,KV kvs vs/\s.heap.DictOf (Zc6 X.prog X.w) p vs:=I.hok p _ hx
   have hlen:kvs.length=vs.length:=Paired.length r
   exact wpAny_truthy_dict hS m (by omega) ⟨H,I.tok _,by rw[ZeD r];exact q⟩
 |_=>exact(show False from e).elim
theorem Zg5(ha:PE X a ta)(he:∀whole,isTrue a X.env whole=(do let v <-whole;standAt a.pos;holding [v] (truthy v))):
  PT X a (λσ H Q=>ta σ H λx H'=>∃k,TruV X.K x H' k/\Q k H'):=by
 intro pins s σ H Q I h
 exact isTrue_plain (thn (ha pins s σ H _ I h) λv s1 ⟨x,H1,I1,r1,q1⟩=>tru_ok pins s1 σ H1 x v Q I1 r1 q1) (he _)
theorem Zev:OpR X (binaryOp .Add) (λx y H Q=>∃i j,x=.str i/\y=.str j/\i.length+j.length<=sizeLine/\Q (.str (i++j)) H):=by
 intro pins s σ H x y v u Q I rx ry h
 obtain⟨i,j,rfl,rfl,hz,q⟩:=h
 obtain⟨t,rfl⟩:=rx
 obtain⟨t',rfl⟩:=ry
 exact add_str (λt' tk=>⟨.str (i++j),H,I.tok _,⟨_,rfl⟩,q⟩) hz
theorem vals1{x:V}{us:List Value}(r:Vals [x] us):∃u,us=[u]/\RelV x u:=by
 cases r with
 |cons r1 r2=>cases r2;exact⟨_,rfl,r1⟩
theorem vals2{x y:V}{us:List Value}(r:Vals [x,y] us):∃u w',us=[u,w']/\RelV x u/\RelV y w':=by
 cases r with
 |cons r1 r2 =>
  cases r2 with
  |cons r3 r4=>cases r4;exact⟨_,_,rfl,r1,r3⟩
theorem Zcx:Jv X (.type "int") (λxs H Q=>(∃i,xs=[.int i]/\Q (.int i) H)∨∃k,xs=[.bl k]/\Q (.int (if k then 1 else 0)) H):=by
 intro pins s σ H xs us Q I r h
 rcases h with⟨i,rfl,q⟩|⟨k,rfl,q⟩
 ·obtain⟨u,rfl,t,rfl⟩:=vals1 r
  exact call_int_int ⟨.int i,H,I,⟨_,rfl⟩,q⟩
 ·obtain⟨u,rfl,r1⟩:=vals1 r
  cases r1
  exact call_int_bool ⟨.int (if k then 1 else 0),H,I.tok _,⟨_,rfl⟩,q⟩
noncomputable def LenV(K:Frag)(x:V)(H:Hp)(n:Nat):Prop:=
 match x with
 |.str y=>y.length<=sizeLine/\n=y.length
 |.byt y=>y.size<=sizeLine/\n=y.size
 |.ref p=>(∃xs,SqL K H p xs/\n=xs.length)∨∃xs,SqT K H p xs/\n=xs.length
 |_=>False
theorem Zad:Jv X (.builtin "len") (λxs H Q=>∃x n,xs=[x]/\LenV X.K x H n/\Q (.int n) H):=by
 intro pins s σ H xs us Q I r h
 obtain⟨x,n,rfl,e,q⟩:=h
 obtain⟨u,rfl,rx⟩:=vals1 r
 have hl:=Za9
 have hs:sizeLine=16777216:=sizeLine_eq
 cases x with
 |str y =>
  obtain⟨t,rfl⟩:=rx
  obtain⟨hy,e'⟩:y.length<=sizeLine/\n=y.length:=e
  subst e'
  exact len_str (by omega) ⟨.int _,H,I.tok _,⟨_,rfl⟩,q⟩
 |byt y =>
  obtain⟨t,rfl⟩:=rx
  obtain⟨hy,e'⟩:y.size<=sizeLine/\n=y.size:=e
  subst e'
  exact PySem.W.len_bytes (by omega) ⟨.int _,H,I.tok _,⟨_,rfl⟩,q⟩
 |ref p =>
  cases rx
  have e':(∃xs,SqL X.K H p xs/\n=xs.length)∨∃xs,SqT X.K H p xs/\n=xs.length:=e
  rcases e' with⟨xs,hx,e'⟩|⟨xs,hx,e'⟩
  ·subst e'
   obtain⟨its,r',pl,hz⟩:=I.list hx
   have hlen:=r'.length
   exact Calls.call_len_list pl.isList (by simp only[List.size_toArray];omega) ⟨.int xs.length,H,I.tok _,⟨_,by simp only[List.size_toArray];rw[hlen]⟩,q⟩
  ·subst e'
   obtain⟨its,r',pl,hz⟩:=I.tuple hx
   have hlen:=r'.length
   exact len_tuple pl (by simp only[List.size_toArray];omega) ⟨.int xs.length,H,I.tok _,⟨_,by simp only[List.size_toArray];rw[hlen]⟩,q⟩
 |_=>exact(show False from e).elim
end
structure ObjM (h:Heap) (x dx C:Addr) (mA:Str->Option Value):Prop where
 obj:h.get? x=some (instObj C dx)
 ns:h.Ns1 dx mA
 ne:dx≠x
theorem Zf3{h:Heap}{dx:Addr}{mA:Str->Option Value}(n:h.Ns1 dx mA):∃od,h.get? dx=some od/\∀name,lookIn name od=some (mA name):=by
 obtain⟨o,es,ep,ho,hd,hk,_,hm⟩:=n
 refine⟨o,ho,λname=>?_⟩
 have e:=hm name
 unfold nsFind findBy at e
 rw[<-Array.find?_toList]at e
 unfold lookIn
 rw[hd]
 dsimp only
 split
 ·rename_i y q
  rw[q]at e
  exact congrArg some e
 ·rename_i q
  rw[q]at e
  have a:es.toList.any (·.refKey)=false:=by
   rw[List.any_eq_false]
   intro y hy
   obtain⟨z,t,hkey⟩:=hk y (Array.mem_toList_iff.mp hy)
   simp[DictEntry.refKey,hkey]
  have a':¬es.toList.any (·.refKey)=true:=by rw[a];exact Bool.false_ne_true
  rw[if_neg a']
  exact congrArg some e
theorem ObjM.look{h:Heap}{x dx C:Addr}{mA:Str->Option Value}(I:ObjM h x dx C mA):∃od,PySem.W.InstAt h x (instObj C dx) C (some od)/\∀name,lookIn name od=some (mA name):=
 let⟨od,ho,hl⟩:=Zf3 I.ns
 ⟨od,⟨I.obj,rfl,rfl,ho⟩,hl⟩
section
variable{P:Program}{w:World}{H H':Hp}{h h':Heap}{a C dx:Addr}{fs fs':List (Str×V)}
theorem ZjR(hok:HOk P w H h)(e:H a=some (.ins C dx fs)):∃mA,ObjM h a dx C mA/\(∀f,RelO (fs.lookup f) (mA f))/\PySem.Within mA (fs.map (·.1))/\fs.length<=1000/\H dx=some (.own a):=by
 obtain⟨d,z,ne,ob,mA,n,r,q⟩:=(show QF P w H h a (.ins C dx fs)from hok a _ e)
 exact⟨mA,⟨ob,n,ne⟩,r,q,z,d⟩
end
structure Cls (K:Frag) (C:Addr):Prop where
 pg:PySem.W.plainGet K C Str.empty=true
 hd:PySem.W.hasDictIn K C=true
 po:PySem.W.plainOver K C=true
 sa:findIn K (.ref C) "__setattr__" = some (some (.builtin "object.__setattr__"))
theorem Cls.get{K:Frag}{C:Addr}(c:Cls K C)(f:Str):PySem.W.plainGet K C f=true:=c.pg
noncomputable def NoAttr(K:Frag)(C:Addr)(f:Str):Prop:=findIn K (.ref C) f=some none
structure Con (K:Frag) (C:Addr) (f:Str) (v:V) (u:Value):Prop where
 at_:findIn K (.ref C) f=some (some u)
 rel:RelV v u
 get:PySem.W.specialIn K u "__get__" = some none
 cp:PySem.W.copiedNames.contains f=false
structure Meth (K:Frag) (C:Addr) (m:Str) (f:Addr):Prop where
 at_:findIn K (.ref C) m=some (some (.ref f))
 fn:PySem.W.isFn K (.ref f)=true
 kp:keepIn K (.ref f)=true
section
variable{X:Cx}{pins:List (Addr×Obj)}{σ:St}{H:Hp}{s:Shared}{A:Around}{E:Value->Shared->Prop}{Q:Value->Shared->Prop}{c:Value}{b:Bool}
inductive TyOf (K:Frag) (H:Hp):V->Value->Prop where
 |non:TyOf K H .non (.type "NoneType")
 |bl (x:Bool):TyOf K H (.bl x) (.type "bool")
 |int (i:Int):TyOf K H (.int i) (.type "int")
 |str (x:Str):TyOf K H (.str x) (.type "str")
 |flt (x:UInt64):TyOf K H (.flt x) (.type "float")
 |lst {a:Addr}{xs:List V}(e:H a=some (.lst xs)):TyOf K H (.ref a) (.type "list")
 |frz {a:Addr}{o:Obj}{xs:List V}(e:H a=some (.frz o (.lst xs))):TyOf K H (.ref a) (.type "list")
 |tup {a:Addr}{xs:List V}(e:H a=some (.tup xs)):TyOf K H (.ref a) (.type "tuple")
 |dK {a:Addr}{kvs:List (Key×V)}(e:H a=some (.dK kvs)):TyOf K H (.ref a) (.type "dict")
 |dT {a:Addr}{kvs:List (List Key×V)}(e:H a=some (.dT kvs)):TyOf K H (.ref a) (.type "dict")
 |ins {a C dx:Addr}{fs:List (Str×V)}(e:H a=some (.ins C dx fs)) (cl:Cls K C) (ha:findIn K (.ref C) "__class__" = some (some (.builtin "object.__class__")))
  (hn:PySem.W.specialIn K (.builtin "object.__class__") "__get__" = some (some (.builtin "getset_descriptor.__get__"))) (htk:PySem.W.takesIn K (.builtin "object.__class__")=some true)
  (hm:PySem.W.mroIn K C (.type "object")=some true):TyOf K H (.ref a) (.ref C)
theorem Jd{x:V}{u t:Value}(I:Inv X pins σ H s)(rx:RelV x u)(ty:TyOf X.K H x t)(e:PySem.W.kitOne X.K t c=some b)(h:∀tk,Q (.bool b) { s with toks:=tk }):
  wpAny (model X.prog X.w) A (call (.builtin "isinstance") [u,c]) Q E s:=by
 cases ty with
 |non=>cases(show u=Value.none from rx);exact kia_one PySem.W.kitx_none I.kIn True.intro e (λz=>nomatch z) h
 |bl y=>cases(show u=Value.bool y from rx);exact kia_one PySem.W.kitx_bool I.kIn True.intro e (λz=>nomatch z) h
 |int i=>obtain⟨t,q⟩:=(show ∃t,u=Value.int i t from rx);cases q;exact kia_one PySem.W.kitx_int I.kIn True.intro e (λz=>nomatch z) h
 |str y=>obtain⟨t,q⟩:=(show ∃t,u=Value.str y t from rx);cases q;exact kia_one PySem.W.kitx_str I.kIn True.intro e (λz=>nomatch z) h
 |flt y=>obtain⟨t,q⟩:=(show ∃t,u=Value.float y t from rx);cases q;exact kia_one PySem.W.kitx_float I.kIn True.intro e (λz=>nomatch z) h
 |@lst a xs ea =>
  cases(show u=Value.ref a from rx)
  obtain⟨_,_,n,_,h1⟩:=(show QF X.prog X.w H s.heap a (.lst xs)from I.hok a _ ea)
  exact kia_one kitx_list I.kIn ⟨_,h1,rfl⟩ e (λz=>nomatch z) h
 |@frz a ob xs ea =>
  cases(show u=Value.ref a from rx)
  obtain⟨_,_,_,n,_,h1⟩:=(show QF X.prog X.w H s.heap a (.frz ob (.lst xs))from I.hok a _ ea)
  exact kia_one kitx_list I.kIn ⟨_,h1,rfl⟩ e (λz=>nomatch z) h
 |@tup a xs ea =>
  cases(show u=Value.ref a from rx)
  obtain⟨_,_,_,p⟩:=(show QF X.prog X.w H s.heap a (.tup xs)from I.hok a _ ea)
  obtain⟨o,h1,h2,_⟩:=p
  exact kia_one PySem.W.kitx_tuple I.kIn ⟨o,h1,h2⟩ e (λz=>nomatch z) h
 |@dK a kvs ea =>
  cases(show u=Value.ref a from rx)
  obtain⟨_,_,vs,_,p⟩:=(show QF X.prog X.w H s.heap a (.dK kvs)from I.hok a _ ea)
  obtain⟨o,es,ep,h1,h2,_⟩:=p
  exact kia_one PySem.W.kitx_dict I.kIn ⟨o,h1,h2.1⟩ e (λz=>nomatch z) h
 |@dT a kvs ea =>
  cases(show u=Value.ref a from rx)
  obtain⟨_,_,xs,_,o,es,ep,h1,h2,_⟩:=(show QF X.prog X.w H s.heap a (.dT kvs)from I.hok a _ ea)
  exact kia_one PySem.W.kitx_dict I.kIn ⟨o,h1,h2.1⟩ e (λz=>nomatch z) h
 |@ins a C dx fs ea cl ha hn htk hm =>
  cases(show u=Value.ref a from rx)
  obtain⟨mA,O,_⟩:=ZjR I.hok ea
  obtain⟨od,J,_⟩:=O.look
  exact kia_one (PySem.W.kitx_own (cl.get _) cl.hd ha hn htk hm) I.kIn J e (λz=>nomatch z) h
end
structure Room (k:Nat) (A:Around):Prop where
 hd:A.handled=none
 dp:A.depth+3*k+5<recursionLimit
 un:A.units+16*k+200<cLine
theorem Room.deeper{k:Nat}{A:Around}(r:Room (k+1) A)(env:Env):Room k (A.deeper env):=
 ⟨r.hd,by have:=r.dp;show A.depth+1+3*k+5<_;omega,by have:=r.un;show A.units+3+16*k+200<_;omega⟩
theorem Room.depth{k:Nat}{A:Around}(r:Room k A):A.depth<recursionLimit:=by have:=r.dp;omega
theorem Room.units{k:Nat}{A:Around}(r:Room k A):A.units+64<cLine:=by have:=r.un;omega
noncomputable def tNil:TA:=λ_ H Q=>Q [] H
noncomputable def tCons(ta:TE)(tr:TA):TA:=λσ H Q=>ta σ H λx H1=>tr σ H1 λxs H2=>Q (x::xs) H2
section
variable{X:Cx}{e:Expr}{es:List Expr}{te:TE}{t:TA}{pos:Pos}
theorem Zik:PA X [] tNil:=λ_ _ _ _ H Q I h=>Calls.spliced_nil ⟨[],H,I,.nil,h⟩
theorem ZcZ(ha:PE X e te)(hr:PA X es t)(hs:starEach (e::es) X.env=(false,eval e X.env)::starEach es X.env:=by rfl):PA X (e::es) (tCons te t):=by
 intro pos pins s σ H Q I h
 rw[hs]
 show wpAny _ _ (spliced ((false,eval e X.env)::backTo pos (starEach es X.env))) _ _ s
 refine Calls.spliced_cons (thn (ha pins s σ H _ I h) λu s1 ⟨x,H1,I1,r1,q1⟩=>?_)
 exact thn (hr pos pins s1 σ H1 _ I1 q1) λus s2 ⟨xs,H2,I2,r2,q2⟩=>⟨x::xs,H2,I2,.cons r1 r2,q2⟩
noncomputable def tTup(t:TA):TE:=λσ H Q=>t σ H λxs H1=>xs.length<=sizeLine/\∀p,H1 p=none->Q (.ref p) (upd H1 p (.tup xs))
noncomputable def tLst(t:TA):TE:=λσ H Q=>t σ H λxs H1=>xs.length<=sizeLine/\∀p,H1 p=none->Q (.ref p) (upd H1 p (.lst xs))
theorem pe_tup{x1}(h:PA X es t):PE X (.Tuple es x1 pos) (tTup t):=by
 intro pins s σ H Q I hq
 refine wpAny_Tuple_spliced (thn (h pos pins s σ H _ I hq) λus s1 ⟨xs,H1,I1,r,z,q⟩=>⟨by rw[<-r.length];exact z,?_⟩)
 have hf:H1 s1.heap.objs.size=none:=I1.hok.fresh (Nat.le_refl _)
 refine⟨.ref s1.heap.objs.size,upd H1 s1.heap.objs.size (.tup xs),I1.laid (t':=s1.toks) (λb u e=>Heap.get?_push_of_some _ e) (Nat.le_refl _) ?_,rfl,q _ hf⟩
 exact⟨z,us,r,⟨_,Heap.get?_push_size _ rfl,rfl,⟨_,rfl⟩,rfl⟩⟩
theorem pe_lst(h:PA X es t):PE X (.List es pos) (tLst t):=by
 intro pins s σ H Q I hq
 refine wpAny_List_spliced (thn (h pos pins s σ H _ I hq) λus s1 ⟨xs,H1,I1,r,z,q⟩=>⟨by rw[<-r.length];exact z,?_⟩)
 have hf:H1 s1.heap.objs.size=none:=I1.hok.fresh (Nat.le_refl _)
 refine⟨.ref s1.heap.objs.size,upd H1 s1.heap.objs.size (.lst xs),I1.laid (t':=s1.toks) (λb u e=>Heap.get?_push_of_some _ e) (Nat.le_refl _) ?_,rfl,q _ hf⟩
 exact⟨z,us,0,r,Heap.get?_push_size _ rfl⟩
end
noncomputable abbrev Sp:=List V->Hp->VK->XK->Prop
noncomputable abbrev CXT:=List Env->Hp->Shared->XK->Value->Shared->Prop
structure Env0 (P:Program) (w:World) (K:Frag) (mg:Str->Option Value) (base:Heap) (A:Around) (outer:List Env) (s:Shared) (H:Hp):Prop where
 frames:A.frames=some outer
 mod:Mod K mg base
 bs:∀b o,base.get? b=some o->s.heap.get? b=some o/\H b=none
 bsz:base.objs.size<=s.heap.objs.size
 funs:s.heap.FunFrames base outer
 frf:∀b∈frs outer,H b=none
 hok:HOk P w H s.heap
 bare:AllBare s.gens
noncomputable def CE(outer:List Env)(P:Program)(w:World)(H:Hp)(s:Shared)(Q:VK)(u:Value)(s':Shared):Prop:=
 ∃v H',s'.os=s.os/\AllBare s'.gens/\Un (frs outer) [] H H' s.heap s'.heap/\HOk P w H' s'.heap/\RelV v u/\Q v H'
noncomputable def CR(CX:CXT)(outer:List Env)(P:Program)(w:World)(H:Hp)(s:Shared)(Q:VK)(E:XK)(r:Result)(s':Shared):Prop:=
 match r with
 |.ok (.ret u)=>CE outer P w H s Q u s'
 |.ok _=>False
 |.error e=>CX outer H s E e s'
structure FnOk (P:Program) (w:World) (K:Frag) (mg:Str->Option Value) (base:Heap) (CX:CXT) (k:Nat) (f:Addr) (fd:FuncData) (ps:List Str) (sp:Sp):Prop where
 len:∀vs H Q E,sp vs H Q E->vs.length=ps.length
 run:∀(A:Around) (outer:List Env) (s:Shared) (H:Hp) (args:Args) (us:List Value) (vs:List V) (Q:VK) (E:XK),Room k A->Env0 P w K mg base A outer s H->BindsTo s fd args (ps.zip us)->Vals vs us->sp vs H Q E ->
  codeAny (model P w) A (.call (.ref f) args) (CR CX outer P w H s Q E) s
section
variable{X:Cx}{pins:List (Addr×Obj)}{σ:St}{H:Hp}{s s':Shared}
theorem Inv.env0(I:Inv X pins σ H s):Env0 X.prog X.w X.K X.mg X.base X.A X.stack s H:=
 ⟨I.ok.frames,I.ok.mod,I.bs,Nat.le_trans I.ok.bsz I.sz,I.stack,I.stkFree,I.hok,I.bare⟩
theorem Inv.after{Q:VK}{u:Value}(I:Inv X pins σ H s)(h:CE X.stack X.prog X.w H s Q u s'):EP X pins σ Q u s':=by
 obtain⟨v,H',os,bare,un,hok,r,q⟩:=h
 obtain⟨hh,g,d,t,os'⟩:=s'
 obtain rfl:os'=s.os:=os
 exact⟨v,H',I.call (h':=hh) (g':=g) (d':=d) (t':=t) (ch:=[]) un hok bare (λb z=>absurd z (by simp)),r,q⟩
end
noncomputable def tCall(sp:Sp)(dvs:List V)(E:XK)(t:TA):TE:=λσ H Q=>t σ H λvs H1=>sp (vs++dvs) H1 Q E
noncomputable def Binds(K:Frag)(fd:FuncData)(ps:List Str)(ds:List Value):Prop:=
 ∀(s:Shared) (us:List Value),K.In s.heap->(us++ds).length=ps.length->BindsTo s fd ⟨us,[]⟩ (ps.zip (us++ds))
theorem Binds.all{K:Frag}{fd:FuncData}{ps:List Str}(h:∀us:List Value,us.length=ps.length->bindArgs fd ⟨us,[]⟩=pure (ps.zip us)):Binds K fd ps []:=λs us _ hl=>by
 rw[List.append_nil]at hl ⊢
 exact .of_eq (h us hl)
noncomputable def ZgM(CX:CXT)(X:Cx)(E:XK):Prop:=∀(pins:List (Addr×Obj)) (σ:St) (H:Hp) (s:Shared) (e:Value) (s':Shared),Inv X pins σ H s->CX X.stack H s E e s'->X.xe e s'
section
variable{X:Cx}{CX:CXT}{k:Nat}{f C:Addr}{fd:FuncData}{ps:List Str}{sp:Sp}{dvs:List V}{ds:List Value}{E:XK}{x m:Str}{p pos apos:Pos}{e o:Expr}{es:List Expr}{ta:TE}{t:TA}
theorem run_fn{pins:List (Addr×Obj)}{σ:St}{H:Hp}{s:Shared}{Q:VK}{us:List Value}{vs:List V}(F:FnOk X.prog X.w X.K X.mg X.base CX k f fd ps sp)(hr:Room k X.A)(hb:Binds X.K fd ps ds)(hd:Vals dvs ds)(hx:ZgM CX X E)(I:Inv X pins σ H s)(r:Vals vs us)(h:sp (vs++dvs) H Q E):wpAny (model X.prog X.w) X.A (call (.ref f) us) (EP X pins σ Q) X.xe s:=by
 have r2:Vals (vs++dvs) (us++ds):=r.append hd
 have hl:(us++ds).length=ps.length:=by rw[<-r2.length];exact F.len _ _ _ _ h
 refine wpAny_call (codeAny_mono (F.run X.A X.stack s H ⟨us,[]⟩ (us++ds) (vs++dvs) Q E hr I.env0 (hb s us I.kIn hl) r2 h) λr s' hq=>?_)
 cases r with
 |error e=>exact hx pins σ H s e s' I hq
 |ok fl =>
  cases fl with
  |ret u=>exact I.after hq
  |next=>exact False.elim hq
  |brk=>exact False.elim hq
  |cont=>exact False.elim hq
theorem Zjo(F:FnOk X.prog X.w X.K X.mg X.base CX k f fd ps sp)(hr:Room k X.A)(hg:Gl X x)(hm:X.mg x=some (.ref f))(hk:keepIn X.K (.ref f)=true)(hb:Binds X.K fd ps ds)(hd:Vals dvs ds)(hx:ZgM CX X E)(ha:PA X (e::es) t)(hdb:(x==("__debug__" : Str))=false:=by decide)(he:starEach (e::es) X.env=(false,eval e X.env)::starEach es X.env:=by rfl)(hpl:(backTo pos (starEach es X.env)).any (·.1)=false:=by rfl):
  PE X (.Call (.Name x p) (e::es) [] pos) (tCall sp dvs E t):=by
 intro pins s σ H Q I h
 refine wpAny_Call_Name_kw (Zf5 I hg hm ?_ hdb)
 refine PySem.W.callWith_K (h₀:=X.base) I.ok.mod.kin hk (thn (ha pos pins s σ H _ I h) λus s1 ⟨vs,H1,I1,r,q⟩=>⟨I1.kIn,?_⟩) he hpl
 exact run_fn F hr hb hd hx I1 r q
structure Mk (K:Frag) (C f:Addr):Prop where
 makes:PySem.W.makesIn K C=true
 init:findIn K (.ref C) "__init__" = some (some (.ref f))
 fn:PySem.W.isFn K (.ref f)=true
 kp:keepIn K (.ref C)=true
end
section
variable{X:Cx}{CX:CXT}{k:Nat}{f C:Addr}{fd:FuncData}{ps ks:List Str}{sp:Sp}{E:XK}{x m:Str}{p pos apos kpos:Pos}{e o:Expr}{es:List Expr}{kws:List Keyword}{te ta:TE}{t tk:TA}{nm:Option Str}
structure KBinds (K:Frag) (fd:FuncData) (ps ks:List Str) (g:List Value->List Value->List Value) (gV:List V->List V->List V):Prop where
 to:∀(s:Shared) (us ws:List Value),K.In s.heap->(g us ws).length=ps.length->BindsTo s fd ⟨us,ks.zip ws⟩ (ps.zip (g us ws))
 rel:∀{vs:List V}{us:List Value}{zs:List V}{ws:List Value},Vals vs us->Vals zs ws->Vals (gV vs zs) (g us ws)
variable{g:List Value->List Value->List Value}{gV:List V->List V->List V}
end
structure FnScope (N P:List Str) (sc:Scope):Prop where
 kind:sc.kind=.function
 co:sc.isCoroutine=false
 gen:sc.isGenerator=false
 nd:N.Nodup
 pre:N.take P.length=P
 par:∀x∈P,sc.names.lookup x=some .local∨sc.names.lookup x=some .cell
 nofree:∀y∈sc.names,y.2≠.free
theorem ZcD{kindOf:Str->Option NameKind}{x:Str}:∀{binds:List (Str×Value)}{m:Str->Option Value},(∀v,(x,v)∉binds)->bindL kindOf binds m x=m x
 |[],_,_=>rfl
 |(n,v)::r,m,h=>by
  unfold bindL
  rw[ZcD λw hw=>h w (List.mem_cons_of_mem _ hw)]
  split
  ·have:x≠n:=by rintro rfl;exact h v List.mem_cons_self
   simp[this]
  ·rfl
theorem ZcF{kindOf:Str->Option NameKind}{x:Str}:∀{binds:List (Str×Value)}{m:Str->Option Value},(∀v,(x,v)∉binds)->bindC kindOf binds m x=m x
 |[],_,_=>rfl
 |(n,v)::r,m,h=>by
  unfold bindC
  rw[ZcF λw hw=>h w (List.mem_cons_of_mem _ hw)]
  split
  ·rfl
  ·have:x≠n:=by rintro rfl;exact h v List.mem_cons_self
   simp[this]
theorem ZcE{kindOf:Str->Option NameKind}{x:Str}{v:Value}:∀{P:List Str}{vs:List Value}{i:Nat}{m:Str->Option Value},P.Nodup->P[i]?=some x->vs[i]?=some v->kindOf x=some .local ->
  bindL kindOf (P.zip vs) m x=some v
 |[],_,_,_,_,h,_,_=>by simp at h
 |_::_,[],_,_,_,_,h,_=>by simp at h
 |p::P,w::vs,0,m,nd,h1,h2,hk=>by
  simp at h1 h2;subst h1;subst h2
  show bindL kindOf ((p,w)::P.zip vs) m p=_
  unfold bindL
  rw[ZcD λv hv=>(List.nodup_cons.mp nd).1 (List.of_mem_zip hv).1,if_pos hk]
  simp
 |p::P,w::vs,i+1,m,nd,h1,h2,hk=>by
  show bindL kindOf ((p,w)::P.zip vs) m x=_
  unfold bindL
  exact ZcE (i:=i) (List.nodup_cons.mp nd).2 (by simpa using h1) (by simpa using h2) hk
theorem ZcG{kindOf:Str->Option NameKind}{x:Str}{v:Value}:∀{P:List Str}{vs:List Value}{i:Nat}{m:Str->Option Value},P.Nodup->P[i]?=some x->vs[i]?=some v->kindOf x≠some .local ->
  bindC kindOf (P.zip vs) m x=some v
 |[],_,_,_,_,h,_,_=>by simp at h
 |_::_,[],_,_,_,_,h,_=>by simp at h
 |p::P,w::vs,0,m,nd,h1,h2,hk=>by
  simp at h1 h2;subst h1;subst h2
  show bindC kindOf ((p,w)::P.zip vs) m p=_
  unfold bindC
  rw[ZcF λv hv=>(List.nodup_cons.mp nd).1 (List.of_mem_zip hv).1,if_neg hk]
  simp
 |p::P,w::vs,i+1,m,nd,h1,h2,hk=>by
  show bindC kindOf ((p,w)::P.zip vs) m x=_
  unfold bindC
  exact ZcG (i:=i) (List.nodup_cons.mp nd).2 (by simpa using h1) (by simpa using h2) hk
noncomputable def start(N:List Str)(vs:List V):St:=vs.map some++List.replicate (N.length-vs.length) none
noncomputable def cxOf(CX:CXT)(P:Program)(w:World)(K:Frag)(mg:Str->Option Value)(base:Heap)(N:List Str)(qual:Str)(scope:Scope)(f:Addr)(cd:Value)(A:Around)(outer:List Env)(s:Shared)(H:Hp)(E:XK):Cx where
 prog:=P
 w:=w
 K:=K
 mg:=mg
 base:=base
 A:=A.deeper (envOfC qual scope s.heap.objs.size f cd)
 N:=N
 s₀:=s
 H₀:=H
 env:=envOfC qual scope s.heap.objs.size f cd
 outer:=outer
 stack:=envOfC qual scope s.heap.objs.size f cd::outer
 ex:=[]
 calm:=true
 fn:=λ_=>true
 pn:=[]
 xe:=λe s'=>wpAny (model P w) (A.deeper (envOfC qual scope s.heap.objs.size f cd)) (leaving (envOfC qual scope s.heap.objs.size f cd) e) (λ_ s''=>CX outer H s E e s'') (λe' s''=>CX outer H s E e' s'') s'
theorem ZdX{sc:Scope}{n:Nat}{x:Str}(h:sc.names.lookup x=some .cell):∃c,(cellsFrom n sc.names []).lookup x=some c:=by
 have q:=cellsFrom_some sc.names n [] (.inl h)
 exact Option.isSome_iff_exists.mp q
theorem Zga{CX:CXT}{P:Program}{w:World}{K:Frag}{mg:Str->Option Value}{base:Heap}{N ps:List Str}{qual:Str}{scope:Scope}{f:Addr}{cd:Value}{A:Around}{outer:List Env}{s s1:Shared}{H:Hp}{E:XK}{us:List Value}{vs:List V}(S:FnScope N ps scope)(hd:A.handled=none)(e0:Env0 P w K mg base A outer s H)(hl:vs.length=ps.length)(r:Vals vs us)(x:InCallC s s.heap.objs.size (bindL (envOfC qual scope s.heap.objs.size f cd).kindOf (ps.zip us) λ_=>none) (cellsFrom (s.heap.objs.size+1) scope.names []) (bindC (envOfC qual scope s.heap.objs.size f cd).kindOf (ps.zip us) λ_=>none) s1):
  Inv (cxOf CX P w K mg base N qual scope f cd A outer s H E) [] (start N vs) H s1:=by
 have hpl:ps.length<=N.length:=by have:=congrArg List.length S.pre;rw[List.length_take]at this;omega
 obtain⟨h1,tk,rfl,hk⟩:=x.done
 have noA:∀b:Addr,b∉(cxOf CX P w K mg base N qual scope f cd A outer s H E).ex:=λb z=>absurd (show b∈([]:List Addr)from z) (by simp)
 refine⟨⟨e0.mod,S.kind,rfl,rfl,Nat.le_refl _,λy z c h1 h2=>?_,λy hy=>?_,λy c _ h=>?_,λ_=>hd,Around.frames_deeper e0.frames,.inr ⟨rfl,rfl⟩,λb z=>absurd z (noA b),e0.bs,e0.bsz,λb _ _=>noA b,λb z=>absurd z (noA b),e0.funs,e0.frf⟩,
  rfl,e0.bare,Un.kept hk,⟨_,x.toInCall.ns,λi y v h1 h2 h3=>?_⟩,λy c h=>⟨_,x.cell y c h⟩,e0.hok.fresh (Nat.le_refl _),λy c h=>?_,λp hp=>absurd (show p∈([]:List (Addr×Obj))from hp) (by simp),e0.hok.kept hk,?_⟩
 ·exact name_of_addr x.apart (PySem.mem_of_lookup h1) (PySem.mem_of_lookup h2)
 ·have hy:scope.names.lookup y=some .cell∨scope.names.lookup y=some .free:=hy
  rcases hy with hy|hy
  ·exact ZdX hy
  ·exact absurd rfl (S.nofree _ (PySem.mem_of_lookup hy))
 ·exact Nat.le_of_lt (x.above y c (PySem.mem_of_lookup h))
 ·have hi:i<vs.length:=by
   unfold start at h2
   by_cases hi:i<vs.length
   ·exact hi
   ·rw[List.getElem?_append_right (by simpa using hi)]at h2
    rw[List.getElem?_replicate]at h2
    split at h2<;>cases h2
  have ha:vs[i]?=some v:=by
   unfold start at h2
   rw[List.getElem?_append_left (by simpa using hi),List.getElem?_map]at h2
   cases e:vs[i]? with
   |none=>rw[e]at h2;cases h2
   |some a=>rw[e]at h2;cases h2;rfl
  obtain⟨u,hu,rv⟩:=r.get ha
  have hp:ps[i]?=some y:=by
   rw[<-S.pre,List.getElem?_take_of_lt (by omega)];exact h1
  have ndP:ps.Nodup:=by rw[<-S.pre];exact S.nd.sublist (List.take_sublist _ _)
  refine⟨u,rv,?_⟩
  rcases S.par y (List.mem_of_getElem? hp)with k|k
  ·exact .inl ⟨k,ZcE ndP hp hu k⟩
  ·obtain⟨c,e⟩:=ZdX (n:=s.heap.objs.size+1) k
   refine .inr ⟨.inl k,c,e,?_⟩
   have q:=x.cell y c e
   rw[ZcG ndP hp hu (by show scope.names.lookup y≠_;rw[k];decide)]at q
   exact q
 ·exact e0.hok.fresh (Nat.le_of_lt (x.above y c (PySem.mem_of_lookup h)))
 ·unfold start
  show _=N.length
  rw[List.length_append,List.length_map,List.length_replicate]
  omega
theorem fn_of{CX:CXT}{P:Program}{w:World}{K:Frag}{mg:Str->Option Value}{base:Heap}{k:Nat}{f:Addr}{name qual:Str}{params:Arguments}{body:List Stmt}{scope:Scope}{dV kV doc pm cdv ct oc:Value}{an od:Option Addr}{osl:Array (Option Value)}{N ps:List Str}{sp:Sp}(lk:K.lookup f=some ⟨oc,od,.func (fnOf name qual params body scope dV kV doc pm an cdv ct),osl⟩)(hcd:codeIn K cdv qual=true)(S:FnScope N ps scope)(len:∀vs H Q E,sp vs H Q E->vs.length=ps.length)(hbody:∀(A:Around) (outer:List Env) (s:Shared) (H:Hp) (vs:List V) (Q:VK) (E:XK),Room k (A.deeper (envOfC qual scope s.heap.objs.size f cdv))->HOk P w H s.heap->sp vs H Q E ->
   ∃t,PSs (cxOf CX P w K mg base N qual scope f cdv A outer s H E) body t/\t { nx:=λ_ H'=>Q .non H',rt:=Q } (start N vs) H):
  FnOk P w K mg base CX (k+1) f (fnOf name qual params body scope dV kV doc pm an cdv ct) ps sp:=by
 refine⟨len,λA outer s H args us vs Q E hr e0 hb r hsp=>?_⟩
 have hl:=len _ _ _ _ hsp
 have KX:K.In s.heap:=e0.mod.kin.keeps λb o e=>(e0.bs b o e).1
 have lim:s.heap.NoLimit:=e0.mod.nolimit.keeps λb o e=>(e0.bs b o e).1
 have hkind:∀y∈ps.zip us,scope.names.lookup y.1=some .local∨(scope.names.lookup y.1=some .cell/\((cellsFrom (s.heap.objs.size+1) scope.names []).lookup y.1).isSome=true):=λ⟨n,v⟩ hy=>by
  rcases S.par n (List.of_mem_zip hy).1 with q|q
  ·exact .inl q
  ·exact .inr ⟨q,cellsFrom_some _ _ _ (.inl q)⟩
 refine codeAny_call_function hr.depth (KX _ _ lk) rfl S.co S.gen rfl (PySem.W.codeRec_of KX hcd) (hb _ _ _ _ ?_)
 refine wpAny_newFunctionEnv_cells S.kind hkind λenv he s1 x=>?_
 subst he
 refine⟨lim.keeps x.toInCall.keep,codeAny_func ?_⟩
 obtain⟨t,ht,hq⟩:=hbody A outer s H vs Q E (hr.deeper _) e0.hok hsp
 have I:Inv (cxOf CX P w K mg base N qual scope f cdv A outer s H E) [] (start N vs) H s1:=Zga S hr.hd e0 hl r x
 refine wpAny_mono (ht [] s1 (start N vs) H _ I hq) (λfl s' hs=>?_) λe s' hs=>hs
 have fin:∀{σ':St}{H':Hp}{v:V}{u:Value},Inv (cxOf CX P w K mg base N qual scope f cdv A outer s H E) [] σ' H' s'->RelV v u->Q v H'->CE outer P w H s Q u s':=
  λ{σ' H' v u} J rv q=>⟨v,H',J.os,J.bare,J.base,J.hok,rv,q⟩
 cases fl with
 |ret u =>
  obtain⟨v,σ',H',J,rv,q⟩:=hs
  exact fin J rv q
 |next =>
  obtain⟨σ',H',J,q⟩:=hs
  exact fin (v:=V.non) (u:=Value.none) J rfl q
 |brk =>
  obtain⟨_,_,_,q⟩:=hs
  exact False.elim q
 |cont =>
  obtain⟨_,_,_,q⟩:=hs
  exact False.elim q
section
variable{X:Cx}{x:Str}{p pos:Pos}{e:Expr}{es:List Expr}{t:TA}{id T:String}{r:List V->Hp->VK->Prop}
noncomputable def tCB(r:List V->Hp->VK->Prop)(t:TA):TE:=λσ H Q=>t σ H λvs H1=>r vs H1 Q
theorem ZbC(hc:Jv X (.builtin id) r)(hg:Gl X x)(hm:X.mg x=none)(hv:bootBuiltins x=some (.builtin id))(ha:PA X (e::es) t)(hn:x≠"__name__":=by decide)(hdb:(x==("__debug__" : Str))=false:=by decide)(he:starEach (e::es) X.env=(false,eval e X.env)::starEach es X.env:=by rfl)(hpl:(backTo pos (starEach es X.env)).any (·.1)=false:=by rfl):PE X (.Call (.Name x p) (e::es) [] pos) (tCB r t):=by
 intro pins s σ H Q I h
 refine wpAny_Call_Name_kw (Zba I hg hm hv ?_ hn hdb)
 exact PyProof.Rows.callWith_builtin1 (thn (ha pos pins s σ H _ I h) λus s1 ⟨vs,H1,I1,r1,q1⟩=>hc pins s1 σ H1 vs us Q I1 r1 q1) he hpl
theorem Zcc(hc:Jv X (.type T) r)(hg:Gl X x)(hm:X.mg x=none)(hv:bootBuiltins x=some (.type T))(ha:PA X (e::es) t)(hn:x≠"__name__":=by decide)(hdb:(x==("__debug__" : Str))=false:=by decide)(he:starEach (e::es) X.env=(false,eval e X.env)::starEach es X.env:=by rfl)(hpl:(backTo pos (starEach es X.env)).any (·.1)=false:=by rfl):PE X (.Call (.Name x p) (e::es) [] pos) (tCB r t):=by
 intro pins s σ H Q I h
 refine wpAny_Call_Name_kw (Zba I hg hm hv ?_ hn hdb)
 exact PyProof.Rows.callWith_type1 (thn (ha pos pins s σ H _ I h) λus s1 ⟨vs,H1,I1,r1,q1⟩=>hc pins s1 σ H1 vs us Q I1 r1 q1) he hpl
end
end L2
namespace HT
open PySem PyProof.Rows
section
variable{prog:Program}{w:World}{A:Around}{E:Value->Shared->Prop}{s:Shared}
theorem cat_tup{t b:Addr}{vs ws:List Value}{Q:Value->Shared->Prop}(ht:IsTup s.heap t vs.toArray)(hb:IsTup s.heap b ws.toArray)(hv:vs≠[])(h1:ws=[]->Q (.ref t) s)(h2:ws≠[]->Q (.ref s.heap.objs.size) { s with heap:=s.heap.push { cls:=.type "tuple",data:=.seq (vs++ws).toArray } })(hsz:vs.length+ws.length<=sizeLine):wpAny (model prog w) A (binaryOp .Add (.ref t) (.ref b)) Q E s:=by
 obtain⟨⟨cls,dd,data,sl⟩,ho,hc,n,hd⟩:=id ht
 obtain⟨⟨cls2,dd2,data2,sl2⟩,ho2,hc2,n2,hd2⟩:=id hb
 simp only at hc hd hc2 hd2
 subst hc hd hc2 hd2
 have e:vs.toArray++ws.toArray=(vs++ws).toArray:=by simp
 by_cases hw:ws=[]
 ·exact concat_meets ⟨_,ho,rfl⟩ ⟨_,ho2,rfl⟩ noFill_tuple_add seq_tuple_add PySem.F.slot_tuple_add PySem.F.entry_tuple_add (PySem.F.args_tuple_add_2 _ _)
   (tuple_addW1 t b vs.toArray ws.toArray n n2 dd dd2 sl sl2 (by simpa using hv) (by simp[hw])) ⟨ho,ho2,h1 hw⟩
 ·refine concat_meets ⟨_,ho,rfl⟩ ⟨_,ho2,rfl⟩ noFill_tuple_add seq_tuple_add PySem.F.slot_tuple_add PySem.F.entry_tuple_add (PySem.F.args_tuple_add_2 _ _)
   (tuple_addW2 t b vs.toArray ws.toArray n n2 dd dd2 sl sl2 (by simpa using hv) (by simpa using hw) (by rw[List.size_toArray,List.size_toArray];exact hsz)) ⟨ho,ho2,?_⟩
  rw[e]
  exact h2 hw
noncomputable def sIx(n d:Nat):Option Int->Nat
 |none=>d
 |some v=>if v<0 then(v+(n:Int)).toNat else min v.toNat n
theorem sIx_le(n d:Nat)(hd:d<=n)(o:Option Int):sIx n d o<=n:=by
 cases o with
 |none=>exact hd
 |some v =>
  show(if v<0 then(v+(n:Int)).toNat else min v.toNat n)<=n
  by_cases hv:v<0
  ·rw[if_pos hv];omega
  ·rw[if_neg hv];exact Nat.min_le_right _ _
theorem Zgx(v:Int)(n d:Nat):(if v<0 then max (v+(n:Int)) 0 else min v (n:Int))=((sIx n d (some v):Nat):Int):=by
 show(if v<0 then max (v+(n:Int)) 0 else min v (n:Int))=(((if v<0 then(v+(n:Int)).toNat else min v.toNat n):Nat):Int)
 by_cases hv:v<0
 ·simp only[if_pos hv];omega
 ·simp only[if_neg hv];omega
theorem ZeS(lo hi:Option Int)(n:Nat):Builtin.Slice.sliceAdjust lo hi 1 (n:Int)=(((sIx n 0 lo:Nat):Int),((sIx n n hi:Nat):Int)):=by
 have h1:¬((1:Int)<0):=by omega
 unfold Builtin.Slice.sliceAdjust
 simp only[h1,if_false]
 refine Prod.ext ?_ ?_
 ·cases lo with
  |none=>rfl
  |some v=>exact Zgx v n 0
 ·cases hi with
  |none=>rfl
  |some v=>exact Zgx v n n
theorem Zej(i j:Nat):Builtin.Slice.slicePlaces (i:Int) (j:Int) 1=j-i:=by
 unfold Builtin.Slice.slicePlaces
 have h1:(1:Int)>0:=by omega
 simp only[h1,if_true,Int.ediv_one]
 split<;>omega
theorem Za3{v:Value}{o:Option Int}{Q:Option Int->Shared->Prop}(p:IsPart v o)(h:Q o s):wpAny (model prog w) A (Builtin.Slice.slicePartIndex v) Q E s:=by
 cases p with
 |none=>exact slicePart_none h
 |int i t=>exact slicePart_int h
theorem sliceApplied_gen{sl:Addr}{vl vu:Value}{lo hi:Option Int}{n:Nat}{Q:Int×Int×Nat->Shared->Prop}(hs:s.heap.IsSliceOf sl vl vu .none)(pl:IsPart vl lo)(pu:IsPart vu hi)(h:Q (((sIx n 0 lo:Nat):Int),1,sIx n n hi-sIx n 0 lo) s):wpAny (model prog w) A (Builtin.Slice.sliceApplied (.ref sl) (pure (n:Int))) Q E s:=by
 obtain⟨os,hos,hcs,hds⟩:=id hs
 unfold Builtin.Slice.sliceApplied Builtin.Slice.sliceFields
 refine wpAny_bind (wpAny_bind (wpAny_field hos hds (x:=vl) rfl (wpAny_bind (wpAny_field hos hds (x:=vu) rfl (wpAny_bind (wpAny_field hos hds (x:=.none) rfl (wpAny_pure ?_)))))))
 refine wpAny_bind (slicePart_none ?_)
 show wpAny _ _ (if((1:Int)==0)=true then _ else _) _ _ s
 rw[if_neg (by decide)]
 refine wpAny_bind (Za3 pl (wpAny_bind (Za3 pu (wpAny_bind (wpAny_pure ?_)))))
 show wpAny _ _ (match Builtin.Slice.sliceAdjust lo hi 1 (n:Int)with|(lo,hi)=>pure (lo,(1:Int),Builtin.Slice.slicePlaces lo hi 1)) _ _ s
 rw[ZeS lo hi n]
 show wpAny _ _ (pure (((sIx n 0 lo:Nat):Int),(1:Int),Builtin.Slice.slicePlaces ((sIx n 0 lo:Nat):Int) ((sIx n n hi:Nat):Int) 1)) _ _ s
 rw[Zej]
 exact wpAny_pure h
theorem Zhm(xs:Array Value)(i k:Nat):((List.range k).filterMap λ(m:Nat)=>xs[((i:Int)+(m:Int)*1).toNat]?).toArray=((xs.toList.drop i).take k).toArray:=by
 have e:(λ(m:Nat)=>xs[((i:Int)+(m:Int)*1).toNat]?)=λm=>xs[i+m]?:=by
  funext m
  have:((i:Int)+(m:Int)*1).toNat=i+m:=by omega
  rw[this]
 rw[e]
 have:=pick_run xs i k
 rw[List.filterMap_map]at this
 have e2:((λx=>xs[x]?) ∘ λx=>i+x)=λm=>xs[i+m]?:=rfl
 rw[e2]at this
 rw[this]
theorem getItem_tuple_cut{t sl:Addr}{items:Array Value}{vl vu:Value}{lo hi:Option Int}{Q:Value->Shared->Prop}(ht:IsTup s.heap t items)(hs:s.heap.IsSliceOf sl vl vu .none)(pl:IsPart vl lo)(pu:IsPart vu hi)(hw:¬(sIx items.size 0 lo=0/\sIx items.size items.size hi=items.size))(h:Q (.ref s.heap.objs.size) { s with heap:=s.heap.push { cls:=.type "tuple",data:=.seq ((items.toList.drop (sIx items.size 0 lo)).take (sIx items.size items.size hi-sIx items.size 0 lo)).toArray } })(hsz:items.size<=sizeLine):wpAny (model prog w) A (getItem (.ref t) (.ref sl)) Q E s:=by
 have htake:sizeOk (.seq ((items.toList.drop (sIx items.size 0 lo)).take (sIx items.size items.size hi-sIx items.size 0 lo)).toArray):=by
  show((items.toList.drop (sIx items.size 0 lo)).take (sIx items.size items.size hi-sIx items.size 0 lo)).toArray.size<=sizeLine
  rw[List.size_toArray,List.length_take,List.length_drop,Array.length_toList]
  omega
 have hj:sIx items.size items.size hi<=items.size:=sIx_le _ _ (Nat.le_refl _) hi
 obtain⟨os,hos,hcs,hds⟩:=id hs
 have hTs:s.TypeIs (.ref sl) "slice":=⟨os,hos,hcs⟩
 unfold getItem
 try with_reducible refine wpAny_holding ?_
 first|refine wpAny_bind (wpAny_pure ?_)|skip
 refine wpAny_bind (wpAny_sequenceKey ht.typeIs (by decide) ?_)
 refine wpAny_bind (wpAny_callSpecial?_slot (name:=Str.ofString "__getitem__") ht.typeIs PyProof.Rows.slot_tuple_getitem
  (wpAny_call_entry PyProof.Rows.slot_tuple_getitem ht.typeIs entry_tuple_getitem ?_ (args_tuple_getitem _ _)))
 show wpAny _ _ (Builtin.Tuple.tupleItemsOf (.ref t) >>= _) _ _ s
 refine wpAny_bind (tupleItemsOf_ ht ?_)
 refine wpAny_bind (wpAny_typeOf hTs ?_)
 rw[if_pos (by decide)]
 refine wpAny_bind (sliceApplied_gen hs pl pu ?_)
 have hno:¬((((sIx items.size 0 lo:Nat):Int)==0&&(1:Int)==1&&(sIx items.size items.size hi-sIx items.size 0 lo)==items.size)=true):=by
  intro q
  rw[Bool.and_eq_true,Bool.and_eq_true]at q
  have q1:((sIx items.size 0 lo:Nat):Int)=0:=eq_of_beq q.1.1
  have q2:sIx items.size items.size hi-sIx items.size 0 lo=items.size:=eq_of_beq q.2
  exact hw ⟨by omega,by omega⟩
 show wpAny _ _ (if(((sIx items.size 0 lo:Nat):Int)==0&&(1:Int)==1&&(sIx items.size items.size hi-sIx items.size 0 lo)==items.size)=true then _ else _) _ _ s
 rw[if_neg hno,Zhm]
 first
  |exact wpAny_bind (m:=Builtin.Tuple.tupleExact _) (wpAny_newObj_type (wpAny_pure ⟨_,rfl,wpAny_pure h⟩) htake)
  |exact wpAny_bind (m:=Builtin.Tuple.tupleExact _) (wpAny_newObj_type (wpAny_bind (wpAny_pure (wpAny_pure ⟨_,rfl,wpAny_pure h⟩))) htake)
  |exact wpAny_bind (wpAny_bind (m:=Builtin.Tuple.tupleExact _) (wpAny_newObj_type (wpAny_pure (wpAny_pure ⟨_,rfl,wpAny_pure h⟩)) htake))
  |exact wpAny_bind (wpAny_bind (m:=Builtin.Tuple.tupleExact _) (wpAny_newObj_type (wpAny_pure ⟨_,rfl,wpAny_pure h⟩) htake))
end
end HT
namespace L2
open PySem PySem.Spec PyProof.Rows
noncomputable abbrev TO:=St->Hp->(Option Int->Hp->Prop)->Prop
noncomputable def PO(X:Cx)(e:Option Expr)(t:TO):Prop:=
 ∀(pins:List (Addr×Obj)) (s:Shared) (σ:St) (H:Hp) (Q:Option Int->Hp->Prop),Inv X pins σ H s->t σ H Q ->
  wpAny (model X.prog X.w) X.A (evalPart e X.env) (λu s'=>∃o H',Inv X pins σ H' s'/\IsPart u o/\Q o H') X.xe s
noncomputable def ZiM:TO:=λ_ H Q=>Q none H
noncomputable def tPart(t:TE):TO:=λσ H Q=>t σ H λx H1=>∃i,x=.int i/\Q (some i) H1
section
variable{X:Cx}{e:Expr}{te:TE}{lo hi:Option Expr}{tl th:TO}{pos p2:Pos}
theorem Zi6:PO X none ZiM:=by
 intro pins s σ H Q I h
 rw[evalPart_none]
 exact wpAny_pure ⟨none,H,I,.none,h⟩
theorem Zi5(h:PE X e te):PO X (some e) (tPart te):=by
 intro pins s σ H Q I hw
 rw[evalPart_some]
 refine thn (h pins s σ H _ I hw) λu s1 ⟨x,H1,I1,r1,q1⟩=>?_
 obtain⟨i,rfl,q⟩:=q1
 obtain⟨t,rfl⟩:=r1
 exact⟨some i,H1,I1,.int i t,q⟩
noncomputable def SlR(X:Cx)(r:V->Option Int->Option Int->Hp->VK->Prop):Prop:=
 ∀(pins:List (Addr×Obj)) (s:Shared) (σ:St) (H:Hp) (x:V) (v vl vu:Value) (lo hi:Option Int) (sl:Addr) (Q:VK),Inv X pins σ H s->RelV x v->s.heap.IsSliceOf sl vl vu .none->IsPart vl lo->IsPart vu hi->r x lo hi H Q ->
  ∃T id,typeLookup (.type T) "__getitem__" = pure (some (.builtin id))/\s.TypeIs v T/\wpAny (model X.prog X.w) X.A (getItem v (.ref sl)) (EP X pins σ Q) X.xe s
noncomputable def tSl(r:V->Option Int->Option Int->Hp->VK->Prop)(te:TE)(tl th:TO):TE:=λσ H Q=>te σ H λx H1=>tl σ H1 λl H2=>th σ H2 λu H3=>r x l u H3 Q
theorem Zhp{r:V->Option Int->Option Int->Hp->VK->Prop}(hr:SlR X r)(he:PE X e te)(hl:PO X lo tl)(hu:PO X hi th):PE X (.Subscript e (.Slice lo hi none p2) pos) (tSl r te tl th):=by
 intro pins s σ H Q I h
 refine Subscript_ (thn (he pins s σ H _ I h) λv s1 ⟨x,H1,I1,r1,q1⟩=>?_)
 refine wpAny_Slice (thn (hl pins s1 σ H1 _ I1 q1) λvl s2 ⟨l,H2,I2,pl,q2⟩=>thn (hu pins s2 σ H2 _ I2 q2) λvu s3 ⟨u,H3,I3,pu,q3⟩=>?_)
 rw[evalPart_none]
 refine wpAny_pure ?_
 have I4:Inv X pins σ H3 { s3 with heap:=s3.heap.push { cls:=.type "slice",data:=.fields #[vl,vu,.none] } }:=I3.kept (t':=s3.toks) λb ob q=>Heap.get?_push_of_some _ q
 obtain⟨T,id,hT,ht,hg⟩:=hr pins { s3 with heap:=s3.heap.push { cls:=.type "slice",data:=.fields #[vl,vu,.none] } } σ H3 x v vl vu l u s3.heap.objs.size Q I4 r1 (Heap.IsSliceOf.new ..) pl pu q3
 show wpAny (model X.prog X.w) X.A (subscriptTail e (.Slice lo hi none p2) v (.ref s3.heap.objs.size)) (EP X pins σ Q) X.xe { s3 with heap:=s3.heap.push { cls:=.type "slice",data:=.fields #[vl,vu,.none] } }
 exact tail_any (ops:=[.ref s3.heap.objs.size,v]) ht hT hg (by with_unfolding_all rfl)
noncomputable def cutV(xs:List V)(lo hi:Option Int):List V:=(xs.drop (HT.sIx xs.length 0 lo)).take (HT.sIx xs.length xs.length hi-HT.sIx xs.length 0 lo)
theorem Zaz(xs:List V)(lo hi:Option Int):(cutV xs lo hi).length<=xs.length:=by
 unfold cutV
 rw[List.length_take,List.length_drop]
 omega
noncomputable def rSlT(K:Frag):V->Option Int->Option Int->Hp->VK->Prop:=λx lo hi H Q=>∃a xs,x=.ref a/\SqT K H a xs /\
 ¬(HT.sIx xs.length 0 lo=0/\HT.sIx xs.length xs.length hi=xs.length)/\∀p,H p=none->Q (.ref p) (upd H p (.tup (cutV xs lo hi)))
theorem sl_tup:SlR X (rSlT X.K):=by
 intro pins s σ H x v vl vu lo hi sl Q I rx hs pl pu h
 obtain⟨a,xs,rfl,hx,hw,q⟩:=h
 cases rx
 obtain⟨its,r,ht,hz⟩:=I.tuple hx
 have hlen:its.toArray.size=xs.length:=by rw[List.size_toArray];exact r.length.symm
 refine⟨"tuple",_,PyProof.Rows.slot_tuple_getitem.lookup,ht.typeIs,?_⟩
 refine HT.getItem_tuple_cut ht hs pl pu (by rw[hlen];exact hw) ?_ (by rw[hlen];exact hz)
 rw[hlen]
 refine⟨.ref s.heap.objs.size,_,I.laid (t':=s.toks) (o:=.tup (cutV xs lo hi)) (λb ob q=>Heap.get?_push_of_some _ q) (Nat.le_refl _) ?_,rfl,q _ (I.hok.fresh (Nat.le_refl _))⟩
 exact⟨Nat.le_trans (Zaz xs lo hi) hz,_,(r.drop (HT.sIx xs.length 0 lo)).take (HT.sIx xs.length xs.length hi-HT.sIx xs.length 0 lo),TupP.new _ _⟩
noncomputable def rCatT(K:Frag):R2:=λx y H Q=>∃a b xs ys,x=.ref a/\y=.ref b/\SqT K H a xs/\SqT K H b ys/\xs≠[]/\xs.length+ys.length<=sizeLine /\
 (ys=[]->Q (.ref a) H)/\(ys≠[]->∀p,H p=none->Q (.ref p) (upd H p (.tup (xs++ys))))
theorem Vals.nil_iff{xs:List V}{us:List Value}(r:Vals xs us):us=[]↔xs=[]:=by
 cases r with
 |nil=>simp
 |cons _ _=>simp
theorem Zjz:OpR X (binaryOp .Add) (rCatT X.K):=by
 intro pins s σ H x y v u Q I rx ry h
 obtain⟨a,b,xs,ys,rfl,rfl,ha,hb,hx,hz,q1,q2⟩:=h
 cases rx
 cases ry
 obtain⟨its,r1,p1,_⟩:=I.tuple ha
 obtain⟨its2,r2,p2,_⟩:=I.tuple hb
 refine HT.cat_tup p1 p2 (λz=>hx (r1.nil_iff.mp z)) (λz=>⟨.ref a,H,I,rfl,q1 (r2.nil_iff.mp z)⟩) (λz=>?_) (by rw[<-r1.length,<-r2.length];exact hz)
 refine⟨.ref s.heap.objs.size,_,I.laid (t':=s.toks) (o:=.tup (xs++ys)) (λb ob q=>Heap.get?_push_of_some _ q) (Nat.le_refl _) ?_,rfl,q2 (λw=>z (r2.nil_iff.mpr w)) _ (I.hok.fresh (Nat.le_refl _))⟩
 exact⟨by rw[List.length_append];exact hz,_,r1.append r2,TupP.new _ _⟩
end
noncomputable def ixN(n:Nat)(i:Int):Option Nat:=if 0<=i then(if i<n then some i.toNat else none)else if -(n:Int)<=i then some (i+n).toNat else none
noncomputable def atI{α:Type}(xs:List α)(i:Int):Option α:=(ixN xs.length i).bind λj=>xs[j]?
theorem Zda{n:Nat}{i:Int}{j:Nat}(h:ixN n i=some j):seqIndex? i n=some j/\j<n/\-(n:Int)<=i/\i<n:=by
 unfold ixN at h
 by_cases h0:0<=i
 ·rw[if_pos h0]at h
  by_cases h1:i<n
  ·rw[if_pos h1]at h
   have e:i.toNat=j:=Option.some.inj h
   exact⟨by rw[seqIndex_of h0 h1,e],by omega,by omega,h1⟩
  ·rw[if_neg h1]at h;cases h
 ·rw[if_neg h0]at h
  by_cases h1:-(n:Int)<=i
  ·rw[if_pos h1]at h
   have e:(i+n).toNat=j:=Option.some.inj h
   exact⟨by rw[seqIndex_neg (by omega) h1,e],by omega,h1,by omega⟩
  ·rw[if_neg h1]at h;cases h
theorem Zdv{α:Type}{xs:List α}{i:Int}{v:α}(h:atI xs i=some v):∃j,seqIndex? i xs.length=some j/\xs[j]?=some v/\j<xs.length/\-(xs.length:Int)<=i/\i<xs.length:=by
 unfold atI at h
 cases e:ixN xs.length i with
 |none=>rw[e]at h;cases h
 |some j =>
  rw[e]at h
  obtain⟨h1,h2,h3,h4⟩:=Zda e
  exact⟨j,h1,h,h2,h3,h4⟩
noncomputable def ZgL(b:Expr):Prop:=∀o i,subscripted b false o i=operate [o,i] (getItem o i)
noncomputable def IxR(X:Cx)(r:R2):Prop:=
 ∀(value slice:Expr) (pins:List (Addr×Obj)) (s:Shared) (σ:St) (H:Hp) (x y:V) (v u:Value) (Q:VK),Inv X pins σ H s->RelV x v->RelV y u->r x y H Q ->
  subscripted slice false v u=operate [v,u] (getItem v u)->wpAny (model X.prog X.w) X.A (subscriptTail value slice v u) (EP X pins σ Q) X.xe s
noncomputable def MtR(X:Cx)(id:String)(r:V->List V->Hp->VK->Prop):Prop:=
 ∀(pins:List (Addr×Obj)) (s:Shared) (σ:St) (H:Hp) (x:V) (xs:List V) (v:Value) (us:List Value) (Q:VK),Inv X pins σ H s->RelV x v->Vals xs us->r x xs H Q ->
  wpAny (model X.prog X.w) X.A (call (.builtin id) (v::us)) (EP X pins σ Q) X.xe s
section
variable{X:Cx}{a b:Expr}{ta tb:TE}{pos:Pos}
theorem pe_ix{r:R2}(hr:IxR X r)(ha:PE X a ta)(hb:PE X b tb)(hs:ZgL b):PE X (.Subscript a b pos) (tOp r ta tb):=by
 intro pins s σ H Q I h
 exact Subscript_ (binT ha hb I h λv u s2 x y H2 I2 rx ry q=>hr a b pins s2 σ H2 x y v u Q I2 rx ry q (hs _ _))
noncomputable def rIxL(K:Frag):R2:=λx y H Q=>∃p xs i v,x=.ref p/\y=.int i/\SqL K H p xs/\atI xs i=some v/\Q v H
noncomputable def rIxT(K:Frag):R2:=λx y H Q=>∃p xs i v,x=.ref p/\y=.int i/\SqT K H p xs/\atI xs i=some v/\Q v H
noncomputable def rIxS:R2:=λx y H Q=>∃z i c,x=.str z/\y=.int i/\z.length<=sizeLine/\atI z.cps.toList i=some c/\Q (.str ⟨#[c]⟩) H
theorem Zf9:IxR X (rIxL X.K):=by
 intro value slice pins s σ H x y v u Q I rx ry h hs
 obtain⟨p,xs,i,z,rfl,rfl,hq,he,q⟩:=h
 cases rx
 obtain⟨t,rfl⟩:=ry
 obtain⟨its,r,pl,hz⟩:=I.list hq
 obtain⟨j,h1,h2,h3,h4,h5⟩:=Zdv he
 obtain⟨w,ew,rw'⟩:=r.get h2
 have hl:=r.length
 have hn:=Za9
 have fin:EP X pins σ Q w s:=⟨z,H,I,rw',q⟩
 by_cases h0:0<=i
 ·have hj:i.toNat=j:=by
   rw[seqIndex_of h0 h5]at h1
   exact Option.some.inj h1
  exact item_listR pl.isList h0 (by omega) (by rw[hj];simpa using ew) fin hs
 ·have hj:(i+(its.toArray.size:Int)).toNat=j:=by
   rw[seqIndex_neg (by omega) h4]at h1
   rw[List.size_toArray,<-hl]
   exact Option.some.inj h1
  exact subscriptTail_builtinR (x:=w) pl.isList.typeIs slot_list_getitem.lookup
   (wpAny_getItem_list_neg (Q:=λr s'=>r=w/\EP X pins σ Q r s') pl.isList (by omega) (by rw[List.size_toArray]<;>omega) (by omega) (by rw[hj];simpa using ew) ⟨rfl,fin⟩) hs
theorem ix_tup:IxR X (rIxT X.K):=by
 intro value slice pins s σ H x y v u Q I rx ry h hs
 obtain⟨p,xs,i,z,rfl,rfl,hq,he,q⟩:=h
 cases rx
 obtain⟨t,rfl⟩:=ry
 obtain⟨its,r,pl,hz⟩:=I.tuple hq
 obtain⟨j,h1,h2,h3,h4,h5⟩:=Zdv he
 obtain⟨w,ew,rw'⟩:=r.get h2
 have hl:=r.length
 have hn:=Za9
 have fin:EP X pins σ Q w s:=⟨z,H,I,rw',q⟩
 exact subscriptTail_builtinR (x:=w) pl.typeIs slot_tuple_getitem.lookup
  (getItem_tuple (j:=j) (Q:=λr s'=>r=w/\EP X pins σ Q r s') pl (by omega) (by omega) (by rw[List.size_toArray,<-hl];exact h1) (by simpa using ew) ⟨rfl,fin⟩) hs
theorem ix_str:IxR X rIxS:=by
 intro value slice pins s σ H x y v u Q I rx ry h hs
 obtain⟨z,i,c,rfl,rfl,hz,he,q⟩:=h
 obtain⟨t,rfl⟩:=rx
 obtain⟨t',rfl⟩:=ry
 obtain⟨j,h1,h2,h3,h4,h5⟩:=Zdv he
 have hl:z.cps.toList.length=z.length:=by simp[Str.length]
 rw[hl]at h1 h4 h5
 have hn:=Za9
 exact tail_any (typeIs_str s z t) slot_str_getitem.lookup (getItem_str (c:=c) (by
  have e1:decide (i < -(2^63:Int))=false:=decide_eq_false (by omega)
  have e2:decide (i ≥ 2^63)=false:=decide_eq_false (by omega)
  rw[e1,e2,Bool.or_false]) (by rw[h1];simpa using h2) ⟨.str ⟨#[c]⟩,H,I.tok _,⟨_,rfl⟩,q⟩) hs
theorem ZeB(its:List Value)(n j:Nat)(u:Value):Obj.mapSeq (·.setIfInBounds j u) { cls:=.type "list",data:=.seq its.toArray n }={ cls:=.type "list",data:=.seq (its.set j u).toArray n }:=by
 simp[Obj.mapSeq]
theorem Inv.lst{pins:List (Addr×Obj)}{σ:St}{H:Hp}{s:Shared}{p:Addr}{xs:List V}(I:Inv X pins σ H s)(h:H p=some (.lst xs)):
  ∃(its:List Value) (n:Nat),Vals xs its/\s.heap.get? p=some { cls:=.type "list",data:=.seq its.toArray n }/\xs.length<=sizeLine:=by
 obtain⟨z,its,n,r,e⟩:=I.hok p _ h
 exact⟨its,n,r,e,z⟩
theorem Inv.lstUpd{pins:List (Addr×Obj)}{σ:St}{H:Hp}{s:Shared}{p:Addr}{xs ys:List V}{its its':List Value}{n n':Nat}{f:Obj->Obj}(I:Inv X pins σ H s)(h:H p=some (.lst xs))(ho:s.heap.get? p=some { cls:=.type "list",data:=.seq its.toArray n })(hf:f { cls:=.type "list",data:=.seq its.toArray n }={ cls:=.type "list",data:=.seq its'.toArray n' })(r:Vals ys its')(hz:ys.length<=sizeLine)(t:Nat):
  Inv X pins σ (upd H p (.lst ys)) { s with heap:=s.heap.update p f,toks:=t }:=by
 have e:(s.heap.update p f).get? p=some { cls:=.type "list",data:=.seq its'.toArray n' }:=by
  rw[Heap.get?_update_self f ho (by rw[hf]<;>rfl),hf]
 refine I.write (x:=p) (e:=p) (by rw[h];trivial) (.inl rfl) (λb u hb q=>(Heap.get?_update_other _ _ (Ne.symm hb)).trans q) ⟨_,e⟩ ?_
 exact⟨hz,its',n',r,e⟩
noncomputable def rSetL:V->V->V->Hp->(Hp->Prop)->Prop:=λo i v H Q=>∃p xs k j,o=.ref p/\i=.int k/\H p=some (.lst xs)/\ixN xs.length k=some j/\Q (upd H p (.lst (xs.set j v)))
theorem set_list:PSet X rSetL:=by
 intro pins s σ H o i v ov iv u Q I ro ri rv h
 obtain⟨p,xs,k,j,rfl,rfl,hp,hj,q⟩:=h
 cases ro
 obtain⟨t,rfl⟩:=ri
 obtain⟨its,n,r,ho,hz⟩:=I.lst hp
 obtain⟨h1,h2,h3,h4⟩:=Zda hj
 have hl:=r.length
 have hn:=Za9
 have I':Inv X pins σ (upd H p (.lst (xs.set j v))) { s with heap:=s.heap.update p (Obj.mapSeq (·.setIfInBounds j u)) }:=
  I.lstUpd hp ho (ZeB its n j u) (r.set rv j) (by rw[List.length_set];exact hz) s.toks
 by_cases h0:0<=k
 ·have hk:k.toNat=j:=by
   rw[seqIndex_of h0 h4]at h1
   exact Option.some.inj h1
  exact PySem.W.ki_setAt ho h0 (by omega) (by rw[List.size_toArray,<-hl];exact h4) (by rw[hk];exact⟨_,I',q⟩)
 ·have hk:(k+(its.toArray.size:Int)).toNat=j:=by
   rw[seqIndex_neg (by omega) h3]at h1
   rw[List.size_toArray,<-hl]
   exact Option.some.inj h1
  exact PySem.W.ki_setBack ho (by omega) (by rw[List.size_toArray,<-hl];exact h3) (by omega) (by rw[hk];exact⟨_,I',q⟩)
theorem Zb1(lo hi:Option Int)(n:Nat):(sliceBounds lo hi none n).1=((HT.sIx n 0 lo:Nat):Int)/\(sliceBounds lo hi none n).2.1=((HT.sIx n n hi:Nat):Int)/\(sliceBounds lo hi none n).2.2=1:=by
 refine⟨?_,?_,rfl⟩
 ·cases lo with
  |none=>simp[sliceBounds,HT.sIx]
  |some i =>
   simp only[sliceBounds,HT.sIx,Option.getD_none,show(1:Int)>0 by decide,if_true]
   by_cases h:i<0
   ·simp only[h,if_true]<;>omega
   ·simp only[h,if_false]<;>omega
 ·cases hi with
  |none=>simp[sliceBounds,HT.sIx]
  |some i =>
   simp only[sliceBounds,HT.sIx,Option.getD_none,show(1:Int)>0 by decide,if_true]
   by_cases h:i<0
   ·simp only[h,if_true]<;>omega
   ·simp only[h,if_false]<;>omega
theorem Zbn(its:List Value)(lo hi:Option Int):slicePick its.toArray lo hi none=((its.drop (HT.sIx its.length 0 lo)).take (HT.sIx its.length its.length hi-HT.sIx its.length 0 lo)).toArray:=by
 obtain⟨h1,h2,h3⟩:=Zb1 lo hi its.toArray.size
 unfold slicePick
 rw[h1,h2,h3]
 simp only[sliceRange_one,pick_run,List.size_toArray]<;>rfl
noncomputable def rSlL(K:Frag):V->Option Int->Option Int->Hp->VK->Prop:=λx lo hi H Q=>∃a xs,x=.ref a/\SqL K H a xs/\∀p,H p=none->Q (.ref p) (upd H p (.lst (cutV xs lo hi)))
theorem Zfg:SlR X (rSlL X.K):=by
 intro pins s σ H x v vl vu lo hi sl Q I rx hs pl pu h
 obtain⟨a,xs,rfl,hx,q⟩:=h
 cases rx
 obtain⟨its,r,ht,hz⟩:=I.list hx
 have hlen:=r.length
 refine⟨"list",_,slot_list_getitem.lookup,ht.isList.typeIs,?_⟩
 refine wpAny_getItem_list_slice ht.isList hs pl pu .none (by simp) ?_ (by rw[List.size_toArray]<;>omega)
 rw[Zbn,<-hlen]
 refine⟨.ref s.heap.objs.size,_,I.laid (t':=s.toks) (o:=.lst (cutV xs lo hi)) (λb ob q=>Heap.get?_push_of_some _ q) (Nat.le_refl _) ?_,rfl,q _ (I.hok.fresh (Nat.le_refl _))⟩
 exact⟨Nat.le_trans (Zaz xs lo hi) hz,_,0,(r.drop (HT.sIx xs.length 0 lo)).take (HT.sIx xs.length xs.length hi-HT.sIx xs.length 0 lo),Heap.get?_push_size _ rfl⟩
noncomputable def XQ:V->Bool
 |.non=>true
 |.bl _=>true
 |.int _=>true
 |.str _=>true
 |_=>false
noncomputable def eqV:V->V->Bool
 |.non,.non=>true
 |.bl a,.bl b=>a==b
 |.bl a,.int b=>(if a then 1 else 0)==b
 |.int a,.bl b=>a==(if b then 1 else 0)
 |.int a,.int b=>a==b
 |.str a,.str b=>a==b
 |_,_=>false
theorem eqAt_V{A:Around}{s:Shared}{y x:V}{u v:Value}(ry:RelV y u)(rx:RelV x v)(fy:XQ y=true)(fx:XQ x=true):SeqAt.EqAt A s u v (eqV y x):=by
 cases y with
 |non =>
  cases ry
  cases x with
  |non=>cases rx;exact SeqAt.EqAt.same _
  |bl b=>cases rx;exact SeqAt.EqAt.none_bool b
  |int b=>obtain⟨t,rfl⟩:=rx;exact SeqAt.EqAt.none_int b t
  |str b=>obtain⟨t,rfl⟩:=rx;exact SeqAt.EqAt.none_str b t
  |_=>exact absurd (show false=true from fx) Bool.false_ne_true
 |bl a =>
  cases ry
  cases x with
  |non=>cases rx;exact SeqAt.EqAt.bool_none a
  |bl b=>cases rx;exact SeqAt.EqAt.bool_bool a b
  |int b=>obtain⟨t,rfl⟩:=rx;exact SeqAt.EqAt.bool_int a b t
  |str b=>obtain⟨t,rfl⟩:=rx;exact SeqAt.EqAt.bool_str a b t
  |_=>exact absurd (show false=true from fx) Bool.false_ne_true
 |int a =>
  obtain⟨t',rfl⟩:=ry
  cases x with
  |non=>cases rx;exact SeqAt.EqAt.int_none a t'
  |bl b=>cases rx;exact SeqAt.EqAt.int_bool a t' b
  |int b=>obtain⟨t,rfl⟩:=rx;exact SeqAt.EqAt.int_int a t' b t
  |str b=>obtain⟨t,rfl⟩:=rx;exact SeqAt.EqAt.int_str a t' b t
  |_=>exact absurd (show false=true from fx) Bool.false_ne_true
 |str a =>
  obtain⟨t',rfl⟩:=ry
  cases x with
  |non=>cases rx;exact SeqAt.EqAt.str_none a t'
  |bl b=>cases rx;exact SeqAt.EqAt.str_bool a t' b
  |int b=>obtain⟨t,rfl⟩:=rx;exact SeqAt.EqAt.str_int a t' b t
  |str b=>obtain⟨t,rfl⟩:=rx;exact SeqAt.EqAt.str_str a t' b t
  |_=>exact absurd (show false=true from fx) Bool.false_ne_true
 |_=>exact absurd (show false=true from fy) Bool.false_ne_true
noncomputable def eqU(x:V)(u:Value):Bool:=match u with
 |.none=>eqV .non x
 |.bool b=>eqV (.bl b) x
 |.int i _=>eqV (.int i) x
 |.str z _=>eqV (.str z) x
 |_=>false
theorem Ziz{x y:V}{u:Value}(r:RelV y u)(f:XQ y=true):eqU x u=eqV y x:=by
 cases y with
 |non=>cases r;rfl
 |bl b=>cases r;rfl
 |int i=>obtain⟨t,rfl⟩:=r;rfl
 |str z=>obtain⟨t,rfl⟩:=r;rfl
 |_=>exact absurd (show false=true from f) Bool.false_ne_true
theorem ZaP{x:V}:∀{xs:List V}{us:List Value},Vals xs us->xs.all XQ=true->us.any (eqU x)=xs.any λy=>eqV y x
 |_,_,.nil,_=>rfl
 |y::xs,u::us,.cons r t,f=>by
  rw[List.all_cons,Bool.and_eq_true]at f
  rw[List.any_cons,List.any_cons,Ziz r f.1,ZaP t f.2]
theorem JW{A:Around}{s:Shared}{x:V}{v:Value}(rx:RelV x v)(fx:XQ x=true):∀{xs:List V}{us:List Value},Vals xs us->xs.all XQ=true->∀u∈us,SeqAt.EqAt A s u v (eqU x u)
 |_,_,.nil,_=>λu hu=>by cases hu
 |y::xs,u::us,.cons r t,f=>λu' hu=>by
  rw[List.all_cons,Bool.and_eq_true]at f
  rcases List.mem_cons.mp hu with rfl|hu
  ·rw[Ziz r f.1];exact eqAt_V r rx f.1 fx
  ·exact JW rx fx t f.2 u' hu
noncomputable def inV(x:V)(xs:List V):Bool:=xs.any λy=>eqV y x
noncomputable def rIn(K:Frag)(neg:Bool):R2:=λx y H Q=>∃p xs,y=.ref p/\(SqL K H p xs∨SqT K H p xs)/\XQ x=true/\xs.all XQ=true/\Q (.bl (if neg then !inV x xs else inV x xs)) H
theorem Zcf:OpR X (compareOp .In) (rIn X.K false):=by
 intro pins s σ H x y v u Q I rx ry h
 obtain⟨p,xs,rfl,hq,fx,fs,q⟩:=h
 cases ry
 rcases hq with hq|hq
 ·obtain⟨its,r,pl,hz⟩:=I.list hq
  refine SeqAt.in_listAt (eqU x) pl.isList (λw hw=>JW rx fx r fs w (by simpa using hw)) ⟨.bl _,H,I,rfl,?_⟩
  rw[show its.toArray.any (eqU x)=its.any (eqU x) by simp,ZaP r fs]
  exact q
 ·obtain⟨its,r,pl,hz⟩:=I.tuple hq
  refine SeqAt.in_tupleAt (eqU x) pl (λw hw=>JW rx fx r fs w (by simpa using hw)) ⟨.bl _,H,I,rfl,?_⟩
  rw[show its.toArray.any (eqU x)=its.any (eqU x) by simp,ZaP r fs]
  exact q
theorem Xw:OpR X (compareOp .NotIn) (rIn X.K true):=by
 intro pins s σ H x y v u Q I rx ry h
 obtain⟨p,xs,rfl,hq,fx,fs,q⟩:=h
 cases ry
 rcases hq with hq|hq
 ·obtain⟨its,r,pl,hz⟩:=I.list hq
  refine SeqAt.notIn_listAt (eqU x) pl.isList (λw hw=>JW rx fx r fs w (by simpa using hw)) ⟨.bl _,H,I,rfl,?_⟩
  rw[show its.toArray.any (eqU x)=its.any (eqU x) by simp,ZaP r fs]
  exact q
 ·obtain⟨its,r,pl,hz⟩:=I.tuple hq
  refine SeqAt.notIn_tupleAt (eqU x) pl (λw hw=>JW rx fx r fs w (by simpa using hw)) ⟨.bl _,H,I,rfl,?_⟩
  rw[show its.toArray.any (eqU x)=its.any (eqU x) by simp,ZaP r fs]
  exact q
theorem XD:Jv X (.type "list") (λxs H Q=>∃p ys,xs=[.ref p]/\(SqL X.K H p ys∨SqT X.K H p ys)/\∀l,H l=none->Q (.ref l) (upd H l (.lst ys))):=by
 intro pins s σ H xs us Q I r h
 obtain⟨p,ys,rfl,hq,q⟩:=h
 obtain⟨u,rfl,rx⟩:=vals1 r
 cases rx
 have fin:∀(its:List Value),Vals ys its->ys.length<=sizeLine->∀(h':Heap) (c':Nat),(∀b o',s.heap.get? b=some o'->h'.get? b=some o') ->
   h'.get? s.heap.objs.size=some { cls:=.type "list",dict:=none,data:=.seq its.toArray c',slots:=#[] }->EP X pins σ Q (.ref s.heap.objs.size) { s with heap:=h' }:=λits r' hz h' c' kp e =>
  ⟨.ref s.heap.objs.size,_,I.laid (t':=s.toks) kp (Nat.le_refl _) (show QF X.prog X.w _ h' _ (.lst ys)from⟨hz,its,c',r',e⟩),rfl,q _ (I.hok.fresh (Nat.le_refl _))⟩
 rcases hq with hq|hq
 ·obtain⟨its,r',pl,hz⟩:=I.list hq
  have hlen:=r'.length
  obtain⟨o,ho,hc,n,hd⟩:=pl.isList
  exact call_list_seq p (.inl rfl) ho hc hd (λh' c' kp e=>fin its r' hz h' c' kp e) (by simp only[List.size_toArray]<;>omega)
 ·obtain⟨its,r',pl,hz⟩:=I.tuple hq
  have hlen:=r'.length
  obtain⟨o,ho,hc,n,hd⟩:=pl
  exact call_list_seq p (.inr rfl) ho hc hd (λh' c' kp e=>fin its r' hz h' c' kp e) (by simp only[List.size_toArray]<;>omega)
theorem J7:Jv X (.type "tuple") (λxs H Q=>∃p ys,xs=[.ref p]/\((SqL X.K H p ys/\∀l,H l=none->Q (.ref l) (upd H l (.tup ys)))∨(SqT X.K H p ys/\Q (.ref p) H))):=by
 intro pins s σ H xs us Q I r h
 obtain⟨p,ys,rfl,h⟩:=h
 obtain⟨u,rfl,rx⟩:=vals1 r
 cases rx
 rcases h with⟨hq,q⟩|⟨hq,q⟩
 ·obtain⟨its,r',pl,hz⟩:=I.list hq
  have hlen:=r'.length
  refine call_tuple_list pl.isList (λh' kp=>?_) (by simp only[List.size_toArray]<;>omega)
  have I1:Inv X pins σ H { s with heap:=h' }:=I.kept (t':=s.toks) kp
  have I2:Inv X pins σ (upd H h'.objs.size (.tup ys)) { s with heap:=h'.push { cls:=.type "tuple",data:=.seq its.toArray } }:=
   I1.laid (t':=s.toks) (λb o e=>Heap.get?_push_of_some _ e) (Nat.le_refl _) (show QF X.prog X.w _ _ _ (.tup ys)from⟨hz,its,r',TupP.new _ _⟩)
  exact⟨.ref h'.objs.size,_,I2,rfl,q _ (I1.hok.fresh (Nat.le_refl _))⟩
 ·obtain⟨its,r',pl,hz⟩:=I.tuple hq
  exact call_tuple_same pl ⟨.ref p,H,I,rfl,q⟩
noncomputable def tyV(K:Frag)(T:String)(x:V)(H:Hp):Prop:=match x with
 |.str _=>T = "str"
 |.int _=>T = "int"
 |.ref p=>(T = "list"/\∃xs,SqL K H p xs)∨(T = "tuple"/\∃o,K.lookup p=some o/\o.cls=.type "tuple"/\o.dict=none) ∨
  (T = "dict"/\((∃kvs,H p=some (.dK kvs))∨∃kvs,H p=some (.dT kvs)))∨(T = "set"/\∃S n,H p=some (.set S n))
 |_=>False
theorem tyV_is{pins:List (Addr×Obj)}{σ:St}{H:Hp}{s:Shared}{T:String}{x:V}{v:Value}(I:Inv X pins σ H s)(r:RelV x v)(ty:tyV X.K T x H):
  s.TypeIs v T/\∀a,v=.ref a->∃ob,s.heap.get? a=some ob/\ob.dict=none:=by
 cases x with
 |str z =>
  obtain⟨t,rfl⟩:=r
  cases(show T = "str" from ty)
  exact⟨typeIs_str s z t,λ_ e=>nomatch e⟩
 |int i =>
  obtain⟨t,rfl⟩:=r
  cases(show T = "int" from ty)
  exact⟨typeIs_int s i t,λ_ e=>nomatch e⟩
 |ref p =>
  cases r
  rcases ty with⟨rfl,xs,hq⟩|⟨rfl,o,hk,hc,hd⟩|⟨rfl,hk⟩|⟨rfl,S,n,hk⟩
  ·obtain⟨its,_,pl,_⟩:=I.list hq
   refine⟨pl.isList.typeIs,λa e=>?_⟩
   cases e
   obtain⟨o,n,e,c,hd,_⟩:=pl
   exact⟨o,e,hd⟩
  ·refine⟨⟨o,I.kIn p o hk,hc⟩,λa e=>?_⟩
   cases e
   exact⟨o,I.kIn _ o hk,hd⟩
  ·have z:∃o,s.heap.get? p=some o/\o.ExactDict:=by
    rcases hk with⟨kvs,hk⟩|⟨kvs,hk⟩
    ·obtain⟨_,_,_,_,o,_,_,e,ex,_⟩:=I.hok p _ hk
     exact⟨o,e,ex⟩
    ·obtain⟨_,_,_,_,o,_,_,e,ex,_⟩:=I.hok p _ hk
     exact⟨o,e,ex⟩
   obtain⟨o,e,ex⟩:=z
   refine⟨⟨o,e,ex.1⟩,λa e2=>?_⟩
   cases e2
   exact⟨o,e,ex.2.1⟩
  ·obtain⟨o,_,_,_,e,ex,_⟩:=I.hok p _ hk
   refine⟨⟨o,e,ex.1⟩,λa e2=>?_⟩
   cases e2
   exact⟨o,e,ex.2.1⟩
 |_=>exact False.elim ty
noncomputable def tBM(K:Frag)(T:String)(r:V->List V->Hp->VK->Prop)(to:TE)(t:TA):TE:=λσ H Q=>to σ H λx H1=>tyV K T x H1/\t σ H1 λxs H2=>r x xs H2 Q
variable{o e:Expr}{es:List Expr}{to:TE}{t:TA}{name:Str}{apos cpos:Pos}{T id:String}{r:V->List V->Hp->VK->Prop}
theorem Zjp(pa:PlainAttrs T)(slot:Slot T name id)(hty:typeOf (.builtin id)=pure (.type "method_descriptor"))(hm:MtR X id r)(ho:PE X o to)(ha:PA X (e::es) t)(hbase:attributeBase o name X.env (eval o X.env)=eval o X.env:=by rfl)(hfew:((backTo cpos (starEach (e::es) X.env)).all (λx=>!x.1)&&(backToKw cpos (keywordEach [] X.env)).all (λx=>x.1.isSome)
   && decide ((e::es).length+([]:List Keyword).length+(if([]:List Keyword).isEmpty then 0 else 1)<30))=true:=by rfl)(hline:(apos.endLine==cpos.line)=true:=by rfl)(hs:starEach (e::es) X.env=(false,eval e X.env)::starEach es X.env:=by rfl)(hplain:(backTo cpos (starEach es X.env)).any (·.1)=false:=by rfl):
  PE X (.Call (.Attribute o name apos) (e::es) [] cpos) (tBM X.K T r to t):=by
 intro pins s σ H Q I h
 refine wpAny_Call_method_late hbase hfew hline rfl (thn (ho pins s σ H _ I h) λv s1 ⟨x,H1,I1,r1,ty,q1⟩=>?_)
 obtain⟨h1,h2⟩:=tyV_is I1 r1 ty
 refine⟨T,id,pa,slot,hty,h1,h2,?_⟩
 have hA:=ha cpos pins s1 σ H1 _ I1 q1
 rw[hs]at hA ⊢
 refine Calls.callWith_builtin (by show(false || (backTo cpos (starEach es X.env)).any (·.1))=false;rw[hplain]<;>rfl) (Calls.evalArgs_plain ?_)
 exact thn hA λus s2 ⟨vs,H2,I2,r2,q2⟩=>hm pins s2 σ H2 x vs v us Q I2 r1 r2 q2
end
noncomputable def MtM(X:Cx)(id:String)(r:V->List V->Hp->VK->Prop):Prop:=
 ∀(pins:List (Addr×Obj)) (s:Shared) (σ:St) (H:Hp) (x:V) (xs:List V) (v:Value) (us:List Value) (Q:VK),Inv X pins σ H s->RelV x v->Vals xs us->r x xs H Q ->
  wpAny (model X.prog X.w) X.A (call (.builtin id) (v::us)) (EP X pins σ Q) X.xe s
theorem Vals.one:∀{x:V}{us:List Value},Vals [x] us->∃u,us=[u]/\RelV x u
 |_,_,.cons r .nil=>⟨_,rfl,r⟩
theorem Vals.eraseIdx:∀{xs:List V}{us:List Value}(i:Nat),Vals xs us->Vals (xs.eraseIdx i) (us.eraseIdx i)
 |_,_,_,.nil=>.nil
 |_,_,0,.cons _ t=>t
 |_,_,i+1,.cons r t=>.cons r (Vals.eraseIdx i t)
theorem Vals.rep{xs:List V}{us:List Value}(h:Vals xs us):∀k:Nat,Vals (List.replicate k xs).flatten (List.replicate k us).flatten
 |0=>.nil
 |k+1=>by
  rw[List.replicate_succ,List.replicate_succ,List.flatten_cons,List.flatten_cons]
  exact Vals.append h (Vals.rep h k)
theorem Zcl{α:Type}:∀(l:List α) (i:Nat),(l.eraseIdx i).length<=l.length
 |[],_=>Nat.le_refl _
 |_::_,0=>Nat.le_succ _
 |_::r,i+1=>Nat.succ_le_succ (Zcl r i)
theorem foldl_rep(its:List Value):∀(k:Nat) (acc:List Value),
  List.foldl (λx1 x2=>x1++x2) acc.toArray (List.replicate k its.toArray)=(acc++(List.replicate k its).flatten).toArray
 |0,acc=>by simp
 |k+1,acc=>by
  have e:acc.toArray++its.toArray=(acc++its).toArray:=by simp
  have e2:(acc++its)++(List.replicate k its).flatten=acc++(List.replicate (k+1) its).flatten:=by
   rw[List.replicate_succ,List.flatten_cons,List.append_assoc]
  rw[<-e2,<-foldl_rep its k (acc++its),<-e,List.replicate_succ,List.foldl_cons]
section
variable{X:Cx}{pins:List (Addr×Obj)}{σ:St}{H:Hp}{s:Shared}{l b:Addr}{xs ys zs:List V}
theorem Inv.lset{its its':List Value}{n:Nat}{f:Array Value->Array Value}{t':Nat}(I:Inv X pins σ H s)(hH:H l=some (.lst xs))(e:s.heap.get? l=some { cls:=.type "list",data:=.seq its.toArray n })(hf:f its.toArray=its'.toArray)(hv:Vals ys its')(hz:ys.length<=sizeLine):
  Inv X pins σ (upd H l (.lst ys)) { s with heap:=s.heap.update l (Obj.mapSeq f),toks:=t' }:=by
 have q:=PySem.IsL.update e f
 rw[hf]at q
 refine I.write (x:=l) (e:=l) (by rw[hH];exact trivial) (.inl rfl) (λb' u hb hu=>(Heap.get?_update_other s.heap (Obj.mapSeq f) (Ne.symm hb)).trans hu) ⟨_,q⟩ ?_
 exact⟨hz,its',_,hv,q⟩
theorem Inv.lnew{its:List Value}{t':Nat}(I:Inv X pins σ H s)(hv:Vals ys its)(hz:ys.length<=sizeLine):
  Inv X pins σ (upd H s.heap.objs.size (.lst ys)) { s with heap:=s.heap.push { cls:=.type "list",data:=.seq its.toArray },toks:=t' }:=
 I.laid (λ_ _ q=>Heap.get?_push_of_some _ q) (Nat.le_refl _) ⟨hz,its,0,hv,Heap.get?_push_size _ rfl⟩
theorem Inv.fresh(I:Inv X pins σ H s):H s.heap.objs.size=none:=I.hok.fresh (Nat.le_refl _)
theorem Inv.lstM(I:Inv X pins σ H s)(hH:H l=some (.lst xs)):xs.length<=sizeLine/\∃(its:List Value) (n:Nat),Vals xs its/\xs.length=its.length/\s.heap.get? l=some { cls:=.type "list",data:=.seq its.toArray n }:=by
 obtain⟨z,its,n,r,e⟩:=I.hok l _ hH
 exact⟨z,its,n,r,r.length,e⟩
theorem ZdJ{n:Nat}(h:n<=sizeLine):Builtin.List.listTooLong n=false:=by
 unfold Builtin.List.listTooLong
 exact decide_eq_false (by omega)
end
section
variable{X:Cx}
noncomputable def ZiY:V->List V->Hp->VK->Prop:=λx vs H Q=>∃l xs y,x=.ref l/\vs=[y]/\H l=some (.lst xs)/\xs.length<sizeLine/\Q .non (upd H l (.lst (xs++[y])))
theorem ZfY:MtM X "list.append" ZiY:=by
 intro pins s σ H x vs v us Q I rx rv h
 obtain⟨l,xs,y,rfl,rfl,hH,hz,q⟩:=h
 cases rx
 obtain⟨u,rfl,ru⟩:=rv.one
 obtain⟨z,its,n,r,hl,e⟩:=I.lstM hH
 refine call_meets F.slot_list_append ⟨_,e,rfl⟩ F.entry_list_append (F.args_list_append_2 _ _) (PySem.list_append l its.toArray n u (by rw[List.size_toArray];omega)) ⟨e,?_⟩
 refine⟨.non,_,I.lset (its':=its++[u]) hH e (by simp) (r.append (.cons ru .nil)) ?_,rfl,q⟩
 rw[List.length_append,List.length_singleton]
 omega
noncomputable def ZiX:V->List V->Hp->VK->Prop:=λx vs H Q=>∃l b xs zs,x=.ref l/\vs=[.ref b]/\H l=some (.lst xs)/\H b=some (.lst zs)/\xs.length+zs.length<=sizeLine/\Q .non (upd H l (.lst (xs++zs)))
theorem ZfX:MtM X "list.extend" ZiX:=by
 intro pins s σ H x vs v us Q I rx rv h
 obtain⟨l,b,xs,zs,rfl,rfl,hH,hB,hz,q⟩:=h
 cases rx
 obtain⟨u,rfl,ru⟩:=rv.one
 cases ru
 obtain⟨z,its,n,r,hl,e⟩:=I.lstM hH
 obtain⟨z2,its2,n2,r2,hl2,e2⟩:=I.lstM hB
 have hsz:its.toArray.size+its2.toArray.size<=sizeLine:=by rw[List.size_toArray,List.size_toArray];omega
 have hlong:¬(!its.toArray.isEmpty&&Builtin.List.listTooLong (its.toArray.size+its2.toArray.size))=true:=by
  rw[ZdJ hsz,Bool.and_false]
  exact Bool.false_ne_true
 refine call_meets F.slot_list_extend ⟨_,e,rfl⟩ F.entry_list_extend (F.args_list_extend_2 _ _)
  (AutoSeq1.list_extend_list_list_0 l its.toArray n b its2.toArray n2 hlong (by rw[List.size_toArray];omega) (by omega)) ⟨e,e2,?_⟩
 refine⟨.non,_,I.lset (its':=its++its2) hH e (by simp) (r.append r2) ?_,rfl,q⟩
 rw[List.length_append]
 omega
noncomputable def rPopAt:V->List V->Hp->VK->Prop:=λx vs H Q=>∃l xs i k y,x=.ref l/\vs=[.int i]/\H l=some (.lst xs)/\-(2^63)<=i/\i<2^63/\seqIndex? i xs.length=some k/\xs[k]?=some y/\Q y (upd H l (.lst (xs.eraseIdx k)))
theorem ZhC:MtM X "list.pop" rPopAt:=by
 intro pins s σ H x vs v us Q I rx rv h
 obtain⟨l,xs,i,k,y,rfl,rfl,hH,h1,h2,hk,hy,q⟩:=h
 cases rx
 obtain⟨u,rfl,ru⟩:=rv.one
 obtain⟨t,rfl⟩:=ru
 obtain⟨z,its,n,r,hl,e⟩:=I.lstM hH
 obtain⟨w,hw,rw'⟩:=r.get hy
 refine call_meets F.slot_list_pop ⟨_,e,rfl⟩ F.entry_list_pop (F.args_list_pop_2 _ _)
  (MeetsSeq.list_pop_at l its.toArray n i t k w (fitsIndex_both h1 h2) (by rw[List.size_toArray,<-hl];exact hk) (by rw[<-Array.getElem?_toList];exact hw) (by rw[List.size_toArray];omega)) ⟨e,?_⟩
 refine⟨y,_,I.lset (its':=its.eraseIdx k) hH e ?_ (r.eraseIdx k) ?_,rw',q⟩
 ·show its.toArray.eraseIdxIfInBounds k=(its.eraseIdx k).toArray
  rw[List.eraseIdxIfInBounds_toArray]
 ·have:=Zcl xs k
  omega
noncomputable def rCat:R2:=λx y H Q=>∃l b xs zs,x=.ref l/\y=.ref b/\H l=some (.lst xs)/\H b=some (.lst zs)/\xs.length+zs.length<=sizeLine/\∀p,H p=none->Q (.ref p) (upd H p (.lst (xs++zs)))
theorem op_cat:OpR X (binaryOp .Add) rCat:=by
 intro pins s σ H x y v u Q I rx ry h
 obtain⟨l,b,xs,zs,rfl,rfl,hH,hB,hz,q⟩:=h
 cases rx
 cases ry
 obtain⟨z,its,n,r,hl,e⟩:=I.lstM hH
 obtain⟨z2,its2,n2,r2,hl2,e2⟩:=I.lstM hB
 refine PySem.P.add_list e e2 ?_ (by rw[List.size_toArray,List.size_toArray];omega)
 have ea:its.toArray++its2.toArray=(its++its2).toArray:=by simp
 rw[ea]
 exact⟨.ref _,_,I.lnew (t':=s.toks) (r.append r2) (by rw[List.length_append];omega),rfl,q _ I.fresh⟩
noncomputable def rRep:R2:=λx y H Q=>∃l k xs,x=.ref l/\y=.int k/\H l=some (.lst xs)/\-(2^63)<=k/\k<2^63/\xs.length*k.toNat<=sizeLine /\
 ∀p,H p=none->Q (.ref p) (upd H p (.lst (List.replicate k.toNat xs).flatten))
theorem len_rep{α:Type}(xs:List α)(k:Nat):(List.replicate k xs).flatten.length=k*xs.length:=by
 induction k with
 |zero=>simp
 |succ k ih=>rw[List.replicate_succ,List.flatten_cons,List.length_append,ih,Nat.succ_mul,Nat.add_comm]
theorem op_rep:OpR X (binaryOp .Mult) rRep:=by
 intro pins s σ H x y v u Q I rx ry h
 obtain⟨l,k,xs,rfl,rfl,hH,h1,h2,hz,q⟩:=h
 cases rx
 obtain⟨t,rfl⟩:=ry
 obtain⟨z,its,n,r,hl,e⟩:=I.lstM hH
 have hlen:its.toArray.size*k.toNat<=sizeLine:=by rw[List.size_toArray,<-hl];exact hz
 have hcap:¬its.toArray.size*k.toNat>(2^63-1) / 8:=by
  have:(sizeLine:Nat)<=(2^63-1) / 8:=by decide
  omega
 have hfit:¬(!Builtin.List.listFitsIndex k)=true:=by
  rw[fitsIndex_both h1 h2]
  exact Bool.false_ne_true
 have hlong:¬Builtin.List.listTooLong (its.toArray.size*k.toNat)=true:=by
  rw[ZdJ hlen]
  exact Bool.false_ne_true
 have hnew:List.foldl (λx1 x2=>x1++x2) #[] (List.replicate (if its.toArray.isEmpty=true then 0 else k.toNat) its.toArray)=(List.replicate k.toNat its).flatten.toArray:=by
  have f0:∀m:Nat,List.foldl (λx1 x2=>x1++x2) #[] (List.replicate m its.toArray)=(List.replicate m its).flatten.toArray:=λm=>by
   have:=foldl_rep its m []
   rw[List.nil_append]at this
   exact this
  rw[f0]
  cases its with
  |nil=>simp
  |cons a r'=>rw[if_neg (by simp)]
 refine wpAny_binaryOp_repeat_ref (T:="list") (U:="int") (by decide) ⟨_,e,rfl⟩ (λs'=>typeIs_int s' k t) noFill_list_mul F.fills_int_mul F.slot_int_rmul repeat_list F.slot_int_index.lookup
  (call_meets F.slot_int_rmul (typeIs_int s k t) F.entry_int_rmul (F.args_int_rmul_2 _ _) (int___rmul___int_list k t l its.toArray n)
   ⟨e,rfl,⟨_,e,rfl⟩,call_meets F.slot_list_mul ⟨_,e,rfl⟩ F.entry_list_mul (F.args_list_mul_2 _ _) (AutoListH.list___mul___list_int_3 l its.toArray n k t hfit hcap hlong) ⟨e,?_⟩⟩)
 rw[hnew]
 exact⟨.ref _,_,I.lnew (t':=s.toks) (r.rep k.toNat) (by rw[len_rep,Nat.mul_comm];exact hz),rfl,q _ I.fresh⟩
end
section
variable{prog:Program}{w:World}{A:Around}{E:Value->Shared->Prop}{s:Shared}
set_option maxRecDepth 100000 in
end
end L2
namespace Att
open PySem PySem.W PySem.Calls PyProof.Rows
theorem Zau{P:Params}{h:Heap}:∀(ns:List Int) (vs:List Value),WellAll P h vs (ns.map WData.int)->IntsAre vs ns:=by
 intro ns
 induction ns with
 |nil =>
  intro vs w
  rw[List.map_nil]at w
  cases w
  exact .nil
 |cons n ns ih =>
  intro vs w
  rw[List.map_cons]at w
  cases w with
  |cons a b =>
   cases a
   exact .cons _ _ (ih _ b)
theorem Zfo{l:OpenLaw}{n:Nat}(hn:l.most=some n){P:Params}{h:Heap}{args:List WData}{vals:List Value}(hpre:l.row.toRowW.claim.pre args=true)(hwl:WellAll P h vals args):
  ∃a vs ns,vals=[Value.ref a]/\args=[WData.list (ns.map WData.int)]/\h.get? a=some { cls:=.type "list",data:=.seq vs.toArray }/\IntsAre vs ns/\ns.length<=n:=by
 have hsh:WShape.hasAll [] args [.list .int]=true:=(pre_splitW hpre).1
 have hc:l.pre.holds [] { args:=args }=true:=(pre_splitW hpre).2
 obtain⟨d,r,rfl,h1,h2⟩:=hasAllW_cons hsh
 obtain rfl:=hasAllW_nil h2
 obtain⟨xs,rfl,h3⟩:=hasW_list h1
 obtain⟨ns,rfl⟩:=items_int h3
 have hlen:ns.length<=n:=by
  unfold OpenLaw.pre at hc
  have h4:(WTm.not (.lt (.lit (.int (n:Int))) (.len (.arg 0)))).holds [] { args:=[.list (ns.map .int)] }=true:=by
   have h4:=(holds_andW hc).1
   rw[hn]at h4
   exact h4
  have h5:=condW_of h4 (w_not (w_lt w_lit (w_len_list (w_arg rfl))))
  rw[List.length_map]at h5
  refine Nat.le_of_not_lt λq=>?_
  have q':(n:Int)<((ns.length:Nat):Int):=by omega
  first
   |(rw[decide_eq_true q']at h5;exact absurd h5 (by decide))
   |(simp at h5;omega)
 cases hwl with
 |cons w1 w2 =>
  cases w2
  cases w1 with
  |list ho hall=>exact⟨_,_,ns,rfl,rfl,ho,Zau ns _ hall,hlen⟩
theorem ZfC(l:OpenLaw)(args:List WData):l.row.toRowW.claim.post args (.bool true) args=true:=
 postW_of (r:=l.row.toRowW) (X:=(true==true))
  (show WShape.has [] (.bool true) .bool=true by first|rfl|decide|simp[WShape.has,WShape.arms,WShape.armsAll])
  (show(WTm.eq .res (.lit (.bool true))).value [] { args:=args,res:=some (.bool true),after:=args }=some (.bool (true==true))from w_eq_bool (w_res rfl) w_lit) rfl
theorem attach_call{l:OpenLaw}{n:Nat}{q:Program}{loose:List Str}{XP:(Str->Option Value)->Heap->Prop}{YP:World->Heap->Prop}{d:DefRec}(hn:l.most=some n)(hdf:d.params.defaults=[])(call:∀(w:World) (s₀ s₁:Shared) (mg mb:Str->Option Value) (fa:Addr) (o:Obj) (pm cd doc:Value) (a:Addr) (vs:List Value) (ns:List Int),
   Ground q loose [] XP w s₀ mg mb s₁.heap->YP w s₁.heap ->
   s₁.heap.get? fa=some o->o.data=.func (docDef d.name d.params d.body d.scope pm cd doc)->s₁.heap.CodeRec cd d.name->mg d.name=some (.ref fa) ->
   s₁.heap.get? a=some { cls:=.type "list",data:=.seq vs.toArray }->IntsAre vs ns->ns.length<=n->s₁.gens=#[] ->
   codeAny (model l.prog w) callerA (.call (.ref fa) ⟨[.ref a],[]⟩) (λr s'=>r=.ok (.ret (.bool true))/\OldK s₁.heap s'.heap/\s'.os=s₁.os/\AllBare s'.gens) s₁):
  WalkO q loose XP YP l.row.toRowW d [] (λf vs=>PySem.call f vs):=by
 intro w s₀ s₁ mg mb G Y fa o pm cd doc dV kV ho hd hcd hD hmg hg args vals as hpre hlay hrd hwl hlo
 obtain rfl:dV=.none:=Dflts.none hD hdf
 obtain rfl:kV=.none:=Dflts.noKw hD
 obtain⟨a,vs,ns,rfl,rfl,hobj,hints,hlen⟩:=Zfo hn hpre hwl
 refine enter_call (codeAny_mono (call w s₀ s₁ mg mb fa o pm cd doc a vs ns G Y ho (fd_plain hd) hcd hmg hobj hints hlen hg) λr s' hq=>?_)
 obtain⟨rfl,h2,h3,h4⟩:=hq
 exact⟨.inl ⟨.bool true,.bool true,[],rfl,λ_=>rfl,.bool true,ZfC l _,λ_=>⟨List.Pairwise.nil,λ_ hm=>(nomatch hm)⟩⟩,h2,h3,h4⟩
end Att
namespace L2
open PySem PySem.Spec PyProof.Rows
theorem ZbV:∀{vs:List Value}{ns:List Int},IntsAre vs ns->Vals (ns.map V.int) vs
 |_,_,.nil=>.nil
 |_,_,.cons n t h=>.cons ⟨t,rfl⟩ (ZbV h)
noncomputable def Only(H:Hp):Prop:=∀b,H b=none∨∃o xs,H b=some (.frz o (.lst xs))
theorem law_call{P:Program}{w:World}{K:Frag}{mg mb:Str->Option Value}{CX:CXT}{k:Nat}{fa a:Addr}{fd:FuncData}{x:Str}{sp:Sp}{s₁:Shared}{vs:List Value}{ns:List Int}(KX:K.In s₁.heap)(hns:s₁.heap.Ns mainGlobals mg)(hb:s₁.heap.Ns builtinsNs mb)(hbb:∀x:Str,x≠"__name__"->mb x=bootBuiltins x)(hlim:s₁.heap.NoLimit)(hg:s₁.gens=#[])(ha:s₁.heap.get? a=some { cls:=.type "list",data:=.seq vs.toArray })(hi:IntsAre vs ns)(hl:ns.length<=sizeLine)(hr:Room k callerA)(F:∀base:Heap,K.In base->base.Ns mainGlobals mg->FnOk P w K mg base CX k fa fd [x] sp)(hbind:∀(s:Shared) (u:Value),BindsTo s fd ⟨[u],[]⟩ [(x,u)])(hsp:∀H:Hp,Only H->SqL K H a (ns.map V.int)->sp [.ref a] H (λv _=>v=.bl true) λ_ _ _=>False)(hCX:∀H e s',CX [] H s₁ (λ_ _ _=>False) e s'->False):
  codeAny (model P w) callerA (.call (.ref fa) ⟨[.ref a],[]⟩) (λr s'=>r=.ok (.ret (.bool true))/\OldK s₁.heap s'.heap/\s'.os=s₁.os/\AllBare s'.gens) s₁:=by
 have rv:=ZbV hi
 have lenV:=hi.length
 -- from an abstract heap in which nothing but the script may be tracked
 have core:∀H:Hp,Only H->SqL K H a (ns.map V.int)->HOk P w H s₁.heap->(∀b,H b≠none->b=a)->(H a≠none->K.lookup a=none) ->
   codeAny (model P w) callerA (.call (.ref fa) ⟨[.ref a],[]⟩) (λr s'=>r=.ok (.ret (.bool true))/\OldK s₁.heap s'.heap/\s'.os=s₁.os/\AllBare s'.gens) s₁:=by
  intro H hO hS hok hA hK
  have base_of:∀{b:Addr}{o:Obj},s₁.heap.get? b=some o->H b=none->(hidT s₁.heap H).get? b=some o:=λe n=>ZhH e n
  have noA:∀{b:Addr}{o:Obj}{es:Array DictEntry}{ep:Nat},s₁.heap.get? b=some o->o.data=.dict es ep->H b=none:=λ{b o es ep} e d=>by
   cases q:H b with
   |none=>rfl
   |some u =>
    have e':b=a:=hA b (by rw[q];simp)
    subst e'
    rw[ha]at e;cases e
    have d':Data.seq vs.toArray _=Data.dict es ep:=d
    cases d'
  have nsK:∀{b:Addr}{m:Str->Option Value},s₁.heap.Ns b m->(hidT s₁.heap H).Ns b m:=λ{b m} ⟨o,es,ep,e,d,r⟩=>⟨o,es,ep,base_of e (noA e d),d,r⟩
  have hKb:K.In (hidT s₁.heap H):=λb o e=>base_of (KX b o e) (by
   cases q:H b with
   |none=>rfl
   |some u =>
    have e':b=a:=hA b (by rw[q];simp)
    subst e'
    rw[hK (by rw[q];simp)]at e;cases e)
  have hM:Mod K mg (hidT s₁.heap H):=⟨hKb,nsK hns,⟨mb,nsK hb,hbb⟩,let⟨mc,h1,h2⟩:=hlim;⟨mc,nsK h1,h2⟩⟩
  have e0:Env0 P w K mg (hidT s₁.heap H) callerA [] s₁ H:=⟨rfl,hM,λb o e=>ZjC e,Nat.le_of_eq (Zgh _ _),trivial,λb hb=>absurd (show b∈([]:List Addr)from hb) (by simp),hok,.of_eq hg⟩
  refine codeAny_mono ((F _ hKb (nsK hns)).run callerA [] s₁ H ⟨[.ref a],[]⟩ [.ref a] [.ref a] _ _ hr e0 (hbind s₁ (.ref a)) (.cons rfl .nil) (hsp H hO hS)) λr s' h=>?_
  cases r with
  |error e=>exact(hCX H e s' h).elim
  |ok fl =>
   cases fl with
   |next=>exact False.elim h
   |brk=>exact False.elim h
   |cont=>exact False.elim h
   |ret u =>
    obtain⟨v,H',os,bare,un,hok',r',q⟩:=h
    have q':v=.bl true:=q
    subst q'
    obtain rfl:u=Value.bool true:=r'
    refine⟨rfl,OldK.of_keep λb o e=>?_,os,bare⟩
    cases q:H b with
    |none=>exact un.keep b o e q (by intro z;exact absurd (show b∈([]:List Addr)from z) (by simp)) (by simp)
    |some u =>
     rcases hO b with z|⟨ob,xs,z⟩
     ·rw[q]at z;cases z
     ·have z2:=un.frzs b ob _ z
      obtain⟨e1,_⟩:=hok b _ z
      obtain⟨e2,_⟩:=hok' b _ z2
      rw[e]at e1;cases e1
      exact e2
 cases hk:K.lookup a with
 |some o =>
  -- the script is one of the module's own objects
  have e:=KX a o hk
  rw[ha]at e
  cases e
  refine core (λ_=>none) (λ_=>.inl rfl) (.inr ⟨_,vs.toArray,_,hk,rfl,rfl,rfl,by rw[List.size_toArray,lenV];exact hl,by simpa using rv⟩) (λb u z=>by have z':(none:Option HO)=some u:=z;cases z') (λb z=>absurd rfl z) λz=>absurd rfl z
 |none =>
  refine core (λb=>if b=a then some (.frz { cls:=.type "list",data:=.seq vs.toArray } (.lst (ns.map V.int)))else none) (λb=>?_) (.inl (.inr ⟨{ cls:=.type "list",data:=.seq vs.toArray },if_pos rfl⟩)) (λb u z=>?_) (λb z=>?_) λ_=>hk
  ·by_cases hb:b=a
   ·exact .inr ⟨_,_,if_pos hb⟩
   ·exact .inl (if_neg hb)
  ·by_cases hb:b=a
   ·have z':=(if_pos hb).symm.trans z
    cases z'
    subst hb
    exact⟨ha,by rw[List.length_map];exact hl,vs,_,rv,ha⟩
   ·have z':=(if_neg hb).symm.trans z
    cases z'
  ·by_cases hb:b=a
   ·exact hb
   ·exact absurd (if_neg hb) z
theorem walk_of{l:OpenLaw}{n k:Nat}{q:Program}{loose:List Str}{XP:(Str->Option Value)->Heap->Prop}{YP:World->Heap->Prop}{d:DefRec}{K:Params->Frag}{CX:World->CXT}{sp:World->Sp}{x:Str}(hn:l.most=some n)(hn2:n<=sizeLine)(hdf:d.params.defaults=[])(hr:Room k callerA)(hY:∀(w:World) (h:Heap),YP w h->(K w.params).In h)(F:∀(w:World) (mg:Str->Option Value) (fa:Addr) (h:Heap),(K w.params).In h->h.Ns mainGlobals mg->mg d.name=some (.ref fa) ->
   ∃fd:FuncData,(∀(s:Shared) (u:Value),BindsTo s fd ⟨[u],[]⟩ [(x,u)]) /\
    ∀base:Heap,(K w.params).In base->base.Ns mainGlobals mg->FnOk l.prog w (K w.params) mg base (CX w) k fa fd [x] (sp w))(hsp:∀(w:World) (H:Hp) (a:Addr) (ns:List Int),ns.length<=n->Only H->SqL (K w.params) H a (ns.map V.int)->sp w [.ref a] H (λv _=>v=.bl true) λ_ _ _=>False)(hCX:∀(w:World) (H:Hp) (s:Shared) (e:Value) (s':Shared),CX w [] H s (λ_ _ _=>False) e s'->False):
  PySem.W.WalkO q loose XP YP l.row.toRowW d [] (λf vs=>PySem.call f vs):=by
 refine Att.attach_call hn hdf λw s₀ s₁ mg mb fa o pm cd doc a vs ns G Y ho hd hcd hmg hobj hints hlen hg=>?_
 have KX:=hY w _ Y
 obtain⟨fd,hb,hF⟩:=F w mg fa _ KX G.T.g hmg
 exact law_call KX G.T.g G.T.b G.T.builtins G.T.nolimit hg hobj hints (Nat.le_trans hlen hn2) hr hF hb (λH hO hS=>hsp w H a ns hlen hO hS) λH e s'=>hCX w H s₁ e s'
noncomputable def Jg(s:Stmt):Arguments:=match s with
 |.FunctionDef _ a _ _ _ _ _ _ _ _=>a
 |_=>{ posonlyargs:=[],args:=[],vararg:=none,kwonlyargs:=[],kw_defaults:=[],kwarg:=none,defaults:=[] }
noncomputable def Qi(s:Stmt):List Stmt:=match s with
 |.FunctionDef _ _ b _ _ _ _ _ _ _=>b
 |_=>[]
noncomputable def Ze(s:Stmt):Scope:=match s with
 |.FunctionDef _ _ _ _ _ _ sc _ _ _=>sc
 |_=>{ kind:=.function,names:=[],isGenerator:=false,isCoroutine:=false }
noncomputable abbrev CX0:CXT:=λ_ _ _ _ _ _=>False
structure Fun (K:Frag) (x qual:Str) (st:Stmt) (f:Addr) (fd:FuncData):Prop where
 ex:∃(oc:Value) (od:Option Addr) (kV doc pm:Value) (an:Option Addr) (cdv ct:Value) (osl:Array (Option Value)),
  fd=fnOf x qual (Jg st) (Qi st) (Ze st) .none kV doc pm an cdv ct/\K.lookup f=some ⟨oc,od,.func fd,osl⟩/\codeIn K cdv qual=true
 kp:keepIn K (.ref f)=true
section
variable{P:Program}{w:World}{K:Frag}{mg:Str->Option Value}{base:Heap}
theorem Fun.binds{x qual:Str}{st:Stmt}{f:Addr}{fd:FuncData}{ps:List Str}(F:Fun K x qual st f fd)(h:∀(kV doc pm:Value) (an:Option Addr) (cdv ct:Value) (us:List Value),us.length=ps.length->bindArgs (fnOf x qual (Jg st) (Qi st) (Ze st) .none kV doc pm an cdv ct) ⟨us,[]⟩=pure (ps.zip us)):Binds K fd ps []:=by
 obtain⟨oc,od,kV,doc,pm,an,cdv,ct,osl,rfl,lk,hcd⟩:=F.ex
 exact .all (h kV doc pm an cdv ct)
theorem Zit{x qual:Str}{st:Stmt}{f:Addr}{oc:Value}{od an:Option Addr}{osl:Array (Option Value)}{kV doc pm cdv ct:Value}(l:K.lookup f=some ⟨oc,od,.func (fnOf x qual (Jg st) (Qi st) (Ze st) .none kV doc pm an cdv ct),osl⟩)(c:codeIn K cdv qual=true)(k:keepIn K (.ref f)=true):Fun K x qual st f (fnOf x qual (Jg st) (Qi st) (Ze st) .none kV doc pm an cdv ct):=⟨⟨oc,od,kV,doc,pm,an,cdv,ct,osl,rfl,l,c⟩,k⟩
end
theorem iteF{A B:Prop}(h:B):if false=true then A else B:=by
 rw[if_neg Bool.false_ne_true]
 exact h
theorem iteT{A B:Prop}(h:A):if true=true then A else B:=by
 rw[if_pos rfl]
 exact h
noncomputable def Same(H H':Hp):Prop:=∀b o,H b=some o->H' b=some o
end L2
end
namespace L2
open PySem PySem.Spec PyProof.Rows
section
variable{κ:Type}[DecidableEq κ]
noncomputable def valV(kvs:List (κ×V))(k:κ):Option V:=(kvs.find? λkv=>decide (kv.1=k)).map (·.2)
noncomputable def putK(kvs:List (κ×V))(k:κ)(v:V):List (κ×V):=
 if(kvs.any λkv=>decide (kv.1=k))=true then kvs.map (λkv=>if kv.1=k then(kv.1,v)else kv)else kvs++[(k,v)]
noncomputable def dropK(kvs:List (κ×V))(k:κ):List (κ×V):=kvs.filter λkv=>decide (kv.1≠k)
end
noncomputable abbrev KT(H:Hp):List (List Key×V)->List (List Key×Addr×Value)->Prop:=Paired λp q=>p.1=q.1/\H q.2.1=some (.tup (p.1.map kV))/\RelV p.2 q.2.2
noncomputable def DGet(H:Hp)(a:Addr)(y:V)(r:Option V):Prop:=
 (∃kvs k,Rd H a (.dK kvs)/\y=kV k/\r=valV kvs k)∨∃kvs k b,Rd H a (.dT kvs)/\y=.ref b/\H b=some (.tup (k.map kV))/\r=valV kvs k
noncomputable def DPut(H:Hp)(a:Addr)(y v:V)(H':Hp):Prop:=
 (∃kvs k,H a=some (.dK kvs)/\y=kV k/\kvs.length<sizeLine/\H'=upd H a (.dK (putK kvs k v))) ∨
 ∃kvs k b,H a=some (.dT kvs)/\y=.ref b/\H b=some (.tup (k.map kV))/\kvs.length<sizeLine/\H'=upd H a (.dT (putK kvs k v))
noncomputable def mergeK(kvs more:List (Key×V)):List (Key×V):=more.foldl (λacc kv=>putK acc kv.1 kv.2) kvs
end L2
namespace Mi
open PySem PySem.Spec PyProof.Rows L2
theorem ZbD(t:SetTable)(n:Nat):(t.orStandIn n).led=t.led:=by unfold SetTable.orStandIn;split<;>rfl
theorem Zaq(t:SetTable)(n:Nat)(h:t.plain=false):(t.orStandIn n).plain=false:=by unfold SetTable.orStandIn;split<;>first|exact h|rfl
theorem ZeC(t:SetTable)(es:Array (Int×Value))(h:Int)(x:Value):(layNew t es h x).2.1.led=t.led:=by
 unfold layNew
 split
 ·exact ZbD _ _
 ·rfl
theorem Zcm(t:SetTable)(es:Array (Int×Value))(h:Int)(x:Value)(hp:t.plain=false):(layNew t es h x).2.1.plain=false:=by
 unfold layNew
 split
 ·exact Zaq _ _ hp
 ·rfl
theorem Za5{t t':SetTable}{hs:Array Int}{n:Nat}{o:Array Nat}(h:t.relaid hs n=some (t',o)):t'.led=t.led/\t'.plain=t.plain:=by
 unfold SetTable.relaid SetTable.laid at h
 simp only[Option.bind_eq_bind]at h
 obtain⟨w,_,h2⟩:=Option.bind_eq_some_iff.mp h
 cases h2
 exact⟨rfl,rfl⟩
theorem Zb8(t:SetTable)(es:Array (Int×Value))(n:Nat):(relayAll t es n).2.1.led=t.led:=by
 unfold relayAll
 split
 ·rename_i t' o h
  dsimp only
  split
  ·exact(Za5 h).1
  ·rfl
 ·rfl
theorem ZaR(t:SetTable)(es:Array (Int×Value))(n:Nat)(hp:t.plain=false):(relayAll t es n).2.1.plain=false:=by
 unfold relayAll
 split
 ·rename_i t' o h
  dsimp only
  split
  ·exact(Za5 h).2.trans hp
  ·rfl
 ·rfl
structure SetE (prog:Program) (w:World) (led:Bool) (o:Obj) (D:List Str) (es:Array (Int×Value)) (ep:Nat) (t:SetTable):Prop where
 ex:o.ExactSet
 data:o.data=.set es ep t
 el:ElemsOf (PySem.strKind prog w) es.toList
 txs:(es.toList.map λe=>strOf e.2).Perm D
 nd:D.Nodup
 room:es.size<scanBound
 fits:t.fits es.size=true
 led:t.led=led
 plain:es.size≠0->t.plain=false
noncomputable def SetS(prog:Program)(w:World)(led:Bool)(h:Heap)(a:Addr)(D:List Str):Prop:=∃o es ep t,h.get? a=some o/\SetE prog w led o D es ep t
theorem Zat{x:Str}{v:Value}(h:Value.isStrOf x v=true):strOf v=x:=by
 obtain⟨t,rfl⟩:=Value.isStrOf_shape h
 rfl
section
variable{prog:Program}{w:World}{A:Around}{E:Value->Shared->Prop}{s:Shared}{led:Bool}
theorem ZgW{v:Value}(h:∃k,(PySem.strKind prog w).is k v=true):Value.isStrOf (strOf v) v=true:=by
 obtain⟨k,hk⟩:=h
 have hk:Value.isStrOf k v=true:=hk
 rw[Zat hk]
 exact hk
theorem ZdO{es:List (Int×Value)}(he:ElemsOf (PySem.strKind prog w) es)(k:Str):(∃e∈es,(PySem.strKind prog w).is k e.2=true)↔k∈es.map λe=>strOf e.2:=by
 constructor
 ·rintro ⟨e,he,hk⟩
  exact List.mem_map.mpr ⟨e,he,Zat hk⟩
 ·intro h
  obtain⟨e,hm,rfl⟩:=List.mem_map.mp h
  obtain⟨⟨k,hk,_⟩,_⟩:=he e hm
  exact⟨e,hm,ZgW ⟨k,hk⟩⟩
theorem add_str{a:Addr}{D:List Str}{x:Str}{tk:Tok}{Q:Bool->Shared->Prop}(hS:SetS prog w led s.heap a D)(hroom:D.length+1<scanBound)(h:∀h' b,Heap.SameBut a s.heap h'->SetS prog w led h' a (if x∈D then D else D++[x])->Q b { s with heap:=h' }):
  wpAny (model prog w) A (setAddHashed a (.str x tk) (hashStr w x)) Q E s:=by
 obtain⟨o,es,ep,t,ho,hE⟩:=hS
 have hex:=hE.ex
 have hd:=hE.data
 have hel:=hE.el
 have hf:=hE.fits
 have hkey:(PySem.strKind prog w).is x (.str x tk)=true:=by show Value.isStrOf x (.str x tk)=true;simp[Value.isStrOf]
 have hsc:(Value.str x tk).scannable=true:=rfl
 have hlen:es.size=D.length:=by rw[<-hE.txs.length_eq,List.length_map,Array.length_toList]
 show wpAny (model prog w) A (setAddHashed a (.str x tk) ((PySem.strKind prog w).hash x)) Q E s
 unfold setAddHashed setAddHashedIn
 refine wpAny_holding (wpAny_bind (wpAny_setState_of ho hd hf ?_))
 dsimp only
 rw[byScan_of hsc hE.room hel]
 simp only[↓reduceIte]
 unfold setAddByScan
 refine wpAny_bind ?_
 refine wpAny_bind (wpAny_rule ?_)
 refine wpAny_bind (wpAny_setScan_of hkey ho hd hf hel ?_)
 cases hr:List.findIdx? (λe=>(PySem.strKind prog w).is x e.2) es.toList with
 |some j =>
  dsimp only
  obtain⟨hj,hpj,_⟩:=List.findIdx?_eq_some_iff_getElem.mp hr
  have hm:x∈D:=hE.txs.mem_iff.mp ((ZdO hel x).mp ⟨_,List.getElem_mem hj,hpj⟩)
  refine wpAny_pure (wpAny_pure ?_)
  have:=h s.heap false (Heap.SameBut.refl a s.heap) (by rw[if_pos hm];exact⟨o,es,ep,t,ho,hE⟩)
  exact this
 |none =>
  dsimp only
  have hm:x∉D:=λhx=>by
   obtain⟨e,he,hp⟩:=(ZdO hel x).mpr (hE.txs.mem_iff.mpr hx)
   have:=List.findIdx?_eq_none_iff.mp hr e he
   rw[hp]at this
   exact Bool.noConfusion this
  have hgw:∀(b:Bool) (s₁:Shared) (Q':Unit->Shared->Prop),Q' () s₁->wpAny (model prog w) A (match b with|true=>rule "set.scan.the-table-gave-way" | false=>pure ()) Q' E s₁:=
   λb s₁ Q' hq=>by cases b<;>first|exact wpAny_pure hq|exact wpAny_rule hq
  have hperm:=layNew_perm t es ((PySem.strKind prog w).hash x) (.str x tk)
  have hfits:=layNew_fits t es ((PySem.strKind prog w).hash x) (.str x tk)
  have hled:=ZeC t es ((PySem.strKind prog w).hash x) (.str x tk)
  have hplain:=Zcm t es ((PySem.strKind prog w).hash x) (.str x tk)
  generalize hL:layNew t es ((PySem.strKind prog w).hash x) (.str x tk)=L at hperm hfits hled hplain ⊢
  obtain⟨es1,t1,wasDummy,gave⟩:=L
  dsimp only at hperm hfits hled hplain ⊢
  rw[Array.toList_push]at hperm
  have hel1:ElemsOf (PySem.strKind prog w) es1.toList:=(hel.push hkey hsc).perm hperm
  have hsz1:es1.size=es.size+1:=by rw[<-Array.length_toList,hperm.length_eq,List.length_append,Array.length_toList];rfl
  have hb1:es1.size<scanBound:=by omega
  have hst1:(es1.toList.map λe=>strOf e.2).Perm (D++[x]):=by
   refine(hperm.map _).trans ?_
   rw[List.map_append]
   exact hE.txs.append_right _
  have hnd:(D++[x]).Nodup:=by
   rw[List.nodup_append]
   refine⟨hE.nd,by simp,λy hy z hz=>?_⟩
   rw[List.mem_singleton.mp hz]
   exact λe=>hm (e▸hy)
  -- the end,at a table that is plain no more
  have fin:∀t2:SetTable,t2.led=led->t2.plain=false->t2.fits es1.size=true->wpAny (model prog w) A (do
    storeSet a es1 t2
    if(!wasDummy&&t2.tooFull)=true then do
      (match(relayAll t2 es1 (SetTable.grown es1.size)).2.2 with|true=>rule "set.scan.the-table-gave-way" | false=>pure ())
      storeSet a (relayAll t2 es1 (SetTable.grown es1.size)).1 (relayAll t2 es1 (SetTable.grown es1.size)).2.1
      pure (some true)
     else pure (some true)) (λr s'=>match r with
      |some b=>Q b s'
      |none=>False) E s:=λt2 hl2 hp2 hf2=>by
   have hg1:(s.heap.update a (Obj.putSet es1 t2)).get? a=some { o with data:=.set es1 (ep+1) t2 }:=by
    have:=Heap.get?_update_self (Obj.putSet es1 t2) ho (by rw[putSet_of es1 t2 hd];rfl)
    rw[putSet_of es1 t2 hd]at this
    exact this
   have hsb1:=Heap.SameBut.update s.heap a (Obj.putSet es1 t2)
   refine wpAny_bind (wpAny_storeSet_of ho hd ?_ (fits_of_scanBound hb1))
   split
   ·have hp:=relayAll_perm t2 es1 (SetTable.grown es1.size)
    have hfr:=relayAll_fits t2 es1 (SetTable.grown es1.size)
    have hrl:=Zb8 t2 es1 (SetTable.grown es1.size)
    have hrp:=ZaR t2 es1 (SetTable.grown es1.size) hp2
    generalize relayAll t2 es1 (SetTable.grown es1.size)=Rl at hp hfr hrl hrp ⊢
    obtain⟨es2,t3,gave2⟩:=Rl
    dsimp only at hp hfr hrl hrp ⊢
    have hsz:es2.size=es1.size:=by rw[<-Array.length_toList,hp.length_eq,Array.length_toList]
    refine wpAny_bind (hgw _ _ _ ?_)
    refine wpAny_bind (wpAny_storeSet_of hg1 rfl ?_ (fits_of_scanBound (by omega)))
    have hg2:((s.heap.update a (Obj.putSet es1 t2)).update a (Obj.putSet es2 t3)).get? a=some { o with data:=.set es2 (ep+1+1) t3 }:=
     Heap.get?_update_self (Obj.putSet es2 t3) hg1 rfl
    refine wpAny_pure (h _ true (hsb1.trans (Heap.SameBut.update _ a _)) ?_)
    rw[if_neg hm]
    exact⟨_,es2,_,t3,hg2,⟨hex,rfl,hel1.perm hp,(hp.map _).trans hst1,hnd,by omega,hfr,hrl.trans hl2,λ_=>hrp⟩⟩
   ·refine wpAny_pure (h _ true hsb1 ?_)
    rw[if_neg hm]
    exact⟨_,es1,_,t2,hg1,⟨hex,rfl,hel1,hst1,hnd,hb1,hf2,hl2,λ_=>hp2⟩⟩
  refine wpAny_bind (hgw _ _ _ ?_)
  have done:∀{r:Option Bool}{s':Shared},(match r with
    |some b=>Q b s'
    |none=>False)->wpAny (model prog w) A (match r with
     |some added=>pure added
     |none=>setAddHashedIn a (.str x tk) ((PySem.strKind prog w).hash x) 99999) Q E s':=λ{r s'} hr=>by
   cases r with
   |none=>exact hr.elim
   |some b=>exact wpAny_pure hr
  split
  ·refine wpAny_bind ?_
   rw[hashByValue_scannable 8 hsc]
   refine wpAny_pure ?_
   exact wpAny_mono (fin { t1 with plain:=false } (hled.trans hE.led) rfl (SetTable.fits_plain_off hfits)) (λr s' hr=>done hr) λ_ _ e=>e
  ·rename_i hpl
   refine wpAny_bind (wpAny_pure ?_)
   simp only[↓reduceIte]
   exact wpAny_mono (fin t1 (hled.trans hE.led) (by simpa using hpl) hfits) (λr s' hr=>done hr) λ_ _ e=>e
noncomputable def dd(val:Nat->Str):Nat->List Str
 |0=>[]
 |i+1=>if val i∈dd val i then dd val i else dd val i++[val i]
noncomputable abbrev Zc9(w:World):Bool:=!w.params.followText "set-order"
theorem SetS.at'{h h':Heap}{a:Addr}{D:List Str}(hS:SetS prog w led h a D)(k:∀o,h.get? a=some o->h'.get? a=some o):SetS prog w led h' a D:=by
 obtain⟨o,es,ep,t,ho,hE⟩:=hS
 exact⟨o,es,ep,t,k o ho,hE⟩
theorem Zgj{h:Heap}{a:Addr}{led:Bool}(ha:h.get? a=some { cls:=.type "set",dict:=none,data:=.set #[] 0 (.fresh 0 0 led) }):SetS prog w led h a []:=
 ⟨_,#[],0,_,ha,⟨⟨rfl,rfl,rfl⟩,rfl,λe he=>by simp at he,List.Perm.nil,List.nodup_nil,by unfold scanBound;decide,rfl,rfl,λh=>absurd rfl h⟩⟩
set_option maxHeartbeats 3200000 in
end
end Mi
namespace PySem.F
theorem Q6:Manifest.owners.lookup (String.ofList ['r','o','t','a','r','e','t','i','_','t','e','s'].reverse)=some Manifest.sig_set_iterator:=by kernel_rfl
theorem slot_set_iterator_next:Slot "set_iterator" "__next__" "set_iterator.__next__" :=
 .of (owner:="set_iterator") (n:="__next__") (by rw[typeLookup_type,builtinLookup_eq_fast];kernel_rfl) (by decide +kernel) (by decide +kernel) (by decide +kernel)
  (by first|exact .inl (by decide +kernel)|exact .inr (by decide +kernel)) (by rw[isSubtype_type];kernel_rfl)
theorem entry_set_iterator_next:entryFor table "set_iterator.__next__" = some Builtin.«set_iterator.__next__»:=entryFor_of_tree (by kernel_rfl)
theorem args_set_iterator_next_1(a:Value):argsOk "set_iterator.__next__" ⟨[a],[]⟩:=by
 unfold argsOk;rw[signature?_of (id:="set_iterator.__next__") (n:=['_','_','t','x','e','n','_','_']) (o:=['r','o','t','a','r','e','t','i','_','t','e','s']) (by kernel_rfl) Q6];kernel_rfl
theorem entry_set_iter_here:entryFor table "set.__iter__" = some Builtin.«frozenset.__iter__»:=entryFor_alias (id':="frozenset.__iter__") (by kernel_rfl) rfl (by decide +kernel) (by kernel_rfl)
end PySem.F
namespace Mi
open PySem PySem.Spec PyProof.Rows L2
section
variable{M:Model}{A:Around}{E:Value->Shared->Prop}{s:Shared}
theorem ZdZ{src:Source}{n:Nat}{Q:Nat->Shared->Prop}(hn:n≠0)(h:∀i d,i<n->Q i { s with drawn:=d }):wpAny M A (choose src n) Q E s:=
 λΓ p hΓ=>⟨hn,h _ _ (Nat.mod_lt _ (Nat.pos_of_ne_zero hn))⟩
theorem Jp{α:Type}:∀(l:List α) (i:Nat) (h:i<l.length),(l[i]::l.eraseIdx i).Perm l
 |_::_,0,_=>.refl _
 |x::l,i+1,h=>by
  have h':i<l.length:=by simpa using h
  show(l[i]::x::l.eraseIdx i).Perm (x::l)
  exact(List.Perm.swap ..).trans ((Jp l i h').cons x)
theorem Zap{α:Type}:∀(n:Nat) (xs:List α) {s:Shared}{Q:List α->Shared->Prop},xs.length=n->(∀ys d,ys.Perm xs->Q ys { s with drawn:=d })->wpAny M A (drawOrder n xs) Q E s
 |0,xs,s,Q,hl,h=>by
  have e:xs=[]:=List.eq_nil_of_length_eq_zero hl
  subst e
  unfold drawOrder
  exact wpAny_pure (h [] s.drawn .nil)
 |n+1,[],s,Q,hl,h=>by simp at hl
 |n+1,x::xs,s,Q,hl,h=>by
  unfold drawOrder
  refine wpAny_bind (ZdZ (by simp) λi d hi=>?_)
  have e:(x::xs)[i]?=some (x::xs)[i]:=List.getElem?_eq_getElem hi
  rw[e]
  dsimp only
  refine wpAny_bind (Zap n ((x::xs).eraseIdx i) (by rw[List.length_eraseIdx_of_lt hi,hl];rfl) λys d' hp=>?_)
  exact wpAny_pure (h _ d' ((hp.cons _).trans (Jp _ _ hi)))
theorem Zca{α:Type}(next:Nat->Nat):∀(fuel k:Nat) (left:List α) (out:Array α),left.length=fuel->(pickOrder.go next fuel k left out).toList.Perm (out.toList++left)
 |0,k,left,out,h=>by
  have e:left=[]:=List.eq_nil_of_length_eq_zero h
  subst e
  unfold pickOrder.go
  rw[List.append_nil]
 |fuel+1,k,left,out,h=>by
  unfold pickOrder.go
  have hi:next k%left.length<left.length:=Nat.mod_lt _ (by omega)
  rw[List.getElem?_eq_getElem hi]
  dsimp only
  refine(Zca next fuel (k+1) _ _ (by rw[List.length_eraseIdx_of_lt hi];omega)).trans ?_
  rw[Array.toList_push,List.append_assoc]
  exact(Jp left _ hi).append_left _
theorem picked{α:Type}(next:Nat->Nat)(xs:Array α):(pickOrder next xs).toList.Perm xs.toList:=by
 unfold pickOrder
 exact Zca next xs.size 0 xs.toList #[] (by simp)
end
section
variable{prog:Program}{w:World}{A:Around}{E:Value->Shared->Prop}{s:Shared}
noncomputable def Qy(h:Heap)(it a:Addr)(first:Value)(i n ep:Nat):Prop:=∃o,h.get? it=some o/\o.cls=.type "set_iterator"/\o.data=.fields #[first,.int i 0,.ref a,.int n 0,.int ep 0]
theorem Qy.typeIs{it a:Addr}{first:Value}{i n ep:Nat}(h:Qy s.heap it a first i n ep):s.TypeIs (.ref it) "set_iterator":=let⟨o,ho,hc,_⟩:=h;⟨o,ho,hc⟩
theorem Zex{it a tp:Addr}{i:Nat}{ep:Nat}{o:Obj}{es:Array (Int×Value)}{t:SetTable}{pl:Array Value}{pp:Nat}{e:Int×Value}{Q:Option Value->Shared->Prop}(h:Qy s.heap it a (.ref tp) i es.size ep)(ha:s.heap.get? a=some o)(hd:o.data=.set es ep t)(hf:t.fits es.size=true)(htp:s.heap.IsTuple tp pl)(hp:pl[i]?=some (.int pp 0))(he:es[pp]?=some e)(q:∀h',Qy h' it a (.ref tp) (i+1) es.size ep->Heap.SameBut it s.heap h'->Q (some e.2) { s with heap:=h' }):wpAny (model prog w) A (pyNext (.ref it)) Q E s:=by
 obtain⟨oi,hoi,hci,hdi⟩:=id h
 obtain⟨ot,hot,_,nt,hdt⟩:=htp
 unfold pyNext
 refine wpAny_bind (wpAny_attempt (wpAny_callSpecial?_slot (name:=Str.ofString "__next__") h.typeIs PySem.F.slot_set_iterator_next (wpAny_call_entry PySem.F.slot_set_iterator_next h.typeIs PySem.F.entry_set_iterator_next ?_ (PySem.F.args_set_iterator_next_1 _))))
 unfold Builtin.«set_iterator.__next__» slotArgs
 simp only[List.isEmpty_nil,Bool.not_true,Bool.false_eq_true,↓reduceIte,bind_assoc,List.length_nil,bne_self_eq_false]
 refine wpAny_bind (wpAny_pure ?_)
 dsimp only
 refine wpAny_bind (wpAny_fieldsOf hoi hdi ?_)
 dsimp only
 refine wpAny_bind (wpAny_setEntries_of ha hd hf ?_)
 simp only[bne_self_eq_false,Bool.false_eq_true,↓reduceIte]
 refine wpAny_bind (wpAny_seqItems hot hdt ?_)
 dsimp only
 simp only[Int.toNat_natCast,hp]
 refine wpAny_bind ?_
 unfold setNextDrawn
 refine wpAny_bind (wpAny_setState_of ha hd hf ?_)
 dsimp only
 simp only[bne_self_eq_false,Bool.false_eq_true,↓reduceIte,he]
 refine wpAny_pure ?_
 refine wpAny_bind (wpAny_setField hoi hdi (by simp) (wpAny_pure ⟨_,rfl,wpAny_pure (q _ ⟨_,Heap.get?_update_self _ hoi (Obj.isFreed_of_fields (Obj.data_mapFields hdi _)),(Obj.cls_mapFields ..).trans hci,?_⟩ (Heap.SameBut.update ..))⟩))
 rw[Obj.data_mapFields hdi];simp[rawInt]
theorem Qx{Q:Bool->Shared->Prop}{M:Model}(h:Q (M.w.params.followText "set-order") s):wpAny M A setsByText Q E s:=by
 unfold setsByText
 exact wpAny_bind (wpAny_askSetting (wpAny_pure h))
theorem ZaY{it a:Addr}{f0 f0':Value}{i n ep:Nat}{v:Value}{Q:Value->Shared->Prop}(h:Qy s.heap it a f0 i n ep)(q:∀h',Qy h' it a f0' (i+1) n ep->Heap.SameBut it s.heap h'->Q v { s with heap:=h' }):
  wpAny (model prog w) A (do setField (.ref it) 0 f0';setField (.ref it) 1 (rawInt ((i:Int)+1));ret v) (λfin s'=>∃r,fin=.done (.ret r)/\Q r s') E s:=by
 obtain⟨oi,hoi,hci,hdi⟩:=id h
 refine wpAny_bind (wpAny_setField hoi hdi (by simp) ?_)
 have h1:(s.heap.update it (Obj.mapFields λx=>x.setIfInBounds 0 f0')).get? it=some (Obj.mapFields (λx=>x.setIfInBounds 0 f0') oi):=Heap.get?_update_self _ hoi (Obj.isFreed_of_fields (Obj.data_mapFields hdi _))
 have hd1:(Obj.mapFields (λx=>x.setIfInBounds 0 f0') oi).data=.fields #[f0',.int i 0,.ref a,.int n 0,.int ep 0]:=by rw[Obj.data_mapFields hdi];simp
 refine wpAny_bind (wpAny_setField h1 hd1 (by simp) (wpAny_pure ⟨_,rfl,q _ ⟨_,Heap.get?_update_self _ h1 (Obj.isFreed_of_fields (Obj.data_mapFields hd1 _)),(Obj.cls_mapFields ..).trans ((Obj.cls_mapFields ..).trans hci),?_⟩ ((Heap.SameBut.update ..).trans (Heap.SameBut.update ..))⟩))
 rw[Obj.data_mapFields hd1];simp[rawInt]
theorem ZfU{it a:Addr}{i sl:Nat}{ep:Nat}{o:Obj}{es:Array (Int×Value)}{t:SetTable}{e:Int×Value}{Q:Option Value->Shared->Prop}(hb:w.params.followText "set-order" = true)(h:Qy s.heap it a (.int sl 0) i es.size ep)(ha:s.heap.get? a=some o)(hd:o.data=.set es ep t)(hf:t.fits es.size=true)(he:(pickOrder (w.params.setOrder a ep) es)[i]?=some e)(q:∀h',Qy h' it a (.int sl 0) (i+1) es.size ep->Heap.SameBut it s.heap h'->Q (some e.2) { s with heap:=h' }):wpAny (model prog w) A (pyNext (.ref it)) Q E s:=by
 obtain⟨oi,hoi,hci,hdi⟩:=id h
 unfold pyNext
 refine wpAny_bind (wpAny_attempt (wpAny_callSpecial?_slot (name:=Str.ofString "__next__") h.typeIs PySem.F.slot_set_iterator_next (wpAny_call_entry PySem.F.slot_set_iterator_next h.typeIs PySem.F.entry_set_iterator_next ?_ (PySem.F.args_set_iterator_next_1 _))))
 unfold Builtin.«set_iterator.__next__» slotArgs
 simp only[List.isEmpty_nil,Bool.not_true,Bool.false_eq_true,↓reduceIte,bind_assoc,List.length_nil,bne_self_eq_false]
 refine wpAny_bind (wpAny_pure ?_)
 dsimp only
 refine wpAny_bind (wpAny_fieldsOf hoi hdi ?_)
 dsimp only
 refine wpAny_bind (wpAny_setEntries_of ha hd hf ?_)
 simp only[bne_self_eq_false,Bool.false_eq_true,↓reduceIte]
 refine wpAny_bind ?_
 unfold setNext
 refine wpAny_bind (wpAny_setState_of ha hd hf ?_)
 dsimp only
 refine wpAny_bind (Qx ?_)
 show wpAny _ _ (if w.params.followText "set-order" = true then _ else _) _ _ _
 rw[if_pos hb]
 simp only[Int.toNat_natCast,bne_self_eq_false,Bool.false_eq_true,↓reduceIte]
 refine wpAny_bind ?_
 unfold setWalk
 refine wpAny_bind (wpAny_setState_of ha hd hf ?_)
 dsimp only
 refine wpAny_bind (Qx ?_)
 show wpAny _ _ (if w.params.followText "set-order" = true then _ else _) _ _ _
 rw[if_pos hb]
 refine wpAny_bind (wpAny_askSetting (wpAny_pure ?_))
 refine wpAny_pure ?_
 show wpAny _ _ (match((pickOrder (w.params.setOrder a ep) es)[i]?).map λe=>(e.2,sl)with
  |some (x,next)=>_
  |none=>_) _ _ _
 rw[he]
 exact ZaY h λh' h1 h2=>wpAny_pure (q h' h1 h2)
theorem below0(j:Nat):SetTable.below #[j] 0=0:=by simp[SetTable.below,SetTable.below.go]
theorem below1(j:Nat):SetTable.below #[j] (j+1)=1:=by simp[SetTable.below,SetTable.below.go]
theorem Xb{α:Type}{Q:α->Shared->Prop}(hA:A.handled=none)(q:∀g e,(∀c o,s.heap.get? c=some o->g.get? c=some o)->(∃o,g.get? e=some o/\o.cls=.type "StopIteration")->E (.ref e) { s with heap:=g }):wpAny (model prog w) A (newExc (.type "StopIteration") [] >>= λe=>(raiseNew e:Sem α)) Q E s:=by
 refine wpAny_bind ?_
 simp only[newExc,newTuple]
 refine wpAny_bind (wpAny_newObj_type ?_ (by size_fits))
 refine wpAny_bind (m:=firstArgMember _ _) (wpAny_of_eq (a:=Value.none) (by first|rfl|(simp only[firstArgMember];rfl)) (wpAny_newObj_type ?_ (by size_fits)))
 simp only[raiseNew]
 refine wpAny_bind (wpAny_handled ?_)
 rw[hA]
 exact wpAny_bind (wpAny_pure (wpAny_throw (q _ _ (λc o e=>Heap.get?_push_of_some _ (Heap.get?_push_of_some _ e)) ⟨_,Heap.get?_push_size _ rfl,rfl⟩)))
theorem Zhz{it a:Addr}{ep:Nat}{o:Obj}{e:Int×Value}{t:SetTable}{j:Nat}{Q:Option Value->Shared->Prop}(hb:w.params.followText "set-order" = false)(hled:t.led=true)(hpl:t.place=#[j])(h:Qy s.heap it a (.int 0 0) 0 1 ep)(ha:s.heap.get? a=some o)(hd:o.data=.set #[e] ep t)(hf:t.fits 1=true)(q:∀h',Qy h' it a (.int (j+1:Nat) 0) 1 1 ep->Heap.SameBut it s.heap h'->Q (some e.2) { s with heap:=h' }):wpAny (model prog w) A (pyNext (.ref it)) Q E s:=by
 obtain⟨oi,hoi,hci,hdi⟩:=id h
 unfold pyNext
 refine wpAny_bind (wpAny_attempt (wpAny_callSpecial?_slot (name:=Str.ofString "__next__") h.typeIs PySem.F.slot_set_iterator_next (wpAny_call_entry PySem.F.slot_set_iterator_next h.typeIs PySem.F.entry_set_iterator_next ?_ (PySem.F.args_set_iterator_next_1 _))))
 unfold Builtin.«set_iterator.__next__» slotArgs
 simp only[List.isEmpty_nil,Bool.not_true,Bool.false_eq_true,↓reduceIte,bind_assoc,List.length_nil,bne_self_eq_false]
 refine wpAny_bind (wpAny_pure ?_)
 dsimp only
 refine wpAny_bind (wpAny_fieldsOf hoi hdi ?_)
 dsimp only
 refine wpAny_bind (wpAny_setEntries_of ha hd hf ?_)
 rw[if_neg (by simp)]
 refine wpAny_bind ?_
 unfold setNext
 refine wpAny_bind (wpAny_setState_of ha hd hf ?_)
 dsimp only
 refine wpAny_bind (Qx ?_)
 show wpAny _ _ (if w.params.followText "set-order" = true then _ else _) _ _ _
 rw[if_neg (by rw[hb];decide)]
 split
 ·rename_i hdr
  have hdr:(!t.plain&&decide (1>1))=true:=hdr
  simp at hdr
 ·refine wpAny_bind ?_
  show wpAny _ _ (if(!t.led&&!(#[e]:Array (Int×Value)).isEmpty)=true then _ else _) _ _ _
  rw[if_neg (by rw[hled];simp)]
  refine wpAny_pure ?_
  rw[hpl]
  show wpAny _ _ (pure (match(#[e]:Array (Int×Value))[SetTable.below #[j] 0]?,(#[j]:Array Nat)[SetTable.below #[j] 0]? with
   |some (_,x),some j=>some (x,j+1)
   |_,_=>none)) _ _ _
  rw[below0]
  refine wpAny_pure ?_
  exact ZaY h λh' h1 h2=>wpAny_pure (q h' h1 h2)
theorem Zgq{it a:Addr}{f0:Value}{i n ep:Nat}{Q:Option Value->Shared->Prop}(hA:A.handled=none)(h:Qy s.heap it a f0 i n ep)(b:∀{Q':Fin->Shared->Prop}{E':Value->Shared->Prop},(∀g e,Heap.ExtBut it s.heap g->(∃o,g.get? e=some o/\o.cls=.type "StopIteration")->E' (.ref e) { s with heap:=g })->wpAny (model prog w) A.in1 (Builtin.«set_iterator.__next__» ⟨[.ref it],[]⟩) Q' E' s)(q:∀g,Heap.ExtBut it s.heap g->Q none { s with heap:=g }):wpAny (model prog w) A (pyNext (.ref it)) Q E s:=by
 unfold pyNext
 refine wpAny_bind (wpAny_attempt (wpAny_callSpecial?_slot (name:=Str.ofString "__next__") h.typeIs PySem.F.slot_set_iterator_next (wpAny_call_entry PySem.F.slot_set_iterator_next h.typeIs PySem.F.entry_set_iterator_next (b λg e k he=>?_) (PySem.F.args_set_iterator_next_1 _))))
 obtain⟨o,ho,hc⟩:=he
 exact wpAny_bind (wpAny_isInstance (T:="StopIteration") (b:=true) ⟨o,ho,hc⟩ isSubtype_stop (wpAny_pure (q g k)))
theorem Zgr{it a tp:Addr}{i:Nat}{ep:Nat}{o:Obj}{es:Array (Int×Value)}{t:SetTable}{pl:Array Value}{Q:Option Value->Shared->Prop}(hA:A.handled=none)(h:Qy s.heap it a (.ref tp) i es.size ep)(ha:s.heap.get? a=some o)(hd:o.data=.set es ep t)(hf:t.fits es.size=true)(htp:s.heap.IsTuple tp pl)(hp:pl[i]?=none)(q:∀g,Heap.ExtBut it s.heap g->Q none { s with heap:=g }):wpAny (model prog w) A (pyNext (.ref it)) Q E s:=by
 refine Zgq hA h (λ{Q' E'} r=>?_) q
 obtain⟨oi,hoi,hci,hdi⟩:=id h
 obtain⟨ot,hot,_,nt,hdt⟩:=htp
 unfold Builtin.«set_iterator.__next__» slotArgs
 simp only[List.isEmpty_nil,Bool.not_true,Bool.false_eq_true,↓reduceIte,bind_assoc,List.length_nil,bne_self_eq_false]
 refine wpAny_bind (wpAny_pure ?_)
 dsimp only
 refine wpAny_bind (wpAny_fieldsOf hoi hdi ?_)
 dsimp only
 refine wpAny_bind (wpAny_setEntries_of ha hd hf ?_)
 simp only[bne_self_eq_false,Bool.false_eq_true,↓reduceIte]
 refine wpAny_bind (wpAny_seqItems hot hdt ?_)
 dsimp only
 simp only[Int.toNat_natCast,hp]
 refine wpAny_bind (wpAny_setField hoi hdi (by simp) ?_)
 have h1:(s.heap.update it (Obj.mapFields λx=>x.setIfInBounds 0 (rawInt 0))).get? it=some (Obj.mapFields (λx=>x.setIfInBounds 0 (rawInt 0)) oi):=Heap.get?_update_self _ hoi (Obj.isFreed_of_fields (Obj.data_mapFields hdi _))
 have hd1:(Obj.mapFields (λx=>x.setIfInBounds 0 (rawInt 0)) oi).data=.fields #[rawInt 0,.int i 0,.ref a,.int es.size 0,.int ep 0]:=by rw[Obj.data_mapFields hdi];simp
 refine wpAny_bind (wpAny_setField h1 hd1 (by simp) (Xb (by simp[hA]) λg e k he=>r g e (λc o n x=>?_) he))
 exact k c o (((Heap.SameBut.update ..).trans (Heap.SameBut.update ..)).extBut c o n x)
theorem ZhO{it a:Addr}{i sl:Nat}{ep:Nat}{o:Obj}{es:Array (Int×Value)}{t:SetTable}{Q:Option Value->Shared->Prop}(hA:A.handled=none)(hb:w.params.followText "set-order" = true)(h:Qy s.heap it a (.int sl 0) i es.size ep)(ha:s.heap.get? a=some o)(hd:o.data=.set es ep t)(hf:t.fits es.size=true)(he:(pickOrder (w.params.setOrder a ep) es)[i]?=none)(q:∀g,Heap.ExtBut it s.heap g->Q none { s with heap:=g }):wpAny (model prog w) A (pyNext (.ref it)) Q E s:=by
 refine Zgq hA h (λ{Q' E'} r=>?_) q
 obtain⟨oi,hoi,hci,hdi⟩:=id h
 unfold Builtin.«set_iterator.__next__» slotArgs
 simp only[List.isEmpty_nil,Bool.not_true,Bool.false_eq_true,↓reduceIte,bind_assoc,List.length_nil,bne_self_eq_false]
 refine wpAny_bind (wpAny_pure ?_)
 dsimp only
 refine wpAny_bind (wpAny_fieldsOf hoi hdi ?_)
 dsimp only
 refine wpAny_bind (wpAny_setEntries_of ha hd hf ?_)
 simp only[bne_self_eq_false,Bool.false_eq_true,↓reduceIte]
 refine wpAny_bind ?_
 unfold setNext
 refine wpAny_bind (wpAny_setState_of ha hd hf ?_)
 dsimp only
 refine wpAny_bind (Qx ?_)
 show wpAny _ _ (if w.params.followText "set-order" = true then _ else _) _ _ _
 rw[if_pos hb]
 simp only[Int.toNat_natCast,bne_self_eq_false,Bool.false_eq_true,↓reduceIte]
 refine wpAny_bind ?_
 unfold setWalk
 refine wpAny_bind (wpAny_setState_of ha hd hf ?_)
 dsimp only
 refine wpAny_bind (Qx ?_)
 show wpAny _ _ (if w.params.followText "set-order" = true then _ else _) _ _ _
 rw[if_pos hb]
 refine wpAny_bind (wpAny_askSetting (wpAny_pure ?_))
 refine wpAny_pure ?_
 show wpAny _ _ (match((pickOrder (w.params.setOrder a ep) es)[i]?).map λe=>(e.2,sl)with
  |some (x,next)=>_
  |none=>_) _ _ _
 rw[he]
 refine wpAny_bind (wpAny_setField hoi hdi (by simp) (Xb (by simp[hA]) λg e k he=>r g e (λc o n x=>?_) he))
 exact k c o ((Heap.SameBut.update ..).extBut c o n x)
theorem Zj5{it a:Addr}{i sl:Nat}{ep:Nat}{o:Obj}{es:Array (Int×Value)}{t:SetTable}{Q:Option Value->Shared->Prop}(hA:A.handled=none)(hb:w.params.followText "set-order" = false)(hled:t.led=true)(h:Qy s.heap it a (.int sl 0) i es.size ep)(ha:s.heap.get? a=some o)(hd:o.data=.set es ep t)(hf:t.fits es.size=true)(hs:es.size<=1)(he:es[SetTable.below t.place sl]?=none)(q:∀g,Heap.ExtBut it s.heap g->Q none { s with heap:=g }):wpAny (model prog w) A (pyNext (.ref it)) Q E s:=by
 refine Zgq hA h (λ{Q' E'} r=>?_) q
 obtain⟨oi,hoi,hci,hdi⟩:=id h
 unfold Builtin.«set_iterator.__next__» slotArgs
 simp only[List.isEmpty_nil,Bool.not_true,Bool.false_eq_true,↓reduceIte,bind_assoc,List.length_nil,bne_self_eq_false]
 refine wpAny_bind (wpAny_pure ?_)
 dsimp only
 refine wpAny_bind (wpAny_fieldsOf hoi hdi ?_)
 dsimp only
 refine wpAny_bind (wpAny_setEntries_of ha hd hf ?_)
 simp only[bne_self_eq_false,Bool.false_eq_true,↓reduceIte]
 refine wpAny_bind ?_
 unfold setNext
 refine wpAny_bind (wpAny_setState_of ha hd hf ?_)
 dsimp only
 refine wpAny_bind (Qx ?_)
 show wpAny _ _ (if w.params.followText "set-order" = true then _ else _) _ _ _
 rw[if_neg (by rw[hb];decide)]
 split
 ·rename_i hdr
  have hdr:(!t.plain&&decide (es.size>1))=true:=hdr
  simp at hdr
  omega
 ·refine wpAny_bind ?_
  show wpAny _ _ (if(!t.led&&!es.isEmpty)=true then _ else _) _ _ _
  rw[if_neg (by rw[hled];simp)]
  refine wpAny_pure ?_
  show wpAny _ _ (pure (match es[SetTable.below t.place sl]?,t.place[SetTable.below t.place sl]? with
   |some (_,x),some j=>some (x,j+1)
   |_,_=>none)) _ _ _
  rw[he]
  refine wpAny_pure ?_
  refine wpAny_bind (wpAny_setField hoi hdi (by simp) (Xb (by simp[hA]) λg e k he=>r g e (λc o n x=>?_) he))
  exact k c o ((Heap.SameBut.update ..).extBut c o n x)
end
end Mi
namespace PySem.F
theorem slot_set_iterator_iter:Slot "set_iterator" "__iter__" "set_iterator.__iter__" :=
 .of (owner:="set_iterator") (n:="__iter__") (by rw[typeLookup_type,builtinLookup_eq_fast];kernel_rfl) (by decide +kernel) (by decide +kernel) (by decide +kernel)
  (by first|exact .inl (by decide +kernel)|exact .inr (by decide +kernel)) (by rw[isSubtype_type];kernel_rfl)
theorem entry_set_iterator_iter:entryFor table "set_iterator.__iter__" = some Builtin.«dict_keyiterator.__iter__»:=entryFor_alias (id':="dict_keyiterator.__iter__") (by kernel_rfl) rfl (by decide +kernel) (by kernel_rfl)
theorem args_set_iterator_iter_1(a:Value):argsOk "set_iterator.__iter__" ⟨[a],[]⟩:=by
 unfold argsOk;rw[signature?_of (id:="set_iterator.__iter__") (n:=['_','_','r','e','t','i','_','_']) (o:=['r','o','t','a','r','e','t','i','_','t','e','s']) (by kernel_rfl) Q6];kernel_rfl
end PySem.F
namespace Mi
open PySem PySem.Spec PyProof.Rows L2
section
variable{prog:Program}{w:World}{A:Around}{E:Value->Shared->Prop}{s:Shared}
theorem Qy.at'{h h':Heap}{it a:Addr}{f0:Value}{i n ep:Nat}(x:Qy h it a f0 i n ep)(k:∀o,h.get? it=some o->h'.get? it=some o):Qy h' it a f0 i n ep:=let⟨o,ho,r⟩:=x;⟨o,k o ho,r⟩
inductive SetIt (w:World) (h:Heap) (it a tp:Addr) (vs:List Value) (i:Nat):Prop where
 |drawn {o:Obj}{es:Array (Int×Value)}{ep:Nat}{t:SetTable}{pl:Array Value}:Qy h it a (.ref tp) i es.size ep->h.get? a=some o->o.data=.set es ep t->t.fits es.size=true->h.IsTuple tp pl ->
  (∀(k:Nat) v,vs[k]?=some v->∃(pp:Nat) (e:Int×Value),pl[k]?=some (.int pp 0)/\es[pp]?=some e/\e.2=v)->pl.size=vs.length->SetIt w h it a tp vs i
 |text {o:Obj}{es:Array (Int×Value)}{ep:Nat}{t:SetTable}:w.params.followText "set-order" = true->Qy h it a (.int (0:Nat) 0) i es.size ep->h.get? a=some o->o.data=.set es ep t->t.fits es.size=true ->
  vs=(pickOrder (w.params.setOrder a ep) es).toList.map (·.2)->SetIt w h it a tp vs i
 |few {o:Obj}{es:Array (Int×Value)}{ep:Nat}{t:SetTable}{sl:Nat}:w.params.followText "set-order" = false->t.led=true->Qy h it a (.int sl 0) i es.size ep->h.get? a=some o->o.data=.set es ep t->t.fits es.size=true->es.size<=1 ->
  vs=es.toList.map (·.2)->(i=0/\sl=0∨i=1/\es.size=1/\∃j,t.place=#[j]/\sl=j+1)->SetIt w h it a tp vs i
theorem SetIt.at'{h h':Heap}{it a tp:Addr}{vs:List Value}{i:Nat}(x:SetIt w h it a tp vs i)(k:∀b∈[it,a,tp],∀o,h.get? b=some o->h'.get? b=some o):SetIt w h' it a tp vs i:=by
 cases x with
 |drawn h1 h2 h3 h4 h5 h6 h7=>exact .drawn (h1.at' (k it (by simp))) (k a (by simp) _ h2) h3 h4 (let⟨o,ho,r⟩:=h5;⟨o,k tp (by simp) o ho,r⟩) h6 h7
 |text h0 h1 h2 h3 h4 h5=>exact .text h0 (h1.at' (k it (by simp))) (k a (by simp) _ h2) h3 h4 h5
 |few h0 hl h1 h2 h3 h4 h5 h6 h7=>exact .few h0 hl (h1.at' (k it (by simp))) (k a (by simp) _ h2) h3 h4 h5 h6 h7
theorem ZfD{t:SetTable}(h:t.fits 1=true):∃j,t.place=#[j]:=by
 unfold SetTable.fits at h
 simp only[Bool.and_eq_true,beq_iff_eq]at h
 have h1:=h.1
 rcases hp:t.place with⟨l⟩
 rw[hp]at h1
 match l,h1 with
 |[j],_=>exact⟨j,rfl⟩
theorem Zfk(hA:A.handled=none){it a tp:Addr}{vs:List Value}:Walks prog w A it [it,a,tp] [it] vs.length (λi v=>vs[i]?=some v) (λi h=>SetIt w h it a tp vs i/\a≠it/\tp≠it) where
 sub:=λb hb=>by simp at hb;simp[hb]
 frame:=λ_ _ _ st hk=>⟨st.1.at' hk,st.2⟩
 item:=λi s Q E hi st hQ=>by
  obtain⟨st,na,nt⟩:=st
  have hv:vs[i]?=some vs[i]:=List.getElem?_eq_getElem hi
  cases st with
  |drawn h1 h2 h3 h4 h5 h6 h7 =>
   obtain⟨pp,e,q1,q2,q3⟩:=h6 i _ hv
   refine Zex h1 h2 h3 h4 h5 q1 q2 λh' r hs=>?_
   rw[q3]
   obtain⟨ot,hot,rt⟩:=h5
   exact hQ _ h' s.toks hv ⟨.drawn r (hs.extBut _ _ na h2) h3 h4 ⟨ot,hs.extBut _ _ nt hot,rt⟩ h6 h7,na,nt⟩ λb o hb e=>hs.extBut b o (λh=>hb (by simp[h])) e
  |@text o es ep t h0 h1 h2 h3 h4 h5 =>
   have he:∃e,(pickOrder (w.params.setOrder a ep) es)[i]?=some e/\e.2=vs[i]:=by
    have hv':=hv
    generalize hx:vs[i]=x at hv' ⊢
    rw[h5,List.getElem?_map,Array.getElem?_toList]at hv'
    cases q:(pickOrder (w.params.setOrder a ep) es)[i]? with
    |none=>rw[q]at hv';cases hv'
    |some e=>rw[q]at hv';exact⟨e,rfl,Option.some.inj hv'⟩
   obtain⟨e,he,hev⟩:=he
   refine ZfU h0 h1 h2 h3 h4 he λh' r hs=>?_
   rw[hev]
   exact hQ _ h' s.toks hv ⟨.text h0 r (hs.extBut _ _ na h2) h3 h4 h5,na,nt⟩ λb o hb e=>hs.extBut b o (λh=>hb (by simp[h])) e
  |@few o es ep t sl h0 hl h1 h2 h3 h4 h5 h6 h7 =>
   have hsz:vs.length=es.size:=by rw[h6,List.length_map,Array.length_toList]
   have e1:es.size=1:=by omega
   rcases h7 with⟨rfl,rfl⟩|⟨rfl,_⟩
   ·obtain⟨e,rfl⟩:∃e,es=#[e]:=by
     rcases es with⟨l⟩
     match l,e1 with
     |[e],_=>exact⟨e,rfl⟩
    obtain⟨j,hj⟩:=ZfD h4
    refine Zhz h0 hl hj h1 h2 h3 h4 λh' r hs=>?_
    have hve:e.2=vs[0]:=by simp[h6]
    rw[hve]
    exact hQ _ h' s.toks hv ⟨.few h0 hl r (hs.extBut _ _ na h2) h3 h4 h5 h6 (.inr ⟨rfl,rfl,j,hj,rfl⟩),na,nt⟩ λb o hb e=>hs.extBut b o (λh=>hb (by simp[h])) e
   ·omega
 done:=λs Q E st hQ=>by
  obtain⟨st,na,nt⟩:=st
  have fin:∀g,Heap.ExtBut it s.heap g->Q none { s with heap:=g }:=λg k=>hQ g s.toks λb o hb e=>k b o (λh=>hb (by simp[h])) e
  cases st with
  |drawn h1 h2 h3 h4 h5 h6 h7=>exact Zgr hA h1 h2 h3 h4 h5 (by rw[<-h7];simp) fin
  |@text o es ep t h0 h1 h2 h3 h4 h5=>exact ZhO hA h0 h1 h2 h3 h4 (by rw[h5];simp) fin
  |@few o es ep t sl h0 hl h1 h2 h3 h4 h5 h6 h7 =>
   have hsz:vs.length=es.size:=by rw[h6,List.length_map,Array.length_toList]
   refine Zj5 hA h0 hl h1 h2 h3 h4 h5 ?_ fin
   rcases h7 with⟨h8,rfl⟩|⟨h8,h9,j,hj,rfl⟩
   ·have:es.size=0:=by omega
    simp[this]
   ·rw[hj,below1]
    simp[h9]
 self:=λi s Q E st h=>by
  have hT:s.TypeIs (.ref it) "set_iterator":=by
   cases st.1 with
   |drawn h1=>exact h1.typeIs
   |text _ h1=>exact h1.typeIs
   |few _ _ h1=>exact h1.typeIs
  refine wpAny_pyIter_slot hT PySem.F.slot_set_iterator_iter (wpAny_call_entry PySem.F.slot_set_iterator_iter hT PySem.F.entry_set_iterator_iter ?_ (PySem.F.args_set_iterator_iter_1 _))
  show wpAny _ _ (ret (.ref it)) _ _ s
  exact wpAny_pure ⟨_,rfl,"set_iterator",_,hT,PySem.F.slot_set_iterator_next.lookup,h⟩
noncomputable def ZbS(vs:List Value)(D:List Str):Prop:=(∀v∈vs,∃x t,v=.str x t)/\(vs.map strOf).Perm D
theorem Zbl{led:Bool}{o:Obj}{D:List Str}{es:Array (Int×Value)}{ep:Nat}{t:SetTable}(hE:SetE prog w led o D es ep t){l:List (Int×Value)}(hp:l.Perm es.toList):ZbS (l.map (·.2)) D:=by
 constructor
 ·intro v hv
  obtain⟨e,he,rfl⟩:=List.mem_map.mp hv
  obtain⟨⟨k,hk,_⟩,_⟩:=hE.el e (hp.mem_iff.mp he)
  obtain⟨u,hu⟩:=Value.isStrOf_shape hk
  exact⟨k,u,hu⟩
 ·rw[List.map_map]
  exact(hp.map (strOf ∘ λe:Int×Value=>e.2)).trans hE.txs
theorem range_list:∀l:List (Int×Value),(List.range l.length).filterMap (λp=>l[p]?)=l
 |[]=>rfl
 |x::l=>by
  rw[List.length_cons,List.range_succ_eq_map,List.filterMap_cons,List.filterMap_map]
  show x::(List.range l.length).filterMap (λp=>l[p]?)=_
  rw[range_list l]
theorem Zed(es:Array (Int×Value)):((List.range es.size).filterMap λp=>es[p]?)=es.toList:=by
 have:=range_list es.toList
 rw[Array.length_toList]at this
 simpa only[Array.getElem?_toList]using this
theorem Zde{es:Array (Int×Value)}:∀{ys:List Nat},(∀p∈ys,p<es.size)->(ys.filterMap λp=>es[p]?)=ys.map λp=>es[p]?.getD (0,.none)
 |[],_=>rfl
 |p::ys,h=>by
  have hlt:=h p List.mem_cons_self
  rw[List.filterMap_cons,List.map_cons,Zde λq hq=>h q (List.mem_cons_of_mem _ hq)]
  simp[hlt]
theorem ZhE{a:Addr}{D:List Str}{Q:Value->Shared->Prop}(hS:SetS prog w (Zc9 w) s.heap a D)(h:∀(h':Heap) d it tp vs,SetIt w h' it a tp vs 0->a≠it->tp≠it->ZbS vs D->s.heap.objs.size<=it->(tp=a∨s.heap.objs.size<=tp)->tp<h'.objs.size->it<h'.objs.size->(∀b o,s.heap.get? b=some o->h'.get? b=some o)->Q (.ref it) { s with heap:=h',drawn:=d }):
  wpAny (model prog w) A (pyIter (.ref a)) Q E s:=by
 obtain⟨o,es,ep,t,ha,hE⟩:=hS
 have hT:s.TypeIs (.ref a) "set":=⟨o,ha,hE.ex.1⟩
 have hal:=Heap.lt_size ha
 refine wpAny_pyIter_slot hT PySem.F.slot_set_iter (wpAny_call_entry PySem.F.slot_set_iter hT PySem.F.entry_set_iter_here ?_ (PySem.F.args_set_iter_1 _))
 unfold Builtin.«frozenset.__iter__» Builtin.Frozenset.slot0 slotArgs
 simp only[List.isEmpty_nil,Bool.not_true,Bool.false_eq_true,↓reduceIte,bind_assoc,List.length_nil,bne_self_eq_false]
 unfold Builtin.Frozenset.addrOf Builtin.Frozenset.sizeOf
 refine wpAny_bind (wpAny_pure ?_)
 first
  |refine wpAny_bind (wpAny_bind (wpAny_setEntries_of ha hE.data hE.fits (wpAny_pure ?_)))
  |(refine wpAny_bind (wpAny_pure ?_);refine wpAny_bind (wpAny_bind (wpAny_setEntries_of ha hE.data hE.fits (wpAny_pure ?_))))
 refine wpAny_bind ?_
 unfold setDrawn
 refine wpAny_bind (wpAny_setState_of ha hE.data hE.fits ?_)
 dsimp only
 refine wpAny_bind (Qx ?_)
 refine wpAny_pure ?_
 -- what is made at the end
 have made:∀(h1:Heap) (d:_) (first:Value),(∀b o,s.heap.get? b=some o->h1.get? b=some o)->s.heap.objs.size<=h1.objs.size->(∀h':Heap,(∀b o,h1.get? b=some o->h'.get? b=some o)->h'.objs.size=h1.objs.size+1->Qy h' h1.objs.size a first 0 es.size ep->∃tp vs,SetIt w h' h1.objs.size a tp vs 0/\tp≠h1.objs.size/\ZbS vs D/\(tp=a∨s.heap.objs.size<=tp)/\tp<h'.objs.size) ->
   wpAny (model prog w) A.in1 (do
    let e <-setEpoch a
    let r <-newFields "set_iterator" [first,rawInt 0,.ref a,rawInt es.size,rawInt e]
    ret r) (λfin s'=>∃v,fin=.done (.ret v)/\∃T' r,s'.TypeIs v T'/\typeLookup (.type T') "__next__" = pure (some r)/\Q v s') E { s with heap:=h1,drawn:=d }:=λh1 d first k1 z1 mk=>by
  refine wpAny_bind (wpAny_setEpoch_of (s:={ s with heap:=h1,drawn:=d }) (k1 _ _ ha) hE.data hE.fits ?_)
  refine wpAny_bind (wpAny_newObj_type (wpAny_pure ⟨_,rfl,"set_iterator",_,⟨_,Heap.get?_push_size _ rfl,rfl⟩,PySem.F.slot_set_iterator_next.lookup,?_⟩))
  have hz:(h1.push { cls:=.type "set_iterator",data:=.fields [first,rawInt 0,.ref a,rawInt es.size,rawInt ep].toArray }).objs.size=h1.objs.size+1:=Heap.size_push ..
  obtain⟨tp,vs,q1,q2,q3,q4,q5⟩:=mk (h1.push { cls:=.type "set_iterator",data:=.fields [first,rawInt 0,.ref a,rawInt es.size,rawInt ep].toArray }) (λb o e=>Heap.get?_push_of_some _ e) hz ⟨_,Heap.get?_push_size _ rfl,rfl,rfl⟩
  exact h _ d h1.objs.size tp vs q1 (Nat.ne_of_lt (Nat.lt_of_lt_of_le hal z1)) q2 q3 z1 q4 q5 (by rw[hz];exact Nat.lt_succ_self _) λb o e=>Heap.get?_push_of_some _ (k1 b o e)
 cases hb:w.params.followText "set-order" with
 |true =>
  rw[if_neg (by show ¬((!(w.params.followText "set-order")&&_)=true);rw[hb];simp)]
  refine wpAny_bind (wpAny_pure ?_)
  refine made s.heap s.drawn (rawInt 0) (λ_ _ e=>e) (Nat.le_refl _) λh' k hz r=>?_
  exact⟨a,_,.text hb r (k _ _ ha) hE.data hE.fits rfl,Nat.ne_of_lt hal,Zbl hE (picked _ _),.inl rfl,by rw[hz];exact Nat.lt_succ_of_lt hal⟩
 |false =>
  by_cases h2:es.size<=1
  ·rw[if_neg (by
    show ¬((!(w.params.followText "set-order")&&(!t.plain&&decide (es.size>1)))=true)
    simp
    intros
    omega)]
   refine wpAny_bind (wpAny_pure ?_)
   refine made s.heap s.drawn (rawInt 0) (λ_ _ e=>e) (Nat.le_refl _) λh' k hz r=>?_
   exact⟨a,_,.few hb (by rw[hE.led];simp[hb]) (show Qy h' _ a (.int (0:Nat) 0) 0 es.size ep from r) (k _ _ ha) hE.data hE.fits h2 rfl (.inl ⟨rfl,rfl⟩),Nat.ne_of_lt hal,Zbl hE (.refl _),.inl rfl,by rw[hz];exact Nat.lt_succ_of_lt hal⟩
  ·have hpl:=hE.plain (by omega)
   rw[if_pos (by
    show(!(w.params.followText "set-order")&&(!t.plain&&decide (es.size>1)))=true
    rw[hb,hpl]
    simp
    omega)]
   refine wpAny_bind (Zap es.size (List.range es.size) List.length_range λys d hp=>?_)
   refine wpAny_bind (wpAny_newTuple ?_ (by rw[List.length_map,hp.length_eq,List.length_range];exact fits_of_scanBound hE.room))
   have hz1:(s.heap.push { cls:=.type "tuple",data:=.seq (ys.map λ(i:Nat)=>rawInt i).toArray }).objs.size=s.heap.objs.size+1:=Heap.size_push ..
   refine made (s.heap.push { cls:=.type "tuple",data:=.seq (ys.map λ(i:Nat)=>rawInt i).toArray }) d (.ref s.heap.objs.size) (λb o e=>Heap.get?_push_of_some _ e) (by omega) λh' k hz r=>?_
   have hys:∀p∈ys,p<es.size:=λp hm=>List.mem_range.mp (hp.mem_iff.mp hm)
   have hvs:(ys.filterMap λp=>es[p]?).Perm es.toList:=by
    rw[<-Zed es]
    exact hp.filterMap _
   refine⟨s.heap.objs.size,(ys.filterMap λp=>es[p]?).map (·.2),.drawn r (k _ _ (Heap.get?_push_of_some _ ha)) hE.data hE.fits ⟨_,k _ _ (Heap.get?_push_size _ rfl),rfl,_,rfl⟩ ?_ ?_,by rw[hz1];exact Nat.ne_of_lt (Nat.lt_succ_self _),Zbl hE hvs,.inr (Nat.le_refl _),by rw[hz,hz1];exact Nat.lt_succ_of_lt (Nat.lt_succ_self _)⟩
   ·have e:=Zde hys
    intro j v hv
    rw[e,List.map_map,List.getElem?_map]at hv
    cases q:ys[j]? with
    |none=>rw[q]at hv;cases hv
    |some p =>
     rw[q]at hv
     have hlt:=hys p (List.mem_of_getElem? q)
     refine⟨p,es[p],?_,by simp[hlt],?_⟩
     ·simp[q,rawInt]
     ·have:=Option.some.inj hv
      simpa[hlt]using this
   ·rw[Zde hys]
    simp only[List.size_toArray,List.length_map]
theorem Zdk{a:Addr}{D:List Str}{Q:List Value->Shared->Prop}(hA:A.handled=none)(hS:SetS prog w (Zc9 w) s.heap a D)(hz:D.length<=1000)(q:∀h' tk d vs,ZbS vs D->(∀b o,s.heap.get? b=some o->h'.get? b=some o)->s.toks<=tk->s.heap.objs.size<h'.objs.size->Q vs { s with heap:=h',toks:=tk,drawn:=d }):wpAny (model prog w) A (collect (.ref a)) Q E s:=by
 obtain⟨o,es,ep,t,ha,hE⟩:=id hS
 have hal:=Heap.lt_size ha
 have hsz:D.length<=sizeLine:=by rw[sizeLine_eq];omega
 unfold collect
 refine wpAny_bind (wpAny_runValue (codeAny_builtin PySem.F.entry_proto_collect ?_))
 rw[Around.under_plainId PySem.F.plain_proto_collect _]
 show wpAny _ A.in1 (newList [] >>= λl=>again (.builtin "list.__iadd__" ⟨[l,.ref a],[]⟩)) _ _ s
 refine wpAny_bind (wpAny_newObj_type ?_)
 refine wpAny_pure ⟨plainId_quiet PySem.F.plain_list_iadd _,codeAny_builtin PySem.F.entry_list_iadd ?_⟩
 rw[Around.under_plainId PySem.F.plain_list_iadd _]
 have hS₁:SetS prog w (Zc9 w) (s.heap.push { cls:=.type "list",data:=.seq ([]:List Value).toArray }) a D:=hS.at' λo e=>Heap.get?_push_of_some _ e
 have hL₁:(s.heap.push { cls:=.type "list",data:=.seq ([]:List Value).toArray }).get? s.heap.objs.size=some { cls:=.type "list",data:=.seq ([]:List Value).toArray }:=Heap.get?_push_size _ rfl
 have ha₁:(s.heap.push { cls:=.type "list",data:=.seq ([]:List Value).toArray }).get? a=some o:=Heap.get?_push_of_some _ ha
 have hne:s.heap.objs.size≠a:=Nat.ne_of_gt hal
 have h1:Builtin.List.listSameRef (.ref s.heap.objs.size) (.ref a)=false:=by simp[Builtin.List.listSameRef,hne]
 show wpAny _ A.in1 (Builtin.List.listExtendWith (.ref s.heap.objs.size) (.ref a) (.ref s.heap.objs.size)) _ _ _
 unfold Builtin.List.listExtendWith
 have hT:Shared.TypeIs { s with heap:=s.heap.push { cls:=.type "list",data:=.seq ([]:List Value).toArray } } (.ref a) "set":=⟨o,ha₁,hE.ex.1⟩
 refine wpAny_bind (wpAny_typeOf hT ?_)
 rw[if_neg (by rw[h1];decide)]
 refine wpAny_bind (ZhE hS₁ λh' d it tp vs st na nt tx l1 l2 l3 l4 k=>?_)
 have hT':Shared.TypeIs { s with heap:=h',drawn:=d } (.ref a) "set":=⟨o,k _ _ ha₁,hE.ex.1⟩
 refine wpAny_bind (wpAny_holding ?_)
 unfold Builtin.List.listLengthHint
 refine wpAny_bind (wpAny_specialOf hT' PySem.F.slot_set_len.lookup ?_)
 generalize hid:("set.__len__" : String)=id0
 wp_delta
 rw[show splitId id0=some ("set","__len__")from by subst hid;decide +kernel]
 subst hid
 refine wpAny_bind (wpAny_isInstance (b:=true) hT' (by rw[isSubtype_type];kernel_rfl) ?_)
 refine wpAny_bind (m:=typeOf (.ref a)) (wpAny_typeOf hT' ?_)
 refine wpAny_pure ?_
 rw[if_pos (by rfl)]
 refine wpAny_bind (wpAny_rule ?_)
 have hL':h'.get? s.heap.objs.size=some (seqObj "list" #[] 0):=k _ _ hL₁
 refine wpAny_bind ?_
 unfold Builtin.List.listTouch
 refine wpAny_bind (listUpdate_at (s:={ s with heap:=h',drawn:=d }) hL' rfl ?_ (by simp) (by simp[sizeLine_eq]))
 have hL2:=get?_update_seq hL' (λxs=>xs.push Value.none)
 refine listUpdate_at (s:={ s with heap:=h'.update s.heap.objs.size (Obj.mapSeq λxs=>xs.push Value.none),drawn:=d }) hL2 rfl ?_ (by simp[sizeLine_eq]) (by simp[sizeLine_eq])
 have hL3:=get?_update_seq hL2 (λxs=>xs.pop)
 have hse:((#[]:Array Value).push Value.none).pop=#[]:=by simp
 rw[hse]at hL3
 have hSf:s.heap.objs.size∉[it,a,tp]:=by
  have z:(s.heap.push { cls:=.type "list",data:=.seq ([]:List Value).toArray }).objs.size=s.heap.objs.size+1:=Heap.size_push ..
  have l1':s.heap.objs.size+1<=it:=z▸l1
  simp only[List.mem_cons,List.not_mem_nil,or_false,not_or]
  refine⟨Nat.ne_of_lt l1',hne,?_⟩
  rcases l2 with rfl|l2
  ·exact hne
  ·have l2':s.heap.objs.size+1<=tp:=z▸l2
   exact Nat.ne_of_lt l2'
 have hot:∀b∈[it,a,tp],∀o,h'.get? b=some o->((h'.update s.heap.objs.size (Obj.mapSeq λxs=>xs.push Value.none)).update s.heap.objs.size (Obj.mapSeq λxs=>xs.pop)).get? b=some o:=λb hb o e=>by
  have nb:s.heap.objs.size≠b:=λz=>hSf (by rw[z];exact hb)
  rw[Heap.get?_update_other _ _ nb,Heap.get?_update_other _ _ nb]
  exact e
 have hvl:vs.length=D.length:=by rw[<-tx.2.length_eq,List.length_map]
 refine wpAny_pure ⟨plainId_quiet PySem.F.plain_extend_loop _,codeAny_extend_loopS ((Zfk (prog:=prog) (w:=w) (it:=it) (a:=a) (tp:=tp) (vs:=vs) (by simp[hA])).toS) (by omega) _ hSf _ vs.length 0 _ _ _ rfl (Nat.zero_le _) ⟨st.at' hot,na,nt⟩ hL3 (ItemsOf.nil _) λs' acc' c' hm hS' hacc=>?_⟩
 show wpAny _ A (load s.heap.objs.size >>= _) _ _ s'
 refine wpAny_bind (wpAny_load hS' ?_)
 have hacc':acc'.toList=vs:=by
  obtain⟨h1,h2⟩:=hacc
  refine List.ext_getElem? λj=>?_
  rw[Array.getElem?_toList]
  cases qj:acc'[j]? with
  |some v=>rw[h2 j v qj]
  |none =>
   rw[List.getElem?_eq_none]
   have:=Array.getElem?_eq_none_iff.mp qj
   omega
 obtain⟨hh,g',d',tk',os'⟩:=s'
 have eg:g'=s.gens:=hm.gens
 have ed:d'=d:=hm.drawn
 have eo:os'=s.os:=hm.os
 subst eg;subst ed;subst eo
 refine wpAny_pure ?_
 show Q acc'.toList _
 rw[hacc']
 refine q hh tk' d' vs tx (λb o e=>?_) hm.toks (Heap.lt_size hS')
 have nb:s.heap.objs.size≠b:=Nat.ne_of_gt (Heap.lt_size e)
 have nit:b≠it:=λz=>by
  have z1:(s.heap.push { cls:=.type "list",data:=.seq ([]:List Value).toArray }).objs.size=s.heap.objs.size+1:=Heap.size_push ..
  have l1':s.heap.objs.size+1<=it:=z1▸l1
  have:=Heap.lt_size e
  rw[z]at this
  exact absurd (Nat.lt_of_lt_of_le this (Nat.le_of_succ_le l1')) (Nat.lt_irrefl _)
 refine hm.heap b o (by simp only[List.mem_cons,List.not_mem_nil,or_false,not_or];exact⟨λz=>nb z.symm,nit⟩) ?_
 show((h'.update s.heap.objs.size (Obj.mapSeq λxs=>xs.push Value.none)).update s.heap.objs.size (Obj.mapSeq λxs=>xs.pop)).get? b=some o
 rw[Heap.get?_update_other _ _ nb,Heap.get?_update_other _ _ nb]
 exact k b o (Heap.get?_push_of_some _ e)
theorem Zd7{a:Addr}{D:List Str}{Q:Value->Shared->Prop}(hA:A.handled=none)(hS:SetS prog w (Zc9 w) s.heap a D)(hz:D.length<64)(q:∀h' tk d l out ss' e,StrsAre out ss'->ss'.Perm D->sortedS ss'=true->h'.get? l=some (seqObj "list" out.toArray e)->s.heap.objs.size<=l->(∀b o,s.heap.get? b=some o->h'.get? b=some o)->s.toks<=tk->Q (.ref l) { s with heap:=h',toks:=tk,drawn:=d }):
  wpAny (model prog w) A (PySem.call (.builtin "sorted") [.ref a]) Q E s:=by
 refine Calls.call_function_entry kind_sorted plain_sorted entry_sorted (args_sorted1 _) ?_
 unfold Builtin.«sorted»
 refine wpAny_bind (m:=checkCount "sorted" 1 1 _) (wpAny_pure ?_)
 refine wpAny_bind (Zdk (by simp[hA]) hS (by omega) λh' tk d vs tx k ht hlt=>?_)
 have hvl:vs.length=D.length:=by rw[<-tx.2.length_eq,List.length_map]
 refine wpAny_bind (wpAny_newList ?_ (by rw[sizeLine_eq];omega))
 have hoL:(h'.push (seqObj "list" vs.toArray 0)).get? h'.objs.size=some (seqObj "list" vs.toArray 0):=Heap.get?_push_size _ rfl
 have hStr:StrsAre vs (vs.map strOf):=strsAre_map vs tx.1
 refine wpAny_bind (wpAny_holding (wpAny_call_entry slot_list_sort ⟨_,hoL,rfl⟩ entry_list_sort (list_sort_treeK strKind_oneLt hoL hStr.keysOf (λv₁ v₂ rest e=>keyKind_strs (by rw[<-e];exact hStr)) (by omega) λst' a1 a2=>⟨_,rfl,?_⟩) (args_list_sort _)))
 obtain⟨ss',b1,b2,b3⟩:=sorted_out_str hStr a1 a2
 obtain⟨e,he⟩:=sortedHeap_at (out:=(arrOf st').map (·.2)) hoL
 refine wpAny_pure ⟨_,rfl,q _ tk d h'.objs.size ((arrOf st').map (·.2)).toList ss' e b1 (b2.trans tx.2) b3 he (Nat.le_of_lt hlt) (λb o x=>?_) ht⟩
 rw[sortedHeap_old (Nat.ne_of_lt (Heap.lt_size (k b o x))) (by rw[size_push'];exact Nat.lt_succ_of_lt (Heap.lt_size (k b o x)))]
 exact Heap.get?_push_of_some _ (k b o x)
end
end Mi
namespace Mi
open PySem
inductive T where
 |non|bl (b:Bool)|int (i:Int)|str (cs:List Nat)
 |tup (ts:List T)|lst (ts:List T)
 |dct (ks:List L2.Key) (ts:List T)
 |scr (ns:List Int)
 deriving Inhabited
inductive W where
 |t (x:T)|c (i:Nat)|f (a:Nat)|x (cls:Nat) (nms:List Str) (ts:List T)
 deriving Inhabited
noncomputable abbrev Mem:=List (Option (Bool×List T))
structure Exc where
 cls:Nat
 nms:List Str
 flds:List T
inductive Res (a:Type) where
 |ok (x:a) (m:Mem)|exc (x:Exc) (m:Mem)|stuck
noncomputable def Res.bind{a b:Type}(r:Res a)(f:a->Mem->Res b):Res b:=match r with
 |.ok x m=>f x m
 |.exc x m=>.exc x m
 |.stuck=>.stuck
noncomputable abbrev Env:=List (Option W)
inductive B where
 |len|int|str|tuple|list|all|any|sum|min2|max2|sortset|sorted|dict|range1|range2|enum|zip2
 |bool|dget|din|dnot|zip4|lenset|minl|isbis|maxl|sortt|sortn
 deriving DecidableEq
inductive Mt where
 |join|upper|append|pop|popat|insert|clear|count|get|index|split|partition|extend|reverse
 deriving DecidableEq
inductive Ty where
 |int|bool|str|tuple|list|dict
 deriving DecidableEq
inductive Tg where
 |nm (i:Nat)|tp (is:List Nat)
 deriving DecidableEq
mutual
inductive E where
 |var (i:Nat)|gl (k:Nat)|con (x:T)
 |bin (op:Operator) (a b:E)|neg (a:E)|not (a:E)
 |and (a b:E)|or (a b:E)|one (a:E)
 |cmp (op:CmpOp) (a b:E)|chn (op op':CmpOp) (a b c:E)
 |ite (c a b:E)
 |tup (es:Es)|lst (es:Es)|cel (es:Es)|celb (b:B) (es:Es)|celL (a:E)|celA (a b:E)|dsp (ks vs:Es)
 |ix (a b:E)|slc (a lo hi:E)|rev (a:E)|hole
 |call (f:Nat) (es:Es)|blt (b:B) (es:Es)|mth (b:Mt) (o:E) (es:Es)
 |isi (a:E) (ty:Ty)
 |comp (own:Nat) (keep:List Nat) (it:E) (tg:Tg) (cs:Es) (inner:E)
 |more (it:E) (tg:Tg) (cs:Es) (inner:E)
 |emit (a:E)
 |tr (a:E)
 |fnv (j:Nat)|callV (i:Nat) (tab:List (Nat×Nat)) (es:Es)
 |xat (a:E) (cs:List Nat) (nm:Str)|xis (a:E) (yes no:List Nat)
 |ptd (a b:E)
 |fst (es:Es)|gdg (k:Nat) (e:E)|gdn (k:Nat) (neg:Bool) (e:E)|dsn (ks:List (List Nat)) (vs:Es)
inductive Es where
 |nil|cons (e:E) (es:Es)
end
noncomputable def Zt:E->Bool
 |.hole=>true
 |_=>false
inductive S where
 |done
 |asg (i:Nat) (e:E) (k:S)
 |asgT (is:List Nat) (e:E) (k:S)
 |asgC (i:Nat) (e:E) (k:S)
 |asgL (is:List Nat) (e:E) (k:S)
 |set (o i v:E) (k:S)
 |aug (i:Nat) (op:Operator) (e:E) (k:S)
 |ife (c:E) (a b k:S)
 |forr (tg:Tg) (it:E) (body k:S)
 |whil (c:E) (body k:S)
 |ret (e:E) (k:S)|retN (k:S)
 |expr (e:E) (k:S)|pass (k:S)|brk (k:S)|cont (k:S)
 |rse (c:Nat) (nms:List Str) (es:Es) (k:S)|stk
 |tri (b:S) (yes:List Nat) (nm:Option Nat) (h k:S)
noncomputable def lim:Nat:=1000000
noncomputable def nlt:List Nat->List Nat->Bool
 |[],[]=>false
 |[],_::_=>true
 |_::_,[]=>false
 |a::x,b::y=>if a<b then true else if b<a then false else nlt x y
noncomputable def b2i(b:Bool):Int:=if b then 1 else 0
mutual
noncomputable def eqT:T->T->Bool
 |.non,.non=>true
 |.bl a,.bl b=>a==b
 |.bl a,.int b=>b2i a==b
 |.int a,.bl b=>a==b2i b
 |.int a,.int b=>a==b
 |.str a,.str b=>a==b
 |.tup a,.tup b=>eqTs a b
 |.lst a,.lst b=>eqTs a b
 |_,_=>false
noncomputable def eqTs:List T->List T->Bool
 |[],[]=>true
 |a::x,b::y=>eqT a b&&eqTs x y
 |_,_=>false
end
mutual
noncomputable def Zf:Nat->T->Bool
 |_,.non=>true
 |_,.bl _=>true
 |_,.int _=>true
 |_,.str cs=>PyData.strOk ⟨cs.toArray⟩
 |n+1,.tup ts=>Zj n ts
 |n+1,.lst ts=>Zj n ts
 |_,_=>false
noncomputable def Zj:Nat->List T->Bool
 |_,[]=>true
 |n,t::ts=>Zf n t&&Zj n ts
end
noncomputable def flat:T->Bool
 |.non|.bl _|.int _|.str _=>true
 |_=>false
mutual
noncomputable def eqok:Nat->T->Bool
 |_,.non=>true
 |_,.bl _=>true
 |_,.int _=>true
 |_,.str _=>true
 |n+1,.tup ts=>Zj4 n ts
 |n+1,.lst ts=>Zj4 n ts
 |_,_=>false
noncomputable def Zj4:Nat->List T->Bool
 |_,[]=>true
 |n,t::ts=>eqok n t&&Zj4 n ts
end
noncomputable def Zdz:T->Bool
 |.non=>false
 |.bl b=>b
 |.int i=>i != 0
 |.str cs=>!cs.isEmpty
 |.tup ts=>!ts.isEmpty
 |.lst ts=>!ts.isEmpty
 |.dct ks _=>!ks.isEmpty
 |.scr ns=>!ns.isEmpty
noncomputable def ixOf(n:Nat)(i:Int):Option Nat:=if 0<=i then(if i<n then some i.toNat else none)else if -(n:Int)<=i then some (i+n).toNat else none
noncomputable def atT{a:Type}(xs:List a)(i:Int):Option a:=(ixOf xs.length i).bind λj=>xs[j]?
noncomputable def ZeF(n d:Nat):Option Int->Nat
 |none=>d
 |some i=>if i<0 then(i+n).toNat else min i.toNat n
noncomputable def cut{a:Type}(xs:List a)(lo hi:Option Int):List a:=
 (xs.drop (ZeF xs.length 0 lo)).take (ZeF xs.length xs.length hi-ZeF xs.length 0 lo)
noncomputable def repT{a:Type}(xs:List a)(k:Nat):List a:=(List.replicate k xs).flatten
noncomputable def bigN:Nat:=(2^250)^8
noncomputable def small(i:Int):Bool:=decide (i.natAbs<2^64)
noncomputable def Xi(i j:Int):Bool:=small i || small j || (decide (i.natAbs<bigN)&&decide (j.natAbs<bigN))
noncomputable def addT:T->T->Option T
 |.int i,.int j=>some (.int (i+j))
 |.str a,.str b=>if a.length+b.length<=lim then some (.str (a++b))else none
 |.tup a,.tup b=>if a.length+b.length<=lim then some (.tup (a++b))else none
 |.lst a,.lst b=>if a.length+b.length<=lim then some (.lst (a++b))else none
 |_,_=>none
noncomputable def mulT(x y:T):Option T:=match y with
 |.int k=>match x with
  |.int i=>if Xi i k then some (.int (i*k))else none
  |.tup a=>if(-(lim:Int)<=k/\k<=lim)/\a.length*k.toNat<=lim then some (.tup (repT a k.toNat))else none
  |.lst a=>if(-(lim:Int)<=k/\k<=lim)/\a.length*k.toNat<=lim then some (.lst (repT a k.toNat))else none
  |.str a=>if(0<=k/\k<=64)/\a.length<=1000 then some (.str (repT a k.toNat))else none
  |_=>none
 |_=>none
noncomputable def intT(f:Int->Int->Option T)(x y:T):Option T:=match x with
 |.int i=>match y with
  |.int j=>f i j
  |_=>none
 |_=>none
noncomputable def binT(op:Operator)(x y:T):Option T:=
 match op with
 |.Add=>addT x y
 |.Sub=>intT (λi j=>some (.int (i-j))) x y
 |.Mult=>mulT x y
 |.FloorDiv=>intT (λi j=>if 0<j/\j<1073741824 then some (.int (i / j))else none) x y
 |.Mod=>intT (λi j=>if 0<j then some (.int (i%j))else none) x y
 |.Pow=>intT (λi j=>if 0<=j/\j<=1000/\i.natAbs<2^64 then some (.int (i^j.toNat))else none) x y
 |_=>none
noncomputable def augT(op:Operator)(x y:T):Option T:=
 match op,x,y with
 |.Add,.int i,.int j=>some (.int (i+j))
 |.Sub,.int i,.int j=>some (.int (i-j))
 |_,_,_=>none
noncomputable def Zaj(x y:T):Bool:=match x,y with
 |.bl _,.int _=>false
 |.int _,.bl _=>false
 |x,y=>flat x&&flat y
noncomputable def hasT(x:T)(y:T):Option Bool:=
 match y with
 |.tup ts=>if flat x&&ts.all flat then some (ts.any λt=>eqT t x)else none
 |.lst ts=>if flat x&&ts.all flat then some (ts.any λt=>eqT t x)else if Zf 59 x&&Zj 59 ts then some (ts.any λt=>eqT t x)else none
 |_=>none
noncomputable def ZhG(f:Int->Int->Bool)(x y:T):Option Bool:=match x with
 |.int i=>match y with
  |.int j=>some (f i j)
  |_=>none
 |_=>none
noncomputable def ltT(x y:T):Option Bool:=match x with
 |.int i=>match y with
  |.int j=>some (decide (i<j))
  |_=>none
 |.str a=>match y with
  |.str b=>some (nlt a b)
  |_=>none
 |_=>none
noncomputable def inT(x y:T):Option Bool:=match x with
 |.str [a]=>match y with
  |.str b=>some (decide (a∈b))
  |y=>hasT (.str [a]) y
 |.str (a::a'::r)=>match y with
  |.str b=>some (!(Builtin.Str.occurrences ⟨b.toArray⟩ ⟨(a::a'::r).toArray⟩ 0 b.length 1).isEmpty)
  |y=>hasT (.str (a::a'::r)) y
 |x=>hasT x y
noncomputable def sameT(x y:T):Option Bool:=match y with
 |.non=>some (match x with|.non=>true|_=>false)
 |.bl b=>some (match x with|.bl a=>a==b|_=>false)
 |_=>none
noncomputable def cmpT(op:CmpOp)(x y:T):Option Bool:=
 match op with
 |.Lt=>ltT x y
 |.LtE=>ZhG (λi j=>decide (i<=j)) x y
 |.Gt=>ZhG (λi j=>decide (j<i)) x y
 |.GtE=>ZhG (λi j=>decide (j<=i)) x y
 |.Eq=>if Zaj x y || (Zf 60 x&&Zf 60 y)then some (eqT x y)else none
 |.NotEq=>if Zaj x y || (Zf 60 x&&Zf 60 y)then some (!eqT x y)else none
 |.In=>inT x y
 |.NotIn=>(inT x y).map (!·)
 |.Is=>sameT x y
 |.IsNot=>(sameT x y).map (!·)
noncomputable def isT(x:T)(ty:Ty):Bool:=
 match x,ty with
 |.int _,.int=>true
 |.bl _,.int=>true
 |.bl _,.bool=>true
 |.str _,.str=>true
 |.tup _,.tuple=>true
 |.lst _,.list=>true
 |.scr _,.list=>true
 |.dct _ _,.dict=>true
 |_,_=>false
noncomputable def ixT(x i:T):Option T:=
 match x,i with
 |.tup ts,.int k=>atT ts k
 |.lst ts,.int k=>atT ts k
 |.scr ns,.int k=>(atT ns k).map .int
 |.str cs,.int k=>if cs.length<=lim then(atT cs k).map λc=>.str [c]else none
 |_,_=>none
noncomputable def slT(x:T)(lo hi:Option Int):Option T:=
 match x with
 |.tup ts=>some (.tup (cut ts lo hi))
 |.lst ts=>some (.lst (cut ts lo hi))
 |.scr ns=>some (.lst ((cut ns lo hi).map .int))
 |.str cs=>if cs.length<=lim then some (.str (cut cs lo hi))else none
 |_=>none
noncomputable def insT(x:List Nat):List (List Nat)->List (List Nat)
 |[]=>[x]
 |y::r=>if nlt x y then x::y::r else if nlt y x then y::insT x r else y::r
noncomputable def ZM(xs:List (List Nat)):List (List Nat):=xs.foldr insT []
noncomputable def insN(x:List Nat):List (List Nat)->List (List Nat)
 |[]=>[x]
 |y::r=>if nlt y x then y::insN x r else x::y::r
noncomputable def sortN(xs:List (List Nat)):List (List Nat):=xs.foldr insN []
noncomputable def strs?: List T->Option (List (List Nat))
 |[]=>some []
 |.str c::r=>(strs? r).map (c::·)
 |_=>none
noncomputable def ZiO(d:Int)(w:List Nat):Int:=d+(if w==[40]then 1 else 0)-(if w==[41]then 1 else 0)
noncomputable def pgo(x:List Nat):List (List Nat)->Int->List (List Nat)->List (List (List Nat))->List (List (List Nat))
 |[],_,cur,acc=>acc++[cur]
 |w::r,d,cur,acc=>if w==x&&decide (ZiO d w=0)then pgo x r (ZiO d w) [] (acc++[cur])else pgo x r (ZiO d w) (cur++[w]) acc
noncomputable def parted(x:List Nat)(ws:List (List Nat)):List (List (List Nat)):=pgo x ws 0 [] []
noncomputable def ptT(x y:T):Option T:=match x,y with
 |.lst ts,.str c=>(strs? ts).bind λws=>if ws.length<1000 then some (.lst ((parted c ws).map λp=>.lst (p.map .str)))else none
 |_,_=>none
noncomputable def ints?: List T->Option (List Int)
 |[]=>some []
 |.int c::r=>(ints? r).map (c::·)
 |_=>none
noncomputable def bools?: List T->Option (List Bool)
 |[]=>some []
 |.bl c::r=>(bools? r).map (c::·)
 |_=>none
noncomputable def tupI?: T->Option (List Int)
 |.tup ts=>ints? ts
 |_=>none
noncomputable def tups?: List T->Option (List (List Int))
 |[]=>some []
 |t::r=>(tupI? t).bind λk=>(tups? r).map (k::·)
noncomputable def lexI:List Int->List Int->Bool
 |[],[]=>false
 |[],_::_=>true
 |_::_,[]=>false
 |x::xs,y::ys=>if x=y then lexI xs ys else decide (x<y)
noncomputable def insI(x:List Int):List (List Int)->List (List Int)
 |[]=>[x]
 |y::r=>if lexI y x then y::insI x r else x::y::r
noncomputable def sortI(xs:List (List Int)):List (List Int):=xs.foldr insI []
noncomputable def tupT(k:List Int):T:=.tup (k.map .int)
noncomputable def Q5(ts:List T):Option T:=(tups? ts).bind λks=>if ks.Nodup/\ks.length<=900000/\(ks.all λk=>!k.isEmpty)=true then some (.lst ((sortI ks).map tupT))else none
noncomputable def sortnT(ts:List T):Option T:=(ints? ts).bind λns=>if ns.Nodup/\ns.length<=900000 then some (.lst ((sortI (ns.map λn=>[n])).map λk=>.int (k.headD 0)))else none
noncomputable def joinN(sep:List Nat):List (List Nat)->List Nat
 |[]=>[]
 |[x]=>x
 |x::r=>x++sep++joinN sep r
noncomputable def upN(c:Nat):Nat:=if 97<=c/\c<=122 then c-32 else c
noncomputable def asciiN(c:Nat):Bool:=decide (c<128)
noncomputable def decI(i:Int):List Nat:=(Str.ofString (toString i)).cps.toList
noncomputable def rangeT(lo:Int)(n:Nat):List T:=(List.range n).map λk:Nat=>.int (lo+(k:Int))
noncomputable def Zfc(c:Nat):List Nat->List (List Nat)
 |[]=>[[]]
 |a::r=>if a=c then[]::Zfc c r else match Zfc c r with
  |x::xs=>(a::x)::xs
  |[]=>[[a]]
noncomputable def fmtT:T->Option (List Nat)
 |.str cs=>some cs
 |.int i=>if i.natAbs<2^250 then some (decI i)else none
 |_=>none
noncomputable def Zir:T->Option (List T)
 |.tup ts=>some ts
 |.lst ts=>some ts
 |.scr ns=>some (ns.map .int)
 |.str cs=>if cs.length<=lim then some (cs.map λc=>.str [c])else none
 |_=>none
noncomputable def view(w:W)(m:Mem):Option T:=match w with
 |.t x=>some x
 |.f _=>none
 |.x _ _ _=>none
 |.c i=>match m[i]? with
  |some (some (_,ts))=>some (.lst ts)
  |_=>none
noncomputable def pur(o:Option T)(m:Mem):Res W:=match o with
 |some t=>.ok (.t t) m
 |none=>.stuck
noncomputable def frz(w:W)(m:Mem):Res T:=match w with
 |.t x=>.ok x m
 |.f _=>.stuck
 |.x _ _ _=>.stuck
 |.c i=>match m[i]? with
  |some (some (false,ts))=>.ok (.lst ts) (m.set i none)
  |_=>.stuck
noncomputable def frzs:List W->Mem->Res (List T)
 |[],m=>.ok [] m
 |w::ws,m=>(frz w m).bind λt m=>(frzs ws m).bind λts m=>.ok (t::ts) m
noncomputable def views:List W->Mem->Option (List T)
 |[],_=>some []
 |w::ws,m=>(view w m).bind λt=>(views ws m).map (t::·)
noncomputable def ZQ(w:W)(m:Mem):Res (List T):=match w with
 |.f _=>.stuck
 |.x _ _ _=>.stuck
 |.t x=>match Zir x with
  |some ts=>.ok ts m
  |none=>.stuck
 |.c i=>match m[i]? with
  |some (some (_,ts))=>.ok ts (m.set i (some (true,ts)))
  |_=>.stuck
noncomputable def giveBack(w:W)(m0 m:Mem):Mem:=match w with
 |.t _=>m
 |.f _=>m
 |.x _ _ _=>m
 |.c i=>match m0[i]? with
  |some c=>m.set i c
  |none=>m
noncomputable def Z7(tg:Tg)(t:T)(env:Env):Option Env:=match tg with
 |.nm i=>some (env.set i (some (.t t)))
 |.tp is=>match t with
  |.tup ts=>if ts.length=is.length then some ((is.zip ts).foldl (λenv p=>env.set p.1 (some (.t p.2))) env)else none
  |_=>none
noncomputable def one1(f:T->Option T):List T->Option T
 |[x]=>f x
 |_=>none
noncomputable def two2(f:Int->Int->Option T):List T->Option T
 |[.int i,.int j]=>f i j
 |_=>none
noncomputable def bLen:T->Option T
 |.str cs=>if cs.length<=lim then some (.int cs.length)else none
 |.tup ts=>some (.int ts.length)
 |.lst ts=>some (.int ts.length)
 |.scr ns=>some (.int ns.length)
 |_=>none
noncomputable def figV(cs:List Nat):Int:=((cs.foldl (λn c=>n*10+(c-48)) 0:Nat):Int)
noncomputable def bInt:T->Option T
 |.int i=>some (.int i)
 |.bl b=>some (.int (b2i b))
 |.str cs=>if cs≠[]/\cs.length<=600/\cs.all (λc=>decide (48<=c)&&decide (c<=57))=true then some (.int (figV cs))else none
 |_=>none
noncomputable def bStr:T->Option T
 |.int i=>if i.natAbs<2^250 then some (.str (decI i))else none
 |_=>none
noncomputable def bTup:T->Option T
 |.tup ts=>some (.tup ts)
 |.lst ts=>some (.tup ts)
 |.str cs=>if cs.length<=lim then some (.tup (cs.map λc=>.str [c]))else none
 |_=>none
noncomputable def bLst:T->Option T
 |.tup ts=>some (.lst ts)
 |.lst ts=>some (.lst ts)
 |_=>none
noncomputable def ZaS(f:List T->Option T):T->Option T
 |.lst ts=>f ts
 |_=>none
noncomputable def bRng:T->Option T
 |.int i=>if i<2^62/\-(2^62)<=i then some (.lst (rangeT 0 i.toNat))else none
 |_=>none
noncomputable def zipL(xs ys:List T):List T:=List.zipWith (λx y=>.tup [x,y]) xs ys
noncomputable def zipT:List T->Option T
 |[.tup xs,.tup ys]=>if xs.length=ys.length/\xs.length<=lim then some (.lst (zipL xs ys))else none
 |_=>none
noncomputable def ZeV(a b c d:List T):List T:=(a.zip (b.zip (c.zip d))).map λp=>.tup [p.1,p.2.1,p.2.2.1,p.2.2.2]
noncomputable def zip4T:List T->Option T
 |[.lst a,.lst b,.lst c,.lst d]=>if(a.length=b.length/\a.length=c.length/\a.length=d.length)/\a.length<=lim then some (.lst (ZeV a b c d))else none
 |_=>none
noncomputable def ZaU(xs:List T):List T:=List.zipWith (λ(k:Nat) x=>T.tup [.int (k:Int),x]) (List.range xs.length) xs
noncomputable def lensT(ts:List T):Option T:=(strs? ts).bind λxs=>if xs.length<64 then some (.int ((ZM xs).length:Int))else none
noncomputable def minI(n:Int)(ns:List Int):Int:=ns.foldl (λa b=>if b<a then b else a) n
noncomputable def minlT(ts:List T):Option T:=(ints? ts).bind λns=>match ns with
 |[]=>none
 |n::r=>if r.length<64 then some (.int (minI n r))else none
noncomputable def maxI(n:Int)(ns:List Int):Int:=ns.foldl (λa b=>if a<b then b else a) n
noncomputable def maxlT(ts:List T):Option T:=(ints? ts).bind λns=>match ns with
 |[]=>none
 |n::r=>if r.length<64 then some (.int (maxI n r))else none
noncomputable def bIsb:T->Option T
 |.bl _=>some (.bl true)
 |.int _=>some (.bl true)
 |.str _=>some (.bl true)
 |_=>none
noncomputable def keyT:T->Option L2.Key
 |.int i=>some (.inl i)
 |.str cs=>some (.inr ⟨cs.toArray⟩)
 |_=>none
noncomputable def pairs?: List T->Option (List (List Nat×T))
 |[]=>some []
 |.tup [.str k,v]::ts=>(pairs? ts).map ((k,v)::·)
 |_=>none
noncomputable def dctT(ps:List (List Nat×T)):T:=.dct (ps.map λp=>.inr ⟨p.1.toArray⟩) (ps.map (·.2))
noncomputable def bDict:T->Option T
 |.tup ts=>(pairs? ts).bind λps=>if ts.length<=lim/\(ps.map (·.1)).Nodup then some (dctT ps)else none
 |_=>none
noncomputable def Zc7(ks:List L2.Key)(ts:List T)(k:L2.Key):Option T:=((ks.zip ts).find? λp=>decide (p.1=k)).map (·.2)
noncomputable def dGetT:List T->Option T
 |[.dct ks vs,x]=>(keyT x).bind (Zc7 ks vs)
 |_=>none
noncomputable def dInT(neg:Bool):List T->Option T
 |[x,.dct ks vs]=>(keyT x).map λk=>.bl (if neg then !(Zc7 ks vs k).isSome else(Zc7 ks vs k).isSome)
 |_=>none
noncomputable def gDct(o:Option T)(f:List L2.Key->List T->Option T):Option T:=match o with
 |some (.dct ks vs)=>f ks vs
 |_=>none
noncomputable def ZjD(f:List T->Option T):T->Option T
 |.lst ts=>f ts
 |.tup ts=>f ts
 |_=>none
noncomputable def bltT(b:B)(ts:List T):Option T:=
 match b with
 |.len=>one1 bLen ts
 |.int=>one1 bInt ts
 |.str=>one1 bStr ts
 |.tuple=>one1 bTup ts
 |.list=>one1 bLst ts
 |.all=>one1 (ZjD λts=>(bools? ts).map λbs=>.bl (bs.all id)) ts
 |.any=>one1 (ZjD λts=>(bools? ts).map λbs=>.bl (bs.any id)) ts
 |.sum=>one1 (ZaS λts=>(ints? ts).map λns=>.int ns.sum) ts
 |.sortset=>one1 (ZaS λts=>(strs? ts).bind λxs=>if xs.length<64 then some (.lst ((ZM xs).map .str))else none) ts
 |.sorted=>one1 (ZaS λts=>(strs? ts).bind λxs=>if xs.length<64 then some (.lst ((sortN xs).map .str))else none) ts
 |.min2=>two2 (λi j=>some (.int (if j<i then j else i))) ts
 |.max2=>two2 (λi j=>some (.int (if j>i then j else i))) ts
 |.range1=>one1 bRng ts
 |.zip2=>zipT ts
 |.dict=>one1 bDict ts
 |.zip4=>zip4T ts
 |.enum=>one1 (ZaS λts=>if ts.length<=lim then some (.lst (ZaU ts))else none) ts
 |.lenset=>one1 (ZjD lensT) ts
 |.minl=>one1 (ZaS minlT) ts
 |.sortt=>one1 (ZaS Q5) ts
 |.sortn=>one1 (ZaS sortnT) ts
 |.maxl=>one1 (ZaS maxlT) ts
 |.isbis=>one1 bIsb ts
 |.dget=>dGetT ts
 |.din=>dInT false ts
 |.dnot=>dInT true ts
 |.range2=>two2 (λi j=>if(i<2^62/\-(2^62)<=i)/\j<2^62/\-(2^62)<=j then some (.lst (rangeT i (j-i).toNat))else none) ts
 |_=>none
noncomputable def ofBl(f:Bool->Option T):T->Option T
 |.bl b=>f b
 |_=>none
noncomputable def idxT(xs:List T)(b:Bool):Option T:=(bools? xs).bind λbs=>if bs.length<=lim then(bs.findIdx? (·==b)).map λk=>.int (k:Int)else none
noncomputable def cntT(xs:List T)(b:Bool):Option T:=(bools? xs).bind λbs=>if bs.length<=lim then some (.int ((bs.countP (·==b):Nat):Int))else none
noncomputable def cntS(xs:List T)(b:List Nat):Option T:=(strs? xs).bind λbs=>if bs.length<=lim then some (.int ((bs.countP (·==b):Nat):Int))else none
noncomputable def cntO(xs:List T):T->Option T
 |.bl b=>cntT xs b
 |.str b=>cntS xs b
 |_=>none
noncomputable def mthT(b:Mt)(o:T)(ts:List T):Option T:=
 match b with
 |.join=>match o with
  |.str sep=>one1 (ZaS λxs=>(strs? xs).bind λys=>if(ys.map List.length).sum+ys.length*sep.length<=lim then some (.str (joinN sep ys))else none) ts
  |_=>none
 |.index=>match o with
  |.lst xs=>one1 (ofBl (idxT xs)) ts
  |_=>none
 |.count=>match o with
  |.lst xs=>one1 (cntO xs) ts
  |_=>none
 |.get=>match o with
  |.dct ks vs=>one1 (λx=>(keyT x).map λk=>(Zc7 ks vs k).getD .non) ts
  |_=>none
 |.split=>match o with
  |.str cs=>match ts with
   |[.str [c]]=>if cs.length<=900000 then some (.lst ((Zfc c cs).map .str))else none
   |_=>none
  |_=>none
 |.upper=>match o with
  |.str cs=>match ts with
   |[]=>if cs.all asciiN&&decide (cs.length<=lim)then some (.str (cs.map upN))else none
   |_=>none
  |_=>none
 |_=>none
noncomputable def mutM(b:Mt)(xs:List T)(ts:List T):Option (T×List T):=
 match b,ts with
 |.append,[t]=>if xs.length<lim then some (.non,xs++[t])else none
 |.extend,[.lst ys]=>if xs.length+ys.length<=lim then some (.non,xs++ys)else none
 |.insert,[.int i,t]=>if 0<=i/\i<=xs.length/\xs.length<lim then some (.non,xs.take i.toNat++t::xs.drop i.toNat)else none
 |.clear,[]=>some (.non,[])
 |.popat,[.int i]=>match ixOf xs.length i with
  |some k=>(xs[k]?).map λt=>(t,xs.eraseIdx k)
  |none=>none
 |.pop,[]=>match xs.getLast? with
  |some t=>some (t,xs.dropLast)
  |none=>none
 |_,_=>none
noncomputable def doM(b:Mt)(o:W)(ws:List W)(m:Mem):Res W:=match b with
 |.append|.pop|.popat|.insert|.clear|.extend|.reverse=>match o with
  |.c i=>(frzs ws m).bind λts m=>match m[i]? with
   |some (some (false,xs))=>match mutM b xs ts with
    |some (t,ys)=>.ok (.t t) (m.set i (some (false,ys)))
    |none=>.stuck
   |_=>.stuck
  |.t _=>.stuck
  |.f _=>.stuck
  |.x _ _ _=>.stuck
 |_=>pur ((view o m).bind λx=>(views ws m).bind λts=>mthT b x ts) m
noncomputable def addC(x y:W)(m:Mem):Res W:=match(view x m).bind λx=>(view y m).bind λy=>addT x y with
 |some (.lst ts)=>.ok (.c m.length) (m++[some (false,ts)])
 |_=>.stuck
noncomputable def setM(o i v:W)(m:Mem):Res Unit:=match o,i with
 |.c c,.t (.int k)=>(frz v m).bind λt m=>match m[c]? with
  |some (some (false,xs))=>match ixOf xs.length k with
   |some j=>.ok () (m.set c (some (false,xs.set j t)))
   |none=>.stuck
  |_=>.stuck
 |_,_=>.stuck
noncomputable def intP(w:W)(m:Mem):Res (Option Int):=match w with
 |.t (.int i)=>.ok (some i) m
 |_=>.stuck
noncomputable def dspT(ks vs:List W)(m:Mem):Res W:=match ks,vs with
 |[],[]=>.ok (.t (.dct [] [])) m
 |[.t k],[.t v]=>match keyT k with
  |some kk=>.ok (.t (.dct [kk] [v])) m
  |none=>.stuck
 |_,_=>.stuck
noncomputable def tyM(b:Mt)(w:W)(m:Mem):Bool:=match b with
 |.join|.upper|.split|.partition=>match view w m with
  |some (.str _)=>true
  |_=>false
 |.append|.pop|.popat|.insert|.clear|.extend|.reverse=>match w with
  |.c i=>match m[i]? with
   |some (some _)=>true
   |_=>false
  |_=>false
 |.count|.index=>match view w m with
  |some (.lst _)=>true
  |_=>false
 |.get=>match view w m with
  |some (.dct _ _)=>true
  |_=>false
noncomputable def QM(f:Env->Mem->Res (List T))(tg:Tg):List T->Env->Mem->Res (List T)
 |[],_,m=>.ok [] m
 |t::ts,env,m=>match Z7 tg t env with
  |none=>.stuck
  |some env'=>(f env' m).bind λxs m=>(QM f tg ts env m).bind λys m=>.ok (xs++ys) m
noncomputable def Res.only{a:Type}(r:Res a):Res a:=match r with
 |.exc _ _=>.stuck
 |r=>r
inductive Flow where
 |next (env:Env)|ret (w:W)|brk (env:Env)|cont (env:Env)
noncomputable def Qp(f:Env->Mem->Res Flow)(tg:Tg):List T->Env->Mem->Res Flow
 |[],env,m=>.ok (.next env) m
 |t::ts,env,m=>match Z7 tg t env with
  |none=>.stuck
  |some env=>(f env m).bind λfl m=>match fl with
   |.next env=>Qp f tg ts env m
   |.cont env=>Qp f tg ts env m
   |.brk env=>.ok (.next env) m
   |.ret w=>.ok (.ret w) m
noncomputable def Qz(c:Env->Mem->Res Bool)(f:Env->Mem->Res Flow):Nat->Env->Mem->Res Flow
 |0,_,_=>.stuck
 |n+1,env,m=>(c env m).bind λb m=>if b then(f env m).bind λfl m=>match fl with
   |.next env=>Qz c f n env m
   |.cont env=>Qz c f n env m
   |.brk env=>.ok (.next env) m
   |.ret w=>.ok (.ret w) m
  else .ok (.next env) m
noncomputable def turns:Nat:=1000000
noncomputable def fitT:T->Bool
 |.str cs=>decide (cs.length<=lim)
 |_=>true
noncomputable def Z0(w:W)(m:Mem):Res Bool:=match view w m with
 |some t=>if fitT t then .ok (Zdz t) m else .stuck
 |none=>.stuck
noncomputable def ZcC(w:W)(m:Mem):Res Bool:=match w with
 |.t (.bl b)=>.ok b m
 |_=>.stuck
noncomputable def ZcH(w:W)(m:Mem):Res (List T):=match w with
 |.t (.lst ts)=>.ok ts m
 |_=>.stuck
noncomputable def xatT(cs:List Nat)(nm:Str)(x:W):Option T:=match x with
 |.x c nms ts=>if c∈cs then(nms.zip ts).lookup nm else none
 |_=>none
noncomputable def xisT(yes no:List Nat)(x:W):Option T:=match x with
 |.x c _ _=>if c∈yes then some (.bl true)else if c∈no then some (.bl false)else none
 |_=>none
noncomputable def hEnv(n:Nat)(nm:Option Nat)(x:Exc):Env:=match nm with
 |some i=>(List.replicate n none).set i (some (.x x.cls x.nms x.flds))
 |none=>List.replicate n none
noncomputable def unE(nm:Option Nat)(env:Env):Env:=match nm with
 |some i=>env.set i none
 |none=>env
noncomputable def fmtW(acc:List Nat)(w:W)(m:Mem):Res (List Nat):=match(view w m).bind fmtT with
 |some a=>if acc.length+a.length<=lim then .ok (acc++a) m else .stuck
 |none=>.stuck
noncomputable def treeW(w:W)(m:Mem):Res W:=match w with
 |.t x=>.ok (.t x) m
 |.c _=>.stuck
 |.f _=>.stuck
 |.x _ _ _=>.stuck
noncomputable def ZjL(gv:List T)(a:Nat):List (Nat×Nat)->Option Nat
 |[]=>none
 |(j,k)::r=>match gv[j]? with
  |some (.int b)=>if b=(a:Int)then some k else ZjL gv a r
  |_=>ZjL gv a r
section
variable(call:Nat->List W->Mem->Res W) (gv:List T)
mutual
noncomputable def ev:E->Env->Mem->Res W
 |.var i,env,m=>match env[i]? with
  |some (some w)=>.ok w m
  |_=>.stuck
 |.gl k,_,m=>pur gv[k]? m
 |.con t,_,m=>.ok (.t t) m
 |.bin op a b,env,m=>(ev a env m).bind λx m=>(ev b env m).bind λy m=>pur ((view x m).bind λx=>(view y m).bind λy=>binT op x y) m
 |.neg a,env,m=>(ev a env m).bind λx m=>pur ((view x m).bind λx=>match x with
  |.int i=>some (.int (-i))
  |_=>none) m
 |.not a,env,m=>(ev a env m).bind λx m=>(ZcC x m).bind λk m=>.ok (.t (.bl (!k))) m
 |.and a b,env,m=>(ev a env m).bind λx m=>(ZcC x m).bind λk m=>if k then ev b env m else .ok (.t (.bl false)) m
 |.or a b,env,m=>(ev a env m).bind λx m=>(ZcC x m).bind λk m=>if k then .ok (.t (.bl true)) m else ev b env m
 |.one a,env,m=>ev a env m
 |.cmp op a b,env,m=>(ev a env m).bind λx m=>(ev b env m).bind λy m=>pur (((view x m).bind λx=>(view y m).bind λy=>cmpT op x y).map .bl) m
 |.chn op op' a b c,env,m=>(ev a env m).bind λx m=>(ev b env m).bind λy m =>
   match(view x m).bind λx=>(view y m).bind λy=>cmpT op x y with
   |some true=>(ev c env m).bind λz m=>pur (((view y m).bind λy=>(view z m).bind λz=>cmpT op' y z).map .bl) m
   |some false=>.ok (.t (.bl false)) m
   |none=>.stuck
 |.ite c a b,env,m=>(ev c env m).bind λx m=>(Z0 x m).bind λk m=>if k then ev a env m else ev b env m
 |.tup es,env,m=>(evs es env m).bind λws m=>(frzs ws m).bind λts m=>if ts.length<=lim then .ok (.t (.tup ts)) m else .stuck
 |.lst es,env,m=>(evs es env m).bind λws m=>(frzs ws m).bind λts m=>if ts.length<=lim then .ok (.t (.lst ts)) m else .stuck
 |.cel es,env,m=>(evs es env m).bind λws m=>(frzs ws m).bind λts m=>if ts.length<=lim then .ok (.c m.length) (m++[some (false,ts)])else .stuck
 |.celL a,env,m=>(ev a env m).bind λx m=>match view x m with
  |some (.lst ts)=>.ok (.c m.length) (m++[some (false,ts)])
  |some (.tup ts)=>.ok (.c m.length) (m++[some (false,ts)])
  |_=>.stuck
 |.celb b es,env,m=>(evs es env m).bind λws m=>match(views ws m).bind λts=>bltT b ts with
  |some (.lst ts)=>.ok (.c m.length) (m++[some (false,ts)])
  |_=>.stuck
 |.celA a b,env,m=>(ev a env m).bind λx m=>(ev b env m).bind λy m=>addC x y m
 |.dsp ks vs,env,m=>(evs ks env m).bind λkw m=>(evs vs env m).bind λvw m=>dspT kw vw m
 |.ix a b,env,m=>(ev a env m).bind λx m=>(ev b env m).bind λy m=>pur ((view x m).bind λx=>(view y m).bind λy=>ixT x y) m
 |.slc a lo hi,env,m=>(ev a env m).bind λx m=>(if Zt lo then Res.ok none m else(ev lo env m).bind intP).bind λl m =>
   (if Zt hi then Res.ok none m else(ev hi env m).bind intP).bind λh m=>pur ((view x m).bind λx=>slT x l h) m
 |.hole,_,m=>.ok (.t .non) m
 |.rev a,env,m=>(ev a env m).bind λx m=>pur ((view x m).bind λx=>match x with
  |.tup ts=>some (.tup ts.reverse)
  |.lst ts=>some (.lst ts.reverse)
  |_=>none) m
 |.call f es,env,m=>(evs es env m).bind λws m=>call f ws m
 |.blt b es,env,m=>(evs es env m).bind λws m=>pur ((views ws m).bind λts=>bltT b ts) m
 |.mth b o es,env,m=>(ev o env m).bind λx m=>if tyM b x m then(evs es env m).bind λws m=>doM b x ws m else .stuck
 |.isi a ty,env,m=>(ev a env m).bind λx m=>pur ((view x m).map λx=>.bl (isT x ty)) m
 |.comp own keep it tg cs inner,env,m=>(ev it env m).only.bind λx m0=>(ZQ x m0).bind λts m =>
   (QM (λenv m=>(tests cs env m).bind λk m=>if k then(ev inner env m).bind ZcH else .ok [] m) tg ts (List.replicate own none++keep.map λi=>(env[i]?).join) m).only.bind λout m =>
    if out.length<=lim then .ok (.t (.lst out)) (giveBack x m0 m)else .stuck
 |.more it tg cs inner,env,m=>(ev it env m).bind λx m0=>(ZQ x m0).bind λts m =>
   (QM (λenv m=>(tests cs env m).bind λk m=>if k then(ev inner env m).bind ZcH else .ok [] m) tg ts env m).bind λout m=>.ok (.t (.lst out)) (giveBack x m0 m)
 |.emit a,env,m=>(ev a env m).bind λx m=>(frz x m).bind λt m=>.ok (.t (.lst [t])) m
 |.tr a,env,m=>(ev a env m).bind treeW
 |.fnv j,_,m=>match gv[j]? with
  |some (.int a)=>.ok (.f a.toNat) m
  |_=>.stuck
 |.callV i tab es,env,m=>match env[i]? with
  |some (some (.f a))=>match ZjL gv a tab with
   |some k=>(evs es env m).bind λws m=>call k ws m
   |none=>.stuck
  |_=>.stuck
 |.xat a cs nm,env,m=>(ev a env m).bind λx m=>pur (xatT cs nm x) m
 |.xis a yes no,env,m=>(ev a env m).bind λx m=>pur (xisT yes no x) m
 |.ptd a b,env,m=>(ev a env m).bind λx m=>(ev b env m).bind λy m=>pur ((view x m).bind λx=>(view y m).bind λy=>ptT x y) m
 |.fst es,env,m=>(evf es [] env m).bind λcs m=>.ok (.t (.str cs)) m
 |.gdg k e,env,m=>(ev e env m).bind λx m=>pur ((view x m).bind λx=>gDct gv[k]? λks vs=>(keyT x).bind (Zc7 ks vs)) m
 |.gdn k neg e,env,m=>(ev e env m).bind λx m=>pur ((view x m).bind λx=>gDct gv[k]? λks vs=>(keyT x).map λk=>.bl (if neg then !(Zc7 ks vs k).isSome else(Zc7 ks vs k).isSome)) m
 |.dsn ks vs,env,m=>(evs vs env m).bind λws m=>(frzs ws m).bind λts m=>if ks.length=ts.length/\ks.length<=1000/\ks.Nodup then .ok (.t (.dct (ks.map λk=>.inr ⟨k.toArray⟩) ts)) m else .stuck
noncomputable def evs:Es->Env->Mem->Res (List W)
 |.nil,_,m=>.ok [] m
 |.cons e es,env,m=>(ev e env m).bind λw m=>(evs es env m).bind λws m=>.ok (w::ws) m
noncomputable def evf:Es->List Nat->Env->Mem->Res (List Nat)
 |.nil,acc,_,m=>.ok acc m
 |.cons e es,acc,env,m=>(ev e env m).bind λw m=>(fmtW acc w m).bind λacc m=>evf es acc env m
noncomputable def tests:Es->Env->Mem->Res Bool
 |.nil,_,m=>.ok true m
 |.cons e es,env,m=>(ev e env m).bind λx m=>(Z0 x m).bind λk m=>if k then tests es env m else .ok false m
end
noncomputable def ex:S->Env->Mem->Res Flow
 |.done,env,m=>.ok (.next env) m
 |.asg i e k,env,m=>(ev call gv e env m).bind λw m=>ex k (env.set i (some w)) m
 |.asgT is e k,env,m=>(ev call gv e env m).bind λw m=>match w with
  |.t t=>match Z7 (.tp is) t env with
   |some env=>ex k env m
   |none=>.stuck
  |.c _=>.stuck
  |.f _=>.stuck
  |.x _ _ _=>.stuck
 |.asgC i e k,env,m=>(ev call gv e env m).bind λw m=>match w with
  |.t (.lst ts)=>ex k (env.set i (some (.c m.length))) (m++[some (false,ts)])
  |_=>.stuck
 |.asgL is e k,env,m=>(ev call gv e env m).bind λw m=>match w with
  |.t (.lst ts)=>match Z7 (.tp is) (.tup ts) env with
   |some env=>ex k env m
   |none=>.stuck
  |_=>.stuck
 |.set o i v k,env,m=>(ev call gv v env m).bind λz m=>(ev call gv o env m).bind λx m=>(ev call gv i env m).bind λy m =>
   (setM x y z m).bind λ_ m=>ex k env m
 |.aug i op e k,env,m=>match env[i]? with
  |some (some x)=>(ev call gv e env m).bind λy m=>(pur ((view x m).bind λx=>(view y m).bind λy=>augT op x y) m).bind λz m=>ex k (env.set i (some z)) m
  |_=>.stuck
 |.ife c a b k,env,m=>(ev call gv c env m).bind λx m=>(Z0 x m).bind λt m =>
   (if t then ex a env m else ex b env m).bind λfl m=>match fl with
    |.next env=>ex k env m
    |fl=>.ok fl m
 |.forr tg it body k,env,m=>(ev call gv it env m).bind λx m0=>(ZQ x m0).bind λts m =>
   (Qp (λenv m=>ex body env m) tg ts env m).bind λfl m=>match fl with
    |.next env=>ex k env (giveBack x m0 m)
    |.ret w=>.ok (.ret w) (giveBack x m0 m)
    |_=>.stuck
 |.whil c body k,env,m=>(Qz (λenv m=>(ev call gv c env m).bind Z0) (λenv m=>ex body env m) turns env m).bind λfl m=>match fl with
    |.next env=>ex k env m
    |fl=>.ok fl m
 |.ret e _,env,m=>(ev call gv e env m).bind λw m=>.ok (.ret w) m
 |.retN _,_,m=>.ok (.ret (.t .non)) m
 |.expr e k,env,m=>(ev call gv e env m).bind λ_ m=>ex k env m
 |.pass k,env,m=>ex k env m
 |.brk _,env,m=>.ok (.brk env) m
 |.cont _,env,m=>.ok (.cont env) m
 |.stk,_,_=>.stuck
 |.rse c nms es _,env,m=>(evs call gv es env m).bind λws m=>(frzs ws m).bind λts m=>if nms=[]then(if ts.length<=1000 then .exc ⟨c,[],[]⟩ m else .stuck)else if ts.length=nms.length then .exc ⟨c,nms,ts⟩ m else .stuck
 |.tri b yes nm h k,env,m=>match ex b env m with
  |.ok fl m=>match fl with
   |.next env=>ex k env m
   |fl=>.ok fl m
  |.exc x m=>if x.cls∈yes then(ex h (hEnv env.length nm x) m).only.bind λfl m=>match fl with
    |.next env=>ex k (unE nm env) m
    |.ret w=>.ok (.ret w) m
    |_=>.stuck
   else .stuck
  |.stuck=>.stuck
end
structure Fn where
 ps:Nat
 n:Nat
 body:S
 cell:Bool:=false
noncomputable def fin(n:Nat)(cell:Bool)(fl:Flow)(m:Mem):Res W:=match fl with
 |.ret (.t t)=>.ok (.t t) (m.take n)
 |.ret (.c i)=>if i<n then .ok (.c i) (m.take n)else match m[i]? with
  |some (some (false,ts))=>if cell then .ok (.c n) (m.take n++[some (false,ts)])else .ok (.t (.lst ts)) (m.take n)
  |_=>.stuck
 |.next _=>.ok (.t .non) (m.take n)
 |_=>.stuck
noncomputable def J8(fns:List Fn)(gv:List T):Nat->Nat->List W->Mem->Res W
 |0,_,_,_=>.stuck
 |n+1,f,ws,m=>match fns[f]? with
  |none=>.stuck
  |some d=>if ws.length=d.ps then(ex (J8 fns gv n) gv d.body (ws.map some++List.replicate (d.n-d.ps) none) m).bind λfl m'=>fin m.length d.cell fl m' else .stuck
end Mi
namespace Mi
open PySem L2
section
variable(K:Frag)
noncomputable def Zr(cm:List Addr)(m:Mem)(a:Addr):Prop:=∀(i:Nat) p,m[i]?=some (some p)->cm[i]?≠some a
noncomputable def ZcI(H:Hp)(a:Addr)(ns:List Int):Prop:=(∃o,H a=some (.frz o (.lst (ns.map V.int)))) ∨
 ∃(o:Obj) (its:Array Value) (n:Nat),K.lookup a=some o/\o.cls=.type "list"/\o.dict=none/\o.data=.seq its n/\its.size<=sizeLine/\Vals (ns.map V.int) its.toList
inductive RT (cm:List Addr) (m:Mem) (H:Hp):T->V->Prop where
 |non:RT cm m H .non .non
 |bl (b:Bool):RT cm m H (.bl b) (.bl b)
 |int (i:Int):RT cm m H (.int i) (.int i)
 |str (cs:List Nat):RT cm m H (.str cs) (.str ⟨cs.toArray⟩)
 |tup {a:Addr}{ts:List T}{vs:List V}:SqT K H a vs->ts.length=vs.length->(∀(i:Nat) t v,ts[i]?=some t->vs[i]?=some v->RT cm m H t v)->RT cm m H (.tup ts) (.ref a)
 |lst {a:Addr}{ts:List T}{vs:List V}:H a=some (.lst vs)->Zr cm m a->ts.length=vs.length->(∀(i:Nat) t v,ts[i]?=some t->vs[i]?=some v->RT cm m H t v)->RT cm m H (.lst ts) (.ref a)
 |dct {a:Addr}{ks:List Key}{ts:List T}{vs:List V}:H a=some (.dK (ks.zip vs))->Zr cm m a->ks.length=vs.length->ts.length=vs.length ->
  (∀(i:Nat) t v,ts[i]?=some t->vs[i]?=some v->RT cm m H t v)->RT cm m H (.dct ks ts) (.ref a)
 |scr {a:Addr}(ns:List Int):ZcI K H a ns->RT cm m H (.scr ns) (.ref a)
noncomputable abbrev RTs(cm:List Addr)(m:Mem)(H:Hp)(ts:List T)(vs:List V):Prop:=Paired (RT K cm m H) ts vs
noncomputable def XF(cm:List Addr)(m:Mem)(H:Hp)(nms:List Str)(ts:List T)(dx:Option Addr):Prop:=match dx with
 |none=>nms=[]/\ts=[]
 |some d=>∃vs,H d=some (.xd (nms.zip vs))/\nms.length=vs.length/\RTs K cm m H ts vs
noncomputable def RW(cm:List Addr)(m:Mem)(H:Hp):W->V->Prop
 |.t x,v=>RT K cm m H x v
 |.c i,v=>∃a,cm[i]?=some a/\v=.ref a
 |.f a,v=>v=.ref a
 |.x c nms ts,v=>∃a o u,v=.ref a/\H a=some (.frz o u)/\o.cls=.ref c/\(∃fs,o.data=.fields fs)/\XF K cm m H nms ts o.dict
noncomputable abbrev RWs(cm:List Addr)(m:Mem)(H:Hp)(ws:List W)(vs:List V):Prop:=Paired (RW K cm m H) ws vs
structure MemR (cm:List Addr) (m:Mem) (H:Hp):Prop where
 len:cm.length=m.length
 inj:∀(i j:Nat) a p q,m[i]?=some (some p)->m[j]?=some (some q)->cm[i]?=some a->cm[j]?=some a->i=j
 at':∀(i:Nat) p,m[i]?=some (some p)->∃a vs,cm[i]?=some a/\H a=some (.lst vs)/\K.lookup a=none/\RTs K cm m H p.2 vs
noncomputable def EnvR(cm:List Addr)(m:Mem)(H:Hp)(env:Env)(σ:L2.St):Prop:=∀(i:Nat) w,env[i]?=some (some w)->∃v,σ[i]?=some (some v)/\RW K cm m H w v
structure Ext (cm:List Addr) (m:Mem) (H:Hp) (cm':List Addr) (m':Mem) (H':Hp):Prop where
 pre:∀(i:Nat) a,cm[i]?=some a->cm'[i]?=some a
 len:m.length<=m'.length
 lent:∀(i:Nat) ts,m[i]?=some (some (true,ts))->m'[i]?=some (some (true,ts))
 keep:∀a o,H a=some o->Zr cm m a->H' a=some o/\Zr cm' m' a
end
section
variable{K:Frag}{cm cm' cm'':List Addr}{m m' m'':Mem}{H H' H'':Hp}
theorem Zan{α β:Type}{F:α->β->Prop}:∀{xs:List α}{ys:List β},xs.length=ys.length->(∀(i:Nat) x y,xs[i]?=some x->ys[i]?=some y->F x y)->Paired F xs ys
 |[],[],_,_=>.nil
 |x::xs,y::ys,hl,h=>.cons (h 0 x y rfl rfl) (Zan (by simpa using hl) λi a b ha hb=>h (i+1) a b (by simpa using ha) (by simpa using hb))
 |[],_::_,hl,_=>by simp at hl
 |_::_,[],hl,_=>by simp at hl
theorem QL{α β:Type}{F:α->β->Prop}:∀{xs:List α}{ys:List β},Paired F xs ys->∀(i:Nat) x y,xs[i]?=some x->ys[i]?=some y->F x y
 |_,_,.nil,i,x,y,h,_=>by simp at h
 |_,_,.cons r t,0,x,y,h1,h2=>by simp at h1 h2;subst h1;subst h2;exact r
 |_,_,.cons r t,i+1,x,y,h1,h2=>QL t i x y (by simpa using h1) (by simpa using h2)
theorem Zy{α β:Type}{F:α->β->Prop}{xs:List α}{ys:List β}(h:Paired F xs ys){i:Nat}{x:α}(hx:xs[i]?=some x):∃y,ys[i]?=some y/\F x y:=by
 have hl:=h.length
 have hi:=(List.getElem?_eq_some_iff.mp hx).1
 have hy:ys[i]?=some (ys[i]'(by omega)):=List.getElem?_eq_getElem (by omega)
 exact⟨_,hy,QL h i _ _ hx hy⟩
theorem ZG{α β:Type}{F:α->β->Prop}:∀{xs xs':List α}{ys ys':List β},Paired F xs ys->Paired F xs' ys'->Paired F (xs++xs') (ys++ys')
 |_,_,_,_,.nil,h=>h
 |_,_,_,_,.cons r t,h=>.cons r (ZG t h)
theorem Zam{α β:Type}{F:α->β->Prop}:∀{xs:List α}{ys:List β}(n:Nat),Paired F xs ys->Paired F (xs.take n) (ys.take n)
 |_,_,0,_=>.nil
 |_,_,_+1,.nil=>.nil
 |_,_,n+1,.cons r t=>.cons r (Zam n t)
theorem Zao{α β:Type}{F:α->β->Prop}:∀{xs:List α}{ys:List β}(n:Nat),Paired F xs ys->Paired F (xs.drop n) (ys.drop n)
 |_,_,0,r=>r
 |_,_,_+1,.nil=>.nil
 |_,_,n+1,.cons _ t=>Zao n t
theorem Za6{α β:Type}{F:α->β->Prop}{x:α}{y:β}(r:F x y):∀{xs:List α}{ys:List β}(i:Nat),Paired F xs ys->Paired F (xs.set i x) (ys.set i y)
 |_,_,_,.nil=>.nil
 |_,_,0,.cons _ t=>.cons r t
 |_,_,i+1,.cons q t=>.cons q (Za6 r i t)
theorem Zg{α β:Type}{F G:α->β->Prop}(f:∀a b,F a b->G a b){xs:List α}{ys:List β}(h:Paired F xs ys):Paired G xs ys:=L2.Paired.mapP h f
theorem RT.mtup{a:Addr}{ts:List T}{vs:List V}(h:SqT K H a vs)(r:RTs K cm m H ts vs):RT K cm m H (.tup ts) (.ref a):=.tup h r.length λi t v h1 h2=>QL r i t v h1 h2
theorem RT.mlst{a:Addr}{ts:List T}{vs:List V}(h:H a=some (.lst vs))(n:Zr cm m a)(r:RTs K cm m H ts vs):RT K cm m H (.lst ts) (.ref a):=.lst h n r.length λi t v h1 h2=>QL r i t v h1 h2
theorem RT.itup{ts:List T}{v:V}(h:RT K cm m H (.tup ts) v):∃a vs,v=.ref a/\SqT K H a vs/\RTs K cm m H ts vs:=by
 cases h with
 |tup h1 h2 h3=>exact⟨_,_,rfl,h1,Zan h2 h3⟩
theorem RT.ilst{ts:List T}{v:V}(h:RT K cm m H (.lst ts) v):∃a vs,v=.ref a/\H a=some (.lst vs)/\Zr cm m a/\RTs K cm m H ts vs:=by
 cases h with
 |lst h1 h2 h3 h4=>exact⟨_,_,rfl,h1,h2,Zan h3 h4⟩
theorem Qo(M:MemR K cm m H){a:Addr}{o:HO}(h:H a=some o)(hn:∀vs,o≠.lst vs):Zr cm m a:=λi ts e z=>by
 obtain⟨b,vs,h1,h2,_,_⟩:=M.at' i ts e
 rw[h1]at z;cases z
 rw[h2]at h;cases h
 exact hn _ rfl
theorem Ext.sqT(x:Ext cm m H cm' m' H')(M:MemR K cm m H){a:Addr}{vs:List V}(h:SqT K H a vs):SqT K H' a vs:=by
 rcases h with(h|⟨o,h⟩)|h
 ·exact .inl (.inl (x.keep a _ h (Qo M h (λ_ z=>by cases z))).1)
 ·exact .inl (.inr ⟨o,(x.keep a _ h (Qo M h (λ_ z=>by cases z))).1⟩)
 ·exact .inr h
theorem Ext.scr(x:Ext cm m H cm' m' H')(M:MemR K cm m H){a:Addr}{ns:List Int}(h:ZcI K H a ns):ZcI K H' a ns:=by
 rcases h with⟨o,h⟩|h
 ·exact .inl ⟨o,(x.keep a _ h (Qo M h (λ_ z=>by cases z))).1⟩
 ·exact .inr h
theorem ZcI.sq{a:Addr}{ns:List Int}(h:ZcI K H a ns):SqL K H a (ns.map V.int):=by
 rcases h with⟨o,h⟩|h
 ·exact .inl (.inr ⟨o,h⟩)
 ·exact .inr h
theorem RT.ext(x:Ext cm m H cm' m' H')(M:MemR K cm m H)(M':MemR K cm' m' H'){t:T}{v:V}(h:RT K cm m H t v):RT K cm' m' H' t v:=by
 induction h with
 |non=>exact .non
 |bl b=>exact .bl b
 |int i=>exact .int i
 |str cs=>exact .str cs
 |tup h1 h2 _ ih=>exact .tup (x.sqT M h1) h2 ih
 |lst h1 h2 h3 _ ih=>exact .lst (x.keep _ _ h1 h2).1 (x.keep _ _ h1 h2).2 h3 ih
 |scr ns h=>exact .scr ns (x.scr M h)
 |dct h1 h2 h3 h4 _ ih=>exact .dct (x.keep _ _ h1 h2).1 (x.keep _ _ h1 h2).2 h3 h4 ih
theorem RTs.ext(x:Ext cm m H cm' m' H')(M:MemR K cm m H)(M':MemR K cm' m' H'){ts:List T}{vs:List V}(h:RTs K cm m H ts vs):RTs K cm' m' H' ts vs:=Zg (λ_ _ z=>z.ext x M M') h
theorem XF.ext(x:Ext cm m H cm' m' H')(M:MemR K cm m H)(M':MemR K cm' m' H'){nms:List Str}{ts:List T}{dx:Option Addr}(h:XF K cm m H nms ts dx):XF K cm' m' H' nms ts dx:=by
 cases dx with
 |none=>exact h
 |some d =>
  obtain⟨vs,h1,h2,h3⟩:=h
  exact⟨vs,(x.keep d _ h1 (Qo M h1 (λ_ z=>by cases z))).1,h2,h3.ext x M M'⟩
theorem RW.ext(x:Ext cm m H cm' m' H')(M:MemR K cm m H)(M':MemR K cm' m' H'){w:W}{v:V}(h:RW K cm m H w v):RW K cm' m' H' w v:=by
 cases w with
 |t t=>exact RT.ext x M M' h
 |c i=>obtain⟨a,h1,h2⟩:=h;exact⟨a,x.pre i a h1,h2⟩
 |f a=>exact h
 |x c nms ts=>obtain⟨a,o,u,h1,h2,h3,h3',h4⟩:=h;exact⟨a,o,u,h1,(x.keep a _ h2 (Qo M h2 (λ_ z=>by cases z))).1,h3,h3',h4.ext x M M'⟩
theorem RWs.ext(x:Ext cm m H cm' m' H')(M:MemR K cm m H)(M':MemR K cm' m' H'){ws:List W}{vs:List V}(h:RWs K cm m H ws vs):RWs K cm' m' H' ws vs:=Zg (λ_ _ z=>RW.ext x M M' z) h
theorem EnvR.ext(x:Ext cm m H cm' m' H')(M:MemR K cm m H)(M':MemR K cm' m' H'){env:Env}{σ:L2.St}(h:EnvR K cm m H env σ):EnvR K cm' m' H' env σ:=λi w e=>by
 obtain⟨v,h1,h2⟩:=h i w e
 exact⟨v,h1,h2.ext x M M'⟩
theorem Ext.refl:Ext cm m H cm m H:=⟨λ_ _ h=>h,Nat.le_refl _,λ_ _ h=>h,λ_ _ h n=>⟨h,n⟩⟩
theorem Ext.trans(x:Ext cm m H cm' m' H')(y:Ext cm' m' H' cm'' m'' H''):Ext cm m H cm'' m'' H'':=
 ⟨λi a h=>y.pre i a (x.pre i a h),Nat.le_trans x.len y.len,λi ts h=>y.lent i ts (x.lent i ts h),λa o h n=>y.keep a o (x.keep a o h n).1 (x.keep a o h n).2⟩
noncomputable abbrev XR:=Exc->List Addr->Mem->Hp->Prop
noncomputable def xr0:XR:=λ_ _ _ _=>False
variable(K) in
noncomputable def OkR{α:Type}(r:Res α)(xr:XR)(cm:List Addr)(m:Mem)(H:Hp)(k:α->List Addr->Mem->Hp->Prop):Prop:=match r with
 |.ok a m'=>∀cm' H',Ext cm m H cm' m' H'->MemR K cm' m' H'->k a cm' m' H'
 |.exc x m'=>∀cm' H',Ext cm m H cm' m' H'->MemR K cm' m' H'->xr x cm' m' H'
 |.stuck=>False
variable{xr:XR}
theorem OkR.shift{α:Type}{r:Res α}{k:α->List Addr->Mem->Hp->Prop}(h:OkR K r xr cm m H k)(x:Ext cm m H cm' m' H'):OkR K r xr cm' m' H' k:=by
 cases r with
 |ok a m2=>exact λc h' e M=>h c h' (x.trans e) M
 |exc a m2=>exact λc h' e M=>h c h' (x.trans e) M
 |stuck=>exact h
theorem OkR.bind{α β:Type}{r:Res α}{f:α->Mem->Res β}{k:β->List Addr->Mem->Hp->Prop}(h:OkR K (r.bind f) xr cm m H k):
  OkR K r xr cm m H λa cm' m' H'=>OkR K (f a m') xr cm' m' H' k:=by
 cases r with
 |ok a m2=>exact λc h' e M=>OkR.shift (show OkR K (f a m2) xr cm m H k from h) e
 |exc a m2=>exact h
 |stuck=>exact h
theorem OkR.bind0{α β:Type}{r:Res α}{f:α->Mem->Res β}{k:β->List Addr->Mem->Hp->Prop}(h:OkR K (r.bind f) xr cm m H k):
  OkR K r xr cm m H λa _ m' _=>OkR K (f a m') xr cm m H k:=by
 cases r with
 |ok a m2=>exact λc h' e M=>h
 |exc a m2=>exact h
 |stuck=>exact h
theorem OkR.mono{α:Type}{r:Res α}{k k':α->List Addr->Mem->Hp->Prop}(h:OkR K r xr cm m H k)(f:∀a cm' m' H',Ext cm m H cm' m' H'->MemR K cm' m' H'->k a cm' m' H'->k' a cm' m' H'):OkR K r xr cm m H k':=by
 cases r with
 |ok a m2=>exact λc h' e M=>f a c m2 h' e M (h c h' e M)
 |exc a m2=>exact h
 |stuck=>exact h
theorem OkR.now{α:Type}{a:α}{k:α->List Addr->Mem->Hp->Prop}(h:OkR K (.ok a m) xr cm m H k)(M:MemR K cm m H):k a cm m H:=h cm H .refl M
theorem OkR.to{α:Type}{a:α}{m':Mem}{k:α->List Addr->Mem->Hp->Prop}(h:OkR K (.ok a m') xr cm m H k)(x:Ext cm m H cm' m' H')(M:MemR K cm' m' H'):k a cm' m' H':=h cm' H' x M
end
section
variable(K:Frag) (call:Nat->List W->Mem->Res W) (gv:List T) (xr:XR)
noncomputable def tE(e:E):TE:=λσ H Q=>∃env cm m,EnvR K cm m H env σ/\MemR K cm m H/\OkR K (ev call gv e env m) xr cm m H λw cm' m' H'=>∀v,RW K cm' m' H' w v->Q v H'
noncomputable def tA(es:Es):TA:=λσ H Q=>∃env cm m,EnvR K cm m H env σ/\MemR K cm m H/\OkR K (evs call gv es env m) xr cm m H λws cm' m' H'=>∀vs,RWs K cm' m' H' ws vs->Q vs H'
noncomputable def tT(e:E):TT:=λσ H Q=>∃env cm m,EnvR K cm m H env σ/\MemR K cm m H/\OkR K ((ev call gv e env m).bind Z0) xr cm m H λk _ _ H'=>Q k H'
noncomputable def r2(f:W->W->Mem->Res W):R2:=λx y H Q=>∃cm m a b,MemR K cm m H/\RW K cm m H a x/\RW K cm m H b y/\OkR K (f a b m) xr cm m H λw cm' m' H'=>∀v,RW K cm' m' H' w v->Q v H'
noncomputable def r1(f:W->Mem->Res W):V->Hp->VK->Prop:=λx H Q=>∃cm m a,MemR K cm m H/\RW K cm m H a x/\OkR K (f a m) xr cm m H λw cm' m' H'=>∀v,RW K cm' m' H' w v->Q v H'
noncomputable def rN(f:List W->Mem->Res W):List V->Hp->VK->Prop:=λxs H Q=>∃cm m ws,MemR K cm m H/\RWs K cm m H ws xs/\OkR K (f ws m) xr cm m H λw cm' m' H'=>∀v,RW K cm' m' H' w v->Q v H'
end
section
variable{K:Frag}{call:Nat->List W->Mem->Res W}{gv:List T}{xr:XR}{X:Cx}
theorem PE.mono{e:Expr}{t t':TE}(h:PE X e t)(f:∀σ H Q,t' σ H Q->t σ H Q):PE X e t':=λpins s σ H Q I q=>h pins s σ H Q I (f σ H Q q)
theorem PT.mono{e:Expr}{t t':TT}(h:PT X e t)(f:∀σ H Q,t' σ H Q->t σ H Q):PT X e t':=λpins s σ H Q I q=>h pins s σ H Q I (f σ H Q q)
theorem PA.mono{e:List Expr}{t t':TA}(h:PA X e t)(f:∀σ H Q,t' σ H Q->t σ H Q):PA X e t':=λpos pins s σ H Q I q=>h pos pins s σ H Q I (f σ H Q q)
theorem Zd6{a b e:E}{f:W->W->Mem->Res W}(h:∀env m,ev call gv e env m=(ev call gv a env m).bind λx m=>(ev call gv b env m).bind λy m=>f x y m)(σ:L2.St)(H:Hp)(Q:VK)(q:tE K call gv xr e σ H Q):
  tOp (r2 K xr f) (tE K call gv xr a) (tE K call gv xr b) σ H Q:=by
 obtain⟨env,cm,m,hE,hM,ho⟩:=q
 rw[h]at ho
 refine⟨env,cm,m,hE,hM,ho.bind.mono λw cm1 m1 H1 x1 M1 o1 v rv=>?_⟩
 refine⟨env,cm1,m1,hE.ext x1 hM M1,M1,o1.bind.mono λw2 cm2 m2 H2 x2 M2 o2 v2 rv2=>?_⟩
 exact⟨cm2,m2,w,w2,M2,rv.ext x2 M1 M2,rv2,o2⟩
theorem t1_of{a e:E}{f:W->Mem->Res W}(h:∀env m,ev call gv e env m=(ev call gv a env m).bind λx m=>f x m)(σ:L2.St)(H:Hp)(Q:VK)(q:tE K call gv xr e σ H Q):
  tUn (r1 K xr f) (tE K call gv xr a) σ H Q:=by
 obtain⟨env,cm,m,hE,hM,ho⟩:=q
 rw[h]at ho
 exact⟨env,cm,m,hE,hM,ho.bind.mono λw cm1 m1 H1 x1 M1 o1 v rv=>⟨cm1,m1,w,M1,rv,o1⟩⟩
end
end Mi
namespace Mi
open PySem PySem.Spec PyProof.Rows L2
section
variable{K:Frag}{cm:List Addr}{m:Mem}{H:Hp}{xr:XR}{X:Cx}
theorem Zd{w:W}{v:V}{t:T}(h:RW K cm m H w v)(e:view w m=some t)(n:∀ts,t≠.lst ts):RT K cm m H t v:=by
 cases w with
 |t x=>cases e;exact h
 |f a=>cases e
 |x _ _ _=>cases e
 |c i =>
  unfold view at e
  dsimp only at e
  split at e
  ·cases e;exact absurd rfl (n _)
  ·cases e
theorem Zw{w:W}{v:V}{ts:List T}(M:MemR K cm m H)(h:RW K cm m H w v)(e:view w m=some (.lst ts)):∃a vs,v=.ref a/\H a=some (.lst vs)/\RTs K cm m H ts vs:=by
 cases w with
 |t x =>
  cases e
  obtain⟨a,vs,h1,h2,_,h3⟩:=RT.ilst h
  exact⟨a,vs,h1,h2,h3⟩
 |f a=>cases e
 |x _ _ _=>cases e
 |c i =>
  unfold view at e
  dsimp only at e
  split at e
  ·rename_i fl us hu
   cases e
   obtain⟨a,h1,h2⟩:=h
   obtain⟨b,vs,h3,h4,_,h5⟩:=M.at' i _ hu
   rw[h1]at h3;cases h3
   exact⟨a,vs,h2,h4,h5⟩
  ·cases e
theorem RT.vint{i:Int}{v:V}(h:RT K cm m H (.int i) v):v=.int i:=by cases h;rfl
theorem RT.vbl{b:Bool}{v:V}(h:RT K cm m H (.bl b) v):v=.bl b:=by cases h;rfl
theorem RT.vnon{v:V}(h:RT K cm m H .non v):v=.non:=by cases h;rfl
theorem RT.vstr{cs:List Nat}{v:V}(h:RT K cm m H (.str cs) v):v=.str ⟨cs.toArray⟩:=by cases h;rfl
theorem RT.vscr{ns:List Int}{v:V}(h:RT K cm m H (.scr ns) v):∃a,v=.ref a/\ZcI K H a ns:=by
 cases h with
 |scr _ h=>exact⟨_,rfl,h⟩
theorem Zc4(M:MemR K cm m H){p:Addr}(hp:H p=none):Zr cm m p:=λi ts e z=>by
 obtain⟨a,vs,h1,h2,_⟩:=M.at' i ts e
 rw[h1]at z;cases z
 rw[hp]at h2;cases h2
theorem Ext.new{p:Addr}{o:HO}(hp:H p=none):Ext cm m H cm m (upd H p o):=
 ⟨λ_ _ h=>h,Nat.le_refl _,λ_ _ h=>h,λa u h n=>⟨by rw[ZL (Z5 h hp)];exact h,n⟩⟩
theorem RT.same{H':Hp}{cm':List Addr}{m':Mem}(h1:∀a o,H a=some o->H' a=some o)(h2:∀a,Zr cm m a->H a≠none->Zr cm' m' a){t:T}{v:V}(h:RT K cm m H t v):RT K cm' m' H' t v:=by
 induction h with
 |non=>exact .non
 |bl b=>exact .bl b
 |int i=>exact .int i
 |str cs=>exact .str cs
 |tup q1 q2 _ ih =>
  refine .tup ?_ q2 ih
  rcases q1 with(q|⟨o,q⟩)|q
  ·exact .inl (.inl (h1 _ _ q))
  ·exact .inl (.inr ⟨o,h1 _ _ q⟩)
  ·exact .inr q
 |lst q1 q2 q3 _ ih=>exact .lst (h1 _ _ q1) (h2 _ q2 (by rw[q1];simp)) q3 ih
 |dct q1 q2 q3 q4 _ ih=>exact .dct (h1 _ _ q1) (h2 _ q2 (by rw[q1];simp)) q3 q4 ih
 |scr ns q =>
  refine .scr ns ?_
  rcases q with⟨o,q⟩|q
  ·exact .inl ⟨o,h1 _ _ q⟩
  ·exact .inr q
theorem XF.same{H':Hp}{cm':List Addr}{m':Mem}(h1:∀a o,H a=some o->H' a=some o)(f:∀t v,RT K cm m H t v->RT K cm' m' H' t v){nms:List Str}{ts:List T}{dx:Option Addr}(h:XF K cm m H nms ts dx):XF K cm' m' H' nms ts dx:=by
 cases dx with
 |none=>exact h
 |some d =>
  obtain⟨vs,q1,q2,q3⟩:=h
  exact⟨vs,h1 _ _ q1,q2,Zg (λt v z=>f t v z) q3⟩
theorem XF.wsame{cm':List Addr}{m':Mem}(f:∀t v,RT K cm m H t v->RT K cm' m' H t v){c:Nat}{nms:List Str}{ts:List T}{v:V}(h:RW K cm m H (.x c nms ts) v):RW K cm' m' H (.x c nms ts) v:=by
 obtain⟨a,o,u,q1,q2,q3,q3',q4⟩:=h
 exact⟨a,o,u,q1,q2,q3,q3',q4.same (λ_ _ z=>z) f⟩
theorem QH{p:Addr}{o:HO}(hp:H p=none):∀a u,H a=some u->upd H p o a=some u:=λa u h=>by rw[ZL (Z5 h hp)];exact h
theorem MemR.new(M:MemR K cm m H){p:Addr}{o:HO}(hp:H p=none):MemR K cm m (upd H p o):=
 ⟨M.len,M.inj,λi ts e=>by
  obtain⟨a,vs,h1,h2,h3,h4⟩:=M.at' i ts e
  exact⟨a,vs,h1,QH hp _ _ h2,h3,Zg (λ_ _ z=>z.same (QH hp) λ_ n _=>n) h4⟩⟩
theorem RTs.new{ts:List T}{vs:List V}(r:RTs K cm m H ts vs){p:Addr}{o:HO}(hp:H p=none):RTs K cm m (upd H p o) ts vs:=Zg (λ_ _ z=>z.same (QH hp) λ_ n _=>n) r
theorem RT.newTup{ts:List T}{vs:List V}(r:RTs K cm m H ts vs){p:Addr}(hp:H p=none):RT K cm m (upd H p (.tup vs)) (.tup ts) (.ref p):=.mtup (.of QW) (RTs.new r hp)
theorem RT.newLst(M:MemR K cm m H){ts:List T}{vs:List V}(r:RTs K cm m H ts vs){p:Addr}(hp:H p=none):RT K cm m (upd H p (.lst vs)) (.lst ts) (.ref p):=.mlst QW (Zc4 M hp) (RTs.new r hp)
theorem Zas{p:Addr}{c:Bool×List T}(hl:cm.length=m.length){a:Addr}(n:Zr cm m a)(ne:a≠p):Zr (cm++[p]) (m++[some c]) a:=λi us e z=>by
 by_cases hi:i<m.length
 ·rw[List.getElem?_append_left hi]at e
  rw[List.getElem?_append_left (by omega)]at z
  exact n i us e z
 ·by_cases hj:i=m.length
  ·subst hj
   rw[<-hl,List.getElem?_append_right (Nat.le_refl _)]at z
   simp at z
   exact ne z.symm
  ·rw[List.getElem?_eq_none (by simp;omega)]at e
   cases e
theorem J6(M:MemR K cm m H){ts:List T}{vs:List V}(r:RTs K cm m H ts vs){p:Addr}(hp:H p=none)(hk:K.lookup p=none):
  Ext cm m H (cm++[p]) (m++[some (false,ts)]) (upd H p (.lst vs))/\MemR K (cm++[p]) (m++[some (false,ts)]) (upd H p (.lst vs))/\RW K (cm++[p]) (m++[some (false,ts)]) (upd H p (.lst vs)) (.c m.length) (.ref p):=by
 have sm:∀{t:T}{v:V},RT K cm m H t v->RT K (cm++[p]) (m++[some (false,ts)]) (upd H p (.lst vs)) t v:=λh =>
  h.same (QH hp) λa n hn=>Zas M.len n λz=>by subst z;exact hn hp
 have cs:∀{i:Nat}{c:Bool×List T},(m++[some (false,ts)])[i]?=some (some c)->(m[i]?=some (some c)/\i<m.length)∨(i=m.length/\c=(false,ts)):=λ{i c} e=>by
  by_cases hi:i<m.length
  ·rw[List.getElem?_append_left hi]at e
   exact .inl ⟨e,hi⟩
  ·by_cases hj:i=m.length
   ·subst hj
    simp at e
    exact .inr ⟨rfl,e.symm⟩
   ·rw[List.getElem?_eq_none (by simp;omega)]at e
    cases e
 have cl:∀{i:Nat},i<m.length->(cm++[p])[i]?=cm[i]?:=λ{i} h=>List.getElem?_append_left (by rw[M.len];exact h)
 have cp:(cm++[p])[m.length]?=some p:=by rw[<-M.len];simp
 have np:∀{i:Nat}{c:Bool×List T}{a:Addr},m[i]?=some (some c)->cm[i]?=some a->a≠p:=λ{i c a} e1 e2 z=>by
  subst z
  obtain⟨b,ws,q1,q2,_⟩:=M.at' i c e1
  rw[e2]at q1;cases q1
  rw[hp]at q2;cases q2
 refine⟨⟨λi a h=>?_,by simp,λi us h=>?_,λa o h n=>⟨QH hp _ _ h,Zas M.len n (Z5 h hp)⟩⟩,⟨by simp[M.len],λi j a us us' e1 e2 f1 f2=>?_,λi us e=>?_⟩,⟨p,cp,rfl⟩⟩
 ·rw[List.getElem?_append_left (List.getElem?_eq_some_iff.mp h).1];exact h
 ·rw[List.getElem?_append_left (List.getElem?_eq_some_iff.mp h).1];exact h
 ·rcases cs e1 with⟨g1,l1⟩|⟨k1,_⟩
  ·rw[cl l1]at f1
   rcases cs e2 with⟨g2,l2⟩|⟨k2,_⟩
   ·rw[cl l2]at f2
    exact M.inj i j a _ _ g1 g2 f1 f2
   ·rw[k2,cp]at f2;cases f2
    exact absurd rfl (np g1 f1)
  ·rw[k1,cp]at f1;cases f1
   rcases cs e2 with⟨g2,l2⟩|⟨k2,_⟩
   ·rw[cl l2]at f2
    exact absurd rfl (np g2 f2)
   ·rw[k1,k2]
 ·rcases cs e with⟨g,l⟩|⟨k,z⟩
  ·obtain⟨a,ws,q1,q2,q3,q4⟩:=M.at' i us g
   exact⟨a,ws,by rw[cl l];exact q1,QH hp _ _ q2,q3,Zg (λ_ _ z=>sm z) q4⟩
  ·rw[k,z]
   exact⟨p,vs,cp,QW,hk,Zg (λ_ _ z=>sm z) r⟩
theorem Jq{i:Nat}{c c':Bool×List T}(e:m[i]?=some (some c)){j:Nat}{d:Bool×List T}(q:(m.set i (some c'))[j]?=some (some d)):∃d',m[j]?=some (some d'):=by
 by_cases hj:j=i
 ·subst hj;exact⟨c,e⟩
 ·rw[List.getElem?_set_ne (Ne.symm hj)]at q;exact⟨d,q⟩
theorem Jt(M:MemR K cm m H){i:Nat}{ts ts':List T}{a:Addr}{vs':List V}(e:m[i]?=some (some (false,ts)))(hc:cm[i]?=some a)(r:RTs K cm m H ts' vs'):
  Ext cm m H cm (m.set i (some (false,ts'))) (upd H a (.lst vs'))/\MemR K cm (m.set i (some (false,ts'))) (upd H a (.lst vs')):=by
 have hi:i<m.length:=(List.getElem?_eq_some_iff.mp e).1
 have nl:∀{b:Addr},Zr cm m b->Zr cm (m.set i (some (false,ts'))) b:=λ{b} n j us q=>by
  obtain⟨us',q'⟩:=Jq e q
  exact n j us' q'
 have ne:∀{b:Addr},Zr cm m b->b≠a:=λ{b} n z=>by subst z;exact n i _ e hc
 have x:Ext cm m H cm (m.set i (some (false,ts'))) (upd H a (.lst vs')):=⟨λ_ _ h=>h,by simp,λj us h=>by
  by_cases hj:j=i
  ·subst hj;rw[e]at h;cases h
  ·rw[List.getElem?_set_ne (Ne.symm hj)];exact h,λb o h n=>⟨by rw[ZL (ne n)];exact h,nl n⟩⟩
 have sm:∀{t:T}{v:V},RT K cm m H t v->RT K cm (m.set i (some (false,ts'))) (upd H a (.lst vs')) t v:=λ{t v} h=>by
  induction h with
  |non=>exact .non
  |bl b=>exact .bl b
  |int i=>exact .int i
  |str cs=>exact .str cs
  |tup q1 q2 _ ih=>exact .tup (x.sqT M q1) q2 ih
  |lst q1 q2 q3 _ ih=>exact .lst (x.keep _ _ q1 q2).1 (x.keep _ _ q1 q2).2 q3 ih
  |dct q1 q2 q3 q4 _ ih=>exact .dct (x.keep _ _ q1 q2).1 (x.keep _ _ q1 q2).2 q3 q4 ih
  |scr ns q=>exact .scr ns (x.scr M q)
 refine⟨x,⟨by simp[M.len],λj k b us us' e1 e2 f1 f2=>?_,λj us q=>?_⟩⟩
 ·obtain⟨_,e1⟩:=Jq e e1
  obtain⟨_,e2⟩:=Jq e e2
  exact M.inj j k b _ _ e1 e2 f1 f2
 ·by_cases hj:j=i
  ·subst hj
   rw[List.getElem?_set_self hi]at q
   cases q
   obtain⟨b,ws,q1,_,q3,_⟩:=M.at' j _ e
   rw[hc]at q1;cases q1
   exact⟨a,vs',hc,QW,q3,Zg (λ_ _ z=>sm z) r⟩
  ·rw[List.getElem?_set_ne (Ne.symm hj)]at q
   obtain⟨b,ws,q1,q2,q3,q4⟩:=M.at' j us q
   have hb:b≠a:=λz=>by
    subst z
    exact hj (M.inj j i b _ _ q e q1 hc)
   exact⟨b,ws,q1,by rw[ZL hb];exact q2,q3,Zg (λ_ _ z=>sm z) q4⟩
theorem ZgB(M:MemR K cm m H){i:Nat}{ts:List T}(e:m[i]?=some (some (false,ts))):
  ∃a vs,cm[i]?=some a/\H a=some (.lst vs)/\K.lookup a=none/\Ext cm m H cm (m.set i none) H/\MemR K cm (m.set i none) H/\RTs K cm (m.set i none) H ts vs/\RT K cm (m.set i none) H (.lst ts) (.ref a):=by
 obtain⟨a,vs,q1,q2,q3,q4⟩:=M.at' i _ e
 have hi:i<m.length:=(List.getElem?_eq_some_iff.mp e).1
 have lv:∀{j:Nat}{us:Bool×List T},(m.set i none)[j]?=some (some us)->m[j]?=some (some us)/\j≠i:=λ{j us} q=>by
  by_cases hj:j=i
  ·subst hj;rw[List.getElem?_set_self hi]at q;cases q
  ·rw[List.getElem?_set_ne (Ne.symm hj)]at q;exact⟨q,hj⟩
 have nl:∀{b:Addr},Zr cm m b->Zr cm (m.set i none) b:=λ{b} n j us q=>n j us (lv q).1
 have sm:∀{t:T}{v:V},RT K cm m H t v->RT K cm (m.set i none) H t v:=λh=>h.same (λ_ _ z=>z) λ_ n _=>nl n
 have na:Zr cm (m.set i none) a:=λj us q z=>(lv q).2 (M.inj j i a _ _ (lv q).1 e z q1)
 have rs:RTs K cm (m.set i none) H ts vs:=Zg (λ_ _ z=>sm z) q4
 refine⟨a,vs,q1,q2,q3,⟨λ_ _ h=>h,by simp,λj us h=>?_,λb o h n=>⟨h,nl n⟩⟩,⟨by simp[M.len],λj k b us us' e1 e2=>M.inj j k b _ _ (lv e1).1 (lv e2).1,λj us q=>?_⟩,rs,.mlst q2 na rs⟩
 ·by_cases hj:j=i
  ·subst hj;rw[e]at h;cases h
  ·rw[List.getElem?_set_ne (Ne.symm hj)];exact h
 ·obtain⟨b,ws,p1,p2,p3,p4⟩:=M.at' j us (lv q).1
  exact⟨b,ws,p1,p2,p3,Zg (λ_ _ z=>sm z) p4⟩
theorem ZaC(M:MemR K cm m H){i:Nat}{b b':Bool}{ts:List T}(e:m[i]?=some (some (b,ts))):
  (∀a,Zr cm m a↔Zr cm (m.set i (some (b',ts))) a)/\MemR K cm (m.set i (some (b',ts))) H/\(∀t v,RT K cm m H t v->RT K cm (m.set i (some (b',ts))) H t v):=by
 have hi:i<m.length:=(List.getElem?_eq_some_iff.mp e).1
 have nl:∀a,Zr cm m a↔Zr cm (m.set i (some (b',ts))) a:=λa=>by
  constructor
  ·intro n j us q
   obtain⟨d,q'⟩:=Jq e q
   exact n j d q'
  ·intro n j us q
   by_cases hj:j=i
   ·subst hj
    exact n j _ (List.getElem?_set_self hi)
   ·exact n j us (by rw[List.getElem?_set_ne (Ne.symm hj)];exact q)
 have sm:∀t v,RT K cm m H t v->RT K cm (m.set i (some (b',ts))) H t v:=λt v h=>h.same (λ_ _ z=>z) λa n _=>(nl a).mp n
 refine⟨nl,⟨by simp[M.len],λj k a us us' e1 e2 f1 f2=>?_,λj us q=>?_⟩,sm⟩
 ·obtain⟨_,e1⟩:=Jq e e1
  obtain⟨_,e2⟩:=Jq e e2
  exact M.inj j k a _ _ e1 e2 f1 f2
 ·by_cases hj:j=i
  ·subst hj
   rw[List.getElem?_set_self hi]at q
   cases q
   obtain⟨a,vs,q1,q2,q3,q4⟩:=M.at' j _ e
   exact⟨a,vs,q1,q2,q3,Zg (λ_ _ z=>sm _ _ z) q4⟩
  ·rw[List.getElem?_set_ne (Ne.symm hj)]at q
   obtain⟨a,vs,q1,q2,q3,q4⟩:=M.at' j us q
   exact⟨a,vs,q1,q2,q3,Zg (λ_ _ z=>sm _ _ z) q4⟩
theorem ZgA(M:MemR K cm m H){i:Nat}{b:Bool}{ts:List T}(e:m[i]?=some (some (b,ts))):Ext cm m H cm (m.set i (some (true,ts))) H/\MemR K cm (m.set i (some (true,ts))) H:=by
 have hi:i<m.length:=(List.getElem?_eq_some_iff.mp e).1
 obtain⟨nl,M',_⟩:=ZaC (b':=true) M e
 refine⟨⟨λ_ _ h=>h,by simp,λj us h=>?_,λa o h n=>⟨h,(nl a).mp n⟩⟩,M'⟩
 by_cases hj:j=i
 ·subst hj
  rw[e]at h;cases h
  exact List.getElem?_set_self hi
 ·rw[List.getElem?_set_ne (Ne.symm hj)];exact h
theorem Je{cm':List Addr}{m1 m':Mem}{H':Hp}{w:W}{ts:List T}(M:MemR K cm m H)(e:ZQ w m=.ok ts m1)(x:Ext cm m1 H cm' m' H')(M':MemR K cm' m' H'):
  Ext cm m H cm' (giveBack w m m') H'/\MemR K cm' (giveBack w m m') H'/\∀t v,RT K cm' m' H' t v->RT K cm' (giveBack w m m') H' t v:=by
 cases w with
 |t t =>
  unfold ZQ at e
  dsimp only at e
  split at e<;>cases e
  exact⟨x,M',λ_ _ h=>h⟩
 |f a=>cases e
 |x _ _ _=>cases e
 |c i =>
  unfold ZQ at e
  dsimp only at e
  split at e
  ·rename_i b us h
   cases e
   have hi:i<m.length:=(List.getElem?_eq_some_iff.mp h).1
   have h':m'[i]?=some (some (true,ts)):=x.lent i ts (List.getElem?_set_self hi)
   have hi':i<m'.length:=(List.getElem?_eq_some_iff.mp h').1
   obtain⟨nl,M2,sm⟩:=ZaC (b':=b) M' h'
   have eg:giveBack (.c i) m m'=m'.set i (some (b,ts)):=by unfold giveBack;dsimp only;rw[h]
   rw[eg]
   obtain⟨nl0,M1,_⟩:=ZaC (b':=true) M h
   refine⟨⟨λj a q=>x.pre j a q,by rw[List.length_set];have:=x.len;rw[List.length_set]at this;exact this,λj vs q=>?_,λa o q n=>?_⟩,M2,sm⟩
   ·by_cases hj:j=i
    ·subst hj
     rw[h]at q;cases q
     exact List.getElem?_set_self hi'
    ·rw[List.getElem?_set_ne (Ne.symm hj)]
     exact x.lent j vs (by rw[List.getElem?_set_ne (Ne.symm hj)];exact q)
   ·obtain⟨q1,q2⟩:=x.keep a o q ((nl0 a).mp n)
    exact⟨q1,(nl a).mp q2⟩
  ·cases e
theorem Zz:lim<=sizeLine:=by rw[sizeLine_eq];decide
theorem QK{o:Option T}{k:W->List Addr->Mem->Hp->Prop}(h:OkR K (pur o m) xr cm m H k):∃t,o=some t/\OkR K (.ok (.t t) m) xr cm m H k:=by
 cases o with
 |none=>exact h.elim
 |some t=>exact⟨t,rfl,h⟩
theorem ZaW{α:Type}{o p:Option T}{f:T->T->Option α}{z:α}(h:(o.bind λx=>p.bind λy=>f x y)=some z):∃x y,o=some x/\p=some y/\f x y=some z:=by
 cases o with
 |none=>cases h
 |some x =>
  cases p with
  |none=>cases h
  |some y=>exact⟨x,y,rfl,rfl,h⟩
theorem strApp(a b:List Nat):(⟨a.toArray⟩:Str)++⟨b.toArray⟩=⟨(a++b).toArray⟩:=by
 show(⟨a.toArray++b.toArray⟩:Str)=_
 simp
theorem JH(a:List Nat):(⟨a.toArray⟩:Str).length=a.length:=by simp[Str.length]
theorem ans{t:T}{Q:VK}(ho:OkR K (.ok (.t t) m) xr cm m H λw cm' m' H'=>∀v,RW K cm' m' H' w v->Q v H')(M:MemR K cm m H){v:V}(r:RT K cm m H t v):Q v H:=ho.now M v r
theorem Zbj{ts:List T}{Q:VK}(ho:OkR K (.ok (.t (.tup ts)) m) xr cm m H λw cm' m' H'=>∀v,RW K cm' m' H' w v->Q v H')(M:MemR K cm m H){vs:List V}(r:RTs K cm m H ts vs){p:Addr}(hp:H p=none):
 Q (.ref p) (upd H p (.tup vs)):=ho.to (.new hp) (M.new hp) _ (RT.newTup r hp)
theorem XM{ts:List T}{Q:VK}(ho:OkR K (.ok (.t (.lst ts)) m) xr cm m H λw cm' m' H'=>∀v,RW K cm' m' H' w v->Q v H')(M:MemR K cm m H){vs:List V}(r:RTs K cm m H ts vs){p:Addr}(hp:H p=none):
 Q (.ref p) (upd H p (.lst vs)):=ho.to (.new hp) (M.new hp) _ (RT.newLst M r hp)
theorem ZjG{i j:Int}(h1:i.natAbs<bigN)(h2:j.natAbs<bigN):IntMulOk i j:=by
 have b:∀{k:Int},k.natAbs<bigN->Builtin.Int.intBits k<=2000:=λ{k} h=>intBits_le (by
  have e:bigN=2^(250*8):=by unfold bigN;rw[<-Nat.pow_mul]
  rw[e]at h
  exact h)
 exact mulOk_of_bits (b h1) (b h2) (by decide)
theorem Zb0{i:Int}(h:small i=true):-(2^64)<i/\i<2^64:=by
 have h':i.natAbs<2^64:=of_decide_eq_true h
 omega
theorem ZhB{i j:Int}(h:Xi i j=true):IntMulOk i j:=by
 unfold Xi at h
 simp only[Bool.or_eq_true,Bool.and_eq_true,decide_eq_true_eq]at h
 rcases h with(h|h)|⟨h1,h2⟩
 ·exact CMul.ok (.inl (Zb0 h))
 ·exact CMul.ok (.inr (Zb0 h))
 ·exact ZjG h1 h2
theorem Zjx:OpR X (binaryOp .Mult) (rI (λi j=>Xi i j=true) λi j=>.int (i*j)):=opI λ_ _ _ _ _ _ _ hc q=>mul_int q (ZhB hc)
theorem Zka{prog:Program}{w:World}{A:Around}{E:Value->Shared->Prop}{s:Shared}{t b:Addr}{ws:List Value}{Q:Value->Shared->Prop}(ht:IsTup s.heap t ([]:List Value).toArray)(hb:IsTup s.heap b ws.toArray)(h:Q (.ref b) s):wpAny (model prog w) A (binaryOp .Add (.ref t) (.ref b)) Q E s:=by
 obtain⟨⟨cls,dd,data,sl⟩,ho,hc,n,hd⟩:=id ht
 obtain⟨⟨cls2,dd2,data2,sl2⟩,ho2,hc2,n2,hd2⟩:=id hb
 simp only at hc hd hc2 hd2
 subst hc hd hc2 hd2
 exact concat_meets ⟨_,ho,rfl⟩ ⟨_,ho2,rfl⟩ noFill_tuple_add seq_tuple_add PySem.F.slot_tuple_add PySem.F.entry_tuple_add (PySem.F.args_tuple_add_2 _ _)
  (tuple_addW0 t b ([]:List Value).toArray ws.toArray n n2 dd dd2 sl sl2 (by simp)) ⟨ho,ho2,h⟩
theorem Zjw:OpR X (binaryOp .Add) (λx y H Q=>∃a b ys,x=.ref a/\y=.ref b/\SqT X.K H a []/\SqT X.K H b ys/\Q (.ref b) H):=by
 intro pins s σ H x y v u Q I rx ry h
 obtain⟨a,b,ys,rfl,rfl,ha,hb,q⟩:=h
 cases rx
 cases ry
 obtain⟨its,r1,p1,_⟩:=I.tuple ha
 obtain⟨its2,r2,p2,_⟩:=I.tuple hb
 cases r1
 exact Zka p1 p2 ⟨.ref b,H,I,rfl,q⟩
theorem JX{f:Int->Int->Option T}{x y t:T}(e:intT f x y=some t):∃i j,x=.int i/\y=.int j/\f i j=some t:=by
 cases x with
 |int i=>cases y with
  |int j=>exact⟨i,j,rfl,rfl,e⟩
  |_=>cases e
 |_=>cases e
theorem Xk{f:Int->Int->Bool}{x y:T}{c:Bool}(e:ZhG f x y=some c):∃i j,x=.int i/\y=.int j/\f i j=c:=by
 cases x with
 |int i=>cases y with
  |int j=>exact⟨i,j,rfl,rfl,Option.some.inj e⟩
  |_=>cases e
 |_=>cases e
noncomputable def fBin(op:Operator)(x y:W)(m:Mem):Res W:=pur ((view x m).bind λx=>(view y m).bind λy=>binT op x y) m
theorem Zeu:OpR X (binaryOp .Add) (r2 X.K xr (fBin .Add)):=by
 rintro pins s σ H x y v u Q I rx ry ⟨cm,m,a,b,M,ra,rb,ho⟩
 obtain⟨t,e,ho⟩:=QK ho
 obtain⟨ta,tb,ea,eb,e⟩:=ZaW e
 change addT ta tb=some t at e
 unfold addT at e
 have hz:=Zz
 split at e
 ·cases e
  cases(Zd ra ea (λ_ z=>by cases z)).vint
  cases(Zd rb eb (λ_ z=>by cases z)).vint
  exact op_add pins s σ H _ _ v u Q I rx ry ⟨_,_,rfl,rfl,ans ho M (.int _)⟩
 ·split at e<;>cases e
  cases(Zd ra ea (λ_ z=>by cases z)).vstr
  cases(Zd rb eb (λ_ z=>by cases z)).vstr
  exact Zev pins s σ H _ _ v u Q I rx ry ⟨_,_,rfl,rfl,by rw[JH,JH];omega,by rw[strApp];exact ans ho M (.str _)⟩
 ·split at e<;>cases e
  obtain⟨p,vs,rfl,h1,r1⟩:=(Zd ra ea (λ_ z=>by cases z)).itup
  obtain⟨q,us,rfl,h2,r2⟩:=(Zd rb eb (λ_ z=>by cases z)).itup
  have l1:=r1.length
  have l2:=r2.length
  cases vs with
  |nil =>
   cases r1
   exact Zjw pins s σ H _ _ v u Q I rx ry ⟨p,q,us,rfl,rfl,h1,h2,ans ho M (.mtup h2 r2)⟩
  |cons v1 vs =>
   refine Zjz pins s σ H _ _ v u Q I rx ry ⟨p,q,_,us,rfl,rfl,h1,h2,by simp,by omega,λz=>?_,λz l hl=>Zbj ho M (ZG r1 r2) hl⟩
   subst z
   cases r2
   rw[List.append_nil]at ho
   exact ans ho M (.mtup h1 r1)
 ·split at e<;>cases e
  obtain⟨p,vs,rfl,h1,r1⟩:=Zw M ra ea
  obtain⟨q,us,rfl,h2,r2⟩:=Zw M rb eb
  have l1:=r1.length
  have l2:=r2.length
  exact op_cat pins s σ H _ _ v u Q I rx ry ⟨p,q,vs,us,rfl,rfl,h1,h2,by omega,λl hl=>XM ho M (ZG r1 r2) hl⟩
 all_goals cases e
theorem Zeq:OpR X (binaryOp .Sub) (r2 X.K xr (fBin .Sub)):=by
 rintro pins s σ H x y v u Q I rx ry ⟨cm,m,a,b,M,ra,rb,ho⟩
 obtain⟨t,e,ho⟩:=QK ho
 obtain⟨ta,tb,ea,eb,e⟩:=ZaW e
 obtain⟨i,j,rfl,rfl,e2⟩:=JX e
 cases(Zd ra ea (λ_ z=>by cases z)).vint
 cases(Zd rb eb (λ_ z=>by cases z)).vint
 cases e2
 exact op_sub pins s σ H _ _ v u Q I rx ry ⟨_,_,rfl,rfl,ans ho M (.int _)⟩
theorem Zc0:OpR X (binaryOp .FloorDiv) (r2 X.K xr (fBin .FloorDiv)):=by
 rintro pins s σ H x y v u Q I rx ry ⟨cm,m,a,b,M,ra,rb,ho⟩
 obtain⟨t,e,ho⟩:=QK ho
 obtain⟨ta,tb,ea,eb,e⟩:=ZaW e
 obtain⟨i,j,rfl,rfl,e2⟩:=JX e
 cases(Zd ra ea (λ_ z=>by cases z)).vint
 cases(Zd rb eb (λ_ z=>by cases z)).vint
 split at e2<;>cases e2
 exact Zjy pins s σ H _ _ v u Q I rx ry ⟨_,_,rfl,rfl,‹_/\_›,ans ho M (.int _)⟩
theorem Zet:OpR X (binaryOp .Mod) (r2 X.K xr (fBin .Mod)):=by
 rintro pins s σ H x y v u Q I rx ry ⟨cm,m,a,b,M,ra,rb,ho⟩
 obtain⟨t,e,ho⟩:=QK ho
 obtain⟨ta,tb,ea,eb,e⟩:=ZaW e
 obtain⟨i,j,rfl,rfl,e2⟩:=JX e
 cases(Zd ra ea (λ_ z=>by cases z)).vint
 cases(Zd rb eb (λ_ z=>by cases z)).vint
 split at e2<;>cases e2
 exact op_mod pins s σ H _ _ v u Q I rx ry ⟨_,_,rfl,rfl,‹_›,ans ho M (.int _)⟩
theorem Zer:OpR X (binaryOp .Pow) (r2 X.K xr (fBin .Pow)):=by
 rintro pins s σ H x y v u Q I rx ry ⟨cm,m,a,b,M,ra,rb,ho⟩
 obtain⟨t,e,ho⟩:=QK ho
 obtain⟨ta,tb,ea,eb,e⟩:=ZaW e
 obtain⟨i,j,rfl,rfl,e2⟩:=JX e
 cases(Zd ra ea (λ_ z=>by cases z)).vint
 cases(Zd rb eb (λ_ z=>by cases z)).vint
 have hc:0<=j/\j<=1000/\i.natAbs<2^64:=by
  by_cases hc:0<=j/\j<=1000/\i.natAbs<2^64
  ·exact hc
  ·rw[if_neg hc]at e2;cases e2
 rw[if_pos hc]at e2
 cases e2
 exact op_pow pins s σ H _ _ v u Q I rx ry ⟨_,_,rfl,rfl,⟨hc.1,by omega,hc.2.2⟩,ans ho M (.int _)⟩
theorem Xf{α β:Type}{F:α->β->Prop}{xs:List α}{ys:List β}(h:Paired F xs ys):∀k:Nat,Paired F (repT xs k) (List.replicate k ys).flatten
 |0=>.nil
 |k+1=>by
  unfold repT
  rw[List.replicate_succ,List.replicate_succ,List.flatten_cons,List.flatten_cons]
  exact ZG h (Xf h k)
noncomputable def fCmp(op:CmpOp)(x y:W)(m:Mem):Res W:=pur (((view x m).bind λx=>(view y m).bind λy=>cmpT op x y).map .bl) m
theorem Jx{op:CmpOp}{a b:W}{k:W->List Addr->Mem->Hp->Prop}(h:OkR K (fCmp op a b m) xr cm m H k):∃ta tb c,view a m=some ta/\view b m=some tb/\cmpT op ta tb=some c/\OkR K (.ok (.t (.bl c)) m) xr cm m H k:=by
 obtain⟨t,e,ho⟩:=QK h
 cases q:((view a m).bind λx=>(view b m).bind λy=>cmpT op x y)with
 |none=>rw[q]at e;cases e
 |some c =>
  rw[q]at e;cases e
  obtain⟨ta,tb,ea,eb,e⟩:=ZaW q
  exact⟨ta,tb,c,ea,eb,e,ho⟩
noncomputable def flV:T->V
 |.bl b=>.bl b
 |.int i=>.int i
 |.str cs=>.str ⟨cs.toArray⟩
 |_=>.non
theorem RT.fl{t:T}{v:V}(h:RT K cm m H t v)(f:flat t=true):v=flV t:=by
 cases h<;>first|rfl|cases f
theorem QR{w:W}{v:V}{t:T}(h:RW K cm m H w v)(e:view w m=some t)(f:flat t=true):v=flV t:=
 (Zd h e (λts z=>by subst z;cases f)).fl f
theorem ZcO{a b:List Nat}:(⟨a.toArray⟩:Str)=⟨b.toArray⟩↔a=b:=by
 constructor
 ·intro h
  injection h with h
  simpa using h
 ·intro h;rw[h]
theorem ZhQ{a b:List Nat}:decide (V.str ⟨a.toArray⟩=V.str ⟨b.toArray⟩)=(a==b):=by
 by_cases h:a=b
 ·subst h;simp
 ·rw[beq_eq_false_iff_ne.mpr h]
  exact decide_eq_false λz=>h (ZcO.mp (V.str.inj z))
theorem Zfp{x y:T}(h:Zaj x y=true):flat x=true/\flat y=true/\scal (flV x) (flV y)=true/\decide (flV x=flV y)=eqT x y:=by
 cases x<;>cases y<;>first
  |(cases h;done)
  |(refine⟨rfl,rfl,rfl,?_⟩;unfold eqT;first|exact Zdi|exact Zgv|exact ZhQ|exact decide_eq_true rfl|exact decide_eq_false (λz=>nomatch z))
theorem Zj8(x y:T):cmpT .Eq x y=if Zaj x y || (Zf 60 x&&Zf 60 y)then some (eqT x y)else none:=by cases x<;>cases y<;>rfl
theorem Zj7(x y:T):cmpT .NotEq x y=if Zaj x y || (Zf 60 x&&Zf 60 y)then some (!eqT x y)else none:=by cases x<;>cases y<;>rfl
mutual
noncomputable def pyT:T->PyData
 |.bl b=>.bool b
 |.int i=>.int i
 |.str cs=>.str ⟨cs.toArray⟩
 |.tup ts=>.tuple (pyTs ts)
 |.lst ts=>.list (pyTs ts)
 |_=>.none
noncomputable def pyTs:List T->List PyData
 |[]=>[]
 |t::ts=>pyT t::pyTs ts
end
mutual
theorem Zal:∀(n:Nat) (t:T),Zf n t=true->PyData.canLay0 (pyT t)=true/\PyData.depth (pyT t)<=n
 |n,.non,h=>⟨by simp[pyT,PyData.canLay0],by simp[pyT,PyData.depth]⟩
 |n,.bl b,h=>⟨by rw[pyT];simp[PyData.canLay0],by rw[pyT];simp[PyData.depth]⟩
 |n,.int i,h=>⟨by rw[pyT];simp[PyData.canLay0],by rw[pyT];simp[PyData.depth]⟩
 |n,.str cs,h=>⟨by rw[pyT,PyData.canLay0];rw[Zf]at h;exact h,by rw[pyT];simp[PyData.depth]⟩
 |0,.tup ts,h=>by simp[Zf]at h
 |0,.lst ts,h=>by simp[Zf]at h
 |n+1,.tup ts,h=>by
  rw[Zf]at h
  have:=ZcS n ts h
  exact⟨by rw[pyT,PyData.canLay0];exact this.1,by rw[pyT];simp only[PyData.depth];omega⟩
 |n+1,.lst ts,h=>by
  rw[Zf]at h
  have:=ZcS n ts h
  exact⟨by rw[pyT,PyData.canLay0];exact this.1,by rw[pyT];simp only[PyData.depth];omega⟩
 |n,.dct _ _,h=>by cases n<;>simp[Zf]at h
 |n,.scr _,h=>by cases n<;>simp[Zf]at h
theorem ZcS:∀(n:Nat) (ts:List T),Zj n ts=true->PyData.canLayAll0 (pyTs ts)=true/\PyData.depthAll (pyTs ts)<=n
 |n,[],h=>⟨by rw[pyTs];simp[PyData.canLayAll0],by rw[pyTs];simp[PyData.depthAll]⟩
 |n,t::ts,h=>by
  rw[Zj,Bool.and_eq_true]at h
  have h1:=Zal n t h.1
  have h2:=ZcS n ts h.2
  refine⟨by rw[pyTs,PyData.canLayAll0,h1.1,h2.1];rfl,?_⟩
  rw[pyTs,PyData.depthAll]
  omega
end
theorem str_beq{a b:List Nat}:((⟨a.toArray⟩:Str)==⟨b.toArray⟩)=(a==b):=by
 by_cases h:a=b
 ·subst h;simp
 ·rw[beq_eq_false_iff_ne.mpr h,beq_eq_false_iff_ne.mpr λz=>h (ZcO.mp z)]
mutual
theorem ZdG:∀(n k:Nat) (x y:T),Zf n x=true->Zf k y=true->PyData.eqv (pyT x) (pyT y)=eqT x y
 |n,k,.tup xs,.tup ys,h1,h2=>by
  cases n with
  |zero=>simp[Zf]at h1
  |succ n=>cases k with
   |zero=>simp[Zf]at h2
   |succ k =>
    rw[Zf]at h1 h2
    rw[pyT,pyT,PyData.eqv,eqT]
    exact ZcT n k xs ys h1 h2
 |n,k,.lst xs,.lst ys,h1,h2=>by
  cases n with
  |zero=>simp[Zf]at h1
  |succ n=>cases k with
   |zero=>simp[Zf]at h2
   |succ k =>
    rw[Zf]at h1 h2
    rw[pyT,pyT,PyData.eqv,eqT]
    exact ZcT n k xs ys h1 h2
 |n,k,.str xs,.str ys,_,_=>by rw[pyT,pyT,PyData.eqv,eqT];exact str_beq
 |n,k,.non,y,_,h2=>by cases y<;>first|(simp[pyT,PyData.eqv,eqT];done)|(cases k<;>simp[Zf]at h2)
 |n,k,.bl b,y,_,h2=>by cases y<;>first|(simp[pyT,PyData.eqv,eqT,b2i];done)|(cases k<;>simp[Zf]at h2)
 |n,k,.int b,y,_,h2=>by cases y<;>first|(simp[pyT,PyData.eqv,eqT,b2i];done)|(cases k<;>simp[Zf]at h2)
 |n,k,.str xs,.non,_,_=>by simp[pyT,PyData.eqv,eqT]
 |n,k,.str xs,.bl _,_,_=>by simp[pyT,PyData.eqv,eqT]
 |n,k,.str xs,.int _,_,_=>by simp[pyT,PyData.eqv,eqT]
 |n,k,.str xs,.tup _,_,_=>by simp[pyT,PyData.eqv,eqT]
 |n,k,.str xs,.lst _,_,_=>by simp[pyT,PyData.eqv,eqT]
 |n,k,.tup xs,.non,_,_=>by simp[pyT,PyData.eqv,eqT]
 |n,k,.tup xs,.bl _,_,_=>by simp[pyT,PyData.eqv,eqT]
 |n,k,.tup xs,.int _,_,_=>by simp[pyT,PyData.eqv,eqT]
 |n,k,.tup xs,.str _,_,_=>by simp[pyT,PyData.eqv,eqT]
 |n,k,.tup xs,.lst _,_,_=>by simp[pyT,PyData.eqv,eqT]
 |n,k,.lst xs,.non,_,_=>by simp[pyT,PyData.eqv,eqT]
 |n,k,.lst xs,.bl _,_,_=>by simp[pyT,PyData.eqv,eqT]
 |n,k,.lst xs,.int _,_,_=>by simp[pyT,PyData.eqv,eqT]
 |n,k,.lst xs,.str _,_,_=>by simp[pyT,PyData.eqv,eqT]
 |n,k,.lst xs,.tup _,_,_=>by simp[pyT,PyData.eqv,eqT]
 |n,k,x,.dct _ _,_,h2=>by cases k<;>simp[Zf]at h2
 |n,k,x,.scr _,_,h2=>by cases k<;>simp[Zf]at h2
 |n,k,.dct _ _,y,h1,_=>by cases n<;>simp[Zf]at h1
 |n,k,.scr _,y,h1,_=>by cases n<;>simp[Zf]at h1
theorem ZcT:∀(n k:Nat) (xs ys:List T),Zj n xs=true->Zj k ys=true->PyData.eqvAll (pyTs xs) (pyTs ys)=eqTs xs ys
 |n,k,[],[],_,_=>by rw[pyTs,PyData.eqvAll,eqTs]
 |n,k,[],_::_,_,_=>by rw[pyTs,pyTs,PyData.eqvAll,eqTs]<;>simp
 |n,k,_::_,[],_,_=>by rw[pyTs,pyTs,PyData.eqvAll,eqTs]<;>simp
 |n,k,x::xs,y::ys,h1,h2=>by
  rw[Zj,Bool.and_eq_true]at h1 h2
  rw[pyTs,pyTs,PyData.eqvAll,eqTs,ZdG n k x y h1.1 h2.1,ZcT n k xs ys h1.2 h2.2]
end
theorem JV{pins:List (Addr×Obj)}{σ:L2.St}{s:Shared}(I:Inv X pins σ H s):∀{ts:List T}{vs:List V}{us:List Value},ts.length=vs.length->(∀(i:Nat) t v u,ts[i]?=some t->vs[i]?=some v->RelV v u->∃as,Reads s.heap u (pyT t) as)->Vals vs us->∃as,ReadsAll s.heap us (pyTs ts) as
 |[],[],_,_,_,.nil=>⟨_,by rw[pyTs];exact .nil⟩
 |t::ts,v::vs,_,hl,h,.cons r rs=>by
  obtain⟨as,h1⟩:=h 0 t v _ rfl rfl r
  obtain⟨bs,h2⟩:=JV I (ts:=ts) (vs:=vs) (by simpa using hl) (λi t v u a b c=>h (i+1) t v u (by simpa using a) (by simpa using b) c) rs
  exact⟨_,by rw[pyTs];exact .cons h1 h2⟩
 |[],_::_,_,hl,_,_=>by simp at hl
 |_::_,[],_,hl,_,_=>by simp at hl
theorem RT.reads{pins:List (Addr×Obj)}{σ:L2.St}{s:Shared}{K:Frag}(hK:X.K=K)(I:Inv X pins σ H s){t:T}{v:V}(h:RT K cm m H t v):∀{n:Nat}{u:Value},Zf n t=true->RelV v u->∃as,Reads s.heap u (pyT t) as:=by
 subst hK
 induction h with
 |non=>intro n u _ r;cases r;exact⟨[],by simp only[pyT];exact .none⟩
 |bl b=>intro n u _ r;cases r;exact⟨_,by rw[pyT];exact .bool b⟩
 |int i=>intro n u _ r;obtain⟨t,rfl⟩:=r;exact⟨_,by rw[pyT];exact .int i t⟩
 |str cs=>intro n u _ r;obtain⟨t,rfl⟩:=r;exact⟨_,by rw[pyT];exact .str _ t⟩
 |@tup a ts vs h1 h2 h3 ih =>
  intro n u hd r
  cases n with
  |zero=>simp[Zf]at hd
  |succ n =>
   rw[Zf]at hd
   cases r
   obtain⟨its,rv,⟨o,ho,hc,k,hdt⟩,hz⟩:=I.tuple h1
   have hall:∀(i:Nat) t,ts[i]?=some t->Zf n t=true:=λi t e=>by
    have:∀{l:List T},Zj n l=true->∀x∈l,Zf n x=true:=λ{l}=>by
     induction l with
     |nil=>intro _ x hx;cases hx
     |cons y l ih=>intro h x hx;rw[Zj,Bool.and_eq_true]at h;rcases List.mem_cons.mp hx with rfl|hx;exact h.1;exact ih h.2 x hx
    exact this hd t (List.mem_of_getElem? e)
   obtain⟨as,hr⟩:=JV I h2 (λi t v u e1 e2 r=>ih i t v e1 e2 (hall i t e1) r) rv
   exact⟨_,by rw[pyT];exact .tuple ho hc hdt (by simpa using hr)⟩
 |@lst a ts vs h1 h2 h3 h4 ih =>
  intro n u hd r
  cases n with
  |zero=>simp[Zf]at hd
  |succ n =>
   rw[Zf]at hd
   cases r
   obtain⟨its,k,rv,ho,hz⟩:=I.lst h1
   have hall:∀(i:Nat) t,ts[i]?=some t->Zf n t=true:=λi t e=>by
    have:∀{l:List T},Zj n l=true->∀x∈l,Zf n x=true:=λ{l}=>by
     induction l with
     |nil=>intro _ x hx;cases hx
     |cons y l ih=>intro h x hx;rw[Zj,Bool.and_eq_true]at h;rcases List.mem_cons.mp hx with rfl|hx;exact h.1;exact ih h.2 x hx
    exact this hd t (List.mem_of_getElem? e)
   obtain⟨as,hr⟩:=JV I h3 (λi t v u e1 e2 r=>ih i t v e1 e2 (hall i t e1) r) rv
   exact⟨_,by rw[pyT];exact .list ho rfl rfl (by simpa using hr)⟩
 |dct _ _ _ _ _ _=>intro n u hd _;cases n<;>simp[Zf]at hd
 |scr _ _=>intro n u hd _;cases n<;>simp[Zf]at hd
theorem QG{pins:List (Addr×Obj)}{σ:L2.St}{s:Shared}(I:Inv X pins σ H s)(M:MemR X.K cm m H){w:W}{t:T}{v:V}{u:Value}(r:RW X.K cm m H w v)(e:view w m=some t)(rv:RelV v u){n:Nat}(hd:Zf n t=true):∃as,Reads s.heap u (pyT t) as:=by
 cases t with
 |lst ts =>
  cases n with
  |zero=>simp[Zf]at hd
  |succ n =>
   rw[Zf]at hd
   obtain⟨a,vs,rfl,h1,rr⟩:=Zw M r e
   cases rv
   obtain⟨its,k,rv,ho,hz⟩:=I.lst h1
   obtain⟨as,hr⟩:=JV I rr.length (λi t v u e1 e2 r=>RT.reads rfl I (QL rr i t v e1 e2) (n:=n) (by
    have:∀{l:List T},Zj n l=true->∀x∈l,Zf n x=true:=λ{l}=>by
     induction l with
     |nil=>intro _ x hx;cases hx
     |cons y l ih=>intro h x hx;rw[Zj,Bool.and_eq_true]at h;rcases List.mem_cons.mp hx with rfl|hx;exact h.1;exact ih h.2 x hx
    exact this hd t (List.mem_of_getElem? e1)) r) rv
   exact⟨_,by rw[pyT];exact .list ho rfl rfl (by simpa using hr)⟩
 |_=>exact RT.reads rfl I (Zd r e (λ_ z=>by cases z)) hd rv
theorem ZfR(hu:X.A.units+64<cLine):OpR X (compareOp .Eq) (r2 X.K xr (fCmp .Eq)):=by
 rintro pins s σ H x y v u Q I rx ry ⟨cm,m,a,b,M,ra,rb,ho⟩
 obtain⟨ta,tb,c,ea,eb,e,ho⟩:=Jx ho
 rw[Zj8]at e
 split at e<;>cases e
 rename_i hs
 rw[Bool.or_eq_true]at hs
 rcases hs with hs|hs
 ·obtain⟨f1,f2,f3,f4⟩:=Zfp hs
  cases QR ra ea f1
  cases QR rb eb f2
  exact op_eq pins s σ H _ _ v u Q I rx ry ⟨f3,by rw[f4];exact ans ho M (.bl _)⟩
 ·rw[Bool.and_eq_true]at hs
  obtain⟨as,ha⟩:=QG I M ra ea rx hs.1
  obtain⟨bs,hb⟩:=QG I M rb eb ry hs.2
  have d1:=Zal 60 ta hs.1
  have d2:=Zal 60 tb hs.2
  refine SeqAt.compareEq_reads ha hb d1.1 d2.1 (by omega) ⟨.bl (eqT ta tb),H,I,?_,ans ho M (.bl _)⟩
  rw[ZdG 60 60 ta tb hs.1 hs.2]
  rfl
theorem ZfK(hu:X.A.units+64<cLine):OpR X (compareOp .NotEq) (r2 X.K xr (fCmp .NotEq)):=by
 rintro pins s σ H x y v u Q I rx ry ⟨cm,m,a,b,M,ra,rb,ho⟩
 obtain⟨ta,tb,c,ea,eb,e,ho⟩:=Jx ho
 rw[Zj7]at e
 split at e<;>cases e
 rename_i hs
 rw[Bool.or_eq_true]at hs
 rcases hs with hs|hs
 ·obtain⟨f1,f2,f3,f4⟩:=Zfp hs
  cases QR ra ea f1
  cases QR rb eb f2
  exact op_ne pins s σ H _ _ v u Q I rx ry ⟨f3,by rw[f4];exact ans ho M (.bl _)⟩
 ·rw[Bool.and_eq_true]at hs
  obtain⟨as,ha⟩:=QG I M ra ea rx hs.1
  obtain⟨bs,hb⟩:=QG I M rb eb ry hs.2
  have d1:=Zal 60 ta hs.1
  have d2:=Zal 60 tb hs.2
  refine SeqAt.compareNe_reads ha hb d1.1 d2.1 (by omega) ⟨.bl (!eqT ta tb),H,I,?_,ans ho M (.bl _)⟩
  rw[ZdG 60 60 ta tb hs.1 hs.2]
  rfl
theorem ZdM:∀a b:List Nat,nlt a b=decide (a<b)
 |[],[]=>by simp[nlt]
 |[],_::_=>by simp[nlt]
 |_::_,[]=>by simp[nlt]
 |a::x,b::y=>by
  unfold nlt
  rw[ZdM x y]
  by_cases h:a<b
  ·rw[if_pos h]
   exact(decide_eq_true (List.cons_lt_cons_iff.mpr (.inl h))).symm
  ·rw[if_neg h]
   by_cases h2:b<a
   ·rw[if_pos h2]
    refine(decide_eq_false λz=>?_).symm
    rcases List.cons_lt_cons_iff.mp z with z|⟨z,_⟩<;>omega
   ·rw[if_neg h2]
    have e:a=b:=by omega
    subst e
    simp
theorem ZfL:OpR X (compareOp .Lt) (r2 X.K xr (fCmp .Lt)):=by
 rintro pins s σ H x y v u Q I rx ry ⟨cm,m,a,b,M,ra,rb,ho⟩
 obtain⟨ta,tb,c,ea,eb,e,ho⟩:=Jx ho
 change ltT ta tb=some c at e
 cases ta with
 |int i=>cases tb with
  |int j =>
   cases e
   cases(Zd ra ea (λ_ z=>by cases z)).vint
   cases(Zd rb eb (λ_ z=>by cases z)).vint
   exact op_lt pins s σ H _ _ v u Q I rx ry ⟨_,_,rfl,rfl,ans ho M (.bl _)⟩
  |_=>cases e
 |str i=>cases tb with
  |str j =>
   cases e
   cases(Zd ra ea (λ_ z=>by cases z)).vstr
   cases(Zd rb eb (λ_ z=>by cases z)).vstr
   refine ZfI pins s σ H _ _ v u Q I rx ry ⟨_,_,rfl,rfl,?_⟩
   have:=ans ho M (.bl _)
   rw[ZdM]at this
   exact this
  |_=>cases e
 |_=>cases e
theorem ZfM:OpR X (compareOp .LtE) (r2 X.K xr (fCmp .LtE)):=by
 rintro pins s σ H x y v u Q I rx ry ⟨cm,m,a,b,M,ra,rb,ho⟩
 obtain⟨ta,tb,c,ea,eb,e,ho⟩:=Jx ho
 obtain⟨i,j,rfl,rfl,rfl⟩:=Xk e
 cases(Zd ra ea (λ_ z=>by cases z)).vint
 cases(Zd rb eb (λ_ z=>by cases z)).vint
 exact op_le pins s σ H _ _ v u Q I rx ry ⟨_,_,rfl,rfl,ans ho M (.bl _)⟩
theorem ZfP:OpR X (compareOp .Gt) (r2 X.K xr (fCmp .Gt)):=by
 rintro pins s σ H x y v u Q I rx ry ⟨cm,m,a,b,M,ra,rb,ho⟩
 obtain⟨ta,tb,c,ea,eb,e,ho⟩:=Jx ho
 obtain⟨i,j,rfl,rfl,rfl⟩:=Xk e
 cases(Zd ra ea (λ_ z=>by cases z)).vint
 cases(Zd rb eb (λ_ z=>by cases z)).vint
 exact op_gt pins s σ H _ _ v u Q I rx ry ⟨_,_,rfl,rfl,ans ho M (.bl _)⟩
theorem ZfQ:OpR X (compareOp .GtE) (r2 X.K xr (fCmp .GtE)):=by
 rintro pins s σ H x y v u Q I rx ry ⟨cm,m,a,b,M,ra,rb,ho⟩
 obtain⟨ta,tb,c,ea,eb,e,ho⟩:=Jx ho
 obtain⟨i,j,rfl,rfl,rfl⟩:=Xk e
 cases(Zd ra ea (λ_ z=>by cases z)).vint
 cases(Zd rb eb (λ_ z=>by cases z)).vint
 exact op_ge pins s σ H _ _ v u Q I rx ry ⟨_,_,rfl,rfl,ans ho M (.bl _)⟩
theorem ZhM{a b:List Nat}:eqV (.str ⟨a.toArray⟩) (.str ⟨b.toArray⟩)=(a==b):=by
 show((⟨a.toArray⟩:Str)==⟨b.toArray⟩)=(a==b)
 by_cases h:a=b
 ·subst h;simp
 ·rw[beq_eq_false_iff_ne.mpr h,beq_eq_false_iff_ne.mpr λz=>h (ZcO.mp z)]
theorem fl_eqV{x y:T}(f:flat x=true)(g:flat y=true):eqV (flV y) (flV x)=eqT y x:=by
 cases x<;>cases y<;>first
  |(cases f;done)
  |(cases g;done)
  |(unfold eqT;exact ZhM)
  |(unfold eqT;rfl)
theorem RTs.fl{ts:List T}{vs:List V}(h:RTs K cm m H ts vs)(f:ts.all flat=true):vs=ts.map flV/\vs.all XQ=true:=by
 induction h with
 |nil=>exact⟨rfl,rfl⟩
 |@cons t v _ _ r _ ih =>
  rw[List.all_cons,Bool.and_eq_true]at f
  obtain⟨h1,h2⟩:=ih f.2
  have h3:=r.fl f.1
  subst h3
  refine⟨by rw[List.map_cons,h1],?_⟩
  rw[List.all_cons,h2,Bool.and_true]
  cases t<;>first|rfl|(cases f.1)
theorem ZgI{x:T}(f:flat x=true):∀{ts:List T},ts.all flat=true->inV (flV x) (ts.map flV)=ts.any λt=>eqT t x
 |[],_=>rfl
 |t::ts,g=>by
  rw[List.all_cons,Bool.and_eq_true]at g
  have ih:=ZgI f g.2
  unfold inV at ih ⊢
  rw[List.map_cons,List.any_cons,List.any_cons,ih,fl_eqV f g.1]
theorem X8{x:T}(f:flat x=true):XQ (flV x)=true:=by cases x<;>first|rfl|cases f
theorem found1(b:List Nat)(a:Nat):(!(Builtin.Str.occurrences ⟨b.toArray⟩ ⟨#[a]⟩ 0 (⟨b.toArray⟩:Str).length 1).isEmpty)=decide (a∈b):=by
 have:=PySem.StrLaws.found_one (⟨b.toArray⟩:Str) a
 simpa using this
theorem J5{x y:T}{c:Bool}(e:cmpT .In x y=some c):(∃a b,x=.str a/\y=.str b/\c=!(Builtin.Str.occurrences ⟨b.toArray⟩ ⟨a.toArray⟩ 0 (⟨b.toArray⟩:Str).length 1).isEmpty)∨(flat x=true/\∃ts,(y=.tup ts∨y=.lst ts)/\ts.all flat=true/\c=ts.any λt=>eqT t x)∨∃ts,y=.lst ts/\Zf 59 x=true/\Zj 59 ts=true/\c=ts.any λt=>eqT t x:=by
 have hh:∀{x y:T}{c:Bool},hasT x y=some c->(flat x=true/\∃ts,(y=.tup ts∨y=.lst ts)/\ts.all flat=true/\c=ts.any λt=>eqT t x)∨∃ts,y=.lst ts/\Zf 59 x=true/\Zj 59 ts=true/\c=ts.any λt=>eqT t x:=by
  intro x y c e
  unfold hasT at e
  split at e
  ·split at e<;>cases e
   rename_i h
   rw[Bool.and_eq_true]at h
   exact .inl ⟨h.1,_,.inl rfl,h.2,rfl⟩
  ·split at e
   ·cases e
    rename_i h
    rw[Bool.and_eq_true]at h
    exact .inl ⟨h.1,_,.inr rfl,h.2,rfl⟩
   ·split at e<;>cases e
    rename_i h
    rw[Bool.and_eq_true]at h
    exact .inr ⟨_,rfl,h.1,h.2,rfl⟩
  ·cases e
 cases x with
 |str cs =>
  cases cs with
  |nil=>cases y<;>exact .inr (hh e)
  |cons a r =>
   cases r with
   |nil =>
    cases y with
    |str b=>cases e;exact .inl ⟨[a],b,rfl,rfl,(found1 b a).symm⟩
    |_=>exact .inr (hh e)
   |cons a' r =>
    cases y with
    |str b=>cases e;exact .inl ⟨_,b,rfl,rfl,rfl⟩
    |_=>exact .inr (hh e)
 |_=>cases y<;>exact .inr (hh e)
theorem ZhP{ts:List T}{n:Nat}(h:Zj n ts=true):∀x∈ts,Zf n x=true:=by
 induction ts with
 |nil=>intro x hx;cases hx
 |cons y l ih =>
  intro x hx
  rw[Zj,Bool.and_eq_true]at h
  rcases List.mem_cons.mp hx with rfl|hx
  ·exact h.1
  ·exact ih h.2 x hx
theorem ZgR{vs:List V}{us:List Value}(r:Vals vs us):∀(i:Nat) (u:Value),us[i]?=some u->∃v,vs[i]?=some v/\RelV v u:=by
 induction r with
 |nil=>intro i u h;simp at h
 |cons r rs ih =>
  intro i u h
  cases i with
  |zero=>simp at h;subst h;exact⟨_,rfl,r⟩
  |succ i=>exact ih i u (by simpa using h)
theorem Zgs{pins:List (Addr×Obj)}{σ:L2.St}{s:Shared}{H:Hp}{w:W}{tx:T}{xv:V}{v:Value}{p:Addr}{ts:List T}{vs:List V}(hu:X.A.units+64<cLine)(I:Inv X pins σ H s)(M:MemR X.K cm m H)(ra:RW X.K cm m H w xv)(ea:view w m=some tx)(rx:RelV xv v)(dx:Zf 59 tx=true)(h1:H p=some (.lst vs))(r:RTs X.K cm m H ts vs)(dt:Zj 59 ts=true):
  ∃(its:Array Value) (e:Value->Bool),s.heap.IsList p its/\(∀y,y∈its->SeqAt.EqAt X.A.in1 s y v (e y))/\its.any e=ts.any λt=>eqT t tx:=by
 classical
 obtain⟨as,hx⟩:=QG I M ra ea rx dx
 obtain⟨its,k,rv,ho,hz⟩:=I.lst h1
 have hlen:ts.length=its.length:=r.length.trans rv.length
 have at_:∀(i:Nat) (t:T) (y:Value),ts[i]?=some t->its[i]?=some y->SeqAt.EqAt X.A.in1 s y v (eqT t tx):=by
  intro i t y e1 e2
  obtain⟨u,e3,e4⟩:=ZgR rv i y e2
  have d:=ZhP dt t (List.mem_of_getElem? e1)
  obtain⟨bs,hb⟩:=RT.reads rfl I (QL r i t u e1 e3) (n:=59) d e4
  have l1:=Zal 59 t d
  have l2:=Zal 59 tx dx
  have:=SeqAt.eqAt_reads (pyT t) (pyT tx) X.A.in1 s y v bs as hb hx l1.1 l2.1 (by
   have:X.A.in1.units<=X.A.units+1:=by simp[Around.in1]
   omega)
  rw[ZdG 59 59 t tx d dx]at this
  exact this
 refine⟨its.toArray,λy=>decide (∃(i:Nat) (t:T),ts[i]?=some t/\its[i]?=some y/\eqT t tx=true),⟨_,ho,rfl,k,rfl⟩,λy hy=>?_,?_⟩
 ·by_cases q:∃(i:Nat) (t:T),ts[i]?=some t/\its[i]?=some y/\eqT t tx=true
  ·dsimp only;rw[decide_eq_true q]
   obtain⟨i,t,e1,e2,e3⟩:=q
   have:=at_ i t y e1 e2
   rw[e3]at this
   exact this
  ·dsimp only;rw[decide_eq_false q]
   obtain⟨i,hi,e2⟩:=List.getElem_of_mem (show y∈its by simpa using hy)
   have hi':i<ts.length:=by omega
   have e1:ts[i]?=some ts[i]:=List.getElem?_eq_getElem hi'
   have e2:its[i]?=some y:=by rw[<-e2];exact List.getElem?_eq_getElem hi
   have:=at_ i ts[i] y e1 e2
   cases q2:eqT ts[i] tx with
   |false=>rw[q2]at this;exact this
   |true=>exact absurd ⟨i,ts[i],e1,e2,q2⟩ q
 ·rw[Bool.eq_iff_iff,List.any_toArray,List.any_eq_true,List.any_eq_true]
  constructor
  ·rintro ⟨y,hy,q⟩
   obtain⟨i,t,e1,_,e3⟩:=of_decide_eq_true q
   exact⟨t,List.mem_of_getElem? e1,e3⟩
  ·rintro ⟨t,ht,e3⟩
   obtain⟨i,hi,e1⟩:=List.getElem_of_mem ht
   have hi':i<its.length:=by omega
   exact⟨its[i],List.getElem_mem hi',decide_eq_true ⟨i,t,by rw[<-e1];exact List.getElem?_eq_getElem hi,List.getElem?_eq_getElem hi',e3⟩⟩
theorem ZeH(x y:T):cmpT .NotIn x y=(cmpT .In x y).map (!·):=by
 cases x with
 |str cs =>
  cases cs with
  |nil=>cases y<;>rfl
  |cons a r=>cases r<;>cases y<;>rfl
 |_=>cases y<;>rfl
theorem ZfO(hu:X.A.units+64<cLine):OpR X (compareOp .In) (r2 X.K xr (fCmp .In)):=by
 rintro pins s σ H x y v u Q I rx ry ⟨cm,m,a,b,M,ra,rb,ho⟩
 obtain⟨ta,tb,c,ea,eb,e,ho⟩:=Jx ho
 rcases J5 e with⟨p,q,rfl,rfl,rfl⟩|⟨f,ts,hy,g,rfl⟩|⟨ts,rfl,dx,dt,rfl⟩
 ·cases(Zd ra ea (λ_ z=>by cases z)).vstr
  cases(Zd rb eb (λ_ z=>by cases z)).vstr
  exact ZfJ pins s σ H _ _ v u Q I rx ry ⟨_,_,rfl,rfl,ans ho M (.bl _)⟩
 ·cases QR ra ea f
  have fin:∀{vs:List V},RTs X.K cm m H ts vs->vs=ts.map flV/\vs.all XQ=true/\Q (.bl (inV (flV ta) vs)) H:=λr=>by
   obtain⟨h1,h2⟩:=RTs.fl r g
   exact⟨h1,h2,by rw[h1,ZgI f g];exact ans ho M (.bl _)⟩
  rcases hy with rfl|rfl
  ·obtain⟨p,vs,rfl,h1,r⟩:=(Zd rb eb (λ_ z=>by cases z)).itup
   obtain⟨_,f2,f3⟩:=fin r
   exact Zcf pins s σ H _ _ v u Q I rx ry ⟨p,vs,rfl,.inr h1,X8 f,f2,f3⟩
  ·obtain⟨p,vs,rfl,h1,r⟩:=Zw M rb eb
   obtain⟨_,f2,f3⟩:=fin r
   exact Zcf pins s σ H _ _ v u Q I rx ry ⟨p,vs,rfl,.inl (.of h1),X8 f,f2,f3⟩
 ·obtain⟨p,vs,rfl,h1,r⟩:=Zw M rb eb
  cases ry
  obtain⟨its,e,hl,he,ha⟩:=Zgs hu I M ra ea rx dx h1 r dt
  refine SeqAt.in_listAt e hl he ?_
  rw[ha]
  exact⟨.bl _,H,I,rfl,ans ho M (.bl _)⟩
theorem Zcg(hu:X.A.units+64<cLine):OpR X (compareOp .NotIn) (r2 X.K xr (fCmp .NotIn)):=by
 rintro pins s σ H x y v u Q I rx ry ⟨cm,m,a,b,M,ra,rb,ho⟩
 obtain⟨ta,tb,c',ea,eb,e,ho⟩:=Jx ho
 rw[ZeH]at e
 cases e2:cmpT .In ta tb with
 |none=>rw[e2]at e;cases e
 |some c =>
 rw[e2]at e;cases e
 rcases J5 e2 with⟨p,q,rfl,rfl,rfl⟩|⟨f,ts,hy,g,rfl⟩|⟨ts,rfl,dx,dt,rfl⟩
 ·cases(Zd ra ea (λ_ z=>by cases z)).vstr
  cases(Zd rb eb (λ_ z=>by cases z)).vstr
  exact Zce pins s σ H _ _ v u Q I rx ry ⟨_,_,rfl,rfl,ans ho M (.bl _)⟩
 ·cases QR ra ea f
  have fin:∀{vs:List V},RTs X.K cm m H ts vs->vs=ts.map flV/\vs.all XQ=true/\Q (.bl (!inV (flV ta) vs)) H:=λr=>by
   obtain⟨h1,h2⟩:=RTs.fl r g
   exact⟨h1,h2,by rw[h1,ZgI f g];exact ans ho M (.bl _)⟩
  rcases hy with rfl|rfl
  ·obtain⟨p,vs,rfl,h1,r⟩:=(Zd rb eb (λ_ z=>by cases z)).itup
   obtain⟨_,f2,f3⟩:=fin r
   exact Xw pins s σ H _ _ v u Q I rx ry ⟨p,vs,rfl,.inr h1,X8 f,f2,f3⟩
  ·obtain⟨p,vs,rfl,h1,r⟩:=Zw M rb eb
   obtain⟨_,f2,f3⟩:=fin r
   exact Xw pins s σ H _ _ v u Q I rx ry ⟨p,vs,rfl,.inl (.of h1),X8 f,f2,f3⟩
 ·obtain⟨p,vs,rfl,h1,r⟩:=Zw M rb eb
  cases ry
  obtain⟨its,e,hl,he,ha⟩:=Zgs hu I M ra ea rx dx h1 r dt
  refine SeqAt.notIn_listAt e hl he ?_
  rw[ha]
  exact⟨.bl _,H,I,rfl,ans ho M (.bl _)⟩
noncomputable def hdV:V->Option (Option Bool)
 |.non=>some none
 |.bl b=>some (some b)
 |_=>none
noncomputable def hdT:T->Option (Option Bool)
 |.non=>some none
 |.bl b=>some (some b)
 |_=>none
theorem RW.hd{w:W}{v:V}{t:T}(M:MemR K cm m H)(h:RW K cm m H w v)(e:view w m=some t):hdV v=hdT t:=by
 cases t with
 |lst ts=>obtain⟨a,vs,rfl,_⟩:=Zw M h e;rfl
 |_=>cases Zd h e (λ_ z=>by cases z)<;>rfl
theorem is_bl{prog:Program}{w:World}{A:Around}{E:Value->Shared->Prop}{s:Shared}{x:V}{v:Value}{b:Bool}{Q:Value->Shared->Prop}(rx:RelV x v)(h:Q (.bool (hdV x==some (some b))) s):
  wpAny (model prog w) A (compareOp .Is v (.bool b)) Q E s:=by
 cases x with
 |bl c =>
  cases rx
  refine wpAny_is_plain rfl ?_
  have e:((Value.bool c)==(Value.bool b))=(hdV (.bl c)==some (some b)):=by cases c<;>cases b<;>rfl
  rw[e];exact h
 |non=>cases rx;exact wpAny_is_other rfl (λz=>nomatch z) h
 |int i=>obtain⟨t,rfl⟩:=rx;exact wpAny_is_other rfl (λz=>nomatch z) h
 |str i=>obtain⟨t,rfl⟩:=rx;exact wpAny_is_other rfl (λz=>nomatch z) h
 |byt i=>obtain⟨t,rfl⟩:=rx;exact wpAny_is_other rfl (λz=>nomatch z) h
 |flt i=>obtain⟨t,rfl⟩:=rx;exact wpAny_is_other rfl (λz=>nomatch z) h
 |ref a=>cases rx;exact wpAny_is_other rfl (λz=>nomatch z) h
 |ty n=>cases rx;exact wpAny_is_other rfl (λz=>nomatch z) h
theorem ZhF{prog:Program}{w:World}{A:Around}{E:Value->Shared->Prop}{s:Shared}{x:V}{v:Value}{b:Bool}{Q:Value->Shared->Prop}(rx:RelV x v)(h:Q (.bool (!(hdV x==some (some b)))) s):
  wpAny (model prog w) A (compareOp .IsNot v (.bool b)) Q E s:=by
 cases x with
 |bl c =>
  cases rx
  refine wpAny_isNot_plain rfl ?_
  have e:((Value.bool c)==(Value.bool b))=(hdV (.bl c)==some (some b)):=by cases c<;>cases b<;>rfl
  rw[e];exact h
 |non=>cases rx;exact wpAny_isNot_other rfl (λz=>nomatch z) h
 |int i=>obtain⟨t,rfl⟩:=rx;exact wpAny_isNot_other rfl (λz=>nomatch z) h
 |str i=>obtain⟨t,rfl⟩:=rx;exact wpAny_isNot_other rfl (λz=>nomatch z) h
 |byt i=>obtain⟨t,rfl⟩:=rx;exact wpAny_isNot_other rfl (λz=>nomatch z) h
 |flt i=>obtain⟨t,rfl⟩:=rx;exact wpAny_isNot_other rfl (λz=>nomatch z) h
 |ref a=>cases rx;exact wpAny_isNot_other rfl (λz=>nomatch z) h
 |ty n=>cases rx;exact wpAny_isNot_other rfl (λz=>nomatch z) h
theorem Zgw{x y:T}{c:Bool}(e:cmpT .Is x y=some c):(y=.non/\c=(hdT x==some none))∨∃b,y=.bl b/\c=(hdT x==some (some b)):=by
 cases y with
 |non=>cases x<;>(cases e;exact .inl ⟨rfl,rfl⟩)
 |bl b =>
  refine .inr ⟨b,rfl,?_⟩
  cases x with
  |bl a=>cases e;cases a<;>cases b<;>rfl
  |_=>cases e;rfl
 |_=>cases x<;>cases e
theorem ZeI(x y:T):cmpT .IsNot x y=(cmpT .Is x y).map (!·):=by
 cases y with
 |non=>cases x<;>rfl
 |bl b=>cases x<;>first|rfl|(rename_i a;cases a<;>cases b<;>rfl)
 |_=>cases x<;>rfl
theorem Zis{x:V}:decide (x=.non)=(hdV x==some none):=by cases x<;>first|rfl|exact decide_eq_true rfl|exact decide_eq_false (λz=>nomatch z)
theorem ZfN:OpR X (compareOp .Is) (r2 X.K xr (fCmp .Is)):=by
 rintro pins s σ H x y v u Q I rx ry ⟨cm,m,a,b,M,ra,rb,ho⟩
 obtain⟨ta,tb,c,ea,eb,e,ho⟩:=Jx ho
 have hx:=RW.hd M ra ea
 rcases Zgw e with⟨rfl,rfl⟩|⟨k,rfl,rfl⟩
 ·cases(Zd rb eb (λ_ z=>by cases z)).vnon
  refine op_isN pins s σ H _ _ v u Q I rx ry ⟨rfl,?_⟩
  rw[Zis,hx]
  exact ans ho M (.bl _)
 ·cases(Zd rb eb (λ_ z=>by cases z)).vbl
  cases ry
  refine is_bl rx ⟨.bl _,H,I,rfl,?_⟩
  rw[hx]
  exact ans ho M (.bl _)
theorem Zch:OpR X (compareOp .IsNot) (r2 X.K xr (fCmp .IsNot)):=by
 rintro pins s σ H x y v u Q I rx ry ⟨cm,m,a,b,M,ra,rb,ho⟩
 obtain⟨ta,tb,c',ea,eb,e,ho⟩:=Jx ho
 have hx:=RW.hd M ra ea
 rw[ZeI]at e
 cases e2:cmpT .Is ta tb with
 |none=>rw[e2]at e;cases e
 |some c =>
 rw[e2]at e;cases e
 rcases Zgw e2 with⟨rfl,rfl⟩|⟨k,rfl,rfl⟩
 ·cases(Zd rb eb (λ_ z=>by cases z)).vnon
  refine Zjv pins s σ H _ _ v u Q I rx ry ⟨rfl,?_⟩
  rw[Zis,hx]
  exact ans ho M (.bl _)
 ·cases(Zd rb eb (λ_ z=>by cases z)).vbl
  cases ry
  refine ZhF rx ⟨.bl _,H,I,rfl,?_⟩
  rw[hx]
  exact ans ho M (.bl _)
theorem Zil(hu:X.A.units+64<cLine):∀op:CmpOp,OpR X (compareOp op) (r2 X.K xr (fCmp op))
 |.Eq=>ZfR hu
 |.NotEq=>ZfK hu
 |.Lt=>ZfL
 |.LtE=>ZfM
 |.Gt=>ZfP
 |.GtE=>ZfQ
 |.Is=>ZfN
 |.IsNot=>Zch
 |.In=>ZfO hu
 |.NotIn=>Zcg hu
noncomputable def fIx(x y:W)(m:Mem):Res W:=pur ((view x m).bind λx=>(view y m).bind λy=>ixT x y) m
theorem ZjP(n:Nat)(i:Int):ixOf n i=ixN n i:=rfl
theorem Xp{α β:Type}{F:α->β->Prop}{xs:List α}{ys:List β}(h:Paired F xs ys){i:Int}{x:α}(e:atT xs i=some x):∃y,atI ys i=some y/\F x y:=by
 unfold atT at e
 unfold atI
 rw[<-h.length]
 cases q:ixOf xs.length i with
 |none=>rw[q]at e;cases e
 |some j =>
  rw[q]at e
  rw[ZjP]at q
  obtain⟨y,e1,e2⟩:=Zy h e
  exact⟨y,by rw[q];exact e1,e2⟩
theorem Xe(ns:List Int):RTs K cm m H (ns.map .int) (ns.map V.int):=by
 induction ns with
 |nil=>exact .nil
 |cons n ns ih=>exact .cons (.int n) ih
theorem Zkf{α β:Type}(f:α->β)(xs:List α)(i:Int):atT (xs.map f) i=(atT xs i).map f:=by
 unfold atT
 rw[List.length_map]
 cases ixOf xs.length i with
 |none=>rfl
 |some j=>simp
theorem ix_ix:IxR X (r2 X.K xr fIx):=by
 rintro value slice pins s σ H x y v u Q I rx ry ⟨cm,m,a,b,M,ra,rb,ho⟩ hs
 obtain⟨t,e,ho⟩:=QK ho
 obtain⟨ta,tb,ea,eb,e⟩:=ZaW e
 unfold ixT at e
 have hz:=Zz
 split at e
 ·cases(Zd rb eb (λ_ z=>by cases z)).vint
  obtain⟨p,vs,rfl,h1,r⟩:=(Zd ra ea (λ_ z=>by cases z)).itup
  obtain⟨z,e1,e2⟩:=Xp r e
  exact ix_tup value slice pins s σ H _ _ v u Q I rx ry ⟨p,vs,_,z,rfl,rfl,h1,e1,ans ho M e2⟩ hs
 ·cases(Zd rb eb (λ_ z=>by cases z)).vint
  obtain⟨p,vs,rfl,h1,r⟩:=Zw M ra ea
  obtain⟨z,e1,e2⟩:=Xp r e
  exact Zf9 value slice pins s σ H _ _ v u Q I rx ry ⟨p,vs,_,z,rfl,rfl,.of h1,e1,ans ho M e2⟩ hs
 ·cases(Zd rb eb (λ_ z=>by cases z)).vint
  obtain⟨p,rfl,h1⟩:=(Zd ra ea (λ_ z=>by cases z)).vscr
  rw[<-Zkf]at e
  obtain⟨z,e1,e2⟩:=Xp (Xe (K:=X.K) (cm:=cm) (m:=m) (H:=H) _) e
  exact Zf9 value slice pins s σ H _ _ v u Q I rx ry ⟨p,_,_,z,rfl,rfl,h1.sq,e1,ans ho M e2⟩ hs
 ·split at e
  ·rename_i cs k hl
   cases(Zd rb eb (λ_ z=>by cases z)).vint
   cases(Zd ra ea (λ_ z=>by cases z)).vstr
   cases q:atT cs k with
   |none=>rw[q]at e;cases e
   |some c =>
    rw[q]at e;cases e
    exact ix_str value slice pins s σ H _ _ v u Q I rx ry ⟨_,k,c,rfl,rfl,by rw[JH];omega,q,ans ho M (.str [c])⟩ hs
  ·cases e
 ·cases e
end
section
variable{P:Program}{w:World}{A:Around}{E:Value->Shared->Prop}{s:Shared}
structure Side (z TI TO i j a b:Addr) (k:Nat) (h:Heap):Prop where
 zip:IsZip h z TI TO .none
 its:IsPair h TI (.ref i) (.ref j)
 out:∃p q,IsPair h TO p q
 one:h.IsTupleIter i a k
 two:h.IsTupleIter j b k
end
theorem Inv.turnedL{X:Cx}{pins:List (Addr×Obj)}{σ:L2.St}{H:Hp}{s:Shared}{g:Heap}{t':Nat}{ch:List Addr}(I:Inv X pins σ H s)(k:∀b o,b∉ch->s.heap.get? b=some o->g.get? b=some o)(hf:∀b∈ch,FpOk X pins H b):
  Inv X pins σ H { s with heap:=g,toks:=t' }:=by
 have nit:∀b u,H b=some u->b∉ch:=λb u e z=>by rw[(hf b z).1]at e;cases e
 obtain⟨m0,hm0,_⟩:=id I.loc
 refine I.step (g':=s.gens) (d':=s.drawn) (ch:=ch) (λb hb=>⟨(hf b hb).2.2.2.1,(hf b hb).2.1,(hf b hb).2.2.2.2.1,(hf b hb).2.2.2.2.2⟩) (λb o _ _ hc e _=>k b o hc e) (λb o _ _ hc e _=>⟨o.slots,k b o hc e⟩) (λ_ _ _ _ n=>n)
  (λb o hc e=>⟨o,k b o hc e⟩) (λ_ _ e=>e) (λ_ _ _ e=>e) (λb ps e=>⟨#[],by rw[e];simp⟩) (λm hm=>?_) (λb u e=>?_) I.bare
 ·obtain⟨o,es,ep,ho,r⟩:=hm
  exact⟨o,es,ep,k _ o (λz=>(hf _ z).2.1 rfl) ho,r⟩
 ·refine(I.hok b u e).stay (λc v hc q=>k c v ?_ q) (λ_ q=>q) λ_ _ q=>q
  rcases hc with z|z
  ·rw[z];exact nit b u e
  ·exact nit c _ z
noncomputable def Itz(K:Frag)(a b:Addr):It:=
 ⟨λi H=>∃xs ys x y,SqT K H a xs/\SqT K H b ys/\xs[i]?=some x/\ys[i]?=some y,
  λi H v H'=>∃x y c,(∀xs,SqT K H a xs->xs[i]?=some x)/\(∀ys,SqT K H b ys->ys[i]?=some y)/\H c=none/\v=.ref c/\H'=upd H c (.tup [x,y]),
  λi H=>∃xs,SqT K H a xs/\xs.length<=i⟩
noncomputable def It4(n:Nat)(l:Nat->Nat)(xs:Nat->Array Value)(p:Nat->Nat)(h:Heap):Prop:=∀j:Nat,j<4->h.IsListIter (n+j) (l j) (p j)/\h.IsList (l j) (xs j)/\l j<n
noncomputable abbrev IsZ(h:Heap)(n:Nat)(f0:Value)(f1:Bool):Prop:=
 h.get? (n+6)=some { cls:=.type "zip",dict:=none,data:=.fields #[f0,.bool f1,.bool false,.ref (n+4),.ref (n+5)],slots:=#[] }
noncomputable abbrev IsQ(h:Heap)(t:Nat)(a b c d:Value):Prop:=h.get? t=some { cls:=.type "tuple",data:=.seq #[a,b,c,d] }
section
variable{P:Program}{w:World}{A:Around}{E:Value->Shared->Prop}{s:Shared}{n:Nat}{l:Nat->Nat}{xs:Nat->Array Value}{p:Nat->Nat}
noncomputable def Free(h:Heap)(n:Nat):Prop:=∃f1,IsZ h n .none f1∨∃a:Nat,IsZ h n (rawInt a) f1
structure Sd (n:Nat) (l:Nat->Nat) (k:Nat) (h:Heap):Prop where
 zip:Free h n
 its:IsQ h (n+4) (.ref (n+0)) (.ref (n+1)) (.ref (n+2)) (.ref (n+3))
 out:∃a b c d,IsQ h (n+5) a b c d
 pos:∀j:Nat,j<4->h.IsListIter (n+j) (l j) k/\l j<n
noncomputable def Kp(n:Nat)(h g:Heap):Prop:=g.objs.size=h.objs.size/\∀c o,(c<n∨n+7<=c)->h.get? c=some o->g.get? c=some o
end
noncomputable abbrev fp4(n:Nat):List Addr:=[n+6,n+4,n+5,n+0,n+1,n+2,n+3]
noncomputable def Itz4(K:Frag)(l:Nat->Nat):It:=
 ⟨λi H=>∃(xs:Nat->List V) (x:Nat->V),∀j:Nat,j<4->SqL K H (l j) (xs j)/\(xs j)[i]?=some (x j),
  λi H v H'=>∃(x:Nat->V) (c:Addr),(∀j:Nat,j<4->∀ys,SqL K H (l j) ys->ys[i]?=some (x j))/\H c=none/\v=.ref c/\H'=upd H c (.tup [x 0,x 1,x 2,x 3]),
  λi H=>∃xs,SqL K H (l 0) xs/\xs.length<=i⟩
noncomputable def pick4{α:Type}(a b c d:α):Nat->α
 |0=>a
 |1=>b
 |2=>c
 |_=>d
theorem all4{Q:Nat->Prop}(h0:Q 0)(h1:Q 1)(h2:Q 2)(h3:Q 3):∀j:Nat,j<4->Q j
 |0,_=>h0
 |1,_=>h1
 |2,_=>h2
 |3,_=>h3
noncomputable def Ite(K:Frag)(l:Addr):It:=
 ⟨λi H=>∃xs x,SqL K H l xs/\xs[i]?=some x,
  λi H v H'=>∃x c,(∀xs,SqL K H l xs->xs[i]?=some x)/\H c=none/\v=.ref c/\H'=upd H c (.tup [.int (i:Int),x]),
  λi H=>∃xs,SqL K H l xs/\xs.length<=i⟩
theorem Ze2{P:Program}{w:World}{K:Frag}{es:List Expr}{kk}{pos:Pos}{e it l:Addr}(hei:e≠it):
  Turn P w K (.Tuple es kk pos) (Ite K l) [e,it] e (λk h=>(∃old,IsEnum h e it (k:Int) old)/\h.IsListIter it l k) where
 mem:=by simp
 obj:=λk h st c hc=>by
  obtain⟨⟨old,he⟩,⟨o1,e1,c1,d1⟩⟩:=st
  simp only[List.mem_cons,List.not_mem_nil,or_false]at hc
  rcases hc with rfl|rfl
  ·exact⟨_,he,λv y=>by cases(show Data.fields _=Data.cell v from y)⟩
  ·exact⟨o1,e1,λv y=>by rw[d1]at y;cases y⟩
 keep:=λk h h' st f=>by
  obtain⟨⟨old,he⟩,h1⟩:=st
  exact⟨⟨old,f e (by simp) _ he⟩,h1.at λo q=>f it (by simp) o q⟩
 item:=by
  intro X hP hw hK hc k pins s σ H E I hf st hg
  subst hP hw hK
  obtain⟨xs,x,q1,hx⟩:=hg
  obtain⟨its,rv,p,_⟩:=I.list q1
  obtain⟨u,hu,ru⟩:=rv.get hx
  obtain⟨⟨old,he⟩,hit⟩:=st
  obtain⟨oi,ei,_⟩:=id hit
  refine wpAny_pyNext_enum_item he hit p.isList (x:=u) (by simpa using hu) hei λh' heo hit' ht hz kp=>?_
  refine⟨_,rfl,?_⟩
  have fr:∀{c:Addr}{o:Obj},s.heap.get? c=some o->c≠s.heap.objs.size:=λq=>Nat.ne_of_lt (Heap.lt_size q)
  have fresh:H s.heap.objs.size=none:=I.hok.fresh (Nat.le_refl _)
  have I6:Inv X pins σ (upd H s.heap.objs.size (.tup [.int (k:Int),x])) { s with heap:=s.heap.push { cls:=.type "tuple",data:=.seq #[.int k s.toks,u] },toks:=s.toks }:=
   I.laid (t':=s.toks) (λc o q=>Heap.get?_push_of_some _ q) (Nat.le_refl _) ⟨by unfold sizeLine;simp,[.int k s.toks,u],.cons ⟨_,rfl⟩ (.cons ru .nil),⟨_,Heap.get?_push_size _ rfl,rfl,⟨_,rfl⟩,rfl⟩⟩
  have hf6:∀b∈[e,it],FpOk X pins (upd H s.heap.objs.size (.tup [.int (k:Int),x])) b:=λb hb=>by
   refine⟨?_,(hf b hb).2⟩
   have nb:b≠s.heap.objs.size:=by
    simp only[List.mem_cons,List.not_mem_nil,or_false]at hb
    rcases hb with rfl|rfl
    ·exact fr he
    ·exact fr ei
   rw[ZL nb]
   exact(hf b hb).1
  have up:∀c o,c∉[e,it]->(s.heap.push { cls:=.type "tuple",data:=.seq #[.int k s.toks,u] }).get? c=some o->h'.get? c=some o:=λc o hc q=>by
   rcases Heap.get?_push_cases q with⟨rfl,rfl⟩|q
   ·exact ht
   ·exact kp c o (λy=>hc (by simp[y])) (λy=>hc (by simp[y])) q
  have I8:Inv X pins σ (upd H s.heap.objs.size (.tup [.int (k:Int),x])) { s with heap:=h',toks:=s.toks+1 }:=
   Inv.turnedL (s:={ s with heap:=s.heap.push { cls:=.type "tuple",data:=.seq #[.int k s.toks,u] },toks:=s.toks }) (t':=s.toks+1) (ch:=[e,it]) I6 up hf6
  refine wpAny_letOwnedTupleGo_enum heo λh2 he2 sb=>?_
  have I9:=Inv.turnedL (s:={ s with heap:=h',toks:=s.toks+1 }) (g:=h2) (t':=s.toks+1) (ch:=[e]) I8 (λc o hc q=>sb.extBut c o (λy=>hc (by simp[y])) q) (λb hb=>hf6 b (by
   have z:b=e:=by simpa using hb
   simp[z]))
  exact⟨.ref s.heap.objs.size,upd H s.heap.objs.size (.tup [.int (k:Int),x]),I9,rfl,⟨x,_,λys q=>by rw[<-I.list_inj q1 q];exact hx,fresh,rfl,rfl⟩,⟨⟨_,he2⟩,hit'.extBut sb.extBut hei.symm⟩,λb hb=>(hf6 b hb).1⟩
 done:=by
  intro X hP hw hK hc k pins s σ H E I hf st hg
  subst hP hw hK
  obtain⟨xs,q1,hx⟩:=hg
  obtain⟨its,rv,p,_⟩:=I.list q1
  have hl:=rv.length
  obtain⟨⟨old,he⟩,hit⟩:=st
  refine wpAny_pyNext_enum_end (I.ok.hd hc) he hit p.isList (by simp;omega) λh' kp=>⟨rfl,?_⟩
  exact Inv.turnedL (t':=s.toks) (ch:=[it]) I (λc o hc q=>kp c o (λy=>hc (by simp[y])) q) (λb hb=>hf b (by
   have z:b=it:=by simpa using hb
   simp[z]))
 self:=λ_ _ _ _ _ st h=>by
  obtain⟨⟨old,he⟩,_⟩:=st
  exact wpAny_pyIter_enum he h
noncomputable def Its(cs:List Nat):It:=⟨λi _=>i<cs.length,λi H x H'=>H'=H/\∃c,cs[i]?=some c/\x=.str ⟨#[c]⟩,λi _=>cs.length<=i⟩
theorem Zdx{P:Program}{w:World}{K:Frag}{tg:Expr}{cs:List Nat}{it:Addr}{cl:String}{t:Tok}(hcl:["enumerate","zip","dict_itemiterator","dict_reverseitemiterator","odict_iterator","itertools.zip_longest","itertools.pairwise"].contains cl=false)(hself:∀(A:Around) (i:Nat) (s:Shared) (Q:Value->Shared->Prop) (E:Value->Shared->Prop),s.heap.IsStrIter it cl ⟨cs.toArray⟩ t i->Q (.ref it) s->wpAny (model P w) A (pyIter (.ref it)) Q E s)(W:∀A':Around,A'.handled=none->Walks P w A' it [it] [it] cs.length (SignAt ⟨cs.toArray⟩) (λi h=>h.IsStrIter it cl ⟨cs.toArray⟩ t i)):Turn P w K tg (Its cs) [it] it (λi h=>h.IsStrIter it cl ⟨cs.toArray⟩ t i/\i<=cs.length) where
 mem:=by simp
 obj:=λi h st b hb=>by
  have e:b=it:=by simpa using hb
  subst e
  obtain⟨⟨o,e,c,d⟩,_⟩:=st
  exact⟨o,e,λv z=>by rw[d]at z;cases z⟩
 keep:=λi h h' st k=>⟨let⟨⟨o,ho,r⟩,_⟩:=st;⟨o,k it (by simp) o ho,r⟩,st.2⟩
 item:=by
  intro X hP hw hK hc i pins s σ H E I hf st hg
  subst hP hw hK
  obtain⟨f0,f1,f2,f3,f4,f5⟩:=hf it (by simp)
  have hg':i<cs.length:=hg
  refine(W X.A (I.ok.hd hc)).item i s _ _ hg' st.1 λv h' tk hv st' kk=>?_
  obtain⟨c,u,hc',rfl⟩:=hv
  have I1:Inv X pins σ H { s with heap:=h',toks:=tk }:=I.turned (λb o hb e=>kk b o (by simpa using hb) e) f0 f1 f3 f4 f5
  obtain⟨o,e,cc,d⟩:=id st'
  refine⟨_,rfl,ZhJ (s:={ s with heap:=h',toks:=tk }) e cc d hcl ⟨.str ⟨#[c]⟩,H,I1,⟨u,rfl⟩,⟨rfl,c,by simpa using hc',rfl⟩,⟨st',by omega⟩,λb hb=>(hf b hb).1⟩⟩
 done:=by
  intro X hP hw hK hc i pins s σ H E I hf st hg
  subst hP hw hK
  obtain⟨f0,f1,f2,f3,f4,f5⟩:=hf it (by simp)
  have hg':cs.length<=i:=hg
  have e:i=cs.length:=by have:=st.2;omega
  subst e
  exact(W X.A (I.ok.hd hc)).done s _ _ st.1 λh' tk kk=>⟨rfl,I.turned (λb o hb e=>kk b o (by simpa using hb) e) f0 f1 f3 f4 f5⟩
 self:=λA i s Q E st h=>hself A i s Q E st.1 h
section
variable{K:Frag}{cm cm':List Addr}{m m':Mem}{H H':Hp}{xr:XR}{X:Cx}
variable(K) in
inductive Src (cm:List Addr) (m:Mem) (H:Hp):It->List T->Prop where
 |tup {a:Addr}{vs:List V}{ts:List T}:SqT K H a vs->RTs K cm m H ts vs->Src cm m H (Itt K a) ts
 |lst {a:Addr}{vs:List V}{ts:List T}:H a=some (.lst vs)->Zr cm m a->RTs K cm m H ts vs->Src cm m H (Itl K a) ts
 |cel {a:Addr}{i:Nat}{ts:List T}:m[i]?=some (some (true,ts))->cm[i]?=some a->Src cm m H (Itl K a) ts
 |scr {a:Addr}(ns:List Int):ZcI K H a ns->Src cm m H (Itl K a) (ns.map .int)
 |str (cs:List Nat):Src cm m H (Its cs) (cs.map λc=>.str [c])
 |rng (lo:Int) (n:Nat):Src cm m H (Itr lo n) (rangeT lo n)
 |zip {a b:Addr}{xs ys:List V}{ts us:List T}:SqT K H a xs->SqT K H b ys->RTs K cm m H ts xs->RTs K cm m H us ys->ts.length=us.length->Src cm m H (Itz K a b) (zipL ts us)
 |zip4 {l:Nat->Nat}{vs:Nat->List V}{ts:Nat->List T}:(∀j:Nat,j<4->H (l j)=some (.lst (vs j))/\Zr cm m (l j)/\RTs K cm m H (ts j) (vs j))->(∀j:Nat,j<4->(ts 0).length=(ts j).length)->Src cm m H (Itz4 K l) (ZeV (ts 0) (ts 1) (ts 2) (ts 3))
 |enm {a:Addr}{vs:List V}{ts:List T}:H a=some (.lst vs)->Zr cm m a->RTs K cm m H ts vs->Src cm m H (Ite K a) (ZaU ts)
theorem Src.ext(x:Ext cm m H cm' m' H')(M:MemR K cm m H)(M':MemR K cm' m' H'){J:It}{ts:List T}(h:Src K cm m H J ts):Src K cm' m' H' J ts:=by
 cases h with
 |tup h1 h2=>exact .tup (x.sqT M h1) (RTs.ext x M M' h2)
 |lst h1 h2 h3=>exact .lst (x.keep _ _ h1 h2).1 (x.keep _ _ h1 h2).2 (RTs.ext x M M' h3)
 |cel h1 h2=>exact .cel (x.lent _ _ h1) (x.pre _ _ h2)
 |scr ns h=>exact .scr ns (x.scr M h)
 |str cs=>exact .str cs
 |rng lo n=>exact .rng lo n
 |zip h1 h2 h3 h4 h5=>exact .zip (x.sqT M h1) (x.sqT M h2) (RTs.ext x M M' h3) (RTs.ext x M M' h4) h5
 |zip4 h1 h2=>exact .zip4 (λj hj=>let⟨a,b,c⟩:=h1 j hj;⟨(x.keep _ _ a b).1,(x.keep _ _ a b).2,RTs.ext x M M' c⟩) h2
 |enm h1 h2 h3=>exact .enm (x.keep _ _ h1 h2).1 (x.keep _ _ h1 h2).2 (RTs.ext x M M' h3)
theorem stay(M:MemR K cm m H)(z:H'=H){t:T}{x:V}(r:RT K cm m H t x):Ext cm m H cm m H'/\MemR K cm m H'/\RT K cm m H' t x:=by
 subst z
 exact⟨.refl,M,r⟩
theorem ZgP{xs ys:List T}{i:Nat}{t:T}(e:(zipL xs ys)[i]?=some t):∃x y,xs[i]?=some x/\ys[i]?=some y/\t=.tup [x,y]:=by
 unfold zipL at e
 rw[List.getElem?_zipWith]at e
 split at e
 ·rename_i x y h1 h2
  cases e
  exact⟨x,y,h1,h2,rfl⟩
 ·cases e
theorem ZeU{a b c d:List T}{i:Nat}{t:T}(e:(ZeV a b c d)[i]?=some t):∃x y z w,a[i]?=some x/\b[i]?=some y/\c[i]?=some z/\d[i]?=some w/\t=.tup [x,y,z,w]:=by
 unfold ZeV at e
 rw[List.getElem?_map]at e
 obtain⟨p,h1,h2⟩:=Option.map_eq_some_iff.mp e
 obtain⟨q1,q2⟩:=List.getElem?_zip_eq_some.mp h1
 obtain⟨q3,q4⟩:=List.getElem?_zip_eq_some.mp q2
 obtain⟨q5,q6⟩:=List.getElem?_zip_eq_some.mp q4
 exact⟨_,_,_,_,q1,q3,q5,q6,h2.symm⟩
theorem Zgo{xs:List T}{i:Nat}{t:T}(e:(ZaU xs)[i]?=some t):∃x,xs[i]?=some x/\t=.tup [.int (i:Int),x]:=by
 unfold ZaU at e
 rw[List.getElem?_zipWith]at e
 split at e
 ·rename_i k y h1 h2
  cases e
  have hi:=(List.getElem?_eq_some_iff.mp h1).1
  rw[List.length_range]at hi
  rw[List.getElem?_range hi]at h1
  cases h1
  exact⟨y,h2,rfl⟩
 ·cases e
theorem Zcu(xs:List T):(ZaU xs).length=xs.length:=by
 unfold ZaU
 rw[List.length_zipWith,List.length_range,Nat.min_self]
theorem Src.go(M:MemR K cm m H){J:It}{ts:List T}(h:Src K cm m H J ts){i:Nat}{t:T}(e:ts[i]?=some t):J.go i H/\∀x H',J.yld i H x H'->Ext cm m H cm m H'/\MemR K cm m H'/\RT K cm m H' t x:=by
 cases h with
 |tup h1 h2 =>
  obtain⟨v,e1,e2⟩:=Zy h2 e
  refine⟨⟨_,v,h1,e1⟩,λx H' ⟨z,q⟩=>stay M z ?_⟩
  have:=q _ h1
  rw[e1]at this;cases this
  exact e2
 |lst h1 h2 h3 =>
  obtain⟨v,e1,e2⟩:=Zy h3 e
  refine⟨⟨_,v,.of h1,e1⟩,λx H' ⟨z,q⟩=>stay M z ?_⟩
  have:=q _ (.of h1)
  rw[e1]at this;cases this
  exact e2
 |cel h1 h2 =>
  obtain⟨b,vs,q1,q2,q3,q4⟩:=M.at' _ _ h1
  rw[h2]at q1;cases q1
  obtain⟨v,e1,e2⟩:=Zy q4 e
  refine⟨⟨_,v,.of q2,e1⟩,λx H' ⟨z,q⟩=>stay M z ?_⟩
  have:=q _ (.of q2)
  rw[e1]at this;cases this
  exact e2
 |scr ns h =>
  obtain⟨v,e1,e2⟩:=Zy (Xe (K:=K) (cm:=cm) (m:=m) (H:=H) ns) e
  refine⟨⟨_,v,h.sq,e1⟩,λx H' ⟨z,q⟩=>stay M z ?_⟩
  have:=q _ h.sq
  rw[e1]at this;cases this
  exact e2
 |str cs =>
  rw[List.getElem?_map]at e
  cases q:cs[i]? with
  |none=>rw[q]at e;cases e
  |some c =>
   rw[q]at e;cases e
   refine⟨(List.getElem?_eq_some_iff.mp q).1,λx H' ⟨z,c',q',e'⟩=>stay M z ?_⟩
   rw[q]at q';cases q'
   subst e'
   exact .str [c]
 |rng lo n =>
  unfold rangeT at e
  rw[List.getElem?_map]at e
  cases q:(List.range n)[i]? with
  |none=>rw[q]at e;cases e
  |some k =>
   rw[q]at e;cases e
   have hi:=(List.getElem?_eq_some_iff.mp q).1
   rw[List.length_range]at hi
   rw[List.getElem?_range hi]at q
   cases q
   exact⟨hi,λx H' ⟨z,e'⟩=>stay M z (by subst e';exact .int _)⟩
 |zip h1 h2 h3 h4 h5 =>
  obtain⟨x,y,hx,hy,rfl⟩:=ZgP e
  obtain⟨u,e1,r1⟩:=Zy h3 hx
  obtain⟨v,e2,r2⟩:=Zy h4 hy
  refine⟨⟨_,_,u,v,h1,h2,e1,e2⟩,?_⟩
  rintro x' H' ⟨u',v',c,q1,q2,hc,rfl,rfl⟩
  have z1:=q1 _ h1
  rw[e1]at z1;cases z1
  have z2:=q2 _ h2
  rw[e2]at z2;cases z2
  exact⟨.new hc,M.new hc,RT.newTup (.cons r1 (.cons r2 .nil)) hc⟩
 |@zip4 l vs ts h1 h2 =>
  obtain⟨x0,x1,x2,x3,e0,e1,e2,e3,rfl⟩:=ZeU e
  obtain⟨q0,_,p0⟩:=h1 0 (by decide)
  obtain⟨q1,_,p1⟩:=h1 1 (by decide)
  obtain⟨q2,_,p2⟩:=h1 2 (by decide)
  obtain⟨q3,_,p3⟩:=h1 3 (by decide)
  obtain⟨u0,f0,r0⟩:=Zy p0 e0
  obtain⟨u1,f1,r1⟩:=Zy p1 e1
  obtain⟨u2,f2,r2⟩:=Zy p2 e2
  obtain⟨u3,f3,r3⟩:=Zy p3 e3
  refine⟨⟨vs,pick4 u0 u1 u2 u3,all4 ⟨.of q0,f0⟩ ⟨.of q1,f1⟩ ⟨.of q2,f2⟩ ⟨.of q3,f3⟩⟩,?_⟩
  rintro x' H' ⟨x,c,q,hc,rfl,rfl⟩
  have z0:=q 0 (by decide) _ (.of q0)
  rw[f0]at z0
  have z1:=q 1 (by decide) _ (.of q1)
  rw[f1]at z1
  have z2:=q 2 (by decide) _ (.of q2)
  rw[f2]at z2
  have z3:=q 3 (by decide) _ (.of q3)
  rw[f3]at z3
  rw[<-Option.some.inj z0,<-Option.some.inj z1,<-Option.some.inj z2,<-Option.some.inj z3]
  exact⟨.new hc,M.new hc,RT.newTup (.cons r0 (.cons r1 (.cons r2 (.cons r3 .nil)))) hc⟩
 |enm h1 h2 h3 =>
  obtain⟨x,hx,rfl⟩:=Zgo e
  obtain⟨u,e1,r1⟩:=Zy h3 hx
  refine⟨⟨_,u,.of h1,e1⟩,?_⟩
  rintro x' H' ⟨u',c,q1,hc,rfl,rfl⟩
  have z1:=q1 _ (.of h1)
  rw[e1]at z1;cases z1
  exact⟨.new hc,M.new hc,RT.newTup (.cons (.int _) (.cons r1 .nil)) hc⟩
theorem Src.stop(M:MemR K cm m H){J:It}{ts:List T}(h:Src K cm m H J ts){i:Nat}(e:ts[i]?=none):J.stop i H:=by
 have l:=List.getElem?_eq_none_iff.mp e
 cases h with
 |tup h1 h2=>exact⟨_,h1,by rw[<-h2.length];exact l⟩
 |lst h1 h2 h3=>exact⟨_,.of h1,by rw[<-h3.length];exact l⟩
 |cel h1 h2 =>
  obtain⟨b,vs,q1,q2,q3,q4⟩:=M.at' _ _ h1
  rw[h2]at q1;cases q1
  exact⟨_,.of q2,by rw[<-q4.length];exact l⟩
 |scr ns h=>exact⟨_,h.sq,by rw[List.length_map]at l ⊢;exact l⟩
 |str cs=>rw[List.length_map]at l;exact l
 |rng lo n =>
  unfold rangeT at l
  rw[List.length_map,List.length_range]at l
  exact l
 |zip h1 h2 h3 h4 h5 =>
  refine⟨_,h1,?_⟩
  unfold zipL at l
  rw[List.length_zipWith]at l
  rw[<-h3.length]
  omega
 |@zip4 l vs ts h1 h2 =>
  obtain⟨q0,_,p0⟩:=h1 0 (by decide)
  refine⟨_,.of q0,?_⟩
  have l1:=h2 1 (by decide)
  have l2:=h2 2 (by decide)
  have l3:=h2 3 (by decide)
  unfold ZeV at l
  rw[List.length_map,List.length_zip,List.length_zip,List.length_zip]at l
  rw[<-p0.length]
  omega
 |enm h1 h2 h3 =>
  refine⟨_,.of h1,?_⟩
  rw[Zcu]at l
  rw[<-h3.length]
  exact l
variable(K) in
noncomputable def tI(call:Nat->List W->Mem->Res W)(gv:List T)(xr:XR)(it:E):TI:=λσ H R=>∃env cm m,EnvR K cm m H env σ/\MemR K cm m H /\
 OkR K (ev call gv it env m) xr cm m H λx cm1 m1 H1=>∃ts m2,ZQ x m1=.ok ts m2/\∀J,Src K cm1 m2 H1 J ts->R J H1
theorem PI.mono{tg iter:Expr}{t t':TI}(h:PI X tg iter t)(f:∀σ H R,t' σ H R->t σ H R):PI X tg iter t':=λpins s σ H R I q=>h pins s σ H R I (f σ H R q)
theorem pi_of{tg iter:Expr}{call:Nat->List W->Mem->Res W}{gv:List T}{it:E}(h:PE X iter (tE X.K call gv xr it)):PI X tg iter (tI X.K call gv xr it):=by
 rintro pins s σ H R I ⟨env,cm,m,hE,hM,ho⟩
 refine thn (h pins s σ H (λv H1=>∃cm1 m1 w,MemR X.K cm1 m1 H1/\RW X.K cm1 m1 H1 w v/\∃ts m2,ZQ w m1=.ok ts m2/\∀J,Src X.K cm1 m2 H1 J ts->R J H1) I
  ⟨env,cm,m,hE,hM,ho.mono λw cm1 m1 H1 x1 M1 o1 v rv=>⟨cm1,m1,w,M1,rv,o1⟩⟩) λv s1 ⟨x,H1,I1,r1,cm1,m1,w,M1,rw1,ts0,m2,eb,o1⟩=>?_
 -- an iterator over a list that stands at a
 have onList:∀(a:Addr) (vs:List V),x=.ref a->SqL X.K H1 a vs->R (Itl X.K a) H1->wpAny (model X.prog X.w) X.A (pyIter v) (PIE X pins σ tg R) X.xe s1:=λa vs e hq q=>by
  subst e
  cases r1
  obtain⟨its,rv,p,hz⟩:=I1.list hq
  refine wpAny_pyIter_list p.isList ?_
  refine⟨s1.heap.objs.size,[s1.heap.objs.size],_,_,H1,rfl,I1.kept (t':=s1.toks) λb o e=>Heap.get?_push_of_some _ e,Ze1 a _,⟨_,Heap.get?_push_size _ rfl,rfl,rfl⟩,λb hb=>?_,q⟩
  have e:b=s1.heap.objs.size:=by simpa using hb
  subst e
  exact I1.fpOk (Nat.le_refl _) (I1.hok.fresh (Nat.le_refl _))
 cases w with
 |f a=>cases eb
 |x _ _ _=>cases eb
 |c i =>
  unfold ZQ at eb
  dsimp only at eb
  split at eb
  ·rename_i fl ts e
   cases eb
   obtain⟨a,vs,q1,q2,_⟩:=M1.at' i _ e
   obtain⟨b,h1,h2⟩:=rw1
   rw[q1]at h1;cases h1
   exact onList a vs h2 (.of q2) (o1 _ (.cel (List.getElem?_set_self (List.getElem?_eq_some_iff.mp e).1) q1))
  ·cases eb
 |t t =>
  unfold ZQ at eb
  dsimp only at eb
  cases t with
  |tup ts =>
   cases eb
   obtain⟨a,vs,e,h1,h2⟩:=RT.itup rw1
   subst e
   cases r1
   obtain⟨its,rv,p,hz⟩:=I1.tuple h1
   refine wpAny_pyIter_tuple (show s1.heap.IsTuple a its.toArray from p) ?_
   refine⟨s1.heap.objs.size,[s1.heap.objs.size],_,_,H1,rfl,I1.kept (t':=s1.toks) λb o e=>Heap.get?_push_of_some _ e,Zd1 a _,⟨_,Heap.get?_push_size _ rfl,rfl,rfl⟩,λb hb=>?_,o1 _ (.tup h1 h2)⟩
   have e:b=s1.heap.objs.size:=by simpa using hb
   subst e
   exact I1.fpOk (Nat.le_refl _) (I1.hok.fresh (Nat.le_refl _))
  |lst ts =>
   cases eb
   obtain⟨a,vs,e,h1,h2,h3⟩:=RT.ilst rw1
   exact onList a vs e (.of h1) (o1 _ (.lst h1 h2 h3))
  |scr ns =>
   cases eb
   obtain⟨a,e,h1⟩:=RT.vscr rw1
   exact onList a _ e h1.sq (o1 _ (.scr ns h1))
  |str cs =>
   unfold Zir at eb
   dsimp only at eb
   split at eb
   ·rename_i ts e
    split at e<;>cases e
    cases eb
    cases RT.vstr rw1
    obtain⟨t,rfl⟩:=r1
    have q:=o1 _ (.str cs)
    have I2:∀o:Obj,Inv X pins σ H1 { s1 with heap:=s1.heap.push o }:=λo=>I1.kept (t':=s1.toks) λb o e=>Heap.get?_push_of_some _ e
    have fpk:∀b∈[s1.heap.objs.size],FpOk X pins H1 b:=λb hb=>by
     have e:b=s1.heap.objs.size:=by simpa using hb
     subst e
     exact I1.fpOk (Nat.le_refl _) (I1.hok.fresh (Nat.le_refl _))
    cases ha:(⟨cs.toArray⟩:Str).cps.all (·<128)
    ·refine wpAny_pyIter_wide ha ?_
     exact⟨s1.heap.objs.size,[s1.heap.objs.size],_,_,H1,rfl,I2 _,Zdx (cl:="str_iterator") (t:=t) (by decide) (λA i s Q E st h=>wpAny_pyIter_striter_wide st h) (λA' hA=>by simpa using Walks.strWide hA _ ⟨cs.toArray⟩ t),⟨⟨_,Heap.get?_push_size _ rfl,rfl,rfl⟩,Nat.zero_le _⟩,fpk,q⟩
    ·refine wpAny_pyIter_ascii ha ?_
     exact⟨s1.heap.objs.size,[s1.heap.objs.size],_,_,H1,rfl,I2 _,Zdx (cl:="str_ascii_iterator") (t:=t) (by decide) (λA i s Q E st h=>wpAny_pyIter_striter_ascii st h) (λA' hA=>by simpa using Walks.strAscii hA _ ⟨cs.toArray⟩ t),⟨⟨_,Heap.get?_push_size _ rfl,rfl,rfl⟩,Nat.zero_le _⟩,fpk,q⟩
   ·cases eb
  |_=>cases eb
end
theorem ZbO{elt:Expr}{gens:List Comprehension}{scope:Scope}{pos:Pos}{d:Nat}{target iter:Expr}{ifs:List Expr}{it acc:Value}{env:PySem.Env}(hg:gens[d]?=some ⟨target,iter,ifs,0⟩)(hn:gens[d+1]?=none):
  compTurn (.ListComp elt gens scope pos) d it acc env=(do
   standAt iter.pos
   match <-pyNext it with
   |none=>pure (.done .next)
   |some v =>
    letOwnedTupleGo target it v
    assign target env v
    let mut ok:=true
    for c in ifs do
     if ok then ok <-isTrue c env (eval c env)
    if ok then
     (do let _ <-call (.builtin "list.append") [acc,<-eval elt env])
    again (.compLoop (.ListComp elt gens scope pos) d it acc env)):=by
 unfold compTurn
 simp only[hg,hn]
 rfl
theorem ZbN{elt:Expr}{gens:List Comprehension}{scope:Scope}{pos:Pos}{d:Nat}{target iter:Expr}{ifs:List Expr}{it acc:Value}{env:PySem.Env}{target' iter':Expr}{ifs':List Expr}(hg:gens[d]?=some ⟨target,iter,ifs,0⟩)(hn:gens[d+1]?=some ⟨target',iter',ifs',0⟩):
  compTurn (.ListComp elt gens scope pos) d it acc env=(do
   standAt iter.pos
   match <-pyNext it with
   |none=>pure (.done .next)
   |some v =>
    letOwnedTupleGo target it v
    assign target env v
    let mut ok:=true
    for c in ifs do
     if ok then ok <-isTrue c env (eval c env)
    if ok then
     let x <-eval iter' env
     standAt iter'.pos
     let x <-foldedSetIterable iter' env x
     let _ <-runOwn (.compStart (.ListComp elt gens scope pos) (d+1) (<-holding [x] (pyIter x)) acc env) env
    again (.compLoop (.ListComp elt gens scope pos) d it acc env)):=by
 unfold compTurn
 simp only[hg,hn]
 rfl
section
variable{K:Frag}{cm cm':List Addr}{m m':Mem}{H H':Hp}{xr:XR}{Y:Cx}
noncomputable def AccAt(h:Heap)(D:Addr)(vs:List V):Prop:=vs.length<=sizeLine/\∃(its:List Value) (n:Nat),Vals vs its/\h.get? D=some { cls:=.type "list",data:=.seq its.toArray n }
structure DOk (Y:Cx) (pins:List (Addr×Obj)) (H:Hp) (D:Addr):Prop where
 free:H D=none
 loc:D≠Y.env.locals
 nofs:D∉Y.fs
 own:D∈Y.ex∨Y.s₀.heap.objs.size<=D
 cell:∀x c,Y.env.cells.lookup x=some c->c≠D
 pin:∀p∈Y.pn++pins,p.1≠D
theorem Zij{e:Expr}{call:Nat->List W->Mem->Res W}{gv:List T}{a:E}(h:PE Y e (tE Y.K call gv xr a)){pins:List (Addr×Obj)}{s:Shared}{σ:L2.St}{env:Env}{w:W}(I:Inv Y pins σ H s)(hE:EnvR Y.K cm m H env σ)(M:MemR Y.K cm m H)(ok:ev call gv a env m=.ok w m'):wpAny (model Y.prog Y.w) Y.A (eval e Y.env) (EP Y pins σ λv H'=>∃cm',Ext cm m H cm' m' H'/\MemR Y.K cm' m' H'/\RW Y.K cm' m' H' w v) Y.xe s:=by
 refine h pins s σ H _ I ⟨env,cm,m,hE,M,?_⟩
 rw[ok]
 exact λcm' H' x M' v r=>⟨cm',x,M',r⟩
theorem pt_run{e:Expr}{call:Nat->List W->Mem->Res W}{gv:List T}{a:E}(h:PT Y e (tT Y.K call gv xr a)){pins:List (Addr×Obj)}{s:Shared}{σ:L2.St}{env:Env}{k:Bool}(I:Inv Y pins σ H s)(hE:EnvR Y.K cm m H env σ)(M:MemR Y.K cm m H)(ok:(ev call gv a env m).bind Z0=.ok k m'):wpAny (model Y.prog Y.w) Y.A (isTrue e Y.env (eval e Y.env)) (TP Y pins σ λb H'=>b=k/\∃cm',Ext cm m H cm' m' H'/\MemR Y.K cm' m' H') Y.xe s:=by
 refine h pins s σ H _ I ⟨env,cm,m,hE,M,?_⟩
 rw[ok]
 exact λcm' H' x M'=>⟨rfl,cm',x,M'⟩
noncomputable def PTs(Y:Cx)(call:Nat->List W->Mem->Res W)(gv:List T)(xr:XR):Es->List Expr->Prop
 |.nil,[]=>True
 |.cons a es,e::r=>PT Y e (tT Y.K call gv xr a)/\PTs Y call gv xr es r
 |_,_=>False
theorem Zag{env:PySem.Env}{M:Model}{A:Around}{E:Value->Shared->Prop}{s:Shared}{Q:Bool->Shared->Prop}(h:Q false s):∀ifs:List Expr,
  wpAny M A (forIn ifs false λc r=>if r=true then do let ok <-isTrue c env (eval c env);pure (ForInStep.yield ok)else pure (ForInStep.yield r)) Q E s
 |[]=>wpAny_pure h
 |_::r=>by
  simp only[List.forIn_cons,Bool.false_eq_true,if_false]
  exact wpAny_bind (wpAny_pure (Zag h r))
theorem ZbX{call:Nat->List W->Mem->Res W}{gv:List T}{pins:List (Addr×Obj)}{σ:L2.St}{env:Env}:∀{cs:Es}{ifs:List Expr}{cm:List Addr}{m m':Mem}{H:Hp}{s:Shared}{k:Bool},PTs Y call gv xr cs ifs->Inv Y pins σ H s->EnvR Y.K cm m H env σ->MemR Y.K cm m H ->
  tests call gv cs env m=.ok k m' ->
  wpAny (model Y.prog Y.w) Y.A (forIn ifs true λc r=>if r=true then do let ok <-isTrue c Y.env (eval c Y.env);pure (ForInStep.yield ok)else pure (ForInStep.yield r))
   (λb s'=>b=k/\∃H' cm',Inv Y pins σ H' s'/\Ext cm m H cm' m' H'/\MemR Y.K cm' m' H') Y.xe s
 |.nil,[],cm,m,m',H,s,k,_,I,hE,M,ok=>by
  unfold tests at ok
  cases ok
  exact wpAny_pure ⟨rfl,H,cm,I,.refl,M⟩
 |.cons a es,e::r,cm,m,m',H,s,k,hp,I,hE,M,ok=>by
  unfold tests at ok
  obtain⟨h1,h2⟩:=hp
  simp only[List.forIn_cons,if_true]
  cases e1:ev call gv a env m with
  |ok w m1 =>
   rw[e1]at ok
   change (Z0 w m1).bind _=_ at ok
   cases e2:Z0 w m1 with
   |ok b m2 =>
    rw[e2]at ok
    change (if b=true then _ else _)=_ at ok
    refine wpAny_bind (wpAny_bind (thn (pt_run h1 I hE M (m':=m2) (k:=b) (by rw[e1];exact e2)) λc s1 ⟨H1,I1,hb,cm1,x1,M1⟩=>wpAny_pure ?_))
    subst hb
    cases c with
    |true =>
     rw[if_pos rfl]at ok
     exact thn (ZbX h2 I1 (hE.ext x1 M M1) M1 ok) λb' s2 ⟨hb',H2,cm2,I2,x2,M2⟩=>⟨hb',H2,cm2,I2,x1.trans x2,M2⟩
    |false =>
     rw[if_neg Bool.false_ne_true]at ok
     cases ok
     exact Zag (Q:=λb s'=>b=false/\∃H' cm',Inv Y pins σ H' s'/\Ext cm m H cm' m' H'/\MemR Y.K cm' m' H') ⟨rfl,H1,cm1,I1,x1,M1⟩ r
   |exc _ _=>rw[e2]at ok;cases ok
   |stuck=>rw[e2]at ok;cases ok
  |exc _ _=>rw[e1]at ok;cases ok
  |stuck=>rw[e1]at ok;cases ok
 |.nil,_::_,_,_,_,_,_,_,hp,_,_,_,_=>hp.elim
 |.cons _ _,[],_,_,_,_,_,_,hp,_,_,_,_=>hp.elim
noncomputable def tgS:Tg->List Nat
 |.nm i=>[i]
 |.tp is=>is
noncomputable def Agree(S:List Nat)(σ σ':L2.St):Prop:=∀i,i∉S->σ'[i]?=σ[i]?
noncomputable def setAll:List Nat->List V->L2.St->L2.St
 |i::is,v::vs,σ=>setAll is vs (σ.set i (some v))
 |_,_,σ=>σ
variable(K) in
noncomputable def gT:Tg->TG
 |.nm i=>ZjW i
 |.tp is=>λv σ H Q=>∃a xs,v=.ref a/\SqT K H a xs/\xs.length=is.length/\Q (setAll is xs σ) H
theorem Xq:∀(is:List Nat) (vs:List V) (σ:L2.St),Agree is σ (setAll is vs σ)
 |[],_,_=>λ_ _=>by unfold setAll;rfl
 |_::_,[],_=>λ_ _=>by unfold setAll;rfl
 |i::is,v::vs,σ=>λj hj=>by
  unfold setAll
  rw[List.mem_cons]at hj
  rw[Xq is vs _ j λz=>hj (.inr z),List.getElem?_set_ne λz=>hj (.inl z.symm)]
theorem EnvR.set{env:Env}{σ:L2.St}(h:EnvR K cm m H env σ){w:W}{v:V}(r:RW K cm m H w v)(i:Nat)(hi:i<σ.length):EnvR K cm m H (env.set i (some w)) (σ.set i (some v)):=λj u e=>by
 by_cases hj:j=i
 ·subst hj
  have hl:j<env.length:=by
   have:=(List.getElem?_eq_some_iff.mp e).1
   rwa [List.length_set]at this
  rw[List.getElem?_set_self hl]at e
  cases e
  exact⟨v,List.getElem?_set_self hi,r⟩
 ·rw[List.getElem?_set_ne (Ne.symm hj)]at e
  obtain⟨v',h1,h2⟩:=h j u e
  exact⟨v',by rw[List.getElem?_set_ne (Ne.symm hj)];exact h1,h2⟩
theorem EnvR.setAll:∀{is:List Nat}{ts:List T}{vs:List V}{env:Env}{σ:L2.St},EnvR K cm m H env σ->RTs K cm m H ts vs->(∀i∈is,i<σ.length) ->
  EnvR K cm m H ((is.zip ts).foldl (λenv p=>env.set p.1 (some (.t p.2))) env) (Mi.setAll is vs σ)
 |[],_,_,_,_,h,_,_=>by unfold Mi.setAll;exact h
 |_::_,[],_,_,_,h,.nil,_=>by unfold Mi.setAll;exact h
 |i::is,t::ts,v::vs,env,σ,h,.cons r rs,hi=>by
  unfold Mi.setAll
  rw[List.zip_cons_cons,List.foldl_cons]
  refine EnvR.setAll (h.set (w:=.t t) r i (hi i List.mem_cons_self)) rs λj hj=>?_
  rw[List.length_set]
  exact hi j (List.mem_cons_of_mem _ hj)
theorem gT_ok{tg:Tg}{t:T}{v:V}{env env':Env}{σ:L2.St}(hE:EnvR K cm m H env σ)(hi:∀i∈tgS tg,i<σ.length)(r:RT K cm m H t v)(e:Z7 tg t env=some env'){Q:L2.St->Hp->Prop}(q:∀σ',EnvR K cm m H env' σ'->Agree (tgS tg) σ σ'->Q σ' H):gT K tg v σ H Q:=by
 cases tg with
 |nm i =>
  cases e
  refine q _ (hE.set (w:=.t t) r i (hi i (by simp[tgS]))) λj hj=>?_
  rw[List.getElem?_set_ne]
  intro z
  exact hj (by simp[tgS,z])
 |tp is =>
  unfold Z7 at e
  dsimp only at e
  split at e
  ·split at e<;>cases e
   rename_i ts hl
   obtain⟨a,vs,rfl,h1,h2⟩:=RT.itup r
   exact⟨a,vs,rfl,h1,by rw[<-h2.length];exact hl,q _ (EnvR.setAll hE h2 hi) (Xq is vs σ)⟩
  ·cases e
end
noncomputable def innS:E->List Nat
 |.more _ tg _ inner=>tgS tg++innS inner
 |_=>[]
section
variable{xr:XR}{Y:Cx}{call:Nat->List W->Mem->Res W}{gv:List T}
variable(Y call gv xr) in
noncomputable def Ins(elt:Expr)(gens:List Comprehension):Nat->E->Prop
 |d,.emit a=>gens[d+1]?=none/\PE Y elt (tE Y.K call gv xr a)
 |d,.more it tg cs inner=>(∃target iter ifs,gens[d+1]?=some ⟨target,iter,ifs,0⟩/\PI Y target iter (tI Y.K call gv xr it)/\(∀x,foldedSetIterable iter Y.env x=pure x)/\PG Y target (gT Y.K tg)/\PTs Y call gv xr cs ifs) /\
  (∀i∈tgS tg,i∉innS inner)/\(∀i∈tgS tg++innS inner,i<Y.N.length)/\Ins elt gens (d+1) inner
 |_,_=>False
theorem Zew{α:Type}{M:Model}{A:Around}{t:Sem α}{Q:α->Shared->Prop}{E:Value->Shared->Prop}{s:Shared}(hxe:∀e s,¬Y.xe e s)(h:wpAny M A t Q Y.xe s):wpAny M A t Q E s:=wpAny_mono h (λ_ _ q=>q) λ_ _ z=>(hxe _ _ z).elim
noncomputable abbrev turnF(call:Nat->List W->Mem->Res W)(gv:List T)(cs:Es)(inner:E):Env->Mem->Res (List T):=λenv m=>(tests call gv cs env m).bind λk m=>if k then(ev call gv inner env m).bind ZcH else .ok [] m
noncomputable def ZgO(Y:Cx)(Acc:Heap->List V->Prop)(D:Addr)(S:List Nat)(pins:List (Addr×Obj))(σ:L2.St)(cm:List Addr)(m:Mem)(H:Hp)(vs:List V)(out:List T)(m':Mem)(s':Shared):Prop:=
 ∃σ' H' cm' vs',Inv Y pins σ' H' s'/\Ext cm m H cm' m' H'/\MemR Y.K cm' m' H'/\RTs Y.K cm' m' H' out vs'/\Acc s'.heap (vs++vs')/\Agree S σ σ'/\H' D=none
noncomputable abbrev CEnd(Y:Cx)(D:Addr):=ZgO Y (λh vs=>AccAt h D vs) D
theorem AccAt.keep{h h':Heap}{D:Addr}{vs:List V}(a:AccAt h D vs)(k:∀o,h.get? D=some o->h'.get? D=some o):AccAt h' D vs:=by
 obtain⟨z,its,n,r,e⟩:=a
 exact⟨z,its,n,r,k _ e⟩
theorem EnvR.agree{K:Frag}{cm:List Addr}{m:Mem}{H:Hp}{env:Env}{σ σ':L2.St}{S:List Nat}(h:EnvR K cm m H env σ)(a:Agree S σ σ')(n:∀i∈S,∀w,env[i]?≠some (some w)):EnvR K cm m H env σ':=λi w e=>by
 obtain⟨v,h1,h2⟩:=h i w e
 refine⟨v,?_,h2⟩
 rw[a i λz=>n i z w e]
 exact h1
theorem Agree.trans{S:List Nat}{a b c:L2.St}(h:Agree S a b)(g:Agree S b c):Agree S a c:=λi hi=>(g i hi).trans (h i hi)
theorem Agree.mono{S S':List Nat}{a b:L2.St}(h:Agree S a b)(g:∀i∈S,i∈S'):Agree S' a b:=λi hi=>h i λz=>hi (g i z)
theorem Agree.refl{S:List Nat}{a:L2.St}:Agree S a a:=λ_ _=>rfl
theorem Zds{tg:Tg}{t:T}{env env':Env}(e:Z7 tg t env=some env'){i:Nat}(hi:i∉tgS tg):env'[i]?=env[i]?:=by
 cases tg with
 |nm j =>
  cases e
  rw[List.getElem?_set_ne]
  intro z;exact hi (by simp[tgS,z])
 |tp is =>
  unfold Z7 at e
  dsimp only at e
  split at e
  ·split at e<;>cases e
   rename_i ts hl
   have:∀(is:List Nat) (ts:List T) (env:Env),i∉is->((is.zip ts).foldl (λenv p=>env.set p.1 (some (.t p.2))) env)[i]?=env[i]?:=by
    intro is
    induction is with
    |nil=>intro ts env _;rfl
    |cons j is ih =>
     intro ts env h
     cases ts with
     |nil=>rfl
     |cons t ts =>
      rw[List.mem_cons]at h
      rw[List.zip_cons_cons,List.foldl_cons,ih ts _ λz=>h (.inr z),List.getElem?_set_ne λz=>h (.inl z.symm)]
   exact this is ts env hi
  ·cases e
theorem Zk{α β:Type}{r:Res α}{f:α->Mem->Res β}{y:β}{m':Mem}(h:r.bind f=.ok y m'):∃x m,r=.ok x m/\f x m=.ok y m':=by
 cases r with
 |ok x m=>exact⟨x,m,rfl,h⟩
 |exc _ _=>cases h
 |stuck=>cases h
theorem ZaO{w:W}{m m':Mem}{ts:List T}(h:ZcH w m=.ok ts m'):w=.t (.lst ts)/\m'=m:=by
 unfold ZcH at h
 split at h<;>cases h
 exact⟨rfl,rfl⟩
theorem ZdT{K:Frag}{cm:List Addr}{m m':Mem}{H:Hp}{w:W}{v:V}{t:T}(M:MemR K cm m H)(r:RW K cm m H w v)(e:frz w m=.ok t m'):Ext cm m H cm m' H/\MemR K cm m' H/\RT K cm m' H t v:=by
 cases w with
 |t x=>cases e;exact⟨.refl,M,r⟩
 |f a=>cases e
 |x _ _ _=>cases e
 |c i =>
  unfold frz at e
  dsimp only at e
  split at e
  ·rename_i ts h
   cases e
   obtain⟨a,vs,q1,q2,q3,q4,q5,q6,q7⟩:=ZgB M h
   obtain⟨b,h1,h2⟩:=r
   rw[q1]at h1;cases h1
   subst h2
   exact⟨q4,q5,q7⟩
  ·cases e
theorem Zgl{pins:List (Addr×Obj)}{H:Hp}{b:Addr}{fp:List Addr}{h:Heap}(f:FpOk Y pins H b)(n:b∉fp):FpOk Y (pins++Jw fp h) H b:=
 ⟨f.1,f.2.1,f.2.2.1,f.2.2.2.1,f.2.2.2.2.1,λp hp z=>by
  rw[<-List.append_assoc]at hp
  rcases List.mem_append.mp hp with hp|hp
  ·exact f.2.2.2.2.2 p hp z
  ·exact n (by rw[<-z];exact(Zcj hp).1)⟩
structure AccK (D:Addr) (Acc:Heap->List V->Prop):Prop where
 obj:∀{h vs},Acc h vs->∃o,h.get? D=some o/\∀v,o.data≠.cell v
 keep:∀{h h' vs},Acc h vs->(∀o,h.get? D=some o->h'.get? D=some o)->Acc h' vs
theorem Zaf(D:Addr):AccK D (λh vs=>AccAt h D vs):=⟨λ⟨_,_,_,_,e⟩=>⟨_,e,λv z=>by cases z⟩,λa k=>a.keep k⟩
theorem ZbQ{pins:List (Addr×Obj)}{s:Shared}{σ:L2.St}{H:Hp}{D:Addr}{Acc:Heap->List V->Prop}(hA:AccK D Acc){vs:List V}(I:Inv Y pins σ H s)(f:FpOk Y pins H D)(a:Acc s.heap vs):Inv Y (pins++Jw [D] s.heap) σ H s:=by
 refine I.pinned (λb hb=>?_) λb hb=>?_
 ·have e:b=D:=by simpa using hb
  rw[e];exact f
 ·have e:b=D:=by simpa using hb
  obtain⟨o,q,n⟩:=hA.obj a
  rw[e]
  exact⟨_,q,n⟩
theorem ZaQ{pins:List (Addr×Obj)}{h:Heap}{s:Shared}{σ:L2.St}{H:Hp}{D:Addr}{Acc:Heap->List V->Prop}(hA:AccK D Acc){vs:List V}(a:Acc h vs)(I:Inv Y pins σ H s)(hp:∀o,h.get? D=some o->(D,o)∈pins):Acc s.heap vs/\H D=none:=by
 obtain⟨o,q,_⟩:=hA.obj a
 obtain⟨h1,h2,_⟩:=I.pin _ (List.mem_append_right _ (hp _ q))
 refine⟨hA.keep a λo' e=>?_,h2⟩
 rw[q]at e;cases e
 exact h1
theorem ZgK{pins:List (Addr×Obj)}{s:Shared}{σ:L2.St}{H:Hp}{D:Addr}{vs:List V}(I:Inv Y pins σ H s)(f:FpOk Y pins H D)(a:AccAt s.heap D vs):Inv Y (pins++Jw [D] s.heap) σ H s:=ZbQ (Zaf D) I f a
theorem ZiE{pins:List (Addr×Obj)}{h:Heap}{s:Shared}{σ:L2.St}{H:Hp}{D:Addr}{vs:List V}(a:AccAt h D vs)(I:Inv Y pins σ H s)(hp:∀o,h.get? D=some o->(D,o)∈pins):AccAt s.heap D vs/\H D=none:=ZaQ (Zaf D) a I hp
noncomputable abbrev ZgT(target iter:Expr)(ifs:List Expr)(env:PySem.Env)(it:Value)(c:Code)(br:Sem PySem.Fin):Sem PySem.Fin:=
 standAt iter.pos >>= λ_=>pyNext it >>= λr=>match r with
  |none=>pure (.done .next)
  |some v=>letOwnedTupleGo target it v >>= λ_=>assign target env v >>= λ_ =>
   (forIn ifs true λc r=>if r=true then do let ok <-isTrue c env (eval c env);pure (ForInStep.yield ok)else pure (ForInStep.yield r)) >>= λok=>if ok=true then br else again c
theorem ZbG(hc:Y.calm=true)(hxe:∀e s,¬Y.xe e s){ce:Expr}{D:Addr}{Acc:Heap->List V->Prop}(hA:AccK D Acc){L:Nat}{Pt:T->Prop}{inner:E}{d:Nat}{target iter:Expr}{ifs:List Expr}{tg:Tg}{cs:Es}{it:Addr}{br:Sem PySem.Fin}(hu:Y.A.under (.compLoop ce d (.ref it) (.ref D) Y.env)=Y.A)(hd:(model Y.prog Y.w).den (.compLoop ce d (.ref it) (.ref D) Y.env)=(compTurn ce d (.ref it) (.ref D) Y.env).onRaise (λx=>do noteFrame x Y.env;theTreesLotGoes x))(code:compTurn ce d (.ref it) (.ref D) Y.env=ZgT target iter ifs Y.env (.ref it) (.compLoop ce d (.ref it) (.ref D) Y.env) br)(hg:PG Y target (gT Y.K tg))(ht:PTs Y call gv xr cs ifs)(hdis:∀i∈tgS tg,i∉innS inner)(hlt:∀i∈tgS tg++innS inner,i<Y.N.length)(hbr:∀{pins:List (Addr×Obj)}{s:Shared}{σ:L2.St}{H:Hp}{cm:List Addr}{m m':Mem}{env:Env}{out:List T}{vs:List V},Inv Y pins σ H s->FpOk Y pins H D->Acc s.heap vs->EnvR Y.K cm m H env σ->(∀i∈innS inner,∀w,env[i]?≠some (some w))->MemR Y.K cm m H ->
   (ev call gv inner env m).bind ZcH=.ok out m'->vs.length+out.length<=L->(∀t∈out,Pt t) ->
   wpAny (model Y.prog Y.w) Y.A br (λfin s'=>fin=.again (.compLoop ce d (.ref it) (.ref D) Y.env)/\ZgO Y Acc D (innS inner) pins σ cm m H vs out m' s') Y.xe s){pins:List (Addr×Obj)}{s:Shared}{σ:L2.St}{H:Hp}{cm:List Addr}{m m':Mem}{env:Env}{ts out:List T}{J:It}{fp:List Addr}{tn:Nat->Heap->Prop}{vs:List V}(I:Inv Y pins σ H s)(hD:FpOk Y pins H D)(ha:Acc s.heap vs)(hT:Turn Y.prog Y.w Y.K target J fp it tn)(h0:tn 0 s.heap)(hf:∀b∈fp,FpOk Y pins H b)(hDf:D∉fp)(hE:EnvR Y.K cm m H env σ)(hn:∀i∈tgS tg++innS inner,∀w,env[i]?≠some (some w))(M:MemR Y.K cm m H)(hs:Src Y.K cm m H J ts)(ok:QM (turnF call gv cs inner) tg ts env m=.ok out m')(hl:vs.length+out.length<=L)(hpt:∀t∈out,Pt t):
  codeAny (model Y.prog Y.w) Y.A (.compLoop ce d (.ref it) (.ref D) Y.env) (λr s'=>r=.ok .next/\ZgO Y Acc D (tgS tg++innS inner) pins σ cm m H vs out m' s') s:=by
 have statD:∀{H1:Hp},H1 D=none->FpOk Y pins H1 D:=λh=>⟨h,hD.2⟩
 have stat:∀{H1:Hp},(∀b∈fp,H1 b=none)->∀b∈fp,FpOk Y pins H1 b:=λh b hb=>⟨h b hb,(hf b hb).2⟩
 refine codeAny_loop rfl (λn s1=>∃i σ1 H1 cm1 m1 vs1 done rest,Inv Y pins σ1 H1 s1/\tn i s1.heap/\(∀b∈fp,H1 b=none)/\H1 D=none/\Ext cm m H cm1 m1 H1/\MemR Y.K cm1 m1 H1/\Agree (tgS tg++innS inner) σ σ1 /\
   Acc s1.heap (vs++vs1)/\RTs Y.K cm1 m1 H1 done vs1/\QM (turnF call gv cs inner) tg (ts.drop i) env m1=.ok rest m'/\out=done++rest/\n=ts.length+1-i/\i<=ts.length) ?_ (ts.length+1)
  ⟨0,σ,H,cm,m,[],[],out,I,h0,λb hb=>(hf b hb).1,hD.1,.refl,M,.refl,by rw[List.append_nil];exact ha,.nil,by rw[List.drop_zero];exact ok,rfl,rfl,Nat.zero_le _⟩
 rintro n s1 ⟨i,σ1,H1,cm1,m1,vs1,done,rest,I1,st1,fr1,d1,x1,M1,ag1,a1,r1,ok1,eo,rfl,hi⟩
 rw[hu,hd]
 refine wpAny_noted ?_
 rw[code]
 refine wpAny_bind (wpAny_standAt (wpAny_bind ?_))
 have hE1:EnvR Y.K cm1 m1 H1 env σ1:=(hE.ext x1 M M1).agree ag1 hn
 have s1':=hs.ext x1 M M1
 have I1D:=ZbQ hA I1 (statD d1) a1
 have fpD:∀{H1:Hp},(∀b∈fp,H1 b=none)->∀b∈fp,FpOk Y (pins++Jw [D] s1.heap) H1 b:=λh b hb=>Zgl (stat h b hb) λz=>hDf (by
  have e:b=D:=by simpa using z
  rw[<-e];exact hb)
 have inD:∀o,s1.heap.get? D=some o->(D,o)∈pins++Jw [D] s1.heap:=λo e=>List.mem_append_right _ (ZP (by simp) e)
 cases et:ts[i]? with
 |none =>
  refine Zew hxe (thn (hT.done Y rfl rfl rfl hc i _ s1 σ1 H1 Y.xe I1D (fpD fr1) st1 (Src.stop M1 s1' et)) λr s2 ⟨hr,I2⟩=>?_)
  subst hr
  have hd:ts.drop i=[]:=List.drop_eq_nil_of_le (List.getElem?_eq_none_iff.mp et)
  rw[hd]at ok1
  unfold QM at ok1
  cases ok1
  rw[List.append_nil]at eo
  subst eo
  exact wpAny_pure ⟨rfl,σ1,H1,cm1,vs1,I2.unpinned,x1,M1,r1,(ZaQ hA a1 I2 inD).1,ag1,(ZaQ hA a1 I2 inD).2⟩
 |some t =>
  obtain⟨go,yl⟩:=Src.go M1 s1' et
  have hit:i<ts.length:=(List.getElem?_eq_some_iff.mp et).1
  have hd:ts.drop i=t::ts.drop (i+1):=by
   rw[List.drop_eq_getElem_cons hit]
   congr 1
   exact Option.some.inj ((List.getElem?_eq_getElem hit).symm.trans et)
  rw[hd]at ok1
  unfold QM at ok1
  split at ok1
  ·cases ok1
  ·rename_i env' eb
   obtain⟨xs,m2,ok2,ok3⟩:=Zk ok1
   obtain⟨ys,m3,ok4,ok5⟩:=Zk ok3
   cases ok5
   obtain⟨k,m4,okt,okb⟩:=Zk ok2
   refine Zew hxe (thn (hT.item Y rfl rfl rfl hc i _ s1 σ1 H1 Y.xe I1D (fpD fr1) st1 go) λr s2 ⟨u,hr,h2⟩=>?_)
   subst hr
   refine wpAny_bind (Zew hxe (thn h2 λ_ s3 ⟨x,H3,I3,rx,y3,st3,fr3⟩=>?_))
   obtain⟨xy,My,rt⟩:=yl x H3 y3
   have hE1:=hE1.ext xy M1 My
   have x1:=x1.trans xy
   have r1:=RTs.ext xy M1 My r1
   have M1:=My
   -- pinned: the list that is filled,and the iterator
   have I3':=I3.pinned (fpD fr3) (hT.obj _ _ st3)
   refine wpAny_bind (Zew hxe (thn (hg _ s3 σ1 H3 x u (λσ' H'=>H'=H3/\EnvR Y.K cm1 m1 H3 env' σ'/\Agree (tgS tg) σ1 σ') I3' rx (gT_ok hE1 (λj hj=>by rw[I3.len];exact hlt j (List.mem_append_left _ hj)) rt eb λσ' h1 h2=>⟨rfl,h1,h2⟩)) λ_ s4 ⟨σ4,H4,I4,e4,hE4,ag4⟩=>?_))
   subst e4
   refine wpAny_bind (Zew hxe (thn (ZbX ht I4 hE4 M1 okt) λb s5 ⟨hb,H5,cm5,I5,x5,M5⟩=>?_))
   subst hb
   have a5:=ZaQ hA a1 I5 λo e=>List.mem_append_left _ (inD o e)
   have st5:tn (i+1) s5.heap:=hT.keep _ _ _ st3 λb hb o e=>(I5.pin (b,o) (List.mem_append_right _ (List.mem_append_right _ (ZP hb e)))).1
   have f5:∀b∈fp,H5 b=none:=λb hb=>by
    obtain⟨o,e,dd⟩:=hT.obj _ _ st3 b hb
    exact(I5.pin (b,o) (List.mem_append_right _ (List.mem_append_right _ (ZP hb e)))).2.1
   have ag45:Agree (tgS tg++innS inner) σ σ4:=ag1.trans (ag4.mono λi hi=>List.mem_append_left _ hi)
   cases b with
   |false =>
    rw[if_neg Bool.false_ne_true]at okb ⊢
    cases okb
    rw[List.nil_append]at eo
    exact wpAny_pure ⟨rfl,_,by omega,i+1,σ4,H5,cm5,m2,vs1,done,ys,I5.unpinned.unpinned,st5,f5,a5.2,x1.trans x5,M5,ag45,a5.1,RTs.ext x5 M1 M5 r1,ok4,eo,rfl,hit⟩
   |true =>
    rw[if_pos rfl]at okb ⊢
    have I6:Inv Y (pins++Jw fp s5.heap) σ4 H5 s5:=I5.unpinned.unpinned.pinned (stat f5) (hT.obj _ _ st5)
    have hv:=r1.length
    have hz:(vs++vs1).length+xs.length<=L:=by
     rw[List.length_append,<-hv]
     rw[eo,List.length_append,List.length_append]at hl
     omega
    have hn6:∀j∈innS inner,∀w,env'[j]?≠some (some w):=λj hj w=>by
     rw[Zds eb λz=>hdis j z hj]
     exact hn j (List.mem_append_right _ hj) w
    refine Zew hxe (thn (hbr I6 (Zgl (statD a5.2) hDf) a5.1 (hE4.ext x5 M1 M5) hn6 M5 okb hz λt ht'=>hpt t (by rw[eo];exact List.mem_append_right _ (List.mem_append_left _ ht'))) λfin s7 ⟨hfin,σ7,H7,cm7,vs7,I7,x7,M7,r7,a7,ag7,d7⟩=>?_)
    subst hfin
    have keep7:∀b∈fp,∀o,s5.heap.get? b=some o->s7.heap.get? b=some o:=λb hb o e=>(I7.pin (b,o) (List.mem_append_right _ (List.mem_append_right _ (ZP hb e)))).1
    refine⟨rfl,_,by omega,i+1,σ7,H7,cm7,m2,vs1++vs7,done++xs,ys,I7.unpinned,hT.keep _ _ _ st5 keep7,λb hb=>?_,?_,(x1.trans x5).trans x7,M7,ag45.trans (ag7.mono λi hi=>List.mem_append_right _ hi),by rw[<-List.append_assoc];exact a7,
     ZG (RTs.ext x7 M5 M7 (RTs.ext x5 M1 M5 r1)) r7,ok4,by rw[eo,List.append_assoc],rfl,hit⟩
    ·obtain⟨o,e,dd⟩:=hT.obj _ _ st5 b hb
     exact(I7.pin (b,o) (List.mem_append_right _ (List.mem_append_right _ (ZP hb e)))).2.1
    ·exact d7
theorem J4{prog:Program}{w:World}{A:Around}{R:Result->Shared->Prop}{s:Shared}{elt:Expr}{gens:List Comprehension}{scope:Scope}{pos:Pos}{d:Nat}{target iter:Expr}{ifs:List Expr}{it acc:Value}{env:PySem.Env}(hg:gens[d]?=some ⟨target,iter,ifs,0⟩)(h0:codeAny (model prog w) A (.compLoop (.ListComp elt gens scope pos) d it acc env) R s)(h:wpAny (model prog w) A (pyIter it) (λit' s'=>codeAny (model prog w) A (.compLoop (.ListComp elt gens scope pos) d it' acc env) R s') (notedBy (model prog w) A env λx s'=>R (.error x) s') s):
  codeAny (model prog w) A (.compStart (.ListComp elt gens scope pos) d it acc env) R s:=by
 refine codeAny_of_tree ?_
 show wpAny _ _ ((compStart (.ListComp elt gens scope pos) d it acc env).onRaise (λx=>do noteFrame x env;standAt theWindowsPlace)) _ _ s
 refine wpAny_notedAt ?_
 unfold compStart
 have e:(clausesOf (.ListComp elt gens scope pos))[d]?=some ⟨target,iter,ifs,0⟩:=hg
 rw[e]
 show wpAny _ _ (ask >>= _) _ _ s
 refine wpAny_bind (wpAny_askSetting (wpAny_ite ?_))
 split
 ·first
   |exact wpAny_bind (wpAny_pure (wpAny_pure (And.intro rfl h0)))
   |exact wpAny_pure (And.intro rfl h0)
 ·first
   |exact wpAny_bind (wpAny_rule (wpAny_bind (wpAny_standAt (wpAny_bind (wpAny_mono h (λit' s' h'=>wpAny_pure (And.intro rfl h')) λ_ _ x=>x)))))
   |(refine wpAny_bind (wpAny_rule ?_);show wpAny _ _ (standAt iter.pos >>= _) _ _ s;exact wpAny_bind (wpAny_standAt (wpAny_bind (wpAny_mono h (λit' s' h'=>wpAny_pure (And.intro rfl h')) λ_ _ x=>x))))
theorem ZeT{pins:List (Addr×Obj)}{s:Shared}{σ:L2.St}{H:Hp}{D:Addr}{vs:List V}{v:V}{u:Value}{E:Value->Shared->Prop}{Q:Value->Shared->Prop}(I:Inv Y pins σ H s)(f:FpOk Y pins H D)(a:AccAt s.heap D vs)(r:RelV v u)(hz:vs.length<sizeLine)(q:∀s',Inv Y pins σ H s'->AccAt s'.heap D (vs++[v])->Q .none s'):wpAny (model Y.prog Y.w) Y.A (PySem.call (.builtin "list.append") [.ref D,u]) Q E s:=by
 obtain⟨z,its,n,rv,e⟩:=a
 have hl:=rv.length
 refine call_meets F.slot_list_append ⟨_,e,rfl⟩ F.entry_list_append (F.args_list_append_2 _ _) (PySem.list_append D its.toArray n u (by rw[List.size_toArray];omega)) ⟨e,?_⟩
 have e2:=PySem.IsL.update e (·.push u)
 have hf:its.toArray.push u=(its++[u]).toArray:=by simp
 rw[hf]at e2
 obtain⟨f0,f1,f2,f3,f4,f5⟩:=f
 refine q _ (I.turned (t':=s.toks) (it:=D) (λb o hb eb=>(Heap.get?_update_other s.heap (Obj.mapSeq (·.push u)) (Ne.symm hb)).trans eb) f0 f1 f3 f4 f5) ⟨?_,its++[u],_,rv.append (.cons r .nil),e2⟩
 rw[List.length_append,List.length_singleton]
 omega
theorem J9{K:Frag}{cm:List Addr}{m m1:Mem}{H:Hp}{w:W}{ts:List T}(M:MemR K cm m H)(e:ZQ w m=.ok ts m1):Ext cm m H cm m1 H/\MemR K cm m1 H:=by
 cases w with
 |t t =>
  unfold ZQ at e
  dsimp only at e
  split at e<;>cases e
  exact⟨.refl,M⟩
 |f a=>cases e
 |x _ _ _=>cases e
 |c i =>
  unfold ZQ at e
  dsimp only at e
  split at e
  ·cases e
   exact ZgA M (by assumption)
  ·cases e
theorem Zf2(hc:Y.calm=true)(hxe:∀e s,¬Y.xe e s){elt:Expr}{gens:List Comprehension}{scope:Scope}{pos:Pos}{D:Addr}:∀(inner:E) (d:Nat) (target iter:Expr) (ifs:List Expr) (tg:Tg) (cs:Es),gens[d]?=some ⟨target,iter,ifs,0⟩ ->
  PG Y target (gT Y.K tg)->PTs Y call gv xr cs ifs->Ins xr Y call gv elt gens d inner->(∀i∈tgS tg,i∉innS inner)->(∀i∈tgS tg++innS inner,i<Y.N.length) ->
  ∀{pins:List (Addr×Obj)}{s:Shared}{σ:L2.St}{H:Hp}{cm:List Addr}{m m':Mem}{env:Env}{ts out:List T}{J:It}{it:Addr}{fp:List Addr}{tn:Nat->Heap->Prop}{vs:List V},Inv Y pins σ H s->FpOk Y pins H D->AccAt s.heap D vs ->
   Turn Y.prog Y.w Y.K target J fp it tn->tn 0 s.heap->(∀b∈fp,FpOk Y pins H b)->D∉fp->EnvR Y.K cm m H env σ->(∀i∈tgS tg++innS inner,∀w,env[i]?≠some (some w))->MemR Y.K cm m H->Src Y.K cm m H J ts ->
   QM (turnF call gv cs inner) tg ts env m=.ok out m'->vs.length+out.length<=lim ->
   codeAny (model Y.prog Y.w) Y.A (.compLoop (.ListComp elt gens scope pos) d (.ref it) (.ref D) Y.env) (λr s'=>r=.ok .next/\CEnd Y D (tgS tg++innS inner) pins σ cm m H vs out m' s') s
 |.emit a=>@λd target iter ifs tg cs hg pg pt hin hdis hlt pins s σ H cm m m' env ts out J it fp tn vs I hD ha hT h0 hf hDf hE hn M hs ok hl=>by
  obtain⟨hnx,pe⟩:=hin
  refine ZbG hc hxe (Zaf D) (br:=do(do let _ <-PySem.call (.builtin "list.append") [.ref D,<-eval elt Y.env]);again (.compLoop (.ListComp elt gens scope pos) d (.ref it) (.ref D) Y.env)) rfl rfl (ZbO hg hnx) pg pt hdis hlt ?_ I hD ha hT h0 hf hDf hE hn M hs ok hl (Pt:=λ_=>True) (λ_ _=>trivial)
  intro pins s σ H cm m m' env out vs I hD ha hE hn M ok hl _
  obtain⟨w,m1,ok1,ok2⟩:=Zk ok
  obtain⟨rfl,rfl⟩:=ZaO ok2
  unfold ev at ok1
  obtain⟨w1,m2,ok3,ok4⟩:=Zk ok1
  obtain⟨t,m3,ok5,ok6⟩:=Zk ok4
  cases ok6
  have hz:=Zz
  refine wpAny_bind (wpAny_bind (thn (Zij pe (ZgK I hD ha) hE M ok3) λu s1 ⟨v,H1,I1,rv,cm1,x1,M1,r1⟩=>?_))
  obtain⟨a1,d1⟩:=ZiE ha I1 λo e=>List.mem_append_right _ (ZP (by simp) e)
  obtain⟨x2,M2,r2⟩:=ZdT M1 r1 ok5
  have I1':Inv Y pins σ H1 s1:=I1.unpinned
  refine wpAny_bind (ZeT I1' ⟨d1,hD.2⟩ a1 rv (by simp at hl;omega) λs2 I2 a2=>wpAny_pure (wpAny_pure ⟨rfl,σ,H1,cm1,[v],I2,x1.trans x2,M2,.cons r2 .nil,a2,.refl,d1⟩))
 |.more it' tg' cs' inner'=>@λd target iter ifs tg cs hg pg pt hin hdis hlt pins s σ H cm m m' env ts out J it fp tn vs I hD ha hT h0 hf hDf hE hn M hs ok hl=>by
  obtain⟨⟨target',iter',ifs',hnx,pi,hfs,pg',pt'⟩,hdis',hlt',hin'⟩:=hin
  have rec_:=@Zf2 hc hxe elt gens scope pos D inner' (d+1) target' iter' ifs' tg' cs' hnx pg' pt' hin' hdis' hlt'
  refine ZbG hc hxe (Zaf D) rfl rfl (ZbN hg hnx) pg pt hdis hlt ?_ I hD ha hT h0 hf hDf hE hn M hs ok hl (Pt:=λ_=>True) (λ_ _=>trivial)
  intro pins s σ H cm m m' env out vs I hD ha hE hn M ok hl _
  obtain⟨w,m1,ok1,ok2⟩:=Zk ok
  obtain⟨rfl,rfl⟩:=ZaO ok2
  unfold ev at ok1
  obtain⟨w1,m2,ok3,ok4⟩:=Zk ok1
  obtain⟨ts',m3,ok5,ok6⟩:=Zk ok4
  obtain⟨out',m4,ok7,ok8⟩:=Zk ok6
  cases ok8
  have hz:=Zz
  refine wpAny_bind (thn (pi _ s σ H (λJ H1=>∃cm1,Ext cm m H cm1 m2 H1/\MemR Y.K cm1 m2 H1/\Src Y.K cm1 m3 H1 J ts') (ZgK I hD ha) ⟨env,cm,m,hE,M,by
   rw[ok3]
   exact λcm1 H1 x M1=>⟨ts',m3,ok5,λJ hs=>⟨cm1,x,M1,hs⟩⟩⟩) λxv s1 h1=>?_)
  refine wpAny_bind (wpAny_standAt (wpAny_bind (wpAny_of_eq (hfs xv) (wpAny_bind (wpAny_holding (thn h1 λitv s2 h2=>?_))))))
  obtain⟨it2,fp2,tn2,J2,H2,rfl,I2,T2,st2,f2,cm2,x2,M2,hs2⟩:=h2
  obtain⟨a2,d2⟩:=ZiE ha I2 λo e=>List.mem_append_right _ (ZP (by simp) e)
  have hDf2:D∉fp2:=λz=>by
   obtain⟨_,its,n,_,e⟩:=id ha
   exact(f2 D z).2.2.2.2.2 (D,_) (List.mem_append_right _ (List.mem_append_right _ (ZP (by simp) e))) rfl
  have f2':∀b∈fp2,FpOk Y pins H2 b:=λb hb=>⟨(f2 b hb).1,(f2 b hb).2.1,(f2 b hb).2.2.1,(f2 b hb).2.2.2.1,(f2 b hb).2.2.2.2.1,λp hp=>(f2 b hb).2.2.2.2.2 p (by rw[<-List.append_assoc];exact List.mem_append_left _ hp)⟩
  have hb3:Ext cm2 m2 H2 cm2 m3 H2/\MemR Y.K cm2 m3 H2:=J9 M2 ok5
  have E2:EnvR Y.K cm2 m3 H2 env σ:=(hE.ext x2 M M2).ext hb3.1 M2 hb3.2
  have go:=rec_ I2.unpinned ⟨d2,hD.2⟩ a2 T2 st2 f2' hDf2 E2 hn hb3.2 hs2 ok7 hl
  have self:codeAny (model Y.prog Y.w) Y.A (.compStart (.ListComp elt gens scope pos) (d+1) (.ref it2) (.ref D) Y.env) _ s2:=J4 hnx go (T2.self Y.A 0 s2 _ _ st2 go)
  refine wpAny_bind (wpAny_runOwn (codeAny_mono self λr s3 ⟨hr,σ3,H3,cm3,vs3,I3,x3,M3,r3,a3,ag3,d3⟩=>?_))
  subst hr
  obtain⟨x4,M4,sm⟩:=Je M2 ok5 x3 M3
  exact wpAny_pure ⟨rfl,σ3,H3,cm3,vs3,I3,x2.trans x4,M4,Zg (λ_ _ z=>sm _ _ z) r3,a3,ag3,d3⟩
 |.var _=>@λd target iter ifs tg cs hg pg pt hin=>hin.elim
 |.gl _=>@λd target iter ifs tg cs hg pg pt hin=>hin.elim
 |.con _=>@λd target iter ifs tg cs hg pg pt hin=>hin.elim
 |.bin _ _ _=>@λd target iter ifs tg cs hg pg pt hin=>hin.elim
 |.neg _=>@λd target iter ifs tg cs hg pg pt hin=>hin.elim
 |.not _=>@λd target iter ifs tg cs hg pg pt hin=>hin.elim
 |.and _ _=>@λd target iter ifs tg cs hg pg pt hin=>hin.elim
 |.or _ _=>@λd target iter ifs tg cs hg pg pt hin=>hin.elim
 |.one _=>@λd target iter ifs tg cs hg pg pt hin=>hin.elim
 |.cmp _ _ _=>@λd target iter ifs tg cs hg pg pt hin=>hin.elim
 |.chn _ _ _ _ _=>@λd target iter ifs tg cs hg pg pt hin=>hin.elim
 |.ite _ _ _=>@λd target iter ifs tg cs hg pg pt hin=>hin.elim
 |.tup _=>@λd target iter ifs tg cs hg pg pt hin=>hin.elim
 |.lst _=>@λd target iter ifs tg cs hg pg pt hin=>hin.elim
 |.cel _=>@λd target iter ifs tg cs hg pg pt hin=>hin.elim
 |.celL _=>@λd target iter ifs tg cs hg pg pt hin=>hin.elim
 |.celb _ _=>@λd target iter ifs tg cs hg pg pt hin=>hin.elim
 |.celA _ _=>@λd target iter ifs tg cs hg pg pt hin=>hin.elim
 |.dsp _ _=>@λd target iter ifs tg cs hg pg pt hin=>hin.elim
 |.ix _ _=>@λd target iter ifs tg cs hg pg pt hin=>hin.elim
 |.slc _ _ _=>@λd target iter ifs tg cs hg pg pt hin=>hin.elim
 |.rev _=>@λd target iter ifs tg cs hg pg pt hin=>hin.elim
 |.hole=>@λd target iter ifs tg cs hg pg pt hin=>hin.elim
 |.call _ _=>@λd target iter ifs tg cs hg pg pt hin=>hin.elim
 |.blt _ _=>@λd target iter ifs tg cs hg pg pt hin=>hin.elim
 |.mth _ _ _=>@λd target iter ifs tg cs hg pg pt hin=>hin.elim
 |.isi _ _=>@λd target iter ifs tg cs hg pg pt hin=>hin.elim
 |.comp _ _ _ _ _ _=>@λd target iter ifs tg cs hg pg pt hin=>hin.elim
 |.tr _=>@λd target iter ifs tg cs hg pg pt hin=>hin.elim
 |.fnv _=>@λd target iter ifs tg cs hg pg pt hin=>hin.elim
 |.callV _ _ _=>@λd target iter ifs tg cs hg pg pt hin=>hin.elim
 |.fst _=>@λd target iter ifs tg cs hg pg pt hin=>hin.elim
 |.xat _ _ _=>@λd target iter ifs tg cs hg pg pt hin=>hin.elim
 |.xis _ _ _=>@λd target iter ifs tg cs hg pg pt hin=>hin.elim
 |.gdg _ _=>@λd target iter ifs tg cs hg pg pt hin=>hin.elim
 |.ptd _ _=>@λd target iter ifs tg cs hg pg pt hin=>hin.elim
 |.gdn _ _ _=>@λd target iter ifs tg cs hg pg pt hin=>hin.elim
 |.dsn _ _=>@λd target iter ifs tg cs hg pg pt hin=>hin.elim
end
theorem Zbh{scope:Scope}{env:PySem.Env}(h:∀x,(x,NameKind.free)∈scope.names->∃c,env.cells.lookup x=some c):
  ∃cl,closureFor scope env=pure cl/\(∀x c,cl.lookup x=some c->env.cells.lookup x=some c)/\∀x,(x,NameKind.free)∈scope.names->∃c,cl.lookup x=some c:=by
 have go:∀(ns:List (Str×NameKind)) (acc:List (Str×Addr)),(∀x,(x,NameKind.free)∈ns->∃c,env.cells.lookup x=some c)->(∀x c,acc.lookup x=some c->env.cells.lookup x=some c) ->
   ∃cl,(forIn ns acc λ(x:Str×NameKind) cs=>(match x with|(name,kind)=>if(kind==NameKind.free)=true then do let a <-cellOf env name;pure (ForInStep.yield ((name,a)::cs))else pure (ForInStep.yield cs):Sem (ForInStep (List (Str×Addr)))))=pure cl /\
    (∀x c,cl.lookup x=some c->env.cells.lookup x=some c)/\(∀x,(x,NameKind.free)∈ns->∃c,cl.lookup x=some c)/\∀x c,acc.lookup x=some c->∃c,cl.lookup x=some c:=by
  intro ns
  induction ns with
  |nil=>intro acc _ h2;exact⟨acc,rfl,h2,λx hx=>absurd hx (by simp),λx c e=>⟨c,e⟩⟩
  |cons p ns ih =>
   intro acc h1 h2
   obtain⟨n,k⟩:=p
   have h1':∀x,(x,NameKind.free)∈ns->∃c,env.cells.lookup x=some c:=λx hx=>h1 x (List.mem_cons_of_mem _ hx)
   by_cases hk:k=.free
   ·subst hk
    obtain⟨c,hc⟩:=h1 n List.mem_cons_self
    have h2':∀x d,((n,c)::acc).lookup x=some d->env.cells.lookup x=some d:=λx d e=>by
     rw[List.lookup_cons]at e
     cases hx:x==n with
     |true=>rw[hx]at e;cases e;rw[eq_of_beq hx];exact hc
     |false=>rw[hx]at e;exact h2 x d e
    obtain⟨cl,e1,e2,e3,e4⟩:=ih ((n,c)::acc) h1' h2'
    refine⟨cl,?_,e2,λx hx=>?_,λx d e=>?_⟩
    ·rw[List.forIn_cons]
     simp only[beq_self_eq_true,if_true,cellOf,hc,pure_bind]
     exact e1
    ·rcases List.mem_cons.mp hx with z|z
     ·cases z
      exact e4 n c (by rw[List.lookup_cons,beq_self_eq_true])
     ·exact e3 x z
    ·by_cases hx:x=n
     ·subst hx;exact e4 x c (by rw[List.lookup_cons,beq_self_eq_true])
     ·exact e4 x d (by rw[List.lookup_cons,beq_eq_false_iff_ne.mpr hx];exact e)
   ·obtain⟨cl,e1,e2,e3,e4⟩:=ih acc h1' h2
    have hb:(k==NameKind.free)=false:=beq_eq_false_iff_ne.mpr hk
    refine⟨cl,?_,e2,λx hx=>?_,e4⟩
    ·rw[List.forIn_cons]
     simp only[hb,Bool.false_eq_true,if_false,pure_bind]
     exact e1
    ·rcases List.mem_cons.mp hx with z|z
     ·cases z;exact absurd rfl hk
     ·exact e3 x z
 obtain⟨cl,e1,e2,e3,_⟩:=go scope.names [] h (λx c e=>by simp at e)
 refine⟨cl,?_,e2,e3⟩
 unfold closureFor
 have:(forIn scope.names ([]:List (Str×Addr)) λ(x:Str×NameKind) cs=>(match x with|(name,kind)=>if(kind==NameKind.free)=true then do let a <-cellOf env name;pure (ForInStep.yield ((name,a)::cs))else pure (ForInStep.yield cs):Sem (ForInStep (List (Str×Addr))))) >>= (λcs=>pure cs)=(pure cl:Sem (List (Str×Addr))):=by rw[e1];rfl
 exact this
section
variable{xr:XR}{X:Cx}{call:Nat->List W->Mem->Res W}{gv:List T}
noncomputable abbrev Qw(X:Cx)(N':List Str)(scope:Scope)(cl:List (Str×Addr))(C:Addr)(s2:Shared)(H2:Hp)(fp:List Addr):Cx:=
 { X with N:=N',s₀:=s2,H₀:=H2,env:=compEnvC scope cl C X.env,outer:=X.stack,stack:=X.stack,ex:=fp,fn:=λx=>scope.names.lookup x==some .cell,pn:=[],xe:=λ_ _=>False }
structure CompSc (X:Cx) (N':List Str) (scope:Scope):Prop where
 kind:scope.kind=.function
 look:∀p∈scope.names,scope.names.lookup p.1=some p.2
 free:∀x,(x,NameKind.free)∈scope.names->X.env.kindOf x=some .cell∨X.env.kindOf x=some .free
theorem Xr{scope:Scope}{env:PySem.Env}(look:∀p∈scope.names,scope.names.lookup p.1=some p.2){x:Str}{k:NameKind}(h:(relabel scope env).names.lookup x=some k):
  ∃k',scope.names.lookup x=some k'/\(k=k'∨(k'=.free/\k=.cell)):=by
 have go:∀(ns:List (Str×NameKind)),(ns.map λ(n,k)=>if(k==NameKind.free&&env.scope.kind==.function&&env.kindOf n==some .cell)then(n,NameKind.cell)else(n,k)).lookup x=some k->∃k',ns.lookup x=some k'/\(k=k'∨(k'=.free/\k=.cell)):=by
  intro ns
  induction ns with
  |nil=>intro h;simp at h
  |cons p r ih =>
   obtain⟨n,q⟩:=p
   intro h
   rw[List.map_cons]at h
   by_cases hc:(q==NameKind.free&&env.scope.kind==.function&&env.kindOf n==some .cell)=true
   ·simp only[hc,if_true]at h
    rw[List.lookup_cons]at h ⊢
    cases hx:x==n with
    |true =>
     rw[hx]at h;cases h
     rw[Bool.and_eq_true,Bool.and_eq_true]at hc
     exact⟨q,rfl,.inr ⟨eq_of_beq hc.1.1,rfl⟩⟩
    |false=>rw[hx]at h;exact ih h
   ·simp only[hc,Bool.false_eq_true,if_false]at h
    rw[List.lookup_cons]at h ⊢
    cases hx:x==n with
    |true=>rw[hx]at h;cases h;exact⟨_,rfl,.inl rfl⟩
    |false=>rw[hx]at h;exact ih h
 exact go scope.names h
theorem Zar{ns:List (Str×NameKind)}{x:Str}{k:NameKind}(h:ns.lookup x=some k):(x,k)∈ns:=PySem.mem_of_lookup h
structure CA (h:Heap) (lo:Nat) (cs:List (Str×Addr)):Prop where
 lt:∀x c,cs.lookup x=some c->c<h.objs.size
 inj:∀x y c,cs.lookup x=some c->cs.lookup y=some c->x=y
 new:∀x c,cs.lookup x=some c->lo<=c->h.IsCell c none
theorem Jb{α:Type}{x y:Str}{a c:α}{l:List (Str×α)}(h:List.lookup x ((y,a)::l)=some c):(x=y/\c=a)∨l.lookup x=some c:=by
 rw[List.lookup_cons]at h
 cases e:x==y with
 |true=>rw[e]at h;cases h;exact .inl ⟨eq_of_beq e,rfl⟩
 |false=>rw[e]at h;exact .inr h
theorem Zdr:∀(names:List (Str×NameKind)) (h:Heap) (lo:Nat) (acc:List (Str×Addr)),CA h lo acc->lo<=h.objs.size->CA (pushCells h names) lo (cellsFrom h.objs.size names acc)
 |[],_,_,_,x,_=>x
 |(name,kind)::r,h,lo,acc,x,hlo=>by
  unfold pushCells cellsFrom
  split
  ·have:=Zdr r (h.push { cls:=.type "cell",data:=.cell none }) lo ((name,h.objs.size)::acc)
    ⟨λn c hm=>by
      rw[Heap.size_push]
      rcases Jb hm with⟨_,rfl⟩|hm
      ·exact Nat.lt_succ_self _
      ·exact Nat.lt_succ_of_lt (x.lt n c hm),
     λn n' c h1 h2=>by
      rcases Jb h1 with⟨e1,z1⟩|h1<;>rcases Jb h2 with⟨e2,z2⟩|h2
      ·rw[e1,e2]
      ·exact absurd (x.lt _ _ h2) (by rw[z1];exact Nat.lt_irrefl _)
      ·exact absurd (x.lt _ _ h1) (by rw[z2];exact Nat.lt_irrefl _)
      ·exact x.inj n n' c h1 h2,
     λn c hm hc=>by
      rcases Jb hm with⟨_,rfl⟩|hm
      ·exact⟨_,Heap.get?_push_size _ rfl,rfl⟩
      ·exact(x.new n c hm hc).keeps λb o e=>Heap.get?_push_of_some _ e⟩ (by rw[Heap.size_push];omega)
   rwa [Heap.size_push]at this
  ·exact Zdr r h lo acc x hlo
theorem Zac{x:Str}{c:Addr}:∀(names:List (Str×NameKind)) (n:Nat) (acc:List (Str×Addr)),(cellsFrom n names acc).lookup x=some c->(n<=c/\(x,NameKind.cell)∈names)∨acc.lookup x=some c
 |[],_,_,h=>.inr h
 |(y,k)::r,n,acc,h=>by
  unfold cellsFrom at h
  split at h
  ·rename_i hk
   have hk:k=.cell:=eq_of_beq hk
   rcases Zac r (n+1) _ h with⟨h1,h2⟩|h1
   ·exact .inl ⟨by omega,List.mem_cons_of_mem _ h2⟩
   ·rcases Jb h1 with⟨rfl,rfl⟩|h1
    ·exact .inl ⟨Nat.le_refl _,by rw[hk];exact List.mem_cons_self⟩
    ·exact .inr h1
  ·rcases Zac r n _ h with⟨h1,h2⟩|h1
   ·exact .inl ⟨h1,List.mem_cons_of_mem _ h2⟩
   ·exact .inr h1
theorem ZaB{x:Str}{c:Addr}:∀(names:List (Str×NameKind)) (n:Nat) (acc:List (Str×Addr)),names.lookup x=some .cell->(cellsFrom n names acc).lookup x=some c->n<=c
 |[],_,_,h,_=>by cases h
 |(y,k)::r,n,acc,h,e=>by
  unfold cellsFrom at e
  rw[List.lookup_cons]at h
  cases q:x==y with
  |true =>
   rw[q]at h
   cases h
   have e:(cellsFrom (n+1) r ((y,n)::acc)).lookup x=some c:=e
   rcases Zac r (n+1) _ e with⟨h1,_⟩|h1
   ·omega
   ·rw[List.lookup_cons,q]at h1
    cases h1
    exact Nat.le_refl _
  |false =>
   rw[q]at h
   split at e
   ·have:=ZaB r (n+1) _ h e
    omega
   ·exact ZaB r n _ h e
structure Clo (X:Cx) (scope:Scope) (cl:List (Str×Addr)) (C:Addr) (h:Heap):Prop where
 one:∀x c,cl.lookup x=some c->(C<c/\(x,NameKind.cell)∈scope.names/\h.IsCell c none)∨X.env.cells.lookup x=some c
 own:∀x c,scope.names.lookup x=some .cell->cl.lookup x=some c->C<c
 inj:∀x y c,cl.lookup x=some c->cl.lookup y=some c->x=y
 has:∀x,(x,NameKind.free)∈scope.names∨scope.names.lookup x=some .cell->∃c,cl.lookup x=some c
theorem Clo.ne{scope:Scope}{cl:List (Str×Addr)}{C:Addr}{h:Heap}(k:Clo X scope cl C h){b:Addr}(hb:b<C)(hx:∀x c,X.env.cells.lookup x=some c->c≠b):∀x c,cl.lookup x=some c->c≠b:=λx c e=>by
 rcases k.one x c e with⟨h1,_⟩|h1
 ·exact Nat.ne_of_gt (Nat.lt_trans hb h1)
 ·exact hx x c h1
theorem ZaX{M:Model}{A:Around}{E:Value->Shared->Prop}{s:Shared}{scope:Scope}{cl0:List (Str×Addr)}{Q:PySem.Env->Shared->Prop}(hcl1:∀x c,cl0.lookup x=some c->X.env.cells.lookup x=some c)(hcl2:∀x,(x,NameKind.free)∈scope.names->∃c,cl0.lookup x=some c)(hlt:∀x c,X.env.cells.lookup x=some c->c<s.heap.objs.size)(hinj:∀x y c,X.env.cells.lookup x=some c->X.env.cells.lookup y=some c->x=y)(h:∀h1 cl,(∃m,h1.Ns s.heap.objs.size m)->(∀b o,s.heap.get? b=some o->h1.get? b=some o)->Clo X scope cl s.heap.objs.size h1->Q (newEnv scope s.heap.objs.size X.env.globals cl X.env.qual none .none (some X.env) builtinsNs) { s with heap:=h1 }):
  wpAny M A (newFunctionEnv scope X.env.globals cl0 [] X.env.qual none .none (some X.env)) Q E s:=by
 simp only[newFunctionEnv,Option.isSome_some,if_true]
 refine wpAny_bind (wpAny_alloc ?_)
 refine wpAny_bind (wpAny_layCells _ (λname kind cells=>by cases hkc:kind==NameKind.cell<;>simp[hkc]) _ _ _ _ ?_)
 have hz:(s.heap.push { cls:=.type "dict",data:=.dict #[] }).objs.size=s.heap.objs.size+1:=Heap.size_push ..
 have ok:=Zdr scope.names (s.heap.push { cls:=.type "dict",data:=.dict #[] }) (s.heap.objs.size+1) cl0
  ⟨λx c e=>by rw[hz];exact Nat.lt_succ_of_lt (hlt x c (hcl1 x c e)),λx y c e1 e2=>hinj x y c (hcl1 x c e1) (hcl1 y c e2),λx c e z=>absurd (hlt x c (hcl1 x c e)) (Nat.not_lt.mpr (Nat.le_of_succ_le z))⟩ (by rw[hz];exact Nat.le_refl _)
 rw[List.forIn_nil]
 refine wpAny_bind (wpAny_pure (wpAny_pure ?_))
 refine h _ _ ⟨_,(Heap.Ns.new s.heap (.type "dict")).keeps (pushCells_keeps _ _)⟩ (λb o e=>pushCells_keeps _ _ b o (Heap.get?_push_of_some _ e)) ⟨λx c e=>?_,λx c hx e=>?_,ok.inj,λx hx=>?_⟩
 ·rcases Zac _ _ _ e with⟨h1,h2⟩|h1
  ·rw[show({ s with heap:=s.heap.push { cls:=.type "dict",data:=.dict #[] } }:Shared).heap.objs.size=s.heap.objs.size+1 from hz]at h1
   exact .inl ⟨h1,h2,ok.new x c e h1⟩
  ·exact .inr (hcl1 x c h1)
 ·have:=ZaB _ _ _ hx e
  rw[show({ s with heap:=s.heap.push { cls:=.type "dict",data:=.dict #[] } }:Shared).heap.objs.size=s.heap.objs.size+1 from hz]at this
  exact this
 ·refine Option.isSome_iff_exists.mp (cellsFrom_some _ _ _ ?_)
  rcases hx with hx|hx
  ·obtain⟨c,e⟩:=hcl2 x hx
   exact .inr (by rw[e];rfl)
  ·exact .inl hx
theorem Zbg{pins:List (Addr×Obj)}{s:Shared}{σ σ':L2.St}{H:Hp}{fp:List Addr}{N':List Str}{scope:Scope}{cl:List (Str×Addr)}{C:Addr}{h1:Heap}{t:Nat}(I:Inv X pins σ H s)(S:CompSc X N' scope)(hf:∀b∈fp,FpOk X pins H b)(hlt:∀b∈fp,b<s.heap.objs.size)(hC:s.heap.objs.size<=C)(hns:∃m,h1.Ns C m)(hk:∀b o,s.heap.get? b=some o->h1.get? b=some o)(kc:Clo X scope cl C h1)(hl:σ'.length=N'.length)(hσ:∀(i:Nat) (x:Str) (v:V),N'[i]?=some x->σ'[i]?=some (some v)->∃j:Nat,X.N[j]?=some x/\σ[j]?=some (some v)/\(x,NameKind.free)∈scope.names):
  Inv (Qw X N' scope cl C s H fp) [] σ' H { s with heap:=h1,toks:=t }:=by
 have hfree:∀x k,(relabel scope X.env).names.lookup x=some k->(k=.cell∨k=.free)->(x,NameKind.free)∈scope.names∨scope.names.lookup x=some .cell:=λx k h hk'=>by
  obtain⟨k',h1,h2⟩:=Xr S.look h
  rcases h2 with rfl|⟨rfl,_⟩
  ·rcases hk' with rfl|rfl
   ·exact .inr h1
   ·exact .inl (Zar h1)
  ·exact .inl (Zar h1)
 obtain⟨mm,hns⟩:=hns
 refine⟨⟨I.ok.mod,S.kind,I.ok.glob,I.ok.blt,hC,kc.inj,λx hx=>?_,λx c h e=>?_,I.ok.hd,I.ok.frames,.inl rfl,λb hb=>⟨Nat.ne_of_lt (Nat.lt_of_lt_of_le (hlt b hb) hC),kc.ne (Nat.lt_of_lt_of_le (hlt b hb) hC) (hf b hb).2.2.2.2.1⟩,I.bs,Nat.le_trans I.ok.bsz I.sz,λb o e hb=>?_,λb hb z=>?_,I.stack,I.stkFree⟩,
  rfl,I.bare,Un.kept hk,⟨mm,hns,λi x v e1 e2 e3=>?_⟩,λx c e=>?_,I.hok.fresh hC,λx c e=>?_,λp hp=>absurd (show p∈([]:List (Addr×Obj))from hp) (by simp),I.hok.kept hk,hl⟩
 ·rcases hx with hx|hx
  ·exact kc.has x (hfree x _ hx (.inl rfl))
  ·exact kc.has x (hfree x _ hx (.inr rfl))
 ·have h:(scope.names.lookup x==some .cell)=true:=h
  exact Nat.le_trans hC (Nat.le_of_lt (kc.own x c (eq_of_beq h) e))
 ·rcases(hf b hb).2.2.2.1 with z|z
  ·exact I.ok.noex b o e z
  ·exact absurd (Nat.lt_of_lt_of_le (Heap.lt_size e) (Nat.le_trans I.ok.bsz z)) (Nat.lt_irrefl _)
 ·rcases List.mem_cons.mp (I.stkSub b z)with q|q
  ·exact(hf b hb).2.1 q
  ·exact(hf b hb).2.2.1 q
 ·obtain⟨j,h1',h2',h3'⟩:=hσ i x v e1 e2
  obtain⟨m0,hn0,hl0⟩:=I.loc
  have kx:=S.free x h3'
  obtain⟨u,ru,lu⟩:=hl0 j x v h1' h2' (kx.elim (λz=>.inr (.inl z)) λz=>.inr (.inr z))
  refine⟨u,ru,.inr ?_⟩
  obtain⟨c,ec,ic⟩:∃c,X.env.cells.lookup x=some c/\s.heap.IsCell c (some u):=by
   rcases lu with⟨q,_⟩|⟨_,c,q1,q2⟩
   ·rcases kx with z|z
    ·rw[z]at q;cases q
    ·rw[z]at q;cases q
   ·exact⟨c,q1,q2⟩
  obtain⟨c',ec'⟩:=kc.has x (.inl h3')
  have:c'=c:=by
   rcases kc.one x c' ec' with⟨_,q,_⟩|this
   ·have q1:=S.look _ q
    rw[S.look _ h3']at q1
    cases q1
   ·rw[ec]at this;exact(Option.some.inj this).symm
  subst this
  obtain⟨o,ho,hd⟩:=ic
  refine⟨?_,c',ec',o,hk _ _ ho,hd⟩
  rcases e3 with e3|e3|e3
  ·obtain⟨k',q1,q2⟩:=Xr S.look e3
   rw[S.look _ h3']at q1;cases q1
   rcases q2 with q2|⟨_,q2⟩<;>cases q2
  ·exact .inl e3
  ·exact .inr e3
 ·rcases kc.one x c e with⟨_,_,q⟩|q
  ·exact⟨_,q⟩
  ·obtain⟨v,o,ho,hd⟩:=I.cell x c q
   exact⟨v,o,hk _ _ ho,hd⟩
 ·rcases kc.one x c e with⟨q,_⟩|q
  ·exact I.hok.fresh (Nat.le_trans hC (Nat.le_of_lt q))
  ·exact I.freeC x c q
theorem Zbf{pins:List (Addr×Obj)}{s s':Shared}{σ σ':L2.St}{H H':Hp}{fp:List Addr}{N':List Str}{scope:Scope}{cl:List (Str×Addr)}{C:Addr}(I:Inv X pins σ H s)(hf:∀b∈fp,FpOk X pins H b)(J:Inv (Qw X N' scope cl C s H fp) [] σ' H' s'):
  Inv X pins σ H' s':=
 I.call' J.os J.base J.hok J.bare λb hb=>⟨(hf b hb).2.2.2.1,(hf b hb).2.1,(hf b hb).2.2.2.2.1,(hf b hb).2.2.2.2.2⟩
theorem Inv.adopt{pins:List (Addr×Obj)}{s:Shared}{σ:L2.St}{H:Hp}{D:Addr}{vs:List V}(I:Inv X pins σ H s)(f:FpOk X pins H D)(a:AccAt s.heap D vs):Inv X pins σ (upd H D (.lst vs)) s:=by
 obtain⟨f0,f1,f2,f3,f4,f5⟩:=f
 have hne:∀b u,H b=some u->b≠D:=λb u e z=>by subst z;rw[f0]at e;cases e
 refine I.call' (ch:=[D]) rfl ⟨λb o e _ _ _=>e,λb o e _ _ _=>⟨o.slots,e⟩,λb o e n hx=>by rw[ZL (by simpa using hx)];exact n,λb o e _=>⟨o,e⟩,λb xs e=>by rw[ZL (hne b _ e)];exact e,λb o u e=>by rw[ZL (hne b _ e)];exact e,
  λb ps e=>⟨#[],by rw[ZL (hne b _ e),e];simp⟩⟩ (λb u e=>?_) I.bare λb hb=>?_
 ·by_cases hb:b=D
  ·subst hb
   rw[QW]at e;cases e
   exact a
  ·rw[ZL hb]at e
   exact(I.hok b u e).stay (λ_ _ _ q=>q) (λc q=>by rw[ZL (hne c _ q)];exact q) λc xs q=>by rw[ZL (hne c _ q)];exact q
 ·have e:b=D:=by simpa using hb
  subst e
  exact⟨f3,f1,f4,f5⟩
noncomputable def ZdY(X:Cx)(xr:XR)(call:Nat->List W->Mem->Res W)(gv:List T)(N':List Str)(scope:Scope)(elt target:Expr)(ifs:List Expr)(gens:List Comprehension)(tg:Tg)(cs:Es)(inner:E):Prop:=
 ∀(cl:List (Str×Addr)) (C:Addr) (s2:Shared) (H2:Hp) (fp:List Addr),PG (Qw X N' scope cl C s2 H2 fp) target (gT X.K tg)/\PTs (Qw X N' scope cl C s2 H2 fp) call gv xr cs ifs/\Ins xr (Qw X N' scope cl C s2 H2 fp) call gv elt gens 0 inner
noncomputable def envC(own:Nat)(keep:List Nat)(env:Env):Env:=List.replicate own none++keep.map λi=>(env[i]?).join
noncomputable def stC(own:Nat)(keep:List Nat)(σ:L2.St):L2.St:=List.replicate own none++keep.map λi=>(σ[i]?).join
theorem ZiA{K:Frag}{cm:List Addr}{m:Mem}{H:Hp}{env:Env}{σ:L2.St}{own:Nat}{keep:List Nat}(h:EnvR K cm m H env σ):EnvR K cm m H (envC own keep env) (stC own keep σ):=λi w e=>by
 unfold envC at e
 unfold stC
 by_cases hi:i<own
 ·rw[List.getElem?_append_left (by simpa using hi),List.getElem?_replicate]at e
  split at e<;>cases e
 ·rw[List.getElem?_append_right (by simpa using hi),List.length_replicate,List.getElem?_map]at e
  rw[List.getElem?_append_right (by simpa using hi),List.length_replicate,List.getElem?_map]
  cases q:keep[i-own]? with
  |none=>rw[q]at e;cases e
  |some j =>
   rw[q]at e
   have e':(env[j]?).join=some w:=Option.some.inj e
   cases r:env[j]? with
   |none=>rw[r]at e';cases e'
   |some o =>
    rw[r]at e'
    have e2:o=some w:=e'
    subst e2
    obtain⟨v,h1,h2⟩:=h j w r
    exact⟨v,by simp[h1],h2⟩
theorem X5{α:Type}{r:Res α}{x:α}{m:Mem}(h:r.only=.ok x m):r=.ok x m:=by
 cases r with
 |ok _ _=>exact h
 |exc _ _=>cases h
 |stuck=>cases h
theorem Za7{α β:Type}{r:Res α}{f:α->Mem->Res β}(hf:∀x m e m',f x m≠.exc e m')(e:Exc)(m':Mem):r.only.bind f≠.exc e m':=by
 cases r with
 |ok x m=>exact hf x m e m'
 |exc _ _=>intro h;cases h
 |stuck=>intro h;cases h
theorem Xo{own:Nat}{keep:List Nat}{it:E}{tg:Tg}{cs:Es}{inner:E}{env:Env}{m:Mem}(e:Exc)(m':Mem):ev call gv (.comp own keep it tg cs inner) env m≠.exc e m':=by
 unfold ev
 refine Za7 (λx m0 e m'=>?_) e m'
 cases h:ZQ x m0 with
 |ok ts m1 =>
  refine Za7 (λout m2 e m'=>?_) e m'
  split<;>(intro h;cases h)
 |exc _ _ =>
  unfold ZQ at h
  split at h<;>first
   |(cases h;done)
   |(split at h<;>cases h)
 |stuck=>intro h;cases h
theorem ZaA{own:Nat}{keep:List Nat}{it:E}{tg:Tg}{cs:Es}{inner:E}{env:Env}{m m':Mem}{w:W}(h:ev call gv (.comp own keep it tg cs inner) env m=.ok w m'):∃out,w=.t (.lst out):=by
 unfold ev at h
 obtain⟨_,_,_,h⟩:=Zk h
 obtain⟨_,_,_,h⟩:=Zk h
 obtain⟨out,_,_,h⟩:=Zk h
 split at h<;>cases h
 exact⟨_,rfl⟩
theorem Zcv{elt target iter:Expr}{ifs:List Expr}{gs:List Comprehension}{scope:Scope}{pos pos':Pos}{N':List Str}{own:Nat}{keep:List Nat}{it:E}{tg:Tg}{cs:Es}{inner:E}{use:Option (Value->Sem Unit)}(hc:X.calm=true)(S:CompSc X N' scope)(hown:N'.length=own+keep.length)(hkeep:∀(i:Nat) x,N'[own+i]?=some x->∃j,keep[i]?=some j/\X.N[j]?=some x/\(x,NameKind.free)∈scope.names)(hlocal:∀x∈scope.names,x.2=NameKind.local->scope.names.lookup x.1=some .local)(pi:PI X target iter (tI X.K call gv xr it))(hfs:∀x,foldedSetIterable iter X.env x=pure x)(hY:ZdY X xr call gv N' scope elt target ifs (⟨target,iter,ifs,0⟩::gs) tg cs inner)(hdis:∀i∈tgS tg,i∉innS inner)(hsl:∀i∈tgS tg++innS inner,i<own){pins:List (Addr×Obj)}{s:Shared}{σ:L2.St}{H:Hp}{cm:List Addr}{m m':Mem}{env:Env}{out:List T}{Q:Value->Shared->Prop}(I:Inv X pins σ H s)(hE:EnvR X.K cm m H env σ)(M:MemR X.K cm m H)(ok:ev call gv (.comp own keep it tg cs inner) env m=.ok (.t (.lst out)) m')(fin:∀(D C:Addr) (s3:Shared) (H3:Hp) (cm3:List Addr) (vs:List V),Inv X pins σ (upd H3 D (.lst vs)) s3->H3 D=none->X.K.lookup D=none->Ext cm m H cm3 m' H3->MemR X.K cm3 m' H3->RTs X.K cm3 m' H3 out vs->(∃mm,s3.heap.Ns C mm)->FpOk X pins (upd H3 D (.lst vs)) C ->
   compPost (model X.prog X.w) X.A X.xe use Q (.ref D) C (.ok .next) s3):
  wpAny (model X.prog X.w) X.A (comprehension (.ListComp elt (⟨target,iter,ifs,0⟩::gs) scope pos) scope X.env pos' (newList []) false (eval iter X.env) use) Q X.xe s:=by
 obtain⟨cl0,hclos,hcl1,hcl2⟩:=Zbh (scope:=scope) (env:=X.env) λx hx=>I.ok.has x (S.free x hx)
 unfold ev at ok
 obtain⟨w1,m1,ok0,ok2⟩:=Zk ok
 have ok1:=X5 ok0
 obtain⟨ts,m2,ok3,ok4⟩:=Zk ok2
 obtain⟨out',m3,ok5,ok6⟩:=Zk ok4
 split at ok6<;>cases ok6
 rename_i hlen
 have ok5':QM (turnF call gv cs inner) tg ts (envC own keep env) m2=.ok out m3:=X5 ok5
 have hz:=Zz
 refine wpAny_comprehension_free rfl hfs hclos S.kind hlocal (thn (pi pins s σ H (λJ H1=>∃cm1,Ext cm m H cm1 m1 H1/\MemR X.K cm1 m1 H1/\Src X.K cm1 m2 H1 J ts) I ⟨env,cm,m,hE,M,by
   rw[ok1]
   exact λcm1 H1 x M1=>⟨ts,m2,ok3,λJ hs=>⟨cm1,x,M1,hs⟩⟩⟩) λxv s1 h1=>thn h1 λitv s2 h2=>?_)
 obtain⟨it2,fp,tn,J,H2,rfl,I2,T2,st2,f2,cm2,x2,M2,hs2⟩:=h2
 refine wpAny_newObj_type (ZaX hcl1 hcl2 (λx c e=>?_) I2.ok.inj λh₁ cl hns₁ hsb₁ kc=>?_)
 ·obtain⟨v,q⟩:=I2.cell x c e
  exact Nat.lt_of_lt_of_le q.lt (by show _<=(Heap.push _ _).objs.size;rw[Heap.size_push];exact Nat.le_succ _)
 dsimp only at hns₁ hsb₁ kc ⊢
 generalize hH2:s2.heap.push { cls:=.type "list",dict:=none,data:=.seq ([]:List Value).toArray }=P2 at hns₁ hsb₁ kc ⊢
 have hCs:P2.objs.size=s2.heap.objs.size+1:=by rw[<-hH2,Heap.size_push]
 have hDC:s2.heap.objs.size≠P2.objs.size:=by omega
 have below:∀b,b<s2.heap.objs.size->b≠P2.objs.size:=λb hb=>by omega
 have old:∀b o,s2.heap.get? b=some o->h₁.get? b=some o:=λb o e=>hsb₁ b o (hH2▸Heap.get?_push_of_some _ e)
 have hacc:h₁.get? s2.heap.objs.size=some { cls:=.type "list",data:=.seq ([]:List Value).toArray }:=hsb₁ _ _ (hH2▸Heap.get?_push_size _ rfl)
 have flt:∀b∈fp,b<s2.heap.objs.size:=λb hb=>by
  obtain⟨o,e,_⟩:=T2.obj _ _ st2 b hb
  exact Heap.lt_size e
 have hb3:=J9 M2 ok3
 have E2:EnvR X.K cm2 m2 H2 env σ:=(hE.ext x2 M M2).ext hb3.1 M2 hb3.2
 have hσl:(stC own keep σ).length=N'.length:=by unfold stC;simp[hown]
 have J0:Inv (Qw X N' scope cl P2.objs.size s2 H2 fp) [] (stC own keep σ) H2 { s2 with heap:=h₁ }:=
  Zbg (t:=s2.toks) I2 S f2 flt (by omega) hns₁ old kc hσl λi x v e1 e2=>by
   unfold stC at e2
   by_cases hi:i<own
   ·rw[List.getElem?_append_left (by simpa using hi),List.getElem?_replicate]at e2
    split at e2<;>cases e2
   ·rw[List.getElem?_append_right (by simpa using hi),List.length_replicate,List.getElem?_map]at e2
    have ei:N'[own+(i-own)]?=some x:=by rw[show own+(i-own)=i by omega];exact e1
    obtain⟨j,q1,q2,q3⟩:=hkeep (i-own) x ei
    rw[q1]at e2
    have e3:(σ[j]?).join=some v:=Option.some.inj e2
    refine⟨j,q2,?_,q3⟩
    cases r:σ[j]? with
    |none=>rw[r]at e3;cases e3
    |some o=>rw[r]at e3;exact congrArg some e3
 obtain⟨pg,pt,hin⟩:=hY cl P2.objs.size s2 H2 fp
 have fD:FpOk (Qw X N' scope cl P2.objs.size s2 H2 fp) [] H2 s2.heap.objs.size:=by
  refine⟨I2.hok.fresh (Nat.le_refl _),hDC,λz=>?_,.inr (Nat.le_refl _),λx c e z=>?_,λp hp=>absurd (show p∈([]:List (Addr×Obj))from hp) (by simp)⟩
  ·have:=I2.stkSub _ z
   rcases List.mem_cons.mp this with q|q
   ·exact absurd I2.lt (by rw[<-q];exact Nat.lt_irrefl _)
   ·exact I2.nofs (Nat.le_refl _) q
  ·rcases kc.one x c e with⟨q,_⟩|q
   ·exact absurd q (by rw[z,hCs];exact Nat.not_lt.mpr (Nat.le_succ _))
   ·obtain⟨v,q⟩:=I2.cell x c q
    exact absurd q.lt (by rw[z];exact Nat.lt_irrefl _)
 have fF:∀b∈fp,FpOk (Qw X N' scope cl P2.objs.size s2 H2 fp) [] H2 b:=λb hb=>by
  refine⟨(f2 b hb).1,below b (flt b hb),λz=>?_,.inl hb,kc.ne (Nat.lt_of_lt_of_le (flt b hb) (by rw[hCs];exact Nat.le_succ _)) (f2 b hb).2.2.2.2.1,λp hp=>absurd (show p∈([]:List (Addr×Obj))from hp) (by simp)⟩
  rcases List.mem_cons.mp (I2.stkSub b z)with q|q
  ·exact(f2 b hb).2.1 q
  ·exact(f2 b hb).2.2.1 q
 have st2':tn 0 h₁:=T2.keep _ _ _ st2 λb _ o e=>old b o e
 have hDf:s2.heap.objs.size∉fp:=λz=>absurd (flt _ z) (Nat.lt_irrefl _)
 have hnone:∀i∈tgS tg++innS inner,∀w,(envC own keep env)[i]?≠some (some w):=λi hi w e=>by
  unfold envC at e
  rw[List.getElem?_append_left (by simpa using hsl i hi),List.getElem?_replicate]at e
  split at e<;>cases e
 have go:=Zf2 (Y:=Qw X N' scope cl P2.objs.size s2 H2 fp) (xr:=xr) (call:=call) (gv:=gv) hc (λ_ _ z=>z) (elt:=elt) (scope:=scope) (pos:=pos) (D:=s2.heap.objs.size) inner 0 target iter ifs tg cs rfl pg pt hin hdis (λi hi=>by
  show i<N'.length
  rw[hown]
  have:=hsl i hi
  omega) J0 fD (vs:=[]) ⟨Nat.zero_le _,[],0,.nil,hacc⟩ T2 st2' fF hDf (ZiA E2) hnone hb3.2 hs2 ok5' (by rw[List.length_nil,Nat.zero_add];exact hlen)
 have fine:∀r s3,(r=.ok .next/\CEnd (Qw X N' scope cl P2.objs.size s2 H2 fp) s2.heap.objs.size (tgS tg++innS inner) [] (stC own keep σ) cm2 m2 H2 [] out m3 s3)->compPost (model X.prog X.w) X.A X.xe use Q (.ref s2.heap.objs.size) P2.objs.size r s3:=λr s3 ⟨hr,σ3,H3,cm3,vs3,J3,x3,M3,r3,a3,ag3,d3⟩=>by
  subst hr
  rw[List.nil_append]at a3
  obtain⟨x4,M4,sm⟩:=Je M2 ok3 x3 M3
  have I3:Inv X pins σ H3 s3:=Zbf I2 f2 J3
  have fX:∀b,s2.heap.objs.size<=b->∀H',H' b=none->FpOk X pins H' b:=λb hb H' hn=>I2.fpOk hb hn
  obtain⟨mm,hmm,_⟩:=J3.loc
  have neC:P2.objs.size≠s2.heap.objs.size:=Ne.symm hDC
  refine fin s2.heap.objs.size P2.objs.size s3 H3 cm3 vs3 (Inv.adopt I3 (fX _ (Nat.le_refl _) _ d3) a3) d3 ?_ (x2.trans x4) M4 (Zg (λ_ _ z=>sm _ _ z) r3) ⟨mm,hmm⟩ (fX _ (by omega) _ ?_)
  ·cases q:X.K.lookup s2.heap.objs.size with
   |none=>rfl
   |some o=>exact absurd (Heap.lt_size (I2.kIn _ _ q)) (Nat.lt_irrefl _)
  ·rw[ZL neC];exact J3.free
 exact codeAny_mono (J4 (gens:=⟨target,iter,ifs,0⟩::gs) rfl go (T2.self X.A 0 { s2 with heap:=h₁ } _ _ st2' go)) fine
structure CompK (X:Cx) (xr:XR) (call:Nat->List W->Mem->Res W) (gv:List T) (N':List Str) (scope:Scope) (own:Nat) (keep:List Nat) (elt target iter:Expr) (ifs:List Expr) (gs:List Comprehension) (it:E) (tg:Tg) (cs:Es) (inner:E):Prop where
 sc:CompSc X N' scope
 hown:N'.length=own+keep.length
 hkeep:∀(i:Nat) x,N'[own+i]?=some x->∃j,keep[i]?=some j/\X.N[j]?=some x/\(x,NameKind.free)∈scope.names
 pi:PI X target iter (tI X.K call gv xr it)
 fs:∀x,foldedSetIterable iter X.env x=pure x
 ins:ZdY X xr call gv N' scope elt target ifs (⟨target,iter,ifs,0⟩::gs) tg cs inner
 dis:∀i∈tgS tg,i∉innS inner
 slt:∀i∈tgS tg++innS inner,i<own
variable{elt target iter:Expr}{ifs:List Expr}{gs:List Comprehension}{scope:Scope}{pos:Pos}{N':List Str}{own:Nat}{keep:List Nat}{it:E}{tg:Tg}{cs:Es}{inner:E}
theorem Q0(hc:X.calm=true)(k:CompK X xr0 call gv N' scope own keep elt target iter ifs gs it tg cs inner):
  PE X (.ListComp elt (⟨target,iter,ifs,0⟩::gs) scope pos) (tE X.K call gv xr (.comp own keep it tg cs inner)):=by
 rintro pins s σ H Q I ⟨env,cm,m,hE,M,ho⟩
 cases h:ev call gv (.comp own keep it tg cs inner) env m with
 |stuck=>rw[h]at ho;exact ho.elim
 |exc e m'=>exact absurd h (Xo e m')
 |ok w m' =>
  obtain⟨out,rfl⟩:=ZaA h
  rw[h]at ho
  rw[eval_ListComp]
  refine Zcv (use:=none) hc k.sc k.hown k.hkeep (λx hx e=>by rw[k.sc.look x hx,e]) k.pi k.fs k.ins k.dis k.slt I hE M h ?_
  rintro D C s3 H3 cm3 vs I3 hD _ x3 M3 r3 ⟨mm,hm⟩ fC
  refine⟨mm,hm,λh' hs'=>?_⟩
  have I4:Inv X pins σ (upd H3 D (.lst vs)) { s3 with heap:=h' }:=I3.turned (t':=s3.toks) (it:=C) (λb o hb e=>(hs'.2 b hb).trans e) fC.1 fC.2.1 fC.2.2.2.1 fC.2.2.2.2.1 fC.2.2.2.2.2
  exact⟨.ref D,_,I4,rfl,OkR.to ho (x3.trans (.new hD)) (M3.new hD) _ (RT.newLst M3 r3 hD)⟩
theorem ZhR{i:Nat}{x:Str}{px spos:Pos}(hc:X.calm=true)(k:CompK X xr0 call gv N' scope own keep elt target iter ifs gs it tg cs inner)(hN:X.N.Nodup)(hi:X.N[i]?=some x)(hx:X.env.scope.names.lookup x=some .local)(hsw:swapsWith (.ListComp elt (⟨target,iter,ifs,0⟩::gs) scope pos) (some (.Name x px)) spos.line X.env=pure true){pins:List (Addr×Obj)}{s:Shared}{σ:L2.St}{H:Hp}{cm:List Addr}{m m':Mem}{env:Env}{out:List T}{D:Ends}(I:Inv X pins σ H s)(hE:EnvR X.K cm m H env σ)(M:MemR X.K cm m H)(ok:ev call gv (.comp own keep it tg cs inner) env m=.ok (.t (.lst out)) m')(q:∀(p:Addr) (H3:Hp) (cm3:List Addr) (vs:List V),H3 p=none->X.K.lookup p=none->Ext cm m H cm3 m' H3->MemR X.K cm3 m' H3->RTs X.K cm3 m' H3 out vs->D.nx (σ.set i (some (.ref p))) (upd H3 p (.lst vs))):
  wpAny (model X.prog X.w) X.A (exec (.Assign [.Name x px] (.ListComp elt (⟨target,iter,ifs,0⟩::gs) scope pos) spos) X.env) (SP X pins D) X.xe s:=by
 rw[exec_Assign_Name_used _ _ _ _ hsw]
 refine wpAny_bind (wpAny_standAt (wpAny_bind ?_))
 show wpAny _ _ (do let _ <-comprehension (.ListComp elt (⟨target,iter,ifs,0⟩::gs) scope pos) scope X.env _ (newList []) false (eval iter X.env) (some (assign (.Name x px) X.env))) _ _ s
 refine wpAny_bind (thn (Zcv (use:=some (assign (.Name x px) X.env)) (Q:=λ_ s'=>SP X pins D .next s') hc k.sc k.hown k.hkeep (λx hx e=>by rw[k.sc.look x hx,e]) k.pi k.fs k.ins k.dis k.slt I hE M ok ?_) λ_ s' h=>wpAny_pure (wpAny_pure h))
 rintro p C s3 H3 cm3 vs I3 hD hK x3 M3 r3 ⟨mm,hm⟩ fC
 show wpAny _ _ (assign (.Name x px) X.env (.ref p)) _ _ s3
 refine wpAny_assign_Name (ZbY I3 hN hi (.inl hx) (v:=.ref p) rfl (λs4 I4 ⟨a,hs4,ha⟩=>?_) (.inr hx))
 have hac:C≠a:=by
  rcases ha with rfl|ha
  ·exact fC.2.1
  ·exact λz=>fC.2.2.2.2.1 x a ha z.symm
 refine⟨mm,hm.sameBut hs4 hac,λh' hs'=>?_⟩
 have I5:Inv X pins (σ.set i (some (.ref p))) (upd H3 p (.lst vs)) { s4 with heap:=h' }:=I4.turned (t':=s4.toks) (it:=C) (λb o hb e=>(hs'.2 b hb).trans e) fC.1 fC.2.1 fC.2.2.2.1 fC.2.2.2.2.1 fC.2.2.2.2.2
 exact⟨_,_,I5,q p H3 cm3 vs hD hK x3 M3 r3⟩
end
theorem Zcw{elt:Expr}{gens:List Comprehension}{scope:Scope}{pos:Pos}{d:Nat}{target iter:Expr}{ifs:List Expr}{it acc:Value}{env:PySem.Env}(hg:gens[d]?=some ⟨target,iter,ifs,0⟩)(hn:gens[d+1]?=none):
  compTurn (.SetComp elt gens scope pos) d it acc env=(do
   standAt iter.pos
   match <-pyNext it with
   |none=>pure (.done .next)
   |some v =>
    letOwnedTupleGo target it v
    assign target env v
    let mut ok:=true
    for c in ifs do
     if ok then ok <-isTrue c env (eval c env)
    if ok then
     (do let v <-eval elt env;standAt elt.pos;let _ <-call (.builtin "set.add") [acc,v])
    again (.compLoop (.SetComp elt gens scope pos) d it acc env)):=by
 unfold compTurn
 simp only[hg,hn]
 rfl
noncomputable def dl(ss:List Str):List Str:=ss.foldl (λD x=>if x∈D then D else D++[x]) []
theorem Zj6(ss:List Str)(x:Str):dl (ss++[x])=if x∈dl ss then dl ss else dl ss++[x]:=by
 unfold dl
 rw[List.foldl_append]
 rfl
theorem ZiC(ss:List Str):(dl ss).length<=ss.length:=by
 have:∀(ss D:List Str),(ss.foldl (λD x=>if x∈D then D else D++[x]) D).length<=D.length+ss.length:=by
  intro ss
  induction ss with
  |nil=>intro D;exact Nat.le_refl _
  |cons x r ih =>
   intro D
   rw[List.foldl_cons,List.length_cons]
   refine Nat.le_trans (ih _) ?_
   split
   ·omega
   ·rw[List.length_append,List.length_singleton];omega
 have h:=this ss []
 rw[List.length_nil,Nat.zero_add]at h
 exact h
noncomputable abbrev ledS(w:World):Bool:=!w.params.followText "set-order"
noncomputable def AccS(prog:Program)(w:World)(D:Addr)(h:Heap)(vs:List V):Prop:=∃ss:List Str,vs=ss.map V.str/\SetS prog w (Zc9 w) h D (dl ss)
theorem ZbR(prog:Program)(w:World)(D:Addr):AccK D (AccS prog w D):=⟨λ⟨ss,_,o,es,ep,t,e,hE⟩=>⟨o,e,λv z=>by rw[hE.data]at z;cases z⟩,λ⟨ss,q,o,es,ep,t,e,r⟩ k=>⟨ss,q,o,es,ep,t,k o e,r⟩⟩
theorem Zgk{prog:Program}{w:World}{h:Heap}{a:Addr}(ha:h.get? a=some { cls:=.type "set",dict:=none,data:=.set #[] 0 (.fresh 0 0 (Zc9 w)) }):AccS prog w a h []:=
 ⟨[],rfl,Zgj ha⟩
section
variable{xr:XR}{Y:Cx}{call:Nat->List W->Mem->Res W}{gv:List T}
theorem ZaV{prog:Program}{w:World}{A:Around}{R:Result->Shared->Prop}{s:Shared}{elt:Expr}{gens:List Comprehension}{scope:Scope}{pos:Pos}{d:Nat}{target iter:Expr}{ifs:List Expr}{it acc:Value}{env:PySem.Env}(hg:gens[d]?=some ⟨target,iter,ifs,0⟩)(h0:codeAny (model prog w) A (.compLoop (.SetComp elt gens scope pos) d it acc env) R s)(h:wpAny (model prog w) A (pyIter it) (λit' s'=>codeAny (model prog w) A (.compLoop (.SetComp elt gens scope pos) d it' acc env) R s') (notedBy (model prog w) A env λx s'=>R (.error x) s') s):
  codeAny (model prog w) A (.compStart (.SetComp elt gens scope pos) d it acc env) R s:=by
 refine codeAny_of_tree ?_
 show wpAny _ _ ((compStart (.SetComp elt gens scope pos) d it acc env).onRaise (λx=>do noteFrame x env;standAt theWindowsPlace)) _ _ s
 refine wpAny_notedAt ?_
 unfold compStart
 have e:(clausesOf (.SetComp elt gens scope pos))[d]?=some ⟨target,iter,ifs,0⟩:=hg
 rw[e]
 show wpAny _ _ (ask >>= _) _ _ s
 refine wpAny_bind (wpAny_askSetting (wpAny_ite ?_))
 split
 ·first
   |exact wpAny_bind (wpAny_pure (wpAny_pure (And.intro rfl h0)))
   |exact wpAny_pure (And.intro rfl h0)
 ·first
   |exact wpAny_bind (wpAny_rule (wpAny_bind (wpAny_standAt (wpAny_bind (wpAny_mono h (λit' s' h'=>wpAny_pure (And.intro rfl h')) λ_ _ x=>x)))))
   |(refine wpAny_bind (wpAny_rule ?_);show wpAny _ _ (standAt iter.pos >>= _) _ _ s;exact wpAny_bind (wpAny_standAt (wpAny_bind (wpAny_mono h (λit' s' h'=>wpAny_pure (And.intro rfl h')) λ_ _ x=>x))))
theorem Zki{pins:List (Addr×Obj)}{s:Shared}{σ:L2.St}{H:Hp}{D:Addr}{vs:List V}{x:Str}{t:Tok}{E:Value->Shared->Prop}{Q:Value->Shared->Prop}(I:Inv Y pins σ H s)(f:FpOk Y pins H D)(a:AccS Y.prog Y.w D s.heap vs)(hz:vs.length<64)(q:∀s',Inv Y pins σ H s'->AccS Y.prog Y.w D s'.heap (vs++[.str x])->Q .none s'):wpAny (model Y.prog Y.w) Y.A (PySem.call (.builtin "set.add") [.ref D,.str x t]) Q E s:=by
 obtain⟨ss,rfl,hS⟩:=a
 have hl:=ZiC ss
 rw[List.length_map]at hz
 have ht:Shared.TypeIs s (.ref D) "set":=by
  obtain⟨o,es,ep,t,e,hE⟩:=hS
  exact⟨o,e,hE.ex.1⟩
 refine wpAny_call_entry PySem.F.slot_set_add ht PySem.F.entry_set_add ?_ (PySem.F.args_set_add_2 _ _)
 unfold Builtin.«set.add» Builtin.Frozenset.oneOther
 simp only[List.isEmpty_nil,bind_assoc]
 unfold Builtin.Frozenset.addrOf setAdd
 refine wpAny_bind (wpAny_pure ?_)
 try dsimp only
 refine wpAny_bind (wpAny_pure ?_)
 try dsimp only
 refine wpAny_bind ?_
 refine wpAny_holding ?_
 refine wpAny_bind ((PySem.strKind Y.prog Y.w).pyHash (k:=x) (by show Value.isStrOf x (.str x t)=true;simp[Value.isStrOf]) ?_)
 refine add_str (s:={ s with toks:=s.toks+1 }) hS (by unfold scanBound;omega) λh' b sb hS'=>?_
 obtain⟨f0,f1,f2,f3,f4,f5⟩:=f
 have fin:=q _ (I.turned (t':=s.toks+1) (it:=D) (λb o hb e=>(sb.2 b hb).trans e) f0 f1 f3 f4 f5) ⟨ss++[x],by simp,by rw[Zj6];exact hS'⟩
 exact wpAny_pure ⟨_,rfl,fin⟩
theorem ZhD(hc:Y.calm=true)(hxe:∀e s,¬Y.xe e s){elt:Expr}{gens:List Comprehension}{scope:Scope}{pos:Pos}{D:Addr}{ea:E}{target iter:Expr}{ifs:List Expr}{tg:Tg}{cs:Es}(hg:gens[0]?=some ⟨target,iter,ifs,0⟩)(pg:PG Y target (gT Y.K tg))(pt:PTs Y call gv xr cs ifs)(hin:Ins xr Y call gv elt gens 0 (.emit ea))(hdis:∀i∈tgS tg,i∉innS (.emit ea))(hlt:∀i∈tgS tg++innS (.emit ea),i<Y.N.length){pins:List (Addr×Obj)}{s:Shared}{σ:L2.St}{H:Hp}{cm:List Addr}{m m':Mem}{env:Env}{ts out:List T}{J:It}{it:Addr}{fp:List Addr}{tn:Nat->Heap->Prop}{vs:List V}(I:Inv Y pins σ H s)(hD:FpOk Y pins H D)(ha:AccS Y.prog Y.w D s.heap vs)(hT:Turn Y.prog Y.w Y.K target J fp it tn)(h0:tn 0 s.heap)(hf:∀b∈fp,FpOk Y pins H b)(hDf:D∉fp)(hE:EnvR Y.K cm m H env σ)(hn:∀i∈tgS tg++innS (.emit ea),∀w,env[i]?≠some (some w))(M:MemR Y.K cm m H)(hs:Src Y.K cm m H J ts)(ok:QM (turnF call gv cs (.emit ea)) tg ts env m=.ok out m')(hl:vs.length+out.length<=63)(hst:∀t∈out,∃c,t=.str c):
  codeAny (model Y.prog Y.w) Y.A (.compLoop (.SetComp elt gens scope pos) 0 (.ref it) (.ref D) Y.env) (λr s'=>r=.ok .next/\ZgO Y (AccS Y.prog Y.w D) D (tgS tg++innS (.emit ea)) pins σ cm m H vs out m' s') s:=by
 obtain⟨hnx,pe⟩:=hin
 refine ZbG hc hxe (ZbR Y.prog Y.w D) (Pt:=λt=>∃c,t=.str c) (br:=do(do let v <-eval elt Y.env;standAt elt.pos;let _ <-PySem.call (.builtin "set.add") [.ref D,v]);again (.compLoop (.SetComp elt gens scope pos) 0 (.ref it) (.ref D) Y.env)) rfl rfl (Zcw hg hnx) pg pt hdis hlt ?_ I hD ha hT h0 hf hDf hE hn M hs ok hl hst
 intro pins s σ H cm m m' env out vs I hD ha hE hn M ok hl hst
 obtain⟨w,m1,ok1,ok2⟩:=Zk ok
 obtain⟨rfl,rfl⟩:=ZaO ok2
 unfold ev at ok1
 obtain⟨w1,m2,ok3,ok4⟩:=Zk ok1
 obtain⟨t,m3,ok5,ok6⟩:=Zk ok4
 cases ok6
 obtain⟨c,rfl⟩:=hst t (by simp)
 refine wpAny_bind (wpAny_bind (thn (Zij pe (ZbQ (ZbR Y.prog Y.w D) I hD ha) hE M ok3) λu s1 ⟨v,H1,I1,rv,cm1,x1,M1,r1⟩=>?_))
 obtain⟨a1,d1⟩:=ZaQ (ZbR Y.prog Y.w D) ha I1 λo e=>List.mem_append_right _ (ZP (by simp) e)
 obtain⟨x2,M2,r2⟩:=ZdT M1 r1 ok5
 have I1':Inv Y pins σ H1 s1:=I1.unpinned
 cases RT.vstr r2
 obtain⟨tk,rfl⟩:=rv
 refine wpAny_bind (wpAny_standAt (wpAny_bind (Zki I1' ⟨d1,hD.2⟩ a1 (by simp at hl;omega) λs2 I2 a2=>wpAny_pure (wpAny_pure ⟨rfl,σ,H1,cm1,[_],I2,x1.trans x2,M2,.cons r2 .nil,a2,.refl,d1⟩))))
end
section
variable{xr:XR}{X:Cx}{call:Nat->List W->Mem->Res W}{gv:List T}
theorem ZbT{P:Program}{w:World}{A:Around}{E:Value->Shared->Prop}{s:Shared}{Q:Value->Shared->Prop}(h:Q (.ref s.heap.objs.size) { s with heap:=s.heap.push { cls:=.type "set",dict:=none,data:=.set #[] 0 (.fresh 0 0 (ledS w)) } }):wpAny (model P w) A (newSet (.type "set")) Q E s:=by
 unfold newSet setsByText
 refine wpAny_bind (wpAny_bind (wpAny_askSetting (wpAny_pure ?_)))
 dsimp only
 simp only[newObj]
 exact wpAny_bind (wpAny_alloc (wpAny_pure h))
theorem ZeG{elt target iter:Expr}{ifs:List Expr}{gs:List Comprehension}{scope:Scope}{pos pos':Pos}{N':List Str}{own:Nat}{keep:List Nat}{it:E}{tg:Tg}{cs:Es}{ea:E}(hc:X.calm=true)(S:CompSc X N' scope)(hown:N'.length=own+keep.length)(hkeep:∀(i:Nat) x,N'[own+i]?=some x->∃j,keep[i]?=some j/\X.N[j]?=some x/\(x,NameKind.free)∈scope.names)(hlocal:∀x∈scope.names,x.2=NameKind.local->scope.names.lookup x.1=some .local)(pi:PI X target iter (tI X.K call gv xr it))(hfs:∀x,foldedSetIterable iter X.env x=pure x)(hY:ZdY X xr call gv N' scope elt target ifs (⟨target,iter,ifs,0⟩::gs) tg cs (.emit ea))(hdis:∀i∈tgS tg,i∉innS (.emit ea))(hsl:∀i∈tgS tg++innS (.emit ea),i<own){pins:List (Addr×Obj)}{s:Shared}{σ:L2.St}{H:Hp}{cm:List Addr}{m m':Mem}{env:Env}{out:List T}{Q:Value->Shared->Prop}(I:Inv X pins σ H s)(hE:EnvR X.K cm m H env σ)(M:MemR X.K cm m H)(h63:out.length<64)(hst:∀t∈out,∃c,t=.str c)(ok:ev call gv (.comp own keep it tg cs (.emit ea)) env m=.ok (.t (.lst out)) m')(fin:∀(D C:Addr) (s3:Shared) (H3:Hp) (cm3:List Addr) (vs:List V),Inv X pins σ H3 s3->AccS X.prog X.w D s3.heap vs->Ext cm m H cm3 m' H3->MemR X.K cm3 m' H3->RTs X.K cm3 m' H3 out vs->(∃mm,s3.heap.Ns C mm)->FpOk X pins H3 C->D≠C ->
   compPost (model X.prog X.w) X.A X.xe none Q (.ref D) C (.ok .next) s3):
  wpAny (model X.prog X.w) X.A (comprehension (.SetComp elt (⟨target,iter,ifs,0⟩::gs) scope pos) scope X.env pos' (newSet (.type "set")) false (eval iter X.env) none) Q X.xe s:=by
 obtain⟨cl0,hclos,hcl1,hcl2⟩:=Zbh (scope:=scope) (env:=X.env) λx hx=>I.ok.has x (S.free x hx)
 unfold ev at ok
 obtain⟨w1,m1,ok0,ok2⟩:=Zk ok
 have ok1:=X5 ok0
 obtain⟨ts,m2,ok3,ok4⟩:=Zk ok2
 obtain⟨out',m3,ok5,ok6⟩:=Zk ok4
 split at ok6<;>cases ok6
 rename_i hlen
 have ok5':QM (turnF call gv cs (.emit ea)) tg ts (envC own keep env) m2=.ok out m3:=X5 ok5
 have hz:=Zz
 refine wpAny_comprehension_free rfl hfs hclos S.kind hlocal (thn (pi pins s σ H (λJ H1=>∃cm1,Ext cm m H cm1 m1 H1/\MemR X.K cm1 m1 H1/\Src X.K cm1 m2 H1 J ts) I ⟨env,cm,m,hE,M,by
   rw[ok1]
   exact λcm1 H1 x M1=>⟨ts,m2,ok3,λJ hs=>⟨cm1,x,M1,hs⟩⟩⟩) λxv s1 h1=>thn h1 λitv s2 h2=>?_)
 obtain⟨it2,fp,tn,J,H2,rfl,I2,T2,st2,f2,cm2,x2,M2,hs2⟩:=h2
 refine ZbT (ZaX hcl1 hcl2 (λx c e=>?_) I2.ok.inj λh₁ cl hns₁ hsb₁ kc=>?_)
 ·obtain⟨v,q⟩:=I2.cell x c e
  exact Nat.lt_of_lt_of_le q.lt (by show _<=(Heap.push _ _).objs.size;rw[Heap.size_push];exact Nat.le_succ _)
 dsimp only at hns₁ hsb₁ kc ⊢
 generalize hH2:s2.heap.push { cls:=.type "set",dict:=none,data:=.set #[] 0 (.fresh 0 0 (ledS X.w)) }=P2 at hns₁ hsb₁ kc ⊢
 have hCs:P2.objs.size=s2.heap.objs.size+1:=by rw[<-hH2,Heap.size_push]
 have hDC:s2.heap.objs.size≠P2.objs.size:=by omega
 have below:∀b,b<s2.heap.objs.size->b≠P2.objs.size:=λb hb=>by omega
 have old:∀b o,s2.heap.get? b=some o->h₁.get? b=some o:=λb o e=>hsb₁ b o (hH2▸Heap.get?_push_of_some _ e)
 have hacc:h₁.get? s2.heap.objs.size=some { cls:=.type "set",dict:=none,data:=.set #[] 0 (.fresh 0 0 (ledS X.w)) }:=hsb₁ _ _ (hH2▸Heap.get?_push_size _ rfl)
 have flt:∀b∈fp,b<s2.heap.objs.size:=λb hb=>by
  obtain⟨o,e,_⟩:=T2.obj _ _ st2 b hb
  exact Heap.lt_size e
 have hb3:=J9 M2 ok3
 have E2:EnvR X.K cm2 m2 H2 env σ:=(hE.ext x2 M M2).ext hb3.1 M2 hb3.2
 have hσl:(stC own keep σ).length=N'.length:=by unfold stC;simp[hown]
 have J0:Inv (Qw X N' scope cl P2.objs.size s2 H2 fp) [] (stC own keep σ) H2 { s2 with heap:=h₁ }:=
  Zbg (t:=s2.toks) I2 S f2 flt (by omega) hns₁ old kc hσl λi x v e1 e2=>by
   unfold stC at e2
   by_cases hi:i<own
   ·rw[List.getElem?_append_left (by simpa using hi),List.getElem?_replicate]at e2
    split at e2<;>cases e2
   ·rw[List.getElem?_append_right (by simpa using hi),List.length_replicate,List.getElem?_map]at e2
    have ei:N'[own+(i-own)]?=some x:=by rw[show own+(i-own)=i by omega];exact e1
    obtain⟨j,q1,q2,q3⟩:=hkeep (i-own) x ei
    rw[q1]at e2
    have e3:(σ[j]?).join=some v:=Option.some.inj e2
    refine⟨j,q2,?_,q3⟩
    cases r:σ[j]? with
    |none=>rw[r]at e3;cases e3
    |some o=>rw[r]at e3;exact congrArg some e3
 obtain⟨pg,pt,hin⟩:=hY cl P2.objs.size s2 H2 fp
 have fD:FpOk (Qw X N' scope cl P2.objs.size s2 H2 fp) [] H2 s2.heap.objs.size:=by
  refine⟨I2.hok.fresh (Nat.le_refl _),hDC,λz=>?_,.inr (Nat.le_refl _),λx c e z=>?_,λp hp=>absurd (show p∈([]:List (Addr×Obj))from hp) (by simp)⟩
  ·have:=I2.stkSub _ z
   rcases List.mem_cons.mp this with q|q
   ·exact absurd I2.lt (by rw[<-q];exact Nat.lt_irrefl _)
   ·exact I2.nofs (Nat.le_refl _) q
  ·rcases kc.one x c e with⟨q,_⟩|q
   ·exact absurd q (by rw[z,hCs];exact Nat.not_lt.mpr (Nat.le_succ _))
   ·obtain⟨v,q⟩:=I2.cell x c q
    exact absurd q.lt (by rw[z];exact Nat.lt_irrefl _)
 have fF:∀b∈fp,FpOk (Qw X N' scope cl P2.objs.size s2 H2 fp) [] H2 b:=λb hb=>by
  refine⟨(f2 b hb).1,below b (flt b hb),λz=>?_,.inl hb,kc.ne (Nat.lt_of_lt_of_le (flt b hb) (by rw[hCs];exact Nat.le_succ _)) (f2 b hb).2.2.2.2.1,λp hp=>absurd (show p∈([]:List (Addr×Obj))from hp) (by simp)⟩
  rcases List.mem_cons.mp (I2.stkSub b z)with q|q
  ·exact(f2 b hb).2.1 q
  ·exact(f2 b hb).2.2.1 q
 have st2':tn 0 h₁:=T2.keep _ _ _ st2 λb _ o e=>old b o e
 have hDf:s2.heap.objs.size∉fp:=λz=>absurd (flt _ z) (Nat.lt_irrefl _)
 have hnone:∀i∈tgS tg++innS (.emit ea),∀w,(envC own keep env)[i]?≠some (some w):=λi hi w e=>by
  unfold envC at e
  rw[List.getElem?_append_left (by simpa using hsl i hi),List.getElem?_replicate]at e
  split at e<;>cases e
 have go:=ZhD (Y:=Qw X N' scope cl P2.objs.size s2 H2 fp) (xr:=xr) (call:=call) (gv:=gv) hc (λ_ _ z=>z) (elt:=elt) (scope:=scope) (pos:=pos) (D:=s2.heap.objs.size) (ea:=ea) (gens:=⟨target,iter,ifs,0⟩::gs) (target:=target) (iter:=iter) (ifs:=ifs) (tg:=tg) (cs:=cs) rfl pg pt hin hdis (λi hi=>by
  show i<N'.length
  rw[hown]
  have:=hsl i hi
  omega) J0 fD (vs:=[]) (Zgk hacc) T2 st2' fF hDf (ZiA E2) hnone hb3.2 hs2 ok5' (by rw[List.length_nil,Nat.zero_add];omega) hst
 have fine:∀r s3,(r=.ok .next/\ZgO (Qw X N' scope cl P2.objs.size s2 H2 fp) (AccS X.prog X.w s2.heap.objs.size) s2.heap.objs.size (tgS tg++innS (.emit ea)) [] (stC own keep σ) cm2 m2 H2 [] out m3 s3)->compPost (model X.prog X.w) X.A X.xe none Q (.ref s2.heap.objs.size) P2.objs.size r s3:=λr s3 ⟨hr,σ3,H3,cm3,vs3,J3,x3,M3,r3,a3,ag3,d3⟩=>by
  subst hr
  rw[List.nil_append]at a3
  obtain⟨x4,M4,sm⟩:=Je M2 ok3 x3 M3
  have I3:Inv X pins σ H3 s3:=Zbf I2 f2 J3
  have fX:∀b,s2.heap.objs.size<=b->∀H',H' b=none->FpOk X pins H' b:=λb hb H' hn=>I2.fpOk hb hn
  obtain⟨mm,hmm,_⟩:=J3.loc
  have neC:P2.objs.size≠s2.heap.objs.size:=Ne.symm hDC
  exact fin s2.heap.objs.size P2.objs.size s3 H3 cm3 vs3 I3 a3 (x2.trans x4) M4 (Zg (λ_ _ z=>sm _ _ z) r3) ⟨mm,hmm⟩ (fX _ (by omega) _ J3.free) hDC
 exact codeAny_mono (ZaV (gens:=⟨target,iter,ifs,0⟩::gs) rfl go (T2.self X.A 0 { s2 with heap:=h₁ } _ _ st2' go)) fine
end
section
variable{K:Frag}{cm:List Addr}{m:Mem}{H:Hp}{xr:XR}{X:Cx}{call:Nat->List W->Mem->Res W}{gv:List T}
theorem RTs.nil_iff{ts:List T}{vs:List V}(h:RTs K cm m H ts vs):(!ts.isEmpty)=!vs.isEmpty:=by cases h<;>rfl
theorem tru_of{w:W}{v:V}{t:T}(M:MemR K cm m H)(r:RW K cm m H w v)(e:view w m=some t)(f:fitT t=true):TruV K v H (Zdz t):=by
 have hz:=Zz
 cases t with
 |lst ts =>
  obtain⟨a,vs,rfl,h1,h2⟩:=Zw M r e
  exact .inl ⟨vs,.of h1,h2.nil_iff⟩
 |non=>cases(Zd r e (λ_ z=>by cases z)).vnon;exact rfl
 |bl b=>cases(Zd r e (λ_ z=>by cases z)).vbl;exact rfl
 |int i=>cases(Zd r e (λ_ z=>by cases z)).vint;exact rfl
 |str cs =>
  cases(Zd r e (λ_ z=>by cases z)).vstr
  have hl:cs.length<=lim:=of_decide_eq_true f
  refine⟨by rw[JH];omega,?_⟩
  rw[JH]
  cases cs with
  |nil=>rfl
  |cons c cs =>
   show true=_
   symm
   simp
   omega
 |tup ts =>
  obtain⟨a,vs,rfl,h1,h2⟩:=(Zd r e (λ_ z=>by cases z)).itup
  exact .inr (.inl ⟨vs,h1,h2.nil_iff⟩)
 |dct ks ts =>
  have h:=Zd r e (λ_ z=>by cases z)
  cases h with
  |@dct a ks ts vs h1 h2 h3 h4 h5 =>
   refine .inr (.inr ⟨_,h1,?_⟩)
   cases ks with
   |nil=>rfl
   |cons k ks =>
    cases vs with
    |nil=>simp at h3
    |cons v vs=>rfl
 |scr ns =>
  obtain⟨a,rfl,h1⟩:=(Zd r e (λ_ z=>by cases z)).vscr
  exact .inl ⟨_,h1.sq,by cases ns<;>rfl⟩
theorem Ze6{w:W}{k:Bool->List Addr->Mem->Hp->Prop}(h:OkR K (Z0 w m) xr cm m H k):∃t,view w m=some t/\fitT t=true/\OkR K (.ok (Zdz t) m) xr cm m H k:=by
 unfold Z0 at h
 split at h
 ·split at h
  ·exact⟨_,‹_›,‹_›,h⟩
  ·exact h.elim
 ·exact h.elim
theorem Zh6{w:W}{k:Bool->List Addr->Mem->Hp->Prop}(h:OkR K (ZcC w m) xr cm m H k):∃b,w=.t (.bl b)/\OkR K (.ok b m) xr cm m H k:=by
 unfold ZcC at h
 split at h
 ·exact⟨_,rfl,h⟩
 ·exact h.elim
theorem pt_of{e:Expr}{a:E}(h:PE X e (tE X.K call gv xr a))(he:∀whole,isTrue e X.env whole=(do let v <-whole;standAt e.pos;holding [v] (truthy v))):PT X e (tT X.K call gv xr a):=by
 refine PT.mono (Zg5 h he) λσ H Q ⟨env,cm,m,hE,M,ho⟩=>⟨env,cm,m,hE,M,ho.bind.mono λw cm1 m1 H1 x1 M1 o1 v rv=>?_⟩
 obtain⟨t,e1,f1,o2⟩:=Ze6 o1
 exact⟨Zdz t,tru_of M1 rv e1 f1,OkR.now o2 M1⟩
theorem Zjs{a b:Expr}{rest:List Expr}{pos:Pos}{ea eb:E}(ha:PE X a (tE X.K call gv xr ea))(hb:PE X (.BoolOp .And (b::rest) pos) (tE X.K call gv xr eb)):PE X (.BoolOp .And (a::b::rest) pos) (tE X.K call gv xr (.and ea eb)):=by
 refine PE.mono (pe_and ha hb) ?_
 rintro σ H Q ⟨env,cm,m,hE,M,ho⟩
 unfold ev at ho
 refine⟨env,cm,m,hE,M,ho.bind.mono λw cm1 m1 H1 x1 M1 o1 v rv=>?_⟩
 obtain⟨c,rfl,o2⟩:=Zh6 o1.bind
 cases RT.vbl rv
 have o3:=OkR.now o2 M1
 refine⟨c,rfl,?_⟩
 cases c with
 |true=>exact iteT ⟨env,cm1,m1,hE.ext x1 M M1,M1,o3⟩
 |false=>exact iteF (OkR.now o3 M1 _ (.bl false))
theorem ZcN{a:E}{σ:L2.St}{H:Hp}{env:Env}{cm:List Addr}{m:Mem}{f:Bool->Mem->Res W}{Q:Bool->Hp->Prop}(hE:EnvR K cm m H env σ)(M:MemR K cm m H)(ho:OkR K (((ev call gv a env m).bind λx m=>(ZcC x m).bind f).bind Z0) xr cm m H λk _ _ H'=>Q k H'):
  tT K call gv xr a σ H λc H1=>∃cm1 m1,Ext cm m H cm1 m1 H1/\MemR K cm1 m1 H1/\OkR K ((f c m1).bind Z0) xr cm1 m1 H1 λk _ _ H'=>Q k H':=by
 refine⟨env,cm,m,hE,M,?_⟩
 cases h:ev call gv a env m with
 |stuck=>rw[h]at ho;exact ho.elim
 |exc e m'=>rw[h]at ho;exact ho
 |ok w m1 =>
  rw[h]at ho
  have ho':OkR K (((ZcC w m1).bind f).bind Z0) xr cm m H λk _ _ H'=>Q k H':=ho
  cases w with
  |f a=>exact ho'.elim
  |x _ _ _=>exact ho'.elim
  |c i=>exact ho'.elim
  |t x =>
   cases x with
   |bl b=>exact λcm1 H1 x1 M1=>⟨cm1,m1,x1,M1,OkR.shift ho' x1⟩
   |_=>exact ho'.elim
theorem Zft{a b:Expr}{rest:List Expr}{pos:Pos}{ea eb:E}(ha:PT X a (tT X.K call gv xr ea))(hb:PW X (.BoolOp .And (b::rest) pos) (tT X.K call gv xr eb)):PW X (.BoolOp .And (a::b::rest) pos) (tT X.K call gv xr (.and ea eb)):=by
 rintro whole pins s σ H Q I ⟨env,cm,m,hE,M,ho⟩
 unfold ev at ho
 obtain⟨env',cm',m',hE',M',ho'⟩:=ZcN hE M ho
 refine pw_and ha hb whole pins s σ H Q I ⟨env',cm',m',hE',M',ho'.mono λc cm1 m1 H1 _ _ ⟨cm2,m2,x2,M2,o2⟩=>?_⟩
 cases c with
 |true=>exact iteT ⟨env,cm2,m2,hE.ext x2 M M2,M2,o2⟩
 |false=>exact iteF (OkR.now (show OkR X.K (.ok false m2) xr cm2 m2 H1 _ from o2) M2)
theorem pw_orW{a b:Expr}{rest:List Expr}{pos:Pos}{ea eb:E}(ha:PT X a (tT X.K call gv xr ea))(hb:PW X (.BoolOp .Or (b::rest) pos) (tT X.K call gv xr eb)):PW X (.BoolOp .Or (a::b::rest) pos) (tT X.K call gv xr (.or ea eb)):=by
 rintro whole pins s σ H Q I ⟨env,cm,m,hE,M,ho⟩
 unfold ev at ho
 obtain⟨env',cm',m',hE',M',ho'⟩:=ZcN hE M ho
 refine pw_or ha hb whole pins s σ H Q I ⟨env',cm',m',hE',M',ho'.mono λc cm1 m1 H1 _ _ ⟨cm2,m2,x2,M2,o2⟩=>?_⟩
 cases c with
 |true=>exact iteT (OkR.now (show OkR X.K (.ok true m2) xr cm2 m2 H1 _ from o2) M2)
 |false=>exact iteF ⟨env,cm2,m2,hE.ext x2 M M2,M2,o2⟩
theorem Zfv{a:Expr}{pos:Pos}{ea:E}(ha:PT X a (tT X.K call gv xr ea)):PT X (.UnaryOp .Not a pos) (tT X.K call gv xr (.not ea)):=by
 refine PT.mono (pt_not ha) ?_
 rintro σ H Q ⟨env,cm,m,hE,M,ho⟩
 unfold ev at ho
 obtain⟨env',cm',m',hE',M',ho'⟩:=ZcN hE M ho
 exact⟨env',cm',m',hE',M',ho'.mono λc cm1 m1 H1 _ _ ⟨cm2,m2,x2,M2,o2⟩=>OkR.now (show OkR X.K (.ok (!c) m2) xr cm2 m2 H1 _ from o2) M2⟩
end
end Mi
namespace Mi
open PySem PySem.Spec PyProof.Rows L2
open Builtin
theorem XN:fillsNumberSlot (.type "tuple") "mul" = pure false:=
 PySem.fillsNumberSlot_seq (id:="tuple.__mul__") (r:=some (.builtin "tuple.__rmul__")) F.slot_tuple_mul.lookup (by decide +kernel) F.slot_tuple_rmul.lookup (by decide +kernel)
theorem Zb7:seqRepeat? (.type "tuple")=pure (some (.builtin "tuple.__mul__")):=by
 unfold seqRepeat?
 rw[PySem.seqSlot_of (T:="tuple") (name:="__mul__") (id:="tuple.__mul__") F.slot_tuple_mul.lookup (by decide +kernel),PySem.seqSlot_of (T:="tuple") (name:="__rmul__") (id:="tuple.__rmul__") F.slot_tuple_rmul.lookup (by decide +kernel)]
 rfl
theorem Zec(a:Int)(t:Tok)(l:Addr)(items:Array Value)(n:Nat)(dd:Option Addr)(sl:Array (Option Value)):
  Meets (Builtin.«int.__rmul__» ⟨[.int a t,.ref l],[]⟩) (λ_ R s=>s.heap.get? l=some { cls:=.type "tuple",dict:=dd,data:=.seq items n,slots:=sl }/\R (.ok (.ret Value.notImplemented)) s):=
 .of_wp λprog w A R s h=>by obtain⟨hp,g,d,tk,os⟩:=s;obtain⟨hl,h⟩:=h;wp_walk;exact⟨_,rfl,h⟩
theorem tmul0(l:Addr)(items:Array Value)(n:Nat)(dd:Option Addr)(sl:Array (Option Value))(k:Int)(u:Tok)(h1:(decide (k < -(2^63)) || decide (k ≥ 2^63))=false)(hc:(items.isEmpty || k==1)=true):
  Meets (Builtin.«tuple.__mul__» ⟨[.ref l,.int k u],[]⟩) (λ_ R s=>s.heap.get? l=some { cls:=.type "tuple",dict:=dd,data:=.seq items n,slots:=sl }/\R (.ok (.ret (Value.ref l))) s):=
 .of_wp λprog w A R s h=>by obtain⟨hp,g,d,tk,os⟩:=s;obtain⟨hl,h⟩:=h;have f1:=AutoSeq1.idx_int;have f2:=AutoSeq1.sub_tuple_tuple;wp_walk;refine wpAny_ite_false (decide_eq_false (Bool.eq_false_iff.mp h1)) ?_;wp_walk using wpAny_loadPart' hl;exact⟨_,rfl,h⟩
theorem tmul1(l:Addr)(items:Array Value)(n:Nat)(dd:Option Addr)(sl:Array (Option Value))(k:Int)(u:Tok)(h1:(decide (k < -(2^63)) || decide (k ≥ 2^63))=false)(hc:¬(items.isEmpty || k==1)=true)(hc1:(decide (k<=0) || items.isEmpty)=true):
  Meets (Builtin.«tuple.__mul__» ⟨[.ref l,.int k u],[]⟩) (λ_ R s=>s.heap.get? l=some { cls:=.type "tuple",dict:=dd,data:=.seq items n,slots:=sl }/\R (.ok (.ret (Value.ref s.heap.objs.size))) { s with heap:=s.heap.push { cls:=Value.type "tuple",data:=Data.seq #[] },toks:=s.toks }):=
 .of_wp λprog w A R s h=>by obtain⟨hp,g,d,tk,os⟩:=s;obtain⟨hl,h⟩:=h;have f1:=AutoSeq1.idx_int;have f2:=AutoSeq1.sub_tuple_tuple;wp_walk;refine wpAny_ite_false (decide_eq_false (Bool.eq_false_iff.mp h1)) ?_;wp_walk using wpAny_loadPart' hl;exact⟨_,rfl,h⟩
theorem tmul2(l:Addr)(items:Array Value)(n:Nat)(dd:Option Addr)(sl:Array (Option Value))(k:Int)(u:Tok)(h1:(decide (k < -(2^63)) || decide (k ≥ 2^63))=false)(hc:¬(items.isEmpty || k==1)=true)(hc1:¬(decide (k<=0) || items.isEmpty)=true)(hc2:¬(items.size:Int)*k>(2^63-1) / 8)(hc3:¬Tuple.tupleTooMany ((items.size:Int)*k)=true)(hz:(List.foldl (λx1 x2=>x1++x2) #[] (List.replicate k.toNat items)).size<=sizeLine):
  Meets (Builtin.«tuple.__mul__» ⟨[.ref l,.int k u],[]⟩) (λ_ R s=>s.heap.get? l=some { cls:=.type "tuple",dict:=dd,data:=.seq items n,slots:=sl }/\R (.ok (.ret (Value.ref s.heap.objs.size))) { s with heap:=s.heap.push { cls:=Value.type "tuple",data:=Data.seq (List.foldl (λx1 x2=>x1++x2) #[] (List.replicate k.toNat items)) },toks:=s.toks }):=
 .of_wp λprog w A R s h=>by obtain⟨hp,g,d,tk,os⟩:=s;obtain⟨hl,h⟩:=h;have f1:=AutoSeq1.idx_int;have f2:=AutoSeq1.sub_tuple_tuple;wp_walk;refine wpAny_ite_false (decide_eq_false (Bool.eq_false_iff.mp h1)) ?_;wp_walk using wpAny_loadPart' hl;refine wpAny_ite_false (decide_eq_false hc2) ?_;wp_walk using wpAny_loadPart' hl;exact⟨_,rfl,h⟩
section
variable{X:Cx}
theorem Zd4{n:Nat}(h:n<=sizeLine):¬Tuple.tupleTooMany (n:Int)=true:=by
 unfold Tuple.tupleTooMany
 intro hc
 have:=of_decide_eq_true hc
 have e:=sizeLine_eq
 omega
theorem Zju:OpR X (binaryOp .Mult) (λx y H Q=>∃l k xs,x=.ref l/\y=.int k/\SqT X.K H l xs/\(-(2^63)<=k/\k<2^63)/\xs.length*k.toNat<=sizeLine/\((xs=[]∨k=1)->Q (.ref l) H) /\
  (¬(xs=[]∨k=1)->∀p,H p=none->Q (.ref p) (upd H p (.tup (List.replicate k.toNat xs).flatten)))):=by
 intro pins s σ H x y v u Q I rx ry h
 obtain⟨l,k,xs,rfl,rfl,hH,⟨h1,h2⟩,hz,q1,q2⟩:=h
 cases rx
 obtain⟨t,rfl⟩:=ry
 obtain⟨its,r,⟨⟨cls,dd,data,sl⟩,ho,hc,n,hd⟩,hz2⟩:=I.tuple hH
 simp only at hc hd
 subst hc hd
 have hl:=r.length
 have g1:(decide (k < -(2^63)) || decide (k ≥ 2^63))=false:=by
  rw[decide_eq_false (by omega),decide_eq_false (by omega)];rfl
 have road:∀{Q':Value->Shared->Prop},wpAny (model X.prog X.w) X.A (call (.builtin "tuple.__mul__") [.ref l,.int k t]) Q' X.xe s->wpAny (model X.prog X.w) X.A (binaryOp .Mult (.ref l) (.int k t)) Q' X.xe s:=λhq =>
  wpAny_binaryOp_repeat_ref (T:="tuple") (U:="int") (by decide) ⟨_,ho,rfl⟩ (λs'=>typeIs_int s' k t) XN F.fills_int_mul F.slot_int_rmul Zb7 F.slot_int_index.lookup
   (call_meets F.slot_int_rmul (typeIs_int s k t) F.entry_int_rmul (F.args_int_rmul_2 _ _) (Zec k t l its.toArray n dd sl) ⟨ho,rfl,⟨_,ho,rfl⟩,hq⟩)
 refine road ?_
 by_cases hc:xs=[]∨k=1
 ·have g2:(its.toArray.isEmpty || k==1)=true:=by
   rcases hc with rfl|rfl
   ·cases r;rfl
   ·simp
  exact call_meets F.slot_tuple_mul ⟨_,ho,rfl⟩ F.entry_tuple_mul (F.args_tuple_mul_2 _ _) (tmul0 l its.toArray n dd sl k t g1 g2) ⟨ho,.ref l,H,I,rfl,q1 hc⟩
 ·have hne:its≠[]:=λe=>hc (.inl (r.nil_iff.mp e))
  have g2:¬(its.toArray.isEmpty || k==1)=true:=by
   intro hh
   rw[Bool.or_eq_true]at hh
   rcases hh with hh|hh
   ·exact hne (by simpa using hh)
   ·exact hc (.inr (eq_of_beq hh))
  have fin:∀arr:Array Value,arr=(List.replicate k.toNat its).flatten.toArray->EP X pins σ Q (.ref s.heap.objs.size) { s with heap:=s.heap.push { cls:=.type "tuple",data:=.seq arr } }:=λarr e=>by
   subst e
   refine⟨.ref s.heap.objs.size,_,I.laid (t':=s.toks) (o:=.tup (List.replicate k.toNat xs).flatten) (λb ob q=>Heap.get?_push_of_some _ q) (Nat.le_refl _) ?_,rfl,q2 hc _ (I.hok.fresh (Nat.le_refl _))⟩
   exact⟨by rw[len_rep,Nat.mul_comm];exact hz,_,r.rep k.toNat,TupP.new _ _⟩
  by_cases h0:k<=0
  ·have g3:(decide (k<=0) || its.toArray.isEmpty)=true:=by rw[decide_eq_true h0];rfl
   refine call_meets F.slot_tuple_mul ⟨_,ho,rfl⟩ F.entry_tuple_mul (F.args_tuple_mul_2 _ _) (tmul1 l its.toArray n dd sl k t g1 g2 g3) ⟨ho,fin #[] ?_⟩
   have:k.toNat=0:=by omega
   rw[this];rfl
  ·have g3:¬(decide (k<=0) || its.toArray.isEmpty)=true:=by
    intro hh
    rw[Bool.or_eq_true]at hh
    rcases hh with hh|hh
    ·exact h0 (of_decide_eq_true hh)
    ·exact hne (by simpa using hh)
   have hk:(k.toNat:Int)=k:=by omega
   have hs:(its.toArray.size:Int)*k=((xs.length*k.toNat:Nat):Int):=by
    rw[List.size_toArray,<-hl,Int.natCast_mul,hk]
   have hsl:(sizeLine:Nat)=16777216:=sizeLine_eq
   have hf:List.foldl (λx1 x2=>x1++x2) #[] (List.replicate k.toNat its.toArray)=(List.replicate k.toNat its).flatten.toArray:=by
    have:=foldl_rep its k.toNat []
    rw[List.nil_append]at this
    exact this
   refine call_meets F.slot_tuple_mul ⟨_,ho,rfl⟩ F.entry_tuple_mul (F.args_tuple_mul_2 _ _) (tmul2 l its.toArray n dd sl k t g1 g2 g3 (by rw[hs];omega) (by rw[hs];exact Zd4 hz) ?_) ⟨ho,fin _ hf⟩
   rw[hf,List.size_toArray,len_rep,<-hl,Nat.mul_comm]
   exact hz
end
end Mi
namespace Mi
open PySem PySem.Spec PyProof.Rows L2
section
variable{K:Frag}{cm:List Addr}{m:Mem}{H:Hp}{xr:XR}{X:Cx}{call:Nat->List W->Mem->Res W}{gv:List T}
theorem Zi8{i:Nat}{x:Str}{pos:Pos}(hN:X.N[i]?=some x)(hv:Vis X.env.scope x)(hd:(x==("__debug__" : Str))=false)(hcd:(x==("__classdict__" : Str))=false):PE X (.Name x pos) (tE X.K call gv xr (.var i)):=by
 refine PE.mono (pe_var hN hv hd hcd) ?_
 rintro σ H Q ⟨env,cm,m,hE,M,ho⟩
 unfold ev at ho
 split at ho
 ·rename_i w e
  obtain⟨v,h1,h2⟩:=hE i w e
  exact⟨v,h1,OkR.now ho M v h2⟩
 ·exact ho.elim
noncomputable def ZgN(K:Frag)(mg:Str->Option Value)(x:Str)(t:T):Prop:=∃u v,mg x=some u/\RelV v u/\∀cm m H,RT K cm m H t v
theorem pe_glW{k:Nat}{x:Str}{t:T}{pos:Pos}(hg:Gl X x)(hk:gv[k]?=some t)(ok:ZgN X.K X.mg x t)(hd:(x==("__debug__" : Str))=false):PE X (.Name x pos) (tE X.K call gv xr (.gl k)):=by
 obtain⟨u,v,h1,h2,h3⟩:=ok
 refine PE.mono (Zjk hg h1 h2 hd) ?_
 rintro σ H Q ⟨env,cm,m,hE,M,ho⟩
 unfold ev at ho
 rw[hk]at ho
 exact OkR.now (a:=W.t t) ho M v (h3 cm m H)
theorem Zjj{i:Int}{j pos}:PE X (.Constant (.int i) j pos) (tE X.K call gv xr (.con (.int i))):=PE.mono pe_int λσ H Q ⟨env,cm,m,hE,M,ho⟩=>by
 unfold ev at ho
 exact OkR.now ho M _ (.int i)
theorem pe_blW{b:Bool}{j pos}:PE X (.Constant (.bool b) j pos) (tE X.K call gv xr (.con (.bl b))):=PE.mono pe_bl λσ H Q ⟨env,cm,m,hE,M,ho⟩=>by
 unfold ev at ho
 exact OkR.now ho M _ (.bl b)
theorem Zjd{j pos}:PE X (.Constant .none j pos) (tE X.K call gv xr (.con .non)):=PE.mono pe_non λσ H Q ⟨env,cm,m,hE,M,ho⟩=>by
 unfold ev at ho
 exact OkR.now ho M _ .non
theorem Zic{x:Str}{cs:List Nat}(h:x.cps.toList=cs):x=⟨cs.toArray⟩:=by
 subst h
 cases x
 simp
theorem Zja{x:Str}{cs:List Nat}{j pos}(h:x.cps.toList=cs):PE X (.Constant (.str x) j pos) (tE X.K call gv xr (.con (.str cs))):=PE.mono pe_str λσ H Q ⟨env,cm,m,hE,M,ho⟩=>by
 unfold ev at ho
 have:=OkR.now ho M _ (.str cs)
 rw[Zic h]
 exact this
theorem ZdU(cs:List Nat):∀(n:Nat) (acc:Array Nat),(List.replicate n cs.toArray).foldl (·++·) acc=acc++(List.replicate n cs).flatten.toArray
 |0,acc=>by simp
 |n+1,acc=>by
  rw[List.replicate_succ,List.foldl_cons,ZdU cs n,List.replicate_succ,List.flatten_cons]
  apply Array.toList_inj.mp
  simp
theorem ZhA{cs:List Nat}{k:Int}(h:0<=k):Txt.mul ⟨cs.toArray⟩ k=⟨(repT cs k.toNat).toArray⟩:=by
 unfold Txt.mul repT
 by_cases h1:k<1
 ·have:k=0:=by omega
  subst this
  rw[if_pos h1]
  rfl
 ·rw[if_neg h1]
  by_cases h2:(k==1 || (⟨cs.toArray⟩:Str).length==0)=true
  ·rw[if_pos h2]
   rcases Bool.or_eq_true _ _▸h2 with h3|h3
   ·have:k=1:=eq_of_beq h3
    subst this
    simp
   ·have hl:cs.toArray.size=0:=eq_of_beq h3
    have:cs=[]:=by simpa using hl
    subst this
    simp
  ·rw[if_neg h2,ZdU]
   simp
theorem mul_fits{cs:List Nat}{k:Int}(h:0<=k/\k<=64)(hl:cs.length<=1000):MulOk ⟨cs.toArray⟩ k:=by
 have e:(⟨cs.toArray⟩:Str).length=cs.length:=by show cs.toArray.size=_;simp
 have hk:k.toNat<=64:=by omega
 have hm:cs.length*k.toNat<=1000*64:=Nat.mul_le_mul hl hk
 refine⟨?_,λh1 _=>?_,λh1 _=>?_⟩
 ·have a:¬k < -(2^63:Int):=by omega
  have b:¬k ≥ (2^63:Int):=by omega
  simp only[a,b,decide_false,Bool.or_self]
 ·rw[e]
  have:(1000:Int)<=(2^63-1) / k:=(Int.le_ediv_iff_mul_le (by omega)).mpr (by omega)
  omega
 ·rw[e]
  unfold Builtin.Str.tooLong
  have:=Zz
  unfold lim at this
  exact decide_eq_false (by omega)
theorem Zes:OpR X (binaryOp .Mult) (r2 X.K xr (fBin .Mult)):=by
 rintro pins s σ H x y v u Q I rx ry ⟨cm,m,a,b,M,ra,rb,ho⟩
 obtain⟨t,e,ho⟩:=QK ho
 obtain⟨ta,tb,ea,eb,e⟩:=ZaW e
 change mulT ta tb=some t at e
 unfold mulT at e
 split at e
 rotate_left
 ·cases e
 rename_i k
 split at e
 ·split at e<;>cases e
  cases(Zd ra ea (λ_ z=>by cases z)).vint
  cases(Zd rb eb (λ_ z=>by cases z)).vint
  exact Zjx pins s σ H _ _ v u Q I rx ry ⟨_,_,rfl,rfl,‹_›,ans ho M (.int _)⟩
 ·split at e<;>cases e
  rename_i ts hc
  obtain⟨p,vs,rfl,h1,r1⟩:=(Zd ra ea (λ_ z=>by cases z)).itup
  cases(Zd rb eb (λ_ z=>by cases z)).vint
  have l1:=r1.length
  have hz:=Zz
  have hl:(lim:Int)<2^63:=by unfold lim;decide
  refine Zju pins s σ H _ _ v u Q I rx ry ⟨p,_,vs,rfl,rfl,h1,by omega,by rw[<-l1];omega,λhq=>?_,λ_ l hl=>Zbj ho M (Xf r1 _) hl⟩
  have e:repT ts k.toNat=ts:=by
   rcases hq with rfl|rfl
   ·cases r1;simp[repT]
   ·simp[repT]
  rw[e]at ho
  exact ans ho M (.mtup h1 r1)
 ·split at e<;>cases e
  rename_i hc
  obtain⟨p,vs,rfl,h1,r1⟩:=Zw M ra ea
  cases(Zd rb eb (λ_ z=>by cases z)).vint
  have l1:=r1.length
  have hz:=Zz
  have hl:(lim:Int)<2^63:=by unfold lim;decide
  exact op_rep pins s σ H _ _ v u Q I rx ry ⟨p,_,vs,rfl,rfl,h1,by omega,by omega,by rw[<-l1];omega,λl hl=>XM ho M (Xf r1 _) hl⟩
 ·split at e<;>cases e
  rename_i cs hc
  cases(Zd ra ea (λ_ z=>by cases z)).vstr
  cases(Zd rb eb (λ_ z=>by cases z)).vint
  obtain⟨tx,rfl⟩:=rx
  obtain⟨ty,rfl⟩:=ry
  refine SB.mul (mul_fits hc.1 hc.2) λt' k'=>⟨.str ⟨(repT cs k.toNat).toArray⟩,H,I.tok _,⟨t',?_⟩,ans ho M (.str _)⟩
  rw[ZhA hc.1.1]
 all_goals cases e
theorem op_no{op:Operator}(h:∀x y,binT op x y=none):OpR X (binaryOp op) (r2 X.K xr (fBin op)):=by
 rintro pins s σ H x y v u Q I rx ry ⟨cm,m,a,b,M,ra,rb,ho⟩
 obtain⟨t,e,ho⟩:=QK ho
 obtain⟨ta,tb,ea,eb,e⟩:=ZaW e
 rw[h]at e
 cases e
theorem op_bin(op:Operator):OpR X (binaryOp op) (r2 X.K xr (fBin op)):=by
 cases op<;>first|exact Zeu|exact Zeq|exact Zes|exact Zc0|exact Zet|exact Zer|exact op_no λx y=>by cases x<;>cases y<;>rfl
variable{a b c:Expr}{ea eb ec:E}{pos:Pos}
theorem Zjr{op:Operator}(ha:PE X a (tE X.K call gv xr ea))(hb:PE X b (tE X.K call gv xr eb)):PE X (.BinOp a op b pos) (tE X.K call gv xr (.bin op ea eb)):=
 PE.mono (pe_op (op_bin op) ha hb) (Zd6 λenv m=>by rw[ev];rfl)
noncomputable def fNeg(x:W)(m:Mem):Res W:=pur ((view x m).bind λx=>match x with
 |.int i=>some (.int (-i))
 |_=>none) m
theorem ZiK:UnR X (unaryOp .USub) (r1 X.K xr fNeg):=by
 rintro pins s σ H x v Q I rx ⟨cm,m,a,M,ra,ho⟩
 obtain⟨t,e,ho⟩:=QK ho
 cases q:view a m with
 |none=>rw[q]at e;cases e
 |some ta =>
  rw[q]at e
  cases ta with
  |int i =>
   cases e
   cases(Zd ra q (λ_ z=>by cases z)).vint
   exact un_neg pins s σ H _ v Q I rx ⟨_,rfl,ans ho M (.int _)⟩
  |_=>cases e
theorem Zje(ha:PE X a (tE X.K call gv xr ea)):PE X (.UnaryOp .USub a pos) (tE X.K call gv xr (.neg ea)):=
 PE.mono (pe_un ZiK ha) (t1_of λenv m=>by rw[ev];rfl)
theorem Zjl{op:CmpOp}(ha:PE X a (tE X.K call gv xr ea))(hb:PE X b (tE X.K call gv xr eb))(hm:behindInMarks op b=false)(hu:X.A.units+64<cLine):PE X (.Compare a [op] [b] pos) (tE X.K call gv xr (.cmp op ea eb)):=
 PE.mono (Zjm (Zil hu op) ha hb hm) (Zd6 λenv m=>by rw[ev];rfl)
theorem ZjZ{op:CmpOp}{x y w:W}{m m':Mem}(h:fCmp op x y m=.ok w m'):∃k,w=.t (.bl k)/\m'=m:=by
 unfold fCmp at h
 cases q:((view x m).bind λx=>(view y m).bind λy=>cmpT op x y)with
 |none=>rw[q]at h;cases h
 |some k=>rw[q]at h;cases h;exact⟨k,rfl,rfl⟩
theorem Zi1{f:Env->Mem->Res W}{e:Expr}{te:TE}{a:E}(h:PT X e (tTest te))(hk:∀env m w m',ev call gv a env m=.ok w m'->∃k,w=.t (.bl k))(he:∀σ H Q,tE X.K call gv xr a σ H Q->te σ H Q):PT X e (tT X.K call gv xr a):=by
 refine PT.mono h λσ H Q ⟨env,cm,m,hE,M,ho⟩=>he σ H _ ⟨env,cm,m,hE,M,?_⟩
 cases q:ev call gv a env m with
 |stuck=>rw[q]at ho;exact ho.elim
 |exc e m'=>rw[q]at ho;exact ho
 |ok w m' =>
  obtain⟨k,rfl⟩:=hk env m w m' q
  rw[q]at ho
  intro cm1 H1 x1 M1 v rv
  cases RT.vbl rv
  exact⟨k,rfl,(show OkR X.K (.ok k m') xr cm m H _ from ho) cm1 H1 x1 M1⟩
theorem ZiZ{op:CmpOp}(ha:PE X a (tE X.K call gv xr ea))(hb:PE X b (tE X.K call gv xr eb))(hm:behindInMarks op b=false)(hu:X.A.units+64<cLine):PT X (.Compare a [op] [b] pos) (tT X.K call gv xr (.cmp op ea eb)):=by
 refine Zi1 (f:=λ_ _=>.stuck) (Zi0 (Zil hu op) ha hb hm) (λenv m w m' h=>?_) (Zd6 λenv m=>by rw[ev];rfl)
 rw[ev]at h
 obtain⟨x,m1,_,h⟩:=Zk h
 obtain⟨y,m2,_,h⟩:=Zk h
 obtain⟨k,hk,_⟩:=ZjZ h
 exact⟨k,hk⟩
theorem pe_ixW(ha:PE X a (tE X.K call gv xr ea))(hb:PE X b (tE X.K call gv xr eb))(hs:ZgL b):PE X (.Subscript a b pos) (tE X.K call gv xr (.ix ea eb)):=
 PE.mono (pe_ix ix_ix ha hb hs) (Zd6 λenv m=>by rw[ev];rfl)
end
section
variable{K:Frag}{cm:List Addr}{m:Mem}{H:Hp}{xr:XR}{X:Cx}{call:Nat->List W->Mem->Res W}{gv:List T}
variable{a b c e:Expr}{es:List Expr}{ea eb ec:E}{eas:Es}{pos p:Pos}
noncomputable def notStar:Expr->Bool
 |.Starred _ _=>false
 |_=>true
theorem Qn{env:PySem.Env}(h:notStar e=true):starEach (e::es) env=(false,eval e env)::starEach es env:=by
 cases e<;>first|rfl|cases h
theorem Zfb{env:PySem.Env}:∀{es:List Expr},es.all notStar=true->(backTo pos (starEach es env)).all (λx=>!x.1)=true
 |[],_=>rfl
 |e::es,h=>by
  rw[List.all_cons,Bool.and_eq_true]at h
  rw[Qn h.1]
  show(!false&&(backTo pos (starEach es env)).all (λx=>!x.1))=true
  rw[Zfb h.2]
  rfl
theorem JK{env:PySem.Env}{es:List Expr}(h:es.all notStar=true):(backTo pos (starEach es env)).any (·.1)=false:=by
 have h1:=Zfb (pos:=pos) (env:=env) h
 rw[List.any_eq_false]
 intro x hx
 have:=List.all_eq_true.mp h1 x hx
 simpa using this
theorem Zjt:PA X [] (tA X.K call gv xr .nil):=PA.mono Zik λσ H Q ⟨env,cm,m,hE,M,ho⟩=>by
 rw[evs]at ho
 exact OkR.now ho M [] .nil
theorem Zhw(ha:PE X e (tE X.K call gv xr ea))(hr:PA X es (tA X.K call gv xr eas))(hs:notStar e=true):PA X (e::es) (tA X.K call gv xr (.cons ea eas)):=by
 refine PA.mono (ZcZ ha hr (Qn hs)) ?_
 rintro σ H Q ⟨env,cm,m,hE,M,ho⟩
 rw[evs]at ho
 refine⟨env,cm,m,hE,M,ho.bind.mono λw cm1 m1 H1 x1 M1 o1 v rv=>?_⟩
 exact⟨env,cm1,m1,hE.ext x1 M M1,M1,o1.bind.mono λws cm2 m2 H2 x2 M2 o2 vs rvs=>OkR.now o2 M2 (v::vs) (.cons (rv.ext x2 M1 M2) rvs)⟩
theorem Zcr{w:W}{m m':Mem}{x:Exc}:frz w m≠.exc x m':=by
 intro h
 unfold frz at h
 split at h
 ·cases h
 ·cases h
 ·cases h
 ·split at h<;>cases h
theorem Zbe:∀{ws:List W}{m m':Mem}{x:Exc},frzs ws m≠.exc x m'
 |[],_,_,_=>λh=>by cases h
 |w::ws,m,m',x=>λh=>by
  rw[frzs]at h
  cases q:frz w m with
  |stuck=>rw[q]at h;cases h
  |exc y m1=>exact Zcr q
  |ok t m1 =>
   rw[q]at h
   have h':((frzs ws m1).bind λts m=>Res.ok (t::ts) m)=.exc x m':=h
   cases q2:frzs ws m1 with
   |stuck=>rw[q2]at h';cases h'
   |exc y m2=>exact Zbe q2
   |ok ts m2=>rw[q2]at h';cases h'
theorem JB:∀{ws:List W}{vs:List V}{ts:List T}{m m':Mem},MemR K cm m H->RWs K cm m H ws vs->frzs ws m=.ok ts m'->Ext cm m H cm m' H/\MemR K cm m' H/\RTs K cm m' H ts vs
 |[],_,_,_,_,M,.nil,e=>by cases e;exact⟨.refl,M,.nil⟩
 |w::ws,v::vs,ts,m,m',M,.cons r rs,e=>by
  rw[frzs]at e
  obtain⟨t,m1,e1,e⟩:=Zk e
  obtain⟨us,m2,e2,e⟩:=Zk e
  cases e
  obtain⟨x1,M1,r1⟩:=ZdT M r e1
  obtain⟨x2,M2,r2⟩:=JB M1 (RWs.ext x1 M M1 rs) e2
  exact⟨x1.trans x2,M2,.cons (RT.ext x2 M1 M2 r1) r2⟩
theorem Jr{α:Type}{ws:List W}{f:List T->Mem->Res α}{k:α->List Addr->Mem->Hp->Prop}(h:OkR K ((frzs ws m).bind f) xr cm m H k):∃ts m',frzs ws m=.ok ts m'/\OkR K (f ts m') xr cm m H k:=by
 cases q:frzs ws m with
 |stuck=>rw[q]at h;exact h.elim
 |exc x m'=>exact absurd q Zbe
 |ok ts m'=>rw[q]at h;exact⟨ts,m',rfl,h⟩
theorem Zbd{α:Type}{c:Prop}[Decidable c]{r:Res α}{k:α->List Addr->Mem->Hp->Prop}(h:OkR K (if c then r else .stuck) xr cm m H k):c/\OkR K r xr cm m H k:=by
 by_cases hc:c
 ·rw[if_pos hc]at h;exact⟨hc,h⟩
 ·rw[if_neg hc]at h;exact h.elim
theorem Zi9{x1}(h:PA X es (tA X.K call gv xr eas)):PE X (.Tuple es x1 pos) (tE X.K call gv xr (.tup eas)):=by
 refine PE.mono (pe_tup h) ?_
 rintro σ H Q ⟨env,cm,m,hE,M,ho⟩
 rw[ev]at ho
 refine⟨env,cm,m,hE,M,ho.bind.mono λws cm1 m1 H1 x1 M1 o1 vs rvs=>?_⟩
 obtain⟨ts,m2,e2,o2⟩:=Jr o1
 obtain⟨hl,o3⟩:=Zbd o2
 obtain⟨x2,M2,r2⟩:=JB M1 rvs e2
 have l2:=r2.length
 have hz:=Zz
 exact⟨by omega,λp hp=>Zbj (OkR.shift o3 x2) M2 r2 hp⟩
theorem Zjf(h:PA X es (tA X.K call gv xr eas)):PE X (.List es pos) (tE X.K call gv xr (.lst eas)):=by
 refine PE.mono (pe_lst h) ?_
 rintro σ H Q ⟨env,cm,m,hE,M,ho⟩
 rw[ev]at ho
 refine⟨env,cm,m,hE,M,ho.bind.mono λws cm1 m1 H1 x1 M1 o1 vs rvs=>?_⟩
 obtain⟨ts,m2,e2,o2⟩:=Jr o1
 obtain⟨hl,o3⟩:=Zbd o2
 obtain⟨x2,M2,r2⟩:=JB M1 rvs e2
 have l2:=r2.length
 have hz:=Zz
 exact⟨by omega,λp hp=>XM (OkR.shift o3 x2) M2 r2 hp⟩
noncomputable def tLstN(K:Frag)(t:TA):TE:=λσ H Q=>t σ H λxs H1=>xs.length<=sizeLine/\∀p,H1 p=none->K.lookup p=none->Q (.ref p) (upd H1 p (.lst xs))
theorem Inv.notK{pins:List (Addr×Obj)}{σ:L2.St}{H:Hp}{s:Shared}(I:Inv X pins σ H s):X.K.lookup s.heap.objs.size=none:=by
 cases q:X.K.lookup s.heap.objs.size with
 |none=>rfl
 |some o=>exact absurd (Heap.lt_size (I.kIn _ _ q)) (Nat.lt_irrefl _)
theorem Zjg{t:TA}(h:PA X es t):PE X (.List es pos) (tLstN X.K t):=by
 intro pins s σ H Q I hq
 refine wpAny_List_spliced (thn (h pos pins s σ H _ I hq) λus s1 ⟨xs,H1,I1,r,z,q⟩=>⟨by rw[<-r.length];exact z,?_⟩)
 have hf:H1 s1.heap.objs.size=none:=I1.hok.fresh (Nat.le_refl _)
 refine⟨.ref s1.heap.objs.size,upd H1 s1.heap.objs.size (.lst xs),I1.laid (t':=s1.toks) (λb u e=>Heap.get?_push_of_some _ e) (Nat.le_refl _) ?_,rfl,q _ hf (Mi.Inv.notK I1)⟩
 exact⟨z,us,0,r,Heap.get?_push_size _ rfl⟩
theorem Zjn(h:PA X es (tA X.K call gv xr eas)):PE X (.List es pos) (tE X.K call gv xr (.cel eas)):=by
 refine PE.mono (Zjg h) ?_
 rintro σ H Q ⟨env,cm,m,hE,M,ho⟩
 rw[ev]at ho
 refine⟨env,cm,m,hE,M,ho.bind.mono λws cm1 m1 H1 x1 M1 o1 vs rvs=>?_⟩
 obtain⟨ts,m2,e2,o2⟩:=Jr o1
 obtain⟨hl,o3⟩:=Zbd o2
 obtain⟨x2,M2,r2⟩:=JB M1 rvs e2
 have l2:=r2.length
 have hz:=Zz
 refine⟨by omega,λp hp hk=>?_⟩
 obtain⟨x3,M3,r3⟩:=J6 M2 r2 hp hk
 exact OkR.to o3 (x2.trans x3) M3 _ r3
theorem XC{α:Type}(xs:List α)(lo hi:Option Int):cut xs lo hi=(xs.drop (HT.sIx xs.length 0 lo)).take (HT.sIx xs.length xs.length hi-HT.sIx xs.length 0 lo):=by
 have e:∀n d o,ZeF n d o=HT.sIx n d o:=λn d o=>by cases o<;>rfl
 unfold cut
 rw[e,e]
theorem Xg{α β:Type}{F:α->β->Prop}{xs:List α}{ys:List β}(h:Paired F xs ys)(lo hi:Option Int):Paired F (cut xs lo hi) (cut ys lo hi):=by
 rw[XC,XC,<-h.length]
 exact Zam _ (Zao _ h)
theorem Zdj(xs:List V)(lo hi:Option Int):cutV xs lo hi=cut xs lo hi:=(XC xs lo hi).symm
theorem Zg4(x y:Nat):sliceRange (x:Int) (y:Int) 1=(List.range (y-x)).map λk=>x+k:=by
 unfold sliceRange
 simp only[show((1:Int)>0)=True from by simp,if_true]
 by_cases h:(x:Int)<y
 ·have e3:(((y:Int)-x+1-1) / 1).toNat=y-x:=by first|omega|(simp;done)|(simp;omega)
  rw[if_pos h,e3]
  refine List.map_congr_left λk _=>?_
  omega
 ·have e3:y-x=0:=by omega
  rw[if_neg h,e3]
  rfl
theorem Zab(n d:Nat)(v:Int):max 0 (min (if v<0 then v+n else v) (n:Int))=((HT.sIx n d (some v):Nat):Int):=by
 show max 0 (min (if v<0 then v+n else v) (n:Int))=(((if v<0 then(v+(n:Int)).toNat else min v.toNat n):Nat):Int)
 split<;>omega
theorem ZeE(lo hi:Option Int)(n:Nat):(Builtin.Str.strSliceIndices lo hi 1 n)=(List.range (HT.sIx n n hi-HT.sIx n 0 lo)).map λk=>HT.sIx n 0 lo+k:=by
 rw[<-Zg4]
 unfold Builtin.Str.strSliceIndices
 cases lo with
 |none =>
  cases hi with
  |none=>rfl
  |some j =>
   rw[<-Zab]
   rfl
 |some i =>
  cases hi with
  |none =>
   rw[<-Zab]
   rfl
  |some j =>
   rw[<-Zab,<-Zab]
   rfl
noncomputable def fSl(w:W)(lo hi:Option Int)(m:Mem):Res W:=pur ((view w m).bind λx=>slT x lo hi) m
noncomputable def rSl(K:Frag)(xr:XR):V->Option Int->Option Int->Hp->VK->Prop:=λx lo hi H Q=>∃cm m w,MemR K cm m H/\RW K cm m H w x/\OkR K (fSl w lo hi m) xr cm m H λw cm' m' H'=>∀v,RW K cm' m' H' w v->Q v H'
theorem Zff{prog:Program}{w:World}{A:Around}{E:Value->Shared->Prop}{s:Shared}{cs:List Nat}{t:Tok}{sl:Addr}{vl vu:Value}{lo hi:Option Int}{Q:Value->Shared->Prop}(hs:s.heap.IsSliceOf sl vl vu .none)(pl:IsPart vl lo)(pu:IsPart vu hi)(hz:cs.length<=lim)(h:∀t' k,Q (.str ⟨(cut cs lo hi).toArray⟩ t') { s with toks:=k }):wpAny (model prog w) A (getItem (.str ⟨cs.toArray⟩ t) (.ref sl)) Q E s:=by
 have hl:=Zz
 obtain⟨l,e1,e2⟩:∃l:Option (Int×Tok),vl=partValue l/\l.map (·.1)=lo:=by
  cases pl with
  |none=>exact⟨none,rfl,rfl⟩
  |int i t=>exact⟨some (i,t),rfl,rfl⟩
 obtain⟨u,f1,f2⟩:∃l:Option (Int×Tok),vu=partValue l/\l.map (·.1)=hi:=by
  cases pu with
  |none=>exact⟨none,rfl,rfl⟩
  |int i t=>exact⟨some (i,t),rfl,rfl⟩
 subst e1 f1
 refine wpAny_getItem_str_slice (l:=l) (u:=u) (st:=none) hs (by rfl) ?_
 have pk:slicePicked ⟨cs.toArray⟩ l u none=(List.range (HT.sIx cs.length cs.length hi-HT.sIx cs.length 0 lo)).map λk=>HT.sIx cs.length 0 lo+k:=by
  unfold slicePicked
  rw[e2,f2,JH]
  exact ZeE lo hi cs.length
 have hn:HT.sIx cs.length cs.length hi<=cs.length:=HT.sIx_le _ _ (Nat.le_refl _) hi
 have fm:((slicePicked ⟨cs.toArray⟩ l u none).filterMap ((⟨cs.toArray⟩:Str).cps[·]?))=cut cs lo hi:=by
  rw[pk,XC]
  by_cases hle:HT.sIx cs.length 0 lo<=HT.sIx cs.length cs.length hi
  ·have:=StrLaws.picks cs (HT.sIx cs.length cs.length hi-HT.sIx cs.length 0 lo) (HT.sIx cs.length 0 lo) (by omega)
   rw[<-this]
   simp
  ·have:HT.sIx cs.length cs.length hi-HT.sIx cs.length 0 lo=0:=by omega
   rw[this]
   simp
 unfold sliceMade
 split
 ·rename_i hw
  rw[Bool.and_eq_true]at hw
  have q:(slicePicked ⟨cs.toArray⟩ l u none).length=cs.length:=by rw[eq_of_beq hw.2,JH]
  rw[pk,List.length_map,List.length_range]at q
  have e:cut cs lo hi=cs:=by
   rw[XC]
   have:HT.sIx cs.length 0 lo=0∨cs.length=0:=by omega
   rcases this with h0|h0
   ·rw[h0]at q ⊢
    rw[List.drop_zero,q]
    exact List.take_length
   ·rw[List.length_eq_zero_iff]at h0
    subst h0
    simp
  have:=h t s.toks
  rw[e]at this
  exact this
 ·rw[fm]
  have hc:(cut cs lo hi).length<=cs.length:=by
   rw[XC,List.length_take,List.length_drop];omega
  exact⟨by show(cut cs lo hi).toArray.size<=_;rw[List.size_toArray];omega,h _ _⟩
theorem ZeW{prog:Program}{w:World}{A:Around}{E:Value->Shared->Prop}{s:Shared}{t sl:Addr}{items:Array Value}{vl vu:Value}{lo hi:Option Int}{Q:Value->Shared->Prop}(ht:IsTup s.heap t items)(hs:s.heap.IsSliceOf sl vl vu .none)(pl:IsPart vl lo)(pu:IsPart vu hi)(hw:HT.sIx items.size 0 lo=0/\HT.sIx items.size items.size hi=items.size)(h:Q (.ref t) s):wpAny (model prog w) A (getItem (.ref t) (.ref sl)) Q E s:=by
 obtain⟨os,hos,hcs,hds⟩:=id hs
 have hTs:s.TypeIs (.ref sl) "slice":=⟨os,hos,hcs⟩
 unfold getItem
 try with_reducible refine wpAny_holding ?_
 first|refine wpAny_bind (wpAny_pure ?_)|skip
 refine wpAny_bind (wpAny_sequenceKey ht.typeIs (by decide) ?_)
 refine wpAny_bind (wpAny_callSpecial?_slot (name:=Str.ofString "__getitem__") ht.typeIs PyProof.Rows.slot_tuple_getitem
  (wpAny_call_entry PyProof.Rows.slot_tuple_getitem ht.typeIs entry_tuple_getitem ?_ (args_tuple_getitem _ _)))
 show wpAny _ _ (Builtin.Tuple.tupleItemsOf (.ref t) >>= _) _ _ s
 refine wpAny_bind (tupleItemsOf_ ht ?_)
 refine wpAny_bind (wpAny_typeOf hTs ?_)
 rw[if_pos (by decide)]
 refine wpAny_bind (HT.sliceApplied_gen hs pl pu ?_)
 show wpAny _ _ (if(((HT.sIx items.size 0 lo:Nat):Int)==0&&(1:Int)==1&&(HT.sIx items.size items.size hi-HT.sIx items.size 0 lo)==items.size)=true then _ else _) _ _ s
 rw[if_pos (by rw[hw.1,hw.2];simp)]
 refine wpAny_bind ?_
 unfold Builtin.Tuple.tupleIsExact
 refine wpAny_bind (wpAny_typeOf ht.typeIs (wpAny_pure ?_))
 rw[if_pos (by decide)]
 exact wpAny_bind (wpAny_rule (wpAny_pure ⟨_,rfl,wpAny_pure h⟩))
theorem ZgX{pins:List (Addr×Obj)}{s:Shared}{σ:L2.St}{H:Hp}{x:V}{v vl vu:Value}{lo hi:Option Int}{sl:Addr}{Q:VK}{a:Addr}{xs:List V}(I:Inv X pins σ H s)(rx:RelV x v)(hs:s.heap.IsSliceOf sl vl vu .none)(pl:IsPart vl lo)(pu:IsPart vu hi)(e:x=.ref a)(hx:SqT X.K H a xs)(hw:HT.sIx xs.length 0 lo=0/\HT.sIx xs.length xs.length hi=xs.length)(q:Q (.ref a) H):∃T id,typeLookup (.type T) "__getitem__" = pure (some (.builtin id))/\s.TypeIs v T/\wpAny (model X.prog X.w) X.A (getItem v (.ref sl)) (EP X pins σ Q) X.xe s:=by
 subst e
 cases rx
 obtain⟨its,r,ht,hz⟩:=I.tuple hx
 have hlen:its.toArray.size=xs.length:=by rw[List.size_toArray];exact r.length.symm
 exact⟨"tuple",_,PyProof.Rows.slot_tuple_getitem.lookup,ht.typeIs,ZeW ht hs pl pu (by rw[hlen];exact hw) ⟨.ref a,H,I,rfl,q⟩⟩
theorem sl_any:SlR X (rSl X.K xr):=by
 rintro pins s σ H x v vl vu lo hi sl Q I rx hs pl pu ⟨cm,m,w,M,rw',ho⟩
 obtain⟨t,e,ho⟩:=QK ho
 cases q:view w m with
 |none=>rw[q]at e;cases e
 |some tw =>
  rw[q]at e
  have e:slT tw lo hi=some t:=e
  cases tw with
  |tup ts =>
   cases e
   obtain⟨a,vs,rfl,h1,r1⟩:=(Zd rw' q (λ_ z=>by cases z)).itup
   have l1:=r1.length
   have e:∀n d o,ZeF n d o=HT.sIx n d o:=λn d o=>by cases o<;>rfl
   by_cases hc:HT.sIx vs.length 0 lo=0/\HT.sIx vs.length vs.length hi=vs.length
   ·refine ZgX I rx hs pl pu rfl h1 hc ?_
    have ec:cut ts lo hi=ts:=by
     unfold cut
     rw[e,e,l1,hc.1,hc.2,List.drop_zero,Nat.sub_zero,<-l1,List.take_length]
    rw[ec]at ho
    exact ans ho M (.mtup h1 r1)
   ·refine sl_tup pins s σ H _ v vl vu lo hi sl Q I rx hs pl pu ⟨a,vs,rfl,h1,hc,λp hp=>?_⟩
    rw[Zdj];exact Zbj ho M (Xg r1 lo hi) hp
  |lst ts =>
   cases e
   obtain⟨a,vs,rfl,h1,r1⟩:=Zw M rw' q
   exact Zfg pins s σ H _ v vl vu lo hi sl Q I rx hs pl pu ⟨a,vs,rfl,.of h1,λp hp=>by rw[Zdj];exact XM ho M (Xg r1 lo hi) hp⟩
  |scr ns =>
   cases e
   obtain⟨a,rfl,h1⟩:=(Zd rw' q (λ_ z=>by cases z)).vscr
   refine Zfg pins s σ H _ v vl vu lo hi sl Q I rx hs pl pu ⟨a,_,rfl,h1.sq,λp hp=>?_⟩
   rw[Zdj]
   refine XM ho M ?_ hp
   have:=Xg (Xe (K:=X.K) (cm:=cm) (m:=m) (H:=H) ns) lo hi
   have e:cut (ns.map T.int) lo hi=(cut ns lo hi).map T.int:=by
    rw[XC,XC,List.length_map,List.map_take,List.map_drop]
   rw[e]at this
   exact this
  |str cs =>
   unfold slT at e
   dsimp only at e
   split at e<;>cases e
   rename_i hc
   cases(Zd rw' q (λ_ z=>by cases z)).vstr
   obtain⟨t,rfl⟩:=rx
   exact⟨"str",_,slot_str_getitem.lookup,typeIs_str s _ t,Zff hs pl pu hc λt' k=>⟨.str ⟨(cut cs lo hi).toArray⟩,H,I.tok _,⟨t',rfl⟩,ans ho M (.str _)⟩⟩
  |_=>cases e
noncomputable def evP(call:Nat->List W->Mem->Res W)(gv:List T)(lo:E)(env:Env)(m:Mem):Res (Option Int):=if Zt lo then Res.ok none m else(ev call gv lo env m).bind intP
noncomputable def tP(K:Frag)(call:Nat->List W->Mem->Res W)(gv:List T)(xr:XR)(lo:E):TO:=λσ H Q=>∃env cm m,EnvR K cm m H env σ/\MemR K cm m H/\OkR K (evP call gv lo env m) xr cm m H λo cm' m' H'=>Q o H'
theorem Zhl:PO X none (tP X.K call gv xr .hole):=λpins s σ H Q I ⟨env,cm,m,hE,M,ho⟩=>Zi6 pins s σ H Q I (OkR.now ho M)
theorem Zhk{lo:Expr}(h:PE X lo (tE X.K call gv xr ea))(hn:evP call gv ea=λenv m=>(ev call gv ea env m).bind intP):PO X (some lo) (tP X.K call gv xr ea):=λpins s σ H Q I ⟨env,cm,m,hE,M,ho⟩=>by
 rw[hn]at ho
 refine Zi5 h pins s σ H Q I ⟨env,cm,m,hE,M,(OkR.bind ho).mono λw cm1 m1 H1 x1 M1 o1 v rv=>?_⟩
 unfold intP at o1
 split at o1
 ·cases RT.vint rv
  exact⟨_,rfl,OkR.now o1 M1⟩
 ·exact o1.elim
theorem Zjb{lo hi:Option Expr}{p2:Pos}(he:PE X e (tE X.K call gv xr ea))(hl:PO X lo (tP X.K call gv xr eb))(hu:PO X hi (tP X.K call gv xr ec)):PE X (.Subscript e (.Slice lo hi none p2) pos) (tE X.K call gv xr (.slc ea eb ec)):=by
 refine PE.mono (Zhp (sl_any (xr:=xr)) he hl hu) ?_
 rintro σ H Q ⟨env,cm,m,hE,M,ho⟩
 have e:ev call gv (.slc ea eb ec) env m=(ev call gv ea env m).bind λx m=>(evP call gv eb env m).bind λl m=>(evP call gv ec env m).bind λh m=>fSl x l h m:=by
  rw[ev]
  rfl
 rw[e]at ho
 refine⟨env,cm,m,hE,M,ho.bind.mono λw cm1 m1 H1 x1 M1 o1 v rv=>?_⟩
 refine⟨env,cm1,m1,hE.ext x1 M M1,M1,o1.bind.mono λl cm2 m2 H2 x2 M2 o2=>?_⟩
 refine⟨env,cm2,m2,(hE.ext x1 M M1).ext x2 M1 M2,M2,o2.bind.mono λh cm3 m3 H3 x3 M3 o3=>?_⟩
 exact⟨cm3,m3,w,M3,(rv.ext x2 M1 M2).ext x3 M2 M3,o3⟩
noncomputable def fBlt(b:B)(ws:List W)(m:Mem):Res W:=pur ((views ws m).bind λts=>bltT b ts) m
theorem Zia{b:B}(σ:L2.St)(H:Hp)(Q:VK)(q:tE X.K call gv xr (.blt b eas) σ H Q):tCB (rN X.K xr (fBlt b)) (tA X.K call gv xr eas) σ H Q:=by
 obtain⟨env,cm,m,hE,M,ho⟩:=q
 rw[ev]at ho
 exact⟨env,cm,m,hE,M,ho.bind.mono λws cm1 m1 H1 x1 M1 o1 vs rvs=>⟨cm1,m1,ws,M1,rvs,o1⟩⟩
theorem ZfH{b:B}{id:String}{x:Str}(hc:Jv X (.builtin id) (rN X.K xr (fBlt b)))(hv:bootBuiltins x=some (.builtin id))(hg:Gl X x)(hm:X.mg x=none)(ha:PA X (e::es) (tA X.K call gv xr eas))(hn:x≠"__name__")(hdb:(x==("__debug__" : Str))=false)(he:notStar e=true)(hpl:es.all notStar=true):PE X (.Call (.Name x p) (e::es) [] pos) (tE X.K call gv xr (.blt b eas)):=
 PE.mono (ZbC hc hg hm hv ha hn hdb (Qn he) (JK hpl)) Zia
theorem ZcY{b:B}{id:String}{x:Str}(hc:Jv X (.type id) (rN X.K xr (fBlt b)))(hv:bootBuiltins x=some (.type id))(hg:Gl X x)(hm:X.mg x=none)(ha:PA X (e::es) (tA X.K call gv xr eas))(hn:x≠"__name__")(hdb:(x==("__debug__" : Str))=false)(he:notStar e=true)(hpl:es.all notStar=true):PE X (.Call (.Name x p) (e::es) [] pos) (tE X.K call gv xr (.blt b eas)):=
 PE.mono (Zcc hc hg hm hv ha hn hdb (Qn he) (JK hpl)) Zia
theorem blt1{b:B}{ws:List W}{vs:List V}{k:W->List Addr->Mem->Hp->Prop}(r:RWs K cm m H ws vs)(h1:∀ts t,bltT b ts=some t->ts.length=1)(h:OkR K (fBlt b ws m) xr cm m H k):
  ∃w v t r,ws=[w]/\vs=[v]/\RW K cm m H w v/\view w m=some t/\bltT b [t]=some r/\OkR K (.ok (.t r) m) xr cm m H k:=by
 obtain⟨t,e,ho⟩:=QK h
 cases q:views ws m with
 |none=>rw[q]at e;cases e
 |some ts =>
  rw[q]at e
  have e:bltT b ts=some t:=e
  have hl:=h1 ts t e
  have hvl:∀(ws:List W) (ts:List T),views ws m=some ts->ts.length=ws.length:=λws=>by
   induction ws with
   |nil=>intro ts h;cases h;rfl
   |cons w ws ih =>
    intro ts h
    unfold views at h
    cases q1:view w m with
    |none=>rw[q1]at h;cases h
    |some t1 =>
     rw[q1]at h
     cases q2:views ws m with
     |none=>rw[q2]at h;cases h
     |some us=>rw[q2]at h;cases h;simp[ih us q2]
  have hw:=hvl ws ts q
  match ws,vs,r with
  |[],_,_=>rw[hl]at hw;simp at hw
  |w::w'::ws,_,_=>rw[hl]at hw;simp at hw
  |[w],_,.cons rv .nil =>
   unfold views at q
   cases q1:view w m with
   |none=>rw[q1]at q;cases q
   |some t1 =>
    rw[q1]at q
    cases q
    exact⟨w,_,t1,t,rfl,rfl,rv,q1,e,ho⟩
theorem Zci{f:T->Option T}:∀{ts:List T}{t:T},one1 f ts=some t->∃x,ts=[x]/\f x=some t
 |[],_,h=>by cases h
 |[x],_,h=>⟨x,rfl,h⟩
 |_::_::_,_,h=>by cases h
theorem JD{b:B}(hb:b≠.min2/\b≠.max2/\b≠.range2/\b≠.zip2/\b≠.zip4/\b≠.dget/\b≠.din/\b≠.dnot):∀ts t,bltT b ts=some t->ts.length=1:=by
 intro ts t h
 have h1:∀f:T->Option T,one1 f ts=some t->ts.length=1:=λf h=>by
  obtain⟨x,rfl,_⟩:=Zci h
  rfl
 cases b<;>first|exact h1 _ h|exact absurd hb (by decide)|cases h
theorem ZgD:Jv X (.builtin "len") (rN X.K xr (fBlt .len)):=by
 rintro pins s σ H xs us Q I r ⟨cm,m,ws,M,rws,ho⟩
 obtain⟨w,v,t,rr,rfl,rfl,rv,e,eb,ho⟩:=blt1 rws (JD (by decide)) ho
 have hz:=Zz
 cases t with
 |str cs =>
  change (if cs.length<=lim then some (T.int cs.length)else none)=some rr at eb
  split at eb<;>cases eb
  cases(Zd rv e (λ_ z=>by cases z)).vstr
  exact Zad pins s σ H _ us Q I r ⟨_,_,rfl,⟨by rw[JH];omega,rfl⟩,by rw[JH];exact ans ho M (.int _)⟩
 |tup ts =>
  cases eb
  obtain⟨a,vs,rfl,h1,r1⟩:=(Zd rv e (λ_ z=>by cases z)).itup
  exact Zad pins s σ H _ us Q I r ⟨_,_,rfl,.inr ⟨vs,h1,r1.length⟩,ans ho M (.int _)⟩
 |lst ts =>
  cases eb
  obtain⟨a,vs,rfl,h1,r1⟩:=Zw M rv e
  exact Zad pins s σ H _ us Q I r ⟨_,_,rfl,.inl ⟨vs,.of h1,r1.length⟩,ans ho M (.int _)⟩
 |scr ns =>
  cases eb
  obtain⟨a,rfl,h1⟩:=(Zd rv e (λ_ z=>by cases z)).vscr
  exact Zad pins s σ H _ us Q I r ⟨_,_,rfl,.inl ⟨_,h1.sq,by simp⟩,ans ho M (.int _)⟩
 |_=>cases eb
theorem ZgE:Jv X (.type "int") (rN X.K xr (fBlt .int)):=by
 rintro pins s σ H xs us Q I r ⟨cm,m,ws,M,rws,ho⟩
 obtain⟨w,v,t,rr,rfl,rfl,rv,e,eb,ho⟩:=blt1 rws (JD (by decide)) ho
 cases t with
 |int i =>
  cases eb
  cases(Zd rv e (λ_ z=>by cases z)).vint
  exact Zcx pins s σ H _ us Q I r (.inl ⟨_,rfl,ans ho M (.int _)⟩)
 |bl b =>
  cases eb
  cases(Zd rv e (λ_ z=>by cases z)).vbl
  exact Zcx pins s σ H _ us Q I r (.inr ⟨_,rfl,ans ho M (.int _)⟩)
 |str cs =>
  have eb:(if cs≠[]/\cs.length<=600/\cs.all (λc=>decide (48<=c)&&decide (c<=57))=true then some (T.int (figV cs))else none)=some rr:=eb
  split at eb<;>cases eb
  rename_i hc
  cases(Zd rv e (λ_ z=>by cases z)).vstr
  obtain⟨u,rfl,tt,rfl⟩:=vals1 r
  have hd:NumText.AllDigits (⟨cs.toArray⟩:Str).cps.toList:=λc hcm=>by
   have:=List.all_eq_true.mp hc.2.2 c (by simpa using hcm)
   rw[Bool.and_eq_true]at this
   exact⟨of_decide_eq_true this.1,of_decide_eq_true this.2⟩
  have ht:=PySem.intText_digits (x:=⟨cs.toArray⟩) hd (by simpa using hc.1) (by show cs.toArray.size<=_;rw[List.size_toArray];omega)
  refine W.KIN.call_text ht (by show cs.toArray.size<=_;rw[List.size_toArray];omega) ⟨.int (figV cs),H,I.tok _,⟨s.toks,?_⟩,ans ho M (.int _)⟩
  show Value.int _ _=Value.int (figV cs) _
  rw[show(⟨cs.toArray⟩:Str).cps.toList=cs from by simp]
  rfl
 |_=>cases eb
theorem ZhU(cs:List Nat):RTs K cm m H (cs.map λc=>T.str [c]) (cs.map λc=>V.str ⟨#[c]⟩):=by
 induction cs with
 |nil=>exact .nil
 |cons c cs ih=>exact .cons (.str [c]) ih
theorem Zbi{x:Str}:∀(cs:List Nat) (k:Nat) (vs:List Value),vs.length=cs.length->(∀(j:Nat) (v:Value),vs[j]?=some v->∃c u,cs[j]?=some c/\v=Value.str ⟨#[c]⟩ u)->Vals (cs.map λc=>V.str ⟨#[c]⟩) vs
 |[],_,[],_,_=>.nil
 |[],_,_::_,h,_=>by simp at h
 |_::_,_,[],h,_=>by simp at h
 |c::cs,k,v::vs,hl,h=>by
  obtain⟨c',u,e1,e2⟩:=h 0 v rfl
  cases e1
  exact .cons ⟨u,e2⟩ (Zbi (x:=x) cs k vs (by simpa using hl) λj w hw=>h (j+1) w (by simpa using hw))
theorem Zdo(hcalm:X.calm=true):Jv X (.type "tuple") (rN X.K xr (fBlt .tuple)):=by
 rintro pins s σ H xs us Q I r ⟨cm,m,ws,M,rws,ho⟩
 obtain⟨w,v,t,rr,rfl,rfl,rv,e,eb,ho⟩:=blt1 rws (JD (by decide)) ho
 cases t with
 |tup ts =>
  cases eb
  obtain⟨a,vs,rfl,h1,r1⟩:=(Zd rv e (λ_ z=>by cases z)).itup
  exact J7 pins s σ H _ us Q I r ⟨a,vs,rfl,.inr ⟨h1,ans ho M (.mtup h1 r1)⟩⟩
 |lst ts =>
  cases eb
  obtain⟨a,vs,rfl,h1,r1⟩:=Zw M rv e
  exact J7 pins s σ H _ us Q I r ⟨a,vs,rfl,.inl ⟨.of h1,λl hl=>Zbj ho M r1 hl⟩⟩
 |str cs =>
  change (if cs.length<=lim then some (T.tup (cs.map λc=>T.str [c]))else none)=some rr at eb
  split at eb<;>cases eb
  rename_i hc
  cases(Zd rv e (λ_ z=>by cases z)).vstr
  obtain⟨u,rfl,ru⟩:=vals1 r
  obtain⟨tk,rfl⟩:=ru
  have hz:=Zz
  refine call_tuple_str (I.ok.hd hcalm) ⟨cs.toArray⟩ tk (λh' tk' acc hk hit=>?_) (by show cs.toArray.size<=_;rw[List.size_toArray];omega)
  obtain⟨h1,h2⟩:=hit
  have I1:Inv X pins σ H { s with heap:=h',toks:=tk' }:=I.kept hk
  have rv2:Vals (cs.map λc=>V.str ⟨#[c]⟩) acc.toList:=Zbi (x:=⟨cs.toArray⟩) cs 0 acc.toList (by simpa using h1) λj w hw=>by
   obtain⟨c,u,e1,e2⟩:=h2 j w (by simpa using hw)
   exact⟨c,u,by simpa using e1,e2⟩
  refine⟨.ref h'.objs.size,_,I1.laid (t':=tk') (o:=.tup (cs.map λc=>V.str ⟨#[c]⟩)) (λb ob q=>Heap.get?_push_of_some _ q) (Nat.le_refl _) ?_,rfl,Zbj ho M (ZhU cs) (I1.hok.fresh (Nat.le_refl _))⟩
  refine⟨by rw[List.length_map];omega,acc.toList,rv2,?_⟩
  have:=TupP.new h' acc.toList.toArray
  simpa using this
 |_=>cases eb
theorem ZeO:Jv X (.type "list") (rN X.K xr (fBlt .list)):=by
 rintro pins s σ H xs us Q I r ⟨cm,m,ws,M,rws,ho⟩
 obtain⟨w,v,t,rr,rfl,rfl,rv,e,eb,ho⟩:=blt1 rws (JD (by decide)) ho
 cases t with
 |tup ts =>
  cases eb
  obtain⟨a,vs,rfl,h1,r1⟩:=(Zd rv e (λ_ z=>by cases z)).itup
  exact XD pins s σ H _ us Q I r ⟨a,vs,rfl,.inr h1,λl hl=>XM ho M r1 hl⟩
 |lst ts =>
  cases eb
  obtain⟨a,vs,rfl,h1,r1⟩:=Zw M rv e
  exact XD pins s σ H _ us Q I r ⟨a,vs,rfl,.inl (.of h1),λl hl=>XM ho M r1 hl⟩
 |_=>cases eb
end
section
variable{K:Frag}{cm:List Addr}{m:Mem}{H:Hp}{xr:XR}{X:Cx}{call:Nat->List W->Mem->Res W}{gv:List T}
variable{a b c e:Expr}{es:List Expr}{ea eb ec:E}{eas:Es}{pos p p2:Pos}
noncomputable def tyN:Ty->String
 |.int=>"int"
 |.bool=>"bool"
 |.str=>"str"
 |.tuple=>"tuple"
 |.list=>"list"
 |.dict=>"dict"
noncomputable def tyT:T->String
 |.non=>"NoneType"
 |.bl _=>"bool"
 |.int _=>"int"
 |.str _=>"str"
 |.tup _=>"tuple"
 |.lst _=>"list"
 |.dct _ _=>"dict"
 |.scr _=>"list"
theorem ZjO(t:T)(ty:Ty):PySem.W.kitOne K (.type (tyT t)) (.type (tyN ty))=some (isT t ty):=by cases t<;>cases ty<;>rfl
theorem ZjQ{pins:List (Addr×Obj)}{σ:L2.St}{s:Shared}{A:Around}{E:Value->Shared->Prop}{Q:Value->Shared->Prop}{w:W}{v:V}{u:Value}{t:T}{ty:Ty}(I:Inv X pins σ H s)(M:MemR X.K cm m H)(rx:RelV v u)(r:RW X.K cm m H w v)(ew:view w m=some t)(h:∀tk,Q (.bool (isT t ty)) { s with toks:=tk }):
  wpAny (model X.prog X.w) A (PySem.call (.builtin "isinstance") [u,.type (tyN ty)]) Q E s:=by
 have k:=ZjO (K:=X.K) t ty
 have onL:∀(a:Addr) (vs:List V),v=.ref a->SqL X.K H a vs->tyT t = "list"->wpAny (model X.prog X.w) A (PySem.call (.builtin "isinstance") [u,.type (tyN ty)]) Q E s:=λa vs e hq et=>by
  subst e
  cases rx
  obtain⟨its,_,pl,_⟩:=I.list hq
  obtain⟨o,n,e,c,_⟩:=pl
  rw[et]at k
  exact kia_one kitx_list I.kIn ⟨o,e,c⟩ k (λz=>nomatch z) h
 cases t with
 |non=>cases(Zd r ew (λ_ z=>by cases z)).vnon;exact Jd I rx .non k h
 |bl y=>cases(Zd r ew (λ_ z=>by cases z)).vbl;exact Jd I rx (.bl y) k h
 |int i=>cases(Zd r ew (λ_ z=>by cases z)).vint;exact Jd I rx (.int i) k h
 |str cs=>cases(Zd r ew (λ_ z=>by cases z)).vstr;exact Jd I rx (.str _) k h
 |tup ts =>
  obtain⟨a,vs,rfl,h1,_⟩:=(Zd r ew (λ_ z=>by cases z)).itup
  cases rx
  obtain⟨its,_,p,_⟩:=I.tuple h1
  obtain⟨o,h1,h2,_⟩:=p
  exact kia_one PySem.W.kitx_tuple I.kIn ⟨o,h1,h2⟩ k (λz=>nomatch z) h
 |lst ts =>
  obtain⟨a,vs,e,h1,_⟩:=Zw M r ew
  exact onL a vs e (.of h1) rfl
 |scr ns =>
  obtain⟨a,e,h1⟩:=(Zd r ew (λ_ z=>by cases z)).vscr
  exact onL a _ e h1.sq rfl
 |dct ks ts =>
  have r':=Zd r ew (λ_ z=>by cases z)
  cases r' with
  |dct q1 q2 q3 q4 q5=>exact Jd I rx (.dK q1) k h
noncomputable def fIsi(ty:Ty)(w:W)(m:Mem):Res W:=pur ((view w m).map λx=>.bl (isT x ty)) m
theorem Zh1{ty:Ty}:Jv X (.builtin "isinstance") (λxs H Q=>∃x,xs=[x,.ty (tyN ty)]/\r1 X.K xr (fIsi ty) x H Q):=by
 rintro pins s σ H xs us Q I r ⟨x,e,cm,m,w,M,rw',ho⟩
 subst e
 obtain⟨u1,u2,rfl,ru1,ru2⟩:=vals2 r
 cases(show u2=Value.type (tyN ty)from ru2)
 obtain⟨t,et,ho⟩:=QK ho
 cases q:view w m with
 |none=>rw[q]at et;cases et
 |some tw =>
  rw[q]at et;cases et
  exact ZjQ I M ru1 rw' q λtk=>⟨.bl _,H,I.tok _,rfl,ans ho M (.bl _)⟩
theorem Zji{ty:Ty}{x:Str}(ha:PE X a (tE X.K call gv xr ea))(hg:Gl X "isinstance")(hm:X.mg "isinstance" = none)(hgT:Gl X x)(hmT:X.mg x=none)(hv:bootBuiltins x=some (.type (tyN ty)))(hn:x≠"__name__":=by decide)(hd:(x==("__debug__" : Str))=false:=by decide)(hs:notStar a=true:=by rfl):
  PE X (.Call (.Name "isinstance" p) [a,.Name x p2] [] pos) (tE X.K call gv xr (.isi ea ty)):=by
 refine PE.mono (ZbC (Zh1 (ty:=ty) (xr:=xr)) hg hm (by decide +kernel) (ZcZ ha (ZcZ (Zjq (v:=.ty (tyN ty)) hgT hmT hv rfl hn hd) Zik (Qn rfl)) (Qn hs)) (by decide) (by decide) (Qn hs) (JK rfl)) ?_
 rintro σ H Q ⟨env,cm,m,hE,M,ho⟩
 rw[ev]at ho
 exact⟨env,cm,m,hE,M,ho.bind.mono λw cm1 m1 H1 x1 M1 o1 v rv=>⟨v,rfl,cm1,m1,w,M1,rv,o1⟩⟩
noncomputable def rM(K:Frag)(xr:XR)(b:Mt):V->List V->Hp->VK->Prop:=λx xs H Q=>∃cm m w ws,MemR K cm m H/\RW K cm m H w x/\RWs K cm m H ws xs/\OkR K (doM b w ws m) xr cm m H λw cm' m' H'=>∀v,RW K cm' m' H' w v->Q v H'
theorem RTs.strs:∀{ts:List T}{vs:List V}{bs:List (List Nat)},RTs K cm m H ts vs->strs? ts=some bs->vs=bs.map λc=>V.str ⟨c.toArray⟩
 |[],_,_,.nil,e=>by cases e;rfl
 |t::ts,_,bs,.cons r rs,e=>by
  cases t with
  |str c =>
   unfold strs? at e
   cases q:strs? ts with
   |none=>rw[q]at e;cases e
   |some cs =>
    rw[q]at e;cases e
    cases RT.vstr r
    rw[RTs.strs rs q]
    rfl
  |_=>cases e
theorem ZeY{ws:List W}{t:T}(h:views ws m=some [t]):∃w,ws=[w]/\view w m=some t:=by
 cases ws with
 |nil=>cases h
 |cons w ws =>
  unfold views at h
  cases q1:view w m with
  |none=>rw[q1]at h;cases h
  |some t1 =>
   rw[q1]at h
   have h:(views ws m).map (t1::·)=some [t]:=h
   cases q2:views ws m with
   |none=>rw[q2]at h;cases h
   |some ts =>
    rw[q2]at h
    cases h
    cases ws with
    |nil=>exact⟨w,rfl,by rw[q1]⟩
    |cons w2 ws =>
     unfold views at q2
     cases q3:view w2 m with
     |none=>rw[q3]at q2;cases q2
     |some t3 =>
      rw[q3]at q2
      cases q4:views ws m with
      |none=>rw[q4]at q2;cases q2
      |some t4=>rw[q4]at q2;cases q2
theorem few1{cpos:Pos}(hs:notStar e=true):((backTo cpos (starEach [e] X.env)).all (λx=>!x.1)&&(backToKw cpos (keywordEach [] X.env)).all (λx=>x.1.isSome)
  && decide ([e].length+([]:List Keyword).length+(if([]:List Keyword).isEmpty then 0 else 1)<30))=true:=by
 rw[Zfb (by rw[List.all_cons,hs];rfl)]
 rfl
structure At (X:Cx) (call:Nat->List W->Mem->Res W) (gv:List T) (e:Expr) (a:E) (f:L2.St->Option V):Prop where
 pe:PE X e (λσ H Q=>∃v,f σ=some v/\Q v H)
 rd:∀env cm m H σ,EnvR X.K cm m H env σ->(∃w v,ev call gv a env m=.ok w m/\f σ=some v/\RW X.K cm m H w v)∨ev call gv a env m=.stuck
theorem Zek{tg:Expr}(hg:Gl X "range")(hm:X.mg "range" = none)(ha:PA X [a] (tA X.K call gv xr eas))(hs:notStar a=true:=by rfl):PI X tg (.Call (.Name "range" p) [a] [] pos) (tI X.K call gv xr (.blt .range1 eas)):=by
 refine PI.mono (ZfF hg hm ha (Qn hs)) ?_
 rintro σ H R ⟨env,cm,m,hE,M,ho⟩
 rw[ev]at ho
 refine⟨env,cm,m,hE,M,ho.bind.mono λws cm1 m1 H1 x1 M1 o1 vs rvs=>?_⟩
 obtain⟨w,v,t,rr,rfl,rfl,rv,e,eb,o2⟩:=blt1 (b:=.range1) rvs (JD (by decide)) o1
 cases t with
 |int i =>
  change (if i<2^62/\-(2^62)<=i then some (T.lst (rangeT 0 i.toNat))else none)=some rr at eb
  split at eb<;>cases eb
  rename_i hc
  cases(Zd rv e (λ_ z=>by cases z)).vint
  obtain⟨ts,m2,q1,q2⟩:=OkR.now o2 M1
  cases q1
  exact⟨_,rfl,hc.2,hc.1,q2 _ (.rng 0 _)⟩
 |_=>cases eb
end
section
variable(K:Frag) (call:Nat->List W->Mem->Res W) (gv:List T) (xr:XR)
noncomputable def Zdh(n:Nat)(D:Ends)(fl:Flow)(cm:List Addr)(m:Mem)(H:Hp):Prop:=match fl with
 |.next env=>∀σ:L2.St,σ.length=n->EnvR K cm m H env σ->D.nx σ H
 |.ret w=>∀v,RW K cm m H w v->D.rt v H
 |.brk env=>∀σ:L2.St,σ.length=n->EnvR K cm m H env σ->D.bk σ H
 |.cont env=>∀σ:L2.St,σ.length=n->EnvR K cm m H env σ->D.ct σ H
noncomputable def tS(n:Nat)(s:S):TS:=λD σ H=>σ.length=n/\∃env cm m,EnvR K cm m H env σ/\MemR K cm m H/\OkR K (ex call gv s env m) xr cm m H λfl cm' m' H'=>Zdh K n D fl cm' m' H'
end
section
variable{K:Frag}{cm:List Addr}{m:Mem}{H:Hp}{xr:XR}{X:Cx}{call:Nat->List W->Mem->Res W}{gv:List T}
variable{a b c e:Expr}{es:List Expr}{ea eb ec:E}{eas:Es}{pos p p2:Pos}{rest:List Stmt}{k:S}{n:Nat}
theorem PSs.mono{sts:List Stmt}{t t':TS}(h:PSs X sts t)(f:∀D σ H,t' D σ H->t D σ H):PSs X sts t':=λpins s σ H D I q=>h pins s σ H D I (f D σ H q)
theorem Zg8:PSs X [] (tS X.K call gv xr n .done):=PSs.mono Zi2 λD σ H ⟨hl,env,cm,m,hE,M,ho⟩=>by
 rw[ex]at ho
 exact OkR.now ho M σ hl hE
theorem Zg7(h:PE X e (tE X.K call gv xr ea)):PSs X (.Return (some e) pos::rest) (tS X.K call gv xr n (.ret ea k)):=PSs.mono (Ql (ps_ret h) Zfw) λD σ H ⟨hl,env,cm,m,hE,M,ho⟩=>by
 rw[ex]at ho
 exact⟨env,cm,m,hE,M,ho.bind.mono λw cm1 m1 H1 x1 M1 o1 v rv=>OkR.now o1 M1 v rv⟩
theorem Zfx(h:PE X e (tE X.K call gv xr ea))(hk:PSs X rest (tS X.K call gv xr n k))(hs:swapsWith e none pos.line X.env=pure false:=by rfl):PSs X (.Expr e pos::rest) (tS X.K call gv xr n (.expr ea k)):=PSs.mono (Ql (Zi4 h hs) hk) λD σ H ⟨hl,env,cm,m,hE,M,ho⟩=>by
 rw[ex]at ho
 exact⟨env,cm,m,hE,M,ho.bind.mono λw cm1 m1 H1 x1 M1 o1 v rv=>⟨hl,env,cm1,m1,hE.ext x1 M M1,M1,o1⟩⟩
theorem Zha{i:Nat}{x:Str}{px:Pos}(hN:X.N.Nodup)(hn:X.N.length=n)(hi:X.N[i]?=some x)(hx:Loc X.env.scope x)(h:PE X e (tE X.K call gv xr ea))(hk:PSs X rest (tS X.K call gv xr n k))(hs:swapsWith e (some (.Name x px)) pos.line X.env=pure false:=by rfl)(hf:X.fn x=true∨X.env.scope.names.lookup x=some .local:=by first|exact .inl rfl|exact .inr rfl|assumption):PSs X (.Assign [.Name x px] e pos::rest) (tS X.K call gv xr n (.asg i ea k)):=PSs.mono (Ql (ps_set hN hi hx h hs hf) hk) λD σ H ⟨hl,env,cm,m,hE,M,ho⟩=>by
 rw[ex]at ho
 have hi':i<σ.length:=by rw[hl,<-hn];exact(List.getElem?_eq_some_iff.mp hi).1
 exact⟨env,cm,m,hE,M,ho.bind.mono λw cm1 m1 H1 x1 M1 o1 v rv=>⟨by rw[List.length_set];exact hl,env.set i (some w),cm1,m1,EnvR.set (hE.ext x1 M M1) rv i hi',M1,o1⟩⟩
theorem Zg6{o i v:Expr}{eo ei ev':E}{tp:Pos}(hv:PE X v (tE X.K call gv xr ev'))(ho:PE X o (tE X.K call gv xr eo))(hi:PE X i (tE X.K call gv xr ei))(hk:PSs X rest (tS X.K call gv xr n k))(ha:∀v,assign (.Subscript o i tp) X.env v=(do
   let ov <-holding [v] (eval o X.env)
   let iv <-holding [v,ov] (eval i X.env)
   standAt tp
   holding [v,ov,iv] (setItem ov iv v)
   release [v,ov,iv] []):=by intro _;rfl)(hs:swapsWithSole [.Subscript o i tp] v pos.line X.env=pure false:=by rfl)(hw:swappedStores [.Subscript o i tp] v X.env=pure none:=by rfl)(h1:(assignEach [.Subscript o i tp] X.env).map (·.2)=[assign (.Subscript o i tp) X.env]:=by rfl):PSs X (.Assign [.Subscript o i tp] v pos::rest) (tS X.K call gv xr n (.set eo ei ev' k)):=
 PSs.mono (Ql (Zig hv (pg_sub ho hi set_list ha) hs hw h1) hk) λD σ H ⟨hl,env,cm,m,hE,M,hq⟩=>by
  rw[ex]at hq
  refine⟨env,cm,m,hE,M,hq.bind.mono λz cm1 m1 H1 x1 M1 o1 vz rz=>?_⟩
  refine⟨env,cm1,m1,hE.ext x1 M M1,M1,o1.bind.mono λx cm2 m2 H2 x2 M2 o2 vx rx=>?_⟩
  refine⟨env,cm2,m2,(hE.ext x1 M M1).ext x2 M1 M2,M2,o2.bind.mono λy cm3 m3 H3 x3 M3 o3 vy ry=>?_⟩
  unfold setM at o3
  split at o3
  ·rename_i cc kk
   cases q:frz z m3 with
   |stuck=>rw[q]at o3;exact o3.elim
   |exc e' m'=>exact absurd q Zcr
   |ok t m4 =>
    rw[q]at o3
    obtain⟨x4,M4,r4⟩:=ZdT M3 ((rz.ext x2 M1 M2).ext x3 M2 M3) q
    have rx':RW X.K cm3 m4 H3 (.c cc) vx:=(rx.ext x3 M2 M3).ext x4 M3 M4
    cases RT.vint ry
    obtain⟨a,ha1,rfl⟩:=rx'
    have o3:OkR X.K ((match m4[cc]? with
     |some (some (false,xs))=>match ixOf xs.length kk with
      |some j=>Res.ok () (m4.set cc (some (false,xs.set j t)))
      |none=>.stuck
     |_=>.stuck).bind λ_ m=>ex call gv k env m) xr cm3 m3 H3 _:=o3
    split at o3
    ·rename_i xs e1
     split at o3
     ·rename_i j e2
      obtain⟨b,vs,q1,q2,q3,q4⟩:=M4.at' cc _ e1
      rw[ha1]at q1;cases q1
      have l4:=q4.length
      dsimp only at l4
      obtain⟨x5,M5⟩:=Jt M4 e1 ha1 (Za6 r4 j q4)
      refine⟨a,vs,kk,j,rfl,rfl,q2,by rw[<-l4];exact e2,?_⟩
      have xx:=(x4.trans x5)
      exact⟨hl,env,cm3,_,(((hE.ext x1 M M1).ext x2 M1 M2).ext x3 M2 M3).ext xx M3 M5,M5,OkR.shift (show OkR X.K (ex call gv k env _) xr cm3 m3 H3 _ from o3) xx⟩
     ·exact o3.elim
    ·exact o3.elim
  ·exact o3.elim
theorem bind_assoc{α β γ:Type}(r:Res α)(f:α->Mem->Res β)(g:β->Mem->Res γ):(r.bind f).bind g=r.bind λa m=>(f a m).bind g:=by cases r<;>rfl
theorem Zi3{A B:List Stmt}{sa sb:S}(hc:PT X c (tT X.K call gv xr ec))(ha:PSs X A (tS X.K call gv xr n sa))(hb:PSs X B (tS X.K call gv xr n sb))(hk:PSs X rest (tS X.K call gv xr n k)):PSs X (.If c A B pos::rest) (tS X.K call gv xr n (.ife ec sa sb k)):=
 PSs.mono (Ql (ps_if hc ha hb) hk) λD σ H ⟨hl,env,cm,m,hE,M,ho⟩=>by
  rw[ex,<-bind_assoc]at ho
  refine⟨env,cm,m,hE,M,ho.bind.mono λt cm1 m1 H1 x1 M1 o1=>?_⟩
  have go:∀s:S,OkR X.K ((ex call gv s env m1).bind λfl m=>match fl with|.next env=>ex call gv k env m|fl=>.ok fl m) xr cm1 m1 H1 (λfl cm' m' H'=>Zdh X.K n D fl cm' m' H')->tS X.K call gv xr n s { D with nx:=tS X.K call gv xr n k D } σ H1:=λs o=>by
   refine⟨hl,env,cm1,m1,hE.ext x1 M M1,M1,o.bind.mono λfl cm2 m2 H2 x2 M2 o2=>?_⟩
   cases fl with
   |next env'=>exact λσ' hl' hE'=>⟨hl',env',cm2,m2,hE',M2,o2⟩
   |ret w=>exact OkR.now (xr:=xr) (a:=Flow.ret w) o2 M2
   |brk env'=>exact OkR.now (xr:=xr) (a:=Flow.brk env') o2 M2
   |cont env'=>exact OkR.now (xr:=xr) (a:=Flow.cont env') o2 M2
  cases t with
  |true=>exact iteT (go sa o1)
  |false=>exact iteF (go sb o1)
theorem QX:∀(is:List Nat) (vs:List V) (σ:L2.St),(setAll is vs σ).length=σ.length
 |[],_,_=>by unfold setAll;rfl
 |_::_,[],_=>by unfold setAll;rfl
 |i::is,v::vs,σ=>by unfold setAll;rw[QX,List.length_set]
theorem gT_len{tg:Tg}{v:V}{σ:L2.St}{Q:L2.St->Hp->Prop}(h:gT K tg v σ H Q):gT K tg v σ H λσ' H'=>σ'.length=σ.length/\Q σ' H':=by
 cases tg with
 |nm i=>exact⟨List.length_set,h⟩
 |tp is =>
  obtain⟨a,xs,h1,h2,h3,h4⟩:=h
  exact⟨a,xs,h1,h2,h3,QX _ _ _,h4⟩
theorem EnvR.same{cm:List Addr}{m m':Mem}{H:Hp}{env:Env}{σ:L2.St}(h:EnvR K cm m H env σ)(f:∀t v,RT K cm m H t v->RT K cm m' H t v):EnvR K cm m' H env σ:=λi w e=>by
 obtain⟨v,h1,h2⟩:=h i w e
 refine⟨v,h1,?_⟩
 cases w with
 |t t=>exact f t v h2
 |f a=>exact h2
 |x _ _ _=>exact XF.wsame f h2
 |c i=>exact h2
theorem Zg9{tgt iter:Expr}{body:List Stmt}{tg:Tg}{it:E}{sb:S}(hc:X.calm=true)(hp:PassesOwn (model X.prog X.w) X.A X.env X.xe)(hi:PI X tgt iter (tI X.K call gv xr it))(hg:PG X tgt (gT X.K tg))(ht:∀i∈tgS tg,i<n)(hb:PSs X body (tS X.K call gv xr n sb))(hk:PSs X rest (tS X.K call gv xr n k))(hs:∀x,foldedSetIterable iter X.env x=pure x:=by intro _;rfl):PSs X (.For tgt iter body [] pos::rest) (tS X.K call gv xr n (.forr tg it sb k)):=
 PSs.mono (Ql (ps_for hp hc hi hg hb hs) hk) λD σ0 H0 ⟨hl0,env0,cm0,m0,hE0,M0,ho⟩=>by
  rw[ex]at ho
  refine⟨env0,cm0,m0,hE0,M0,ho.bind.mono λx cm1 m1 H1 x1 M1 o1=>?_⟩
  cases hbr:ZQ x m1 with
  |stuck=>rw[hbr]at o1;exact o1.elim
  |exc e' m' =>
   exfalso
   unfold ZQ at hbr
   split at hbr<;>first|(cases hbr;done)|(split at hbr<;>cases hbr)
  |ok ts m2 =>
   rw[hbr]at o1
   obtain⟨xb,Mb⟩:=J9 M1 hbr
   let g:Flow->Mem->Res Flow:=λfl m=>match fl with
    |.next env=>ex call gv k env (giveBack x m1 m)
    |.ret w=>.ok (.ret w) (giveBack x m1 m)
    |_=>.stuck
   have o1:OkR X.K ((Qp (λenv m=>ex call gv sb env m) tg ts env0 m2).bind g) xr cm1 m1 H1 (λfl cm' m' H'=>Zdh X.K n D fl cm' m' H'):=o1
   refine⟨ts,m2,rfl,λJ hJ=>?_⟩
   let P:Flow->List Addr->Mem->Hp->Prop:=λfl _ m' _=>OkR X.K (g fl m') xr cm1 m1 H1 (λfl cm' m' H'=>Zdh X.K n D fl cm' m' H')
   -- behind the walk
   have fin:∀env cm m H σ,σ.length=n->EnvR X.K cm m H env σ->MemR X.K cm m H->Ext cm1 m2 H1 cm m H->P (.next env) cm m H->tS X.K call gv xr n k D σ H:=λenv cm m H σ hl hE M xx hP=>by
    obtain⟨xg,Mg,fg⟩:=Je M1 hbr xx M
    exact⟨hl,env,cm,_,EnvR.same hE fg,Mg,OkR.shift (show OkR X.K (ex call gv k env (giveBack x m1 m)) xr cm1 m1 H1 _ from hP) xg⟩
   refine⟨λi μ σ H=>μ=ts.length-i/\σ.length=n/\∃env cm m,EnvR X.K cm m H env σ/\MemR X.K cm m H/\Ext cm1 m2 H1 cm m H/\OkR X.K (Qp (λenv m=>ex call gv sb env m) tg (ts.drop i) env m) xr cm m H P,⟨ts.length-0,rfl,hl0,env0,cm1,m2,(hE0.ext x1 M0 M1).ext xb M1 Mb,Mb,.refl,?_⟩,?_⟩
   ·rw[List.drop_zero]
    exact OkR.shift o1.bind0 xb
   ·rintro i μ σ H ⟨rfl,hl,env,cm,m,hE,M,xx,hq⟩
    have sJ:=hJ.ext xx Mb M
    cases e:ts[i]? with
    |none =>
     have ed:ts.drop i=[]:=List.drop_eq_nil_iff.mpr (List.getElem?_eq_none_iff.mp e)
     rw[ed,Qp]at hq
     exact .inl ⟨sJ.stop M e,fin env cm m H σ hl hE M xx (OkR.now hq M)⟩
    |some t =>
     have hlt:=(List.getElem?_eq_some_iff.mp e).1
     have ed:ts.drop i=t::ts.drop (i+1):=by
      rw[List.drop_eq_getElem_cons hlt]
      rw[(List.getElem?_eq_some_iff.mp e).2]
     rw[ed,Qp]at hq
     obtain⟨go,hy⟩:=sJ.go M e
     refine .inr ⟨go,λσ' H'=>σ'.length=n/\∃env cm m,EnvR X.K cm m H' env σ'/\MemR X.K cm m H'/\Ext cm1 m2 H1 cm m H'/\OkR X.K (Qp (λenv m=>ex call gv sb env m) tg (ts.drop (i+1)) env m) xr cm m H' P,
      λσ' H' hN=>⟨ts.length-(i+1),by omega,rfl,hN⟩,λv H' y=>?_⟩
     obtain⟨xy,My,rt⟩:=hy v H' y
     have hE:=hE.ext xy M My
     have xx:=xx.trans xy
     have hq:=OkR.shift hq xy
     have M:=My
     split at hq
     ·exact hq.elim
     ·rename_i env' eb
      have:=gT_len (gT_ok (Q:=λσ' H2=>H2=H'/\EnvR X.K cm m H' env' σ') hE (λj hj=>by rw[hl];exact ht j hj) rt eb λσ' hE' _=>⟨rfl,hE'⟩)
      have mono:∀{Q Q':L2.St->Hp->Prop},gT X.K tg v σ H' Q->(∀σ' H',Q σ' H'->Q' σ' H')->gT X.K tg v σ H' Q':=λ{Q Q'} h f=>by
       cases tg with
       |nm j=>exact f _ _ h
       |tp is =>
        obtain⟨a1,xs,z1,z2,z3,z4⟩:=h
        exact⟨a1,xs,z1,z2,z3,f _ _ z4⟩
      refine mono this ?_
      rintro σ2 H2 ⟨hl2,e2,hE2⟩
      subst e2
      refine⟨hl2.trans hl,env',cm,m,hE2,M,hq.bind.mono λfl cm3 m3 H3 x3 M3 o3=>?_⟩
      cases fl with
      |next env3=>exact λσ3 hl3 hE3=>⟨hl3,env3,cm3,m3,hE3,M3,xx.trans x3,o3⟩
      |cont env3=>exact λσ3 hl3 hE3=>⟨hl3,env3,cm3,m3,hE3,M3,xx.trans x3,o3⟩
      |brk env3=>exact λσ3 hl3 hE3=>fin env3 cm3 m3 H3 σ3 hl3 hE3 M3 (xx.trans x3) (OkR.now (a:=Flow.next env3) o3 M3)
      |ret w =>
       intro v3 rv3
       have hP:P (.ret w) cm3 m3 H3:=OkR.now (a:=Flow.ret w) o3 M3
       obtain⟨xg,Mg,fg⟩:=Je M1 hbr (xx.trans x3) M3
       refine OkR.to (a:=Flow.ret w) (m':=giveBack x m1 m3) hP xg Mg v3 ?_
       cases w with
       |t t=>exact fg t v3 rv3
       |f a=>exact rv3
       |x _ _ _=>exact XF.wsame fg rv3
       |c j=>exact rv3
theorem ZbA{elt target iter:Expr}{ifs:List Expr}{gs:List Comprehension}{scope:Scope}{N':List Str}{own:Nat}{keep:List Nat}{it:E}{tg:Tg}{cs:Es}{inner:E}{i:Nat}{x:Str}{px spos:Pos}(hc:X.calm=true)(kk:CompK X xr0 call gv N' scope own keep elt target iter ifs gs it tg cs inner)(hN:X.N.Nodup)(hn:X.N.length=n)(hi:X.N[i]?=some x)(hx:X.env.scope.names.lookup x=some .local)(hk:PSs X rest (tS X.K call gv xr n k))(hsw:swapsWith (.ListComp elt (⟨target,iter,ifs,0⟩::gs) scope pos) (some (.Name x px)) spos.line X.env=pure true:=by rfl):
  PSs X (.Assign [.Name x px] (.ListComp elt (⟨target,iter,ifs,0⟩::gs) scope pos) spos::rest) (tS X.K call gv xr n (.asg i (.comp own keep it tg cs inner) k)):=by
 have h1:PS X (.Assign [.Name x px] (.ListComp elt (⟨target,iter,ifs,0⟩::gs) scope pos) spos) (λD σ H=>∃env cm m m' out,EnvR X.K cm m H env σ/\MemR X.K cm m H/\ev call gv (.comp own keep it tg cs inner) env m=.ok (.t (.lst out)) m' /\
   ∀(p:Addr) (H3:Hp) (cm3:List Addr) (vs:List V),H3 p=none->X.K.lookup p=none->Ext cm m H cm3 m' H3->MemR X.K cm3 m' H3->RTs X.K cm3 m' H3 out vs->D.nx (σ.set i (some (.ref p))) (upd H3 p (.lst vs))):=
  λpins s σ H D I ⟨env,cm,m,m',out,hE,M,ok,q⟩=>ZhR hc kk hN hi hx hsw I hE M ok q
 refine PSs.mono (Ql h1 hk) ?_
 rintro D σ H ⟨hl,env,cm,m,hE,M,ho⟩
 rw[ex]at ho
 cases h:ev call gv (.comp own keep it tg cs inner) env m with
 |stuck=>rw[h]at ho;exact ho.elim
 |exc e m'=>exact absurd h (Xo e m')
 |ok w m' =>
  obtain⟨out,rfl⟩:=ZaA h
  rw[h]at ho
  refine⟨env,cm,m,m',out,hE,M,h,λp H3 cm3 vs hp _ x3 M3 r3=>?_⟩
  have hi':i<σ.length:=by rw[hl,<-hn];exact(List.getElem?_eq_some_iff.mp hi).1
  have x4:=x3.trans (Ext.new (o:=.lst vs) hp)
  have M4:=M3.new (o:=.lst vs) hp
  exact⟨by rw[List.length_set];exact hl,_,cm3,m',EnvR.set (w:=.t (.lst out)) (hE.ext x4 M M4) (RT.newLst M3 r3 hp) i hi',M4,OkR.shift (show OkR X.K (ex call gv k (env.set i (some (.t (.lst out)))) m') xr cm m H _ from ho) x4⟩
end
noncomputable def Ahead(h:Heap)(e:Addr)(mk hd:Value):Prop:=hd=.none∨∃T oT ts,hd=.ref T/\T≠e/\h.get? T=some oT/\oT.data=.fields ts/\ts[3]?=some mk
theorem Xy{o:Obj}{vs:Array Value}(h:o.data=.fields vs)(f:Array Value->Array Value):o.mapFields f={ o with data:=.fields (f vs) }:=by
 obtain⟨c,d,dt,sl⟩:=o
 cases h
 rfl
structure Noted (fr:List Addr) (h:Heap) (e:Addr) (oe:Obj) (mk:Value) (h':Heap):Prop where
 keep:∀b o,b∉fr->b≠e->h.get? b=some o->h'.get? b=some o
 slot:∀b o,b∈fr->h.get? b=some o->∃sl,h'.get? b=some { o with slots:=sl }
 new:∃T oT ts vs,h.get? T=none/\T≠e/\h'.get? T=some oT/\oT.data=.fields ts/\ts[3]?=some mk/\h'.get? e=some { oe with data:=.fields vs }/\vs[1]?=some (.ref T)
section
variable{M:Model}{A:Around}{E:Value->Shared->Prop}{s:Shared}{base:Heap}{env:PySem.Env}{outer:List PySem.Env}{L e:Addr}{oe:Obj}{vs:Array Value}{hd:Value}{Q:Unit->Shared->Prop}
theorem Zgp{before:Bool}(hfr:A.frames=some (env::outer))(hl:s.heap.FunFrames base (env::outer))(hf:env.frame=some L)(he:s.heap.get? e=some oe)(hv:oe.data=.fields vs)(h1:1<vs.size)(k:∀h':Heap,Noted (frs (env::outer)) s.heap e oe (rawInt L) h'->Q () { s with heap:=h' }):
  wpAny M A (do
   let a <-frameOf env
   let pl <-entryPlaceOf L before
   let b <-EntryCells.newEntry hd a .none (rawInt L) .none pl
   setField (.ref e) 1 b) Q E s:=by
 have ne:e∉frs (env::outer):=λhm=>by
  obtain⟨_,o,q,nf⟩:=hl.mem hm
  rw[he]at q;cases q
  exact nf vs hv
 refine wpAny_bind (wpAny_frameOf_fun hfr hl hf λh1' so=>?_)
 refine wpAny_bind (wpAny_entryPlaceOf λpl hp=>?_)
 unfold EntryCells.newEntry newFields
 refine wpAny_bind (wpAny_newObj_type ?_ (hp.sizeOk5 _ _ _ _ _))
 have e1:h1'.get? e=some oe:=(so.2.1 e ne).trans he
 generalize hob:({ cls:=.type "traceback",dict:=none,data:=.fields ([hd,.ref L,.none,rawInt L,.none]++(if pl.isEmpty then List.replicate 6 Value.none else pl)).toArray }:Obj)=ob
 have e2:=Heap.get?_push_of_some (h:=h1') ob e1
 have obf:ob.isFreed=false:=by rw[<-hob];rfl
 refine wpAny_setField e2 hv h1 (k _ ?_)
 have nT:h1'.objs.size≠e:=Nat.ne_of_gt (Heap.lt_size e1)
 have kp:∀b o,b≠e->h1'.get? b=some o->((h1'.push ob).update e (Obj.mapFields (·.setIfInBounds 1 (Value.ref h1'.objs.size)))).get? b=some o:=λb o hb q=>by
  rw[Heap.get?_update_other _ _ (Ne.symm hb)]
  exact Heap.get?_push_of_some _ q
 refine⟨λb o hb hbe q=>kp b o hbe ((so.2.1 b hb).trans q),λb o hb q=>?_,?_⟩
 ·obtain⟨sl,z⟩:=so.2.2 b o q
  exact⟨sl,kp b _ (λy=>ne (y▸hb)) z⟩
 ·refine⟨h1'.objs.size,ob,_,vs.setIfInBounds 1 (Value.ref h1'.objs.size),Heap.get?_none_of_le (by rw[so.1];exact Nat.le_refl _),nT,?_,by rw[<-hob],?_,?_,?_⟩
  ·rw[Heap.get?_update_other _ _ (Ne.symm nT)]
   exact Heap.get?_push_size _ obf
  ·simp
  ·rw[Heap.get?_update_self _ e2 (Obj.isFreed_of_fields (Obj.data_mapFields hv _)),Xy hv]
  ·simp[h1]
theorem note_x(hfr:A.frames=some (env::outer))(hl:s.heap.FunFrames base (env::outer))(hf:env.frame=some L)(he:s.heap.get? e=some oe)(hv:oe.data=.fields vs)(h1:vs[1]?=some hd)(ah:Ahead s.heap e .none hd)(k:∀h':Heap,Noted (frs (env::outer)) s.heap e oe (rawInt L) h'->Q () { s with heap:=h' }):wpAny M A (noteFrame (.ref e) env) Q E s:=by
 have hz:1<vs.size:=(Array.getElem?_eq_some_iff.mp h1).1
 unfold noteFrame
 simp only[hf]
 refine wpAny_bind (wpAny_field he hv h1 ?_)
 rcases ah with rfl|⟨T,oT,ts,rfl,ne,hT,dT,mT⟩
 ·rw[if_neg (by decide)]
  exact Zgp hfr hl hf he hv hz k
 ·rw[if_pos (show(Value.ref T != Value.none)=true from by simp)]
  refine wpAny_bind (wpAny_field hT dT mT ?_)
  rw[if_neg (show ¬((Value.none==rawInt L)=true)from by simp[rawInt])]
  refine wpAny_bind (wpAny_setField hT dT (Array.getElem?_eq_some_iff.mp mT).1 ?_)
  rw[Heap.update_setField_same s.heap T oT ts 3 .none hT dT mT]
  exact Zgp hfr hl hf he hv hz k
theorem ZhK{T:Addr}{oT:Obj}{ts:Array Value}{mk:Value}(he:s.heap.get? e=some oe)(hv:oe.data=.fields vs)(h1:vs[1]?=some (.ref T))(hT:s.heap.get? T=some oT)(dT:oT.data=.fields ts)(mT:ts[3]?=some mk)(k:∀h':Heap,(∀b,b≠T->h'.get? b=s.heap.get? b)->h'.get? T=some { oT with data:=.fields (ts.setIfInBounds 3 .none) }->Q () { s with heap:=h' }):wpAny M A (setFlight (.ref e) none) Q E s:=by
 unfold setFlight
 refine wpAny_bind (wpAny_field he hv h1 ?_)
 rw[if_pos (show(Value.ref T != Value.none)=true from by simp)]
 refine wpAny_setField hT dT (Array.getElem?_eq_some_iff.mp mT).1 (k _ (λb hb=>Heap.get?_update_other _ _ (Ne.symm hb)) ?_)
 rw[Heap.get?_update_self _ hT (Obj.isFreed_of_fields (Obj.data_mapFields dT _)),Xy dT]
 rfl
end
noncomputable def xeP(e C:Addr)(dx:Option Addr)(hd:Value)(h:Heap):Prop:=∃oe vs,h.get? e=some oe/\oe.cls=.ref C/\oe.dict=dx/\oe.data=.fields vs/\vs[1]?=some hd
noncomputable def xtP(T:Addr)(h:Heap):Prop:=∃oT ts,h.get? T=some oT/\oT.data=.fields ts/\ts[3]?=some .none
structure Air (P:Program) (w:World) (fr:List Addr) (H:Hp) (s:Shared) (H':Hp) (e C:Addr) (dx:Option Addr) (s':Shared):Prop where
 os:s'.os=s.os
 bare:AllBare s'.gens
 un:Un fr [] H H' s.heap s'.heap
 hok:HOk P w H' s'.heap
 no:H' e=none
 new:s.heap.get? e=none
 at':∃hd,xeP e C dx hd s'.heap/\(hd=.none∨∃T,hd=.ref T/\T≠e/\xtP T s'.heap)
section
variable{P:Program}{w:World}{M:Model}{A:Around}{E:Value->Shared->Prop}{s s':Shared}{H H':Hp}{base:Heap}{env:PySem.Env}{outer:List PySem.Env}{L e C:Addr}{dx:Option Addr}{Q:Unit->Shared->Prop}
theorem land(a:Air P w (frs (env::outer)) H s H' e C dx s')(fre:∀b∈frs (env::outer),H' b=none)(hfr:A.frames=some (env::outer))(hl:s'.heap.FunFrames base (env::outer))(hf:env.frame=some L)(k:∀(h':Heap) (T:Addr),Air P w (frs (env::outer)) H s H' e C dx { s' with heap:=h' }->xeP e C dx (.ref T) h'->xtP T h'->T≠e->Q () { s' with heap:=h' }):
  wpAny M A (noteFrame (.ref e) env) (λ_ s1=>wpAny M A (setFlight (.ref e) none) Q E s1) E s':=by
 obtain⟨hd,⟨oe,vs,q1,q2,q3,q4,q5⟩,ah⟩:=a.at'
 refine note_x hfr hl hf q1 q4 q5 ?_ λh1 N=>?_
 ·rcases ah with rfl|⟨T,rfl,ne,oT,ts,z⟩
  ·exact .inl rfl
  ·exact .inr ⟨T,oT,ts,rfl,ne,z⟩
 obtain⟨T,oT,ts,vs',a1,a2,a3,a4,a5,a6,a7⟩:=N.new
 refine ZhK (s:={ s' with heap:=h1 }) a6 rfl a7 a3 a4 a5 λh2 k2 hT=>?_
 have neT:∀b o,s'.heap.get? b=some o->b≠T:=λb o q z=>by rw[z,a1]at q;cases q
 have kp:∀b o,b∉frs (env::outer)->b≠e->s'.heap.get? b=some o->h2.get? b=some o:=λb o hb hbe q=>(k2 b (neT b o q)).trans (N.keep b o hb hbe q)
 have sl:∀b o,b∈frs (env::outer)->s'.heap.get? b=some o->∃sl,h2.get? b=some { o with slots:=sl }:=λb o hb q=>by
  obtain⟨sl,z⟩:=N.slot b o hb q
  exact⟨sl,(k2 b (neT b o q)).trans z⟩
 have nb:∀b o,s.heap.get? b=some o->b≠e:=λb o q z=>by rw[z,a.new]at q;cases q
 have xe2:xeP e C dx (.ref T) h2:=⟨_,vs',(k2 e (Ne.symm a2)).trans a6,q2,q3,rfl,a7⟩
 have xt2:xtP T h2:=⟨_,_,hT,rfl,by simp[(Array.getElem?_eq_some_iff.mp a5).1]⟩
 refine k h2 T ⟨a.os,a.bare,⟨λb o q n hb hx=>kp b o hb (nb b o q) (a.un.keep b o q n hb hx),λb o q n hb hx=>?_,a.un.free,λb o q hx=>?_,a.un.tups,a.un.frzs,a.un.tbls⟩,λb u q=>?_,a.no,a.new,_,xe2,.inr ⟨T,rfl,a2,xt2⟩⟩ xe2 xt2 a2
 ·obtain⟨s1,e1⟩:=a.un.slot b o q n hb hx
  obtain⟨s2,e2⟩:=sl b _ hb e1
  exact⟨s2,e2⟩
 ·obtain⟨o',e1⟩:=a.un.there b o q hx
  by_cases hb:b∈frs (env::outer)
  ·obtain⟨s2,e2⟩:=sl b _ hb e1
   exact⟨_,e2⟩
  ·exact⟨_,kp b o' hb (nb b o q) e1⟩
 ·refine(a.hok b u q).stay (λc v hc r=>kp c v ?_ ?_ r) (λ_ z=>z) λ_ _ z=>z
  ·intro hm
   rcases hc with rfl|hc
   ·rw[fre _ hm]at q;cases q
   ·rw[fre _ hm]at hc;cases hc
  ·rintro rfl
   rcases hc with rfl|hc
   ·rw[a.no]at q;cases q
   ·rw[a.no]at hc;cases hc
theorem Zf4(a:Air P w (frs (env::outer)) H s H' e C dx s')(fre:∀b∈frs (env::outer),H' b=none)(hfr:A.frames=some (env::outer))(hl:s'.heap.FunFrames base (env::outer))(hf:env.frame=some L)(k:∀h':Heap,Air P w (frs (env::outer)) H s H' e C dx { s' with heap:=h' }->Q () { s' with heap:=h' }):wpAny M A (leaving env (.ref e)) Q E s':=by
 unfold leaving
 exact wpAny_bind (land a fre hfr hl hf λh' T a' _ _ _=>k h' a')
end
noncomputable def CXF(P:Program)(w:World):CXT:=λouter H s E ev s'=>∃e C dx H',ev=.ref e/\Air P w (frs outer) H s H' e C dx s'/\E (.ref C) dx H'
noncomputable def Lk(X:Cx)(xr:XR):Prop:=∀(pins:List (Addr×Obj)) (σ:L2.St) (H:Hp) (s:Shared) (H':Hp) (e:Addr) (dx:Option Addr) (s':Shared) (cm:List Addr) (m:Mem) (x:Exc),Inv X pins σ H s ->
 Air X.prog X.w (frs X.stack) H s H' e x.cls dx s'->MemR X.K cm m H'->XF X.K cm m H' x.nms x.flds dx->xr x cm m H'->X.xe (.ref e) s'
theorem lk0{X:Cx}:Lk X xr0:=λ_ _ _ _ _ _ _ _ _ _ _ _ _ _ _ h=>h.elim
noncomputable abbrev asX(X:Cx)(xe:Value->Shared->Prop)(pn:List (Addr×Obj)):Cx:={ X with xe:=xe,pn:=pn }
structure Go (X:Cx) (xr:XR):Prop where
 lk:Lk X xr
 po:PassesOwn (model X.prog X.w) X.A X.env X.xe
section
variable{K:Frag}{cm cm':List Addr}{m m':Mem}{H H' H'':Hp}{X:Cx}
variable(K) in
noncomputable def xrE(E:XK):XR:=λx cm m H=>∀dx,XF K cm m H x.nms x.flds dx->E (.ref x.cls) dx H
variable(K) in
noncomputable def EX(xr:XR):XK:=λcls dx H=>∃cm m x,MemR K cm m H/\cls=.ref x.cls/\XF K cm m H x.nms x.flds dx/\xr x cm m H
theorem Lk.passes{xr:XR}(h:Lk X xr):ZgM (CXF X.prog X.w) X (EX X.K xr):=λpins σ H s ev s' I ⟨e,C,dx,H',he,air,cm,m,x,M,hc,hf,q⟩=>by
 subst he
 cases hc
 exact h pins σ H s H' e dx s' cm m x I air M hf q
theorem OkR.monoX{α:Type}{r:Res α}{xr xr':XR}{k:α->List Addr->Mem->Hp->Prop}(h:OkR K r xr cm m H k)(f:∀x cm' m' H',Ext cm m H cm' m' H'->MemR K cm' m' H'->xr x cm' m' H'->xr' x cm' m' H'):OkR K r xr' cm m H k:=by
 cases r with
 |ok a m2=>exact h
 |exc a m2=>exact λc h' e M=>f _ _ _ _ e M (h c h' e M)
 |stuck=>exact h
theorem OkR.toE{α:Type}{r:Res α}{xr:XR}{k:α->List Addr->Mem->Hp->Prop}(h:OkR K r xr cm m H k):OkR K r (xrE K (EX K xr)) cm m H k:=
 h.monoX λx cm' m' H' _ M q dx hf=>⟨cm',m',x,M,rfl,hf,q⟩
theorem ZiJ{fs:List Addr}{H0 H1 H2:Hp}{h0 h1 h2:Heap}{L:Addr}(a:Un fs [] H0 H1 h0 h1)(b:Un (L::fs) [] H1 H2 h1 h2)(hL:h0.get? L=none):Un fs [] H0 H2 h0 h2 where
 keep:=λc ob q n hc hx=>b.keep c ob (a.keep c ob q n hc hx) (a.free c ob q n hx) (λz=>(List.mem_cons.mp z).elim (λz=>by rw[z,hL]at q;cases q) hc) hx
 slot:=λc ob q n hc hx=>by
  obtain⟨sl,e1⟩:=a.slot c ob q n hc hx
  obtain⟨sl',e2⟩:=b.slot c _ e1 (a.free c ob q n hx) (List.mem_cons_of_mem _ hc) hx
  exact⟨sl',e2⟩
 free:=λc ob q n hx=>by
  obtain⟨o',e1⟩:=a.there c ob q hx
  exact b.free c o' e1 (a.free c ob q n hx) hx
 there:=λc ob q hx=>by
  obtain⟨o',e1⟩:=a.there c ob q hx
  exact b.there c o' e1 hx
 tups:=λc xs q=>b.tups c xs (a.tups c xs q)
 frzs:=λc ob xs q=>b.frzs c ob xs (a.frzs c ob xs q)
 tbls:=λc ps q=>by
  obtain⟨m1,e1⟩:=a.tbls c ps q
  obtain⟨m2,e2⟩:=b.tbls c _ e1
  exact⟨m1++m2,by rw[e2,Array.append_assoc]⟩
end
theorem Inv.air{X:Cx}{pins:List (Addr×Obj)}{σ:L2.St}{H H':Hp}{s s':Shared}{e C:Addr}{dx:Option Addr}(I:Inv X pins σ H s)(a:Air X.prog X.w (frs X.stack) H s H' e C dx s'):Inv X pins σ H' s':=
 I.call' (ch:=[]) a.os a.un a.hok a.bare λb z=>absurd z (by simp)
theorem ZjV{P:Program}{w:World}{K:Frag}{mg:Str->Option Value}{base:Heap}{N:List Str}{qual:Str}{scope:Scope}{f:Addr}{cd:Value}{A:Around}{outer:List PySem.Env}{s:Shared}{H:Hp}{E:XK}:
  Go (cxOf (CXF P w) P w K mg base N qual scope f cd A outer s H E) (xrE K E):=by
 refine⟨λpins σ H1 s1 H' e dx s' cm m x I a M hf q=>?_,PassesOwn.leaving⟩
 have I':=Inv.air I a
 have gone:s.heap.get? e=none:=by
  cases y:s.heap.get? e with
  |none=>rfl
  |some o =>
   obtain⟨o',y'⟩:=I.base.there e o y (by intro z;cases z)
   rw[a.new]at y';cases y'
 refine Zf4 a I'.stkFree I'.ok.frames I'.stack rfl λh' a'=>?_
 exact⟨e,x.cls,dx,H',rfl,⟨I'.os,a'.bare,ZiJ I.base a'.un (Heap.get?_none_of_le (Nat.le_refl _)),a'.hok,a'.no,gone,a'.at'⟩,q dx hf⟩
theorem ZjX{P:Program}{w:World}{K:Frag}{mg:Str->Option Value}{base:Heap}{x qual:Str}{st:Stmt}{f:Addr}{fd:FuncData}{N ps:List Str}{k:Nat}{sp:Sp}(F:Fun K x qual st f fd)(S:FnScope N ps (Ze st))(len:∀vs H Q E,sp vs H Q E->vs.length=ps.length)(hbody:∀(cdv:Value) (A:Around) (outer:List PySem.Env) (s:Shared) (H:Hp) (vs:List V) (Q:VK) (E:XK),Room k (A.deeper (envOfC qual (Ze st) s.heap.objs.size f cdv))->HOk P w H s.heap->sp vs H Q E ->
  ∃t,PSs (cxOf (CXF P w) P w K mg base N qual (Ze st) f cdv A outer s H E) (Qi st) t/\t { nx:=λ_ H'=>Q .non H',rt:=Q } (start N vs) H):FnOk P w K mg base (CXF P w) (k+1) f fd ps sp:=by
 obtain⟨oc,od,kV,doc,pm,an,cdv,ct,osl,rfl,lk,hcd⟩:=F.ex
 exact fn_of lk hcd S len λA outer s H vs Q E hr hk hsp=>hbody cdv A outer s H vs Q E hr hk hsp
noncomputable def spF(K:Frag)(fns:List Fn)(gv:List T)(k f:Nat):Sp:=λvs H Q E=>∃cm m ws,MemR K cm m H/\RWs K cm m H ws vs/\OkR K (J8 fns gv k f ws m) (xrE K E) cm m H λw cm' m' H'=>∀v,RW K cm' m' H' w v->Q v H'
noncomputable def FOk(P:Program)(w:World)(K:Frag)(mg:Str->Option Value)(base:Heap)(fns:List Fn)(gv:List T)(k:Nat)(x:Str)(fi:Nat):Prop:=
 ∃f fd ps,mg x=some (.ref f)/\keepIn K (.ref f)=true/\Binds K fd ps []/\FnOk P w K mg base (CXF P w) k f fd ps (spF K fns gv k fi)
section
variable{K:Frag}{cm cm':List Addr}{m m':Mem}{H H':Hp}{X:Cx}{fns:List Fn}{gv:List T}
variable{a b c e:Expr}{es:List Expr}{ea eb ec:E}{eas:Es}{pos p p2:Pos}{k n:Nat}
theorem Zhu{fi:Nat}{x:Str}{xr:XR}(lk:Lk X xr)(F:FOk X.prog X.w X.K X.mg X.base fns gv k x fi)(hr:Room k X.A)(hg:Gl X x)(ha:PA X (e::es) (tA X.K (J8 fns gv k) gv xr eas))(hdb:(x==("__debug__" : Str))=false:=by decide)(he:notStar e=true:=by rfl)(hpl:es.all notStar=true:=by rfl):
  PE X (.Call (.Name x p) (e::es) [] pos) (tE X.K (J8 fns gv k) gv xr (.call fi eas)):=by
 obtain⟨f,fd,ps,hm,hk,hb,F⟩:=F
 refine PE.mono (Zjo F hr hg hm hk hb (dvs:=[]) .nil (E:=EX X.K xr) lk.passes ha hdb (Qn he) (JK hpl)) ?_
 rintro σ H Q ⟨env,cm,m,hE,M,ho⟩
 rw[ev]at ho
 refine⟨env,cm,m,hE,M,ho.bind.mono λws cm1 m1 H1 x1 M1 o1 vs rvs=>?_⟩
 show spF X.K fns gv k fi (vs++[]) H1 Q (EX X.K xr)
 rw[List.append_nil]
 exact⟨cm1,m1,ws,M1,rvs,o1.toE⟩
theorem QQ{i n:Nat}{c:Bool×List T}(h:(m.take n)[i]?=some (some c)):m[i]?=some (some c)/\i<n:=by
 rw[List.getElem?_take]at h
 split at h
 ·exact⟨h,‹_›⟩
 ·cases h
theorem Qd{i n:Nat}(h:i<n):(cm.take n)[i]?=cm[i]?:=by rw[List.getElem?_take,if_pos h]
theorem Ja{n:Nat}{a:Addr}(h:Zr cm m a):Zr (cm.take n) (m.take n) a:=λi q e=>by
 obtain⟨e1,hi⟩:=QQ e
 rw[Qd hi]
 exact h i q e1
theorem ZgU(M:MemR K cm m H)(n:Nat):MemR K (cm.take n) (m.take n) H/\∀t v,RT K cm m H t v->RT K (cm.take n) (m.take n) H t v:=by
 have sm:∀t v,RT K cm m H t v->RT K (cm.take n) (m.take n) H t v:=λt v r=>r.same (λ_ _ z=>z) λ_ z _=>Ja z
 refine⟨⟨by rw[List.length_take,List.length_take,M.len],λi j a q r e1 e2 f1 f2=>?_,λi q e=>?_⟩,sm⟩
 ·obtain⟨e1,h1⟩:=QQ e1
  obtain⟨e2,h2⟩:=QQ e2
  rw[Qd h1]at f1
  rw[Qd h2]at f2
  exact M.inj i j a q r e1 e2 f1 f2
 ·obtain⟨e1,h1⟩:=QQ e
  obtain⟨a,vs,q1,q2,q3,q4⟩:=M.at' i q e1
  exact⟨a,vs,by rw[Qd h1];exact q1,q2,q3,Zg (λ_ _ z=>sm _ _ z) q4⟩
theorem ZgV(M:MemR K cm m H)(x:Ext cm m H cm' m' H'):Ext cm m H (cm'.take m.length) (m'.take m.length) H':=by
 refine⟨λi a h=>?_,by rw[List.length_take];have:=x.len;omega,λi ts h=>?_,λa o h n=>⟨(x.keep a o h n).1,Ja (x.keep a o h n).2⟩⟩
 ·have hi:=(List.getElem?_eq_some_iff.mp h).1
  rw[M.len]at hi
  rw[Qd hi]
  exact x.pre i a h
 ·have hi:=(List.getElem?_eq_some_iff.mp h).1
  rw[List.getElem?_take,if_pos hi]
  exact x.lent i ts h
theorem fin_ok{xr:XR}{cell:Bool}{fl:Flow}{Q:VK}{nn:Nat}(M:MemR K cm m H)(x:Ext cm m H cm' m' H')(M':MemR K cm' m' H')(ho:OkR K (fin m.length cell fl m') xr cm m H λw cm' m' H'=>∀v,RW K cm' m' H' w v->Q v H'):
  Zdh K nn { nx:=λ_ H'=>Q .non H',rt:=Q } fl cm' m' H':=by
 obtain⟨Mt,st⟩:=ZgU M' m.length
 have xt:=ZgV M x
 cases fl with
 |next env=>exact λσ _ _=>OkR.to (a:=W.t .non) ho xt Mt _ .non
 |brk env=>exact ho.elim
 |cont env=>exact ho.elim
 |ret w =>
  intro v rv
  cases w with
  |t t=>exact OkR.to (a:=W.t t) ho xt Mt v (st t v rv)
  |f a=>exact ho.elim
  |x _ _ _=>exact ho.elim
  |c i =>
   unfold fin at ho
   dsimp only at ho
   split at ho
   ·rename_i hi
    obtain⟨a,h1,h2⟩:=rv
    exact OkR.to ho xt Mt v ⟨a,by rw[Qd hi];exact h1,h2⟩
   ·rename_i hi
    split at ho
    ·rename_i ts e
     obtain⟨a,h1,h2⟩:=rv
     obtain⟨a',vs,q1,q2,q3,q4⟩:=M'.at' i _ e
     rw[h1]at q1;cases q1
     have na:Zr (cm'.take m.length) (m'.take m.length) a:=λj q ej z=>by
      obtain⟨ej,hj⟩:=QQ ej
      rw[Qd hj]at z
      have:=M'.inj j i a _ _ ej e z h1
      omega
     have lt:(cm'.take m.length).length=m.length:=by rw[List.length_take,M'.len];have:=x.len;omega
     have lm:(m'.take m.length).length=m.length:=by rw[List.length_take];have:=x.len;omega
     split at ho
     ·-- a list that may change is handed back
      have nl:∀b,Zr cm' m' b->Zr (cm'.take m.length++[a]) (m'.take m.length++[some (false,ts)]) b:=λb n=>by
       refine Zas (by rw[lt,lm]) (Ja n) λz=>?_
       subst z
       exact n i _ e h1
      have sm:∀t v,RT K cm' m' H' t v->RT K (cm'.take m.length++[a]) (m'.take m.length++[some (false,ts)]) H' t v:=λt v r=>r.same (λ_ _ z=>z) λb z _=>nl b z
      have cs:∀{j:Nat}{c:Bool×List T},(m'.take m.length++[some (false,ts)])[j]?=some (some c)->((m'.take m.length)[j]?=some (some c)/\j<m.length)∨(j=m.length/\c=(false,ts)):=λ{j c} ej=>by
       by_cases hj:j<m.length
       ·rw[List.getElem?_append_left (by rw[lm];exact hj)]at ej
        exact .inl ⟨ej,hj⟩
       ·by_cases hj2:j=m.length
        ·subst hj2
         rw[List.getElem?_append_right (by rw[lm];exact Nat.le_refl _),lm,Nat.sub_self]at ej
         cases ej
         exact .inr ⟨rfl,rfl⟩
        ·rw[List.getElem?_eq_none (by rw[List.length_append,lm];simp;omega)]at ej
         cases ej
      have cl:∀{j:Nat},j<m.length->(cm'.take m.length++[a])[j]?=(cm'.take m.length)[j]?:=λ{j} hj=>List.getElem?_append_left (by rw[lt];exact hj)
      have cp:(cm'.take m.length++[a])[m.length]?=some a:=by
       rw[List.getElem?_append_right (by rw[lt];exact Nat.le_refl _),lt,Nat.sub_self]
       rfl
      refine OkR.to (cm':=cm'.take m.length++[a]) ho ⟨λj b h=>?_,by rw[List.length_append,lm];simp,λj us h=>?_,λb o h nb=>⟨(x.keep b o h nb).1,nl b (x.keep b o h nb).2⟩⟩ ⟨by rw[List.length_append,List.length_append,lt,lm];rfl,λj1 j2 b c1 c2 e1 e2 f1 f2=>?_,λj c ej=>?_⟩ v ⟨a,cp,h2⟩
      ·have hj:=(List.getElem?_eq_some_iff.mp h).1
       rw[M.len]at hj
       rw[cl hj]
       exact xt.pre j b h
      ·have hj:=(List.getElem?_eq_some_iff.mp h).1
       rw[List.getElem?_append_left (by rw[lm];exact hj)]
       exact xt.lent j us h
      ·rcases cs e1 with⟨g1,l1⟩|⟨k1,_⟩
       ·rw[cl l1]at f1
        rcases cs e2 with⟨g2,l2⟩|⟨k2,_⟩
        ·rw[cl l2]at f2
         exact Mt.inj j1 j2 b _ _ g1 g2 f1 f2
        ·rw[k2,cp]at f2;cases f2
         exact absurd f1 (na j1 _ g1)
       ·rw[k1,cp]at f1;cases f1
        rcases cs e2 with⟨g2,l2⟩|⟨k2,_⟩
        ·rw[cl l2]at f2
         exact absurd f2 (na j2 _ g2)
        ·rw[k1,k2]
      ·rcases cs ej with⟨g,l⟩|⟨kk,z⟩
       ·obtain⟨gg,_⟩:=QQ g
        obtain⟨b,ws,w1,w2,w3,w4⟩:=M'.at' j c gg
        exact⟨b,ws,by rw[cl l,Qd l];exact w1,w2,w3,Zg (λ_ _ z=>sm _ _ z) w4⟩
       ·rw[kk,z]
        exact⟨a,vs,cp,q2,q3,Zg (λ_ _ z=>sm _ _ z) q4⟩
     ·subst h2
      exact OkR.to (a:=W.t (.lst ts)) ho xt Mt _ (RT.mlst q2 na (Zg (λ_ _ z=>st _ _ z) q4))
    ·exact ho.elim
theorem ZiP{N:List Str}{ws:List W}{vs:List V}{j:Nat}(r:RWs K cm m H ws vs)(hj:j=N.length-vs.length):EnvR K cm m H (ws.map some++List.replicate j none) (L2.start N vs):=λi w e=>by
 unfold L2.start
 have hl:=r.length
 by_cases hi:i<ws.length
 ·rw[List.getElem?_append_left (by simpa using hi),List.getElem?_map]at e
  cases q:ws[i]? with
  |none=>rw[q]at e;cases e
  |some w' =>
   rw[q]at e;cases e
   obtain⟨v,h1,h2⟩:=Zy r q
   refine⟨v,?_,h2⟩
   rw[List.getElem?_append_left (by rw[List.length_map];omega),List.getElem?_map,h1]
   rfl
 ·rw[List.getElem?_append_right (by simpa using hi),List.getElem?_replicate]at e
  split at e<;>cases e
theorem Zfa{N:List Str}{vs:List V}(h:vs.length<=N.length):(L2.start N vs).length=N.length:=by
 unfold L2.start
 rw[List.length_append,List.length_map,List.length_replicate]
 omega
theorem fn_okW{P:Program}{w:World}{mg:Str->Option Value}{base:Heap}{x qual:Str}{st:Stmt}{f:Addr}{fd:FuncData}{N ps:List Str}{fi:Nat}{d:Fn}(F:Fun K x qual st f fd)(S:FnScope N ps (Ze st))(hd:fns[fi]?=some d)(hps:d.ps=ps.length)(hn:d.n=N.length)(hbody:∀(cdv:Value) (A:Around) (outer:List PySem.Env) (s:Shared) (H:Hp) (E:XK),Room k (A.deeper (envOfC qual (Ze st) s.heap.objs.size f cdv))->∀(xe:Value->Shared->Prop) (pn:List (Addr×Obj)) (xr:XR),
   Go (asX (cxOf (CXF P w) P w K mg base N qual (Ze st) f cdv A outer s H E) xe pn) xr->PSs (asX (cxOf (CXF P w) P w K mg base N qual (Ze st) f cdv A outer s H E) xe pn) (Qi st) (tS K (J8 fns gv k) gv xr N.length d.body)):
  FnOk P w K mg base (CXF P w) (k+1) f fd ps (spF K fns gv (k+1) fi):=by
 have hpl:ps.length<=N.length:=by have:=congrArg List.length S.pre;rw[List.length_take]at this;omega
 have len:∀{ws:List W}{m:Mem}{cm:List Addr}{H:Hp}{xr:XR}{post:W->List Addr->Mem->Hp->Prop},OkR K (J8 fns gv (k+1) fi ws m) xr cm m H post->ws.length=d.ps/\OkR K ((ex (J8 fns gv k) gv d.body (ws.map some++List.replicate (d.n-d.ps) none) m).bind λfl m'=>fin m.length d.cell fl m') xr cm m H post:=λ{ws m cm H xr post} h=>by
  rw[J8,hd]at h
  dsimp only at h
  by_cases hc:ws.length=d.ps
  ·rw[if_pos hc]at h;exact⟨hc,h⟩
  ·rw[if_neg hc]at h;exact h.elim
 refine ZjX F S (λvs H Q E ⟨cm,m,ws,M,r,ho⟩=>by rw[<-r.length,(len ho).1,hps]) (λcdv A outer s H vs Q E hr hk ⟨cm,m,ws,M,r,ho⟩=>?_)
 obtain⟨hl,ho⟩:=len ho
 have hv:vs.length=ps.length:=by rw[<-r.length,hl,hps]
 refine⟨_,hbody cdv A outer s H E hr _ _ (xrE K E) ZjV,Zfa (by omega),ws.map some++List.replicate (d.n-d.ps) none,cm,m,ZiP r (by rw[hn,hps,hv]),M,?_⟩
 exact ho.bind0.mono λfl cm1 m1 H1 x1 M1 o1=>fin_ok M x1 M1 o1
theorem ZjY{P:Program}{w:World}{mg:Str->Option Value}{base:Heap}{f:Addr}{fd:FuncData}{ps:List Str}{fi:Nat}:FnOk P w K mg base (CXF P w) 0 f fd ps (spF K fns gv 0 fi):=by
 have no:∀vs H Q E,¬spF K fns gv 0 fi vs H Q E:=λvs H Q E ⟨cm,m,ws,M,r,ho⟩=>by
  rw[J8]at ho
  exact ho
 exact⟨λvs H Q E h=>absurd h (no vs H Q E),λA outer s H args us vs Q E _ _ _ _ h=>absurd h (no vs H Q E)⟩
end
end Mi
namespace Mi
open PySem PySem.Spec PyProof.Rows L2 PySem.W
section
variable{X:Cx}{xr:XR}{call:Nat->List W->Mem->Res W}{gv:List T}{n:Nat}
noncomputable def unS(i:Option Nat)(σ:L2.St):L2.St:=match i with
 |some j=>σ.set j none
 |none=>σ
end
end Mi
namespace Mi
open PySem PySem.Spec PyProof.Rows L2
section
variable{K:Frag}{xr:XR}{X:Cx}{call:Nat->List W->Mem->Res W}{gv:List T}
variable{e:Expr}{ea:E}{pos:Pos}{rest:List Stmt}{k:S}{n:Nat}
theorem vr(i:Nat){x:Str}{pos:Pos}(hN:X.N[i]?=some x:=by rfl)(hv:Vis X.env.scope x:=by first|exact Or.inl rfl|exact Or.inr (Or.inl rfl)|exact Or.inr (Or.inr rfl))(hd:(x==("__debug__" : Str))=false:=by decide)(hcd:(x==("__classdict__" : Str))=false:=by decide):PE X (.Name x pos) (tE X.K call gv xr (.var i)):=Zi8 hN hv hd hcd
theorem sg(i:Nat){x:Str}{px:Pos}(hN:X.N.Nodup)(h:PE X e (tE X.K call gv xr ea))(hk:PSs X rest (tS X.K call gv xr n k))(hn:X.N.length=n:=by rfl)(hi:X.N[i]?=some x:=by rfl)(hx:Loc X.env.scope x:=by first|exact Or.inl rfl|exact Or.inr rfl)(hs:swapsWith e (some (.Name x px)) pos.line X.env=pure false:=by rfl)(hf:X.fn x=true∨X.env.scope.names.lookup x=some .local:=by first|exact .inl rfl|exact .inr rfl):PSs X (.Assign [.Name x px] e pos::rest) (tS X.K call gv xr n (.asg i ea k)):=Zha hN hn hi hx h hk hs hf
theorem ZR(i:Nat){x:Str}{pos:Pos}(hN:X.N.Nodup)(hi:X.N[i]?=some x:=by rfl)(hx:Loc X.env.scope x:=by first|exact Or.inl rfl|exact Or.inr rfl)(hf:X.fn x=true∨X.env.scope.names.lookup x=some .local:=by first|exact .inl rfl|exact .inr rfl):PG X (.Name x pos) (gT X.K (.nm i)):=QZ hN hi hx hf
noncomputable def scOk(scope osc:Scope):Bool:=scope.kind==.function&&scope.names.all λp=>scope.names.lookup p.1==some p.2&&(p.2 != .free || osc.names.lookup p.1==some .cell || osc.names.lookup p.1==some .free)
noncomputable def Ziq(N' N:List Str)(own:Nat)(keep:List Nat)(scope:Scope):Bool:=N'.length==own+keep.length&&(List.range keep.length).all λi=>match N'[own+i]?,keep[i]? with
 |some x,some j=>N[j]?==some x&&scope.names.any λp=>p.1==x&&p.2==.free
 |_,_=>false
theorem ZhS{N':List Str}{scope:Scope}{own:Nat}{keep:List Nat}{elt target iter:Expr}{ifs:List Expr}{gs:List Comprehension}{it:E}{tg:Tg}{cs:Es}{inner:E}(h1:scOk scope X.env.scope=true)(h2:Ziq N' X.N own keep scope=true)(pi:PI X target iter (tI X.K call gv xr it))(fs:∀x,foldedSetIterable iter X.env x=pure x)(ins:ZdY X xr call gv N' scope elt target ifs (⟨target,iter,ifs,0⟩::gs) tg cs inner)(dis:∀i∈tgS tg,i∉innS inner)(slt:∀i∈tgS tg++innS inner,i<own):
  CompK X xr call gv N' scope own keep elt target iter ifs gs it tg cs inner:=by
 unfold scOk at h1
 rw[Bool.and_eq_true]at h1
 obtain⟨hk,h1⟩:=h1
 have h1:=List.all_eq_true.mp h1
 unfold Ziq at h2
 rw[Bool.and_eq_true]at h2
 obtain⟨hl,h2⟩:=h2
 have h2:=List.all_eq_true.mp h2
 refine⟨⟨eq_of_beq hk,λp hp=>?_,λx hx=>?_⟩,eq_of_beq hl,λi x e=>?_,pi,fs,ins,dis,slt⟩
 ·have:=h1 p hp
  simp only[Bool.and_eq_true]at this
  exact eq_of_beq this.1
 ·have:=h1 _ hx
  simp only[Bool.and_eq_true,Bool.or_eq_true]at this
  rcases this.2 with(h|h)|h
  ·cases h
  ·exact .inl (eq_of_beq h)
  ·exact .inr (eq_of_beq h)
 ·have hlen:N'.length=own+keep.length:=eq_of_beq hl
  have hi:i<keep.length:=by
   have:=(List.getElem?_eq_some_iff.mp e).1
   omega
  have h:=h2 i (List.mem_range.mpr hi)
  rw[e]at h
  cases q:keep[i]? with
  |none=>rw[q]at h;cases h
  |some j =>
   rw[q]at h
   have h:(X.N[j]?==some x&&scope.names.any λp=>p.1==x&&p.2==.free)=true:=h
   rw[Bool.and_eq_true]at h
   refine⟨j,rfl,eq_of_beq h.1,?_⟩
   obtain⟨p,hp,hq⟩:=List.any_eq_true.mp h.2
   rw[Bool.and_eq_true]at hq
   rw[<-eq_of_beq hq.1]
   have:p.2=NameKind.free:=eq_of_beq hq.2
   rw[<-this]
   exact hp
theorem scr_of{H:Hp}{a:Addr}{ns:List Int}(hO:Only H)(hS:SqL K H a (ns.map V.int)):ZcI K H a ns:=by
 rcases hS with(h|⟨o,h⟩)|h
 ·rcases hO a with q|⟨o,xs,q⟩<;>rw[h]at q<;>cases q
 ·exact .inl ⟨o,h⟩
 ·exact .inr h
theorem law_sp{fns:List Fn}{k fi:Nat}{H:Hp}{a:Addr}{ns:List Int}{E:XK}(hO:Only H)(hS:SqL K H a (ns.map V.int))(h:∃m,J8 fns gv k fi [.t (.scr ns)] []=.ok (.t (.bl true)) m):spF K fns gv k fi [.ref a] H (λv _=>v=.bl true) E:=by
 obtain⟨m,h⟩:=h
 refine⟨[],[],[.t (.scr ns)],⟨rfl,λi j a p q e=>by simp at e,λi p e=>by simp at e⟩,.cons (.scr ns (scr_of hO hS)) .nil,?_⟩
 rw[h]
 intro cm' H' x M v rv
 cases RT.vbl rv
 rfl
inductive StrsV:List (List Nat)->List Value->Prop where
 |nil:StrsV [] []
 |cons {y:Str}{t:Tok}{cs:List Nat}{r:List (List Nat)}{us:List Value}:y.cps.toList=cs->StrsV r us->StrsV (cs::r) (.str y t::us)
theorem Zgi{mg:Str->Option Value}{x:Str}{a:Addr}{its:Array Value}{nn:Nat}{sl:Array (Option Value)}{css:List (List Nat)}(h:mg x=some (.ref a))(l:K.lookup a=some ⟨.type "tuple",none,.seq its nn,sl⟩)(hz:its.size<=sizeLine)(hs:StrsV css its.toList):ZgN K mg x (.tup (css.map .str)):=by
 refine⟨_,.ref a,h,rfl,λcm m H=>?_⟩
 have go:∀{css:List (List Nat)}{us:List Value},StrsV css us->Vals (css.map λc=>V.str ⟨c.toArray⟩) us/\RTs K cm m H (css.map .str) (css.map λc=>V.str ⟨c.toArray⟩):=λ{css us} h=>by
  induction h with
  |nil=>exact⟨.nil,.nil⟩
  |@cons y t cs r us e _ ih =>
   refine⟨.cons ?_ ih.1,.cons (.str cs) ih.2⟩
   show ∃t',Value.str y t=Value.str ⟨cs.toArray⟩ t'
   rw[<-Zic e]
   exact⟨t,rfl⟩
 exact .mtup (.inr ⟨_,its,nn,l,rfl,rfl,hz,(go hs).1,rfl⟩) (go hs).2
end
section
variable{K:Frag}{cm:List Addr}{m:Mem}{H:Hp}{xr:XR}{X:Cx}{call:Nat->List W->Mem->Res W}{gv:List T}
variable{a b c e:Expr}{es:List Expr}{ea eb ec:E}{eas:Es}{pos p p2:Pos}{rest:List Stmt}{k:S}{n:Nat}
theorem Zez:MtR X "list.append" (rM X.K xr .append):=by
 rintro pins s σ H x xs v us Q I rx rs ⟨cm,m,w,ws,M,rw',rws,ho⟩
 cases w with
 |t t=>exact ho.elim
 |f a=>exact ho.elim
 |x _ _ _=>exact ho.elim
 |c i =>
  have ho:OkR X.K ((frzs ws m).bind λts m=>match m[i]? with
   |some (some (false,xs))=>match mutM .append xs ts with
    |some (t,ys)=>.ok (W.t t) (m.set i (some (false,ys)))
    |none=>.stuck
   |_=>.stuck) xr cm m H _:=ho
  obtain⟨ts,m2,e2,o2⟩:=Jr ho
  obtain⟨x2,M2,r2⟩:=JB M rws e2
  obtain⟨a,ha,rfl⟩:=rw'
  split at o2
  ·rename_i ys e3
   split at o2
   ·rename_i t zs e4
    obtain⟨b,vs,q1,q2,q3,q4⟩:=M2.at' i _ e3
    rw[ha]at q1;cases q1
    have l4:=q4.length
    dsimp only at l4
    have hz:=Zz
    match ts,r2,e4 with
    |[t1],.cons r3 .nil,e4 =>
     unfold mutM at e4
     dsimp only at e4
     split at e4<;>cases e4
     rename_i hlt
     obtain⟨x5,M5⟩:=Jt M2 e3 ha (ZG q4 (.cons r3 .nil))
     exact ZfY pins s σ H _ _ v us Q I rx rs ⟨a,vs,_,rfl,rfl,q2,by omega,OkR.to o2 (x2.trans x5) M5 _ .non⟩
    |[],_,e4=>cases e4
    |_::_::_,_,e4=>cases e4
   ·exact o2.elim
  ·exact o2.elim
theorem Zeo{o:Expr}{apos cpos:Pos}(ho:PE X o (tE X.K call gv xr ea))(ha:PA X [e] (tA X.K call gv xr eas))(hbase:attributeBase o "append" X.env (eval o X.env)=eval o X.env:=by rfl)(hline:(apos.endLine==cpos.line)=true:=by rfl)(hs:notStar e=true:=by rfl):
  PE X (.Call (.Attribute o "append" apos) [e] [] cpos) (tE X.K call gv xr (.mth .append ea eas)):=by
 refine PE.mono (Zjp PySem.F.plainAttrs_list PySem.F.slot_list_append PySem.F.type_list_append (Zez (xr:=xr)) ho ha hbase (few1 hs) hline (Qn hs) (JK rfl)) ?_
 rintro σ H Q ⟨env,cm,m,hE,M,hq⟩
 rw[ev]at hq
 refine⟨env,cm,m,hE,M,hq.bind.mono λw cm1 m1 H1 x1 M1 o1 v rv=>?_⟩
 obtain⟨ht,o1⟩:=Zbd o1
 refine⟨?_,env,cm1,m1,hE.ext x1 M M1,M1,o1.bind.mono λws cm2 m2 H2 x2 M2 o2 vs rvs=>?_⟩
 ·cases w with
  |t t=>cases ht
  |f a=>cases ht
  |x _ _ _=>cases ht
  |c i =>
   obtain⟨a,h1,rfl⟩:=rv
   have ht:(match m1[i]? with
    |some (some _)=>true
    |_=>false)=true:=ht
   split at ht
   ·rename_i c e1
    obtain⟨b,vs,q1,q2,_⟩:=M1.at' i _ e1
    rw[h1]at q1;cases q1
    exact .inl ⟨rfl,vs,.of q2⟩
   ·cases ht
 ·exact⟨cm2,m2,w,ws,M2,rv.ext x2 M1 M2,rvs,o2⟩
theorem Zee{body:List Stmt}{sb:S}(hp:PassesOwn (model X.prog X.w) X.A X.env X.xe)(hc:PT X c (tT X.K call gv xr ec))(hb:PSs X body (tS X.K call gv xr n sb))(hk:PSs X rest (tS X.K call gv xr n k)):
  PSs X (.While c body [] pos::rest) (tS X.K call gv xr n (.whil ec sb k)):=by
 refine PSs.mono (Ql (Zhb hp hc hb) hk) ?_
 rintro D σ0 H0 ⟨hl0,env0,cm0,m0,hE0,M0,ho⟩
 rw[ex]at ho
 let g:Flow->Mem->Res Flow:=λfl m=>match fl with
  |.next env=>ex call gv k env m
  |fl=>.ok fl m
 let P:Flow->List Addr->Mem->Hp->Prop:=λfl cm m H=>OkR X.K (g fl m) xr cm m H (λfl cm' m' H'=>Zdh X.K n D fl cm' m' H')
 have ho:OkR X.K ((Qz (λenv m=>(ev call gv ec env m).bind Z0) (λenv m=>ex call gv sb env m) turns env0 m0).bind g) xr cm0 m0 H0 (λfl cm' m' H'=>Zdh X.K n D fl cm' m' H'):=ho
 refine⟨λμ σ H=>σ.length=n/\∃env cm m,EnvR X.K cm m H env σ/\MemR X.K cm m H/\OkR X.K (Qz (λenv m=>(ev call gv ec env m).bind Z0) (λenv m=>ex call gv sb env m) μ env m) xr cm m H P,⟨turns,hl0,env0,cm0,m0,hE0,M0,ho.bind⟩,?_⟩
 rintro μ σ H ⟨hl,env,cm,m,hE,M,hq⟩
 cases μ with
 |zero=>rw[Qz]at hq;exact hq.elim
 |succ μ =>
  rw[Qz]at hq
  refine⟨env,cm,m,hE,M,hq.bind.mono λb cm1 m1 H1 x1 M1 o1=>?_⟩
  cases b with
  |false=>exact iteF ⟨hl,env,cm1,m1,hE.ext x1 M M1,M1,OkR.now (a:=Flow.next env) o1 M1⟩
  |true =>
   have o1:OkR X.K ((ex call gv sb env m1).bind λfl m=>match fl with
    |.next env=>Qz (λenv m=>(ev call gv ec env m).bind Z0) (λenv m=>ex call gv sb env m) μ env m
    |.cont env=>Qz (λenv m=>(ev call gv ec env m).bind Z0) (λenv m=>ex call gv sb env m) μ env m
    |.brk env=>.ok (.next env) m
    |.ret w=>.ok (.ret w) m) xr cm1 m1 H1 P:=o1
   refine iteT ⟨λσ' H'=>σ'.length=n/\∃env cm m,EnvR X.K cm m H' env σ'/\MemR X.K cm m H'/\OkR X.K (Qz (λenv m=>(ev call gv ec env m).bind Z0) (λenv m=>ex call gv sb env m) μ env m) xr cm m H' P,λσ' H' h=>⟨μ,Nat.lt_succ_self _,h⟩,hl,env,cm1,m1,hE.ext x1 M M1,M1,o1.bind.mono λfl cm2 m2 H2 x2 M2 o2=>?_⟩
   cases fl with
   |next env2=>exact λσ2 hl2 hE2=>⟨hl2,env2,cm2,m2,hE2,M2,o2⟩
   |cont env2=>exact λσ2 hl2 hE2=>⟨hl2,env2,cm2,m2,hE2,M2,o2⟩
   |brk env2=>exact λσ2 hl2 hE2=>⟨hl2,env2,cm2,m2,hE2,M2,OkR.now (a:=Flow.next env2) o2 M2⟩
   |ret w=>exact OkR.now (xr:=xr) (a:=Flow.ret w) (OkR.now (a:=Flow.ret w) o2 M2) M2
theorem ZdH(i j:Nat){x y:Str}{px py:Pos}{kk:Nat}(hc:X.calm=true)(hN:X.N.Nodup)(hi:X.N[i]?=some x:=by rfl)(hj:X.N[j]?=some y:=by rfl)(hx:Loc X.env.scope x:=by first|exact Or.inl rfl|exact Or.inr rfl)(hy:Loc X.env.scope y:=by first|exact Or.inl rfl|exact Or.inr rfl)(hf:X.fn x=true∨X.env.scope.names.lookup x=some .local:=by first|exact .inl rfl|exact .inr rfl)(hg:X.fn y=true∨X.env.scope.names.lookup y=some .local:=by first|exact .inl rfl|exact .inr rfl)(hs:(assignEach [.Name x px,.Name y py] X.env).map (·.2)=assign (.Name x px) X.env::(assignEach [.Name y py] X.env).map (·.2):=by rfl)(hs2:(assignEach [.Name y py] X.env).map (·.2)=assign (.Name y py) X.env::(assignEach [] X.env).map (·.2):=by rfl)(hn:(assignEach [.Name x px,.Name y py] X.env).length=2:=by rfl)(hst:(assignEach [.Name x px,.Name y py] X.env).findIdx? (·.1)=none:=by rfl):PG X (.Tuple [.Name x px,.Name y py] kk pos) (gT X.K (.tp [i,j])):=by
 rintro pins s σ H v u Q I r ⟨a,xs,e1,h1,h2,h3⟩
 refine Zii hc (QB (QZ hN hi hx hf) (QB (QZ hN hj hy hg) ZcX hs2) hs) hn hst pins s σ H v u Q I r ⟨a,xs,e1,h1,h2,?_⟩
 match xs,h2 with
 |[v1,v2],_=>exact⟨v1,[v2],rfl,v2,[],rfl,rfl,h3⟩
end
section
variable{xr:XR}{X:Cx}{call:Nat->List W->Mem->Res W}{gv:List T}
variable{e:Expr}{es:List Expr}{eas:Es}{pos p:Pos}
theorem Zjh(hg:Gl X "len")(hm:X.mg "len" = none)(ha:PA X (e::es) (tA X.K call gv xr eas))(he:notStar e=true)(hpl:es.all notStar=true):PE X (.Call (.Name "len" p) (e::es) [] pos) (tE X.K call gv xr (.blt .len eas)):=ZfH ZgD (by decide +kernel) hg hm ha (by decide) (by decide) he hpl
theorem Zhq(hg:Gl X "int")(hm:X.mg "int" = none)(ha:PA X (e::es) (tA X.K call gv xr eas))(he:notStar e=true)(hpl:es.all notStar=true):PE X (.Call (.Name "int" p) (e::es) [] pos) (tE X.K call gv xr (.blt .int eas)):=ZcY ZgE (by decide +kernel) hg hm ha (by decide) (by decide) he hpl
theorem Zel(hg:Gl X "tuple")(hm:X.mg "tuple" = none)(ha:PA X (e::es) (tA X.K call gv xr eas))(he:notStar e=true)(hpl:es.all notStar=true)(hc:X.calm=true:=by rfl):PE X (.Call (.Name "tuple" p) (e::es) [] pos) (tE X.K call gv xr (.blt .tuple eas)):=ZcY (Zdo hc) (by decide +kernel) hg hm ha (by decide) (by decide) he hpl
theorem ZfG(hg:Gl X "list")(hm:X.mg "list" = none)(ha:PA X (e::es) (tA X.K call gv xr eas))(he:notStar e=true)(hpl:es.all notStar=true):PE X (.Call (.Name "list" p) (e::es) [] pos) (tE X.K call gv xr (.blt .list eas)):=ZcY ZeO (by decide +kernel) hg hm ha (by decide) (by decide) he hpl
end
structure Bd (X:Cx) (st:List Stmt) (t:TS):Prop where
 h:PSs X st t
theorem Ziu{K:Frag}{fns:List Fn}{gv:List T}{k:Nat}{P:Program}{w:World}{mg:Str->Option Value}{base:Heap}{x qual:Str}{st:Stmt}{f:Addr}{fd:FuncData}{N ps:List Str}{fi np n:Nat}{body:S}{cell:Bool}(F:Fun K x qual st f fd)(S:FnScope N ps (Ze st))(hd:fns[fi]?=some ⟨np,n,body,cell⟩)(hps:np=ps.length)(hn:N.length=n)(hbody:∀(cdv:Value) (A:Around) (outer:List PySem.Env) (s:Shared) (H:Hp) (E:XK),Room k (A.deeper (envOfC qual (Ze st) s.heap.objs.size f cdv)) ->
   ∀(xe:Value->Shared->Prop) (pn:List (Addr×Obj)) (xr:XR),Go (asX (cxOf (CXF P w) P w K mg base N qual (Ze st) f cdv A outer s H E) xe pn) xr->Bd (asX (cxOf (CXF P w) P w K mg base N qual (Ze st) f cdv A outer s H E) xe pn) (Qi st) (tS K (J8 fns gv k) gv xr n body)):
  FnOk P w K mg base (CXF P w) (k+1) f fd ps (spF K fns gv (k+1) fi):=by
 subst hn
 exact fn_okW F S hd hps rfl λcdv A outer s H E hr xe pn xr go=>(hbody cdv A outer s H E hr xe pn xr go).h
section
variable{K:Frag}{X:Cx}{fns:List Fn}{gv:List T}{xr:XR}{call:Nat->List W->Mem->Res W}
variable{e:Expr}{es:List Expr}{eas:Es}{pos p:Pos}{k:Nat}
inductive TabOk (P:Program) (w:World) (K:Frag) (mg:Str->Option Value) (base:Heap) (fns:List Fn) (gv:List T) (k:Nat):List (Nat×Nat)->Prop where
 |nil:TabOk P w K mg base fns gv k []
 |cons {j fi a:Nat}{x:Str}{r:List (Nat×Nat)}:FOk P w K mg base fns gv k x fi->mg x=some (.ref a)->gv[j]?=some (.int (a:Int))->TabOk P w K mg base fns gv k r->TabOk P w K mg base fns gv k ((j,fi)::r)
end
section
variable{K:Frag}{cm:List Addr}{m:Mem}{H:Hp}{xr:XR}{X:Cx}{call:Nat->List W->Mem->Res W}{gv:List T}
variable{a b c e:Expr}{es:List Expr}{ea eb ec:E}{eas:Es}{pos p p2:Pos}{rest:List Stmt}{k:S}{n:Nat}
theorem X4(i0:Nat)(i1:Nat)(i2:Nat){x0 x1 x2:Str}{p0 p1 p2:Pos}{kk:Nat}(hc:X.calm=true)(hN:X.N.Nodup)(hi0:X.N[i0]?=some x0:=by rfl)(hi1:X.N[i1]?=some x1:=by rfl)(hi2:X.N[i2]?=some x2:=by rfl)(hx0:Loc X.env.scope x0:=by first|exact Or.inl rfl|exact Or.inr rfl)(hx1:Loc X.env.scope x1:=by first|exact Or.inl rfl|exact Or.inr rfl)(hx2:Loc X.env.scope x2:=by first|exact Or.inl rfl|exact Or.inr rfl)(hf0:X.fn x0=true∨X.env.scope.names.lookup x0=some .local:=by first|exact .inl rfl|exact .inr rfl)(hf1:X.fn x1=true∨X.env.scope.names.lookup x1=some .local:=by first|exact .inl rfl|exact .inr rfl)(hf2:X.fn x2=true∨X.env.scope.names.lookup x2=some .local:=by first|exact .inl rfl|exact .inr rfl)(hs0:(assignEach [.Name x0 p0,.Name x1 p1,.Name x2 p2] X.env).map (·.2)=assign (.Name x0 p0) X.env::(assignEach [.Name x1 p1,.Name x2 p2] X.env).map (·.2):=by rfl)(hs1:(assignEach [.Name x1 p1,.Name x2 p2] X.env).map (·.2)=assign (.Name x1 p1) X.env::(assignEach [.Name x2 p2] X.env).map (·.2):=by rfl)(hs2:(assignEach [.Name x2 p2] X.env).map (·.2)=assign (.Name x2 p2) X.env::(assignEach [] X.env).map (·.2):=by rfl)(hn:(assignEach [.Name x0 p0,.Name x1 p1,.Name x2 p2] X.env).length=3:=by rfl)(hst:(assignEach [.Name x0 p0,.Name x1 p1,.Name x2 p2] X.env).findIdx? (·.1)=none:=by rfl):PG X (.Tuple [.Name x0 p0,.Name x1 p1,.Name x2 p2] kk pos) (gT X.K (.tp [i0,i1,i2])):=by
 rintro pins s σ H v u Q I r ⟨a,xs,e1,h1,h2,h3⟩
 refine Zii hc (QB (QZ hN hi0 hx0 hf0) (QB (QZ hN hi1 hx1 hf1) (QB (QZ hN hi2 hx2 hf2) ZcX hs2) hs1) hs0) hn hst pins s σ H v u Q I r ⟨a,xs,e1,h1,h2,?_⟩
 match xs,h2 with
 |[v0,v1,v2],_=>exact⟨v0,[v1,v2],rfl,v1,[v2],rfl,v2,[],rfl,rfl,h3⟩
end
end Mi
namespace Mi
inductive Turns {α β:Type}(R:α->β->Prop):List α->List β->Prop where
 |nil:Turns R [] []
 |cons {a:α}{b:β}{as:List α}{bs:List β}:R a b->Turns R as bs->Turns R (a::as) (b::bs)
theorem X6{f:Env->Mem->Res (List T)}{tg:Tg}{env:Env}{P:Mem->Prop}{R:T->List T->Prop}:∀(ts:List T) (m:Mem),P m->(∀t∈ts,∀m,P m->∃env' xs m',Z7 tg t env=some env'/\f env' m=.ok xs m'/\P m'/\R t xs) ->
  ∃xss m',QM f tg ts env m=.ok xss.flatten m'/\P m'/\Turns R ts xss
 |[],m,hm,_=>⟨[],m,rfl,hm,.nil⟩
 |t::ts,m,hm,h=>by
  obtain⟨env',xs,m1,e1,e2,p1,r1⟩:=h t List.mem_cons_self m hm
  obtain⟨xss,m2,e3,p2,r2⟩:=X6 ts m1 p1 λt ht=>h t (List.mem_cons_of_mem _ ht)
  refine⟨xs::xss,m2,?_,p2,.cons r1 r2⟩
  rw[QM,e1]
  show(f env' m).bind _=_
  rw[e2]
  show(QM f tg ts env m1).bind _=_
  rw[e3]
  rfl
theorem Za8{f:Env->Mem->Res Flow}{tg:Tg}{P:Env->Mem->Prop}:∀(ts:List T) (env:Env) (m:Mem),P env m->(∀t∈ts,∀env m,P env m->∃env1 env2 m2,Z7 tg t env=some env1/\f env1 m=.ok (.next env2) m2/\P env2 m2) ->
  ∃env' m',Qp f tg ts env m=.ok (.next env') m'/\P env' m'
 |[],env,m,hm,_=>⟨env,m,rfl,hm⟩
 |t::ts,env,m,hm,h=>by
  obtain⟨env1,env2,m2,e1,e2,p2⟩:=h t List.mem_cons_self env m hm
  obtain⟨env3,m3,e3,p3⟩:=Za8 ts env2 m2 p2 λt ht=>h t (List.mem_cons_of_mem _ ht)
  refine⟨env3,m3,?_,p3⟩
  rw[Qp,e1]
  show(f env1 m).bind _=_
  rw[e2]
  exact e3
theorem Qa{α:Type}{xs:List α}{i:Int}(h0:0<=i)(h1:i<xs.length):∃x,atT xs i=some x/\x∈xs:=by
 have hi:i.toNat<xs.length:=by omega
 refine⟨xs[i.toNat],?_,List.getElem_mem hi⟩
 unfold atT ixOf
 rw[if_pos h0,if_pos h1]
 exact List.getElem?_eq_getElem hi
theorem strs_map{α:Type}(f:α->List Nat):∀xs:List α,strs? (xs.map λx=>.str (f x))=some (xs.map f)
 |[]=>rfl
 |x::xs=>by
  rw[List.map_cons,strs?,strs_map f xs]
  rfl
section
variable{call:Nat->List W->Mem->Res W}{gv:List T}
noncomputable def QD(call:Nat->List W->Mem->Res W)(gv:List T)(cs:Es)(inner:E)(env:Env)(m:Mem):Res (List T):=(tests call gv cs env m).bind λk m=>if k then(ev call gv inner env m).bind ZcH else .ok [] m
theorem Jh{own:Nat}{keep:List Nat}{it:E}{tg:Tg}{cs:Es}{inner:E}{env:Env}{m m0 m1 m2:Mem}{x:W}{ts out:List T}(h1:ev call gv it env m=.ok x m0)(h2:ZQ x m0=.ok ts m1)(h3:QM (QD call gv cs inner) tg ts (List.replicate own none++keep.map λi=>(env[i]?).join) m1=.ok out m2)(hz:out.length<=lim):ev call gv (.comp own keep it tg cs inner) env m=.ok (.t (.lst out)) (giveBack x m0 m2):=by
 have e:ev call gv (.comp own keep it tg cs inner) env m=(ev call gv it env m).only.bind λx m0=>(ZQ x m0).bind λts m =>
  (QM (QD call gv cs inner) tg ts (List.replicate own none++keep.map λi=>(env[i]?).join) m).only.bind λout m =>
   if out.length<=lim then .ok (.t (.lst out)) (giveBack x m0 m)else .stuck:=by rw[ev];rfl
 rw[e,h1]
 show(ZQ x m0).bind _=_
 rw[h2]
 show(QM (QD call gv cs inner) tg ts (List.replicate own none++keep.map λi=>(env[i]?).join) m1).only.bind _=_
 rw[h3]
 exact if_pos hz
theorem Js{tg:Tg}{it:E}{body k:S}{env env':Env}{m m0 m1 m2:Mem}{x:W}{ts:List T}(h1:ev call gv it env m=.ok x m0)(h2:ZQ x m0=.ok ts m1)(h3:Qp (ex call gv body) tg ts env m1=.ok (.next env') m2):
  ex call gv (.forr tg it body k) env m=ex call gv k env' (giveBack x m0 m2):=by
 rw[ex,h1]
 show(ZQ x m0).bind _=_
 rw[h2]
 show(Qp (ex call gv body) tg ts env m1).bind _=_
 rw[h3]
 rfl
end
section
variable{call:Nat->List W->Mem->Res W}{gv:List T}{env:Env}{m m1 m2:Mem}{k a b:S}{e:E}{w:W}
theorem Zh{α β:Type}(x:α)(m:Mem)(f:α->Mem->Res β):(Res.ok x m).bind f=f x m:=rfl
theorem only_k{α:Type}(x:α)(m:Mem):(Res.ok x m).only=.ok x m:=rfl
theorem view_k(x:T)(m:Mem):view (.t x) m=some x:=rfl
theorem pur_k(x:T)(m:Mem):pur (some x) m=.ok (.t x) m:=rfl
theorem Zkc(x:Bool)(m:Mem):ZcC (.t (.bl x)) m=.ok x m:=rfl
theorem Zbk(x:Bool)(m:Mem):Z0 (.t (.bl x)) m=.ok x m:=rfl
theorem frz_k(x:T)(m:Mem):frz (.t x) m=.ok x m:=rfl
theorem Zkg(x:List T)(m:Mem):ZcH (.t (.lst x)) m=.ok x m:=rfl
theorem intP_k(x:Int)(m:Mem):intP (.t (.int x)) m=.ok (some x) m:=rfl
theorem c_lt(i j:Int):cmpT .Lt (.int i) (.int j)=some (decide (i<j)):=rfl
theorem c_le(i j:Int):cmpT .LtE (.int i) (.int j)=some (decide (i<=j)):=rfl
theorem c_gt(i j:Int):cmpT .Gt (.int i) (.int j)=some (decide (j<i)):=rfl
theorem c_ge(i j:Int):cmpT .GtE (.int i) (.int j)=some (decide (j<=i)):=rfl
theorem Zh3(i j:Int):cmpT .Eq (.int i) (.int j)=some (i==j):=rfl
theorem c_neI(i j:Int):cmpT .NotEq (.int i) (.int j)=some (!(i==j)):=rfl
theorem c_eqB(i j:Bool):cmpT .Eq (.bl i) (.bl j)=some (i==j):=rfl
theorem c_neB(i j:Bool):cmpT .NotEq (.bl i) (.bl j)=some (!(i==j)):=rfl
theorem Zh2(i j:List Nat):cmpT .Eq (.str i) (.str j)=some (i==j):=rfl
theorem c_neS(i j:List Nat):cmpT .NotEq (.str i) (.str j)=some (!(i==j)):=rfl
theorem c_in1(i:Nat)(j:List Nat):cmpT .In (.str [i]) (.str j)=some (decide (i∈j)):=rfl
theorem c_isT(b x:Bool):cmpT .Is (.bl x) (.bl b)=some (x==b):=rfl
theorem Zdu(i j:Int):binT .Add (.int i) (.int j)=some (.int (i+j)):=rfl
theorem b_sub(i j:Int):binT .Sub (.int i) (.int j)=some (.int (i-j)):=rfl
theorem b_addL{a b:List T}(h:a.length+b.length<=lim):binT .Add (.lst a) (.lst b)=some (.lst (a++b)):=if_pos h
theorem ZeQ{i j:Int}(h:Xi i j=true):binT .Mult (.int i) (.int j)=some (.int (i*j)):=if_pos h
theorem Zkd{i j:Int}(h:0<j/\j<1073741824):binT .FloorDiv (.int i) (.int j)=some (.int (i / j)):=if_pos h
theorem Zdt{i j:Int}(h:0<j):binT .Mod (.int i) (.int j)=some (.int (i%j)):=if_pos h
theorem b_pow{i j:Int}(h:0<=j/\j<=1000/\i.natAbs<2^64):binT .Pow (.int i) (.int j)=some (.int (i^j.toNat)):=if_pos h
theorem x_tup(ts:List T)(i:Int):ixT (.tup ts) (.int i)=atT ts i:=rfl
theorem x_lst(ts:List T)(i:Int):ixT (.lst ts) (.int i)=atT ts i:=rfl
theorem x_scr(ts:List Int)(i:Int):ixT (.scr ts) (.int i)=(atT ts i).map .int:=rfl
theorem s_lst(ts:List T)(lo hi:Option Int):slT (.lst ts) lo hi=some (.lst (cut ts lo hi)):=rfl
theorem s_scr(ts:List Int)(lo hi:Option Int):slT (.scr ts) lo hi=some (.lst ((cut ts lo hi).map .int)):=rfl
theorem l_lst(ts:List T):bltT .len [.lst ts]=some (.int ts.length):=rfl
theorem l_tup(ts:List T):bltT .len [.tup ts]=some (.int ts.length):=rfl
theorem l_scr(ts:List Int):bltT .len [.scr ts]=some (.int ts.length):=rfl
theorem ZjN(b:Bool):bltT .int [.bl b]=some (.int (b2i b)):=rfl
theorem Zf6(ts:List T):bltT .tuple [.lst ts]=some (.tup ts):=rfl
theorem ZjM{i:Int}(h:i<2^62/\-(2^62)<=i):bltT .range1 [.int i]=some (.lst (rangeT 0 i.toNat)):=if_pos h
theorem ZiH:views [] m=some []:=rfl
theorem ZiI(x:T)(ws:List W):views (.t x::ws) m=(views ws m).map (x::·):=rfl
theorem ZdR:frzs [] m=.ok [] m:=rfl
theorem ZdS(x:T)(ws:List W):frzs (.t x::ws) m=(frzs ws m).bind λts m=>.ok (x::ts) m:=rfl
theorem Zn{i:Nat}(h:ev call gv e env m=.ok w m1):ex call gv (.asg i e k) env m=ex call gv k (env.set i (some w)) m1:=by rw[ex,h];rfl
theorem ZW(h:ev call gv e env m=.ok w m1):ex call gv (.ret e k) env m=.ok (.ret w) m1:=by rw[ex,h];rfl
theorem Xz(h:ev call gv e env m=.ok (.t (.bl true)) m1)(h2:ex call gv a env m1=.ok (.ret w) m2):ex call gv (.ife e a b k) env m=.ok (.ret w) m2:=by
 rw[ex,h]
 show(ex call gv a env m1).bind _=_
 rw[h2];rfl
theorem Qf(h:ev call gv e env m=.ok (.t (.bl false)) m1):ex call gv (.ife e a .done k) env m=ex call gv k env m1:=by rw[ex,h];rfl
theorem Zgm{c:Nat}{o i v:E}{x:T}{j:Int}{xs:List T}{q:Nat}(h1:ev call gv v env m=.ok (.t x) m1)(h2:ev call gv o env m1=.ok (.c c) m1)(h3:ev call gv i env m1=.ok (.t (.int j)) m1)(h4:m1[c]?=some (some (false,xs)))(h5:ixOf xs.length j=some q):
  ex call gv (.set o i v k) env m=ex call gv k env (m1.set c (some (false,xs.set q x))):=by
 rw[ex,h1]
 show((ev call gv o env m1).bind _)=_
 rw[h2]
 show((ev call gv i env m1).bind _)=_
 rw[h3]
 show(setM (.c c) (.t (.int j)) (.t x) m1).bind _=_
 have:setM (.c c) (.t (.int j)) (.t x) m1=.ok () (m1.set c (some (false,xs.set q x))):=by
  unfold setM
  dsimp only[frz,Res.bind]
  rw[h4]
  dsimp only
  rw[h5]
 rw[this];rfl
theorem Qg{n:Nat}{cell:Bool}{t:T}(h:m1.length=n):fin n cell (.ret (.t t)) m1=.ok (.t t) m1:=by
 show Res.ok (W.t t) (m1.take n)=_
 rw[<-h,List.take_length]
theorem Qt{c:Prop}[Decidable c]{b:S}{env:Env}{m m1 m2:Mem}{k:Nat}{cell:Bool}{X:Res W}{w w':W}(hX:X=if c then(ex call gv b env m).bind λfl m'=>fin k cell fl m' else .stuck)(hc:c)(key:ex call gv b env m=.ok (.ret w) m1)(hf:fin k cell (.ret w) m1=.ok w' m2):X=.ok w' m2:=by
 rw[hX,if_pos hc,key]
 exact hf
end
noncomputable def EVs:=And.intro @Zh (And.intro @only_k (And.intro @view_k (And.intro @pur_k (And.intro @Zkc (And.intro @Zbk (And.intro @frz_k (And.intro @Zkg (And.intro @intP_k (And.intro @c_lt (And.intro @c_le (And.intro @c_gt (And.intro @c_ge (And.intro @Zh3 (And.intro @c_neI (And.intro @c_eqB (And.intro @c_neB (And.intro @Zh2 (And.intro @c_neS (And.intro @c_in1 (And.intro @c_isT (And.intro @Zdu (And.intro @b_sub (And.intro @x_tup (And.intro @x_lst (And.intro @x_scr (And.intro @s_lst (And.intro @s_scr (And.intro @l_lst (And.intro @l_tup (And.intro @l_scr (And.intro @ZjN (And.intro @Zf6 (And.intro @ZiH (And.intro @ZiI (And.intro @ZdR (@ZdS))))))))))))))))))))))))))))))))))))
end Mi
namespace Mi
open PySem PySem.Spec PyProof.Rows L2
theorem ZbF:∀{a b:List Nat},nlt a b=false->nlt b a=false->a=b
 |[],[],_,_=>rfl
 |[],_::_,h,_=>by simp[nlt]at h
 |_::_,[],_,h=>by simp[nlt]at h
 |a::x,b::y,h1,h2=>by
  unfold nlt at h1 h2
  by_cases h:a<b
  ·simp[h]at h1
  ·by_cases h':b<a
   ·simp[h']at h2
   ·have e:a=b:=by omega
    subst e
    simp at h1 h2
    rw[ZbF h1 h2]
theorem Zin:∀{a b c:List Nat},nlt b a=false->nlt c b=false->nlt c a=false
 |a,b,[],h1,h2=>by
  cases b with
  |nil=>cases a with
   |nil=>rfl
   |cons _ _=>simp[nlt]at h1
  |cons _ _=>simp[nlt]at h2
 |[],_,_::_,_,_=>rfl
 |a::x,[],c::z,h1,h2=>by simp[nlt]at h1
 |a::x,b::y,c::z,h1,h2=>by
  unfold nlt at h1 h2 ⊢
  by_cases p1:b<a
  ·simp[p1]at h1
  ·by_cases p2:c<b
   ·simp[p2]at h2
   ·by_cases p3:a<b
    ·have:¬c<a:=by omega
     have q:a<c:=by omega
     simp[this,q]
    ·have e:a=b:=by omega
     subst e
     by_cases p4:a<c
     ·simp[p4,p2]
     ·have e:c=a:=by omega
      subst e
      simp at h1 h2 ⊢
      exact Zin h1 h2
theorem Zio:∀a b:List Nat,ltCps a b=nlt a b
 |[],[]=>by simp[ltCps,nlt]
 |[],_::_=>by simp[ltCps,nlt]
 |_::_,[]=>by simp[ltCps,nlt]
 |a::x,b::y=>by
  unfold ltCps nlt
  rw[Zio x y]
  by_cases h:a<b
  ·simp[h]
  ·by_cases h2:b<a
   ·have:¬a=b:=by omega
    simp[h,h2,this]
   ·have:a=b:=by omega
    subst this
    simp
theorem Zfs:∀(l:List (List Nat)) (x:List Nat),risingS ⟨x.toArray⟩ (l.map λc=>(⟨c.toArray⟩:Str))=true->(x::l).Pairwise (λa b=>nlt b a=false)
 |[],x,_=>List.pairwise_singleton _ _
 |y::l,x,h=>by
  rw[List.map_cons,risingS.eq_2,Bool.and_eq_true]at h
  have h1:nlt y x=false:=by
   have:=h.1
   rw[Zio]at this
   simpa using this
  have ih:=Zfs l y h.2
  refine List.pairwise_cons.mpr ⟨λz hz=>?_,ih⟩
  rcases List.mem_cons.mp hz with rfl|hz
  ·exact h1
  ·exact Zin h1 ((List.pairwise_cons.mp ih).1 z hz)
section
variable{K:Frag}{cm:List Addr}{m:Mem}{H:Hp}{xr:XR}{X:Cx}{call:Nat->List W->Mem->Res W}{gv:List T}
variable{a b c e:Expr}{es:List Expr}{ea eb ec:E}{eas:Es}{pos p p2:Pos}{rest:List Stmt}{k:S}{n:Nat}
theorem Ze9{us:List Value}{ss:List Str}(h:StrsAre us ss):∃ys:List (List Nat),ss=ys.map (λc=>(⟨c.toArray⟩:Str))/\Vals (ys.map λc=>V.str ⟨c.toArray⟩) us:=by
 induction h with
 |nil=>exact⟨[],rfl,.nil⟩
 |cons y t _ ih =>
  obtain⟨ys,rfl,h2⟩:=ih
  exact⟨y.cps.toList::ys,by simp,.cons ⟨t,by simp⟩ h2⟩
theorem ZiN(ys:List (List Nat)):RTs K cm m H (ys.map .str) (ys.map λc=>V.str ⟨c.toArray⟩):=by
 induction ys with
 |nil=>exact .nil
 |cons y ys ih=>exact .cons (.str y) ih
theorem Xv{α β:Type}{F:α->β->Prop}:∀{xs:List α}{ys:List β}(k:Nat),Paired F xs ys->Paired F (xs.eraseIdx k) (ys.eraseIdx k)
 |_,_,_,.nil=>.nil
 |_,_,0,.cons _ t=>t
 |_,_,k+1,.cons r t=>.cons r (Xv k t)
theorem ZfW:MtR X "list.pop" (rM X.K xr .popat):=by
 rintro pins s σ H x xs v us Q I rx rs ⟨cm,m,w,ws,M,rw',rws,ho⟩
 cases w with
 |t t=>exact ho.elim
 |f a=>exact ho.elim
 |x _ _ _=>exact ho.elim
 |c i =>
  have ho:OkR X.K ((frzs ws m).bind λts m=>match m[i]? with
   |some (some (false,xs))=>match mutM .popat xs ts with
    |some (t,ys)=>.ok (W.t t) (m.set i (some (false,ys)))
    |none=>.stuck
   |_=>.stuck) xr cm m H _:=ho
  obtain⟨ts,m2,e2,o2⟩:=Jr ho
  obtain⟨x2,M2,r2⟩:=JB M rws e2
  obtain⟨a,ha,rfl⟩:=rw'
  split at o2
  ·rename_i ys e3
   split at o2
   ·rename_i t zs e4
    obtain⟨b,vs,q1,q2,q3,q4⟩:=M2.at' i _ e3
    rw[ha]at q1;cases q1
    have l4:=q4.length
    dsimp only at l4
    have hz:=Zz
    match ts,r2,e4 with
    |[.int j],.cons r3 .nil,e4 =>
     have e4:(match ixOf ys.length j with
      |some k=>(ys[k]?).map λt=>(t,ys.eraseIdx k)
      |none=>none)=some (t,zs):=e4
     split at e4
     ·rename_i k hk
      cases q5:ys[k]? with
      |none=>rw[q5]at e4;cases e4
      |some y =>
       rw[q5]at e4;cases e4
       cases RT.vint r3
       obtain⟨yv,hy,ry⟩:=Zy q4 q5
       obtain⟨x5,M5⟩:=Jt M2 e3 ha (Xv k q4)
       have hk2:ixN vs.length j=some k:=by rw[<-l4];exact hk
       obtain⟨z1,z2,z3,z4⟩:=Zda hk2
       obtain⟨its,nn,rr,hho,hzz⟩:=I.lst q2
       have hsl:=sizeLine_eq
       exact ZhC pins s σ H _ _ v us Q I rx rs ⟨a,vs,j,k,yv,rfl,rfl,q2,by omega,by omega,z1,hy,OkR.to o2 (x2.trans x5) M5 _ (RT.ext x5 M2 M5 ry)⟩
     ·cases e4
    |[],_,e4=>cases e4
    |x1::_::_,_,e4=>cases x1<;>cases e4
    |[.non],_,e4=>cases e4
    |[.bl _],_,e4=>cases e4
    |[.str _],_,e4=>cases e4
    |[.tup _],_,e4=>cases e4
    |[.lst _],_,e4=>cases e4
    |[.dct _ _],_,e4=>cases e4
    |[.scr _],_,e4=>cases e4
   ·exact o2.elim
  ·exact o2.elim
theorem ty_cell{b:Mt}{w:W}{v:V}(hb:b=.append∨b=.popat)(M:MemR K cm m H)(r:RW K cm m H w v)(h:tyM b w m=true):tyV K "list" v H:=by
 cases w with
 |t t=>rcases hb with rfl|rfl<;>cases h
 |f a=>rcases hb with rfl|rfl<;>cases h
 |x _ _ _=>rcases hb with rfl|rfl<;>cases h
 |c i =>
  obtain⟨a,h1,rfl⟩:=r
  have ht:(match m[i]? with
   |some (some _)=>true
   |_=>false)=true:=by rcases hb with rfl|rfl<;>exact h
  split at ht
  ·rename_i c e1
   obtain⟨b,vs,q1,q2,_⟩:=M.at' i _ e1
   rw[h1]at q1;cases q1
   exact .inl ⟨rfl,vs,.of q2⟩
  ·cases ht
theorem Zjc{o:Expr}{apos cpos:Pos}(ho:PE X o (tE X.K call gv xr ea))(ha:PA X [e] (tA X.K call gv xr eas))(hbase:attributeBase o "pop" X.env (eval o X.env)=eval o X.env:=by rfl)(hline:(apos.endLine==cpos.line)=true:=by rfl)(hs:notStar e=true:=by rfl):
  PE X (.Call (.Attribute o "pop" apos) [e] [] cpos) (tE X.K call gv xr (.mth .popat ea eas)):=by
 refine PE.mono (Zjp PySem.F.plainAttrs_list PySem.F.slot_list_pop PySem.F.type_list_pop (ZfW (xr:=xr)) ho ha hbase (few1 hs) hline (Qn hs) (JK rfl)) ?_
 rintro σ H Q ⟨env,cm,m,hE,M,hq⟩
 rw[ev]at hq
 refine⟨env,cm,m,hE,M,hq.bind.mono λw cm1 m1 H1 x1 M1 o1 v rv=>?_⟩
 obtain⟨ht,o1⟩:=Zbd o1
 exact⟨ty_cell (.inr rfl) M1 rv ht,env,cm1,m1,hE.ext x1 M M1,M1,o1.bind.mono λws cm2 m2 H2 x2 M2 o2 vs rvs=>⟨cm2,m2,w,ws,M2,rv.ext x2 M1 M2,rvs,o2⟩⟩
theorem ZeP:Jv X (.type "list") (λxs H Q=>∃p ys,xs=[.ref p]/\(SqL X.K H p ys∨SqT X.K H p ys)/\∀l,H l=none->X.K.lookup l=none->Q (.ref l) (upd H l (.lst ys))):=by
 intro pins s σ H xs us Q I r h
 obtain⟨p,ys,rfl,hq,q⟩:=h
 obtain⟨u,rfl,rx⟩:=vals1 r
 cases rx
 have fin:∀(its:List Value),Vals ys its->ys.length<=sizeLine->∀(h':Heap) (c':Nat),(∀b o',s.heap.get? b=some o'->h'.get? b=some o') ->
   h'.get? s.heap.objs.size=some { cls:=.type "list",dict:=none,data:=.seq its.toArray c',slots:=#[] }->EP X pins σ Q (.ref s.heap.objs.size) { s with heap:=h' }:=λits r' hz h' c' kp e =>
  ⟨.ref s.heap.objs.size,_,I.laid (t':=s.toks) kp (Nat.le_refl _) (show QF X.prog X.w _ h' _ (.lst ys)from⟨hz,its,c',r',e⟩),rfl,q _ (I.hok.fresh (Nat.le_refl _)) (Mi.Inv.notK I)⟩
 rcases hq with hq|hq
 ·obtain⟨its,r',pl,hz⟩:=I.list hq
  have hlen:=r'.length
  obtain⟨o,ho,hc,n,hd⟩:=pl.isList
  exact call_list_seq p (.inl rfl) ho hc hd (λh' c' kp e=>fin its r' hz h' c' kp e) (by simp only[List.size_toArray]<;>omega)
 ·obtain⟨its,r',pl,hz⟩:=I.tuple hq
  have hlen:=r'.length
  obtain⟨o,ho,hc,n,hd⟩:=pl
  exact call_list_seq p (.inr rfl) ho hc hd (λh' c' kp e=>fin its r' hz h' c' kp e) (by simp only[List.size_toArray]<;>omega)
theorem Zhs(hg:Gl X "list")(hm:X.mg "list" = none)(ha:PA X [e] (tA X.K call gv xr (.cons ea .nil)))(he:notStar e=true):PE X (.Call (.Name "list" p) [e] [] pos) (tE X.K call gv xr (.celL ea)):=by
 refine PE.mono (Zcc ZeP hg hm (by decide +kernel) ha (by decide) (by decide) (Qn he) (JK rfl)) ?_
 rintro σ H Q ⟨env,cm,m,hE,M,ho⟩
 rw[ev]at ho
 have e0:evs call gv (.cons ea .nil) env m=(ev call gv ea env m).bind λw m=>.ok [w] m:=by
  rw[evs]
  cases ev call gv ea env m with
  |ok w m1=>simp only[Res.bind,evs]
  |exc x m1=>rfl
  |stuck=>rfl
 refine⟨env,cm,m,hE,M,?_⟩
 rw[e0]
 cases q:ev call gv ea env m with
 |stuck=>rw[q]at ho;exact ho.elim
 |exc x m1=>rw[q]at ho;exact ho
 |ok w m1 =>
  rw[q]at ho
  intro cm1 H1 x1 M1 vs rvs
  cases rvs with
  |cons rv r0 =>
   cases r0
   have ho:OkR X.K (match view w m1 with
    |some (.lst ts)=>.ok (W.c m1.length) (m1++[some (false,ts)])
    |some (.tup ts)=>.ok (W.c m1.length) (m1++[some (false,ts)])
    |_=>.stuck) xr cm1 m1 H1 _:=OkR.shift ho x1
   split at ho
   ·rename_i ts e1
    obtain⟨a,us,rfl,h1,r1⟩:=Zw M1 rv e1
    refine⟨a,us,rfl,.inl (.of h1),λl hl hk=>?_⟩
    obtain⟨x3,M3,r3⟩:=J6 M1 r1 hl hk
    exact OkR.to ho x3 M3 _ r3
   ·rename_i ts e1
    obtain⟨a,us,rfl,h1,r1⟩:=(Zd rv e1 (λ_ z=>by cases z)).itup
    refine⟨a,us,rfl,.inr h1,λl hl hk=>?_⟩
    obtain⟨x3,M3,r3⟩:=J6 M1 r1 hl hk
    exact OkR.to ho x3 M3 _ r3
   ·exact ho.elim
theorem ZjA:OpR X (binaryOp .Add) (λx y H Q=>∃l b xs zs,x=.ref l/\y=.ref b/\H l=some (.lst xs)/\H b=some (.lst zs)/\xs.length+zs.length<=sizeLine/\∀p,H p=none->X.K.lookup p=none->Q (.ref p) (upd H p (.lst (xs++zs)))):=by
 intro pins s σ H x y v u Q I rx ry h
 obtain⟨l,b,xs,zs,rfl,rfl,hH,hB,hz,q⟩:=h
 cases rx
 cases ry
 obtain⟨z,its,n,r,hl,e⟩:=I.lstM hH
 obtain⟨z2,its2,n2,r2,hl2,e2⟩:=I.lstM hB
 refine PySem.P.add_list e e2 ?_ (by rw[List.size_toArray,List.size_toArray];omega)
 have ea:its.toArray++its2.toArray=(its++its2).toArray:=by simp
 rw[ea]
 exact⟨.ref _,_,I.lnew (t':=s.toks) (r.append r2) (by rw[List.length_append];omega),rfl,q _ I.fresh (Mi.Inv.notK I)⟩
theorem ZjB:OpR X (binaryOp .Add) (r2 X.K xr addC):=by
 rintro pins s σ H x y v u Q I rx ry ⟨cm,m,a,b,M,ra,rb,ho⟩
 unfold addC at ho
 split at ho
 ·rename_i ts e
  obtain⟨ta,tb,ea,eb,e⟩:=ZaW e
  unfold addT at e
  have hz:=Zz
  split at e
  ·cases e
  ·split at e<;>cases e
  ·split at e<;>cases e
  ·split at e<;>cases e
   obtain⟨p,vs,rfl,h1,r1⟩:=Zw M ra ea
   obtain⟨q,us,rfl,h2,r2⟩:=Zw M rb eb
   have l1:=r1.length
   have l2:=r2.length
   refine ZjA pins s σ H _ _ v u Q I rx ry ⟨p,q,vs,us,rfl,rfl,h1,h2,by omega,λl hl hk=>?_⟩
   obtain⟨x3,M3,r3⟩:=J6 M (ZG r1 r2) hl hk
   exact OkR.to ho x3 M3 _ r3
  ·cases e
 ·exact ho.elim
theorem Zht(ha:PE X a (tE X.K call gv xr ea))(hb:PE X b (tE X.K call gv xr eb)):PE X (.BinOp a .Add b pos) (tE X.K call gv xr (.celA ea eb)):=
 PE.mono (pe_op ZjB ha hb) (Zd6 λenv m=>by rw[ev])
end
theorem ZfT(a:List Nat):nlt a a=false:=by rw[ZdM];simp
theorem Zim{a b c:List Nat}(h1:nlt a b=true)(h2:nlt b c=true):nlt a c=true:=by
 rw[ZdM]at *
 have h1:a<b:=of_decide_eq_true h1
 have h2:b<c:=of_decide_eq_true h2
 exact decide_eq_true (List.lt_trans h1 h2)
theorem ZjE{a b:List Nat}(h:nlt a b=true):nlt b a=false:=by
 cases q:nlt b a with
 |false=>rfl
 |true =>
  have:=Zim h q
  rw[ZfT]at this
  cases this
theorem ZbK(x y:List Nat):∀l,y∈insT x l↔y=x∨y∈l
 |[]=>by simp[insT]
 |z::l=>by
  unfold insT
  split
  ·simp
  ·split
   ·rw[List.mem_cons,ZbK x y l,List.mem_cons]
    constructor
    ·rintro (h|h|h)
     ·exact .inr (.inl h)
     ·exact .inl h
     ·exact .inr (.inr h)
    ·rintro (h|h|h)
     ·exact .inr (.inl h)
     ·exact .inl h
     ·exact .inr (.inr h)
   ·rename_i h1 h2
    have e:x=z:=ZbF (by simpa using h1) (by simpa using h2)
    subst e
    simp
theorem Zgd(x:List Nat):∀l,l.Pairwise (λa b=>nlt a b=true)->(insT x l).Pairwise (λa b=>nlt a b=true)
 |[],_=>List.pairwise_singleton _ _
 |z::l,h=>by
  unfold insT
  obtain⟨h1,h2⟩:=List.pairwise_cons.mp h
  split
  ·rename_i hx
   refine List.pairwise_cons.mpr ⟨λy hy=>?_,h⟩
   rcases List.mem_cons.mp hy with rfl|hy
   ·exact hx
   ·exact Zim hx (h1 y hy)
  ·split
   ·rename_i hz
    refine List.pairwise_cons.mpr ⟨λy hy=>?_,Zgd x l h2⟩
    rcases(ZbK x y l).mp hy with rfl|hy
    ·exact hz
    ·exact h1 y hy
   ·exact h
theorem Jy(y:List Nat):∀xs,y∈ZM xs↔y∈xs
 |[]=>by simp[ZM]
 |x::xs=>by
  show y∈insT x (ZM xs)↔_
  rw[ZbK,Jy y xs,List.mem_cons]
theorem Xc:∀xs,(ZM xs).Pairwise (λa b=>nlt a b=true)
 |[]=>.nil
 |x::xs=>Zgd x _ (Xc xs)
theorem Za2(xs:List (List Nat)):(ZM xs).Nodup:=(Xc xs).imp λ{a b} h e=>by
 subst e
 rw[ZfT]at h
 cases h
theorem ZjI{a b:List Nat}(h:(⟨a.toArray⟩:Str)=⟨b.toArray⟩):a=b:=by
 injection h with h
 simpa using h
section
variable{K:Frag}{cm:List Addr}{m:Mem}{H:Hp}{xr:XR}{X:Cx}{call:Nat->List W->Mem->Res W}{gv:List T}
variable{a b c e:Expr}{es:List Expr}{ea eb ec:E}{eas:Es}{pos p p2 pos2:Pos}{rest:List Stmt}{k:S}{n:Nat}
theorem Inv.redraw{pins:List (Addr×Obj)}{s:Shared}{σ:L2.St}{d:Drawn}(I:Inv X pins σ H s):Inv X pins σ H { s with drawn:=d }:=
 ⟨I.ok,I.os,I.bare,I.base,I.loc,I.cell,I.free,I.freeC,I.pin,I.hok,I.len⟩
theorem evs2{env:Env}:evs call gv (.cons ea (.cons eb .nil)) env m=(ev call gv ea env m).bind λx m=>(ev call gv eb env m).bind λy m=>.ok [x,y] m:=by
 rw[evs]
 cases ev call gv ea env m with
 |ok w m1 =>
  simp only[Res.bind]
  rw[evs]
  cases ev call gv eb env m1 with
  |ok w2 m2=>simp only[Res.bind,evs]
  |exc x m2=>rfl
  |stuck=>rfl
 |exc x m1=>rfl
 |stuck=>rfl
theorem Zh9{g:B}(σ:L2.St)(H:Hp)(Q:VK)(q:tE X.K call gv xr (.blt g (.cons ea (.cons eb .nil))) σ H Q):tOp (r2 X.K xr λx y m=>fBlt g [x,y] m) (tE X.K call gv xr ea) (tE X.K call gv xr eb) σ H Q:=by
 refine Zd6 (λenv m=>?_) σ H Q q
 rw[ev,evs2]
 cases ev call gv ea env m with
 |ok w m1 =>
  simp only[Res.bind]
  cases ev call gv eb env m1 with
  |ok w2 m2=>rfl
  |exc x m2=>rfl
  |stuck=>rfl
 |exc x m1=>rfl
 |stuck=>rfl
end
noncomputable abbrev q1(h:Heap)(a:Addr):Heap:=h.push { cls:=.type "list_iterator",data:=.fields #[.ref a,.int 0 0] }
noncomputable abbrev q5(h:Heap)(a b c d:Addr):Heap:=(q1 (q1 (q1 (q1 h a) b) c) d).push { cls:=.type "tuple",data:=.seq #[.ref h.objs.size,.ref (q1 h a).objs.size,.ref (q1 (q1 h a) b).objs.size,.ref (q1 (q1 (q1 h a) b) c).objs.size] }
noncomputable abbrev q6(h:Heap)(a b c d:Addr):Heap:=(q5 h a b c d).push { cls:=.type "tuple",data:=.seq #[.none,.none,.none,.none] }
noncomputable abbrev q7(h:Heap)(a b c d:Addr):Heap:=(q6 h a b c d).push { cls:=.type "zip",data:=.fields #[.none,.bool false,.bool false,.ref (q1 (q1 (q1 (q1 h a) b) c) d).objs.size,.ref (q5 h a b c d).objs.size] }
set_option maxHeartbeats 4000000 in
section
variable{prog:Program}{w:World}{A:Around}{E:Value->Shared->Prop}{s:Shared}{led:Bool}
set_option maxHeartbeats 3200000 in
end
section
variable{K:Frag}{cm:List Addr}{m:Mem}{H:Hp}{xr:XR}{X:Cx}{call:Nat->List W->Mem->Res W}{gv:List T}
variable{a b c e:Expr}{es:List Expr}{ea eb ec:E}{eas:Es}{pos p p2 pos2:Pos}
noncomputable def iEnum(K:Frag)(ta:TA):TI:=λσ H R=>ta σ H λvs H1=>∃a xs,vs=[.ref a]/\SqL K H1 a xs/\R (Ite K a) H1
theorem Zi7{ts:List Expr}{kk}{tp:Pos}{ta:TA}(hg:Gl X "enumerate")(hm:X.mg "enumerate" = none)(ha:PA X [a] ta)(h1:notStar a=true):
  PI X (.Tuple ts kk tp) (.Call (.Name "enumerate" p) [a] [] pos) (iEnum X.K ta):=by
 intro pins s σ H R I h
 refine Call_ (Zba I hg hm (show bootBuiltins "enumerate" = some (.type "enumerate")from by decide +kernel) (PyProof.Rows.callWith_type1 (thn (ha pos pins s σ H _ I h) λus s1 ⟨vs,H1,I1,r1,q1⟩=>?_) (Qn h1) rfl))
 obtain⟨x,xs,e,q1,q⟩:=q1
 subst e
 cases r1 with
 |cons r rr =>
  cases rr
  cases r
  obtain⟨its,rv,p,_⟩:=I1.list q1
  refine call_enumerate_list p.isList λg hE hI hsz hk=>wpAny_pyIter_enum hE ?_
  refine⟨_,[s1.heap.objs.size+1,s1.heap.objs.size],_,_,H1,rfl,I1.kept (t':=s1.toks) hk,Ze2 (Nat.succ_ne_self _),⟨⟨_,hE⟩,hI⟩,λb hb=>?_,q⟩
  have hb':s1.heap.objs.size<=b:=by
   simp only[List.mem_cons,List.not_mem_nil,or_false]at hb
   rcases hb with rfl|rfl<;>omega
  exact I1.fpOk hb' (I1.hok.fresh hb')
theorem PE.tree(h:PE X e (tE X.K call gv xr ea)):PE X e (tE X.K call gv xr (.tr ea)):=by
 refine PE.mono h ?_
 rintro σ H Q ⟨env,cm,m,hE,M,ho⟩
 refine⟨env,cm,m,hE,M,?_⟩
 rw[ev]at ho
 exact ho.bind.mono λw cm1 m1 H1 x1 M1 o1=>by
  cases w with
  |t x=>exact OkR.now o1 M1
  |f a=>exact o1.elim
  |x _ _ _=>exact o1.elim
  |c i=>exact o1.elim
theorem Zhn{ts:List Expr}{kk}{tp:Pos}(hg:Gl X "enumerate")(hm:X.mg "enumerate" = none)(ha:PA X [a] (tA X.K call gv xr (.cons (.tr ea) .nil)))(hs:notStar a=true:=by rfl):PI X (.Tuple ts kk tp) (.Call (.Name "enumerate" p) [a] [] pos) (tI X.K call gv xr (.blt .enum (.cons (.tr ea) .nil))):=by
 refine PI.mono (Zi7 hg hm ha hs) ?_
 rintro σ H R ⟨env,cm,m,hE,M,ho⟩
 rw[ev]at ho
 cases h:evs call gv (.cons (.tr ea) .nil) env m with
 |stuck=>rw[h]at ho;exact ho.elim
 |exc x m' =>
  refine⟨env,cm,m,hE,M,?_⟩
  rw[h]at ho ⊢
  exact ho
 |ok ws m' =>
  refine⟨env,cm,m,hE,M,?_⟩
  rw[h]at ho ⊢
  have hT:∃t,ws=[.t t]:=by
   rw[evs]at h
   obtain⟨w,m1,h1,h2⟩:=Zk h
   obtain⟨ws',m2,h3,h4⟩:=Zk h2
   rw[evs]at h3
   cases h3
   cases h4
   rw[ev]at h1
   obtain⟨w0,m0,h5,h6⟩:=Zk h1
   cases w0 with
   |t x=>cases h6;exact⟨x,rfl⟩
   |f a=>cases h6
   |x _ _ _=>cases h6
   |c i=>cases h6
  obtain⟨t,rfl⟩:=hT
  have ho1:=OkR.bind ho
  intro cm1 H1 x1 M1 vs rvs
  have o1:OkR X.K (fBlt .enum [W.t t] m') xr cm1 m' H1 _:=ho1 cm1 H1 x1 M1
  obtain⟨w,v,t',rr,e1,rfl,rv,e,eb,ho⟩:=blt1 rvs (JD (by decide)) o1
  cases e1
  cases e
  cases t with
  |lst ts =>
   have eb:(if ts.length<=lim then some (T.lst (ZaU ts))else none)=some rr:=eb
   split at eb<;>cases eb
   obtain⟨ts',m2,q1,q2⟩:=OkR.now ho M1
   cases q1
   obtain⟨a,vs,rfl,h1,h2,h3⟩:=RT.ilst rv
   exact⟨a,vs,rfl,.of h1,q2 _ (.enm h1 h2 h3)⟩
  |_=>cases eb
theorem dl_mem(x:Str)(ss:List Str):x∈dl ss↔x∈ss:=by
 have:∀(ss D:List Str),x∈ss.foldl (λD x=>if x∈D then D else D++[x]) D↔x∈D∨x∈ss:=by
  intro ss
  induction ss with
  |nil=>intro D;simp
  |cons y r ih =>
   intro D
   rw[List.foldl_cons,ih,List.mem_cons]
   split
   ·rename_i h
    constructor
    ·rintro (h1|h1)
     ·exact .inl h1
     ·exact .inr (.inr h1)
    ·rintro (h1|h1|h1)
     ·exact .inl h1
     ·subst h1;exact .inl h
     ·exact .inr h1
   ·rw[List.mem_append,List.mem_singleton,or_assoc]
 have h:=this ss []
 unfold dl
 rw[h]
 simp
theorem dl_nd(ss:List Str):(dl ss).Nodup:=by
 have:∀(ss D:List Str),D.Nodup->(ss.foldl (λD x=>if x∈D then D else D++[x]) D).Nodup:=by
  intro ss
  induction ss with
  |nil=>intro D h;exact h
  |cons y r ih =>
   intro D h
   rw[List.foldl_cons]
   refine ih _ ?_
   split
   ·exact h
   ·rename_i hn
    rw[List.nodup_append]
    refine⟨h,by simp,λa ha b hb=>?_⟩
    rw[List.mem_singleton.mp hb]
    exact λe=>hn (e▸ha)
 exact this ss [] .nil
theorem ZdA:∀{ts:List T}{bs:List (List Nat)},strs? ts=some bs->(∀t∈ts,∃c,t=.str c)/\ts.length=bs.length
 |[],_,e=>by cases e;exact⟨λt h=>by simp at h,rfl⟩
 |t::ts,bs,e=>by
  cases t with
  |str c =>
   unfold strs? at e
   cases q:strs? ts with
   |none=>rw[q]at e;cases e
   |some cs =>
    rw[q]at e;cases e
    obtain⟨h1,h2⟩:=ZdA q
    refine⟨λt ht=>?_,by rw[List.length_cons,List.length_cons,h2]⟩
    rcases List.mem_cons.mp ht with rfl|ht
    ·exact⟨c,rfl⟩
    ·exact h1 t ht
  |_=>cases e
end
section
variable{K:Frag}{cm cm':List Addr}{m m':Mem}{H H':Hp}{xr:XR}{X:Cx}{call:Nat->List W->Mem->Res W}{gv:List T}
variable{a b c e:Expr}{es:List Expr}{ea eb ec:E}{eas:Es}{pos p p2:Pos}{rest:List Stmt}{k:Nat}{n:Nat}
inductive Ents (w:World):List (List Nat)->List Value->List DictEntry->Prop where
 |nil:Ents w [] [] []
 |cons {y:Str}{t:Tok}{cs:List Nat}{h:Int}{u:Value}{css:List (List Nat)}{us:List Value}{es:List DictEntry}:y.cps.toList=cs->h=hashStr w y->Ents w css us es->Ents w (cs::css) (u::us) (⟨h,.str y t,u⟩::es)
noncomputable def VT(K:Frag)(u:Value)(t:T):Prop:=∃v,RelV v u/\∀cm m H,RT K cm m H t v
inductive VTs (K:Frag):List Value->List T->Prop where
 |nil:VTs K [] []
 |cons {u:Value}{t:T}{us:List Value}{ts:List T}:VT K u t->VTs K us ts->VTs K (u::us) (t::ts)
end
noncomputable abbrev sv(w:List Nat):V:=.str ⟨w.toArray⟩
noncomputable def Nst(H0 H:Hp)(p:Addr)(ps:List (List (List Nat))):Prop:=(∀b o,H0 b=some o->H b=some o)/\H0 p=none /\
 ∃bs:List Addr,H p=some (.lst (bs.map V.ref))/\bs.length=ps.length/\p∉bs/\bs.Nodup/\∀(k:Nat) b q,bs[k]?=some b->ps[k]?=some q->H b=some (.lst (q.map sv))/\H0 b=none
section
variable{K:Frag}{xr:XR}{call:Nat->List W->Mem->Res W}{gv:List T}{σ:L2.St}{H:Hp}
theorem eq_str(a b:List Nat):cmpT .Eq (.str a) (.str b)=some (a==b):=by
 show(if Zaj (.str a) (.str b) || (Zf 60 (.str a)&&Zf 60 (.str b))then some (eqT (.str a) (.str b))else none)=_
 rw[show Zaj (.str a) (.str b)=true from rfl,Bool.true_or,if_pos rfl,eqT]
end
end Mi
namespace Ts
open PySem PyProof.Rows
noncomputable def gal:Bool->Keyed->Array Keyed->Nat->Nat->Nat->StateT SortSt Sem (Option Nat):=sortPriv% PySem.Builtin.gallop
noncomputable def mLo:Array Keyed->Array Keyed->StateT SortSt Sem (Array Keyed):=sortPriv% PySem.Builtin.mergeLo
noncomputable def mHi:Array Keyed->Array Keyed->StateT SortSt Sem (Array Keyed):=sortPriv% PySem.Builtin.mergeHi
noncomputable def cRun:Nat->Nat->StateT SortSt Sem (Option Nat):=sortPriv% PySem.Builtin.countRun
noncomputable def bSort:Nat->Nat->Nat->StateT SortSt Sem Bool:=sortPriv% PySem.Builtin.binarySort
structure Cmp (prog:Program) (w:World) (A:Around) (s:Shared) (κ:SortKind) (U:Keyed->Prop) (B:Keyed->Keyed->Bool):Prop where
 lt:∀x y,U x->U y->∀(E:Value->Shared->Prop) (Q:Bool->Shared->Prop),Q (B x y) s->wpAny (model prog w) A (keyLt' κ x.1 y.1) Q E s
 tr:∀x y z,U x->U y->U z->B y x=false->B z y=false->B z x=false
 asy:∀x y,U x->U y->B x y=true->B y x=false
 tot:∀x y,U x->U y->B x y=false->B y x=false->x=y
section
variable{prog:Program}{w:World}{A:Around}{E:Value->Shared->Prop}{s:Shared}{κ:SortKind}{U:Keyed->Prop}{B:Keyed->Keyed->Bool}
theorem s_lt(C:Cmp prog w A s κ U B){x y:Keyed}{st:SortSt}{Q:Option Bool->SortSt->Prop}(hx:U x)(hy:U y)(hk:kindOf st=κ)(h:Q (some (B x y)) st):wpS (model prog w) A E s (lt' x y) Q st:=by
 rw[lt'_eq]
 refine wpS_bind (wpS_get ?_)
 rw[hk]
 exact wpS_bind (wpS_lift (wpAny_attempt (C.lt x y hx hy _ _ ⟨rfl,wpS_pure h⟩)))
theorem s_el{arr:Array Keyed}{i:Nat}{p:Keyed}{st:SortSt}{Q:Keyed->SortSt->Prop}(hp:arr[i]?=some p)(h:Q p st):wpS (model prog w) A E s (elem' arr i) Q st:=by
 rw[elem'_eq,hp]
 exact wpS_pure h
noncomputable def bey(B:Keyed->Keyed->Bool)(left:Bool)(key x:Keyed):Bool:=if left then B x key else !B key x
theorem s_bey(C:Cmp prog w A s κ U B){left:Bool}{key x:Keyed}{arr:Array Keyed}{i:Nat}{st:SortSt}{Q:Option Bool->SortSt->Prop}(hp:arr[i]?=some x)(hx:U x)(hy:U key)(hk:kindOf st=κ)(h:Q (some (bey B left key x)) st):
  wpS (model prog w) A E s (elem' arr i >>= λx=>if left=true then lt' x key else lt' key x >>= λr=>pure (Option.map (λx=>!x) r)) Q st:=by
 refine wpS_bind (s_el hp ?_)
 cases left with
 |true=>rw[if_pos rfl];exact s_lt C hx hy hk h
 |false =>
  rw[if_neg Bool.false_ne_true]
  exact wpS_bind (s_lt C hy hx hk (wpS_pure h))
theorem s_gal(C:Cmp prog w A s κ U B){left:Bool}{key:Keyed}{arr:Array Keyed}{base n hint:Nat}{f:Nat->Keyed}{st:SortSt}{Q:Option Nat->SortSt->Prop}(hf:∀i,i<n->arr[base+i]?=some (f i)/\U (f i))(hy:U key)(hk:kindOf st=κ)(hh:hint<n)(mono:∀i j,i<=j->j<n->bey B left key (f j)=true->bey B left key (f i)=true)(h:∀k,k<=n->(∀i,i<k->bey B left key (f i)=true)->(∀i,k<=i->i<n->bey B left key (f i)=false)->Q (some k) st):wpS (model prog w) A E s (gal left key arr base n hint) Q st:=by
 have bb:∀{i:Nat}{Q':Option Bool->SortSt->Prop},i<n->Q' (some (bey B left key (f i))) st->wpS (model prog w) A E s (elem' arr (base+i) >>= λx=>if left=true then lt' x key else lt' key x >>= λr=>pure (Option.map (λx=>!x) r)) Q' st:=λ{i Q'} hi hq=>s_bey C (hf i hi).1 (hf i hi).2 hy hk hq
 -- the last part: between lo and hi
 have last:∀{R:Type}(F:Nat->Option R×Nat×Nat->StateT SortSt Sem (ForInStep (Option R×Nat×Nat))) (Q':Option R×Nat×Nat->SortSt->Prop) (lo hi:Nat),lo<=hi->hi<=n->(∀i,i<lo->bey B left key (f i)=true)->(∀i,hi<=i->i<n->bey B left key (f i)=false) ->
   (∀x lo hi Q',hi<=lo->Q' (.done (none,lo,hi)) st->wpS (model prog w) A E s (F x (none,lo,hi)) Q' st) ->
   (∀x lo hi Q',lo<hi->hi<=n->Q' (.yield (if bey B left key (f (lo+(hi-lo) / 2))=true then(none,lo+(hi-lo) / 2+1,hi)else(none,lo,lo+(hi-lo) / 2))) st->wpS (model prog w) A E s (F x (none,lo,hi)) Q' st) ->
   (∀lo hi,hi<=n->(∀i,i<hi->bey B left key (f i)=true)->(∀i,hi<=i->i<n->bey B left key (f i)=false)->Q' (none,lo,hi) st)->wpS (model prog w) A E s (forIn [0:n] (none,lo,hi) F) Q' st:=by
  intro R F Q' lo hi h1 h2 h3 h4 f0 f1 fq
  refine wpS_forRange (I:=λi sx st'=>st'=st/\sx.1=none/\sx.2.1<=sx.2.2/\sx.2.2<=n/\sx.2.2-sx.2.1<=n-i/\(∀i,i<sx.2.1->bey B left key (f i)=true)/\∀i,sx.2.2<=i->i<n->bey B left key (f i)=false) ?_ ?_ ⟨rfl,rfl,h1,h2,(by show hi-lo<=n-0;omega),h3,h4⟩
  ·rintro i ⟨r,lo,hi⟩ st' _ hi2 ⟨rfl,rfl,a1,a2,a3,a4,a5⟩
   dsimp only at a1 a2 a3 a4 a5 ⊢
   by_cases hc:hi<=lo
   ·exact f0 _ _ _ _ hc (fq lo hi a2 (λj hj=>a4 j (by omega)) a5)
   ·refine f1 _ _ _ _ (by omega) a2 ?_
    cases q:bey B left key (f (lo+(hi-lo) / 2))with
    |true =>
     rw[if_pos rfl]
     exact⟨rfl,rfl,by dsimp only;omega,a2,by dsimp only;omega,λj hj=>mono j _ (by dsimp only at hj;omega) (by omega) q,a5⟩
    |false =>
     rw[if_neg Bool.false_ne_true]
     refine⟨rfl,rfl,by dsimp only;omega,by dsimp only;omega,by dsimp only;omega,a4,λj hj hjn=>?_⟩
     cases z:bey B left key (f j)with
     |false=>rfl
     |true=>rw[mono _ j hj hjn z]at q;cases q
  ·rintro ⟨r,lo,hi⟩ st' ⟨rfl,rfl,a1,a2,a3,a4,a5⟩
   dsimp only at a1 a2 a3 a4 a5 ⊢
   exact fq lo hi a2 (λj hj=>a4 j (by omega)) a5
 refine wpS_bind (bb hh ?_)
 cases q:bey B left key (f hint)with
 |true =>
  refine wpS_bind (wpS_mono (wpS_forRange (I:=λ(i:Nat) (sx:Option (Option Nat)×Nat×Nat) st'=>st'=st/\sx.1=none/\sx.2.1<sx.2.2/\i<=sx.2.1/\hint+sx.2.1<n/\bey B left key (f (hint+sx.2.1))=true) (Q:=λsx st'=>st'=st/\sx.1=none/\sx.2.1<sx.2.2/\hint+sx.2.1<n/\bey B left key (f (hint+sx.2.1))=true/\(∀i,hint+sx.2.2<=i->i<n->bey B left key (f i)=false)) ?_ ?_ ⟨rfl,rfl,Nat.zero_lt_one,Nat.zero_le _,hh,q⟩) ?_)
  ·rintro i ⟨r,la,of⟩ st' _ hi2 ⟨rfl,rfl,a1,a2,a3,a4⟩
   dsimp only at a1 a2 a3 a4 ⊢
   by_cases hc:of ≥ n-hint
   ·rw[if_pos hc]
    exact wpS_pure ⟨rfl,rfl,a1,a3,a4,λj hj hjn=>by dsimp only at hj;omega⟩
   ·rw[if_neg hc]
    refine wpS_bind (bb (by omega) ?_)
    cases z:bey B left key (f (hint+of))with
    |true =>
     dsimp only
     rw[if_neg (by simp)]
     exact wpS_pure ⟨rfl,rfl,(by show of<2*of+1;omega),(by show i+1<=of;omega),(by show hint+of<n;omega),z⟩
    |false =>
     dsimp only
     rw[if_pos (by simp)]
     refine wpS_pure ⟨rfl,rfl,a1,a3,a4,λj hj hjn=>?_⟩
     cases y:bey B left key (f j)with
     |false=>rfl
     |true=>rw[mono _ j hj hjn y]at z;cases z
  ·rintro ⟨r,la,of⟩ st' ⟨rfl,rfl,a1,a2,a3,a4⟩
   dsimp only at a1 a2 a3 a4 ⊢
   exact⟨rfl,rfl,a1,a3,a4,λj hj hjn=>by omega⟩
  ·rintro ⟨r,la,of⟩ st' ⟨rfl,rfl,a1,a3,a4,a5⟩
   dsimp only at a1 a3 a4 a5 ⊢
   refine wpS_bind (last _ _ (hint+la+1) (hint+min of (n-hint)) (by omega) (by omega) (λj hj=>mono j (hint+la) (by omega) a3 a4) (λj hj hjn=>a5 j (by omega) hjn) ?_ ?_ ?_)
   ·intro x lo hi Q' hc hq
    dsimp only
    rw[if_pos hc]
    exact wpS_pure hq
   ·intro x lo hi Q' hc hn hq
    dsimp only
    rw[if_neg (by omega)]
    refine wpS_bind (bb (by omega) ?_)
    cases q:bey B left key (f (lo+(hi-lo) / 2))with
    |true =>
     rw[q,if_pos rfl]at hq
     exact wpS_pure hq
    |false =>
     rw[q,if_neg Bool.false_ne_true]at hq
     exact wpS_pure hq
   ·intro lo hi h1 h2 h3
    exact wpS_pure (h hi h1 h2 h3)
 |false =>
  refine wpS_bind (wpS_mono (wpS_forRange (I:=λ(i:Nat) (sx:Option (Option Nat)×Nat×Nat) st'=>st'=st/\sx.1=none/\sx.2.1<sx.2.2/\i<=sx.2.1/\sx.2.1<=hint/\bey B left key (f (hint-sx.2.1))=false) (Q:=λsx st'=>st'=st/\sx.1=none/\sx.2.1<sx.2.2/\sx.2.1<=hint/\bey B left key (f (hint-sx.2.1))=false/\(∀i,i+sx.2.2<=hint->bey B left key (f i)=true)) ?_ ?_ ⟨rfl,rfl,Nat.zero_lt_one,Nat.zero_le _,Nat.zero_le _,q⟩) ?_)
  ·rintro i ⟨r,la,of⟩ st' _ hi2 ⟨rfl,rfl,a1,a2,a3,a4⟩
   dsimp only at a1 a2 a3 a4 ⊢
   by_cases hc:of ≥ hint+1
   ·rw[if_pos hc]
    exact wpS_pure ⟨rfl,rfl,a1,a3,a4,λj hj=>by dsimp only at hj;omega⟩
   ·rw[if_neg hc]
    refine wpS_bind (bb (by omega) ?_)
    cases z:bey B left key (f (hint-of))with
    |true =>
     dsimp only
     rw[if_pos rfl]
     exact wpS_pure ⟨rfl,rfl,a1,a3,a4,λj hj=>mono j _ (by dsimp only at hj;omega) (by omega) z⟩
    |false =>
     dsimp only
     rw[if_neg Bool.false_ne_true]
     exact wpS_pure ⟨rfl,rfl,(by show of<2*of+1;omega),(by show i+1<=of;omega),(by show of<=hint;omega),z⟩
  ·rintro ⟨r,la,of⟩ st' ⟨rfl,rfl,a1,a2,a3,a4⟩
   dsimp only at a1 a2 a3 a4 ⊢
   exact⟨rfl,rfl,a1,a3,a4,λj hj=>by omega⟩
  ·rintro ⟨r,la,of⟩ st' ⟨rfl,rfl,a1,a3,a4,a5⟩
   dsimp only at a1 a3 a4 a5 ⊢
   refine wpS_bind (last _ _ (hint+1-min of (hint+1)) (hint-la) (by omega) (by omega) (λj hj=>a5 j (by omega)) (λj hj hjn=>by
    cases y:bey B left key (f j)with
    |false=>rfl
    |true=>rw[mono _ j hj hjn y]at a4;cases a4) ?_ ?_ ?_)
   ·intro x lo hi Q' hc hq
    dsimp only
    rw[if_pos hc]
    exact wpS_pure hq
   ·intro x lo hi Q' hc hn hq
    dsimp only
    rw[if_neg (by omega)]
    refine wpS_bind (bb (by omega) ?_)
    cases q:bey B left key (f (lo+(hi-lo) / 2))with
    |true =>
     rw[q,if_pos rfl]at hq
     exact wpS_pure hq
    |false =>
     rw[q,if_neg Bool.false_ne_true]at hq
     exact wpS_pure hq
   ·intro lo hi h1 h2 h3
    exact wpS_pure (h hi h1 h2 h3)
end
noncomputable def Srt(B:Keyed->Keyed->Bool)(l:List Keyed):Prop:=l.Pairwise λx y=>B y x=false
structure MJ (B:Keyed->Keyed->Bool) (W o la lb:List Keyed):Prop where
 perm:(o++(la++lb)).Perm W
 so:Srt B o
 sa:Srt B la
 sb:Srt B lb
 le:∀x∈o,∀y∈la++lb,B y x=false
section
variable{prog:Program}{w:World}{A:Around}{E:Value->Shared->Prop}{s:Shared}{κ:SortKind}{U:Keyed->Prop}{B:Keyed->Keyed->Bool}{W o la lb p:List Keyed}{x y z:Keyed}
theorem MJ.mem(m:MJ B W o la lb)(hU:∀x∈W,U x){x:Keyed}(h:x∈o++(la++lb)):U x:=hU x (m.perm.mem_iff.mp h)
theorem MJ.ua(m:MJ B W o la lb)(hU:∀x∈W,U x){x:Keyed}(h:x∈la):U x:=m.mem hU (by simp[h])
theorem MJ.ub(m:MJ B W o la lb)(hU:∀x∈W,U x){x:Keyed}(h:x∈lb):U x:=m.mem hU (by simp[h])
theorem Srt.app{l r:List Keyed}(h1:Srt B l)(h2:Srt B r)(h3:∀x∈l,∀y∈r,B y x=false):Srt B (l++r):=List.pairwise_append.mpr ⟨h1,h2,h3⟩
theorem Srt.head(h:Srt B (x::la)):∀y∈la,B y x=false:=(List.pairwise_cons.mp h).1
theorem MJ.appA(C:Cmp prog w A s κ U B)(hU:∀x∈W,U x)(m:MJ B W o (p++la) (y::lb))(h:∀x∈p,B y x=false):MJ B W (o++p) la (y::lb):=by
 have sp:=List.pairwise_append.mp m.sa
 refine⟨by simpa[List.append_assoc]using m.perm,m.so.app sp.1 λa ha b hb=>m.le a ha b (by simp[hb]),sp.2.1,m.sb,λa ha b hb=>?_⟩
 rcases List.mem_append.mp ha with ha|ha
 ·exact m.le a ha b (List.mem_append.mpr ((List.mem_append.mp hb).imp (List.mem_append_right _) id))
 ·rcases List.mem_append.mp hb with hb|hb
  ·exact sp.2.2 a ha b hb
  ·rcases List.mem_cons.mp hb with rfl|hb'
   ·exact h a ha
   ·exact C.tr a y b (m.ua hU (by simp[ha])) (m.ub hU (by simp)) (m.ub hU (by simp[hb'])) (h a ha) (m.sb.head b hb')
theorem MJ.appB(C:Cmp prog w A s κ U B)(hU:∀x∈W,U x)(m:MJ B W o (x::la) (p++lb))(h:∀y∈p,B y x=true):MJ B W (o++p) (x::la) lb:=by
 have sp:=List.pairwise_append.mp m.sb
 have ux:=m.ua hU (show x∈x::la by simp)
 refine⟨?_,m.so.app sp.1 λa ha b hb=>m.le a ha b (by simp[hb]),m.sa,sp.2.1,λa ha b hb=>?_⟩
 ·refine List.Perm.trans ?_ m.perm
  rw[List.append_assoc]
  refine List.Perm.append_left o ?_
  rw[<-List.append_assoc,<-List.append_assoc]
  exact List.Perm.append_right lb List.perm_append_comm
 ·rcases List.mem_append.mp ha with ha|ha
  ·exact m.le a ha b (List.mem_append.mpr ((List.mem_append.mp hb).imp id (List.mem_append_right _)))
  ·rcases List.mem_append.mp hb with hb|hb
   ·have ua:=m.ub hU (show a∈p++lb by simp[ha])
    have hax:=C.asy a x ua ux (h a ha)
    rcases List.mem_cons.mp hb with rfl|hb'
    ·exact hax
    ·exact C.tr a x b ua ux (m.ua hU (by simp[hb'])) hax (m.sa.head b hb')
   ·exact sp.2.2 a ha b hb
theorem MJ.pushA(C:Cmp prog w A s κ U B)(hU:∀x∈W,U x)(m:MJ B W o (x::la) (y::lb))(h:B y x=false):MJ B W (o++[x]) la (y::lb):=MJ.appA (p:=[x]) C hU m λz hz=>by simp at hz;subst hz;exact h
theorem MJ.pushB(C:Cmp prog w A s κ U B)(hU:∀x∈W,U x)(m:MJ B W o (x::la) (y::lb))(h:B y x=true):MJ B W (o++[y]) (x::la) lb:=MJ.appB (p:=[y]) C hU m λz hz=>by simp at hz;subst hz;exact h
noncomputable def Gd(B:Keyed->Keyed->Bool)(W:List Keyed)(r:List Keyed):Prop:=r.Perm W/\Srt B r
theorem MJ.done(m:MJ B W o la []):Gd B W (o++la):=⟨by simpa using m.perm,m.so.app m.sa λa ha b hb=>m.le a ha b (by simp[hb])⟩
theorem MJ.lastA(C:Cmp prog w A s κ U B)(hU:∀x∈W,U x)(m:MJ B W o [z] lb)(h:∀y∈lb,B y z=true):Gd B W (o++lb++[z]):=by
 have k:=MJ.appB (p:=lb) (lb:=[]) C hU (by simpa using m) h
 exact k.done
end
noncomputable def Sm(st st':SortSt):Prop:=kindOf st'=kindOf st/\arrOf st'=arrOf st/\pendingOf st'=pendingOf st/\failedOf st'=failedOf st
theorem Sm.refl(st:SortSt):Sm st st:=⟨rfl,rfl,rfl,rfl⟩
noncomputable def sGal:Nat->StateT SortSt Sem Unit:=sortPriv% PySem.Builtin.setMinGallop
section
variable{prog:Program}{w:World}{A:Around}{E:Value->Shared->Prop}{s:Shared}{κ:SortKind}{U:Keyed->Prop}{B:Keyed->Keyed->Bool}{st st':SortSt}
theorem Zg1{g:Nat}{Q:Unit->SortSt->Prop}(hs:Sm st st')(h:∀st'',Sm st st''->Q () st''):wpS (model prog w) A E s (sGal g) Q st':=
 wpS_modify (h _ ⟨hs.1,hs.2.1,hs.2.2.1,hs.2.2.2⟩)
theorem Zq{c:Prop}[Decidable c]{α:Type}{x y:StateT SortSt Sem α}{Q:α->SortSt->Prop}(h1:c->wpS (model prog w) A E s x Q st)(h2:¬c->wpS (model prog w) A E s y Q st):wpS (model prog w) A E s (if c then x else y) Q st:=by
 by_cases h:c
 ·rw[if_pos h];exact h1 h
 ·rw[if_neg h];exact h2 h
theorem Qk{l:Array Keyed}{i:Nat}(h:i<l.size):l.toList.drop i=l[i]::l.toList.drop (i+1):=by
 rw[List.drop_eq_getElem_cons (by simpa using h)]
 simp
theorem ZV{l:Array Keyed}{i:Nat}(h:i<l.size):l[i]?=some l[i]:=by simp[h]
theorem ZjJ{l:Array Keyed}{d i:Nat}(h:d<=i)(hi:i<l.size):l[i]∈l.toList.drop d:=by
 rw[List.mem_iff_getElem]
 exact⟨i-d,by simp;omega,by simp[show d+(i-d)=i by omega]⟩
theorem ZaT{l:Array Keyed}{i j:Nat}:(l.extract i j).toList=(l.toList.drop i).take (j-i):=by simp[List.take_drop,List.extract_eq_drop_take]
theorem ZhL{l:Array Keyed}{i:Nat}:(l.extract i l.size).toList=l.toList.drop i:=by rw[ZaT,List.take_of_length_le (by simp)]
section
variable{W:List Keyed}{a b out:Array Keyed}{ia ib k:Nat}
theorem MJ.uA(m:MJ B W out.toList (a.toList.drop ia) (b.toList.drop ib))(hU:∀x∈W,U x)(h:ia<a.size):U a[ia]:=m.ua hU (by rw[Qk h];simp)
theorem MJ.uB(m:MJ B W out.toList (a.toList.drop ia) (b.toList.drop ib))(hU:∀x∈W,U x)(h:ib<b.size):U b[ib]:=m.ub hU (by rw[Qk h];simp)
theorem MJ.stB(C:Cmp prog w A s κ U B)(hU:∀x∈W,U x)(m:MJ B W out.toList (a.toList.drop ia) (b.toList.drop ib))(h1:ia<a.size)(h2:ib<b.size)(h:B b[ib] a[ia]=true):MJ B W (out.push b[ib]).toList (a.toList.drop ia) (b.toList.drop (ib+1)):=by
 rw[Qk h1,Qk h2]at m
 rw[Qk h1,Array.toList_push]
 exact m.pushB C hU h
theorem MJ.stA(C:Cmp prog w A s κ U B)(hU:∀x∈W,U x)(m:MJ B W out.toList (a.toList.drop ia) (b.toList.drop ib))(h1:ia<a.size)(h2:ib<b.size)(h:B b[ib] a[ia]=false):MJ B W (out.push a[ia]).toList (a.toList.drop (ia+1)) (b.toList.drop ib):=by
 rw[Qk h1,Qk h2]at m
 rw[Qk h2,Array.toList_push]
 exact m.pushA C hU h
theorem ZiB{l:Array Keyed}{i k:Nat}(h:i+k<=l.size):l.toList.drop i=(l.extract i (i+k)).toList++l.toList.drop (i+k)/\∀x∈(l.extract i (i+k)).toList,∃j,∃hj:i+j<l.size,j<k/\x=l[i+j]:=by
 refine⟨by rw[ZaT,Nat.add_sub_cancel_left,<-List.drop_drop,List.take_append_drop],λx hx=>?_⟩
 rw[ZaT,Nat.add_sub_cancel_left]at hx
 obtain⟨j,hj,rfl⟩:=List.mem_iff_getElem.mp hx
 have hj':j<k:=by simp at hj;omega
 exact⟨j,by omega,hj',by simp⟩
theorem MJ.glA(C:Cmp prog w A s κ U B)(hU:∀x∈W,U x)(m:MJ B W out.toList (a.toList.drop ia) (b.toList.drop ib))(h1:ia+k<=a.size)(h2:ib<b.size)(h:∀j (hj:ia+j<a.size),j<k->B b[ib] a[ia+j]=false):MJ B W (out++a.extract ia (ia+k)).toList (a.toList.drop (ia+k)) (b.toList.drop ib):=by
 obtain⟨e,hm⟩:=ZiB h1
 rw[e,Qk h2]at m
 rw[Qk h2,Array.toList_append]
 exact m.appA C hU λx hx=>by
  obtain⟨j,hj,hjk,rfl⟩:=hm x hx
  exact h j hj hjk
theorem MJ.glB(C:Cmp prog w A s κ U B)(hU:∀x∈W,U x)(m:MJ B W out.toList (a.toList.drop ia) (b.toList.drop ib))(h1:ia<a.size)(h2:ib+k<=b.size)(h:∀j (hj:ib+j<b.size),j<k->B b[ib+j] a[ia]=true):MJ B W (out++b.extract ib (ib+k)).toList (a.toList.drop ia) (b.toList.drop (ib+k)):=by
 obtain⟨e,hm⟩:=ZiB h2
 rw[e,Qk h1]at m
 rw[Qk h1,Array.toList_append]
 exact m.appB C hU λx hx=>by
  obtain⟨j,hj,hjk,rfl⟩:=hm x hx
  exact h j hj hjk
theorem Srt.at{l:Array Keyed}{d i j:Nat}(h:Srt B (l.toList.drop d))(hd:d<=i)(hij:i<j)(hj:j<l.size):B l[j] l[i]=false:=by
 have:=List.pairwise_iff_getElem.mp h (i-d) (j-d) (by simp;omega) (by simp;omega) (by omega)
 simpa[show d+(j-d)=j by omega,show d+(i-d)=i by omega]using this
end
theorem Zfr(C:Cmp prog w A s κ U B){key:Keyed}{arr:Array Keyed}{base n hint:Nat}{Q:Option Nat->SortSt->Prop}(hn:base+n<=arr.size)(hu:∀i (h:i<arr.size),base<=i->i<base+n->U arr[i])(hy:U key)(so:∀i j (hj:j<arr.size) (hij:i<j),base<=i->j<base+n->B arr[j] arr[i]=false)(hh:hint<n)(hk:kindOf st=κ)(h:∀k,k<=n->(∀i (hi:i<arr.size),base<=i->i<base+k->B key arr[i]=false)->(∀i (hi:i<arr.size),base+k<=i->i<base+n->B key arr[i]=true)->Q (some k) st):wpS (model prog w) A E s (gal false key arr base n hint) Q st:=by
 have ff:∀i (hi:i<n),(arr[base+i]?).getD key=arr[base+i]'(by omega):=λi hi=>by rw[ZV (by omega)];rfl
 refine s_gal C (f:=λi=>(arr[base+i]?).getD key) (λi hi=>?_) hy hk hh (λi j hij hj q=>?_) λk k1 k2 k3=>h k k1 (λi hi h1 h2=>?_) λi hi h1 h2=>?_
 ·rw[ff i hi]
  exact⟨ZV _,hu _ _ (by omega) (by omega)⟩
 ·dsimp only[bey]at q ⊢
  rw[ff _ hj]at q
  rw[ff i (by omega)]
  rcases Nat.eq_or_lt_of_le hij with e|e
  ·subst e;exact q
  ·have q:B key arr[base+j]=false:=by simpa using q
   have:=C.tr _ _ _ (hu (base+i) (by omega) (by omega) (by omega)) (hu (base+j) (by omega) (by omega) (by omega)) hy (so _ _ _ (by omega) (by omega) (by omega)) q
   simpa using this
 ·have:=k2 (i-base) (by omega)
  dsimp only[bey]at this
  rw[ff _ (by omega)]at this
  simpa[show base+(i-base)=i by omega]using this
 ·have:=k3 (i-base) (by omega) (by omega)
  dsimp only[bey]at this
  rw[ff _ (by omega)]at this
  simpa[show base+(i-base)=i by omega]using this
theorem Zb6(C:Cmp prog w A s κ U B){key:Keyed}{arr:Array Keyed}{base n hint:Nat}{Q:Option Nat->SortSt->Prop}(hn:base+n<=arr.size)(hu:∀i (h:i<arr.size),base<=i->i<base+n->U arr[i])(hy:U key)(so:∀i j (hj:j<arr.size) (hij:i<j),base<=i->j<base+n->B arr[j] arr[i]=false)(hh:hint<n)(hk:kindOf st=κ)(h:∀k,k<=n->(∀i (hi:i<arr.size),base<=i->i<base+k->B arr[i] key=true)->(∀i (hi:i<arr.size),base+k<=i->i<base+n->B arr[i] key=false)->Q (some k) st):wpS (model prog w) A E s (gal true key arr base n hint) Q st:=by
 have ff:∀i (hi:i<n),(arr[base+i]?).getD key=arr[base+i]'(by omega):=λi hi=>by rw[ZV (by omega)];rfl
 refine s_gal C (f:=λi=>(arr[base+i]?).getD key) (λi hi=>?_) hy hk hh (λi j hij hj q=>?_) λk k1 k2 k3=>h k k1 (λi hi h1 h2=>?_) λi hi h1 h2=>?_
 ·rw[ff i hi]
  exact⟨ZV _,hu _ _ (by omega) (by omega)⟩
 ·dsimp only[bey]at q ⊢
  rw[ff _ hj,if_pos rfl]at q
  rw[ff i (by omega),if_pos rfl]
  rcases Nat.eq_or_lt_of_le hij with e|e
  ·subst e;exact q
  ·cases z:B arr[base+i] key with
   |true=>rfl
   |false =>
    have:=C.tr _ _ _ hy (hu (base+i) (by omega) (by omega) (by omega)) (hu (base+j) (by omega) (by omega) (by omega)) z (so _ _ _ (by omega) (by omega) (by omega))
    rw[this]at q;cases q
 ·have:=k2 (i-base) (by omega)
  dsimp only[bey]at this
  rw[ff _ (by omega),if_pos rfl]at this
  simpa[show base+(i-base)=i by omega]using this
 ·have:=k3 (i-base) (by omega) (by omega)
  dsimp only[bey]at this
  rw[ff _ (by omega),if_pos rfl]at this
  simpa[show base+(i-base)=i by omega]using this
theorem s_mLo(C:Cmp prog w A s κ U B){a b:Array Keyed}{Q:Array Keyed->SortSt->Prop}(hU:∀x∈a.toList++b.toList,U x)(ha:0<a.size)(hb:0<b.size)(sa:Srt B a.toList)(sb:Srt B b.toList)(hk:kindOf st=κ)(h0:B b[0] a[0]=true)(h1:∀y∈b.toList,B y a[a.size-1]=true)(h:∀r st',Sm st st'->Gd B (a.toList++b.toList) r.toList->Q r st'):wpS (model prog w) A E s (mLo a b) Q st:=by
 generalize hW:a.toList++b.toList=W at hU h
 have lb:∀{i:Nat},∀y∈b.toList.drop i,B y a[a.size-1]=true:=λy hy=>h1 y (List.mem_of_mem_drop hy)
 -- what the ends give
 have eB:∀{out:Array Keyed}{ia ib:Nat},MJ B W out.toList (a.toList.drop ia) (b.toList.drop ib)->(ib==b.size)=true->Gd B W (out++a.extract ia a.size++b.extract ib b.size).toList:=λ{out ia ib} m e=>by
  have e:ib=b.size:=by simpa using e
  subst e
  have hd:b.toList.drop b.size=[]:=List.drop_eq_nil_of_le (by simp)
  rw[hd]at m
  rw[Array.toList_append,Array.toList_append,ZhL,ZhL,hd,List.append_nil]
  exact m.done
 have eA:∀{out:Array Keyed}{ia ib:Nat},MJ B W out.toList (a.toList.drop ia) (b.toList.drop ib)->(ia+1==a.size)=true->Gd B W (out++b.extract ib b.size++a.extract ia a.size).toList:=λ{out ia ib} m e=>by
  have e:ia+1=a.size:=by simpa using e
  have ez:a.toList.drop ia=[a[a.size-1]]:=by
   rw[Qk (by omega),List.drop_eq_nil_of_le (by simp;omega)]
   congr 2
   omega
  rw[ez]at m
  rw[Array.toList_append,Array.toList_append,ZhL,ZhL,ez]
  exact m.lastA C hU lb
 have start:MJ B W [b[0]] (a.toList.drop 0) (b.toList.drop 1):=by
  have m0:MJ B W [] (a.toList.drop 0) (b.toList.drop 0):=⟨by simp[hW],.nil,by simpa using sa,by simpa using sb,λx hx=>by simp at hx⟩
  rw[Qk ha,Qk hb]at m0
  rw[Qk ha]
  exact m0.pushB C hU h0
 refine wpS_bind (wpS_lift (wpAny_rule ⟨rfl,?_⟩))
 refine wpS_bind (s_el (ZV hb) ?_)
 dsimp only
 refine Zq (λc1=>wpS_pure (h _ _ (Sm.refl _) (eB start c1))) λc1=>?_
 refine Zq (λc2=>wpS_pure (h _ _ (Sm.refl _) (eA start c2))) λc2=>?_
 have c1:1≠b.size:=by simpa using c1
 have c2:0+1≠a.size:=by simpa using c2
 refine wpS_bind (wpS_get ?_)
 refine wpS_bind (wpS_mono (wpS_forRange (I:=λ(i:Nat) (sx:Option (Array Keyed)×Array Keyed×Nat×Nat×Nat) st'=>Sm st st'/\sx.1=none/\MJ B W sx.2.1.toList (a.toList.drop sx.2.2.1) (b.toList.drop sx.2.2.2.1)/\sx.2.2.1+1<a.size/\sx.2.2.2.1<b.size/\i+1<=sx.2.2.1+sx.2.2.2.1)
  (Q:=λsx st'=>Sm st st'/\∃r,sx.1=some r/\Gd B W r.toList) ?_ ?_ ⟨Sm.refl _,rfl,start,(by show 0+1<a.size;omega),(by show 1<b.size;omega),(by show 0+1<=0+1;omega)⟩) ?_)
 ·rintro i ⟨r,out,ia,ib,mg⟩ st1 _ hi ⟨hs,rfl,m,q1,q2,q3⟩
  dsimp only at m q1 q2 q3 ⊢
  refine wpS_bind (wpS_mono (wpS_forRange (I:=λ(j:Nat) (sx:Option (Array Keyed)×Array Keyed×Nat×Nat×Nat×Nat) st'=>Sm st st'/\sx.1=none/\MJ B W sx.2.1.toList (a.toList.drop sx.2.2.1) (b.toList.drop sx.2.2.2.1)/\sx.2.2.1+1<a.size/\sx.2.2.2.1<b.size/\ia+ib+j<=sx.2.2.1+sx.2.2.2.1)
   (Q:=λsx st'=>Sm st st'/\((∃r,sx.1=some r/\Gd B W r.toList)∨(sx.1=none/\MJ B W sx.2.1.toList (a.toList.drop sx.2.2.1) (b.toList.drop sx.2.2.2.1)/\sx.2.2.1+1<a.size/\sx.2.2.2.1<b.size/\ia+ib+1<=sx.2.2.1+sx.2.2.2.1))) ?_ ?_ ⟨hs,rfl,m,q1,q2,Nat.le_refl _⟩) ?_)
  ·rintro j ⟨r,out,ja,jb,ac,bc⟩ st2 _ hj ⟨hs,rfl,m,p1,p2,p3⟩
   dsimp only at m p1 p2 p3 ⊢
   have p0:ja<a.size:=by omega
   refine wpS_bind (s_el (ZV p2) (wpS_bind (s_el (ZV p0) (wpS_bind (s_lt C (m.uB hU p2) (m.uA hU p0) (hs.1.trans hk) ?_)))))
   cases q:B b[jb] a[ja]with
   |true =>
    have m2:=m.stB C hU p0 p2 q
    refine Zq (λ_=>?_) λz=>absurd rfl z
    refine wpS_bind (s_el (ZV p2) (Zq (λz=>wpS_pure ⟨hs,.inl ⟨_,rfl,eB m2 z⟩⟩) λz=>?_))
    ·have z:jb+1≠b.size:=by simpa using z
     refine Zq (λ_=>?_) λ_=>?_
     ·exact wpS_pure ⟨hs,.inr ⟨rfl,m2,p1,(by show jb+1<b.size;omega),(by show ia+ib+1<=ja+(jb+1);omega)⟩⟩
     ·exact wpS_pure ⟨hs,rfl,m2,p1,(by show jb+1<b.size;omega),(by show ia+ib+(j+1)<=ja+(jb+1);omega)⟩
   |false =>
    have m2:=m.stA C hU p0 p2 q
    refine Zq (λz=>absurd z Bool.false_ne_true) λ_=>?_
    refine wpS_bind (s_el (ZV p0) (Zq (λz=>wpS_pure ⟨hs,.inl ⟨_,rfl,eA m2 z⟩⟩) λz=>?_))
    ·have z:ja+1+1≠a.size:=by simpa using z
     refine Zq (λ_=>?_) λ_=>?_
     ·exact wpS_pure ⟨hs,.inr ⟨rfl,m2,(by show ja+1+1<a.size;omega),p2,(by show ia+ib+1<=ja+1+jb;omega)⟩⟩
     ·exact wpS_pure ⟨hs,rfl,m2,(by show ja+1+1<a.size;omega),p2,(by show ia+ib+(j+1)<=ja+1+jb;omega)⟩
  ·rintro ⟨r,out,ja,jb,ac,bc⟩ st2 ⟨_,_,_,p1,p2,p3⟩
   dsimp only at p1 p2 p3
   omega
  ·rintro ⟨r,out,ja,jb,ac,bc⟩ st2 ⟨hs,⟨r',rfl,g⟩|⟨rfl,m,p1,p2,p3⟩⟩
   ·exact wpS_pure ⟨hs,r',rfl,g⟩
   ·dsimp only at m p1 p2 p3 ⊢
    refine wpS_bind (wpS_lift (wpAny_rule ⟨rfl,?_⟩))
    refine wpS_bind (wpS_mono (wpS_forRange (I:=λ(j:Nat) (sx:Option (Array Keyed)×Array Keyed×Nat×Nat×Nat×Nat×Nat) st'=>Sm st st'/\sx.1=none/\MJ B W sx.2.1.toList (a.toList.drop sx.2.2.1) (b.toList.drop sx.2.2.2.1)/\sx.2.2.1+1<a.size/\sx.2.2.2.1<b.size/\ja+jb+j<=sx.2.2.1+sx.2.2.2.1)
     (Q:=λsx st'=>Sm st st'/\((∃r,sx.1=some r/\Gd B W r.toList)∨(sx.1=none/\MJ B W sx.2.1.toList (a.toList.drop sx.2.2.1) (b.toList.drop sx.2.2.2.1)/\sx.2.2.1+1<a.size/\sx.2.2.2.1<b.size/\ja+jb<=sx.2.2.1+sx.2.2.2.1))) ?_ ?_ ⟨hs,rfl,m,p1,p2,Nat.le_refl _⟩) ?_)
    ·rintro j ⟨r,out,ka,kb,mg,ac,bc⟩ st2 _ hj ⟨hs,rfl,m,t1,t2,t3⟩
     dsimp only at m t1 t2 t3
     refine Zq (λ_=>?_) (λ_=>?_)
     all_goals
      refine wpS_bind (Zg1 hs λst3 hs=>wpS_bind (s_el (ZV t2) (wpS_bind (Zfr C (key:=b[kb]) (arr:=a) (base:=ka) (n:=a.size-ka) (hint:=0) (by omega) (λi hi z _=>m.ua hU (ZjJ z hi)) (m.uB hU t2) (λi j hj hij h1 h2=>m.sa.at h1 hij hj) (by omega) (hs.1.trans hk) λk k1 k2 k3=>?_))))
      have nz:ka+k+1<=a.size:=by
       rcases Nat.lt_or_ge (ka+k) a.size with z|z
       ·exact z
       ·have e1:=k2 (a.size-1) (by omega) (by omega) (by omega)
        have e2:=h1 b[kb] (by simp)
        rw[e1]at e2;cases e2
      have m2:=m.glA C hU (k:=k) (by omega) t2 λj hj hjk=>k2 _ _ (by omega) (by omega)
      have lt:=k3 (ka+k) (by omega) (by omega) (by omega)
      refine Zq (λhk0=>Zq (λz=>wpS_pure ⟨hs,.inl ⟨_,rfl,eA m2 z⟩⟩) λz=>Zq (λz2=>absurd (show ka+k=a.size by simpa using z2) (by omega)) λ_=>?_) λhk0=>?_
      ·have z:ka+k+1≠a.size:=by simpa using z
       have hc:ka+k<a.size:=by omega
       have m3:=m2.stB C hU hc t2 lt
       refine wpS_bind (s_el (ZV t2) (Zq (λz=>wpS_pure ⟨hs,.inl ⟨_,rfl,eB m3 z⟩⟩) λz=>?_))
       have z:kb+1≠b.size:=by simpa using z
       refine wpS_bind (s_el (ZV hc) (wpS_bind (Zb6 C (arr:=b) (base:=kb+1) (n:=b.size-(kb+1)) (hint:=0) (by omega) (λi hi y _=>m3.ub hU (ZjJ y hi)) (m3.uA hU hc) (λi j hj hij h1 h2=>m3.sb.at h1 hij hj) (by omega) (hs.1.trans hk) λl l1 l2 l3=>?_)))
       have m4:=m3.glB C hU (k:=l) hc (by omega) λj hj hjk=>l2 _ _ (by omega) (by omega)
       refine Zq (λhl0=>Zq (λy=>wpS_pure ⟨hs,.inl ⟨_,rfl,eB m4 y⟩⟩) λy=>?_) λhl0=>?_
       ·have y:kb+1+l≠b.size:=by simpa using y
        have hd:kb+1+l<b.size:=by omega
        have ge:=l3 (kb+1+l) hd (by omega) (by omega)
        have m5:=m4.stA C hU hc hd ge
        refine wpS_bind (s_el (ZV hc) (Zq (λx=>wpS_pure ⟨hs,.inl ⟨_,rfl,eA m5 x⟩⟩) λx=>?_))
        have x:ka+k+1+1≠a.size:=by simpa using x
        have w1:ka+k+1+1<a.size:=by omega
        have w2:ja+jb+(j+1)<=ka+k+1+(kb+1+l):=by omega
        exact Zq (λ_=>wpS_pure ⟨hs,.inr ⟨rfl,m5,w1,hd,(Nat.le_trans (Nat.le_add_right _ _) w2)⟩⟩) λ_=>wpS_pure ⟨hs,rfl,m5,w1,hd,w2⟩
       ·obtain rfl:l=0:=by omega
        have hd:kb+1<b.size:=by omega
        have ge:=l3 (kb+1) hd (by omega) (by omega)
        have m5:=m3.stA C hU hc hd ge
        refine wpS_bind (s_el (ZV hc) (Zq (λx=>wpS_pure ⟨hs,.inl ⟨_,rfl,eA m5 x⟩⟩) λx=>?_))
        have x:ka+k+1+1≠a.size:=by simpa using x
        have w1:ka+k+1+1<a.size:=by omega
        have w2:ja+jb+(j+1)<=ka+k+1+(kb+1):=by omega
        exact Zq (λ_=>wpS_pure ⟨hs,.inr ⟨rfl,m5,w1,hd,(Nat.le_trans (Nat.le_add_right _ _) w2)⟩⟩) λ_=>wpS_pure ⟨hs,rfl,m5,w1,hd,w2⟩
      ·obtain rfl:k=0:=by omega
       have m2:=m
       have lt:B b[kb] a[ka]=true:=lt
       have hc:ka<a.size:=by omega
       have m3:=m2.stB C hU hc t2 lt
       refine wpS_bind (s_el (ZV t2) (Zq (λz=>wpS_pure ⟨hs,.inl ⟨_,rfl,eB m3 z⟩⟩) λz=>?_))
       have z:kb+1≠b.size:=by simpa using z
       refine wpS_bind (s_el (ZV hc) (wpS_bind (Zb6 C (arr:=b) (base:=kb+1) (n:=b.size-(kb+1)) (hint:=0) (by omega) (λi hi y _=>m3.ub hU (ZjJ y hi)) (m3.uA hU hc) (λi j hj hij h1 h2=>m3.sb.at h1 hij hj) (by omega) (hs.1.trans hk) λl l1 l2 l3=>?_)))
       have m4:=m3.glB C hU (k:=l) hc (by omega) λj hj hjk=>l2 _ _ (by omega) (by omega)
       refine Zq (λhl0=>Zq (λy=>wpS_pure ⟨hs,.inl ⟨_,rfl,eB m4 y⟩⟩) λy=>?_) λhl0=>?_
       ·have y:kb+1+l≠b.size:=by simpa using y
        have hd:kb+1+l<b.size:=by omega
        have ge:=l3 (kb+1+l) hd (by omega) (by omega)
        have m5:=m4.stA C hU hc hd ge
        refine wpS_bind (s_el (ZV hc) (Zq (λx=>wpS_pure ⟨hs,.inl ⟨_,rfl,eA m5 x⟩⟩) λx=>?_))
        have x:ka+1+1≠a.size:=by simpa using x
        have w1:ka+1+1<a.size:=by omega
        have w2:ja+jb+(j+1)<=ka+1+(kb+1+l):=by omega
        exact Zq (λ_=>wpS_pure ⟨hs,.inr ⟨rfl,m5,w1,hd,(Nat.le_trans (Nat.le_add_right _ _) w2)⟩⟩) λ_=>wpS_pure ⟨hs,rfl,m5,w1,hd,w2⟩
       ·obtain rfl:l=0:=by omega
        have hd:kb+1<b.size:=by omega
        have ge:=l3 (kb+1) hd (by omega) (by omega)
        have m5:=m3.stA C hU hc hd ge
        refine wpS_bind (s_el (ZV hc) (Zq (λx=>wpS_pure ⟨hs,.inl ⟨_,rfl,eA m5 x⟩⟩) λx=>?_))
        have x:ka+1+1≠a.size:=by simpa using x
        have w1:ka+1+1<a.size:=by omega
        have w2:ja+jb+(j+1)<=ka+1+(kb+1):=by omega
        exact Zq (λ_=>wpS_pure ⟨hs,.inr ⟨rfl,m5,w1,hd,(Nat.le_trans (Nat.le_add_right _ _) w2)⟩⟩) λ_=>wpS_pure ⟨hs,rfl,m5,w1,hd,w2⟩
    ·rintro ⟨r,out,ka,kb,mg,ac,bc⟩ st2 ⟨_,_,_,p1,p2,p3⟩
     dsimp only at p1 p2 p3
     omega
    ·rintro ⟨r,out,ka,kb,mg,ac,bc⟩ st2 ⟨hs,⟨r',rfl,g⟩|⟨rfl,m,p1,p2,p3⟩⟩
     ·exact wpS_pure ⟨hs,r',rfl,g⟩
     ·dsimp only at m p1 p2 p3 ⊢
      refine wpS_bind (Zg1 hs λst3 hs=>?_)
      exact wpS_pure ⟨hs,rfl,m,p1,p2,(by show i+1+1<=ka+kb;omega)⟩
 ·rintro ⟨r,out,ia,ib,mg⟩ st' ⟨_,_,_,q1,q2,q3⟩
  dsimp only at q1 q2 q3
  omega
 ·rintro ⟨r,out,ia,ib,mg⟩ st' ⟨hs,r',rfl,g⟩
  exact wpS_pure (h _ _ hs g)
end
structure NJ (B:Keyed->Keyed->Bool) (W o la lb:List Keyed):Prop where
 perm:((la++lb)++o).Perm W
 so:Srt B o
 sa:Srt B la
 sb:Srt B lb
 ge:∀x∈o,∀y∈la++lb,B x y=false
section
variable{prog:Program}{w:World}{A:Around}{E:Value->Shared->Prop}{s:Shared}{κ:SortKind}{U:Keyed->Prop}{B:Keyed->Keyed->Bool}{W o la lb p:List Keyed}{x y z:Keyed}
theorem NJ.mem(m:NJ B W o la lb)(hU:∀x∈W,U x){x:Keyed}(h:x∈(la++lb)++o):U x:=hU x (m.perm.mem_iff.mp h)
theorem NJ.ua(m:NJ B W o la lb)(hU:∀x∈W,U x){x:Keyed}(h:x∈la):U x:=m.mem hU (by simp[h])
theorem NJ.ub(m:NJ B W o la lb)(hU:∀x∈W,U x){x:Keyed}(h:x∈lb):U x:=m.mem hU (by simp[h])
theorem Srt.snoc(h:Srt B (la++[x])):Srt B la/\∀y∈la,B x y=false:=⟨(List.pairwise_append.mp h).1,λy hy=>(List.pairwise_append.mp h).2.2 y hy x (by simp)⟩
theorem NJ.appA(C:Cmp prog w A s κ U B)(hU:∀x∈W,U x)(m:NJ B W o (la++p) (lb++[y]))(h:∀x∈p,B y x=true):NJ B W (p++o) la (lb++[y]):=by
 have sp:=List.pairwise_append.mp m.sa
 have uy:=m.ub hU (show y∈lb++[y] by simp)
 refine⟨?_,Srt.app sp.2.1 m.so λa ha b hb=>m.ge b hb a (by simp[ha]),sp.1,m.sb,λa ha b hb=>?_⟩
 ·refine List.Perm.trans ?_ m.perm
  rw[<-List.append_assoc]
  refine List.Perm.append_right o ?_
  rw[List.append_assoc la (lb++[y]) p,List.append_assoc la p (lb++[y])]
  exact List.Perm.append_left la List.perm_append_comm
 ·rcases List.mem_append.mp ha with ha|ha
  ·have ua:=m.ua hU (show a∈la++p by simp[ha])
   rcases List.mem_append.mp hb with hb|hb
   ·exact sp.2.2 b hb a ha
   ·have hay:=C.asy y a uy ua (h a ha)
    rcases List.mem_append.mp hb with hb'|hb'
    ·exact C.tr b y a (m.ub hU hb) uy ua (m.sb.snoc.2 b hb') hay
    ·simp at hb';subst hb';exact hay
  ·exact m.ge a ha b (List.mem_append.mpr ((List.mem_append.mp hb).imp (List.mem_append_left _) id))
theorem NJ.appB(C:Cmp prog w A s κ U B)(hU:∀x∈W,U x)(m:NJ B W o (la++[x]) (lb++p))(h:∀y∈p,B y x=false):NJ B W (p++o) (la++[x]) lb:=by
 have sp:=List.pairwise_append.mp m.sb
 have ux:=m.ua hU (show x∈la++[x] by simp)
 refine⟨by simpa[List.append_assoc]using m.perm,Srt.app sp.2.1 m.so λa ha b hb=>m.ge b hb a (by simp[ha]),m.sa,sp.1,λa ha b hb=>?_⟩
 rcases List.mem_append.mp ha with ha|ha
 ·have ua:=m.ub hU (show a∈lb++p by simp[ha])
  rcases List.mem_append.mp hb with hb|hb
  ·rcases List.mem_append.mp hb with hb'|hb'
   ·exact C.tr b x a (m.ua hU hb) ux ua (m.sa.snoc.2 b hb') (h a ha)
   ·simp at hb';subst hb';exact h a ha
  ·exact sp.2.2 b hb a ha
 ·exact m.ge a ha b (List.mem_append.mpr ((List.mem_append.mp hb).imp id (List.mem_append_left _)))
theorem NJ.done(m:NJ B W o [] lb):Gd B W (lb++o):=⟨by simpa using m.perm,m.sb.app m.so λa ha b hb=>m.ge b hb a (by simp[ha])⟩
theorem NJ.firstB(C:Cmp prog w A s κ U B)(hU:∀x∈W,U x)(m:NJ B W o la [z])(h:∀x∈la,B z x=true):Gd B W (z::la++o):=by
 have k:=NJ.appA (p:=la) (la:=[]) (lb:=[]) C hU (by simpa using m) h
 simpa using k.done
end
section
variable{prog:Program}{w:World}{A:Around}{E:Value->Shared->Prop}{s:Shared}{κ:SortKind}{U:Keyed->Prop}{B:Keyed->Keyed->Bool}{st st':SortSt}{W:List Keyed}{a b out:Array Keyed}{na nb k:Nat}
theorem Q7{l:Array Keyed}{n:Nat}(h0:0<n)(h:n<=l.size):l.toList.take n=l.toList.take (n-1)++[l[n-1]]:=by
 obtain⟨i,rfl⟩:∃i,n=i+1:=⟨n-1,by omega⟩
 rw[List.take_add_one]
 simp
noncomputable abbrev NR(B:Keyed->Keyed->Bool)(W:List Keyed)(out a b:Array Keyed)(na nb:Nat):Prop:=NJ B W out.toList.reverse (a.toList.take na) (b.toList.take nb)
theorem Zf1{l:Array Keyed}{n i:Nat}(h:i<n)(hi:i<l.size):l[i]∈l.toList.take n:=by
 rw[List.mem_iff_getElem]
 exact⟨i,by simp;omega,by simp⟩
theorem Srt.tat{l:Array Keyed}{n i j:Nat}(h:Srt B (l.toList.take n))(hij:i<j)(hj:j<l.size)(hn:j<n):B l[j] l[i]=false:=by
 have:=List.pairwise_iff_getElem.mp h i j (by simp;omega) (by simp;omega) hij
 simpa using this
theorem Zib{l:Array Keyed}{i n:Nat}(h:i<=n)(hn:n<=l.size):l.toList.take n=l.toList.take i++(l.extract i n).toList/\∀x∈(l.extract i n).toList,∃j,∃hj:j<l.size,i<=j/\j<n/\x=l[j]:=by
 refine⟨?_,λx hx=>?_⟩
 ·rw[ZaT,<-List.take_add,show i+(n-i)=n by omega]
 ·rw[ZaT]at hx
  obtain⟨j,hj,rfl⟩:=List.mem_iff_getElem.mp hx
  simp at hj
  exact⟨i+j,by omega,by omega,by omega,by simp⟩
theorem NJ.glA(C:Cmp prog w A s κ U B)(hU:∀x∈W,U x)(m:NR B W out a b na nb)(h1:k<=na)(h1':na<=a.size)(h2:0<nb)(h2':nb<=b.size)(h:∀j (hj:j<a.size),k<=j->j<na->B b[nb-1] a[j]=true):NR B W (out++(a.extract k na).reverse) a b k nb:=by
 obtain⟨e,hm⟩:=Zib h1 h1'
 unfold NR at m ⊢
 rw[e,Q7 h2 h2']at m
 rw[Q7 h2 h2',show(out++(a.extract k na).reverse).toList.reverse=(a.extract k na).toList++out.toList.reverse by simp]
 exact m.appA C hU λx hx=>by
  obtain⟨j,hj,hjk,hjn,rfl⟩:=hm x hx
  exact h j hj hjk hjn
theorem NJ.glB(C:Cmp prog w A s κ U B)(hU:∀x∈W,U x)(m:NR B W out a b na nb)(h1:0<na)(h1':na<=a.size)(h2:k<=nb)(h2':nb<=b.size)(h:∀j (hj:j<b.size),k<=j->j<nb->B b[j] a[na-1]=false):NR B W (out++(b.extract k nb).reverse) a b na k:=by
 obtain⟨e,hm⟩:=Zib h2 h2'
 unfold NR at m ⊢
 rw[e,Q7 h1 h1']at m
 rw[Q7 h1 h1',show(out++(b.extract k nb).reverse).toList.reverse=(b.extract k nb).toList++out.toList.reverse by simp]
 exact m.appB C hU λx hx=>by
  obtain⟨j,hj,hjk,hjn,rfl⟩:=hm x hx
  exact h j hj hjk hjn
theorem NJ.stA(C:Cmp prog w A s κ U B)(hU:∀x∈W,U x)(m:NR B W out a b na nb)(h1:0<na)(h1':na<=a.size)(h2:0<nb)(h2':nb<=b.size)(h:B b[nb-1] a[na-1]=true):NR B W (out.push a[na-1]) a b (na-1) nb:=by
 unfold NR at m ⊢
 rw[Q7 h1 h1',Q7 h2 h2']at m
 rw[Q7 h2 h2',show(out.push a[na-1]).toList.reverse=[a[na-1]]++out.toList.reverse by simp]
 exact m.appA C hU λx hx=>by simp at hx;subst hx;exact h
theorem NJ.stB(C:Cmp prog w A s κ U B)(hU:∀x∈W,U x)(m:NR B W out a b na nb)(h1:0<na)(h1':na<=a.size)(h2:0<nb)(h2':nb<=b.size)(h:B b[nb-1] a[na-1]=false):NR B W (out.push b[nb-1]) a b na (nb-1):=by
 unfold NR at m ⊢
 rw[Q7 h1 h1',Q7 h2 h2']at m
 rw[Q7 h1 h1',show(out.push b[nb-1]).toList.reverse=[b[nb-1]]++out.toList.reverse by simp]
 exact m.appB C hU λx hx=>by simp at hx;subst hx;exact h
theorem NJ.uA(m:NR B W out a b na nb)(hU:∀x∈W,U x)(h0:0<na)(h:na<=a.size):U a[na-1]:=m.ua hU (Zf1 (by omega) _)
theorem NJ.uB(m:NR B W out a b na nb)(hU:∀x∈W,U x)(h0:0<nb)(h:nb<=b.size):U b[nb-1]:=m.ub hU (Zf1 (by omega) _)
set_option maxHeartbeats 1000000
theorem s_mHi(C:Cmp prog w A s κ U B){Q:Array Keyed->SortSt->Prop}(hU:∀x∈a.toList++b.toList,U x)(ha:0<a.size)(hb:0<b.size)(sa:Srt B a.toList)(sb:Srt B b.toList)(hk:kindOf st=κ)(h0:∀x∈a.toList,B b[0] x=true)(h1:B b[b.size-1] a[a.size-1]=true)(h:∀r st',Sm st st'->Gd B (a.toList++b.toList) r.toList->Q r st'):wpS (model prog w) A E s (mHi a b) Q st:=by
 generalize hW:a.toList++b.toList=W at hU h
 have eA:∀{out:Array Keyed}{na nb:Nat},NR B W out a b na nb->(na==0)=true->Gd B W (a.extract 0 na++b.extract 0 nb++out.reverse).toList:=λ{out na nb} m e=>by
  have e:na=0:=by simpa using e
  subst e
  unfold NR at m
  rw[List.take_zero]at m
  rw[Array.toList_append,Array.toList_append,ZaT,ZaT,Array.toList_reverse,List.drop_zero,List.drop_zero,Nat.sub_zero,Nat.sub_zero,List.take_zero,List.nil_append]
  exact m.done
 have eB:∀{out:Array Keyed}{na nb:Nat},NR B W out a b na nb->(nb==1)=true->Gd B W (b.extract 0 nb++a.extract 0 na++out.reverse).toList:=λ{out na nb} m e=>by
  have e:nb=1:=by simpa using e
  subst e
  have e1:b.toList.take 1=[b[0]]:=by rw[Q7 (by omega) (by omega)];simp
  unfold NR at m
  rw[e1]at m
  rw[Array.toList_append,Array.toList_append,ZaT,ZaT,Array.toList_reverse,List.drop_zero,List.drop_zero,Nat.sub_zero,Nat.sub_zero,e1]
  exact m.firstB C hU λx hx=>h0 x (List.mem_of_mem_take hx)
 have start:NR B W #[a[a.size-1]] a b (a.size-1) b.size:=by
  have m0:NR B W #[] a b a.size b.size:=by
   have e1:a.toList.take a.size=a.toList:=List.take_of_length_le (by simp)
   have e2:b.toList.take b.size=b.toList:=List.take_of_length_le (by simp)
   unfold NR
   rw[e1,e2]
   exact⟨by simp[hW],.nil,sa,sb,λx hx=>by simp at hx⟩
  exact m0.stA C hU ha (Nat.le_refl _) hb (Nat.le_refl _) h1
 refine wpS_bind (wpS_lift (wpAny_rule ⟨rfl,?_⟩))
 refine wpS_bind (s_el (ZV (show a.size-1<a.size by omega)) ?_)
 refine Zq (λc1=>wpS_pure (h _ _ (Sm.refl _) (eA start c1))) λc1=>Zq (λc2=>wpS_pure (h _ _ (Sm.refl _) (eB start c2))) λc2=>?_
 have c1:a.size-1≠0:=by simpa using c1
 have c2:b.size≠1:=by simpa using c2
 refine wpS_bind (wpS_get ?_)
 refine wpS_bind (wpS_mono (wpS_forRange (I:=λ(i:Nat) (sx:Option (Array Keyed)×Nat×Nat×Array Keyed×Nat) st'=>Sm st st'/\sx.1=none/\NR B W sx.2.2.2.1 a b sx.2.1 sx.2.2.1/\0<sx.2.1/\sx.2.1<=a.size/\1<sx.2.2.1/\sx.2.2.1<=b.size/\i+1+(sx.2.1+sx.2.2.1)<=a.size+b.size)
  (Q:=λsx st'=>Sm st st'/\∃r,sx.1=some r/\Gd B W r.toList) ?_ ?_ ⟨Sm.refl _,rfl,start,(by show 0<a.size-1;omega),(by show a.size-1<=a.size;omega),(by show 1<b.size;omega),Nat.le_refl _,(by show 0+1+(a.size-1+b.size)<=a.size+b.size;omega)⟩) ?_)
 ·rintro i ⟨r,na,nb,out,mg⟩ st1 _ hi ⟨hs,rfl,m,q1,q2,q3,q4,q5⟩
  dsimp only at m q1 q2 q3 q4 q5
  refine wpS_bind (wpS_mono (wpS_forRange (I:=λ(j:Nat) (sx:Option (Array Keyed)×Nat×Nat×Array Keyed×Nat×Nat) st'=>Sm st st'/\sx.1=none/\NR B W sx.2.2.2.1 a b sx.2.1 sx.2.2.1/\0<sx.2.1/\sx.2.1<=a.size/\1<sx.2.2.1/\sx.2.2.1<=b.size/\sx.2.1+sx.2.2.1+j<=na+nb)
   (Q:=λsx st'=>Sm st st'/\((∃r,sx.1=some r/\Gd B W r.toList)∨(sx.1=none/\NR B W sx.2.2.2.1 a b sx.2.1 sx.2.2.1/\0<sx.2.1/\sx.2.1<=a.size/\1<sx.2.2.1/\sx.2.2.1<=b.size/\sx.2.1+sx.2.2.1+1<=na+nb))) ?_ ?_ ⟨hs,rfl,m,q1,q2,q3,q4,Nat.le_refl _⟩) ?_)
  ·rintro j ⟨r,ja,jb,out,ac,bc⟩ st2 _ hj ⟨hs,rfl,m,p1,p2,p3,p4,p5⟩
   dsimp only at m p1 p2 p3 p4 p5
   refine wpS_bind (s_el (ZV (show jb-1<b.size by omega)) (wpS_bind (s_el (ZV (show ja-1<a.size by omega)) (wpS_bind (s_lt C (m.uB hU (by omega) p4) (m.uA hU p1 p2) (hs.1.trans hk) ?_)))))
   cases q:B b[jb-1] a[ja-1]with
   |true =>
    have m2:=m.stA C hU p1 p2 (by omega) p4 q
    refine wpS_bind (s_el (ZV (show ja-1<a.size by omega)) (Zq (λz=>wpS_pure ⟨hs,.inl ⟨_,rfl,eA m2 z⟩⟩) λz=>?_))
    have z:ja-1≠0:=by simpa using z
    have w1:0<ja-1:=by omega
    have w2:ja-1<=a.size:=by omega
    have w3:ja-1+jb+1<=na+nb:=by omega
    have w4:ja-1+jb+(j+1)<=na+nb:=by omega
    exact Zq (λ_=>wpS_pure ⟨hs,.inr ⟨rfl,m2,w1,w2,p3,p4,w3⟩⟩) λ_=>wpS_pure ⟨hs,rfl,m2,w1,w2,p3,p4,w4⟩
   |false =>
    have m2:=m.stB C hU p1 p2 (by omega) p4 q
    refine wpS_bind (s_el (ZV (show jb-1<b.size by omega)) (Zq (λz=>wpS_pure ⟨hs,.inl ⟨_,rfl,eB m2 z⟩⟩) λz=>?_))
    have z:jb-1≠1:=by simpa using z
    have w1:1<jb-1:=by omega
    have w2:jb-1<=b.size:=by omega
    have w3:ja+(jb-1)+1<=na+nb:=by omega
    have w4:ja+(jb-1)+(j+1)<=na+nb:=by omega
    exact Zq (λ_=>wpS_pure ⟨hs,.inr ⟨rfl,m2,p1,p2,w1,w2,w3⟩⟩) λ_=>wpS_pure ⟨hs,rfl,m2,p1,p2,w1,w2,w4⟩
  ·rintro ⟨r,ja,jb,out,ac,bc⟩ st2 ⟨_,_,_,p1,p2,p3,p4,p5⟩
   dsimp only at p1 p2 p3 p4 p5
   omega
  ·rintro ⟨r,ja,jb,out,ac,bc⟩ st2 ⟨hs,⟨r',rfl,g⟩|⟨rfl,m,p1,p2,p3,p4,p5⟩⟩
   ·exact wpS_pure ⟨hs,r',rfl,g⟩
   ·dsimp only at m p1 p2 p3 p4 p5
    refine wpS_bind (wpS_lift (wpAny_rule ⟨rfl,?_⟩))
    refine wpS_bind (wpS_mono (wpS_forRange (I:=λ(j:Nat) (sx:Option (Array Keyed)×Nat×Nat×Array Keyed×Nat×Nat×Nat) st'=>Sm st st'/\sx.1=none/\NR B W sx.2.2.2.1 a b sx.2.1 sx.2.2.1/\0<sx.2.1/\sx.2.1<=a.size/\1<sx.2.2.1/\sx.2.2.1<=b.size/\sx.2.1+sx.2.2.1+j<=ja+jb)
     (Q:=λsx st'=>Sm st st'/\((∃r,sx.1=some r/\Gd B W r.toList)∨(sx.1=none/\NR B W sx.2.2.2.1 a b sx.2.1 sx.2.2.1/\0<sx.2.1/\sx.2.1<=a.size/\1<sx.2.2.1/\sx.2.2.1<=b.size/\sx.2.1+sx.2.2.1<=ja+jb))) ?_ ?_ ⟨hs,rfl,m,p1,p2,p3,p4,Nat.le_refl _⟩) ?_)
    ·rintro j ⟨r,ka,kb,out,mg,ac,bc⟩ st2 _ hj ⟨hs,rfl,m,t1,t1',t2,t2',t3⟩
     dsimp only at m t1 t1' t2 t2' t3
     refine Zq (λ_=>?_) (λ_=>?_)
     all_goals
      refine wpS_bind (Zg1 hs λst3 hs=>wpS_bind (s_el (ZV (show kb-1<b.size by omega)) (wpS_bind (Zfr C (key:=b[kb-1]) (arr:=a) (base:=0) (n:=ka) (hint:=ka-1) (by omega) (λi hi z _=>m.ua hU (Zf1 (by omega) hi)) (m.uB hU (by omega) t2') (λi j hj hij h1 h2=>m.sa.tat hij hj (by omega)) (by omega) (hs.1.trans hk) λt k1 k2 k3=>?_))))
      have m2:=m.glA C hU (k:=t) k1 t1' (by omega) t2' λj hj h1 h2=>k3 _ _ (by omega) (by omega)
      refine Zq (λhk0=>Zq (λz=>wpS_pure ⟨hs,.inl ⟨_,rfl,eA m2 z⟩⟩) λz=>?_) λhk0=>?_
      ·have z:t≠0:=by simpa using z
       have hc:0<t:=by omega
       have ge:B b[kb-1] a[t-1]=false:=k2 (t-1) (by omega) (by omega) (by omega)
       have m3:=m2.stB C hU hc (by omega) (by omega) (by omega) ge
       refine wpS_bind (s_el (ZV (show kb-1<b.size by omega)) (Zq (λz=>wpS_pure ⟨hs,.inl ⟨_,rfl,eB m3 z⟩⟩) λz=>?_))
       have z:kb-1≠1:=by simpa using z
       refine wpS_bind (s_el (ZV (show t-1<a.size by omega)) (wpS_bind (Zb6 C (arr:=b) (base:=0) (n:=kb-1) (hint:=kb-1-1) (by omega) (λi hi y _=>m3.ub hU (Zf1 (by omega) hi)) (m3.uA hU hc (by omega)) (λi j hj hij h1 h2=>m3.sb.tat hij hj (by omega)) (by omega) (hs.1.trans hk) λl l1 l2 l3=>?_)))
       have hl:0<l:=by
        rcases Nat.eq_zero_or_pos l with e|e
        ·have e1:=l3 0 (by omega) (by omega) (by omega)
         have e2:=h0 a[t-1] (by simp)
         rw[e1]at e2;cases e2
        ·exact e
       have m4:=m3.glB C hU (k:=l) hc (by omega) l1 (by omega) λj hj h1 h2=>l3 _ _ (by omega) (by omega)
       refine Zq (λhl0=>Zq (λy=>wpS_pure ⟨hs,.inl ⟨_,rfl,eB m4 y⟩⟩) λy=>Zq (λy2=>absurd (show l=0 by simpa using y2) (by omega)) λ_=>?_) λhl0=>?_
       ·have y:l≠1:=by simpa using y
        have hd:B b[l-1] a[t-1]=true:=l2 (l-1) (by omega) (by omega) (by omega)
        have m5:=m4.stA C hU hc (by omega) (by omega) (by omega) hd
        refine wpS_bind (s_el (ZV (show t-1<a.size by omega)) (Zq (λx=>wpS_pure ⟨hs,.inl ⟨_,rfl,eA m5 x⟩⟩) λx=>?_))
        have x:t-1≠0:=by simpa using x
        have w1:0<t-1:=by omega
        have w2:t-1<=a.size:=by omega
        have w3:1<l:=by omega
        have w4:l<=b.size:=by omega
        have w5:t-1+(l)+(j+1)<=ja+jb:=by omega
        exact Zq (λ_=>wpS_pure ⟨hs,.inr ⟨rfl,m5,w1,w2,w3,w4,(Nat.le_trans (Nat.le_add_right _ _) w5)⟩⟩) λ_=>wpS_pure ⟨hs,rfl,m5,w1,w2,w3,w4,w5⟩
       ·have hl0:¬kb-1-l>0:=hl0
        obtain rfl:l=kb-1:=by omega
        have hd:B b[kb-1-1] a[t-1]=true:=l2 (kb-1-1) (by omega) (by omega) (by omega)
        have m5:=m3.stA C hU hc (by omega) (by omega) (by omega) hd
        refine wpS_bind (s_el (ZV (show t-1<a.size by omega)) (Zq (λx=>wpS_pure ⟨hs,.inl ⟨_,rfl,eA m5 x⟩⟩) λx=>?_))
        have x:t-1≠0:=by simpa using x
        have w1:0<t-1:=by omega
        have w2:t-1<=a.size:=by omega
        have w3:1<kb-1:=by omega
        have w4:kb-1<=b.size:=by omega
        have w5:t-1+(kb-1)+(j+1)<=ja+jb:=by omega
        exact Zq (λ_=>wpS_pure ⟨hs,.inr ⟨rfl,m5,w1,w2,w3,w4,(Nat.le_trans (Nat.le_add_right _ _) w5)⟩⟩) λ_=>wpS_pure ⟨hs,rfl,m5,w1,w2,w3,w4,w5⟩
      ·have hk0:¬ka-t>0:=hk0
       obtain rfl:t=ka:=by omega
       have m2:=m
       have hc:0<t:=by omega
       have ge:B b[kb-1] a[t-1]=false:=k2 (t-1) (by omega) (by omega) (by omega)
       have m3:=m2.stB C hU hc (by omega) (by omega) (by omega) ge
       refine wpS_bind (s_el (ZV (show kb-1<b.size by omega)) (Zq (λz=>wpS_pure ⟨hs,.inl ⟨_,rfl,eB m3 z⟩⟩) λz=>?_))
       have z:kb-1≠1:=by simpa using z
       refine wpS_bind (s_el (ZV (show t-1<a.size by omega)) (wpS_bind (Zb6 C (arr:=b) (base:=0) (n:=kb-1) (hint:=kb-1-1) (by omega) (λi hi y _=>m3.ub hU (Zf1 (by omega) hi)) (m3.uA hU hc (by omega)) (λi j hj hij h1 h2=>m3.sb.tat hij hj (by omega)) (by omega) (hs.1.trans hk) λl l1 l2 l3=>?_)))
       have hl:0<l:=by
        rcases Nat.eq_zero_or_pos l with e|e
        ·have e1:=l3 0 (by omega) (by omega) (by omega)
         have e2:=h0 a[t-1] (by simp)
         rw[e1]at e2;cases e2
        ·exact e
       have m4:=m3.glB C hU (k:=l) hc (by omega) l1 (by omega) λj hj h1 h2=>l3 _ _ (by omega) (by omega)
       refine Zq (λhl0=>Zq (λy=>wpS_pure ⟨hs,.inl ⟨_,rfl,eB m4 y⟩⟩) λy=>Zq (λy2=>absurd (show l=0 by simpa using y2) (by omega)) λ_=>?_) λhl0=>?_
       ·have y:l≠1:=by simpa using y
        have hd:B b[l-1] a[t-1]=true:=l2 (l-1) (by omega) (by omega) (by omega)
        have m5:=m4.stA C hU hc (by omega) (by omega) (by omega) hd
        refine wpS_bind (s_el (ZV (show t-1<a.size by omega)) (Zq (λx=>wpS_pure ⟨hs,.inl ⟨_,rfl,eA m5 x⟩⟩) λx=>?_))
        have x:t-1≠0:=by simpa using x
        have w1:0<t-1:=by omega
        have w2:t-1<=a.size:=by omega
        have w3:1<l:=by omega
        have w4:l<=b.size:=by omega
        have w5:t-1+(l)+(j+1)<=ja+jb:=by omega
        exact Zq (λ_=>wpS_pure ⟨hs,.inr ⟨rfl,m5,w1,w2,w3,w4,(Nat.le_trans (Nat.le_add_right _ _) w5)⟩⟩) λ_=>wpS_pure ⟨hs,rfl,m5,w1,w2,w3,w4,w5⟩
       ·have hl0:¬kb-1-l>0:=hl0
        obtain rfl:l=kb-1:=by omega
        have hd:B b[kb-1-1] a[t-1]=true:=l2 (kb-1-1) (by omega) (by omega) (by omega)
        have m5:=m3.stA C hU hc (by omega) (by omega) (by omega) hd
        refine wpS_bind (s_el (ZV (show t-1<a.size by omega)) (Zq (λx=>wpS_pure ⟨hs,.inl ⟨_,rfl,eA m5 x⟩⟩) λx=>?_))
        have x:t-1≠0:=by simpa using x
        have w1:0<t-1:=by omega
        have w2:t-1<=a.size:=by omega
        have w3:1<kb-1:=by omega
        have w4:kb-1<=b.size:=by omega
        have w5:t-1+(kb-1)+(j+1)<=ja+jb:=by omega
        exact Zq (λ_=>wpS_pure ⟨hs,.inr ⟨rfl,m5,w1,w2,w3,w4,(Nat.le_trans (Nat.le_add_right _ _) w5)⟩⟩) λ_=>wpS_pure ⟨hs,rfl,m5,w1,w2,w3,w4,w5⟩
    ·rintro ⟨r,ka,kb,out,mg,ac,bc⟩ st2 ⟨_,_,_,p1,p2,p3,p4,p5⟩
     dsimp only at p1 p2 p3 p4 p5
     omega
    ·rintro ⟨r,ka,kb,out,mg,ac,bc⟩ st2 ⟨hs,⟨r',rfl,g⟩|⟨rfl,m,p1,p2,p3,p4,p5⟩⟩
     ·exact wpS_pure ⟨hs,r',rfl,g⟩
     ·dsimp only at m p1 p2 p3 p4 p5
      refine wpS_bind (Zg1 hs λst3 hs=>?_)
      exact wpS_pure ⟨hs,rfl,m,p1,p2,p3,p4,(by show i+1+1+(ka+kb)<=a.size+b.size;omega)⟩
 ·rintro ⟨r,na,nb,out,mg⟩ st' ⟨_,_,_,q1,q2,q3,q4,q5⟩
  dsimp only at q1 q2 q3 q4 q5
  omega
 ·rintro ⟨r,na,nb,out,mg⟩ st' ⟨hs,r',rfl,g⟩
  exact wpS_pure (h _ _ hs g)
end
theorem ZcK:∀(M:List Keyed) (n d:Nat) (xs:Array Keyed),d+n+M.length<=xs.size ->
  ((M.zipIdx n).foldl (λa x=>match x with|(p,j)=>a.setIfInBounds (d+j) p) xs).toList=xs.toList.take (d+n)++M++xs.toList.drop (d+n+M.length)
 |[],n,d,xs,h=>by simp
 |x::M,n,d,xs,h=>by
  rw[List.zipIdx_cons,List.foldl_cons]
  rw[ZcK M (n+1) d _ (by simp at h ⊢;omega)]
  rw[List.length_cons]at h
  have e1:((xs.setIfInBounds (d+n) x).toList).take (d+(n+1))=xs.toList.take (d+n)++[x]:=by
   rw[Array.toList_setIfInBounds,show d+(n+1)=d+n+1 by omega,List.take_succ,List.take_set_of_le (Nat.le_refl _),List.getElem?_set_self (by simp;omega)]
   rfl
  have e2:((xs.setIfInBounds (d+n) x).toList).drop (d+(n+1)+M.length)=xs.toList.drop (d+n+(M.length+1)):=by
   rw[Array.toList_setIfInBounds,List.drop_set_of_lt (by omega)]
   congr 1
   omega
  show List.take (d+(n+1)) (xs.setIfInBounds (d+n) x).toList++M++List.drop (d+(n+1)+M.length) (xs.setIfInBounds (d+n) x).toList=_
  rw[e1,e2,List.length_cons]
  simp
theorem Zg2{xs:Array Keyed}{i j:Nat}(hij:i<=j)(hj:j<=xs.size):(mirror xs i j ((j-i) / 2)).toList=xs.toList.take i++((xs.toList.drop i).take (j-i)).reverse++xs.toList.drop j:=by
 apply List.ext_getElem?
 intro k
 have h:=getElem?_mirror_all (i:=i) hj k
 rw[Array.getElem?_toList,h]
 have z1:min i xs.size=i:=Nat.min_eq_left (Nat.le_trans hij hj)
 have z2:min (j-i) (xs.size-i)=j-i:=Nat.min_eq_left (Nat.sub_le_sub_right hj i)
 have z3:i+(j-i)=j:=Nat.add_sub_of_le hij
 simp only[List.getElem?_append,List.length_append,List.length_take,List.length_reverse,List.length_drop,Array.length_toList,z1,z2,z3]
 clear h z1 z2
 by_cases c1:k<i
 ·rw[if_neg (by omega),if_pos (by omega),if_pos (by omega),List.getElem?_take,if_pos c1,Array.getElem?_toList]
 ·by_cases c2:k<j
  ·have z4:((xs.toList.drop i).take (j-i)).length=j-i:=by rw[List.length_take,List.length_drop,Array.length_toList];exact Nat.min_eq_left (Nat.sub_le_sub_right hj i)
   rw[if_pos (by omega),if_pos c2,if_neg c1,List.getElem?_reverse (by rw[z4];omega),z4,List.getElem?_take,if_pos (by omega),List.getElem?_drop,Array.getElem?_toList]
   congr 1
   omega
  ·rw[if_neg (by omega),if_neg (by omega),List.getElem?_drop,Array.getElem?_toList]
   congr 1
   omega
theorem Zh4{xs:Array Keyed}{src d:Nat}(hs:src<xs.size)(hd:d<=src):(bubble xs src d).toList=xs.toList.take (src-d)++[xs[src]]++(xs.toList.drop (src-d)).take d++xs.toList.drop (src+1):=by
 apply List.ext_getElem?
 intro k
 have h:=getElem?_bubble hs d hd k
 rw[Array.getElem?_toList,h]
 have z1:min (src-d) xs.size=src-d:=Nat.min_eq_left (Nat.le_trans (Nat.sub_le _ _) (Nat.le_of_lt hs))
 have z2:min d (xs.size-(src-d))=d:=Nat.min_eq_left (by omega)
 simp only[List.getElem?_append,List.length_append,List.length_take,List.length_drop,Array.length_toList,List.length_cons,List.length_nil,z1,z2]
 clear h z1 z2
 by_cases c1:k<src-d
 ·rw[if_neg (by omega),if_neg (by omega),if_pos (by omega),if_pos (by omega),if_pos (by omega),List.getElem?_take,if_pos c1,Array.getElem?_toList]
 ·by_cases c2:k=src-d
  ·rw[if_pos c2,if_pos (by omega),if_pos (by omega),if_neg (by omega),ZV hs]
   rw[show k-(src-d)=0 by omega]
   rfl
  ·by_cases c3:k<=src
   ·rw[if_neg c2,if_pos (by omega),if_pos (by omega),if_neg (by omega),List.getElem?_take,if_pos (by omega),List.getElem?_drop,Array.getElem?_toList]
    congr 1
    omega
   ·rw[if_neg c2,if_neg (by omega),if_neg (by omega),List.getElem?_drop,Array.getElem?_toList]
    congr 1
    omega
noncomputable def seg(xs:Array Keyed)(lo n:Nat):List Keyed:=(xs.toList.drop lo).take n
structure Bs (κ:SortKind) (W:List Keyed) (st:SortSt):Prop where
 kind:kindOf st=κ
 fl:failedOf st=none
 perm:(arrOf st).toList.Perm W
section
variable{prog:Program}{w:World}{A:Around}{E:Value->Shared->Prop}{s:Shared}{κ:SortKind}{U:Keyed->Prop}{B:Keyed->Keyed->Bool}{st st':SortSt}{W:List Keyed}{xs:Array Keyed}{lo n nrem:Nat}
theorem Bs.u(b:Bs κ W st)(hU:∀x∈W,U x){i:Nat}(h:i<(arrOf st).size):U (arrOf st)[i]:=hU _ (b.perm.mem_iff.mp (by simp))
theorem Bs.ne(b:Bs κ W st)(hN:W.Nodup){i j:Nat}(hi:i<(arrOf st).size)(hj:j<(arrOf st).size)(h:i≠j):(arrOf st)[i]≠(arrOf st)[j]:=by
 have hn:=(b.perm.nodup_iff).mpr hN
 intro e
 exact h ((List.getElem_inj (h₀:=by simpa using hi) (h₁:=by simpa using hj) hn).mp (by simpa using e))
theorem Bs.strict(b:Bs κ W st)(C:Cmp prog w A s κ U B)(hU:∀x∈W,U x)(hN:W.Nodup){i j:Nat}(hi:i<(arrOf st).size)(hj:j<(arrOf st).size)(h:i≠j)(hb:B (arrOf st)[i] (arrOf st)[j]=false):B (arrOf st)[j] (arrOf st)[i]=true:=by
 cases q:B (arrOf st)[j] (arrOf st)[i]with
 |true=>rfl
 |false=>exact absurd (C.tot _ _ (b.u hU hi) (b.u hU hj) hb q) (b.ne hN hi hj h)
theorem s_at(C:Cmp prog w A s κ U B)(hU:∀x∈W,U x)(b:Bs κ W st){i j:Nat}{Q:Option Bool->SortSt->Prop}(hi:i<(arrOf st).size)(hj:j<(arrOf st).size)(h:Q (some (B (arrOf st)[i] (arrOf st)[j])) st):wpS (model prog w) A E s (ltAt' i j) Q st:=by
 rw[ltAt'_eq]
 refine wpS_bind (wpS_get ?_)
 exact wpS_bind (s_el (ZV hi) (wpS_bind (s_el (ZV hj) (s_lt C (b.u hU hi) (b.u hU hj) b.kind h))))
theorem ZdD(h:lo+n<xs.size):seg xs lo (n+1)=seg xs lo n++[xs[lo+n]]:=by
 unfold seg
 rw[List.take_add_one,List.getElem?_drop,Array.getElem?_toList,ZV h]
 rfl
theorem Zai{x:Keyed}(h:x∈seg xs lo n):∃i,∃hi:lo+i<xs.size,i<n/\x=xs[lo+i]:=by
 unfold seg at h
 obtain⟨j,hj,rfl⟩:=List.mem_iff_getElem.mp h
 simp at hj
 exact⟨j,by omega,by omega,by simp⟩
theorem seg_at{i j:Nat}{R:Keyed->Keyed->Prop}(h:(seg xs lo n).Pairwise R)(hij:i<j)(hj:j<n)(hz:lo+j<xs.size):R xs[lo+i] xs[lo+j]:=by
 unfold seg at h
 have:=List.pairwise_iff_getElem.mp h i j (by simp;omega) (by simp;omega) hij
 simpa using this
theorem ZcQ:(seg xs lo 1).Pairwise R:=by
 unfold seg
 cases xs.toList.drop lo with
 |nil=>exact .nil
 |cons x r=>simp
theorem Sg.succ(C:Cmp prog w A s κ U B)(hU:∀x∈W,U x)(b:Bs κ W st)(h1:1<=n)(hz:lo+n<(arrOf st).size)(h:Srt B (seg (arrOf st) lo n))(hb:B (arrOf st)[lo+n] (arrOf st)[lo+n-1]=false):Srt B (seg (arrOf st) lo (n+1)):=by
 rw[ZdD hz]
 refine h.app (List.pairwise_singleton _ _) λx hx y hy=>?_
 simp at hy
 subst hy
 obtain⟨i,hi,hin,rfl⟩:=Zai hx
 rcases Nat.lt_or_ge i (n-1)with e|e
 ·have:=seg_at h e (by omega) (by omega)
  have e2:lo+(n-1)=lo+n-1:=by omega
  simp only[e2]at this
  exact C.tr _ _ _ (b.u hU _) (b.u hU _) (b.u hU _) this hb
 ·have e2:lo+n-1=lo+i:=by omega
  simp only[e2]at hb
  exact hb
theorem Dn.succ(C:Cmp prog w A s κ U B)(hU:∀x∈W,U x)(b:Bs κ W st)(h1:1<=n)(hz:lo+n<(arrOf st).size)(h:(seg (arrOf st) lo n).Pairwise λx y=>B x y=false)(hb:B (arrOf st)[lo+n] (arrOf st)[lo+n-1]=true):(seg (arrOf st) lo (n+1)).Pairwise λx y=>B x y=false:=by
 rw[ZdD hz]
 refine List.pairwise_append.mpr ⟨h,List.pairwise_singleton _ _,λx hx y hy=>?_⟩
 simp at hy
 subst hy
 have hb:=C.asy _ _ (b.u hU _) (b.u hU _) hb
 obtain⟨i,hi,hin,rfl⟩:=Zai hx
 rcases Nat.lt_or_ge i (n-1)with e|e
 ·have:=seg_at h e (by omega) (by omega)
  have e2:lo+(n-1)=lo+n-1:=by omega
  simp only[e2]at this
  exact C.tr _ _ _ (b.u hU _) (b.u hU _) (b.u hU _) hb this
 ·have e2:lo+n-1=lo+i:=by omega
  simp only[e2]at hb
  exact hb
theorem s_asc(C:Cmp prog w A s κ U B)(hU:∀x∈W,U x)(b:Bs κ W st){R:Type}(F:Nat->Option R×Nat->StateT SortSt Sem (ForInStep (Option R×Nat))){Q:Option R×Nat->SortSt->Prop}{a:Nat}(h1:1<=a)(ha:a<=nrem)(hz:lo+nrem<=(arrOf st).size)(h:Srt B (seg (arrOf st) lo a))(hF:∀x n Q' (hn:lo+n<(arrOf st).size),1<=n->Q' (if B (arrOf st)[lo+n] (arrOf st)[lo+n-1]=true then .done (none,n)else .yield (none,n+1)) st->wpS (model prog w) A E s (F x (none,n)) Q' st)(hq:∀n,a<=n->n<=nrem->Srt B (seg (arrOf st) lo n)->(∀(hn:lo+n<(arrOf st).size),n<nrem->B (arrOf st)[lo+n] (arrOf st)[lo+n-1]=true)->Q (none,n) st):wpS (model prog w) A E s (forIn [a:nrem] (none,a) F) Q st:=by
 refine wpS_forRange (I:=λi sx st'=>st'=st/\sx=(none,i)/\Srt B (seg (arrOf st) lo i)) ?_ ?_ ⟨rfl,rfl,h⟩
 ·rintro i _ st' hi hi2 ⟨rfl,rfl,a1⟩
  refine hF _ _ _ (by omega) (by omega) ?_
  cases q:B (arrOf st')[lo+i] (arrOf st')[lo+i-1]with
  |true=>rw[if_pos rfl];exact hq i hi (by omega) a1 λ_ _=>q
  |false=>rw[if_neg Bool.false_ne_true];exact⟨rfl,rfl,Sg.succ C hU b (by omega) (by omega) a1 q⟩
 ·rintro _ st' ⟨rfl,rfl,a1⟩
  rw[Nat.max_eq_right ha]at a1 ⊢
  exact hq nrem ha (Nat.le_refl _) a1 λ_ z=>by omega
theorem s_rev{i j:Nat}{Q:Unit->SortSt->Prop}(h:Q () (setArr st (mirror (arrOf st) i j ((j-i) / 2)))):wpS (model prog w) A E s (reverseSlice' i j) Q st:=by
 rw[reverseSlice'_eq]
 exact wpS_modify h
theorem Bs.arr(b:Bs κ W st){ys:Array Keyed}(h:ys.toList.Perm (arrOf st).toList):Bs κ W (setArr st ys):=⟨b.kind,b.fl,h.trans b.perm⟩
theorem ZiU{m:Nat}(hz:lo+m<=xs.size):seg (mirror xs lo (lo+m) ((lo+m-lo) / 2)) lo m=(seg xs lo m).reverse/\(mirror xs lo (lo+m) ((lo+m-lo) / 2)).toList.take lo=xs.toList.take lo:=by
 have e:=Zg2 (xs:=xs) (i:=lo) (j:=lo+m) (by omega) hz
 rw[Nat.add_sub_cancel_left]at e
 have hl:(xs.toList.take lo).length=lo:=by simp;omega
 unfold seg
 rw[show lo+m-lo=m by omega,e,List.append_assoc]
 constructor
 ·rw[List.drop_append_of_le_length (by omega),List.drop_eq_nil_of_le (by omega),List.nil_append,List.take_append_of_le_length (by simp;omega),List.take_of_length_le (by simp;omega)]
 ·rw[List.take_append_of_le_length (by omega),List.take_of_length_le (by omega)]
theorem s_cRun(C:Cmp prog w A s κ U B)(hU:∀x∈W,U x)(hN:W.Nodup)(b:Bs κ W st){Q:Option Nat->SortSt->Prop}(h1:1<=nrem)(hz:lo+nrem<=(arrOf st).size)(h:∀n st',1<=n->n<=nrem->Bs κ W st'->pendingOf st'=pendingOf st->(arrOf st').toList.take lo=(arrOf st).toList.take lo->Srt B (seg (arrOf st') lo n)->Q (some n) st'):wpS (model prog w) A E s (cRun lo nrem) Q st:=by
 refine wpS_bind (s_asc C hU b _ (Nat.le_refl 1) h1 hz ZcQ (λx n Q' hn h1 hq=>?_) λn n1 n2 sn brk=>?_)
 ·refine wpS_bind (s_at C hU b hn (by omega) ?_)
  cases q:B (arrOf st)[lo+n] (arrOf st)[lo+n-1]with
  |true=>rw[q]at hq;exact wpS_pure hq
  |false=>rw[q]at hq;exact wpS_pure hq
 ·refine Zq (λe=>wpS_pure (h n st n1 n2 b rfl rfl sn)) λe=>?_
  have e:n≠nrem:=by simpa using e
  refine Zq (λn3=>wpS_bind (s_at C hU b (by omega) (by omega) ?_)) λn3=>?_
  ·have n3:n>1:=n3
   have q:B (arrOf st)[lo] (arrOf st)[lo+n-1]=true:=by
    refine b.strict C hU hN (by omega) (by omega) (by omega) ?_
    have:=seg_at (i:=0) (j:=n-1) sn (by omega) (by omega) (by omega)
    simpa[show lo+(n-1)=lo+n-1 by omega]using this
   rw[q]
   exact wpS_pure (h n st n1 n2 b rfl rfl sn)
  ·have n3:¬n>1:=n3
   obtain rfl:n=1:=by omega
   refine wpS_bind (wpS_lift (wpAny_rule ⟨rfl,?_⟩))
   refine wpS_bind (wpS_mono (wpS_forRange (I:=λi (sx:Option (Option Nat)×Nat×Nat) st'=>st'=st/\sx=(none,i,0)/\(seg (arrOf st) lo i).Pairwise λx y=>B x y=false)
    (Q:=λsx st'=>st'=st/\∃m,2<=m/\m<=nrem/\sx=(none,m,0)/\(seg (arrOf st) lo m).Pairwise λx y=>B x y=false) ?_ ?_ ⟨rfl,rfl,Dn.succ C hU b (Nat.le_refl 1) (by omega) ZcQ (brk (by omega) (by omega))⟩) ?_)
   ·rintro i _ st' hi hi2 ⟨rfl,rfl,a1⟩
    have hi:2<=i:=hi
    refine wpS_bind (s_at C hU b (show lo+i<(arrOf st').size by omega) (show lo+i-1<(arrOf st').size by omega) ?_)
    cases q:B (arrOf st')[lo+i] (arrOf st')[lo+i-1]with
    |true=>exact wpS_pure ⟨rfl,rfl,Dn.succ C hU b (by omega) (by omega) a1 q⟩
    |false =>
     refine wpS_bind (s_at C hU b (show lo+i-1<(arrOf st').size by omega) (show lo+i<(arrOf st').size by omega) ?_)
     rw[b.strict C hU hN (by omega) (by omega) (by omega) q]
     exact wpS_pure ⟨rfl,i,hi,by omega,rfl,a1⟩
   ·rintro _ st' ⟨rfl,rfl,a1⟩
    rw[Nat.max_eq_right (by omega)]at a1 ⊢
    exact⟨rfl,nrem,by omega,Nat.le_refl _,rfl,a1⟩
   ·rintro _ st' ⟨rfl,m,m1,m2,rfl,a1⟩
    have sr:=ZiU (xs:=arrOf st') (lo:=lo) (m:=m) (by omega)
    have b2:Bs κ W (setArr st' (mirror (arrOf st') lo (lo+m) ((lo+m-lo) / 2))):=b.arr (Array.perm_iff_toList_perm.mp (mirror_perm _ _ _ _))
    refine wpS_bind (s_rev ?_)
    have hs:(arrOf (setArr st' (mirror (arrOf st') lo (lo+m) ((lo+m-lo) / 2)))).size=(arrOf st').size:=mirror_size _ _ _ _
    have srt:Srt B (seg (arrOf (setArr st' (mirror (arrOf st') lo (lo+m) ((lo+m-lo) / 2)))) lo m):=by
     show Srt B (seg (mirror (arrOf st') lo (lo+m) ((lo+m-lo) / 2)) lo m)
     rw[sr.1]
     exact List.pairwise_reverse.mpr a1
    refine wpS_bind (s_asc (a:=m) C hU b2 _ (by omega) m2 (by rw[hs];exact hz) srt (λx n Q' hn h1 hq=>?_) λn n1 n2 sn brk=>?_)
    ·refine wpS_bind (s_at C hU b2 hn (by omega) ?_)
     generalize B _ _=q at hq ⊢
     cases q with
     |true=>exact wpS_pure hq
     |false=>exact wpS_pure hq
    ·exact wpS_pure (h n _ (by omega) n2 b2 rfl sr.2 sn)
end
end Ts
section
set_option maxHeartbeats 1000000
namespace Ts
open PySem PyProof.Rows
section
variable{prog:Program}{w:World}{A:Around}{E:Value->Shared->Prop}{s:Shared}{κ:SortKind}{U:Keyed->Prop}{B:Keyed->Keyed->Bool}{st st':SortSt}{W:List Keyed}{xs:Array Keyed}{lo n nrem:Nat}
theorem s_mov{i j:Nat}{Q:Unit->SortSt->Prop}(h:Q () (setArr st (bubble (arrOf st) i (i-j)))):wpS (model prog w) A E s (moveDown' i j) Q st:=by
 rw[moveDown'_eq]
 exact wpS_modify h
theorem Zbq{l k:Nat}(h:l<=k):seg xs lo k=seg xs lo l++seg xs (lo+l) (k-l):=by
 unfold seg
 rw[<-List.drop_drop,<-List.take_add,show l+(k-l)=k by omega]
theorem ZiV{l k:Nat}(h:l<=k)(hz:lo+k<xs.size):seg (bubble xs (lo+k) (lo+k-(lo+l))) lo (k+1)=seg xs lo l++[xs[lo+k]]++seg xs (lo+l) (k-l)/\(bubble xs (lo+k) (lo+k-(lo+l))).toList.take lo=xs.toList.take lo:=by
 have e:=Zh4 (xs:=xs) (src:=lo+k) (d:=lo+k-(lo+l)) hz (by omega)
 rw[show lo+k-(lo+k-(lo+l))=lo+l by omega,show lo+k-(lo+l)=k-l by omega]at e
 have hl:(xs.toList.take lo).length=lo:=by simp;omega
 have hs:(seg xs lo l).length=l:=by unfold seg;simp;omega
 have hs2:(seg xs (lo+l) (k-l)).length=k-l:=by unfold seg;simp;omega
 have e2:xs.toList.take (lo+l)=xs.toList.take lo++seg xs lo l:=by unfold seg;rw[List.take_add]
 have e3:(bubble xs (lo+k) (k-l)).toList=xs.toList.take lo++(seg xs lo l++[xs[lo+k]]++seg xs (lo+l) (k-l)++xs.toList.drop (lo+k+1)):=by
  rw[e,e2]
  unfold seg
  simp
 rw[show lo+k-(lo+l)=k-l by omega]
 constructor
 ·rw[seg,e3,List.drop_append_of_le_length (by omega),List.drop_eq_nil_of_le (by omega),List.nil_append,List.take_append_of_le_length (by simp;omega),List.take_of_length_le (by simp;omega)]
 ·rw[e3,List.take_append_of_le_length (by omega),List.take_of_length_le (by omega)]
theorem ZiW(C:Cmp prog w A s κ U B)(hU:∀x∈W,U x)(b:Bs κ W st){ok:Nat}{Q:Bool->SortSt->Prop}(hz:lo+n<=(arrOf st).size)(h1:1<=n)(hok:ok<=n)(hs:Srt B (seg (arrOf st) lo ok))(h:∀st',Bs κ W st'->pendingOf st'=pendingOf st->(arrOf st').toList.take lo=(arrOf st).toList.take lo->Srt B (seg (arrOf st') lo n)->Q true st'):wpS (model prog w) A E s (bSort lo n ok) Q st:=by
 have hs1:Srt B (seg (arrOf st) lo (max ok 1)):=by
  rcases Nat.lt_or_ge ok 1 with e|e
  ·rw[show max ok 1=1 by omega];exact ZcQ
  ·rw[show max ok 1=ok by omega];exact hs
 have sz:∀{st':SortSt},Bs κ W st'->(arrOf st').size=(arrOf st).size:=λ{st'} b'=>by
  have:=(b'.perm.trans b.perm.symm).length_eq
  simpa using this
 refine wpS_bind (wpS_mono (wpS_forRange (I:=λk (sx:Option Bool×Unit) st'=>sx=(none,())/\Bs κ W st'/\pendingOf st'=pendingOf st/\(arrOf st').toList.take lo=(arrOf st).toList.take lo/\Srt B (seg (arrOf st') lo k))
  (Q:=λsx st'=>sx=(none,())/\Bs κ W st'/\pendingOf st'=pendingOf st/\(arrOf st').toList.take lo=(arrOf st).toList.take lo/\Srt B (seg (arrOf st') lo n)) ?_ ?_ ⟨rfl,b,rfl,rfl,hs1⟩) ?_)
 ·rintro k _ st1 hk hk2 ⟨rfl,b1,e1,e2,a1⟩
  have z1:=sz b1
  have hk1:1<=k:=by omega
  refine wpS_bind (wpS_mono (wpS_forRange (I:=λj (sx:Option Bool×Nat×Nat) st'=>st'=st1/\sx.1=none/\sx.2.1<=sx.2.2/\sx.2.2<=k/\sx.2.2-sx.2.1<=k-j/\(∀i (hi:lo+i<(arrOf st1).size),i<sx.2.1->B ((arrOf st1)[lo+k]'(by omega)) (arrOf st1)[lo+i]=false)/\(∀i (hi:lo+i<(arrOf st1).size),sx.2.2<=i->i<k->B ((arrOf st1)[lo+k]'(by omega)) (arrOf st1)[lo+i]=true))
   (Q:=λsx st'=>st'=st1/\∃l,sx=(none,l,l)/\l<=k/\(∀i (hi:lo+i<(arrOf st1).size),i<l->B ((arrOf st1)[lo+k]'(by omega)) (arrOf st1)[lo+i]=false)/\(∀i (hi:lo+i<(arrOf st1).size),l<=i->i<k->B ((arrOf st1)[lo+k]'(by omega)) (arrOf st1)[lo+i]=true)) ?_ ?_ ⟨rfl,rfl,Nat.zero_le _,Nat.le_refl _,(by show k-0<=k-0;omega),λi hi z=>absurd z (Nat.not_lt_zero _),λi hi z z2=>absurd z2 (by dsimp only at z;omega)⟩) ?_)
  ·rintro j ⟨r,l,r2⟩ st2 _ hj ⟨rfl,rfl,q1,q2,q3,q4,q5⟩
   dsimp only at q1 q2 q3 q4 q5
   refine Zq (λc=>?_) λc=>?_
   ·have c:l ≥ r2:=c
    obtain rfl:l=r2:=by omega
    exact wpS_pure ⟨rfl,l,rfl,q2,q4,q5⟩
   ·have c:¬l ≥ r2:=c
    have lk:∀i j (hi:lo+i<(arrOf st2).size) (hj:lo+j<(arrOf st2).size),i<=j->j<k->B (arrOf st2)[lo+j] (arrOf st2)[lo+i]=false∨i=j:=λi j hi hj hij hjk=>by
     rcases Nat.lt_or_ge i j with e|e
     ·exact .inl (seg_at a1 e hjk hj)
     ·exact .inr (by omega)
    refine wpS_bind (s_at C hU b1 (show lo+k<(arrOf st2).size by omega) (show lo+(l+r2) / 2<(arrOf st2).size by omega) ?_)
    cases q:B ((arrOf st2)[lo+k]'(by omega)) ((arrOf st2)[lo+(l+r2) / 2]'(by omega))with
    |true =>
     refine wpS_pure ⟨rfl,rfl,(by show l<=(l+r2) / 2;omega),(by show(l+r2) / 2<=k;omega),(by show(l+r2) / 2-l<=k-(j+1);omega),q4,λi hi z z2=>?_⟩
     have z:(l+r2) / 2<=i:=z
     rcases lk _ _ (show lo+(l+r2) / 2<(arrOf st2).size by omega) hi z z2 with e|e
     ·cases y:B ((arrOf st2)[lo+k]'(by omega)) (arrOf st2)[lo+i]with
      |true=>rfl
      |false =>
       have:=C.tr _ _ _ (b1.u hU _) (b1.u hU _) (b1.u hU _) e y
       rw[this]at q;cases q
     ·subst e;exact q
    |false =>
     refine wpS_pure ⟨rfl,rfl,(by show(l+r2) / 2+1<=r2;omega),q2,(by show r2-((l+r2) / 2+1)<=k-(j+1);omega),λi hi z=>?_,q5⟩
     have z:i<(l+r2) / 2+1:=z
     rcases lk _ _ hi (show lo+(l+r2) / 2<(arrOf st2).size by omega) (by omega) (by omega)with e|e
     ·exact C.tr _ _ _ (b1.u hU _) (b1.u hU _) (b1.u hU _) e q
     ·subst e;exact q
  ·rintro ⟨r,l,r2⟩ st2 ⟨rfl,rfl,q1,q2,q3,q4,q5⟩
   dsimp only at q1 q2 q3 q4 q5
   obtain rfl:l=r2:=by omega
   exact⟨rfl,l,rfl,q2,q4,q5⟩
  ·rintro _ st2 ⟨rfl,l,rfl,l1,l2,l3⟩
   refine wpS_bind (s_mov ?_)
   have si:=ZiV (xs:=arrOf st2) (lo:=lo) l1 (show lo+k<(arrOf st2).size by omega)
   refine wpS_pure ⟨rfl,b1.arr (Array.perm_iff_toList_perm.mp (bubble_perm _ _ _)),e1,si.2.trans e2,?_⟩
   show Srt B (seg (bubble (arrOf st2) (lo+k) (lo+k-(lo+l))) lo (k+1))
   rw[si.1]
   rw[Zbq l1]at a1
   have sp:=List.pairwise_append.mp a1
   refine Srt.app (Srt.app sp.1 (List.pairwise_singleton _ _) λx hx y hy=>?_) sp.2.1 λx hx y hy=>?_
   ·simp at hy;subst hy
    obtain⟨i,hi,hil,rfl⟩:=Zai hx
    exact l2 i hi hil
   ·rcases List.mem_append.mp hx with hx|hx
    ·exact sp.2.2 x hx y hy
    ·simp at hx;subst hx
     obtain⟨i,hi,hil,rfl⟩:=Zai hy
     refine C.asy _ _ (b1.u hU _) (b1.u hU _) ?_
     have:=l3 (l+i) (by omega) (by omega) (by omega)
     simpa[Nat.add_assoc]using this
 ·rintro _ st1 ⟨rfl,b1,e1,e2,a1⟩
  rw[show max (max ok 1) n=n by omega]at a1
  exact⟨rfl,b1,e1,e2,a1⟩
 ·rintro _ st1 ⟨rfl,b1,e1,e2,a1⟩
  exact wpS_pure (h _ b1 e1 e2 a1)
end
noncomputable def mAt:Nat->StateT SortSt Sem Bool:=sortPriv% PySem.Builtin.mergeAt
section
variable{prog:Program}{w:World}{A:Around}{E:Value->Shared->Prop}{s:Shared}{κ:SortKind}{U:Keyed->Prop}{B:Keyed->Keyed->Bool}{st st':SortSt}{W:List Keyed}{X:Array Keyed}{lo n nrem:Nat}
theorem s_put{st2:SortSt}{Q:PUnit->SortSt->Prop}(h:Q ⟨⟩ st2):wpS (model prog w) A E s (set st2:StateT SortSt Sem PUnit) Q st:=by
 unfold wpS
 rw[StateT.run_set]
 exact wpAny_pure ⟨rfl,h⟩
theorem Sg.ij{i j:Nat}(h:Srt B (seg X lo n))(hi:lo<=i)(hij:i<j)(hj:j<lo+n)(hz:j<X.size):B X[j] X[i]=false:=by
 have:=seg_at (i:=i-lo) (j:=j-lo) h (by omega) (by omega) (by omega)
 simpa[show lo+(i-lo)=i by omega,show lo+(j-lo)=j by omega]using this
theorem Zfn{i j:Nat}:(X.extract i j).toList=seg X i (j-i):=ZaT
theorem JL{x:Keyed}(h:x∈seg X lo n):∃i,∃hi:i<X.size,lo<=i/\i<lo+n/\x=X[i]:=by
 obtain⟨i,hi,hin,rfl⟩:=Zai h
 exact⟨lo+i,hi,by omega,by omega,rfl⟩
theorem Xd(h:lo+n<=X.size):(seg X lo n).length=n:=by unfold seg;simp;omega
theorem s_mAt(C:Cmp prog w A s κ U B)(hU:∀x∈W,U x)(b:Bs κ W st){i sa na pw sb nb pw':Nat}{pre post:List (Nat×Nat×Nat)}{Q:Bool->SortSt->Prop}(hp:(pendingOf st).toList=pre++(sa,na,pw)::(sb,nb,pw')::post)(hi:i=pre.length)(hsb:sb=sa+na)(ha:1<=na)(hb:1<=nb)(hz:sb+nb<=(arrOf st).size)(s1:Srt B (seg (arrOf st) sa na))(s2:Srt B (seg (arrOf st) sb nb))(h:∀st',Bs κ W st'->(pendingOf st').toList=pre++(sa,na+nb,pw)::post->(arrOf st').toList.take sa=(arrOf st).toList.take sa->(arrOf st').toList.drop (sb+nb)=(arrOf st).toList.drop (sb+nb)->Srt B (seg (arrOf st') sa (na+nb))->Q true st'):wpS (model prog w) A E s (mAt i) Q st:=by
 subst hsb
 have g1:(pendingOf st)[i]?=some (sa,na,pw):=by rw[<-Array.getElem?_toList,hp,hi];simp
 have g2:(pendingOf st)[i+1]?=some (sa+na,nb,pw'):=by rw[<-Array.getElem?_toList,hp,hi];simp
 obtain⟨P',hP',eP⟩:∃P',P'=((pendingOf st).setIfInBounds i (sa,na+nb,pw)).eraseIdxIfInBounds (i+1)/\P'.toList=pre++(sa,na+nb,pw)::post:=⟨_,rfl,by
  rw[Array.toList_eraseIdxIfInBounds,Array.toList_setIfInBounds,hp,hi,List.set_append_right _ _ (Nat.le_refl _),Nat.sub_self,List.set_cons_zero,List.eraseIdx_append_of_length_le (by omega),Nat.add_sub_cancel_left]
  rfl⟩
 generalize hX:arrOf st=X at *
 have uX:∀i (hi:i<X.size),U X[i]:=λi hi=>by subst hX;exact b.u hU hi
 have b1:Bs κ W (SortSt.mk' (kindOf st) X P' (gallopOf st) (failedOf st)):=⟨b.kind,b.fl,by subst hX;exact b.perm⟩
 have hmid:∀{x y:Array Keyed}{k t:Nat},k<na->1<=t->t<=nb->x.toList=seg X (sa+k) (na-k)->y.toList=seg X (sa+na) t->∀z∈x.toList++y.toList,∃i,∃hi:i<X.size,sa+k<=i/\i<sa+na+t/\z=X[i]:=λ{x y k t} h1 h2 h3 ex ey z hz'=>by
  rw[ex,ey]at hz'
  rcases List.mem_append.mp hz' with hz'|hz'
  ·obtain⟨i,hi,i1,i2,rfl⟩:=JL hz'
   exact⟨i,hi,by omega,by omega,rfl⟩
  ·obtain⟨i,hi,i1,i2,rfl⟩:=JL hz'
   exact⟨i,hi,by omega,by omega,rfl⟩
 refine wpS_bind (wpS_get ?_)
 rw[g1,g2]
 refine wpS_bind (s_put ?_)
 subst hX
 have hk1:kindOf (SortSt.mk' (kindOf st) (arrOf st) P' (gallopOf st) (failedOf st))=κ:=b.kind
 rw[<-hP']
 refine wpS_bind (s_el (ZV (show sa+na<(arrOf st).size by omega)) (wpS_bind (Zfr C (arr:=arrOf st) (base:=sa) (n:=na) (hint:=0) (by omega) (λi hi _ _=>uX i hi) (uX _ _) (λi j hj hij h1 h2=>Sg.ij s1 h1 hij h2 hj) (by omega) hk1 λk k1 k2 k3=>?_)))
 have cut:∀{l m:Nat}{ys:Array Keyed},seg ys sa (l+m)=seg ys sa l++seg ys (sa+l) m:=λ{l m ys}=>by
  rw[Zbq (Nat.le_add_right l m),Nat.add_sub_cancel_left]
 refine Zq (λe=>?_) λe=>?_
 ·have e:na-k=0:=by simpa using e
  obtain rfl:k=na:=by omega
  refine wpS_pure (h _ b1 eP rfl rfl ?_)
  show Srt B (seg (arrOf st) sa (k+nb))
  rw[cut]
  refine s1.app s2 λx hx y hy=>?_
  obtain⟨i,hi,i1,i2,rfl⟩:=JL hx
  obtain⟨j,hj,j1,j2,rfl⟩:=JL hy
  have q:=k2 i hi i1 i2
  rcases Nat.eq_or_lt_of_le j1 with e|e
  ·subst e;exact q
  ·exact C.tr _ _ _ (uX _ _) (uX _ _) (uX _ _) q (Sg.ij s2 (Nat.le_refl _) e j2 hj)
 ·have e:na-k≠0:=by simpa using e
  have kl:∀(h:sa+k+(na-k)-1<(arrOf st).size) (h2:sa+na-1<(arrOf st).size),(arrOf st)[sa+k+(na-k)-1]=(arrOf st)[sa+na-1]:=λ_ _=>by congr 1;omega
  refine wpS_bind (s_el (ZV (show sa+k+(na-k)-1<(arrOf st).size by omega)) (wpS_bind (Zb6 C (arr:=arrOf st) (base:=sa+na) (n:=nb) (hint:=nb-1) (by omega) (λi hi _ _=>uX i hi) (uX _ _) (λi j hj hij h1 h2=>Sg.ij s2 h1 hij h2 hj) (by omega) hk1 λt t1 t2 t3=>?_)))
  rw[kl (by omega) (by omega)]at t2 t3
  have last:∀i (hi:i<(arrOf st).size),sa<=i->i<sa+na->B (arrOf st)[sa+na-1] (arrOf st)[i]=false∨i=sa+na-1:=λi hi h1 h2=>by
   rcases Nat.lt_or_ge i (sa+na-1)with e|e
   ·exact .inl (Sg.ij s1 h1 e (by omega) (by omega))
   ·exact .inr (by omega)
  have tpos:t≠0:=λz=>by
   have e1:=t3 (sa+na) (by omega) (by omega) (by omega)
   have e2:=k3 (sa+na-1) (by omega) (by omega) (by omega)
   rw[e1]at e2;cases e2
  refine Zq (λe2=>absurd (show t=0 by simpa using e2) tpos) λ_=>?_
  have ex:((arrOf st).extract (sa+k) (sa+na)).toList=seg (arrOf st) (sa+k) (na-k):=by rw[Zfn];congr 1;omega
  have ey:((arrOf st).extract (sa+na) (sa+na+t)).toList=seg (arrOf st) (sa+na) t:=by rw[Zfn];congr 1;omega
  have zx:((arrOf st).extract (sa+k) (sa+na)).size=na-k:=by simp;omega
  have zy:((arrOf st).extract (sa+na) (sa+na+t)).size=t:=by simp;omega
  have mid:=hmid (k:=k) (t:=t) (by omega) (by omega) t1 ex ey
  have hUm:∀z∈((arrOf st).extract (sa+k) (sa+na)).toList++((arrOf st).extract (sa+na) (sa+na+t)).toList,U z:=λz hz'=>by
   obtain⟨i,hi,_,_,rfl⟩:=mid z hz'
   exact uX i hi
  have s1k:=s1
  rw[show na=k+(na-k) by omega,cut]at s1k
  have s2t:=s2
  rw[show nb=t+(nb-t) by omega,Zbq (Nat.le_add_right t (nb-t)),Nat.add_sub_cancel_left]at s2t
  have p1:=List.pairwise_append.mp s1k
  have p2:=List.pairwise_append.mp s2t
  have fin:∀(r:Array Keyed) (st2 st3:SortSt),Sm (SortSt.mk' (kindOf st) (arrOf st) P' (gallopOf st) (failedOf st)) st2->Gd B (((arrOf st).extract (sa+k) (sa+na)).toList++((arrOf st).extract (sa+na) (sa+na+t)).toList) r.toList->r.toList.length=(na-k)+t->(∀z∈r.toList,∃i,∃hi:i<(arrOf st).size,sa+k<=i/\i<sa+na+t/\z=(arrOf st)[i]) ->
    (arrOf st3).toList=(arrOf st).toList.take (sa+k)++r.toList++(arrOf st).toList.drop (sa+na+t)->kindOf st3=kindOf st2->pendingOf st3=pendingOf st2->failedOf st3=failedOf st2->Q (failedOf st3).isNone st3:=by
   intro r st2 st3 hs g rl rm ew ek ep ef
   have ef':failedOf st3=none:=ef.trans (hs.2.2.2.trans b.fl)
   rw[ef']
   have hta:(arrOf st).toList.take (sa+k)=(arrOf st).toList.take sa++seg (arrOf st) sa k:=by unfold seg;rw[List.take_add]
   have hdr:(arrOf st).toList.drop (sa+na+t)=seg (arrOf st) (sa+na+t) (nb-t)++(arrOf st).toList.drop (sa+na+nb):=by
    unfold seg
    rw[show sa+na+nb=sa+na+t+(nb-t) by omega,<-List.drop_drop (i:=nb-t),List.take_append_drop]
   have hl0:((arrOf st).toList.take sa).length=sa:=by simp;omega
   have hlk:(seg (arrOf st) sa k).length=k:=Xd (by omega)
   have hlt:(seg (arrOf st) (sa+na+t) (nb-t)).length=nb-t:=Xd (by omega)
   have ew2:(arrOf st3).toList=(arrOf st).toList.take sa++((seg (arrOf st) sa k++r.toList++seg (arrOf st) (sa+na+t) (nb-t))++(arrOf st).toList.drop (sa+na+nb)):=by
    rw[ew,hta,hdr]
    simp
   have hml:(seg (arrOf st) sa k++r.toList++seg (arrOf st) (sa+na+t) (nb-t)).length=na+nb:=by
    rw[List.length_append,List.length_append,hlk,rl,hlt];omega
   refine h st3 ⟨ek.trans (hs.1.trans b.kind),ef',?_⟩ ?_ ?_ ?_ ?_
   ·rw[ew]
    refine List.Perm.trans ?_ b.perm
    have e0:(arrOf st).toList=(arrOf st).toList.take (sa+k)++(seg (arrOf st) (sa+k) (na-k)++seg (arrOf st) (sa+na) t)++(arrOf st).toList.drop (sa+na+t):=by
     have e1:=Zbq (xs:=arrOf st) (lo:=sa+k) (l:=na-k) (k:=na-k+t) (by omega)
     rw[show sa+k+(na-k)=sa+na by omega,Nat.add_sub_cancel_left]at e1
     rw[<-e1]
     unfold seg
     rw[<-List.take_add,show sa+k+(na-k+t)=sa+na+t by omega,List.take_append_drop]
    have gp:=g.1
    rw[ex,ey]at gp
    rw[e0]
    simp only[List.append_assoc]
    have e2:List.take (sa+k) ((arrOf st).toList.take (sa+k)++(seg (arrOf st) (sa+k) (na-k)++(seg (arrOf st) (sa+na) t++(arrOf st).toList.drop (sa+na+t))))=(arrOf st).toList.take (sa+k):=by
     rw[<-List.append_assoc (seg (arrOf st) (sa+k) (na-k)),<-List.append_assoc,<-e0]
    have e3:List.drop (sa+na+t) ((arrOf st).toList.take (sa+k)++(seg (arrOf st) (sa+k) (na-k)++(seg (arrOf st) (sa+na) t++(arrOf st).toList.drop (sa+na+t))))=(arrOf st).toList.drop (sa+na+t):=by
     rw[<-List.append_assoc (seg (arrOf st) (sa+k) (na-k)),<-List.append_assoc,<-e0]
    rw[e2,e3]
    refine List.Perm.append_left _ ?_
    rw[<-List.append_assoc]
    exact List.Perm.append_right _ gp
   ·rw[ep,hs.2.2.1];exact eP
   ·rw[ew2,List.take_append_of_le_length (by omega),List.take_of_length_le (by omega)]
   ·rw[ew2,List.drop_append,hl0,List.drop_eq_nil_of_le (by omega),List.nil_append,List.drop_append,hml,List.drop_eq_nil_of_le (by omega),List.nil_append,show sa+na+nb-sa-(na+nb)=0 by omega,List.drop_zero]
   ·have e5:seg (arrOf st3) sa (na+nb)=seg (arrOf st) sa k++r.toList++seg (arrOf st) (sa+na+t) (nb-t):=by
     rw[seg,ew2,List.drop_append_of_le_length (by omega),List.drop_eq_nil_of_le (by omega),List.nil_append,List.take_append_of_le_length (by omega),List.take_of_length_le (by omega)]
    rw[e5]
    refine Srt.app (Srt.app p1.1 g.2 λx hx y hy=>?_) p2.2.1 λx hx y hy=>?_
    ·obtain⟨i,hi,i1,i2,rfl⟩:=JL hx
     obtain⟨j,hj,j1,j2,rfl⟩:=rm y hy
     have q:=k2 i hi i1 i2
     rcases Nat.lt_or_ge j (sa+na)with e|e
     ·exact Sg.ij s1 i1 (by omega) e hj
     ·rcases Nat.eq_or_lt_of_le e with e|e
      ·subst e;exact q
      ·exact C.tr _ _ _ (uX _ _) (uX _ _) (uX _ _) q (Sg.ij s2 (Nat.le_refl _) e (by omega) hj)
    ·obtain⟨j,hj,j1,j2,rfl⟩:=JL hy
     have lj:=t3 j hj j1 (by omega)
     rcases List.mem_append.mp hx with hx|hx
     ·obtain⟨i,hi,i1,i2,rfl⟩:=JL hx
      exact C.tr _ _ _ (uX _ _) (uX (sa+na) (by omega)) (uX _ _) (k2 i hi i1 i2) (Sg.ij s2 (Nat.le_refl _) (by omega) (by omega) hj)
     ·obtain⟨i,hi,i1,i2,rfl⟩:=rm x hx
      rcases Nat.lt_or_ge i (sa+na)with e|e
      ·rcases last i hi (by omega) e with q|q
       ·exact C.tr _ _ _ (uX _ _) (uX _ _) (uX _ _) q lj
       ·subst q;exact lj
      ·exact Sg.ij s2 e (by omega) (by omega) hj
  refine Zq (λ_=>wpS_bind (s_mLo (a:=(arrOf st).extract (sa+k) (sa+na)) (b:=(arrOf st).extract (sa+na) (sa+na+t)) C hUm (by omega) (by omega) (by rw[ex];exact p1.2.1) (by rw[ey];exact p2.1) hk1 ?_ ?_ λr st2 hs g=>?_)) λ_=>wpS_bind (s_mHi (a:=(arrOf st).extract (sa+k) (sa+na)) (b:=(arrOf st).extract (sa+na) (sa+na+t)) C hUm (by omega) (by omega) (by rw[ex];exact p1.2.1) (by rw[ey];exact p2.1) hk1 ?_ ?_ λr st2 hs g=>?_)
  ·simpa using k3 (sa+k) (by omega) (by omega) (by omega)
  ·intro y hy
   rw[ey]at hy
   obtain⟨i,hi,i1,i2,rfl⟩:=JL hy
   have:=t2 i hi i1 i2
   simpa[zx,show sa+k+(na-k-1)=sa+na-1 by omega]using this
  ·skip
   have rl:r.toList.length=(na-k)+t:=by rw[g.1.length_eq,ex,ey,List.length_append,Xd (by omega),Xd (by omega)]
   have rm:∀z∈r.toList,∃i,∃hi:i<(arrOf st).size,sa+k<=i/\i<sa+na+t/\z=(arrOf st)[i]:=λz hz'=>mid z (g.1.mem_iff.mp hz')
   refine wpS_bind (wpS_modify (wpS_bind (wpS_get (wpS_pure ?_))))
   have ew:(arrOf (SortSt.mk' (kindOf st2) (r.toList.zipIdx.foldl (λa x=>match x with|(p,j)=>a.setIfInBounds (sa+k+j) p) (arrOf st2)) (pendingOf st2) (gallopOf st2) (failedOf st2))).toList=(arrOf st).toList.take (sa+k)++r.toList++(arrOf st).toList.drop (sa+na+t):=by
    have z2:arrOf st2=arrOf st:=hs.2.1
    have:=ZcK r.toList 0 (sa+k) (arrOf st2) (by rw[z2,rl];omega)
    rw[z2]at this
    refine(show _=_ from(by rw[z2])).trans (this.trans ?_)
    rw[rl,Nat.add_zero,show sa+k+(na-k+t)=sa+na+t by omega]
   have efl:(failedOf (SortSt.mk' (kindOf st2) (r.toList.zipIdx.foldl (λa x=>match x with|(p,j)=>a.setIfInBounds (sa+k+j) p) (arrOf st2)) (pendingOf st2) (gallopOf st2) (failedOf st2)))=none:=hs.2.2.2.trans b.fl
   exact fin r st2 _ hs g rl rm ew rfl rfl rfl
  ·intro x hx
   rw[ex]at hx
   obtain⟨i,hi,i1,i2,rfl⟩:=JL hx
   have:=k3 i hi i1 (by omega)
   simpa using this
  ·have:=t2 (sa+na+(t-1)) (by omega) (by omega) (by omega)
   simpa[zx,zy,show sa+k+(na-k-1)=sa+na-1 by omega]using this
  ·skip
   have rl:r.toList.length=(na-k)+t:=by rw[g.1.length_eq,ex,ey,List.length_append,Xd (by omega),Xd (by omega)]
   have rm:∀z∈r.toList,∃i,∃hi:i<(arrOf st).size,sa+k<=i/\i<sa+na+t/\z=(arrOf st)[i]:=λz hz'=>mid z (g.1.mem_iff.mp hz')
   refine wpS_bind (wpS_modify (wpS_bind (wpS_get (wpS_pure ?_))))
   have ew:(arrOf (SortSt.mk' (kindOf st2) (r.toList.zipIdx.foldl (λa x=>match x with|(p,j)=>a.setIfInBounds (sa+k+j) p) (arrOf st2)) (pendingOf st2) (gallopOf st2) (failedOf st2))).toList=(arrOf st).toList.take (sa+k)++r.toList++(arrOf st).toList.drop (sa+na+t):=by
    have z2:arrOf st2=arrOf st:=hs.2.1
    have:=ZcK r.toList 0 (sa+k) (arrOf st2) (by rw[z2,rl];omega)
    rw[z2]at this
    refine(show _=_ from(by rw[z2])).trans (this.trans ?_)
    rw[rl,Nat.add_zero,show sa+k+(na-k+t)=sa+na+t by omega]
   have efl:(failedOf (SortSt.mk' (kindOf st2) (r.toList.zipIdx.foldl (λa x=>match x with|(p,j)=>a.setIfInBounds (sa+k+j) p) (arrOf st2)) (pendingOf st2) (gallopOf st2) (failedOf st2)))=none:=hs.2.2.2.trans b.fl
   exact fin r st2 _ hs g rl rm ew rfl rfl rfl
end
noncomputable def sRuns:StateT SortSt Sem Unit:=sortPriv% PySem.Builtin.sortRuns
noncomputable def Ch:List (Nat×Nat)->Nat->Nat->Prop
 |[],a,b=>a=b
 |(s,n)::r,a,b=>s=a/\1<=n/\Ch r (a+n) b
theorem Ch.app:∀{p q:List (Nat×Nat)}{a b:Nat},Ch (p++q) a b↔∃c,Ch p a c/\Ch q c b
 |[],q,a,b=>by simp[Ch]
 |(s,n)::r,q,a,b=>by
  rw[List.cons_append,Ch,Ch.app (p:=r)]
  constructor
  ·rintro ⟨h1,h2,c,h3,h4⟩
   exact⟨c,⟨h1,h2,h3⟩,h4⟩
  ·rintro ⟨c,⟨h1,h2,h3⟩,h4⟩
   exact⟨h1,h2,c,h3,h4⟩
theorem Ch.len:∀{p:List (Nat×Nat)}{a b:Nat},Ch p a b->a+p.length<=b/\∀q∈p,a<=q.1/\q.1+q.2<=b
 |[],a,b,h=>by
  have h:a=b:=h
  subst h
  exact⟨by simp,λq hq=>by simp at hq⟩
 |(s,n)::r,a,b,⟨h1,h2,h3⟩=>by
  subst h1
  obtain⟨k1,k2⟩:=h3.len
  refine⟨by simp;omega,λq hq=>?_⟩
  rcases List.mem_cons.mp hq with rfl|hq
  ·exact⟨Nat.le_refl _,by dsimp only;omega⟩
  ·have:=k2 q hq
   exact⟨by omega,this.2⟩
noncomputable def prs(st:SortSt):List (Nat×Nat):=(pendingOf st).toList.map λq=>(q.1,q.2.1)
structure J (κ:SortKind) (W:List Keyed) (B:Keyed->Keyed->Bool) (st:SortSt) (lo:Nat):Prop where
 bs:Bs κ W st
 ch:Ch (prs st) 0 lo
 le:lo<=(arrOf st).size
 rn:∀q∈prs st,Srt B (seg (arrOf st) q.1 q.2)
section
variable{prog:Program}{w:World}{A:Around}{E:Value->Shared->Prop}{s:Shared}{κ:SortKind}{U:Keyed->Prop}{B:Keyed->Keyed->Bool}{st st':SortSt}{W:List Keyed}{X Y:Array Keyed}{lo n nrem:Nat}
theorem Zfm{d:Nat}(h:X.toList.take d=Y.toList.take d)(hd:lo+n<=d):seg X lo n=seg Y lo n:=by
 unfold seg
 have:∀Z:Array Keyed,(Z.toList.drop lo).take n=((Z.toList.take d).drop lo).take n:=λZ=>by
  rw[List.drop_take,List.take_take,Nat.min_eq_left (by omega)]
 rw[this X,this Y,h]
theorem Zbp{d:Nat}(h:X.toList.drop d=Y.toList.drop d)(hd:d<=lo):seg X lo n=seg Y lo n:=by
 unfold seg
 have:∀Z:Array Keyed,Z.toList.drop lo=(Z.toList.drop d).drop (lo-d):=λZ=>by rw[List.drop_drop];congr 1;omega
 rw[this X,this Y,h]
theorem Bs.size(b:Bs κ W st):(arrOf st).size=W.length:=by simpa using b.perm.length_eq
theorem Zh9{α:Type}{l:List α}{i:Nat}(h:i+1<l.length):∃pre x y post,l=pre++x::y::post/\i=pre.length:=by
 refine⟨l.take i,l[i],l[i+1],l.drop (i+2),?_,by simp;omega⟩
 rw[<-List.drop_eq_getElem_cons,<-List.drop_eq_getElem_cons,List.take_append_drop]
theorem J.merge(C:Cmp prog w A s κ U B)(hU:∀x∈W,U x)(j:J κ W B st lo){i:Nat}{Q:Bool->SortSt->Prop}(hi:i+1<(prs st).length)(h:∀st',J κ W B st' lo->(prs st').length+1=(prs st).length->(arrOf st').toList.drop lo=(arrOf st).toList.drop lo->Q true st'):wpS (model prog w) A E s (mAt i) Q st:=by
 obtain⟨pre,⟨sa,na,pw⟩,⟨sb,nb,pw'⟩,post,hp,e⟩:=Zh9 (l:=(pendingOf st).toList) (i:=i) (by simpa[prs]using hi)
 have epr:prs st=pre.map (λq=>(q.1,q.2.1))++(sa,na)::(sb,nb)::post.map λq=>(q.1,q.2.1):=by unfold prs;rw[hp];simp
 have hc:=j.ch
 rw[epr]at hc
 obtain⟨c,c1,c2⟩:=Ch.app.mp hc
 obtain⟨rfl,c3,rfl,c4,c5⟩:=c2
 have l5:=c5.len
 have l1:=c1.len
 have jl:=j.le
 refine s_mAt C hU j.bs hp e rfl c3 c4 (by omega) (j.rn (sa,na) (by rw[epr];simp)) (j.rn (sa+na,nb) (by rw[epr];simp)) λst2 b2 ep et ed sr=>?_
 have epr2:prs st2=pre.map (λq=>(q.1,q.2.1))++(sa,na+nb)::post.map λq=>(q.1,q.2.1):=by unfold prs;rw[ep];simp
 refine h st2 ⟨b2,?_,?_,λq hq=>?_⟩ ?_ ?_
 ·rw[epr2]
  refine Ch.app.mpr ⟨sa,c1,rfl,by omega,?_⟩
  rw[<-Nat.add_assoc]
  exact c5
 ·rw[b2.size,<-j.bs.size];exact jl
 ·rw[epr2]at hq
  rcases List.mem_append.mp hq with hq|hq
  ·rw[Zfm et (l1.2 q hq).2]
   exact j.rn q (by rw[epr];simp only[List.mem_append];exact .inl hq)
  ·rcases List.mem_cons.mp hq with rfl|hq
   ·exact sr
   ·rw[Zbp ed (l5.2 q hq).1]
    exact j.rn q (by rw[epr];simp only[List.mem_append,List.mem_cons];exact .inr (.inr (.inr hq)))
 ·rw[epr,epr2];simp;omega
 ·have hd:∀Z:Array Keyed,Z.toList.drop lo=(Z.toList.drop (sa+na+nb)).drop (lo-(sa+na+nb)):=λZ=>by rw[List.drop_drop];congr 1;omega
  rw[hd,ed,<-hd]
theorem J.push(j:J κ W B st lo){g:Nat}(h1:1<=n)(hz:lo+n<=(arrOf st).size)(hs:Srt B (seg (arrOf st) lo n)):J κ W B (SortSt.mk' (kindOf st) (arrOf st) ((pendingOf st).push (lo,n,0)) g (failedOf st)) (lo+n):=by
 have e:prs (SortSt.mk' (kindOf st) (arrOf st) ((pendingOf st).push (lo,n,0)) g (failedOf st))=prs st++[(lo,n)]:=by
  show(((pendingOf st).push (lo,n,0)).toList.map λq=>(q.1,q.2.1))=_
  rw[Array.toList_push,List.map_append]
  rfl
 refine⟨⟨j.bs.kind,j.bs.fl,j.bs.perm⟩,?_,hz,λq hq=>?_⟩
 ·rw[e]
  exact Ch.app.mpr ⟨lo,j.ch,rfl,h1,rfl⟩
 ·rw[e]at hq
  rcases List.mem_append.mp hq with hq|hq
  ·exact j.rn q hq
  ·simp at hq;subst hq;exact hs
theorem J.other(j:J κ W B st lo)(b:Bs κ W st')(hp:prs st'=prs st)(ht:(arrOf st').toList.take lo=(arrOf st).toList.take lo):J κ W B st' lo:=by
 refine⟨b,by rw[hp];exact j.ch,by rw[b.size,<-j.bs.size];exact j.le,λq hq=>?_⟩
 rw[hp]at hq
 rw[Zfm ht (j.ch.len.2 q hq).2]
 exact j.rn q hq
end
end Ts
end
section
set_option maxHeartbeats 2000000
namespace Ts
open PySem PyProof.Rows
section
variable{prog:Program}{w:World}{A:Around}{E:Value->Shared->Prop}{s:Shared}{κ:SortKind}{U:Keyed->Prop}{B:Keyed->Keyed->Bool}{st st':SortSt}{W:List Keyed}{X Y:Array Keyed}{lo n nrem:Nat}
theorem s_mod{f:SortSt->SortSt}{Q:PUnit->SortSt->Prop}(h:∀st5,st5=f st->Q ⟨⟩ st5):wpS (model prog w) A E s (modify f:StateT SortSt Sem PUnit) Q st:=wpS_modify (h _ rfl)
theorem ite_lt{c:Prop}[Decidable c]{m:Nat}(h:2<=m):(if c then m-2-1 else m-2)+1<m:=by split<;>omega
theorem ZfB{P:Array (Nat×Nat×Nat)}{i pw:Nat}:((P.modify i λx=>match x with|(st,len,snd)=>(st,len,pw)).toList.map λq=>(q.1,q.2.1))=P.toList.map λq=>(q.1,q.2.1):=by
 rw[Array.toList_modify]
 apply List.ext_getElem?
 intro j
 rw[List.getElem?_map,List.getElem?_map,List.getElem?_modify]
 cases P.toList[j]? with
 |none=>rfl
 |some q =>
  obtain⟨a,b,c⟩:=q
  by_cases h:i=j
  ·simp[h]
  ·simp[h]
theorem s_runs(C:Cmp prog w A s κ U B)(hU:∀x∈W,U x)(hN:W.Nodup)(b:Bs κ W st)(hp:pendingOf st=#[]){Q:Unit->SortSt->Prop}(h:∀st',Bs κ W st'->Srt B (arrOf st').toList->Q () st'):wpS (model prog w) A E s sRuns Q st:=by
 have sz:∀{st':SortSt},Bs κ W st'->(arrOf st').size=(arrOf st).size:=λb'=>by rw[b'.size,b.size]
 have j0:J κ W B st 0:=⟨b,by unfold prs;rw[hp];rfl,Nat.zero_le _,λq hq=>by unfold prs at hq;rw[hp]at hq;simp at hq⟩
 refine wpS_bind (wpS_get ?_)
 refine wpS_bind (wpS_mono (wpS_forRange (I:=λi (sx:Option Unit×Nat) st'=>sx.1=none/\J κ W B st' sx.2/\i<=sx.2) (Q:=λsx st'=>sx.1=none/\J κ W B st' (arrOf st).size) ?_ ?_ ⟨rfl,j0,Nat.le_refl _⟩) ?_)
 ·rintro i ⟨r,lo⟩ st1 _ hi ⟨rfl,j1,il⟩
  dsimp only at j1 il
  have z1:=sz j1.bs
  have jl:=j1.le
  refine Zq (λc=>?_) λc=>?_
  ·have c:lo ≥ (arrOf st).size:=c
   refine wpS_pure ⟨rfl,?_⟩
   have:lo=(arrOf st).size:=by omega
   rw[<-this];exact j1
  ·have c:¬lo ≥ (arrOf st).size:=c
   refine wpS_bind (s_cRun C hU hN j1.bs (nrem:=(arrOf st).size-lo) (lo:=lo) (by omega) (by omega) λn st2 n1 n2 b2 p2 t2 s2=>?_)
   have j2:J κ W B st2 lo:=j1.other b2 (by unfold prs;rw[p2]) t2
   refine Zq (λc2=>?_) λc2=>?_
   ·refine wpS_bind (wpS_lift (wpAny_rule ⟨rfl,?_⟩))
    have c2:n<minRun' (arrOf st).size (arrOf st).size 0:=c2
    refine wpS_bind (ZiW C hU b2 (lo:=lo) (n:=min ((arrOf st).size-lo) (minRun' (arrOf st).size (arrOf st).size 0)) (ok:=n) (by rw[sz b2];omega) (by omega) (by omega) s2 λst3 b3 p3 t3 s3=>?_)
    have j3:J κ W B st3 lo:=j2.other b3 (by unfold prs;rw[p3]) t3
    refine Zq (λz=>absurd z (by simp)) λ_=>?_
    refine wpS_bind (wpS_get ?_)
    cases hb:(pendingOf st3).back? with
    |none =>
     refine wpS_bind (wpS_modify ?_)
     exact wpS_pure ⟨rfl,j3.push (n:=min ((arrOf st).size-lo) (minRun' (arrOf st).size (arrOf st).size 0)) (by omega) (by rw[sz j3.bs];omega) s3,(by show i+1<=lo+min ((arrOf st).size-lo) (minRun' (arrOf st).size (arrOf st).size 0);omega)⟩
    |some q =>
     obtain⟨s1,n1,x1⟩:=q
     refine wpS_bind (wpS_mono (wpS_forRange (I:=λ_ (sx:Option Unit×Unit) st'=>sx.1=none/\J κ W B st' lo/\Srt B (seg (arrOf st') lo (min ((arrOf st).size-lo) (minRun' (arrOf st).size (arrOf st).size 0)))) (Q:=λsx st'=>sx.1=none/\J κ W B st' lo/\Srt B (seg (arrOf st') lo (min ((arrOf st).size-lo) (minRun' (arrOf st).size (arrOf st).size 0)))) ?_ (λ_ _ z=>z) ⟨rfl,j3,s3⟩) ?_)
     ·rintro i ⟨r,_⟩ st4 _ _ ⟨rfl,j4,s4⟩
      have pl:(prs st4).length=(pendingOf st4).size:=by unfold prs;simp
      refine wpS_bind (wpS_get ?_)
      by_cases cp:(pendingOf st4).size>1
      ·obtain⟨⟨a1,b1,o1⟩,g⟩:∃q,(if(pendingOf st4).size>1 then(pendingOf st4)[(pendingOf st4).size-2]? else none)=some q:=⟨(pendingOf st4)[(pendingOf st4).size-2]'(by omega),by rw[if_pos cp];simp⟩
       dsimp only
       rw[g]
       refine Zq (λ_=>wpS_pure ⟨rfl,j4,s4⟩) λ_=>?_
       refine wpS_bind (J.merge C hU j4 (by rw[pl];show(pendingOf st4).size-2+1<_;omega) λst5 j5 l5 d5=>?_)
       refine Zq (λz=>absurd z (by simp)) λ_=>?_
       refine wpS_pure ⟨rfl,j5,?_⟩
       rw[Zbp d5 (Nat.le_refl _)]
       exact s4
      ·have g:(if(pendingOf st4).size>1 then(pendingOf st4)[(pendingOf st4).size-2]? else none)=none:=if_neg cp
       dsimp only
       rw[g]
       exact wpS_pure ⟨rfl,j4,s4⟩
     ·rintro ⟨r,_⟩ st4 ⟨rfl,j4,s4⟩
      refine wpS_bind (s_mod λst5 h5=>wpS_bind (wpS_modify ?_))
      have j5:J κ W B st5 lo:=J.other j4 (by rw[h5];exact⟨j4.bs.kind,j4.bs.fl,j4.bs.perm⟩) (by rw[h5];exact ZfB) (by rw[h5])
      have s5:Srt B (seg (arrOf st5) lo (min ((arrOf st).size-lo) (minRun' (arrOf st).size (arrOf st).size 0))):=by rw[h5];exact s4
      exact wpS_pure ⟨rfl,j5.push (n:=min ((arrOf st).size-lo) (minRun' (arrOf st).size (arrOf st).size 0)) (by omega) (by rw[sz j5.bs];omega) s5,(by show i+1<=lo+min ((arrOf st).size-lo) (minRun' (arrOf st).size (arrOf st).size 0);omega)⟩
   ·have c2:¬n<minRun' (arrOf st).size (arrOf st).size 0:=c2
    refine wpS_bind (wpS_get ?_)
    cases hb:(pendingOf st2).back? with
    |none =>
     refine wpS_bind (wpS_modify ?_)
     exact wpS_pure ⟨rfl,j2.push (n:=n) (by omega) (by rw[sz j2.bs];omega) s2,(by show i+1<=lo+n;omega)⟩
    |some q =>
     obtain⟨s1,n1,x1⟩:=q
     refine wpS_bind (wpS_mono (wpS_forRange (I:=λ_ (sx:Option Unit×Unit) st'=>sx.1=none/\J κ W B st' lo/\Srt B (seg (arrOf st') lo (n))) (Q:=λsx st'=>sx.1=none/\J κ W B st' lo/\Srt B (seg (arrOf st') lo (n))) ?_ (λ_ _ z=>z) ⟨rfl,j2,s2⟩) ?_)
     ·rintro i ⟨r,_⟩ st4 _ _ ⟨rfl,j4,s4⟩
      have pl:(prs st4).length=(pendingOf st4).size:=by unfold prs;simp
      refine wpS_bind (wpS_get ?_)
      by_cases cp:(pendingOf st4).size>1
      ·obtain⟨⟨a1,b1,o1⟩,g⟩:∃q,(if(pendingOf st4).size>1 then(pendingOf st4)[(pendingOf st4).size-2]? else none)=some q:=⟨(pendingOf st4)[(pendingOf st4).size-2]'(by omega),by rw[if_pos cp];simp⟩
       dsimp only
       rw[g]
       refine Zq (λ_=>wpS_pure ⟨rfl,j4,s4⟩) λ_=>?_
       refine wpS_bind (J.merge C hU j4 (by rw[pl];show(pendingOf st4).size-2+1<_;omega) λst5 j5 l5 d5=>?_)
       refine Zq (λz=>absurd z (by simp)) λ_=>?_
       refine wpS_pure ⟨rfl,j5,?_⟩
       rw[Zbp d5 (Nat.le_refl _)]
       exact s4
      ·have g:(if(pendingOf st4).size>1 then(pendingOf st4)[(pendingOf st4).size-2]? else none)=none:=if_neg cp
       dsimp only
       rw[g]
       exact wpS_pure ⟨rfl,j4,s4⟩
     ·rintro ⟨r,_⟩ st4 ⟨rfl,j4,s4⟩
      refine wpS_bind (s_mod λst5 h5=>wpS_bind (wpS_modify ?_))
      have j5:J κ W B st5 lo:=J.other j4 (by rw[h5];exact⟨j4.bs.kind,j4.bs.fl,j4.bs.perm⟩) (by rw[h5];exact ZfB) (by rw[h5])
      have s5:Srt B (seg (arrOf st5) lo (n)):=by rw[h5];exact s4
      exact wpS_pure ⟨rfl,j5.push (n:=n) (by omega) (by rw[sz j5.bs];omega) s5,(by show i+1<=lo+n;omega)⟩
 ·rintro ⟨r,lo⟩ st1 ⟨rfl,j1,il⟩
  dsimp only at j1
  have il:max 0 (arrOf st).size<=lo:=il
  have:=j1.le
  rw[sz j1.bs]at this
  have:lo=(arrOf st).size:=by omega
  refine⟨rfl,?_⟩
  rw[<-this];exact j1
 ·rintro ⟨r,lo⟩ st1 ⟨rfl,j1⟩
  refine wpS_bind (wpS_mono (wpS_forRange (I:=λi (sx:Option Unit×Unit) st'=>sx.1=none/\J κ W B st' (arrOf st).size/\(prs st').length+i<=(arrOf st).size) (Q:=λsx st'=>sx.1=none/\J κ W B st' (arrOf st).size/\(prs st').length<=1) ?_ ?_ ⟨rfl,j1,by have:=j1.ch.len.1;omega⟩) ?_)
  ·rintro i ⟨r,_⟩ st2 _ hi ⟨rfl,j2,l2⟩
   have pl:(prs st2).length=(pendingOf st2).size:=by unfold prs;simp
   refine wpS_bind (wpS_get ?_)
   refine Zq (λc=>?_) λc=>?_
   ·have c:(pendingOf st2).size<=1:=c
    exact wpS_pure ⟨rfl,j2,by omega⟩
   ·have c:¬(pendingOf st2).size<=1:=c
    refine wpS_bind (J.merge C hU j2 ?_ λst3 j3 l3 _=>?_)
    ·rw[pl]
     exact ite_lt (m:=(pendingOf st2).size) (by omega)
    ·refine Zq (λz=>absurd z (by simp)) λ_=>?_
     exact wpS_pure ⟨rfl,j3,by omega⟩
  ·rintro ⟨r,_⟩ st2 ⟨rfl,j2,l2⟩
   have l2:(prs st2).length+max 0 (arrOf st).size<=(arrOf st).size:=l2
   exact⟨rfl,j2,by omega⟩
  ·rintro ⟨r,_⟩ st2 ⟨rfl,j2,l2⟩
   refine wpS_pure (h st2 j2.bs ?_)
   have ch:=j2.ch
   have rn:=j2.rn
   have z2:=sz j2.bs
   match e:prs st2,l2 with
   |[],_ =>
    rw[e]at ch
    have ch:0=(arrOf st).size:=ch
    have:(arrOf st2).toList=[]:=by
     exact List.length_eq_zero_iff.mp (by rw[Array.length_toList];omega)
    rw[this];exact .nil
   |[(a,k)],_ =>
    rw[e]at ch rn
    obtain⟨rfl,_,ch⟩:=ch
    have ch:0+k=(arrOf st).size:=ch
    have:=rn (0,k) (by simp)
    unfold seg at this
    rw[List.drop_zero,List.take_of_length_le (by simp;omega)]at this
    exact this
end
end Ts
end
section
set_option maxHeartbeats 1000000
namespace Ts
open PySem PyProof.Rows
section
variable{prog:Program}{w:World}{A:Around}{E:Value->Shared->Prop}{s:Shared}{κ:SortKind}{B:Keyed->Keyed->Bool}
theorem pw_few{α:Type}{R:α->α->Prop}{l:List α}(h:l.length<2):l.Pairwise R:=by
 rcases l with _|⟨x,_|⟨y,r⟩⟩
 ·exact .nil
 ·exact List.pairwise_singleton _ _
 ·rw[List.length_cons,List.length_cons]at h
  exact absurd h (Nat.not_lt.mpr (Nat.le_add_left _ _))
theorem ZiQ{a:Addr}{vs:List Value}{n:Nat}{P:PySem.Fin->Shared->Prop}(ho:s.heap.get? a=some (seqObj "list" vs.toArray n))(hz:vs.length<=sizeLine)(hN:(pairsOf vs).toList.Nodup)(hk:2<=vs.length->∀h',(∀b o,b≠a->s.heap.get? b=some o->h'.get? b=some o)->∀Q':SortKind->Shared->Prop,Q' κ { s with heap:=h' }->wpAny (model prog w) A (keyKind' vs.toArray) Q' E { s with heap:=h' })(hC:∀h',(∀b o,b≠a->s.heap.get? b=some o->h'.get? b=some o)->Cmp prog w A { s with heap:=h' } κ (λx=>x∈(pairsOf vs).toList) B)(h:∀out:Array Keyed,out.toList.Perm (pairsOf vs).toList->Srt B out.toList->P (.done (.ret .none)) { s with heap:=sortedHeap s.heap a vs (out.map (·.2)) }):
  wpAny (model prog w) A (Builtin.«list.sort» ⟨[.ref a],[]⟩) P E s:=by
 rw[list_sort_plain]
 have ha:a<s.heap.objs.size:=Heap.lt_size ho
 have hsz:vs.toArray.size=vs.length:=by simp
 refine wpAny_bind (listItems_at ho rfl (wpAny_bind (listUpdate_at ho rfl ?_ (by rw[hsz];exact hz) (Nat.zero_le _))))
 obtain⟨e1,ho1⟩:∃e1,(s.heap.update a (Obj.mapSeq λ_=>(#[]:Array Value))).get? a=some (seqObj "list" #[] e1):=⟨_,get?_update_seq ho (λ_=>#[])⟩
 refine wpAny_bind (seqEpoch_at ho1 rfl (wpAny_bind (wpAny_newTuple (wpAny_bind (wpAny_newList (wpAny_holding ?_) (Nat.zero_le _))) (by show vs.length<=_;exact hz))))
 have nk:∀b o,s.heap.get? b=some o->b≠(s.heap.update a (Obj.mapSeq λ_=>(#[]:Array Value))).objs.size/\b≠((s.heap.update a (Obj.mapSeq λ_=>(#[]:Array Value))).push (seqObj "tuple" vs.toArray 0)).objs.size:=λb o q=>by
  rw[size_push',Heap.size_update]
  have:=Heap.lt_size q
  exact⟨Nat.ne_of_lt this,Nat.ne_of_lt (Nat.lt_succ_of_lt this)⟩
 have kp:∀b o,b≠a->s.heap.get? b=some o->(((s.heap.update a (Obj.mapSeq λ_=>(#[]:Array Value))).push (seqObj "tuple" vs.toArray 0)).push (seqObj "list" #[] 0)).get? b=some o:=λb o hb q=>by
  rw[Heap.get?_push_ne _ _ _ (nk b o q).2,Heap.get?_push_ne _ _ _ (nk b o q).1,Heap.get?_update_ne _ _ _ _ hb]
  exact q
 have ho6:(((s.heap.update a (Obj.mapSeq λ_=>(#[]:Array Value))).push (seqObj "tuple" vs.toArray 0)).push (seqObj "list" #[] 0)).get? a=some (seqObj "list" #[] e1):=by
  rw[Heap.get?_push_ne _ _ _ (nk a _ ho).2,Heap.get?_push_ne _ _ _ (nk a _ ho).1]
  exact ho1
 dsimp only
 by_cases h2:vs.toArray.size<2
 ·rw[if_pos h2,if_pos h2]
  refine wpAny_bind (wpAny_pure ?_)
  rw[StateT.run_pure]
  refine wpAny_bind (wpAny_pure (wpAny_bind (seqEpoch_at ho6 rfl (wpAny_bind (listUpdate_at ho6 rfl ?_ (Nat.zero_le _) (by rw[Array.size_map];show(pairsOf vs).size<=_;rw[pairsOf_size];omega))))))
  simp only[bne_self_eq_false,Bool.false_eq_true,if_false]
  refine wpAny_pure (h (pairsOf vs) (List.Perm.refl _) ?_)
  have hl:(pairsOf vs).toList.length<2:=by rw[Array.length_toList,pairsOf_size];omega
  exact pw_few hl
 ·rw[if_neg h2,if_neg h2]
  refine wpAny_bind (hk (by omega) _ kp _ ?_)
  refine wpAny_bind (wpAny_mono (s_runs (W:=(pairsOf vs).toList) (st:=SortSt.mk' κ (vs.toArray.zip vs.toArray) #[] 7 none) (hC _ kp) (λx hx=>hx) hN ⟨rfl,rfl,List.Perm.refl _⟩ rfl (Q:=λ_ st'=>Bs κ (pairsOf vs).toList st'/\Srt B (arrOf st').toList) λst' b1 b2=>⟨b1,b2⟩) ?_ λ_ _ e=>e)
  rintro ⟨⟨⟩,st'⟩ s' ⟨rfl,b1,b2⟩
  dsimp only
  refine wpAny_bind (seqEpoch_at ho6 rfl (wpAny_bind (listUpdate_at ho6 rfl ?_ (Nat.zero_le _) ?_)))
  ·rw[b1.fl]
   simp only[bne_self_eq_false,Bool.false_eq_true,if_false]
   exact wpAny_pure (h (arrOf st') b1.perm b2)
  ·have:=b1.size
   rw[Array.length_toList,pairsOf_size]at this
   rw[Array.size_map,this]
   omega
theorem so_call{l:Addr}{vs:List Value}{Q:Value->Shared->Prop}(hl:s.heap.IsList l vs.toArray)(hz:vs.length<=sizeLine)(hN:(pairsOf vs).toList.Nodup)(hk:2<=vs.length->∀A' h',(∀b o,s.heap.get? b=some o->h'.get? b=some o)->∀(E':Value->Shared->Prop) (Q':SortKind->Shared->Prop),Q' κ { s with heap:=h' }->wpAny (model prog w) A' (keyKind' vs.toArray) Q' E' { s with heap:=h' })(hC:∀A' h',(∀b o,s.heap.get? b=some o->h'.get? b=some o)->Cmp prog w A' { s with heap:=h' } κ (λx=>x∈(pairsOf vs).toList) B)(h:∀out:Array Keyed,out.toList.Perm (pairsOf vs).toList->Srt B out.toList->Q (.ref (s.heap.objs.size+1)) { s with heap:=sortedAll s.heap vs (out.map (·.2)) }):
  wpAny (model prog w) A (call (.builtin "sorted") [.ref l]) Q E s:=by
 refine Calls.call_function_entry kind_sorted plain_sorted entry_sorted (args_sorted1 _) ?_
 unfold Builtin.«sorted»
 refine wpAny_bind (m:=checkCount "sorted" 1 1 _) (wpAny_pure (wpAny_bind (collect_list hl (wpAny_bind (wpAny_newList ?_ (by simpa using hz))) hz)))
 have hsz:((s.heap.push (seqObj "list" #[] 0)).update s.heap.objs.size (Obj.mapSeq (·++vs.toArray))).objs.size=s.heap.objs.size+1:=by rw[Heap.size_update,size_push']
 have hoL:(((s.heap.push (seqObj "list" #[] 0)).update s.heap.objs.size (Obj.mapSeq (·++vs.toArray))).push (seqObj "list" vs.toArray 0)).get? (s.heap.objs.size+1)=some (seqObj "list" vs.toArray 0):=by
  rw[<-hsz];exact Heap.get?_push_size _ rfl
 have kp:∀h':Heap,(∀b o,b≠s.heap.objs.size+1->(((s.heap.push (seqObj "list" #[] 0)).update s.heap.objs.size (Obj.mapSeq (·++vs.toArray))).push (seqObj "list" vs.toArray 0)).get? b=some o->h'.get? b=some o)->∀b o,s.heap.get? b=some o->h'.get? b=some o:=λh' k b o q=>by
  have hlt:=Heap.lt_size q
  refine k b o (Nat.ne_of_lt (Nat.lt_succ_of_lt hlt)) ?_
  rw[Heap.get?_push_ne _ _ _ (by rw[hsz];exact Nat.ne_of_lt (Nat.lt_succ_of_lt hlt)),Heap.get?_update_ne _ _ _ _ (Nat.ne_of_lt hlt),Heap.get?_push_ne _ _ _ (Nat.ne_of_lt hlt)]
  exact q
 show wpAny _ _ _ _ _ { s with heap:=((s.heap.push (seqObj "list" #[] 0)).update s.heap.objs.size (Obj.mapSeq (·++vs.toArray))).push (seqObj "list" vs.toArray 0) }
 rw[hsz]
 refine wpAny_bind (wpAny_holding (wpAny_call_entry slot_list_sort ⟨_,hoL,rfl⟩ entry_list_sort (ZiQ hoL hz hN (λh2 h' k Q' q=>hk h2 _ h' (kp h' k) _ Q' q) (λh' k=>hC _ h' (kp h' k)) λout a1 a2=>⟨_,rfl,wpAny_pure ⟨_,rfl,h out a1 a2⟩⟩) (args_list_sort _)))
end
end Ts
namespace Mi
open PySem PySem.Spec PyProof.Rows L2
theorem ZbI:∀{x y:List Int},lexI x y=true->lexI y x=false
 |[],[],h=>by cases h
 |[],_::_,_=>rfl
 |_::_,[],h=>by cases h
 |a::x,b::y,h=>by
  rw[lexI]at h ⊢
  by_cases e:a=b
  ·subst e
   rw[if_pos rfl]at h ⊢
   exact ZbI h
  ·rw[if_neg e]at h
   rw[if_neg (Ne.symm e)]
   have:=of_decide_eq_true h
   exact decide_eq_false (by omega)
theorem ZbH:∀{x y:List Int},lexI x y=false->lexI y x=false->x=y
 |[],[],_,_=>rfl
 |[],_::_,h,_=>by cases h
 |_::_,[],_,h=>by cases h
 |a::x,b::y,h1,h2=>by
  rw[lexI]at h1 h2
  by_cases e:a=b
  ·subst e
   rw[if_pos rfl]at h1 h2
   rw[ZbH h1 h2]
  ·rw[if_neg e]at h1
   rw[if_neg (Ne.symm e)]at h2
   have h1:=of_decide_eq_false h1
   have h2:=of_decide_eq_false h2
   omega
theorem Zc8:∀{x y z:List Int},lexI y x=false->lexI z y=false->lexI z x=false
 |[],[],_,_,h=>h
 |[],_::_,[],_,_=>rfl
 |[],_::_,_::_,_,_=>rfl
 |_::_,[],_,h,_=>by cases h
 |_::_,_::_,[],_,h=>by cases h
 |a::x,b::y,c::z,h1,h2=>by
  rw[lexI]at h1 h2 ⊢
  by_cases e1:b=a
  ·by_cases e2:c=b
   ·rw[if_pos e1]at h1
    rw[if_pos e2]at h2
    rw[if_pos (e2.trans e1)]
    exact Zc8 h1 h2
   ·rw[if_neg e2]at h2
    have h2:=of_decide_eq_false h2
    rw[if_neg (by omega)]
    exact decide_eq_false (by omega)
  ·rw[if_neg e1]at h1
   have h1:=of_decide_eq_false h1
   by_cases e2:c=b
   ·rw[if_neg (by omega)]
    exact decide_eq_false (by omega)
   ·rw[if_neg e2]at h2
    have h2:=of_decide_eq_false h2
    rw[if_neg (by omega)]
    exact decide_eq_false (by omega)
theorem insI_perm(x:List Int):∀l:List (List Int),(insI x l).Perm (x::l)
 |[]=>.refl _
 |y::r=>by
  rw[insI]
  split
  ·exact((insI_perm x r).cons y).trans (.swap _ _ _)
  ·exact .refl _
theorem sortI_perm:∀xs:List (List Int),(sortI xs).Perm xs
 |[]=>.refl _
 |x::r=>(insI_perm x _).trans ((sortI_perm r).cons x)
theorem Zge(x:List Int):∀{l:List (List Int)},l.Pairwise (λa b=>lexI b a=false)->(insI x l).Pairwise (λa b=>lexI b a=false)
 |[],_=>List.pairwise_singleton _ _
 |y::r,h=>by
  rw[insI]
  obtain⟨h1,h2⟩:=List.pairwise_cons.mp h
  split
  ·rename_i q
   refine List.pairwise_cons.mpr ⟨λz hz=>?_,Zge x h2⟩
   rcases List.mem_cons.mp ((insI_perm x r).mem_iff.mp hz)with rfl|hz
   ·exact ZbI q
   ·exact h1 z hz
  ·rename_i q
   have q:lexI y x=false:=by simpa using q
   refine List.pairwise_cons.mpr ⟨λz hz=>?_,h⟩
   rcases List.mem_cons.mp hz with rfl|hz
   ·exact q
   ·exact Zc8 q (h1 z hz)
theorem Zbm:∀xs:List (List Int),(sortI xs).Pairwise (λa b=>lexI b a=false)
 |[]=>.nil
 |x::r=>Zge x (Zbm r)
theorem ZdC{xs ys:List (List Int)}(hp:ys.Perm xs)(hw:ys.Pairwise (λa b=>lexI b a=false)):ys=sortI xs:=
 List.Perm.eq_of_pairwise (λa b _ _ h1 h2=>ZbH h2 h1) hw (Zbm xs) (hp.trans (sortI_perm xs).symm)
section
open PySem.W
variable{prog:Program}{w:World}{A:Around}{E:Value->Shared->Prop}{s:Shared}
theorem Zf7{Q:Bool->Shared->Prop}{fin:Bool}:∀{vs ws:List Value}{ns ms:List Int}(i:Nat),IntsAre vs ns->IntsAre ws ms->fin=decide (ns.length<ms.length)->Q (lexI ns ms) s->KatLex prog w A true fin Q (vs.zip ws) i s
 |_,_,_,_,i,.nil,hw,hf,h=>by
  refine kat_nil ?_
  rw[hf]
  cases hw with
  |nil=>exact h
  |cons c u hw=>exact h
 |_,_,_,_,i,.cons a t hv,.nil,hf,h=>by
  refine kat_nil ?_
  rw[hf]
  exact h
 |_,_,_,_,i,.cons a t hv,.cons c u hw,hf,h=>by
  refine kat_cons (wpAny_eqBool_int ?_)
  rw[lexI]at h
  cases q:(a==c)with
  |true =>
   rw[if_pos (eq_of_beq q)]at h
   exact kat_yes (Zf7 (i+1) hv hw (by rw[hf];simp) h)
  |false =>
   rw[if_neg (by simpa using q)]at h
   refine kat_no ?_
   cases z:(true&&i==0)with
   |true=>exact oneLt_int h
   |false=>exact kat_one _ _ (lt_int h)
noncomputable def TI(h:Heap)(v:Value)(k:List Int):Prop:=∃a o its n,v=.ref a/\h.get? a=some o/\o.cls=.type "tuple"/\o.data=.seq its n/\IntsAre its.toList k
theorem TI.keep{h h':Heap}{v:Value}{k:List Int}(t:TI h v k)(kp:∀b o,h.get? b=some o->h'.get? b=some o):TI h' v k:=by
 obtain⟨a,o,its,n,e1,e2,e3⟩:=t
 exact⟨a,o,its,n,e1,kp _ _ e2,e3⟩
theorem ZhT{vs:List Value}{kf:Value->List Int}(hv:∀v∈vs,TI s.heap v (kf v))(inj:∀v∈vs,∀u∈vs,kf v=kf u->v=u)(h':Heap)(kp:∀b o,s.heap.get? b=some o->h'.get? b=some o):
  Ts.Cmp prog w A { s with heap:=h' } (tuples' true) (λx=>x∈(pairsOf vs).toList) (λx y=>lexI (kf x.1) (kf y.1)):=by
 have mm:∀{x:Keyed},x∈(pairsOf vs).toList->x.1=x.2/\x.1∈vs:=λh=>by rw[pairsOf_toList]at h;exact mem_zip_self h
 refine⟨λx y hx hy E Q q=>?_,λx y z _ _ _=>Zc8,λx y _ _=>ZbI,λx y hx hy h1 h2=>?_⟩
 ·obtain⟨a,o,its,n,e1,e2,e3,e4,e5⟩:=(hv _ (mm hx).2).keep kp
  obtain⟨b,p,jts,k,f1,f2,f3,f4,f5⟩:=(hv _ (mm hy).2).keep kp
  rw[e1,f1]
  refine kat_lt e2 e4 f2 f4 (Zf7 0 e5 f5 ?_ q)
  rw[<-e5.length,<-f5.length]
  simp
 ·have:=inj _ (mm hx).2 _ (mm hy).2 (ZbH h1 h2)
  exact Prod.ext this (by rw[<-(mm hx).1,<-(mm hy).1];exact this)
theorem Zf8{vs:List Value}{kf:Value->List Int}(hv:∀v∈vs,TI s.heap v (kf v))(hne:∀v∈vs,kf v≠[])(h0:0<vs.length){Q:SortKind->Shared->Prop}(h:Q (tuples' true) s):wpAny (model prog w) A (keyKind' vs.toArray) Q E s:=by
 obtain⟨fs,hf,hfi,hl⟩:∃fs,KatTups s.heap vs fs/\(∀v∈fs,∃n t,v=Value.int n t)/\fs.length=vs.length:=by
  clear h0 h
  induction vs with
  |nil=>exact⟨[],.nil,λv hv=>by simp at hv,rfl⟩
  |cons v vs ih =>
   obtain⟨fs,h1,h2,h3⟩:=ih (λu hu=>hv u (List.mem_cons_of_mem _ hu)) (λu hu=>hne u (List.mem_cons_of_mem _ hu))
   obtain⟨a,o,its,n,rfl,e2,e3,e4,e5⟩:=hv v List.mem_cons_self
   have hn:=hne _ List.mem_cons_self
   obtain⟨f,t,e6⟩:∃f t,its[0]?=some (Value.int f t):=by
    rw[<-Array.getElem?_toList]
    cases q:kf (.ref a)with
    |nil=>exact absurd q hn
    |cons i r =>
     rw[q]at e5
     generalize its.toList=l at e5
     cases e5 with
     |cons i t _=>exact⟨i,t,rfl⟩
   refine⟨_::fs,.cons e2 e3 e4 e6 h1,λu hu=>?_,by simp[h3]⟩
   rcases List.mem_cons.mp hu with rfl|hu
   ·exact⟨f,t,rfl⟩
   ·exact h2 u hu
 refine kat_kind (T:=.type "int") hf (by omega) (λv hv=>?_) (by decide) h
 obtain⟨n,t,rfl⟩:=hfi v hv
 exact .now
theorem IntsAre.inj:∀{vs:List Value}{ns ms:List Int},IntsAre vs ns->IntsAre vs ms->ns=ms
 |_,_,_,.nil,.nil=>rfl
 |_,_,_,.cons a t h,.cons _ _ h2=>by rw[IntsAre.inj h h2]
theorem TI.inj{h:Heap}{v:Value}{k l:List Int}(t:TI h v k)(u:TI h v l):k=l:=by
 obtain⟨a,o,its,n,rfl,e2,e3,e4,e5⟩:=t
 obtain⟨b,p,jts,m,f1,f2,f3,f4,f5⟩:=u
 cases f1
 rw[e2]at f2;cases f2
 rw[e4]at f4;cases f4
 exact Mi.IntsAre.inj e5 f5
open Classical in
noncomputable def kfn(h:Heap)(v:Value):List Int:=if p:∃k,TI h v k then p.choose else[]
theorem Zip{h:Heap}{v:Value}{k:List Int}(t:TI h v k):kfn h v=k:=by
 unfold kfn
 rw[dif_pos ⟨k,t⟩]
 exact(Exists.choose_spec (⟨k,t⟩:∃k,TI h v k)).inj t
theorem Zcn:∀{ns:List Int}{us:List Value},Vals (ns.map V.int) us->IntsAre us ns
 |[],_,.nil=>.nil
 |n::ns,_,.cons ⟨t,e⟩ r=>by subst e;exact .cons n t (Zcn r)
end
theorem Zgb:∀{ts:List T}{ns:List Int},ints? ts=some ns->ts=ns.map .int
 |[],_,h=>by cases h;rfl
 |t::r,ns,h=>by
  cases t with
  |int c =>
   have h:(ints? r).map (c::·)=some ns:=h
   cases q:ints? r with
   |none=>rw[q]at h;cases h
   |some ms=>rw[q]at h;cases h;rw[Zgb q];rfl
  |_=>cases h
theorem Ze3:∀{ts:List T}{ks:List (List Int)},tups? ts=some ks->ts=ks.map tupT
 |[],_,h=>by cases h;rfl
 |t::r,ks,h=>by
  have h:((tupI? t).bind λk=>(tups? r).map (k::·))=some ks:=h
  cases t with
  |tup us =>
   have h:((ints? us).bind λk=>(tups? r).map (k::·))=some ks:=h
   cases q1:ints? us with
   |none=>rw[q1]at h;cases h
   |some k =>
    rw[q1]at h
    have h:(tups? r).map (k::·)=some ks:=h
    cases q2:tups? r with
    |none=>rw[q2]at h;cases h
    |some ls=>rw[q2]at h;cases h;rw[Zgb q1,Ze3 q2];rfl
  |_=>cases h
section
variable{K:Frag}{cm:List Addr}{m:Mem}{H:Hp}{xr:XR}{X:Cx}{call:Nat->List W->Mem->Res W}{gv:List T}
variable{e:Expr}{es:List Expr}{ea:E}{eas:Es}{pos p:Pos}
theorem RTs.intsV:∀{ns:List Int}{vs:List V},RTs K cm m H (ns.map .int) vs->vs=ns.map V.int
 |[],_,.nil=>rfl
 |n::ns,_,.cons r t=>by cases r;rw[RTs.intsV t];rfl
theorem Ze5{pins:List (Addr×Obj)}{σ:L2.St}{s:Shared}(hK:X.K=K)(I:Inv X pins σ H s):∀{ks:List (List Int)}{vs:List V}{us:List Value},RTs K cm m H (ks.map tupT) vs->Vals vs us->Paired (λk u=>TI s.heap u k/\∃a,u=.ref a/\RT K cm m H (tupT k) (.ref a)) ks us
 |[],_,_,.nil,.nil=>.nil
 |k::ks,_,_,.cons r t,.cons rv tv=>by
  refine .cons ?_ (Ze5 hK I t tv)
  have r0:=r
  obtain⟨a,vs',rfl,hq,rr⟩:=r.itup
  cases rv
  cases RTs.intsV rr
  subst hK
  obtain⟨its,r',pl,hz⟩:=I.tuple hq
  obtain⟨o,ho,hc,n,hd⟩:=pl
  exact⟨⟨a,o,its.toArray,n,rfl,ho,hc,hd,by simpa using Zcn r'⟩,a,rfl,r0⟩
theorem Xx{α β:Type}{f:α->β}{l:List α}(h:(l.map f).Nodup):l.Nodup:=(List.pairwise_map.mp h).imp λq e=>q (congrArg f e)
theorem Xu{α β:Type}{F:α->β->Prop}:∀{xs:List α}{ys:List β},Paired F xs ys->∀y∈ys,∃x∈xs,F x y
 |_,_,.nil,y,h=>by simp at h
 |_,_,.cons r t,y,h=>by
  rcases List.mem_cons.mp h with rfl|h
  ·exact⟨_,List.mem_cons_self,r⟩
  ·obtain⟨x,hx,hf⟩:=Xu t y h
   exact⟨x,List.mem_cons_of_mem _ hx,hf⟩
theorem Zcd{α β:Type}{F:α->β->Prop}{f:β->α}(hf:∀x y,F x y->f y=x):∀{xs:List α}{ys:List β},Paired F xs ys->ys.map f=xs
 |_,_,.nil=>rfl
 |_,_,.cons r t=>by rw[List.map_cons,hf _ _ r,Zcd hf t]
theorem Zfd{s:Shared}{A:Around}{E:Value->Shared->Prop}{l:Addr}{ks:List (List Int)}{us:List Value}{Q:Value->Shared->Prop}(P:Paired (λk u=>TI s.heap u k/\∃a,u=.ref a/\RT K cm m H (tupT k) (.ref a)) ks us)(hl:s.heap.IsList l us.toArray)(hz:us.length<=sizeLine)(hN:ks.Nodup)(hne:(ks.all λk=>!k.isEmpty)=true)(h:∀out:List Value,(∃vs:List V,Vals vs out/\RTs K cm m H ((sortI ks).map tupT) vs)->Q (.ref (s.heap.objs.size+1)) { s with heap:=sortedAll s.heap us out.toArray }):
  wpAny (model X.prog X.w) A (PySem.call (.builtin "sorted") [.ref l]) Q E s:=by
 have hv:∀u∈us,TI s.heap u (kfn s.heap u)/\kfn s.heap u∈ks/\∃a,u=.ref a/\RT K cm m H (tupT (kfn s.heap u)) (.ref a):=λu hu=>by
  obtain⟨k,hk,t,r⟩:=Xu P u hu
  rw[Zip t]
  exact⟨t,hk,r⟩
 have hm:us.map (kfn s.heap)=ks:=Zcd (λk u r=>Zip r.1) P
 have nd:(us.map (kfn s.heap)).Nodup:=by rw[hm];exact hN
 have inj:∀v∈us,∀u∈us,kfn s.heap v=kfn s.heap u->v=u:=λv hv' u hu e=>by
  obtain⟨i,hi,rfl⟩:=List.mem_iff_getElem.mp hv'
  obtain⟨j,hj,rfl⟩:=List.mem_iff_getElem.mp hu
  have:=(List.getElem_inj (h₀:=by simpa using hi) (h₁:=by simpa using hj) nd).mp (by simpa using e)
  subst this;rfl
 have ndu:us.Nodup:=Xx nd
 have ndp:(pairsOf us).toList.Nodup:=by
  rw[pairsOf_toList]
  have:(us.zip us).map (·.1)=us:=by rw[List.map_fst_zip (Nat.le_refl _)]
  exact Xx (f:=(·.1)) (by rw[this];exact ndu)
 have hn0:∀v∈us,kfn s.heap v≠[]:=λv hv' z=>by
  have:=List.all_eq_true.mp hne _ (hv v hv').2.1
  rw[z]at this
  cases this
 refine Ts.so_call (κ:=tuples' true) (B:=λx y=>lexI (kfn s.heap x.1) (kfn s.heap y.1)) hl hz ndp (λh2 A' h' kp E' Q' q=>?_) (λA' h' kp=>ZhT (λv hv'=>(hv v hv').1) inj h' kp) λout hp hs=>?_
 ·exact Zf8 (s:={ s with heap:=h' }) (λv hv'=>(hv v hv').1.keep kp) hn0 (by omega) q
 ·have mm:∀x∈out.toList,x.1=x.2/\x.1∈us:=λx hx=>by
   have:=hp.mem_iff.mp hx
   rw[pairsOf_toList]at this
   exact mem_zip_self this
  have e2:(out.map (·.2)).toList=out.toList.map (·.1):=by
   rw[Array.toList_map]
   exact List.map_congr_left λx hx=>((mm x hx).1).symm
  have pu:(out.toList.map (·.1)).Perm us:=by
   have:=hp.map (·.1)
   rw[pairsOf_toList,List.map_fst_zip (Nat.le_refl _)]at this
   exact this
  have ek:(out.toList.map (·.1)).map (kfn s.heap)=sortI ks:=by
   refine ZdC ?_ ?_
   ·have:=pu.map (kfn s.heap)
    rw[hm]at this
    exact this
   ·rw[List.map_map]
    exact List.pairwise_map.mpr hs
  have fin:∀os:List Value,(∀u∈os,u∈us)->∃vs:List V,Vals vs os/\RTs K cm m H ((os.map (kfn s.heap)).map tupT) vs:=λos ho=>by
   induction os with
   |nil=>exact⟨[],.nil,.nil⟩
   |cons u os ih =>
    obtain⟨vs,h1,h2⟩:=ih λv hv'=>ho v (List.mem_cons_of_mem _ hv')
    obtain⟨_,_,a,rfl,r⟩:=hv u (ho u List.mem_cons_self)
    exact⟨.ref a::vs,.cons rfl h1,.cons r h2⟩
  obtain⟨vs,h1,h2⟩:=fin (out.toList.map (·.1)) λu hu=>pu.mem_iff.mp hu
  rw[ek]at h2
  have:=h (out.toList.map (·.1)) ⟨vs,h1,h2⟩
  rw[<-e2]at this
  exact this
theorem Inv.notK1{pins:List (Addr×Obj)}{σ:L2.St}{s:Shared}(I:Inv X pins σ H s):X.K.lookup (s.heap.objs.size+1)=none:=by
 cases q:X.K.lookup (s.heap.objs.size+1)with
 |none=>rfl
 |some o=>exact absurd (Heap.lt_size (I.kIn _ _ q)) (Nat.not_lt_of_le (Nat.le_succ _))
theorem Za1{pins:List (Addr×Obj)}{s:Shared}{σ:L2.St}{ts:List T}{r:T}{l:Addr}{vs:List V}(I:Inv X pins σ H s)(h1:H l=some (.lst vs))(r1:RTs X.K cm m H ts vs)(eb:Q5 ts=some r){Q:VK}(q:∀os:List T,r=.lst os->∀us:List V,RTs X.K cm m H os us->∀p,H p=none->X.K.lookup p=none->Q (.ref p) (upd H p (.lst us))):wpAny (model X.prog X.w) X.A (PySem.call (.builtin "sorted") [.ref l]) (EP X pins σ Q) X.xe s:=by
 have eb:((tups? ts).bind λks=>if ks.Nodup/\ks.length<=900000/\(ks.all λk=>!k.isEmpty)=true then some (T.lst ((sortI ks).map tupT))else none)=some r:=eb
 cases qt:tups? ts with
 |none=>rw[qt]at eb;cases eb
 |some ks =>
  rw[qt]at eb
  have eb:(if ks.Nodup/\ks.length<=900000/\(ks.all λk=>!k.isEmpty)=true then some (T.lst ((sortI ks).map tupT))else none)=some r:=eb
  by_cases hc:ks.Nodup/\ks.length<=900000/\(ks.all λk=>!k.isEmpty)=true
  case neg=>rw[if_neg hc]at eb;cases eb
  rw[if_pos hc]at eb
  obtain rfl:T.lst ((sortI ks).map tupT)=r:=Option.some.inj eb
  obtain⟨hN,hL,hne⟩:=hc
  cases Ze3 qt
  obtain⟨its,rv',pl,hz⟩:=I.list (.of h1)
  have hl:=rv'.length
  have hl2:=r1.length
  rw[List.length_map]at hl2
  have hsl:=sizeLine_eq
  refine Zfd (X:=X) (Ze5 rfl I r1 rv') pl.isList (by omega) hN hne λout ⟨us,h2,h3⟩=>?_
  obtain⟨ep,hat⟩:=sortedAll_at s.heap its out.toArray
  have hlen:=h2.length
  have hl3:=h3.length
  have hpl:(sortI ks).length=ks.length:=(sortI_perm ks).length_eq
  rw[List.length_map]at hl3
  refine⟨.ref (s.heap.objs.size+1),_,I.laid (t':=s.toks) (o:=.lst us) (a:=s.heap.objs.size+1) (λb ob q=>sortedAll_old q) (Nat.le_succ _) ?_,rfl,q _ rfl us h3 _ (I.hok.fresh (Nat.le_succ _)) (Mi.Inv.notK1 I)⟩
  refine⟨by omega,out,ep,h2,?_⟩
  simpa[seqObj]using hat
theorem Zdp:Jv X (.builtin "sorted") (rN X.K xr (fBlt .sortt)):=by
 rintro pins s σ H xs us Q I r ⟨cm,m,ws,M,rws,ho⟩
 obtain⟨w,v,t,rr,rfl,rfl,rv,e,eb,ho⟩:=blt1 rws (JD (by decide)) ho
 cases t with
 |lst ts =>
  have eb:Q5 ts=some rr:=eb
  obtain⟨a,vs,rfl,h1,r1⟩:=Zw M rv e
  obtain⟨u,rfl,ru⟩:=vals1 r
  cases ru
  exact Za1 I h1 r1 eb λos e us h3 p hp hk=>by
   subst e
   exact XM ho M h3 hp
 |_=>cases eb
theorem Zem(hg:Gl X "sorted")(hm:X.mg "sorted" = none)(ha:PA X (e::es) (tA X.K call gv xr eas))(he:notStar e=true)(hpl:es.all notStar=true):PE X (.Call (.Name "sorted" p) (e::es) [] pos) (tE X.K call gv xr (.blt .sortt eas)):=ZfH Zdp (by decide +kernel) hg hm ha (by decide) (by decide) he hpl
theorem Zdq:Jv X (.builtin "sorted") (λxs H Q=>∃cm m ts r l vs,xs=[.ref l]/\H l=some (.lst vs)/\RTs X.K cm m H ts vs/\Q5 ts=some r/\∀os:List T,r=.lst os->∀us:List V,RTs X.K cm m H os us->∀p,H p=none->X.K.lookup p=none->Q (.ref p) (upd H p (.lst us))):=by
 intro pins s σ H xs us Q I r h
 obtain⟨cm,m,ts,rr,l,vs,rfl,h1,r1,eb,q⟩:=h
 obtain⟨u,rfl,rx⟩:=vals1 r
 cases rx
 exact Za1 I h1 r1 eb q
theorem Zhr(hg:Gl X "sorted")(hm:X.mg "sorted" = none)(ha:PA X [e] (tA X.K call gv xr (.cons ea .nil)))(he:notStar e=true):PE X (.Call (.Name "sorted" p) [e] [] pos) (tE X.K call gv xr (.celb .sortt (.cons ea .nil))):=by
 refine PE.mono (ZbC Zdq hg hm (by decide +kernel) ha (by decide) (by decide) (Qn he) (JK rfl)) ?_
 rintro σ H Q ⟨env,cm,m,hE,M,ho⟩
 rw[ev]at ho
 refine⟨env,cm,m,hE,M,?_⟩
 cases q:evs call gv (.cons ea .nil) env m with
 |stuck=>rw[q]at ho;exact ho.elim
 |exc x m1=>rw[q]at ho;exact ho
 |ok ws m1 =>
  rw[q]at ho
  intro cm1 H1 x1 M1 vs rvs
  have ho:OkR X.K (match(views ws m1).bind λts=>bltT .sortt ts with
   |some (.lst ts)=>.ok (W.c m1.length) (m1++[some (false,ts)])
   |_=>.stuck) xr cm1 m1 H1 _:=OkR.shift ho x1
  cases qv:views ws m1 with
  |none=>rw[qv]at ho;exact ho.elim
  |some tt =>
   rw[qv]at ho
   have ho:OkR X.K (match bltT .sortt tt with
    |some (.lst ts)=>.ok (W.c m1.length) (m1++[some (false,ts)])
    |_=>.stuck) xr cm1 m1 H1 _:=ho
   cases qb:bltT .sortt tt with
   |none=>rw[qb]at ho;exact ho.elim
   |some r =>
    rw[qb]at ho
    obtain⟨x,rfl,ex⟩:=Zci (show one1 (ZaS Q5) tt=some r from qb)
    cases x with
    |lst ts =>
     have ex:Q5 ts=some r:=ex
     obtain⟨w,rfl,qw⟩:=ZeY qv
     cases rvs with
     |cons rv r0 =>
      cases r0
      obtain⟨a,us,rfl,h1,r1⟩:=Zw M1 rv qw
      refine⟨cm1,m1,ts,r,a,us,rfl,h1,r1,ex,λos eo vs h3 p hp hk=>?_⟩
      subst eo
      obtain⟨x3,M3,r3⟩:=J6 M1 h3 hp hk
      exact OkR.to ho x3 M3 _ r3
    |_=>cases ex
end
section
variable{K:Frag}{cm:List Addr}{m:Mem}{H:Hp}{xr:XR}{X:Cx}{call:Nat->List W->Mem->Res W}{gv:List T}
variable{e:Expr}{es:List Expr}{ea:E}{eas:Es}{pos p p2:Pos}{rest:List Stmt}{k:S}{n:Nat}
theorem ZjF{xs ts ys:List T}{t:T}(h:mutM .extend xs ts=some (t,ys)):∃us,ts=[.lst us]/\xs.length+us.length<=lim/\t=.non/\ys=xs++us:=by
 cases ts with
 |nil=>cases h
 |cons a r =>
  cases r with
  |nil =>
   cases a with
   |lst us =>
    have h:(if xs.length+us.length<=lim then some (T.non,xs++us)else none)=some (t,ys):=h
    split at h<;>cases h
    exact⟨us,rfl,‹_›,rfl,rfl⟩
   |_=>cases h
  |cons b r=>cases a<;>cases h
theorem Zey:MtR X "list.extend" (rM X.K xr .extend):=by
 rintro pins s σ H x xs v us Q I rx rs ⟨cm,m,w,ws,M,rw',rws,ho⟩
 cases w with
 |t t=>exact ho.elim
 |f a=>exact ho.elim
 |x _ _ _=>exact ho.elim
 |c i =>
  have ho:OkR X.K ((frzs ws m).bind λts m=>match m[i]? with
   |some (some (false,xs))=>match mutM .extend xs ts with
    |some (t,ys)=>.ok (W.t t) (m.set i (some (false,ys)))
    |none=>.stuck
   |_=>.stuck) xr cm m H _:=ho
  obtain⟨ts,m2,e2,o2⟩:=Jr ho
  obtain⟨x2,M2,r2⟩:=JB M rws e2
  obtain⟨a,ha,rfl⟩:=rw'
  split at o2
  ·rename_i ys e3
   split at o2
   ·rename_i t zs e4
    obtain⟨b,vs,q1,q2,q3,q4⟩:=M2.at' i _ e3
    rw[ha]at q1;cases q1
    have l4:=q4.length
    dsimp only at l4
    have hz:=Zz
    obtain⟨us',rfl,hlt,rfl,rfl⟩:=ZjF e4
    cases r2 with
    |cons r3 r0 =>
     cases r0
     obtain⟨c,ws',rfl,h3,_,r4⟩:=r3.ilst
     have l5:=r4.length
     obtain⟨x5,M5⟩:=Jt M2 e3 ha (ZG q4 r4)
     exact ZfX pins s σ H _ _ v us Q I rx rs ⟨a,c,vs,ws',rfl,rfl,q2,h3,by omega,OkR.to o2 (x2.trans x5) M5 _ .non⟩
   ·exact o2.elim
  ·exact o2.elim
theorem Zen{o:Expr}{apos cpos:Pos}(ho:PE X o (tE X.K call gv xr ea))(ha:PA X [e] (tA X.K call gv xr eas))(hbase:attributeBase o "extend" X.env (eval o X.env)=eval o X.env:=by rfl)(hline:(apos.endLine==cpos.line)=true:=by rfl)(hs:notStar e=true:=by rfl):
  PE X (.Call (.Attribute o "extend" apos) [e] [] cpos) (tE X.K call gv xr (.mth .extend ea eas)):=by
 refine PE.mono (Zjp PySem.F.plainAttrs_list PySem.F.slot_list_extend PySem.F.type_list_extend (Zey (xr:=xr)) ho ha hbase (few1 hs) hline (Qn hs) (JK rfl)) ?_
 rintro σ H Q ⟨env,cm,m,hE,M,hq⟩
 rw[ev]at hq
 refine⟨env,cm,m,hE,M,hq.bind.mono λw cm1 m1 H1 x1 M1 o1 v rv=>?_⟩
 obtain⟨ht,o1⟩:=Zbd o1
 refine⟨?_,env,cm1,m1,hE.ext x1 M M1,M1,o1.bind.mono λws cm2 m2 H2 x2 M2 o2 vs rvs=>?_⟩
 ·cases w with
  |t t=>cases ht
  |f a=>cases ht
  |x _ _ _=>cases ht
  |c i =>
   obtain⟨a,h1,rfl⟩:=rv
   have ht:(match m1[i]? with
    |some (some _)=>true
    |_=>false)=true:=ht
   split at ht
   ·rename_i c e1
    obtain⟨b,vs,q1,q2,_⟩:=M1.at' i _ e1
    rw[h1]at q1;cases q1
    exact .inl ⟨rfl,vs,.of q2⟩
   ·cases ht
 ·exact⟨cm2,m2,w,ws,M2,rv.ext x2 M1 M2,rvs,o2⟩
theorem ZiT{bs ys:List (List Nat)}(hp:(ys.map λc=>(⟨c.toArray⟩:Str)).Perm (dl (bs.map λc=>(⟨c.toArray⟩:Str))))(hs:sortedS (ys.map λc=>(⟨c.toArray⟩:Str))=true):ys=ZM bs:=by
 have hw:ys.Pairwise (λa b=>nlt b a=false):=by
  cases ys with
  |nil=>exact .nil
  |cons y ys=>exact Zfs ys y hs
 have hn:ys.Nodup:=by
  have h1:(ys.map λc=>(⟨c.toArray⟩:Str)).Nodup:=hp.nodup_iff.mpr (dl_nd _)
  exact(List.pairwise_map.mp h1).imp λ{a b} h e=>h (by rw[e])
 have hq:∀(l:List (List Nat)) c,c∈l↔(⟨c.toArray⟩:Str)∈l.map λc=>(⟨c.toArray⟩:Str):=λl c=>by
  constructor
  ·exact λh=>List.mem_map.mpr ⟨c,h,rfl⟩
  ·intro h
   obtain⟨d,hd,e⟩:=List.mem_map.mp h
   rw[<-ZjI e]
   exact hd
 have hm:∀c,c∈ys↔c∈ZM bs:=λc=>by
  rw[Jy,hq ys,hq bs,hp.mem_iff,dl_mem]
 have hpm:ys.Perm (ZM bs):=(List.perm_ext_iff_of_nodup hn (Za2 bs)).mpr hm
 exact List.Perm.eq_of_pairwise (λa b _ _ h1 h2=>ZbF h2 h1) hw ((Xc bs).imp λ{a b} h=>ZjE h) hpm
theorem Zcb{elt target iter:Expr}{ifs:List Expr}{gs:List Comprehension}{scope:Scope}{N':List Str}{own:Nat}{keep:List Nat}{it:E}{tg:Tg}{cs:Es}(hc:X.calm=true)(hg1:Gl X "sorted")(hm1:X.mg "sorted" = none)(k:CompK X xr0 call gv N' scope own keep elt target iter ifs gs it tg cs (.emit ea)):
  PE X (.Call (.Name "sorted" p) [.SetComp elt (⟨target,iter,ifs,0⟩::gs) scope p2] [] pos) (tE X.K call gv xr (.blt .sortset (.cons (.comp own keep it tg cs (.emit ea)) .nil))):=by
 rintro pins s σ H Q I ⟨env,cm,m,hE,M,ho⟩
 rw[ev]at ho
 refine wpAny_Call_Name_kw (Zba I hg1 hm1 (show bootBuiltins "sorted" = some (.builtin "sorted")from by decide +kernel) ?_ (by decide) (by decide))
 refine PyProof.Rows.callWith_builtin1 ?_ rfl rfl
 show wpAny _ _ (spliced ((false,eval (.SetComp elt (⟨target,iter,ifs,0⟩::gs) scope p2) X.env)::backTo pos [])) _ _ s
 refine Calls.spliced_cons ?_
 cases h:ev call gv (.comp own keep it tg cs (.emit ea)) env m with
 |stuck =>
  rw[evs,h]at ho
  exact ho.elim
 |exc e m'=>exact absurd h (Xo e m')
 |ok w m' =>
  obtain⟨out,rfl⟩:=ZaA h
  rw[evs,h]at ho
  have ho:OkR X.K (pur ((views [W.t (.lst out)] m').bind λts=>bltT .sortset ts) m') xr cm m H _:=ho
  have ho:OkR X.K (pur ((strs? out).bind λxs=>if xs.length<64 then some (T.lst ((ZM xs).map .str))else none) m') xr cm m H _:=ho
  cases q:strs? out with
  |none=>rw[q]at ho;exact ho.elim
  |some bs =>
   rw[q]at ho
   have ho:OkR X.K (pur (if bs.length<64 then some (T.lst ((ZM bs).map .str))else none) m') xr cm m H _:=ho
   split at ho
   ·rename_i h64
    have ho:OkR X.K (Res.ok (W.t (T.lst ((ZM bs).map .str))) m') xr cm m H _:=ho
    obtain⟨hst,hsl⟩:=ZdA q
    rw[arm_eval_SetComp]
    refine ZeG hc k.sc k.hown k.hkeep (λx hx e=>by rw[k.sc.look x hx,e]) k.pi k.fs k.ins k.dis k.slt I hE M (by omega) hst h ?_
    rintro D C s3 H3 cm3 vs I3 ⟨ss,rfl,hS⟩ x3 M3 r3 ⟨mm,hm⟩ fC nDC
    refine⟨mm,hm,λh' hs'=>?_⟩
    have I4:Inv X pins σ H3 { s3 with heap:=h' }:=I3.turned (t':=s3.toks) (it:=C) (λb o hb e=>(hs'.2 b hb).trans e) fC.1 fC.2.1 fC.2.2.2.1 fC.2.2.2.2.1 fC.2.2.2.2.2
    have e1:=RTs.strs r3 q
    have e2:ss=bs.map λc=>(⟨c.toArray⟩:Str):=by
     have e3:ss.map V.str=(bs.map λc=>(⟨c.toArray⟩:Str)).map V.str:=by rw[e1,List.map_map];rfl
     exact(List.map_inj_right (λa b e=>by injection e)).mp e3
    subst e2
    have hS:SetS X.prog X.w (Zc9 X.w) h' D (dl (bs.map λc=>(⟨c.toArray⟩:Str))):=hS.at' λo e=>(hs'.2 D nDC).trans e
    have hlen:=ZiC (bs.map λc=>(⟨c.toArray⟩:Str))
    rw[List.length_map]at hlen
    have hA:X.A.handled=none:=I4.ok.hd hc
    refine wpAny_pure ?_
    refine Zd7 (s:={ s3 with heap:=h' }) hA hS (by omega) λh2 tk2 d l out ss' ep hso hperm hsort hat hle kp2 ht=>?_
    obtain⟨ys,rfl,hv⟩:=Ze9 hso
    have ey:=ZiT hperm hsort
    subst ey
    have hvl:=hv.length
    have hsl:=sizeLine_eq
    have hpl:(ZM bs).length<=bs.length:=by
     have:=hperm.length_eq
     rw[List.length_map]at this
     omega
    have I5:Inv X pins σ (upd H3 l (.lst ((ZM bs).map λc=>V.str ⟨c.toArray⟩))) { s3 with heap:=h2,toks:=tk2 }:=
     I4.laid (t':=tk2) (o:=.lst ((ZM bs).map λc=>V.str ⟨c.toArray⟩)) kp2 hle ⟨by rw[List.length_map];omega,out,ep,hv,by simpa[seqObj]using hat⟩
    have hp:=I4.hok.fresh hle
    exact⟨.ref l,_,Inv.redraw I5,rfl,OkR.to ho (x3.trans (.new hp)) (M3.new hp) _ (RT.newLst M3 (ZiN _) hp)⟩
   ·exact ho.elim
theorem pg_lst{es:List Expr}{k:Nat}{t:TGs}{n:Nat}(hc:X.calm=true)(h:PGs X es t)(hn:(assignEach es X.env).length=n:=by rfl)(hst:(assignEach es X.env).findIdx? (·.1)=none:=by rfl):PG X (.Tuple es k pos) (λv σ H Q=>∃a xs,v=.ref a/\H a=some (.lst xs)/\xs.length=n/\t xs σ H Q):=by
 intro pins s σ H v u Q I r hw
 obtain⟨a,xs,e1,hq,hl,hw⟩:=hw
 subst e1
 cases r
 obtain⟨its,rv,ht,hz⟩:=I.list (.of hq)
 have hlen:=rv.length
 rw[assign_Tuple]
 refine wpAny_bind (wpAny_standAt ?_)
 unfold unpack
 rw[hn,hst,show n=its.toArray.size by simp;omega]
 refine wpAny_bind (wpAny_holding (PySem.W.kun_itemsOf (I.ok.hd hc) ht.isList λh' hx=>?_))
 have I1:Inv X pins σ H { s with heap:=h' }:=I.kept (t':=s.toks) λb o e=>hx b o (Nat.ne_of_lt (Heap.lt_size e)) e
 exact h pins _ σ H xs _ Q I1 (by simpa using rv) hw
noncomputable def gLs(is:List Nat):TG:=λv σ H Q=>∃a xs,v=.ref a/\H a=some (.lst xs)/\xs.length=is.length/\Q (setAll is xs σ) H
theorem Zho(i0:Nat)(i1:Nat)(i2:Nat){x0 x1 x2:Str}{p0 p1 p2:Pos}{kk:Nat}(hc:X.calm=true)(hN:X.N.Nodup)(hi0:X.N[i0]?=some x0:=by rfl)(hi1:X.N[i1]?=some x1:=by rfl)(hi2:X.N[i2]?=some x2:=by rfl)(hx0:Loc X.env.scope x0:=by first|exact Or.inl rfl|exact Or.inr rfl)(hx1:Loc X.env.scope x1:=by first|exact Or.inl rfl|exact Or.inr rfl)(hx2:Loc X.env.scope x2:=by first|exact Or.inl rfl|exact Or.inr rfl)(hf0:X.fn x0=true∨X.env.scope.names.lookup x0=some .local:=by first|exact .inl rfl|exact .inr rfl)(hf1:X.fn x1=true∨X.env.scope.names.lookup x1=some .local:=by first|exact .inl rfl|exact .inr rfl)(hf2:X.fn x2=true∨X.env.scope.names.lookup x2=some .local:=by first|exact .inl rfl|exact .inr rfl)(hs0:(assignEach [.Name x0 p0,.Name x1 p1,.Name x2 p2] X.env).map (·.2)=assign (.Name x0 p0) X.env::(assignEach [.Name x1 p1,.Name x2 p2] X.env).map (·.2):=by rfl)(hs1:(assignEach [.Name x1 p1,.Name x2 p2] X.env).map (·.2)=assign (.Name x1 p1) X.env::(assignEach [.Name x2 p2] X.env).map (·.2):=by rfl)(hs2:(assignEach [.Name x2 p2] X.env).map (·.2)=assign (.Name x2 p2) X.env::(assignEach [] X.env).map (·.2):=by rfl)(hn:(assignEach [.Name x0 p0,.Name x1 p1,.Name x2 p2] X.env).length=3:=by rfl)(hst:(assignEach [.Name x0 p0,.Name x1 p1,.Name x2 p2] X.env).findIdx? (·.1)=none:=by rfl):PG X (.Tuple [.Name x0 p0,.Name x1 p1,.Name x2 p2] kk pos) (gLs [i0,i1,i2]):=by
 rintro pins s σ H v u Q I r ⟨a,xs,e1,h1,h2,h3⟩
 refine pg_lst hc (QB (QZ hN hi0 hx0 hf0) (QB (QZ hN hi1 hx1 hf1) (QB (QZ hN hi2 hx2 hf2) ZcX hs2) hs1) hs0) hn hst pins s σ H v u Q I r ⟨a,xs,e1,h1,h2,?_⟩
 rcases xs with _|⟨v0,_|⟨v1,_|⟨v2,_|⟨v3,r⟩⟩⟩⟩
 ·cases h2
 ·cases h2
 ·cases h2
 ·exact⟨v0,[v1,v2],rfl,v1,[v2],rfl,v2,[],rfl,rfl,h3⟩
 ·cases h2
theorem Zfy{tg:Expr}{is:List Nat}(hN:∀i∈is,i<n)(h:PE X e (tE X.K call gv xr ea))(hg:PG X tg (gLs is))(hk:PSs X rest (tS X.K call gv xr n k))(hs:swapsWithSole [tg] e pos.line X.env=pure false:=by rfl)(hw:swappedStores [tg] e X.env=pure none:=by rfl)(h1:(assignEach [tg] X.env).map (·.2)=[assign tg X.env]:=by rfl):PSs X (.Assign [tg] e pos::rest) (tS X.K call gv xr n (.asgL is ea k)):=by
 refine PSs.mono (Ql (Zig h hg hs hw h1) hk) ?_
 rintro D σ H ⟨hl,env,cm,m,hE,M,ho⟩
 rw[ex]at ho
 refine⟨env,cm,m,hE,M,ho.bind.mono λw cm1 m1 H1 x1 M1 o1 v rv=>?_⟩
 cases w with
 |f a=>exact o1.elim
 |x _ _ _=>exact o1.elim
 |c i=>exact o1.elim
 |t t =>
  cases t with
  |lst ts =>
   have o1:OkR X.K (match Z7 (.tp is) (.tup ts) env with
    |some env=>ex call gv k env m1
    |none=>.stuck) xr cm1 m1 H1 _:=o1
   have eb:Z7 (.tp is) (.tup ts) env=if ts.length=is.length then some ((is.zip ts).foldl (λenv p=>env.set p.1 (some (.t p.2))) env)else none:=rfl
   by_cases hlen:ts.length=is.length
   ·rw[eb,if_pos hlen]at o1
    obtain⟨a,vs,rfl,h2,_,r2⟩:=RT.ilst rv
    exact⟨a,vs,rfl,h2,by rw[<-r2.length];exact hlen,(QX _ _ _).trans hl,_,cm1,m1,EnvR.setAll (hE.ext x1 M M1) r2 (λj hj=>by rw[hl];exact hN j hj),M1,o1⟩
   ·rw[eb,if_neg hlen]at o1
    exact o1.elim
  |_=>exact o1.elim
end
end Mi
end
namespace My
open Mi
noncomputable def ZaH:S:=(.ret (.ix (.ix (.var 0) (.con (.int 1))) (.con (.int 1))) .done)
noncomputable def Zcq:E:=(.emit (.var 0))
noncomputable def XJ:E:=(.comp 3 [0] (.var 1) (.tp [0,1,2]) (.cons (.cmp .Eq (.ix (.var 1) (.con (.int 0))) (.var 3)) .nil) Zcq)
noncomputable def Zcp:E:=(.emit XJ)
noncomputable def Zcy:E:=(.comp 1 [2] (.gl 0) (.nm 0) .nil Zcp)
noncomputable def Zco:E:=(.emit (.var 0))
noncomputable def XH:E:=(.comp 1 [0] (.var 1) (.nm 0) (.cons (.cmp .Eq (.call 0 (.cons (.ix (.var 0) (.con (.int 1))) .nil)) (.var 1)) .nil) Zco)
noncomputable def QS:S:=(.asg 2 XH (.ret Zcy .done))
noncomputable def Zdd:E:=(.emit (.call 0 (.cons (.ix (.var 0) (.con (.int 1))) .nil)))
noncomputable def JC:E:=(.comp 1 [] (.var 1) (.nm 0) .nil Zdd)
noncomputable def Zdc:E:=(.more (.var 3) (.nm 2) .nil (.emit (.tup (.cons (.var 0) (.cons (.var 1) (.cons (.var 2) .nil))))))
noncomputable def ZaE:E:=(.comp 3 [6] (.var 7) (.tp [0,1]) .nil Zdc)
noncomputable def Zdb:E:=(.more (.var 2) (.nm 1) .nil (.emit (.tup (.cons (.var 0) (.cons (.var 1) .nil)))))
noncomputable def ZaD:E:=(.comp 2 [5] (.var 4) (.nm 0) .nil Zdb)
noncomputable def Qq:S:=(.asgL [4,5,6] (.call 1 (.cons (.var 3) (.cons (.var 1) .nil))) (.asg 7 ZaD (.ife (.cmp .In (.var 3) (.var 0)) (.expr (.mth .extend (.var 2) (.cons ZaE .nil)) .done) (.expr (.mth .extend (.var 2) (.cons (.var 7) .nil)) .done) .done)))
noncomputable def Ji:S:=(.asg 2 (.cel .nil) (.forr (.nm 3) (.blt .sortset (.cons JC .nil)) Qq (.ret (.celb .sortt (.cons (.var 2) .nil)) .done)))
noncomputable def QV:S:=(.ife (.cmp .Lt (.var 1) (.blt .len (.cons (.var 0) .nil))) (.ret (.ix (.var 0) (.var 1)) .done) .done (.ret (.con (.int 0)) .done))
noncomputable def ZaI:S:=(.ret (.cel (.cons (.bin .Mult (.var 0) (.blt .int (.cons (.cmp .GtE (.var 0) (.bin .Pow (.con (.int 10)) (.con (.int 18)))) .nil))) (.cons (.bin .Mod (.var 0) (.con (.int 2147483647))) (.cons (.con (.int 0)) .nil)))) .done)
noncomputable def ZaM:S:=(.ife (.cmp .Gt (.ix (.var 0) (.con (.int 0))) (.con (.int 0))) (.asg 2 (.bin .Mod (.ix (.var 0) (.con (.int 0))) (.var 1)) (.set (.var 0) (.con (.int 0)) (.bin .FloorDiv (.ix (.var 0) (.con (.int 0))) (.var 1)) (.ret (.var 2) .done))) .done (.set (.var 0) (.con (.int 2)) (.bin .Add (.ix (.var 0) (.con (.int 2))) (.con (.int 1))) (.asg 3 (.bin .Mod (.bin .Mult (.bin .Add (.bin .Add (.ix (.var 0) (.con (.int 1))) (.bin .Mult (.con (.int 7919)) (.ix (.var 0) (.con (.int 2))))) (.con (.int 1))) (.con (.int 48271))) (.con (.int 2147483647))) (.asg 3 (.bin .Mod (.bin .Mult (.var 3) (.bin .Add (.bin .FloorDiv (.var 3) (.con (.int 1009))) (.con (.int 69621)))) (.con (.int 2147483647))) (.ret (.bin .Mod (.bin .Mod (.bin .Mult (.var 3) (.bin .Add (.bin .FloorDiv (.var 3) (.con (.int 2003))) (.con (.int 40692)))) (.con (.int 2147483399))) (.var 1)) .done)))))
noncomputable def ZaK:S:=(.ret (.ix (.var 1) (.call 5 (.cons (.var 0) (.cons (.blt .len (.cons (.var 1) .nil)) .nil)))) .done)
noncomputable def ZaL:S:=(.asg 1 (.lst (.cons (.con (.str [97])) (.cons (.con (.str [97,98])) (.cons (.con (.str [98])) (.cons (.con (.str [97,110,121,97])) (.cons (.con (.str [105,115,108,97,110,100])) (.cons (.con (.str [97,98,99])) (.cons (.con (.str [122])) (.cons (.con (.str [98,121,98,121,101])) (.cons (.con (.str [111,114,100,101,114])) (.cons (.con (.str [110,111,116,101,115])) (.cons (.con (.str [99])) (.cons (.con (.str [122,122,122,122,122,122,122,122])) .nil))))))))))))) (.ret (.ix (.var 1) (.bin .Mod (.var 0) (.con (.int 12)))) .done))
noncomputable def Jk:S:=(.ret (.ix (.lst (.cons (.call 5 (.cons (.var 0) (.cons (.con (.int 6)) .nil))) (.cons (.call 5 (.cons (.var 0) (.cons (.con (.int 6)) .nil))) (.cons (.bin .Sub (.bin .Pow (.con (.int 10)) (.con (.int 9))) (.call 5 (.cons (.var 0) (.cons (.con (.int 3)) .nil)))) .nil)))) (.call 5 (.cons (.var 0) (.cons (.con (.int 3)) .nil)))) .done)
noncomputable def J1:E:=(.emit (.tup (.cons (.var 0) (.cons (.call 8 (.cons (.var 1) .nil)) .nil))))
noncomputable def ZcB:E:=(.comp 1 [0] (.lst (.cons (.con (.str [112,114,105,99,101])) (.cons (.con (.str [119,105,100,101])) .nil))) (.nm 0) (.cons (.cmp .Eq (.call 5 (.cons (.var 1) (.cons (.con (.int 2)) .nil))) (.con (.int 1))) .nil) J1)
noncomputable def JZ:E:=(.emit (.var 0))
noncomputable def ZaG:E:=(.comp 1 [0] (.lst (.cons (.con (.str [102,114,101,115,104])) (.cons (.con (.str [111,108,100])) (.cons (.con (.str [111,108,100,115])) .nil)))) (.nm 0) (.cons (.cmp .Eq (.call 5 (.cons (.var 1) (.cons (.con (.int 2)) .nil))) (.con (.int 1))) .nil) JZ)
noncomputable def ZaN:S:=(.asg 3 (.blt .tuple (.cons ZaG .nil)) (.asg 4 (.blt .tuple (.cons ZcB .nil)) (.ret (.tup (.cons (.var 1) (.cons (.var 2) (.cons (.var 3) (.cons (.var 4) .nil))))) .done)))
noncomputable def Zav:E:=(.emit (.call 10 (.cons (.var 1) (.cons (.bin .Sub (.var 2) (.con (.int 1))) .nil))))
noncomputable def Zcz:E:=(.comp 1 [0,1] (.blt .range1 (.cons (.var 3) .nil)) (.nm 0) .nil Zav)
noncomputable def JF:S:=(.asg 2 (.call 5 (.cons (.var 0) (.cons (.bin .Add (.con (.int 6)) (.bin .Mult (.con (.int 3)) (.blt .int (.cons (.cmp .Gt (.var 1) (.con (.int 0))) .nil)))) .nil))) (.ife (.cmp .Lt (.var 2) (.con (.int 2))) (.ret (.tup (.cons (.con (.str [97,110,121])) .nil)) .done) .done (.ife (.cmp .Eq (.var 2) (.con (.int 2))) (.ret (.tup (.cons (.con (.str [105,115])) (.cons (.call 6 (.cons (.var 0) (.cons (.lst (.cons (.con (.str [102,114,101,115,104])) (.cons (.con (.str [111,108,100])) (.cons (.con (.str [111,108,100,115])) (.cons (.con (.str [110,101,119])) .nil))))) .nil))) .nil))) .done) .done (.ife (.cmp .Eq (.var 2) (.con (.int 3))) (.ret (.tup (.cons (.con (.str [98,121])) (.cons (.call 7 (.cons (.call 5 (.cons (.var 0) (.cons (.con (.int 12)) .nil))) .nil)) .nil))) .done) .done (.ife (.cmp .Lt (.var 2) (.con (.int 6))) (.ret (.tup (.cons (.ix (.lst (.cons (.con (.str [108,101,97,115,116])) (.cons (.con (.str [109,111,115,116])) .nil))) (.bin .Sub (.var 2) (.con (.int 4)))) (.cons (.call 6 (.cons (.var 0) (.cons (.lst (.cons (.con (.str [112,114,105,99,101])) (.cons (.con (.str [119,105,100,101])) (.cons (.con (.str [102,97,114])) .nil)))) .nil))) (.cons (.call 8 (.cons (.var 0) .nil)) .nil)))) .done) .done (.ife (.cmp .Eq (.var 2) (.con (.int 6))) (.ret (.tup (.cons (.con (.str [110,111,116])) (.cons (.call 10 (.cons (.var 0) (.cons (.bin .Sub (.var 1) (.con (.int 1))) .nil))) .nil))) .done) .done (.asg 3 (.bin .Add (.con (.int 2)) (.call 5 (.cons (.var 0) (.cons (.con (.int 2)) .nil)))) (.ret (.tup (.cons (.ix (.lst (.cons (.con (.str [97,110,100])) (.cons (.con (.str [111,114])) .nil))) (.bin .Sub (.var 2) (.con (.int 7)))) (.cons (.blt .tuple (.cons Zcz .nil)) .nil))) .done))))))))
noncomputable def Zae:S:=(.asg 5 (.ix (.lst (.cons (.bin .Add (.con (.int 1)) (.call 5 (.cons (.var 0) (.cons (.con (.int 9)) .nil)))) (.cons (.bin .Add (.con (.int 1)) (.call 5 (.cons (.var 0) (.cons (.con (.int 9)) .nil)))) (.cons (.bin .Add (.con (.int 1)) (.call 5 (.cons (.var 0) (.cons (.bin .Pow (.con (.int 10)) (.con (.int 6))) .nil)))) .nil)))) (.call 5 (.cons (.var 0) (.cons (.con (.int 3)) .nil)))) (.asg 6 (.ix (.lst (.cons (.con (.int 1)) (.cons (.bin .Add (.con (.int 1)) (.call 5 (.cons (.var 0) (.cons (.var 5) .nil)))) (.cons (.var 5) .nil)))) (.call 5 (.cons (.var 0) (.cons (.con (.int 3)) .nil)))) (.asg 7 (.ix (.lst (.cons (.tup (.cons (.con (.str [97,110,121])) .nil)) (.cons (.call 10 (.cons (.var 0) (.cons (.con (.int 2)) .nil))) .nil))) (.call 5 (.cons (.var 0) (.cons (.con (.int 2)) .nil)))) (.asg 8 (.ix (.lst (.cons (.call 5 (.cons (.var 0) (.cons (.con (.int 3)) .nil))) (.cons (.call 5 (.cons (.var 0) (.cons (.con (.int 1001)) .nil))) .nil))) (.call 5 (.cons (.var 0) (.cons (.con (.int 2)) .nil)))) (.ret (.tup (.cons (.var 1) (.cons (.call 9 (.cons (.var 0) (.cons (.var 2) (.cons (.var 3) .nil)))) (.cons (.var 7) (.cons (.var 5) (.cons (.var 6) (.cons (.var 8) (.cons (.var 4) .nil)))))))) .done)))))
noncomputable def Zgg:E:=(.emit (.tup (.cons (.var 1) (.cons (.var 2) (.cons (.var 0) .nil)))))
noncomputable def ZaF:E:=(.comp 1 [3,6] (.var 10) (.nm 0) .nil Zgg)
noncomputable def Zgf:E:=(.emit (.var 0))
noncomputable def ZcA:E:=(.comp 3 [9] (.var 1) (.tp [0,1,2]) (.cons (.cmp .Eq (.tup (.cons (.ix (.var 1) (.con (.int 0))) (.cons (.ix (.ix (.var 1) (.con (.int 1))) (.con (.int 1))) .nil))) (.tup (.cons (.con (.str [98,101,97,114])) (.cons (.var 3) .nil)))) .nil) Zgf)
noncomputable def Qs:S:=(.asg 9 (.ix (.ix (.var 4) (.con (.int 1))) (.con (.int 1))) (.ife (.and (.cmp .Eq (.tup (.cons (.ix (.var 4) (.con (.int 0))) (.cons (.ix (.var 7) (.con (.int 0))) .nil))) (.tup (.cons (.con (.str [103,105,118,101])) (.cons (.con (.str [116,97,107,101])) .nil)))) (.cmp .Eq (.var 9) (.ix (.ix (.var 7) (.con (.int 1))) (.con (.int 1))))) (.asg 10 ZcA (.ife (.cmp .In (.var 9) (.var 0)) (.asg 2 (.celA (.var 2) ZaF) .done) (.expr (.mth .append (.var 2) (.cons (.tup (.cons (.var 3) (.cons (.var 6) .nil))) .nil)) .done) .done)) .done .done))
noncomputable def Jc:S:=(.forr (.tp [6,7,8]) (.var 1) Qs .done)
noncomputable def ZaJ:S:=(.asg 2 (.cel .nil) (.forr (.tp [3,4,5]) (.var 1) Jc (.ret (.blt .sortt (.cons (.var 2) .nil)) .done)))
noncomputable def Xa:S:=(.ret (.ix (.lst (.cons (.tup .nil) (.cons (.tup .nil) (.cons (.tup (.cons (.con (.str [114,121,101])) .nil)) (.cons (.tup (.cons (.con (.str [111])) (.cons (.con (.str [114,121,101])) .nil))) (.cons (.tup (.cons (.con (.str [111,97,116])) (.cons (.con (.str [114,121,101])) (.cons (.con (.str [111])) (.cons (.con (.str [119,104,101,97,116])) .nil))))) .nil)))))) (.call 5 (.cons (.var 0) (.cons (.con (.int 5)) .nil)))) .done)
noncomputable def Qe:S:=(.asg 7 (.call 6 (.cons (.var 0) (.cons (.lst (.cons (.con (.str [103,105,118,101])) (.cons (.con (.str [116,97,107,101])) (.cons (.con (.str [103,105,118,101])) (.cons (.con (.str [116,97,107,101])) (.cons (.con (.str [98,101,97,114])) .nil)))))) .nil))) (.asg 8 (.ix (.lst (.cons (.con (.str [114,121,101])) (.cons (.con (.str [111,97,116])) (.cons (.con (.str [111])) .nil)))) (.call 5 (.cons (.var 0) (.cons (.bin .Add (.con (.int 1)) (.var 5)) .nil)))) (.asg 9 (.call 7 (.cons (.bin .Add (.var 3) (.bin .Mult (.var 6) (.blt .int (.cons (.cmp .Gt (.call 5 (.cons (.var 0) (.cons (.con (.int 16)) .nil))) (.con (.int 0))) .nil)))) .nil)) (.asg 10 (.call 11 (.cons (.var 0) (.cons (.var 7) (.cons (.var 9) (.cons (.var 8) (.cons (.call 5 (.cons (.var 0) (.cons (.con (.int 9)) .nil))) .nil)))))) (.ife (.and (.cmp .NotEq (.var 2) (.lst .nil)) (.cmp .Eq (.call 5 (.cons (.var 0) (.cons (.con (.int 12)) .nil))) (.con (.int 0)))) (.asg 10 (.ix (.ix (.var 2) (.neg (.con (.int 1)))) (.con (.int 1))) .done) .done (.asg 11 (.ix (.lst (.cons (.ix (.var 10) (.con (.int 3))) (.cons (.bin .Add (.con (.int 1)) (.call 5 (.cons (.var 0) (.cons (.ix (.var 10) (.con (.int 3))) .nil)))) .nil))) (.call 5 (.cons (.var 0) (.cons (.con (.int 2)) .nil)))) (.expr (.mth .append (.var 2) (.cons (.tup (.cons (.var 4) (.cons (.var 10) (.cons (.var 11) .nil)))) .nil)) (.asg 4 (.bin .Add (.bin .Add (.var 4) (.con (.int 1))) (.call 5 (.cons (.var 0) (.cons (.con (.int 4)) .nil)))) .done))))))))
noncomputable def QT:S:=(.asg 2 (.cel .nil) (.asg 3 (.call 5 (.cons (.var 0) (.cons (.con (.int 12)) .nil))) (.asg 4 (.call 5 (.cons (.var 0) (.cons (.con (.int 5)) .nil))) (.asg 5 (.call 5 (.cons (.var 0) (.cons (.con (.int 3)) .nil))) (.forr (.nm 6) (.blt .range1 (.cons (.call 5 (.cons (.var 0) (.cons (.bin .Add (.var 1) (.con (.int 1))) .nil))) .nil)) Qe (.ret (.var 2) .done))))))
noncomputable def Z8:S:=(.expr (.mth .append (.var 3) (.cons (.mth .popat (.var 2) (.cons (.call 5 (.cons (.var 0) (.cons (.blt .len (.cons (.var 2) .nil)) .nil))) .nil)) .nil)) .done)
noncomputable def Jj:S:=(.asg 2 (.celL (.var 1)) (.asg 3 (.cel .nil) (.whil (.cmp .NotEq (.var 2) (.lst .nil)) Z8 (.ret (.var 3) .done))))
noncomputable def ZjU:E:=(.emit (.var 0))
noncomputable def ZgH:E:=(.comp 1 [] (.var 5) (.nm 0) (.cons (.cmp .NotEq (.ix (.ix (.var 0) (.con (.int 1))) (.con (.int 0))) (.con (.str [98,101,97,114]))) .nil) ZjU)
noncomputable def ZjT:E:=(.emit (.var 0))
noncomputable def ZgG:E:=(.comp 1 [] (.var 11) (.nm 0) (.cons (.cmp .NotEq (.blt .len (.cons (.var 0) .nil)) (.con (.int 3))) .nil) ZjT)
noncomputable def ZjS:E:=(.emit (.var 0))
noncomputable def ZgF:E:=(.comp 1 [] (.var 10) (.nm 0) (.cons (.not (.isi (.var 0) .tuple)) .nil) ZjS)
noncomputable def Xj:S:=(.asg 8 (.call 15 (.cons (.var 3) (.cons (.var 5) .nil))) (.asg 9 (.blt .list (.cons (.var 8) .nil)) (.asg 10 (.call 2 (.cons (.var 4) (.cons (.var 9) .nil))) (.ife (.or (.not (.isi (.var 10) .list)) (.or (.cmp .NotEq (.var 10) (.var 6)) (.cmp .NotEq (.var 9) (.var 8)))) (.ret (.con (.bl false)) .done) .done (.ife (.cmp .NotEq ZgF (.lst .nil)) (.ret (.con (.bl false)) .done) .done (.expr (.mth .append (.var 10) (.cons (.con .non) .nil)) .done))))))
noncomputable def ZbJ:S:=(.asg 3 (.call 4 (.cons (.var 2) .nil)) (.asg 4 (.call 13 (.cons (.var 3) .nil)) (.asg 5 (.call 14 (.cons (.var 3) (.cons (.ix (.lst (.cons (.con (.int 12)) (.cons (.con (.int 30)) .nil))) (.blt .int (.cons (.and (.cmp .Eq (.var 1) (.con (.int 0))) (.cmp .Eq (.call 5 (.cons (.var 3) (.cons (.con (.int 8)) .nil))) (.con (.int 7)))) .nil))) .nil))) (.asg 6 (.call 12 (.cons (.var 4) (.cons (.var 5) .nil))) (.forr (.nm 7) (.blt .range1 (.cons (.con (.int 2)) .nil)) Xj (.asg 11 (.call 2 (.cons (.tup (.cons (.con (.str [111])) (.cons (.con (.str [111,97,116])) (.cons (.con (.str [114,121,101])) .nil)))) (.cons (.var 5) .nil))) (.ife (.or (.cmp .NotEq ZgG (.lst .nil)) (.cmp .NotEq (.call 2 (.cons (.tup .nil) (.cons (.slc (.var 5) .hole (.con (.int 1))) .nil))) (.lst .nil))) (.ret (.con (.bl false)) .done) .done (.asg 12 ZgH (.ife (.cmp .NotEq (.call 2 (.cons (.tup .nil) (.cons (.var 12) .nil))) (.call 2 (.cons (.tup .nil) (.cons (.var 5) .nil)))) (.ret (.con (.bl false)) .done) .done .done)))))))))
noncomputable def ZeR:S:=(.forr (.tp [1,2]) (.blt .enum (.cons (.tr (.bin .Add (.lst (.cons (.call 3 (.cons (.var 0) (.cons (.con (.int 0)) .nil))) .nil)) (.slc (.var 0) (.con (.int 1)) (.con (.int 8))))) .nil)) ZbJ (.ret (.con (.bl true)) .done))
noncomputable def fns:List Fn:=[⟨1,1,ZaH,false⟩,⟨2,3,QS,false⟩,⟨2,8,Ji,true⟩,⟨2,2,QV,false⟩,⟨1,1,ZaI,true⟩,⟨2,4,ZaM,false⟩,⟨2,2,ZaK,false⟩,⟨1,2,ZaL,false⟩,⟨1,1,Jk,false⟩,⟨3,5,ZaN,false⟩,⟨2,4,JF,false⟩,⟨5,9,Zae,false⟩,⟨2,11,ZaJ,false⟩,⟨1,1,Xa,false⟩,⟨2,12,QT,false⟩,⟨2,4,Jj,false⟩,⟨1,13,ZeR,false⟩]
noncomputable def gv:List T:=[(.tup [(.str [103,105,118,101]),(.str [116,97,107,101]),(.str [98,101,97,114])])]
noncomputable abbrev cf:=J8 fns gv
noncomputable abbrev CF(k:Nat)(b:S)(p q:Nat)(c:Bool):Prop:=∀(n:Nat) (ws:List W) (m:Mem),cf (n+1) k ws m=if ws.length=p then(ex (cf n) gv b (ws.map some++List.replicate (q-p) none) m).bind λfl m'=>fin m.length c fl m' else .stuck
theorem ZeK:CF 0 ZaH 1 1 false:=λ_ _ _=>rfl
theorem Zdl:CF 1 QS 2 3 false:=λ_ _ _=>rfl
theorem ZeJ:CF 2 Ji 2 8 true:=λ_ _ _=>rfl
theorem Zdn:CF 3 QV 2 2 false:=λ_ _ _=>rfl
theorem ZhV:CF 4 ZaI 1 1 true:=λ_ _ _=>rfl
theorem ZhZ:CF 5 ZaM 2 4 false:=λ_ _ _=>rfl
theorem ZhX:CF 6 ZaK 2 2 false:=λ_ _ _=>rfl
theorem ZhY:CF 7 ZaL 1 2 false:=λ_ _ _=>rfl
theorem ZeM:CF 8 Jk 1 1 false:=λ_ _ _=>rfl
theorem Zh0:CF 9 ZaN 3 5 false:=λ_ _ _=>rfl
theorem ZdW:CF 10 JF 2 4 false:=λ_ _ _=>rfl
theorem Zgy:CF 11 Zae 5 9 false:=λ_ _ _=>rfl
theorem ZhW:CF 12 ZaJ 2 11 false:=λ_ _ _=>rfl
theorem Zgz:CF 13 Xa 1 1 false:=λ_ _ _=>rfl
theorem Zdm:CF 14 QT 2 12 false:=λ_ _ _=>rfl
theorem ZeL:CF 15 Jj 2 4 false:=λ_ _ _=>rfl
theorem cf_law:CF 16 ZeR 1 13 false:=λ_ _ _=>rfl
theorem ZhI:gv[0]?=some (.tup [(.str [103,105,118,101]),(.str [116,97,107,101]),(.str [98,101,97,114])]):=rfl
end My
section
set_option maxRecDepth 20000
namespace My
open Mi
noncomputable def IsSt(s:List T):Prop:=∃a b c:Int,s=[.int a,.int b,.int c]
noncomputable def put(m:Mem)(i:Nat)(s:List T):Mem:=m.set i (some (false,s))
theorem Zie{m:Mem}{i:Nat}{s:List T}(h:i<m.length):(put m i s)[i]?=some (some (false,s)):=List.getElem?_set_self h
theorem Zi{m:Mem}{i:Nat}{s:List T}:(put m i s).length=m.length:=List.length_set
theorem Zfl{m:Mem}{i:Nat}{s s':List T}:(put m i s).set i (some (false,s'))=put m i s':=List.set_set _
theorem mulL{i j:Int}(h:0<=i)(h':i<4294967296):Xi i j=true:=by
 have:i.natAbs<2^64:=by omega
 simp[Xi,small,this]
theorem mulR{i j:Int}(h:0<=j)(h':j<4294967296):Xi i j=true:=by
 have:j.natAbs<2^64:=by omega
 simp[Xi,small,this]
section
variable{call:Nat->List W->Mem->Res W}{gv:List T}{env:Env}{m m1 m2 m3:Mem}{a b c e o v i:E}{x y z r:T}{w w1 w2:W}{f:Nat}{bb:B}{k:Bool}
theorem ZD{op:PySem.Operator}(h1:ev call gv a env m=.ok (.t x) m1)(h2:ev call gv b env m1=.ok (.t y) m2)(h3:binT op x y=some r):ev call gv (.bin op a b) env m=.ok (.t r) m2:=by
 rw[ev,h1,Zh,h2,Zh]
 show pur (binT op x y) m2=_
 rw[h3];rfl
theorem Qj{op:PySem.CmpOp}(h1:ev call gv a env m=.ok (.t x) m1)(h2:ev call gv b env m1=.ok (.t y) m2)(h3:cmpT op x y=some k):ev call gv (.cmp op a b) env m=.ok (.t (.bl k)) m2:=by
 rw[ev,h1,Zh,h2,Zh]
 show pur ((cmpT op x y).map .bl) m2=_
 rw[h3];rfl
theorem Zb(t:T):ev call gv (.con t) env m=.ok (.t t) m:=by rw[ev]
theorem Za{i:Nat}{w:W}(h:env[i]?=some (some w)):ev call gv (.var i) env m=.ok w m:=by rw[ev,h]
theorem Zay{c j:Nat}{k:Int}{xs:List T}(h:env[c]?=some (some (.c j)))(hm:m[j]?=some (some (false,xs)))(hx:atT xs k=some r):ev call gv (.ix (.var c) (.con (.int k))) env m=.ok (.t r) m:=by
 rw[ev,Za h,Zh,Zb,Zh]
 simp only[view,hm,Option.bind_some,ixT,hx]
 rfl
theorem ZZ(h1:ev call gv a env m=.ok (.t x) m1)(h2:ev call gv b env m1=.ok (.t y) m2)(h3:ixT x y=some r):ev call gv (.ix a b) env m=.ok (.t r) m2:=by
 rw[ev,h1,Zh,h2,Zh]
 show pur (ixT x y) m2=_
 rw[h3];rfl
theorem Qv(h:ev call gv e env m=.ok (.t x) m1)(hb:bltT bb [x]=some r):ev call gv (.blt bb (.cons e .nil)) env m=.ok (.t r) m1:=by
 rw[ev,evs,h]
 show pur (bltT bb [x]) m1=_
 rw[hb];rfl
theorem Zaa(h:ev call gv e env m=.ok w m1):ev call gv (.call f (.cons e .nil)) env m=call f [w] m1:=by
 rw[ev,evs,h]
 rfl
theorem ZK(h1:ev call gv a env m=.ok w m1)(h2:ev call gv b env m1=.ok w1 m2):ev call gv (.call f (.cons a (.cons b .nil))) env m=call f [w,w1] m2:=by
 simp only[ev,evs,h1,h2,Zh]
theorem Xm(h1:ev call gv a env m=.ok (.t x) m1)(h2:ev call gv b env m1=.ok (.t y) m2):ev call gv (.tup (.cons a (.cons b .nil))) env m=.ok (.t (.tup [x,y])) m2:=by
 simp only[ev,evs,h1,h2,Zh,ZdS,ZdR]
 exact if_pos (by simp[lim])
theorem Zdf(h1:ev call gv a env m=.ok (.t x) m1)(h2:ev call gv b env m1=.ok (.t y) m2)(h3:ev call gv c env m2=.ok (.t z) m3):ev call gv (.tup (.cons a (.cons b (.cons c .nil)))) env m=.ok (.t (.tup [x,y,z])) m3:=by
 simp only[ev,evs,h1,h2,h3,Zh,ZdS,ZdR]
 exact if_pos (by simp[lim])
theorem ZbM(h:ev call gv a env m=.ok (.t (.bl true)) m1):ev call gv (.and a b) env m=ev call gv b env m1:=by rw[ev,h];rfl
theorem Zdg(h:ev call gv a env m=.ok (.t (.bl false)) m1):ev call gv (.and a b) env m=.ok (.t (.bl false)) m1:=by rw[ev,h];rfl
theorem Ziw(h:ev call gv a env m=.ok (.t (.bl k)) m1):ev call gv (.not a) env m=.ok (.t (.bl (!k))) m1:=by rw[ev,h];rfl
theorem Zgn(h:ev call gv a env m=.ok (.t (.bl false)) m1):ev call gv (.or a b) env m=ev call gv b env m1:=by rw[ev,h];rfl
theorem ev_isi{ty:Ty}(h:ev call gv a env m=.ok (.t x) m1)(hk:isT x ty=k):ev call gv (.isi a ty) env m=.ok (.t (.bl k)) m1:=by rw[ev,h,<-hk];rfl
end
section
variable{call:Nat->List W->Mem->Res W}{gv:List T}{env:Env}{m m1 m2 m3:Mem}{a lo hi:E}{es:Es}{x y z r:T}{w:W}{ws:List W}{ts:List T}{f:Nat}{bb:B}
theorem Zv{ts:List T}(h:ts.length<=1000:=by exact Nat.le_of_ble_eq_true rfl):ts.length<=lim:=Nat.le_trans h (by decide)
theorem Zo:evs call gv .nil env m=.ok [] m:=by rw[evs]
theorem Zc(h1:ev call gv a env m=.ok w m1)(h2:evs call gv es env m1=.ok ws m2):evs call gv (.cons a es) env m=.ok (w::ws) m2:=by rw[evs,h1,Zh,h2];rfl
theorem Z2(h:evs call gv es env m=.ok ws m1)(h2:frzs ws m1=.ok ts m1)(hl:ts.length<=lim):ev call gv (.lst es) env m=.ok (.t (.lst ts)) m1:=by rw[ev,h,Zh,h2,Zh,if_pos hl]
theorem Qu(h:evs call gv es env m=.ok ws m1)(h2:frzs ws m1=.ok ts m1)(hl:ts.length<=lim):ev call gv (.tup es) env m=.ok (.t (.tup ts)) m1:=by rw[ev,h,Zh,h2,Zh,if_pos hl]
theorem Zu(h:evs call gv es env m=.ok ws m1):ev call gv (.call f es) env m=call f ws m1:=by rw[ev,h];rfl
theorem Zix(h:evs call gv es env m=.ok ws m1)(h2:views ws m1=some ts)(h3:bltT bb ts=some r):ev call gv (.blt bb es) env m=.ok (.t r) m1:=by
 rw[ev,h,Zh,h2]
 show pur (bltT bb ts) m1=_
 rw[h3];rfl
theorem Zj1{k:Int}(h1:ev call gv a env m=.ok (.t x) m1)(h2:ev call gv hi env m1=.ok (.t (.int k)) m2)(h3:slT x none (some k)=some r)(hh:Zt hi=false:=by rfl):ev call gv (.slc a .hole hi) env m=.ok (.t r) m2:=by
 rw[ev,h1,Zh,show Zt .hole=true from rfl,if_pos rfl,Zh,hh,if_neg Bool.false_ne_true,h2]
 show pur (slT x none (some k)) m2=_
 rw[h3];rfl
end
section
variable{call:Nat->List W->Mem->Res W}{gv:List T}{env env':Env}{m m1 m2:Mem}{k a b:S}{e:E}{w:W}
theorem Ziv(h:ev call gv e env m=.ok (.t (.bl false)) m1)(h2:ex call gv b env m1=.ok (.next env') m2):ex call gv (.ife e a b k) env m=ex call gv k env' m2:=by
 rw[ex,h]
 show(ex call gv b env m1).bind _=_
 rw[h2];rfl
theorem Zcs(h:ev call gv e env m=.ok (.t (.bl true)) m1)(h2:ex call gv a env m1=.ok (.next env') m2):ex call gv (.ife e a b k) env m=ex call gv k env' m2:=by
 rw[ex,h]
 show(ex call gv a env m1).bind _=_
 rw[h2];rfl
theorem Xl(h:ev call gv e env m=.ok w m1):ex call gv (.expr e k) env m=ex call gv k env m1:=by rw[ex,h];rfl
end
section
variable{call:Nat->List W->Mem->Res W}{gv:List T}{env:Env}{m m1 m2:Mem}{a c inner:E}{x:T}{xs:List T}
theorem Q4(h:ev call gv a env m=.ok (.t x) m1):ev call gv (.emit a) env m=.ok (.t (.lst [x])) m1:=by rw[ev,h];rfl
theorem Zdy(h:ev call gv c env m=.ok (.t (.bl true)) m1)(h2:ev call gv inner env m1=.ok (.t (.lst xs)) m2):QD call gv (.cons c .nil) inner env m=.ok xs m2:=by
 unfold QD
 rw[tests,h,Zh,Zbk,Zh,if_pos rfl,tests,Zh,if_pos rfl,h2]
 rfl
theorem ZaZ(h:ev call gv c env m=.ok (.t (.bl false)) m1):QD call gv (.cons c .nil) inner env m=.ok [] m1:=by
 unfold QD
 rw[tests,h,Zh,Zbk,Zh,if_neg (by decide),Zh,if_neg (by decide)]
theorem ZcM(h2:ev call gv inner env m=.ok (.t (.lst xs)) m2):QD call gv .nil inner env m=.ok xs m2:=by
 unfold QD
 rw[tests,Zh,if_pos rfl,h2]
 rfl
end
theorem Z9{α β:Type}(f:α->β)(xs:List α):xs.flatMap (λx=>[f x])=xs.map f:=by
 induction xs with
 |nil=>rfl
 |cons x xs ih=>simp[ih]
noncomputable def Zep(p:List Nat×Int):T:=.tup [.str p.1,.int p.2]
noncomputable def ZeN(nm kd:List Nat)(mk:List (List Nat))(sz:List (List Nat×Int)):T:=.tup [.str nm,.str kd,.tup (mk.map .str),.tup (sz.map Zep)]
theorem in_words(w:List Nat)(mk:List (List Nat)):cmpT .In (.str w) (.tup (mk.map .str))=some (mk.any λa=>a==w):=by
 have h1:hasT (.str w) (.tup (mk.map .str))=some (mk.any λa=>a==w):=by
  have ha:(mk.map T.str).all flat=true:=by simp[flat]
  have hb:((mk.map T.str).any λt=>eqT t (.str w))=mk.any λa=>a==w:=by
   induction mk with
   |nil=>rfl
   |cons a mk ih=>simp only[List.map_cons,List.any_cons,eqT];rw[ih (by simp[flat])]
  unfold hasT
  dsimp only
  rw[ha,hb]
  rfl
 rw[<-h1]
 rcases w with _|⟨c,_|⟨d,r⟩⟩<;>rfl
inductive Lf:T->Prop where
 |any:Lf (.tup [.str [97,110,121]])
 |is (w:List Nat):Lf (.tup [.str [105,115],.str w])
 |by(w:List Nat):Lf (.tup [.str [98,121],.str w])
 |least (w:List Nat) (v:Int):Lf (.tup [.str [108,101,97,115,116],.str w,.int v])
 |most (w:List Nat) (v:Int):Lf (.tup [.str [109,111,115,116],.str w,.int v])
inductive DW:Nat->T->Prop where
 |leaf {d:Nat}{t:T}:Lf t->DW d t
 |nt {d:Nat}{a:T}:DW d a->DW (d+1) (.tup [.str [110,111,116],a])
 |jn {d:Nat}{b:Bool}{ts:List T}:ts.length<=6->(∀t∈ts,DW d t)->DW (d+1) (.tup [.str (if b then[97,110,100]else[111,114]),.tup ts])
theorem Zm{n:Nat}{m:Mem}{i:Nat}{s:List T}{many:Int}(hi:i<m.length)(hs:IsSt s)(h1:0<many)(h2:many<1073741824):
  ∃r s',cf (n+1) 5 [.c i,.t (.int many)] (put m i s)=.ok (.t (.int r)) (put m i s')/\IsSt s'/\0<=r/\r<many:=by
 obtain⟨a,b,c,rfl⟩:=hs
 have key:∃r s',ex (cf n) gv ZaM [some (.c i),some (.t (.int many)),none,none] (put m i [.int a,.int b,.int c])=.ok (.ret (.t (.int r))) (put m i s')/\IsSt s'/\0<=r/\r<many:=by
  have h:=Zie (s:=[.int a,.int b,.int c]) hi
  unfold ZaM
  have hg:ev (cf n) gv (.cmp .Gt (.ix (.var 0) (.con (.int 0))) (.con (.int 0))) [some (.c i),some (.t (.int many)),none,none] (put m i [.int a,.int b,.int c])=.ok (.t (.bl (decide (0<a)))) (put m i [.int a,.int b,.int c]):=by
   rw[ev,Zay rfl h rfl,Zh,Zb,Zh]
   rfl
  by_cases ha:0<a
  ·rw[decide_eq_true ha]at hg
   refine⟨a%many,[.int (a / many),.int b,.int c],Xz hg ?_,⟨_,_,_,rfl⟩,Int.emod_nonneg _ (by omega),Int.emod_lt_of_pos _ h1⟩
   rw[Zn (ZD (Zay rfl h rfl) (Za rfl) (Zdt h1))]
   rw[Zgm (ZD (Zay rfl h rfl) (Za rfl) (Zkd ⟨h1,h2⟩)) (Za rfl) (Zb _) h rfl]
   rw[Zfl]
   exact ZW (Za rfl)
  ·rw[decide_eq_false ha]at hg
   rw[Qf hg]
   have h4:Xi 7919 (c+1)=true:=mulL (by decide) (by decide)
   have h5:∀x,Xi x 48271=true:=λx=>mulR (by decide) (by decide)
   have h6:∀x y,Xi (x%2147483647) y=true:=λx y=>mulL (Int.emod_nonneg _ (by decide)) (by have:=Int.emod_lt_of_pos x (b:=2147483647) (by decide);omega)
   have hp:=Zie (s:=[.int a,.int b,.int (c+1)]) hi
   obtain⟨z,hz⟩:∃z:Int,ex (cf n) gv (.set (.var 0) (.con (.int 2)) (.bin .Add (.ix (.var 0) (.con (.int 2))) (.con (.int 1))) (.asg 3 (.bin .Mod (.bin .Mult (.bin .Add (.bin .Add (.ix (.var 0) (.con (.int 1))) (.bin .Mult (.con (.int 7919)) (.ix (.var 0) (.con (.int 2))))) (.con (.int 1))) (.con (.int 48271))) (.con (.int 2147483647))) (.asg 3 (.bin .Mod (.bin .Mult (.var 3) (.bin .Add (.bin .FloorDiv (.var 3) (.con (.int 1009))) (.con (.int 69621)))) (.con (.int 2147483647))) (.ret (.bin .Mod (.bin .Mod (.bin .Mult (.var 3) (.bin .Add (.bin .FloorDiv (.var 3) (.con (.int 2003))) (.con (.int 40692)))) (.con (.int 2147483399))) (.var 1)) .done)))) [some (.c i),some (.t (.int many)),none,none] (put m i [.int a,.int b,.int c])=.ok (.ret (.t (.int (z%many)))) (put m i [.int a,.int b,.int (c+1)]):=by
    refine⟨(((b+7919*(c+1)+1)*48271%2147483647)*(((b+7919*(c+1)+1)*48271%2147483647) / 1009+69621)%2147483647)*((((b+7919*(c+1)+1)*48271%2147483647)*(((b+7919*(c+1)+1)*48271%2147483647) / 1009+69621)%2147483647) / 2003+40692)%2147483399,?_⟩
    rw[Zgm (ZD (Zay rfl h rfl) (Zb _) (Zdu _ _)) (Za rfl) (Zb _) h rfl]
    show ex (cf n) gv _ _ (put m i [.int a,.int b,.int c] |>.set i (some (false,[.int a,.int b,.int (c+1)])))=_
    rw[Zfl]
    rw[Zn (ZD (ZD (ZD (ZD (Zay rfl hp rfl) (ZD (Zb _) (Zay rfl hp rfl) (ZeQ h4)) (Zdu _ _)) (Zb _) (Zdu _ _)) (Zb _) (ZeQ (h5 _))) (Zb _) (Zdt (by decide)))]
    rw[Zn (ZD (ZD (Za rfl) (ZD (ZD (Za rfl) (Zb _) (Zkd (by decide))) (Zb _) (Zdu _ _)) (ZeQ (h6 _ _))) (Zb _) (Zdt (by decide)))]
    exact ZW (ZD (ZD (ZD (Za rfl) (ZD (ZD (Za rfl) (Zb _) (Zkd (by decide))) (Zb _) (Zdu _ _)) (ZeQ (h6 _ _))) (Zb _) (Zdt (by decide))) (Za rfl) (Zdt h1))
   exact⟨z%many,_,hz,⟨_,_,_,rfl⟩,Int.emod_nonneg _ (Int.ne_of_gt h1),Int.emod_lt_of_pos _ h1⟩
 obtain⟨r,s',e,h⟩:=key
 refine⟨r,s',?_,h⟩
 exact Qt (ZhZ _ _ _) rfl e (Qg (cell:=false) (by rw[Zi,Zi]))
theorem ZiL{n:Nat}{m:Mem}{x:Int}:∃s,cf (n+1) 4 [.t (.int x)] m=.ok (.c m.length) (put (m++[none]) m.length s)/\IsSt s:=by
 have hb:∀y:Int,∀k:Bool,Xi y (b2i k)=true:=λy k=>mulR (by cases k<;>decide) (by cases k<;>decide)
 refine⟨[.int (x*b2i (decide (1000000000000000000<=x))),.int (x%2147483647),.int 0],?_,⟨_,_,_,rfl⟩⟩
 have key:ex (cf n) gv ZaI [some (.t (.int x))] m=.ok (.ret (.c m.length)) (m++[some (false,[.int (x*b2i (decide (1000000000000000000<=x))),.int (x%2147483647),.int 0])]):=by
  unfold ZaI
  exact ZW (by simp[ev,evs,isT,Zt,EVs,b_pow,ZeQ (hb _ _),Zdt,lim])
 rw[ZhV]
 simp[key,Zh,fin,put]
theorem Zj9{n:Nat}{m:Mem}{ns:List Int}:∃v:Int,cf (n+1) 3 [.t (.scr ns),.t (.int 0)] m=.ok (.t (.int v)) m:=by
 have key:∃v:Int,ex (cf n) gv QV [some (.t (.scr ns)),some (.t (.int 0))] m=.ok (.ret (.t (.int v))) m:=by
  unfold QV
  by_cases h:(0:Int)<ns.length
  ·obtain⟨v,hv,_⟩:=Qa (xs:=ns) (i:=0) (by decide) h
   exact⟨v,Xz (m1:=m) (by simp[ev,evs,isT,Zt,EVs];omega) (ZW (by simp[ev,evs,isT,Zt,EVs,hv]))⟩
  ·have h':ns=[]:=List.length_eq_zero_iff.mp (by omega)
   subst h'
   refine⟨0,?_⟩
   rw[Qf (m1:=m) (by simp[ev,evs,isT,Zt,EVs])]
   exact ZW (by simp[ev,evs,isT,Zt,EVs])
 obtain⟨v,e⟩:=key
 refine⟨v,?_⟩
 rw[Zdn]
 simp[e,Zh,Qg]
noncomputable def okS(cs:List Nat):Bool:=PySem.PyData.strOk ⟨cs.toArray⟩
noncomputable def Dk(d:Nat)(w:T):Prop:=∀k,Zf (k+(2*d+1)) w=true
theorem ZfE{n:Nat}{m:Mem}{i:Nat}{s xs:List T}(hi:i<m.length)(hs:IsSt s)(h0:0<xs.length)(h1:xs.length<1000):
  ∃x s',cf (n+2) 6 [.c i,.t (.lst xs)] (put m i s)=.ok (.t x) (put m i s')/\IsSt s'/\x∈xs:=by
 obtain⟨r,s1,g1,hs1,r0,r1⟩:=Zm (n:=n) (many:=(xs.length:Int)) hi hs (by omega) (by omega)
 obtain⟨x,hx,hm⟩:=Qa r0 r1
 refine⟨x,s1,?_,hs1,hm⟩
 have key:ex (cf (n+1)) gv ZaK [some (.c i),some (.t (.lst xs))] (put m i s)=.ok (.ret (.t x)) (put m i s1):=by
  unfold ZaK
  exact ZW (by simp[ev,evs,isT,Zt,EVs,g1,hx])
 exact Qt (ZhX _ _ _) rfl key (Qg (cell:=false) (by rw[Zi,Zi]))
noncomputable def names12:List T:=[.str [97],.str [97,98],.str [98],.str [97,110,121,97],.str [105,115,108,97,110,100],.str [97,98,99],.str [122],.str [98,121,98,121,101],.str [111,114,100,101,114],.str [110,111,116,101,115],.str [99],.str [122,122,122,122,122,122,122,122]]
theorem ZfV{n:Nat}{m:Mem}{k:Int}:∃cs,cf (n+1) 7 [.t (.int k)] m=.ok (.t (.str cs)) m/\okS cs=true:=by
 obtain⟨w,hw,hm⟩:=Qa (xs:=names12) (i:=k%12) (by omega) (by simp[names12];omega)
 have hw':∃cs:List Nat,w=.str cs/\okS cs=true:=by
  simp only[names12,List.mem_cons,List.not_mem_nil,or_false]at hm
  rcases hm with rfl|rfl|rfl|rfl|rfl|rfl|rfl|rfl|rfl|rfl|rfl|rfl<;>exact⟨_,rfl,by decide +kernel⟩
 obtain⟨cs,rfl,hwb⟩:=hw'
 refine⟨cs,?_,hwb⟩
 have key:ex (cf n) gv ZaL [some (.t (.int k)),none] m=.ok (.ret (.t (.str cs))) m:=by
  unfold ZaL
  rw[Zn (w:=.t (.lst names12)) (m1:=m) (by simp[ev,evs,isT,Zt,EVs,lim,names12])]
  exact ZW (by simp[ev,evs,isT,Zt,EVs,Zdt,hw])
 exact Qt (ZhY _ _ _) rfl key (Qg (cell:=false) rfl)
theorem Zck{n:Nat}{m:Mem}{i:Nat}{s:List T}(hi:i<m.length)(hs:IsSt s):∃(v:Int) (s':List T),cf (n+2) 8 [.c i] (put m i s)=.ok (.t (.int v)) (put m i s')/\IsSt s'/\0<=v/\v<=1000000000:=by
 have key:∃(v:Int) (s':List T),ex (cf (n+1)) gv Jk [some (.c i)] (put m i s)=.ok (.ret (.t (.int v))) (put m i s')/\IsSt s'/\0<=v/\v<=1000000000:=by
  obtain⟨r1,s1,h1,hs1,a0,a1⟩:=Zm (n:=n) (many:=6) hi hs (by decide) (by decide)
  obtain⟨r2,s2,h2,hs2,b0,b1⟩:=Zm (n:=n) (many:=6) hi hs1 (by decide) (by decide)
  obtain⟨r3,s3,h3,hs3,c0,c1⟩:=Zm (n:=n) (many:=3) hi hs2 (by decide) (by decide)
  obtain⟨r5,s5,h5,hs5,k0,k1⟩:=Zm (n:=n) (many:=3) hi hs3 (by decide) (by decide)
  obtain⟨z,hz,hzm⟩:=Qa (xs:=[T.int r1,.int r2,.int (1000000000-r3)]) k0 (by simpa using k1)
  have hz':∃v:Int,z=.int v/\0<=v/\v<=1000000000:=by
   simp only[List.mem_cons,List.not_mem_nil,or_false]at hzm
   rcases hzm with rfl|rfl|rfl<;>exact⟨_,rfl,by omega,by omega⟩
  obtain⟨v,rfl,hv⟩:=hz'
  refine⟨v,s5,?_,hs5,hv⟩
  unfold Jk
  exact ZW (by simp[ev,evs,isT,Zt,EVs,h1,h2,h3,h5,b_pow,lim,hz])
 obtain⟨v,s',e,hs',hl⟩:=key
 refine⟨v,s',?_,hs',hl⟩
 exact Qt (ZeM _ _ _) rfl e (Qg (cell:=false) (by rw[Zi,Zi]))
theorem turns3{R:T->List T->Prop}{a b c:T}{xss:List (List T)}(h:Turns R [a,b,c] xss):∃x y z,xss=[x,y,z]/\R a x/\R b y/\R c z:=by
 cases h with
 |cons r1 h=>cases h with
  |cons r2 h=>cases h with
   |cons r3 h=>cases h;exact⟨_,_,_,rfl,r1,r2,r3⟩
theorem turns2{R:T->List T->Prop}{a b:T}{xss:List (List T)}(h:Turns R [a,b] xss):∃x y,xss=[x,y]/\R a x/\R b y:=by
 cases h with
 |cons r1 h=>cases h with
  |cons r2 h=>cases h;exact⟨_,_,rfl,r1,r2⟩
theorem ZeA{n:Nat}{m:Mem}{i:Nat}{s:List T}{e1 e2 e3 e4:Option W}(hi:i<m.length)(hs:IsSt s):
  ∃(mk:List (List Nat)) (s':List T),ev (cf (n+1)) gv ZaG [some (.c i),e1,e2,e3,e4] (put m i s)=.ok (.t (.lst (mk.map .str))) (put m i s')/\IsSt s'/\mk.length<=100/\∀w∈mk,okS w=true:=by
 obtain⟨xss,m',h2,⟨s2,rfl,hs2⟩,ht⟩:=X6 (f:=QD (cf (n+1)) gv (.cons (.cmp .Eq (.call 5 (.cons (.var 1) (.cons (.con (.int 2)) .nil))) (.con (.int 1))) .nil) JZ) (tg:=.nm 0) (env:=[none,some (.c i)]) (P:=λm'=>∃s,m'=put m i s/\IsSt s) (R:=λt xs=>xs=[]∨xs=[t]) [.str [102,114,101,115,104],.str [111,108,100],.str [111,108,100,115]] (put m i s) ⟨s,rfl,hs⟩ (by
  rintro t ht m' ⟨s,rfl,hs⟩
  obtain⟨q,s3,h3,hs3,hq0,hq1⟩:=Zm (n:=n) (many:=2) hi hs (by decide) (by decide)
  by_cases hq:q=1
  ·exact⟨[some (.t t),some (.c i)],[t],put m i s3,rfl,by simp[QD,tests,JZ,ev,evs,isT,Zt,EVs,h3,hq],⟨s3,rfl,hs3⟩,.inr rfl⟩
  ·exact⟨[some (.t t),some (.c i)],[],put m i s3,rfl,by simp[QD,tests,JZ,ev,evs,isT,Zt,EVs,h3,hq],⟨s3,rfl,hs3⟩,.inl rfl⟩)
 obtain⟨x,y,z,rfl,r1,r2,r3⟩:=turns3 ht
 have hx:∃mk:List (List Nat),[x,y,z].flatten=mk.map T.str/\mk.length<=100/\∀w∈mk,okS w=true:=by
  have a1:okS [102,114,101,115,104]=true:=by decide +kernel
  have a2:okS [111,108,100]=true:=by decide +kernel
  have a3:okS [111,108,100,115]=true:=by decide +kernel
  rcases r1 with rfl|rfl<;>rcases r2 with rfl|rfl<;>rcases r3 with rfl|rfl
  ·exact⟨[],rfl,by decide,by simp⟩
  ·exact⟨[_],rfl,by decide,by simp[a3]⟩
  ·exact⟨[_],rfl,by decide,by simp[a2]⟩
  ·exact⟨[_,_],rfl,by decide,by simp[a2,a3]⟩
  ·exact⟨[_],rfl,by decide,by simp[a1]⟩
  ·exact⟨[_,_],rfl,by decide,by simp[a1,a3]⟩
  ·exact⟨[_,_],rfl,by decide,by simp[a1,a2]⟩
  ·exact⟨[_,_,_],rfl,by decide,by simp[a1,a2,a3]⟩
 obtain⟨mk,e,hl,hk⟩:=hx
 rw[e]at h2
 exact⟨mk,s2,Jh (x:=.t (.lst [.str [102,114,101,115,104],.str [111,108,100],.str [111,108,100,115]])) (m0:=put m i s) (m1:=put m i s) rfl rfl h2 (by rw[List.length_map];unfold lim;omega),hs2,hl,hk⟩
theorem Zd9{n:Nat}{m:Mem}{i:Nat}{s:List T}{e1 e2 e3 e4:Option W}(hi:i<m.length)(hs:IsSt s):
  ∃(sz:List (List Nat×Int)) (s':List T),ev (cf (n+2)) gv ZcB [some (.c i),e1,e2,e3,e4] (put m i s)=.ok (.t (.lst (sz.map Zep))) (put m i s')/\IsSt s'/\sz.length<=100/\∀p∈sz,okS p.1=true:=by
 obtain⟨xss,m',h2,⟨s2,rfl,hs2⟩,ht⟩:=X6 (f:=QD (cf (n+2)) gv (.cons (.cmp .Eq (.call 5 (.cons (.var 1) (.cons (.con (.int 2)) .nil))) (.con (.int 1))) .nil) J1) (tg:=.nm 0) (env:=[none,some (.c i)]) (P:=λm'=>∃s,m'=put m i s/\IsSt s) (R:=λt xs=>xs=[]∨∃v:Int,0<=v/\v<=1000000000/\xs=[.tup [t,.int v]]) [.str [112,114,105,99,101],.str [119,105,100,101]] (put m i s) ⟨s,rfl,hs⟩ (by
  rintro t ht m' ⟨s,rfl,hs⟩
  obtain⟨q,s3,h3,hs3,hq0,hq1⟩:=Zm (n:=n+1) (many:=2) hi hs (by decide) (by decide)
  by_cases hq:q=1
  ·obtain⟨v,s4,h4,hs4,v0,v1⟩:=Zck (n:=n) hi hs3
   exact⟨[some (.t t),some (.c i)],[.tup [t,.int v]],put m i s4,rfl,by simp[QD,tests,J1,ev,evs,isT,Zt,EVs,h3,hq,h4,lim],⟨s4,rfl,hs4⟩,.inr ⟨v,v0,v1,rfl⟩⟩
  ·exact⟨[some (.t t),some (.c i)],[],put m i s3,rfl,by simp[QD,tests,J1,ev,evs,isT,Zt,EVs,h3,hq],⟨s3,rfl,hs3⟩,.inl rfl⟩)
 obtain⟨x,y,rfl,r1,r2⟩:=turns2 ht
 have hx:∃sz:List (List Nat×Int),[x,y].flatten=sz.map Zep/\sz.length<=100/\∀p∈sz,okS p.1=true:=by
  have a1:okS [112,114,105,99,101]=true:=by decide +kernel
  have a2:okS [119,105,100,101]=true:=by decide +kernel
  rcases r1 with rfl|⟨v,_,_,rfl⟩<;>rcases r2 with rfl|⟨u,_,_,rfl⟩
  ·exact⟨[],rfl,by decide,by simp⟩
  ·exact⟨[(_,u)],rfl,by simp,by simp[a2]⟩
  ·exact⟨[(_,v)],rfl,by simp,by simp[a1]⟩
  ·exact⟨[(_,v),(_,u)],rfl,by simp,by simp[a1,a2]⟩
 obtain⟨sz,e,hl,hk⟩:=hx
 rw[e]at h2
 exact⟨sz,s2,Jh (x:=.t (.lst [.str [112,114,105,99,101],.str [119,105,100,101]])) (m0:=put m i s) (m1:=put m i s) rfl rfl h2 (by rw[List.length_map];unfold lim;omega),hs2,hl,hk⟩
noncomputable def Zh8(nm kd:List Nat)(mk:List (List Nat))(sz:List (List Nat×Int)):Prop:=mk.length<=100/\sz.length<=100/\(∀w∈mk,okS w=true)/\(∀p∈sz,okS p.1=true)/\okS nm=true/\okS kd=true
theorem Zkb{n:Nat}{m:Mem}{i:Nat}{s:List T}{nm kd:List Nat}(hi:i<m.length)(hs:IsSt s)(h1:okS nm=true)(h2:okS kd=true):∃(mk:List (List Nat)) (sz:List (List Nat×Int)) (s':List T),cf (n+3) 9 [.c i,.t (.str nm),.t (.str kd)] (put m i s)=.ok (.t (ZeN nm kd mk sz)) (put m i s')/\IsSt s'/\Zh8 nm kd mk sz:=by
 obtain⟨mk,s1,g1,hs1,m1,m2⟩:=ZeA (n:=n+1) (e1:=some (.t (.str nm))) (e2:=some (.t (.str kd))) (e3:=none) (e4:=none) hi hs
 obtain⟨sz,s2,g2,hs2,z1,z2⟩:=Zd9 (n:=n) (e1:=some (.t (.str nm))) (e2:=some (.t (.str kd))) (e3:=some (.t (.tup (mk.map .str)))) (e4:=none) hi hs1
 refine⟨mk,sz,s2,?_,hs2,m1,z1,m2,z2,h1,h2⟩
 have key:ex (cf (n+2)) gv ZaN [some (.c i),some (.t (.str nm)),some (.t (.str kd)),none,none] (put m i s)=.ok (.ret (.t (ZeN nm kd mk sz))) (put m i s2):=by
  unfold ZaN
  have g1:ev (cf (n+2)) gv ZaG [some (.c i),some (.t (.str nm)),some (.t (.str kd)),none,none] (put m i s)=.ok (.t (.lst (mk.map .str))) (put m i s1):=g1
  rw[Zn (w:=.t (.tup (mk.map .str))) (m1:=put m i s1) (Qv (bb:=.tuple) g1 (Zf6 _))]
  simp only[List.set_cons_succ,List.set_cons_zero]
  rw[Zn (w:=.t (.tup (sz.map Zep))) (m1:=put m i s2) (Qv (bb:=.tuple) g2 (Zf6 _))]
  exact ZW rfl
 exact Qt (Zh0 _ _ _) rfl key (Qg (cell:=false) (by rw[Zi,Zi]))
theorem ZeZ{Q:T->Prop}{ts:List T}{xss:List (List T)}(h:Turns (λ_ xs=>∃w,xs=[w]/\Q w) ts xss):∃ws:List T,xss.flatten=ws/\ws.length=ts.length/\∀w∈ws,Q w:=by
 induction h with
 |nil=>exact⟨[],rfl,rfl,λw hw=>by cases hw⟩
 |cons h _ ih =>
  obtain⟨w,rfl,hq⟩:=h
  obtain⟨ws,h1,h2,h3⟩:=ih
  refine⟨w::ws,by rw[List.flatten_cons,h1];rfl,by simp[h2],λx hx=>?_⟩
  rcases List.mem_cons.mp hx with rfl|hx
  ·exact hq
  ·exact h3 x hx
theorem Zb9{n:Nat}{m:Mem}{i:Nat}{s:List T}{ws:List (List Nat)}(hi:i<m.length)(hs:IsSt s)(h0:0<ws.length)(h1:ws.length<1000)(hw:∀w∈ws,okS w=true):
  ∃w s',cf (n+2) 6 [.c i,.t (.lst (ws.map .str))] (put m i s)=.ok (.t (.str w)) (put m i s')/\IsSt s'/\okS w=true/\w∈ws:=by
 obtain⟨x,s',g,hs',hx⟩:=ZfE (n:=n) (xs:=ws.map .str) hi hs (by rw[List.length_map];exact h0) (by rw[List.length_map];exact h1)
 obtain⟨w,hw',rfl⟩:=List.mem_map.mp hx
 exact⟨w,s',g,hs',hw w hw',hw'⟩
theorem ZdP{n d:Nat}{m:Mem}{i:Nat}{s:List T}{r:Int}(hi:i<m.length)(hs:IsSt s)(r0:0<=r)(r6:r<6)(k1 k2:S):
  ∃(t:T) (s':List T),ex (cf (n+3)) gv (.ife (.cmp .Lt (.var 2) (.con (.int 2))) (.ret (.tup (.cons (.con (.str [97,110,121])) .nil)) .done) .done (.ife (.cmp .Eq (.var 2) (.con (.int 2))) (.ret (.tup (.cons (.con (.str [105,115])) (.cons (.call 6 (.cons (.var 0) (.cons (.lst (.cons (.con (.str [102,114,101,115,104])) (.cons (.con (.str [111,108,100])) (.cons (.con (.str [111,108,100,115])) (.cons (.con (.str [110,101,119])) .nil))))) .nil))) .nil))) .done) .done (.ife (.cmp .Eq (.var 2) (.con (.int 3))) (.ret (.tup (.cons (.con (.str [98,121])) (.cons (.call 7 (.cons (.call 5 (.cons (.var 0) (.cons (.con (.int 12)) .nil))) .nil)) .nil))) .done) .done (.ife (.cmp .Lt (.var 2) (.con (.int 6))) (.ret (.tup (.cons (.ix (.lst (.cons (.con (.str [108,101,97,115,116])) (.cons (.con (.str [109,111,115,116])) .nil))) (.bin .Sub (.var 2) (.con (.int 4)))) (.cons (.call 6 (.cons (.var 0) (.cons (.lst (.cons (.con (.str [112,114,105,99,101])) (.cons (.con (.str [119,105,100,101])) (.cons (.con (.str [102,97,114])) .nil)))) .nil))) (.cons (.call 8 (.cons (.var 0) .nil)) .nil)))) .done) .done k1)))) [some (.c i),some (.t (.int (d:Int))),some (.t (.int r)),none] (put m i s)=.ok (.ret (.t t)) (put m i s')/\IsSt s'/\Lf t/\Dk 0 t:=by
 have a0:okS [97,110,121]=true:=by decide +kernel
 have a1:okS [105,115]=true:=by decide +kernel
 have a2:okS [98,121]=true:=by decide +kernel
 have a3:okS [108,101,97,115,116]=true:=by decide +kernel
 have a4:okS [109,111,115,116]=true:=by decide +kernel
 have dk1:∀a:List Nat,okS a=true->Dk 0 (.tup [.str a]):=λa h k=>by
  show Zj k [.str a]=true
  unfold okS at h
  simp[Zj,Zf,h]
 have dk2:∀a b:List Nat,okS a=true->okS b=true->Dk 0 (.tup [.str a,.str b]):=λa b h h' k=>by
  show Zj k [.str a,.str b]=true
  unfold okS at h h'
  simp[Zj,Zf,h,h']
 have dk3:∀(a b:List Nat) (v:Int),okS a=true->okS b=true->Dk 0 (.tup [.str a,.str b,.int v]):=λa b v h h' k=>by
  show Zj k [.str a,.str b,.int v]=true
  unfold okS at h h'
  simp[Zj,Zf,h,h']
 by_cases h2:r<2
 ·exact⟨_,s,Xz (m1:=put m i s) (by simp[ev,evs,isT,Zt,EVs,h2]) (ZW rfl),hs,.any,dk1 _ a0⟩
 rw[Qf (m1:=put m i s) (by simp[ev,evs,isT,Zt,EVs,h2]<;>omega)]
 by_cases h3:r=2
 ·obtain⟨w,s2,g2,hs2,hw2,_⟩:=Zb9 (n:=n+1) (ws:=[[102,114,101,115,104],[111,108,100],[111,108,100,115],[110,101,119]]) hi hs (by simp) (by simp) (by
   intro w hw
   simp only[List.mem_cons,List.not_mem_nil,or_false]at hw
   rcases hw with rfl|rfl|rfl|rfl<;>decide +kernel)
  simp only[List.map_cons,List.map_nil]at g2
  exact⟨_,s2,Xz (m1:=put m i s) (by simp[ev,evs,isT,Zt,EVs,h3]) (ZW (Qu (Zc (Zb _) (Zc ((Zu (Zc (Za rfl) (Zc (Z2 (Zc (Zb _) (Zc (Zb _) (Zc (Zb _) (Zc (Zb _) Zo)))) rfl Zv) Zo))).trans g2) Zo)) rfl Zv)),hs2,.is w,dk2 _ _ a1 hw2⟩
 rw[Qf (m1:=put m i s) (by simp[ev,evs,isT,Zt,EVs,h3])]
 by_cases h4:r=3
 ·obtain⟨q,s1,g1,hs1,_,_⟩:=Zm (n:=n+2) (many:=12) hi hs (by decide) (by decide)
  obtain⟨w,g2,hw2⟩:=ZfV (n:=n+2) (m:=put m i s1) (k:=q)
  exact⟨_,s1,Xz (m1:=put m i s) (by simp[ev,evs,isT,Zt,EVs,h4]) (ZW (Qu (Zc (Zb _) (Zc ((Zu (Zc ((Zu (Zc (Za rfl) (Zc (Zb _) Zo))).trans g1) Zo)).trans g2) Zo)) rfl Zv)),hs1,.by w,dk2 _ _ a2 hw2⟩
 rw[Qf (m1:=put m i s) (by simp[ev,evs,isT,Zt,EVs,h4])]
 obtain⟨z,hz,hzm⟩:=Qa (xs:=[T.str [108,101,97,115,116],.str [109,111,115,116]]) (i:=r-4) (by omega) (by simp;omega)
 obtain⟨v,s2,g2,hs2,hv2,_⟩:=Zb9 (n:=n+1) (ws:=[[112,114,105,99,101],[119,105,100,101],[102,97,114]]) hi hs (by simp) (by simp) (by
   intro w hw
   simp only[List.mem_cons,List.not_mem_nil,or_false]at hw
   rcases hw with rfl|rfl|rfl<;>decide +kernel)
 simp only[List.map_cons,List.map_nil]at g2
 obtain⟨k,s3,g3,hs3,k0,k1⟩:=Zck (n:=n+1) hi hs2
 simp only[List.mem_cons,List.not_mem_nil,or_false]at hzm
 rcases hzm with rfl|rfl
 ·exact⟨_,s3,Xz (m1:=put m i s) (by simp[ev,evs,isT,Zt,EVs,r6]) (ZW (Qu (Zc (ZZ (Z2 (Zc (Zb _) (Zc (Zb _) Zo)) rfl Zv) (ZD (Za rfl) (Zb _) rfl) hz) (Zc ((Zu (Zc (Za rfl) (Zc (Z2 (Zc (Zb _) (Zc (Zb _) (Zc (Zb _) Zo))) rfl Zv) Zo))).trans g2) (Zc ((Zu (Zc (Za rfl) Zo)).trans g3) Zo))) rfl Zv)),hs3,.least v k,dk3 _ _ _ a3 hv2⟩
 ·exact⟨_,s3,Xz (m1:=put m i s) (by simp[ev,evs,isT,Zt,EVs,r6]) (ZW (Qu (Zc (ZZ (Z2 (Zc (Zb _) (Zc (Zb _) Zo)) rfl Zv) (ZD (Za rfl) (Zb _) rfl) hz) (Zc ((Zu (Zc (Za rfl) (Zc (Z2 (Zc (Zb _) (Zc (Zb _) (Zc (Zb _) Zo))) rfl Zv) Zo))).trans g2) (Zc ((Zu (Zc (Za rfl) Zo)).trans g3) Zo))) rfl Zv)),hs3,.most v k,dk3 _ _ _ a4 hv2⟩
theorem Zd8{n d:Nat}{m:Mem}{r:Int}{e0 e1 e3:Option W}(r6:6<=r){a1 a2 a3 a4 k:S}:
  ex (cf n) gv (.ife (.cmp .Lt (.var 2) (.con (.int 2))) a1 .done (.ife (.cmp .Eq (.var 2) (.con (.int 2))) a2 .done (.ife (.cmp .Eq (.var 2) (.con (.int 3))) a3 .done (.ife (.cmp .Lt (.var 2) (.con (.int 6))) a4 .done k)))) [e0,e1,some (.t (.int r)),e3] m=ex (cf n) gv k [e0,e1,some (.t (.int r)),e3] m:=by
 have h1:¬r<2:=by omega
 have h2:¬r=2:=by omega
 have h3:¬r=3:=by omega
 have h4:¬r<6:=by omega
 rw[Qf (m1:=m) (by simp[ev,evs,isT,Zt,EVs,h1]),Qf (m1:=m) (by simp[ev,evs,isT,Zt,EVs,h2]),Qf (m1:=m) (by simp[ev,evs,isT,Zt,EVs,h3]),Qf (m1:=m) (by simp[ev,evs,isT,Zt,EVs,h4])]
theorem m30:binT .Mult (.int 3) (.int 0)=some (.int 0):=rfl
theorem m31:binT .Mult (.int 3) (.int 1)=some (.int 3):=rfl
theorem Dk.mono{d e:Nat}{t:T}(h:Dk d t)(he:d<=e):Dk e t:=λk=>by
 have:=h (k+2*(e-d))
 rw[show k+2*(e-d)+(2*d+1)=k+(2*e+1) by omega]at this
 exact this
theorem dk_nt{d:Nat}{a:T}(h:Dk d a):Dk (d+1) (.tup [.str [110,111,116],a]):=λk=>by
 have h1:=h (k+1)
 rw[show k+1+(2*d+1)=k+(2*d+2) by omega]at h1
 have h2:okS [110,111,116]=true:=by decide +kernel
 unfold okS at h2
 rw[show k+(2*(d+1)+1)=k+(2*d+2)+1 by omega,Zf]
 simp[Zj,Zf,h1,h2]
theorem Qm{n:Nat}:∀{ts:List T},Zj n ts=true↔∀t∈ts,Zf n t=true
 |[]=>by simp[Zj]
 |t::ts=>by simp[Zj,Qm (ts:=ts)]
theorem dk_jn{d:Nat}{b:Bool}{ts:List T}(h:∀t∈ts,Dk d t):Dk (d+1) (.tup [.str (if b then[97,110,100]else[111,114]),.tup ts]):=λk=>by
 have h1:Zj (k+(2*d+1)) ts=true:=Qm.mpr λt ht=>h t ht k
 have h2:okS (if b then[97,110,100]else[111,114])=true:=by cases b<;>decide +kernel
 unfold okS at h2
 rw[show k+(2*(d+1)+1)=k+(2*d+1)+1+1 by omega,Zf,Zj,Zj,Zj,Zf,Zf,h1,h2]
 rfl
theorem ZiG:∀(d:Nat) {n:Nat}{m:Mem}{i:Nat}{s:List T},i<m.length->IsSt s->∃(t:T) (s':List T),cf (n+(d+4)) 10 [.c i,.t (.int (d:Int))] (put m i s)=.ok (.t t) (put m i s')/\IsSt s'/\DW d t/\Dk d t:=by
 intro d
 induction d with
 |zero =>
  intro n m i s hi hs
  obtain⟨r,s1,h1,hs1,r0,r1⟩:=Zm (n:=n+2) (many:=6) hi hs (by decide) (by decide)
  obtain⟨t,s2,h2,hs2,hl⟩:=ZdP (n:=n) (d:=0) hi hs1 r0 r1 _ .done
  refine⟨t,s2,?_,hs2,.leaf hl.1,hl.2⟩
  have e:ex (cf (n+3)) gv JF [some (.c i),some (.t (.int 0)),none,none] (put m i s)=.ok (.ret (.t t)) (put m i s2):=by
   unfold JF
   rw[Zn (w:=.t (.int r)) (m1:=put m i s1) (by simp[ev,evs,isT,Zt,EVs,m30,b2i,h1])]
   exact h2
  show cf (n+3+1) _ _ _=_
  exact Qt (ZdW _ _ _) rfl e (Qg (cell:=false) (by rw[Zi,Zi]))
 |succ d ih =>
  intro n m i s hi hs
  have key:∃(t:T) (s':List T),ex (cf (n+(d+4))) gv JF [some (.c i),some (.t (.int ((d:Int)+1))),none,none] (put m i s)=.ok (.ret (.t t)) (put m i s')/\IsSt s'/\DW (d+1) t/\Dk (d+1) t:=by
   obtain⟨r,s1,h1,hs1,r0,r1⟩:=Zm (n:=n+(d+3)) (many:=9) hi hs (by decide) (by decide)
   have h1:cf (n+(d+4)) 5 [.c i,.t (.int 9)] (put m i s)=_:=h1
   have hd0:(0:Int)<(d:Int)+1:=by omega
   have hm:ev (cf (n+(d+4))) gv (.call 5 (.cons (.var 0) (.cons (.bin .Add (.con (.int 6)) (.bin .Mult (.con (.int 3)) (.blt .int (.cons (.cmp .Gt (.var 1) (.con (.int 0))) .nil)))) .nil))) [some (.c i),some (.t (.int ((d:Int)+1))),none,none] (put m i s)=.ok (.t (.int r)) (put m i s1):=by
    simp[ev,evs,isT,Zt,EVs,m31,b2i,hd0,h1]
   unfold JF
   rw[Zn hm]
   simp only[List.set_cons_succ,List.set_cons_zero]
   by_cases h6:r<6
   ·obtain⟨t,s2,h2,hs2,hl⟩:=ZdP (n:=n+(d+1)) (d:=d+1) hi hs1 r0 h6 _ .done
    rw[show((d+1:Nat):Int)=(d:Int)+1 by omega]at h2
    exact⟨t,s2,h2,hs2,.leaf hl.1,hl.2.mono (Nat.zero_le _)⟩
   rw[Zd8 (d:=d) (by omega)]
   have hsub:(d:Int)+1-1=(d:Int):=by omega
   by_cases h7:r=6
   ·obtain⟨t,s2,h4,hs2,hw⟩:=ih (n:=n) hi hs1
    exact⟨_,s2,Xz (m1:=put m i s1) (by simp[ev,evs,isT,Zt,EVs,h7]) (ZW (by simp[ev,evs,isT,Zt,EVs,hsub,h4,lim])),hs2,.nt hw.1,dk_nt hw.2⟩
   rw[Qf (m1:=put m i s1) (by simp[ev,evs,isT,Zt,EVs,h7])]
   obtain⟨q,s2,h4,hs2,q0,q1⟩:=Zm (n:=n+(d+3)) (many:=2) hi hs1 (by decide) (by decide)
   have h4:cf (n+(d+4)) 5 [.c i,.t (.int 2)] (put m i s1)=_:=h4
   rw[Zn (w:=.t (.int (2+q))) (m1:=put m i s2) (by simp[ev,evs,isT,Zt,EVs,h4])]
   simp only[List.set_cons_succ,List.set_cons_zero]
   obtain⟨z,hz,hzm⟩:=Qa (xs:=[T.str [97,110,100],.str [111,114]]) (i:=r-7) (by omega) (by simp;omega)
   have hz':∃b:Bool,z=.str (if b then[97,110,100]else[111,114]):=by
    simp only[List.mem_cons,List.not_mem_nil,or_false]at hzm
    rcases hzm with rfl|rfl
    ·exact⟨true,rfl⟩
    ·exact⟨false,rfl⟩
   obtain⟨b,rfl⟩:=hz'
   obtain⟨xss,m',h5,⟨s3,rfl,hs3⟩,ht⟩:=X6 (f:=QD (cf (n+(d+4))) gv .nil Zav) (tg:=.nm 0) (env:=[none,some (.c i),some (.t (.int ((d:Int)+1)))]) (P:=λm'=>∃s,m'=put m i s/\IsSt s) (R:=λ_ xs=>∃w,xs=[w]/\DW d w/\Dk d w) (rangeT 0 (2+q).toNat) (put m i s2) ⟨s2,rfl,hs2⟩ (by
    rintro t ht m' ⟨s,rfl,hs⟩
    obtain⟨u,s4,h6,hs4,hu⟩:=ih (n:=n) hi hs
    exact⟨[some (.t t),some (.c i),some (.t (.int ((d:Int)+1)))],[u],put m i s4,rfl,by simp[QD,tests,Zav,ev,evs,isT,Zt,EVs,hsub,h6],⟨s4,rfl,hs4⟩,u,rfl,hu⟩)
   obtain⟨ws,e1,e2,e3⟩:=ZeZ ht
   have hr:(rangeT 0 (2+q).toNat).length=(2+q).toNat:=by simp[rangeT]
   rw[e1]at h5
   have hc:ev (cf (n+(d+4))) gv Zcz [some (.c i),some (.t (.int ((d:Int)+1))),some (.t (.int r)),some (.t (.int (2+q)))] (put m i s2)=.ok (.t (.lst ws)) (put m i s3):=by
    refine Jh (x:=.t (.lst (rangeT 0 (2+q).toNat))) (m0:=put m i s2) (m1:=put m i s2) ?_ rfl h5 (by rw[e2,hr];unfold lim;omega)
    exact Qv (by rw[ev];rfl) (ZjM (show 2+q<2^62/\-(2^62)<=2+q by omega))
   refine⟨_,s3,ZW (w:=.t (.tup [.str (if b then[97,110,100]else[111,114]),.tup ws])) (by simp[ev,evs,isT,Zt,EVs,hz,hc,lim]),hs3,.jn (by omega) (λt ht=>(e3 t ht).1),dk_jn λt ht=>(e3 t ht).2⟩
  obtain⟨t,s',e,hs',hl⟩:=key
  refine⟨t,s',?_,hs',hl⟩
  rw[show((d+1:Nat):Int)=(d:Int)+1 by omega]
  show cf (n+(d+4)+1) _ _ _=_
  exact Qt (ZdW _ _ _) rfl e (Qg (cell:=false) (by rw[Zi,Zi]))
noncomputable def offT(sd nm kd:List Nat)(mk:List (List Nat))(sz:List (List Nat×Int))(w:T)(many least wt till:Int):T:=.tup [.str sd,ZeN nm kd mk sz,w,.int many,.int least,.int wt,.int till]
theorem Zhy{n:Nat}{m:Mem}{i:Nat}{s:List T}{sd nm kd:List Nat}{till:Int}(hi:i<m.length)(hs:IsSt s)(h1:okS nm=true)(h2:okS kd=true):
  ∃(mk:List (List Nat)) (sz:List (List Nat×Int)) (w:T) (many least weight:Int) (s':List T),cf (n+7) 11 [.c i,.t (.str sd),.t (.str nm),.t (.str kd),.t (.int till)] (put m i s)=.ok (.t (offT sd nm kd mk sz w many least weight till)) (put m i s')/\IsSt s'/\Zh8 nm kd mk sz/\(DW 2 w/\Dk 2 w)/\(1<=many/\many<=1000000)/\(1<=least/\least<=many)/\(0<=weight/\weight<=1000):=by
 obtain⟨a1,s1,d1,hs1,a10,a11⟩:=Zm (n:=n+5) (many:=9) hi hs (by decide) (by decide)
 obtain⟨a2,s2,d2,hs2,a20,a21⟩:=Zm (n:=n+5) (many:=9) hi hs1 (by decide) (by decide)
 obtain⟨a3,s3,d3,hs3,a30,a31⟩:=Zm (n:=n+5) (many:=1000000) hi hs2 (by decide) (by decide)
 obtain⟨a4,s4,d4,hs4,a40,a41⟩:=Zm (n:=n+5) (many:=3) hi hs3 (by decide) (by decide)
 obtain⟨z,hz,hzm⟩:=Qa (xs:=[T.int (1+a1),.int (1+a2),.int (1+a3)]) a40 (by simpa using a41)
 have hz':∃v:Int,z=.int v/\1<=v/\v<=1000000:=by
  simp only[List.mem_cons,List.not_mem_nil,or_false]at hzm
  rcases hzm with rfl|rfl|rfl<;>exact⟨_,rfl,by omega,by omega⟩
 obtain⟨many,rfl,m1,m2⟩:=hz'
 obtain⟨b1,s5,d5,hs5,b10,b11⟩:=Zm (n:=n+5) (many:=many) hi hs4 (by omega) (by omega)
 obtain⟨b2,s6,d6,hs6,b20,b21⟩:=Zm (n:=n+5) (many:=3) hi hs5 (by decide) (by decide)
 obtain⟨z,hz2,hzm⟩:=Qa (xs:=[T.int 1,.int (1+b1),.int many]) b20 (by simpa using b21)
 have hz':∃v:Int,z=.int v/\1<=v/\v<=many:=by
  simp only[List.mem_cons,List.not_mem_nil,or_false]at hzm
  rcases hzm with rfl|rfl|rfl<;>exact⟨_,rfl,by omega,by omega⟩
 obtain⟨least,rfl,l1,l2⟩:=hz'
 obtain⟨w0,s7,d7,hs7,hw0⟩:=ZiG 2 (n:=n) hi hs6
 have d7:cf (n+6) 10 [.c i,.t (.int 2)] (put m i s6)=.ok (.t w0) (put m i s7):=d7
 obtain⟨c1,s8,d8,hs8,c10,c11⟩:=Zm (n:=n+5) (many:=2) hi hs7 (by decide) (by decide)
 obtain⟨w,hz3,hzm⟩:=Qa (xs:=[T.tup [.str [97,110,121]],w0]) c10 (by simpa using c11)
 have hw:DW 2 w/\Dk 2 w:=by
  simp only[List.mem_cons,List.not_mem_nil,or_false]at hzm
  rcases hzm with rfl|rfl
  ·exact⟨.leaf .any,λk=>by
    show Zj (k+4) [.str [97,110,121]]=true
    have h:okS [97,110,121]=true:=by decide +kernel
    unfold okS at h
    simp[Zj,Zf,h]⟩
  ·exact hw0
 obtain⟨e1,s9,d9,hs9,e10,e11⟩:=Zm (n:=n+5) (many:=3) hi hs8 (by decide) (by decide)
 obtain⟨e2,s10,d10,hs10,e20,e21⟩:=Zm (n:=n+5) (many:=1001) hi hs9 (by decide) (by decide)
 obtain⟨e3,s11,d11,hs11,e30,e31⟩:=Zm (n:=n+5) (many:=2) hi hs10 (by decide) (by decide)
 obtain⟨z,hz4,hzm⟩:=Qa (xs:=[T.int e1,.int e2]) e30 (by simpa using e31)
 have hz':∃v:Int,z=.int v/\0<=v/\v<=1000:=by
  simp only[List.mem_cons,List.not_mem_nil,or_false]at hzm
  rcases hzm with rfl|rfl<;>exact⟨_,rfl,by omega,by omega⟩
 obtain⟨weight,rfl,g1,g2⟩:=hz'
 obtain⟨mk,sz,s12,d12,hs12,hc⟩:=Zkb (n:=n+3) hi hs11 h1 h2
 refine⟨mk,sz,w,many,least,weight,s12,?_,hs12,hc,hw,⟨m1,m2⟩,⟨l1,l2⟩,⟨g1,g2⟩⟩
 have key:ex (cf (n+6)) gv Zae [some (.c i),some (.t (.str sd)),some (.t (.str nm)),some (.t (.str kd)),some (.t (.int till)),none,none,none,none] (put m i s)=.ok (.ret (.t (offT sd nm kd mk sz w many least weight till))) (put m i s12):=by
  refine(Zn (w:=.t (.int many)) (m1:=put m i s4) (ZZ (Z2 (Zc (ZD (Zb _) ((Zu (Zc (Za rfl) (Zc (Zb _) Zo))).trans d1) rfl) (Zc (ZD (Zb _) ((Zu (Zc (Za rfl) (Zc (Zb _) Zo))).trans d2) rfl) (Zc (ZD (Zb _) ((Zu (Zc (Za rfl) (Zc (ZD (Zb _) (Zb _) rfl) Zo))).trans d3) rfl) Zo))) rfl Zv) ((Zu (Zc (Za rfl) (Zc (Zb _) Zo))).trans d4) hz)).trans ?_
  refine(Zn (w:=.t (.int least)) (m1:=put m i s6) (ZZ (Z2 (Zc (Zb _) (Zc (ZD (Zb _) ((Zu (Zc (Za rfl) (Zc (Za rfl) Zo))).trans d5) rfl) (Zc (Za rfl) Zo))) rfl Zv) ((Zu (Zc (Za rfl) (Zc (Zb _) Zo))).trans d6) hz2)).trans ?_
  refine(Zn (w:=.t w) (m1:=put m i s8) (ZZ (Z2 (Zc (Qu (Zc (Zb _) Zo) rfl Zv) (Zc ((Zu (Zc (Za rfl) (Zc (Zb _) Zo))).trans d7) Zo)) rfl Zv) ((Zu (Zc (Za rfl) (Zc (Zb _) Zo))).trans d8) hz3)).trans ?_
  refine(Zn (w:=.t (.int weight)) (m1:=put m i s11) (ZZ (Z2 (Zc ((Zu (Zc (Za rfl) (Zc (Zb _) Zo))).trans d9) (Zc ((Zu (Zc (Za rfl) (Zc (Zb _) Zo))).trans d10) Zo)) rfl Zv) ((Zu (Zc (Za rfl) (Zc (Zb _) Zo))).trans d11) hz4)).trans ?_
  exact ZW (Qu (Zc (Za rfl) (Zc ((Zu (Zc (Za rfl) (Zc (Za rfl) (Zc (Za rfl) Zo)))).trans d12) (Zc (Za rfl) (Zc (Za rfl) (Zc (Za rfl) (Zc (Za rfl) (Zc (Za rfl) Zo))))))) rfl Zv)
 exact Qt (Zgy _ _ _) rfl key (Qg (cell:=false) (by rw[Zi,Zi]))
theorem ZX{call:Nat->List W->Mem->Res W}{gv:List T}{env:Env}{m:Mem}:ex call gv .done env m=.ok (.next env) m:=by rw[ex]
structure Ent where
 sd:List Nat
 nm:List Nat
 kd:List Nat
 mrk:List (List Nat)
 sz:List (List Nat×Int)
 w:T
 many:Int
 least:Int
 wt:Int
 till:Int
 left:Int
noncomputable def Ent.card(e:Ent):T:=ZeN e.nm e.kd e.mrk e.sz
noncomputable def Ent.off(e:Ent):T:=offT e.sd e.nm e.kd e.mrk e.sz e.w e.many e.least e.wt e.till
noncomputable def Ent.t(e:Ent):T:=.tup [e.off,.int e.left]
theorem Q3{α:Type}{f:Env->Mem->Res (List T)}{tg:Tg}{env:Env}{m:Mem}{emb:α->T}{g:α->List T}:∀(as:List α),(∀a∈as,∃env',Z7 tg (emb a) env=some env'/\f env' m=.ok (g a) m)->QM f tg (as.map emb) env m=.ok (as.flatMap g) m
 |[],_=>rfl
 |a::as,h=>by
  obtain⟨env',h1,h2⟩:=h a List.mem_cons_self
  rw[List.map_cons,QM,h1]
  show(f env' m).bind _=_
  rw[h2,Zh,Q3 as λx hx=>h x (List.mem_cons_of_mem _ hx)]
  rfl
structure Wt where
 no:Int
 e:Ent
noncomputable def Wt.t(w:Wt):T:=.tup [.int w.no,w.e.off,.int w.e.left]
noncomputable def Z4:List Nat:=[103,105,118,101]
noncomputable def Z6:List Nat:=[116,97,107,101]
noncomputable def Z3:List Nat:=[98,101,97,114]
noncomputable def isK(k:List Nat)(w:Wt):Bool:=w.e.kd==k
noncomputable def isS(sd:List Nat)(w:Wt):Bool:=w.e.sd==sd
noncomputable def nums(sd k:List Nat)(ws:List Wt):List Int:=((ws.filter (isK k)).filter (isS sd)).map (·.no)
noncomputable def hasK(bn:List (List Nat))(k:List Nat):Bool:=bn.any λb=>b==k
noncomputable def prsK(ws:List Wt)(k:List Nat):List (Int×Int):=(nums Z4 k ws).flatMap λg=>(nums Z6 k ws).map λt=>(g,t)
noncomputable def oneK(bn:List (List Nat))(ws:List Wt)(k:List Nat):List (List Int):=
 if hasK bn k then(prsK ws k).flatMap λp=>(nums Z3 k ws).map λb=>[p.1,p.2,b]else(prsK ws k).map λp=>[p.1,p.2]
noncomputable def ZC(bn:List (List Nat))(ws:List Wt):List (List Int):=(ZM (ws.map (·.e.kd))).flatMap (oneK bn ws)
noncomputable def Z1(k:List Nat)(ws:List Wt):List Int:=(ws.filter λw=>isS Z3 w&&isK k w).map (·.no)
noncomputable def twoK(bn:List (List Nat))(ws:List Wt)(v w:Wt):List (List Int):=
 if(isS Z4 v&&isS Z6 w)&&isK v.e.kd w then(if hasK bn v.e.kd then(Z1 v.e.kd ws).map λb=>[v.no,w.no,b]else[[v.no,w.no]])else[]
noncomputable def Ju(bn:List (List Nat))(ws:List Wt):List (List Int):=ws.flatMap λv=>ws.flatMap λw=>twoK bn ws v w
theorem QC{sd k:List Nat}{ws:List Wt}{x:Int}:x∈nums sd k ws↔∃w∈ws,w.e.kd=k/\w.e.sd=sd/\w.no=x:=by
 unfold nums
 rw[List.mem_map]
 constructor
 ·rintro ⟨w,hw,e⟩
  rw[List.mem_filter,List.mem_filter]at hw
  exact⟨w,hw.1.1,eq_of_beq hw.1.2,eq_of_beq hw.2,e⟩
 ·rintro ⟨w,hw,h1,h2,e⟩
  refine⟨w,?_,e⟩
  rw[List.mem_filter,List.mem_filter]
  exact⟨⟨hw,by unfold isK;rw[h1];exact beq_self_eq_true _⟩,by unfold isS;rw[h2];exact beq_self_eq_true _⟩
theorem Za0{k:List Nat}{ws:List Wt}{x:Int}:x∈Z1 k ws↔∃w∈ws,w.e.kd=k/\w.e.sd=Z3/\w.no=x:=by
 unfold Z1
 rw[List.mem_map]
 constructor
 ·rintro ⟨w,hw,e⟩
  rw[List.mem_filter,Bool.and_eq_true]at hw
  exact⟨w,hw.1,eq_of_beq hw.2.2,eq_of_beq hw.2.1,e⟩
 ·rintro ⟨w,hw,h1,h2,e⟩
  refine⟨w,?_,e⟩
  rw[List.mem_filter,Bool.and_eq_true]
  exact⟨hw,by unfold isS;rw[h2];exact beq_self_eq_true _,by unfold isK;rw[h1];exact beq_self_eq_true _⟩
noncomputable def InS(bn:List (List Nat))(ws:List Wt)(x:List Int):Prop:=∃v∈ws,∃w∈ws,v.e.sd=Z4/\w.e.sd=Z6/\w.e.kd=v.e.kd /\
 ((hasK bn v.e.kd=true/\∃u∈ws,u.e.kd=v.e.kd/\u.e.sd=Z3/\x=[v.no,w.no,u.no])∨(hasK bn v.e.kd=false/\x=[v.no,w.no]))
theorem ZbB{ws:List Wt}{k:List Nat}{p:Int×Int}:p∈prsK ws k↔p.1∈nums Z4 k ws/\p.2∈nums Z6 k ws:=by
 unfold prsK
 rw[List.mem_flatMap]
 constructor
 ·rintro ⟨g,hg,h⟩
  obtain⟨t,ht,rfl⟩:=List.mem_map.mp h
  exact⟨hg,ht⟩
 ·rintro ⟨h1,h2⟩
  exact⟨p.1,h1,List.mem_map.mpr ⟨p.2,h2,rfl⟩⟩
theorem ZbE{bn:List (List Nat)}{ws:List Wt}{k:List Nat}{x:List Int}:x∈oneK bn ws k↔∃g t,g∈nums Z4 k ws/\t∈nums Z6 k ws/\((hasK bn k=true/\∃b∈nums Z3 k ws,x=[g,t,b])∨(hasK bn k=false/\x=[g,t])):=by
 unfold oneK
 cases hk:hasK bn k with
 |true =>
  rw[if_pos rfl,List.mem_flatMap]
  constructor
  ·rintro ⟨p,hp,h⟩
   obtain⟨b,hb,rfl⟩:=List.mem_map.mp h
   obtain⟨h1,h2⟩:=ZbB.mp hp
   exact⟨p.1,p.2,h1,h2,.inl ⟨rfl,b,hb,rfl⟩⟩
  ·rintro ⟨g,t,h1,h2,⟨_,b,hb,rfl⟩|⟨z,_⟩⟩
   ·exact⟨(g,t),ZbB.mpr ⟨h1,h2⟩,List.mem_map.mpr ⟨b,hb,rfl⟩⟩
   ·cases z
 |false =>
  rw[if_neg Bool.false_ne_true,List.mem_map]
  constructor
  ·rintro ⟨p,hp,rfl⟩
   obtain⟨h1,h2⟩:=ZbB.mp hp
   exact⟨p.1,p.2,h1,h2,.inr ⟨rfl,rfl⟩⟩
  ·rintro ⟨g,t,h1,h2,⟨z,_⟩|⟨_,rfl⟩⟩
   ·cases z
   ·exact⟨(g,t),ZbB.mpr ⟨h1,h2⟩,rfl⟩
theorem Qc{bn:List (List Nat)}{ws:List Wt}{x:List Int}:x∈ZC bn ws↔InS bn ws x:=by
 unfold ZC
 rw[List.mem_flatMap]
 constructor
 ·rintro ⟨k,_,h⟩
  obtain⟨g,t,h1,h2,h3⟩:=ZbE.mp h
  obtain⟨v,hv,a1,a2,rfl⟩:=QC.mp h1
  obtain⟨w,hw,b1,b2,rfl⟩:=QC.mp h2
  refine⟨v,hv,w,hw,a2,b2,b1.trans a1.symm,?_⟩
  rcases h3 with⟨q,b,hb,rfl⟩|⟨q,rfl⟩
  ·obtain⟨u,hu,c1,c2,rfl⟩:=QC.mp hb
   exact .inl ⟨by rw[a1];exact q,u,hu,c1.trans a1.symm,c2,rfl⟩
  ·exact .inr ⟨by rw[a1];exact q,rfl⟩
 ·rintro ⟨v,hv,w,hw,a2,b2,bk,h⟩
  refine⟨v.e.kd,(Jy _ _).mpr (List.mem_map.mpr ⟨v,hv,rfl⟩),ZbE.mpr ⟨v.no,w.no,QC.mpr ⟨v,hv,rfl,a2,rfl⟩,QC.mpr ⟨w,hw,bk,b2,rfl⟩,?_⟩⟩
  rcases h with⟨q,u,hu,c1,c2,rfl⟩|⟨q,rfl⟩
  ·exact .inl ⟨q,u.no,QC.mpr ⟨u,hu,c1,c2,rfl⟩,rfl⟩
  ·exact .inr ⟨q,rfl⟩
theorem ZcL{bn:List (List Nat)}{ws:List Wt}{v w:Wt}{x:List Int}:x∈twoK bn ws v w↔v.e.sd=Z4/\w.e.sd=Z6/\w.e.kd=v.e.kd/\((hasK bn v.e.kd=true/\∃u∈ws,u.e.kd=v.e.kd/\u.e.sd=Z3/\x=[v.no,w.no,u.no])∨(hasK bn v.e.kd=false/\x=[v.no,w.no])):=by
 unfold twoK
 by_cases h:((isS Z4 v&&isS Z6 w)&&isK v.e.kd w)=true
 ·rw[if_pos h]
  rw[Bool.and_eq_true,Bool.and_eq_true]at h
  have h1:v.e.sd=Z4:=eq_of_beq h.1.1
  have h2:w.e.sd=Z6:=eq_of_beq h.1.2
  have h3:w.e.kd=v.e.kd:=eq_of_beq h.2
  cases hk:hasK bn v.e.kd with
  |true =>
   rw[if_pos rfl,List.mem_map]
   constructor
   ·rintro ⟨b,hb,rfl⟩
    obtain⟨u,hu,c1,c2,rfl⟩:=Za0.mp hb
    exact⟨h1,h2,h3,.inl ⟨rfl,u,hu,c1,c2,rfl⟩⟩
   ·rintro ⟨_,_,_,⟨_,u,hu,c1,c2,rfl⟩|⟨z,_⟩⟩
    ·exact⟨u.no,Za0.mpr ⟨u,hu,c1,c2,rfl⟩,rfl⟩
    ·cases z
  |false =>
   rw[if_neg Bool.false_ne_true,List.mem_singleton]
   constructor
   ·rintro rfl
    exact⟨h1,h2,h3,.inr ⟨rfl,rfl⟩⟩
   ·rintro ⟨_,_,_,⟨z,_⟩|⟨_,rfl⟩⟩
    ·cases z
    ·rfl
 ·rw[if_neg h]
  constructor
  ·intro z;cases z
  ·rintro ⟨h1,h2,h3,_⟩
   refine absurd ?_ h
   unfold isS isK
   rw[h1,h2,h3,beq_self_eq_true,beq_self_eq_true,beq_self_eq_true]
   rfl
theorem JP{bn:List (List Nat)}{ws:List Wt}{x:List Int}:x∈Ju bn ws↔InS bn ws x:=by
 unfold Ju
 rw[List.mem_flatMap]
 constructor
 ·rintro ⟨v,hv,h⟩
  obtain⟨w,hw,h⟩:=List.mem_flatMap.mp h
  obtain⟨h1,h2,h3,h4⟩:=ZcL.mp h
  exact⟨v,hv,w,hw,h1,h2,h3,h4⟩
 ·rintro ⟨v,hv,w,hw,h1,h2,h3,h4⟩
  exact⟨v,hv,List.mem_flatMap.mpr ⟨w,hw,ZcL.mpr ⟨h1,h2,h3,h4⟩⟩⟩
theorem Xh{α β:Type}{f:α->List β}:∀{l:List α},l.Nodup->(∀a∈l,(f a).Nodup)->(∀a∈l,∀b∈l,∀x,x∈f a->x∈f b->a=b)->(l.flatMap f).Nodup
 |[],_,_,_=>List.nodup_nil
 |a::l,hl,hf,hd=>by
  rw[List.flatMap_cons,List.nodup_append]
  obtain⟨h1,h2⟩:=List.nodup_cons.mp hl
  refine⟨hf a List.mem_cons_self,Xh h2 (λb hb=>hf b (List.mem_cons_of_mem _ hb)) (λb hb c hc=>hd b (List.mem_cons_of_mem _ hb) c (List.mem_cons_of_mem _ hc)),λx hx y hy e=>?_⟩
  subst e
  obtain⟨b,hb,hxb⟩:=List.mem_flatMap.mp hy
  have:=hd a List.mem_cons_self b (List.mem_cons_of_mem _ hb) x hx hxb
  exact h1 (this▸hb)
theorem ZdN{α β:Type}{f:α->β}{l:List α}(hl:l.Nodup)(hf:∀a b,f a=f b->a=b):(l.map f).Nodup:=List.pairwise_map.mpr (hl.imp λh e=>h (hf _ _ e))
theorem nd_of{α β:Type}{f:α->β}{l:List α}(h:(l.map f).Nodup):l.Nodup:=(List.pairwise_map.mp h).imp λq e=>q (congrArg f e)
theorem ZdL:∀{ws:List Wt},(ws.map (·.no)).Nodup->∀{v w:Wt},v∈ws->w∈ws->v.no=w.no->v=w
 |[],_,v,w,h,_,_=>by cases h
 |a::ws,hn,v,w,hv,hw,e=>by
  rw[List.map_cons,List.nodup_cons]at hn
  rcases List.mem_cons.mp hv with h1|h1<;>rcases List.mem_cons.mp hw with h2|h2
  ·rw[h1,h2]
  ·exact absurd (List.mem_map.mpr ⟨w,h2,by rw[<-e,h1]⟩) hn.1
  ·exact absurd (List.mem_map.mpr ⟨v,h1,by rw[e,h2]⟩) hn.1
  ·exact ZdL hn.2 h1 h2 e
theorem Zc3{sd k:List Nat}{ws:List Wt}(h:(ws.map (·.no)).Nodup):(nums sd k ws).Nodup:=by
 unfold nums
 exact List.Pairwise.sublist (List.Sublist.map _ (List.Sublist.trans (List.filter_sublist) (List.filter_sublist))) h
theorem Ze8{k:List Nat}{ws:List Wt}(h:(ws.map (·.no)).Nodup):(Z1 k ws).Nodup:=by
 unfold Z1
 exact List.Pairwise.sublist (List.Sublist.map _ List.filter_sublist) h
theorem Zih{k:List Nat}{ws:List Wt}(h:(ws.map (·.no)).Nodup):(prsK ws k).Nodup:=by
 refine Xh (Zc3 h) (λg _=>ZdN (Zc3 h) λa b e=>(Prod.mk.inj e).2) λa _ b _ x hx hy=>?_
 obtain⟨t,_,rfl⟩:=List.mem_map.mp hx
 obtain⟨t',_,e⟩:=List.mem_map.mp hy
 exact(Prod.mk.inj e).1.symm
theorem one_nd{bn:List (List Nat)}{k:List Nat}{ws:List Wt}(h:(ws.map (·.no)).Nodup):(oneK bn ws k).Nodup:=by
 unfold oneK
 split
 ·refine Xh (Zih h) (λp _=>ZdN (Zc3 h) λa b e=>by simpa using e) λa _ b _ x hx hy=>?_
  obtain⟨t,_,rfl⟩:=List.mem_map.mp hx
  obtain⟨t',_,e⟩:=List.mem_map.mp hy
  have e:b.1=a.1/\b.2=a.2/\t'=t:=by simpa using e
  exact(Prod.ext e.1 e.2.1).symm
 ·exact ZdN (Zih h) λa b e=>by
   have e:a.1=b.1/\a.2=b.2:=by simpa using e
   exact Prod.ext e.1 e.2
theorem JN{bn:List (List Nat)}{ws:List Wt}(h:(ws.map (·.no)).Nodup):(ZC bn ws).Nodup:=by
 refine Xh (Za2 _) (λk _=>one_nd h) λk _ k' _ x hx hy=>?_
 obtain⟨g,t,h1,_,h3⟩:=ZbE.mp hx
 obtain⟨g',t',h1',_,h3'⟩:=ZbE.mp hy
 have e:g=g':=by
  rcases h3 with⟨_,b,_,rfl⟩|⟨_,rfl⟩<;>rcases h3' with⟨_,b',_,e⟩|⟨_,e⟩<;>simp at e<;>exact e.1
 subst e
 obtain⟨v,hv,rfl,_,a3⟩:=QC.mp h1
 obtain⟨w,hw,rfl,_,b3⟩:=QC.mp h1'
 rw[ZdL h hv hw (a3.trans b3.symm)]
theorem Zbo{bn:List (List Nat)}{ws:List Wt}(h:(ws.map (·.no)).Nodup):(Ju bn ws).Nodup:=by
 have two:∀(v w:Wt) (x:List Int),x∈twoK bn ws v w->∃r,x=v.no::w.no::r:=λv w x hx=>by
  obtain⟨_,_,_,h⟩:=ZcL.mp hx
  rcases h with⟨_,u,_,_,_,rfl⟩|⟨_,rfl⟩<;>exact⟨_,rfl⟩
 refine Xh (nd_of h) (λv _=>Xh (nd_of h) (λw _=>?_) λa ha b hb x hx hy=>?_) λa ha b hb x hx hy=>?_
 ·unfold twoK
  split
  ·split
   ·exact ZdN (Ze8 h) λa b e=>by simpa using e
   ·simp
  ·exact List.nodup_nil
 ·obtain⟨r,rfl⟩:=two _ _ _ hx
  obtain⟨r',e⟩:=two _ _ _ hy
  have e:a.no=b.no/\r=r':=by simpa using e
  exact ZdL h ha hb e.1
 ·obtain⟨w,_,hx⟩:=List.mem_flatMap.mp hx
  obtain⟨w',_,hy⟩:=List.mem_flatMap.mp hy
  obtain⟨r,rfl⟩:=two _ _ _ hx
  obtain⟨r',e⟩:=two _ _ _ hy
  have e:a.no=b.no/\w.no=w'.no/\r=r':=by simpa using e
  exact ZdL h ha hb e.1
theorem ZbZ{xs ys:List (List Int)}(h1:xs.Nodup)(h2:ys.Nodup)(h:∀x,x∈xs↔x∈ys):sortI xs=sortI ys:=ZdC ((sortI_perm xs).trans ((List.perm_ext_iff_of_nodup h1 h2).mpr h)) (Zbm xs)
theorem X7{α β:Type}{f:α->List β}{c:Nat}:∀{l:List α},(∀a∈l,(f a).length<=c)->(l.flatMap f).length<=l.length*c
 |[],_=>Nat.zero_le _
 |a::l,h=>by
  have h1:=h a List.mem_cons_self
  have h2:=X7 (l:=l) λb hb=>h b (List.mem_cons_of_mem _ hb)
  rw[List.flatMap_cons,List.length_append,List.length_cons,Nat.succ_mul]
  omega
theorem Zah{bn:List (List Nat)}{ws:List Wt}(h:ws.length<=30):(Ju bn ws).length<=27000:=by
 have h1:∀v w,(twoK bn ws v w).length<=30:=λv w=>by
  unfold twoK
  split
  ·split
   ·rw[List.length_map]
    unfold Z1
    rw[List.length_map]
    exact Nat.le_trans (List.length_filter_le _ _) h
   ·exact Nat.le_of_ble_eq_true rfl
  ·exact Nat.zero_le _
 have h2:∀v:Wt,(ws.flatMap λw=>twoK bn ws v w).length<=900:=λv=>Nat.le_trans (X7 (c:=30) λw _=>h1 v w) (by have:=Nat.mul_le_mul_right 30 h;omega)
 exact Nat.le_trans (X7 (c:=900) λv _=>h2 v) (by have:=Nat.mul_le_mul_right 900 h;omega)
theorem Zfi{bn:List (List Nat)}{ws:List Wt}(h:(ws.map (·.no)).Nodup):(ZC bn ws).Perm (Ju bn ws):=(List.perm_ext_iff_of_nodup (JN h) (Zbo h)).mpr λx=>Qc.trans JP.symm
theorem Zfj{bn:List (List Nat)}{ws:List Wt}(h:(ws.map (·.no)).Nodup)(hl:ws.length<=30):(ZC bn ws).length<=27000:=by
 rw[(Zfi (bn:=bn) h).length_eq]
 exact Zah hl
theorem ZdQ{bn:List (List Nat)}{ws:List Wt}{x:List Int}(h:InS bn ws x):x.length=2∨x.length=3:=by
 obtain⟨v,_,w,_,_,_,_,h⟩:=h
 rcases h with⟨_,u,_,_,_,rfl⟩|⟨_,rfl⟩
 ·exact .inr rfl
 ·exact .inl rfl
theorem Zgc:∀ns:List Int,ints? (ns.map T.int)=some ns
 |[]=>rfl
 |n::ns=>by
  have:=Zgc ns
  simp[ints?,this]
theorem Ze4:∀ks:List (List Int),tups? (ks.map tupT)=some ks
 |[]=>rfl
 |k::ks=>by
  rw[List.map_cons,tups?,Ze4 ks]
  have:tupI? (tupT k)=some k:=by
   unfold tupI? tupT
   exact Zgc k
  rw[this]
  rfl
theorem Zfe{ks:List (List Int)}(h1:ks.Nodup)(h2:ks.length<=900000)(h3:∀k∈ks,k≠[]):Q5 (ks.map tupT)=some (.lst ((sortI ks).map tupT)):=by
 unfold Q5
 rw[Ze4]
 refine if_pos ⟨h1,h2,List.all_eq_true.mpr λk hk=>?_⟩
 cases k with
 |nil=>exact absurd rfl (h3 _ hk)
 |cons _ _=>rfl
section
variable{call:Nat->List W->Mem->Res W}{gv:List T}{env:Env}{m m1:Mem}
theorem ZbP{α:Type}{own:Nat}{keep:List Nat}{it:E}{tg:Tg}{cs:Es}{inner:E}{x:T}{emb:α->T}{g:α->List T}(as:List α)(hit:ev call gv it env m=.ok (.t x) m)(hb:ZQ (.t x) m=.ok (as.map emb) m)(h:∀a∈as,∃env',Z7 tg (emb a) (List.replicate own none++keep.map λi=>(env[i]?).join)=some env'/\QD call gv cs inner env' m=.ok (g a) m)(hz:(as.flatMap g).length<=lim):ev call gv (.comp own keep it tg cs inner) env m=.ok (.t (.lst (as.flatMap g))) m:=
 Jh hit hb (Q3 as h) hz
theorem moreA{α:Type}{it:E}{tg:Tg}{cs:Es}{inner:E}{x:T}{emb:α->T}{g:α->List T}(as:List α)(hit:ev call gv it env m=.ok (.t x) m)(hb:ZQ (.t x) m=.ok (as.map emb) m)(h:∀a∈as,∃env',Z7 tg (emb a) env=some env'/\QD call gv cs inner env' m=.ok (g a) m):ev call gv (.more it tg cs inner) env m=.ok (.t (.lst (as.flatMap g))) m:=by
 have e:ev call gv (.more it tg cs inner) env m=(ev call gv it env m).bind λx m0=>(ZQ x m0).bind λts m =>
  (QM (QD call gv cs inner) tg ts env m).bind λout m=>.ok (.t (.lst out)) (giveBack x m0 m):=by rw[ev];rfl
 rw[e,hit,Zh,hb,Zh,Q3 as h]
 rfl
theorem Zj0{is:List Nat}{e:E}{k:S}{ts:List T}{env':Env}(h:ev call gv e env m=.ok (.t (.lst ts)) m1)(h2:Z7 (.tp is) (.tup ts) env=some env'):ex call gv (.asgL is e k) env m=ex call gv k env' m1:=by
 rw[ex,h]
 show(match Z7 (.tp is) (.tup ts) env with
  |some env=>ex call gv k env m1
  |none=>.stuck)=_
 rw[h2]
theorem Zaw{b:Mt}{i j:Nat}{a:E}{c:Bool×List T}{xs ys:List T}{x t:T}(hb:b=.append∨b=.popat∨b=.extend)(hv:env[i]?=some (some (.c j)))(h0:m[j]?=some (some c))(ha:ev call gv a env m=.ok (.t x) m1)(hm:m1[j]?=some (some (false,xs)))(hu:mutM b xs [x]=some (t,ys)):
  ev call gv (.mth b (.var i) (.cons a .nil)) env m=.ok (.t t) (m1.set j (some (false,ys))):=by
 rw[ev,Za hv,Zh]
 have ht:tyM b (.c j) m=true:=by
  rcases hb with rfl|rfl|rfl<;>· unfold tyM;dsimp only;rw[h0]
 rw[if_pos ht,evs,ha,Zh,evs,Zh,Zh]
 rcases hb with rfl|rfl|rfl<;>simp[doM,ZdS,ZdR,Zh,hm,hu]
theorem ZJ{α:Type}(p:α->Bool)(F:α->T):∀l:List α,(l.flatMap λa=>if p a then[F a]else[])=(l.filter p).map F
 |[]=>rfl
 |a::l=>by
  rw[List.flatMap_cons,ZJ p F l,List.filter_cons]
  cases p a<;>rfl
theorem Qh{c:Option (Bool×List T)}:(m++[c])[m.length]?=some c:=by
 rw[List.getElem?_append_right (Nat.le_refl _),Nat.sub_self]
 rfl
theorem ZcP{c d:Option (Bool×List T)}:(m++[c]).set m.length d=m++[d]:=by
 rw[List.set_append_right _ _ (Nat.le_refl _),Nat.sub_self]
 rfl
end
noncomputable def il(ns:List Int):T:=.lst (ns.map .int)
noncomputable def bnT(bn:List (List Nat)):T:=.tup (bn.map .str)
noncomputable def wsT(ws:List Wt):T:=.lst (ws.map Wt.t)
section
variable{n:Nat}{m:Mem}{ws:List Wt}{bn:List (List Nat)}{k:List Nat}
theorem Zbb{e:Ent}:cf (n+1) 0 [.t e.off] m=.ok (.t (.str e.kd)) m:=
 Qt (ZeK _ _ _) rfl (ZW (ZZ (ZZ (Za rfl) (Zb _) rfl) (Zb _) rfl)) (Qg rfl)
theorem ZdI(sd:List Nat):(nums sd k ws).length<=ws.length:=by
 unfold nums
 rw[List.length_map]
 exact Nat.le_trans (List.length_filter_le _ _) (List.length_filter_le _ _)
theorem Zh7(hl:ws.length<=30){e2:Option W}:ev (cf (n+1)) gv XH [some (.t (.str k)),some (.t (wsT ws)),e2] m=.ok (.t (.lst ((ws.filter (isK k)).map Wt.t))) m:=by
 rw[<-ZJ (isK k) Wt.t]
 refine ZbP ws (Za rfl) rfl (λw _=>⟨[some (.t w.t),some (.t (.str k))],rfl,?_⟩) ?_
 ·have ht:ev (cf (n+1)) gv (.cmp .Eq (.call 0 (.cons (.ix (.var 0) (.con (.int 1))) .nil)) (.var 1)) [some (.t w.t),some (.t (.str k))] m=.ok (.t (.bl (isK k w))) m:=
   Qj ((Zaa (ZZ (Za rfl) (Zb _) rfl)).trans Zbb) (Za rfl) (Zh2 _ _)
  cases h:isK k w with
  |true=>rw[h]at ht;exact Zdy ht (Q4 (Za rfl))
  |false=>rw[h]at ht;exact ZaZ ht
 ·rw[ZJ,List.length_map]
  exact Nat.le_trans (List.length_filter_le _ _) (Nat.le_trans hl (by decide))
theorem ZiR(hl:ws.length<=30){sd:List Nat}:ev (cf (n+1)) gv XJ [some (.t (.str sd)),some (.t (.lst ((ws.filter (isK k)).map Wt.t)))] m=.ok (.t (il (nums sd k ws))) m:=by
 have e:il (nums sd k ws)=.lst ((ws.filter (isK k)).flatMap λw=>if isS sd w then[T.int w.no]else[]):=by
  rw[ZJ]
  unfold il nums
  rw[List.map_map]
  rfl
 rw[e]
 refine ZbP (ws.filter (isK k)) (Za rfl) rfl (λw _=>⟨[some (.t (.int w.no)),some (.t w.e.off),some (.t (.int w.e.left)),some (.t (.str sd))],rfl,?_⟩) ?_
 ·have ht:ev (cf (n+1)) gv (.cmp .Eq (.ix (.var 1) (.con (.int 0))) (.var 3)) [some (.t (.int w.no)),some (.t w.e.off),some (.t (.int w.e.left)),some (.t (.str sd))] m=.ok (.t (.bl (isS sd w))) m:=
   Qj (ZZ (Za rfl) (Zb _) rfl) (Za rfl) (Zh2 _ _)
  cases h:isS sd w with
  |true=>rw[h]at ht;exact Zdy ht (Q4 (Za rfl))
  |false=>rw[h]at ht;exact ZaZ ht
 ·rw[ZJ,List.length_map]
  exact Nat.le_trans (List.length_filter_le _ _) (Nat.le_trans (List.length_filter_le _ _) (Nat.le_trans hl (by decide)))
theorem ZgY(hl:ws.length<=30):cf (n+2) 1 [.t (.str k),.t (wsT ws)] m=.ok (.t (.lst [il (nums Z4 k ws),il (nums Z6 k ws),il (nums Z3 k ws)])) m:=by
 have key:ex (cf (n+1)) gv QS [some (.t (.str k)),some (.t (wsT ws)),none] m=.ok (.ret (.t (.lst [il (nums Z4 k ws),il (nums Z6 k ws),il (nums Z3 k ws)]))) m:=by
  unfold QS
  refine(Zn (Zh7 hl)).trans ?_
  dsimp only[List.set_cons_succ,List.set_cons_zero]
  refine ZW ?_
  refine ZbP (emb:=T.str) (g:=λsd=>[il (nums sd k ws)]) [Z4,Z6,Z3] (x:=.tup [.str Z4,.str Z6,.str Z3]) (by rw[ev,ZhI];rfl) rfl (λsd _=>⟨[some (.t (.str sd)),some (.t (.lst ((ws.filter (isK k)).map Wt.t)))],rfl,?_⟩) (Nat.le_trans (show(3:Nat)<=3 from Nat.le_refl _) (by decide))
  exact ZcM (Q4 (ZiR hl))
 exact Qt (Zdl _ _ _) rfl key (Qg rfl)
noncomputable def prT(p:Int×Int):T:=tupT [p.1,p.2]
theorem Zhv(hl:ws.length<=30){e0 e1 e2 e3 e6 e7:Option W}:ev (cf n) gv ZaD [e0,e1,e2,e3,some (.t (il (nums Z4 k ws))),some (.t (il (nums Z6 k ws))),e6,e7] m=.ok (.t (.lst ((prsK ws k).map prT))) m:=by
 have e:(prsK ws k).map prT=(nums Z4 k ws).flatMap λg=>(nums Z6 k ws).flatMap λt=>[tupT [g,t]]:=by
  unfold prsK
  rw[List.map_flatMap]
  refine congrArg (λf=>List.flatMap f (nums Z4 k ws)) (funext λg=>?_)
  rw[Z9,List.map_map]
  rfl
 have hz:((prsK ws k).map prT).length<=lim:=by
  rw[List.length_map]
  have h1:=ZdI (k:=k) (ws:=ws) Z4
  have h2:=ZdI (k:=k) (ws:=ws) Z6
  have:=X7 (l:=nums Z4 k ws) (f:=λg=>(nums Z6 k ws).map λt=>(g,t)) (c:=30) λg _=>by rw[List.length_map];omega
  have h3:(prsK ws k).length<=(nums Z4 k ws).length*30:=this
  have h4:(nums Z4 k ws).length*30<=30*30:=Nat.mul_le_mul_right 30 (by omega)
  unfold lim
  omega
 rw[e]at hz ⊢
 refine ZbP (emb:=T.int) (nums Z4 k ws) (Za rfl) rfl (λg _=>⟨[some (.t (.int g)),none,some (.t (il (nums Z6 k ws)))],rfl,ZcM ?_⟩) hz
 exact moreA (emb:=T.int) (nums Z6 k ws) (Za rfl) rfl (λt _=>⟨[some (.t (.int g)),some (.t (.int t)),some (.t (il (nums Z6 k ws)))],rfl,ZcM (Q4 (Xm (Za rfl) (Za rfl)))⟩)
theorem Zd3(hl:ws.length<=30)(hn:(oneK bn ws k).length<=27000)(hk:hasK bn k=true){e0 e1 e2 e3 e4 e5:Option W}:ev (cf n) gv ZaE [e0,e1,e2,e3,e4,e5,some (.t (il (nums Z3 k ws))),some (.t (.lst ((prsK ws k).map prT)))] m=.ok (.t (.lst ((oneK bn ws k).map tupT))) m:=by
 have e:(oneK bn ws k).map tupT=(prsK ws k).flatMap λp=>(nums Z3 k ws).flatMap λb=>[tupT [p.1,p.2,b]]:=by
  unfold oneK
  rw[if_pos hk,List.map_flatMap]
  refine congrArg (λf=>List.flatMap f (prsK ws k)) (funext λg=>?_)
  rw[Z9,List.map_map]
  rfl
 have hz:((oneK bn ws k).map tupT).length<=lim:=by
  rw[List.length_map]
  unfold lim
  omega
 rw[e]at hz ⊢
 refine ZbP (emb:=prT) (prsK ws k) (Za rfl) rfl (λp _=>⟨[some (.t (.int p.1)),some (.t (.int p.2)),none,some (.t (il (nums Z3 k ws)))],rfl,ZcM ?_⟩) hz
 exact moreA (emb:=T.int) (nums Z3 k ws) (Za rfl) rfl (λt _=>⟨[some (.t (.int p.1)),some (.t (.int p.2)),some (.t (.int t)),some (.t (il (nums Z3 k ws)))],rfl,ZcM (Q4 (Zdf (Za rfl) (Za rfl) (Za rfl)))⟩)
theorem kinds_ok(hl:ws.length<=30){e0 e2 e3 e4 e5 e6 e7:Option W}:ev (cf (n+1)) gv (.blt .sortset (.cons JC .nil)) [e0,some (.t (wsT ws)),e2,e3,e4,e5,e6,e7] m=.ok (.t (.lst ((ZM (ws.map (·.e.kd))).map .str))) m:=by
 have h:ev (cf (n+1)) gv JC [e0,some (.t (wsT ws)),e2,e3,e4,e5,e6,e7] m=.ok (.t (.lst (ws.map λw=>.str w.e.kd))) m:=by
  rw[<-Z9 (λw:Wt=>T.str w.e.kd)]
  refine ZbP ws (Za rfl) rfl (λw _=>⟨[some (.t w.t)],rfl,ZcM (Q4 ((Zaa (ZZ (Za rfl) (Zb _) rfl)).trans Zbb))⟩) ?_
  rw[Z9,List.length_map]
  exact Nat.le_trans hl (by decide)
 refine Qv h ?_
 show((strs? (ws.map λw=>T.str w.e.kd)).bind λxs=>if xs.length<64 then some (T.lst ((ZM xs).map .str))else none)=_
 rw[strs_map (λw:Wt=>w.e.kd)]
 exact if_pos (by rw[List.length_map];omega)
theorem Zfh(hl:ws.length<=30)(hn:(oneK bn ws k).length<=27000){xs:List (List Int)}(hx:xs.length<=27000){e4 e5 e6 e7:Option W}:
  ∃g4 g5 g6 g7,ex (cf (n+2)) gv Qq [some (.t (bnT bn)),some (.t (wsT ws)),some (.c m.length),some (.t (.str k)),e4,e5,e6,e7] (m++[some (false,xs.map tupT)])=.ok (.next [some (.t (bnT bn)),some (.t (wsT ws)),some (.c m.length),some (.t (.str k)),g4,g5,g6,g7]) (m++[some (false,(xs++oneK bn ws k).map tupT)]):=by
 refine⟨some (.t (il (nums Z4 k ws))),some (.t (il (nums Z6 k ws))),some (.t (il (nums Z3 k ws))),some (.t (.lst ((prsK ws k).map prT))),?_⟩
 unfold Qq
 refine(Zj0 (ts:=[il (nums Z4 k ws),il (nums Z6 k ws),il (nums Z3 k ws)]) (env':=[some (.t (bnT bn)),some (.t (wsT ws)),some (.c m.length),some (.t (.str k)),some (.t (il (nums Z4 k ws))),some (.t (il (nums Z6 k ws))),some (.t (il (nums Z3 k ws))),e7]) ((ZK (Za rfl) (Za rfl)).trans (ZgY hl)) rfl).trans ?_
 refine(Zn (Zhv hl)).trans ?_
 dsimp only[List.set_cons_succ,List.set_cons_zero]
 have hin:ev (cf (n+2)) gv (.cmp .In (.var 3) (.var 0)) [some (.t (bnT bn)),some (.t (wsT ws)),some (.c m.length),some (.t (.str k)),some (.t (il (nums Z4 k ws))),some (.t (il (nums Z6 k ws))),some (.t (il (nums Z3 k ws))),some (.t (.lst ((prsK ws k).map prT)))] (m++[some (false,xs.map tupT)])=.ok (.t (.bl (hasK bn k))) (m++[some (false,xs.map tupT)]):=Qj (Za rfl) (Za rfl) (in_words k bn)
 have hu:mutM .extend (xs.map tupT) [.lst ((oneK bn ws k).map tupT)]=some (.non,(xs++oneK bn ws k).map tupT):=by
  rw[List.map_append]
  exact if_pos (by rw[List.length_map,List.length_map];unfold lim;omega)
 cases hk:hasK bn k with
 |true =>
  rw[hk]at hin
  refine(Zcs hin ((Xl (Zaw (.inr (.inr rfl)) rfl Qh (Zd3 hl hn hk) Qh hu)).trans ZX)).trans ?_
  rw[ZcP]
  exact ZX
 |false =>
  rw[hk]at hin
  have e:(prsK ws k).map prT=(oneK bn ws k).map tupT:=by
   unfold oneK
   rw[hk,if_neg Bool.false_ne_true,List.map_map]
   rfl
  rw[e]at hin ⊢
  refine(Ziv hin ((Xl (Zaw (.inr (.inr rfl)) rfl Qh (Za rfl) Qh hu)).trans ZX)).trans ?_
  rw[ZcP]
  exact ZX
theorem Zb2(hl:ws.length<=30):∀(ks:List (List Nat)) (xs:List (List Int)) (e3 e4 e5 e6 e7:Option W),(xs++ks.flatMap (oneK bn ws)).length<=27000 ->
  ∃g3 g4 g5 g6 g7,Qp (ex (cf (n+2)) gv Qq) (.nm 3) (ks.map .str) [some (.t (bnT bn)),some (.t (wsT ws)),some (.c m.length),e3,e4,e5,e6,e7] (m++[some (false,xs.map tupT)])=.ok (.next [some (.t (bnT bn)),some (.t (wsT ws)),some (.c m.length),g3,g4,g5,g6,g7]) (m++[some (false,(xs++ks.flatMap (oneK bn ws)).map tupT)])
 |[],xs,e3,e4,e5,e6,e7,_=>⟨e3,e4,e5,e6,e7,by rw[List.flatMap_nil,List.append_nil];rfl⟩
 |k::ks,xs,e3,e4,e5,e6,e7,hb=>by
  rw[List.flatMap_cons,<-List.append_assoc]at hb ⊢
  have hb1:(xs++oneK bn ws k).length<=27000:=by
   rw[List.length_append]at hb
   omega
  rw[List.length_append]at hb1
  obtain⟨a4,a5,a6,a7,h1⟩:=Zfh (n:=n) (m:=m) (bn:=bn) (k:=k) (xs:=xs) (e4:=e4) (e5:=e5) (e6:=e6) (e7:=e7) hl (by omega) (by omega)
  obtain⟨g3,g4,g5,g6,g7,h2⟩:=Zb2 hl ks (xs++oneK bn ws k) (some (.t (.str k))) a4 a5 a6 a7 hb
  refine⟨g3,g4,g5,g6,g7,?_⟩
  rw[List.map_cons,Qp]
  show(ex (cf (n+2)) gv Qq [some (.t (bnT bn)),some (.t (wsT ws)),some (.c m.length),some (.t (.str k)),e4,e5,e6,e7] _).bind _=_
  rw[h1]
  exact h2
theorem ZiS(hl:ws.length<=30)(hn:(ws.map (·.no)).Nodup):cf (n+3) 2 [.t (bnT bn),.t (wsT ws)] m=.ok (.c m.length) (m++[some (false,(sortI (ZC bn ws)).map tupT)]):=by
 have hlen:=Zfj (bn:=bn) hn hl
 obtain⟨g3,g4,g5,g6,g7,h⟩:=Zb2 (n:=n) (m:=m) (bn:=bn) hl (ZM (ws.map λw:Wt=>w.e.kd)) [] none none none none none hlen
 have hs:Q5 ((ZC bn ws).map tupT)=some (.lst ((sortI (ZC bn ws)).map tupT)):=Zfe (JN hn) (by omega) λk hk z=>by
  have:=ZdQ (Qc.mp hk)
  rw[z]at this
  rcases this with h|h<;>cases h
 have key:ex (cf (n+2)) gv Ji [some (.t (bnT bn)),some (.t (wsT ws)),none,none,none,none,none,none] m=.ok (.ret (.c (m.length+1))) (m++[some (false,(ZC bn ws).map tupT)]++[some (false,(sortI (ZC bn ws)).map tupT)]):=by
  unfold Ji
  refine(Zn (w:=.c m.length) (m1:=m++[some (false,[])]) (by rw[ev,evs];rfl)).trans ?_
  dsimp only[List.set_cons_succ,List.set_cons_zero]
  refine(Js (kinds_ok hl) rfl h).trans ?_
  refine ZW ?_
  rw[ev,evs,Za rfl,Zh,evs,Zh,Zh]
  have hv:views [.c m.length] (m++[some (false,(ZC bn ws).map tupT)])=some [.lst ((ZC bn ws).map tupT)]:=by
   show((view (.c m.length) (m++[some (false,(ZC bn ws).map tupT)])).bind λt=>some [t])=_
   unfold view
   dsimp only
   rw[Qh]
   rfl
  show(match(views [.c m.length] (m++[some (false,(ZC bn ws).map tupT)])).bind λts=>bltT .sortt ts with
   |some (.lst ts)=>Res.ok (W.c (m++[some (false,(ZC bn ws).map tupT)]).length) (m++[some (false,(ZC bn ws).map tupT)]++[some (false,ts)])
   |_=>.stuck)=_
  rw[hv]
  show(match Q5 ((ZC bn ws).map tupT)with
   |some (.lst ts)=>Res.ok (W.c (m++[some (false,(ZC bn ws).map tupT)]).length) (m++[some (false,(ZC bn ws).map tupT)]++[some (false,ts)])
   |_=>.stuck)=_
  rw[hs,List.length_append]
  rfl
 refine Qt (ZeJ _ _ _) rfl key ?_
 unfold fin
 dsimp only
 rw[if_neg (by omega)]
 have e1:(m++[some (false,(ZC bn ws).map tupT)]++[some (false,(sortI (ZC bn ws)).map tupT)])[m.length+1]?=some (some (false,(sortI (ZC bn ws)).map tupT)):=by
  have:=Qh (m:=m++[some (false,(ZC bn ws).map tupT)]) (c:=some (false,(sortI (ZC bn ws)).map tupT))
  rw[List.length_append]at this
  exact this
 rw[e1]
 dsimp only
 rw[if_pos rfl,List.append_assoc,List.take_left]
end
structure EntOk (e:Ent):Prop where
 card:Zh8 e.nm e.kd e.mrk e.sz
 wish:DW 2 e.w/\Dk 2 e.w
 sd:okS e.sd=true
 many:1<=e.many/\e.many<=1000000
theorem EntOk.kd{e:Ent}(h:EntOk e):okS e.kd=true:=h.card.2.2.2.2.2
theorem Ziy{a b c d:List Nat}(ha:okS a=true)(hb:okS b=true)(hc:okS c=true)(hd:okS d=true):cmpT .Eq (.tup [.str a,.str b]) (.tup [.str c,.str d])=some ((a==c)&&(b==d)):=by
 unfold okS at ha hb hc hd
 have h1:Zf 60 (.tup [.str a,.str b])=true:=by simp[Zf,Zj,ha,hb]
 have h2:Zf 60 (.tup [.str c,.str d])=true:=by simp[Zf,Zj,hc,hd]
 show(if(Zaj (.tup [.str a,.str b]) (.tup [.str c,.str d]) || (Zf 60 (.tup [.str a,.str b])&&Zf 60 (.tup [.str c,.str d])))=true then some (eqT (.tup [.str a,.str b]) (.tup [.str c,.str d]))else none)=_
 rw[h1,h2,Bool.true_and,Bool.or_true,if_pos rfl]
 simp[eqT,eqTs]
theorem Zc2:okS Z4=true:=by decide +kernel
theorem Zc1:okS Z6=true:=by decide +kernel
theorem ZfS:okS Z3=true:=by decide +kernel
structure FI (m:Mem) (j:Nat) (xs:List (List Int)) (M:Mem):Prop where
 pre:M.take m.length=m
 ge:m.length<=j
 at':M[j]?=some (some (false,xs.map tupT))
theorem FI.lt{m M:Mem}{j:Nat}{xs:List (List Int)}(h:FI m j xs M):j<M.length:=(List.getElem?_eq_some_iff.mp h.at').1
theorem FI.put{m M:Mem}{j:Nat}{xs ys:List (List Int)}(h:FI m j xs M):FI m j ys (M.set j (some (false,ys.map tupT))):=
 ⟨by rw[List.take_set_of_le h.ge];exact h.pre,h.ge,List.getElem?_set_self h.lt⟩
theorem FI.new{m M:Mem}{j:Nat}{xs ys:List (List Int)}(h:FI m j xs M):FI m M.length ys (M++[some (false,ys.map tupT)]):=
 ⟨by rw[List.take_append_of_le_length (Nat.le_of_lt (Nat.lt_of_le_of_lt h.ge h.lt))];exact h.pre,Nat.le_of_lt (Nat.lt_of_le_of_lt h.ge h.lt),Qh⟩
section
variable{n:Nat}{m:Mem}{ws:List Wt}{bn:List (List Nat)}
theorem ZbW{M:Mem}(hl:ws.length<=30)(ho:∀w∈ws,EntOk w.e){k:List Nat}(hk:okS k=true){e0 e2 e3 e4 e5 e6 e7 e8 e10:Option W}:ev (cf n) gv ZcA [e0,some (.t (wsT ws)),e2,e3,e4,e5,e6,e7,e8,some (.t (.str k)),e10] M=.ok (.t (il (Z1 k ws))) M:=by
 have e:il (Z1 k ws)=.lst (ws.flatMap λw=>if(isS Z3 w&&isK k w)then[T.int w.no]else[]):=by
  rw[ZJ]
  unfold il Z1
  rw[List.map_map]
  rfl
 rw[e]
 refine ZbP ws (Za rfl) rfl (λw hw=>⟨[some (.t (.int w.no)),some (.t w.e.off),some (.t (.int w.e.left)),some (.t (.str k))],rfl,?_⟩) ?_
 ·have ht:ev (cf n) gv (.cmp .Eq (.tup (.cons (.ix (.var 1) (.con (.int 0))) (.cons (.ix (.ix (.var 1) (.con (.int 1))) (.con (.int 1))) .nil))) (.tup (.cons (.con (.str [98,101,97,114])) (.cons (.var 3) .nil)))) [some (.t (.int w.no)),some (.t w.e.off),some (.t (.int w.e.left)),some (.t (.str k))] M=.ok (.t (.bl (isS Z3 w&&isK k w))) M:=
   Qj (Xm (ZZ (Za rfl) (Zb _) rfl) (ZZ (ZZ (Za rfl) (Zb _) rfl) (Zb _) rfl)) (Xm (Zb _) (Za rfl)) (Ziy (ho w hw).sd (ho w hw).kd ZfS hk)
  cases h:(isS Z3 w&&isK k w)with
  |true=>rw[h]at ht;exact Zdy ht (Q4 (Za rfl))
  |false=>rw[h]at ht;exact ZaZ ht
 ·rw[ZJ,List.length_map]
  exact Nat.le_trans (List.length_filter_le _ _) (Nat.le_trans hl (by decide))
theorem Zd5(k:List Nat):(Z1 k ws).length<=ws.length:=by
 unfold Z1
 rw[List.length_map]
 exact List.length_filter_le _ _
theorem ZgS{M:Mem}{j:Nat}{xs:List (List Int)}{v w:Wt}(hl:ws.length<=30)(ho:∀w∈ws,EntOk w.e)(hv:v∈ws)(hw:w∈ws)(hf:FI m j xs M)(hb:(xs++twoK bn ws v w).length<=27000){e9 e10:Option W}:
  ∃j' M' g9 g10,ex (cf n) gv Qs [some (.t (bnT bn)),some (.t (wsT ws)),some (.c j),some (.t (.int v.no)),some (.t v.e.off),some (.t (.int v.e.left)),some (.t (.int w.no)),some (.t w.e.off),some (.t (.int w.e.left)),e9,e10] M =
   .ok (.next [some (.t (bnT bn)),some (.t (wsT ws)),some (.c j'),some (.t (.int v.no)),some (.t v.e.off),some (.t (.int v.e.left)),some (.t (.int w.no)),some (.t w.e.off),some (.t (.int w.e.left)),g9,g10]) M'/\FI m j' (xs++twoK bn ws v w) M':=by
 have hc:ev (cf n) gv (.and (.cmp .Eq (.tup (.cons (.ix (.var 4) (.con (.int 0))) (.cons (.ix (.var 7) (.con (.int 0))) .nil))) (.tup (.cons (.con (.str [103,105,118,101])) (.cons (.con (.str [116,97,107,101])) .nil)))) (.cmp .Eq (.var 9) (.ix (.ix (.var 7) (.con (.int 1))) (.con (.int 1))))) [some (.t (bnT bn)),some (.t (wsT ws)),some (.c j),some (.t (.int v.no)),some (.t v.e.off),some (.t (.int v.e.left)),some (.t (.int w.no)),some (.t w.e.off),some (.t (.int w.e.left)),some (.t (.str v.e.kd)),e10] M=.ok (.t (.bl ((isS Z4 v&&isS Z6 w)&&isK v.e.kd w))) M:=by
  have h1:ev (cf n) gv (.cmp .Eq (.tup (.cons (.ix (.var 4) (.con (.int 0))) (.cons (.ix (.var 7) (.con (.int 0))) .nil))) (.tup (.cons (.con (.str [103,105,118,101])) (.cons (.con (.str [116,97,107,101])) .nil)))) [some (.t (bnT bn)),some (.t (wsT ws)),some (.c j),some (.t (.int v.no)),some (.t v.e.off),some (.t (.int v.e.left)),some (.t (.int w.no)),some (.t w.e.off),some (.t (.int w.e.left)),some (.t (.str v.e.kd)),e10] M=.ok (.t (.bl (isS Z4 v&&isS Z6 w))) M:=
   Qj (Xm (ZZ (Za rfl) (Zb _) rfl) (ZZ (Za rfl) (Zb _) rfl)) (Xm (Zb _) (Zb _)) (Ziy (ho v hv).sd (ho w hw).sd Zc2 Zc1)
  have h2:ev (cf n) gv (.cmp .Eq (.var 9) (.ix (.ix (.var 7) (.con (.int 1))) (.con (.int 1)))) [some (.t (bnT bn)),some (.t (wsT ws)),some (.c j),some (.t (.int v.no)),some (.t v.e.off),some (.t (.int v.e.left)),some (.t (.int w.no)),some (.t w.e.off),some (.t (.int w.e.left)),some (.t (.str v.e.kd)),e10] M=.ok (.t (.bl (isK v.e.kd w))) M:=by
   have e:isK v.e.kd w=(v.e.kd==w.e.kd):=by unfold isK;exact BEq.comm
   rw[e]
   exact Qj (Za rfl) (ZZ (ZZ (Za rfl) (Zb _) rfl) (Zb _) rfl) (Zh2 _ _)
  cases q:(isS Z4 v&&isS Z6 w)with
  |true=>rw[q]at h1;rw[ZbM h1];exact h2
  |false=>rw[q]at h1;rw[Zdg h1];rfl
 cases q:((isS Z4 v&&isS Z6 w)&&isK v.e.kd w)with
 |false =>
  rw[q]at hc
  refine⟨j,M,some (.t (.str v.e.kd)),e10,?_,?_⟩
  ·unfold Qs
   refine(Zn (ZZ (ZZ (Za rfl) (Zb _) rfl) (Zb _) rfl)).trans ?_
   exact(Qf hc).trans ZX
  ·rw[show twoK bn ws v w=[] by unfold twoK;rw[q];rfl,List.append_nil]
   exact hf
 |true =>
  rw[q]at hc
  have hin:∀e2,ev (cf n) gv (.cmp .In (.var 9) (.var 0)) [some (.t (bnT bn)),some (.t (wsT ws)),e2,some (.t (.int v.no)),some (.t v.e.off),some (.t (.int v.e.left)),some (.t (.int w.no)),some (.t w.e.off),some (.t (.int w.e.left)),some (.t (.str v.e.kd)),some (.t (il (Z1 v.e.kd ws)))] M=.ok (.t (.bl (hasK bn v.e.kd))) M:=λe2=>Qj (Za rfl) (Za rfl) (in_words v.e.kd bn)
  rw[List.length_append]at hb
  cases hk:hasK bn v.e.kd with
  |true =>
   rw[hk]at hin
   have e2:twoK bn ws v w=(Z1 v.e.kd ws).map λb=>[v.no,w.no,b]:=by unfold twoK;rw[q,hk];rfl
   have ht:=Zd5 (ws:=ws) v.e.kd
   have hcmp:ev (cf n) gv ZaF [some (.t (bnT bn)),some (.t (wsT ws)),some (.c j),some (.t (.int v.no)),some (.t v.e.off),some (.t (.int v.e.left)),some (.t (.int w.no)),some (.t w.e.off),some (.t (.int w.e.left)),some (.t (.str v.e.kd)),some (.t (il (Z1 v.e.kd ws)))] M=.ok (.t (.lst ((twoK bn ws v w).map tupT))) M:=by
    have e3:(twoK bn ws v w).map tupT=(Z1 v.e.kd ws).flatMap λb=>[tupT [v.no,w.no,b]]:=by
     rw[e2,Z9,List.map_map]
     rfl
    rw[e3]
    refine ZbP (emb:=T.int) (Z1 v.e.kd ws) (Za rfl) rfl (λb _=>⟨[some (.t (.int b)),some (.t (.int v.no)),some (.t (.int w.no))],rfl,ZcM (Q4 (Zdf (Za rfl) (Za rfl) (Za rfl)))⟩) ?_
    rw[Z9,List.length_map]
    exact Nat.le_trans ht (Nat.le_trans hl (by decide))
   refine⟨M.length,M++[some (false,(xs++twoK bn ws v w).map tupT)],some (.t (.str v.e.kd)),some (.t (il (Z1 v.e.kd ws))),?_,hf.new⟩
   unfold Qs
   refine(Zn (ZZ (ZZ (Za rfl) (Zb _) rfl) (Zb _) rfl)).trans ?_
   refine(Zcs (env':=[some (.t (bnT bn)),some (.t (wsT ws)),some (.c M.length),some (.t (.int v.no)),some (.t v.e.off),some (.t (.int v.e.left)),some (.t (.int w.no)),some (.t w.e.off),some (.t (.int w.e.left)),some (.t (.str v.e.kd)),some (.t (il (Z1 v.e.kd ws)))]) (m2:=M++[some (false,(xs++twoK bn ws v w).map tupT)]) hc ?_).trans ZX
   refine(Zn (ZbW hl ho (ho v hv).kd)).trans ?_
   refine(Zcs (hin _) ((Zn (w:=.c M.length) (m1:=M++[some (false,(xs++twoK bn ws v w).map tupT)]) ?_).trans ZX)).trans ZX
   rw[ev,Za rfl,Zh]
   show(ev (cf n) gv ZaF [some (.t (bnT bn)),some (.t (wsT ws)),some (.c j),some (.t (.int v.no)),some (.t v.e.off),some (.t (.int v.e.left)),some (.t (.int w.no)),some (.t w.e.off),some (.t (.int w.e.left)),some (.t (.str v.e.kd)),some (.t (il (Z1 v.e.kd ws)))] M).bind _=_
   rw[hcmp,Zh]
   have ha:addT (.lst (xs.map tupT)) (.lst ((twoK bn ws v w).map tupT))=some (.lst ((xs++twoK bn ws v w).map tupT)):=by
    rw[List.map_append]
    exact if_pos (by rw[List.length_map,List.length_map];unfold lim;omega)
   unfold addC
   have hvw:view (.c j) M=some (.lst (xs.map tupT)):=by
    unfold view
    dsimp only
    rw[hf.at']
   rw[hvw]
   show(match addT (.lst (xs.map tupT)) (.lst ((twoK bn ws v w).map tupT))with
    |some (.lst ts)=>Res.ok (W.c M.length) (M++[some (false,ts)])
    |_=>.stuck)=_
   rw[ha]
  |false =>
   rw[hk]at hin
   have e2:twoK bn ws v w=[[v.no,w.no]]:=by unfold twoK;rw[q,hk];rfl
   refine⟨j,M.set j (some (false,(xs++twoK bn ws v w).map tupT)),some (.t (.str v.e.kd)),some (.t (il (Z1 v.e.kd ws))),?_,hf.put⟩
   have hu:mutM .append (xs.map tupT) [tupT [v.no,w.no]]=some (.non,(xs++twoK bn ws v w).map tupT):=by
    rw[e2,List.map_append]
    exact if_pos (by rw[List.length_map];unfold lim;omega)
   unfold Qs
   refine(Zn (ZZ (ZZ (Za rfl) (Zb _) rfl) (Zb _) rfl)).trans ?_
   refine(Zcs (env':=[some (.t (bnT bn)),some (.t (wsT ws)),some (.c j),some (.t (.int v.no)),some (.t v.e.off),some (.t (.int v.e.left)),some (.t (.int w.no)),some (.t w.e.off),some (.t (.int w.e.left)),some (.t (.str v.e.kd)),some (.t (il (Z1 v.e.kd ws)))]) (m2:=M.set j (some (false,(xs++twoK bn ws v w).map tupT))) hc ?_).trans ZX
   refine(Zn (ZbW hl ho (ho v hv).kd)).trans ?_
   exact(Ziv (hin _) ((Xl (Zaw (.inl rfl) rfl hf.at' (Xm (Za rfl) (Za rfl)) hf.at' hu)).trans ZX)).trans ZX
theorem Zdw{v:Wt}(hl:ws.length<=30)(ho:∀w∈ws,EntOk w.e)(hv:v∈ws):∀(us:List Wt) (xs:List (List Int)) (M:Mem) (j:Nat) (e6 e7 e8 e9 e10:Option W),(∀u∈us,u∈ws)->FI m j xs M->(xs++us.flatMap (twoK bn ws v)).length<=27000 ->
  ∃j' M' g6 g7 g8 g9 g10,Qp (ex (cf n) gv Qs) (.tp [6,7,8]) (us.map Wt.t) [some (.t (bnT bn)),some (.t (wsT ws)),some (.c j),some (.t (.int v.no)),some (.t v.e.off),some (.t (.int v.e.left)),e6,e7,e8,e9,e10] M =
   .ok (.next [some (.t (bnT bn)),some (.t (wsT ws)),some (.c j'),some (.t (.int v.no)),some (.t v.e.off),some (.t (.int v.e.left)),g6,g7,g8,g9,g10]) M'/\FI m j' (xs++us.flatMap (twoK bn ws v)) M'
 |[],xs,M,j,e6,e7,e8,e9,e10,_,hf,_=>⟨j,M,e6,e7,e8,e9,e10,rfl,by rw[List.flatMap_nil,List.append_nil];exact hf⟩
 |w::us,xs,M,j,e6,e7,e8,e9,e10,hu,hf,hb=>by
  rw[List.flatMap_cons,<-List.append_assoc]at hb ⊢
  obtain⟨j1,M1,g9,g10,h1,hf1⟩:=ZgS (n:=n) (bn:=bn) (e9:=e9) (e10:=e10) hl ho hv (hu w List.mem_cons_self) hf (by rw[List.length_append]at hb;omega)
  obtain⟨j2,M2,a6,a7,a8,a9,a10,h2,hf2⟩:=Zdw hl ho hv us (xs++twoK bn ws v w) M1 j1 (some (.t (.int w.no))) (some (.t w.e.off)) (some (.t (.int w.e.left))) g9 g10 (λu h=>hu u (List.mem_cons_of_mem _ h)) hf1 hb
  refine⟨j2,M2,a6,a7,a8,a9,a10,?_,hf2⟩
  rw[List.map_cons,Qp]
  show(ex (cf n) gv Qs [some (.t (bnT bn)),some (.t (wsT ws)),some (.c j),some (.t (.int v.no)),some (.t v.e.off),some (.t (.int v.e.left)),some (.t (.int w.no)),some (.t w.e.off),some (.t (.int w.e.left)),e9,e10] M).bind _=_
  rw[h1]
  exact h2
theorem law_loop(hl:ws.length<=30)(ho:∀w∈ws,EntOk w.e):∀(us:List Wt) (xs:List (List Int)) (M:Mem) (j:Nat) (e3 e4 e5 e6 e7 e8 e9 e10:Option W),(∀u∈us,u∈ws)->FI m j xs M->(xs++us.flatMap λv=>ws.flatMap λw=>twoK bn ws v w).length<=27000 ->
  ∃j' M' g3 g4 g5 g6 g7 g8 g9 g10,Qp (ex (cf n) gv Jc) (.tp [3,4,5]) (us.map Wt.t) [some (.t (bnT bn)),some (.t (wsT ws)),some (.c j),e3,e4,e5,e6,e7,e8,e9,e10] M =
   .ok (.next [some (.t (bnT bn)),some (.t (wsT ws)),some (.c j'),g3,g4,g5,g6,g7,g8,g9,g10]) M'/\FI m j' (xs++us.flatMap λv=>ws.flatMap λw=>twoK bn ws v w) M'
 |[],xs,M,j,e3,e4,e5,e6,e7,e8,e9,e10,_,hf,_=>⟨j,M,e3,e4,e5,e6,e7,e8,e9,e10,rfl,by rw[List.flatMap_nil,List.append_nil];exact hf⟩
 |v::us,xs,M,j,e3,e4,e5,e6,e7,e8,e9,e10,hu,hf,hb=>by
  rw[List.flatMap_cons,<-List.append_assoc]at hb ⊢
  obtain⟨j1,M1,a6,a7,a8,a9,a10,h1,hf1⟩:=Zdw (n:=n) (bn:=bn) hl ho (hu v List.mem_cons_self) ws xs M j e6 e7 e8 e9 e10 (λ_ h=>h) hf (Nat.le_trans (Nat.le_add_right _ _) (by rw[List.length_append]at hb;exact hb))
  obtain⟨j2,M2,g3,g4,g5,g6,g7,g8,g9,g10,h2,hf2⟩:=law_loop hl ho us (xs++ws.flatMap λw=>twoK bn ws v w) M1 j1 (some (.t (.int v.no))) (some (.t v.e.off)) (some (.t (.int v.e.left))) a6 a7 a8 a9 a10 (λu h=>hu u (List.mem_cons_of_mem _ h)) hf1 hb
  refine⟨j2,M2,g3,g4,g5,g6,g7,g8,g9,g10,?_,hf2⟩
  rw[List.map_cons,Qp]
  show(ex (cf n) gv Jc [some (.t (bnT bn)),some (.t (wsT ws)),some (.c j),some (.t (.int v.no)),some (.t v.e.off),some (.t (.int v.e.left)),e6,e7,e8,e9,e10] M).bind _=_
  have e:ex (cf n) gv Jc [some (.t (bnT bn)),some (.t (wsT ws)),some (.c j),some (.t (.int v.no)),some (.t v.e.off),some (.t (.int v.e.left)),e6,e7,e8,e9,e10] M=.ok (.next [some (.t (bnT bn)),some (.t (wsT ws)),some (.c j1),some (.t (.int v.no)),some (.t v.e.off),some (.t (.int v.e.left)),a6,a7,a8,a9,a10]) M1:=by
   unfold Jc
   exact(Js (Za rfl) rfl h1).trans ZX
  rw[e]
  exact h2
theorem law_sets_ok(hl:ws.length<=30)(ho:∀w∈ws,EntOk w.e)(hn:(ws.map (·.no)).Nodup):cf (n+1) 12 [.t (bnT bn),.t (wsT ws)] m=.ok (.t (.lst ((sortI (Ju bn ws)).map tupT))) m:=by
 have hlen:=Zah (bn:=bn) hl
 have f0:FI m m.length [] (m++[some (false,[])]):=⟨List.take_left,Nat.le_refl _,Qh⟩
 obtain⟨j,M,g3,g4,g5,g6,g7,g8,g9,g10,h,hf⟩:=law_loop (n:=n) (bn:=bn) hl ho ws [] _ _ none none none none none none none none (λ_ h=>h) f0 hlen
 have hf:FI m j (Ju bn ws) M:=hf
 have hs:Q5 ((Ju bn ws).map tupT)=some (.lst ((sortI (Ju bn ws)).map tupT)):=Zfe (Zbo hn) (by omega) λk hk z=>by
  have:=ZdQ (JP.mp hk)
  rw[z]at this
  rcases this with h|h<;>cases h
 have key:ex (cf n) gv ZaJ [some (.t (bnT bn)),some (.t (wsT ws)),none,none,none,none,none,none,none,none,none] m=.ok (.ret (.t (.lst ((sortI (Ju bn ws)).map tupT)))) M:=by
  unfold ZaJ
  refine(Zn (w:=.c m.length) (m1:=m++[some (false,[])]) (by rw[ev,evs];rfl)).trans ?_
  refine(Js (Za rfl) rfl h).trans ?_
  refine ZW ?_
  rw[ev,evs,Za rfl,Zh,evs,Zh,Zh]
  have hv:views [.c j] M=some [.lst ((Ju bn ws).map tupT)]:=by
   show((view (.c j) M).bind λt=>some [t])=_
   unfold view
   dsimp only
   rw[hf.at']
   rfl
  show pur ((views [.c j] M).bind λts=>bltT .sortt ts) M=_
  rw[hv]
  show pur (Q5 ((Ju bn ws).map tupT)) M=_
  rw[hs]
  rfl
 refine Qt (ZhW _ _ _) rfl key ?_
 show Res.ok (W.t (.lst ((sortI (Ju bn ws)).map tupT))) (M.take m.length)=_
 rw[hf.pre]
end
noncomputable def mm(m:Mem)(xs:List T):Mem:=m++[some (false,xs)]
theorem ZfZ{m:Mem}{xs:List T}:(mm m xs).length=m.length+1:=by simp[mm]
theorem Zf0{m:Mem}{i:Nat}{s xs:List T}(hi:i<m.length):(put (mm m xs) i s)[m.length]?=some (some (false,xs)):=by
 unfold put mm
 rw[List.getElem?_set_ne (by omega),List.getElem?_append_right (Nat.le_refl _),Nat.sub_self]
 rfl
theorem mm_set{m:Mem}{i:Nat}{s xs ys:List T}(hi:i<m.length):(put (mm m xs) i s).set m.length (some (false,ys))=put (mm m ys) i s:=by
 unfold put mm
 rw[List.set_comm _ _ (by omega),List.set_append_right _ _ (Nat.le_refl _),Nat.sub_self]
 rfl
theorem ZjH{m:Mem}{i:Nat}{s xs:List T}(hi:i<m.length):(put (mm m xs) i s).take m.length=put m i s:=by
 unfold put mm
 rw[List.set_append_left _ _ hi,List.take_left' (by rw[List.length_set])]
theorem mm_nil{m:Mem}{i:Nat}{s:List T}(hi:i<m.length):put m i s++[some (false,[])]=put (mm m []) i s:=by
 unfold put mm
 rw[List.set_append_left _ _ hi]
theorem ev_tr{call:Nat->List W->Mem->Res W}{env:Env}{m m1:Mem}{a:E}{x:T}(h:ev call gv a env m=.ok (.t x) m1):ev call gv (.tr a) env m=.ok (.t x) m1:=by rw[ev,h];rfl
theorem ZhN:∀(n:Nat) (t:T),Zf n t=true->eqT t t=true:=by
 intro n
 induction n with
 |zero =>
  intro t h
  cases t with
  |non=>rfl
  |bl b=>simp[eqT]
  |int b=>simp[eqT]
  |str b=>simp[eqT]
  |tup ts=>simp[Zf]at h
  |lst ts=>simp[Zf]at h
  |dct ks ts=>simp[Zf]at h
  |scr ns=>simp[Zf]at h
 |succ n ih =>
  have hl:∀ts:List T,Zj n ts=true->eqTs ts ts=true:=by
   intro ts
   induction ts with
   |nil=>intro _;rfl
   |cons t ts iht =>
    intro h
    rw[Zj,Bool.and_eq_true]at h
    rw[eqTs,ih t h.1,iht h.2]
    rfl
  intro t h
  cases t with
  |tup ts=>rw[Zf]at h;rw[eqT];exact hl ts h
  |lst ts=>rw[Zf]at h;rw[eqT];exact hl ts h
  |non=>rfl
  |bl b=>simp[eqT]
  |int b=>simp[eqT]
  |str b=>simp[eqT]
  |dct ks ts=>simp[Zf]at h
  |scr ns=>simp[Zf]at h
theorem Zc5{t:T}(h:Zf 60 t=true):cmpT .NotEq t t=some false:=by
 show(if(Zaj t t || (Zf 60 t&&Zf 60 t))=true then some (!eqT t t)else none)=_
 rw[h,Bool.true_and,Bool.or_true,if_pos rfl,ZhN 60 t h]
 rfl
theorem ZgC{nm kd:List Nat}{mk:List (List Nat)}{sz:List (List Nat×Int)}(h:Zh8 nm kd mk sz):Zf 57 (ZeN nm kd mk sz)=true:=by
 obtain⟨_,_,h1,h2,h3,h4⟩:=h
 have e1:Zj 55 (mk.map T.str)=true:=Qm.mpr λt ht=>by
  obtain⟨w,hw,rfl⟩:=List.mem_map.mp ht
  exact h1 w hw
 have e2:Zj 55 (sz.map Zep)=true:=Qm.mpr λt ht=>by
  obtain⟨p,hp,rfl⟩:=List.mem_map.mp ht
  have:=h2 p hp
  unfold okS at this
  simp[Zep,Zf,Zj,this]
 unfold okS at h3 h4
 simp[ZeN,Zf,Zj,e1,e2,h3,h4]
theorem Xn{xs:List T}(h:Zj 59 xs=true):cmpT .Eq (.lst xs) (.lst [])=some xs.isEmpty/\cmpT .NotEq (.lst xs) (.lst [])=some (!xs.isEmpty):=by
 have h1:Zf 60 (.lst xs)=true:=by rw[Zf];exact h
 have h2:Zf 60 (.lst [])=true:=by decide
 have h3:eqT (.lst xs) (.lst [])=xs.isEmpty:=by cases xs<;>simp[eqT,eqTs]
 constructor
 ·show(if(Zaj (.lst xs) (.lst []) || (Zf 60 (.lst xs)&&Zf 60 (.lst [])))=true then some (eqT (.lst xs) (.lst []))else none)=_
  rw[h1,h2,Bool.true_and,Bool.or_true,if_pos rfl,h3]
 ·show(if(Zaj (.lst xs) (.lst []) || (Zf 60 (.lst xs)&&Zf 60 (.lst [])))=true then some (!eqT (.lst xs) (.lst []))else none)=_
  rw[h1,h2,Bool.true_and,Bool.or_true,if_pos rfl,h3]
theorem ne_int(v:Int):cmpT .NotEq (.int v) (.int v)=some false:=by rw[c_neI];simp
theorem l_list(ts:List T):bltT .list [.lst ts]=some (.lst ts):=rfl
noncomputable def ryeS:List Nat:=[114,121,101]
noncomputable def oatS:List Nat:=[111,97,116]
noncomputable def oS:List Nat:=[111]
structure Wok (w:Wt):Prop where
 ent:EntOk w.e
 kd:w.e.kd=ryeS∨w.e.kd=oatS∨w.e.kd=oS
theorem ZiF{w:Wt}(h:EntOk w.e):Zf 59 w.t=true:=by
 have h1:=ZgC h.card
 have h2:=h.wish.2 52
 have h3:=h.sd
 unfold okS at h3
 have h2:Zf 57 w.e.w=true:=h2
 simp[Wt.t,Ent.off,offT,Zf,Zj,h1,h2,h3]
theorem ZcJ{ws:List Wt}(h:∀w∈ws,EntOk w.e):Zj 59 (ws.map Wt.t)=true:=by
 refine Qm.mpr λt ht=>?_
 obtain⟨e,he,rfl⟩:=List.mem_map.mp ht
 exact ZiF (h e he)
theorem Zax{call:Nat->List W->Mem->Res W}{gv:List T}{env:Env}{m m1 m2:Mem}{a b:E}{w:W}{op:PySem.CmpOp}{x y:T}{k:Bool}(h1:ev call gv a env m=.ok w m1)(h2:ev call gv b env m1=.ok (.t y) m2)(hv:view w m2=some x)(h3:cmpT op x y=some k):ev call gv (.cmp op a b) env m=.ok (.t (.bl k)) m2:=by
 rw[ev,h1,Zh,h2,Zh]
 show pur (((view w m2).bind λx=>(some y).bind λy=>cmpT op x y).map .bl) m2=_
 rw[hv]
 show pur ((cmpT op x y).map .bl) m2=_
 rw[h3]
 rfl
theorem JG{m:Mem}{j:Nat}{xs:List T}(h:m[j]?=some (some (false,xs))):view (.c j) m=some (.lst xs):=by
 unfold view
 dsimp only
 rw[h]
theorem Zke{α:Type}(xs:List α)(x:α):atT (xs++[x]) (-1)=some x:=by
 have e:ixOf (xs++[x]).length (-1)=some xs.length:=by
  unfold ixOf
  rw[List.length_append,List.length_singleton]
  split
  ·rename_i h;omega
  ·split
   ·exact congrArg some (by omega)
   ·omega
 unfold atT
 rw[e]
 show(xs++[x])[xs.length]?=_
 rw[List.getElem?_append_right (Nat.le_refl _),Nat.sub_self]
 rfl
section
variable{n:Nat}{m:Mem}{i:Nat}{s:List T}
theorem Zh5(hi:i<m.length)(hs:IsSt s):∃(bn:List (List Nat)) (s':List T),cf (n+2) 13 [.c i] (put m i s)=.ok (.t (bnT bn)) (put m i s')/\IsSt s':=by
 obtain⟨r,s1,g1,hs1,r0,r1⟩:=Zm (n:=n) (many:=5) hi hs (by decide) (by decide)
 obtain⟨z,hz,hzm⟩:=Qa (xs:=[bnT [],bnT [],bnT [ryeS],bnT [oS,ryeS],bnT [oatS,ryeS,oS,[119,104,101,97,116]]]) r0 (by simpa using r1)
 have hz':∃bn,z=bnT bn:=by
  simp only[List.mem_cons,List.not_mem_nil,or_false]at hzm
  rcases hzm with rfl|rfl|rfl|rfl|rfl<;>exact⟨_,rfl⟩
 obtain⟨bn,rfl⟩:=hz'
 refine⟨bn,s1,?_,hs1⟩
 have key:ex (cf (n+1)) gv Xa [some (.c i)] (put m i s)=.ok (.ret (.t (bnT bn))) (put m i s1):=by
  unfold Xa
  exact ZW (ZZ (Z2 (Zc (Qu Zo rfl Zv) (Zc (Qu Zo rfl Zv) (Zc (Qu (Zc (Zb _) Zo) rfl Zv) (Zc (Qu (Zc (Zb _) (Zc (Zb _) Zo)) rfl Zv) (Zc (Qu (Zc (Zb _) (Zc (Zb _) (Zc (Zb _) (Zc (Zb _) Zo)))) rfl Zv) Zo))))) rfl Zv) ((Zu (Zc (Za rfl) (Zc (Zb _) Zo))).trans g1) hz)
 exact Qt (Zgz _ _ _) rfl key (Qg (cell:=false) (by rw[Zi,Zi]))
theorem ZeX{ws:List Wt}{most turn nb few k:Int}{f7 f8 f9 f10 f11:Option W}(hi:i<m.length)(hs:IsSt s)(hw:∀w∈ws,Wok w)(hl:ws.length<100)(hf:0<=few/\few<3):
  ∃(w:Wt) (s':List T) (nb':Int) (g7 g8 g9 g10 g11:Option W),ex (cf (n+8)) gv Qe [some (.c i),some (.t (.int most)),some (.c m.length),some (.t (.int turn)),some (.t (.int nb)),some (.t (.int few)),some (.t (.int k)),f7,f8,f9,f10,f11] (put (mm m (ws.map Wt.t)) i s) =
   .ok (.next [some (.c i),some (.t (.int most)),some (.c m.length),some (.t (.int turn)),some (.t (.int nb')),some (.t (.int few)),some (.t (.int k)),g7,g8,g9,g10,g11]) (put (mm m ((ws++[w]).map Wt.t)) i s')/\IsSt s'/\Wok w/\w.no=nb/\nb<nb':=by
 have hi':i<(mm m (ws.map Wt.t)).length:=by rw[ZfZ];omega
 obtain⟨sd,s1,g1,hs1,hsd⟩:=ZfE (n:=n+6) (xs:=[T.str Z4,.str Z6,.str Z4,.str Z6,.str Z3]) hi' hs (by decide) (by decide)
 have hs':∃sd':List Nat,sd=.str sd'/\okS sd'=true:=by
  simp only[List.mem_cons,List.not_mem_nil,or_false]at hsd
  rcases hsd with rfl|rfl|rfl|rfl|rfl
  ·exact⟨_,rfl,Zc2⟩
  ·exact⟨_,rfl,Zc1⟩
  ·exact⟨_,rfl,Zc2⟩
  ·exact⟨_,rfl,Zc1⟩
  ·exact⟨_,rfl,ZfS⟩
 obtain⟨sd,rfl,osd⟩:=hs'
 obtain⟨d2,s2,g2,hs2,a0,a1⟩:=Zm (n:=n+7) (many:=1+few) hi' hs1 (by omega) (by omega)
 obtain⟨kd,hkd,hkm⟩:=Qa (xs:=[T.str ryeS,.str oatS,.str oS]) (i:=d2) a0 (by simp;omega)
 have hk':∃kd':List Nat,kd=.str kd'/\okS kd'=true/\(kd'=ryeS∨kd'=oatS∨kd'=oS):=by
  simp only[List.mem_cons,List.not_mem_nil,or_false]at hkm
  rcases hkm with rfl|rfl|rfl
  ·exact⟨_,rfl,by decide +kernel,.inl rfl⟩
  ·exact⟨_,rfl,by decide +kernel,.inr (.inl rfl)⟩
  ·exact⟨_,rfl,by decide +kernel,.inr (.inr rfl)⟩
 obtain⟨kd,rfl,okd,hk3⟩:=hk'
 obtain⟨d3,s3,g3,hs3,b0,b1⟩:=Zm (n:=n+7) (many:=16) hi' hs2 (by decide) (by decide)
 have hmu:=ZeQ (i:=k) (j:=b2i (decide (0<d3))) (mulR (by cases decide (0<d3)<;>decide) (by cases decide (0<d3)<;>decide))
 obtain⟨nm,g4,onm⟩:=ZfV (n:=n+7) (m:=put (mm m (ws.map Wt.t)) i s3) (k:=turn+k*b2i (decide (0<d3)))
 obtain⟨till,s4,g5,hs4,t0,t1⟩:=Zm (n:=n+7) (many:=9) hi' hs3 (by decide) (by decide)
 obtain⟨mk,sz,w,many,least,wt,s5,g6,hs5,hc,hwi,⟨m1,m2⟩,⟨l1,l2⟩,_⟩:=Zhy (n:=n+1) (sd:=sd) (till:=till) hi' hs4 onm okd
 -- the offer,the last one's or its own
 have key:∃(e:Ent) (s6:List T),EntOk e/\(e.kd=ryeS∨e.kd=oatS∨e.kd=oS)/\IsSt s6 /\
   ∀K:S,ex (cf (n+8)) gv (.ife (.and (.cmp .NotEq (.var 2) (.lst .nil)) (.cmp .Eq (.call 5 (.cons (.var 0) (.cons (.con (.int 12)) .nil))) (.con (.int 0)))) (.asg 10 (.ix (.ix (.var 2) (.con (.int (-1)))) (.con (.int 1))) .done) .done K) [some (.c i),some (.t (.int most)),some (.c m.length),some (.t (.int turn)),some (.t (.int nb)),some (.t (.int few)),some (.t (.int k)),some (.t (.str sd)),some (.t (.str kd)),some (.t (.str nm)),some (.t (offT sd nm kd mk sz w many least wt till)),f11] (put (mm m (ws.map Wt.t)) i s5) =
    ex (cf (n+8)) gv K [some (.c i),some (.t (.int most)),some (.c m.length),some (.t (.int turn)),some (.t (.int nb)),some (.t (.int few)),some (.t (.int k)),some (.t (.str sd)),some (.t (.str kd)),some (.t (.str nm)),some (.t e.off),f11] (put (mm m (ws.map Wt.t)) i s6):=by
  have hq:ev (cf (n+8)) gv (.cmp .NotEq (.var 2) (.lst .nil)) [some (.c i),some (.t (.int most)),some (.c m.length),some (.t (.int turn)),some (.t (.int nb)),some (.t (.int few)),some (.t (.int k)),some (.t (.str sd)),some (.t (.str kd)),some (.t (.str nm)),some (.t (offT sd nm kd mk sz w many least wt till)),f11] (put (mm m (ws.map Wt.t)) i s5)=.ok (.t (.bl (!(ws.map Wt.t).isEmpty))) (put (mm m (ws.map Wt.t)) i s5):=
   Zax (Za rfl) (Z2 Zo rfl Zv) (JG (Zf0 hi)) (Xn (ZcJ λw h=>(hw w h).ent)).2
  have own:EntOk ⟨sd,nm,kd,mk,sz,w,many,least,wt,till,0⟩:=⟨hc,hwi,osd,m1,m2⟩
  rcases(show ws=[]∨∃a b,ws=a++[b]from if h:ws=[]then .inl h else .inr ⟨_,_,(List.dropLast_concat_getLast h).symm⟩)with rfl|⟨ws0,v,rfl⟩
  ·refine⟨⟨sd,nm,kd,mk,sz,w,many,least,wt,till,0⟩,s5,own,hk3,hs5,λK=>?_⟩
   exact Qf (Zdg hq)
  ·have hne:(!((ws0++[v]).map Wt.t).isEmpty)=true:=by rw[List.map_append];cases ws0<;>rfl
   rw[hne]at hq
   obtain⟨d6,s6,g7,hs6,_,_⟩:=Zm (n:=n+7) (many:=12) hi' hs5 (by decide) (by decide)
   have hq2:ev (cf (n+8)) gv (.cmp .Eq (.call 5 (.cons (.var 0) (.cons (.con (.int 12)) .nil))) (.con (.int 0))) [some (.c i),some (.t (.int most)),some (.c m.length),some (.t (.int turn)),some (.t (.int nb)),some (.t (.int few)),some (.t (.int k)),some (.t (.str sd)),some (.t (.str kd)),some (.t (.str nm)),some (.t (offT sd nm kd mk sz w many least wt till)),f11] (put (mm m ((ws0++[v]).map Wt.t)) i s5)=.ok (.t (.bl (d6==0))) (put (mm m ((ws0++[v]).map Wt.t)) i s6):=Qj ((ZK (Za rfl) (Zb _)).trans g7) (Zb _) (Zh3 _ _)
   cases hd:(d6==0)with
   |false =>
    rw[hd]at hq2
    exact⟨⟨sd,nm,kd,mk,sz,w,many,least,wt,till,0⟩,s6,own,hk3,hs6,λK=>Qf ((ZbM hq).trans hq2)⟩
   |true =>
    rw[hd]at hq2
    have hv:=hw v (List.mem_append_right _ (List.mem_singleton.mpr rfl))
    refine⟨v.e,s6,hv.ent,hv.kd,hs6,λK=>Zcs ((ZbM hq).trans hq2) ((Zn (ZZ (Zay rfl (Zf0 hi) ?_) (Zb _) (show ixT v.t (.int 1)=_ from rfl))).trans ZX)⟩
    rw[List.map_append]
    exact Zke _ _
 obtain⟨e,s6,he,hek,hs6,hK⟩:=key
 obtain⟨c1,s7,g8,hs7,c10,c11⟩:=Zm (n:=n+7) (many:=e.many) hi' hs6 (by have:=he.many;omega) (by have:=he.many;omega)
 obtain⟨c2,s8,g9,hs8,c20,c21⟩:=Zm (n:=n+7) (many:=2) hi' hs7 (by decide) (by decide)
 obtain⟨z,hz,hzm⟩:=Qa (xs:=[T.int e.many,.int (1+c1)]) c20 (by simpa using c21)
 have hz':∃v:Int,z=.int v:=by
  simp only[List.mem_cons,List.not_mem_nil,or_false]at hzm
  rcases hzm with rfl|rfl<;>exact⟨_,rfl⟩
 obtain⟨left,rfl⟩:=hz'
 have hi2:i<(mm m ((ws++([⟨nb,{ e with left:=left }⟩]:List Wt)).map Wt.t)).length:=by rw[ZfZ];omega
 obtain⟨d9,s9,g10,hs9,d90,d91⟩:=Zm (n:=n+7) (many:=4) hi2 hs8 (by decide) (by decide)
 refine⟨⟨nb,{ e with left:=left }⟩,s9,nb+1+d9,some (.t (.str sd)),some (.t (.str kd)),some (.t (.str nm)),some (.t e.off),some (.t (.int left)),?_,hs9,⟨⟨he.card,he.wish,he.sd,he.many⟩,hek⟩,rfl,by omega⟩
 unfold Qe
 refine(Zn (w:=.t (.str sd)) (m1:=put (mm m (ws.map Wt.t)) i s1) ((Zu (Zc (Za rfl) (Zc (Z2 (Zc (Zb _) (Zc (Zb _) (Zc (Zb _) (Zc (Zb _) (Zc (Zb _) Zo))))) rfl Zv) Zo))).trans g1)).trans ?_
 dsimp only[List.set_cons_succ,List.set_cons_zero]
 refine(Zn (w:=.t (.str kd)) (m1:=put (mm m (ws.map Wt.t)) i s2) (ZZ (Z2 (Zc (Zb _) (Zc (Zb _) (Zc (Zb _) Zo))) rfl Zv) ((Zu (Zc (Za rfl) (Zc (ZD (Zb _) (Za rfl) rfl) Zo))).trans g2) hkd)).trans ?_
 dsimp only[List.set_cons_succ,List.set_cons_zero]
 refine(Zn (w:=.t (.str nm)) (m1:=put (mm m (ws.map Wt.t)) i s3) ((Zu (Zc (ZD (Za rfl) (ZD (Za rfl) (Zix (Zc (Qj ((Zu (Zc (Za rfl) (Zc (Zb _) Zo))).trans g3) (Zb _) rfl) Zo) rfl rfl) hmu) rfl) Zo)).trans g4)).trans ?_
 dsimp only[List.set_cons_succ,List.set_cons_zero]
 refine(Zn (w:=.t (offT sd nm kd mk sz w many least wt till)) (m1:=put (mm m (ws.map Wt.t)) i s5) ((Zu (Zc (Za rfl) (Zc (Za rfl) (Zc (Za rfl) (Zc (Za rfl) (Zc ((Zu (Zc (Za rfl) (Zc (Zb _) Zo))).trans g5) Zo)))))).trans g6)).trans ?_
 dsimp only[List.set_cons_succ,List.set_cons_zero]
 refine(hK _).trans ?_
 refine(Zn (w:=.t (.int left)) (m1:=put (mm m (ws.map Wt.t)) i s8) (ZZ (Z2 (Zc (ZZ (Za rfl) (Zb _) rfl) (Zc (ZD (Zb _) ((Zu (Zc (Za rfl) (Zc (ZZ (Za rfl) (Zb _) rfl) Zo))).trans g8) rfl) Zo)) rfl Zv) ((Zu (Zc (Za rfl) (Zc (Zb _) Zo))).trans g9) hz)).trans ?_
 dsimp only[List.set_cons_succ,List.set_cons_zero]
 have hu:mutM .append (ws.map Wt.t) [Wt.t ⟨nb,{ e with left:=left }⟩]=some (.non,(ws++([⟨nb,{ e with left:=left }⟩]:List Wt)).map Wt.t):=by
  rw[List.map_append]
  exact if_pos (by rw[List.length_map];unfold lim;omega)
 refine(Xl (Zaw (.inl rfl) rfl (Zf0 hi) (Zdf (Za rfl) (Za rfl) (Za rfl)) (Zf0 hi) hu)).trans ?_
 rw[mm_set hi]
 exact(Zn (w:=.t (.int (nb+1+d9))) (m1:=put (mm m ((ws++([⟨nb,{ e with left:=left }⟩]:List Wt)).map Wt.t)) i s9) (ZD (ZD (Za rfl) (Zb _) rfl) ((Zu (Zc (Za rfl) (Zc (Zb _) Zo))).trans g10) rfl)).trans ZX
theorem ZbU{most turn few:Int}(hi:i<m.length)(hf:0<=few/\few<3):∀(ks:List Int) (ws:List Wt) (s:List T) (nb:Int) (f6 f7 f8 f9 f10 f11:Option W),IsSt s->ws.length+ks.length<100->(∀w∈ws,Wok w)->(ws.map (·.no)).Nodup->(∀w∈ws,w.no<nb) ->
  ∃(ws':List Wt) (s':List T) (env':Env),Qp (ex (cf (n+8)) gv Qe) (.nm 6) (ks.map .int) [some (.c i),some (.t (.int most)),some (.c m.length),some (.t (.int turn)),some (.t (.int nb)),some (.t (.int few)),f6,f7,f8,f9,f10,f11] (put (mm m (ws.map Wt.t)) i s)=.ok (.next env') (put (mm m (ws'.map Wt.t)) i s')/\IsSt s'/\(∀w∈ws',Wok w)/\(ws'.map (·.no)).Nodup/\ws'.length=ws.length+ks.length/\env'[2]?=some (some (.c m.length))
 |[],ws,s,nb,f6,f7,f8,f9,f10,f11,hs,_,ho,hn,_=>⟨ws,s,_,rfl,hs,ho,hn,rfl,rfl⟩
 |k::ks,ws,s,nb,f6,f7,f8,f9,f10,f11,hs,hl,ho,hn,hb=>by
  rw[List.length_cons]at hl
  obtain⟨w,s1,nb',g7,g8,g9,g10,g11,h1,hs1,hw,hno,hlt⟩:=ZeX (n:=n) (most:=most) (turn:=turn) (nb:=nb) (few:=few) (k:=k) (f7:=f7) (f8:=f8) (f9:=f9) (f10:=f10) (f11:=f11) hi hs ho (by omega) hf
  have hm:∀v∈ws++[w],v∈ws∨v=w:=λv hv=>by
   rcases List.mem_append.mp hv with h|h
   ·exact .inl h
   ·exact .inr (List.mem_singleton.mp h)
  obtain⟨ws',s',env',h2,hs',ho',hn',hlen,hv⟩:=ZbU hi hf ks (ws++[w]) s1 nb' (some (.t (.int k))) g7 g8 g9 g10 g11 hs1 (by rw[List.length_append,List.length_singleton];omega)
   (λv hv=>(hm v hv).elim (λh=>ho v h) λh=>h▸hw)
   (by
    rw[List.map_append,List.nodup_append]
    refine⟨hn,by simp,λa ha b hb' e=>?_⟩
    obtain⟨v,hv,rfl⟩:=List.mem_map.mp ha
    have hb':b=w.no:=by simpa using hb'
    have:=hb v hv
    omega)
   (λv hv=>by
    rcases hm v hv with h|rfl
    ·have:=hb v h
     omega
    ·omega)
  refine⟨ws',s',env',?_,hs',ho',hn',by rw[hlen,List.length_append,List.length_singleton,List.length_cons];omega,hv⟩
  rw[List.map_cons,Qp]
  show(ex (cf (n+8)) gv Qe [some (.c i),some (.t (.int most)),some (.c m.length),some (.t (.int turn)),some (.t (.int nb)),some (.t (.int few)),some (.t (.int k)),f7,f8,f9,f10,f11] (put (mm m (ws.map Wt.t)) i s)).bind _=_
  rw[h1]
  exact h2
theorem Zd0{most:Int}(hi:i<m.length)(hs:IsSt s)(hmo:0<=most/\most<=30):∃(ws:List Wt) (s':List T),cf (n+9) 14 [.c i,.t (.int most)] (put m i s)=.ok (.t (wsT ws)) (put m i s')/\IsSt s'/\(∀w∈ws,Wok w)/\(ws.map (·.no)).Nodup/\ws.length<=30:=by
 have hi':i<(mm m []).length:=by rw[ZfZ];omega
 obtain⟨turn,s1,g1,hs1,_,_⟩:=Zm (n:=n+7) (many:=12) hi' hs (by decide) (by decide)
 obtain⟨nb,s2,g2,hs2,_,_⟩:=Zm (n:=n+7) (many:=5) hi' hs1 (by decide) (by decide)
 obtain⟨few,s3,g3,hs3,f0,f1⟩:=Zm (n:=n+7) (many:=3) hi' hs2 (by decide) (by decide)
 obtain⟨r,s4,g4,hs4,r0,r1⟩:=Zm (n:=n+7) (many:=most+1) hi' hs3 (by omega) (by omega)
 have hrng:rangeT 0 r.toNat=((List.range r.toNat).map λk:Nat=>(k:Int)).map T.int:=by
  unfold rangeT
  rw[List.map_map]
  refine congrArg (λf=>List.map f (List.range r.toNat)) (funext λk=>?_)
  show T.int (0+(k:Int))=T.int (k:Int)
  rw[Int.zero_add]
 obtain⟨ws,s5,env',h5,hs5,ho,hn,hlen,hv⟩:=ZbU (n:=n) (most:=most) (turn:=turn) (few:=few) hi ⟨f0,f1⟩ ((List.range r.toNat).map λk:Nat=>(k:Int)) [] s4 nb none none none none none none hs4 (by simp;omega) (λ_ h=>by cases h) List.nodup_nil (λ_ h=>by cases h)
 refine⟨ws,s5,?_,hs5,ho,hn,by rw[hlen];simp;omega⟩
 have key:ex (cf (n+8)) gv QT [some (.c i),some (.t (.int most)),none,none,none,none,none,none,none,none,none,none] (put m i s)=.ok (.ret (.c m.length)) (put (mm m (ws.map Wt.t)) i s5):=by
  unfold QT
  refine(Zn (w:=.c m.length) (m1:=put (mm m []) i s) ?_).trans ?_
  ·rw[<-mm_nil hi]
   rw[ev,evs]
   show Res.ok (W.c (put m i s).length) _=_
   rw[Zi]
  dsimp only[List.set_cons_succ,List.set_cons_zero]
  refine(Zn ((ZK (Za rfl) (Zb _)).trans g1)).trans ?_
  dsimp only[List.set_cons_succ,List.set_cons_zero]
  refine(Zn ((ZK (Za rfl) (Zb _)).trans g2)).trans ?_
  dsimp only[List.set_cons_succ,List.set_cons_zero]
  refine(Zn ((ZK (Za rfl) (Zb _)).trans g3)).trans ?_
  dsimp only[List.set_cons_succ,List.set_cons_zero]
  have hit:ev (cf (n+8)) gv (.blt .range1 (.cons (.call 5 (.cons (.var 0) (.cons (.bin .Add (.var 1) (.con (.int 1))) .nil))) .nil)) [some (.c i),some (.t (.int most)),some (.c m.length),some (.t (.int turn)),some (.t (.int nb)),some (.t (.int few)),none,none,none,none,none,none] (put (mm m []) i s3)=.ok (.t (.lst (((List.range r.toNat).map λk:Nat=>(k:Int)).map T.int))) (put (mm m []) i s4):=by
   rw[<-hrng]
   exact Qv ((ZK (Za rfl) (ZD (Za rfl) (Zb _) (Zdu _ _))).trans g4) (ZjM ⟨by omega,by omega⟩)
  refine(Js hit rfl h5).trans ?_
  exact ZW (Za hv)
 refine Qt (Zdm _ _ _) rfl key ?_
 show fin (put m i s).length false (.ret (.c m.length)) _=_
 rw[Zi]
 unfold fin
 dsimp only
 rw[if_neg (Nat.lt_irrefl _),Zf0 hi]
 dsimp only
 rw[if_neg Bool.false_ne_true,ZjH hi]
 rfl
end
theorem ZF{m xs:Mem}{i:Nat}{s:List T}(hi:i<m.length):put (m++xs) i s=put m i s++xs:=by
 unfold put
 rw[List.set_append_left _ _ hi]
noncomputable def m2(m:Mem)(A F:List T):Mem:=m++[some (false,A),some (false,F)]
section
variable{n:Nat}{m:Mem}{i:Nat}{s A F A' F':List T}
theorem m2_0(hi:i<m.length):(put (m2 m A F) i s)[m.length]?=some (some (false,A)):=by
 unfold m2
 rw[ZF hi,List.getElem?_append_right (by rw[Zi];omega),Zi,Nat.sub_self]
 rfl
theorem m2_1(hi:i<m.length):(put (m2 m A F) i s)[m.length+1]?=some (some (false,F)):=by
 unfold m2
 rw[ZF hi,List.getElem?_append_right (by rw[Zi];omega),Zi,Nat.add_sub_cancel_left]
 rfl
theorem m2_s0(hi:i<m.length):(put (m2 m A F) i s).set m.length (some (false,A'))=put (m2 m A' F) i s:=by
 unfold m2
 rw[ZF hi,ZF hi,List.set_append_right _ _ (by rw[Zi];omega),Zi,Nat.sub_self]
 rfl
theorem m2_s1(hi:i<m.length):(put (m2 m A F) i s).set (m.length+1) (some (false,F'))=put (m2 m A F') i s:=by
 unfold m2
 rw[ZF hi,ZF hi,List.set_append_right _ _ (by rw[Zi];omega),Zi,Nat.add_sub_cancel_left]
 rfl
theorem ZjK(hi:i<m.length):(put (m2 m A F) i s).take m.length=put m i s:=by
 unfold m2
 rw[ZF hi]
 exact List.take_left' Zi
theorem Zct{α β:Type}(f:α->β):∀(l:List α) (k:Nat),(l.map f).eraseIdx k=(l.eraseIdx k).map f
 |[],_=>rfl
 |_::_,0=>rfl
 |a::l,k+1=>by
  rw[List.map_cons,List.eraseIdx_cons_succ,List.eraseIdx_cons_succ,List.map_cons,Zct f l k]
theorem Zhj{as fs:List Wt}{e1:Option W}(hi:i<m.length)(hs:IsSt s)(h0:0<as.length)(hl:as.length<1000)(hf:fs.length<1000):
  ∃(w:Wt) (k:Nat) (s':List T),ex (cf (n+1)) gv Z8 [some (.c i),e1,some (.c m.length),some (.c (m.length+1))] (put (m2 m (as.map Wt.t) (fs.map Wt.t)) i s)=.ok (.next [some (.c i),e1,some (.c m.length),some (.c (m.length+1))]) (put (m2 m ((as.eraseIdx k).map Wt.t) ((fs++[w]).map Wt.t)) i s')/\IsSt s'/\as[k]?=some w:=by
 have hi':i<(m2 m (as.map Wt.t) (fs.map Wt.t)).length:=by unfold m2;rw[List.length_append];omega
 obtain⟨r,s1,g,hs1,r0,r1⟩:=Zm (n:=n) (many:=(as.length:Int)) hi' hs (by omega) (by omega)
 obtain⟨w,hw⟩:∃w,as[r.toNat]?=some w:=⟨as[r.toNat]'(by omega),List.getElem?_eq_getElem (by omega)⟩
 refine⟨w,r.toNat,s1,?_,hs1,hw⟩
 have hlen:ev (cf (n+1)) gv (.blt .len (.cons (.var 2) .nil)) [some (.c i),e1,some (.c m.length),some (.c (m.length+1))] (put (m2 m (as.map Wt.t) (fs.map Wt.t)) i s)=.ok (.t (.int (as.length:Int))) (put (m2 m (as.map Wt.t) (fs.map Wt.t)) i s):=by
  have hv:views [W.c m.length] (put (m2 m (as.map Wt.t) (fs.map Wt.t)) i s)=some [.lst (as.map Wt.t)]:=by
   show(view (.c m.length) (put (m2 m (as.map Wt.t) (fs.map Wt.t)) i s)).bind _=_
   rw[JG (m2_0 hi)]
   rfl
  refine Zix (Zc (Za rfl) Zo) hv ?_
  rw[l_lst,List.length_map]
 have mp:mutM .popat (as.map Wt.t) [.int r]=some (w.t,(as.eraseIdx r.toNat).map Wt.t):=by
  show(match ixOf (as.map Wt.t).length r with
   |some k=>((as.map Wt.t)[k]?).map λt=>(t,(as.map Wt.t).eraseIdx k)
   |none=>none)=_
  have:ixOf (as.map Wt.t).length r=some r.toNat:=by
   unfold ixOf
   rw[if_pos r0,List.length_map,if_pos r1]
  rw[this]
  dsimp only
  rw[List.getElem?_map,hw,Zct]
  rfl
 have ma:mutM .append (fs.map Wt.t) [w.t]=some (.non,(fs++[w]).map Wt.t):=by
  rw[List.map_append]
  exact if_pos (by rw[List.length_map];unfold lim;omega)
 have hP:ev (cf (n+1)) gv (.mth .popat (.var 2) (.cons (.call 5 (.cons (.var 0) (.cons (.blt .len (.cons (.var 2) .nil)) .nil))) .nil)) [some (.c i),e1,some (.c m.length),some (.c (m.length+1))] (put (m2 m (as.map Wt.t) (fs.map Wt.t)) i s)=.ok (.t w.t) (put (m2 m ((as.eraseIdx r.toNat).map Wt.t) (fs.map Wt.t)) i s1):=by
  refine(Zaw (.inr (.inl rfl)) rfl (m2_0 hi) ((ZK (Za rfl) hlen).trans g) (m2_0 hi) mp).trans ?_
  rw[m2_s0 hi]
 unfold Z8
 refine(Xl (Zaw (.inl rfl) rfl (m2_1 hi) hP (m2_1 hi) ma)).trans ?_
 rw[m2_s1 hi]
 exact ZX
theorem pops{e1:Option W}(hi:i<m.length):∀(k:Nat) (as fs:List Wt) (s:List T) (t:Nat),as.length=k->k<t->IsSt s->as.length+fs.length<1000->(∀w∈as,EntOk w.e) ->
  ∃(gs:List Wt) (s':List T),Qz (λenv m=>(ev (cf (n+1)) gv (.cmp .NotEq (.var 2) (.lst .nil)) env m).bind Z0) (λenv m=>ex (cf (n+1)) gv Z8 env m) t [some (.c i),e1,some (.c m.length),some (.c (m.length+1))] (put (m2 m (as.map Wt.t) (fs.map Wt.t)) i s) =
   .ok (.next [some (.c i),e1,some (.c m.length),some (.c (m.length+1))]) (put (m2 m [] (gs.map Wt.t)) i s')/\IsSt s'/\gs.Perm (fs++as)
 |k,as,fs,s,0,hk,ht,hs,hl,ho=>absurd ht (Nat.not_lt_zero _)
 |0,as,fs,s,t+1,hk,ht,hs,hl,ho=>by
  obtain rfl:as=[]:=List.length_eq_zero_iff.mp hk
  refine⟨fs,s,?_,hs,by rw[List.append_nil]⟩
  rw[Qz]
  rw[show ev (cf (n+1)) gv (.cmp .NotEq (.var 2) (.lst .nil)) [some (.c i),e1,some (.c m.length),some (.c (m.length+1))] (put (m2 m (([]:List Wt).map Wt.t) (fs.map Wt.t)) i s)=.ok (.t (.bl false)) (put (m2 m (([]:List Wt).map Wt.t) (fs.map Wt.t)) i s)from Zax (Za rfl) (Z2 Zo rfl Zv) (JG (m2_0 hi)) (Xn rfl).2]
  rfl
 |k+1,as,fs,s,t+1,hk,ht,hs,hl,ho=>by
  obtain⟨w,j,s1,h1,hs1,hj⟩:=Zhj (n:=n) (as:=as) (fs:=fs) (e1:=e1) hi hs (by omega) (by omega) (by omega)
  have hjl:j<as.length:=(List.getElem?_eq_some_iff.mp hj).1
  have hjw:as[j]=w:=(List.getElem?_eq_some_iff.mp hj).2
  have hlen:(as.eraseIdx j).length=k:=by rw[List.length_eraseIdx_of_lt hjl];omega
  have hpe:=Jp as j hjl
  rw[hjw]at hpe
  obtain⟨gs,s',h2,hs',hp⟩:=pops hi k (as.eraseIdx j) (fs++[w]) s1 t hlen (by omega) hs1 (by rw[List.length_append,List.length_singleton];omega) (λv hv=>ho v (hpe.mem_iff.mp (List.mem_cons_of_mem _ hv)))
  refine⟨gs,s',?_,hs',hp.trans ?_⟩
  ·rw[Qz]
   have hne:(!(as.map Wt.t).isEmpty)=true:=by
    cases as with
    |nil=>cases hk
    |cons _ _=>rfl
   have hq:=Zax (call:=cf (n+1)) (gv:=gv) (env:=[some (.c i),e1,some (.c m.length),some (.c (m.length+1))]) (m:=put (m2 m (as.map Wt.t) (fs.map Wt.t)) i s) (a:=.var 2) (b:=.lst .nil) (op:=.NotEq) (Za rfl) (Z2 Zo rfl Zv) (JG (m2_0 hi)) (Xn (ZcJ ho)).2
   rw[hne]at hq
   rw[hq]
   show(ex (cf (n+1)) gv Z8 [some (.c i),e1,some (.c m.length),some (.c (m.length+1))] (put (m2 m (as.map Wt.t) (fs.map Wt.t)) i s)).bind _=_
   rw[h1]
   exact h2
  ·rw[List.append_assoc]
   exact List.Perm.append_left fs hpe
theorem Ze0{ws:List Wt}(hi:i<m.length)(hs:IsSt s)(hl:ws.length<=30)(ho:∀w∈ws,EntOk w.e):∃(us:List Wt) (s':List T),cf (n+2) 15 [.c i,.t (wsT ws)] (put m i s)=.ok (.t (wsT us)) (put m i s')/\IsSt s'/\us.Perm ws:=by
 obtain⟨us,s1,h,hs1,hp⟩:=pops (n:=n) (e1:=some (.t (wsT ws))) hi ws.length ws [] s turns rfl (by unfold turns;omega) hs (by simp;omega) ho
 refine⟨us,s1,?_,hs1,hp⟩
 have key:ex (cf (n+1)) gv Jj [some (.c i),some (.t (wsT ws)),none,none] (put m i s)=.ok (.ret (.c (m.length+1))) (put (m2 m [] (us.map Wt.t)) i s1):=by
  unfold Jj
  refine(Zn (w:=.c m.length) (m1:=put m i s++[some (false,ws.map Wt.t)]) (by rw[ev,Za rfl,Zh];show Res.ok (W.c (put m i s).length) _=_;rw[Zi])).trans ?_
  dsimp only[List.set_cons_succ,List.set_cons_zero]
  refine(Zn (w:=.c (m.length+1)) (m1:=put (m2 m (ws.map Wt.t) []) i s) ?_).trans ?_
  ·rw[ev,evs]
   show Res.ok (W.c (put m i s++[some (false,ws.map Wt.t)]).length) (put m i s++[some (false,ws.map Wt.t)]++[some (false,[])])=_
   unfold m2
   rw[ZF hi,List.length_append,Zi,List.append_assoc]
   rfl
  dsimp only[List.set_cons_succ,List.set_cons_zero]
  rw[ex]
  rw[show Qz (λenv m=>(ev (cf (n+1)) gv (.cmp .NotEq (.var 2) (.lst .nil)) env m).bind Z0) (λenv m=>ex (cf (n+1)) gv Z8 env m) turns [some (.c i),some (.t (wsT ws)),some (.c m.length),some (.c (m.length+1))] (put (m2 m (ws.map Wt.t) []) i s)=_ from h]
  show ex (cf (n+1)) gv (.ret (.var 3) .done) [some (.c i),some (.t (wsT ws)),some (.c m.length),some (.c (m.length+1))] (put (m2 m [] (us.map Wt.t)) i s1)=_
  exact ZW (Za rfl)
 refine Qt (ZeL _ _ _) rfl key ?_
 show fin (put m i s).length false (.ret (.c (m.length+1))) _=_
 rw[Zi]
 unfold fin
 dsimp only
 rw[if_neg (by omega),m2_1 hi]
 dsimp only
 rw[if_neg Bool.false_ne_true,ZjK hi]
 rfl
end
section
variable{call:Nat->List W->Mem->Res W}{gv:List T}{env:Env}{m m1 m2:Mem}{a b:E}{w w':W}
theorem Zj3{op:PySem.CmpOp}{x y:T}{k:Bool}(h1:ev call gv a env m=.ok w m1)(h2:ev call gv b env m1=.ok w' m2)(hv:view w m2=some x)(hv':view w' m2=some y)(h3:cmpT op x y=some k):ev call gv (.cmp op a b) env m=.ok (.t (.bl k)) m2:=by
 rw[ev,h1,Zh,h2,Zh]
 show pur (((view w m2).bind λx=>(view w' m2).bind λy=>cmpT op x y).map .bl) m2=_
 rw[hv,hv']
 show pur ((cmpT op x y).map .bl) m2=_
 rw[h3]
 rfl
theorem Zj2{ty:Ty}{x:T}{k:Bool}(h:ev call gv a env m=.ok w m1)(hv:view w m1=some x)(hk:isT x ty=k):ev call gv (.isi a ty) env m=.ok (.t (.bl k)) m1:=by
 rw[ev,h,Zh]
 show pur ((view w m1).map λx=>.bl (isT x ty)) m1=_
 rw[hv,<-hk]
 rfl
theorem compC{α:Type}{own:Nat}{keep:List Nat}{it:E}{tg:Tg}{cs:Es}{inner:E}{j:Nat}{emb:α->T}{g:α->List T}(as:List α)(hit:ev call gv it env m=.ok (.c j) m)(hj:m[j]?=some (some (false,as.map emb)))(h:∀a∈as,∃env',Z7 tg (emb a) (List.replicate own none++keep.map λi=>(env[i]?).join)=some env'/\∀m',QD call gv cs inner env' m'=.ok (g a) m')(hz:(as.flatMap g).length<=lim):ev call gv (.comp own keep it tg cs inner) env m=.ok (.t (.lst (as.flatMap g))) m:=by
 have hb:ZQ (.c j) m=.ok (as.map emb) (m.set j (some (true,as.map emb))):=by
  unfold ZQ
  dsimp only
  rw[hj]
 have:=Jh (own:=own) (keep:=keep) (tg:=tg) (cs:=cs) (inner:=inner) hit hb (Q3 as λa ha=>let⟨e,h1,h2⟩:=h a ha;⟨e,h1,h2 _⟩) hz
 rw[this]
 have e:giveBack (.c j) m (m.set j (some (true,as.map emb)))=m:=by
  unfold giveBack
  dsimp only
  rw[hj]
  show(m.set j (some (true,as.map emb))).set j (some (false,as.map emb))=m
  rw[List.set_set]
  obtain⟨h1,h2⟩:=List.getElem?_eq_some_iff.mp hj
  rw[<-h2]
  exact List.set_getElem_self h1
 rw[e]
end
theorem ZdV(k:Nat):∀ns:List Int,Zj k (ns.map T.int)=true
 |[]=>rfl
 |n::ns=>by
  rw[List.map_cons,Zj,ZdV k ns]
  cases k<;>rfl
theorem Ze7(xs:List (List Int)):Zf 60 (.lst (xs.map tupT))=true:=by
 show Zj 59 (xs.map tupT)=true
 refine Qm.mpr λt ht=>?_
 obtain⟨x,_,rfl⟩:=List.mem_map.mp ht
 exact ZdV 58 x
theorem ZbL{bn:List (List Nat)}{us ws:List Wt}{x:List Int}(h:∀w∈us,w∈ws)(hx:InS bn us x):InS bn ws x:=by
 obtain⟨v,hv,w,hw,h1,h2,h3,h4⟩:=hx
 refine⟨v,h v hv,w,h w hw,h1,h2,h3,?_⟩
 rcases h4 with⟨q,u,hu,r⟩|q
 ·exact .inl ⟨q,u,h u hu,r⟩
 ·exact .inr q
theorem due_is{bn:List (List Nat)}{us ws:List Wt}(hp:us.Perm ws)(hn:(ws.map (·.no)).Nodup):sortI (ZC bn us)=sortI (Ju bn ws):=
 ZbZ (JN ((hp.map _).nodup_iff.mpr hn)) (Zbo hn) λx=>⟨λh=>JP.mpr (ZbL (λw hw=>hp.mem_iff.mp hw) (Qc.mp h)),λh=>Qc.mpr (ZbL (λw hw=>hp.mem_iff.mpr hw) (JP.mp h))⟩
theorem few_is{ws:List Wt}(hn:(ws.map (·.no)).Nodup):sortI (ZC [] (ws.filter λw=>!isS Z3 w))=sortI (ZC [] ws):=by
 refine ZbZ (JN (List.Pairwise.sublist (List.Sublist.map _ List.filter_sublist) hn)) (JN hn) λx=>?_
 rw[Qc,Qc]
 refine⟨λh=>ZbL (λw hw=>(List.mem_filter.mp hw).1) h,?_⟩
 rintro ⟨v,hv,w,hw,h1,h2,h3,h4⟩
 refine⟨v,List.mem_filter.mpr ⟨hv,by unfold isS;rw[h1];rfl⟩,w,List.mem_filter.mpr ⟨hw,by unfold isS;rw[h2];rfl⟩,h1,h2,h3,?_⟩
 rcases h4 with⟨q,_⟩|q
 ·cases q
 ·exact .inr q
theorem Zhx{ws:List Wt}(h:ws.length<=1):ZC [] ws=[]:=by
 refine List.eq_nil_iff_forall_not_mem.mpr λx hx=>?_
 obtain⟨v,hv,w,hw,h1,h2,_⟩:=Qc.mp hx
 rcases ws with _|⟨a,_|⟨b,r⟩⟩
 ·cases hv
 ·rw[List.mem_singleton.mp hv]at h1
  rw[List.mem_singleton.mp hw,h1]at h2
  cases h2
 ·rw[List.length_cons,List.length_cons]at h
  exact absurd h (by omega)
theorem ZgJ{ws:List Wt}(ho:∀w∈ws,Wok w){x:List Int}(hx:x∈sortI (ZC [oS,oatS,ryeS] ws)):x.length=3:=by
 have hx:=Qc.mp ((sortI_perm _).mem_iff.mp hx)
 obtain⟨v,hv,w,hw,_,_,_,h⟩:=hx
 rcases h with⟨_,u,_,_,_,rfl⟩|⟨q,_⟩
 ·rfl
 ·rcases(ho v hv).kd with h|h|h<;>rw[h]at q<;>cases q
theorem cut1{α:Type}(xs:List α):cut xs none (some 1)=xs.take 1:=by
 cases xs with
 |nil=>rfl
 |cons a l =>
  unfold cut ZeF
  dsimp only
  rw[if_neg (by omega),show(1:Int).toNat=1 from rfl,Nat.min_eq_left (by rw[List.length_cons];omega)]
  simp
theorem ZgQ{M:Mem}{i:Nat}{s xs:List T}(hi:i<M.length):view (.c M.length) (put M i s++[some (false,xs)])=some (.lst xs):=by
 refine JG ?_
 have:=Qh (m:=put M i s) (c:=some (false,xs))
 rw[Zi]at this
 exact this
section
variable{n:Nat}{ns:List Int}{M:Mem}{i:Nat}{s:List T}{bn:List (List Nat)}{ws:List Wt}
noncomputable def dueT(bn:List (List Nat))(ws:List Wt):T:=.lst ((sortI (Ju bn ws)).map tupT)
theorem JM(hi:i<M.length)(hl:ws.length<=30)(hn:(ws.map (·.no)).Nodup):cf (n+3) 2 [.t (bnT bn),.t (wsT ws)] (put M i s)=.ok (.c M.length) (put (M++[some (false,(sortI (ZC bn ws)).map tupT)]) i s):=by
 rw[ZiS hl hn,Zi,ZF hi]
theorem law_0{e1 e2 e7 e8 e9 e10 e11 e12:Option W}(hi:i<M.length)(hs:IsSt s)(hl:ws.length<=30)(ho:∀w∈ws,Wok w)(hn:(ws.map (·.no)).Nodup):
  ∃(M':Mem) (s':List T) (g8 g9 g10:Option W),ex (cf (n+20)) gv Xj [some (.t (.scr ns)),e1,e2,some (.c i),some (.t (bnT bn)),some (.t (wsT ws)),some (.t (dueT bn ws)),e7,e8,e9,e10,e11,e12] (put M i s) =
   .ok (.next [some (.t (.scr ns)),e1,e2,some (.c i),some (.t (bnT bn)),some (.t (wsT ws)),some (.t (dueT bn ws)),e7,g8,g9,g10,e11,e12]) (put M' i s')/\i<M'.length/\IsSt s':=by
 obtain⟨us,s1,g1,hs1,hp⟩:=Ze0 (n:=n+18) hi hs hl λw hw=>(ho w hw).ent
 have hl':us.length<=30:=by rw[hp.length_eq];exact hl
 have hn':(us.map (·.no)).Nodup:=(hp.map _).nodup_iff.mpr hn
 have hd:=due_is (bn:=bn) hp hn
 have g2:=JM (n:=n+17) (s:=s1) (bn:=bn) hi hl' hn'
 have hdu:Zf 60 (wsT us)=true:=ZcJ λw hw=>(ho w (hp.mem_iff.mp hw)).ent
 rw[hd]at g2
 generalize hX:sortI (Ju bn ws)=X at g2
 have hD:dueT bn ws=.lst (X.map tupT):=by unfold dueT;rw[hX]
 rw[hD]
 have hat:∀L:List T,(put (M++[some (false,L)]) i s1)[M.length]?=some (some (false,L)):=λL=>by
  rw[ZF hi]
  have:=Qh (m:=put M i s1) (c:=some (false,L))
  rw[Zi]at this
  exact this
 refine⟨M++[some (false,X.map tupT++[.non])],s1,some (.t (wsT us)),some (.t (wsT us)),some (.c M.length),?_,by rw[List.length_append];omega,hs1⟩
 unfold Xj
 refine(Zn ((ZK (Za rfl) (Za rfl)).trans g1)).trans ?_
 dsimp only[List.set_cons_succ,List.set_cons_zero]
 refine(Zn (Qv (Za rfl) (l_list _))).trans ?_
 dsimp only[List.set_cons_succ,List.set_cons_zero]
 refine(Zn ((ZK (Za rfl) (Za rfl)).trans g2)).trans ?_
 dsimp only[List.set_cons_succ,List.set_cons_zero]
 refine(Qf (m1:=put (M++[some (false,X.map tupT)]) i s1) ?_).trans ?_
 ·rw[Zgn (Ziw (Zj2 (k:=true) (Za rfl) (JG (hat _)) rfl)),Zgn (Zax (Za rfl) (Za rfl) (JG (hat _)) (Zc5 (Ze7 X)))]
  exact Qj (Za rfl) (Za rfl) (Zc5 hdu)
 refine(Qf (m1:=put (M++[some (false,X.map tupT)]) i s1) ?_).trans ?_
 ·have hc:ev (cf (n+20)) gv ZgF [some (.t (.scr ns)),e1,e2,some (.c i),some (.t (bnT bn)),some (.t (wsT ws)),some (.t (.lst (X.map tupT))),e7,some (.t (wsT us)),some (.t (wsT us)),some (.c M.length),e11,e12] (put (M++[some (false,X.map tupT)]) i s1)=.ok (.t (.lst (X.flatMap λ_=>[]))) (put (M++[some (false,X.map tupT)]) i s1):=by
   refine compC X (Za rfl) (hat _) (λx _=>⟨[some (.t (tupT x))],rfl,λm'=>ZaZ (Ziw (ev_isi (k:=true) (Za rfl) rfl))⟩) ?_
   rw[List.flatMap_eq_nil_iff.mpr λ_ _=>rfl]
   exact Nat.zero_le _
  rw[List.flatMap_eq_nil_iff.mpr λ_ _=>rfl]at hc
  exact Qj hc (Z2 Zo rfl Zv) (Xn rfl).2
 have hu:mutM .append (X.map tupT) [.non]=some (.non,X.map tupT++[.non]):=if_pos (by
  rw[List.length_map,<-hX,(sortI_perm _).length_eq]
  have:=Zah (bn:=bn) hl
  unfold lim
  omega)
 refine(Xl (Zaw (.inl rfl) rfl (hat _) (Zb _) (hat _) hu)).trans ?_
 rw[ZF hi,ZF hi]
 have:=ZcP (m:=put M i s1) (c:=some (false,X.map tupT)) (d:=some (false,X.map tupT++[.non]))
 rw[Zi]at this
 rw[this]
 exact ZX
theorem law_1{k x:Int}{m:Mem}{e3 e4 e5 e6 e7 e8 e9 e10 e11 e12:Option W}:∃(m':Mem) (f3 f4 f5 f6 f7 f8 f9 f10 f11 f12:Option W),ex (cf (n+20)) gv ZbJ [some (.t (.scr ns)),some (.t (.int k)),some (.t (.int x)),e3,e4,e5,e6,e7,e8,e9,e10,e11,e12] m=.ok (.next [some (.t (.scr ns)),some (.t (.int k)),some (.t (.int x)),f3,f4,f5,f6,f7,f8,f9,f10,f11,f12]) m':=by
 obtain⟨s0,g0,hs0⟩:=ZiL (n:=n+19) (m:=m) (x:=x)
 have hi:m.length<(m++[none]).length:=by simp
 generalize hM:m++[none]=M at g0 hi
 generalize hI:m.length=i at g0 hi
 obtain⟨bn,s1,g1,hs1⟩:=Zh5 (n:=n+18) hi hs0
 have hmost:∃(most:Int) (s2:List T),ev (cf (n+20)) gv (.ix (.lst (.cons (.con (.int 12)) (.cons (.con (.int 30)) .nil))) (.blt .int (.cons (.and (.cmp .Eq (.var 1) (.con (.int 0))) (.cmp .Eq (.call 5 (.cons (.var 3) (.cons (.con (.int 8)) .nil))) (.con (.int 7)))) .nil))) [some (.t (.scr ns)),some (.t (.int k)),some (.t (.int x)),some (.c i),some (.t (bnT bn)),e5,e6,e7,e8,e9,e10,e11,e12] (put M i s1)=.ok (.t (.int most)) (put M i s2)/\IsSt s2/\(0<=most/\most<=30):=by
  have hb:∀b:Bool,∃most:Int,ixT (.lst [.int 12,.int 30]) (.int (b2i b))=some (.int most)/\(0<=most/\most<=30):=λb=>by
   cases b
   ·exact⟨12,rfl,by decide,by decide⟩
   ·exact⟨30,rfl,by decide,by decide⟩
  have hq:ev (cf (n+20)) gv (.cmp .Eq (.var 1) (.con (.int 0))) [some (.t (.scr ns)),some (.t (.int k)),some (.t (.int x)),some (.c i),some (.t (bnT bn)),e5,e6,e7,e8,e9,e10,e11,e12] (put M i s1)=.ok (.t (.bl (k==0))) (put M i s1):=Qj (Za rfl) (Zb _) (Zh3 _ _)
  cases hk:(k==0)with
  |false =>
   rw[hk]at hq
   obtain⟨most,h1,h2⟩:=hb false
   exact⟨most,s1,ZZ (Z2 (Zc (Zb _) (Zc (Zb _) Zo)) rfl Zv) (Qv (Zdg hq) (ZjN false)) h1,hs1,h2⟩
  |true =>
   rw[hk]at hq
   obtain⟨r,s2,g,hs2,_,_⟩:=Zm (n:=n+19) (many:=8) hi hs1 (by decide) (by decide)
   obtain⟨most,h1,h2⟩:=hb (r==7)
   exact⟨most,s2,ZZ (Z2 (Zc (Zb _) (Zc (Zb _) Zo)) rfl Zv) (Qv ((ZbM hq).trans (Qj ((ZK (Za rfl) (Zb _)).trans g) (Zb _) (Zh3 _ _))) (ZjN _)) h1,hs2,h2⟩
 obtain⟨most,s2,hmo,hs2,hm2⟩:=hmost
 obtain⟨ws,s3,g3,hs3,ho,hn,hl⟩:=Zd0 (n:=n+11) hi hs2 hm2
 have g4:=law_sets_ok (n:=n+19) (m:=put M i s3) (bn:=bn) hl (λw hw=>(ho w hw).ent) hn
 have step:∀(M:Mem) (s:List T) (e7 e8 e9 e10:Option W),i<M.length->IsSt s->_:=λM s e7 e8 e9 e10 hi hs=>law_0 (n:=n) (ns:=ns) (bn:=bn) (e1:=some (.t (.int k))) (e2:=some (.t (.int x))) (e7:=e7) (e8:=e8) (e9:=e9) (e10:=e10) (e11:=e11) (e12:=e12) hi hs hl ho hn
 obtain⟨M4,s4,a8,a9,a10,h4,hi4,hs4⟩:=step M s3 (some (.t (.int 0))) e8 e9 e10 hi hs3
 obtain⟨M5,s5,b8,b9,b10,h5,hi5,hs5⟩:=step M4 s4 (some (.t (.int 1))) a8 a9 a10 hi4 hs4
 have hloop:Qp (ex (cf (n+20)) gv Xj) (.nm 7) [.int 0,.int 1] [some (.t (.scr ns)),some (.t (.int k)),some (.t (.int x)),some (.c i),some (.t (bnT bn)),some (.t (wsT ws)),some (.t (dueT bn ws)),e7,e8,e9,e10,e11,e12] (put M i s3)=.ok (.next [some (.t (.scr ns)),some (.t (.int k)),some (.t (.int x)),some (.c i),some (.t (bnT bn)),some (.t (wsT ws)),some (.t (dueT bn ws)),some (.t (.int 1)),b8,b9,b10,e11,e12]) (put M5 i s5):=by
  rw[Qp]
  show(ex (cf (n+20)) gv Xj [some (.t (.scr ns)),some (.t (.int k)),some (.t (.int x)),some (.c i),some (.t (bnT bn)),some (.t (wsT ws)),some (.t (dueT bn ws)),some (.t (.int 0)),e8,e9,e10,e11,e12] (put M i s3)).bind _=_
  rw[h4,Zh]
  dsimp only
  rw[Qp]
  show(ex (cf (n+20)) gv Xj [some (.t (.scr ns)),some (.t (.int k)),some (.t (.int x)),some (.c i),some (.t (bnT bn)),some (.t (wsT ws)),some (.t (dueT bn ws)),some (.t (.int 1)),a8,a9,a10,e11,e12] (put M4 i s4)).bind _=_
  rw[h5]
  rfl
 -- everywhere
 have g6:=JM (n:=n+17) (s:=s5) (bn:=[oS,oatS,ryeS]) hi5 hl hn
 have hi6:i<(M5++[some (false,(sortI (ZC [oS,oatS,ryeS] ws)).map tupT)]).length:=by rw[List.length_append];omega
 have hat:(put (M5++[some (false,(sortI (ZC [oS,oatS,ryeS] ws)).map tupT)]) i s5)[M5.length]?=some (some (false,(sortI (ZC [oS,oatS,ryeS] ws)).map tupT)):=by
  rw[ZF hi5]
  have:=Qh (m:=put M5 i s5) (c:=some (false,(sortI (ZC [oS,oatS,ryeS] ws)).map tupT))
  rw[Zi]at this
  exact this
 generalize hM6:M5++[some (false,(sortI (ZC [oS,oatS,ryeS] ws)).map tupT)]=M6 at g6 hi6 hat
 have hcu:cut (ws.map Wt.t) none (some 1)=(ws.take 1).map Wt.t:=by rw[cut1,List.map_take]
 have hl1:(ws.take 1).length<=1:=by rw[List.length_take];exact Nat.min_le_left _ _
 have g7:=JM (n:=n+17) (s:=s5) (bn:=[]) (ws:=ws.take 1) hi6 (by omega) (List.Pairwise.sublist (List.Sublist.map _ (List.take_sublist _ _)) hn)
 rw[Zhx hl1]at g7
 have hi7:i<(M6++[some (false,(sortI []).map tupT)]).length:=by rw[List.length_append];omega
 have hat7:(put (M6++[some (false,(sortI []).map tupT)]) i s5)[M6.length]?=some (some (false,[])):=by
  rw[ZF hi6]
  have:=Qh (m:=put M6 i s5) (c:=some (false,(sortI []).map tupT))
  rw[Zi]at this
  exact this
 generalize hM7:M6++[some (false,(sortI []).map tupT)]=M7 at g7 hi7 hat7
 have hlf:(ws.filter λw=>!isS Z3 w).length<=30:=Nat.le_trans (List.length_filter_le _ _) hl
 have g8:=JM (n:=n+17) (s:=s5) (bn:=[]) (ws:=ws.filter λw=>!isS Z3 w) hi7 hlf (List.Pairwise.sublist (List.Sublist.map _ List.filter_sublist) hn)
 rw[few_is hn]at g8
 have hi8:i<(M7++[some (false,(sortI (ZC [] ws)).map tupT)]).length:=by rw[List.length_append];omega
 have g9:=JM (n:=n+17) (s:=s5) (bn:=[]) (ws:=ws) hi8 hl hn
 have v8:view (.c M7.length) (put (M7++[some (false,(sortI (ZC [] ws)).map tupT)]++[some (false,(sortI (ZC [] ws)).map tupT)]) i s5)=some (.lst ((sortI (ZC [] ws)).map tupT)):=by
  refine JG ?_
  rw[ZF hi8,ZF hi7,List.append_assoc,List.getElem?_append_right (by rw[Zi];omega),Zi,Nat.sub_self]
  rfl
 have v9:view (.c (M7++[some (false,(sortI (ZC [] ws)).map tupT)]).length) (put (M7++[some (false,(sortI (ZC [] ws)).map tupT)]++[some (false,(sortI (ZC [] ws)).map tupT)]) i s5)=some (.lst ((sortI (ZC [] ws)).map tupT)):=by
  rw[ZF hi8]
  exact ZgQ hi8
 refine⟨put (M7++[some (false,(sortI (ZC [] ws)).map tupT)]++[some (false,(sortI (ZC [] ws)).map tupT)]) i s5,some (.c i),some (.t (bnT bn)),some (.t (wsT ws)),some (.t (dueT bn ws)),some (.t (.int 1)),b8,b9,b10,some (.c M5.length),some (.t (wsT (ws.filter λw=>!isS Z3 w))),?_⟩
 unfold ZbJ
 refine(Zn ((Zaa (Za rfl)).trans g0)).trans ?_
 dsimp only[List.set_cons_succ,List.set_cons_zero]
 refine(Zn ((Zaa (Za rfl)).trans g1)).trans ?_
 dsimp only[List.set_cons_succ,List.set_cons_zero]
 refine(Zn ((ZK (Za rfl) hmo).trans g3)).trans ?_
 dsimp only[List.set_cons_succ,List.set_cons_zero]
 refine(Zn ((ZK (Za rfl) (Za rfl)).trans g4)).trans ?_
 dsimp only[List.set_cons_succ,List.set_cons_zero]
 refine(Js (Qv (Zb _) (ZjM (i:=2) (by decide))) rfl hloop).trans ?_
 refine(Zn ((ZK (Qu (Zc (Zb _) (Zc (Zb _) (Zc (Zb _) Zo))) rfl Zv) (Za rfl)).trans g6)).trans ?_
 dsimp only[List.set_cons_succ,List.set_cons_zero]
 refine(Qf (m1:=put M7 i s5) ?_).trans ?_
 ·have hc:ev (cf (n+20)) gv ZgG [some (.t (.scr ns)),some (.t (.int k)),some (.t (.int x)),some (.c i),some (.t (bnT bn)),some (.t (wsT ws)),some (.t (dueT bn ws)),some (.t (.int 1)),b8,b9,b10,some (.c M5.length),e12] (put M6 i s5)=.ok (.t (.lst ((sortI (ZC [oS,oatS,ryeS] ws)).flatMap λ_=>[]))) (put M6 i s5):=by
   refine compC (sortI (ZC [oS,oatS,ryeS] ws)) (Za rfl) hat (λx hx=>⟨[some (.t (tupT x))],rfl,λm'=>ZaZ (Qj (Qv (Za rfl) (l_tup _)) (Zb _) ?_)⟩) ?_
   ·rw[List.length_map,ZgJ ho hx]
    rfl
   ·rw[List.flatMap_eq_nil_iff.mpr λ_ _=>rfl]
    exact Nat.zero_le _
  rw[List.flatMap_eq_nil_iff.mpr λ_ _=>rfl]at hc
  rw[Zgn (Qj hc (Z2 Zo rfl Zv) (Xn rfl).2)]
  refine Zax ((ZK (w1:=.t (wsT (ws.take 1))) (Qu Zo rfl Zv) (Zj1 (Za rfl) (Zb _) ?_)).trans g7) (Z2 Zo rfl Zv) (JG hat7) (Xn rfl).2
  show some (T.lst (cut (ws.map Wt.t) none (some 1)))=_
  rw[hcu]
  rfl
 have hfew:ev (cf (n+20)) gv ZgH [some (.t (.scr ns)),some (.t (.int k)),some (.t (.int x)),some (.c i),some (.t (bnT bn)),some (.t (wsT ws)),some (.t (dueT bn ws)),some (.t (.int 1)),b8,b9,b10,some (.c M5.length),e12] (put M7 i s5)=.ok (.t (wsT (ws.filter λw=>!isS Z3 w))) (put M7 i s5):=by
  unfold wsT
  rw[<-ZJ (λw=>!isS Z3 w) Wt.t]
  refine ZbP ws (Za rfl) rfl (λw _=>⟨[some (.t w.t)],rfl,?_⟩) ?_
  ·have ht:ev (cf (n+20)) gv (.cmp .NotEq (.ix (.ix (.var 0) (.con (.int 1))) (.con (.int 0))) (.con (.str [98,101,97,114]))) [some (.t w.t)] (put M7 i s5)=.ok (.t (.bl (!isS Z3 w))) (put M7 i s5):=
    Qj (ZZ (ZZ (Za rfl) (Zb _) rfl) (Zb _) rfl) (Zb _) (c_neS _ _)
   cases h:(!isS Z3 w)with
   |true=>rw[h]at ht;exact Zdy ht (Q4 (Za rfl))
   |false=>rw[h]at ht;exact ZaZ ht
  ·rw[ZJ,List.length_map]
   exact Nat.le_trans hlf (by decide)
 refine(Zn hfew).trans ?_
 dsimp only[List.set_cons_succ,List.set_cons_zero]
 refine(Qf (Zj3 ((ZK (Qu Zo rfl Zv) (Za rfl)).trans g8) ((ZK (Qu Zo rfl Zv) (Za rfl)).trans g9) v8 v9 (Zc5 (Ze7 _)))).trans ?_
 exact ZX
end
theorem law_true(ns:List Int)(hl:ns.length<=63):∃m,J8 fns gv 41 16 [.t (.scr ns)] []=.ok (.t (.bl true)) m:=by
 obtain⟨v,hv⟩:=Zj9 (n:=39) (m:=[]) (ns:=ns)
 obtain⟨env1,m1,e1,_⟩:=Za8 (f:=ex (cf 40) gv ZbJ) (tg:=.tp [1,2]) (P:=λenv m=>∃e1 e2 e3 e4 e5 e6 e7 e8 e9 e10 e11 e12,env=[some (.t (.scr ns)),e1,e2,e3,e4,e5,e6,e7,e8,e9,e10,e11,e12]) (ZaU (.int v::(cut ns (some 1) (some 8)).map .int)) [some (.t (.scr ns)),none,none,none,none,none,none,none,none,none,none,none,none] [] ⟨_,_,_,_,_,_,_,_,_,_,_,_,rfl⟩ (by
  rintro t ht env m ⟨e1,e2,e3,e4,e5,e6,e7,e8,e9,e10,e11,e12,rfl⟩
  have:∃(k x:Int),t=.tup [.int k,.int x]:=by
   unfold ZaU at ht
   rw[List.mem_iff_getElem?]at ht
   obtain⟨j,hj⟩:=ht
   rw[List.getElem?_zipWith]at hj
   cases q1:(List.range (T.int v::(cut ns (some 1) (some 8)).map .int).length)[j]? with
   |none=>rw[q1]at hj;cases hj
   |some k =>
    cases q2:(T.int v::(cut ns (some 1) (some 8)).map .int)[j]? with
    |none=>rw[q1,q2]at hj;cases hj
    |some y =>
     rw[q1,q2]at hj
     cases hj
     have:∃x:Int,y=.int x:=by
      rcases List.mem_cons.mp (List.mem_of_getElem? q2)with rfl|ht
      ·exact⟨v,rfl⟩
      ·obtain⟨x,_,rfl⟩:=List.mem_map.mp ht
       exact⟨x,rfl⟩
     obtain⟨x,rfl⟩:=this
     exact⟨_,x,rfl⟩
  obtain⟨k,x,rfl⟩:=this
  obtain⟨m',f3,f4,f5,f6,f7,f8,f9,f10,f11,f12,h1⟩:=law_1 (n:=20) (ns:=ns) (k:=k) (x:=x) (m:=m) (e3:=e3) (e4:=e4) (e5:=e5) (e6:=e6) (e7:=e7) (e8:=e8) (e9:=e9) (e10:=e10) (e11:=e11) (e12:=e12)
  exact⟨_,_,m',rfl,h1,_,_,_,_,_,_,_,_,_,_,_,_,rfl⟩)
 refine⟨[],?_⟩
 have key:ex (cf 40) gv ZeR [some (.t (.scr ns)),none,none,none,none,none,none,none,none,none,none,none,none] []=.ok (.ret (.t (.bl true))) m1:=by
  unfold ZeR
  have hcl:(cut ns (some 1) (some 8)).length<=ns.length:=by unfold cut;simp;omega
  have hit0:ev (cf 40) gv (.bin .Add (.lst (.cons (.call 3 (.cons (.var 0) (.cons (.con (.int 0)) .nil))) .nil)) (.slc (.var 0) (.con (.int 1)) (.con (.int 8)))) [some (.t (.scr ns)),none,none,none,none,none,none,none,none,none,none,none,none] []=.ok (.t (.lst (.int v::(cut ns (some 1) (some 8)).map .int))) []:=by
   simp[ev,evs,isT,Zt,EVs,hv,lim]
   rw[b_addL (by simp[lim];omega)]
   rfl
  have hit:=Qv (bb:=.enum) (ev_tr hit0) (show bltT .enum [.lst (.int v::(cut ns (some 1) (some 8)).map .int)]=some (.lst (ZaU (.int v::(cut ns (some 1) (some 8)).map .int)))from if_pos (by rw[List.length_cons,List.length_map];unfold lim;omega))
  refine(Js hit rfl e1).trans ?_
  exact ZW (Zb _)
 show cf 41 16 [.t (.scr ns)] []=_
 rw[cf_law]
 simp[key,Zh,fin]
end My
end
section
set_option maxHeartbeats 1000000
namespace My
open PySem PySem.Spec PyProof.Rows L2 Mi
noncomputable def top(i:Nat):Stmt:=PySem.Challenge.pw_matepoint_k43_sets_of_waiters.main.body.getD i (.Pass ⟨0,0,0,0⟩)
noncomputable abbrev JR:Stmt:=top 2
noncomputable abbrev Jl:Stmt:=top 4
noncomputable abbrev JQ:Stmt:=top 5
noncomputable abbrev Jo:Stmt:=top 7
noncomputable abbrev Zbu:Stmt:=top 8
noncomputable abbrev Zby:Stmt:=top 9
noncomputable abbrev Zbw:Stmt:=top 10
noncomputable abbrev Zbx:Stmt:=top 11
noncomputable abbrev JT:Stmt:=top 12
noncomputable abbrev Zbz:Stmt:=top 13
noncomputable abbrev Zbt:Stmt:=top 14
noncomputable abbrev XX:Stmt:=top 15
noncomputable abbrev Zbv:Stmt:=top 16
noncomputable abbrev X3:Stmt:=top 17
noncomputable abbrev Jm:Stmt:=top 18
noncomputable abbrev JS:Stmt:=top 19
noncomputable abbrev Zb5:Stmt:=top 20
set_option hygiene false
local macro_rules
 | `(tactic| wtm_at $s:str)=>do
  let mut r:Array (Lean.TSyntax `tactic):=#[]
  for c in s.getString.toList do
   let t ← match c with
    | '0'=>`(tactic| exact rfl)
    | '1'=>`(tactic| refine Zhw ?_ ?_ ?_)
    | '2'=>`(tactic| exact Zjt)
    | '3'=>`(tactic| exact Zjj)
    | '4'=>`(tactic| exact (vr 0))
    | '5'=>`(tactic| refine Zhu ?_ ?_ ?_ ?_ ?_)
    | '6'=>`(tactic| exact hr)
    | '7'=>`(tactic| exact (Zja (by decide +kernel)))
    | '8'=>`(tactic| exact go.lk)
    | '9'=>`(tactic| refine Zjr ?_ ?_)
    | 'a'=>`(tactic| refine pe_ixW ?_ ?_ ?_)
    | 'b'=>`(tactic| exact (fun _ _=>rfl))
    | 'c'=>`(tactic| exact (by decide))
    | 'd'=>`(tactic| exact T1.f_Ldraw)
    | 'e'=>`(tactic| exact (vr 1))
    | 'f'=>`(tactic| exact (by with_unfolding_all rfl))
    | 'g'=>`(tactic| exact hr.units)
    | 'h'=>`(tactic| refine Zg7 ?_)
    | 'i'=>`(tactic| exact (by kernel_rfl))
    | 'j'=>`(tactic| exact (vr 2))
    | 'k'=>`(tactic| refine Zi9 ?_)
    | 'l'=>`(tactic| refine ZiZ ?_ ?_ ?_ ?_)
    | 'm'=>`(tactic| exact Zg8)
    | 'n'=>`(tactic| refine Zjf ?_)
    | 'o'=>`(tactic| refine ⟨?_,?_⟩)
    | 'p'=>`(tactic| exact (vr 3))
    | 'q'=>`(tactic| refine pi_of ?_)
    | 'r'=>`(tactic| exact ⟨rfl,rfl,rfl,by decide +kernel,rfl,by decide +kernel,by decide +kernel⟩)
    | 's'=>`(tactic| intro P w K mg base k f cdv A outer s H E T0 T1 hr xe pn xr go)
    | 't'=>`(tactic| refine ⟨?_⟩)
    | 'u'=>`(tactic| exact (fun _=>rfl))
    | 'v'=>`(tactic| exact True.intro)
    | 'w'=>`(tactic| refine Zi3 ?_ ?_ ?_ ?_)
    | 'x'=>`(tactic| refine ZhS ?_ ?_ ?_ ?_ ?_ ?_ ?_)
    | 'y'=>`(tactic| intro _ _ _ _ _)
    | 'z'=>`(tactic| refine ⟨?_,?_,?_⟩)
    | 'A'=>`(tactic| exact Jz.nd)
    | 'B'=>`(tactic| exact (vr 5))
    | 'C'=>`(tactic| exact (vr 4))
    | 'D'=>`(tactic| exact Zb3.nd)
    | 'E'=>`(tactic| refine sg (i:=2) ?_ ?_ ?_)
    | 'F'=>`(tactic| exact (vr 10))
    | 'G'=>`(tactic| exact go.po)
    | 'H'=>`(tactic| refine sg (i:=3) ?_ ?_ ?_)
    | 'I'=>`(tactic| exact lk0)
    | 'J'=>`(tactic| refine Zg9 ?_ ?_ ?_ ?_ ?_ ?_ ?_)
    | 'K'=>`(tactic| refine Zfx ?_ ?_)
    | 'L'=>`(tactic| exact (vr 7))
    | 'M'=>`(tactic| refine Zjn ?_)
    | 'N'=>`(tactic| refine Zjl ?_ ?_ ?_ ?_)
    | 'O'=>`(tactic| exact (vr 9))
    | 'P'=>`(tactic| exact T1.f_sets_of)
    | 'Q'=>`(tactic| exact pe_blW)
    | 'R'=>`(tactic| refine Zjh ?_ ?_ ?_ ?_ ?_)
    | 'S'=>`(tactic| exact T0.b_len)
    | 'T'=>`(tactic| refine Zhq ?_ ?_ ?_ ?_ ?_)
    | 'U'=>`(tactic| exact T0.b_int)
    | 'V'=>`(tactic| exact T0.b_tuple)
    | 'W'=>`(tactic| refine sg (i:=4) ?_ ?_ ?_)
    | 'X'=>`(tactic| exact Zb4.nd)
    | 'Y'=>`(tactic| exact (vr 6))
    | 'Z'=>`(tactic| exact (vr 8))
    | '!'=>`(tactic| exact XS.nd)
    | '#'=>`(tactic| refine PW.pt ?_)
    | '$'=>`(tactic| refine Zeo ?_ ?_)
    | '%'=>`(tactic| exact T0.b_sorted)
    | '&'=>`(tactic| exact ZdF.nd)
    | '('=>`(tactic| refine Zel ?_ ?_ ?_ ?_ ?_)
    | ')'=>`(tactic| exact T1.f_Lpick)
    | '*'=>`(tactic| exact T1.f_Lwish)
    | '+'=>`(tactic| refine Zek ?_ ?_ ?_)
    | ','=>`(tactic| exact T0.b_range)
    | '-'=>`(tactic| refine sg (i:=5) ?_ ?_ ?_)
    | '.'=>`(tactic| refine sg (i:=8) ?_ ?_ ?_)
    | '/'=>`(tactic| refine sg (i:=9) ?_ ?_ ?_)
    | ':'=>`(tactic| refine sg (i:=10) ?_ ?_ ?_)
    | ';'=>`(tactic| exact T0.b_list)
    | '<'=>`(tactic| refine Zhk ?_ ?_)
    | '='=>`(tactic| refine pw_orW ?_ ?_)
    | '>'=>`(tactic| refine Zen ?_ ?_)
    | '?'=>`(tactic| refine Zg6 ?_ ?_ ?_ ?_)
    | '@'=>`(tactic| exact T1.f_Lnumber)
    | '['=>`(tactic| refine sg (i:=6) ?_ ?_ ?_)
    | ']'=>`(tactic| refine sg (i:=7) ?_ ?_ ?_)
    | '^'=>`(tactic| refine sg (i:=11) ?_ ?_ ?_)
    | '_'=>`(tactic| exact Za4.nd)
    | '`'=>`(tactic| refine Zjb ?_ ?_ ?_)
    | '{'=>`(tactic| refine Zji ?_ ?_ ?_ ?_ ?_ ?_)
    | '|'=>`(tactic| exact (by decide +kernel))
    | '}'=>`(tactic| refine Q0 (N':=["_law_numbers"]) ?_ ?_)
    | '~'=>`(tactic| exact (ZR 0 (show List.Nodup (["_law_numbers"]:List Str) from by decide +kernel)))
    | _=>Lean.Macro.throwUnsupported
   r:=r.push t
  `(tactic| ($[$r:tactic];*))
theorem Zea:FnScope ["offer"] ["offer"] (Ze JR):=by
 wtm_at "r"
theorem Zak:FnScope ["kind","waiters","alike"] ["kind","waiters"] (Ze Jl):=by
 wtm_at "r"
theorem QJ:FnScope ["borne","waiters","told","kind","givers","takers","bearers","pairs"] ["borne","waiters"] (Ze JQ):=by
 wtm_at "r"
theorem ZcR:FnScope ["_law_script","_law_k"] ["_law_script","_law_k"] (Ze Jo):=by
 wtm_at "r"
theorem ZgZ:FnScope ["_law_cell"] ["_law_cell"] (Ze Zbu):=by
 wtm_at "r"
theorem ZdF:FnScope ["_law_tape_here","_law_many","_law_found","_law_number_here"] ["_law_tape_here","_law_many"] (Ze Zby):=by
 wtm_at "r"
theorem Zg0:FnScope ["_law_tape_here","_law_some"] ["_law_tape_here","_law_some"] (Ze Zbw):=by
 wtm_at "r"
theorem ZdE:FnScope ["_law_k","_law_some"] ["_law_k"] (Ze Zbx):=by
 wtm_at "r"
theorem Zeb:FnScope ["_law_tape_here"] ["_law_tape_here"] (Ze JT):=by
 wtm_at "r"
theorem Zbs:FnScope ["_law_tape_here","_law_name_here","_law_kind","_law_marks","_law_sizes"] ["_law_tape_here","_law_name_here","_law_kind"] (Ze Zbz):=by
 wtm_at "r"
theorem Zbr:FnScope ["_law_tape_here","_law_deep","_law_way","_law_many"] ["_law_tape_here","_law_deep"] (Ze Zbt):=by
 wtm_at "r"
theorem Zb4:FnScope ["_law_tape_here","_law_side","_law_name_here","_law_kind","_law_till","_law_many","_law_least","_law_wish_here","_law_weight"] ["_law_tape_here","_law_side","_law_name_here","_law_kind","_law_till"] (Ze XX):=by
 wtm_at "r"
theorem XS:FnScope ["_law_borne_here","_law_waiters_here","_law_found","_law_one","_law_giver","_law_some","_law_two","_law_taker","_law_more","_law_kind","_law_third"] ["_law_borne_here","_law_waiters_here"] (Ze Zbv):=by
 wtm_at "r"
theorem Zfq:FnScope ["_law_tape_here"] ["_law_tape_here"] (Ze X3):=by
 wtm_at "r"
theorem Jz:FnScope ["_law_tape_here","_law_most","_law_found","_law_turn","_law_number_here","_law_few","_law_k","_law_side","_law_kind","_law_name_here","_law_offer_here","_law_left"] ["_law_tape_here","_law_most"] (Ze Jm):=by
 wtm_at "r"
theorem Za4:FnScope ["_law_tape_here","_law_some","_law_left","_law_found"] ["_law_tape_here","_law_some"] (Ze JS):=by
 wtm_at "r"
theorem Zb3:FnScope ["_law_script","_law_at","_law_cell","_law_tape_here","_law_borne_here","_law_waiters_here","_law_due","_law_turn","_law_some","_law_handed","_law_found","_law_everywhere","_law_few"] ["_law_script"] (Ze Zb5):=by
 wtm_at "r"
structure Txt0 (P:Program) (w:World) (K:Frag) (mg:Str->Option Value):Prop where
 b_enumerate:mg "enumerate" = none
 b_int:mg "int" = none
 b_isinstance:mg "isinstance" = none
 b_len:mg "len" = none
 b_list:mg "list" = none
 b_range:mg "range" = none
 b_sorted:mg "sorted" = none
 b_tuple:mg "tuple" = none
 g_SIDES:ZgN K mg "SIDES" (.tup [(.str [103,105,118,101]),(.str [116,97,107,101]),(.str [98,101,97,114])])
structure Txt1 (P:Program) (w:World) (K:Frag) (mg:Str->Option Value) (base:Heap) (k:Nat):Prop where
 f_kind_of:FOk P w K mg base fns gv k "kind_of" 0
 f_sides_of:FOk P w K mg base fns gv k "sides_of" 1
 f_sets_of:FOk P w K mg base fns gv k "sets_of" 2
 f_Lcell_at:FOk P w K mg base fns gv k "_law_cell_at" 3
 f_Ltape:FOk P w K mg base fns gv k "_law_tape" 4
 f_Ldraw:FOk P w K mg base fns gv k "_law_draw" 5
 f_Lpick:FOk P w K mg base fns gv k "_law_pick" 6
 f_Lname:FOk P w K mg base fns gv k "_law_name" 7
 f_Lnumber:FOk P w K mg base fns gv k "_law_number" 8
 f_Lcard:FOk P w K mg base fns gv k "_law_card" 9
 f_Lwish:FOk P w K mg base fns gv k "_law_wish" 10
 f_Loffer:FOk P w K mg base fns gv k "_law_offer" 11
 f_Lsets:FOk P w K mg base fns gv k "_law_sets" 12
 f_Lborne:FOk P w K mg base fns gv k "_law_borne" 13
 f_Lwaiters:FOk P w K mg base fns gv k "_law_waiters" 14
 f_Lturned:FOk P w K mg base fns gv k "_law_turned" 15
 f_law:FOk P w K mg base fns gv k "law" 16
noncomputable abbrev PsF(ns:List Str)(x:Str)(st:Stmt)(n:Nat)(b:S):Prop:=∀{P:Program}{w:World}{K:Frag}{mg:Str->Option Value}{base:Heap}{k:Nat}{f:Addr}{cdv:Value}{A:Around}{outer:List PySem.Env}{s:Shared}{H:Hp}{E:XK},Txt0 P w K mg->Txt1 P w K mg base k->Room k (A.deeper (envOfC x (Ze st) s.heap.objs.size f cdv))->∀{xe:Value->Shared->Prop}{pn:List (Addr×Obj)}{xr:XR},Go (asX (cxOf (CXF P w) P w K mg base ns x (Ze st) f cdv A outer s H E) xe pn) xr->Bd (asX (cxOf (CXF P w) P w K mg base ns x (Ze st) f cdv A outer s H E) xe pn) (Qi st) (tS K (J8 fns gv k) gv xr n b)
section
variable{P:Program}{w:World}{K:Frag}{mg:Str->Option Value}{base:Heap}{k:Nat}{f:Addr}{cdv:Value}{A:Around}{outer:List PySem.Env}{s:Shared}{H:Hp}{E:XK}
theorem Zeg:PsF ["offer"] "kind_of" JR 1 ZaH:=by
 wtm_at "sthaa43b3b"
theorem ZcU:PsF ["kind","waiters","alike"] "sides_of" Jl 3 QS:=by
 wtm_at "stE";exact Zak.nd;refine Q0 (N':=["waiter","kind"]) ?_ ?_;wtm_at "0xiiqeuyz";exact(ZR 0 (show List.Nodup (["waiter","kind"]:List Str)from by decide +kernel));wtm_at "ol5I";exact T1.f_kind_of;wtm_at "601a43b20efgvo04cch";refine Q0 (N':=["side","alike"]) ?_ ?_;wtm_at "0xiiq";exact(pe_glW rfl rfl T0.g_SIDES (by decide));wtm_at "uyz";exact(ZR 0 (show List.Nodup (["side","alike"]:List Str)from by decide +kernel));wtm_at "vo0";refine Q0 (N':=["number","offer","left","side"]) ?_ ?_;wtm_at "0xiiqeuyz";exact(X4 0 1 2 rfl (show List.Nodup (["number","offer","left","side"]:List Str)from by decide +kernel));wtm_at "olae3bpfgvo04cccc"
theorem Zef:PsF ["borne","waiters","told","kind","givers","takers","bearers","pairs"] "sets_of" JQ 8 Ji:=by
 wtm_at "stE";exact QJ.nd;wtm_at "M2J0Gq";refine Zcb (N':=["waiter"]) ?_ ?_ ?_ ?_;wtm_at "00%xiiqeuyz";exact(ZR 0 (show List.Nodup (["waiter"]:List Str)from by decide +kernel));wtm_at "vo05I";exact T1.f_kind_of;wtm_at "601a43b20cc";exact(ZR 3 QJ.nd);wtm_at "c";refine Zfy ?_ ?_ ?_ ?_;wtm_at "c58";exact T1.f_sides_of;wtm_at "601p1e200";exact(Zho 4 5 6 rfl QJ.nd);refine ZbA (N':=["giver","taker","takers"]) ?_ ?_ ?_ ?_ ?_ ?_ ?_;wtm_at "0xiiqCuyz";exact(ZR 0 (show List.Nodup (["giver","taker","takers"]:List Str)from by decide +kernel));wtm_at "v";refine⟨⟨_,_,_,rfl,?_,λ_=>rfl,?_,?_⟩,by decide,(show ∀i∈tgS (.nm 1)++innS (.emit (.tup (.cons (.var 0) (.cons (.var 1) .nil)))),i<3 from by decide),?_⟩;wtm_at "qj";exact(ZR 1 (show List.Nodup (["giver","taker","takers"]:List Str)from by decide +kernel));wtm_at "vo0k141e200cc";exact QJ.nd;wtm_at "000wlp4fgK>j1";refine Q0 (N':=["giver","taker","bearer","bearers"]) ?_ ?_;wtm_at "0xiiqLuyz";exact(ZdH 0 1 rfl (show List.Nodup (["giver","taker","bearer","bearers"]:List Str)from by decide +kernel));wtm_at "v";refine⟨⟨_,_,_,rfl,?_,λ_=>rfl,?_,?_⟩,by decide,(show ∀i∈tgS (.nm 2)++innS (.emit (.tup (.cons (.var 0) (.cons (.var 1) (.cons (.var 2) .nil))))),i<4 from by decide),?_⟩;wtm_at "qp";exact(ZR 2 (show List.Nodup (["giver","taker","bearer","bearers"]:List Str)from by decide +kernel));wtm_at "vo0k141e1j2000cc20mK>j1L20mmh";refine Zhr ?_ ?_ ?_ ?_;wtm_at "0%1j200"
theorem ZcW:PsF ["_law_script","_law_k"] "_law_cell_at" Jo 2 QV:=by
 wtm_at "stwleR0S142000fgha4ebmh3"
theorem Zhd:PsF ["_law_cell"] "_law_tape" Zbu 1 ZaI:=by
 wtm_at "sthM194T0U1N4933fg20001943132000"
theorem Zhh:PsF ["_law_tape_here","_law_many","_law_found","_law_number_here"] "_law_draw" Zby 4 ZaM:=by
 wtm_at "stwla43b3fgE&9a43be?9a43be43hjm?9a43b343H&9999a43b93a43b333H&99p99p333h999p99p333e"
theorem Zhf:PsF ["_law_tape_here","_law_some"] "_law_pick" Zbw 2 ZaK:=by
 wtm_at "sthae58d60141R0S1e2000200b"
theorem Zhg:PsF ["_law_k","_law_some"] "_law_name" Zbx 2 ZaL:=by
 wtm_at "st";refine sg (i:=1) ?_ ?_ ?_;exact ZdE.nd;wtm_at "n1717171717171717171717172000000000000hae943b"
theorem Zei:PsF ["_law_tape_here"] "_law_number" JT 1 Jk:=by
 wtm_at "sthan158d601413200158d6014132001993358d601413200200058d601413200b"
theorem Zhi:PsF ["_law_tape_here","_law_name_here","_law_kind","_law_marks","_law_sizes"] "_law_card" Zbz 5 ZaN:=by
 wtm_at "stH";exact Zbs.nd;wtm_at "(0V1";refine Q0 (N':=["_law_mark","_law_tape_here"]) ?_ ?_;wtm_at "0xiiqn1717172000uyz";exact(ZR 0 (show List.Nodup (["_law_mark","_law_tape_here"]:List Str)from by decide +kernel));wtm_at "ol5Id601e132003fgvo04cc2000W";exact Zbs.nd;wtm_at "(0V1";refine Q0 (N':=["_law_word","_law_tape_here"]) ?_ ?_;wtm_at "0xiiqn1717200uyz";exact(ZR 0 (show List.Nodup (["_law_word","_law_tape_here"]:List Str)from by decide +kernel));wtm_at "ol5Id601e132003fgvo0k1415I@601e20200cc2000hk1e1j1p1C20000"
theorem Zhc:PsF ["_law_tape_here","_law_deep","_law_way","_law_many"] "_law_wish" Zbt 4 JF:=by
 wtm_at "stE";exact Zbr.nd;wtm_at "58d601419393T0U1Ne3fg2000200wlj3fghk1720mwlj3fghk17158)60141n1717171720000200200mwlj3fghk17158";exact T1.f_Lname;wtm_at "60158d60141320020200mwlj3fghk1an17172009j3b158)60141n1717172000200158@6014202000mwlj3fghk17158*601419e3200200mH";exact Zbr.nd;wtm_at "9358d601413200hk1an17172009j3b1(0V1";refine Q0 (N':=["_law_k","_law_tape_here","_law_deep"]) ?_ ?_;wtm_at "0xii+0,1p20uyz";exact(ZR 0 (show List.Nodup (["_law_k","_law_tape_here","_law_deep"]:List Str)from by decide +kernel));wtm_at "vo05I*601e19j3200cc2000200"
theorem Zfz:PsF ["_law_tape_here","_law_side","_law_name_here","_law_kind","_law_till","_law_many","_law_least","_law_wish_here","_law_weight"] "_law_offer" XX 9 Zae:=by
 wtm_at "st-Xan19358d60141320019358d60141320019358d60141933200200058d601413200b[Xan1319358d60141B2001B200058d601413200b]Xan1k1720158*60141320020058d601413200b.Xan158d601413200158d60141320020058d601413200bhk1e158";exact T1.f_Lcard;wtm_at "60141j1p20001L1B1Y1Z1C20000000"
theorem Zhe:PsF ["_law_borne_here","_law_waiters_here","_law_found","_law_one","_law_giver","_law_some","_law_two","_law_taker","_law_more","_law_kind","_law_third"] "_law_sets" Zbv 11 ZaJ:=by
 wtm_at "stE!M2J0Gqe";exact(X4 3 4 5 rfl XS.nd);wtm_at "cJ0Gqe";exact(X4 6 7 8 rfl XS.nd);wtm_at "c/!aaC3b3bw#";refine Zft ?_ ?_;wtm_at "lk1aC3b1aL3b200k1717200fg";refine Zfu ?_;wtm_at "lOaaL3b3bfg";refine ZbA (N':=["_law_number_here","_law_offer_here","_law_left","_law_kind"]) ?_ ?_ ?_ ?_ ?_ ?_ ?_;wtm_at "0xiiqeuyz";exact(X4 0 1 2 rfl (show List.Nodup (["_law_number_here","_law_offer_here","_law_left","_law_kind"]:List Str)from by decide +kernel));wtm_at "olk1ae3b1aae3b3b200k171p200fgvo04cc!000wlO4fgE!";refine Zht ?_ ?_;wtm_at "j";refine Q0 (N':=["_law_number_here","_law_one","_law_two"]) ?_ ?_;wtm_at "0xiiqFuyz";exact(ZR 0 (show List.Nodup (["_law_number_here","_law_one","_law_two"]:List Str)from by decide +kernel));wtm_at "vo0k1e1j142000ccmK$j1k1p1Y20020mmmmmh";refine Zem ?_ ?_ ?_ ?_ ?_;wtm_at "0%1j2000"
theorem ZfA:PsF ["_law_tape_here"] "_law_borne" X3 1 Xa:=by
 wtm_at "sthan1k21k21k17201k17172001k171717172000020000058d601413200b"
theorem ZcV:PsF ["_law_tape_here","_law_most","_law_found","_law_turn","_law_number_here","_law_few","_law_k","_law_side","_law_kind","_law_name_here","_law_offer_here","_law_left"] "_law_waiters" Jm 12 QT:=by
 wtm_at "stEAM2HA58d601413200WA58d601413200-A58d601413200J0G+0,158d601419e320020";exact(ZR 6 Jz.nd);wtm_at "c]A58)60141n1717171717200000200.Aan171717200058d6014193B200b/A58";exact T1.f_Lname;wtm_at "6019p9YT0U1N58d6014132003fg200020:A58";exact T1.f_Loffer;wtm_at "60141L1O1Z158d601413200200000w#";refine Zft ?_ ?_;wtm_at "ljn2fg";refine Zfu ?_;wtm_at "l58d6014132003fg:Aaaj";refine Zje ?_;wtm_at "3b3bmm^Aan1aF3b19358d60141aF3b20020058d601413200bK$j1k1C1F1";exact(vr 11);wtm_at "200020WA99C358d601413200mhj"
theorem Zeh:PsF ["_law_tape_here","_law_some","_law_left","_law_found"] "_law_turned" JS 4 Jj:=by
 wtm_at "stE_";refine Zhs ?_ ?_ ?_ ?_;wtm_at "0;1e200H_M2";refine Zee ?_ ?_ ?_ ?_;wtm_at "Gljn2fgK$p1";refine Zjc ?_ ?_;wtm_at "j158d60141R0S1j20002002020mhp"
theorem Zif:PsF ["_law_script","_law_at","_law_cell","_law_tape_here","_law_borne_here","_law_waiters_here","_law_due","_law_turn","_law_some","_law_handed","_law_found","_law_everywhere","_law_few"] "law" Zb5 13 ZeR:=by
 wtm_at "stJ0G";refine Zhn ?_ ?_ ?_;wtm_at "0";exact T0.b_enumerate;wtm_at "1";refine PE.tree ?_;wtm_at "9n158";exact T1.f_Lcell_at;wtm_at "60141320020`4<30<3020";exact(ZdH 1 2 rfl Zb3.nd);wtm_at "cHD58";exact T1.f_Ltape;wtm_at "601j20WD58";exact T1.f_Lborne;wtm_at "601p20-D58";exact T1.f_Lwaiters;wtm_at "601p1an1313200T0U1";refine Zjs ?_ ?_;wtm_at "Ne3fg";refine pe_one ?_;wtm_at "N58d601p132003fg2000b200[D58";exact T1.f_Lsets;wtm_at "601C1B200J0G+0,1320";exact(ZR 7 Zb3.nd);wtm_at "c.D58";exact T1.f_Lturned;wtm_at "601p1B200/D";refine ZfG ?_ ?_ ?_ ?_ ?_;wtm_at "0;1Z2000:D58P601C1O200w#=";refine Zfv ?_;refine pt_of ?_ ?_;wtm_at "{F0";exact T0.b_isinstance;wtm_at "0;|u=lFYfg";refine Zid ?_;wtm_at "lOZfghQmwl}0xiiqFuyz~o";refine Zfv ?_;refine pt_of ?_ ?_;wtm_at "{40";exact T0.b_isinstance;wtm_at "0V|uvo04ccn2fghQmK$F1";exact Zjd;wtm_at "20m^D58P601k17171720001B200w#=l}0xiiq";exact(vr 11);wtm_at "uyz~olR0S1420003fgvo04ccn2fg";refine Zid ?_;wtm_at "l58P601k21`B";exact Zhl;wtm_at "<30200n2fghQm";refine ZbA (N':=["_law_waiter"]) ?_ ?_ ?_ ?_ ?_ ?_ ?_;wtm_at "0xiiqBuyz";exact(ZR 0 (show List.Nodup (["_law_waiter"]:List Str)from by decide +kernel));wtm_at "olaa43b3b7fgvo04ccD000wl58P601k21";exact(vr 12);wtm_at "20058P601k21B200fghQmmhQ"
end
noncomputable abbrev FB(K:Frag)(mg:Str->Option Value)(x:Str)(st:Stmt)(ps:List Str):Prop:=∃f fd,Fun K x x st f fd/\mg x=some (.ref f)/\Binds K fd ps []
structure TxtF (K:Frag) (mg:Str->Option Value):Prop where
 f_kind_of:FB K mg "kind_of" JR ["offer"]
 f_sides_of:FB K mg "sides_of" Jl ["kind","waiters"]
 f_sets_of:FB K mg "sets_of" JQ ["borne","waiters"]
 f_Lcell_at:FB K mg "_law_cell_at" Jo ["_law_script","_law_k"]
 f_Ltape:FB K mg "_law_tape" Zbu ["_law_cell"]
 f_Ldraw:FB K mg "_law_draw" Zby ["_law_tape_here","_law_many"]
 f_Lpick:FB K mg "_law_pick" Zbw ["_law_tape_here","_law_some"]
 f_Lname:FB K mg "_law_name" Zbx ["_law_k"]
 f_Lnumber:FB K mg "_law_number" JT ["_law_tape_here"]
 f_Lcard:FB K mg "_law_card" Zbz ["_law_tape_here","_law_name_here","_law_kind"]
 f_Lwish:FB K mg "_law_wish" Zbt ["_law_tape_here","_law_deep"]
 f_Loffer:FB K mg "_law_offer" XX ["_law_tape_here","_law_side","_law_name_here","_law_kind","_law_till"]
 f_Lsets:FB K mg "_law_sets" Zbv ["_law_borne_here","_law_waiters_here"]
 f_Lborne:FB K mg "_law_borne" X3 ["_law_tape_here"]
 f_Lwaiters:FB K mg "_law_waiters" Jm ["_law_tape_here","_law_most"]
 f_Lturned:FB K mg "_law_turned" JS ["_law_tape_here","_law_some"]
 f_law:FB K mg "law" Zb5 ["_law_script"]
theorem Q8{x:Str}{st:Stmt}{N ps:List Str}{fi np n:Nat}{b:S}{cell:Bool}(sc:FnScope N ps (Ze st))(p:PsF N x st n b)(hd:fns[fi]?=some ⟨np,n,b,cell⟩)(hps:np=ps.length)(hn:N.length=n){P:Program}{w:World}{K:Frag}{mg:Str->Option Value}{base:Heap}{k:Nat}(T0:Txt0 P w K mg)(ih:Txt1 P w K mg base k)(F:FB K mg x st ps):FOk P w K mg base fns gv (k+1) x fi:=by
 obtain⟨f,fd,F,m,bb⟩:=F;exact⟨f,fd,_,m,F.kp,bb,Ziu F sc hd hps hn λ_ _ _ _ _ _ hr _ _ _ go=>p T0 ih hr go⟩
theorem Q9{x:Str}{st:Stmt}{ps:List Str}{i:Nat}{P:Program}{w:World}{K:Frag}{mg:Str->Option Value}{base:Heap}(F:FB K mg x st ps):FOk P w K mg base fns gv 0 x i:=
 let⟨_,_,F,m,b⟩:=F
 ⟨_,_,_,m,F.kp,b,ZjY⟩
theorem ZiD{P:Program}{w:World}{K:Frag}{mg:Str->Option Value}{base:Heap}(T0:Txt0 P w K mg)(TF:TxtF K mg):∀k:Nat,Txt1 P w K mg base k
 |0=>⟨Q9 TF.f_kind_of,Q9 TF.f_sides_of,Q9 TF.f_sets_of,Q9 TF.f_Lcell_at,Q9 TF.f_Ltape,Q9 TF.f_Ldraw,Q9 TF.f_Lpick,Q9 TF.f_Lname,Q9 TF.f_Lnumber,Q9 TF.f_Lcard,Q9 TF.f_Lwish,Q9 TF.f_Loffer,Q9 TF.f_Lsets,Q9 TF.f_Lborne,Q9 TF.f_Lwaiters,Q9 TF.f_Lturned,Q9 TF.f_law⟩
 |k+1 =>
  have ih:=ZiD T0 TF k
  ⟨Q8 Zea Zeg rfl rfl rfl T0 ih TF.f_kind_of,Q8 Zak ZcU rfl rfl rfl T0 ih TF.f_sides_of,Q8 QJ Zef rfl rfl rfl T0 ih TF.f_sets_of,Q8 ZcR ZcW rfl rfl rfl T0 ih TF.f_Lcell_at,Q8 ZgZ Zhd rfl rfl rfl T0 ih TF.f_Ltape,Q8 ZdF Zhh rfl rfl rfl T0 ih TF.f_Ldraw,Q8 Zg0 Zhf rfl rfl rfl T0 ih TF.f_Lpick,Q8 ZdE Zhg rfl rfl rfl T0 ih TF.f_Lname,Q8 Zeb Zei rfl rfl rfl T0 ih TF.f_Lnumber,Q8 Zbs Zhi rfl rfl rfl T0 ih TF.f_Lcard,Q8 Zbr Zhc rfl rfl rfl T0 ih TF.f_Lwish,Q8 Zb4 Zfz rfl rfl rfl T0 ih TF.f_Loffer,Q8 XS Zhe rfl rfl rfl T0 ih TF.f_Lsets,Q8 Zfq ZfA rfl rfl rfl T0 ih TF.f_Lborne,Q8 Jz ZcV rfl rfl rfl T0 ih TF.f_Lwaiters,Q8 Za4 Zeh rfl rfl rfl T0 ih TF.f_Lturned,Q8 Zb3 Zif rfl rfl rfl T0 ih TF.f_law⟩
end My
namespace My
open PySem PySem.Spec PyProof.Rows L2 Mi
theorem us_1{α:Type}{P:List α->Prop}{us:List α}(hl:us.length=1)(h:∀x0:α,P [x0]):P us:=by
 rcases us with _|⟨x0,us⟩
 ·simp at hl
 rcases us with _|⟨y,us⟩
 ·exact h x0
 ·simp at hl
theorem us_2{α:Type}{P:List α->Prop}{us:List α}(hl:us.length=2)(h:∀x0 x1:α,P [x0,x1]):P us:=by
 rcases us with _|⟨x0,us⟩
 ·simp at hl
 rcases us with _|⟨x1,us⟩
 ·simp at hl
 rcases us with _|⟨y,us⟩
 ·exact h x0 x1
 ·simp at hl
theorem us_3{α:Type}{P:List α->Prop}{us:List α}(hl:us.length=3)(h:∀x0 x1 x2:α,P [x0,x1,x2]):P us:=by
 rcases us with _|⟨x0,us⟩
 ·simp at hl
 rcases us with _|⟨x1,us⟩
 ·simp at hl
 rcases us with _|⟨x2,us⟩
 ·simp at hl
 rcases us with _|⟨y,us⟩
 ·exact h x0 x1 x2
 ·simp at hl
theorem us_5{α:Type}{P:List α->Prop}{us:List α}(hl:us.length=5)(h:∀x0 x1 x2 x3 x4:α,P [x0,x1,x2,x3,x4]):P us:=by
 rcases us with _|⟨x0,us⟩
 ·simp at hl
 rcases us with _|⟨x1,us⟩
 ·simp at hl
 rcases us with _|⟨x2,us⟩
 ·simp at hl
 rcases us with _|⟨x3,us⟩
 ·simp at hl
 rcases us with _|⟨x4,us⟩
 ·simp at hl
 rcases us with _|⟨y,us⟩
 ·exact h x0 x1 x2 x3 x4
 ·simp at hl
noncomputable abbrev FE(K:Frag)(x:Str)(st:Stmt):Prop:=∃(f:Addr) (oc kV dc pm cd ct:Value) (od an:Option Addr) (sl:Array (Option Value)),nsIn K mainGlobals x=some (some (.ref f))/\K.lookup f=some ⟨oc,od,.func (fnOf x x (Jg st) (Qi st) (Ze st) .none kV dc pm an cd ct),sl⟩/\codeIn K cd x=true/\keepIn K (.ref f)=true
theorem Jf{K:Frag}{h:Heap}{mg:Str->Option Value}{x:Str}{st:Stmt}{ps:List Str}(X:K.In h)(G:h.Ns mainGlobals mg)(e:FE K x st)(hb:∀(kV doc pm:Value) (an:Option Addr) (cdv ct:Value) (us:List Value),us.length=ps.length->bindArgs (fnOf x x (Jg st) (Qi st) (Ze st) .none kV doc pm an cdv ct) ⟨us,[]⟩=pure (ps.zip us)):FB K mg x st ps:=by
 obtain⟨f,oc,kV,dc,pm,cd,ct,od,an,sl,a,l,c,k⟩:=e
 have F:=Zit (st:=st) l c k
 exact⟨_,_,F,mg_of X G a,F.binds (ps:=ps) hb⟩
theorem fe_in{K:Frag}{x:Str}{st:Stmt}{f:Addr}{oc kV dc pm cd ct:Value}{od an:Option Addr}{sl:Array (Option Value)}(a:nsIn K mainGlobals x=some (some (.ref f)))(l:K.lookup f=some ⟨oc,od,.func (fnOf x x (Jg st) (Qi st) (Ze st) .none kV dc pm an cd ct),sl⟩)(c:codeIn K cd x=true)(k:keepIn K (.ref f)=true):FE K x st:=
 ⟨_,_,_,_,_,_,_,_,_,_,a,l,c,k⟩
theorem bd_1{fd:FuncData}{ps:List Str}(h:∀x0:Value,bindArgs fd ⟨[x0],[]⟩=pure (List.zip ps [x0]))(us:List Value)(hl:us.length=1):bindArgs fd ⟨us,[]⟩=pure (List.zip ps us):=us_1 (P:=λus=>bindArgs fd ⟨us,[]⟩=pure (List.zip ps us)) hl h
theorem bd_2{fd:FuncData}{ps:List Str}(h:∀x0 x1:Value,bindArgs fd ⟨[x0,x1],[]⟩=pure (List.zip ps [x0,x1]))(us:List Value)(hl:us.length=2):bindArgs fd ⟨us,[]⟩=pure (List.zip ps us):=us_2 (P:=λus=>bindArgs fd ⟨us,[]⟩=pure (List.zip ps us)) hl h
theorem bd_3{fd:FuncData}{ps:List Str}(h:∀x0 x1 x2:Value,bindArgs fd ⟨[x0,x1,x2],[]⟩=pure (List.zip ps [x0,x1,x2]))(us:List Value)(hl:us.length=3):bindArgs fd ⟨us,[]⟩=pure (List.zip ps us):=us_3 (P:=λus=>bindArgs fd ⟨us,[]⟩=pure (List.zip ps us)) hl h
theorem bd_5{fd:FuncData}{ps:List Str}(h:∀x0 x1 x2 x3 x4:Value,bindArgs fd ⟨[x0,x1,x2,x3,x4],[]⟩=pure (List.zip ps [x0,x1,x2,x3,x4]))(us:List Value)(hl:us.length=5):bindArgs fd ⟨us,[]⟩=pure (List.zip ps us):=us_5 (P:=λus=>bindArgs fd ⟨us,[]⟩=pure (List.zip ps us)) hl h
theorem all_mk{l:OpenLaw}{w:World}{K:Frag}{h:Heap}{mg:Str->Option Value}{fa:Addr}(X:K.In h)(G:h.Ns mainGlobals mg)(hfa:mg "law" = some (.ref fa))(h0:FE K "kind_of" JR)(h1:FE K "sides_of" Jl)(h2:FE K "sets_of" JQ)(h3:FE K "_law_cell_at" Jo)(h4:FE K "_law_tape" Zbu)(h5:FE K "_law_draw" Zby)(h6:FE K "_law_pick" Zbw)(h7:FE K "_law_name" Zbx)(h8:FE K "_law_number" JT)(h9:FE K "_law_card" Zbz)(h10:FE K "_law_wish" Zbt)(h11:FE K "_law_offer" XX)(h12:FE K "_law_sets" Zbv)(h13:FE K "_law_borne" X3)(h14:FE K "_law_waiters" Jm)(h15:FE K "_law_turned" JS)(h16:FE K "law" Zb5){ga0:Addr}{its0:Array Value}{gn0:Nat}{gsl0:Array (Option Value)}(gv0:nsIn K mainGlobals "SIDES" = some (some (.ref ga0)))(gl0:K.lookup ga0=some ⟨.type "tuple",none,.seq its0 gn0,gsl0⟩)(gz0:its0.size<=sizeLine)(gs0:StrsV [[103,105,118,101],[116,97,107,101],[98,101,97,114]] its0.toList)(z0:nsIn K mainGlobals "enumerate" = some none)(z1:nsIn K mainGlobals "int" = some none)(z2:nsIn K mainGlobals "isinstance" = some none)(z3:nsIn K mainGlobals "len" = some none)(z4:nsIn K mainGlobals "list" = some none)(z5:nsIn K mainGlobals "range" = some none)(z6:nsIn K mainGlobals "sorted" = some none)(z7:nsIn K mainGlobals "tuple" = some none): ∃fd:FuncData,(∀(s:Shared) (v:Value),BindsTo s fd ⟨[v],[]⟩ [("_law_script",v)])/\∀base:Heap,K.In base->base.Ns mainGlobals mg->FnOk l.prog w K mg base (CXF l.prog w) 41 fa fd ["_law_script"] (spF K fns gv 41 16):=by
 have T0:Txt0 l.prog w K mg:=⟨mg_none_of X G z0,mg_none_of X G z1,mg_none_of X G z2,mg_none_of X G z3,mg_none_of X G z4,mg_none_of X G z5,mg_none_of X G z6,mg_none_of X G z7,Zgi (mg_of X G gv0) gl0 gz0 gs0⟩
 have TF:TxtF K mg:=⟨Jf X G h0 λ_ _ _ _ _ _ us hl=>bd_1 (λ_=>rfl) us hl,Jf X G h1 λ_ _ _ _ _ _ us hl=>bd_2 (λ_ _=>rfl) us hl,Jf X G h2 λ_ _ _ _ _ _ us hl=>bd_2 (λ_ _=>rfl) us hl,Jf X G h3 λ_ _ _ _ _ _ us hl=>bd_2 (λ_ _=>rfl) us hl,Jf X G h4 λ_ _ _ _ _ _ us hl=>bd_1 (λ_=>rfl) us hl,Jf X G h5 λ_ _ _ _ _ _ us hl=>bd_2 (λ_ _=>rfl) us hl,Jf X G h6 λ_ _ _ _ _ _ us hl=>bd_2 (λ_ _=>rfl) us hl,Jf X G h7 λ_ _ _ _ _ _ us hl=>bd_1 (λ_=>rfl) us hl,Jf X G h8 λ_ _ _ _ _ _ us hl=>bd_1 (λ_=>rfl) us hl,Jf X G h9 λ_ _ _ _ _ _ us hl=>bd_3 (λ_ _ _=>rfl) us hl,Jf X G h10 λ_ _ _ _ _ _ us hl=>bd_2 (λ_ _=>rfl) us hl,Jf X G h11 λ_ _ _ _ _ _ us hl=>bd_5 (λ_ _ _ _ _=>rfl) us hl,Jf X G h12 λ_ _ _ _ _ _ us hl=>bd_2 (λ_ _=>rfl) us hl,Jf X G h13 λ_ _ _ _ _ _ us hl=>bd_1 (λ_=>rfl) us hl,Jf X G h14 λ_ _ _ _ _ _ us hl=>bd_2 (λ_ _=>rfl) us hl,Jf X G h15 λ_ _ _ _ _ _ us hl=>bd_2 (λ_ _=>rfl) us hl,Jf X G h16 λ_ _ _ _ _ _ us hl=>bd_1 (λ_=>rfl) us hl⟩
 obtain⟨f16,oc16,kV16,dc16,pm16,cd16,ct16,od16,an16,sl16,a16,l16,c16,k16⟩:=h16
 have e:=hfa.symm.trans (mg_of X G a16)
 cases e
 have F16:=Zit (st:=Zb5) l16 c16 k16
 refine⟨fnOf "law" "law" (Jg Zb5) (Qi Zb5) (Ze Zb5) .none kV16 dc16 pm16 an16 cd16 ct16,λs v=>.of_eq rfl,λbase _ _=>?_⟩
 refine Ziu (fi:=16) (np:=1) (n:=13) (body:=ZeR) (cell:=false) F16 Zb3 ?_ ?_ ?_ ?_
 exact rfl
 exact rfl
 exact rfl
 intro _ _ _ _ _ _ hr _ _ _ go
 refine Zif ?_ ?_ ?_ ?_
 exact T0
 exact ZiD T0 TF 40
 exact hr
 exact go
theorem walk{l:OpenLaw}{q:Program}{loose:List Str}{XP:(Str->Option Value)->Heap->Prop}{YP:World->Heap->Prop}{d:DefRec}{K:Params->Frag}(hn:l.most=some 63)(hdf:d.params.defaults=[])(hY:∀(w:World) (h:Heap),YP w h->(K w.params).In h)(F:∀(w:World) (mg:Str->Option Value) (fa:Addr) (h:Heap),(K w.params).In h->h.Ns mainGlobals mg->mg d.name=some (.ref fa) ->
   ∃fd:FuncData,(∀(s:Shared) (u:Value),BindsTo s fd ⟨[u],[]⟩ [("_law_script",u)])/\∀base:Heap,(K w.params).In base->base.Ns mainGlobals mg->FnOk l.prog w (K w.params) mg base (CXF l.prog w) 41 fa fd ["_law_script"] (spF (K w.params) fns gv 41 16)):
  PySem.W.WalkO q loose XP YP l.row.toRowW d [] (λf vs=>PySem.call f vs):=
 L2.walk_of (n:=63) (k:=41) (x:="_law_script") (CX:=λw=>CXF l.prog w) (sp:=λw=>spF (K w.params) fns gv 41 16) hn (by decide) hdf ⟨rfl,by decide,by decide⟩ hY F (λ_ _ a ns hl hO hS=>law_sp hO hS (law_true ns hl)) λ_ _ _ _ _ z=>by obtain⟨_,_,_,_,_,_,h⟩:=z;exact h
theorem walkX{l:OpenLaw}{q:Program}{loose:List Str}{XP:(Str->Option Value)->Heap->Prop}{d:DefRec}{K:Params->Frag}{as:List Addr}{n t:Nat}(hn:l.most=some 63)(hdf:d.params.defaults=[])(he:∀P,as=(K P).map (·.1))(F:∀(w:World) (mg:Str->Option Value) (fa:Addr) (h:Heap),(K w.params).In h->h.Ns mainGlobals mg->mg d.name=some (.ref fa) ->
   ∃fd:FuncData,(∀(s:Shared) (u:Value),BindsTo s fd ⟨[u],[]⟩ [("_law_script",u)])/\∀base:Heap,(K w.params).In base->base.Ns mainGlobals mg->FnOk l.prog w (K w.params) mg base (CXF l.prog w) 41 fa fd ["_law_script"] (spF (K w.params) fns gv 41 16)):
  PySem.W.WalkX q loose XP (PySem.W.X.obsZ as) (PySem.W.X.valZ K n t) l.row.toRowW d [] (λf vs=>PySem.call f vs):=by
 intro w s₀ s₁ mg mb G y fa o pm cd doc dV kV ho hd hcd hD hmg hg args vals as' L
 exact walk (YP:=λw h=>(K w.params).In h) hn hdf (λ_ _ h=>h) F w s₀ s₁ mg mb G (PySem.W.InK.keeps w _ _ (PySem.W.X.z_facts he y).2.1 (PySem.W.Laid.keeps L)) fa o pm cd doc dV kV ho hd hcd hD hmg hg args vals as'
end My
set_option Elab.async false
noncomputable def PySem.W.Fast.tw7168175758823230286:PySem.Program:=PySem.Challenge.pw_matepoint_k43_sets_of_waiters
theorem PySem.W.Fast.te7168175758823230286:PySem.Challenge.pw_matepoint_k43_sets_of_waiters=PySem.W.Fast.tw7168175758823230286:=rfl
namespace PySem.W.Fast
def tw3303128289097132896:=()
def tw16779363575335032030:=()
def tw15069856537830696098:=()
def tw4869380225732915320:=()
def tw3759765674465693322:=()
def tw9400108361448819917:=()
def tw14082931379398274953:=()
def tw15346569012608768902:=()
def tw7348960267011755104:=()
def tw3337890048928870274:=()
def tw3221878229145581148:=()
def tw10562635667863016094:=()
def tw8507564194447596714:=()
def tw10247369822375034441:=()
def tw932162872072654613:=()
def tw18332811168100934609:=()
def tw18287084520557752906:=()
def tw17570641285612387395:=()
def tw10067467899162450386:=()
def tw9968608914876267445:=()
def tw16292633478781336875:=()
def tw17931186667751311339:=()
def tw12549267721566730147:=()
def tw4643339405734894846:=()
def tw12282762908886077481:=()
def tw10023364650558203830:=()
def tw10468182807531856402:=()
def tw17044424799772719864:=()
def tw14682816908540242959:=()
def tw138148905360352569:=()
def tw15129183847960219847:=()
def tw12596798700225216094:=()
def tw383001001495836792:=()
def tw864378753007185866:=()
def tw11662427652694136931:=()
def tw8325142916926603330:=()
def tw17743376154982780660:=()
def tw10827728546839232246:=()
def tw5220209432995488856:=()
def tw13042060875057841:=()
def tw13719961309464823448:=()
def tw3477757214405780737:=()
end PySem.W.Fast
open PySem PySem.W PyProof.Rows
set_option maxRecDepth 100000 in
set_option maxHeartbeats 0 in
theorem PySem.Challenge.cw_matepoint_k43_sets_of_waiters_holds : PySem.Challenge.rw_matepoint_k43_sets_of_waiters.Holds := by
 w_on;o_law;z_head;(case hw=>w_witness2)
 k_fill
 refine My.walkX (l:=PySem.Challenge.rw_matepoint_k43_sets_of_waiters) rfl rfl (λ_=>rfl) ?F
 case F =>
  intro w mg fa h KX G hmg
  refine' My.all_mk KX G hmg ?h0 ?h1 ?h2 ?h3 ?h4 ?h5 ?h6 ?h7 ?h8 ?h9 ?h10 ?h11 ?h12 ?h13 ?h14 ?h15 ?h16 ?gv0 ?gl0 ?gz0 ?gs0 ?z0 ?z1 ?z2 ?z3 ?z4 ?z5 ?z6 ?z7
  (case h0|h1|h2|h3|h4|h5|h6|h7|h8|h9|h10|h11|h12|h13|h14|h15|h16=>refine' My.fe_in ?a ?l ?c ?k;(case a=>k_is);(case l=>k_is);(case c=>k_is);(case k=>k_is))
  (case gv0|gl0=>k_is)
  (case gz0=>decide)
  (case gs0=>exact(.cons (by decide +kernel) (.cons (by decide +kernel) (.cons (by decide +kernel) .nil))))
  (case z0|z1|z2|z3|z4|z5|z6|z7=>k_is)
end
