import PyProof.Rows.All
import Wide.All
import OpenK.AllK
import Wide.FinOn
import Lean
import PyProof.EqAt
import PyProof.EqKinds
import PyProof.TupleCall
import PyProof.ToksMono
import PyProof.StrCalls6
import PyProof.StrLawsReplace
import PyProof.DictUpdate
import PySem.Challenge.RW_matepoint_k14_whole_any_words
set_option Elab.async false
set_option linter.all false
set_option maxRecDepth 100000
open PySem.W (Frag OpenLaw cellsFrom_some codeIn findIn fnOf hasDictIn instObj keepIn kia_one kitOne kitx_list lookIn methodObj mg_none_of mg_of mroIn nsIn specialIn)
section
set_option Elab.async false
namespace L2
open PySem PySem.Spec PyProof.Rows
noncomputable abbrev Key:=Sum Int Str
noncomputable def ZfF:Key->Value->Bool
 |.inl k,v=>Value.isInt k v
 |.inr x,v=>Value.isStrOf x v
noncomputable def keyH(w:World):Key->Int
 |.inl k=>hashInt k
 |.inr x=>hashStr w x
theorem Z1:∀{k:Key}{v:Value},ZfF k v=true->(∃i t,k=Sum.inl i/\v=Value.int i t)∨(∃x t,k=Sum.inr x/\v=Value.str x t)
 |.inl i,v,h=>by
  obtain⟨t,e⟩:=Value.isInt_shape (k:=i) (v:=v) h
  exact .inl ⟨i,t,rfl,e⟩
 |.inr x,v,h=>by
  obtain⟨t,e⟩:=Value.isStrOf_shape (x:=x) (v:=v) h
  exact .inr ⟨x,t,rfl,e⟩
theorem ZiF(i:Int)(t:Tok):ZfF (.inl i) (.int i t)=true:=by simp[ZfF,Value.isInt]
theorem Zcm(x:Str)(t:Tok):ZfF (.inr x) (.str x t)=true:=by simp[ZfF,Value.isStrOf]
theorem key_ll(a b:Int):decide ((Sum.inl a:Key)=Sum.inl b)=(a==b):=by
 by_cases e:a=b
 ·subst e;simp
 ·have h:¬(Sum.inl a:Key)=Sum.inl b:=λq=>e (Sum.inl.inj q)
  rw[decide_eq_false h]
  exact(beq_eq_false_iff_ne.mpr e).symm
theorem key_rr(a b:Str):decide ((Sum.inr a:Key)=Sum.inr b)=decide (a=b):=by
 by_cases e:a=b
 ·subst e;simp
 ·have h:¬(Sum.inr a:Key)=Sum.inr b:=λq=>e (Sum.inr.inj q)
  rw[decide_eq_false h,decide_eq_false e]
theorem key_lr(a:Int)(b:Str):decide ((Sum.inl a:Key)=Sum.inr b)=false:=decide_eq_false (λq=>nomatch q)
theorem key_rl(a:Str)(b:Int):decide ((Sum.inr a:Key)=Sum.inl b)=false:=decide_eq_false (λq=>nomatch q)
noncomputable def Zx(prog:Program)(w:World):PySem.KeyKind prog w Key where
 is:=ZfF
 hash:=keyH w
 inj:=λv a b ha hb=>by
  rcases Z1 ha with⟨i,t,rfl,rfl⟩|⟨x,t,rfl,rfl⟩
  ·rcases Z1 hb with⟨j,u,rfl,e⟩|⟨y,u,rfl,e⟩
   ·injection e with e1 _;rw[e1]
   ·exact nomatch e
  ·rcases Z1 hb with⟨j,u,rfl,e⟩|⟨y,u,rfl,e⟩
   ·exact nomatch e
   ·injection e with e1 _;rw[e1]
 byValue:=λk v h=>by
  rcases Z1 h with⟨i,t,rfl,rfl⟩|⟨x,t,rfl,rfl⟩<;>rfl
 pyHash:=λhv h=>by
  rcases Z1 hv with⟨i,t,rfl,rfl⟩|⟨x,t,rfl,rfl⟩
  ·exact wpAny_pyHash_int h
  ·exact wpAny_pyHash_str h
 eqBool:=λhu hv h=>by
  rcases Z1 hu with⟨i,t,rfl,rfl⟩|⟨x,t,rfl,rfl⟩
  ·rcases Z1 hv with⟨j,u,rfl,rfl⟩|⟨y,u,rfl,rfl⟩
   ·rw[key_ll]at h;exact wpAny_eqBool_int h
   ·rw[key_lr]at h;exact SeqAt.EqAt.int_str i t y u _ _ _ _ h
  ·rcases Z1 hv with⟨j,u,rfl,rfl⟩|⟨y,u,rfl,rfl⟩
   ·rw[key_rl]at h;exact SeqAt.EqAt.str_int x t j u _ _ _ _ h
   ·rw[key_rr]at h;exact wpAny_eqBool_str h
 «strs»:=λk x t v h=>by
  rcases Z1 h with⟨i,u,rfl,e⟩|⟨y,u,rfl,e⟩
  ·exact nomatch e
  ·injection e with e1 _
   subst e1
   cases v<;>rfl
theorem ZfC(prog:Program)(w:World)(i:Int)(t:Tok):(Zx prog w).is (.inl i) (.int i t)=true:=ZiF i t
theorem ZfB(prog:Program)(w:World)(x:Str)(t:Tok):(Zx prog w).is (.inr x) (.str x t)=true:=Zcm x t
inductive V where
 |non|bl (b:Bool)|int (i:Int)|str (x:Str)|byt (b:Array UInt8)|flt (b:UInt64)|ref (a:Addr)|ty (n:String)
 deriving DecidableEq
noncomputable def RelV:V->Value->Prop
 |.non,u=>u=Value.none
 |.bl b,u=>u=Value.bool b
 |.int i,u=>∃t,u=Value.int i t
 |.str x,u=>∃t,u=Value.str x t
 |.byt b,u=>∃t,u=Value.bytes b t
 |.flt b,u=>∃t,u=Value.float b t
 |.ref a,u=>u=Value.ref a
 |.ty n,u=>u=Value.type n
noncomputable abbrev Vals:List V->List Value->Prop:=Paired RelV
theorem Vals.length{xs:List V}{us:List Value}(r:Vals xs us):xs.length=us.length:=Paired.length r
theorem Vals.get:∀{xs:List V}{us:List Value}{i:Nat}{x:V},Vals xs us->xs[i]?=some x->∃u,us[i]?=some u/\RelV x u
 |_,_,_,_,.nil,e=>by simp at e
 |_,_,0,_,.cons r _,e=>by simp at e;subst e;exact⟨_,rfl,r⟩
 |_,_,i+1,x,.cons _ t,e=>by
  obtain⟨u,h1,h2⟩:=Vals.get (i:=i) (x:=x) t (by simpa using e)
  exact⟨u,by simpa using h1,h2⟩
theorem Vals.set{x:V}{u:Value}(r:RelV x u):∀{xs:List V}{us:List Value}(i:Nat),Vals xs us->Vals (xs.set i x) (us.set i u)
 |_,_,_,.nil=>.nil
 |_,_,0,.cons _ t=>.cons r t
 |_,_,i+1,.cons q t=>.cons q (Vals.set r i t)
theorem Vals.append:∀{xs ys:List V}{us ws:List Value},Vals xs us->Vals ys ws->Vals (xs++ys) (us++ws)
 |_,_,_,_,.nil,s=>s
 |_,_,_,_,.cons r t,s=>.cons r (Vals.append t s)
theorem Vals.take:∀{xs:List V}{us:List Value}(n:Nat),Vals xs us->Vals (xs.take n) (us.take n)
 |_,_,0,_=>.nil
 |_,_,_+1,.nil=>.nil
 |_,_,n+1,.cons r t=>.cons r (Vals.take n t)
theorem Vals.drop:∀{xs:List V}{us:List Value}(n:Nat),Vals xs us->Vals (xs.drop n) (us.drop n)
 |_,_,0,r=>r
 |_,_,_+1,.nil=>.nil
 |_,_,n+1,.cons _ t=>Vals.drop n t
noncomputable def RelO:Option V->Option Value->Prop
 |some v,some u=>RelV v u
 |none,none=>True
 |_,_=>False
noncomputable def KV{κ:Type}:List (κ×V)->List (κ×Value)->Prop:=Paired λ(p:κ×V) (q:κ×Value)=>p.1=q.1/\RelV p.2 q.2
noncomputable def kV:Key->V
 |.inl i=>.int i
 |.inr x=>.str x
inductive HO where
 |lst (xs:List V)
 |tup (xs:List V)
 |dK (kvs:List (Key×V))|dT (kvs:List (List Key×V))
 |set (S:Int->Bool) (n:Nat)
 |ins (C dx:Addr) (fs:List (Str×V))
 |own (x:Addr)
 |xd (fs:List (Str×V))
 |met (f x:Addr)
 |rng (lo hi:Int)
 |frz (o:Obj) (u:HO)
 |tbl (ps:Array Value)
 |ext (φ:Heap->Prop)
noncomputable abbrev Hp:=Addr->Option HO
noncomputable def upd(H:Hp)(a:Addr)(o:HO):Hp:=λb=>if b=a then some o else H b
theorem Zk{H:Hp}{a:Addr}{o:HO}:upd H a o a=some o:=by unfold upd;rw[if_pos rfl]
theorem Zi{H:Hp}{a b:Addr}{o:HO}(h:b≠a):upd H a o b=H b:=by unfold upd;rw[if_neg h]
theorem ZW{H:Hp}{a b:Addr}{o:HO}(h:H a=some o)(h':H b=none):a≠b:=by
 intro e;subst e;rw[h]at h';cases h'
noncomputable def TupP(h:Heap)(a:Addr)(items:Array Value):Prop:=∃o,h.get? a=some o/\o.cls=.type "tuple"/\(∃n,o.data=.seq items n)/\o.dict=none
theorem TupP.is{h:Heap}{a:Addr}{items:Array Value}(x:TupP h a items):IsTup h a items:=let⟨o,h1,h2,h3,_⟩:=x;⟨o,h1,h2,h3⟩
theorem TupP.new(h:Heap)(items:Array Value):TupP (h.push { cls:=.type "tuple",data:=.seq items }) h.objs.size items:=⟨_,Heap.get?_push_size _ rfl,rfl,⟨_,rfl⟩,rfl⟩
section
variable(P:Program) (w:World)
noncomputable def Qc(H:Hp)(h:Heap)(a:Addr):HO->Prop
 |.lst xs=>xs.length<=sizeLine/\∃(its:List Value) (n:Nat),Vals xs its/\h.get? a=some { cls:=.type "list",data:=.seq its.toArray n }
 |.tup xs=>xs.length<=sizeLine/\∃its:List Value,Vals xs its/\TupP h a its.toArray
 |.dK kvs=>kvs.length<=sizeLine/\(a==sysModules)=false/\∃vs,KV kvs vs/\h.DictOf (Zx P w) a vs
 |.dT kvs=>kvs.length<=sizeLine/\(a==sysModules)=false/\∃xs:List (List Key×Addr×Value),
  Paired (λ(p:List Key×V) (q:List Key×Addr×Value)=>p.1=q.1/\H q.2.1=some (.tup (p.1.map kV))/\RelV p.2 q.2.2) kvs xs /\
  ∃o es ep,h.get? a=some o/\o.ExactDict/\o.data=.dict es ep/\es.toList=xs.map (entryOfKey (tupleKind (Zx P w)))/\(xs.map (·.1)).Nodup
 |.set S n=>h.SetOf (intKind P w) a S n
 |.ins C dx fs=>H dx=some (.own a)/\fs.length<=1000/\dx≠a/\h.get? a=some (instObj C dx) /\
  ∃mA,h.Ns1 dx mA/\(∀f,RelO (fs.lookup f) (mA f))/\PySem.Within mA (fs.map (·.1))
 |.own _=>∃o,h.get? a=some o
 |.xd fs=>∃mA,h.Ns1 a mA/\∀f,RelO (fs.lookup f) (mA f)
 |.rng lo hi=>∃t u v,h.get? a=some { cls:=.type "range",data:=.fields #[.int lo t,.int hi u,.int 1 v] }
 |.frz o u=>h.get? a=some o/\Qc H h a u
 |.tbl ps=>h.get? a=some { cls:=.none,data:=.fields ps }
 |.met f x=>h.get? a=some (methodObj (.ref f) (.ref x))
 |.ext φ=>φ h/\(∃o,h.get? a=some o)/\∀h1 h2:Heap,φ h1->(∀o,h1.get? a=some o->h2.get? a=some o)->φ h2
noncomputable def HOk(H:Hp)(h:Heap):Prop:=∀a o,H a=some o->Qc P w H h a o
end
section
variable{P:Program}{w:World}{H H':Hp}{h h':Heap}{a:Addr}{o:HO}
theorem Qc.lt(x:Qc P w H h a o):a<h.objs.size:=by
 cases o with
 |lst xs=>obtain⟨_,_,_,_,e⟩:=x;exact Heap.lt_size e
 |tup xs=>obtain⟨_,_,_,p⟩:=x;exact p.is.lt
 |dK kvs=>obtain⟨_,_,_,_,o,_,_,e,_⟩:=x;exact Heap.lt_size e
 |dT kvs=>obtain⟨_,_,_,_,o,_,_,e,_⟩:=x;exact Heap.lt_size e
 |set S n=>obtain⟨o,_,_,_,e,_⟩:=x;exact Heap.lt_size e
 |ins C dx fs=>obtain⟨_,_,_,e,_⟩:=x;exact Heap.lt_size e
 |own y=>obtain⟨_,e⟩:=x;exact Heap.lt_size e
 |xd fs=>obtain⟨_,⟨_,_,_,e,_⟩,_⟩:=x;exact Heap.lt_size e
 |rng lo hi=>obtain⟨_,_,_,e⟩:=x;exact Heap.lt_size e
 |frz ob u=>obtain⟨e,_⟩:=x;exact Heap.lt_size e
 |tbl ps=>exact Heap.lt_size (show h.get? a=some _ from x)
 |met f y=>exact Heap.lt_size (show h.get? a=some _ from x)
 |ext φ=>obtain⟨_,⟨_,e⟩,_⟩:=x;exact Heap.lt_size e
theorem Paired.mapP{α β:Type}{F G:α->β->Prop}:∀{l₁:List α}{l₂:List β},Paired F l₁ l₂->(∀a b,F a b->G a b)->Paired G l₁ l₂
 |_,_,.nil,_=>.nil
 |_,_,.cons r t,f=>.cons (f _ _ r) (Paired.mapP t f)
theorem Qc.stay(x:Qc P w H h a o)(k:∀b u,(b=a∨H b=some (.own a))->h.get? b=some u->h'.get? b=some u)(ho:∀b,H b=some (.own a)->H' b=some (.own a))(ht:∀b xs,H b=some (.tup xs)->H' b=some (.tup xs)):Qc P w H' h' a o:=by
 induction o with
 |lst xs=>obtain⟨z,its,n,r,e⟩:=x;exact⟨z,its,n,r,k _ _ (.inl rfl) e⟩
 |tup xs=>obtain⟨z,its,r,ob,e,c⟩:=x;exact⟨z,its,r,ob,k _ _ (.inl rfl) e,c⟩
 |dK kvs=>obtain⟨z,y,vs,r,ob,es,ep,e,c⟩:=x;exact⟨z,y,vs,r,ob,es,ep,k _ _ (.inl rfl) e,c⟩
 |dT kvs =>
  obtain⟨z,y,xs,r,ob,es,ep,e,c⟩:=x
  exact⟨z,y,xs,Paired.mapP r λp q z=>⟨z.1,ht _ _ z.2.1,z.2.2⟩,ob,es,ep,k _ _ (.inl rfl) e,c⟩
 |set S n=>obtain⟨ob,es,ep,t,e,c⟩:=x;exact⟨ob,es,ep,t,k _ _ (.inl rfl) e,c⟩
 |ins C dx fs =>
  obtain⟨d,z,ne,e,mA,⟨od,es,ep,e2,c⟩,r⟩:=x
  exact⟨ho _ d,z,ne,k _ _ (.inl rfl) e,mA,⟨od,es,ep,k _ _ (.inr d) e2,c⟩,r⟩
 |own y=>obtain⟨ob,e⟩:=x;exact⟨ob,k _ _ (.inl rfl) e⟩
 |xd fs=>obtain⟨mA,⟨od,es,ep,e,c⟩,r⟩:=x;exact⟨mA,⟨od,es,ep,k _ _ (.inl rfl) e,c⟩,r⟩
 |rng lo hi=>obtain⟨t,u,v,e⟩:=x;exact⟨t,u,v,k _ _ (.inl rfl) e⟩
 |frz ob u ih=>obtain⟨e,q⟩:=x;exact⟨k _ _ (.inl rfl) e,ih q⟩
 |tbl ps =>
  have e:h.get? a=some { cls:=.none,data:=.fields ps }:=x
  show h'.get? a=some { cls:=.none,data:=.fields ps }
  exact k a _ (.inl rfl) e
 |met f y =>
  have e:h.get? a=some (methodObj (.ref f) (.ref y)):=x
  show h'.get? a=some (methodObj (.ref f) (.ref y))
  exact k a _ (.inl rfl) e
 |ext φ=>obtain⟨p,⟨o,e⟩,st⟩:=x;exact⟨st _ _ p λo q=>k _ _ (.inl rfl) q,⟨o,k _ _ (.inl rfl) e⟩,st⟩
theorem HOk.lt(x:HOk P w H h)(e:H a=some o):a<h.objs.size:=(x a o e).lt
theorem HOk.fresh(x:HOk P w H h)(e:h.objs.size<=a):H a=none:=by
 cases q:H a with
 |none=>rfl
 |some u=>exact absurd (Nat.lt_of_lt_of_le (x.lt q) e) (Nat.lt_irrefl _)
theorem HOk.kept(x:HOk P w H h)(k:∀b u,h.get? b=some u->h'.get? b=some u):HOk P w H h':=λa o e =>
 (x a o e).stay (λb u _ q=>k b u q) (λ_ q=>q) λ_ _ q=>q
theorem HOk.laid(x:HOk P w H h)(k:∀b u,h.get? b=some u->h'.get? b=some u)(hp:h.objs.size<=a)(new:Qc P w (upd H a o) h' a o):HOk P w (upd H a o) h':=λb u e=>by
 have hn:=x.fresh hp
 by_cases hb:b=a
 ·subst hb;rw[Zk]at e;cases e;exact new
 ·rw[Zi hb]at e
  exact(x b u e).stay (λc v _ q=>k c v q) (λc q=>by rw[Zi (ZW q hn)];exact q) λc xs q=>by rw[Zi (ZW q hn)];exact q
end
noncomputable def Rd(H:Hp)(a:Addr)(u:HO):Prop:=H a=some u∨∃o,H a=some (.frz o u)
theorem Rd.ok{P:Program}{w:World}{H:Hp}{h:Heap}{a:Addr}{u:HO}(r:Rd H a u)(x:HOk P w H h):Qc P w H h a u:=by
 rcases r with r|⟨o,r⟩
 ·exact x a u r
 ·obtain⟨_,q⟩:=x a _ r
  exact q
noncomputable def Mut:Option HO->Prop
 |some (.lst _)=>True
 |some (.dK _)=>True
 |some (.dT _)=>True
 |some (.set _ _)=>True
 |some (.ins _ _ _)=>True
 |some (.ext _)=>True
 |_=>False
section
variable{P:Program}{w:World}{H:Hp}{h h':Heap}{x e:Addr}{o':HO}
theorem HOk.write(ok:HOk P w H h)(mu:Mut (H x))(he:e=x∨H e=some (.own x))(k:∀b u,b≠e->h.get? b=some u->h'.get? b=some u)(heo:∃u,h'.get? e=some u)(new:Qc P w (upd H x o') h' x o'):HOk P w (upd H x o') h':=λb u q=>by
 have nown:∀c y,H c=some (.own y)->c≠x:=λc y r z=>by subst z;rw[r]at mu;exact mu
 have ntup:∀c xs,H c=some (.tup xs)->c≠x:=λc xs r z=>by subst z;rw[r]at mu;exact mu
 by_cases hb:b=x
 ·subst hb;rw[Zk]at q;cases q;exact new
 ·rw[Zi hb]at q
  by_cases hbe:b=e
  ·have q':H b=some (.own x):=by
    rcases he with z|z
    ·exact absurd (hbe.trans z) hb
    ·rw[hbe];exact z
   rw[q]at q';cases q'
   obtain⟨v,hv⟩:=heo
   exact⟨v,by rw[hbe];exact hv⟩
  ·refine(ok b u q).stay (λc v hc r=>k c v ?_ r) (λc r=>by rw[Zi (nown c b r)];exact r) λc xs r=>by rw[Zi (ntup c xs r)];exact r
   rcases hc with rfl|hc
   ·exact hbe
   ·rintro rfl
    rcases he with z|z
    ·exact nown c b hc z
    ·rw[hc]at z;cases z;exact hb rfl
end
structure Un (fs ex:List Addr) (H H':Hp) (h h':Heap):Prop where
 keep:∀b o,h.get? b=some o->H b=none->b∉fs->b∉ex->h'.get? b=some o
 slot:∀b o,h.get? b=some o->H b=none->b∈fs->b∉ex->∃sl,h'.get? b=some { o with slots:=sl }
 free:∀b o,h.get? b=some o->H b=none->b∉ex->H' b=none
 there:∀b o,h.get? b=some o->b∉ex->∃o',h'.get? b=some o'
 tups:∀b xs,H b=some (.tup xs)->H' b=some (.tup xs)
 frzs:∀b o u,H b=some (.frz o u)->H' b=some (.frz o u)
 tbls:∀b ps,H b=some (.tbl ps)->∃more,H' b=some (.tbl (ps++more))
section
variable{fs fs' ex ex':List Addr}{H H1 H2:Hp}{h h1 h2 h':Heap}{a x e:Addr}{o:HO}
theorem Un.any(u:Un fs ex H H1 h h1){b:Addr}{ob:Obj}(q:h.get? b=some ob)(n:H b=none)(hx:b∉ex):∃sl,h1.get? b=some { ob with slots:=sl }:=by
 by_cases hb:b∈fs
 ·exact u.slot b ob q n hb hx
 ·exact⟨ob.slots,u.keep b ob q n hb hx⟩
theorem Un.trans(a:Un fs ex H H1 h h1)(b:Un fs ex H1 H2 h1 h2):Un fs ex H H2 h h2 where
 keep:=λc ob q n hc hx=>b.keep c ob (a.keep c ob q n hc hx) (a.free c ob q n hx) hc hx
 slot:=λc ob q n hc hx=>by
  obtain⟨sl,e1⟩:=a.slot c ob q n hc hx
  obtain⟨sl',e2⟩:=b.slot c _ e1 (a.free c ob q n hx) hc hx
  exact⟨sl',e2⟩
 free:=λc ob q n hx=>by
  obtain⟨o',e1⟩:=a.there c ob q hx
  exact b.free c o' e1 (a.free c ob q n hx) hx
 there:=λc ob q hx=>by
  obtain⟨o',e1⟩:=a.there c ob q hx
  exact b.there c o' e1 hx
 tups:=λc xs q=>b.tups c xs (a.tups c xs q)
 frzs:=λc ob xs q=>b.frzs c ob xs (a.frzs c ob xs q)
 tbls:=λc ps q=>by
  obtain⟨m1,e1⟩:=a.tbls c ps q
  obtain⟨m2,e2⟩:=b.tbls c _ e1
  exact⟨m1++m2,by rw[e2,Array.append_assoc]⟩
theorem Un.kept(k:∀b u,h.get? b=some u->h'.get? b=some u):Un fs ex H H h h':=
 ⟨λb ob q _ _ _=>k b ob q,λb ob q _ _ _=>⟨ob.slots,k b ob q⟩,λ_ _ _ n _=>n,λb ob q _=>⟨ob,k b ob q⟩,λ_ _ q=>q,λ_ _ _ q=>q,λ_ ps q=>⟨#[],by rw[q];simp⟩⟩
theorem Un.refl:Un fs ex H H h h:=Un.kept λ_ _ q=>q
theorem Un.laid(k:∀b u,h.get? b=some u->h'.get? b=some u)(hp:h.objs.size<=a)(hn:H a=none):Un fs ex H (upd H a o) h h' where
 keep:=λb u q _ _ _=>k b u q
 slot:=λb u q _ _ _=>⟨u.slots,k b u q⟩
 free:=λb u q n _=>by rw[Zi (Nat.ne_of_lt (Nat.lt_of_lt_of_le (Heap.lt_size q) hp))];exact n
 there:=λb u q _=>⟨u,k b u q⟩
 tups:=λb xs q=>by rw[Zi (ZW q hn)];exact q
 frzs:=λb u xs q=>by rw[Zi (ZW q hn)];exact q
 tbls:=λb ps q=>⟨#[],by rw[Zi (ZW q hn),q];simp⟩
theorem Un.write(mu:Mut (H x))(he:e=x∨H e=some (.own x))(k:∀b u,b≠e->h.get? b=some u->h'.get? b=some u)(heo:∃u,h'.get? e=some u):Un fs ex H (upd H x o) h h':=by
 have hx:∀b,H b=none->b≠x:=λb n z=>by subst z;rw[n]at mu;exact mu
 have hb:∀b,H b=none->b≠e:=λb n z=>by
  subst z
  rcases he with r|r
  ·exact hx b n r
  ·rw[n]at r;cases r
 have hm:∀b u,H b=some u->¬Mut (some u)->b≠x:=λb u q nm z=>by subst z;rw[q]at mu;exact nm mu
 refine⟨λb u q n _ _=>k b u (hb b n) q,λb u q n _ _=>⟨u.slots,k b u (hb b n) q⟩,λb u q n _=>by rw[Zi (hx b n)];exact n,λb u q _=>?_,
  λb xs q=>by rw[Zi (hm b _ q λz=>z)];exact q,λb u xs q=>by rw[Zi (hm b _ q λz=>z)];exact q,λb ps q=>⟨#[],by rw[Zi (hm b _ q λz=>z),q];simp⟩⟩
 by_cases hbe:b=e
 ·subst hbe;exact heo
 ·exact⟨u,k b u hbe q⟩
end
noncomputable def trk(h:Heap)(H:Hp):List Addr:=(List.range h.objs.size).filter λa=>(H a).isSome
noncomputable def hidT(h:Heap)(H:Hp):Heap:=PySem.W.hideAll h (trk h H)
theorem ZiO(h:Heap)(H:Hp):(hidT h H).objs.size=h.objs.size:=PySem.W.hideAll_size _ _
theorem Zkw{h:Heap}{H:Hp}{b:Addr}{o:Obj}(e:h.get? b=some o)(n:H b=none):(hidT h H).get? b=some o:=
 PySem.W.hideAll_get _ e λhm=>by
  have q:(H b).isSome=true:=(List.mem_filter.mp hm).2
  rw[n]at q;simp at q
theorem ZmK{h:Heap}{H:Hp}{b:Addr}{o:Obj}(e:(hidT h H).get? b=some o):h.get? b=some o/\H b=none:=by
 have e':h.get? b=some o:=PySem.W.of_hideAll (trk h H) e
 refine⟨e',?_⟩
 cases q:H b with
 |none=>rfl
 |some x =>
  have hm:b∈trk h H:=List.mem_filter.mpr ⟨List.mem_range.mpr (Heap.lt_size e'),by simp[q]⟩
  have z:(hidT h H).get? b=none:=PySem.W.hideAll_none (trk h H) hm
  rw[z]at e;cases e
noncomputable def Znv(g h:Heap)(L:Addr):List (Addr×Obj):=(List.range h.objs.size).filterMap λa=>if a=L∨(g.get? a).isSome=true then none else(h.get? a).map λo=>(a,o)
noncomputable def rest(g h:Heap)(L d:Addr):List (Addr×Obj):=(Znv g h L).filter λp=>decide (p.1≠d)
structure Mod (K:Frag) (mg:Str->Option Value) (base:Heap):Prop where
 kin:K.In base
 glob:base.Ns mainGlobals mg
 blt:∃mb,base.Ns builtinsNs mb/\∀x:Str,x≠"__name__"->mb x=bootBuiltins x
 nolimit:base.NoLimit
structure Cx where
 prog:Program
 w:World
 K:Frag
 mg:Str->Option Value
 base:Heap
 A:Around
 N:List Str
 s₀:Shared
 H₀:Hp
 env:Env
 outer:List Env
 stack:List Env
 ex:List Addr
 fn:Str->Bool
 calm:Bool
 pn:List (Addr×Obj)
 xe:Value->Shared->Prop
noncomputable def frs(l:List Env):List Addr:=l.filterMap (·.frame)
noncomputable abbrev Cx.fs(X:Cx):List Addr:=frs X.outer
noncomputable def Vis(sc:Scope)(x:Str):Prop:=sc.names.lookup x=some .local∨sc.names.lookup x=some .cell∨sc.names.lookup x=some .free
noncomputable def Loc(sc:Scope)(x:Str):Prop:=sc.names.lookup x=some .local∨sc.names.lookup x=some .cell
noncomputable def Look(env:Env)(h:Heap)(m:Str->Option Value)(x:Str)(u:Value):Prop:=
 (env.kindOf x=some .local/\m x=some u)∨((env.kindOf x=some .cell∨env.kindOf x=some .free)/\∃c,env.cells.lookup x=some c/\h.IsCell c (some u))
structure Cx.Ok (X:Cx):Prop where
 mod:Mod X.K X.mg X.base
 kind:X.env.scope.kind=.function
 glob:X.env.globals=mainGlobals
 blt:X.env.builtins=builtinsNs
 above:X.s₀.heap.objs.size<=X.env.locals
 inj:∀x y c,X.env.cells.lookup x=some c->X.env.cells.lookup y=some c->x=y
 has:∀x,(X.env.kindOf x=some .cell∨X.env.kindOf x=some .free)->∃c,X.env.cells.lookup x=some c
 cab:∀x c,X.fn x=true->X.env.cells.lookup x=some c->X.s₀.heap.objs.size<=c
 hd:X.calm=true->X.A.handled=none
 frames:X.A.frames=some X.stack
 stk:X.stack=X.outer∨(X.stack=X.env::X.outer/\X.env.frame=some X.env.locals)
 exf:∀b∈X.ex,b≠X.env.locals/\∀x c,X.env.cells.lookup x=some c->c≠b
 bs:∀b o,X.base.get? b=some o->X.s₀.heap.get? b=some o/\X.H₀ b=none
 bsz:X.base.objs.size<=X.s₀.heap.objs.size
 noex:∀b o,X.base.get? b=some o->b∉X.ex
 exfs:∀b∈X.ex,b∉X.fs
 funs:X.s₀.heap.FunFrames X.base X.outer
 frf:∀b∈X.fs,X.H₀ b=none
structure Inv (X:Cx) (pins:List (Addr×Obj)) (σ:List (Option V)) (H:Hp) (s:Shared):Prop where
 ok:X.Ok
 os:s.os=X.s₀.os
 bare:AllBare s.gens
 base:Un X.fs X.ex X.H₀ H X.s₀.heap s.heap
 loc:∃m,s.heap.Ns X.env.locals m/\∀(i:Nat) (x:Str) (v:V),X.N[i]?=some x->σ[i]?=some (some v)->Vis X.env.scope x->∃u,RelV v u/\Look X.env s.heap m x u
 cell:∀x c,X.env.cells.lookup x=some c->∃v,s.heap.IsCell c v
 free:H X.env.locals=none
 freeC:∀x c,X.env.cells.lookup x=some c->H c=none
 pin:∀p∈X.pn++pins,s.heap.get? p.1=some p.2/\H p.1=none/\p.1≠X.env.locals/\p.1∉X.fs/\∀v,p.2.data≠.cell v
 hok:HOk X.prog X.w H s.heap
 len:σ.length=X.N.length
section
variable{X:Cx}{pins:List (Addr×Obj)}{σ:List (Option V)}{H H':Hp}{s:Shared}{h':Heap}
theorem Cx.Ok.nofr(ok:X.Ok){b:Addr}{o:Obj}(e:X.base.get? b=some o):b∉X.fs:=λhb=>by
 have:=(ok.funs.mem hb).1
 rw[e]at this;cases this
theorem Inv.bs(I:Inv X pins σ H s):∀b o,X.base.get? b=some o->s.heap.get? b=some o/\H b=none:=λb o e =>
 ⟨I.base.keep b o (I.ok.bs b o e).1 (I.ok.bs b o e).2 (I.ok.nofr e) (I.ok.noex b o e),I.base.free b o (I.ok.bs b o e).1 (I.ok.bs b o e).2 (I.ok.noex b o e)⟩
theorem Inv.bk(I:Inv X pins σ H s):∀b o,X.base.get? b=some o->s.heap.get? b=some o:=λb o e=>(I.bs b o e).1
theorem Inv.mod(I:Inv X pins σ H s):Mod X.K X.mg X.base:=I.ok.mod
theorem Inv.kIn(I:Inv X pins σ H s):X.K.In s.heap:=I.ok.mod.kin.keeps I.bk
theorem Inv.lt(I:Inv X pins σ H s):X.env.locals<s.heap.objs.size:=let⟨_,hn,_⟩:=I.loc;hn.lt
theorem Inv.sz(I:Inv X pins σ H s):X.s₀.heap.objs.size<=s.heap.objs.size:=Nat.le_trans I.ok.above (Nat.le_of_lt I.lt)
theorem Inv.nofs(I:Inv X pins σ H s){a:Addr}(h:s.heap.objs.size<=a):a∉X.fs:=λhb=>by
 obtain⟨_,o,ho,_⟩:=I.ok.funs.mem hb
 exact absurd (Nat.lt_of_lt_of_le (Heap.lt_size ho) (Nat.le_trans I.sz h)) (Nat.lt_irrefl _)
theorem Inv.cne(I:Inv X pins σ H s):∀x c,X.env.cells.lookup x=some c->c≠X.env.locals:=λx c e z=>by
 obtain⟨v,o,ho,hd⟩:=I.cell x c e
 obtain⟨m,⟨o',es,ep,ho',hd',_⟩,_⟩:=I.loc
 rw[z,ho']at ho;cases ho;rw[hd']at hd;cases hd
theorem Inv.funs(I:Inv X pins σ H s):s.heap.FunFrames X.base X.outer:=by
 have all:∀(l:List Env),(∀b∈frs l,b∈X.fs)->X.s₀.heap.FunFrames X.base l->s.heap.FunFrames X.base l:=by
  intro l
  induction l with
  |nil=>intro _ _;trivial
  |cons env r ih =>
   intro hs hl
   obtain⟨hk,⟨L,o,hf,hn,ho,hd⟩,hr⟩:=hl
   have hL:L∈X.fs:=hs L (by unfold frs;rw[List.filterMap_cons,hf];exact List.mem_cons_self)
   obtain⟨sl,e⟩:=I.base.slot L o ho (I.ok.frf L hL) hL λz=>I.ok.exfs L z hL
   exact⟨hk,⟨L,_,hf,hn,e,hd⟩,ih (λb hb=>hs b (by unfold frs;rw[List.filterMap_cons,hf];exact List.mem_cons_of_mem _ hb)) hr⟩
 exact all X.outer (λ_ hb=>hb) I.ok.funs
theorem Inv.stack(I:Inv X pins σ H s):s.heap.FunFrames X.base X.stack:=by
 rcases I.ok.stk with e|⟨e,hf⟩
 ·rw[e];exact I.funs
 ·rw[e]
  obtain⟨m,hn,_⟩:=I.loc
  refine .cons (by rw[I.ok.kind];decide) hf hn ?_ I.funs
  exact Heap.get?_none_of_le (Nat.le_trans I.ok.bsz I.ok.above)
theorem Inv.stkSub(I:Inv X pins σ H s):∀b∈frs X.stack,b∈X.env.locals::X.fs:=λb hb=>by
 rcases I.ok.stk with e|⟨e,hf⟩
 ·rw[e]at hb;exact List.mem_cons_of_mem _ hb
 ·rw[e]at hb
  unfold frs at hb
  rw[List.filterMap_cons,hf]at hb
  exact hb
theorem Inv.stkFree(I:Inv X pins σ H s):∀b∈frs X.stack,H b=none:=λb hb=>by
 rcases List.mem_cons.mp (I.stkSub b hb)with e|hb
 ·rw[e];exact I.free
 ·obtain⟨_,o,ho,_⟩:=I.ok.funs.mem hb
  exact I.base.free b o ho (I.ok.frf b hb) λz=>I.ok.exfs b z hb
theorem Inv.step{g':Array GenState}{t':Nat}{d':Drawn}{ch:List Addr}(I:Inv X pins σ H s)(hch:∀b∈ch,(b∈X.ex∨X.s₀.heap.objs.size<=b)/\b≠X.env.locals/\(∀x c,X.env.cells.lookup x=some c->c≠b)/\∀p∈X.pn++pins,p.1≠b)(keep:∀b o,b≠X.env.locals->b∉X.fs->b∉ch->s.heap.get? b=some o->H b=none->h'.get? b=some o)(slot:∀b o,b≠X.env.locals->b∈X.fs->b∉ch->s.heap.get? b=some o->H b=none->∃sl,h'.get? b=some { o with slots:=sl })(free:∀b o,b∉ch->s.heap.get? b=some o->H b=none->H' b=none)(there:∀b o,b∉ch->s.heap.get? b=some o->∃o',h'.get? b=some o')(tups:∀b xs,H b=some (.tup xs)->H' b=some (.tup xs))(frzs:∀b o u,H b=some (.frz o u)->H' b=some (.frz o u))(tbls:∀b ps,H b=some (.tbl ps)->∃more,H' b=some (.tbl (ps++more)))(ns:∀m,s.heap.Ns X.env.locals m->h'.Ns X.env.locals m)(hok:HOk X.prog X.w H' h')(hg:AllBare g'):
  Inv X pins σ H' { s with heap:=h',gens:=g',drawn:=d',toks:=t' }:=by
 have neL:∀b o,X.s₀.heap.get? b=some o->b≠X.env.locals:=λb o e=>Nat.ne_of_lt (Nat.lt_of_lt_of_le (Heap.lt_size e) I.ok.above)
 have neC:∀b o,X.s₀.heap.get? b=some o->b∉X.ex->b∉ch:=λb o e hx hb=>by
  rcases(hch b hb).1 with z|z
  ·exact hx z
  ·exact absurd (Nat.lt_of_lt_of_le (Heap.lt_size e) z) (Nat.lt_irrefl _)
 have cellK:∀x c,X.env.cells.lookup x=some c->∀v,s.heap.IsCell c v->h'.IsCell c v:=λx c e v ⟨o,ho,hd⟩=>by
  have nch:c∉ch:=λz=>(hch c z).2.2.1 x c e rfl
  by_cases hc:c∈X.fs
  ·obtain⟨sl,q⟩:=slot c o (I.cne x c e) hc nch ho (I.freeC x c e)
   exact⟨_,q,hd⟩
  ·exact⟨o,keep c o (I.cne x c e) hc nch ho (I.freeC x c e),hd⟩
 refine⟨I.ok,I.os,hg,⟨λb o e n hb hx=>?_,λb o e n hb hx=>?_,λb o e n hx=>?_,λb o e hx=>?_,λb xs e=>tups b xs (I.base.tups b xs e),λb o xs e=>frzs b o xs (I.base.frzs b o xs e),λb ps e=>?_⟩,?_,λx c e=>?_,?_,λx c e=>?_,λp hp=>?_,hok,I.len⟩
 ·exact keep b o (neL b o e) hb (neC b o e hx) (I.base.keep b o e n hb hx) (I.base.free b o e n hx)
 ·obtain⟨sl,e1⟩:=I.base.slot b o e n hb hx
  obtain⟨sl',e2⟩:=slot b _ (neL b o e) hb (neC b o e hx) e1 (I.base.free b o e n hx)
  exact⟨sl',e2⟩
 ·obtain⟨o',e1⟩:=I.base.there b o e hx
  exact free b o' (neC b o e hx) e1 (I.base.free b o e n hx)
 ·obtain⟨o',e1⟩:=I.base.there b o e hx
  exact there b o' (neC b o e hx) e1
 ·obtain⟨m1,e1⟩:=I.base.tbls b ps e
  obtain⟨m2,e2⟩:=tbls b _ e1
  exact⟨m1++m2,by rw[e2,Array.append_assoc]⟩
 ·obtain⟨m,hn,hl⟩:=I.loc
  refine⟨m,ns m hn,λi x v e1 e2 e3=>?_⟩
  obtain⟨u,r,l⟩:=hl i x v e1 e2 e3
  refine⟨u,r,?_⟩
  rcases l with l|⟨k,c,e,z⟩
  ·exact .inl l
  ·exact .inr ⟨k,c,e,cellK x c e _ z⟩
 ·obtain⟨v,z⟩:=I.cell x c e
  exact⟨v,cellK x c e v z⟩
 ·obtain⟨m,⟨o,_,_,ho,_⟩,_⟩:=I.loc
  exact free _ o (λz=>(hch _ z).2.1 rfl) ho I.free
 ·obtain⟨v,o,ho,hd⟩:=I.cell x c e
  exact free c o (λz=>(hch c z).2.2.1 x c e rfl) ho (I.freeC x c e)
 ·obtain⟨e,n,ne,nf,d⟩:=I.pin p hp
  have nch:p.1∉ch:=λz=>(hch p.1 z).2.2.2 p hp rfl
  exact⟨keep p.1 p.2 ne nf nch e n,free p.1 p.2 nch e n,ne,nf,d⟩
theorem Inv.un{t':Nat}(I:Inv X pins σ H s)(u:Un X.fs [] H H' s.heap h')(hok:HOk X.prog X.w H' h'):Inv X pins σ H' { s with heap:=h',toks:=t' }:=by
 obtain⟨m,⟨o,es,ep,ho,r⟩,_⟩:=id I.loc
 obtain⟨sl,hL⟩:=u.any ho I.free (by simp)
 exact I.step (g':=s.gens) (d':=s.drawn) (ch:=[]) (λ_ z=>nomatch z) (λb o _ hb _ e n=>u.keep b o e n hb (by simp)) (λb o _ hb _ e n=>u.slot b o e n hb (by simp)) (λb o _ e n=>u.free b o e n (by simp)) (λb o _ e=>u.there b o e (by simp)) u.tups u.frzs u.tbls (λm' hm=>by
  obtain⟨o',es',ep',ho',r'⟩:=hm
  rw[ho]at ho';cases ho'
  exact⟨_,es',ep',hL,r'⟩) hok I.bare
theorem Inv.call{g':Array GenState}{t':Nat}{d':Drawn}{ch:List Addr}(I:Inv X pins σ H s)(u:Un (frs X.stack) ch H H' s.heap h')(hok:HOk X.prog X.w H' h')(hg:AllBare g')(hch:∀b∈ch,(b∈X.ex∨X.s₀.heap.objs.size<=b)/\b≠X.env.locals/\(∀x c,X.env.cells.lookup x=some c->c≠b)/\∀p∈X.pn++pins,p.1≠b):
  Inv X pins σ H' { s with heap:=h',gens:=g',drawn:=d',toks:=t' }:=by
 obtain⟨m,⟨o,es,ep,ho,r⟩,_⟩:=id I.loc
 obtain⟨sl,hL⟩:=u.any ho I.free λz=>(hch _ z).2.1 rfl
 exact I.step (ch:=ch) hch (λb o hL hb hc e n=>u.keep b o e n (λz=>(List.mem_cons.mp (I.stkSub b z)).elim hL hb) hc) (λb o _ _ hc e n=>u.any e n hc) (λb o hc e n=>u.free b o e n hc) (λb o hc e=>u.there b o e hc) u.tups u.frzs u.tbls (λm' hm=>by
  obtain⟨o',es',ep',ho',r'⟩:=hm
  rw[ho]at ho';cases ho'
  exact⟨_,es',ep',hL,r'⟩) hok hg
theorem Inv.turned{t':Nat}{it:Addr}(I:Inv X pins σ H s)(k:∀b o,b≠it->s.heap.get? b=some o->h'.get? b=some o)(hn:H it=none)(hL:it≠X.env.locals)(h1:it∈X.ex∨X.s₀.heap.objs.size<=it)(h2:∀x c,X.env.cells.lookup x=some c->c≠it)(h3:∀p∈X.pn++pins,p.1≠it):Inv X pins σ H { s with heap:=h',toks:=t' }:=by
 have nit:∀b u,H b=some u->b≠it:=λb u e z=>by rw[z,hn]at e;cases e
 refine I.step (g':=s.gens) (d':=s.drawn) (ch:=[it]) (λb hb=>?_) (λb o _ _ hc e _=>k b o (λz=>hc (by simp[z])) e) (λb o _ _ hc e _=>⟨o.slots,k b o (λz=>hc (by simp[z])) e⟩) (λ_ _ _ _ n=>n)
  (λb o hc e=>⟨o,k b o (λz=>hc (by simp[z])) e⟩) (λ_ _ e=>e) (λ_ _ _ e=>e) (λb ps e=>⟨#[],by rw[e];simp⟩) (λm hm=>?_) (λb u e=>?_) I.bare
 ·have e:b=it:=by simpa using hb
  subst e
  exact⟨h1,hL,h2,h3⟩
 ·obtain⟨o,es,ep,ho,r⟩:=hm
  exact⟨o,es,ep,k _ o (Ne.symm hL) ho,r⟩
 ·refine(I.hok b u e).stay (λc v hc q=>k c v ?_ q) (λ_ q=>q) λ_ _ q=>q
  rcases hc with z|z
  ·rw[z];exact nit b u e
  ·exact nit c _ z
theorem Inv.tok(I:Inv X pins σ H s)(t:Nat):Inv X pins σ H { s with toks:=t }:=I.un (h':=s.heap) (t':=t) Un.refl I.hok
theorem Inv.kept{t':Nat}(I:Inv X pins σ H s)(k:∀b u,s.heap.get? b=some u->h'.get? b=some u):Inv X pins σ H { s with heap:=h',toks:=t' }:=I.un (Un.kept k) (I.hok.kept k)
theorem Inv.laid{a:Addr}{o:HO}{t':Nat}(I:Inv X pins σ H s)(k:∀b u,s.heap.get? b=some u->h'.get? b=some u)(hp:s.heap.objs.size<=a)(new:Qc X.prog X.w (upd H a o) h' a o):
 Inv X pins σ (upd H a o) { s with heap:=h',toks:=t' }:=I.un (Un.laid k hp (I.hok.fresh hp)) (I.hok.laid k hp new)
theorem Inv.write{x e:Addr}{o:HO}{t':Nat}(I:Inv X pins σ H s)(mu:Mut (H x))(he:e=x∨H e=some (.own x))(k:∀b u,b≠e->s.heap.get? b=some u->h'.get? b=some u)(heo:∃u,h'.get? e=some u)(new:Qc X.prog X.w (upd H x o) h' x o):Inv X pins σ (upd H x o) { s with heap:=h',toks:=t' }:=I.un (Un.write mu he k heo) (I.hok.write mu he k heo new)
theorem Inv.weak{σ':List (Option V)}(I:Inv X pins σ H s)(hl:σ'.length=σ.length)(w:∀(i:Nat) v,σ'[i]?=some (some v)->σ[i]?=some (some v)):Inv X pins σ' H s:=
 ⟨I.ok,I.os,I.bare,I.base,let⟨m,hn,hl'⟩:=I.loc;⟨m,hn,λi x v e1 e2 e3=>hl' i x v e1 (w i v e2) e3⟩,I.cell,I.free,I.freeC,I.pin,I.hok,hl.trans I.len⟩
theorem Inv.pins_of{pins':List (Addr×Obj)}(I:Inv X pins σ H s)(h:∀p∈pins',s.heap.get? p.1=some p.2/\H p.1=none/\p.1≠X.env.locals/\p.1∉X.fs/\∀v,p.2.data≠.cell v):Inv X pins' σ H s:=
 ⟨I.ok,I.os,I.bare,I.base,I.loc,I.cell,I.free,I.freeC,λp hp=>(List.mem_append.mp hp).elim (λz=>I.pin p (List.mem_append_left _ z)) (h p),I.hok,I.len⟩
theorem Zdy{N:List Str}(hN:N.Nodup){i j:Nat}{x:Str}(a:N[i]?=some x)(b:N[j]?=some x):i=j:=by
 obtain⟨h1,e1⟩:=List.getElem?_eq_some_iff.mp a
 obtain⟨h2,e2⟩:=List.getElem?_eq_some_iff.mp b
 exact(List.getElem_inj hN).mp (e1.trans e2.symm)
theorem Zeb{M:Model}{A:Around}{E:Value->Shared->Prop}{i:Nat}{x:Str}{v:V}{u:Value}{Q:Unit->Shared->Prop}(I:Inv X pins σ H s)(hN:X.N.Nodup)(hi:X.N[i]?=some x)(hx:Loc X.env.scope x)(r:RelV v u)(h:∀s',Inv X pins (σ.set i (some v)) H s'->(∃a,Heap.SameBut a s.heap s'.heap/\(a=X.env.locals∨X.env.cells.lookup x=some a))->Q () s')(hf:X.fn x=true∨X.env.scope.names.lookup x=some .local:=by first|exact .inl rfl|exact .inr rfl|assumption):wpAny M A (storeName X.env x u) Q E s:=by
 obtain⟨m,hn,hl⟩:=id I.loc
 have hcls:(X.env.scope.kind==.class || (X.env.scope.kind==.module&&X.env.locals != X.env.globals))=false:=by rw[I.ok.kind];rfl
 have hiσ:i<σ.length:=by rw[I.len];exact(List.getElem?_eq_some_iff.mp hi).1
 have cne:=I.cne
 have tracked:∀{a:Addr}{h':Heap},(∃o,s.heap.get? a=some o/\H a=none)->Heap.SameBut a s.heap h'->HOk X.prog X.w H h':=λ{a h'} ha hs b ob e=>by
  obtain⟨_,_,hfree⟩:=ha
  refine(I.hok b ob e).stay (λc w' hc q=>(hs.2 c ?_).trans q) (λ_ q=>q) λ_ _ q=>q
  rintro rfl
  rcases hc with rfl|hc
  ·rw[hfree]at e;cases e
  ·rw[hfree]at hc;cases hc
 rcases hx with hk|hk
 ·refine wpAny_storeName_local hk hn (λh' hn' hs=>?_) hcls
  obtain⟨oL,_,_,hoL,_⟩:=id hn
  refine h _ ⟨I.ok,I.os,I.bare,⟨λb o e n hb hx=>?_,λb o e n hb hx=>?_,I.base.free,λb o e hx=>?_,I.base.tups,I.base.frzs,I.base.tbls⟩,⟨_,hn',λj y v' e1 e2 e3=>?_⟩,λy c e=>?_,I.free,I.freeC,λp hp=>?_,tracked ⟨oL,hoL,I.free⟩ hs,by simpa using I.len⟩ ⟨_,hs,.inl rfl⟩
  ·exact(hs.2 b (Nat.ne_of_lt (Nat.lt_of_lt_of_le (Heap.lt_size e) I.ok.above))).trans (I.base.keep b o e n hb hx)
  ·obtain⟨sl,e1⟩:=I.base.slot b o e n hb hx
   exact⟨sl,(hs.2 b (Nat.ne_of_lt (Nat.lt_of_lt_of_le (Heap.lt_size e) I.ok.above))).trans e1⟩
  ·obtain⟨o',e1⟩:=I.base.there b o e hx
   exact⟨o',(hs.2 b (Nat.ne_of_lt (Nat.lt_of_lt_of_le (Heap.lt_size e) I.ok.above))).trans e1⟩
  ·by_cases hj:j=i
   ·subst hj
    rw[hi]at e1;cases e1
    rw[List.getElem?_set_self hiσ]at e2
    cases e2
    exact⟨u,r,.inl ⟨hk,by simp⟩⟩
   ·rw[List.getElem?_set_ne (Ne.symm hj)]at e2
    obtain⟨u',r',q⟩:=hl j y v' e1 e2 e3
    refine⟨u',r',?_⟩
    rcases q with⟨k,e⟩|⟨k,c,e,z⟩
    ·refine .inl ⟨k,?_⟩
     have:y≠x:=λe=>hj (Zdy hN e1 (e▸hi))
     simp[this,e]
    ·exact .inr ⟨k,c,e,z.sameBut hs (cne y c e)⟩
  ·obtain⟨w',z⟩:=I.cell y c e
   exact⟨w',z.sameBut hs (cne y c e)⟩
  ·obtain⟨e,n,ne,nf,d⟩:=I.pin p hp
   exact⟨(hs.2 p.1 ne).trans e,n,ne,nf,d⟩
 ·have hfn:X.fn x=true:=by
   rcases hf with z|z
   ·exact z
   ·rw[z]at hk;cases hk
  obtain⟨c,hc⟩:=I.ok.has x (.inl hk)
  obtain⟨w',z⟩:=I.cell x c hc
  refine wpAny_storeName_cell I.ok.kind hk hc z (λh' hc' hs=>?_)
  obtain⟨oc,hoc,hocd⟩:=id z
  refine h { s with heap:=h' } ⟨I.ok,I.os,I.bare,⟨λb o e n hb hx=>?_,λb o e n hb hx=>?_,I.base.free,λb o e hx=>?_,I.base.tups,I.base.frzs,I.base.tbls⟩,⟨m,hn.sameBut hs (Ne.symm (cne x c hc)),λj y v' e1 e2 e3=>?_⟩,λy c' e=>?_,I.free,I.freeC,λp hp=>?_,tracked ⟨oc,hoc,I.freeC x c hc⟩ hs,by simpa using I.len⟩ ⟨c,hs,.inr hc⟩
  ·exact(hs.2 b (Nat.ne_of_lt (Nat.lt_of_lt_of_le (Heap.lt_size e) (I.ok.cab x c hfn hc)))).trans (I.base.keep b o e n hb hx)
  ·obtain⟨sl,e1⟩:=I.base.slot b o e n hb hx
   exact⟨sl,(hs.2 b (Nat.ne_of_lt (Nat.lt_of_lt_of_le (Heap.lt_size e) (I.ok.cab x c hfn hc)))).trans e1⟩
  ·obtain⟨o',e1⟩:=I.base.there b o e hx
   exact⟨o',(hs.2 b (Nat.ne_of_lt (Nat.lt_of_lt_of_le (Heap.lt_size e) (I.ok.cab x c hfn hc)))).trans e1⟩
  ·by_cases hj:j=i
   ·subst hj
    rw[hi]at e1;cases e1
    rw[List.getElem?_set_self hiσ]at e2
    cases e2
    exact⟨u,r,.inr ⟨.inl hk,c,hc,hc'⟩⟩
   ·rw[List.getElem?_set_ne (Ne.symm hj)]at e2
    obtain⟨u',r',q⟩:=hl j y v' e1 e2 e3
    refine⟨u',r',?_⟩
    rcases q with q|⟨k,c',e,z'⟩
    ·exact .inl q
    ·refine .inr ⟨k,c',e,z'.sameBut hs ?_⟩
     rintro rfl
     exact hj (Zdy hN e1 (I.ok.inj _ _ _ e hc▸hi))
  ·by_cases hcc:c'=c
   ·subst hcc;exact⟨_,hc'⟩
   ·obtain⟨w2,z2⟩:=I.cell y c' e
    exact⟨w2,z2.sameBut hs hcc⟩
  ·obtain⟨e,n,ne,nf,d⟩:=I.pin p hp
   refine⟨(hs.2 p.1 ?_).trans e,n,ne,nf,d⟩
   intro q
   rw[q,hoc]at e
   have q':oc=p.2:=Option.some.inj e
   exact d w' (by rw[<-q'];exact hocd)
theorem Xw{M:Model}{A:Around}{E:Value->Shared->Prop}{i:Nat}{x:Str}{v:V}{u:Value}{Q:Unit->Shared->Prop}(I:Inv X pins σ H s)(hN:X.N.Nodup)(hi:X.N[i]?=some x)(hx:Loc X.env.scope x)(r:RelV v u)(h:∀s',Inv X pins (σ.set i (some v)) H s'->Q () s')(hf:X.fn x=true∨X.env.scope.names.lookup x=some .local:=by first|exact .inl rfl|exact .inr rfl|assumption):wpAny M A (storeName X.env x u) Q E s:=
 Zeb I hN hi hx r (λs' I' _=>h s' I') hf
theorem Inv.call'{s':Shared}{ch:List Addr}(I:Inv X pins σ H s)(ho:s'.os=s.os)(u:Un (frs X.stack) ch H H' s.heap s'.heap)(hok:HOk X.prog X.w H' s'.heap)(hg:AllBare s'.gens)(hch:∀b∈ch,(b∈X.ex∨X.s₀.heap.objs.size<=b)/\b≠X.env.locals/\(∀x c,X.env.cells.lookup x=some c->c≠b)/\∀p∈X.pn++pins,p.1≠b):Inv X pins σ H' s':=by
 obtain⟨h',g',d',t',o'⟩:=s'
 have e:o'=s.os:=ho
 subst e
 exact I.call (g':=g') (t':=t') (d':=d') u hok hg hch
end
noncomputable abbrev XK:=Value->Option Addr->Hp->Prop
noncomputable abbrev St:=List (Option V)
noncomputable abbrev VK:=V->Hp->Prop
noncomputable abbrev TE:=St->Hp->VK->Prop
noncomputable abbrev TT:=St->Hp->(Bool->Hp->Prop)->Prop
noncomputable abbrev TA:=St->Hp->(List V->Hp->Prop)->Prop
structure Ends where
 nx:St->Hp->Prop
 rt:VK
 bk:St->Hp->Prop:=λ_ _=>False
 ct:St->Hp->Prop:=λ_ _=>False
noncomputable abbrev TS:=Ends->St->Hp->Prop
noncomputable def EP(X:Cx)(pins:List (Addr×Obj))(σ:St)(Q:VK)(u:Value)(s':Shared):Prop:=∃v H',Inv X pins σ H' s'/\RelV v u/\Q v H'
noncomputable def TP(X:Cx)(pins:List (Addr×Obj))(σ:St)(Q:Bool->Hp->Prop)(b:Bool)(s':Shared):Prop:=∃H',Inv X pins σ H' s'/\Q b H'
noncomputable def AP(X:Cx)(pins:List (Addr×Obj))(σ:St)(Q:List V->Hp->Prop)(us:List Value)(s':Shared):Prop:=∃vs H',Inv X pins σ H' s'/\Vals vs us/\Q vs H'
noncomputable def SP(X:Cx)(pins:List (Addr×Obj))(D:Ends)(f:Flow)(s':Shared):Prop:=
 match f with
 |.next=>∃σ' H',Inv X pins σ' H' s'/\D.nx σ' H'
 |.brk=>∃σ' H',Inv X pins σ' H' s'/\D.bk σ' H'
 |.cont=>∃σ' H',Inv X pins σ' H' s'/\D.ct σ' H'
 |.ret u=>∃v σ' H',Inv X pins σ' H' s'/\RelV v u/\D.rt v H'
noncomputable def PE(X:Cx)(e:Expr)(t:TE):Prop:=
 ∀(pins:List (Addr×Obj)) (s:Shared) (σ:St) (H:Hp) (Q:VK),Inv X pins σ H s->t σ H Q->wpAny (model X.prog X.w) X.A (eval e X.env) (EP X pins σ Q) X.xe s
noncomputable def PT(X:Cx)(e:Expr)(t:TT):Prop:=
 ∀(pins:List (Addr×Obj)) (s:Shared) (σ:St) (H:Hp) (Q:Bool->Hp->Prop),Inv X pins σ H s->t σ H Q->wpAny (model X.prog X.w) X.A (isTrue e X.env (eval e X.env)) (TP X pins σ Q) X.xe s
noncomputable def PW(X:Cx)(e:Expr)(t:TT):Prop:=
 ∀(whole:Sem Value) (pins:List (Addr×Obj)) (s:Shared) (σ:St) (H:Hp) (Q:Bool->Hp->Prop),Inv X pins σ H s->t σ H Q->wpAny (model X.prog X.w) X.A (isTrue e X.env whole) (TP X pins σ Q) X.xe s
theorem PW.pt{X:Cx}{e:Expr}{t:TT}(h:PW X e t):PT X e t:=h _
noncomputable def PA(X:Cx)(es:List Expr)(t:TA):Prop:=
 ∀(pos:Pos) (pins:List (Addr×Obj)) (s:Shared) (σ:St) (H:Hp) (Q:List V->Hp->Prop),Inv X pins σ H s->t σ H Q->wpAny (model X.prog X.w) X.A (spliced (backTo pos (starEach es X.env))) (AP X pins σ Q) X.xe s
noncomputable def PS(X:Cx)(st:Stmt)(t:TS):Prop:=
 ∀(pins:List (Addr×Obj)) (s:Shared) (σ:St) (H:Hp) (D:Ends),Inv X pins σ H s->t D σ H->wpAny (model X.prog X.w) X.A (exec st X.env) (SP X pins D) X.xe s
noncomputable def PSs(X:Cx)(st:List Stmt)(t:TS):Prop:=
 ∀(pins:List (Addr×Obj)) (s:Shared) (σ:St) (H:Hp) (D:Ends),Inv X pins σ H s->t D σ H->wpAny (model X.prog X.w) X.A (execs st X.env) (SP X pins D) X.xe s
theorem thn{α:Type}{t:Sem α}{Q Q':α->Shared->Prop}{M:Model}{A:Around}{E:Value->Shared->Prop}{s:Shared}(h:wpAny M A t Q E s)(hQ:∀a s,Q a s->Q' a s):wpAny M A t Q' E s:=wpAny_mono h hQ λ_ _ x=>x
section
variable{X:Cx}
theorem bin{a b:Expr}{ta tb:TE}(ha:PE X a ta)(hb:PE X b tb){pins:List (Addr×Obj)}{s:Shared}{σ:St}{H:Hp}{R:V->V->Hp->Prop}(I:Inv X pins σ H s)(h:ta σ H λx H1=>tb σ H1 λy H2=>R x y H2){α:Type}{Q:α->Shared->Prop}{f:Value->Value->Sem α}(hf:∀v u s2 x y H2,Inv X pins σ H2 s2->RelV x v->RelV y u->R x y H2->wpAny (model X.prog X.w) X.A (f v u) Q X.xe s2):
  wpAny (model X.prog X.w) X.A (eval a X.env) (λv s₁=>wpAny (model X.prog X.w) X.A (eval b X.env) (λu s₂=>wpAny (model X.prog X.w) X.A (f v u) Q X.xe s₂) X.xe s₁) X.xe s:=by
 refine thn (ha pins s σ H _ I h) λv s1 ⟨x,H1,I1,r1,q1⟩=>?_
 refine thn (hb pins s1 σ H1 _ I1 q1) λu s2 ⟨y,H2,I2,r2,q2⟩=>?_
 exact hf v u s2 x y H2 I2 r1 r2 q2
noncomputable def tVar(i:Nat):TE:=λσ H Q=>∃v,σ[i]?=some (some v)/\Q v H
noncomputable def tC(v:V):TE:=λ_ H Q=>Q v H
theorem ZcW{i:Nat}{x:Str}{pos:Pos}(hN:X.N[i]?=some x)(hv:Vis X.env.scope x)(hd:(x==("__debug__" : Str))=false:=by decide)(hcd:(x==("__classdict__" : Str))=false:=by decide):PE X (.Name x pos) (tVar i):=by
 intro pins s σ H Q I h
 obtain⟨v,e,h⟩:=h
 obtain⟨m,hn,hl⟩:=I.loc
 obtain⟨u,r,l⟩:=hl i x v hN e hv
 have fin:EP X pins σ Q u s:=⟨v,H,I,r,h⟩
 rcases l with⟨hk,hm⟩|⟨hk,c,hc,hcell⟩
 ·exact wpAny_Name (wpAny_loadName_local I.ok.kind hk hn hm fin) hd
 ·rcases hk with hk|hk
  ·exact wpAny_Name (wpAny_loadName_cell I.ok.kind hk hc hcell fin) hd
  ·exact wpAny_Name (wpAny_loadName_free I.ok.kind hk hc hcell fin hcd) hd
theorem Zlb{i j pos}:PE X (.Constant (.int i) j pos) (tC (.int i)):=λ_ _ _ H _ I h=>wpAny_Constant_int ⟨.int i,H,I.tok _,⟨_,rfl⟩,h⟩
theorem pe_bl{b j pos}:PE X (.Constant (.bool b) j pos) (tC (.bl b)):=λ_ _ _ H _ I h=>Constant_bool ⟨.bl b,H,I,rfl,h⟩
theorem pe_non{j pos}:PE X (.Constant .none j pos) (tC .non):=λ_ _ _ H _ I h=>Constant_none ⟨.non,H,I,rfl,h⟩
theorem Zla{x j pos}:PE X (.Constant (.str x) j pos) (tC (.str x)):=λ_ _ _ H _ I h=>Calls.Constant_str ⟨.str x,H,I.tok _,⟨_,rfl⟩,h⟩
noncomputable def Gl(X:Cx)(x:Str):Prop:=X.env.kindOf x=some .globalImplicit
theorem Za5{E:Value->Shared->Prop}{pins:List (Addr×Obj)}{s:Shared}{σ:St}{H:Hp}{x:Str}{u:Value}{pos:Pos}{Q:Value->Shared->Prop}(I:Inv X pins σ H s)(hg:Gl X x)(hm:X.mg x=some u)(h:Q u s)(hd:(x==("__debug__" : Str))=false:=by decide):wpAny (model X.prog X.w) X.A (eval (.Name x pos) X.env) Q E s:=
 Calls.Name_function_global I.ok.kind hg (Calls.loadGlobal_global (by rw[I.ok.glob];exact I.mod.glob.keeps I.bk) hm h) hd
theorem ZeE{E:Value->Shared->Prop}{pins:List (Addr×Obj)}{s:Shared}{σ:St}{H:Hp}{x:Str}{u:Value}{pos:Pos}{Q:Value->Shared->Prop}(I:Inv X pins σ H s)(hg:Gl X x)(hm:X.mg x=none)(hv:bootBuiltins x=some u)(h:Q u s)(hn:x≠"__name__":=by decide)(hd:(x==("__debug__" : Str))=false:=by decide):wpAny (model X.prog X.w) X.A (eval (.Name x pos) X.env) Q E s:=by
 obtain⟨mb,h1,h2⟩:=I.mod.blt
 exact Calls.Name_function_global I.ok.kind hg (Calls.loadGlobal_builtin (by rw[I.ok.glob];exact I.mod.glob.keeps I.bk) hm (by rw[I.ok.blt];exact h1.keeps I.bk) ((h2 x hn).trans hv) h) hd
theorem QH{x:Str}{v:V}{u:Value}{pos:Pos}(hg:Gl X x)(hm:X.mg x=some u)(r:RelV v u)(hd:(x==("__debug__" : Str))=false:=by decide):PE X (.Name x pos) (tC v):=
 λ_ _ _ H _ I h=>Za5 I hg hm ⟨v,H,I,r,h⟩ hd
theorem Zii{x:Str}{v:V}{u:Value}{pos:Pos}(hg:Gl X x)(hm:X.mg x=none)(hv:bootBuiltins x=some u)(r:RelV v u)(hn:x≠"__name__":=by decide)(hd:(x==("__debug__" : Str))=false:=by decide):PE X (.Name x pos) (tC v):=
 λ_ _ _ H _ I h=>ZeE I hg hm hv ⟨v,H,I,r,h⟩ hn hd
variable{a b:Expr}{ta tb:TE}{pos:Pos}
noncomputable def PC(X:Cx)(op:CmpOp)(a b:Expr)(t:TE):Prop:=
 ∀(pins:List (Addr×Obj)) (s:Shared) (σ:St) (H:Hp) (Q:VK),Inv X pins σ H s->t σ H Q ->
  wpAny (model X.prog X.w) X.A (eval a X.env) (λv s₁=>wpAny (model X.prog X.w) X.A (eval b X.env) (λu s₂=>wpAny (model X.prog X.w) X.A (compareOp op v u) (EP X pins σ Q) X.xe s₂) X.xe s₁) X.xe s
theorem Zkm(b:Expr){op:CmpOp}(h:op≠.In)(h2:op≠.NotIn):behindInMarks op b=false:=by
 have e1:(op==CmpOp.In)=false:=by cases op<;>first|rfl|exact absurd rfl h
 have e2:(op==CmpOp.NotIn)=false:=by cases op<;>first|rfl|exact absurd rfl h2
 cases b<;>simp[behindInMarks,e1,e2]
noncomputable def tB(t:TE):TT:=λσ H Q=>t σ H λx H1=>∃c,x=.bl c/\Q c H1
theorem pt_cmp{op:CmpOp}{t:TE}(h:PC X op a b t)(h1:behindInMarks op b=false:=by first|exact Zkm _ (by decide) (by decide)|rfl):PT X (.Compare a [op] [b] pos) (tB t):=by
 intro pins s σ H Q I hw
 refine wpAny_isTrue_Compare1 (thn (h pins s σ H _ I hw) λv s1 h1=>thn h1 λu s2 h2=>thn h2 λc s3 ⟨x,H1,I1,r1,q1⟩=>?_) h1
 obtain⟨d,rfl,q⟩:=q1
 cases r1
 exact wpAny_truthy_bool ⟨H1,I1,q⟩
variable{tA tB':TT}{rest:List Expr}
noncomputable def tAnd(t u:TT):TT:=λσ H Q=>t σ H λc H1=>if c=true then u σ H1 Q else Q false H1
noncomputable def tOr(t u:TT):TT:=λσ H Q=>t σ H λc H1=>if c=true then Q true H1 else u σ H1 Q
noncomputable def tNot(t:TT):TT:=λσ H Q=>t σ H λc H1=>Q (!c) H1
theorem ZlZ(ha:PT X a tA):PW X (.BoolOp .And [a] pos) tA:=by
 intro wh pins s σ H Q I h
 refine isTrue_and (thn (ha pins s σ H Q I h) λc s1 e=>?_)
 cases c with
 |true=>exact isTrue_and_nil e
 |false=>exact e
theorem pw_or1(ha:PT X a tA):PW X (.BoolOp .Or [a] pos) tA:=by
 intro wh pins s σ H Q I h
 refine isTrue_or (thn (ha pins s σ H Q I h) λc s1 e=>?_)
 cases c with
 |false=>exact isTrue_or_nil e
 |true=>exact e
theorem pw_and(ha:PT X a tA)(hb:PW X (.BoolOp .And (b::rest) pos) tB'):PW X (.BoolOp .And (a::b::rest) pos) (tAnd tA tB'):=by
 intro wh pins s σ H Q I h
 refine isTrue_and (thn (ha pins s σ H _ I h) λc s1 ⟨H1,I1,q1⟩=>?_)
 cases c with
 |true=>exact hb wh pins s1 σ H1 Q I1 q1
 |false=>exact⟨H1,I1,q1⟩
theorem pw_or(ha:PT X a tA)(hb:PW X (.BoolOp .Or (b::rest) pos) tB'):PW X (.BoolOp .Or (a::b::rest) pos) (tOr tA tB'):=by
 intro wh pins s σ H Q I h
 refine isTrue_or (thn (ha pins s σ H _ I h) λc s1 ⟨H1,I1,q1⟩=>?_)
 cases c with
 |true=>exact⟨H1,I1,q1⟩
 |false=>exact hb wh pins s1 σ H1 Q I1 q1
theorem pt_not(ha:PT X a tA):PT X (.UnaryOp .Not a pos) (tNot tA):=by
 intro pins s σ H Q I h
 exact isTrue_not (ha pins s σ H (λc H1=>Q (!c) H1) I h)
noncomputable def tAndV(ta tb:TE):TE:=λσ H Q=>ta σ H λx H1=>∃c,x=.bl c/\if c=true then tb σ H1 Q else Q (.bl false) H1
noncomputable def tOrV(ta tb:TE):TE:=λσ H Q=>ta σ H λx H1=>∃c,x=.bl c/\if c=true then Q (.bl true) H1 else tb σ H1 Q
noncomputable def tNotV(ta:TE):TE:=λσ H Q=>ta σ H λx H1=>∃c,x=.bl c/\Q (.bl (!c)) H1
theorem pe_one{op}{t:TE}(h:PE X a t):PE X (.BoolOp op [a] pos) t:=λpins s σ H Q I hw=>BoolOp_one (h pins s σ H Q I hw)
theorem pe_and(ha:PE X a ta)(hb:PE X (.BoolOp .And (b::rest) pos) tb):PE X (.BoolOp .And (a::b::rest) pos) (tAndV ta tb):=by
 intro pins s σ H Q I h
 refine BoolOp_and (thn (ha pins s σ H _ I h) λv s1 ⟨x,H1,I1,r1,q1⟩=>?_)
 obtain⟨c,rfl,q1⟩:=q1
 cases r1
 refine wpAny_truthy_bool ?_
 cases c with
 |true=>exact hb pins s1 σ H1 Q I1 q1
 |false=>exact⟨.bl false,H1,I1,rfl,q1⟩
theorem pe_or(ha:PE X a ta)(hb:PE X (.BoolOp .Or (b::rest) pos) tb):PE X (.BoolOp .Or (a::b::rest) pos) (tOrV ta tb):=by
 intro pins s σ H Q I h
 refine BoolOp_or (thn (ha pins s σ H _ I h) λv s1 ⟨x,H1,I1,r1,q1⟩=>?_)
 obtain⟨c,rfl,q1⟩:=q1
 cases r1
 refine wpAny_truthy_bool ?_
 cases c with
 |false=>exact hb pins s1 σ H1 Q I1 q1
 |true=>exact⟨.bl true,H1,I1,rfl,q1⟩
theorem pe_not(ha:PE X a ta):PE X (.UnaryOp .Not a pos) (tNotV ta):=by
 intro pins s σ H Q I h
 refine UnaryOp_ (thn (ha pins s σ H _ I h) λv s1 ⟨x,H1,I1,r1,q1⟩=>?_)
 obtain⟨c,rfl,q1⟩:=q1
 cases r1
 exact not_of (wpAny_truthy_bool ⟨.bl (!c),H1,I1,rfl,q1⟩)
end
noncomputable def SqL(K:Frag)(H:Hp)(a:Addr)(xs:List V):Prop:=
 Rd H a (.lst xs) ∨
  ∃(o:Obj) (its:Array Value) (n:Nat),K.lookup a=some o/\o.cls=.type "list"/\o.dict=none/\o.data=.seq its n/\its.size<=sizeLine/\Vals xs its.toList
noncomputable def SqT(K:Frag)(H:Hp)(a:Addr)(xs:List V):Prop:=
 Rd H a (.tup xs) ∨
  ∃(o:Obj) (its:Array Value) (n:Nat),K.lookup a=some o/\o.cls=.type "tuple"/\o.data=.seq its n/\its.size<=sizeLine/\Vals xs its.toList/\o.dict=none
noncomputable def absV:Value->Option V
 |.none=>some .non
 |.bool b=>some (.bl b)
 |.int i _=>some (.int i)
 |.str x _=>some (.str x)
 |.bytes b _=>some (.byt b)
 |.float b _=>some (.flt b)
 |.ref a=>some (.ref a)
 |.type n=>some (.ty n)
 |_=>none
theorem RelV.abs{x:V}{u:Value}(r:RelV x u):absV u=some x:=by
 cases x with
 |non=>cases r;rfl
 |bl _=>cases r;rfl
 |int _=>obtain⟨t,rfl⟩:=r;rfl
 |str _=>obtain⟨t,rfl⟩:=r;rfl
 |byt _=>obtain⟨t,rfl⟩:=r;rfl
 |flt _=>obtain⟨t,rfl⟩:=r;rfl
 |ref _=>cases r;rfl
 |ty _=>cases r;rfl
theorem RelV.inj{x y:V}{u:Value}(r:RelV x u)(q:RelV y u):x=y:=Option.some.inj (r.abs.symm.trans q.abs)
theorem Vals.inj:∀{xs ys:List V}{us:List Value},Vals xs us->Vals ys us->xs=ys
 |_,_,_,.nil,.nil=>rfl
 |_,_,_,.cons r t,.cons r' t'=>by rw[r.inj r',Vals.inj t t']
section
variable{X:Cx}{pins:List (Addr×Obj)}{σ:St}{H:Hp}{s:Shared}{a:Addr}{xs ys:List V}
theorem SqL.of{K:Frag}(h:H a=some (.lst xs)):SqL K H a xs:=.inl (.inl h)
theorem SqT.of{K:Frag}(h:H a=some (.tup xs)):SqT K H a xs:=.inl (.inl h)
theorem Inv.list(I:Inv X pins σ H s)(h:SqL X.K H a xs):∃its:List Value,Vals xs its/\PlainL s.heap a its.toArray/\xs.length<=sizeLine:=by
 rcases h with h|⟨o,its,n,hk,hc,hd,hs,hz,r⟩
 ·obtain⟨z,its,n,r,e⟩:=h.ok I.hok
  exact⟨its,r,⟨_,n,e,rfl,rfl,rfl⟩,z⟩
 ·refine⟨its.toList,r,⟨o,n,I.kIn a o hk,hc,hd,by simpa using hs⟩,?_⟩
  have e:=r.length
  simp only[Array.length_toList]at e
  omega
theorem Inv.tuple(I:Inv X pins σ H s)(h:SqT X.K H a xs):∃its:List Value,Vals xs its/\IsTup s.heap a its.toArray/\xs.length<=sizeLine:=by
 rcases h with h|⟨o,its,n,hk,hc,hs,hz,r,hdn⟩
 ·obtain⟨z,its,r,p⟩:=h.ok I.hok
  exact⟨its,r,p.is,z⟩
 ·refine⟨its.toList,r,⟨o,I.kIn a o hk,hc,n,by simpa using hs⟩,?_⟩
  have e:=r.length
  simp only[Array.length_toList]at e
  omega
theorem Inv.tupleP(I:Inv X pins σ H s)(h:SqT X.K H a xs):∃its:List Value,Vals xs its/\TupP s.heap a its.toArray/\xs.length<=sizeLine:=by
 rcases h with h|⟨o,its,n,hk,hc,hs,hz,r,hdn⟩
 ·obtain⟨z,its,r,p⟩:=h.ok I.hok
  exact⟨its,r,p,z⟩
 ·refine⟨its.toList,r,⟨o,I.kIn a o hk,hc,⟨n,by simpa using hs⟩,hdn⟩,?_⟩
  have e:=r.length
  simp only[Array.length_toList]at e
  omega
theorem Inv.list_inj(I:Inv X pins σ H s)(h:SqL X.K H a xs)(h':SqL X.K H a ys):xs=ys:=by
 obtain⟨its,r,⟨o,n,e,_,_,d⟩,_⟩:=I.list h
 obtain⟨its',r',⟨o',n',e',_,_,d'⟩,_⟩:=I.list h'
 rw[e]at e';cases e'
 rw[d]at d'
 injection d' with d1 _
 have:its=its':=by simpa using congrArg Array.toList d1
 subst this
 exact r.inj r'
theorem Inv.tuple_inj(I:Inv X pins σ H s)(h:SqT X.K H a xs)(h':SqT X.K H a ys):xs=ys:=by
 obtain⟨its,r,⟨o,e,_,n,d⟩,_⟩:=I.tuple h
 obtain⟨its',r',⟨o',e',_,n',d'⟩,_⟩:=I.tuple h'
 rw[e]at e';cases e'
 rw[d]at d'
 injection d' with d1 _
 have:its=its':=by simpa using congrArg Array.toList d1
 subst this
 exact r.inj r'
end
noncomputable abbrev Cx.wish(X:Cx)(E:Value->Shared->Prop):Cx:={ X with xe:=E }
noncomputable abbrev Cx.nox(X:Cx):Cx:=X.wish λ_ _=>False
theorem Cx.Ok.wish{X:Cx}(ok:X.Ok)(E:Value->Shared->Prop):(X.wish E).Ok:=
 ⟨ok.mod,ok.kind,ok.glob,ok.blt,ok.above,ok.inj,ok.has,ok.cab,ok.hd,ok.frames,ok.stk,ok.exf,ok.bs,ok.bsz,ok.noex,ok.exfs,ok.funs,ok.frf⟩
section
variable{X:Cx}{pins:List (Addr×Obj)}{σ:St}{H:Hp}{s:Shared}{E:Value->Shared->Prop}
theorem Inv.wish(I:Inv X pins σ H s)(E:Value->Shared->Prop):Inv (X.wish E) pins σ H s:=⟨I.ok.wish E,I.os,I.bare,I.base,I.loc,I.cell,I.free,I.freeC,I.pin,I.hok,I.len⟩
end
section
variable{X:Cx}{st:Stmt}{rest:List Stmt}{t u:TS}{e:Expr}{te:TE}{pos:Pos}
noncomputable def ZgE:TS:=λD σ H=>D.nx σ H
noncomputable def tSeq(t u:TS):TS:=λD σ H=>t { D with nx:=u D } σ H
theorem Zfp:PSs X [] ZgE:=λ_ _ σ H _ I h=>wpAny_execs_nil ⟨σ,H,I,h⟩
theorem Qu(h1:PS X st t)(h2:PSs X rest u):PSs X (st::rest) (tSeq t u):=by
 intro pins s σ H D I h
 refine wpAny_execs_cons (thn (h1 pins s σ H { D with nx:=u D } I h) λf s1 q=>?_)
 cases f with
 |next =>
  obtain⟨σ',H',I',q⟩:=q
  exact h2 pins s1 σ' H' D I' q
 |ret v=>exact q
 |brk=>exact q
 |cont=>exact q
theorem Inv.quiet{pins:List (Addr×Obj)}{σ:St}{H:Hp}{s:Shared}(I:Inv X pins σ H s):interactive X.env=false:=by simp[interactive,I.ok.kind]
noncomputable def Zbz(te:TE):TS:=λD σ H=>te σ H λ_ H1=>D.nx σ H1
theorem Zh5(he:PE X e te)(hs:swapsWith e none pos.line X.env=pure false:=by rfl):PS X (.Expr e pos) (Zbz te):=by
 intro pins s σ H D I h
 exact wpAny_Expr_any (thn (he pins s σ H _ I h) λv s1 ⟨x,H1,I1,r1,q1⟩=>⟨σ,H1,I1,q1⟩) I.quiet hs
noncomputable def tRet(te:TE):TS:=λD σ H=>te σ H D.rt
theorem Zk6(he:PE X e te):PS X (.Return (some e) pos) (tRet te):=by
 intro pins s σ H D I h
 exact wpAny_Return_some (thn (he pins s σ H _ I h) λv s1 ⟨x,H1,I1,r1,q1⟩=>⟨x,σ,H1,I1,r1,q1⟩)
noncomputable def tIfS(c:TT)(t u:TS):TS:=λD σ H=>c σ H λb H1=>if b=true then t D σ H1 else u D σ H1
theorem ps_if{c:Expr}{a b:List Stmt}{tc:TT}(hc:PT X c tc)(ha:PSs X a t)(hb:PSs X b u):PS X (.If c a b pos) (tIfS tc t u):=by
 intro pins s σ H D I h
 refine wpAny_If (thn (hc pins s σ H _ I h) λd s1 ⟨H1,I1,q1⟩=>?_)
 cases d with
 |true=>exact ha pins s1 σ H1 D I1 q1
 |false=>exact hb pins s1 σ H1 D I1 q1
noncomputable def tNever:TS:=λ_ _ _=>False
theorem Zh2{sts:List Stmt}:PSs X sts tNever:=λ_ _ _ _ _ _ h=>h.elim
end
noncomputable abbrev TG:=V->St->Hp->(St->Hp->Prop)->Prop
noncomputable abbrev TGs:=List V->St->Hp->(St->Hp->Prop)->Prop
noncomputable def PG(X:Cx)(target:Expr)(t:TG):Prop:=
 ∀(pins:List (Addr×Obj)) (s:Shared) (σ:St) (H:Hp) (v:V) (u:Value) (Q:St->Hp->Prop),Inv X pins σ H s->RelV v u->t v σ H Q ->
  wpAny (model X.prog X.w) X.A (assign target X.env u) (λ_ s'=>∃σ' H',Inv X pins σ' H' s'/\Q σ' H') X.xe s
noncomputable def PGs(X:Cx)(ts:List Expr)(t:TGs):Prop:=
 ∀(pins:List (Addr×Obj)) (s:Shared) (σ:St) (H:Hp) (vs:List V) (us:List Value) (Q:St->Hp->Prop),Inv X pins σ H s->Vals vs us->t vs σ H Q ->
  wpAny (model X.prog X.w) X.A (assignInOrder ((assignEach ts X.env).map (·.2)) us) (λ_ s'=>∃σ' H',Inv X pins σ' H' s'/\Q σ' H') X.xe s
noncomputable abbrev TSet:=V->V->V->Hp->(Hp->Prop)->Prop
noncomputable def PSet(X:Cx)(t:TSet):Prop:=
 ∀(pins:List (Addr×Obj)) (s:Shared) (σ:St) (H:Hp) (o i v:V) (ov iv u:Value) (Q:Hp->Prop),Inv X pins σ H s->RelV o ov->RelV i iv->RelV v u->t o i v H Q ->
  wpAny (model X.prog X.w) X.A (setItem ov iv u) (λ_ s'=>∃H',Inv X pins σ H' s'/\Q H') X.xe s
noncomputable abbrev TIp:=V->V->Hp->VK->Prop
noncomputable def PIp(X:Cx)(op:Operator)(t:TIp):Prop:=
 ∀(pins:List (Addr×Obj)) (s:Shared) (σ:St) (H:Hp) (x y:V) (v u:Value) (Q:VK),Inv X pins σ H s->RelV x v->RelV y u->t x y H Q ->
  wpAny (model X.prog X.w) X.A (inplaceOp op v u) (EP X pins σ Q) X.xe s
section
variable{X:Cx}{pos:Pos}
noncomputable def ZbG(i:Nat):TG:=λv σ H Q=>Q (σ.set i (some v)) H
theorem Zam{i:Nat}{x:Str}(hN:X.N.Nodup)(hi:X.N[i]?=some x)(hx:Loc X.env.scope x)(hf:X.fn x=true∨X.env.scope.names.lookup x=some .local:=by first|exact .inl rfl|exact .inr rfl|assumption):PG X (.Name x pos) (ZbG i):=by
 intro pins s σ H v u Q I r h
 exact wpAny_assign_Name (Xw I hN hi hx r (λs' I'=>⟨_,H,I',h⟩) hf)
noncomputable def gNil:TGs:=λvs σ H Q=>vs=[]/\Q σ H
noncomputable def gCons(t:TG)(u:TGs):TGs:=λvs σ H Q=>∃v r,vs=v::r/\t v σ H λσ' H'=>u r σ' H' Q
theorem Zme:PGs X [] gNil:=by
 intro pins s σ H vs us Q I r h
 obtain⟨e,h⟩:=h
 subst e
 cases r
 exact assignInOrder_nil ⟨σ,H,I,h⟩
theorem Zga{e:Expr}{es:List Expr}{t:TG}{u:TGs}(h1:PG X e t)(h2:PGs X es u)(hs:(assignEach (e::es) X.env).map (·.2)=assign e X.env::(assignEach es X.env).map (·.2):=by rfl):PGs X (e::es) (gCons t u):=by
 intro pins s σ H vs us Q I r h
 obtain⟨v,vr,e1,h⟩:=h
 subst e1
 cases r with
 |cons r rr =>
  rw[hs]
  refine assignInOrder_cons (thn (h1 pins s σ H _ _ _ I r h) λ_ s1 ⟨σ1,H1,I1,q1⟩=>?_)
  exact h2 pins s1 σ1 H1 _ _ Q I1 rr q1
noncomputable def gTup(K:Frag)(n:Nat)(t:TGs):TG:=λv σ H Q=>∃a xs,v=.ref a/\SqT K H a xs/\xs.length=n/\t xs σ H Q
theorem pg_tup{es:List Expr}{k:Nat}{t:TGs}{n:Nat}(hc:X.calm=true)(h:PGs X es t)(hn:(assignEach es X.env).length=n:=by rfl)(hst:(assignEach es X.env).findIdx? (·.1)=none:=by rfl):PG X (.Tuple es k pos) (gTup X.K n t):=by
 intro pins s σ H v u Q I r hw
 obtain⟨a,xs,e1,hq,hl,hw⟩:=hw
 subst e1
 cases r
 obtain⟨its,rv,ht,hz⟩:=I.tuple hq
 refine assign_Tuple_tuple (I.ok.hd hc) ht (by simp[hn,<-hl,rv.length]) hst λh' hx=>?_
 have I1:Inv X pins σ H { s with heap:=h' }:=I.kept (t':=s.toks) λb o e=>hx b o (Nat.ne_of_lt (Heap.lt_size e)) e
 exact h pins _ σ H xs _ Q I1 (by simpa using rv) hw
noncomputable def gSub(to ti:TE)(t:TSet):TG:=λv σ H Q=>to σ H λo H1=>ti σ H1 λi H2=>t o i v H2 λH3=>Q σ H3
theorem pg_sub{o i:Expr}{to ti:TE}{t:TSet}(ho:PE X o to)(hi:PE X i ti)(hs:PSet X t)(ha:∀v,assign (.Subscript o i pos) X.env v=(do
  let ov <-holding [v] (eval o X.env)
  let iv <-holding [v,ov] (eval i X.env)
  standAt pos
  holding [v,ov,iv] (setItem ov iv v)
  release [v,ov,iv] []):=by intro _;rfl):PG X (.Subscript o i pos) (gSub to ti t):=by
 intro pins s σ H v u Q I r h
 rw[ha]
 refine wpAny_bind (wpAny_holding (thn (ho pins s σ H _ I h) λov s1 ⟨x,H1,I1,r1,q1⟩=>?_))
 refine wpAny_bind (wpAny_holding (thn (hi pins s1 σ H1 _ I1 q1) λiv s2 ⟨y,H2,I2,r2,q2⟩=>?_))
 refine wpAny_bind (wpAny_standAt (wpAny_bind (wpAny_holding (thn (hs pins s2 σ H2 x y v ov iv u _ I2 r1 r2 r q2) λ_ s3 ⟨H3,I3,q3⟩=>?_))))
 exact wpAny_release ⟨σ,H3,I3,q3⟩
noncomputable def tAsg(te:TE)(g:TG):TS:=λD σ H=>te σ H λx H1=>g x σ H1 D.nx
theorem Zh6{tg e:Expr}{te:TE}{g:TG}(he:PE X e te)(hg:PG X tg g)(hs:swapsWithSole [tg] e pos.line X.env=pure false:=by rfl)(hw:swappedStores [tg] e X.env=pure none:=by rfl)(h1:(assignEach [tg] X.env).map (·.2)=[assign tg X.env]:=by rfl):PS X (.Assign [tg] e pos) (tAsg te g):=by
 intro pins s σ H D I h
 refine wpAny_Assign_stores (thn (he pins s σ H _ I h) λv s1 ⟨x,H1,I1,r1,q1⟩=>?_) hs hw
 rw[h1]
 exact thn (hg pins s1 σ H1 x v _ I1 r1 q1) λ_ s2 q=>q
theorem ps_set{i:Nat}{x:Str}{e:Expr}{te:TE}{pos':Pos}(hN:X.N.Nodup)(hi:X.N[i]?=some x)(hx:Loc X.env.scope x)(he:PE X e te)(hs:swapsWith e (some (.Name x pos')) pos.line X.env=pure false:=by rfl)(hf:X.fn x=true∨X.env.scope.names.lookup x=some .local:=by first|exact .inl rfl|exact .inr rfl|assumption):
  PS X (.Assign [.Name x pos'] e pos) (tAsg te (ZbG i)):=by
 intro pins s σ H D I h
 refine wpAny_Assign_Name (thn (he pins s σ H _ I h) λv s1 ⟨y,H1,I1,r1,q1⟩=>?_) hs
 exact Xw I1 hN hi hx r1 (λs2 I2=>⟨_,H1,I2,q1⟩) hf
noncomputable def tAug(i:Nat)(te:TE)(ti:TIp):TS:=λD σ H=>∃x,σ[i]?=some (some x)/\te σ H λy H1=>ti x y H1 λz H2=>D.nx (σ.set i (some z)) H2
theorem ps_aug{i:Nat}{x:Str}{e:Expr}{te:TE}{op:Operator}{ti:TIp}{pos':Pos}(hN:X.N.Nodup)(hi:X.N[i]?=some x)(hx:Loc X.env.scope x)(he:PE X e te)(ho:PIp X op ti)(hf:X.fn x=true∨X.env.scope.names.lookup x=some .local:=by first|exact .inl rfl|exact .inr rfl|assumption):
  PS X (.AugAssign (.Name x pos') op e pos) (tAug i te ti):=by
 intro pins s σ H D I h
 obtain⟨v,e1,h⟩:=h
 obtain⟨m,hn,hl⟩:=I.loc
 have vis:Vis X.env.scope x:=by rcases hx with k|k;exact .inl k;exact .inr (.inl k)
 obtain⟨u,r,l⟩:=hl i x v hi e1 vis
 refine wpAny_AugAssign_Name ?_
 have go:wpAny (model X.prog X.w) X.A (eval e X.env) (λw s₂=>wpAny (model X.prog X.w) X.A (inplaceOp op u w) (λr s₃=>wpAny (model X.prog X.w) X.A (storeName X.env x r) (λ_=>SP X pins D .next) X.xe s₃) X.xe s₂) X.xe s:=by
  refine thn (he pins s σ H _ I h) λw s1 ⟨y,H1,I1,r1,q1⟩=>?_
  refine thn (ho pins s1 σ H1 v y u w _ I1 r r1 q1) λz s2 ⟨zv,H2,I2,r2,q2⟩=>?_
  exact Xw I2 hN hi hx r2 (λs3 I3=>⟨_,H2,I3,q2⟩) hf
 rcases l with⟨hk,hm⟩|⟨hk,c,hc,hcell⟩
 ·exact wpAny_loadName_local I.ok.kind hk hn hm go
 ·rcases hk with hk|hk
  ·exact wpAny_loadName_cell I.ok.kind hk hc hcell go
  ·rcases hx with k|k
   ·have:X.env.scope.names.lookup x=some .free:=hk
    rw[k]at this;cases this
   ·have:X.env.scope.names.lookup x=some .free:=hk
    rw[k]at this;cases this
noncomputable def ipI(f:Int->Int->Int):TIp:=λx y H Q=>∃i j,x=.int i/\y=.int j/\Q (.int (f i j)) H
theorem ip_add:PIp X .Add (ipI λi j=>i+j):=by
 intro pins s σ H x y v u Q I r1 r2 h
 obtain⟨i,j,e1,e2,q⟩:=h
 subst e1;subst e2
 obtain⟨t,rfl⟩:=r1
 obtain⟨t',rfl⟩:=r2
 exact iadd_int ⟨.int _,H,I.tok _,⟨_,rfl⟩,q⟩
theorem ip_sub:PIp X .Sub (ipI λi j=>i-j):=by
 intro pins s σ H x y v u Q I r1 r2 h
 obtain⟨i,j,e1,e2,q⟩:=h
 subst e1;subst e2
 obtain⟨t,rfl⟩:=r1
 obtain⟨t',rfl⟩:=r2
 exact isub_int ⟨.int _,H,I.tok _,⟨_,rfl⟩,q⟩
noncomputable def tWhile(c:TT)(tb:TS):TS:=λD σ H=>∃W:Nat->St->Hp->Prop,(∃m,W m σ H)/\∀m σ H,W m σ H ->
 c σ H λb H1=>if b=true then ∃N:St->Hp->Prop,(∀σ' H',N σ' H'->∃m',m'<m/\W m' σ' H')/\tb { D with nx:=N,ct:=N,bk:=D.nx } σ H1 else D.nx σ H1
theorem Zj1{c:Expr}{body:List Stmt}{tc:TT}{tb:TS}(hp:PassesOwn (model X.prog X.w) X.A X.env X.xe)(hc:PT X c tc)(hb:PSs X body tb):PS X (.While c body [] pos) (tWhile tc tb):=by
 intro pins s σ H D I h
 obtain⟨W,⟨m0,w0⟩,turn⟩:=h
 refine wpAny_While (codeAny_whileLoop (λn s'=>∃σ' H',Inv X pins σ' H' s'/\W n σ' H') ?_ m0 ⟨σ,H,I,w0⟩)
 rintro n s1 ⟨σ1,H1,I1,w1⟩
 refine wpAny_passesOwn hp (thn (hc pins s1 σ1 H1 _ I1 (turn n σ1 H1 w1)) λb s2 ⟨H2,I2,q2⟩=>?_)
 cases b with
 |true =>
  obtain⟨N,hN,q2⟩:=q2
  rw[if_pos rfl]
  refine wpAny_passesOwn hp (thn (hb pins s2 σ1 H2 _ I2 q2) λf s3 q3=>?_)
  cases f with
  |next =>
   obtain⟨σ3,H3,I3,n3⟩:=q3
   obtain⟨m',hm,w3⟩:=hN σ3 H3 n3
   exact⟨m',hm,σ3,H3,I3,w3⟩
  |cont =>
   obtain⟨σ3,H3,I3,n3⟩:=q3
   obtain⟨m',hm,w3⟩:=hN σ3 H3 n3
   exact⟨m',hm,σ3,H3,I3,w3⟩
  |brk=>exact q3
  |ret v=>exact q3
 |false =>
  rw[if_neg Bool.false_ne_true]
  exact wpAny_execs_nil ⟨σ1,H2,I2,q2⟩
end
structure It where
 go:Nat->Hp->Prop
 yld:Nat->Hp->V->Hp->Prop
 stop:Nat->Hp->Prop
noncomputable def FpOk(X:Cx)(pins:List (Addr×Obj))(H:Hp)(b:Addr):Prop:=
 H b=none/\b≠X.env.locals/\b∉X.fs/\(b∈X.ex∨X.s₀.heap.objs.size<=b)/\(∀x c,X.env.cells.lookup x=some c->c≠b)/\∀p∈X.pn++pins,p.1≠b
theorem Inv.fpOk{X:Cx}{pins:List (Addr×Obj)}{σ:St}{H H':Hp}{s:Shared}{b:Addr}(I:Inv X pins σ H s)(hb:s.heap.objs.size<=b)(hn:H' b=none):FpOk X pins H' b:=by
 refine⟨hn,Nat.ne_of_gt (Nat.lt_of_lt_of_le I.lt hb),I.nofs hb,.inr (Nat.le_trans I.sz hb),λx c e z=>?_,λp hp z=>?_⟩
 ·obtain⟨v,q⟩:=I.cell x c e
  exact absurd (Nat.lt_of_lt_of_le q.lt (by rw[z];exact hb)) (Nat.lt_irrefl _)
 ·exact absurd (Nat.lt_of_lt_of_le (Heap.lt_size (I.pin p hp).1) (by rw[z];exact hb)) (Nat.lt_irrefl _)
structure Turn (P:Program) (w:World) (K:Frag) (tg:Expr) (J:It) (fp:List Addr) (it:Addr) (tn:Nat->Heap->Prop):Prop where
 mem:it∈fp
 obj:∀i h,tn i h->∀b∈fp,∃o,h.get? b=some o/\∀v,o.data≠.cell v
 keep:∀i h h',tn i h->(∀b∈fp,∀o,h.get? b=some o->h'.get? b=some o)->tn i h'
 item:∀(X:Cx),X.prog=P->X.w=w->X.K=K->X.calm=true->∀(i:Nat) (pins:List (Addr×Obj)) (s:Shared) (σ:St) (H:Hp) (E:Value->Shared->Prop),Inv X pins σ H s->(∀b∈fp,FpOk X pins H b)->tn i s.heap->J.go i H ->
  wpAny (model P w) X.A (pyNext (.ref it)) (λr s1=>∃u,r=some u /\
   wpAny (model P w) X.A (letOwnedTupleGo tg (.ref it) u) (λ_ s2=>∃x H',Inv X pins σ H' s2/\RelV x u/\J.yld i H x H'/\tn (i+1) s2.heap/\∀b∈fp,H' b=none) E s1) E s
 done:∀(X:Cx),X.prog=P->X.w=w->X.K=K->X.calm=true->∀(i:Nat) (pins:List (Addr×Obj)) (s:Shared) (σ:St) (H:Hp) (E:Value->Shared->Prop),Inv X pins σ H s->(∀b∈fp,FpOk X pins H b)->tn i s.heap->J.stop i H ->
  wpAny (model P w) X.A (pyNext (.ref it)) (λr s1=>r=none/\Inv X pins σ H s1) E s
 self:∀(A:Around) (i:Nat) (s:Shared) (Q:Value->Shared->Prop) (E:Value->Shared->Prop),tn i s.heap->Q (.ref it) s->wpAny (model P w) A (pyIter (.ref it)) Q E s
noncomputable abbrev TI:=St->Hp->(It->Hp->Prop)->Prop
noncomputable def PIE(X:Cx)(pins:List (Addr×Obj))(σ:St)(tg:Expr)(R:It->Hp->Prop)(itv:Value)(s2:Shared):Prop:=
 ∃(it:Addr) (fp:List Addr) (tn:Nat->Heap->Prop) (J:It) (H':Hp),itv=.ref it/\Inv X pins σ H' s2/\Turn X.prog X.w X.K tg J fp it tn/\tn 0 s2.heap/\(∀b∈fp,FpOk X pins H' b)/\R J H'
noncomputable def PI(X:Cx)(tg iter:Expr)(wi:TI):Prop:=
 ∀(pins:List (Addr×Obj)) (s:Shared) (σ:St) (H:Hp) (R:It->Hp->Prop),Inv X pins σ H s->wi σ H R ->
  wpAny (model X.prog X.w) X.A (eval iter X.env) (λv s1=>wpAny (model X.prog X.w) X.A (pyIter v) (PIE X pins σ tg R) X.xe s1) X.xe s
theorem Zkx{M:Model}{A:Around}{E:Value->Shared->Prop}{s:Shared}{tg:Expr}{it:Addr}{u:Value}{o:Obj}{n:String}{vs:Array Value}{Q:Unit->Shared->Prop}(ho:s.heap.get? it=some o)(hc:o.cls=.type n)(hd:o.data=.fields vs)(hn:["enumerate","zip","dict_itemiterator","dict_reverseitemiterator","odict_iterator","itertools.zip_longest","itertools.pairwise"].contains n=false)(hQ:Q () s):wpAny M A (letOwnedTupleGo tg (.ref it) u) Q E s:=by
 unfold letOwnedTupleGo
 cases tg<;>first
  |exact wpAny_pure hQ
  |(cases u<;>first
   |exact wpAny_pure hQ
   |(
    refine wpAny_bind (wpAny_load ho ?_)
    rw[hc,hd]
    show wpAny M A (if(["enumerate","zip","dict_itemiterator","dict_reverseitemiterator","odict_iterator","itertools.zip_longest","itertools.pairwise"].contains n&&vs[0]?==some (rawInt _))=true then _ else _) Q E s
    rw[if_neg (by intro h;rw[hn,Bool.false_and]at h;cases h)]
    exact wpAny_pure hQ))
noncomputable def Itl(K:Frag)(a:Addr):It:=
 ⟨λi H=>∃xs x,SqL K H a xs/\xs[i]?=some x,λi H x H'=>H'=H/\∀xs,SqL K H a xs->xs[i]?=some x,λi H=>∃xs,SqL K H a xs/\xs.length<=i⟩
noncomputable def Itt(K:Frag)(a:Addr):It:=
 ⟨λi H=>∃xs x,SqT K H a xs/\xs[i]?=some x,λi H x H'=>H'=H/\∀xs,SqT K H a xs->xs[i]?=some x,λi H=>∃xs,SqT K H a xs/\xs.length<=i⟩
noncomputable def Itr(lo:Int)(n:Nat):It:=⟨λi _=>i<n,λi H x H'=>H'=H/\x=.int (lo+i),λi _=>n<=i⟩
theorem Zd5{P:Program}{w:World}{K:Frag}{tg:Expr}(a it:Addr):Turn P w K tg (Itl K a) [it] it (λi h=>h.IsListIter it a i) where
 mem:=by simp
 obj:=λi h st b hb=>by
  have e:b=it:=by simpa using hb
  subst e
  obtain⟨o,e,c,d⟩:=st
  exact⟨o,e,λv z=>by rw[d]at z;cases z⟩
 keep:=λi h h' st k=>st.at λo e=>k it (by simp) o e
 item:=by
  intro X hP hw hK hc i pins s σ H E I hf st hg
  subst hP hw hK
  obtain⟨xs,x,hq,hx⟩:=hg
  obtain⟨its,rv,p,hz⟩:=I.list hq
  obtain⟨u,hu,ru⟩:=rv.get hx
  obtain⟨f0,f1,f2,f3,f4,f5⟩:=hf it (by simp)
  refine wpAny_pyNext_list_item st p.isList (x:=u) (by simpa using hu) λh' st' sb=>?_
  have I1:Inv X pins σ H { s with heap:=h' }:=I.turned (t':=s.toks) (λb o hb e=>(sb.2 b hb).trans e) f0 f1 f3 f4 f5
  obtain⟨o,e,c,d⟩:=id st'
  exact⟨u,rfl,Zkx (s:={ s with heap:=h' }) e c d (by decide) ⟨x,H,I1,ru,⟨rfl,λys hy=>by rw[I.list_inj hy hq];exact hx⟩,st',λb hb=>(hf b hb).1⟩⟩
 done:=by
  intro X hP hw hK hc i pins s σ H E I hf st hg
  subst hP hw hK
  obtain⟨xs,hq,hx⟩:=hg
  obtain⟨its,rv,p,hz⟩:=I.list hq
  obtain⟨f0,f1,f2,f3,f4,f5⟩:=hf it (by simp)
  have hl:=rv.length
  exact wpAny_pyNext_list_end (I.ok.hd hc) st p.isList (by simp;omega) λh' eb=>⟨rfl,I.turned (t':=s.toks) (λb o hb e=>eb b o hb e) f0 f1 f3 f4 f5⟩
 self:=λ_ _ _ _ _ st h=>wpAny_pyIter_listiter st h
theorem ZgB{P:Program}{w:World}{K:Frag}{tg:Expr}(a it:Addr):Turn P w K tg (Itt K a) [it] it (λi h=>h.IsTupleIter it a i) where
 mem:=by simp
 obj:=λi h st b hb=>by
  have e:b=it:=by simpa using hb
  subst e
  obtain⟨o,e,c,d⟩:=st
  exact⟨o,e,λv z=>by rw[d]at z;cases z⟩
 keep:=λi h h' st k=>st.at λo e=>k it (by simp) o e
 item:=by
  intro X hP hw hK hc i pins s σ H E I hf st hg
  subst hP hw hK
  obtain⟨xs,x,hq,hx⟩:=hg
  obtain⟨its,rv,p,hz⟩:=I.tuple hq
  obtain⟨u,hu,ru⟩:=rv.get hx
  obtain⟨f0,f1,f2,f3,f4,f5⟩:=hf it (by simp)
  refine wpAny_pyNext_tuple_item st (show s.heap.IsTuple a its.toArray from p) (x:=u) (by simpa using hu) λh' st' sb=>?_
  have I1:Inv X pins σ H { s with heap:=h' }:=I.turned (t':=s.toks) (λb o hb e=>(sb.2 b hb).trans e) f0 f1 f3 f4 f5
  obtain⟨o,e,c,d⟩:=id st'
  exact⟨u,rfl,Zkx (s:={ s with heap:=h' }) e c d (by decide) ⟨x,H,I1,ru,⟨rfl,λys hy=>by rw[I.tuple_inj hy hq];exact hx⟩,st',λb hb=>(hf b hb).1⟩⟩
 done:=by
  intro X hP hw hK hc i pins s σ H E I hf st hg
  subst hP hw hK
  obtain⟨xs,hq,hx⟩:=hg
  obtain⟨its,rv,p,hz⟩:=I.tuple hq
  obtain⟨f0,f1,f2,f3,f4,f5⟩:=hf it (by simp)
  have hl:=rv.length
  exact wpAny_pyNext_tuple_end (I.ok.hd hc) st (show s.heap.IsTuple a its.toArray from p) (by simp;omega) λh' eb=>⟨rfl,I.turned (t':=s.toks) (λb o hb e=>eb b o hb e) f0 f1 f3 f4 f5⟩
 self:=λ_ _ _ _ _ st h=>wpAny_pyIter_tupleiter st h
theorem ZgC{P:Program}{w:World}{K:Frag}{tg:Expr}(it:Addr)(lo:Int)(n:Nat):Turn P w K tg (Itr lo n) [it] it (λi h=>IsRangeIter h it (lo+(i:Nat)*1) ((n:Int)-(i:Nat)) 1) where
 mem:=by simp
 obj:=λi h st b hb=>by
  have e:b=it:=by simpa using hb
  subst e
  exact⟨_,st,λv z=>by
   have z':Data.fields _=Data.cell v:=z
   cases z'⟩
 keep:=λi h h' st k=>k it (by simp) _ st
 item:=by
  intro X hP hw hK hc i pins s σ H E I hf st hg
  subst hP hw hK
  obtain⟨f0,f1,f2,f3,f4,f5⟩:=hf it (by simp)
  have W:=Walks.range (prog:=X.prog) (w:=X.w) (I.ok.hd hc) it lo 1 n
  refine W.item i s _ _ hg st λv h' tk hv st' kk=>?_
  obtain⟨t,rfl⟩:=hv
  have I1:Inv X pins σ H { s with heap:=h',toks:=tk }:=I.turned (λb o hb e=>kk b o (by simpa using hb) e) f0 f1 f3 f4 f5
  refine⟨_,rfl,Zkx (s:={ s with heap:=h',toks:=tk }) (n:="range_iterator") st' rfl rfl (by decide) ⟨.int (lo+i),H,I1,⟨t,?_⟩,⟨rfl,rfl⟩,st',λb hb=>(hf b hb).1⟩⟩
  rw[Int.mul_one]
 done:=by
  intro X hP hw hK hc i pins s σ H E I hf st hg
  subst hP hw hK
  obtain⟨f0,f1,f2,f3,f4,f5⟩:=hf it (by simp)
  exact wpAny_pyNext_range_end (I.ok.hd hc) st (by have:n<=i:=hg;omega) λh' eb=>⟨rfl,I.turned (t':=s.toks) (λb o hb e=>eb b o hb e) f0 f1 f3 f4 f5⟩
 self:=λ_ _ _ _ _ st h=>wpAny_pyIter_rangeiter st h
section
variable{X:Cx}{tg:Expr}
noncomputable def Zm0(K:Frag)(tl:TE):TI:=λσ H R=>tl σ H λx H1=>∃a,x=.ref a/\(∃xs,SqL K H1 a xs)/\R (Itl K a) H1
theorem Zmc{l:Expr}{tl:TE}(hl:PE X l tl):PI X tg l (Zm0 X.K tl):=by
 intro pins s σ H R I h
 refine thn (hl pins s σ H _ I h) λv s1 ⟨x,H1,I1,r1,q1⟩=>?_
 obtain⟨a,e,⟨xs,hq⟩,q⟩:=q1
 subst e
 cases r1
 obtain⟨its,rv,p,hz⟩:=I1.list hq
 refine wpAny_pyIter_list p.isList ?_
 refine⟨s1.heap.objs.size,[s1.heap.objs.size],_,_,H1,rfl,I1.kept (t':=s1.toks) λb o e=>Heap.get?_push_of_some _ e,Zd5 a _,⟨_,Heap.get?_push_size _ rfl,rfl,rfl⟩,λb hb=>?_,q⟩
 have e:b=s1.heap.objs.size:=by simpa using hb
 subst e
 exact I1.fpOk (Nat.le_refl _) (I1.hok.fresh (Nat.le_refl _))
theorem ZjP{pins:List (Addr×Obj)}{σ:St}{H:Hp}{s:Shared}{R:It->Hp->Prop}{E:Value->Shared->Prop}{lo hi:Int}{t u v:Tok}{tk:Nat}(I:Inv X pins σ H s)(h1:-(2^62)<=lo)(h2:lo<2^62)(h3:-(2^62)<=hi)(h4:hi<2^62)(q:R (Itr lo (hi-lo).toNat) H):wpAny (model X.prog X.w) X.A (pyIter (.ref s.heap.objs.size)) (PIE X pins σ tg R) E { s with heap:=s.heap.push { cls:=.type "range",data:=.fields #[.int lo t,.int hi u,.int 1 v] },toks:=tk }:=by
 refine wpAny_pyIter_range (IsRange.new ..) (small_one h1 h2 h3 h4) ?_
 have I1:Inv X pins σ H { s with heap:=s.heap.push { cls:=.type "range",data:=.fields #[.int lo t,.int hi u,.int 1 v] },toks:=tk }:=I.kept λb o e=>Heap.get?_push_of_some _ e
 refine⟨(s.heap.push { cls:=.type "range",data:=.fields #[.int lo t,.int hi u,.int 1 v] }).objs.size,[(s.heap.push { cls:=.type "range",data:=.fields #[.int lo t,.int hi u,.int 1 v] }).objs.size],_,_,H,rfl,
  I1.kept (t':=tk) λb o e=>Heap.get?_push_of_some _ e,ZgC _ lo (hi-lo).toNat,?_,λb hb=>?_,q⟩
 ·have e1:lo+((0:Nat):Int)*1=lo:=by simp
  have e2:(((hi-lo).toNat:Nat):Int)-((0:Nat):Int)=Builtin.Range.rangeSize lo hi 1:=by rw[rangeSize_one];split<;>omega
  show IsRangeIter _ _ (lo+((0:Nat):Int)*1) ((((hi-lo).toNat:Nat):Int)-((0:Nat):Int)) 1
  rw[e1,e2]
  exact Heap.get?_push_size _ rfl
 ·have e:b=(s.heap.push { cls:=.type "range",data:=.fields #[.int lo t,.int hi u,.int 1 v] }).objs.size:=by simpa using hb
  subst e
  exact I1.fpOk (Nat.le_refl _) (I1.hok.fresh (Nat.le_refl _))
noncomputable def iRng1(ta:TA):TI:=λσ H R=>ta σ H λvs H1=>∃j:Int,vs=[.int j]/\-(2^62)<=j/\j<2^62/\R (Itr 0 j.toNat) H1
theorem Zie{a:Expr}{ta:TA}{p pos:Pos}(hg:Gl X "range")(hm:X.mg "range" = none)(ha:PA X [a] ta)(hs:starEach [a] X.env=[(false,eval a X.env)]:=by rfl):PI X tg (.Call (.Name "range" p) [a] [] pos) (iRng1 ta):=by
 intro pins s σ H R I h
 refine Call_ (ZeE I hg hm boot_range (PyProof.Rows.callWith_type1 (thn (ha pos pins s σ H _ I h) λus s1 ⟨vs,H1,I1,r1,q1⟩=>?_) hs rfl))
 obtain⟨j,e,q1,q2,q⟩:=q1
 subst e
 cases r1 with
 |cons r rr =>
  cases rr
  obtain⟨t,rfl⟩:=r
  exact call_range_1 (ZjP I1 (by omega) (by omega) q1 q2 (by simpa using q))
noncomputable def tFor(wi:TI)(g:TG)(tb:TS):TS:=λD σ H=>wi σ H λJ H1=>∃W:Nat->Nat->St->Hp->Prop,(∃m,W 0 m σ H1)/\∀i m σ H,W i m σ H ->
 (J.stop i H/\D.nx σ H)∨(J.go i H/\∃N:St->Hp->Prop,(∀σ' H',N σ' H'->∃m',m'<m/\W (i+1) m' σ' H')/\∀x H',J.yld i H x H'->g x σ H' λσ2 H2=>tb { D with nx:=N,ct:=N,bk:=D.nx } σ2 H2)
noncomputable def Zaa(fp:List Addr)(h:Heap):List (Addr×Obj):=fp.filterMap λb=>(h.get? b).map λo=>(b,o)
theorem Z7{fp:List Addr}{h:Heap}{b:Addr}{o:Obj}(hb:b∈fp)(e:h.get? b=some o):(b,o)∈Zaa fp h:=List.mem_filterMap.mpr ⟨b,hb,by rw[e];rfl⟩
theorem Zey{fp:List Addr}{h:Heap}{p:Addr×Obj}(hp:p∈Zaa fp h):p.1∈fp/\h.get? p.1=some p.2:=by
 obtain⟨b,hb,e⟩:=List.mem_filterMap.mp hp
 cases q:h.get? b with
 |none=>rw[q]at e;cases e
 |some o =>
  rw[q]at e
  have e':(b,o)=p:=Option.some.inj e
  subst e'
  exact⟨hb,q⟩
theorem Inv.pinned{pins:List (Addr×Obj)}{σ:St}{H:Hp}{s:Shared}{fp:List Addr}(I:Inv X pins σ H s)(hf:∀b∈fp,FpOk X pins H b)(ho:∀b∈fp,∃o,s.heap.get? b=some o/\∀v,o.data≠.cell v):Inv X (pins++Zaa fp s.heap) σ H s:=
 I.pins_of λp hp=>(List.mem_append.mp hp).elim (λz=>I.pin p (List.mem_append_right _ z)) λz=>by
  obtain⟨hb,e⟩:=Zey z
  obtain⟨f0,f1,f2,_⟩:=hf p.1 hb
  obtain⟨o,e',d⟩:=ho p.1 hb
  rw[e]at e';cases e'
  exact⟨e,f0,f1,f2,d⟩
theorem Inv.unpinned{pins pl:List (Addr×Obj)}{σ:St}{H:Hp}{s:Shared}(I:Inv X (pins++pl) σ H s):Inv X pins σ H s:=I.pins_of λp hp=>I.pin p (List.mem_append_right _ (List.mem_append_left _ hp))
theorem Zk8{iter:Expr}{body:List Stmt}{wi:TI}{g:TG}{tb:TS}{pos:Pos}(hp:PassesOwn (model X.prog X.w) X.A X.env X.xe)(hc:X.calm=true)(hi:PI X tg iter wi)(hg:PG X tg g)(hb:PSs X body tb)(hs:∀x,foldedSetIterable iter X.env x=pure x:=by intro _;rfl):PS X (.For tg iter body [] pos) (tFor wi g tb):=by
 intro pins s σ H D I h
 refine wpAny_For (thn (hi pins s σ H _ I h) λv s1 h1=>thn h1 λitv s2 h2=>?_) hs
 obtain⟨it,fp,tn,J,H2,e,I2,T,st2,f2,W,⟨m0,w0⟩,turn⟩:=h2
 subst e
 -- what stays true of the iterator's objects through the loop
 have stat:∀{H':Hp},(∀b∈fp,H' b=none)->∀b∈fp,FpOk X pins H' b:=λhn b hb=>⟨hn b hb,(f2 b hb).2⟩
 refine codeAny_forLoop_any (λn s'=>∃i σ' H',Inv X pins σ' H' s'/\tn i s'.heap/\(∀b∈fp,H' b=none)/\W i n σ' H') ?_ m0 ⟨0,σ,H2,I2,st2,λb hb=>(f2 b hb).1,w0⟩
 rintro n s3 ⟨i,σ3,H3,I3,st3,fr3,w3⟩
 rcases turn i n σ3 H3 w3 with⟨stop,qn⟩|⟨go,N,hN,step⟩
 ·refine wpAny_passesOwn hp (thn (T.done X rfl rfl rfl hc i pins s3 σ3 H3 X.xe I3 (stat fr3) st3 stop) λr s4 ⟨hr,I4⟩=>?_)
  subst hr
  exact wpAny_execs_nil ⟨σ3,H3,I4,qn⟩
 ·refine wpAny_passesOwn hp (thn (T.item X rfl rfl rfl hc i pins s3 σ3 H3 X.xe I3 (stat fr3) st3 go) λr s4 ⟨u,hr,h4⟩=>?_)
  subst hr
  refine wpAny_passesOwn hp (thn h4 λ_ s5 ⟨x,H5,I5,r5,y5,st5,fr5⟩=>?_)
  have I5':=I5.pinned (stat fr5) (T.obj _ _ st5)
  refine wpAny_passesOwn hp (thn (hg _ s5 σ3 H5 x u _ I5' r5 (step x H5 y5)) λ_ s6 ⟨σ6,H6,I6,q6⟩=>?_)
  refine wpAny_passesOwn hp (thn (hb _ s6 σ6 H6 _ I6 q6) λf s7 q7=>?_)
  have again:∀{σ7:St}{H7:Hp},Inv X (pins++Zaa fp s5.heap) σ7 H7 s7->N σ7 H7->∃m,m<n/\∃i σ' H',Inv X pins σ' H' s7/\tn i s7.heap/\(∀b∈fp,H' b=none)/\W i m σ' H':=λ{σ7 H7} I7 n7=>by
   obtain⟨m',hm,w7⟩:=hN σ7 H7 n7
   refine⟨m',hm,i+1,σ7,H7,I7.unpinned,T.keep _ _ _ st5 λb hb o e=>(I7.pin (b,o) (List.mem_append_right _ (List.mem_append_right _ (Z7 hb e)))).1,λb hb=>?_,w7⟩
   obtain⟨o,e,d⟩:=T.obj _ _ st5 b hb
   exact(I7.pin (b,o) (List.mem_append_right _ (List.mem_append_right _ (Z7 hb e)))).2.1
  cases f with
  |next=>obtain⟨σ7,H7,I7,n7⟩:=q7;exact again I7 n7
  |cont=>obtain⟨σ7,H7,I7,n7⟩:=q7;exact again I7 n7
  |brk=>obtain⟨σ7,H7,I7,q7⟩:=q7;exact⟨σ7,H7,I7.unpinned,q7⟩
  |ret v=>obtain⟨x7,σ7,H7,I7,r7,q7⟩:=q7;exact⟨x7,σ7,H7,I7.unpinned,r7,q7⟩
end
theorem Zky{K:Frag}{a:Addr}{xs:List V}{g:TG}{tb:TS}{D:Ends}{σ:St}{H:Hp}(Pv:Nat->St->Hp->Prop)(h0:Pv 0 σ H)(hl:∀i σ H,i<=xs.length->Pv i σ H->SqL K H a xs)(hs:∀i x σ H,xs[i]?=some x->Pv i σ H->g x σ H λσ2 H2=>tb { D with nx:=Pv (i+1),ct:=Pv (i+1),bk:=D.nx } σ2 H2)(hd:∀σ H,Pv xs.length σ H->D.nx σ H):
  ∃W:Nat->Nat->St->Hp->Prop,(∃m,W 0 m σ H)/\∀i m σ H,W i m σ H ->
   ((Itl K a).stop i H/\D.nx σ H)∨((Itl K a).go i H/\∃N:St->Hp->Prop,(∀σ' H',N σ' H'->∃m',m'<m/\W (i+1) m' σ' H')/\∀x H',(Itl K a).yld i H x H'->g x σ H' λσ2 H2=>tb { D with nx:=N,ct:=N,bk:=D.nx } σ2 H2):=by
 refine⟨λi m σ H=>m=xs.length-i/\i<=xs.length/\Pv i σ H,⟨xs.length,by simp,Nat.zero_le _,h0⟩,?_⟩
 rintro i m σ H ⟨rfl,hi,p⟩
 have q:=hl i σ H hi p
 by_cases hlt:i<xs.length
 ·refine .inr ⟨⟨xs,xs[i],q,by simp[hlt]⟩,Pv (i+1),λσ' H' p'=>⟨xs.length-(i+1),by omega,rfl,hlt,p'⟩,λx H' y=>?_⟩
  obtain⟨e,y⟩:=y
  subst e
  exact hs i x σ _ (y xs q) p
 ·have e:i=xs.length:=by omega
  subst e
  exact .inl ⟨⟨xs,q,Nat.le_refl _⟩,hd σ H p⟩
noncomputable abbrev R2:=V->V->Hp->VK->Prop
noncomputable def OpR(X:Cx)(f:Value->Value->Sem Value)(r:R2):Prop:=
 ∀(pins:List (Addr×Obj)) (s:Shared) (σ:St) (H:Hp) (x y:V) (v u:Value) (Q:VK),Inv X pins σ H s->RelV x v->RelV y u->r x y H Q ->
  wpAny (model X.prog X.w) X.A (f v u) (EP X pins σ Q) X.xe s
noncomputable def UnR(X:Cx)(f:Value->Sem Value)(r:V->Hp->VK->Prop):Prop:=
 ∀(pins:List (Addr×Obj)) (s:Shared) (σ:St) (H:Hp) (x:V) (v:Value) (Q:VK),Inv X pins σ H s->RelV x v->r x H Q ->
  wpAny (model X.prog X.w) X.A (f v) (EP X pins σ Q) X.xe s
noncomputable def ZaT(X:Cx)(f:Value)(r:List V->Hp->VK->Prop):Prop:=
 ∀(pins:List (Addr×Obj)) (s:Shared) (σ:St) (H:Hp) (xs:List V) (us:List Value) (Q:VK),Inv X pins σ H s->Vals xs us->r xs H Q ->
  wpAny (model X.prog X.w) X.A (call f us) (EP X pins σ Q) X.xe s
noncomputable def TruR(X:Cx)(r:V->Hp->(Bool->Hp->Prop)->Prop):Prop:=
 ∀(pins:List (Addr×Obj)) (s:Shared) (σ:St) (H:Hp) (x:V) (v:Value) (Q:Bool->Hp->Prop),Inv X pins σ H s->RelV x v->r x H Q ->
  wpAny (model X.prog X.w) X.A (truthy v) (TP X pins σ Q) X.xe s
noncomputable def tOp(r:R2)(ta tb:TE):TE:=λσ H Q=>ta σ H λx H1=>tb σ H1 λy H2=>r x y H2 Q
noncomputable def tUn(r:V->Hp->VK->Prop)(ta:TE):TE:=λσ H Q=>ta σ H λx H1=>r x H1 Q
noncomputable def rI(C:Int->Int->Prop)(g:Int->Int->V):R2:=λx y H Q=>∃i j,x=.int i/\y=.int j/\C i j/\Q (g i j) H
noncomputable def rI0(g:Int->Int->V):R2:=λx y H Q=>∃i j,x=.int i/\y=.int j/\Q (g i j) H
noncomputable def rU(g:Int->V):V->Hp->VK->Prop:=λx H Q=>∃i,x=.int i/\Q (g i) H
section
variable{X:Cx}{a b c:Expr}{ta tb tc:TE}{pos:Pos}
theorem binT(ha:PE X a ta)(hb:PE X b tb){pins:List (Addr×Obj)}{s:Shared}{σ:St}{H:Hp}{R:V->V->Hp->Prop}(I:Inv X pins σ H s)(h:ta σ H λx H1=>tb σ H1 λy H2=>R x y H2){Q:Value->Shared->Prop}{f:Value->Value->Sem Value}(hf:∀v u s2 x y H2,Inv X pins σ H2 s2->RelV x v->RelV y u->R x y H2->wpAny (model X.prog X.w) X.A (f v u) Q X.xe s2):
  wpAny (model X.prog X.w) X.A (eval a X.env) (λv s₁=>wpAny (model X.prog X.w) X.A (eval b X.env) (λu s₂=>wpAny (model X.prog X.w) X.A (f v u) Q X.xe s₂) X.xe s₁) X.xe s:=by
 refine thn (ha pins s σ H _ I h) λv s1 ⟨x,H1,I1,r1,q1⟩=>?_
 refine thn (hb pins s1 σ H1 _ I1 q1) λu s2 ⟨y,H2,I2,r2,q2⟩=>?_
 exact hf v u s2 x y H2 I2 r1 r2 q2
theorem pe_op{op:Operator}{r:R2}(ho:OpR X (binaryOp op) r)(ha:PE X a ta)(hb:PE X b tb):PE X (.BinOp a op b pos) (tOp r ta tb):=by
 intro pins s σ H Q I h
 exact wpAny_BinOp (binT ha hb I h λv u s2 x y H2 I2 rx ry q=>ho pins s2 σ H2 x y v u Q I2 rx ry q)
theorem pe_un{op:UnaryOp}{r:V->Hp->VK->Prop}(ho:UnR X (unaryOp op) r)(ha:PE X a ta):PE X (.UnaryOp op a pos) (tUn r ta):=by
 intro pins s σ H Q I h
 exact UnaryOp_ (thn (ha pins s σ H _ I h) λv s1 ⟨x,H1,I1,r1,q1⟩=>ho pins s1 σ H1 x v Q I1 r1 q1)
theorem opI{f:Value->Value->Sem Value}{C:Int->Int->Prop}{g:Int->Int->Int}(rule:∀(i j:Int) (t u:Tok) (s:Shared) (Q:Value->Shared->Prop) (E:Value->Shared->Prop),C i j->Q (.int (g i j) s.toks) { s with toks:=s.toks+1 }->wpAny (model X.prog X.w) X.A (f (.int i t) (.int j u)) Q E s):
  OpR X f (rI C λi j=>.int (g i j)):=by
 intro pins s σ H x y v u Q I rx ry h
 obtain⟨i,j,rfl,rfl,hc,q⟩:=h
 obtain⟨t,rfl⟩:=rx
 obtain⟨t',rfl⟩:=ry
 exact rule i j t t' s _ _ hc ⟨.int (g i j),H,I.tok _,⟨_,rfl⟩,q⟩
theorem opI0{f:Value->Value->Sem Value}{g:Int->Int->Int}(rule:∀(i j:Int) (t u:Tok) (s:Shared) (Q:Value->Shared->Prop) (E:Value->Shared->Prop),Q (.int (g i j) s.toks) { s with toks:=s.toks+1 }->wpAny (model X.prog X.w) X.A (f (.int i t) (.int j u)) Q E s):
  OpR X f (rI0 λi j=>.int (g i j)):=by
 intro pins s σ H x y v u Q I rx ry h
 obtain⟨i,j,rfl,rfl,q⟩:=h
 obtain⟨t,rfl⟩:=rx
 obtain⟨t',rfl⟩:=ry
 exact rule i j t t' s _ _ ⟨.int (g i j),H,I.tok _,⟨_,rfl⟩,q⟩
theorem opB0{f:Value->Value->Sem Value}{g:Int->Int->Bool}(rule:∀(i j:Int) (t u:Tok) (s:Shared) (Q:Value->Shared->Prop) (E:Value->Shared->Prop),Q (.bool (g i j)) s->wpAny (model X.prog X.w) X.A (f (.int i t) (.int j u)) Q E s):
  OpR X f (rI0 λi j=>.bl (g i j)):=by
 intro pins s σ H x y v u Q I rx ry h
 obtain⟨i,j,rfl,rfl,q⟩:=h
 obtain⟨t,rfl⟩:=rx
 obtain⟨t',rfl⟩:=ry
 exact rule i j t t' s _ _ ⟨.bl (g i j),H,I,rfl,q⟩
noncomputable def CDiv(i j:Int):Prop:=0<j/\j<1073741824
noncomputable def CPow(i j:Int):Prop:=0<=j/\j<=1000000/\i.natAbs<2^64
noncomputable def CMul(i j:Int):Prop:=(-(2^64)<i/\i<2^64)∨(-(2^64)<j/\j<2^64)
theorem CMul.ok{i j:Int}(h:CMul i j):IntMulOk i j:=by
 rcases h with⟨h1,h2⟩|⟨h1,h2⟩
 ·exact .of_left (intBits_le_64 h1 h2)
 ·exact .of_right (intBits_le_64 h1 h2)
theorem op_add:OpR X (binaryOp .Add) (rI0 λi j=>.int (i+j)):=opI0 λ_ _ _ _ _ _ _ q=>add_int q
theorem op_sub:OpR X (binaryOp .Sub) (rI0 λi j=>.int (i-j)):=opI0 λ_ _ _ _ _ _ _ q=>sub_int q
theorem ZmI:OpR X (binaryOp .FloorDiv) (rI CDiv λi j=>.int (i / j)):=opI λi j _ _ _ _ _ hc q=>by
 have h1:(0:Int)<j:=hc.1
 have h2:j<1073741824:=hc.2
 exact floordiv_int (by omega) (by rw[Int.fdiv_eq_ediv_of_nonneg i (by omega)];exact q) (.inl (PyProof.noPylong_small (by omega)))
theorem op_mod:OpR X (binaryOp .Mod) (rI (λ_ j=>0<j) λi j=>.int (i%j)):=opI λi j _ _ _ _ _ hc q=>by
 have h1:(0:Int)<j:=hc
 exact mod_int' (by omega) (by rw[Int.fmod_eq_emod_of_nonneg i (by omega)];exact q)
theorem op_pow:OpR X (binaryOp .Pow) (rI CPow λi j=>.int (i^j.toNat)):=opI λ_ _ _ _ _ _ _ hc q=>pow_int_small hc.1 hc.2.1 hc.2.2 q
theorem unI{f:Value->Sem Value}{g:Int->Int}(rule:∀(i:Int) (t:Tok) (s:Shared) (Q:Value->Shared->Prop) (E:Value->Shared->Prop),Q (.int (g i) s.toks) { s with toks:=s.toks+1 }->wpAny (model X.prog X.w) X.A (f (.int i t)) Q E s):
  UnR X f (rU λi=>.int (g i)):=by
 intro pins s σ H x v Q I rx h
 obtain⟨i,rfl,q⟩:=h
 obtain⟨t,rfl⟩:=rx
 exact rule i t s _ _ ⟨.int (g i),H,I.tok _,⟨_,rfl⟩,q⟩
theorem un_neg:UnR X (unaryOp .USub) (rU λi=>.int (-i)):=unI λ_ _ _ _ _ q=>neg_int q
end
noncomputable def scal:V->V->Bool
 |.non,.non=>true|.non,.int _=>true|.int _,.non=>true|.non,.bl _=>true|.bl _,.non=>true|.non,.str _=>true|.str _,.non=>true
 |.int _,.int _=>true|.bl _,.bl _=>true|.str _,.str _=>true|.byt _,.byt _=>true
 |.int _,.str _=>true|.str _,.int _=>true|.bl _,.str _=>true|.str _,.bl _=>true
 |_,_=>false
noncomputable def rEq:R2:=λx y H Q=>scal x y=true/\Q (.bl (decide (x=y))) H
noncomputable def rNe:R2:=λx y H Q=>scal x y=true/\Q (.bl (!decide (x=y))) H
theorem ZfM{i j:Int}:decide (V.int i=V.int j)=(i==j):=by
 rw[Bool.eq_iff_iff]
 simp
theorem Zjc{i j:Bool}:decide (V.bl i=V.bl j)=(i==j):=by
 rw[Bool.eq_iff_iff]
 simp
theorem Zja{i j:Str}:decide (V.str i=V.str j)=(i==j):=by
 rw[Bool.eq_iff_iff]
 simp
theorem Zjb{i j:Array UInt8}:decide (V.byt i=V.byt j)=(i.toList==j.toList):=by
 rw[Bool.eq_iff_iff]
 cases i
 cases j
 simp
section
variable{X:Cx}{a b c:Expr}{ta tb tc:TE}{pos:Pos}
theorem ZC{pins:List (Addr×Obj)}{σ:St}{H:Hp}{s:Shared}{Q:VK}{k k':Bool}(I:Inv X pins σ H s)(q:Q (.bl k) H)(e:k=k'):EP X pins σ Q (.bool k') s:=by
 subst e
 exact⟨.bl k,H,I,rfl,q⟩
theorem op_eq:OpR X (compareOp .Eq) rEq:=by
 intro pins s σ H x y v u Q I rx ry h
 obtain⟨hs,q⟩:=h
 cases x with
 |non =>
  cases rx
  cases y with
  |non=>cases ry;exact PySem.EqNone.eq_none_none (ZC I q (by simp))
  |bl j=>cases ry;exact PySem.EqNone.eq_none_bool (ZC I q (by simp))
  |int j=>obtain⟨t',rfl⟩:=ry;exact PySem.EqNone.eq_none_int (ZC I q (by simp))
  |str j=>obtain⟨t',rfl⟩:=ry;exact PySem.EqNone.eq_none_str (ZC I q (by simp))
  |_=>exact absurd (show false=true from hs) Bool.false_ne_true
 |bl i =>
  cases rx
  cases y with
  |non=>cases ry;exact PySem.EqNone.eq_bool_none (ZC I q (by simp))
  |bl j=>cases ry;exact eq_bool (ZC I q Zjc)
  |str j=>obtain⟨t',rfl⟩:=ry;exact PySem.EqMixed.eq_bool_str (ZC I q (by simp))
  |_=>exact absurd (show false=true from hs) Bool.false_ne_true
 |int i =>
  obtain⟨t,rfl⟩:=rx
  cases y with
  |non=>cases ry;exact PySem.EqNone.eq_int_none (ZC I q (by simp))
  |int j=>obtain⟨t',rfl⟩:=ry;exact eq_int (ZC I q ZfM)
  |str j=>obtain⟨t',rfl⟩:=ry;exact PySem.EqMixed.eq_int_str (ZC I q (by simp))
  |_=>exact absurd (show false=true from hs) Bool.false_ne_true
 |str i =>
  obtain⟨t,rfl⟩:=rx
  cases y with
  |non=>cases ry;exact PySem.EqNone.eq_str_none (ZC I q (by simp))
  |bl j=>cases ry;exact PySem.EqMixed.eq_str_bool (ZC I q (by simp))
  |int j=>obtain⟨t',rfl⟩:=ry;exact PySem.EqMixed.eq_str_int (ZC I q (by simp))
  |str j=>obtain⟨t',rfl⟩:=ry;exact eq_str (ZC I q Zja)
  |_=>exact absurd (show false=true from hs) Bool.false_ne_true
 |byt i =>
  obtain⟨t,rfl⟩:=rx
  cases y with
  |byt j=>obtain⟨t',rfl⟩:=ry;exact PySem.W.eq_bytes (ZC I q Zjb)
  |_=>exact absurd (show false=true from hs) Bool.false_ne_true
 |_=>cases y<;>exact absurd (show false=true from hs) Bool.false_ne_true
theorem op_ne:OpR X (compareOp .NotEq) rNe:=by
 intro pins s σ H x y v u Q I rx ry h
 obtain⟨hs,q⟩:=h
 cases x with
 |non =>
  cases rx
  cases y with
  |non=>cases ry;exact PySem.EqNone.ne_none_none (ZC I q (by simp))
  |bl j=>cases ry;exact PySem.EqNone.ne_none_bool (ZC I q (by simp))
  |int j=>obtain⟨t',rfl⟩:=ry;exact PySem.EqNone.ne_none_int (ZC I q (by simp))
  |str j=>obtain⟨t',rfl⟩:=ry;exact PySem.EqNone.ne_none_str (ZC I q (by simp))
  |_=>exact absurd (show false=true from hs) Bool.false_ne_true
 |bl i =>
  cases rx
  cases y with
  |non=>cases ry;exact PySem.EqNone.ne_bool_none (ZC I q (by simp))
  |bl j=>cases ry;exact ne_bool (ZC I q (congrArg not Zjc))
  |str j=>obtain⟨t',rfl⟩:=ry;exact PySem.EqMixed.ne_bool_str (ZC I q (by simp))
  |_=>exact absurd (show false=true from hs) Bool.false_ne_true
 |int i =>
  obtain⟨t,rfl⟩:=rx
  cases y with
  |non=>cases ry;exact PySem.EqNone.ne_int_none (ZC I q (by simp))
  |int j=>obtain⟨t',rfl⟩:=ry;exact ne_int (ZC I q (congrArg not ZfM))
  |str j=>obtain⟨t',rfl⟩:=ry;exact PySem.EqMixed.ne_int_str (ZC I q (by simp))
  |_=>exact absurd (show false=true from hs) Bool.false_ne_true
 |str i =>
  obtain⟨t,rfl⟩:=rx
  cases y with
  |non=>cases ry;exact PySem.EqNone.ne_str_none (ZC I q (by simp))
  |bl j=>cases ry;exact PySem.EqMixed.ne_str_bool (ZC I q (by simp))
  |int j=>obtain⟨t',rfl⟩:=ry;exact PySem.EqMixed.ne_str_int (ZC I q (by simp))
  |str j=>obtain⟨t',rfl⟩:=ry;exact ne_str (ZC I q (congrArg not Zja))
  |_=>exact absurd (show false=true from hs) Bool.false_ne_true
 |byt i =>
  obtain⟨t,rfl⟩:=rx
  cases y with
  |byt j=>obtain⟨t',rfl⟩:=ry;exact PySem.W.ne_bytes (ZC I q (congrArg not Zjb))
  |_=>exact absurd (show false=true from hs) Bool.false_ne_true
 |_=>cases y<;>exact absurd (show false=true from hs) Bool.false_ne_true
theorem op_lt:OpR X (compareOp .Lt) (rI0 λi j=>.bl (decide (i<j))):=opB0 λ_ _ _ _ _ _ _ q=>lt_int q
theorem op_le:OpR X (compareOp .LtE) (rI0 λi j=>.bl (decide (i<=j))):=opB0 λ_ _ _ _ _ _ _ q=>le_int q
theorem op_gt:OpR X (compareOp .Gt) (rI0 λi j=>.bl (decide (j<i))):=opB0 λ_ _ _ _ _ _ _ q=>gt_int q
theorem op_ge:OpR X (compareOp .GtE) (rI0 λi j=>.bl (decide (j<=i))):=opB0 λ_ _ _ _ _ _ _ q=>ge_int q
theorem Zim:OpR X (compareOp .Lt) (λx y H Q=>∃i j,x=.str i/\y=.str j/\Q (.bl (decide (i.cps.toList<j.cps.toList))) H):=by
 intro pins s σ H x y v u Q I rx ry h
 obtain⟨i,j,rfl,rfl,q⟩:=h
 obtain⟨t,rfl⟩:=rx
 obtain⟨t',rfl⟩:=ry
 exact lt_str (ZC I q rfl)
theorem Zin:OpR X (compareOp .In) (λx y H Q=>∃i j,x=.str i/\y=.str j/\Q (.bl (!(Builtin.Str.occurrences j i 0 j.length 1).isEmpty)) H):=by
 intro pins s σ H x y v u Q I rx ry h
 obtain⟨i,j,rfl,rfl,q⟩:=h
 obtain⟨t,rfl⟩:=rx
 obtain⟨t',rfl⟩:=ry
 exact in_str (ZC I q rfl)
theorem op_isN:OpR X (compareOp .Is) (λx y H Q=>y=.non/\Q (.bl (decide (x=.non))) H):=by
 intro pins s σ H x y v u Q I rx ry h
 obtain⟨rfl,q⟩:=h
 cases ry
 refine is_none_gen (ZC I q ?_)
 cases x<;>first
  |(cases rx;rfl)
  |(obtain⟨t,rfl⟩:=rx;rfl)
theorem ZmF:OpR X (compareOp .IsNot) (λx y H Q=>y=.non/\Q (.bl (!decide (x=.non))) H):=by
 intro pins s σ H x y v u Q I rx ry h
 obtain⟨rfl,q⟩:=h
 cases ry
 refine isnot_none_gen (ZC I q ?_)
 cases x<;>first
  |(cases rx;rfl)
  |(obtain⟨t,rfl⟩:=rx;rfl)
theorem Zet:OpR X (compareOp .NotIn) (λx y H Q=>∃i j,x=.str i/\y=.str j/\Q (.bl (!(!(Builtin.Str.occurrences j i 0 j.length 1).isEmpty))) H):=by
 intro pins s σ H x y v u Q I rx ry h
 obtain⟨i,j,rfl,rfl,q⟩:=h
 obtain⟨t,rfl⟩:=rx
 obtain⟨t',rfl⟩:=ry
 exact notIn_str (ZC I q rfl)
theorem Zmw{op:CmpOp}{r:R2}(ho:OpR X (compareOp op) r)(ha:PE X a ta)(hb:PE X b tb)(hm:behindInMarks op b=false):PE X (.Compare a [op] [b] pos) (tOp r ta tb):=by
 intro pins s σ H Q I h
 exact wpAny_Compare1 (binT ha hb I h λv u s2 x y H2 I2 rx ry q=>ho pins s2 σ H2 x y v u Q I2 rx ry q) hm
noncomputable def ZlP(t:TE):TT:=λσ H Q=>t σ H λx H'=>∃k,x=.bl k/\Q k H'
theorem Zl4{op:CmpOp}{r:R2}(ho:OpR X (compareOp op) r)(ha:PE X a ta)(hb:PE X b tb)(hm:behindInMarks op b=false):PT X (.Compare a [op] [b] pos) (ZlP (tOp r ta tb)):=by
 intro pins s σ H Q I h
 refine wpAny_isTrue_Compare1 (thn (ha pins s σ H _ I h) λv s1 ⟨x,H1,I1,r1,q1⟩=>thn (hb pins s1 σ H1 _ I1 q1) λu s2 ⟨y,H2,I2,r2,q2⟩ =>
  thn (ho pins s2 σ H2 x y v u _ I2 r1 r2 q2) λc s3 ⟨z,H3,I3,r3,k,e,q3⟩=>?_) hm
 subst e
 cases r3
 exact wpAny_truthy_bool ⟨H3,I3,q3⟩
noncomputable def ZhH(r r':R2)(ta tb tc:TE):TE:=λσ H Q=>ta σ H λx H1=>tb σ H1 λy H2=>r x y H2 λz H3=>∃k,z=.bl k /\
 (if k=true then tc σ H3 λw' H4=>r' y w' H4 Q else Q (.bl false) H3)
theorem Zkg{op op':CmpOp}{r r':R2}(ho:OpR X (compareOp op) r)(ho':OpR X (compareOp op') r')(ha:PE X a ta)(hb:PE X b tb)(hc:PE X c tc)(hm:lastMarks [op,op'] [b,c]=false:=by with_unfolding_all rfl):PE X (.Compare a [op,op'] [b,c] pos) (ZhH r r' ta tb tc):=by
 intro pins s σ H Q I h
 refine Compare_chain (thn (ha pins s σ H _ I h) λv s1 ⟨x,H1,I1,r1,q1⟩=>chain_link (thn (hb pins s1 σ H1 _ I1 q1) λu s2 ⟨y,H2,I2,r2,q2⟩ =>
  thn (ho pins s2 σ H2 x y v u _ I2 r1 r2 q2) λd s3 ⟨z,H3,I3,r3,k,e,q3⟩=>?_)) hm
 subst e
 cases r3
 refine wpAny_truthy_bool ?_
 cases k with
 |false=>exact ite_ff ⟨.bl false,H3,I3,rfl,q3⟩
 |true=>exact ite_tt (chain_last (thn (hc pins s3 σ H3 _ I3 q3) λw' s4 ⟨z',H4,I4,r4,q4⟩=>ho' pins s4 σ H4 y z' u w' Q I4 r2 r4 q4))
theorem ZjS{op op':CmpOp}{r r':R2}(ho:OpR X (compareOp op) r)(ho':OpR X (compareOp op') r')(ha:PE X a ta)(hb:PE X b tb)(hc:PE X c tc)(hm:lastMarks [op,op'] [b,c]=false:=by with_unfolding_all rfl):PT X (.Compare a [op,op'] [b,c] pos) (ZlP (ZhH r r' ta tb tc)):=by
 intro pins s σ H Q I h
 refine isTrue_chain (thn (ha pins s σ H _ I h) λv s1 ⟨x,H1,I1,r1,q1⟩=>test_link (thn (hb pins s1 σ H1 _ I1 q1) λu s2 ⟨y,H2,I2,r2,q2⟩ =>
  thn (ho pins s2 σ H2 x y v u _ I2 r1 r2 q2) λd s3 ⟨z,H3,I3,r3,k,e,q3⟩=>?_)) hm
 subst e
 cases r3
 refine wpAny_truthy_bool ?_
 cases k with
 |false =>
  obtain⟨k',e',q'⟩:=q3
  cases e'
  exact ite_ff ⟨H3,I3,q'⟩
 |true =>
  refine ite_tt (test_last (thn (hc pins s3 σ H3 _ I3 q3) λw' s4 ⟨z',H4,I4,r4,q4⟩=>thn (ho' pins s4 σ H4 y z' u w' _ I4 r2 r4 q4) λd' s5 ⟨z2,H5,I5,r5,k2,e2,q5⟩=>?_))
  subst e2
  cases r5
  exact wpAny_truthy_bool ⟨H5,I5,q5⟩
noncomputable def TruV(K:Frag)(x:V)(H:Hp)(k:Bool):Prop:=
 match x with
 |.non=>k=false
 |.bl b=>k=b
 |.int i=>k=(i != 0)
 |.str y=>y.length<=sizeLine/\k=((y.length:Int) != 0)
 |.byt y=>y.size<=sizeLine/\k=((y.size:Int) != 0)
 |.ref p=>(∃xs,SqL K H p xs/\k=!xs.isEmpty)∨(∃xs,SqT K H p xs/\k=!xs.isEmpty)∨∃kvs,H p=some (.dK kvs)/\k=!kvs.isEmpty
 |_=>False
theorem Zg9{κ:Type}{kvs:List (κ×V)}{vs:List (κ×Value)}(r:KV kvs vs):(!vs.isEmpty)=!kvs.isEmpty:=by
 cases r<;>rfl
theorem Zc6{xs:List V}{its:List Value}(r:Vals xs its):(!its.toArray.isEmpty)=!xs.isEmpty:=by
 cases r<;>simp
theorem Zc2:(sizeLine:Nat)<2^63:=by rw[sizeLine_eq];decide
theorem tru_ok:TruR X (λx H Q=>∃k,TruV X.K x H k/\Q k H):=by
 intro pins s σ H x v Q I rx h
 obtain⟨k,e,q⟩:=h
 have hl:=Zc2
 have hs:sizeLine=16777216:=sizeLine_eq
 cases x with
 |non =>
  cases rx
  have e':k=false:=e
  subst e'
  exact truthy_none ⟨H,I,q⟩
 |bl b =>
  cases rx
  have e':k=b:=e
  subst e'
  exact wpAny_truthy_bool ⟨H,I,q⟩
 |int i =>
  obtain⟨t,rfl⟩:=rx
  have e':k=(i != 0):=e
  subst e'
  exact PySem.P.truthy_int ⟨H,I,q⟩
 |str y =>
  obtain⟨t,rfl⟩:=rx
  obtain⟨hy,e'⟩:y.length<=sizeLine/\k=((y.length:Int) != 0):=e
  subst e'
  exact PySem.P.truthy_str (by omega) ⟨H,I.tok _,q⟩
 |byt y =>
  obtain⟨t,rfl⟩:=rx
  obtain⟨hy,e'⟩:y.size<=sizeLine/\k=((y.size:Int) != 0):=e
  subst e'
  exact PySem.W.truthy_bytes (by omega) ⟨H,I.tok _,q⟩
 |ref p =>
  cases rx
  have e':(∃xs,SqL X.K H p xs/\k=!xs.isEmpty)∨(∃xs,SqT X.K H p xs/\k=!xs.isEmpty)∨∃kvs,H p=some (.dK kvs)/\k=!kvs.isEmpty:=e
  rcases e' with⟨xs,hx,e'⟩|⟨xs,hx,e'⟩|⟨kvs,hx,e'⟩
  ·subst e'
   obtain⟨its,r,pl,hz⟩:=I.list hx
   have hlen:=r.length
   exact wpAny_truthy_list pl.isList (by simp only[List.size_toArray];omega) ⟨H,I.tok _,by rw[Zc6 r];exact q⟩
  ·subst e'
   obtain⟨its,r,pl,hz⟩:=I.tuple hx
   have hlen:=r.length
   exact truthy_tuple pl (by simp only[List.size_toArray];omega) ⟨H,I.tok _,by rw[Zc6 r];exact q⟩
  ·subst e'
   obtain⟨hz,hS,vs,r,m⟩:kvs.length<=sizeLine/\(p==sysModules)=false/\∃vs,KV kvs vs/\s.heap.DictOf (Zx X.prog X.w) p vs:=I.hok p _ hx
   have hlen:kvs.length=vs.length:=Paired.length r
   exact wpAny_truthy_dict hS m (by omega) ⟨H,I.tok _,by rw[Zg9 r];exact q⟩
 |_=>exact(show False from e).elim
theorem ZjR(ha:PE X a ta)(he:∀whole,isTrue a X.env whole=(do let v <-whole;standAt a.pos;holding [v] (truthy v))):
  PT X a (λσ H Q=>ta σ H λx H'=>∃k,TruV X.K x H' k/\Q k H'):=by
 intro pins s σ H Q I h
 exact isTrue_plain (thn (ha pins s σ H _ I h) λv s1 ⟨x,H1,I1,r1,q1⟩=>tru_ok pins s1 σ H1 x v Q I1 r1 q1) (he _)
theorem ZgZ:OpR X (binaryOp .Add) (λx y H Q=>∃i j,x=.str i/\y=.str j/\i.length+j.length<=sizeLine/\Q (.str (i++j)) H):=by
 intro pins s σ H x y v u Q I rx ry h
 obtain⟨i,j,rfl,rfl,hz,q⟩:=h
 obtain⟨t,rfl⟩:=rx
 obtain⟨t',rfl⟩:=ry
 exact add_str (λt' tk=>⟨.str (i++j),H,I.tok _,⟨_,rfl⟩,q⟩) hz
theorem vals1{x:V}{us:List Value}(r:Vals [x] us):∃u,us=[u]/\RelV x u:=by
 cases r with
 |cons r1 r2=>cases r2;exact⟨_,rfl,r1⟩
theorem vals2{x y:V}{us:List Value}(r:Vals [x,y] us):∃u w',us=[u,w']/\RelV x u/\RelV y w':=by
 cases r with
 |cons r1 r2 =>
  cases r2 with
  |cons r3 r4=>cases r4;exact⟨_,_,rfl,r1,r3⟩
theorem ZeZ:ZaT X (.type "int") (λxs H Q=>(∃i,xs=[.int i]/\Q (.int i) H)∨∃k,xs=[.bl k]/\Q (.int (if k then 1 else 0)) H):=by
 intro pins s σ H xs us Q I r h
 rcases h with⟨i,rfl,q⟩|⟨k,rfl,q⟩
 ·obtain⟨u,rfl,t,rfl⟩:=vals1 r
  exact call_int_int ⟨.int i,H,I,⟨_,rfl⟩,q⟩
 ·obtain⟨u,rfl,r1⟩:=vals1 r
  cases r1
  exact call_int_bool ⟨.int (if k then 1 else 0),H,I.tok _,⟨_,rfl⟩,q⟩
noncomputable def LenV(K:Frag)(x:V)(H:Hp)(n:Nat):Prop:=
 match x with
 |.str y=>y.length<=sizeLine/\n=y.length
 |.byt y=>y.size<=sizeLine/\n=y.size
 |.ref p=>(∃xs,SqL K H p xs/\n=xs.length)∨∃xs,SqT K H p xs/\n=xs.length
 |_=>False
theorem Zb0:ZaT X (.builtin "len") (λxs H Q=>∃x n,xs=[x]/\LenV X.K x H n/\Q (.int n) H):=by
 intro pins s σ H xs us Q I r h
 obtain⟨x,n,rfl,e,q⟩:=h
 obtain⟨u,rfl,rx⟩:=vals1 r
 have hl:=Zc2
 have hs:sizeLine=16777216:=sizeLine_eq
 cases x with
 |str y =>
  obtain⟨t,rfl⟩:=rx
  obtain⟨hy,e'⟩:y.length<=sizeLine/\n=y.length:=e
  subst e'
  exact len_str (by omega) ⟨.int _,H,I.tok _,⟨_,rfl⟩,q⟩
 |byt y =>
  obtain⟨t,rfl⟩:=rx
  obtain⟨hy,e'⟩:y.size<=sizeLine/\n=y.size:=e
  subst e'
  exact PySem.W.len_bytes (by omega) ⟨.int _,H,I.tok _,⟨_,rfl⟩,q⟩
 |ref p =>
  cases rx
  have e':(∃xs,SqL X.K H p xs/\n=xs.length)∨∃xs,SqT X.K H p xs/\n=xs.length:=e
  rcases e' with⟨xs,hx,e'⟩|⟨xs,hx,e'⟩
  ·subst e'
   obtain⟨its,r',pl,hz⟩:=I.list hx
   have hlen:=r'.length
   exact Calls.call_len_list pl.isList (by simp only[List.size_toArray];omega) ⟨.int xs.length,H,I.tok _,⟨_,by simp only[List.size_toArray];rw[hlen]⟩,q⟩
  ·subst e'
   obtain⟨its,r',pl,hz⟩:=I.tuple hx
   have hlen:=r'.length
   exact len_tuple pl (by simp only[List.size_toArray];omega) ⟨.int xs.length,H,I.tok _,⟨_,by simp only[List.size_toArray];rw[hlen]⟩,q⟩
 |_=>exact(show False from e).elim
end
structure ObjM (h:Heap) (x dx C:Addr) (mA:Str->Option Value):Prop where
 obj:h.get? x=some (instObj C dx)
 ns:h.Ns1 dx mA
 ne:dx≠x
theorem ZeD{h:Heap}{dx:Addr}{mA:Str->Option Value}(n:h.Ns1 dx mA):∃od,h.get? dx=some od/\∀name,lookIn name od=some (mA name):=by
 obtain⟨o,es,ep,ho,hd,hk,_,hm⟩:=n
 refine⟨o,ho,λname=>?_⟩
 have e:=hm name
 unfold nsFind findBy at e
 rw[<-Array.find?_toList]at e
 unfold lookIn
 rw[hd]
 dsimp only
 split
 ·rename_i y q
  rw[q]at e
  exact congrArg some e
 ·rename_i q
  rw[q]at e
  have a:es.toList.any (·.refKey)=false:=by
   rw[List.any_eq_false]
   intro y hy
   obtain⟨z,t,hkey⟩:=hk y (Array.mem_toList_iff.mp hy)
   simp[DictEntry.refKey,hkey]
  have a':¬es.toList.any (·.refKey)=true:=by rw[a];exact Bool.false_ne_true
  rw[if_neg a']
  exact congrArg some e
theorem ObjM.look{h:Heap}{x dx C:Addr}{mA:Str->Option Value}(I:ObjM h x dx C mA):∃od,PySem.W.InstAt h x (instObj C dx) C (some od)/\∀name,lookIn name od=some (mA name):=
 let⟨od,ho,hl⟩:=ZeD I.ns
 ⟨od,⟨I.obj,rfl,rfl,ho⟩,hl⟩
theorem RelO.some_of{v:V}{o:Option Value}(r:RelO (some v) o):∃u,o=some u/\RelV v u:=by
 cases o with
 |none=>exact(show False from r).elim
 |some u=>exact⟨u,rfl,r⟩
theorem RelO.none_of{o:Option Value}(r:RelO none o):o=none:=by
 cases o with
 |none=>rfl
 |some u=>exact(show False from r).elim
theorem ZiP{v:V}{u:Value}(r:RelV v u):PySem.W.handedIn u=true:=by
 cases v with
 |non=>cases(show u=Value.none from r);rfl
 |bl b=>cases(show u=Value.bool b from r);rfl
 |int i=>obtain⟨t,e⟩:=(show ∃t,u=Value.int i t from r);cases e;rfl
 |str x=>obtain⟨t,e⟩:=(show ∃t,u=Value.str x t from r);cases e;rfl
 |byt b=>obtain⟨t,e⟩:=(show ∃t,u=Value.bytes b t from r);cases e;rfl
 |flt b=>obtain⟨t,e⟩:=(show ∃t,u=Value.float b t from r);cases e;rfl
 |ref a=>cases(show u=Value.ref a from r);rfl
 |ty n=>cases(show u=Value.type n from r);rfl
section
variable{P:Program}{w:World}{H H':Hp}{h h':Heap}{a C dx:Addr}{fs fs':List (Str×V)}
theorem ZmZ(hok:HOk P w H h)(e:H a=some (.ins C dx fs)):∃mA,ObjM h a dx C mA/\(∀f,RelO (fs.lookup f) (mA f))/\PySem.Within mA (fs.map (·.1))/\fs.length<=1000/\H dx=some (.own a):=by
 obtain⟨d,z,ne,ob,mA,n,r,q⟩:=(show Qc P w H h a (.ins C dx fs)from hok a _ e)
 exact⟨mA,⟨ob,n,ne⟩,r,q,z,d⟩
end
structure Cls (K:Frag) (C:Addr):Prop where
 pg:PySem.W.plainGet K C Str.empty=true
 hd:hasDictIn K C=true
 po:PySem.W.plainOver K C=true
 sa:findIn K (.ref C) "__setattr__" = some (some (.builtin "object.__setattr__"))
theorem Cls.get{K:Frag}{C:Addr}(c:Cls K C)(f:Str):PySem.W.plainGet K C f=true:=c.pg
structure Con (K:Frag) (C:Addr) (f:Str) (v:V) (u:Value):Prop where
 at_:findIn K (.ref C) f=some (some u)
 rel:RelV v u
 get:specialIn K u "__get__" = some none
 cp:PySem.W.copiedNames.contains f=false
structure Meth (K:Frag) (C:Addr) (m:Str) (f:Addr):Prop where
 at_:findIn K (.ref C) m=some (some (.ref f))
 fn:PySem.W.isFn K (.ref f)=true
 kp:keepIn K (.ref f)=true
section
variable{X:Cx}{pins:List (Addr×Obj)}{σ:St}{H:Hp}{s:Shared}{a C dx:Addr}{fs:List (Str×V)}{f:Str}{v:V}{A:Around}{E:Value->Shared->Prop}
theorem Znr{prog:Program}{w:World}{env:Env}{e:Expr}{f:Str}{pos:Pos}{s:Shared}{Q:Value->Shared->Prop}(hb:attributeBase e f env (eval e env)=eval e env)(h:wpAny (model prog w) A (eval e env) (λo s₁=>wpAny (model prog w) A (getAttr o f true) Q E s₁) E s):wpAny (model prog w) A (eval (.Attribute e f pos) env) Q E s:=
 Attribute_any_ h (by rw[arm_eval_Attribute,hb])
end
section
variable{X:Cx}{pins:List (Addr×Obj)}{σ:St}{H:Hp}{s:Shared}{A:Around}{E:Value->Shared->Prop}{Q:Value->Shared->Prop}{c:Value}{b:Bool}
inductive TyOf (K:Frag) (H:Hp):V->Value->Prop where
 |non:TyOf K H .non (.type "NoneType")
 |bl (x:Bool):TyOf K H (.bl x) (.type "bool")
 |int (i:Int):TyOf K H (.int i) (.type "int")
 |str (x:Str):TyOf K H (.str x) (.type "str")
 |flt (x:UInt64):TyOf K H (.flt x) (.type "float")
 |lst {a:Addr}{xs:List V}(e:H a=some (.lst xs)):TyOf K H (.ref a) (.type "list")
 |frz {a:Addr}{o:Obj}{xs:List V}(e:H a=some (.frz o (.lst xs))):TyOf K H (.ref a) (.type "list")
 |tup {a:Addr}{xs:List V}(e:H a=some (.tup xs)):TyOf K H (.ref a) (.type "tuple")
 |dK {a:Addr}{kvs:List (Key×V)}(e:H a=some (.dK kvs)):TyOf K H (.ref a) (.type "dict")
 |dT {a:Addr}{kvs:List (List Key×V)}(e:H a=some (.dT kvs)):TyOf K H (.ref a) (.type "dict")
 |ins {a C dx:Addr}{fs:List (Str×V)}(e:H a=some (.ins C dx fs)) (cl:Cls K C) (ha:findIn K (.ref C) "__class__" = some (some (.builtin "object.__class__")))
  (hn:specialIn K (.builtin "object.__class__") "__get__" = some (some (.builtin "getset_descriptor.__get__"))) (htk:PySem.W.takesIn K (.builtin "object.__class__")=some true)
  (hm:mroIn K C (.type "object")=some true):TyOf K H (.ref a) (.ref C)
theorem Xg{x:V}{u t:Value}(I:Inv X pins σ H s)(rx:RelV x u)(ty:TyOf X.K H x t)(e:kitOne X.K t c=some b)(h:∀tk,Q (.bool b) { s with toks:=tk }):
  wpAny (model X.prog X.w) A (call (.builtin "isinstance") [u,c]) Q E s:=by
 cases ty with
 |non=>cases(show u=Value.none from rx);exact kia_one PySem.W.kitx_none I.kIn True.intro e (λz=>nomatch z) h
 |bl y=>cases(show u=Value.bool y from rx);exact kia_one PySem.W.kitx_bool I.kIn True.intro e (λz=>nomatch z) h
 |int i=>obtain⟨t,q⟩:=(show ∃t,u=Value.int i t from rx);cases q;exact kia_one PySem.W.kitx_int I.kIn True.intro e (λz=>nomatch z) h
 |str y=>obtain⟨t,q⟩:=(show ∃t,u=Value.str y t from rx);cases q;exact kia_one PySem.W.kitx_str I.kIn True.intro e (λz=>nomatch z) h
 |flt y=>obtain⟨t,q⟩:=(show ∃t,u=Value.float y t from rx);cases q;exact kia_one PySem.W.kitx_float I.kIn True.intro e (λz=>nomatch z) h
 |@lst a xs ea =>
  cases(show u=Value.ref a from rx)
  obtain⟨_,_,n,_,h1⟩:=(show Qc X.prog X.w H s.heap a (.lst xs)from I.hok a _ ea)
  exact kia_one kitx_list I.kIn ⟨_,h1,rfl⟩ e (λz=>nomatch z) h
 |@frz a ob xs ea =>
  cases(show u=Value.ref a from rx)
  obtain⟨_,_,_,n,_,h1⟩:=(show Qc X.prog X.w H s.heap a (.frz ob (.lst xs))from I.hok a _ ea)
  exact kia_one kitx_list I.kIn ⟨_,h1,rfl⟩ e (λz=>nomatch z) h
 |@tup a xs ea =>
  cases(show u=Value.ref a from rx)
  obtain⟨_,_,_,p⟩:=(show Qc X.prog X.w H s.heap a (.tup xs)from I.hok a _ ea)
  obtain⟨o,h1,h2,_⟩:=p
  exact kia_one PySem.W.kitx_tuple I.kIn ⟨o,h1,h2⟩ e (λz=>nomatch z) h
 |@dK a kvs ea =>
  cases(show u=Value.ref a from rx)
  obtain⟨_,_,vs,_,p⟩:=(show Qc X.prog X.w H s.heap a (.dK kvs)from I.hok a _ ea)
  obtain⟨o,es,ep,h1,h2,_⟩:=p
  exact kia_one PySem.W.kitx_dict I.kIn ⟨o,h1,h2.1⟩ e (λz=>nomatch z) h
 |@dT a kvs ea =>
  cases(show u=Value.ref a from rx)
  obtain⟨_,_,xs,_,o,es,ep,h1,h2,_⟩:=(show Qc X.prog X.w H s.heap a (.dT kvs)from I.hok a _ ea)
  exact kia_one PySem.W.kitx_dict I.kIn ⟨o,h1,h2.1⟩ e (λz=>nomatch z) h
 |@ins a C dx fs ea cl ha hn htk hm =>
  cases(show u=Value.ref a from rx)
  obtain⟨mA,O,_⟩:=ZmZ I.hok ea
  obtain⟨od,J,_⟩:=O.look
  exact kia_one (PySem.W.kitx_own (cl.get _) cl.hd ha hn htk hm) I.kIn J e (λz=>nomatch z) h
end
structure Room (k:Nat) (A:Around):Prop where
 hd:A.handled=none
 dp:A.depth+3*k+5<recursionLimit
 un:A.units+16*k+200<cLine
theorem Room.deeper{k:Nat}{A:Around}(r:Room (k+1) A)(env:Env):Room k (A.deeper env):=
 ⟨r.hd,by have:=r.dp;show A.depth+1+3*k+5<_;omega,by have:=r.un;show A.units+3+16*k+200<_;omega⟩
theorem Zg3{A:Around}{C:Addr}{us:List Value}{kw:List (Str×Value)}:(A.under (.builtin "type.__call__" ⟨.ref C::us,kw⟩)).depth=A.depth+1:=by
 first|rfl|simp[Around.under,Code.weight,Code.isCreation,Code.isGuard,Code.isCaller,Code.frames,Code.isFrame,guardIds]
theorem Room.depth{k:Nat}{A:Around}(r:Room k A):A.depth<recursionLimit:=by have:=r.dp;omega
theorem Room.units{k:Nat}{A:Around}(r:Room k A):A.units+64<cLine:=by have:=r.un;omega
noncomputable def tNil:TA:=λ_ H Q=>Q [] H
noncomputable def ZhG(ta:TE)(tr:TA):TA:=λσ H Q=>ta σ H λx H1=>tr σ H1 λxs H2=>Q (x::xs) H2
section
variable{X:Cx}{e:Expr}{es:List Expr}{te:TE}{t:TA}{pos:Pos}
theorem Xb:PA X [] tNil:=λ_ _ _ _ H Q I h=>Calls.spliced_nil ⟨[],H,I,.nil,h⟩
theorem QX(ha:PE X e te)(hr:PA X es t)(hs:starEach (e::es) X.env=(false,eval e X.env)::starEach es X.env:=by rfl):PA X (e::es) (ZhG te t):=by
 intro pos pins s σ H Q I h
 rw[hs]
 show wpAny _ _ (spliced ((false,eval e X.env)::backTo pos (starEach es X.env))) _ _ s
 refine Calls.spliced_cons (thn (ha pins s σ H _ I h) λu s1 ⟨x,H1,I1,r1,q1⟩=>?_)
 exact thn (hr pos pins s1 σ H1 _ I1 q1) λus s2 ⟨xs,H2,I2,r2,q2⟩=>⟨x::xs,H2,I2,.cons r1 r2,q2⟩
noncomputable def tTup(t:TA):TE:=λσ H Q=>t σ H λxs H1=>xs.length<=sizeLine/\∀p,H1 p=none->Q (.ref p) (upd H1 p (.tup xs))
noncomputable def tLst(t:TA):TE:=λσ H Q=>t σ H λxs H1=>xs.length<=sizeLine/\∀p,H1 p=none->Q (.ref p) (upd H1 p (.lst xs))
theorem Zk9{x1}(h:PA X es t):PE X (.Tuple es x1 pos) (tTup t):=by
 intro pins s σ H Q I hq
 refine wpAny_Tuple_spliced (thn (h pos pins s σ H _ I hq) λus s1 ⟨xs,H1,I1,r,z,q⟩=>⟨by rw[<-r.length];exact z,?_⟩)
 have hf:H1 s1.heap.objs.size=none:=I1.hok.fresh (Nat.le_refl _)
 refine⟨.ref s1.heap.objs.size,upd H1 s1.heap.objs.size (.tup xs),I1.laid (t':=s1.toks) (λb u e=>Heap.get?_push_of_some _ e) (Nat.le_refl _) ?_,rfl,q _ hf⟩
 exact⟨z,us,r,⟨_,Heap.get?_push_size _ rfl,rfl,⟨_,rfl⟩,rfl⟩⟩
theorem Zgd(h:PA X es t):PE X (.List es pos) (tLst t):=by
 intro pins s σ H Q I hq
 refine wpAny_List_spliced (thn (h pos pins s σ H _ I hq) λus s1 ⟨xs,H1,I1,r,z,q⟩=>⟨by rw[<-r.length];exact z,?_⟩)
 have hf:H1 s1.heap.objs.size=none:=I1.hok.fresh (Nat.le_refl _)
 refine⟨.ref s1.heap.objs.size,upd H1 s1.heap.objs.size (.lst xs),I1.laid (t':=s1.toks) (λb u e=>Heap.get?_push_of_some _ e) (Nat.le_refl _) ?_,rfl,q _ hf⟩
 exact⟨z,us,0,r,Heap.get?_push_size _ rfl⟩
end
noncomputable abbrev Sp:=List V->Hp->VK->XK->Prop
noncomputable abbrev CXT:=List Env->Hp->Shared->XK->Value->Shared->Prop
structure Env0 (P:Program) (w:World) (K:Frag) (mg:Str->Option Value) (base:Heap) (A:Around) (outer:List Env) (s:Shared) (H:Hp):Prop where
 frames:A.frames=some outer
 mod:Mod K mg base
 bs:∀b o,base.get? b=some o->s.heap.get? b=some o/\H b=none
 bsz:base.objs.size<=s.heap.objs.size
 funs:s.heap.FunFrames base outer
 frf:∀b∈frs outer,H b=none
 hok:HOk P w H s.heap
 bare:AllBare s.gens
noncomputable def CE(outer:List Env)(P:Program)(w:World)(H:Hp)(s:Shared)(Q:VK)(u:Value)(s':Shared):Prop:=
 ∃v H',s'.os=s.os/\AllBare s'.gens/\Un (frs outer) [] H H' s.heap s'.heap/\HOk P w H' s'.heap/\RelV v u/\Q v H'
noncomputable def CR(CX:CXT)(outer:List Env)(P:Program)(w:World)(H:Hp)(s:Shared)(Q:VK)(E:XK)(r:Result)(s':Shared):Prop:=
 match r with
 |.ok (.ret u)=>CE outer P w H s Q u s'
 |.ok _=>False
 |.error e=>CX outer H s E e s'
structure FnOk (P:Program) (w:World) (K:Frag) (mg:Str->Option Value) (base:Heap) (CX:CXT) (k:Nat) (f:Addr) (fd:FuncData) (ps:List Str) (sp:Sp):Prop where
 len:∀vs H Q E,sp vs H Q E->vs.length=ps.length
 run:∀(A:Around) (outer:List Env) (s:Shared) (H:Hp) (args:Args) (us:List Value) (vs:List V) (Q:VK) (E:XK),Room k A->Env0 P w K mg base A outer s H->BindsTo s fd args (ps.zip us)->Vals vs us->sp vs H Q E ->
  codeAny (model P w) A (.call (.ref f) args) (CR CX outer P w H s Q E) s
theorem Env0.make{P:Program}{w:World}{K:Frag}{mg:Str->Option Value}{base:Heap}{A:Around}{outer:List Env}{s:Shared}{H:Hp}(e:Env0 P w K mg base A outer s H)(C:Addr)(us:List Value)(kw:List (Str×Value)):
 Env0 P w K mg base (A.under (.builtin "type.__call__" ⟨.ref C::us,kw⟩)) outer s H:=⟨by first|exact e.frames|(simpa[Around.under,Code.envs,Code.isFrame,pushEnvs]using e.frames),e.mod,e.bs,e.bsz,e.funs,e.frf,e.hok,e.bare⟩
section
variable{X:Cx}{pins:List (Addr×Obj)}{σ:St}{H:Hp}{s s':Shared}
theorem Inv.env0(I:Inv X pins σ H s):Env0 X.prog X.w X.K X.mg X.base X.A X.stack s H:=
 ⟨I.ok.frames,I.ok.mod,I.bs,Nat.le_trans I.ok.bsz I.sz,I.stack,I.stkFree,I.hok,I.bare⟩
theorem Inv.after{Q:VK}{u:Value}(I:Inv X pins σ H s)(h:CE X.stack X.prog X.w H s Q u s'):EP X pins σ Q u s':=by
 obtain⟨v,H',os,bare,un,hok,r,q⟩:=h
 obtain⟨hh,g,d,t,os'⟩:=s'
 obtain rfl:os'=s.os:=os
 exact⟨v,H',I.call (h':=hh) (g':=g) (d':=d) (t':=t) (ch:=[]) un hok bare (λb z=>absurd z (by simp)),r,q⟩
end
noncomputable def tCall(sp:Sp)(dvs:List V)(E:XK)(t:TA):TE:=λσ H Q=>t σ H λvs H1=>sp (vs++dvs) H1 Q E
noncomputable def Binds(K:Frag)(fd:FuncData)(ps:List Str)(ds:List Value):Prop:=
 ∀(s:Shared) (us:List Value),K.In s.heap->(us++ds).length=ps.length->BindsTo s fd ⟨us,[]⟩ (ps.zip (us++ds))
theorem Binds.all{K:Frag}{fd:FuncData}{ps:List Str}(h:∀us:List Value,us.length=ps.length->bindArgs fd ⟨us,[]⟩=pure (ps.zip us)):Binds K fd ps []:=λs us _ hl=>by
 rw[List.append_nil]at hl ⊢
 exact .of_eq (h us hl)
noncomputable def Zjv(CX:CXT)(X:Cx)(E:XK):Prop:=∀(pins:List (Addr×Obj)) (σ:St) (H:Hp) (s:Shared) (e:Value) (s':Shared),Inv X pins σ H s->CX X.stack H s E e s'->X.xe e s'
section
variable{X:Cx}{CX:CXT}{k:Nat}{f C:Addr}{fd:FuncData}{ps:List Str}{sp:Sp}{dvs:List V}{ds:List Value}{E:XK}{x m:Str}{p pos apos:Pos}{e o:Expr}{es:List Expr}{ta:TE}{t:TA}
theorem run_fn{pins:List (Addr×Obj)}{σ:St}{H:Hp}{s:Shared}{Q:VK}{us:List Value}{vs:List V}(F:FnOk X.prog X.w X.K X.mg X.base CX k f fd ps sp)(hr:Room k X.A)(hb:Binds X.K fd ps ds)(hd:Vals dvs ds)(hx:Zjv CX X E)(I:Inv X pins σ H s)(r:Vals vs us)(h:sp (vs++dvs) H Q E):wpAny (model X.prog X.w) X.A (call (.ref f) us) (EP X pins σ Q) X.xe s:=by
 have r2:Vals (vs++dvs) (us++ds):=r.append hd
 have hl:(us++ds).length=ps.length:=by rw[<-r2.length];exact F.len _ _ _ _ h
 refine wpAny_call (codeAny_mono (F.run X.A X.stack s H ⟨us,[]⟩ (us++ds) (vs++dvs) Q E hr I.env0 (hb s us I.kIn hl) r2 h) λr s' hq=>?_)
 cases r with
 |error e=>exact hx pins σ H s e s' I hq
 |ok fl =>
  cases fl with
  |ret u=>exact I.after hq
  |next=>exact False.elim hq
  |brk=>exact False.elim hq
  |cont=>exact False.elim hq
theorem Zmz(F:FnOk X.prog X.w X.K X.mg X.base CX k f fd ps sp)(hr:Room k X.A)(hg:Gl X x)(hm:X.mg x=some (.ref f))(hk:keepIn X.K (.ref f)=true)(hb:Binds X.K fd ps ds)(hd:Vals dvs ds)(hx:Zjv CX X E)(ha:PA X (e::es) t)(hdb:(x==("__debug__" : Str))=false:=by decide)(he:starEach (e::es) X.env=(false,eval e X.env)::starEach es X.env:=by rfl)(hpl:(backTo pos (starEach es X.env)).any (·.1)=false:=by rfl):
  PE X (.Call (.Name x p) (e::es) [] pos) (tCall sp dvs E t):=by
 intro pins s σ H Q I h
 refine wpAny_Call_Name_kw (Za5 I hg hm ?_ hdb)
 refine PySem.W.callWith_K (h₀:=X.base) I.ok.mod.kin hk (thn (ha pos pins s σ H _ I h) λus s1 ⟨vs,H1,I1,r,q⟩=>⟨I1.kIn,?_⟩) he hpl
 exact run_fn F hr hb hd hx I1 r q
structure Mk (K:Frag) (C f:Addr):Prop where
 makes:PySem.W.makesIn K C=true
 init:findIn K (.ref C) "__init__" = some (some (.ref f))
 fn:PySem.W.isFn K (.ref f)=true
 kp:keepIn K (.ref C)=true
end
section
variable{X:Cx}{CX:CXT}{k:Nat}{f C:Addr}{fd:FuncData}{ps ks:List Str}{sp:Sp}{E:XK}{x m:Str}{p pos apos kpos:Pos}{e o:Expr}{es:List Expr}{kws:List Keyword}{te ta:TE}{t tk:TA}{nm:Option Str}
structure KBinds (K:Frag) (fd:FuncData) (ps ks:List Str) (g:List Value->List Value->List Value) (gV:List V->List V->List V):Prop where
 to:∀(s:Shared) (us ws:List Value),K.In s.heap->(g us ws).length=ps.length->BindsTo s fd ⟨us,ks.zip ws⟩ (ps.zip (g us ws))
 rel:∀{vs:List V}{us:List Value}{zs:List V}{ws:List Value},Vals vs us->Vals zs ws->Vals (gV vs zs) (g us ws)
variable{g:List Value->List Value->List Value}{gV:List V->List V->List V}
end
structure FnScope (N P:List Str) (sc:Scope):Prop where
 kind:sc.kind=.function
 co:sc.isCoroutine=false
 gen:sc.isGenerator=false
 nd:N.Nodup
 pre:N.take P.length=P
 par:∀x∈P,sc.names.lookup x=some .local∨sc.names.lookup x=some .cell
 nofree:∀y∈sc.names,y.2≠.free
theorem Ze2{kindOf:Str->Option NameKind}{x:Str}:∀{binds:List (Str×Value)}{m:Str->Option Value},(∀v,(x,v)∉binds)->bindL kindOf binds m x=m x
 |[],_,_=>rfl
 |(n,v)::r,m,h=>by
  unfold bindL
  rw[Ze2 λw hw=>h w (List.mem_cons_of_mem _ hw)]
  split
  ·have:x≠n:=by rintro rfl;exact h v List.mem_cons_self
   simp[this]
  ·rfl
theorem Ze4{kindOf:Str->Option NameKind}{x:Str}:∀{binds:List (Str×Value)}{m:Str->Option Value},(∀v,(x,v)∉binds)->bindC kindOf binds m x=m x
 |[],_,_=>rfl
 |(n,v)::r,m,h=>by
  unfold bindC
  rw[Ze4 λw hw=>h w (List.mem_cons_of_mem _ hw)]
  split
  ·rfl
  ·have:x≠n:=by rintro rfl;exact h v List.mem_cons_self
   simp[this]
theorem Ze3{kindOf:Str->Option NameKind}{x:Str}{v:Value}:∀{P:List Str}{vs:List Value}{i:Nat}{m:Str->Option Value},P.Nodup->P[i]?=some x->vs[i]?=some v->kindOf x=some .local ->
  bindL kindOf (P.zip vs) m x=some v
 |[],_,_,_,_,h,_,_=>by simp at h
 |_::_,[],_,_,_,_,h,_=>by simp at h
 |p::P,w::vs,0,m,nd,h1,h2,hk=>by
  simp at h1 h2;subst h1;subst h2
  show bindL kindOf ((p,w)::P.zip vs) m p=_
  unfold bindL
  rw[Ze2 λv hv=>(List.nodup_cons.mp nd).1 (List.of_mem_zip hv).1,if_pos hk]
  simp
 |p::P,w::vs,i+1,m,nd,h1,h2,hk=>by
  show bindL kindOf ((p,w)::P.zip vs) m x=_
  unfold bindL
  exact Ze3 (i:=i) (List.nodup_cons.mp nd).2 (by simpa using h1) (by simpa using h2) hk
theorem Ze5{kindOf:Str->Option NameKind}{x:Str}{v:Value}:∀{P:List Str}{vs:List Value}{i:Nat}{m:Str->Option Value},P.Nodup->P[i]?=some x->vs[i]?=some v->kindOf x≠some .local ->
  bindC kindOf (P.zip vs) m x=some v
 |[],_,_,_,_,h,_,_=>by simp at h
 |_::_,[],_,_,_,_,h,_=>by simp at h
 |p::P,w::vs,0,m,nd,h1,h2,hk=>by
  simp at h1 h2;subst h1;subst h2
  show bindC kindOf ((p,w)::P.zip vs) m p=_
  unfold bindC
  rw[Ze4 λv hv=>(List.nodup_cons.mp nd).1 (List.of_mem_zip hv).1,if_neg hk]
  simp
 |p::P,w::vs,i+1,m,nd,h1,h2,hk=>by
  show bindC kindOf ((p,w)::P.zip vs) m x=_
  unfold bindC
  exact Ze5 (i:=i) (List.nodup_cons.mp nd).2 (by simpa using h1) (by simpa using h2) hk
noncomputable def start(N:List Str)(vs:List V):St:=vs.map some++List.replicate (N.length-vs.length) none
noncomputable def cxOf(CX:CXT)(P:Program)(w:World)(K:Frag)(mg:Str->Option Value)(base:Heap)(N:List Str)(qual:Str)(scope:Scope)(f:Addr)(cd:Value)(A:Around)(outer:List Env)(s:Shared)(H:Hp)(E:XK):Cx where
 prog:=P
 w:=w
 K:=K
 mg:=mg
 base:=base
 A:=A.deeper (envOfC qual scope s.heap.objs.size f cd)
 N:=N
 s₀:=s
 H₀:=H
 env:=envOfC qual scope s.heap.objs.size f cd
 outer:=outer
 stack:=envOfC qual scope s.heap.objs.size f cd::outer
 ex:=[]
 calm:=true
 fn:=λ_=>true
 pn:=[]
 xe:=λe s'=>wpAny (model P w) (A.deeper (envOfC qual scope s.heap.objs.size f cd)) (leaving (envOfC qual scope s.heap.objs.size f cd) e) (λ_ s''=>CX outer H s E e s'') (λe' s''=>CX outer H s E e' s'') s'
theorem Zgx{sc:Scope}{n:Nat}{x:Str}(h:sc.names.lookup x=some .cell):∃c,(cellsFrom n sc.names []).lookup x=some c:=by
 have q:=cellsFrom_some sc.names n [] (.inl h)
 exact Option.isSome_iff_exists.mp q
theorem ZeK{CX:CXT}{P:Program}{w:World}{K:Frag}{mg:Str->Option Value}{base:Heap}{N ps:List Str}{qual:Str}{scope:Scope}{f:Addr}{cd:Value}{A:Around}{outer:List Env}{s s1:Shared}{H:Hp}{E:XK}{us:List Value}{vs:List V}(S:FnScope N ps scope)(hd:A.handled=none)(e0:Env0 P w K mg base A outer s H)(hl:vs.length=ps.length)(r:Vals vs us)(x:InCallC s s.heap.objs.size (bindL (envOfC qual scope s.heap.objs.size f cd).kindOf (ps.zip us) λ_=>none) (cellsFrom (s.heap.objs.size+1) scope.names []) (bindC (envOfC qual scope s.heap.objs.size f cd).kindOf (ps.zip us) λ_=>none) s1):
  Inv (cxOf CX P w K mg base N qual scope f cd A outer s H E) [] (start N vs) H s1:=by
 have hpl:ps.length<=N.length:=by have:=congrArg List.length S.pre;rw[List.length_take]at this;omega
 obtain⟨h1,tk,rfl,hk⟩:=x.done
 have noA:∀b:Addr,b∉(cxOf CX P w K mg base N qual scope f cd A outer s H E).ex:=λb z=>absurd (show b∈([]:List Addr)from z) (by simp)
 refine⟨⟨e0.mod,S.kind,rfl,rfl,Nat.le_refl _,λy z c h1 h2=>?_,λy hy=>?_,λy c _ h=>?_,λ_=>hd,Around.frames_deeper e0.frames,.inr ⟨rfl,rfl⟩,λb z=>absurd z (noA b),e0.bs,e0.bsz,λb _ _=>noA b,λb z=>absurd z (noA b),e0.funs,e0.frf⟩,
  rfl,e0.bare,Un.kept hk,⟨_,x.toInCall.ns,λi y v h1 h2 h3=>?_⟩,λy c h=>⟨_,x.cell y c h⟩,e0.hok.fresh (Nat.le_refl _),λy c h=>?_,λp hp=>absurd (show p∈([]:List (Addr×Obj))from hp) (by simp),e0.hok.kept hk,?_⟩
 ·exact name_of_addr x.apart (PySem.mem_of_lookup h1) (PySem.mem_of_lookup h2)
 ·have hy:scope.names.lookup y=some .cell∨scope.names.lookup y=some .free:=hy
  rcases hy with hy|hy
  ·exact Zgx hy
  ·exact absurd rfl (S.nofree _ (PySem.mem_of_lookup hy))
 ·exact Nat.le_of_lt (x.above y c (PySem.mem_of_lookup h))
 ·have hi:i<vs.length:=by
   unfold start at h2
   by_cases hi:i<vs.length
   ·exact hi
   ·rw[List.getElem?_append_right (by simpa using hi)]at h2
    rw[List.getElem?_replicate]at h2
    split at h2<;>cases h2
  have ha:vs[i]?=some v:=by
   unfold start at h2
   rw[List.getElem?_append_left (by simpa using hi),List.getElem?_map]at h2
   cases e:vs[i]? with
   |none=>rw[e]at h2;cases h2
   |some a=>rw[e]at h2;cases h2;rfl
  obtain⟨u,hu,rv⟩:=r.get ha
  have hp:ps[i]?=some y:=by
   rw[<-S.pre,List.getElem?_take_of_lt (by omega)];exact h1
  have ndP:ps.Nodup:=by rw[<-S.pre];exact S.nd.sublist (List.take_sublist _ _)
  refine⟨u,rv,?_⟩
  rcases S.par y (List.mem_of_getElem? hp)with k|k
  ·exact .inl ⟨k,Ze3 ndP hp hu k⟩
  ·obtain⟨c,e⟩:=Zgx (n:=s.heap.objs.size+1) k
   refine .inr ⟨.inl k,c,e,?_⟩
   have q:=x.cell y c e
   rw[Ze5 ndP hp hu (by show scope.names.lookup y≠_;rw[k];decide)]at q
   exact q
 ·exact e0.hok.fresh (Nat.le_of_lt (x.above y c (PySem.mem_of_lookup h)))
 ·unfold start
  show _=N.length
  rw[List.length_append,List.length_map,List.length_replicate]
  omega
theorem fn_of{CX:CXT}{P:Program}{w:World}{K:Frag}{mg:Str->Option Value}{base:Heap}{k:Nat}{f:Addr}{name qual:Str}{params:Arguments}{body:List Stmt}{scope:Scope}{dV kV doc pm cdv ct oc:Value}{an od:Option Addr}{osl:Array (Option Value)}{N ps:List Str}{sp:Sp}(lk:K.lookup f=some ⟨oc,od,.func (fnOf name qual params body scope dV kV doc pm an cdv ct),osl⟩)(hcd:codeIn K cdv qual=true)(S:FnScope N ps scope)(len:∀vs H Q E,sp vs H Q E->vs.length=ps.length)(hbody:∀(A:Around) (outer:List Env) (s:Shared) (H:Hp) (vs:List V) (Q:VK) (E:XK),Room k (A.deeper (envOfC qual scope s.heap.objs.size f cdv))->HOk P w H s.heap->sp vs H Q E ->
   ∃t,PSs (cxOf CX P w K mg base N qual scope f cdv A outer s H E) body t/\t { nx:=λ_ H'=>Q .non H',rt:=Q } (start N vs) H):
  FnOk P w K mg base CX (k+1) f (fnOf name qual params body scope dV kV doc pm an cdv ct) ps sp:=by
 refine⟨len,λA outer s H args us vs Q E hr e0 hb r hsp=>?_⟩
 have hl:=len _ _ _ _ hsp
 have KX:K.In s.heap:=e0.mod.kin.keeps λb o e=>(e0.bs b o e).1
 have lim:s.heap.NoLimit:=e0.mod.nolimit.keeps λb o e=>(e0.bs b o e).1
 have hkind:∀y∈ps.zip us,scope.names.lookup y.1=some .local∨(scope.names.lookup y.1=some .cell/\((cellsFrom (s.heap.objs.size+1) scope.names []).lookup y.1).isSome=true):=λ⟨n,v⟩ hy=>by
  rcases S.par n (List.of_mem_zip hy).1 with q|q
  ·exact .inl q
  ·exact .inr ⟨q,cellsFrom_some _ _ _ (.inl q)⟩
 refine codeAny_call_function hr.depth (KX _ _ lk) rfl S.co S.gen rfl (PySem.W.codeRec_of KX hcd) (hb _ _ _ _ ?_)
 refine wpAny_newFunctionEnv_cells S.kind hkind λenv he s1 x=>?_
 subst he
 refine⟨lim.keeps x.toInCall.keep,codeAny_func ?_⟩
 obtain⟨t,ht,hq⟩:=hbody A outer s H vs Q E (hr.deeper _) e0.hok hsp
 have I:Inv (cxOf CX P w K mg base N qual scope f cdv A outer s H E) [] (start N vs) H s1:=ZeK S hr.hd e0 hl r x
 refine wpAny_mono (ht [] s1 (start N vs) H _ I hq) (λfl s' hs=>?_) λe s' hs=>hs
 have fin:∀{σ':St}{H':Hp}{v:V}{u:Value},Inv (cxOf CX P w K mg base N qual scope f cdv A outer s H E) [] σ' H' s'->RelV v u->Q v H'->CE outer P w H s Q u s':=
  λ{σ' H' v u} J rv q=>⟨v,H',J.os,J.bare,J.base,J.hok,rv,q⟩
 cases fl with
 |ret u =>
  obtain⟨v,σ',H',J,rv,q⟩:=hs
  exact fin J rv q
 |next =>
  obtain⟨σ',H',J,q⟩:=hs
  exact fin (v:=V.non) (u:=Value.none) J rfl q
 |brk =>
  obtain⟨_,_,_,q⟩:=hs
  exact False.elim q
 |cont =>
  obtain⟨_,_,_,q⟩:=hs
  exact False.elim q
section
variable{X:Cx}{x:Str}{p pos:Pos}{e:Expr}{es:List Expr}{t:TA}{id T:String}{r:List V->Hp->VK->Prop}
noncomputable def tCB(r:List V->Hp->VK->Prop)(t:TA):TE:=λσ H Q=>t σ H λvs H1=>r vs H1 Q
theorem ZbR(hc:ZaT X (.builtin id) r)(hg:Gl X x)(hm:X.mg x=none)(hv:bootBuiltins x=some (.builtin id))(ha:PA X (e::es) t)(hn:x≠"__name__":=by decide)(hdb:(x==("__debug__" : Str))=false:=by decide)(he:starEach (e::es) X.env=(false,eval e X.env)::starEach es X.env:=by rfl)(hpl:(backTo pos (starEach es X.env)).any (·.1)=false:=by rfl):PE X (.Call (.Name x p) (e::es) [] pos) (tCB r t):=by
 intro pins s σ H Q I h
 refine wpAny_Call_Name_kw (ZeE I hg hm hv ?_ hn hdb)
 exact PyProof.Rows.callWith_builtin1 (thn (ha pos pins s σ H _ I h) λus s1 ⟨vs,H1,I1,r1,q1⟩=>hc pins s1 σ H1 vs us Q I1 r1 q1) he hpl
theorem Zih(hc:ZaT X (.type T) r)(hg:Gl X x)(hm:X.mg x=none)(hv:bootBuiltins x=some (.type T))(ha:PA X (e::es) t)(hn:x≠"__name__":=by decide)(hdb:(x==("__debug__" : Str))=false:=by decide)(he:starEach (e::es) X.env=(false,eval e X.env)::starEach es X.env:=by rfl)(hpl:(backTo pos (starEach es X.env)).any (·.1)=false:=by rfl):PE X (.Call (.Name x p) (e::es) [] pos) (tCB r t):=by
 intro pins s σ H Q I h
 refine wpAny_Call_Name_kw (ZeE I hg hm hv ?_ hn hdb)
 exact PyProof.Rows.callWith_type1 (thn (ha pos pins s σ H _ I h) λus s1 ⟨vs,H1,I1,r1,q1⟩=>hc pins s1 σ H1 vs us Q I1 r1 q1) he hpl
end
end L2
namespace HT
open PySem PyProof.Rows
section
variable{prog:Program}{w:World}{A:Around}{E:Value->Shared->Prop}{s:Shared}
theorem cat_tup{t b:Addr}{vs ws:List Value}{Q:Value->Shared->Prop}(ht:IsTup s.heap t vs.toArray)(hb:IsTup s.heap b ws.toArray)(hv:vs≠[])(h1:ws=[]->Q (.ref t) s)(h2:ws≠[]->Q (.ref s.heap.objs.size) { s with heap:=s.heap.push { cls:=.type "tuple",data:=.seq (vs++ws).toArray } })(hsz:vs.length+ws.length<=sizeLine):wpAny (model prog w) A (binaryOp .Add (.ref t) (.ref b)) Q E s:=by
 obtain⟨⟨cls,dd,data,sl⟩,ho,hc,n,hd⟩:=id ht
 obtain⟨⟨cls2,dd2,data2,sl2⟩,ho2,hc2,n2,hd2⟩:=id hb
 simp only at hc hd hc2 hd2
 subst hc hd hc2 hd2
 have e:vs.toArray++ws.toArray=(vs++ws).toArray:=by simp
 by_cases hw:ws=[]
 ·exact concat_meets ⟨_,ho,rfl⟩ ⟨_,ho2,rfl⟩ noFill_tuple_add seq_tuple_add PySem.F.slot_tuple_add PySem.F.entry_tuple_add (PySem.F.args_tuple_add_2 _ _)
   (tuple_addW1 t b vs.toArray ws.toArray n n2 dd dd2 sl sl2 (by simpa using hv) (by simp[hw])) ⟨ho,ho2,h1 hw⟩
 ·refine concat_meets ⟨_,ho,rfl⟩ ⟨_,ho2,rfl⟩ noFill_tuple_add seq_tuple_add PySem.F.slot_tuple_add PySem.F.entry_tuple_add (PySem.F.args_tuple_add_2 _ _)
   (tuple_addW2 t b vs.toArray ws.toArray n n2 dd dd2 sl sl2 (by simpa using hv) (by simpa using hw) (by rw[List.size_toArray,List.size_toArray];exact hsz)) ⟨ho,ho2,?_⟩
  rw[e]
  exact h2 hw
noncomputable def sIx(n d:Nat):Option Int->Nat
 |none=>d
 |some v=>if v<0 then(v+(n:Int)).toNat else min v.toNat n
theorem sIx_le(n d:Nat)(hd:d<=n)(o:Option Int):sIx n d o<=n:=by
 cases o with
 |none=>exact hd
 |some v =>
  show(if v<0 then(v+(n:Int)).toNat else min v.toNat n)<=n
  by_cases hv:v<0
  ·rw[if_pos hv];omega
  ·rw[if_neg hv];exact Nat.min_le_right _ _
theorem Zjf(v:Int)(n d:Nat):(if v<0 then max (v+(n:Int)) 0 else min v (n:Int))=((sIx n d (some v):Nat):Int):=by
 show(if v<0 then max (v+(n:Int)) 0 else min v (n:Int))=(((if v<0 then(v+(n:Int)).toNat else min v.toNat n):Nat):Int)
 by_cases hv:v<0
 ·simp only[if_pos hv];omega
 ·simp only[if_neg hv];omega
theorem Zhr(lo hi:Option Int)(n:Nat):Builtin.Slice.sliceAdjust lo hi 1 (n:Int)=(((sIx n 0 lo:Nat):Int),((sIx n n hi:Nat):Int)):=by
 have h1:¬((1:Int)<0):=by omega
 unfold Builtin.Slice.sliceAdjust
 simp only[h1,if_false]
 refine Prod.ext ?_ ?_
 ·cases lo with
  |none=>rfl
  |some v=>exact Zjf v n 0
 ·cases hi with
  |none=>rfl
  |some v=>exact Zjf v n n
theorem ZgP(i j:Nat):Builtin.Slice.slicePlaces (i:Int) (j:Int) 1=j-i:=by
 unfold Builtin.Slice.slicePlaces
 have h1:(1:Int)>0:=by omega
 simp only[h1,if_true,Int.ediv_one]
 split<;>omega
theorem ZcR{v:Value}{o:Option Int}{Q:Option Int->Shared->Prop}(p:IsPart v o)(h:Q o s):wpAny (model prog w) A (Builtin.Slice.slicePartIndex v) Q E s:=by
 cases p with
 |none=>exact slicePart_none h
 |int i t=>exact slicePart_int h
theorem sliceApplied_gen{sl:Addr}{vl vu:Value}{lo hi:Option Int}{n:Nat}{Q:Int×Int×Nat->Shared->Prop}(hs:s.heap.IsSliceOf sl vl vu .none)(pl:IsPart vl lo)(pu:IsPart vu hi)(h:Q (((sIx n 0 lo:Nat):Int),1,sIx n n hi-sIx n 0 lo) s):wpAny (model prog w) A (Builtin.Slice.sliceApplied (.ref sl) (pure (n:Int))) Q E s:=by
 obtain⟨os,hos,hcs,hds⟩:=id hs
 unfold Builtin.Slice.sliceApplied Builtin.Slice.sliceFields
 refine wpAny_bind (wpAny_bind (wpAny_field hos hds (x:=vl) rfl (wpAny_bind (wpAny_field hos hds (x:=vu) rfl (wpAny_bind (wpAny_field hos hds (x:=.none) rfl (wpAny_pure ?_)))))))
 refine wpAny_bind (slicePart_none ?_)
 show wpAny _ _ (if((1:Int)==0)=true then _ else _) _ _ s
 rw[if_neg (by decide)]
 refine wpAny_bind (ZcR pl (wpAny_bind (ZcR pu (wpAny_bind (wpAny_pure ?_)))))
 show wpAny _ _ (match Builtin.Slice.sliceAdjust lo hi 1 (n:Int)with|(lo,hi)=>pure (lo,(1:Int),Builtin.Slice.slicePlaces lo hi 1)) _ _ s
 rw[Zhr lo hi n]
 show wpAny _ _ (pure (((sIx n 0 lo:Nat):Int),(1:Int),Builtin.Slice.slicePlaces ((sIx n 0 lo:Nat):Int) ((sIx n n hi:Nat):Int) 1)) _ _ s
 rw[ZgP]
 exact wpAny_pure h
theorem Zj8(xs:Array Value)(i k:Nat):((List.range k).filterMap λ(m:Nat)=>xs[((i:Int)+(m:Int)*1).toNat]?).toArray=((xs.toList.drop i).take k).toArray:=by
 have e:(λ(m:Nat)=>xs[((i:Int)+(m:Int)*1).toNat]?)=λm=>xs[i+m]?:=by
  funext m
  have:((i:Int)+(m:Int)*1).toNat=i+m:=by omega
  rw[this]
 rw[e]
 have:=pick_run xs i k
 rw[List.filterMap_map]at this
 have e2:((λx=>xs[x]?) ∘ λx=>i+x)=λm=>xs[i+m]?:=rfl
 rw[e2]at this
 rw[this]
theorem getItem_tuple_cut{t sl:Addr}{items:Array Value}{vl vu:Value}{lo hi:Option Int}{Q:Value->Shared->Prop}(ht:IsTup s.heap t items)(hs:s.heap.IsSliceOf sl vl vu .none)(pl:IsPart vl lo)(pu:IsPart vu hi)(hw:¬(sIx items.size 0 lo=0/\sIx items.size items.size hi=items.size))(h:Q (.ref s.heap.objs.size) { s with heap:=s.heap.push { cls:=.type "tuple",data:=.seq ((items.toList.drop (sIx items.size 0 lo)).take (sIx items.size items.size hi-sIx items.size 0 lo)).toArray } })(hsz:items.size<=sizeLine):wpAny (model prog w) A (getItem (.ref t) (.ref sl)) Q E s:=by
 have htake:sizeOk (.seq ((items.toList.drop (sIx items.size 0 lo)).take (sIx items.size items.size hi-sIx items.size 0 lo)).toArray):=by
  show((items.toList.drop (sIx items.size 0 lo)).take (sIx items.size items.size hi-sIx items.size 0 lo)).toArray.size<=sizeLine
  rw[List.size_toArray,List.length_take,List.length_drop,Array.length_toList]
  omega
 have hj:sIx items.size items.size hi<=items.size:=sIx_le _ _ (Nat.le_refl _) hi
 obtain⟨os,hos,hcs,hds⟩:=id hs
 have hTs:s.TypeIs (.ref sl) "slice":=⟨os,hos,hcs⟩
 unfold getItem
 try with_reducible refine wpAny_holding ?_
 first|refine wpAny_bind (wpAny_pure ?_)|skip
 refine wpAny_bind (wpAny_sequenceKey ht.typeIs (by decide) ?_)
 refine wpAny_bind (wpAny_callSpecial?_slot (name:=Str.ofString "__getitem__") ht.typeIs PyProof.Rows.slot_tuple_getitem
  (wpAny_call_entry PyProof.Rows.slot_tuple_getitem ht.typeIs entry_tuple_getitem ?_ (args_tuple_getitem _ _)))
 show wpAny _ _ (Builtin.Tuple.tupleItemsOf (.ref t) >>= _) _ _ s
 refine wpAny_bind (tupleItemsOf_ ht ?_)
 refine wpAny_bind (wpAny_typeOf hTs ?_)
 rw[if_pos (by decide)]
 refine wpAny_bind (sliceApplied_gen hs pl pu ?_)
 have hno:¬((((sIx items.size 0 lo:Nat):Int)==0&&(1:Int)==1&&(sIx items.size items.size hi-sIx items.size 0 lo)==items.size)=true):=by
  intro q
  rw[Bool.and_eq_true,Bool.and_eq_true]at q
  have q1:((sIx items.size 0 lo:Nat):Int)=0:=eq_of_beq q.1.1
  have q2:sIx items.size items.size hi-sIx items.size 0 lo=items.size:=eq_of_beq q.2
  exact hw ⟨by omega,by omega⟩
 show wpAny _ _ (if(((sIx items.size 0 lo:Nat):Int)==0&&(1:Int)==1&&(sIx items.size items.size hi-sIx items.size 0 lo)==items.size)=true then _ else _) _ _ s
 rw[if_neg hno,Zj8]
 first
  |exact wpAny_bind (m:=Builtin.Tuple.tupleExact _) (wpAny_newObj_type (wpAny_pure ⟨_,rfl,wpAny_pure h⟩) htake)
  |exact wpAny_bind (m:=Builtin.Tuple.tupleExact _) (wpAny_newObj_type (wpAny_bind (wpAny_pure (wpAny_pure ⟨_,rfl,wpAny_pure h⟩))) htake)
  |exact wpAny_bind (wpAny_bind (m:=Builtin.Tuple.tupleExact _) (wpAny_newObj_type (wpAny_pure (wpAny_pure ⟨_,rfl,wpAny_pure h⟩)) htake))
  |exact wpAny_bind (wpAny_bind (m:=Builtin.Tuple.tupleExact _) (wpAny_newObj_type (wpAny_pure ⟨_,rfl,wpAny_pure h⟩) htake))
end
end HT
namespace L2
open PySem PySem.Spec PyProof.Rows
noncomputable abbrev TO:=St->Hp->(Option Int->Hp->Prop)->Prop
noncomputable def PO(X:Cx)(e:Option Expr)(t:TO):Prop:=
 ∀(pins:List (Addr×Obj)) (s:Shared) (σ:St) (H:Hp) (Q:Option Int->Hp->Prop),Inv X pins σ H s->t σ H Q ->
  wpAny (model X.prog X.w) X.A (evalPart e X.env) (λu s'=>∃o H',Inv X pins σ H' s'/\IsPart u o/\Q o H') X.xe s
noncomputable def ZlR:TO:=λ_ H Q=>Q none H
noncomputable def tPart(t:TE):TO:=λσ H Q=>t σ H λx H1=>∃i,x=.int i/\Q (some i) H1
section
variable{X:Cx}{e:Expr}{te:TE}{lo hi:Option Expr}{tl th:TO}{pos p2:Pos}
theorem Zma:PO X none ZlR:=by
 intro pins s σ H Q I h
 rw[evalPart_none]
 exact wpAny_pure ⟨none,H,I,.none,h⟩
theorem Zl9(h:PE X e te):PO X (some e) (tPart te):=by
 intro pins s σ H Q I hw
 rw[evalPart_some]
 refine thn (h pins s σ H _ I hw) λu s1 ⟨x,H1,I1,r1,q1⟩=>?_
 obtain⟨i,rfl,q⟩:=q1
 obtain⟨t,rfl⟩:=r1
 exact⟨some i,H1,I1,.int i t,q⟩
noncomputable def SlR(X:Cx)(r:V->Option Int->Option Int->Hp->VK->Prop):Prop:=
 ∀(pins:List (Addr×Obj)) (s:Shared) (σ:St) (H:Hp) (x:V) (v vl vu:Value) (lo hi:Option Int) (sl:Addr) (Q:VK),Inv X pins σ H s->RelV x v->s.heap.IsSliceOf sl vl vu .none->IsPart vl lo->IsPart vu hi->r x lo hi H Q ->
  ∃T id,typeLookup (.type T) "__getitem__" = pure (some (.builtin id))/\s.TypeIs v T/\wpAny (model X.prog X.w) X.A (getItem v (.ref sl)) (EP X pins σ Q) X.xe s
noncomputable def tSl(r:V->Option Int->Option Int->Hp->VK->Prop)(te:TE)(tl th:TO):TE:=λσ H Q=>te σ H λx H1=>tl σ H1 λl H2=>th σ H2 λu H3=>r x l u H3 Q
theorem Zkb{r:V->Option Int->Option Int->Hp->VK->Prop}(hr:SlR X r)(he:PE X e te)(hl:PO X lo tl)(hu:PO X hi th):PE X (.Subscript e (.Slice lo hi none p2) pos) (tSl r te tl th):=by
 intro pins s σ H Q I h
 refine Subscript_ (thn (he pins s σ H _ I h) λv s1 ⟨x,H1,I1,r1,q1⟩=>?_)
 refine wpAny_Slice (thn (hl pins s1 σ H1 _ I1 q1) λvl s2 ⟨l,H2,I2,pl,q2⟩=>thn (hu pins s2 σ H2 _ I2 q2) λvu s3 ⟨u,H3,I3,pu,q3⟩=>?_)
 rw[evalPart_none]
 refine wpAny_pure ?_
 have I4:Inv X pins σ H3 { s3 with heap:=s3.heap.push { cls:=.type "slice",data:=.fields #[vl,vu,.none] } }:=I3.kept (t':=s3.toks) λb ob q=>Heap.get?_push_of_some _ q
 obtain⟨T,id,hT,ht,hg⟩:=hr pins { s3 with heap:=s3.heap.push { cls:=.type "slice",data:=.fields #[vl,vu,.none] } } σ H3 x v vl vu l u s3.heap.objs.size Q I4 r1 (Heap.IsSliceOf.new ..) pl pu q3
 show wpAny (model X.prog X.w) X.A (subscriptTail e (.Slice lo hi none p2) v (.ref s3.heap.objs.size)) (EP X pins σ Q) X.xe { s3 with heap:=s3.heap.push { cls:=.type "slice",data:=.fields #[vl,vu,.none] } }
 exact tail_any (ops:=[.ref s3.heap.objs.size,v]) ht hT hg (by with_unfolding_all rfl)
noncomputable def cutV(xs:List V)(lo hi:Option Int):List V:=(xs.drop (HT.sIx xs.length 0 lo)).take (HT.sIx xs.length xs.length hi-HT.sIx xs.length 0 lo)
theorem Zcu(xs:List V)(lo hi:Option Int):(cutV xs lo hi).length<=xs.length:=by
 unfold cutV
 rw[List.length_take,List.length_drop]
 omega
noncomputable def rSlT(K:Frag):V->Option Int->Option Int->Hp->VK->Prop:=λx lo hi H Q=>∃a xs,x=.ref a/\SqT K H a xs /\
 ¬(HT.sIx xs.length 0 lo=0/\HT.sIx xs.length xs.length hi=xs.length)/\∀p,H p=none->Q (.ref p) (upd H p (.tup (cutV xs lo hi)))
theorem sl_tup:SlR X (rSlT X.K):=by
 intro pins s σ H x v vl vu lo hi sl Q I rx hs pl pu h
 obtain⟨a,xs,rfl,hx,hw,q⟩:=h
 cases rx
 obtain⟨its,r,ht,hz⟩:=I.tuple hx
 have hlen:its.toArray.size=xs.length:=by rw[List.size_toArray];exact r.length.symm
 refine⟨"tuple",_,PyProof.Rows.slot_tuple_getitem.lookup,ht.typeIs,?_⟩
 refine HT.getItem_tuple_cut ht hs pl pu (by rw[hlen];exact hw) ?_ (by rw[hlen];exact hz)
 rw[hlen]
 refine⟨.ref s.heap.objs.size,_,I.laid (t':=s.toks) (o:=.tup (cutV xs lo hi)) (λb ob q=>Heap.get?_push_of_some _ q) (Nat.le_refl _) ?_,rfl,q _ (I.hok.fresh (Nat.le_refl _))⟩
 exact⟨Nat.le_trans (Zcu xs lo hi) hz,_,(r.drop (HT.sIx xs.length 0 lo)).take (HT.sIx xs.length xs.length hi-HT.sIx xs.length 0 lo),TupP.new _ _⟩
noncomputable def rCatT(K:Frag):R2:=λx y H Q=>∃a b xs ys,x=.ref a/\y=.ref b/\SqT K H a xs/\SqT K H b ys/\xs≠[]/\xs.length+ys.length<=sizeLine /\
 (ys=[]->Q (.ref a) H)/\(ys≠[]->∀p,H p=none->Q (.ref p) (upd H p (.tup (xs++ys))))
theorem Vals.nil_iff{xs:List V}{us:List Value}(r:Vals xs us):us=[]↔xs=[]:=by
 cases r with
 |nil=>simp
 |cons _ _=>simp
theorem ZmJ:OpR X (binaryOp .Add) (rCatT X.K):=by
 intro pins s σ H x y v u Q I rx ry h
 obtain⟨a,b,xs,ys,rfl,rfl,ha,hb,hx,hz,q1,q2⟩:=h
 cases rx
 cases ry
 obtain⟨its,r1,p1,_⟩:=I.tuple ha
 obtain⟨its2,r2,p2,_⟩:=I.tuple hb
 refine HT.cat_tup p1 p2 (λz=>hx (r1.nil_iff.mp z)) (λz=>⟨.ref a,H,I,rfl,q1 (r2.nil_iff.mp z)⟩) (λz=>?_) (by rw[<-r1.length,<-r2.length];exact hz)
 refine⟨.ref s.heap.objs.size,_,I.laid (t':=s.toks) (o:=.tup (xs++ys)) (λb ob q=>Heap.get?_push_of_some _ q) (Nat.le_refl _) ?_,rfl,q2 (λw=>z (r2.nil_iff.mpr w)) _ (I.hok.fresh (Nat.le_refl _))⟩
 exact⟨by rw[List.length_append];exact hz,_,r1.append r2,TupP.new _ _⟩
end
noncomputable def ixN(n:Nat)(i:Int):Option Nat:=if 0<=i then(if i<n then some i.toNat else none)else if -(n:Int)<=i then some (i+n).toNat else none
noncomputable def atI{α:Type}(xs:List α)(i:Int):Option α:=(ixN xs.length i).bind λj=>xs[j]?
theorem ZiI{n:Nat}{i:Int}{j:Nat}(h:ixN n i=some j):seqIndex? i n=some j/\j<n/\-(n:Int)<=i/\i<n:=by
 unfold ixN at h
 by_cases h0:0<=i
 ·rw[if_pos h0]at h
  by_cases h1:i<n
  ·rw[if_pos h1]at h
   have e:i.toNat=j:=Option.some.inj h
   exact⟨by rw[seqIndex_of h0 h1,e],by omega,by omega,h1⟩
  ·rw[if_neg h1]at h;cases h
 ·rw[if_neg h0]at h
  by_cases h1:-(n:Int)<=i
  ·rw[if_pos h1]at h
   have e:(i+n).toNat=j:=Option.some.inj h
   exact⟨by rw[seqIndex_neg (by omega) h1,e],by omega,h1,by omega⟩
  ·rw[if_neg h1]at h;cases h
theorem ZfV{α:Type}{xs:List α}{i:Int}{v:α}(h:atI xs i=some v):∃j,seqIndex? i xs.length=some j/\xs[j]?=some v/\j<xs.length/\-(xs.length:Int)<=i/\i<xs.length:=by
 unfold atI at h
 cases e:ixN xs.length i with
 |none=>rw[e]at h;cases h
 |some j =>
  rw[e]at h
  obtain⟨h1,h2,h3,h4⟩:=ZiI e
  exact⟨j,h1,h,h2,h3,h4⟩
noncomputable def Zju(b:Expr):Prop:=∀o i,subscripted b false o i=operate [o,i] (getItem o i)
noncomputable def IxR(X:Cx)(r:R2):Prop:=
 ∀(value slice:Expr) (pins:List (Addr×Obj)) (s:Shared) (σ:St) (H:Hp) (x y:V) (v u:Value) (Q:VK),Inv X pins σ H s->RelV x v->RelV y u->r x y H Q ->
  subscripted slice false v u=operate [v,u] (getItem v u)->wpAny (model X.prog X.w) X.A (subscriptTail value slice v u) (EP X pins σ Q) X.xe s
noncomputable def MtR(X:Cx)(id:String)(r:V->List V->Hp->VK->Prop):Prop:=
 ∀(pins:List (Addr×Obj)) (s:Shared) (σ:St) (H:Hp) (x:V) (xs:List V) (v:Value) (us:List Value) (Q:VK),Inv X pins σ H s->RelV x v->Vals xs us->r x xs H Q ->
  wpAny (model X.prog X.w) X.A (call (.builtin id) (v::us)) (EP X pins σ Q) X.xe s
section
variable{X:Cx}{a b:Expr}{ta tb:TE}{pos:Pos}
theorem pe_ix{r:R2}(hr:IxR X r)(ha:PE X a ta)(hb:PE X b tb)(hs:Zju b):PE X (.Subscript a b pos) (tOp r ta tb):=by
 intro pins s σ H Q I h
 exact Subscript_ (binT ha hb I h λv u s2 x y H2 I2 rx ry q=>hr a b pins s2 σ H2 x y v u Q I2 rx ry q (hs _ _))
noncomputable def rIxL(K:Frag):R2:=λx y H Q=>∃p xs i v,x=.ref p/\y=.int i/\SqL K H p xs/\atI xs i=some v/\Q v H
noncomputable def rIxT(K:Frag):R2:=λx y H Q=>∃p xs i v,x=.ref p/\y=.int i/\SqT K H p xs/\atI xs i=some v/\Q v H
noncomputable def rIxS:R2:=λx y H Q=>∃z i c,x=.str z/\y=.int i/\z.length<=sizeLine/\atI z.cps.toList i=some c/\Q (.str ⟨#[c]⟩) H
theorem ZfH:IxR X (rIxL X.K):=by
 intro value slice pins s σ H x y v u Q I rx ry h hs
 obtain⟨p,xs,i,z,rfl,rfl,hq,he,q⟩:=h
 cases rx
 obtain⟨t,rfl⟩:=ry
 obtain⟨its,r,pl,hz⟩:=I.list hq
 obtain⟨j,h1,h2,h3,h4,h5⟩:=ZfV he
 obtain⟨w,ew,rw'⟩:=r.get h2
 have hl:=r.length
 have hn:=Zc2
 have fin:EP X pins σ Q w s:=⟨z,H,I,rw',q⟩
 by_cases h0:0<=i
 ·have hj:i.toNat=j:=by
   rw[seqIndex_of h0 h5]at h1
   exact Option.some.inj h1
  exact item_listR pl.isList h0 (by omega) (by rw[hj];simpa using ew) fin hs
 ·have hj:(i+(its.toArray.size:Int)).toNat=j:=by
   rw[seqIndex_neg (by omega) h4]at h1
   rw[List.size_toArray,<-hl]
   exact Option.some.inj h1
  exact subscriptTail_builtinR (x:=w) pl.isList.typeIs slot_list_getitem.lookup
   (wpAny_getItem_list_neg (Q:=λr s'=>r=w/\EP X pins σ Q r s') pl.isList (by omega) (by rw[List.size_toArray]<;>omega) (by omega) (by rw[hj];simpa using ew) ⟨rfl,fin⟩) hs
theorem ix_tup:IxR X (rIxT X.K):=by
 intro value slice pins s σ H x y v u Q I rx ry h hs
 obtain⟨p,xs,i,z,rfl,rfl,hq,he,q⟩:=h
 cases rx
 obtain⟨t,rfl⟩:=ry
 obtain⟨its,r,pl,hz⟩:=I.tuple hq
 obtain⟨j,h1,h2,h3,h4,h5⟩:=ZfV he
 obtain⟨w,ew,rw'⟩:=r.get h2
 have hl:=r.length
 have hn:=Zc2
 have fin:EP X pins σ Q w s:=⟨z,H,I,rw',q⟩
 exact subscriptTail_builtinR (x:=w) pl.typeIs slot_tuple_getitem.lookup
  (getItem_tuple (j:=j) (Q:=λr s'=>r=w/\EP X pins σ Q r s') pl (by omega) (by omega) (by rw[List.size_toArray,<-hl];exact h1) (by simpa using ew) ⟨rfl,fin⟩) hs
theorem ix_str:IxR X rIxS:=by
 intro value slice pins s σ H x y v u Q I rx ry h hs
 obtain⟨z,i,c,rfl,rfl,hz,he,q⟩:=h
 obtain⟨t,rfl⟩:=rx
 obtain⟨t',rfl⟩:=ry
 obtain⟨j,h1,h2,h3,h4,h5⟩:=ZfV he
 have hl:z.cps.toList.length=z.length:=by simp[Str.length]
 rw[hl]at h1 h4 h5
 have hn:=Zc2
 exact tail_any (typeIs_str s z t) slot_str_getitem.lookup (getItem_str (c:=c) (by
  have e1:decide (i < -(2^63:Int))=false:=decide_eq_false (by omega)
  have e2:decide (i ≥ 2^63)=false:=decide_eq_false (by omega)
  rw[e1,e2,Bool.or_false]) (by rw[h1];simpa using h2) ⟨.str ⟨#[c]⟩,H,I.tok _,⟨_,rfl⟩,q⟩) hs
theorem Zg2(its:List Value)(n j:Nat)(u:Value):Obj.mapSeq (·.setIfInBounds j u) { cls:=.type "list",data:=.seq its.toArray n }={ cls:=.type "list",data:=.seq (its.set j u).toArray n }:=by
 simp[Obj.mapSeq]
theorem Inv.lst{pins:List (Addr×Obj)}{σ:St}{H:Hp}{s:Shared}{p:Addr}{xs:List V}(I:Inv X pins σ H s)(h:H p=some (.lst xs)):
  ∃(its:List Value) (n:Nat),Vals xs its/\s.heap.get? p=some { cls:=.type "list",data:=.seq its.toArray n }/\xs.length<=sizeLine:=by
 obtain⟨z,its,n,r,e⟩:=I.hok p _ h
 exact⟨its,n,r,e,z⟩
theorem Inv.lstUpd{pins:List (Addr×Obj)}{σ:St}{H:Hp}{s:Shared}{p:Addr}{xs ys:List V}{its its':List Value}{n n':Nat}{f:Obj->Obj}(I:Inv X pins σ H s)(h:H p=some (.lst xs))(ho:s.heap.get? p=some { cls:=.type "list",data:=.seq its.toArray n })(hf:f { cls:=.type "list",data:=.seq its.toArray n }={ cls:=.type "list",data:=.seq its'.toArray n' })(r:Vals ys its')(hz:ys.length<=sizeLine)(t:Nat):
  Inv X pins σ (upd H p (.lst ys)) { s with heap:=s.heap.update p f,toks:=t }:=by
 have e:(s.heap.update p f).get? p=some { cls:=.type "list",data:=.seq its'.toArray n' }:=by
  rw[Heap.get?_update_self f ho (by rw[hf]<;>rfl),hf]
 refine I.write (x:=p) (e:=p) (by rw[h];trivial) (.inl rfl) (λb u hb q=>(Heap.get?_update_other _ _ (Ne.symm hb)).trans q) ⟨_,e⟩ ?_
 exact⟨hz,its',n',r,e⟩
noncomputable def rSetL:V->V->V->Hp->(Hp->Prop)->Prop:=λo i v H Q=>∃p xs k j,o=.ref p/\i=.int k/\H p=some (.lst xs)/\ixN xs.length k=some j/\Q (upd H p (.lst (xs.set j v)))
theorem set_list:PSet X rSetL:=by
 intro pins s σ H o i v ov iv u Q I ro ri rv h
 obtain⟨p,xs,k,j,rfl,rfl,hp,hj,q⟩:=h
 cases ro
 obtain⟨t,rfl⟩:=ri
 obtain⟨its,n,r,ho,hz⟩:=I.lst hp
 obtain⟨h1,h2,h3,h4⟩:=ZiI hj
 have hl:=r.length
 have hn:=Zc2
 have I':Inv X pins σ (upd H p (.lst (xs.set j v))) { s with heap:=s.heap.update p (Obj.mapSeq (·.setIfInBounds j u)) }:=
  I.lstUpd hp ho (Zg2 its n j u) (r.set rv j) (by rw[List.length_set];exact hz) s.toks
 by_cases h0:0<=k
 ·have hk:k.toNat=j:=by
   rw[seqIndex_of h0 h4]at h1
   exact Option.some.inj h1
  exact PySem.W.ki_setAt ho h0 (by omega) (by rw[List.size_toArray,<-hl];exact h4) (by rw[hk];exact⟨_,I',q⟩)
 ·have hk:(k+(its.toArray.size:Int)).toNat=j:=by
   rw[seqIndex_neg (by omega) h3]at h1
   rw[List.size_toArray,<-hl]
   exact Option.some.inj h1
  exact PySem.W.ki_setBack ho (by omega) (by rw[List.size_toArray,<-hl];exact h3) (by omega) (by rw[hk];exact⟨_,I',q⟩)
theorem Zed(lo hi:Option Int)(n:Nat):(sliceBounds lo hi none n).1=((HT.sIx n 0 lo:Nat):Int)/\(sliceBounds lo hi none n).2.1=((HT.sIx n n hi:Nat):Int)/\(sliceBounds lo hi none n).2.2=1:=by
 refine⟨?_,?_,rfl⟩
 ·cases lo with
  |none=>simp[sliceBounds,HT.sIx]
  |some i =>
   simp only[sliceBounds,HT.sIx,Option.getD_none,show(1:Int)>0 by decide,if_true]
   by_cases h:i<0
   ·simp only[h,if_true]<;>omega
   ·simp only[h,if_false]<;>omega
 ·cases hi with
  |none=>simp[sliceBounds,HT.sIx]
  |some i =>
   simp only[sliceBounds,HT.sIx,Option.getD_none,show(1:Int)>0 by decide,if_true]
   by_cases h:i<0
   ·simp only[h,if_true]<;>omega
   ·simp only[h,if_false]<;>omega
theorem Zdm(its:List Value)(lo hi:Option Int):slicePick its.toArray lo hi none=((its.drop (HT.sIx its.length 0 lo)).take (HT.sIx its.length its.length hi-HT.sIx its.length 0 lo)).toArray:=by
 obtain⟨h1,h2,h3⟩:=Zed lo hi its.toArray.size
 unfold slicePick
 rw[h1,h2,h3]
 simp only[sliceRange_one,pick_run,List.size_toArray]<;>rfl
noncomputable def rSlL(K:Frag):V->Option Int->Option Int->Hp->VK->Prop:=λx lo hi H Q=>∃a xs,x=.ref a/\SqL K H a xs/\∀p,H p=none->Q (.ref p) (upd H p (.lst (cutV xs lo hi)))
theorem ZhQ:SlR X (rSlL X.K):=by
 intro pins s σ H x v vl vu lo hi sl Q I rx hs pl pu h
 obtain⟨a,xs,rfl,hx,q⟩:=h
 cases rx
 obtain⟨its,r,ht,hz⟩:=I.list hx
 have hlen:=r.length
 refine⟨"list",_,slot_list_getitem.lookup,ht.isList.typeIs,?_⟩
 refine wpAny_getItem_list_slice ht.isList hs pl pu .none (by simp) ?_ (by rw[List.size_toArray]<;>omega)
 rw[Zdm,<-hlen]
 refine⟨.ref s.heap.objs.size,_,I.laid (t':=s.toks) (o:=.lst (cutV xs lo hi)) (λb ob q=>Heap.get?_push_of_some _ q) (Nat.le_refl _) ?_,rfl,q _ (I.hok.fresh (Nat.le_refl _))⟩
 exact⟨Nat.le_trans (Zcu xs lo hi) hz,_,0,(r.drop (HT.sIx xs.length 0 lo)).take (HT.sIx xs.length xs.length hi-HT.sIx xs.length 0 lo),Heap.get?_push_size _ rfl⟩
noncomputable def ZbH:V->Bool
 |.non=>true
 |.bl _=>true
 |.int _=>true
 |.str _=>true
 |_=>false
noncomputable def eqV:V->V->Bool
 |.non,.non=>true
 |.bl a,.bl b=>a==b
 |.bl a,.int b=>(if a then 1 else 0)==b
 |.int a,.bl b=>a==(if b then 1 else 0)
 |.int a,.int b=>a==b
 |.str a,.str b=>a==b
 |_,_=>false
theorem eqAt_V{A:Around}{s:Shared}{y x:V}{u v:Value}(ry:RelV y u)(rx:RelV x v)(fy:ZbH y=true)(fx:ZbH x=true):SeqAt.EqAt A s u v (eqV y x):=by
 cases y with
 |non =>
  cases ry
  cases x with
  |non=>cases rx;exact SeqAt.EqAt.same _
  |bl b=>cases rx;exact SeqAt.EqAt.none_bool b
  |int b=>obtain⟨t,rfl⟩:=rx;exact SeqAt.EqAt.none_int b t
  |str b=>obtain⟨t,rfl⟩:=rx;exact SeqAt.EqAt.none_str b t
  |_=>exact absurd (show false=true from fx) Bool.false_ne_true
 |bl a =>
  cases ry
  cases x with
  |non=>cases rx;exact SeqAt.EqAt.bool_none a
  |bl b=>cases rx;exact SeqAt.EqAt.bool_bool a b
  |int b=>obtain⟨t,rfl⟩:=rx;exact SeqAt.EqAt.bool_int a b t
  |str b=>obtain⟨t,rfl⟩:=rx;exact SeqAt.EqAt.bool_str a b t
  |_=>exact absurd (show false=true from fx) Bool.false_ne_true
 |int a =>
  obtain⟨t',rfl⟩:=ry
  cases x with
  |non=>cases rx;exact SeqAt.EqAt.int_none a t'
  |bl b=>cases rx;exact SeqAt.EqAt.int_bool a t' b
  |int b=>obtain⟨t,rfl⟩:=rx;exact SeqAt.EqAt.int_int a t' b t
  |str b=>obtain⟨t,rfl⟩:=rx;exact SeqAt.EqAt.int_str a t' b t
  |_=>exact absurd (show false=true from fx) Bool.false_ne_true
 |str a =>
  obtain⟨t',rfl⟩:=ry
  cases x with
  |non=>cases rx;exact SeqAt.EqAt.str_none a t'
  |bl b=>cases rx;exact SeqAt.EqAt.str_bool a t' b
  |int b=>obtain⟨t,rfl⟩:=rx;exact SeqAt.EqAt.str_int a t' b t
  |str b=>obtain⟨t,rfl⟩:=rx;exact SeqAt.EqAt.str_str a t' b t
  |_=>exact absurd (show false=true from fx) Bool.false_ne_true
 |_=>exact absurd (show false=true from fy) Bool.false_ne_true
noncomputable def eqU(x:V)(u:Value):Bool:=match u with
 |.none=>eqV .non x
 |.bool b=>eqV (.bl b) x
 |.int i _=>eqV (.int i) x
 |.str z _=>eqV (.str z) x
 |_=>false
theorem Zlv{x y:V}{u:Value}(r:RelV y u)(f:ZbH y=true):eqU x u=eqV y x:=by
 cases y with
 |non=>cases r;rfl
 |bl b=>cases r;rfl
 |int i=>obtain⟨t,rfl⟩:=r;rfl
 |str z=>obtain⟨t,rfl⟩:=r;rfl
 |_=>exact absurd (show false=true from f) Bool.false_ne_true
theorem ZcD{x:V}:∀{xs:List V}{us:List Value},Vals xs us->xs.all ZbH=true->us.any (eqU x)=xs.any λy=>eqV y x
 |_,_,.nil,_=>rfl
 |y::xs,u::us,.cons r t,f=>by
  rw[List.all_cons,Bool.and_eq_true]at f
  rw[List.any_cons,List.any_cons,Zlv r f.1,ZcD t f.2]
theorem ZaD{A:Around}{s:Shared}{x:V}{v:Value}(rx:RelV x v)(fx:ZbH x=true):∀{xs:List V}{us:List Value},Vals xs us->xs.all ZbH=true->∀u∈us,SeqAt.EqAt A s u v (eqU x u)
 |_,_,.nil,_=>λu hu=>by cases hu
 |y::xs,u::us,.cons r t,f=>λu' hu=>by
  rw[List.all_cons,Bool.and_eq_true]at f
  rcases List.mem_cons.mp hu with rfl|hu
  ·rw[Zlv r f.1];exact eqAt_V r rx f.1 fx
  ·exact ZaD rx fx t f.2 u' hu
noncomputable def inV(x:V)(xs:List V):Bool:=xs.any λy=>eqV y x
noncomputable def rIn(K:Frag)(neg:Bool):R2:=λx y H Q=>∃p xs,y=.ref p/\(SqL K H p xs∨SqT K H p xs)/\ZbH x=true/\xs.all ZbH=true/\Q (.bl (if neg then !inV x xs else inV x xs)) H
theorem Zeu:OpR X (compareOp .In) (rIn X.K false):=by
 intro pins s σ H x y v u Q I rx ry h
 obtain⟨p,xs,rfl,hq,fx,fs,q⟩:=h
 cases ry
 rcases hq with hq|hq
 ·obtain⟨its,r,pl,hz⟩:=I.list hq
  refine SeqAt.in_listAt (eqU x) pl.isList (λw hw=>ZaD rx fx r fs w (by simpa using hw)) ⟨.bl _,H,I,rfl,?_⟩
  rw[show its.toArray.any (eqU x)=its.any (eqU x) by simp,ZcD r fs]
  exact q
 ·obtain⟨its,r,pl,hz⟩:=I.tuple hq
  refine SeqAt.in_tupleAt (eqU x) pl (λw hw=>ZaD rx fx r fs w (by simpa using hw)) ⟨.bl _,H,I,rfl,?_⟩
  rw[show its.toArray.any (eqU x)=its.any (eqU x) by simp,ZcD r fs]
  exact q
theorem Zbq:OpR X (compareOp .NotIn) (rIn X.K true):=by
 intro pins s σ H x y v u Q I rx ry h
 obtain⟨p,xs,rfl,hq,fx,fs,q⟩:=h
 cases ry
 rcases hq with hq|hq
 ·obtain⟨its,r,pl,hz⟩:=I.list hq
  refine SeqAt.notIn_listAt (eqU x) pl.isList (λw hw=>ZaD rx fx r fs w (by simpa using hw)) ⟨.bl _,H,I,rfl,?_⟩
  rw[show its.toArray.any (eqU x)=its.any (eqU x) by simp,ZcD r fs]
  exact q
 ·obtain⟨its,r,pl,hz⟩:=I.tuple hq
  refine SeqAt.notIn_tupleAt (eqU x) pl (λw hw=>ZaD rx fx r fs w (by simpa using hw)) ⟨.bl _,H,I,rfl,?_⟩
  rw[show its.toArray.any (eqU x)=its.any (eqU x) by simp,ZcD r fs]
  exact q
theorem ZaQ:ZaT X (.type "tuple") (λxs H Q=>∃p ys,xs=[.ref p]/\((SqL X.K H p ys/\∀l,H l=none->Q (.ref l) (upd H l (.tup ys)))∨(SqT X.K H p ys/\Q (.ref p) H))):=by
 intro pins s σ H xs us Q I r h
 obtain⟨p,ys,rfl,h⟩:=h
 obtain⟨u,rfl,rx⟩:=vals1 r
 cases rx
 rcases h with⟨hq,q⟩|⟨hq,q⟩
 ·obtain⟨its,r',pl,hz⟩:=I.list hq
  have hlen:=r'.length
  refine call_tuple_list pl.isList (λh' kp=>?_) (by simp only[List.size_toArray]<;>omega)
  have I1:Inv X pins σ H { s with heap:=h' }:=I.kept (t':=s.toks) kp
  have I2:Inv X pins σ (upd H h'.objs.size (.tup ys)) { s with heap:=h'.push { cls:=.type "tuple",data:=.seq its.toArray } }:=
   I1.laid (t':=s.toks) (λb o e=>Heap.get?_push_of_some _ e) (Nat.le_refl _) (show Qc X.prog X.w _ _ _ (.tup ys)from⟨hz,its,r',TupP.new _ _⟩)
  exact⟨.ref h'.objs.size,_,I2,rfl,q _ (I1.hok.fresh (Nat.le_refl _))⟩
 ·obtain⟨its,r',pl,hz⟩:=I.tuple hq
  exact call_tuple_same pl ⟨.ref p,H,I,rfl,q⟩
noncomputable def tyV(K:Frag)(T:String)(x:V)(H:Hp):Prop:=match x with
 |.str _=>T = "str"
 |.int _=>T = "int"
 |.ref p=>(T = "list"/\∃xs,SqL K H p xs)∨(T = "tuple"/\∃o,K.lookup p=some o/\o.cls=.type "tuple"/\o.dict=none) ∨
  (T = "dict"/\((∃kvs,H p=some (.dK kvs))∨∃kvs,H p=some (.dT kvs)))∨(T = "set"/\∃S n,H p=some (.set S n))
 |_=>False
theorem ZkZ{pins:List (Addr×Obj)}{σ:St}{H:Hp}{s:Shared}{T:String}{x:V}{v:Value}(I:Inv X pins σ H s)(r:RelV x v)(ty:tyV X.K T x H):
  s.TypeIs v T/\∀a,v=.ref a->∃ob,s.heap.get? a=some ob/\ob.dict=none:=by
 cases x with
 |str z =>
  obtain⟨t,rfl⟩:=r
  cases(show T = "str" from ty)
  exact⟨typeIs_str s z t,λ_ e=>nomatch e⟩
 |int i =>
  obtain⟨t,rfl⟩:=r
  cases(show T = "int" from ty)
  exact⟨typeIs_int s i t,λ_ e=>nomatch e⟩
 |ref p =>
  cases r
  rcases ty with⟨rfl,xs,hq⟩|⟨rfl,o,hk,hc,hd⟩|⟨rfl,hk⟩|⟨rfl,S,n,hk⟩
  ·obtain⟨its,_,pl,_⟩:=I.list hq
   refine⟨pl.isList.typeIs,λa e=>?_⟩
   cases e
   obtain⟨o,n,e,c,hd,_⟩:=pl
   exact⟨o,e,hd⟩
  ·refine⟨⟨o,I.kIn p o hk,hc⟩,λa e=>?_⟩
   cases e
   exact⟨o,I.kIn _ o hk,hd⟩
  ·have z:∃o,s.heap.get? p=some o/\o.ExactDict:=by
    rcases hk with⟨kvs,hk⟩|⟨kvs,hk⟩
    ·obtain⟨_,_,_,_,o,_,_,e,ex,_⟩:=I.hok p _ hk
     exact⟨o,e,ex⟩
    ·obtain⟨_,_,_,_,o,_,_,e,ex,_⟩:=I.hok p _ hk
     exact⟨o,e,ex⟩
   obtain⟨o,e,ex⟩:=z
   refine⟨⟨o,e,ex.1⟩,λa e2=>?_⟩
   cases e2
   exact⟨o,e,ex.2.1⟩
  ·obtain⟨o,_,_,_,e,ex,_⟩:=I.hok p _ hk
   refine⟨⟨o,e,ex.1⟩,λa e2=>?_⟩
   cases e2
   exact⟨o,e,ex.2.1⟩
 |_=>exact False.elim ty
noncomputable def tBM0(K:Frag)(T:String)(r:V->List V->Hp->VK->Prop)(to:TE):TE:=λσ H Q=>to σ H λx H1=>tyV K T x H1/\r x [] H1 Q
noncomputable def tBM(K:Frag)(T:String)(r:V->List V->Hp->VK->Prop)(to:TE)(t:TA):TE:=λσ H Q=>to σ H λx H1=>tyV K T x H1/\t σ H1 λxs H2=>r x xs H2 Q
variable{o e:Expr}{es:List Expr}{to:TE}{t:TA}{name:Str}{apos cpos:Pos}{T id:String}{r:V->List V->Hp->VK->Prop}
theorem pe_bm0(pa:PlainAttrs T)(slot:Slot T name id)(hty:typeOf (.builtin id)=pure (.type "method_descriptor"))(hm:MtR X id r)(ho:PE X o to)(hbase:attributeBase o name X.env (eval o X.env)=eval o X.env:=by rfl)(hline:(apos.endLine==cpos.line)=true:=by rfl):PE X (.Call (.Attribute o name apos) [] [] cpos) (tBM0 X.K T r to):=by
 intro pins s σ H Q I h
 refine wpAny_Call_method0_late hbase hline (thn (ho pins s σ H _ I h) λv s1 ⟨x,H1,I1,r1,ty,q1⟩=>?_)
 obtain⟨h1,h2⟩:=ZkZ I1 r1 ty
 exact⟨T,id,pa,slot,hty,h1,h2,Calls.callWith_builtin rfl (PySem.evalArgs_none (hm pins s1 σ H1 x [] v [] Q I1 r1 .nil q1))⟩
theorem Zki(pa:PlainAttrs T)(slot:Slot T name id)(hty:typeOf (.builtin id)=pure (.type "method_descriptor"))(hm:MtR X id r)(ho:PE X o to)(ha:PA X (e::es) t)(hbase:attributeBase o name X.env (eval o X.env)=eval o X.env:=by rfl)(hfew:((backTo cpos (starEach (e::es) X.env)).all (λx=>!x.1)&&(backToKw cpos (keywordEach [] X.env)).all (λx=>x.1.isSome)
   && decide ((e::es).length+([]:List Keyword).length+(if([]:List Keyword).isEmpty then 0 else 1)<30))=true:=by rfl)(hline:(apos.endLine==cpos.line)=true:=by rfl)(hs:starEach (e::es) X.env=(false,eval e X.env)::starEach es X.env:=by rfl)(hplain:(backTo cpos (starEach es X.env)).any (·.1)=false:=by rfl):
  PE X (.Call (.Attribute o name apos) (e::es) [] cpos) (tBM X.K T r to t):=by
 intro pins s σ H Q I h
 refine wpAny_Call_method_late hbase hfew hline rfl (thn (ho pins s σ H _ I h) λv s1 ⟨x,H1,I1,r1,ty,q1⟩=>?_)
 obtain⟨h1,h2⟩:=ZkZ I1 r1 ty
 refine⟨T,id,pa,slot,hty,h1,h2,?_⟩
 have hA:=ha cpos pins s1 σ H1 _ I1 q1
 rw[hs]at hA ⊢
 refine Calls.callWith_builtin (by show(false || (backTo cpos (starEach es X.env)).any (·.1))=false;rw[hplain]<;>rfl) (Calls.evalArgs_plain ?_)
 exact thn hA λus s2 ⟨vs,H2,I2,r2,q2⟩=>hm pins s2 σ H2 x vs v us Q I2 r1 r2 q2
end
noncomputable def MtM(X:Cx)(id:String)(r:V->List V->Hp->VK->Prop):Prop:=
 ∀(pins:List (Addr×Obj)) (s:Shared) (σ:St) (H:Hp) (x:V) (xs:List V) (v:Value) (us:List Value) (Q:VK),Inv X pins σ H s->RelV x v->Vals xs us->r x xs H Q ->
  wpAny (model X.prog X.w) X.A (call (.builtin id) (v::us)) (EP X pins σ Q) X.xe s
theorem Vals.one:∀{x:V}{us:List Value},Vals [x] us->∃u,us=[u]/\RelV x u
 |_,_,.cons r .nil=>⟨_,rfl,r⟩
theorem Vals.zero:∀{us:List Value},Vals [] us->us=[]
 |_,.nil=>rfl
theorem Vals.dropLast{xs:List V}{us:List Value}(h:Vals xs us):Vals xs.dropLast us.dropLast:=by
 induction h with
 |nil=>exact .nil
 |cons r t ih =>
  cases t with
  |nil=>exact .nil
  |cons q t'=>exact .cons r ih
theorem Vals.rep{xs:List V}{us:List Value}(h:Vals xs us):∀k:Nat,Vals (List.replicate k xs).flatten (List.replicate k us).flatten
 |0=>.nil
 |k+1=>by
  rw[List.replicate_succ,List.replicate_succ,List.flatten_cons,List.flatten_cons]
  exact Vals.append h (Vals.rep h k)
theorem X3{α:Type}(l:List α):l.eraseIdx (l.length-1)=l.dropLast:=by
 induction l with
 |nil=>rfl
 |cons a r ih =>
  cases r with
  |nil=>rfl
  |cons b r =>
   have e:(a::b::r).length-1=((b::r).length-1)+1:=by
    have h1:(a::b::r).length=r.length+2:=rfl
    have h2:(b::r).length=r.length+1:=rfl
    omega
   rw[e,List.eraseIdx_cons_succ,ih]
   all_goals rfl
theorem foldl_rep(its:List Value):∀(k:Nat) (acc:List Value),
  List.foldl (λx1 x2=>x1++x2) acc.toArray (List.replicate k its.toArray)=(acc++(List.replicate k its).flatten).toArray
 |0,acc=>by simp
 |k+1,acc=>by
  have e:acc.toArray++its.toArray=(acc++its).toArray:=by simp
  have e2:(acc++its)++(List.replicate k its).flatten=acc++(List.replicate (k+1) its).flatten:=by
   rw[List.replicate_succ,List.flatten_cons,List.append_assoc]
  rw[<-e2,<-foldl_rep its k (acc++its),<-e,List.replicate_succ,List.foldl_cons]
section
variable{X:Cx}{pins:List (Addr×Obj)}{σ:St}{H:Hp}{s:Shared}{l b:Addr}{xs ys zs:List V}
theorem Inv.lset{its its':List Value}{n:Nat}{f:Array Value->Array Value}{t':Nat}(I:Inv X pins σ H s)(hH:H l=some (.lst xs))(e:s.heap.get? l=some { cls:=.type "list",data:=.seq its.toArray n })(hf:f its.toArray=its'.toArray)(hv:Vals ys its')(hz:ys.length<=sizeLine):
  Inv X pins σ (upd H l (.lst ys)) { s with heap:=s.heap.update l (Obj.mapSeq f),toks:=t' }:=by
 have q:=PySem.IsL.update e f
 rw[hf]at q
 refine I.write (x:=l) (e:=l) (by rw[hH];exact trivial) (.inl rfl) (λb' u hb hu=>(Heap.get?_update_other s.heap (Obj.mapSeq f) (Ne.symm hb)).trans hu) ⟨_,q⟩ ?_
 exact⟨hz,its',_,hv,q⟩
theorem Inv.lnew{its:List Value}{t':Nat}(I:Inv X pins σ H s)(hv:Vals ys its)(hz:ys.length<=sizeLine):
  Inv X pins σ (upd H s.heap.objs.size (.lst ys)) { s with heap:=s.heap.push { cls:=.type "list",data:=.seq its.toArray },toks:=t' }:=
 I.laid (λ_ _ q=>Heap.get?_push_of_some _ q) (Nat.le_refl _) ⟨hz,its,0,hv,Heap.get?_push_size _ rfl⟩
theorem Inv.fresh(I:Inv X pins σ H s):H s.heap.objs.size=none:=I.hok.fresh (Nat.le_refl _)
theorem Inv.lstM(I:Inv X pins σ H s)(hH:H l=some (.lst xs)):xs.length<=sizeLine/\∃(its:List Value) (n:Nat),Vals xs its/\xs.length=its.length/\s.heap.get? l=some { cls:=.type "list",data:=.seq its.toArray n }:=by
 obtain⟨z,its,n,r,e⟩:=I.hok l _ hH
 exact⟨z,its,n,r,r.length,e⟩
theorem Zkl{n:Nat}(h:n<=sizeLine):Builtin.List.listTooLong n=false:=by
 unfold Builtin.List.listTooLong
 exact decide_eq_false (by omega)
end
section
variable{X:Cx}
noncomputable def Zfl:V->List V->Hp->VK->Prop:=λx vs H Q=>∃l xs y,x=.ref l/\vs=[y]/\H l=some (.lst xs)/\xs.length<sizeLine/\Q .non (upd H l (.lst (xs++[y])))
theorem ZeC:MtM X "list.append" Zfl:=by
 intro pins s σ H x vs v us Q I rx rv h
 obtain⟨l,xs,y,rfl,rfl,hH,hz,q⟩:=h
 cases rx
 obtain⟨u,rfl,ru⟩:=rv.one
 obtain⟨z,its,n,r,hl,e⟩:=I.lstM hH
 refine call_meets F.slot_list_append ⟨_,e,rfl⟩ F.entry_list_append (F.args_list_append_2 _ _) (PySem.list_append l its.toArray n u (by rw[List.size_toArray];omega)) ⟨e,?_⟩
 refine⟨.non,_,I.lset (its':=its++[u]) hH e (by simp) (r.append (.cons ru .nil)) ?_,rfl,q⟩
 rw[List.length_append,List.length_singleton]
 omega
noncomputable def rPop:V->List V->Hp->VK->Prop:=λx vs H Q=>∃l xs y,x=.ref l/\vs=[]/\H l=some (.lst xs)/\xs[xs.length-1]?=some y/\Q y (upd H l (.lst xs.dropLast))
theorem mt_pop:MtM X "list.pop" rPop:=by
 intro pins s σ H x vs v us Q I rx rv h
 obtain⟨l,xs,y,rfl,rfl,hH,hy,q⟩:=h
 cases rx
 have hus:=rv.zero
 subst hus
 obtain⟨z,its,n,r,hl,e⟩:=I.lstM hH
 obtain⟨u,hu,ru⟩:=r.get hy
 have hy':its.toArray[its.toArray.size-1]?=some u:=by
  show its.toArray[its.length-1]?=some u
  rw[<-Array.getElem?_toList,<-hl]
  exact hu
 refine call_meets F.slot_list_pop ⟨_,e,rfl⟩ F.entry_list_pop (F.args_list_pop_1 _) (MeetsSeq.list_pop_last l its.toArray n u hy' (by rw[List.size_toArray];omega)) ⟨e,?_⟩
 refine⟨y,_,I.lset (its':=its.dropLast) hH e ?_ r.dropLast ?_,ru,q⟩
 ·show its.toArray.eraseIdxIfInBounds (its.toArray.size-1)=its.dropLast.toArray
  rw[List.size_toArray,List.eraseIdxIfInBounds_toArray,X3]
 ·rw[List.length_dropLast]
  omega
noncomputable def rCat:R2:=λx y H Q=>∃l b xs zs,x=.ref l/\y=.ref b/\H l=some (.lst xs)/\H b=some (.lst zs)/\xs.length+zs.length<=sizeLine/\∀p,H p=none->Q (.ref p) (upd H p (.lst (xs++zs)))
theorem op_cat:OpR X (binaryOp .Add) rCat:=by
 intro pins s σ H x y v u Q I rx ry h
 obtain⟨l,b,xs,zs,rfl,rfl,hH,hB,hz,q⟩:=h
 cases rx
 cases ry
 obtain⟨z,its,n,r,hl,e⟩:=I.lstM hH
 obtain⟨z2,its2,n2,r2,hl2,e2⟩:=I.lstM hB
 refine PySem.P.add_list e e2 ?_ (by rw[List.size_toArray,List.size_toArray];omega)
 have ea:its.toArray++its2.toArray=(its++its2).toArray:=by simp
 rw[ea]
 exact⟨.ref _,_,I.lnew (t':=s.toks) (r.append r2) (by rw[List.length_append];omega),rfl,q _ I.fresh⟩
noncomputable def rRep:R2:=λx y H Q=>∃l k xs,x=.ref l/\y=.int k/\H l=some (.lst xs)/\-(2^63)<=k/\k<2^63/\xs.length*k.toNat<=sizeLine /\
 ∀p,H p=none->Q (.ref p) (upd H p (.lst (List.replicate k.toNat xs).flatten))
theorem len_rep{α:Type}(xs:List α)(k:Nat):(List.replicate k xs).flatten.length=k*xs.length:=by
 induction k with
 |zero=>simp
 |succ k ih=>rw[List.replicate_succ,List.flatten_cons,List.length_append,ih,Nat.succ_mul,Nat.add_comm]
theorem op_rep:OpR X (binaryOp .Mult) rRep:=by
 intro pins s σ H x y v u Q I rx ry h
 obtain⟨l,k,xs,rfl,rfl,hH,h1,h2,hz,q⟩:=h
 cases rx
 obtain⟨t,rfl⟩:=ry
 obtain⟨z,its,n,r,hl,e⟩:=I.lstM hH
 have hlen:its.toArray.size*k.toNat<=sizeLine:=by rw[List.size_toArray,<-hl];exact hz
 have hcap:¬its.toArray.size*k.toNat>(2^63-1) / 8:=by
  have:(sizeLine:Nat)<=(2^63-1) / 8:=by decide
  omega
 have hfit:¬(!Builtin.List.listFitsIndex k)=true:=by
  rw[fitsIndex_both h1 h2]
  exact Bool.false_ne_true
 have hlong:¬Builtin.List.listTooLong (its.toArray.size*k.toNat)=true:=by
  rw[Zkl hlen]
  exact Bool.false_ne_true
 have hnew:List.foldl (λx1 x2=>x1++x2) #[] (List.replicate (if its.toArray.isEmpty=true then 0 else k.toNat) its.toArray)=(List.replicate k.toNat its).flatten.toArray:=by
  have f0:∀m:Nat,List.foldl (λx1 x2=>x1++x2) #[] (List.replicate m its.toArray)=(List.replicate m its).flatten.toArray:=λm=>by
   have:=foldl_rep its m []
   rw[List.nil_append]at this
   exact this
  rw[f0]
  cases its with
  |nil=>simp
  |cons a r'=>rw[if_neg (by simp)]
 refine wpAny_binaryOp_repeat_ref (T:="list") (U:="int") (by decide) ⟨_,e,rfl⟩ (λs'=>typeIs_int s' k t) noFill_list_mul F.fills_int_mul F.slot_int_rmul repeat_list F.slot_int_index.lookup
  (call_meets F.slot_int_rmul (typeIs_int s k t) F.entry_int_rmul (F.args_int_rmul_2 _ _) (int___rmul___int_list k t l its.toArray n)
   ⟨e,rfl,⟨_,e,rfl⟩,call_meets F.slot_list_mul ⟨_,e,rfl⟩ F.entry_list_mul (F.args_list_mul_2 _ _) (AutoListH.list___mul___list_int_3 l its.toArray n k t hfit hcap hlong) ⟨e,?_⟩⟩)
 rw[hnew]
 exact⟨.ref _,_,I.lnew (t':=s.toks) (r.rep k.toNat) (by rw[len_rep,Nat.mul_comm];exact hz),rfl,q _ I.fresh⟩
end
section
variable{prog:Program}{w:World}{A:Around}{E:Value->Shared->Prop}{s:Shared}
set_option maxRecDepth 100000 in
end
end L2
namespace Att
open PySem PySem.W PySem.Calls PyProof.Rows
theorem Zcp{P:Params}{h:Heap}:∀(ns:List Int) (vs:List Value),WellAll P h vs (ns.map WData.int)->IntsAre vs ns:=by
 intro ns
 induction ns with
 |nil =>
  intro vs w
  rw[List.map_nil]at w
  cases w
  exact .nil
 |cons n ns ih =>
  intro vs w
  rw[List.map_cons]at w
  cases w with
  |cons a b =>
   cases a
   exact .cons _ _ (ih _ b)
theorem ZhU{l:OpenLaw}{n:Nat}(hn:l.most=some n){P:Params}{h:Heap}{args:List WData}{vals:List Value}(hpre:l.row.toRowW.claim.pre args=true)(hwl:WellAll P h vals args):
  ∃a vs ns,vals=[Value.ref a]/\args=[WData.list (ns.map WData.int)]/\h.get? a=some { cls:=.type "list",data:=.seq vs.toArray }/\IntsAre vs ns/\ns.length<=n:=by
 have hsh:WShape.hasAll [] args [.list .int]=true:=(pre_splitW hpre).1
 have hc:l.pre.holds [] { args:=args }=true:=(pre_splitW hpre).2
 obtain⟨d,r,rfl,h1,h2⟩:=hasAllW_cons hsh
 obtain rfl:=hasAllW_nil h2
 obtain⟨xs,rfl,h3⟩:=hasW_list h1
 obtain⟨ns,rfl⟩:=items_int h3
 have hlen:ns.length<=n:=by
  unfold OpenLaw.pre at hc
  have h4:(WTm.not (.lt (.lit (.int (n:Int))) (.len (.arg 0)))).holds [] { args:=[.list (ns.map .int)] }=true:=by
   have h4:=(holds_andW hc).1
   rw[hn]at h4
   exact h4
  have h5:=condW_of h4 (w_not (w_lt w_lit (w_len_list (w_arg rfl))))
  rw[List.length_map]at h5
  refine Nat.le_of_not_lt λq=>?_
  have q':(n:Int)<((ns.length:Nat):Int):=by omega
  first
   |(rw[decide_eq_true q']at h5;exact absurd h5 (by decide))
   |(simp at h5;omega)
 cases hwl with
 |cons w1 w2 =>
  cases w2
  cases w1 with
  |list ho hall=>exact⟨_,_,ns,rfl,rfl,ho,Zcp ns _ hall,hlen⟩
theorem Zib(l:OpenLaw)(args:List WData):l.row.toRowW.claim.post args (.bool true) args=true:=
 postW_of (r:=l.row.toRowW) (X:=(true==true))
  (show WShape.has [] (.bool true) .bool=true by first|rfl|decide|simp[WShape.has,WShape.arms,WShape.armsAll])
  (show(WTm.eq .res (.lit (.bool true))).value [] { args:=args,res:=some (.bool true),after:=args }=some (.bool (true==true))from w_eq_bool (w_res rfl) w_lit) rfl
theorem attach_call{l:OpenLaw}{n:Nat}{q:Program}{loose:List Str}{XP:(Str->Option Value)->Heap->Prop}{YP:World->Heap->Prop}{d:DefRec}(hn:l.most=some n)(hdf:d.params.defaults=[])(call:∀(w:World) (s₀ s₁:Shared) (mg mb:Str->Option Value) (fa:Addr) (o:Obj) (pm cd doc:Value) (a:Addr) (vs:List Value) (ns:List Int),
   Ground q loose [] XP w s₀ mg mb s₁.heap->YP w s₁.heap ->
   s₁.heap.get? fa=some o->o.data=.func (docDef d.name d.params d.body d.scope pm cd doc)->s₁.heap.CodeRec cd d.name->mg d.name=some (.ref fa) ->
   s₁.heap.get? a=some { cls:=.type "list",data:=.seq vs.toArray }->IntsAre vs ns->ns.length<=n->s₁.gens=#[] ->
   codeAny (model l.prog w) callerA (.call (.ref fa) ⟨[.ref a],[]⟩) (λr s'=>r=.ok (.ret (.bool true))/\OldK s₁.heap s'.heap/\s'.os=s₁.os/\AllBare s'.gens) s₁):
  WalkO q loose XP YP l.row.toRowW d [] (λf vs=>PySem.call f vs):=by
 intro w s₀ s₁ mg mb G Y fa o pm cd doc dV kV ho hd hcd hD hmg hg args vals as hpre hlay hrd hwl hlo
 obtain rfl:dV=.none:=Dflts.none hD hdf
 obtain rfl:kV=.none:=Dflts.noKw hD
 obtain⟨a,vs,ns,rfl,rfl,hobj,hints,hlen⟩:=ZhU hn hpre hwl
 refine enter_call (codeAny_mono (call w s₀ s₁ mg mb fa o pm cd doc a vs ns G Y ho (fd_plain hd) hcd hmg hobj hints hlen hg) λr s' hq=>?_)
 obtain⟨rfl,h2,h3,h4⟩:=hq
 exact⟨.inl ⟨.bool true,.bool true,[],rfl,λ_=>rfl,.bool true,Zib l _,λ_=>⟨List.Pairwise.nil,λ_ hm=>(nomatch hm)⟩⟩,h2,h3,h4⟩
end Att
namespace L2
open PySem PySem.Spec PyProof.Rows
theorem Zd3:∀{vs:List Value}{ns:List Int},IntsAre vs ns->Vals (ns.map V.int) vs
 |_,_,.nil=>.nil
 |_,_,.cons n t h=>.cons ⟨t,rfl⟩ (Zd3 h)
noncomputable def Only(H:Hp):Prop:=∀b,H b=none∨∃o xs,H b=some (.frz o (.lst xs))
theorem law_call{P:Program}{w:World}{K:Frag}{mg mb:Str->Option Value}{CX:CXT}{k:Nat}{fa a:Addr}{fd:FuncData}{x:Str}{sp:Sp}{s₁:Shared}{vs:List Value}{ns:List Int}(KX:K.In s₁.heap)(hns:s₁.heap.Ns mainGlobals mg)(hb:s₁.heap.Ns builtinsNs mb)(hbb:∀x:Str,x≠"__name__"->mb x=bootBuiltins x)(hlim:s₁.heap.NoLimit)(hg:s₁.gens=#[])(ha:s₁.heap.get? a=some { cls:=.type "list",data:=.seq vs.toArray })(hi:IntsAre vs ns)(hl:ns.length<=sizeLine)(hr:Room k callerA)(F:∀base:Heap,K.In base->base.Ns mainGlobals mg->FnOk P w K mg base CX k fa fd [x] sp)(hbind:∀(s:Shared) (u:Value),BindsTo s fd ⟨[u],[]⟩ [(x,u)])(hsp:∀H:Hp,Only H->SqL K H a (ns.map V.int)->sp [.ref a] H (λv _=>v=.bl true) λ_ _ _=>False)(hCX:∀H e s',CX [] H s₁ (λ_ _ _=>False) e s'->False):
  codeAny (model P w) callerA (.call (.ref fa) ⟨[.ref a],[]⟩) (λr s'=>r=.ok (.ret (.bool true))/\OldK s₁.heap s'.heap/\s'.os=s₁.os/\AllBare s'.gens) s₁:=by
 have rv:=Zd3 hi
 have lenV:=hi.length
 -- from an abstract heap in which nothing but the script may be tracked
 have core:∀H:Hp,Only H->SqL K H a (ns.map V.int)->HOk P w H s₁.heap->(∀b,H b≠none->b=a)->(H a≠none->K.lookup a=none) ->
   codeAny (model P w) callerA (.call (.ref fa) ⟨[.ref a],[]⟩) (λr s'=>r=.ok (.ret (.bool true))/\OldK s₁.heap s'.heap/\s'.os=s₁.os/\AllBare s'.gens) s₁:=by
  intro H hO hS hok hA hK
  have base_of:∀{b:Addr}{o:Obj},s₁.heap.get? b=some o->H b=none->(hidT s₁.heap H).get? b=some o:=λe n=>Zkw e n
  have noA:∀{b:Addr}{o:Obj}{es:Array DictEntry}{ep:Nat},s₁.heap.get? b=some o->o.data=.dict es ep->H b=none:=λ{b o es ep} e d=>by
   cases q:H b with
   |none=>rfl
   |some u =>
    have e':b=a:=hA b (by rw[q];simp)
    subst e'
    rw[ha]at e;cases e
    have d':Data.seq vs.toArray _=Data.dict es ep:=d
    cases d'
  have nsK:∀{b:Addr}{m:Str->Option Value},s₁.heap.Ns b m->(hidT s₁.heap H).Ns b m:=λ{b m} ⟨o,es,ep,e,d,r⟩=>⟨o,es,ep,base_of e (noA e d),d,r⟩
  have hKb:K.In (hidT s₁.heap H):=λb o e=>base_of (KX b o e) (by
   cases q:H b with
   |none=>rfl
   |some u =>
    have e':b=a:=hA b (by rw[q];simp)
    subst e'
    rw[hK (by rw[q];simp)]at e;cases e)
  have hM:Mod K mg (hidT s₁.heap H):=⟨hKb,nsK hns,⟨mb,nsK hb,hbb⟩,let⟨mc,h1,h2⟩:=hlim;⟨mc,nsK h1,h2⟩⟩
  have e0:Env0 P w K mg (hidT s₁.heap H) callerA [] s₁ H:=⟨rfl,hM,λb o e=>ZmK e,Nat.le_of_eq (ZiO _ _),trivial,λb hb=>absurd (show b∈([]:List Addr)from hb) (by simp),hok,.of_eq hg⟩
  refine codeAny_mono ((F _ hKb (nsK hns)).run callerA [] s₁ H ⟨[.ref a],[]⟩ [.ref a] [.ref a] _ _ hr e0 (hbind s₁ (.ref a)) (.cons rfl .nil) (hsp H hO hS)) λr s' h=>?_
  cases r with
  |error e=>exact(hCX H e s' h).elim
  |ok fl =>
   cases fl with
   |next=>exact False.elim h
   |brk=>exact False.elim h
   |cont=>exact False.elim h
   |ret u =>
    obtain⟨v,H',os,bare,un,hok',r',q⟩:=h
    have q':v=.bl true:=q
    subst q'
    obtain rfl:u=Value.bool true:=r'
    refine⟨rfl,OldK.of_keep λb o e=>?_,os,bare⟩
    cases q:H b with
    |none=>exact un.keep b o e q (by intro z;exact absurd (show b∈([]:List Addr)from z) (by simp)) (by simp)
    |some u =>
     rcases hO b with z|⟨ob,xs,z⟩
     ·rw[q]at z;cases z
     ·have z2:=un.frzs b ob _ z
      obtain⟨e1,_⟩:=hok b _ z
      obtain⟨e2,_⟩:=hok' b _ z2
      rw[e]at e1;cases e1
      exact e2
 cases hk:K.lookup a with
 |some o =>
  -- the script is one of the module's own objects
  have e:=KX a o hk
  rw[ha]at e
  cases e
  refine core (λ_=>none) (λ_=>.inl rfl) (.inr ⟨_,vs.toArray,_,hk,rfl,rfl,rfl,by rw[List.size_toArray,lenV];exact hl,by simpa using rv⟩) (λb u z=>by have z':(none:Option HO)=some u:=z;cases z') (λb z=>absurd rfl z) λz=>absurd rfl z
 |none =>
  refine core (λb=>if b=a then some (.frz { cls:=.type "list",data:=.seq vs.toArray } (.lst (ns.map V.int)))else none) (λb=>?_) (.inl (.inr ⟨{ cls:=.type "list",data:=.seq vs.toArray },if_pos rfl⟩)) (λb u z=>?_) (λb z=>?_) λ_=>hk
  ·by_cases hb:b=a
   ·exact .inr ⟨_,_,if_pos hb⟩
   ·exact .inl (if_neg hb)
  ·by_cases hb:b=a
   ·have z':=(if_pos hb).symm.trans z
    cases z'
    subst hb
    exact⟨ha,by rw[List.length_map];exact hl,vs,_,rv,ha⟩
   ·have z':=(if_neg hb).symm.trans z
    cases z'
  ·by_cases hb:b=a
   ·exact hb
   ·exact absurd (if_neg hb) z
theorem walk_of{l:OpenLaw}{n k:Nat}{q:Program}{loose:List Str}{XP:(Str->Option Value)->Heap->Prop}{YP:World->Heap->Prop}{d:DefRec}{K:Params->Frag}{CX:World->CXT}{sp:World->Sp}{x:Str}(hn:l.most=some n)(hn2:n<=sizeLine)(hdf:d.params.defaults=[])(hr:Room k callerA)(hY:∀(w:World) (h:Heap),YP w h->(K w.params).In h)(F:∀(w:World) (mg:Str->Option Value) (fa:Addr) (h:Heap),(K w.params).In h->h.Ns mainGlobals mg->mg d.name=some (.ref fa) ->
   ∃fd:FuncData,(∀(s:Shared) (u:Value),BindsTo s fd ⟨[u],[]⟩ [(x,u)]) /\
    ∀base:Heap,(K w.params).In base->base.Ns mainGlobals mg->FnOk l.prog w (K w.params) mg base (CX w) k fa fd [x] (sp w))(hsp:∀(w:World) (H:Hp) (a:Addr) (ns:List Int),ns.length<=n->Only H->SqL (K w.params) H a (ns.map V.int)->sp w [.ref a] H (λv _=>v=.bl true) λ_ _ _=>False)(hCX:∀(w:World) (H:Hp) (s:Shared) (e:Value) (s':Shared),CX w [] H s (λ_ _ _=>False) e s'->False):
  PySem.W.WalkO q loose XP YP l.row.toRowW d [] (λf vs=>PySem.call f vs):=by
 refine Att.attach_call hn hdf λw s₀ s₁ mg mb fa o pm cd doc a vs ns G Y ho hd hcd hmg hobj hints hlen hg=>?_
 have KX:=hY w _ Y
 obtain⟨fd,hb,hF⟩:=F w mg fa _ KX G.T.g hmg
 exact law_call KX G.T.g G.T.b G.T.builtins G.T.nolimit hg hobj hints (Nat.le_trans hlen hn2) hr hF hb (λH hO hS=>hsp w H a ns hlen hO hS) λH e s'=>hCX w H s₁ e s'
noncomputable def JW(s:Stmt):Arguments:=match s with
 |.FunctionDef _ a _ _ _ _ _ _ _ _=>a
 |_=>{ posonlyargs:=[],args:=[],vararg:=none,kwonlyargs:=[],kw_defaults:=[],kwarg:=none,defaults:=[] }
noncomputable def Ql(s:Stmt):List Stmt:=match s with
 |.FunctionDef _ _ b _ _ _ _ _ _ _=>b
 |_=>[]
noncomputable def Zc(s:Stmt):Scope:=match s with
 |.FunctionDef _ _ _ _ _ _ sc _ _ _=>sc
 |_=>{ kind:=.function,names:=[],isGenerator:=false,isCoroutine:=false }
noncomputable abbrev CX0:CXT:=λ_ _ _ _ _ _=>False
structure Fun (K:Frag) (x qual:Str) (st:Stmt) (f:Addr) (fd:FuncData):Prop where
 ex:∃(oc:Value) (od:Option Addr) (kV doc pm:Value) (an:Option Addr) (cdv ct:Value) (osl:Array (Option Value)),
  fd=fnOf x qual (JW st) (Ql st) (Zc st) .none kV doc pm an cdv ct/\K.lookup f=some ⟨oc,od,.func fd,osl⟩/\codeIn K cdv qual=true
 kp:keepIn K (.ref f)=true
section
variable{P:Program}{w:World}{K:Frag}{mg:Str->Option Value}{base:Heap}
theorem Fun.binds{x qual:Str}{st:Stmt}{f:Addr}{fd:FuncData}{ps:List Str}(F:Fun K x qual st f fd)(h:∀(kV doc pm:Value) (an:Option Addr) (cdv ct:Value) (us:List Value),us.length=ps.length->bindArgs (fnOf x qual (JW st) (Ql st) (Zc st) .none kV doc pm an cdv ct) ⟨us,[]⟩=pure (ps.zip us)):Binds K fd ps []:=by
 obtain⟨oc,od,kV,doc,pm,an,cdv,ct,osl,rfl,lk,hcd⟩:=F.ex
 exact .all (h kV doc pm an cdv ct)
theorem ZiR{x qual:Str}{st:Stmt}{f:Addr}{oc:Value}{od an:Option Addr}{osl:Array (Option Value)}{kV doc pm cdv ct:Value}(l:K.lookup f=some ⟨oc,od,.func (fnOf x qual (JW st) (Ql st) (Zc st) .none kV doc pm an cdv ct),osl⟩)(c:codeIn K cdv qual=true)(k:keepIn K (.ref f)=true):Fun K x qual st f (fnOf x qual (JW st) (Ql st) (Zc st) .none kV doc pm an cdv ct):=⟨⟨oc,od,kV,doc,pm,an,cdv,ct,osl,rfl,l,c⟩,k⟩
end
theorem iteF{A B:Prop}(h:B):if false=true then A else B:=by
 rw[if_neg Bool.false_ne_true]
 exact h
theorem iteT{A B:Prop}(h:A):if true=true then A else B:=by
 rw[if_pos rfl]
 exact h
noncomputable def Same(H H':Hp):Prop:=∀b o,H b=some o->H' b=some o
end L2
end
namespace L2
open PySem PySem.Spec PyProof.Rows
section
variable{κ:Type}[DecidableEq κ]
noncomputable def valV(kvs:List (κ×V))(k:κ):Option V:=(kvs.find? λkv=>decide (kv.1=k)).map (·.2)
noncomputable def putK(kvs:List (κ×V))(k:κ)(v:V):List (κ×V):=
 if(kvs.any λkv=>decide (kv.1=k))=true then kvs.map (λkv=>if kv.1=k then(kv.1,v)else kv)else kvs++[(k,v)]
noncomputable def dropK(kvs:List (κ×V))(k:κ):List (κ×V):=kvs.filter λkv=>decide (kv.1≠k)
theorem ZfX{p:κ×V}{r:List (κ×V)}{k:κ}(e:p.1=k):valV (p::r) k=some p.2:=by simp[valV,List.find?_cons,e]
theorem ZfY{p:κ×V}{r:List (κ×V)}{k:κ}(e:¬p.1=k):valV (p::r) k=valV r k:=by simp[valV,List.find?_cons,e]
theorem ZfD(kvs:List (κ×V))(k:κ)(v:V):(putK kvs k v).length<=kvs.length+1:=by
 unfold putK
 split
 ·rw[List.length_map];omega
 ·rw[List.length_append,List.length_cons,List.length_nil];omega
theorem KV.val{kvs:List (κ×V)}{vs:List (κ×Value)}(r:KV kvs vs)(k:κ):RelO (valV kvs k) (valueAt vs k):=by
 unfold KV at r
 induction r with
 |nil=>exact True.intro
 |@cons p q ps qs h t ih =>
  obtain⟨h1,h2⟩:=h
  by_cases e:p.1=k
  ·have e':q.1=k:=h1.symm.trans e
   have b:valueAt (q::qs) k=some q.2:=by simp[valueAt,List.find?_cons,e']
   rw[ZfX e,b];exact h2
  ·have e':¬q.1=k:=λz=>e (h1.trans z)
   have b:valueAt (q::qs) k=valueAt qs k:=by simp[valueAt,List.find?_cons,e']
   rw[ZfY e,b];exact ih
theorem KV.any{kvs:List (κ×V)}{vs:List (κ×Value)}(r:KV kvs vs)(k:κ):(kvs.any λkv=>decide (kv.1=k))=vs.any λkv=>decide (kv.1=k):=by
 unfold KV at r
 induction r with
 |nil=>rfl
 |cons h t ih=>rw[List.any_cons,List.any_cons,ih,h.1]
theorem KV.repl{kvs:List (κ×V)}{vs:List (κ×Value)}(r:KV kvs vs)(k:κ){y:V}{u:Value}(ry:RelV y u):
  KV (kvs.map λkv=>if kv.1=k then(kv.1,y)else kv) (vs.map λkv=>if kv.1=k then(kv.1,u)else kv):=by
 unfold KV at r ⊢
 induction r with
 |nil=>exact .nil
 |@cons p q ps qs h t ih =>
  rw[List.map_cons,List.map_cons]
  refine .cons ?_ ih
  obtain⟨h1,h2⟩:=h
  by_cases e:p.1=k
  ·rw[if_pos e,if_pos (h1.symm.trans e)];exact⟨h1,ry⟩
  ·rw[if_neg e,if_neg (λz=>e (h1.trans z))];exact⟨h1,h2⟩
theorem KV.put{kvs:List (κ×V)}{vs:List (κ×Value)}(r:KV kvs vs)(k:κ){y:V}{u:Value}(ry:RelV y u):KV (putK kvs k y) (stored vs k u):=by
 unfold putK stored
 rw[r.any k]
 by_cases e:(vs.any λkv=>decide (kv.1=k))=true
 ·rw[if_pos e,if_pos e];exact r.repl k ry
 ·rw[if_neg e,if_neg e];exact Paired.snoc r ⟨rfl,ry⟩
theorem KV.length{kvs:List (κ×V)}{vs:List (κ×Value)}(r:KV kvs vs):kvs.length=vs.length:=Paired.length r
end
theorem Zg5{P:Program}{w:World}{k:Key}{u:Value}(r:RelV (kV k) u):(Zx P w).is k u=true:=by
 cases k with
 |inl i=>obtain⟨t,e⟩:=(show ∃t,u=Value.int i t from r);subst e;exact ZfC P w i t
 |inr x=>obtain⟨t,e⟩:=(show ∃t,u=Value.str x t from r);subst e;exact ZfB P w x t
theorem ZeH{P:Program}{w:World}:∀{ks:List Key}{us:List Value},Vals (ks.map kV) us->ItemsAre (Zx P w) ks us
 |[],_,r=>by rw[List.map_nil]at r;cases r;exact .nil
 |k::ks,_,r=>by
  rw[List.map_cons]at r
  cases r with
  |cons h t=>exact .cons (Zg5 h) (ZeH t)
noncomputable abbrev KT(H:Hp):List (List Key×V)->List (List Key×Addr×Value)->Prop:=Paired λp q=>p.1=q.1/\H q.2.1=some (.tup (p.1.map kV))/\RelV p.2 q.2.2
theorem KT.val{H:Hp}{kvs:List (List Key×V)}{xs:List (List Key×Addr×Value)}(r:KT H kvs xs)(k:List Key):RelO (valV kvs k) ((atKey xs k).map (·.2)):=by
 induction r with
 |nil=>exact True.intro
 |@cons p q ps qs h t ih =>
  obtain⟨h1,_,h2⟩:=h
  by_cases e:p.1=k
  ·have e':q.1=k:=h1.symm.trans e
   have b:atKey (q::qs) k=some q.2:=by simp[atKey,List.find?_cons,e']
   rw[ZfX e,b];exact h2
  ·have e':¬q.1=k:=λz=>e (h1.trans z)
   have b:atKey (q::qs) k=atKey qs k:=by simp[atKey,List.find?_cons,e']
   rw[ZfY e,b];exact ih
section
variable{P:Program}{w:World}{H:Hp}{h:Heap}{a:Addr}
theorem rd_of{u:HO}(ok:HOk P w H h)(e:Rd H a u):Qc P w H h a u:=e.ok ok
theorem Znf{kvs:List (Key×V)}(ok:HOk P w H h)(e:Rd H a (.dK kvs)):kvs.length<=sizeLine/\(a==sysModules)=false/\∃vs,KV kvs vs/\h.DictOf (Zx P w) a vs:=
 show Qc P w H h a (.dK kvs)from rd_of ok e
theorem dk_of{kvs:List (Key×V)}(ok:HOk P w H h)(e:H a=some (.dK kvs)):kvs.length<=sizeLine/\(a==sysModules)=false/\∃vs,KV kvs vs/\h.DictOf (Zx P w) a vs:=Znf ok (.inl e)
theorem Zlg{ks:List Key}(ok:HOk P w H h)(e:H a=some (.tup (ks.map kV))):(tupleKind (Zx P w)).is h ks a:=by
 obtain⟨_,its,r,o,h1,h2,⟨n,h3⟩,_⟩:=(show Qc P w H h a (.tup (ks.map kV))from ok a _ e)
 exact⟨o,its.toArray,n,h1,h2,h3,by simpa using ZeH r⟩
theorem dt_rd{kvs:List (List Key×V)}(ok:HOk P w H h)(e:Rd H a (.dT kvs)):kvs.length<=sizeLine/\(a==sysModules)=false /\
  ∃xs,KT H kvs xs/\h.DictOfH (tupleKind (Zx P w)) a xs:=by
 obtain⟨z,y,xs,r,o,es,ep,h1,h2,h3,h4,h5⟩:=(show Qc P w H h a (.dT kvs)from rd_of ok e)
 refine⟨z,y,xs,r,o,es,ep,h1,h2,h3,h4,λx hx=>?_,h5⟩
 have all:∀{l:List (List Key×V)}{m:List (List Key×Addr×Value)},KT H l m->∀x∈m,(tupleKind (Zx P w)).is h x.1 x.2.1:=by
  intro l m q
  induction q with
  |nil=>intro x hx;exact nomatch hx
  |@cons p q ps qs hq t ih =>
   intro x hx
   rcases List.mem_cons.mp hx with e|hx
   ·subst e
    exact Zlg ok (by rw[<-hq.1];exact hq.2.1)
   ·exact ih x hx
 exact all r x hx
end
noncomputable def DGet(H:Hp)(a:Addr)(y:V)(r:Option V):Prop:=
 (∃kvs k,Rd H a (.dK kvs)/\y=kV k/\r=valV kvs k)∨∃kvs k b,Rd H a (.dT kvs)/\y=.ref b/\H b=some (.tup (k.map kV))/\r=valV kvs k
noncomputable def DPut(H:Hp)(a:Addr)(y v:V)(H':Hp):Prop:=
 (∃kvs k,H a=some (.dK kvs)/\y=kV k/\kvs.length<sizeLine/\H'=upd H a (.dK (putK kvs k v))) ∨
 ∃kvs k b,H a=some (.dT kvs)/\y=.ref b/\H b=some (.tup (k.map kV))/\kvs.length<sizeLine/\H'=upd H a (.dT (putK kvs k v))
theorem DGet.k{H:Hp}{a:Addr}{kvs:List (Key×V)}{k:Key}(e:H a=some (.dK kvs)):DGet H a (kV k) (valV kvs k):=.inl ⟨kvs,k,.inl e,rfl,rfl⟩
section
variable{X:Cx}{pins:List (Addr×Obj)}{σ:St}{H:Hp}{s:Shared}{a:Addr}{y v:V}{u r:Value}{o:Option V}{A:Around}{E:Value->Shared->Prop}
theorem Inv.big(I:Inv X pins σ H s):sysModules<s.heap.objs.size:=by
 have h:mainGlobals<s.heap.objs.size:=(I.mod.glob.keeps I.bk).lt
 exact Nat.lt_trans (by decide) h
theorem Zjd{Q:Value->Shared->Prop}(hu:A.units+1<cLine)(I:Inv X pins σ H s)(g:DGet H a y (some v))(ry:RelV y u)(h:∀w' s',Inv X pins σ H s'->RelV v w'->Q w' s'):
  wpAny (model X.prog X.w) A (getItem (.ref a) u) Q E s:=by
 rcases g with⟨kvs,k,e,ey,l⟩|⟨kvs,k,b,e,ey,eb,l⟩
 ·subst ey
  obtain⟨z,hd,vs,rel,dd⟩:=Znf I.hok e
  obtain⟨w',hw,rw'⟩:=RelO.some_of (v:=v) (o:=valueAt vs k) (by rw[l];exact rel.val k)
  exact wpAny_getItem_of (Zg5 ry) dd.mapOf hw (h w' _ (I.tok _) rw')
 ·subst ey
  cases(show u=Value.ref b from ry)
  obtain⟨z,hd,xs,rel,dd⟩:=dt_rd I.hok e
  obtain⟨w',hw,rw'⟩:=RelO.some_of (v:=v) (o:=(atKey xs k).map (·.2)) (by rw[l];exact rel.val k)
  obtain⟨p,hp,hp2⟩:=Option.map_eq_some_iff.mp hw
  refine wpAny_getItem_heap (tupleKind_room_in1 hu) (Zlg I.hok eb) dd hp ?_
  rw[hp2]
  exact h w' _ (I.tok _) rw'
theorem ZdI{h':Heap}{t':Nat}{ob:HO}(I:Inv X pins σ H s)(mu:Mut (H a))(hs:Heap.SameBut a s.heap h')(he:∃q,h'.get? a=some q)(new:Qc X.prog X.w (upd H a ob) h' a ob):
  Inv X pins σ (upd H a ob) { s with heap:=h',toks:=t' }:=
 I.write (x:=a) (e:=a) mu (.inl rfl) (λb q hb z=>(hs.2 b hb).trans z) he new
theorem Zlx{P:Program}{w:World}{H':Hp}{h':Heap}{kvs:List (Key×V)}{vs:List (Key×Value)}(z:kvs.length<=sizeLine)(hd:(a==sysModules)=false)(rel:KV kvs vs)(dd:h'.DictOf (Zx P w) a vs):
 Qc P w H' h' a (.dK kvs):=⟨z,hd,vs,rel,dd⟩
end
noncomputable def NoSl(i:Expr):Prop:=∀ov iv,subscripted i false ov iv=operate [ov,iv] (getItem ov iv)
theorem ZhJ{prog:Program}{w:World}{A:Around}{E:Value->Shared->Prop}{s:Shared}{env:Env}{value slice:Expr}{pos:Pos}{T id:String}{Q:Value->Shared->Prop}(hl:typeLookup (.type T) "__getitem__" = pure (some (.builtin id)))(hs:NoSl slice)(h:wpAny (model prog w) A (eval value env) (λo s₁=>wpAny (model prog w) A (eval slice env) (λi s₂=>s₂.TypeIs o T/\wpAny (model prog w) A (getItem o i) Q E s₂) E s₁) E s):
  wpAny (model prog w) A (eval (.Subscript value slice pos) env) Q E s:=by
 refine Subscript_ (wpAny_mono h (λo s₁ h₁=>wpAny_mono h₁ (λi s₂ h₂=>?_) λ_ _ x=>x) λ_ _ x=>x)
 obtain⟨hT,h₂⟩:=h₂
 unfold subscriptTail
 refine wpAny_bind ?_
 rw[getitemInPython_of_ne hT.not_modules]
 refine wpAny_bind (wpAny_specialOf hT hl ?_)
 have fin:wpAny (model prog w) A (subscripted slice false o i) (λr s₃=>wpAny (model prog w) A (letTemporaryGo value o r >>= λ_=>pure r) Q E s₃) E s₂:=by
  rw[hs o i]
  exact wpAny_operating (wpAny_mono h₂ (λr s₃ h₃=>wpAny_bind (wpAny_letTemporaryGo (wpAny_pure h₃))) λ_ _ x=>x)
 first
  |exact wpAny_pure (wpAny_bind fin)
  |exact wpAny_bind (wpAny_pure (wpAny_bind fin))
  |exact wpAny_bind fin
theorem ZfL{X:Cx}{pins:List (Addr×Obj)}{σ:St}{H:Hp}{s:Shared}{a:Addr}{y:V}{o:Option V}(I:Inv X pins σ H s)(g:DGet H a y o):s.TypeIs (.ref a) "dict":=by
 rcases g with⟨kvs,k,e,_,_⟩|⟨kvs,k,b,e,_,_,_⟩
 ·obtain⟨_,_,vs,_,dd⟩:=Znf I.hok e
  exact dd.typeIs
 ·obtain⟨_,_,xs,_,dd⟩:=dt_rd I.hok e
  exact dd.typeIs
noncomputable def tDGet(td ty:TE):TE:=λσ H Q=>td σ H λx H1=>ty σ H1 λy H2=>∃a v,x=.ref a/\DGet H2 a y (some v)/\Q v H2
section
variable{X:Cx}{o i e value:Expr}{pos pos' tpos:Pos}{td ty tv:TE}
theorem Zmu(hu:X.A.units+1<cLine)(ho:PE X o td)(hi:PE X i ty)(hs:NoSl i):PE X (.Subscript o i pos) (tDGet td ty):=by
 intro pins s σ H Q I h
 refine ZhJ PySem.F.slot_dict_getitem.lookup hs (thn (ho pins s σ H _ I h) λu s1 ⟨x,H1,I1,rx,q1⟩=>thn (hi pins s1 σ H1 _ I1 q1) λiv s2 ⟨y,H2,I2,ry,a,v,ex,g,q2⟩=>?_)
 subst ex
 obtain rfl:u=Value.ref a:=rx
 exact⟨ZfL I2 g,Zjd hu I2 g ry λw' s3 I3 rw'=>⟨v,H2,I3,rw',q2⟩⟩
end
theorem Zgw{P:Program}{w:World}{H:Hp}(h:Heap)(hb:sysModules<h.objs.size):Qc P w H (h.push { cls:=.type "dict",data:=.dict #[] }) h.objs.size (.dK []):=
 ⟨Nat.zero_le _,beq_eq_false_iff_ne.mpr (Ne.symm (Nat.ne_of_lt hb)),[],.nil,Heap.DictOf.new h⟩
noncomputable def ZcO:List (TE×TE)->St->Hp->(List (V×V)->Hp->Prop)->Prop
 |[],_,H,Q=>Q [] H
 |(tk,tv)::r,σ,H,Q=>tk σ H λx H1=>tv σ H1 λy H2=>ZcO r σ H2 λps H3=>Q ((x,y)::ps) H3
noncomputable abbrev VV:List (V×V)->List (Value×Value)->Prop:=Paired λp q=>RelV p.1 q.1/\RelV p.2 q.2
noncomputable def PPs(X:Cx)(pos:Pos)(keys:List (Option Expr))(values:List Expr)(trs:List (TE×TE)):Prop:=
 ∀(pins:List (Addr×Obj)) (s:Shared) (σ:St) (H:Hp) (Q:List (V×V)->Hp->Prop),Inv X pins σ H s->ZcO trs σ H Q ->
  wpAny (model X.prog X.w) X.A (evalPairs (pairTrees keys values X.env pos)) (λvs s'=>∃ps H',Inv X pins σ H' s'/\VV ps vs/\Q ps H') X.xe s
theorem Zl8{X:Cx}{pos:Pos}:PPs X pos [] [] []:=λpins s σ H Q I h=>pairTrees_nil_walk ⟨[],H,I,.nil,h⟩
theorem Zj4{X:Cx}{pos:Pos}{k v:Expr}{ks:List (Option Expr)}{vs:List Expr}{tk tv:TE}{trs:List (TE×TE)}(hk:PE X k tk)(hv:PE X v tv)(hr:PPs X pos ks vs trs):
  PPs X pos (some k::ks) (v::vs) ((tk,tv)::trs):=λpins s σ H Q I h =>
 pairTrees_cons_walk (thn (hk pins s σ H _ I h) λu s1 ⟨x,H1,I1,rx,q1⟩=>thn (hv pins s1 σ H1 _ I1 q1) λw2 s2 ⟨y,H2,I2,ry,q2⟩ =>
  thn (hr pins s2 σ H2 _ I2 q2) λws s3 ⟨ps,H3,I3,rel,q3⟩=>⟨(x,y)::ps,H3,I3,.cons ⟨rx,ry⟩ rel,q3⟩)
noncomputable def Ji(kvs more:List (Key×V)):List (Key×V):=more.foldl (λacc kv=>putK acc kv.1 kv.2) kvs
theorem KV.merge:∀{more:List (Key×V)}{rs:List (Key×Value)}{kvs:List (Key×V)}{vs:List (Key×Value)},KV more rs->KV kvs vs->KV (Ji kvs more) (merged vs rs):=by
 intro more rs kvs vs r
 unfold KV at r
 induction r generalizing kvs vs with
 |nil=>intro q;exact q
 |@cons p q ps qs h t ih =>
  intro r0
  have e:KV (putK kvs p.1 p.2) (stored vs q.1 q.2):=by
   have:=r0.put p.1 h.2
   rw[<-h.1];exact this
  exact ih e
theorem ZaE:∀(more kvs:List (Key×V)),(Ji kvs more).length<=kvs.length+more.length
 |[],kvs=>by show kvs.length<=kvs.length+0;omega
 |p::r,kvs=>by
  have h1:=ZaE r (putK kvs p.1 p.2)
  have h2:=ZfD kvs p.1 p.2
  show(Ji (putK kvs p.1 p.2) r).length<=_
  rw[List.length_cons];omega
theorem Zbh{P:Program}{w:World}:∀{kvs:List (Key×V)}{ws:List (Value×Value)},VV (kvs.map λkv=>(kV kv.1,kv.2)) ws->∃rs,Carries (Zx P w) ws rs/\KV kvs rs
 |[],_,r=>by rw[List.map_nil]at r;cases r;exact⟨[],True.intro,.nil⟩
 |p::kvs,_,r=>by
  rw[List.map_cons]at r
  cases r with
  |@cons a b as bs h t =>
   obtain⟨rs,c,q⟩:=Zbh (P:=P) (w:=w) t
   obtain⟨b1,b2⟩:=b
   exact⟨(p.1,b2)::rs,⟨Zg5 h.1,rfl,c⟩,.cons ⟨rfl,h.2⟩ q⟩
end L2
namespace Mi
open PySem PySem.Spec PyProof.Rows L2
theorem Zdx(t:SetTable)(n:Nat):(t.orStandIn n).led=t.led:=by unfold SetTable.orStandIn;split<;>rfl
theorem Zch(t:SetTable)(n:Nat)(h:t.plain=false):(t.orStandIn n).plain=false:=by unfold SetTable.orStandIn;split<;>first|exact h|rfl
theorem Zg4(t:SetTable)(es:Array (Int×Value))(h:Int)(x:Value):(layNew t es h x).2.1.led=t.led:=by
 unfold layNew
 split
 ·exact Zdx _ _
 ·rfl
theorem ZeF(t:SetTable)(es:Array (Int×Value))(h:Int)(x:Value)(hp:t.plain=false):(layNew t es h x).2.1.plain=false:=by
 unfold layNew
 split
 ·exact Zch _ _ hp
 ·rfl
theorem ZcU{t t':SetTable}{hs:Array Int}{n:Nat}{o:Array Nat}(h:t.relaid hs n=some (t',o)):t'.led=t.led/\t'.plain=t.plain:=by
 unfold SetTable.relaid SetTable.laid at h
 simp only[Option.bind_eq_bind]at h
 obtain⟨w,_,h2⟩:=Option.bind_eq_some_iff.mp h
 cases h2
 exact⟨rfl,rfl⟩
theorem Zek(t:SetTable)(es:Array (Int×Value))(n:Nat):(relayAll t es n).2.1.led=t.led:=by
 unfold relayAll
 split
 ·rename_i t' o h
  dsimp only
  split
  ·exact(ZcU h).1
  ·rfl
 ·rfl
theorem ZcE(t:SetTable)(es:Array (Int×Value))(n:Nat)(hp:t.plain=false):(relayAll t es n).2.1.plain=false:=by
 unfold relayAll
 split
 ·rename_i t' o h
  dsimp only
  split
  ·exact(ZcU h).2.trans hp
  ·rfl
 ·rfl
structure SetE (prog:Program) (w:World) (led:Bool) (o:Obj) (D:List Str) (es:Array (Int×Value)) (ep:Nat) (t:SetTable):Prop where
 ex:o.ExactSet
 data:o.data=.set es ep t
 el:ElemsOf (PySem.strKind prog w) es.toList
 txs:(es.toList.map λe=>strOf e.2).Perm D
 nd:D.Nodup
 room:es.size<scanBound
 fits:t.fits es.size=true
 led:t.led=led
 plain:es.size≠0->t.plain=false
noncomputable def SetS(prog:Program)(w:World)(led:Bool)(h:Heap)(a:Addr)(D:List Str):Prop:=∃o es ep t,h.get? a=some o/\SetE prog w led o D es ep t
theorem Zco{x:Str}{v:Value}(h:Value.isStrOf x v=true):strOf v=x:=by
 obtain⟨t,rfl⟩:=Value.isStrOf_shape h
 rfl
section
variable{prog:Program}{w:World}{A:Around}{E:Value->Shared->Prop}{s:Shared}{led:Bool}
theorem ZjJ{v:Value}(h:∃k,(PySem.strKind prog w).is k v=true):Value.isStrOf (strOf v) v=true:=by
 obtain⟨k,hk⟩:=h
 have hk:Value.isStrOf k v=true:=hk
 rw[Zco hk]
 exact hk
theorem Zgh{es:List (Int×Value)}(he:ElemsOf (PySem.strKind prog w) es)(k:Str):(∃e∈es,(PySem.strKind prog w).is k e.2=true)↔k∈es.map λe=>strOf e.2:=by
 constructor
 ·rintro ⟨e,he,hk⟩
  exact List.mem_map.mpr ⟨e,he,Zco hk⟩
 ·intro h
  obtain⟨e,hm,rfl⟩:=List.mem_map.mp h
  obtain⟨⟨k,hk,_⟩,_⟩:=he e hm
  exact⟨e,hm,ZjJ ⟨k,hk⟩⟩
theorem add_str{a:Addr}{D:List Str}{x:Str}{tk:Tok}{Q:Bool->Shared->Prop}(hS:SetS prog w led s.heap a D)(hroom:D.length+1<scanBound)(h:∀h' b,Heap.SameBut a s.heap h'->SetS prog w led h' a (if x∈D then D else D++[x])->Q b { s with heap:=h' }):
  wpAny (model prog w) A (setAddHashed a (.str x tk) (hashStr w x)) Q E s:=by
 obtain⟨o,es,ep,t,ho,hE⟩:=hS
 have hex:=hE.ex
 have hd:=hE.data
 have hel:=hE.el
 have hf:=hE.fits
 have hkey:(PySem.strKind prog w).is x (.str x tk)=true:=by show Value.isStrOf x (.str x tk)=true;simp[Value.isStrOf]
 have hsc:(Value.str x tk).scannable=true:=rfl
 have hlen:es.size=D.length:=by rw[<-hE.txs.length_eq,List.length_map,Array.length_toList]
 show wpAny (model prog w) A (setAddHashed a (.str x tk) ((PySem.strKind prog w).hash x)) Q E s
 unfold setAddHashed setAddHashedIn
 refine wpAny_holding (wpAny_bind (wpAny_setState_of ho hd hf ?_))
 dsimp only
 rw[byScan_of hsc hE.room hel]
 simp only[↓reduceIte]
 unfold setAddByScan
 refine wpAny_bind ?_
 refine wpAny_bind (wpAny_rule ?_)
 refine wpAny_bind (wpAny_setScan_of hkey ho hd hf hel ?_)
 cases hr:List.findIdx? (λe=>(PySem.strKind prog w).is x e.2) es.toList with
 |some j =>
  dsimp only
  obtain⟨hj,hpj,_⟩:=List.findIdx?_eq_some_iff_getElem.mp hr
  have hm:x∈D:=hE.txs.mem_iff.mp ((Zgh hel x).mp ⟨_,List.getElem_mem hj,hpj⟩)
  refine wpAny_pure (wpAny_pure ?_)
  have:=h s.heap false (Heap.SameBut.refl a s.heap) (by rw[if_pos hm];exact⟨o,es,ep,t,ho,hE⟩)
  exact this
 |none =>
  dsimp only
  have hm:x∉D:=λhx=>by
   obtain⟨e,he,hp⟩:=(Zgh hel x).mpr (hE.txs.mem_iff.mpr hx)
   have:=List.findIdx?_eq_none_iff.mp hr e he
   rw[hp]at this
   exact Bool.noConfusion this
  have hgw:∀(b:Bool) (s₁:Shared) (Q':Unit->Shared->Prop),Q' () s₁->wpAny (model prog w) A (match b with|true=>rule "set.scan.the-table-gave-way" | false=>pure ()) Q' E s₁:=
   λb s₁ Q' hq=>by cases b<;>first|exact wpAny_pure hq|exact wpAny_rule hq
  have hperm:=layNew_perm t es ((PySem.strKind prog w).hash x) (.str x tk)
  have hfits:=layNew_fits t es ((PySem.strKind prog w).hash x) (.str x tk)
  have hled:=Zg4 t es ((PySem.strKind prog w).hash x) (.str x tk)
  have hplain:=ZeF t es ((PySem.strKind prog w).hash x) (.str x tk)
  generalize hL:layNew t es ((PySem.strKind prog w).hash x) (.str x tk)=L at hperm hfits hled hplain ⊢
  obtain⟨es1,t1,wasDummy,gave⟩:=L
  dsimp only at hperm hfits hled hplain ⊢
  rw[Array.toList_push]at hperm
  have hel1:ElemsOf (PySem.strKind prog w) es1.toList:=(hel.push hkey hsc).perm hperm
  have hsz1:es1.size=es.size+1:=by rw[<-Array.length_toList,hperm.length_eq,List.length_append,Array.length_toList];rfl
  have hb1:es1.size<scanBound:=by omega
  have hst1:(es1.toList.map λe=>strOf e.2).Perm (D++[x]):=by
   refine(hperm.map _).trans ?_
   rw[List.map_append]
   exact hE.txs.append_right _
  have hnd:(D++[x]).Nodup:=by
   rw[List.nodup_append]
   refine⟨hE.nd,by simp,λy hy z hz=>?_⟩
   rw[List.mem_singleton.mp hz]
   exact λe=>hm (e▸hy)
  -- the end,at a table that is plain no more
  have fin:∀t2:SetTable,t2.led=led->t2.plain=false->t2.fits es1.size=true->wpAny (model prog w) A (do
    storeSet a es1 t2
    if(!wasDummy&&t2.tooFull)=true then do
      (match(relayAll t2 es1 (SetTable.grown es1.size)).2.2 with|true=>rule "set.scan.the-table-gave-way" | false=>pure ())
      storeSet a (relayAll t2 es1 (SetTable.grown es1.size)).1 (relayAll t2 es1 (SetTable.grown es1.size)).2.1
      pure (some true)
     else pure (some true)) (λr s'=>match r with
      |some b=>Q b s'
      |none=>False) E s:=λt2 hl2 hp2 hf2=>by
   have hg1:(s.heap.update a (Obj.putSet es1 t2)).get? a=some { o with data:=.set es1 (ep+1) t2 }:=by
    have:=Heap.get?_update_self (Obj.putSet es1 t2) ho (by rw[putSet_of es1 t2 hd];rfl)
    rw[putSet_of es1 t2 hd]at this
    exact this
   have hsb1:=Heap.SameBut.update s.heap a (Obj.putSet es1 t2)
   refine wpAny_bind (wpAny_storeSet_of ho hd ?_ (fits_of_scanBound hb1))
   split
   ·have hp:=relayAll_perm t2 es1 (SetTable.grown es1.size)
    have hfr:=relayAll_fits t2 es1 (SetTable.grown es1.size)
    have hrl:=Zek t2 es1 (SetTable.grown es1.size)
    have hrp:=ZcE t2 es1 (SetTable.grown es1.size) hp2
    generalize relayAll t2 es1 (SetTable.grown es1.size)=Rl at hp hfr hrl hrp ⊢
    obtain⟨es2,t3,gave2⟩:=Rl
    dsimp only at hp hfr hrl hrp ⊢
    have hsz:es2.size=es1.size:=by rw[<-Array.length_toList,hp.length_eq,Array.length_toList]
    refine wpAny_bind (hgw _ _ _ ?_)
    refine wpAny_bind (wpAny_storeSet_of hg1 rfl ?_ (fits_of_scanBound (by omega)))
    have hg2:((s.heap.update a (Obj.putSet es1 t2)).update a (Obj.putSet es2 t3)).get? a=some { o with data:=.set es2 (ep+1+1) t3 }:=
     Heap.get?_update_self (Obj.putSet es2 t3) hg1 rfl
    refine wpAny_pure (h _ true (hsb1.trans (Heap.SameBut.update _ a _)) ?_)
    rw[if_neg hm]
    exact⟨_,es2,_,t3,hg2,⟨hex,rfl,hel1.perm hp,(hp.map _).trans hst1,hnd,by omega,hfr,hrl.trans hl2,λ_=>hrp⟩⟩
   ·refine wpAny_pure (h _ true hsb1 ?_)
    rw[if_neg hm]
    exact⟨_,es1,_,t2,hg1,⟨hex,rfl,hel1,hst1,hnd,hb1,hf2,hl2,λ_=>hp2⟩⟩
  refine wpAny_bind (hgw _ _ _ ?_)
  have done:∀{r:Option Bool}{s':Shared},(match r with
    |some b=>Q b s'
    |none=>False)->wpAny (model prog w) A (match r with
     |some added=>pure added
     |none=>setAddHashedIn a (.str x tk) ((PySem.strKind prog w).hash x) 99999) Q E s':=λ{r s'} hr=>by
   cases r with
   |none=>exact hr.elim
   |some b=>exact wpAny_pure hr
  split
  ·refine wpAny_bind ?_
   rw[hashByValue_scannable 8 hsc]
   refine wpAny_pure ?_
   exact wpAny_mono (fin { t1 with plain:=false } (hled.trans hE.led) rfl (SetTable.fits_plain_off hfits)) (λr s' hr=>done hr) λ_ _ e=>e
  ·rename_i hpl
   refine wpAny_bind (wpAny_pure ?_)
   simp only[↓reduceIte]
   exact wpAny_mono (fin t1 (hled.trans hE.led) (by simpa using hpl) hfits) (λr s' hr=>done hr) λ_ _ e=>e
noncomputable def dd(val:Nat->Str):Nat->List Str
 |0=>[]
 |i+1=>if val i∈dd val i then dd val i else dd val i++[val i]
set_option maxHeartbeats 3200000 in
end
section
variable{prog:Program}{w:World}{A:Around}{E:Value->Shared->Prop}{s:Shared}
noncomputable def Znw(h:Heap)(it a:Addr)(first:Value)(i n ep:Nat):Prop:=∃o,h.get? it=some o/\o.cls=.type "set_iterator"/\o.data=.fields #[first,.int i 0,.ref a,.int n 0,.int ep 0]
inductive SetIt (w:World) (h:Heap) (it a tp:Addr) (vs:List Value) (i:Nat):Prop where
 |drawn {o:Obj}{es:Array (Int×Value)}{ep:Nat}{t:SetTable}{pl:Array Value}:Znw h it a (.ref tp) i es.size ep->h.get? a=some o->o.data=.set es ep t->t.fits es.size=true->h.IsTuple tp pl ->
  (∀(k:Nat) v,vs[k]?=some v->∃(pp:Nat) (e:Int×Value),pl[k]?=some (.int pp 0)/\es[pp]?=some e/\e.2=v)->pl.size=vs.length->SetIt w h it a tp vs i
 |text {o:Obj}{es:Array (Int×Value)}{ep:Nat}{t:SetTable}:w.params.followText "set-order" = true->Znw h it a (.int (0:Nat) 0) i es.size ep->h.get? a=some o->o.data=.set es ep t->t.fits es.size=true ->
  vs=(pickOrder (w.params.setOrder a ep) es).toList.map (·.2)->SetIt w h it a tp vs i
 |few {o:Obj}{es:Array (Int×Value)}{ep:Nat}{t:SetTable}{sl:Nat}:w.params.followText "set-order" = false->t.led=true->Znw h it a (.int sl 0) i es.size ep->h.get? a=some o->o.data=.set es ep t->t.fits es.size=true->es.size<=1 ->
  vs=es.toList.map (·.2)->(i=0/\sl=0∨i=1/\es.size=1/\∃j,t.place=#[j]/\sl=j+1)->SetIt w h it a tp vs i
end
end Mi
namespace Mi
open PySem
inductive T where
 |non|bl (b:Bool)|int (i:Int)|str (cs:List Nat)
 |tup (ts:List T)|lst (ts:List T)
 |dct (ks:List L2.Key) (ts:List T)
 |scr (ns:List Int)
 deriving Inhabited
inductive W where
 |t (x:T)|c (i:Nat)|f (a:Nat)|x (cls:Nat) (nms:List Str) (ts:List T)
 deriving Inhabited
noncomputable abbrev Mem:=List (Option (Bool×List T))
structure Exc where
 cls:Nat
 nms:List Str
 flds:List T
inductive Res (a:Type) where
 |ok (x:a) (m:Mem)|exc (x:Exc) (m:Mem)|stuck
noncomputable def Res.bind{a b:Type}(r:Res a)(f:a->Mem->Res b):Res b:=match r with
 |.ok x m=>f x m
 |.exc x m=>.exc x m
 |.stuck=>.stuck
noncomputable abbrev Env:=List (Option W)
inductive B where
 |len|int|str|tuple|list|all|any|sum|min2|max2|sortset|sorted|dict|range1|range2|enum|zip2
 |bool|dget|din|dnot|zip4|lenset|minl|isbis|maxl
 deriving DecidableEq
inductive Mt where
 |join|upper|append|pop|popat|insert|clear|count|get|index|split|partition|extend|reverse
 deriving DecidableEq
inductive Ty where
 |int|bool|str|tuple|list|dict
 deriving DecidableEq
inductive Tg where
 |nm (i:Nat)|tp (is:List Nat)
 deriving DecidableEq
mutual
inductive E where
 |var (i:Nat)|gl (k:Nat)|con (x:T)
 |bin (op:Operator) (a b:E)|neg (a:E)|not (a:E)
 |and (a b:E)|or (a b:E)|one (a:E)
 |cmp (op:CmpOp) (a b:E)|chn (op op':CmpOp) (a b c:E)
 |ite (c a b:E)
 |tup (es:Es)|lst (es:Es)|cel (es:Es)|celL (a:E)|celA (a b:E)|dsp (ks vs:Es)
 |ix (a b:E)|slc (a lo hi:E)|rev (a:E)|hole
 |call (f:Nat) (es:Es)|blt (b:B) (es:Es)|mth (b:Mt) (o:E) (es:Es)
 |isi (a:E) (ty:Ty)
 |comp (own:Nat) (keep:List Nat) (it:E) (tg:Tg) (cs:Es) (inner:E)
 |more (it:E) (tg:Tg) (cs:Es) (inner:E)
 |emit (a:E)
 |tr (a:E)
 |fnv (j:Nat)|callV (i:Nat) (tab:List (Nat×Nat)) (es:Es)
 |xat (a:E) (cs:List Nat) (nm:Str)|xis (a:E) (yes no:List Nat)
 |ptd (a b:E)
 |fst (es:Es)|gdg (k:Nat) (e:E)|gdn (k:Nat) (neg:Bool) (e:E)|dsn (ks:List (List Nat)) (vs:Es)
inductive Es where
 |nil|cons (e:E) (es:Es)
end
noncomputable def Zr:E->Bool
 |.hole=>true
 |_=>false
inductive S where
 |done
 |asg (i:Nat) (e:E) (k:S)
 |asgT (is:List Nat) (e:E) (k:S)
 |asgC (i:Nat) (e:E) (k:S)
 |set (o i v:E) (k:S)
 |aug (i:Nat) (op:Operator) (e:E) (k:S)
 |ife (c:E) (a b k:S)
 |forr (tg:Tg) (it:E) (body k:S)
 |whil (c:E) (body k:S)
 |ret (e:E) (k:S)|retN (k:S)
 |expr (e:E) (k:S)|pass (k:S)|brk (k:S)|cont (k:S)
 |rse (c:Nat) (nms:List Str) (es:Es) (k:S)|stk
 |tri (b:S) (yes:List Nat) (nm:Option Nat) (h k:S)
noncomputable def lim:Nat:=1000000
noncomputable def nlt:List Nat->List Nat->Bool
 |[],[]=>false
 |[],_::_=>true
 |_::_,[]=>false
 |a::x,b::y=>if a<b then true else if b<a then false else nlt x y
noncomputable def b2i(b:Bool):Int:=if b then 1 else 0
mutual
noncomputable def eqT:T->T->Bool
 |.non,.non=>true
 |.bl a,.bl b=>a==b
 |.bl a,.int b=>b2i a==b
 |.int a,.bl b=>a==b2i b
 |.int a,.int b=>a==b
 |.str a,.str b=>a==b
 |.tup a,.tup b=>eqTs a b
 |.lst a,.lst b=>eqTs a b
 |_,_=>false
noncomputable def eqTs:List T->List T->Bool
 |[],[]=>true
 |a::x,b::y=>eqT a b&&eqTs x y
 |_,_=>false
end
mutual
noncomputable def Zj:Nat->T->Bool
 |_,.non=>true
 |_,.bl _=>true
 |_,.int _=>true
 |_,.str cs=>PyData.strOk ⟨cs.toArray⟩
 |n+1,.tup ts=>Z4 n ts
 |n+1,.lst ts=>Z4 n ts
 |_,_=>false
noncomputable def Z4:Nat->List T->Bool
 |_,[]=>true
 |n,t::ts=>Zj n t&&Z4 n ts
end
noncomputable def flat:T->Bool
 |.non|.bl _|.int _|.str _=>true
 |_=>false
mutual
noncomputable def eqok:Nat->T->Bool
 |_,.non=>true
 |_,.bl _=>true
 |_,.int _=>true
 |_,.str _=>true
 |n+1,.tup ts=>Znc n ts
 |n+1,.lst ts=>Znc n ts
 |_,_=>false
noncomputable def Znc:Nat->List T->Bool
 |_,[]=>true
 |n,t::ts=>eqok n t&&Znc n ts
end
noncomputable def ZcN:T->Bool
 |.non=>false
 |.bl b=>b
 |.int i=>i != 0
 |.str cs=>!cs.isEmpty
 |.tup ts=>!ts.isEmpty
 |.lst ts=>!ts.isEmpty
 |.dct ks _=>!ks.isEmpty
 |.scr ns=>!ns.isEmpty
noncomputable def ixOf(n:Nat)(i:Int):Option Nat:=if 0<=i then(if i<n then some i.toNat else none)else if -(n:Int)<=i then some (i+n).toNat else none
noncomputable def atT{a:Type}(xs:List a)(i:Int):Option a:=(ixOf xs.length i).bind λj=>xs[j]?
noncomputable def ZcK(n d:Nat):Option Int->Nat
 |none=>d
 |some i=>if i<0 then(i+n).toNat else min i.toNat n
noncomputable def cut{a:Type}(xs:List a)(lo hi:Option Int):List a:=
 (xs.drop (ZcK xs.length 0 lo)).take (ZcK xs.length xs.length hi-ZcK xs.length 0 lo)
noncomputable def repT{a:Type}(xs:List a)(k:Nat):List a:=(List.replicate k xs).flatten
noncomputable def bigN:Nat:=(2^250)^8
noncomputable def small(i:Int):Bool:=decide (i.natAbs<2^64)
noncomputable def X7(i j:Int):Bool:=small i || small j || (decide (i.natAbs<bigN)&&decide (j.natAbs<bigN))
noncomputable def addT:T->T->Option T
 |.int i,.int j=>some (.int (i+j))
 |.str a,.str b=>if a.length+b.length<=lim then some (.str (a++b))else none
 |.tup a,.tup b=>if a.length+b.length<=lim then some (.tup (a++b))else none
 |.lst a,.lst b=>if a.length+b.length<=lim then some (.lst (a++b))else none
 |_,_=>none
noncomputable def mulT(x y:T):Option T:=match y with
 |.int k=>match x with
  |.int i=>if X7 i k then some (.int (i*k))else none
  |.tup a=>if(-(lim:Int)<=k/\k<=lim)/\a.length*k.toNat<=lim then some (.tup (repT a k.toNat))else none
  |.lst a=>if(-(lim:Int)<=k/\k<=lim)/\a.length*k.toNat<=lim then some (.lst (repT a k.toNat))else none
  |.str a=>if(0<=k/\k<=64)/\a.length<=1000 then some (.str (repT a k.toNat))else none
  |_=>none
 |_=>none
noncomputable def intT(f:Int->Int->Option T)(x y:T):Option T:=match x with
 |.int i=>match y with
  |.int j=>f i j
  |_=>none
 |_=>none
noncomputable def binT(op:Operator)(x y:T):Option T:=
 match op with
 |.Add=>addT x y
 |.Sub=>intT (λi j=>some (.int (i-j))) x y
 |.Mult=>mulT x y
 |.FloorDiv=>intT (λi j=>if 0<j/\j<1073741824 then some (.int (i / j))else none) x y
 |.Mod=>intT (λi j=>if 0<j then some (.int (i%j))else none) x y
 |.Pow=>intT (λi j=>if 0<=j/\j<=1000/\i.natAbs<2^64 then some (.int (i^j.toNat))else none) x y
 |_=>none
noncomputable def augT(op:Operator)(x y:T):Option T:=
 match op,x,y with
 |.Add,.int i,.int j=>some (.int (i+j))
 |.Sub,.int i,.int j=>some (.int (i-j))
 |_,_,_=>none
noncomputable def ZbA(x y:T):Bool:=match x,y with
 |.bl _,.int _=>false
 |.int _,.bl _=>false
 |x,y=>flat x&&flat y
noncomputable def hasT(x:T)(y:T):Option Bool:=
 match y with
 |.tup ts=>if flat x&&ts.all flat then some (ts.any λt=>eqT t x)else none
 |.lst ts=>if flat x&&ts.all flat then some (ts.any λt=>eqT t x)else if Zj 59 x&&Z4 59 ts then some (ts.any λt=>eqT t x)else none
 |_=>none
noncomputable def ZcH(f:Int->Int->Bool)(x y:T):Option Bool:=match x with
 |.int i=>match y with
  |.int j=>some (f i j)
  |_=>none
 |_=>none
noncomputable def ltT(x y:T):Option Bool:=match x with
 |.int i=>match y with
  |.int j=>some (decide (i<j))
  |_=>none
 |.str a=>match y with
  |.str b=>some (nlt a b)
  |_=>none
 |_=>none
noncomputable def inT(x y:T):Option Bool:=match x with
 |.str [a]=>match y with
  |.str b=>some (decide (a∈b))
  |y=>hasT (.str [a]) y
 |.str (a::a'::r)=>match y with
  |.str b=>some (!(Builtin.Str.occurrences ⟨b.toArray⟩ ⟨(a::a'::r).toArray⟩ 0 b.length 1).isEmpty)
  |y=>hasT (.str (a::a'::r)) y
 |x=>hasT x y
noncomputable def sameT(x y:T):Option Bool:=match y with
 |.non=>some (match x with|.non=>true|_=>false)
 |.bl b=>some (match x with|.bl a=>a==b|_=>false)
 |_=>none
noncomputable def cmpT(op:CmpOp)(x y:T):Option Bool:=
 match op with
 |.Lt=>ltT x y
 |.LtE=>ZcH (λi j=>decide (i<=j)) x y
 |.Gt=>ZcH (λi j=>decide (j<i)) x y
 |.GtE=>ZcH (λi j=>decide (j<=i)) x y
 |.Eq=>if ZbA x y || (Zj 60 x&&Zj 60 y)then some (eqT x y)else none
 |.NotEq=>if ZbA x y || (Zj 60 x&&Zj 60 y)then some (!eqT x y)else none
 |.In=>inT x y
 |.NotIn=>(inT x y).map (!·)
 |.Is=>sameT x y
 |.IsNot=>(sameT x y).map (!·)
noncomputable def isT(x:T)(ty:Ty):Bool:=
 match x,ty with
 |.int _,.int=>true
 |.bl _,.int=>true
 |.bl _,.bool=>true
 |.str _,.str=>true
 |.tup _,.tuple=>true
 |.lst _,.list=>true
 |.scr _,.list=>true
 |.dct _ _,.dict=>true
 |_,_=>false
noncomputable def ixT(x i:T):Option T:=
 match x,i with
 |.tup ts,.int k=>atT ts k
 |.lst ts,.int k=>atT ts k
 |.scr ns,.int k=>(atT ns k).map .int
 |.str cs,.int k=>if cs.length<=lim then(atT cs k).map λc=>.str [c]else none
 |_,_=>none
noncomputable def slT(x:T)(lo hi:Option Int):Option T:=
 match x with
 |.tup ts=>some (.tup (cut ts lo hi))
 |.lst ts=>some (.lst (cut ts lo hi))
 |.scr ns=>some (.lst ((cut ns lo hi).map .int))
 |.str cs=>if cs.length<=lim then some (.str (cut cs lo hi))else none
 |_=>none
noncomputable def insT(x:List Nat):List (List Nat)->List (List Nat)
 |[]=>[x]
 |y::r=>if nlt x y then x::y::r else if nlt y x then y::insT x r else y::r
noncomputable def ZhO(xs:List (List Nat)):List (List Nat):=xs.foldr insT []
noncomputable def insN(x:List Nat):List (List Nat)->List (List Nat)
 |[]=>[x]
 |y::r=>if nlt y x then y::insN x r else x::y::r
noncomputable def sortN(xs:List (List Nat)):List (List Nat):=xs.foldr insN []
noncomputable def strs?: List T->Option (List (List Nat))
 |[]=>some []
 |.str c::r=>(strs? r).map (c::·)
 |_=>none
noncomputable def X6(d:Int)(w:List Nat):Int:=d+(if w==[40]then 1 else 0)-(if w==[41]then 1 else 0)
noncomputable def pgo(x:List Nat):List (List Nat)->Int->List (List Nat)->List (List (List Nat))->List (List (List Nat))
 |[],_,cur,acc=>acc++[cur]
 |w::r,d,cur,acc=>if w==x&&decide (X6 d w=0)then pgo x r (X6 d w) [] (acc++[cur])else pgo x r (X6 d w) (cur++[w]) acc
noncomputable def parted(x:List Nat)(ws:List (List Nat)):List (List (List Nat)):=pgo x ws 0 [] []
noncomputable def ptT(x y:T):Option T:=match x,y with
 |.lst ts,.str c=>(strs? ts).bind λws=>if ws.length<1000 then some (.lst ((parted c ws).map λp=>.lst (p.map .str)))else none
 |_,_=>none
noncomputable def ints?: List T->Option (List Int)
 |[]=>some []
 |.int c::r=>(ints? r).map (c::·)
 |_=>none
noncomputable def bools?: List T->Option (List Bool)
 |[]=>some []
 |.bl c::r=>(bools? r).map (c::·)
 |_=>none
noncomputable def Qp(sep:List Nat):List (List Nat)->List Nat
 |[]=>[]
 |[x]=>x
 |x::r=>x++sep++Qp sep r
noncomputable def upN(c:Nat):Nat:=if 97<=c/\c<=122 then c-32 else c
noncomputable def asciiN(c:Nat):Bool:=decide (c<128)
noncomputable def decI(i:Int):List Nat:=(Str.ofString (toString i)).cps.toList
noncomputable def rangeT(lo:Int)(n:Nat):List T:=(List.range n).map λk:Nat=>.int (lo+(k:Int))
noncomputable def ZR(c:Nat):List Nat->List (List Nat)
 |[]=>[[]]
 |a::r=>if a=c then[]::ZR c r else match ZR c r with
  |x::xs=>(a::x)::xs
  |[]=>[[a]]
noncomputable def fmtT:T->Option (List Nat)
 |.str cs=>some cs
 |.int i=>if i.natAbs<2^250 then some (decI i)else none
 |_=>none
noncomputable def Zc3:T->Option (List T)
 |.tup ts=>some ts
 |.lst ts=>some ts
 |.scr ns=>some (ns.map .int)
 |.str cs=>if cs.length<=lim then some (cs.map λc=>.str [c])else none
 |_=>none
noncomputable def view(w:W)(m:Mem):Option T:=match w with
 |.t x=>some x
 |.f _=>none
 |.x _ _ _=>none
 |.c i=>match m[i]? with
  |some (some (_,ts))=>some (.lst ts)
  |_=>none
noncomputable def pur(o:Option T)(m:Mem):Res W:=match o with
 |some t=>.ok (.t t) m
 |none=>.stuck
noncomputable def frz(w:W)(m:Mem):Res T:=match w with
 |.t x=>.ok x m
 |.f _=>.stuck
 |.x _ _ _=>.stuck
 |.c i=>match m[i]? with
  |some (some (false,ts))=>.ok (.lst ts) (m.set i none)
  |_=>.stuck
noncomputable def frzs:List W->Mem->Res (List T)
 |[],m=>.ok [] m
 |w::ws,m=>(frz w m).bind λt m=>(frzs ws m).bind λts m=>.ok (t::ts) m
noncomputable def views:List W->Mem->Option (List T)
 |[],_=>some []
 |w::ws,m=>(view w m).bind λt=>(views ws m).map (t::·)
noncomputable def ZS(w:W)(m:Mem):Res (List T):=match w with
 |.f _=>.stuck
 |.x _ _ _=>.stuck
 |.t x=>match Zc3 x with
  |some ts=>.ok ts m
  |none=>.stuck
 |.c i=>match m[i]? with
  |some (some (_,ts))=>.ok ts (m.set i (some (true,ts)))
  |_=>.stuck
noncomputable def giveBack(w:W)(m0 m:Mem):Mem:=match w with
 |.t _=>m
 |.f _=>m
 |.x _ _ _=>m
 |.c i=>match m0[i]? with
  |some c=>m.set i c
  |none=>m
noncomputable def Xq(tg:Tg)(t:T)(env:Env):Option Env:=match tg with
 |.nm i=>some (env.set i (some (.t t)))
 |.tp is=>match t with
  |.tup ts=>if ts.length=is.length then some ((is.zip ts).foldl (λenv p=>env.set p.1 (some (.t p.2))) env)else none
  |_=>none
noncomputable def one1(f:T->Option T):List T->Option T
 |[x]=>f x
 |_=>none
noncomputable def two2(f:Int->Int->Option T):List T->Option T
 |[.int i,.int j]=>f i j
 |_=>none
noncomputable def bLen:T->Option T
 |.str cs=>if cs.length<=lim then some (.int cs.length)else none
 |.tup ts=>some (.int ts.length)
 |.lst ts=>some (.int ts.length)
 |.scr ns=>some (.int ns.length)
 |_=>none
noncomputable def figV(cs:List Nat):Int:=((cs.foldl (λn c=>n*10+(c-48)) 0:Nat):Int)
noncomputable def bInt:T->Option T
 |.int i=>some (.int i)
 |.bl b=>some (.int (b2i b))
 |.str cs=>if cs≠[]/\cs.length<=600/\cs.all (λc=>decide (48<=c)&&decide (c<=57))=true then some (.int (figV cs))else none
 |_=>none
noncomputable def bStr:T->Option T
 |.int i=>if i.natAbs<2^250 then some (.str (decI i))else none
 |_=>none
noncomputable def bTup:T->Option T
 |.tup ts=>some (.tup ts)
 |.lst ts=>some (.tup ts)
 |.str cs=>if cs.length<=lim then some (.tup (cs.map λc=>.str [c]))else none
 |_=>none
noncomputable def bLst:T->Option T
 |.tup ts=>some (.lst ts)
 |.lst ts=>some (.lst ts)
 |_=>none
noncomputable def Zfz(f:List T->Option T):T->Option T
 |.lst ts=>f ts
 |_=>none
noncomputable def bRng:T->Option T
 |.int i=>if i<2^62/\-(2^62)<=i then some (.lst (rangeT 0 i.toNat))else none
 |_=>none
noncomputable def zipL(xs ys:List T):List T:=List.zipWith (λx y=>.tup [x,y]) xs ys
noncomputable def zipT:List T->Option T
 |[.tup xs,.tup ys]=>if xs.length=ys.length/\xs.length<=lim then some (.lst (zipL xs ys))else none
 |_=>none
noncomputable def Zhw(a b c d:List T):List T:=(a.zip (b.zip (c.zip d))).map λp=>.tup [p.1,p.2.1,p.2.2.1,p.2.2.2]
noncomputable def zip4T:List T->Option T
 |[.lst a,.lst b,.lst c,.lst d]=>if(a.length=b.length/\a.length=c.length/\a.length=d.length)/\a.length<=lim then some (.lst (Zhw a b c d))else none
 |_=>none
noncomputable def ZcJ(xs:List T):List T:=List.zipWith (λ(k:Nat) x=>T.tup [.int (k:Int),x]) (List.range xs.length) xs
noncomputable def lensT(ts:List T):Option T:=(strs? ts).bind λxs=>if xs.length<64 then some (.int ((ZhO xs).length:Int))else none
noncomputable def minI(n:Int)(ns:List Int):Int:=ns.foldl (λa b=>if b<a then b else a) n
noncomputable def minlT(ts:List T):Option T:=(ints? ts).bind λns=>match ns with
 |[]=>none
 |n::r=>if r.length<64 then some (.int (minI n r))else none
noncomputable def maxI(n:Int)(ns:List Int):Int:=ns.foldl (λa b=>if a<b then b else a) n
noncomputable def maxlT(ts:List T):Option T:=(ints? ts).bind λns=>match ns with
 |[]=>none
 |n::r=>if r.length<64 then some (.int (maxI n r))else none
noncomputable def bIsb:T->Option T
 |.bl _=>some (.bl true)
 |.int _=>some (.bl true)
 |.str _=>some (.bl true)
 |_=>none
noncomputable def keyT:T->Option L2.Key
 |.int i=>some (.inl i)
 |.str cs=>some (.inr ⟨cs.toArray⟩)
 |_=>none
noncomputable def pairs?: List T->Option (List (List Nat×T))
 |[]=>some []
 |.tup [.str k,v]::ts=>(pairs? ts).map ((k,v)::·)
 |_=>none
noncomputable def dctT(ps:List (List Nat×T)):T:=.dct (ps.map λp=>.inr ⟨p.1.toArray⟩) (ps.map (·.2))
noncomputable def bDict:T->Option T
 |.tup ts=>(pairs? ts).bind λps=>if ts.length<=lim/\(ps.map (·.1)).Nodup then some (dctT ps)else none
 |_=>none
noncomputable def Qa(ks:List L2.Key)(ts:List T)(k:L2.Key):Option T:=((ks.zip ts).find? λp=>decide (p.1=k)).map (·.2)
noncomputable def dGetT:List T->Option T
 |[.dct ks vs,x]=>(keyT x).bind (Qa ks vs)
 |_=>none
noncomputable def dInT(neg:Bool):List T->Option T
 |[x,.dct ks vs]=>(keyT x).map λk=>.bl (if neg then !(Qa ks vs k).isSome else(Qa ks vs k).isSome)
 |_=>none
noncomputable def gDct(o:Option T)(f:List L2.Key->List T->Option T):Option T:=match o with
 |some (.dct ks vs)=>f ks vs
 |_=>none
noncomputable def ZmL(f:List T->Option T):T->Option T
 |.lst ts=>f ts
 |.tup ts=>f ts
 |_=>none
noncomputable def bltT(b:B)(ts:List T):Option T:=
 match b with
 |.len=>one1 bLen ts
 |.int=>one1 bInt ts
 |.str=>one1 bStr ts
 |.tuple=>one1 bTup ts
 |.list=>one1 bLst ts
 |.all=>one1 (ZmL λts=>(bools? ts).map λbs=>.bl (bs.all id)) ts
 |.any=>one1 (ZmL λts=>(bools? ts).map λbs=>.bl (bs.any id)) ts
 |.sum=>one1 (Zfz λts=>(ints? ts).map λns=>.int ns.sum) ts
 |.sortset=>one1 (Zfz λts=>(strs? ts).bind λxs=>if xs.length<64 then some (.lst ((ZhO xs).map .str))else none) ts
 |.sorted=>one1 (Zfz λts=>(strs? ts).bind λxs=>if xs.length<64 then some (.lst ((sortN xs).map .str))else none) ts
 |.min2=>two2 (λi j=>some (.int (if j<i then j else i))) ts
 |.max2=>two2 (λi j=>some (.int (if j>i then j else i))) ts
 |.range1=>one1 bRng ts
 |.zip2=>zipT ts
 |.dict=>one1 bDict ts
 |.zip4=>zip4T ts
 |.enum=>one1 (Zfz λts=>if ts.length<=lim then some (.lst (ZcJ ts))else none) ts
 |.lenset=>one1 (ZmL lensT) ts
 |.minl=>one1 (Zfz minlT) ts
 |.maxl=>one1 (Zfz maxlT) ts
 |.isbis=>one1 bIsb ts
 |.dget=>dGetT ts
 |.din=>dInT false ts
 |.dnot=>dInT true ts
 |.range2=>two2 (λi j=>if(i<2^62/\-(2^62)<=i)/\j<2^62/\-(2^62)<=j then some (.lst (rangeT i (j-i).toNat))else none) ts
 |_=>none
noncomputable def ofBl(f:Bool->Option T):T->Option T
 |.bl b=>f b
 |_=>none
noncomputable def idxT(xs:List T)(b:Bool):Option T:=(bools? xs).bind λbs=>if bs.length<=lim then(bs.findIdx? (·==b)).map λk=>.int (k:Int)else none
noncomputable def cntT(xs:List T)(b:Bool):Option T:=(bools? xs).bind λbs=>if bs.length<=lim then some (.int ((bs.countP (·==b):Nat):Int))else none
noncomputable def cntS(xs:List T)(b:List Nat):Option T:=(strs? xs).bind λbs=>if bs.length<=lim then some (.int ((bs.countP (·==b):Nat):Int))else none
noncomputable def cntO(xs:List T):T->Option T
 |.bl b=>cntT xs b
 |.str b=>cntS xs b
 |_=>none
noncomputable def mthT(b:Mt)(o:T)(ts:List T):Option T:=
 match b with
 |.join=>match o with
  |.str sep=>one1 (Zfz λxs=>(strs? xs).bind λys=>if(ys.map List.length).sum+ys.length*sep.length<=lim then some (.str (Qp sep ys))else none) ts
  |_=>none
 |.index=>match o with
  |.lst xs=>one1 (ofBl (idxT xs)) ts
  |_=>none
 |.count=>match o with
  |.lst xs=>one1 (cntO xs) ts
  |_=>none
 |.get=>match o with
  |.dct ks vs=>one1 (λx=>(keyT x).map λk=>(Qa ks vs k).getD .non) ts
  |_=>none
 |.split=>match o with
  |.str cs=>match ts with
   |[.str [c]]=>if cs.length<=900000 then some (.lst ((ZR c cs).map .str))else none
   |_=>none
  |_=>none
 |.upper=>match o with
  |.str cs=>match ts with
   |[]=>if cs.all asciiN&&decide (cs.length<=lim)then some (.str (cs.map upN))else none
   |_=>none
  |_=>none
 |_=>none
noncomputable def mutM(b:Mt)(xs:List T)(ts:List T):Option (T×List T):=
 match b,ts with
 |.append,[t]=>if xs.length<lim then some (.non,xs++[t])else none
 |.popat,[.int i]=>match ixOf xs.length i with
  |some k=>(xs[k]?).map λt=>(t,xs.eraseIdx k)
  |none=>none
 |.pop,[]=>match xs.getLast? with
  |some t=>some (t,xs.dropLast)
  |none=>none
 |_,_=>none
noncomputable def doM(b:Mt)(o:W)(ws:List W)(m:Mem):Res W:=match b with
 |.append|.pop|.popat|.insert|.clear|.extend|.reverse=>match o with
  |.c i=>(frzs ws m).bind λts m=>match m[i]? with
   |some (some (false,xs))=>match mutM b xs ts with
    |some (t,ys)=>.ok (.t t) (m.set i (some (false,ys)))
    |none=>.stuck
   |_=>.stuck
  |.t _=>.stuck
  |.f _=>.stuck
  |.x _ _ _=>.stuck
 |_=>pur ((view o m).bind λx=>(views ws m).bind λts=>mthT b x ts) m
noncomputable def addC(x y:W)(m:Mem):Res W:=match(view x m).bind λx=>(view y m).bind λy=>addT x y with
 |some (.lst ts)=>.ok (.c m.length) (m++[some (false,ts)])
 |_=>.stuck
noncomputable def setM(o i v:W)(m:Mem):Res Unit:=match o,i with
 |.c c,.t (.int k)=>(frz v m).bind λt m=>match m[c]? with
  |some (some (false,xs))=>match ixOf xs.length k with
   |some j=>.ok () (m.set c (some (false,xs.set j t)))
   |none=>.stuck
  |_=>.stuck
 |_,_=>.stuck
noncomputable def intP(w:W)(m:Mem):Res (Option Int):=match w with
 |.t (.int i)=>.ok (some i) m
 |_=>.stuck
noncomputable def dspT(ks vs:List W)(m:Mem):Res W:=match ks,vs with
 |[],[]=>.ok (.t (.dct [] [])) m
 |[.t k],[.t v]=>match keyT k with
  |some kk=>.ok (.t (.dct [kk] [v])) m
  |none=>.stuck
 |_,_=>.stuck
noncomputable def tyM(b:Mt)(w:W)(m:Mem):Bool:=match b with
 |.join|.upper|.split|.partition=>match view w m with
  |some (.str _)=>true
  |_=>false
 |.append|.pop|.popat|.insert|.clear|.extend|.reverse=>match w with
  |.c i=>match m[i]? with
   |some (some _)=>true
   |_=>false
  |_=>false
 |.count|.index=>match view w m with
  |some (.lst _)=>true
  |_=>false
 |.get=>match view w m with
  |some (.dct _ _)=>true
  |_=>false
noncomputable def Xe(f:Env->Mem->Res (List T))(tg:Tg):List T->Env->Mem->Res (List T)
 |[],_,m=>.ok [] m
 |t::ts,env,m=>match Xq tg t env with
  |none=>.stuck
  |some env'=>(f env' m).bind λxs m=>(Xe f tg ts env m).bind λys m=>.ok (xs++ys) m
noncomputable def Res.only{a:Type}(r:Res a):Res a:=match r with
 |.exc _ _=>.stuck
 |r=>r
inductive Flow where
 |next (env:Env)|ret (w:W)|brk (env:Env)|cont (env:Env)
noncomputable def Qh(f:Env->Mem->Res Flow)(tg:Tg):List T->Env->Mem->Res Flow
 |[],env,m=>.ok (.next env) m
 |t::ts,env,m=>match Xq tg t env with
  |none=>.stuck
  |some env=>(f env m).bind λfl m=>match fl with
   |.next env=>Qh f tg ts env m
   |.cont env=>Qh f tg ts env m
   |.brk env=>.ok (.next env) m
   |.ret w=>.ok (.ret w) m
noncomputable def Qz(c:Env->Mem->Res Bool)(f:Env->Mem->Res Flow):Nat->Env->Mem->Res Flow
 |0,_,_=>.stuck
 |n+1,env,m=>(c env m).bind λb m=>if b then(f env m).bind λfl m=>match fl with
   |.next env=>Qz c f n env m
   |.cont env=>Qz c f n env m
   |.brk env=>.ok (.next env) m
   |.ret w=>.ok (.ret w) m
  else .ok (.next env) m
noncomputable def turns:Nat:=1000000
noncomputable def fitT:T->Bool
 |.str cs=>decide (cs.length<=lim)
 |_=>true
noncomputable def ZQ(w:W)(m:Mem):Res Bool:=match view w m with
 |some t=>if fitT t then .ok (ZcN t) m else .stuck
 |none=>.stuck
noncomputable def ZcB(w:W)(m:Mem):Res Bool:=match w with
 |.t (.bl b)=>.ok b m
 |_=>.stuck
noncomputable def ZdR(w:W)(m:Mem):Res (List T):=match w with
 |.t (.lst ts)=>.ok ts m
 |_=>.stuck
noncomputable def xatT(cs:List Nat)(nm:Str)(x:W):Option T:=match x with
 |.x c nms ts=>if c∈cs then(nms.zip ts).lookup nm else none
 |_=>none
noncomputable def xisT(yes no:List Nat)(x:W):Option T:=match x with
 |.x c _ _=>if c∈yes then some (.bl true)else if c∈no then some (.bl false)else none
 |_=>none
noncomputable def hEnv(n:Nat)(nm:Option Nat)(x:Exc):Env:=match nm with
 |some i=>(List.replicate n none).set i (some (.x x.cls x.nms x.flds))
 |none=>List.replicate n none
noncomputable def unE(nm:Option Nat)(env:Env):Env:=match nm with
 |some i=>env.set i none
 |none=>env
noncomputable def fmtW(acc:List Nat)(w:W)(m:Mem):Res (List Nat):=match(view w m).bind fmtT with
 |some a=>if acc.length+a.length<=lim then .ok (acc++a) m else .stuck
 |none=>.stuck
noncomputable def treeW(w:W)(m:Mem):Res W:=match w with
 |.t x=>.ok (.t x) m
 |.c _=>.stuck
 |.f _=>.stuck
 |.x _ _ _=>.stuck
noncomputable def ZmP(gv:List T)(a:Nat):List (Nat×Nat)->Option Nat
 |[]=>none
 |(j,k)::r=>match gv[j]? with
  |some (.int b)=>if b=(a:Int)then some k else ZmP gv a r
  |_=>ZmP gv a r
section
variable(call:Nat->List W->Mem->Res W) (gv:List T)
mutual
noncomputable def ev:E->Env->Mem->Res W
 |.var i,env,m=>match env[i]? with
  |some (some w)=>.ok w m
  |_=>.stuck
 |.gl k,_,m=>pur gv[k]? m
 |.con t,_,m=>.ok (.t t) m
 |.bin op a b,env,m=>(ev a env m).bind λx m=>(ev b env m).bind λy m=>pur ((view x m).bind λx=>(view y m).bind λy=>binT op x y) m
 |.neg a,env,m=>(ev a env m).bind λx m=>pur ((view x m).bind λx=>match x with
  |.int i=>some (.int (-i))
  |_=>none) m
 |.not a,env,m=>(ev a env m).bind λx m=>(ZcB x m).bind λk m=>.ok (.t (.bl (!k))) m
 |.and a b,env,m=>(ev a env m).bind λx m=>(ZcB x m).bind λk m=>if k then ev b env m else .ok (.t (.bl false)) m
 |.or a b,env,m=>(ev a env m).bind λx m=>(ZcB x m).bind λk m=>if k then .ok (.t (.bl true)) m else ev b env m
 |.one a,env,m=>ev a env m
 |.cmp op a b,env,m=>(ev a env m).bind λx m=>(ev b env m).bind λy m=>pur (((view x m).bind λx=>(view y m).bind λy=>cmpT op x y).map .bl) m
 |.chn op op' a b c,env,m=>(ev a env m).bind λx m=>(ev b env m).bind λy m =>
   match(view x m).bind λx=>(view y m).bind λy=>cmpT op x y with
   |some true=>(ev c env m).bind λz m=>pur (((view y m).bind λy=>(view z m).bind λz=>cmpT op' y z).map .bl) m
   |some false=>.ok (.t (.bl false)) m
   |none=>.stuck
 |.ite c a b,env,m=>(ev c env m).bind λx m=>(ZQ x m).bind λk m=>if k then ev a env m else ev b env m
 |.tup es,env,m=>(evs es env m).bind λws m=>(frzs ws m).bind λts m=>if ts.length<=lim then .ok (.t (.tup ts)) m else .stuck
 |.lst es,env,m=>(evs es env m).bind λws m=>(frzs ws m).bind λts m=>if ts.length<=lim then .ok (.t (.lst ts)) m else .stuck
 |.cel es,env,m=>(evs es env m).bind λws m=>(frzs ws m).bind λts m=>if ts.length<=lim then .ok (.c m.length) (m++[some (false,ts)])else .stuck
 |.celL a,env,m=>(ev a env m).bind λx m=>match view x m with
  |some (.lst ts)=>.ok (.c m.length) (m++[some (false,ts)])
  |some (.tup ts)=>.ok (.c m.length) (m++[some (false,ts)])
  |_=>.stuck
 |.celA a b,env,m=>(ev a env m).bind λx m=>(ev b env m).bind λy m=>addC x y m
 |.dsp ks vs,env,m=>(evs ks env m).bind λkw m=>(evs vs env m).bind λvw m=>dspT kw vw m
 |.ix a b,env,m=>(ev a env m).bind λx m=>(ev b env m).bind λy m=>pur ((view x m).bind λx=>(view y m).bind λy=>ixT x y) m
 |.slc a lo hi,env,m=>(ev a env m).bind λx m=>(if Zr lo then Res.ok none m else(ev lo env m).bind intP).bind λl m =>
   (if Zr hi then Res.ok none m else(ev hi env m).bind intP).bind λh m=>pur ((view x m).bind λx=>slT x l h) m
 |.hole,_,m=>.ok (.t .non) m
 |.rev a,env,m=>(ev a env m).bind λx m=>pur ((view x m).bind λx=>match x with
  |.tup ts=>some (.tup ts.reverse)
  |.lst ts=>some (.lst ts.reverse)
  |_=>none) m
 |.call f es,env,m=>(evs es env m).bind λws m=>call f ws m
 |.blt b es,env,m=>(evs es env m).bind λws m=>pur ((views ws m).bind λts=>bltT b ts) m
 |.mth b o es,env,m=>(ev o env m).bind λx m=>if tyM b x m then(evs es env m).bind λws m=>doM b x ws m else .stuck
 |.isi a ty,env,m=>(ev a env m).bind λx m=>pur ((view x m).map λx=>.bl (isT x ty)) m
 |.comp own keep it tg cs inner,env,m=>(ev it env m).only.bind λx m0=>(ZS x m0).bind λts m =>
   (Xe (λenv m=>(tests cs env m).bind λk m=>if k then(ev inner env m).bind ZdR else .ok [] m) tg ts (List.replicate own none++keep.map λi=>(env[i]?).join) m).only.bind λout m =>
    if out.length<=lim then .ok (.t (.lst out)) (giveBack x m0 m)else .stuck
 |.more it tg cs inner,env,m=>(ev it env m).bind λx m0=>(ZS x m0).bind λts m =>
   (Xe (λenv m=>(tests cs env m).bind λk m=>if k then(ev inner env m).bind ZdR else .ok [] m) tg ts env m).bind λout m=>.ok (.t (.lst out)) (giveBack x m0 m)
 |.emit a,env,m=>(ev a env m).bind λx m=>(frz x m).bind λt m=>.ok (.t (.lst [t])) m
 |.tr a,env,m=>(ev a env m).bind treeW
 |.fnv j,_,m=>match gv[j]? with
  |some (.int a)=>.ok (.f a.toNat) m
  |_=>.stuck
 |.callV i tab es,env,m=>match env[i]? with
  |some (some (.f a))=>match ZmP gv a tab with
   |some k=>(evs es env m).bind λws m=>call k ws m
   |none=>.stuck
  |_=>.stuck
 |.xat a cs nm,env,m=>(ev a env m).bind λx m=>pur (xatT cs nm x) m
 |.xis a yes no,env,m=>(ev a env m).bind λx m=>pur (xisT yes no x) m
 |.ptd a b,env,m=>(ev a env m).bind λx m=>(ev b env m).bind λy m=>pur ((view x m).bind λx=>(view y m).bind λy=>ptT x y) m
 |.fst es,env,m=>(evf es [] env m).bind λcs m=>.ok (.t (.str cs)) m
 |.gdg k e,env,m=>(ev e env m).bind λx m=>pur ((view x m).bind λx=>gDct gv[k]? λks vs=>(keyT x).bind (Qa ks vs)) m
 |.gdn k neg e,env,m=>(ev e env m).bind λx m=>pur ((view x m).bind λx=>gDct gv[k]? λks vs=>(keyT x).map λk=>.bl (if neg then !(Qa ks vs k).isSome else(Qa ks vs k).isSome)) m
 |.dsn ks vs,env,m=>(evs vs env m).bind λws m=>(frzs ws m).bind λts m=>if ks.length=ts.length/\ks.length<=1000/\ks.Nodup then .ok (.t (.dct (ks.map λk=>.inr ⟨k.toArray⟩) ts)) m else .stuck
noncomputable def evs:Es->Env->Mem->Res (List W)
 |.nil,_,m=>.ok [] m
 |.cons e es,env,m=>(ev e env m).bind λw m=>(evs es env m).bind λws m=>.ok (w::ws) m
noncomputable def evf:Es->List Nat->Env->Mem->Res (List Nat)
 |.nil,acc,_,m=>.ok acc m
 |.cons e es,acc,env,m=>(ev e env m).bind λw m=>(fmtW acc w m).bind λacc m=>evf es acc env m
noncomputable def tests:Es->Env->Mem->Res Bool
 |.nil,_,m=>.ok true m
 |.cons e es,env,m=>(ev e env m).bind λx m=>(ZQ x m).bind λk m=>if k then tests es env m else .ok false m
end
noncomputable def ex:S->Env->Mem->Res Flow
 |.done,env,m=>.ok (.next env) m
 |.asg i e k,env,m=>(ev call gv e env m).bind λw m=>ex k (env.set i (some w)) m
 |.asgT is e k,env,m=>(ev call gv e env m).bind λw m=>match w with
  |.t t=>match Xq (.tp is) t env with
   |some env=>ex k env m
   |none=>.stuck
  |.c _=>.stuck
  |.f _=>.stuck
  |.x _ _ _=>.stuck
 |.asgC i e k,env,m=>(ev call gv e env m).bind λw m=>match w with
  |.t (.lst ts)=>ex k (env.set i (some (.c m.length))) (m++[some (false,ts)])
  |_=>.stuck
 |.set o i v k,env,m=>(ev call gv v env m).bind λz m=>(ev call gv o env m).bind λx m=>(ev call gv i env m).bind λy m =>
   (setM x y z m).bind λ_ m=>ex k env m
 |.aug i op e k,env,m=>match env[i]? with
  |some (some x)=>(ev call gv e env m).bind λy m=>(pur ((view x m).bind λx=>(view y m).bind λy=>augT op x y) m).bind λz m=>ex k (env.set i (some z)) m
  |_=>.stuck
 |.ife c a b k,env,m=>(ev call gv c env m).bind λx m=>(ZQ x m).bind λt m =>
   (if t then ex a env m else ex b env m).bind λfl m=>match fl with
    |.next env=>ex k env m
    |fl=>.ok fl m
 |.forr tg it body k,env,m=>(ev call gv it env m).bind λx m0=>(ZS x m0).bind λts m =>
   (Qh (λenv m=>ex body env m) tg ts env m).bind λfl m=>match fl with
    |.next env=>ex k env (giveBack x m0 m)
    |.ret w=>.ok (.ret w) (giveBack x m0 m)
    |_=>.stuck
 |.whil c body k,env,m=>(Qz (λenv m=>(ev call gv c env m).bind ZQ) (λenv m=>ex body env m) turns env m).bind λfl m=>match fl with
    |.next env=>ex k env m
    |fl=>.ok fl m
 |.ret e _,env,m=>(ev call gv e env m).bind λw m=>.ok (.ret w) m
 |.retN _,_,m=>.ok (.ret (.t .non)) m
 |.expr e k,env,m=>(ev call gv e env m).bind λ_ m=>ex k env m
 |.pass k,env,m=>ex k env m
 |.brk _,env,m=>.ok (.brk env) m
 |.cont _,env,m=>.ok (.cont env) m
 |.stk,_,_=>.stuck
 |.rse c nms es _,env,m=>(evs call gv es env m).bind λws m=>(frzs ws m).bind λts m=>if nms=[]then(if ts.length<=1000 then .exc ⟨c,[],[]⟩ m else .stuck)else if ts.length=nms.length then .exc ⟨c,nms,ts⟩ m else .stuck
 |.tri b yes nm h k,env,m=>match ex b env m with
  |.ok fl m=>match fl with
   |.next env=>ex k env m
   |fl=>.ok fl m
  |.exc x m=>if x.cls∈yes then(ex h (hEnv env.length nm x) m).only.bind λfl m=>match fl with
    |.next env=>ex k (unE nm env) m
    |.ret w=>.ok (.ret w) m
    |_=>.stuck
   else .stuck
  |.stuck=>.stuck
end
structure Fn where
 ps:Nat
 n:Nat
 body:S
 cell:Bool:=false
noncomputable def fin(n:Nat)(cell:Bool)(fl:Flow)(m:Mem):Res W:=match fl with
 |.ret (.t t)=>.ok (.t t) (m.take n)
 |.ret (.c i)=>if i<n then .ok (.c i) (m.take n)else match m[i]? with
  |some (some (false,ts))=>if cell then .ok (.c n) (m.take n++[some (false,ts)])else .ok (.t (.lst ts)) (m.take n)
  |_=>.stuck
 |.next _=>.ok (.t .non) (m.take n)
 |_=>.stuck
noncomputable def Jf(fns:List Fn)(gv:List T):Nat->Nat->List W->Mem->Res W
 |0,_,_,_=>.stuck
 |n+1,f,ws,m=>match fns[f]? with
  |none=>.stuck
  |some d=>if ws.length=d.ps then(ex (Jf fns gv n) gv d.body (ws.map some++List.replicate (d.n-d.ps) none) m).bind λfl m'=>fin m.length d.cell fl m' else .stuck
end Mi
namespace Mi
open PySem L2
section
variable(K:Frag)
noncomputable def Zq(cm:List Addr)(m:Mem)(a:Addr):Prop:=∀(i:Nat) p,m[i]?=some (some p)->cm[i]?≠some a
noncomputable def Ze8(H:Hp)(a:Addr)(ns:List Int):Prop:=(∃o,H a=some (.frz o (.lst (ns.map V.int)))) ∨
 ∃(o:Obj) (its:Array Value) (n:Nat),K.lookup a=some o/\o.cls=.type "list"/\o.dict=none/\o.data=.seq its n/\its.size<=sizeLine/\Vals (ns.map V.int) its.toList
inductive RT (cm:List Addr) (m:Mem) (H:Hp):T->V->Prop where
 |non:RT cm m H .non .non
 |bl (b:Bool):RT cm m H (.bl b) (.bl b)
 |int (i:Int):RT cm m H (.int i) (.int i)
 |str (cs:List Nat):RT cm m H (.str cs) (.str ⟨cs.toArray⟩)
 |tup {a:Addr}{ts:List T}{vs:List V}:SqT K H a vs->ts.length=vs.length->(∀(i:Nat) t v,ts[i]?=some t->vs[i]?=some v->RT cm m H t v)->RT cm m H (.tup ts) (.ref a)
 |lst {a:Addr}{ts:List T}{vs:List V}:H a=some (.lst vs)->Zq cm m a->ts.length=vs.length->(∀(i:Nat) t v,ts[i]?=some t->vs[i]?=some v->RT cm m H t v)->RT cm m H (.lst ts) (.ref a)
 |dct {a:Addr}{ks:List Key}{ts:List T}{vs:List V}:H a=some (.dK (ks.zip vs))->Zq cm m a->ks.length=vs.length->ts.length=vs.length ->
  (∀(i:Nat) t v,ts[i]?=some t->vs[i]?=some v->RT cm m H t v)->RT cm m H (.dct ks ts) (.ref a)
 |scr {a:Addr}(ns:List Int):Ze8 K H a ns->RT cm m H (.scr ns) (.ref a)
noncomputable abbrev RTs(cm:List Addr)(m:Mem)(H:Hp)(ts:List T)(vs:List V):Prop:=Paired (RT K cm m H) ts vs
noncomputable def XF(cm:List Addr)(m:Mem)(H:Hp)(nms:List Str)(ts:List T)(dx:Option Addr):Prop:=match dx with
 |none=>nms=[]/\ts=[]
 |some d=>∃vs,H d=some (.xd (nms.zip vs))/\nms.length=vs.length/\RTs K cm m H ts vs
noncomputable def RW(cm:List Addr)(m:Mem)(H:Hp):W->V->Prop
 |.t x,v=>RT K cm m H x v
 |.c i,v=>∃a,cm[i]?=some a/\v=.ref a
 |.f a,v=>v=.ref a
 |.x c nms ts,v=>∃a o u,v=.ref a/\H a=some (.frz o u)/\o.cls=.ref c/\(∃fs,o.data=.fields fs)/\XF K cm m H nms ts o.dict
noncomputable abbrev RWs(cm:List Addr)(m:Mem)(H:Hp)(ws:List W)(vs:List V):Prop:=Paired (RW K cm m H) ws vs
structure MemR (cm:List Addr) (m:Mem) (H:Hp):Prop where
 len:cm.length=m.length
 inj:∀(i j:Nat) a p q,m[i]?=some (some p)->m[j]?=some (some q)->cm[i]?=some a->cm[j]?=some a->i=j
 at':∀(i:Nat) p,m[i]?=some (some p)->∃a vs,cm[i]?=some a/\H a=some (.lst vs)/\K.lookup a=none/\RTs K cm m H p.2 vs
noncomputable def EnvR(cm:List Addr)(m:Mem)(H:Hp)(env:Env)(σ:L2.St):Prop:=∀(i:Nat) w,env[i]?=some (some w)->∃v,σ[i]?=some (some v)/\RW K cm m H w v
structure Ext (cm:List Addr) (m:Mem) (H:Hp) (cm':List Addr) (m':Mem) (H':Hp):Prop where
 pre:∀(i:Nat) a,cm[i]?=some a->cm'[i]?=some a
 len:m.length<=m'.length
 lent:∀(i:Nat) ts,m[i]?=some (some (true,ts))->m'[i]?=some (some (true,ts))
 keep:∀a o,H a=some o->Zq cm m a->H' a=some o/\Zq cm' m' a
end
section
variable{K:Frag}{cm cm' cm'':List Addr}{m m' m'':Mem}{H H' H'':Hp}
theorem ZaC{α β:Type}{F:α->β->Prop}:∀{xs:List α}{ys:List β},xs.length=ys.length->(∀(i:Nat) x y,xs[i]?=some x->ys[i]?=some y->F x y)->Paired F xs ys
 |[],[],_,_=>.nil
 |x::xs,y::ys,hl,h=>.cons (h 0 x y rfl rfl) (ZaC (by simpa using hl) λi a b ha hb=>h (i+1) a b (by simpa using ha) (by simpa using hb))
 |[],_::_,hl,_=>by simp at hl
 |_::_,[],hl,_=>by simp at hl
theorem QS{α β:Type}{F:α->β->Prop}:∀{xs:List α}{ys:List β},Paired F xs ys->∀(i:Nat) x y,xs[i]?=some x->ys[i]?=some y->F x y
 |_,_,.nil,i,x,y,h,_=>by simp at h
 |_,_,.cons r t,0,x,y,h1,h2=>by simp at h1 h2;subst h1;subst h2;exact r
 |_,_,.cons r t,i+1,x,y,h1,h2=>QS t i x y (by simpa using h1) (by simpa using h2)
theorem ZD{α β:Type}{F:α->β->Prop}{xs:List α}{ys:List β}(h:Paired F xs ys){i:Nat}{x:α}(hx:xs[i]?=some x):∃y,ys[i]?=some y/\F x y:=by
 have hl:=h.length
 have hi:=(List.getElem?_eq_some_iff.mp hx).1
 have hy:ys[i]?=some (ys[i]'(by omega)):=List.getElem?_eq_getElem (by omega)
 exact⟨_,hy,QS h i _ _ hx hy⟩
theorem Z0{α β:Type}{F:α->β->Prop}:∀{xs xs':List α}{ys ys':List β},Paired F xs ys->Paired F xs' ys'->Paired F (xs++xs') (ys++ys')
 |_,_,_,_,.nil,h=>h
 |_,_,_,_,.cons r t,h=>.cons r (Z0 t h)
theorem Zcf{α β:Type}{F:α->β->Prop}:∀{xs:List α}{ys:List β}(n:Nat),Paired F xs ys->Paired F (xs.take n) (ys.take n)
 |_,_,0,_=>.nil
 |_,_,_+1,.nil=>.nil
 |_,_,n+1,.cons r t=>.cons r (Zcf n t)
theorem Zcg{α β:Type}{F:α->β->Prop}:∀{xs:List α}{ys:List β}(n:Nat),Paired F xs ys->Paired F (xs.drop n) (ys.drop n)
 |_,_,0,r=>r
 |_,_,_+1,.nil=>.nil
 |_,_,n+1,.cons _ t=>Zcg n t
theorem ZcX{α β:Type}{F:α->β->Prop}{x:α}{y:β}(r:F x y):∀{xs:List α}{ys:List β}(i:Nat),Paired F xs ys->Paired F (xs.set i x) (ys.set i y)
 |_,_,_,.nil=>.nil
 |_,_,0,.cons _ t=>.cons r t
 |_,_,i+1,.cons q t=>.cons q (ZcX r i t)
theorem Zh{α β:Type}{F G:α->β->Prop}(f:∀a b,F a b->G a b){xs:List α}{ys:List β}(h:Paired F xs ys):Paired G xs ys:=L2.Paired.mapP h f
theorem RT.mtup{a:Addr}{ts:List T}{vs:List V}(h:SqT K H a vs)(r:RTs K cm m H ts vs):RT K cm m H (.tup ts) (.ref a):=.tup h r.length λi t v h1 h2=>QS r i t v h1 h2
theorem RT.mlst{a:Addr}{ts:List T}{vs:List V}(h:H a=some (.lst vs))(n:Zq cm m a)(r:RTs K cm m H ts vs):RT K cm m H (.lst ts) (.ref a):=.lst h n r.length λi t v h1 h2=>QS r i t v h1 h2
theorem RT.itup{ts:List T}{v:V}(h:RT K cm m H (.tup ts) v):∃a vs,v=.ref a/\SqT K H a vs/\RTs K cm m H ts vs:=by
 cases h with
 |tup h1 h2 h3=>exact⟨_,_,rfl,h1,ZaC h2 h3⟩
theorem RT.ilst{ts:List T}{v:V}(h:RT K cm m H (.lst ts) v):∃a vs,v=.ref a/\H a=some (.lst vs)/\Zq cm m a/\RTs K cm m H ts vs:=by
 cases h with
 |lst h1 h2 h3 h4=>exact⟨_,_,rfl,h1,h2,ZaC h3 h4⟩
theorem QJ(M:MemR K cm m H){a:Addr}{o:HO}(h:H a=some o)(hn:∀vs,o≠.lst vs):Zq cm m a:=λi ts e z=>by
 obtain⟨b,vs,h1,h2,_,_⟩:=M.at' i ts e
 rw[h1]at z;cases z
 rw[h2]at h;cases h
 exact hn _ rfl
theorem Ext.sqT(x:Ext cm m H cm' m' H')(M:MemR K cm m H){a:Addr}{vs:List V}(h:SqT K H a vs):SqT K H' a vs:=by
 rcases h with(h|⟨o,h⟩)|h
 ·exact .inl (.inl (x.keep a _ h (QJ M h (λ_ z=>by cases z))).1)
 ·exact .inl (.inr ⟨o,(x.keep a _ h (QJ M h (λ_ z=>by cases z))).1⟩)
 ·exact .inr h
theorem Ext.scr(x:Ext cm m H cm' m' H')(M:MemR K cm m H){a:Addr}{ns:List Int}(h:Ze8 K H a ns):Ze8 K H' a ns:=by
 rcases h with⟨o,h⟩|h
 ·exact .inl ⟨o,(x.keep a _ h (QJ M h (λ_ z=>by cases z))).1⟩
 ·exact .inr h
theorem Ze8.sq{a:Addr}{ns:List Int}(h:Ze8 K H a ns):SqL K H a (ns.map V.int):=by
 rcases h with⟨o,h⟩|h
 ·exact .inl (.inr ⟨o,h⟩)
 ·exact .inr h
theorem RT.ext(x:Ext cm m H cm' m' H')(M:MemR K cm m H)(M':MemR K cm' m' H'){t:T}{v:V}(h:RT K cm m H t v):RT K cm' m' H' t v:=by
 induction h with
 |non=>exact .non
 |bl b=>exact .bl b
 |int i=>exact .int i
 |str cs=>exact .str cs
 |tup h1 h2 _ ih=>exact .tup (x.sqT M h1) h2 ih
 |lst h1 h2 h3 _ ih=>exact .lst (x.keep _ _ h1 h2).1 (x.keep _ _ h1 h2).2 h3 ih
 |scr ns h=>exact .scr ns (x.scr M h)
 |dct h1 h2 h3 h4 _ ih=>exact .dct (x.keep _ _ h1 h2).1 (x.keep _ _ h1 h2).2 h3 h4 ih
theorem RTs.ext(x:Ext cm m H cm' m' H')(M:MemR K cm m H)(M':MemR K cm' m' H'){ts:List T}{vs:List V}(h:RTs K cm m H ts vs):RTs K cm' m' H' ts vs:=Zh (λ_ _ z=>z.ext x M M') h
theorem XF.ext(x:Ext cm m H cm' m' H')(M:MemR K cm m H)(M':MemR K cm' m' H'){nms:List Str}{ts:List T}{dx:Option Addr}(h:XF K cm m H nms ts dx):XF K cm' m' H' nms ts dx:=by
 cases dx with
 |none=>exact h
 |some d =>
  obtain⟨vs,h1,h2,h3⟩:=h
  exact⟨vs,(x.keep d _ h1 (QJ M h1 (λ_ z=>by cases z))).1,h2,h3.ext x M M'⟩
theorem RW.ext(x:Ext cm m H cm' m' H')(M:MemR K cm m H)(M':MemR K cm' m' H'){w:W}{v:V}(h:RW K cm m H w v):RW K cm' m' H' w v:=by
 cases w with
 |t t=>exact RT.ext x M M' h
 |c i=>obtain⟨a,h1,h2⟩:=h;exact⟨a,x.pre i a h1,h2⟩
 |f a=>exact h
 |x c nms ts=>obtain⟨a,o,u,h1,h2,h3,h3',h4⟩:=h;exact⟨a,o,u,h1,(x.keep a _ h2 (QJ M h2 (λ_ z=>by cases z))).1,h3,h3',h4.ext x M M'⟩
theorem RWs.ext(x:Ext cm m H cm' m' H')(M:MemR K cm m H)(M':MemR K cm' m' H'){ws:List W}{vs:List V}(h:RWs K cm m H ws vs):RWs K cm' m' H' ws vs:=Zh (λ_ _ z=>RW.ext x M M' z) h
theorem EnvR.ext(x:Ext cm m H cm' m' H')(M:MemR K cm m H)(M':MemR K cm' m' H'){env:Env}{σ:L2.St}(h:EnvR K cm m H env σ):EnvR K cm' m' H' env σ:=λi w e=>by
 obtain⟨v,h1,h2⟩:=h i w e
 exact⟨v,h1,h2.ext x M M'⟩
theorem Ext.refl:Ext cm m H cm m H:=⟨λ_ _ h=>h,Nat.le_refl _,λ_ _ h=>h,λ_ _ h n=>⟨h,n⟩⟩
theorem Ext.trans(x:Ext cm m H cm' m' H')(y:Ext cm' m' H' cm'' m'' H''):Ext cm m H cm'' m'' H'':=
 ⟨λi a h=>y.pre i a (x.pre i a h),Nat.le_trans x.len y.len,λi ts h=>y.lent i ts (x.lent i ts h),λa o h n=>y.keep a o (x.keep a o h n).1 (x.keep a o h n).2⟩
noncomputable abbrev XR:=Exc->List Addr->Mem->Hp->Prop
noncomputable def xr0:XR:=λ_ _ _ _=>False
variable(K) in
noncomputable def OkR{α:Type}(r:Res α)(xr:XR)(cm:List Addr)(m:Mem)(H:Hp)(k:α->List Addr->Mem->Hp->Prop):Prop:=match r with
 |.ok a m'=>∀cm' H',Ext cm m H cm' m' H'->MemR K cm' m' H'->k a cm' m' H'
 |.exc x m'=>∀cm' H',Ext cm m H cm' m' H'->MemR K cm' m' H'->xr x cm' m' H'
 |.stuck=>False
variable{xr:XR}
theorem OkR.shift{α:Type}{r:Res α}{k:α->List Addr->Mem->Hp->Prop}(h:OkR K r xr cm m H k)(x:Ext cm m H cm' m' H'):OkR K r xr cm' m' H' k:=by
 cases r with
 |ok a m2=>exact λc h' e M=>h c h' (x.trans e) M
 |exc a m2=>exact λc h' e M=>h c h' (x.trans e) M
 |stuck=>exact h
theorem OkR.bind{α β:Type}{r:Res α}{f:α->Mem->Res β}{k:β->List Addr->Mem->Hp->Prop}(h:OkR K (r.bind f) xr cm m H k):
  OkR K r xr cm m H λa cm' m' H'=>OkR K (f a m') xr cm' m' H' k:=by
 cases r with
 |ok a m2=>exact λc h' e M=>OkR.shift (show OkR K (f a m2) xr cm m H k from h) e
 |exc a m2=>exact h
 |stuck=>exact h
theorem OkR.bind0{α β:Type}{r:Res α}{f:α->Mem->Res β}{k:β->List Addr->Mem->Hp->Prop}(h:OkR K (r.bind f) xr cm m H k):
  OkR K r xr cm m H λa _ m' _=>OkR K (f a m') xr cm m H k:=by
 cases r with
 |ok a m2=>exact λc h' e M=>h
 |exc a m2=>exact h
 |stuck=>exact h
theorem OkR.mono{α:Type}{r:Res α}{k k':α->List Addr->Mem->Hp->Prop}(h:OkR K r xr cm m H k)(f:∀a cm' m' H',Ext cm m H cm' m' H'->MemR K cm' m' H'->k a cm' m' H'->k' a cm' m' H'):OkR K r xr cm m H k':=by
 cases r with
 |ok a m2=>exact λc h' e M=>f a c m2 h' e M (h c h' e M)
 |exc a m2=>exact h
 |stuck=>exact h
theorem OkR.now{α:Type}{a:α}{k:α->List Addr->Mem->Hp->Prop}(h:OkR K (.ok a m) xr cm m H k)(M:MemR K cm m H):k a cm m H:=h cm H .refl M
theorem OkR.to{α:Type}{a:α}{m':Mem}{k:α->List Addr->Mem->Hp->Prop}(h:OkR K (.ok a m') xr cm m H k)(x:Ext cm m H cm' m' H')(M:MemR K cm' m' H'):k a cm' m' H':=h cm' H' x M
end
section
variable(K:Frag) (call:Nat->List W->Mem->Res W) (gv:List T) (xr:XR)
noncomputable def tE(e:E):TE:=λσ H Q=>∃env cm m,EnvR K cm m H env σ/\MemR K cm m H/\OkR K (ev call gv e env m) xr cm m H λw cm' m' H'=>∀v,RW K cm' m' H' w v->Q v H'
noncomputable def tA(es:Es):TA:=λσ H Q=>∃env cm m,EnvR K cm m H env σ/\MemR K cm m H/\OkR K (evs call gv es env m) xr cm m H λws cm' m' H'=>∀vs,RWs K cm' m' H' ws vs->Q vs H'
noncomputable def tT(e:E):TT:=λσ H Q=>∃env cm m,EnvR K cm m H env σ/\MemR K cm m H/\OkR K ((ev call gv e env m).bind ZQ) xr cm m H λk _ _ H'=>Q k H'
noncomputable def r2(f:W->W->Mem->Res W):R2:=λx y H Q=>∃cm m a b,MemR K cm m H/\RW K cm m H a x/\RW K cm m H b y/\OkR K (f a b m) xr cm m H λw cm' m' H'=>∀v,RW K cm' m' H' w v->Q v H'
noncomputable def r1(f:W->Mem->Res W):V->Hp->VK->Prop:=λx H Q=>∃cm m a,MemR K cm m H/\RW K cm m H a x/\OkR K (f a m) xr cm m H λw cm' m' H'=>∀v,RW K cm' m' H' w v->Q v H'
noncomputable def rN(f:List W->Mem->Res W):List V->Hp->VK->Prop:=λxs H Q=>∃cm m ws,MemR K cm m H/\RWs K cm m H ws xs/\OkR K (f ws m) xr cm m H λw cm' m' H'=>∀v,RW K cm' m' H' w v->Q v H'
end
section
variable{K:Frag}{call:Nat->List W->Mem->Res W}{gv:List T}{xr:XR}{X:Cx}
theorem PE.mono{e:Expr}{t t':TE}(h:PE X e t)(f:∀σ H Q,t' σ H Q->t σ H Q):PE X e t':=λpins s σ H Q I q=>h pins s σ H Q I (f σ H Q q)
theorem PT.mono{e:Expr}{t t':TT}(h:PT X e t)(f:∀σ H Q,t' σ H Q->t σ H Q):PT X e t':=λpins s σ H Q I q=>h pins s σ H Q I (f σ H Q q)
theorem PA.mono{e:List Expr}{t t':TA}(h:PA X e t)(f:∀σ H Q,t' σ H Q->t σ H Q):PA X e t':=λpos pins s σ H Q I q=>h pos pins s σ H Q I (f σ H Q q)
theorem ZjI{a b e:E}{f:W->W->Mem->Res W}(h:∀env m,ev call gv e env m=(ev call gv a env m).bind λx m=>(ev call gv b env m).bind λy m=>f x y m)(σ:L2.St)(H:Hp)(Q:VK)(q:tE K call gv xr e σ H Q):
  tOp (r2 K xr f) (tE K call gv xr a) (tE K call gv xr b) σ H Q:=by
 obtain⟨env,cm,m,hE,hM,ho⟩:=q
 rw[h]at ho
 refine⟨env,cm,m,hE,hM,ho.bind.mono λw cm1 m1 H1 x1 M1 o1 v rv=>?_⟩
 refine⟨env,cm1,m1,hE.ext x1 hM M1,M1,o1.bind.mono λw2 cm2 m2 H2 x2 M2 o2 v2 rv2=>?_⟩
 exact⟨cm2,m2,w,w2,M2,rv.ext x2 M1 M2,rv2,o2⟩
theorem t1_of{a e:E}{f:W->Mem->Res W}(h:∀env m,ev call gv e env m=(ev call gv a env m).bind λx m=>f x m)(σ:L2.St)(H:Hp)(Q:VK)(q:tE K call gv xr e σ H Q):
  tUn (r1 K xr f) (tE K call gv xr a) σ H Q:=by
 obtain⟨env,cm,m,hE,hM,ho⟩:=q
 rw[h]at ho
 exact⟨env,cm,m,hE,hM,ho.bind.mono λw cm1 m1 H1 x1 M1 o1 v rv=>⟨cm1,m1,w,M1,rv,o1⟩⟩
end
end Mi
namespace Mi
open PySem PySem.Spec PyProof.Rows L2
section
variable{K:Frag}{cm:List Addr}{m:Mem}{H:Hp}{xr:XR}{X:Cx}
theorem Zd{w:W}{v:V}{t:T}(h:RW K cm m H w v)(e:view w m=some t)(n:∀ts,t≠.lst ts):RT K cm m H t v:=by
 cases w with
 |t x=>cases e;exact h
 |f a=>cases e
 |x _ _ _=>cases e
 |c i =>
  unfold view at e
  dsimp only at e
  split at e
  ·cases e;exact absurd rfl (n _)
  ·cases e
theorem ZK{w:W}{v:V}{ts:List T}(M:MemR K cm m H)(h:RW K cm m H w v)(e:view w m=some (.lst ts)):∃a vs,v=.ref a/\H a=some (.lst vs)/\RTs K cm m H ts vs:=by
 cases w with
 |t x =>
  cases e
  obtain⟨a,vs,h1,h2,_,h3⟩:=RT.ilst h
  exact⟨a,vs,h1,h2,h3⟩
 |f a=>cases e
 |x _ _ _=>cases e
 |c i =>
  unfold view at e
  dsimp only at e
  split at e
  ·rename_i fl us hu
   cases e
   obtain⟨a,h1,h2⟩:=h
   obtain⟨b,vs,h3,h4,_,h5⟩:=M.at' i _ hu
   rw[h1]at h3;cases h3
   exact⟨a,vs,h2,h4,h5⟩
  ·cases e
theorem RT.vint{i:Int}{v:V}(h:RT K cm m H (.int i) v):v=.int i:=by cases h;rfl
theorem RT.vbl{b:Bool}{v:V}(h:RT K cm m H (.bl b) v):v=.bl b:=by cases h;rfl
theorem RT.vnon{v:V}(h:RT K cm m H .non v):v=.non:=by cases h;rfl
theorem RT.vstr{cs:List Nat}{v:V}(h:RT K cm m H (.str cs) v):v=.str ⟨cs.toArray⟩:=by cases h;rfl
theorem RT.vscr{ns:List Int}{v:V}(h:RT K cm m H (.scr ns) v):∃a,v=.ref a/\Ze8 K H a ns:=by
 cases h with
 |scr _ h=>exact⟨_,rfl,h⟩
theorem Zan(M:MemR K cm m H){p:Addr}(hp:H p=none):Zq cm m p:=λi ts e z=>by
 obtain⟨a,vs,h1,h2,_⟩:=M.at' i ts e
 rw[h1]at z;cases z
 rw[hp]at h2;cases h2
theorem Ext.new{p:Addr}{o:HO}(hp:H p=none):Ext cm m H cm m (upd H p o):=
 ⟨λ_ _ h=>h,Nat.le_refl _,λ_ _ h=>h,λa u h n=>⟨by rw[Zi (ZW h hp)];exact h,n⟩⟩
theorem RT.same{H':Hp}{cm':List Addr}{m':Mem}(h1:∀a o,H a=some o->H' a=some o)(h2:∀a,Zq cm m a->H a≠none->Zq cm' m' a){t:T}{v:V}(h:RT K cm m H t v):RT K cm' m' H' t v:=by
 induction h with
 |non=>exact .non
 |bl b=>exact .bl b
 |int i=>exact .int i
 |str cs=>exact .str cs
 |tup q1 q2 _ ih =>
  refine .tup ?_ q2 ih
  rcases q1 with(q|⟨o,q⟩)|q
  ·exact .inl (.inl (h1 _ _ q))
  ·exact .inl (.inr ⟨o,h1 _ _ q⟩)
  ·exact .inr q
 |lst q1 q2 q3 _ ih=>exact .lst (h1 _ _ q1) (h2 _ q2 (by rw[q1];simp)) q3 ih
 |dct q1 q2 q3 q4 _ ih=>exact .dct (h1 _ _ q1) (h2 _ q2 (by rw[q1];simp)) q3 q4 ih
 |scr ns q =>
  refine .scr ns ?_
  rcases q with⟨o,q⟩|q
  ·exact .inl ⟨o,h1 _ _ q⟩
  ·exact .inr q
theorem XF.same{H':Hp}{cm':List Addr}{m':Mem}(h1:∀a o,H a=some o->H' a=some o)(f:∀t v,RT K cm m H t v->RT K cm' m' H' t v){nms:List Str}{ts:List T}{dx:Option Addr}(h:XF K cm m H nms ts dx):XF K cm' m' H' nms ts dx:=by
 cases dx with
 |none=>exact h
 |some d =>
  obtain⟨vs,q1,q2,q3⟩:=h
  exact⟨vs,h1 _ _ q1,q2,Zh (λt v z=>f t v z) q3⟩
theorem XF.wsame{cm':List Addr}{m':Mem}(f:∀t v,RT K cm m H t v->RT K cm' m' H t v){c:Nat}{nms:List Str}{ts:List T}{v:V}(h:RW K cm m H (.x c nms ts) v):RW K cm' m' H (.x c nms ts) v:=by
 obtain⟨a,o,u,q1,q2,q3,q3',q4⟩:=h
 exact⟨a,o,u,q1,q2,q3,q3',q4.same (λ_ _ z=>z) f⟩
theorem ZV{p:Addr}{o:HO}(hp:H p=none):∀a u,H a=some u->upd H p o a=some u:=λa u h=>by rw[Zi (ZW h hp)];exact h
theorem MemR.new(M:MemR K cm m H){p:Addr}{o:HO}(hp:H p=none):MemR K cm m (upd H p o):=
 ⟨M.len,M.inj,λi ts e=>by
  obtain⟨a,vs,h1,h2,h3,h4⟩:=M.at' i ts e
  exact⟨a,vs,h1,ZV hp _ _ h2,h3,Zh (λ_ _ z=>z.same (ZV hp) λ_ n _=>n) h4⟩⟩
theorem RTs.new{ts:List T}{vs:List V}(r:RTs K cm m H ts vs){p:Addr}{o:HO}(hp:H p=none):RTs K cm m (upd H p o) ts vs:=Zh (λ_ _ z=>z.same (ZV hp) λ_ n _=>n) r
theorem RT.newTup{ts:List T}{vs:List V}(r:RTs K cm m H ts vs){p:Addr}(hp:H p=none):RT K cm m (upd H p (.tup vs)) (.tup ts) (.ref p):=.mtup (.of Zk) (RTs.new r hp)
theorem RT.newLst(M:MemR K cm m H){ts:List T}{vs:List V}(r:RTs K cm m H ts vs){p:Addr}(hp:H p=none):RT K cm m (upd H p (.lst vs)) (.lst ts) (.ref p):=.mlst Zk (Zan M hp) (RTs.new r hp)
theorem Zcl{p:Addr}{c:Bool×List T}(hl:cm.length=m.length){a:Addr}(n:Zq cm m a)(ne:a≠p):Zq (cm++[p]) (m++[some c]) a:=λi us e z=>by
 by_cases hi:i<m.length
 ·rw[List.getElem?_append_left hi]at e
  rw[List.getElem?_append_left (by omega)]at z
  exact n i us e z
 ·by_cases hj:i=m.length
  ·subst hj
   rw[<-hl,List.getElem?_append_right (Nat.le_refl _)]at z
   simp at z
   exact ne z.symm
  ·rw[List.getElem?_eq_none (by simp;omega)]at e
   cases e
theorem ZkR(M:MemR K cm m H){ts:List T}{vs:List V}(r:RTs K cm m H ts vs){p:Addr}(hp:H p=none)(hk:K.lookup p=none):
  Ext cm m H (cm++[p]) (m++[some (false,ts)]) (upd H p (.lst vs))/\MemR K (cm++[p]) (m++[some (false,ts)]) (upd H p (.lst vs))/\RW K (cm++[p]) (m++[some (false,ts)]) (upd H p (.lst vs)) (.c m.length) (.ref p):=by
 have sm:∀{t:T}{v:V},RT K cm m H t v->RT K (cm++[p]) (m++[some (false,ts)]) (upd H p (.lst vs)) t v:=λh =>
  h.same (ZV hp) λa n hn=>Zcl M.len n λz=>by subst z;exact hn hp
 have cs:∀{i:Nat}{c:Bool×List T},(m++[some (false,ts)])[i]?=some (some c)->(m[i]?=some (some c)/\i<m.length)∨(i=m.length/\c=(false,ts)):=λ{i c} e=>by
  by_cases hi:i<m.length
  ·rw[List.getElem?_append_left hi]at e
   exact .inl ⟨e,hi⟩
  ·by_cases hj:i=m.length
   ·subst hj
    simp at e
    exact .inr ⟨rfl,e.symm⟩
   ·rw[List.getElem?_eq_none (by simp;omega)]at e
    cases e
 have cl:∀{i:Nat},i<m.length->(cm++[p])[i]?=cm[i]?:=λ{i} h=>List.getElem?_append_left (by rw[M.len];exact h)
 have cp:(cm++[p])[m.length]?=some p:=by rw[<-M.len];simp
 have np:∀{i:Nat}{c:Bool×List T}{a:Addr},m[i]?=some (some c)->cm[i]?=some a->a≠p:=λ{i c a} e1 e2 z=>by
  subst z
  obtain⟨b,ws,q1,q2,_⟩:=M.at' i c e1
  rw[e2]at q1;cases q1
  rw[hp]at q2;cases q2
 refine⟨⟨λi a h=>?_,by simp,λi us h=>?_,λa o h n=>⟨ZV hp _ _ h,Zcl M.len n (ZW h hp)⟩⟩,⟨by simp[M.len],λi j a us us' e1 e2 f1 f2=>?_,λi us e=>?_⟩,⟨p,cp,rfl⟩⟩
 ·rw[List.getElem?_append_left (List.getElem?_eq_some_iff.mp h).1];exact h
 ·rw[List.getElem?_append_left (List.getElem?_eq_some_iff.mp h).1];exact h
 ·rcases cs e1 with⟨g1,l1⟩|⟨k1,_⟩
  ·rw[cl l1]at f1
   rcases cs e2 with⟨g2,l2⟩|⟨k2,_⟩
   ·rw[cl l2]at f2
    exact M.inj i j a _ _ g1 g2 f1 f2
   ·rw[k2,cp]at f2;cases f2
    exact absurd rfl (np g1 f1)
  ·rw[k1,cp]at f1;cases f1
   rcases cs e2 with⟨g2,l2⟩|⟨k2,_⟩
   ·rw[cl l2]at f2
    exact absurd rfl (np g2 f2)
   ·rw[k1,k2]
 ·rcases cs e with⟨g,l⟩|⟨k,z⟩
  ·obtain⟨a,ws,q1,q2,q3,q4⟩:=M.at' i us g
   exact⟨a,ws,by rw[cl l];exact q1,ZV hp _ _ q2,q3,Zh (λ_ _ z=>sm z) q4⟩
  ·rw[k,z]
   exact⟨p,vs,cp,Zk,hk,Zh (λ_ _ z=>sm z) r⟩
theorem XM{i:Nat}{c c':Bool×List T}(e:m[i]?=some (some c)){j:Nat}{d:Bool×List T}(q:(m.set i (some c'))[j]?=some (some d)):∃d',m[j]?=some (some d'):=by
 by_cases hj:j=i
 ·subst hj;exact⟨c,e⟩
 ·rw[List.getElem?_set_ne (Ne.symm hj)]at q;exact⟨d,q⟩
theorem Zbg(M:MemR K cm m H){i:Nat}{ts ts':List T}{a:Addr}{vs':List V}(e:m[i]?=some (some (false,ts)))(hc:cm[i]?=some a)(r:RTs K cm m H ts' vs'):
  Ext cm m H cm (m.set i (some (false,ts'))) (upd H a (.lst vs'))/\MemR K cm (m.set i (some (false,ts'))) (upd H a (.lst vs')):=by
 have hi:i<m.length:=(List.getElem?_eq_some_iff.mp e).1
 have nl:∀{b:Addr},Zq cm m b->Zq cm (m.set i (some (false,ts'))) b:=λ{b} n j us q=>by
  obtain⟨us',q'⟩:=XM e q
  exact n j us' q'
 have ne:∀{b:Addr},Zq cm m b->b≠a:=λ{b} n z=>by subst z;exact n i _ e hc
 have x:Ext cm m H cm (m.set i (some (false,ts'))) (upd H a (.lst vs')):=⟨λ_ _ h=>h,by simp,λj us h=>by
  by_cases hj:j=i
  ·subst hj;rw[e]at h;cases h
  ·rw[List.getElem?_set_ne (Ne.symm hj)];exact h,λb o h n=>⟨by rw[Zi (ne n)];exact h,nl n⟩⟩
 have sm:∀{t:T}{v:V},RT K cm m H t v->RT K cm (m.set i (some (false,ts'))) (upd H a (.lst vs')) t v:=λ{t v} h=>by
  induction h with
  |non=>exact .non
  |bl b=>exact .bl b
  |int i=>exact .int i
  |str cs=>exact .str cs
  |tup q1 q2 _ ih=>exact .tup (x.sqT M q1) q2 ih
  |lst q1 q2 q3 _ ih=>exact .lst (x.keep _ _ q1 q2).1 (x.keep _ _ q1 q2).2 q3 ih
  |dct q1 q2 q3 q4 _ ih=>exact .dct (x.keep _ _ q1 q2).1 (x.keep _ _ q1 q2).2 q3 q4 ih
  |scr ns q=>exact .scr ns (x.scr M q)
 refine⟨x,⟨by simp[M.len],λj k b us us' e1 e2 f1 f2=>?_,λj us q=>?_⟩⟩
 ·obtain⟨_,e1⟩:=XM e e1
  obtain⟨_,e2⟩:=XM e e2
  exact M.inj j k b _ _ e1 e2 f1 f2
 ·by_cases hj:j=i
  ·subst hj
   rw[List.getElem?_set_self hi]at q
   cases q
   obtain⟨b,ws,q1,_,q3,_⟩:=M.at' j _ e
   rw[hc]at q1;cases q1
   exact⟨a,vs',hc,Zk,q3,Zh (λ_ _ z=>sm z) r⟩
  ·rw[List.getElem?_set_ne (Ne.symm hj)]at q
   obtain⟨b,ws,q1,q2,q3,q4⟩:=M.at' j us q
   have hb:b≠a:=λz=>by
    subst z
    exact hj (M.inj j i b _ _ q e q1 hc)
   exact⟨b,ws,q1,by rw[Zi hb];exact q2,q3,Zh (λ_ _ z=>sm z) q4⟩
theorem Zjk(M:MemR K cm m H){i:Nat}{ts:List T}(e:m[i]?=some (some (false,ts))):
  ∃a vs,cm[i]?=some a/\H a=some (.lst vs)/\K.lookup a=none/\Ext cm m H cm (m.set i none) H/\MemR K cm (m.set i none) H/\RTs K cm (m.set i none) H ts vs/\RT K cm (m.set i none) H (.lst ts) (.ref a):=by
 obtain⟨a,vs,q1,q2,q3,q4⟩:=M.at' i _ e
 have hi:i<m.length:=(List.getElem?_eq_some_iff.mp e).1
 have lv:∀{j:Nat}{us:Bool×List T},(m.set i none)[j]?=some (some us)->m[j]?=some (some us)/\j≠i:=λ{j us} q=>by
  by_cases hj:j=i
  ·subst hj;rw[List.getElem?_set_self hi]at q;cases q
  ·rw[List.getElem?_set_ne (Ne.symm hj)]at q;exact⟨q,hj⟩
 have nl:∀{b:Addr},Zq cm m b->Zq cm (m.set i none) b:=λ{b} n j us q=>n j us (lv q).1
 have sm:∀{t:T}{v:V},RT K cm m H t v->RT K cm (m.set i none) H t v:=λh=>h.same (λ_ _ z=>z) λ_ n _=>nl n
 have na:Zq cm (m.set i none) a:=λj us q z=>(lv q).2 (M.inj j i a _ _ (lv q).1 e z q1)
 have rs:RTs K cm (m.set i none) H ts vs:=Zh (λ_ _ z=>sm z) q4
 refine⟨a,vs,q1,q2,q3,⟨λ_ _ h=>h,by simp,λj us h=>?_,λb o h n=>⟨h,nl n⟩⟩,⟨by simp[M.len],λj k b us us' e1 e2=>M.inj j k b _ _ (lv e1).1 (lv e2).1,λj us q=>?_⟩,rs,.mlst q2 na rs⟩
 ·by_cases hj:j=i
  ·subst hj;rw[e]at h;cases h
  ·rw[List.getElem?_set_ne (Ne.symm hj)];exact h
 ·obtain⟨b,ws,p1,p2,p3,p4⟩:=M.at' j us (lv q).1
  exact⟨b,ws,p1,p2,p3,Zh (λ_ _ z=>sm z) p4⟩
theorem Zcx(M:MemR K cm m H){i:Nat}{b b':Bool}{ts:List T}(e:m[i]?=some (some (b,ts))):
  (∀a,Zq cm m a↔Zq cm (m.set i (some (b',ts))) a)/\MemR K cm (m.set i (some (b',ts))) H/\(∀t v,RT K cm m H t v->RT K cm (m.set i (some (b',ts))) H t v):=by
 have hi:i<m.length:=(List.getElem?_eq_some_iff.mp e).1
 have nl:∀a,Zq cm m a↔Zq cm (m.set i (some (b',ts))) a:=λa=>by
  constructor
  ·intro n j us q
   obtain⟨d,q'⟩:=XM e q
   exact n j d q'
  ·intro n j us q
   by_cases hj:j=i
   ·subst hj
    exact n j _ (List.getElem?_set_self hi)
   ·exact n j us (by rw[List.getElem?_set_ne (Ne.symm hj)];exact q)
 have sm:∀t v,RT K cm m H t v->RT K cm (m.set i (some (b',ts))) H t v:=λt v h=>h.same (λ_ _ z=>z) λa n _=>(nl a).mp n
 refine⟨nl,⟨by simp[M.len],λj k a us us' e1 e2 f1 f2=>?_,λj us q=>?_⟩,sm⟩
 ·obtain⟨_,e1⟩:=XM e e1
  obtain⟨_,e2⟩:=XM e e2
  exact M.inj j k a _ _ e1 e2 f1 f2
 ·by_cases hj:j=i
  ·subst hj
   rw[List.getElem?_set_self hi]at q
   cases q
   obtain⟨a,vs,q1,q2,q3,q4⟩:=M.at' j _ e
   exact⟨a,vs,q1,q2,q3,Zh (λ_ _ z=>sm _ _ z) q4⟩
  ·rw[List.getElem?_set_ne (Ne.symm hj)]at q
   obtain⟨a,vs,q1,q2,q3,q4⟩:=M.at' j us q
   exact⟨a,vs,q1,q2,q3,Zh (λ_ _ z=>sm _ _ z) q4⟩
theorem Zjj(M:MemR K cm m H){i:Nat}{b:Bool}{ts:List T}(e:m[i]?=some (some (b,ts))):Ext cm m H cm (m.set i (some (true,ts))) H/\MemR K cm (m.set i (some (true,ts))) H:=by
 have hi:i<m.length:=(List.getElem?_eq_some_iff.mp e).1
 obtain⟨nl,M',_⟩:=Zcx (b':=true) M e
 refine⟨⟨λ_ _ h=>h,by simp,λj us h=>?_,λa o h n=>⟨h,(nl a).mp n⟩⟩,M'⟩
 by_cases hj:j=i
 ·subst hj
  rw[e]at h;cases h
  exact List.getElem?_set_self hi
 ·rw[List.getElem?_set_ne (Ne.symm hj)];exact h
theorem ZaJ{cm':List Addr}{m1 m':Mem}{H':Hp}{w:W}{ts:List T}(M:MemR K cm m H)(e:ZS w m=.ok ts m1)(x:Ext cm m1 H cm' m' H')(M':MemR K cm' m' H'):
  Ext cm m H cm' (giveBack w m m') H'/\MemR K cm' (giveBack w m m') H'/\∀t v,RT K cm' m' H' t v->RT K cm' (giveBack w m m') H' t v:=by
 cases w with
 |t t =>
  unfold ZS at e
  dsimp only at e
  split at e<;>cases e
  exact⟨x,M',λ_ _ h=>h⟩
 |f a=>cases e
 |x _ _ _=>cases e
 |c i =>
  unfold ZS at e
  dsimp only at e
  split at e
  ·rename_i b us h
   cases e
   have hi:i<m.length:=(List.getElem?_eq_some_iff.mp h).1
   have h':m'[i]?=some (some (true,ts)):=x.lent i ts (List.getElem?_set_self hi)
   have hi':i<m'.length:=(List.getElem?_eq_some_iff.mp h').1
   obtain⟨nl,M2,sm⟩:=Zcx (b':=b) M' h'
   have eg:giveBack (.c i) m m'=m'.set i (some (b,ts)):=by unfold giveBack;dsimp only;rw[h]
   rw[eg]
   obtain⟨nl0,M1,_⟩:=Zcx (b':=true) M h
   refine⟨⟨λj a q=>x.pre j a q,by rw[List.length_set];have:=x.len;rw[List.length_set]at this;exact this,λj vs q=>?_,λa o q n=>?_⟩,M2,sm⟩
   ·by_cases hj:j=i
    ·subst hj
     rw[h]at q;cases q
     exact List.getElem?_set_self hi'
    ·rw[List.getElem?_set_ne (Ne.symm hj)]
     exact x.lent j vs (by rw[List.getElem?_set_ne (Ne.symm hj)];exact q)
   ·obtain⟨q1,q2⟩:=x.keep a o q ((nl0 a).mp n)
    exact⟨q1,(nl a).mp q2⟩
  ·cases e
theorem ZM:lim<=sizeLine:=by rw[sizeLine_eq];decide
theorem Qm{o:Option T}{k:W->List Addr->Mem->Hp->Prop}(h:OkR K (pur o m) xr cm m H k):∃t,o=some t/\OkR K (.ok (.t t) m) xr cm m H k:=by
 cases o with
 |none=>exact h.elim
 |some t=>exact⟨t,rfl,h⟩
theorem ZcM{α:Type}{o p:Option T}{f:T->T->Option α}{z:α}(h:(o.bind λx=>p.bind λy=>f x y)=some z):∃x y,o=some x/\p=some y/\f x y=some z:=by
 cases o with
 |none=>cases h
 |some x =>
  cases p with
  |none=>cases h
  |some y=>exact⟨x,y,rfl,rfl,h⟩
theorem ZhK(a b:List Nat):(⟨a.toArray⟩:Str)++⟨b.toArray⟩=⟨(a++b).toArray⟩:=by
 show(⟨a.toArray++b.toArray⟩:Str)=_
 simp
theorem J8(a:List Nat):(⟨a.toArray⟩:Str).length=a.length:=by simp[Str.length]
theorem ans{t:T}{Q:VK}(ho:OkR K (.ok (.t t) m) xr cm m H λw cm' m' H'=>∀v,RW K cm' m' H' w v->Q v H')(M:MemR K cm m H){v:V}(r:RT K cm m H t v):Q v H:=ho.now M v r
theorem Zdf{ts:List T}{Q:VK}(ho:OkR K (.ok (.t (.tup ts)) m) xr cm m H λw cm' m' H'=>∀v,RW K cm' m' H' w v->Q v H')(M:MemR K cm m H){vs:List V}(r:RTs K cm m H ts vs){p:Addr}(hp:H p=none):
 Q (.ref p) (upd H p (.tup vs)):=ho.to (.new hp) (M.new hp) _ (RT.newTup r hp)
theorem Zdg{ts:List T}{Q:VK}(ho:OkR K (.ok (.t (.lst ts)) m) xr cm m H λw cm' m' H'=>∀v,RW K cm' m' H' w v->Q v H')(M:MemR K cm m H){vs:List V}(r:RTs K cm m H ts vs){p:Addr}(hp:H p=none):
 Q (.ref p) (upd H p (.lst vs)):=ho.to (.new hp) (M.new hp) _ (RT.newLst M r hp)
theorem ZmO{i j:Int}(h1:i.natAbs<bigN)(h2:j.natAbs<bigN):IntMulOk i j:=by
 have b:∀{k:Int},k.natAbs<bigN->Builtin.Int.intBits k<=2000:=λ{k} h=>intBits_le (by
  have e:bigN=2^(250*8):=by unfold bigN;rw[<-Nat.pow_mul]
  rw[e]at h
  exact h)
 exact mulOk_of_bits (b h1) (b h2) (by decide)
theorem Zec{i:Int}(h:small i=true):-(2^64)<i/\i<2^64:=by
 have h':i.natAbs<2^64:=of_decide_eq_true h
 omega
theorem Zko{i j:Int}(h:X7 i j=true):IntMulOk i j:=by
 unfold X7 at h
 simp only[Bool.or_eq_true,Bool.and_eq_true,decide_eq_true_eq]at h
 rcases h with(h|h)|⟨h1,h2⟩
 ·exact CMul.ok (.inl (Zec h))
 ·exact CMul.ok (.inr (Zec h))
 ·exact ZmO h1 h2
theorem ZmH:OpR X (binaryOp .Mult) (rI (λi j=>X7 i j=true) λi j=>.int (i*j)):=opI λ_ _ _ _ _ _ _ hc q=>mul_int q (Zko hc)
theorem Znn{prog:Program}{w:World}{A:Around}{E:Value->Shared->Prop}{s:Shared}{t b:Addr}{ws:List Value}{Q:Value->Shared->Prop}(ht:IsTup s.heap t ([]:List Value).toArray)(hb:IsTup s.heap b ws.toArray)(h:Q (.ref b) s):wpAny (model prog w) A (binaryOp .Add (.ref t) (.ref b)) Q E s:=by
 obtain⟨⟨cls,dd,data,sl⟩,ho,hc,n,hd⟩:=id ht
 obtain⟨⟨cls2,dd2,data2,sl2⟩,ho2,hc2,n2,hd2⟩:=id hb
 simp only at hc hd hc2 hd2
 subst hc hd hc2 hd2
 exact concat_meets ⟨_,ho,rfl⟩ ⟨_,ho2,rfl⟩ noFill_tuple_add seq_tuple_add PySem.F.slot_tuple_add PySem.F.entry_tuple_add (PySem.F.args_tuple_add_2 _ _)
  (tuple_addW0 t b ([]:List Value).toArray ws.toArray n n2 dd dd2 sl sl2 (by simp)) ⟨ho,ho2,h⟩
theorem ZmG:OpR X (binaryOp .Add) (λx y H Q=>∃a b ys,x=.ref a/\y=.ref b/\SqT X.K H a []/\SqT X.K H b ys/\Q (.ref b) H):=by
 intro pins s σ H x y v u Q I rx ry h
 obtain⟨a,b,ys,rfl,rfl,ha,hb,q⟩:=h
 cases rx
 cases ry
 obtain⟨its,r1,p1,_⟩:=I.tuple ha
 obtain⟨its2,r2,p2,_⟩:=I.tuple hb
 cases r1
 exact Znn p1 p2 ⟨.ref b,H,I,rfl,q⟩
theorem ZaF{f:Int->Int->Option T}{x y t:T}(e:intT f x y=some t):∃i j,x=.int i/\y=.int j/\f i j=some t:=by
 cases x with
 |int i=>cases y with
  |int j=>exact⟨i,j,rfl,rfl,e⟩
  |_=>cases e
 |_=>cases e
theorem Zba{f:Int->Int->Bool}{x y:T}{c:Bool}(e:ZcH f x y=some c):∃i j,x=.int i/\y=.int j/\f i j=c:=by
 cases x with
 |int i=>cases y with
  |int j=>exact⟨i,j,rfl,rfl,Option.some.inj e⟩
  |_=>cases e
 |_=>cases e
noncomputable def fBin(op:Operator)(x y:W)(m:Mem):Res W:=pur ((view x m).bind λx=>(view y m).bind λy=>binT op x y) m
theorem ZgY:OpR X (binaryOp .Add) (r2 X.K xr (fBin .Add)):=by
 rintro pins s σ H x y v u Q I rx ry ⟨cm,m,a,b,M,ra,rb,ho⟩
 obtain⟨t,e,ho⟩:=Qm ho
 obtain⟨ta,tb,ea,eb,e⟩:=ZcM e
 change addT ta tb=some t at e
 unfold addT at e
 have hz:=ZM
 split at e
 ·cases e
  cases(Zd ra ea (λ_ z=>by cases z)).vint
  cases(Zd rb eb (λ_ z=>by cases z)).vint
  exact op_add pins s σ H _ _ v u Q I rx ry ⟨_,_,rfl,rfl,ans ho M (.int _)⟩
 ·split at e<;>cases e
  cases(Zd ra ea (λ_ z=>by cases z)).vstr
  cases(Zd rb eb (λ_ z=>by cases z)).vstr
  exact ZgZ pins s σ H _ _ v u Q I rx ry ⟨_,_,rfl,rfl,by rw[J8,J8];omega,by rw[ZhK];exact ans ho M (.str _)⟩
 ·split at e<;>cases e
  obtain⟨p,vs,rfl,h1,r1⟩:=(Zd ra ea (λ_ z=>by cases z)).itup
  obtain⟨q,us,rfl,h2,r2⟩:=(Zd rb eb (λ_ z=>by cases z)).itup
  have l1:=r1.length
  have l2:=r2.length
  cases vs with
  |nil =>
   cases r1
   exact ZmG pins s σ H _ _ v u Q I rx ry ⟨p,q,us,rfl,rfl,h1,h2,ans ho M (.mtup h2 r2)⟩
  |cons v1 vs =>
   refine ZmJ pins s σ H _ _ v u Q I rx ry ⟨p,q,_,us,rfl,rfl,h1,h2,by simp,by omega,λz=>?_,λz l hl=>Zdf ho M (Z0 r1 r2) hl⟩
   subst z
   cases r2
   rw[List.append_nil]at ho
   exact ans ho M (.mtup h1 r1)
 ·split at e<;>cases e
  obtain⟨p,vs,rfl,h1,r1⟩:=ZK M ra ea
  obtain⟨q,us,rfl,h2,r2⟩:=ZK M rb eb
  have l1:=r1.length
  have l2:=r2.length
  exact op_cat pins s σ H _ _ v u Q I rx ry ⟨p,q,vs,us,rfl,rfl,h1,h2,by omega,λl hl=>Zdg ho M (Z0 r1 r2) hl⟩
 all_goals cases e
theorem ZgU:OpR X (binaryOp .Sub) (r2 X.K xr (fBin .Sub)):=by
 rintro pins s σ H x y v u Q I rx ry ⟨cm,m,a,b,M,ra,rb,ho⟩
 obtain⟨t,e,ho⟩:=Qm ho
 obtain⟨ta,tb,ea,eb,e⟩:=ZcM e
 obtain⟨i,j,rfl,rfl,e2⟩:=ZaF e
 cases(Zd ra ea (λ_ z=>by cases z)).vint
 cases(Zd rb eb (λ_ z=>by cases z)).vint
 cases e2
 exact op_sub pins s σ H _ _ v u Q I rx ry ⟨_,_,rfl,rfl,ans ho M (.int _)⟩
theorem Zfx:OpR X (binaryOp .FloorDiv) (r2 X.K xr (fBin .FloorDiv)):=by
 rintro pins s σ H x y v u Q I rx ry ⟨cm,m,a,b,M,ra,rb,ho⟩
 obtain⟨t,e,ho⟩:=Qm ho
 obtain⟨ta,tb,ea,eb,e⟩:=ZcM e
 obtain⟨i,j,rfl,rfl,e2⟩:=ZaF e
 cases(Zd ra ea (λ_ z=>by cases z)).vint
 cases(Zd rb eb (λ_ z=>by cases z)).vint
 split at e2<;>cases e2
 exact ZmI pins s σ H _ _ v u Q I rx ry ⟨_,_,rfl,rfl,‹_/\_›,ans ho M (.int _)⟩
theorem ZgX:OpR X (binaryOp .Mod) (r2 X.K xr (fBin .Mod)):=by
 rintro pins s σ H x y v u Q I rx ry ⟨cm,m,a,b,M,ra,rb,ho⟩
 obtain⟨t,e,ho⟩:=Qm ho
 obtain⟨ta,tb,ea,eb,e⟩:=ZcM e
 obtain⟨i,j,rfl,rfl,e2⟩:=ZaF e
 cases(Zd ra ea (λ_ z=>by cases z)).vint
 cases(Zd rb eb (λ_ z=>by cases z)).vint
 split at e2<;>cases e2
 exact op_mod pins s σ H _ _ v u Q I rx ry ⟨_,_,rfl,rfl,‹_›,ans ho M (.int _)⟩
theorem ZgV:OpR X (binaryOp .Pow) (r2 X.K xr (fBin .Pow)):=by
 rintro pins s σ H x y v u Q I rx ry ⟨cm,m,a,b,M,ra,rb,ho⟩
 obtain⟨t,e,ho⟩:=Qm ho
 obtain⟨ta,tb,ea,eb,e⟩:=ZcM e
 obtain⟨i,j,rfl,rfl,e2⟩:=ZaF e
 cases(Zd ra ea (λ_ z=>by cases z)).vint
 cases(Zd rb eb (λ_ z=>by cases z)).vint
 have hc:0<=j/\j<=1000/\i.natAbs<2^64:=by
  by_cases hc:0<=j/\j<=1000/\i.natAbs<2^64
  ·exact hc
  ·rw[if_neg hc]at e2;cases e2
 rw[if_pos hc]at e2
 cases e2
 exact op_pow pins s σ H _ _ v u Q I rx ry ⟨_,_,rfl,rfl,⟨hc.1,by omega,hc.2.2⟩,ans ho M (.int _)⟩
theorem Za2{α β:Type}{F:α->β->Prop}{xs:List α}{ys:List β}(h:Paired F xs ys):∀k:Nat,Paired F (repT xs k) (List.replicate k ys).flatten
 |0=>.nil
 |k+1=>by
  unfold repT
  rw[List.replicate_succ,List.replicate_succ,List.flatten_cons,List.flatten_cons]
  exact Z0 h (Za2 h k)
noncomputable def fCmp(op:CmpOp)(x y:W)(m:Mem):Res W:=pur (((view x m).bind λx=>(view y m).bind λy=>cmpT op x y).map .bl) m
theorem Zag{op:CmpOp}{a b:W}{k:W->List Addr->Mem->Hp->Prop}(h:OkR K (fCmp op a b m) xr cm m H k):∃ta tb c,view a m=some ta/\view b m=some tb/\cmpT op ta tb=some c/\OkR K (.ok (.t (.bl c)) m) xr cm m H k:=by
 obtain⟨t,e,ho⟩:=Qm h
 cases q:((view a m).bind λx=>(view b m).bind λy=>cmpT op x y)with
 |none=>rw[q]at e;cases e
 |some c =>
  rw[q]at e;cases e
  obtain⟨ta,tb,ea,eb,e⟩:=ZcM q
  exact⟨ta,tb,c,ea,eb,e,ho⟩
noncomputable def flV:T->V
 |.bl b=>.bl b
 |.int i=>.int i
 |.str cs=>.str ⟨cs.toArray⟩
 |_=>.non
theorem RT.fl{t:T}{v:V}(h:RT K cm m H t v)(f:flat t=true):v=flV t:=by
 cases h<;>first|rfl|cases f
theorem Jx{w:W}{v:V}{t:T}(h:RW K cm m H w v)(e:view w m=some t)(f:flat t=true):v=flV t:=
 (Zd h e (λts z=>by subst z;cases f)).fl f
theorem Zfd{a b:List Nat}:(⟨a.toArray⟩:Str)=⟨b.toArray⟩↔a=b:=by
 constructor
 ·intro h
  injection h with h
  simpa using h
 ·intro h;rw[h]
theorem ZkL{a b:List Nat}:decide (V.str ⟨a.toArray⟩=V.str ⟨b.toArray⟩)=(a==b):=by
 by_cases h:a=b
 ·subst h;simp
 ·rw[beq_eq_false_iff_ne.mpr h]
  exact decide_eq_false λz=>h (Zfd.mp (V.str.inj z))
theorem ZhV{x y:T}(h:ZbA x y=true):flat x=true/\flat y=true/\scal (flV x) (flV y)=true/\decide (flV x=flV y)=eqT x y:=by
 cases x<;>cases y<;>first
  |(cases h;done)
  |(refine⟨rfl,rfl,rfl,?_⟩;unfold eqT;first|exact ZfM|exact Zjc|exact ZkL|exact decide_eq_true rfl|exact decide_eq_false (λz=>nomatch z))
theorem Znk(x y:T):cmpT .Eq x y=if ZbA x y || (Zj 60 x&&Zj 60 y)then some (eqT x y)else none:=by cases x<;>cases y<;>rfl
theorem Znj(x y:T):cmpT .NotEq x y=if ZbA x y || (Zj 60 x&&Zj 60 y)then some (!eqT x y)else none:=by cases x<;>cases y<;>rfl
mutual
noncomputable def pyT:T->PyData
 |.bl b=>.bool b
 |.int i=>.int i
 |.str cs=>.str ⟨cs.toArray⟩
 |.tup ts=>.tuple (pyTs ts)
 |.lst ts=>.list (pyTs ts)
 |_=>.none
noncomputable def pyTs:List T->List PyData
 |[]=>[]
 |t::ts=>pyT t::pyTs ts
end
mutual
theorem Zcc:∀(n:Nat) (t:T),Zj n t=true->PyData.canLay0 (pyT t)=true/\PyData.depth (pyT t)<=n
 |n,.non,h=>⟨by simp[pyT,PyData.canLay0],by simp[pyT,PyData.depth]⟩
 |n,.bl b,h=>⟨by rw[pyT];simp[PyData.canLay0],by rw[pyT];simp[PyData.depth]⟩
 |n,.int i,h=>⟨by rw[pyT];simp[PyData.canLay0],by rw[pyT];simp[PyData.depth]⟩
 |n,.str cs,h=>⟨by rw[pyT,PyData.canLay0];rw[Zj]at h;exact h,by rw[pyT];simp[PyData.depth]⟩
 |0,.tup ts,h=>by simp[Zj]at h
 |0,.lst ts,h=>by simp[Zj]at h
 |n+1,.tup ts,h=>by
  rw[Zj]at h
  have:=Zfm n ts h
  exact⟨by rw[pyT,PyData.canLay0];exact this.1,by rw[pyT];simp only[PyData.depth];omega⟩
 |n+1,.lst ts,h=>by
  rw[Zj]at h
  have:=Zfm n ts h
  exact⟨by rw[pyT,PyData.canLay0];exact this.1,by rw[pyT];simp only[PyData.depth];omega⟩
 |n,.dct _ _,h=>by cases n<;>simp[Zj]at h
 |n,.scr _,h=>by cases n<;>simp[Zj]at h
theorem Zfm:∀(n:Nat) (ts:List T),Z4 n ts=true->PyData.canLayAll0 (pyTs ts)=true/\PyData.depthAll (pyTs ts)<=n
 |n,[],h=>⟨by rw[pyTs];simp[PyData.canLayAll0],by rw[pyTs];simp[PyData.depthAll]⟩
 |n,t::ts,h=>by
  rw[Z4,Bool.and_eq_true]at h
  have h1:=Zcc n t h.1
  have h2:=Zfm n ts h.2
  refine⟨by rw[pyTs,PyData.canLayAll0,h1.1,h2.1];rfl,?_⟩
  rw[pyTs,PyData.depthAll]
  omega
end
theorem str_beq{a b:List Nat}:((⟨a.toArray⟩:Str)==⟨b.toArray⟩)=(a==b):=by
 by_cases h:a=b
 ·subst h;simp
 ·rw[beq_eq_false_iff_ne.mpr h,beq_eq_false_iff_ne.mpr λz=>h (Zfd.mp z)]
mutual
theorem Zf8:∀(n k:Nat) (x y:T),Zj n x=true->Zj k y=true->PyData.eqv (pyT x) (pyT y)=eqT x y
 |n,k,.tup xs,.tup ys,h1,h2=>by
  cases n with
  |zero=>simp[Zj]at h1
  |succ n=>cases k with
   |zero=>simp[Zj]at h2
   |succ k =>
    rw[Zj]at h1 h2
    rw[pyT,pyT,PyData.eqv,eqT]
    exact Zfn n k xs ys h1 h2
 |n,k,.lst xs,.lst ys,h1,h2=>by
  cases n with
  |zero=>simp[Zj]at h1
  |succ n=>cases k with
   |zero=>simp[Zj]at h2
   |succ k =>
    rw[Zj]at h1 h2
    rw[pyT,pyT,PyData.eqv,eqT]
    exact Zfn n k xs ys h1 h2
 |n,k,.str xs,.str ys,_,_=>by rw[pyT,pyT,PyData.eqv,eqT];exact str_beq
 |n,k,.non,y,_,h2=>by cases y<;>first|(simp[pyT,PyData.eqv,eqT];done)|(cases k<;>simp[Zj]at h2)
 |n,k,.bl b,y,_,h2=>by cases y<;>first|(simp[pyT,PyData.eqv,eqT,b2i];done)|(cases k<;>simp[Zj]at h2)
 |n,k,.int b,y,_,h2=>by cases y<;>first|(simp[pyT,PyData.eqv,eqT,b2i];done)|(cases k<;>simp[Zj]at h2)
 |n,k,.str xs,.non,_,_=>by simp[pyT,PyData.eqv,eqT]
 |n,k,.str xs,.bl _,_,_=>by simp[pyT,PyData.eqv,eqT]
 |n,k,.str xs,.int _,_,_=>by simp[pyT,PyData.eqv,eqT]
 |n,k,.str xs,.tup _,_,_=>by simp[pyT,PyData.eqv,eqT]
 |n,k,.str xs,.lst _,_,_=>by simp[pyT,PyData.eqv,eqT]
 |n,k,.tup xs,.non,_,_=>by simp[pyT,PyData.eqv,eqT]
 |n,k,.tup xs,.bl _,_,_=>by simp[pyT,PyData.eqv,eqT]
 |n,k,.tup xs,.int _,_,_=>by simp[pyT,PyData.eqv,eqT]
 |n,k,.tup xs,.str _,_,_=>by simp[pyT,PyData.eqv,eqT]
 |n,k,.tup xs,.lst _,_,_=>by simp[pyT,PyData.eqv,eqT]
 |n,k,.lst xs,.non,_,_=>by simp[pyT,PyData.eqv,eqT]
 |n,k,.lst xs,.bl _,_,_=>by simp[pyT,PyData.eqv,eqT]
 |n,k,.lst xs,.int _,_,_=>by simp[pyT,PyData.eqv,eqT]
 |n,k,.lst xs,.str _,_,_=>by simp[pyT,PyData.eqv,eqT]
 |n,k,.lst xs,.tup _,_,_=>by simp[pyT,PyData.eqv,eqT]
 |n,k,x,.dct _ _,_,h2=>by cases k<;>simp[Zj]at h2
 |n,k,x,.scr _,_,h2=>by cases k<;>simp[Zj]at h2
 |n,k,.dct _ _,y,h1,_=>by cases n<;>simp[Zj]at h1
 |n,k,.scr _,y,h1,_=>by cases n<;>simp[Zj]at h1
theorem Zfn:∀(n k:Nat) (xs ys:List T),Z4 n xs=true->Z4 k ys=true->PyData.eqvAll (pyTs xs) (pyTs ys)=eqTs xs ys
 |n,k,[],[],_,_=>by rw[pyTs,PyData.eqvAll,eqTs]
 |n,k,[],_::_,_,_=>by rw[pyTs,pyTs,PyData.eqvAll,eqTs]<;>simp
 |n,k,_::_,[],_,_=>by rw[pyTs,pyTs,PyData.eqvAll,eqTs]<;>simp
 |n,k,x::xs,y::ys,h1,h2=>by
  rw[Z4,Bool.and_eq_true]at h1 h2
  rw[pyTs,pyTs,PyData.eqvAll,eqTs,Zf8 n k x y h1.1 h2.1,Zfn n k xs ys h1.2 h2.2]
end
theorem ZaA{pins:List (Addr×Obj)}{σ:L2.St}{s:Shared}(I:Inv X pins σ H s):∀{ts:List T}{vs:List V}{us:List Value},ts.length=vs.length->(∀(i:Nat) t v u,ts[i]?=some t->vs[i]?=some v->RelV v u->∃as,Reads s.heap u (pyT t) as)->Vals vs us->∃as,ReadsAll s.heap us (pyTs ts) as
 |[],[],_,_,_,.nil=>⟨_,by rw[pyTs];exact .nil⟩
 |t::ts,v::vs,_,hl,h,.cons r rs=>by
  obtain⟨as,h1⟩:=h 0 t v _ rfl rfl r
  obtain⟨bs,h2⟩:=ZaA I (ts:=ts) (vs:=vs) (by simpa using hl) (λi t v u a b c=>h (i+1) t v u (by simpa using a) (by simpa using b) c) rs
  exact⟨_,by rw[pyTs];exact .cons h1 h2⟩
 |[],_::_,_,hl,_,_=>by simp at hl
 |_::_,[],_,hl,_,_=>by simp at hl
theorem RT.reads{pins:List (Addr×Obj)}{σ:L2.St}{s:Shared}{K:Frag}(hK:X.K=K)(I:Inv X pins σ H s){t:T}{v:V}(h:RT K cm m H t v):∀{n:Nat}{u:Value},Zj n t=true->RelV v u->∃as,Reads s.heap u (pyT t) as:=by
 subst hK
 induction h with
 |non=>intro n u _ r;cases r;exact⟨[],by simp only[pyT];exact .none⟩
 |bl b=>intro n u _ r;cases r;exact⟨_,by rw[pyT];exact .bool b⟩
 |int i=>intro n u _ r;obtain⟨t,rfl⟩:=r;exact⟨_,by rw[pyT];exact .int i t⟩
 |str cs=>intro n u _ r;obtain⟨t,rfl⟩:=r;exact⟨_,by rw[pyT];exact .str _ t⟩
 |@tup a ts vs h1 h2 h3 ih =>
  intro n u hd r
  cases n with
  |zero=>simp[Zj]at hd
  |succ n =>
   rw[Zj]at hd
   cases r
   obtain⟨its,rv,⟨o,ho,hc,k,hdt⟩,hz⟩:=I.tuple h1
   have hall:∀(i:Nat) t,ts[i]?=some t->Zj n t=true:=λi t e=>by
    have:∀{l:List T},Z4 n l=true->∀x∈l,Zj n x=true:=λ{l}=>by
     induction l with
     |nil=>intro _ x hx;cases hx
     |cons y l ih=>intro h x hx;rw[Z4,Bool.and_eq_true]at h;rcases List.mem_cons.mp hx with rfl|hx;exact h.1;exact ih h.2 x hx
    exact this hd t (List.mem_of_getElem? e)
   obtain⟨as,hr⟩:=ZaA I h2 (λi t v u e1 e2 r=>ih i t v e1 e2 (hall i t e1) r) rv
   exact⟨_,by rw[pyT];exact .tuple ho hc hdt (by simpa using hr)⟩
 |@lst a ts vs h1 h2 h3 h4 ih =>
  intro n u hd r
  cases n with
  |zero=>simp[Zj]at hd
  |succ n =>
   rw[Zj]at hd
   cases r
   obtain⟨its,k,rv,ho,hz⟩:=I.lst h1
   have hall:∀(i:Nat) t,ts[i]?=some t->Zj n t=true:=λi t e=>by
    have:∀{l:List T},Z4 n l=true->∀x∈l,Zj n x=true:=λ{l}=>by
     induction l with
     |nil=>intro _ x hx;cases hx
     |cons y l ih=>intro h x hx;rw[Z4,Bool.and_eq_true]at h;rcases List.mem_cons.mp hx with rfl|hx;exact h.1;exact ih h.2 x hx
    exact this hd t (List.mem_of_getElem? e)
   obtain⟨as,hr⟩:=ZaA I h3 (λi t v u e1 e2 r=>ih i t v e1 e2 (hall i t e1) r) rv
   exact⟨_,by rw[pyT];exact .list ho rfl rfl (by simpa using hr)⟩
 |dct _ _ _ _ _ _=>intro n u hd _;cases n<;>simp[Zj]at hd
 |scr _ _=>intro n u hd _;cases n<;>simp[Zj]at hd
theorem Jt{pins:List (Addr×Obj)}{σ:L2.St}{s:Shared}(I:Inv X pins σ H s)(M:MemR X.K cm m H){w:W}{t:T}{v:V}{u:Value}(r:RW X.K cm m H w v)(e:view w m=some t)(rv:RelV v u){n:Nat}(hd:Zj n t=true):∃as,Reads s.heap u (pyT t) as:=by
 cases t with
 |lst ts =>
  cases n with
  |zero=>simp[Zj]at hd
  |succ n =>
   rw[Zj]at hd
   obtain⟨a,vs,rfl,h1,rr⟩:=ZK M r e
   cases rv
   obtain⟨its,k,rv,ho,hz⟩:=I.lst h1
   obtain⟨as,hr⟩:=ZaA I rr.length (λi t v u e1 e2 r=>RT.reads rfl I (QS rr i t v e1 e2) (n:=n) (by
    have:∀{l:List T},Z4 n l=true->∀x∈l,Zj n x=true:=λ{l}=>by
     induction l with
     |nil=>intro _ x hx;cases hx
     |cons y l ih=>intro h x hx;rw[Z4,Bool.and_eq_true]at h;rcases List.mem_cons.mp hx with rfl|hx;exact h.1;exact ih h.2 x hx
    exact this hd t (List.mem_of_getElem? e1)) r) rv
   exact⟨_,by rw[pyT];exact .list ho rfl rfl (by simpa using hr)⟩
 |_=>exact RT.reads rfl I (Zd r e (λ_ z=>by cases z)) hd rv
theorem Ziv(hu:X.A.units+64<cLine):OpR X (compareOp .Eq) (r2 X.K xr (fCmp .Eq)):=by
 rintro pins s σ H x y v u Q I rx ry ⟨cm,m,a,b,M,ra,rb,ho⟩
 obtain⟨ta,tb,c,ea,eb,e,ho⟩:=Zag ho
 rw[Znk]at e
 split at e<;>cases e
 rename_i hs
 rw[Bool.or_eq_true]at hs
 rcases hs with hs|hs
 ·obtain⟨f1,f2,f3,f4⟩:=ZhV hs
  cases Jx ra ea f1
  cases Jx rb eb f2
  exact op_eq pins s σ H _ _ v u Q I rx ry ⟨f3,by rw[f4];exact ans ho M (.bl _)⟩
 ·rw[Bool.and_eq_true]at hs
  obtain⟨as,ha⟩:=Jt I M ra ea rx hs.1
  obtain⟨bs,hb⟩:=Jt I M rb eb ry hs.2
  have d1:=Zcc 60 ta hs.1
  have d2:=Zcc 60 tb hs.2
  refine SeqAt.compareEq_reads ha hb d1.1 d2.1 (by omega) ⟨.bl (eqT ta tb),H,I,?_,ans ho M (.bl _)⟩
  rw[Zf8 60 60 ta tb hs.1 hs.2]
  rfl
theorem Zio(hu:X.A.units+64<cLine):OpR X (compareOp .NotEq) (r2 X.K xr (fCmp .NotEq)):=by
 rintro pins s σ H x y v u Q I rx ry ⟨cm,m,a,b,M,ra,rb,ho⟩
 obtain⟨ta,tb,c,ea,eb,e,ho⟩:=Zag ho
 rw[Znj]at e
 split at e<;>cases e
 rename_i hs
 rw[Bool.or_eq_true]at hs
 rcases hs with hs|hs
 ·obtain⟨f1,f2,f3,f4⟩:=ZhV hs
  cases Jx ra ea f1
  cases Jx rb eb f2
  exact op_ne pins s σ H _ _ v u Q I rx ry ⟨f3,by rw[f4];exact ans ho M (.bl _)⟩
 ·rw[Bool.and_eq_true]at hs
  obtain⟨as,ha⟩:=Jt I M ra ea rx hs.1
  obtain⟨bs,hb⟩:=Jt I M rb eb ry hs.2
  have d1:=Zcc 60 ta hs.1
  have d2:=Zcc 60 tb hs.2
  refine SeqAt.compareNe_reads ha hb d1.1 d2.1 (by omega) ⟨.bl (!eqT ta tb),H,I,?_,ans ho M (.bl _)⟩
  rw[Zf8 60 60 ta tb hs.1 hs.2]
  rfl
theorem Zld:∀a b:List Nat,nlt a b=decide (a<b)
 |[],[]=>by simp[nlt]
 |[],_::_=>by simp[nlt]
 |_::_,[]=>by simp[nlt]
 |a::x,b::y=>by
  unfold nlt
  rw[Zld x y]
  by_cases h:a<b
  ·rw[if_pos h]
   exact(decide_eq_true (List.cons_lt_cons_iff.mpr (.inl h))).symm
  ·rw[if_neg h]
   by_cases h2:b<a
   ·rw[if_pos h2]
    refine(decide_eq_false λz=>?_).symm
    rcases List.cons_lt_cons_iff.mp z with z|⟨z,_⟩<;>omega
   ·rw[if_neg h2]
    have e:a=b:=by omega
    subst e
    simp
theorem Zip:OpR X (compareOp .Lt) (r2 X.K xr (fCmp .Lt)):=by
 rintro pins s σ H x y v u Q I rx ry ⟨cm,m,a,b,M,ra,rb,ho⟩
 obtain⟨ta,tb,c,ea,eb,e,ho⟩:=Zag ho
 change ltT ta tb=some c at e
 cases ta with
 |int i=>cases tb with
  |int j =>
   cases e
   cases(Zd ra ea (λ_ z=>by cases z)).vint
   cases(Zd rb eb (λ_ z=>by cases z)).vint
   exact op_lt pins s σ H _ _ v u Q I rx ry ⟨_,_,rfl,rfl,ans ho M (.bl _)⟩
  |_=>cases e
 |str i=>cases tb with
  |str j =>
   cases e
   cases(Zd ra ea (λ_ z=>by cases z)).vstr
   cases(Zd rb eb (λ_ z=>by cases z)).vstr
   refine Zim pins s σ H _ _ v u Q I rx ry ⟨_,_,rfl,rfl,?_⟩
   have:=ans ho M (.bl _)
   rw[Zld]at this
   exact this
  |_=>cases e
 |_=>cases e
theorem Ziq:OpR X (compareOp .LtE) (r2 X.K xr (fCmp .LtE)):=by
 rintro pins s σ H x y v u Q I rx ry ⟨cm,m,a,b,M,ra,rb,ho⟩
 obtain⟨ta,tb,c,ea,eb,e,ho⟩:=Zag ho
 obtain⟨i,j,rfl,rfl,rfl⟩:=Zba e
 cases(Zd ra ea (λ_ z=>by cases z)).vint
 cases(Zd rb eb (λ_ z=>by cases z)).vint
 exact op_le pins s σ H _ _ v u Q I rx ry ⟨_,_,rfl,rfl,ans ho M (.bl _)⟩
theorem Zit:OpR X (compareOp .Gt) (r2 X.K xr (fCmp .Gt)):=by
 rintro pins s σ H x y v u Q I rx ry ⟨cm,m,a,b,M,ra,rb,ho⟩
 obtain⟨ta,tb,c,ea,eb,e,ho⟩:=Zag ho
 obtain⟨i,j,rfl,rfl,rfl⟩:=Zba e
 cases(Zd ra ea (λ_ z=>by cases z)).vint
 cases(Zd rb eb (λ_ z=>by cases z)).vint
 exact op_gt pins s σ H _ _ v u Q I rx ry ⟨_,_,rfl,rfl,ans ho M (.bl _)⟩
theorem Ziu:OpR X (compareOp .GtE) (r2 X.K xr (fCmp .GtE)):=by
 rintro pins s σ H x y v u Q I rx ry ⟨cm,m,a,b,M,ra,rb,ho⟩
 obtain⟨ta,tb,c,ea,eb,e,ho⟩:=Zag ho
 obtain⟨i,j,rfl,rfl,rfl⟩:=Zba e
 cases(Zd ra ea (λ_ z=>by cases z)).vint
 cases(Zd rb eb (λ_ z=>by cases z)).vint
 exact op_ge pins s σ H _ _ v u Q I rx ry ⟨_,_,rfl,rfl,ans ho M (.bl _)⟩
theorem ZkF{a b:List Nat}:eqV (.str ⟨a.toArray⟩) (.str ⟨b.toArray⟩)=(a==b):=by
 show((⟨a.toArray⟩:Str)==⟨b.toArray⟩)=(a==b)
 by_cases h:a=b
 ·subst h;simp
 ·rw[beq_eq_false_iff_ne.mpr h,beq_eq_false_iff_ne.mpr λz=>h (Zfd.mp z)]
theorem fl_eqV{x y:T}(f:flat x=true)(g:flat y=true):eqV (flV y) (flV x)=eqT y x:=by
 cases x<;>cases y<;>first
  |(cases f;done)
  |(cases g;done)
  |(unfold eqT;exact ZkF)
  |(unfold eqT;rfl)
theorem RTs.fl{ts:List T}{vs:List V}(h:RTs K cm m H ts vs)(f:ts.all flat=true):vs=ts.map flV/\vs.all ZbH=true:=by
 induction h with
 |nil=>exact⟨rfl,rfl⟩
 |@cons t v _ _ r _ ih =>
  rw[List.all_cons,Bool.and_eq_true]at f
  obtain⟨h1,h2⟩:=ih f.2
  have h3:=r.fl f.1
  subst h3
  refine⟨by rw[List.map_cons,h1],?_⟩
  rw[List.all_cons,h2,Bool.and_true]
  cases t<;>first|rfl|(cases f.1)
theorem Zjs{x:T}(f:flat x=true):∀{ts:List T},ts.all flat=true->inV (flV x) (ts.map flV)=ts.any λt=>eqT t x
 |[],_=>rfl
 |t::ts,g=>by
  rw[List.all_cons,Bool.and_eq_true]at g
  have ih:=Zjs f g.2
  unfold inV at ih ⊢
  rw[List.map_cons,List.any_cons,List.any_cons,ih,fl_eqV f g.1]
theorem ZbW{x:T}(f:flat x=true):ZbH (flV x)=true:=by cases x<;>first|rfl|cases f
theorem found1(b:List Nat)(a:Nat):(!(Builtin.Str.occurrences ⟨b.toArray⟩ ⟨#[a]⟩ 0 (⟨b.toArray⟩:Str).length 1).isEmpty)=decide (a∈b):=by
 have:=PySem.StrLaws.found_one (⟨b.toArray⟩:Str) a
 simpa using this
theorem ZaP{x y:T}{c:Bool}(e:cmpT .In x y=some c):(∃a b,x=.str a/\y=.str b/\c=!(Builtin.Str.occurrences ⟨b.toArray⟩ ⟨a.toArray⟩ 0 (⟨b.toArray⟩:Str).length 1).isEmpty)∨(flat x=true/\∃ts,(y=.tup ts∨y=.lst ts)/\ts.all flat=true/\c=ts.any λt=>eqT t x)∨∃ts,y=.lst ts/\Zj 59 x=true/\Z4 59 ts=true/\c=ts.any λt=>eqT t x:=by
 have hh:∀{x y:T}{c:Bool},hasT x y=some c->(flat x=true/\∃ts,(y=.tup ts∨y=.lst ts)/\ts.all flat=true/\c=ts.any λt=>eqT t x)∨∃ts,y=.lst ts/\Zj 59 x=true/\Z4 59 ts=true/\c=ts.any λt=>eqT t x:=by
  intro x y c e
  unfold hasT at e
  split at e
  ·split at e<;>cases e
   rename_i h
   rw[Bool.and_eq_true]at h
   exact .inl ⟨h.1,_,.inl rfl,h.2,rfl⟩
  ·split at e
   ·cases e
    rename_i h
    rw[Bool.and_eq_true]at h
    exact .inl ⟨h.1,_,.inr rfl,h.2,rfl⟩
   ·split at e<;>cases e
    rename_i h
    rw[Bool.and_eq_true]at h
    exact .inr ⟨_,rfl,h.1,h.2,rfl⟩
  ·cases e
 cases x with
 |str cs =>
  cases cs with
  |nil=>cases y<;>exact .inr (hh e)
  |cons a r =>
   cases r with
   |nil =>
    cases y with
    |str b=>cases e;exact .inl ⟨[a],b,rfl,rfl,(found1 b a).symm⟩
    |_=>exact .inr (hh e)
   |cons a' r =>
    cases y with
    |str b=>cases e;exact .inl ⟨_,b,rfl,rfl,rfl⟩
    |_=>exact .inr (hh e)
 |_=>cases y<;>exact .inr (hh e)
theorem ZkK{ts:List T}{n:Nat}(h:Z4 n ts=true):∀x∈ts,Zj n x=true:=by
 induction ts with
 |nil=>intro x hx;cases hx
 |cons y l ih =>
  intro x hx
  rw[Z4,Bool.and_eq_true]at h
  rcases List.mem_cons.mp hx with rfl|hx
  ·exact h.1
  ·exact ih h.2 x hx
theorem ZjC{vs:List V}{us:List Value}(r:Vals vs us):∀(i:Nat) (u:Value),us[i]?=some u->∃v,vs[i]?=some v/\RelV v u:=by
 induction r with
 |nil=>intro i u h;simp at h
 |cons r rs ih =>
  intro i u h
  cases i with
  |zero=>simp at h;subst h;exact⟨_,rfl,r⟩
  |succ i=>exact ih i u (by simpa using h)
theorem Zi9{pins:List (Addr×Obj)}{σ:L2.St}{s:Shared}{H:Hp}{w:W}{tx:T}{xv:V}{v:Value}{p:Addr}{ts:List T}{vs:List V}(hu:X.A.units+64<cLine)(I:Inv X pins σ H s)(M:MemR X.K cm m H)(ra:RW X.K cm m H w xv)(ea:view w m=some tx)(rx:RelV xv v)(dx:Zj 59 tx=true)(h1:H p=some (.lst vs))(r:RTs X.K cm m H ts vs)(dt:Z4 59 ts=true):
  ∃(its:Array Value) (e:Value->Bool),s.heap.IsList p its/\(∀y,y∈its->SeqAt.EqAt X.A.in1 s y v (e y))/\its.any e=ts.any λt=>eqT t tx:=by
 classical
 obtain⟨as,hx⟩:=Jt I M ra ea rx dx
 obtain⟨its,k,rv,ho,hz⟩:=I.lst h1
 have hlen:ts.length=its.length:=r.length.trans rv.length
 have at_:∀(i:Nat) (t:T) (y:Value),ts[i]?=some t->its[i]?=some y->SeqAt.EqAt X.A.in1 s y v (eqT t tx):=by
  intro i t y e1 e2
  obtain⟨u,e3,e4⟩:=ZjC rv i y e2
  have d:=ZkK dt t (List.mem_of_getElem? e1)
  obtain⟨bs,hb⟩:=RT.reads rfl I (QS r i t u e1 e3) (n:=59) d e4
  have l1:=Zcc 59 t d
  have l2:=Zcc 59 tx dx
  have:=SeqAt.eqAt_reads (pyT t) (pyT tx) X.A.in1 s y v bs as hb hx l1.1 l2.1 (by
   have:X.A.in1.units<=X.A.units+1:=by simp[Around.in1]
   omega)
  rw[Zf8 59 59 t tx d dx]at this
  exact this
 refine⟨its.toArray,λy=>decide (∃(i:Nat) (t:T),ts[i]?=some t/\its[i]?=some y/\eqT t tx=true),⟨_,ho,rfl,k,rfl⟩,λy hy=>?_,?_⟩
 ·by_cases q:∃(i:Nat) (t:T),ts[i]?=some t/\its[i]?=some y/\eqT t tx=true
  ·dsimp only;rw[decide_eq_true q]
   obtain⟨i,t,e1,e2,e3⟩:=q
   have:=at_ i t y e1 e2
   rw[e3]at this
   exact this
  ·dsimp only;rw[decide_eq_false q]
   obtain⟨i,hi,e2⟩:=List.getElem_of_mem (show y∈its by simpa using hy)
   have hi':i<ts.length:=by omega
   have e1:ts[i]?=some ts[i]:=List.getElem?_eq_getElem hi'
   have e2:its[i]?=some y:=by rw[<-e2];exact List.getElem?_eq_getElem hi
   have:=at_ i ts[i] y e1 e2
   cases q2:eqT ts[i] tx with
   |false=>rw[q2]at this;exact this
   |true=>exact absurd ⟨i,ts[i],e1,e2,q2⟩ q
 ·rw[Bool.eq_iff_iff,List.any_toArray,List.any_eq_true,List.any_eq_true]
  constructor
  ·rintro ⟨y,hy,q⟩
   obtain⟨i,t,e1,_,e3⟩:=of_decide_eq_true q
   exact⟨t,List.mem_of_getElem? e1,e3⟩
  ·rintro ⟨t,ht,e3⟩
   obtain⟨i,hi,e1⟩:=List.getElem_of_mem ht
   have hi':i<its.length:=by omega
   exact⟨its[i],List.getElem_mem hi',decide_eq_true ⟨i,t,by rw[<-e1];exact List.getElem?_eq_getElem hi,List.getElem?_eq_getElem hi',e3⟩⟩
theorem Zhj(x y:T):cmpT .NotIn x y=(cmpT .In x y).map (!·):=by
 cases x with
 |str cs =>
  cases cs with
  |nil=>cases y<;>rfl
  |cons a r=>cases r<;>cases y<;>rfl
 |_=>cases y<;>rfl
theorem Zis(hu:X.A.units+64<cLine):OpR X (compareOp .In) (r2 X.K xr (fCmp .In)):=by
 rintro pins s σ H x y v u Q I rx ry ⟨cm,m,a,b,M,ra,rb,ho⟩
 obtain⟨ta,tb,c,ea,eb,e,ho⟩:=Zag ho
 rcases ZaP e with⟨p,q,rfl,rfl,rfl⟩|⟨f,ts,hy,g,rfl⟩|⟨ts,rfl,dx,dt,rfl⟩
 ·cases(Zd ra ea (λ_ z=>by cases z)).vstr
  cases(Zd rb eb (λ_ z=>by cases z)).vstr
  exact Zin pins s σ H _ _ v u Q I rx ry ⟨_,_,rfl,rfl,ans ho M (.bl _)⟩
 ·cases Jx ra ea f
  have fin:∀{vs:List V},RTs X.K cm m H ts vs->vs=ts.map flV/\vs.all ZbH=true/\Q (.bl (inV (flV ta) vs)) H:=λr=>by
   obtain⟨h1,h2⟩:=RTs.fl r g
   exact⟨h1,h2,by rw[h1,Zjs f g];exact ans ho M (.bl _)⟩
  rcases hy with rfl|rfl
  ·obtain⟨p,vs,rfl,h1,r⟩:=(Zd rb eb (λ_ z=>by cases z)).itup
   obtain⟨_,f2,f3⟩:=fin r
   exact Zeu pins s σ H _ _ v u Q I rx ry ⟨p,vs,rfl,.inr h1,ZbW f,f2,f3⟩
  ·obtain⟨p,vs,rfl,h1,r⟩:=ZK M rb eb
   obtain⟨_,f2,f3⟩:=fin r
   exact Zeu pins s σ H _ _ v u Q I rx ry ⟨p,vs,rfl,.inl (.of h1),ZbW f,f2,f3⟩
 ·obtain⟨p,vs,rfl,h1,r⟩:=ZK M rb eb
  cases ry
  obtain⟨its,e,hl,he,ha⟩:=Zi9 hu I M ra ea rx dx h1 r dt
  refine SeqAt.in_listAt e hl he ?_
  rw[ha]
  exact⟨.bl _,H,I,rfl,ans ho M (.bl _)⟩
theorem Zev(hu:X.A.units+64<cLine):OpR X (compareOp .NotIn) (r2 X.K xr (fCmp .NotIn)):=by
 rintro pins s σ H x y v u Q I rx ry ⟨cm,m,a,b,M,ra,rb,ho⟩
 obtain⟨ta,tb,c',ea,eb,e,ho⟩:=Zag ho
 rw[Zhj]at e
 cases e2:cmpT .In ta tb with
 |none=>rw[e2]at e;cases e
 |some c =>
 rw[e2]at e;cases e
 rcases ZaP e2 with⟨p,q,rfl,rfl,rfl⟩|⟨f,ts,hy,g,rfl⟩|⟨ts,rfl,dx,dt,rfl⟩
 ·cases(Zd ra ea (λ_ z=>by cases z)).vstr
  cases(Zd rb eb (λ_ z=>by cases z)).vstr
  exact Zet pins s σ H _ _ v u Q I rx ry ⟨_,_,rfl,rfl,ans ho M (.bl _)⟩
 ·cases Jx ra ea f
  have fin:∀{vs:List V},RTs X.K cm m H ts vs->vs=ts.map flV/\vs.all ZbH=true/\Q (.bl (!inV (flV ta) vs)) H:=λr=>by
   obtain⟨h1,h2⟩:=RTs.fl r g
   exact⟨h1,h2,by rw[h1,Zjs f g];exact ans ho M (.bl _)⟩
  rcases hy with rfl|rfl
  ·obtain⟨p,vs,rfl,h1,r⟩:=(Zd rb eb (λ_ z=>by cases z)).itup
   obtain⟨_,f2,f3⟩:=fin r
   exact Zbq pins s σ H _ _ v u Q I rx ry ⟨p,vs,rfl,.inr h1,ZbW f,f2,f3⟩
  ·obtain⟨p,vs,rfl,h1,r⟩:=ZK M rb eb
   obtain⟨_,f2,f3⟩:=fin r
   exact Zbq pins s σ H _ _ v u Q I rx ry ⟨p,vs,rfl,.inl (.of h1),ZbW f,f2,f3⟩
 ·obtain⟨p,vs,rfl,h1,r⟩:=ZK M rb eb
  cases ry
  obtain⟨its,e,hl,he,ha⟩:=Zi9 hu I M ra ea rx dx h1 r dt
  refine SeqAt.notIn_listAt e hl he ?_
  rw[ha]
  exact⟨.bl _,H,I,rfl,ans ho M (.bl _)⟩
noncomputable def hdV:V->Option (Option Bool)
 |.non=>some none
 |.bl b=>some (some b)
 |_=>none
noncomputable def hdT:T->Option (Option Bool)
 |.non=>some none
 |.bl b=>some (some b)
 |_=>none
theorem RW.hd{w:W}{v:V}{t:T}(M:MemR K cm m H)(h:RW K cm m H w v)(e:view w m=some t):hdV v=hdT t:=by
 cases t with
 |lst ts=>obtain⟨a,vs,rfl,_⟩:=ZK M h e;rfl
 |_=>cases Zd h e (λ_ z=>by cases z)<;>rfl
theorem is_bl{prog:Program}{w:World}{A:Around}{E:Value->Shared->Prop}{s:Shared}{x:V}{v:Value}{b:Bool}{Q:Value->Shared->Prop}(rx:RelV x v)(h:Q (.bool (hdV x==some (some b))) s):
  wpAny (model prog w) A (compareOp .Is v (.bool b)) Q E s:=by
 cases x with
 |bl c =>
  cases rx
  refine wpAny_is_plain rfl ?_
  have e:((Value.bool c)==(Value.bool b))=(hdV (.bl c)==some (some b)):=by cases c<;>cases b<;>rfl
  rw[e];exact h
 |non=>cases rx;exact wpAny_is_other rfl (λz=>nomatch z) h
 |int i=>obtain⟨t,rfl⟩:=rx;exact wpAny_is_other rfl (λz=>nomatch z) h
 |str i=>obtain⟨t,rfl⟩:=rx;exact wpAny_is_other rfl (λz=>nomatch z) h
 |byt i=>obtain⟨t,rfl⟩:=rx;exact wpAny_is_other rfl (λz=>nomatch z) h
 |flt i=>obtain⟨t,rfl⟩:=rx;exact wpAny_is_other rfl (λz=>nomatch z) h
 |ref a=>cases rx;exact wpAny_is_other rfl (λz=>nomatch z) h
 |ty n=>cases rx;exact wpAny_is_other rfl (λz=>nomatch z) h
theorem Zkt{prog:Program}{w:World}{A:Around}{E:Value->Shared->Prop}{s:Shared}{x:V}{v:Value}{b:Bool}{Q:Value->Shared->Prop}(rx:RelV x v)(h:Q (.bool (!(hdV x==some (some b)))) s):
  wpAny (model prog w) A (compareOp .IsNot v (.bool b)) Q E s:=by
 cases x with
 |bl c =>
  cases rx
  refine wpAny_isNot_plain rfl ?_
  have e:((Value.bool c)==(Value.bool b))=(hdV (.bl c)==some (some b)):=by cases c<;>cases b<;>rfl
  rw[e];exact h
 |non=>cases rx;exact wpAny_isNot_other rfl (λz=>nomatch z) h
 |int i=>obtain⟨t,rfl⟩:=rx;exact wpAny_isNot_other rfl (λz=>nomatch z) h
 |str i=>obtain⟨t,rfl⟩:=rx;exact wpAny_isNot_other rfl (λz=>nomatch z) h
 |byt i=>obtain⟨t,rfl⟩:=rx;exact wpAny_isNot_other rfl (λz=>nomatch z) h
 |flt i=>obtain⟨t,rfl⟩:=rx;exact wpAny_isNot_other rfl (λz=>nomatch z) h
 |ref a=>cases rx;exact wpAny_isNot_other rfl (λz=>nomatch z) h
 |ty n=>cases rx;exact wpAny_isNot_other rfl (λz=>nomatch z) h
theorem Zje{x y:T}{c:Bool}(e:cmpT .Is x y=some c):(y=.non/\c=(hdT x==some none))∨∃b,y=.bl b/\c=(hdT x==some (some b)):=by
 cases y with
 |non=>cases x<;>(cases e;exact .inl ⟨rfl,rfl⟩)
 |bl b =>
  refine .inr ⟨b,rfl,?_⟩
  cases x with
  |bl a=>cases e;cases a<;>cases b<;>rfl
  |_=>cases e;rfl
 |_=>cases x<;>cases e
theorem Zhk(x y:T):cmpT .IsNot x y=(cmpT .Is x y).map (!·):=by
 cases y with
 |non=>cases x<;>rfl
 |bl b=>cases x<;>first|rfl|(rename_i a;cases a<;>cases b<;>rfl)
 |_=>cases x<;>rfl
theorem Zll{x:V}:decide (x=.non)=(hdV x==some none):=by cases x<;>first|rfl|exact decide_eq_true rfl|exact decide_eq_false (λz=>nomatch z)
theorem Zir:OpR X (compareOp .Is) (r2 X.K xr (fCmp .Is)):=by
 rintro pins s σ H x y v u Q I rx ry ⟨cm,m,a,b,M,ra,rb,ho⟩
 obtain⟨ta,tb,c,ea,eb,e,ho⟩:=Zag ho
 have hx:=RW.hd M ra ea
 rcases Zje e with⟨rfl,rfl⟩|⟨k,rfl,rfl⟩
 ·cases(Zd rb eb (λ_ z=>by cases z)).vnon
  refine op_isN pins s σ H _ _ v u Q I rx ry ⟨rfl,?_⟩
  rw[Zll,hx]
  exact ans ho M (.bl _)
 ·cases(Zd rb eb (λ_ z=>by cases z)).vbl
  cases ry
  refine is_bl rx ⟨.bl _,H,I,rfl,?_⟩
  rw[hx]
  exact ans ho M (.bl _)
theorem Zew:OpR X (compareOp .IsNot) (r2 X.K xr (fCmp .IsNot)):=by
 rintro pins s σ H x y v u Q I rx ry ⟨cm,m,a,b,M,ra,rb,ho⟩
 obtain⟨ta,tb,c',ea,eb,e,ho⟩:=Zag ho
 have hx:=RW.hd M ra ea
 rw[Zhk]at e
 cases e2:cmpT .Is ta tb with
 |none=>rw[e2]at e;cases e
 |some c =>
 rw[e2]at e;cases e
 rcases Zje e2 with⟨rfl,rfl⟩|⟨k,rfl,rfl⟩
 ·cases(Zd rb eb (λ_ z=>by cases z)).vnon
  refine ZmF pins s σ H _ _ v u Q I rx ry ⟨rfl,?_⟩
  rw[Zll,hx]
  exact ans ho M (.bl _)
 ·cases(Zd rb eb (λ_ z=>by cases z)).vbl
  cases ry
  refine Zkt rx ⟨.bl _,H,I,rfl,?_⟩
  rw[hx]
  exact ans ho M (.bl _)
theorem ZcY(hu:X.A.units+64<cLine):∀op:CmpOp,OpR X (compareOp op) (r2 X.K xr (fCmp op))
 |.Eq=>Ziv hu
 |.NotEq=>Zio hu
 |.Lt=>Zip
 |.LtE=>Ziq
 |.Gt=>Zit
 |.GtE=>Ziu
 |.Is=>Zir
 |.IsNot=>Zew
 |.In=>Zis hu
 |.NotIn=>Zev hu
noncomputable def fIx(x y:W)(m:Mem):Res W:=pur ((view x m).bind λx=>(view y m).bind λy=>ixT x y) m
theorem ZmW(n:Nat)(i:Int):ixOf n i=ixN n i:=rfl
theorem Zbj{α β:Type}{F:α->β->Prop}{xs:List α}{ys:List β}(h:Paired F xs ys){i:Int}{x:α}(e:atT xs i=some x):∃y,atI ys i=some y/\F x y:=by
 unfold atT at e
 unfold atI
 rw[<-h.length]
 cases q:ixOf xs.length i with
 |none=>rw[q]at e;cases e
 |some j =>
  rw[q]at e
  rw[ZmW]at q
  obtain⟨y,e1,e2⟩:=ZD h e
  exact⟨y,by rw[q];exact e1,e2⟩
theorem ZaY(ns:List Int):RTs K cm m H (ns.map .int) (ns.map V.int):=by
 induction ns with
 |nil=>exact .nil
 |cons n ns ih=>exact .cons (.int n) ih
theorem Znu{α β:Type}(f:α->β)(xs:List α)(i:Int):atT (xs.map f) i=(atT xs i).map f:=by
 unfold atT
 rw[List.length_map]
 cases ixOf xs.length i with
 |none=>rfl
 |some j=>simp
theorem ix_ix:IxR X (r2 X.K xr fIx):=by
 rintro value slice pins s σ H x y v u Q I rx ry ⟨cm,m,a,b,M,ra,rb,ho⟩ hs
 obtain⟨t,e,ho⟩:=Qm ho
 obtain⟨ta,tb,ea,eb,e⟩:=ZcM e
 unfold ixT at e
 have hz:=ZM
 split at e
 ·cases(Zd rb eb (λ_ z=>by cases z)).vint
  obtain⟨p,vs,rfl,h1,r⟩:=(Zd ra ea (λ_ z=>by cases z)).itup
  obtain⟨z,e1,e2⟩:=Zbj r e
  exact ix_tup value slice pins s σ H _ _ v u Q I rx ry ⟨p,vs,_,z,rfl,rfl,h1,e1,ans ho M e2⟩ hs
 ·cases(Zd rb eb (λ_ z=>by cases z)).vint
  obtain⟨p,vs,rfl,h1,r⟩:=ZK M ra ea
  obtain⟨z,e1,e2⟩:=Zbj r e
  exact ZfH value slice pins s σ H _ _ v u Q I rx ry ⟨p,vs,_,z,rfl,rfl,.of h1,e1,ans ho M e2⟩ hs
 ·cases(Zd rb eb (λ_ z=>by cases z)).vint
  obtain⟨p,rfl,h1⟩:=(Zd ra ea (λ_ z=>by cases z)).vscr
  rw[<-Znu]at e
  obtain⟨z,e1,e2⟩:=Zbj (ZaY (K:=X.K) (cm:=cm) (m:=m) (H:=H) _) e
  exact ZfH value slice pins s σ H _ _ v u Q I rx ry ⟨p,_,_,z,rfl,rfl,h1.sq,e1,ans ho M e2⟩ hs
 ·split at e
  ·rename_i cs k hl
   cases(Zd rb eb (λ_ z=>by cases z)).vint
   cases(Zd ra ea (λ_ z=>by cases z)).vstr
   cases q:atT cs k with
   |none=>rw[q]at e;cases e
   |some c =>
    rw[q]at e;cases e
    exact ix_str value slice pins s σ H _ _ v u Q I rx ry ⟨_,k,c,rfl,rfl,by rw[J8];omega,q,ans ho M (.str [c])⟩ hs
  ·cases e
 ·cases e
end
section
variable{P:Program}{w:World}{A:Around}{E:Value->Shared->Prop}{s:Shared}
structure Side (z TI TO i j a b:Addr) (k:Nat) (h:Heap):Prop where
 zip:IsZip h z TI TO .none
 its:IsPair h TI (.ref i) (.ref j)
 out:∃p q,IsPair h TO p q
 one:h.IsTupleIter i a k
 two:h.IsTupleIter j b k
end
theorem Inv.turnedL{X:Cx}{pins:List (Addr×Obj)}{σ:L2.St}{H:Hp}{s:Shared}{g:Heap}{t':Nat}{ch:List Addr}(I:Inv X pins σ H s)(k:∀b o,b∉ch->s.heap.get? b=some o->g.get? b=some o)(hf:∀b∈ch,FpOk X pins H b):
  Inv X pins σ H { s with heap:=g,toks:=t' }:=by
 have nit:∀b u,H b=some u->b∉ch:=λb u e z=>by rw[(hf b z).1]at e;cases e
 obtain⟨m0,hm0,_⟩:=id I.loc
 refine I.step (g':=s.gens) (d':=s.drawn) (ch:=ch) (λb hb=>⟨(hf b hb).2.2.2.1,(hf b hb).2.1,(hf b hb).2.2.2.2.1,(hf b hb).2.2.2.2.2⟩) (λb o _ _ hc e _=>k b o hc e) (λb o _ _ hc e _=>⟨o.slots,k b o hc e⟩) (λ_ _ _ _ n=>n)
  (λb o hc e=>⟨o,k b o hc e⟩) (λ_ _ e=>e) (λ_ _ _ e=>e) (λb ps e=>⟨#[],by rw[e];simp⟩) (λm hm=>?_) (λb u e=>?_) I.bare
 ·obtain⟨o,es,ep,ho,r⟩:=hm
  exact⟨o,es,ep,k _ o (λz=>(hf _ z).2.1 rfl) ho,r⟩
 ·refine(I.hok b u e).stay (λc v hc q=>k c v ?_ q) (λ_ q=>q) λ_ _ q=>q
  rcases hc with z|z
  ·rw[z];exact nit b u e
  ·exact nit c _ z
noncomputable def Itz(K:Frag)(a b:Addr):It:=
 ⟨λi H=>∃xs ys x y,SqT K H a xs/\SqT K H b ys/\xs[i]?=some x/\ys[i]?=some y,
  λi H v H'=>∃x y c,(∀xs,SqT K H a xs->xs[i]?=some x)/\(∀ys,SqT K H b ys->ys[i]?=some y)/\H c=none/\v=.ref c/\H'=upd H c (.tup [x,y]),
  λi H=>∃xs,SqT K H a xs/\xs.length<=i⟩
noncomputable def It4(n:Nat)(l:Nat->Nat)(xs:Nat->Array Value)(p:Nat->Nat)(h:Heap):Prop:=∀j:Nat,j<4->h.IsListIter (n+j) (l j) (p j)/\h.IsList (l j) (xs j)/\l j<n
noncomputable abbrev IsZ(h:Heap)(n:Nat)(f0:Value)(f1:Bool):Prop:=
 h.get? (n+6)=some { cls:=.type "zip",dict:=none,data:=.fields #[f0,.bool f1,.bool false,.ref (n+4),.ref (n+5)],slots:=#[] }
noncomputable abbrev IsQ(h:Heap)(t:Nat)(a b c d:Value):Prop:=h.get? t=some { cls:=.type "tuple",data:=.seq #[a,b,c,d] }
section
variable{P:Program}{w:World}{A:Around}{E:Value->Shared->Prop}{s:Shared}{n:Nat}{l:Nat->Nat}{xs:Nat->Array Value}{p:Nat->Nat}
noncomputable def Free(h:Heap)(n:Nat):Prop:=∃f1,IsZ h n .none f1∨∃a:Nat,IsZ h n (rawInt a) f1
structure Sd (n:Nat) (l:Nat->Nat) (k:Nat) (h:Heap):Prop where
 zip:Free h n
 its:IsQ h (n+4) (.ref (n+0)) (.ref (n+1)) (.ref (n+2)) (.ref (n+3))
 out:∃a b c d,IsQ h (n+5) a b c d
 pos:∀j:Nat,j<4->h.IsListIter (n+j) (l j) k/\l j<n
noncomputable def Kp(n:Nat)(h g:Heap):Prop:=g.objs.size=h.objs.size/\∀c o,(c<n∨n+7<=c)->h.get? c=some o->g.get? c=some o
end
noncomputable abbrev fp4(n:Nat):List Addr:=[n+6,n+4,n+5,n+0,n+1,n+2,n+3]
noncomputable def Itz4(K:Frag)(l:Nat->Nat):It:=
 ⟨λi H=>∃(xs:Nat->List V) (x:Nat->V),∀j:Nat,j<4->SqL K H (l j) (xs j)/\(xs j)[i]?=some (x j),
  λi H v H'=>∃(x:Nat->V) (c:Addr),(∀j:Nat,j<4->∀ys,SqL K H (l j) ys->ys[i]?=some (x j))/\H c=none/\v=.ref c/\H'=upd H c (.tup [x 0,x 1,x 2,x 3]),
  λi H=>∃xs,SqL K H (l 0) xs/\xs.length<=i⟩
noncomputable def pick4{α:Type}(a b c d:α):Nat->α
 |0=>a
 |1=>b
 |2=>c
 |_=>d
theorem all4{Q:Nat->Prop}(h0:Q 0)(h1:Q 1)(h2:Q 2)(h3:Q 3):∀j:Nat,j<4->Q j
 |0,_=>h0
 |1,_=>h1
 |2,_=>h2
 |3,_=>h3
noncomputable def Ite(K:Frag)(l:Addr):It:=
 ⟨λi H=>∃xs x,SqL K H l xs/\xs[i]?=some x,
  λi H v H'=>∃x c,(∀xs,SqL K H l xs->xs[i]?=some x)/\H c=none/\v=.ref c/\H'=upd H c (.tup [.int (i:Int),x]),
  λi H=>∃xs,SqL K H l xs/\xs.length<=i⟩
theorem ZhC{P:Program}{w:World}{K:Frag}{es:List Expr}{kk}{pos:Pos}{e it l:Addr}(hei:e≠it):
  Turn P w K (.Tuple es kk pos) (Ite K l) [e,it] e (λk h=>(∃old,IsEnum h e it (k:Int) old)/\h.IsListIter it l k) where
 mem:=by simp
 obj:=λk h st c hc=>by
  obtain⟨⟨old,he⟩,⟨o1,e1,c1,d1⟩⟩:=st
  simp only[List.mem_cons,List.not_mem_nil,or_false]at hc
  rcases hc with rfl|rfl
  ·exact⟨_,he,λv y=>by cases(show Data.fields _=Data.cell v from y)⟩
  ·exact⟨o1,e1,λv y=>by rw[d1]at y;cases y⟩
 keep:=λk h h' st f=>by
  obtain⟨⟨old,he⟩,h1⟩:=st
  exact⟨⟨old,f e (by simp) _ he⟩,h1.at λo q=>f it (by simp) o q⟩
 item:=by
  intro X hP hw hK hc k pins s σ H E I hf st hg
  subst hP hw hK
  obtain⟨xs,x,q1,hx⟩:=hg
  obtain⟨its,rv,p,_⟩:=I.list q1
  obtain⟨u,hu,ru⟩:=rv.get hx
  obtain⟨⟨old,he⟩,hit⟩:=st
  obtain⟨oi,ei,_⟩:=id hit
  refine wpAny_pyNext_enum_item he hit p.isList (x:=u) (by simpa using hu) hei λh' heo hit' ht hz kp=>?_
  refine⟨_,rfl,?_⟩
  have fr:∀{c:Addr}{o:Obj},s.heap.get? c=some o->c≠s.heap.objs.size:=λq=>Nat.ne_of_lt (Heap.lt_size q)
  have fresh:H s.heap.objs.size=none:=I.hok.fresh (Nat.le_refl _)
  have I6:Inv X pins σ (upd H s.heap.objs.size (.tup [.int (k:Int),x])) { s with heap:=s.heap.push { cls:=.type "tuple",data:=.seq #[.int k s.toks,u] },toks:=s.toks }:=
   I.laid (t':=s.toks) (λc o q=>Heap.get?_push_of_some _ q) (Nat.le_refl _) ⟨by unfold sizeLine;simp,[.int k s.toks,u],.cons ⟨_,rfl⟩ (.cons ru .nil),⟨_,Heap.get?_push_size _ rfl,rfl,⟨_,rfl⟩,rfl⟩⟩
  have hf6:∀b∈[e,it],FpOk X pins (upd H s.heap.objs.size (.tup [.int (k:Int),x])) b:=λb hb=>by
   refine⟨?_,(hf b hb).2⟩
   have nb:b≠s.heap.objs.size:=by
    simp only[List.mem_cons,List.not_mem_nil,or_false]at hb
    rcases hb with rfl|rfl
    ·exact fr he
    ·exact fr ei
   rw[Zi nb]
   exact(hf b hb).1
  have up:∀c o,c∉[e,it]->(s.heap.push { cls:=.type "tuple",data:=.seq #[.int k s.toks,u] }).get? c=some o->h'.get? c=some o:=λc o hc q=>by
   rcases Heap.get?_push_cases q with⟨rfl,rfl⟩|q
   ·exact ht
   ·exact kp c o (λy=>hc (by simp[y])) (λy=>hc (by simp[y])) q
  have I8:Inv X pins σ (upd H s.heap.objs.size (.tup [.int (k:Int),x])) { s with heap:=h',toks:=s.toks+1 }:=
   Inv.turnedL (s:={ s with heap:=s.heap.push { cls:=.type "tuple",data:=.seq #[.int k s.toks,u] },toks:=s.toks }) (t':=s.toks+1) (ch:=[e,it]) I6 up hf6
  refine wpAny_letOwnedTupleGo_enum heo λh2 he2 sb=>?_
  have I9:=Inv.turnedL (s:={ s with heap:=h',toks:=s.toks+1 }) (g:=h2) (t':=s.toks+1) (ch:=[e]) I8 (λc o hc q=>sb.extBut c o (λy=>hc (by simp[y])) q) (λb hb=>hf6 b (by
   have z:b=e:=by simpa using hb
   simp[z]))
  exact⟨.ref s.heap.objs.size,upd H s.heap.objs.size (.tup [.int (k:Int),x]),I9,rfl,⟨x,_,λys q=>by rw[<-I.list_inj q1 q];exact hx,fresh,rfl,rfl⟩,⟨⟨_,he2⟩,hit'.extBut sb.extBut hei.symm⟩,λb hb=>(hf6 b hb).1⟩
 done:=by
  intro X hP hw hK hc k pins s σ H E I hf st hg
  subst hP hw hK
  obtain⟨xs,q1,hx⟩:=hg
  obtain⟨its,rv,p,_⟩:=I.list q1
  have hl:=rv.length
  obtain⟨⟨old,he⟩,hit⟩:=st
  refine wpAny_pyNext_enum_end (I.ok.hd hc) he hit p.isList (by simp;omega) λh' kp=>⟨rfl,?_⟩
  exact Inv.turnedL (t':=s.toks) (ch:=[it]) I (λc o hc q=>kp c o (λy=>hc (by simp[y])) q) (λb hb=>hf b (by
   have z:b=it:=by simpa using hb
   simp[z]))
 self:=λ_ _ _ _ _ st h=>by
  obtain⟨⟨old,he⟩,_⟩:=st
  exact wpAny_pyIter_enum he h
noncomputable def Its(cs:List Nat):It:=⟨λi _=>i<cs.length,λi H x H'=>H'=H/\∃c,cs[i]?=some c/\x=.str ⟨#[c]⟩,λi _=>cs.length<=i⟩
theorem ZfZ{P:Program}{w:World}{K:Frag}{tg:Expr}{cs:List Nat}{it:Addr}{cl:String}{t:Tok}(hcl:["enumerate","zip","dict_itemiterator","dict_reverseitemiterator","odict_iterator","itertools.zip_longest","itertools.pairwise"].contains cl=false)(hself:∀(A:Around) (i:Nat) (s:Shared) (Q:Value->Shared->Prop) (E:Value->Shared->Prop),s.heap.IsStrIter it cl ⟨cs.toArray⟩ t i->Q (.ref it) s->wpAny (model P w) A (pyIter (.ref it)) Q E s)(W:∀A':Around,A'.handled=none->Walks P w A' it [it] [it] cs.length (SignAt ⟨cs.toArray⟩) (λi h=>h.IsStrIter it cl ⟨cs.toArray⟩ t i)):Turn P w K tg (Its cs) [it] it (λi h=>h.IsStrIter it cl ⟨cs.toArray⟩ t i/\i<=cs.length) where
 mem:=by simp
 obj:=λi h st b hb=>by
  have e:b=it:=by simpa using hb
  subst e
  obtain⟨⟨o,e,c,d⟩,_⟩:=st
  exact⟨o,e,λv z=>by rw[d]at z;cases z⟩
 keep:=λi h h' st k=>⟨let⟨⟨o,ho,r⟩,_⟩:=st;⟨o,k it (by simp) o ho,r⟩,st.2⟩
 item:=by
  intro X hP hw hK hc i pins s σ H E I hf st hg
  subst hP hw hK
  obtain⟨f0,f1,f2,f3,f4,f5⟩:=hf it (by simp)
  have hg':i<cs.length:=hg
  refine(W X.A (I.ok.hd hc)).item i s _ _ hg' st.1 λv h' tk hv st' kk=>?_
  obtain⟨c,u,hc',rfl⟩:=hv
  have I1:Inv X pins σ H { s with heap:=h',toks:=tk }:=I.turned (λb o hb e=>kk b o (by simpa using hb) e) f0 f1 f3 f4 f5
  obtain⟨o,e,cc,d⟩:=id st'
  refine⟨_,rfl,Zkx (s:={ s with heap:=h',toks:=tk }) e cc d hcl ⟨.str ⟨#[c]⟩,H,I1,⟨u,rfl⟩,⟨rfl,c,by simpa using hc',rfl⟩,⟨st',by omega⟩,λb hb=>(hf b hb).1⟩⟩
 done:=by
  intro X hP hw hK hc i pins s σ H E I hf st hg
  subst hP hw hK
  obtain⟨f0,f1,f2,f3,f4,f5⟩:=hf it (by simp)
  have hg':cs.length<=i:=hg
  have e:i=cs.length:=by have:=st.2;omega
  subst e
  exact(W X.A (I.ok.hd hc)).done s _ _ st.1 λh' tk kk=>⟨rfl,I.turned (λb o hb e=>kk b o (by simpa using hb) e) f0 f1 f3 f4 f5⟩
 self:=λA i s Q E st h=>hself A i s Q E st.1 h
section
variable{K:Frag}{cm cm':List Addr}{m m':Mem}{H H':Hp}{xr:XR}{X:Cx}
variable(K) in
inductive Src (cm:List Addr) (m:Mem) (H:Hp):It->List T->Prop where
 |tup {a:Addr}{vs:List V}{ts:List T}:SqT K H a vs->RTs K cm m H ts vs->Src cm m H (Itt K a) ts
 |lst {a:Addr}{vs:List V}{ts:List T}:H a=some (.lst vs)->Zq cm m a->RTs K cm m H ts vs->Src cm m H (Itl K a) ts
 |cel {a:Addr}{i:Nat}{ts:List T}:m[i]?=some (some (true,ts))->cm[i]?=some a->Src cm m H (Itl K a) ts
 |scr {a:Addr}(ns:List Int):Ze8 K H a ns->Src cm m H (Itl K a) (ns.map .int)
 |str (cs:List Nat):Src cm m H (Its cs) (cs.map λc=>.str [c])
 |rng (lo:Int) (n:Nat):Src cm m H (Itr lo n) (rangeT lo n)
 |zip {a b:Addr}{xs ys:List V}{ts us:List T}:SqT K H a xs->SqT K H b ys->RTs K cm m H ts xs->RTs K cm m H us ys->ts.length=us.length->Src cm m H (Itz K a b) (zipL ts us)
 |zip4 {l:Nat->Nat}{vs:Nat->List V}{ts:Nat->List T}:(∀j:Nat,j<4->H (l j)=some (.lst (vs j))/\Zq cm m (l j)/\RTs K cm m H (ts j) (vs j))->(∀j:Nat,j<4->(ts 0).length=(ts j).length)->Src cm m H (Itz4 K l) (Zhw (ts 0) (ts 1) (ts 2) (ts 3))
 |enm {a:Addr}{vs:List V}{ts:List T}:H a=some (.lst vs)->Zq cm m a->RTs K cm m H ts vs->Src cm m H (Ite K a) (ZcJ ts)
theorem Src.ext(x:Ext cm m H cm' m' H')(M:MemR K cm m H)(M':MemR K cm' m' H'){J:It}{ts:List T}(h:Src K cm m H J ts):Src K cm' m' H' J ts:=by
 cases h with
 |tup h1 h2=>exact .tup (x.sqT M h1) (RTs.ext x M M' h2)
 |lst h1 h2 h3=>exact .lst (x.keep _ _ h1 h2).1 (x.keep _ _ h1 h2).2 (RTs.ext x M M' h3)
 |cel h1 h2=>exact .cel (x.lent _ _ h1) (x.pre _ _ h2)
 |scr ns h=>exact .scr ns (x.scr M h)
 |str cs=>exact .str cs
 |rng lo n=>exact .rng lo n
 |zip h1 h2 h3 h4 h5=>exact .zip (x.sqT M h1) (x.sqT M h2) (RTs.ext x M M' h3) (RTs.ext x M M' h4) h5
 |zip4 h1 h2=>exact .zip4 (λj hj=>let⟨a,b,c⟩:=h1 j hj;⟨(x.keep _ _ a b).1,(x.keep _ _ a b).2,RTs.ext x M M' c⟩) h2
 |enm h1 h2 h3=>exact .enm (x.keep _ _ h1 h2).1 (x.keep _ _ h1 h2).2 (RTs.ext x M M' h3)
theorem stay(M:MemR K cm m H)(z:H'=H){t:T}{x:V}(r:RT K cm m H t x):Ext cm m H cm m H'/\MemR K cm m H'/\RT K cm m H' t x:=by
 subst z
 exact⟨.refl,M,r⟩
theorem Zjy{xs ys:List T}{i:Nat}{t:T}(e:(zipL xs ys)[i]?=some t):∃x y,xs[i]?=some x/\ys[i]?=some y/\t=.tup [x,y]:=by
 unfold zipL at e
 rw[List.getElem?_zipWith]at e
 split at e
 ·rename_i x y h1 h2
  cases e
  exact⟨x,y,h1,h2,rfl⟩
 ·cases e
theorem Zhv{a b c d:List T}{i:Nat}{t:T}(e:(Zhw a b c d)[i]?=some t):∃x y z w,a[i]?=some x/\b[i]?=some y/\c[i]?=some z/\d[i]?=some w/\t=.tup [x,y,z,w]:=by
 unfold Zhw at e
 rw[List.getElem?_map]at e
 obtain⟨p,h1,h2⟩:=Option.map_eq_some_iff.mp e
 obtain⟨q1,q2⟩:=List.getElem?_zip_eq_some.mp h1
 obtain⟨q3,q4⟩:=List.getElem?_zip_eq_some.mp q2
 obtain⟨q5,q6⟩:=List.getElem?_zip_eq_some.mp q4
 exact⟨_,_,_,_,q1,q3,q5,q6,h2.symm⟩
theorem Zi5{xs:List T}{i:Nat}{t:T}(e:(ZcJ xs)[i]?=some t):∃x,xs[i]?=some x/\t=.tup [.int (i:Int),x]:=by
 unfold ZcJ at e
 rw[List.getElem?_zipWith]at e
 split at e
 ·rename_i k y h1 h2
  cases e
  have hi:=(List.getElem?_eq_some_iff.mp h1).1
  rw[List.length_range]at hi
  rw[List.getElem?_range hi]at h1
  cases h1
  exact⟨y,h2,rfl⟩
 ·cases e
theorem ZeS(xs:List T):(ZcJ xs).length=xs.length:=by
 unfold ZcJ
 rw[List.length_zipWith,List.length_range,Nat.min_self]
theorem Src.go(M:MemR K cm m H){J:It}{ts:List T}(h:Src K cm m H J ts){i:Nat}{t:T}(e:ts[i]?=some t):J.go i H/\∀x H',J.yld i H x H'->Ext cm m H cm m H'/\MemR K cm m H'/\RT K cm m H' t x:=by
 cases h with
 |tup h1 h2 =>
  obtain⟨v,e1,e2⟩:=ZD h2 e
  refine⟨⟨_,v,h1,e1⟩,λx H' ⟨z,q⟩=>stay M z ?_⟩
  have:=q _ h1
  rw[e1]at this;cases this
  exact e2
 |lst h1 h2 h3 =>
  obtain⟨v,e1,e2⟩:=ZD h3 e
  refine⟨⟨_,v,.of h1,e1⟩,λx H' ⟨z,q⟩=>stay M z ?_⟩
  have:=q _ (.of h1)
  rw[e1]at this;cases this
  exact e2
 |cel h1 h2 =>
  obtain⟨b,vs,q1,q2,q3,q4⟩:=M.at' _ _ h1
  rw[h2]at q1;cases q1
  obtain⟨v,e1,e2⟩:=ZD q4 e
  refine⟨⟨_,v,.of q2,e1⟩,λx H' ⟨z,q⟩=>stay M z ?_⟩
  have:=q _ (.of q2)
  rw[e1]at this;cases this
  exact e2
 |scr ns h =>
  obtain⟨v,e1,e2⟩:=ZD (ZaY (K:=K) (cm:=cm) (m:=m) (H:=H) ns) e
  refine⟨⟨_,v,h.sq,e1⟩,λx H' ⟨z,q⟩=>stay M z ?_⟩
  have:=q _ h.sq
  rw[e1]at this;cases this
  exact e2
 |str cs =>
  rw[List.getElem?_map]at e
  cases q:cs[i]? with
  |none=>rw[q]at e;cases e
  |some c =>
   rw[q]at e;cases e
   refine⟨(List.getElem?_eq_some_iff.mp q).1,λx H' ⟨z,c',q',e'⟩=>stay M z ?_⟩
   rw[q]at q';cases q'
   subst e'
   exact .str [c]
 |rng lo n =>
  unfold rangeT at e
  rw[List.getElem?_map]at e
  cases q:(List.range n)[i]? with
  |none=>rw[q]at e;cases e
  |some k =>
   rw[q]at e;cases e
   have hi:=(List.getElem?_eq_some_iff.mp q).1
   rw[List.length_range]at hi
   rw[List.getElem?_range hi]at q
   cases q
   exact⟨hi,λx H' ⟨z,e'⟩=>stay M z (by subst e';exact .int _)⟩
 |zip h1 h2 h3 h4 h5 =>
  obtain⟨x,y,hx,hy,rfl⟩:=Zjy e
  obtain⟨u,e1,r1⟩:=ZD h3 hx
  obtain⟨v,e2,r2⟩:=ZD h4 hy
  refine⟨⟨_,_,u,v,h1,h2,e1,e2⟩,?_⟩
  rintro x' H' ⟨u',v',c,q1,q2,hc,rfl,rfl⟩
  have z1:=q1 _ h1
  rw[e1]at z1;cases z1
  have z2:=q2 _ h2
  rw[e2]at z2;cases z2
  exact⟨.new hc,M.new hc,RT.newTup (.cons r1 (.cons r2 .nil)) hc⟩
 |@zip4 l vs ts h1 h2 =>
  obtain⟨x0,x1,x2,x3,e0,e1,e2,e3,rfl⟩:=Zhv e
  obtain⟨q0,_,p0⟩:=h1 0 (by decide)
  obtain⟨q1,_,p1⟩:=h1 1 (by decide)
  obtain⟨q2,_,p2⟩:=h1 2 (by decide)
  obtain⟨q3,_,p3⟩:=h1 3 (by decide)
  obtain⟨u0,f0,r0⟩:=ZD p0 e0
  obtain⟨u1,f1,r1⟩:=ZD p1 e1
  obtain⟨u2,f2,r2⟩:=ZD p2 e2
  obtain⟨u3,f3,r3⟩:=ZD p3 e3
  refine⟨⟨vs,pick4 u0 u1 u2 u3,all4 ⟨.of q0,f0⟩ ⟨.of q1,f1⟩ ⟨.of q2,f2⟩ ⟨.of q3,f3⟩⟩,?_⟩
  rintro x' H' ⟨x,c,q,hc,rfl,rfl⟩
  have z0:=q 0 (by decide) _ (.of q0)
  rw[f0]at z0
  have z1:=q 1 (by decide) _ (.of q1)
  rw[f1]at z1
  have z2:=q 2 (by decide) _ (.of q2)
  rw[f2]at z2
  have z3:=q 3 (by decide) _ (.of q3)
  rw[f3]at z3
  rw[<-Option.some.inj z0,<-Option.some.inj z1,<-Option.some.inj z2,<-Option.some.inj z3]
  exact⟨.new hc,M.new hc,RT.newTup (.cons r0 (.cons r1 (.cons r2 (.cons r3 .nil)))) hc⟩
 |enm h1 h2 h3 =>
  obtain⟨x,hx,rfl⟩:=Zi5 e
  obtain⟨u,e1,r1⟩:=ZD h3 hx
  refine⟨⟨_,u,.of h1,e1⟩,?_⟩
  rintro x' H' ⟨u',c,q1,hc,rfl,rfl⟩
  have z1:=q1 _ (.of h1)
  rw[e1]at z1;cases z1
  exact⟨.new hc,M.new hc,RT.newTup (.cons (.int _) (.cons r1 .nil)) hc⟩
theorem Src.stop(M:MemR K cm m H){J:It}{ts:List T}(h:Src K cm m H J ts){i:Nat}(e:ts[i]?=none):J.stop i H:=by
 have l:=List.getElem?_eq_none_iff.mp e
 cases h with
 |tup h1 h2=>exact⟨_,h1,by rw[<-h2.length];exact l⟩
 |lst h1 h2 h3=>exact⟨_,.of h1,by rw[<-h3.length];exact l⟩
 |cel h1 h2 =>
  obtain⟨b,vs,q1,q2,q3,q4⟩:=M.at' _ _ h1
  rw[h2]at q1;cases q1
  exact⟨_,.of q2,by rw[<-q4.length];exact l⟩
 |scr ns h=>exact⟨_,h.sq,by rw[List.length_map]at l ⊢;exact l⟩
 |str cs=>rw[List.length_map]at l;exact l
 |rng lo n =>
  unfold rangeT at l
  rw[List.length_map,List.length_range]at l
  exact l
 |zip h1 h2 h3 h4 h5 =>
  refine⟨_,h1,?_⟩
  unfold zipL at l
  rw[List.length_zipWith]at l
  rw[<-h3.length]
  omega
 |@zip4 l vs ts h1 h2 =>
  obtain⟨q0,_,p0⟩:=h1 0 (by decide)
  refine⟨_,.of q0,?_⟩
  have l1:=h2 1 (by decide)
  have l2:=h2 2 (by decide)
  have l3:=h2 3 (by decide)
  unfold Zhw at l
  rw[List.length_map,List.length_zip,List.length_zip,List.length_zip]at l
  rw[<-p0.length]
  omega
 |enm h1 h2 h3 =>
  refine⟨_,.of h1,?_⟩
  rw[ZeS]at l
  rw[<-h3.length]
  exact l
variable(K) in
noncomputable def tI(call:Nat->List W->Mem->Res W)(gv:List T)(xr:XR)(it:E):TI:=λσ H R=>∃env cm m,EnvR K cm m H env σ/\MemR K cm m H /\
 OkR K (ev call gv it env m) xr cm m H λx cm1 m1 H1=>∃ts m2,ZS x m1=.ok ts m2/\∀J,Src K cm1 m2 H1 J ts->R J H1
theorem PI.mono{tg iter:Expr}{t t':TI}(h:PI X tg iter t)(f:∀σ H R,t' σ H R->t σ H R):PI X tg iter t':=λpins s σ H R I q=>h pins s σ H R I (f σ H R q)
theorem pi_of{tg iter:Expr}{call:Nat->List W->Mem->Res W}{gv:List T}{it:E}(h:PE X iter (tE X.K call gv xr it)):PI X tg iter (tI X.K call gv xr it):=by
 rintro pins s σ H R I ⟨env,cm,m,hE,hM,ho⟩
 refine thn (h pins s σ H (λv H1=>∃cm1 m1 w,MemR X.K cm1 m1 H1/\RW X.K cm1 m1 H1 w v/\∃ts m2,ZS w m1=.ok ts m2/\∀J,Src X.K cm1 m2 H1 J ts->R J H1) I
  ⟨env,cm,m,hE,hM,ho.mono λw cm1 m1 H1 x1 M1 o1 v rv=>⟨cm1,m1,w,M1,rv,o1⟩⟩) λv s1 ⟨x,H1,I1,r1,cm1,m1,w,M1,rw1,ts0,m2,eb,o1⟩=>?_
 -- an iterator over a list that stands at a
 have onList:∀(a:Addr) (vs:List V),x=.ref a->SqL X.K H1 a vs->R (Itl X.K a) H1->wpAny (model X.prog X.w) X.A (pyIter v) (PIE X pins σ tg R) X.xe s1:=λa vs e hq q=>by
  subst e
  cases r1
  obtain⟨its,rv,p,hz⟩:=I1.list hq
  refine wpAny_pyIter_list p.isList ?_
  refine⟨s1.heap.objs.size,[s1.heap.objs.size],_,_,H1,rfl,I1.kept (t':=s1.toks) λb o e=>Heap.get?_push_of_some _ e,Zd5 a _,⟨_,Heap.get?_push_size _ rfl,rfl,rfl⟩,λb hb=>?_,q⟩
  have e:b=s1.heap.objs.size:=by simpa using hb
  subst e
  exact I1.fpOk (Nat.le_refl _) (I1.hok.fresh (Nat.le_refl _))
 cases w with
 |f a=>cases eb
 |x _ _ _=>cases eb
 |c i =>
  unfold ZS at eb
  dsimp only at eb
  split at eb
  ·rename_i fl ts e
   cases eb
   obtain⟨a,vs,q1,q2,_⟩:=M1.at' i _ e
   obtain⟨b,h1,h2⟩:=rw1
   rw[q1]at h1;cases h1
   exact onList a vs h2 (.of q2) (o1 _ (.cel (List.getElem?_set_self (List.getElem?_eq_some_iff.mp e).1) q1))
  ·cases eb
 |t t =>
  unfold ZS at eb
  dsimp only at eb
  cases t with
  |tup ts =>
   cases eb
   obtain⟨a,vs,e,h1,h2⟩:=RT.itup rw1
   subst e
   cases r1
   obtain⟨its,rv,p,hz⟩:=I1.tuple h1
   refine wpAny_pyIter_tuple (show s1.heap.IsTuple a its.toArray from p) ?_
   refine⟨s1.heap.objs.size,[s1.heap.objs.size],_,_,H1,rfl,I1.kept (t':=s1.toks) λb o e=>Heap.get?_push_of_some _ e,ZgB a _,⟨_,Heap.get?_push_size _ rfl,rfl,rfl⟩,λb hb=>?_,o1 _ (.tup h1 h2)⟩
   have e:b=s1.heap.objs.size:=by simpa using hb
   subst e
   exact I1.fpOk (Nat.le_refl _) (I1.hok.fresh (Nat.le_refl _))
  |lst ts =>
   cases eb
   obtain⟨a,vs,e,h1,h2,h3⟩:=RT.ilst rw1
   exact onList a vs e (.of h1) (o1 _ (.lst h1 h2 h3))
  |scr ns =>
   cases eb
   obtain⟨a,e,h1⟩:=RT.vscr rw1
   exact onList a _ e h1.sq (o1 _ (.scr ns h1))
  |str cs =>
   unfold Zc3 at eb
   dsimp only at eb
   split at eb
   ·rename_i ts e
    split at e<;>cases e
    cases eb
    cases RT.vstr rw1
    obtain⟨t,rfl⟩:=r1
    have q:=o1 _ (.str cs)
    have I2:∀o:Obj,Inv X pins σ H1 { s1 with heap:=s1.heap.push o }:=λo=>I1.kept (t':=s1.toks) λb o e=>Heap.get?_push_of_some _ e
    have fpk:∀b∈[s1.heap.objs.size],FpOk X pins H1 b:=λb hb=>by
     have e:b=s1.heap.objs.size:=by simpa using hb
     subst e
     exact I1.fpOk (Nat.le_refl _) (I1.hok.fresh (Nat.le_refl _))
    cases ha:(⟨cs.toArray⟩:Str).cps.all (·<128)
    ·refine wpAny_pyIter_wide ha ?_
     exact⟨s1.heap.objs.size,[s1.heap.objs.size],_,_,H1,rfl,I2 _,ZfZ (cl:="str_iterator") (t:=t) (by decide) (λA i s Q E st h=>wpAny_pyIter_striter_wide st h) (λA' hA=>by simpa using Walks.strWide hA _ ⟨cs.toArray⟩ t),⟨⟨_,Heap.get?_push_size _ rfl,rfl,rfl⟩,Nat.zero_le _⟩,fpk,q⟩
    ·refine wpAny_pyIter_ascii ha ?_
     exact⟨s1.heap.objs.size,[s1.heap.objs.size],_,_,H1,rfl,I2 _,ZfZ (cl:="str_ascii_iterator") (t:=t) (by decide) (λA i s Q E st h=>wpAny_pyIter_striter_ascii st h) (λA' hA=>by simpa using Walks.strAscii hA _ ⟨cs.toArray⟩ t),⟨⟨_,Heap.get?_push_size _ rfl,rfl,rfl⟩,Nat.zero_le _⟩,fpk,q⟩
   ·cases eb
  |_=>cases eb
end
theorem ZdK{elt:Expr}{gens:List Comprehension}{scope:Scope}{pos:Pos}{d:Nat}{target iter:Expr}{ifs:List Expr}{it acc:Value}{env:PySem.Env}(hg:gens[d]?=some ⟨target,iter,ifs,0⟩)(hn:gens[d+1]?=none):
  compTurn (.ListComp elt gens scope pos) d it acc env=(do
   standAt iter.pos
   match <-pyNext it with
   |none=>pure (.done .next)
   |some v =>
    letOwnedTupleGo target it v
    assign target env v
    let mut ok:=true
    for c in ifs do
     if ok then ok <-isTrue c env (eval c env)
    if ok then
     (do let _ <-call (.builtin "list.append") [acc,<-eval elt env])
    again (.compLoop (.ListComp elt gens scope pos) d it acc env)):=by
 unfold compTurn
 simp only[hg,hn]
 rfl
theorem ZdJ{elt:Expr}{gens:List Comprehension}{scope:Scope}{pos:Pos}{d:Nat}{target iter:Expr}{ifs:List Expr}{it acc:Value}{env:PySem.Env}{target' iter':Expr}{ifs':List Expr}(hg:gens[d]?=some ⟨target,iter,ifs,0⟩)(hn:gens[d+1]?=some ⟨target',iter',ifs',0⟩):
  compTurn (.ListComp elt gens scope pos) d it acc env=(do
   standAt iter.pos
   match <-pyNext it with
   |none=>pure (.done .next)
   |some v =>
    letOwnedTupleGo target it v
    assign target env v
    let mut ok:=true
    for c in ifs do
     if ok then ok <-isTrue c env (eval c env)
    if ok then
     let x <-eval iter' env
     standAt iter'.pos
     let x <-foldedSetIterable iter' env x
     let _ <-runOwn (.compStart (.ListComp elt gens scope pos) (d+1) (<-holding [x] (pyIter x)) acc env) env
    again (.compLoop (.ListComp elt gens scope pos) d it acc env)):=by
 unfold compTurn
 simp only[hg,hn]
 rfl
section
variable{K:Frag}{cm cm':List Addr}{m m':Mem}{H H':Hp}{xr:XR}{Y:Cx}
noncomputable def AccAt(h:Heap)(D:Addr)(vs:List V):Prop:=vs.length<=sizeLine/\∃(its:List Value) (n:Nat),Vals vs its/\h.get? D=some { cls:=.type "list",data:=.seq its.toArray n }
structure DOk (Y:Cx) (pins:List (Addr×Obj)) (H:Hp) (D:Addr):Prop where
 free:H D=none
 loc:D≠Y.env.locals
 nofs:D∉Y.fs
 own:D∈Y.ex∨Y.s₀.heap.objs.size<=D
 cell:∀x c,Y.env.cells.lookup x=some c->c≠D
 pin:∀p∈Y.pn++pins,p.1≠D
theorem pe_run{e:Expr}{call:Nat->List W->Mem->Res W}{gv:List T}{a:E}(h:PE Y e (tE Y.K call gv xr a)){pins:List (Addr×Obj)}{s:Shared}{σ:L2.St}{env:Env}{w:W}(I:Inv Y pins σ H s)(hE:EnvR Y.K cm m H env σ)(M:MemR Y.K cm m H)(ok:ev call gv a env m=.ok w m'):wpAny (model Y.prog Y.w) Y.A (eval e Y.env) (EP Y pins σ λv H'=>∃cm',Ext cm m H cm' m' H'/\MemR Y.K cm' m' H'/\RW Y.K cm' m' H' w v) Y.xe s:=by
 refine h pins s σ H _ I ⟨env,cm,m,hE,M,?_⟩
 rw[ok]
 exact λcm' H' x M' v r=>⟨cm',x,M',r⟩
theorem pt_run{e:Expr}{call:Nat->List W->Mem->Res W}{gv:List T}{a:E}(h:PT Y e (tT Y.K call gv xr a)){pins:List (Addr×Obj)}{s:Shared}{σ:L2.St}{env:Env}{k:Bool}(I:Inv Y pins σ H s)(hE:EnvR Y.K cm m H env σ)(M:MemR Y.K cm m H)(ok:(ev call gv a env m).bind ZQ=.ok k m'):wpAny (model Y.prog Y.w) Y.A (isTrue e Y.env (eval e Y.env)) (TP Y pins σ λb H'=>b=k/\∃cm',Ext cm m H cm' m' H'/\MemR Y.K cm' m' H') Y.xe s:=by
 refine h pins s σ H _ I ⟨env,cm,m,hE,M,?_⟩
 rw[ok]
 exact λcm' H' x M'=>⟨rfl,cm',x,M'⟩
noncomputable def PTs(Y:Cx)(call:Nat->List W->Mem->Res W)(gv:List T)(xr:XR):Es->List Expr->Prop
 |.nil,[]=>True
 |.cons a es,e::r=>PT Y e (tT Y.K call gv xr a)/\PTs Y call gv xr es r
 |_,_=>False
theorem Zb4{env:PySem.Env}{M:Model}{A:Around}{E:Value->Shared->Prop}{s:Shared}{Q:Bool->Shared->Prop}(h:Q false s):∀ifs:List Expr,
  wpAny M A (forIn ifs false λc r=>if r=true then do let ok <-isTrue c env (eval c env);pure (ForInStep.yield ok)else pure (ForInStep.yield r)) Q E s
 |[]=>wpAny_pure h
 |_::r=>by
  simp only[List.forIn_cons,Bool.false_eq_true,if_false]
  exact wpAny_bind (wpAny_pure (Zb4 h r))
theorem Zd8{call:Nat->List W->Mem->Res W}{gv:List T}{pins:List (Addr×Obj)}{σ:L2.St}{env:Env}:∀{cs:Es}{ifs:List Expr}{cm:List Addr}{m m':Mem}{H:Hp}{s:Shared}{k:Bool},PTs Y call gv xr cs ifs->Inv Y pins σ H s->EnvR Y.K cm m H env σ->MemR Y.K cm m H ->
  tests call gv cs env m=.ok k m' ->
  wpAny (model Y.prog Y.w) Y.A (forIn ifs true λc r=>if r=true then do let ok <-isTrue c Y.env (eval c Y.env);pure (ForInStep.yield ok)else pure (ForInStep.yield r))
   (λb s'=>b=k/\∃H' cm',Inv Y pins σ H' s'/\Ext cm m H cm' m' H'/\MemR Y.K cm' m' H') Y.xe s
 |.nil,[],cm,m,m',H,s,k,_,I,hE,M,ok=>by
  unfold tests at ok
  cases ok
  exact wpAny_pure ⟨rfl,H,cm,I,.refl,M⟩
 |.cons a es,e::r,cm,m,m',H,s,k,hp,I,hE,M,ok=>by
  unfold tests at ok
  obtain⟨h1,h2⟩:=hp
  simp only[List.forIn_cons,if_true]
  cases e1:ev call gv a env m with
  |ok w m1 =>
   rw[e1]at ok
   change (ZQ w m1).bind _=_ at ok
   cases e2:ZQ w m1 with
   |ok b m2 =>
    rw[e2]at ok
    change (if b=true then _ else _)=_ at ok
    refine wpAny_bind (wpAny_bind (thn (pt_run h1 I hE M (m':=m2) (k:=b) (by rw[e1];exact e2)) λc s1 ⟨H1,I1,hb,cm1,x1,M1⟩=>wpAny_pure ?_))
    subst hb
    cases c with
    |true =>
     rw[if_pos rfl]at ok
     exact thn (Zd8 h2 I1 (hE.ext x1 M M1) M1 ok) λb' s2 ⟨hb',H2,cm2,I2,x2,M2⟩=>⟨hb',H2,cm2,I2,x1.trans x2,M2⟩
    |false =>
     rw[if_neg Bool.false_ne_true]at ok
     cases ok
     exact Zb4 (Q:=λb s'=>b=false/\∃H' cm',Inv Y pins σ H' s'/\Ext cm m H cm' m' H'/\MemR Y.K cm' m' H') ⟨rfl,H1,cm1,I1,x1,M1⟩ r
   |exc _ _=>rw[e2]at ok;cases ok
   |stuck=>rw[e2]at ok;cases ok
  |exc _ _=>rw[e1]at ok;cases ok
  |stuck=>rw[e1]at ok;cases ok
 |.nil,_::_,_,_,_,_,_,_,hp,_,_,_,_=>hp.elim
 |.cons _ _,[],_,_,_,_,_,_,hp,_,_,_,_=>hp.elim
noncomputable def tgS:Tg->List Nat
 |.nm i=>[i]
 |.tp is=>is
noncomputable def Agree(S:List Nat)(σ σ':L2.St):Prop:=∀i,i∉S->σ'[i]?=σ[i]?
noncomputable def setAll:List Nat->List V->L2.St->L2.St
 |i::is,v::vs,σ=>setAll is vs (σ.set i (some v))
 |_,_,σ=>σ
variable(K) in
noncomputable def gT:Tg->TG
 |.nm i=>ZbG i
 |.tp is=>λv σ H Q=>∃a xs,v=.ref a/\SqT K H a xs/\xs.length=is.length/\Q (setAll is xs σ) H
theorem Zbk:∀(is:List Nat) (vs:List V) (σ:L2.St),Agree is σ (setAll is vs σ)
 |[],_,_=>λ_ _=>by unfold setAll;rfl
 |_::_,[],_=>λ_ _=>by unfold setAll;rfl
 |i::is,v::vs,σ=>λj hj=>by
  unfold setAll
  rw[List.mem_cons]at hj
  rw[Zbk is vs _ j λz=>hj (.inr z),List.getElem?_set_ne λz=>hj (.inl z.symm)]
theorem EnvR.set{env:Env}{σ:L2.St}(h:EnvR K cm m H env σ){w:W}{v:V}(r:RW K cm m H w v)(i:Nat)(hi:i<σ.length):EnvR K cm m H (env.set i (some w)) (σ.set i (some v)):=λj u e=>by
 by_cases hj:j=i
 ·subst hj
  have hl:j<env.length:=by
   have:=(List.getElem?_eq_some_iff.mp e).1
   rwa [List.length_set]at this
  rw[List.getElem?_set_self hl]at e
  cases e
  exact⟨v,List.getElem?_set_self hi,r⟩
 ·rw[List.getElem?_set_ne (Ne.symm hj)]at e
  obtain⟨v',h1,h2⟩:=h j u e
  exact⟨v',by rw[List.getElem?_set_ne (Ne.symm hj)];exact h1,h2⟩
theorem EnvR.setAll:∀{is:List Nat}{ts:List T}{vs:List V}{env:Env}{σ:L2.St},EnvR K cm m H env σ->RTs K cm m H ts vs->(∀i∈is,i<σ.length) ->
  EnvR K cm m H ((is.zip ts).foldl (λenv p=>env.set p.1 (some (.t p.2))) env) (Mi.setAll is vs σ)
 |[],_,_,_,_,h,_,_=>by unfold Mi.setAll;exact h
 |_::_,[],_,_,_,h,.nil,_=>by unfold Mi.setAll;exact h
 |i::is,t::ts,v::vs,env,σ,h,.cons r rs,hi=>by
  unfold Mi.setAll
  rw[List.zip_cons_cons,List.foldl_cons]
  refine EnvR.setAll (h.set (w:=.t t) r i (hi i List.mem_cons_self)) rs λj hj=>?_
  rw[List.length_set]
  exact hi j (List.mem_cons_of_mem _ hj)
theorem Zm3{tg:Tg}{t:T}{v:V}{env env':Env}{σ:L2.St}(hE:EnvR K cm m H env σ)(hi:∀i∈tgS tg,i<σ.length)(r:RT K cm m H t v)(e:Xq tg t env=some env'){Q:L2.St->Hp->Prop}(q:∀σ',EnvR K cm m H env' σ'->Agree (tgS tg) σ σ'->Q σ' H):gT K tg v σ H Q:=by
 cases tg with
 |nm i =>
  cases e
  refine q _ (hE.set (w:=.t t) r i (hi i (by simp[tgS]))) λj hj=>?_
  rw[List.getElem?_set_ne]
  intro z
  exact hj (by simp[tgS,z])
 |tp is =>
  unfold Xq at e
  dsimp only at e
  split at e
  ·split at e<;>cases e
   rename_i ts hl
   obtain⟨a,vs,rfl,h1,h2⟩:=RT.itup r
   exact⟨a,vs,rfl,h1,by rw[<-h2.length];exact hl,q _ (EnvR.setAll hE h2 hi) (Zbk is vs σ)⟩
  ·cases e
end
noncomputable def innS:E->List Nat
 |.more _ tg _ inner=>tgS tg++innS inner
 |_=>[]
section
variable{xr:XR}{Y:Cx}{call:Nat->List W->Mem->Res W}{gv:List T}
variable(Y call gv xr) in
noncomputable def Ins(elt:Expr)(gens:List Comprehension):Nat->E->Prop
 |d,.emit a=>gens[d+1]?=none/\PE Y elt (tE Y.K call gv xr a)
 |d,.more it tg cs inner=>(∃target iter ifs,gens[d+1]?=some ⟨target,iter,ifs,0⟩/\PI Y target iter (tI Y.K call gv xr it)/\(∀x,foldedSetIterable iter Y.env x=pure x)/\PG Y target (gT Y.K tg)/\PTs Y call gv xr cs ifs) /\
  (∀i∈tgS tg,i∉innS inner)/\(∀i∈tgS tg++innS inner,i<Y.N.length)/\Ins elt gens (d+1) inner
 |_,_=>False
theorem Zg0{α:Type}{M:Model}{A:Around}{t:Sem α}{Q:α->Shared->Prop}{E:Value->Shared->Prop}{s:Shared}(hxe:∀e s,¬Y.xe e s)(h:wpAny M A t Q Y.xe s):wpAny M A t Q E s:=wpAny_mono h (λ_ _ q=>q) λ_ _ z=>(hxe _ _ z).elim
noncomputable abbrev turnF(call:Nat->List W->Mem->Res W)(gv:List T)(cs:Es)(inner:E):Env->Mem->Res (List T):=λenv m=>(tests call gv cs env m).bind λk m=>if k then(ev call gv inner env m).bind ZdR else .ok [] m
noncomputable def Znx(Y:Cx)(Acc:Heap->List V->Prop)(D:Addr)(S:List Nat)(pins:List (Addr×Obj))(σ:L2.St)(cm:List Addr)(m:Mem)(H:Hp)(vs:List V)(out:List T)(m':Mem)(s':Shared):Prop:=
 ∃σ' H' cm' vs',Inv Y pins σ' H' s'/\Ext cm m H cm' m' H'/\MemR Y.K cm' m' H'/\RTs Y.K cm' m' H' out vs'/\Acc s'.heap (vs++vs')/\Agree S σ σ'/\H' D=none
noncomputable abbrev CEnd(Y:Cx)(D:Addr):=Znx Y (λh vs=>AccAt h D vs) D
theorem AccAt.keep{h h':Heap}{D:Addr}{vs:List V}(a:AccAt h D vs)(k:∀o,h.get? D=some o->h'.get? D=some o):AccAt h' D vs:=by
 obtain⟨z,its,n,r,e⟩:=a
 exact⟨z,its,n,r,k _ e⟩
theorem EnvR.agree{K:Frag}{cm:List Addr}{m:Mem}{H:Hp}{env:Env}{σ σ':L2.St}{S:List Nat}(h:EnvR K cm m H env σ)(a:Agree S σ σ')(n:∀i∈S,∀w,env[i]?≠some (some w)):EnvR K cm m H env σ':=λi w e=>by
 obtain⟨v,h1,h2⟩:=h i w e
 refine⟨v,?_,h2⟩
 rw[a i λz=>n i z w e]
 exact h1
theorem Agree.trans{S:List Nat}{a b c:L2.St}(h:Agree S a b)(g:Agree S b c):Agree S a c:=λi hi=>(g i hi).trans (h i hi)
theorem Agree.mono{S S':List Nat}{a b:L2.St}(h:Agree S a b)(g:∀i∈S,i∈S'):Agree S' a b:=λi hi=>h i λz=>hi (g i z)
theorem Agree.refl{S:List Nat}{a:L2.St}:Agree S a a:=λ_ _=>rfl
theorem ZfU{tg:Tg}{t:T}{env env':Env}(e:Xq tg t env=some env'){i:Nat}(hi:i∉tgS tg):env'[i]?=env[i]?:=by
 cases tg with
 |nm j =>
  cases e
  rw[List.getElem?_set_ne]
  intro z;exact hi (by simp[tgS,z])
 |tp is =>
  unfold Xq at e
  dsimp only at e
  split at e
  ·split at e<;>cases e
   rename_i ts hl
   have:∀(is:List Nat) (ts:List T) (env:Env),i∉is->((is.zip ts).foldl (λenv p=>env.set p.1 (some (.t p.2))) env)[i]?=env[i]?:=by
    intro is
    induction is with
    |nil=>intro ts env _;rfl
    |cons j is ih =>
     intro ts env h
     cases ts with
     |nil=>rfl
     |cons t ts =>
      rw[List.mem_cons]at h
      rw[List.zip_cons_cons,List.foldl_cons,ih ts _ λz=>h (.inr z),List.getElem?_set_ne λz=>h (.inl z.symm)]
   exact this is ts env hi
  ·cases e
theorem Zo{α β:Type}{r:Res α}{f:α->Mem->Res β}{y:β}{m':Mem}(h:r.bind f=.ok y m'):∃x m,r=.ok x m/\f x m=.ok y m':=by
 cases r with
 |ok x m=>exact⟨x,m,rfl,h⟩
 |exc _ _=>cases h
 |stuck=>cases h
theorem Ze6{w:W}{m m':Mem}{ts:List T}(h:ZdR w m=.ok ts m'):w=.t (.lst ts)/\m'=m:=by
 unfold ZdR at h
 split at h<;>cases h
 exact⟨rfl,rfl⟩
theorem ZiT{K:Frag}{cm:List Addr}{m m':Mem}{H:Hp}{w:W}{v:V}{t:T}(M:MemR K cm m H)(r:RW K cm m H w v)(e:frz w m=.ok t m'):Ext cm m H cm m' H/\MemR K cm m' H/\RT K cm m' H t v:=by
 cases w with
 |t x=>cases e;exact⟨.refl,M,r⟩
 |f a=>cases e
 |x _ _ _=>cases e
 |c i =>
  unfold frz at e
  dsimp only at e
  split at e
  ·rename_i ts h
   cases e
   obtain⟨a,vs,q1,q2,q3,q4,q5,q6,q7⟩:=Zjk M h
   obtain⟨b,h1,h2⟩:=r
   rw[q1]at h1;cases h1
   subst h2
   exact⟨q4,q5,q7⟩
  ·cases e
theorem ZiU{pins:List (Addr×Obj)}{H:Hp}{b:Addr}{fp:List Addr}{h:Heap}(f:FpOk Y pins H b)(n:b∉fp):FpOk Y (pins++Zaa fp h) H b:=
 ⟨f.1,f.2.1,f.2.2.1,f.2.2.2.1,f.2.2.2.2.1,λp hp z=>by
  rw[<-List.append_assoc]at hp
  rcases List.mem_append.mp hp with hp|hp
  ·exact f.2.2.2.2.2 p hp z
  ·exact n (by rw[<-z];exact(Zey hp).1)⟩
structure AccK (D:Addr) (Acc:Heap->List V->Prop):Prop where
 obj:∀{h vs},Acc h vs->∃o,h.get? D=some o/\∀v,o.data≠.cell v
 keep:∀{h h' vs},Acc h vs->(∀o,h.get? D=some o->h'.get? D=some o)->Acc h' vs
theorem Zb2(D:Addr):AccK D (λh vs=>AccAt h D vs):=⟨λ⟨_,_,_,_,e⟩=>⟨_,e,λv z=>by cases z⟩,λa k=>a.keep k⟩
theorem Zgy{pins:List (Addr×Obj)}{s:Shared}{σ:L2.St}{H:Hp}{D:Addr}{Acc:Heap->List V->Prop}(hA:AccK D Acc){vs:List V}(I:Inv Y pins σ H s)(f:FpOk Y pins H D)(a:Acc s.heap vs):Inv Y (pins++Zaa [D] s.heap) σ H s:=by
 refine I.pinned (λb hb=>?_) λb hb=>?_
 ·have e:b=D:=by simpa using hb
  rw[e];exact f
 ·have e:b=D:=by simpa using hb
  obtain⟨o,q,n⟩:=hA.obj a
  rw[e]
  exact⟨_,q,n⟩
theorem ZdT{pins:List (Addr×Obj)}{h:Heap}{s:Shared}{σ:L2.St}{H:Hp}{D:Addr}{Acc:Heap->List V->Prop}(hA:AccK D Acc){vs:List V}(a:Acc h vs)(I:Inv Y pins σ H s)(hp:∀o,h.get? D=some o->(D,o)∈pins):Acc s.heap vs/\H D=none:=by
 obtain⟨o,q,_⟩:=hA.obj a
 obtain⟨h1,h2,_⟩:=I.pin _ (List.mem_append_right _ (hp _ q))
 refine⟨hA.keep a λo' e=>?_,h2⟩
 rw[q]at e;cases e
 exact h1
theorem Zjt{pins:List (Addr×Obj)}{s:Shared}{σ:L2.St}{H:Hp}{D:Addr}{vs:List V}(I:Inv Y pins σ H s)(f:FpOk Y pins H D)(a:AccAt s.heap D vs):Inv Y (pins++Zaa [D] s.heap) σ H s:=Zgy (Zb2 D) I f a
theorem ZlB{pins:List (Addr×Obj)}{h:Heap}{s:Shared}{σ:L2.St}{H:Hp}{D:Addr}{vs:List V}(a:AccAt h D vs)(I:Inv Y pins σ H s)(hp:∀o,h.get? D=some o->(D,o)∈pins):AccAt s.heap D vs/\H D=none:=ZdT (Zb2 D) a I hp
noncomputable abbrev ZjE(target iter:Expr)(ifs:List Expr)(env:PySem.Env)(it:Value)(c:Code)(br:Sem PySem.Fin):Sem PySem.Fin:=
 standAt iter.pos >>= λ_=>pyNext it >>= λr=>match r with
  |none=>pure (.done .next)
  |some v=>letOwnedTupleGo target it v >>= λ_=>assign target env v >>= λ_ =>
   (forIn ifs true λc r=>if r=true then do let ok <-isTrue c env (eval c env);pure (ForInStep.yield ok)else pure (ForInStep.yield r)) >>= λok=>if ok=true then br else again c
theorem Zgj(hc:Y.calm=true)(hxe:∀e s,¬Y.xe e s){ce:Expr}{D:Addr}{Acc:Heap->List V->Prop}(hA:AccK D Acc){L:Nat}{Pt:T->Prop}{inner:E}{d:Nat}{target iter:Expr}{ifs:List Expr}{tg:Tg}{cs:Es}{it:Addr}{br:Sem PySem.Fin}(hu:Y.A.under (.compLoop ce d (.ref it) (.ref D) Y.env)=Y.A)(hd:(model Y.prog Y.w).den (.compLoop ce d (.ref it) (.ref D) Y.env)=(compTurn ce d (.ref it) (.ref D) Y.env).onRaise (λx=>do noteFrame x Y.env;theTreesLotGoes x))(code:compTurn ce d (.ref it) (.ref D) Y.env=ZjE target iter ifs Y.env (.ref it) (.compLoop ce d (.ref it) (.ref D) Y.env) br)(hg:PG Y target (gT Y.K tg))(ht:PTs Y call gv xr cs ifs)(hdis:∀i∈tgS tg,i∉innS inner)(hlt:∀i∈tgS tg++innS inner,i<Y.N.length)(hbr:∀{pins:List (Addr×Obj)}{s:Shared}{σ:L2.St}{H:Hp}{cm:List Addr}{m m':Mem}{env:Env}{out:List T}{vs:List V},Inv Y pins σ H s->FpOk Y pins H D->Acc s.heap vs->EnvR Y.K cm m H env σ->(∀i∈innS inner,∀w,env[i]?≠some (some w))->MemR Y.K cm m H ->
   (ev call gv inner env m).bind ZdR=.ok out m'->vs.length+out.length<=L->(∀t∈out,Pt t) ->
   wpAny (model Y.prog Y.w) Y.A br (λfin s'=>fin=.again (.compLoop ce d (.ref it) (.ref D) Y.env)/\Znx Y Acc D (innS inner) pins σ cm m H vs out m' s') Y.xe s){pins:List (Addr×Obj)}{s:Shared}{σ:L2.St}{H:Hp}{cm:List Addr}{m m':Mem}{env:Env}{ts out:List T}{J:It}{fp:List Addr}{tn:Nat->Heap->Prop}{vs:List V}(I:Inv Y pins σ H s)(hD:FpOk Y pins H D)(ha:Acc s.heap vs)(hT:Turn Y.prog Y.w Y.K target J fp it tn)(h0:tn 0 s.heap)(hf:∀b∈fp,FpOk Y pins H b)(hDf:D∉fp)(hE:EnvR Y.K cm m H env σ)(hn:∀i∈tgS tg++innS inner,∀w,env[i]?≠some (some w))(M:MemR Y.K cm m H)(hs:Src Y.K cm m H J ts)(ok:Xe (turnF call gv cs inner) tg ts env m=.ok out m')(hl:vs.length+out.length<=L)(hpt:∀t∈out,Pt t):
  codeAny (model Y.prog Y.w) Y.A (.compLoop ce d (.ref it) (.ref D) Y.env) (λr s'=>r=.ok .next/\Znx Y Acc D (tgS tg++innS inner) pins σ cm m H vs out m' s') s:=by
 have statD:∀{H1:Hp},H1 D=none->FpOk Y pins H1 D:=λh=>⟨h,hD.2⟩
 have stat:∀{H1:Hp},(∀b∈fp,H1 b=none)->∀b∈fp,FpOk Y pins H1 b:=λh b hb=>⟨h b hb,(hf b hb).2⟩
 refine codeAny_loop rfl (λn s1=>∃i σ1 H1 cm1 m1 vs1 done rest,Inv Y pins σ1 H1 s1/\tn i s1.heap/\(∀b∈fp,H1 b=none)/\H1 D=none/\Ext cm m H cm1 m1 H1/\MemR Y.K cm1 m1 H1/\Agree (tgS tg++innS inner) σ σ1 /\
   Acc s1.heap (vs++vs1)/\RTs Y.K cm1 m1 H1 done vs1/\Xe (turnF call gv cs inner) tg (ts.drop i) env m1=.ok rest m'/\out=done++rest/\n=ts.length+1-i/\i<=ts.length) ?_ (ts.length+1)
  ⟨0,σ,H,cm,m,[],[],out,I,h0,λb hb=>(hf b hb).1,hD.1,.refl,M,.refl,by rw[List.append_nil];exact ha,.nil,by rw[List.drop_zero];exact ok,rfl,rfl,Nat.zero_le _⟩
 rintro n s1 ⟨i,σ1,H1,cm1,m1,vs1,done,rest,I1,st1,fr1,d1,x1,M1,ag1,a1,r1,ok1,eo,rfl,hi⟩
 rw[hu,hd]
 refine wpAny_noted ?_
 rw[code]
 refine wpAny_bind (wpAny_standAt (wpAny_bind ?_))
 have hE1:EnvR Y.K cm1 m1 H1 env σ1:=(hE.ext x1 M M1).agree ag1 hn
 have s1':=hs.ext x1 M M1
 have I1D:=Zgy hA I1 (statD d1) a1
 have fpD:∀{H1:Hp},(∀b∈fp,H1 b=none)->∀b∈fp,FpOk Y (pins++Zaa [D] s1.heap) H1 b:=λh b hb=>ZiU (stat h b hb) λz=>hDf (by
  have e:b=D:=by simpa using z
  rw[<-e];exact hb)
 have inD:∀o,s1.heap.get? D=some o->(D,o)∈pins++Zaa [D] s1.heap:=λo e=>List.mem_append_right _ (Z7 (by simp) e)
 cases et:ts[i]? with
 |none =>
  refine Zg0 hxe (thn (hT.done Y rfl rfl rfl hc i _ s1 σ1 H1 Y.xe I1D (fpD fr1) st1 (Src.stop M1 s1' et)) λr s2 ⟨hr,I2⟩=>?_)
  subst hr
  have hd:ts.drop i=[]:=List.drop_eq_nil_of_le (List.getElem?_eq_none_iff.mp et)
  rw[hd]at ok1
  unfold Xe at ok1
  cases ok1
  rw[List.append_nil]at eo
  subst eo
  exact wpAny_pure ⟨rfl,σ1,H1,cm1,vs1,I2.unpinned,x1,M1,r1,(ZdT hA a1 I2 inD).1,ag1,(ZdT hA a1 I2 inD).2⟩
 |some t =>
  obtain⟨go,yl⟩:=Src.go M1 s1' et
  have hit:i<ts.length:=(List.getElem?_eq_some_iff.mp et).1
  have hd:ts.drop i=t::ts.drop (i+1):=by
   rw[List.drop_eq_getElem_cons hit]
   congr 1
   exact Option.some.inj ((List.getElem?_eq_getElem hit).symm.trans et)
  rw[hd]at ok1
  unfold Xe at ok1
  split at ok1
  ·cases ok1
  ·rename_i env' eb
   obtain⟨xs,m2,ok2,ok3⟩:=Zo ok1
   obtain⟨ys,m3,ok4,ok5⟩:=Zo ok3
   cases ok5
   obtain⟨k,m4,okt,okb⟩:=Zo ok2
   refine Zg0 hxe (thn (hT.item Y rfl rfl rfl hc i _ s1 σ1 H1 Y.xe I1D (fpD fr1) st1 go) λr s2 ⟨u,hr,h2⟩=>?_)
   subst hr
   refine wpAny_bind (Zg0 hxe (thn h2 λ_ s3 ⟨x,H3,I3,rx,y3,st3,fr3⟩=>?_))
   obtain⟨xy,My,rt⟩:=yl x H3 y3
   have hE1:=hE1.ext xy M1 My
   have x1:=x1.trans xy
   have r1:=RTs.ext xy M1 My r1
   have M1:=My
   -- pinned: the list that is filled,and the iterator
   have I3':=I3.pinned (fpD fr3) (hT.obj _ _ st3)
   refine wpAny_bind (Zg0 hxe (thn (hg _ s3 σ1 H3 x u (λσ' H'=>H'=H3/\EnvR Y.K cm1 m1 H3 env' σ'/\Agree (tgS tg) σ1 σ') I3' rx (Zm3 hE1 (λj hj=>by rw[I3.len];exact hlt j (List.mem_append_left _ hj)) rt eb λσ' h1 h2=>⟨rfl,h1,h2⟩)) λ_ s4 ⟨σ4,H4,I4,e4,hE4,ag4⟩=>?_))
   subst e4
   refine wpAny_bind (Zg0 hxe (thn (Zd8 ht I4 hE4 M1 okt) λb s5 ⟨hb,H5,cm5,I5,x5,M5⟩=>?_))
   subst hb
   have a5:=ZdT hA a1 I5 λo e=>List.mem_append_left _ (inD o e)
   have st5:tn (i+1) s5.heap:=hT.keep _ _ _ st3 λb hb o e=>(I5.pin (b,o) (List.mem_append_right _ (List.mem_append_right _ (Z7 hb e)))).1
   have f5:∀b∈fp,H5 b=none:=λb hb=>by
    obtain⟨o,e,dd⟩:=hT.obj _ _ st3 b hb
    exact(I5.pin (b,o) (List.mem_append_right _ (List.mem_append_right _ (Z7 hb e)))).2.1
   have ag45:Agree (tgS tg++innS inner) σ σ4:=ag1.trans (ag4.mono λi hi=>List.mem_append_left _ hi)
   cases b with
   |false =>
    rw[if_neg Bool.false_ne_true]at okb ⊢
    cases okb
    rw[List.nil_append]at eo
    exact wpAny_pure ⟨rfl,_,by omega,i+1,σ4,H5,cm5,m2,vs1,done,ys,I5.unpinned.unpinned,st5,f5,a5.2,x1.trans x5,M5,ag45,a5.1,RTs.ext x5 M1 M5 r1,ok4,eo,rfl,hit⟩
   |true =>
    rw[if_pos rfl]at okb ⊢
    have I6:Inv Y (pins++Zaa fp s5.heap) σ4 H5 s5:=I5.unpinned.unpinned.pinned (stat f5) (hT.obj _ _ st5)
    have hv:=r1.length
    have hz:(vs++vs1).length+xs.length<=L:=by
     rw[List.length_append,<-hv]
     rw[eo,List.length_append,List.length_append]at hl
     omega
    have hn6:∀j∈innS inner,∀w,env'[j]?≠some (some w):=λj hj w=>by
     rw[ZfU eb λz=>hdis j z hj]
     exact hn j (List.mem_append_right _ hj) w
    refine Zg0 hxe (thn (hbr I6 (ZiU (statD a5.2) hDf) a5.1 (hE4.ext x5 M1 M5) hn6 M5 okb hz λt ht'=>hpt t (by rw[eo];exact List.mem_append_right _ (List.mem_append_left _ ht'))) λfin s7 ⟨hfin,σ7,H7,cm7,vs7,I7,x7,M7,r7,a7,ag7,d7⟩=>?_)
    subst hfin
    have keep7:∀b∈fp,∀o,s5.heap.get? b=some o->s7.heap.get? b=some o:=λb hb o e=>(I7.pin (b,o) (List.mem_append_right _ (List.mem_append_right _ (Z7 hb e)))).1
    refine⟨rfl,_,by omega,i+1,σ7,H7,cm7,m2,vs1++vs7,done++xs,ys,I7.unpinned,hT.keep _ _ _ st5 keep7,λb hb=>?_,?_,(x1.trans x5).trans x7,M7,ag45.trans (ag7.mono λi hi=>List.mem_append_right _ hi),by rw[<-List.append_assoc];exact a7,
     Z0 (RTs.ext x7 M5 M7 (RTs.ext x5 M1 M5 r1)) r7,ok4,by rw[eo,List.append_assoc],rfl,hit⟩
    ·obtain⟨o,e,dd⟩:=hT.obj _ _ st5 b hb
     exact(I7.pin (b,o) (List.mem_append_right _ (List.mem_append_right _ (Z7 hb e)))).2.1
    ·exact d7
theorem ZaO{prog:Program}{w:World}{A:Around}{R:Result->Shared->Prop}{s:Shared}{elt:Expr}{gens:List Comprehension}{scope:Scope}{pos:Pos}{d:Nat}{target iter:Expr}{ifs:List Expr}{it acc:Value}{env:PySem.Env}(hg:gens[d]?=some ⟨target,iter,ifs,0⟩)(h0:codeAny (model prog w) A (.compLoop (.ListComp elt gens scope pos) d it acc env) R s)(h:wpAny (model prog w) A (pyIter it) (λit' s'=>codeAny (model prog w) A (.compLoop (.ListComp elt gens scope pos) d it' acc env) R s') (notedBy (model prog w) A env λx s'=>R (.error x) s') s):
  codeAny (model prog w) A (.compStart (.ListComp elt gens scope pos) d it acc env) R s:=by
 refine codeAny_of_tree ?_
 show wpAny _ _ ((compStart (.ListComp elt gens scope pos) d it acc env).onRaise (λx=>do noteFrame x env;standAt theWindowsPlace)) _ _ s
 refine wpAny_notedAt ?_
 unfold compStart
 have e:(clausesOf (.ListComp elt gens scope pos))[d]?=some ⟨target,iter,ifs,0⟩:=hg
 rw[e]
 show wpAny _ _ (ask >>= _) _ _ s
 refine wpAny_bind (wpAny_askSetting (wpAny_ite ?_))
 split
 ·first
   |exact wpAny_bind (wpAny_pure (wpAny_pure (And.intro rfl h0)))
   |exact wpAny_pure (And.intro rfl h0)
 ·first
   |exact wpAny_bind (wpAny_rule (wpAny_bind (wpAny_standAt (wpAny_bind (wpAny_mono h (λit' s' h'=>wpAny_pure (And.intro rfl h')) λ_ _ x=>x)))))
   |(refine wpAny_bind (wpAny_rule ?_);show wpAny _ _ (standAt iter.pos >>= _) _ _ s;exact wpAny_bind (wpAny_standAt (wpAny_bind (wpAny_mono h (λit' s' h'=>wpAny_pure (And.intro rfl h')) λ_ _ x=>x))))
theorem Zhs{pins:List (Addr×Obj)}{s:Shared}{σ:L2.St}{H:Hp}{D:Addr}{vs:List V}{v:V}{u:Value}{E:Value->Shared->Prop}{Q:Value->Shared->Prop}(I:Inv Y pins σ H s)(f:FpOk Y pins H D)(a:AccAt s.heap D vs)(r:RelV v u)(hz:vs.length<sizeLine)(q:∀s',Inv Y pins σ H s'->AccAt s'.heap D (vs++[v])->Q .none s'):wpAny (model Y.prog Y.w) Y.A (PySem.call (.builtin "list.append") [.ref D,u]) Q E s:=by
 obtain⟨z,its,n,rv,e⟩:=a
 have hl:=rv.length
 refine call_meets F.slot_list_append ⟨_,e,rfl⟩ F.entry_list_append (F.args_list_append_2 _ _) (PySem.list_append D its.toArray n u (by rw[List.size_toArray];omega)) ⟨e,?_⟩
 have e2:=PySem.IsL.update e (·.push u)
 have hf:its.toArray.push u=(its++[u]).toArray:=by simp
 rw[hf]at e2
 obtain⟨f0,f1,f2,f3,f4,f5⟩:=f
 refine q _ (I.turned (t':=s.toks) (it:=D) (λb o hb eb=>(Heap.get?_update_other s.heap (Obj.mapSeq (·.push u)) (Ne.symm hb)).trans eb) f0 f1 f3 f4 f5) ⟨?_,its++[u],_,rv.append (.cons r .nil),e2⟩
 rw[List.length_append,List.length_singleton]
 omega
theorem ZcA{K:Frag}{cm:List Addr}{m m1:Mem}{H:Hp}{w:W}{ts:List T}(M:MemR K cm m H)(e:ZS w m=.ok ts m1):Ext cm m H cm m1 H/\MemR K cm m1 H:=by
 cases w with
 |t t =>
  unfold ZS at e
  dsimp only at e
  split at e<;>cases e
  exact⟨.refl,M⟩
 |f a=>cases e
 |x _ _ _=>cases e
 |c i =>
  unfold ZS at e
  dsimp only at e
  split at e
  ·cases e
   exact Zjj M (by assumption)
  ·cases e
theorem Ziy(hc:Y.calm=true)(hxe:∀e s,¬Y.xe e s){elt:Expr}{gens:List Comprehension}{scope:Scope}{pos:Pos}{D:Addr}:∀(inner:E) (d:Nat) (target iter:Expr) (ifs:List Expr) (tg:Tg) (cs:Es),gens[d]?=some ⟨target,iter,ifs,0⟩ ->
  PG Y target (gT Y.K tg)->PTs Y call gv xr cs ifs->Ins xr Y call gv elt gens d inner->(∀i∈tgS tg,i∉innS inner)->(∀i∈tgS tg++innS inner,i<Y.N.length) ->
  ∀{pins:List (Addr×Obj)}{s:Shared}{σ:L2.St}{H:Hp}{cm:List Addr}{m m':Mem}{env:Env}{ts out:List T}{J:It}{it:Addr}{fp:List Addr}{tn:Nat->Heap->Prop}{vs:List V},Inv Y pins σ H s->FpOk Y pins H D->AccAt s.heap D vs ->
   Turn Y.prog Y.w Y.K target J fp it tn->tn 0 s.heap->(∀b∈fp,FpOk Y pins H b)->D∉fp->EnvR Y.K cm m H env σ->(∀i∈tgS tg++innS inner,∀w,env[i]?≠some (some w))->MemR Y.K cm m H->Src Y.K cm m H J ts ->
   Xe (turnF call gv cs inner) tg ts env m=.ok out m'->vs.length+out.length<=lim ->
   codeAny (model Y.prog Y.w) Y.A (.compLoop (.ListComp elt gens scope pos) d (.ref it) (.ref D) Y.env) (λr s'=>r=.ok .next/\CEnd Y D (tgS tg++innS inner) pins σ cm m H vs out m' s') s
 |.emit a=>@λd target iter ifs tg cs hg pg pt hin hdis hlt pins s σ H cm m m' env ts out J it fp tn vs I hD ha hT h0 hf hDf hE hn M hs ok hl=>by
  obtain⟨hnx,pe⟩:=hin
  refine Zgj hc hxe (Zb2 D) (br:=do(do let _ <-PySem.call (.builtin "list.append") [.ref D,<-eval elt Y.env]);again (.compLoop (.ListComp elt gens scope pos) d (.ref it) (.ref D) Y.env)) rfl rfl (ZdK hg hnx) pg pt hdis hlt ?_ I hD ha hT h0 hf hDf hE hn M hs ok hl (Pt:=λ_=>True) (λ_ _=>trivial)
  intro pins s σ H cm m m' env out vs I hD ha hE hn M ok hl _
  obtain⟨w,m1,ok1,ok2⟩:=Zo ok
  obtain⟨rfl,rfl⟩:=Ze6 ok2
  unfold ev at ok1
  obtain⟨w1,m2,ok3,ok4⟩:=Zo ok1
  obtain⟨t,m3,ok5,ok6⟩:=Zo ok4
  cases ok6
  have hz:=ZM
  refine wpAny_bind (wpAny_bind (thn (pe_run pe (Zjt I hD ha) hE M ok3) λu s1 ⟨v,H1,I1,rv,cm1,x1,M1,r1⟩=>?_))
  obtain⟨a1,d1⟩:=ZlB ha I1 λo e=>List.mem_append_right _ (Z7 (by simp) e)
  obtain⟨x2,M2,r2⟩:=ZiT M1 r1 ok5
  have I1':Inv Y pins σ H1 s1:=I1.unpinned
  refine wpAny_bind (Zhs I1' ⟨d1,hD.2⟩ a1 rv (by simp at hl;omega) λs2 I2 a2=>wpAny_pure (wpAny_pure ⟨rfl,σ,H1,cm1,[v],I2,x1.trans x2,M2,.cons r2 .nil,a2,.refl,d1⟩))
 |.more it' tg' cs' inner'=>@λd target iter ifs tg cs hg pg pt hin hdis hlt pins s σ H cm m m' env ts out J it fp tn vs I hD ha hT h0 hf hDf hE hn M hs ok hl=>by
  obtain⟨⟨target',iter',ifs',hnx,pi,hfs,pg',pt'⟩,hdis',hlt',hin'⟩:=hin
  have rec_:=@Ziy hc hxe elt gens scope pos D inner' (d+1) target' iter' ifs' tg' cs' hnx pg' pt' hin' hdis' hlt'
  refine Zgj hc hxe (Zb2 D) rfl rfl (ZdJ hg hnx) pg pt hdis hlt ?_ I hD ha hT h0 hf hDf hE hn M hs ok hl (Pt:=λ_=>True) (λ_ _=>trivial)
  intro pins s σ H cm m m' env out vs I hD ha hE hn M ok hl _
  obtain⟨w,m1,ok1,ok2⟩:=Zo ok
  obtain⟨rfl,rfl⟩:=Ze6 ok2
  unfold ev at ok1
  obtain⟨w1,m2,ok3,ok4⟩:=Zo ok1
  obtain⟨ts',m3,ok5,ok6⟩:=Zo ok4
  obtain⟨out',m4,ok7,ok8⟩:=Zo ok6
  cases ok8
  have hz:=ZM
  refine wpAny_bind (thn (pi _ s σ H (λJ H1=>∃cm1,Ext cm m H cm1 m2 H1/\MemR Y.K cm1 m2 H1/\Src Y.K cm1 m3 H1 J ts') (Zjt I hD ha) ⟨env,cm,m,hE,M,by
   rw[ok3]
   exact λcm1 H1 x M1=>⟨ts',m3,ok5,λJ hs=>⟨cm1,x,M1,hs⟩⟩⟩) λxv s1 h1=>?_)
  refine wpAny_bind (wpAny_standAt (wpAny_bind (wpAny_of_eq (hfs xv) (wpAny_bind (wpAny_holding (thn h1 λitv s2 h2=>?_))))))
  obtain⟨it2,fp2,tn2,J2,H2,rfl,I2,T2,st2,f2,cm2,x2,M2,hs2⟩:=h2
  obtain⟨a2,d2⟩:=ZlB ha I2 λo e=>List.mem_append_right _ (Z7 (by simp) e)
  have hDf2:D∉fp2:=λz=>by
   obtain⟨_,its,n,_,e⟩:=id ha
   exact(f2 D z).2.2.2.2.2 (D,_) (List.mem_append_right _ (List.mem_append_right _ (Z7 (by simp) e))) rfl
  have f2':∀b∈fp2,FpOk Y pins H2 b:=λb hb=>⟨(f2 b hb).1,(f2 b hb).2.1,(f2 b hb).2.2.1,(f2 b hb).2.2.2.1,(f2 b hb).2.2.2.2.1,λp hp=>(f2 b hb).2.2.2.2.2 p (by rw[<-List.append_assoc];exact List.mem_append_left _ hp)⟩
  have hb3:Ext cm2 m2 H2 cm2 m3 H2/\MemR Y.K cm2 m3 H2:=ZcA M2 ok5
  have E2:EnvR Y.K cm2 m3 H2 env σ:=(hE.ext x2 M M2).ext hb3.1 M2 hb3.2
  have go:=rec_ I2.unpinned ⟨d2,hD.2⟩ a2 T2 st2 f2' hDf2 E2 hn hb3.2 hs2 ok7 hl
  have self:codeAny (model Y.prog Y.w) Y.A (.compStart (.ListComp elt gens scope pos) (d+1) (.ref it2) (.ref D) Y.env) _ s2:=ZaO hnx go (T2.self Y.A 0 s2 _ _ st2 go)
  refine wpAny_bind (wpAny_runOwn (codeAny_mono self λr s3 ⟨hr,σ3,H3,cm3,vs3,I3,x3,M3,r3,a3,ag3,d3⟩=>?_))
  subst hr
  obtain⟨x4,M4,sm⟩:=ZaJ M2 ok5 x3 M3
  exact wpAny_pure ⟨rfl,σ3,H3,cm3,vs3,I3,x2.trans x4,M4,Zh (λ_ _ z=>sm _ _ z) r3,a3,ag3,d3⟩
 |.var _=>@λd target iter ifs tg cs hg pg pt hin=>hin.elim
 |.gl _=>@λd target iter ifs tg cs hg pg pt hin=>hin.elim
 |.con _=>@λd target iter ifs tg cs hg pg pt hin=>hin.elim
 |.bin _ _ _=>@λd target iter ifs tg cs hg pg pt hin=>hin.elim
 |.neg _=>@λd target iter ifs tg cs hg pg pt hin=>hin.elim
 |.not _=>@λd target iter ifs tg cs hg pg pt hin=>hin.elim
 |.and _ _=>@λd target iter ifs tg cs hg pg pt hin=>hin.elim
 |.or _ _=>@λd target iter ifs tg cs hg pg pt hin=>hin.elim
 |.one _=>@λd target iter ifs tg cs hg pg pt hin=>hin.elim
 |.cmp _ _ _=>@λd target iter ifs tg cs hg pg pt hin=>hin.elim
 |.chn _ _ _ _ _=>@λd target iter ifs tg cs hg pg pt hin=>hin.elim
 |.ite _ _ _=>@λd target iter ifs tg cs hg pg pt hin=>hin.elim
 |.tup _=>@λd target iter ifs tg cs hg pg pt hin=>hin.elim
 |.lst _=>@λd target iter ifs tg cs hg pg pt hin=>hin.elim
 |.cel _=>@λd target iter ifs tg cs hg pg pt hin=>hin.elim
 |.celL _=>@λd target iter ifs tg cs hg pg pt hin=>hin.elim
 |.celA _ _=>@λd target iter ifs tg cs hg pg pt hin=>hin.elim
 |.dsp _ _=>@λd target iter ifs tg cs hg pg pt hin=>hin.elim
 |.ix _ _=>@λd target iter ifs tg cs hg pg pt hin=>hin.elim
 |.slc _ _ _=>@λd target iter ifs tg cs hg pg pt hin=>hin.elim
 |.rev _=>@λd target iter ifs tg cs hg pg pt hin=>hin.elim
 |.hole=>@λd target iter ifs tg cs hg pg pt hin=>hin.elim
 |.call _ _=>@λd target iter ifs tg cs hg pg pt hin=>hin.elim
 |.blt _ _=>@λd target iter ifs tg cs hg pg pt hin=>hin.elim
 |.mth _ _ _=>@λd target iter ifs tg cs hg pg pt hin=>hin.elim
 |.isi _ _=>@λd target iter ifs tg cs hg pg pt hin=>hin.elim
 |.comp _ _ _ _ _ _=>@λd target iter ifs tg cs hg pg pt hin=>hin.elim
 |.tr _=>@λd target iter ifs tg cs hg pg pt hin=>hin.elim
 |.fnv _=>@λd target iter ifs tg cs hg pg pt hin=>hin.elim
 |.callV _ _ _=>@λd target iter ifs tg cs hg pg pt hin=>hin.elim
 |.fst _=>@λd target iter ifs tg cs hg pg pt hin=>hin.elim
 |.xat _ _ _=>@λd target iter ifs tg cs hg pg pt hin=>hin.elim
 |.xis _ _ _=>@λd target iter ifs tg cs hg pg pt hin=>hin.elim
 |.gdg _ _=>@λd target iter ifs tg cs hg pg pt hin=>hin.elim
 |.ptd _ _=>@λd target iter ifs tg cs hg pg pt hin=>hin.elim
 |.gdn _ _ _=>@λd target iter ifs tg cs hg pg pt hin=>hin.elim
 |.dsn _ _=>@λd target iter ifs tg cs hg pg pt hin=>hin.elim
end
theorem Zhl{scope:Scope}{env:PySem.Env}(h:∀x,(x,NameKind.free)∈scope.names->∃c,env.cells.lookup x=some c):
  ∃cl,closureFor scope env=pure cl/\(∀x c,cl.lookup x=some c->env.cells.lookup x=some c)/\∀x,(x,NameKind.free)∈scope.names->∃c,cl.lookup x=some c:=by
 have go:∀(ns:List (Str×NameKind)) (acc:List (Str×Addr)),(∀x,(x,NameKind.free)∈ns->∃c,env.cells.lookup x=some c)->(∀x c,acc.lookup x=some c->env.cells.lookup x=some c) ->
   ∃cl,(forIn ns acc λ(x:Str×NameKind) cs=>(match x with|(name,kind)=>if(kind==NameKind.free)=true then do let a <-cellOf env name;pure (ForInStep.yield ((name,a)::cs))else pure (ForInStep.yield cs):Sem (ForInStep (List (Str×Addr)))))=pure cl /\
    (∀x c,cl.lookup x=some c->env.cells.lookup x=some c)/\(∀x,(x,NameKind.free)∈ns->∃c,cl.lookup x=some c)/\∀x c,acc.lookup x=some c->∃c,cl.lookup x=some c:=by
  intro ns
  induction ns with
  |nil=>intro acc _ h2;exact⟨acc,rfl,h2,λx hx=>absurd hx (by simp),λx c e=>⟨c,e⟩⟩
  |cons p ns ih =>
   intro acc h1 h2
   obtain⟨n,k⟩:=p
   have h1':∀x,(x,NameKind.free)∈ns->∃c,env.cells.lookup x=some c:=λx hx=>h1 x (List.mem_cons_of_mem _ hx)
   by_cases hk:k=.free
   ·subst hk
    obtain⟨c,hc⟩:=h1 n List.mem_cons_self
    have h2':∀x d,((n,c)::acc).lookup x=some d->env.cells.lookup x=some d:=λx d e=>by
     rw[List.lookup_cons]at e
     cases hx:x==n with
     |true=>rw[hx]at e;cases e;rw[eq_of_beq hx];exact hc
     |false=>rw[hx]at e;exact h2 x d e
    obtain⟨cl,e1,e2,e3,e4⟩:=ih ((n,c)::acc) h1' h2'
    refine⟨cl,?_,e2,λx hx=>?_,λx d e=>?_⟩
    ·rw[List.forIn_cons]
     simp only[beq_self_eq_true,if_true,cellOf,hc,pure_bind]
     exact e1
    ·rcases List.mem_cons.mp hx with z|z
     ·cases z
      exact e4 n c (by rw[List.lookup_cons,beq_self_eq_true])
     ·exact e3 x z
    ·by_cases hx:x=n
     ·subst hx;exact e4 x c (by rw[List.lookup_cons,beq_self_eq_true])
     ·exact e4 x d (by rw[List.lookup_cons,beq_eq_false_iff_ne.mpr hx];exact e)
   ·obtain⟨cl,e1,e2,e3,e4⟩:=ih acc h1' h2
    have hb:(k==NameKind.free)=false:=beq_eq_false_iff_ne.mpr hk
    refine⟨cl,?_,e2,λx hx=>?_,e4⟩
    ·rw[List.forIn_cons]
     simp only[hb,Bool.false_eq_true,if_false,pure_bind]
     exact e1
    ·rcases List.mem_cons.mp hx with z|z
     ·cases z;exact absurd rfl hk
     ·exact e3 x z
 obtain⟨cl,e1,e2,e3,_⟩:=go scope.names [] h (λx c e=>by simp at e)
 refine⟨cl,?_,e2,e3⟩
 unfold closureFor
 have:(forIn scope.names ([]:List (Str×Addr)) λ(x:Str×NameKind) cs=>(match x with|(name,kind)=>if(kind==NameKind.free)=true then do let a <-cellOf env name;pure (ForInStep.yield ((name,a)::cs))else pure (ForInStep.yield cs):Sem (ForInStep (List (Str×Addr))))) >>= (λcs=>pure cs)=(pure cl:Sem (List (Str×Addr))):=by rw[e1];rfl
 exact this
section
variable{xr:XR}{X:Cx}{call:Nat->List W->Mem->Res W}{gv:List T}
noncomputable abbrev Zaf(X:Cx)(N':List Str)(scope:Scope)(cl:List (Str×Addr))(C:Addr)(s2:Shared)(H2:Hp)(fp:List Addr):Cx:=
 { X with N:=N',s₀:=s2,H₀:=H2,env:=compEnvC scope cl C X.env,outer:=X.stack,stack:=X.stack,ex:=fp,fn:=λ_=>false,pn:=[],xe:=λ_ _=>False }
structure CompSc (X:Cx) (N':List Str) (scope:Scope):Prop where
 kind:scope.kind=.function
 cell:∀y∈scope.names,y.2≠NameKind.cell
 look:∀p∈scope.names,scope.names.lookup p.1=some p.2
 free:∀x,(x,NameKind.free)∈scope.names->X.env.kindOf x=some .cell∨X.env.kindOf x=some .free
theorem Zbm{scope:Scope}{env:PySem.Env}(look:∀p∈scope.names,scope.names.lookup p.1=some p.2){x:Str}{k:NameKind}(h:(relabel scope env).names.lookup x=some k):
  ∃k',scope.names.lookup x=some k'/\(k=k'∨(k'=.free/\k=.cell)):=by
 have go:∀(ns:List (Str×NameKind)),(ns.map λ(n,k)=>if(k==NameKind.free&&env.scope.kind==.function&&env.kindOf n==some .cell)then(n,NameKind.cell)else(n,k)).lookup x=some k->∃k',ns.lookup x=some k'/\(k=k'∨(k'=.free/\k=.cell)):=by
  intro ns
  induction ns with
  |nil=>intro h;simp at h
  |cons p r ih =>
   obtain⟨n,q⟩:=p
   intro h
   rw[List.map_cons]at h
   by_cases hc:(q==NameKind.free&&env.scope.kind==.function&&env.kindOf n==some .cell)=true
   ·simp only[hc,if_true]at h
    rw[List.lookup_cons]at h ⊢
    cases hx:x==n with
    |true =>
     rw[hx]at h;cases h
     rw[Bool.and_eq_true,Bool.and_eq_true]at hc
     exact⟨q,rfl,.inr ⟨eq_of_beq hc.1.1,rfl⟩⟩
    |false=>rw[hx]at h;exact ih h
   ·simp only[hc,Bool.false_eq_true,if_false]at h
    rw[List.lookup_cons]at h ⊢
    cases hx:x==n with
    |true=>rw[hx]at h;cases h;exact⟨_,rfl,.inl rfl⟩
    |false=>rw[hx]at h;exact ih h
 exact go scope.names h
theorem Zao{ns:List (Str×NameKind)}{x:Str}{k:NameKind}(h:ns.lookup x=some k):(x,k)∈ns:=PySem.mem_of_lookup h
theorem Zhi{pins:List (Addr×Obj)}{s:Shared}{σ σ':L2.St}{H:Hp}{fp:List Addr}{N':List Str}{scope:Scope}{cl:List (Str×Addr)}{C:Addr}{h1:Heap}{t:Nat}(I:Inv X pins σ H s)(S:CompSc X N' scope)(hf:∀b∈fp,FpOk X pins H b)(hlt:∀b∈fp,b<s.heap.objs.size)(hC:s.heap.objs.size<=C)(hns:∃m,h1.Ns C m)(hk:∀b o,s.heap.get? b=some o->h1.get? b=some o)(hcl1:∀x c,cl.lookup x=some c->X.env.cells.lookup x=some c)(hcl2:∀x,(x,NameKind.free)∈scope.names->∃c,cl.lookup x=some c)(hl:σ'.length=N'.length)(hσ:∀(i:Nat) (x:Str) (v:V),N'[i]?=some x->σ'[i]?=some (some v)->∃j:Nat,X.N[j]?=some x/\σ[j]?=some (some v)/\(x,NameKind.free)∈scope.names):
  Inv (Zaf X N' scope cl C s H fp) [] σ' H { s with heap:=h1,toks:=t }:=by
 have hfree:∀x k,(relabel scope X.env).names.lookup x=some k->(k=.cell∨k=.free)->(x,NameKind.free)∈scope.names:=λx k h hk'=>by
  obtain⟨k',h1,h2⟩:=Zbm S.look h
  rcases h2 with rfl|⟨rfl,_⟩
  ·rcases hk' with rfl|rfl
   ·exact absurd rfl (S.cell _ (Zao h1))
   ·exact Zao h1
  ·exact Zao h1
 obtain⟨mm,hns⟩:=hns
 refine⟨⟨I.ok.mod,S.kind,I.ok.glob,I.ok.blt,hC,λx y c e1 e2=>I.ok.inj x y c (hcl1 x c e1) (hcl1 y c e2),λx hx=>?_,λx c h=>?_,I.ok.hd,I.ok.frames,.inl rfl,λb hb=>⟨Nat.ne_of_lt (Nat.lt_of_lt_of_le (hlt b hb) hC),λx c e=>(hf b hb).2.2.2.2.1 x c (hcl1 x c e)⟩,I.bs,Nat.le_trans I.ok.bsz I.sz,λb o e hb=>?_,λb hb z=>?_,I.stack,I.stkFree⟩,
  rfl,I.bare,Un.kept hk,⟨mm,hns,λi x v e1 e2 e3=>?_⟩,λx c e=>?_,I.hok.fresh hC,λx c e=>I.freeC x c (hcl1 x c e),λp hp=>absurd (show p∈([]:List (Addr×Obj))from hp) (by simp),I.hok.kept hk,hl⟩
 ·rcases hx with hx|hx
  ·exact hcl2 x (hfree x _ hx (.inl rfl))
  ·exact hcl2 x (hfree x _ hx (.inr rfl))
 ·exact absurd (show false=true from h) Bool.false_ne_true
 ·rcases(hf b hb).2.2.2.1 with z|z
  ·exact I.ok.noex b o e z
  ·exact absurd (Nat.lt_of_lt_of_le (Heap.lt_size e) (Nat.le_trans I.ok.bsz z)) (Nat.lt_irrefl _)
 ·rcases List.mem_cons.mp (I.stkSub b z)with q|q
  ·exact(hf b hb).2.1 q
  ·exact(hf b hb).2.2.1 q
 ·obtain⟨j,h1',h2',h3'⟩:=hσ i x v e1 e2
  obtain⟨m0,hn0,hl0⟩:=I.loc
  have kx:=S.free x h3'
  obtain⟨u,ru,lu⟩:=hl0 j x v h1' h2' (kx.elim (λz=>.inr (.inl z)) λz=>.inr (.inr z))
  refine⟨u,ru,.inr ?_⟩
  obtain⟨c,ec,ic⟩:∃c,X.env.cells.lookup x=some c/\s.heap.IsCell c (some u):=by
   rcases lu with⟨q,_⟩|⟨_,c,q1,q2⟩
   ·rcases kx with z|z
    ·rw[z]at q;cases q
    ·rw[z]at q;cases q
   ·exact⟨c,q1,q2⟩
  obtain⟨c',ec'⟩:=hcl2 x h3'
  have:c'=c:=by
   have:=hcl1 x c' ec'
   rw[ec]at this;exact(Option.some.inj this).symm
  subst this
  obtain⟨o,ho,hd⟩:=ic
  refine⟨?_,c',ec',o,hk _ _ ho,hd⟩
  rcases e3 with e3|e3|e3
  ·obtain⟨k',q1,q2⟩:=Zbm S.look e3
   rw[S.look _ h3']at q1;cases q1
   rcases q2 with q2|⟨_,q2⟩<;>cases q2
  ·exact .inl e3
  ·exact .inr e3
 ·obtain⟨v,o,ho,hd⟩:=I.cell x c (hcl1 x c e)
  exact⟨v,o,hk _ _ ho,hd⟩
theorem Zhh{pins:List (Addr×Obj)}{s s':Shared}{σ σ':L2.St}{H H':Hp}{fp:List Addr}{N':List Str}{scope:Scope}{cl:List (Str×Addr)}{C:Addr}(I:Inv X pins σ H s)(hf:∀b∈fp,FpOk X pins H b)(J:Inv (Zaf X N' scope cl C s H fp) [] σ' H' s'):
  Inv X pins σ H' s':=
 I.call' J.os J.base J.hok J.bare λb hb=>⟨(hf b hb).2.2.2.1,(hf b hb).2.1,(hf b hb).2.2.2.2.1,(hf b hb).2.2.2.2.2⟩
theorem Inv.adopt{pins:List (Addr×Obj)}{s:Shared}{σ:L2.St}{H:Hp}{D:Addr}{vs:List V}(I:Inv X pins σ H s)(f:FpOk X pins H D)(a:AccAt s.heap D vs):Inv X pins σ (upd H D (.lst vs)) s:=by
 obtain⟨f0,f1,f2,f3,f4,f5⟩:=f
 have hne:∀b u,H b=some u->b≠D:=λb u e z=>by subst z;rw[f0]at e;cases e
 refine I.call' (ch:=[D]) rfl ⟨λb o e _ _ _=>e,λb o e _ _ _=>⟨o.slots,e⟩,λb o e n hx=>by rw[Zi (by simpa using hx)];exact n,λb o e _=>⟨o,e⟩,λb xs e=>by rw[Zi (hne b _ e)];exact e,λb o u e=>by rw[Zi (hne b _ e)];exact e,
  λb ps e=>⟨#[],by rw[Zi (hne b _ e),e];simp⟩⟩ (λb u e=>?_) I.bare λb hb=>?_
 ·by_cases hb:b=D
  ·subst hb
   rw[Zk]at e;cases e
   exact a
  ·rw[Zi hb]at e
   exact(I.hok b u e).stay (λ_ _ _ q=>q) (λc q=>by rw[Zi (hne c _ q)];exact q) λc xs q=>by rw[Zi (hne c _ q)];exact q
 ·have e:b=D:=by simpa using hb
  subst e
  exact⟨f3,f1,f4,f5⟩
noncomputable def Zjx(X:Cx)(xr:XR)(call:Nat->List W->Mem->Res W)(gv:List T)(N':List Str)(scope:Scope)(elt target:Expr)(ifs:List Expr)(gens:List Comprehension)(tg:Tg)(cs:Es)(inner:E):Prop:=
 ∀(cl:List (Str×Addr)) (C:Addr) (s2:Shared) (H2:Hp) (fp:List Addr),PG (Zaf X N' scope cl C s2 H2 fp) target (gT X.K tg)/\PTs (Zaf X N' scope cl C s2 H2 fp) call gv xr cs ifs/\Ins xr (Zaf X N' scope cl C s2 H2 fp) call gv elt gens 0 inner
noncomputable def envC(own:Nat)(keep:List Nat)(env:Env):Env:=List.replicate own none++keep.map λi=>(env[i]?).join
noncomputable def stC(own:Nat)(keep:List Nat)(σ:L2.St):L2.St:=List.replicate own none++keep.map λi=>(σ[i]?).join
theorem envC_R{K:Frag}{cm:List Addr}{m:Mem}{H:Hp}{env:Env}{σ:L2.St}{own:Nat}{keep:List Nat}(h:EnvR K cm m H env σ):EnvR K cm m H (envC own keep env) (stC own keep σ):=λi w e=>by
 unfold envC at e
 unfold stC
 by_cases hi:i<own
 ·rw[List.getElem?_append_left (by simpa using hi),List.getElem?_replicate]at e
  split at e<;>cases e
 ·rw[List.getElem?_append_right (by simpa using hi),List.length_replicate,List.getElem?_map]at e
  rw[List.getElem?_append_right (by simpa using hi),List.length_replicate,List.getElem?_map]
  cases q:keep[i-own]? with
  |none=>rw[q]at e;cases e
  |some j =>
   rw[q]at e
   have e':(env[j]?).join=some w:=Option.some.inj e
   cases r:env[j]? with
   |none=>rw[r]at e';cases e'
   |some o =>
    rw[r]at e'
    have e2:o=some w:=e'
    subst e2
    obtain⟨v,h1,h2⟩:=h j w r
    exact⟨v,by simp[h1],h2⟩
theorem Zgg{α:Type}{r:Res α}{x:α}{m:Mem}(h:r.only=.ok x m):r=.ok x m:=by
 cases r with
 |ok _ _=>exact h
 |exc _ _=>cases h
 |stuck=>cases h
theorem ZcZ{α β:Type}{r:Res α}{f:α->Mem->Res β}(hf:∀x m e m',f x m≠.exc e m')(e:Exc)(m':Mem):r.only.bind f≠.exc e m':=by
 cases r with
 |ok x m=>exact hf x m e m'
 |exc _ _=>intro h;cases h
 |stuck=>intro h;cases h
theorem Zda{own:Nat}{keep:List Nat}{it:E}{tg:Tg}{cs:Es}{inner:E}{env:Env}{m:Mem}(e:Exc)(m':Mem):ev call gv (.comp own keep it tg cs inner) env m≠.exc e m':=by
 unfold ev
 refine ZcZ (λx m0 e m'=>?_) e m'
 cases h:ZS x m0 with
 |ok ts m1 =>
  refine ZcZ (λout m2 e m'=>?_) e m'
  split<;>(intro h;cases h)
 |exc _ _ =>
  unfold ZS at h
  split at h<;>first
   |(cases h;done)
   |(split at h<;>cases h)
 |stuck=>intro h;cases h
theorem ZeT{own:Nat}{keep:List Nat}{it:E}{tg:Tg}{cs:Es}{inner:E}{env:Env}{m m':Mem}{w:W}(h:ev call gv (.comp own keep it tg cs inner) env m=.ok w m'):∃out,w=.t (.lst out):=by
 unfold ev at h
 obtain⟨_,_,_,h⟩:=Zo h
 obtain⟨_,_,_,h⟩:=Zo h
 obtain⟨out,_,_,h⟩:=Zo h
 split at h<;>cases h
 exact⟨_,rfl⟩
theorem ZeU{elt target iter:Expr}{ifs:List Expr}{gs:List Comprehension}{scope:Scope}{pos pos':Pos}{N':List Str}{own:Nat}{keep:List Nat}{it:E}{tg:Tg}{cs:Es}{inner:E}{use:Option (Value->Sem Unit)}(hc:X.calm=true)(S:CompSc X N' scope)(hown:N'.length=own+keep.length)(hkeep:∀(i:Nat) x,N'[own+i]?=some x->∃j,keep[i]?=some j/\X.N[j]?=some x/\(x,NameKind.free)∈scope.names)(hlocal:∀x∈scope.names,x.2=NameKind.local->scope.names.lookup x.1=some .local)(pi:PI X target iter (tI X.K call gv xr it))(hfs:∀x,foldedSetIterable iter X.env x=pure x)(hY:Zjx X xr call gv N' scope elt target ifs (⟨target,iter,ifs,0⟩::gs) tg cs inner)(hdis:∀i∈tgS tg,i∉innS inner)(hsl:∀i∈tgS tg++innS inner,i<own){pins:List (Addr×Obj)}{s:Shared}{σ:L2.St}{H:Hp}{cm:List Addr}{m m':Mem}{env:Env}{out:List T}{Q:Value->Shared->Prop}(I:Inv X pins σ H s)(hE:EnvR X.K cm m H env σ)(M:MemR X.K cm m H)(ok:ev call gv (.comp own keep it tg cs inner) env m=.ok (.t (.lst out)) m')(fin:∀(D C:Addr) (s3:Shared) (H3:Hp) (cm3:List Addr) (vs:List V),Inv X pins σ (upd H3 D (.lst vs)) s3->H3 D=none->X.K.lookup D=none->Ext cm m H cm3 m' H3->MemR X.K cm3 m' H3->RTs X.K cm3 m' H3 out vs->(∃mm,s3.heap.Ns C mm)->FpOk X pins (upd H3 D (.lst vs)) C ->
   compPost (model X.prog X.w) X.A X.xe use Q (.ref D) C (.ok .next) s3):
  wpAny (model X.prog X.w) X.A (comprehension (.ListComp elt (⟨target,iter,ifs,0⟩::gs) scope pos) scope X.env pos' (newList []) false (eval iter X.env) use) Q X.xe s:=by
 obtain⟨cl,hclos,hcl1,hcl2⟩:=Zhl (scope:=scope) (env:=X.env) λx hx=>I.ok.has x (S.free x hx)
 unfold ev at ok
 obtain⟨w1,m1,ok0,ok2⟩:=Zo ok
 have ok1:=Zgg ok0
 obtain⟨ts,m2,ok3,ok4⟩:=Zo ok2
 obtain⟨out',m3,ok5,ok6⟩:=Zo ok4
 split at ok6<;>cases ok6
 rename_i hlen
 have ok5':Xe (turnF call gv cs inner) tg ts (envC own keep env) m2=.ok out m3:=Zgg ok5
 have hz:=ZM
 refine wpAny_comprehension_free rfl hfs hclos S.kind hlocal (thn (pi pins s σ H (λJ H1=>∃cm1,Ext cm m H cm1 m1 H1/\MemR X.K cm1 m1 H1/\Src X.K cm1 m2 H1 J ts) I ⟨env,cm,m,hE,M,by
   rw[ok1]
   exact λcm1 H1 x M1=>⟨ts,m2,ok3,λJ hs=>⟨cm1,x,M1,hs⟩⟩⟩) λxv s1 h1=>thn h1 λitv s2 h2=>?_)
 obtain⟨it2,fp,tn,J,H2,rfl,I2,T2,st2,f2,cm2,x2,M2,hs2⟩:=h2
 refine wpAny_newObj_type (wpAny_newFunctionEnv S.cell (by intro y hy;simp at hy) (λh₁ hns₁ hsb₁=>?_) S.kind)
 dsimp only at hns₁ hsb₁ ⊢
 generalize hH2:s2.heap.push { cls:=.type "list",dict:=none,data:=.seq ([]:List Value).toArray }=P2 at hns₁ hsb₁ ⊢
 have hCs:P2.objs.size=s2.heap.objs.size+1:=by rw[<-hH2,Heap.size_push]
 have hDC:s2.heap.objs.size≠P2.objs.size:=by omega
 have below:∀b,b<s2.heap.objs.size->b≠P2.objs.size:=λb hb=>by omega
 have old:∀b o,s2.heap.get? b=some o->h₁.get? b=some o:=λb o e=>hsb₁.extBut b o (below b (Heap.lt_size e)) (Heap.get?_push_of_some _ (hH2▸Heap.get?_push_of_some _ e))
 have hacc:h₁.get? s2.heap.objs.size=some { cls:=.type "list",data:=.seq ([]:List Value).toArray }:=hsb₁.extBut _ _ hDC (Heap.get?_push_of_some _ (hH2▸Heap.get?_push_size _ rfl))
 have flt:∀b∈fp,b<s2.heap.objs.size:=λb hb=>by
  obtain⟨o,e,_⟩:=T2.obj _ _ st2 b hb
  exact Heap.lt_size e
 have hb3:=ZcA M2 ok3
 have E2:EnvR X.K cm2 m2 H2 env σ:=(hE.ext x2 M M2).ext hb3.1 M2 hb3.2
 have hσl:(stC own keep σ).length=N'.length:=by unfold stC;simp[hown]
 have J0:Inv (Zaf X N' scope cl P2.objs.size s2 H2 fp) [] (stC own keep σ) H2 { s2 with heap:=h₁,toks:=s2.toks+([]:List (Str×Value)).length }:=
  Zhi I2 S f2 flt (by omega) ⟨_,hns₁⟩ old hcl1 hcl2 hσl λi x v e1 e2=>by
   unfold stC at e2
   by_cases hi:i<own
   ·rw[List.getElem?_append_left (by simpa using hi),List.getElem?_replicate]at e2
    split at e2<;>cases e2
   ·rw[List.getElem?_append_right (by simpa using hi),List.length_replicate,List.getElem?_map]at e2
    have ei:N'[own+(i-own)]?=some x:=by rw[show own+(i-own)=i by omega];exact e1
    obtain⟨j,q1,q2,q3⟩:=hkeep (i-own) x ei
    rw[q1]at e2
    have e3:(σ[j]?).join=some v:=Option.some.inj e2
    refine⟨j,q2,?_,q3⟩
    cases r:σ[j]? with
    |none=>rw[r]at e3;cases e3
    |some o=>rw[r]at e3;exact congrArg some e3
 obtain⟨pg,pt,hin⟩:=hY cl P2.objs.size s2 H2 fp
 have fD:FpOk (Zaf X N' scope cl P2.objs.size s2 H2 fp) [] H2 s2.heap.objs.size:=by
  refine⟨I2.hok.fresh (Nat.le_refl _),hDC,λz=>?_,.inr (Nat.le_refl _),λx c e z=>?_,λp hp=>absurd (show p∈([]:List (Addr×Obj))from hp) (by simp)⟩
  ·have:=I2.stkSub _ z
   rcases List.mem_cons.mp this with q|q
   ·exact absurd I2.lt (by rw[<-q];exact Nat.lt_irrefl _)
   ·exact I2.nofs (Nat.le_refl _) q
  ·obtain⟨v,q⟩:=I2.cell x c (hcl1 x c e)
   exact absurd q.lt (by rw[z];exact Nat.lt_irrefl _)
 have fF:∀b∈fp,FpOk (Zaf X N' scope cl P2.objs.size s2 H2 fp) [] H2 b:=λb hb=>by
  refine⟨(f2 b hb).1,below b (flt b hb),λz=>?_,.inl hb,λx c e=>(f2 b hb).2.2.2.2.1 x c (hcl1 x c e),λp hp=>absurd (show p∈([]:List (Addr×Obj))from hp) (by simp)⟩
  rcases List.mem_cons.mp (I2.stkSub b z)with q|q
  ·exact(f2 b hb).2.1 q
  ·exact(f2 b hb).2.2.1 q
 have st2':tn 0 h₁:=T2.keep _ _ _ st2 λb _ o e=>old b o e
 have hDf:s2.heap.objs.size∉fp:=λz=>absurd (flt _ z) (Nat.lt_irrefl _)
 have hnone:∀i∈tgS tg++innS inner,∀w,(envC own keep env)[i]?≠some (some w):=λi hi w e=>by
  unfold envC at e
  rw[List.getElem?_append_left (by simpa using hsl i hi),List.getElem?_replicate]at e
  split at e<;>cases e
 have go:=Ziy (Y:=Zaf X N' scope cl P2.objs.size s2 H2 fp) (xr:=xr) (call:=call) (gv:=gv) hc (λ_ _ z=>z) (elt:=elt) (scope:=scope) (pos:=pos) (D:=s2.heap.objs.size) inner 0 target iter ifs tg cs rfl pg pt hin hdis (λi hi=>by
  show i<N'.length
  rw[hown]
  have:=hsl i hi
  omega) J0 fD (vs:=[]) ⟨Nat.zero_le _,[],0,.nil,hacc⟩ T2 st2' fF hDf (envC_R E2) hnone hb3.2 hs2 ok5' (by rw[List.length_nil,Nat.zero_add];exact hlen)
 have fine:∀r s3,(r=.ok .next/\CEnd (Zaf X N' scope cl P2.objs.size s2 H2 fp) s2.heap.objs.size (tgS tg++innS inner) [] (stC own keep σ) cm2 m2 H2 [] out m3 s3)->compPost (model X.prog X.w) X.A X.xe use Q (.ref s2.heap.objs.size) P2.objs.size r s3:=λr s3 ⟨hr,σ3,H3,cm3,vs3,J3,x3,M3,r3,a3,ag3,d3⟩=>by
  subst hr
  rw[List.nil_append]at a3
  obtain⟨x4,M4,sm⟩:=ZaJ M2 ok3 x3 M3
  have I3:Inv X pins σ H3 s3:=Zhh I2 f2 J3
  have fX:∀b,s2.heap.objs.size<=b->∀H',H' b=none->FpOk X pins H' b:=λb hb H' hn=>I2.fpOk hb hn
  obtain⟨mm,hmm,_⟩:=J3.loc
  have neC:P2.objs.size≠s2.heap.objs.size:=Ne.symm hDC
  refine fin s2.heap.objs.size P2.objs.size s3 H3 cm3 vs3 (Inv.adopt I3 (fX _ (Nat.le_refl _) _ d3) a3) d3 ?_ (x2.trans x4) M4 (Zh (λ_ _ z=>sm _ _ z) r3) ⟨mm,hmm⟩ (fX _ (by omega) _ ?_)
  ·cases q:X.K.lookup s2.heap.objs.size with
   |none=>rfl
   |some o=>exact absurd (Heap.lt_size (I2.kIn _ _ q)) (Nat.lt_irrefl _)
  ·rw[Zi neC];exact J3.free
 exact codeAny_mono (ZaO (gens:=⟨target,iter,ifs,0⟩::gs) rfl go (T2.self X.A 0 { s2 with heap:=h₁,toks:=s2.toks+([]:List (Str×Value)).length } _ _ st2' go)) fine
structure CompK (X:Cx) (xr:XR) (call:Nat->List W->Mem->Res W) (gv:List T) (N':List Str) (scope:Scope) (own:Nat) (keep:List Nat) (elt target iter:Expr) (ifs:List Expr) (gs:List Comprehension) (it:E) (tg:Tg) (cs:Es) (inner:E):Prop where
 sc:CompSc X N' scope
 hown:N'.length=own+keep.length
 hkeep:∀(i:Nat) x,N'[own+i]?=some x->∃j,keep[i]?=some j/\X.N[j]?=some x/\(x,NameKind.free)∈scope.names
 pi:PI X target iter (tI X.K call gv xr it)
 fs:∀x,foldedSetIterable iter X.env x=pure x
 ins:Zjx X xr call gv N' scope elt target ifs (⟨target,iter,ifs,0⟩::gs) tg cs inner
 dis:∀i∈tgS tg,i∉innS inner
 slt:∀i∈tgS tg++innS inner,i<own
variable{elt target iter:Expr}{ifs:List Expr}{gs:List Comprehension}{scope:Scope}{pos:Pos}{N':List Str}{own:Nat}{keep:List Nat}{it:E}{tg:Tg}{cs:Es}{inner:E}
theorem Zfw(hc:X.calm=true)(k:CompK X xr0 call gv N' scope own keep elt target iter ifs gs it tg cs inner):
  PE X (.ListComp elt (⟨target,iter,ifs,0⟩::gs) scope pos) (tE X.K call gv xr (.comp own keep it tg cs inner)):=by
 rintro pins s σ H Q I ⟨env,cm,m,hE,M,ho⟩
 cases h:ev call gv (.comp own keep it tg cs inner) env m with
 |stuck=>rw[h]at ho;exact ho.elim
 |exc e m'=>exact absurd h (Zda e m')
 |ok w m' =>
  obtain⟨out,rfl⟩:=ZeT h
  rw[h]at ho
  rw[eval_ListComp]
  refine ZeU (use:=none) hc k.sc k.hown k.hkeep (λx hx e=>by rw[k.sc.look x hx,e]) k.pi k.fs k.ins k.dis k.slt I hE M h ?_
  rintro D C s3 H3 cm3 vs I3 hD _ x3 M3 r3 ⟨mm,hm⟩ fC
  refine⟨mm,hm,λh' hs'=>?_⟩
  have I4:Inv X pins σ (upd H3 D (.lst vs)) { s3 with heap:=h' }:=I3.turned (t':=s3.toks) (it:=C) (λb o hb e=>(hs'.2 b hb).trans e) fC.1 fC.2.1 fC.2.2.2.1 fC.2.2.2.2.1 fC.2.2.2.2.2
  exact⟨.ref D,_,I4,rfl,OkR.to ho (x3.trans (.new hD)) (M3.new hD) _ (RT.newLst M3 r3 hD)⟩
theorem ZkN{i:Nat}{x:Str}{px spos:Pos}(hc:X.calm=true)(k:CompK X xr0 call gv N' scope own keep elt target iter ifs gs it tg cs inner)(hN:X.N.Nodup)(hi:X.N[i]?=some x)(hx:X.env.scope.names.lookup x=some .local)(hsw:swapsWith (.ListComp elt (⟨target,iter,ifs,0⟩::gs) scope pos) (some (.Name x px)) spos.line X.env=pure true){pins:List (Addr×Obj)}{s:Shared}{σ:L2.St}{H:Hp}{cm:List Addr}{m m':Mem}{env:Env}{out:List T}{D:Ends}(I:Inv X pins σ H s)(hE:EnvR X.K cm m H env σ)(M:MemR X.K cm m H)(ok:ev call gv (.comp own keep it tg cs inner) env m=.ok (.t (.lst out)) m')(q:∀(p:Addr) (H3:Hp) (cm3:List Addr) (vs:List V),H3 p=none->X.K.lookup p=none->Ext cm m H cm3 m' H3->MemR X.K cm3 m' H3->RTs X.K cm3 m' H3 out vs->D.nx (σ.set i (some (.ref p))) (upd H3 p (.lst vs))):
  wpAny (model X.prog X.w) X.A (exec (.Assign [.Name x px] (.ListComp elt (⟨target,iter,ifs,0⟩::gs) scope pos) spos) X.env) (SP X pins D) X.xe s:=by
 rw[exec_Assign_Name_used _ _ _ _ hsw]
 refine wpAny_bind (wpAny_standAt (wpAny_bind ?_))
 show wpAny _ _ (do let _ <-comprehension (.ListComp elt (⟨target,iter,ifs,0⟩::gs) scope pos) scope X.env _ (newList []) false (eval iter X.env) (some (assign (.Name x px) X.env))) _ _ s
 refine wpAny_bind (thn (ZeU (use:=some (assign (.Name x px) X.env)) (Q:=λ_ s'=>SP X pins D .next s') hc k.sc k.hown k.hkeep (λx hx e=>by rw[k.sc.look x hx,e]) k.pi k.fs k.ins k.dis k.slt I hE M ok ?_) λ_ s' h=>wpAny_pure (wpAny_pure h))
 rintro p C s3 H3 cm3 vs I3 hD hK x3 M3 r3 ⟨mm,hm⟩ fC
 show wpAny _ _ (assign (.Name x px) X.env (.ref p)) _ _ s3
 refine wpAny_assign_Name (Zeb I3 hN hi (.inl hx) (v:=.ref p) rfl (λs4 I4 ⟨a,hs4,ha⟩=>?_) (.inr hx))
 have hac:C≠a:=by
  rcases ha with rfl|ha
  ·exact fC.2.1
  ·exact λz=>fC.2.2.2.2.1 x a ha z.symm
 refine⟨mm,hm.sameBut hs4 hac,λh' hs'=>?_⟩
 have I5:Inv X pins (σ.set i (some (.ref p))) (upd H3 p (.lst vs)) { s4 with heap:=h' }:=I4.turned (t':=s4.toks) (it:=C) (λb o hb e=>(hs'.2 b hb).trans e) fC.1 fC.2.1 fC.2.2.2.1 fC.2.2.2.2.1 fC.2.2.2.2.2
 exact⟨_,_,I5,q p H3 cm3 vs hD hK x3 M3 r3⟩
end
section
variable{K:Frag}{cm:List Addr}{m:Mem}{H:Hp}{xr:XR}{X:Cx}{call:Nat->List W->Mem->Res W}{gv:List T}
theorem RTs.nil_iff{ts:List T}{vs:List V}(h:RTs K cm m H ts vs):(!ts.isEmpty)=!vs.isEmpty:=by cases h<;>rfl
theorem tru_of{w:W}{v:V}{t:T}(M:MemR K cm m H)(r:RW K cm m H w v)(e:view w m=some t)(f:fitT t=true):TruV K v H (ZcN t):=by
 have hz:=ZM
 cases t with
 |lst ts =>
  obtain⟨a,vs,rfl,h1,h2⟩:=ZK M r e
  exact .inl ⟨vs,.of h1,h2.nil_iff⟩
 |non=>cases(Zd r e (λ_ z=>by cases z)).vnon;exact rfl
 |bl b=>cases(Zd r e (λ_ z=>by cases z)).vbl;exact rfl
 |int i=>cases(Zd r e (λ_ z=>by cases z)).vint;exact rfl
 |str cs =>
  cases(Zd r e (λ_ z=>by cases z)).vstr
  have hl:cs.length<=lim:=of_decide_eq_true f
  refine⟨by rw[J8];omega,?_⟩
  rw[J8]
  cases cs with
  |nil=>rfl
  |cons c cs =>
   show true=_
   symm
   simp
   omega
 |tup ts =>
  obtain⟨a,vs,rfl,h1,h2⟩:=(Zd r e (λ_ z=>by cases z)).itup
  exact .inr (.inl ⟨vs,h1,h2.nil_iff⟩)
 |dct ks ts =>
  have h:=Zd r e (λ_ z=>by cases z)
  cases h with
  |@dct a ks ts vs h1 h2 h3 h4 h5 =>
   refine .inr (.inr ⟨_,h1,?_⟩)
   cases ks with
   |nil=>rfl
   |cons k ks =>
    cases vs with
    |nil=>simp at h3
    |cons v vs=>rfl
 |scr ns =>
  obtain⟨a,rfl,h1⟩:=(Zd r e (λ_ z=>by cases z)).vscr
  exact .inl ⟨_,h1.sq,by cases ns<;>rfl⟩
theorem ZhD{w:W}{k:Bool->List Addr->Mem->Hp->Prop}(h:OkR K (ZQ w m) xr cm m H k):∃t,view w m=some t/\fitT t=true/\OkR K (.ok (ZcN t) m) xr cm m H k:=by
 unfold ZQ at h
 split at h
 ·split at h
  ·exact⟨_,‹_›,‹_›,h⟩
  ·exact h.elim
 ·exact h.elim
theorem ZdN{w:W}{k:Bool->List Addr->Mem->Hp->Prop}(h:OkR K (ZcB w m) xr cm m H k):∃b,w=.t (.bl b)/\OkR K (.ok b m) xr cm m H k:=by
 unfold ZcB at h
 split at h
 ·exact⟨_,rfl,h⟩
 ·exact h.elim
theorem pt_of{e:Expr}{a:E}(h:PE X e (tE X.K call gv xr a))(he:∀whole,isTrue e X.env whole=(do let v <-whole;standAt e.pos;holding [v] (truthy v))):PT X e (tT X.K call gv xr a):=by
 refine PT.mono (ZjR h he) λσ H Q ⟨env,cm,m,hE,M,ho⟩=>⟨env,cm,m,hE,M,ho.bind.mono λw cm1 m1 H1 x1 M1 o1 v rv=>?_⟩
 obtain⟨t,e1,f1,o2⟩:=ZhD o1
 exact⟨ZcN t,tru_of M1 rv e1 f1,OkR.now o2 M1⟩
theorem ZmB{a b:Expr}{rest:List Expr}{pos:Pos}{ea eb:E}(ha:PE X a (tE X.K call gv xr ea))(hb:PE X (.BoolOp .And (b::rest) pos) (tE X.K call gv xr eb)):PE X (.BoolOp .And (a::b::rest) pos) (tE X.K call gv xr (.and ea eb)):=by
 refine PE.mono (pe_and ha hb) ?_
 rintro σ H Q ⟨env,cm,m,hE,M,ho⟩
 unfold ev at ho
 refine⟨env,cm,m,hE,M,ho.bind.mono λw cm1 m1 H1 x1 M1 o1 v rv=>?_⟩
 obtain⟨c,rfl,o2⟩:=ZdN o1.bind
 cases RT.vbl rv
 have o3:=OkR.now o2 M1
 refine⟨c,rfl,?_⟩
 cases c with
 |true=>exact iteT ⟨env,cm1,m1,hE.ext x1 M M1,M1,o3⟩
 |false=>exact iteF (OkR.now o3 M1 _ (.bl false))
theorem pe_orW{a b:Expr}{rest:List Expr}{pos:Pos}{ea eb:E}(ha:PE X a (tE X.K call gv xr ea))(hb:PE X (.BoolOp .Or (b::rest) pos) (tE X.K call gv xr eb)):PE X (.BoolOp .Or (a::b::rest) pos) (tE X.K call gv xr (.or ea eb)):=by
 refine PE.mono (pe_or ha hb) ?_
 rintro σ H Q ⟨env,cm,m,hE,M,ho⟩
 unfold ev at ho
 refine⟨env,cm,m,hE,M,ho.bind.mono λw cm1 m1 H1 x1 M1 o1 v rv=>?_⟩
 obtain⟨c,rfl,o2⟩:=ZdN o1.bind
 cases RT.vbl rv
 have o3:=OkR.now o2 M1
 refine⟨c,rfl,?_⟩
 cases c with
 |true=>exact iteT (OkR.now o3 M1 _ (.bl true))
 |false=>exact iteF ⟨env,cm1,m1,hE.ext x1 M M1,M1,o3⟩
theorem Zmk{a:Expr}{pos:Pos}{ea:E}(ha:PE X a (tE X.K call gv xr ea)):PE X (.UnaryOp .Not a pos) (tE X.K call gv xr (.not ea)):=by
 refine PE.mono (pe_not ha) ?_
 rintro σ H Q ⟨env,cm,m,hE,M,ho⟩
 unfold ev at ho
 refine⟨env,cm,m,hE,M,ho.bind.mono λw cm1 m1 H1 x1 M1 o1 v rv=>?_⟩
 obtain⟨c,rfl,o2⟩:=ZdN o1.bind
 cases RT.vbl rv
 exact⟨c,rfl,OkR.now (OkR.now o2 M1) M1 _ (.bl _)⟩
theorem Zfc{a:E}{σ:L2.St}{H:Hp}{env:Env}{cm:List Addr}{m:Mem}{f:Bool->Mem->Res W}{Q:Bool->Hp->Prop}(hE:EnvR K cm m H env σ)(M:MemR K cm m H)(ho:OkR K (((ev call gv a env m).bind λx m=>(ZcB x m).bind f).bind ZQ) xr cm m H λk _ _ H'=>Q k H'):
  tT K call gv xr a σ H λc H1=>∃cm1 m1,Ext cm m H cm1 m1 H1/\MemR K cm1 m1 H1/\OkR K ((f c m1).bind ZQ) xr cm1 m1 H1 λk _ _ H'=>Q k H':=by
 refine⟨env,cm,m,hE,M,?_⟩
 cases h:ev call gv a env m with
 |stuck=>rw[h]at ho;exact ho.elim
 |exc e m'=>rw[h]at ho;exact ho
 |ok w m1 =>
  rw[h]at ho
  have ho':OkR K (((ZcB w m1).bind f).bind ZQ) xr cm m H λk _ _ H'=>Q k H':=ho
  cases w with
  |f a=>exact ho'.elim
  |x _ _ _=>exact ho'.elim
  |c i=>exact ho'.elim
  |t x =>
   cases x with
   |bl b=>exact λcm1 H1 x1 M1=>⟨cm1,m1,x1,M1,OkR.shift ho' x1⟩
   |_=>exact ho'.elim
theorem ZlY{a b:Expr}{rest:List Expr}{pos:Pos}{ea eb:E}(ha:PT X a (tT X.K call gv xr ea))(hb:PW X (.BoolOp .And (b::rest) pos) (tT X.K call gv xr eb)):PW X (.BoolOp .And (a::b::rest) pos) (tT X.K call gv xr (.and ea eb)):=by
 rintro whole pins s σ H Q I ⟨env,cm,m,hE,M,ho⟩
 unfold ev at ho
 obtain⟨env',cm',m',hE',M',ho'⟩:=Zfc hE M ho
 refine pw_and ha hb whole pins s σ H Q I ⟨env',cm',m',hE',M',ho'.mono λc cm1 m1 H1 _ _ ⟨cm2,m2,x2,M2,o2⟩=>?_⟩
 cases c with
 |true=>exact iteT ⟨env,cm2,m2,hE.ext x2 M M2,M2,o2⟩
 |false=>exact iteF (OkR.now (show OkR X.K (.ok false m2) xr cm2 m2 H1 _ from o2) M2)
theorem pw_orW{a b:Expr}{rest:List Expr}{pos:Pos}{ea eb:E}(ha:PT X a (tT X.K call gv xr ea))(hb:PW X (.BoolOp .Or (b::rest) pos) (tT X.K call gv xr eb)):PW X (.BoolOp .Or (a::b::rest) pos) (tT X.K call gv xr (.or ea eb)):=by
 rintro whole pins s σ H Q I ⟨env,cm,m,hE,M,ho⟩
 unfold ev at ho
 obtain⟨env',cm',m',hE',M',ho'⟩:=Zfc hE M ho
 refine pw_or ha hb whole pins s σ H Q I ⟨env',cm',m',hE',M',ho'.mono λc cm1 m1 H1 _ _ ⟨cm2,m2,x2,M2,o2⟩=>?_⟩
 cases c with
 |true=>exact iteT (OkR.now (show OkR X.K (.ok true m2) xr cm2 m2 H1 _ from o2) M2)
 |false=>exact iteF ⟨env,cm2,m2,hE.ext x2 M M2,M2,o2⟩
theorem Zl0{a:Expr}{pos:Pos}{ea:E}(ha:PT X a (tT X.K call gv xr ea)):PT X (.UnaryOp .Not a pos) (tT X.K call gv xr (.not ea)):=by
 refine PT.mono (pt_not ha) ?_
 rintro σ H Q ⟨env,cm,m,hE,M,ho⟩
 unfold ev at ho
 obtain⟨env',cm',m',hE',M',ho'⟩:=Zfc hE M ho
 exact⟨env',cm',m',hE',M',ho'.mono λc cm1 m1 H1 _ _ ⟨cm2,m2,x2,M2,o2⟩=>OkR.now (show OkR X.K (.ok (!c) m2) xr cm2 m2 H1 _ from o2) M2⟩
end
end Mi
namespace Mi
open PySem PySem.Spec PyProof.Rows L2
open Builtin
theorem ZbD:fillsNumberSlot (.type "tuple") "mul" = pure false:=
 PySem.fillsNumberSlot_seq (id:="tuple.__mul__") (r:=some (.builtin "tuple.__rmul__")) F.slot_tuple_mul.lookup (by decide +kernel) F.slot_tuple_rmul.lookup (by decide +kernel)
theorem Zej:seqRepeat? (.type "tuple")=pure (some (.builtin "tuple.__mul__")):=by
 unfold seqRepeat?
 rw[PySem.seqSlot_of (T:="tuple") (name:="__mul__") (id:="tuple.__mul__") F.slot_tuple_mul.lookup (by decide +kernel),PySem.seqSlot_of (T:="tuple") (name:="__rmul__") (id:="tuple.__rmul__") F.slot_tuple_rmul.lookup (by decide +kernel)]
 rfl
theorem ZgH(a:Int)(t:Tok)(l:Addr)(items:Array Value)(n:Nat)(dd:Option Addr)(sl:Array (Option Value)):
  Meets (Builtin.«int.__rmul__» ⟨[.int a t,.ref l],[]⟩) (λ_ R s=>s.heap.get? l=some { cls:=.type "tuple",dict:=dd,data:=.seq items n,slots:=sl }/\R (.ok (.ret Value.notImplemented)) s):=
 .of_wp λprog w A R s h=>by obtain⟨hp,g,d,tk,os⟩:=s;obtain⟨hl,h⟩:=h;wp_walk;exact⟨_,rfl,h⟩
theorem tmul0(l:Addr)(items:Array Value)(n:Nat)(dd:Option Addr)(sl:Array (Option Value))(k:Int)(u:Tok)(h1:(decide (k < -(2^63)) || decide (k ≥ 2^63))=false)(hc:(items.isEmpty || k==1)=true):
  Meets (Builtin.«tuple.__mul__» ⟨[.ref l,.int k u],[]⟩) (λ_ R s=>s.heap.get? l=some { cls:=.type "tuple",dict:=dd,data:=.seq items n,slots:=sl }/\R (.ok (.ret (Value.ref l))) s):=
 .of_wp λprog w A R s h=>by obtain⟨hp,g,d,tk,os⟩:=s;obtain⟨hl,h⟩:=h;have f1:=AutoSeq1.idx_int;have f2:=AutoSeq1.sub_tuple_tuple;wp_walk;refine wpAny_ite_false (decide_eq_false (Bool.eq_false_iff.mp h1)) ?_;wp_walk using wpAny_loadPart' hl;exact⟨_,rfl,h⟩
theorem tmul1(l:Addr)(items:Array Value)(n:Nat)(dd:Option Addr)(sl:Array (Option Value))(k:Int)(u:Tok)(h1:(decide (k < -(2^63)) || decide (k ≥ 2^63))=false)(hc:¬(items.isEmpty || k==1)=true)(hc1:(decide (k<=0) || items.isEmpty)=true):
  Meets (Builtin.«tuple.__mul__» ⟨[.ref l,.int k u],[]⟩) (λ_ R s=>s.heap.get? l=some { cls:=.type "tuple",dict:=dd,data:=.seq items n,slots:=sl }/\R (.ok (.ret (Value.ref s.heap.objs.size))) { s with heap:=s.heap.push { cls:=Value.type "tuple",data:=Data.seq #[] },toks:=s.toks }):=
 .of_wp λprog w A R s h=>by obtain⟨hp,g,d,tk,os⟩:=s;obtain⟨hl,h⟩:=h;have f1:=AutoSeq1.idx_int;have f2:=AutoSeq1.sub_tuple_tuple;wp_walk;refine wpAny_ite_false (decide_eq_false (Bool.eq_false_iff.mp h1)) ?_;wp_walk using wpAny_loadPart' hl;exact⟨_,rfl,h⟩
theorem tmul2(l:Addr)(items:Array Value)(n:Nat)(dd:Option Addr)(sl:Array (Option Value))(k:Int)(u:Tok)(h1:(decide (k < -(2^63)) || decide (k ≥ 2^63))=false)(hc:¬(items.isEmpty || k==1)=true)(hc1:¬(decide (k<=0) || items.isEmpty)=true)(hc2:¬(items.size:Int)*k>(2^63-1) / 8)(hc3:¬Tuple.tupleTooMany ((items.size:Int)*k)=true)(hz:(List.foldl (λx1 x2=>x1++x2) #[] (List.replicate k.toNat items)).size<=sizeLine):
  Meets (Builtin.«tuple.__mul__» ⟨[.ref l,.int k u],[]⟩) (λ_ R s=>s.heap.get? l=some { cls:=.type "tuple",dict:=dd,data:=.seq items n,slots:=sl }/\R (.ok (.ret (Value.ref s.heap.objs.size))) { s with heap:=s.heap.push { cls:=Value.type "tuple",data:=Data.seq (List.foldl (λx1 x2=>x1++x2) #[] (List.replicate k.toNat items)) },toks:=s.toks }):=
 .of_wp λprog w A R s h=>by obtain⟨hp,g,d,tk,os⟩:=s;obtain⟨hl,h⟩:=h;have f1:=AutoSeq1.idx_int;have f2:=AutoSeq1.sub_tuple_tuple;wp_walk;refine wpAny_ite_false (decide_eq_false (Bool.eq_false_iff.mp h1)) ?_;wp_walk using wpAny_loadPart' hl;refine wpAny_ite_false (decide_eq_false hc2) ?_;wp_walk using wpAny_loadPart' hl;exact⟨_,rfl,h⟩
section
variable{X:Cx}
theorem ZgD{n:Nat}(h:n<=sizeLine):¬Tuple.tupleTooMany (n:Int)=true:=by
 unfold Tuple.tupleTooMany
 intro hc
 have:=of_decide_eq_true hc
 have e:=sizeLine_eq
 omega
theorem ZmE:OpR X (binaryOp .Mult) (λx y H Q=>∃l k xs,x=.ref l/\y=.int k/\SqT X.K H l xs/\(-(2^63)<=k/\k<2^63)/\xs.length*k.toNat<=sizeLine/\((xs=[]∨k=1)->Q (.ref l) H) /\
  (¬(xs=[]∨k=1)->∀p,H p=none->Q (.ref p) (upd H p (.tup (List.replicate k.toNat xs).flatten)))):=by
 intro pins s σ H x y v u Q I rx ry h
 obtain⟨l,k,xs,rfl,rfl,hH,⟨h1,h2⟩,hz,q1,q2⟩:=h
 cases rx
 obtain⟨t,rfl⟩:=ry
 obtain⟨its,r,⟨⟨cls,dd,data,sl⟩,ho,hc,n,hd⟩,hz2⟩:=I.tuple hH
 simp only at hc hd
 subst hc hd
 have hl:=r.length
 have g1:(decide (k < -(2^63)) || decide (k ≥ 2^63))=false:=by
  rw[decide_eq_false (by omega),decide_eq_false (by omega)];rfl
 have road:∀{Q':Value->Shared->Prop},wpAny (model X.prog X.w) X.A (call (.builtin "tuple.__mul__") [.ref l,.int k t]) Q' X.xe s->wpAny (model X.prog X.w) X.A (binaryOp .Mult (.ref l) (.int k t)) Q' X.xe s:=λhq =>
  wpAny_binaryOp_repeat_ref (T:="tuple") (U:="int") (by decide) ⟨_,ho,rfl⟩ (λs'=>typeIs_int s' k t) ZbD F.fills_int_mul F.slot_int_rmul Zej F.slot_int_index.lookup
   (call_meets F.slot_int_rmul (typeIs_int s k t) F.entry_int_rmul (F.args_int_rmul_2 _ _) (ZgH k t l its.toArray n dd sl) ⟨ho,rfl,⟨_,ho,rfl⟩,hq⟩)
 refine road ?_
 by_cases hc:xs=[]∨k=1
 ·have g2:(its.toArray.isEmpty || k==1)=true:=by
   rcases hc with rfl|rfl
   ·cases r;rfl
   ·simp
  exact call_meets F.slot_tuple_mul ⟨_,ho,rfl⟩ F.entry_tuple_mul (F.args_tuple_mul_2 _ _) (tmul0 l its.toArray n dd sl k t g1 g2) ⟨ho,.ref l,H,I,rfl,q1 hc⟩
 ·have hne:its≠[]:=λe=>hc (.inl (r.nil_iff.mp e))
  have g2:¬(its.toArray.isEmpty || k==1)=true:=by
   intro hh
   rw[Bool.or_eq_true]at hh
   rcases hh with hh|hh
   ·exact hne (by simpa using hh)
   ·exact hc (.inr (eq_of_beq hh))
  have fin:∀arr:Array Value,arr=(List.replicate k.toNat its).flatten.toArray->EP X pins σ Q (.ref s.heap.objs.size) { s with heap:=s.heap.push { cls:=.type "tuple",data:=.seq arr } }:=λarr e=>by
   subst e
   refine⟨.ref s.heap.objs.size,_,I.laid (t':=s.toks) (o:=.tup (List.replicate k.toNat xs).flatten) (λb ob q=>Heap.get?_push_of_some _ q) (Nat.le_refl _) ?_,rfl,q2 hc _ (I.hok.fresh (Nat.le_refl _))⟩
   exact⟨by rw[len_rep,Nat.mul_comm];exact hz,_,r.rep k.toNat,TupP.new _ _⟩
  by_cases h0:k<=0
  ·have g3:(decide (k<=0) || its.toArray.isEmpty)=true:=by rw[decide_eq_true h0];rfl
   refine call_meets F.slot_tuple_mul ⟨_,ho,rfl⟩ F.entry_tuple_mul (F.args_tuple_mul_2 _ _) (tmul1 l its.toArray n dd sl k t g1 g2 g3) ⟨ho,fin #[] ?_⟩
   have:k.toNat=0:=by omega
   rw[this];rfl
  ·have g3:¬(decide (k<=0) || its.toArray.isEmpty)=true:=by
    intro hh
    rw[Bool.or_eq_true]at hh
    rcases hh with hh|hh
    ·exact h0 (of_decide_eq_true hh)
    ·exact hne (by simpa using hh)
   have hk:(k.toNat:Int)=k:=by omega
   have hs:(its.toArray.size:Int)*k=((xs.length*k.toNat:Nat):Int):=by
    rw[List.size_toArray,<-hl,Int.natCast_mul,hk]
   have hsl:(sizeLine:Nat)=16777216:=sizeLine_eq
   have hf:List.foldl (λx1 x2=>x1++x2) #[] (List.replicate k.toNat its.toArray)=(List.replicate k.toNat its).flatten.toArray:=by
    have:=foldl_rep its k.toNat []
    rw[List.nil_append]at this
    exact this
   refine call_meets F.slot_tuple_mul ⟨_,ho,rfl⟩ F.entry_tuple_mul (F.args_tuple_mul_2 _ _) (tmul2 l its.toArray n dd sl k t g1 g2 g3 (by rw[hs];omega) (by rw[hs];exact ZgD hz) ?_) ⟨ho,fin _ hf⟩
   rw[hf,List.size_toArray,len_rep,<-hl,Nat.mul_comm]
   exact hz
end
end Mi
namespace Mi
open PySem PySem.Spec PyProof.Rows L2
section
variable{K:Frag}{cm:List Addr}{m:Mem}{H:Hp}{xr:XR}{X:Cx}{call:Nat->List W->Mem->Res W}{gv:List T}
theorem Zmg{i:Nat}{x:Str}{pos:Pos}(hN:X.N[i]?=some x)(hv:Vis X.env.scope x)(hd:(x==("__debug__" : Str))=false)(hcd:(x==("__classdict__" : Str))=false):PE X (.Name x pos) (tE X.K call gv xr (.var i)):=by
 refine PE.mono (ZcW hN hv hd hcd) ?_
 rintro σ H Q ⟨env,cm,m,hE,M,ho⟩
 unfold ev at ho
 split at ho
 ·rename_i w e
  obtain⟨v,h1,h2⟩:=hE i w e
  exact⟨v,h1,OkR.now ho M v h2⟩
 ·exact ho.elim
noncomputable def Q0(K:Frag)(mg:Str->Option Value)(x:Str)(t:T):Prop:=∃u v,mg x=some u/\RelV v u/\∀cm m H,RT K cm m H t v
theorem J1{k:Nat}{x:Str}{t:T}{pos:Pos}(hg:Gl X x)(hk:gv[k]?=some t)(ok:Q0 X.K X.mg x t)(hd:(x==("__debug__" : Str))=false):PE X (.Name x pos) (tE X.K call gv xr (.gl k)):=by
 obtain⟨u,v,h1,h2,h3⟩:=ok
 refine PE.mono (QH hg h1 h2 hd) ?_
 rintro σ H Q ⟨env,cm,m,hE,M,ho⟩
 unfold ev at ho
 rw[hk]at ho
 exact OkR.now (a:=W.t t) ho M v (h3 cm m H)
theorem Zmr{i:Int}{j pos}:PE X (.Constant (.int i) j pos) (tE X.K call gv xr (.con (.int i))):=PE.mono Zlb λσ H Q ⟨env,cm,m,hE,M,ho⟩=>by
 unfold ev at ho
 exact OkR.now ho M _ (.int i)
theorem pe_blW{b:Bool}{j pos}:PE X (.Constant (.bool b) j pos) (tE X.K call gv xr (.con (.bl b))):=PE.mono pe_bl λσ H Q ⟨env,cm,m,hE,M,ho⟩=>by
 unfold ev at ho
 exact OkR.now ho M _ (.bl b)
theorem Zml{j pos}:PE X (.Constant .none j pos) (tE X.K call gv xr (.con .non)):=PE.mono pe_non λσ H Q ⟨env,cm,m,hE,M,ho⟩=>by
 unfold ev at ho
 exact OkR.now ho M _ .non
theorem Zea{x:Str}{cs:List Nat}(h:x.cps.toList=cs):x=⟨cs.toArray⟩:=by
 subst h
 cases x
 simp
theorem Zmi{x:Str}{cs:List Nat}{j pos}(h:x.cps.toList=cs):PE X (.Constant (.str x) j pos) (tE X.K call gv xr (.con (.str cs))):=PE.mono Zla λσ H Q ⟨env,cm,m,hE,M,ho⟩=>by
 unfold ev at ho
 have:=OkR.now ho M _ (.str cs)
 rw[Zea h]
 exact this
theorem Zgo(cs:List Nat):∀(n:Nat) (acc:Array Nat),(List.replicate n cs.toArray).foldl (·++·) acc=acc++(List.replicate n cs).flatten.toArray
 |0,acc=>by simp
 |n+1,acc=>by
  rw[List.replicate_succ,List.foldl_cons,Zgo cs n,List.replicate_succ,List.flatten_cons]
  apply Array.toList_inj.mp
  simp
theorem Zkn{cs:List Nat}{k:Int}(h:0<=k):Txt.mul ⟨cs.toArray⟩ k=⟨(repT cs k.toNat).toArray⟩:=by
 unfold Txt.mul repT
 by_cases h1:k<1
 ·have:k=0:=by omega
  subst this
  rw[if_pos h1]
  rfl
 ·rw[if_neg h1]
  by_cases h2:(k==1 || (⟨cs.toArray⟩:Str).length==0)=true
  ·rw[if_pos h2]
   rcases Bool.or_eq_true _ _▸h2 with h3|h3
   ·have:k=1:=eq_of_beq h3
    subst this
    simp
   ·have hl:cs.toArray.size=0:=eq_of_beq h3
    have:cs=[]:=by simpa using hl
    subst this
    simp
  ·rw[if_neg h2,Zgo]
   simp
theorem mul_fits{cs:List Nat}{k:Int}(h:0<=k/\k<=64)(hl:cs.length<=1000):MulOk ⟨cs.toArray⟩ k:=by
 have e:(⟨cs.toArray⟩:Str).length=cs.length:=by show cs.toArray.size=_;simp
 have hk:k.toNat<=64:=by omega
 have hm:cs.length*k.toNat<=1000*64:=Nat.mul_le_mul hl hk
 refine⟨?_,λh1 _=>?_,λh1 _=>?_⟩
 ·have a:¬k < -(2^63:Int):=by omega
  have b:¬k ≥ (2^63:Int):=by omega
  simp only[a,b,decide_false,Bool.or_self]
 ·rw[e]
  have:(1000:Int)<=(2^63-1) / k:=(Int.le_ediv_iff_mul_le (by omega)).mpr (by omega)
  omega
 ·rw[e]
  unfold Builtin.Str.tooLong
  have:=ZM
  unfold lim at this
  exact decide_eq_false (by omega)
theorem ZgW:OpR X (binaryOp .Mult) (r2 X.K xr (fBin .Mult)):=by
 rintro pins s σ H x y v u Q I rx ry ⟨cm,m,a,b,M,ra,rb,ho⟩
 obtain⟨t,e,ho⟩:=Qm ho
 obtain⟨ta,tb,ea,eb,e⟩:=ZcM e
 change mulT ta tb=some t at e
 unfold mulT at e
 split at e
 rotate_left
 ·cases e
 rename_i k
 split at e
 ·split at e<;>cases e
  cases(Zd ra ea (λ_ z=>by cases z)).vint
  cases(Zd rb eb (λ_ z=>by cases z)).vint
  exact ZmH pins s σ H _ _ v u Q I rx ry ⟨_,_,rfl,rfl,‹_›,ans ho M (.int _)⟩
 ·split at e<;>cases e
  rename_i ts hc
  obtain⟨p,vs,rfl,h1,r1⟩:=(Zd ra ea (λ_ z=>by cases z)).itup
  cases(Zd rb eb (λ_ z=>by cases z)).vint
  have l1:=r1.length
  have hz:=ZM
  have hl:(lim:Int)<2^63:=by unfold lim;decide
  refine ZmE pins s σ H _ _ v u Q I rx ry ⟨p,_,vs,rfl,rfl,h1,by omega,by rw[<-l1];omega,λhq=>?_,λ_ l hl=>Zdf ho M (Za2 r1 _) hl⟩
  have e:repT ts k.toNat=ts:=by
   rcases hq with rfl|rfl
   ·cases r1;simp[repT]
   ·simp[repT]
  rw[e]at ho
  exact ans ho M (.mtup h1 r1)
 ·split at e<;>cases e
  rename_i hc
  obtain⟨p,vs,rfl,h1,r1⟩:=ZK M ra ea
  cases(Zd rb eb (λ_ z=>by cases z)).vint
  have l1:=r1.length
  have hz:=ZM
  have hl:(lim:Int)<2^63:=by unfold lim;decide
  exact op_rep pins s σ H _ _ v u Q I rx ry ⟨p,_,vs,rfl,rfl,h1,by omega,by omega,by rw[<-l1];omega,λl hl=>Zdg ho M (Za2 r1 _) hl⟩
 ·split at e<;>cases e
  rename_i cs hc
  cases(Zd ra ea (λ_ z=>by cases z)).vstr
  cases(Zd rb eb (λ_ z=>by cases z)).vint
  obtain⟨tx,rfl⟩:=rx
  obtain⟨ty,rfl⟩:=ry
  refine SB.mul (mul_fits hc.1 hc.2) λt' k'=>⟨.str ⟨(repT cs k.toNat).toArray⟩,H,I.tok _,⟨t',?_⟩,ans ho M (.str _)⟩
  rw[Zkn hc.1.1]
 all_goals cases e
theorem op_no{op:Operator}(h:∀x y,binT op x y=none):OpR X (binaryOp op) (r2 X.K xr (fBin op)):=by
 rintro pins s σ H x y v u Q I rx ry ⟨cm,m,a,b,M,ra,rb,ho⟩
 obtain⟨t,e,ho⟩:=Qm ho
 obtain⟨ta,tb,ea,eb,e⟩:=ZcM e
 rw[h]at e
 cases e
theorem op_bin(op:Operator):OpR X (binaryOp op) (r2 X.K xr (fBin op)):=by
 cases op<;>first|exact ZgY|exact ZgU|exact ZgW|exact Zfx|exact ZgX|exact ZgV|exact op_no λx y=>by cases x<;>cases y<;>rfl
variable{a b c:Expr}{ea eb ec:E}{pos:Pos}
theorem ZmA{op:Operator}(ha:PE X a (tE X.K call gv xr ea))(hb:PE X b (tE X.K call gv xr eb)):PE X (.BinOp a op b pos) (tE X.K call gv xr (.bin op ea eb)):=
 PE.mono (pe_op (op_bin op) ha hb) (ZjI λenv m=>by rw[ev];rfl)
noncomputable def fNeg(x:W)(m:Mem):Res W:=pur ((view x m).bind λx=>match x with
 |.int i=>some (.int (-i))
 |_=>none) m
theorem ZlL:UnR X (unaryOp .USub) (r1 X.K xr fNeg):=by
 rintro pins s σ H x v Q I rx ⟨cm,m,a,M,ra,ho⟩
 obtain⟨t,e,ho⟩:=Qm ho
 cases q:view a m with
 |none=>rw[q]at e;cases e
 |some ta =>
  rw[q]at e
  cases ta with
  |int i =>
   cases e
   cases(Zd ra q (λ_ z=>by cases z)).vint
   exact un_neg pins s σ H _ v Q I rx ⟨_,rfl,ans ho M (.int _)⟩
  |_=>cases e
theorem Zmm(ha:PE X a (tE X.K call gv xr ea)):PE X (.UnaryOp .USub a pos) (tE X.K call gv xr (.neg ea)):=
 PE.mono (pe_un ZlL ha) (t1_of λenv m=>by rw[ev];rfl)
theorem Zmv{op:CmpOp}(ha:PE X a (tE X.K call gv xr ea))(hb:PE X b (tE X.K call gv xr eb))(hm:behindInMarks op b=false)(hu:X.A.units+64<cLine):PE X (.Compare a [op] [b] pos) (tE X.K call gv xr (.cmp op ea eb)):=
 PE.mono (Zmw (ZcY hu op) ha hb hm) (ZjI λenv m=>by rw[ev];rfl)
theorem ZiX{op:CmpOp}{x y w:W}{m m':Mem}(h:fCmp op x y m=.ok w m'):∃k,w=.t (.bl k)/\m'=m:=by
 unfold fCmp at h
 cases q:((view x m).bind λx=>(view y m).bind λy=>cmpT op x y)with
 |none=>rw[q]at h;cases h
 |some k=>rw[q]at h;cases h;exact⟨k,rfl,rfl⟩
theorem Zfo{f:Env->Mem->Res W}{e:Expr}{te:TE}{a:E}(h:PT X e (ZlP te))(hk:∀env m w m',ev call gv a env m=.ok w m'->∃k,w=.t (.bl k))(he:∀σ H Q,tE X.K call gv xr a σ H Q->te σ H Q):PT X e (tT X.K call gv xr a):=by
 refine PT.mono h λσ H Q ⟨env,cm,m,hE,M,ho⟩=>he σ H _ ⟨env,cm,m,hE,M,?_⟩
 cases q:ev call gv a env m with
 |stuck=>rw[q]at ho;exact ho.elim
 |exc e m'=>rw[q]at ho;exact ho
 |ok w m' =>
  obtain⟨k,rfl⟩:=hk env m w m' q
  rw[q]at ho
  intro cm1 H1 x1 M1 v rv
  cases RT.vbl rv
  exact⟨k,rfl,(show OkR X.K (.ok k m') xr cm m H _ from ho) cm1 H1 x1 M1⟩
theorem Zl3{op:CmpOp}(ha:PE X a (tE X.K call gv xr ea))(hb:PE X b (tE X.K call gv xr eb))(hm:behindInMarks op b=false)(hu:X.A.units+64<cLine):PT X (.Compare a [op] [b] pos) (tT X.K call gv xr (.cmp op ea eb)):=by
 refine Zfo (f:=λ_ _=>.stuck) (Zl4 (ZcY hu op) ha hb hm) (λenv m w m' h=>?_) (ZjI λenv m=>by rw[ev];rfl)
 rw[ev]at h
 obtain⟨x,m1,_,h⟩:=Zo h
 obtain⟨y,m2,_,h⟩:=Zo h
 obtain⟨k,hk,_⟩:=ZiX h
 exact⟨k,hk⟩
theorem Zly{op op':CmpOp}(σ:L2.St)(H:Hp)(Q:VK)(q:tE X.K call gv xr (.chn op op' ea eb ec) σ H Q):
  ZhH (r2 X.K xr (fCmp op)) (r2 X.K xr (fCmp op')) (tE X.K call gv xr ea) (tE X.K call gv xr eb) (tE X.K call gv xr ec) σ H Q:=by
 obtain⟨env,cm,m,hE,hM,ho⟩:=q
 rw[ev]at ho
 refine⟨env,cm,m,hE,hM,ho.bind.mono λw cm1 m1 H1 x1 M1 o1 v rv=>?_⟩
 refine⟨env,cm1,m1,hE.ext x1 hM M1,M1,o1.bind.mono λw2 cm2 m2 H2 x2 M2 o2 v2 rv2=>?_⟩
 refine⟨cm2,m2,w,w2,M2,rv.ext x2 M1 M2,rv2,?_⟩
 split at o2
 ·rename_i e
  have e1:fCmp op w w2 m2=.ok (.t (.bl true)) m2:=by unfold fCmp;rw[e];rfl
  rw[e1]
  intro cm3 H3 x3 M3 v3 rv3
  cases RT.vbl rv3
  refine⟨true,rfl,iteT ?_⟩
  refine⟨env,cm3,m2,(hE.ext (x1.trans (x2.trans x3)) hM M3),M3,(OkR.shift o2 x3).bind.mono λw4 cm4 m4 H4 x4 M4 o4 v4 rv4=>?_⟩
  exact⟨cm4,m4,w2,w4,M4,(rv2.ext x3 M2 M3).ext x4 M3 M4,rv4,o4⟩
 ·rename_i e
  have e1:fCmp op w w2 m2=.ok (.t (.bl false)) m2:=by unfold fCmp;rw[e];rfl
  rw[e1]
  intro cm3 H3 x3 M3 v3 rv3
  cases RT.vbl rv3
  exact⟨false,rfl,iteF (OkR.to o2 x3 M3 _ (.bl false))⟩
 ·exact o2.elim
theorem Zmx{op op':CmpOp}(ha:PE X a (tE X.K call gv xr ea))(hb:PE X b (tE X.K call gv xr eb))(hc:PE X c (tE X.K call gv xr ec))(hm:lastMarks [op,op'] [b,c]=false)(hu:X.A.units+64<cLine):
 PE X (.Compare a [op,op'] [b,c] pos) (tE X.K call gv xr (.chn op op' ea eb ec)):=PE.mono (Zkg (ZcY hu op) (ZcY hu op') ha hb hc hm) Zly
theorem Zl5{op op':CmpOp}(ha:PE X a (tE X.K call gv xr ea))(hb:PE X b (tE X.K call gv xr eb))(hc:PE X c (tE X.K call gv xr ec))(hm:lastMarks [op,op'] [b,c]=false)(hu:X.A.units+64<cLine):
  PT X (.Compare a [op,op'] [b,c] pos) (tT X.K call gv xr (.chn op op' ea eb ec)):=by
 refine Zfo (f:=λ_ _=>.stuck) (ZjS (ZcY hu op) (ZcY hu op') ha hb hc hm) (λenv m w m' h=>?_) Zly
 rw[ev]at h
 obtain⟨x,m1,_,h⟩:=Zo h
 obtain⟨y,m2,_,h⟩:=Zo h
 split at h
 ·obtain⟨z,m3,_,h⟩:=Zo h
  obtain⟨k,hk,_⟩:=ZiX (op:=op') (x:=y) (y:=z) h
  exact⟨k,hk⟩
 ·cases h;exact⟨_,rfl⟩
 ·cases h
theorem pe_ixW(ha:PE X a (tE X.K call gv xr ea))(hb:PE X b (tE X.K call gv xr eb))(hs:Zju b):PE X (.Subscript a b pos) (tE X.K call gv xr (.ix ea eb)):=
 PE.mono (pe_ix ix_ix ha hb hs) (ZjI λenv m=>by rw[ev];rfl)
end
section
variable{K:Frag}{cm:List Addr}{m:Mem}{H:Hp}{xr:XR}{X:Cx}{call:Nat->List W->Mem->Res W}{gv:List T}
variable{a b c e:Expr}{es:List Expr}{ea eb ec:E}{eas:Es}{pos p:Pos}
noncomputable def notStar:Expr->Bool
 |.Starred _ _=>false
 |_=>true
theorem Qd{env:PySem.Env}(h:notStar e=true):starEach (e::es) env=(false,eval e env)::starEach es env:=by
 cases e<;>first|rfl|cases h
theorem ZhM{env:PySem.Env}:∀{es:List Expr},es.all notStar=true->(backTo pos (starEach es env)).all (λx=>!x.1)=true
 |[],_=>rfl
 |e::es,h=>by
  rw[List.all_cons,Bool.and_eq_true]at h
  rw[Qd h.1]
  show(!false&&(backTo pos (starEach es env)).all (λx=>!x.1))=true
  rw[ZhM h.2]
  rfl
theorem Zar{env:PySem.Env}{es:List Expr}(h:es.all notStar=true):(backTo pos (starEach es env)).any (·.1)=false:=by
 have h1:=ZhM (pos:=pos) (env:=env) h
 rw[List.any_eq_false]
 intro x hx
 have:=List.all_eq_true.mp h1 x hx
 simpa using this
theorem Zil:PA X [] (tA X.K call gv xr .nil):=PA.mono Xb λσ H Q ⟨env,cm,m,hE,M,ho⟩=>by
 rw[evs]at ho
 exact OkR.now ho M [] .nil
theorem Zgf(ha:PE X e (tE X.K call gv xr ea))(hr:PA X es (tA X.K call gv xr eas))(hs:notStar e=true):PA X (e::es) (tA X.K call gv xr (.cons ea eas)):=by
 refine PA.mono (QX ha hr (Qd hs)) ?_
 rintro σ H Q ⟨env,cm,m,hE,M,ho⟩
 rw[evs]at ho
 refine⟨env,cm,m,hE,M,ho.bind.mono λw cm1 m1 H1 x1 M1 o1 v rv=>?_⟩
 exact⟨env,cm1,m1,hE.ext x1 M M1,M1,o1.bind.mono λws cm2 m2 H2 x2 M2 o2 vs rvs=>OkR.now o2 M2 (v::vs) (.cons (rv.ext x2 M1 M2) rvs)⟩
theorem ZeO{w:W}{m m':Mem}{x:Exc}:frz w m≠.exc x m':=by
 intro h
 unfold frz at h
 split at h
 ·cases h
 ·cases h
 ·cases h
 ·split at h<;>cases h
theorem XS:∀{ws:List W}{m m':Mem}{x:Exc},frzs ws m≠.exc x m'
 |[],_,_,_=>λh=>by cases h
 |w::ws,m,m',x=>λh=>by
  rw[frzs]at h
  cases q:frz w m with
  |stuck=>rw[q]at h;cases h
  |exc y m1=>exact ZeO q
  |ok t m1 =>
   rw[q]at h
   have h':((frzs ws m1).bind λts m=>Res.ok (t::ts) m)=.exc x m':=h
   cases q2:frzs ws m1 with
   |stuck=>rw[q2]at h';cases h'
   |exc y m2=>exact XS q2
   |ok ts m2=>rw[q2]at h';cases h'
theorem Xj:∀{ws:List W}{vs:List V}{ts:List T}{m m':Mem},MemR K cm m H->RWs K cm m H ws vs->frzs ws m=.ok ts m'->Ext cm m H cm m' H/\MemR K cm m' H/\RTs K cm m' H ts vs
 |[],_,_,_,_,M,.nil,e=>by cases e;exact⟨.refl,M,.nil⟩
 |w::ws,v::vs,ts,m,m',M,.cons r rs,e=>by
  rw[frzs]at e
  obtain⟨t,m1,e1,e⟩:=Zo e
  obtain⟨us,m2,e2,e⟩:=Zo e
  cases e
  obtain⟨x1,M1,r1⟩:=ZiT M r e1
  obtain⟨x2,M2,r2⟩:=Xj M1 (RWs.ext x1 M M1 rs) e2
  exact⟨x1.trans x2,M2,.cons (RT.ext x2 M1 M2 r1) r2⟩
theorem ZbV{α:Type}{ws:List W}{f:List T->Mem->Res α}{k:α->List Addr->Mem->Hp->Prop}(h:OkR K ((frzs ws m).bind f) xr cm m H k):∃ts m',frzs ws m=.ok ts m'/\OkR K (f ts m') xr cm m H k:=by
 cases q:frzs ws m with
 |stuck=>rw[q]at h;exact h.elim
 |exc x m'=>exact absurd q XS
 |ok ts m'=>rw[q]at h;exact⟨ts,m',rfl,h⟩
theorem ZaG{α:Type}{c:Prop}[Decidable c]{r:Res α}{k:α->List Addr->Mem->Hp->Prop}(h:OkR K (if c then r else .stuck) xr cm m H k):c/\OkR K r xr cm m H k:=by
 by_cases hc:c
 ·rw[if_pos hc]at h;exact⟨hc,h⟩
 ·rw[if_neg hc]at h;exact h.elim
theorem Zmh{x1}(h:PA X es (tA X.K call gv xr eas)):PE X (.Tuple es x1 pos) (tE X.K call gv xr (.tup eas)):=by
 refine PE.mono (Zk9 h) ?_
 rintro σ H Q ⟨env,cm,m,hE,M,ho⟩
 rw[ev]at ho
 refine⟨env,cm,m,hE,M,ho.bind.mono λws cm1 m1 H1 x1 M1 o1 vs rvs=>?_⟩
 obtain⟨ts,m2,e2,o2⟩:=ZbV o1
 obtain⟨hl,o3⟩:=ZaG o2
 obtain⟨x2,M2,r2⟩:=Xj M1 rvs e2
 have l2:=r2.length
 have hz:=ZM
 exact⟨by omega,λp hp=>Zdf (OkR.shift o3 x2) M2 r2 hp⟩
theorem Zmn(h:PA X es (tA X.K call gv xr eas)):PE X (.List es pos) (tE X.K call gv xr (.lst eas)):=by
 refine PE.mono (Zgd h) ?_
 rintro σ H Q ⟨env,cm,m,hE,M,ho⟩
 rw[ev]at ho
 refine⟨env,cm,m,hE,M,ho.bind.mono λws cm1 m1 H1 x1 M1 o1 vs rvs=>?_⟩
 obtain⟨ts,m2,e2,o2⟩:=ZbV o1
 obtain⟨hl,o3⟩:=ZaG o2
 obtain⟨x2,M2,r2⟩:=Xj M1 rvs e2
 have l2:=r2.length
 have hz:=ZM
 exact⟨by omega,λp hp=>Zdg (OkR.shift o3 x2) M2 r2 hp⟩
noncomputable def tLstN(K:Frag)(t:TA):TE:=λσ H Q=>t σ H λxs H1=>xs.length<=sizeLine/\∀p,H1 p=none->K.lookup p=none->Q (.ref p) (upd H1 p (.lst xs))
theorem Inv.notK{pins:List (Addr×Obj)}{σ:L2.St}{H:Hp}{s:Shared}(I:Inv X pins σ H s):X.K.lookup s.heap.objs.size=none:=by
 cases q:X.K.lookup s.heap.objs.size with
 |none=>rfl
 |some o=>exact absurd (Heap.lt_size (I.kIn _ _ q)) (Nat.lt_irrefl _)
theorem Zmo{t:TA}(h:PA X es t):PE X (.List es pos) (tLstN X.K t):=by
 intro pins s σ H Q I hq
 refine wpAny_List_spliced (thn (h pos pins s σ H _ I hq) λus s1 ⟨xs,H1,I1,r,z,q⟩=>⟨by rw[<-r.length];exact z,?_⟩)
 have hf:H1 s1.heap.objs.size=none:=I1.hok.fresh (Nat.le_refl _)
 refine⟨.ref s1.heap.objs.size,upd H1 s1.heap.objs.size (.lst xs),I1.laid (t':=s1.toks) (λb u e=>Heap.get?_push_of_some _ e) (Nat.le_refl _) ?_,rfl,q _ hf (Mi.Inv.notK I1)⟩
 exact⟨z,us,0,r,Heap.get?_push_size _ rfl⟩
theorem Zmy(h:PA X es (tA X.K call gv xr eas)):PE X (.List es pos) (tE X.K call gv xr (.cel eas)):=by
 refine PE.mono (Zmo h) ?_
 rintro σ H Q ⟨env,cm,m,hE,M,ho⟩
 rw[ev]at ho
 refine⟨env,cm,m,hE,M,ho.bind.mono λws cm1 m1 H1 x1 M1 o1 vs rvs=>?_⟩
 obtain⟨ts,m2,e2,o2⟩:=ZbV o1
 obtain⟨hl,o3⟩:=ZaG o2
 obtain⟨x2,M2,r2⟩:=Xj M1 rvs e2
 have l2:=r2.length
 have hz:=ZM
 refine⟨by omega,λp hp hk=>?_⟩
 obtain⟨x3,M3,r3⟩:=ZkR M2 r2 hp hk
 exact OkR.to o3 (x2.trans x3) M3 _ r3
theorem Zbv{α:Type}(xs:List α)(lo hi:Option Int):cut xs lo hi=(xs.drop (HT.sIx xs.length 0 lo)).take (HT.sIx xs.length xs.length hi-HT.sIx xs.length 0 lo):=by
 have e:∀n d o,ZcK n d o=HT.sIx n d o:=λn d o=>by cases o<;>rfl
 unfold cut
 rw[e,e]
theorem Za3{α β:Type}{F:α->β->Prop}{xs:List α}{ys:List β}(h:Paired F xs ys)(lo hi:Option Int):Paired F (cut xs lo hi) (cut ys lo hi):=by
 rw[Zbv,Zbv,<-h.length]
 exact Zcf _ (Zcg _ h)
theorem ZfN(xs:List V)(lo hi:Option Int):cutV xs lo hi=cut xs lo hi:=(Zbv xs lo hi).symm
theorem ZjQ(x y:Nat):sliceRange (x:Int) (y:Int) 1=(List.range (y-x)).map λk=>x+k:=by
 unfold sliceRange
 simp only[show((1:Int)>0)=True from by simp,if_true]
 by_cases h:(x:Int)<y
 ·have e3:(((y:Int)-x+1-1) / 1).toNat=y-x:=by first|omega|(simp;done)|(simp;omega)
  rw[if_pos h,e3]
  refine List.map_congr_left λk _=>?_
  omega
 ·have e3:y-x=0:=by omega
  rw[if_neg h,e3]
  rfl
theorem ZbZ(n d:Nat)(v:Int):max 0 (min (if v<0 then v+n else v) (n:Int))=((HT.sIx n d (some v):Nat):Int):=by
 show max 0 (min (if v<0 then v+n else v) (n:Int))=(((if v<0 then(v+(n:Int)).toNat else min v.toNat n):Nat):Int)
 split<;>omega
theorem Zha(lo hi:Option Int)(n:Nat):(Builtin.Str.strSliceIndices lo hi 1 n)=(List.range (HT.sIx n n hi-HT.sIx n 0 lo)).map λk=>HT.sIx n 0 lo+k:=by
 rw[<-ZjQ]
 unfold Builtin.Str.strSliceIndices
 cases lo with
 |none =>
  cases hi with
  |none=>rfl
  |some j =>
   rw[<-ZbZ]
   rfl
 |some i =>
  cases hi with
  |none =>
   rw[<-ZbZ]
   rfl
  |some j =>
   rw[<-ZbZ,<-ZbZ]
   rfl
noncomputable def fSl(w:W)(lo hi:Option Int)(m:Mem):Res W:=pur ((view w m).bind λx=>slT x lo hi) m
noncomputable def rSl(K:Frag)(xr:XR):V->Option Int->Option Int->Hp->VK->Prop:=λx lo hi H Q=>∃cm m w,MemR K cm m H/\RW K cm m H w x/\OkR K (fSl w lo hi m) xr cm m H λw cm' m' H'=>∀v,RW K cm' m' H' w v->Q v H'
theorem ZhP{prog:Program}{w:World}{A:Around}{E:Value->Shared->Prop}{s:Shared}{cs:List Nat}{t:Tok}{sl:Addr}{vl vu:Value}{lo hi:Option Int}{Q:Value->Shared->Prop}(hs:s.heap.IsSliceOf sl vl vu .none)(pl:IsPart vl lo)(pu:IsPart vu hi)(hz:cs.length<=lim)(h:∀t' k,Q (.str ⟨(cut cs lo hi).toArray⟩ t') { s with toks:=k }):wpAny (model prog w) A (getItem (.str ⟨cs.toArray⟩ t) (.ref sl)) Q E s:=by
 have hl:=ZM
 obtain⟨l,e1,e2⟩:∃l:Option (Int×Tok),vl=partValue l/\l.map (·.1)=lo:=by
  cases pl with
  |none=>exact⟨none,rfl,rfl⟩
  |int i t=>exact⟨some (i,t),rfl,rfl⟩
 obtain⟨u,f1,f2⟩:∃l:Option (Int×Tok),vu=partValue l/\l.map (·.1)=hi:=by
  cases pu with
  |none=>exact⟨none,rfl,rfl⟩
  |int i t=>exact⟨some (i,t),rfl,rfl⟩
 subst e1 f1
 refine wpAny_getItem_str_slice (l:=l) (u:=u) (st:=none) hs (by rfl) ?_
 have pk:slicePicked ⟨cs.toArray⟩ l u none=(List.range (HT.sIx cs.length cs.length hi-HT.sIx cs.length 0 lo)).map λk=>HT.sIx cs.length 0 lo+k:=by
  unfold slicePicked
  rw[e2,f2,J8]
  exact Zha lo hi cs.length
 have hn:HT.sIx cs.length cs.length hi<=cs.length:=HT.sIx_le _ _ (Nat.le_refl _) hi
 have fm:((slicePicked ⟨cs.toArray⟩ l u none).filterMap ((⟨cs.toArray⟩:Str).cps[·]?))=cut cs lo hi:=by
  rw[pk,Zbv]
  by_cases hle:HT.sIx cs.length 0 lo<=HT.sIx cs.length cs.length hi
  ·have:=StrLaws.picks cs (HT.sIx cs.length cs.length hi-HT.sIx cs.length 0 lo) (HT.sIx cs.length 0 lo) (by omega)
   rw[<-this]
   simp
  ·have:HT.sIx cs.length cs.length hi-HT.sIx cs.length 0 lo=0:=by omega
   rw[this]
   simp
 unfold sliceMade
 split
 ·rename_i hw
  rw[Bool.and_eq_true]at hw
  have q:(slicePicked ⟨cs.toArray⟩ l u none).length=cs.length:=by rw[eq_of_beq hw.2,J8]
  rw[pk,List.length_map,List.length_range]at q
  have e:cut cs lo hi=cs:=by
   rw[Zbv]
   have:HT.sIx cs.length 0 lo=0∨cs.length=0:=by omega
   rcases this with h0|h0
   ·rw[h0]at q ⊢
    rw[List.drop_zero,q]
    exact List.take_length
   ·rw[List.length_eq_zero_iff]at h0
    subst h0
    simp
  have:=h t s.toks
  rw[e]at this
  exact this
 ·rw[fm]
  have hc:(cut cs lo hi).length<=cs.length:=by
   rw[Zbv,List.length_take,List.length_drop];omega
  exact⟨by show(cut cs lo hi).toArray.size<=_;rw[List.size_toArray];omega,h _ _⟩
theorem ZhA{prog:Program}{w:World}{A:Around}{E:Value->Shared->Prop}{s:Shared}{t sl:Addr}{items:Array Value}{vl vu:Value}{lo hi:Option Int}{Q:Value->Shared->Prop}(ht:IsTup s.heap t items)(hs:s.heap.IsSliceOf sl vl vu .none)(pl:IsPart vl lo)(pu:IsPart vu hi)(hw:HT.sIx items.size 0 lo=0/\HT.sIx items.size items.size hi=items.size)(h:Q (.ref t) s):wpAny (model prog w) A (getItem (.ref t) (.ref sl)) Q E s:=by
 obtain⟨os,hos,hcs,hds⟩:=id hs
 have hTs:s.TypeIs (.ref sl) "slice":=⟨os,hos,hcs⟩
 unfold getItem
 try with_reducible refine wpAny_holding ?_
 first|refine wpAny_bind (wpAny_pure ?_)|skip
 refine wpAny_bind (wpAny_sequenceKey ht.typeIs (by decide) ?_)
 refine wpAny_bind (wpAny_callSpecial?_slot (name:=Str.ofString "__getitem__") ht.typeIs PyProof.Rows.slot_tuple_getitem
  (wpAny_call_entry PyProof.Rows.slot_tuple_getitem ht.typeIs entry_tuple_getitem ?_ (args_tuple_getitem _ _)))
 show wpAny _ _ (Builtin.Tuple.tupleItemsOf (.ref t) >>= _) _ _ s
 refine wpAny_bind (tupleItemsOf_ ht ?_)
 refine wpAny_bind (wpAny_typeOf hTs ?_)
 rw[if_pos (by decide)]
 refine wpAny_bind (HT.sliceApplied_gen hs pl pu ?_)
 show wpAny _ _ (if(((HT.sIx items.size 0 lo:Nat):Int)==0&&(1:Int)==1&&(HT.sIx items.size items.size hi-HT.sIx items.size 0 lo)==items.size)=true then _ else _) _ _ s
 rw[if_pos (by rw[hw.1,hw.2];simp)]
 refine wpAny_bind ?_
 unfold Builtin.Tuple.tupleIsExact
 refine wpAny_bind (wpAny_typeOf ht.typeIs (wpAny_pure ?_))
 rw[if_pos (by decide)]
 exact wpAny_bind (wpAny_rule (wpAny_pure ⟨_,rfl,wpAny_pure h⟩))
theorem ZjN{pins:List (Addr×Obj)}{s:Shared}{σ:L2.St}{H:Hp}{x:V}{v vl vu:Value}{lo hi:Option Int}{sl:Addr}{Q:VK}{a:Addr}{xs:List V}(I:Inv X pins σ H s)(rx:RelV x v)(hs:s.heap.IsSliceOf sl vl vu .none)(pl:IsPart vl lo)(pu:IsPart vu hi)(e:x=.ref a)(hx:SqT X.K H a xs)(hw:HT.sIx xs.length 0 lo=0/\HT.sIx xs.length xs.length hi=xs.length)(q:Q (.ref a) H):∃T id,typeLookup (.type T) "__getitem__" = pure (some (.builtin id))/\s.TypeIs v T/\wpAny (model X.prog X.w) X.A (getItem v (.ref sl)) (EP X pins σ Q) X.xe s:=by
 subst e
 cases rx
 obtain⟨its,r,ht,hz⟩:=I.tuple hx
 have hlen:its.toArray.size=xs.length:=by rw[List.size_toArray];exact r.length.symm
 exact⟨"tuple",_,PyProof.Rows.slot_tuple_getitem.lookup,ht.typeIs,ZhA ht hs pl pu (by rw[hlen];exact hw) ⟨.ref a,H,I,rfl,q⟩⟩
theorem sl_any:SlR X (rSl X.K xr):=by
 rintro pins s σ H x v vl vu lo hi sl Q I rx hs pl pu ⟨cm,m,w,M,rw',ho⟩
 obtain⟨t,e,ho⟩:=Qm ho
 cases q:view w m with
 |none=>rw[q]at e;cases e
 |some tw =>
  rw[q]at e
  have e:slT tw lo hi=some t:=e
  cases tw with
  |tup ts =>
   cases e
   obtain⟨a,vs,rfl,h1,r1⟩:=(Zd rw' q (λ_ z=>by cases z)).itup
   have l1:=r1.length
   have e:∀n d o,ZcK n d o=HT.sIx n d o:=λn d o=>by cases o<;>rfl
   by_cases hc:HT.sIx vs.length 0 lo=0/\HT.sIx vs.length vs.length hi=vs.length
   ·refine ZjN I rx hs pl pu rfl h1 hc ?_
    have ec:cut ts lo hi=ts:=by
     unfold cut
     rw[e,e,l1,hc.1,hc.2,List.drop_zero,Nat.sub_zero,<-l1,List.take_length]
    rw[ec]at ho
    exact ans ho M (.mtup h1 r1)
   ·refine sl_tup pins s σ H _ v vl vu lo hi sl Q I rx hs pl pu ⟨a,vs,rfl,h1,hc,λp hp=>?_⟩
    rw[ZfN];exact Zdf ho M (Za3 r1 lo hi) hp
  |lst ts =>
   cases e
   obtain⟨a,vs,rfl,h1,r1⟩:=ZK M rw' q
   exact ZhQ pins s σ H _ v vl vu lo hi sl Q I rx hs pl pu ⟨a,vs,rfl,.of h1,λp hp=>by rw[ZfN];exact Zdg ho M (Za3 r1 lo hi) hp⟩
  |scr ns =>
   cases e
   obtain⟨a,rfl,h1⟩:=(Zd rw' q (λ_ z=>by cases z)).vscr
   refine ZhQ pins s σ H _ v vl vu lo hi sl Q I rx hs pl pu ⟨a,_,rfl,h1.sq,λp hp=>?_⟩
   rw[ZfN]
   refine Zdg ho M ?_ hp
   have:=Za3 (ZaY (K:=X.K) (cm:=cm) (m:=m) (H:=H) ns) lo hi
   have e:cut (ns.map T.int) lo hi=(cut ns lo hi).map T.int:=by
    rw[Zbv,Zbv,List.length_map,List.map_take,List.map_drop]
   rw[e]at this
   exact this
  |str cs =>
   unfold slT at e
   dsimp only at e
   split at e<;>cases e
   rename_i hc
   cases(Zd rw' q (λ_ z=>by cases z)).vstr
   obtain⟨t,rfl⟩:=rx
   exact⟨"str",_,slot_str_getitem.lookup,typeIs_str s _ t,ZhP hs pl pu hc λt' k=>⟨.str ⟨(cut cs lo hi).toArray⟩,H,I.tok _,⟨t',rfl⟩,ans ho M (.str _)⟩⟩
  |_=>cases e
noncomputable def evP(call:Nat->List W->Mem->Res W)(gv:List T)(lo:E)(env:Env)(m:Mem):Res (Option Int):=if Zr lo then Res.ok none m else(ev call gv lo env m).bind intP
noncomputable def tP(K:Frag)(call:Nat->List W->Mem->Res W)(gv:List T)(xr:XR)(lo:E):TO:=λσ H Q=>∃env cm m,EnvR K cm m H env σ/\MemR K cm m H/\OkR K (evP call gv lo env m) xr cm m H λo cm' m' H'=>Q o H'
theorem Zj6:PO X none (tP X.K call gv xr .hole):=λpins s σ H Q I ⟨env,cm,m,hE,M,ho⟩=>Zma pins s σ H Q I (OkR.now ho M)
theorem Zj5{lo:Expr}(h:PE X lo (tE X.K call gv xr ea))(hn:evP call gv ea=λenv m=>(ev call gv ea env m).bind intP):PO X (some lo) (tP X.K call gv xr ea):=λpins s σ H Q I ⟨env,cm,m,hE,M,ho⟩=>by
 rw[hn]at ho
 refine Zl9 h pins s σ H Q I ⟨env,cm,m,hE,M,(OkR.bind ho).mono λw cm1 m1 H1 x1 M1 o1 v rv=>?_⟩
 unfold intP at o1
 split at o1
 ·cases RT.vint rv
  exact⟨_,rfl,OkR.now o1 M1⟩
 ·exact o1.elim
theorem Zmj{lo hi:Option Expr}{p2:Pos}(he:PE X e (tE X.K call gv xr ea))(hl:PO X lo (tP X.K call gv xr eb))(hu:PO X hi (tP X.K call gv xr ec)):PE X (.Subscript e (.Slice lo hi none p2) pos) (tE X.K call gv xr (.slc ea eb ec)):=by
 refine PE.mono (Zkb (sl_any (xr:=xr)) he hl hu) ?_
 rintro σ H Q ⟨env,cm,m,hE,M,ho⟩
 have e:ev call gv (.slc ea eb ec) env m=(ev call gv ea env m).bind λx m=>(evP call gv eb env m).bind λl m=>(evP call gv ec env m).bind λh m=>fSl x l h m:=by
  rw[ev]
  rfl
 rw[e]at ho
 refine⟨env,cm,m,hE,M,ho.bind.mono λw cm1 m1 H1 x1 M1 o1 v rv=>?_⟩
 refine⟨env,cm1,m1,hE.ext x1 M M1,M1,o1.bind.mono λl cm2 m2 H2 x2 M2 o2=>?_⟩
 refine⟨env,cm2,m2,(hE.ext x1 M M1).ext x2 M1 M2,M2,o2.bind.mono λh cm3 m3 H3 x3 M3 o3=>?_⟩
 exact⟨cm3,m3,w,M3,(rv.ext x2 M1 M2).ext x3 M2 M3,o3⟩
noncomputable def fBlt(b:B)(ws:List W)(m:Mem):Res W:=pur ((views ws m).bind λts=>bltT b ts) m
theorem Zk2{b:B}(σ:L2.St)(H:Hp)(Q:VK)(q:tE X.K call gv xr (.blt b eas) σ H Q):tCB (rN X.K xr (fBlt b)) (tA X.K call gv xr eas) σ H Q:=by
 obtain⟨env,cm,m,hE,M,ho⟩:=q
 rw[ev]at ho
 exact⟨env,cm,m,hE,M,ho.bind.mono λws cm1 m1 H1 x1 M1 o1 vs rvs=>⟨cm1,m1,ws,M1,rvs,o1⟩⟩
theorem Zik{b:B}{id:String}{x:Str}(hc:ZaT X (.builtin id) (rN X.K xr (fBlt b)))(hv:bootBuiltins x=some (.builtin id))(hg:Gl X x)(hm:X.mg x=none)(ha:PA X (e::es) (tA X.K call gv xr eas))(hn:x≠"__name__")(hdb:(x==("__debug__" : Str))=false)(he:notStar e=true)(hpl:es.all notStar=true):PE X (.Call (.Name x p) (e::es) [] pos) (tE X.K call gv xr (.blt b eas)):=
 PE.mono (ZbR hc hg hm hv ha hn hdb (Qd he) (Zar hpl)) Zk2
theorem Zij{b:B}{id:String}{x:Str}(hc:ZaT X (.type id) (rN X.K xr (fBlt b)))(hv:bootBuiltins x=some (.type id))(hg:Gl X x)(hm:X.mg x=none)(ha:PA X (e::es) (tA X.K call gv xr eas))(hn:x≠"__name__")(hdb:(x==("__debug__" : Str))=false)(he:notStar e=true)(hpl:es.all notStar=true):PE X (.Call (.Name x p) (e::es) [] pos) (tE X.K call gv xr (.blt b eas)):=
 PE.mono (Zih hc hg hm hv ha hn hdb (Qd he) (Zar hpl)) Zk2
theorem blt1{b:B}{ws:List W}{vs:List V}{k:W->List Addr->Mem->Hp->Prop}(r:RWs K cm m H ws vs)(h1:∀ts t,bltT b ts=some t->ts.length=1)(h:OkR K (fBlt b ws m) xr cm m H k):
  ∃w v t r,ws=[w]/\vs=[v]/\RW K cm m H w v/\view w m=some t/\bltT b [t]=some r/\OkR K (.ok (.t r) m) xr cm m H k:=by
 obtain⟨t,e,ho⟩:=Qm h
 cases q:views ws m with
 |none=>rw[q]at e;cases e
 |some ts =>
  rw[q]at e
  have e:bltT b ts=some t:=e
  have hl:=h1 ts t e
  have hvl:∀(ws:List W) (ts:List T),views ws m=some ts->ts.length=ws.length:=λws=>by
   induction ws with
   |nil=>intro ts h;cases h;rfl
   |cons w ws ih =>
    intro ts h
    unfold views at h
    cases q1:view w m with
    |none=>rw[q1]at h;cases h
    |some t1 =>
     rw[q1]at h
     cases q2:views ws m with
     |none=>rw[q2]at h;cases h
     |some us=>rw[q2]at h;cases h;simp[ih us q2]
  have hw:=hvl ws ts q
  match ws,vs,r with
  |[],_,_=>rw[hl]at hw;simp at hw
  |w::w'::ws,_,_=>rw[hl]at hw;simp at hw
  |[w],_,.cons rv .nil =>
   unfold views at q
   cases q1:view w m with
   |none=>rw[q1]at q;cases q
   |some t1 =>
    rw[q1]at q
    cases q
    exact⟨w,_,t1,t,rfl,rfl,rv,q1,e,ho⟩
theorem Ziw{f:T->Option T}:∀{ts:List T}{t:T},one1 f ts=some t->∃x,ts=[x]/\f x=some t
 |[],_,h=>by cases h
 |[x],_,h=>⟨x,rfl,h⟩
 |_::_::_,_,h=>by cases h
theorem Zbi{b:B}(hb:b≠.min2/\b≠.max2/\b≠.range2/\b≠.zip2/\b≠.zip4/\b≠.dget/\b≠.din/\b≠.dnot):∀ts t,bltT b ts=some t->ts.length=1:=by
 intro ts t h
 have h1:∀f:T->Option T,one1 f ts=some t->ts.length=1:=λf h=>by
  obtain⟨x,rfl,_⟩:=Ziw h
  rfl
 cases b<;>first|exact h1 _ h|exact absurd hb (by decide)|cases h
theorem Zjn:ZaT X (.builtin "len") (rN X.K xr (fBlt .len)):=by
 rintro pins s σ H xs us Q I r ⟨cm,m,ws,M,rws,ho⟩
 obtain⟨w,v,t,rr,rfl,rfl,rv,e,eb,ho⟩:=blt1 rws (Zbi (by decide)) ho
 have hz:=ZM
 cases t with
 |str cs =>
  change (if cs.length<=lim then some (T.int cs.length)else none)=some rr at eb
  split at eb<;>cases eb
  cases(Zd rv e (λ_ z=>by cases z)).vstr
  exact Zb0 pins s σ H _ us Q I r ⟨_,_,rfl,⟨by rw[J8];omega,rfl⟩,by rw[J8];exact ans ho M (.int _)⟩
 |tup ts =>
  cases eb
  obtain⟨a,vs,rfl,h1,r1⟩:=(Zd rv e (λ_ z=>by cases z)).itup
  exact Zb0 pins s σ H _ us Q I r ⟨_,_,rfl,.inr ⟨vs,h1,r1.length⟩,ans ho M (.int _)⟩
 |lst ts =>
  cases eb
  obtain⟨a,vs,rfl,h1,r1⟩:=ZK M rv e
  exact Zb0 pins s σ H _ us Q I r ⟨_,_,rfl,.inl ⟨vs,.of h1,r1.length⟩,ans ho M (.int _)⟩
 |scr ns =>
  cases eb
  obtain⟨a,rfl,h1⟩:=(Zd rv e (λ_ z=>by cases z)).vscr
  exact Zb0 pins s σ H _ us Q I r ⟨_,_,rfl,.inl ⟨_,h1.sq,by simp⟩,ans ho M (.int _)⟩
 |_=>cases eb
theorem Zjo:ZaT X (.type "int") (rN X.K xr (fBlt .int)):=by
 rintro pins s σ H xs us Q I r ⟨cm,m,ws,M,rws,ho⟩
 obtain⟨w,v,t,rr,rfl,rfl,rv,e,eb,ho⟩:=blt1 rws (Zbi (by decide)) ho
 cases t with
 |int i =>
  cases eb
  cases(Zd rv e (λ_ z=>by cases z)).vint
  exact ZeZ pins s σ H _ us Q I r (.inl ⟨_,rfl,ans ho M (.int _)⟩)
 |bl b =>
  cases eb
  cases(Zd rv e (λ_ z=>by cases z)).vbl
  exact ZeZ pins s σ H _ us Q I r (.inr ⟨_,rfl,ans ho M (.int _)⟩)
 |str cs =>
  have eb:(if cs≠[]/\cs.length<=600/\cs.all (λc=>decide (48<=c)&&decide (c<=57))=true then some (T.int (figV cs))else none)=some rr:=eb
  split at eb<;>cases eb
  rename_i hc
  cases(Zd rv e (λ_ z=>by cases z)).vstr
  obtain⟨u,rfl,tt,rfl⟩:=vals1 r
  have hd:NumText.AllDigits (⟨cs.toArray⟩:Str).cps.toList:=λc hcm=>by
   have:=List.all_eq_true.mp hc.2.2 c (by simpa using hcm)
   rw[Bool.and_eq_true]at this
   exact⟨of_decide_eq_true this.1,of_decide_eq_true this.2⟩
  have ht:=PySem.intText_digits (x:=⟨cs.toArray⟩) hd (by simpa using hc.1) (by show cs.toArray.size<=_;rw[List.size_toArray];omega)
  refine W.KIN.call_text ht (by show cs.toArray.size<=_;rw[List.size_toArray];omega) ⟨.int (figV cs),H,I.tok _,⟨s.toks,?_⟩,ans ho M (.int _)⟩
  show Value.int _ _=Value.int (figV cs) _
  rw[show(⟨cs.toArray⟩:Str).cps.toList=cs from by simp]
  rfl
 |_=>cases eb
theorem ZkP(cs:List Nat):RTs K cm m H (cs.map λc=>T.str [c]) (cs.map λc=>V.str ⟨#[c]⟩):=by
 induction cs with
 |nil=>exact .nil
 |cons c cs ih=>exact .cons (.str [c]) ih
theorem Zdb{x:Str}:∀(cs:List Nat) (k:Nat) (vs:List Value),vs.length=cs.length->(∀(j:Nat) (v:Value),vs[j]?=some v->∃c u,cs[j]?=some c/\v=Value.str ⟨#[c]⟩ u)->Vals (cs.map λc=>V.str ⟨#[c]⟩) vs
 |[],_,[],_,_=>.nil
 |[],_,_::_,h,_=>by simp at h
 |_::_,_,[],h,_=>by simp at h
 |c::cs,k,v::vs,hl,h=>by
  obtain⟨c',u,e1,e2⟩:=h 0 v rfl
  cases e1
  exact .cons ⟨u,e2⟩ (Zdb (x:=x) cs k vs (by simpa using hl) λj w hw=>h (j+1) w (by simpa using hw))
theorem ZfT(hcalm:X.calm=true):ZaT X (.type "tuple") (rN X.K xr (fBlt .tuple)):=by
 rintro pins s σ H xs us Q I r ⟨cm,m,ws,M,rws,ho⟩
 obtain⟨w,v,t,rr,rfl,rfl,rv,e,eb,ho⟩:=blt1 rws (Zbi (by decide)) ho
 cases t with
 |tup ts =>
  cases eb
  obtain⟨a,vs,rfl,h1,r1⟩:=(Zd rv e (λ_ z=>by cases z)).itup
  exact ZaQ pins s σ H _ us Q I r ⟨a,vs,rfl,.inr ⟨h1,ans ho M (.mtup h1 r1)⟩⟩
 |lst ts =>
  cases eb
  obtain⟨a,vs,rfl,h1,r1⟩:=ZK M rv e
  exact ZaQ pins s σ H _ us Q I r ⟨a,vs,rfl,.inl ⟨.of h1,λl hl=>Zdf ho M r1 hl⟩⟩
 |str cs =>
  change (if cs.length<=lim then some (T.tup (cs.map λc=>T.str [c]))else none)=some rr at eb
  split at eb<;>cases eb
  rename_i hc
  cases(Zd rv e (λ_ z=>by cases z)).vstr
  obtain⟨u,rfl,ru⟩:=vals1 r
  obtain⟨tk,rfl⟩:=ru
  have hz:=ZM
  refine call_tuple_str (I.ok.hd hcalm) ⟨cs.toArray⟩ tk (λh' tk' acc hk hit=>?_) (by show cs.toArray.size<=_;rw[List.size_toArray];omega)
  obtain⟨h1,h2⟩:=hit
  have I1:Inv X pins σ H { s with heap:=h',toks:=tk' }:=I.kept hk
  have rv2:Vals (cs.map λc=>V.str ⟨#[c]⟩) acc.toList:=Zdb (x:=⟨cs.toArray⟩) cs 0 acc.toList (by simpa using h1) λj w hw=>by
   obtain⟨c,u,e1,e2⟩:=h2 j w (by simpa using hw)
   exact⟨c,u,by simpa using e1,e2⟩
  refine⟨.ref h'.objs.size,_,I1.laid (t':=tk') (o:=.tup (cs.map λc=>V.str ⟨#[c]⟩)) (λb ob q=>Heap.get?_push_of_some _ q) (Nat.le_refl _) ?_,rfl,Zdf ho M (ZkP cs) (I1.hok.fresh (Nat.le_refl _))⟩
  refine⟨by rw[List.length_map];omega,acc.toList,rv2,?_⟩
  have:=TupP.new h' acc.toList.toArray
  simpa using this
 |_=>cases eb
theorem RTs.bools:∀{ts:List T}{vs:List V}{bs:List Bool},RTs K cm m H ts vs->bools? ts=some bs->vs=bs.map V.bl
 |[],_,_,.nil,e=>by cases e;rfl
 |t::ts,_,bs,.cons r rs,e=>by
  cases t with
  |bl c =>
   unfold bools? at e
   cases q:bools? ts with
   |none=>rw[q]at e;cases e
   |some cs =>
    rw[q]at e;cases e
    cases RT.vbl r
    rw[RTs.bools rs q]
    rfl
  |_=>cases e
theorem ZaV:∀{bs:List Bool}{us:List Value},Vals (bs.map V.bl) us->us=bs.map Value.bool
 |[],_,.nil=>rfl
 |b::bs,_,.cons r rs=>by
  cases r
  rw[ZaV rs]
  rfl
theorem ZiG{s:Shared}{h':Heap}{o:Obj}(hk:∀b x,b∉[s.heap.objs.size]->(s.heap.push o).get? b=some x->h'.get? b=some x):∀b x,s.heap.get? b=some x->h'.get? b=some x:=
 λb x e=>hk b x (λhm=>by rw[List.mem_singleton.mp hm]at e;exact Nat.lt_irrefl _ (Heap.lt_size e)) (Heap.get?_push_of_some _ e)
theorem Zk4{α:Type}(f:List α->Bool)(bs:List Bool)(d:Bool):(List.range bs.length).map (λi=>(bs[i]?).getD d)=bs:=by
 apply List.ext_getElem?
 intro i
 rw[List.getElem?_map]
 by_cases h:i<bs.length
 ·rw[List.getElem?_range h];simp[h]
 ·simp[h]
theorem Zjp(hc:X.calm=true):ZaT X (.builtin "all") (rN X.K xr (fBlt .all)):=by
 rintro pins s σ H xs us Q I r ⟨cm,m,ws,M,rws,ho⟩
 obtain⟨w,v,t,rr,rfl,rfl,rv,e,eb,ho⟩:=blt1 rws (Zbi (by decide)) ho
 cases t with
 |lst ts =>
  have eb:(bools? ts).map (λbs=>T.bl (bs.all id))=some rr:=eb
  cases q:bools? ts with
  |none=>rw[q]at eb;cases eb
  |some bs =>
   rw[q]at eb;cases eb
   obtain⟨a,vs,rfl,h1,r1⟩:=ZK M rv e
   obtain⟨u,rfl,ru⟩:=vals1 r
   cases ru
   obtain⟨its,rv',pl,hz⟩:=I.list (.of h1)
   cases RTs.bools r1 q
   cases ZaV rv'
   have hl:=pl.isList
   have hlt:a<s.heap.objs.size:=by obtain⟨_,e,_⟩:=hl;exact Heap.lt_size e
   refine call_all_walk (wpAny_pyIter_list hl ?_)
   refine⟨s.heap.objs.size,[s.heap.objs.size,a],[s.heap.objs.size],(bs.map Value.bool).toArray.size,_,_,λi=>(bs[i]?).getD true,rfl,Walks.list (A:=X.A.in1) (I.ok.hd hc) _ a (Nat.ne_of_lt hlt) (bs.map Value.bool).toArray,
    ⟨⟨_,Heap.get?_push_size _ rfl,rfl,rfl⟩,hl.push _⟩,λi v s' Q' E' hP hQ=>?_,λh' tk hk=>?_⟩
   ·have hP':(bs.map Value.bool)[i]?=some v:=by simpa using hP
    rw[List.getElem?_map]at hP'
    cases qq:bs[i]? with
    |none=>rw[qq]at hP';cases hP'
    |some b =>
     rw[qq]at hP';cases hP'
     dsimp only at hQ
     rw[qq]at hQ
     exact wpAny_truthy_bool hQ
   ·have e:((List.range (bs.map Value.bool).toArray.size).all λi=>(bs[i]?).getD true)=bs.all id:=by
     rw[List.size_toArray,List.length_map]
     have:=congrArg (λl=>l.all id) (Zk4 (α:=Nat) (λ_=>true) bs true)
     rw[<-this,List.all_map]
     rfl
    rw[e]
    exact⟨.bl _,H,I.kept (ZiG hk),rfl,ans ho M (.bl _)⟩
 |tup ts =>
  have eb:(bools? ts).map (λbs=>T.bl (bs.all id))=some rr:=eb
  cases q:bools? ts with
  |none=>rw[q]at eb;cases eb
  |some bs =>
   rw[q]at eb;cases eb
   obtain⟨a,vs,rfl,h1,r1⟩:=RT.itup (Zd rv e (λ_ z=>by cases z))
   obtain⟨u,rfl,ru⟩:=vals1 r
   cases ru
   obtain⟨its,rv',pl,hz⟩:=I.tuple h1
   cases RTs.bools r1 q
   cases ZaV rv'
   have hl:s.heap.IsTuple a (bs.map Value.bool).toArray:=pl
   have hlt:a<s.heap.objs.size:=by obtain⟨_,e,_⟩:=hl;exact Heap.lt_size e
   refine call_all_walk (wpAny_pyIter_tuple hl ?_)
   refine⟨s.heap.objs.size,[s.heap.objs.size,a],[s.heap.objs.size],(bs.map Value.bool).toArray.size,_,_,λi=>(bs[i]?).getD true,rfl,Walks.tuple (A:=X.A.in1) (I.ok.hd hc) _ a (Nat.ne_of_lt hlt) (bs.map Value.bool).toArray,
    ⟨⟨_,Heap.get?_push_size _ rfl,rfl,rfl⟩,(show Heap.IsTuple (s.heap.push _) a _ from let⟨o,ho,r⟩:=hl;⟨o,Heap.get?_push_of_some _ ho,r⟩)⟩,λi v s' Q' E' hP hQ=>?_,λh' tk hk=>?_⟩
   ·have hP':(bs.map Value.bool)[i]?=some v:=by simpa using hP
    rw[List.getElem?_map]at hP'
    cases qq:bs[i]? with
    |none=>rw[qq]at hP';cases hP'
    |some b =>
     rw[qq]at hP';cases hP'
     dsimp only at hQ
     rw[qq]at hQ
     exact wpAny_truthy_bool hQ
   ·have e:((List.range (bs.map Value.bool).toArray.size).all λi=>(bs[i]?).getD true)=bs.all id:=by
     rw[List.size_toArray,List.length_map]
     have:=congrArg (λl=>l.all id) (Zk4 (α:=Nat) (λ_=>true) bs true)
     rw[<-this,List.all_map]
     rfl
    rw[e]
    exact⟨.bl _,H,I.kept (ZiG hk),rfl,ans ho M (.bl _)⟩
 |_=>cases eb
end
section
variable{K:Frag}{cm:List Addr}{m:Mem}{H:Hp}{xr:XR}{X:Cx}{call:Nat->List W->Mem->Res W}{gv:List T}
variable{a b c e:Expr}{es:List Expr}{ea eb ec:E}{eas:Es}{pos p p2:Pos}
noncomputable def tyN:Ty->String
 |.int=>"int"
 |.bool=>"bool"
 |.str=>"str"
 |.tuple=>"tuple"
 |.list=>"list"
 |.dict=>"dict"
noncomputable def tyT:T->String
 |.non=>"NoneType"
 |.bl _=>"bool"
 |.int _=>"int"
 |.str _=>"str"
 |.tup _=>"tuple"
 |.lst _=>"list"
 |.dct _ _=>"dict"
 |.scr _=>"list"
theorem ZmU(t:T)(ty:Ty):kitOne K (.type (tyT t)) (.type (tyN ty))=some (isT t ty):=by cases t<;>cases ty<;>rfl
theorem ZmX{pins:List (Addr×Obj)}{σ:L2.St}{s:Shared}{A:Around}{E:Value->Shared->Prop}{Q:Value->Shared->Prop}{w:W}{v:V}{u:Value}{t:T}{ty:Ty}(I:Inv X pins σ H s)(M:MemR X.K cm m H)(rx:RelV v u)(r:RW X.K cm m H w v)(ew:view w m=some t)(h:∀tk,Q (.bool (isT t ty)) { s with toks:=tk }):
  wpAny (model X.prog X.w) A (PySem.call (.builtin "isinstance") [u,.type (tyN ty)]) Q E s:=by
 have k:=ZmU (K:=X.K) t ty
 have onL:∀(a:Addr) (vs:List V),v=.ref a->SqL X.K H a vs->tyT t = "list"->wpAny (model X.prog X.w) A (PySem.call (.builtin "isinstance") [u,.type (tyN ty)]) Q E s:=λa vs e hq et=>by
  subst e
  cases rx
  obtain⟨its,_,pl,_⟩:=I.list hq
  obtain⟨o,n,e,c,_⟩:=pl
  rw[et]at k
  exact kia_one kitx_list I.kIn ⟨o,e,c⟩ k (λz=>nomatch z) h
 cases t with
 |non=>cases(Zd r ew (λ_ z=>by cases z)).vnon;exact Xg I rx .non k h
 |bl y=>cases(Zd r ew (λ_ z=>by cases z)).vbl;exact Xg I rx (.bl y) k h
 |int i=>cases(Zd r ew (λ_ z=>by cases z)).vint;exact Xg I rx (.int i) k h
 |str cs=>cases(Zd r ew (λ_ z=>by cases z)).vstr;exact Xg I rx (.str _) k h
 |tup ts =>
  obtain⟨a,vs,rfl,h1,_⟩:=(Zd r ew (λ_ z=>by cases z)).itup
  cases rx
  obtain⟨its,_,p,_⟩:=I.tuple h1
  obtain⟨o,h1,h2,_⟩:=p
  exact kia_one PySem.W.kitx_tuple I.kIn ⟨o,h1,h2⟩ k (λz=>nomatch z) h
 |lst ts =>
  obtain⟨a,vs,e,h1,_⟩:=ZK M r ew
  exact onL a vs e (.of h1) rfl
 |scr ns =>
  obtain⟨a,e,h1⟩:=(Zd r ew (λ_ z=>by cases z)).vscr
  exact onL a _ e h1.sq rfl
 |dct ks ts =>
  have r':=Zd r ew (λ_ z=>by cases z)
  cases r' with
  |dct q1 q2 q3 q4 q5=>exact Xg I rx (.dK q1) k h
noncomputable def fIsi(ty:Ty)(w:W)(m:Mem):Res W:=pur ((view w m).map λx=>.bl (isT x ty)) m
theorem ZkU{ty:Ty}:ZaT X (.builtin "isinstance") (λxs H Q=>∃x,xs=[x,.ty (tyN ty)]/\r1 X.K xr (fIsi ty) x H Q):=by
 rintro pins s σ H xs us Q I r ⟨x,e,cm,m,w,M,rw',ho⟩
 subst e
 obtain⟨u1,u2,rfl,ru1,ru2⟩:=vals2 r
 cases(show u2=Value.type (tyN ty)from ru2)
 obtain⟨t,et,ho⟩:=Qm ho
 cases q:view w m with
 |none=>rw[q]at et;cases et
 |some tw =>
  rw[q]at et;cases et
  exact ZmX I M ru1 rw' q λtk=>⟨.bl _,H,I.tok _,rfl,ans ho M (.bl _)⟩
theorem Zmq{ty:Ty}{x:Str}(ha:PE X a (tE X.K call gv xr ea))(hg:Gl X "isinstance")(hm:X.mg "isinstance" = none)(hgT:Gl X x)(hmT:X.mg x=none)(hv:bootBuiltins x=some (.type (tyN ty)))(hn:x≠"__name__":=by decide)(hd:(x==("__debug__" : Str))=false:=by decide)(hs:notStar a=true:=by rfl):
  PE X (.Call (.Name "isinstance" p) [a,.Name x p2] [] pos) (tE X.K call gv xr (.isi ea ty)):=by
 refine PE.mono (ZbR (ZkU (ty:=ty) (xr:=xr)) hg hm (by decide +kernel) (QX ha (QX (Zii (v:=.ty (tyN ty)) hgT hmT hv rfl hn hd) Xb (Qd rfl)) (Qd hs)) (by decide) (by decide) (Qd hs) (Zar rfl)) ?_
 rintro σ H Q ⟨env,cm,m,hE,M,ho⟩
 rw[ev]at ho
 exact⟨env,cm,m,hE,M,ho.bind.mono λw cm1 m1 H1 x1 M1 o1 v rv=>⟨v,rfl,cm1,m1,w,M1,rv,o1⟩⟩
noncomputable def rM(K:Frag)(xr:XR)(b:Mt):V->List V->Hp->VK->Prop:=λx xs H Q=>∃cm m w ws,MemR K cm m H/\RW K cm m H w x/\RWs K cm m H ws xs/\OkR K (doM b w ws m) xr cm m H λw cm' m' H'=>∀v,RW K cm' m' H' w v->Q v H'
theorem ZfG(sep:List Nat):∀xs:List (List Nat),Str.join ⟨sep.toArray⟩ (xs.map λc=>(⟨c.toArray⟩:Str))=⟨(Qp sep xs).toArray⟩
 |[]=>rfl
 |[x]=>rfl
 |x::y::r=>by
  show(⟨x.toArray⟩:Str)++⟨sep.toArray⟩++Str.join ⟨sep.toArray⟩ ((y::r).map λc=>(⟨c.toArray⟩:Str))=⟨(x++sep++Qp sep (y::r)).toArray⟩
  rw[ZfG sep (y::r),ZhK,ZhK]
theorem RTs.strs:∀{ts:List T}{vs:List V}{bs:List (List Nat)},RTs K cm m H ts vs->strs? ts=some bs->vs=bs.map λc=>V.str ⟨c.toArray⟩
 |[],_,_,.nil,e=>by cases e;rfl
 |t::ts,_,bs,.cons r rs,e=>by
  cases t with
  |str c =>
   unfold strs? at e
   cases q:strs? ts with
   |none=>rw[q]at e;cases e
   |some cs =>
    rw[q]at e;cases e
    cases RT.vstr r
    rw[RTs.strs rs q]
    rfl
  |_=>cases e
theorem Zd1:∀{bs:List (List Nat)}{us:List Value},Vals (bs.map λc=>V.str ⟨c.toArray⟩) us->StrsAre us (bs.map λc=>(⟨c.toArray⟩:Str))
 |[],_,.nil=>.nil
 |b::bs,_,.cons ⟨t,e⟩ rs=>by
  cases e
  exact .cons _ t (Zd1 rs)
theorem ZdZ{ws:List W}{t:T}(h:views ws m=some [t]):∃w,ws=[w]/\view w m=some t:=by
 cases ws with
 |nil=>cases h
 |cons w ws =>
  unfold views at h
  cases q1:view w m with
  |none=>rw[q1]at h;cases h
  |some t1 =>
   rw[q1]at h
   have h:(views ws m).map (t1::·)=some [t]:=h
   cases q2:views ws m with
   |none=>rw[q2]at h;cases h
   |some ts =>
    rw[q2]at h
    cases h
    cases ws with
    |nil=>exact⟨w,rfl,by rw[q1]⟩
    |cons w2 ws =>
     unfold views at q2
     cases q3:view w2 m with
     |none=>rw[q3]at q2;cases q2
     |some t3 =>
      rw[q3]at q2
      cases q4:views ws m with
      |none=>rw[q4]at q2;cases q2
      |some t4=>rw[q4]at q2;cases q2
theorem Zle{b:Mt}{w:W}{ws:List W}{k:W->List Addr->Mem->Hp->Prop}(h:OkR K (pur ((view w m).bind λx=>(views ws m).bind λts=>mthT b x ts) m) xr cm m H k):∃x ts t,view w m=some x/\views ws m=some ts/\mthT b x ts=some t/\OkR K (.ok (.t t) m) xr cm m H k:=by
 obtain⟨t,e,ho⟩:=Qm h
 cases q1:view w m with
 |none=>rw[q1]at e;cases e
 |some x =>
  cases q2:views ws m with
  |none=>rw[q1,q2]at e;cases e
  |some ts=>rw[q1,q2]at e;exact⟨x,ts,t,rfl,rfl,e,ho⟩
theorem Zkq:MtR X "str.join" (rM X.K xr .join):=by
 rintro pins s σ H x xs v us Q I rx rs ⟨cm,m,w,ws,M,rw',rws,ho⟩
 obtain⟨tw,ts,t,q1,q2,e,hz9⟩:=Zle (b:=.join) ho
 clear ho
 cases tw with
 |str sep =>
  match ts,e,q2 with
  |[.lst ys],e,q2 =>
   have e:((strs? ys).bind λzs=>if(zs.map List.length).sum+zs.length*sep.length<=lim then some (T.str (Qp sep zs))else none)=some t:=e
   cases q3:strs? ys with
   |none=>rw[q3]at e;cases e
   |some zs =>
    rw[q3]at e
    have e:(if(zs.map List.length).sum+zs.length*sep.length<=lim then some (T.str (Qp sep zs))else none)=some t:=e
    split at e<;>cases e
    rename_i hc
    obtain⟨w1,rfl,q4⟩:=ZdZ q2
    cases rws with
    |cons rv r0 =>
     cases r0
     cases(Zd rw' q1 (λ_ z=>by cases z)).vstr
     obtain⟨tt,rfl⟩:=rx
     obtain⟨a,vs,rfl,h1,r1⟩:=ZK M rv q4
     obtain⟨u,rfl,ru⟩:=vals1 rs
     cases ru
     obtain⟨its,rv',pl,hz⟩:=I.list (.of h1)
     cases RTs.strs r1 q3
     refine join_list pl.isList (Zd1 rv') ?_ λt' k=>?_
     ·rw[List.map_map,J8,List.length_map]
      have e5:((λx:Str=>x.length) ∘ λc:List Nat=>(⟨c.toArray⟩:Str))=List.length:=by funext c;exact J8 c
      have e6:(lim:Nat)<=16777216:=by decide
      rw[e5]
      omega
     ·refine⟨.str ⟨(Qp sep zs).toArray⟩,H,I.tok _,⟨t',?_⟩,ans hz9 M (.str _)⟩
      show Value.str (Txt.join _ _) t'=_
      unfold Txt.join
      rw[StrLaws.glued_eq_join,ZfG]
  |[],e,_=>cases e
  |[.non],e,_=>cases e
  |[.bl _],e,_=>cases e
  |[.int _],e,_=>cases e
  |[.str _],e,_=>cases e
  |[.tup _],e,_=>cases e
  |[.dct _ _],e,_=>cases e
  |[.scr _],e,_=>cases e
  |x1::_::_,e,_=>cases x1<;>cases e
 |_=>cases e
theorem ty_str{w:W}{v:V}{b:Mt}(hb:b=.join∨b=.upper)(r:RW K cm m H w v)(h:tyM b w m=true):tyV K "str" v H:=by
 have h':(match view w m with|some (.str _)=>true|_=>false)=true:=by
  rcases hb with rfl|rfl<;>exact h
 split at h'
 ·rename_i cs e
  cases(Zd r e (λ_ z=>by cases z)).vstr
  rfl
 ·cases h'
theorem few1{cpos:Pos}(hs:notStar e=true):((backTo cpos (starEach [e] X.env)).all (λx=>!x.1)&&(backToKw cpos (keywordEach [] X.env)).all (λx=>x.1.isSome)
  && decide ([e].length+([]:List Keyword).length+(if([]:List Keyword).isEmpty then 0 else 1)<30))=true:=by
 rw[ZhM (by rw[List.all_cons,hs];rfl)]
 rfl
theorem Zkc{o:Expr}{apos cpos:Pos}(ho:PE X o (tE X.K call gv xr ea))(ha:PA X [e] (tA X.K call gv xr eas))(hbase:attributeBase o "join" X.env (eval o X.env)=eval o X.env:=by rfl)(hline:(apos.endLine==cpos.line)=true:=by rfl)(hs:notStar e=true:=by rfl):
  PE X (.Call (.Attribute o "join" apos) [e] [] cpos) (tE X.K call gv xr (.mth .join ea eas)):=by
 refine PE.mono (Zki PySem.F.plainAttrs_str PySem.F.slot_str_join PySem.F.type_str_join (Zkq (xr:=xr)) ho ha hbase (few1 hs) hline (Qd hs) (Zar rfl)) ?_
 rintro σ H Q ⟨env,cm,m,hE,M,hq⟩
 rw[ev]at hq
 refine⟨env,cm,m,hE,M,hq.bind.mono λw cm1 m1 H1 x1 M1 o1 v rv=>?_⟩
 obtain⟨ht,o1⟩:=ZaG o1
 refine⟨ty_str (.inl rfl) rv ht,env,cm1,m1,hE.ext x1 M M1,M1,o1.bind.mono λws cm2 m2 H2 x2 M2 o2 vs rvs=>?_⟩
 exact⟨cm2,m2,w,ws,M2,rv.ext x2 M1 M2,rvs,o2⟩
structure At (X:Cx) (call:Nat->List W->Mem->Res W) (gv:List T) (e:Expr) (a:E) (f:L2.St->Option V):Prop where
 pe:PE X e (λσ H Q=>∃v,f σ=some v/\Q v H)
 rd:∀env cm m H σ,EnvR X.K cm m H env σ->(∃w v,ev call gv a env m=.ok w m/\f σ=some v/\RW X.K cm m H w v)∨ev call gv a env m=.stuck
theorem ZgQ{tg:Expr}(hg:Gl X "range")(hm:X.mg "range" = none)(ha:PA X [a] (tA X.K call gv xr eas))(hs:notStar a=true:=by rfl):PI X tg (.Call (.Name "range" p) [a] [] pos) (tI X.K call gv xr (.blt .range1 eas)):=by
 refine PI.mono (Zie hg hm ha (Qd hs)) ?_
 rintro σ H R ⟨env,cm,m,hE,M,ho⟩
 rw[ev]at ho
 refine⟨env,cm,m,hE,M,ho.bind.mono λws cm1 m1 H1 x1 M1 o1 vs rvs=>?_⟩
 obtain⟨w,v,t,rr,rfl,rfl,rv,e,eb,o2⟩:=blt1 (b:=.range1) rvs (Zbi (by decide)) o1
 cases t with
 |int i =>
  change (if i<2^62/\-(2^62)<=i then some (T.lst (rangeT 0 i.toNat))else none)=some rr at eb
  split at eb<;>cases eb
  rename_i hc
  cases(Zd rv e (λ_ z=>by cases z)).vint
  obtain⟨ts,m2,q1,q2⟩:=OkR.now o2 M1
  cases q1
  exact⟨_,rfl,hc.2,hc.1,q2 _ (.rng 0 _)⟩
 |_=>cases eb
end
section
variable(K:Frag) (call:Nat->List W->Mem->Res W) (gv:List T) (xr:XR)
noncomputable def JV(n:Nat)(D:Ends)(fl:Flow)(cm:List Addr)(m:Mem)(H:Hp):Prop:=match fl with
 |.next env=>∀σ:L2.St,σ.length=n->EnvR K cm m H env σ->D.nx σ H
 |.ret w=>∀v,RW K cm m H w v->D.rt v H
 |.brk env=>∀σ:L2.St,σ.length=n->EnvR K cm m H env σ->D.bk σ H
 |.cont env=>∀σ:L2.St,σ.length=n->EnvR K cm m H env σ->D.ct σ H
noncomputable def tS(n:Nat)(s:S):TS:=λD σ H=>σ.length=n/\∃env cm m,EnvR K cm m H env σ/\MemR K cm m H/\OkR K (ex call gv s env m) xr cm m H λfl cm' m' H'=>JV K n D fl cm' m' H'
end
section
variable{K:Frag}{cm:List Addr}{m:Mem}{H:Hp}{xr:XR}{X:Cx}{call:Nat->List W->Mem->Res W}{gv:List T}
variable{a b c e:Expr}{es:List Expr}{ea eb ec:E}{eas:Es}{pos p p2:Pos}{rest:List Stmt}{k:S}{n:Nat}
theorem PSs.mono{sts:List Stmt}{t t':TS}(h:PSs X sts t)(f:∀D σ H,t' D σ H->t D σ H):PSs X sts t':=λpins s σ H D I q=>h pins s σ H D I (f D σ H q)
theorem ZjW:PSs X [] (tS X.K call gv xr n .done):=PSs.mono Zfp λD σ H ⟨hl,env,cm,m,hE,M,ho⟩=>by
 rw[ex]at ho
 exact OkR.now ho M σ hl hE
theorem ZjV(h:PE X e (tE X.K call gv xr ea)):PSs X (.Return (some e) pos::rest) (tS X.K call gv xr n (.ret ea k)):=PSs.mono (Qu (Zk6 h) Zh2) λD σ H ⟨hl,env,cm,m,hE,M,ho⟩=>by
 rw[ex]at ho
 exact⟨env,cm,m,hE,M,ho.bind.mono λw cm1 m1 H1 x1 M1 o1 v rv=>OkR.now o1 M1 v rv⟩
theorem Zh4(h:PE X e (tE X.K call gv xr ea))(hk:PSs X rest (tS X.K call gv xr n k))(hs:swapsWith e none pos.line X.env=pure false:=by rfl):PSs X (.Expr e pos::rest) (tS X.K call gv xr n (.expr ea k)):=PSs.mono (Qu (Zh5 h hs) hk) λD σ H ⟨hl,env,cm,m,hE,M,ho⟩=>by
 rw[ex]at ho
 exact⟨env,cm,m,hE,M,ho.bind.mono λw cm1 m1 H1 x1 M1 o1 v rv=>⟨hl,env,cm1,m1,hE.ext x1 M M1,M1,o1⟩⟩
theorem ZjZ{i:Nat}{x:Str}{px:Pos}(hN:X.N.Nodup)(hn:X.N.length=n)(hi:X.N[i]?=some x)(hx:Loc X.env.scope x)(h:PE X e (tE X.K call gv xr ea))(hk:PSs X rest (tS X.K call gv xr n k))(hs:swapsWith e (some (.Name x px)) pos.line X.env=pure false:=by rfl)(hf:X.fn x=true∨X.env.scope.names.lookup x=some .local:=by first|exact .inl rfl|exact .inr rfl|assumption):PSs X (.Assign [.Name x px] e pos::rest) (tS X.K call gv xr n (.asg i ea k)):=PSs.mono (Qu (ps_set hN hi hx h hs hf) hk) λD σ H ⟨hl,env,cm,m,hE,M,ho⟩=>by
 rw[ex]at ho
 have hi':i<σ.length:=by rw[hl,<-hn];exact(List.getElem?_eq_some_iff.mp hi).1
 exact⟨env,cm,m,hE,M,ho.bind.mono λw cm1 m1 H1 x1 M1 o1 v rv=>⟨by rw[List.length_set];exact hl,env.set i (some w),cm1,m1,EnvR.set (hE.ext x1 M M1) rv i hi',M1,o1⟩⟩
theorem ZjU{o i v:Expr}{eo ei ev':E}{tp:Pos}(hv:PE X v (tE X.K call gv xr ev'))(ho:PE X o (tE X.K call gv xr eo))(hi:PE X i (tE X.K call gv xr ei))(hk:PSs X rest (tS X.K call gv xr n k))(ha:∀v,assign (.Subscript o i tp) X.env v=(do
   let ov <-holding [v] (eval o X.env)
   let iv <-holding [v,ov] (eval i X.env)
   standAt tp
   holding [v,ov,iv] (setItem ov iv v)
   release [v,ov,iv] []):=by intro _;rfl)(hs:swapsWithSole [.Subscript o i tp] v pos.line X.env=pure false:=by rfl)(hw:swappedStores [.Subscript o i tp] v X.env=pure none:=by rfl)(h1:(assignEach [.Subscript o i tp] X.env).map (·.2)=[assign (.Subscript o i tp) X.env]:=by rfl):PSs X (.Assign [.Subscript o i tp] v pos::rest) (tS X.K call gv xr n (.set eo ei ev' k)):=
 PSs.mono (Qu (Zh6 hv (pg_sub ho hi set_list ha) hs hw h1) hk) λD σ H ⟨hl,env,cm,m,hE,M,hq⟩=>by
  rw[ex]at hq
  refine⟨env,cm,m,hE,M,hq.bind.mono λz cm1 m1 H1 x1 M1 o1 vz rz=>?_⟩
  refine⟨env,cm1,m1,hE.ext x1 M M1,M1,o1.bind.mono λx cm2 m2 H2 x2 M2 o2 vx rx=>?_⟩
  refine⟨env,cm2,m2,(hE.ext x1 M M1).ext x2 M1 M2,M2,o2.bind.mono λy cm3 m3 H3 x3 M3 o3 vy ry=>?_⟩
  unfold setM at o3
  split at o3
  ·rename_i cc kk
   cases q:frz z m3 with
   |stuck=>rw[q]at o3;exact o3.elim
   |exc e' m'=>exact absurd q ZeO
   |ok t m4 =>
    rw[q]at o3
    obtain⟨x4,M4,r4⟩:=ZiT M3 ((rz.ext x2 M1 M2).ext x3 M2 M3) q
    have rx':RW X.K cm3 m4 H3 (.c cc) vx:=(rx.ext x3 M2 M3).ext x4 M3 M4
    cases RT.vint ry
    obtain⟨a,ha1,rfl⟩:=rx'
    have o3:OkR X.K ((match m4[cc]? with
     |some (some (false,xs))=>match ixOf xs.length kk with
      |some j=>Res.ok () (m4.set cc (some (false,xs.set j t)))
      |none=>.stuck
     |_=>.stuck).bind λ_ m=>ex call gv k env m) xr cm3 m3 H3 _:=o3
    split at o3
    ·rename_i xs e1
     split at o3
     ·rename_i j e2
      obtain⟨b,vs,q1,q2,q3,q4⟩:=M4.at' cc _ e1
      rw[ha1]at q1;cases q1
      have l4:=q4.length
      dsimp only at l4
      obtain⟨x5,M5⟩:=Zbg M4 e1 ha1 (ZcX r4 j q4)
      refine⟨a,vs,kk,j,rfl,rfl,q2,by rw[<-l4];exact e2,?_⟩
      have xx:=(x4.trans x5)
      exact⟨hl,env,cm3,_,(((hE.ext x1 M M1).ext x2 M1 M2).ext x3 M2 M3).ext xx M3 M5,M5,OkR.shift (show OkR X.K (ex call gv k env _) xr cm3 m3 H3 _ from o3) xx⟩
     ·exact o3.elim
    ·exact o3.elim
  ·exact o3.elim
theorem bind_assoc{α β γ:Type}(r:Res α)(f:α->Mem->Res β)(g:β->Mem->Res γ):(r.bind f).bind g=r.bind λa m=>(f a m).bind g:=by cases r<;>rfl
theorem Zl6{A B:List Stmt}{sa sb:S}(hc:PT X c (tT X.K call gv xr ec))(ha:PSs X A (tS X.K call gv xr n sa))(hb:PSs X B (tS X.K call gv xr n sb))(hk:PSs X rest (tS X.K call gv xr n k)):PSs X (.If c A B pos::rest) (tS X.K call gv xr n (.ife ec sa sb k)):=
 PSs.mono (Qu (ps_if hc ha hb) hk) λD σ H ⟨hl,env,cm,m,hE,M,ho⟩=>by
  rw[ex,<-bind_assoc]at ho
  refine⟨env,cm,m,hE,M,ho.bind.mono λt cm1 m1 H1 x1 M1 o1=>?_⟩
  have go:∀s:S,OkR X.K ((ex call gv s env m1).bind λfl m=>match fl with|.next env=>ex call gv k env m|fl=>.ok fl m) xr cm1 m1 H1 (λfl cm' m' H'=>JV X.K n D fl cm' m' H')->tS X.K call gv xr n s { D with nx:=tS X.K call gv xr n k D } σ H1:=λs o=>by
   refine⟨hl,env,cm1,m1,hE.ext x1 M M1,M1,o.bind.mono λfl cm2 m2 H2 x2 M2 o2=>?_⟩
   cases fl with
   |next env'=>exact λσ' hl' hE'=>⟨hl',env',cm2,m2,hE',M2,o2⟩
   |ret w=>exact OkR.now (xr:=xr) (a:=Flow.ret w) o2 M2
   |brk env'=>exact OkR.now (xr:=xr) (a:=Flow.brk env') o2 M2
   |cont env'=>exact OkR.now (xr:=xr) (a:=Flow.cont env') o2 M2
  cases t with
  |true=>exact iteT (go sa o1)
  |false=>exact iteF (go sb o1)
theorem Zas:∀(is:List Nat) (vs:List V) (σ:L2.St),(setAll is vs σ).length=σ.length
 |[],_,_=>by unfold setAll;rfl
 |_::_,[],_=>by unfold setAll;rfl
 |i::is,v::vs,σ=>by unfold setAll;rw[Zas,List.length_set]
theorem Zlm{tg:Tg}{v:V}{σ:L2.St}{Q:L2.St->Hp->Prop}(h:gT K tg v σ H Q):gT K tg v σ H λσ' H'=>σ'.length=σ.length/\Q σ' H':=by
 cases tg with
 |nm i=>exact⟨List.length_set,h⟩
 |tp is =>
  obtain⟨a,xs,h1,h2,h3,h4⟩:=h
  exact⟨a,xs,h1,h2,h3,Zas _ _ _,h4⟩
theorem EnvR.same{cm:List Addr}{m m':Mem}{H:Hp}{env:Env}{σ:L2.St}(h:EnvR K cm m H env σ)(f:∀t v,RT K cm m H t v->RT K cm m' H t v):EnvR K cm m' H env σ:=λi w e=>by
 obtain⟨v,h1,h2⟩:=h i w e
 refine⟨v,h1,?_⟩
 cases w with
 |t t=>exact f t v h2
 |f a=>exact h2
 |x _ _ _=>exact XF.wsame f h2
 |c i=>exact h2
theorem ZjX{tgt iter:Expr}{body:List Stmt}{tg:Tg}{it:E}{sb:S}(hc:X.calm=true)(hp:PassesOwn (model X.prog X.w) X.A X.env X.xe)(hi:PI X tgt iter (tI X.K call gv xr it))(hg:PG X tgt (gT X.K tg))(ht:∀i∈tgS tg,i<n)(hb:PSs X body (tS X.K call gv xr n sb))(hk:PSs X rest (tS X.K call gv xr n k))(hs:∀x,foldedSetIterable iter X.env x=pure x:=by intro _;rfl):PSs X (.For tgt iter body [] pos::rest) (tS X.K call gv xr n (.forr tg it sb k)):=
 PSs.mono (Qu (Zk8 hp hc hi hg hb hs) hk) λD σ0 H0 ⟨hl0,env0,cm0,m0,hE0,M0,ho⟩=>by
  rw[ex]at ho
  refine⟨env0,cm0,m0,hE0,M0,ho.bind.mono λx cm1 m1 H1 x1 M1 o1=>?_⟩
  cases hbr:ZS x m1 with
  |stuck=>rw[hbr]at o1;exact o1.elim
  |exc e' m' =>
   exfalso
   unfold ZS at hbr
   split at hbr<;>first|(cases hbr;done)|(split at hbr<;>cases hbr)
  |ok ts m2 =>
   rw[hbr]at o1
   obtain⟨xb,Mb⟩:=ZcA M1 hbr
   let g:Flow->Mem->Res Flow:=λfl m=>match fl with
    |.next env=>ex call gv k env (giveBack x m1 m)
    |.ret w=>.ok (.ret w) (giveBack x m1 m)
    |_=>.stuck
   have o1:OkR X.K ((Qh (λenv m=>ex call gv sb env m) tg ts env0 m2).bind g) xr cm1 m1 H1 (λfl cm' m' H'=>JV X.K n D fl cm' m' H'):=o1
   refine⟨ts,m2,rfl,λJ hJ=>?_⟩
   let P:Flow->List Addr->Mem->Hp->Prop:=λfl _ m' _=>OkR X.K (g fl m') xr cm1 m1 H1 (λfl cm' m' H'=>JV X.K n D fl cm' m' H')
   -- behind the walk
   have fin:∀env cm m H σ,σ.length=n->EnvR X.K cm m H env σ->MemR X.K cm m H->Ext cm1 m2 H1 cm m H->P (.next env) cm m H->tS X.K call gv xr n k D σ H:=λenv cm m H σ hl hE M xx hP=>by
    obtain⟨xg,Mg,fg⟩:=ZaJ M1 hbr xx M
    exact⟨hl,env,cm,_,EnvR.same hE fg,Mg,OkR.shift (show OkR X.K (ex call gv k env (giveBack x m1 m)) xr cm1 m1 H1 _ from hP) xg⟩
   refine⟨λi μ σ H=>μ=ts.length-i/\σ.length=n/\∃env cm m,EnvR X.K cm m H env σ/\MemR X.K cm m H/\Ext cm1 m2 H1 cm m H/\OkR X.K (Qh (λenv m=>ex call gv sb env m) tg (ts.drop i) env m) xr cm m H P,⟨ts.length-0,rfl,hl0,env0,cm1,m2,(hE0.ext x1 M0 M1).ext xb M1 Mb,Mb,.refl,?_⟩,?_⟩
   ·rw[List.drop_zero]
    exact OkR.shift o1.bind0 xb
   ·rintro i μ σ H ⟨rfl,hl,env,cm,m,hE,M,xx,hq⟩
    have sJ:=hJ.ext xx Mb M
    cases e:ts[i]? with
    |none =>
     have ed:ts.drop i=[]:=List.drop_eq_nil_iff.mpr (List.getElem?_eq_none_iff.mp e)
     rw[ed,Qh]at hq
     exact .inl ⟨sJ.stop M e,fin env cm m H σ hl hE M xx (OkR.now hq M)⟩
    |some t =>
     have hlt:=(List.getElem?_eq_some_iff.mp e).1
     have ed:ts.drop i=t::ts.drop (i+1):=by
      rw[List.drop_eq_getElem_cons hlt]
      rw[(List.getElem?_eq_some_iff.mp e).2]
     rw[ed,Qh]at hq
     obtain⟨go,hy⟩:=sJ.go M e
     refine .inr ⟨go,λσ' H'=>σ'.length=n/\∃env cm m,EnvR X.K cm m H' env σ'/\MemR X.K cm m H'/\Ext cm1 m2 H1 cm m H'/\OkR X.K (Qh (λenv m=>ex call gv sb env m) tg (ts.drop (i+1)) env m) xr cm m H' P,
      λσ' H' hN=>⟨ts.length-(i+1),by omega,rfl,hN⟩,λv H' y=>?_⟩
     obtain⟨xy,My,rt⟩:=hy v H' y
     have hE:=hE.ext xy M My
     have xx:=xx.trans xy
     have hq:=OkR.shift hq xy
     have M:=My
     split at hq
     ·exact hq.elim
     ·rename_i env' eb
      have:=Zlm (Zm3 (Q:=λσ' H2=>H2=H'/\EnvR X.K cm m H' env' σ') hE (λj hj=>by rw[hl];exact ht j hj) rt eb λσ' hE' _=>⟨rfl,hE'⟩)
      have mono:∀{Q Q':L2.St->Hp->Prop},gT X.K tg v σ H' Q->(∀σ' H',Q σ' H'->Q' σ' H')->gT X.K tg v σ H' Q':=λ{Q Q'} h f=>by
       cases tg with
       |nm j=>exact f _ _ h
       |tp is =>
        obtain⟨a1,xs,z1,z2,z3,z4⟩:=h
        exact⟨a1,xs,z1,z2,z3,f _ _ z4⟩
      refine mono this ?_
      rintro σ2 H2 ⟨hl2,e2,hE2⟩
      subst e2
      refine⟨hl2.trans hl,env',cm,m,hE2,M,hq.bind.mono λfl cm3 m3 H3 x3 M3 o3=>?_⟩
      cases fl with
      |next env3=>exact λσ3 hl3 hE3=>⟨hl3,env3,cm3,m3,hE3,M3,xx.trans x3,o3⟩
      |cont env3=>exact λσ3 hl3 hE3=>⟨hl3,env3,cm3,m3,hE3,M3,xx.trans x3,o3⟩
      |brk env3=>exact λσ3 hl3 hE3=>fin env3 cm3 m3 H3 σ3 hl3 hE3 M3 (xx.trans x3) (OkR.now (a:=Flow.next env3) o3 M3)
      |ret w =>
       intro v3 rv3
       have hP:P (.ret w) cm3 m3 H3:=OkR.now (a:=Flow.ret w) o3 M3
       obtain⟨xg,Mg,fg⟩:=ZaJ M1 hbr (xx.trans x3) M3
       refine OkR.to (a:=Flow.ret w) (m':=giveBack x m1 m3) hP xg Mg v3 ?_
       cases w with
       |t t=>exact fg t v3 rv3
       |f a=>exact rv3
       |x _ _ _=>exact XF.wsame fg rv3
       |c j=>exact rv3
theorem Zf9{elt target iter:Expr}{ifs:List Expr}{gs:List Comprehension}{scope:Scope}{N':List Str}{own:Nat}{keep:List Nat}{it:E}{tg:Tg}{cs:Es}{inner:E}{i:Nat}{x:Str}{px spos:Pos}(hc:X.calm=true)(kk:CompK X xr0 call gv N' scope own keep elt target iter ifs gs it tg cs inner)(hN:X.N.Nodup)(hn:X.N.length=n)(hi:X.N[i]?=some x)(hx:X.env.scope.names.lookup x=some .local)(hk:PSs X rest (tS X.K call gv xr n k))(hsw:swapsWith (.ListComp elt (⟨target,iter,ifs,0⟩::gs) scope pos) (some (.Name x px)) spos.line X.env=pure true:=by rfl):
  PSs X (.Assign [.Name x px] (.ListComp elt (⟨target,iter,ifs,0⟩::gs) scope pos) spos::rest) (tS X.K call gv xr n (.asg i (.comp own keep it tg cs inner) k)):=by
 have h1:PS X (.Assign [.Name x px] (.ListComp elt (⟨target,iter,ifs,0⟩::gs) scope pos) spos) (λD σ H=>∃env cm m m' out,EnvR X.K cm m H env σ/\MemR X.K cm m H/\ev call gv (.comp own keep it tg cs inner) env m=.ok (.t (.lst out)) m' /\
   ∀(p:Addr) (H3:Hp) (cm3:List Addr) (vs:List V),H3 p=none->X.K.lookup p=none->Ext cm m H cm3 m' H3->MemR X.K cm3 m' H3->RTs X.K cm3 m' H3 out vs->D.nx (σ.set i (some (.ref p))) (upd H3 p (.lst vs))):=
  λpins s σ H D I ⟨env,cm,m,m',out,hE,M,ok,q⟩=>ZkN hc kk hN hi hx hsw I hE M ok q
 refine PSs.mono (Qu h1 hk) ?_
 rintro D σ H ⟨hl,env,cm,m,hE,M,ho⟩
 rw[ex]at ho
 cases h:ev call gv (.comp own keep it tg cs inner) env m with
 |stuck=>rw[h]at ho;exact ho.elim
 |exc e m'=>exact absurd h (Zda e m')
 |ok w m' =>
  obtain⟨out,rfl⟩:=ZeT h
  rw[h]at ho
  refine⟨env,cm,m,m',out,hE,M,h,λp H3 cm3 vs hp _ x3 M3 r3=>?_⟩
  have hi':i<σ.length:=by rw[hl,<-hn];exact(List.getElem?_eq_some_iff.mp hi).1
  have x4:=x3.trans (Ext.new (o:=.lst vs) hp)
  have M4:=M3.new (o:=.lst vs) hp
  exact⟨by rw[List.length_set];exact hl,_,cm3,m',EnvR.set (w:=.t (.lst out)) (hE.ext x4 M M4) (RT.newLst M3 r3 hp) i hi',M4,OkR.shift (show OkR X.K (ex call gv k (env.set i (some (.t (.lst out)))) m') xr cm m H _ from ho) x4⟩
end
noncomputable def Ahead(h:Heap)(e:Addr)(mk hd:Value):Prop:=hd=.none∨∃T oT ts,hd=.ref T/\T≠e/\h.get? T=some oT/\oT.data=.fields ts/\ts[3]?=some mk
theorem Zbs{o:Obj}{vs:Array Value}(h:o.data=.fields vs)(f:Array Value->Array Value):o.mapFields f={ o with data:=.fields (f vs) }:=by
 obtain⟨c,d,dt,sl⟩:=o
 cases h
 rfl
structure Noted (fr:List Addr) (h:Heap) (e:Addr) (oe:Obj) (mk:Value) (h':Heap):Prop where
 keep:∀b o,b∉fr->b≠e->h.get? b=some o->h'.get? b=some o
 slot:∀b o,b∈fr->h.get? b=some o->∃sl,h'.get? b=some { o with slots:=sl }
 new:∃T oT ts vs,h.get? T=none/\T≠e/\h'.get? T=some oT/\oT.data=.fields ts/\ts[3]?=some mk/\h'.get? e=some { oe with data:=.fields vs }/\vs[1]?=some (.ref T)
section
variable{M:Model}{A:Around}{E:Value->Shared->Prop}{s:Shared}{base:Heap}{env:PySem.Env}{outer:List PySem.Env}{L e:Addr}{oe:Obj}{vs:Array Value}{hd:Value}{Q:Unit->Shared->Prop}
theorem Zi6{before:Bool}(hfr:A.frames=some (env::outer))(hl:s.heap.FunFrames base (env::outer))(hf:env.frame=some L)(he:s.heap.get? e=some oe)(hv:oe.data=.fields vs)(h1:1<vs.size)(k:∀h':Heap,Noted (frs (env::outer)) s.heap e oe (rawInt L) h'->Q () { s with heap:=h' }):
  wpAny M A (do
   let a <-frameOf env
   let pl <-entryPlaceOf L before
   let b <-EntryCells.newEntry hd a .none (rawInt L) .none pl
   setField (.ref e) 1 b) Q E s:=by
 have ne:e∉frs (env::outer):=λhm=>by
  obtain⟨_,o,q,nf⟩:=hl.mem hm
  rw[he]at q;cases q
  exact nf vs hv
 refine wpAny_bind (wpAny_frameOf_fun hfr hl hf λh1' so=>?_)
 refine wpAny_bind (wpAny_entryPlaceOf λpl hp=>?_)
 unfold EntryCells.newEntry newFields
 refine wpAny_bind (wpAny_newObj_type ?_ (hp.sizeOk5 _ _ _ _ _))
 have e1:h1'.get? e=some oe:=(so.2.1 e ne).trans he
 generalize hob:({ cls:=.type "traceback",dict:=none,data:=.fields ([hd,.ref L,.none,rawInt L,.none]++(if pl.isEmpty then List.replicate 6 Value.none else pl)).toArray }:Obj)=ob
 have e2:=Heap.get?_push_of_some (h:=h1') ob e1
 have obf:ob.isFreed=false:=by rw[<-hob];rfl
 refine wpAny_setField e2 hv h1 (k _ ?_)
 have nT:h1'.objs.size≠e:=Nat.ne_of_gt (Heap.lt_size e1)
 have kp:∀b o,b≠e->h1'.get? b=some o->((h1'.push ob).update e (Obj.mapFields (·.setIfInBounds 1 (Value.ref h1'.objs.size)))).get? b=some o:=λb o hb q=>by
  rw[Heap.get?_update_other _ _ (Ne.symm hb)]
  exact Heap.get?_push_of_some _ q
 refine⟨λb o hb hbe q=>kp b o hbe ((so.2.1 b hb).trans q),λb o hb q=>?_,?_⟩
 ·obtain⟨sl,z⟩:=so.2.2 b o q
  exact⟨sl,kp b _ (λy=>ne (y▸hb)) z⟩
 ·refine⟨h1'.objs.size,ob,_,vs.setIfInBounds 1 (Value.ref h1'.objs.size),Heap.get?_none_of_le (by rw[so.1];exact Nat.le_refl _),nT,?_,by rw[<-hob],?_,?_,?_⟩
  ·rw[Heap.get?_update_other _ _ (Ne.symm nT)]
   exact Heap.get?_push_size _ obf
  ·simp
  ·rw[Heap.get?_update_self _ e2 (Obj.isFreed_of_fields (Obj.data_mapFields hv _)),Zbs hv]
  ·simp[h1]
theorem note_x(hfr:A.frames=some (env::outer))(hl:s.heap.FunFrames base (env::outer))(hf:env.frame=some L)(he:s.heap.get? e=some oe)(hv:oe.data=.fields vs)(h1:vs[1]?=some hd)(ah:Ahead s.heap e .none hd)(k:∀h':Heap,Noted (frs (env::outer)) s.heap e oe (rawInt L) h'->Q () { s with heap:=h' }):wpAny M A (noteFrame (.ref e) env) Q E s:=by
 have hz:1<vs.size:=(Array.getElem?_eq_some_iff.mp h1).1
 unfold noteFrame
 simp only[hf]
 refine wpAny_bind (wpAny_field he hv h1 ?_)
 rcases ah with rfl|⟨T,oT,ts,rfl,ne,hT,dT,mT⟩
 ·rw[if_neg (by decide)]
  exact Zi6 hfr hl hf he hv hz k
 ·rw[if_pos (show(Value.ref T != Value.none)=true from by simp)]
  refine wpAny_bind (wpAny_field hT dT mT ?_)
  rw[if_neg (show ¬((Value.none==rawInt L)=true)from by simp[rawInt])]
  refine wpAny_bind (wpAny_setField hT dT (Array.getElem?_eq_some_iff.mp mT).1 ?_)
  rw[Heap.update_setField_same s.heap T oT ts 3 .none hT dT mT]
  exact Zi6 hfr hl hf he hv hz k
theorem Zkz{T:Addr}{oT:Obj}{ts:Array Value}{mk:Value}(he:s.heap.get? e=some oe)(hv:oe.data=.fields vs)(h1:vs[1]?=some (.ref T))(hT:s.heap.get? T=some oT)(dT:oT.data=.fields ts)(mT:ts[3]?=some mk)(k:∀h':Heap,(∀b,b≠T->h'.get? b=s.heap.get? b)->h'.get? T=some { oT with data:=.fields (ts.setIfInBounds 3 .none) }->Q () { s with heap:=h' }):wpAny M A (setFlight (.ref e) none) Q E s:=by
 unfold setFlight
 refine wpAny_bind (wpAny_field he hv h1 ?_)
 rw[if_pos (show(Value.ref T != Value.none)=true from by simp)]
 refine wpAny_setField hT dT (Array.getElem?_eq_some_iff.mp mT).1 (k _ (λb hb=>Heap.get?_update_other _ _ (Ne.symm hb)) ?_)
 rw[Heap.get?_update_self _ hT (Obj.isFreed_of_fields (Obj.data_mapFields dT _)),Zbs dT]
 rfl
end
noncomputable def xeP(e C:Addr)(dx:Option Addr)(hd:Value)(h:Heap):Prop:=∃oe vs,h.get? e=some oe/\oe.cls=.ref C/\oe.dict=dx/\oe.data=.fields vs/\vs[1]?=some hd
noncomputable def xtP(T:Addr)(h:Heap):Prop:=∃oT ts,h.get? T=some oT/\oT.data=.fields ts/\ts[3]?=some .none
noncomputable def xeO(e C:Addr)(dx:Option Addr)(hd:Value):HO:=.ext (xeP e C dx hd)
theorem ZlD{P:Program}{w:World}{H:Hp}{h:Heap}{e C:Addr}{dx:Option Addr}{hd:Value}(x:xeP e C dx hd h):Qc P w H h e (xeO e C dx hd):=by
 refine⟨x,?_,λh1 h2 ⟨oe,vs,q,r⟩ k=>⟨oe,vs,k _ q,r⟩⟩
 obtain⟨oe,vs,q,r⟩:=x
 exact⟨oe,q⟩
theorem Zlk{P:Program}{w:World}{H:Hp}{h:Heap}(ok:HOk P w H h){b:Addr}{u:HO}(q:H b=some u):∃o,h.get? b=some o:=by
 cases u with
 |lst xs=>obtain⟨_,_,_,_,z⟩:=ok b _ q;exact⟨_,z⟩
 |tup xs=>obtain⟨_,_,_,o,z,_⟩:=ok b _ q;exact⟨_,z⟩
 |dK kvs=>obtain⟨_,_,_,_,o,_,_,z,_⟩:=ok b _ q;exact⟨_,z⟩
 |dT kvs=>obtain⟨_,_,_,_,o,_,_,z,_⟩:=ok b _ q;exact⟨_,z⟩
 |set S n=>obtain⟨o,_,_,_,z,_⟩:=ok b _ q;exact⟨_,z⟩
 |ins C dx fs=>obtain⟨_,_,_,z,_⟩:=ok b _ q;exact⟨_,z⟩
 |own y=>exact ok b _ q
 |xd fs=>obtain⟨_,⟨_,_,_,z,_⟩,_⟩:=ok b _ q;exact⟨_,z⟩
 |rng lo hi=>obtain⟨_,_,_,z⟩:=ok b _ q;exact⟨_,z⟩
 |frz ob u=>obtain⟨z,_⟩:=ok b _ q;exact⟨_,z⟩
 |tbl ps=>exact⟨_,ok b _ q⟩
 |met f y=>exact⟨_,ok b _ q⟩
 |ext φ=>obtain⟨_,z,_⟩:=ok b _ q;exact z
theorem ZiN{P:Program}{w:World}{H:Hp}{h:Heap}(ok:HOk P w H h){b:Addr}(n:h.get? b=none):H b=none:=by
 cases q:H b with
 |none=>rfl
 |some u =>
  obtain⟨o,z⟩:=Zlk ok q
  rw[n]at z;cases z
structure Air (P:Program) (w:World) (fr:List Addr) (H:Hp) (s:Shared) (H':Hp) (e C:Addr) (dx:Option Addr) (s':Shared):Prop where
 os:s'.os=s.os
 bare:AllBare s'.gens
 un:Un fr [] H H' s.heap s'.heap
 hok:HOk P w H' s'.heap
 no:H' e=none
 new:s.heap.get? e=none
 at':∃hd,xeP e C dx hd s'.heap/\(hd=.none∨∃T,hd=.ref T/\T≠e/\xtP T s'.heap)
section
variable{P:Program}{w:World}{M:Model}{A:Around}{E:Value->Shared->Prop}{s s':Shared}{H H':Hp}{base:Heap}{env:PySem.Env}{outer:List PySem.Env}{L e C:Addr}{dx:Option Addr}{Q:Unit->Shared->Prop}
theorem land(a:Air P w (frs (env::outer)) H s H' e C dx s')(fre:∀b∈frs (env::outer),H' b=none)(hfr:A.frames=some (env::outer))(hl:s'.heap.FunFrames base (env::outer))(hf:env.frame=some L)(k:∀(h':Heap) (T:Addr),Air P w (frs (env::outer)) H s H' e C dx { s' with heap:=h' }->xeP e C dx (.ref T) h'->xtP T h'->T≠e->Q () { s' with heap:=h' }):
  wpAny M A (noteFrame (.ref e) env) (λ_ s1=>wpAny M A (setFlight (.ref e) none) Q E s1) E s':=by
 obtain⟨hd,⟨oe,vs,q1,q2,q3,q4,q5⟩,ah⟩:=a.at'
 refine note_x hfr hl hf q1 q4 q5 ?_ λh1 N=>?_
 ·rcases ah with rfl|⟨T,rfl,ne,oT,ts,z⟩
  ·exact .inl rfl
  ·exact .inr ⟨T,oT,ts,rfl,ne,z⟩
 obtain⟨T,oT,ts,vs',a1,a2,a3,a4,a5,a6,a7⟩:=N.new
 refine Zkz (s:={ s' with heap:=h1 }) a6 rfl a7 a3 a4 a5 λh2 k2 hT=>?_
 have neT:∀b o,s'.heap.get? b=some o->b≠T:=λb o q z=>by rw[z,a1]at q;cases q
 have kp:∀b o,b∉frs (env::outer)->b≠e->s'.heap.get? b=some o->h2.get? b=some o:=λb o hb hbe q=>(k2 b (neT b o q)).trans (N.keep b o hb hbe q)
 have sl:∀b o,b∈frs (env::outer)->s'.heap.get? b=some o->∃sl,h2.get? b=some { o with slots:=sl }:=λb o hb q=>by
  obtain⟨sl,z⟩:=N.slot b o hb q
  exact⟨sl,(k2 b (neT b o q)).trans z⟩
 have nb:∀b o,s.heap.get? b=some o->b≠e:=λb o q z=>by rw[z,a.new]at q;cases q
 have xe2:xeP e C dx (.ref T) h2:=⟨_,vs',(k2 e (Ne.symm a2)).trans a6,q2,q3,rfl,a7⟩
 have xt2:xtP T h2:=⟨_,_,hT,rfl,by simp[(Array.getElem?_eq_some_iff.mp a5).1]⟩
 refine k h2 T ⟨a.os,a.bare,⟨λb o q n hb hx=>kp b o hb (nb b o q) (a.un.keep b o q n hb hx),λb o q n hb hx=>?_,a.un.free,λb o q hx=>?_,a.un.tups,a.un.frzs,a.un.tbls⟩,λb u q=>?_,a.no,a.new,_,xe2,.inr ⟨T,rfl,a2,xt2⟩⟩ xe2 xt2 a2
 ·obtain⟨s1,e1⟩:=a.un.slot b o q n hb hx
  obtain⟨s2,e2⟩:=sl b _ hb e1
  exact⟨s2,e2⟩
 ·obtain⟨o',e1⟩:=a.un.there b o q hx
  by_cases hb:b∈frs (env::outer)
  ·obtain⟨s2,e2⟩:=sl b _ hb e1
   exact⟨_,e2⟩
  ·exact⟨_,kp b o' hb (nb b o q) e1⟩
 ·refine(a.hok b u q).stay (λc v hc r=>kp c v ?_ ?_ r) (λ_ z=>z) λ_ _ z=>z
  ·intro hm
   rcases hc with rfl|hc
   ·rw[fre _ hm]at q;cases q
   ·rw[fre _ hm]at hc;cases hc
  ·rintro rfl
   rcases hc with rfl|hc
   ·rw[a.no]at q;cases q
   ·rw[a.no]at hc;cases hc
theorem ZiA(a:Air P w (frs (env::outer)) H s H' e C dx s')(fre:∀b∈frs (env::outer),H' b=none)(hfr:A.frames=some (env::outer))(hl:s'.heap.FunFrames base (env::outer))(hf:env.frame=some L)(k:∀h':Heap,Air P w (frs (env::outer)) H s H' e C dx { s' with heap:=h' }->Q () { s' with heap:=h' }):wpAny M A (leaving env (.ref e)) Q E s':=by
 unfold leaving
 exact wpAny_bind (land a fre hfr hl hf λh' T a' _ _ _=>k h' a')
end
noncomputable def CXF(P:Program)(w:World):CXT:=λouter H s E ev s'=>∃e C dx H',ev=.ref e/\Air P w (frs outer) H s H' e C dx s'/\E (.ref C) dx H'
noncomputable def Lk(X:Cx)(xr:XR):Prop:=∀(pins:List (Addr×Obj)) (σ:L2.St) (H:Hp) (s:Shared) (H':Hp) (e:Addr) (dx:Option Addr) (s':Shared) (cm:List Addr) (m:Mem) (x:Exc),Inv X pins σ H s ->
 Air X.prog X.w (frs X.stack) H s H' e x.cls dx s'->MemR X.K cm m H'->XF X.K cm m H' x.nms x.flds dx->xr x cm m H'->X.xe (.ref e) s'
theorem lk0{X:Cx}:Lk X xr0:=λ_ _ _ _ _ _ _ _ _ _ _ _ _ _ _ h=>h.elim
noncomputable abbrev asX(X:Cx)(xe:Value->Shared->Prop)(pn:List (Addr×Obj)):Cx:={ X with xe:=xe,pn:=pn }
structure Go (X:Cx) (xr:XR):Prop where
 lk:Lk X xr
 po:PassesOwn (model X.prog X.w) X.A X.env X.xe
section
variable{K:Frag}{cm cm':List Addr}{m m':Mem}{H H' H'':Hp}{X:Cx}
variable(K) in
noncomputable def xrE(E:XK):XR:=λx cm m H=>∀dx,XF K cm m H x.nms x.flds dx->E (.ref x.cls) dx H
variable(K) in
noncomputable def EX(xr:XR):XK:=λcls dx H=>∃cm m x,MemR K cm m H/\cls=.ref x.cls/\XF K cm m H x.nms x.flds dx/\xr x cm m H
theorem Lk.passes{xr:XR}(h:Lk X xr):Zjv (CXF X.prog X.w) X (EX X.K xr):=λpins σ H s ev s' I ⟨e,C,dx,H',he,air,cm,m,x,M,hc,hf,q⟩=>by
 subst he
 cases hc
 exact h pins σ H s H' e dx s' cm m x I air M hf q
theorem OkR.monoX{α:Type}{r:Res α}{xr xr':XR}{k:α->List Addr->Mem->Hp->Prop}(h:OkR K r xr cm m H k)(f:∀x cm' m' H',Ext cm m H cm' m' H'->MemR K cm' m' H'->xr x cm' m' H'->xr' x cm' m' H'):OkR K r xr' cm m H k:=by
 cases r with
 |ok a m2=>exact h
 |exc a m2=>exact λc h' e M=>f _ _ _ _ e M (h c h' e M)
 |stuck=>exact h
theorem OkR.toE{α:Type}{r:Res α}{xr:XR}{k:α->List Addr->Mem->Hp->Prop}(h:OkR K r xr cm m H k):OkR K r (xrE K (EX K xr)) cm m H k:=
 h.monoX λx cm' m' H' _ M q dx hf=>⟨cm',m',x,M,rfl,hf,q⟩
theorem ZlK{fs:List Addr}{H0 H1 H2:Hp}{h0 h1 h2:Heap}{L:Addr}(a:Un fs [] H0 H1 h0 h1)(b:Un (L::fs) [] H1 H2 h1 h2)(hL:h0.get? L=none):Un fs [] H0 H2 h0 h2 where
 keep:=λc ob q n hc hx=>b.keep c ob (a.keep c ob q n hc hx) (a.free c ob q n hx) (λz=>(List.mem_cons.mp z).elim (λz=>by rw[z,hL]at q;cases q) hc) hx
 slot:=λc ob q n hc hx=>by
  obtain⟨sl,e1⟩:=a.slot c ob q n hc hx
  obtain⟨sl',e2⟩:=b.slot c _ e1 (a.free c ob q n hx) (List.mem_cons_of_mem _ hc) hx
  exact⟨sl',e2⟩
 free:=λc ob q n hx=>by
  obtain⟨o',e1⟩:=a.there c ob q hx
  exact b.free c o' e1 (a.free c ob q n hx) hx
 there:=λc ob q hx=>by
  obtain⟨o',e1⟩:=a.there c ob q hx
  exact b.there c o' e1 hx
 tups:=λc xs q=>b.tups c xs (a.tups c xs q)
 frzs:=λc ob xs q=>b.frzs c ob xs (a.frzs c ob xs q)
 tbls:=λc ps q=>by
  obtain⟨m1,e1⟩:=a.tbls c ps q
  obtain⟨m2,e2⟩:=b.tbls c _ e1
  exact⟨m1++m2,by rw[e2,Array.append_assoc]⟩
end
theorem Inv.air{X:Cx}{pins:List (Addr×Obj)}{σ:L2.St}{H H':Hp}{s s':Shared}{e C:Addr}{dx:Option Addr}(I:Inv X pins σ H s)(a:Air X.prog X.w (frs X.stack) H s H' e C dx s'):Inv X pins σ H' s':=
 I.call' (ch:=[]) a.os a.un a.hok a.bare λb z=>absurd z (by simp)
theorem Zm2{P:Program}{w:World}{K:Frag}{mg:Str->Option Value}{base:Heap}{N:List Str}{qual:Str}{scope:Scope}{f:Addr}{cd:Value}{A:Around}{outer:List PySem.Env}{s:Shared}{H:Hp}{E:XK}:
  Go (cxOf (CXF P w) P w K mg base N qual scope f cd A outer s H E) (xrE K E):=by
 refine⟨λpins σ H1 s1 H' e dx s' cm m x I a M hf q=>?_,PassesOwn.leaving⟩
 have I':=Inv.air I a
 have gone:s.heap.get? e=none:=by
  cases y:s.heap.get? e with
  |none=>rfl
  |some o =>
   obtain⟨o',y'⟩:=I.base.there e o y (by intro z;cases z)
   rw[a.new]at y';cases y'
 refine ZiA a I'.stkFree I'.ok.frames I'.stack rfl λh' a'=>?_
 exact⟨e,x.cls,dx,H',rfl,⟨I'.os,a'.bare,ZlK I.base a'.un (Heap.get?_none_of_le (Nat.le_refl _)),a'.hok,a'.no,gone,a'.at'⟩,q dx hf⟩
theorem Zm4{P:Program}{w:World}{K:Frag}{mg:Str->Option Value}{base:Heap}{x qual:Str}{st:Stmt}{f:Addr}{fd:FuncData}{N ps:List Str}{k:Nat}{sp:Sp}(F:Fun K x qual st f fd)(S:FnScope N ps (Zc st))(len:∀vs H Q E,sp vs H Q E->vs.length=ps.length)(hbody:∀(cdv:Value) (A:Around) (outer:List PySem.Env) (s:Shared) (H:Hp) (vs:List V) (Q:VK) (E:XK),Room k (A.deeper (envOfC qual (Zc st) s.heap.objs.size f cdv))->HOk P w H s.heap->sp vs H Q E ->
  ∃t,PSs (cxOf (CXF P w) P w K mg base N qual (Zc st) f cdv A outer s H E) (Ql st) t/\t { nx:=λ_ H'=>Q .non H',rt:=Q } (start N vs) H):FnOk P w K mg base (CXF P w) (k+1) f fd ps sp:=by
 obtain⟨oc,od,kV,doc,pm,an,cdv,ct,osl,rfl,lk,hcd⟩:=F.ex
 exact fn_of lk hcd S len λA outer s H vs Q E hr hk hsp=>hbody cdv A outer s H vs Q E hr hk hsp
end Mi
namespace Mi
open PySem PySem.Spec PyProof.Rows L2 PySem.W PySem.Builtin.ObjectAttr
section
variable{prog:Program}{w:World}{A:Around}{R:Result->Shared->Prop}{h:Heap}{g:Array GenState}{d:Drawn}{t:Nat}{os:OsState}
variable{nm q:Str}{C N f:Addr}{bs bm bmB:List Value}{hdct:Bool}{sn:List Str}{sub:List Value}{ab:Bool}{col:Option Bool}{dd:Option Addr}{k0 k1 k2 k3 k5:Option Value}{B newId initId:String}
noncomputable abbrev newX(C t:Addr):Obj:={ cls:=.ref C,data:=.fields #[.ref t,.none,.none,.none,.bool false,.none] }
noncomputable abbrev tupX(us:List Value):Obj:={ cls:=.type "tuple",data:=.seq us.toArray }
theorem make_x{us:List Value}(F:ExcBaseFacts B newId initId bmB)(T:OwnTail h bmB bm)(hC:h.get? C=some (excClassObj nm q C N bs bm hdct sn sub ab col dd k0 k1 k2 k3 k5 newId))(hi:Looks (model prog w) h (typeLookup (.ref C) "__init__") (some (.ref f)))(hb:∀self,Looks (model prog w) h (bindSpecial (.ref f) self) (.ref f,[self]))(hq:codeAny (model prog w) (A.under (.builtin "type.__call__" ⟨.ref C::us,[]⟩)) (.call (.ref f) ⟨.ref (h.objs.size+1)::us,[]⟩) (InitBack (h.objs.size+1) R) ⟨(h.push (tupX us)).push (newX C h.objs.size),g,d,t,os⟩)(hz:us.length<=sizeLine):codeAny (model prog w) A (.call (.ref C) ⟨us,[]⟩) R ⟨h,g,d,t,os⟩:=by
 have f1:=tc_lookup
 have f2:=tc_bind (.ref C)
 have hT:(⟨h,g,d,t,os⟩:Shared).TypeIs (.ref C) "type":=⟨_,hC,rfl⟩
 refine codeAny_of_tree ?_;show wpAny _ _ (callAny (.ref C) _) _ _ _
 repeat (any_goals (first|assumption|with_reducible refine wpAny_loadPart_at hC ?_|wp_step))
 refine And.intro rfl (codeAny_call_builtin_at (Code.quiet_builtin _ (by decide +kernel)) entry_typeCall (wpAny_check_type_call_sub hC ?_))
 repeat (first|with_reducible refine wpAny_madeBy_exc hC ?_|with_reducible refine wpAny_loadPart_at hC ?_|wp_step)
 refine codeAny_call_builtin_code (Code.quiet_builtin _ F.quiet) (wpAny_check_new_subT F T hC (codeAny_exc_new_subT F T hC ?_ hz))
 show wpAny (model prog w) (A.under (.builtin "type.__call__" ⟨.ref C::us,[]⟩)) _ _ _ ⟨(h.push (tupX us)).push (newX C h.objs.size),g,d,t,os⟩
 have k:∀b o,h.get? b=some o->((h.push (tupX us)).push (newX C h.objs.size)).get? b=some o:=λb o e=>Heap.get?_push_of_some _ (Heap.get?_push_of_some _ e)
 have hC1:=k _ _ hC
 have hx:((h.push (tupX us)).push (newX C h.objs.size)).get? (h.objs.size+1)=some (newX C h.objs.size):=by heap_get
 have hcC:(Value.ref C::bm).contains (.ref C)=true:=by simp
 have i1:=hi.keeps k
 have b1:=(hb (.ref (h.objs.size+1))).keeps k
 have t1:Looks (model prog w) ((h.push (tupX us)).push (newX C h.objs.size)) (typeOf (.ref (h.objs.size+1))) (.ref C):=(Looks.ld hx).andThen .now
 have s1:Looks (model prog w) ((h.push (tupX us)).push (newX C h.objs.size)) (isSubtype (.ref C) (.ref C)) true:=λA Q E s kk q0=>wpAny_isSubtype_exc (kk _ _ hC1) (by rw[hcC];exact q0)
 clear hT hC hC1 hi hb T
 unfold isInstance callSpecial? specialOf;repeat (first|with_reducible refine wpAny_call ?_|lk)
 refine codeAny_mono hq λr s' z=>?_
 rcases r with e|(v|_|_|_)
 ·exact z
 ·exact z.elim
 ·exact z.elim
 ·exact z.elim
 ·obtain⟨rfl,z⟩:=z;exact wpAny_pure (wpAny_pure z)
end
noncomputable def ZgT:List Value->Bool
 |.ref _::r=>ZgT r
 |l=>l==[.type "ValueError",.type "Exception",.type "BaseException",.type "object"]
noncomputable def ZmD(K:Frag)(C:Addr):Bool:=(clsIn K C).any λcd=>ZgT cd.mro
theorem Zf4(self:Value):∀{l:List Value},ZgT l=true->refuseLoop self "__setattr__" l=pure ()
 |l,e=>by
  unfold ZgT at e
  split at e
  ·rw[refuseLoop_ref];exact Zf4 self e
  ·rw[eq_of_beq e];exact PySem.F.store_ValueError.passes self
theorem V_has:∀{l:List Value},ZgT l=true->l.contains (.type "object")=true
 |l,e=>by
  unfold ZgT at e
  split at e
  ·rw[List.contains_cons,V_has e,Bool.or_true]
  ·rw[eq_of_beq e];decide
theorem set_x{prog:Program}{w:World}{A:Around}{E:Value->Shared->Prop}{K:Frag}{s:Shared}{x C:Addr}{ox:Obj}{vs:Array Value}{name:Str}{v:Value}{Q:Unit->Shared->Prop}(X:K.In s.heap)(hx:s.heap.get? x=some ox)(hc:ox.cls=.ref C)(hdn:ox.dict=none)(hv:ox.data=.fields vs)(hs:findIn K (.ref C) "__setattr__" = some (some (.builtin "object.__setattr__")))(ho:ZmD K C=true)(hn:findIn K (.ref C) name=some none)(hh:hasDictIn K C=true)(k:∀(h':Heap) (tk:Nat),h'.Ns1 s.heap.objs.size (λy=>if y=name then some v else none)->h'.get? x=some { ox with dict:=some s.heap.objs.size }->(∀b o,b≠x->s.heap.get? b=some o->h'.get? b=some o)->Q () { s with heap:=h',toks:=tk }):
  wpAny (model prog w) A (setAttr (.ref x) name v) Q E s:=by
 have nc:notCls ox=true:=by unfold notCls;rw[hv]
 have I:InstAt s.heap x ox C none:=⟨hx,hc,nc,by rw[hdn];trivial⟩
 refine set_plain X I hs ?_
 have SF:=PySem.F.store_object
 obtain⟨cd,hcd,hov⟩:=any_some ho
 have sub:Looks (model prog w) s.heap (isInstance (.ref x) (.type "object")) true:=I.type.andThen (looks_mroIn X (by
  unfold mroIn
  rw[hcd,Option.bind_some,if_neg ?_,V_has hov]
  cases q:cd.mro with
  |nil=>rw[q]at hov;exact absurd hov (by decide)
  |cons a r=>simp))
 refine codeAny_call_builtin SF.slot.plain SF.entry (@check_slot (model prog w) _ _ { s with toks:=s.toks+1 } "object.__setattr__" "object" "__setattr__" (.ref x) [.str name s.toks,v] [] _ SF.kind SF.split sub (SF.args (.ref x) (.str name s.toks) v) ?_)
 rw[osa_eq,refuse_eq]
 refine wpAny_bind (wpAny_bind (I.type.here (s:={ s with toks:=s.toks+1 }) (wpAny_bind (Looks.here (s:={ s with toks:=s.toks+1 }) ((looks_clsIn X hcd).andThen .now) ?_))))
 rw[Zf4 _ hov]
 refine wpAny_pure (wpAny_bind (I.type.here (s:={ s with toks:=s.toks+1 }) (wpAny_bind (Looks.here (s:={ s with toks:=s.toks+1 }) (looks_findIn X hn) (wpAny_bind (wpAny_pure ?_))))))
 obtain⟨oc,od,odt,osl⟩:=ox
 dsimp only at hc hdn hv
 subst hc hdn hv
 obtain⟨cd2,hcd2,hhd⟩:=any_some hh
 refine wpAny_bind (wpAny_pure (wpAny_bind (wpAny_bind (wpAny_loadPart (s:={ s with toks:=s.toks+1 }) hx (wpAny_bind (Looks.here (s:={ s with toks:=s.toks+1 }) (looks_clsIn X hcd2) ?_))))))
 rw[hhd]
 have hx1:(s.heap.push { cls:=.type "dict",data:=.dict #[] }).get? x=some ⟨.ref C,none,.fields vs,osl⟩:=Heap.get?_push_of_some _ hx
 have hxs:x≠s.heap.objs.size:=Nat.ne_of_lt (Heap.lt_size hx)
 refine wpAny_bind (wpAny_alloc' ?_)
 refine wpAny_bind (wpAny_update' hx1 ?_)
 refine wpAny_pure ?_
 generalize hG:((s.heap.push { cls:=.type "dict",data:=.dict #[] }).update x λo=>{ cls:=o.cls,dict:=some s.heap.objs.size,data:=o.data,slots:=o.slots })=G
 have gd:G.get? s.heap.objs.size=some { cls:=.type "dict",data:=.dict #[] }:=by
  rw[<-hG]
  exact(Heap.get?_update_ne _ _ _ _ hxs.symm).trans (Heap.get?_push_at rfl rfl)
 have gx:G.get? x=some ⟨.ref C,some s.heap.objs.size,.fields vs,osl⟩:=by
  rw[<-hG]
  exact Heap.get?_update_self _ hx1 rfl
 have gb:∀b o,b≠x->s.heap.get? b=some o->G.get? b=some o:=λb o hb q=>by
  rw[<-hG]
  exact(Heap.get?_update_ne _ _ _ _ hb).trans (Heap.get?_push_of_some _ q)
 have gn:G.Ns s.heap.objs.size (λ_=>none):=⟨_,#[],_,gd,rfl,λe he=>absurd he (by simp),λ_=>rfl⟩
 show wpAny _ _ (storeInDict s.heap.objs.size (.str name s.toks) name v) _ _ { s with heap:=G,toks:=s.toks+1 }
 unfold storeInDict newKeyGuard
 refine wpAny_bind (wpAny_pure (wpAny_bind (wpAny_nsSet1 (Heap.Ns1.of_empty gn) λh' hn' hs'=>?_)))
 obtain⟨oD,esD,epD,hoD,hdD,hcD⟩:=hn'.count (Within.cons name v Within.nil)
 refine wpAny_bind (wpAny_lookBehind hoD (by rw[hdD];exact pastItsLine_dict (Nat.le_trans hcD (by rw[List.length_cons,List.length_nil,sizeLine_eq];omega))) ?_)
 refine wpAny_pure (k h' _ hn' ((hs'.2 x hxs).trans gx) λb o hb q=>(hs'.2 b (Nat.ne_of_lt (Heap.lt_size q))).trans (gb b o hb q))
structure XSet (K:Frag) (C:Addr) (f:Str):Prop where
 sa:findIn K (.ref C) "__setattr__" = some (some (.builtin "object.__setattr__"))
 ov:ZmD K C=true
 na:findIn K (.ref C) f=some none
 hd:hasDictIn K C=true
noncomputable def setH(H:Hp)(e C d:Addr)(f:Str)(y:V):Hp:=upd (upd H d (.xd [(f,y)])) e (xeO e C (some d) .none)
theorem ZlC{P:Program}{w:World}{H:Hp}{h h':Heap}{fs:List Addr}{e C d:Addr}{dx:Option Addr}{hd:Value}{f:Str}{y:V}{u:Value}(ok:HOk P w H h)(he:H e=some (xeO e C dx hd))(nd:h.get? d=none)(ry:RelV y u)(hn:h'.Ns1 d (λz=>if z=f then some u else none))(hx:xeP e C (some d) .none h')(kp:∀b o,b≠e->h.get? b=some o->h'.get? b=some o):HOk P w (setH H e C d f y) h'/\Un fs [] H (setH H e C d f y) h h':=by
 have nH:=ZiN ok nd
 have ne:d≠e:=λz=>by rw[z,he]at nH;cases nH
 have at':∀b u,H b=some u->b≠e->setH H e C d f y b=some u:=λb u q n=>by unfold setH;rw[Zi n,Zi (λz=>by rw[z,nH]at q;cases q)];exact q
 have no:∀b u,H b=some u->(∀φ,u≠.ext φ)->b≠e:=λb u q n z=>by rw[z,he]at q;cases q;exact n _ rfl
 refine⟨λb u q=>?_,⟨λb o q n _ _=>kp b o (λz=>by rw[z,he]at n;cases n) q,λb o q n _ _=>⟨o.slots,kp b o (λz=>by rw[z,he]at n;cases n) q⟩,λb o q n _=>?_,λb o q _=>?_,λb xs q=>at' b _ q (no b _ q λ_ z=>by cases z),λb o u q=>at' b _ q (no b _ q λ_ z=>by cases z),λb ps q=>⟨#[],by rw[at' b _ q (no b _ q λ_ z=>by cases z)];simp⟩⟩⟩
 ·by_cases h1:b=e
  ·subst h1
   unfold setH at q
   rw[Zk]at q;cases q
   exact ZlD hx
  ·by_cases h2:b=d
   ·subst h2
    unfold setH at q
    rw[Zi h1,Zk]at q;cases q
    refine⟨_,hn,λg=>?_⟩
    by_cases hg:g=f
    ·subst hg
     simp only[if_pos,List.lookup,beq_self_eq_true]
     exact ry
    ·have hb:(g==f)=false:=beq_eq_false_iff_ne.mpr hg
     simp only[if_neg hg,List.lookup,hb]
     trivial
   ·have q':H b=some u:=by unfold setH at q;rw[Zi h1,Zi h2]at q;exact q
    refine(ok b u q').stay (λc v hc r=>kp c v ?_ r) (λc r=>at' c _ r (no c _ r λ_ z=>by cases z)) λc xs r=>at' c _ r (no c _ r λ_ z=>by cases z)
    rcases hc with rfl|hc
    ·exact h1
    ·exact no c _ hc λ_ z=>by cases z
 ·unfold setH
  rw[Zi (λz=>by rw[z,he]at n;cases n),Zi (λz=>by rw[z,nd]at q;cases q)];exact n
 ·by_cases h1:b=e
  ·subst h1
   obtain⟨oe,vs,z,_⟩:=hx
   exact⟨oe,z⟩
  ·exact⟨o,kp b o h1 q⟩
noncomputable def sFldX(K:Frag)(ta tv:TE)(f:Str):TS:=λD σ H=>tv σ H λy H1=>ta σ H1 λx H2=>∃a C,x=.ref a/\H2 a=some (xeO a C none .none)/\XSet K C f/\∀d,H2 d=none->D.nx σ (setH H2 a C d f y)
theorem Zl7{X:Cx}{o value:Expr}{f:Str}{pos pos':Pos}{ta tv:TE}(ha:PE X o ta)(hv:PE X value tv)(hs:swapsWith value (some (.Attribute o f pos')) pos.line X.env=pure false:=by rfl):PS X (.Assign [.Attribute o f pos'] value pos) (sFldX X.K ta tv f):=by
 intro pins s σ H D I h
 refine plainObj_wpAny_Assign_Attribute (thn (hv pins s σ H _ I h) λu s1 ⟨y,H1,I1,ry,q⟩=>thn (ha pins s1 σ H1 _ I1 q) λov s2 ⟨x,H2,I2,rx,a,C,ex,ea,xs,q2⟩=>?_) hs
 subst ex
 obtain rfl:ov=Value.ref a:=rx
 obtain⟨⟨oe,vs,e1,e2,e3,e4,e5⟩,_⟩:=I2.hok a _ ea
 refine set_x I2.kIn e1 e2 e3 e4 xs.sa xs.ov xs.na xs.hd λh' tk hn hx kp=>?_
 have nd:s2.heap.get? s2.heap.objs.size=none:=Heap.get?_none_of_le (Nat.le_refl _)
 obtain⟨ok,un⟩:=ZlC (fs:=X.fs) I2.hok ea nd ry hn ⟨_,vs,hx,e2,rfl,e4,e5⟩ kp
 exact⟨σ,_,I2.un (t':=tk) un ok,q2 _ (ZiN I2.hok nd)⟩
end Mi
namespace Mi
open PySem PySem.Spec PyProof.Rows L2
noncomputable def spF(K:Frag)(fns:List Fn)(gv:List T)(k f:Nat):Sp:=λvs H Q E=>∃cm m ws,MemR K cm m H/\RWs K cm m H ws vs/\OkR K (Jf fns gv k f ws m) (xrE K E) cm m H λw cm' m' H'=>∀v,RW K cm' m' H' w v->Q v H'
noncomputable def FOk(P:Program)(w:World)(K:Frag)(mg:Str->Option Value)(base:Heap)(fns:List Fn)(gv:List T)(k:Nat)(x:Str)(fi:Nat):Prop:=
 ∃f fd ps,mg x=some (.ref f)/\keepIn K (.ref f)=true/\Binds K fd ps []/\FnOk P w K mg base (CXF P w) k f fd ps (spF K fns gv k fi)
section
variable{K:Frag}{cm cm':List Addr}{m m':Mem}{H H':Hp}{X:Cx}{fns:List Fn}{gv:List T}
variable{a b c e:Expr}{es:List Expr}{ea eb ec:E}{eas:Es}{pos p p2:Pos}{k n:Nat}
theorem Zkh{fi:Nat}{x:Str}{xr:XR}(lk:Lk X xr)(F:FOk X.prog X.w X.K X.mg X.base fns gv k x fi)(hr:Room k X.A)(hg:Gl X x)(ha:PA X (e::es) (tA X.K (Jf fns gv k) gv xr eas))(hdb:(x==("__debug__" : Str))=false:=by decide)(he:notStar e=true:=by rfl)(hpl:es.all notStar=true:=by rfl):
  PE X (.Call (.Name x p) (e::es) [] pos) (tE X.K (Jf fns gv k) gv xr (.call fi eas)):=by
 obtain⟨f,fd,ps,hm,hk,hb,F⟩:=F
 refine PE.mono (Zmz F hr hg hm hk hb (dvs:=[]) .nil (E:=EX X.K xr) lk.passes ha hdb (Qd he) (Zar hpl)) ?_
 rintro σ H Q ⟨env,cm,m,hE,M,ho⟩
 rw[ev]at ho
 refine⟨env,cm,m,hE,M,ho.bind.mono λws cm1 m1 H1 x1 M1 o1 vs rvs=>?_⟩
 show spF X.K fns gv k fi (vs++[]) H1 Q (EX X.K xr)
 rw[List.append_nil]
 exact⟨cm1,m1,ws,M1,rvs,o1.toE⟩
theorem Jv{i n:Nat}{c:Bool×List T}(h:(m.take n)[i]?=some (some c)):m[i]?=some (some c)/\i<n:=by
 rw[List.getElem?_take]at h
 split at h
 ·exact⟨h,‹_›⟩
 ·cases h
theorem QT{i n:Nat}(h:i<n):(cm.take n)[i]?=cm[i]?:=by rw[List.getElem?_take,if_pos h]
theorem Xc{n:Nat}{a:Addr}(h:Zq cm m a):Zq (cm.take n) (m.take n) a:=λi q e=>by
 obtain⟨e1,hi⟩:=Jv e
 rw[QT hi]
 exact h i q e1
theorem ZjG(M:MemR K cm m H)(n:Nat):MemR K (cm.take n) (m.take n) H/\∀t v,RT K cm m H t v->RT K (cm.take n) (m.take n) H t v:=by
 have sm:∀t v,RT K cm m H t v->RT K (cm.take n) (m.take n) H t v:=λt v r=>r.same (λ_ _ z=>z) λ_ z _=>Xc z
 refine⟨⟨by rw[List.length_take,List.length_take,M.len],λi j a q r e1 e2 f1 f2=>?_,λi q e=>?_⟩,sm⟩
 ·obtain⟨e1,h1⟩:=Jv e1
  obtain⟨e2,h2⟩:=Jv e2
  rw[QT h1]at f1
  rw[QT h2]at f2
  exact M.inj i j a q r e1 e2 f1 f2
 ·obtain⟨e1,h1⟩:=Jv e
  obtain⟨a,vs,q1,q2,q3,q4⟩:=M.at' i q e1
  exact⟨a,vs,by rw[QT h1];exact q1,q2,q3,Zh (λ_ _ z=>sm _ _ z) q4⟩
theorem ZjH(M:MemR K cm m H)(x:Ext cm m H cm' m' H'):Ext cm m H (cm'.take m.length) (m'.take m.length) H':=by
 refine⟨λi a h=>?_,by rw[List.length_take];have:=x.len;omega,λi ts h=>?_,λa o h n=>⟨(x.keep a o h n).1,Xc (x.keep a o h n).2⟩⟩
 ·have hi:=(List.getElem?_eq_some_iff.mp h).1
  rw[M.len]at hi
  rw[QT hi]
  exact x.pre i a h
 ·have hi:=(List.getElem?_eq_some_iff.mp h).1
  rw[List.getElem?_take,if_pos hi]
  exact x.lent i ts h
theorem fin_ok{xr:XR}{cell:Bool}{fl:Flow}{Q:VK}{nn:Nat}(M:MemR K cm m H)(x:Ext cm m H cm' m' H')(M':MemR K cm' m' H')(ho:OkR K (fin m.length cell fl m') xr cm m H λw cm' m' H'=>∀v,RW K cm' m' H' w v->Q v H'):
  JV K nn { nx:=λ_ H'=>Q .non H',rt:=Q } fl cm' m' H':=by
 obtain⟨Mt,st⟩:=ZjG M' m.length
 have xt:=ZjH M x
 cases fl with
 |next env=>exact λσ _ _=>OkR.to (a:=W.t .non) ho xt Mt _ .non
 |brk env=>exact ho.elim
 |cont env=>exact ho.elim
 |ret w =>
  intro v rv
  cases w with
  |t t=>exact OkR.to (a:=W.t t) ho xt Mt v (st t v rv)
  |f a=>exact ho.elim
  |x _ _ _=>exact ho.elim
  |c i =>
   unfold fin at ho
   dsimp only at ho
   split at ho
   ·rename_i hi
    obtain⟨a,h1,h2⟩:=rv
    exact OkR.to ho xt Mt v ⟨a,by rw[QT hi];exact h1,h2⟩
   ·rename_i hi
    split at ho
    ·rename_i ts e
     obtain⟨a,h1,h2⟩:=rv
     obtain⟨a',vs,q1,q2,q3,q4⟩:=M'.at' i _ e
     rw[h1]at q1;cases q1
     have na:Zq (cm'.take m.length) (m'.take m.length) a:=λj q ej z=>by
      obtain⟨ej,hj⟩:=Jv ej
      rw[QT hj]at z
      have:=M'.inj j i a _ _ ej e z h1
      omega
     have lt:(cm'.take m.length).length=m.length:=by rw[List.length_take,M'.len];have:=x.len;omega
     have lm:(m'.take m.length).length=m.length:=by rw[List.length_take];have:=x.len;omega
     split at ho
     ·-- a list that may change is handed back
      have nl:∀b,Zq cm' m' b->Zq (cm'.take m.length++[a]) (m'.take m.length++[some (false,ts)]) b:=λb n=>by
       refine Zcl (by rw[lt,lm]) (Xc n) λz=>?_
       subst z
       exact n i _ e h1
      have sm:∀t v,RT K cm' m' H' t v->RT K (cm'.take m.length++[a]) (m'.take m.length++[some (false,ts)]) H' t v:=λt v r=>r.same (λ_ _ z=>z) λb z _=>nl b z
      have cs:∀{j:Nat}{c:Bool×List T},(m'.take m.length++[some (false,ts)])[j]?=some (some c)->((m'.take m.length)[j]?=some (some c)/\j<m.length)∨(j=m.length/\c=(false,ts)):=λ{j c} ej=>by
       by_cases hj:j<m.length
       ·rw[List.getElem?_append_left (by rw[lm];exact hj)]at ej
        exact .inl ⟨ej,hj⟩
       ·by_cases hj2:j=m.length
        ·subst hj2
         rw[List.getElem?_append_right (by rw[lm];exact Nat.le_refl _),lm,Nat.sub_self]at ej
         cases ej
         exact .inr ⟨rfl,rfl⟩
        ·rw[List.getElem?_eq_none (by rw[List.length_append,lm];simp;omega)]at ej
         cases ej
      have cl:∀{j:Nat},j<m.length->(cm'.take m.length++[a])[j]?=(cm'.take m.length)[j]?:=λ{j} hj=>List.getElem?_append_left (by rw[lt];exact hj)
      have cp:(cm'.take m.length++[a])[m.length]?=some a:=by
       rw[List.getElem?_append_right (by rw[lt];exact Nat.le_refl _),lt,Nat.sub_self]
       rfl
      refine OkR.to (cm':=cm'.take m.length++[a]) ho ⟨λj b h=>?_,by rw[List.length_append,lm];simp,λj us h=>?_,λb o h nb=>⟨(x.keep b o h nb).1,nl b (x.keep b o h nb).2⟩⟩ ⟨by rw[List.length_append,List.length_append,lt,lm];rfl,λj1 j2 b c1 c2 e1 e2 f1 f2=>?_,λj c ej=>?_⟩ v ⟨a,cp,h2⟩
      ·have hj:=(List.getElem?_eq_some_iff.mp h).1
       rw[M.len]at hj
       rw[cl hj]
       exact xt.pre j b h
      ·have hj:=(List.getElem?_eq_some_iff.mp h).1
       rw[List.getElem?_append_left (by rw[lm];exact hj)]
       exact xt.lent j us h
      ·rcases cs e1 with⟨g1,l1⟩|⟨k1,_⟩
       ·rw[cl l1]at f1
        rcases cs e2 with⟨g2,l2⟩|⟨k2,_⟩
        ·rw[cl l2]at f2
         exact Mt.inj j1 j2 b _ _ g1 g2 f1 f2
        ·rw[k2,cp]at f2;cases f2
         exact absurd f1 (na j1 _ g1)
       ·rw[k1,cp]at f1;cases f1
        rcases cs e2 with⟨g2,l2⟩|⟨k2,_⟩
        ·rw[cl l2]at f2
         exact absurd f2 (na j2 _ g2)
        ·rw[k1,k2]
      ·rcases cs ej with⟨g,l⟩|⟨kk,z⟩
       ·obtain⟨gg,_⟩:=Jv g
        obtain⟨b,ws,w1,w2,w3,w4⟩:=M'.at' j c gg
        exact⟨b,ws,by rw[cl l,QT l];exact w1,w2,w3,Zh (λ_ _ z=>sm _ _ z) w4⟩
       ·rw[kk,z]
        exact⟨a,vs,cp,q2,q3,Zh (λ_ _ z=>sm _ _ z) q4⟩
     ·subst h2
      exact OkR.to (a:=W.t (.lst ts)) ho xt Mt _ (RT.mlst q2 na (Zh (λ_ _ z=>st _ _ z) q4))
    ·exact ho.elim
theorem ZlT{N:List Str}{ws:List W}{vs:List V}{j:Nat}(r:RWs K cm m H ws vs)(hj:j=N.length-vs.length):EnvR K cm m H (ws.map some++List.replicate j none) (L2.start N vs):=λi w e=>by
 unfold L2.start
 have hl:=r.length
 by_cases hi:i<ws.length
 ·rw[List.getElem?_append_left (by simpa using hi),List.getElem?_map]at e
  cases q:ws[i]? with
  |none=>rw[q]at e;cases e
  |some w' =>
   rw[q]at e;cases e
   obtain⟨v,h1,h2⟩:=ZD r q
   refine⟨v,?_,h2⟩
   rw[List.getElem?_append_left (by rw[List.length_map];omega),List.getElem?_map,h1]
   rfl
 ·rw[List.getElem?_append_right (by simpa using hi),List.getElem?_replicate]at e
  split at e<;>cases e
theorem ZhL{N:List Str}{vs:List V}(h:vs.length<=N.length):(L2.start N vs).length=N.length:=by
 unfold L2.start
 rw[List.length_append,List.length_map,List.length_replicate]
 omega
theorem fn_okW{P:Program}{w:World}{mg:Str->Option Value}{base:Heap}{x qual:Str}{st:Stmt}{f:Addr}{fd:FuncData}{N ps:List Str}{fi:Nat}{d:Fn}(F:Fun K x qual st f fd)(S:FnScope N ps (Zc st))(hd:fns[fi]?=some d)(hps:d.ps=ps.length)(hn:d.n=N.length)(hbody:∀(cdv:Value) (A:Around) (outer:List PySem.Env) (s:Shared) (H:Hp) (E:XK),Room k (A.deeper (envOfC qual (Zc st) s.heap.objs.size f cdv))->∀(xe:Value->Shared->Prop) (pn:List (Addr×Obj)) (xr:XR),
   Go (asX (cxOf (CXF P w) P w K mg base N qual (Zc st) f cdv A outer s H E) xe pn) xr->PSs (asX (cxOf (CXF P w) P w K mg base N qual (Zc st) f cdv A outer s H E) xe pn) (Ql st) (tS K (Jf fns gv k) gv xr N.length d.body)):
  FnOk P w K mg base (CXF P w) (k+1) f fd ps (spF K fns gv (k+1) fi):=by
 have hpl:ps.length<=N.length:=by have:=congrArg List.length S.pre;rw[List.length_take]at this;omega
 have len:∀{ws:List W}{m:Mem}{cm:List Addr}{H:Hp}{xr:XR}{post:W->List Addr->Mem->Hp->Prop},OkR K (Jf fns gv (k+1) fi ws m) xr cm m H post->ws.length=d.ps/\OkR K ((ex (Jf fns gv k) gv d.body (ws.map some++List.replicate (d.n-d.ps) none) m).bind λfl m'=>fin m.length d.cell fl m') xr cm m H post:=λ{ws m cm H xr post} h=>by
  rw[Jf,hd]at h
  dsimp only at h
  by_cases hc:ws.length=d.ps
  ·rw[if_pos hc]at h;exact⟨hc,h⟩
  ·rw[if_neg hc]at h;exact h.elim
 refine Zm4 F S (λvs H Q E ⟨cm,m,ws,M,r,ho⟩=>by rw[<-r.length,(len ho).1,hps]) (λcdv A outer s H vs Q E hr hk ⟨cm,m,ws,M,r,ho⟩=>?_)
 obtain⟨hl,ho⟩:=len ho
 have hv:vs.length=ps.length:=by rw[<-r.length,hl,hps]
 refine⟨_,hbody cdv A outer s H E hr _ _ (xrE K E) Zm2,ZhL (by omega),ws.map some++List.replicate (d.n-d.ps) none,cm,m,ZlT r (by rw[hn,hps,hv]),M,?_⟩
 exact ho.bind0.mono λfl cm1 m1 H1 x1 M1 o1=>fin_ok M x1 M1 o1
theorem Zm6{P:Program}{w:World}{mg:Str->Option Value}{base:Heap}{f:Addr}{fd:FuncData}{ps:List Str}{fi:Nat}:FnOk P w K mg base (CXF P w) 0 f fd ps (spF K fns gv 0 fi):=by
 have no:∀vs H Q E,¬spF K fns gv 0 fi vs H Q E:=λvs H Q E ⟨cm,m,ws,M,r,ho⟩=>by
  rw[Jf]at ho
  exact ho
 exact⟨λvs H Q E h=>absurd h (no vs H Q E),λA outer s H args us vs Q E _ _ _ _ h=>absurd h (no vs H Q E)⟩
end
end Mi
namespace Mi
open PySem PySem.Spec PyProof.Rows L2 PySem.W
theorem Zku{P:Program}{w:World}{K:Frag}{mg:Str->Option Value}{base:Heap}{x qual a b nm:Str}{st:Stmt}{f e C:Addr}{fd:FuncData}{p1 p2 p3 p4:Pos}{A:Around}{outer:List PySem.Env}{s:Shared}{H:Hp}{v:V}{u:Value}(F:Fun K x qual st f fd)(S:FnScope [a,b] [a,b] (Zc st))(hb:Ql st=[.Assign [.Attribute (.Name a p1) nm p2] (.Name b p3) p4])(bd:Binds K fd [a,b] [])(xs:XSet K C nm)(hd:A.handled=none)(hdep:A.depth<recursionLimit)(e0:Env0 P w K mg base A outer s H)(he:H e=some (xeO e C none .none))(rv:RelV v u)(ha:(a==("__debug__" : Str))=false)(hb':(b==("__debug__" : Str))=false)(ha2:(a==("__classdict__" : Str))=false)(hb2:(b==("__classdict__" : Str))=false):
  codeAny (model P w) A (.call (.ref f) ⟨[.ref e,u],[]⟩) (λr s'=>r=.ok (.ret .none)/\∃d,H d=none/\s'.os=s.os/\AllBare s'.gens/\Un (frs outer) [] H (setH H e C d nm v) s.heap s'.heap/\HOk P w (setH H e C d nm v) s'.heap) s:=by
 obtain⟨oc,od,kV,doc,pm,an,cdv,ct,osl,rfl,lk,hcd⟩:=F.ex
 have KX:K.In s.heap:=e0.mod.kin.keeps λb o e=>(e0.bs b o e).1
 have lim:s.heap.NoLimit:=e0.mod.nolimit.keeps λb o e=>(e0.bs b o e).1
 have r:Vals [V.ref e,v] [Value.ref e,u]:=.cons rfl (.cons rv .nil)
 have hkind:∀y∈[a,b].zip [Value.ref e,u],(Zc st).names.lookup y.1=some .local∨((Zc st).names.lookup y.1=some .cell/\((cellsFrom (s.heap.objs.size+1) (Zc st).names []).lookup y.1).isSome=true):=λ⟨n,v⟩ hy=>by
  rcases S.par n (List.of_mem_zip hy).1 with q|q
  ·exact .inl q
  ·exact .inr ⟨q,cellsFrom_some _ _ _ (.inl q)⟩
 refine codeAny_call_function hdep (KX _ _ lk) rfl S.co S.gen rfl (PySem.W.codeRec_of KX hcd) (bd s [.ref e,u] KX rfl _ _ _ _ ?_)
 refine wpAny_newFunctionEnv_cells S.kind hkind λenv he' s1 x=>?_
 subst he'
 refine⟨lim.keeps x.toInCall.keep,codeAny_func ?_⟩
 let E:XK:=λ_ _ _=>False
 have I:Inv (cxOf CX0 P w K mg base [a,b] qual (Zc st) f cdv A outer s H E).nox [] (start [a,b] [V.ref e,v]) H s1:=Inv.wish (ZeK (CX:=CX0) (E:=E) S hd e0 rfl r x) _
 have vis:∀y∈[a,b],Vis (Zc st) y:=λy hy=>(S.par y hy).elim .inl λz=>.inr (.inl z)
 have body:PSs (cxOf CX0 P w K mg base [a,b] qual (Zc st) f cdv A outer s H E).nox (Ql st) (tSeq (sFldX K (tVar 0) (tVar 1) nm) ZgE):=by
  rw[hb]
  exact Qu (Zl7 (ZcW (i:=0) rfl (vis a (by simp)) ha ha2) (ZcW (i:=1) rfl (vis b (by simp)) hb' hb2)) Zfp
 refine wpAny_mono (wpAny_noRaise (body [] s1 _ H { nx:=λ_ H'=>∃d,H d=none/\H'=setH H e C d nm v,rt:=λ_ _=>False } I ?_)) (λfl s' hs=>?_) λe s' hs=>hs
 ·exact⟨v,rfl,V.ref e,rfl,e,C,rfl,he,xs,λd hd=>⟨d,hd,rfl⟩⟩
 ·cases fl with
  |next =>
   obtain⟨σ',H',J,d,hd,rfl⟩:=hs
   exact⟨rfl,d,hd,J.os,J.bare,J.base,J.hok⟩
  |ret u =>
   obtain⟨_,_,_,_,_,q⟩:=hs
   exact False.elim q
  |brk =>
   obtain⟨_,_,_,q⟩:=hs
   exact False.elim q
  |cont =>
   obtain⟨_,_,_,q⟩:=hs
   exact False.elim q
noncomputable def bmV:List Value:=[.type "ValueError",.type "Exception",.type "BaseException",.type "object"]
noncomputable def xcIn(K:Frag)(C:Addr):Bool:=match K.lookup C with
 |some ⟨.type "type",_,.cls cd,sl⟩=>(match cd.mro,sl.toList with
  |.ref C'::bm,[_,_,_,_,some (.builtin n),_]=>C'==C&&n == "ValueError.__new__" && !cd.hasDel&&tailIn K bmV bm
  |_,_=>false)
 |_=>false
theorem xc_of{K:Frag}{h:Heap}{C:Addr}(X:K.In h)(q:xcIn K C=true):∃nm qn N bs bm hdct sn sub ab col dd k0 k1 k2 k3 k5,h.get? C=some (excClassObj nm qn C N bs bm hdct sn sub ab col dd k0 k1 k2 k3 k5 "ValueError.__new__")/\OwnTail h bmV bm:=by
 unfold xcIn at q
 split at q
 ·rename_i dd cd sl ho
  split at q
  ·rename_i C' bm k0 k1 k2 k3 n k5 hm hs
   simp only[Bool.and_eq_true,beq_iff_eq,Bool.not_eq_true']at q
   obtain⟨⟨⟨rfl,rfl⟩,hdel⟩,ht⟩:=q
   obtain⟨nm,bs,mro,ns,qn,hd,sn,sub,ab,col,del⟩:=cd
   dsimp only at hm hdel
   subst hm hdel
   have hsl:sl=#[k0,k1,k2,k3,some (.builtin "ValueError.__new__"),k5]:=by
    obtain⟨l⟩:=sl
    simp only at hs
    rw[hs]
   subst hsl
   exact⟨nm,qn,ns,bs,bm,hd,sn,sub,ab,col,dd,k0,k1,k2,k3,k5,X _ _ ho,tail_of_in X ht⟩
  ·cases q
 ·cases q
theorem ZlX{M:Model}{A:Around}{E:Value->Shared->Prop}{s:Shared}{env:PySem.Env}{x:Sem Value}{Q:PySem.Flow->Shared->Prop}{K:Frag}{C:Addr}(xc:xcIn K C=true)(hh:A.handled=none)(h:wpAny M A x (λv s1=>∃e oe vs,v=.ref e/\K.In s1.heap/\s1.heap.get? e=some oe/\oe.cls=.ref C/\oe.data=.fields vs/\vs[1]?=some .none/\E (.ref e) s1) E s):wpAny M A (raiseStmt env (some x) none) Q E s:=by
 unfold raiseStmt
 refine wpAny_bind (wpAny_mono h (λv s1 h1=>?_) λ_ _ z=>z)
 obtain⟨e,oe,vs,rfl,X,he,hcls,hd,h1,hE⟩:=h1
 obtain⟨nm,qn,N,bs,bm,hdct,sn,sub,ab,col,dd,k0,k1,k2,k3,k5,hC,T⟩:=xc_of X xc
 have hb:(Value.ref C::bm).contains (.type "BaseException")=true:=by rw[List.contains_cons,T.hasType (show bmV.contains (.type "BaseException")=true by decide),Bool.or_true]
 obtain⟨hp,g,d,tk,os⟩:=s1
 repeat (first|(with_reducible refine wpAny_loadPart_at he ?_;rw[hcls])|with_reducible refine wpAny_loadPart_at hC ?_|(with_reducible refine wpAny_isSubtype_exc hC ?_;rw[hb])|with_reducible refine wpAny_field he hd h1 ?_|wp_step)
 exact wpAny_raiseNew_none hh hE
structure XInit (K:Frag) (C:Addr) (nm:Str):Prop where
 xc:xcIn K C=true
 kp:keepIn K (.ref C)=true
 xs:XSet K C nm
 fn:∃f fd x qual st a b p1 p2 p3 p4,findIn K (.ref C) "__init__" = some (some (.ref f))/\typeIn K (.ref f)=some (.type "function")/\Fun K x qual st f fd/\FnScope [a,b] [a,b] (Zc st)/\Ql st=[.Assign [.Attribute (.Name a p1) nm p2] (.Name b p3) p4] /\
  Binds K fd [a,b] []/\(a==("__debug__" : Str))=false/\(b==("__debug__" : Str))=false/\(a==("__classdict__" : Str))=false/\(b==("__classdict__" : Str))=false
section
variable{X:Cx}{pins:List (Addr×Obj)}{σ:L2.St}{H:Hp}{s:Shared}{C:Addr}{nm:Str}{v:V}{u:Value}{Q:Value->Shared->Prop}{E:Value->Shared->Prop}
theorem Zno(I:Inv X pins σ H s)(x:XInit X.K C nm)(hh:X.A.handled=none)(hdep:X.A.depth+1<recursionLimit)(rv:RelV v u)(k:∀s' e d,Air X.prog X.w (frs X.stack) H s (upd H d (.xd [(nm,v)])) e C (some d) s'->H d=none->xeP e C (some d) .none s'.heap->Q (.ref e) s'):wpAny (model X.prog X.w) X.A (call (.ref C) [u]) Q E s:=by
 obtain⟨f,fd,xn,qual,st,a,b,p1,p2,p3,p4,hi,hf,F,S,hb,bd,n1,n2,n3,n4⟩:=x.fn
 obtain⟨cn,qn,N,bs,bm,hdct,sn,sub,ab,col,dd,k0,k1,k2,k3,k5,hC,T⟩:=xc_of I.kIn x.xc
 have kp:∀b o,s.heap.get? b=some o->((s.heap.push (tupX [u])).push (newX C s.heap.objs.size)).get? b=some o:=λb o e=>Heap.get?_push_of_some _ (Heap.get?_push_of_some _ e)
 have hx:((s.heap.push (tupX [u])).push (newX C s.heap.objs.size)).get? (s.heap.objs.size+1)=some (newX C s.heap.objs.size):=by heap_get
 have I2:Inv X pins σ (upd H (s.heap.objs.size+1) (xeO (s.heap.objs.size+1) C none .none)) { s with heap:=(s.heap.push (tupX [u])).push (newX C s.heap.objs.size) }:=
  I.laid (t':=s.toks) kp (Nat.le_succ _) (ZlD ⟨_,_,hx,rfl,rfl,rfl,rfl⟩)
 have nE:s.heap.get? (s.heap.objs.size+1)=none:=Heap.get?_none_of_le (Nat.le_succ _)
 obtain⟨hp,g,d,tk,os⟩:=s
 refine wpAny_call (make_x PySem.F.excBase_ValueError T hC (looks_findIn I.kIn hi) (λself=>bind_fn I.kIn self hf) ?_ (show 1<=sizeLine by decide))
 refine codeAny_mono (Zku F S hb bd x.xs (by first|exact hh|simpa[Around.under]using hh) (by rw[Zg3];exact hdep) (I2.env0.make C [u] []) Zk rv n1 n2 n3 n4) λr s' z=>?_
 obtain⟨rfl,d',nd,q1,q2,q3,q4⟩:=z
 generalize hE:hp.objs.size+1=e' at *
 have nHe:H e'=none:=ZiN I.hok nE
 have nde:d'≠e':=λz=>by rw[z,Zk]at nd;cases nd
 have nd':H d'=none:=by rw[Zi nde]at nd;exact nd
 have un3:=(Un.laid (fs:=frs X.stack) (ex:=[]) (o:=xeO e' C none .none) kp (by rw[<-hE];exact Nat.le_succ _) nHe).trans q3
 generalize hS:setH (upd H e' (xeO e' C none .none)) e' C d' nm v=HS at *
 have sE:HS e'=some (xeO e' C (some d') .none):=by rw[<-hS];unfold setH;rw[Zk]
 have sD:HS d'=some (.xd [(nm,v)]):=by rw[<-hS];unfold setH;rw[Zi nde,Zk]
 have sO:∀b,b≠e'->b≠d'->HS b=H b:=λb h1 h2=>by rw[<-hS];unfold setH;rw[Zi h1,Zi h2,Zi h1]
 have toS:∀b u,upd H d' (.xd [(nm,v)]) b=some u->HS b=some u:=λb u q=>by
  by_cases hb:b=d'
  ·subst hb;rw[Zk]at q;rw[sD];exact q
  ·rw[Zi hb]at q
   rw[sO b (λz=>by rw[z,nHe]at q;cases q) hb];exact q
 have ofS:∀b u,HS b=some u->b≠e'->upd H d' (.xd [(nm,v)]) b=some u:=λb u q n=>by
  by_cases hb:b=d'
  ·subst hb;rw[Zk];rw[sD]at q;exact q
  ·rw[Zi hb,<-sO b n hb];exact q
 obtain⟨xp,_⟩:=q4 e' _ sE
 have nS:∀b u,HS b=some u->(∀φ,u≠.ext φ)->b≠e':=λb u q n z=>by rw[z,sE]at q;cases q;exact n _ rfl
 refine⟨rfl,k s' e' d' ⟨q1,q2,⟨un3.keep,un3.slot,λb o q n hx=>?_,un3.there,λb xs q=>?_,λb o u q=>?_,λb ps q=>⟨#[],?_⟩⟩,λb u q=>?_,?_,nE,_,xp,.inl rfl⟩ nd' xp⟩
 ·have z:=un3.free b o q n hx
  by_cases hb:b=d'
  ·subst hb;rw[sD]at z;cases z
  ·rw[Zi hb];exact n
 ·rw[Zi (λz=>by rw[z,nd']at q;cases q)];exact q
 ·rw[Zi (λz=>by rw[z,nd']at q;cases q)];exact q
 ·rw[Zi (λz=>by rw[z,nd']at q;cases q),q];simp
 ·refine(q4 b u (toS b u q)).stay (λ_ _ _ z=>z) (λc z=>ofS c _ z (nS c _ z λ_ y=>by cases y)) λc xs z=>ofS c _ z (nS c _ z λ_ y=>by cases y)
 ·rw[Zi (Ne.symm nde)];exact nHe
end
section
variable{X:Cx}{C:Addr}{nm:Str}{xr:XR}{call':Nat->List W->Mem->Res W}{gv:List T}{e:Expr}{ea:E}{x:Str}{np cpos pos:Pos}{rest:List Stmt}{k:S}{n kk:Nat}
theorem Zh1(lk:Lk X xr)(xi:XInit X.K C nm)(hm:X.mg x=some (.ref C))(hg:Gl X x)(hc:X.calm=true)(hr:Room kk X.A)(ha:PE X e (tE X.K call' gv xr ea))(he:notStar e=true:=by rfl)(hdb:(x==("__debug__" : Str))=false:=by decide):
  PSs X (.Raise (some (.Call (.Name x np) [e] [] cpos)) none pos::rest) (tS X.K call' gv xr n (.rse C [nm] (.cons ea .nil) k)):=by
 rintro pins s σ H D I ⟨hl,env,cm,m,hE,M,ho⟩
 have hh:=I.ok.hd hc
 rw[ex]at ho
 refine wpAny_execs_cons ?_
 rw[arm_exec_Raise]
 refine wpAny_bind (wpAny_standAt ?_)
 show wpAny _ _ (raiseStmt X.env (some (do let v <-eval (.Call (.Name x np) [e] [] cpos) X.env;standAt pos;pure v)) none) _ _ _
 refine ZlX xi.xc hh (wpAny_bind ?_)
 refine wpAny_Call_Name_kw (Za5 I hg hm ?_ hdb)
 refine PySem.W.callWith_K (h₀:=X.base) I.ok.mod.kin xi.kp (thn (Zgf ha Zil he cpos pins s σ H (λvs H1=>∃cm1 m1 ws,MemR X.K cm1 m1 H1/\RWs X.K cm1 m1 H1 ws vs/\OkR X.K _ xr cm1 m1 H1 _) I ⟨env,cm,m,hE,M,ho.bind.mono λws cm1 m1 H1 x1 M1 o1 vs rvs=>⟨cm1,m1,ws,M1,rvs,o1⟩⟩) λus s1 ⟨vs,H1,I1,r,cm1,m1,ws,M1,rvs,o1⟩=>⟨I1.kIn,?_⟩) (Qd he) rfl
 cases q:frzs ws m1 with
 |stuck=>rw[q]at o1;exact o1.elim
 |exc y m2=>exact absurd q XS
 |ok ts m2 =>
  rw[q]at o1
  obtain⟨x2,M2,r2⟩:=Xj M1 rvs q
  have o1:OkR X.K (if([nm]:List Str)=[]then(if ts.length<=1000 then Res.exc (a:=Flow) ⟨C,[],[]⟩ m2 else .stuck)else if ts.length=([nm]:List Str).length then .exc ⟨C,[nm],ts⟩ m2 else .stuck) xr cm1 m1 H1 _:=o1
  rw[if_neg (by simp)]at o1
  split at o1
  ·rename_i hlen
   have hv1:vs.length=1:=by rw[<-r2.length,hlen];rfl
   obtain⟨v,rfl⟩:=List.length_eq_one_iff.mp hv1
   cases r with
   |cons ru r' =>
    cases r'
    refine Zno I1 xi hh (by have:=hr.dp;omega) ru λs' e' d air nd xp=>?_
    obtain⟨oe,vv,y1,y2,y3,y4,y5⟩:=xp
    refine wpAny_bind (wpAny_standAt (wpAny_pure ?_))
    refine⟨e',oe,vv,rfl,(Inv.air I1 air).kIn,y1,y2,y4,y5,?_⟩
    have keep:∀a o,H1 a=some o->upd H1 d (.xd [(nm,v)]) a=some o:=ZV nd
    have Mm:=M2.new (o:=.xd [(nm,v)]) nd
    refine lk pins σ H1 s1 (upd H1 d (.xd [(nm,v)])) e' (some d) s' cm1 m2 ⟨C,[nm],ts⟩ I1 air Mm ⟨[v],Zk,rfl,Zh (λ_ _ z=>z.same keep λ_ n _=>n) r2⟩ ?_
    exact o1 cm1 _ (x2.trans (.new nd)) Mm
  ·exact o1.elim
structure XPlain (K:Frag) (C:Addr):Prop where
 xc:xcIn K C=true
 kp:keepIn K (.ref C)=true
 no:excIn K C bmV "ValueError.__new__" = true
end
noncomputable abbrev hndX(X:Cx)(A:Around)(pn:List (Addr×Obj)):Cx:={ X with A:=A,calm:=false,xe:=λ_ _=>False,pn:=pn }
section
variable{X:Cx}{pins pins':List (Addr×Obj)}{σ:L2.St}{H:Hp}{s:Shared}{xe:Value->Shared->Prop}{e:Option Value}
theorem inv_as(I:Inv X pins σ H s)(xe:Value->Shared->Prop):Inv (asX X xe (X.pn++pins)) [] σ H s:=
 ⟨⟨I.ok.mod,I.ok.kind,I.ok.glob,I.ok.blt,I.ok.above,I.ok.inj,I.ok.has,I.ok.cab,I.ok.hd,I.ok.frames,I.ok.stk,I.ok.exf,I.ok.bs,I.ok.bsz,I.ok.noex,I.ok.exfs,I.ok.funs,I.ok.frf⟩,I.os,I.bare,I.base,I.loc,I.cell,I.free,I.freeC,λp hp=>I.pin p (by rw[List.append_nil]at hp;exact hp),I.hok,I.len⟩
theorem ZeJ(I:Inv (asX X xe (X.pn++pins)) pins' σ H s):Inv X pins σ H s:=
 ⟨⟨I.ok.mod,I.ok.kind,I.ok.glob,I.ok.blt,I.ok.above,I.ok.inj,I.ok.has,I.ok.cab,I.ok.hd,I.ok.frames,I.ok.stk,I.ok.exf,I.ok.bs,I.ok.bsz,I.ok.noex,I.ok.exfs,I.ok.funs,I.ok.frf⟩,I.os,I.bare,I.base,I.loc,I.cell,I.free,I.freeC,λp hp=>I.pin p (List.mem_append_left _ hp),I.hok,I.len⟩
theorem ZiL(I:Inv X pins σ H s)(e:Option Value):Inv (hndX X (X.A.mark e) (X.pn++pins)) [] σ H s:=
 ⟨⟨I.ok.mod,I.ok.kind,I.ok.glob,I.ok.blt,I.ok.above,I.ok.inj,I.ok.has,I.ok.cab,(λz=>nomatch z),I.ok.frames,I.ok.stk,I.ok.exf,I.ok.bs,I.ok.bsz,I.ok.noex,I.ok.exfs,I.ok.funs,I.ok.frf⟩,I.os,I.bare,I.base,I.loc,I.cell,I.free,I.freeC,λp hp=>I.pin p (by rw[List.append_nil]at hp;exact hp),I.hok,I.len⟩
theorem ZiK{A:Around}(ok:X.Ok)(I:Inv (hndX X A (X.pn++pins)) pins' σ H s):Inv X pins σ H s:=
 ⟨ok,I.os,I.bare,I.base,I.loc,I.cell,I.free,I.freeC,λp hp=>I.pin p (List.mem_append_left _ hp),I.hok,I.len⟩
theorem Zd4{M:Model}{A:Around}{E:Value->Shared->Prop}{i:Nat}{x:Str}{pos:Pos}{Q:Unit->Shared->Prop}(I:Inv X pins σ H s)(hN:X.N.Nodup)(hi:X.N[i]?=some x)(hk:X.env.scope.names.lookup x=some .local)(h:∀s',Inv X pins (σ.set i none) H s'->Q () s'):wpAny M A (do bindName X.env x .none;unbindBehindTheSuite X.env x pos) Q E s:=by
 obtain⟨m,hn,hl⟩:=id I.loc
 have hcls:(X.env.scope.kind==.class || (X.env.scope.kind==.module&&X.env.locals != X.env.globals))=false:=by rw[I.ok.kind];rfl
 have hiσ:i<σ.length:=by rw[I.len];exact(List.getElem?_eq_some_iff.mp hi).1
 obtain⟨oL,_,_,hoL,_⟩:=id hn
 have lt:∀b o,X.s₀.heap.get? b=some o->b≠X.env.locals:=λb o e=>Nat.ne_of_lt (Nat.lt_of_lt_of_le (Heap.lt_size e) I.ok.above)
 refine wpAny_nameGoes_keeps hk hn hcls λh' v hn' hs=>?_
 refine h _ ⟨I.ok,I.os,I.bare,⟨λb o e n hb hx=>?_,λb o e n hb hx=>?_,I.base.free,λb o e hx=>?_,I.base.tups,I.base.frzs,I.base.tbls⟩,⟨_,hn',λj y v' e1 e2 e3=>?_⟩,λy c e=>?_,I.free,I.freeC,λp hp=>?_,λb ob e=>?_,by simpa using I.len⟩
 ·exact(hs.2 b (lt b o e)).trans (I.base.keep b o e n hb hx)
 ·obtain⟨sl,e1⟩:=I.base.slot b o e n hb hx
  exact⟨sl,(hs.2 b (lt b o e)).trans e1⟩
 ·obtain⟨o',e1⟩:=I.base.there b o e hx
  exact⟨o',(hs.2 b (lt b o e)).trans e1⟩
 ·have hj:j≠i:=λz=>by
   rw[z,List.getElem?_set_self hiσ]at e2;cases e2
  rw[List.getElem?_set_ne (Ne.symm hj)]at e2
  obtain⟨u',r',q⟩:=hl j y v' e1 e2 e3
  refine⟨u',r',?_⟩
  rcases q with⟨k,e⟩|⟨k,c,e,z⟩
  ·refine .inl ⟨k,?_⟩
   have:y≠x:=λe=>hj (Zdy hN e1 (e▸hi))
   simp[this,e]
  ·exact .inr ⟨k,c,e,z.sameBut hs (I.cne y c e)⟩
 ·obtain⟨w',z⟩:=I.cell y c e
  exact⟨w',z.sameBut hs (I.cne y c e)⟩
 ·obtain⟨e,n,ne,nf,d⟩:=I.pin p hp
  exact⟨(hs.2 p.1 ne).trans e,n,ne,nf,d⟩
 ·refine(I.hok b ob e).stay (λc w' hc q=>(hs.2 c ?_).trans q) (λ_ q=>q) λ_ _ q=>q
  rintro rfl
  rcases hc with rfl|hc
  ·rw[I.free]at e;cases e
  ·rw[I.free]at hc;cases hc
theorem ZmY{e' C:Addr}{dx:Option Addr}{hd:Value}(I:Inv X pins σ H s)(he:H e'=none)(xp:xeP e' C dx hd s.heap)(n0:X.s₀.heap.get? e'=none)(np:∀p∈X.pn++pins,p.1≠e'):
  ∃oe,oe.cls=.ref C/\oe.dict=dx/\(∃fs,oe.data=.fields fs)/\Inv X pins σ (upd H e' (.frz oe (xeO e' C dx hd))) s:=by
 obtain⟨oe,vs,q1,q2,q3,q4,q5⟩:=id xp
 refine⟨oe,q2,q3,⟨_,q4⟩,I.ok,I.os,I.bare,⟨I.base.keep,I.base.slot,λb o q n hx=>?_,I.base.there,λb xs q=>?_,λb o u q=>?_,λb ps q=>?_⟩,I.loc,I.cell,?_,λx c hc=>?_,λp hp=>?_,λb u q=>?_,I.len⟩
 ·rw[Zi (λz=>by rw[z,n0]at q;cases q)];exact I.base.free b o q n hx
 ·exact ZV he _ _ (I.base.tups b xs q)
 ·exact ZV he _ _ (I.base.frzs b o u q)
 ·obtain⟨more,z⟩:=I.base.tbls b ps q
  exact⟨more,ZV he _ _ z⟩
 ·obtain⟨m,⟨o,es,ep,e1,e2,_⟩,_⟩:=I.loc
  rw[Zi (λz=>by rw[z,q1]at e1;cases e1;rw[q4]at e2;cases e2)];exact I.free
 ·obtain⟨w',o,e1,e2⟩:=I.cell x c hc
  rw[Zi (λz=>by rw[z,q1]at e1;cases e1;rw[q4]at e2;cases e2)];exact I.freeC x c hc
 ·obtain⟨a1,a2,a3⟩:=I.pin p hp
  exact⟨a1,by rw[Zi (np p hp)];exact a2,a3⟩
 ·by_cases hb:b=e'
  ·subst hb
   rw[Zk]at q;cases q
   exact⟨q1,ZlD xp⟩
  ·rw[Zi hb]at q
   exact(I.hok b u q).stay (λ_ _ _ q=>q) (λc r=>ZV he _ _ r) λc xs r=>ZV he _ _ r
end
theorem Zgq{M:Model}{A:Around}{E:Value->Shared->Prop}{s:Shared}{e T:Addr}{oe oT:Obj}{vs ts:Array Value}{Q:Unit->Shared->Prop}(he:s.heap.get? e=some oe)(hv:oe.data=.fields vs)(h1:vs[1]?=some (.ref T))(hT:s.heap.get? T=some oT)(dT:oT.data=.fields ts)(mT:ts[3]?=some .none)(k:Q () s):wpAny M A (setFlight (.ref e) none) Q E s:=by
 unfold setFlight
 refine wpAny_bind (wpAny_field he hv h1 ?_)
 rw[if_pos (show(Value.ref T != Value.none)=true from by simp)]
 refine wpAny_setField hT dT (Array.getElem?_eq_some_iff.mp mT).1 ?_
 show Q () { s with heap:=s.heap.update T (Obj.mapFields (·.setIfInBounds 3 .none)) }
 rw[Heap.update_setField_same s.heap T oT ts 3 .none hT dT mT]
 exact k
section
variable{X:Cx}{xr:XR}{call:Nat->List W->Mem->Res W}{gv:List T}{n:Nat}
noncomputable def HName(X:Cx)(i:Option Nat)(nmo:Option Str):Prop:=match i,nmo with
 |none,none=>True
 |some j,some x=>X.N[j]?=some x/\X.env.scope.names.lookup x=some .local
 |_,_=>False
noncomputable def unS(i:Option Nat)(σ:L2.St):L2.St:=match i with
 |some j=>σ.set j none
 |none=>σ
theorem ZlM{i:Option Nat}{σ:L2.St}:(unS i σ).length=σ.length:=by
 cases i with
 |none=>rfl
 |some j=>exact List.length_set
theorem EnvR.unE{K:Frag}{cm:List Addr}{m:Mem}{H:Hp}{env:Env}{σ:L2.St}(h:EnvR K cm m H env σ)(i:Option Nat):EnvR K cm m H (Mi.unE i env) (unS i σ):=by
 cases i with
 |none=>exact h
 |some j =>
  intro l w e
  have e:(env.set j none)[l]?=some (some w):=e
  by_cases hj:l=j
  ·subst hj
   rw[List.getElem?_set]at e
   simp only[if_pos]at e
   split at e<;>cases e
  ·rw[List.getElem?_set_ne (Ne.symm hj)]at e
   obtain⟨v,h1,h2⟩:=h l w e
   refine⟨v,?_,h2⟩
   show(σ.set j none)[l]?=_
   rw[List.getElem?_set_ne (Ne.symm hj)];exact h1
theorem ZjT{body:List Stmt}{y:Str}{yp hpos pos:Pos}{nmo:Option Str}{b0:Stmt}{suite rest:List Stmt}{sb sh k:S}{yes:List Nat}{i:Option Nat}{D:Addr}(hex:X.ex=[])(hst:X.stack=X.env::X.outer)(hfr:X.env.frame=some X.env.locals)(hN:X.N.Nodup)(hn:X.N.length=n)(hi:HName X i nmo)(hg:Gl X y)(hm:X.mg y=some (.ref D))(hy:∀c∈yes,exmOne X.K (.ref c) (.ref D)=some true)(hb:∀xe pn xr',Go (asX X xe pn) xr'->PSs (asX X xe pn) body (tS X.K call gv xr' n sb))(hh:∀A pn,PSs (hndX X A pn) (b0::suite) (tS X.K call gv xr0 n sh))(hk:PSs X rest (tS X.K call gv xr n k))(hdb:(y==("__debug__" : Str))=false:=by decide):
  PSs X (.Try body [.ExceptHandler (some (.Name y yp)) nmo (b0::suite) hpos] [] [] pos::rest) (tS X.K call gv xr n (.tri sb yes i sh k)):=by
 rintro pins s σ H D0 I ⟨hl,env,cm,m,hE,M,ho⟩
 refine wpAny_execs_cons (wpAny_Try_except ?_)
 have run:∀xr' xe',Go (asX X xe' (X.pn++pins)) xr'->OkR X.K (ex call gv sb env m) xr' cm m H (λfl cm' m' H'=>JV X.K n { D0 with nx:=tS X.K call gv xr n k D0 } fl cm' m' H') ->
   wpAny (model X.prog X.w) X.A (execs body X.env) (λf s1=>match f with
    |.next=>wpAny (model X.prog X.w) X.A (execs [] X.env) (λf s'=>match f with
     |.next=>wpAny (model X.prog X.w) X.A (execs rest X.env) (SP X pins D0) X.xe s'
     |f=>SP X pins D0 f s') X.xe s1
    |f=>(match f with
     |.next=>wpAny (model X.prog X.w) X.A (execs rest X.env) (SP X pins D0) X.xe s1
     |f=>SP X pins D0 f s1)) xe' s:=λxr' xe' go o=>by
  refine wpAny_mono (hb xe' (X.pn++pins) xr' go [] s σ H _ (inv_as I xe') ⟨hl,env,cm,m,hE,M,o⟩) (λf s1 q=>?_) λ_ _ z=>z
  cases f with
  |next =>
   obtain⟨σ',H',I',q⟩:=q
   exact wpAny_execs_nil (hk pins s1 σ' H' D0 (ZeJ I') q)
  |ret u=>obtain⟨v,σ',H',I',r,q⟩:=q;exact⟨v,σ',H',ZeJ I',r,q⟩
  |brk=>obtain⟨σ',H',I',q⟩:=q;exact⟨σ',H',ZeJ I',q⟩
  |cont=>obtain⟨σ',H',I',q⟩:=q;exact⟨σ',H',ZeJ I',q⟩
 rw[ex]at ho
 cases r:ex call gv sb env m with
 |stuck=>rw[r]at ho;exact ho.elim
 |ok fl m1 =>
  rw[r]at ho run
  refine run xr0 _ ⟨lk0,PassesOwn.looking⟩ λcm1 H1 x1 M1=>?_
  cases fl with
  |next env'=>exact λσ' hl' hE'=>⟨hl',env',cm1,m1,hE',M1,OkR.shift ho x1⟩
  |ret w=>show JV X.K n D0 (.ret w) cm1 m1 H1;exact OkR.to (xr:=xr) (a:=Flow.ret w) ho x1 M1
  |brk env'=>show JV X.K n D0 (.brk env') cm1 m1 H1;exact OkR.to (xr:=xr) (a:=Flow.brk env') ho x1 M1
  |cont env'=>show JV X.K n D0 (.cont env') cm1 m1 H1;exact OkR.to (xr:=xr) (a:=Flow.cont env') ho x1 M1
 |exc x m1 =>
  rw[r]at ho run
  dsimp only at ho
  by_cases hx:x.cls∈yes
  ·rw[if_pos hx]at ho
   refine run (λx' cm' m' H'=>x'=x/\m'=m1/\Ext cm m H cm' m1 H') _ ⟨?_,PassesOwn.looking⟩ λcm1 H1 x1 M1=>⟨rfl,rfl,x1⟩
   rintro pins1 σ1 H1 s1 H' e dx s' cm' m' x' I1 air M' hf ⟨rfl,rfl,x1⟩
   have I':=Inv.air I1 air
   have st:(asX X (asX X (λ_ _=>False) []).xe []).stack=X.env::X.outer:=hst
   have air2:Air X.prog X.w (frs (X.env::X.outer)) H1 s1 H' e x'.cls dx s':=by rw[<-hst];exact air
   have fre:∀b∈frs (X.env::X.outer),H' b=none:=by rw[<-hst];exact I'.stkFree
   have fun':s'.heap.FunFrames X.base (X.env::X.outer):=by rw[<-hst];exact I'.stack
   have frm:X.A.frames=some (X.env::X.outer):=by rw[<-hst];exact I'.ok.frames
   refine land air2 fre frm fun' hfr λh2 T a2 xp xt neT=>?_
   have I2:=Inv.air I1 (show Air X.prog X.w (frs X.stack) H1 s1 H' e x'.cls dx { s' with heap:=h2 } by rw[hst];exact a2)
   have I3:Inv X pins σ1 H' { s' with heap:=h2 }:=ZeJ I2
   have np:∀p∈X.pn++pins,p.1≠e:=λp hp z=>by
    have q:=(I1.pin p (List.mem_append_left _ hp)).1
    rw[z,air.new]at q;cases q
   have J:Inv X pins (List.replicate n none) H' { s' with heap:=h2 }:=I3.weak (by rw[List.length_replicate,I3.len,hn]) λj v z=>by
    rw[List.getElem?_replicate]at z
    split at z<;>cases z
   obtain⟨oe,vs,y1,y2,y3,y4,y5⟩:=id xp
   obtain⟨oT,ts,z1,z2,z3⟩:=id xt
   refine wpAny_handleBy_cons (codeAny_handlers_test (Za5 (ZiL J (some (.ref e))) hg hm ?_ hdb)) (by intro q;cases q)
   have LT:Looks (model X.prog X.w) h2 (typeOf (.ref e)) oe.cls:=(Looks.ld y1).andThen .now
   rw[y2]at LT
   refine(exm_one (M:=model X.prog X.w) J.kIn LT (hy _ hx)).here (s:={ s' with heap:=h2 }) ?_
   rw[if_pos rfl]
   dsimp only
   have go:∀σ2 H2 s2 cm2,Inv X pins σ2 H2 s2->σ2.length=n->EnvR X.K cm2 m' H2 (hEnv env.length i x') σ2->MemR X.K cm2 m' H2->Ext cm m H cm2 m' H2 ->
     wpAny (model X.prog X.w) (X.A.mark (some (.ref e))) (execs (b0::suite) X.env) (SP X pins { nx:=λσ3 H3=>tS X.K call gv xr n k D0 (unS i σ3) H3,rt:=D0.rt }) (λ_ _=>False) s2:=λσ2 H2 s2 cm2 I4 hl2 hE2 M2 x2=>by
    refine wpAny_mono (hh (X.A.mark (some (.ref e))) (X.pn++pins) [] s2 σ2 H2 { nx:=λσ3 H3=>tS X.K call gv xr n k D0 (unS i σ3) H3,rt:=D0.rt } (ZiL I4 _) ⟨hl2,hEnv env.length i x',cm2,m',hE2,M2,?_⟩) (λf s3 q=>?_) λ_ _ z=>z
    ·cases r2:ex call gv sh (hEnv env.length i x') m' with
     |stuck=>rw[r2]at ho;exact ho.elim
     |exc x3 m3=>rw[r2]at ho;exact ho.elim
     |ok fl m3 =>
      rw[r2]at ho
      intro cm3 H3 x3 M3
      cases fl with
      |next env'=>exact λσ3 hl3 hE3=>⟨ZlM.trans hl3,Mi.unE i env',cm3,m3,hE3.unE i,M3,OkR.shift (show OkR X.K (ex call gv k (Mi.unE i env') m3) xr cm m H _ from ho) (x2.trans x3)⟩
      |ret w=>show JV X.K n D0 (.ret w) cm3 m3 H3;exact OkR.to (xr:=xr) (a:=Flow.ret w) ho (x2.trans x3) M3
      |brk env'=>exact ho.elim
      |cont env'=>exact ho.elim
    ·cases f with
     |next=>obtain⟨σ',H',I',q⟩:=q;exact⟨σ',H',ZiK I4.ok I',q⟩
     |ret u=>obtain⟨v,σ',H',I',r,q⟩:=q;exact⟨v,σ',H',ZiK I4.ok I',r,q⟩
     |brk=>obtain⟨σ',H',I',q⟩:=q;exact q.elim
     |cont=>obtain⟨σ',H',I',q⟩:=q;exact q.elim
   unfold HName at hi
   split at hi
   ·refine codeAny_handlers_suite (Zgq (s:={ s' with heap:=h2 }) y1 y4 y5 z1 z2 z3 (wpAny_mono (go _ _ _ cm' J (List.length_replicate) (λl w z=>?_) M' x1) (λf s3 q=>?_) λ_ _ z=>z.elim))
    ·have z:(List.replicate env.length (none:Option W))[l]?=some (some w):=z
     rw[List.getElem?_replicate]at z
     split at z<;>cases z
    ·cases f with
     |next=>obtain⟨σ',H',I',q⟩:=q;exact hk pins s3 σ' H' D0 I' q
     |ret u=>obtain⟨v,σ',H',I',r,q⟩:=q;exact⟨v,σ',H',I',r,q⟩
     |brk=>obtain⟨σ',H',I',q⟩:=q;exact q.elim
     |cont=>obtain⟨σ',H',I',q⟩:=q;exact q.elim
   ·rename_i j xn
    obtain⟨hj,hloc⟩:=hi
    have hjn:j<n:=by rw[<-hn];exact(List.getElem?_eq_some_iff.mp hj).1
    have gone:X.s₀.heap.get? e=none:=by
     cases y:X.s₀.heap.get? e with
     |none=>rfl
     |some o =>
      obtain⟨o',y'⟩:=I1.base.there e o y (by intro z;have z:e∈X.ex:=z;rw[hex]at z;cases z)
      rw[air.new]at y';cases y'
    obtain⟨oe2,c1,c2,c3,I5⟩:=ZmY J a2.no xp gone np
    refine codeAny_handlers_suite_as (Zgq (s:={ s' with heap:=h2 }) y1 y4 y5 z1 z2 z3 (Xw I5 hN hj (.inl hloc) (v:=.ref e) rfl (λs4 I6=>?_) (.inr hloc)))
    have keep:∀a o,H' a=some o->upd H' e (.frz oe2 (xeO e x'.cls dx (.ref T))) a=some o:=ZV a2.no
    have M5:=M'.new (o:=.frz oe2 (xeO e x'.cls dx (.ref T))) a2.no
    refine wpAny_mono (go _ _ _ cm' I6 (by rw[List.length_set,List.length_replicate]) (λl w z=>?_) M5 (x1.trans (.new a2.no))) (λf s3 q=>?_) λ_ _ z=>z.elim
    ·have z:((List.replicate env.length (none:Option W)).set j (some (.x x'.cls x'.nms x'.flds)))[l]?=some (some w):=z
     by_cases hlj:l=j
     ·subst hlj
      refine⟨.ref e,List.getElem?_set_self (by rw[List.length_replicate];exact hjn),?_⟩
      rw[List.getElem?_set]at z
      simp only[if_pos]at z
      split at z
      ·cases z
       refine⟨e,oe2,_,rfl,Zk,c1,c3,?_⟩
       rw[c2]
       exact hf.same keep λt v r=>r.same keep λ_ n _=>n
      ·cases z
     ·rw[List.getElem?_set_ne (Ne.symm hlj),List.getElem?_replicate]at z
      split at z<;>cases z
    ·cases f with
     |next=>obtain⟨σ',H',I',q⟩:=q;exact Zd4 I' hN hj hloc λs5 I7=>hk pins s5 _ H' D0 I7 q
     |ret u=>obtain⟨v,σ',H',I',r,q⟩:=q;exact Zd4 I' hN hj hloc λs5 I7=>⟨v,_,H',I7,r,q⟩
     |brk=>obtain⟨σ',H',I',q⟩:=q;exact q.elim
     |cont=>obtain⟨σ',H',I',q⟩:=q;exact q.elim
   ·exact hi.elim
  ·rw[if_neg hx]at ho
   exact ho.elim
end
noncomputable def inBody(s:Stmt)(i:Nat):Stmt:=match s with
 |.ClassDef _ _ _ b _ _ _ _ _ _ _=>b.getD i (.Pass ⟨0,0,0,0⟩)
 |s=>s
structure XGet (K:Frag) (C:Addr):Prop where
 ga:findIn K (.ref C) "__getattribute__" = some (some (.builtin "BaseException.__getattribute__"))
 gn:findIn K (.ref C) "__getattr__" = some none
 mb:mroIn K C (.type "BaseException")=some true
 hd:hasDictIn K C=true
 ca:findIn K (.ref C) "__class__" = some (some (.builtin "object.__class__"))
 mo:mroIn K C (.type "object")=some true
structure XKit (K:Frag):Prop where
 hn:specialIn K (.builtin "object.__class__") "__get__" = some (some (.builtin "getset_descriptor.__get__"))
 htk:takesIn K (.builtin "object.__class__")=some true
theorem ZdC{K:Frag}{C:Addr}{od:Option Obj}{name:Str}{a g:Value}(hc:(clsIn K C).isSome=true)(ha:findIn K (.ref C) name=some (some a))(hg:specialIn K a "__get__" = some (some g))(ht:takesIn K a=some true):findObj K C od name=some (.bind g a):=by
 obtain⟨cd,hc⟩:=Option.isSome_iff_exists.mp hc
 unfold findObj
 rw[hc,Option.bind_some,ha,Option.bind_some]
 simp[hg,ht]
section
variable{prog:Program}{w:World}{A:Around}{E:Value->Shared->Prop}{s:Shared}{K:Frag}{x C:Addr}{ox:Obj}{od:Option Obj}{name:Str}
theorem x_by{t:Nat}{expr fill:Bool}{Q:Value->Shared->Prop}(X:K.In s.heap)(I:InstAt s.heap x ox C od)(c:XGet K C)(ht:s.toks=t+1)(h:∀A':Around,wpAny (model prog w) A' (Builtin.«object.__getattribute__» ⟨[.ref x,.str name t],[]⟩) (λfin s'=>match fin with|.done (.ret v)=>wpAny (model prog w) A (handedOut v) Q E s'|_=>False) (λ_ _=>False) s):
  wpAny (model prog w) A (getAttrBy (.ref x) (.str name t) fill expr) Q E s:=by
 obtain⟨hh,g,d,tk,os⟩:=s
 have L0:=I.type (M:=model prog w)
 have L1:=looks_findIn (M:=model prog w) X c.ga
 have L2:=looks_findIn (M:=model prog w) X c.gn
 have LB:Looks (model prog w) hh (isInstance (.ref x) (.type "BaseException")) true:=L0.andThen (looks_mroIn X c.mb)
 have f3:=PySem.F.attrBase_ValueError.ga.bind (.ref x)
 have hx0:(expr&&onTheHeap (Value.builtin "BaseException.__getattribute__"))=false:=by cases expr<;>rfl
 have hx2:(Value.builtin "BaseException.__getattribute__" == Value.builtin "object.__getattribute__")=false:=by decide +kernel
 have hx1:(onTheHeap (Value.ref C)&&Value.builtin "BaseException.__getattribute__" == Value.builtin "object.__getattribute__")=false:=by rw[hx2];rfl
 unfold getAttrBy
 refine wpAny_holding (wpAny_bind (L0.at (wpAny_bind (L1.at ?_))))
 dsimp only
 rw[hx1,if_neg Bool.false_ne_true]
 unfold getAttrByItsOwn hookBefore
 rw[if_pos (show onTheHeap (Value.ref C)=true from rfl)]
 refine wpAny_bind (L2.at ?_)
 refine wpAny_bind (wpAny_attempt (wpAny_holding ?_))
 unfold callGetattribute
 rw[hx0,if_neg Bool.false_ne_true]
 unfold boundAndCalled
 rw[f3]
 refine wpAny_bind (wpAny_pure (wpAny_call (codeAny_call_builtin PySem.F.attrBase_ValueError.ga.plain PySem.F.entry_bexc_ga (@check_slot (model prog w) _ _ ⟨hh,g,d,tk,os⟩ "BaseException.__getattribute__" "BaseException" "__getattribute__" (.ref x) [.str name t] [] _ (by decide +kernel) (by decide +kernel) LB (PySem.F.args_bexc_ga (.ref x) (.str name t)) ?_))))
 refine wpAny_mono (h _) (λfin s' z=>?_) λ_ _ z=>z.elim
 rcases fin with(_|_|_|_)|_<;>first|exact z|exact z.elim
theorem ZlE{v:Value}{expr:Bool}{Q:Value->Shared->Prop}(X:K.In s.heap)(I:InstAt s.heap x ox C od)(c:XGet K C)(hf:findObj K C od name=some (.value v))(hh:handedIn v=true)(h:Q v { s with toks:=s.toks+1 }):
  wpAny (model prog w) A (getAttr (.ref x) name expr) Q E s:=by
 unfold getAttr
 refine wpAny_bind (wpAny_mkText ?_)
 refine x_by (s:={ s with toks:=s.toks+1 }) X I c rfl λA'=>?_
 obtain⟨hp,g,d,t,os⟩:=s
 have L0:=I.type (M:=model prog w)
 have L1:=looks_find (M:=model prog w) X I hf
 unfold Builtin.«object.__getattribute__»
 refine wpAny_bind (wpAny_pure ?_)
 refine wpAny_bind (wpAny_pure (wpAny_bind (L0.at (wpAny_bind (L1.at ?_)))))
 refine wpAny_pure ?_
 show wpAny _ _ (handedOut v) _ _ _
 rw[handedOut_of hh];exact wpAny_pure h
theorem ZlF{Q:Option Value->Shared->Prop}(X:K.In s.heap)(I:InstAt s.heap x ox C od)(c:XGet K C)(z:XKit K)(h:Q (some (.ref C)) { s with toks:=s.toks+1 }):
  wpAny (model prog w) A (getAttr? (.ref x) "__class__") Q E s:=by
 have hf:findObj K C od "__class__" = some (.bind (.builtin "getset_descriptor.__get__") (.builtin "object.__class__")):=ZdC (by obtain⟨cd,hc,_⟩:=any_some c.hd;rw[hc];rfl) c.ca z.hn z.htk
 unfold getAttr? getAttrBy?
 refine wpAny_bind (wpAny_mkText ?_)
 refine wpAny_bind (wpAny_attempt ?_)
 refine x_by (s:={ s with toks:=s.toks+1 }) X I c rfl λA'=>?_
 obtain⟨hp,g,d,t,os⟩:=s
 have L0:=I.type (M:=model prog w)
 have L1:=looks_find (M:=model prog w) X I hf
 unfold Builtin.«object.__getattribute__»
 refine wpAny_bind (wpAny_pure ?_)
 refine wpAny_bind (wpAny_pure (wpAny_bind (L0.at (wpAny_bind (L1.at ?_)))))
 show wpAny _ _ (holding [Value.builtin "object.__class__"] (call (.builtin "getset_descriptor.__get__") [.builtin "object.__class__",.ref x,.ref C]) >>= ret) _ _ _
 refine wpAny_bind (wpAny_holding (wpAny_call (class_get (s:=⟨hp,g,d,t+1,os⟩) (ox:=ox) (od:=od) X I c.mo ?_)))
 refine wpAny_pure ?_
 exact handed_on rfl (wpAny_pure h)
end
theorem Zgl{K:Frag}{x D:Addr}{ox:Obj}{odo:Option Obj}(c:XGet K D)(z:XKit K):KitX K (.ref x) (.ref D) (λh=>InstAt h x ox D odo) where
 ty:=λ_ _ _ I=>I.type
 it:=λ_ _ X _=>by
  obtain⟨cdD,hcD,_⟩:=any_some c.hd
  unfold clsIn at hcD
  split at hcD
  ·rename_i c' d' cd' sl' ho
   intro A' Q' E' s' k q
   unfold isType loadHead
   exact wpAny_bind (wpAny_loadPart (k _ _ (X _ _ ho)) (wpAny_pure q))
  ·cases hcD
 ne:=λh tp dd its n sl X htp=>by
  obtain⟨cdD,hcD,_⟩:=any_some c.hd
  refine Bool.eq_false_iff.mpr λq=>?_
  have e:D=tp:=Value.ref.inj (beq_iff_eq.mp q)
  subst e
  unfold clsIn at hcD
  split at hcD
  ·rename_i c' d' cd' sl' ho
   have z:=(X _ _ ho).symm.trans htp
   cases z
  ·cases hcD
 ca:=λX I k=>ZlF X I c z k
section
variable{X:Cx}{xr:XR}{call:Nat->List W->Mem->Res W}{gv:List T}{cm:List Addr}{m:Mem}{H:Hp}{pins:List (Addr×Obj)}{σ:L2.St}{s:Shared}
variable{e:Expr}{ea:E}{pos p p2:Pos}
theorem x_at{c:Nat}{nms:List Str}{ts:List T}{v:V}(I:Inv X pins σ H s)(r:RW X.K cm m H (.x c nms ts) v):
  ∃a o odo,v=.ref a/\InstAt s.heap a o c odo/\XF X.K cm m H nms ts o.dict:=by
 obtain⟨a,o,u,rfl,h1,h2,⟨fs,h3⟩,h4⟩:=r
 obtain⟨z,_⟩:=I.hok a _ h1
 have nc:notCls o=true:=by unfold notCls;rw[h3]
 cases q:o.dict with
 |none=>exact⟨a,o,none,rfl,⟨z,h2,nc,by rw[q];trivial⟩,q▸h4⟩
 |some d =>
  rw[q]at h4
  obtain⟨vs,h5,h6,h7⟩:=id h4
  obtain⟨o',z'⟩:=Zlk I.hok h5
  exact⟨a,o,some o',rfl,⟨z,h2,nc,by rw[q];exact z'⟩,by rw[q];exact h4⟩
theorem ZfW{K:Frag}:∀{nms:List Str}{ts:List T}{vs:List V}{nm:Str}{t:T},Paired (RT K cm m H) ts vs->(nms.zip ts).lookup nm=some t->∃v,(nms.zip vs).lookup nm=some v/\RT K cm m H t v
 |[],_,_,_,_,_,h=>by simp at h
 |n::nms,_,_,nm,t,.nil,h=>by simp at h
 |n::nms,_,_,nm,t,.cons r rs,h=>by
  rw[List.zip_cons_cons]at h ⊢
  simp only[List.lookup]at h ⊢
  cases q:nm==n with
  |true=>rw[q]at h;cases h;exact⟨_,rfl,r⟩
  |false=>rw[q]at h;exact ZfW rs h
theorem Zmf{nm:Str}{cs:List Nat}(ha:PE X e (tE X.K call gv xr ea))(hk:∀c∈cs,XGet X.K c/\findIn X.K (.ref c) nm=some none)(hb:attributeBase e nm X.env (eval e X.env)=eval e X.env:=by rfl):
  PE X (.Attribute e nm pos) (tE X.K call gv xr (.xat ea cs nm)):=by
 rintro pins s σ H Q I ⟨env,cm,m,hE,M,ho⟩
 rw[ev]at ho
 refine Znr hb (thn (ha pins s σ H (λv H1=>∃cm1 m1 w,MemR X.K cm1 m1 H1/\RW X.K cm1 m1 H1 w v/\OkR X.K (pur (xatT cs nm w) m1) xr cm1 m1 H1 λw cm' m' H'=>∀v,RW X.K cm' m' H' w v->Q v H') I ⟨env,cm,m,hE,M,ho.bind.mono λw cm1 m1 H1 x1 M1 o1 v rv=>⟨cm1,m1,w,M1,rv,o1⟩⟩) λu s1 ⟨v,H1,I1,ru,cm1,m1,w,M1,rw1,o1⟩=>?_)
 obtain⟨t,et,o2⟩:=Qm o1
 cases w with
 |t _=>cases et
 |c _=>cases et
 |f _=>cases et
 |x c nms ts =>
  have et:(if c∈cs then(nms.zip ts).lookup nm else none)=some t:=et
  split at et
  ·rename_i hc
   obtain⟨g,hn⟩:=hk c hc
   obtain⟨a,o,odo,rfl,J,xf⟩:=x_at I1 rw1
   cases ru
   cases q:o.dict with
   |none=>rw[q]at xf;obtain⟨rfl,rfl⟩:=xf;cases et
   |some d =>
    rw[q]at xf
    obtain⟨vs,h5,h6,h7⟩:=xf
    obtain⟨v,hv,rt⟩:=ZfW h7 et
    obtain⟨mA,hns,hrel⟩:=(show Qc X.prog X.w H1 s1.heap d (.xd (nms.zip vs))from I1.hok d _ h5)
    obtain⟨u,hu,ru⟩:=RelO.some_of (v:=v) (o:=mA nm) (by rw[<-hv];exact hrel nm)
    obtain⟨od,hod,hl⟩:=ZeD hns
    have J2:InstAt s1.heap a o c (some od):=⟨J.at_,J.cls,J.no,by rw[q];exact hod⟩
    refine ZlE I1.kIn J2 g (findObj_own g.hd hn rfl (by rw[hl,hu])) (ZiP ru) ?_
    exact⟨v,H1,I1.tok _,ru,ans o2 M1 rt⟩
  ·cases et
noncomputable def fXis(yes no:List Nat)(w:W)(m:Mem):Res W:=pur (xisT yes no w) m
theorem ZkT{yes no:List Nat}{cv:V}{c:Value}(hcv:∀u,RelV cv u->u=c)(z:XKit X.K)(hy:∀C∈yes,XGet X.K C/\kitOne X.K (.ref C) c=some true)(hn:∀C∈no,XGet X.K C/\kitOne X.K (.ref C) c=some false):
  ZaT X (.builtin "isinstance") (λxs H Q=>∃x,xs=[x,cv]/\r1 X.K xr (fXis yes no) x H Q):=by
 rintro pins s σ H xs us Q I r ⟨x,e,cm,m,w,M,rw',ho⟩
 subst e
 obtain⟨u1,u2,rfl,ru1,ru2⟩:=vals2 r
 obtain rfl:=hcv _ ru2
 obtain⟨t,et,ho⟩:=Qm ho
 cases w with
 |t _=>cases et
 |c _=>cases et
 |f _=>cases et
 |x C nms ts =>
  obtain⟨a,o,odo,rfl,J,xf⟩:=x_at I rw'
  cases ru1
  have et:(if C∈yes then some (T.bl true)else if C∈no then some (.bl false)else none)=some t:=et
  split at et
  ·rename_i hc
   cases et
   exact kia_one (Zgl (hy C hc).1 z) I.kIn J (hy C hc).2 (λz=>nomatch z) λtk=>⟨.bl _,H,I.tok _,rfl,ans ho M (.bl _)⟩
  ·split at et
   ·rename_i hc
    cases et
    exact kia_one (Zgl (hn C hc).1 z) I.kIn J (hn C hc).2 (λz=>nomatch z) λtk=>⟨.bl _,H,I.tok _,rfl,ans ho M (.bl _)⟩
   ·cases et
theorem Zdw{yes no:List Nat}{ce:Expr}{cv:V}{c:Value}(ha:PE X e (tE X.K call gv xr ea))(hg:Gl X "isinstance")(hm:X.mg "isinstance" = none)(hc:PE X ce (tC cv))(hcv:∀u,RelV cv u->u=c)(z:XKit X.K)(hy:∀C∈yes,XGet X.K C/\kitOne X.K (.ref C) c=some true)(hn:∀C∈no,XGet X.K C/\kitOne X.K (.ref C) c=some false)(hs:notStar e=true:=by rfl)(hs2:notStar ce=true:=by rfl):
  PE X (.Call (.Name "isinstance" p) [e,ce] [] pos) (tE X.K call gv xr (.xis ea yes no)):=by
 refine PE.mono (ZbR (ZkT (xr:=xr) hcv z hy hn) hg hm (by decide +kernel) (QX ha (QX hc Xb (Qd hs2)) (Qd hs)) (by decide) (by decide) (Qd hs) (Zar (by simp[hs2]))) ?_
 rintro σ H Q ⟨env,cm,m,hE,M,ho⟩
 rw[ev]at ho
 exact⟨env,cm,m,hE,M,ho.bind.mono λw cm1 m1 H1 x1 M1 o1 v rv=>⟨v,rfl,cm1,m1,w,M1,rv,o1⟩⟩
theorem Zd2:∀{as:List Addr}{us:List Value},Vals (as.map V.ref) us->us=as.map Value.ref
 |[],_,.nil=>rfl
 |a::as,_,.cons r rs=>by
  cases r
  rw[Zd2 rs]
  rfl
theorem Zjm{yes no:List Nat}{as:List Addr}(z:XKit X.K)(hy:∀C∈yes,XGet X.K C/\kitAny X.K (.ref C) (as.map .ref)=some true)(hn:∀C∈no,XGet X.K C/\kitAny X.K (.ref C) (as.map .ref)=some false):
  ZaT X (.builtin "isinstance") (λxs H Q=>∃x q,xs=[x,.ref q]/\SqT X.K H q (as.map .ref)/\r1 X.K xr (fXis yes no) x H Q):=by
 rintro pins s σ H xs us Q I r ⟨x,q,e,sq,cm,m,w,M,rw',ho⟩
 subst e
 obtain⟨u1,u2,rfl,ru1,ru2⟩:=vals2 r
 cases ru2
 obtain⟨t,et,ho⟩:=Qm ho
 obtain⟨its,rv,⟨ot,g1,g2,⟨n,g3⟩,g4⟩,_⟩:=I.tupleP sq
 obtain rfl:=Zd2 rv
 obtain⟨oc,od,odt,osl⟩:=ot
 dsimp only at g2 g3 g4
 subst g2 g3 g4
 cases w with
 |t _=>cases et
 |c _=>cases et
 |f _=>cases et
 |x C nms ts =>
  obtain⟨a,o,odo,rfl,J,xf⟩:=x_at I rw'
  cases ru1
  have et:(if C∈yes then some (T.bl true)else if C∈no then some (.bl false)else none)=some t:=et
  split at et
  ·rename_i hc
   cases et
   exact kia_tup (Zgl (hy C hc).1 z) I.kIn J g1 (hy C hc).2 (λz=>nomatch z) λtk=>⟨.bl _,H,I.tok _,rfl,ans ho M (.bl _)⟩
  ·split at et
   ·rename_i hc
    cases et
    exact kia_tup (Zgl (hn C hc).1 z) I.kIn J g1 (hn C hc).2 (λz=>nomatch z) λtk=>⟨.bl _,H,I.tok _,rfl,ans ho M (.bl _)⟩
   ·cases et
noncomputable def tCs(as:List Addr):TA:=λ_ H Q=>Q (as.map V.ref) H
theorem pa_cs0:PA X [] (tCs []):=PA.mono Xb λσ H Q h=>h
theorem pa_csS{es:List Expr}{a:Addr}{as:List Addr}(ha:PE X e (tC (.ref a)))(hr:PA X es (tCs as))(hs:notStar e=true:=by rfl):PA X (e::es) (tCs (a::as)):=PA.mono (QX ha hr (Qd hs)) λσ H Q h=>h
theorem Zka{yes no:List Nat}{ces:List Expr}{k}{as:List Addr}(ha:PE X e (tE X.K call gv xr ea))(hg:Gl X "isinstance")(hm:X.mg "isinstance" = none)(hc:PA X ces (tCs as))(hl:as.length<=100)(z:XKit X.K)(hy:∀C∈yes,XGet X.K C/\kitAny X.K (.ref C) (as.map .ref)=some true)(hn:∀C∈no,XGet X.K C/\kitAny X.K (.ref C) (as.map .ref)=some false)(hs:notStar e=true:=by rfl):
  PE X (.Call (.Name "isinstance" p) [e,.Tuple ces k p2] [] pos) (tE X.K call gv xr (.xis ea yes no)):=by
 refine PE.mono (ZbR (Zjm (xr:=xr) z hy hn) hg hm (by decide +kernel) (QX ha (QX (Zk9 hc) Xb (Qd rfl)) (Qd hs)) (by decide) (by decide) (Qd hs) (Zar rfl)) ?_
 rintro σ H Q ⟨env,cm,m,hE,M,ho⟩
 rw[ev]at ho
 refine⟨env,cm,m,hE,M,ho.bind.mono λw cm1 m1 H1 x1 M1 o1 v rv=>⟨?_,λq hq=>⟨v,q,rfl,.inl (.inl Zk),cm1,m1,w,M1.new hq,rv.ext (.new hq) M1 (M1.new hq),o1.shift (.new hq)⟩⟩⟩
 rw[List.length_map]
 have:(100:Nat)<=sizeLine:=by decide
 omega
end
end Mi
namespace Mi
open PySem PySem.Spec PyProof.Rows L2
section
variable{K:Frag}{xr:XR}{X:Cx}{call:Nat->List W->Mem->Res W}{gv:List T}
variable{e:Expr}{ea:E}{pos:Pos}{rest:List Stmt}{k:S}{n:Nat}
theorem vr(i:Nat){x:Str}{pos:Pos}(hN:X.N[i]?=some x:=by rfl)(hv:Vis X.env.scope x:=by first|exact Or.inl rfl|exact Or.inr (Or.inl rfl)|exact Or.inr (Or.inr rfl))(hd:(x==("__debug__" : Str))=false:=by decide)(hcd:(x==("__classdict__" : Str))=false:=by decide):PE X (.Name x pos) (tE X.K call gv xr (.var i)):=Zmg hN hv hd hcd
theorem sg(i:Nat){x:Str}{px:Pos}(hN:X.N.Nodup)(h:PE X e (tE X.K call gv xr ea))(hk:PSs X rest (tS X.K call gv xr n k))(hn:X.N.length=n:=by rfl)(hi:X.N[i]?=some x:=by rfl)(hx:Loc X.env.scope x:=by first|exact Or.inl rfl|exact Or.inr rfl)(hs:swapsWith e (some (.Name x px)) pos.line X.env=pure false:=by rfl)(hf:X.fn x=true∨X.env.scope.names.lookup x=some .local:=by first|exact .inl rfl|exact .inr rfl):PSs X (.Assign [.Name x px] e pos::rest) (tS X.K call gv xr n (.asg i ea k)):=ZjZ hN hn hi hx h hk hs hf
theorem QR(i:Nat){x:Str}{pos:Pos}(hN:X.N.Nodup)(hi:X.N[i]?=some x:=by rfl)(hx:Loc X.env.scope x:=by first|exact Or.inl rfl|exact Or.inr rfl)(hf:X.fn x=true∨X.env.scope.names.lookup x=some .local:=by first|exact .inl rfl|exact .inr rfl):PG X (.Name x pos) (gT X.K (.nm i)):=Zam hN hi hx hf
noncomputable def scOk(scope osc:Scope):Bool:=scope.kind==.function&&scope.names.all λp=>p.2 != .cell&&scope.names.lookup p.1==some p.2&&(p.2 != .free || osc.names.lookup p.1==some .cell || osc.names.lookup p.1==some .free)
noncomputable def Zlh(N' N:List Str)(own:Nat)(keep:List Nat)(scope:Scope):Bool:=N'.length==own+keep.length&&(List.range keep.length).all λi=>match N'[own+i]?,keep[i]? with
 |some x,some j=>N[j]?==some x&&scope.names.any λp=>p.1==x&&p.2==.free
 |_,_=>false
theorem ZkO{N':List Str}{scope:Scope}{own:Nat}{keep:List Nat}{elt target iter:Expr}{ifs:List Expr}{gs:List Comprehension}{it:E}{tg:Tg}{cs:Es}{inner:E}(h1:scOk scope X.env.scope=true)(h2:Zlh N' X.N own keep scope=true)(pi:PI X target iter (tI X.K call gv xr it))(fs:∀x,foldedSetIterable iter X.env x=pure x)(ins:Zjx X xr call gv N' scope elt target ifs (⟨target,iter,ifs,0⟩::gs) tg cs inner)(dis:∀i∈tgS tg,i∉innS inner)(slt:∀i∈tgS tg++innS inner,i<own):
  CompK X xr call gv N' scope own keep elt target iter ifs gs it tg cs inner:=by
 unfold scOk at h1
 rw[Bool.and_eq_true]at h1
 obtain⟨hk,h1⟩:=h1
 have h1:=List.all_eq_true.mp h1
 unfold Zlh at h2
 rw[Bool.and_eq_true]at h2
 obtain⟨hl,h2⟩:=h2
 have h2:=List.all_eq_true.mp h2
 refine⟨⟨eq_of_beq hk,λy hy=>?_,λp hp=>?_,λx hx=>?_⟩,eq_of_beq hl,λi x e=>?_,pi,fs,ins,dis,slt⟩
 ·have:=h1 y hy
  simp only[Bool.and_eq_true]at this
  have h:=this.1.1
  exact λz=>by rw[z]at h;cases h
 ·have:=h1 p hp
  simp only[Bool.and_eq_true]at this
  exact eq_of_beq this.1.2
 ·have:=h1 _ hx
  simp only[Bool.and_eq_true,Bool.or_eq_true]at this
  rcases this.2 with(h|h)|h
  ·cases h
  ·exact .inl (eq_of_beq h)
  ·exact .inr (eq_of_beq h)
 ·have hlen:N'.length=own+keep.length:=eq_of_beq hl
  have hi:i<keep.length:=by
   have:=(List.getElem?_eq_some_iff.mp e).1
   omega
  have h:=h2 i (List.mem_range.mpr hi)
  rw[e]at h
  cases q:keep[i]? with
  |none=>rw[q]at h;cases h
  |some j =>
   rw[q]at h
   have h:(X.N[j]?==some x&&scope.names.any λp=>p.1==x&&p.2==.free)=true:=h
   rw[Bool.and_eq_true]at h
   refine⟨j,rfl,eq_of_beq h.1,?_⟩
   obtain⟨p,hp,hq⟩:=List.any_eq_true.mp h.2
   rw[Bool.and_eq_true]at hq
   rw[<-eq_of_beq hq.1]
   have:p.2=NameKind.free:=eq_of_beq hq.2
   rw[<-this]
   exact hp
theorem scr_of{H:Hp}{a:Addr}{ns:List Int}(hO:Only H)(hS:SqL K H a (ns.map V.int)):Ze8 K H a ns:=by
 rcases hS with(h|⟨o,h⟩)|h
 ·rcases hO a with q|⟨o,xs,q⟩<;>rw[h]at q<;>cases q
 ·exact .inl ⟨o,h⟩
 ·exact .inr h
theorem law_sp{fns:List Fn}{k fi:Nat}{H:Hp}{a:Addr}{ns:List Int}{E:XK}(hO:Only H)(hS:SqL K H a (ns.map V.int))(h:∃m,Jf fns gv k fi [.t (.scr ns)] []=.ok (.t (.bl true)) m):spF K fns gv k fi [.ref a] H (λv _=>v=.bl true) E:=by
 obtain⟨m,h⟩:=h
 refine⟨[],[],[.t (.scr ns)],⟨rfl,λi j a p q e=>by simp at e,λi p e=>by simp at e⟩,.cons (.scr ns (scr_of hO hS)) .nil,?_⟩
 rw[h]
 intro cm' H' x M v rv
 cases RT.vbl rv
 rfl
theorem Zgn{mg:Str->Option Value}{x y:Str}{t:Tok}{cs:List Nat}(h:mg x=some (.str y t))(e:y.cps.toList=cs):Q0 K mg x (.str cs):=⟨_,.str y,h,⟨t,rfl⟩,λcm m H=>by rw[Zea e];exact .str cs⟩
theorem Jl{mg:Str->Option Value}{x:Str}{i:Int}{t:Tok}(h:mg x=some (.int i t)):Q0 K mg x (.int i):=⟨_,.int i,h,⟨t,rfl⟩,λcm m H=>.int i⟩
inductive StrsV:List (List Nat)->List Value->Prop where
 |nil:StrsV [] []
 |cons {y:Str}{t:Tok}{cs:List Nat}{r:List (List Nat)}{us:List Value}:y.cps.toList=cs->StrsV r us->StrsV (cs::r) (.str y t::us)
theorem ZeM{mg:Str->Option Value}{x:Str}{a:Addr}{its:Array Value}{nn:Nat}{sl:Array (Option Value)}{css:List (List Nat)}(h:mg x=some (.ref a))(l:K.lookup a=some ⟨.type "tuple",none,.seq its nn,sl⟩)(hz:its.size<=sizeLine)(hs:StrsV css its.toList):Q0 K mg x (.tup (css.map .str)):=by
 refine⟨_,.ref a,h,rfl,λcm m H=>?_⟩
 have go:∀{css:List (List Nat)}{us:List Value},StrsV css us->Vals (css.map λc=>V.str ⟨c.toArray⟩) us/\RTs K cm m H (css.map .str) (css.map λc=>V.str ⟨c.toArray⟩):=λ{css us} h=>by
  induction h with
  |nil=>exact⟨.nil,.nil⟩
  |@cons y t cs r us e _ ih =>
   refine⟨.cons ?_ ih.1,.cons (.str cs) ih.2⟩
   show ∃t',Value.str y t=Value.str ⟨cs.toArray⟩ t'
   rw[<-Zea e]
   exact⟨t,rfl⟩
 exact .mtup (.inr ⟨_,its,nn,l,rfl,rfl,hz,(go hs).1,rfl⟩) (go hs).2
end
section
variable{K:Frag}{cm:List Addr}{m:Mem}{H:Hp}{xr:XR}{X:Cx}{call:Nat->List W->Mem->Res W}{gv:List T}
variable{a b c e:Expr}{es:List Expr}{ea eb ec:E}{eas:Es}{pos p p2:Pos}{rest:List Stmt}{k:S}{n:Nat}
theorem ip_aug{op:Operator}:PIp X op (r2 X.K xr λx y m=>pur ((view x m).bind λx=>(view y m).bind λy=>augT op x y) m):=by
 rintro pins s σ H x y v u Q I rx ry ⟨cm,m,a,b,M,ra,rb,ho⟩
 obtain⟨t,e,ho⟩:=Qm ho
 obtain⟨ta,tb,ea,eb,e⟩:=ZcM e
 unfold augT at e
 split at e
 ·cases e
  cases(Zd ra ea (λ_ z=>by cases z)).vint
  cases(Zd rb eb (λ_ z=>by cases z)).vint
  exact ip_add pins s σ H _ _ v u Q I rx ry ⟨_,_,rfl,rfl,ans ho M (.int _)⟩
 ·cases e
  cases(Zd ra ea (λ_ z=>by cases z)).vint
  cases(Zd rb eb (λ_ z=>by cases z)).vint
  exact ip_sub pins s σ H _ _ v u Q I rx ry ⟨_,_,rfl,rfl,ans ho M (.int _)⟩
 ·cases e
theorem ZjY(i:Nat){x:Str}{op:Operator}{px:Pos}(hN:X.N.Nodup)(h:PE X e (tE X.K call gv xr ea))(hk:PSs X rest (tS X.K call gv xr n k))(hn:X.N.length=n:=by rfl)(hi:X.N[i]?=some x:=by rfl)(hx:Loc X.env.scope x:=by first|exact Or.inl rfl|exact Or.inr rfl)(hf:X.fn x=true∨X.env.scope.names.lookup x=some .local:=by first|exact .inl rfl|exact .inr rfl):PSs X (.AugAssign (.Name x px) op e pos::rest) (tS X.K call gv xr n (.aug i op ea k)):=by
 refine PSs.mono (Qu (ps_aug hN hi hx h (ip_aug (xr:=xr)) hf) hk) ?_
 rintro D σ H ⟨hl,env,cm,m,hE,M,ho⟩
 rw[ex]at ho
 split at ho
 ·rename_i w e
  obtain⟨v,h1,h2⟩:=hE i w e
  have hi':i<σ.length:=by rw[hl,<-hn];exact(List.getElem?_eq_some_iff.mp hi).1
  refine⟨v,h1,env,cm,m,hE,M,ho.bind.mono λy cm1 m1 H1 x1 M1 o1 vy ry=>?_⟩
  refine⟨cm1,m1,w,y,M1,h2.ext x1 M M1,ry,o1.bind.mono λz cm2 m2 H2 x2 M2 o2 vz rz=>?_⟩
  exact⟨by rw[List.length_set];exact hl,env.set i (some z),cm2,m2,EnvR.set ((hE.ext x1 M M1).ext x2 M1 M2) rz i hi',M2,o2⟩
 ·exact ho.elim
theorem Zg1:MtR X "list.append" (rM X.K xr .append):=by
 rintro pins s σ H x xs v us Q I rx rs ⟨cm,m,w,ws,M,rw',rws,ho⟩
 cases w with
 |t t=>exact ho.elim
 |f a=>exact ho.elim
 |x _ _ _=>exact ho.elim
 |c i =>
  have ho:OkR X.K ((frzs ws m).bind λts m=>match m[i]? with
   |some (some (false,xs))=>match mutM .append xs ts with
    |some (t,ys)=>.ok (W.t t) (m.set i (some (false,ys)))
    |none=>.stuck
   |_=>.stuck) xr cm m H _:=ho
  obtain⟨ts,m2,e2,o2⟩:=ZbV ho
  obtain⟨x2,M2,r2⟩:=Xj M rws e2
  obtain⟨a,ha,rfl⟩:=rw'
  split at o2
  ·rename_i ys e3
   split at o2
   ·rename_i t zs e4
    obtain⟨b,vs,q1,q2,q3,q4⟩:=M2.at' i _ e3
    rw[ha]at q1;cases q1
    have l4:=q4.length
    dsimp only at l4
    have hz:=ZM
    match ts,r2,e4 with
    |[t1],.cons r3 .nil,e4 =>
     unfold mutM at e4
     dsimp only at e4
     split at e4<;>cases e4
     rename_i hlt
     obtain⟨x5,M5⟩:=Zbg M2 e3 ha (Z0 q4 (.cons r3 .nil))
     exact ZeC pins s σ H _ _ v us Q I rx rs ⟨a,vs,_,rfl,rfl,q2,by omega,OkR.to o2 (x2.trans x5) M5 _ .non⟩
    |[],_,e4=>cases e4
    |_::_::_,_,e4=>cases e4
   ·exact o2.elim
  ·exact o2.elim
theorem ZgS{o:Expr}{apos cpos:Pos}(ho:PE X o (tE X.K call gv xr ea))(ha:PA X [e] (tA X.K call gv xr eas))(hbase:attributeBase o "append" X.env (eval o X.env)=eval o X.env:=by rfl)(hline:(apos.endLine==cpos.line)=true:=by rfl)(hs:notStar e=true:=by rfl):
  PE X (.Call (.Attribute o "append" apos) [e] [] cpos) (tE X.K call gv xr (.mth .append ea eas)):=by
 refine PE.mono (Zki PySem.F.plainAttrs_list PySem.F.slot_list_append PySem.F.type_list_append (Zg1 (xr:=xr)) ho ha hbase (few1 hs) hline (Qd hs) (Zar rfl)) ?_
 rintro σ H Q ⟨env,cm,m,hE,M,hq⟩
 rw[ev]at hq
 refine⟨env,cm,m,hE,M,hq.bind.mono λw cm1 m1 H1 x1 M1 o1 v rv=>?_⟩
 obtain⟨ht,o1⟩:=ZaG o1
 refine⟨?_,env,cm1,m1,hE.ext x1 M M1,M1,o1.bind.mono λws cm2 m2 H2 x2 M2 o2 vs rvs=>?_⟩
 ·cases w with
  |t t=>cases ht
  |f a=>cases ht
  |x _ _ _=>cases ht
  |c i =>
   obtain⟨a,h1,rfl⟩:=rv
   have ht:(match m1[i]? with
    |some (some _)=>true
    |_=>false)=true:=ht
   split at ht
   ·rename_i c e1
    obtain⟨b,vs,q1,q2,_⟩:=M1.at' i _ e1
    rw[h1]at q1;cases q1
    exact .inl ⟨rfl,vs,.of q2⟩
   ·cases ht
 ·exact⟨cm2,m2,w,ws,M2,rv.ext x2 M1 M2,rvs,o2⟩
theorem ZgI{body:List Stmt}{sb:S}(hp:PassesOwn (model X.prog X.w) X.A X.env X.xe)(hc:PT X c (tT X.K call gv xr ec))(hb:PSs X body (tS X.K call gv xr n sb))(hk:PSs X rest (tS X.K call gv xr n k)):
  PSs X (.While c body [] pos::rest) (tS X.K call gv xr n (.whil ec sb k)):=by
 refine PSs.mono (Qu (Zj1 hp hc hb) hk) ?_
 rintro D σ0 H0 ⟨hl0,env0,cm0,m0,hE0,M0,ho⟩
 rw[ex]at ho
 let g:Flow->Mem->Res Flow:=λfl m=>match fl with
  |.next env=>ex call gv k env m
  |fl=>.ok fl m
 let P:Flow->List Addr->Mem->Hp->Prop:=λfl cm m H=>OkR X.K (g fl m) xr cm m H (λfl cm' m' H'=>JV X.K n D fl cm' m' H')
 have ho:OkR X.K ((Qz (λenv m=>(ev call gv ec env m).bind ZQ) (λenv m=>ex call gv sb env m) turns env0 m0).bind g) xr cm0 m0 H0 (λfl cm' m' H'=>JV X.K n D fl cm' m' H'):=ho
 refine⟨λμ σ H=>σ.length=n/\∃env cm m,EnvR X.K cm m H env σ/\MemR X.K cm m H/\OkR X.K (Qz (λenv m=>(ev call gv ec env m).bind ZQ) (λenv m=>ex call gv sb env m) μ env m) xr cm m H P,⟨turns,hl0,env0,cm0,m0,hE0,M0,ho.bind⟩,?_⟩
 rintro μ σ H ⟨hl,env,cm,m,hE,M,hq⟩
 cases μ with
 |zero=>rw[Qz]at hq;exact hq.elim
 |succ μ =>
  rw[Qz]at hq
  refine⟨env,cm,m,hE,M,hq.bind.mono λb cm1 m1 H1 x1 M1 o1=>?_⟩
  cases b with
  |false=>exact iteF ⟨hl,env,cm1,m1,hE.ext x1 M M1,M1,OkR.now (a:=Flow.next env) o1 M1⟩
  |true =>
   have o1:OkR X.K ((ex call gv sb env m1).bind λfl m=>match fl with
    |.next env=>Qz (λenv m=>(ev call gv ec env m).bind ZQ) (λenv m=>ex call gv sb env m) μ env m
    |.cont env=>Qz (λenv m=>(ev call gv ec env m).bind ZQ) (λenv m=>ex call gv sb env m) μ env m
    |.brk env=>.ok (.next env) m
    |.ret w=>.ok (.ret w) m) xr cm1 m1 H1 P:=o1
   refine iteT ⟨λσ' H'=>σ'.length=n/\∃env cm m,EnvR X.K cm m H' env σ'/\MemR X.K cm m H'/\OkR X.K (Qz (λenv m=>(ev call gv ec env m).bind ZQ) (λenv m=>ex call gv sb env m) μ env m) xr cm m H' P,λσ' H' h=>⟨μ,Nat.lt_succ_self _,h⟩,hl,env,cm1,m1,hE.ext x1 M M1,M1,o1.bind.mono λfl cm2 m2 H2 x2 M2 o2=>?_⟩
   cases fl with
   |next env2=>exact λσ2 hl2 hE2=>⟨hl2,env2,cm2,m2,hE2,M2,o2⟩
   |cont env2=>exact λσ2 hl2 hE2=>⟨hl2,env2,cm2,m2,hE2,M2,o2⟩
   |brk env2=>exact λσ2 hl2 hE2=>⟨hl2,env2,cm2,m2,hE2,M2,OkR.now (a:=Flow.next env2) o2 M2⟩
   |ret w=>exact OkR.now (xr:=xr) (a:=Flow.ret w) (OkR.now (a:=Flow.ret w) o2 M2) M2
theorem ZbQ(i j:Nat){x y:Str}{px py:Pos}{kk:Nat}(hc:X.calm=true)(hN:X.N.Nodup)(hi:X.N[i]?=some x:=by rfl)(hj:X.N[j]?=some y:=by rfl)(hx:Loc X.env.scope x:=by first|exact Or.inl rfl|exact Or.inr rfl)(hy:Loc X.env.scope y:=by first|exact Or.inl rfl|exact Or.inr rfl)(hf:X.fn x=true∨X.env.scope.names.lookup x=some .local:=by first|exact .inl rfl|exact .inr rfl)(hg:X.fn y=true∨X.env.scope.names.lookup y=some .local:=by first|exact .inl rfl|exact .inr rfl)(hs:(assignEach [.Name x px,.Name y py] X.env).map (·.2)=assign (.Name x px) X.env::(assignEach [.Name y py] X.env).map (·.2):=by rfl)(hs2:(assignEach [.Name y py] X.env).map (·.2)=assign (.Name y py) X.env::(assignEach [] X.env).map (·.2):=by rfl)(hn:(assignEach [.Name x px,.Name y py] X.env).length=2:=by rfl)(hst:(assignEach [.Name x px,.Name y py] X.env).findIdx? (·.1)=none:=by rfl):PG X (.Tuple [.Name x px,.Name y py] kk pos) (gT X.K (.tp [i,j])):=by
 rintro pins s σ H v u Q I r ⟨a,xs,e1,h1,h2,h3⟩
 refine pg_tup hc (Zga (Zam hN hi hx hf) (Zga (Zam hN hj hy hg) Zme hs2) hs) hn hst pins s σ H v u Q I r ⟨a,xs,e1,h1,h2,?_⟩
 match xs,h2 with
 |[v1,v2],_=>exact⟨v1,[v2],rfl,v2,[],rfl,rfl,h3⟩
theorem Zj0{tg:Expr}{is:List Nat}(hN:∀i∈is,i<n)(h:PE X e (tE X.K call gv xr ea))(hg:PG X tg (gT X.K (.tp is)))(hk:PSs X rest (tS X.K call gv xr n k))(hs:swapsWithSole [tg] e pos.line X.env=pure false:=by rfl)(hw:swappedStores [tg] e X.env=pure none:=by rfl)(h1:(assignEach [tg] X.env).map (·.2)=[assign tg X.env]:=by rfl):PSs X (.Assign [tg] e pos::rest) (tS X.K call gv xr n (.asgT is ea k)):=by
 refine PSs.mono (Qu (Zh6 h hg hs hw h1) hk) ?_
 rintro D σ H ⟨hl,env,cm,m,hE,M,ho⟩
 rw[ex]at ho
 refine⟨env,cm,m,hE,M,ho.bind.mono λw cm1 m1 H1 x1 M1 o1 v rv=>?_⟩
 cases w with
 |f a=>exact o1.elim
 |x _ _ _=>exact o1.elim
 |c i=>exact o1.elim
 |t t =>
  have o1:OkR X.K (match Xq (.tp is) t env with
   |some env=>ex call gv k env m1
   |none=>.stuck) xr cm1 m1 H1 _:=o1
  split at o1
  ·rename_i env' eb
   have:=Zlm (Zm3 (Q:=λσ' H'=>H'=H1/\EnvR X.K cm1 m1 H1 env' σ') (hE.ext x1 M M1) (λj hj=>by rw[hl];exact hN j hj) rv eb λσ' hE' _=>⟨rfl,hE'⟩)
   obtain⟨a1,xs,z1,z2,z3,z4,z5,z6⟩:=this
   exact⟨a1,xs,z1,z2,z3,z4.trans hl,env',cm1,m1,z6,M1,o1⟩
  ·exact o1.elim
end
section
variable{xr:XR}{X:Cx}{call:Nat->List W->Mem->Res W}{gv:List T}
variable{e:Expr}{es:List Expr}{eas:Es}{pos p:Pos}
theorem Zmp(hg:Gl X "len")(hm:X.mg "len" = none)(ha:PA X (e::es) (tA X.K call gv xr eas))(he:notStar e=true)(hpl:es.all notStar=true):PE X (.Call (.Name "len" p) (e::es) [] pos) (tE X.K call gv xr (.blt .len eas)):=Zik Zjn (by decide +kernel) hg hm ha (by decide) (by decide) he hpl
theorem Zkd(hg:Gl X "int")(hm:X.mg "int" = none)(ha:PA X (e::es) (tA X.K call gv xr eas))(he:notStar e=true)(hpl:es.all notStar=true):PE X (.Call (.Name "int" p) (e::es) [] pos) (tE X.K call gv xr (.blt .int eas)):=Zij Zjo (by decide +kernel) hg hm ha (by decide) (by decide) he hpl
theorem ZgR(hg:Gl X "tuple")(hm:X.mg "tuple" = none)(ha:PA X (e::es) (tA X.K call gv xr eas))(he:notStar e=true)(hpl:es.all notStar=true)(hc:X.calm=true:=by rfl):PE X (.Call (.Name "tuple" p) (e::es) [] pos) (tE X.K call gv xr (.blt .tuple eas)):=Zij (ZfT hc) (by decide +kernel) hg hm ha (by decide) (by decide) he hpl
theorem Zkj(hg:Gl X "all")(hm:X.mg "all" = none)(ha:PA X (e::es) (tA X.K call gv xr eas))(he:notStar e=true)(hpl:es.all notStar=true)(hc:X.calm=true:=by rfl):PE X (.Call (.Name "all" p) (e::es) [] pos) (tE X.K call gv xr (.blt .all eas)):=Zik (Zjp hc) (by decide +kernel) hg hm ha (by decide) (by decide) he hpl
end
structure Bd (X:Cx) (st:List Stmt) (t:TS):Prop where
 h:PSs X st t
theorem Zlo{K:Frag}{fns:List Fn}{gv:List T}{k:Nat}{P:Program}{w:World}{mg:Str->Option Value}{base:Heap}{x qual:Str}{st:Stmt}{f:Addr}{fd:FuncData}{N ps:List Str}{fi np n:Nat}{body:S}{cell:Bool}(F:Fun K x qual st f fd)(S:FnScope N ps (Zc st))(hd:fns[fi]?=some ⟨np,n,body,cell⟩)(hps:np=ps.length)(hn:N.length=n)(hbody:∀(cdv:Value) (A:Around) (outer:List PySem.Env) (s:Shared) (H:Hp) (E:XK),Room k (A.deeper (envOfC qual (Zc st) s.heap.objs.size f cdv)) ->
   ∀(xe:Value->Shared->Prop) (pn:List (Addr×Obj)) (xr:XR),Go (asX (cxOf (CXF P w) P w K mg base N qual (Zc st) f cdv A outer s H E) xe pn) xr->Bd (asX (cxOf (CXF P w) P w K mg base N qual (Zc st) f cdv A outer s H E) xe pn) (Ql st) (tS K (Jf fns gv k) gv xr n body)):
  FnOk P w K mg base (CXF P w) (k+1) f fd ps (spF K fns gv (k+1) fi):=by
 subst hn
 exact fn_okW F S hd hps rfl λcdv A outer s H E hr xe pn xr go=>(hbody cdv A outer s H E hr xe pn xr go).h
section
variable{K:Frag}{X:Cx}{fns:List Fn}{gv:List T}{xr:XR}{call:Nat->List W->Mem->Res W}
variable{e:Expr}{es:List Expr}{eas:Es}{pos p:Pos}{k:Nat}
inductive TabOk (P:Program) (w:World) (K:Frag) (mg:Str->Option Value) (base:Heap) (fns:List Fn) (gv:List T) (k:Nat):List (Nat×Nat)->Prop where
 |nil:TabOk P w K mg base fns gv k []
 |cons {j fi a:Nat}{x:Str}{r:List (Nat×Nat)}:FOk P w K mg base fns gv k x fi->mg x=some (.ref a)->gv[j]?=some (.int (a:Int))->TabOk P w K mg base fns gv k r->TabOk P w K mg base fns gv k ((j,fi)::r)
end
end Mi
namespace Mi
theorem Qi{f:Env->Mem->Res (List T)}{tg:Tg}{env:Env}{m:Mem}{g:T->List T}:∀(ts:List T),(∀t∈ts,∃env',Xq tg t env=some env'/\f env' m=.ok (g t) m)->Xe f tg ts env m=.ok (ts.flatMap g) m
 |[],_=>rfl
 |t::ts,h=>by
  obtain⟨env',e1,e2⟩:=h t List.mem_cons_self
  rw[Xe,e1]
  show(f env' m).bind _=_
  rw[e2]
  show(Xe f tg ts env m).bind _=_
  rw[Qi ts λt ht=>h t (List.mem_cons_of_mem _ ht)]
  rfl
inductive Turns {α β:Type}(R:α->β->Prop):List α->List β->Prop where
 |nil:Turns R [] []
 |cons {a:α}{b:β}{as:List α}{bs:List β}:R a b->Turns R as bs->Turns R (a::as) (b::bs)
theorem Zc1{f:Env->Mem->Res Flow}{tg:Tg}{P:Env->Mem->Prop}:∀(ts:List T) (env:Env) (m:Mem),P env m->(∀t∈ts,∀env m,P env m->∃env1 env2 m2,Xq tg t env=some env1/\f env1 m=.ok (.next env2) m2/\P env2 m2) ->
  ∃env' m',Qh f tg ts env m=.ok (.next env') m'/\P env' m'
 |[],env,m,hm,_=>⟨env,m,rfl,hm⟩
 |t::ts,env,m,hm,h=>by
  obtain⟨env1,env2,m2,e1,e2,p2⟩:=h t List.mem_cons_self env m hm
  obtain⟨env3,m3,e3,p3⟩:=Zc1 ts env2 m2 p2 λt ht=>h t (List.mem_cons_of_mem _ ht)
  refine⟨env3,m3,?_,p3⟩
  rw[Qh,e1]
  show(f env1 m).bind _=_
  rw[e2]
  exact e3
theorem Znt{α:Type}{xs:List α}{i:Int}(h0:0<=i)(h1:i<xs.length):∃x,atT xs i=some x/\x∈xs:=by
 have hi:i.toNat<xs.length:=by omega
 refine⟨xs[i.toNat],?_,List.getElem_mem hi⟩
 unfold atT ixOf
 rw[if_pos h0,if_pos h1]
 exact List.getElem?_eq_getElem hi
theorem ZaR{α:Type}(f:α->Bool):∀xs:List α,bools? (xs.map λx=>.bl (f x))=some (xs.map f)
 |[]=>rfl
 |x::xs=>by
  rw[List.map_cons,bools?,ZaR f xs]
  rfl
theorem strs_map{α:Type}(f:α->List Nat):∀xs:List α,strs? (xs.map λx=>.str (f x))=some (xs.map f)
 |[]=>rfl
 |x::xs=>by
  rw[List.map_cons,strs?,strs_map f xs]
  rfl
section
variable{call:Nat->List W->Mem->Res W}{gv:List T}
noncomputable def Q3(call:Nat->List W->Mem->Res W)(gv:List T)(cs:Es)(inner:E)(env:Env)(m:Mem):Res (List T):=(tests call gv cs env m).bind λk m=>if k then(ev call gv inner env m).bind ZdR else .ok [] m
theorem Q9{own:Nat}{keep:List Nat}{it:E}{tg:Tg}{cs:Es}{inner:E}{env:Env}{m m0 m1 m2:Mem}{x:W}{ts out:List T}(h1:ev call gv it env m=.ok x m0)(h2:ZS x m0=.ok ts m1)(h3:Xe (Q3 call gv cs inner) tg ts (List.replicate own none++keep.map λi=>(env[i]?).join) m1=.ok out m2)(hz:out.length<=lim):ev call gv (.comp own keep it tg cs inner) env m=.ok (.t (.lst out)) (giveBack x m0 m2):=by
 have e:ev call gv (.comp own keep it tg cs inner) env m=(ev call gv it env m).only.bind λx m0=>(ZS x m0).bind λts m =>
  (Xe (Q3 call gv cs inner) tg ts (List.replicate own none++keep.map λi=>(env[i]?).join) m).only.bind λout m =>
   if out.length<=lim then .ok (.t (.lst out)) (giveBack x m0 m)else .stuck:=by rw[ev];rfl
 rw[e,h1]
 show(ZS x m0).bind _=_
 rw[h2]
 show(Xe (Q3 call gv cs inner) tg ts (List.replicate own none++keep.map λi=>(env[i]?).join) m1).only.bind _=_
 rw[h3]
 exact if_pos hz
theorem XX{tg:Tg}{it:E}{body k:S}{env env':Env}{m m0 m1 m2:Mem}{x:W}{ts:List T}(h1:ev call gv it env m=.ok x m0)(h2:ZS x m0=.ok ts m1)(h3:Qh (ex call gv body) tg ts env m1=.ok (.next env') m2):
  ex call gv (.forr tg it body k) env m=ex call gv k env' (giveBack x m0 m2):=by
 rw[ex,h1]
 show(ZS x m0).bind _=_
 rw[h2]
 show(Qh (ex call gv body) tg ts env m1).bind _=_
 rw[h3]
 rfl
end
section
variable{call:Nat->List W->Mem->Res W}{gv:List T}{env:Env}{m m1 m2:Mem}{k a b:S}{e:E}{w:W}
theorem Zf{α β:Type}(x:α)(m:Mem)(f:α->Mem->Res β):(Res.ok x m).bind f=f x m:=rfl
theorem only_k{α:Type}(x:α)(m:Mem):(Res.ok x m).only=.ok x m:=rfl
theorem view_k(x:T)(m:Mem):view (.t x) m=some x:=rfl
theorem pur_k(x:T)(m:Mem):pur (some x) m=.ok (.t x) m:=rfl
theorem Znp(x:Bool)(m:Mem):ZcB (.t (.bl x)) m=.ok x m:=rfl
theorem Zdl(x:Bool)(m:Mem):ZQ (.t (.bl x)) m=.ok x m:=rfl
theorem frz_k(x:T)(m:Mem):frz (.t x) m=.ok x m:=rfl
theorem Zjr(x:List T)(m:Mem):ZdR (.t (.lst x)) m=.ok x m:=rfl
theorem intP_k(x:Int)(m:Mem):intP (.t (.int x)) m=.ok (some x) m:=rfl
theorem c_lt(i j:Int):cmpT .Lt (.int i) (.int j)=some (decide (i<j)):=rfl
theorem c_le(i j:Int):cmpT .LtE (.int i) (.int j)=some (decide (i<=j)):=rfl
theorem c_gt(i j:Int):cmpT .Gt (.int i) (.int j)=some (decide (j<i)):=rfl
theorem c_ge(i j:Int):cmpT .GtE (.int i) (.int j)=some (decide (j<=i)):=rfl
theorem Ze0(i j:Int):cmpT .Eq (.int i) (.int j)=some (i==j):=rfl
theorem c_neI(i j:Int):cmpT .NotEq (.int i) (.int j)=some (!(i==j)):=rfl
theorem c_eqB(i j:Bool):cmpT .Eq (.bl i) (.bl j)=some (i==j):=rfl
theorem c_neB(i j:Bool):cmpT .NotEq (.bl i) (.bl j)=some (!(i==j)):=rfl
theorem ZbJ(i j:List Nat):cmpT .Eq (.str i) (.str j)=some (i==j):=rfl
theorem Zhp(i j:List Nat):cmpT .NotEq (.str i) (.str j)=some (!(i==j)):=rfl
theorem ZkV(i:Nat)(j:List Nat):cmpT .In (.str [i]) (.str j)=some (decide (i∈j)):=rfl
theorem c_isT(b x:Bool):cmpT .Is (.bl x) (.bl b)=some (x==b):=rfl
theorem Znq(i j:Int):binT .Add (.int i) (.int j)=some (.int (i+j)):=rfl
theorem b_sub(i j:Int):binT .Sub (.int i) (.int j)=some (.int (i-j)):=rfl
theorem Zlz{a b:List T}(h:a.length+b.length<=lim):binT .Add (.lst a) (.lst b)=some (.lst (a++b)):=if_pos h
theorem x_tup(ts:List T)(i:Int):ixT (.tup ts) (.int i)=atT ts i:=rfl
theorem x_lst(ts:List T)(i:Int):ixT (.lst ts) (.int i)=atT ts i:=rfl
theorem x_scr(ts:List Int)(i:Int):ixT (.scr ts) (.int i)=(atT ts i).map .int:=rfl
theorem x_str{cs:List Nat}(h:cs.length<=lim)(i:Int):ixT (.str cs) (.int i)=(atT cs i).map λc=>.str [c]:=if_pos h
theorem s_lst(ts:List T)(lo hi:Option Int):slT (.lst ts) lo hi=some (.lst (cut ts lo hi)):=rfl
theorem s_scr(ts:List Int)(lo hi:Option Int):slT (.scr ts) lo hi=some (.lst ((cut ts lo hi).map .int)):=rfl
theorem Zdz{cs:List Nat}(h:cs.length<=lim):bltT .len [.str cs]=some (.int cs.length):=if_pos h
theorem ZbE(ts:List T):bltT .len [.lst ts]=some (.int ts.length):=rfl
theorem ZmR(ts:List T):bltT .len [.tup ts]=some (.int ts.length):=rfl
theorem l_scr(ts:List Int):bltT .len [.scr ts]=some (.int ts.length):=rfl
theorem ZfE(b:Bool):bltT .int [.bl b]=some (.int (b2i b)):=rfl
theorem Zgk(ts:List T):bltT .tuple [.lst ts]=some (.tup ts):=rfl
theorem ZmT{ts:List T}{bs:List Bool}(h:bools? ts=some bs):bltT .all [.lst ts]=some (.bl (bs.all id)):=by
 show(bools? ts).map _=_
 rw[h];rfl
theorem ZmS{i:Int}(h:i<2^62/\-(2^62)<=i):bltT .range1 [.int i]=some (.lst (rangeT 0 i.toNat)):=if_pos h
theorem ZlI:views [] m=some []:=rfl
theorem ZlJ(x:T)(ws:List W):views (.t x::ws) m=(views ws m).map (x::·):=rfl
theorem Zad:frzs [] m=.ok [] m:=rfl
theorem Zae(x:T)(ws:List W):frzs (.t x::ws) m=(frzs ws m).bind λts m=>.ok (x::ts) m:=rfl
theorem Zt{i:Nat}(h:ev call gv e env m=.ok w m1):ex call gv (.asg i e k) env m=ex call gv k (env.set i (some w)) m1:=by rw[ex,h];rfl
theorem Zg(h:ev call gv e env m=.ok w m1):ex call gv (.ret e k) env m=.ok (.ret w) m1:=by rw[ex,h];rfl
theorem Zw(h:ev call gv e env m=.ok (.t (.bl true)) m1)(h2:ex call gv a env m1=.ok (.ret w) m2):ex call gv (.ife e a b k) env m=.ok (.ret w) m2:=by
 rw[ex,h]
 show(ex call gv a env m1).bind _=_
 rw[h2];rfl
theorem Ze(h:ev call gv e env m=.ok (.t (.bl false)) m1):ex call gv (.ife e a .done k) env m=ex call gv k env m1:=by rw[ex,h];rfl
theorem ZP{n:Nat}{cell:Bool}{t:T}(h:m1.length=n):fin n cell (.ret (.t t)) m1=.ok (.t t) m1:=by
 show Res.ok (W.t t) (m1.take n)=_
 rw[<-h,List.take_length]
theorem ZZ{c:Prop}[Decidable c]{b:S}{env:Env}{m m1 m2:Mem}{k:Nat}{cell:Bool}{X:Res W}{w w':W}(hX:X=if c then(ex call gv b env m).bind λfl m'=>fin k cell fl m' else .stuck)(hc:c)(key:ex call gv b env m=.ok (.ret w) m1)(hf:fin k cell (.ret w) m1=.ok w' m2):X=.ok w' m2:=by
 rw[hX,if_pos hc,key]
 exact hf
theorem d_join{sep:List Nat}{xs:List T}{ys:List (List Nat)}(h:strs? xs=some ys)(hz:(ys.map List.length).sum+ys.length*sep.length<=lim):doM .join (.t (.str sep)) [.t (.lst xs)] m=.ok (.t (.str (Qp sep ys))) m:=by
 show pur ((strs? xs).bind λys=>if(ys.map List.length).sum+ys.length*sep.length<=lim then some (.str (Qp sep ys))else none) m=_
 rw[h]
 show pur (if(ys.map List.length).sum+ys.length*sep.length<=lim then some (.str (Qp sep ys))else none) m=_
 rw[if_pos hz]
 rfl
theorem t_join{x:List Nat}:tyM .join (.t (.str x)) m=true:=rfl
end
noncomputable def EVs:=And.intro @Zf (And.intro @only_k (And.intro @view_k (And.intro @pur_k (And.intro @Znp (And.intro @Zdl (And.intro @frz_k (And.intro @Zjr (And.intro @intP_k (And.intro @c_lt (And.intro @c_le (And.intro @c_gt (And.intro @c_ge (And.intro @Ze0 (And.intro @c_neI (And.intro @c_eqB (And.intro @c_neB (And.intro @ZbJ (And.intro @Zhp (And.intro @ZkV (And.intro @c_isT (And.intro @Znq (And.intro @b_sub (And.intro @x_tup (And.intro @x_lst (And.intro @x_scr (And.intro @s_lst (And.intro @s_scr (And.intro @ZbE (And.intro @ZmR (And.intro @l_scr (And.intro @ZfE (And.intro @Zgk (And.intro @ZlI (And.intro @ZlJ (And.intro @Zad (@Zae))))))))))))))))))))))))))))))))))))
end Mi
namespace Mi
open PySem PySem.Spec PyProof.Rows L2
section
variable{K:Frag}{cm:List Addr}{m:Mem}{H:Hp}{xr:XR}{X:Cx}{call:Nat->List W->Mem->Res W}{gv:List T}
variable{a b c e:Expr}{es:List Expr}{ea eb ec:E}{eas:Es}{pos p p2:Pos}{rest:List Stmt}{k:S}{n:Nat}
theorem Zbp{α β:Type}{F:α->β->Prop}:∀{xs:List α}{ys:List β}(k:Nat),Paired F xs ys->Paired F (xs.eraseIdx k) (ys.eraseIdx k)
 |_,_,_,.nil=>.nil
 |_,_,0,.cons _ t=>t
 |_,_,k+1,.cons r t=>.cons r (Zbp k t)
theorem ty_cell{b:Mt}{w:W}{v:V}(hb:b=.append∨b=.popat)(M:MemR K cm m H)(r:RW K cm m H w v)(h:tyM b w m=true):tyV K "list" v H:=by
 cases w with
 |t t=>rcases hb with rfl|rfl<;>cases h
 |f a=>rcases hb with rfl|rfl<;>cases h
 |x _ _ _=>rcases hb with rfl|rfl<;>cases h
 |c i =>
  obtain⟨a,h1,rfl⟩:=r
  have ht:(match m[i]? with
   |some (some _)=>true
   |_=>false)=true:=by rcases hb with rfl|rfl<;>exact h
  split at ht
  ·rename_i c e1
   obtain⟨b,vs,q1,q2,_⟩:=M.at' i _ e1
   rw[h1]at q1;cases q1
   exact .inl ⟨rfl,vs,.of q2⟩
  ·cases ht
end
section
variable{K:Frag}{cm:List Addr}{m:Mem}{H:Hp}{xr:XR}{X:Cx}{call:Nat->List W->Mem->Res W}{gv:List T}
variable{a b c e:Expr}{es:List Expr}{ea eb ec:E}{eas:Es}{pos p p2 pos2:Pos}{rest:List Stmt}{k:S}{n:Nat}
theorem ZbS:∀{ks:List Key}{ts:List T}{vs:List V}(_:RTs K cm m H ts vs) (k:Key),(∃t v,Qa ks ts k=some t/\valV (ks.zip vs) k=some v/\RT K cm m H t v)∨(Qa ks ts k=none/\valV (ks.zip vs) k=none)
 |[],_,_,_,k=>.inr ⟨by simp[Qa],by simp[valV]⟩
 |_::_,_,_,.nil,k=>.inr ⟨by simp[Qa],by simp[valV]⟩
 |k0::ks,t::ts,v::vs,.cons r rs,k=>by
  by_cases h:k0=k
  ·subst h
   exact .inl ⟨t,v,by simp[Qa],by simp[valV],r⟩
  ·have e1:Qa (k0::ks) (t::ts) k=Qa ks ts k:=by simp[Qa,List.find?_cons,h]
   have e2:valV ((k0::ks).zip (v::vs)) k=valV (ks.zip vs) k:=by simp[valV,List.find?_cons,h]
   rw[e1,e2]
   exact ZbS rs k
theorem ZiE{t:T}{k:Key}{v:V}(h:keyT t=some k)(r:RT K cm m H t v):v=kV k:=by
 unfold keyT at h
 split at h<;>cases h
 ·cases RT.vint r;rfl
 ·cases RT.vstr r;rfl
theorem evs2{env:Env}:evs call gv (.cons ea (.cons eb .nil)) env m=(ev call gv ea env m).bind λx m=>(ev call gv eb env m).bind λy m=>.ok [x,y] m:=by
 rw[evs]
 cases ev call gv ea env m with
 |ok w m1 =>
  simp only[Res.bind]
  rw[evs]
  cases ev call gv eb env m1 with
  |ok w2 m2=>simp only[Res.bind,evs]
  |exc x m2=>rfl
  |stuck=>rfl
 |exc x m1=>rfl
 |stuck=>rfl
theorem ZjD{g:B}{x y:W}{k:W->List Addr->Mem->Hp->Prop}(h:OkR K (fBlt g [x,y] m) xr cm m H k):∃t1 t2 t,view x m=some t1/\view y m=some t2/\bltT g [t1,t2]=some t/\OkR K (.ok (.t t) m) xr cm m H k:=by
 obtain⟨t,e,ho⟩:=Qm h
 cases q:views [x,y] m with
 |none=>rw[q]at e;cases e
 |some ts =>
  rw[q]at e
  have e:bltT g ts=some t:=e
  unfold views at q
  cases q1:view x m with
  |none=>rw[q1]at q;cases q
  |some t1 =>
   rw[q1]at q
   unfold views at q
   cases q2:view y m with
   |none=>rw[q2]at q;cases q
   |some t2 =>
    rw[q2]at q
    cases q
    exact⟨t1,t2,t,rfl,rfl,e,ho⟩
theorem Zng{ks:List Key}{ts:List T}{v:V}(h:RT K cm m H (.dct ks ts) v):∃a vs,v=.ref a/\H a=some (.dK (ks.zip vs))/\RTs K cm m H ts vs:=by
 cases h with
 |dct q1 q2 q3 q4 q5=>exact⟨_,_,rfl,q1,ZaC q4 q5⟩
theorem Zkf(ha:PE X a (tE X.K call gv xr ea))(hb:PE X b (tE X.K call gv xr eb))(hs:NoSl b)(hu:X.A.units+64<cLine):PE X (.Subscript a b pos) (tE X.K call gv xr (.blt .dget (.cons ea (.cons eb .nil)))):=by
 refine PE.mono (Zmu (by omega) ha hb hs) ?_
 rintro σ H Q ⟨env,cm,m,hE,M,ho⟩
 rw[ev,evs2]at ho
 refine⟨env,cm,m,hE,M,ho.bind.bind.mono λw cm1 m1 H1 x1 M1 o1 v rv=>?_⟩
 refine⟨env,cm1,m1,hE.ext x1 M M1,M1,o1.bind.mono λw2 cm2 m2 H2 x2 M2 o2 v2 rv2=>?_⟩
 obtain⟨t1,t2,t,q1,q2,e,o3⟩:=ZjD (g:=.dget) (o2.now M2)
 cases t1 with
 |dct ks ts =>
  have e:(keyT t2).bind (Qa ks ts)=some t:=e
  cases qk:keyT t2 with
  |none=>rw[qk]at e;cases e
  |some kk =>
   rw[qk]at e
   have e:Qa ks ts kk=some t:=e
   obtain⟨a,vs,rfl,h1,r1⟩:=Zng (Zd (rv.ext x2 M1 M2) q1 (λ_ z=>by cases z))
   have ey:=ZiE qk (Zd rv2 q2 (λ_ z=>by subst z;cases qk))
   subst ey
   rcases ZbS (ks:=ks) r1 kk with⟨t',v',l1,l2,l3⟩|⟨l1,l2⟩
   ·rw[l1]at e
    cases e
    exact⟨a,v',rfl,by rw[<-l2];exact .k h1,ans o3 M2 l3⟩
   ·rw[l1]at e;cases e
 |_=>cases e
end
noncomputable abbrev q1(h:Heap)(a:Addr):Heap:=h.push { cls:=.type "list_iterator",data:=.fields #[.ref a,.int 0 0] }
noncomputable abbrev q5(h:Heap)(a b c d:Addr):Heap:=(q1 (q1 (q1 (q1 h a) b) c) d).push { cls:=.type "tuple",data:=.seq #[.ref h.objs.size,.ref (q1 h a).objs.size,.ref (q1 (q1 h a) b).objs.size,.ref (q1 (q1 (q1 h a) b) c).objs.size] }
noncomputable abbrev q6(h:Heap)(a b c d:Addr):Heap:=(q5 h a b c d).push { cls:=.type "tuple",data:=.seq #[.none,.none,.none,.none] }
noncomputable abbrev q7(h:Heap)(a b c d:Addr):Heap:=(q6 h a b c d).push { cls:=.type "zip",data:=.fields #[.none,.bool false,.bool false,.ref (q1 (q1 (q1 (q1 h a) b) c) d).objs.size,.ref (q5 h a b c d).objs.size] }
set_option maxHeartbeats 4000000 in
section
variable{prog:Program}{w:World}{A:Around}{E:Value->Shared->Prop}{s:Shared}{led:Bool}
set_option maxHeartbeats 3200000 in
end
section
variable{K:Frag}{cm:List Addr}{m:Mem}{H:Hp}{xr:XR}{X:Cx}{call:Nat->List W->Mem->Res W}{gv:List T}
variable{a b c e:Expr}{es:List Expr}{ea eb ec:E}{eas:Es}{pos p p2 pos2:Pos}
noncomputable def iEnum(K:Frag)(ta:TA):TI:=λσ H R=>ta σ H λvs H1=>∃a xs,vs=[.ref a]/\SqL K H1 a xs/\R (Ite K a) H1
theorem Zmd{ts:List Expr}{kk}{tp:Pos}{ta:TA}(hg:Gl X "enumerate")(hm:X.mg "enumerate" = none)(ha:PA X [a] ta)(h1:notStar a=true):
  PI X (.Tuple ts kk tp) (.Call (.Name "enumerate" p) [a] [] pos) (iEnum X.K ta):=by
 intro pins s σ H R I h
 refine Call_ (ZeE I hg hm (show bootBuiltins "enumerate" = some (.type "enumerate")from by decide +kernel) (PyProof.Rows.callWith_type1 (thn (ha pos pins s σ H _ I h) λus s1 ⟨vs,H1,I1,r1,q1⟩=>?_) (Qd h1) rfl))
 obtain⟨x,xs,e,q1,q⟩:=q1
 subst e
 cases r1 with
 |cons r rr =>
  cases rr
  cases r
  obtain⟨its,rv,p,_⟩:=I1.list q1
  refine call_enumerate_list p.isList λg hE hI hsz hk=>wpAny_pyIter_enum hE ?_
  refine⟨_,[s1.heap.objs.size+1,s1.heap.objs.size],_,_,H1,rfl,I1.kept (t':=s1.toks) hk,ZhC (Nat.succ_ne_self _),⟨⟨_,hE⟩,hI⟩,λb hb=>?_,q⟩
  have hb':s1.heap.objs.size<=b:=by
   simp only[List.mem_cons,List.not_mem_nil,or_false]at hb
   rcases hb with rfl|rfl<;>omega
  exact I1.fpOk hb' (I1.hok.fresh hb')
theorem PE.tree(h:PE X e (tE X.K call gv xr ea)):PE X e (tE X.K call gv xr (.tr ea)):=by
 refine PE.mono h ?_
 rintro σ H Q ⟨env,cm,m,hE,M,ho⟩
 refine⟨env,cm,m,hE,M,?_⟩
 rw[ev]at ho
 exact ho.bind.mono λw cm1 m1 H1 x1 M1 o1=>by
  cases w with
  |t x=>exact OkR.now o1 M1
  |f a=>exact o1.elim
  |x _ _ _=>exact o1.elim
  |c i=>exact o1.elim
theorem Zj9{ts:List Expr}{kk}{tp:Pos}(hg:Gl X "enumerate")(hm:X.mg "enumerate" = none)(ha:PA X [a] (tA X.K call gv xr (.cons (.tr ea) .nil)))(hs:notStar a=true:=by rfl):PI X (.Tuple ts kk tp) (.Call (.Name "enumerate" p) [a] [] pos) (tI X.K call gv xr (.blt .enum (.cons (.tr ea) .nil))):=by
 refine PI.mono (Zmd hg hm ha hs) ?_
 rintro σ H R ⟨env,cm,m,hE,M,ho⟩
 rw[ev]at ho
 cases h:evs call gv (.cons (.tr ea) .nil) env m with
 |stuck=>rw[h]at ho;exact ho.elim
 |exc x m' =>
  refine⟨env,cm,m,hE,M,?_⟩
  rw[h]at ho ⊢
  exact ho
 |ok ws m' =>
  refine⟨env,cm,m,hE,M,?_⟩
  rw[h]at ho ⊢
  have hT:∃t,ws=[.t t]:=by
   rw[evs]at h
   obtain⟨w,m1,h1,h2⟩:=Zo h
   obtain⟨ws',m2,h3,h4⟩:=Zo h2
   rw[evs]at h3
   cases h3
   cases h4
   rw[ev]at h1
   obtain⟨w0,m0,h5,h6⟩:=Zo h1
   cases w0 with
   |t x=>cases h6;exact⟨x,rfl⟩
   |f a=>cases h6
   |x _ _ _=>cases h6
   |c i=>cases h6
  obtain⟨t,rfl⟩:=hT
  have ho1:=OkR.bind ho
  intro cm1 H1 x1 M1 vs rvs
  have o1:OkR X.K (fBlt .enum [W.t t] m') xr cm1 m' H1 _:=ho1 cm1 H1 x1 M1
  obtain⟨w,v,t',rr,e1,rfl,rv,e,eb,ho⟩:=blt1 rvs (Zbi (by decide)) o1
  cases e1
  cases e
  cases t with
  |lst ts =>
   have eb:(if ts.length<=lim then some (T.lst (ZcJ ts))else none)=some rr:=eb
   split at eb<;>cases eb
   obtain⟨ts',m2,q1,q2⟩:=OkR.now ho M1
   cases q1
   obtain⟨a,vs,rfl,h1,h2,h3⟩:=RT.ilst rv
   exact⟨a,vs,rfl,.of h1,q2 _ (.enm h1 h2 h3)⟩
  |_=>cases eb
end
section
variable{K:Frag}{cm cm':List Addr}{m m':Mem}{H H':Hp}{xr:XR}{X:Cx}{call:Nat->List W->Mem->Res W}{gv:List T}
variable{a b c e:Expr}{es:List Expr}{ea eb ec:E}{eas:Es}{pos p p2:Pos}{rest:List Stmt}{k:S}{n:Nat}
theorem Zai{c:Nat}:∀{ws:List (List Nat)},ws≠[]->(∀w∈ws,c∉w)->ZR c (Qp [c] ws)=ws
 |[],h,_=>absurd rfl h
 |[w],h0,hc=>by
  show ZR c w=[w]
  have hw:=hc w (List.mem_singleton.mpr rfl)
  clear hc h0
  induction w with
  |nil=>rfl
  |cons a r ih =>
   rw[ZR,if_neg (λz=>hw (by rw[z];exact List.mem_cons_self)),ih λz=>hw (List.mem_cons_of_mem _ z)]
 |w::v::r,h0,hc=>by
  have ih:=Zai (c:=c) (ws:=v::r) (by simp) λu hu=>hc u (List.mem_cons_of_mem _ hu)
  show ZR c (w++[c]++Qp [c] (v::r))=_
  have hw:=hc w List.mem_cons_self
  clear hc h0
  induction w with
  |nil =>
   show ZR c (c::Qp [c] (v::r))=_
   rw[ZR,if_pos rfl,ih]
  |cons a w ihw =>
   show ZR c (a::(w++[c]++Qp [c] (v::r)))=_
   rw[ZR,if_neg (λz=>hw (by rw[z];exact List.mem_cons_self)),ihw λz=>hw (List.mem_cons_of_mem _ z)]
theorem ZjM(c:Nat)(cs:List Nat):Txt.split ⟨cs.toArray⟩ ⟨#[c]⟩=(ZR c cs).map λw=>(⟨w.toArray⟩:Str):=by
 have h1:=StrLaws.join_split ⟨cs.toArray⟩ ⟨#[c]⟩
 have h2:=StrLaws.split_free ⟨cs.toArray⟩ c
 have h3:=split_pos (⟨cs.toArray⟩:Str) ⟨#[c]⟩
 generalize hq:Txt.split ⟨cs.toArray⟩ ⟨#[c]⟩=ps at h1 h2 h3
 have hm:ps=(ps.map λp=>p.cps.toList).map λw=>(⟨w.toArray⟩:Str):=by
  rw[List.map_map]
  exact(List.map_id' (l:=ps)).symm.trans (List.map_congr_left λx _=>by cases x;simp)
 have hj:Qp [c] (ps.map λp=>p.cps.toList)=cs:=by
  have:=ZfG [c] (ps.map λp=>p.cps.toList)
  rw[<-hm]at this
  have e2:(⟨cs.toArray⟩:Str)=⟨(Qp [c] (ps.map λp=>p.cps.toList)).toArray⟩:=h1.symm.trans this
  have e3:=congrArg (λz:Str=>z.cps.toList) e2
  simpa using e3.symm
 have hs:=Zai (c:=c) (ws:=ps.map λp=>p.cps.toList) (by
  intro z
  have:ps=[]:=List.map_eq_nil_iff.mp z
  rw[this]at h3
  simp at h3) (λw hw=>by
  obtain⟨q,hq,rfl⟩:=List.mem_map.mp hw
  exact h2 q hq)
 rw[hj]at hs
 rw[hs]
 exact hm
theorem ZhN{prog:Program}{w:World}{A:Around}{E:Value->Shared->Prop}{s:Shared}{Q:Value->Shared->Prop}{x y:Str}{t u:Tok}(hy:(y.length==0)=false)(hz:x.length+2<=sizeLine)(h:∀(l:List (Str×Tok)) (k:Nat),l.map (·.1)=Txt.split x y->Q (.ref s.heap.objs.size) { s with heap:=s.heap.push { cls:=.type "list",data:=.seq (strValues l).toArray },toks:=k }):
  wpAny (model prog w) A (PySem.call (.builtin "str.split") [.str x t,.str y u]) Q E s:=by
 have many:(Builtin.Str.partsBetween x (Builtin.Str.occurrences x y 0 x.length (x.length+1)) y.length).length<=sizeLine:=by
  have:=StrLaws.occ_length_le x y 0 x.length (x.length+1)
  rw[length_partsBetween];omega
 by_cases h1:(decide (x.length<y.length) || decide (Builtin.Str.strKind x<Builtin.Str.strKind y))=true
 ·refine call_meets F.slot_str_split (typeIs_str _ _ _) F.entry_str_split (F.args_str_split_2 _ _) (meets_str_split_cannot_occur x y t u h1) ?_
  exact h [(x,t)] s.toks (if_pos h1).symm
 ·have g1:=Bool.eq_false_iff.mpr h1
  by_cases h2:(Builtin.Str.occurrences x y 0 x.length (x.length+1)).isEmpty=true
  ·refine call_meets F.slot_str_split (typeIs_str _ _ _) F.entry_str_split (F.args_str_split_2 _ _) (meets_str_split_not_found x y t u g1 hy h2) ?_
   exact h [(x,t)] s.toks ((if_neg h1).trans (if_pos h2)).symm
  ·have g2:=Bool.eq_false_iff.mpr h2
   refine call_meets F.slot_str_split (typeIs_str _ _ _) F.entry_str_split (F.args_str_split_2 _ _) (meets_str_split_sep x y t u g1 hy g2 (by omega) many) ?_
   have q:=h (numbered s.toks (Builtin.Str.partsBetween x (Builtin.Str.occurrences x y 0 x.length (x.length+1)) y.length)) (s.toks+(Builtin.Str.partsBetween x (Builtin.Str.occurrences x y 0 x.length (x.length+1)) y.length).length) ((numbered_texts _ _).trans ((if_neg h1).trans (if_neg h2)).symm)
   rw[<-strsFrom_eq]at q
   exact q
theorem Zb6:∀{l:List (Str×Tok)}{xs:List Str},l.map (·.1)=xs->Vals (xs.map V.str) (strValues l)
 |[],_,e=>by cases e;exact .nil
 |q::l,_,e=>by cases e;exact .cons ⟨q.2,rfl⟩ (Zb6 rfl)
theorem Zf3:∀(ws:List (List Nat)),RTs K cm m H (ws.map T.str) (ws.map λw=>V.str ⟨w.toArray⟩)
 |[]=>.nil
 |w::ws=>.cons (.str w) (Zf3 ws)
theorem ZcQ(c:Nat):∀x:List Nat,(ZR c x).length<=x.length+1
 |[]=>by rw[ZR];simp
 |a::r=>by
  have ih:=ZcQ c r
  rw[ZR]
  split
  ·simp only[List.length_cons];omega
  ·split
   ·rename_i e;rw[e]at ih;simp only[List.length_cons]at ih ⊢;omega
   ·simp only[List.length_cons,List.length_nil];omega
theorem Zix:MtR X "str.split" (rM X.K xr .split):=by
 rintro pins s σ H x xs v us Q I rx rs ⟨cm,m,w,ws,M,rw',rws,ho⟩
 obtain⟨tw,ts,t,q1,q2,e,hz9⟩:=Zle (b:=.split) ho
 clear ho
 unfold mthT at e
 dsimp only at e
 split at e
 ·rename_i cs
  split at e
  ·rename_i c
   split at e<;>cases e
   rename_i hl
   obtain⟨w1,rfl,e1⟩:=ZdZ q2
   cases(Zd rw' q1 (λ_ z=>by cases z)).vstr
   cases rws with
   |cons r1 r0 =>
    cases r0
    cases(Zd r1 e1 (λ_ z=>by cases z)).vstr
    obtain⟨tt,rfl⟩:=rx
    obtain⟨u1,rfl,tu,rfl⟩:=vals1 rs
    have hz:=ZM
    unfold lim at hz
    refine ZhN rfl (by show cs.toArray.size+2<=_;rw[List.size_toArray];omega) λl k' el=>?_
    rw[ZjM c cs]at el
    have hv:=Zb6 el
    rw[List.map_map]at hv
    have hlen:=ZcQ c cs
    have I':=I.lnew (t':=k') hv (by rw[List.length_map];omega)
    exact⟨.ref s.heap.objs.size,_,I',rfl,Zdg hz9 M (Zf3 _) I.fresh⟩
  ·cases e
 ·cases e
theorem ZlN{w:W}{v:V}(r:RW K cm m H w v)(h:tyM .split w m=true):tyV K "str" v H:=by
 have h':(match view w m with|some (.str _)=>true|_=>false)=true:=h
 split at h'
 ·rename_i cs e
  cases(Zd r e (λ_ z=>by cases z)).vstr
  rfl
 ·cases h'
theorem Zig{o:Expr}{apos cpos:Pos}(ho:PE X o (tE X.K call gv xr ea))(ha:PA X [e] (tA X.K call gv xr eas))(hbase:attributeBase o "split" X.env (eval o X.env)=eval o X.env:=by rfl)(hline:(apos.endLine==cpos.line)=true:=by rfl)(hs:notStar e=true:=by rfl):
  PE X (.Call (.Attribute o "split" apos) [e] [] cpos) (tE X.K call gv xr (.mth .split ea eas)):=by
 refine PE.mono (Zki PySem.F.plainAttrs_str PySem.F.slot_str_split PySem.F.type_str_split (Zix (xr:=xr)) ho ha hbase (few1 hs) hline (Qd hs) (Zar rfl)) ?_
 rintro σ H Q ⟨env,cm,m,hE,M,hq⟩
 rw[ev]at hq
 refine⟨env,cm,m,hE,M,hq.bind.mono λw cm1 m1 H1 x1 M1 o1 v rv=>?_⟩
 obtain⟨ht,o1⟩:=ZaG o1
 refine⟨ZlN rv ht,env,cm1,m1,hE.ext x1 M M1,M1,o1.bind.mono λws cm2 m2 H2 x2 M2 o2 vs rvs=>?_⟩
 exact⟨cm2,m2,w,ws,M2,rv.ext x2 M1 M2,rvs,o2⟩
end
noncomputable def Zjw(P:Program)(w:World)(K:Frag)(mg:Str->Option Value)(x:Str)(ks:List Key)(ts:List T):Prop:=
 ∃(a:Addr) (us:List Value) (ys:List V),mg x=some (.ref a)/\(∀h:Heap,K.In h->h.DictOf (Zx P w) a (ks.zip us))/\(a==sysModules)=false/\Vals ys us/\ks.length=us.length/\∀cm m H,RTs K cm m H ts ys
section
variable{K:Frag}{cm cm':List Addr}{m m':Mem}{H H':Hp}{xr:XR}{X:Cx}{call:Nat->List W->Mem->Res W}{gv:List T}
variable{a b c e:Expr}{es:List Expr}{ea eb ec:E}{eas:Es}{pos p p2:Pos}{rest:List Stmt}{k:Nat}{n:Nat}
theorem ZiB:∀{ks:List Key}{ys:List V}{us:List Value},Vals ys us->KV (ks.zip ys) (ks.zip us)
 |[],_,_,_=>.nil
 |_::_,_,_,.nil=>.nil
 |_::_,_,_,.cons r rs=>.cons ⟨rfl,r⟩ (ZiB rs)
theorem Zcr{o:Option T}{f:List Key->List T->Option T}{t:T}(h:gDct o f=some t):∃ks ts,o=some (.dct ks ts)/\f ks ts=some t:=by
 unfold gDct at h
 split at h
 ·exact⟨_,_,rfl,h⟩
 ·cases h
theorem Zd0{w:W}{t:T}{kk:Key}{v:V}(r:RW K cm m H w v)(e:view w m=some t)(hk:keyT t=some kk):v=kV kk:=by
 refine ZiE hk (Zd r e λts z=>?_)
 subst z
 cases hk
theorem Zms{x:Str}{ks:List Key}{ts:List T}(hg:Gl X x)(hk:gv[k]?=some (.dct ks ts))(ok:Zjw X.prog X.w X.K X.mg x ks ts)(hb:PE X b (tE X.K call gv xr eb))(hs:NoSl b)(hd:(x==("__debug__" : Str))=false):PE X (.Subscript (.Name x p) b pos) (tE X.K call gv xr (.gdg k eb)):=by
 obtain⟨a,us,ys,h1,h2,h3,h4,h5,h6⟩:=ok
 rintro pins s σ H Q I ⟨env,cm,m,hE,M,ho⟩
 rw[ev]at ho
 refine ZhJ PySem.F.slot_dict_getitem.lookup hs (Za5 I hg h1 (thn (hb pins s σ H (λv H1=>∃cm1 m1 w,MemR X.K cm1 m1 H1/\RW X.K cm1 m1 H1 w v/\OkR X.K (pur ((view w m1).bind λx=>gDct gv[k]? λks vs=>(keyT x).bind (Qa ks vs)) m1) xr cm1 m1 H1 λw cm' m' H'=>∀v,RW X.K cm' m' H' w v->Q v H') I ⟨env,cm,m,hE,M,ho.bind.mono λw cm1 m1 H1 x1 M1 o1 v rv=>⟨cm1,m1,w,M1,rv,o1⟩⟩) ?_) hd)
 rintro u s1 ⟨v,H1,I1,ru,cm1,m1,w,M1,rv,o1⟩
 obtain⟨t,e,o1⟩:=Qm o1
 have dd:=h2 _ I1.kIn
 refine⟨dd.typeIs,?_⟩
 cases q:view w m1 with
 |none=>rw[q]at e;cases e
 |some tw =>
  rw[q]at e
  obtain⟨ks',ts',e1,e2⟩:=Zcr (show gDct gv[k]? (λks vs=>(keyT tw).bind (Qa ks vs))=some t from e)
  rw[hk]at e1
  cases e1
  cases q2:keyT tw with
  |none=>rw[q2]at e2;cases e2
  |some kk =>
   rw[q2]at e2
   have e2:Qa ks ts kk=some t:=e2
   cases Zd0 rv q q2
   rcases ZbS (ks:=ks) (h6 cm1 m1 H1) kk with⟨t',v',f1,f2,f3⟩|⟨f1,_⟩
   ·rw[e2]at f1;cases f1
    obtain⟨u',g1,g2⟩:=RelO.some_of (v:=v') (o:=valueAt (ks.zip us) kk) (by rw[<-f2];exact(ZiB h4).val kk)
    exact wpAny_getItem_of (Zg5 ru) dd.mapOf g1 ⟨v',H1,I1.tok _,g2,ans o1 M1 f3⟩
   ·rw[e2]at f1;cases f1
noncomputable def ZmM(neg:Bool):CmpOp:=if neg then .NotIn else .In
theorem ZmC{x:Str}{neg:Bool}{ks:List Key}{ts:List T}(hg:Gl X x)(hk:gv[k]?=some (.dct ks ts))(ok:Zjw X.prog X.w X.K X.mg x ks ts)(hb:PE X b (tE X.K call gv xr eb))(hd:(x==("__debug__" : Str))=false):PC X (ZmM neg) b (.Name x p) (tE X.K call gv xr (.gdn k neg eb)):=by
 obtain⟨a,us,ys,h1,h2,h3,h4,h5,h6⟩:=ok
 rintro pins s σ H Q I ⟨env,cm,m,hE,M,ho⟩
 rw[ev]at ho
 refine thn (hb pins s σ H (λv H1=>∃cm1 m1 w,MemR X.K cm1 m1 H1/\RW X.K cm1 m1 H1 w v/\OkR X.K (pur ((view w m1).bind λx=>gDct gv[k]? λks vs=>(keyT x).map λk=>T.bl (if neg then !(Qa ks vs k).isSome else(Qa ks vs k).isSome)) m1) xr cm1 m1 H1 λw cm' m' H'=>∀v,RW X.K cm' m' H' w v->Q v H') I ⟨env,cm,m,hE,M,ho.bind.mono λw cm1 m1 H1 x1 M1 o1 v rv=>⟨cm1,m1,w,M1,rv,o1⟩⟩) ?_
 rintro u s1 ⟨v,H1,I1,ru,cm1,m1,w,M1,rv,o1⟩
 refine Za5 I1 hg h1 ?_ hd
 obtain⟨t,e,o1⟩:=Qm o1
 have dd:=h2 _ I1.kIn
 cases q:view w m1 with
 |none=>rw[q]at e;cases e
 |some tw =>
  rw[q]at e
  obtain⟨ks',ts',e1,e2⟩:=Zcr (show gDct gv[k]? (λks vs=>(keyT tw).map λk=>T.bl (if neg then !(Qa ks vs k).isSome else(Qa ks vs k).isSome))=some t from e)
  rw[hk]at e1
  cases e1
  cases q2:keyT tw with
  |none=>rw[q2]at e2;cases e2
  |some kk =>
   rw[q2]at e2
   cases e2
   cases Zd0 rv q q2
   have hv:(valueAt (ks.zip us) kk).isSome=(Qa ks ts kk).isSome:=by
    have r:=(ZiB (ks:=ks) h4).val kk
    rcases ZbS (ks:=ks) (h6 cm1 m1 H1) kk with⟨t',v',f1,f2,f3⟩|⟨f1,f2⟩
    ·rw[f2]at r
     obtain⟨u',g1,_⟩:=RelO.some_of r
     rw[g1,f1];rfl
    ·rw[f2]at r
     rw[RelO.none_of r,f1];rfl
   cases neg with
   |true =>
    refine wpAny_notIn_of (Zg5 ru) h3 dd.mapOf ?_
    rw[hv]
    exact⟨.bl _,H1,I1.tok _,rfl,ans o1 M1 (.bl _)⟩
   |false =>
    refine wpAny_in_of (Zg5 ru) h3 dd.mapOf ?_
    rw[hv]
    exact⟨.bl _,H1,I1.tok _,rfl,ans o1 M1 (.bl _)⟩
theorem gdn_bl{env:Env}{m m':Mem}{neg:Bool}{w:W}(h:ev call gv (.gdn k neg eb) env m=.ok w m'):∃k,w=.t (.bl k):=by
 rw[ev]at h
 obtain⟨x,m1,_,h⟩:=Zo h
 unfold pur at h
 split at h
 ·rename_i t e
  obtain⟨rfl,rfl⟩:W.t t=w/\m1=m':=by cases h;exact⟨rfl,rfl⟩
  cases q:view x m1 with
  |none=>rw[q]at e;cases e
  |some tw =>
   rw[q]at e
   obtain⟨ks',ts',e1,e2⟩:=Zcr e
   cases q2:keyT tw with
   |none=>rw[q2]at e2;cases e2
   |some kk=>rw[q2]at e2;cases e2;exact⟨_,rfl⟩
 ·cases h
theorem Zl1{x:Str}{neg:Bool}{ks:List Key}{ts:List T}(hg:Gl X x)(hk:gv[k]?=some (.dct ks ts))(ok:Zjw X.prog X.w X.K X.mg x ks ts)(hb:PE X b (tE X.K call gv xr eb))(hd:(x==("__debug__" : Str))=false)(hm:behindInMarks (ZmM neg) (.Name x p)=false):PT X (.Compare b [ZmM neg] [.Name x p] pos) (tT X.K call gv xr (.gdn k neg eb)):=
 Zfo (f:=λ_ _=>.stuck) (te:=tE X.K call gv xr (.gdn k neg eb)) (PT.mono (pt_cmp (ZmC (neg:=neg) hg hk ok hb hd) hm) λσ H Q q=>q) (λenv m w m' h=>gdn_bl h) (λσ H Q q=>q)
noncomputable def ZaN:Es->Nat
 |.nil=>0
 |.cons _ es=>ZaN es+1
noncomputable def Jq(K:Frag)(call:Nat->List W->Mem->Res W)(gv:List T)(xr:XR):List (List Nat)->Es->List (TE×TE)
 |x::xs,.cons e es=>(tC (.str ⟨x.toArray⟩),tE K call gv xr e)::Jq K call gv xr xs es
 |_,_=>[]
theorem Zce{σ:L2.St}{env:Env}:∀{ks:List (List Nat)}{vs:Es}{cm:List Addr}{m:Mem}{H:Hp}{Q:List (V×V)->Hp->Prop}{R:List W->List Addr->Mem->Hp->Prop},EnvR K cm m H env σ->MemR K cm m H->OkR K (evs call gv vs env m) xr cm m H R ->
  (∀ws cm' m' H',Ext cm m H cm' m' H'->MemR K cm' m' H'->R ws cm' m' H'->∀ys,RWs K cm' m' H' ws ys->Q ((ks.map λk=>V.str ⟨k.toArray⟩).zip ys) H')->ZaN vs=ks.length->ZcO (Jq K call gv xr ks vs) σ H Q
 |[],vs,cm,m,H,Q,R,hE,M,ho,hq,hl=>by
  cases vs with
  |nil =>
   rw[evs]at ho
   exact hq [] cm m H .refl M (ho.now M) [] .nil
  |cons e es=>simp[ZaN]at hl
 |k::ks,.nil,cm,m,H,Q,R,hE,M,ho,hq,hl=>by simp[ZaN]at hl
 |k::ks,.cons e es,cm,m,H,Q,R,hE,M,ho,hq,hl=>by
  rw[evs]at ho
  refine⟨env,cm,m,hE,M,ho.bind.mono λw cm1 m1 H1 x1 M1 o1 v rv=>?_⟩
  refine Zce (ks:=ks) (hE.ext x1 M M1) M1 o1.bind (λws cm2 m2 H2 x2 M2 r2 ys ry=>?_) (by simpa[ZaN]using hl)
  exact hq (w::ws) cm2 m2 H2 (x1.trans x2) M2 (r2.now M2) (v::ys) (.cons (rv.ext x2 M1 M2) ry)
theorem Xd:∀{more kvs:List (Key×V)},((kvs++more).map (·.1)).Nodup->Ji kvs more=kvs++more
 |[],kvs,_=>by simp[Ji]
 |q::more,kvs,h=>by
  have hn:(kvs.any λkv=>decide (kv.1=q.1))=false:=by
   rw[List.any_eq_false]
   intro kv hkv z
   have z:=of_decide_eq_true z
   rw[List.map_append,List.nodup_append]at h
   exact h.2.2 kv.1 (List.mem_map_of_mem hkv) q.1 (by simp) z
  have e:putK kvs q.1 q.2=kvs++[q]:=by unfold putK;rw[hn];rfl
  show Ji (putK kvs q.1 q.2) more=_
  rw[e,Xd (by rw[List.append_assoc];exact h),List.append_assoc]
  rfl
theorem Za7{ks:List (List Nat)}(h:ks.Nodup):(ks.map λk=>(Sum.inr ⟨k.toArray⟩:Key)).Nodup:=by
 refine List.Pairwise.map _ (λa b hne z=>hne ?_) h
 have:=congrArg (λq:Key=>match q with|.inr x=>x.cps.toList|.inl _=>[]) z
 simpa using this
theorem ZaU{α β:Type}:∀{xs:List α}{ys:List β},xs.length=ys.length->(xs.zip ys).map (·.1)=xs
 |[],_,_=>rfl
 |_::_,[],h=>by simp at h
 |x::xs,y::ys,h=>by simp[ZaU (xs:=xs) (ys:=ys) (by simpa using h)]
theorem Zhu:∀(ks:List (List Nat)) (ys:List V),(ks.map λk=>V.str ⟨k.toArray⟩).zip ys=((ks.map λk=>(Sum.inr ⟨k.toArray⟩:Key)).zip ys).map λkv=>(kV kv.1,kv.2)
 |[],_=>rfl
 |_::_,[]=>rfl
 |k::ks,y::ys=>by simp[Zhu ks ys,kV]
noncomputable def Ju(trs:List (TE×TE)):TE:=λσ H Q=>∀p φ,H p=none->ZcO trs σ (upd H p (.ext φ)) λps H2=>H2 p=some (.ext φ)/\∃kvs:List (Key×V),ps=kvs.map (λkv=>(kV kv.1,kv.2))/\kvs.length<=15/\Q (.ref p) (upd H2 p (.dK (Ji [] kvs)))
theorem Zge{keys:List (Option Expr)}{values:List Expr}{trs:List (TE×TE)}(h:PPs X pos keys values trs)(hall:keys.all (·.isSome)=true)(hl:keys.length=values.length)(h0:keys≠[])(h15:keys.length<=15):PE X (.Dict keys values pos) (Ju trs):=by
 intro pins s σ H Q I q
 have hn:=I.hok.fresh (Nat.le_refl s.heap.objs.size)
 have hok0:Qc X.prog X.w (upd H s.heap.objs.size (.dK [])) (s.heap.push { cls:=.type "dict",data:=.dict #[] }) s.heap.objs.size (.dK []):=Zgw s.heap I.big
 obtain⟨_,hd0,vs0,r0,dd0⟩:=hok0
 cases r0
 have I1:=I.laid (a:=s.heap.objs.size) (o:=.ext λh=>h.DictOf (Zx X.prog X.w) s.heap.objs.size ([]:List (Key×Value))) (h':=s.heap.push { cls:=.type "dict",data:=.dict #[] }) (t':=s.toks) (λ_ _ q=>Heap.get?_push_of_some _ q) (Nat.le_refl _)
  ⟨dd0,⟨_,Heap.get?_push_size _ rfl⟩,λh1 h2 ⟨o,es,ep,g1,g2⟩ k=>⟨o,es,ep,k o g1,g2⟩⟩
 refine wpAny_Dict_walk (knd:=Zx X.prog X.w) hall hl h0 h15 (thn (h pins _ σ _ _ I1 (q _ _ hn)) λws s2 ⟨ps,H2,I2,rel,e,kvs,ep,lk,q2⟩=>?_)
 subst ep
 obtain⟨rs,c,rk⟩:=Zbh (P:=X.prog) (w:=X.w) rel
 obtain⟨dd,_,_⟩:=(show Qc X.prog X.w H2 s2.heap s.heap.objs.size (.ext λh=>h.DictOf (Zx X.prog X.w) s.heap.objs.size ([]:List (Key×Value)))from I2.hok _ _ e)
 refine⟨rs,c,dd,λh' dd' hs=>⟨.ref s.heap.objs.size,_,?_,rfl,q2⟩⟩
 have hz:(Ji [] kvs).length<=sizeLine:=by
  have h1:=ZaE kvs []
  rw[List.length_nil]at h1
  rw[sizeLine_eq];omega
 have he:∃q,h'.get? s.heap.objs.size=some q:=let⟨q,_,_,hq,_⟩:=dd';⟨q,hq⟩
 exact ZdI I2 (by rw[e];exact True.intro) hs he (Zlx hz hd0 (rk.merge .nil) dd')
theorem RT.offP{p:Addr}{φ:Heap->Prop}{o:HO}(hp:H p=some (.ext φ)){t:T}{v:V}(h:RT K cm m H t v):RT K cm m (upd H p o) t v:=by
 have ne:∀{a:Addr}{u:HO},H a=some u->(∀ψ,u≠.ext ψ)->upd H p o a=some u:=λ{a u} e n=>by
  have:a≠p:=λz=>by subst z;rw[hp]at e;cases e;exact n _ rfl
  rw[Zi this];exact e
 induction h with
 |non=>exact .non
 |bl b=>exact .bl b
 |int i=>exact .int i
 |str cs=>exact .str cs
 |tup q1 q2 _ ih =>
  refine .tup ?_ q2 ih
  rcases q1 with(q|⟨o,q⟩)|q
  ·exact .inl (.inl (ne q λ_ z=>by cases z))
  ·exact .inl (.inr ⟨o,ne q λ_ z=>by cases z⟩)
  ·exact .inr q
 |lst q1 q2 q3 _ ih=>exact .lst (ne q1 λ_ z=>by cases z) q2 q3 ih
 |dct q1 q2 q3 q4 _ ih=>exact .dct (ne q1 λ_ z=>by cases z) q2 q3 q4 ih
 |scr ns q =>
  refine .scr ns ?_
  rcases q with⟨o,q⟩|q
  ·exact .inl ⟨o,ne q λ_ z=>by cases z⟩
  ·exact .inr q
theorem ZeN{α:Type}{ws:List W}{m0:Mem}{f:List T->Mem->Res α}{k:α->List Addr->Mem->Hp->Prop}(h:OkR K ((frzs ws m0).bind f) xr cm m H k):∃ts m',frzs ws m0=.ok ts m'/\OkR K (f ts m') xr cm m H k:=by
 cases q:frzs ws m0 with
 |stuck=>rw[q]at h;exact h.elim
 |exc x m'=>exact absurd q XS
 |ok ts m'=>rw[q]at h;exact⟨ts,m',rfl,h⟩
theorem Zmt{keys:List (Option Expr)}{values:List Expr}{ks:List (List Nat)}{vs:Es}(h:PPs X pos keys values (Jq X.K call gv xr ks vs))(hall:keys.all (·.isSome)=true)(hl:keys.length=values.length)(h0:keys≠[])(h15:keys.length<=15)(hk:keys.length=ks.length)(hlen:ZaN vs=ks.length):
  PE X (.Dict keys values pos) (tE X.K call gv xr (.dsn ks vs)):=by
 refine PE.mono (Zge h hall hl h0 h15) ?_
 rintro σ H Q ⟨env,cm,m,hE,M,ho⟩ p φ hp
 rw[ev]at ho
 have M1:=M.new (o:=.ext φ) hp
 have X1:Ext cm m H cm m (upd H p (.ext φ)):=.new hp
 refine Zce (hE.ext X1 M M1) M1 (OkR.shift ho.bind0 X1) (λws cm2 m2 H2 x2 M2 o2 ys ry=>?_) hlen
 obtain⟨ts,m3,e3,o3⟩:=ZeN o2
 obtain⟨hc,o3⟩:=ZaG o3
 obtain⟨x3,M3,r3⟩:=Xj M2 ry e3
 have hp2:=x2.keep p _ Zk (Zan M hp)
 have hly:ks.length=ys.length:=by rw[hc.1];exact r3.length
 refine⟨hp2.1,(ks.map λk=>(Sum.inr ⟨k.toArray⟩:Key)).zip ys,Zhu ks ys,?_,?_⟩
 ·rw[List.length_zip,List.length_map];omega
 ·have ek:(((ks.map λk=>(Sum.inr ⟨k.toArray⟩:Key)).zip ys).map (·.1)).Nodup:=by
   rw[ZaU (by rw[List.length_map];exact hly)]
   exact Za7 hc.2.2
  rw[Xd (by simpa using ek),List.nil_append]
  have n3:Zq cm2 m3 p:=(x3.keep p _ hp2.1 hp2.2).2
  refine OkR.to (cm':=cm2) o3 ?_ ?_ (.ref p) ?_
  ·have x23:=x2.trans x3
   refine⟨λi a e=>x23.pre i a (X1.pre i a e),x23.len,x23.lent,λa o e n=>?_⟩
   have hne:a≠p:=ZW e hp
   have q:=x23.keep a o (X1.keep a o e n).1 (X1.keep a o e n).2
   exact⟨by rw[Zi hne];exact q.1,q.2⟩
  ·refine⟨M3.len,M3.inj,λi c e=>?_⟩
   obtain⟨a,us,q1,q2,q3,q4⟩:=M3.at' i c e
   have hne:a≠p:=λz=>by subst z;rw[hp2.1]at q2;cases q2
   exact⟨a,us,q1,by rw[Zi hne];exact q2,q3,Zh (λ_ _ z=>RT.offP hp2.1 z) q4⟩
  ·refine RT.dct (ks:=ks.map λk=>(Sum.inr ⟨k.toArray⟩:Key)) Zk n3 (by rw[List.length_map];exact hly) r3.length λi t v h1 h2=>RT.offP hp2.1 (QS r3 i t v h1 h2)
inductive Ents (w:World):List (List Nat)->List Value->List DictEntry->Prop where
 |nil:Ents w [] [] []
 |cons {y:Str}{t:Tok}{cs:List Nat}{h:Int}{u:Value}{css:List (List Nat)}{us:List Value}{es:List DictEntry}:y.cps.toList=cs->h=hashStr w y->Ents w css us es->Ents w (cs::css) (u::us) (⟨h,.str y t,u⟩::es)
noncomputable def VT(K:Frag)(u:Value)(t:T):Prop:=∃v,RelV v u/\∀cm m H,RT K cm m H t v
inductive VTs (K:Frag):List Value->List T->Prop where
 |nil:VTs K [] []
 |cons {u:Value}{t:T}{us:List Value}{ts:List T}:VT K u t->VTs K us ts->VTs K (u::us) (t::ts)
theorem vt_str{y:Str}{t:Tok}{cs:List Nat}(h:y.cps.toList=cs):VT K (.str y t) (.str cs):=⟨.str y,⟨t,rfl⟩,λcm m H=>by rw[Zea h];exact .str cs⟩
theorem VTs.get:∀{us:List Value}{ts:List T},VTs K us ts->∃ys,Vals ys us/\∀cm m H,RTs K cm m H ts ys
 |_,_,.nil=>⟨[],.nil,λ_ _ _=>.nil⟩
 |_,_,.cons ⟨v,h1,h2⟩ r=>let⟨ys,h3,h4⟩:=r.get;⟨v::ys,.cons h1 h3,λcm m H=>.cons (h2 cm m H) (h4 cm m H)⟩
theorem Ents.pairs{P:Program}{w:World}:∀{css:List (List Nat)}{us:List Value}{es:List DictEntry},Ents w css us es->(∀e∈es,∃k,(Zx P w).is k e.key=true/\e.hash=(Zx P w).hash k)/\Pairs (Zx P w) es ((css.map λk=>(Sum.inr ⟨k.toArray⟩:Key)).zip us)/\css.length=us.length
 |_,_,_,.nil=>And.intro (λe he=>nomatch he) (And.intro Pairs.nil rfl)
 |_,_,_,@Ents.cons _ y t cs h u css us es e1 e2 r=>by
  obtain⟨h1,h2,h3⟩:=Ents.pairs (P:=P) r
  refine⟨λe he=>?_,.cons (kv:=(.inr ⟨cs.toArray⟩,u)) ?_ rfl h2,by simp[h3]⟩
  ·rcases List.mem_cons.mp he with rfl|he
   ·exact⟨.inr y,Zcm y t,e2⟩
   ·exact h1 e he
  ·show ZfF (.inr ⟨cs.toArray⟩) (.str y t)=true
   rw[<-Zea e1]
   exact Zcm y t
theorem ZiQ{P:Program}{w:World}{mg:Str->Option Value}{x:Str}{a:Addr}{es:Array DictEntry}{nn:Nat}{css:List (List Nat)}{us:List Value}{ts:List T}(h:mg x=some (.ref a))(l:K.lookup a=some ⟨.type "dict",none,.dict es nn,#[]⟩)(hz:(a==sysModules)=false)(he:Ents w css us es.toList)(nd:css.Nodup)(hv:VTs K us ts):Zjw P w K mg x (css.map λk=>.inr ⟨k.toArray⟩) ts:=by
 obtain⟨ys,h1,h2⟩:=hv.get
 obtain⟨p1,p2,p3⟩:=he.pairs (P:=P)
 refine⟨a,us,ys,h,λhh hK=>⟨_,es,nn,hK a _ l,⟨rfl,rfl,rfl⟩,rfl,λe hm=>p1 e (Array.mem_toList_iff.mpr hm),p2,?_⟩,hz,h1,by rw[List.length_map];exact p3,h2⟩
 rw[ZaU (by rw[List.length_map];exact p3)]
 exact Za7 nd
end
section
variable{K:Frag}{cm:List Addr}{m:Mem}{H:Hp}{xr:XR}{X:Cx}{call:Nat->List W->Mem->Res W}{gv:List T}
variable{a b c e:Expr}{es:List Expr}{ea eb ec:E}{eas:Es}{pos p p2:Pos}
theorem X3{α:Type}:∀(xs:List α) (k:Nat),k+1=xs.length->xs.eraseIdx k=xs.dropLast
 |[],k,h=>by simp at h
 |[x],k,h=>by
  obtain rfl:k=0:=by simp at h;exact h
  rfl
 |x::y::r,0,h=>by simp at h
 |x::y::r,k+1,h=>by
  rw[List.eraseIdx_cons_succ,List.dropLast_cons₂,X3 (y::r) k (by simpa using h)]
noncomputable def rPop0(K:Frag)(xr:XR):V->List V->Hp->VK->Prop:=λx xs H Q=>xs=[]/\∃cm m w,MemR K cm m H/\RW K cm m H w x/\OkR K (doM .popat w [.t (.int (-1))] m) xr cm m H λw cm' m' H'=>∀v,RW K cm' m' H' w v->Q v H'
theorem Zkp:MtR X "list.pop" (rPop0 X.K xr):=by
 rintro pins s σ H x xs v us Q I rx rs ⟨rfl,cm,m,w,M,rw',ho⟩
 cases w with
 |t t=>exact ho.elim
 |f a=>exact ho.elim
 |x _ _ _=>exact ho.elim
 |c i =>
  have ho:OkR X.K (match m[i]? with
   |some (some (false,xs))=>match mutM .popat xs [.int (-1)]with
    |some (t,ys)=>.ok (W.t t) (m.set i (some (false,ys)))
    |none=>.stuck
   |_=>.stuck) xr cm m H _:=ho
  obtain⟨a,ha,rfl⟩:=rw'
  split at ho
  ·rename_i ys e3
   split at ho
   ·rename_i t zs e4
    obtain⟨b,vs,q1,q2,q3,q4⟩:=M.at' i _ e3
    rw[ha]at q1;cases q1
    have l4:=q4.length
    dsimp only at l4
    have e4:(match ixOf ys.length (-1)with
     |some k=>(ys[k]?).map λt=>(t,ys.eraseIdx k)
     |none=>none)=some (t,zs):=e4
    split at e4
    ·rename_i k hk
     have hk1:k+1=ys.length:=by
      unfold ixOf at hk
      rw[if_neg (by decide)]at hk
      split at hk
      ·cases hk;omega
      ·cases hk
     cases q5:ys[k]? with
     |none=>rw[q5]at e4;cases e4
     |some y =>
      rw[q5]at e4;cases e4
      obtain⟨yv,hy,ry⟩:=ZD q4 q5
      obtain⟨x5,M5⟩:=Zbg M e3 ha (Zbp k q4)
      rw[X3 vs k (by omega)]at x5 M5
      refine mt_pop pins s σ H _ _ v us Q I rx rs ⟨a,vs,yv,rfl,rfl,q2,?_,OkR.to ho x5 M5 _ (RT.ext x5 M M5 ry)⟩
      rw[show vs.length-1=k by omega]
      exact hy
    ·cases e4
   ·exact ho.elim
  ·exact ho.elim
theorem Zgc{o:Expr}{apos cpos:Pos}(ho:PE X o (tE X.K call gv xr ea))(hbase:attributeBase o "pop" X.env (eval o X.env)=eval o X.env:=by rfl)(hline:(apos.endLine==cpos.line)=true:=by rfl):
  PE X (.Call (.Attribute o "pop" apos) [] [] cpos) (tE X.K call gv xr (.mth .popat ea (.cons (.con (.int (-1))) .nil))):=by
 refine PE.mono (pe_bm0 PySem.F.plainAttrs_list PySem.F.slot_list_pop PySem.F.type_list_pop (Zkp (xr:=xr)) ho hbase hline) ?_
 rintro σ H Q ⟨env,cm,m,hE,M,hq⟩
 rw[ev]at hq
 refine⟨env,cm,m,hE,M,hq.bind.mono λw cm1 m1 H1 x1 M1 o1 v rv=>?_⟩
 obtain⟨ht,o1⟩:=ZaG o1
 refine⟨ty_cell (.inr rfl) M1 rv ht,rfl,cm1,m1,w,M1,rv,?_⟩
 have e:evs call gv (.cons (.con (.int (-1))) .nil) env m1=.ok [.t (.int (-1))] m1:=by
  simp only[evs,ev,Res.bind]
 rw[e]at o1
 exact o1
end
noncomputable abbrev sv(w:List Nat):V:=.str ⟨w.toArray⟩
noncomputable def Nst(H0 H:Hp)(p:Addr)(ps:List (List (List Nat))):Prop:=(∀b o,H0 b=some o->H b=some o)/\H0 p=none /\
 ∃bs:List Addr,H p=some (.lst (bs.map V.ref))/\bs.length=ps.length/\p∉bs/\bs.Nodup/\∀(k:Nat) b q,bs[k]?=some b->ps[k]?=some q->H b=some (.lst (q.map sv))/\H0 b=none
noncomputable def Grow(H H':Hp):Prop:=∀b o,H b=some o->H' b=some o
theorem Nst.grow{H0 H H':Hp}{p:Addr}{ps:List (List (List Nat))}(h:Nst H0 H p ps)(g:Grow H H'):Nst H0 H' p ps:=by
 obtain⟨h1,h2,bs,h3,h4,h5,h6,h7⟩:=h
 exact⟨λb o e=>g b o (h1 b o e),h2,bs,g _ _ h3,h4,h5,h6,λk b q e1 e2=>⟨g _ _ (h7 k b q e1 e2).1,(h7 k b q e1 e2).2⟩⟩
theorem Nst.new{H0 H:Hp}{p q:Addr}{ps:List (List (List Nat))}(h:Nst H0 H p ps)(hq:H q=none):∃bs:List Addr,upd H q (.lst []) p=some (.lst (bs.map V.ref))/\bs.length=ps.length/\Nst H0 (upd (upd H q (.lst [])) p (.lst (bs.map V.ref++[.ref q]))) p (ps++[[]]):=by
 obtain⟨h1,h2,bs,h3,h4,h5,h6,h7⟩:=h
 have hpq:p≠q:=λe=>by rw[e,hq]at h3;cases h3
 have hb:∀(k:Nat) b,bs[k]?=some b->b≠q:=λk b e z=>by
  have hk:k<ps.length:=by rw[<-h4];exact(List.getElem?_eq_some_iff.mp e).1
  obtain⟨z1,_⟩:=h7 k b _ e (List.getElem?_eq_getElem hk)
  rw[z,hq]at z1;cases z1
 have hbp:∀b∈bs,b≠p:=λb hb e=>h5 (e▸hb)
 have hq0:H0 q=none:=by cases e:H0 q with
  |none=>rfl
  |some o=>rw[h1 q o e]at hq;cases hq
 refine⟨bs,by rw[Zi hpq];exact h3,h4,λb o e=>?_,h2,bs++[q],by rw[Zk,List.map_append];rfl,by simp[h4],?_,?_,?_⟩
 ·have n1:b≠p:=λz=>by rw[z,h2]at e;cases e
  have n2:b≠q:=λz=>by rw[z,hq0]at e;cases e
  rw[Zi n1,Zi n2];exact h1 b o e
 ·intro z;rcases List.mem_append.1 z with z|z
  ·exact h5 z
  ·simp at z;exact hpq z
 ·refine List.nodup_append.2 ⟨h6,by simp,λa ha b hb'=>?_⟩
  simp at hb';subst hb'
  obtain⟨k,hk⟩:=List.getElem?_of_mem ha
  exact hb k a hk
 ·intro k b c e1 e2
  rcases Nat.lt_or_ge k bs.length with hk|hk
  ·rw[List.getElem?_append_left hk]at e1
   rw[List.getElem?_append_left (by omega)]at e2
   rw[Zi (hbp b (List.mem_of_getElem? e1)),Zi (hb k b e1)]
   exact h7 k b c e1 e2
  ·rw[List.getElem?_append_right hk]at e1
   rw[List.getElem?_append_right (by omega)]at e2
   have hk0:k-bs.length=0:=by have:=(List.getElem?_eq_some_iff.mp e1).1;simp at this;omega
   rw[hk0]at e1
   rw[<-h4,hk0]at e2
   simp at e1 e2
   subst e1;subst e2
   rw[Zi (Ne.symm hpq),Zk]
   exact⟨rfl,hq0⟩
theorem Nst.last{H0 H:Hp}{p:Addr}{acc:List (List (List Nat))}{cur:List (List Nat)}(h:Nst H0 H p (acc++[cur])):∃(bs:List Addr) (b:Addr),H p=some (.lst (bs.map V.ref))/\atI (bs.map V.ref) (-1)=some (V.ref b)/\H b=some (.lst (cur.map sv))/\∀w,Nst H0 (upd H b (.lst (cur.map sv++[sv w]))) p (acc++[cur++[w]]):=by
 obtain⟨h1,h2,bs,h3,h4,h5,h6,h7⟩:=h
 have hl:bs.length=acc.length+1:=by rw[h4];simp
 have hk:acc.length<bs.length:=by omega
 have e1:bs[acc.length]?=some (bs[acc.length]):=List.getElem?_eq_getElem hk
 have e2:(acc++[cur])[acc.length]?=some cur:=by simp
 obtain⟨z1,z2⟩:=h7 _ _ _ e1 e2
 have hbp:bs[acc.length]≠p:=λe=>h5 (e▸List.mem_of_getElem? e1)
 refine⟨bs,bs[acc.length],h3,?_,z1,λw=>⟨λb o e=>?_,h2,bs,by rw[Zi (Ne.symm hbp)];exact h3,by rw[hl];simp,h5,h6,λk b q f1 f2=>?_⟩⟩
 ·unfold atI ixN
  simp only[List.length_map]
  rw[if_neg (by omega),if_pos (by omega)]
  show(bs.map V.ref)[((-1:Int)+(bs.length:Int)).toNat]?=_
  rw[show((-1:Int)+(bs.length:Int)).toNat=acc.length from by omega,List.getElem?_map,e1]
  rfl
 ·have n1:b≠bs[acc.length]:=λz=>by rw[z,z2]at e;cases e
  rw[Zi n1];exact h1 b o e
 ·by_cases c:k=acc.length
  ·subst c
   rw[e1]at f1;cases f1
   simp at f2;subst f2
   rw[Zk,List.map_append]
   exact⟨rfl,z2⟩
  ·have hk2:k<acc.length:=by have:=(List.getElem?_eq_some_iff.mp f1).1;omega
   have f3:(acc++[cur])[k]?=some q:=by rw[List.getElem?_append_left hk2]at f2 ⊢;exact f2
   have n1:b≠bs[acc.length]:=λz=>by
    have g1:=(List.getElem?_eq_some_iff.mp f1)
    obtain⟨g1,g2⟩:=g1
    have pw:=List.pairwise_iff_getElem.1 h6 k acc.length g1 hk hk2
    exact pw (g2.trans z)
   rw[Zi n1]
   exact h7 k b q f1 f3
section
variable{K:Frag}{xr:XR}{call:Nat->List W->Mem->Res W}{gv:List T}{σ:L2.St}{H:Hp}
theorem Zgi:MemR K [] [] H:=⟨rfl,λi j a p q e=>by simp at e,λi p e=>by simp at e⟩
theorem ZhF{ea:E}{env:Env}{t:T}{Q:VK}(h:ev call gv ea env []=.ok (.t t) [])(hE:EnvR K [] [] H env σ)(q:∀H',Grow H H'->∀v,RT K [] [] H' t v->Q v H'):tE K call gv xr ea σ H Q:=by
 refine⟨env,[],[],hE,Zgi,?_⟩
 rw[h]
 intro cm' H' x M v r
 have e:cm'=[]:=List.eq_nil_of_length_eq_zero M.len
 subst e
 exact q H' (λb o z=>(x.keep b o z (λi p e=>by simp at e)).1) v r
theorem ZlQ{ea:E}{env:Env}{b:Bool}{Q:Bool->Hp->Prop}(h:ev call gv ea env []=.ok (.t (.bl b)) [])(hE:EnvR K [] [] H env σ)(q:∀H',Grow H H'->Q b H'):tT K call gv xr ea σ H Q:=by
 refine⟨env,[],[],hE,Zgi,?_⟩
 rw[h]
 intro cm' H' x M
 exact q H' (λb o z=>(x.keep b o z (λi p e=>by simp at e)).1)
noncomputable def dpE:E:=.bin .Sub (.bin .Add (.var 3) (.blt .int (.cons (.cmp .Eq (.var 4) (.con (.str [40]))) .nil))) (.blt .int (.cons (.cmp .Eq (.var 4) (.con (.str [41]))) .nil))
noncomputable def cpE:E:=.and (.cmp .Eq (.var 4) (.var 1)) (.cmp .Eq (.var 3) (.con (.int 0)))
noncomputable def m1E:E:=.neg (.con (.int 1))
theorem ZdH{op:CmpOp}{a b:E}{x y:T}{k:Bool}{env:Env}{m:Mem}(ha:ev call gv a env m=.ok (.t x) m)(hb:ev call gv b env m=.ok (.t y) m)(hc:cmpT op x y=some k):ev call gv (.cmp op a b) env m=.ok (.t (.bl k)) m:=by
 rw[ev,ha]
 show(ev call gv b env m).bind _=_
 rw[hb]
 show pur ((cmpT op x y).map .bl) m=_
 rw[hc];rfl
theorem Zi3{op:Operator}{a b:E}{x y z:T}{env:Env}{m:Mem}(ha:ev call gv a env m=.ok (.t x) m)(hb:ev call gv b env m=.ok (.t y) m)(hc:binT op x y=some z):ev call gv (.bin op a b) env m=.ok (.t z) m:=by
 rw[ev,ha]
 show(ev call gv b env m).bind _=_
 rw[hb]
 show pur (binT op x y) m=_
 rw[hc];rfl
theorem Zi1{a:E}{k:Bool}{env:Env}{m:Mem}(ha:ev call gv a env m=.ok (.t (.bl k)) m):ev call gv (.blt .int (.cons a .nil)) env m=.ok (.t (.int (if k then 1 else 0))) m:=by
 have e:evs call gv .nil env m=.ok [] m:=by rw[evs]
 rw[ev,evs,ha]
 show((evs call gv .nil env m).bind λws m=>Res.ok (W.t (.bl k)::ws) m).bind (λws m=>pur ((views ws m).bind λts=>bltT B.int ts) m)=_
 rw[e]
 cases k<;>rfl
theorem Zbd{i:Nat}{w:W}{env:Env}{m:Mem}(h:env[i]?=some (some w)):ev call gv (.var i) env m=.ok w m:=by rw[ev,h]
theorem ZdF{t:T}{env:Env}{m:Mem}:ev call gv (.con t) env m=.ok (.t t) m:=by rw[ev]
theorem eq_str(a b:List Nat):cmpT .Eq (.str a) (.str b)=some (a==b):=by
 show(if ZbA (.str a) (.str b) || (Zj 60 (.str a)&&Zj 60 (.str b))then some (eqT (.str a) (.str b))else none)=_
 rw[show ZbA (.str a) (.str b)=true from rfl,Bool.true_or,if_pos rfl,eqT]
theorem Znd(d:Int):cmpT .Eq (.int d) (.int 0)=some (decide (d=0)):=by
 show(if ZbA (.int d) (.int 0) || (Zj 60 (.int d)&&Zj 60 (.int 0))then some (eqT (.int d) (.int 0))else none)=_
 rw[show ZbA (.int d) (.int 0)=true from rfl,Bool.true_or,if_pos rfl,eqT]
 congr 1
theorem ev_cp{x w:List Nat}{d:Int}:ev call gv cpE [none,some (.t (.str x)),none,some (.t (.int d)),some (.t (.str w))] []=.ok (.t (.bl (w==x&&decide (d=0)))) []:=by
 have e1:ev call gv (.cmp .Eq (.var 4) (.var 1)) [none,some (.t (.str x)),none,some (.t (.int d)),some (.t (.str w))] []=.ok (.t (.bl (w==x))) []:=ZdH (Zbd rfl) (Zbd rfl) (eq_str w x)
 have e2:ev call gv (.cmp .Eq (.var 3) (.con (.int 0))) [none,some (.t (.str x)),none,some (.t (.int d)),some (.t (.str w))] []=.ok (.t (.bl (decide (d=0)))) []:=ZdH (Zbd rfl) ZdF (Znd d)
 unfold cpE
 rw[ev,e1]
 cases w==x with
 |true=>exact e2
 |false=>rfl
theorem ev_dp{w:List Nat}{d:Int}{o1:Option W}:ev call gv dpE [none,o1,none,some (.t (.int d)),some (.t (.str w))] []=.ok (.t (.int (X6 d w))) []:=by
 unfold dpE
 exact Zi3 (Zi3 (Zbd rfl) (Zi1 (ZdH (Zbd rfl) ZdF (eq_str w _))) rfl) (Zi1 (ZdH (Zbd rfl) ZdF (eq_str w _))) rfl
theorem ev_m1{env:Env}:ev call gv m1E env []=.ok (.t (.int (-1))) []:=by
 unfold m1E
 rw[ev,ZdF]
 rfl
noncomputable def tPt(K:Frag)(call:Nat->List W->Mem->Res W)(gv:List T)(xr:XR):TS:=
 tSeq (tAsg (tLst (ZhG (tLst tNil) tNil)) (ZbG 2)) (tSeq (tAsg (tC (.int 0)) (ZbG 3)) (tSeq (tFor (Zm0 K (tVar 0)) (ZbG 4)
  (tSeq (tAsg (tE K call gv xr dpE) (ZbG 3)) (tSeq (tIfS (tT K call gv xr cpE)
   (tSeq (Zbz (tBM K "list" Zfl (tVar 2) (ZhG (tLst tNil) tNil))) ZgE)
   (tSeq (Zbz (tBM K "list" Zfl (tOp (rIxL K) (tVar 2) (tE K call gv xr m1E)) (ZhG (tVar 4) tNil))) ZgE)) ZgE)))
  (tSeq (tRet (tVar 2)) ZgE)))
theorem Zl2{D:Ends}{a:Addr}{x:List Nat}{ws:List (List Nat)}(hl:σ.length=5)(h0:σ[0]?=some (some (.ref a)))(h1:σ[1]?=some (some (sv x)))(hH:H a=some (.lst (ws.map sv)))(hz:ws.length+2<sizeLine)(q:∀p H',Nst H H' p (parted x ws)->D.rt (.ref p) H'):tPt K call gv xr D σ H:=by
 match σ,hl,h0,h1 with
 |[s0,s1,s2,s3,s4],_,h0,h1 =>
 simp at h0 h1
 subst h0;subst h1
 -- [[]]
 show 0<=sizeLine/\∀p1,H p1=none->[V.ref p1].length<=sizeLine/\∀p,upd H p1 (.lst []) p=none->_
 refine⟨Nat.zero_le _,λp1 hp1=>⟨by show 1<=sizeLine;omega,λp hp=>?_⟩⟩
 have hpp:p≠p1:=λe=>by rw[e,Zk]at hp;cases hp
 have hpH:H p=none:=by rw[Zi hpp]at hp;exact hp
 have N0:Nst H (upd (upd H p1 (.lst [])) p (.lst [.ref p1])) p [[]]:=by
  refine⟨λb o e=>?_,hpH,[p1],Zk,rfl,by simpa using hpp,by simp,λk b c e1 e2=>?_⟩
  ·have n1:b≠p:=λz=>by rw[z,hpH]at e;cases e
   have n2:b≠p1:=λz=>by rw[z,hp1]at e;cases e
   rw[Zi n1,Zi n2];exact e
  ·have hk:k=0:=by have:=(List.getElem?_eq_some_iff.mp e1).1;simp at this;omega
   subst hk
   simp at e1 e2
   subst e1;subst e2
   rw[Zi (Ne.symm hpp),Zk]
   exact⟨rfl,hp1⟩
 generalize upd (upd H p1 (.lst [])) p (.lst [.ref p1])=H1 at N0
 show tFor (Zm0 K (tVar 0)) (ZbG 4) _ _ [some (.ref a),some (sv x),some (.ref p),some (.int 0),s4] H1
 refine⟨.ref a,rfl,a,rfl,⟨_,.of (N0.1 _ _ hH)⟩,?_⟩
 refine Zky (xs:=ws.map sv) (λi σ H'=>∃d cur acc s4,σ=[some (.ref a),some (sv x),some (.ref p),some (.int d),s4]/\Nst H H' p (acc++[cur])/\cur.length<=i/\acc.length<=i/\pgo x (ws.drop i) d cur acc=parted x ws) ⟨0,[],[],s4,rfl,N0,Nat.le_refl _,Nat.le_refl _,rfl⟩ ?_ ?_ ?_
 ·rintro i σ H' _ ⟨d,cur,acc,s4,_,N,_⟩
  exact .of (N.1 _ _ hH)
 ·rintro i y σ H' hy ⟨d,cur,acc,s4,rfl,N,hc,ha,e⟩
  rw[List.getElem?_map]at hy
  cases hw:ws[i]? with
  |none=>rw[hw]at hy;cases hy
  |some w =>
   rw[hw]at hy
   have hy:sv w=y:=Option.some.inj hy
   subst hy
   have hi:=(List.getElem?_eq_some_iff.mp hw).1
   have ed:ws.drop i=w::ws.drop (i+1):=by
    rw[List.drop_eq_getElem_cons hi]
    have:=(List.getElem?_eq_some_iff.mp hw).2
    rw[this]
   rw[ed,pgo]at e
   show tE K call gv xr dpE [some (.ref a),some (sv x),some (.ref p),some (.int d),some (sv w)] H' _
   have hE:∀{H'':Hp}{d:Int},EnvR K [] [] H'' [none,some (.t (.str x)),none,some (.t (.int d)),some (.t (.str w))] [some (.ref a),some (sv x),some (.ref p),some (.int d),some (sv w)]:=by
    intro H'' d j u hj
    match j,hj with
    |0,hj=>cases hj
    |1,hj=>cases hj;exact⟨_,rfl,.str _⟩
    |2,hj=>cases hj
    |3,hj=>cases hj;exact⟨_,rfl,.int _⟩
    |4,hj=>cases hj;exact⟨_,rfl,.str _⟩
    |j+5,hj=>cases hj
   refine ZhF ev_dp hE λH2 g2 v r=>?_
   cases r
   have N2:=N.grow g2
   show tT K call gv xr cpE [some (.ref a),some (sv x),some (.ref p),some (.int (X6 d w)),some (sv w)] H2 _
   refine ZlQ ev_cp hE λH3 g3=>?_
   have N3:=N2.grow g3
   cases c:(w==x&&decide (X6 d w=0))with
   |true =>
    rw[if_pos rfl]
    rw[c,if_pos rfl]at e
    obtain⟨_,_,bs0,b3,b4,_⟩:=N3
    show ∃v,some (some (V.ref p))=some (some v)/\_
    refine⟨_,rfl,.inl ⟨rfl,_,.of b3⟩,?_⟩
    show 0<=sizeLine/\∀p2,H3 p2=none->_
    refine⟨Nat.zero_le _,λp2 hp2=>?_⟩
    obtain⟨bs,c1,c2,c3⟩:=(N2.grow g3).new hp2
    refine⟨p,bs.map V.ref,.ref p2,rfl,rfl,c1,?_,?_⟩
    ·rw[List.length_map,c2];simp;omega
    ·exact⟨_,[],acc++[cur],_,rfl,c3,by simp,by simp;omega,e⟩
   |false =>
    rw[if_neg Bool.false_ne_true]
    rw[c,if_neg Bool.false_ne_true]at e
    obtain⟨bs,b,c1,c2,c3,c4⟩:=N3.last
    show ∃v,some (some (V.ref p))=some (some v)/\_
    refine⟨_,rfl,?_⟩
    refine ZhF (env:=[]) ev_m1 (λj u hj=>by simp at hj) λH4 g4 v r=>?_
    cases r
    refine⟨p,_,-1,.ref b,rfl,rfl,.of (g4 _ _ c1),c2,.inl ⟨rfl,_,.of (g4 _ _ c3)⟩,?_⟩
    show ∃v,some (some (sv w))=some (some v)/\_
    refine⟨_,rfl,b,cur.map sv,sv w,rfl,rfl,g4 _ _ c3,by rw[List.length_map];omega,?_⟩
    obtain⟨bs',b',d1,d2,d3,d4⟩:=(N3.grow g4).last
    have eb:b'=b:=by
     have z:=g4 _ _ c1
     rw[d1]at z
     have z:bs'.map V.ref=bs.map V.ref:=by injection z with z;injection z
     rw[z,c2]at d2
     cases d2;rfl
    subst eb
    exact⟨_,cur++[w],acc,_,rfl,d4 w,by simp;omega,by omega,e⟩
 ·rintro σ H' ⟨d,cur,acc,s4,rfl,N,_,_,e⟩
  rw[List.length_map,List.drop_eq_nil_of_le (Nat.le_refl _),pgo]at e
  rw[e]at N
  exact⟨_,rfl,q p H' N⟩
theorem RT.grow{cm:List Addr}{m:Mem}{H':Hp}(g:Grow H H'){t:T}{v:V}(h:RT K cm m H t v):RT K cm m H' t v:=by
 have rd:∀{a u},Rd H a u->Rd H' a u:=λr=>by
  rcases r with r|⟨o,r⟩
  ·exact .inl (g _ _ r)
  ·exact .inr ⟨o,g _ _ r⟩
 induction h with
 |non=>exact .non
 |bl b=>exact .bl b
 |int i=>exact .int i
 |str cs=>exact .str cs
 |tup h1 h2 _ ih=>exact .tup (h1.imp rd id) h2 ih
 |lst h1 h2 h3 _ ih=>exact .lst (g _ _ h1) h2 h3 ih
 |scr ns h=>exact .scr ns (h.imp (λ⟨o,z⟩=>⟨o,g _ _ z⟩) id)
 |dct h1 h2 h3 h4 _ ih=>exact .dct (g _ _ h1) h2 h3 h4 ih
theorem MemR.grow{cm:List Addr}{m:Mem}{H':Hp}(g:Grow H H')(M:MemR K cm m H):MemR K cm m H':=⟨M.len,M.inj,λi p e=>by
 obtain⟨a,vs,h1,h2,h3,h4⟩:=M.at' i p e
 exact⟨a,vs,h1,g _ _ h2,h3,Zh (λ_ _ z=>z.grow g) h4⟩⟩
theorem Ext.grow{cm:List Addr}{m:Mem}{H':Hp}(g:Grow H H'):Ext cm m H cm m H':=⟨λ_ _ e=>e,Nat.le_refl _,λ_ _ e=>e,λa o e n=>⟨g a o e,n⟩⟩
theorem Zbr{cm:List Addr}{m:Mem}(M:MemR K cm m H){b:Addr}(h:H b=none):Zq cm m b:=λi p e z=>by
 obtain⟨a,vs,h1,h2,_⟩:=M.at' i p e
 rw[h1]at z;cases z
 rw[h]at h2;cases h2
theorem Zf0{cm:List Addr}{m:Mem}:∀(q:List (List Nat)),RTs K cm m H (q.map .str) (q.map sv)
 |[]=>.nil
 |c::r=>.cons (.str c) (Zf0 r)
theorem Nst.rt{cm:List Addr}{m:Mem}{H':Hp}{p:Addr}{ps:List (List (List Nat))}(M:MemR K cm m H)(N:Nst H H' p ps):RT K cm m H' (.lst (ps.map λq=>.lst (q.map .str))) (.ref p):=by
 obtain⟨_,n1,bs,n2,n3,_,_,n4⟩:=N
 refine .lst n2 (Zbr M n1) (by simp[n3]) λk t v e1 e2=>?_
 rw[List.getElem?_map]at e1 e2
 cases f1:ps[k]? with
 |none=>rw[f1]at e1;cases e1
 |some q =>
  cases f2:bs[k]? with
  |none=>rw[f2]at e2;cases e2
  |some b =>
   rw[f1]at e1;rw[f2]at e2
   cases e1;cases e2
   obtain⟨z1,z2⟩:=n4 k b q f2 f1
   exact RT.mlst z1 (Zbr M z2) (Zf0 q)
theorem pt_ent{D:Ends}(h:tS K call gv xr 5 (.ret (.ptd (.var 0) (.var 1)) .done) D σ H):tPt K call gv xr D σ H:=by
 obtain⟨hl,env,cm,m,hE,M,ho⟩:=h
 have va:∀i,ev call gv (.var i) env m=match env[i]? with
   |some (some w)=>.ok w m
   |_=>.stuck:=λi=>by rw[ev]<;>rfl
 rw[ex,ev,va]at ho
 cases q0:env[0]? with
 |none=>rw[q0]at ho;exact ho.elim
 |some o0=>cases o0 with
  |none=>rw[q0]at ho;exact ho.elim
  |some w0 =>
   rw[q0]at ho
   have ho:OkR K (((ev call gv (.var 1) env m).bind λy m=>pur ((view w0 m).bind λx=>(view y m).bind λy=>ptT x y) m).bind λw m=>.ok (Flow.ret w) m) xr cm m H (λfl cm' m' H'=>JV K 5 D fl cm' m' H'):=ho
   rw[va]at ho
   cases q1:env[1]? with
   |none=>rw[q1]at ho;exact ho.elim
   |some o1=>cases o1 with
    |none=>rw[q1]at ho;exact ho.elim
    |some w1 =>
     rw[q1]at ho
     have ho:OkR K ((pur ((view w0 m).bind λx=>(view w1 m).bind λy=>ptT x y) m).bind λw m=>.ok (Flow.ret w) m) xr cm m H (λfl cm' m' H'=>JV K 5 D fl cm' m' H'):=ho
     cases e0:view w0 m with
     |none=>rw[e0]at ho;exact ho.elim
     |some t0=>cases e1:view w1 m with
      |none=>rw[e0,e1]at ho;exact ho.elim
      |some t1 =>
       rw[e0,e1]at ho
       have ho:OkR K ((pur (ptT t0 t1) m).bind λw m=>.ok (Flow.ret w) m) xr cm m H (λfl cm' m' H'=>JV K 5 D fl cm' m' H'):=ho
       obtain⟨v0,s0,r0⟩:=hE 0 w0 q0
       obtain⟨v1,s1,r1⟩:=hE 1 w1 q1
       cases t0 with
       |lst ts=>cases t1 with
        |str c =>
         cases es:strs? ts with
         |none =>
          have ho:OkR K ((pur ((strs? ts).bind λws=>if ws.length<1000 then some (T.lst ((parted c ws).map λp=>.lst (p.map .str)))else none) m).bind λw m=>.ok (Flow.ret w) m) xr cm m H (λfl cm' m' H'=>JV K 5 D fl cm' m' H'):=ho
          rw[es]at ho;exact ho.elim
         |some ws =>
          have ho:OkR K ((pur ((strs? ts).bind λws=>if ws.length<1000 then some (T.lst ((parted c ws).map λp=>.lst (p.map .str)))else none) m).bind λw m=>.ok (Flow.ret w) m) xr cm m H (λfl cm' m' H'=>JV K 5 D fl cm' m' H'):=ho
          rw[es]at ho
          have ho:OkR K ((pur (if ws.length<1000 then some (T.lst ((parted c ws).map λp=>.lst (p.map .str)))else none) m).bind λw m=>.ok (Flow.ret w) m) xr cm m H (λfl cm' m' H'=>JV K 5 D fl cm' m' H'):=ho
          by_cases hz:ws.length<1000
          ·rw[if_pos hz]at ho
           obtain⟨a,vs,rfl,h1,h2⟩:=ZK M r0 e0
           cases RTs.strs h2 es
           have ec:=(Zd r1 e1 (λ_ z=>by cases z)).vstr
           subst ec
           refine Zl2 hl s0 s1 h1 (by rw[sizeLine_eq];omega) λp H' N=>?_
           have g:Grow H H':=N.1
           exact ho cm H' (.grow g) (M.grow g) _ (N.rt M)
          ·rw[if_neg hz]at ho;exact ho.elim
        |_=>exact ho.elim
       |_=>exact ho.elim
end
section
variable{K:Frag}{xr:XR}{call:Nat->List W->Mem->Res W}{gv:List T}{σ:L2.St}{H:Hp}{cm:List Addr}{m:Mem}
noncomputable abbrev keyS(k:List Nat):Key:=.inr ⟨k.toArray⟩
end
section
variable{X:Cx}{pos:Pos}
noncomputable abbrev dPhi(P:Program)(w:World)(a:Addr)(vs:List (Key×Value)):Heap->Prop:=λh=>(a==sysModules)=false/\h.DictOf (Zx P w) a vs
theorem Zlp{P:Program}{w:World}{H:Hp}{h:Heap}{a:Addr}{vs:List (Key×Value)}(hd:(a==sysModules)=false)(dd:h.DictOf (Zx P w) a vs):Qc P w H h a (.ext (dPhi P w a vs)):=
 ⟨⟨hd,dd⟩,(let⟨q,_,_,hq,_⟩:=dd;⟨q,hq⟩),λh1 h2 ⟨hd,o,es,ep,g1,g2⟩ k=>⟨hd,o,es,ep,k o g1,g2⟩⟩
noncomputable def ZcP(P:Program)(w:World)(trs:List (TE×TE)):TE:=λσ H Q=>∀p φ,H p=none->ZcO trs σ (upd H p (.ext φ)) λps H2=>H2 p=some (.ext φ)/\∃kvs:List (Key×V),ps=kvs.map (λkv=>(kV kv.1,kv.2))/\kvs.length<=15/\∀vs,KV (Ji [] kvs) vs->Q (.ref p) (upd H2 p (.ext (dPhi P w p vs)))
theorem Zke{keys:List (Option Expr)}{values:List Expr}{trs:List (TE×TE)}(h:PPs X pos keys values trs)(hall:keys.all (·.isSome)=true)(hl:keys.length=values.length)(h0:keys≠[])(h15:keys.length<=15):PE X (.Dict keys values pos) (ZcP X.prog X.w trs):=by
 intro pins s σ H Q I q
 have hn:=I.hok.fresh (Nat.le_refl s.heap.objs.size)
 have hok0:Qc X.prog X.w (upd H s.heap.objs.size (.dK [])) (s.heap.push { cls:=.type "dict",data:=.dict #[] }) s.heap.objs.size (.dK []):=Zgw s.heap I.big
 obtain⟨_,hd0,vs0,r0,dd0⟩:=hok0
 cases r0
 have I1:=I.laid (a:=s.heap.objs.size) (o:=.ext λh=>h.DictOf (Zx X.prog X.w) s.heap.objs.size ([]:List (Key×Value))) (h':=s.heap.push { cls:=.type "dict",data:=.dict #[] }) (t':=s.toks) (λ_ _ q=>Heap.get?_push_of_some _ q) (Nat.le_refl _)
  ⟨dd0,⟨_,Heap.get?_push_size _ rfl⟩,λh1 h2 ⟨o,es,ep,g1,g2⟩ k=>⟨o,es,ep,k o g1,g2⟩⟩
 refine wpAny_Dict_walk (knd:=Zx X.prog X.w) hall hl h0 h15 (thn (h pins _ σ _ _ I1 (q _ _ hn)) λws s2 ⟨ps,H2,I2,rel,e,kvs,ep,lk,q2⟩=>?_)
 subst ep
 obtain⟨rs,c,rk⟩:=Zbh (P:=X.prog) (w:=X.w) rel
 obtain⟨dd,_,_⟩:=(show Qc X.prog X.w H2 s2.heap s.heap.objs.size (.ext λh=>h.DictOf (Zx X.prog X.w) s.heap.objs.size ([]:List (Key×Value)))from I2.hok _ _ e)
 refine⟨rs,c,dd,λh' dd' hs=>⟨.ref s.heap.objs.size,_,?_,rfl,q2 _ (rk.merge .nil)⟩⟩
 have he:∃q,h'.get? s.heap.objs.size=some q:=let⟨q,_,_,hq,_⟩:=dd';⟨q,hq⟩
 exact ZdI I2 (by rw[e];exact True.intro) hs he (Zlp hd0 dd')
noncomputable def ZaW(P:Program)(w:World)(to te:TE):TE:=λσ H Q=>to σ H λx H1=>∃a ks,x=.ref a/\H1 a=some (.ext (dPhi P w a ks))/\te σ H1 λy H2=>∃b more,y=.ref b/\a≠b/\H2 a=some (.ext (dPhi P w a ks))/\H2 b=some (.dK more)/\ks.length+more.length<=sizeLine/\∀rs,KV more rs->Q .non (upd H2 a (.ext (dPhi P w a (merged ks rs))))
theorem Zif{o e:Expr}{to te:TE}{apos cpos:Pos}(ho:PE X o to)(he:PE X e te)(hbase:attributeBase o "update" X.env (eval o X.env)=eval o X.env:=by rfl)(hline:(apos.endLine==cpos.line)=true:=by rfl)(hs:notStar e=true:=by rfl):
  PE X (.Call (.Attribute o "update" apos) [e] [] cpos) (ZaW X.prog X.w to te):=by
 have ha:PA X [e] (ZhG te tNil):=QX he Xb (Qd hs)
 intro pins s σ H Q I h
 refine wpAny_Call_method_late hbase (few1 hs) hline rfl (thn (ho pins s σ H _ I h) λv s1 ⟨x,H1,I1,r1,a,ks,e1,e2,q1⟩=>?_)
 subst e1
 cases r1
 obtain⟨⟨hd,dd⟩,_,_⟩:=(show Qc X.prog X.w H1 s1.heap a (.ext (dPhi X.prog X.w a ks))from I1.hok _ _ e2)
 refine⟨"dict","dict.update",PySem.F.plainAttrs_dict,PySem.F.slot_dict_update,PySem.F.type_dict_update,dd.typeIs,λb z=>?_,?_⟩
 ·cases z
  obtain⟨ob,_,_,g1,g2,_⟩:=dd
  exact⟨ob,g1,g2.2.1⟩
 have hA:=ha cpos pins s1 σ H1 (λvs H2=>match vs with
  |[y]=>∃b more,y=.ref b/\a≠b/\H2 a=some (.ext (dPhi X.prog X.w a ks))/\H2 b=some (.dK more)/\ks.length+more.length<=sizeLine/\∀rs,KV more rs->Q .non (upd H2 a (.ext (dPhi X.prog X.w a (merged ks rs))))
  |_=>False) I1 q1
 rw[Qd hs]at hA ⊢
 refine Calls.callWith_builtin (by show(false || (backTo cpos (starEach [] X.env)).any (·.1))=false;rfl) (Calls.evalArgs_plain ?_)
 refine thn hA λus s2 ⟨vs,H2,I2,r2,q1⟩=>?_
 match vs,r2,q1 with
 |[],_,q1=>exact q1.elim
 |_::_::_,_,q1=>exact q1.elim
 |[y],r2,q1 =>
 obtain⟨b,more,e3,hab,f1,f2,hz,q2⟩:=q1
 subst e3
 obtain⟨u,rfl,ru⟩:=vals1 r2
 cases ru
 obtain⟨⟨hd,dd⟩,_,_⟩:=(show Qc X.prog X.w H2 s2.heap a (.ext (dPhi X.prog X.w a ks))from I2.hok _ _ f1)
 obtain⟨z2,hd2,ms,rel2,dd2⟩:=dk_of I2.hok f2
 refine call_meetsIn PySem.F.slot_dict_update dd.typeIs PySem.F.entry_dict_update (PySem.F.args_dict_update_2 _ _) (meets_dict_update (Zx X.prog X.w) a b hab hd2) ⟨ks,ms,dd,dd2,by rw[<-rel2.length];exact hz,λh' dd' _ hs=>⟨.non,_,?_,rfl,q2 ms rel2⟩⟩
 have he:∃q,h'.get? a=some q:=let⟨q,_,_,hq,_⟩:=dd';⟨q,hq⟩
 exact ZdI (t':=s2.toks) I2 (by rw[f1];exact True.intro) hs he (Zlp hd dd')
noncomputable def Zb5(P:Program)(w:World)(t:TS):TS:=λD σ H=>∃p vs kvs,H p=some (.ext (dPhi P w p vs))/\KV kvs vs/\kvs.length<=sizeLine/\t D σ (upd H p (.dK kvs))
theorem Zh3{rest:List Stmt}{t:TS}(h:PSs X rest t):PSs X rest (Zb5 X.prog X.w t):=by
 rintro pins s σ H D I ⟨p,vs,kvs,e,rel,hz,q⟩
 obtain⟨⟨hd,dd⟩,_,_⟩:=(show Qc X.prog X.w H s.heap p (.ext (dPhi X.prog X.w p vs))from I.hok _ _ e)
 have he:∃q,s.heap.get? p=some q:=let⟨q,_,_,hq,_⟩:=dd;⟨q,hq⟩
 have I2:=ZdI (t':=s.toks) (h':=s.heap) (ob:=.dK kvs) I (by rw[e];exact True.intro) (Heap.SameBut.refl _ _) he (Zlx hz hd rel dd)
 exact h pins s σ _ D I2 q
end
section
variable{K:Frag}{xr:XR}{call:Nat->List W->Mem->Res W}{gv:List T}{σ:L2.St}{H:Hp}{cm:List Addr}{m:Mem}
theorem Znl{cm':List Addr}{H':Hp}(x:Ext cm m H cm' m H')(M:MemR K cm m H)(M':MemR K cm' m H'):cm'=cm:=by
 refine List.ext_getElem? λi=>?_
 rcases Nat.lt_or_ge i cm.length with h|h
 ·rw[x.pre i _ (List.getElem?_eq_getElem h),List.getElem?_eq_getElem h]
 ·rw[List.getElem?_eq_none h,List.getElem?_eq_none (by rw[M'.len,<-M.len];exact h)]
theorem Zlw{ks:List (List Nat)}{vs:Es}{ts:List T}(h15:ks.length<=15)(hlen:ZaN vs=ks.length)(M:MemR K cm m H)(hv:ev call gv (.dsn ks vs) [] m=.ok (.t (.dct (ks.map keyS) ts)) m){p:Addr}{φ:Heap->Prop}(hp:H p=none){R:List (Key×V)->Hp->Prop}(q:∀us H2,H2 p=some (.ext φ)->Ext cm m H cm m H2->MemR K cm m H2->ks.length=us.length->RTs K cm m H2 ts us->R ((ks.map keyS).zip us) H2):
  ZcO (Jq K call gv xr ks vs) σ (upd H p (.ext φ)) λps H2=>H2 p=some (.ext φ)/\∃kvs:List (Key×V),ps=kvs.map (λkv=>(kV kv.1,kv.2))/\kvs.length<=15/\R kvs H2:=by
 have ho:OkR K (ev call gv (.dsn ks vs) [] m) xr cm m H (λw cm' m' H'=>w=.t (.dct (ks.map keyS) ts)/\m'=m):=by rw[hv];exact λ_ _ _ _=>⟨rfl,rfl⟩
 rw[ev]at ho
 have M1:=M.new (o:=.ext φ) hp
 have X1:Ext cm m H cm m (upd H p (.ext φ)):=.new hp
 have hE:EnvR K cm m H [] σ:=λi w e=>by simp at e
 refine Zce (hE.ext X1 M M1) M1 (OkR.shift ho.bind0 X1) (λws cm2 m2 H2 x2 M2 o2 ys ry=>?_) hlen
 obtain⟨ts',m3,e3,o3⟩:=ZeN o2
 obtain⟨hc,o3⟩:=ZaG o3
 obtain⟨x3,M3,r3⟩:=Xj M2 ry e3
 have hp2:=x2.keep p _ Zk (Zan M hp)
 have hly:ks.length=ys.length:=by rw[hc.1];exact r3.length
 have x13:=X1.trans (x2.trans x3)
 obtain⟨k1,k2⟩:=OkR.to (cm':=cm2) o3 x13 M3
 subst k2
 have e2:=Znl x13 M M3
 subst e2
 have k1:ts'=ts:=by injection k1 with k1;injection k1
 subst k1
 refine⟨hp2.1,(ks.map λk=>(Sum.inr ⟨k.toArray⟩:Key)).zip ys,Zhu ks ys,by rw[List.length_zip,List.length_map];omega,?_⟩
 exact q ys H2 hp2.1 x13 M3 hly r3
theorem MemR.offP{p:Addr}{φ:Heap->Prop}{o:HO}(hp:H p=some (.ext φ))(M:MemR K cm m H):MemR K cm m (upd H p o):=by
 refine⟨M.len,M.inj,λi c e=>?_⟩
 obtain⟨a,us,q1,q2,q3,q4⟩:=M.at' i c e
 have hne:a≠p:=λz=>by subst z;rw[hp]at q2;cases q2
 exact⟨a,us,q1,by rw[Zi hne];exact q2,q3,Zh (λ_ _ z=>RT.offP hp z) q4⟩
theorem Ext.offP{H':Hp}{p:Addr}{o:HO}(h0:H p=none)(x:Ext cm m H cm m H'):Ext cm m H cm m (upd H' p o):=
 ⟨x.pre,x.len,x.lent,λa u e n=>⟨by rw[Zi (ZW e h0)];exact(x.keep a u e n).1,(x.keep a u e n).2⟩⟩
theorem Zck{p:Addr}{φ:Heap->Prop}(M:MemR K cm m H)(hp:H p=some (.ext φ)):Zq cm m p:=QJ M hp (λ_ z=>by cases z)
structure Half (K:Frag) (P:Program) (w:World) (cm:List Addr) (m:Mem) (H0:Hp) (p:Addr) (ks:List (List Nat)) (ts:List T) (H:Hp):Prop where
 new:H0 p=none
 ext:Ext cm m H0 cm m H
 mem:MemR K cm m H
 got:∃us vs,H p=some (.ext (dPhi P w p vs))/\KV ((ks.map keyS).zip us) vs/\ks.length=us.length/\RTs K cm m H ts us
theorem Za6{ks:List (List Nat)}(h:ks.Nodup):(ks.map keyS).Nodup:=Za7 h
theorem Zhb{P:Program}{w:World}{ks:List (List Nat)}{vs:Es}{ts:List T}(h15:ks.length<=15)(hlen:ZaN vs=ks.length)(nd:ks.Nodup)(M:MemR K cm m H)(hv:ev call gv (.dsn ks vs) [] m=.ok (.t (.dct (ks.map keyS) ts)) m){Q:VK}(q:∀p H1,Half K P w cm m H p ks ts H1->Q (.ref p) H1):ZcP P w (Jq K call gv xr ks vs) σ H Q:=by
 intro p φ hp
 refine Zlw (R:=λkvs H2=>∀vs,KV (Ji [] kvs) vs->Q (.ref p) (upd H2 p (.ext (dPhi P w p vs)))) h15 hlen M hv hp λus H2 e2 x2 M2 hl r2 vs rel=>?_
 have ek:(((ks.map keyS).zip us).map (·.1)).Nodup:=by
  rw[ZaU (by rw[List.length_map];exact hl)];exact Za6 nd
 rw[Xd (by simpa using ek),List.nil_append]at rel
 exact q p _ ⟨hp,x2.offP hp,M2.offP e2,us,vs,Zk,rel,hl,Zh (λ_ _ z=>RT.offP e2 z) r2⟩
theorem ZeL{P:Program}{w:World}{H0:Hp}{p:Addr}{ks0 ks:List (List Nat)}{vs:Es}{ts0 ts:List T}(h15:ks.length<=15)(h100:ks0.length<=100)(hlen:ZaN vs=ks.length)(nd:(ks0++ks).Nodup)(hh:Half K P w cm m H0 p ks0 ts0 H)(hv:ev call gv (.dsn ks vs) [] m=.ok (.t (.dct (ks.map keyS) ts)) m){to:TE}{Q:VK}(ht:∀Q:VK,Q (.ref p) H->to σ H Q)(q:∀H1,Half K P w cm m H0 p (ks0++ks) (ts0++ts) H1->Q .non H1):ZaW P w to (Ju (Jq K call gv xr ks vs)) σ H Q:=by
 obtain⟨hp0,x0,M,us0,vs0,e0,rel0,hl0,r0⟩:=hh
 refine ht _ ⟨p,vs0,rfl,e0,?_⟩
 intro b φ hb
 have hbp:p≠b:=ZW e0 hb
 refine Zlw (R:=λkvs H2=>∃b' more,V.ref b=.ref b'/\p≠b'/\upd H2 b (.dK (Ji [] kvs)) p=some (.ext (dPhi P w p vs0))/\upd H2 b (.dK (Ji [] kvs)) b'=some (.dK more)/\vs0.length+more.length<=sizeLine/\∀rs,KV more rs->Q .non (upd (upd H2 b (.dK (Ji [] kvs))) p (.ext (dPhi P w p (merged vs0 rs))))) h15 hlen M hv hb λus H2 e2 x2 M2 hl r2=>?_
 have ndk:ks.Nodup:=(List.nodup_append.1 nd).2.1
 have ek:(((ks.map keyS).zip us).map (·.1)).Nodup:=by
  rw[ZaU (by rw[List.length_map];exact hl)];exact Za6 ndk
 rw[Xd (by simpa using ek),List.nil_append]
 have ep2:H2 p=some (.ext (dPhi P w p vs0)):=(x2.keep p _ e0 (Zck M e0)).1
 have ep3:upd H2 b (.dK ((ks.map keyS).zip us)) p=some (.ext (dPhi P w p vs0)):=by rw[Zi hbp];exact ep2
 have lv:vs0.length=ks0.length:=by rw[<-rel0.length,List.length_zip,List.length_map];omega
 refine⟨b,_,rfl,hbp,ep3,Zk,?_,λrs rel=>?_⟩
 ·rw[List.length_zip,List.length_map,sizeLine_eq];omega
 ·have M3:=M2.offP (o:=.dK ((ks.map keyS).zip us)) e2
  have hb0:H0 b=none∨∃o,H0 b=some o:=by cases H0 b with
   |none=>exact .inl rfl
   |some o=>exact .inr ⟨o,rfl⟩
  have x3:Ext cm m H0 cm m (upd H2 b (.dK ((ks.map keyS).zip us))):=x0.trans (x2.offP hb)
  have r0':RTs K cm m (upd (upd H2 b (.dK ((ks.map keyS).zip us))) p (.ext (dPhi P w p (merged vs0 rs)))) ts0 us0:=Zh (λ_ _ z=>RT.offP ep3 (RT.offP e2 z)) (r0.ext x2 M M2)
  have r1':RTs K cm m (upd (upd H2 b (.dK ((ks.map keyS).zip us))) p (.ext (dPhi P w p (merged vs0 rs)))) ts us:=Zh (λ_ _ z=>RT.offP ep3 (RT.offP e2 z)) r2
  refine q _ ⟨hp0,x3.offP hp0,M3.offP ep3,us0++us,merged vs0 rs,Zk,?_,by simp[hl0,hl],Z0 r0' r1'⟩
  have ez:((ks0++ks).map keyS).zip (us0++us)=(ks0.map keyS).zip us0++(ks.map keyS).zip us:=by
   rw[List.map_append,List.zip_append (by rw[List.length_map];exact hl0)]
  rw[ez]
  have em:Ji ((ks0.map keyS).zip us0) ((ks.map keyS).zip us)=(ks0.map keyS).zip us0++(ks.map keyS).zip us:=Xd (by
   rw[<-ez,ZaU (by rw[List.length_map];simp[hl0,hl])];exact Za6 nd)
  rw[<-em]
  exact rel.merge rel0
theorem up_ent{P:Program}{w:World}{i n:Nat}{ks0 ks1 ks2:List (List Nat)}{vs0 vs1 vs2:Es}{ts0 ts1 ts2:List T}{k:S}{D:Ends}(hi:i<n)(nd:(ks0++ks1++ks2).Nodup)(h0:ks0.length<=15)(h1:ks1.length<=15)(h2:ks2.length<=15)(l0:ZaN vs0=ks0.length)(l1:ZaN vs1=ks1.length)(l2:ZaN vs2=ks2.length)(v0:∀m,ev call gv (.dsn ks0 vs0) [] m=.ok (.t (.dct (ks0.map keyS) ts0)) m)(v1:∀m,ev call gv (.dsn ks1 vs1) [] m=.ok (.t (.dct (ks1.map keyS) ts1)) m)(v2:∀m,ev call gv (.dsn ks2 vs2) [] m=.ok (.t (.dct (ks2.map keyS) ts2)) m)(h:tS K call gv xr n (.asg i (.con (.dct ((ks0++ks1++ks2).map keyS) (ts0++ts1++ts2))) k) D σ H):
  tSeq (tAsg (ZcP P w (Jq K call gv xr ks0 vs0)) (ZbG i)) (tSeq (Zbz (ZaW P w (tVar i) (Ju (Jq K call gv xr ks1 vs1)))) (tSeq (Zbz (ZaW P w (tVar i) (Ju (Jq K call gv xr ks2 vs2)))) (Zb5 P w (tS K call gv xr n k)))) D σ H:=by
 obtain⟨hl,env,cm,m,hE,M,ho⟩:=h
 rw[ex,ev]at ho
 have ho:OkR K (ex call gv k (env.set i (some (.t (.dct ((ks0++ks1++ks2).map keyS) (ts0++ts1++ts2))))) m) xr cm m H (λfl cm' m' H'=>JV K n D fl cm' m' H'):=ho
 have nd01:=(List.nodup_append.1 nd).1
 have nd0:=(List.nodup_append.1 nd01).1
 have hi':i<σ.length:=by rw[hl];exact hi
 show ZcP P w (Jq K call gv xr ks0 vs0) σ H (λx H1=>ZbG i x σ H1 (tSeq (Zbz (ZaW P w (tVar i) (Ju (Jq K call gv xr ks1 vs1)))) (tSeq (Zbz (ZaW P w (tVar i) (Ju (Jq K call gv xr ks2 vs2)))) (Zb5 P w (tS K call gv xr n k))) D))
 refine Zhb (P:=P) (w:=w) h0 l0 nd0 M (v0 m) λp H1 hh1=>?_
 have tv:∀(H':Hp) (Q:VK),Q (.ref p) H'->tVar i (σ.set i (some (.ref p))) H' Q:=λH' Q z=>⟨.ref p,by simp[hi'],z⟩
 show ZaW P w (tVar i) (Ju (Jq K call gv xr ks1 vs1)) (σ.set i (some (.ref p))) H1 (λ_ H2=>tSeq (Zbz (ZaW P w (tVar i) (Ju (Jq K call gv xr ks2 vs2)))) (Zb5 P w (tS K call gv xr n k)) D (σ.set i (some (.ref p))) H2)
 refine ZeL (ts:=ts1) h1 (by omega) l1 nd01 hh1 (v1 m) (tv H1) λH2 hh2=>?_
 show ZaW P w (tVar i) (Ju (Jq K call gv xr ks2 vs2)) (σ.set i (some (.ref p))) H2 (λ_ H3=>Zb5 P w (tS K call gv xr n k) D (σ.set i (some (.ref p))) H3)
 refine ZeL (ts:=ts2) h2 (by simp;omega) l2 nd hh2 (v2 m) (tv H2) λH3 hh3=>?_
 obtain⟨hp,x,M3,us,vs,e,rel,hlen,r⟩:=hh3
 refine⟨p,vs,_,e,rel,?_,?_⟩
 ·rw[List.length_zip,List.length_map,sizeLine_eq];simp;omega
 ·have x4:Ext cm m H cm m (upd H3 p (.dK (((ks0++ks1++ks2).map keyS).zip us))):=x.offP hp
  have M4:=M3.offP (o:=.dK (((ks0++ks1++ks2).map keyS).zip us)) e
  have rt:RT K cm m (upd H3 p (.dK (((ks0++ks1++ks2).map keyS).zip us))) (.dct ((ks0++ks1++ks2).map keyS) (ts0++ts1++ts2)) (.ref p):=
   RT.dct Zk (Zck M3 e) (by rw[List.length_map];exact hlen) r.length λi t v a b=>RT.offP e (QS r i t v a b)
  exact⟨by rw[List.length_set];exact hl,env.set i _,cm,m,EnvR.set (w:=.t (.dct ((ks0++ks1++ks2).map keyS) (ts0++ts1++ts2))) (v:=.ref p) (hE.ext x4 M M4) rt i hi',M4,OkR.shift ho x4⟩
noncomputable def cE:List T->Es
 |[]=>.nil
 |t::r=>.cons (.con t) (cE r)
noncomputable def lsE:List (List T)->Es
 |[]=>.nil
 |ts::r=>.cons (.lst (cE ts)) (lsE r)
theorem Zlq{env:Env}:∀ts:List T,evs call gv (cE ts) env m=.ok (ts.map .t) m
 |[]=>by rw[cE,evs];rfl
 |t::r=>by
  rw[cE,evs,ev]
  show(evs call gv (cE r) env m).bind _=_
  rw[Zlq r];rfl
theorem ZiS:∀ts:List T,frzs (ts.map .t) m=.ok ts m
 |[]=>rfl
 |t::r=>by
  show(frz (.t t) m).bind (λx m=>(frzs (r.map .t) m).bind λxs m=>.ok (x::xs) m)=_
  show(frzs (r.map .t) m).bind (λxs m=>.ok (t::xs) m)=_
  rw[ZiS r];rfl
theorem ZiZ{env:Env}:∀tss:List (List T),(∀ts∈tss,ts.length<=lim)->evs call gv (lsE tss) env m=.ok ((tss.map T.lst).map .t) m
 |[],_=>by rw[lsE,evs];rfl
 |ts::r,h=>by
  rw[lsE,evs,ev,Zlq]
  show(((frzs (ts.map .t) m).bind λts m=>if ts.length<=lim then Res.ok (W.t (.lst ts)) m else .stuck).bind λw m=>(evs call gv (lsE r) env m).bind λws m=>.ok (w::ws) m)=_
  rw[ZiS]
  show((if ts.length<=lim then Res.ok (W.t (.lst ts)) m else .stuck).bind λw m=>(evs call gv (lsE r) env m).bind λws m=>.ok (w::ws) m)=_
  rw[if_pos (h ts (by simp))]
  show(evs call gv (lsE r) env m).bind _=_
  rw[ZiZ r λts hts=>h ts (List.mem_cons_of_mem _ hts)];rfl
theorem Zi7{env:Env}{ks:List (List Nat)}{tss:List (List T)}(hl:ks.length=tss.length)(h15:ks.length<=15)(nd:ks.Nodup)(hs:∀ts∈tss,ts.length<=1000):ev call gv (.dsn ks (lsE tss)) env m=.ok (.t (.dct (ks.map keyS) (tss.map T.lst))) m:=by
 rw[ev,ZiZ tss λts h=>Nat.le_trans (hs ts h) (by decide)]
 show(frzs ((tss.map T.lst).map .t) m).bind _=_
 rw[ZiS]
 show(if ks.length=(tss.map T.lst).length/\ks.length<=1000/\ks.Nodup then Res.ok (W.t (.dct (ks.map λk=>.inr ⟨k.toArray⟩) (tss.map T.lst))) m else .stuck)=_
 rw[if_pos ⟨by simp[hl],by omega,nd⟩]
theorem ZbX:∀tss:List (List T),ZaN (lsE tss)=tss.length
 |[]=>rfl
 |_::r=>by rw[lsE,ZaN,ZbX r];rfl
theorem up_ls{P:Program}{w:World}{i n:Nat}{ks0 ks1 ks2:List (List Nat)}{t0 t1 t2:List (List T)}{k:S}{D:Ends}(hi:i<n)(nd:(ks0++ks1++ks2).Nodup)(h0:ks0.length<=15)(h1:ks1.length<=15)(h2:ks2.length<=15)(l0:ks0.length=t0.length)(l1:ks1.length=t1.length)(l2:ks2.length=t2.length)(hs:((t0++t1++t2).all λts=>decide (ts.length<=1000))=true)(h:tS K call gv xr n (.asg i (.con (.dct ((ks0++ks1++ks2).map keyS) (t0.map T.lst++t1.map T.lst++t2.map T.lst))) k) D σ H):
  tSeq (tAsg (ZcP P w (Jq K call gv xr ks0 (lsE t0))) (ZbG i)) (tSeq (Zbz (ZaW P w (tVar i) (Ju (Jq K call gv xr ks1 (lsE t1))))) (tSeq (Zbz (ZaW P w (tVar i) (Ju (Jq K call gv xr ks2 (lsE t2))))) (Zb5 P w (tS K call gv xr n k)))) D σ H:=by
 have nd01:=(List.nodup_append.1 nd).1
 have hs:∀ts∈t0++t1++t2,ts.length<=1000:=λts h=>by simpa using List.all_eq_true.1 hs ts h
 exact up_ent hi nd h0 h1 h2 (by rw[ZbX,l0]) (by rw[ZbX,l1]) (by rw[ZbX,l2]) (λ_=>Zi7 l0 h0 (List.nodup_append.1 nd01).1 λts z=>hs ts (by simp[z])) (λ_=>Zi7 l1 h1 (List.nodup_append.1 nd01).2.1 λts z=>hs ts (by simp[z])) (λ_=>Zi7 l2 h2 (List.nodup_append.1 nd).2.1 λts z=>hs ts (by simp[z])) h
end
end Mi
namespace My
open Mi
noncomputable def QZ:E:=(.emit (.cmp .In (.var 0) (.gl 0)))
noncomputable def J6:E:=(.comp 1 [] (.var 0) (.nm 0) .nil QZ)
noncomputable def Qs:S:=(.ret (.and (.cmp .Gt (.blt .len (.cons (.var 0) .nil)) (.con (.int 0))) (.and (.cmp .NotIn (.var 0) (.gl 2)) (.blt .all (.cons J6 .nil)))) .done)
noncomputable def Jc:S:=(.ret (.and (.isi (.var 0) .str) (.and (.cmp .LtE (.blt .len (.cons (.var 0) .nil)) (.gl 1)) (.call 0 (.cons (.var 0) .nil)))) .done)
noncomputable def X4:S:=(.ret (.and (.isi (.var 0) .int) (.not (.isi (.var 0) .bool))) .done)
noncomputable def Jd:S:=(.ret (.and (.call 2 (.cons (.var 0) .nil)) (.chn .LtE .LtE (.con (.int 0)) (.var 0) (.gl 3))) .done)
noncomputable def JX:S:=(.ret (.and (.isi (.var 0) .str) (.cmp .In (.var 0) (.var 1))) .done)
noncomputable def Qf:S:=(.ife (.not (.isi (.var 0) .tuple)) (.ret (.con (.bl false)) .done) .done (.ife (.cmp .Eq (.blt .len (.cons (.var 0) .nil)) (.con (.int 1))) (.ret (.call 4 (.cons (.ix (.var 0) (.con (.int 0))) (.cons (.tup (.cons (.con (.str [97,110,121])) .nil)) .nil))) .done) .done (.ife (.cmp .Eq (.blt .len (.cons (.var 0) .nil)) (.con (.int 2))) (.ret (.and (.call 4 (.cons (.ix (.var 0) (.con (.int 0))) (.cons (.tup (.cons (.con (.str [105,115])) (.cons (.con (.str [98,121])) .nil))) .nil))) (.call 1 (.cons (.ix (.var 0) (.con (.int 1))) .nil))) .done) .done (.ife (.cmp .Eq (.blt .len (.cons (.var 0) .nil)) (.con (.int 3))) (.ret (.and (.call 4 (.cons (.ix (.var 0) (.con (.int 0))) (.cons (.tup (.cons (.con (.str [108,101,97,115,116])) (.cons (.con (.str [109,111,115,116])) .nil))) .nil))) (.and (.call 1 (.cons (.ix (.var 0) (.con (.int 1))) .nil)) (.call 3 (.cons (.ix (.var 0) (.con (.int 2))) .nil)))) .done) .done (.ret (.con (.bl false)) .done)))))
noncomputable def QV:S:=(.ret (.and (.isi (.var 0) .tuple) (.chn .LtE .LtE (.gl 6) (.blt .len (.cons (.var 0) .nil)) (.gl 7))) .done)
noncomputable def Ja:S:=(.ife (.or (.not (.isi (.var 0) .tuple)) (.cmp .NotEq (.blt .len (.cons (.var 0) .nil)) (.con (.int 2)))) (.ret (.tup .nil) .done) .done (.ife (.call 4 (.cons (.ix (.var 0) (.con (.int 0))) (.cons (.tup (.cons (.con (.str [110,111,116])) .nil)) .nil))) (.ret (.tup (.cons (.ix (.var 0) (.con (.int 1))) .nil)) .done) .done (.ife (.and (.call 4 (.cons (.ix (.var 0) (.con (.int 0))) (.cons (.tup (.cons (.con (.str [97,110,100])) (.cons (.con (.str [111,114])) .nil))) .nil))) (.call 6 (.cons (.ix (.var 0) (.con (.int 1))) .nil))) (.ret (.ix (.var 0) (.con (.int 1))) .done) .done (.ret (.tup .nil) .done))))
noncomputable def JC:S:=(.ret (.or (.call 5 (.cons (.var 0) .nil)) (.cmp .Gt (.blt .len (.cons (.call 7 (.cons (.var 0) .nil)) .nil)) (.con (.int 0)))) .done)
noncomputable def QL:E:=(.more (.call 7 (.cons (.var 0) .nil)) (.nm 1) .nil (.emit (.var 1)))
noncomputable def Zcz:E:=(.comp 2 [] (.var 1) (.nm 0) .nil QL)
noncomputable def Zap:E:=(.emit (.call 8 (.cons (.var 0) .nil)))
noncomputable def Zcy:E:=(.comp 1 [] (.var 1) (.nm 0) .nil Zap)
noncomputable def Zu:S:=(.aug 2 .Add (.blt .len (.cons (.var 1) .nil)) (.ife (.or (.cmp .Gt (.var 2) (.gl 5)) (.not (.blt .all (.cons Zcy .nil)))) (.ret (.con (.bl false)) .done) .done (.asg 1 Zcz .done)))
noncomputable def Xu:S:=(.asg 1 (.lst (.cons (.var 0) .nil)) (.asg 2 (.con (.int 0)) (.forr (.nm 3) (.blt .range1 (.cons (.gl 4) .nil)) Zu (.ret (.cmp .Eq (.blt .len (.cons (.var 1) .nil)) (.con (.int 0))) .done))))
noncomputable def Jk:E:=(.emit (.cmp .In (.var 0) (.gl 8)))
noncomputable def QC:E:=(.comp 1 [] (.var 0) (.nm 0) .nil Jk)
noncomputable def Z5:S:=(.ife (.or (.not (.chn .LtE .LtE (.con (.int 1)) (.blt .len (.cons (.var 0) .nil)) (.gl 9))) (.not (.blt .all (.cons QC .nil)))) (.ret (.con (.bl false)) .done) .done (.ret (.or (.cmp .Eq (.var 0) (.con (.str [48]))) (.cmp .NotEq (.ix (.var 0) (.con (.int 0))) (.con (.str [48])))) .done))
noncomputable def Xr:S:=(.ife (.cmp .Lt (.var 1) (.blt .len (.cons (.var 0) .nil))) (.ret (.ix (.var 0) (.var 1)) .done) .done (.ret (.con (.str [])) .done))
noncomputable def Jb:S:=(.asg 2 (.call 11 (.cons (.var 0) (.cons (.var 1) .nil))) (.ife (.not (.call 0 (.cons (.var 2) .nil))) (.rse 71 ["at"] (.cons (.var 1) .nil) .done) .done (.ret (.var 2) .done)))
noncomputable def Qx:S:=(.asg 2 (.call 11 (.cons (.var 0) (.cons (.var 1) .nil))) (.ife (.not (.call 10 (.cons (.var 2) .nil))) (.rse 71 ["at"] (.cons (.var 1) .nil) .done) .done (.ret (.blt .int (.cons (.var 2) .nil)) .done)))
noncomputable def Jp:S:=(.asg 2 (.call 11 (.cons (.var 0) (.cons (.var 1) .nil))) (.ife (.cmp .Eq (.var 2) (.con (.str [97,110,121]))) (.ret (.tup (.cons (.tup (.cons (.var 2) .nil)) (.cons (.bin .Add (.var 1) (.con (.int 1))) .nil))) .done) .done (.ife (.cmp .In (.var 2) (.tup (.cons (.con (.str [105,115])) (.cons (.con (.str [98,121])) .nil)))) (.ret (.tup (.cons (.tup (.cons (.var 2) (.cons (.call 12 (.cons (.var 0) (.cons (.bin .Add (.var 1) (.con (.int 1))) .nil))) .nil))) (.cons (.bin .Add (.var 1) (.con (.int 2))) .nil))) .done) .done (.asg 3 (.call 12 (.cons (.var 0) (.cons (.var 1) .nil))) (.asg 4 (.call 11 (.cons (.var 0) (.cons (.bin .Add (.var 1) (.con (.int 1))) .nil))) (.ife (.gdn 11 true (.var 4)) (.rse 71 ["at"] (.cons (.bin .Add (.var 1) (.con (.int 1))) .nil) .done) .done (.ret (.tup (.cons (.tup (.cons (.gdg 11 (.var 4)) (.cons (.var 3) (.cons (.call 13 (.cons (.var 0) (.cons (.bin .Add (.var 1) (.con (.int 2))) .nil))) .nil)))) (.cons (.bin .Add (.var 1) (.con (.int 3))) .nil))) .done)))))))
noncomputable def JB:S:=(.asg 3 (.call 11 (.cons (.var 0) (.cons (.var 1) .nil))) (.ife (.cmp .NotIn (.var 3) (.tup (.cons (.con (.str [110,111,116])) (.cons (.con (.str [40])) .nil)))) (.ret (.call 14 (.cons (.var 0) (.cons (.var 1) .nil))) .done) .done (.ife (.cmp .Eq (.var 2) (.gl 10)) (.rse 71 ["at"] (.cons (.var 1) .nil) .done) .done (.ife (.cmp .Eq (.var 3) (.con (.str [110,111,116]))) (.asgT [4,5] (.call 15 (.cons (.var 0) (.cons (.bin .Add (.var 1) (.con (.int 1))) (.cons (.bin .Add (.var 2) (.con (.int 1))) .nil)))) (.ret (.tup (.cons (.tup (.cons (.con (.str [110,111,116])) (.cons (.var 4) .nil))) (.cons (.var 5) .nil))) .done)) .done (.asgT [4,5] (.call 16 (.cons (.var 0) (.cons (.bin .Add (.var 1) (.con (.int 1))) (.cons (.bin .Add (.var 2) (.con (.int 1))) (.cons (.gl 12) .nil))))) (.ife (.cmp .NotEq (.call 11 (.cons (.var 0) (.cons (.var 5) .nil))) (.con (.str [41]))) (.rse 71 ["at"] (.cons (.var 5) .nil) .done) .done (.ret (.tup (.cons (.var 4) (.cons (.bin .Add (.var 5) (.con (.int 1))) .nil))) .done)))))))
noncomputable def Zy:S:=(.asgT [4,5] (.call 16 (.cons (.var 0) (.cons (.bin .Add (.var 5) (.con (.int 1))) (.cons (.var 2) (.cons (.slc (.var 3) (.con (.int 1)) .hole) .nil))))) (.expr (.mth .append (.var 6) (.cons (.var 4) .nil)) .done))
noncomputable def QD:S:=(.ife (.cmp .Eq (.blt .len (.cons (.var 3) .nil)) (.con (.int 0))) (.ret (.call 15 (.cons (.var 0) (.cons (.var 1) (.cons (.var 2) .nil)))) .done) .done (.asgT [4,5] (.call 16 (.cons (.var 0) (.cons (.var 1) (.cons (.var 2) (.cons (.slc (.var 3) (.con (.int 1)) .hole) .nil))))) (.asg 6 (.cel (.cons (.var 4) .nil)) (.whil (.cmp .Eq (.call 11 (.cons (.var 0) (.cons (.var 5) .nil))) (.ix (.var 3) (.con (.int 0)))) Zy (.ife (.cmp .Eq (.blt .len (.cons (.var 6) .nil)) (.con (.int 1))) (.ret (.tup (.cons (.var 4) (.cons (.var 5) .nil))) .done) .done (.ret (.tup (.cons (.tup (.cons (.ix (.var 3) (.con (.int 0))) (.cons (.blt .tuple (.cons (.var 6) .nil)) .nil))) (.cons (.var 5) .nil))) .done))))))
noncomputable def Qe:S:=(.ife (.not (.isi (.var 0) .str)) (.rse 71 ["at"] (.cons (.con (.int 0)) .nil) .done) .done (.asg 1 (.mth .split (.var 0) (.cons (.con (.str [32])) .nil)) (.asgT [2,3] (.call 16 (.cons (.var 1) (.cons (.con (.int 0)) (.cons (.con (.int 0)) (.cons (.gl 12) .nil))))) (.ife (.or (.cmp .Lt (.var 3) (.blt .len (.cons (.var 1) .nil))) (.not (.call 9 (.cons (.var 2) .nil)))) (.rse 71 ["at"] (.cons (.var 3) .nil) .done) .done (.ret (.var 2) .done)))))
noncomputable def ZcC:S:=(.ife (.cmp .Lt (.var 1) (.blt .len (.cons (.var 0) .nil))) (.ret (.ix (.var 0) (.var 1)) .done) .done (.ret (.con (.int 0)) .done))
noncomputable def ZdP:S:=(.asg 1 (.bin .Pow (.con (.int 10)) (.con (.int 60))) (.asg 2 (.bin .Mod (.var 0) (.bin .Mult (.bin .Mult (.bin .Mult (.bin .Mult (.var 1) (.var 1)) (.var 1)) (.var 1)) (.var 1))) (.ret (.cel (.cons (.bin .Mult (.var 2) (.blt .int (.cons (.cmp .GtE (.var 0) (.bin .Pow (.con (.int 10)) (.con (.int 18)))) .nil))) (.cons (.bin .Mod (.var 0) (.con (.int 2147483647))) (.cons (.con (.int 0)) .nil)))) .done)))
noncomputable def ZdQ:S:=(.ife (.cmp .Gt (.ix (.var 0) (.con (.int 0))) (.con (.int 0))) (.asg 2 (.bin .Mod (.ix (.var 0) (.con (.int 0))) (.var 1)) (.set (.var 0) (.con (.int 0)) (.bin .FloorDiv (.ix (.var 0) (.con (.int 0))) (.var 1)) (.ret (.var 2) .done))) .done (.set (.var 0) (.con (.int 2)) (.bin .Add (.ix (.var 0) (.con (.int 2))) (.con (.int 1))) (.asg 3 (.bin .Mod (.bin .Mult (.bin .Add (.bin .Add (.ix (.var 0) (.con (.int 1))) (.bin .Mult (.con (.int 6373)) (.ix (.var 0) (.con (.int 2))))) (.con (.int 5))) (.con (.int 48271))) (.con (.int 2147483647))) (.asg 3 (.bin .Mod (.bin .Mult (.var 3) (.bin .Add (.bin .FloorDiv (.var 3) (.con (.int 1013))) (.con (.int 65539)))) (.con (.int 2147483647))) (.asg 3 (.bin .Mod (.bin .Mult (.var 3) (.bin .Add (.bin .FloorDiv (.var 3) (.con (.int 3001))) (.con (.int 40699)))) (.con (.int 2147483629))) (.ret (.bin .Mod (.bin .FloorDiv (.var 3) (.con (.int 3))) (.var 1)) .done))))))
noncomputable def Zbu:E:=(.emit (.var 0))
noncomputable def Zby:E:=(.comp 1 [] (.var 0) (.nm 0) (.cons (.cmp .In (.var 0) (.con (.str [97,98,99,100,101,102,103,104,105,106,107,108,109,110,111,112,113,114,115,116,117,118,119,120,121,122]))) .nil) Zbu)
noncomputable def JD:S:=(.asg 1 Zby (.ret (.and (.cmp .NotEq (.var 0) (.con (.str []))) (.and (.cmp .Eq (.blt .len (.cons (.var 1) .nil)) (.blt .len (.cons (.var 0) .nil))) (.cmp .NotIn (.var 0) (.lst (.cons (.con (.str [97,110,121])) (.cons (.con (.str [105,115])) (.cons (.con (.str [98,121])) (.cons (.con (.str [110,111,116])) (.cons (.con (.str [97,110,100])) (.cons (.con (.str [111,114])) .nil)))))))))) .done))
noncomputable def Xh:E:=(.emit (.var 0))
noncomputable def Xp:E:=(.comp 1 [] (.var 0) (.nm 0) (.cons (.cmp .In (.var 0) (.con (.str [48,49,50,51,52,53,54,55,56,57]))) .nil) Xh)
noncomputable def QF:S:=(.asg 1 Xp (.ret (.and (.chn .LtE .LtE (.con (.int 1)) (.blt .len (.cons (.var 0) .nil)) (.con (.int 10))) (.and (.cmp .Eq (.blt .len (.cons (.var 1) .nil)) (.blt .len (.cons (.var 0) .nil))) (.or (.cmp .NotEq (.ix (.var 0) (.con (.int 0))) (.con (.str [48]))) (.cmp .Eq (.var 0) (.con (.str [48])))))) .done))
noncomputable def XN:S:=(.expr (.mth .popat (.var 0) (.cons (.con (.int (-1))) .nil)) .done)
noncomputable def ZaS:S:=(.whil (.and (.cmp .NotEq (.var 0) (.lst .nil)) (.cmp .Eq (.ix (.var 0) (.neg (.con (.int 1)))) (.con (.str [110,111,116])))) XN (.ret (.con (.str [98,101,104,105,110,100])) .done))
noncomputable def Qj:S:=(.ife (.and (.cmp .Eq (.var 0) (.con (.str [119,105,115,104]))) (.cmp .In (.var 1) (.tup (.cons (.con (.str [110,111,116])) (.cons (.con (.str [40])) .nil))))) (.expr (.mth .append (.var 2) (.cons (.var 1) .nil)) (.ret (.ix (.lst (.cons (.con (.str [119,105,115,104])) (.cons (.con .non) .nil))) (.blt .int (.cons (.cmp .Gt (.blt .len (.cons (.var 2) .nil)) (.con (.int 12))) .nil))) .done)) .done (.ife (.and (.cmp .Eq (.var 0) (.con (.str [119,105,115,104]))) (.cmp .In (.var 1) (.tup (.cons (.con (.str [105,115])) (.cons (.con (.str [98,121])) .nil))))) (.ret (.con (.str [110,97,109,101])) .done) .done (.ife (.or (.and (.cmp .Eq (.var 0) (.con (.str [119,105,115,104]))) (.cmp .Eq (.var 1) (.con (.str [97,110,121])))) (.and (.cmp .Eq (.var 0) (.con (.str [110,97,109,101]))) (.call 21 (.cons (.var 1) .nil)))) (.ret (.call 23 (.cons (.var 2) .nil)) .done) .done (.ife (.cmp .Eq (.var 0) (.con (.str [119,105,115,104]))) (.ret (.ix (.lst (.cons (.con .non) (.cons (.con (.str [115,105,103,110])) .nil))) (.blt .int (.cons (.call 21 (.cons (.var 1) .nil)) .nil))) .done) .done (.ife (.cmp .Eq (.var 0) (.con (.str [115,105,103,110]))) (.ret (.ix (.lst (.cons (.con .non) (.cons (.con (.str [110,117,109,98,101,114])) .nil))) (.blt .int (.cons (.cmp .In (.var 1) (.tup (.cons (.con (.str [62,61])) (.cons (.con (.str [60,61])) .nil)))) .nil))) .done) .done (.ife (.and (.cmp .Eq (.var 0) (.con (.str [110,117,109,98,101,114]))) (.call 22 (.cons (.var 1) .nil))) (.ret (.call 23 (.cons (.var 2) .nil)) .done) .done (.ife (.and (.cmp .Eq (.var 0) (.con (.str [98,101,104,105,110,100]))) (.and (.cmp .Eq (.var 1) (.con (.str [41]))) (.cmp .NotEq (.var 2) (.lst .nil)))) (.expr (.mth .popat (.var 2) (.cons (.con (.int (-1))) .nil)) (.ret (.call 23 (.cons (.var 2) .nil)) .done)) .done (.ret (.ix (.lst (.cons (.con .non) (.cons (.con (.str [119,105,115,104])) .nil))) (.blt .int (.cons (.and (.cmp .Eq (.var 0) (.con (.str [98,101,104,105,110,100]))) (.cmp .In (.var 1) (.tup (.cons (.con (.str [97,110,100])) (.cons (.con (.str [111,114])) .nil))))) .nil))) .done))))))))
noncomputable def ZJ:S:=(.asg 3 (.call 24 (.cons (.var 3) (.cons (.var 5) (.cons (.var 2) .nil)))) (.ife (.cmp .Is (.var 3) (.con .non)) (.ret (.var 4) .done) .done .done))
noncomputable def X5:S:=(.asg 1 (.mth .split (.var 0) (.cons (.con (.str [32])) .nil)) (.asg 2 (.cel .nil) (.asg 3 (.con (.str [119,105,115,104])) (.forr (.tp [4,5]) (.blt .enum (.cons (.tr (.var 1)) .nil)) ZJ (.ret (.ix (.lst (.cons (.blt .len (.cons (.var 1) .nil)) (.cons (.con .non) .nil))) (.blt .int (.cons (.and (.cmp .Eq (.var 3) (.con (.str [98,101,104,105,110,100]))) (.cmp .Eq (.var 2) (.lst .nil))) .nil))) .done)))))
noncomputable def JQ:S:=(.asg 3 (.xis (.var 2) [] [71]) (.ife (.and (.xis (.var 2) [71] []) (.and (.xis (.var 2) [71] []) (.and (.not (.var 3)) (.not (.xis (.var 2) [] [71]))))) (.asg 1 (.tup (.cons (.con (.str [114,101,102,117,115,101,100])) (.cons (.xat (.var 2) [71] "at") .nil))) .done) .done .done))
noncomputable def Q8:S:=(.asg 1 (.tup (.cons (.con (.str [116,111,108,100])) (.cons (.call 17 (.cons (.var 0) .nil)) .nil))) .done)
noncomputable def Je:S:=(.asg 1 (.tup (.cons (.con (.str [111,116,104,101,114])) (.cons (.con .non) .nil))) (.tri Q8 [71] (some 2) JQ (.ret (.var 1) .done)))
noncomputable def Xv:S:=(.ret (.ptd (.var 0) (.var 1)) .done)
noncomputable def Zbt:E:=(.emit (.call 28 (.cons (.var 0) .nil)))
noncomputable def Ze1:E:=(.comp 1 [] (.var 2) (.nm 0) .nil Zbt)
noncomputable def Zz:S:=(.asg 2 (.call 27 (.cons (.var 0) (.cons (.var 1) .nil))) (.ife (.cmp .Gt (.blt .len (.cons (.var 2) .nil)) (.con (.int 1))) (.ret (.tup (.cons (.var 1) (.cons (.blt .tuple (.cons Ze1 .nil)) .nil))) .done) .done .done))
noncomputable def Z8:S:=(.forr (.nm 1) (.lst (.cons (.con (.str [111,114])) (.cons (.con (.str [97,110,100])) .nil))) Zz (.ife (.cmp .Eq (.ix (.var 0) (.con (.int 0))) (.con (.str [110,111,116]))) (.ret (.tup (.cons (.con (.str [110,111,116])) (.cons (.call 28 (.cons (.slc (.var 0) (.con (.int 1)) .hole) .nil)) .nil))) .done) .done (.ife (.cmp .Eq (.ix (.var 0) (.con (.int 0))) (.con (.str [40]))) (.ret (.call 28 (.cons (.slc (.var 0) (.con (.int 1)) (.neg (.con (.int 1)))) .nil)) .done) .done (.ife (.cmp .In (.ix (.var 0) (.con (.int 0))) (.tup (.cons (.con (.str [97,110,121])) (.cons (.con (.str [105,115])) (.cons (.con (.str [98,121])) .nil))))) (.ret (.blt .tuple (.cons (.var 0) .nil)) .done) .done (.ret (.tup (.cons (.ix (.lst (.cons (.con (.str [109,111,115,116])) (.cons (.con (.str [108,101,97,115,116])) .nil))) (.blt .int (.cons (.cmp .Eq (.ix (.var 0) (.con (.int 1))) (.con (.str [62,61]))) .nil))) (.cons (.ix (.var 0) (.con (.int 0))) (.cons (.blt .int (.cons (.ix (.var 0) (.con (.int 2))) .nil)) .nil)))) .done)))))
noncomputable def Q6:S:=(.asg 3 (.lst (.cons (.con (.str [97,110,121])) (.cons (.con (.str [105,115])) (.cons (.con (.str [98,121])) (.cons (.con (.str [110,111,116])) (.cons (.con (.str [97,110,100])) (.cons (.con (.str [111,114])) (.cons (.con (.str [40])) (.cons (.con (.str [41])) (.cons (.con (.str [62,61])) (.cons (.con (.str [60,61])) (.cons (.con (.str [114,121,101])) (.cons (.con (.str [97])) (.cons (.con (.str [53])) (.cons (.con (.str [48,53])) (.cons (.con (.str [])) (.cons (.con (.str [97,98,99,100,101,102,103,104,105])) (.cons (.con (.str [65])) .nil)))))))))))))))))) (.asg 3 (.bin .Add (.var 3) (.lst (.cons (.con (.str [10])) (.cons (.con (.str [57,57,57,57,57,57,57,57,57,57])) (.cons (.con (.str [97,110,100,121])) .nil))))) (.ife (.or (.cmp .Is (.var 1) (.con .non)) (.cmp .Eq (.call 20 (.cons (.var 0) (.cons (.con (.int 24)) .nil))) (.con (.int 0)))) (.ret (.ix (.var 3) (.call 20 (.cons (.var 0) (.cons (.con (.int 20)) .nil)))) .done) .done (.ret (.ix (.blt .dget (.cons (.var 2) (.cons (.var 1) .nil))) (.call 20 (.cons (.var 0) (.cons (.blt .len (.cons (.blt .dget (.cons (.var 2) (.cons (.var 1) .nil))) .nil)) .nil)))) .done))))
noncomputable def Qg:S:=(.asg 2 (.con (.dct (List.map (λk=>.inr ⟨k.toArray⟩) ([[119,105,115,104],[110,97,109,101]]++[[115,105,103,110],[110,117,109,98,101,114]]++[[98,101,104,105,110,100]])) (List.map T.lst [[(.str [97,110,121]),(.str [105,115]),(.str [98,121]),(.str [110,111,116]),(.str [40]),(.str [114,121,101]),(.str [97]),(.str [105,115]),(.str [40]),(.str [112,114,105,99,101])],[(.str [114,121,101]),(.str [97]),(.str [97,110,100,121])]]++List.map T.lst [[(.str [62,61]),(.str [60,61])],[(.str [48]),(.str [53]),(.str [49,48,48,48,48,48,48,48,48,48]),(.str [55,55])]]++List.map T.lst [[(.str [97,110,100]),(.str [111,114]),(.str [41]),(.str [97,110,100]),(.str [111,114]),(.str [41])]]))) Q6)
noncomputable def Jw:S:=(.ife (.or (.cmp .NotEq (.var 3) (.con (.str [98,101,104,105,110,100]))) (.cmp .NotEq (.var 2) (.lst .nil))) (.asg 5 (.blt .dget (.cons (.dsn [[119,105,115,104],[110,97,109,101],[115,105,103,110],[110,117,109,98,101,114],[98,101,104,105,110,100]] (.cons (.con (.str [97,110,121])) (.cons (.con (.str [114,121,101])) (.cons (.con (.str [62,61])) (.cons (.con (.str [55])) (.cons (.con (.str [41])) .nil)))))) (.cons (.var 3) .nil))) (.expr (.mth .append (.var 1) (.cons (.var 5) .nil)) (.asg 3 (.call 24 (.cons (.var 3) (.cons (.var 5) (.cons (.var 2) .nil)))) .done))) .done .done)
noncomputable def QK:S:=(.asg 5 (.call 29 (.cons (.var 0) (.cons (.var 3) .nil))) (.expr (.mth .append (.var 1) (.cons (.var 5) .nil)) (.ife (.cmp .IsNot (.var 3) (.con .non)) (.asg 3 (.call 24 (.cons (.var 3) (.cons (.var 5) (.cons (.var 2) .nil)))) .done) .done .done)))
noncomputable def JZ:S:=(.asg 1 (.cel .nil) (.asg 2 (.cel .nil) (.asg 3 (.con (.str [119,105,115,104])) (.forr (.nm 4) (.blt .range1 (.cons (.bin .Add (.con (.int 1)) (.call 20 (.cons (.var 0) (.cons (.con (.int 16)) .nil)))) .nil)) QK (.ife (.and (.cmp .IsNot (.var 3) (.con .non)) (.cmp .Gt (.call 20 (.cons (.var 0) (.cons (.con (.int 4)) .nil))) (.con (.int 0)))) (.forr (.nm 4) (.blt .range1 (.cons (.con (.int 40)) .nil)) Jw .done) .done (.ret (.var 1) .done))))))
noncomputable def ZdA:S:=(.asg 2 (.call 30 (.cons (.call 19 (.cons (.var 1) .nil)) .nil)) (.asg 3 (.mth .join (.con (.str [32])) (.cons (.var 2) .nil)) (.asg 4 (.tup (.cons (.con (.str [114,101,102,117,115,101,100])) (.cons (.call 25 (.cons (.var 3) .nil)) .nil))) (.ife (.cmp .Is (.ix (.var 4) (.con (.int 1))) (.con .non)) (.asg 4 (.tup (.cons (.con (.str [116,111,108,100])) (.cons (.call 28 (.cons (.var 2) .nil)) .nil))) (.ife (.not (.call 9 (.cons (.ix (.var 4) (.con (.int 1))) .nil))) (.asg 4 (.tup (.cons (.con (.str [114,101,102,117,115,101,100])) (.cons (.blt .len (.cons (.var 2) .nil)) .nil))) .done) .done .done)) .done (.ife (.cmp .NotEq (.call 26 (.cons (.var 3) .nil)) (.var 4)) (.ret (.con (.bl false)) .done) .done .done)))))
noncomputable def Zhq:S:=(.forr (.nm 1) (.bin .Add (.lst (.cons (.call 18 (.cons (.var 0) (.cons (.con (.int 0)) .nil))) .nil)) (.slc (.var 0) (.con (.int 1)) (.con (.int 40)))) ZdA (.ret (.con (.bl true)) .done))
noncomputable def fns:List Fn:=[⟨1,1,Qs,false⟩,⟨1,1,Jc,false⟩,⟨1,1,X4,false⟩,⟨1,1,Jd,false⟩,⟨2,2,JX,false⟩,⟨1,1,Qf,false⟩,⟨1,1,QV,false⟩,⟨1,1,Ja,false⟩,⟨1,1,JC,false⟩,⟨1,4,Xu,false⟩,⟨1,1,Z5,false⟩,⟨2,2,Xr,false⟩,⟨2,3,Jb,false⟩,⟨2,3,Qx,false⟩,⟨2,5,Jp,false⟩,⟨3,6,JB,false⟩,⟨4,7,QD,false⟩,⟨1,4,Qe,false⟩,⟨2,2,ZcC,false⟩,⟨1,3,ZdP,true⟩,⟨2,4,ZdQ,false⟩,⟨1,2,JD,false⟩,⟨1,2,QF,false⟩,⟨1,1,ZaS,false⟩,⟨3,3,Qj,false⟩,⟨1,6,X5,false⟩,⟨1,4,Je,false⟩,⟨2,5,Xv,false⟩,⟨1,3,Z8,false⟩,⟨2,4,Qg,false⟩,⟨1,6,JZ,false⟩,⟨1,5,Zhq,false⟩]
noncomputable def gv:List T:=[(.str [97,98,99,100,101,102,103,104,105,106,107,108,109,110,111,112,113,114,115,116,117,118,119,120,121,122]),(.int 8),(.tup [(.str [97,110,121]),(.str [105,115]),(.str [98,121]),(.str [110,111,116]),(.str [97,110,100]),(.str [111,114])]),(.int 1000000000),(.int 6),(.int 40),(.int 2),(.int 6),(.str [48,49,50,51,52,53,54,55,56,57]),(.int 10),(.int 12),(.dct (List.map (λk=>.inr ⟨k.toArray⟩) [[62,61],[60,61]]) [(.str [108,101,97,115,116]),(.str [109,111,115,116])]),(.tup [(.str [111,114]),(.str [97,110,100])])]
noncomputable abbrev cf:=Jf fns gv
noncomputable abbrev CF(k:Nat)(b:S)(p q:Nat)(c:Bool):Prop:=∀(n:Nat) (ws:List W) (m:Mem),cf (n+1) k ws m=if ws.length=p then(ex (cf n) gv b (ws.map some++List.replicate (q-p) none) m).bind λfl m'=>fin m.length c fl m' else .stuck
theorem Zcw:CF 0 Qs 1 1 false:=λ_ _ _=>rfl
theorem Zdd:CF 1 Jc 1 1 false:=λ_ _ _=>rfl
theorem ZfO:CF 2 X4 1 1 false:=λ_ _ _=>rfl
theorem ZeX:CF 3 Jd 1 1 false:=λ_ _ _=>rfl
theorem ZeW:CF 4 JX 2 2 false:=λ_ _ _=>rfl
theorem ZbI:CF 5 Qf 1 1 false:=λ_ _ _=>rfl
theorem ZdM:CF 6 QV 1 1 false:=λ_ _ _=>rfl
theorem ZeV:CF 7 Ja 1 1 false:=λ_ _ _=>rfl
theorem ZfP:CF 8 JC 1 1 false:=λ_ _ _=>rfl
theorem Zhn:CF 9 Xu 1 4 false:=λ_ _ _=>rfl
theorem Zbf:CF 10 Z5 1 1 false:=λ_ _ _=>rfl
theorem Zhm:CF 11 Xr 2 2 false:=λ_ _ _=>rfl
theorem Zdc:CF 12 Jb 2 3 false:=λ_ _ _=>rfl
theorem Zbx:CF 13 Qx 2 3 false:=λ_ _ _=>rfl
theorem ZdL:CF 14 Jp 2 5 false:=λ_ _ _=>rfl
theorem Zcv:CF 15 JB 3 6 false:=λ_ _ _=>rfl
theorem Zah:CF 16 QD 4 7 false:=λ_ _ _=>rfl
theorem Zbw:CF 17 Qe 1 4 false:=λ_ _ _=>rfl
theorem ZkQ:CF 18 ZcC 2 2 false:=λ_ _ _=>rfl
theorem ZfS:CF 21 JD 1 2 false:=λ_ _ _=>rfl
theorem ZcL:CF 22 QF 1 2 false:=λ_ _ _=>rfl
theorem Zji:CF 23 ZaS 1 1 false:=λ_ _ _=>rfl
theorem ZfR:CF 24 Qj 3 3 false:=λ_ _ _=>rfl
theorem Zjh:CF 25 X5 1 6 false:=λ_ _ _=>rfl
theorem Zde:CF 26 Je 1 4 false:=λ_ _ _=>rfl
theorem Zho:CF 27 Xv 2 5 false:=λ_ _ _=>rfl
theorem ZfQ:CF 28 Z8 1 3 false:=λ_ _ _=>rfl
theorem ZeY:CF 29 Qg 2 4 false:=λ_ _ _=>rfl
theorem Zjg:CF 30 JZ 1 6 false:=λ_ _ _=>rfl
theorem cf_law:CF 31 Zhq 1 5 false:=λ_ _ _=>rfl
theorem Zhc:gv[0]?=some (.str [97,98,99,100,101,102,103,104,105,106,107,108,109,110,111,112,113,114,115,116,117,118,119,120,121,122]):=rfl
theorem Xi:gv[1]?=some (.int 8):=rfl
theorem ZaH:gv[2]?=some (.tup [(.str [97,110,121]),(.str [105,115]),(.str [98,121]),(.str [110,111,116]),(.str [97,110,100]),(.str [111,114])]):=rfl
theorem ZaI:gv[3]?=some (.int 1000000000):=rfl
theorem Zhe:gv[4]?=some (.int 6):=rfl
theorem JR:gv[5]?=some (.int 40):=rfl
theorem J4:gv[6]?=some (.int 2):=rfl
theorem Zac:gv[7]?=some (.int 6):=rfl
theorem Zhd:gv[8]?=some (.str [48,49,50,51,52,53,54,55,56,57]):=rfl
theorem Zcq:gv[9]?=some (.int 10):=rfl
theorem Zab:gv[10]?=some (.int 12):=rfl
theorem ZdB:gv[11]?=some (.dct (List.map (λk=>.inr ⟨k.toArray⟩) [[62,61],[60,61]]) [(.str [108,101,97,115,116]),(.str [109,111,115,116])]):=rfl
theorem ZbU:gv[12]?=some (.tup [(.str [111,114]),(.str [97,110,100])]):=rfl
end My
section
set_option maxRecDepth 20000
namespace My
open Mi
noncomputable def IsSt(s:List T):Prop:=∃a b c:Int,s=[.int a,.int b,.int c]
noncomputable def put(m:Mem)(i:Nat)(s:List T):Mem:=m.set i (some (false,s))
theorem Zk5{m:Mem}{i:Nat}{s:List T}(h:i<m.length):(put m i s)[i]?=some (some (false,s)):=List.getElem?_set_self h
theorem Qw{m:Mem}{i:Nat}{s:List T}:(put m i s).length=m.length:=List.length_set
theorem ZhT{m:Mem}{i:Nat}{s s':List T}:(put m i s).set i (some (false,s'))=put m i s':=List.set_set _
theorem Zdt{m:Mem}{i:Nat}{s:List T}:(put m i s).take m.length=put m i s:=by
 have h:=List.take_length (l:=put m i s)
 rw[Qw]at h
 exact h
theorem mulL{i j:Int}(h:0<=i)(h':i<4294967296):X7 i j=true:=by
 have:i.natAbs<2^64:=by omega
 simp[X7,small,this]
theorem mulR{i j:Int}(h:0<=j)(h':j<4294967296):X7 i j=true:=by
 have:j.natAbs<2^64:=by omega
 simp[X7,small,this]
section
variable{call:Nat->List W->Mem->Res W}{gv:List T}{env:Env}{m m1 m2 m3:Mem}{a b c e o v i:E}{x y z r:T}{w w1 w2:W}{f:Nat}{bb:B}{k:Bool}
theorem Zi4{op:PySem.Operator}(h1:ev call gv a env m=.ok (.t x) m1)(h2:ev call gv b env m1=.ok (.t y) m2)(h3:binT op x y=some r):ev call gv (.bin op a b) env m=.ok (.t r) m2:=by
 rw[ev,h1,Zf,h2,Zf]
 show pur (binT op x y) m2=_
 rw[h3];rfl
theorem Zm{op:PySem.CmpOp}(h1:ev call gv a env m=.ok (.t x) m1)(h2:ev call gv b env m1=.ok (.t y) m2)(h3:cmpT op x y=some k):ev call gv (.cmp op a b) env m=.ok (.t (.bl k)) m2:=by
 rw[ev,h1,Zf,h2,Zf]
 show pur ((cmpT op x y).map .bl) m2=_
 rw[h3];rfl
theorem Zb(t:T):ev call gv (.con t) env m=.ok (.t t) m:=by rw[ev]
theorem Za{i:Nat}{w:W}(h:env[i]?=some (some w)):ev call gv (.var i) env m=.ok w m:=by rw[ev,h]
theorem Xn(h1:ev call gv a env m=.ok (.t x) m1)(h2:ev call gv b env m1=.ok (.t y) m2)(h3:ixT x y=some r):ev call gv (.ix a b) env m=.ok (.t r) m2:=by
 rw[ev,h1,Zf,h2,Zf]
 show pur (ixT x y) m2=_
 rw[h3];rfl
theorem Zv(h:ev call gv e env m=.ok (.t x) m1)(hb:bltT bb [x]=some r):ev call gv (.blt bb (.cons e .nil)) env m=.ok (.t r) m1:=by
 rw[ev,evs,h]
 show pur (bltT bb [x]) m1=_
 rw[hb];rfl
theorem ZF(h:ev call gv e env m=.ok w m1):ev call gv (.call f (.cons e .nil)) env m=call f [w] m1:=by
 rw[ev,evs,h]
 rfl
theorem Zn(h1:ev call gv a env m=.ok w m1)(h2:ev call gv b env m1=.ok w1 m2):ev call gv (.call f (.cons a (.cons b .nil))) env m=call f [w,w1] m2:=by
 simp only[ev,evs,h1,h2,Zf]
theorem Jo(h1:ev call gv a env m=.ok w m1)(h2:ev call gv b env m1=.ok w1 m2)(h3:ev call gv c env m2=.ok w2 m3):ev call gv (.call f (.cons a (.cons b (.cons c .nil)))) env m=call f [w,w1,w2] m3:=by
 simp only[ev,evs,h1,h2,h3,Zf]
theorem Zna(h1:ev call gv a env m=.ok (.t x) m1):ev call gv (.tup (.cons a .nil)) env m=.ok (.t (.tup [x])) m1:=by
 simp only[ev,evs,h1,Zf,Zae,Zad]
 exact if_pos (by simp[lim])
theorem ZL(h1:ev call gv a env m=.ok (.t x) m1)(h2:ev call gv b env m1=.ok (.t y) m2):ev call gv (.tup (.cons a (.cons b .nil))) env m=.ok (.t (.tup [x,y])) m2:=by
 simp only[ev,evs,h1,h2,Zf,Zae,Zad]
 exact if_pos (by simp[lim])
theorem ZfK(h1:ev call gv a env m=.ok (.t x) m1)(h2:ev call gv b env m1=.ok (.t y) m2)(h3:ev call gv c env m2=.ok (.t z) m3):ev call gv (.tup (.cons a (.cons b (.cons c .nil)))) env m=.ok (.t (.tup [x,y,z])) m3:=by
 simp only[ev,evs,h1,h2,h3,Zf,Zae,Zad]
 exact if_pos (by simp[lim])
theorem Zbe(h1:ev call gv a env m=.ok (.t x) m1)(h2:ev call gv b env m1=.ok (.t y) m2):ev call gv (.lst (.cons a (.cons b .nil))) env m=.ok (.t (.lst [x,y])) m2:=by
 simp only[ev,evs,h1,h2,Zf,Zae,Zad]
 exact if_pos (by simp[lim])
theorem Js(h:ev call gv a env m=.ok (.t (.bl true)) m1):ev call gv (.and a b) env m=ev call gv b env m1:=by rw[ev,h];rfl
theorem ZG(h:ev call gv a env m=.ok (.t (.bl false)) m1):ev call gv (.and a b) env m=.ok (.t (.bl false)) m1:=by rw[ev,h];rfl
theorem Xm(h:ev call gv a env m=.ok (.t (.bl k)) m1):ev call gv (.not a) env m=.ok (.t (.bl (!k))) m1:=by rw[ev,h];rfl
theorem ZeQ(h:ev call gv a env m=.ok (.t (.bl true)) m1):ev call gv (.or a b) env m=.ok (.t (.bl true)) m1:=by rw[ev,h];rfl
theorem J5(h:ev call gv a env m=.ok (.t (.bl false)) m1):ev call gv (.or a b) env m=ev call gv b env m1:=by rw[ev,h];rfl
theorem ev_isi{ty:Ty}(h:ev call gv a env m=.ok (.t x) m1)(hk:isT x ty=k):ev call gv (.isi a ty) env m=.ok (.t (.bl k)) m1:=by rw[ev,h,<-hk];rfl
end
section
variable{call:Nat->List W->Mem->Res W}{gv:List T}{env:Env}{m m1 m2 m3:Mem}{a lo hi:E}{es:Es}{x y z r:T}{w:W}{ws:List W}{ts:List T}{f:Nat}{bb:B}
theorem Zlf{ts:List T}(h:ts.length<=1000:=by exact Nat.le_of_ble_eq_true rfl):ts.length<=lim:=Nat.le_trans h (by decide)
theorem ZcI:evs call gv .nil env m=.ok [] m:=by rw[evs]
theorem Qy(h1:ev call gv a env m=.ok w m1)(h2:evs call gv es env m1=.ok ws m2):evs call gv (.cons a es) env m=.ok (w::ws) m2:=by rw[evs,h1,Zf,h2];rfl
theorem Zls(h:evs call gv es env m=.ok ws m1)(h2:frzs ws m1=.ok ts m1)(hl:ts.length<=lim):ev call gv (.lst es) env m=.ok (.t (.lst ts)) m1:=by rw[ev,h,Zf,h2,Zf,if_pos hl]
theorem Zi2(h:evs call gv es env m=.ok ws m1)(h2:views ws m1=some ts)(h3:bltT bb ts=some r):ev call gv (.blt bb es) env m=.ok (.t r) m1:=by
 rw[ev,h,Zf,h2]
 show pur (bltT bb ts) m1=_
 rw[h3];rfl
theorem ZeR{k:Nat}(h:gv[k]?=some x):ev call gv (.gl k) env m=.ok (.t x) m:=by rw[ev,h];rfl
theorem Zct{k:Int}(h1:ev call gv a env m=.ok (.t x) m1)(h2:ev call gv lo env m1=.ok (.t (.int k)) m2)(h3:slT x (some k) none=some r)(hh:Zr lo=false:=by rfl):ev call gv (.slc a lo .hole) env m=.ok (.t r) m2:=by
 rw[ev,h1,Zf,hh,if_neg Bool.false_ne_true,h2]
 show pur (slT x (some k) none) m2=_
 rw[h3];rfl
end
section
variable{call:Nat->List W->Mem->Res W}{gv:List T}{env env':Env}{m m1 m2:Mem}{k a b:S}{e:E}{w:W}
theorem Zc9(h:ev call gv e env m=.ok (.t (.bl true)) m1)(h2:ex call gv a env m1=.ok (.next env') m2):ex call gv (.ife e a b k) env m=ex call gv k env' m2:=by
 rw[ex,h]
 show(ex call gv a env m1).bind _=_
 rw[h2];rfl
theorem Zbc(h:ev call gv e env m=.ok w m1):ex call gv (.expr e k) env m=ex call gv k env m1:=by rw[ex,h];rfl
end
section
variable{call:Nat->List W->Mem->Res W}{gv:List T}{env:Env}{m m1 m2:Mem}{a c inner:E}{x:T}{xs:List T}
theorem ZdE(h:ev call gv a env m=.ok (.t x) m1):ev call gv (.emit a) env m=.ok (.t (.lst [x])) m1:=by rw[ev,h];rfl
theorem Zk0(h:ev call gv c env m=.ok (.t (.bl true)) m1)(h2:ev call gv inner env m1=.ok (.t (.lst xs)) m2):Q3 call gv (.cons c .nil) inner env m=.ok xs m2:=by
 unfold Q3
 rw[tests,h,Zf,Zdl,Zf,if_pos rfl,tests,Zf,if_pos rfl,h2]
 rfl
theorem Zk1(h:ev call gv c env m=.ok (.t (.bl false)) m1):Q3 call gv (.cons c .nil) inner env m=.ok [] m1:=by
 unfold Q3
 rw[tests,h,Zf,Zdl,Zf,if_neg (by decide),Zf,if_neg (by decide)]
theorem turn0(h2:ev call gv inner env m=.ok (.t (.lst xs)) m2):Q3 call gv .nil inner env m=.ok xs m2:=by
 unfold Q3
 rw[tests,Zf,if_pos rfl,h2]
 rfl
end
theorem at0{α:Type}(a:α)(r:List α):atT (a::r) 0=some a:=by simp[atT,ixOf]
theorem at1{α:Type}(a b:α)(r:List α):atT (a::b::r) 1=some b:=by
 have:(1:Int)<(r.length:Int)+1+1:=by omega
 simp[atT,ixOf,this]
theorem at_get{α:Type}{xs:List α}{i:Int}(h0:0<=i)(h1:i<xs.length):atT xs i=xs[i.toNat]?:=by
 unfold atT ixOf
 rw[if_pos h0,if_pos h1]
 rfl
theorem JS{α β:Type}(f:α->β)(xs:List α):xs.flatMap (λx=>[f x])=xs.map f:=by
 induction xs with
 |nil=>rfl
 |cons x xs ih=>simp[ih]
theorem Zmb{n:Nat}{m:Mem}{i:Nat}{s:List T}{many:Int}(hi:i<m.length)(hs:IsSt s)(h1:0<many)(h2:many<1073741824):
  ∃r s',cf (n+1) 20 [.c i,.t (.int many)] (put m i s)=.ok (.t (.int r)) (put m i s')/\IsSt s'/\0<=r/\r<many:=by
 obtain⟨a,b,c,rfl⟩:=hs
 have h:=Zk5 (s:=[.int a,.int b,.int c]) hi
 by_cases ha:0<a
 ·refine⟨a%many,[.int (a / many),.int b,.int c],?_,⟨_,_,_,rfl⟩,Int.emod_nonneg _ (by omega),Int.emod_lt_of_pos _ h1⟩
  simp[cf,Jf,fns,ZdQ,ex,ev,Res.bind,view,h,pur,cmpT,ZcH,ltT,inT,ixT,atT,ixOf,ZQ,fitT,ZcN,binT,addT,mulT,intT,ha,h1,h2,setM,frz,fin,ZhT,Qw,Zdt]
 ·have h4:X7 6373 (c+1)=true:=mulL (by decide) (by decide)
  have h5:∀x,X7 x 48271=true:=λx=>mulR (by decide) (by decide)
  have h6:∀x y,X7 (x%2147483647) y=true:=λx y=>mulL (Int.emod_nonneg _ (by decide)) (by have:=Int.emod_lt_of_pos x (b:=2147483647) (by decide);omega)
  have hp:=Zk5 (s:=[.int a,.int b,.int (c+1)]) hi
  refine⟨(((((b+6373*(c+1)+5)*48271%2147483647)*((b+6373*(c+1)+5)*48271%2147483647 / 1013+65539)%2147483647)*(((b+6373*(c+1)+5)*48271%2147483647)*((b+6373*(c+1)+5)*48271%2147483647 / 1013+65539)%2147483647 / 3001+40699)%2147483629) / 3)%many,[.int a,.int b,.int (c+1)],?_,⟨_,_,_,rfl⟩,Int.emod_nonneg _ (by omega),Int.emod_lt_of_pos _ h1⟩
  simp[cf,Jf,fns,ZdQ,ex,ev,Res.bind,view,h,pur,cmpT,ZcH,ltT,inT,ixT,atT,ixOf,ZQ,fitT,ZcN,binT,addT,mulT,intT,ha,h1,h2,setM,frz,fin,h4,h5,h6,hp,ZhT,Qw,Zdt]
theorem mw1:X7 1000000000000000000000000000000000000000000000000000000000000 1000000000000000000000000000000000000000000000000000000000000=true:=by decide +kernel
theorem mw2:X7 1000000000000000000000000000000000000000000000000000000000000000000000000000000000000000000000000000000000000000000000000 1000000000000000000000000000000000000000000000000000000000000=true:=by decide +kernel
theorem mw3:X7 1000000000000000000000000000000000000000000000000000000000000000000000000000000000000000000000000000000000000000000000000000000000000000000000000000000000000000000000000000000000000 1000000000000000000000000000000000000000000000000000000000000=true:=by decide +kernel
theorem mw4:X7 1000000000000000000000000000000000000000000000000000000000000000000000000000000000000000000000000000000000000000000000000000000000000000000000000000000000000000000000000000000000000000000000000000000000000000000000000000000000000000000000000 1000000000000000000000000000000000000000000000000000000000000=true:=by decide +kernel
theorem Xw{n:Nat}{m:Mem}{x:Int}:∃s,cf (n+1) 19 [.t (.int x)] m=.ok (.c m.length) (put (m++[none]) m.length s)/\IsSt s:=by
 have hb:∀y:Int,∀k:Bool,X7 y (b2i k)=true:=λy k=>mulR (by cases k<;>decide) (by cases k<;>decide)
 refine⟨[.int ((x%1000000000000000000000000000000000000000000000000000000000000000000000000000000000000000000000000000000000000000000000000000000000000000000000000000000000000000000000000000000000000000000000000000000000000000000000000000000000000000000000000000000000000000000000000000000000000000000000000000000000000)*b2i (decide (1000000000000000000<=x))),.int (x%2147483647),.int 0],?_,⟨_,_,_,rfl⟩⟩
 simp[cf,Jf,fns,ZdP,ex,ev,evs,Res.bind,view,views,pur,cmpT,ZcH,ltT,inT,binT,addT,mulT,intT,bltT,one1,two2,bLen,bInt,bTup,bLst,bRng,frz,frzs,fin,put,mw1,mw2,mw3,mw4,hb,lim]
theorem Zcn{n:Nat}{m:Mem}{x:T}:cf (n+1) 2 [.t x] m=.ok (.t (.bl (isT x .int&&!isT x .bool))) m:=by
 rw[ZfO]
 cases x<;>simp[X4,ex,ev,Res.bind,view,pur,isT,ZcB,fin]
noncomputable def numB:T->Bool
 |.int i=>decide (0<=i)&&decide (i<=1000000000)
 |_=>false
theorem ZeI{n:Nat}{m:Mem}{x:T}:cf (n+2) 3 [.t x] m=.ok (.t (.bl (numB x))) m:=by
 rw[ZeX]
 cases x with
 |int i =>
  by_cases h:0<=i<;>simp[Jd,ex,ev,evs,Res.bind,view,pur,isT,ZcB,fin,Zcn,cmpT,ZcH,ltT,inT,numB,h,ZaI]
 |_=>simp[Jd,ex,ev,evs,Res.bind,view,pur,isT,ZcB,fin,Zcn,numB]
noncomputable def lett:List Nat:=[97,98,99,100,101,102,103,104,105,106,107,108,109,110,111,112,113,114,115,116,117,118,119,120,121,122]
noncomputable def six:List (List Nat):=[[97,110,121],[105,115],[98,121],[110,111,116],[97,110,100],[111,114]]
noncomputable def ZbF(cs:List Nat):Bool:=six.any λa=>a==cs
noncomputable def ZdV(cs:List Nat):Bool:=decide (1<=cs.length)&&decide (cs.length<=8)&&!ZbF cs&&cs.all λc=>decide (c∈lett)
theorem Zhx{n:Nat}{cs:List Nat}{m:Mem}(hl:cs.length<=lim):ev (cf n) gv J6 [some (.t (.str cs))] m=.ok (.t (.lst (cs.map λc=>.bl (decide (c∈lett))))) m:=by
 have h:=Qi (f:=Q3 (cf n) gv .nil QZ) (tg:=.nm 0) (env:=[none]) (m:=m)
  (g:=λt=>match t with|.str [c]=>[.bl (decide (c∈lett))]|_=>[]) (cs.map λc=>.str [c]) (λt ht=>by
   obtain⟨c,_,rfl⟩:=List.mem_map.mp ht
   exact⟨[some (.t (.str [c]))],rfl,by simp[Q3,tests,QZ,ev,Res.bind,view,pur,Zhc,cmpT,ZcH,ltT,inT,ZdR,frz,lett]⟩)
 have e:(cs.map λc=>T.str [c]).flatMap (λt=>match t with|.str [c]=>[T.bl (decide (c∈lett))]|_=>[])=cs.map λc=>.bl (decide (c∈lett)):=by
  rw[List.flatMap_map]
  exact JS _ _
 rw[e]at h
 exact Q9 (x:=.t (.str cs)) (m0:=m) (by simp[ev]) (by simp[ZS,Zc3,hl]) h (by simpa using hl)
theorem Zm1(cs:List Nat):hasT (.str cs) (.tup [.str [97,110,121],.str [105,115],.str [98,121],.str [110,111,116],.str [97,110,100],.str [111,114]])=some (ZbF cs):=by
 simp[hasT,flat,eqT,six,ZbF]
noncomputable def Z9(cs:List Nat):Bool:=decide (1<=cs.length)&&!ZbF cs&&cs.all λc=>decide (c∈lett)
theorem Za9{n:Nat}{m:Mem}{cs:List Nat}(hl:cs.length<=lim):cf (n+1) 0 [.t (.str cs)] m=.ok (.t (.bl (Z9 cs))) m:=by
 have e:ex (cf n) gv Qs [some (.t (.str cs))] m=.ok (.ret (.t (.bl (Z9 cs)))) m:=by
  unfold Qs
  refine Zg ?_
  by_cases h1:0<cs.length
  ·have h1':(0:Int)<cs.length:=by omega
   have h1'':(decide (1<=cs.length))=true:=decide_eq_true h1
   have hin:cmpT .NotIn (.str cs) (.tup [.str [97,110,121],.str [105,115],.str [98,121],.str [110,111,116],.str [97,110,100],.str [111,114]])=some (!ZbF cs):=by
    rcases cs with _|⟨c,_|⟨d,r⟩⟩<;>simp[cmpT,ZcH,ltT,inT,Zm1]
   cases h6:ZbF cs
   ·simp only[Z9,h1'',h6]
    simp[ev,evs,isT,Zr,EVs,Zdz hl,h1,h1',hin,h6,ZaH,Zhx hl,ZmT (ZaR _ cs)]
   ·simp[ev,evs,isT,Zr,EVs,Zdz hl,h1,h1',hin,h6,ZaH,Z9]
  ·have h1':¬(0:Int)<cs.length:=by omega
   have h1'':(decide (1<=cs.length))=false:=decide_eq_false h1
   simp only[Z9,h1'']
   simp[ev,evs,isT,Zr,EVs,Zdz hl,h1,h1']
 exact ZZ (Zcw _ _ _) rfl e (ZP (cell:=false) rfl)
theorem ZfI{n:Nat}{m:Mem}{cs:List Nat}(hl:cs.length<=lim):cf (n+2) 1 [.t (.str cs)] m=.ok (.t (.bl (ZdV cs))) m:=by
 have e:ex (cf (n+1)) gv Jc [some (.t (.str cs))] m=.ok (.ret (.t (.bl (ZdV cs)))) m:=by
  unfold Jc
  refine Zg ?_
  by_cases h8:cs.length<=8
  ·have h8':(cs.length:Int)<=8:=by omega
   have hw:ZdV cs=Z9 cs:=by simp[ZdV,Z9,h8]
   simp[ev,evs,isT,Zr,EVs,Zdz hl,h8',Xi,Za9 (n:=n) hl,hw]
  ·have h8':¬(cs.length:Int)<=8:=by omega
   simp[ev,evs,isT,Zr,EVs,Zdz hl,h8',Xi,ZdV,h8]
 exact ZZ (Zdd _ _ _) rfl e (ZP (cell:=false) rfl)
theorem Zg7{n:Nat}{m:Mem}{x:T}(h:isT x .str=false):cf (n+2) 1 [.t x] m=.ok (.t (.bl false)) m:=by
 have e:ex (cf (n+1)) gv Jc [some (.t x)] m=.ok (.ret (.t (.bl false))) m:=by
  unfold Jc
  refine Zg ?_
  cases x with
  |str cs=>cases h
  |_=>simp[ev,evs,isT,Zr,EVs]
 exact ZZ (Zdd _ _ _) rfl e (ZP (cell:=false) rfl)
theorem Zni{α:Type}(xs:List α)(lo hi:Option Int):(cut xs lo hi).length<=xs.length:=by
 unfold cut
 rw[List.length_take,List.length_drop]
 omega
theorem Znm{n:Nat}{m:Mem}{ns:List Int}:∃v:Int,cf (n+1) 18 [.t (.scr ns),.t (.int 0)] m=.ok (.t (.int v)) m:=by
 have key:∃v:Int,ex (cf n) gv ZcC [some (.t (.scr ns)),some (.t (.int 0))] m=.ok (.ret (.t (.int v))) m:=by
  unfold ZcC
  by_cases h:(0:Int)<ns.length
  ·obtain⟨v,hv,_⟩:=Znt (xs:=ns) (i:=0) (by decide) h
   exact⟨v,Zw (m1:=m) (by simp[ev,evs,isT,Zr,EVs];omega) (Zg (by simp[ev,evs,isT,Zr,EVs,hv]))⟩
  ·have h':ns=[]:=List.length_eq_zero_iff.mp (by omega)
   subst h'
   refine⟨0,?_⟩
   rw[Ze (m1:=m) (by simp[ev,evs,isT,Zr,EVs])]
   exact Zg (by simp[ev,evs,isT,Zr,EVs])
 obtain⟨v,e⟩:=key
 refine⟨v,?_⟩
 rw[ZkQ]
 simp[e,Zf,ZP]
noncomputable def fitL:T->Prop:=λt=>∀cs,t=.str cs->cs.length<=lim
noncomputable def oneOf(x:T)(ws:List (List Nat)):Bool:=match x with
 |.str cs=>ws.any λa=>a==cs
 |_=>false
theorem Zex{n:Nat}{m:Mem}{x:T}{ws:List (List Nat)}:cf (n+1) 4 [.t x,.t (.tup (ws.map .str))] m=.ok (.t (.bl (oneOf x ws))) m:=by
 have hh:∀cs,cmpT .In (.str cs) (.tup (ws.map .str))=some (ws.any λa=>a==cs):=λcs=>by
  have h1:hasT (.str cs) (.tup (ws.map .str))=some (ws.any λa=>a==cs):=by
   have ha:∀ws:List (List Nat),(ws.map T.str).all flat=true:=λws=>by simp[flat]
   have hb:∀ws:List (List Nat),((ws.map T.str).any λt=>eqT t (.str cs))=ws.any λa=>a==cs:=λws=>by
    induction ws with
    |nil=>rfl
    |cons w ws ih=>simp[eqT]at ih ⊢;rw[ih]
   unfold hasT
   dsimp only
   rw[ha,hb]
   rfl
  rw[<-h1]
  cases cs with
  |nil=>rfl
  |cons c r=>cases r<;>rfl
 rw[ZeW]
 cases x with
 |str cs=>simp[JX,ex,ev,evs,isT,Zr,EVs,hh,oneOf,fin]
 |_=>exact ZZ rfl rfl rfl (ZP (cell:=false) rfl)
noncomputable def Zhy:T->Bool
 |.str cs=>ZdV cs
 |_=>false
theorem Zc4{n:Nat}{m:Mem}{x:T}(h:fitL x):cf (n+2) 1 [.t x] m=.ok (.t (.bl (Zhy x))) m:=by
 cases x with
 |str cs=>exact ZfI (h cs rfl)
 |_=>exact Zg7 rfl
noncomputable def Zbo:T->Bool
 |.tup [a]=>oneOf a [[97,110,121]]
 |.tup [a,b]=>oneOf a [[105,115],[98,121]]&&Zhy b
 |.tup [a,b,c]=>oneOf a [[108,101,97,115,116],[109,111,115,116]]&&Zhy b&&numB c
 |_=>false
noncomputable def fit1:T->Prop
 |.tup ts=>∀t∈ts,fitL t
 |_=>True
theorem one1{n:Nat}{m:Mem}{x:T}{w:List Nat}:cf (n+1) 4 [.t x,.t (.tup [.str w])] m=.ok (.t (.bl (oneOf x [w]))) m:=Zex (ws:=[w])
theorem one2{n:Nat}{m:Mem}{x:T}{w v:List Nat}:cf (n+1) 4 [.t x,.t (.tup [.str w,.str v])] m=.ok (.t (.bl (oneOf x [w,v]))) m:=Zex (ws:=[w,v])
theorem at2{α:Type}(a b c:α)(r:List α):atT (a::b::c::r) 2=some c:=by
 have:(2:Int)<(r.length:Int)+1+1+1:=by omega
 simp[atT,ixOf,this]
theorem Zj7{n:Nat}{m:Mem}{x:T}(h:fit1 x):cf (n+3) 5 [.t x] m=.ok (.t (.bl (Zbo x))) m:=by
 have key:ex (cf (n+2)) gv Qf [some (.t x)] m=.ok (.ret (.t (.bl (Zbo x)))) m:=by
  unfold Qf
  cases x with
  |tup ts =>
   rw[Ze (m1:=m) rfl]
   match ts,h with
   |[],_ =>
    rw[Ze (m1:=m) rfl,Ze (m1:=m) rfl,Ze (m1:=m) rfl]
    exact Zg rfl
   |[a],_ =>
    exact Zw (m1:=m) rfl (Zg (by simp[ev,evs,isT,Zr,EVs,at0,one1 (n:=n+1),lim,Zbo]))
   |[a,b],h =>
    rw[Ze (m1:=m) rfl]
    have hb:=Zc4 (n:=n) (m:=m) (x:=b) (h b (by simp))
    refine Zw (m1:=m) rfl (Zg ?_)
    cases ho:oneOf a [[105,115],[98,121]]<;>simp[ev,evs,isT,Zr,EVs,at0,at1,one2 (n:=n+1),lim,Zbo,ho,hb]
   |[a,b,c],h =>
    rw[Ze (m1:=m) rfl,Ze (m1:=m) rfl]
    have hb:=Zc4 (n:=n) (m:=m) (x:=b) (h b (by simp))
    have hc:=ZeI (n:=n) (m:=m) (x:=c)
    refine Zw (m1:=m) rfl (Zg ?_)
    cases ho:oneOf a [[108,101,97,115,116],[109,111,115,116]]<;>cases hw:Zhy b<;>simp[ev,evs,isT,Zr,EVs,at0,at1,at2,one2 (n:=n+1),lim,Zbo,ho,hb,hw,hc]
   |a::b::c::d::r,_ =>
    have h1:¬(r.length:Int)+1+1+1+1=1:=by omega
    have h2:¬(r.length:Int)+1+1+1+1=2:=by omega
    have h3:¬(r.length:Int)+1+1+1+1=3:=by omega
    rw[Ze (m1:=m) (by simp[ev,evs,isT,Zr,EVs,h1]),Ze (m1:=m) (by simp[ev,evs,isT,Zr,EVs,h2]),Ze (m1:=m) (by simp[ev,evs,isT,Zr,EVs,h3])]
    exact Zg rfl
  |_=>exact Zw (m1:=m) rfl (Zg rfl)
 exact ZZ (ZbI _ _ _) rfl key (ZP (cell:=false) rfl)
noncomputable def Za8:T->Bool
 |.tup ts=>decide (2<=ts.length)&&decide (ts.length<=6)
 |_=>false
theorem ZeG{n:Nat}{m:Mem}{x:T}:cf (n+1) 6 [.t x] m=.ok (.t (.bl (Za8 x))) m:=by
 rw[ZdM]
 cases x with
 |tup ts =>
  by_cases h:2<=ts.length
  ·have h':(2:Int)<=ts.length:=by omega
   simp[QV,ex,ev,evs,isT,Zr,EVs,J4,Zac,h',Za8,h,fin]
   omega
  ·have h':¬(2:Int)<=ts.length:=by omega
   simp[QV,ex,ev,evs,isT,Zr,EVs,J4,Zac,h',Za8,h,fin]
 |_=>exact ZZ rfl rfl rfl (ZP (cell:=false) rfl)
noncomputable def kids:T->List T
 |.tup [a,b]=>if oneOf a [[110,111,116]]then[b]else if oneOf a [[97,110,100],[111,114]]&&Za8 b then(match b with
  |.tup ts=>ts
  |_=>[])else[]
 |_=>[]
theorem Zd7{n:Nat}{m:Mem}{x:T}:cf (n+2) 7 [.t x] m=.ok (.t (.tup (kids x))) m:=by
 have key:ex (cf (n+1)) gv Ja [some (.t x)] m=.ok (.ret (.t (.tup (kids x)))) m:=by
  unfold Ja
  cases x with
  |tup ts =>
   match ts with
   |[]=>exact Zw (m1:=m) rfl (Zg rfl)
   |[a]=>exact Zw (m1:=m) rfl (Zg rfl)
   |[a,b] =>
    rw[Ze (m1:=m) rfl]
    cases hn:oneOf a [[110,111,116]]with
    |true=>exact Zw (m1:=m) (by simp[ev,evs,isT,Zr,EVs,at0,one1 (n:=n),lim,hn]) (Zg (by simp[ev,evs,isT,Zr,EVs,at1,lim,kids,hn]))
    |false =>
     rw[Ze (m1:=m) (by simp[ev,evs,isT,Zr,EVs,at0,one1 (n:=n),lim,hn])]
     cases ho:oneOf a [[97,110,100],[111,114]]with
     |false =>
      rw[Ze (m1:=m) (by simp[ev,evs,isT,Zr,EVs,at0,one2 (n:=n),lim,ho])]
      exact Zg (by simp[ev,evs,isT,Zr,EVs,lim,kids,hn,ho])
     |true =>
      cases hj:Za8 b with
      |false =>
       rw[Ze (m1:=m) (by simp[ev,evs,isT,Zr,EVs,at0,at1,one2 (n:=n),lim,ho,ZeG (n:=n),hj])]
       exact Zg (by simp[ev,evs,isT,Zr,EVs,lim,kids,hn,ho,hj])
      |true =>
       refine Zw (m1:=m) (by simp[ev,evs,isT,Zr,EVs,at0,at1,one2 (n:=n),lim,ho,ZeG (n:=n),hj]) (Zg ?_)
       cases b with
       |tup ts=>simp[ev,evs,isT,Zr,EVs,at1,kids,hn,ho,hj]
       |_=>cases hj
   |a::b::c::r =>
    have h1:¬(r.length:Int)+1+1+1=2:=by omega
    exact Zw (m1:=m) (by simp[ev,evs,isT,Zr,EVs,h1]) (Zg rfl)
  |_=>exact Zw (m1:=m) rfl (Zg rfl)
 exact ZZ (ZeV _ _ _) rfl key (ZP (cell:=false) rfl)
noncomputable def Xk(x:T):Bool:=Zbo x || decide (0<(kids x).length)
theorem Zm5{n:Nat}{m:Mem}{x:T}(h:fit1 x):cf (n+4) 8 [.t x] m=.ok (.t (.bl (Xk x))) m:=by
 have key:ex (cf (n+3)) gv JC [some (.t x)] m=.ok (.ret (.t (.bl (Xk x)))) m:=by
  unfold JC
  refine Zg ?_
  cases hp:Zbo x<;>simp[ev,evs,isT,Zr,EVs,Zj7 (n:=n) h,hp,Zd7 (n:=n+1),Xk]
 exact ZZ (ZfP _ _ _) rfl key (ZP (cell:=false) rfl)
theorem ZmV(x:T):(kids x).length<=6:=by
 unfold kids
 split
 ·rename_i a b
  split
  ·simp
  ·split
   ·rename_i h
    rw[Bool.and_eq_true]at h
    cases b with
    |tup ts =>
     have:=h.2
     unfold Za8 at this
     simp at this
     exact this.2
    |_=>simp
   ·simp
 ·simp
theorem Zhf{n:Nat}{m:Mem}{l:List T}{e0 e2 e3:Option W}(hf:∀x∈l,fit1 x)(hl:l.length<=lim):ev (cf (n+4)) gv Zcy [e0,some (.t (.lst l)),e2,e3] m=.ok (.t (.lst (l.map λx=>.bl (Xk x)))) m:=by
 have h:=Qi (f:=Q3 (cf (n+4)) gv .nil Zap) (tg:=.nm 0) (env:=[none]) (m:=m) (g:=λx=>[.bl (Xk x)]) l (λt ht=>⟨[some (.t t)],rfl,by simp[Q3,tests,Zap,ev,evs,isT,Zr,EVs,Zm5 (n:=n) (hf t ht)]⟩)
 rw[JS]at h
 exact Q9 (x:=.t (.lst l)) (m0:=m) rfl rfl h (by simpa using hl)
theorem ZiC{n:Nat}{m:Mem}{x:T}:Q3 (cf (n+4)) gv .nil QL [some (.t x),none] m=.ok (kids x) m:=by
 have h:=Qi (f:=Q3 (cf (n+4)) gv .nil (.emit (.var 1))) (tg:=.nm 1) (env:=[some (.t x),none]) (m:=m) (g:=λy=>[y]) (kids x) (λt ht=>⟨[some (.t x),some (.t t)],rfl,by simp[Q3,tests,ev,evs,isT,Zr,EVs]⟩)
 rw[JS,List.map_id']at h
 have e:ev (cf (n+4)) gv QL [some (.t x),none] m=.ok (.t (.lst (kids x))) m:=by
  have e1:ev (cf (n+4)) gv QL [some (.t x),none] m=(ev (cf (n+4)) gv (.call 7 (.cons (.var 0) .nil)) [some (.t x),none] m).bind λy m0=>(ZS y m0).bind λts m =>
    (Xe (Q3 (cf (n+4)) gv .nil (.emit (.var 1))) (.nm 1) ts [some (.t x),none] m).bind λout m=>.ok (.t (.lst out)) (giveBack y m0 m):=by
   unfold QL
   rw[ev]
   rfl
  rw[e1]
  have e2:ev (cf (n+4)) gv (.call 7 (.cons (.var 0) .nil)) [some (.t x),none] m=.ok (.t (.tup (kids x))) m:=by simp[ev,evs,isT,Zr,EVs,Zd7 (n:=n+2)]
  rw[e2]
  show(Xe (Q3 (cf (n+4)) gv .nil (.emit (.var 1))) (.nm 1) (kids x) [some (.t x),none] m).bind _=_
  rw[h]
  rfl
 unfold Q3
 simp[tests,Zf,e,Zjr]
theorem ZiD{n:Nat}{m:Mem}{l:List T}{e0 e2 e3:Option W}(hl:(l.flatMap kids).length<=lim):ev (cf (n+4)) gv Zcz [e0,some (.t (.lst l)),e2,e3] m=.ok (.t (.lst (l.flatMap kids))) m:=by
 have h:=Qi (f:=Q3 (cf (n+4)) gv .nil QL) (tg:=.nm 0) (env:=[none,none]) (m:=m) (g:=kids) l (λt ht=>⟨[some (.t t),none],rfl,ZiC⟩)
 exact Q9 (x:=.t (.lst l)) (m0:=m) rfl rfl h hl
noncomputable def lay:Nat->List T->List T
 |0,l=>l
 |k+1,l=>lay k (l.flatMap kids)
noncomputable def run:Nat->Nat->List T->Option (List T)
 |0,_,l=>some l
 |k+1,p,l=>if 40<p+l.length∨l.all Xk=false then none else run k (p+l.length) (l.flatMap kids)
theorem ZkA(l:List T):(l.flatMap kids).length<=6*l.length:=by
 induction l with
 |nil=>simp
 |cons x l ih =>
  have:=ZmV x
  rw[List.flatMap_cons,List.length_append,List.length_cons]
  omega
theorem Zjq(l:List T):((l.map Xk).all id)=l.all Xk:=by rw[List.all_map];rfl
theorem layers{n:Nat}{m:Mem}{x:Option W}:∀(ts:List T) (l:List T) (p:Nat) (d:Option W),(∀k,∀y∈lay k l,fit1 y)->l.length<=lim->match run ts.length p l with
  |none=>Qh (ex (cf (n+4)) gv Zu) (.nm 3) ts [x,some (.t (.lst l)),some (.t (.int p)),d] m=.ok (.ret (.t (.bl false))) m
  |some l'=>∃p' d',Qh (ex (cf (n+4)) gv Zu) (.nm 3) ts [x,some (.t (.lst l)),some (.t (.int p)),d] m=.ok (.next [x,some (.t (.lst l')),p',d']) m
 |[],l,p,d,_,_=>⟨_,_,rfl⟩
 |t::ts,l,p,d,hf,hl=>by
  have hd:Xq (.nm 3) t [x,some (.t (.lst l)),some (.t (.int p)),d]=some [x,some (.t (.lst l)),some (.t (.int p)),some (.t t)]:=rfl
  have hfo:=Zhf (n:=n) (m:=m) (l:=l) (e0:=x) (e2:=some (.t (.int ((p:Int)+l.length)))) (e3:=some (.t t)) (λy hy=>hf 0 y hy) hl
  have ha:=ZmT (ZaR Xk l)
  rw[Zjq]at ha
  have haug:∀k,ex (cf (n+4)) gv (.aug 2 .Add (.blt .len (.cons (.var 1) .nil)) k) [x,some (.t (.lst l)),some (.t (.int p)),some (.t t)] m=ex (cf (n+4)) gv k [x,some (.t (.lst l)),some (.t (.int ((p:Int)+l.length))),some (.t t)] m:=λk=>by
   rw[ex]
   simp[ev,evs,isT,Zr,EVs,augT]
  rw[List.length_cons,run]
  by_cases hc:40<p+l.length∨l.all Xk=false
  ·rw[if_pos hc]
   show Qh _ _ _ _ _=_
   rw[Qh,hd]
   show(ex (cf (n+4)) gv Zu [x,some (.t (.lst l)),some (.t (.int p)),some (.t t)] m).bind _=_
   have e:ex (cf (n+4)) gv Zu [x,some (.t (.lst l)),some (.t (.int p)),some (.t t)] m=.ok (.ret (.t (.bl false))) m:=by
    unfold Zu
    rw[haug]
    refine Zw (m1:=m) ?_ (Zg rfl)
    by_cases h4:40<p+l.length
    ·have h4':(40:Int)<(p:Int)+l.length:=by omega
     simp[ev,evs,isT,Zr,EVs,JR,h4']
    ·have h4':¬(40:Int)<(p:Int)+l.length:=by omega
     have hal:l.all Xk=false:=by
      rcases hc with h|h
      ·exact absurd h h4
      ·exact h
     rw[hal]at ha
     simp[ev,evs,isT,Zr,EVs,JR,h4',hfo,ha]
   rw[e]
   rfl
  ·rw[if_neg hc]
   have h4:¬40<p+l.length:=λh=>hc (.inl h)
   have hal:l.all Xk=true:=by
    cases h:l.all Xk with
    |true=>rfl
    |false=>exact absurd (.inr h) hc
   have hfl:=ZkA l
   have hl2:(l.flatMap kids).length<=lim:=by unfold lim;omega
   have hk:=ZiD (n:=n) (m:=m) (e0:=x) (e2:=some (.t (.int ((p:Int)+l.length)))) (e3:=some (.t t)) hl2
   have e:ex (cf (n+4)) gv Zu [x,some (.t (.lst l)),some (.t (.int p)),some (.t t)] m=.ok (.next [x,some (.t (.lst (l.flatMap kids))),some (.t (.int ((p+l.length:Nat):Int))),some (.t t)]) m:=by
    unfold Zu
    rw[haug]
    have h4':¬(40:Int)<(p:Int)+l.length:=by omega
    rw[hal]at ha
    rw[Ze (m1:=m) (by simp[ev,evs,isT,Zr,EVs,JR,h4',hfo,ha])]
    rw[Zt hk]
    rw[ex]
    simp
   have ih:=layers (n:=n) (m:=m) (x:=x) ts (l.flatMap kids) (p+l.length) (some (.t t)) (λk y hy=>hf (k+1) y hy) hl2
   have step:Qh (ex (cf (n+4)) gv Zu) (.nm 3) (t::ts) [x,some (.t (.lst l)),some (.t (.int p)),d] m=Qh (ex (cf (n+4)) gv Zu) (.nm 3) ts [x,some (.t (.lst (l.flatMap kids))),some (.t (.int ((p+l.length:Nat):Int))),some (.t t)] m:=by
    rw[Qh,hd]
    show(ex (cf (n+4)) gv Zu [x,some (.t (.lst l)),some (.t (.int p)),some (.t t)] m).bind _=_
    rw[e]
    rfl
   rw[step]
   exact ih
noncomputable def Jj(x:T):Bool:=match run 6 0 [x]with
 |none=>false
 |some l=>l.isEmpty
theorem Zc5{n:Nat}{m:Mem}{x:T}(hf:∀k,∀y∈lay k [x],fit1 y):cf (n+5) 9 [.t x] m=.ok (.t (.bl (Jj x))) m:=by
 have key:ex (cf (n+4)) gv Xu [some (.t x),none,none,none] m=.ok (.ret (.t (.bl (Jj x)))) m:=by
  unfold Xu
  rw[Zt (w:=.t (.lst [x])) (m1:=m) rfl]
  rw[Zt (w:=.t (.int 0)) (m1:=m) rfl]
  simp only[List.set_cons_succ,List.set_cons_zero]
  have hit:ev (cf (n+4)) gv (.blt .range1 (.cons (.gl 4) .nil)) [some (.t x),some (.t (.lst [x])),some (.t (.int 0)),none] m=.ok (.t (.lst (rangeT 0 6))) m:=by
   simp[ev,evs,isT,Zr,EVs,Zhe,ZmS (show(6:Int)<2^62/\-(2^62)<=(6:Int) by decide)]
  have h:=layers (n:=n) (m:=m) (x:=some (.t x)) (rangeT 0 6) [x] 0 none hf (by show 1<=lim;decide)
  have hr:(rangeT 0 6).length=6:=rfl
  rw[hr]at h
  unfold Jj
  cases q:run 6 0 [x]with
  |none =>
   rw[q]at h
   have h:Qh (ex (cf (n+4)) gv Zu) (.nm 3) (rangeT 0 6) [some (.t x),some (.t (.lst [x])),some (.t (.int 0)),none] m=.ok (.ret (.t (.bl false))) m:=h
   rw[ex,hit]
   show(Qh (ex (cf (n+4)) gv Zu) (.nm 3) (rangeT 0 6) [some (.t x),some (.t (.lst [x])),some (.t (.int 0)),none] m).bind _=_
   rw[h]
   rfl
  |some l' =>
   rw[q]at h
   obtain⟨p',d',h⟩:=h
   have h:Qh (ex (cf (n+4)) gv Zu) (.nm 3) (rangeT 0 6) [some (.t x),some (.t (.lst [x])),some (.t (.int 0)),none] m=.ok (.next [some (.t x),some (.t (.lst l')),p',d']) m:=h
   rw[XX hit rfl h]
   refine Zg ?_
   cases l'<;>simp[ev,evs,isT,Zr,EVs,giveBack]
   omega
 exact ZZ (Zhn _ _ _) rfl key (ZP (cell:=false) rfl)
theorem ZiM(w a b:List Nat):cmpT .In (.str w) (.tup [.str a,.str b])=some (a==w || b==w):=by
 have h:hasT (.str w) (.tup [.str a,.str b])=some (a==w || b==w):=by simp[hasT,flat,eqT]
 rw[<-h]
 cases w with
 |nil=>rfl
 |cons c r=>cases r<;>rfl
noncomputable def wl(ws:List (List Nat)):T:=.lst (ws.map .str)
noncomputable def wat(ws:List (List Nat))(i:Nat):List Nat:=(ws[i]?).getD []
theorem Z6{n:Nat}{m:Mem}{ws:List (List Nat)}{k:Int}{i:Nat}(hk:k=(i:Int)):cf (n+1) 11 [.t (wl ws),.t (.int k)] m=.ok (.t (.str (wat ws i))) m:=by
 subst hk
 have key:ex (cf n) gv Xr [some (.t (wl ws)),some (.t (.int i))] m=.ok (.ret (.t (.str (wat ws i)))) m:=by
  unfold Xr
  have hc:ev (cf n) gv (.cmp .Lt (.var 1) (.blt .len (.cons (.var 0) .nil))) [some (.t (wl ws)),some (.t (.int i))] m=.ok (.t (.bl (decide (i<ws.length)))) m:=by
   refine(Zm (Za rfl) (Zv (Za rfl) (ZbE _)) (c_lt _ _)).trans ?_
   rw[List.length_map]
   congr 3
   exact decide_eq_decide.mpr (by omega)
  by_cases h:i<ws.length
  ·rw[decide_eq_true h]at hc
   refine Zw hc (Zg (Xn (Za rfl) (Za rfl) ?_))
   show atT (ws.map T.str) (i:Int)=_
   rw[at_get (by omega) (by rw[List.length_map];omega)]
   simp[wat,h]
  ·rw[decide_eq_false h]at hc
   rw[Ze hc]
   refine Zg ?_
   rw[show wat ws i=[] by simp[wat,List.getElem?_eq_none (Nat.not_lt.mp h)]]
   exact Zb _
 exact ZZ (Zhm _ _ _) rfl key (ZP (cell:=false) rfl)
theorem Zc0{n:Nat}{m:Mem}{ws:List (List Nat)}{k:Int}{i:Nat}(hk:k=(i:Int))(hl:(wat ws i).length<=lim)(hw:Z9 (wat ws i)=true):cf (n+2) 12 [.t (wl ws),.t (.int k)] m=.ok (.t (.str (wat ws i))) m:=by
 have key:ex (cf (n+1)) gv Jb [some (.t (wl ws)),some (.t (.int k)),none] m=.ok (.ret (.t (.str (wat ws i)))) m:=by
  unfold Jb
  rw[Zt ((Zn (Za rfl) (Za rfl)).trans (Z6 hk))]
  dsimp only[List.set_cons_succ,List.set_cons_zero]
  have hi:=Za9 (n:=n) (m:=m) hl
  rw[hw]at hi
  rw[Ze (Xm (k:=true) ((ZF (Za rfl)).trans hi))]
  exact Zg (Za rfl)
 exact ZZ (Zdc _ _ _) rfl key (ZP (cell:=false) rfl)
noncomputable def digs:List Nat:=[48,49,50,51,52,53,54,55,56,57]
noncomputable def figB(cs:List Nat):Bool:=decide (1<=cs.length)&&decide (cs.length<=10)&&(cs.all λc=>decide (c∈digs))&&(cs==[48] || cs.head? != some 48)
theorem ZkI{n:Nat}{cs:List Nat}{m:Mem}(hl:cs.length<=lim):ev (cf n) gv QC [some (.t (.str cs))] m=.ok (.t (.lst (cs.map λc=>.bl (decide (c∈digs))))) m:=by
 have h:=Qi (f:=Q3 (cf n) gv .nil Jk) (tg:=.nm 0) (env:=[none]) (m:=m)
  (g:=λt=>match t with|.str [c]=>[.bl (decide (c∈digs))]|_=>[]) (cs.map λc=>.str [c]) (λt ht=>by
   obtain⟨c,_,rfl⟩:=List.mem_map.mp ht
   exact⟨[some (.t (.str [c]))],rfl,turn0 (ZdE (Zm (Za rfl) (ZeR Zhd) (ZkV _ _)))⟩)
 have e:(cs.map λc=>T.str [c]).flatMap (λt=>match t with|.str [c]=>[T.bl (decide (c∈digs))]|_=>[])=cs.map λc=>.bl (decide (c∈digs)):=by
  clear h hl
  induction cs with
  |nil=>rfl
  |cons c cs ih=>rw[List.map_cons,List.flatMap_cons,ih];rfl
 rw[e]at h
 have hb:ZS (.t (.str cs)) m=.ok (cs.map λc=>.str [c]) m:=by simp[ZS,Zc3,hl]
 exact Q9 (x:=.t (.str cs)) (m0:=m) (m1:=m) (Za rfl) hb h (by rw[List.length_map];exact hl)
theorem Zcj{n:Nat}{m:Mem}{cs:List Nat}(hl:cs.length<=lim):cf (n+1) 10 [.t (.str cs)] m=.ok (.t (.bl (figB cs))) m:=by
 have key:ex (cf n) gv Z5 [some (.t (.str cs))] m=.ok (.ret (.t (.bl (figB cs)))) m:=by
  unfold Z5
  have ha:ev (cf n) gv (.not (.blt .all (.cons QC .nil))) [some (.t (.str cs))] m=.ok (.t (.bl (!(cs.all λc=>decide (c∈digs))))) m:=by
   refine(Xm (Zv (ZkI hl) (ZmT (ZaR _ _)))).trans ?_
   rw[List.all_map];rfl
  have hb:ev (cf n) gv (.chn .LtE .LtE (.con (.int 1)) (.blt .len (.cons (.var 0) .nil)) (.gl 9)) [some (.t (.str cs))] m=.ok (.t (.bl (decide (1<=cs.length)&&decide (cs.length<=10)))) m:=by
   rw[ev,Zb,Zf,Zv (Za rfl) (Zdz hl),Zf]
   simp only[view,Option.bind_some,c_le]
   by_cases h1:1<=cs.length
   ·rw[decide_eq_true (show(1:Int)<=(cs.length:Int) by omega)]
    dsimp only
    rw[ZeR Zcq,Zf]
    simp only[view,Option.bind_some,c_le,h1,decide_true,Bool.true_and,Option.map_some,pur]
    congr 3
    exact decide_eq_decide.mpr (by omega)
   ·rw[decide_eq_false (show ¬(1:Int)<=(cs.length:Int) by omega)]
    simp[h1]
  by_cases h1:(decide (1<=cs.length)&&decide (cs.length<=10))=true
  ·rw[h1]at hb
   by_cases h2:(cs.all λc=>decide (c∈digs))=true
   ·rw[h2]at ha
    rw[Ze ((J5 (Xm hb)).trans ha)]
    rw[Bool.and_eq_true]at h1
    have hlen:=of_decide_eq_true h1.1
    have hf:figB cs=(cs==[48] || cs.head? != some 48):=by
     unfold figB;rw[h1.1,h1.2,h2];rfl
    rw[hf]
    cases cs with
    |nil=>simp at hlen
    |cons c r =>
     have e1:ev (cf n) gv (.cmp .Eq (.var 0) (.con (.str [48]))) [some (.t (.str (c::r)))] m=.ok (.t (.bl (c::r==[48]))) m:=Zm (Za rfl) (Zb _) (ZbJ _ _)
     cases q:(c::r==[48])with
     |true =>
      rw[q]at e1
      exact Zg (ZeQ e1)
     |false =>
      rw[q]at e1
      refine Zg ((J5 e1).trans (Zm (Xn (Za rfl) (Zb _) ((x_str hl _).trans (by rw[at0];rfl))) (Zb _) ?_))
      rw[Zhp]
      simp[bne]
   ·rw[Bool.eq_false_iff.mpr h2]at ha
    have hf:figB cs=false:=by unfold figB;rw[Bool.eq_false_iff.mpr h2];simp
    rw[hf]
    exact Zw ((J5 (Xm hb)).trans ha) (Zg (Zb _))
  ·rw[Bool.eq_false_iff.mpr h1]at hb
   have hf:figB cs=false:=by unfold figB;rw[Bool.eq_false_iff.mpr h1];simp
   rw[hf]
   exact Zw (ZeQ (Xm hb)) (Zg (Zb _))
 exact ZZ (Zbf _ _ _) rfl key (ZP (cell:=false) rfl)
theorem ZfJ{cs:List Nat}(h:figB cs=true):bltT .int [.str cs]=some (.int (figV cs))/\cs.length<=lim:=by
 unfold figB at h
 simp only[Bool.and_eq_true,decide_eq_true_eq,List.all_eq_true]at h
 obtain⟨⟨⟨h1,h2⟩,h3⟩,_⟩:=h
 refine⟨?_,by unfold lim;omega⟩
 show(if cs≠[]/\cs.length<=600/\cs.all (λc=>decide (48<=c)&&decide (c<=57))=true then some (T.int (figV cs))else none)=_
 refine if_pos ⟨λz=>by subst z;simp at h1,by omega,List.all_eq_true.mpr λc hc=>?_⟩
 have:=h3 c hc
 unfold digs at this
 rw[Bool.and_eq_true]
 refine⟨decide_eq_true ?_,decide_eq_true ?_⟩<;>(simp at this;omega)
theorem Zez{n:Nat}{m:Mem}{ws:List (List Nat)}{k:Int}{i:Nat}(hk:k=(i:Int))(hw:figB (wat ws i)=true):cf (n+2) 13 [.t (wl ws),.t (.int k)] m=.ok (.t (.int (figV (wat ws i)))) m:=by
 have key:ex (cf (n+1)) gv Qx [some (.t (wl ws)),some (.t (.int k)),none] m=.ok (.ret (.t (.int (figV (wat ws i))))) m:=by
  unfold Qx
  rw[Zt ((Zn (Za rfl) (Za rfl)).trans (Z6 hk))]
  dsimp only[List.set_cons_succ,List.set_cons_zero]
  have hi:=Zcj (n:=n) (m:=m) (ZfJ hw).2
  rw[hw]at hi
  rw[Ze (Xm (k:=true) ((ZF (Za rfl)).trans hi))]
  exact Zg (Zv (Za rfl) (ZfJ hw).1)
 exact ZZ (Zbx _ _ _) rfl key (ZP (cell:=false) rfl)
inductive LeafW:T->List (List Nat)->Prop where
 |any:LeafW (.tup [.str [97,110,121]]) [[97,110,121]]
 |two {w v:List Nat}:(w=[105,115]∨w=[98,121])->Z9 v=true->v.length<=lim->LeafW (.tup [.str w,.str v]) [w,v]
 |three {a w v f:List Nat}:(a=[62,61]/\w=[108,101,97,115,116]∨a=[60,61]/\w=[109,111,115,116])->Z9 v=true->v.length<=lim->figB f=true->LeafW (.tup [.str w,.str v,.int (figV f)]) [v,a,f]
theorem Za4{v w:List Nat}(h:Z9 v=true)(hw:ZbF w=true):(v==w)=false:=by
 rw[Bool.eq_false_iff]
 intro z
 have:=eq_of_beq z
 subst this
 unfold Z9 at h
 rw[hw]at h
 simp at h
theorem ZmQ{v:List Nat}(h:Z9 v=true):(v==[40])=false:=by
 rw[Bool.eq_false_iff]
 intro z
 have:=eq_of_beq z
 subst this
 revert h
 decide
theorem Zks{v:List Nat}(h:Z9 v=true):(v==[41])=false:=by
 rw[Bool.eq_false_iff]
 intro z
 have:=eq_of_beq z
 subst this
 revert h
 decide
theorem ZaM{call:Nat->List W->Mem->Res W}{gv:List T}{env:Env}{m m1:Mem}{k:S}{e:E}{i j:Nat}{x y:T}(h:ev call gv e env m=.ok (.t (.tup [x,y])) m1):ex call gv (.asgT [i,j] e k) env m=ex call gv k ((env.set i (some (.t x))).set j (some (.t y))) m1:=by
 rw[ex,h];rfl
theorem ev_gdg{call:Nat->List W->Mem->Res W}{gv:List T}{env:Env}{m m1:Mem}{e:E}{k:Nat}{x r:T}{ks:List L2.Key}{vs:List T}(h:ev call gv e env m=.ok (.t x) m1)(hk:gv[k]?=some (.dct ks vs))(hr:(keyT x).bind (Qa ks vs)=some r):ev call gv (.gdg k e) env m=.ok (.t r) m1:=by
 rw[ev,h]
 show pur (gDct gv[k]? λks vs=>(keyT x).bind (Qa ks vs)) m1=_
 rw[hk]
 show pur ((keyT x).bind (Qa ks vs)) m1=_
 rw[hr];rfl
theorem Zlt{call:Nat->List W->Mem->Res W}{gv:List T}{env:Env}{m m1:Mem}{e:E}{k:Nat}{neg b:Bool}{x:T}{ks:List L2.Key}{vs:List T}(h:ev call gv e env m=.ok (.t x) m1)(hk:gv[k]?=some (.dct ks vs))(hr:((keyT x).map λk=>T.bl (if neg then !(Qa ks vs k).isSome else(Qa ks vs k).isSome))=some (.bl b)):ev call gv (.gdn k neg e) env m=.ok (.t (.bl b)) m1:=by
 rw[ev,h]
 show pur (gDct gv[k]? λks vs=>(keyT x).map λk=>T.bl (if neg then !(Qa ks vs k).isSome else(Qa ks vs k).isSome)) m1=_
 rw[hk]
 show pur ((keyT x).map λk=>T.bl (if neg then !(Qa ks vs k).isSome else(Qa ks vs k).isSome)) m1=_
 rw[hr];rfl
theorem Qv{call:Nat->List W->Mem->Res W}{gv:List T}{env:Env}{m:Mem}{i:Nat}{a b:Int}(h:env[i]?=some (some (.t (.int a)))):ev call gv (.bin .Add (.var i) (.con (.int b))) env m=.ok (.t (.int (a+b))) m:=Zi4 (Za h) (Zb _) (Znq _ _)
noncomputable abbrev Rd:=Except Nat (T×Nat)
noncomputable def noT(e:Nat):Exc:=⟨71,["at"],[.int (e:Int)]⟩
noncomputable def Back(r:Rd)(m:Mem)(res:Res W):Prop:=match r with
 |.ok p=>res=.ok (.t (.tup [p.1,.int (p.2:Int)])) m
 |.error e=>∃x,res=.exc (noT e) (m++x)
section
variable{call:Nat->List W->Mem->Res W}{gv:List T}{env:Env}{m m1 m2:Mem}{e a b c:E}{s s' k:S}{x:Exc}
theorem ZiY{i:Nat}(h:ev call gv e env m=.exc x m1):ex call gv (.asg i e k) env m=.exc x m1:=by rw[ex,h];rfl
theorem ZaL{is:List Nat}(h:ev call gv e env m=.exc x m1):ex call gv (.asgT is e k) env m=.exc x m1:=by rw[ex,h];rfl
theorem Zcs(h:ev call gv e env m=.exc x m1):ex call gv (.ret e k) env m=.exc x m1:=by rw[ex,h];rfl
theorem Xl(h:ev call gv e env m=.ok (.t (.bl true)) m1)(h2:ex call gv s env m1=.exc x m2):ex call gv (.ife e s s' k) env m=.exc x m2:=by
 rw[ex,h]
 show(ex call gv s env m1).bind _=_
 rw[h2];rfl
theorem Zbb{cl:Nat}{nm:PySem.Str}{t:T}(h:ev call gv e env m=.ok (.t t) m1):ex call gv (.rse cl [nm] (.cons e .nil) k) env m=.exc ⟨cl,[nm],[t]⟩ m1:=by
 rw[ex,evs,h,Zf,evs,Zf,Zf,Zae,Zad,Zf,Zf,if_neg (by simp)]
 exact if_pos rfl
theorem Zgp{cc:Prop}[Decidable cc]{bb:S}{kk:Nat}{cell:Bool}{X:Res W}(hX:X=if cc then(ex call gv bb env m).bind λfl m'=>fin kk cell fl m' else .stuck)(hc:cc)(key:ex call gv bb env m=.exc x m1):X=.exc x m1:=by
 rw[hX,if_pos hc,key];rfl
theorem Zgu(h:ev call gv a env m=.exc x m1):ev call gv (.tup (.cons a (.cons b .nil))) env m=.exc x m1:=by rw[ev,evs,h];rfl
theorem Zgt{y:T}(h:ev call gv a env m=.ok (.t y) m1)(h2:ev call gv b env m1=.exc x m2):ev call gv (.tup (.cons a (.cons b .nil))) env m=.exc x m2:=by rw[ev,evs,h,Zf,evs,h2];rfl
theorem ZkC{y z:T}(h:ev call gv a env m=.ok (.t y) m1)(h2:ev call gv b env m1=.ok (.t z) m2){m3:Mem}(h3:ev call gv c env m2=.exc x m3):ev call gv (.tup (.cons a (.cons b (.cons c .nil)))) env m=.exc x m3:=by rw[ev,evs,h,Zf,evs,h2,Zf,evs,h3];rfl
end
theorem Back.fn{r:Rd}{m:Mem}{cc:Prop}[Decidable cc]{bb:S}{env:Env}{call:Nat->List W->Mem->Res W}{gv:List T}{X:Res W}(hX:X=if cc then(ex call gv bb env m).bind λfl m'=>fin m.length false fl m' else .stuck)(hc:cc)(key:match r with
   |.ok p=>∃y,ex call gv bb env m=.ok (.ret (.t (.tup [p.1,.int (p.2:Int)]))) (m++y)
   |.error e=>∃y,ex call gv bb env m=.exc (noT e) (m++y)):Back r m X:=by
 cases r with
 |ok p =>
  obtain⟨y,key⟩:=key
  refine ZZ hX hc key ?_
  show Res.ok _ ((m++y).take m.length)=_
  rw[List.take_left]
 |error e =>
  obtain⟨y,key⟩:=key
  exact⟨y,Zgp hX hc key⟩
theorem ZeB{n:Nat}{m:Mem}{ws:List (List Nat)}{k:Int}{i:Nat}(hk:k=(i:Int))(hl:(wat ws i).length<=lim)(hw:Z9 (wat ws i)=false):cf (n+2) 12 [.t (wl ws),.t (.int k)] m=.exc (noT i) m:=by
 refine Zgp (Zdc _ _ _) rfl (show ex (cf (n+1)) gv Jb [some (.t (wl ws)),some (.t (.int k)),none] m=_ from ?_)
 unfold Jb
 rw[Zt ((Zn (Za rfl) (Za rfl)).trans (Z6 hk))]
 dsimp only[List.set_cons_succ,List.set_cons_zero]
 have hi:=Za9 (n:=n) (m:=m) hl
 rw[hw]at hi
 subst hk
 exact Xl (Xm (k:=false) ((ZF (Za rfl)).trans hi)) (Zbb (Za rfl))
theorem ZfA{n:Nat}{m:Mem}{ws:List (List Nat)}{k:Int}{i:Nat}(hk:k=(i:Int))(hl:(wat ws i).length<=lim)(hw:figB (wat ws i)=false):cf (n+2) 13 [.t (wl ws),.t (.int k)] m=.exc (noT i) m:=by
 refine Zgp (Zbx _ _ _) rfl (show ex (cf (n+1)) gv Qx [some (.t (wl ws)),some (.t (.int k)),none] m=_ from ?_)
 unfold Qx
 rw[Zt ((Zn (Za rfl) (Za rfl)).trans (Z6 hk))]
 dsimp only[List.set_cons_succ,List.set_cons_zero]
 have hi:=Zcj (n:=n) (m:=m) hl
 rw[hw]at hi
 subst hk
 exact Xl (Xm (k:=false) ((ZF (Za rfl)).trans hi)) (Zbb (Za rfl))
noncomputable def signOf(w:List Nat):Option (List Nat):=if w==[62,61]then some [108,101,97,115,116]else if w==[60,61]then some [109,111,115,116]else none
theorem key_eq(a w:List Nat):decide ((Sum.inr ⟨a.toArray⟩:L2.Key)=.inr ⟨w.toArray⟩)=(w==a):=by
 by_cases h:w=a
 ·subst h;simp
 ·rw[beq_eq_false_iff_ne.mpr h]
  refine decide_eq_false λz=>h ?_
  have z:=Sum.inr.inj z
  have:=congrArg (λs:PySem.Str=>s.cps.toList) z
  simpa using this.symm
theorem ZhR(w:List Nat):Qa (List.map (λk=>.inr ⟨k.toArray⟩) [[62,61],[60,61]]) [(.str [108,101,97,115,116]),(.str [109,111,115,116])] (.inr ⟨w.toArray⟩)=(signOf w).map .str:=by
 unfold Qa signOf
 simp only[List.map_cons,List.map_nil,List.zip_cons_cons,List.zip_nil_left,List.find?,key_eq]
 cases w==[62,61]<;>cases w==[60,61]<;>rfl
noncomputable def Qk(ws:List (List Nat))(i:Nat):Rd:=
 if wat ws i==[97,110,121]then .ok (.tup [.str (wat ws i)],i+1)
 else if wat ws i==[105,115] || wat ws i==[98,121]then(if Z9 (wat ws (i+1))then .ok (.tup [.str (wat ws i),.str (wat ws (i+1))],i+2)else .error (i+1))
 else if Z9 (wat ws i)then(match signOf (wat ws (i+1))with
  |none=>.error (i+1)
  |some sg=>if figB (wat ws (i+2))then .ok (.tup [.str sg,.str (wat ws i),.int (figV (wat ws (i+2)))],i+3)else .error (i+2))
 else .error i
noncomputable def Fits(ws:List (List Nat)):Prop:=∀w∈ws,w.length<=lim
theorem Fits.at{ws:List (List Nat)}(h:Fits ws)(i:Nat):(wat ws i).length<=lim:=by
 unfold wat
 cases q:ws[i]? with
 |none=>simp[lim]
 |some w=>exact h w (List.mem_of_getElem? q)
theorem Zbn{n:Nat}{m:Mem}{ws:List (List Nat)}{i:Nat}{b:Int}(hf:Fits ws)(hb:b=(i:Int)):Back (Qk ws i) m (cf (n+3) 14 [.t (wl ws),.t (.int b)] m):=by
 refine Back.fn (ZdL _ _ _) rfl (env:=[some (.t (wl ws)),some (.t (.int b)),none,none,none]) ?_
 subst hb
 have h0:∀k,ex (cf (n+2)) gv (.asg 2 (.call 11 (.cons (.var 0) (.cons (.var 1) .nil))) k) [some (.t (wl ws)),some (.t (.int (i:Int))),none,none,none] m=ex (cf (n+2)) gv k [some (.t (wl ws)),some (.t (.int (i:Int))),some (.t (.str (wat ws i))),none,none] m:=λk=>by
  rw[Zt ((Zn (Za rfl) (Za rfl)).trans (Z6 rfl))]
  rfl
 have e1:∀e3 e4,ev (cf (n+2)) gv (.cmp .Eq (.var 2) (.con (.str [97,110,121]))) [some (.t (wl ws)),some (.t (.int (i:Int))),some (.t (.str (wat ws i))),e3,e4] m=.ok (.t (.bl (wat ws i==[97,110,121]))) m:=λe3 e4=>Zm (Za rfl) (Zb _) (ZbJ _ _)
 have e2:∀e3 e4,ev (cf (n+2)) gv (.cmp .In (.var 2) (.tup (.cons (.con (.str [105,115])) (.cons (.con (.str [98,121])) .nil)))) [some (.t (wl ws)),some (.t (.int (i:Int))),some (.t (.str (wat ws i))),e3,e4] m=.ok (.t (.bl (wat ws i==[105,115] || wat ws i==[98,121]))) m:=λe3 e4 =>
  Zm (Za rfl) (ZL (Zb _) (Zb _)) (by rw[ZiM,Bool.beq_comm (a:=wat ws i),Bool.beq_comm (a:=wat ws i)])
 have p1:∀(d:Int) (j:Nat) e2 e3 e4,(i:Int)+d=(j:Int)->ev (cf (n+2)) gv (.bin .Add (.var 1) (.con (.int d))) [some (.t (wl ws)),some (.t (.int (i:Int))),e2,e3,e4] m=.ok (.t (.int (j:Int))) m:=λd j e2 e3 e4 h=>by rw[Qv rfl,h]
 unfold Jp
 rw[h0]
 unfold Qk
 cases q1:wat ws i==[97,110,121]with
 |true =>
  rw[if_pos rfl]
  have e1:=e1 none none
  rw[q1]at e1
  refine⟨[],?_⟩
  rw[List.append_nil]
  exact Zw e1 (Zg (ZL (Zna (Za rfl)) (p1 1 _ _ _ _ (by omega))))
 |false =>
  rw[if_neg (by simp)]
  have e1:=e1 none none
  rw[q1]at e1
  rw[Ze e1]
  have e2:=e2 none none
  cases q2:(wat ws i==[105,115] || wat ws i==[98,121])with
  |true =>
   rw[q2]at e2
   rw[if_pos rfl]
   cases q3:Z9 (wat ws (i+1))with
   |true =>
    rw[if_pos rfl]
    refine⟨[],?_⟩
    rw[List.append_nil]
    exact Zw e2 (Zg (ZL (ZL (Za rfl) ((Zn (Za rfl) (p1 1 (i+1) _ _ _ (by omega))).trans (Zc0 rfl (hf.at _) q3))) (p1 2 _ _ _ _ (by omega))))
   |false =>
    rw[if_neg (by simp)]
    refine⟨[],?_⟩
    rw[List.append_nil]
    exact Xl e2 (Zcs (Zgu (Zgt (Za rfl) ((Zn (Za rfl) (p1 1 (i+1) _ _ _ (by omega))).trans (ZeB rfl (hf.at _) q3)))))
  |false =>
   rw[q2]at e2
   rw[if_neg (by simp),Ze e2]
   cases q3:Z9 (wat ws i)with
   |false =>
    rw[if_neg (by simp)]
    refine⟨[],?_⟩
    rw[List.append_nil]
    exact ZiY ((Zn (Za rfl) (Za rfl)).trans (ZeB rfl (hf.at _) q3))
   |true =>
    rw[if_pos rfl]
    rw[Zt ((Zn (Za rfl) (Za rfl)).trans (Zc0 rfl (hf.at _) q3))]
    dsimp only[List.set_cons_succ,List.set_cons_zero]
    rw[Zt ((Zn (Za rfl) (p1 1 (i+1) _ _ _ (by omega))).trans (Z6 rfl))]
    dsimp only[List.set_cons_succ,List.set_cons_zero]
    have hl:=ZhR (wat ws (i+1))
    cases q4:signOf (wat ws (i+1))with
    |none =>
     rw[q4]at hl
     refine⟨[],?_⟩
     rw[List.append_nil]
     exact Xl (Zlt (b:=true) (Za rfl) ZdB (by show((some (Sum.inr _)).map _)=_;rw[Option.map_some,hl];rfl)) (Zbb (p1 1 (i+1) _ _ _ (by omega)))
    |some sg =>
     rw[q4]at hl
     rw[Ze (Zlt (b:=false) (Za rfl) ZdB (by show((some (Sum.inr _)).map _)=_;rw[Option.map_some,hl];rfl))]
     have hg:∀e2 e3,ev (cf (n+2)) gv (.gdg 11 (.var 4)) [some (.t (wl ws)),some (.t (.int (i:Int))),e2,e3,some (.t (.str (wat ws (i+1))))] m=.ok (.t (.str sg)) m:=λe2 e3=>ev_gdg (Za rfl) ZdB hl
     dsimp only
     cases q5:figB (wat ws (i+2))with
     |true =>
      rw[if_pos rfl]
      refine⟨[],?_⟩
      rw[List.append_nil]
      exact Zg (ZL (ZfK (hg _ _) (Za rfl) ((Zn (Za rfl) (p1 2 (i+2) _ _ _ (by omega))).trans (Zez rfl q5))) (p1 3 _ _ _ _ (by omega)))
     |false =>
      rw[if_neg (by simp)]
      refine⟨[],?_⟩
      rw[List.append_nil]
      exact Zcs (Zgu (ZkC (hg _ _) (Za rfl) ((Zn (Za rfl) (p1 2 (i+2) _ _ _ (by omega))).trans (ZfA rfl (hf.at _) q5))))
noncomputable def Jof(s:List Nat)(P:T->List (List Nat)->Prop)(t:T)(ws:List (List Nat)):Prop:=
 P t ws∨∃(q:T×List (List Nat)) (qs:List (T×List (List Nat))),qs≠[]/\P q.1 q.2/\(∀p∈qs,P p.1 p.2)/\t=.tup [.str s,.tup (q.1::qs.map (·.1))]/\ws=q.2++qs.flatMap λp=>s::p.2
noncomputable def G1:Nat->T->List (List Nat)->Prop
 |0=>LeafW
 |k+1=>λt ws=>LeafW t ws∨(∃t' ws',G1 k t' ws'/\t=.tup [.str [110,111,116],t']/\ws=[110,111,116]::ws')∨∃ws',Jof [111,114] (Jof [97,110,100] (G1 k)) t ws'/\ws=[40]::(ws'++[[41]])
noncomputable abbrev GA(k:Nat):=Jof [97,110,100] (G1 k)
noncomputable abbrev GO(k:Nat):=Jof [111,114] (GA k)
theorem Zdi{c:Env->Mem->Res Bool}{f:Env->Mem->Res Flow}{n:Nat}{env env':Env}{m m1 m2:Mem}(h1:c env m=.ok true m1)(h2:f env m1=.ok (.next env') m2):Qz c f (n+1) env m=Qz c f n env' m2:=by
 rw[Qz,h1]
 show(f env m1).bind _=_
 rw[h2];rfl
theorem ZbK{c:Env->Mem->Res Bool}{f:Env->Mem->Res Flow}{n:Nat}{env:Env}{m m1:Mem}(h1:c env m=.ok false m1):Qz c f (n+1) env m=.ok (.next env) m1:=by
 rw[Qz,h1];rfl
theorem Zne{m:Mem}{ts:List T}{t:T}(hl:ts.length<lim):doM .append (.c m.length) [.t t] (m++[some (false,ts)])=.ok (.t .non) (m++[some (false,ts++[t])]):=by
 have hg:(m++[some (false,ts)])[m.length]?=some (some (false,ts)):=by rw[List.getElem?_append_right (Nat.le_refl _),Nat.sub_self];rfl
 unfold doM
 dsimp only
 rw[Zae,Zad,Zf,Zf,hg]
 dsimp only
 unfold mutM
 dsimp only
 rw[if_pos hl]
 dsimp only
 rw[List.set_append_right _ _ (Nat.le_refl _),Nat.sub_self]
 rfl
theorem ZaK{m:Mem}{c:Option (Bool×List T)}:(m++[c])[m.length]?=some c:=by rw[List.getElem?_append_right (Nat.le_refl _),Nat.sub_self];rfl
theorem Zlu{call:Nat->List W->Mem->Res W}{gv:List T}{env:Env}{m:Mem}{i j:Nat}{ts:List T}{t:T}(hi:env[i]?=some (some (.c m.length)))(hj:env[j]?=some (some (.t t)))(hl:ts.length<lim):ev call gv (.mth .append (.var i) (.cons (.var j) .nil)) env (m++[some (false,ts)])=.ok (.t .non) (m++[some (false,ts++[t])]):=by
 rw[ev,Za hi,Zf]
 rw[show tyM .append (.c m.length) (m++[some (false,ts)])=true by unfold tyM;dsimp only;rw[ZaK]]
 rw[if_pos rfl,evs,Za hj,Zf,evs,Zf,Zf]
 exact Zne hl
theorem Jm{call:Nat->List W->Mem->Res W}{gv:List T}{env:Env}{m m1 m2 m3 m4:Mem}{f:Nat}{a b c d:E}{w w1 w2 w3:W}(h1:ev call gv a env m=.ok w m1)(h2:ev call gv b env m1=.ok w1 m2)(h3:ev call gv c env m2=.ok w2 m3)(h4:ev call gv d env m3=.ok w3 m4):ev call gv (.call f (.cons a (.cons b (.cons c (.cons d .nil))))) env m=call f [w,w1,w2,w3] m4:=by
 simp only[ev,evs,h1,h2,h3,h4,Zf]
section
variable{N:Nat}{s:List Nat}{rest:List T}{P:T->List (List Nat)->Prop}{I:List Nat->Prop}{wi:Int}
noncomputable def Reads(N:Nat)(rest:List T)(wi:Int)(P:T->List (List Nat)->Prop)(I:List Nat->Prop):Prop:=
 ∀(m:Mem) (t:T) (pre mid post:List (List Nat)) (b:Int),P t mid->mid.length<900000->I (wat post 0)->b=(pre.length:Int)->cf N 16 [.t (wl (pre++mid++post)),.t (.int b),.t (.int wi),.t (.tup rest)] m=.ok (.t (.tup [t,.int ((pre.length+mid.length:Nat):Int)])) m
theorem XQ(s:List Nat)(rest:List T):slT (.tup (.str s::rest)) (some 1) none=some (.tup rest):=by
 show some (T.tup (cut (T.str s::rest) (some 1) none))=_
 simp only[cut,ZcK,List.length_cons]
 rw[if_neg (by decide),show min (1:Int).toNat (rest.length+1)=1 by simp]
 simp
theorem ZdO{call:Nat->List W->Mem->Res W}{gv:List T}{env:Env}{m:Mem}{i:Nat}{ts:List T}{bb:B}{r:T}(hi:env[i]?=some (some (.c m.length)))(hr:bltT bb [.lst ts]=some r):ev call gv (.blt bb (.cons (.var i) .nil)) env (m++[some (false,ts)])=.ok (.t r) (m++[some (false,ts)]):=
 Zi2 (Qy (Za hi) ZcI) (show views [.c m.length] (m++[some (false,ts)])=some [.lst ts] by unfold views views view;dsimp only;rw[ZaK];rfl) hr
end
noncomputable def JN:List T:=[.str [111,114],.str [97,110,100]]
theorem ZeA(w a b:List Nat):cmpT .NotIn (.str w) (.tup [.str a,.str b])=some (!(a==w || b==w)):=by
 show(inT (.str w) (.tup [.str a,.str b])).map (!·)=_
 rw[show inT (.str w) (.tup [.str a,.str b])=some (a==w || b==w)from ZiM w a b]
 rfl
noncomputable def Z2(s:List Nat)(f:Nat->Rd)(ws:List (List Nat)):Nat->List T->Nat->Except Nat (List T×Nat)
 |0,acc,b=>.ok (acc,b)
 |n+1,acc,b=>if wat ws b==s then(match f (b+1)with
  |.error e=>.error e
  |.ok p=>Z2 s f ws n (acc++[p.1]) p.2)else .ok (acc,b)
noncomputable def Zg6(s:List Nat):List T->T
 |[t]=>t
 |acc=>.tup [.str s,.tup acc]
noncomputable def Z3(s:List Nat)(f:Nat->Rd)(ws:List (List Nat))(i:Nat):Rd:=match f i with
 |.error e=>.error e
 |.ok p=>match Z2 s f ws ws.length [p.1] p.2 with
  |.error e=>.error e
  |.ok q=>.ok (Zg6 s q.1,q.2)
noncomputable def QG:Nat->List (List Nat)->Nat->Rd
 |0,ws,i=>if wat ws i==[110,111,116] || wat ws i==[40]then .error i else Qk ws i
 |k+1,ws,i=>if wat ws i==[110,111,116] || wat ws i==[40]then
   (if wat ws i==[110,111,116]then(match QG k ws (i+1)with
    |.error e=>.error e
    |.ok p=>.ok (.tup [.str [110,111,116],p.1],p.2))
   else(match Z3 [111,114] (Z3 [97,110,100] (QG k ws) ws) ws (i+1)with
    |.error e=>.error e
    |.ok p=>if wat ws p.2==[41]then .ok (p.1,p.2+1)else .error p.2))
  else Qk ws i
noncomputable abbrev rdAnd(k:Nat)(ws:List (List Nat)):Nat->Rd:=Z3 [97,110,100] (QG k ws) ws
noncomputable abbrev rdOr(k:Nat)(ws:List (List Nat)):Nat->Rd:=Z3 [111,114] (rdAnd k ws) ws
noncomputable def Adv(f:Nat->Rd):Prop:=∀i p,f i=.ok p->i<p.2
theorem Ze7(ws:List (List Nat)):Adv (Qk ws):=by
 intro i p h
 unfold Qk at h
 split at h
 ·cases h;exact Nat.lt_succ_self _
 ·split at h
  ·split at h
   ·cases h;show i<i+2;omega
   ·cases h
  ·split at h
   ·split at h
    ·cases h
    ·split at h
     ·cases h;show i<i+3;omega
     ·cases h
   ·cases h
theorem ZkW{s:List Nat}{f:Nat->Rd}{ws:List (List Nat)}(hf:Adv f):∀(n:Nat) (acc:List T) (b:Nat) (q:List T×Nat),Z2 s f ws n acc b=.ok q->b<=q.2:=by
 intro n
 induction n with
 |zero=>intro acc b q h;cases h;exact Nat.le_refl _
 |succ n ih =>
  intro acc b q h
  rw[Z2]at h
  split at h
  ·split at h
   ·cases h
   ·rename_i p hp
    have h1:=hf _ _ hp
    have h2:=ih _ _ _ h
    omega
  ·cases h;exact Nat.le_refl _
theorem Zb1{s:List Nat}{f:Nat->Rd}{ws:List (List Nat)}(hf:Adv f):Adv (Z3 s f ws):=by
 intro i p h
 unfold Z3 at h
 split at h
 ·cases h
 ·rename_i p1 h1
  split at h
  ·cases h
  ·rename_i q h2
   cases h
   have:=hf _ _ h1
   have:=ZkW hf _ _ _ _ h2
   show i<q.2
   omega
theorem ZdS(ws:List (List Nat)):∀k,Adv (QG k ws):=by
 intro k
 induction k with
 |zero =>
  intro i p h
  rw[QG]at h
  split at h
  ·cases h
  ·exact Ze7 ws i p h
 |succ k ih =>
  intro i p h
  rw[QG]at h
  split at h
  ·split at h
   ·split at h
    ·cases h
    ·rename_i p1 h1
     cases h
     have:=ih _ _ h1
     show i<p1.2
     omega
   ·split at h
    ·cases h
    ·rename_i p1 h1
     split at h
     ·cases h
      have:=Zb1 (Zb1 ih) _ _ h1
      show i<p1.2+1
      omega
     ·cases h
  ·exact Ze7 ws i p h
section
variable{N:Nat}{s:List Nat}{rest:List T}{wi:Int}{ws:List (List Nat)}{f:Nat->Rd}
noncomputable def RJ(N:Nat)(rest:List T)(wi:Int)(ws:List (List Nat))(f:Nat->Rd):Prop:=
 ∀(m:Mem) (i:Nat) (b:Int),b=(i:Int)->Back (f i) m (cf N 16 [.t (wl ws),.t (.int b),.t (.int wi),.t (.tup rest)] m)
noncomputable def RO(N:Nat)(wi:Int)(ws:List (List Nat))(f:Nat->Rd):Prop:=
 ∀(m:Mem) (i:Nat) (b:Int),b=(i:Int)->Back (f i) m (cf N 15 [.t (wl ws),.t (.int b),.t (.int wi)] m)
theorem Zdk{i:Nat}(h:ws.length<=i):wat ws i=[]:=by simp[wat,List.getElem?_eq_none h]
theorem loop_x(R:RJ (N+1) rest wi ws f)(hf:Adv f)(hs:s≠[]){e1:Option W}{m:Mem}:∀(n fu:Nat) (acc:List T) (t:T) (b:Nat),acc.getLast?=some t->ws.length<=n+b->n<fu->acc.length+n<1000000 ->
  match Z2 s f ws n acc b with
  |.ok q=>∃t',q.1.getLast?=some t'/\q.1≠[]/\Qz (λenv m=>(ev (cf (N+1)) gv (.cmp .Eq (.call 11 (.cons (.var 0) (.cons (.var 5) .nil))) (.ix (.var 3) (.con (.int 0)))) env m).bind ZQ) (λenv m=>ex (cf (N+1)) gv Zy env m) fu
    [some (.t (wl ws)),e1,some (.t (.int wi)),some (.t (.tup (.str s::rest))),some (.t t),some (.t (.int (b:Int))),some (.c m.length)] (m++[some (false,acc)]) =
    .ok (.next [some (.t (wl ws)),e1,some (.t (.int wi)),some (.t (.tup (.str s::rest))),some (.t t'),some (.t (.int (q.2:Int))),some (.c m.length)]) (m++[some (false,q.1)])
  |.error e=>∃x,Qz (λenv m=>(ev (cf (N+1)) gv (.cmp .Eq (.call 11 (.cons (.var 0) (.cons (.var 5) .nil))) (.ix (.var 3) (.con (.int 0)))) env m).bind ZQ) (λenv m=>ex (cf (N+1)) gv Zy env m) fu
    [some (.t (wl ws)),e1,some (.t (.int wi)),some (.t (.tup (.str s::rest))),some (.t t),some (.t (.int (b:Int))),some (.c m.length)] (m++[some (false,acc)])=.exc (noT e) (m++x):=by
 have cond:∀{b:Nat}{t:T}{ts:List T},(ev (cf (N+1)) gv (.cmp .Eq (.call 11 (.cons (.var 0) (.cons (.var 5) .nil))) (.ix (.var 3) (.con (.int 0)))) [some (.t (wl ws)),e1,some (.t (.int wi)),some (.t (.tup (.str s::rest))),some (.t t),some (.t (.int (b:Int))),some (.c m.length)] (m++[some (false,ts)])).bind ZQ=.ok (wat ws b==s) (m++[some (false,ts)]):=λ{b t ts}=>by
  have h0:ixT (.tup (.str s::rest)) (.int 0)=some (.str s):=at0 _ _
  rw[Zm ((Zn (Za rfl) (Za rfl)).trans (Z6 rfl)) (Xn (Za rfl) (Zb _) h0) (ZbJ _ _)]
  rfl
 have ne:∀{acc:List T}{t:T},acc.getLast?=some t->acc≠[]:=λ{acc t} h z=>by rw[z]at h;cases h
 intro n
 induction n with
 |zero =>
  intro fu acc t b ht hb hfu hl
  obtain⟨fu,rfl⟩:∃g,fu=g+1:=⟨fu-1,by omega⟩
  have hw:(wat ws b==s)=false:=by
   rw[Zdk (by omega)]
   exact beq_eq_false_iff_ne.mpr (Ne.symm hs)
  have c1:=cond (b:=b) (t:=t) (ts:=acc)
  rw[hw]at c1
  exact⟨t,ht,ne ht,ZbK c1⟩
 |succ n ih =>
  intro fu acc t b ht hb hfu hl
  obtain⟨fu,rfl⟩:∃g,fu=g+1:=⟨fu-1,by omega⟩
  rw[Z2]
  have c1:=cond (b:=b) (t:=t) (ts:=acc)
  cases hw:wat ws b==s with
  |false =>
   rw[hw]at c1
   rw[if_neg (by simp)]
   exact⟨t,ht,ne ht,ZbK c1⟩
  |true =>
   rw[hw]at c1
   rw[if_pos rfl]
   have hr:=R (m++[some (false,acc)]) (b+1) ((b:Int)+1) (by omega)
   cases hq:f (b+1)with
   |error e =>
    rw[hq]at hr
    obtain⟨x,hr⟩:=hr
    refine⟨[some (false,acc)]++x,?_⟩
    rw[Qz,c1]
    show(ex (cf (N+1)) gv Zy _ _).bind _=_
    rw[show ex (cf (N+1)) gv Zy [some (.t (wl ws)),e1,some (.t (.int wi)),some (.t (.tup (.str s::rest))),some (.t t),some (.t (.int (b:Int))),some (.c m.length)] (m++[some (false,acc)])=.exc (noT e) (m++[some (false,acc)]++x) by
     unfold Zy
     exact ZaL ((Jm (Za rfl) (Qv rfl) (Za rfl) (Zct (Za rfl) (Zb _) (XQ s rest))).trans hr)]
    rw[List.append_assoc]
    rfl
   |ok p =>
    rw[hq]at hr
    have hr:_=_:=hr
    have hadv:=hf _ _ hq
    have hbody:ex (cf (N+1)) gv Zy [some (.t (wl ws)),e1,some (.t (.int wi)),some (.t (.tup (.str s::rest))),some (.t t),some (.t (.int (b:Int))),some (.c m.length)] (m++[some (false,acc)]) =
      .ok (.next [some (.t (wl ws)),e1,some (.t (.int wi)),some (.t (.tup (.str s::rest))),some (.t p.1),some (.t (.int (p.2:Int))),some (.c m.length)]) (m++[some (false,acc++[p.1])]):=by
     unfold Zy
     rw[ZaM ((Jm (Za rfl) (Qv rfl) (Za rfl) (Zct (Za rfl) (Zb _) (XQ s rest))).trans hr)]
     dsimp only[List.set_cons_succ,List.set_cons_zero]
     rw[Zbc (Zlu rfl rfl (by unfold lim;omega)),ex]
    have h2:=ih fu (acc++[p.1]) p.1 p.2 (by simp) (by omega) (by omega) (by rw[List.length_append,List.length_singleton];omega)
    show match Z2 s f ws n (acc++[p.1]) p.2 with
     |.ok q=>_
     |.error e=>_
    cases hl2:Z2 s f ws n (acc++[p.1]) p.2 with
    |ok q =>
     rw[hl2]at h2
     obtain⟨t',h3,h4,h5⟩:=h2
     exact⟨t',h3,h4,(Zdi c1 hbody).trans h5⟩
    |error e =>
     rw[hl2]at h2
     obtain⟨x,h5⟩:=h2
     exact⟨x,(Zdi c1 hbody).trans h5⟩
theorem Zli(R:RJ (N+1) rest wi ws f)(hf:Adv f)(hs:s≠[])(hl:ws.length<900000):RJ (N+2) (.str s::rest) wi ws (Z3 s f ws):=by
 intro m i b hb
 refine Back.fn (Zah _ _ _) rfl (env:=[some (.t (wl ws)),some (.t (.int b)),some (.t (.int wi)),some (.t (.tup (.str s::rest))),none,none,none]) ?_
 have hr:=R m i b hb
 have h0:∀k,ex (cf (N+1)) gv (.ife (.cmp .Eq (.blt .len (.cons (.var 3) .nil)) (.con (.int 0))) (.ret (.call 15 (.cons (.var 0) (.cons (.var 1) (.cons (.var 2) .nil)))) .done) .done k) [some (.t (wl ws)),some (.t (.int b)),some (.t (.int wi)),some (.t (.tup (.str s::rest))),none,none,none] m=ex (cf (N+1)) gv k [some (.t (wl ws)),some (.t (.int b)),some (.t (.int wi)),some (.t (.tup (.str s::rest))),none,none,none] m:=λk =>
  Ze (m1:=m) (Zm (k:=false) (Zv (Za rfl) (ZmR _)) (Zb _) (by rw[Ze0];simp;omega))
 unfold QD
 rw[h0]
 unfold Z3
 cases hq:f i with
 |error e =>
  rw[hq]at hr
  obtain⟨x,hr⟩:=hr
  exact⟨x,ZaL ((Jm (Za rfl) (Za rfl) (Za rfl) (Zct (Za rfl) (Zb _) (XQ s rest))).trans hr)⟩
 |ok p =>
  rw[hq]at hr
  have hr:_=_:=hr
  rw[ZaM ((Jm (Za rfl) (Za rfl) (Za rfl) (Zct (Za rfl) (Zb _) (XQ s rest))).trans hr)]
  dsimp only[List.set_cons_succ,List.set_cons_zero]
  rw[Zt (show ev (cf (N+1)) gv (.cel (.cons (.var 4) .nil)) _ m=.ok (.c m.length) (m++[some (false,[p.1])]) by rw[ev,Qy (Za rfl) ZcI,Zf,Zae,Zad,Zf,Zf,if_pos (by simp[lim])])]
  dsimp only[List.set_cons_succ,List.set_cons_zero]
  have hlp:=loop_x (e1:=some (.t (.int b))) (m:=m) R hf hs ws.length turns [p.1] p.1 p.2 rfl (by omega) (by unfold turns;omega) (by simp;omega)
  rw[ex]
  cases hq2:Z2 s f ws ws.length [p.1] p.2 with
  |error e =>
   rw[hq2]at hlp
   obtain⟨x,hlp⟩:=hlp
   exact⟨x,by rw[hlp];rfl⟩
  |ok q =>
   rw[hq2]at hlp
   obtain⟨t',h1,h2,hlp⟩:=hlp
   refine⟨[some (false,q.1)],?_⟩
   rw[hlp,Zf]
   dsimp only
   have hc:ev (cf (N+1)) gv (.cmp .Eq (.blt .len (.cons (.var 6) .nil)) (.con (.int 1))) [some (.t (wl ws)),some (.t (.int b)),some (.t (.int wi)),some (.t (.tup (.str s::rest))),some (.t t'),some (.t (.int (q.2:Int))),some (.c m.length)] (m++[some (false,q.1)])=.ok (.t (.bl ((q.1.length:Int)==1))) (m++[some (false,q.1)]):=
    Zm (ZdO rfl (ZbE _)) (Zb _) (Ze0 _ _)
   have many:q.1.length≠1->ex (cf (N+1)) gv (.ife (.cmp .Eq (.blt .len (.cons (.var 6) .nil)) (.con (.int 1))) (.ret (.tup (.cons (.var 4) (.cons (.var 5) .nil))) .done) .done (.ret (.tup (.cons (.tup (.cons (.ix (.var 3) (.con (.int 0))) (.cons (.blt .tuple (.cons (.var 6) .nil)) .nil))) (.cons (.var 5) .nil))) .done)) [some (.t (wl ws)),some (.t (.int b)),some (.t (.int wi)),some (.t (.tup (.str s::rest))),some (.t t'),some (.t (.int (q.2:Int))),some (.c m.length)] (m++[some (false,q.1)])=.ok (.ret (.t (.tup [.tup [.str s,.tup q.1],.int (q.2:Int)]))) (m++[some (false,q.1)]):=λhn=>by
    rw[show((q.1.length:Int)==1)=false from by rw[beq_eq_false_iff_ne];omega]at hc
    rw[Ze hc]
    have h0:ixT (.tup (.str s::rest)) (.int 0)=some (.str s):=at0 _ _
    exact Zg (ZL (ZL (Xn (Za rfl) (Zb _) h0) (ZdO rfl (Zgk _))) (Za rfl))
   obtain⟨ac,bb⟩:=q
   dsimp only at *
   match ac,h1,h2 with
   |[],h1,h2=>exact absurd rfl h2
   |[x],h1,h2 =>
    cases h1
    exact Zw hc (Zg (ZL (Za rfl) (Za rfl)))
   |x::y::r,h1,h2=>exact many (by simp)
theorem base_x(R:RO N wi ws f):RJ (N+1) [] wi ws f:=by
 intro m i b hb
 refine Back.fn (Zah _ _ _) rfl (env:=[some (.t (wl ws)),some (.t (.int b)),some (.t (.int wi)),some (.t (.tup [])),none,none,none]) ?_
 have hr:=R m i b hb
 have hc:ev (cf N) gv (.cmp .Eq (.blt .len (.cons (.var 3) .nil)) (.con (.int 0))) [some (.t (wl ws)),some (.t (.int b)),some (.t (.int wi)),some (.t (.tup [])),none,none,none] m=.ok (.t (.bl true)) m:=Zm (k:=true) (Zv (Za rfl) (ZmR _)) (Zb _) rfl
 unfold QD
 cases hq:f i with
 |error e =>
  rw[hq]at hr
  obtain⟨x,hr⟩:=hr
  exact⟨x,Xl hc (Zcs ((Jo (Za rfl) (Za rfl) (Za rfl)).trans hr))⟩
 |ok p =>
  rw[hq]at hr
  have hr:_=_:=hr
  exact⟨[],by rw[List.append_nil];exact Zw hc (Zg ((Jo (Za rfl) (Za rfl) (Za rfl)).trans hr))⟩
theorem or_x(R:RO N wi ws f)(hf:Adv f)(hl:ws.length<900000):RJ (N+3) JN wi ws (Z3 [111,114] (Z3 [97,110,100] f ws) ws):=
 Zli (Zli (base_x R) hf (by simp) hl) (Zb1 hf) (by simp) hl
end
section
variable{ws:List (List Nat)}
theorem one_x(hF:Fits ws)(hl:ws.length<900000):∀(k n:Nat) (wi:Int),0<=wi->wi+k=12->RO (n+4*k+4) wi ws (QG k ws):=by
 intro k
 induction k with
 |zero =>
  intro n wi h0 h1 m i b hb
  refine Back.fn (Zcv _ _ _) rfl (env:=[some (.t (wl ws)),some (.t (.int b)),some (.t (.int wi)),none,none,none]) ?_
  have hp:=Zbn (n:=n) (m:=m) hF hb
  have hc:ev (cf (n+3)) gv (.cmp .NotIn (.var 3) (.tup (.cons (.con (.str [110,111,116])) (.cons (.con (.str [40])) .nil)))) [some (.t (wl ws)),some (.t (.int b)),some (.t (.int wi)),some (.t (.str (wat ws i))),none,none] m=.ok (.t (.bl (!(wat ws i==[110,111,116] || wat ws i==[40])))) m:=
   Zm (Za rfl) (ZL (Zb _) (Zb _)) (by rw[ZeA,Bool.beq_comm (a:=wat ws i),Bool.beq_comm (a:=wat ws i)])
  unfold JB
  rw[Zt ((Zn (Za rfl) (Za rfl)).trans (Z6 hb))]
  dsimp only[List.set_cons_succ,List.set_cons_zero]
  rw[QG]
  cases q:(wat ws i==[110,111,116] || wat ws i==[40])with
  |true =>
   rw[q]at hc
   rw[if_pos rfl,Ze hc]
   refine⟨[],?_⟩
   rw[List.append_nil]
   subst hb
   exact Xl (m1:=m) (Zm (k:=true) (Za rfl) (ZeR Zab) (by rw[Ze0];simp;omega)) (Zbb (Za rfl))
  |false =>
   rw[q]at hc
   rw[if_neg (by simp)]
   cases hq:Qk ws i with
   |error e =>
    rw[hq]at hp
    obtain⟨x,hp⟩:=hp
    exact⟨x,Xl hc (Zcs ((Zn (Za rfl) (Za rfl)).trans hp))⟩
   |ok p =>
    rw[hq]at hp
    have hp:_=_:=hp
    exact⟨[],by rw[List.append_nil];exact Zw hc (Zg ((Zn (Za rfl) (Za rfl)).trans hp))⟩
 |succ k ih =>
  intro n wi h0 h1 m i b hb
  refine Back.fn (Zcv _ _ _) rfl (env:=[some (.t (wl ws)),some (.t (.int b)),some (.t (.int wi)),none,none,none]) ?_
  have hp:=Zbn (n:=n+4*(k+1)) (m:=m) hF hb
  have hc:ev (cf (n+4*(k+1)+3)) gv (.cmp .NotIn (.var 3) (.tup (.cons (.con (.str [110,111,116])) (.cons (.con (.str [40])) .nil)))) [some (.t (wl ws)),some (.t (.int b)),some (.t (.int wi)),some (.t (.str (wat ws i))),none,none] m=.ok (.t (.bl (!(wat ws i==[110,111,116] || wat ws i==[40])))) m:=
   Zm (Za rfl) (ZL (Zb _) (Zb _)) (by rw[ZeA,Bool.beq_comm (a:=wat ws i),Bool.beq_comm (a:=wat ws i)])
  have hwi:(wi==12)=false:=by rw[beq_eq_false_iff_ne];omega
  unfold JB
  rw[Zt ((Zn (Za rfl) (Za rfl)).trans (Z6 hb))]
  dsimp only[List.set_cons_succ,List.set_cons_zero]
  rw[QG]
  cases q:(wat ws i==[110,111,116] || wat ws i==[40])with
  |false =>
   rw[q]at hc
   rw[if_neg (by simp)]
   cases hq:Qk ws i with
   |error e =>
    rw[hq]at hp
    obtain⟨x,hp⟩:=hp
    exact⟨x,Xl hc (Zcs ((Zn (Za rfl) (Za rfl)).trans hp))⟩
   |ok p =>
    rw[hq]at hp
    have hp:_=_:=hp
    exact⟨[],by rw[List.append_nil];exact Zw hc (Zg ((Zn (Za rfl) (Za rfl)).trans hp))⟩
  |true =>
   rw[q]at hc
   rw[if_pos rfl,Ze hc]
   rw[Ze (m1:=m) (Zm (k:=false) (Za rfl) (ZeR Zab) (by rw[Ze0,hwi]))]
   have hn:ev (cf (n+4*(k+1)+3)) gv (.cmp .Eq (.var 3) (.con (.str [110,111,116]))) [some (.t (wl ws)),some (.t (.int b)),some (.t (.int wi)),some (.t (.str (wat ws i))),none,none] m=.ok (.t (.bl (wat ws i==[110,111,116]))) m:=Zm (Za rfl) (Zb _) (ZbJ _ _)
   cases q2:(wat ws i==[110,111,116])with
   |true =>
    rw[q2]at hn
    rw[if_pos rfl]
    have hr:=ih (n+3) (wi+1) (by omega) (by omega) m (i+1) (b+1) (by omega)
    have e0:n+4*(k+1)+3=n+3+4*k+4:=by omega
    rw[e0]at hn ⊢
    cases hq:QG k ws (i+1)with
    |error e =>
     rw[hq]at hr
     obtain⟨x,hr⟩:=hr
     exact⟨x,Xl hn (ZaL ((Jo (Za rfl) (Qv rfl) (Qv rfl)).trans hr))⟩
    |ok p =>
     rw[hq]at hr
     have hr:_=_:=hr
     refine⟨[],?_⟩
     rw[List.append_nil]
     refine Zw hn ?_
     rw[ZaM ((Jo (Za rfl) (Qv rfl) (Qv rfl)).trans hr)]
     dsimp only[List.set_cons_succ,List.set_cons_zero]
     exact Zg (ZL (ZL (Zb _) (Za rfl)) (Za rfl))
   |false =>
    rw[q2]at hn
    rw[if_neg (by simp),Ze hn]
    have hr:=or_x (ih n (wi+1) (by omega) (by omega)) (ZdS ws k) hl m (i+1) (b+1) (by omega)
    have e0:n+4*(k+1)+3=n+4*k+4+3:=by omega
    rw[e0]
    cases hq:Z3 [111,114] (Z3 [97,110,100] (QG k ws) ws) ws (i+1)with
    |error e =>
     rw[hq]at hr
     obtain⟨x,hr⟩:=hr
     exact⟨x,ZaL ((Jm (Za rfl) (Qv rfl) (Qv rfl) (ZeR ZbU)).trans hr)⟩
    |ok p =>
     rw[hq]at hr
     have hr:_=_:=hr
     rw[ZaM ((Jm (Za rfl) (Qv rfl) (Qv rfl) (ZeR ZbU)).trans hr)]
     dsimp only[List.set_cons_succ,List.set_cons_zero]
     have h3:ev (cf (n+4*k+4+3)) gv (.cmp .NotEq (.call 11 (.cons (.var 0) (.cons (.var 5) .nil))) (.con (.str [41]))) [some (.t (wl ws)),some (.t (.int b)),some (.t (.int wi)),some (.t (.str (wat ws i))),some (.t p.1),some (.t (.int (p.2:Int)))] m=.ok (.t (.bl (!(wat ws p.2==[41])))) m:=Zm ((Zn (Za rfl) (Za rfl)).trans (Z6 rfl)) (Zb _) (Zhp _ _)
     cases q3:(wat ws p.2==[41])with
     |true =>
      rw[q3]at h3
      rw[if_pos rfl]
      refine⟨[],?_⟩
      rw[List.append_nil,Ze h3]
      refine(Zg (ZL (Za rfl) (Qv rfl))).trans ?_
      congr 6
     |false =>
      rw[q3]at h3
      rw[if_neg (by simp)]
      refine⟨[],?_⟩
      rw[List.append_nil]
      exact Xl h3 (Zbb (Za rfl))
end
inductive FitH:T->Prop where
 |str {cs:List Nat}:cs.length<=lim->FitH (.str cs)
 |int (i:Int):FitH (.int i)
 |tup {ts:List T}:(∀t∈ts,FitH t)->FitH (.tup ts)
theorem FitH.one{x:T}(h:FitH x):fit1 x:=by
 cases h with
 |str _=>exact True.intro
 |int _=>exact True.intro
 |tup h =>
  intro t ht cs e
  have:=h t ht
  rw[e]at this
  cases this with
  |str h=>exact h
theorem FitH.kids{x:T}(h:FitH x):∀y∈kids x,FitH y:=by
 intro y hy
 unfold My.kids at hy
 split at hy
 ·rename_i a b
  cases h with
  |tup h =>
   have hb:=h b (by simp)
   split at hy
   ·simp at hy;subst hy;exact hb
   ·split at hy
    ·cases hb with
     |tup h2=>exact h2 y hy
     |str _=>cases hy
     |int _=>cases hy
    ·cases hy
 ·cases hy
theorem FitH.lay:∀(k:Nat) (l:List T),(∀y∈l,FitH y)->∀y∈lay k l,FitH y
 |0,l,h=>h
 |k+1,l,h=>FitH.lay k (l.flatMap My.kids) λy hy=>by
  obtain⟨x,hx,hy⟩:=List.mem_flatMap.mp hy
  exact(h x hx).kids y hy
noncomputable def Good(f:Nat->Rd):Prop:=∀i p,f i=.ok p->FitH p.1
theorem Zc7{ws:List (List Nat)}(hF:Fits ws):Good (Qk ws):=by
 intro i p h
 have two:∀{a b:T},FitH a->FitH b->FitH (.tup [a,b]):=λha hb=>.tup λt ht=>by
  simp at ht
  rcases ht with rfl|rfl
  ·exact ha
  ·exact hb
 unfold Qk at h
 split at h
 ·cases h
  exact .tup λt ht=>by simp at ht;subst ht;exact .str (hF.at _)
 ·split at h
  ·split at h
   ·cases h
    exact two (.str (hF.at _)) (.str (hF.at _))
   ·cases h
  ·split at h
   ·split at h
    ·cases h
    ·rename_i sg hsg
     split at h
     ·cases h
      refine .tup λt ht=>?_
      simp at ht
      rcases ht with rfl|rfl|rfl
      ·refine .str ?_
       unfold signOf at hsg
       split at hsg
       ·cases hsg;decide
       ·split at hsg
        ·cases hsg;decide
        ·cases hsg
      ·exact .str (hF.at _)
      ·exact .int _
     ·cases h
   ·cases h
theorem ZiW{s:List Nat}{f:Nat->Rd}{ws:List (List Nat)}(hf:Good f):∀(n:Nat) (acc:List T) (b:Nat) (q:List T×Nat),(∀t∈acc,FitH t)->Z2 s f ws n acc b=.ok q->∀t∈q.1,FitH t:=by
 intro n
 induction n with
 |zero=>intro acc b q ha h;cases h;exact ha
 |succ n ih =>
  intro acc b q ha h
  rw[Z2]at h
  split at h
  ·split at h
   ·cases h
   ·rename_i p hp
    refine ih _ _ _ (λt ht=>?_) h
    rcases List.mem_append.mp ht with ht|ht
    ·exact ha t ht
    ·simp at ht;subst ht;exact hf _ _ hp
  ·cases h;exact ha
theorem Jy{s:List Nat}{f:Nat->Rd}{ws:List (List Nat)}(hs:s.length<=lim)(hf:Good f):Good (Z3 s f ws):=by
 intro i p h
 unfold Z3 at h
 split at h
 ·cases h
 ·rename_i p1 h1
  split at h
  ·cases h
  ·rename_i q h2
   cases h
   have:=ZiW hf _ _ _ _ (λt ht=>by simp at ht;subst ht;exact hf _ _ h1) h2
   show FitH (Zg6 s q.1)
   unfold Zg6
   split
   ·rename_i t e;exact this t (by rw[e];simp)
   ·refine .tup λt ht=>?_
    simp at ht
    rcases ht with rfl|rfl
    ·exact .str hs
    ·exact .tup this
theorem Zgr{ws:List (List Nat)}(hF:Fits ws):∀k,Good (QG k ws):=by
 intro k
 induction k with
 |zero =>
  intro i p h
  rw[QG]at h
  split at h
  ·cases h
  ·exact Zc7 hF i p h
 |succ k ih =>
  intro i p h
  rw[QG]at h
  split at h
  ·split at h
   ·split at h
    ·cases h
    ·rename_i p1 h1
     cases h
     refine .tup λt ht=>?_
     simp at ht
     rcases ht with rfl|rfl
     ·exact .str (by decide)
     ·exact ih _ _ h1
   ·split at h
    ·cases h
    ·rename_i p1 h1
     split at h
     ·cases h
      exact Jy (s:=[111,114]) (by decide) (Jy (s:=[97,110,100]) (by decide) ih) _ p1 h1
     ·cases h
  ·exact Zc7 hF i p h
noncomputable def ZaB(ws:List (List Nat)):Except Nat T:=match rdOr 12 ws 0 with
 |.error e=>.error e
 |.ok p=>if decide (p.2<ws.length) || !Jj p.1 then .error p.2 else .ok p.1
theorem split_len(c:Nat):∀cs:List Nat,(ZR c cs).length<=cs.length+1/\∀w∈ZR c cs,w.length<=cs.length
 |[]=>by rw[ZR];simp
 |a::r=>by
  obtain⟨h1,h2⟩:=split_len c r
  rw[ZR]
  split
  ·refine⟨by simp;omega,λw hw=>?_⟩
   rcases List.mem_cons.mp hw with rfl|hw
   ·simp
   ·have:=h2 w hw;simp;omega
  ·split
   ·rename_i x xs e
    rw[e]at h1 h2
    refine⟨by simp at h1 ⊢;omega,λw hw=>?_⟩
    rcases List.mem_cons.mp hw with rfl|hw
    ·have:=h2 x (by simp);simp;omega
    ·have:=h2 w (List.mem_cons_of_mem _ hw);simp;omega
   ·exact⟨by simp,λw hw=>by simp at hw;subst hw;simp⟩
noncomputable def BackW(r:Except Nat T)(m:Mem)(res:Res W):Prop:=match r with
 |.ok t=>res=.ok (.t t) m
 |.error e=>∃x,res=.exc (noT e) (m++x)
theorem Zfk{n:Nat}{m:Mem}{cs:List Nat}(hc:cs.length<=800000):BackW (ZaB (ZR 32 cs)) m (cf (n+56) 17 [.t (.str cs)] m):=by
 obtain⟨hs1,hs2⟩:=split_len 32 cs
 generalize hws:ZR 32 cs=ws at *
 have hF:Fits ws:=λw hw=>by have:=hs2 w hw;unfold lim;omega
 have hl:ws.length<900000:=by omega
 have hr:Back (rdOr 12 ws 0) m (cf (n+55) 16 [.t (wl ws),.t (.int 0),.t (.int 0),.t (.tup JN)] m):=or_x (one_x hF hl 12 n 0 (by omega) (by omega)) (ZdS ws 12) hl m 0 0 rfl
 have h0:∀k,ex (cf (n+55)) gv (.ife (.not (.isi (.var 0) .str)) (.rse 71 ["at"] (.cons (.con (.int 0)) .nil) .done) .done (.asg 1 (.mth .split (.var 0) (.cons (.con (.str [32])) .nil)) k)) [some (.t (.str cs)),none,none,none] m=ex (cf (n+55)) gv k [some (.t (.str cs)),some (.t (wl ws)),none,none] m:=λk=>by
  rw[Ze (m1:=m) (Xm (k:=true) (ev_isi (Za rfl) rfl))]
  rw[Zt (show ev (cf (n+55)) gv (.mth .split (.var 0) (.cons (.con (.str [32])) .nil)) [some (.t (.str cs)),none,none,none] m=.ok (.t (wl ws)) m by
   rw[ev,Za rfl,Zf,show tyM .split (.t (.str cs)) m=true from rfl,if_pos rfl,Qy (Zb _) ZcI,Zf]
   show pur (if cs.length<=900000 then some (.lst ((ZR 32 cs).map .str))else none) m=_
   rw[if_pos (by omega),hws]
   rfl)]
  rfl
 have fin1:∀{x:Exc}{y:Mem},ex (cf (n+55)) gv Qe [some (.t (.str cs)),none,none,none] m=.exc x (m++y)->cf (n+56) 17 [.t (.str cs)] m=.exc x (m++y):=λkey=>Zgp (Zbw _ _ _) rfl key
 unfold ZaB
 cases hq:rdOr 12 ws 0 with
 |error e =>
  rw[hq]at hr
  obtain⟨x,hr⟩:=hr
  refine⟨x,fin1 ?_⟩
  unfold Qe
  rw[h0]
  exact ZaL ((Jm (Za rfl) (Zb _) (Zb _) (ZeR ZbU)).trans hr)
 |ok p =>
  rw[hq]at hr
  have hr:_=_:=hr
  have hg:=Jy (s:=[111,114]) (ws:=ws) (by decide) (Jy (s:=[97,110,100]) (ws:=ws) (by decide) (Zgr hF 12)) _ _ hq
  have hw:=Zc5 (n:=n+50) (m:=m) (x:=p.1) (λk y hy=>(FitH.lay k [p.1] (λy hy=>by simp at hy;subst hy;exact hg) y hy).one)
  have h2:∀k,ex (cf (n+55)) gv (.asgT [2,3] (.call 16 (.cons (.var 1) (.cons (.con (.int 0)) (.cons (.con (.int 0)) (.cons (.gl 12) .nil))))) k) [some (.t (.str cs)),some (.t (wl ws)),none,none] m=ex (cf (n+55)) gv k [some (.t (.str cs)),some (.t (wl ws)),some (.t p.1),some (.t (.int (p.2:Int)))] m:=λk=>by
   rw[ZaM ((Jm (Za rfl) (Zb _) (Zb _) (ZeR ZbU)).trans hr)]
   rfl
  have h3:ev (cf (n+55)) gv (.or (.cmp .Lt (.var 3) (.blt .len (.cons (.var 1) .nil))) (.not (.call 9 (.cons (.var 2) .nil)))) [some (.t (.str cs)),some (.t (wl ws)),some (.t p.1),some (.t (.int (p.2:Int)))] m=.ok (.t (.bl (decide (p.2<ws.length) || !Jj p.1))) m:=by
   have h4:ev (cf (n+55)) gv (.cmp .Lt (.var 3) (.blt .len (.cons (.var 1) .nil))) [some (.t (.str cs)),some (.t (wl ws)),some (.t p.1),some (.t (.int (p.2:Int)))] m=.ok (.t (.bl (decide (p.2<ws.length)))) m:=by
    refine(Zm (Za rfl) (Zv (Za rfl) (ZbE _)) (c_lt _ _)).trans ?_
    rw[List.length_map]
    congr 3
    exact decide_eq_decide.mpr (by omega)
   cases q:decide (p.2<ws.length)with
   |true=>rw[q]at h4;exact ZeQ h4
   |false =>
    rw[q]at h4
    exact(J5 h4).trans (Xm ((ZF (Za rfl)).trans hw))
  dsimp only
  cases q:(decide (p.2<ws.length) || !Jj p.1)with
  |true =>
   rw[q]at h3
   rw[if_pos rfl]
   refine⟨[],fin1 ?_⟩
   rw[List.append_nil]
   unfold Qe
   rw[h0,h2]
   exact Xl h3 (Zbb (Za rfl))
  |false =>
   rw[q]at h3
   rw[if_neg (by simp)]
   refine ZZ (Zbw _ _ _) rfl (show ex (cf (n+55)) gv Qe [some (.t (.str cs)),none,none,none] m=.ok (.ret (.t p.1)) m from ?_) (ZP (cell:=false) rfl)
   unfold Qe
   rw[h0,h2,Ze h3]
   exact Zg (Za rfl)
noncomputable def Xo:Except Nat T->T
 |.ok t=>.tup [.str [116,111,108,100],t]
 |.error e=>.tup [.str [114,101,102,117,115,101,100],.int (e:Int)]
theorem Zjl{n:Nat}{m:Mem}{x:T}{r:Except Nat T}(h:BackW r m (cf (n+56) 17 [.t x] m)):cf (n+57) 26 [.t x] m=.ok (.t (Xo r)) m:=by
 have h0:∀k,ex (cf (n+56)) gv (.asg 1 (.tup (.cons (.con (.str [111,116,104,101,114])) (.cons (.con .non) .nil))) k) [some (.t x),none,none,none] m=ex (cf (n+56)) gv k [some (.t x),some (.t (.tup [.str [111,116,104,101,114],.non])),none,none] m:=λk=>by
  rw[Zt (ZL (Zb _) (Zb _))];rfl
 cases r with
 |ok t =>
  have h:_=_:=h
  refine ZZ (Zde _ _ _) rfl (show ex (cf (n+56)) gv Je [some (.t x),none,none,none] m=.ok (.ret (.t (Xo (.ok t)))) m from ?_) (ZP (cell:=false) rfl)
  unfold Je
  rw[h0,ex]
  have hb:ex (cf (n+56)) gv Q8 [some (.t x),some (.t (.tup [.str [111,116,104,101,114],.non])),none,none] m=.ok (.next [some (.t x),some (.t (Xo (.ok t))),none,none]) m:=by
   unfold Q8
   rw[Zt (ZL (Zb _) ((ZF (Za rfl)).trans h)),ex]
   rfl
  rw[hb]
  exact Zg (Za rfl)
 |error e =>
  obtain⟨y,h⟩:=h
  refine ZZ (Zde _ _ _) rfl (show ex (cf (n+56)) gv Je [some (.t x),none,none,none] m=.ok (.ret (.t (Xo (.error e)))) (m++y)from ?_) ?_
  ·unfold Je
   rw[h0,ex]
   have hb:ex (cf (n+56)) gv Q8 [some (.t x),some (.t (.tup [.str [111,116,104,101,114],.non])),none,none] m=.exc (noT e) (m++y):=by
    unfold Q8
    exact ZiY (Zgt (Zb _) ((ZF (Za rfl)).trans h))
   rw[hb]
   have hh:ex (cf (n+56)) gv JQ [none,none,some (.x 71 ["at"] [.int (e:Int)]),none] (m++y)=.ok (.next [none,some (.t (Xo (.error e))),some (.x 71 ["at"] [.int (e:Int)]),some (.t (.bl false))]) (m++y):=by
    unfold JQ
    rfl
   show(if(71:Nat)∈[71]then(ex (cf (n+56)) gv JQ [none,none,some (.x 71 ["at"] [.int (e:Int)]),none] (m++y)).only.bind _ else Res.stuck)=_
   rw[if_pos (by decide),hh]
   show ex (cf (n+56)) gv (.ret (.var 1) .done) [none,some (.t (Xo (.error e))),none,some (.t (.bl false))] (m++y)=_
   exact Zg (Za rfl)
  ·show Res.ok _ ((m++y).take m.length)=_
   rw[List.take_left]
theorem ZkS{n:Nat}{m:Mem}{cs:List Nat}(hc:cs.length<=800000):cf (n+57) 26 [.t (.str cs)] m=.ok (.t (Xo (ZaB (ZR 32 cs)))) m:=Zjl (Zfk hc)
noncomputable abbrev wNot:List Nat:=[110,111,116]
noncomputable abbrev wL:List Nat:=[40]
noncomputable abbrev wR:List Nat:=[41]
inductive Du where
 |wish|name|sign|num|beh
 deriving DecidableEq
noncomputable def ended:List (List Nat)->List (List Nat)
 |[]=>[]
 |w::r=>if w==wNot then ended r else w::r
noncomputable def QW(d:Du)(w:List Nat)(S:List (List Nat)):Option (Du×List (List Nat)):=match d with
 |.wish=>if w==wNot || w==wL then(if 12<S.length+1 then none else some (.wish,w::S))
  else if w==[105,115] || w==[98,121]then some (.name,S)
  else if w==[97,110,121]then some (.beh,ended S)
  else if Z9 w then some (.sign,S)else none
 |.name=>if Z9 w then some (.beh,ended S)else none
 |.sign=>if w==[62,61] || w==[60,61]then some (.num,S)else none
 |.num=>if figB w then some (.beh,ended S)else none
 |.beh=>if w==wR&&!S.isEmpty then some (.beh,ended S.tail)else if w==[97,110,100] || w==[111,114]then some (.wish,S)else none
noncomputable def runA(d:Du)(S:List (List Nat)):List (List Nat)->Nat->Option Nat
 |[],i=>if d=.beh/\S=[]then none else some i
 |w::r,i=>match QW d w S with
  |none=>some i
  |some p=>runA p.1 p.2 r (i+1)
section
variable{ws:List (List Nat)}
theorem Zi8{i:Nat}(h:i<ws.length):ws.drop i=wat ws i::ws.drop (i+1):=by
 rw[List.drop_eq_getElem_cons h]
 unfold wat
 rw[List.getElem?_eq_getElem h]
 rfl
theorem ZjK{d:Du}{S:List (List Nat)}:QW d [] S=none:=by
 cases d<;>rfl
theorem ZhX{d:Du}{S:List (List Nat)}{i:Nat}(h:i<ws.length):runA d S (ws.drop i) i=match QW d (wat ws i) S with
  |none=>some i
  |some p=>runA p.1 p.2 (ws.drop (i+1)) (i+1):=by
 rw[Zi8 h,runA]
theorem Zal{d:Du}{S:List (List Nat)}{i:Nat}(hd:d≠.beh∨S≠[]):runA d S (ws.drop i) i=match QW d (wat ws i) S with
  |none=>some i
  |some p=>runA p.1 p.2 (ws.drop (i+1)) (i+1):=by
 by_cases h:i<ws.length
 ·exact ZhX h
 ·rw[List.drop_eq_nil_of_le (by omega),Zdk (by omega),ZjK,runA]
  exact if_neg λz=>hd.elim (λk=>k z.1) λk=>k z.2
theorem ZdY{i:Nat}(h:wat ws i≠[]):i<ws.length:=Nat.lt_of_not_le λz=>h (Zdk z)
noncomputable def OkA(ws:List (List Nat))(S B:List (List Nat))(i:Nat)(r:Rd):Prop:=match r with
 |.error e=>runA .wish S (ws.drop i) i=some e
 |.ok p=>p.2<=ws.length/\runA .wish S (ws.drop i) i=runA .beh B (ws.drop p.2) p.2
theorem Zic(S:List (List Nat)){i:Nat}(hn:(wat ws i==wNot || wat ws i==wL)=false):OkA ws S (ended S) i (Qk ws i):=by
 have h0:=Zal (ws:=ws) (d:=.wish) (S:=S) (i:=i) (.inl (by decide))
 unfold QW at h0
 dsimp only at h0
 rw[hn,if_neg Bool.false_ne_true]at h0
 unfold Qk
 have lt:∀{j:Nat}{w:List Nat},(wat ws j==w)=true->w≠[]->j<ws.length:=λ{j w} h hw=>ZdY (by rw[eq_of_beq h];exact hw)
 have ltL:∀{j:Nat},Z9 (wat ws j)=true->j<ws.length:=λ{j} h=>ZdY λz=>by rw[z]at h;cases h
 have ltF:∀{j:Nat},figB (wat ws j)=true->j<ws.length:=λ{j} h=>ZdY λz=>by rw[z]at h;cases h
 cases q1:wat ws i==[97,110,121]with
 |true =>
  rw[if_pos rfl]
  have e:=eq_of_beq q1
  rw[e]at h0
  exact⟨lt q1 (by simp),h0⟩
 |false =>
  rw[if_neg Bool.false_ne_true]
  cases q2:(wat ws i==[105,115] || wat ws i==[98,121])with
  |true =>
   rw[q2,if_pos rfl]at h0
   rw[if_pos rfl]
   have h1:=Zal (ws:=ws) (d:=.name) (S:=S) (i:=i+1) (.inl (by decide))
   unfold QW at h1
   dsimp only at h0 h1
   cases q3:Z9 (wat ws (i+1))with
   |true =>
    rw[q3,if_pos rfl]at h1
    rw[if_pos rfl]
    exact⟨ltL q3,h0.trans h1⟩
   |false =>
    rw[q3,if_neg Bool.false_ne_true]at h1
    rw[if_neg Bool.false_ne_true]
    exact h0.trans h1
  |false =>
   rw[q2,if_neg Bool.false_ne_true,q1,if_neg Bool.false_ne_true]at h0
   rw[if_neg Bool.false_ne_true]
   cases q3:Z9 (wat ws i)with
   |false =>
    rw[q3,if_neg Bool.false_ne_true]at h0
    rw[if_neg Bool.false_ne_true]
    exact h0
   |true =>
    rw[q3,if_pos rfl]at h0
    rw[if_pos rfl]
    have h1:=Zal (ws:=ws) (d:=.sign) (S:=S) (i:=i+1) (.inl (by decide))
    unfold QW at h1
    dsimp only at h0 h1
    cases q4:signOf (wat ws (i+1))with
    |none =>
     have:(wat ws (i+1)==[62,61] || wat ws (i+1)==[60,61])=false:=by
      unfold signOf at q4
      split at q4
      ·cases q4
      ·split at q4
       ·cases q4
       ·rename_i a b;simp only[Bool.not_eq_true]at a b;rw[a,b];rfl
     rw[this,if_neg Bool.false_ne_true]at h1
     exact h0.trans h1
    |some sg =>
     have:(wat ws (i+1)==[62,61] || wat ws (i+1)==[60,61])=true:=by
      unfold signOf at q4
      split at q4
      ·rename_i a;rw[a];rfl
      ·split at q4
       ·rename_i a;rw[a,Bool.or_true]
       ·cases q4
     rw[this,if_pos rfl]at h1
     have h2:=Zal (ws:=ws) (d:=.num) (S:=S) (i:=i+1+1) (.inl (by decide))
     unfold QW at h2
     dsimp only at h1 h2
     dsimp only
     cases q5:figB (wat ws (i+2))with
     |true =>
      rw[show i+1+1=i+2 from rfl,q5,if_pos rfl]at h2
      rw[if_pos rfl]
      exact⟨ltF q5,h0.trans (h1.trans h2)⟩
     |false =>
      rw[show i+1+1=i+2 from rfl,q5,if_neg Bool.false_ne_true]at h2
      rw[if_neg Bool.false_ne_true]
      exact h0.trans (h1.trans h2)
theorem loop_A{s:List Nat}{f:Nat->Rd}{B:List (List Nat)}(hs:s=[97,110,100]∨s=[111,114])(hf:Adv f)(hO:∀i,OkA ws B B i (f i)):∀(n:Nat) (acc:List T) (b:Nat),b<=ws.length ->
  match Z2 s f ws n acc b with
  |.error e=>runA .beh B (ws.drop b) b=some e
  |.ok q=>q.2<=ws.length/\runA .beh B (ws.drop b) b=runA .beh B (ws.drop q.2) q.2/\(ws.length<=n+b->(wat ws q.2==s)=false):=by
 have hs0:s≠[]:=by rcases hs with rfl|rfl<;>simp
 intro n
 induction n with
 |zero =>
  intro acc b hb
  exact⟨hb,rfl,λh=>by rw[Zdk (by omega)];exact beq_eq_false_iff_ne.mpr (Ne.symm hs0)⟩
 |succ n ih =>
  intro acc b hb
  rw[Z2]
  cases hw:wat ws b==s with
  |false=>rw[if_neg Bool.false_ne_true];exact⟨hb,rfl,λ_=>hw⟩
  |true =>
   rw[if_pos rfl]
   have e:=eq_of_beq hw
   have hlt:b<ws.length:=ZdY (by rw[e];exact hs0)
   have h0:=ZhX (ws:=ws) (d:=.beh) (S:=B) hlt
   have hst:QW .beh (wat ws b) B=some (.wish,B):=by rw[e];rcases hs with rfl|rfl<;>rfl
   rw[hst]at h0
   dsimp only at h0
   have hp:=hO (b+1)
   cases hq:f (b+1)with
   |error e =>
    rw[hq]at hp
    exact h0.trans hp
   |ok p =>
    rw[hq]at hp
    obtain⟨p1,p2⟩:=hp
    have hadv:=hf _ _ hq
    have h2:=ih (acc++[p.1]) p.2 p1
    show match Z2 s f ws n (acc++[p.1]) p.2 with
     |.error e=>_
     |.ok q=>_
    cases hl:Z2 s f ws n (acc++[p.1]) p.2 with
    |error e =>
     rw[hl]at h2
     exact h0.trans (p2.trans h2)
    |ok q =>
     rw[hl]at h2
     obtain⟨a1,a2,a3⟩:=h2
     exact⟨a1,h0.trans (p2.trans a2),λh=>a3 (by omega)⟩
theorem Zlj{s:List Nat}{f:Nat->Rd}{B:List (List Nat)}(hs:s=[97,110,100]∨s=[111,114])(hf:Adv f)(hO:∀i,OkA ws B B i (f i))(i:Nat):OkA ws B B i (Z3 s f ws i)/\∀p,Z3 s f ws i=.ok p->(wat ws p.2==s)=false:=by
 have h0:=hO i
 unfold Z3
 cases hq:f i with
 |error e=>rw[hq]at h0;exact⟨h0,λp h=>by cases h⟩
 |ok p =>
  rw[hq]at h0
  obtain⟨p1,p2⟩:=h0
  have h2:=loop_A hs hf hO ws.length [p.1] p.2 p1
  dsimp only
  cases hl:Z2 s f ws ws.length [p.1] p.2 with
  |error e=>rw[hl]at h2;exact⟨p2.trans h2,λp h=>by cases h⟩
  |ok q =>
   rw[hl]at h2
   obtain⟨a1,a2,a3⟩:=h2
   exact⟨⟨a1,p2.trans a2⟩,λp h=>by cases h;exact a3 (by omega)⟩
theorem Ziz{s:List Nat}{f:Nat->Rd}{P:Nat->Prop}(hP:∀i p,f i=.ok p->P p.2):∀(n:Nat) (acc:List T) (b:Nat) (q:List T×Nat),P b->Z2 s f ws n acc b=.ok q->P q.2:=by
 intro n
 induction n with
 |zero=>intro acc b q h e;cases e;exact h
 |succ n ih =>
  intro acc b q h e
  rw[Z2]at e
  split at e
  ·split at e
   ·cases e
   ·rename_i p hp;exact ih _ _ _ (hP _ _ hp) e
  ·cases e;exact h
theorem ZiH{s:List Nat}{f:Nat->Rd}{P:Nat->Prop}(hP:∀i p,f i=.ok p->P p.2){i:Nat}{p:T×Nat}(h:Z3 s f ws i=.ok p):P p.2:=by
 unfold Z3 at h
 split at h
 ·cases h
 ·rename_i p1 h1
  split at h
  ·cases h
  ·rename_i q h2
   cases h
   exact Ziz hP _ _ _ _ (hP _ _ h1) h2
theorem or_A{k:Nat}{B:List (List Nat)}(hO:∀i,OkA ws B B i (QG k ws i))(i:Nat):OkA ws B B i (rdOr k ws i)/\∀p,rdOr k ws i=.ok p->(wat ws p.2==[97,110,100])=false/\(wat ws p.2==[111,114])=false:=by
 have h1:=λi=>Zlj (s:=[97,110,100]) (.inl rfl) (ZdS ws k) hO i
 have h2:=Zlj (s:=[111,114]) (.inr rfl) (Zb1 (ZdS ws k)) (λi=>(h1 i).1) i
 refine⟨h2.1,λp hp=>⟨?_,h2.2 p hp⟩⟩
 exact ZiH (P:=λb=>(wat ws b==[97,110,100])=false) (λi p h=>(h1 i).2 p h) hp
theorem one_A:∀(k:Nat) (S:List (List Nat)),S.length+k=12->∀i,OkA ws S (ended S) i (QG k ws i):=by
 intro k
 induction k with
 |zero =>
  intro S hS i
  rw[QG]
  cases q:(wat ws i==wNot || wat ws i==wL)with
  |false=>rw[if_neg Bool.false_ne_true];exact Zic S q
  |true =>
   rw[if_pos rfl]
   have h0:=Zal (ws:=ws) (d:=.wish) (S:=S) (i:=i) (.inl (by decide))
   unfold QW at h0
   dsimp only at h0
   rw[q,if_pos rfl,if_pos (by omega)]at h0
   exact h0
 |succ k ih =>
  intro S hS i
  rw[QG]
  cases q:(wat ws i==wNot || wat ws i==wL)with
  |false=>rw[if_neg Bool.false_ne_true];exact Zic S q
  |true =>
   rw[if_pos rfl]
   have h0:=Zal (ws:=ws) (d:=.wish) (S:=S) (i:=i) (.inl (by decide))
   unfold QW at h0
   dsimp only at h0
   rw[q,if_pos rfl,if_neg (by omega)]at h0
   dsimp only at h0
   have h1:=ih (wat ws i::S) (by rw[List.length_cons];omega)
   cases q2:(wat ws i==wNot)with
   |true =>
    rw[if_pos rfl]
    have e:=eq_of_beq q2
    rw[e]at h0 h1
    have h2:=h1 (i+1)
    rw[show ended (wNot::S)=ended S from rfl]at h2
    cases hq:QG k ws (i+1)with
    |error e=>rw[hq]at h2;exact h0.trans h2
    |ok p=>rw[hq]at h2;exact⟨h2.1,h0.trans h2.2⟩
   |false =>
    rw[if_neg Bool.false_ne_true]
    have e:wat ws i=wL:=by
     rw[q2,Bool.false_or]at q
     exact eq_of_beq q
    rw[e]at h0 h1
    rw[show ended (wL::S)=wL::S from rfl]at h1
    obtain⟨h2,h3⟩:=or_A h1 (i+1)
    show OkA ws S (ended S) i (match rdOr k ws (i+1)with
     |.error e=>.error e
     |.ok p=>if wat ws p.2==wR then .ok (p.1,p.2+1)else .error p.2)
    cases hq:rdOr k ws (i+1)with
    |error e=>rw[hq]at h2;exact h0.trans h2
    |ok p =>
     rw[hq]at h2
     obtain⟨a1,a2⟩:=h2
     obtain⟨b1,b2⟩:=h3 p hq
     have h4:=Zal (ws:=ws) (d:=.beh) (S:=wL::S) (i:=p.2) (.inr (by simp))
     unfold QW at h4
     dsimp only at h4
     dsimp only
     cases q3:(wat ws p.2==wR)with
     |true =>
      rw[if_pos rfl]
      rw[q3]at h4
      have hlt:p.2<ws.length:=ZdY (by rw[eq_of_beq q3];simp)
      exact⟨hlt,h0.trans (a2.trans h4)⟩
     |false =>
      rw[if_neg Bool.false_ne_true]
      rw[q3,Bool.false_and,if_neg Bool.false_ne_true,b1,b2,Bool.false_or,if_neg Bool.false_ne_true]at h4
      exact h0.trans (a2.trans h4)
theorem ZhB:runA .wish [] ws 0=match rdOr 12 ws 0 with
  |.error e=>some e
  |.ok p=>if p.2<ws.length then some p.2 else none:=by
 obtain⟨h1,h2⟩:=or_A (ws:=ws) (one_A 12 [] rfl) 0
 cases hq:rdOr 12 ws 0 with
 |error e =>
  rw[hq]at h1
  exact(show runA .wish [] (ws.drop 0) 0=some e from h1)
 |ok p =>
  rw[hq]at h1
  obtain⟨a1,a2⟩:=h1
  obtain⟨b1,b2⟩:=h2 p hq
  have a2:runA .wish [] ws 0=runA .beh [] (ws.drop p.2) p.2:=a2
  rw[a2]
  dsimp only
  by_cases h:p.2<ws.length
  ·rw[if_pos h,ZhX h]
   have:QW .beh (wat ws p.2) []=none:=by
    unfold QW
    dsimp only
    rw[b1,b2]
    simp
   rw[this]
  ·rw[if_neg h,List.drop_eq_nil_of_le (by omega)]
   rfl
end
noncomputable def Tup(f:Nat->Rd):Prop:=∀i p,f i=.ok p->∃ts,p.1=.tup ts
theorem Zd6(ws:List (List Nat)):Tup (Qk ws):=by
 intro i p h
 unfold Qk at h
 split at h
 ·cases h;exact⟨_,rfl⟩
 ·split at h
  ·split at h
   ·cases h;exact⟨_,rfl⟩
   ·cases h
  ·split at h
   ·split at h
    ·cases h
    ·split at h
     ·cases h;exact⟨_,rfl⟩
     ·cases h
   ·cases h
theorem ZjF{s:List Nat}{f:Nat->Rd}{ws:List (List Nat)}(hf:Tup f):∀(n:Nat) (acc:List T) (b:Nat) (q:List T×Nat),(∀t∈acc,∃ts,t=.tup ts)->Z2 s f ws n acc b=.ok q->∀t∈q.1,∃ts,t=.tup ts:=by
 intro n
 induction n with
 |zero=>intro acc b q ha h;cases h;exact ha
 |succ n ih =>
  intro acc b q ha h
  rw[Z2]at h
  split at h
  ·split at h
   ·cases h
   ·rename_i p hp
    refine ih _ _ _ (λt ht=>?_) h
    rcases List.mem_append.mp ht with ht|ht
    ·exact ha t ht
    ·simp at ht;subst ht;exact hf _ _ hp
  ·cases h;exact ha
theorem ZbL{s:List Nat}{f:Nat->Rd}{ws:List (List Nat)}(hf:Tup f):Tup (Z3 s f ws):=by
 intro i p h
 unfold Z3 at h
 split at h
 ·cases h
 ·rename_i p1 h1
  split at h
  ·cases h
  ·rename_i q h2
   cases h
   have:=ZjF hf _ _ _ _ (λt ht=>by simp at ht;subst ht;exact hf _ _ h1) h2
   show ∃ts,Zg6 s q.1=.tup ts
   unfold Zg6
   split
   ·rename_i t e;exact this t (by rw[e];simp)
   ·exact⟨_,rfl⟩
theorem ZlO(ws:List (List Nat)):∀k,Tup (QG k ws):=by
 intro k
 induction k with
 |zero =>
  intro i p h
  rw[QG]at h
  split at h
  ·cases h
  ·exact Zd6 ws i p h
 |succ k ih =>
  intro i p h
  rw[QG]at h
  split at h
  ·split at h
   ·split at h
    ·cases h
    ·cases h;exact⟨_,rfl⟩
   ·split at h
    ·cases h
    ·rename_i p1 h1
     split at h
     ·cases h
      exact ZbL (ZbL ih) _ p1 h1
     ·cases h
  ·exact Zd6 ws i p h
theorem wish_A(ws:List (List Nat)):match ZaB ws with
  |.ok t=>runA .wish [] ws 0=none/\∃ts,t=.tup ts
  |.error e=>runA .wish [] ws 0=some e∨(runA .wish [] ws 0=none/\e=ws.length):=by
 have h:=ZhB (ws:=ws)
 unfold ZaB
 cases hq:rdOr 12 ws 0 with
 |error e=>rw[hq]at h;exact .inl h
 |ok p =>
  rw[hq]at h
  have hle:p.2<=ws.length:=by
   have:=(or_A (ws:=ws) (one_A 12 [] rfl) 0).1
   rw[hq]at this
   exact this.1
  dsimp only at h ⊢
  by_cases hl:p.2<ws.length
  ·rw[if_pos hl]at h
   rw[decide_eq_true hl,Bool.true_or,if_pos rfl]
   exact .inl h
  ·rw[if_neg hl]at h
   rw[decide_eq_false hl,Bool.false_or]
   cases Jj p.1 with
   |true=>exact⟨h,ZbL (ZbL (ZlO ws 12)) _ p hq⟩
   |false=>exact .inr ⟨h,by omega⟩
noncomputable abbrev wAnd:List Nat:=[97,110,100]
noncomputable abbrev wOr:List Nat:=[111,114]
noncomputable def Clo(x:List Nat)(s:List (List Nat)):Prop:=∀r cur acc,pgo x (s++r) 0 cur acc=pgo x r 0 (cur++s) acc
noncomputable def Inn(s:List (List Nat)):Prop:=∀x d,1<=d->∀r cur acc,pgo x (s++r) d cur acc=pgo x r d (cur++s) acc
noncomputable def Wd(w:List Nat):Prop:=(w==wL)=false/\(w==wR)=false
theorem Wd.st{w:List Nat}(h:Wd w)(d:Int):X6 d w=d:=by unfold X6;rw[h.1,h.2];simp
theorem Inn.nil:Inn []:=λx d hd r cur acc=>by rw[List.append_nil,List.nil_append]
theorem Clo.nil(x:List Nat):Clo x []:=λr cur acc=>by rw[List.append_nil,List.nil_append]
theorem Inn.app{a b:List (List Nat)}(ha:Inn a)(hb:Inn b):Inn (a++b):=λx d hd r cur acc=>by
 rw[List.append_assoc,ha x d hd,hb x d hd,List.append_assoc]
theorem Clo.app{x:List Nat}{a b:List (List Nat)}(ha:Clo x a)(hb:Clo x b):Clo x (a++b):=λr cur acc=>by
 rw[List.append_assoc,ha,hb,List.append_assoc]
theorem Inn.wd{w:List Nat}(h:Wd w):Inn [w]:=λx d hd r cur acc=>by
 show pgo x (w::r) d cur acc=_
 rw[pgo,h.st,if_neg]
 simp;omega
theorem Clo.wd{x w:List Nat}(h:Wd w)(hx:(w==x)=false):Clo x [w]:=λr cur acc=>by
 show pgo x (w::r) 0 cur acc=_
 rw[pgo,h.st,if_neg]
 rw[hx];simp
theorem Inn.br{s:List (List Nat)}(h:Inn s):Inn (wL::(s++[wR])):=λx d hd r cur acc=>by
 show pgo x (wL::((s++[wR])++r)) d cur acc=_
 have e1:X6 d wL=d+1:=by unfold X6;simp
 have e2:X6 (d+1) wR=d:=by unfold X6;simp
 rw[pgo,e1,if_neg (by simp;omega),List.append_assoc,h x (d+1) (by omega)]
 show pgo x (wR::r) (d+1) _ acc=_
 rw[pgo,e2,if_neg (by simp;omega)]
 simp
theorem Clo.br{x:List Nat}{s:List (List Nat)}(hx:Wd x)(h:Inn s):Clo x (wL::(s++[wR])):=λr cur acc=>by
 show pgo x (wL::((s++[wR])++r)) 0 cur acc=_
 have e1:X6 0 wL=1:=by unfold X6;simp
 have e2:X6 1 wR=0:=by unfold X6;simp
 have n1:(wL==x)=false:=by rw[Bool.beq_comm];exact hx.1
 have n2:(wR==x)=false:=by rw[Bool.beq_comm];exact hx.2
 rw[pgo,e1,if_neg (by rw[n1];simp),List.append_assoc,h x 1 (by omega)]
 show pgo x (wR::r) 1 _ acc=_
 rw[pgo,e2,if_neg (by rw[n2];simp)]
 simp
noncomputable def jnW(x:List Nat):List (List (List Nat))->List (List Nat)
 |[]=>[]
 |[s]=>s
 |s::t::r=>s++x::jnW x (t::r)
theorem Zgb{x:List Nat}(hx:Wd x):∀(segs:List (List (List Nat))) (s:List (List Nat)),(∀a∈s::segs,Clo x a)->∀cur acc,pgo x (jnW x (s::segs)) 0 cur acc=acc++(cur++s)::segs
 |[],s,h,cur,acc=>by
  have:=h s (by simp) [] cur acc
  rw[List.append_nil]at this
  exact this
 |t::r,s,h,cur,acc=>by
  show pgo x (s++x::jnW x (t::r)) 0 cur acc=_
  rw[h s (by simp),pgo,hx.st,if_pos (by simp),Zgb hx r t (λa ha=>h a (List.mem_cons_of_mem _ ha))]
  simp
theorem JP{x:List Nat}(hx:Wd x){segs:List (List (List Nat))}(h0:segs≠[])(h:∀a∈segs,Clo x a):parted x (jnW x segs)=segs:=by
 cases segs with
 |nil=>exact absurd rfl h0
 |cons s r=>rw[parted,Zgb hx r s h];simp
theorem Clo.part{x:List Nat}{s:List (List Nat)}(h:Clo x s):parted x s=[s]:=by
 have:=h [] [] []
 rw[List.append_nil]at this
 exact this
theorem Inn.join{x:List Nat}(hx:Wd x):∀segs:List (List (List Nat)),(∀a∈segs,Inn a)->Inn (jnW x segs)
 |[],_=>.nil
 |[s],h=>h s (by simp)
 |s::t::r,h=>(h s (by simp)).app ((Inn.wd hx).app (Inn.join hx (t::r) λa ha=>h a (List.mem_cons_of_mem _ ha)))
theorem Clo.join{x y:List Nat}(hx:Wd x)(hy:(x==y)=false):∀segs:List (List (List Nat)),(∀a∈segs,Clo y a)->Clo y (jnW x segs)
 |[],_=>.nil _
 |[s],h=>h s (by simp)
 |s::t::r,h=>(h s (by simp)).app ((Clo.wd hx hy).app (Clo.join hx hy (t::r) λa ha=>h a (List.mem_cons_of_mem _ ha)))
theorem Xf{x:List Nat}:∀{segs:List (List (List Nat))},(∀a∈segs,1<=a.length)->∀a∈segs,a.length+segs.length<=(jnW x segs).length+1
 |[],_,a,ha=>by simp at ha
 |[s],_,a,ha=>by simp at ha;subst ha;simp[jnW]
 |s::t::r,h,a,ha=>by
  have e:(jnW x (s::t::r)).length=s.length+1+(jnW x (t::r)).length:=by
   show(s++x::jnW x (t::r)).length=_
   simp;omega
  have hs:=h s (by simp)
  rcases List.mem_cons.1 ha with rfl|ha
  ·have:=Xf (x:=x) (λa ha=>h a (List.mem_cons_of_mem _ ha)) t (by simp)
   have ht:=h t (by simp)
   simp only[List.length_cons]at *
   omega
  ·have:=Xf (x:=x) (λa ha=>h a (List.mem_cons_of_mem _ ha)) a ha
   simp only[List.length_cons]at *
   omega
inductive Sg:Nat->List (List Nat)->T->Prop
 |any:Sg 0 [[97,110,121]] (.tup [.str [97,110,121]])
 |nm {w a:List Nat}:(w==[105,115] || w==[98,121])=true->Z9 a=true->Sg 0 [w,a] (.tup [.str w,.str a])
 |sz {a b c sg:List Nat}:Z9 a=true->signOf b=some sg->figB c=true->Sg 0 [a,b,c] (.tup [.str sg,.str a,.int (figV c)])
 |nt {s:List (List Nat)}{t:T}:Sg 0 s t->Sg 0 (wNot::s) (.tup [.str wNot,t])
 |br {s:List (List Nat)}{t:T}:Sg 2 s t->Sg 0 (wL::(s++[wR])) t
 |an1 {s:List (List Nat)}{t:T}:Sg 0 s t->Sg 1 s t
 |an {ps:List (List (List Nat)×T)}:2<=ps.length->(∀p∈ps,Sg 0 p.1 p.2)->Sg 1 (jnW wAnd (ps.map (·.1))) (.tup [.str wAnd,.tup (ps.map (·.2))])
 |or1 {s:List (List Nat)}{t:T}:Sg 1 s t->Sg 2 s t
 |or {ps:List (List (List Nat)×T)}:2<=ps.length->(∀p∈ps,Sg 1 p.1 p.2)->Sg 2 (jnW wOr (ps.map (·.1))) (.tup [.str wOr,.tup (ps.map (·.2))])
theorem Zdj{a:List Nat}(h:Z9 a=true):Wd a:=⟨ZmQ h,Zks h⟩
theorem ZbT{a:List Nat}(h:Z9 a=true):(a==wOr)=false/\(a==wAnd)=false/\(a==wNot)=false/\(a==[97,110,121])=false/\(a==[105,115])=false/\(a==[98,121])=false:=
 ⟨Za4 h (by decide),Za4 h (by decide),Za4 h (by decide),Za4 h (by decide),Za4 h (by decide),Za4 h (by decide)⟩
theorem Zm8{a:List Nat}(h:figB a=true){c:Nat}(hc:c∈a):c∈digs:=by
 unfold figB at h
 simp only[Bool.and_eq_true,List.all_eq_true,decide_eq_true_eq]at h
 exact h.1.2 c hc
theorem ZdD{a:List Nat}(h:figB a=true){w:List Nat}(hw:∃c∈w,c∉digs):(a==w)=false:=by
 rw[beq_eq_false_iff_ne]
 rintro rfl
 obtain⟨c,hc,hn⟩:=hw
 exact hn (Zm8 h hc)
theorem wd_fig{a:List Nat}(h:figB a=true):Wd a/\(a==wOr)=false/\(a==wAnd)=false:=
 ⟨⟨ZdD h ⟨40,by simp,by decide⟩,ZdD h ⟨41,by simp,by decide⟩⟩,ZdD h ⟨111,by simp,by decide⟩,ZdD h ⟨97,by simp,by decide⟩⟩
theorem sign_of{b sg:List Nat}(h:signOf b=some sg):(b=[62,61]/\sg=[108,101,97,115,116])∨(b=[60,61]/\sg=[109,111,115,116]):=by
 unfold signOf at h
 split at h
 ·rename_i q;exact .inl ⟨by simpa using q,by cases h;rfl⟩
 split at h
 ·rename_i q;exact .inr ⟨by simpa using q,by cases h;rfl⟩
 cases h
theorem Sg.len{l:Nat}{s:List (List Nat)}{t:T}(h:Sg l s t):1<=s.length:=by
 induction h with
 |any=>simp
 |nm=>simp
 |sz=>simp
 |nt=>simp
 |br=>simp
 |an1 _ ih=>exact ih
 |@an ps h2 hp ih =>
  obtain⟨p,hq⟩:∃p,p∈ps:=by cases ps with
   |nil=>simp at h2
   |cons p _=>exact⟨p,by simp⟩
  have:=Xf (x:=wAnd) (segs:=ps.map (·.1)) (λa ha=>by obtain⟨q,hq,rfl⟩:=List.mem_map.1 ha;exact ih q hq) p.1 (List.mem_map_of_mem hq)
  have:=ih p hq
  simp only[List.length_map]at *
  omega
 |or1 _ ih=>exact ih
 |@or ps h2 hp ih =>
  obtain⟨p,hq⟩:∃p,p∈ps:=by cases ps with
   |nil=>simp at h2
   |cons p _=>exact⟨p,by simp⟩
  have:=Xf (x:=wOr) (segs:=ps.map (·.1)) (λa ha=>by obtain⟨q,hq,rfl⟩:=List.mem_map.1 ha;exact ih q hq) p.1 (List.mem_map_of_mem hq)
  have:=ih p hq
  simp only[List.length_map]at *
  omega
theorem ZdX:Wd wAnd:=⟨by decide,by decide⟩
theorem ZjB:Wd wOr:=⟨by decide,by decide⟩
theorem Sg.cl{l:Nat}{s:List (List Nat)}{t:T}(h:Sg l s t):Inn s/\(l<=1->Clo wOr s)/\(l=0->Clo wAnd s):=by
 induction h with
 |any=>exact⟨.wd ⟨by decide,by decide⟩,λ_=>.wd ⟨by decide,by decide⟩ (by decide),λ_=>.wd ⟨by decide,by decide⟩ (by decide)⟩
 |@nm w a hw ha =>
  have d:=Zdj ha
  obtain⟨e1,e2,_⟩:=ZbT ha
  have hw:w=[105,115]∨w=[98,121]:=by simpa using hw
  have dw:Wd w/\(w==wOr)=false/\(w==wAnd)=false:=by rcases hw with rfl|rfl<;>exact⟨⟨by decide,by decide⟩,by decide,by decide⟩
  exact⟨(Inn.wd dw.1).app (.wd d),λ_=>(Clo.wd dw.1 dw.2.1).app (.wd d e1),λ_=>(Clo.wd dw.1 dw.2.2).app (.wd d e2)⟩
 |@sz a b c sg ha hb hc =>
  have d:=Zdj ha
  obtain⟨e1,e2,_⟩:=ZbT ha
  obtain⟨f1,f2,f3⟩:=wd_fig hc
  have db:Wd b/\(b==wOr)=false/\(b==wAnd)=false:=by rcases sign_of hb with⟨rfl,_⟩|⟨rfl,_⟩<;>exact⟨⟨by decide,by decide⟩,by decide,by decide⟩
  exact⟨(Inn.wd d).app ((Inn.wd db.1).app (.wd f1)),λ_=>(Clo.wd d e1).app ((Clo.wd db.1 db.2.1).app (.wd f1 f2)),λ_=>(Clo.wd d e2).app ((Clo.wd db.1 db.2.2).app (.wd f1 f3))⟩
 |nt _ ih=>exact⟨(Inn.wd ⟨by decide,by decide⟩).app ih.1,λ_=>(Clo.wd ⟨by decide,by decide⟩ (by decide)).app (ih.2.1 (by omega)),λ_=>(Clo.wd ⟨by decide,by decide⟩ (by decide)).app (ih.2.2 rfl)⟩
 |br _ ih=>exact⟨ih.1.br,λ_=>.br ZjB ih.1,λ_=>.br ZdX ih.1⟩
 |an1 _ ih=>exact⟨ih.1,λ_=>ih.2.1 (by omega),λh=>by omega⟩
 |@an ps h2 hp ih =>
  refine⟨.join ZdX _ λa ha=>?_,λ_=>.join ZdX (by decide) _ λa ha=>?_,λh=>by omega⟩
  ·obtain⟨q,hq,rfl⟩:=List.mem_map.1 ha;exact(ih q hq).1
  ·obtain⟨q,hq,rfl⟩:=List.mem_map.1 ha;exact(ih q hq).2.1 (by omega)
 |or1 _ ih=>exact⟨ih.1,λh=>by omega,λh=>by omega⟩
 |@or ps h2 hp ih =>
  refine⟨.join ZjB _ λa ha=>?_,λh=>by omega,λh=>by omega⟩
  obtain⟨q,hq,rfl⟩:=List.mem_map.1 ha;exact(ih q hq).1
noncomputable def leafOf(ws:List (List Nat)):T:=if wat ws 0==[97,110,121] || wat ws 0==[105,115] || wat ws 0==[98,121]then .tup (ws.map .str)
 else .tup [.str (if wat ws 1==[62,61]then[108,101,97,115,116]else[109,111,115,116]),.str (wat ws 0),.int (figV (wat ws 2))]
noncomputable def ZX:Nat->List (List Nat)->T
 |0,_=>.non
 |n+1,ws=>if 1<(parted wOr ws).length then .tup [.str wOr,.tup ((parted wOr ws).map (ZX n))]
  else if 1<(parted wAnd ws).length then .tup [.str wAnd,.tup ((parted wAnd ws).map (ZX n))]
  else if wat ws 0==wNot then .tup [.str wNot,ZX n (ws.drop 1)]
  else if wat ws 0==wL then ZX n (ws.drop 1).dropLast
  else leafOf ws
theorem Zaq{n:Nat}{s:List (List Nat)}{t:T}(h:Sg 0 s t):ZX (n+1) s=if wat s 0==wNot then .tup [.str wNot,ZX n (s.drop 1)]else if wat s 0==wL then ZX n (s.drop 1).dropLast else leafOf s:=by
 obtain⟨_,c1,c2⟩:=h.cl
 rw[ZX,(c1 (by omega)).part,(c2 rfl).part]
 rfl
theorem Sg.wish{l:Nat}{s:List (List Nat)}{t:T}(h:Sg l s t):∀n,s.length<=n->ZX n s=t:=by
 induction h with
 |any =>
  intro n hn
  cases n with
  |zero=>simp at hn
  |succ n=>rw[Zaq .any];rfl
 |@nm w a hw ha =>
  intro n hn
  cases n with
  |zero=>simp at hn
  |succ n =>
   rw[Zaq (.nm hw ha)]
   have hw:w=[105,115]∨w=[98,121]:=by simpa using hw
   rcases hw with rfl|rfl<;>rfl
 |@sz a b c sg ha hb hc =>
  intro n hn
  cases n with
  |zero=>simp at hn
  |succ n =>
   rw[Zaq (.sz ha hb hc)]
   obtain⟨_,_,e3,e4,e5,e6⟩:=ZbT ha
   have e7:=(Zdj ha).1
   have w0:wat [a,b,c] 0=a:=rfl
   unfold leafOf
   rw[w0,e3,e4,e5,e6,e7,if_neg Bool.false_ne_true,if_neg Bool.false_ne_true,if_neg (by simp)]
   rcases sign_of hb with⟨rfl,rfl⟩|⟨rfl,rfl⟩<;>rfl
 |@nt s t h ih =>
  intro n hn
  cases n with
  |zero=>simp at hn
  |succ n =>
   rw[Zaq (.nt h)]
   have:ZX n s=t:=ih n (by simpa using hn)
   show(if(wNot==wNot)=true then _ else _)=_
   rw[if_pos (by decide)]
   show T.tup [.str wNot,ZX n s]=_
   rw[this]
 |@br s t h ih =>
  intro n hn
  cases n with
  |zero=>simp at hn
  |succ n =>
   rw[Zaq (.br h)]
   have:ZX n s=t:=ih n (by simp at hn;omega)
   show(if(wL==wNot)=true then _ else if(wL==wL)=true then ZX n (s++[wR]).dropLast else _)=_
   rw[if_neg (by decide),if_pos (by decide),List.dropLast_concat]
   exact this
 |an1 _ ih=>exact ih
 |@an ps h2 hp ih =>
  intro n hn
  have hs:=Sg.an h2 hp
  have hl:=hs.len
  cases n with
  |zero=>omega
  |succ n =>
   have e1:=(hs.cl.2.1 (by omega)).part
   have e2:parted wAnd (jnW wAnd (ps.map (·.1)))=ps.map (·.1):=JP ZdX (by cases ps with
    |nil=>simp at h2
    |cons _ _=>simp) λa ha=>by obtain⟨q,hq,rfl⟩:=List.mem_map.1 ha;exact(hp q hq).cl.2.2 rfl
   rw[ZX,e1,e2,if_neg (by simp),if_pos (by rw[List.length_map];omega),List.map_map]
   congr 3
   refine congrArg T.tup (List.map_congr_left λp hq=>?_)
   refine ih p hq n ?_
   have:=Xf (x:=wAnd) (segs:=ps.map (·.1)) (λa ha=>by obtain⟨q,hq,rfl⟩:=List.mem_map.1 ha;exact(hp q hq).len) p.1 (List.mem_map_of_mem hq)
   simp only[List.length_map]at this
   omega
 |or1 _ ih=>exact ih
 |@or ps h2 hp ih =>
  intro n hn
  have hs:=Sg.or h2 hp
  have hl:=hs.len
  cases n with
  |zero=>omega
  |succ n =>
   have e2:parted wOr (jnW wOr (ps.map (·.1)))=ps.map (·.1):=JP ZjB (by cases ps with
    |nil=>simp at h2
    |cons _ _=>simp) λa ha=>by obtain⟨q,hq,rfl⟩:=List.mem_map.1 ha;exact(hp q hq).cl.2.1 (by omega)
   rw[ZX,e2,if_pos (by rw[List.length_map];omega),List.map_map]
   congr 3
   refine congrArg T.tup (List.map_congr_left λp hq=>?_)
   refine ih p hq n ?_
   have:=Xf (x:=wOr) (segs:=ps.map (·.1)) (λa ha=>by obtain⟨q,hq,rfl⟩:=List.mem_map.1 ha;exact(hp q hq).len) p.1 (List.mem_map_of_mem hq)
   simp only[List.length_map]at this
   omega
noncomputable def sgm(ws:List (List Nat))(i j:Nat):List (List Nat):=(ws.drop i).take (j-i)
section
variable{ws:List (List Nat)}
theorem QM{i j:Nat}(hi:i<ws.length)(hj:i<j):sgm ws i j=wat ws i::sgm ws (i+1) j:=by
 unfold sgm
 rw[Zi8 hi,show j-i=(j-(i+1))+1 from by omega,List.take_succ_cons]
theorem Zdn(i:Nat):sgm ws i i=[]:=by unfold sgm;simp
theorem ZhS{i j k:Nat}(hij:i<=j)(hjk:j<=k):sgm ws i j++sgm ws j k=sgm ws i k:=by
 unfold sgm
 rw[show k-i=(j-i)+(k-j)from by omega,List.take_add,List.drop_drop,show i+(j-i)=j from by omega]
theorem Zb3{i:Nat}(h:wat ws i≠[]):i<ws.length:=by
 rcases Nat.lt_or_ge i ws.length with h1|h1
 ·exact h1
 ·exact absurd (by simp[wat,List.getElem?_eq_none h1]) h
noncomputable def RdS(ws:List (List Nat))(l:Nat)(f:Nat->Rd):Prop:=∀i p,f i=.ok p->i<p.2/\p.2<=ws.length/\Sg l (sgm ws i p.2) p.1
theorem Zkr{a:List Nat}(h:Z9 a=true):a≠[]:=by rintro rfl;exact absurd h (by decide)
theorem Zm7{a:List Nat}(h:figB a=true):a≠[]:=by rintro rfl;exact absurd h (by decide)
theorem Zel:RdS ws 0 (Qk ws):=by
 intro i p h
 unfold Qk at h
 split at h
 ·rename_i q
  cases h
  have q:wat ws i=[97,110,121]:=by simpa using q
  have hi:=Zb3 (ws:=ws) (i:=i) (by rw[q];simp)
  refine⟨Nat.lt_succ_self _,hi,?_⟩
  show Sg 0 (sgm ws i (i+1)) (.tup [.str (wat ws i)])
  rw[QM hi (by omega),Zdn,q]
  exact .any
 split at h
 ·rename_i q
  split at h
  ·rename_i q2
   cases h
   have h1:=Zb3 (Zkr q2)
   refine⟨by dsimp only;omega,by dsimp only;omega,?_⟩
   show Sg 0 (sgm ws i (i+2)) (.tup [.str (wat ws i),.str (wat ws (i+1))])
   rw[QM (by omega) (by omega),QM h1 (by omega),Zdn]
   exact .nm q q2
  ·cases h
 split at h
 ·rename_i q
  split at h
  ·cases h
  ·rename_i sg q2
   split at h
   ·rename_i q3
    cases h
    have h1:=Zb3 (Zm7 q3)
    refine⟨by dsimp only;omega,by dsimp only;omega,?_⟩
    show Sg 0 (sgm ws i (i+3)) (.tup [.str sg,.str (wat ws i),.int (figV (wat ws (i+2)))])
    rw[QM (by omega) (by omega),QM (by omega) (by omega),QM h1 (by omega),Zdn]
    exact .sz q q2 q3
   ·cases h
 ·cases h
theorem Zgm{x:List Nat}:∀(segs:List (List (List Nat))) (s:List (List Nat)),segs≠[]->jnW x (segs++[s])=jnW x segs++x::s
 |[],_,h=>absurd rfl h
 |[a],s,_=>rfl
 |a::b::r,s,_=>by
  show a++x::jnW x ((b::r)++[s])=(a++x::jnW x (b::r))++x::s
  rw[Zgm (b::r) s (by simp)]
  simp
theorem Zf6{s:List Nat}{l:Nat}{f:Nat->Rd}(hs:s≠[])(R:RdS ws l f){i:Nat}:∀(n:Nat) (ps:List (List (List Nat)×T)) (b:Nat) (q:List T×Nat),ps≠[]->(∀p∈ps,Sg l p.1 p.2)->i<b->b<=ws.length->sgm ws i b=jnW s (ps.map (·.1)) ->
  Z2 s f ws n (ps.map (·.2)) b=.ok q->∃ps':List (List (List Nat)×T),ps'≠[]/\(∀p∈ps',Sg l p.1 p.2)/\i<q.2/\q.2<=ws.length/\sgm ws i q.2=jnW s (ps'.map (·.1))/\q.1=ps'.map (·.2)
 |0,ps,b,q,h0,hp,hb,hl,e,h=>by
  rw[Z2]at h
  cases h
  exact⟨ps,h0,hp,hb,hl,e,rfl⟩
 |n+1,ps,b,q,h0,hp,hb,hl,e,h=>by
  rw[Z2]at h
  split at h
  ·rename_i g
   have g:wat ws b=s:=by simpa using g
   have hbl:=Zb3 (ws:=ws) (i:=b) (by rw[g];exact hs)
   cases hf:f (b+1)with
   |error er=>rw[hf]at h;cases h
   |ok p =>
    rw[hf]at h
    obtain⟨p1,p2,p3⟩:=R _ _ hf
    have h:Z2 s f ws n (ps.map (·.2)++[p.1]) p.2=.ok q:=h
    have e2:ps.map (·.2)++[p.1]=(ps++[(sgm ws (b+1) p.2,p.1)]).map (·.2):=by simp
    rw[e2]at h
    refine Zf6 hs R n _ p.2 q (by simp) (λz hz=>?_) (by omega) p2 ?_ h
    ·rcases List.mem_append.1 hz with hz|hz
     ·exact hp z hz
     ·simp at hz;subst hz;exact p3
    ·rw[List.map_append,List.map_cons,List.map_nil,Zgm _ _ (by simpa using h0),<-e,<-ZhS (Nat.le_of_lt hb) (by omega:b<=p.2),QM hbl (by omega),g]
  ·cases h
   exact⟨ps,h0,hp,hb,hl,e,rfl⟩
theorem Zf7{s:List Nat}{l:Nat}{f:Nat->Rd}(hs:s≠[])(R:RdS ws l f){l':Nat}(h1:∀{x t},Sg l x t->Sg l' x t)(h2:∀{ps:List (List (List Nat)×T)},2<=ps.length->(∀p∈ps,Sg l p.1 p.2)->Sg l' (jnW s (ps.map (·.1))) (.tup [.str s,.tup (ps.map (·.2))])):RdS ws l' (Z3 s f ws):=by
 intro i p h
 unfold Z3 at h
 cases hf:f i with
 |error e=>rw[hf]at h;cases h
 |ok a =>
  rw[hf]at h
  dsimp only at h
  obtain⟨a1,a2,a3⟩:=R _ _ hf
  cases hq:Z2 s f ws ws.length [a.1] a.2 with
  |error e=>rw[hq]at h;cases h
  |ok q =>
   rw[hq]at h
   dsimp only at h
   cases h
   obtain⟨ps,b1,b2,b3,b4,b5,b6⟩:=Zf6 hs R ws.length [(sgm ws i a.2,a.1)] a.2 q (by simp) (λz hz=>by simp at hz;subst hz;exact a3) a1 a2 rfl hq
   refine⟨b3,b4,?_⟩
   show Sg l' (sgm ws i q.2) (Zg6 s q.1)
   rw[b5,b6]
   match ps,b1,b2 with
   |[],b1,_=>exact absurd rfl b1
   |[z],_,b2=>exact h1 (b2 z (by simp))
   |z::y::r,_,b2=>exact h2 (ps:=z::y::r) (by simp) b2
theorem ZhZ{k:Nat}(R:RdS ws 0 (QG k ws)):RdS ws 2 (rdOr k ws):=
 Zf7 (l:=1) (by simp) (Zf7 (l:=0) (by simp) R .an1 .an) .or1 .or
theorem Zds:∀k,RdS ws 0 (QG k ws)
 |0=>by
  intro i p h
  rw[QG]at h
  split at h
  ·cases h
  ·exact Zel i p h
 |k+1=>by
  intro i p h
  rw[QG]at h
  split at h
  ·rename_i g
   split at h
   ·rename_i g1
    have g1:wat ws i=wNot:=by simpa using g1
    have hi:=Zb3 (ws:=ws) (i:=i) (by rw[g1];simp)
    cases hq:QG k ws (i+1)with
    |error e=>rw[hq]at h;cases h
    |ok q =>
     rw[hq]at h
     cases h
     obtain⟨a,b,c⟩:=Zds k _ _ hq
     refine⟨by dsimp only;omega,b,?_⟩
     show Sg 0 (sgm ws i q.2) (.tup [.str wNot,q.1])
     rw[QM hi (by omega),g1]
     exact .nt c
   ·rename_i g1
    have g2:wat ws i=wL:=by
     simp at g g1
     rcases g with g|g
     ·exact absurd g g1
     ·exact g
    have hi:=Zb3 (ws:=ws) (i:=i) (by rw[g2];simp)
    cases hq:Z3 [111,114] (Z3 [97,110,100] (QG k ws) ws) ws (i+1)with
    |error e=>rw[hq]at h;cases h
    |ok q =>
     rw[hq]at h
     dsimp only at h
     obtain⟨a,b,c⟩:=ZhZ (Zds k) _ _ hq
     split at h
     ·rename_i g3
      cases h
      have g3:wat ws q.2=wR:=by simpa using g3
      have h3:=Zb3 (ws:=ws) (i:=q.2) (by rw[g3];simp)
      refine⟨by dsimp only;omega,h3,?_⟩
      show Sg 0 (sgm ws i (q.2+1)) q.1
      rw[QM hi (by omega),g2,<-ZhS (Nat.le_of_lt a) (Nat.le_succ _),QM h3 (by omega),Zdn,g3]
      exact .br c
     ·cases h
  ·exact Zel i p h
theorem ZhY{n:Nat}(hn:ws.length<=n)(h:runA .wish [] ws 0=none):ZaB ws=if Jj (ZX n ws)then .ok (ZX n ws)else .error ws.length:=by
 have hw:=ZhB (ws:=ws)
 rw[h]at hw
 unfold ZaB
 cases hq:rdOr 12 ws 0 with
 |error e=>rw[hq]at hw;cases hw
 |ok p =>
  rw[hq]at hw
  dsimp only at hw ⊢
  obtain⟨a,b,c⟩:=ZhZ (Zds 12) _ _ hq
  have e:¬p.2<ws.length:=λz=>by rw[if_pos z]at hw;cases hw
  have e2:p.2=ws.length:=by omega
  have e3:sgm ws 0 p.2=ws:=by unfold sgm;rw[e2];simp
  rw[e3]at c
  have e4:=c.wish n hn
  rw[e4,e2]
  cases Jj p.1 with
  |true=>rw[if_neg (by simp),if_pos rfl]
  |false=>rw[if_pos (by simp),if_neg (by simp)]
end
theorem ZkG:∀(n:Nat) (t:T),Zj n t=true->eqT t t=true:=by
 intro n
 induction n with
 |zero =>
  intro t h
  cases t with
  |non=>rfl
  |bl b=>simp[eqT]
  |int b=>simp[eqT]
  |str b=>simp[eqT]
  |tup ts=>simp[Zj]at h
  |lst ts=>simp[Zj]at h
  |dct ks ts=>simp[Zj]at h
  |scr ns=>simp[Zj]at h
 |succ n ih =>
  have hl:∀ts:List T,Z4 n ts=true->eqTs ts ts=true:=by
   intro ts
   induction ts with
   |nil=>intro _;rfl
   |cons t ts iht =>
    intro h
    rw[Z4,Bool.and_eq_true]at h
    rw[eqTs,ih t h.1,iht h.2]
    rfl
  intro t h
  cases t with
  |tup ts=>rw[Zj]at h;rw[eqT];exact hl ts h
  |lst ts=>rw[Zj]at h;rw[eqT];exact hl ts h
  |non=>rfl
  |bl b=>simp[eqT]
  |int b=>simp[eqT]
  |str b=>simp[eqT]
  |dct ks ts=>simp[Zj]at h
  |scr ns=>simp[Zj]at h
theorem ZmN{t:T}(h:Zj 60 t=true):cmpT .NotEq t t=some false:=by
 show(if(ZbA t t || (Zj 60 t&&Zj 60 t))=true then some (!eqT t t)else none)=_
 rw[h,Bool.true_and,Bool.or_true,if_pos rfl,ZkG 60 t h]
 rfl
theorem ZkJ{k:Nat}{w:List Nat}(h:ZdV w=true):Zj k (.str w)=true:=by
 unfold Zj
 show(w.toArray.all λc=>decide (c<0x110000))=true
 rw[List.all_toArray,List.all_eq_true]
 intro c hc
 have:c<200:=by
  unfold ZdV at h
  simp only[Bool.and_eq_true]at h
  have:=of_decide_eq_true (List.all_eq_true.mp h.2 c hc)
  unfold lett at this
  simp at this
  omega
 exact decide_eq_true (by omega)
theorem Jz{k:Nat}:∀{ts:List T},(∀t∈ts,Zj k t=true)->Z4 k ts=true
 |[],_=>by unfold Z4;rfl
 |t::ts,h=>by
  unfold Z4
  rw[h t List.mem_cons_self,Jz λu hu=>h u (List.mem_cons_of_mem _ hu)]
  rfl
theorem ZbY{k:Nat}{w:List Nat}(h:∀c∈w,c<1114112):Zj k (.str w)=true:=by
 unfold Zj
 show(w.toArray.all λc=>decide (c<0x110000))=true
 rw[List.all_toArray,List.all_eq_true]
 exact λc hc=>decide_eq_true (h c hc)
noncomputable def Kd(k:List Nat):Prop:=k=wNot∨k=wL
noncomputable def st(S:List (List Nat)):List T:=S.reverse.map .str
theorem Zb7(w:List Nat)(S:List (List Nat)):st (w::S)=st S++[.str w]:=by simp[st]
theorem Zk3(S:List (List Nat)):(st S).length=S.length:=by simp[st]
noncomputable def duS:Du->List Nat
 |.wish=>[119,105,115,104]
 |.name=>[110,97,109,101]
 |.sign=>[115,105,103,110]
 |.num=>[110,117,109,98,101,114]
 |.beh=>[98,101,104,105,110,100]
theorem J7{m:Mem}{ts:List T}:view (.c m.length) (m++[some (false,ts)])=some (.lst ts):=by unfold view;dsimp only;rw[ZaK]
section
variable{call:Nat->List W->Mem->Res W}{gv:List T}{env:Env}{m m1 m2:Mem}{a b:E}{x y r:T}{w1 w2:W}
theorem ZdG{op:PySem.CmpOp}{k:Bool}(h1:ev call gv a env m=.ok w1 m1)(h2:ev call gv b env m1=.ok w2 m2)(v1:view w1 m2=some x)(v2:view w2 m2=some y)(h3:cmpT op x y=some k):ev call gv (.cmp op a b) env m=.ok (.t (.bl k)) m2:=by
 rw[ev,h1,Zf,h2,Zf,v1,v2]
 show pur ((cmpT op x y).map .bl) m2=_
 rw[h3];rfl
theorem ev_ixV(h1:ev call gv a env m=.ok w1 m1)(h2:ev call gv b env m1=.ok w2 m2)(v1:view w1 m2=some x)(v2:view w2 m2=some y)(h3:ixT x y=some r):ev call gv (.ix a b) env m=.ok (.t r) m2:=by
 rw[ev,h1,Zf,h2,Zf,v1,v2]
 show pur (ixT x y) m2=_
 rw[h3];rfl
theorem Zlr{i:Nat}{xs:List T}{t:T}(hi:env[i]?=some (some (.c m.length))):ev call gv (.mth .popat (.var i) (.cons (.con (.int (-1))) .nil)) env (m++[some (false,xs++[t])])=.ok (.t t) (m++[some (false,xs)]):=by
 rw[ev,Za hi,Zf]
 rw[show tyM .popat (.c m.length) (m++[some (false,xs++[t])])=true by unfold tyM;dsimp only;rw[ZaK]]
 rw[if_pos rfl,Qy (Zb _) ZcI,Zf]
 unfold doM
 dsimp only
 rw[Zae,Zad,Zf,Zf,ZaK]
 dsimp only
 have hx:ixOf (xs++[t]).length (-1)=some xs.length:=by
  unfold ixOf
  rw[if_neg (by decide),if_pos (by simp;omega)]
  congr 1
  simp
  omega
 unfold mutM
 dsimp only
 rw[hx]
 dsimp only
 rw[List.getElem?_append_right (Nat.le_refl _),Nat.sub_self]
 show Res.ok (W.t t) ((m++[some (false,xs++[t])]).set m.length (some (false,(xs++[t]).eraseIdx xs.length)))=_
 rw[List.set_append_right _ _ (Nat.le_refl _),Nat.sub_self,List.eraseIdx_append_of_length_le (Nat.le_refl _),Nat.sub_self]
 simp
end
theorem ZlU{S:List (List Nat)}(hS:∀k∈S,Kd k):Zj 60 (.lst (st S))=true:=by
 rw[Zj]
 refine Jz λt ht=>?_
 obtain⟨w,hw,rfl⟩:=List.mem_map.mp ht
 rcases hS w (List.mem_reverse.mp hw)with rfl|rfl<;>exact ZbY (by decide)
theorem ZjL{S:List (List Nat)}(hS:∀k∈S,Kd k):cmpT .NotEq (.lst (st S)) (.lst [])=some (!S.isEmpty)/\cmpT .Eq (.lst (st S)) (.lst [])=some S.isEmpty:=by
 have hd:=ZlU hS
 have h0:Zj 60 (.lst [])=true:=by rw[Zj];rfl
 have he:eqT (.lst (st S)) (.lst [])=S.isEmpty:=by
  cases S with
  |nil=>rfl
  |cons w S =>
   rw[Zb7]
   cases st S<;>rfl
 constructor
 ·show(if(ZbA (.lst (st S)) (.lst []) || (Zj 60 (.lst (st S))&&Zj 60 (.lst [])))=true then some (!eqT (.lst (st S)) (.lst []))else none)=_
  rw[hd,h0,he,if_pos (by simp)]
 ·show(if(ZbA (.lst (st S)) (.lst []) || (Zj 60 (.lst (st S))&&Zj 60 (.lst [])))=true then some (eqT (.lst (st S)) (.lst []))else none)=_
  rw[hd,h0,he,if_pos (by simp)]
theorem Zhg{n:Nat}{m:Mem}:∀(S:List (List Nat)),(∀k∈S,Kd k)->∀fu,S.length<fu->Qz (λenv m=>(ev (cf n) gv (.and (.cmp .NotEq (.var 0) (.lst .nil)) (.cmp .Eq (.ix (.var 0) (.neg (.con (.int 1)))) (.con (.str [110,111,116])))) env m).bind ZQ) (λenv m=>ex (cf n) gv XN env m) fu [some (.c m.length)] (m++[some (false,st S)])=.ok (.next [some (.c m.length)]) (m++[some (false,st (ended S))]):=by
 have c1:∀S,(∀k∈S,Kd k)->ev (cf n) gv (.cmp .NotEq (.var 0) (.lst .nil)) [some (.c m.length)] (m++[some (false,st S)])=.ok (.t (.bl (!S.isEmpty))) (m++[some (false,st S)]):=λS hS=>ZdG (Za rfl) (show ev (cf n) gv (.lst .nil) _ _=.ok (.t (.lst [])) _ from rfl) J7 rfl (ZjL hS).1
 intro S
 induction S with
 |nil =>
  intro hS fu hf
  obtain⟨fu,rfl⟩:∃g,fu=g+1:=⟨fu-1,by omega⟩
  exact ZbK (show(ev (cf n) gv _ _ _).bind ZQ=_ by rw[ZG (c1 [] hS)];rfl)
 |cons w S ih =>
  intro hS fu hf
  obtain⟨fu,rfl⟩:∃g,fu=g+1:=⟨fu-1,by omega⟩
  have c2:ev (cf n) gv (.cmp .Eq (.ix (.var 0) (.neg (.con (.int 1)))) (.con (.str [110,111,116]))) [some (.c m.length)] (m++[some (false,st (w::S))])=.ok (.t (.bl (w==wNot))) (m++[some (false,st (w::S))]):=by
   refine Zm (ev_ixV (Za rfl) (show ev (cf n) gv (.neg (.con (.int 1))) _ _=.ok (.t (.int (-1))) _ from rfl) J7 rfl ?_) (Zb _) (ZbJ _ _)
   show atT (st (w::S)) (-1)=some (.str w)
   rw[Zb7]
   unfold atT ixOf
   rw[if_neg (by decide),if_pos (by simp;omega)]
   have e:(-1+(((st S++[T.str w]).length:Nat):Int)).toNat=(st S).length:=by simp;omega
   rw[e]
   simp
  cases hw:w==wNot with
  |false =>
   rw[hw]at c2
   rw[show ended (w::S)=w::S by unfold ended;rw[hw];rfl]
   exact ZbK (show(ev (cf n) gv _ _ _).bind ZQ=_ by rw[(Js (c1 _ hS)).trans c2];rfl)
  |true =>
   rw[hw]at c2
   rw[show ended (w::S)=ended S by rw[ended,hw];rfl]
   rw[Zdi (show(ev (cf n) gv _ _ _).bind ZQ=.ok true (m++[some (false,st (w::S))]) by rw[(Js (c1 _ hS)).trans c2];rfl) (show ex (cf n) gv XN [some (.c m.length)] (m++[some (false,st (w::S))])=.ok (.next [some (.c m.length)]) (m++[some (false,st S)]) by
    unfold XN
    rw[Zb7,Zbc (Zlr rfl),ex])]
   exact ih (λk hk=>hS k (List.mem_cons_of_mem _ hk)) fu (by simp at hf;omega)
theorem Zd9{m:Mem}{c c':Option (Bool×List T)}:(m++[c']).take (m++[c]).length=m++[c']:=by
 rw[show(m++[c]).length=(m++[c']).length by simp,List.take_length]
theorem ZkH{n:Nat}{m:Mem}{S:List (List Nat)}(hS:∀k∈S,Kd k)(hl:S.length<=100):cf (n+1) 23 [.c m.length] (m++[some (false,st S)])=.ok (.t (.str (duS .beh))) (m++[some (false,st (ended S))]):=by
 refine ZZ (Zji _ _ _) rfl (show ex (cf n) gv ZaS [some (.c m.length)] (m++[some (false,st S)])=.ok (.ret (.t (.str (duS .beh)))) (m++[some (false,st (ended S))])from ?_) ?_
 ·unfold ZaS
  rw[ex,Zhg S hS turns (by unfold turns;omega),Zf]
  exact Zg (Zb _)
 ·show Res.ok _ ((m++[some (false,st (ended S))]).take (m++[some (false,st S)]).length)=_
  rw[Zd9]
theorem ZeP(p:Nat->Bool)(cs:List Nat):(cs.map λc=>T.str [c]).flatMap (λt=>match t with|.str [c]=>if p c then[T.str [c]]else[]|_=>[])=(cs.filter p).map λc=>.str [c]:=by
 induction cs with
 |nil=>rfl
 |cons c cs ih =>
  rw[List.map_cons,List.flatMap_cons,ih,List.filter_cons]
  dsimp only
  split<;>simp_all
theorem Zgs(p:Nat->Bool)(cs:List Nat):(((cs.filter p).length:Int)==(cs.length:Int))=cs.all p:=by
 cases h:cs.all p with
 |true =>
  rw[List.filter_eq_self.mpr λa ha=>List.all_eq_true.mp h a ha]
  simp
 |false =>
  rw[beq_eq_false_iff_ne]
  intro z
  have z:(cs.filter p).length=cs.length:=by omega
  have e:cs.filter p=cs:=(List.filter_sublist).eq_of_length z
  rw[<-e]at h
  have:(cs.filter p).all p=true:=List.all_eq_true.mpr λa ha=>(List.mem_filter.mp ha).2
  rw[this]at h
  cases h
theorem ZlV{n:Nat}{cs:List Nat}{m:Mem}{e1:Option W}(hl:cs.length<=lim):ev (cf n) gv Zby [some (.t (.str cs)),e1] m=.ok (.t (.lst ((cs.filter λc=>decide (c∈lett)).map λc=>.str [c]))) m:=by
 have h:=Qi (f:=Q3 (cf n) gv (.cons (.cmp .In (.var 0) (.con (.str lett))) .nil) Zbu) (tg:=.nm 0) (env:=[none]) (m:=m)
  (g:=λt=>match t with|.str [c]=>if decide (c∈lett)then[.str [c]]else[]|_=>[]) (cs.map λc=>.str [c]) (λt ht=>by
   obtain⟨c,_,rfl⟩:=List.mem_map.mp ht
   refine⟨[some (.t (.str [c]))],rfl,?_⟩
   have hc:ev (cf n) gv (.cmp .In (.var 0) (.con (.str lett))) [some (.t (.str [c]))] m=.ok (.t (.bl (decide (c∈lett)))) m:=Zm (Za rfl) (Zb _) (ZkV _ _)
   dsimp only
   cases q:decide (c∈lett)with
   |true=>rw[q]at hc;exact Zk0 hc (ZdE (Za rfl))
   |false=>rw[q]at hc;exact Zk1 hc)
 rw[ZeP]at h
 exact Q9 (x:=.t (.str cs)) (m0:=m) (m1:=m) (Za rfl) (by simp[ZS,Zc3,hl]) h (by rw[List.length_map];exact Nat.le_trans (List.length_filter_le _ _) hl)
theorem ZlW(cs:List Nat):cmpT .NotIn (.str cs) (.lst [.str [97,110,121],.str [105,115],.str [98,121],.str [110,111,116],.str [97,110,100],.str [111,114]])=some (!ZbF cs):=by
 have h:hasT (.str cs) (.lst [.str [97,110,121],.str [105,115],.str [98,121],.str [110,111,116],.str [97,110,100],.str [111,114]])=some (ZbF cs):=by simp[hasT,flat,eqT,six,ZbF]
 have h2:inT (.str cs) (.lst [.str [97,110,121],.str [105,115],.str [98,121],.str [110,111,116],.str [97,110,100],.str [111,114]])=some (ZbF cs):=by
  rw[<-h]
  rcases cs with _|⟨c,_|⟨d,r⟩⟩<;>rfl
 show(inT (.str cs) _).map (!·)=_
 rw[h2];rfl
theorem JT{call:Nat->List W->Mem->Res W}{gv:List T}{env:Env}{m:Mem}{a b:E}{p q:Bool}(h1:ev call gv a env m=.ok (.t (.bl p)) m)(h2:ev call gv b env m=.ok (.t (.bl q)) m):ev call gv (.and a b) env m=.ok (.t (.bl (p&&q))) m:=by
 cases p with
 |true=>exact(Js h1).trans h2
 |false=>exact ZG h1
theorem Zi0{call:Nat->List W->Mem->Res W}{gv:List T}{env:Env}{m:Mem}{a b:E}{p q:Bool}(h1:ev call gv a env m=.ok (.t (.bl p)) m)(h2:ev call gv b env m=.ok (.t (.bl q)) m):ev call gv (.or a b) env m=.ok (.t (.bl (p || q))) m:=by
 cases p with
 |true=>exact ZeQ h1
 |false=>exact(J5 h1).trans h2
theorem Zg8{n:Nat}{m:Mem}{w:List Nat}(hl:w.length<=lim):cf (n+1) 21 [.t (.str w)] m=.ok (.t (.bl (Z9 w))) m:=by
 refine ZZ (ZfS _ _ _) rfl (show ex (cf n) gv JD [some (.t (.str w)),none] m=.ok (.ret (.t (.bl (Z9 w)))) m from ?_) (ZP (cell:=false) rfl)
 unfold JD
 rw[Zt (ZlV hl)]
 dsimp only[List.set_cons_succ,List.set_cons_zero]
 refine Zg ((JT (Zm (Za rfl) (Zb _) (Zhp _ _)) (JT (Zm (Zv (Za rfl) ((ZbE _).trans (by rw[List.length_map]))) (Zv (Za rfl) (Zdz hl)) (Ze0 _ _)) (Zm (Za rfl) (show ev (cf n) gv (.lst (.cons (.con (.str [97,110,121])) (.cons (.con (.str [105,115])) (.cons (.con (.str [98,121])) (.cons (.con (.str [110,111,116])) (.cons (.con (.str [97,110,100])) (.cons (.con (.str [111,114])) .nil))))))) _ m=.ok (.t (.lst [.str [97,110,121],.str [105,115],.str [98,121],.str [110,111,116],.str [97,110,100],.str [111,114]])) m from rfl) (ZlW w)))).trans ?_)
 rw[Zgs]
 unfold Z9
 cases w with
 |nil=>rfl
 |cons c r =>
  rw[show((c::r)==[])=false from rfl,decide_eq_true (show 1<=(c::r).length by simp)]
  cases ZbF (c::r)<;>simp
theorem Zm9{n:Nat}{cs:List Nat}{m:Mem}{e1:Option W}(hl:cs.length<=lim):ev (cf n) gv Xp [some (.t (.str cs)),e1] m=.ok (.t (.lst ((cs.filter λc=>decide (c∈digs)).map λc=>.str [c]))) m:=by
 have h:=Qi (f:=Q3 (cf n) gv (.cons (.cmp .In (.var 0) (.con (.str digs))) .nil) Xh) (tg:=.nm 0) (env:=[none]) (m:=m)
  (g:=λt=>match t with|.str [c]=>if decide (c∈digs)then[.str [c]]else[]|_=>[]) (cs.map λc=>.str [c]) (λt ht=>by
   obtain⟨c,_,rfl⟩:=List.mem_map.mp ht
   refine⟨[some (.t (.str [c]))],rfl,?_⟩
   have hc:ev (cf n) gv (.cmp .In (.var 0) (.con (.str digs))) [some (.t (.str [c]))] m=.ok (.t (.bl (decide (c∈digs)))) m:=Zm (Za rfl) (Zb _) (ZkV _ _)
   dsimp only
   cases q:decide (c∈digs)with
   |true=>rw[q]at hc;exact Zk0 hc (ZdE (Za rfl))
   |false=>rw[q]at hc;exact Zk1 hc)
 rw[ZeP]at h
 exact Q9 (x:=.t (.str cs)) (m0:=m) (m1:=m) (Za rfl) (by simp[ZS,Zc3,hl]) h (by rw[List.length_map];exact Nat.le_trans (List.length_filter_le _ _) hl)
theorem ZiJ{n:Nat}{m:Mem}{w:List Nat}(hl:w.length<=lim):cf (n+1) 22 [.t (.str w)] m=.ok (.t (.bl (figB w))) m:=by
 refine ZZ (ZcL _ _ _) rfl (show ex (cf n) gv QF [some (.t (.str w)),none] m=.ok (.ret (.t (.bl (figB w)))) m from ?_) (ZP (cell:=false) rfl)
 unfold QF
 rw[Zt (Zm9 hl)]
 dsimp only[List.set_cons_succ,List.set_cons_zero]
 have hb:∀e1,ev (cf n) gv (.chn .LtE .LtE (.con (.int 1)) (.blt .len (.cons (.var 0) .nil)) (.con (.int 10))) [some (.t (.str w)),e1] m=.ok (.t (.bl (decide (1<=w.length)&&decide (w.length<=10)))) m:=λe1=>by
  rw[ev,Zb,Zf,Zv (Za rfl) (Zdz hl),Zf]
  simp only[view,Option.bind_some,c_le]
  by_cases h1:1<=w.length
  ·rw[decide_eq_true (show(1:Int)<=(w.length:Int) by omega)]
   dsimp only
   rw[Zb,Zf]
   simp only[view,Option.bind_some,c_le,h1,decide_true,Bool.true_and,Option.map_some,pur]
   congr 3
   exact decide_eq_decide.mpr (by omega)
  ·rw[decide_eq_false (show ¬(1:Int)<=(w.length:Int) by omega)]
   simp[h1]
 have h2:∀e1,e1=some (.t (.lst ((w.filter λc=>decide (c∈digs)).map λc=>.str [c])))->ev (cf n) gv (.cmp .Eq (.blt .len (.cons (.var 1) .nil)) (.blt .len (.cons (.var 0) .nil))) [some (.t (.str w)),e1] m=.ok (.t (.bl (w.all λc=>decide (c∈digs)))) m:=λe1 he=>by
  subst he
  refine(Zm (Zv (Za rfl) ((ZbE _).trans (by rw[List.length_map]))) (Zv (Za rfl) (Zdz hl)) (Ze0 _ _)).trans ?_
  rw[Zgs]
 cases w with
 |nil=>exact Zg (ZG (hb _))
 |cons c r =>
  refine Zg ((JT (hb _) (JT (h2 _ rfl) (Zi0 (Zm (Xn (Za rfl) (Zb _) ((x_str hl _).trans (by rw[at0];rfl))) (Zb _) (Zhp _ _)) (Zm (Za rfl) (Zb _) (ZbJ _ _))))).trans ?_)
  unfold figB
  rw[show(c::r).head?=some c from rfl,show(some c != some 48)=!([c]==[48]) by simp[bne],Bool.or_comm]
  simp only[Bool.and_assoc]
theorem in2{call:Nat->List W->Mem->Res W}{gv:List T}{env:Env}{m:Mem}{i:Nat}{w a b:List Nat}(h:env[i]?=some (some (.t (.str w)))):ev call gv (.cmp .In (.var i) (.tup (.cons (.con (.str a)) (.cons (.con (.str b)) .nil)))) env m=.ok (.t (.bl (w==a || w==b))) m:=
 Zm (Za h) (ZL (Zb _) (Zb _)) (by rw[ZiM,Bool.beq_comm (a:=w),Bool.beq_comm (a:=w)])
theorem ZcV{x y:T}(k:Bool):ixT (.lst [x,y]) (.int (b2i k))=some (if k then y else x):=by cases k<;>rfl
theorem ZaX{n:Nat}{m:Mem}{d:Du}{w:List Nat}{S:List (List Nat)}(hS:∀k∈S,Kd k)(hl:S.length<=12)(hw:w.length<=lim):match QW d w S with
  |none=>∃c,cf (n+2) 24 [.t (.str (duS d)),.t (.str w),.c m.length] (m++[some (false,st S)])=.ok (.t .non) (m++[some (false,c)])
  |some p=>cf (n+2) 24 [.t (.str (duS d)),.t (.str w),.c m.length] (m++[some (false,st S)])=.ok (.t (.str (duS p.1))) (m++[some (false,st p.2)]):=by
 have fr:∀{t:T}{c:List T},ex (cf (n+1)) gv Qj [some (.t (.str (duS d))),some (.t (.str w)),some (.c m.length)] (m++[some (false,st S)])=.ok (.ret (.t t)) (m++[some (false,c)])->cf (n+2) 24 [.t (.str (duS d)),.t (.str w),.c m.length] (m++[some (false,st S)])=.ok (.t t) (m++[some (false,c)]):=λ{t c} key=>by
  refine ZZ (ZfR _ _ _) rfl key ?_
  show Res.ok _ ((m++[some (false,c)]).take (m++[some (false,st S)]).length)=_
  rw[Zd9]
 have nd:∀{a:Du}{b:List Nat}{k:Bool}{env:Env}{mm:Mem},env[0]?=some (some (.t (.str (duS a))))->(duS a==b)=k->ev (cf (n+1)) gv (.cmp .Eq (.var 0) (.con (.str b))) env mm=.ok (.t (.bl k)) mm:=λ{a b k env mm} h e=>Zm (Za h) (Zb _) ((ZbJ _ _).trans (congrArg some e))
 have nm:∀{env:Env}{mm:Mem},env[1]?=some (some (.t (.str w)))->ev (cf (n+1)) gv (.call 21 (.cons (.var 1) .nil)) env mm=.ok (.t (.bl (Z9 w))) mm:=λ{env mm} h=>(ZF (Za h)).trans (Zg8 hw)
 have nf:∀{env:Env}{mm:Mem},env[1]?=some (some (.t (.str w)))->ev (cf (n+1)) gv (.call 22 (.cons (.var 1) .nil)) env mm=.ok (.t (.bl (figB w))) mm:=λ{env mm} h=>(ZF (Za h)).trans (ZiJ hw)
 have nE:∀{env:Env}{R:List (List Nat)},(∀k∈R,Kd k)->R.length<=100->env[2]?=some (some (.c m.length))->ev (cf (n+1)) gv (.call 23 (.cons (.var 2) .nil)) env (m++[some (false,st R)])=.ok (.t (.str (duS .beh))) (m++[some (false,st (ended R))]):=λ{env R} hR hr h=>(ZF (Za h)).trans (ZkH hR hr)
 have last:∀{a:Du}{k:Bool}{env:Env}{mm:Mem},env[0]?=some (some (.t (.str (duS a))))->env[1]?=some (some (.t (.str w)))->(duS a==duS .beh)=k->ev (cf (n+1)) gv (.ix (.lst (.cons (.con .non) (.cons (.con (.str [119,105,115,104])) .nil))) (.blt .int (.cons (.and (.cmp .Eq (.var 0) (.con (.str [98,101,104,105,110,100]))) (.cmp .In (.var 1) (.tup (.cons (.con (.str [97,110,100])) (.cons (.con (.str [111,114])) .nil))))) .nil))) env mm=.ok (.t (if(k&&(w==[97,110,100] || w==[111,114]))=true then .str [119,105,115,104]else .non)) mm:=λ{a k env mm} h0 h1 e=>Xn (Zbe (Zb _) (Zb _)) (Zv (JT (nd h0 e) (in2 h1)) (ZfE _)) (ZcV _)
 cases d with
 |wish =>
  have key:=@fr
  unfold Qj at key
  unfold QW
  dsimp only
  cases q1:(w==wNot || w==wL)with
  |true =>
   rw[if_pos rfl]
   have hk:Kd w:=by
    rw[Bool.or_eq_true]at q1
    exact q1.elim (λz=>.inl (eq_of_beq z)) λz=>.inr (eq_of_beq z)
   have run:∀x:T,x=(if decide (12<S.length+1)then T.non else .str [119,105,115,104])->cf (n+2) 24 [.t (.str (duS .wish)),.t (.str w),.c m.length] (m++[some (false,st S)])=.ok (.t x) (m++[some (false,st (w::S))]):=λx hx=>by
    subst hx
    refine key (Zw ((Js (nd rfl rfl)).trans ((in2 rfl).trans (by rw[q1]))) ?_)
    rw[Zbc (Zlu rfl rfl (by rw[Zk3];unfold lim;omega)),<-Zb7]
    refine Zg ((Xn (Zbe (Zb _) (Zb _)) (Zv (Zm (ZdO rfl (ZbE _)) (Zb _) (c_gt _ _)) (ZfE _)) (ZcV _)).trans ?_)
    have:decide ((12:Int)<((st (w::S)).length:Int))=decide (12<S.length+1):=decide_eq_decide.mpr (by rw[Zk3,List.length_cons];omega)
    rw[this]
   by_cases h12:12<S.length+1
   ·rw[if_pos h12]
    exact⟨_,run .non (by rw[decide_eq_true h12];rfl)⟩
   ·rw[if_neg h12]
    exact run _ (by rw[decide_eq_false h12];rfl)
  |false =>
   rw[if_neg Bool.false_ne_true]
   have s1:∀(sx k:Mi.S) (mm:Mem),ex (cf (n+1)) gv (.ife (.and (.cmp .Eq (.var 0) (.con (.str [119,105,115,104]))) (.cmp .In (.var 1) (.tup (.cons (.con (.str [110,111,116])) (.cons (.con (.str [40])) .nil))))) sx .done k) [some (.t (.str (duS .wish))),some (.t (.str w)),some (.c m.length)] mm=ex (cf (n+1)) gv k [some (.t (.str (duS .wish))),some (.t (.str w)),some (.c m.length)] mm:=λsx k mm=>Ze ((Js (nd rfl rfl)).trans ((in2 rfl).trans (by rw[q1])))
   have c2:∀mm,ev (cf (n+1)) gv (.and (.cmp .Eq (.var 0) (.con (.str [119,105,115,104]))) (.cmp .In (.var 1) (.tup (.cons (.con (.str [105,115])) (.cons (.con (.str [98,121])) .nil))))) [some (.t (.str (duS .wish))),some (.t (.str w)),some (.c m.length)] mm=.ok (.t (.bl (w==[105,115] || w==[98,121]))) mm:=λmm=>(Js (nd rfl rfl)).trans (in2 rfl)
   cases q2:(w==[105,115] || w==[98,121])with
   |true =>
    rw[q2]at c2
    rw[if_pos rfl]
    exact key ((s1 _ _ _).trans (Zw (c2 _) (Zg (Zb _))))
   |false =>
    rw[q2]at c2
    rw[if_neg Bool.false_ne_true]
    have c3:∀mm,ev (cf (n+1)) gv (.or (.and (.cmp .Eq (.var 0) (.con (.str [119,105,115,104]))) (.cmp .Eq (.var 1) (.con (.str [97,110,121])))) (.and (.cmp .Eq (.var 0) (.con (.str [110,97,109,101]))) (.call 21 (.cons (.var 1) .nil)))) [some (.t (.str (duS .wish))),some (.t (.str w)),some (.c m.length)] mm=.ok (.t (.bl (w==[97,110,121]))) mm:=λmm=>by
     have:=Zi0 (JT (nd (a:=.wish) (b:=[119,105,115,104]) (k:=true) (env:=[some (.t (.str (duS .wish))),some (.t (.str w)),some (.c m.length)]) (mm:=mm) rfl rfl) (Zm (Za (i:=1) rfl) (Zb (.str [97,110,121])) (ZbJ w _))) (JT (nd (a:=.wish) (b:=[110,97,109,101]) (k:=false) rfl rfl) (nm rfl))
     refine this.trans ?_
     rw[Bool.true_and,Bool.false_and,Bool.or_false]
    cases q3:(w==[97,110,121])with
    |true =>
     rw[q3]at c3
     rw[if_pos rfl]
     exact key ((s1 _ _ _).trans ((Ze (c2 _)).trans (Zw (c3 _) (Zg (nE hS (by omega) rfl)))))
    |false =>
     rw[q3]at c3
     rw[if_neg Bool.false_ne_true]
     have c4:∀x:T,x=(if Z9 w then T.str [115,105,103,110]else .non)->cf (n+2) 24 [.t (.str (duS .wish)),.t (.str w),.c m.length] (m++[some (false,st S)])=.ok (.t x) (m++[some (false,st S)]):=λx hx=>by
      subst hx
      exact key ((s1 _ _ _).trans ((Ze (c2 _)).trans ((Ze (c3 _)).trans (Zw (nd rfl rfl) (Zg (Xn (Zbe (Zb _) (Zb _)) (Zv (nm rfl) (ZfE _)) (ZcV _)))))))
     cases q4:Z9 w with
     |true=>rw[if_pos rfl];exact c4 _ (by rw[q4];rfl)
     |false=>rw[if_neg Bool.false_ne_true];exact⟨_,c4 .non (by rw[q4];rfl)⟩
 |name =>
  have key:=@fr
  unfold Qj at key
  unfold QW
  dsimp only
  have f1:∀{sx k:Mi.S}{e:E}{mm:Mem},ex (cf (n+1)) gv (.ife (.and (.cmp .Eq (.var 0) (.con (.str [119,105,115,104]))) e) sx .done k) [some (.t (.str (duS .name))),some (.t (.str w)),some (.c m.length)] mm=ex (cf (n+1)) gv k [some (.t (.str (duS .name))),some (.t (.str w)),some (.c m.length)] mm:=λ{sx k e mm}=>Ze (ZG (nd rfl rfl))
  have c3:∀mm,ev (cf (n+1)) gv (.or (.and (.cmp .Eq (.var 0) (.con (.str [119,105,115,104]))) (.cmp .Eq (.var 1) (.con (.str [97,110,121])))) (.and (.cmp .Eq (.var 0) (.con (.str [110,97,109,101]))) (.call 21 (.cons (.var 1) .nil)))) [some (.t (.str (duS .name))),some (.t (.str w)),some (.c m.length)] mm=.ok (.t (.bl (Z9 w))) mm:=λmm=>(J5 (ZG (nd rfl rfl))).trans ((Js (nd rfl rfl)).trans (nm rfl))
  cases q4:Z9 w with
  |true =>
   rw[q4]at c3
   rw[if_pos rfl]
   exact key (f1.trans (f1.trans (Zw (c3 _) (Zg (nE hS (by omega) rfl)))))
  |false =>
   rw[q4]at c3
   rw[if_neg Bool.false_ne_true]
   exact⟨_,key (f1.trans (f1.trans ((Ze (c3 _)).trans ((Ze (nd rfl rfl)).trans ((Ze (nd rfl rfl)).trans ((Ze (ZG (nd rfl rfl))).trans ((Ze (ZG (nd rfl rfl))).trans (Zg (last (a:=.name) (k:=false) rfl rfl rfl)))))))))⟩
 |sign =>
  have key:=@fr
  unfold Qj at key
  unfold QW
  dsimp only
  have f1:∀{sx k:Mi.S}{e:E}{mm:Mem},ex (cf (n+1)) gv (.ife (.and (.cmp .Eq (.var 0) (.con (.str [119,105,115,104]))) e) sx .done k) [some (.t (.str (duS .sign))),some (.t (.str w)),some (.c m.length)] mm=ex (cf (n+1)) gv k [some (.t (.str (duS .sign))),some (.t (.str w)),some (.c m.length)] mm:=λ{sx k e mm}=>Ze (ZG (nd rfl rfl))
  have c4:∀x:T,x=(if(w==[62,61] || w==[60,61])=true then T.str [110,117,109,98,101,114]else .non)->cf (n+2) 24 [.t (.str (duS .sign)),.t (.str w),.c m.length] (m++[some (false,st S)])=.ok (.t x) (m++[some (false,st S)]):=λx hx=>by
   subst hx
   exact key (f1.trans (f1.trans ((Ze ((J5 (ZG (nd rfl rfl))).trans (ZG (nd rfl rfl)))).trans ((Ze (nd rfl rfl)).trans (Zw (nd rfl rfl) (Zg (Xn (Zbe (Zb _) (Zb _)) (Zv (in2 rfl) (ZfE _)) (ZcV _))))))))
  cases q4:(w==[62,61] || w==[60,61])with
  |true=>rw[if_pos rfl];exact c4 _ (by rw[q4];rfl)
  |false=>rw[if_neg Bool.false_ne_true];exact⟨_,c4 .non (by rw[q4];rfl)⟩
 |num =>
  have key:=@fr
  unfold Qj at key
  unfold QW
  dsimp only
  have f1:∀{sx k:Mi.S}{e:E}{mm:Mem},ex (cf (n+1)) gv (.ife (.and (.cmp .Eq (.var 0) (.con (.str [119,105,115,104]))) e) sx .done k) [some (.t (.str (duS .num))),some (.t (.str w)),some (.c m.length)] mm=ex (cf (n+1)) gv k [some (.t (.str (duS .num))),some (.t (.str w)),some (.c m.length)] mm:=λ{sx k e mm}=>Ze (ZG (nd rfl rfl))
  have c6:∀mm,ev (cf (n+1)) gv (.and (.cmp .Eq (.var 0) (.con (.str [110,117,109,98,101,114]))) (.call 22 (.cons (.var 1) .nil))) [some (.t (.str (duS .num))),some (.t (.str w)),some (.c m.length)] mm=.ok (.t (.bl (figB w))) mm:=λmm=>(Js (nd rfl rfl)).trans (nf rfl)
  cases q4:figB w with
  |true =>
   rw[q4]at c6
   rw[if_pos rfl]
   exact key (f1.trans (f1.trans ((Ze ((J5 (ZG (nd rfl rfl))).trans (ZG (nd rfl rfl)))).trans ((Ze (nd rfl rfl)).trans ((Ze (nd rfl rfl)).trans (Zw (c6 _) (Zg (nE hS (by omega) rfl))))))))
  |false =>
   rw[q4]at c6
   rw[if_neg Bool.false_ne_true]
   exact⟨_,key (f1.trans (f1.trans ((Ze ((J5 (ZG (nd rfl rfl))).trans (ZG (nd rfl rfl)))).trans ((Ze (nd rfl rfl)).trans ((Ze (nd rfl rfl)).trans ((Ze (c6 _)).trans ((Ze (ZG (nd rfl rfl))).trans (Zg (last (a:=.num) (k:=false) rfl rfl rfl)))))))))⟩
 |beh =>
  have key:=@fr
  unfold Qj at key
  unfold QW
  dsimp only
  have f1:∀{sx k:Mi.S}{e:E}{mm:Mem},ex (cf (n+1)) gv (.ife (.and (.cmp .Eq (.var 0) (.con (.str [119,105,115,104]))) e) sx .done k) [some (.t (.str (duS .beh))),some (.t (.str w)),some (.c m.length)] mm=ex (cf (n+1)) gv k [some (.t (.str (duS .beh))),some (.t (.str w)),some (.c m.length)] mm:=λ{sx k e mm}=>Ze (ZG (nd rfl rfl))
  have c7:ev (cf (n+1)) gv (.and (.cmp .Eq (.var 0) (.con (.str [98,101,104,105,110,100]))) (.and (.cmp .Eq (.var 1) (.con (.str [41]))) (.cmp .NotEq (.var 2) (.lst .nil)))) [some (.t (.str (duS .beh))),some (.t (.str w)),some (.c m.length)] (m++[some (false,st S)])=.ok (.t (.bl (w==wR&&!S.isEmpty))) (m++[some (false,st S)]):=(Js (nd rfl rfl)).trans (JT (Zm (Za rfl) (Zb _) (ZbJ _ _)) (ZdG (Za rfl) (show ev (cf (n+1)) gv (.lst .nil) _ _=.ok (.t (.lst [])) _ from rfl) J7 rfl (ZjL hS).1))
  cases q4:(w==wR&&!S.isEmpty)with
  |true =>
   rw[q4]at c7
   rw[if_pos rfl]
   have hne:S≠[]:=by
    rw[Bool.and_eq_true]at q4
    intro z
    rw[z]at q4
    exact absurd q4.2 (by simp)
   obtain⟨x,r,rfl⟩:=List.exists_cons_of_ne_nil hne
   refine key (f1.trans (f1.trans ((Ze ((J5 (ZG (nd rfl rfl))).trans (ZG (nd rfl rfl)))).trans ((Ze (nd rfl rfl)).trans ((Ze (nd rfl rfl)).trans ((Ze (ZG (nd rfl rfl))).trans (Zw c7 ?_)))))))
   rw[Zb7,Zbc (Zlr rfl)]
   exact Zg (nE (λk hk=>hS k (List.mem_cons_of_mem _ hk)) (by simp at hl;omega) rfl)
  |false =>
   rw[q4]at c7
   rw[if_neg Bool.false_ne_true]
   have c8:∀x:T,x=(if(w==[97,110,100] || w==[111,114])=true then T.str [119,105,115,104]else .non)->cf (n+2) 24 [.t (.str (duS .beh)),.t (.str w),.c m.length] (m++[some (false,st S)])=.ok (.t x) (m++[some (false,st S)]):=λx hx=>by
    subst hx
    exact key (f1.trans (f1.trans ((Ze ((J5 (ZG (nd rfl rfl))).trans (ZG (nd rfl rfl)))).trans ((Ze (nd rfl rfl)).trans ((Ze (nd rfl rfl)).trans ((Ze (ZG (nd rfl rfl))).trans ((Ze c7).trans (Zg (last (a:=.beh) (k:=true) rfl rfl rfl)))))))))
   cases q5:(w==[97,110,100] || w==[111,114])with
   |true=>rw[if_pos rfl];exact c8 _ (by rw[q5];rfl)
   |false=>rw[if_neg Bool.false_ne_true];exact⟨_,c8 .non (by rw[q5];rfl)⟩
theorem strs_map:∀ws:List (List Nat),strs? (ws.map T.str)=some ws
 |[]=>rfl
 |w::r=>by
  show(strs? (r.map T.str)).map (w::·)=_
  rw[strs_map r];rfl
noncomputable def pieces(x:List Nat)(ws:List (List Nat)):T:=.lst ((parted x ws).map wl)
theorem Zes{n:Nat}{m:Mem}{ws:List (List Nat)}{x:List Nat}(hl:ws.length<1000):cf (n+1) 27 [.t (wl ws),.t (.str x)] m=.ok (.t (pieces x ws)) m:=by
 refine ZZ (Zho _ _ _) rfl (show ex (cf n) gv Xv [some (.t (wl ws)),some (.t (.str x)),none,none,none] m=.ok (.ret (.t (pieces x ws))) m from ?_) (ZP (cell:=false) rfl)
 unfold Xv
 refine Zg ?_
 have e:ptT (wl ws) (.str x)=some (pieces x ws):=by
  show((strs? (ws.map T.str)).bind λws=>if ws.length<1000 then some (T.lst ((parted x ws).map λp=>.lst (p.map .str)))else none)=_
  rw[strs_map]
  show(if ws.length<1000 then some (T.lst ((parted x ws).map λp=>.lst (p.map .str)))else none)=_
  rw[if_pos hl];rfl
 have v0:ev (cf n) gv (.var 0) [some (.t (wl ws)),some (.t (.str x)),none,none,none] m=.ok (.t (wl ws)) m:=Za rfl
 have v1:ev (cf n) gv (.var 1) [some (.t (wl ws)),some (.t (.str x)),none,none,none] m=.ok (.t (.str x)) m:=Za rfl
 rw[ev,v0]
 show(ev (cf n) gv (.var 1) [some (.t (wl ws)),some (.t (.str x)),none,none,none] m).bind (λy m=>pur ((view (.t (wl ws)) m).bind λx=>(view y m).bind λy=>ptT x y) m)=_
 rw[v1]
 show pur (ptT (wl ws) (.str x)) m=_
 rw[e];rfl
theorem Zns{s:List (List Nat)}{k:Nat}(h:k<s.length):ixT (wl s) (.int (k:Int))=some (.str (wat s k)):=by
 show atT (s.map T.str) (k:Int)=_
 unfold atT ixOf
 rw[if_pos (by omega),if_pos (by rw[List.length_map];omega)]
 show(s.map T.str)[(k:Int).toNat]?=_
 rw[Int.toNat_natCast,List.getElem?_map,List.getElem?_eq_getElem h]
 unfold wat
 rw[List.getElem?_eq_getElem h]
 rfl
theorem ZkM{α:Type}(a:α)(r:List α):cut (a::r) (some 1) none=r:=by
 unfold cut ZcK
 simp
theorem Znh{α:Type}(a z:α)(r:List α):cut (a::(r++[z])) (some 1) (some (-1))=r:=by
 have e1:ZcK (a::(r++[z])).length 0 (some 1)=1:=by simp[ZcK]
 have e2:ZcK (a::(r++[z])).length (a::(r++[z])).length (some (-1))=r.length+1:=by
  show(-1+(((a::(r++[z])).length:Nat):Int)).toNat=_
  simp only[List.length_cons,List.length_append,List.length_nil]
  omega
 unfold cut
 rw[e1,e2,Nat.add_sub_cancel,List.drop_succ_cons,List.drop_zero,List.take_left]
section
variable{n:Nat}{m:Mem}{s:List (List Nat)}
theorem Zfa{x:List Nat}{e2:Option W}(hl:s.length<1000)(hp:parted x s=[s]):ex (cf (n+1)) gv Zz [some (.t (wl s)),some (.t (.str x)),e2] m=.ok (.next [some (.t (wl s)),some (.t (.str x)),some (.t (pieces x s))]) m:=by
 unfold Zz
 rw[Zt ((Zn (Za rfl) (Za rfl)).trans (Zes hl))]
 dsimp only[List.set_cons_succ,List.set_cons_zero]
 rw[Ze (Zm (k:=false) (Zv (Za rfl) (ZbE _)) (Zb _) (by rw[hp,c_gt];rfl)),ex]
noncomputable def gPc(N:Nat)(t:T):List T:=match t with
 |.lst ts=>match strs? ts with
  |some ws=>[ZX N ws]
  |none=>[]
 |_=>[]
theorem Zln(N:Nat)(p:List (List Nat)):gPc N (wl p)=[ZX N p]:=by
 show(match strs? (p.map T.str)with
  |some ws=>[ZX N ws]
  |none=>[])=_
 rw[strs_map]
theorem ZkX{x:List Nat}{e2:Option W}{N:Nat}(hl:s.length<1000)(hp:1<(parted x s).length)(hp2:(parted x s).length<=lim)(hq:∀p∈parted x s,cf (n+1) 28 [.t (wl p)] m=.ok (.t (ZX N p)) m):ex (cf (n+1)) gv Zz [some (.t (wl s)),some (.t (.str x)),e2] m=.ok (.ret (.t (.tup [.str x,.tup ((parted x s).map (ZX N))]))) m:=by
 unfold Zz
 rw[Zt ((Zn (Za rfl) (Za rfl)).trans (Zes hl))]
 dsimp only[List.set_cons_succ,List.set_cons_zero]
 refine Zw (Zm (k:=true) (Zv (Za rfl) (ZbE _)) (Zb _) (by rw[c_gt,List.length_map];simp;omega)) (Zg (ZL (Za rfl) (Zv ?_ (Zgk _))))
 have h:=Qi (f:=Q3 (cf (n+1)) gv .nil Zbt) (tg:=.nm 0) (env:=[none]) (m:=m) (g:=gPc N) ((parted x s).map wl) (λt ht=>by
  obtain⟨p,hpm,rfl⟩:=List.mem_map.mp ht
  exact⟨[some (.t (wl p))],rfl,by rw[Zln];exact turn0 (ZdE ((ZF (Za rfl)).trans (hq p hpm)))⟩)
 have e:((parted x s).map wl).flatMap (gPc N)=(parted x s).map (ZX N):=by
  rw[List.flatMap_map,show(λp=>gPc N (wl p))=λp=>[ZX N p]from funext (Zln N)]
  exact JS _ _
 rw[e]at h
 exact Q9 (x:=.t (pieces x s)) (m0:=m) (m1:=m) (Za rfl) rfl h (by rw[List.length_map];exact hp2)
theorem Zdh{k:S}(hl:s.length<1000)(h1:parted wOr s=[s])(h2:parted wAnd s=[s]):ex (cf (n+1)) gv (.forr (.nm 1) (.lst (.cons (.con (.str [111,114])) (.cons (.con (.str [97,110,100])) .nil))) Zz k) [some (.t (wl s)),none,none] m=ex (cf (n+1)) gv k [some (.t (wl s)),some (.t (.str wAnd)),some (.t (pieces wAnd s))] m:=by
 refine XX (x:=.t (.lst [.str wOr,.str wAnd])) (m0:=m) (m1:=m) rfl rfl ?_
 show(ex (cf (n+1)) gv Zz [some (.t (wl s)),some (.t (.str wOr)),none] m).bind _=_
 rw[Zfa hl h1]
 show(ex (cf (n+1)) gv Zz [some (.t (wl s)),some (.t (.str wAnd)),some (.t (pieces wOr s))] m).bind _=_
 rw[Zfa hl h2]
 rfl
theorem Zgz{t:T}(h:ex (cf n) gv Z8 [some (.t (wl s)),none,none] m=.ok (.ret (.t t)) m):cf (n+1) 28 [.t (wl s)] m=.ok (.t t) m:=
 ZZ (ZfQ _ _ _) rfl h (ZP (cell:=false) rfl)
theorem ZjA{k:Nat}{i:Int}{e1 e2:Option W}(h:k<s.length)(hi:i=(k:Int):=by rfl):ev (cf n) gv (.ix (.var 0) (.con (.int i))) [some (.t (wl s)),e1,e2] m=.ok (.t (.str (wat s k))) m:=by subst hi;exact Xn (Za rfl) (Zb _) (Zns h)
theorem ZdW{k:Nat}{i:Int}{e1 e2:Option W}{x:List Nat}(h:k<s.length)(hi:i=(k:Int):=by rfl):ev (cf n) gv (.cmp .Eq (.ix (.var 0) (.con (.int i))) (.con (.str x))) [some (.t (wl s)),e1,e2] m=.ok (.t (.bl (wat s k==x))) m:=Zm (ZjA h hi) (Zb _) (ZbJ _ _)
end
theorem Zkv(w a b c:List Nat):cmpT .In (.str w) (.tup [.str a,.str b,.str c])=some (a==w || (b==w || c==w)):=by
 have h:hasT (.str w) (.tup [.str a,.str b,.str c])=some (a==w || (b==w || c==w)):=by simp[hasT,flat,eqT]
 rw[<-h]
 show inT (.str w) (.tup [.str a,.str b,.str c])=_
 rcases w with _|⟨c,_|⟨d,r⟩⟩<;>rfl
theorem ZkY{n:Nat}{m:Mem}{s:List (List Nat)}{e1 e2:Option W}(h:0<s.length):ev (cf n) gv (.cmp .In (.ix (.var 0) (.con (.int 0))) (.tup (.cons (.con (.str [97,110,121])) (.cons (.con (.str [105,115])) (.cons (.con (.str [98,121])) .nil))))) [some (.t (wl s)),e1,e2] m=.ok (.t (.bl (([97,110,121]==wat s 0) || (([105,115]==wat s 0) || ([98,121]==wat s 0))))) m:=
 Zm (ZjA (k:=0) h) (ZfK (Zb _) (Zb _) (Zb _)) (Zkv _ _ _ _)
theorem Zfb{n:Nat}{m:Mem}{s:List (List Nat)}{t:T}(hl:s.length<1000)(h:Sg 0 s t)(h0:(wat s 0==wNot)=false)(h1:(wat s 0==wL)=false)(h2:(([97,110,121]==wat s 0) || (([105,115]==wat s 0) || ([98,121]==wat s 0)))=true):cf (n+2) 28 [.t (wl s)] m=.ok (.t (.tup (s.map .str))) m:=by
 obtain⟨_,c1,c2⟩:=h.cl
 have hs:=h.len
 refine Zgz ?_
 unfold Z8
 rw[Zdh hl (c1 (by omega)).part (c2 rfl).part,Ze ((ZdW (k:=0) (i:=0) hs).trans (by rw[h0])),Ze ((ZdW (k:=0) (i:=0) hs).trans (by rw[h1]))]
 exact Zw ((ZkY hs).trans (by rw[h2])) (Zg (Zv (Za rfl) (Zgk _)))
theorem ZgA{l:Nat}{s:List (List Nat)}{t:T}(h:Sg l s t):∀(n:Nat) (m:Mem),s.length<=n->s.length<1000->cf (n+1) 28 [.t (wl s)] m=.ok (.t t) m:=by
 have up:∀{s:List (List Nat)}{n:Nat},1<=s.length->s.length<=n->∃k,n=k+1:=λ{s n} h1 h2=>⟨n-1,by omega⟩
 induction h with
 |any =>
  intro n m hn hl
  obtain⟨k,rfl⟩:=up (s:=[[97,110,121]]) (by simp) hn
  exact Zfb hl .any rfl rfl rfl
 |@nm w a hw ha =>
  intro n m hn hl
  obtain⟨k,rfl⟩:=up (s:=[w,a]) (by simp) hn
  have hw':w=[105,115]∨w=[98,121]:=by simpa using hw
  have:=Sg.nm hw ha
  rcases hw' with rfl|rfl
  ·exact Zfb hl this rfl rfl rfl
  ·exact Zfb hl this rfl rfl rfl
 |@sz a b c sg ha hb hc =>
  intro n m hn hl
  obtain⟨k,rfl⟩:=up (s:=[a,b,c]) (by simp) hn
  have hS:=Sg.sz ha hb hc
  obtain⟨_,c1,c2⟩:=hS.cl
  obtain⟨_,_,e3,e4,e5,e6⟩:=ZbT ha
  have e7:=(Zdj ha).1
  refine Zgz ?_
  unfold Z8
  rw[Zdh hl (c1 (by omega)).part (c2 rfl).part,Ze ((ZdW (k:=0) (i:=0) (by simp)).trans (by rw[show wat [a,b,c] 0=a from rfl,e3])),Ze ((ZdW (k:=0) (i:=0) (by simp)).trans (by rw[show wat [a,b,c] 0=a from rfl,e7]))]
  rw[Ze ((ZkY (by simp)).trans (by rw[show wat [a,b,c] 0=a from rfl,Bool.beq_comm,e4,Bool.beq_comm,e5,Bool.beq_comm,e6];rfl))]
  refine Zg (ZfK (Xn (Zbe (Zb _) (Zb _)) (Zv (ZdW (k:=1) (by simp)) (ZfE _)) ((ZcV _).trans (congrArg some (show _=T.str sg from ?_)))) (ZjA (k:=0) (by simp)) (Zv (ZjA (k:=2) (by simp)) (ZfJ hc).1))
  rcases sign_of hb with⟨rfl,rfl⟩|⟨rfl,rfl⟩<;>rfl
 |@nt s t h ih =>
  intro n m hn hl
  have hS:=Sg.nt h
  obtain⟨_,c1,c2⟩:=hS.cl
  obtain⟨k,rfl⟩:=up hS.len hn
  have:=ih k m (by simpa using hn) (by simp at hl;omega)
  refine Zgz ?_
  unfold Z8
  rw[Zdh hl (c1 (by omega)).part (c2 rfl).part]
  exact Zw (ZdW (k:=0) (i:=0) (by simp)) (Zg (ZL (Zb _) ((ZF (Zct (r:=wl s) (Za rfl) (Zb _) (by rw[wl,s_lst,List.map_cons,ZkM];rfl))).trans this)))
 |@br s t h ih =>
  intro n m hn hl
  have hS:=Sg.br h
  obtain⟨_,c1,c2⟩:=hS.cl
  obtain⟨k,rfl⟩:=up hS.len hn
  have:=ih k m (by simp at hn;omega) (by simp at hl;omega)
  refine Zgz ?_
  unfold Z8
  rw[Zdh hl (c1 (by omega)).part (c2 rfl).part,Ze (ZdW (k:=0) (i:=0) (by simp))]
  refine Zw (ZdW (k:=0) (i:=0) (by simp)) (Zg ((ZF (show ev (cf (k+1)) gv (.slc (.var 0) (.con (.int 1)) (.neg (.con (.int 1)))) _ m=.ok (.t (wl s)) m from ?_)).trans this))
  show pur (some (T.lst (cut ((wL::(s++[wR])).map T.str) (some 1) (some (-1))))) m=_
  rw[List.map_cons,List.map_append,List.map_cons,List.map_nil,Znh]
  rfl
 |an1 _ ih=>exact ih
 |@an ps h2 hp ih =>
  intro n m hn hl
  have hS:=Sg.an h2 hp
  obtain⟨k,rfl⟩:=up hS.len hn
  have e1:=(hS.cl.2.1 (by omega)).part
  have e2:parted wAnd (jnW wAnd (ps.map (·.1)))=ps.map (·.1):=JP ZdX (by cases ps with
   |nil=>simp at h2
   |cons _ _=>simp) λa ha=>by obtain⟨q,hq,rfl⟩:=List.mem_map.1 ha;exact(hp q hq).cl.2.2 rfl
  have hln:∀q∈ps,q.1.length+ps.length<=(jnW wAnd (ps.map (·.1))).length+1:=λq hq=>by
   have:=Xf (x:=wAnd) (segs:=ps.map (·.1)) (λa ha=>by obtain⟨q,hq,rfl⟩:=List.mem_map.1 ha;exact(hp q hq).len) q.1 (List.mem_map_of_mem hq)
   simpa only[List.length_map]using this
  have hpl:ps.length<=lim:=by
   obtain⟨q,hq⟩:∃q,q∈ps:=by cases ps with
    |nil=>simp at h2
    |cons p _=>exact⟨p,by simp⟩
   have:=hln q hq
   unfold lim
   omega
  have key:=ZkX (n:=k) (m:=m) (x:=wAnd) (e2:=some (.t (pieces wOr (jnW wAnd (ps.map (·.1)))))) (N:=k) hl (by rw[e2,List.length_map];omega) (by rw[e2,List.length_map];exact hpl) (λp hpm=>by
   rw[e2]at hpm
   obtain⟨q,hq,rfl⟩:=List.mem_map.1 hpm
   have:=hln q hq
   rw[(hp q hq).wish k (by omega)]
   exact ih q hq k m (by omega) (by omega))
  rw[e2,List.map_map,List.map_congr_left (f:=ZX k ∘ λx:List (List Nat)×T=>x.1) (g:=λx=>x.2) λq hq=>(hp q hq).wish k (by have:=hln q hq;omega)]at key
  refine Zgz ?_
  unfold Z8
  rw[ex]
  show((ex (cf (k+1)) gv Zz [some (.t (wl _)),some (.t (.str wOr)),none] m).bind _).bind _=_
  rw[Zfa hl e1]
  show((ex (cf (k+1)) gv Zz [some (.t (wl _)),some (.t (.str wAnd)),some (.t (pieces wOr _))] m).bind _).bind _=_
  rw[key]
  rfl
 |or1 _ ih=>exact ih
 |@or ps h2 hp ih =>
  intro n m hn hl
  have hS:=Sg.or h2 hp
  obtain⟨k,rfl⟩:=up hS.len hn
  have e2:parted wOr (jnW wOr (ps.map (·.1)))=ps.map (·.1):=JP ZjB (by cases ps with
   |nil=>simp at h2
   |cons _ _=>simp) λa ha=>by obtain⟨q,hq,rfl⟩:=List.mem_map.1 ha;exact(hp q hq).cl.2.1 (by omega)
  have hln:∀q∈ps,q.1.length+ps.length<=(jnW wOr (ps.map (·.1))).length+1:=λq hq=>by
   have:=Xf (x:=wOr) (segs:=ps.map (·.1)) (λa ha=>by obtain⟨q,hq,rfl⟩:=List.mem_map.1 ha;exact(hp q hq).len) q.1 (List.mem_map_of_mem hq)
   simpa only[List.length_map]using this
  have hpl:ps.length<=lim:=by
   obtain⟨q,hq⟩:∃q,q∈ps:=by cases ps with
    |nil=>simp at h2
    |cons p _=>exact⟨p,by simp⟩
   have:=hln q hq
   unfold lim
   omega
  have key:=ZkX (n:=k) (m:=m) (x:=wOr) (e2:=none) (N:=k) hl (by rw[e2,List.length_map];omega) (by rw[e2,List.length_map];exact hpl) (λp hpm=>by
   rw[e2]at hpm
   obtain⟨q,hq,rfl⟩:=List.mem_map.1 hpm
   have:=hln q hq
   rw[(hp q hq).wish k (by omega)]
   exact ih q hq k m (by omega) (by omega))
  rw[e2,List.map_map,List.map_congr_left (f:=ZX k ∘ λx:List (List Nat)×T=>x.1) (g:=λx=>x.2) λq hq=>(hp q hq).wish k (by have:=hln q hq;omega)]at key
  refine Zgz ?_
  unfold Z8
  rw[ex]
  show((ex (cf (k+1)) gv Zz [some (.t (wl _)),some (.t (.str wOr)),none] m).bind _).bind _=_
  rw[key]
  rfl
noncomputable def enF:Nat->List T->List T
 |_,[]=>[]
 |k,x::r=>.tup [.int (k:Int),x]::enF (k+1) r
theorem Zgv:∀(xs:List T) (k:Nat),List.zipWith (λ(k:Nat) x=>T.tup [.int (k:Int),x]) (List.range' k xs.length) xs=enF k xs
 |[],k=>rfl
 |x::r,k=>by
  rw[List.length_cons,List.range'_succ,List.zipWith_cons_cons,Zgv r (k+1)]
  rfl
theorem enum_F(xs:List T):ZcJ xs=enF 0 xs:=by
 unfold ZcJ
 rw[List.range_eq_range']
 exact Zgv xs 0
theorem Zfe{d:Du}{w:List Nat}{S:List (List Nat)}{p:Du×List (List Nat)}(hS:∀k∈S,Kd k)(hl:S.length<=12)(h:QW d w S=some p):(∀k∈p.2,Kd k)/\p.2.length<=12:=by
 have he:∀R:List (List Nat),(∀k∈R,Kd k)->R.length<=12->(∀k∈ended R,Kd k)/\(ended R).length<=12:=by
  intro R
  induction R with
  |nil=>intro _ _;exact⟨λk hk=>(by cases hk),by simp[ended]⟩
  |cons x r ih =>
   intro hR hr
   unfold ended
   split
   ·exact ih (λk hk=>hR k (List.mem_cons_of_mem _ hk)) (by simp at hr;omega)
   ·exact⟨hR,hr⟩
 unfold QW at h
 cases d with
 |wish =>
  dsimp only at h
  split at h
  ·rename_i q1
   split at h
   ·cases h
   ·cases h
    refine⟨λk hk=>?_,by rw[List.length_cons];omega⟩
    rcases List.mem_cons.mp hk with rfl|hk
    ·rw[Bool.or_eq_true]at q1
     exact q1.elim (λz=>.inl (eq_of_beq z)) λz=>.inr (eq_of_beq z)
    ·exact hS k hk
  ·split at h
   ·cases h;exact⟨hS,hl⟩
   ·split at h
    ·cases h;exact he S hS hl
    ·split at h
     ·cases h;exact⟨hS,hl⟩
     ·cases h
 |name =>
  dsimp only at h
  split at h
  ·cases h;exact he S hS hl
  ·cases h
 |sign =>
  dsimp only at h
  split at h
  ·cases h;exact⟨hS,hl⟩
  ·cases h
 |num =>
  dsimp only at h
  split at h
  ·cases h;exact he S hS hl
  ·cases h
 |beh =>
  dsimp only at h
  split at h
  ·cases h
   exact he S.tail (λk hk=>hS k (List.mem_of_mem_tail hk)) (by rw[List.length_tail];omega)
  ·split at h
   ·cases h;exact⟨hS,hl⟩
   ·cases h
theorem Zc8{n:Nat}{m:Mem}{e0 e1:Option W}:∀(ws:List (List Nat)) (k:Nat) (d:Du) (S:List (List Nat)) (e4 e5:Option W),(∀w∈ws,w.length<=lim)->(∀k∈S,Kd k)->S.length<=12 ->
  (∃(e:Nat) (c:List T),runA d S ws k=some e/\Qh (ex (cf (n+2)) gv ZJ) (.tp [4,5]) (enF k (ws.map .str)) [e0,e1,some (.c m.length),some (.t (.str (duS d))),e4,e5] (m++[some (false,st S)])=.ok (.ret (.t (.int (e:Int)))) (m++[some (false,c)])) ∨
  ∃(d':Du) (S':List (List Nat)) (e4' e5':Option W),(∀k∈S',Kd k)/\runA d S ws k=(if d'=.beh/\S'=[]then none else some (k+ws.length))/\Qh (ex (cf (n+2)) gv ZJ) (.tp [4,5]) (enF k (ws.map .str)) [e0,e1,some (.c m.length),some (.t (.str (duS d))),e4,e5] (m++[some (false,st S)])=.ok (.next [e0,e1,some (.c m.length),some (.t (.str (duS d'))),e4',e5']) (m++[some (false,st S')])
 |[],k,d,S,e4,e5,hw,hS,hl=>.inr ⟨d,S,e4,e5,hS,rfl,rfl⟩
 |w::ws,k,d,S,e4,e5,hw,hS,hl=>by
  have hs:=ZaX (n:=n) (m:=m) (d:=d) hS hl (hw w List.mem_cons_self)
  have hst:Qh (ex (cf (n+2)) gv ZJ) (.tp [4,5]) (enF k ((w::ws).map .str)) [e0,e1,some (.c m.length),some (.t (.str (duS d))),e4,e5] (m++[some (false,st S)])=(ex (cf (n+2)) gv ZJ [e0,e1,some (.c m.length),some (.t (.str (duS d))),some (.t (.int (k:Int))),some (.t (.str w))] (m++[some (false,st S)])).bind λfl m=>match fl with
   |.next env=>Qh (ex (cf (n+2)) gv ZJ) (.tp [4,5]) (enF (k+1) (ws.map .str)) env m
   |.cont env=>Qh (ex (cf (n+2)) gv ZJ) (.tp [4,5]) (enF (k+1) (ws.map .str)) env m
   |.brk env=>.ok (.next env) m
   |.ret w=>.ok (.ret w) m:=rfl
  rw[hst,runA]
  cases hq:QW d w S with
  |none =>
   rw[hq]at hs
   obtain⟨c,hs⟩:=hs
   refine .inl ⟨k,c,rfl,?_⟩
   rw[show ex (cf (n+2)) gv ZJ [e0,e1,some (.c m.length),some (.t (.str (duS d))),some (.t (.int (k:Int))),some (.t (.str w))] (m++[some (false,st S)])=.ok (.ret (.t (.int (k:Int)))) (m++[some (false,c)]) by
    unfold ZJ
    rw[Zt ((Jo (Za rfl) (Za rfl) (Za rfl)).trans hs)]
    dsimp only[List.set_cons_succ,List.set_cons_zero]
    exact Zw (Zm (k:=true) (Za rfl) (Zb _) rfl) (Zg (Za rfl))]
   rfl
  |some p =>
   rw[hq]at hs
   have hs:_=_:=hs
   obtain⟨k1,k2⟩:=Zfe hS hl hq
   rw[show ex (cf (n+2)) gv ZJ [e0,e1,some (.c m.length),some (.t (.str (duS d))),some (.t (.int (k:Int))),some (.t (.str w))] (m++[some (false,st S)])=.ok (.next [e0,e1,some (.c m.length),some (.t (.str (duS p.1))),some (.t (.int (k:Int))),some (.t (.str w))]) (m++[some (false,st p.2)]) by
    unfold ZJ
    rw[Zt ((Jo (Za rfl) (Za rfl) (Za rfl)).trans hs)]
    dsimp only[List.set_cons_succ,List.set_cons_zero]
    rw[Ze (Zm (k:=false) (Za rfl) (Zb _) rfl),ex]]
   rcases Zc8 (n:=n) (m:=m) (e0:=e0) (e1:=e1) ws (k+1) p.1 p.2 (some (.t (.int (k:Int)))) (some (.t (.str w))) (λx hx=>hw x (List.mem_cons_of_mem _ hx)) k1 k2 with⟨e,c,a1,a2⟩|⟨d',S',e4',e5',a1,a2,a3⟩
   ·exact .inl ⟨e,c,a1,a2⟩
   ·refine .inr ⟨d',S',e4',e5',a1,?_,a3⟩
    show runA p.1 p.2 ws (k+1)=_
    rw[a2,List.length_cons,show k+1+ws.length=k+(ws.length+1) by omega]
noncomputable def dueT:Option Nat->T
 |none=>.non
 |some e=>.int (e:Int)
theorem ZkD{call:Nat->List W->Mem->Res W}{gv:List T}{env:Env}{m m1:Mem}{o:E}{x:List Nat}(h:ev call gv o env m=.ok (.t (.str x)) m1)(hx:x.length<=900000):ev call gv (.mth .split o (.cons (.con (.str [32])) .nil)) env m=.ok (.t (.lst ((ZR 32 x).map .str))) m1:=by
 rw[ev,h,Zf,show tyM .split (.t (.str x)) m1=true from rfl,if_pos rfl,Qy (Zb _) ZcI,Zf]
 show pur (if x.length<=900000 then some (.lst ((ZR 32 x).map .str))else none) m1=_
 rw[if_pos hx]
 rfl
theorem ZkB{n:Nat}{m:Mem}{cs:List Nat}(hc:cs.length<=800000):cf (n+3) 25 [.t (.str cs)] m=.ok (.t (dueT (runA .wish [] (ZR 32 cs) 0))) m:=by
 obtain⟨hs1,hs2⟩:=split_len 32 cs
 generalize hws:ZR 32 cs=ws at *
 have hfin:∀{t:T}{c:List T},ex (cf (n+2)) gv X5 [some (.t (.str cs)),none,none,none,none,none] m=.ok (.ret (.t t)) (m++[some (false,c)])->cf (n+3) 25 [.t (.str cs)] m=.ok (.t t) m:=λ{t c} key=>by
  refine ZZ (Zjh _ _ _) rfl key ?_
  show Res.ok _ ((m++[some (false,c)]).take m.length)=_
  rw[List.take_left]
 have hsp:=ZkD (call:=cf (n+2)) (gv:=gv) (env:=[some (.t (.str cs)),none,none,none,none,none]) (m:=m) (o:=.var 0) (Za rfl) (show cs.length<=900000 by omega)
 rw[hws]at hsp
 have h0:∀k,ex (cf (n+2)) gv (.asg 1 (.mth .split (.var 0) (.cons (.con (.str [32])) .nil)) (.asg 2 (.cel .nil) (.asg 3 (.con (.str [119,105,115,104])) k))) [some (.t (.str cs)),none,none,none,none,none] m=ex (cf (n+2)) gv k [some (.t (.str cs)),some (.t (.lst (ws.map .str))),some (.c m.length),some (.t (.str (duS .wish))),none,none] (m++[some (false,st [])]):=λk=>by
  rw[Zt hsp]
  dsimp only[List.set_cons_succ,List.set_cons_zero]
  rw[Zt (show ev (cf (n+2)) gv (.cel .nil) _ m=.ok (.c m.length) (m++[some (false,[])])from rfl)]
  dsimp only[List.set_cons_succ,List.set_cons_zero]
  rw[Zt (Zb _)]
  rfl
 have hit:ev (cf (n+2)) gv (.blt .enum (.cons (.tr (.var 1)) .nil)) [some (.t (.str cs)),some (.t (.lst (ws.map .str))),some (.c m.length),some (.t (.str (duS .wish))),none,none] (m++[some (false,st [])])=.ok (.t (.lst (enF 0 (ws.map .str)))) (m++[some (false,st [])]):=by
  refine Zv (x:=.lst (ws.map .str)) (show ev (cf (n+2)) gv (.tr (.var 1)) _ _=_ by rw[ev,Za rfl];rfl) ?_
  show(if(ws.map T.str).length<=lim then some (T.lst (ZcJ (ws.map T.str)))else none)=_
  rw[if_pos (by rw[List.length_map];unfold lim;omega),enum_F]
 rcases Zc8 (n:=n) (m:=m) (e0:=some (.t (.str cs))) (e1:=some (.t (.lst (ws.map .str)))) ws 0 .wish [] none none (λw hw=>by have:=hs2 w hw;unfold lim;omega) (λk hk=>by cases hk) (by simp)with⟨e,c,a1,a2⟩|⟨d',S',e4',e5',a1,a2,a3⟩
 ·rw[a1]
  refine hfin (c:=c) ?_
  unfold X5
  rw[h0,ex,hit,Zf]
  show(Qh (λenv m=>ex (cf (n+2)) gv ZJ env m) (.tp [4,5]) (enF 0 (ws.map .str)) _ (m++[some (false,st [])])).bind _=_
  rw[show Qh (λenv m=>ex (cf (n+2)) gv ZJ env m) (.tp [4,5]) (enF 0 (ws.map .str)) [some (.t (.str cs)),some (.t (.lst (ws.map .str))),some (.c m.length),some (.t (.str (duS .wish))),none,none] (m++[some (false,st [])])=_ from a2]
  rfl
 ·rw[a2]
  refine hfin (c:=st S') ?_
  unfold X5
  rw[h0,XX (x:=.t (.lst (enF 0 (ws.map .str)))) (m0:=m++[some (false,st [])]) (m1:=m++[some (false,st [])]) hit rfl a3]
  have e1:ev (cf (n+2)) gv (.cmp .Eq (.var 3) (.con (.str [98,101,104,105,110,100]))) [some (.t (.str cs)),some (.t (.lst (ws.map .str))),some (.c m.length),some (.t (.str (duS d'))),e4',e5'] (m++[some (false,st S')])=.ok (.t (.bl (decide (d'=.beh)))) (m++[some (false,st S')]):=Zm (Za rfl) (Zb _) ((ZbJ _ _).trans (by cases d'<;>rfl))
  have e2:ev (cf (n+2)) gv (.cmp .Eq (.var 2) (.lst .nil)) [some (.t (.str cs)),some (.t (.lst (ws.map .str))),some (.c m.length),some (.t (.str (duS d'))),e4',e5'] (m++[some (false,st S')])=.ok (.t (.bl S'.isEmpty)) (m++[some (false,st S')]):=ZdG (Za rfl) (show ev (cf (n+2)) gv (.lst .nil) _ _=.ok (.t (.lst [])) _ from rfl) J7 rfl (ZjL a1).2
  refine Zg ((Xn (Zbe (Zv (Za rfl) ((ZbE _).trans (by rw[List.length_map]))) (Zb _)) (Zv (JT e1 e2) (ZfE _)) (ZcV _)).trans ?_)
  rw[Nat.zero_add]
  by_cases hb:d'=.beh/\S'=[]
  ·rw[if_pos hb,decide_eq_true hb.1,hb.2]
   rfl
  ·rw[if_neg hb]
   have:(decide (d'=.beh)&&S'.isEmpty)=false:=by
    rw[Bool.eq_false_iff]
    intro z
    rw[Bool.and_eq_true]at z
    exact hb ⟨of_decide_eq_true z.1,List.isEmpty_iff.mp z.2⟩
   rw[this]
   rfl
noncomputable def sz(ws:List (List Nat)):Nat:=(ws.map List.length).sum+ws.length
theorem ZhI(w:List Nat)(b:List (List Nat)):sz (w::b)=w.length+1+sz b:=by unfold sz;rw[List.map_cons,List.sum_cons,List.length_cons];omega
theorem ZlS(a:List (List Nat)):(Qp [32] a).length<=sz a:=by
 induction a with
 |nil=>simp[Qp]
 |cons y r ih =>
  rw[ZhI]
  cases r with
  |nil=>simp only[Qp];omega
  |cons z r =>
   show(y++[32]++Qp [32] (z::r)).length<=_
   rw[List.length_append,List.length_append]
   simp only[List.length_cons,List.length_nil]
   omega
theorem ZkE{call:Nat->List W->Mem->Res W}{gv:List T}{env:Env}{m m1:Mem}{o:E}{ws:List (List Nat)}(hf:sz ws<=400000)(h:ev call gv o env m=.ok (.t (.lst (ws.map .str))) m1):ev call gv (.mth .join (.con (.str [32])) (.cons o .nil)) env m=.ok (.t (.str (Qp [32] ws))) m1:=by
 have hss:∀ks:List (List Nat),strs? (ks.map T.str)=some ks:=λks=>by
  induction ks with
  |nil=>rfl
  |cons k ks ih=>show(strs? (ks.map T.str)).map (k::·)=_;rw[ih];rfl
 rw[ev,Zb,Zf,t_join,if_pos rfl,Qy h ZcI,Zf]
 refine d_join (hss ws) ?_
 unfold sz at hf
 unfold lim
 simp only[List.length_cons,List.length_nil]
 omega
theorem Zid{n:Nat}{m:Mem}{i:Nat}{s:List T}{M:Int}(many:Nat)(e:M=(many:Int))(hi:i<m.length)(hs:IsSt s)(h1:0<many)(h2:many<1000000):∃k s',k<many/\cf (n+1) 20 [.c i,.t (.int M)] (put m i s)=.ok (.t (.int ((k:Nat):Int))) (put m i s')/\IsSt s':=by
 subst e
 obtain⟨r,s',h,hs',h0,h3⟩:=Zmb (n:=n) (many:=(many:Int)) hi hs (by omega) (by omega)
 refine⟨r.toNat,s',by omega,?_,hs'⟩
 rw[h,show((r.toNat:Nat):Int)=r by omega]
theorem Zci{a:T}{ws:List (List Nat)}(h:oneOf a ws=true)(hw:∀w∈ws,∀c∈w,c<1114112):∀k,Zj k a=true:=by
 cases a with
 |str cs =>
  intro k
  refine ZbY (hw cs ?_)
  obtain⟨b,hb,e⟩:=List.any_eq_true.mp h
  rw[<-eq_of_beq e];exact hb
 |_=>cases h
theorem ZdU{a:T}(h:Zhy a=true):∀k,Zj k a=true:=by
 cases a with
 |str cs=>exact λk=>ZkJ h
 |_=>cases h
theorem Zkk{a:T}(h:numB a=true):∀k,Zj k a=true:=by
 cases a with
 |int i=>intro k;cases k<;>rfl
 |_=>cases h
theorem ZiV{x:T}{d:Nat}(h:Xk x=true)(hk:∀y∈kids x,Zj d y=true/\Zj (d+1) y=true):Zj (d+2) x=true:=by
 have up:∀{ts:List T},(∀t∈ts,Zj (d+1) t=true)->Zj (d+2) (.tup ts)=true:=λ{ts} h=>by rw[Zj];exact Jz h
 unfold Xk at h
 rw[Bool.or_eq_true]at h
 rcases h with h|h
 ·unfold Zbo at h
  split at h
  ·rename_i a
   refine up λt ht=>?_
   simp at ht;subst ht
   exact Zci h (by decide) _
  ·rename_i a b
   rw[Bool.and_eq_true]at h
   refine up λt ht=>?_
   simp at ht
   rcases ht with rfl|rfl
   ·exact Zci h.1 (by decide) _
   ·exact ZdU h.2 _
  ·rename_i a b c
   rw[Bool.and_eq_true,Bool.and_eq_true]at h
   refine up λt ht=>?_
   simp at ht
   rcases ht with rfl|rfl|rfl
   ·exact Zci h.1.1 (by decide) _
   ·exact ZdU h.1.2 _
   ·exact Zkk h.2 _
  ·cases h
 ·unfold My.kids at h hk
  split at h
  ·rename_i a b
   dsimp only at hk
   split at h
   ·rename_i q
    rw[if_pos q]at hk
    refine up λt ht=>?_
    simp at ht
    rcases ht with rfl|rfl
    ·exact Zci q (by decide) _
    ·exact(hk t (by simp)).2
   ·rename_i q
    rw[if_neg q]at hk
    split at h
    ·rename_i q2
     rw[if_pos q2]at hk
     rw[Bool.and_eq_true]at q2
     refine up λt ht=>?_
     simp at ht
     rcases ht with rfl|rfl
     ·exact Zci q2.1 (by decide) _
     ·cases t with
      |tup ts=>rw[Zj];exact Jz λy hy=>(hk y hy).1
      |_=>cases q2.2
    ·simp at h
  ·simp at h
theorem Zdr:∀(k p:Nat) (l l':List T) (j:Nat),run k p l=some l'->l'=[]->∀y∈l,Zj (j+2*k) y=true
 |0,p,l,l',j,h,e=>by
  rw[run]at h
  cases h
  subst e
  intro y hy
  cases hy
 |k+1,p,l,l',j,h,e=>by
  rw[run]at h
  split at h
  ·cases h
  ·rename_i q
   intro y hy
   have hf:Xk y=true:=by
    cases z:l.all Xk with
    |false=>exact absurd (.inr z) q
    |true=>exact List.all_eq_true.mp z y hy
   refine ZiV hf λz hz=>?_
   have hz:=List.mem_flatMap.mpr ⟨y,hy,hz⟩
   have h2:=Zdr k _ _ _ (j+1) h e z hz
   rw[show j+1+2*k=j+2*k+1 by omega]at h2
   exact⟨Zdr k _ _ _ j h e z hz,h2⟩
theorem Zhz{t:T}(h:Jj t=true):Zj 59 t=true:=by
 unfold Jj at h
 split at h
 ·cases h
 ·rename_i l e
  exact Zdr 6 0 [t] l 47 e (List.isEmpty_iff.mp h) t (by simp)
theorem sg_of{ws:List (List Nat)}(hF:Fits ws)(h:runA .wish [] ws 0=none):∃t,Sg 2 ws t/\FitH t:=by
 have hw:=ZhB (ws:=ws)
 rw[h]at hw
 cases hq:rdOr 12 ws 0 with
 |error e=>rw[hq]at hw;cases hw
 |ok p =>
  rw[hq]at hw
  dsimp only at hw
  obtain⟨a,b,c⟩:=ZhZ (Zds 12) _ _ hq
  have e:¬p.2<ws.length:=λz=>by rw[if_pos z]at hw;cases hw
  have e2:p.2=ws.length:=by omega
  have e3:sgm ws 0 p.2=ws:=by unfold sgm;rw[e2];simp
  rw[e3]at c
  exact⟨p.1,c,Jy (s:=[111,114]) (ws:=ws) (by decide) (Jy (s:=[97,110,100]) (ws:=ws) (by decide) (Zgr hF 12)) _ _ hq⟩
noncomputable def okW(w:List Nat):Bool:=decide (w.length<=10)&&!w.contains 32
noncomputable def Zff:List (List Nat):=[[97,110,121],[105,115],[98,121],[110,111,116],[97,110,100],[111,114],[40],[41],[62,61],[60,61],[114,121,101],[97],[53],[48,53],[],[97,98,99,100,101,102,103,104,105],[65],[10],[57,57,57,57,57,57,57,57,57,57],[97,110,100,121]]
noncomputable def menu:Du->List (List Nat)
 |.wish=>[[97,110,121],[105,115],[98,121],[110,111,116],[40],[114,121,101],[97],[105,115],[40],[112,114,105,99,101]]
 |.name=>[[114,121,101],[97],[97,110,100,121]]
 |.sign=>[[62,61],[60,61]]
 |.num=>[[48],[53],[49,48,48,48,48,48,48,48,48,48],[55,55]]
 |.beh=>[[97,110,100],[111,114],[41],[97,110,100],[111,114],[41]]
theorem Zlc{ws:List (List Nat)}(h:ws.all okW=true){k:Nat}(hk:k<ws.length):okW (wat ws k)=true:=by
 unfold wat
 rw[List.getElem?_eq_getElem hk]
 exact List.all_eq_true.mp h _ (List.getElem_mem hk)
theorem Ze9{n:Nat}{M:Mem}{i:Nat}{s:List T}{due:T}(hi:i<M.length)(hs:IsSt s)(hd:due=.non∨∃d,due=.str (duS d)):∃w s',cf (n+2) 29 [.c i,.t due] (put M i s)=.ok (.t (.str w)) (put M i s')/\IsSt s'/\okW w=true:=by
 obtain⟨D,hD,hD2⟩:∃D:T,ex (cf (n+1)) gv Qg [some (.c i),some (.t due),none,none] (put M i s)=ex (cf (n+1)) gv Q6 [some (.c i),some (.t due),some (.t D),none] (put M i s)/\∀d,bltT .dget [D,.str (duS d)]=some (wl (menu d)):=by
  refine⟨match Qg with
   |.asg _ (.con t) _=>t
   |_=>.non,?_,λd=>?_⟩
  ·unfold Qg
   rw[Zt (Zb _)]
   rfl
  ·cases d<;>rfl
 have h3:ex (cf (n+1)) gv Qg [some (.c i),some (.t due),none,none] (put M i s)=ex (cf (n+1)) gv (.ife (.or (.cmp .Is (.var 1) (.con .non)) (.cmp .Eq (.call 20 (.cons (.var 0) (.cons (.con (.int 24)) .nil))) (.con (.int 0)))) (.ret (.ix (.var 3) (.call 20 (.cons (.var 0) (.cons (.con (.int 20)) .nil)))) .done) .done (.ret (.ix (.blt .dget (.cons (.var 2) (.cons (.var 1) .nil))) (.call 20 (.cons (.var 0) (.cons (.blt .len (.cons (.blt .dget (.cons (.var 2) (.cons (.var 1) .nil))) .nil)) .nil)))) .done)) [some (.c i),some (.t due),some (.t D),some (.t (wl Zff))] (put M i s):=by
  rw[hD]
  unfold Q6
  rw[Zt (Zls (Qy (Zb _) (Qy (Zb _) (Qy (Zb _) (Qy (Zb _) (Qy (Zb _) (Qy (Zb _) (Qy (Zb _) (Qy (Zb _) (Qy (Zb _) (Qy (Zb _) (Qy (Zb _) (Qy (Zb _) (Qy (Zb _) (Qy (Zb _) (Qy (Zb _) (Qy (Zb _) (Qy (Zb _) ZcI))))))))))))))))) rfl Zlf)]
  dsimp only[List.set_cons_succ,List.set_cons_zero]
  rw[Zt (Zi4 (Za rfl) (Zls (Qy (Zb _) (Qy (Zb _) (Qy (Zb _) ZcI))) rfl Zlf) (Zlz (by unfold lim;decide)))]
  rfl
 have hgo:∀{w:List Nat}{s':List T},ex (cf (n+1)) gv Qg [some (.c i),some (.t due),none,none] (put M i s)=.ok (.ret (.t (.str w))) (put M i s')->cf (n+2) 29 [.c i,.t due] (put M i s)=.ok (.t (.str w)) (put M i s'):=λkey =>
  ZZ (ZeY _ _ _) rfl key (ZP (cell:=false) (by rw[Qw,Qw]))
 have some20:∀{env:Env}{s1:List T},IsSt s1->env[0]?=some (some (.c i))->env[3]?=some (some (.t (wl Zff)))->∃w s',ev (cf (n+1)) gv (.ix (.var 3) (.call 20 (.cons (.var 0) (.cons (.con (.int 20)) .nil)))) env (put M i s1)=.ok (.t (.str w)) (put M i s')/\IsSt s'/\okW w=true:=λ{env s1} hs1 e0 e3=>by
  obtain⟨k,s2,hk,h2,hs2⟩:=Zid (n:=n) (M:=20) 20 rfl hi hs1 (by decide) (by decide)
  exact⟨wat Zff k,s2,Xn (Za e3) ((Zn (Za e0) (Zb _)).trans h2) (Zns hk),hs2,Zlc (by decide) hk⟩
 rcases hd with rfl|⟨d,rfl⟩
 ·obtain⟨w,s',h1,h2,h4⟩:=some20 (env:=[some (.c i),some (.t .non),some (.t D),some (.t (wl Zff))]) hs rfl rfl
  refine⟨w,s',hgo ?_,h2,h4⟩
  rw[h3]
  exact Zw (ZeQ (Zm (k:=true) (Za rfl) (Zb _) rfl)) (Zg h1)
 ·obtain⟨k,s1,hk,h1,hs1⟩:=Zid (n:=n) (M:=24) 24 rfl hi hs (by decide) (by decide)
  have hc:ev (cf (n+1)) gv (.or (.cmp .Is (.var 1) (.con .non)) (.cmp .Eq (.call 20 (.cons (.var 0) (.cons (.con (.int 24)) .nil))) (.con (.int 0)))) [some (.c i),some (.t (.str (duS d))),some (.t D),some (.t (wl Zff))] (put M i s)=.ok (.t (.bl ((k:Int)==0))) (put M i s1):=
   (J5 (Zm (k:=false) (Za rfl) (Zb _) rfl)).trans (Zm ((Zn (Za rfl) (Zb _)).trans h1) (Zb _) (Ze0 _ _))
  cases q:((k:Int)==0)with
  |true =>
   rw[q]at hc
   obtain⟨w,s',h1,h2,h4⟩:=some20 (env:=[some (.c i),some (.t (.str (duS d))),some (.t D),some (.t (wl Zff))]) hs1 rfl rfl
   refine⟨w,s',hgo ?_,h2,h4⟩
   rw[h3]
   exact Zw hc (Zg h1)
  |false =>
   rw[q]at hc
   have hl:0<(menu d).length/\(menu d).length<1000000:=by cases d<;>decide
   obtain⟨k2,s2,hk2,h2,hs2⟩:=Zid (n:=n) (M:=((menu d).length:Int)) (menu d).length rfl hi hs1 hl.1 hl.2
   have hg:∀mm,ev (cf (n+1)) gv (.blt .dget (.cons (.var 2) (.cons (.var 1) .nil))) [some (.c i),some (.t (.str (duS d))),some (.t D),some (.t (wl Zff))] mm=.ok (.t (wl (menu d))) mm:=λmm=>Zi2 (Qy (Za rfl) (Qy (Za rfl) ZcI)) rfl (hD2 d)
   refine⟨wat (menu d) k2,s2,hgo ?_,hs2,Zlc (by cases d<;>decide) hk2⟩
   rw[h3,Ze hc]
   exact Zg (Xn (hg _) ((Zn (Za rfl) (Zv (hg _) ((ZbE _).trans (by rw[List.length_map])))).trans h2) (Zns hk2))
theorem Znb{call:Nat->List W->Mem->Res W}{gv:List T}{env:Env}{m:Mem}{i j q:Nat}{ts:List T}{t:T}(hi:env[i]?=some (some (.c q)))(hj:env[j]?=some (some (.t t)))(hm:m[q]?=some (some (false,ts)))(hl:ts.length<lim):ev call gv (.mth .append (.var i) (.cons (.var j) .nil)) env m=.ok (.t .non) (m.set q (some (false,ts++[t]))):=by
 rw[ev,Za hi,Zf]
 rw[show tyM .append (.c q) m=true by unfold tyM;dsimp only;rw[hm]]
 rw[if_pos rfl,evs,Za hj,Zf,evs,Zf,Zf]
 unfold doM
 dsimp only
 rw[Zae,Zad,Zf,Zf,hm]
 dsimp only
 unfold mutM
 dsimp only
 rw[if_pos hl]
theorem Zh0{M X:Mem}{i:Nat}{s:List T}(hi:i<M.length):put (M++X) i s=put M i s++X:=by
 unfold put
 rw[List.set_append_left _ _ hi]
noncomputable def Mm(M:Mem)(i:Nat)(s:List T)(ws:List (List Nat))(o:List T):Mem:=put M i s++[some (false,ws.map .str)]++[some (false,o)]
noncomputable def Zht(due:T)(o:List T):Prop:=due=.non∨∃d S,due=.str (duS d)/\o=st S/\(∀k∈S,Kd k)/\S.length<=12
section
variable{n:Nat}{M:Mem}{i:Nat}{s o:List T}{ws:List (List Nat)}{due:T}{e4 e5:Option W}
theorem Mm.put(hi:i<M.length):Mm M i s ws o=put (M++[some (false,ws.map .str)]++[some (false,o)]) i s:=by
 unfold Mm
 rw[Zh0 (by simp;omega),Zh0 hi]
theorem Mm.len:(My.put M i s++[some (false,ws.map T.str)]).length=M.length+1:=by simp[Qw]
theorem Mm.at:(Mm M i s ws o)[M.length]?=some (some (false,ws.map T.str)):=by
 unfold Mm
 rw[List.getElem?_append_left (by simp[Qw]),List.getElem?_append_right (by simp[Qw])]
 simp[Qw]
theorem Mm.app{w:List Nat}:(Mm M i s ws o).set M.length (some (false,ws.map .str++[.str w]))=Mm M i s (ws++[w]) o:=by
 unfold Mm
 rw[List.set_append_left _ _ (by simp[Qw]),List.set_append_right _ _ (by simp[Qw]),Qw,Nat.sub_self]
 simp
theorem appW{w:List Nat}(hl:ws.length<=1000):ev (cf n) gv (.mth .append (.var 1) (.cons (.var 5) .nil)) [some (.c i),some (.c M.length),some (.c (M.length+1)),some (.t due),e4,some (.t (.str w))] (Mm M i s ws o)=.ok (.t .non) (Mm M i s (ws++[w]) o):=by
 rw[Znb rfl rfl Mm.at (by rw[List.length_map];unfold lim;omega),Mm.app]
theorem stepW{d:Du}{S:List (List Nat)}{w:List Nat}(hS:∀k∈S,Kd k)(hl:S.length<=12)(hw:w.length<=lim):∃due' o',cf (n+2) 24 [.t (.str (duS d)),.t (.str w),.c (M.length+1)] (Mm M i s ws (st S))=.ok (.t due') (Mm M i s ws o')/\Zht due' o':=by
 have h:=ZaX (n:=n) (m:=put M i s++[some (false,ws.map T.str)]) (d:=d) (w:=w) hS hl hw
 rw[Mm.len]at h
 cases q:QW d w S with
 |none =>
  rw[q]at h
  obtain⟨c,h⟩:=h
  exact⟨.non,c,h,.inl rfl⟩
 |some p =>
  rw[q]at h
  obtain⟨h1,h2⟩:=Zfe hS hl q
  exact⟨.str (duS p.1),st p.2,h,.inr ⟨p.1,p.2,rfl,rfl,h1,h2⟩⟩
theorem Zfy{w:List Nat}(h:okW w=true):w.length<=lim:=by
 unfold okW at h
 rw[Bool.and_eq_true]at h
 have:=of_decide_eq_true h.1
 unfold lim
 omega
theorem ZlG(hi:i<M.length)(hs:IsSt s)(hd:Zht due o)(hl:ws.length<=1000):∃w s' o' due',ex (cf (n+2)) gv QK [some (.c i),some (.c M.length),some (.c (M.length+1)),some (.t due),e4,e5] (Mm M i s ws o)=.ok (.next [some (.c i),some (.c M.length),some (.c (M.length+1)),some (.t due'),e4,some (.t (.str w))]) (Mm M i s' (ws++[w]) o')/\IsSt s'/\okW w=true/\Zht due' o':=by
 obtain⟨w,s',h1,hs',hw⟩:=Ze9 (n:=n) (M:=M++[some (false,ws.map T.str)]++[some (false,o)]) (i:=i) (s:=s) (due:=due) (by simp;omega) hs (hd.elim .inl λ⟨d,S,h,_⟩=>.inr ⟨d,h⟩)
 rw[<-Mm.put hi,<-Mm.put hi]at h1
 have h2:∀k,ex (cf (n+2)) gv (.asg 5 (.call 29 (.cons (.var 0) (.cons (.var 3) .nil))) (.expr (.mth .append (.var 1) (.cons (.var 5) .nil)) k)) [some (.c i),some (.c M.length),some (.c (M.length+1)),some (.t due),e4,e5] (Mm M i s ws o)=ex (cf (n+2)) gv k [some (.c i),some (.c M.length),some (.c (M.length+1)),some (.t due),e4,some (.t (.str w))] (Mm M i s' (ws++[w]) o):=λk=>by
  rw[Zt ((Zn (Za rfl) (Za rfl)).trans h1)]
  dsimp only[List.set_cons_succ,List.set_cons_zero]
  rw[Zbc (appW hl)]
 unfold QK
 rcases hd with rfl|⟨d,S,rfl,rfl,hS,hSl⟩
 ·refine⟨w,s',o,.non,?_,hs',hw,.inl rfl⟩
  rw[h2,Ze (Zm (k:=false) (Za rfl) (Zb _) rfl),ex]
 ·obtain⟨due',o',h3,h4⟩:=stepW (n:=n) (M:=M) (i:=i) (s:=s') (ws:=ws++[w]) (d:=d) (w:=w) hS hSl (Zfy hw)
  refine⟨w,s',o',due',?_,hs',hw,h4⟩
  rw[h2,Zc9 (Zm (k:=true) (Za rfl) (Zb _) rfl) (show _=Res.ok (Flow.next [some (.c i),some (.c M.length),some (.c (M.length+1)),some (.t due'),e4,some (.t (.str w))]) (Mm M i s' (ws++[w]) o') by
   rw[Zt ((Jo (Za rfl) (Za rfl) (Za rfl)).trans h3),ex];rfl),ex]
noncomputable def lastOf:Du->List Nat
 |.wish=>[97,110,121]
 |.name=>[114,121,101]
 |.sign=>[62,61]
 |.num=>[55]
 |.beh=>[41]
theorem ZlH{d:Du}{S:List (List Nat)}(hS:∀k∈S,Kd k)(hSl:S.length<=12)(hl:ws.length<=1000):∃ws' d' S' f5,ex (cf (n+2)) gv Jw [some (.c i),some (.c M.length),some (.c (M.length+1)),some (.t (.str (duS d))),e4,e5] (Mm M i s ws (st S))=.ok (.next [some (.c i),some (.c M.length),some (.c (M.length+1)),some (.t (.str (duS d'))),e4,f5]) (Mm M i s (ws++ws') (st S'))/\ws'.all okW=true/\ws'.length<=1/\(∀k∈S',Kd k)/\S'.length<=12:=by
 have hc:∀f5,ev (cf (n+2)) gv (.or (.cmp .NotEq (.var 3) (.con (.str [98,101,104,105,110,100]))) (.cmp .NotEq (.var 2) (.lst .nil))) [some (.c i),some (.c M.length),some (.c (M.length+1)),some (.t (.str (duS d))),e4,f5] (Mm M i s ws (st S))=.ok (.t (.bl (!decide (d=.beh) || !S.isEmpty))) (Mm M i s ws (st S)):=λf5=>by
  have h2:=J7 (m:=put M i s++[some (false,ws.map T.str)]) (ts:=st S)
  rw[Mm.len]at h2
  exact Zi0 (Zm (Za rfl) (Zb _) ((Zhp _ _).trans (by cases d<;>rfl))) (ZdG (Za rfl) (show ev (cf (n+2)) gv (.lst .nil) _ _=.ok (.t (.lst [])) _ from rfl) h2 rfl (ZjL hS).1)
 unfold Jw
 cases q:(!decide (d=.beh) || !S.isEmpty)with
 |false =>
  have hc:=hc e5
  rw[q]at hc
  refine⟨[],d,S,e5,?_,rfl,by simp,hS,hSl⟩
  rw[Ze hc,ex,List.append_nil]
 |true =>
  have hc:=hc e5
  rw[q]at hc
  obtain⟨p,hp⟩:∃p,QW d (lastOf d) S=some p:=by
   cases d with
   |wish=>exact⟨_,rfl⟩
   |name=>exact⟨_,rfl⟩
   |sign=>exact⟨_,rfl⟩
   |num=>exact⟨_,rfl⟩
   |beh =>
    cases S with
    |nil=>cases q
    |cons x r=>exact⟨_,rfl⟩
  have hw:okW (lastOf d)=true:=by cases d<;>decide
  have h:=ZaX (n:=n) (m:=put M i s++[some (false,(ws++[lastOf d]).map T.str)]) (d:=d) (w:=lastOf d) hS hSl (Zfy hw)
  rw[Mm.len,hp]at h
  have h:cf (n+2) 24 [.t (.str (duS d)),.t (.str (lastOf d)),.c (M.length+1)] (Mm M i s (ws++[lastOf d]) (st S))=.ok (.t (.str (duS p.1))) (Mm M i s (ws++[lastOf d]) (st p.2)):=h
  obtain⟨h1,h2⟩:=Zfe hS hSl hp
  refine⟨[lastOf d],p.1,p.2,some (.t (.str (lastOf d))),?_,by rw[List.all_cons,hw];rfl,by simp,h1,h2⟩
  rw[Zc9 hc (show _=Res.ok (Flow.next [some (.c i),some (.c M.length),some (.c (M.length+1)),some (.t (.str (duS p.1))),e4,some (.t (.str (lastOf d)))]) (Mm M i s (ws++[lastOf d]) (st p.2)) by
   rw[Zt (Zi2 (ts:=[.dct ([[119,105,115,104],[110,97,109,101],[115,105,103,110],[110,117,109,98,101,114],[98,101,104,105,110,100]].map λk=>.inr ⟨k.toArray⟩) [.str [97,110,121],.str [114,121,101],.str [62,61],.str [55],.str [41]],.str (duS d)]) (r:=.str (lastOf d)) (Qy (show ev (cf (n+2)) gv (.dsn _ _) _ _=.ok (.t (.dct _ _)) (Mm M i s ws (st S))from rfl) (Qy (Za rfl) ZcI)) rfl (by cases d<;>rfl))]
   dsimp only[List.set_cons_succ,List.set_cons_zero]
   rw[Zbc (appW hl)]
   rw[Zt ((Jo (Za rfl) (Za rfl) (Za rfl)).trans h),ex]
   rfl),ex]
end
theorem Zjz{n:Nat}{M:Mem}{i:Nat}{s:List T}(hi:i<M.length)(hs:IsSt s):∃ws s',cf (n+3) 30 [.c i] (put M i s)=.ok (.t (wl ws)) (put M i s')/\ws≠[]/\ws.length<=100/\ws.all okW=true:=by
 obtain⟨k,s1,hk,h1,hs1⟩:=Zid (n:=n+1) (M:=16) 16 rfl (m:=M++[some (false,[])]++[some (false,[])]) (i:=i) (by simp;omega) hs (by decide) (by decide)
 have eM:∀{s:List T},My.put (M++[some (false,[])]++[some (false,[])]) i s=Mm M i s [] (st []):=λ{s}=>(Mm.put (ws:=[]) hi).symm
 rw[eM,eM]at h1
 -- the first loop
 obtain⟨env1,m1,hl1,ws1,s2,o1,due1,e4,e5,rfl,rfl,hs2,hw1,hd1,hn1,hn1'⟩:∃env1 m1,Qh (ex (cf (n+2)) gv QK) (.nm 4) (rangeT 0 (1+k)) [some (.c i),some (.c M.length),some (.c (M.length+1)),some (.t (.str (duS .wish))),none,none] (Mm M i s1 [] (st []))=.ok (.next env1) m1/\∃ws s o due e4 e5,env1=[some (.c i),some (.c M.length),some (.c (M.length+1)),some (.t due),e4,e5]/\m1=Mm M i s ws o/\IsSt s/\ws.all okW=true/\Zht due o/\ws.length<=16/\0<ws.length:=by
  have:∀(ts:List T) (ws:List (List Nat)) (s o:List T) (due:T) (e4 e5:Option W),IsSt s->ws.all okW=true->Zht due o->ts.length+ws.length<=16->∃env1 m1,Qh (ex (cf (n+2)) gv QK) (.nm 4) ts [some (.c i),some (.c M.length),some (.c (M.length+1)),some (.t due),e4,e5] (Mm M i s ws o)=.ok (.next env1) m1/\∃ws' s o due e4 e5,env1=[some (.c i),some (.c M.length),some (.c (M.length+1)),some (.t due),e4,e5]/\m1=Mm M i s ws' o/\IsSt s/\ws'.all okW=true/\Zht due o/\ws'.length=ts.length+ws.length:=by
   intro ts
   induction ts with
   |nil=>intro ws s o due e4 e5 h1 h2 h3 h4;exact⟨_,_,rfl,_,_,_,_,_,_,rfl,rfl,h1,h2,h3,by simp⟩
   |cons t ts ih =>
    intro ws s o due e4 e5 h1 h2 h3 h4
    obtain⟨w,s',o',due',a1,a2,a3,a4⟩:=ZlG (n:=n) (M:=M) (i:=i) (s:=s) (o:=o) (ws:=ws) (due:=due) (e4:=some (.t t)) (e5:=e5) hi h1 h3 (by omega)
    obtain⟨env1,m1,b1,ws',s'',o'',due'',f4,f5,c1,c2,c3,c4,c5,c6⟩:=ih (ws++[w]) s' o' due' (some (.t t)) (some (.t (.str w))) a2 (by rw[List.all_append,h2,List.all_cons,a3];rfl) a4 (by simp at h4 ⊢;omega)
    refine⟨env1,m1,?_,ws',s'',o'',due'',f4,f5,c1,c2,c3,c4,c5,by rw[c6];simp;omega⟩
    rw[Qh]
    show(ex (cf (n+2)) gv QK [some (.c i),some (.c M.length),some (.c (M.length+1)),some (.t due),some (.t t),e5] (Mm M i s ws o)).bind _=_
    rw[a1]
    exact b1
  obtain⟨env1,m1,b1,ws',s'',o'',due'',f4,f5,c1,c2,c3,c4,c5,c6⟩:=this (rangeT 0 (1+k)) [] s1 (st []) (.str (duS .wish)) none none hs1 rfl (.inr ⟨.wish,[],rfl,rfl,λk hk=>(by cases hk),by simp⟩) (by simp[rangeT];omega)
  simp[rangeT]at c6
  exact⟨env1,m1,b1,ws',s'',o'',due'',f4,f5,c1,c2,c3,c4,c5,by omega,by omega⟩
 -- the second one
 have loop2:∀(ts:List T) (ws:List (List Nat)) (d:Du) (S:List (List Nat)) (s:List T) (e4 e5:Option W),ws.all okW=true->(∀k∈S,Kd k)->S.length<=12->ts.length+ws.length<=100->∃ws' due o f4 f5,Qh (ex (cf (n+2)) gv Jw) (.nm 4) ts [some (.c i),some (.c M.length),some (.c (M.length+1)),some (.t (.str (duS d))),e4,e5] (Mm M i s ws (st S))=.ok (.next [some (.c i),some (.c M.length),some (.c (M.length+1)),due,f4,f5]) (Mm M i s (ws++ws') o)/\(ws++ws').all okW=true/\(ws++ws').length<=100:=by
  intro ts
  induction ts with
  |nil=>intro ws d S s e4 e5 h1 h2 h3 h4;exact⟨[],_,_,_,_,by rw[List.append_nil];rfl,by rw[List.append_nil];exact h1,by simp at h4 ⊢;omega⟩
  |cons t ts ih =>
   intro ws d S s e4 e5 h1 h2 h3 h4
   obtain⟨w,d',S',f5,a1,a2,a3,a4,a5⟩:=ZlH (n:=n) (M:=M) (i:=i) (s:=s) (ws:=ws) (d:=d) (S:=S) (e4:=some (.t t)) (e5:=e5) h2 h3 (by omega)
   obtain⟨ws',due,o,g4,g5,b1,b2,b3⟩:=ih (ws++w) d' S' s (some (.t t)) f5 (by rw[List.all_append,h1,a2];rfl) a4 a5 (by simp at h4 ⊢;omega)
   rw[List.append_assoc]at b1 b2 b3
   refine⟨w++ws',due,o,g4,g5,?_,b2,b3⟩
   rw[Qh]
   show(ex (cf (n+2)) gv Jw [some (.c i),some (.c M.length),some (.c (M.length+1)),some (.t (.str (duS d))),some (.t t),e5] (Mm M i s ws (st S))).bind _=_
   rw[a1]
   exact b1
 have hgo:∀{ws:List (List Nat)}{s' o:List T},ex (cf (n+2)) gv JZ [some (.c i),none,none,none,none,none] (put M i s)=.ok (.ret (.c M.length)) (Mm M i s' ws o)->cf (n+3) 30 [.c i] (put M i s)=.ok (.t (wl ws)) (put M i s'):=λ{ws s' o} key=>by
  refine ZZ (Zjg _ _ _) rfl key ?_
  show(if M.length<(My.put M i s).length then _ else _)=_
  rw[Qw,if_neg (by omega),Mm.at]
  show Res.ok (W.t (wl ws)) ((Mm M i s' ws o).take M.length)=_
  unfold Mm
  rw[List.append_assoc,List.take_append_of_le_length (by rw[Qw];omega),Zdt]
 have h0:∀k,ex (cf (n+2)) gv (.asg 1 (.cel .nil) (.asg 2 (.cel .nil) (.asg 3 (.con (.str [119,105,115,104])) k))) [some (.c i),none,none,none,none,none] (put M i s)=ex (cf (n+2)) gv k [some (.c i),some (.c M.length),some (.c (M.length+1)),some (.t (.str (duS .wish))),none,none] (Mm M i s [] (st [])):=λk=>by
  rw[Zt (show ev (cf (n+2)) gv (.cel .nil) _ (put M i s)=.ok (.c (put M i s).length) (put M i s++[some (false,[])])from rfl)]
  dsimp only[List.set_cons_succ,List.set_cons_zero]
  rw[Zt (show ev (cf (n+2)) gv (.cel .nil) _ (put M i s++[some (false,[])])=.ok (.c (put M i s++[some (false,[])]).length) (put M i s++[some (false,[])]++[some (false,[])])from rfl)]
  dsimp only[List.set_cons_succ,List.set_cons_zero]
  rw[Zt (Zb _),Qw,show(My.put M i s++[some (false,[])]:Mem).length=M.length+1 from Mm.len (ws:=[])]
  rfl
 have hr:∀e4 e5,ev (cf (n+2)) gv (.blt .range1 (.cons (.bin .Add (.con (.int 1)) (.call 20 (.cons (.var 0) (.cons (.con (.int 16)) .nil)))) .nil)) [some (.c i),some (.c M.length),some (.c (M.length+1)),some (.t (.str (duS .wish))),e4,e5] (Mm M i s [] (st []))=.ok (.t (.lst (rangeT 0 (1+k)))) (Mm M i s1 [] (st [])):=λe4 e5=>by
  refine Zv (Zi4 (Zb _) ((Zn (Za rfl) (Zb _)).trans h1) (Znq _ _)) ?_
  rw[ZmS (by omega),show((1:Int)+(k:Int)).toNat=1+k by omega]
 have key1:∀kk,ex (cf (n+2)) gv (.asg 1 (.cel .nil) (.asg 2 (.cel .nil) (.asg 3 (.con (.str [119,105,115,104])) (.forr (.nm 4) (.blt .range1 (.cons (.bin .Add (.con (.int 1)) (.call 20 (.cons (.var 0) (.cons (.con (.int 16)) .nil)))) .nil)) QK kk)))) [some (.c i),none,none,none,none,none] (put M i s)=ex (cf (n+2)) gv kk [some (.c i),some (.c M.length),some (.c (M.length+1)),some (.t due1),e4,e5] (Mm M i s2 ws1 o1):=λkk=>by
  rw[h0,XX (x:=.t (.lst (rangeT 0 (1+k)))) (hr _ _) rfl hl1]
  rfl
 have ne1:ws1≠[]:=λz=>by rw[z]at hn1';cases hn1'
 rcases hd1 with rfl|⟨d,S,rfl,rfl,hS,hSl⟩
 ·refine⟨ws1,s2,hgo (o:=o1) ?_,ne1,by omega,hw1⟩
  unfold JZ
  rw[key1,Ze (ZG (Zm (k:=false) (Za rfl) (Zb _) rfl))]
  exact Zg (Za rfl)
 ·obtain⟨k2,s3,hk2,h2,hs3⟩:=Zid (n:=n+1) (M:=4) 4 rfl (m:=M++[some (false,ws1.map T.str)]++[some (false,st S)]) (i:=i) (by simp;omega) hs2 (by decide) (by decide)
  rw[<-Mm.put hi,<-Mm.put hi]at h2
  have hc:ev (cf (n+2)) gv (.and (.cmp .IsNot (.var 3) (.con .non)) (.cmp .Gt (.call 20 (.cons (.var 0) (.cons (.con (.int 4)) .nil))) (.con (.int 0)))) [some (.c i),some (.c M.length),some (.c (M.length+1)),some (.t (.str (duS d))),e4,e5] (Mm M i s2 ws1 (st S))=.ok (.t (.bl (decide ((0:Int)<(k2:Int))))) (Mm M i s3 ws1 (st S)):=
   (Js (Zm (k:=true) (Za rfl) (Zb _) rfl)).trans (Zm ((Zn (Za rfl) (Zb _)).trans h2) (Zb _) (c_gt _ _))
  cases q:decide ((0:Int)<(k2:Int))with
  |false =>
   rw[q]at hc
   refine⟨ws1,s3,hgo (o:=st S) ?_,ne1,by omega,hw1⟩
   unfold JZ
   rw[key1,Ze hc]
   exact Zg (Za rfl)
  |true =>
   rw[q]at hc
   obtain⟨ws',due,o,f4,f5,a1,a2,a3⟩:=loop2 (rangeT 0 40) ws1 d S s3 e4 e5 hw1 hS hSl (by simp[rangeT];omega)
   refine⟨ws1++ws',s3,hgo (o:=o) ?_,by simp[ne1],a3,a2⟩
   unfold JZ
   rw[key1,Zc9 hc (show _=Res.ok (Flow.next [some (.c i),some (.c M.length),some (.c (M.length+1)),due,f4,f5]) (Mm M i s3 (ws1++ws') o) by
    rw[XX (x:=.t (.lst (rangeT 0 40))) (Zv (Zb _) (ZmS (by decide))) rfl a1,ex]
    rfl)]
   exact Zg (Za rfl)
theorem okW_sp{w:List Nat}(h:okW w=true):32∉w:=by
 unfold okW at h
 rw[Bool.and_eq_true]at h
 intro z
 have:=h.2
 rw[List.contains_iff_mem.mpr z]at this
 cases this
theorem sz_ok:∀{ws:List (List Nat)},ws.all okW=true->sz ws<=11*ws.length
 |[],_=>by simp[sz]
 |w::r,h=>by
  rw[List.all_cons,Bool.and_eq_true]at h
  have h1:=sz_ok h.2
  have h2:=h.1
  unfold okW at h2
  rw[Bool.and_eq_true]at h2
  have:=of_decide_eq_true h2.1
  rw[ZhI,List.length_cons]
  omega
theorem Zf5(e:Int):Zj 60 (.tup [.str [114,101,102,117,115,101,100],.int e])=true:=by
 rw[Zj]
 refine Jz λt ht=>?_
 simp at ht
 rcases ht with rfl|rfl
 ·exact ZbY (by decide)
 ·rfl
theorem ZhE{t:T}(h:Jj t=true):Zj 60 (.tup [.str [116,111,108,100],t])=true:=by
 rw[Zj]
 refine Jz λx hx=>?_
 simp at hx
 rcases hx with rfl|rfl
 ·exact ZbY (by decide)
 ·exact Zhz h
theorem law_turn{n:Nat}{m:Mem}{v:Int}{e0 e2 e3 e4:Option W}:∃f2 f3 f4 m',ex (cf (n+102)) gv ZdA [e0,some (.t (.int v)),e2,e3,e4] m=.ok (.next [e0,some (.t (.int v)),f2,f3,f4]) m':=by
 obtain⟨s0,h0,hs0⟩:=Xw (n:=n+101) (m:=m) (x:=v)
 obtain⟨ws,s1,h1,ne,hwl,hok⟩:=Zjz (n:=n+99) (M:=m++[none]) (i:=m.length) (by simp) hs0
 have hsz:=sz_ok hok
 have hjl:=ZlS ws
 have hsp:ZR 32 (Qp [32] ws)=ws:=Zai ne λw hw=>okW_sp (List.all_eq_true.mp hok w hw)
 have hF:Fits ws:=λw hw=>Zfy (List.all_eq_true.mp hok w hw)
 have hca:=ZkS (n:=n+45) (m:=put (m++[none]) m.length s1) (cs:=Qp [32] ws) (by omega)
 have hfa:=ZkB (n:=n+99) (m:=put (m++[none]) m.length s1) (cs:=Qp [32] ws) (by omega)
 rw[hsp]at hca hfa
 have h1:cf (n+102) 30 [.c m.length] (put (m++[none]) m.length s0)=_:=h1
 have hfa:cf (n+102) 25 [.t (.str (Qp [32] ws))] (put (m++[none]) m.length s1)=_:=hfa
 unfold ZdA
 rw[Zt ((ZF ((ZF (Za rfl)).trans h0)).trans h1)]
 dsimp only[List.set_cons_succ,List.set_cons_zero]
 rw[Zt (ZkE (by omega) (Za rfl))]
 dsimp only[List.set_cons_succ,List.set_cons_zero]
 rw[Zt (ZL (Zb _) ((ZF (Za rfl)).trans hfa))]
 dsimp only[List.set_cons_succ,List.set_cons_zero]
 have fin1:∀{x:T}{k:S},Xo (ZaB ws)=x->Zj 60 x=true->ex (cf (n+102)) gv (.ife (.cmp .NotEq (.call 26 (.cons (.var 3) .nil)) (.var 4)) k .done .done) [e0,some (.t (.int v)),some (.t (wl ws)),some (.t (.str (Qp [32] ws))),some (.t x)] (put (m++[none]) m.length s1)=.ok (.next [e0,some (.t (.int v)),some (.t (wl ws)),some (.t (.str (Qp [32] ws))),some (.t x)]) (put (m++[none]) m.length s1):=λ{x k} e hd=>by
  rw[e]at hca
  rw[Ze (Zm (k:=false) ((ZF (Za rfl)).trans hca) (Za rfl) (ZmN hd)),ex]
 cases q:runA .wish [] ws 0 with
 |some e =>
  have hw:=wish_A ws
  rw[Ze (Zm (k:=false) (Xn (Za rfl) (Zb _) rfl) (Zb _) rfl)]
  refine⟨_,_,_,_,fin1 ?_ (Zf5 e)⟩
  cases hr:ZaB ws with
  |ok t=>rw[hr,q]at hw;cases hw.1
  |error e' =>
   rw[hr,q]at hw
   rcases hw with hw|⟨hw,_⟩
   ·cases hw;rfl
   ·cases hw
 |none =>
  rw[show dueT none=T.non from rfl]
  obtain⟨t,hS,hfit⟩:=sg_of hF q
  have hwo:=ZgA hS (n+101) (put (m++[none]) m.length s1) (by omega) (by omega)
  have hiw:=Zc5 (n:=n+97) (m:=put (m++[none]) m.length s1) (x:=t) (λk y hy=>(FitH.lay k [t] (λy hy=>by simp at hy;subst hy;exact hfit) y hy).one)
  have hrd:=ZhY (ws:=ws) (n:=ws.length) (Nat.le_refl _) q
  rw[hS.wish ws.length (Nat.le_refl _)]at hrd
  have hc0:∀x,ev (cf (n+102)) gv (.cmp .Is (.ix (.var 4) (.con (.int 1))) (.con .non)) [e0,some (.t (.int v)),some (.t (wl ws)),some (.t (.str (Qp [32] ws))),some (.t (.tup [x,.non]))] (put (m++[none]) m.length s1)=.ok (.t (.bl true)) (put (m++[none]) m.length s1):=λx=>Zm (k:=true) (Xn (Za rfl) (Zb _) rfl) (Zb _) rfl
  have hc1:ev (cf (n+102)) gv (.not (.call 9 (.cons (.ix (.var 4) (.con (.int 1))) .nil))) [e0,some (.t (.int v)),some (.t (wl ws)),some (.t (.str (Qp [32] ws))),some (.t (.tup [.str [116,111,108,100],t]))] (put (m++[none]) m.length s1)=.ok (.t (.bl (!Jj t))) (put (m++[none]) m.length s1):=Xm ((ZF (Xn (Za rfl) (Zb _) rfl)).trans hiw)
  cases hw:Jj t with
  |true =>
   rw[hw]at hc1 hrd
   rw[Zc9 (hc0 _) (show _=Res.ok (Flow.next [e0,some (.t (.int v)),some (.t (wl ws)),some (.t (.str (Qp [32] ws))),some (.t (.tup [.str [116,111,108,100],t]))]) (put (m++[none]) m.length s1) by
    rw[Zt (ZL (Zb _) ((ZF (Za rfl)).trans hwo))]
    dsimp only[List.set_cons_succ,List.set_cons_zero]
    rw[Ze hc1,ex])]
   exact⟨_,_,_,_,fin1 (by rw[hrd];rfl) (ZhE hw)⟩
  |false =>
   rw[hw]at hc1 hrd
   rw[Zc9 (hc0 _) (show _=Res.ok (Flow.next [e0,some (.t (.int v)),some (.t (wl ws)),some (.t (.str (Qp [32] ws))),some (.t (.tup [.str [114,101,102,117,115,101,100],.int (ws.length:Int)]))]) (put (m++[none]) m.length s1) by
    rw[Zt (ZL (Zb _) ((ZF (Za rfl)).trans hwo))]
    dsimp only[List.set_cons_succ,List.set_cons_zero]
    rw[Zc9 hc1 (show _=Res.ok (Flow.next [e0,some (.t (.int v)),some (.t (wl ws)),some (.t (.str (Qp [32] ws))),some (.t (.tup [.str [114,101,102,117,115,101,100],.int (ws.length:Int)]))]) (put (m++[none]) m.length s1) by
     rw[Zt (ZL (Zb _) (Zv (Za rfl) ((ZbE _).trans (by rw[List.length_map])))),ex]
     rfl),ex])]
   exact⟨_,_,_,_,fin1 (by rw[hrd];rfl) (Zf5 _)⟩
theorem law_true(ns:List Int)(hl:ns.length<=63):∃m,Jf fns gv 103 31 [.t (.scr ns)] []=.ok (.t (.bl true)) m:=by
 obtain⟨v,hv⟩:=Znm (n:=101) (m:=[]) (ns:=ns)
 have hcut:=Zni ns (some 1) (some 40)
 obtain⟨env1,m1,h1,e1,e2,e3,e4,rfl⟩:=Zc1 (f:=ex (cf 102) gv ZdA) (tg:=.nm 1) (P:=λenv m=>∃e1 e2 e3 e4,env=[some (.t (.scr ns)),e1,e2,e3,e4]) (.int v::(cut ns (some 1) (some 40)).map .int) [some (.t (.scr ns)),none,none,none,none] [] ⟨_,_,_,_,rfl⟩ (by
  rintro t ht env m ⟨e1,e2,e3,e4,rfl⟩
  have:∃x:Int,t=.int x:=by
   rcases List.mem_cons.mp ht with rfl|ht
   ·exact⟨v,rfl⟩
   ·obtain⟨x,_,rfl⟩:=List.mem_map.mp ht
    exact⟨x,rfl⟩
  obtain⟨y,rfl⟩:=this
  obtain⟨f2,f3,f4,m',h⟩:=law_turn (n:=0) (m:=m) (v:=y) (e0:=some (.t (.scr ns))) (e2:=e2) (e3:=e3) (e4:=e4)
  exact⟨_,_,m',rfl,h,_,_,_,_,rfl⟩)
 refine⟨[],?_⟩
 have key:ex (cf 102) gv Zhq [some (.t (.scr ns)),none,none,none,none] []=.ok (.ret (.t (.bl true))) m1:=by
  unfold Zhq
  rw[XX (x:=.t (.lst (.int v::(cut ns (some 1) (some 40)).map .int))) (m0:=[]) (m1:=[]) (by
   simp[ev,evs,isT,Zr,EVs,hv,lim]
   rw[Zlz (by simp[lim];omega)]
   rfl) rfl h1]
  exact Zg (Zb _)
 show cf 103 31 [.t (.scr ns)] []=_
 rw[cf_law]
 simp[key,Zf,fin]
end My
end
section
set_option maxHeartbeats 1000000
namespace My
open PySem PySem.Spec PyProof.Rows L2 Mi
noncomputable def top(i:Nat):Stmt:=PySem.Challenge.pw_matepoint_k14_whole_any_words.main.body.getD i (.Pass ⟨0,0,0,0⟩)
noncomputable abbrev QQ:Stmt:=top 5
noncomputable abbrev Zaw:Stmt:=top 6
noncomputable abbrev Xz:Stmt:=top 7
noncomputable abbrev JL:Stmt:=top 8
noncomputable abbrev JK:Stmt:=top 28
noncomputable abbrev QB:Stmt:=top 29
noncomputable abbrev Jh:Stmt:=top 30
noncomputable abbrev JF:Stmt:=top 31
noncomputable abbrev XC:Stmt:=top 32
noncomputable abbrev Zax:Stmt:=top 33
noncomputable abbrev Qt:Stmt:=top 40
noncomputable abbrev Zau:Stmt:=top 41
noncomputable abbrev Zav:Stmt:=top 42
noncomputable abbrev JH:Stmt:=top 43
noncomputable abbrev Jg:Stmt:=top 44
noncomputable abbrev Xy:Stmt:=top 45
noncomputable abbrev Q4:Stmt:=top 46
noncomputable abbrev JG:Stmt:=top 47
noncomputable abbrev Zdq:Stmt:=top 49
noncomputable abbrev ZbN:Stmt:=top 50
noncomputable abbrev Zdp:Stmt:=top 51
noncomputable abbrev XJ:Stmt:=top 52
noncomputable abbrev Q5:Stmt:=top 53
noncomputable abbrev ZbP:Stmt:=top 54
noncomputable abbrev XH:Stmt:=top 55
noncomputable abbrev ZbO:Stmt:=top 56
noncomputable abbrev Zaz:Stmt:=top 57
noncomputable abbrev Zay:Stmt:=top 58
noncomputable abbrev XD:Stmt:=top 59
noncomputable abbrev JM:Stmt:=top 60
noncomputable abbrev ZbM:Stmt:=top 61
noncomputable abbrev Zei:Stmt:=top 62
noncomputable abbrev Q7:Stmt:=inBody (top 11) 0
set_option hygiene false
local macro_rules
 | `(tactic| wtm_at $s:str)=>do
  let mut r:Array (Lean.TSyntax `tactic):=#[]
  for c in s.getString.toList do
   let t ← match c with
    | '0'=>`(tactic| exact rfl)
    | '1'=>`(tactic| refine Zgf ?_ ?_ ?_)
    | '2'=>`(tactic| exact Zil)
    | '3'=>`(tactic| exact (Zmi (by decide +kernel)))
    | '4'=>`(tactic| exact (vr 0))
    | '5'=>`(tactic| exact Zmr)
    | '6'=>`(tactic| exact hr.units)
    | '7'=>`(tactic| exact (by with_unfolding_all rfl))
    | '8'=>`(tactic| exact hr)
    | '9'=>`(tactic| exact go.lk)
    | 'a'=>`(tactic| exact (vr 1))
    | 'b'=>`(tactic| refine ZjV ?_)
    | 'c'=>`(tactic| refine Zkh ?_ ?_ ?_ ?_ ?_)
    | 'd'=>`(tactic| exact ZjW)
    | 'e'=>`(tactic| refine Zl3 ?_ ?_ ?_ ?_)
    | 'f'=>`(tactic| refine Zl6 ?_ ?_ ?_ ?_)
    | 'g'=>`(tactic| exact (fun _ _=>rfl))
    | 'h'=>`(tactic| refine ZmA ?_ ?_)
    | 'i'=>`(tactic| exact (vr 2))
    | 'j'=>`(tactic| refine pe_ixW ?_ ?_ ?_)
    | 'k'=>`(tactic| refine Zmh ?_)
    | 'l'=>`(tactic| exact ⟨rfl,rfl,rfl,by decide +kernel,rfl,by decide +kernel,by decide +kernel⟩)
    | 'm'=>`(tactic| intro P w K mg base k f cdv A outer s H E T0 T1 hr xe pn xr go)
    | 'n'=>`(tactic| refine ⟨?_⟩)
    | 'o'=>`(tactic| exact (by decide))
    | 'p'=>`(tactic| exact (vr 3))
    | 'q'=>`(tactic| refine Zmv ?_ ?_ ?_ ?_)
    | 'r'=>`(tactic| refine Zmp ?_ ?_ ?_ ?_ ?_)
    | 's'=>`(tactic| exact T0.b_len)
    | 't'=>`(tactic| exact (fun _=>rfl))
    | 'u'=>`(tactic| refine Zmn ?_)
    | 'v'=>`(tactic| refine pt_of ?_ ?_)
    | 'w'=>`(tactic| refine PW.pt ?_)
    | 'x'=>`(tactic| refine ZmB ?_ ?_)
    | 'y'=>`(tactic| refine pe_one ?_)
    | 'z'=>`(tactic| exact (by kernel_rfl))
    | 'A'=>`(tactic| refine ZlY ?_ ?_)
    | 'B'=>`(tactic| refine sg (i:=3) ?_ ?_ ?_)
    | 'C'=>`(tactic| exact (vr 4))
    | 'D'=>`(tactic| exact (vr 5))
    | 'E'=>`(tactic| exact T0.b_isinstance)
    | 'F'=>`(tactic| exact T0.b_int)
    | 'G'=>`(tactic| refine Zl0 ?_)
    | 'H'=>`(tactic| refine ZlZ ?_)
    | 'I'=>`(tactic| refine Zkd ?_ ?_ ?_ ?_ ?_)
    | 'J'=>`(tactic| exact Zml)
    | 'K'=>`(tactic| refine Qu ?_ ?_)
    | 'L'=>`(tactic| refine pi_of ?_)
    | 'M'=>`(tactic| refine sg (i:=2) ?_ ?_ ?_)
    | 'N'=>`(tactic| refine pa_csS ?_ ?_)
    | 'O'=>`(tactic| refine Zj4 ?_ ?_ ?_)
    | 'P'=>`(tactic| exact Zla)
    | 'Q'=>`(tactic| refine ⟨?_,?_⟩)
    | 'R'=>`(tactic| exact go.po)
    | 'S'=>`(tactic| exact True.intro)
    | 'T'=>`(tactic| refine Zmq ?_ ?_ ?_ ?_ ?_ ?_)
    | 'U'=>`(tactic| exact (by decide +kernel))
    | 'V'=>`(tactic| refine sg (i:=1) ?_ ?_ ?_)
    | 'W'=>`(tactic| refine ZkO ?_ ?_ ?_ ?_ ?_ ?_ ?_)
    | 'X'=>`(tactic| intro _ _ _ _ _)
    | 'Y'=>`(tactic| refine ⟨?_,?_,?_⟩)
    | 'Z'=>`(tactic| refine pw_orW ?_ ?_)
    | '!'=>`(tactic| refine pw_or1 ?_)
    | '#'=>`(tactic| exact T1.f_word_at)
    | '$'=>`(tactic| refine Zh1 (kk:=k) ?_ ?_ ?_ ?_ ?_ ?_ ?_)
    | '%'=>`(tactic| exact T0.xi_NoText)
    | '&'=>`(tactic| exact T0.c_NoText)
    | '('=>`(tactic| refine Zj5 ?_ ?_)
    | ')'=>`(tactic| exact Zb9.nd)
    | '*'=>`(tactic| exact T0.b_tuple)
    | '+'=>`(tactic| exact pe_blW)
    | ','=>`(tactic| refine ZjX ?_ ?_ ?_ ?_ ?_ ?_ ?_)
    | '-'=>`(tactic| refine Zh4 ?_ ?_)
    | '.'=>`(tactic| exact T1.f_is_one_of)
    | '/'=>`(tactic| refine Zj0 ?_ ?_ ?_ ?_)
    | ':'=>`(tactic| refine Zmj ?_ ?_ ?_)
    | ';'=>`(tactic| refine Zmy ?_)
    | '<'=>`(tactic| exact ZcT.nd)
    | '='=>`(tactic| exact (ZcW (i:=2) rfl (by first | exact Or.inl rfl | exact Or.inr (Or.inl rfl) | exact Or.inr (Or.inr rfl))))
    | '>'=>`(tactic| exact T1.f_Lpick)
    | '?'=>`(tactic| exact Zf1.nd)
    | '@'=>`(tactic| exact ZaZ.nd)
    | '['=>`(tactic| refine sg (i:=4) ?_ ?_ ?_)
    | ']'=>`(tactic| exact T1.f_read_joined)
    | '^'=>`(tactic| refine ZgS ?_ ?_)
    | '_'=>`(tactic| exact Zf2.nd)
    | '`'=>`(tactic| exact Zcb.nd)
    | '{'=>`(tactic| exact T0.xk)
    | '|'=>`(tactic| exact (fun _ h=>absurd h List.not_mem_nil))
    | '}'=>`(tactic| refine Zh6 ?_ ?_)
    | '~'=>`(tactic| refine Zh5 ?_)
    | 'À'=>`(tactic| exact Zfp)
    | 'Á'=>`(tactic| exact T1.f_Lwish_of)
    | 'Â'=>`(tactic| exact Zl8)
    | 'Ã'=>`(tactic| exact (by simp))
    | 'Ä'=>`(tactic| refine Zkj ?_ ?_ ?_ ?_ ?_)
    | 'Å'=>`(tactic| exact T0.b_all)
    | 'Æ'=>`(tactic| exact T0.b_str)
    | 'Ç'=>`(tactic| refine Zmx ?_ ?_ ?_ ?_ ?_)
    | 'È'=>`(tactic| refine pe_orW ?_ ?_)
    | 'É'=>`(tactic| refine ZgQ ?_ ?_ ?_)
    | 'Ê'=>`(tactic| exact T0.b_range)
    | 'Ë'=>`(tactic| exact Zat.nd)
    | 'Ì'=>`(tactic| exact Zj6)
    | 'Í'=>`(tactic| exact (vr 6))
    | 'Î'=>`(tactic| refine ZgR ?_ ?_ ?_ ?_ ?_)
    | 'Ï'=>`(tactic| refine Zmm ?_)
    | 'Ð'=>`(tactic| exact T1.f_Lended)
    | 'Ñ'=>`(tactic| exact T1.f_Lstepped)
    | 'Ò'=>`(tactic| exact (fun _ h=>h))
    | 'Ó'=>`(tactic| refine Zkf ?_ ?_ ?_ ?_)
    | 'Ô'=>`(tactic| refine Zfw (N':=["sign"]) ?_ ?_)
    | 'Õ'=>`(tactic| exact (QR 0 (show List.Nodup (["sign"]:List Str) from by decide +kernel)))
    | 'Ö'=>`(tactic| exact T1.f_is_long_word)
    | 'Ø'=>`(tactic| exact (ZbQ 4 5 rfl Zaj.nd))
    | 'Ù'=>`(tactic| exact (J1 rfl rfl T0.g_JOINS (by decide)))
    | 'Ú'=>`(tactic| exact (ZbQ 4 5 rfl Jr.nd))
    | 'Û'=>`(tactic| refine ZgI ?_ ?_ ?_ ?_)
    | 'Ü'=>`(tactic| refine Zig ?_ ?_)
    | 'Ý'=>`(tactic| exact Zeh.nd)
    | 'Þ'=>`(tactic| refine ZjU ?_ ?_ ?_ ?_)
    | 'ß'=>`(tactic| refine Zf9 (N':=["_law_sign"]) ?_ ?_ ?_ ?_ ?_ ?_ ?_)
    | 'à'=>`(tactic| exact (QR 0 (show List.Nodup (["_law_sign"]:List Str) from by decide +kernel)))
    | 'á'=>`(tactic| exact T1.f_Lis_name)
    | 'â'=>`(tactic| exact (Zam (i:=3) Xx.nd rfl (by first | exact Or.inl rfl | exact Or.inr rfl)))
    | 'ã'=>`(tactic| refine Zki PySem.F.plainAttrs_list PySem.F.slot_list_append PySem.F.type_list_append ZeC ?_ ?_)
    | 'ä'=>`(tactic| refine Zge ?_ ?_ ?_ ?_ ?_)
    | 'å'=>`(tactic| exact Xa.nd)
    | 'æ'=>`(tactic| exact (QR 4 Zb9.nd))
    | 'ç'=>`(tactic| refine sg (i:=5) ?_ ?_ ?_)
    | _=>Lean.Macro.throwUnsupported
   r:=r.push t
  `(tactic| ($[$r:tactic];*))
theorem Zfh:FnScope ["self","at"] ["self","at"] (Zc Q7):=by
 wtm_at "l"
theorem Zb8:FnScope ["text"] ["text"] (Zc QQ):=by
 wtm_at "l"
theorem ZgG:FnScope ["thing"] ["thing"] (Zc Zaw):=by
 wtm_at "l"
theorem Zfg:FnScope ["thing"] ["thing"] (Zc Xz):=by
 wtm_at "l"
theorem Zeg:FnScope ["thing"] ["thing"] (Zc JL):=by
 wtm_at "l"
theorem Zef:FnScope ["thing","texts"] ["thing","texts"] (Zc JK):=by
 wtm_at "l"
theorem ZbB:FnScope ["thing"] ["thing"] (Zc QB):=by
 wtm_at "l"
theorem Zdo:FnScope ["thing"] ["thing"] (Zc Jh):=by
 wtm_at "l"
theorem Zee:FnScope ["thing"] ["thing"] (Zc JF):=by
 wtm_at "l"
theorem Zfi:FnScope ["thing"] ["thing"] (Zc XC):=by
 wtm_at "l"
theorem ZaZ:FnScope ["thing","layer","parts","depth"] ["thing"] (Zc Zax):=by
 wtm_at "l"
theorem Za0:FnScope ["word"] ["word"] (Zc Qt):=by
 wtm_at "l"
theorem ZgF:FnScope ["words","at"] ["words","at"] (Zc Zau):=by
 wtm_at "l"
theorem ZcS:FnScope ["words","at","word"] ["words","at"] (Zc Zav):=by
 wtm_at "l"
theorem Zbl:FnScope ["words","at","word"] ["words","at"] (Zc JH):=by
 wtm_at "l"
theorem Zat:FnScope ["words","at","word","size","sign"] ["words","at"] (Zc Jg):=by
 wtm_at "l"
theorem Zaj:FnScope ["words","at","within","word","wish","behind"] ["words","at","within"] (Zc Xy):=by
 wtm_at "l"
theorem Jr:FnScope ["words","at","within","joins","wish","behind","wishes"] ["words","at","within","joins"] (Zc Q4):=by
 wtm_at "l"
theorem J9:FnScope ["text","words","wish","behind"] ["text"] (Zc JG):=by
 wtm_at "l"
theorem ZjO:FnScope ["_law_script","_law_k"] ["_law_script","_law_k"] (Zc Zdq):=by
 wtm_at "l"
theorem Zeh:FnScope ["_law_cell_here","_law_wide","_law_digits"] ["_law_cell_here"] (Zc ZbN):=by
 wtm_at "l"
theorem Zf2:FnScope ["_law_store_here","_law_many","_law_found","_law_number"] ["_law_store_here","_law_many"] (Zc Zdp):=by
 wtm_at "l"
theorem Zca:FnScope ["_law_word","_law_small"] ["_law_word"] (Zc XJ):=by
 wtm_at "l"
theorem X8:FnScope ["_law_word","_law_figures"] ["_law_word"] (Zc Q5):=by
 wtm_at "l"
theorem ZhW:FnScope ["_law_opened"] ["_law_opened"] (Zc ZbP):=by
 wtm_at "l"
theorem Zfj:FnScope ["_law_due","_law_word","_law_opened"] ["_law_due","_law_word","_law_opened"] (Zc XH):=by
 wtm_at "l"
theorem Zcb:FnScope ["_law_text","_law_words_here","_law_opened","_law_due","_law_k","_law_word"] ["_law_text"] (Zc ZbO):=by
 wtm_at "l"
theorem ZcT:FnScope ["_law_text","_law_told","e","_law_others"] ["_law_text"] (Zc Zaz):=by
 wtm_at "l"
theorem Xx:FnScope ["_law_words_here","_law_word","_law_found","_law_deep","_law_one"] ["_law_words_here","_law_word"] (Zc Zay):=by
 wtm_at "l"
theorem Zak:FnScope ["_law_words_here","_law_word","_law_some"] ["_law_words_here"] (Zc XD):=by
 wtm_at "l"
theorem Xa:FnScope ["_law_store_here","_law_due","_law_menus","_law_some"] ["_law_store_here","_law_due"] (Zc JM):=by
 wtm_at "l"
theorem Zb9:FnScope ["_law_store_here","_law_words_here","_law_opened","_law_due","_law_k","_law_word"] ["_law_store_here"] (Zc ZbM):=by
 wtm_at "l"
theorem Zf1:FnScope ["_law_script","_law_cell_here","_law_words_here","_law_text","_law_due"] ["_law_script"] (Zc Zei):=by
 wtm_at "l"
structure Txt0 (P:Program) (w:World) (K:Frag) (mg:Str->Option Value):Prop where
 b_ValueError:mg "ValueError" = none
 b_all:mg "all" = none
 b_bool:mg "bool" = none
 b_enumerate:mg "enumerate" = none
 b_int:mg "int" = none
 b_isinstance:mg "isinstance" = none
 b_len:mg "len" = none
 b_range:mg "range" = none
 b_str:mg "str" = none
 b_tuple:mg "tuple" = none
 g_LETTERS:Q0 K mg "LETTERS" (.str [97,98,99,100,101,102,103,104,105,106,107,108,109,110,111,112,113,114,115,116,117,118,119,120,121,122])
 g_LONGEST_WORD:Q0 K mg "LONGEST_WORD" (.int 8)
 g_WISH_WORDS:Q0 K mg "WISH_WORDS" (.tup [(.str [97,110,121]),(.str [105,115]),(.str [98,121]),(.str [110,111,116]),(.str [97,110,100]),(.str [111,114])])
 g_GREATEST_NUMBER:Q0 K mg "GREATEST_NUMBER" (.int 1000000000)
 g_DEEPEST:Q0 K mg "DEEPEST" (.int 6)
 g_MOST_PARTS:Q0 K mg "MOST_PARTS" (.int 40)
 g_FEWEST_JOINED:Q0 K mg "FEWEST_JOINED" (.int 2)
 g_MOST_JOINED:Q0 K mg "MOST_JOINED" (.int 6)
 g_FIGURES:Q0 K mg "FIGURES" (.str [48,49,50,51,52,53,54,55,56,57])
 g_MOST_FIGURES:Q0 K mg "MOST_FIGURES" (.int 10)
 g_MOST_WITHIN:Q0 K mg "MOST_WITHIN" (.int 12)
 d_SIGNS:Zjw P w K mg "SIGNS" (List.map (λk=>.inr ⟨k.toArray⟩) [[62,61],[60,61]]) [(.str [108,101,97,115,116]),(.str [109,111,115,116])]
 g_JOINS:Q0 K mg "JOINS" (.tup [(.str [111,114]),(.str [97,110,100])])
 c_NoText:mg "NoText" = some (.ref 71)
 c_TooLate:mg "TooLate" = some (.ref 150)
 c_NoNumber:mg "NoNumber" = some (.ref 186)
 c_NoName:mg "NoName" = some (.ref 138)
 c_NoLine:mg "NoLine" = some (.ref 210)
 c_HasName:mg "HasName" = some (.ref 126)
 c_Full:mg "Full" = some (.ref 162)
 c_BadTime:mg "BadTime" = some (.ref 114)
 c_BadRule:mg "BadRule" = some (.ref 83)
 c_BadOffer:mg "BadOffer" = some (.ref 95)
 c_BadMany:mg "BadMany" = some (.ref 174)
 c_BadBook:mg "BadBook" = some (.ref 198)
 c_MateError:mg "MateError" = some (.ref 51)
 xi_NoText:XInit K 71 "at"
 xk:XKit K
 xg_NoText:XGet K 71
 xo_NoText_TooLate:kitOne K (.ref 71) (.ref 150)=some false
 xo_NoText_ValueError:kitOne K (.ref 71) (.type "ValueError")=some true
 xo_NoText_NoText:kitOne K (.ref 71) (.ref 71)=some true
 xt_NoText_198_174_95_83_114_162_126_210_138_186:PySem.W.kitAny K (.ref 71) (List.map (Value.ref) [198,174,95,83,114,162,126,210,138,186])=some false
 xm_NoText_MateError:PySem.W.exmOne K (.ref 71) (.ref 51)=some true
structure Txt1 (P:Program) (w:World) (K:Frag) (mg:Str->Option Value) (base:Heap) (k:Nat):Prop where
 f_is_long_word:FOk P w K mg base fns gv k "is_long_word" 0
 f_is_word:FOk P w K mg base fns gv k "is_word" 1
 f_is_whole:FOk P w K mg base fns gv k "is_whole" 2
 f_is_number:FOk P w K mg base fns gv k "is_number" 3
 f_is_one_of:FOk P w K mg base fns gv k "is_one_of" 4
 f_is_plain_wish:FOk P w K mg base fns gv k "is_plain_wish" 5
 f_are_joined:FOk P w K mg base fns gv k "are_joined" 6
 f_things_in:FOk P w K mg base fns gv k "things_in" 7
 f_has_form:FOk P w K mg base fns gv k "has_form" 8
 f_is_wish:FOk P w K mg base fns gv k "is_wish" 9
 f_is_number_text:FOk P w K mg base fns gv k "is_number_text" 10
 f_word_at:FOk P w K mg base fns gv k "word_at" 11
 f_name_at:FOk P w K mg base fns gv k "name_at" 12
 f_number_at:FOk P w K mg base fns gv k "number_at" 13
 f_read_plain:FOk P w K mg base fns gv k "read_plain" 14
 f_read_one:FOk P w K mg base fns gv k "read_one" 15
 f_read_joined:FOk P w K mg base fns gv k "read_joined" 16
 f_read_wish:FOk P w K mg base fns gv k "read_wish" 17
 f_Lcell:FOk P w K mg base fns gv k "_law_cell" 18
 f_Lstore:FOk P w K mg base fns gv k "_law_store" 19
 f_Lpick:FOk P w K mg base fns gv k "_law_pick" 20
 f_Lis_name:FOk P w K mg base fns gv k "_law_is_name" 21
 f_Lis_figures:FOk P w K mg base fns gv k "_law_is_figures" 22
 f_Lended:FOk P w K mg base fns gv k "_law_ended" 23
 f_Lstepped:FOk P w K mg base fns gv k "_law_stepped" 24
 f_Lfails:FOk P w K mg base fns gv k "_law_fails" 25
 f_Lcaught:FOk P w K mg base fns gv k "_law_caught" 26
 f_Lparted:FOk P w K mg base fns gv k "_law_parted" 27
 f_Lwish_of:FOk P w K mg base fns gv k "_law_wish_of" 28
 f_Lword_for:FOk P w K mg base fns gv k "_law_word_for" 29
 f_Lwords:FOk P w K mg base fns gv k "_law_words" 30
 f_law:FOk P w K mg base fns gv k "law" 31
noncomputable abbrev PsF(ns:List Str)(x:Str)(st:Stmt)(n:Nat)(b:S):Prop:=∀{P:Program}{w:World}{K:Frag}{mg:Str->Option Value}{base:Heap}{k:Nat}{f:Addr}{cdv:Value}{A:Around}{outer:List PySem.Env}{s:Shared}{H:Hp}{E:XK},Txt0 P w K mg->Txt1 P w K mg base k->Room k (A.deeper (envOfC x (Zc st) s.heap.objs.size f cdv))->∀{xe:Value->Shared->Prop}{pn:List (Addr×Obj)}{xr:XR},Go (asX (cxOf (CXF P w) P w K mg base ns x (Zc st) f cdv A outer s H E) xe pn) xr->Bd (asX (cxOf (CXF P w) P w K mg base ns x (Zc st) f cdv A outer s H E) xe pn) (Ql st) (tS K (Jf fns gv k) gv xr n b)
section
variable{P:Program}{w:World}{K:Frag}{mg:Str->Option Value}{base:Heap}{k:Nat}{f:Addr}{cdv:Value}{A:Around}{outer:List PySem.Env}{s:Shared}{H:Hp}{E:XK}
theorem Zcd:PsF ["text"] "is_long_word" QQ 1 Qs:=by
 wtm_at "mnbxqr0s142000576xq4";exact(J1 rfl rfl T0.g_WISH_WORDS (by decide));wtm_at "76yÄ0Å1Ô0WzzL4tXYÕSQ0q4";exact(J1 rfl rfl T0.g_LETTERS (by decide));wtm_at "76oo2000"
theorem ZgL:PsF ["thing"] "is_word" Zaw 1 Jc:=by
 wtm_at "mnbxT40E0ÆUxqr0s142000";exact(J1 rfl rfl T0.g_LONGEST_WORD (by decide));wtm_at "76yc9Ö801420"
theorem Zfr:PsF ["thing"] "is_whole" Xz 1 X4:=by
 wtm_at "mnbxT40E0FUy";refine Zmk ?_;wtm_at "T40E0";exact T0.b_bool;wtm_at "U"
theorem Zeq:PsF ["thing"] "is_number" JL 1 Jd:=by
 wtm_at "mnbxc9";exact T1.f_is_whole;wtm_at "801420yÇ54";exact(J1 rfl rfl T0.g_GREATEST_NUMBER (by decide));wtm_at "76"
theorem Zep:PsF ["thing","texts"] "is_one_of" JK 2 JX:=by
 wtm_at "mnbxT40E0ÆUyq4a76"
theorem ZbC:PsF ["thing"] "is_plain_wish" QB 1 Qf:=by
 wtm_at "mnfGvT40E0*Utb+dfer0s142000576bc9.801j45g1k1320200dfer0s142000576bxc9.801j45g1k1313200200yc9";exact T1.f_is_word;wtm_at "801j45g20dfer0s142000576bxc9.801j45g1k1313200200xc9";exact T1.f_is_word;wtm_at "801j45g20yc9";exact T1.f_is_number;wtm_at "801j45g20db+"
theorem Zdv:PsF ["thing"] "are_joined" Jh 1 QV:=by
 wtm_at "mnbxT40E0*UyÇ";exact(J1 rfl rfl T0.g_FEWEST_JOINED (by decide));wtm_at "r0s142000";exact(J1 rfl rfl T0.g_MOST_JOINED (by decide));wtm_at "76"
theorem Zem:PsF ["thing"] "things_in" JF 1 Ja:=by
 wtm_at "mnfwZGvT40E0*Ut!er0s142000576bk2dfvc9.801j45g1k1320200tbk1j45g20dfwAvc9.801j45g1k1313200200tHvc9";exact T1.f_are_joined;wtm_at "801j45g20tbj45gdbk2"
theorem Zfs:PsF ["thing"] "has_form" XC 1 JC:=by
 wtm_at "mnbÈc9";exact T1.f_is_plain_wish;wtm_at "801420yqr0s1c9";exact T1.f_things_in;wtm_at "8014202000576"
theorem ZgM:PsF ["thing","layer","parts","depth"] "is_wish" Zax 4 Xu:=by
 wtm_at "mnV@u1420M@5,0RÉ0Ê1";exact(J1 rfl rfl T0.g_DEEPEST (by decide));wtm_at "20";exact(QR 3 ZaZ.nd);wtm_at "o";refine ZjY (i:=2) ?_ ?_ ?_;wtm_at "@r0s1a2000fwZei";exact(J1 rfl rfl T0.g_MOST_PARTS (by decide));wtm_at "76!GvÄ0Å1";refine Zfw (N':=["one"]) ?_ ?_;wtm_at "0WzzLatXY";exact(QR 0 (show List.Nodup (["one"]:List Str)from by decide +kernel));wtm_at "SQ0c";exact lk0;exact T1.f_has_form;wtm_at "801420oo2000tb+d";refine Zf9 (N':=["one","below"]) ?_ ?_ ?_ ?_ ?_ ?_ ?_;wtm_at "0WzzLatXY";exact(QR 0 (show List.Nodup (["one","below"]:List Str)from by decide +kernel));wtm_at "S";refine⟨⟨_,_,_,rfl,?_,λ_=>rfl,?_,?_⟩,by decide,(show ∀i∈tgS (.nm 1)++innS (.emit (.var 1)),i<2 from by decide),?_⟩;wtm_at "Lc";exact lk0;exact T1.f_things_in;wtm_at "801420";exact(QR 1 (show List.Nodup (["one","below"]:List Str)from by decide +kernel));wtm_at "SQ0aoo@000dbqr0s1a2000576"
theorem Za1:PsF ["word"] "is_number_text" Qt 1 Z5:=by
 wtm_at "mnfwZG";refine Zl5 ?_ ?_ ?_ ?_ ?_;wtm_at "5r0s142000";exact(J1 rfl rfl T0.g_MOST_FIGURES (by decide));wtm_at "76!GvÄ0Å1Ô0WzzL4tXYÕSQ0q4";exact(J1 rfl rfl T0.g_FIGURES (by decide));wtm_at "76oo2000tb+dbÈq4376yqj45g376"
theorem ZgJ:PsF ["words","at"] "word_at" Zau 2 Xr:=by
 wtm_at "mnfear0s14200076bj4agdb3"
theorem ZgK:PsF ["words","at","word"] "name_at" Zav 3 Jb:=by
 wtm_at "mnM";exact ZcS.nd;wtm_at "c9#80141a200fGvc9Ö801i20t$9%&008adbi"
theorem Zeo:PsF ["words","at","word"] "number_at" JH 3 Qx:=by
 wtm_at "mnM";exact Zbl.nd;wtm_at "c9#80141a200fGvc9";exact T1.f_is_number_text;wtm_at "801i20t$9%&008adbI0F1i2000"
theorem Zdu:PsF ["words","at","word","size","sign"] "read_plain" Jg 5 Jp:=by
 wtm_at "mnMËc9#80141a200fei376bk1k1i201ha5200dfeik131320076bk1k1i1c9";exact T1.f_name_at;wtm_at "80141ha52002001ha5200dBËc9";exact T1.f_name_at;wtm_at "80141a200[Ëc9#80141ha5200f";refine Zl1 (neg:=true) (ok:=T0.d_SIGNS) ?_ ?_ ?_ ?_ ?_;wtm_at "00Co7$9%&008ha5dbk1k1";refine Zms (ok:=T0.d_SIGNS) ?_ ?_ ?_ ?_ ?_;wtm_at "00Cgo1p1c9";exact T1.f_number_at;wtm_at "80141ha520020001ha5200"
theorem Zfq:PsF ["words","at","within","word","wish","behind"] "read_one" Xy 6 JB:=by
 wtm_at "mnB";exact Zaj.nd;wtm_at "c9#80141a200fepk131320076bc9";exact T1.f_read_plain;wtm_at "80141a200dfei";exact(J1 rfl rfl T0.g_MOST_WITHIN (by decide));wtm_at "76$9%&008adfep376/oc9";exact T1.f_read_one;wtm_at "80141ha51hi52000Øbk1k131C2001D200d/oc9]80141ha51hi51Ù20000Øfec9#80141D200376$9%&008Ddbk1C1hD5200"
theorem ZcF:PsF ["words","at","within","joins","wish","behind","wishes"] "read_joined" Q4 7 QD:=by
 wtm_at "mnfer0s1p2000576bc9";exact T1.f_read_one;wtm_at "80141a1i2000d/oc9]80141a1i1:p(50Ì20000Ú";refine sg (i:=6) ?_ ?_ ?_;exact Jr.nd;wtm_at ";1C20ÛRec9#80141D200jp5g76/oc9]80141hD51i1:p(50Ì20000Ú-^Í1C20dfer0s1Í2000576bk1C1D200dbk1k1jp5g1Î0*1Í20002001D200"
theorem Zen:PsF ["text","words","wish","behind"] "read_wish" JG 4 Qe:=by
 wtm_at "mnfGvT40E0ÆUt$9%&0085dV";exact J9.nd;wtm_at "Ü41320/oc9]801a15151Ù20000";exact(ZbQ 2 3 rfl J9.nd);wtm_at "fwZepr0s1a200076!Gvc9";exact T1.f_is_wish;wtm_at "801i20t$9%&008pdbi"
theorem Zj3:PsF ["_law_script","_law_k"] "_law_cell" Zdq 2 ZcC:=by
 wtm_at "mnfear0s14200076bj4agdb5"
theorem Zh8:PsF ["_law_cell_here","_law_wide","_law_digits"] "_law_store" ZbN 3 ZdP:=by
 wtm_at "mnVÝh55MÝh4hhhhaaaaab;1hiI0F1q4h557620001h45152000"
theorem Zj2:PsF ["_law_store_here","_law_many","_law_found","_law_number"] "_law_pick" Zdp 4 ZdQ:=by
 wtm_at "mnfej45g576M_hj45gaÞhj45ga45bidÞhj45g545B_hhhhj45gh5j45g555B_hhphhp555B_hhphhp555bhhp5a"
theorem Zfv:PsF ["_law_word","_law_small"] "_law_is_name" XJ 2 JD:=by
 wtm_at "mnß0WzzL4tXYàQe4376SQ04oo";exact Zca.nd;wtm_at "000bxq4376xqr0s1a2000r0s14200076yq4u131313131313200000076"
theorem ZcG:PsF ["_law_word","_law_figures"] "_law_is_figures" Q5 2 QF:=by
 wtm_at "mnß0WzzL4tXYàQe4376SQ04oo";exact X8.nd;wtm_at "000bxÇ5r0s142000576xqr0s1a2000r0s14200076yÈqj45g376yq4376"
theorem Zia:PsF ["_law_opened"] "_law_ended" ZbP 1 ZaS:=by
 wtm_at "mnÛRwAe4u276Hej4Ï5g376-";refine Zgc ?_;wtm_at "4db3"
theorem Zfu:PsF ["_law_due","_law_word","_law_opened"] "_law_stepped" XH 3 Qj:=by
 wtm_at "mnfwAe4376Heak131320076-^i1a20bju131J200I0F1qr0s1i20005762000gdfwAe4376Heak131320076b3dfwZwAe4376Hea376!wAe4376Hvc9á801a20tbc9Ð801i20dfe4376bju1J13200I0F1c9á801a202000gdfe4376bju1J13200I0F1qak1313200762000gdfwAe4376Hvc9";exact T1.f_Lis_figures;wtm_at "801a20tbc9Ð801i20dfwAe4376Aea376Heiu276-";refine Zgc ?_;wtm_at "ibc9Ð801i20dbju1J13200I0F1xq4376yqak1313200762000g"
theorem Zh9:PsF ["_law_text","_law_words_here","_law_opened","_law_due","_law_k","_law_word"] "_law_fails" ZbO 6 X5:=by
 wtm_at "mnV`Ü41320M`;2B`3,0R";refine Zj9 ?_ ?_ ?_;wtm_at "0";exact T0.b_enumerate;wtm_at "1";refine PE.tree ?_;wtm_at "a20";exact(ZbQ 4 5 rfl Zcb.nd);wtm_at "oB`c9Ñ801p1D1i2000fepJ76bCddbju1r0s1a20001J200I0F1xqp376yqiu2762000g"
theorem ZgO:PsF ["_law_text","_law_told","e","_law_others"] "_law_caught" Zaz 4 Je:=by
 wtm_at "mnV<k131J200";refine ZjT (D:=51) ?_ ?_ ?_ ?_ ?_ ?_ ?_ ?_ ?_ ?_ ?_ ?_;wtm_at "000<0";exact⟨rfl,rfl⟩;wtm_at "0";exact T0.c_MateError;exact(List.forall_mem_cons.mpr ⟨T0.xm_NoText_MateError,(λ_ h=>absurd h List.not_mem_nil)⟩);intro xe pn xr go;wtm_at "V<k131c9";exact T1.f_read_wish;wtm_at "801420200d";intro A2 pn2;wtm_at "B<";refine Zka (as:=[198,174,95,83,114,162,126,210,138,186]) ?_ ?_ ?_ ?_ ?_ ?_ ?_ ?_;wtm_at "i0EN";exact(QH (v:=.ref 198) rfl T0.c_BadBook rfl);wtm_at "N";exact(QH (v:=.ref 174) rfl T0.c_BadMany rfl);wtm_at "N";exact(QH (v:=.ref 95) rfl T0.c_BadOffer rfl);wtm_at "N";exact(QH (v:=.ref 83) rfl T0.c_BadRule rfl);wtm_at "N";exact(QH (v:=.ref 114) rfl T0.c_BadTime rfl);wtm_at "N";exact(QH (v:=.ref 162) rfl T0.c_Full rfl);wtm_at "N";exact(QH (v:=.ref 126) rfl T0.c_HasName rfl);wtm_at "N";exact(QH (v:=.ref 210) rfl T0.c_NoLine rfl);wtm_at "N";exact(QH (v:=.ref 138) rfl T0.c_NoName rfl);wtm_at "N";exact(QH (v:=.ref 186) rfl T0.c_NoNumber rfl);exact pa_cs0;wtm_at "o{|";exact(List.forall_mem_cons.mpr ⟨⟨T0.xg_NoText,T0.xt_NoText_198_174_95_83_114_162_126_210_138_186⟩,(λ_ h=>absurd h List.not_mem_nil)⟩);wtm_at "fwAv";refine Zdw (cv:=(.ref 71)) (c:=(.ref 71)) ?_ ?_ ?_ ?_ ?_ ?_ ?_ ?_;wtm_at "i0E";exact(QH (v:=.ref 71) rfl T0.c_NoText rfl);wtm_at "Ò{";exact(List.forall_mem_cons.mpr ⟨⟨T0.xg_NoText,T0.xo_NoText_NoText⟩,(λ_ h=>absurd h List.not_mem_nil)⟩);wtm_at "|tAv";refine Zdw (cv:=(.ty "ValueError")) (c:=(.type "ValueError")) ?_ ?_ ?_ ?_ ?_ ?_ ?_ ?_;wtm_at "i0E";exact(Zii (v:=.ty "ValueError") rfl T0.b_ValueError (by decide +kernel) rfl);wtm_at "Ò{";exact(List.forall_mem_cons.mpr ⟨⟨T0.xg_NoText,T0.xo_NoText_ValueError⟩,(λ_ h=>absurd h List.not_mem_nil)⟩);wtm_at "|tAGvptHGv";refine Zdw (cv:=(.ref 150)) (c:=(.ref 150)) ?_ ?_ ?_ ?_ ?_ ?_ ?_ ?_;wtm_at "i0E";exact(QH (v:=.ref 150) rfl T0.c_TooLate rfl);wtm_at "Ò{|";exact(List.forall_mem_cons.mpr ⟨⟨T0.xg_NoText,T0.xo_NoText_TooLate⟩,(λ_ h=>absurd h List.not_mem_nil)⟩);wtm_at "tV<k131";refine Zmf ?_ ?_;wtm_at "i";exact(List.forall_mem_cons.mpr ⟨⟨T0.xg_NoText,T0.xi_NoText.xs.na⟩,(λ_ h=>absurd h List.not_mem_nil)⟩);wtm_at "200dddba"
theorem ZgN:PsF ["_law_words_here","_law_word","_law_found","_law_deep","_law_one"] "_law_parted" Zay 5 Xv:=by
 wtm_at "mn";refine PSs.mono (t:=tPt K (Jf fns gv k) gv xr) ?_ (λ_ _ _ z=>pt_ent z);wtm_at "K}";exact(Zgd (QX (Zgd Xb) Xb));exact(Zam (i:=2) Xx.nd rfl (by first|exact Or.inl rfl|exact Or.inr rfl));wtm_at "K}";exact Zlb;wtm_at "âK";refine Zk8 ?_ ?_ ?_ ?_ ?_;wtm_at "R0";exact(Zmc (ZcW (i:=0) rfl (by first|exact Or.inl rfl|exact Or.inr (Or.inl rfl)|exact Or.inr (Or.inr rfl))));exact(Zam (i:=4) Xx.nd rfl (by first|exact Or.inl rfl|exact Or.inr rfl));wtm_at "K}hhpI0F1qC3762000I0F1qC3762000âK";refine ps_if ?_ ?_ ?_;wtm_at "wAeCa76Hep576K~ã=";exact(QX (Zgd Xb) Xb);wtm_at "ÀK~ã";refine pe_ix ZfH ?_ ?_ ?_;wtm_at "=Ï5g";exact(QX (ZcW (i:=4) rfl (by first|exact Or.inl rfl|exact Or.inr (Or.inl rfl)|exact Or.inr (Or.inr rfl))) Xb);wtm_at "ÀÀK";refine Zk6 ?_;wtm_at "=À"
theorem Zft:PsF ["_law_words_here","_law_word","_law_some"] "_law_wish_of" XD 3 Z8:=by
 wtm_at "mn,0RLu1313200";exact(QR 1 Zak.nd);wtm_at "oM";exact Zak.nd;wtm_at "c9";exact T1.f_Lparted;wtm_at "80141a200fer0s1i2000576bk1a1Î0*1";refine Zfw (N':=["_law_piece"]) ?_ ?_;wtm_at "0WzzLitXY";exact(QR 0 (show List.Nodup (["_law_piece"]:List Str)from by decide +kernel));wtm_at "SQ0c";exact lk0;wtm_at "Á801420oo2000200ddfej45g376bk131c9Á801:4(50Ì20200dfej45g376bc9Á801:4(50(Ï5020dfej45gk131313200076bÎ0*142000dbk1ju1313200I0F1qj45g3762000g1j45g1I0F1j45g20002000"
theorem Zer:PsF ["_law_store_here","_law_due","_law_menus","_law_some"] "_law_word_for" JM 4 Qg:=by
 wtm_at "mn";refine PSs.mono (t:=tSeq (tAsg (ZcP P w (Jq K (Jf fns gv k) gv xr [[119,105,115,104],[110,97,109,101]] (lsE [[(.str [97,110,121]),(.str [105,115]),(.str [98,121]),(.str [110,111,116]),(.str [40]),(.str [114,121,101]),(.str [97]),(.str [105,115]),(.str [40]),(.str [112,114,105,99,101])],[(.str [114,121,101]),(.str [97]),(.str [97,110,100,121])]]))) (ZbG 2)) (tSeq (Zbz (ZaW P w (tVar 2) (Ju (Jq K (Jf fns gv k) gv xr [[115,105,103,110],[110,117,109,98,101,114]] (lsE [[(.str [62,61]),(.str [60,61])],[(.str [48]),(.str [53]),(.str [49,48,48,48,48,48,48,48,48,48]),(.str [55,55])]]))))) (tSeq (Zbz (ZaW P w (tVar 2) (Ju (Jq K (Jf fns gv k) gv xr [[98,101,104,105,110,100]] (lsE [[(.str [97,110,100]),(.str [111,114]),(.str [41]),(.str [97,110,100]),(.str [111,114]),(.str [41])]]))))) (Zb5 P w (tS K (Jf fns gv k) gv xr 4 Q6))))) ?_ ?_;wtm_at "K}";refine Zke ?_ ?_ ?_ ?_ ?_;wtm_at "OPu1313131313131313131320000000000OPu1313132000Â00Ão";exact(Zam (i:=2) Xa.nd rfl (by first|exact Or.inl rfl|exact Or.inr rfl));wtm_at "K~";refine Zif ?_ ?_;wtm_at "=äOPu1313200OPu1313131320000Â00ÃoK~";refine Zif ?_ ?_;wtm_at "=äOPu1313131313132000000Â00Ão";refine Zh3 ?_;wtm_at "Båu1313131313131313131313131313131313200000000000000000Båhpu1313132000fwZeaJ76!ec9>801415200576bjpc9>801415200gdbjÓiag6c9>80141r0s1Óiag62000200g";intro D σ H z;exact(up_ls (by decide) (by decide +kernel) (by decide) (by decide) (by decide) rfl rfl rfl (by decide +kernel) z)
theorem Zh7:PsF ["_law_store_here","_law_words_here","_law_opened","_law_due","_law_k","_law_word"] "_law_words" ZbM 6 JZ:=by
 wtm_at "mnV);2M);2B)3,0RÉ0Ê1h5c9>80141520020æoç)c9";exact T1.f_Lword_for;wtm_at "80141p200-^a1D20fepJ76B)c9Ñ801p1D1i2000dddfwAepJ76Hec9>801415200576,0RÉ0Ê1520æofwZep376!eiu276ç)Ó";refine Zmt ?_ ?_ ?_ ?_ ?_ ?_ ?_;wtm_at "OP3OP3OP3OP3OP3Â00Ão00pg6-^a1D20B)c9Ñ801p1D1i2000dddddba"
theorem Zk7:PsF ["_law_script","_law_cell_here","_law_words_here","_law_text","_law_due"] "law" Zei 5 Zhq:=by
 wtm_at "mn,0RLhu1c9";exact T1.f_Lcell;wtm_at "80141520020:4(50(50";exact(QR 1 Zf1.nd);wtm_at "oM?c9";exact T1.f_Lwords;wtm_at "801c9";exact T1.f_Lstore;wtm_at "801a2020B?";refine Zkc ?_ ?_;wtm_at "31i20[?k131c9";exact T1.f_Lfails;wtm_at "801p20200fejC5gJ76[?k131c9Á801i20200fGvc9";exact T1.f_is_wish;wtm_at "801jC5g20t[?k131r0s1i2000200ddddfec9";exact T1.f_Lcaught;wtm_at "801p20C76b+ddb+"
end
noncomputable abbrev FB(K:Frag)(mg:Str->Option Value)(x:Str)(st:Stmt)(ps:List Str):Prop:=∃f fd,Fun K x x st f fd/\mg x=some (.ref f)/\Binds K fd ps []
structure TxtF (K:Frag) (mg:Str->Option Value):Prop where
 f_is_long_word:FB K mg "is_long_word" QQ ["text"]
 f_is_word:FB K mg "is_word" Zaw ["thing"]
 f_is_whole:FB K mg "is_whole" Xz ["thing"]
 f_is_number:FB K mg "is_number" JL ["thing"]
 f_is_one_of:FB K mg "is_one_of" JK ["thing","texts"]
 f_is_plain_wish:FB K mg "is_plain_wish" QB ["thing"]
 f_are_joined:FB K mg "are_joined" Jh ["thing"]
 f_things_in:FB K mg "things_in" JF ["thing"]
 f_has_form:FB K mg "has_form" XC ["thing"]
 f_is_wish:FB K mg "is_wish" Zax ["thing"]
 f_is_number_text:FB K mg "is_number_text" Qt ["word"]
 f_word_at:FB K mg "word_at" Zau ["words","at"]
 f_name_at:FB K mg "name_at" Zav ["words","at"]
 f_number_at:FB K mg "number_at" JH ["words","at"]
 f_read_plain:FB K mg "read_plain" Jg ["words","at"]
 f_read_one:FB K mg "read_one" Xy ["words","at","within"]
 f_read_joined:FB K mg "read_joined" Q4 ["words","at","within","joins"]
 f_read_wish:FB K mg "read_wish" JG ["text"]
 f_Lcell:FB K mg "_law_cell" Zdq ["_law_script","_law_k"]
 f_Lstore:FB K mg "_law_store" ZbN ["_law_cell_here"]
 f_Lpick:FB K mg "_law_pick" Zdp ["_law_store_here","_law_many"]
 f_Lis_name:FB K mg "_law_is_name" XJ ["_law_word"]
 f_Lis_figures:FB K mg "_law_is_figures" Q5 ["_law_word"]
 f_Lended:FB K mg "_law_ended" ZbP ["_law_opened"]
 f_Lstepped:FB K mg "_law_stepped" XH ["_law_due","_law_word","_law_opened"]
 f_Lfails:FB K mg "_law_fails" ZbO ["_law_text"]
 f_Lcaught:FB K mg "_law_caught" Zaz ["_law_text"]
 f_Lparted:FB K mg "_law_parted" Zay ["_law_words_here","_law_word"]
 f_Lwish_of:FB K mg "_law_wish_of" XD ["_law_words_here"]
 f_Lword_for:FB K mg "_law_word_for" JM ["_law_store_here","_law_due"]
 f_Lwords:FB K mg "_law_words" ZbM ["_law_store_here"]
 f_law:FB K mg "law" Zei ["_law_script"]
theorem Qn{x:Str}{st:Stmt}{N ps:List Str}{fi np n:Nat}{b:S}{cell:Bool}(sc:FnScope N ps (Zc st))(p:PsF N x st n b)(hd:fns[fi]?=some ⟨np,n,b,cell⟩)(hps:np=ps.length)(hn:N.length=n){P:Program}{w:World}{K:Frag}{mg:Str->Option Value}{base:Heap}{k:Nat}(T0:Txt0 P w K mg)(ih:Txt1 P w K mg base k)(F:FB K mg x st ps):FOk P w K mg base fns gv (k+1) x fi:=by
 obtain⟨f,fd,F,m,bb⟩:=F;exact⟨f,fd,_,m,F.kp,bb,Zlo F sc hd hps hn λ_ _ _ _ _ _ hr _ _ _ go=>p T0 ih hr go⟩
theorem Qo{x:Str}{st:Stmt}{ps:List Str}{i:Nat}{P:Program}{w:World}{K:Frag}{mg:Str->Option Value}{base:Heap}(F:FB K mg x st ps):FOk P w K mg base fns gv 0 x i:=
 let⟨_,_,F,m,b⟩:=F
 ⟨_,_,_,m,F.kp,b,Zm6⟩
theorem ZlA{P:Program}{w:World}{K:Frag}{mg:Str->Option Value}{base:Heap}(T0:Txt0 P w K mg)(TF:TxtF K mg):∀k:Nat,Txt1 P w K mg base k
 |0=>⟨Qo TF.f_is_long_word,Qo TF.f_is_word,Qo TF.f_is_whole,Qo TF.f_is_number,Qo TF.f_is_one_of,Qo TF.f_is_plain_wish,Qo TF.f_are_joined,Qo TF.f_things_in,Qo TF.f_has_form,Qo TF.f_is_wish,Qo TF.f_is_number_text,Qo TF.f_word_at,Qo TF.f_name_at,Qo TF.f_number_at,Qo TF.f_read_plain,Qo TF.f_read_one,Qo TF.f_read_joined,Qo TF.f_read_wish,Qo TF.f_Lcell,Qo TF.f_Lstore,Qo TF.f_Lpick,Qo TF.f_Lis_name,Qo TF.f_Lis_figures,Qo TF.f_Lended,Qo TF.f_Lstepped,Qo TF.f_Lfails,Qo TF.f_Lcaught,Qo TF.f_Lparted,Qo TF.f_Lwish_of,Qo TF.f_Lword_for,Qo TF.f_Lwords,Qo TF.f_law⟩
 |k+1 =>
  have ih:=ZlA T0 TF k
  ⟨Qn Zb8 Zcd rfl rfl rfl T0 ih TF.f_is_long_word,Qn ZgG ZgL rfl rfl rfl T0 ih TF.f_is_word,Qn Zfg Zfr rfl rfl rfl T0 ih TF.f_is_whole,Qn Zeg Zeq rfl rfl rfl T0 ih TF.f_is_number,Qn Zef Zep rfl rfl rfl T0 ih TF.f_is_one_of,Qn ZbB ZbC rfl rfl rfl T0 ih TF.f_is_plain_wish,Qn Zdo Zdv rfl rfl rfl T0 ih TF.f_are_joined,Qn Zee Zem rfl rfl rfl T0 ih TF.f_things_in,Qn Zfi Zfs rfl rfl rfl T0 ih TF.f_has_form,Qn ZaZ ZgM rfl rfl rfl T0 ih TF.f_is_wish,Qn Za0 Za1 rfl rfl rfl T0 ih TF.f_is_number_text,Qn ZgF ZgJ rfl rfl rfl T0 ih TF.f_word_at,Qn ZcS ZgK rfl rfl rfl T0 ih TF.f_name_at,Qn Zbl Zeo rfl rfl rfl T0 ih TF.f_number_at,Qn Zat Zdu rfl rfl rfl T0 ih TF.f_read_plain,Qn Zaj Zfq rfl rfl rfl T0 ih TF.f_read_one,Qn Jr ZcF rfl rfl rfl T0 ih TF.f_read_joined,Qn J9 Zen rfl rfl rfl T0 ih TF.f_read_wish,Qn ZjO Zj3 rfl rfl rfl T0 ih TF.f_Lcell,Qn Zeh Zh8 rfl rfl rfl T0 ih TF.f_Lstore,Qn Zf2 Zj2 rfl rfl rfl T0 ih TF.f_Lpick,Qn Zca Zfv rfl rfl rfl T0 ih TF.f_Lis_name,Qn X8 ZcG rfl rfl rfl T0 ih TF.f_Lis_figures,Qn ZhW Zia rfl rfl rfl T0 ih TF.f_Lended,Qn Zfj Zfu rfl rfl rfl T0 ih TF.f_Lstepped,Qn Zcb Zh9 rfl rfl rfl T0 ih TF.f_Lfails,Qn ZcT ZgO rfl rfl rfl T0 ih TF.f_Lcaught,Qn Xx ZgN rfl rfl rfl T0 ih TF.f_Lparted,Qn Zak Zft rfl rfl rfl T0 ih TF.f_Lwish_of,Qn Xa Zer rfl rfl rfl T0 ih TF.f_Lword_for,Qn Zb9 Zh7 rfl rfl rfl T0 ih TF.f_Lwords,Qn Zf1 Zk7 rfl rfl rfl T0 ih TF.f_law⟩
end My
namespace My
open PySem PySem.Spec PyProof.Rows L2 Mi
theorem us_1{α:Type}{P:List α->Prop}{us:List α}(hl:us.length=1)(h:∀x0:α,P [x0]):P us:=by
 rcases us with _|⟨x0,us⟩
 ·simp at hl
 rcases us with _|⟨y,us⟩
 ·exact h x0
 ·simp at hl
theorem us_2{α:Type}{P:List α->Prop}{us:List α}(hl:us.length=2)(h:∀x0 x1:α,P [x0,x1]):P us:=by
 rcases us with _|⟨x0,us⟩
 ·simp at hl
 rcases us with _|⟨x1,us⟩
 ·simp at hl
 rcases us with _|⟨y,us⟩
 ·exact h x0 x1
 ·simp at hl
theorem us_3{α:Type}{P:List α->Prop}{us:List α}(hl:us.length=3)(h:∀x0 x1 x2:α,P [x0,x1,x2]):P us:=by
 rcases us with _|⟨x0,us⟩
 ·simp at hl
 rcases us with _|⟨x1,us⟩
 ·simp at hl
 rcases us with _|⟨x2,us⟩
 ·simp at hl
 rcases us with _|⟨y,us⟩
 ·exact h x0 x1 x2
 ·simp at hl
theorem us_4{α:Type}{P:List α->Prop}{us:List α}(hl:us.length=4)(h:∀x0 x1 x2 x3:α,P [x0,x1,x2,x3]):P us:=by
 rcases us with _|⟨x0,us⟩
 ·simp at hl
 rcases us with _|⟨x1,us⟩
 ·simp at hl
 rcases us with _|⟨x2,us⟩
 ·simp at hl
 rcases us with _|⟨x3,us⟩
 ·simp at hl
 rcases us with _|⟨y,us⟩
 ·exact h x0 x1 x2 x3
 ·simp at hl
noncomputable abbrev FE(K:Frag)(x:Str)(st:Stmt):Prop:=∃(f:Addr) (oc kV dc pm cd ct:Value) (od an:Option Addr) (sl:Array (Option Value)),nsIn K mainGlobals x=some (some (.ref f))/\K.lookup f=some ⟨oc,od,.func (fnOf x x (JW st) (Ql st) (Zc st) .none kV dc pm an cd ct),sl⟩/\codeIn K cd x=true/\keepIn K (.ref f)=true
theorem Qq{K:Frag}{h:Heap}{mg:Str->Option Value}{x:Str}{st:Stmt}{ps:List Str}(X:K.In h)(G:h.Ns mainGlobals mg)(e:FE K x st)(hb:∀(kV doc pm:Value) (an:Option Addr) (cdv ct:Value) (us:List Value),us.length=ps.length->bindArgs (fnOf x x (JW st) (Ql st) (Zc st) .none kV doc pm an cdv ct) ⟨us,[]⟩=pure (ps.zip us)):FB K mg x st ps:=by
 obtain⟨f,oc,kV,dc,pm,cd,ct,od,an,sl,a,l,c,k⟩:=e
 have F:=ZiR (st:=st) l c k
 exact⟨_,_,F,mg_of X G a,F.binds (ps:=ps) hb⟩
theorem fe_in{K:Frag}{x:Str}{st:Stmt}{f:Addr}{oc kV dc pm cd ct:Value}{od an:Option Addr}{sl:Array (Option Value)}(a:nsIn K mainGlobals x=some (some (.ref f)))(l:K.lookup f=some ⟨oc,od,.func (fnOf x x (JW st) (Ql st) (Zc st) .none kV dc pm an cd ct),sl⟩)(c:codeIn K cd x=true)(k:keepIn K (.ref f)=true):FE K x st:=
 ⟨_,_,_,_,_,_,_,_,_,_,a,l,c,k⟩
theorem bd_1{fd:FuncData}{ps:List Str}(h:∀x0:Value,bindArgs fd ⟨[x0],[]⟩=pure (List.zip ps [x0]))(us:List Value)(hl:us.length=1):bindArgs fd ⟨us,[]⟩=pure (List.zip ps us):=us_1 (P:=λus=>bindArgs fd ⟨us,[]⟩=pure (List.zip ps us)) hl h
theorem bd_2{fd:FuncData}{ps:List Str}(h:∀x0 x1:Value,bindArgs fd ⟨[x0,x1],[]⟩=pure (List.zip ps [x0,x1]))(us:List Value)(hl:us.length=2):bindArgs fd ⟨us,[]⟩=pure (List.zip ps us):=us_2 (P:=λus=>bindArgs fd ⟨us,[]⟩=pure (List.zip ps us)) hl h
theorem bd_3{fd:FuncData}{ps:List Str}(h:∀x0 x1 x2:Value,bindArgs fd ⟨[x0,x1,x2],[]⟩=pure (List.zip ps [x0,x1,x2]))(us:List Value)(hl:us.length=3):bindArgs fd ⟨us,[]⟩=pure (List.zip ps us):=us_3 (P:=λus=>bindArgs fd ⟨us,[]⟩=pure (List.zip ps us)) hl h
theorem bd_4{fd:FuncData}{ps:List Str}(h:∀x0 x1 x2 x3:Value,bindArgs fd ⟨[x0,x1,x2,x3],[]⟩=pure (List.zip ps [x0,x1,x2,x3]))(us:List Value)(hl:us.length=4):bindArgs fd ⟨us,[]⟩=pure (List.zip ps us):=us_4 (P:=λus=>bindArgs fd ⟨us,[]⟩=pure (List.zip ps us)) hl h
theorem all_mk{l:OpenLaw}{w:World}{K:Frag}{h:Heap}{mg:Str->Option Value}{fa:Addr}(X:K.In h)(G:h.Ns mainGlobals mg)(hfa:mg "law" = some (.ref fa))(h0:FE K "is_long_word" QQ)(h1:FE K "is_word" Zaw)(h2:FE K "is_whole" Xz)(h3:FE K "is_number" JL)(h4:FE K "is_one_of" JK)(h5:FE K "is_plain_wish" QB)(h6:FE K "are_joined" Jh)(h7:FE K "things_in" JF)(h8:FE K "has_form" XC)(h9:FE K "is_wish" Zax)(h10:FE K "is_number_text" Qt)(h11:FE K "word_at" Zau)(h12:FE K "name_at" Zav)(h13:FE K "number_at" JH)(h14:FE K "read_plain" Jg)(h15:FE K "read_one" Xy)(h16:FE K "read_joined" Q4)(h17:FE K "read_wish" JG)(h18:FE K "_law_cell" Zdq)(h19:FE K "_law_store" ZbN)(h20:FE K "_law_pick" Zdp)(h21:FE K "_law_is_name" XJ)(h22:FE K "_law_is_figures" Q5)(h23:FE K "_law_ended" ZbP)(h24:FE K "_law_stepped" XH)(h25:FE K "_law_fails" ZbO)(h26:FE K "_law_caught" Zaz)(h27:FE K "_law_parted" Zay)(h28:FE K "_law_wish_of" XD)(h29:FE K "_law_word_for" JM)(h30:FE K "_law_words" ZbM)(h31:FE K "law" Zei){t0:Tok}(gv0:nsIn K mainGlobals "LETTERS" = some (some (.str "abcdefghijklmnopqrstuvwxyz" t0))){t1:Tok}(gv1:nsIn K mainGlobals "LONGEST_WORD" = some (some (.int 8 t1))){ga2:Addr}{its2:Array Value}{gn2:Nat}{gsl2:Array (Option Value)}(gv2:nsIn K mainGlobals "WISH_WORDS" = some (some (.ref ga2)))(gl2:K.lookup ga2=some ⟨.type "tuple",none,.seq its2 gn2,gsl2⟩)(gz2:its2.size<=sizeLine)(gs2:StrsV [[97,110,121],[105,115],[98,121],[110,111,116],[97,110,100],[111,114]] its2.toList){t3:Tok}(gv3:nsIn K mainGlobals "GREATEST_NUMBER" = some (some (.int 1000000000 t3))){t4:Tok}(gv4:nsIn K mainGlobals "DEEPEST" = some (some (.int 6 t4))){t5:Tok}(gv5:nsIn K mainGlobals "MOST_PARTS" = some (some (.int 40 t5))){t6:Tok}(gv6:nsIn K mainGlobals "FEWEST_JOINED" = some (some (.int 2 t6))){t7:Tok}(gv7:nsIn K mainGlobals "MOST_JOINED" = some (some (.int 6 t7))){t8:Tok}(gv8:nsIn K mainGlobals "FIGURES" = some (some (.str "0123456789" t8))){t9:Tok}(gv9:nsIn K mainGlobals "MOST_FIGURES" = some (some (.int 10 t9))){t10:Tok}(gv10:nsIn K mainGlobals "MOST_WITHIN" = some (some (.int 12 t10))){ga11:Addr}{des11:Array DictEntry}{gn11:Nat}{dus11:List Value}(gv11:nsIn K mainGlobals "SIGNS" = some (some (.ref ga11)))(gl11:K.lookup ga11=some ⟨.type "dict",none,.dict des11 gn11,#[]⟩)(gz11:(ga11==sysModules)=false)(ge11:Ents w [[62,61],[60,61]] dus11 des11.toList)(gx11:VTs K dus11 [(.str [108,101,97,115,116]),(.str [109,111,115,116])]){ga12:Addr}{its12:Array Value}{gn12:Nat}{gsl12:Array (Option Value)}(gv12:nsIn K mainGlobals "JOINS" = some (some (.ref ga12)))(gl12:K.lookup ga12=some ⟨.type "tuple",none,.seq its12 gn12,gsl12⟩)(gz12:its12.size<=sizeLine)(gs12:StrsV [[111,114],[97,110,100]] its12.toList)(z0:nsIn K mainGlobals "ValueError" = some none)(z1:nsIn K mainGlobals "all" = some none)(z2:nsIn K mainGlobals "bool" = some none)(z3:nsIn K mainGlobals "enumerate" = some none)(z4:nsIn K mainGlobals "int" = some none)(z5:nsIn K mainGlobals "isinstance" = some none)(z6:nsIn K mainGlobals "len" = some none)(z7:nsIn K mainGlobals "range" = some none)(z8:nsIn K mainGlobals "str" = some none)(z9:nsIn K mainGlobals "tuple" = some none)(cx0:nsIn K mainGlobals "NoText" = some (some (.ref 71)))(cx1:nsIn K mainGlobals "TooLate" = some (some (.ref 150)))(cx2:nsIn K mainGlobals "NoNumber" = some (some (.ref 186)))(cx3:nsIn K mainGlobals "NoName" = some (some (.ref 138)))(cx4:nsIn K mainGlobals "NoLine" = some (some (.ref 210)))(cx5:nsIn K mainGlobals "HasName" = some (some (.ref 126)))(cx6:nsIn K mainGlobals "Full" = some (some (.ref 162)))(cx7:nsIn K mainGlobals "BadTime" = some (some (.ref 114)))(cx8:nsIn K mainGlobals "BadRule" = some (some (.ref 83)))(cx9:nsIn K mainGlobals "BadOffer" = some (some (.ref 95)))(cx10:nsIn K mainGlobals "BadMany" = some (some (.ref 174)))(cx11:nsIn K mainGlobals "BadBook" = some (some (.ref 198)))(cx12:nsIn K mainGlobals "MateError" = some (some (.ref 51))){qf0:Addr}{qod0 qan0:Option Addr}{qsl0:Array (Option Value)}{qoc0 qkV0 qdc0 qpm0 qcd0 qct0:Value}(q0a:xcIn K 71=true)(q0b:keepIn K (.ref 71)=true)(q0c:findIn K (.ref 71) "__setattr__" = some (some (.builtin "object.__setattr__")))(q0d:ZmD K 71=true)(q0e:findIn K (.ref 71) "at" = some none)(q0f:hasDictIn K 71=true)(q0g:findIn K (.ref 71) "__init__" = some (some (.ref qf0)))(q0h:PySem.W.typeIn K (.ref qf0)=some (.type "function"))(q0i:K.lookup qf0=some ⟨qoc0,qod0,.func (fnOf "__init__" "NoText.__init__" (JW Q7) (Ql Q7) (Zc Q7) .none qkV0 qdc0 qpm0 qan0 qcd0 qct0),qsl0⟩)(q0j:codeIn K qcd0 "NoText.__init__" = true)(q0k:keepIn K (.ref qf0)=true)(q1a:specialIn K (.builtin "object.__class__") "__get__" = some (some (.builtin "getset_descriptor.__get__")))(q1b:PySem.W.takesIn K (.builtin "object.__class__")=some true)(q2a:findIn K (.ref 71) "__getattribute__" = some (some (.builtin "BaseException.__getattribute__")))(q2b:findIn K (.ref 71) "__getattr__" = some none)(q2c:mroIn K 71 (.type "BaseException")=some true)(q2d:hasDictIn K 71=true)(q2e:findIn K (.ref 71) "__class__" = some (some (.builtin "object.__class__")))(q2f:mroIn K 71 (.type "object")=some true)(q3:kitOne K (.ref 71) (.ref 150)=some false)(q4:kitOne K (.ref 71) (.type "ValueError")=some true)(q5:kitOne K (.ref 71) (.ref 71)=some true)(q6:PySem.W.kitAny K (.ref 71) (List.map (Value.ref) [198,174,95,83,114,162,126,210,138,186])=some false)(q7:PySem.W.exmOne K (.ref 71) (.ref 51)=some true): ∃fd:FuncData,(∀(s:Shared) (v:Value),BindsTo s fd ⟨[v],[]⟩ [("_law_script",v)])/\∀base:Heap,K.In base->base.Ns mainGlobals mg->FnOk l.prog w K mg base (CXF l.prog w) 103 fa fd ["_law_script"] (spF K fns gv 103 31):=by
 have G0:=ZiR (st:=Q7) q0i q0j q0k
 have H0:=G0.binds (ps:=["self","at"]) λ_ _ _ _ _ _ us hl=>us_2 (us:=us) (P:=λus=>bindArgs _ ⟨us,[]⟩=pure (List.zip _ us)) hl λ_ _=>rfl
 have xi0:XInit K 71 "at":=⟨q0a,q0b,⟨q0c,q0d,q0e,q0f⟩,⟨_,_,_,_,Q7,"self","at",_,_,_,_,q0g,q0h,G0,Zfh,rfl,H0,by decide,by decide,by decide,by decide⟩⟩
 have T0:Txt0 l.prog w K mg:=⟨mg_none_of X G z0,mg_none_of X G z1,mg_none_of X G z2,mg_none_of X G z3,mg_none_of X G z4,mg_none_of X G z5,mg_none_of X G z6,mg_none_of X G z7,mg_none_of X G z8,mg_none_of X G z9,Zgn (mg_of X G gv0) (by decide +kernel),Jl (mg_of X G gv1),ZeM (mg_of X G gv2) gl2 gz2 gs2,Jl (mg_of X G gv3),Jl (mg_of X G gv4),Jl (mg_of X G gv5),Jl (mg_of X G gv6),Jl (mg_of X G gv7),Zgn (mg_of X G gv8) (by decide +kernel),Jl (mg_of X G gv9),Jl (mg_of X G gv10),ZiQ (mg_of X G gv11) gl11 gz11 ge11 (by decide) gx11,ZeM (mg_of X G gv12) gl12 gz12 gs12,mg_of X G cx0,mg_of X G cx1,mg_of X G cx2,mg_of X G cx3,mg_of X G cx4,mg_of X G cx5,mg_of X G cx6,mg_of X G cx7,mg_of X G cx8,mg_of X G cx9,mg_of X G cx10,mg_of X G cx11,mg_of X G cx12,xi0,⟨q1a,q1b⟩,⟨q2a,q2b,q2c,q2d,q2e,q2f⟩,q3,q4,q5,q6,q7⟩
 have TF:TxtF K mg:=⟨Qq X G h0 λ_ _ _ _ _ _ us hl=>bd_1 (λ_=>rfl) us hl,Qq X G h1 λ_ _ _ _ _ _ us hl=>bd_1 (λ_=>rfl) us hl,Qq X G h2 λ_ _ _ _ _ _ us hl=>bd_1 (λ_=>rfl) us hl,Qq X G h3 λ_ _ _ _ _ _ us hl=>bd_1 (λ_=>rfl) us hl,Qq X G h4 λ_ _ _ _ _ _ us hl=>bd_2 (λ_ _=>rfl) us hl,Qq X G h5 λ_ _ _ _ _ _ us hl=>bd_1 (λ_=>rfl) us hl,Qq X G h6 λ_ _ _ _ _ _ us hl=>bd_1 (λ_=>rfl) us hl,Qq X G h7 λ_ _ _ _ _ _ us hl=>bd_1 (λ_=>rfl) us hl,Qq X G h8 λ_ _ _ _ _ _ us hl=>bd_1 (λ_=>rfl) us hl,Qq X G h9 λ_ _ _ _ _ _ us hl=>bd_1 (λ_=>rfl) us hl,Qq X G h10 λ_ _ _ _ _ _ us hl=>bd_1 (λ_=>rfl) us hl,Qq X G h11 λ_ _ _ _ _ _ us hl=>bd_2 (λ_ _=>rfl) us hl,Qq X G h12 λ_ _ _ _ _ _ us hl=>bd_2 (λ_ _=>rfl) us hl,Qq X G h13 λ_ _ _ _ _ _ us hl=>bd_2 (λ_ _=>rfl) us hl,Qq X G h14 λ_ _ _ _ _ _ us hl=>bd_2 (λ_ _=>rfl) us hl,Qq X G h15 λ_ _ _ _ _ _ us hl=>bd_3 (λ_ _ _=>rfl) us hl,Qq X G h16 λ_ _ _ _ _ _ us hl=>bd_4 (λ_ _ _ _=>rfl) us hl,Qq X G h17 λ_ _ _ _ _ _ us hl=>bd_1 (λ_=>rfl) us hl,Qq X G h18 λ_ _ _ _ _ _ us hl=>bd_2 (λ_ _=>rfl) us hl,Qq X G h19 λ_ _ _ _ _ _ us hl=>bd_1 (λ_=>rfl) us hl,Qq X G h20 λ_ _ _ _ _ _ us hl=>bd_2 (λ_ _=>rfl) us hl,Qq X G h21 λ_ _ _ _ _ _ us hl=>bd_1 (λ_=>rfl) us hl,Qq X G h22 λ_ _ _ _ _ _ us hl=>bd_1 (λ_=>rfl) us hl,Qq X G h23 λ_ _ _ _ _ _ us hl=>bd_1 (λ_=>rfl) us hl,Qq X G h24 λ_ _ _ _ _ _ us hl=>bd_3 (λ_ _ _=>rfl) us hl,Qq X G h25 λ_ _ _ _ _ _ us hl=>bd_1 (λ_=>rfl) us hl,Qq X G h26 λ_ _ _ _ _ _ us hl=>bd_1 (λ_=>rfl) us hl,Qq X G h27 λ_ _ _ _ _ _ us hl=>bd_2 (λ_ _=>rfl) us hl,Qq X G h28 λ_ _ _ _ _ _ us hl=>bd_1 (λ_=>rfl) us hl,Qq X G h29 λ_ _ _ _ _ _ us hl=>bd_2 (λ_ _=>rfl) us hl,Qq X G h30 λ_ _ _ _ _ _ us hl=>bd_1 (λ_=>rfl) us hl,Qq X G h31 λ_ _ _ _ _ _ us hl=>bd_1 (λ_=>rfl) us hl⟩
 obtain⟨f31,oc31,kV31,dc31,pm31,cd31,ct31,od31,an31,sl31,a31,l31,c31,k31⟩:=h31
 have e:=hfa.symm.trans (mg_of X G a31)
 cases e
 have F31:=ZiR (st:=Zei) l31 c31 k31
 refine⟨fnOf "law" "law" (JW Zei) (Ql Zei) (Zc Zei) .none kV31 dc31 pm31 an31 cd31 ct31,λs v=>.of_eq rfl,λbase _ _=>?_⟩
 refine Zlo (fi:=31) (np:=1) (n:=5) (body:=Zhq) (cell:=false) F31 Zf1 ?_ ?_ ?_ ?_
 exact rfl
 exact rfl
 exact rfl
 intro _ _ _ _ _ _ hr _ _ _ go
 refine Zk7 ?_ ?_ ?_ ?_
 exact T0
 exact ZlA T0 TF 102
 exact hr
 exact go
theorem walk{l:OpenLaw}{q:Program}{loose:List Str}{XP:(Str->Option Value)->Heap->Prop}{YP:World->Heap->Prop}{d:DefRec}{K:Params->Frag}(hn:l.most=some 63)(hdf:d.params.defaults=[])(hY:∀(w:World) (h:Heap),YP w h->(K w.params).In h)(F:∀(w:World) (mg:Str->Option Value) (fa:Addr) (h:Heap),(K w.params).In h->h.Ns mainGlobals mg->mg d.name=some (.ref fa) ->
   ∃fd:FuncData,(∀(s:Shared) (u:Value),BindsTo s fd ⟨[u],[]⟩ [("_law_script",u)])/\∀base:Heap,(K w.params).In base->base.Ns mainGlobals mg->FnOk l.prog w (K w.params) mg base (CXF l.prog w) 103 fa fd ["_law_script"] (spF (K w.params) fns gv 103 31)):
  PySem.W.WalkO q loose XP YP l.row.toRowW d [] (λf vs=>PySem.call f vs):=
 L2.walk_of (n:=63) (k:=103) (x:="_law_script") (CX:=λw=>CXF l.prog w) (sp:=λw=>spF (K w.params) fns gv 103 31) hn (by decide) hdf ⟨rfl,by decide,by decide⟩ hY F (λ_ _ a ns hl hO hS=>law_sp hO hS (law_true ns hl)) λ_ _ _ _ _ z=>by obtain⟨_,_,_,_,_,_,h⟩:=z;exact h
theorem walkX{l:OpenLaw}{q:Program}{loose:List Str}{XP:(Str->Option Value)->Heap->Prop}{d:DefRec}{K:Params->Frag}{as:List Addr}{n t:Nat}(hn:l.most=some 63)(hdf:d.params.defaults=[])(he:∀P,as=(K P).map (·.1))(F:∀(w:World) (mg:Str->Option Value) (fa:Addr) (h:Heap),(K w.params).In h->h.Ns mainGlobals mg->mg d.name=some (.ref fa) ->
   ∃fd:FuncData,(∀(s:Shared) (u:Value),BindsTo s fd ⟨[u],[]⟩ [("_law_script",u)])/\∀base:Heap,(K w.params).In base->base.Ns mainGlobals mg->FnOk l.prog w (K w.params) mg base (CXF l.prog w) 103 fa fd ["_law_script"] (spF (K w.params) fns gv 103 31)):
  PySem.W.WalkX q loose XP (PySem.W.X.obsZ as) (PySem.W.X.valZ K n t) l.row.toRowW d [] (λf vs=>PySem.call f vs):=by
 intro w s₀ s₁ mg mb G y fa o pm cd doc dV kV ho hd hcd hD hmg hg args vals as' L
 exact walk (YP:=λw h=>(K w.params).In h) hn hdf (λ_ _ h=>h) F w s₀ s₁ mg mb G (PySem.W.InK.keeps w _ _ (PySem.W.X.z_facts he y).2.1 (PySem.W.Laid.keeps L)) fa o pm cd doc dV kV ho hd hcd hD hmg hg args vals as'
end My
set_option Elab.async false
namespace PySem.W.Fast
def tw7072148286672970617:=()
def tw9538603477354104979:=()
def tw13849056319347792593:=()
def tw5991965864091919948:=()
def tw7553739525798957008:=()
def tw5612373524296570291:=()
def tw8707614199597031736:=()
def tw7406876082005946316:=()
def tw14308032985591859243:=()
def tw3273071841313995340:=()
def tw4923585719182048166:=()
def tw714119985625585571:=()
def tw4246632014516477399:=()
def tw14515060534078136531:=()
def tw15118876649997702830:=()
def tw476247566764820711:=()
def tw17540682951797540568:=()
def tw1747757798303842365:=()
def tw15802749660780296413:=()
def tw10231535440751092484:=()
def tw12539145662338948616:=()
def tw4775941214906774980:=()
def tw13350241081923032629:=()
def tw9276797265550998433:=()
def tw662147044627348680:=()
def tw1029258644838390801:=()
def tw8251646413581631468:=()
def tw13712069475237396021:=()
def tw1530705998698179270:=()
def tw9381477922144450941:=()
def tw8601947002470963727:=()
def tw12612646726928441476:=()
def tw14738718283814625773:=()
def tw6322621874850678589:=()
def tw7518476184353466236:=()
def tw269167498531632859:=()
def tw9770678809622213982:=()
def tw8008605391618198707:=()
def tw14663081979619600473:=()
def tw7453433779471490312:=()
def tw14765593279519601851:=()
def tw10373933966691986960:=()
def tw9100637628279563596:=()
def tw17756413198090770135:=()
def tw13077036841860841601:=()
def tw10678200357142454140:=()
def tw8187265546182214368:=()
def tw11845346441127694543:=()
def tw8431986351063623808:=()
def tw5878421499472459993:=()
def tw17554278139008889602:=()
def tw11701535170937634439:=()
def tw16747859116125024550:=()
def tw1644008166623342920:=()
def tw13992255759803951978:=()
def tw11111544749379700834:=()
def tw10611398510899351910:=()
def tw10299614817453227989:=()
def tw12490162115726788697:=()
def tw9654125359090497142:=()
def tw7257639901235337548:=()
def tw4469036472777444685:=()
def tw3766744975809842339:=()
def tw7290842495593909286:=()
def tw1007646345313120544:=()
def tw12114394373076602652:=()
def tw15415296952658134129:=()
def tw9753025745019514512:=()
def tw12403085840158793758:=()
def tw4823346084545927596:=()
def tw85675805273555273:=()
def tw15594762326054397353:=()
def tw7885131033621222034:=()
def tw11869286594180079118:=()
def tw11652719155103224513:=()
def tw17342384424185075457:=()
def tw14435808131046827466:=()
def tw2429346558402867196:=()
def tw8331797975292556949:=()
def tw7499742535320740454:=()
def tw16579923596007370377:=()
def tw16341605575900849285:=()
def tw11835342212922917825:=()
def tw5664778526326220363:=()
def tw5551075803760873710:=()
def tw6986555930433580867:=()
def tw16847683624029500746:=()
def tw14614632698907533264:=()
def tw3845496524869064740:=()
def tw11363032927531735385:=()
def tw10252015411042265109:=()
def tw2729736536396615240:=()
def tw16436011324692230423:=()
def tw706665371246322305:=()
def tw1933013250387162791:=()
def tw8971924187337780089:=()
def tw6700581402233993108:=()
def tw2839205320385204267:=()
def tw15287724656924840534:=()
def tw10446462267217583267:=()
def tw46437437978001431:=()
def tw11638373509587577634:=()
def tw4121976287939373283:=()
def tw2699622606036280621:=()
def tw5752711203339523020:=()
def tw5824995655334700582:=()
def tw7980526038535974479:=()
def tw13242998450335202786:=()
def tw13147110538996233335:=()
def tw5029747396961206307:=()
def tw10450584464285596225:=()
def tw1506354109379471366:=()
def tw13406181063719726832:=()
def tw909075620809336638:=()
def tw7599703013691645050:=()
def tw411281205665202935:=()
def tw11475590747723922626:=()
def tw7306416376089334560:=()
def tw2224080725069508854:=()
def tw12032360495851131846:=()
def tw7244742275972106403:=()
def tw7773856373958864603:=()
def tw13433329672685266821:=()
def tw119102898747151303:=()
def tw18306398860634497582:=()
def tw16332340256908828878:=()
end PySem.W.Fast
noncomputable def PySem.W.Fast.tw18161421249691998776:PySem.Program:=PySem.Challenge.pw_matepoint_k14_whole_any_words
theorem PySem.W.Fast.te18161421249691998776:PySem.Challenge.pw_matepoint_k14_whole_any_words=PySem.W.Fast.tw18161421249691998776:=rfl
open PySem PySem.W PyProof.Rows
set_option maxRecDepth 100000 in
set_option maxHeartbeats 0 in
theorem PySem.Challenge.cw_matepoint_k14_whole_any_words_holds : PySem.Challenge.rw_matepoint_k14_whole_any_words.Holds := by
 w_on;o_law;z_head;(case hw=>w_witness2)
 k_fill
 refine My.walkX (l:=PySem.Challenge.rw_matepoint_k14_whole_any_words) rfl rfl (λ_=>rfl) ?F
 case F =>
  intro w mg fa h KX G hmg
  refine' My.all_mk KX G hmg ?h0 ?h1 ?h2 ?h3 ?h4 ?h5 ?h6 ?h7 ?h8 ?h9 ?h10 ?h11 ?h12 ?h13 ?h14 ?h15 ?h16 ?h17 ?h18 ?h19 ?h20 ?h21 ?h22 ?h23 ?h24 ?h25 ?h26 ?h27 ?h28 ?h29 ?h30 ?h31 ?gv0 ?gv1 ?gv2 ?gl2 ?gz2 ?gs2 ?gv3 ?gv4 ?gv5 ?gv6 ?gv7 ?gv8 ?gv9 ?gv10 ?gv11 ?gl11 ?gz11 ?ge11 ?gx11 ?gv12 ?gl12 ?gz12 ?gs12 ?z0 ?z1 ?z2 ?z3 ?z4 ?z5 ?z6 ?z7 ?z8 ?z9 ?cx0 ?cx1 ?cx2 ?cx3 ?cx4 ?cx5 ?cx6 ?cx7 ?cx8 ?cx9 ?cx10 ?cx11 ?cx12 ?q0a ?q0b ?q0c ?q0d ?q0e ?q0f ?q0g ?q0h ?q0i ?q0j ?q0k ?q1a ?q1b ?q2a ?q2b ?q2c ?q2d ?q2e ?q2f ?q3 ?q4 ?q5 ?q6 ?q7
  (case h0|h1|h2|h3|h4|h5|h6|h7|h8|h9|h10|h11|h12|h13|h14|h15|h16|h17|h18|h19|h20|h21|h22|h23|h24|h25|h26|h27|h28|h29|h30|h31=>refine' My.fe_in ?a ?l ?c ?k;(case a=>k_is);(case l=>k_is);(case c=>k_is);(case k=>k_is))
  (case gv0|gv1|gv2|gl2=>k_is)
  (case gz2=>decide)
  (case gs2=>exact(.cons (by decide +kernel) (.cons (by decide +kernel) (.cons (by decide +kernel) (.cons (by decide +kernel) (.cons (by decide +kernel) (.cons (by decide +kernel) .nil)))))))
  (case gv3|gv4|gv5|gv6|gv7|gv8|gv9|gv10|gv11|gl11=>k_is)
  (case gz11=>decide)
  (case ge11=>exact(Mi.Ents.cons (by decide +kernel) (by with_unfolding_all rfl) (Mi.Ents.cons (by decide +kernel) (by with_unfolding_all rfl) Mi.Ents.nil)))
  (case gx11=>exact(Mi.VTs.cons (Mi.vt_str (by decide +kernel)) (Mi.VTs.cons (Mi.vt_str (by decide +kernel)) Mi.VTs.nil)))
  (case gv12|gl12=>k_is)
  (case gz12=>decide)
  (case gs12=>exact(.cons (by decide +kernel) (.cons (by decide +kernel) .nil)))
  (case z0|z1|z2|z3|z4|z5|z6|z7|z8|z9|cx0|cx1|cx2|cx3|cx4|cx5|cx6|cx7|cx8|cx9|cx10|cx11|cx12=>k_is)
  (case q0a=>kernel_rfl)
  (case q0b|q0c=>k_is)
  (case q0d=>kernel_rfl)
  (case q0e|q0f|q0g|q0h|q0i|q0j|q0k|q1a|q1b|q2a|q2b|q2c|q2d|q2e|q2f=>k_is)
  (case q3|q4|q5|q6=>kit_is)
  (case q7=>kts_exm)
end
