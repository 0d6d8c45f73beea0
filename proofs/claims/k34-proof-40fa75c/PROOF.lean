import PyProof.Rows.All
import Wide.All
import OpenK.AllK
import Wide.FinOn
import Lean
import PyProof.EqAt
import PyProof.EqKinds
import PyProof.TupleCall
import PySem.Challenge.RW_matepoint_k34_anything_that_shows_it
set_option Elab.async false
set_option linter.all false
set_option maxRecDepth 100000
noncomputable section
set_option Elab.async false
set_option linter.all false
set_option maxRecDepth 100000
namespace L2
open PySem PySem.Spec PyProof.Rows
abbrev Key:=Sum Int Str
def keyIs:Key→Value→Bool
  | .inl k,v=>Value.isInt k v
  | .inr x,v=>Value.isStrOf x v
def keyH (w:World):Key→Int
  | .inl k=>hashInt k
  | .inr x=>hashStr w x
theorem Qy:∀ {k:Key} {v:Value},keyIs k v=true→(∃ i t,k=Sum.inl i∧v=Value.int i t)∨(∃ x t,k=Sum.inr x∧v=Value.str x t)
  | .inl i,v,h=>by
    obtain ⟨t,e⟩:=Value.isInt_shape (k:=i) (v:=v) h
    exact .inl ⟨i,t,rfl,e⟩
  | .inr x,v,h=>by
    obtain ⟨t,e⟩:=Value.isStrOf_shape (x:=x) (v:=v) h
    exact .inr ⟨x,t,rfl,e⟩
theorem key_ll (a b:Int):decide ((Sum.inl a:Key)=Sum.inl b)=(a == b):=by
  by_cases e:a=b
  · subst e; simp
  · have h:¬ (Sum.inl a:Key)=Sum.inl b:=fun q=>e (Sum.inl.inj q)
    rw [decide_eq_false h]
    exact (beq_eq_false_iff_ne.mpr e).symm
theorem key_rr (a b:Str):decide ((Sum.inr a:Key)=Sum.inr b)=decide (a=b):=by
  by_cases e:a=b
  · subst e; simp
  · have h:¬ (Sum.inr a:Key)=Sum.inr b:=fun q=>e (Sum.inr.inj q)
    rw [decide_eq_false h,decide_eq_false e]
theorem key_lr (a:Int) (b:Str):decide ((Sum.inl a:Key)=Sum.inr b)=false:=decide_eq_false (fun q=>nomatch q)
theorem key_rl (a:Str) (b:Int):decide ((Sum.inr a:Key)=Sum.inl b)=false:=decide_eq_false (fun q=>nomatch q)
def Zfi (prog:Program) (w:World):PySem.KeyKind prog w Key where
  is:=keyIs
  hash:=keyH w
  inj:=fun v a b ha hb=>by
    rcases Qy ha with ⟨i,t,rfl,rfl⟩ | ⟨x,t,rfl,rfl⟩
    · rcases Qy hb with ⟨j,u,rfl,e⟩ | ⟨y,u,rfl,e⟩
      · injection e with e1 _; rw [e1]
      · exact nomatch e
    · rcases Qy hb with ⟨j,u,rfl,e⟩ | ⟨y,u,rfl,e⟩
      · exact nomatch e
      · injection e with e1 _; rw [e1]
  byValue:=fun k v h=>by
    rcases Qy h with ⟨i,t,rfl,rfl⟩ | ⟨x,t,rfl,rfl⟩ <;> rfl
  pyHash:=fun hv h=>by
    rcases Qy hv with ⟨i,t,rfl,rfl⟩ | ⟨x,t,rfl,rfl⟩
    · exact wpAny_pyHash_int h
    · exact wpAny_pyHash_str h
  eqBool:=fun hu hv h=>by
    rcases Qy hu with ⟨i,t,rfl,rfl⟩ | ⟨x,t,rfl,rfl⟩
    · rcases Qy hv with ⟨j,u,rfl,rfl⟩ | ⟨y,u,rfl,rfl⟩
      · rw [key_ll] at h; exact wpAny_eqBool_int h
      · rw [key_lr] at h; exact SeqAt.EqAt.int_str i t y u _ _ _ _ h
    · rcases Qy hv with ⟨j,u,rfl,rfl⟩ | ⟨y,u,rfl,rfl⟩
      · rw [key_rl] at h; exact SeqAt.EqAt.str_int x t j u _ _ _ _ h
      · rw [key_rr] at h; exact wpAny_eqBool_str h
  «strs»:=fun k x t v h=>by
    rcases Qy h with ⟨i,u,rfl,e⟩ | ⟨y,u,rfl,e⟩
    · exact nomatch e
    · injection e with e1 _
      subst e1
      cases v <;> rfl
end L2
namespace L2
open PySem PySem.Spec PyProof.Rows
inductive V where
  | non | bl (b:Bool) | int (i:Int) | str (x:Str) | byt (b:Array UInt8) | flt (b:UInt64) | ref (a:Addr) | ty (n:String)
  deriving DecidableEq
def RelV:V→Value→Prop
  | .non,u=>u=Value.none
  | .bl b,u=>u=Value.bool b
  | .int i,u=>∃ t,u=Value.int i t
  | .str x,u=>∃ t,u=Value.str x t
  | .byt b,u=>∃ t,u=Value.bytes b t
  | .flt b,u=>∃ t,u=Value.float b t
  | .ref a,u=>u=Value.ref a
  | .ty n,u=>u=Value.type n
abbrev Vals:List V→List Value→Prop:=Paired RelV
theorem Vals.length {xs:List V} {us:List Value} (r:Vals xs us):xs.length=us.length:=Paired.length r
theorem Vals.get:∀ {xs:List V} {us:List Value} {i:Nat} {x:V},Vals xs us→xs[i]? = some x→∃ u,us[i]? = some u∧RelV x u
  | _,_,_,_,.nil,e=>by simp at e
  | _,_,0,_,.cons r _,e=>by simp at e; subst e; exact ⟨_,rfl,r⟩
  | _,_,i + 1,x,.cons _ t,e=>by
    obtain ⟨u,h1,h2⟩:=Vals.get (i:=i) (x:=x) t (by simpa using e)
    exact ⟨u,by simpa using h1,h2⟩
theorem Vals.set {x:V} {u:Value} (r:RelV x u):∀ {xs:List V} {us:List Value} (i:Nat),Vals xs us→Vals (xs.set i x) (us.set i u)
  | _,_,_,.nil=>.nil
  | _,_,0,.cons _ t=>.cons r t
  | _,_,i + 1,.cons q t=>.cons q (Vals.set r i t)
theorem Vals.append:∀ {xs ys:List V} {us ws:List Value},Vals xs us→Vals ys ws→Vals (xs++ys) (us++ws)
  | _,_,_,_,.nil,s=>s
  | _,_,_,_,.cons r t,s=>.cons r (Vals.append t s)
theorem Vals.take:∀ {xs:List V} {us:List Value} (n:Nat),Vals xs us→Vals (xs.take n) (us.take n)
  | _,_,0,_=>.nil
  | _,_,_ + 1,.nil=>.nil
  | _,_,n + 1,.cons r t=>.cons r (Vals.take n t)
theorem Vals.drop:∀ {xs:List V} {us:List Value} (n:Nat),Vals xs us→Vals (xs.drop n) (us.drop n)
  | _,_,0,r=>r
  | _,_,_ + 1,.nil=>.nil
  | _,_,n + 1,.cons _ t=>Vals.drop n t
def RelO:Option V→Option Value→Prop
  | some v,some u=>RelV v u
  | none,none=>True
  | _,_=>False
def KV {κ:Type}:List (κ×V)→List (κ×Value)→Prop:=Paired fun (p:κ×V) (q:κ×Value)=>p.1=q.1∧RelV p.2 q.2
def kV:Key→V
  | .inl i=>.int i
  | .inr x=>.str x
inductive HO where
  | lst (xs:List V)
  | tup (xs:List V)
  | dK (kvs:List (Key×V)) | dT (kvs:List (List Key×V))
  | set (S:Int→Bool) (n:Nat)
  | ins (C dx:Addr) (fs:List (Str×V))
  | own (x:Addr)
  | xd (fs:List (Str×V))
  | met (f x:Addr)
  | rng (lo hi:Int)
  | frz (o:Obj) (u:HO)
  | tbl (ps:Array Value)
  | ext (φ:Heap→Prop)
abbrev Hp:=Addr→Option HO
def upd (H:Hp) (a:Addr) (o:HO):Hp:=fun b=>if b=a then some o else H b
theorem JV {H:Hp} {a:Addr} {o:HO}:upd H a o a=some o:=by unfold upd; rw [if_pos rfl]
theorem Qe {H:Hp} {a b:Addr} {o:HO} (h:b≠a):upd H a o b=H b:=by unfold upd; rw [if_neg h]
theorem Q7 {H:Hp} {a b:Addr} {o:HO} (h:H a=some o) (h':H b=none):a≠b:=by
  intro e; subst e; rw [h] at h'; cases h'
def TupP (h:Heap) (a:Addr) (items:Array Value):Prop:=∃ o,h.get? a=some o∧o.cls = .type "tuple"∧(∃ n,o.data = .seq items n)∧o.dict=none
theorem TupP.is {h:Heap} {a:Addr} {items:Array Value} (x:TupP h a items):IsTup h a items:=let ⟨o,h1,h2,h3,_⟩:=x; ⟨o,h1,h2,h3⟩
theorem TupP.new (h:Heap) (items:Array Value):TupP (h.push { cls:=.type "tuple",data:=.seq items }) h.objs.size items:=⟨_,Heap.get?_push_size _ rfl,rfl,⟨_,rfl⟩,rfl⟩
section
variable (P:Program) (w:World)
def J6 (H:Hp) (h:Heap) (a:Addr):HO→Prop
  | .lst xs=>xs.length≤sizeLine∧∃ (its:List Value) (n:Nat),Vals xs its∧h.get? a=some { cls:=.type "list",data:=.seq its.toArray n }
  | .tup xs=>xs.length≤sizeLine∧∃ its:List Value,Vals xs its∧TupP h a its.toArray
  | .dK kvs=>kvs.length≤sizeLine∧(a == sysModules)=false∧∃ vs,KV kvs vs∧h.DictOf (Zfi P w) a vs
  | .dT kvs=>kvs.length≤sizeLine∧(a == sysModules)=false∧∃ xs:List (List Key×Addr×Value),
      Paired (fun (p:List Key×V) (q:List Key×Addr×Value)=>p.1=q.1∧H q.2.1=some (.tup (p.1.map kV))∧RelV p.2 q.2.2) kvs xs ∧
      ∃ o es ep,h.get? a=some o∧o.ExactDict∧o.data = .dict es ep∧es.toList=xs.map (entryOfKey (tupleKind (Zfi P w)))∧(xs.map (·.1)).Nodup
  | .set S n=>h.SetOf (intKind P w) a S n
  | .ins C dx fs=>H dx=some (.own a)∧fs.length≤1000∧dx≠a∧h.get? a=some (PySem.W.instObj C dx) ∧
      ∃ mA,h.Ns1 dx mA∧(∀ f,RelO (fs.lookup f) (mA f))∧PySem.Within mA (fs.map (·.1))
  | .own _=>∃ o,h.get? a=some o
  | .xd fs=>∃ mA,h.Ns1 a mA∧∀ f,RelO (fs.lookup f) (mA f)
  | .rng lo hi=>∃ t u v,h.get? a=some { cls:=.type "range",data:=.fields #[.int lo t,.int hi u,.int 1 v] }
  | .frz o u=>h.get? a=some o∧J6 H h a u
  | .tbl ps=>h.get? a=some { cls:=.none,data:=.fields ps }
  | .met f x=>h.get? a=some (PySem.W.methodObj (.ref f) (.ref x))
  | .ext φ=>φ h∧(∃ o,h.get? a=some o)∧∀ h1 h2:Heap,φ h1→(∀ o,h1.get? a=some o→h2.get? a=some o)→φ h2
def HOk (H:Hp) (h:Heap):Prop:=∀ a o,H a=some o→J6 P w H h a o
end
section
variable {P:Program} {w:World} {H H':Hp} {h h':Heap} {a:Addr} {o:HO}
theorem J6.lt (x:J6 P w H h a o):a < h.objs.size:=by
  cases o with
  | lst xs=>obtain ⟨_,_,_,_,e⟩:=x; exact Heap.lt_size e
  | tup xs=>obtain ⟨_,_,_,p⟩:=x; exact p.is.lt
  | dK kvs=>obtain ⟨_,_,_,_,o,_,_,e,_⟩:=x; exact Heap.lt_size e
  | dT kvs=>obtain ⟨_,_,_,_,o,_,_,e,_⟩:=x; exact Heap.lt_size e
  | set S n=>obtain ⟨o,_,_,_,e,_⟩:=x; exact Heap.lt_size e
  | ins C dx fs=>obtain ⟨_,_,_,e,_⟩:=x; exact Heap.lt_size e
  | own y=>obtain ⟨_,e⟩:=x; exact Heap.lt_size e
  | xd fs=>obtain ⟨_,⟨_,_,_,e,_⟩,_⟩:=x; exact Heap.lt_size e
  | rng lo hi=>obtain ⟨_,_,_,e⟩:=x; exact Heap.lt_size e
  | frz ob u=>obtain ⟨e,_⟩:=x; exact Heap.lt_size e
  | tbl ps=>exact Heap.lt_size (show h.get? a=some _ from x)
  | met f y=>exact Heap.lt_size (show h.get? a=some _ from x)
  | ext φ=>obtain ⟨_,⟨_,e⟩,_⟩:=x; exact Heap.lt_size e
theorem Paired.mapP {α β:Type} {F G:α→β→Prop}:∀ {l₁:List α} {l₂:List β},Paired F l₁ l₂→(∀ a b,F a b→G a b)→Paired G l₁ l₂
  | _,_,.nil,_=>.nil
  | _,_,.cons r t,f=>.cons (f _ _ r) (Paired.mapP t f)
theorem J6.stay (x:J6 P w H h a o) (k:∀ b u,(b=a∨H b=some (.own a))→h.get? b=some u→h'.get? b=some u)
    (ho:∀ b,H b=some (.own a)→H' b=some (.own a)) (ht:∀ b xs,H b=some (.tup xs)→H' b=some (.tup xs)):J6 P w H' h' a o:=by
  induction o with
  | lst xs=>obtain ⟨z,its,n,r,e⟩:=x; exact ⟨z,its,n,r,k _ _ (.inl rfl) e⟩
  | tup xs=>obtain ⟨z,its,r,ob,e,c⟩:=x; exact ⟨z,its,r,ob,k _ _ (.inl rfl) e,c⟩
  | dK kvs=>obtain ⟨z,y,vs,r,ob,es,ep,e,c⟩:=x; exact ⟨z,y,vs,r,ob,es,ep,k _ _ (.inl rfl) e,c⟩
  | dT kvs =>
    obtain ⟨z,y,xs,r,ob,es,ep,e,c⟩:=x
    exact ⟨z,y,xs,Paired.mapP r fun p q z=>⟨z.1,ht _ _ z.2.1,z.2.2⟩,ob,es,ep,k _ _ (.inl rfl) e,c⟩
  | set S n=>obtain ⟨ob,es,ep,t,e,c⟩:=x; exact ⟨ob,es,ep,t,k _ _ (.inl rfl) e,c⟩
  | ins C dx fs =>
    obtain ⟨d,z,ne,e,mA,⟨od,es,ep,e2,c⟩,r⟩:=x
    exact ⟨ho _ d,z,ne,k _ _ (.inl rfl) e,mA,⟨od,es,ep,k _ _ (.inr d) e2,c⟩,r⟩
  | own y=>obtain ⟨ob,e⟩:=x; exact ⟨ob,k _ _ (.inl rfl) e⟩
  | xd fs=>obtain ⟨mA,⟨od,es,ep,e,c⟩,r⟩:=x; exact ⟨mA,⟨od,es,ep,k _ _ (.inl rfl) e,c⟩,r⟩
  | rng lo hi=>obtain ⟨t,u,v,e⟩:=x; exact ⟨t,u,v,k _ _ (.inl rfl) e⟩
  | frz ob u ih=>obtain ⟨e,q⟩:=x; exact ⟨k _ _ (.inl rfl) e,ih q⟩
  | tbl ps =>
    have e:h.get? a=some { cls:=.none,data:=.fields ps }:=x
    show h'.get? a=some { cls:=.none,data:=.fields ps }
    exact k a _ (.inl rfl) e
  | met f y =>
    have e:h.get? a=some (PySem.W.methodObj (.ref f) (.ref y)):=x
    show h'.get? a=some (PySem.W.methodObj (.ref f) (.ref y))
    exact k a _ (.inl rfl) e
  | ext φ=>obtain ⟨p,⟨o,e⟩,st⟩:=x; exact ⟨st _ _ p fun o q=>k _ _ (.inl rfl) q,⟨o,k _ _ (.inl rfl) e⟩,st⟩
theorem HOk.lt (x:HOk P w H h) (e:H a=some o):a < h.objs.size:=(x a o e).lt
theorem HOk.fresh (x:HOk P w H h) (e:h.objs.size≤a):H a=none:=by
  cases q:H a with
  | none=>rfl
  | some u=>exact absurd (Nat.lt_of_lt_of_le (x.lt q) e) (Nat.lt_irrefl _)
theorem HOk.kept (x:HOk P w H h) (k:∀ b u,h.get? b=some u→h'.get? b=some u):HOk P w H h':=fun a o e =>
  (x a o e).stay (fun b u _ q=>k b u q) (fun _ q=>q) fun _ _ q=>q
theorem HOk.laid (x:HOk P w H h) (k:∀ b u,h.get? b=some u→h'.get? b=some u) (hp:h.objs.size≤a) (new:J6 P w (upd H a o) h' a o):HOk P w (upd H a o) h':=fun b u e=>by
  have hn:=x.fresh hp
  by_cases hb:b=a
  · subst hb; rw [JV] at e; cases e; exact new
  · rw [Qe hb] at e
    exact (x b u e).stay (fun c v _ q=>k c v q) (fun c q=>by rw [Qe (Q7 q hn)]; exact q) fun c xs q=>by rw [Qe (Q7 q hn)]; exact q
end
def Rd (H:Hp) (a:Addr) (u:HO):Prop:=H a=some u∨∃ o,H a=some (.frz o u)
theorem Rd.ok {P:Program} {w:World} {H:Hp} {h:Heap} {a:Addr} {u:HO} (r:Rd H a u) (x:HOk P w H h):J6 P w H h a u:=by
  rcases r with r | ⟨o,r⟩
  · exact x a u r
  · obtain ⟨_,q⟩:=x a _ r
    exact q
def Mut:Option HO→Prop
  | some (.lst _)=>True
  | some (.dK _)=>True
  | some (.dT _)=>True
  | some (.set _ _)=>True
  | some (.ins _ _ _)=>True
  | some (.ext _)=>True
  | _=>False
section
variable {P:Program} {w:World} {H:Hp} {h h':Heap} {x e:Addr} {o':HO}
theorem HOk.write (ok:HOk P w H h) (mu:Mut (H x)) (he:e=x∨H e=some (.own x)) (k:∀ b u,b≠e→h.get? b=some u→h'.get? b=some u) (heo:∃ u,h'.get? e=some u)
    (new:J6 P w (upd H x o') h' x o'):HOk P w (upd H x o') h':=fun b u q=>by
  have nown:∀ c y,H c=some (.own y)→c≠x:=fun c y r z=>by subst z; rw [r] at mu; exact mu
  have ntup:∀ c xs,H c=some (.tup xs)→c≠x:=fun c xs r z=>by subst z; rw [r] at mu; exact mu
  by_cases hb:b=x
  · subst hb; rw [JV] at q; cases q; exact new
  · rw [Qe hb] at q
    by_cases hbe:b=e
    · have q':H b=some (.own x):=by
        rcases he with z | z
        · exact absurd (hbe.trans z) hb
        · rw [hbe]; exact z
      rw [q] at q'; cases q'
      obtain ⟨v,hv⟩:=heo
      exact ⟨v,by rw [hbe]; exact hv⟩
    · refine (ok b u q).stay (fun c v hc r=>k c v ?_ r) (fun c r=>by rw [Qe (nown c b r)]; exact r) fun c xs r=>by rw [Qe (ntup c xs r)]; exact r
      rcases hc with rfl | hc
      · exact hbe
      · rintro rfl
        rcases he with z | z
        · exact nown c b hc z
        · rw [hc] at z; cases z; exact hb rfl
end
structure Un (fs ex:List Addr) (H H':Hp) (h h':Heap):Prop where
  keep:∀ b o,h.get? b=some o→H b=none→b ∉ fs→b ∉ ex→h'.get? b=some o
  slot:∀ b o,h.get? b=some o→H b=none→b∈fs→b ∉ ex→∃ sl,h'.get? b=some { o with slots:=sl }
  free:∀ b o,h.get? b=some o→H b=none→b ∉ ex→H' b=none
  there:∀ b o,h.get? b=some o→b ∉ ex→∃ o',h'.get? b=some o'
  tups:∀ b xs,H b=some (.tup xs)→H' b=some (.tup xs)
  frzs:∀ b o u,H b=some (.frz o u)→H' b=some (.frz o u)
  tbls:∀ b ps,H b=some (.tbl ps)→∃ more,H' b=some (.tbl (ps++more))
section
variable {fs fs' ex ex':List Addr} {H H1 H2:Hp} {h h1 h2 h':Heap} {a x e:Addr} {o:HO}
theorem Un.any (u:Un fs ex H H1 h h1) {b:Addr} {ob:Obj} (q:h.get? b=some ob) (n:H b=none) (hx:b ∉ ex):∃ sl,h1.get? b=some { ob with slots:=sl }:=by
  by_cases hb:b∈fs
  · exact u.slot b ob q n hb hx
  · exact ⟨ob.slots,u.keep b ob q n hb hx⟩
theorem Un.kept (k:∀ b u,h.get? b=some u→h'.get? b=some u):Un fs ex H H h h' :=
  ⟨fun b ob q _ _ _=>k b ob q,fun b ob q _ _ _=>⟨ob.slots,k b ob q⟩,fun _ _ _ n _=>n,fun b ob q _=>⟨ob,k b ob q⟩,fun _ _ q=>q,fun _ _ _ q=>q,fun _ ps q=>⟨#[],by rw [q]; simp⟩⟩
theorem Un.refl:Un fs ex H H h h:=Un.kept fun _ _ q=>q
theorem Un.laid (k:∀ b u,h.get? b=some u→h'.get? b=some u) (hp:h.objs.size≤a) (hn:H a=none):Un fs ex H (upd H a o) h h' where
  keep:=fun b u q _ _ _=>k b u q
  slot:=fun b u q _ _ _=>⟨u.slots,k b u q⟩
  free:=fun b u q n _=>by rw [Qe (Nat.ne_of_lt (Nat.lt_of_lt_of_le (Heap.lt_size q) hp))]; exact n
  there:=fun b u q _=>⟨u,k b u q⟩
  tups:=fun b xs q=>by rw [Qe (Q7 q hn)]; exact q
  frzs:=fun b u xs q=>by rw [Qe (Q7 q hn)]; exact q
  tbls:=fun b ps q=>⟨#[],by rw [Qe (Q7 q hn),q]; simp⟩
theorem Un.write (mu:Mut (H x)) (he:e=x∨H e=some (.own x)) (k:∀ b u,b≠e→h.get? b=some u→h'.get? b=some u) (heo:∃ u,h'.get? e=some u):Un fs ex H (upd H x o) h h':=by
  have hx:∀ b,H b=none→b≠x:=fun b n z=>by subst z; rw [n] at mu; exact mu
  have hb:∀ b,H b=none→b≠e:=fun b n z=>by
    subst z
    rcases he with r | r
    · exact hx b n r
    · rw [n] at r; cases r
  have hm:∀ b u,H b=some u→¬ Mut (some u)→b≠x:=fun b u q nm z=>by subst z; rw [q] at mu; exact nm mu
  refine ⟨fun b u q n _ _=>k b u (hb b n) q,fun b u q n _ _=>⟨u.slots,k b u (hb b n) q⟩,fun b u q n _=>by rw [Qe (hx b n)]; exact n,fun b u q _=>?_,
    fun b xs q=>by rw [Qe (hm b _ q fun z=>z)]; exact q,fun b u xs q=>by rw [Qe (hm b _ q fun z=>z)]; exact q,fun b ps q=>⟨#[],by rw [Qe (hm b _ q fun z=>z),q]; simp⟩⟩
  by_cases hbe:b=e
  · subst hbe; exact heo
  · exact ⟨u,k b u hbe q⟩
end
def trk (h:Heap) (H:Hp):List Addr:=(List.range h.objs.size).filter fun a=>(H a).isSome
def hidT (h:Heap) (H:Hp):Heap:=PySem.W.hideAll h (trk h H)
theorem ZiH (h:Heap) (H:Hp):(hidT h H).objs.size=h.objs.size:=PySem.W.hideAll_size _ _
theorem ZkT {h:Heap} {H:Hp} {b:Addr} {o:Obj} (e:h.get? b=some o) (n:H b=none):(hidT h H).get? b=some o :=
  PySem.W.hideAll_get _ e fun hm=>by
    have q:(H b).isSome=true:=(List.mem_filter.mp hm).2
    rw [n] at q; simp at q
theorem ZmW {h:Heap} {H:Hp} {b:Addr} {o:Obj} (e:(hidT h H).get? b=some o):h.get? b=some o∧H b=none:=by
  have e':h.get? b=some o:=PySem.W.of_hideAll (trk h H) e
  refine ⟨e',?_⟩
  cases q:H b with
  | none=>rfl
  | some x =>
    have hm:b∈trk h H:=List.mem_filter.mpr ⟨List.mem_range.mpr (Heap.lt_size e'),by simp [q]⟩
    have z:(hidT h H).get? b=none:=PySem.W.hideAll_none (trk h H) hm
    rw [z] at e; cases e
def Znz (g h:Heap) (L:Addr):List (Addr×Obj):=(List.range h.objs.size).filterMap fun a=>if a=L∨(g.get? a).isSome=true then none else (h.get? a).map fun o=>(a,o)
def rest (g h:Heap) (L d:Addr):List (Addr×Obj):=(Znz g h L).filter fun p=>decide (p.1≠d)
end L2
namespace L2
open PySem PySem.Spec PyProof.Rows
structure Mod (K:PySem.W.Frag) (mg:Str→Option Value) (base:Heap):Prop where
  kin:K.In base
  glob:base.Ns mainGlobals mg
  blt:∃ mb,base.Ns builtinsNs mb∧∀ x:Str,x≠"__name__"→mb x=bootBuiltins x
  nolimit:base.NoLimit
structure Cx where
  prog:Program
  w:World
  K:PySem.W.Frag
  mg:Str→Option Value
  base:Heap
  A:Around
  N:List Str
  s₀:Shared
  H₀:Hp
  env:Env
  outer:List Env
  stack:List Env
  ex:List Addr
  fn:Str→Bool
  calm:Bool
  pn:List (Addr×Obj)
  xe:Value→Shared→Prop
def frs (l:List Env):List Addr:=l.filterMap (·.frame)
abbrev Cx.fs (X:Cx):List Addr:=frs X.outer
def Vis (sc:Scope) (x:Str):Prop:=sc.names.lookup x=some .local∨sc.names.lookup x=some .cell∨sc.names.lookup x=some .free
def Loc (sc:Scope) (x:Str):Prop:=sc.names.lookup x=some .local∨sc.names.lookup x=some .cell
def Look (env:Env) (h:Heap) (m:Str→Option Value) (x:Str) (u:Value):Prop :=
  (env.kindOf x=some .local∧m x=some u)∨((env.kindOf x=some .cell∨env.kindOf x=some .free)∧∃ c,env.cells.lookup x=some c∧h.IsCell c (some u))
structure Cx.Ok (X:Cx):Prop where
  mod:Mod X.K X.mg X.base
  kind:X.env.scope.kind = .function
  glob:X.env.globals=mainGlobals
  blt:X.env.builtins=builtinsNs
  above:X.s₀.heap.objs.size≤X.env.locals
  inj:∀ x y c,X.env.cells.lookup x=some c→X.env.cells.lookup y=some c→x=y
  has:∀ x,(X.env.kindOf x=some .cell∨X.env.kindOf x=some .free)→∃ c,X.env.cells.lookup x=some c
  cab:∀ x c,X.fn x=true→X.env.cells.lookup x=some c→X.s₀.heap.objs.size≤c
  hd:X.calm=true→X.A.handled=none
  frames:X.A.frames=some X.stack
  stk:X.stack=X.outer∨(X.stack=X.env :: X.outer∧X.env.frame=some X.env.locals)
  exf:∀ b∈X.ex,b≠X.env.locals∧∀ x c,X.env.cells.lookup x=some c→c≠b
  bs:∀ b o,X.base.get? b=some o→X.s₀.heap.get? b=some o∧X.H₀ b=none
  bsz:X.base.objs.size≤X.s₀.heap.objs.size
  noex:∀ b o,X.base.get? b=some o→b ∉ X.ex
  exfs:∀ b∈X.ex,b ∉ X.fs
  funs:X.s₀.heap.FunFrames X.base X.outer
  frf:∀ b∈X.fs,X.H₀ b=none
structure Inv (X:Cx) (pins:List (Addr×Obj)) (σ:List (Option V)) (H:Hp) (s:Shared):Prop where
  ok:X.Ok
  os:s.os=X.s₀.os
  bare:AllBare s.gens
  base:Un X.fs X.ex X.H₀ H X.s₀.heap s.heap
  loc:∃ m,s.heap.Ns X.env.locals m∧∀ (i:Nat) (x:Str) (v:V),X.N[i]? = some x→σ[i]? = some (some v)→Vis X.env.scope x→∃ u,RelV v u∧Look X.env s.heap m x u
  cell:∀ x c,X.env.cells.lookup x=some c→∃ v,s.heap.IsCell c v
  free:H X.env.locals=none
  freeC:∀ x c,X.env.cells.lookup x=some c→H c=none
  pin:∀ p∈X.pn++pins,s.heap.get? p.1=some p.2∧H p.1=none∧p.1≠X.env.locals∧p.1 ∉ X.fs∧∀ v,p.2.data≠.cell v
  hok:HOk X.prog X.w H s.heap
  len:σ.length=X.N.length
section
variable {X:Cx} {pins:List (Addr×Obj)} {σ:List (Option V)} {H H':Hp} {s:Shared} {h':Heap}
theorem Cx.Ok.nofr (ok:X.Ok) {b:Addr} {o:Obj} (e:X.base.get? b=some o):b ∉ X.fs:=fun hb=>by
  have:=(ok.funs.mem hb).1
  rw [e] at this; cases this
theorem Inv.bs (I:Inv X pins σ H s):∀ b o,X.base.get? b=some o→s.heap.get? b=some o∧H b=none:=fun b o e =>
  ⟨I.base.keep b o (I.ok.bs b o e).1 (I.ok.bs b o e).2 (I.ok.nofr e) (I.ok.noex b o e),I.base.free b o (I.ok.bs b o e).1 (I.ok.bs b o e).2 (I.ok.noex b o e)⟩
theorem Inv.bk (I:Inv X pins σ H s):∀ b o,X.base.get? b=some o→s.heap.get? b=some o:=fun b o e=>(I.bs b o e).1
theorem Inv.mod (I:Inv X pins σ H s):Mod X.K X.mg X.base:=I.ok.mod
theorem Inv.kIn (I:Inv X pins σ H s):X.K.In s.heap:=I.ok.mod.kin.keeps I.bk
theorem Inv.lt (I:Inv X pins σ H s):X.env.locals < s.heap.objs.size:=let ⟨_,hn,_⟩:=I.loc; hn.lt
theorem Inv.sz (I:Inv X pins σ H s):X.s₀.heap.objs.size≤s.heap.objs.size:=Nat.le_trans I.ok.above (Nat.le_of_lt I.lt)
theorem Inv.nofs (I:Inv X pins σ H s) {a:Addr} (h:s.heap.objs.size≤a):a ∉ X.fs:=fun hb=>by
  obtain ⟨_,o,ho,_⟩:=I.ok.funs.mem hb
  exact absurd (Nat.lt_of_lt_of_le (Heap.lt_size ho) (Nat.le_trans I.sz h)) (Nat.lt_irrefl _)
theorem Inv.cne (I:Inv X pins σ H s):∀ x c,X.env.cells.lookup x=some c→c≠X.env.locals:=fun x c e z=>by
  obtain ⟨v,o,ho,hd⟩:=I.cell x c e
  obtain ⟨m,⟨o',es,ep,ho',hd',_⟩,_⟩:=I.loc
  rw [z,ho'] at ho; cases ho; rw [hd'] at hd; cases hd
theorem Inv.funs (I:Inv X pins σ H s):s.heap.FunFrames X.base X.outer:=by
  have all:∀ (l:List Env),(∀ b∈frs l,b∈X.fs)→X.s₀.heap.FunFrames X.base l→s.heap.FunFrames X.base l:=by
    intro l
    induction l with
    | nil=>intro _ _; trivial
    | cons env r ih =>
      intro hs hl
      obtain ⟨hk,⟨L,o,hf,hn,ho,hd⟩,hr⟩:=hl
      have hL:L∈X.fs:=hs L (by unfold frs; rw [List.filterMap_cons,hf]; exact List.mem_cons_self)
      obtain ⟨sl,e⟩:=I.base.slot L o ho (I.ok.frf L hL) hL fun z=>I.ok.exfs L z hL
      exact ⟨hk,⟨L,_,hf,hn,e,hd⟩,ih (fun b hb=>hs b (by unfold frs; rw [List.filterMap_cons,hf]; exact List.mem_cons_of_mem _ hb)) hr⟩
  exact all X.outer (fun _ hb=>hb) I.ok.funs
theorem Inv.stack (I:Inv X pins σ H s):s.heap.FunFrames X.base X.stack:=by
  rcases I.ok.stk with e | ⟨e,hf⟩
  · rw [e]; exact I.funs
  · rw [e]
    obtain ⟨m,hn,_⟩:=I.loc
    refine .cons (by rw [I.ok.kind]; decide) hf hn ?_ I.funs
    exact Heap.get?_none_of_le (Nat.le_trans I.ok.bsz I.ok.above)
theorem Inv.stkSub (I:Inv X pins σ H s):∀ b∈frs X.stack,b∈X.env.locals :: X.fs:=fun b hb=>by
  rcases I.ok.stk with e | ⟨e,hf⟩
  · rw [e] at hb; exact List.mem_cons_of_mem _ hb
  · rw [e] at hb
    unfold frs at hb
    rw [List.filterMap_cons,hf] at hb
    exact hb
theorem Inv.stkFree (I:Inv X pins σ H s):∀ b∈frs X.stack,H b=none:=fun b hb=>by
  rcases List.mem_cons.mp (I.stkSub b hb) with e | hb
  · rw [e]; exact I.free
  · obtain ⟨_,o,ho,_⟩:=I.ok.funs.mem hb
    exact I.base.free b o ho (I.ok.frf b hb) fun z=>I.ok.exfs b z hb
theorem Inv.step {g':Array GenState} {t':Nat} {d':Drawn} {ch:List Addr} (I:Inv X pins σ H s)
    (hch:∀ b∈ch,(b∈X.ex∨X.s₀.heap.objs.size≤b)∧b≠X.env.locals∧(∀ x c,X.env.cells.lookup x=some c→c≠b)∧∀ p∈X.pn++pins,p.1≠b)
    (keep:∀ b o,b≠X.env.locals→b ∉ X.fs→b ∉ ch→s.heap.get? b=some o→H b=none→h'.get? b=some o)
    (slot:∀ b o,b≠X.env.locals→b∈X.fs→b ∉ ch→s.heap.get? b=some o→H b=none→∃ sl,h'.get? b=some { o with slots:=sl }) (free:∀ b o,b ∉ ch→s.heap.get? b=some o→H b=none→H' b=none)
    (there:∀ b o,b ∉ ch→s.heap.get? b=some o→∃ o',h'.get? b=some o')
    (tups:∀ b xs,H b=some (.tup xs)→H' b=some (.tup xs)) (frzs:∀ b o u,H b=some (.frz o u)→H' b=some (.frz o u)) (tbls:∀ b ps,H b=some (.tbl ps)→∃ more,H' b=some (.tbl (ps++more)))
    (ns:∀ m,s.heap.Ns X.env.locals m→h'.Ns X.env.locals m) (hok:HOk X.prog X.w H' h') (hg:AllBare g') :
    Inv X pins σ H' { s with heap:=h',gens:=g',drawn:=d',toks:=t' }:=by
  have neL:∀ b o,X.s₀.heap.get? b=some o→b≠X.env.locals:=fun b o e=>Nat.ne_of_lt (Nat.lt_of_lt_of_le (Heap.lt_size e) I.ok.above)
  have neC:∀ b o,X.s₀.heap.get? b=some o→b ∉ X.ex→b ∉ ch:=fun b o e hx hb=>by
    rcases (hch b hb).1 with z | z
    · exact hx z
    · exact absurd (Nat.lt_of_lt_of_le (Heap.lt_size e) z) (Nat.lt_irrefl _)
  have cellK:∀ x c,X.env.cells.lookup x=some c→∀ v,s.heap.IsCell c v→h'.IsCell c v:=fun x c e v ⟨o,ho,hd⟩=>by
    have nch:c ∉ ch:=fun z=>(hch c z).2.2.1 x c e rfl
    by_cases hc:c∈X.fs
    · obtain ⟨sl,q⟩:=slot c o (I.cne x c e) hc nch ho (I.freeC x c e)
      exact ⟨_,q,hd⟩
    · exact ⟨o,keep c o (I.cne x c e) hc nch ho (I.freeC x c e),hd⟩
  refine ⟨I.ok,I.os,hg,⟨fun b o e n hb hx=>?_,fun b o e n hb hx=>?_,fun b o e n hx=>?_,fun b o e hx=>?_,fun b xs e=>tups b xs (I.base.tups b xs e),fun b o xs e=>frzs b o xs (I.base.frzs b o xs e),fun b ps e=>?_⟩,?_,fun x c e=>?_,?_,fun x c e=>?_,fun p hp=>?_,hok,I.len⟩
  · exact keep b o (neL b o e) hb (neC b o e hx) (I.base.keep b o e n hb hx) (I.base.free b o e n hx)
  · obtain ⟨sl,e1⟩:=I.base.slot b o e n hb hx
    obtain ⟨sl',e2⟩:=slot b _ (neL b o e) hb (neC b o e hx) e1 (I.base.free b o e n hx)
    exact ⟨sl',e2⟩
  · obtain ⟨o',e1⟩:=I.base.there b o e hx
    exact free b o' (neC b o e hx) e1 (I.base.free b o e n hx)
  · obtain ⟨o',e1⟩:=I.base.there b o e hx
    exact there b o' (neC b o e hx) e1
  · obtain ⟨m1,e1⟩:=I.base.tbls b ps e
    obtain ⟨m2,e2⟩:=tbls b _ e1
    exact ⟨m1++m2,by rw [e2,Array.append_assoc]⟩
  · obtain ⟨m,hn,hl⟩:=I.loc
    refine ⟨m,ns m hn,fun i x v e1 e2 e3=>?_⟩
    obtain ⟨u,r,l⟩:=hl i x v e1 e2 e3
    refine ⟨u,r,?_⟩
    rcases l with l | ⟨k,c,e,z⟩
    · exact .inl l
    · exact .inr ⟨k,c,e,cellK x c e _ z⟩
  · obtain ⟨v,z⟩:=I.cell x c e
    exact ⟨v,cellK x c e v z⟩
  · obtain ⟨m,⟨o,_,_,ho,_⟩,_⟩:=I.loc
    exact free _ o (fun z=>(hch _ z).2.1 rfl) ho I.free
  · obtain ⟨v,o,ho,hd⟩:=I.cell x c e
    exact free c o (fun z=>(hch c z).2.2.1 x c e rfl) ho (I.freeC x c e)
  · obtain ⟨e,n,ne,nf,d⟩:=I.pin p hp
    have nch:p.1 ∉ ch:=fun z=>(hch p.1 z).2.2.2 p hp rfl
    exact ⟨keep p.1 p.2 ne nf nch e n,free p.1 p.2 nch e n,ne,nf,d⟩
theorem Inv.un {t':Nat} (I:Inv X pins σ H s) (u:Un X.fs [] H H' s.heap h') (hok:HOk X.prog X.w H' h'):Inv X pins σ H' { s with heap:=h',toks:=t' }:=by
  obtain ⟨m,⟨o,es,ep,ho,r⟩,_⟩:=id I.loc
  obtain ⟨sl,hL⟩:=u.any ho I.free (by simp)
  exact I.step (g':=s.gens) (d':=s.drawn) (ch:=[]) (fun _ z=>nomatch z) (fun b o _ hb _ e n=>u.keep b o e n hb (by simp)) (fun b o _ hb _ e n=>u.slot b o e n hb (by simp)) (fun b o _ e n=>u.free b o e n (by simp)) (fun b o _ e=>u.there b o e (by simp)) u.tups u.frzs u.tbls (fun m' hm=>by
    obtain ⟨o',es',ep',ho',r'⟩:=hm
    rw [ho] at ho'; cases ho'
    exact ⟨_,es',ep',hL,r'⟩) hok I.bare
theorem Inv.call {g':Array GenState} {t':Nat} {d':Drawn} {ch:List Addr} (I:Inv X pins σ H s) (u:Un (frs X.stack) ch H H' s.heap h') (hok:HOk X.prog X.w H' h') (hg:AllBare g')
    (hch:∀ b∈ch,(b∈X.ex∨X.s₀.heap.objs.size≤b)∧b≠X.env.locals∧(∀ x c,X.env.cells.lookup x=some c→c≠b)∧∀ p∈X.pn++pins,p.1≠b) :
    Inv X pins σ H' { s with heap:=h',gens:=g',drawn:=d',toks:=t' }:=by
  obtain ⟨m,⟨o,es,ep,ho,r⟩,_⟩:=id I.loc
  obtain ⟨sl,hL⟩:=u.any ho I.free fun z=>(hch _ z).2.1 rfl
  exact I.step (ch:=ch) hch (fun b o hL hb hc e n=>u.keep b o e n (fun z=>(List.mem_cons.mp (I.stkSub b z)).elim hL hb) hc) (fun b o _ _ hc e n=>u.any e n hc) (fun b o hc e n=>u.free b o e n hc) (fun b o hc e=>u.there b o e hc) u.tups u.frzs u.tbls (fun m' hm=>by
    obtain ⟨o',es',ep',ho',r'⟩:=hm
    rw [ho] at ho'; cases ho'
    exact ⟨_,es',ep',hL,r'⟩) hok hg
theorem Inv.turned {t':Nat} {it:Addr} (I:Inv X pins σ H s) (k:∀ b o,b≠it→s.heap.get? b=some o→h'.get? b=some o) (hn:H it=none) (hL:it≠X.env.locals)
    (h1:it∈X.ex∨X.s₀.heap.objs.size≤it) (h2:∀ x c,X.env.cells.lookup x=some c→c≠it) (h3:∀ p∈X.pn++pins,p.1≠it):Inv X pins σ H { s with heap:=h',toks:=t' }:=by
  have nit:∀ b u,H b=some u→b≠it:=fun b u e z=>by rw [z,hn] at e; cases e
  refine I.step (g':=s.gens) (d':=s.drawn) (ch:=[it]) (fun b hb=>?_) (fun b o _ _ hc e _=>k b o (fun z=>hc (by simp [z])) e) (fun b o _ _ hc e _=>⟨o.slots,k b o (fun z=>hc (by simp [z])) e⟩) (fun _ _ _ _ n=>n)
    (fun b o hc e=>⟨o,k b o (fun z=>hc (by simp [z])) e⟩) (fun _ _ e=>e) (fun _ _ _ e=>e) (fun b ps e=>⟨#[],by rw [e]; simp⟩) (fun m hm=>?_) (fun b u e=>?_) I.bare
  · have e:b=it:=by simpa using hb
    subst e
    exact ⟨h1,hL,h2,h3⟩
  · obtain ⟨o,es,ep,ho,r⟩:=hm
    exact ⟨o,es,ep,k _ o (Ne.symm hL) ho,r⟩
  · refine (I.hok b u e).stay (fun c v hc q=>k c v ?_ q) (fun _ q=>q) fun _ _ q=>q
    rcases hc with z | z
    · rw [z]; exact nit b u e
    · exact nit c _ z
theorem Inv.tok (I:Inv X pins σ H s) (t:Nat):Inv X pins σ H { s with toks:=t }:=I.un (h':=s.heap) (t':=t) Un.refl I.hok
theorem Inv.kept {t':Nat} (I:Inv X pins σ H s) (k:∀ b u,s.heap.get? b=some u→h'.get? b=some u):Inv X pins σ H { s with heap:=h',toks:=t' }:=I.un (Un.kept k) (I.hok.kept k)
theorem Inv.laid {a:Addr} {o:HO} {t':Nat} (I:Inv X pins σ H s) (k:∀ b u,s.heap.get? b=some u→h'.get? b=some u) (hp:s.heap.objs.size≤a) (new:J6 X.prog X.w (upd H a o) h' a o) :
    Inv X pins σ (upd H a o) { s with heap:=h',toks:=t' }:=I.un (Un.laid k hp (I.hok.fresh hp)) (I.hok.laid k hp new)
theorem Inv.write {x e:Addr} {o:HO} {t':Nat} (I:Inv X pins σ H s) (mu:Mut (H x)) (he:e=x∨H e=some (.own x)) (k:∀ b u,b≠e→s.heap.get? b=some u→h'.get? b=some u) (heo:∃ u,h'.get? e=some u)
    (new:J6 X.prog X.w (upd H x o) h' x o):Inv X pins σ (upd H x o) { s with heap:=h',toks:=t' }:=I.un (Un.write mu he k heo) (I.hok.write mu he k heo new)
theorem Inv.pins_of {pins':List (Addr×Obj)} (I:Inv X pins σ H s) (h:∀ p∈pins',s.heap.get? p.1=some p.2∧H p.1=none∧p.1≠X.env.locals∧p.1 ∉ X.fs∧∀ v,p.2.data≠.cell v):Inv X pins' σ H s :=
  ⟨I.ok,I.os,I.bare,I.base,I.loc,I.cell,I.free,I.freeC,fun p hp=>(List.mem_append.mp hp).elim (fun z=>I.pin p (List.mem_append_left _ z)) (h p),I.hok,I.len⟩
theorem ZfW {N:List Str} (hN:N.Nodup) {i j:Nat} {x:Str} (a:N[i]? = some x) (b:N[j]? = some x):i=j:=by
  obtain ⟨h1,e1⟩:=List.getElem?_eq_some_iff.mp a
  obtain ⟨h2,e2⟩:=List.getElem?_eq_some_iff.mp b
  exact (List.getElem_inj hN).mp (e1.trans e2.symm)
theorem ZdO {M:Model} {A:Around} {E:Value→Shared→Prop} {i:Nat} {x:Str} {v:V} {u:Value} {Q:Unit→Shared→Prop} (I:Inv X pins σ H s) (hN:X.N.Nodup) (hi:X.N[i]? = some x) (hx:Loc X.env.scope x) (r:RelV v u)
    (h:∀ s',Inv X pins (σ.set i (some v)) H s'→(∃ a,Heap.SameBut a s.heap s'.heap∧(a=X.env.locals∨X.env.cells.lookup x=some a))→Q () s') (hf:X.fn x=true∨X.env.scope.names.lookup x=some .local:=by first | exact .inl rfl | exact .inr rfl | assumption):wpAny M A (storeName X.env x u) Q E s:=by
  obtain ⟨m,hn,hl⟩:=id I.loc
  have hcls:(X.env.scope.kind == .class || (X.env.scope.kind == .module && X.env.locals != X.env.globals))=false:=by rw [I.ok.kind]; rfl
  have hiσ:i < σ.length:=by rw [I.len]; exact (List.getElem?_eq_some_iff.mp hi).1
  have cne:=I.cne
  have tracked:∀ {a:Addr} {h':Heap},(∃ o,s.heap.get? a=some o∧H a=none)→Heap.SameBut a s.heap h'→HOk X.prog X.w H h':=fun {a h'} ha hs b ob e=>by
    obtain ⟨_,_,hfree⟩:=ha
    refine (I.hok b ob e).stay (fun c w' hc q=>(hs.2 c ?_).trans q) (fun _ q=>q) fun _ _ q=>q
    rintro rfl
    rcases hc with rfl | hc
    · rw [hfree] at e; cases e
    · rw [hfree] at hc; cases hc
  rcases hx with hk | hk
  · refine wpAny_storeName_local hk hn (fun h' hn' hs=>?_) hcls
    obtain ⟨oL,_,_,hoL,_⟩:=id hn
    refine h _ ⟨I.ok,I.os,I.bare,⟨fun b o e n hb hx=>?_,fun b o e n hb hx=>?_,I.base.free,fun b o e hx=>?_,I.base.tups,I.base.frzs,I.base.tbls⟩,⟨_,hn',fun j y v' e1 e2 e3=>?_⟩,fun y c e=>?_,I.free,I.freeC,fun p hp=>?_,tracked ⟨oL,hoL,I.free⟩ hs,by simpa using I.len⟩ ⟨_,hs,.inl rfl⟩
    · exact (hs.2 b (Nat.ne_of_lt (Nat.lt_of_lt_of_le (Heap.lt_size e) I.ok.above))).trans (I.base.keep b o e n hb hx)
    · obtain ⟨sl,e1⟩:=I.base.slot b o e n hb hx
      exact ⟨sl,(hs.2 b (Nat.ne_of_lt (Nat.lt_of_lt_of_le (Heap.lt_size e) I.ok.above))).trans e1⟩
    · obtain ⟨o',e1⟩:=I.base.there b o e hx
      exact ⟨o',(hs.2 b (Nat.ne_of_lt (Nat.lt_of_lt_of_le (Heap.lt_size e) I.ok.above))).trans e1⟩
    · by_cases hj:j=i
      · subst hj
        rw [hi] at e1; cases e1
        rw [List.getElem?_set_self hiσ] at e2
        cases e2
        exact ⟨u,r,.inl ⟨hk,by simp⟩⟩
      · rw [List.getElem?_set_ne (Ne.symm hj)] at e2
        obtain ⟨u',r',q⟩:=hl j y v' e1 e2 e3
        refine ⟨u',r',?_⟩
        rcases q with ⟨k,e⟩ | ⟨k,c,e,z⟩
        · refine .inl ⟨k,?_⟩
          have:y≠x:=fun e=>hj (ZfW hN e1 (e ▸ hi))
          simp [this,e]
        · exact .inr ⟨k,c,e,z.sameBut hs (cne y c e)⟩
    · obtain ⟨w',z⟩:=I.cell y c e
      exact ⟨w',z.sameBut hs (cne y c e)⟩
    · obtain ⟨e,n,ne,nf,d⟩:=I.pin p hp
      exact ⟨(hs.2 p.1 ne).trans e,n,ne,nf,d⟩
  · have hfn:X.fn x=true:=by
      rcases hf with z | z
      · exact z
      · rw [z] at hk; cases hk
    obtain ⟨c,hc⟩:=I.ok.has x (.inl hk)
    obtain ⟨w',z⟩:=I.cell x c hc
    refine wpAny_storeName_cell I.ok.kind hk hc z (fun h' hc' hs=>?_)
    obtain ⟨oc,hoc,hocd⟩:=id z
    refine h { s with heap:=h' } ⟨I.ok,I.os,I.bare,⟨fun b o e n hb hx=>?_,fun b o e n hb hx=>?_,I.base.free,fun b o e hx=>?_,I.base.tups,I.base.frzs,I.base.tbls⟩,⟨m,hn.sameBut hs (Ne.symm (cne x c hc)),fun j y v' e1 e2 e3=>?_⟩,fun y c' e=>?_,I.free,I.freeC,fun p hp=>?_,tracked ⟨oc,hoc,I.freeC x c hc⟩ hs,by simpa using I.len⟩ ⟨c,hs,.inr hc⟩
    · exact (hs.2 b (Nat.ne_of_lt (Nat.lt_of_lt_of_le (Heap.lt_size e) (I.ok.cab x c hfn hc)))).trans (I.base.keep b o e n hb hx)
    · obtain ⟨sl,e1⟩:=I.base.slot b o e n hb hx
      exact ⟨sl,(hs.2 b (Nat.ne_of_lt (Nat.lt_of_lt_of_le (Heap.lt_size e) (I.ok.cab x c hfn hc)))).trans e1⟩
    · obtain ⟨o',e1⟩:=I.base.there b o e hx
      exact ⟨o',(hs.2 b (Nat.ne_of_lt (Nat.lt_of_lt_of_le (Heap.lt_size e) (I.ok.cab x c hfn hc)))).trans e1⟩
    · by_cases hj:j=i
      · subst hj
        rw [hi] at e1; cases e1
        rw [List.getElem?_set_self hiσ] at e2
        cases e2
        exact ⟨u,r,.inr ⟨.inl hk,c,hc,hc'⟩⟩
      · rw [List.getElem?_set_ne (Ne.symm hj)] at e2
        obtain ⟨u',r',q⟩:=hl j y v' e1 e2 e3
        refine ⟨u',r',?_⟩
        rcases q with q | ⟨k,c',e,z'⟩
        · exact .inl q
        · refine .inr ⟨k,c',e,z'.sameBut hs ?_⟩
          rintro rfl
          exact hj (ZfW hN e1 (I.ok.inj _ _ _ e hc ▸ hi))
    · by_cases hcc:c' = c
      · subst hcc; exact ⟨_,hc'⟩
      · obtain ⟨w2,z2⟩:=I.cell y c' e
        exact ⟨w2,z2.sameBut hs hcc⟩
    · obtain ⟨e,n,ne,nf,d⟩:=I.pin p hp
      refine ⟨(hs.2 p.1 ?_).trans e,n,ne,nf,d⟩
      intro q
      rw [q,hoc] at e
      have q':oc=p.2:=Option.some.inj e
      exact d w' (by rw [← q']; exact hocd)
theorem ZfK {M:Model} {A:Around} {E:Value→Shared→Prop} {i:Nat} {x:Str} {v:V} {u:Value} {Q:Unit→Shared→Prop} (I:Inv X pins σ H s) (hN:X.N.Nodup) (hi:X.N[i]? = some x) (hx:Loc X.env.scope x) (r:RelV v u)
    (h:∀ s',Inv X pins (σ.set i (some v)) H s'→Q () s') (hf:X.fn x=true∨X.env.scope.names.lookup x=some .local:=by first | exact .inl rfl | exact .inr rfl | assumption):wpAny M A (storeName X.env x u) Q E s :=
  ZdO I hN hi hx r (fun s' I' _=>h s' I') hf
theorem Inv.call' {s':Shared} {ch:List Addr} (I:Inv X pins σ H s) (ho:s'.os=s.os) (u:Un (frs X.stack) ch H H' s.heap s'.heap) (hok:HOk X.prog X.w H' s'.heap) (hg:AllBare s'.gens)
    (hch:∀ b∈ch,(b∈X.ex∨X.s₀.heap.objs.size≤b)∧b≠X.env.locals∧(∀ x c,X.env.cells.lookup x=some c→c≠b)∧∀ p∈X.pn++pins,p.1≠b):Inv X pins σ H' s':=by
  obtain ⟨h',g',d',t',o'⟩:=s'
  have e:o' = s.os:=ho
  subst e
  exact I.call (g':=g') (t':=t') (d':=d') u hok hg hch
end
abbrev XK:=Value→Option Addr→Hp→Prop
abbrev St:=List (Option V)
abbrev VK:=V→Hp→Prop
abbrev TE:=St→Hp→VK→Prop
abbrev TT:=St→Hp→(Bool→Hp→Prop)→Prop
abbrev TA:=St→Hp→(List V→Hp→Prop)→Prop
structure Ends where
  nx:St→Hp→Prop
  rt:VK
  bk:St→Hp→Prop:=fun _ _=>False
  ct:St→Hp→Prop:=fun _ _=>False
abbrev TS:=Ends→St→Hp→Prop
def EP (X:Cx) (pins:List (Addr×Obj)) (σ:St) (Q:VK) (u:Value) (s':Shared):Prop:=∃ v H',Inv X pins σ H' s'∧RelV v u∧Q v H'
def TP (X:Cx) (pins:List (Addr×Obj)) (σ:St) (Q:Bool→Hp→Prop) (b:Bool) (s':Shared):Prop:=∃ H',Inv X pins σ H' s'∧Q b H'
def AP (X:Cx) (pins:List (Addr×Obj)) (σ:St) (Q:List V→Hp→Prop) (us:List Value) (s':Shared):Prop:=∃ vs H',Inv X pins σ H' s'∧Vals vs us∧Q vs H'
def SP (X:Cx) (pins:List (Addr×Obj)) (D:Ends) (f:Flow) (s':Shared):Prop :=
  match f with
  | .next=>∃ σ' H',Inv X pins σ' H' s'∧D.nx σ' H'
  | .brk=>∃ σ' H',Inv X pins σ' H' s'∧D.bk σ' H'
  | .cont=>∃ σ' H',Inv X pins σ' H' s'∧D.ct σ' H'
  | .ret u=>∃ v σ' H',Inv X pins σ' H' s'∧RelV v u∧D.rt v H'
def PE (X:Cx) (e:Expr) (t:TE):Prop :=
  ∀ (pins:List (Addr×Obj)) (s:Shared) (σ:St) (H:Hp) (Q:VK),Inv X pins σ H s→t σ H Q→wpAny (model X.prog X.w) X.A (eval e X.env) (EP X pins σ Q) X.xe s
def PT (X:Cx) (e:Expr) (t:TT):Prop :=
  ∀ (pins:List (Addr×Obj)) (s:Shared) (σ:St) (H:Hp) (Q:Bool→Hp→Prop),Inv X pins σ H s→t σ H Q→wpAny (model X.prog X.w) X.A (isTrue e X.env (eval e X.env)) (TP X pins σ Q) X.xe s
def PW (X:Cx) (e:Expr) (t:TT):Prop :=
  ∀ (whole:Sem Value) (pins:List (Addr×Obj)) (s:Shared) (σ:St) (H:Hp) (Q:Bool→Hp→Prop),Inv X pins σ H s→t σ H Q→wpAny (model X.prog X.w) X.A (isTrue e X.env whole) (TP X pins σ Q) X.xe s
theorem PW.pt {X:Cx} {e:Expr} {t:TT} (h:PW X e t):PT X e t:=h _
def PA (X:Cx) (es:List Expr) (t:TA):Prop :=
  ∀ (pos:Pos) (pins:List (Addr×Obj)) (s:Shared) (σ:St) (H:Hp) (Q:List V→Hp→Prop),Inv X pins σ H s→t σ H Q→wpAny (model X.prog X.w) X.A (spliced (backTo pos (starEach es X.env))) (AP X pins σ Q) X.xe s
def PS (X:Cx) (st:Stmt) (t:TS):Prop :=
  ∀ (pins:List (Addr×Obj)) (s:Shared) (σ:St) (H:Hp) (D:Ends),Inv X pins σ H s→t D σ H→wpAny (model X.prog X.w) X.A (exec st X.env) (SP X pins D) X.xe s
def PSs (X:Cx) (st:List Stmt) (t:TS):Prop :=
  ∀ (pins:List (Addr×Obj)) (s:Shared) (σ:St) (H:Hp) (D:Ends),Inv X pins σ H s→t D σ H→wpAny (model X.prog X.w) X.A (execs st X.env) (SP X pins D) X.xe s
theorem thn {α:Type} {t:Sem α} {Q Q':α→Shared→Prop} {M:Model} {A:Around} {E:Value→Shared→Prop} {s:Shared} (h:wpAny M A t Q E s) (hQ:∀ a s,Q a s→Q' a s):wpAny M A t Q' E s:=wpAny_mono h hQ fun _ _ x=>x
end L2
namespace L2
open PySem PySem.Spec PyProof.Rows
section
variable {X:Cx}
theorem bin {a b:Expr} {ta tb:TE} (ha:PE X a ta) (hb:PE X b tb) {pins:List (Addr×Obj)} {s:Shared} {σ:St} {H:Hp} {R:V→V→Hp→Prop} (I:Inv X pins σ H s) (h:ta σ H fun x H1=>tb σ H1 fun y H2=>R x y H2)
    {α:Type} {Q:α→Shared→Prop} {f:Value→Value→Sem α}
    (hf:∀ v u s2 x y H2,Inv X pins σ H2 s2→RelV x v→RelV y u→R x y H2→wpAny (model X.prog X.w) X.A (f v u) Q X.xe s2) :
    wpAny (model X.prog X.w) X.A (eval a X.env) (fun v s₁=>wpAny (model X.prog X.w) X.A (eval b X.env) (fun u s₂=>wpAny (model X.prog X.w) X.A (f v u) Q X.xe s₂) X.xe s₁) X.xe s:=by
  refine thn (ha pins s σ H _ I h) fun v s1 ⟨x,H1,I1,r1,q1⟩=>?_
  refine thn (hb pins s1 σ H1 _ I1 q1) fun u s2 ⟨y,H2,I2,r2,q2⟩=>?_
  exact hf v u s2 x y H2 I2 r1 r2 q2
def tVar (i:Nat):TE:=fun σ H Q=>∃ v,σ[i]? = some (some v)∧Q v H
def tC (v:V):TE:=fun _ H Q=>Q v H
theorem pe_var {i:Nat} {x:Str} {pos:Pos} (hN:X.N[i]? = some x) (hv:Vis X.env.scope x) (hd:(x == ("__debug__" : Str))=false:=by decide) (hcd:(x == ("__classdict__" : Str))=false:=by decide):PE X (.Name x pos) (tVar i):=by
  intro pins s σ H Q I h
  obtain ⟨v,e,h⟩:=h
  obtain ⟨m,hn,hl⟩:=I.loc
  obtain ⟨u,r,l⟩:=hl i x v hN e hv
  have fin:EP X pins σ Q u s:=⟨v,H,I,r,h⟩
  rcases l with ⟨hk,hm⟩ | ⟨hk,c,hc,hcell⟩
  · exact wpAny_Name (wpAny_loadName_local I.ok.kind hk hn hm fin) hd
  · rcases hk with hk | hk
    · exact wpAny_Name (wpAny_loadName_cell I.ok.kind hk hc hcell fin) hd
    · exact wpAny_Name (wpAny_loadName_free I.ok.kind hk hc hcell fin hcd) hd
theorem pe_int {i j pos}:PE X (.Constant (.int i) j pos) (tC (.int i)):=fun _ _ _ H _ I h=>wpAny_Constant_int ⟨.int i,H,I.tok _,⟨_,rfl⟩,h⟩
theorem pe_bl {b j pos}:PE X (.Constant (.bool b) j pos) (tC (.bl b)):=fun _ _ _ H _ I h=>Constant_bool ⟨.bl b,H,I,rfl,h⟩
theorem pe_non {j pos}:PE X (.Constant .none j pos) (tC .non):=fun _ _ _ H _ I h=>Constant_none ⟨.non,H,I,rfl,h⟩
theorem pe_str {x j pos}:PE X (.Constant (.str x) j pos) (tC (.str x)):=fun _ _ _ H _ I h=>Calls.Constant_str ⟨.str x,H,I.tok _,⟨_,rfl⟩,h⟩
def Gl (X:Cx) (x:Str):Prop:=X.env.kindOf x=some .globalImplicit
theorem Zm6 {E:Value→Shared→Prop} {pins:List (Addr×Obj)} {s:Shared} {σ:St} {H:Hp} {x:Str} {u:Value} {pos:Pos} {Q:Value→Shared→Prop} (I:Inv X pins σ H s) (hg:Gl X x) (hm:X.mg x=some u) (h:Q u s)
    (hd:(x == ("__debug__" : Str))=false:=by decide):wpAny (model X.prog X.w) X.A (eval (.Name x pos) X.env) Q E s :=
  Calls.Name_function_global I.ok.kind hg (Calls.loadGlobal_global (by rw [I.ok.glob]; exact I.mod.glob.keeps I.bk) hm h) hd
theorem ZaL {E:Value→Shared→Prop} {pins:List (Addr×Obj)} {s:Shared} {σ:St} {H:Hp} {x:Str} {u:Value} {pos:Pos} {Q:Value→Shared→Prop} (I:Inv X pins σ H s) (hg:Gl X x) (hm:X.mg x=none) (hv:bootBuiltins x=some u) (h:Q u s)
    (hn:x≠"__name__":=by decide) (hd:(x == ("__debug__" : Str))=false:=by decide):wpAny (model X.prog X.w) X.A (eval (.Name x pos) X.env) Q E s:=by
  obtain ⟨mb,h1,h2⟩:=I.mod.blt
  exact Calls.Name_function_global I.ok.kind hg (Calls.loadGlobal_builtin (by rw [I.ok.glob]; exact I.mod.glob.keeps I.bk) hm (by rw [I.ok.blt]; exact h1.keeps I.bk) ((h2 x hn).trans hv) h) hd
theorem ZmG {x:Str} {v:V} {u:Value} {pos:Pos} (hg:Gl X x) (hm:X.mg x=none) (hv:bootBuiltins x=some u) (r:RelV v u) (hn:x≠"__name__":=by decide) (hd:(x == ("__debug__" : Str))=false:=by decide):PE X (.Name x pos) (tC v) :=
  fun _ _ _ H _ I h=>ZaL I hg hm hv ⟨v,H,I,r,h⟩ hn hd
variable {a b:Expr} {ta tb:TE} {pos:Pos}
def PC (X:Cx) (op:CmpOp) (a b:Expr) (t:TE):Prop :=
  ∀ (pins:List (Addr×Obj)) (s:Shared) (σ:St) (H:Hp) (Q:VK),Inv X pins σ H s→t σ H Q →
    wpAny (model X.prog X.w) X.A (eval a X.env) (fun v s₁=>wpAny (model X.prog X.w) X.A (eval b X.env) (fun u s₂=>wpAny (model X.prog X.w) X.A (compareOp op v u) (EP X pins σ Q) X.xe s₂) X.xe s₁) X.xe s
variable {tA tB':TT} {rest:List Expr}
def tAnd (t u:TT):TT:=fun σ H Q=>t σ H fun c H1=>if c=true then u σ H1 Q else Q false H1
def tOr (t u:TT):TT:=fun σ H Q=>t σ H fun c H1=>if c=true then Q true H1 else u σ H1 Q
def tNot (t:TT):TT:=fun σ H Q=>t σ H fun c H1=>Q (!c) H1
theorem Zl9 (ha:PT X a tA):PW X (.BoolOp .And [a] pos) tA:=by
  intro wh pins s σ H Q I h
  refine isTrue_and (thn (ha pins s σ H Q I h) fun c s1 e=>?_)
  cases c with
  | true=>exact isTrue_and_nil e
  | false=>exact e
theorem pw_or1 (ha:PT X a tA):PW X (.BoolOp .Or [a] pos) tA:=by
  intro wh pins s σ H Q I h
  refine isTrue_or (thn (ha pins s σ H Q I h) fun c s1 e=>?_)
  cases c with
  | false=>exact isTrue_or_nil e
  | true=>exact e
theorem pw_and (ha:PT X a tA) (hb:PW X (.BoolOp .And (b :: rest) pos) tB'):PW X (.BoolOp .And (a :: b :: rest) pos) (tAnd tA tB'):=by
  intro wh pins s σ H Q I h
  refine isTrue_and (thn (ha pins s σ H _ I h) fun c s1 ⟨H1,I1,q1⟩=>?_)
  cases c with
  | true=>exact hb wh pins s1 σ H1 Q I1 q1
  | false=>exact ⟨H1,I1,q1⟩
theorem pw_or (ha:PT X a tA) (hb:PW X (.BoolOp .Or (b :: rest) pos) tB'):PW X (.BoolOp .Or (a :: b :: rest) pos) (tOr tA tB'):=by
  intro wh pins s σ H Q I h
  refine isTrue_or (thn (ha pins s σ H _ I h) fun c s1 ⟨H1,I1,q1⟩=>?_)
  cases c with
  | true=>exact ⟨H1,I1,q1⟩
  | false=>exact hb wh pins s1 σ H1 Q I1 q1
theorem pt_not (ha:PT X a tA):PT X (.UnaryOp .Not a pos) (tNot tA):=by
  intro pins s σ H Q I h
  exact isTrue_not (ha pins s σ H (fun c H1=>Q (!c) H1) I h)
def tAndV (ta tb:TE):TE:=fun σ H Q=>ta σ H fun x H1=>∃ c,x = .bl c∧if c=true then tb σ H1 Q else Q (.bl false) H1
def tOrV (ta tb:TE):TE:=fun σ H Q=>ta σ H fun x H1=>∃ c,x = .bl c∧if c=true then Q (.bl true) H1 else tb σ H1 Q
def tNotV (ta:TE):TE:=fun σ H Q=>ta σ H fun x H1=>∃ c,x = .bl c∧Q (.bl (!c)) H1
theorem pe_one {op} {t:TE} (h:PE X a t):PE X (.BoolOp op [a] pos) t:=fun pins s σ H Q I hw=>BoolOp_one (h pins s σ H Q I hw)
theorem pe_and (ha:PE X a ta) (hb:PE X (.BoolOp .And (b :: rest) pos) tb):PE X (.BoolOp .And (a :: b :: rest) pos) (tAndV ta tb):=by
  intro pins s σ H Q I h
  refine BoolOp_and (thn (ha pins s σ H _ I h) fun v s1 ⟨x,H1,I1,r1,q1⟩=>?_)
  obtain ⟨c,rfl,q1⟩:=q1
  cases r1
  refine wpAny_truthy_bool ?_
  cases c with
  | true=>exact hb pins s1 σ H1 Q I1 q1
  | false=>exact ⟨.bl false,H1,I1,rfl,q1⟩
theorem pe_or (ha:PE X a ta) (hb:PE X (.BoolOp .Or (b :: rest) pos) tb):PE X (.BoolOp .Or (a :: b :: rest) pos) (tOrV ta tb):=by
  intro pins s σ H Q I h
  refine BoolOp_or (thn (ha pins s σ H _ I h) fun v s1 ⟨x,H1,I1,r1,q1⟩=>?_)
  obtain ⟨c,rfl,q1⟩:=q1
  cases r1
  refine wpAny_truthy_bool ?_
  cases c with
  | false=>exact hb pins s1 σ H1 Q I1 q1
  | true=>exact ⟨.bl true,H1,I1,rfl,q1⟩
theorem pe_not (ha:PE X a ta):PE X (.UnaryOp .Not a pos) (tNotV ta):=by
  intro pins s σ H Q I h
  refine UnaryOp_ (thn (ha pins s σ H _ I h) fun v s1 ⟨x,H1,I1,r1,q1⟩=>?_)
  obtain ⟨c,rfl,q1⟩:=q1
  cases r1
  exact not_of (wpAny_truthy_bool ⟨.bl (!c),H1,I1,rfl,q1⟩)
end
end L2
namespace L2
open PySem PySem.Spec PyProof.Rows
def SqL (K:PySem.W.Frag) (H:Hp) (a:Addr) (xs:List V):Prop :=
  Rd H a (.lst xs) ∨
    ∃ (o:Obj) (its:Array Value) (n:Nat),K.lookup a=some o∧o.cls = .type "list"∧o.dict=none∧o.data = .seq its n∧its.size≤sizeLine∧Vals xs its.toList
def SqT (K:PySem.W.Frag) (H:Hp) (a:Addr) (xs:List V):Prop :=
  Rd H a (.tup xs) ∨
    ∃ (o:Obj) (its:Array Value) (n:Nat),K.lookup a=some o∧o.cls = .type "tuple"∧o.data = .seq its n∧its.size≤sizeLine∧Vals xs its.toList∧o.dict=none
def absV:Value→Option V
  | .none=>some .non
  | .bool b=>some (.bl b)
  | .int i _=>some (.int i)
  | .str x _=>some (.str x)
  | .bytes b _=>some (.byt b)
  | .float b _=>some (.flt b)
  | .ref a=>some (.ref a)
  | .type n=>some (.ty n)
  | _=>none
theorem RelV.abs {x:V} {u:Value} (r:RelV x u):absV u=some x:=by
  cases x with
  | non=>cases r; rfl
  | bl _=>cases r; rfl
  | int _=>obtain ⟨t,rfl⟩:=r; rfl
  | str _=>obtain ⟨t,rfl⟩:=r; rfl
  | byt _=>obtain ⟨t,rfl⟩:=r; rfl
  | flt _=>obtain ⟨t,rfl⟩:=r; rfl
  | ref _=>cases r; rfl
  | ty _=>cases r; rfl
theorem RelV.inj {x y:V} {u:Value} (r:RelV x u) (q:RelV y u):x=y:=Option.some.inj (r.abs.symm.trans q.abs)
theorem Vals.inj:∀ {xs ys:List V} {us:List Value},Vals xs us→Vals ys us→xs=ys
  | _,_,_,.nil,.nil=>rfl
  | _,_,_,.cons r t,.cons r' t'=>by rw [r.inj r',Vals.inj t t']
section
variable {X:Cx} {pins:List (Addr×Obj)} {σ:St} {H:Hp} {s:Shared} {a:Addr} {xs ys:List V}
theorem SqL.of {K:PySem.W.Frag} (h:H a=some (.lst xs)):SqL K H a xs:=.inl (.inl h)
theorem SqT.of {K:PySem.W.Frag} (h:H a=some (.tup xs)):SqT K H a xs:=.inl (.inl h)
theorem Inv.list (I:Inv X pins σ H s) (h:SqL X.K H a xs):∃ its:List Value,Vals xs its∧PlainL s.heap a its.toArray∧xs.length≤sizeLine:=by
  rcases h with h | ⟨o,its,n,hk,hc,hd,hs,hz,r⟩
  · obtain ⟨z,its,n,r,e⟩:=h.ok I.hok
    exact ⟨its,r,⟨_,n,e,rfl,rfl,rfl⟩,z⟩
  · refine ⟨its.toList,r,⟨o,n,I.kIn a o hk,hc,hd,by simpa using hs⟩,?_⟩
    have e:=r.length
    simp only [Array.length_toList] at e
    omega
theorem Inv.tuple (I:Inv X pins σ H s) (h:SqT X.K H a xs):∃ its:List Value,Vals xs its∧IsTup s.heap a its.toArray∧xs.length≤sizeLine:=by
  rcases h with h | ⟨o,its,n,hk,hc,hs,hz,r,hdn⟩
  · obtain ⟨z,its,r,p⟩:=h.ok I.hok
    exact ⟨its,r,p.is,z⟩
  · refine ⟨its.toList,r,⟨o,I.kIn a o hk,hc,n,by simpa using hs⟩,?_⟩
    have e:=r.length
    simp only [Array.length_toList] at e
    omega
theorem Inv.list_inj (I:Inv X pins σ H s) (h:SqL X.K H a xs) (h':SqL X.K H a ys):xs=ys:=by
  obtain ⟨its,r,⟨o,n,e,_,_,d⟩,_⟩:=I.list h
  obtain ⟨its',r',⟨o',n',e',_,_,d'⟩,_⟩:=I.list h'
  rw [e] at e'; cases e'
  rw [d] at d'
  injection d' with d1 _
  have:its=its':=by simpa using congrArg Array.toList d1
  subst this
  exact r.inj r'
theorem Inv.tuple_inj (I:Inv X pins σ H s) (h:SqT X.K H a xs) (h':SqT X.K H a ys):xs=ys:=by
  obtain ⟨its,r,⟨o,e,_,n,d⟩,_⟩:=I.tuple h
  obtain ⟨its',r',⟨o',e',_,n',d'⟩,_⟩:=I.tuple h'
  rw [e] at e'; cases e'
  rw [d] at d'
  injection d' with d1 _
  have:its=its':=by simpa using congrArg Array.toList d1
  subst this
  exact r.inj r'
end
abbrev Cx.wish (X:Cx) (E:Value→Shared→Prop):Cx:={ X with xe:=E }
abbrev Cx.nox (X:Cx):Cx:=X.wish fun _ _=>False
theorem Cx.Ok.wish {X:Cx} (ok:X.Ok) (E:Value→Shared→Prop):(X.wish E).Ok :=
  ⟨ok.mod,ok.kind,ok.glob,ok.blt,ok.above,ok.inj,ok.has,ok.cab,ok.hd,ok.frames,ok.stk,ok.exf,ok.bs,ok.bsz,ok.noex,ok.exfs,ok.funs,ok.frf⟩
theorem Cx.Ok.unwish {X:Cx} {E:Value→Shared→Prop} (ok:(X.wish E).Ok):X.Ok :=
  ⟨ok.mod,ok.kind,ok.glob,ok.blt,ok.above,ok.inj,ok.has,ok.cab,ok.hd,ok.frames,ok.stk,ok.exf,ok.bs,ok.bsz,ok.noex,ok.exfs,ok.funs,ok.frf⟩
section
variable {X:Cx} {pins:List (Addr×Obj)} {σ:St} {H:Hp} {s:Shared} {E:Value→Shared→Prop}
theorem Inv.wish (I:Inv X pins σ H s) (E:Value→Shared→Prop):Inv (X.wish E) pins σ H s:=⟨I.ok.wish E,I.os,I.bare,I.base,I.loc,I.cell,I.free,I.freeC,I.pin,I.hok,I.len⟩
theorem Inv.unwish (I:Inv (X.wish E) pins σ H s):Inv X pins σ H s:=⟨I.ok.unwish,I.os,I.bare,I.base,I.loc,I.cell,I.free,I.freeC,I.pin,I.hok,I.len⟩
theorem SP.unwish {D:Ends} {f:Flow} {s':Shared} (h:SP (X.wish E) pins D f s'):SP X pins D f s':=by
  cases f with
  | next=>obtain ⟨σ',H',I,q⟩:=h; exact ⟨σ',H',I.unwish,q⟩
  | brk=>obtain ⟨σ',H',I,q⟩:=h; exact ⟨σ',H',I.unwish,q⟩
  | cont=>obtain ⟨σ',H',I,q⟩:=h; exact ⟨σ',H',I.unwish,q⟩
  | ret u=>obtain ⟨v,σ',H',I,r,q⟩:=h; exact ⟨v,σ',H',I.unwish,r,q⟩
theorem PSs.nox {st:List Stmt} {t:TS} (h:PSs X.nox st t):PSs X st t:=fun pins s σ H D I hw =>
  wpAny_mono (h pins s σ H D (I.wish _) hw) (fun _ _ q=>q.unwish) fun _ _ z=>False.elim z
end
section
variable {X:Cx} {st:Stmt} {rest:List Stmt} {t u:TS} {e:Expr} {te:TE} {pos:Pos}
def tNext:TS:=fun D σ H=>D.nx σ H
def tSeq (t u:TS):TS:=fun D σ H=>t { D with nx:=u D } σ H
theorem Zme:PSs X [] tNext:=fun _ _ σ H _ I h=>wpAny_execs_nil ⟨σ,H,I,h⟩
theorem JZ (h1:PS X st t) (h2:PSs X rest u):PSs X (st :: rest) (tSeq t u):=by
  intro pins s σ H D I h
  refine wpAny_execs_cons (thn (h1 pins s σ H { D with nx:=u D } I h) fun f s1 q=>?_)
  cases f with
  | next =>
    obtain ⟨σ',H',I',q⟩:=q
    exact h2 pins s1 σ' H' D I' q
  | ret v=>exact q
  | brk=>exact q
  | cont=>exact q
theorem Inv.quiet {pins:List (Addr×Obj)} {σ:St} {H:Hp} {s:Shared} (I:Inv X pins σ H s):interactive X.env=false:=by simp [interactive,I.ok.kind]
def tDrop (te:TE):TS:=fun D σ H=>te σ H fun _ H1=>D.nx σ H1
theorem Zmh (he:PE X e te) (hs:swapsWith e none pos.line X.env=pure false:=by rfl):PS X (.Expr e pos) (tDrop te):=by
  intro pins s σ H D I h
  exact wpAny_Expr_any (thn (he pins s σ H _ I h) fun v s1 ⟨x,H1,I1,r1,q1⟩=>⟨σ,H1,I1,q1⟩) I.quiet hs
def tRet (te:TE):TS:=fun D σ H=>te σ H D.rt
theorem ps_ret (he:PE X e te):PS X (.Return (some e) pos) (tRet te):=by
  intro pins s σ H D I h
  exact wpAny_Return_some (thn (he pins s σ H _ I h) fun v s1 ⟨x,H1,I1,r1,q1⟩=>⟨x,σ,H1,I1,r1,q1⟩)
def tIfS (c:TT) (t u:TS):TS:=fun D σ H=>c σ H fun b H1=>if b=true then t D σ H1 else u D σ H1
theorem ps_if {c:Expr} {a b:List Stmt} {tc:TT} (hc:PT X c tc) (ha:PSs X a t) (hb:PSs X b u):PS X (.If c a b pos) (tIfS tc t u):=by
  intro pins s σ H D I h
  refine wpAny_If (thn (hc pins s σ H _ I h) fun d s1 ⟨H1,I1,q1⟩=>?_)
  cases d with
  | true=>exact ha pins s1 σ H1 D I1 q1
  | false=>exact hb pins s1 σ H1 D I1 q1
def tNever:TS:=fun _ _ _=>False
theorem ZhO {sts:List Stmt}:PSs X sts tNever:=fun _ _ _ _ _ _ h=>h.elim
end
abbrev TG:=V→St→Hp→(St→Hp→Prop)→Prop
abbrev TGs:=List V→St→Hp→(St→Hp→Prop)→Prop
def PG (X:Cx) (target:Expr) (t:TG):Prop :=
  ∀ (pins:List (Addr×Obj)) (s:Shared) (σ:St) (H:Hp) (v:V) (u:Value) (Q:St→Hp→Prop),Inv X pins σ H s→RelV v u→t v σ H Q →
    wpAny (model X.prog X.w) X.A (assign target X.env u) (fun _ s'=>∃ σ' H',Inv X pins σ' H' s'∧Q σ' H') X.xe s
def PGs (X:Cx) (ts:List Expr) (t:TGs):Prop :=
  ∀ (pins:List (Addr×Obj)) (s:Shared) (σ:St) (H:Hp) (vs:List V) (us:List Value) (Q:St→Hp→Prop),Inv X pins σ H s→Vals vs us→t vs σ H Q →
    wpAny (model X.prog X.w) X.A (assignInOrder ((assignEach ts X.env).map (·.2)) us) (fun _ s'=>∃ σ' H',Inv X pins σ' H' s'∧Q σ' H') X.xe s
abbrev TSet:=V→V→V→Hp→(Hp→Prop)→Prop
def PSet (X:Cx) (t:TSet):Prop :=
  ∀ (pins:List (Addr×Obj)) (s:Shared) (σ:St) (H:Hp) (o i v:V) (ov iv u:Value) (Q:Hp→Prop),Inv X pins σ H s→RelV o ov→RelV i iv→RelV v u→t o i v H Q →
    wpAny (model X.prog X.w) X.A (setItem ov iv u) (fun _ s'=>∃ H',Inv X pins σ H' s'∧Q H') X.xe s
section
variable {X:Cx} {pos:Pos}
def Znf (i:Nat):TG:=fun v σ H Q=>Q (σ.set i (some v)) H
theorem Zam {i:Nat} {x:Str} (hN:X.N.Nodup) (hi:X.N[i]? = some x) (hx:Loc X.env.scope x) (hf:X.fn x=true∨X.env.scope.names.lookup x=some .local:=by first | exact .inl rfl | exact .inr rfl | assumption):PG X (.Name x pos) (Znf i):=by
  intro pins s σ H v u Q I r h
  exact wpAny_assign_Name (ZfK I hN hi hx r (fun s' I'=>⟨_,H,I',h⟩) hf)
def gNil:TGs:=fun vs σ H Q=>vs=[]∧Q σ H
def gCons (t:TG) (u:TGs):TGs:=fun vs σ H Q=>∃ v r,vs=v :: r∧t v σ H fun σ' H'=>u r σ' H' Q
theorem ZhU:PGs X [] gNil:=by
  intro pins s σ H vs us Q I r h
  obtain ⟨e,h⟩:=h
  subst e
  cases r
  exact assignInOrder_nil ⟨σ,H,I,h⟩
theorem X6 {e:Expr} {es:List Expr} {t:TG} {u:TGs} (h1:PG X e t) (h2:PGs X es u)
    (hs:(assignEach (e :: es) X.env).map (·.2)=assign e X.env :: (assignEach es X.env).map (·.2):=by rfl):PGs X (e :: es) (gCons t u):=by
  intro pins s σ H vs us Q I r h
  obtain ⟨v,vr,e1,h⟩:=h
  subst e1
  cases r with
  | cons r rr =>
    rw [hs]
    refine assignInOrder_cons (thn (h1 pins s σ H _ _ _ I r h) fun _ s1 ⟨σ1,H1,I1,q1⟩=>?_)
    exact h2 pins s1 σ1 H1 _ _ Q I1 rr q1
def gTup (K:PySem.W.Frag) (n:Nat) (t:TGs):TG:=fun v σ H Q=>∃ a xs,v = .ref a∧SqT K H a xs∧xs.length=n∧t xs σ H Q
theorem ZlB {es:List Expr} {k:Nat} {t:TGs} {n:Nat} (hc:X.calm=true) (h:PGs X es t)
    (hn:(assignEach es X.env).length=n:=by rfl) (hst:(assignEach es X.env).findIdx? (·.1)=none:=by rfl):PG X (.Tuple es k pos) (gTup X.K n t):=by
  intro pins s σ H v u Q I r hw
  obtain ⟨a,xs,e1,hq,hl,hw⟩:=hw
  subst e1
  cases r
  obtain ⟨its,rv,ht,hz⟩:=I.tuple hq
  refine assign_Tuple_tuple (I.ok.hd hc) ht (by simp [hn,← hl,rv.length]) hst fun h' hx=>?_
  have I1:Inv X pins σ H { s with heap:=h' }:=I.kept (t':=s.toks) fun b o e=>hx b o (Nat.ne_of_lt (Heap.lt_size e)) e
  exact h pins _ σ H xs _ Q I1 (by simpa using rv) hw
def gSub (to ti:TE) (t:TSet):TG:=fun v σ H Q=>to σ H fun o H1=>ti σ H1 fun i H2=>t o i v H2 fun H3=>Q σ H3
theorem pg_sub {o i:Expr} {to ti:TE} {t:TSet} (ho:PE X o to) (hi:PE X i ti) (hs:PSet X t)
    (ha:∀ v,assign (.Subscript o i pos) X.env v=(do
      let ov ← holding [v] (eval o X.env)
      let iv ← holding [v,ov] (eval i X.env)
      standAt pos
      holding [v,ov,iv] (setItem ov iv v)
      release [v,ov,iv] []):=by intro _; rfl):PG X (.Subscript o i pos) (gSub to ti t):=by
  intro pins s σ H v u Q I r h
  rw [ha]
  refine wpAny_bind (wpAny_holding (thn (ho pins s σ H _ I h) fun ov s1 ⟨x,H1,I1,r1,q1⟩=>?_))
  refine wpAny_bind (wpAny_holding (thn (hi pins s1 σ H1 _ I1 q1) fun iv s2 ⟨y,H2,I2,r2,q2⟩=>?_))
  refine wpAny_bind (wpAny_standAt (wpAny_bind (wpAny_holding (thn (hs pins s2 σ H2 x y v ov iv u _ I2 r1 r2 r q2) fun _ s3 ⟨H3,I3,q3⟩=>?_))))
  exact wpAny_release ⟨σ,H3,I3,q3⟩
def tAsg (te:TE) (g:TG):TS:=fun D σ H=>te σ H fun x H1=>g x σ H1 D.nx
theorem ZlA {tg e:Expr} {te:TE} {g:TG} (he:PE X e te) (hg:PG X tg g) (hs:swapsWithSole [tg] e pos.line X.env=pure false:=by rfl) (hw:swappedStores [tg] e X.env=pure none:=by rfl)
    (h1:(assignEach [tg] X.env).map (·.2)=[assign tg X.env]:=by rfl):PS X (.Assign [tg] e pos) (tAsg te g):=by
  intro pins s σ H D I h
  refine wpAny_Assign_stores (thn (he pins s σ H _ I h) fun v s1 ⟨x,H1,I1,r1,q1⟩=>?_) hs hw
  rw [h1]
  exact thn (hg pins s1 σ H1 x v _ I1 r1 q1) fun _ s2 q=>q
theorem ps_set {i:Nat} {x:Str} {e:Expr} {te:TE} {pos':Pos} (hN:X.N.Nodup) (hi:X.N[i]? = some x) (hx:Loc X.env.scope x) (he:PE X e te) (hs:swapsWith e (some (.Name x pos')) pos.line X.env=pure false:=by rfl) (hf:X.fn x=true∨X.env.scope.names.lookup x=some .local:=by first | exact .inl rfl | exact .inr rfl | assumption) :
    PS X (.Assign [.Name x pos'] e pos) (tAsg te (Znf i)):=by
  intro pins s σ H D I h
  refine wpAny_Assign_Name (thn (he pins s σ H _ I h) fun v s1 ⟨y,H1,I1,r1,q1⟩=>?_) hs
  exact ZfK I1 hN hi hx r1 (fun s2 I2=>⟨_,H1,I2,q1⟩) hf
end
section
variable {X:Cx} {pos:Pos}
end
structure It where
  go:Nat→Hp→Prop
  yld:Nat→Hp→V→Hp→Prop
  stop:Nat→Hp→Prop
def FpOk (X:Cx) (pins:List (Addr×Obj)) (H:Hp) (b:Addr):Prop :=
  H b=none∧b≠X.env.locals∧b ∉ X.fs∧(b∈X.ex∨X.s₀.heap.objs.size≤b)∧(∀ x c,X.env.cells.lookup x=some c→c≠b)∧∀ p∈X.pn++pins,p.1≠b
theorem Inv.fpOk {X:Cx} {pins:List (Addr×Obj)} {σ:St} {H H':Hp} {s:Shared} {b:Addr} (I:Inv X pins σ H s) (hb:s.heap.objs.size≤b) (hn:H' b=none):FpOk X pins H' b:=by
  refine ⟨hn,Nat.ne_of_gt (Nat.lt_of_lt_of_le I.lt hb),I.nofs hb,.inr (Nat.le_trans I.sz hb),fun x c e z=>?_,fun p hp z=>?_⟩
  · obtain ⟨v,q⟩:=I.cell x c e
    exact absurd (Nat.lt_of_lt_of_le q.lt (by rw [z]; exact hb)) (Nat.lt_irrefl _)
  · exact absurd (Nat.lt_of_lt_of_le (Heap.lt_size (I.pin p hp).1) (by rw [z]; exact hb)) (Nat.lt_irrefl _)
structure Turn (P:Program) (w:World) (K:PySem.W.Frag) (tg:Expr) (J:It) (fp:List Addr) (it:Addr) (tn:Nat→Heap→Prop):Prop where
  mem:it∈fp
  obj:∀ i h,tn i h→∀ b∈fp,∃ o,h.get? b=some o∧∀ v,o.data≠.cell v
  keep:∀ i h h',tn i h→(∀ b∈fp,∀ o,h.get? b=some o→h'.get? b=some o)→tn i h'
  item:∀ (X:Cx),X.prog=P→X.w=w→X.K=K→X.calm=true→∀ (i:Nat) (pins:List (Addr×Obj)) (s:Shared) (σ:St) (H:Hp) (E:Value→Shared→Prop),Inv X pins σ H s→(∀ b∈fp,FpOk X pins H b)→tn i s.heap→J.go i H →
    wpAny (model P w) X.A (pyNext (.ref it)) (fun r s1=>∃ u,r=some u ∧
      wpAny (model P w) X.A (letOwnedTupleGo tg (.ref it) u) (fun _ s2=>∃ x H',Inv X pins σ H' s2∧RelV x u∧J.yld i H x H'∧tn (i + 1) s2.heap∧∀ b∈fp,H' b=none) E s1) E s
  done:∀ (X:Cx),X.prog=P→X.w=w→X.K=K→X.calm=true→∀ (i:Nat) (pins:List (Addr×Obj)) (s:Shared) (σ:St) (H:Hp) (E:Value→Shared→Prop),Inv X pins σ H s→(∀ b∈fp,FpOk X pins H b)→tn i s.heap→J.stop i H →
    wpAny (model P w) X.A (pyNext (.ref it)) (fun r s1=>r=none∧Inv X pins σ H s1) E s
  self:∀ (A:Around) (i:Nat) (s:Shared) (Q:Value→Shared→Prop) (E:Value→Shared→Prop),tn i s.heap→Q (.ref it) s→wpAny (model P w) A (pyIter (.ref it)) Q E s
abbrev TI:=St→Hp→(It→Hp→Prop)→Prop
def PIE (X:Cx) (pins:List (Addr×Obj)) (σ:St) (tg:Expr) (R:It→Hp→Prop) (itv:Value) (s2:Shared):Prop :=
  ∃ (it:Addr) (fp:List Addr) (tn:Nat→Heap→Prop) (J:It) (H':Hp),itv = .ref it∧Inv X pins σ H' s2∧Turn X.prog X.w X.K tg J fp it tn∧tn 0 s2.heap∧(∀ b∈fp,FpOk X pins H' b)∧R J H'
def PI (X:Cx) (tg iter:Expr) (wi:TI):Prop :=
  ∀ (pins:List (Addr×Obj)) (s:Shared) (σ:St) (H:Hp) (R:It→Hp→Prop),Inv X pins σ H s→wi σ H R →
    wpAny (model X.prog X.w) X.A (eval iter X.env) (fun v s1=>wpAny (model X.prog X.w) X.A (pyIter v) (PIE X pins σ tg R) X.xe s1) X.xe s
theorem ZkX {M:Model} {A:Around} {E:Value→Shared→Prop} {s:Shared} {tg:Expr} {it:Addr} {u:Value} {o:Obj} {n:String} {vs:Array Value} {Q:Unit→Shared→Prop} (ho:s.heap.get? it=some o) (hc:o.cls = .type n) (hd:o.data = .fields vs)
    (hn:["enumerate","zip","dict_itemiterator","dict_reverseitemiterator","odict_iterator","itertools.zip_longest","itertools.pairwise"].contains n=false) (hQ:Q () s):wpAny M A (letOwnedTupleGo tg (.ref it) u) Q E s:=by
  unfold letOwnedTupleGo
  cases tg <;> first
    | exact wpAny_pure hQ
    | (cases u <;> first
        | exact wpAny_pure hQ
        | (refine wpAny_bind (wpAny_load ho ?_)
           rw [hc,hd]
           show wpAny M A (if (["enumerate","zip","dict_itemiterator","dict_reverseitemiterator","odict_iterator","itertools.zip_longest","itertools.pairwise"].contains n && vs[0]? == some (rawInt _))=true then _ else _) Q E s
           rw [if_neg (by intro h; rw [hn,Bool.false_and] at h; cases h)]
           exact wpAny_pure hQ))
def Itl (K:PySem.W.Frag) (a:Addr):It :=
  ⟨fun i H=>∃ xs x,SqL K H a xs∧xs[i]? = some x,fun i H x H'=>H' = H∧∀ xs,SqL K H a xs→xs[i]? = some x,fun i H=>∃ xs,SqL K H a xs∧xs.length≤i⟩
def Itt (K:PySem.W.Frag) (a:Addr):It :=
  ⟨fun i H=>∃ xs x,SqT K H a xs∧xs[i]? = some x,fun i H x H'=>H' = H∧∀ xs,SqT K H a xs→xs[i]? = some x,fun i H=>∃ xs,SqT K H a xs∧xs.length≤i⟩
def Itr (lo:Int) (n:Nat):It:=⟨fun i _=>i < n,fun i H x H'=>H' = H∧x = .int (lo + i),fun i _=>n≤i⟩
theorem Zhx {P:Program} {w:World} {K:PySem.W.Frag} {tg:Expr} (a it:Addr):Turn P w K tg (Itl K a) [it] it (fun i h=>h.IsListIter it a i) where
  mem:=by simp
  obj:=fun i h st b hb=>by
    have e:b=it:=by simpa using hb
    subst e
    obtain ⟨o,e,c,d⟩:=st
    exact ⟨o,e,fun v z=>by rw [d] at z; cases z⟩
  keep:=fun i h h' st k=>st.at fun o e=>k it (by simp) o e
  item:=by
    intro X hP hw hK hc i pins s σ H E I hf st hg
    subst hP hw hK
    obtain ⟨xs,x,hq,hx⟩:=hg
    obtain ⟨its,rv,p,hz⟩:=I.list hq
    obtain ⟨u,hu,ru⟩:=rv.get hx
    obtain ⟨f0,f1,f2,f3,f4,f5⟩:=hf it (by simp)
    refine wpAny_pyNext_list_item st p.isList (x:=u) (by simpa using hu) fun h' st' sb=>?_
    have I1:Inv X pins σ H { s with heap:=h' }:=I.turned (t':=s.toks) (fun b o hb e=>(sb.2 b hb).trans e) f0 f1 f3 f4 f5
    obtain ⟨o,e,c,d⟩:=id st'
    exact ⟨u,rfl,ZkX (s:={ s with heap:=h' }) e c d (by decide) ⟨x,H,I1,ru,⟨rfl,fun ys hy=>by rw [I.list_inj hy hq]; exact hx⟩,st',fun b hb=>(hf b hb).1⟩⟩
  done:=by
    intro X hP hw hK hc i pins s σ H E I hf st hg
    subst hP hw hK
    obtain ⟨xs,hq,hx⟩:=hg
    obtain ⟨its,rv,p,hz⟩:=I.list hq
    obtain ⟨f0,f1,f2,f3,f4,f5⟩:=hf it (by simp)
    have hl:=rv.length
    exact wpAny_pyNext_list_end (I.ok.hd hc) st p.isList (by simp; omega) fun h' eb=>⟨rfl,I.turned (t':=s.toks) (fun b o hb e=>eb b o hb e) f0 f1 f3 f4 f5⟩
  self:=fun _ _ _ _ _ st h=>wpAny_pyIter_listiter st h
theorem Zgh {P:Program} {w:World} {K:PySem.W.Frag} {tg:Expr} (a it:Addr):Turn P w K tg (Itt K a) [it] it (fun i h=>h.IsTupleIter it a i) where
  mem:=by simp
  obj:=fun i h st b hb=>by
    have e:b=it:=by simpa using hb
    subst e
    obtain ⟨o,e,c,d⟩:=st
    exact ⟨o,e,fun v z=>by rw [d] at z; cases z⟩
  keep:=fun i h h' st k=>st.at fun o e=>k it (by simp) o e
  item:=by
    intro X hP hw hK hc i pins s σ H E I hf st hg
    subst hP hw hK
    obtain ⟨xs,x,hq,hx⟩:=hg
    obtain ⟨its,rv,p,hz⟩:=I.tuple hq
    obtain ⟨u,hu,ru⟩:=rv.get hx
    obtain ⟨f0,f1,f2,f3,f4,f5⟩:=hf it (by simp)
    refine wpAny_pyNext_tuple_item st (show s.heap.IsTuple a its.toArray from p) (x:=u) (by simpa using hu) fun h' st' sb=>?_
    have I1:Inv X pins σ H { s with heap:=h' }:=I.turned (t':=s.toks) (fun b o hb e=>(sb.2 b hb).trans e) f0 f1 f3 f4 f5
    obtain ⟨o,e,c,d⟩:=id st'
    exact ⟨u,rfl,ZkX (s:={ s with heap:=h' }) e c d (by decide) ⟨x,H,I1,ru,⟨rfl,fun ys hy=>by rw [I.tuple_inj hy hq]; exact hx⟩,st',fun b hb=>(hf b hb).1⟩⟩
  done:=by
    intro X hP hw hK hc i pins s σ H E I hf st hg
    subst hP hw hK
    obtain ⟨xs,hq,hx⟩:=hg
    obtain ⟨its,rv,p,hz⟩:=I.tuple hq
    obtain ⟨f0,f1,f2,f3,f4,f5⟩:=hf it (by simp)
    have hl:=rv.length
    exact wpAny_pyNext_tuple_end (I.ok.hd hc) st (show s.heap.IsTuple a its.toArray from p) (by simp; omega) fun h' eb=>⟨rfl,I.turned (t':=s.toks) (fun b o hb e=>eb b o hb e) f0 f1 f3 f4 f5⟩
  self:=fun _ _ _ _ _ st h=>wpAny_pyIter_tupleiter st h
theorem Zgi {P:Program} {w:World} {K:PySem.W.Frag} {tg:Expr} (it:Addr) (lo:Int) (n:Nat):Turn P w K tg (Itr lo n) [it] it (fun i h=>IsRangeIter h it (lo + (i:Nat) * 1) ((n:Int) - (i:Nat)) 1) where
  mem:=by simp
  obj:=fun i h st b hb=>by
    have e:b=it:=by simpa using hb
    subst e
    exact ⟨_,st,fun v z=>by
      have z':Data.fields _=Data.cell v:=z
      cases z'⟩
  keep:=fun i h h' st k=>k it (by simp) _ st
  item:=by
    intro X hP hw hK hc i pins s σ H E I hf st hg
    subst hP hw hK
    obtain ⟨f0,f1,f2,f3,f4,f5⟩:=hf it (by simp)
    have W:=Walks.range (prog:=X.prog) (w:=X.w) (I.ok.hd hc) it lo 1 n
    refine W.item i s _ _ hg st fun v h' tk hv st' kk=>?_
    obtain ⟨t,rfl⟩:=hv
    have I1:Inv X pins σ H { s with heap:=h',toks:=tk }:=I.turned (fun b o hb e=>kk b o (by simpa using hb) e) f0 f1 f3 f4 f5
    refine ⟨_,rfl,ZkX (s:={ s with heap:=h',toks:=tk }) (n:="range_iterator") st' rfl rfl (by decide) ⟨.int (lo + i),H,I1,⟨t,?_⟩,⟨rfl,rfl⟩,st',fun b hb=>(hf b hb).1⟩⟩
    rw [Int.mul_one]
  done:=by
    intro X hP hw hK hc i pins s σ H E I hf st hg
    subst hP hw hK
    obtain ⟨f0,f1,f2,f3,f4,f5⟩:=hf it (by simp)
    exact wpAny_pyNext_range_end (I.ok.hd hc) st (by have:n≤i:=hg; omega) fun h' eb=>⟨rfl,I.turned (t':=s.toks) (fun b o hb e=>eb b o hb e) f0 f1 f3 f4 f5⟩
  self:=fun _ _ _ _ _ st h=>wpAny_pyIter_rangeiter st h
end L2
namespace L2
open PySem PySem.Spec PyProof.Rows
section
variable {X:Cx} {tg:Expr}
theorem ZjR {pins:List (Addr×Obj)} {σ:St} {H:Hp} {s:Shared} {R:It→Hp→Prop} {E:Value→Shared→Prop} {lo hi:Int} {t u v:Tok} {tk:Nat} (I:Inv X pins σ H s) (h1:-(2 ^ 62)≤lo) (h2:lo < 2 ^ 62) (h3:-(2 ^ 62)≤hi) (h4:hi < 2 ^ 62)
    (q:R (Itr lo (hi - lo).toNat) H):wpAny (model X.prog X.w) X.A (pyIter (.ref s.heap.objs.size)) (PIE X pins σ tg R) E { s with heap:=s.heap.push { cls:=.type "range",data:=.fields #[.int lo t,.int hi u,.int 1 v] },toks:=tk }:=by
  refine wpAny_pyIter_range (IsRange.new ..) (small_one h1 h2 h3 h4) ?_
  have I1:Inv X pins σ H { s with heap:=s.heap.push { cls:=.type "range",data:=.fields #[.int lo t,.int hi u,.int 1 v] },toks:=tk }:=I.kept fun b o e=>Heap.get?_push_of_some _ e
  refine ⟨(s.heap.push { cls:=.type "range",data:=.fields #[.int lo t,.int hi u,.int 1 v] }).objs.size,[(s.heap.push { cls:=.type "range",data:=.fields #[.int lo t,.int hi u,.int 1 v] }).objs.size],_,_,H,rfl,
    I1.kept (t':=tk) fun b o e=>Heap.get?_push_of_some _ e,Zgi _ lo (hi - lo).toNat,?_,fun b hb=>?_,q⟩
  · have e1:lo + ((0:Nat):Int) * 1=lo:=by simp
    have e2:(((hi - lo).toNat:Nat):Int) - ((0:Nat):Int)=Builtin.Range.rangeSize lo hi 1:=by rw [rangeSize_one]; split <;> omega
    show IsRangeIter _ _ (lo + ((0:Nat):Int) * 1) ((((hi - lo).toNat:Nat):Int) - ((0:Nat):Int)) 1
    rw [e1,e2]
    exact Heap.get?_push_size _ rfl
  · have e:b=(s.heap.push { cls:=.type "range",data:=.fields #[.int lo t,.int hi u,.int 1 v] }).objs.size:=by simpa using hb
    subst e
    exact I1.fpOk (Nat.le_refl _) (I1.hok.fresh (Nat.le_refl _))
def iRng1 (ta:TA):TI:=fun σ H R=>ta σ H fun vs H1=>∃ j:Int,vs=[.int j]∧-(2 ^ 62)≤j∧j < 2 ^ 62∧R (Itr 0 j.toNat) H1
theorem ZhT {a:Expr} {ta:TA} {p pos:Pos} (hg:Gl X "range") (hm:X.mg "range" = none) (ha:PA X [a] ta) (hs:starEach [a] X.env=[(false,eval a X.env)]:=by rfl):PI X tg (.Call (.Name "range" p) [a] [] pos) (iRng1 ta):=by
  intro pins s σ H R I h
  refine Call_ (ZaL I hg hm boot_range (PyProof.Rows.callWith_type1 (thn (ha pos pins s σ H _ I h) fun us s1 ⟨vs,H1,I1,r1,q1⟩=>?_) hs rfl))
  obtain ⟨j,e,q1,q2,q⟩:=q1
  subst e
  cases r1 with
  | cons r rr =>
    cases rr
    obtain ⟨t,rfl⟩:=r
    exact call_range_1 (ZjR I1 (by omega) (by omega) q1 q2 (by simpa using q))
def tFor (wi:TI) (g:TG) (tb:TS):TS:=fun D σ H=>wi σ H fun J H1=>∃ W:Nat→Nat→St→Hp→Prop,(∃ m,W 0 m σ H1)∧∀ i m σ H,W i m σ H →
  (J.stop i H∧D.nx σ H)∨(J.go i H∧∃ N:St→Hp→Prop,(∀ σ' H',N σ' H'→∃ m',m' < m∧W (i + 1) m' σ' H')∧∀ x H',J.yld i H x H'→g x σ H' fun σ2 H2=>tb { D with nx:=N,ct:=N,bk:=D.nx } σ2 H2)
def Zae (fp:List Addr) (h:Heap):List (Addr×Obj):=fp.filterMap fun b=>(h.get? b).map fun o=>(b,o)
theorem Qo {fp:List Addr} {h:Heap} {b:Addr} {o:Obj} (hb:b∈fp) (e:h.get? b=some o):(b,o)∈Zae fp h:=List.mem_filterMap.mpr ⟨b,hb,by rw [e]; rfl⟩
theorem Zeg {fp:List Addr} {h:Heap} {p:Addr×Obj} (hp:p∈Zae fp h):p.1∈fp∧h.get? p.1=some p.2:=by
  obtain ⟨b,hb,e⟩:=List.mem_filterMap.mp hp
  cases q:h.get? b with
  | none=>rw [q] at e; cases e
  | some o =>
    rw [q] at e
    have e':(b,o)=p:=Option.some.inj e
    subst e'
    exact ⟨hb,q⟩
theorem Inv.pinned {pins:List (Addr×Obj)} {σ:St} {H:Hp} {s:Shared} {fp:List Addr} (I:Inv X pins σ H s) (hf:∀ b∈fp,FpOk X pins H b) (ho:∀ b∈fp,∃ o,s.heap.get? b=some o∧∀ v,o.data≠.cell v):Inv X (pins++Zae fp s.heap) σ H s :=
  I.pins_of fun p hp=>(List.mem_append.mp hp).elim (fun z=>I.pin p (List.mem_append_right _ z)) fun z=>by
    obtain ⟨hb,e⟩:=Zeg z
    obtain ⟨f0,f1,f2,_⟩:=hf p.1 hb
    obtain ⟨o,e',d⟩:=ho p.1 hb
    rw [e] at e'; cases e'
    exact ⟨e,f0,f1,f2,d⟩
theorem Inv.unpinned {pins pl:List (Addr×Obj)} {σ:St} {H:Hp} {s:Shared} (I:Inv X (pins++pl) σ H s):Inv X pins σ H s:=I.pins_of fun p hp=>I.pin p (List.mem_append_right _ (List.mem_append_left _ hp))
theorem ps_for {iter:Expr} {body:List Stmt} {wi:TI} {g:TG} {tb:TS} {pos:Pos} (hp:PassesOwn (model X.prog X.w) X.A X.env X.xe) (hc:X.calm=true) (hi:PI X tg iter wi) (hg:PG X tg g) (hb:PSs X body tb)
    (hs:∀ x,foldedSetIterable iter X.env x=pure x:=by intro _; rfl):PS X (.For tg iter body [] pos) (tFor wi g tb):=by
  intro pins s σ H D I h
  refine wpAny_For (thn (hi pins s σ H _ I h) fun v s1 h1=>thn h1 fun itv s2 h2=>?_) hs
  obtain ⟨it,fp,tn,J,H2,e,I2,T,st2,f2,W,⟨m0,w0⟩,turn⟩:=h2
  subst e
  -- what stays true of the iterator's objects through the loop
  have stat:∀ {H':Hp},(∀ b∈fp,H' b=none)→∀ b∈fp,FpOk X pins H' b:=fun hn b hb=>⟨hn b hb,(f2 b hb).2⟩
  refine codeAny_forLoop_any (fun n s'=>∃ i σ' H',Inv X pins σ' H' s'∧tn i s'.heap∧(∀ b∈fp,H' b=none)∧W i n σ' H') ?_ m0 ⟨0,σ,H2,I2,st2,fun b hb=>(f2 b hb).1,w0⟩
  rintro n s3 ⟨i,σ3,H3,I3,st3,fr3,w3⟩
  rcases turn i n σ3 H3 w3 with ⟨stop,qn⟩ | ⟨go,N,hN,step⟩
  · refine wpAny_passesOwn hp (thn (T.done X rfl rfl rfl hc i pins s3 σ3 H3 X.xe I3 (stat fr3) st3 stop) fun r s4 ⟨hr,I4⟩=>?_)
    subst hr
    exact wpAny_execs_nil ⟨σ3,H3,I4,qn⟩
  · refine wpAny_passesOwn hp (thn (T.item X rfl rfl rfl hc i pins s3 σ3 H3 X.xe I3 (stat fr3) st3 go) fun r s4 ⟨u,hr,h4⟩=>?_)
    subst hr
    refine wpAny_passesOwn hp (thn h4 fun _ s5 ⟨x,H5,I5,r5,y5,st5,fr5⟩=>?_)
    have I5':=I5.pinned (stat fr5) (T.obj _ _ st5)
    refine wpAny_passesOwn hp (thn (hg _ s5 σ3 H5 x u _ I5' r5 (step x H5 y5)) fun _ s6 ⟨σ6,H6,I6,q6⟩=>?_)
    refine wpAny_passesOwn hp (thn (hb _ s6 σ6 H6 _ I6 q6) fun f s7 q7=>?_)
    have again:∀ {σ7:St} {H7:Hp},Inv X (pins++Zae fp s5.heap) σ7 H7 s7→N σ7 H7→∃ m,m < n∧∃ i σ' H',Inv X pins σ' H' s7∧tn i s7.heap∧(∀ b∈fp,H' b=none)∧W i m σ' H':=fun {σ7 H7} I7 n7=>by
      obtain ⟨m',hm,w7⟩:=hN σ7 H7 n7
      refine ⟨m',hm,i + 1,σ7,H7,I7.unpinned,T.keep _ _ _ st5 fun b hb o e=>(I7.pin (b,o) (List.mem_append_right _ (List.mem_append_right _ (Qo hb e)))).1,fun b hb=>?_,w7⟩
      obtain ⟨o,e,d⟩:=T.obj _ _ st5 b hb
      exact (I7.pin (b,o) (List.mem_append_right _ (List.mem_append_right _ (Qo hb e)))).2.1
    cases f with
    | next=>obtain ⟨σ7,H7,I7,n7⟩:=q7; exact again I7 n7
    | cont=>obtain ⟨σ7,H7,I7,n7⟩:=q7; exact again I7 n7
    | brk=>obtain ⟨σ7,H7,I7,q7⟩:=q7; exact ⟨σ7,H7,I7.unpinned,q7⟩
    | ret v=>obtain ⟨x7,σ7,H7,I7,r7,q7⟩:=q7; exact ⟨x7,σ7,H7,I7.unpinned,r7,q7⟩
end
end L2
namespace L2
open PySem PySem.Spec PyProof.Rows
abbrev R2:=V→V→Hp→VK→Prop
def OpR (X:Cx) (f:Value→Value→Sem Value) (r:R2):Prop :=
  ∀ (pins:List (Addr×Obj)) (s:Shared) (σ:St) (H:Hp) (x y:V) (v u:Value) (Q:VK),Inv X pins σ H s→RelV x v→RelV y u→r x y H Q →
    wpAny (model X.prog X.w) X.A (f v u) (EP X pins σ Q) X.xe s
def UnR (X:Cx) (f:Value→Sem Value) (r:V→Hp→VK→Prop):Prop :=
  ∀ (pins:List (Addr×Obj)) (s:Shared) (σ:St) (H:Hp) (x:V) (v:Value) (Q:VK),Inv X pins σ H s→RelV x v→r x H Q →
    wpAny (model X.prog X.w) X.A (f v) (EP X pins σ Q) X.xe s
def Xg (X:Cx) (f:Value) (r:List V→Hp→VK→Prop):Prop :=
  ∀ (pins:List (Addr×Obj)) (s:Shared) (σ:St) (H:Hp) (xs:List V) (us:List Value) (Q:VK),Inv X pins σ H s→Vals xs us→r xs H Q →
    wpAny (model X.prog X.w) X.A (call f us) (EP X pins σ Q) X.xe s
def TruR (X:Cx) (r:V→Hp→(Bool→Hp→Prop)→Prop):Prop :=
  ∀ (pins:List (Addr×Obj)) (s:Shared) (σ:St) (H:Hp) (x:V) (v:Value) (Q:Bool→Hp→Prop),Inv X pins σ H s→RelV x v→r x H Q →
    wpAny (model X.prog X.w) X.A (truthy v) (TP X pins σ Q) X.xe s
def tOp (r:R2) (ta tb:TE):TE:=fun σ H Q=>ta σ H fun x H1=>tb σ H1 fun y H2=>r x y H2 Q
def tUn (r:V→Hp→VK→Prop) (ta:TE):TE:=fun σ H Q=>ta σ H fun x H1=>r x H1 Q
def rI (C:Int→Int→Prop) (g:Int→Int→V):R2:=fun x y H Q=>∃ i j,x = .int i∧y = .int j∧C i j∧Q (g i j) H
def rI0 (g:Int→Int→V):R2:=fun x y H Q=>∃ i j,x = .int i∧y = .int j∧Q (g i j) H
def rU (g:Int→V):V→Hp→VK→Prop:=fun x H Q=>∃ i,x = .int i∧Q (g i) H
section
variable {X:Cx} {a b c:Expr} {ta tb tc:TE} {pos:Pos}
theorem binT (ha:PE X a ta) (hb:PE X b tb) {pins:List (Addr×Obj)} {s:Shared} {σ:St} {H:Hp} {R:V→V→Hp→Prop} (I:Inv X pins σ H s)
    (h:ta σ H fun x H1=>tb σ H1 fun y H2=>R x y H2) {Q:Value→Shared→Prop} {f:Value→Value→Sem Value}
    (hf:∀ v u s2 x y H2,Inv X pins σ H2 s2→RelV x v→RelV y u→R x y H2→wpAny (model X.prog X.w) X.A (f v u) Q X.xe s2) :
    wpAny (model X.prog X.w) X.A (eval a X.env) (fun v s₁=>wpAny (model X.prog X.w) X.A (eval b X.env) (fun u s₂=>wpAny (model X.prog X.w) X.A (f v u) Q X.xe s₂) X.xe s₁) X.xe s:=by
  refine thn (ha pins s σ H _ I h) fun v s1 ⟨x,H1,I1,r1,q1⟩=>?_
  refine thn (hb pins s1 σ H1 _ I1 q1) fun u s2 ⟨y,H2,I2,r2,q2⟩=>?_
  exact hf v u s2 x y H2 I2 r1 r2 q2
theorem pe_op {op:Operator} {r:R2} (ho:OpR X (binaryOp op) r) (ha:PE X a ta) (hb:PE X b tb):PE X (.BinOp a op b pos) (tOp r ta tb):=by
  intro pins s σ H Q I h
  exact wpAny_BinOp (binT ha hb I h fun v u s2 x y H2 I2 rx ry q=>ho pins s2 σ H2 x y v u Q I2 rx ry q)
theorem pe_un {op:UnaryOp} {r:V→Hp→VK→Prop} (ho:UnR X (unaryOp op) r) (ha:PE X a ta):PE X (.UnaryOp op a pos) (tUn r ta):=by
  intro pins s σ H Q I h
  exact UnaryOp_ (thn (ha pins s σ H _ I h) fun v s1 ⟨x,H1,I1,r1,q1⟩=>ho pins s1 σ H1 x v Q I1 r1 q1)
theorem opI {f:Value→Value→Sem Value} {C:Int→Int→Prop} {g:Int→Int→Int}
    (rule:∀ (i j:Int) (t u:Tok) (s:Shared) (Q:Value→Shared→Prop) (E:Value→Shared→Prop),C i j→Q (.int (g i j) s.toks) { s with toks:=s.toks + 1 }→wpAny (model X.prog X.w) X.A (f (.int i t) (.int j u)) Q E s) :
    OpR X f (rI C fun i j=>.int (g i j)):=by
  intro pins s σ H x y v u Q I rx ry h
  obtain ⟨i,j,rfl,rfl,hc,q⟩:=h
  obtain ⟨t,rfl⟩:=rx
  obtain ⟨t',rfl⟩:=ry
  exact rule i j t t' s _ _ hc ⟨.int (g i j),H,I.tok _,⟨_,rfl⟩,q⟩
theorem opI0 {f:Value→Value→Sem Value} {g:Int→Int→Int}
    (rule:∀ (i j:Int) (t u:Tok) (s:Shared) (Q:Value→Shared→Prop) (E:Value→Shared→Prop),Q (.int (g i j) s.toks) { s with toks:=s.toks + 1 }→wpAny (model X.prog X.w) X.A (f (.int i t) (.int j u)) Q E s) :
    OpR X f (rI0 fun i j=>.int (g i j)):=by
  intro pins s σ H x y v u Q I rx ry h
  obtain ⟨i,j,rfl,rfl,q⟩:=h
  obtain ⟨t,rfl⟩:=rx
  obtain ⟨t',rfl⟩:=ry
  exact rule i j t t' s _ _ ⟨.int (g i j),H,I.tok _,⟨_,rfl⟩,q⟩
theorem opB0 {f:Value→Value→Sem Value} {g:Int→Int→Bool}
    (rule:∀ (i j:Int) (t u:Tok) (s:Shared) (Q:Value→Shared→Prop) (E:Value→Shared→Prop),Q (.bool (g i j)) s→wpAny (model X.prog X.w) X.A (f (.int i t) (.int j u)) Q E s) :
    OpR X f (rI0 fun i j=>.bl (g i j)):=by
  intro pins s σ H x y v u Q I rx ry h
  obtain ⟨i,j,rfl,rfl,q⟩:=h
  obtain ⟨t,rfl⟩:=rx
  obtain ⟨t',rfl⟩:=ry
  exact rule i j t t' s _ _ ⟨.bl (g i j),H,I,rfl,q⟩
def CDiv (i j:Int):Prop:=0 < j∧j < 1073741824
def CPow (i j:Int):Prop:=0≤j∧j≤1000000∧i.natAbs < 2 ^ 64
def CMul (i j:Int):Prop:=(-(2 ^ 64) < i∧i < 2 ^ 64)∨(-(2 ^ 64) < j∧j < 2 ^ 64)
theorem CMul.ok {i j:Int} (h:CMul i j):IntMulOk i j:=by
  rcases h with ⟨h1,h2⟩ | ⟨h1,h2⟩
  · exact .of_left (intBits_le_64 h1 h2)
  · exact .of_right (intBits_le_64 h1 h2)
theorem op_add:OpR X (binaryOp .Add) (rI0 fun i j=>.int (i + j)):=opI0 fun _ _ _ _ _ _ _ q=>add_int q
theorem op_sub:OpR X (binaryOp .Sub) (rI0 fun i j=>.int (i - j)):=opI0 fun _ _ _ _ _ _ _ q=>sub_int q
theorem ZmP:OpR X (binaryOp .FloorDiv) (rI CDiv fun i j=>.int (i / j)):=opI fun i j _ _ _ _ _ hc q=>by
  have h1:(0:Int) < j:=hc.1
  have h2:j < 1073741824:=hc.2
  exact floordiv_int (by omega) (by rw [Int.fdiv_eq_ediv_of_nonneg i (by omega)]; exact q) (.inl (PyProof.noPylong_small (by omega)))
theorem op_mod:OpR X (binaryOp .Mod) (rI (fun _ j=>0 < j) fun i j=>.int (i % j)):=opI fun i j _ _ _ _ _ hc q=>by
  have h1:(0:Int) < j:=hc
  exact mod_int' (by omega) (by rw [Int.fmod_eq_emod_of_nonneg i (by omega)]; exact q)
theorem op_pow:OpR X (binaryOp .Pow) (rI CPow fun i j=>.int (i ^ j.toNat)):=opI fun _ _ _ _ _ _ _ hc q=>pow_int_small hc.1 hc.2.1 hc.2.2 q
theorem unI {f:Value→Sem Value} {g:Int→Int}
    (rule:∀ (i:Int) (t:Tok) (s:Shared) (Q:Value→Shared→Prop) (E:Value→Shared→Prop),Q (.int (g i) s.toks) { s with toks:=s.toks + 1 }→wpAny (model X.prog X.w) X.A (f (.int i t)) Q E s) :
    UnR X f (rU fun i=>.int (g i)):=by
  intro pins s σ H x v Q I rx h
  obtain ⟨i,rfl,q⟩:=h
  obtain ⟨t,rfl⟩:=rx
  exact rule i t s _ _ ⟨.int (g i),H,I.tok _,⟨_,rfl⟩,q⟩
theorem un_neg:UnR X (unaryOp .USub) (rU fun i=>.int (-i)):=unI fun _ _ _ _ _ q=>neg_int q
end
def scal:V→V→Bool
  | .non,.non=>true | .non,.int _=>true | .int _,.non=>true | .non,.bl _=>true | .bl _,.non=>true | .non,.str _=>true | .str _,.non=>true
  | .int _,.int _=>true | .bl _,.bl _=>true | .str _,.str _=>true | .byt _,.byt _=>true
  | .int _,.str _=>true | .str _,.int _=>true | .bl _,.str _=>true | .str _,.bl _=>true
  | _,_=>false
def rEq:R2:=fun x y H Q=>scal x y=true∧Q (.bl (decide (x=y))) H
def rNe:R2:=fun x y H Q=>scal x y=true∧Q (.bl (!decide (x=y))) H
theorem Zfp {i j:Int}:decide (V.int i=V.int j)=(i == j):=by
  rw [Bool.eq_iff_iff]
  simp
theorem ZiY {i j:Bool}:decide (V.bl i=V.bl j)=(i == j):=by
  rw [Bool.eq_iff_iff]
  simp
theorem ZiW {i j:Str}:decide (V.str i=V.str j)=(i == j):=by
  rw [Bool.eq_iff_iff]
  simp
theorem ZiX {i j:Array UInt8}:decide (V.byt i=V.byt j)=(i.toList == j.toList):=by
  rw [Bool.eq_iff_iff]
  cases i
  cases j
  simp
section
variable {X:Cx} {a b c:Expr} {ta tb tc:TE} {pos:Pos}
theorem Z5 {pins:List (Addr×Obj)} {σ:St} {H:Hp} {s:Shared} {Q:VK} {k k':Bool} (I:Inv X pins σ H s) (q:Q (.bl k) H) (e:k=k'):EP X pins σ Q (.bool k') s:=by
  subst e
  exact ⟨.bl k,H,I,rfl,q⟩
theorem op_eq:OpR X (compareOp .Eq) rEq:=by
  intro pins s σ H x y v u Q I rx ry h
  obtain ⟨hs,q⟩:=h
  cases x with
  | non =>
    cases rx
    cases y with
    | non=>cases ry; exact PySem.EqNone.eq_none_none (Z5 I q (by simp))
    | bl j=>cases ry; exact PySem.EqNone.eq_none_bool (Z5 I q (by simp))
    | int j=>obtain ⟨t',rfl⟩:=ry; exact PySem.EqNone.eq_none_int (Z5 I q (by simp))
    | str j=>obtain ⟨t',rfl⟩:=ry; exact PySem.EqNone.eq_none_str (Z5 I q (by simp))
    | _=>exact absurd (show false=true from hs) Bool.false_ne_true
  | bl i =>
    cases rx
    cases y with
    | non=>cases ry; exact PySem.EqNone.eq_bool_none (Z5 I q (by simp))
    | bl j=>cases ry; exact eq_bool (Z5 I q ZiY)
    | str j=>obtain ⟨t',rfl⟩:=ry; exact PySem.EqMixed.eq_bool_str (Z5 I q (by simp))
    | _=>exact absurd (show false=true from hs) Bool.false_ne_true
  | int i =>
    obtain ⟨t,rfl⟩:=rx
    cases y with
    | non=>cases ry; exact PySem.EqNone.eq_int_none (Z5 I q (by simp))
    | int j=>obtain ⟨t',rfl⟩:=ry; exact eq_int (Z5 I q Zfp)
    | str j=>obtain ⟨t',rfl⟩:=ry; exact PySem.EqMixed.eq_int_str (Z5 I q (by simp))
    | _=>exact absurd (show false=true from hs) Bool.false_ne_true
  | str i =>
    obtain ⟨t,rfl⟩:=rx
    cases y with
    | non=>cases ry; exact PySem.EqNone.eq_str_none (Z5 I q (by simp))
    | bl j=>cases ry; exact PySem.EqMixed.eq_str_bool (Z5 I q (by simp))
    | int j=>obtain ⟨t',rfl⟩:=ry; exact PySem.EqMixed.eq_str_int (Z5 I q (by simp))
    | str j=>obtain ⟨t',rfl⟩:=ry; exact eq_str (Z5 I q ZiW)
    | _=>exact absurd (show false=true from hs) Bool.false_ne_true
  | byt i =>
    obtain ⟨t,rfl⟩:=rx
    cases y with
    | byt j=>obtain ⟨t',rfl⟩:=ry; exact PySem.W.eq_bytes (Z5 I q ZiX)
    | _=>exact absurd (show false=true from hs) Bool.false_ne_true
  | _=>cases y <;> exact absurd (show false=true from hs) Bool.false_ne_true
theorem op_ne:OpR X (compareOp .NotEq) rNe:=by
  intro pins s σ H x y v u Q I rx ry h
  obtain ⟨hs,q⟩:=h
  cases x with
  | non =>
    cases rx
    cases y with
    | non=>cases ry; exact PySem.EqNone.ne_none_none (Z5 I q (by simp))
    | bl j=>cases ry; exact PySem.EqNone.ne_none_bool (Z5 I q (by simp))
    | int j=>obtain ⟨t',rfl⟩:=ry; exact PySem.EqNone.ne_none_int (Z5 I q (by simp))
    | str j=>obtain ⟨t',rfl⟩:=ry; exact PySem.EqNone.ne_none_str (Z5 I q (by simp))
    | _=>exact absurd (show false=true from hs) Bool.false_ne_true
  | bl i =>
    cases rx
    cases y with
    | non=>cases ry; exact PySem.EqNone.ne_bool_none (Z5 I q (by simp))
    | bl j=>cases ry; exact ne_bool (Z5 I q (congrArg not ZiY))
    | str j=>obtain ⟨t',rfl⟩:=ry; exact PySem.EqMixed.ne_bool_str (Z5 I q (by simp))
    | _=>exact absurd (show false=true from hs) Bool.false_ne_true
  | int i =>
    obtain ⟨t,rfl⟩:=rx
    cases y with
    | non=>cases ry; exact PySem.EqNone.ne_int_none (Z5 I q (by simp))
    | int j=>obtain ⟨t',rfl⟩:=ry; exact ne_int (Z5 I q (congrArg not Zfp))
    | str j=>obtain ⟨t',rfl⟩:=ry; exact PySem.EqMixed.ne_int_str (Z5 I q (by simp))
    | _=>exact absurd (show false=true from hs) Bool.false_ne_true
  | str i =>
    obtain ⟨t,rfl⟩:=rx
    cases y with
    | non=>cases ry; exact PySem.EqNone.ne_str_none (Z5 I q (by simp))
    | bl j=>cases ry; exact PySem.EqMixed.ne_str_bool (Z5 I q (by simp))
    | int j=>obtain ⟨t',rfl⟩:=ry; exact PySem.EqMixed.ne_str_int (Z5 I q (by simp))
    | str j=>obtain ⟨t',rfl⟩:=ry; exact ne_str (Z5 I q (congrArg not ZiW))
    | _=>exact absurd (show false=true from hs) Bool.false_ne_true
  | byt i =>
    obtain ⟨t,rfl⟩:=rx
    cases y with
    | byt j=>obtain ⟨t',rfl⟩:=ry; exact PySem.W.ne_bytes (Z5 I q (congrArg not ZiX))
    | _=>exact absurd (show false=true from hs) Bool.false_ne_true
  | _=>cases y <;> exact absurd (show false=true from hs) Bool.false_ne_true
theorem op_lt:OpR X (compareOp .Lt) (rI0 fun i j=>.bl (decide (i < j))):=opB0 fun _ _ _ _ _ _ _ q=>lt_int q
theorem op_le:OpR X (compareOp .LtE) (rI0 fun i j=>.bl (decide (i≤j))):=opB0 fun _ _ _ _ _ _ _ q=>le_int q
theorem op_gt:OpR X (compareOp .Gt) (rI0 fun i j=>.bl (decide (j < i))):=opB0 fun _ _ _ _ _ _ _ q=>gt_int q
theorem op_ge:OpR X (compareOp .GtE) (rI0 fun i j=>.bl (decide (j≤i))):=opB0 fun _ _ _ _ _ _ _ q=>ge_int q
theorem Zh2:OpR X (compareOp .Lt) (fun x y H Q=>∃ i j,x = .str i∧y = .str j∧Q (.bl (decide (i.cps.toList < j.cps.toList))) H):=by
  intro pins s σ H x y v u Q I rx ry h
  obtain ⟨i,j,rfl,rfl,q⟩:=h
  obtain ⟨t,rfl⟩:=rx
  obtain ⟨t',rfl⟩:=ry
  exact lt_str (Z5 I q rfl)
theorem Zh3:OpR X (compareOp .In) (fun x y H Q=>∃ i j,x = .str i∧y = .str j∧Q (.bl (!(Builtin.Str.occurrences j i 0 j.length 1).isEmpty)) H):=by
  intro pins s σ H x y v u Q I rx ry h
  obtain ⟨i,j,rfl,rfl,q⟩:=h
  obtain ⟨t,rfl⟩:=rx
  obtain ⟨t',rfl⟩:=ry
  exact in_str (Z5 I q rfl)
theorem op_isN:OpR X (compareOp .Is) (fun x y H Q=>y = .non∧Q (.bl (decide (x = .non))) H):=by
  intro pins s σ H x y v u Q I rx ry h
  obtain ⟨rfl,q⟩:=h
  cases ry
  refine is_none_gen (Z5 I q ?_)
  cases x <;> first
    | (cases rx; rfl)
    | (obtain ⟨t,rfl⟩:=rx; rfl)
theorem ZmM:OpR X (compareOp .IsNot) (fun x y H Q=>y = .non∧Q (.bl (!decide (x = .non))) H):=by
  intro pins s σ H x y v u Q I rx ry h
  obtain ⟨rfl,q⟩:=h
  cases ry
  refine isnot_none_gen (Z5 I q ?_)
  cases x <;> first
    | (cases rx; rfl)
    | (obtain ⟨t,rfl⟩:=rx; rfl)
theorem Zd7:OpR X (compareOp .NotIn) (fun x y H Q=>∃ i j,x = .str i∧y = .str j∧Q (.bl (!(!(Builtin.Str.occurrences j i 0 j.length 1).isEmpty))) H):=by
  intro pins s σ H x y v u Q I rx ry h
  obtain ⟨i,j,rfl,rfl,q⟩:=h
  obtain ⟨t,rfl⟩:=rx
  obtain ⟨t',rfl⟩:=ry
  exact notIn_str (Z5 I q rfl)
theorem ZmC {op:CmpOp} {r:R2} (ho:OpR X (compareOp op) r) (ha:PE X a ta) (hb:PE X b tb) (hm:behindInMarks op b=false):PE X (.Compare a [op] [b] pos) (tOp r ta tb):=by
  intro pins s σ H Q I h
  exact wpAny_Compare1 (binT ha hb I h fun v u s2 x y H2 I2 rx ry q=>ho pins s2 σ H2 x y v u Q I2 rx ry q) hm
def Zl2 (t:TE):TT:=fun σ H Q=>t σ H fun x H'=>∃ k,x = .bl k∧Q k H'
theorem Zmc {op:CmpOp} {r:R2} (ho:OpR X (compareOp op) r) (ha:PE X a ta) (hb:PE X b tb) (hm:behindInMarks op b=false):PT X (.Compare a [op] [b] pos) (Zl2 (tOp r ta tb)):=by
  intro pins s σ H Q I h
  refine wpAny_isTrue_Compare1 (thn (ha pins s σ H _ I h) fun v s1 ⟨x,H1,I1,r1,q1⟩=>thn (hb pins s1 σ H1 _ I1 q1) fun u s2 ⟨y,H2,I2,r2,q2⟩ =>
    thn (ho pins s2 σ H2 x y v u _ I2 r1 r2 q2) fun c s3 ⟨z,H3,I3,r3,k,e,q3⟩=>?_) hm
  subst e
  cases r3
  exact wpAny_truthy_bool ⟨H3,I3,q3⟩
def ZhB (r r':R2) (ta tb tc:TE):TE:=fun σ H Q=>ta σ H fun x H1=>tb σ H1 fun y H2=>r x y H2 fun z H3=>∃ k,z = .bl k ∧
  (if k=true then tc σ H3 fun w' H4=>r' y w' H4 Q else Q (.bl false) H3)
theorem Zkm {op op':CmpOp} {r r':R2} (ho:OpR X (compareOp op) r) (ho':OpR X (compareOp op') r') (ha:PE X a ta) (hb:PE X b tb) (hc:PE X c tc)
    (hm:lastMarks [op,op'] [b,c]=false:=by with_unfolding_all rfl):PE X (.Compare a [op,op'] [b,c] pos) (ZhB r r' ta tb tc):=by
  intro pins s σ H Q I h
  refine Compare_chain (thn (ha pins s σ H _ I h) fun v s1 ⟨x,H1,I1,r1,q1⟩=>chain_link (thn (hb pins s1 σ H1 _ I1 q1) fun u s2 ⟨y,H2,I2,r2,q2⟩ =>
    thn (ho pins s2 σ H2 x y v u _ I2 r1 r2 q2) fun d s3 ⟨z,H3,I3,r3,k,e,q3⟩=>?_)) hm
  subst e
  cases r3
  refine wpAny_truthy_bool ?_
  cases k with
  | false=>exact ite_ff ⟨.bl false,H3,I3,rfl,q3⟩
  | true=>exact ite_tt (chain_last (thn (hc pins s3 σ H3 _ I3 q3) fun w' s4 ⟨z',H4,I4,r4,q4⟩=>ho' pins s4 σ H4 y z' u w' Q I4 r2 r4 q4))
theorem ZjU {op op':CmpOp} {r r':R2} (ho:OpR X (compareOp op) r) (ho':OpR X (compareOp op') r') (ha:PE X a ta) (hb:PE X b tb) (hc:PE X c tc)
    (hm:lastMarks [op,op'] [b,c]=false:=by with_unfolding_all rfl):PT X (.Compare a [op,op'] [b,c] pos) (Zl2 (ZhB r r' ta tb tc)):=by
  intro pins s σ H Q I h
  refine isTrue_chain (thn (ha pins s σ H _ I h) fun v s1 ⟨x,H1,I1,r1,q1⟩=>test_link (thn (hb pins s1 σ H1 _ I1 q1) fun u s2 ⟨y,H2,I2,r2,q2⟩ =>
    thn (ho pins s2 σ H2 x y v u _ I2 r1 r2 q2) fun d s3 ⟨z,H3,I3,r3,k,e,q3⟩=>?_)) hm
  subst e
  cases r3
  refine wpAny_truthy_bool ?_
  cases k with
  | false =>
    obtain ⟨k',e',q'⟩:=q3
    cases e'
    exact ite_ff ⟨H3,I3,q'⟩
  | true =>
    refine ite_tt (test_last (thn (hc pins s3 σ H3 _ I3 q3) fun w' s4 ⟨z',H4,I4,r4,q4⟩=>thn (ho' pins s4 σ H4 y z' u w' _ I4 r2 r4 q4) fun d' s5 ⟨z2,H5,I5,r5,k2,e2,q5⟩=>?_))
    subst e2
    cases r5
    exact wpAny_truthy_bool ⟨H5,I5,q5⟩
def TruV (K:PySem.W.Frag) (x:V) (H:Hp) (k:Bool):Prop :=
  match x with
  | .non=>k=false
  | .bl b=>k=b
  | .int i=>k=(i != 0)
  | .str y=>y.length≤sizeLine∧k=((y.length:Int) != 0)
  | .byt y=>y.size≤sizeLine∧k=((y.size:Int) != 0)
  | .ref p=>(∃ xs,SqL K H p xs∧k = !xs.isEmpty)∨(∃ xs,SqT K H p xs∧k = !xs.isEmpty)∨∃ kvs,H p=some (.dK kvs)∧k = !kvs.isEmpty
  | _=>False
theorem Zg5 {κ:Type} {kvs:List (κ×V)} {vs:List (κ×Value)} (r:KV kvs vs):(!vs.isEmpty) = !kvs.isEmpty:=by
  cases r <;> rfl
theorem ZcP {xs:List V} {its:List Value} (r:Vals xs its):(!its.toArray.isEmpty) = !xs.isEmpty:=by
  cases r <;> simp
theorem ZcO:(sizeLine:Nat) < 2 ^ 63:=by rw [sizeLine_eq]; decide
theorem tru_ok:TruR X (fun x H Q=>∃ k,TruV X.K x H k∧Q k H):=by
  intro pins s σ H x v Q I rx h
  obtain ⟨k,e,q⟩:=h
  have hl:=ZcO
  have hs:sizeLine=16777216:=sizeLine_eq
  cases x with
  | non =>
    cases rx
    have e':k=false:=e
    subst e'
    exact truthy_none ⟨H,I,q⟩
  | bl b =>
    cases rx
    have e':k=b:=e
    subst e'
    exact wpAny_truthy_bool ⟨H,I,q⟩
  | int i =>
    obtain ⟨t,rfl⟩:=rx
    have e':k=(i != 0):=e
    subst e'
    exact PySem.P.truthy_int ⟨H,I,q⟩
  | str y =>
    obtain ⟨t,rfl⟩:=rx
    obtain ⟨hy,e'⟩:y.length≤sizeLine∧k=((y.length:Int) != 0):=e
    subst e'
    exact PySem.P.truthy_str (by omega) ⟨H,I.tok _,q⟩
  | byt y =>
    obtain ⟨t,rfl⟩:=rx
    obtain ⟨hy,e'⟩:y.size≤sizeLine∧k=((y.size:Int) != 0):=e
    subst e'
    exact PySem.W.truthy_bytes (by omega) ⟨H,I.tok _,q⟩
  | ref p =>
    cases rx
    have e':(∃ xs,SqL X.K H p xs∧k = !xs.isEmpty)∨(∃ xs,SqT X.K H p xs∧k = !xs.isEmpty)∨∃ kvs,H p=some (.dK kvs)∧k = !kvs.isEmpty:=e
    rcases e' with ⟨xs,hx,e'⟩ | ⟨xs,hx,e'⟩ | ⟨kvs,hx,e'⟩
    · subst e'
      obtain ⟨its,r,pl,hz⟩:=I.list hx
      have hlen:=r.length
      exact wpAny_truthy_list pl.isList (by simp only [List.size_toArray]; omega) ⟨H,I.tok _,by rw [ZcP r]; exact q⟩
    · subst e'
      obtain ⟨its,r,pl,hz⟩:=I.tuple hx
      have hlen:=r.length
      exact truthy_tuple pl (by simp only [List.size_toArray]; omega) ⟨H,I.tok _,by rw [ZcP r]; exact q⟩
    · subst e'
      obtain ⟨hz,hS,vs,r,m⟩:kvs.length≤sizeLine∧(p == sysModules)=false∧∃ vs,KV kvs vs∧s.heap.DictOf (Zfi X.prog X.w) p vs:=I.hok p _ hx
      have hlen:kvs.length=vs.length:=Paired.length r
      exact wpAny_truthy_dict hS m (by omega) ⟨H,I.tok _,by rw [Zg5 r]; exact q⟩
  | _=>exact (show False from e).elim
theorem ZjT (ha:PE X a ta) (he:∀ whole,isTrue a X.env whole=(do let v ← whole; standAt a.pos; holding [v] (truthy v))) :
    PT X a (fun σ H Q=>ta σ H fun x H'=>∃ k,TruV X.K x H' k∧Q k H'):=by
  intro pins s σ H Q I h
  exact isTrue_plain (thn (ha pins s σ H _ I h) fun v s1 ⟨x,H1,I1,r1,q1⟩=>tru_ok pins s1 σ H1 x v Q I1 r1 q1) (he _)
theorem ZgO:OpR X (binaryOp .Add) (fun x y H Q=>∃ i j,x = .str i∧y = .str j∧i.length + j.length≤sizeLine∧Q (.str (i++j)) H):=by
  intro pins s σ H x y v u Q I rx ry h
  obtain ⟨i,j,rfl,rfl,hz,q⟩:=h
  obtain ⟨t,rfl⟩:=rx
  obtain ⟨t',rfl⟩:=ry
  exact add_str (fun t' tk=>⟨.str (i++j),H,I.tok _,⟨_,rfl⟩,q⟩) hz
theorem vals1 {x:V} {us:List Value} (r:Vals [x] us):∃ u,us=[u]∧RelV x u:=by
  cases r with
  | cons r1 r2=>cases r2; exact ⟨_,rfl,r1⟩
theorem vals2 {x y:V} {us:List Value} (r:Vals [x,y] us):∃ u w',us=[u,w']∧RelV x u∧RelV y w':=by
  cases r with
  | cons r1 r2 =>
    cases r2 with
    | cons r3 r4=>cases r4; exact ⟨_,_,rfl,r1,r3⟩
theorem Zja (hc:X.calm=true):Xg X (.builtin "min") (fun xs H Q=>∃ i j,xs=[.int i,.int j]∧Q (.int (if j < i then j else i)) H):=by
  intro pins s σ H xs us Q I r h
  obtain ⟨i,j,rfl,q⟩:=h
  obtain ⟨u,w',rfl,⟨t,rfl⟩,⟨t',rfl⟩⟩:=vals2 r
  refine min_two_ints (I.ok.hd hc) fun h' tk k=>⟨_,H,I.kept k,?_,q⟩
  by_cases hj:j < i
  · rw [if_pos hj,if_pos hj]; exact ⟨_,rfl⟩
  · rw [if_neg hj,if_neg hj]; exact ⟨_,rfl⟩
theorem ZeE:Xg X (.type "int") (fun xs H Q=>(∃ i,xs=[.int i]∧Q (.int i) H)∨∃ k,xs=[.bl k]∧Q (.int (if k then 1 else 0)) H):=by
  intro pins s σ H xs us Q I r h
  rcases h with ⟨i,rfl,q⟩ | ⟨k,rfl,q⟩
  · obtain ⟨u,rfl,t,rfl⟩:=vals1 r
    exact call_int_int ⟨.int i,H,I,⟨_,rfl⟩,q⟩
  · obtain ⟨u,rfl,r1⟩:=vals1 r
    cases r1
    exact call_int_bool ⟨.int (if k then 1 else 0),H,I.tok _,⟨_,rfl⟩,q⟩
theorem ZeD:Xg X (.type "str") (fun xs H Q=>∃ i,xs=[.int i]∧i.natAbs.log2 < 1920∧Q (.str (toString i)) H):=by
  intro pins s σ H xs us Q I r h
  obtain ⟨i,rfl,hz,q⟩:=h
  obtain ⟨u,rfl,t,rfl⟩:=vals1 r
  exact PySem.P.str_of_int hz ⟨.str _,H,I.tok _,⟨_,rfl⟩,q⟩
def LenV (K:PySem.W.Frag) (x:V) (H:Hp) (n:Nat):Prop :=
  match x with
  | .str y=>y.length≤sizeLine∧n=y.length
  | .byt y=>y.size≤sizeLine∧n=y.size
  | .ref p=>(∃ xs,SqL K H p xs∧n=xs.length)∨∃ xs,SqT K H p xs∧n=xs.length
  | _=>False
theorem ZbO:Xg X (.builtin "len") (fun xs H Q=>∃ x n,xs=[x]∧LenV X.K x H n∧Q (.int n) H):=by
  intro pins s σ H xs us Q I r h
  obtain ⟨x,n,rfl,e,q⟩:=h
  obtain ⟨u,rfl,rx⟩:=vals1 r
  have hl:=ZcO
  have hs:sizeLine=16777216:=sizeLine_eq
  cases x with
  | str y =>
    obtain ⟨t,rfl⟩:=rx
    obtain ⟨hy,e'⟩:y.length≤sizeLine∧n=y.length:=e
    subst e'
    exact len_str (by omega) ⟨.int _,H,I.tok _,⟨_,rfl⟩,q⟩
  | byt y =>
    obtain ⟨t,rfl⟩:=rx
    obtain ⟨hy,e'⟩:y.size≤sizeLine∧n=y.size:=e
    subst e'
    exact PySem.W.len_bytes (by omega) ⟨.int _,H,I.tok _,⟨_,rfl⟩,q⟩
  | ref p =>
    cases rx
    have e':(∃ xs,SqL X.K H p xs∧n=xs.length)∨∃ xs,SqT X.K H p xs∧n=xs.length:=e
    rcases e' with ⟨xs,hx,e'⟩ | ⟨xs,hx,e'⟩
    · subst e'
      obtain ⟨its,r',pl,hz⟩:=I.list hx
      have hlen:=r'.length
      exact Calls.call_len_list pl.isList (by simp only [List.size_toArray]; omega) ⟨.int xs.length,H,I.tok _,⟨_,by simp only [List.size_toArray]; rw [hlen]⟩,q⟩
    · subst e'
      obtain ⟨its,r',pl,hz⟩:=I.tuple hx
      have hlen:=r'.length
      exact len_tuple pl (by simp only [List.size_toArray]; omega) ⟨.int xs.length,H,I.tok _,⟨_,by simp only [List.size_toArray]; rw [hlen]⟩,q⟩
  | _=>exact (show False from e).elim
end
end L2
namespace L2
open PySem PySem.Spec PyProof.Rows
structure ObjM (h:Heap) (x dx C:Addr) (mA:Str→Option Value):Prop where
  obj:h.get? x=some (PySem.W.instObj C dx)
  ns:h.Ns1 dx mA
  ne:dx≠x
theorem Zit {h:Heap} {dx:Addr} {mA:Str→Option Value} (n:h.Ns1 dx mA):∃ od,h.get? dx=some od∧∀ name,PySem.W.lookIn name od=some (mA name):=by
  obtain ⟨o,es,ep,ho,hd,hk,_,hm⟩:=n
  refine ⟨o,ho,fun name=>?_⟩
  have e:=hm name
  unfold nsFind findBy at e
  rw [← Array.find?_toList] at e
  unfold PySem.W.lookIn
  rw [hd]
  dsimp only
  split
  · rename_i y q
    rw [q] at e
    exact congrArg some e
  · rename_i q
    rw [q] at e
    have a:es.toList.any (·.refKey)=false:=by
      rw [List.any_eq_false]
      intro y hy
      obtain ⟨z,t,hkey⟩:=hk y (Array.mem_toList_iff.mp hy)
      simp [DictEntry.refKey,hkey]
    have a':¬ es.toList.any (·.refKey)=true:=by rw [a]; exact Bool.false_ne_true
    rw [if_neg a']
    exact congrArg some e
theorem ObjM.look {h:Heap} {x dx C:Addr} {mA:Str→Option Value} (I:ObjM h x dx C mA):∃ od,PySem.W.InstAt h x (PySem.W.instObj C dx) C (some od)∧∀ name,PySem.W.lookIn name od=some (mA name) :=
  let ⟨od,ho,hl⟩:=Zit I.ns
  ⟨od,⟨I.obj,rfl,rfl,ho⟩,hl⟩
section
variable {prog:Program} {w:World} {A:Around} {E:Value→Shared→Prop} {s:Shared} {K:PySem.W.Frag} {x dx C f:Addr} {mA:Str→Option Value} {name:Str} {v:Value}
end
section
variable {P:Program} {w:World} {H H':Hp} {h h':Heap} {a C dx:Addr} {fs fs':List (Str×V)}
theorem Zna (hok:HOk P w H h) (e:H a=some (.ins C dx fs)):∃ mA,ObjM h a dx C mA∧(∀ f,RelO (fs.lookup f) (mA f))∧PySem.Within mA (fs.map (·.1))∧fs.length≤1000∧H dx=some (.own a):=by
  obtain ⟨d,z,ne,ob,mA,n,r,q⟩:=(show J6 P w H h a (.ins C dx fs) from hok a _ e)
  exact ⟨mA,⟨ob,n,ne⟩,r,q,z,d⟩
end
structure Cls (K:PySem.W.Frag) (C:Addr):Prop where
  pg:PySem.W.plainGet K C Str.empty=true
  hd:PySem.W.hasDictIn K C=true
  po:PySem.W.plainOver K C=true
  sa:PySem.W.findIn K (.ref C) "__setattr__" = some (some (.builtin "object.__setattr__"))
theorem Cls.get {K:PySem.W.Frag} {C:Addr} (c:Cls K C) (f:Str):PySem.W.plainGet K C f=true:=c.pg
structure Con (K:PySem.W.Frag) (C:Addr) (f:Str) (v:V) (u:Value):Prop where
  at_:PySem.W.findIn K (.ref C) f=some (some u)
  rel:RelV v u
  get:PySem.W.specialIn K u "__get__" = some none
  cp:PySem.W.copiedNames.contains f=false
structure Meth (K:PySem.W.Frag) (C:Addr) (m:Str) (f:Addr):Prop where
  at_:PySem.W.findIn K (.ref C) m=some (some (.ref f))
  fn:PySem.W.isFn K (.ref f)=true
  kp:PySem.W.keepIn K (.ref f)=true
section
variable {X:Cx} {pins:List (Addr×Obj)} {σ:St} {H:Hp} {s:Shared} {a C dx:Addr} {fs:List (Str×V)} {f:Str} {v:V} {A:Around} {E:Value→Shared→Prop}
end
section
variable {X:Cx} {o e value:Expr} {f:Str} {pos pos' tpos:Pos} {ta tv:TE}
end
section
variable {X:Cx} {pins:List (Addr×Obj)} {σ:St} {H:Hp} {s:Shared} {A:Around} {E:Value→Shared→Prop} {Q:Value→Shared→Prop} {c:Value} {b:Bool}
inductive TyOf (K:PySem.W.Frag) (H:Hp):V→Value→Prop where
  | non:TyOf K H .non (.type "NoneType")
  | bl (x:Bool):TyOf K H (.bl x) (.type "bool")
  | int (i:Int):TyOf K H (.int i) (.type "int")
  | str (x:Str):TyOf K H (.str x) (.type "str")
  | flt (x:UInt64):TyOf K H (.flt x) (.type "float")
  | lst {a:Addr} {xs:List V} (e:H a=some (.lst xs)):TyOf K H (.ref a) (.type "list")
  | frz {a:Addr} {o:Obj} {xs:List V} (e:H a=some (.frz o (.lst xs))):TyOf K H (.ref a) (.type "list")
  | tup {a:Addr} {xs:List V} (e:H a=some (.tup xs)):TyOf K H (.ref a) (.type "tuple")
  | dK {a:Addr} {kvs:List (Key×V)} (e:H a=some (.dK kvs)):TyOf K H (.ref a) (.type "dict")
  | dT {a:Addr} {kvs:List (List Key×V)} (e:H a=some (.dT kvs)):TyOf K H (.ref a) (.type "dict")
  | ins {a C dx:Addr} {fs:List (Str×V)} (e:H a=some (.ins C dx fs)) (cl:Cls K C) (ha:PySem.W.findIn K (.ref C) "__class__" = some (some (.builtin "object.__class__")))
      (hn:PySem.W.specialIn K (.builtin "object.__class__") "__get__" = some (some (.builtin "getset_descriptor.__get__"))) (htk:PySem.W.takesIn K (.builtin "object.__class__")=some true)
      (hm:PySem.W.mroIn K C (.type "object")=some true):TyOf K H (.ref a) (.ref C)
theorem XM {x:V} {u t:Value} (I:Inv X pins σ H s) (rx:RelV x u) (ty:TyOf X.K H x t) (e:PySem.W.kitOne X.K t c=some b) (h:∀ tk,Q (.bool b) { s with toks:=tk }) :
    wpAny (model X.prog X.w) A (call (.builtin "isinstance") [u,c]) Q E s:=by
  cases ty with
  | non=>cases (show u=Value.none from rx); exact PySem.W.kia_one PySem.W.kitx_none I.kIn True.intro e (fun z=>nomatch z) h
  | bl y=>cases (show u=Value.bool y from rx); exact PySem.W.kia_one PySem.W.kitx_bool I.kIn True.intro e (fun z=>nomatch z) h
  | int i=>obtain ⟨t,q⟩:=(show ∃ t,u=Value.int i t from rx); cases q; exact PySem.W.kia_one PySem.W.kitx_int I.kIn True.intro e (fun z=>nomatch z) h
  | str y=>obtain ⟨t,q⟩:=(show ∃ t,u=Value.str y t from rx); cases q; exact PySem.W.kia_one PySem.W.kitx_str I.kIn True.intro e (fun z=>nomatch z) h
  | flt y=>obtain ⟨t,q⟩:=(show ∃ t,u=Value.float y t from rx); cases q; exact PySem.W.kia_one PySem.W.kitx_float I.kIn True.intro e (fun z=>nomatch z) h
  | @lst a xs ea =>
    cases (show u=Value.ref a from rx)
    obtain ⟨_,_,n,_,h1⟩:=(show J6 X.prog X.w H s.heap a (.lst xs) from I.hok a _ ea)
    exact PySem.W.kia_one PySem.W.kitx_list I.kIn ⟨_,h1,rfl⟩ e (fun z=>nomatch z) h
  | @frz a ob xs ea =>
    cases (show u=Value.ref a from rx)
    obtain ⟨_,_,_,n,_,h1⟩:=(show J6 X.prog X.w H s.heap a (.frz ob (.lst xs)) from I.hok a _ ea)
    exact PySem.W.kia_one PySem.W.kitx_list I.kIn ⟨_,h1,rfl⟩ e (fun z=>nomatch z) h
  | @tup a xs ea =>
    cases (show u=Value.ref a from rx)
    obtain ⟨_,_,_,p⟩:=(show J6 X.prog X.w H s.heap a (.tup xs) from I.hok a _ ea)
    obtain ⟨o,h1,h2,_⟩:=p
    exact PySem.W.kia_one PySem.W.kitx_tuple I.kIn ⟨o,h1,h2⟩ e (fun z=>nomatch z) h
  | @dK a kvs ea =>
    cases (show u=Value.ref a from rx)
    obtain ⟨_,_,vs,_,p⟩:=(show J6 X.prog X.w H s.heap a (.dK kvs) from I.hok a _ ea)
    obtain ⟨o,es,ep,h1,h2,_⟩:=p
    exact PySem.W.kia_one PySem.W.kitx_dict I.kIn ⟨o,h1,h2.1⟩ e (fun z=>nomatch z) h
  | @dT a kvs ea =>
    cases (show u=Value.ref a from rx)
    obtain ⟨_,_,xs,_,o,es,ep,h1,h2,_⟩:=(show J6 X.prog X.w H s.heap a (.dT kvs) from I.hok a _ ea)
    exact PySem.W.kia_one PySem.W.kitx_dict I.kIn ⟨o,h1,h2.1⟩ e (fun z=>nomatch z) h
  | @ins a C dx fs ea cl ha hn htk hm =>
    cases (show u=Value.ref a from rx)
    obtain ⟨mA,O,_⟩:=Zna I.hok ea
    obtain ⟨od,J,_⟩:=O.look
    exact PySem.W.kia_one (PySem.W.kitx_own (cl.get _) cl.hd ha hn htk hm) I.kIn J e (fun z=>nomatch z) h
end
end L2
namespace L2
open PySem PySem.Spec PyProof.Rows
structure Room (k:Nat) (A:Around):Prop where
  hd:A.handled=none
  dp:A.depth + 3 * k + 5 < recursionLimit
  un:A.units + 16 * k + 200 < cLine
theorem Room.deeper {k:Nat} {A:Around} (r:Room (k + 1) A) (env:Env):Room k (A.deeper env) :=
  ⟨r.hd,by have:=r.dp; show A.depth + 1 + 3 * k + 5 < _; omega,by have:=r.un; show A.units + 3 + 16 * k + 200 < _; omega⟩
theorem Room.depth {k:Nat} {A:Around} (r:Room k A):A.depth < recursionLimit:=by have:=r.dp; omega
theorem Room.units {k:Nat} {A:Around} (r:Room k A):A.units + 64 < cLine:=by have:=r.un; omega
def tNil:TA:=fun _ H Q=>Q [] H
def tCons (ta:TE) (tr:TA):TA:=fun σ H Q=>ta σ H fun x H1=>tr σ H1 fun xs H2=>Q (x :: xs) H2
section
variable {X:Cx} {e:Expr} {es:List Expr} {te:TE} {t:TA} {pos:Pos}
theorem ZlD:PA X [] tNil:=fun _ _ _ _ H Q I h=>Calls.spliced_nil ⟨[],H,I,.nil,h⟩
theorem Zfb (ha:PE X e te) (hr:PA X es t) (hs:starEach (e :: es) X.env=(false,eval e X.env) :: starEach es X.env:=by rfl):PA X (e :: es) (tCons te t):=by
  intro pos pins s σ H Q I h
  rw [hs]
  show wpAny _ _ (spliced ((false,eval e X.env) :: backTo pos (starEach es X.env))) _ _ s
  refine Calls.spliced_cons (thn (ha pins s σ H _ I h) fun u s1 ⟨x,H1,I1,r1,q1⟩=>?_)
  exact thn (hr pos pins s1 σ H1 _ I1 q1) fun us s2 ⟨xs,H2,I2,r2,q2⟩=>⟨x :: xs,H2,I2,.cons r1 r2,q2⟩
def tTup (t:TA):TE:=fun σ H Q=>t σ H fun xs H1=>xs.length≤sizeLine∧∀ p,H1 p=none→Q (.ref p) (upd H1 p (.tup xs))
def tLst (t:TA):TE:=fun σ H Q=>t σ H fun xs H1=>xs.length≤sizeLine∧∀ p,H1 p=none→Q (.ref p) (upd H1 p (.lst xs))
theorem pe_tup {x1} (h:PA X es t):PE X (.Tuple es x1 pos) (tTup t):=by
  intro pins s σ H Q I hq
  refine wpAny_Tuple_spliced (thn (h pos pins s σ H _ I hq) fun us s1 ⟨xs,H1,I1,r,z,q⟩=>⟨by rw [← r.length]; exact z,?_⟩)
  have hf:H1 s1.heap.objs.size=none:=I1.hok.fresh (Nat.le_refl _)
  refine ⟨.ref s1.heap.objs.size,upd H1 s1.heap.objs.size (.tup xs),I1.laid (t':=s1.toks) (fun b u e=>Heap.get?_push_of_some _ e) (Nat.le_refl _) ?_,rfl,q _ hf⟩
  exact ⟨z,us,r,⟨_,Heap.get?_push_size _ rfl,rfl,⟨_,rfl⟩,rfl⟩⟩
theorem pe_lst (h:PA X es t):PE X (.List es pos) (tLst t):=by
  intro pins s σ H Q I hq
  refine wpAny_List_spliced (thn (h pos pins s σ H _ I hq) fun us s1 ⟨xs,H1,I1,r,z,q⟩=>⟨by rw [← r.length]; exact z,?_⟩)
  have hf:H1 s1.heap.objs.size=none:=I1.hok.fresh (Nat.le_refl _)
  refine ⟨.ref s1.heap.objs.size,upd H1 s1.heap.objs.size (.lst xs),I1.laid (t':=s1.toks) (fun b u e=>Heap.get?_push_of_some _ e) (Nat.le_refl _) ?_,rfl,q _ hf⟩
  exact ⟨z,us,0,r,Heap.get?_push_size _ rfl⟩
end
abbrev Sp:=List V→Hp→VK→XK→Prop
abbrev CXT:=List Env→Hp→Shared→XK→Value→Shared→Prop
structure Env0 (P:Program) (w:World) (K:PySem.W.Frag) (mg:Str→Option Value) (base:Heap) (A:Around) (outer:List Env) (s:Shared) (H:Hp):Prop where
  frames:A.frames=some outer
  mod:Mod K mg base
  bs:∀ b o,base.get? b=some o→s.heap.get? b=some o∧H b=none
  bsz:base.objs.size≤s.heap.objs.size
  funs:s.heap.FunFrames base outer
  frf:∀ b∈frs outer,H b=none
  hok:HOk P w H s.heap
  bare:AllBare s.gens
def CE (outer:List Env) (P:Program) (w:World) (H:Hp) (s:Shared) (Q:VK) (u:Value) (s':Shared):Prop :=
  ∃ v H',s'.os=s.os∧AllBare s'.gens∧Un (frs outer) [] H H' s.heap s'.heap∧HOk P w H' s'.heap∧RelV v u∧Q v H'
def CR (CX:CXT) (outer:List Env) (P:Program) (w:World) (H:Hp) (s:Shared) (Q:VK) (E:XK) (r:Result) (s':Shared):Prop :=
  match r with
  | .ok (.ret u)=>CE outer P w H s Q u s'
  | .ok _=>False
  | .error e=>CX outer H s E e s'
structure FnOk (P:Program) (w:World) (K:PySem.W.Frag) (mg:Str→Option Value) (base:Heap) (CX:CXT) (k:Nat) (f:Addr) (fd:FuncData) (ps:List Str) (sp:Sp):Prop where
  len:∀ vs H Q E,sp vs H Q E→vs.length=ps.length
  run:∀ (A:Around) (outer:List Env) (s:Shared) (H:Hp) (args:Args) (us:List Value) (vs:List V) (Q:VK) (E:XK),Room k A→Env0 P w K mg base A outer s H→BindsTo s fd args (ps.zip us)→Vals vs us→sp vs H Q E →
    codeAny (model P w) A (.call (.ref f) args) (CR CX outer P w H s Q E) s
section
variable {X:Cx} {pins:List (Addr×Obj)} {σ:St} {H:Hp} {s s':Shared}
theorem Inv.env0 (I:Inv X pins σ H s):Env0 X.prog X.w X.K X.mg X.base X.A X.stack s H :=
  ⟨I.ok.frames,I.ok.mod,I.bs,Nat.le_trans I.ok.bsz I.sz,I.stack,I.stkFree,I.hok,I.bare⟩
theorem Inv.after {Q:VK} {u:Value} (I:Inv X pins σ H s) (h:CE X.stack X.prog X.w H s Q u s'):EP X pins σ Q u s':=by
  obtain ⟨v,H',os,bare,un,hok,r,q⟩:=h
  obtain ⟨hh,g,d,t,os'⟩:=s'
  obtain rfl:os' = s.os:=os
  exact ⟨v,H',I.call (h':=hh) (g':=g) (d':=d) (t':=t) (ch:=[]) un hok bare (fun b z=>absurd z (by simp)),r,q⟩
end
def tCall (sp:Sp) (dvs:List V) (E:XK) (t:TA):TE:=fun σ H Q=>t σ H fun vs H1=>sp (vs++dvs) H1 Q E
def Binds (K:PySem.W.Frag) (fd:FuncData) (ps:List Str) (ds:List Value):Prop :=
  ∀ (s:Shared) (us:List Value),K.In s.heap→(us++ds).length=ps.length→BindsTo s fd ⟨us,[]⟩ (ps.zip (us++ds))
theorem Binds.all {K:PySem.W.Frag} {fd:FuncData} {ps:List Str} (h:∀ us:List Value,us.length=ps.length→bindArgs fd ⟨us,[]⟩=pure (ps.zip us)):Binds K fd ps []:=fun s us _ hl=>by
  rw [List.append_nil] at hl ⊢
  exact .of_eq (h us hl)
def Zjt (CX:CXT) (X:Cx) (E:XK):Prop:=∀ (pins:List (Addr×Obj)) (σ:St) (H:Hp) (s:Shared) (e:Value) (s':Shared),Inv X pins σ H s→CX X.stack H s E e s'→X.xe e s'
section
variable {X:Cx} {CX:CXT} {k:Nat} {f C:Addr} {fd:FuncData} {ps:List Str} {sp:Sp} {dvs:List V} {ds:List Value} {E:XK} {x m:Str} {p pos apos:Pos} {e o:Expr} {es:List Expr} {ta:TE} {t:TA}
theorem run_fn {pins:List (Addr×Obj)} {σ:St} {H:Hp} {s:Shared} {Q:VK} {us:List Value} {vs:List V} (F:FnOk X.prog X.w X.K X.mg X.base CX k f fd ps sp) (hr:Room k X.A) (hb:Binds X.K fd ps ds) (hd:Vals dvs ds) (hx:Zjt CX X E)
    (I:Inv X pins σ H s) (r:Vals vs us) (h:sp (vs++dvs) H Q E):wpAny (model X.prog X.w) X.A (call (.ref f) us) (EP X pins σ Q) X.xe s:=by
  have r2:Vals (vs++dvs) (us++ds):=r.append hd
  have hl:(us++ds).length=ps.length:=by rw [← r2.length]; exact F.len _ _ _ _ h
  refine wpAny_call (codeAny_mono (F.run X.A X.stack s H ⟨us,[]⟩ (us++ds) (vs++dvs) Q E hr I.env0 (hb s us I.kIn hl) r2 h) fun r s' hq=>?_)
  cases r with
  | error e=>exact hx pins σ H s e s' I hq
  | ok fl =>
    cases fl with
    | ret u=>exact I.after hq
    | next=>exact False.elim hq
    | brk=>exact False.elim hq
    | cont=>exact False.elim hq
theorem ZmF (F:FnOk X.prog X.w X.K X.mg X.base CX k f fd ps sp) (hr:Room k X.A) (hg:Gl X x) (hm:X.mg x=some (.ref f)) (hk:PySem.W.keepIn X.K (.ref f)=true) (hb:Binds X.K fd ps ds) (hd:Vals dvs ds) (hx:Zjt CX X E)
    (ha:PA X (e :: es) t) (hdb:(x == ("__debug__" : Str))=false:=by decide) (he:starEach (e :: es) X.env=(false,eval e X.env) :: starEach es X.env:=by rfl) (hpl:(backTo pos (starEach es X.env)).any (·.1)=false:=by rfl) :
    PE X (.Call (.Name x p) (e :: es) [] pos) (tCall sp dvs E t):=by
  intro pins s σ H Q I h
  refine wpAny_Call_Name_kw (Zm6 I hg hm ?_ hdb)
  refine PySem.W.callWith_K (h₀:=X.base) I.ok.mod.kin hk (thn (ha pos pins s σ H _ I h) fun us s1 ⟨vs,H1,I1,r,q⟩=>⟨I1.kIn,?_⟩) he hpl
  exact run_fn F hr hb hd hx I1 r q
structure Mk (K:PySem.W.Frag) (C f:Addr):Prop where
  makes:PySem.W.makesIn K C=true
  init:PySem.W.findIn K (.ref C) "__init__" = some (some (.ref f))
  fn:PySem.W.isFn K (.ref f)=true
  kp:PySem.W.keepIn K (.ref C)=true
end
section
variable {X:Cx} {CX:CXT} {k:Nat} {f C:Addr} {fd:FuncData} {ps ks:List Str} {sp:Sp} {E:XK} {x m:Str} {p pos apos kpos:Pos} {e o:Expr} {es:List Expr} {kws:List Keyword} {te ta:TE} {t tk:TA} {nm:Option Str}
structure KBinds (K:PySem.W.Frag) (fd:FuncData) (ps ks:List Str) (g:List Value→List Value→List Value) (gV:List V→List V→List V):Prop where
  to:∀ (s:Shared) (us ws:List Value),K.In s.heap→(g us ws).length=ps.length→BindsTo s fd ⟨us,ks.zip ws⟩ (ps.zip (g us ws))
  rel:∀ {vs:List V} {us:List Value} {zs:List V} {ws:List Value},Vals vs us→Vals zs ws→Vals (gV vs zs) (g us ws)
variable {g:List Value→List Value→List Value} {gV:List V→List V→List V}
end
structure FnScope (N P:List Str) (sc:Scope):Prop where
  kind:sc.kind = .function
  co:sc.isCoroutine=false
  gen:sc.isGenerator=false
  nd:N.Nodup
  pre:N.take P.length=P
  par:∀ x∈P,sc.names.lookup x=some .local∨sc.names.lookup x=some .cell
  nofree:∀ y∈sc.names,y.2≠.free
theorem ZeK {kindOf:Str→Option NameKind} {x:Str}:∀ {binds:List (Str×Value)} {m:Str→Option Value},(∀ v,(x,v) ∉ binds)→bindL kindOf binds m x=m x
  | [],_,_=>rfl
  | (n,v) :: r,m,h=>by
    unfold bindL
    rw [ZeK fun w hw=>h w (List.mem_cons_of_mem _ hw)]
    split
    · have:x≠n:=by rintro rfl; exact h v List.mem_cons_self
      simp [this]
    · rfl
theorem ZeM {kindOf:Str→Option NameKind} {x:Str}:∀ {binds:List (Str×Value)} {m:Str→Option Value},(∀ v,(x,v) ∉ binds)→bindC kindOf binds m x=m x
  | [],_,_=>rfl
  | (n,v) :: r,m,h=>by
    unfold bindC
    rw [ZeM fun w hw=>h w (List.mem_cons_of_mem _ hw)]
    split
    · rfl
    · have:x≠n:=by rintro rfl; exact h v List.mem_cons_self
      simp [this]
theorem ZeL {kindOf:Str→Option NameKind} {x:Str} {v:Value}:∀ {P:List Str} {vs:List Value} {i:Nat} {m:Str→Option Value},P.Nodup→P[i]? = some x→vs[i]? = some v→kindOf x=some .local →
    bindL kindOf (P.zip vs) m x=some v
  | [],_,_,_,_,h,_,_=>by simp at h
  | _ :: _,[],_,_,_,_,h,_=>by simp at h
  | p :: P,w :: vs,0,m,nd,h1,h2,hk=>by
    simp at h1 h2; subst h1; subst h2
    show bindL kindOf ((p,w) :: P.zip vs) m p=_
    unfold bindL
    rw [ZeK fun v hv=>(List.nodup_cons.mp nd).1 (List.of_mem_zip hv).1,if_pos hk]
    simp
  | p :: P,w :: vs,i + 1,m,nd,h1,h2,hk=>by
    show bindL kindOf ((p,w) :: P.zip vs) m x=_
    unfold bindL
    exact ZeL (i:=i) (List.nodup_cons.mp nd).2 (by simpa using h1) (by simpa using h2) hk
theorem ZeN {kindOf:Str→Option NameKind} {x:Str} {v:Value}:∀ {P:List Str} {vs:List Value} {i:Nat} {m:Str→Option Value},P.Nodup→P[i]? = some x→vs[i]? = some v→kindOf x≠some .local →
    bindC kindOf (P.zip vs) m x=some v
  | [],_,_,_,_,h,_,_=>by simp at h
  | _ :: _,[],_,_,_,_,h,_=>by simp at h
  | p :: P,w :: vs,0,m,nd,h1,h2,hk=>by
    simp at h1 h2; subst h1; subst h2
    show bindC kindOf ((p,w) :: P.zip vs) m p=_
    unfold bindC
    rw [ZeM fun v hv=>(List.nodup_cons.mp nd).1 (List.of_mem_zip hv).1,if_neg hk]
    simp
  | p :: P,w :: vs,i + 1,m,nd,h1,h2,hk=>by
    show bindC kindOf ((p,w) :: P.zip vs) m x=_
    unfold bindC
    exact ZeN (i:=i) (List.nodup_cons.mp nd).2 (by simpa using h1) (by simpa using h2) hk
def start (N:List Str) (vs:List V):St:=vs.map some++List.replicate (N.length - vs.length) none
def cxOf (CX:CXT) (P:Program) (w:World) (K:PySem.W.Frag) (mg:Str→Option Value) (base:Heap) (N:List Str) (qual:Str) (scope:Scope) (f:Addr) (cd:Value) (A:Around) (outer:List Env) (s:Shared) (H:Hp) (E:XK):Cx where
  prog:=P
  w:=w
  K:=K
  mg:=mg
  base:=base
  A:=A.deeper (envOfC qual scope s.heap.objs.size f cd)
  N:=N
  s₀:=s
  H₀:=H
  env:=envOfC qual scope s.heap.objs.size f cd
  outer:=outer
  stack:=envOfC qual scope s.heap.objs.size f cd :: outer
  ex:=[]
  calm:=true
  fn:=fun _=>true
  pn:=[]
  xe:=fun e s'=>wpAny (model P w) (A.deeper (envOfC qual scope s.heap.objs.size f cd)) (leaving (envOfC qual scope s.heap.objs.size f cd) e) (fun _ s''=>CX outer H s E e s'') (fun e' s''=>CX outer H s E e' s'') s'
theorem Zf8 {sc:Scope} {n:Nat} {x:Str} (h:sc.names.lookup x=some .cell):∃ c,(cellsFrom n sc.names []).lookup x=some c:=by
  have q:=PySem.W.cellsFrom_some sc.names n [] (.inl h)
  exact Option.isSome_iff_exists.mp q
theorem ZiA {CX:CXT} {P:Program} {w:World} {K:PySem.W.Frag} {mg:Str→Option Value} {base:Heap} {N ps:List Str} {qual:Str} {scope:Scope} {f:Addr} {cd:Value} {A:Around} {outer:List Env} {s s1:Shared} {H:Hp} {E:XK} {us:List Value} {vs:List V}
    (S:FnScope N ps scope) (hd:A.handled=none) (e0:Env0 P w K mg base A outer s H) (hl:vs.length=ps.length) (r:Vals vs us)
    (x:InCallC s s.heap.objs.size (bindL (envOfC qual scope s.heap.objs.size f cd).kindOf (ps.zip us) fun _=>none) (cellsFrom (s.heap.objs.size + 1) scope.names []) (bindC (envOfC qual scope s.heap.objs.size f cd).kindOf (ps.zip us) fun _=>none) s1) :
    Inv (cxOf CX P w K mg base N qual scope f cd A outer s H E) [] (start N vs) H s1:=by
  have hpl:ps.length≤N.length:=by have:=congrArg List.length S.pre; rw [List.length_take] at this; omega
  obtain ⟨h1,tk,rfl,hk⟩:=x.done
  have noA:∀ b:Addr,b ∉ (cxOf CX P w K mg base N qual scope f cd A outer s H E).ex:=fun b z=>absurd (show b∈([]:List Addr) from z) (by simp)
  refine ⟨⟨e0.mod,S.kind,rfl,rfl,Nat.le_refl _,fun y z c h1 h2=>?_,fun y hy=>?_,fun y c _ h=>?_,fun _=>hd,Around.frames_deeper e0.frames,.inr ⟨rfl,rfl⟩,fun b z=>absurd z (noA b),e0.bs,e0.bsz,fun b _ _=>noA b,fun b z=>absurd z (noA b),e0.funs,e0.frf⟩,
    rfl,e0.bare,Un.kept hk,⟨_,x.toInCall.ns,fun i y v h1 h2 h3=>?_⟩,fun y c h=>⟨_,x.cell y c h⟩,e0.hok.fresh (Nat.le_refl _),fun y c h=>?_,fun p hp=>absurd (show p∈([]:List (Addr×Obj)) from hp) (by simp),e0.hok.kept hk,?_⟩
  · exact name_of_addr x.apart (PySem.mem_of_lookup h1) (PySem.mem_of_lookup h2)
  · have hy:scope.names.lookup y=some .cell∨scope.names.lookup y=some .free:=hy
    rcases hy with hy | hy
    · exact Zf8 hy
    · exact absurd rfl (S.nofree _ (PySem.mem_of_lookup hy))
  · exact Nat.le_of_lt (x.above y c (PySem.mem_of_lookup h))
  · have hi:i < vs.length:=by
      unfold start at h2
      by_cases hi:i < vs.length
      · exact hi
      · rw [List.getElem?_append_right (by simpa using hi)] at h2
        rw [List.getElem?_replicate] at h2
        split at h2 <;> cases h2
    have ha:vs[i]? = some v:=by
      unfold start at h2
      rw [List.getElem?_append_left (by simpa using hi),List.getElem?_map] at h2
      cases e:vs[i]? with
      | none=>rw [e] at h2; cases h2
      | some a=>rw [e] at h2; cases h2; rfl
    obtain ⟨u,hu,rv⟩:=r.get ha
    have hp:ps[i]? = some y:=by
      rw [← S.pre,List.getElem?_take_of_lt (by omega)]; exact h1
    have ndP:ps.Nodup:=by rw [← S.pre]; exact S.nd.sublist (List.take_sublist _ _)
    refine ⟨u,rv,?_⟩
    rcases S.par y (List.mem_of_getElem? hp) with k | k
    · exact .inl ⟨k,ZeL ndP hp hu k⟩
    · obtain ⟨c,e⟩:=Zf8 (n:=s.heap.objs.size + 1) k
      refine .inr ⟨.inl k,c,e,?_⟩
      have q:=x.cell y c e
      rw [ZeN ndP hp hu (by show scope.names.lookup y≠_; rw [k]; decide)] at q
      exact q
  · exact e0.hok.fresh (Nat.le_of_lt (x.above y c (PySem.mem_of_lookup h)))
  · unfold start
    show _=N.length
    rw [List.length_append,List.length_map,List.length_replicate]
    omega
theorem fn_of {CX:CXT} {P:Program} {w:World} {K:PySem.W.Frag} {mg:Str→Option Value} {base:Heap} {k:Nat} {f:Addr} {name qual:Str} {params:Arguments} {body:List Stmt} {scope:Scope} {dV kV doc pm cdv ct oc:Value} {an od:Option Addr}
    {osl:Array (Option Value)} {N ps:List Str} {sp:Sp} (lk:K.lookup f=some ⟨oc,od,.func (PySem.W.fnOf name qual params body scope dV kV doc pm an cdv ct),osl⟩) (hcd:PySem.W.codeIn K cdv qual=true) (S:FnScope N ps scope)
    (len:∀ vs H Q E,sp vs H Q E→vs.length=ps.length)
    (hbody:∀ (A:Around) (outer:List Env) (s:Shared) (H:Hp) (vs:List V) (Q:VK) (E:XK),Room k (A.deeper (envOfC qual scope s.heap.objs.size f cdv))→sp vs H Q E →
      ∃ t,PSs (cxOf CX P w K mg base N qual scope f cdv A outer s H E) body t∧t { nx:=fun _ H'=>Q .non H',rt:=Q } (start N vs) H) :
    FnOk P w K mg base CX (k + 1) f (PySem.W.fnOf name qual params body scope dV kV doc pm an cdv ct) ps sp:=by
  refine ⟨len,fun A outer s H args us vs Q E hr e0 hb r hsp=>?_⟩
  have hl:=len _ _ _ _ hsp
  have KX:K.In s.heap:=e0.mod.kin.keeps fun b o e=>(e0.bs b o e).1
  have lim:s.heap.NoLimit:=e0.mod.nolimit.keeps fun b o e=>(e0.bs b o e).1
  have hkind:∀ y∈ps.zip us,scope.names.lookup y.1=some .local∨(scope.names.lookup y.1=some .cell∧((cellsFrom (s.heap.objs.size + 1) scope.names []).lookup y.1).isSome=true):=fun ⟨n,v⟩ hy=>by
    rcases S.par n (List.of_mem_zip hy).1 with q | q
    · exact .inl q
    · exact .inr ⟨q,PySem.W.cellsFrom_some _ _ _ (.inl q)⟩
  refine codeAny_call_function hr.depth (KX _ _ lk) rfl S.co S.gen rfl (PySem.W.codeRec_of KX hcd) (hb _ _ _ _ ?_)
  refine wpAny_newFunctionEnv_cells S.kind hkind fun env he s1 x=>?_
  subst he
  refine ⟨lim.keeps x.toInCall.keep,codeAny_func ?_⟩
  obtain ⟨t,ht,hq⟩:=hbody A outer s H vs Q E (hr.deeper _) hsp
  have I:Inv (cxOf CX P w K mg base N qual scope f cdv A outer s H E) [] (start N vs) H s1:=ZiA S hr.hd e0 hl r x
  refine wpAny_mono (ht [] s1 (start N vs) H _ I hq) (fun fl s' hs=>?_) fun e s' hs=>hs
  have fin:∀ {σ':St} {H':Hp} {v:V} {u:Value},Inv (cxOf CX P w K mg base N qual scope f cdv A outer s H E) [] σ' H' s'→RelV v u→Q v H'→CE outer P w H s Q u s' :=
    fun {σ' H' v u} J rv q=>⟨v,H',J.os,J.bare,J.base,J.hok,rv,q⟩
  cases fl with
  | ret u =>
    obtain ⟨v,σ',H',J,rv,q⟩:=hs
    exact fin J rv q
  | next =>
    obtain ⟨σ',H',J,q⟩:=hs
    exact fin (v:=V.non) (u:=Value.none) J rfl q
  | brk =>
    obtain ⟨_,_,_,q⟩:=hs
    exact False.elim q
  | cont =>
    obtain ⟨_,_,_,q⟩:=hs
    exact False.elim q
end L2
namespace L2
open PySem PySem.Spec PyProof.Rows
section
variable {X:Cx} {x:Str} {p pos:Pos} {e:Expr} {es:List Expr} {t:TA} {id T:String} {r:List V→Hp→VK→Prop}
def tCB (r:List V→Hp→VK→Prop) (t:TA):TE:=fun σ H Q=>t σ H fun vs H1=>r vs H1 Q
theorem ZfT (hc:Xg X (.builtin id) r) (hg:Gl X x) (hm:X.mg x=none) (hv:bootBuiltins x=some (.builtin id)) (ha:PA X (e :: es) t) (hn:x≠"__name__":=by decide) (hdb:(x == ("__debug__" : Str))=false:=by decide)
    (he:starEach (e :: es) X.env=(false,eval e X.env) :: starEach es X.env:=by rfl) (hpl:(backTo pos (starEach es X.env)).any (·.1)=false:=by rfl):PE X (.Call (.Name x p) (e :: es) [] pos) (tCB r t):=by
  intro pins s σ H Q I h
  refine wpAny_Call_Name_kw (ZaL I hg hm hv ?_ hn hdb)
  exact PyProof.Rows.callWith_builtin1 (thn (ha pos pins s σ H _ I h) fun us s1 ⟨vs,H1,I1,r1,q1⟩=>hc pins s1 σ H1 vs us Q I1 r1 q1) he hpl
theorem ZhX (hc:Xg X (.type T) r) (hg:Gl X x) (hm:X.mg x=none) (hv:bootBuiltins x=some (.type T)) (ha:PA X (e :: es) t) (hn:x≠"__name__":=by decide) (hdb:(x == ("__debug__" : Str))=false:=by decide)
    (he:starEach (e :: es) X.env=(false,eval e X.env) :: starEach es X.env:=by rfl) (hpl:(backTo pos (starEach es X.env)).any (·.1)=false:=by rfl):PE X (.Call (.Name x p) (e :: es) [] pos) (tCB r t):=by
  intro pins s σ H Q I h
  refine wpAny_Call_Name_kw (ZaL I hg hm hv ?_ hn hdb)
  exact PyProof.Rows.callWith_type1 (thn (ha pos pins s σ H _ I h) fun us s1 ⟨vs,H1,I1,r1,q1⟩=>hc pins s1 σ H1 vs us Q I1 r1 q1) he hpl
end
end L2
namespace HT
open PySem PyProof.Rows
section
open PySem.SeqAt
open PySem.AutoSeq1 (wpAny_loadPart')
open PySem.MeetsSeq PySem.MeetsSeq2 PySem.MeetsSeq3
end
section
variable {prog:Program} {w:World} {A:Around} {E:Value→Shared→Prop} {s:Shared}
theorem cat_tup {t b:Addr} {vs ws:List Value} {Q:Value→Shared→Prop} (ht:IsTup s.heap t vs.toArray) (hb:IsTup s.heap b ws.toArray) (hv:vs≠[])
    (h1:ws=[]→Q (.ref t) s) (h2:ws≠[]→Q (.ref s.heap.objs.size) { s with heap:=s.heap.push { cls:=.type "tuple",data:=.seq (vs++ws).toArray } })
    (hsz:vs.length + ws.length≤sizeLine):wpAny (model prog w) A (binaryOp .Add (.ref t) (.ref b)) Q E s:=by
  obtain ⟨⟨cls,dd,data,sl⟩,ho,hc,n,hd⟩:=id ht
  obtain ⟨⟨cls2,dd2,data2,sl2⟩,ho2,hc2,n2,hd2⟩:=id hb
  simp only at hc hd hc2 hd2
  subst hc hd hc2 hd2
  have e:vs.toArray++ws.toArray=(vs++ws).toArray:=by simp
  by_cases hw:ws=[]
  · exact concat_meets ⟨_,ho,rfl⟩ ⟨_,ho2,rfl⟩ noFill_tuple_add seq_tuple_add PySem.F.slot_tuple_add PySem.F.entry_tuple_add (PySem.F.args_tuple_add_2 _ _)
      (tuple_addW1 t b vs.toArray ws.toArray n n2 dd dd2 sl sl2 (by simpa using hv) (by simp [hw])) ⟨ho,ho2,h1 hw⟩
  · refine concat_meets ⟨_,ho,rfl⟩ ⟨_,ho2,rfl⟩ noFill_tuple_add seq_tuple_add PySem.F.slot_tuple_add PySem.F.entry_tuple_add (PySem.F.args_tuple_add_2 _ _)
      (tuple_addW2 t b vs.toArray ws.toArray n n2 dd dd2 sl sl2 (by simpa using hv) (by simpa using hw) (by rw [List.size_toArray,List.size_toArray]; exact hsz)) ⟨ho,ho2,?_⟩
    rw [e]
    exact h2 hw
def sIx (n d:Nat):Option Int→Nat
  | none=>d
  | some v=>if v < 0 then (v + (n:Int)).toNat else min v.toNat n
theorem sIx_le (n d:Nat) (hd:d≤n) (o:Option Int):sIx n d o≤n:=by
  cases o with
  | none=>exact hd
  | some v =>
    show (if v < 0 then (v + (n:Int)).toNat else min v.toNat n)≤n
    by_cases hv:v < 0
    · rw [if_pos hv]; omega
    · rw [if_neg hv]; exact Nat.min_le_right _ _
theorem Zi2 (v:Int) (n d:Nat):(if v < 0 then max (v + (n:Int)) 0 else min v (n:Int))=((sIx n d (some v):Nat):Int):=by
  show (if v < 0 then max (v + (n:Int)) 0 else min v (n:Int))=(((if v < 0 then (v + (n:Int)).toNat else min v.toNat n):Nat):Int)
  by_cases hv:v < 0
  · simp only [if_pos hv]; omega
  · simp only [if_neg hv]; omega
theorem Zhl (lo hi:Option Int) (n:Nat):Builtin.Slice.sliceAdjust lo hi 1 (n:Int)=(((sIx n 0 lo:Nat):Int),((sIx n n hi:Nat):Int)):=by
  have h1:¬ ((1:Int) < 0):=by omega
  unfold Builtin.Slice.sliceAdjust
  simp only [h1,if_false]
  refine Prod.ext ?_ ?_
  · cases lo with
    | none=>rfl
    | some v=>exact Zi2 v n 0
  · cases hi with
    | none=>rfl
    | some v=>exact Zi2 v n n
theorem ZgD (i j:Nat):Builtin.Slice.slicePlaces (i:Int) (j:Int) 1=j - i:=by
  unfold Builtin.Slice.slicePlaces
  have h1:(1:Int) > 0:=by omega
  simp only [h1,if_true,Int.ediv_one]
  split <;> omega
theorem ZcF {v:Value} {o:Option Int} {Q:Option Int→Shared→Prop} (p:IsPart v o) (h:Q o s):wpAny (model prog w) A (Builtin.Slice.slicePartIndex v) Q E s:=by
  cases p with
  | none=>exact slicePart_none h
  | int i t=>exact slicePart_int h
theorem sliceApplied_gen {sl:Addr} {vl vu:Value} {lo hi:Option Int} {n:Nat} {Q:Int×Int×Nat→Shared→Prop} (hs:s.heap.IsSliceOf sl vl vu .none) (pl:IsPart vl lo) (pu:IsPart vu hi)
    (h:Q (((sIx n 0 lo:Nat):Int),1,sIx n n hi - sIx n 0 lo) s):wpAny (model prog w) A (Builtin.Slice.sliceApplied (.ref sl) (pure (n:Int))) Q E s:=by
  obtain ⟨os,hos,hcs,hds⟩:=id hs
  unfold Builtin.Slice.sliceApplied Builtin.Slice.sliceFields
  refine wpAny_bind (wpAny_bind (wpAny_field hos hds (x:=vl) rfl (wpAny_bind (wpAny_field hos hds (x:=vu) rfl (wpAny_bind (wpAny_field hos hds (x:=.none) rfl (wpAny_pure ?_)))))))
  refine wpAny_bind (slicePart_none ?_)
  show wpAny _ _ (if ((1:Int) == 0)=true then _ else _) _ _ s
  rw [if_neg (by decide)]
  refine wpAny_bind (ZcF pl (wpAny_bind (ZcF pu (wpAny_bind (wpAny_pure ?_)))))
  show wpAny _ _ (match Builtin.Slice.sliceAdjust lo hi 1 (n:Int) with | (lo,hi)=>pure (lo,(1:Int),Builtin.Slice.slicePlaces lo hi 1)) _ _ s
  rw [Zhl lo hi n]
  show wpAny _ _ (pure (((sIx n 0 lo:Nat):Int),(1:Int),Builtin.Slice.slicePlaces ((sIx n 0 lo:Nat):Int) ((sIx n n hi:Nat):Int) 1)) _ _ s
  rw [ZgD]
  exact wpAny_pure h
theorem Zkc (xs:Array Value) (i k:Nat):((List.range k).filterMap fun (m:Nat)=>xs[((i:Int) + (m:Int) * 1).toNat]?).toArray=((xs.toList.drop i).take k).toArray:=by
  have e:(fun (m:Nat)=>xs[((i:Int) + (m:Int) * 1).toNat]?)=fun m=>xs[i + m]?:=by
    funext m
    have:((i:Int) + (m:Int) * 1).toNat=i + m:=by omega
    rw [this]
  rw [e]
  have:=pick_run xs i k
  rw [List.filterMap_map] at this
  have e2:((fun x=>xs[x]?) ∘ fun x=>i + x)=fun m=>xs[i + m]?:=rfl
  rw [e2] at this
  rw [this]
theorem getItem_tuple_cut {t sl:Addr} {items:Array Value} {vl vu:Value} {lo hi:Option Int} {Q:Value→Shared→Prop} (ht:IsTup s.heap t items) (hs:s.heap.IsSliceOf sl vl vu .none) (pl:IsPart vl lo) (pu:IsPart vu hi)
    (hw:¬ (sIx items.size 0 lo=0∧sIx items.size items.size hi=items.size))
    (h:Q (.ref s.heap.objs.size) { s with heap:=s.heap.push { cls:=.type "tuple",data:=.seq ((items.toList.drop (sIx items.size 0 lo)).take (sIx items.size items.size hi - sIx items.size 0 lo)).toArray } })
    (hsz:items.size≤sizeLine):wpAny (model prog w) A (getItem (.ref t) (.ref sl)) Q E s:=by
  have htake:sizeOk (.seq ((items.toList.drop (sIx items.size 0 lo)).take (sIx items.size items.size hi - sIx items.size 0 lo)).toArray):=by
    show ((items.toList.drop (sIx items.size 0 lo)).take (sIx items.size items.size hi - sIx items.size 0 lo)).toArray.size≤sizeLine
    rw [List.size_toArray,List.length_take,List.length_drop,Array.length_toList]
    omega
  have hj:sIx items.size items.size hi≤items.size:=sIx_le _ _ (Nat.le_refl _) hi
  obtain ⟨os,hos,hcs,hds⟩:=id hs
  have hTs:s.TypeIs (.ref sl) "slice":=⟨os,hos,hcs⟩
  unfold getItem
  try with_reducible refine wpAny_holding ?_
  first | refine wpAny_bind (wpAny_pure ?_) | skip
  refine wpAny_bind (wpAny_sequenceKey ht.typeIs (by decide) ?_)
  refine wpAny_bind (wpAny_callSpecial?_slot (name:=Str.ofString "__getitem__") ht.typeIs PyProof.Rows.slot_tuple_getitem
    (wpAny_call_entry PyProof.Rows.slot_tuple_getitem ht.typeIs entry_tuple_getitem ?_ (args_tuple_getitem _ _)))
  show wpAny _ _ (Builtin.Tuple.tupleItemsOf (.ref t) >>= _) _ _ s
  refine wpAny_bind (tupleItemsOf_ ht ?_)
  refine wpAny_bind (wpAny_typeOf hTs ?_)
  rw [if_pos (by decide)]
  refine wpAny_bind (sliceApplied_gen hs pl pu ?_)
  have hno:¬ ((((sIx items.size 0 lo:Nat):Int) == 0 && (1:Int) == 1 && (sIx items.size items.size hi - sIx items.size 0 lo) == items.size)=true):=by
    intro q
    rw [Bool.and_eq_true,Bool.and_eq_true] at q
    have q1:((sIx items.size 0 lo:Nat):Int)=0:=eq_of_beq q.1.1
    have q2:sIx items.size items.size hi - sIx items.size 0 lo=items.size:=eq_of_beq q.2
    exact hw ⟨by omega,by omega⟩
  show wpAny _ _ (if (((sIx items.size 0 lo:Nat):Int) == 0 && (1:Int) == 1 && (sIx items.size items.size hi - sIx items.size 0 lo) == items.size)=true then _ else _) _ _ s
  rw [if_neg hno,Zkc]
  first
    | exact wpAny_bind (m:=Builtin.Tuple.tupleExact _) (wpAny_newObj_type (wpAny_pure ⟨_,rfl,wpAny_pure h⟩) htake)
    | exact wpAny_bind (m:=Builtin.Tuple.tupleExact _) (wpAny_newObj_type (wpAny_bind (wpAny_pure (wpAny_pure ⟨_,rfl,wpAny_pure h⟩))) htake)
    | exact wpAny_bind (wpAny_bind (m:=Builtin.Tuple.tupleExact _) (wpAny_newObj_type (wpAny_pure (wpAny_pure ⟨_,rfl,wpAny_pure h⟩)) htake))
    | exact wpAny_bind (wpAny_bind (m:=Builtin.Tuple.tupleExact _) (wpAny_newObj_type (wpAny_pure ⟨_,rfl,wpAny_pure h⟩) htake))
end
end HT
namespace L2
open PySem PySem.Spec PyProof.Rows
abbrev TO:=St→Hp→(Option Int→Hp→Prop)→Prop
def PO (X:Cx) (e:Option Expr) (t:TO):Prop :=
  ∀ (pins:List (Addr×Obj)) (s:Shared) (σ:St) (H:Hp) (Q:Option Int→Hp→Prop),Inv X pins σ H s→t σ H Q →
    wpAny (model X.prog X.w) X.A (evalPart e X.env) (fun u s'=>∃ o H',Inv X pins σ H' s'∧IsPart u o∧Q o H') X.xe s
def Zl3:TO:=fun _ H Q=>Q none H
def tPart (t:TE):TO:=fun σ H Q=>t σ H fun x H1=>∃ i,x = .int i∧Q (some i) H1
theorem intsAre_of {ns:List Int}:∀ {us:List Value},Vals (ns.map V.int) us→IntsAre us ns:=by
  induction ns with
  | nil=>intro us r; rw [List.map_nil] at r; cases r; exact .nil
  | cons n ns ih =>
    intro us r
    rw [List.map_cons] at r
    cases r with
    | cons r1 r2 =>
      obtain ⟨t,e⟩:=r1
      subst e
      exact .cons n t (ih r2)
section
variable {X:Cx} {e:Expr} {te:TE} {lo hi:Option Expr} {tl th:TO} {pos p2:Pos}
theorem Zmm:PO X none Zl3:=by
  intro pins s σ H Q I h
  rw [evalPart_none]
  exact wpAny_pure ⟨none,H,I,.none,h⟩
theorem Zml (h:PE X e te):PO X (some e) (tPart te):=by
  intro pins s σ H Q I hw
  rw [evalPart_some]
  refine thn (h pins s σ H _ I hw) fun u s1 ⟨x,H1,I1,r1,q1⟩=>?_
  obtain ⟨i,rfl,q⟩:=q1
  obtain ⟨t,rfl⟩:=r1
  exact ⟨some i,H1,I1,.int i t,q⟩
def SlR (X:Cx) (r:V→Option Int→Option Int→Hp→VK→Prop):Prop :=
  ∀ (pins:List (Addr×Obj)) (s:Shared) (σ:St) (H:Hp) (x:V) (v vl vu:Value) (lo hi:Option Int) (sl:Addr) (Q:VK),Inv X pins σ H s→RelV x v→s.heap.IsSliceOf sl vl vu .none→IsPart vl lo→IsPart vu hi→r x lo hi H Q →
    ∃ T id,typeLookup (.type T) "__getitem__" = pure (some (.builtin id))∧s.TypeIs v T∧wpAny (model X.prog X.w) X.A (getItem v (.ref sl)) (EP X pins σ Q) X.xe s
def tSl (r:V→Option Int→Option Int→Hp→VK→Prop) (te:TE) (tl th:TO):TE:=fun σ H Q=>te σ H fun x H1=>tl σ H1 fun l H2=>th σ H2 fun u H3=>r x l u H3 Q
theorem Zkh {r:V→Option Int→Option Int→Hp→VK→Prop} (hr:SlR X r) (he:PE X e te) (hl:PO X lo tl) (hu:PO X hi th):PE X (.Subscript e (.Slice lo hi none p2) pos) (tSl r te tl th):=by
  intro pins s σ H Q I h
  refine Subscript_ (thn (he pins s σ H _ I h) fun v s1 ⟨x,H1,I1,r1,q1⟩=>?_)
  refine wpAny_Slice (thn (hl pins s1 σ H1 _ I1 q1) fun vl s2 ⟨l,H2,I2,pl,q2⟩=>thn (hu pins s2 σ H2 _ I2 q2) fun vu s3 ⟨u,H3,I3,pu,q3⟩=>?_)
  rw [evalPart_none]
  refine wpAny_pure ?_
  have I4:Inv X pins σ H3 { s3 with heap:=s3.heap.push { cls:=.type "slice",data:=.fields #[vl,vu,.none] } }:=I3.kept (t':=s3.toks) fun b ob q=>Heap.get?_push_of_some _ q
  obtain ⟨T,id,hT,ht,hg⟩:=hr pins { s3 with heap:=s3.heap.push { cls:=.type "slice",data:=.fields #[vl,vu,.none] } } σ H3 x v vl vu l u s3.heap.objs.size Q I4 r1 (Heap.IsSliceOf.new ..) pl pu q3
  show wpAny (model X.prog X.w) X.A (subscriptTail e (.Slice lo hi none p2) v (.ref s3.heap.objs.size)) (EP X pins σ Q) X.xe { s3 with heap:=s3.heap.push { cls:=.type "slice",data:=.fields #[vl,vu,.none] } }
  exact tail_any (ops:=[.ref s3.heap.objs.size,v]) ht hT hg (by with_unfolding_all rfl)
def cutV (xs:List V) (lo hi:Option Int):List V:=(xs.drop (HT.sIx xs.length 0 lo)).take (HT.sIx xs.length xs.length hi - HT.sIx xs.length 0 lo)
theorem Zci (xs:List V) (lo hi:Option Int):(cutV xs lo hi).length≤xs.length:=by
  unfold cutV
  rw [List.length_take,List.length_drop]
  omega
def rSlT (K:PySem.W.Frag):V→Option Int→Option Int→Hp→VK→Prop:=fun x lo hi H Q=>∃ a xs,x = .ref a∧SqT K H a xs ∧
  ¬ (HT.sIx xs.length 0 lo=0∧HT.sIx xs.length xs.length hi=xs.length)∧∀ p,H p=none→Q (.ref p) (upd H p (.tup (cutV xs lo hi)))
theorem sl_tup:SlR X (rSlT X.K):=by
  intro pins s σ H x v vl vu lo hi sl Q I rx hs pl pu h
  obtain ⟨a,xs,rfl,hx,hw,q⟩:=h
  cases rx
  obtain ⟨its,r,ht,hz⟩:=I.tuple hx
  have hlen:its.toArray.size=xs.length:=by rw [List.size_toArray]; exact r.length.symm
  refine ⟨"tuple",_,PyProof.Rows.slot_tuple_getitem.lookup,ht.typeIs,?_⟩
  refine HT.getItem_tuple_cut ht hs pl pu (by rw [hlen]; exact hw) ?_ (by rw [hlen]; exact hz)
  rw [hlen]
  refine ⟨.ref s.heap.objs.size,_,I.laid (t':=s.toks) (o:=.tup (cutV xs lo hi)) (fun b ob q=>Heap.get?_push_of_some _ q) (Nat.le_refl _) ?_,rfl,q _ (I.hok.fresh (Nat.le_refl _))⟩
  exact ⟨Nat.le_trans (Zci xs lo hi) hz,_,(r.drop (HT.sIx xs.length 0 lo)).take (HT.sIx xs.length xs.length hi - HT.sIx xs.length 0 lo),TupP.new _ _⟩
def rCatT (K:PySem.W.Frag):R2:=fun x y H Q=>∃ a b xs ys,x = .ref a∧y = .ref b∧SqT K H a xs∧SqT K H b ys∧xs≠[]∧xs.length + ys.length≤sizeLine ∧
  (ys=[]→Q (.ref a) H)∧(ys≠[]→∀ p,H p=none→Q (.ref p) (upd H p (.tup (xs++ys))))
theorem Vals.nil_iff {xs:List V} {us:List Value} (r:Vals xs us):us=[]↔xs=[]:=by
  cases r with
  | nil=>simp
  | cons _ _=>simp
theorem ZmQ:OpR X (binaryOp .Add) (rCatT X.K):=by
  intro pins s σ H x y v u Q I rx ry h
  obtain ⟨a,b,xs,ys,rfl,rfl,ha,hb,hx,hz,q1,q2⟩:=h
  cases rx
  cases ry
  obtain ⟨its,r1,p1,_⟩:=I.tuple ha
  obtain ⟨its2,r2,p2,_⟩:=I.tuple hb
  refine HT.cat_tup p1 p2 (fun z=>hx (r1.nil_iff.mp z)) (fun z=>⟨.ref a,H,I,rfl,q1 (r2.nil_iff.mp z)⟩) (fun z=>?_) (by rw [← r1.length,← r2.length]; exact hz)
  refine ⟨.ref s.heap.objs.size,_,I.laid (t':=s.toks) (o:=.tup (xs++ys)) (fun b ob q=>Heap.get?_push_of_some _ q) (Nat.le_refl _) ?_,rfl,q2 (fun w=>z (r2.nil_iff.mpr w)) _ (I.hok.fresh (Nat.le_refl _))⟩
  exact ⟨by rw [List.length_append]; exact hz,_,r1.append r2,TupP.new _ _⟩
end
end L2
namespace L2
open PySem PySem.Spec PyProof.Rows
def ixN (n:Nat) (i:Int):Option Nat:=if 0≤i then (if i < n then some i.toNat else none) else if -(n:Int)≤i then some (i + n).toNat else none
def atI {α:Type} (xs:List α) (i:Int):Option α:=(ixN xs.length i).bind fun j=>xs[j]?
theorem Ziy {n:Nat} {i:Int} {j:Nat} (h:ixN n i=some j):seqIndex? i n=some j∧j < n∧-(n:Int)≤i∧i < n:=by
  unfold ixN at h
  by_cases h0:0≤i
  · rw [if_pos h0] at h
    by_cases h1:i < n
    · rw [if_pos h1] at h
      have e:i.toNat=j:=Option.some.inj h
      exact ⟨by rw [seqIndex_of h0 h1,e],by omega,by omega,h1⟩
    · rw [if_neg h1] at h; cases h
  · rw [if_neg h0] at h
    by_cases h1:-(n:Int)≤i
    · rw [if_pos h1] at h
      have e:(i + n).toNat=j:=Option.some.inj h
      exact ⟨by rw [seqIndex_neg (by omega) h1,e],by omega,h1,by omega⟩
    · rw [if_neg h1] at h; cases h
theorem ZfC {α:Type} {xs:List α} {i:Int} {v:α} (h:atI xs i=some v):∃ j,seqIndex? i xs.length=some j∧xs[j]? = some v∧j < xs.length∧-(xs.length:Int)≤i∧i < xs.length:=by
  unfold atI at h
  cases e:ixN xs.length i with
  | none=>rw [e] at h; cases h
  | some j =>
    rw [e] at h
    obtain ⟨h1,h2,h3,h4⟩:=Ziy e
    exact ⟨j,h1,h,h2,h3,h4⟩
def Zjs (b:Expr):Prop:=∀ o i,subscripted b false o i=operate [o,i] (getItem o i)
def IxR (X:Cx) (r:R2):Prop :=
  ∀ (value slice:Expr) (pins:List (Addr×Obj)) (s:Shared) (σ:St) (H:Hp) (x y:V) (v u:Value) (Q:VK),Inv X pins σ H s→RelV x v→RelV y u→r x y H Q →
    subscripted slice false v u=operate [v,u] (getItem v u)→wpAny (model X.prog X.w) X.A (subscriptTail value slice v u) (EP X pins σ Q) X.xe s
def MtR (X:Cx) (id:String) (r:V→List V→Hp→VK→Prop):Prop :=
  ∀ (pins:List (Addr×Obj)) (s:Shared) (σ:St) (H:Hp) (x:V) (xs:List V) (v:Value) (us:List Value) (Q:VK),Inv X pins σ H s→RelV x v→Vals xs us→r x xs H Q →
    wpAny (model X.prog X.w) X.A (call (.builtin id) (v :: us)) (EP X pins σ Q) X.xe s
section
variable {X:Cx} {a b:Expr} {ta tb:TE} {pos:Pos}
theorem pe_ix {r:R2} (hr:IxR X r) (ha:PE X a ta) (hb:PE X b tb) (hs:Zjs b):PE X (.Subscript a b pos) (tOp r ta tb):=by
  intro pins s σ H Q I h
  exact Subscript_ (binT ha hb I h fun v u s2 x y H2 I2 rx ry q=>hr a b pins s2 σ H2 x y v u Q I2 rx ry q (hs _ _))
def rIxL (K:PySem.W.Frag):R2:=fun x y H Q=>∃ p xs i v,x = .ref p∧y = .int i∧SqL K H p xs∧atI xs i=some v∧Q v H
def rIxT (K:PySem.W.Frag):R2:=fun x y H Q=>∃ p xs i v,x = .ref p∧y = .int i∧SqT K H p xs∧atI xs i=some v∧Q v H
def rIxS:R2:=fun x y H Q=>∃ z i c,x = .str z∧y = .int i∧z.length≤sizeLine∧atI z.cps.toList i=some c∧Q (.str ⟨#[c]⟩) H
theorem Zix:IxR X (rIxL X.K):=by
  intro value slice pins s σ H x y v u Q I rx ry h hs
  obtain ⟨p,xs,i,z,rfl,rfl,hq,he,q⟩:=h
  cases rx
  obtain ⟨t,rfl⟩:=ry
  obtain ⟨its,r,pl,hz⟩:=I.list hq
  obtain ⟨j,h1,h2,h3,h4,h5⟩:=ZfC he
  obtain ⟨w,ew,rw'⟩:=r.get h2
  have hl:=r.length
  have hn:=ZcO
  have fin:EP X pins σ Q w s:=⟨z,H,I,rw',q⟩
  by_cases h0:0≤i
  · have hj:i.toNat=j:=by
      rw [seqIndex_of h0 h5] at h1
      exact Option.some.inj h1
    exact item_listR pl.isList h0 (by omega) (by rw [hj]; simpa using ew) fin hs
  · have hj:(i + (its.toArray.size:Int)).toNat=j:=by
      rw [seqIndex_neg (by omega) h4] at h1
      rw [List.size_toArray,← hl]
      exact Option.some.inj h1
    exact subscriptTail_builtinR (x:=w) pl.isList.typeIs slot_list_getitem.lookup
      (wpAny_getItem_list_neg (Q:=fun r s'=>r=w∧EP X pins σ Q r s') pl.isList (by omega) (by rw [List.size_toArray] <;> omega) (by omega) (by rw [hj]; simpa using ew) ⟨rfl,fin⟩) hs
theorem ix_tup:IxR X (rIxT X.K):=by
  intro value slice pins s σ H x y v u Q I rx ry h hs
  obtain ⟨p,xs,i,z,rfl,rfl,hq,he,q⟩:=h
  cases rx
  obtain ⟨t,rfl⟩:=ry
  obtain ⟨its,r,pl,hz⟩:=I.tuple hq
  obtain ⟨j,h1,h2,h3,h4,h5⟩:=ZfC he
  obtain ⟨w,ew,rw'⟩:=r.get h2
  have hl:=r.length
  have hn:=ZcO
  have fin:EP X pins σ Q w s:=⟨z,H,I,rw',q⟩
  exact subscriptTail_builtinR (x:=w) pl.typeIs slot_tuple_getitem.lookup
    (getItem_tuple (j:=j) (Q:=fun r s'=>r=w∧EP X pins σ Q r s') pl (by omega) (by omega) (by rw [List.size_toArray,← hl]; exact h1) (by simpa using ew) ⟨rfl,fin⟩) hs
theorem ix_str:IxR X rIxS:=by
  intro value slice pins s σ H x y v u Q I rx ry h hs
  obtain ⟨z,i,c,rfl,rfl,hz,he,q⟩:=h
  obtain ⟨t,rfl⟩:=rx
  obtain ⟨t',rfl⟩:=ry
  obtain ⟨j,h1,h2,h3,h4,h5⟩:=ZfC he
  have hl:z.cps.toList.length=z.length:=by simp [Str.length]
  rw [hl] at h1 h4 h5
  have hn:=ZcO
  exact tail_any (typeIs_str s z t) slot_str_getitem.lookup (getItem_str (c:=c) (by
    have e1:decide (i < -(2 ^ 63:Int))=false:=decide_eq_false (by omega)
    have e2:decide (i ≥ 2 ^ 63)=false:=decide_eq_false (by omega)
    rw [e1,e2,Bool.or_false]) (by rw [h1]; simpa using h2) ⟨.str ⟨#[c]⟩,H,I.tok _,⟨_,rfl⟩,q⟩) hs
theorem Zg2 (its:List Value) (n j:Nat) (u:Value):Obj.mapSeq (·.setIfInBounds j u) { cls:=.type "list",data:=.seq its.toArray n } = { cls:=.type "list",data:=.seq (its.set j u).toArray n }:=by
  simp [Obj.mapSeq]
theorem Inv.lst {pins:List (Addr×Obj)} {σ:St} {H:Hp} {s:Shared} {p:Addr} {xs:List V} (I:Inv X pins σ H s) (h:H p=some (.lst xs)) :
    ∃ (its:List Value) (n:Nat),Vals xs its∧s.heap.get? p=some { cls:=.type "list",data:=.seq its.toArray n }∧xs.length≤sizeLine:=by
  obtain ⟨z,its,n,r,e⟩:=I.hok p _ h
  exact ⟨its,n,r,e,z⟩
theorem Inv.lstUpd {pins:List (Addr×Obj)} {σ:St} {H:Hp} {s:Shared} {p:Addr} {xs ys:List V} {its its':List Value} {n n':Nat} {f:Obj→Obj} (I:Inv X pins σ H s) (h:H p=some (.lst xs))
    (ho:s.heap.get? p=some { cls:=.type "list",data:=.seq its.toArray n }) (hf:f { cls:=.type "list",data:=.seq its.toArray n } = { cls:=.type "list",data:=.seq its'.toArray n' }) (r:Vals ys its') (hz:ys.length≤sizeLine) (t:Nat) :
    Inv X pins σ (upd H p (.lst ys)) { s with heap:=s.heap.update p f,toks:=t }:=by
  have e:(s.heap.update p f).get? p=some { cls:=.type "list",data:=.seq its'.toArray n' }:=by
    rw [Heap.get?_update_self f ho (by rw [hf] <;> rfl),hf]
  refine I.write (x:=p) (e:=p) (by rw [h]; trivial) (.inl rfl) (fun b u hb q=>(Heap.get?_update_other _ _ (Ne.symm hb)).trans q) ⟨_,e⟩ ?_
  exact ⟨hz,its',n',r,e⟩
def rSetL:V→V→V→Hp→(Hp→Prop)→Prop:=fun o i v H Q=>∃ p xs k j,o = .ref p∧i = .int k∧H p=some (.lst xs)∧ixN xs.length k=some j∧Q (upd H p (.lst (xs.set j v)))
theorem set_list:PSet X rSetL:=by
  intro pins s σ H o i v ov iv u Q I ro ri rv h
  obtain ⟨p,xs,k,j,rfl,rfl,hp,hj,q⟩:=h
  cases ro
  obtain ⟨t,rfl⟩:=ri
  obtain ⟨its,n,r,ho,hz⟩:=I.lst hp
  obtain ⟨h1,h2,h3,h4⟩:=Ziy hj
  have hl:=r.length
  have hn:=ZcO
  have I':Inv X pins σ (upd H p (.lst (xs.set j v))) { s with heap:=s.heap.update p (Obj.mapSeq (·.setIfInBounds j u)) } :=
    I.lstUpd hp ho (Zg2 its n j u) (r.set rv j) (by rw [List.length_set]; exact hz) s.toks
  by_cases h0:0≤k
  · have hk:k.toNat=j:=by
      rw [seqIndex_of h0 h4] at h1
      exact Option.some.inj h1
    exact PySem.W.ki_setAt ho h0 (by omega) (by rw [List.size_toArray,← hl]; exact h4) (by rw [hk]; exact ⟨_,I',q⟩)
  · have hk:(k + (its.toArray.size:Int)).toNat=j:=by
      rw [seqIndex_neg (by omega) h3] at h1
      rw [List.size_toArray,← hl]
      exact Option.some.inj h1
    exact PySem.W.ki_setBack ho (by omega) (by rw [List.size_toArray,← hl]; exact h3) (by omega) (by rw [hk]; exact ⟨_,I',q⟩)
theorem ZdR (lo hi:Option Int) (n:Nat):(sliceBounds lo hi none n).1=((HT.sIx n 0 lo:Nat):Int)∧(sliceBounds lo hi none n).2.1=((HT.sIx n n hi:Nat):Int)∧(sliceBounds lo hi none n).2.2=1:=by
  refine ⟨?_,?_,rfl⟩
  · cases lo with
    | none=>simp [sliceBounds,HT.sIx]
    | some i =>
      simp only [sliceBounds,HT.sIx,Option.getD_none,show (1:Int) > 0 by decide,if_true]
      by_cases h:i < 0
      · simp only [h,if_true] <;> omega
      · simp only [h,if_false] <;> omega
  · cases hi with
    | none=>simp [sliceBounds,HT.sIx]
    | some i =>
      simp only [sliceBounds,HT.sIx,Option.getD_none,show (1:Int) > 0 by decide,if_true]
      by_cases h:i < 0
      · simp only [h,if_true] <;> omega
      · simp only [h,if_false] <;> omega
theorem Zc4 (its:List Value) (lo hi:Option Int):slicePick its.toArray lo hi none=((its.drop (HT.sIx its.length 0 lo)).take (HT.sIx its.length its.length hi - HT.sIx its.length 0 lo)).toArray:=by
  obtain ⟨h1,h2,h3⟩:=ZdR lo hi its.toArray.size
  unfold slicePick
  rw [h1,h2,h3]
  simp only [sliceRange_one,pick_run,List.size_toArray] <;> rfl
def rSlL (K:PySem.W.Frag):V→Option Int→Option Int→Hp→VK→Prop:=fun x lo hi H Q=>∃ a xs,x = .ref a∧SqL K H a xs∧∀ p,H p=none→Q (.ref p) (upd H p (.lst (cutV xs lo hi)))
theorem ZhF:SlR X (rSlL X.K):=by
  intro pins s σ H x v vl vu lo hi sl Q I rx hs pl pu h
  obtain ⟨a,xs,rfl,hx,q⟩:=h
  cases rx
  obtain ⟨its,r,ht,hz⟩:=I.list hx
  have hlen:=r.length
  refine ⟨"list",_,slot_list_getitem.lookup,ht.isList.typeIs,?_⟩
  refine wpAny_getItem_list_slice ht.isList hs pl pu .none (by simp) ?_ (by rw [List.size_toArray] <;> omega)
  rw [Zc4,← hlen]
  refine ⟨.ref s.heap.objs.size,_,I.laid (t':=s.toks) (o:=.lst (cutV xs lo hi)) (fun b ob q=>Heap.get?_push_of_some _ q) (Nat.le_refl _) ?_,rfl,q _ (I.hok.fresh (Nat.le_refl _))⟩
  exact ⟨Nat.le_trans (Zci xs lo hi) hz,_,0,(r.drop (HT.sIx xs.length 0 lo)).take (HT.sIx xs.length xs.length hi - HT.sIx xs.length 0 lo),Heap.get?_push_size _ rfl⟩
def ZbH:V→Bool
  | .non=>true
  | .bl _=>true
  | .int _=>true
  | .str _=>true
  | _=>false
def eqV:V→V→Bool
  | .non,.non=>true
  | .bl a,.bl b=>a == b
  | .bl a,.int b=>(if a then 1 else 0) == b
  | .int a,.bl b=>a == (if b then 1 else 0)
  | .int a,.int b=>a == b
  | .str a,.str b=>a == b
  | _,_=>false
theorem eqAt_V {A:Around} {s:Shared} {y x:V} {u v:Value} (ry:RelV y u) (rx:RelV x v) (fy:ZbH y=true) (fx:ZbH x=true):SeqAt.EqAt A s u v (eqV y x):=by
  cases y with
  | non =>
    cases ry
    cases x with
    | non=>cases rx; exact SeqAt.EqAt.same _
    | bl b=>cases rx; exact SeqAt.EqAt.none_bool b
    | int b=>obtain ⟨t,rfl⟩:=rx; exact SeqAt.EqAt.none_int b t
    | str b=>obtain ⟨t,rfl⟩:=rx; exact SeqAt.EqAt.none_str b t
    | _=>exact absurd (show false=true from fx) Bool.false_ne_true
  | bl a =>
    cases ry
    cases x with
    | non=>cases rx; exact SeqAt.EqAt.bool_none a
    | bl b=>cases rx; exact SeqAt.EqAt.bool_bool a b
    | int b=>obtain ⟨t,rfl⟩:=rx; exact SeqAt.EqAt.bool_int a b t
    | str b=>obtain ⟨t,rfl⟩:=rx; exact SeqAt.EqAt.bool_str a b t
    | _=>exact absurd (show false=true from fx) Bool.false_ne_true
  | int a =>
    obtain ⟨t',rfl⟩:=ry
    cases x with
    | non=>cases rx; exact SeqAt.EqAt.int_none a t'
    | bl b=>cases rx; exact SeqAt.EqAt.int_bool a t' b
    | int b=>obtain ⟨t,rfl⟩:=rx; exact SeqAt.EqAt.int_int a t' b t
    | str b=>obtain ⟨t,rfl⟩:=rx; exact SeqAt.EqAt.int_str a t' b t
    | _=>exact absurd (show false=true from fx) Bool.false_ne_true
  | str a =>
    obtain ⟨t',rfl⟩:=ry
    cases x with
    | non=>cases rx; exact SeqAt.EqAt.str_none a t'
    | bl b=>cases rx; exact SeqAt.EqAt.str_bool a t' b
    | int b=>obtain ⟨t,rfl⟩:=rx; exact SeqAt.EqAt.str_int a t' b t
    | str b=>obtain ⟨t,rfl⟩:=rx; exact SeqAt.EqAt.str_str a t' b t
    | _=>exact absurd (show false=true from fx) Bool.false_ne_true
  | _=>exact absurd (show false=true from fy) Bool.false_ne_true
def eqU (x:V) (u:Value):Bool:=match u with
  | .none=>eqV .non x
  | .bool b=>eqV (.bl b) x
  | .int i _=>eqV (.int i) x
  | .str z _=>eqV (.str z) x
  | _=>false
theorem ZlN {x y:V} {u:Value} (r:RelV y u) (f:ZbH y=true):eqU x u=eqV y x:=by
  cases y with
  | non=>cases r; rfl
  | bl b=>cases r; rfl
  | int i=>obtain ⟨t,rfl⟩:=r; rfl
  | str z=>obtain ⟨t,rfl⟩:=r; rfl
  | _=>exact absurd (show false=true from f) Bool.false_ne_true
theorem Zcu {x:V}:∀ {xs:List V} {us:List Value},Vals xs us→xs.all ZbH=true→us.any (eqU x)=xs.any fun y=>eqV y x
  | _,_,.nil,_=>rfl
  | y :: xs,u :: us,.cons r t,f=>by
    rw [List.all_cons,Bool.and_eq_true] at f
    rw [List.any_cons,List.any_cons,ZlN r f.1,Zcu t f.2]
theorem ZaK {A:Around} {s:Shared} {x:V} {v:Value} (rx:RelV x v) (fx:ZbH x=true):∀ {xs:List V} {us:List Value},Vals xs us→xs.all ZbH=true→∀ u∈us,SeqAt.EqAt A s u v (eqU x u)
  | _,_,.nil,_=>fun u hu=>by cases hu
  | y :: xs,u :: us,.cons r t,f=>fun u' hu=>by
    rw [List.all_cons,Bool.and_eq_true] at f
    rcases List.mem_cons.mp hu with rfl | hu
    · rw [ZlN r f.1]; exact eqAt_V r rx f.1 fx
    · exact ZaK rx fx t f.2 u' hu
def inV (x:V) (xs:List V):Bool:=xs.any fun y=>eqV y x
def rIn (K:PySem.W.Frag) (neg:Bool):R2:=fun x y H Q=>∃ p xs,y = .ref p∧(SqL K H p xs∨SqT K H p xs)∧ZbH x=true∧xs.all ZbH=true∧Q (.bl (if neg then !inV x xs else inV x xs)) H
theorem Zd8:OpR X (compareOp .In) (rIn X.K false):=by
  intro pins s σ H x y v u Q I rx ry h
  obtain ⟨p,xs,rfl,hq,fx,fs,q⟩:=h
  cases ry
  rcases hq with hq | hq
  · obtain ⟨its,r,pl,hz⟩:=I.list hq
    refine SeqAt.in_listAt (eqU x) pl.isList (fun w hw=>ZaK rx fx r fs w (by simpa using hw)) ⟨.bl _,H,I,rfl,?_⟩
    rw [show its.toArray.any (eqU x)=its.any (eqU x) by simp,Zcu r fs]
    exact q
  · obtain ⟨its,r,pl,hz⟩:=I.tuple hq
    refine SeqAt.in_tupleAt (eqU x) pl (fun w hw=>ZaK rx fx r fs w (by simpa using hw)) ⟨.bl _,H,I,rfl,?_⟩
    rw [show its.toArray.any (eqU x)=its.any (eqU x) by simp,Zcu r fs]
    exact q
theorem Zbw:OpR X (compareOp .NotIn) (rIn X.K true):=by
  intro pins s σ H x y v u Q I rx ry h
  obtain ⟨p,xs,rfl,hq,fx,fs,q⟩:=h
  cases ry
  rcases hq with hq | hq
  · obtain ⟨its,r,pl,hz⟩:=I.list hq
    refine SeqAt.notIn_listAt (eqU x) pl.isList (fun w hw=>ZaK rx fx r fs w (by simpa using hw)) ⟨.bl _,H,I,rfl,?_⟩
    rw [show its.toArray.any (eqU x)=its.any (eqU x) by simp,Zcu r fs]
    exact q
  · obtain ⟨its,r,pl,hz⟩:=I.tuple hq
    refine SeqAt.notIn_tupleAt (eqU x) pl (fun w hw=>ZaK rx fx r fs w (by simpa using hw)) ⟨.bl _,H,I,rfl,?_⟩
    rw [show its.toArray.any (eqU x)=its.any (eqU x) by simp,Zcu r fs]
    exact q
theorem ZbC:Xg X (.type "list") (fun xs H Q=>∃ p ys,xs=[.ref p]∧(SqL X.K H p ys∨SqT X.K H p ys)∧∀ l,H l=none→Q (.ref l) (upd H l (.lst ys))):=by
  intro pins s σ H xs us Q I r h
  obtain ⟨p,ys,rfl,hq,q⟩:=h
  obtain ⟨u,rfl,rx⟩:=vals1 r
  cases rx
  have fin:∀ (its:List Value),Vals ys its→ys.length≤sizeLine→∀ (h':Heap) (c':Nat),(∀ b o',s.heap.get? b=some o'→h'.get? b=some o') →
      h'.get? s.heap.objs.size=some { cls:=.type "list",dict:=none,data:=.seq its.toArray c',slots:=#[] }→EP X pins σ Q (.ref s.heap.objs.size) { s with heap:=h' }:=fun its r' hz h' c' kp e =>
    ⟨.ref s.heap.objs.size,_,I.laid (t':=s.toks) kp (Nat.le_refl _) (show J6 X.prog X.w _ h' _ (.lst ys) from ⟨hz,its,c',r',e⟩),rfl,q _ (I.hok.fresh (Nat.le_refl _))⟩
  rcases hq with hq | hq
  · obtain ⟨its,r',pl,hz⟩:=I.list hq
    have hlen:=r'.length
    obtain ⟨o,ho,hc,n,hd⟩:=pl.isList
    exact call_list_seq p (.inl rfl) ho hc hd (fun h' c' kp e=>fin its r' hz h' c' kp e) (by simp only [List.size_toArray] <;> omega)
  · obtain ⟨its,r',pl,hz⟩:=I.tuple hq
    have hlen:=r'.length
    obtain ⟨o,ho,hc,n,hd⟩:=pl
    exact call_list_seq p (.inr rfl) ho hc hd (fun h' c' kp e=>fin its r' hz h' c' kp e) (by simp only [List.size_toArray] <;> omega)
theorem ZaY:Xg X (.type "tuple") (fun xs H Q=>∃ p ys,xs=[.ref p]∧((SqL X.K H p ys∧∀ l,H l=none→Q (.ref l) (upd H l (.tup ys)))∨(SqT X.K H p ys∧Q (.ref p) H))):=by
  intro pins s σ H xs us Q I r h
  obtain ⟨p,ys,rfl,h⟩:=h
  obtain ⟨u,rfl,rx⟩:=vals1 r
  cases rx
  rcases h with ⟨hq,q⟩ | ⟨hq,q⟩
  · obtain ⟨its,r',pl,hz⟩:=I.list hq
    have hlen:=r'.length
    refine call_tuple_list pl.isList (fun h' kp=>?_) (by simp only [List.size_toArray] <;> omega)
    have I1:Inv X pins σ H { s with heap:=h' }:=I.kept (t':=s.toks) kp
    have I2:Inv X pins σ (upd H h'.objs.size (.tup ys)) { s with heap:=h'.push { cls:=.type "tuple",data:=.seq its.toArray } } :=
      I1.laid (t':=s.toks) (fun b o e=>Heap.get?_push_of_some _ e) (Nat.le_refl _) (show J6 X.prog X.w _ _ _ (.tup ys) from ⟨hz,its,r',TupP.new _ _⟩)
    exact ⟨.ref h'.objs.size,_,I2,rfl,q _ (I1.hok.fresh (Nat.le_refl _))⟩
  · obtain ⟨its,r',pl,hz⟩:=I.tuple hq
    exact call_tuple_same pl ⟨.ref p,H,I,rfl,q⟩
def tyV (K:PySem.W.Frag) (T:String) (x:V) (H:Hp):Prop:=match x with
  | .str _=>T = "str"
  | .int _=>T = "int"
  | .ref p=>(T = "list"∧∃ xs,SqL K H p xs)∨(T = "tuple"∧∃ o,K.lookup p=some o∧o.cls = .type "tuple"∧o.dict=none) ∨
      (T = "dict"∧((∃ kvs,H p=some (.dK kvs))∨∃ kvs,H p=some (.dT kvs)))∨(T = "set"∧∃ S n,H p=some (.set S n))
  | _=>False
theorem tyV_is {pins:List (Addr×Obj)} {σ:St} {H:Hp} {s:Shared} {T:String} {x:V} {v:Value} (I:Inv X pins σ H s) (r:RelV x v) (ty:tyV X.K T x H) :
    s.TypeIs v T∧∀ a,v = .ref a→∃ ob,s.heap.get? a=some ob∧ob.dict=none:=by
  cases x with
  | str z =>
    obtain ⟨t,rfl⟩:=r
    cases (show T = "str" from ty)
    exact ⟨typeIs_str s z t,fun _ e=>nomatch e⟩
  | int i =>
    obtain ⟨t,rfl⟩:=r
    cases (show T = "int" from ty)
    exact ⟨typeIs_int s i t,fun _ e=>nomatch e⟩
  | ref p =>
    cases r
    rcases ty with ⟨rfl,xs,hq⟩ | ⟨rfl,o,hk,hc,hd⟩ | ⟨rfl,hk⟩ | ⟨rfl,S,n,hk⟩
    · obtain ⟨its,_,pl,_⟩:=I.list hq
      refine ⟨pl.isList.typeIs,fun a e=>?_⟩
      cases e
      obtain ⟨o,n,e,c,hd,_⟩:=pl
      exact ⟨o,e,hd⟩
    · refine ⟨⟨o,I.kIn p o hk,hc⟩,fun a e=>?_⟩
      cases e
      exact ⟨o,I.kIn _ o hk,hd⟩
    · have z:∃ o,s.heap.get? p=some o∧o.ExactDict:=by
        rcases hk with ⟨kvs,hk⟩ | ⟨kvs,hk⟩
        · obtain ⟨_,_,_,_,o,_,_,e,ex,_⟩:=I.hok p _ hk
          exact ⟨o,e,ex⟩
        · obtain ⟨_,_,_,_,o,_,_,e,ex,_⟩:=I.hok p _ hk
          exact ⟨o,e,ex⟩
      obtain ⟨o,e,ex⟩:=z
      refine ⟨⟨o,e,ex.1⟩,fun a e2=>?_⟩
      cases e2
      exact ⟨o,e,ex.2.1⟩
    · obtain ⟨o,_,_,_,e,ex,_⟩:=I.hok p _ hk
      refine ⟨⟨o,e,ex.1⟩,fun a e2=>?_⟩
      cases e2
      exact ⟨o,e,ex.2.1⟩
  | _=>exact False.elim ty
def tBM (K:PySem.W.Frag) (T:String) (r:V→List V→Hp→VK→Prop) (to:TE) (t:TA):TE:=fun σ H Q=>to σ H fun x H1=>tyV K T x H1∧t σ H1 fun xs H2=>r x xs H2 Q
variable {o e:Expr} {es:List Expr} {to:TE} {t:TA} {name:Str} {apos cpos:Pos} {T id:String} {r:V→List V→Hp→VK→Prop}
theorem pe_bm (pa:PlainAttrs T) (slot:Slot T name id) (hty:typeOf (.builtin id)=pure (.type "method_descriptor")) (hm:MtR X id r) (ho:PE X o to) (ha:PA X (e :: es) t)
    (hbase:attributeBase o name X.env (eval o X.env)=eval o X.env:=by rfl)
    (hfew:((backTo cpos (starEach (e :: es) X.env)).all (fun x=>!x.1) && (backToKw cpos (keywordEach [] X.env)).all (fun x=>x.1.isSome)
      && decide ((e :: es).length + ([]:List Keyword).length + (if ([]:List Keyword).isEmpty then 0 else 1) < 30))=true:=by rfl)
    (hline:(apos.endLine == cpos.line)=true:=by rfl) (hs:starEach (e :: es) X.env=(false,eval e X.env) :: starEach es X.env:=by rfl) (hplain:(backTo cpos (starEach es X.env)).any (·.1)=false:=by rfl) :
    PE X (.Call (.Attribute o name apos) (e :: es) [] cpos) (tBM X.K T r to t):=by
  intro pins s σ H Q I h
  refine wpAny_Call_method_late hbase hfew hline rfl (thn (ho pins s σ H _ I h) fun v s1 ⟨x,H1,I1,r1,ty,q1⟩=>?_)
  obtain ⟨h1,h2⟩:=tyV_is I1 r1 ty
  refine ⟨T,id,pa,slot,hty,h1,h2,?_⟩
  have hA:=ha cpos pins s1 σ H1 _ I1 q1
  rw [hs] at hA ⊢
  refine Calls.callWith_builtin (by show (false || (backTo cpos (starEach es X.env)).any (·.1))=false; rw [hplain] <;> rfl) (Calls.evalArgs_plain ?_)
  exact thn hA fun us s2 ⟨vs,H2,I2,r2,q2⟩=>hm pins s2 σ H2 x vs v us Q I2 r1 r2 q2
end
end L2
namespace L2
open PySem PySem.Spec PyProof.Rows
def MtM (X:Cx) (id:String) (r:V→List V→Hp→VK→Prop):Prop :=
  ∀ (pins:List (Addr×Obj)) (s:Shared) (σ:St) (H:Hp) (x:V) (xs:List V) (v:Value) (us:List Value) (Q:VK),Inv X pins σ H s→RelV x v→Vals xs us→r x xs H Q →
    wpAny (model X.prog X.w) X.A (call (.builtin id) (v :: us)) (EP X pins σ Q) X.xe s
theorem Vals.one:∀ {x:V} {us:List Value},Vals [x] us→∃ u,us=[u]∧RelV x u
  | _,_,.cons r .nil=>⟨_,rfl,r⟩
theorem Vals.rep {xs:List V} {us:List Value} (h:Vals xs us):∀ k:Nat,Vals (List.replicate k xs).flatten (List.replicate k us).flatten
  | 0=>.nil
  | k + 1=>by
    rw [List.replicate_succ,List.replicate_succ,List.flatten_cons,List.flatten_cons]
    exact Vals.append h (Vals.rep h k)
theorem foldl_rep (its:List Value):∀ (k:Nat) (acc:List Value),
    List.foldl (fun x1 x2=>x1++x2) acc.toArray (List.replicate k its.toArray)=(acc++(List.replicate k its).flatten).toArray
  | 0,acc=>by simp
  | k + 1,acc=>by
    have e:acc.toArray++its.toArray=(acc++its).toArray:=by simp
    have e2:(acc++its)++(List.replicate k its).flatten=acc++(List.replicate (k + 1) its).flatten:=by
      rw [List.replicate_succ,List.flatten_cons,List.append_assoc]
    rw [← e2,← foldl_rep its k (acc++its),← e,List.replicate_succ,List.foldl_cons]
section
variable {X:Cx} {pins:List (Addr×Obj)} {σ:St} {H:Hp} {s:Shared} {l b:Addr} {xs ys zs:List V}
theorem Inv.lset {its its':List Value} {n:Nat} {f:Array Value→Array Value} {t':Nat} (I:Inv X pins σ H s) (hH:H l=some (.lst xs))
    (e:s.heap.get? l=some { cls:=.type "list",data:=.seq its.toArray n }) (hf:f its.toArray=its'.toArray) (hv:Vals ys its') (hz:ys.length≤sizeLine) :
    Inv X pins σ (upd H l (.lst ys)) { s with heap:=s.heap.update l (Obj.mapSeq f),toks:=t' }:=by
  have q:=PySem.IsL.update e f
  rw [hf] at q
  refine I.write (x:=l) (e:=l) (by rw [hH]; exact trivial) (.inl rfl) (fun b' u hb hu=>(Heap.get?_update_other s.heap (Obj.mapSeq f) (Ne.symm hb)).trans hu) ⟨_,q⟩ ?_
  exact ⟨hz,its',_,hv,q⟩
theorem Inv.lnew {its:List Value} {t':Nat} (I:Inv X pins σ H s) (hv:Vals ys its) (hz:ys.length≤sizeLine) :
    Inv X pins σ (upd H s.heap.objs.size (.lst ys)) { s with heap:=s.heap.push { cls:=.type "list",data:=.seq its.toArray },toks:=t' } :=
  I.laid (fun _ _ q=>Heap.get?_push_of_some _ q) (Nat.le_refl _) ⟨hz,its,0,hv,Heap.get?_push_size _ rfl⟩
theorem Inv.fresh (I:Inv X pins σ H s):H s.heap.objs.size=none:=I.hok.fresh (Nat.le_refl _)
theorem Inv.lstM (I:Inv X pins σ H s) (hH:H l=some (.lst xs)):xs.length≤sizeLine∧∃ (its:List Value) (n:Nat),Vals xs its∧xs.length=its.length∧s.heap.get? l=some { cls:=.type "list",data:=.seq its.toArray n }:=by
  obtain ⟨z,its,n,r,e⟩:=I.hok l _ hH
  exact ⟨z,its,n,r,r.length,e⟩
theorem ZkE {n:Nat} (h:n≤sizeLine):Builtin.List.listTooLong n=false:=by
  unfold Builtin.List.listTooLong
  exact decide_eq_false (by omega)
end
section
variable {X:Cx}
def Zl7:V→List V→Hp→VK→Prop:=fun x vs H Q=>∃ l xs y,x = .ref l∧vs=[y]∧H l=some (.lst xs)∧xs.length < sizeLine∧Q .non (upd H l (.lst (xs++[y])))
theorem Zim:MtM X "list.append" Zl7:=by
  intro pins s σ H x vs v us Q I rx rv h
  obtain ⟨l,xs,y,rfl,rfl,hH,hz,q⟩:=h
  cases rx
  obtain ⟨u,rfl,ru⟩:=rv.one
  obtain ⟨z,its,n,r,hl,e⟩:=I.lstM hH
  refine call_meets F.slot_list_append ⟨_,e,rfl⟩ F.entry_list_append (F.args_list_append_2 _ _) (PySem.list_append l its.toArray n u (by rw [List.size_toArray]; omega)) ⟨e,?_⟩
  refine ⟨.non,_,I.lset (its':=its++[u]) hH e (by simp) (r.append (.cons ru .nil)) ?_,rfl,q⟩
  rw [List.length_append,List.length_singleton]
  omega
def rCat:R2:=fun x y H Q=>∃ l b xs zs,x = .ref l∧y = .ref b∧H l=some (.lst xs)∧H b=some (.lst zs)∧xs.length + zs.length≤sizeLine∧∀ p,H p=none→Q (.ref p) (upd H p (.lst (xs++zs)))
theorem op_cat:OpR X (binaryOp .Add) rCat:=by
  intro pins s σ H x y v u Q I rx ry h
  obtain ⟨l,b,xs,zs,rfl,rfl,hH,hB,hz,q⟩:=h
  cases rx
  cases ry
  obtain ⟨z,its,n,r,hl,e⟩:=I.lstM hH
  obtain ⟨z2,its2,n2,r2,hl2,e2⟩:=I.lstM hB
  refine PySem.P.add_list e e2 ?_ (by rw [List.size_toArray,List.size_toArray]; omega)
  have ea:its.toArray++its2.toArray=(its++its2).toArray:=by simp
  rw [ea]
  exact ⟨.ref _,_,I.lnew (t':=s.toks) (r.append r2) (by rw [List.length_append]; omega),rfl,q _ I.fresh⟩
def rRep:R2:=fun x y H Q=>∃ l k xs,x = .ref l∧y = .int k∧H l=some (.lst xs)∧-(2 ^ 63)≤k∧k < 2 ^ 63∧xs.length * k.toNat≤sizeLine ∧
  ∀ p,H p=none→Q (.ref p) (upd H p (.lst (List.replicate k.toNat xs).flatten))
theorem len_rep {α:Type} (xs:List α) (k:Nat):(List.replicate k xs).flatten.length=k * xs.length:=by
  induction k with
  | zero=>simp
  | succ k ih=>rw [List.replicate_succ,List.flatten_cons,List.length_append,ih,Nat.succ_mul,Nat.add_comm]
theorem op_rep:OpR X (binaryOp .Mult) rRep:=by
  intro pins s σ H x y v u Q I rx ry h
  obtain ⟨l,k,xs,rfl,rfl,hH,h1,h2,hz,q⟩:=h
  cases rx
  obtain ⟨t,rfl⟩:=ry
  obtain ⟨z,its,n,r,hl,e⟩:=I.lstM hH
  have hlen:its.toArray.size * k.toNat≤sizeLine:=by rw [List.size_toArray,← hl]; exact hz
  have hcap:¬ its.toArray.size * k.toNat > (2 ^ 63 - 1) / 8:=by
    have:(sizeLine:Nat)≤(2 ^ 63 - 1) / 8:=by decide
    omega
  have hfit:¬ (!Builtin.List.listFitsIndex k)=true:=by
    rw [fitsIndex_both h1 h2]
    exact Bool.false_ne_true
  have hlong:¬ Builtin.List.listTooLong (its.toArray.size * k.toNat)=true:=by
    rw [ZkE hlen]
    exact Bool.false_ne_true
  have hnew:List.foldl (fun x1 x2=>x1++x2) #[] (List.replicate (if its.toArray.isEmpty=true then 0 else k.toNat) its.toArray)=(List.replicate k.toNat its).flatten.toArray:=by
    have f0:∀ m:Nat,List.foldl (fun x1 x2=>x1++x2) #[] (List.replicate m its.toArray)=(List.replicate m its).flatten.toArray:=fun m=>by
      have:=foldl_rep its m []
      rw [List.nil_append] at this
      exact this
    rw [f0]
    cases its with
    | nil=>simp
    | cons a r'=>rw [if_neg (by simp)]
  refine wpAny_binaryOp_repeat_ref (T:="list") (U:="int") (by decide) ⟨_,e,rfl⟩ (fun s'=>typeIs_int s' k t) noFill_list_mul F.fills_int_mul F.slot_int_rmul repeat_list F.slot_int_index.lookup
    (call_meets F.slot_int_rmul (typeIs_int s k t) F.entry_int_rmul (F.args_int_rmul_2 _ _) (int___rmul___int_list k t l its.toArray n)
      ⟨e,rfl,⟨_,e,rfl⟩,call_meets F.slot_list_mul ⟨_,e,rfl⟩ F.entry_list_mul (F.args_list_mul_2 _ _) (AutoListH.list___mul___list_int_3 l its.toArray n k t hfit hcap hlong) ⟨e,?_⟩⟩)
  rw [hnew]
  exact ⟨.ref _,_,I.lnew (t':=s.toks) (r.rep k.toNat) (by rw [len_rep,Nat.mul_comm]; exact hz),rfl,q _ I.fresh⟩
end
section
variable {prog:Program} {w:World} {A:Around} {E:Value→Shared→Prop} {s:Shared}
set_option maxRecDepth 100000 in
end
section
variable {X:Cx}
end
end L2
namespace Att
open PySem PySem.W PySem.Calls PyProof.Rows
theorem Zb9 {P:Params} {h:Heap}:∀ (ns:List Int) (vs:List Value),WellAll P h vs (ns.map WData.int)→IntsAre vs ns:=by
  intro ns
  induction ns with
  | nil =>
    intro vs w
    rw [List.map_nil] at w
    cases w
    exact .nil
  | cons n ns ih =>
    intro vs w
    rw [List.map_cons] at w
    cases w with
    | cons a b =>
      cases a
      exact .cons _ _ (ih _ b)
theorem ZhK {l:OpenLaw} {n:Nat} (hn:l.most=some n) {P:Params} {h:Heap} {args:List WData} {vals:List Value}
    (hpre:l.row.toRowW.claim.pre args=true) (hwl:WellAll P h vals args) :
    ∃ a vs ns,vals=[Value.ref a]∧args=[WData.list (ns.map WData.int)]∧h.get? a=some { cls:=.type "list",data:=.seq vs.toArray }∧IntsAre vs ns∧ns.length≤n:=by
  have hsh:WShape.hasAll [] args [.list .int]=true:=(pre_splitW hpre).1
  have hc:l.pre.holds [] { args:=args }=true:=(pre_splitW hpre).2
  obtain ⟨d,r,rfl,h1,h2⟩:=hasAllW_cons hsh
  obtain rfl:=hasAllW_nil h2
  obtain ⟨xs,rfl,h3⟩:=hasW_list h1
  obtain ⟨ns,rfl⟩:=items_int h3
  have hlen:ns.length≤n:=by
    unfold OpenLaw.pre at hc
    have h4:(WTm.not (.lt (.lit (.int (n:Int))) (.len (.arg 0)))).holds [] { args:=[.list (ns.map .int)] }=true:=by
      have h4:=(holds_andW hc).1
      rw [hn] at h4
      exact h4
    have h5:=condW_of h4 (w_not (w_lt w_lit (w_len_list (w_arg rfl))))
    rw [List.length_map] at h5
    refine Nat.le_of_not_lt fun q=>?_
    have q':(n:Int) < ((ns.length:Nat):Int):=by omega
    first
      | (rw [decide_eq_true q'] at h5; exact absurd h5 (by decide))
      | (simp at h5; omega)
  cases hwl with
  | cons w1 w2 =>
    cases w2
    cases w1 with
    | list ho hall=>exact ⟨_,_,ns,rfl,rfl,ho,Zb9 ns _ hall,hlen⟩
theorem ZhS (l:OpenLaw) (args:List WData):l.row.toRowW.claim.post args (.bool true) args=true :=
  postW_of (r:=l.row.toRowW) (X:=(true == true))
    (show WShape.has [] (.bool true) .bool=true by first | rfl | decide | simp [WShape.has,WShape.arms,WShape.armsAll])
    (show (WTm.eq .res (.lit (.bool true))).value [] { args:=args,res:=some (.bool true),after:=args }=some (.bool (true == true)) from w_eq_bool (w_res rfl) w_lit) rfl
theorem attach_call {l:OpenLaw} {n:Nat} {q:Program} {loose:List Str} {XP:(Str→Option Value)→Heap→Prop} {YP:World→Heap→Prop} {d:DefRec}
    (hn:l.most=some n) (hdf:d.params.defaults=[])
    (call:∀ (w:World) (s₀ s₁:Shared) (mg mb:Str→Option Value) (fa:Addr) (o:Obj) (pm cd doc:Value) (a:Addr) (vs:List Value) (ns:List Int),
      Ground q loose [] XP w s₀ mg mb s₁.heap→YP w s₁.heap →
      s₁.heap.get? fa=some o→o.data = .func (docDef d.name d.params d.body d.scope pm cd doc)→s₁.heap.CodeRec cd d.name→mg d.name=some (.ref fa) →
      s₁.heap.get? a=some { cls:=.type "list",data:=.seq vs.toArray }→IntsAre vs ns→ns.length≤n→s₁.gens = #[] →
      codeAny (model l.prog w) callerA (.call (.ref fa) ⟨[.ref a],[]⟩) (fun r s'=>r = .ok (.ret (.bool true))∧OldK s₁.heap s'.heap∧s'.os=s₁.os∧AllBare s'.gens) s₁) :
    WalkO q loose XP YP l.row.toRowW d [] (fun f vs=>PySem.call f vs):=by
  intro w s₀ s₁ mg mb G Y fa o pm cd doc dV kV ho hd hcd hD hmg hg args vals as hpre hlay hrd hwl hlo
  obtain rfl:dV = .none:=Dflts.none hD hdf
  obtain rfl:kV = .none:=Dflts.noKw hD
  obtain ⟨a,vs,ns,rfl,rfl,hobj,hints,hlen⟩:=ZhK hn hpre hwl
  refine enter_call (codeAny_mono (call w s₀ s₁ mg mb fa o pm cd doc a vs ns G Y ho (fd_plain hd) hcd hmg hobj hints hlen hg) fun r s' hq=>?_)
  obtain ⟨rfl,h2,h3,h4⟩:=hq
  exact ⟨.inl ⟨.bool true,.bool true,[],rfl,fun _=>rfl,.bool true,ZhS l _,fun _=>⟨List.Pairwise.nil,fun _ hm=>(nomatch hm)⟩⟩,h2,h3,h4⟩
section
variable {prog:Program} {w:World} {A:Around} {E:Value→Shared→Prop} {s:Shared} {K:Frag}
end
end Att
namespace L2
open PySem PySem.Spec PyProof.Rows
theorem ZdM:∀ {vs:List Value} {ns:List Int},IntsAre vs ns→Vals (ns.map V.int) vs
  | _,_,.nil=>.nil
  | _,_,.cons n t h=>.cons ⟨t,rfl⟩ (ZdM h)
def Only (H:Hp):Prop:=∀ b,H b=none∨∃ o xs,H b=some (.frz o (.lst xs))
theorem law_call {P:Program} {w:World} {K:PySem.W.Frag} {mg mb:Str→Option Value} {CX:CXT} {k:Nat} {fa a:Addr} {fd:FuncData} {x:Str} {sp:Sp} {s₁:Shared} {vs:List Value} {ns:List Int}
    (KX:K.In s₁.heap) (hns:s₁.heap.Ns mainGlobals mg) (hb:s₁.heap.Ns builtinsNs mb) (hbb:∀ x:Str,x≠"__name__"→mb x=bootBuiltins x) (hlim:s₁.heap.NoLimit) (hg:s₁.gens = #[])
    (ha:s₁.heap.get? a=some { cls:=.type "list",data:=.seq vs.toArray }) (hi:IntsAre vs ns) (hl:ns.length≤sizeLine) (hr:Room k callerA)
    (F:∀ base:Heap,K.In base→base.Ns mainGlobals mg→FnOk P w K mg base CX k fa fd [x] sp) (hbind:∀ (s:Shared) (u:Value),BindsTo s fd ⟨[u],[]⟩ [(x,u)])
    (hsp:∀ H:Hp,Only H→SqL K H a (ns.map V.int)→sp [.ref a] H (fun v _=>v = .bl true) fun _ _ _=>False)
    (hCX:∀ H e s',CX [] H s₁ (fun _ _ _=>False) e s'→False) :
    codeAny (model P w) callerA (.call (.ref fa) ⟨[.ref a],[]⟩) (fun r s'=>r = .ok (.ret (.bool true))∧OldK s₁.heap s'.heap∧s'.os=s₁.os∧AllBare s'.gens) s₁:=by
  have rv:=ZdM hi
  have lenV:=hi.length
  -- from an abstract heap in which nothing but the script may be tracked
  have core:∀ H:Hp,Only H→SqL K H a (ns.map V.int)→HOk P w H s₁.heap→(∀ b,H b≠none→b=a)→(H a≠none→K.lookup a=none) →
      codeAny (model P w) callerA (.call (.ref fa) ⟨[.ref a],[]⟩) (fun r s'=>r = .ok (.ret (.bool true))∧OldK s₁.heap s'.heap∧s'.os=s₁.os∧AllBare s'.gens) s₁:=by
    intro H hO hS hok hA hK
    have base_of:∀ {b:Addr} {o:Obj},s₁.heap.get? b=some o→H b=none→(hidT s₁.heap H).get? b=some o:=fun e n=>ZkT e n
    have noA:∀ {b:Addr} {o:Obj} {es:Array DictEntry} {ep:Nat},s₁.heap.get? b=some o→o.data = .dict es ep→H b=none:=fun {b o es ep} e d=>by
      cases q:H b with
      | none=>rfl
      | some u =>
        have e':b=a:=hA b (by rw [q]; simp)
        subst e'
        rw [ha] at e; cases e
        have d':Data.seq vs.toArray _=Data.dict es ep:=d
        cases d'
    have nsK:∀ {b:Addr} {m:Str→Option Value},s₁.heap.Ns b m→(hidT s₁.heap H).Ns b m:=fun {b m} ⟨o,es,ep,e,d,r⟩=>⟨o,es,ep,base_of e (noA e d),d,r⟩
    have hKb:K.In (hidT s₁.heap H):=fun b o e=>base_of (KX b o e) (by
      cases q:H b with
      | none=>rfl
      | some u =>
        have e':b=a:=hA b (by rw [q]; simp)
        subst e'
        rw [hK (by rw [q]; simp)] at e; cases e)
    have hM:Mod K mg (hidT s₁.heap H):=⟨hKb,nsK hns,⟨mb,nsK hb,hbb⟩,let ⟨mc,h1,h2⟩:=hlim; ⟨mc,nsK h1,h2⟩⟩
    have e0:Env0 P w K mg (hidT s₁.heap H) callerA [] s₁ H:=⟨rfl,hM,fun b o e=>ZmW e,Nat.le_of_eq (ZiH _ _),trivial,fun b hb=>absurd (show b∈([]:List Addr) from hb) (by simp),hok,.of_eq hg⟩
    refine codeAny_mono ((F _ hKb (nsK hns)).run callerA [] s₁ H ⟨[.ref a],[]⟩ [.ref a] [.ref a] _ _ hr e0 (hbind s₁ (.ref a)) (.cons rfl .nil) (hsp H hO hS)) fun r s' h=>?_
    cases r with
    | error e=>exact (hCX H e s' h).elim
    | ok fl =>
      cases fl with
      | next=>exact False.elim h
      | brk=>exact False.elim h
      | cont=>exact False.elim h
      | ret u =>
        obtain ⟨v,H',os,bare,un,hok',r',q⟩:=h
        have q':v = .bl true:=q
        subst q'
        obtain rfl:u=Value.bool true:=r'
        refine ⟨rfl,OldK.of_keep fun b o e=>?_,os,bare⟩
        cases q:H b with
        | none=>exact un.keep b o e q (by intro z; exact absurd (show b∈([]:List Addr) from z) (by simp)) (by simp)
        | some u =>
          rcases hO b with z | ⟨ob,xs,z⟩
          · rw [q] at z; cases z
          · have z2:=un.frzs b ob _ z
            obtain ⟨e1,_⟩:=hok b _ z
            obtain ⟨e2,_⟩:=hok' b _ z2
            rw [e] at e1; cases e1
            exact e2
  cases hk:K.lookup a with
  | some o =>
    -- the script is one of the module's own objects
    have e:=KX a o hk
    rw [ha] at e
    cases e
    refine core (fun _=>none) (fun _=>.inl rfl) (.inr ⟨_,vs.toArray,_,hk,rfl,rfl,rfl,by rw [List.size_toArray,lenV]; exact hl,by simpa using rv⟩) (fun b u z=>by have z':(none:Option HO)=some u:=z; cases z') (fun b z=>absurd rfl z) fun z=>absurd rfl z
  | none =>
    refine core (fun b=>if b=a then some (.frz { cls:=.type "list",data:=.seq vs.toArray } (.lst (ns.map V.int))) else none) (fun b=>?_) (.inl (.inr ⟨{ cls:=.type "list",data:=.seq vs.toArray },if_pos rfl⟩)) (fun b u z=>?_) (fun b z=>?_) fun _=>hk
    · by_cases hb:b=a
      · exact .inr ⟨_,_,if_pos hb⟩
      · exact .inl (if_neg hb)
    · by_cases hb:b=a
      · have z':=(if_pos hb).symm.trans z
        cases z'
        subst hb
        exact ⟨ha,by rw [List.length_map]; exact hl,vs,_,rv,ha⟩
      · have z':=(if_neg hb).symm.trans z
        cases z'
    · by_cases hb:b=a
      · exact hb
      · exact absurd (if_neg hb) z
end L2
namespace L2
open PySem PySem.Spec PyProof.Rows
theorem walk_of {l:PySem.W.OpenLaw} {n k:Nat} {q:Program} {loose:List Str} {XP:(Str→Option Value)→Heap→Prop} {YP:World→Heap→Prop} {d:DefRec} {K:Params→PySem.W.Frag} {CX:World→CXT} {sp:World→Sp} {x:Str}
    (hn:l.most=some n) (hn2:n≤sizeLine) (hdf:d.params.defaults=[]) (hr:Room k callerA)
    (hY:∀ (w:World) (h:Heap),YP w h→(K w.params).In h)
    (F:∀ (w:World) (mg:Str→Option Value) (fa:Addr) (h:Heap),(K w.params).In h→h.Ns mainGlobals mg→mg d.name=some (.ref fa) →
      ∃ fd:FuncData,(∀ (s:Shared) (u:Value),BindsTo s fd ⟨[u],[]⟩ [(x,u)]) ∧
        ∀ base:Heap,(K w.params).In base→base.Ns mainGlobals mg→FnOk l.prog w (K w.params) mg base (CX w) k fa fd [x] (sp w))
    (hsp:∀ (w:World) (H:Hp) (a:Addr) (ns:List Int),ns.length≤n→Only H→SqL (K w.params) H a (ns.map V.int)→sp w [.ref a] H (fun v _=>v = .bl true) fun _ _ _=>False)
    (hCX:∀ (w:World) (H:Hp) (s:Shared) (e:Value) (s':Shared),CX w [] H s (fun _ _ _=>False) e s'→False) :
    PySem.W.WalkO q loose XP YP l.row.toRowW d [] (fun f vs=>PySem.call f vs):=by
  refine Att.attach_call hn hdf fun w s₀ s₁ mg mb fa o pm cd doc a vs ns G Y ho hd hcd hmg hobj hints hlen hg=>?_
  have KX:=hY w _ Y
  obtain ⟨fd,hb,hF⟩:=F w mg fa _ KX G.T.g hmg
  exact law_call KX G.T.g G.T.b G.T.builtins G.T.nolimit hg hobj hints (Nat.le_trans hlen hn2) hr hF hb (fun H hO hS=>hsp w H a ns hlen hO hS) fun H e s'=>hCX w H s₁ e s'
end L2
namespace L2
open PySem PySem.Spec PyProof.Rows
def Zv (s:Stmt):Arguments:=match s with
  | .FunctionDef _ a _ _ _ _ _ _ _ _=>a
  | _=>{ posonlyargs:=[],args:=[],vararg:=none,kwonlyargs:=[],kw_defaults:=[],kwarg:=none,defaults:=[] }
def Ze (s:Stmt):List Stmt:=match s with
  | .FunctionDef _ _ b _ _ _ _ _ _ _=>b
  | _=>[]
def Zc (s:Stmt):Scope:=match s with
  | .FunctionDef _ _ _ _ _ _ sc _ _ _=>sc
  | _=>{ kind:=.function,names:=[],isGenerator:=false,isCoroutine:=false }
abbrev CX0:CXT:=fun _ _ _ _ _ _=>False
abbrev E0:XK:=fun _ _ _=>False
theorem pass0 {X:Cx}:Zjt CX0 X E0:=fun _ _ _ _ _ _ _ h=>h.elim
structure Fun (K:PySem.W.Frag) (x qual:Str) (st:Stmt) (f:Addr) (fd:FuncData):Prop where
  ex:∃ (oc:Value) (od:Option Addr) (kV doc pm:Value) (an:Option Addr) (cdv ct:Value) (osl:Array (Option Value)),
    fd=PySem.W.fnOf x qual (Zv st) (Ze st) (Zc st) .none kV doc pm an cdv ct∧K.lookup f=some ⟨oc,od,.func fd,osl⟩∧PySem.W.codeIn K cdv qual=true
  kp:PySem.W.keepIn K (.ref f)=true
section
variable {P:Program} {w:World} {K:PySem.W.Frag} {mg:Str→Option Value} {base:Heap}
theorem Fun.ok {x qual:Str} {st:Stmt} {f:Addr} {fd:FuncData} {N ps:List Str} {k:Nat} {sp:Sp} (F:Fun K x qual st f fd) (S:FnScope N ps (Zc st)) (len:∀ vs H Q E,sp vs H Q E→vs.length=ps.length)
    (hbody:∀ (cdv:Value) (A:Around) (outer:List Env) (s:Shared) (H:Hp) (vs:List V) (Q:VK) (E:XK),Room k (A.deeper (envOfC qual (Zc st) s.heap.objs.size f cdv))→sp vs H Q E →
      ∃ t,PSs (cxOf CX0 P w K mg base N qual (Zc st) f cdv A outer s H E).nox (Ze st) t∧t { nx:=fun _ H'=>Q .non H',rt:=Q } (start N vs) H):FnOk P w K mg base CX0 (k + 1) f fd ps sp:=by
  obtain ⟨oc,od,kV,doc,pm,an,cdv,ct,osl,rfl,lk,hcd⟩:=F.ex
  refine fn_of lk hcd S len fun A outer s H vs Q E hr hsp=>?_
  obtain ⟨t,h,q⟩:=hbody cdv A outer s H vs Q E hr hsp
  exact ⟨t,h.nox,q⟩
theorem Fun.binds {x qual:Str} {st:Stmt} {f:Addr} {fd:FuncData} {ps:List Str} (F:Fun K x qual st f fd)
    (h:∀ (kV doc pm:Value) (an:Option Addr) (cdv ct:Value) (us:List Value),us.length=ps.length→bindArgs (PySem.W.fnOf x qual (Zv st) (Ze st) (Zc st) .none kV doc pm an cdv ct) ⟨us,[]⟩=pure (ps.zip us)):Binds K fd ps []:=by
  obtain ⟨oc,od,kV,doc,pm,an,cdv,ct,osl,rfl,lk,hcd⟩:=F.ex
  exact .all (h kV doc pm an cdv ct)
theorem ZV {x qual:Str} {st:Stmt} {f:Addr} {oc:Value} {od an:Option Addr} {osl:Array (Option Value)} {kV doc pm cdv ct:Value} (l:K.lookup f=some ⟨oc,od,.func (PySem.W.fnOf x qual (Zv st) (Ze st) (Zc st) .none kV doc pm an cdv ct),osl⟩)
    (c:PySem.W.codeIn K cdv qual=true) (k:PySem.W.keepIn K (.ref f)=true):Fun K x qual st f (PySem.W.fnOf x qual (Zv st) (Ze st) (Zc st) .none kV doc pm an cdv ct):=⟨⟨oc,od,kV,doc,pm,an,cdv,ct,osl,rfl,l,c⟩,k⟩
end
section
variable {X:Cx}
end
theorem iteF {A B:Prop} (h:B):if false=true then A else B:=by
  rw [if_neg Bool.false_ne_true]
  exact h
theorem iteT {A B:Prop} (h:A):if true=true then A else B:=by
  rw [if_pos rfl]
  exact h
def Same (H H':Hp):Prop:=∀ b o,H b=some o→H' b=some o
end L2
end
noncomputable section
namespace L2
open PySem PySem.Spec PyProof.Rows
section
variable {κ:Type} [DecidableEq κ]
def valV (kvs:List (κ×V)) (k:κ):Option V:=(kvs.find? fun kv=>decide (kv.1=k)).map (·.2)
def putK (kvs:List (κ×V)) (k:κ) (v:V):List (κ×V) :=
  if (kvs.any fun kv=>decide (kv.1=k))=true then kvs.map (fun kv=>if kv.1=k then (kv.1,v) else kv) else kvs++[(k,v)]
def dropK (kvs:List (κ×V)) (k:κ):List (κ×V):=kvs.filter fun kv=>decide (kv.1≠k)
end
abbrev KT (H:Hp):List (List Key×V)→List (List Key×Addr×Value)→Prop:=Paired fun p q=>p.1=q.1∧H q.2.1=some (.tup (p.1.map kV))∧RelV p.2 q.2.2
section
variable {P:Program} {w:World} {H:Hp} {h:Heap} {a:Addr}
end
def DGet (H:Hp) (a:Addr) (y:V) (r:Option V):Prop :=
  (∃ kvs k,Rd H a (.dK kvs)∧y=kV k∧r=valV kvs k)∨∃ kvs k b,Rd H a (.dT kvs)∧y = .ref b∧H b=some (.tup (k.map kV))∧r=valV kvs k
def DPut (H:Hp) (a:Addr) (y v:V) (H':Hp):Prop :=
  (∃ kvs k,H a=some (.dK kvs)∧y=kV k∧kvs.length < sizeLine∧H' = upd H a (.dK (putK kvs k v))) ∨
  ∃ kvs k b,H a=some (.dT kvs)∧y = .ref b∧H b=some (.tup (k.map kV))∧kvs.length < sizeLine∧H' = upd H a (.dT (putK kvs k v))
section
variable {X:Cx} {pins:List (Addr×Obj)} {σ:St} {H:Hp} {s:Shared} {a:Addr} {y v:V} {u r:Value} {o:Option V} {A:Around} {E:Value→Shared→Prop}
theorem Inv.big (I:Inv X pins σ H s):sysModules < s.heap.objs.size:=by
  have h:mainGlobals < s.heap.objs.size:=(I.mod.glob.keeps I.bk).lt
  exact Nat.lt_trans (by decide) h
end
section
variable {X:Cx} {pins:List (Addr×Obj)} {σ:St} {H:Hp} {s:Shared} {a:Addr} {kvs:List (Key×V)} {k:Key} {u:Value} {A:Around} {E:Value→Shared→Prop}
end
section
variable {X:Cx} {o i e value:Expr} {pos pos' tpos:Pos} {td ty tv:TE}
end
theorem Zk3 {P:Program} {w:World} {H:Hp} (h:Heap) (hb:sysModules < h.objs.size):J6 P w H (h.push { cls:=.type "dict",data:=.dict #[] }) h.objs.size (.dK []) :=
  ⟨Nat.zero_le _,beq_eq_false_iff_ne.mpr (Ne.symm (Nat.ne_of_lt hb)),[],.nil,Heap.DictOf.new h⟩
def tDNewK:TE:=fun _ H Q=>∀ p,H p=none→Q (.ref p) (upd H p (.dK []))
section
variable {X:Cx} {pos:Pos}
theorem Zkl:PE X (.Dict [] [] pos) tDNewK:=fun pins s σ H Q I h =>
  wpAny_Dict_empty ⟨.ref s.heap.objs.size,_,I.laid (a:=s.heap.objs.size) (o:=.dK []) (t':=s.toks) (fun _ _ q=>Heap.get?_push_of_some _ q) (Nat.le_refl _) (Zk3 s.heap I.big),rfl,h _ (I.hok.fresh (Nat.le_refl _))⟩
end
end L2
end
noncomputable section
namespace Mi
open PySem PySem.Spec PyProof.Rows L2
theorem Zdh (t:SetTable) (n:Nat):(t.orStandIn n).led=t.led:=by unfold SetTable.orStandIn; split <;> rfl
theorem Zb3 (t:SetTable) (n:Nat) (h:t.plain=false):(t.orStandIn n).plain=false:=by unfold SetTable.orStandIn; split <;> first | exact h | rfl
theorem Zg3 (t:SetTable) (es:Array (Int×Value)) (h:Int) (x:Value):(layNew t es h x).2.1.led=t.led:=by
  unfold layNew
  split
  · exact Zdh _ _
  · rfl
theorem Zej (t:SetTable) (es:Array (Int×Value)) (h:Int) (x:Value) (hp:t.plain=false):(layNew t es h x).2.1.plain=false:=by
  unfold layNew
  split
  · exact Zb3 _ _ hp
  · rfl
theorem ZcI {t t':SetTable} {hs:Array Int} {n:Nat} {o:Array Nat} (h:t.relaid hs n=some (t',o)):t'.led=t.led∧t'.plain=t.plain:=by
  unfold SetTable.relaid SetTable.laid at h
  simp only [Option.bind_eq_bind] at h
  obtain ⟨w,_,h2⟩:=Option.bind_eq_some_iff.mp h
  cases h2
  exact ⟨rfl,rfl⟩
theorem Zd0 (t:SetTable) (es:Array (Int×Value)) (n:Nat):(relayAll t es n).2.1.led=t.led:=by
  unfold relayAll
  split
  · rename_i t' o h
    dsimp only
    split
    · exact (ZcI h).1
    · rfl
  · rfl
theorem Zcx (t:SetTable) (es:Array (Int×Value)) (n:Nat) (hp:t.plain=false):(relayAll t es n).2.1.plain=false:=by
  unfold relayAll
  split
  · rename_i t' o h
    dsimp only
    split
    · exact (ZcI h).2.trans hp
    · rfl
  · rfl
structure SetE (prog:Program) (w:World) (led:Bool) (o:Obj) (D:List Str) (es:Array (Int×Value)) (ep:Nat) (t:SetTable):Prop where
  ex:o.ExactSet
  data:o.data = .set es ep t
  el:ElemsOf (PySem.strKind prog w) es.toList
  txs:(es.toList.map fun e=>strOf e.2).Perm D
  nd:D.Nodup
  room:es.size < scanBound
  fits:t.fits es.size=true
  led:t.led=led
  plain:es.size≠0→t.plain=false
def SetS (prog:Program) (w:World) (led:Bool) (h:Heap) (a:Addr) (D:List Str):Prop:=∃ o es ep t,h.get? a=some o∧SetE prog w led o D es ep t
theorem Zb8 {x:Str} {v:Value} (h:Value.isStrOf x v=true):strOf v=x:=by
  obtain ⟨t,rfl⟩:=Value.isStrOf_shape h
  rfl
section
variable {prog:Program} {w:World} {A:Around} {E:Value→Shared→Prop} {s:Shared} {led:Bool}
theorem ZjI {v:Value} (h:∃ k,(PySem.strKind prog w).is k v=true):Value.isStrOf (strOf v) v=true:=by
  obtain ⟨k,hk⟩:=h
  have hk:Value.isStrOf k v=true:=hk
  rw [Zb8 hk]
  exact hk
theorem Zf0 {es:List (Int×Value)} (he:ElemsOf (PySem.strKind prog w) es) (k:Str):(∃ e∈es,(PySem.strKind prog w).is k e.2=true)↔k∈es.map fun e=>strOf e.2:=by
  constructor
  · rintro ⟨e,he,hk⟩
    exact List.mem_map.mpr ⟨e,he,Zb8 hk⟩
  · intro h
    obtain ⟨e,hm,rfl⟩:=List.mem_map.mp h
    obtain ⟨⟨k,hk,_⟩,_⟩:=he e hm
    exact ⟨e,hm,ZjI ⟨k,hk⟩⟩
theorem add_str {a:Addr} {D:List Str} {x:Str} {tk:Tok} {Q:Bool→Shared→Prop} (hS:SetS prog w led s.heap a D) (hroom:D.length + 1 < scanBound)
    (h:∀ h' b,Heap.SameBut a s.heap h'→SetS prog w led h' a (if x∈D then D else D++[x])→Q b { s with heap:=h' }) :
    wpAny (model prog w) A (setAddHashed a (.str x tk) (hashStr w x)) Q E s:=by
  obtain ⟨o,es,ep,t,ho,hE⟩:=hS
  have hex:=hE.ex
  have hd:=hE.data
  have hel:=hE.el
  have hf:=hE.fits
  have hkey:(PySem.strKind prog w).is x (.str x tk)=true:=by show Value.isStrOf x (.str x tk)=true; simp [Value.isStrOf]
  have hsc:(Value.str x tk).scannable=true:=rfl
  have hlen:es.size=D.length:=by rw [← hE.txs.length_eq,List.length_map,Array.length_toList]
  show wpAny (model prog w) A (setAddHashed a (.str x tk) ((PySem.strKind prog w).hash x)) Q E s
  unfold setAddHashed setAddHashedIn
  refine wpAny_holding (wpAny_bind (wpAny_setState_of ho hd hf ?_))
  dsimp only
  rw [byScan_of hsc hE.room hel]
  simp only [↓reduceIte]
  unfold setAddByScan
  refine wpAny_bind ?_
  refine wpAny_bind (wpAny_rule ?_)
  refine wpAny_bind (wpAny_setScan_of hkey ho hd hf hel ?_)
  cases hr:List.findIdx? (fun e=>(PySem.strKind prog w).is x e.2) es.toList with
  | some j =>
    dsimp only
    obtain ⟨hj,hpj,_⟩:=List.findIdx?_eq_some_iff_getElem.mp hr
    have hm:x∈D:=hE.txs.mem_iff.mp ((Zf0 hel x).mp ⟨_,List.getElem_mem hj,hpj⟩)
    refine wpAny_pure (wpAny_pure ?_)
    have:=h s.heap false (Heap.SameBut.refl a s.heap) (by rw [if_pos hm]; exact ⟨o,es,ep,t,ho,hE⟩)
    exact this
  | none =>
    dsimp only
    have hm:x ∉ D:=fun hx=>by
      obtain ⟨e,he,hp⟩:=(Zf0 hel x).mpr (hE.txs.mem_iff.mpr hx)
      have:=List.findIdx?_eq_none_iff.mp hr e he
      rw [hp] at this
      exact Bool.noConfusion this
    have hgw:∀ (b:Bool) (s₁:Shared) (Q':Unit→Shared→Prop),Q' () s₁→wpAny (model prog w) A (match b with | true=>rule "set.scan.the-table-gave-way" | false=>pure ()) Q' E s₁ :=
      fun b s₁ Q' hq=>by cases b <;> first | exact wpAny_pure hq | exact wpAny_rule hq
    have hperm:=layNew_perm t es ((PySem.strKind prog w).hash x) (.str x tk)
    have hfits:=layNew_fits t es ((PySem.strKind prog w).hash x) (.str x tk)
    have hled:=Zg3 t es ((PySem.strKind prog w).hash x) (.str x tk)
    have hplain:=Zej t es ((PySem.strKind prog w).hash x) (.str x tk)
    generalize hL:layNew t es ((PySem.strKind prog w).hash x) (.str x tk)=L at hperm hfits hled hplain ⊢
    obtain ⟨es1,t1,wasDummy,gave⟩:=L
    dsimp only at hperm hfits hled hplain ⊢
    rw [Array.toList_push] at hperm
    have hel1:ElemsOf (PySem.strKind prog w) es1.toList:=(hel.push hkey hsc).perm hperm
    have hsz1:es1.size=es.size + 1:=by rw [← Array.length_toList,hperm.length_eq,List.length_append,Array.length_toList]; rfl
    have hb1:es1.size < scanBound:=by omega
    have hst1:(es1.toList.map fun e=>strOf e.2).Perm (D++[x]):=by
      refine (hperm.map _).trans ?_
      rw [List.map_append]
      exact hE.txs.append_right _
    have hnd:(D++[x]).Nodup:=by
      rw [List.nodup_append]
      refine ⟨hE.nd,by simp,fun y hy z hz=>?_⟩
      rw [List.mem_singleton.mp hz]
      exact fun e=>hm (e ▸ hy)
    -- the end,at a table that is plain no more
    have fin:∀ t2:SetTable,t2.led=led→t2.plain=false→t2.fits es1.size=true→wpAny (model prog w) A (do
        storeSet a es1 t2
        if (!wasDummy && t2.tooFull)=true then do
            (match (relayAll t2 es1 (SetTable.grown es1.size)).2.2 with | true=>rule "set.scan.the-table-gave-way" | false=>pure ())
            storeSet a (relayAll t2 es1 (SetTable.grown es1.size)).1 (relayAll t2 es1 (SetTable.grown es1.size)).2.1
            pure (some true)
          else pure (some true)) (fun r s'=>match r with
            | some b=>Q b s'
            | none=>False) E s:=fun t2 hl2 hp2 hf2=>by
      have hg1:(s.heap.update a (Obj.putSet es1 t2)).get? a=some { o with data:=.set es1 (ep + 1) t2 }:=by
        have:=Heap.get?_update_self (Obj.putSet es1 t2) ho (by rw [putSet_of es1 t2 hd]; rfl)
        rw [putSet_of es1 t2 hd] at this
        exact this
      have hsb1:=Heap.SameBut.update s.heap a (Obj.putSet es1 t2)
      refine wpAny_bind (wpAny_storeSet_of ho hd ?_ (fits_of_scanBound hb1))
      split
      · have hp:=relayAll_perm t2 es1 (SetTable.grown es1.size)
        have hfr:=relayAll_fits t2 es1 (SetTable.grown es1.size)
        have hrl:=Zd0 t2 es1 (SetTable.grown es1.size)
        have hrp:=Zcx t2 es1 (SetTable.grown es1.size) hp2
        generalize relayAll t2 es1 (SetTable.grown es1.size)=Rl at hp hfr hrl hrp ⊢
        obtain ⟨es2,t3,gave2⟩:=Rl
        dsimp only at hp hfr hrl hrp ⊢
        have hsz:es2.size=es1.size:=by rw [← Array.length_toList,hp.length_eq,Array.length_toList]
        refine wpAny_bind (hgw _ _ _ ?_)
        refine wpAny_bind (wpAny_storeSet_of hg1 rfl ?_ (fits_of_scanBound (by omega)))
        have hg2:((s.heap.update a (Obj.putSet es1 t2)).update a (Obj.putSet es2 t3)).get? a=some { o with data:=.set es2 (ep + 1 + 1) t3 } :=
          Heap.get?_update_self (Obj.putSet es2 t3) hg1 rfl
        refine wpAny_pure (h _ true (hsb1.trans (Heap.SameBut.update _ a _)) ?_)
        rw [if_neg hm]
        exact ⟨_,es2,_,t3,hg2,⟨hex,rfl,hel1.perm hp,(hp.map _).trans hst1,hnd,by omega,hfr,hrl.trans hl2,fun _=>hrp⟩⟩
      · refine wpAny_pure (h _ true hsb1 ?_)
        rw [if_neg hm]
        exact ⟨_,es1,_,t2,hg1,⟨hex,rfl,hel1,hst1,hnd,hb1,hf2,hl2,fun _=>hp2⟩⟩
    refine wpAny_bind (hgw _ _ _ ?_)
    have done:∀ {r:Option Bool} {s':Shared},(match r with
        | some b=>Q b s'
        | none=>False)→wpAny (model prog w) A (match r with
          | some added=>pure added
          | none=>setAddHashedIn a (.str x tk) ((PySem.strKind prog w).hash x) 99999) Q E s':=fun {r s'} hr=>by
      cases r with
      | none=>exact hr.elim
      | some b=>exact wpAny_pure hr
    split
    · refine wpAny_bind ?_
      rw [hashByValue_scannable 8 hsc]
      refine wpAny_pure ?_
      exact wpAny_mono (fin { t1 with plain:=false } (hled.trans hE.led) rfl (SetTable.fits_plain_off hfits)) (fun r s' hr=>done hr) fun _ _ e=>e
    · rename_i hpl
      refine wpAny_bind (wpAny_pure ?_)
      simp only [↓reduceIte]
      exact wpAny_mono (fin t1 (hled.trans hE.led) (by simpa using hpl) hfits) (fun r s' hr=>done hr) fun _ _ e=>e
def dd (val:Nat→Str):Nat→List Str
  | 0=>[]
  | i + 1=>if val i∈dd val i then dd val i else dd val i++[val i]
theorem Zf6 (val:Nat→Str):∀ i,(dd val i).length≤i
  | 0=>Nat.le_refl _
  | i + 1=>by
    have:=Zf6 val i
    unfold dd
    split
    · omega
    · rw [List.length_append,List.length_singleton]; omega
abbrev Jj (w:World):Bool:=!w.params.followText "set-order"
theorem SetS.at' {h h':Heap} {a:Addr} {D:List Str} (hS:SetS prog w led h a D) (k:∀ o,h.get? a=some o→h'.get? a=some o):SetS prog w led h' a D:=by
  obtain ⟨o,es,ep,t,ho,hE⟩:=hS
  exact ⟨o,es,ep,t,k o ho,hE⟩
theorem Zaw {I:Addr} {fp wr:List Addr} {G:Array GenState→Array GenState→Prop} {n:Nat} {P:Nat→Value→Prop} {St:Nat→Shared→Prop} {R:Result→Shared→Prop} (W:WalksS prog w A.in1 I fp wr G n P St) (S:Addr) (hSf:S ∉ fp)
    (val:Nat→Str) (hval:∀ i v,P i v→∃ t,v = .str (val i) t) (hb:n + 1 < scanBound):∀ (k i:Nat) (s:Shared),n - i=k→i≤n→St i s→SetS prog w led s.heap S (dd val i) →
      (∀ s',Moved (S :: wr) G s s'→SetS prog w led s'.heap S (dd val n)→R (.ok (.ret .none)) s')→codeAny (model prog w) A (.builtin "set.update.loop" ⟨[.ref S,.ref I],[]⟩) R s:=by
  have hSw:S ∉ wr:=fun h=>hSf (W.sub _ h)
  have hsub:∀ b∈wr,b∈S :: wr:=fun b hb=>List.mem_cons_of_mem _ hb
  intro k
  induction k with
  | zero =>
    intro i s hk hi hst hS hR
    have hin:i=n:=by omega
    subst hin
    refine codeAny_builtin PyProof.Rows.F.entry_set_update_loop ?_
    rw [Around.under_plainId PyProof.Rows.F.plain_set_update_loop _]
    show wpAny _ A.in1 (pyNext (.ref I) >>= _) _ _ s
    refine wpAny_bind (W.done s _ _ hst fun s' hm=>?_)
    show wpAny _ A.in1 (ret Value.none) _ _ s'
    exact wpAny_pure (hR s' (hm.mono hsub) (hS.at' fun o ho=>hm.heap S _ hSw ho))
  | succ k ih =>
    intro i s hk hi hst hS hR
    have hlt:i < n:=by omega
    refine codeAny_builtin PyProof.Rows.F.entry_set_update_loop ?_
    rw [Around.under_plainId PyProof.Rows.F.plain_set_update_loop _]
    show wpAny _ A.in1 (pyNext (.ref I) >>= _) _ _ s
    refine wpAny_bind (W.item i s _ _ hlt hst fun v s' hP hst' hm=>?_)
    obtain ⟨t,rfl⟩:=hval i v hP
    have hS':SetS prog w led s'.heap S (dd val i):=hS.at' fun o ho=>hm.heap S _ hSw ho
    show wpAny _ A.in1 (holding [Value.str (val i) t] (setAdd S (.str (val i) t)) >>= _) _ _ s'
    refine wpAny_bind (wpAny_holding ?_)
    unfold setAdd
    refine wpAny_holding ?_
    refine wpAny_bind ((PySem.strKind prog w).pyHash (k:=val i) (by show Value.isStrOf (val i) (.str (val i) t)=true; simp [Value.isStrOf]) ?_)
    have hroom:(dd val i).length + 1 < scanBound:=by have:=Zf6 val i; omega
    refine add_str (s:={ s' with toks:=s'.toks + 1 }) hS' hroom fun h' b hsb hS2=>?_
    refine wpAny_pure ⟨plainId_quiet PyProof.Rows.F.plain_set_update_loop _,ih (i + 1) _ (by omega) hlt (W.frame _ s' _ _ hst' (Nat.le_succ _) fun b hb o e=>?_) hS2 fun s'' hm'' hS''=>?_⟩
    · rw [hsb.2 b (fun h:b=S=>hSf (by rw [← h]; exact hb))]; exact e
    · refine hR s'' (Moved.trans W.gtrans ((hm.mono hsub).then_heap (Nat.le_succ _) fun b o hb e=>?_) hm'') hS''
      rw [hsb.2 b (fun h:b=S=>hb (by rw [h]; exact List.mem_cons_self))]; exact e
theorem ZfM (a:Value) {Q₁:Value→Shared→Prop}
    (h:Q₁ (.ref s.heap.objs.size) { s with heap:=s.heap.push { cls:=.type "set",dict:=none,data:=.set #[] 0 (.fresh 0 0 (Jj w)) } }) :
    codeAny (model prog w) A (.call (.builtin "set.__new__") ⟨[.type "set",a],[]⟩) (wants Q₁ E) s:=by
  refine codeAny_of_tree ?_
  show wpAny _ A.in1 (do checkBuiltinCall "set.__new__" ⟨[.type "set",a],[]⟩; again (.builtin "set.__new__" ⟨[.type "set",a],[]⟩)) _ _ s
  refine wpAny_bind (wpAny_of_eq (PySem.F.newCall_set_1 a) (wpAny_pure ⟨plainId_quiet PySem.F.plain_set_new _,codeAny_builtin PySem.F.entry_set_new ?_⟩))
  rw [Around.under_plainId PySem.F.plain_set_new _]
  unfold Builtin.«set.__new__» Builtin.Frozenset.newClass
  have hsub:=sub_set_self
  obtain ⟨hp,g,d,tk,os⟩:=s
  dsimp only
  wp_walk
  refine wpAny_askSetting (wpAny_pure ?_)
  dsimp only
  simp only [newObj]
  refine wpAny_bind (wpAny_alloc (wpAny_pure ?_))
  exact wpAny_pure h
theorem Zeq {h:Heap} {a:Addr} {led:Bool} (ha:h.get? a=some { cls:=.type "set",dict:=none,data:=.set #[] 0 (.fresh 0 0 led) }):SetS prog w led h a [] :=
  ⟨_,#[],0,_,ha,⟨⟨rfl,rfl,rfl⟩,rfl,fun e he=>by simp at he,List.Perm.nil,List.nodup_nil,by unfold scanBound; decide,rfl,rfl,fun h=>absurd rfl h⟩⟩
set_option maxHeartbeats 3200000 in
theorem ZdD {l:Addr} {items:Array Value} {val:Nat→Str} {Q:Value→Shared→Prop} (hh:A.handled=none) (hl:s.heap.IsList l items) (hv:∀ (i:Nat) v,items[i]? = some v→∃ t,v = .str (val i) t) (hb:items.size + 1 < scanBound)
    (h:∀ (h':Heap) (tk:Nat),SetS prog w (Jj w) h' s.heap.objs.size (dd val items.size)→(∀ b o,s.heap.get? b=some o→h'.get? b=some o)→Q (.ref s.heap.objs.size) { s with heap:=h',toks:=tk }) :
    wpAny (model prog w) A (PySem.call (.type "set") [.ref l]) Q E s:=by
  obtain ⟨c,tl,hmro⟩:=PySem.F.called_set.mro
  have hmade:=PySem.F.called_set.made
  have hsub:=PySem.F.called_set.sub
  refine wpAny_call (codeAny_of_tree ?_)
  show wpAny _ _ (callAny (.type "set") _) _ _ _
  refine wpAny_pure ⟨Code.quiet_builtin _ (by decide +kernel),codeAny_builtin PySem.F.entry_type_call ?_⟩
  rw [Around.under_plain (weight_type_call_type "set" [.ref l] []) rfl]
  have h1:=PySem.F.called_set.notType
  have h2:=PySem.F.called_set.canCreate
  have hct:=PySem.F.typeCall_set_1 (.ref l)
  repeat (any_goals (first | assumption | wp_step))
  refine codeAny_mono (ZfM (.ref l) (E:=E) (Q₁:=fun obj s₁=>obj = .ref s.heap.objs.size∧s₁ = { s with heap:=s.heap.push { cls:=.type "set",dict:=none,data:=.set #[] 0 (.fresh 0 0 (Jj w)) } }) ⟨rfl,rfl⟩) fun r s₁ hr=>?_
  cases r with
  | error e=>exact hr
  | ok fl =>
    cases fl with
    | ret obj =>
      obtain ⟨rfl,rfl⟩:=hr
      have hS:(s.heap.push { cls:=.type "set",dict:=none,data:=.set #[] 0 (.fresh 0 0 (Jj w)) }).get? s.heap.objs.size=some { cls:=.type "set",dict:=none,data:=.set #[] 0 (.fresh 0 0 (Jj w)) }:=Heap.get?_push_size _ rfl
      have hT:Shared.TypeIs { s with heap:=s.heap.push { cls:=.type "set",dict:=none,data:=.set #[] 0 (.fresh 0 0 (Jj w)) } } (.ref s.heap.objs.size) "set":=⟨_,hS,rfl⟩
      have hli:=PySem.F.called_set.init.lookup
      have hbi:=PySem.F.called_set.init.bind (.ref s.heap.objs.size)
      repeat (any_goals (first | assumption | wp_step))
      refine codeAny_mono (codeAny_call_builtin (R:=wants (fun r s₂=>r = .none∧∃ h' tk,s₂ = { s with heap:=h',toks:=tk }∧SetS prog w (Jj w) h' s.heap.objs.size (dd val items.size)∧(∀ b o,s.heap.get? b=some o→h'.get? b=some o)) E) PySem.F.called_set.init.plain PySem.F.entry_set_init (check_set_init_1 hT ?_)) fun r₂ s₂ hr₂=>?_
      · obtain ⟨ol,hol,hcl,nl,hdl⟩:=hl
        obtain ⟨ocls,odict,odata,oslots⟩:=ol
        simp only at hcl hdl
        subst hcl; subst hdl
        have hol':(s.heap.push { cls:=.type "set",dict:=none,data:=.set #[] 0 (.fresh 0 0 (Jj w)) }).get? l=some { cls:=.type "list",dict:=odict,data:=.seq items nl,slots:=oslots }:=Heap.get?_push_of_some _ hol
        have hsls:=PySem.F.sub_list_set
        have hslf:=PySem.F.sub_list_frozenset
        have hne:(Value.type "list" == Value.type "dict")=false:=by decide
        have hl1:(s.heap.push { cls:=.type "set",dict:=none,data:=.set #[] 0 (.fresh 0 0 (Jj w)) }).IsList l items:=⟨_,hol',rfl,nl,rfl⟩
        unfold Builtin.«set.__init__» noKeywords Builtin.Frozenset.updateFrom
        generalize hPI:pyIter=PI
        wp_walk
        subst hPI
        refine wpAny_pyIter_list hl1 ?_
        refine wpAny_bind (wpAny_runValue ?_)
        have hlS:l < s.heap.objs.size:=Heap.lt_size hol
        have hh3:A.in1.in1.in1.handled=none:=by simp [hh]
        have hneI:l≠(s.heap.push { cls:=.type "set",dict:=none,data:=.set #[] 0 (.fresh 0 0 (Jj w)) }).objs.size:=by
          rw [Heap.size_push]; exact Nat.ne_of_lt (Nat.lt_succ_of_lt hlS)
        have hSf:s.heap.objs.size ∉ [(s.heap.push { cls:=.type "set",dict:=none,data:=.set #[] 0 (.fresh 0 0 (Jj w)) }).objs.size,l]:=by
          rw [Heap.size_push]; simp only [List.mem_cons,List.mem_singleton,List.not_mem_nil,or_false,not_or]
          exact ⟨Nat.ne_of_lt (Nat.lt_succ_self _),Nat.ne_of_gt hlS⟩
        refine Zaw (led:=Jj w) ((Walks.list hh3 _ l hneI items).toS) s.heap.objs.size hSf val hv hb (items.size - 0) 0 _ (by omega) (Nat.zero_le _)
          ⟨⟨_,Heap.get?_push_size _ rfl,rfl,rfl⟩,(hl1.push _)⟩ ?hS0 ?hR
        case hS0 =>
          exact Zeq (led:=Jj w) (Heap.get?_push_of_some _ hS)
        case hR =>
          intro s' hm hS'
          obtain ⟨h',g',d',tk',os'⟩:=s'
          have eg:g' = s.gens:=hm.gens
          have ed:d' = s.drawn:=hm.drawn
          have eo:os' = s.os:=hm.os
          subst eg; subst ed; subst eo
          show wpAny _ _ _ _ _ _
          refine wpAny_pure ?_
          show wpAny _ _ (ret Value.none) _ _ _
          refine wpAny_pure ⟨rfl,h',tk',rfl,hS',fun b o e=>?_⟩
          have hb:=Heap.lt_size e
          have hb1:b≠s.heap.objs.size:=Nat.ne_of_lt hb
          have hb2:b≠(s.heap.push { cls:=.type "set",dict:=none,data:=.set #[] 0 (.fresh 0 0 (Jj w)) }).objs.size:=by
            rw [Heap.size_push]; exact Nat.ne_of_lt (Nat.lt_succ_of_lt hb)
          exact hm.heap b o (by simp only [List.mem_cons,List.mem_singleton,List.not_mem_nil,or_false,not_or]; exact ⟨hb1,hb2⟩) (Heap.get?_push_of_some _ (Heap.get?_push_of_some _ e))
      · cases r₂ with
        | error e=>exact hr₂
        | ok fl₂ =>
          cases fl₂ with
          | ret r =>
            obtain ⟨rfl,h',tk,rfl,hS',hk'⟩:=hr₂
            repeat (any_goals (first | assumption | wp_step))
            exact h _ _ hS' hk'
          | _=>exact hr₂.elim
    | _=>exact hr.elim
end
end Mi
end
noncomputable section
namespace PySem.F
end PySem.F
namespace Mi
open PySem PySem.Spec PyProof.Rows L2
section
variable {M:Model} {A:Around} {E:Value→Shared→Prop} {s:Shared}
end
section
variable {prog:Program} {w:World} {A:Around} {E:Value→Shared→Prop} {s:Shared}
def ZnE (h:Heap) (it a:Addr) (first:Value) (i n ep:Nat):Prop:=∃ o,h.get? it=some o∧o.cls = .type "set_iterator"∧o.data = .fields #[first,.int i 0,.ref a,.int n 0,.int ep 0]
end
end Mi
end
noncomputable section
namespace PySem.F
end PySem.F
namespace Mi
open PySem PySem.Spec PyProof.Rows L2
section
variable {prog:Program} {w:World} {A:Around} {E:Value→Shared→Prop} {s:Shared}
inductive SetIt (w:World) (h:Heap) (it a tp:Addr) (vs:List Value) (i:Nat):Prop where
  | drawn {o:Obj} {es:Array (Int×Value)} {ep:Nat} {t:SetTable} {pl:Array Value}:ZnE h it a (.ref tp) i es.size ep→h.get? a=some o→o.data = .set es ep t→t.fits es.size=true→h.IsTuple tp pl →
      (∀ (k:Nat) v,vs[k]? = some v→∃ (pp:Nat) (e:Int×Value),pl[k]? = some (.int pp 0)∧es[pp]? = some e∧e.2=v)→pl.size=vs.length→SetIt w h it a tp vs i
  | text {o:Obj} {es:Array (Int×Value)} {ep:Nat} {t:SetTable}:w.params.followText "set-order" = true→ZnE h it a (.int (0:Nat) 0) i es.size ep→h.get? a=some o→o.data = .set es ep t→t.fits es.size=true →
      vs=(pickOrder (w.params.setOrder a ep) es).toList.map (·.2)→SetIt w h it a tp vs i
  | few {o:Obj} {es:Array (Int×Value)} {ep:Nat} {t:SetTable} {sl:Nat}:w.params.followText "set-order" = false→t.led=true→ZnE h it a (.int sl 0) i es.size ep→h.get? a=some o→o.data = .set es ep t→t.fits es.size=true→es.size≤1 →
      vs=es.toList.map (·.2)→(i=0∧sl=0∨i=1∧es.size=1∧∃ j,t.place = #[j]∧sl=j + 1)→SetIt w h it a tp vs i
end
end Mi
end
noncomputable section
namespace Mi
open PySem PySem.Spec PyProof.Rows L2
section
variable {prog:Program} {w:World} {A:Around} {E:Value→Shared→Prop} {s:Shared}
end
end Mi
end
noncomputable section
namespace Mi
open PySem PySem.Spec PyProof.Rows L2
section
variable {prog:Program} {w:World} {A:Around} {E:Value→Shared→Prop} {s:Shared}
end
end Mi
end
noncomputable section
namespace Mi
open PySem
inductive T where
  | non | bl (b:Bool) | int (i:Int) | str (cs:List Nat)
  | tup (ts:List T) | lst (ts:List T)
  | dct (ks:List L2.Key) (ts:List T)
  | scr (ns:List Int)
  deriving Inhabited
inductive W where
  | t (x:T) | c (i:Nat) | f (a:Nat)
  deriving Inhabited
abbrev Mem:=List (Option (Bool×List T))
structure Exc where
  cls:Str
  flds:List T
inductive Res (a:Type) where
  | ok (x:a) (m:Mem) | exc (x:Exc) (m:Mem) | stuck
def Res.bind {a b:Type} (r:Res a) (f:a→Mem→Res b):Res b:=match r with
  | .ok x m=>f x m
  | .exc x m=>.exc x m
  | .stuck=>.stuck
abbrev Env:=List (Option W)
inductive B where
  | len | int | str | tuple | list | all | any | sum | min2 | max2 | sortset | sorted | dict | range1 | range2 | enum | zip2
  | bool | dget | din | dnot | zip4 | lenset | minl | isbis
  deriving DecidableEq
inductive Mt where
  | join | upper | append | pop | popat | insert | clear | count | get | index | split | partition | extend | reverse
  deriving DecidableEq
inductive Ty where
  | int | bool | str | tuple | list | dict
  deriving DecidableEq
inductive Tg where
  | nm (i:Nat) | tp (is:List Nat)
  deriving DecidableEq
mutual
inductive E where
  | var (i:Nat) | gl (k:Nat) | con (x:T)
  | bin (op:Operator) (a b:E) | neg (a:E) | not (a:E)
  | and (a b:E) | or (a b:E) | one (a:E)
  | cmp (op:CmpOp) (a b:E) | chn (op op':CmpOp) (a b c:E)
  | ite (c a b:E)
  | tup (es:Es) | lst (es:Es) | cel (es:Es) | celL (a:E) | celA (a b:E) | dsp (ks vs:Es)
  | ix (a b:E) | slc (a lo hi:E) | rev (a:E) | hole
  | call (f:Nat) (es:Es) | blt (b:B) (es:Es) | mth (b:Mt) (o:E) (es:Es)
  | isi (a:E) (ty:Ty)
  | comp (own:Nat) (keep:List Nat) (it:E) (tg:Tg) (cs:Es) (inner:E)
  | more (it:E) (tg:Tg) (cs:Es) (inner:E)
  | emit (a:E)
  | tr (a:E)
  | fnv (j:Nat) | callV (i:Nat) (tab:List (Nat×Nat)) (es:Es)
inductive Es where
  | nil | cons (e:E) (es:Es)
end
def ZS:E→Bool
  | .hole=>true
  | _=>false
inductive S where
  | done
  | asg (i:Nat) (e:E) (k:S)
  | asgT (is:List Nat) (e:E) (k:S)
  | asgC (i:Nat) (e:E) (k:S)
  | set (o i v:E) (k:S)
  | aug (i:Nat) (op:Operator) (e:E) (k:S)
  | ife (c:E) (a b k:S)
  | forr (tg:Tg) (it:E) (body k:S)
  | whil (c:E) (body k:S)
  | ret (e:E) (k:S) | retN (k:S)
  | expr (e:E) (k:S) | pass (k:S) | brk (k:S) | cont (k:S)
def lim:Nat:=1000000
def nlt:List Nat→List Nat→Bool
  | [],[]=>false
  | [],_ :: _=>true
  | _ :: _,[]=>false
  | a :: x,b :: y=>if a < b then true else if b < a then false else nlt x y
def b2i (b:Bool):Int:=if b then 1 else 0
mutual
def eqT:T→T→Bool
  | .non,.non=>true
  | .bl a,.bl b=>a == b
  | .bl a,.int b=>b2i a == b
  | .int a,.bl b=>a == b2i b
  | .int a,.int b=>a == b
  | .str a,.str b=>a == b
  | .tup a,.tup b=>eqTs a b
  | .lst a,.lst b=>eqTs a b
  | _,_=>false
def eqTs:List T→List T→Bool
  | [],[]=>true
  | a :: x,b :: y=>eqT a b && eqTs x y
  | _,_=>false
end
mutual
def Zm:Nat→T→Bool
  | _,.non=>true
  | _,.bl _=>true
  | _,.int _=>true
  | _,.str cs=>PyData.strOk ⟨cs.toArray⟩
  | n + 1,.tup ts=>Zo n ts
  | n + 1,.lst ts=>Zo n ts
  | _,_=>false
def Zo:Nat→List T→Bool
  | _,[]=>true
  | n,t :: ts=>Zm n t && Zo n ts
end
def flat:T→Bool
  | .non | .bl _ | .int _ | .str _=>true
  | _=>false
mutual
def eqok:Nat→T→Bool
  | _,.non=>true
  | _,.bl _=>true
  | _,.int _=>true
  | _,.str _=>true
  | n + 1,.tup ts=>Zng n ts
  | n + 1,.lst ts=>Zng n ts
  | _,_=>false
def Zng:Nat→List T→Bool
  | _,[]=>true
  | n,t :: ts=>eqok n t && Zng n ts
end
def ZfH:T→Bool
  | .non=>false
  | .bl b=>b
  | .int i=>i != 0
  | .str cs=>!cs.isEmpty
  | .tup ts=>!ts.isEmpty
  | .lst ts=>!ts.isEmpty
  | .dct ks _=>!ks.isEmpty
  | .scr ns=>!ns.isEmpty
def ixOf (n:Nat) (i:Int):Option Nat:=if 0≤i then (if i < n then some i.toNat else none) else if -(n:Int)≤i then some (i + n).toNat else none
def atT {a:Type} (xs:List a) (i:Int):Option a:=(ixOf xs.length i).bind fun j=>xs[j]?
def Zi0 (n d:Nat):Option Int→Nat
  | none=>d
  | some i=>if i < 0 then (i + n).toNat else min i.toNat n
def cut {a:Type} (xs:List a) (lo hi:Option Int):List a :=
  (xs.drop (Zi0 xs.length 0 lo)).take (Zi0 xs.length xs.length hi - Zi0 xs.length 0 lo)
def repT {a:Type} (xs:List a) (k:Nat):List a:=(List.replicate k xs).flatten
def bigN:Nat:=(2 ^ 250) ^ 8
def small (i:Int):Bool:=decide (i.natAbs < 2 ^ 64)
def Zbd (i j:Int):Bool:=small i || small j || (decide (i.natAbs < bigN) && decide (j.natAbs < bigN))
def addT:T→T→Option T
  | .int i,.int j=>some (.int (i + j))
  | .str a,.str b=>if a.length + b.length≤lim then some (.str (a++b)) else none
  | .tup a,.tup b=>if a.length + b.length≤lim then some (.tup (a++b)) else none
  | .lst a,.lst b=>if a.length + b.length≤lim then some (.lst (a++b)) else none
  | _,_=>none
def mulT (x y:T):Option T:=match y with
  | .int k=>match x with
    | .int i=>if Zbd i k then some (.int (i * k)) else none
    | .tup a=>if (-(lim:Int)≤k∧k≤lim)∧a.length * k.toNat≤lim then some (.tup (repT a k.toNat)) else none
    | .lst a=>if (-(lim:Int)≤k∧k≤lim)∧a.length * k.toNat≤lim then some (.lst (repT a k.toNat)) else none
    | .str a=>if k=0∨k=1 then some (.str (repT a k.toNat)) else none
    | _=>none
  | _=>none
def intT (f:Int→Int→Option T) (x y:T):Option T:=match x with
  | .int i=>match y with
    | .int j=>f i j
    | _=>none
  | _=>none
def binT (op:Operator) (x y:T):Option T :=
  match op with
  | .Add=>addT x y
  | .Sub=>intT (fun i j=>some (.int (i - j))) x y
  | .Mult=>mulT x y
  | .FloorDiv=>intT (fun i j=>if 0 < j∧j < 1073741824 then some (.int (i / j)) else none) x y
  | .Mod=>intT (fun i j=>if 0 < j then some (.int (i % j)) else none) x y
  | .Pow=>intT (fun i j=>if 0≤j∧j≤1000∧i.natAbs < 2 ^ 64 then some (.int (i ^ j.toNat)) else none) x y
  | _=>none
def augT (op:Operator) (x y:T):Option T :=
  match op,x,y with
  | .Add,.int i,.int j=>some (.int (i + j))
  | .Sub,.int i,.int j=>some (.int (i - j))
  | _,_,_=>none
def ZdU (x y:T):Bool:=match x,y with
  | .bl _,.int _=>false
  | .int _,.bl _=>false
  | x,y=>flat x && flat y
def hasT (x:T) (y:T):Option Bool :=
  match y with
  | .tup ts=>if flat x && ts.all flat then some (ts.any fun t=>eqT t x) else none
  | .lst ts=>if flat x && ts.all flat then some (ts.any fun t=>eqT t x) else if Zm 59 x && Zo 59 ts then some (ts.any fun t=>eqT t x) else none
  | _=>none
def ZkN (f:Int→Int→Bool) (x y:T):Option Bool:=match x with
  | .int i=>match y with
    | .int j=>some (f i j)
    | _=>none
  | _=>none
def ltT (x y:T):Option Bool:=match x with
  | .int i=>match y with
    | .int j=>some (decide (i < j))
    | _=>none
  | .str a=>match y with
    | .str b=>some (nlt a b)
    | _=>none
  | _=>none
def inT (x y:T):Option Bool:=match x with
  | .str [a]=>match y with
    | .str b=>some (decide (a∈b))
    | y=>hasT (.str [a]) y
  | x=>hasT x y
def sameT (x y:T):Option Bool:=match y with
  | .non=>some (match x with | .non=>true | _=>false)
  | .bl b=>some (match x with | .bl a=>a == b | _=>false)
  | _=>none
def cmpT (op:CmpOp) (x y:T):Option Bool :=
  match op with
  | .Lt=>ltT x y
  | .LtE=>ZkN (fun i j=>decide (i≤j)) x y
  | .Gt=>ZkN (fun i j=>decide (j < i)) x y
  | .GtE=>ZkN (fun i j=>decide (j≤i)) x y
  | .Eq=>if ZdU x y || (Zm 60 x && Zm 60 y) then some (eqT x y) else none
  | .NotEq=>if ZdU x y || (Zm 60 x && Zm 60 y) then some (!eqT x y) else none
  | .In=>inT x y
  | .NotIn=>(inT x y).map (!·)
  | .Is=>sameT x y
  | .IsNot=>(sameT x y).map (!·)
def isT (x:T) (ty:Ty):Bool :=
  match x,ty with
  | .int _,.int=>true
  | .bl _,.int=>true
  | .bl _,.bool=>true
  | .str _,.str=>true
  | .tup _,.tuple=>true
  | .lst _,.list=>true
  | .scr _,.list=>true
  | .dct _ _,.dict=>true
  | _,_=>false
def ixT (x i:T):Option T :=
  match x,i with
  | .tup ts,.int k=>atT ts k
  | .lst ts,.int k=>atT ts k
  | .scr ns,.int k=>(atT ns k).map .int
  | .str cs,.int k=>if cs.length≤lim then (atT cs k).map fun c=>.str [c] else none
  | _,_=>none
def slT (x:T) (lo hi:Option Int):Option T :=
  match x with
  | .tup ts=>some (.tup (cut ts lo hi))
  | .lst ts=>some (.lst (cut ts lo hi))
  | .scr ns=>some (.lst ((cut ns lo hi).map .int))
  | .str cs=>if cs.length≤lim then some (.str (cut cs lo hi)) else none
  | _=>none
def insT (x:List Nat):List (List Nat)→List (List Nat)
  | []=>[x]
  | y :: r=>if nlt x y then x :: y :: r else if nlt y x then y :: insT x r else y :: r
def Qs (xs:List (List Nat)):List (List Nat):=xs.foldr insT []
def insN (x:List Nat):List (List Nat)→List (List Nat)
  | []=>[x]
  | y :: r=>if nlt y x then y :: insN x r else x :: y :: r
def sortN (xs:List (List Nat)):List (List Nat):=xs.foldr insN []
def strs? : List T→Option (List (List Nat))
  | []=>some []
  | .str c :: r=>(strs? r).map (c :: ·)
  | _=>none
def ints? : List T→Option (List Int)
  | []=>some []
  | .int c :: r=>(ints? r).map (c :: ·)
  | _=>none
def bools? : List T→Option (List Bool)
  | []=>some []
  | .bl c :: r=>(bools? r).map (c :: ·)
  | _=>none
def joinN (sep:List Nat):List (List Nat)→List Nat
  | []=>[]
  | [x]=>x
  | x :: r=>x++sep++joinN sep r
def upN (c:Nat):Nat:=if 97≤c∧c≤122 then c - 32 else c
def asciiN (c:Nat):Bool:=decide (c < 128)
def decI (i:Int):List Nat:=(Str.ofString (toString i)).cps.toList
def rangeT (lo:Int) (n:Nat):List T:=(List.range n).map fun k:Nat=>.int (lo + (k:Int))
def ZlJ:T→Option (List T)
  | .tup ts=>some ts
  | .lst ts=>some ts
  | .scr ns=>some (ns.map .int)
  | .str cs=>if cs.length≤lim then some (cs.map fun c=>.str [c]) else none
  | _=>none
def view (w:W) (m:Mem):Option T:=match w with
  | .t x=>some x
  | .f _=>none
  | .c i=>match m[i]? with
    | some (some (_,ts))=>some (.lst ts)
    | _=>none
def pur (o:Option T) (m:Mem):Res W:=match o with
  | some t=>.ok (.t t) m
  | none=>.stuck
def frz (w:W) (m:Mem):Res T:=match w with
  | .t x=>.ok x m
  | .f _=>.stuck
  | .c i=>match m[i]? with
    | some (some (false,ts))=>.ok (.lst ts) (m.set i none)
    | _=>.stuck
def frzs:List W→Mem→Res (List T)
  | [],m=>.ok [] m
  | w :: ws,m=>(frz w m).bind fun t m=>(frzs ws m).bind fun ts m=>.ok (t :: ts) m
def views:List W→Mem→Option (List T)
  | [],_=>some []
  | w :: ws,m=>(view w m).bind fun t=>(views ws m).map (t :: ·)
def QL (w:W) (m:Mem):Res (List T):=match w with
  | .f _=>.stuck
  | .t x=>match ZlJ x with
    | some ts=>.ok ts m
    | none=>.stuck
  | .c i=>match m[i]? with
    | some (some (_,ts))=>.ok ts (m.set i (some (true,ts)))
    | _=>.stuck
def giveBack (w:W) (m0 m:Mem):Mem:=match w with
  | .t _=>m
  | .f _=>m
  | .c i=>match m0[i]? with
    | some c=>m.set i c
    | none=>m
def Jr (tg:Tg) (t:T) (env:Env):Option Env:=match tg with
  | .nm i=>some (env.set i (some (.t t)))
  | .tp is=>match t with
    | .tup ts=>if ts.length=is.length then some ((is.zip ts).foldl (fun env p=>env.set p.1 (some (.t p.2))) env) else none
    | _=>none
def one1 (f:T→Option T):List T→Option T
  | [x]=>f x
  | _=>none
def two2 (f:Int→Int→Option T):List T→Option T
  | [.int i,.int j]=>f i j
  | _=>none
def bLen:T→Option T
  | .str cs=>if cs.length≤lim then some (.int cs.length) else none
  | .tup ts=>some (.int ts.length)
  | .lst ts=>some (.int ts.length)
  | .scr ns=>some (.int ns.length)
  | _=>none
def bInt:T→Option T
  | .int i=>some (.int i)
  | .bl b=>some (.int (b2i b))
  | _=>none
def bStr:T→Option T
  | .int i=>if i.natAbs < 2 ^ 250 then some (.str (decI i)) else none
  | _=>none
def bTup:T→Option T
  | .tup ts=>some (.tup ts)
  | .lst ts=>some (.tup ts)
  | .str cs=>if cs.length≤lim then some (.tup (cs.map fun c=>.str [c])) else none
  | _=>none
def bLst:T→Option T
  | .tup ts=>some (.lst ts)
  | .lst ts=>some (.lst ts)
  | _=>none
def ZgW (f:List T→Option T):T→Option T
  | .lst ts=>f ts
  | _=>none
def bRng:T→Option T
  | .int i=>if i < 2 ^ 62∧-(2 ^ 62)≤i then some (.lst (rangeT 0 i.toNat)) else none
  | _=>none
def zipL (xs ys:List T):List T:=List.zipWith (fun x y=>.tup [x,y]) xs ys
def zipT:List T→Option T
  | [.tup xs,.tup ys]=>if xs.length=ys.length∧xs.length≤lim then some (.lst (zipL xs ys)) else none
  | _=>none
def Zho (a b c d:List T):List T:=(a.zip (b.zip (c.zip d))).map fun p=>.tup [p.1,p.2.1,p.2.2.1,p.2.2.2]
def zip4T:List T→Option T
  | [.lst a,.lst b,.lst c,.lst d]=>if (a.length=b.length∧a.length=c.length∧a.length=d.length)∧a.length≤lim then some (.lst (Zho a b c d)) else none
  | _=>none
def Zfo (xs:List T):List T:=List.zipWith (fun (k:Nat) x=>T.tup [.int (k:Int),x]) (List.range xs.length) xs
def Zdn (ts:List T):Option T:=(strs? ts).bind fun xs=>if xs.length < 64 then some (.int ((Qs xs).length:Int)) else none
def minI (n:Int) (ns:List Int):Int:=ns.foldl (fun a b=>if b < a then b else a) n
def Zip (ts:List T):Option T:=(ints? ts).bind fun ns=>match ns with
  | []=>none
  | n :: r=>if r.length < 64 then some (.int (minI n r)) else none
def bIsb:T→Option T
  | .bl _=>some (.bl true)
  | .int _=>some (.bl true)
  | .str _=>some (.bl true)
  | _=>none
def keyT:T→Option L2.Key
  | .int i=>some (.inl i)
  | .str cs=>some (.inr ⟨cs.toArray⟩)
  | _=>none
def pairs? : List T→Option (List (List Nat×T))
  | []=>some []
  | .tup [.str k,v] :: ts=>(pairs? ts).map ((k,v) :: ·)
  | _=>none
def dctT (ps:List (List Nat×T)):T:=.dct (ps.map fun p=>.inr ⟨p.1.toArray⟩) (ps.map (·.2))
def bDict:T→Option T
  | .tup ts=>(pairs? ts).bind fun ps=>if ts.length≤lim∧(ps.map (·.1)).Nodup then some (dctT ps) else none
  | _=>none
def ZkK (ks:List L2.Key) (ts:List T) (k:L2.Key):Option T:=((ks.zip ts).find? fun p=>decide (p.1=k)).map (·.2)
def dGetT:List T→Option T
  | [.dct ks vs,x]=>(keyT x).bind (ZkK ks vs)
  | _=>none
def dInT (neg:Bool):List T→Option T
  | [x,.dct ks vs]=>(keyT x).map fun k=>.bl (if neg then !(ZkK ks vs k).isSome else (ZkK ks vs k).isSome)
  | _=>none
def ZmX (f:List T→Option T):T→Option T
  | .lst ts=>f ts
  | .tup ts=>f ts
  | _=>none
def bltT (b:B) (ts:List T):Option T :=
  match b with
  | .len=>one1 bLen ts
  | .int=>one1 bInt ts
  | .str=>one1 bStr ts
  | .tuple=>one1 bTup ts
  | .list=>one1 bLst ts
  | .all=>one1 (ZmX fun ts=>(bools? ts).map fun bs=>.bl (bs.all id)) ts
  | .any=>one1 (ZmX fun ts=>(bools? ts).map fun bs=>.bl (bs.any id)) ts
  | .sum=>one1 (ZgW fun ts=>(ints? ts).map fun ns=>.int ns.sum) ts
  | .sortset=>one1 (ZgW fun ts=>(strs? ts).bind fun xs=>if xs.length < 64 then some (.lst ((Qs xs).map .str)) else none) ts
  | .sorted=>one1 (ZgW fun ts=>(strs? ts).bind fun xs=>if xs.length < 64 then some (.lst ((sortN xs).map .str)) else none) ts
  | .min2=>two2 (fun i j=>some (.int (if j < i then j else i))) ts
  | .max2=>two2 (fun i j=>some (.int (if j > i then j else i))) ts
  | .range1=>one1 bRng ts
  | .zip2=>zipT ts
  | .dict=>one1 bDict ts
  | .zip4=>zip4T ts
  | .enum=>one1 (ZgW fun ts=>if ts.length≤lim then some (.lst (Zfo ts)) else none) ts
  | .lenset=>one1 (ZmX Zdn) ts
  | .minl=>one1 (ZgW Zip) ts
  | .isbis=>one1 bIsb ts
  | .dget=>dGetT ts
  | .din=>dInT false ts
  | .dnot=>dInT true ts
  | .range2=>two2 (fun i j=>if (i < 2 ^ 62∧-(2 ^ 62)≤i)∧j < 2 ^ 62∧-(2 ^ 62)≤j then some (.lst (rangeT i (j - i).toNat)) else none) ts
  | _=>none
def ofBl (f:Bool→Option T):T→Option T
  | .bl b=>f b
  | _=>none
def idxT (xs:List T) (b:Bool):Option T:=(bools? xs).bind fun bs=>if bs.length≤lim then (bs.findIdx? (· == b)).map fun k=>.int (k:Int) else none
def cntT (xs:List T) (b:Bool):Option T:=(bools? xs).bind fun bs=>if bs.length≤lim then some (.int ((bs.countP (· == b):Nat):Int)) else none
def mthT (b:Mt) (o:T) (ts:List T):Option T :=
  match b with
  | .join=>match o with
    | .str sep=>one1 (ZgW fun xs=>(strs? xs).bind fun ys=>if (ys.map List.length).sum + ys.length * sep.length≤lim then some (.str (joinN sep ys)) else none) ts
    | _=>none
  | .index=>match o with
    | .lst xs=>one1 (ofBl (idxT xs)) ts
    | _=>none
  | .count=>match o with
    | .lst xs=>one1 (ofBl (cntT xs)) ts
    | _=>none
  | .get=>match o with
    | .dct ks vs=>one1 (fun x=>(keyT x).map fun k=>(ZkK ks vs k).getD .non) ts
    | _=>none
  | .upper=>match o with
    | .str cs=>match ts with
      | []=>if cs.all asciiN && decide (cs.length≤lim) then some (.str (cs.map upN)) else none
      | _=>none
    | _=>none
  | _=>none
def mutM (b:Mt) (xs:List T) (ts:List T):Option (T×List T) :=
  match b,ts with
  | .append,[t]=>if xs.length < lim then some (.non,xs++[t]) else none
  | .popat,[.int i]=>match ixOf xs.length i with
    | some k=>(xs[k]?).map fun t=>(t,xs.eraseIdx k)
    | none=>none
  | .pop,[]=>match xs.getLast? with
    | some t=>some (t,xs.dropLast)
    | none=>none
  | _,_=>none
def doM (b:Mt) (o:W) (ws:List W) (m:Mem):Res W:=match b with
  | .append | .pop | .popat | .insert | .clear | .extend | .reverse=>match o with
    | .c i=>(frzs ws m).bind fun ts m=>match m[i]? with
      | some (some (false,xs))=>match mutM b xs ts with
        | some (t,ys)=>.ok (.t t) (m.set i (some (false,ys)))
        | none=>.stuck
      | _=>.stuck
    | .t _=>.stuck
    | .f _=>.stuck
  | _=>pur ((view o m).bind fun x=>(views ws m).bind fun ts=>mthT b x ts) m
def addC (x y:W) (m:Mem):Res W:=match (view x m).bind fun x=>(view y m).bind fun y=>addT x y with
  | some (.lst ts)=>.ok (.c m.length) (m++[some (false,ts)])
  | _=>.stuck
def setM (o i v:W) (m:Mem):Res Unit:=match o,i with
  | .c c,.t (.int k)=>(frz v m).bind fun t m=>match m[c]? with
    | some (some (false,xs))=>match ixOf xs.length k with
      | some j=>.ok () (m.set c (some (false,xs.set j t)))
      | none=>.stuck
    | _=>.stuck
  | _,_=>.stuck
def intP (w:W) (m:Mem):Res (Option Int):=match w with
  | .t (.int i)=>.ok (some i) m
  | _=>.stuck
def dspT (ks vs:List W) (m:Mem):Res W:=match ks,vs with
  | [],[]=>.ok (.t (.dct [] [])) m
  | [.t k],[.t v]=>match keyT k with
    | some kk=>.ok (.t (.dct [kk] [v])) m
    | none=>.stuck
  | _,_=>.stuck
def tyM (b:Mt) (w:W) (m:Mem):Bool:=match b with
  | .join | .upper | .split | .partition=>match view w m with
    | some (.str _)=>true
    | _=>false
  | .append | .pop | .popat | .insert | .clear | .extend | .reverse=>match w with
    | .c i=>match m[i]? with
      | some (some _)=>true
      | _=>false
    | _=>false
  | .count | .index=>match view w m with
    | some (.lst _)=>true
    | _=>false
  | .get=>match view w m with
    | some (.dct _ _)=>true
    | _=>false
def JD (f:Env→Mem→Res (List T)) (tg:Tg):List T→Env→Mem→Res (List T)
  | [],_,m=>.ok [] m
  | t :: ts,env,m=>match Jr tg t env with
    | none=>.stuck
    | some env'=>(f env' m).bind fun xs m=>(JD f tg ts env m).bind fun ys m=>.ok (xs++ys) m
def Res.only {a:Type} (r:Res a):Res a:=match r with
  | .exc _ _=>.stuck
  | r=>r
inductive Flow where
  | next (env:Env) | ret (w:W) | brk (env:Env) | cont (env:Env)
def Qz (f:Env→Mem→Res Flow) (tg:Tg):List T→Env→Mem→Res Flow
  | [],env,m=>.ok (.next env) m
  | t :: ts,env,m=>match Jr tg t env with
    | none=>.stuck
    | some env=>(f env m).bind fun fl m=>match fl with
      | .next env=>Qz f tg ts env m
      | .cont env=>Qz f tg ts env m
      | .brk env=>.ok (.next env) m
      | .ret w=>.ok (.ret w) m
def Zhr (c:Env→Mem→Res Bool) (f:Env→Mem→Res Flow):Nat→Env→Mem→Res Flow
  | 0,_,_=>.stuck
  | n + 1,env,m=>(c env m).bind fun b m=>if b then (f env m).bind fun fl m=>match fl with
      | .next env=>Zhr c f n env m
      | .cont env=>Zhr c f n env m
      | .brk env=>.ok (.next env) m
      | .ret w=>.ok (.ret w) m
    else .ok (.next env) m
def turns:Nat:=1000000
def fitT:T→Bool
  | .str cs=>decide (cs.length≤lim)
  | _=>true
def JW (w:W) (m:Mem):Res Bool:=match view w m with
  | some t=>if fitT t then .ok (ZfH t) m else .stuck
  | none=>.stuck
def ZeJ (w:W) (m:Mem):Res Bool:=match w with
  | .t (.bl b)=>.ok b m
  | _=>.stuck
def ZeO (w:W) (m:Mem):Res (List T):=match w with
  | .t (.lst ts)=>.ok ts m
  | _=>.stuck
def treeW (w:W) (m:Mem):Res W:=match w with
  | .t x=>.ok (.t x) m
  | .c _=>.stuck
  | .f _=>.stuck
def Zm5 (gv:List T) (a:Nat):List (Nat×Nat)→Option Nat
  | []=>none
  | (j,k) :: r=>match gv[j]? with
    | some (.int b)=>if b=(a:Int) then some k else Zm5 gv a r
    | _=>Zm5 gv a r
section
variable (call:Nat→List W→Mem→Res W) (gv:List T)
mutual
def ev:E→Env→Mem→Res W
  | .var i,env,m=>match env[i]? with
    | some (some w)=>.ok w m
    | _=>.stuck
  | .gl k,_,m=>pur gv[k]? m
  | .con t,_,m=>.ok (.t t) m
  | .bin op a b,env,m=>(ev a env m).bind fun x m=>(ev b env m).bind fun y m=>pur ((view x m).bind fun x=>(view y m).bind fun y=>binT op x y) m
  | .neg a,env,m=>(ev a env m).bind fun x m=>pur ((view x m).bind fun x=>match x with
    | .int i=>some (.int (-i))
    | _=>none) m
  | .not a,env,m=>(ev a env m).bind fun x m=>(ZeJ x m).bind fun k m=>.ok (.t (.bl (!k))) m
  | .and a b,env,m=>(ev a env m).bind fun x m=>(ZeJ x m).bind fun k m=>if k then ev b env m else .ok (.t (.bl false)) m
  | .or a b,env,m=>(ev a env m).bind fun x m=>(ZeJ x m).bind fun k m=>if k then .ok (.t (.bl true)) m else ev b env m
  | .one a,env,m=>ev a env m
  | .cmp op a b,env,m=>(ev a env m).bind fun x m=>(ev b env m).bind fun y m=>pur (((view x m).bind fun x=>(view y m).bind fun y=>cmpT op x y).map .bl) m
  | .chn op op' a b c,env,m=>(ev a env m).bind fun x m=>(ev b env m).bind fun y m =>
      match (view x m).bind fun x=>(view y m).bind fun y=>cmpT op x y with
      | some true=>(ev c env m).bind fun z m=>pur (((view y m).bind fun y=>(view z m).bind fun z=>cmpT op' y z).map .bl) m
      | some false=>.ok (.t (.bl false)) m
      | none=>.stuck
  | .ite c a b,env,m=>(ev c env m).bind fun x m=>(JW x m).bind fun k m=>if k then ev a env m else ev b env m
  | .tup es,env,m=>(evs es env m).bind fun ws m=>(frzs ws m).bind fun ts m=>if ts.length≤lim then .ok (.t (.tup ts)) m else .stuck
  | .lst es,env,m=>(evs es env m).bind fun ws m=>(frzs ws m).bind fun ts m=>if ts.length≤lim then .ok (.t (.lst ts)) m else .stuck
  | .cel es,env,m=>(evs es env m).bind fun ws m=>(frzs ws m).bind fun ts m=>if ts.length≤lim then .ok (.c m.length) (m++[some (false,ts)]) else .stuck
  | .celL a,env,m=>(ev a env m).bind fun x m=>match view x m with
    | some (.lst ts)=>.ok (.c m.length) (m++[some (false,ts)])
    | some (.tup ts)=>.ok (.c m.length) (m++[some (false,ts)])
    | _=>.stuck
  | .celA a b,env,m=>(ev a env m).bind fun x m=>(ev b env m).bind fun y m=>addC x y m
  | .dsp ks vs,env,m=>(evs ks env m).bind fun kw m=>(evs vs env m).bind fun vw m=>dspT kw vw m
  | .ix a b,env,m=>(ev a env m).bind fun x m=>(ev b env m).bind fun y m=>pur ((view x m).bind fun x=>(view y m).bind fun y=>ixT x y) m
  | .slc a lo hi,env,m=>(ev a env m).bind fun x m=>(if ZS lo then Res.ok none m else (ev lo env m).bind intP).bind fun l m =>
      (if ZS hi then Res.ok none m else (ev hi env m).bind intP).bind fun h m=>pur ((view x m).bind fun x=>slT x l h) m
  | .hole,_,m=>.ok (.t .non) m
  | .rev a,env,m=>(ev a env m).bind fun x m=>pur ((view x m).bind fun x=>match x with
    | .tup ts=>some (.tup ts.reverse)
    | .lst ts=>some (.lst ts.reverse)
    | _=>none) m
  | .call f es,env,m=>(evs es env m).bind fun ws m=>call f ws m
  | .blt b es,env,m=>(evs es env m).bind fun ws m=>pur ((views ws m).bind fun ts=>bltT b ts) m
  | .mth b o es,env,m=>(ev o env m).bind fun x m=>if tyM b x m then (evs es env m).bind fun ws m=>doM b x ws m else .stuck
  | .isi a ty,env,m=>(ev a env m).bind fun x m=>pur ((view x m).map fun x=>.bl (isT x ty)) m
  | .comp own keep it tg cs inner,env,m=>(ev it env m).only.bind fun x m0=>(QL x m0).bind fun ts m =>
      (JD (fun env m=>(tests cs env m).bind fun k m=>if k then (ev inner env m).bind ZeO else .ok [] m) tg ts (List.replicate own none++keep.map fun i=>(env[i]?).join) m).only.bind fun out m =>
        if out.length≤lim then .ok (.t (.lst out)) (giveBack x m0 m) else .stuck
  | .more it tg cs inner,env,m=>(ev it env m).bind fun x m0=>(QL x m0).bind fun ts m =>
      (JD (fun env m=>(tests cs env m).bind fun k m=>if k then (ev inner env m).bind ZeO else .ok [] m) tg ts env m).bind fun out m=>.ok (.t (.lst out)) (giveBack x m0 m)
  | .emit a,env,m=>(ev a env m).bind fun x m=>(frz x m).bind fun t m=>.ok (.t (.lst [t])) m
  | .tr a,env,m=>(ev a env m).bind treeW
  | .fnv j,_,m=>match gv[j]? with
    | some (.int a)=>.ok (.f a.toNat) m
    | _=>.stuck
  | .callV i tab es,env,m=>match env[i]? with
    | some (some (.f a))=>match Zm5 gv a tab with
      | some k=>(evs es env m).bind fun ws m=>call k ws m
      | none=>.stuck
    | _=>.stuck
def evs:Es→Env→Mem→Res (List W)
  | .nil,_,m=>.ok [] m
  | .cons e es,env,m=>(ev e env m).bind fun w m=>(evs es env m).bind fun ws m=>.ok (w :: ws) m
def tests:Es→Env→Mem→Res Bool
  | .nil,_,m=>.ok true m
  | .cons e es,env,m=>(ev e env m).bind fun x m=>(JW x m).bind fun k m=>if k then tests es env m else .ok false m
end
def ex:S→Env→Mem→Res Flow
  | .done,env,m=>.ok (.next env) m
  | .asg i e k,env,m=>(ev call gv e env m).bind fun w m=>ex k (env.set i (some w)) m
  | .asgT is e k,env,m=>(ev call gv e env m).bind fun w m=>match w with
    | .t t=>match Jr (.tp is) t env with
      | some env=>ex k env m
      | none=>.stuck
    | .c _=>.stuck
    | .f _=>.stuck
  | .asgC i e k,env,m=>(ev call gv e env m).bind fun w m=>match w with
    | .t (.lst ts)=>ex k (env.set i (some (.c m.length))) (m++[some (false,ts)])
    | _=>.stuck
  | .set o i v k,env,m=>(ev call gv v env m).bind fun z m=>(ev call gv o env m).bind fun x m=>(ev call gv i env m).bind fun y m =>
      (setM x y z m).bind fun _ m=>ex k env m
  | .aug i op e k,env,m=>match env[i]? with
    | some (some x)=>(ev call gv e env m).bind fun y m=>(pur ((view x m).bind fun x=>(view y m).bind fun y=>augT op x y) m).bind fun z m=>ex k (env.set i (some z)) m
    | _=>.stuck
  | .ife c a b k,env,m=>(ev call gv c env m).bind fun x m=>(JW x m).bind fun t m =>
      (if t then ex a env m else ex b env m).bind fun fl m=>match fl with
        | .next env=>ex k env m
        | fl=>.ok fl m
  | .forr tg it body k,env,m=>(ev call gv it env m).bind fun x m0=>(QL x m0).bind fun ts m =>
      (Qz (fun env m=>ex body env m) tg ts env m).bind fun fl m=>match fl with
        | .next env=>ex k env (giveBack x m0 m)
        | .ret w=>.ok (.ret w) (giveBack x m0 m)
        | _=>.stuck
  | .whil c body k,env,m=>(Zhr (fun env m=>(ev call gv c env m).bind JW) (fun env m=>ex body env m) turns env m).bind fun fl m=>match fl with
        | .next env=>ex k env m
        | fl=>.ok fl m
  | .ret e _,env,m=>(ev call gv e env m).bind fun w m=>.ok (.ret w) m
  | .retN _,_,m=>.ok (.ret (.t .non)) m
  | .expr e k,env,m=>(ev call gv e env m).bind fun _ m=>ex k env m
  | .pass k,env,m=>ex k env m
  | .brk _,env,m=>.ok (.brk env) m
  | .cont _,env,m=>.ok (.cont env) m
end
structure Fn where
  ps:Nat
  n:Nat
  body:S
  cell:Bool:=false
def fin (n:Nat) (cell:Bool) (fl:Flow) (m:Mem):Res W:=match fl with
  | .ret (.t t)=>.ok (.t t) (m.take n)
  | .ret (.c i)=>if i < n then .ok (.c i) (m.take n) else match m[i]? with
    | some (some (false,ts))=>if cell then .ok (.c n) (m.take n++[some (false,ts)]) else .ok (.t (.lst ts)) (m.take n)
    | _=>.stuck
  | .next _=>.ok (.t .non) (m.take n)
  | _=>.stuck
def Z6 (fns:List Fn) (gv:List T):Nat→Nat→List W→Mem→Res W
  | 0,_,_,_=>.stuck
  | n + 1,f,ws,m=>match fns[f]? with
    | none=>.stuck
    | some d=>if ws.length=d.ps then (ex (Z6 fns gv n) gv d.body (ws.map some++List.replicate (d.n - d.ps) none) m).bind fun fl m'=>fin m.length d.cell fl m' else .stuck
end Mi
end
noncomputable section
namespace Mi
open PySem L2
section
variable (K:PySem.W.Frag)
def ZR (cm:List Addr) (m:Mem) (a:Addr):Prop:=∀ (i:Nat) p,m[i]? = some (some p)→cm[i]?≠some a
def ZeR (H:Hp) (a:Addr) (ns:List Int):Prop:=(∃ o,H a=some (.frz o (.lst (ns.map V.int)))) ∨
    ∃ (o:Obj) (its:Array Value) (n:Nat),K.lookup a=some o∧o.cls = .type "list"∧o.dict=none∧o.data = .seq its n∧its.size≤sizeLine∧Vals (ns.map V.int) its.toList
inductive RT (cm:List Addr) (m:Mem) (H:Hp):T→V→Prop where
  | non:RT cm m H .non .non
  | bl (b:Bool):RT cm m H (.bl b) (.bl b)
  | int (i:Int):RT cm m H (.int i) (.int i)
  | str (cs:List Nat):RT cm m H (.str cs) (.str ⟨cs.toArray⟩)
  | tup {a:Addr} {ts:List T} {vs:List V}:SqT K H a vs→ts.length=vs.length→(∀ (i:Nat) t v,ts[i]? = some t→vs[i]? = some v→RT cm m H t v)→RT cm m H (.tup ts) (.ref a)
  | lst {a:Addr} {ts:List T} {vs:List V}:H a=some (.lst vs)→ZR cm m a→ts.length=vs.length→(∀ (i:Nat) t v,ts[i]? = some t→vs[i]? = some v→RT cm m H t v)→RT cm m H (.lst ts) (.ref a)
  | dct {a:Addr} {ks:List Key} {ts:List T} {vs:List V}:H a=some (.dK (ks.zip vs))→ZR cm m a→ks.length=vs.length→ts.length=vs.length →
      (∀ (i:Nat) t v,ts[i]? = some t→vs[i]? = some v→RT cm m H t v)→RT cm m H (.dct ks ts) (.ref a)
  | scr {a:Addr} (ns:List Int):ZeR K H a ns→RT cm m H (.scr ns) (.ref a)
abbrev RTs (cm:List Addr) (m:Mem) (H:Hp) (ts:List T) (vs:List V):Prop:=Paired (RT K cm m H) ts vs
def RW (cm:List Addr) (m:Mem) (H:Hp):W→V→Prop
  | .t x,v=>RT K cm m H x v
  | .c i,v=>∃ a,cm[i]? = some a∧v = .ref a
  | .f a,v=>v = .ref a
abbrev RWs (cm:List Addr) (m:Mem) (H:Hp) (ws:List W) (vs:List V):Prop:=Paired (RW K cm m H) ws vs
structure MemR (cm:List Addr) (m:Mem) (H:Hp):Prop where
  len:cm.length=m.length
  inj:∀ (i j:Nat) a p q,m[i]? = some (some p)→m[j]? = some (some q)→cm[i]? = some a→cm[j]? = some a→i=j
  at':∀ (i:Nat) p,m[i]? = some (some p)→∃ a vs,cm[i]? = some a∧H a=some (.lst vs)∧K.lookup a=none∧RTs K cm m H p.2 vs
def EnvR (cm:List Addr) (m:Mem) (H:Hp) (env:Env) (σ:L2.St):Prop:=∀ (i:Nat) w,env[i]? = some (some w)→∃ v,σ[i]? = some (some v)∧RW K cm m H w v
structure Ext (cm:List Addr) (m:Mem) (H:Hp) (cm':List Addr) (m':Mem) (H':Hp):Prop where
  pre:∀ (i:Nat) a,cm[i]? = some a→cm'[i]? = some a
  len:m.length≤m'.length
  lent:∀ (i:Nat) ts,m[i]? = some (some (true,ts))→m'[i]? = some (some (true,ts))
  keep:∀ a o,H a=some o→ZR cm m a→H' a=some o∧ZR cm' m' a
end
section
variable {K:PySem.W.Frag} {cm cm' cm'':List Addr} {m m' m'':Mem} {H H' H'':Hp}
theorem Zb1 {α β:Type} {F:α→β→Prop}:∀ {xs:List α} {ys:List β},xs.length=ys.length→(∀ (i:Nat) x y,xs[i]? = some x→ys[i]? = some y→F x y)→Paired F xs ys
  | [],[],_,_=>.nil
  | x :: xs,y :: ys,hl,h=>.cons (h 0 x y rfl rfl) (Zb1 (by simpa using hl) fun i a b ha hb=>h (i + 1) a b (by simpa using ha) (by simpa using hb))
  | [],_ :: _,hl,_=>by simp at hl
  | _ :: _,[],hl,_=>by simp at hl
theorem Xa {α β:Type} {F:α→β→Prop}:∀ {xs:List α} {ys:List β},Paired F xs ys→∀ (i:Nat) x y,xs[i]? = some x→ys[i]? = some y→F x y
  | _,_,.nil,i,x,y,h,_=>by simp at h
  | _,_,.cons r t,0,x,y,h1,h2=>by simp at h1 h2; subst h1; subst h2; exact r
  | _,_,.cons r t,i + 1,x,y,h1,h2=>Xa t i x y (by simpa using h1) (by simpa using h2)
theorem Z9 {α β:Type} {F:α→β→Prop} {xs:List α} {ys:List β} (h:Paired F xs ys) {i:Nat} {x:α} (hx:xs[i]? = some x):∃ y,ys[i]? = some y∧F x y:=by
  have hl:=h.length
  have hi:=(List.getElem?_eq_some_iff.mp hx).1
  have hy:ys[i]? = some (ys[i]'(by omega)):=List.getElem?_eq_getElem (by omega)
  exact ⟨_,hy,Xa h i _ _ hx hy⟩
theorem QZ {α β:Type} {F:α→β→Prop}:∀ {xs xs':List α} {ys ys':List β},Paired F xs ys→Paired F xs' ys'→Paired F (xs++xs') (ys++ys')
  | _,_,_,_,.nil,h=>h
  | _,_,_,_,.cons r t,h=>.cons r (QZ t h)
theorem Zb0 {α β:Type} {F:α→β→Prop}:∀ {xs:List α} {ys:List β} (n:Nat),Paired F xs ys→Paired F (xs.take n) (ys.take n)
  | _,_,0,_=>.nil
  | _,_,_ + 1,.nil=>.nil
  | _,_,n + 1,.cons r t=>.cons r (Zb0 n t)
theorem Zb2 {α β:Type} {F:α→β→Prop}:∀ {xs:List α} {ys:List β} (n:Nat),Paired F xs ys→Paired F (xs.drop n) (ys.drop n)
  | _,_,0,r=>r
  | _,_,_ + 1,.nil=>.nil
  | _,_,n + 1,.cons _ t=>Zb2 n t
theorem ZcJ {α β:Type} {F:α→β→Prop} {x:α} {y:β} (r:F x y):∀ {xs:List α} {ys:List β} (i:Nat),Paired F xs ys→Paired F (xs.set i x) (ys.set i y)
  | _,_,_,.nil=>.nil
  | _,_,0,.cons _ t=>.cons r t
  | _,_,i + 1,.cons q t=>.cons q (ZcJ r i t)
theorem ZD {α β:Type} {F G:α→β→Prop} (f:∀ a b,F a b→G a b) {xs:List α} {ys:List β} (h:Paired F xs ys):Paired G xs ys:=L2.Paired.mapP h f
theorem RT.mtup {a:Addr} {ts:List T} {vs:List V} (h:SqT K H a vs) (r:RTs K cm m H ts vs):RT K cm m H (.tup ts) (.ref a):=.tup h r.length fun i t v h1 h2=>Xa r i t v h1 h2
theorem RT.mlst {a:Addr} {ts:List T} {vs:List V} (h:H a=some (.lst vs)) (n:ZR cm m a) (r:RTs K cm m H ts vs):RT K cm m H (.lst ts) (.ref a):=.lst h n r.length fun i t v h1 h2=>Xa r i t v h1 h2
theorem RT.itup {ts:List T} {v:V} (h:RT K cm m H (.tup ts) v):∃ a vs,v = .ref a∧SqT K H a vs∧RTs K cm m H ts vs:=by
  cases h with
  | tup h1 h2 h3=>exact ⟨_,_,rfl,h1,Zb1 h2 h3⟩
theorem RT.ilst {ts:List T} {v:V} (h:RT K cm m H (.lst ts) v):∃ a vs,v = .ref a∧H a=some (.lst vs)∧ZR cm m a∧RTs K cm m H ts vs:=by
  cases h with
  | lst h1 h2 h3 h4=>exact ⟨_,_,rfl,h1,h2,Zb1 h3 h4⟩
theorem Zap (M:MemR K cm m H) {a:Addr} {o:HO} (h:H a=some o) (hn:∀ vs,o≠.lst vs):ZR cm m a:=fun i ts e z=>by
  obtain ⟨b,vs,h1,h2,_,_⟩:=M.at' i ts e
  rw [h1] at z; cases z
  rw [h2] at h; cases h
  exact hn _ rfl
theorem Ext.sqT (x:Ext cm m H cm' m' H') (M:MemR K cm m H) {a:Addr} {vs:List V} (h:SqT K H a vs):SqT K H' a vs:=by
  rcases h with (h | ⟨o,h⟩) | h
  · exact .inl (.inl (x.keep a _ h (Zap M h (fun _ z=>by cases z))).1)
  · exact .inl (.inr ⟨o,(x.keep a _ h (Zap M h (fun _ z=>by cases z))).1⟩)
  · exact .inr h
theorem Ext.scr (x:Ext cm m H cm' m' H') (M:MemR K cm m H) {a:Addr} {ns:List Int} (h:ZeR K H a ns):ZeR K H' a ns:=by
  rcases h with ⟨o,h⟩ | h
  · exact .inl ⟨o,(x.keep a _ h (Zap M h (fun _ z=>by cases z))).1⟩
  · exact .inr h
theorem ZeR.sq {a:Addr} {ns:List Int} (h:ZeR K H a ns):SqL K H a (ns.map V.int):=by
  rcases h with ⟨o,h⟩ | h
  · exact .inl (.inr ⟨o,h⟩)
  · exact .inr h
theorem RT.ext (x:Ext cm m H cm' m' H') (M:MemR K cm m H) (M':MemR K cm' m' H') {t:T} {v:V} (h:RT K cm m H t v):RT K cm' m' H' t v:=by
  induction h with
  | non=>exact .non
  | bl b=>exact .bl b
  | int i=>exact .int i
  | str cs=>exact .str cs
  | tup h1 h2 _ ih=>exact .tup (x.sqT M h1) h2 ih
  | lst h1 h2 h3 _ ih=>exact .lst (x.keep _ _ h1 h2).1 (x.keep _ _ h1 h2).2 h3 ih
  | scr ns h=>exact .scr ns (x.scr M h)
  | dct h1 h2 h3 h4 _ ih=>exact .dct (x.keep _ _ h1 h2).1 (x.keep _ _ h1 h2).2 h3 h4 ih
theorem RTs.ext (x:Ext cm m H cm' m' H') (M:MemR K cm m H) (M':MemR K cm' m' H') {ts:List T} {vs:List V} (h:RTs K cm m H ts vs):RTs K cm' m' H' ts vs:=ZD (fun _ _ z=>z.ext x M M') h
theorem RW.ext (x:Ext cm m H cm' m' H') (M:MemR K cm m H) (M':MemR K cm' m' H') {w:W} {v:V} (h:RW K cm m H w v):RW K cm' m' H' w v:=by
  cases w with
  | t t=>exact RT.ext x M M' h
  | c i=>obtain ⟨a,h1,h2⟩:=h; exact ⟨a,x.pre i a h1,h2⟩
  | f a=>exact h
theorem RWs.ext (x:Ext cm m H cm' m' H') (M:MemR K cm m H) (M':MemR K cm' m' H') {ws:List W} {vs:List V} (h:RWs K cm m H ws vs):RWs K cm' m' H' ws vs:=ZD (fun _ _ z=>RW.ext x M M' z) h
theorem EnvR.ext (x:Ext cm m H cm' m' H') (M:MemR K cm m H) (M':MemR K cm' m' H') {env:Env} {σ:L2.St} (h:EnvR K cm m H env σ):EnvR K cm' m' H' env σ:=fun i w e=>by
  obtain ⟨v,h1,h2⟩:=h i w e
  exact ⟨v,h1,h2.ext x M M'⟩
theorem Ext.refl:Ext cm m H cm m H:=⟨fun _ _ h=>h,Nat.le_refl _,fun _ _ h=>h,fun _ _ h n=>⟨h,n⟩⟩
theorem Ext.trans (x:Ext cm m H cm' m' H') (y:Ext cm' m' H' cm'' m'' H''):Ext cm m H cm'' m'' H'' :=
  ⟨fun i a h=>y.pre i a (x.pre i a h),Nat.le_trans x.len y.len,fun i ts h=>y.lent i ts (x.lent i ts h),fun a o h n=>y.keep a o (x.keep a o h n).1 (x.keep a o h n).2⟩
abbrev XR:=Exc→List Addr→Mem→Hp→Prop
variable (K) in
def OkR {α:Type} (r:Res α) (xr:XR) (cm:List Addr) (m:Mem) (H:Hp) (k:α→List Addr→Mem→Hp→Prop):Prop:=match r with
  | .ok a m'=>∀ cm' H',Ext cm m H cm' m' H'→MemR K cm' m' H'→k a cm' m' H'
  | .exc x m'=>∀ cm' H',Ext cm m H cm' m' H'→MemR K cm' m' H'→xr x cm' m' H'
  | .stuck=>False
variable {xr:XR}
theorem OkR.shift {α:Type} {r:Res α} {k:α→List Addr→Mem→Hp→Prop} (h:OkR K r xr cm m H k) (x:Ext cm m H cm' m' H'):OkR K r xr cm' m' H' k:=by
  cases r with
  | ok a m2=>exact fun c h' e M=>h c h' (x.trans e) M
  | exc a m2=>exact fun c h' e M=>h c h' (x.trans e) M
  | stuck=>exact h
theorem OkR.bind {α β:Type} {r:Res α} {f:α→Mem→Res β} {k:β→List Addr→Mem→Hp→Prop} (h:OkR K (r.bind f) xr cm m H k) :
    OkR K r xr cm m H fun a cm' m' H'=>OkR K (f a m') xr cm' m' H' k:=by
  cases r with
  | ok a m2=>exact fun c h' e M=>OkR.shift (show OkR K (f a m2) xr cm m H k from h) e
  | exc a m2=>exact h
  | stuck=>exact h
theorem OkR.bind0 {α β:Type} {r:Res α} {f:α→Mem→Res β} {k:β→List Addr→Mem→Hp→Prop} (h:OkR K (r.bind f) xr cm m H k) :
    OkR K r xr cm m H fun a _ m' _=>OkR K (f a m') xr cm m H k:=by
  cases r with
  | ok a m2=>exact fun c h' e M=>h
  | exc a m2=>exact h
  | stuck=>exact h
theorem OkR.mono {α:Type} {r:Res α} {k k':α→List Addr→Mem→Hp→Prop} (h:OkR K r xr cm m H k) (f:∀ a cm' m' H',Ext cm m H cm' m' H'→MemR K cm' m' H'→k a cm' m' H'→k' a cm' m' H'):OkR K r xr cm m H k':=by
  cases r with
  | ok a m2=>exact fun c h' e M=>f a c m2 h' e M (h c h' e M)
  | exc a m2=>exact h
  | stuck=>exact h
theorem OkR.now {α:Type} {a:α} {k:α→List Addr→Mem→Hp→Prop} (h:OkR K (.ok a m) xr cm m H k) (M:MemR K cm m H):k a cm m H:=h cm H .refl M
theorem OkR.to {α:Type} {a:α} {m':Mem} {k:α→List Addr→Mem→Hp→Prop} (h:OkR K (.ok a m') xr cm m H k) (x:Ext cm m H cm' m' H') (M:MemR K cm' m' H'):k a cm' m' H':=h cm' H' x M
end
section
variable (K:PySem.W.Frag) (call:Nat→List W→Mem→Res W) (gv:List T) (xr:XR)
def tE (e:E):TE:=fun σ H Q=>∃ env cm m,EnvR K cm m H env σ∧MemR K cm m H∧OkR K (ev call gv e env m) xr cm m H fun w cm' m' H'=>∀ v,RW K cm' m' H' w v→Q v H'
def tA (es:Es):TA:=fun σ H Q=>∃ env cm m,EnvR K cm m H env σ∧MemR K cm m H∧OkR K (evs call gv es env m) xr cm m H fun ws cm' m' H'=>∀ vs,RWs K cm' m' H' ws vs→Q vs H'
def tT (e:E):TT:=fun σ H Q=>∃ env cm m,EnvR K cm m H env σ∧MemR K cm m H∧OkR K ((ev call gv e env m).bind JW) xr cm m H fun k _ _ H'=>Q k H'
def r2 (f:W→W→Mem→Res W):R2:=fun x y H Q=>∃ cm m a b,MemR K cm m H∧RW K cm m H a x∧RW K cm m H b y∧OkR K (f a b m) xr cm m H fun w cm' m' H'=>∀ v,RW K cm' m' H' w v→Q v H'
def r1 (f:W→Mem→Res W):V→Hp→VK→Prop:=fun x H Q=>∃ cm m a,MemR K cm m H∧RW K cm m H a x∧OkR K (f a m) xr cm m H fun w cm' m' H'=>∀ v,RW K cm' m' H' w v→Q v H'
def rN (f:List W→Mem→Res W):List V→Hp→VK→Prop:=fun xs H Q=>∃ cm m ws,MemR K cm m H∧RWs K cm m H ws xs∧OkR K (f ws m) xr cm m H fun w cm' m' H'=>∀ v,RW K cm' m' H' w v→Q v H'
end
section
variable {K:PySem.W.Frag} {call:Nat→List W→Mem→Res W} {gv:List T} {xr:XR} {X:Cx}
theorem PE.mono {e:Expr} {t t':TE} (h:PE X e t) (f:∀ σ H Q,t' σ H Q→t σ H Q):PE X e t':=fun pins s σ H Q I q=>h pins s σ H Q I (f σ H Q q)
theorem PT.mono {e:Expr} {t t':TT} (h:PT X e t) (f:∀ σ H Q,t' σ H Q→t σ H Q):PT X e t':=fun pins s σ H Q I q=>h pins s σ H Q I (f σ H Q q)
theorem PA.mono {e:List Expr} {t t':TA} (h:PA X e t) (f:∀ σ H Q,t' σ H Q→t σ H Q):PA X e t':=fun pos pins s σ H Q I q=>h pos pins s σ H Q I (f σ H Q q)
theorem ZjH {a b e:E} {f:W→W→Mem→Res W} (h:∀ env m,ev call gv e env m=(ev call gv a env m).bind fun x m=>(ev call gv b env m).bind fun y m=>f x y m) (σ:L2.St) (H:Hp) (Q:VK) (q:tE K call gv xr e σ H Q) :
    tOp (r2 K xr f) (tE K call gv xr a) (tE K call gv xr b) σ H Q:=by
  obtain ⟨env,cm,m,hE,hM,ho⟩:=q
  rw [h] at ho
  refine ⟨env,cm,m,hE,hM,ho.bind.mono fun w cm1 m1 H1 x1 M1 o1 v rv=>?_⟩
  refine ⟨env,cm1,m1,hE.ext x1 hM M1,M1,o1.bind.mono fun w2 cm2 m2 H2 x2 M2 o2 v2 rv2=>?_⟩
  exact ⟨cm2,m2,w,w2,M2,rv.ext x2 M1 M2,rv2,o2⟩
theorem t1_of {a e:E} {f:W→Mem→Res W} (h:∀ env m,ev call gv e env m=(ev call gv a env m).bind fun x m=>f x m) (σ:L2.St) (H:Hp) (Q:VK) (q:tE K call gv xr e σ H Q) :
    tUn (r1 K xr f) (tE K call gv xr a) σ H Q:=by
  obtain ⟨env,cm,m,hE,hM,ho⟩:=q
  rw [h] at ho
  exact ⟨env,cm,m,hE,hM,ho.bind.mono fun w cm1 m1 H1 x1 M1 o1 v rv=>⟨cm1,m1,w,M1,rv,o1⟩⟩
end
end Mi
end
noncomputable section
namespace Mi
open PySem PySem.Spec PyProof.Rows L2
section
variable {K:PySem.W.Frag} {cm:List Addr} {m:Mem} {H:Hp} {xr:XR} {X:Cx}
theorem Zj {w:W} {v:V} {t:T} (h:RW K cm m H w v) (e:view w m=some t) (n:∀ ts,t≠.lst ts):RT K cm m H t v:=by
  cases w with
  | t x=>cases e; exact h
  | f a=>cases e
  | c i =>
    unfold view at e
    dsimp only at e
    split at e
    · cases e; exact absurd rfl (n _)
    · cases e
theorem Z7 {w:W} {v:V} {ts:List T} (M:MemR K cm m H) (h:RW K cm m H w v) (e:view w m=some (.lst ts)):∃ a vs,v = .ref a∧H a=some (.lst vs)∧RTs K cm m H ts vs:=by
  cases w with
  | t x =>
    cases e
    obtain ⟨a,vs,h1,h2,_,h3⟩:=RT.ilst h
    exact ⟨a,vs,h1,h2,h3⟩
  | f a=>cases e
  | c i =>
    unfold view at e
    dsimp only at e
    split at e
    · rename_i fl us hu
      cases e
      obtain ⟨a,h1,h2⟩:=h
      obtain ⟨b,vs,h3,h4,_,h5⟩:=M.at' i _ hu
      rw [h1] at h3; cases h3
      exact ⟨a,vs,h2,h4,h5⟩
    · cases e
theorem RT.vint {i:Int} {v:V} (h:RT K cm m H (.int i) v):v = .int i:=by cases h; rfl
theorem RT.vbl {b:Bool} {v:V} (h:RT K cm m H (.bl b) v):v = .bl b:=by cases h; rfl
theorem RT.vnon {v:V} (h:RT K cm m H .non v):v = .non:=by cases h; rfl
theorem RT.vstr {cs:List Nat} {v:V} (h:RT K cm m H (.str cs) v):v = .str ⟨cs.toArray⟩:=by cases h; rfl
theorem RT.vscr {ns:List Int} {v:V} (h:RT K cm m H (.scr ns) v):∃ a,v = .ref a∧ZeR K H a ns:=by
  cases h with
  | scr _ h=>exact ⟨_,rfl,h⟩
theorem Zb6 (M:MemR K cm m H) {p:Addr} (hp:H p=none):ZR cm m p:=fun i ts e z=>by
  obtain ⟨a,vs,h1,h2,_⟩:=M.at' i ts e
  rw [h1] at z; cases z
  rw [hp] at h2; cases h2
theorem Ext.new {p:Addr} {o:HO} (hp:H p=none):Ext cm m H cm m (upd H p o) :=
  ⟨fun _ _ h=>h,Nat.le_refl _,fun _ _ h=>h,fun a u h n=>⟨by rw [Qe (Q7 h hp)]; exact h,n⟩⟩
theorem RT.same {H':Hp} {cm':List Addr} {m':Mem} (h1:∀ a o,H a=some o→H' a=some o) (h2:∀ a,ZR cm m a→H a≠none→ZR cm' m' a) {t:T} {v:V} (h:RT K cm m H t v):RT K cm' m' H' t v:=by
  induction h with
  | non=>exact .non
  | bl b=>exact .bl b
  | int i=>exact .int i
  | str cs=>exact .str cs
  | tup q1 q2 _ ih =>
    refine .tup ?_ q2 ih
    rcases q1 with (q | ⟨o,q⟩) | q
    · exact .inl (.inl (h1 _ _ q))
    · exact .inl (.inr ⟨o,h1 _ _ q⟩)
    · exact .inr q
  | lst q1 q2 q3 _ ih=>exact .lst (h1 _ _ q1) (h2 _ q2 (by rw [q1]; simp)) q3 ih
  | dct q1 q2 q3 q4 _ ih=>exact .dct (h1 _ _ q1) (h2 _ q2 (by rw [q1]; simp)) q3 q4 ih
  | scr ns q =>
    refine .scr ns ?_
    rcases q with ⟨o,q⟩ | q
    · exact .inl ⟨o,h1 _ _ q⟩
    · exact .inr q
theorem J9 {p:Addr} {o:HO} (hp:H p=none):∀ a u,H a=some u→upd H p o a=some u:=fun a u h=>by rw [Qe (Q7 h hp)]; exact h
theorem MemR.new (M:MemR K cm m H) {p:Addr} {o:HO} (hp:H p=none):MemR K cm m (upd H p o) :=
  ⟨M.len,M.inj,fun i ts e=>by
    obtain ⟨a,vs,h1,h2,h3,h4⟩:=M.at' i ts e
    exact ⟨a,vs,h1,J9 hp _ _ h2,h3,ZD (fun _ _ z=>z.same (J9 hp) fun _ n _=>n) h4⟩⟩
theorem RTs.new {ts:List T} {vs:List V} (r:RTs K cm m H ts vs) {p:Addr} {o:HO} (hp:H p=none):RTs K cm m (upd H p o) ts vs:=ZD (fun _ _ z=>z.same (J9 hp) fun _ n _=>n) r
theorem RT.newTup {ts:List T} {vs:List V} (r:RTs K cm m H ts vs) {p:Addr} (hp:H p=none):RT K cm m (upd H p (.tup vs)) (.tup ts) (.ref p):=.mtup (.of JV) (RTs.new r hp)
theorem RT.newLst (M:MemR K cm m H) {ts:List T} {vs:List V} (r:RTs K cm m H ts vs) {p:Addr} (hp:H p=none):RT K cm m (upd H p (.lst vs)) (.lst ts) (.ref p):=.mlst JV (Zb6 M hp) (RTs.new r hp)
theorem Zb7 {p:Addr} {c:Bool×List T} (hl:cm.length=m.length) {a:Addr} (n:ZR cm m a) (ne:a≠p):ZR (cm++[p]) (m++[some c]) a:=fun i us e z=>by
  by_cases hi:i < m.length
  · rw [List.getElem?_append_left hi] at e
    rw [List.getElem?_append_left (by omega)] at z
    exact n i us e z
  · by_cases hj:i=m.length
    · subst hj
      rw [← hl,List.getElem?_append_right (Nat.le_refl _)] at z
      simp at z
      exact ne z.symm
    · rw [List.getElem?_eq_none (by simp; omega)] at e
      cases e
theorem Zlg (M:MemR K cm m H) {ts:List T} {vs:List V} (r:RTs K cm m H ts vs) {p:Addr} (hp:H p=none) (hk:K.lookup p=none) :
    Ext cm m H (cm++[p]) (m++[some (false,ts)]) (upd H p (.lst vs))∧MemR K (cm++[p]) (m++[some (false,ts)]) (upd H p (.lst vs))∧RW K (cm++[p]) (m++[some (false,ts)]) (upd H p (.lst vs)) (.c m.length) (.ref p):=by
  have sm:∀ {t:T} {v:V},RT K cm m H t v→RT K (cm++[p]) (m++[some (false,ts)]) (upd H p (.lst vs)) t v:=fun h =>
    h.same (J9 hp) fun a n hn=>Zb7 M.len n fun z=>by subst z; exact hn hp
  have cs:∀ {i:Nat} {c:Bool×List T},(m++[some (false,ts)])[i]? = some (some c)→(m[i]? = some (some c)∧i < m.length)∨(i=m.length∧c=(false,ts)):=fun {i c} e=>by
    by_cases hi:i < m.length
    · rw [List.getElem?_append_left hi] at e
      exact .inl ⟨e,hi⟩
    · by_cases hj:i=m.length
      · subst hj
        simp at e
        exact .inr ⟨rfl,e.symm⟩
      · rw [List.getElem?_eq_none (by simp; omega)] at e
        cases e
  have cl:∀ {i:Nat},i < m.length→(cm++[p])[i]? = cm[i]?:=fun {i} h=>List.getElem?_append_left (by rw [M.len]; exact h)
  have cp:(cm++[p])[m.length]? = some p:=by rw [← M.len]; simp
  have np:∀ {i:Nat} {c:Bool×List T} {a:Addr},m[i]? = some (some c)→cm[i]? = some a→a≠p:=fun {i c a} e1 e2 z=>by
    subst z
    obtain ⟨b,ws,q1,q2,_⟩:=M.at' i c e1
    rw [e2] at q1; cases q1
    rw [hp] at q2; cases q2
  refine ⟨⟨fun i a h=>?_,by simp,fun i us h=>?_,fun a o h n=>⟨J9 hp _ _ h,Zb7 M.len n (Q7 h hp)⟩⟩,⟨by simp [M.len],fun i j a us us' e1 e2 f1 f2=>?_,fun i us e=>?_⟩,⟨p,cp,rfl⟩⟩
  · rw [List.getElem?_append_left (List.getElem?_eq_some_iff.mp h).1]; exact h
  · rw [List.getElem?_append_left (List.getElem?_eq_some_iff.mp h).1]; exact h
  · rcases cs e1 with ⟨g1,l1⟩ | ⟨k1,_⟩
    · rw [cl l1] at f1
      rcases cs e2 with ⟨g2,l2⟩ | ⟨k2,_⟩
      · rw [cl l2] at f2
        exact M.inj i j a _ _ g1 g2 f1 f2
      · rw [k2,cp] at f2; cases f2
        exact absurd rfl (np g1 f1)
    · rw [k1,cp] at f1; cases f1
      rcases cs e2 with ⟨g2,l2⟩ | ⟨k2,_⟩
      · rw [cl l2] at f2
        exact absurd rfl (np g2 f2)
      · rw [k1,k2]
  · rcases cs e with ⟨g,l⟩ | ⟨k,z⟩
    · obtain ⟨a,ws,q1,q2,q3,q4⟩:=M.at' i us g
      exact ⟨a,ws,by rw [cl l]; exact q1,J9 hp _ _ q2,q3,ZD (fun _ _ z=>sm z) q4⟩
    · rw [k,z]
      exact ⟨p,vs,cp,JV,hk,ZD (fun _ _ z=>sm z) r⟩
theorem X7 {i:Nat} {c c':Bool×List T} (e:m[i]? = some (some c)) {j:Nat} {d:Bool×List T} (q:(m.set i (some c'))[j]? = some (some d)):∃ d',m[j]? = some (some d'):=by
  by_cases hj:j=i
  · subst hj; exact ⟨c,e⟩
  · rw [List.getElem?_set_ne (Ne.symm hj)] at q; exact ⟨d,q⟩
theorem ZcW (M:MemR K cm m H) {i:Nat} {ts ts':List T} {a:Addr} {vs':List V} (e:m[i]? = some (some (false,ts))) (hc:cm[i]? = some a) (r:RTs K cm m H ts' vs') :
    Ext cm m H cm (m.set i (some (false,ts'))) (upd H a (.lst vs'))∧MemR K cm (m.set i (some (false,ts'))) (upd H a (.lst vs')):=by
  have hi:i < m.length:=(List.getElem?_eq_some_iff.mp e).1
  have nl:∀ {b:Addr},ZR cm m b→ZR cm (m.set i (some (false,ts'))) b:=fun {b} n j us q=>by
    obtain ⟨us',q'⟩:=X7 e q
    exact n j us' q'
  have ne:∀ {b:Addr},ZR cm m b→b≠a:=fun {b} n z=>by subst z; exact n i _ e hc
  have x:Ext cm m H cm (m.set i (some (false,ts'))) (upd H a (.lst vs')):=⟨fun _ _ h=>h,by simp,fun j us h=>by
    by_cases hj:j=i
    · subst hj; rw [e] at h; cases h
    · rw [List.getElem?_set_ne (Ne.symm hj)]; exact h,fun b o h n=>⟨by rw [Qe (ne n)]; exact h,nl n⟩⟩
  have sm:∀ {t:T} {v:V},RT K cm m H t v→RT K cm (m.set i (some (false,ts'))) (upd H a (.lst vs')) t v:=fun {t v} h=>by
    induction h with
    | non=>exact .non
    | bl b=>exact .bl b
    | int i=>exact .int i
    | str cs=>exact .str cs
    | tup q1 q2 _ ih=>exact .tup (x.sqT M q1) q2 ih
    | lst q1 q2 q3 _ ih=>exact .lst (x.keep _ _ q1 q2).1 (x.keep _ _ q1 q2).2 q3 ih
    | dct q1 q2 q3 q4 _ ih=>exact .dct (x.keep _ _ q1 q2).1 (x.keep _ _ q1 q2).2 q3 q4 ih
    | scr ns q=>exact .scr ns (x.scr M q)
  refine ⟨x,⟨by simp [M.len],fun j k b us us' e1 e2 f1 f2=>?_,fun j us q=>?_⟩⟩
  · obtain ⟨_,e1⟩:=X7 e e1
    obtain ⟨_,e2⟩:=X7 e e2
    exact M.inj j k b _ _ e1 e2 f1 f2
  · by_cases hj:j=i
    · subst hj
      rw [List.getElem?_set_self hi] at q
      cases q
      obtain ⟨b,ws,q1,_,q3,_⟩:=M.at' j _ e
      rw [hc] at q1; cases q1
      exact ⟨a,vs',hc,JV,q3,ZD (fun _ _ z=>sm z) r⟩
    · rw [List.getElem?_set_ne (Ne.symm hj)] at q
      obtain ⟨b,ws,q1,q2,q3,q4⟩:=M.at' j us q
      have hb:b≠a:=fun z=>by
        subst z
        exact hj (M.inj j i b _ _ q e q1 hc)
      exact ⟨b,ws,q1,by rw [Qe hb]; exact q2,q3,ZD (fun _ _ z=>sm z) q4⟩
theorem Zi6 (M:MemR K cm m H) {i:Nat} {ts:List T} (e:m[i]? = some (some (false,ts))) :
    ∃ a vs,cm[i]? = some a∧H a=some (.lst vs)∧K.lookup a=none∧Ext cm m H cm (m.set i none) H∧MemR K cm (m.set i none) H∧RTs K cm (m.set i none) H ts vs∧RT K cm (m.set i none) H (.lst ts) (.ref a):=by
  obtain ⟨a,vs,q1,q2,q3,q4⟩:=M.at' i _ e
  have hi:i < m.length:=(List.getElem?_eq_some_iff.mp e).1
  have lv:∀ {j:Nat} {us:Bool×List T},(m.set i none)[j]? = some (some us)→m[j]? = some (some us)∧j≠i:=fun {j us} q=>by
    by_cases hj:j=i
    · subst hj; rw [List.getElem?_set_self hi] at q; cases q
    · rw [List.getElem?_set_ne (Ne.symm hj)] at q; exact ⟨q,hj⟩
  have nl:∀ {b:Addr},ZR cm m b→ZR cm (m.set i none) b:=fun {b} n j us q=>n j us (lv q).1
  have sm:∀ {t:T} {v:V},RT K cm m H t v→RT K cm (m.set i none) H t v:=fun h=>h.same (fun _ _ z=>z) fun _ n _=>nl n
  have na:ZR cm (m.set i none) a:=fun j us q z=>(lv q).2 (M.inj j i a _ _ (lv q).1 e z q1)
  have rs:RTs K cm (m.set i none) H ts vs:=ZD (fun _ _ z=>sm z) q4
  refine ⟨a,vs,q1,q2,q3,⟨fun _ _ h=>h,by simp,fun j us h=>?_,fun b o h n=>⟨h,nl n⟩⟩,⟨by simp [M.len],fun j k b us us' e1 e2=>M.inj j k b _ _ (lv e1).1 (lv e2).1,fun j us q=>?_⟩,rs,.mlst q2 na rs⟩
  · by_cases hj:j=i
    · subst hj; rw [e] at h; cases h
    · rw [List.getElem?_set_ne (Ne.symm hj)]; exact h
  · obtain ⟨b,ws,p1,p2,p3,p4⟩:=M.at' j us (lv q).1
    exact ⟨b,ws,p1,p2,p3,ZD (fun _ _ z=>sm z) p4⟩
theorem Zcl (M:MemR K cm m H) {i:Nat} {b b':Bool} {ts:List T} (e:m[i]? = some (some (b,ts))) :
    (∀ a,ZR cm m a↔ZR cm (m.set i (some (b',ts))) a)∧MemR K cm (m.set i (some (b',ts))) H∧(∀ t v,RT K cm m H t v→RT K cm (m.set i (some (b',ts))) H t v):=by
  have hi:i < m.length:=(List.getElem?_eq_some_iff.mp e).1
  have nl:∀ a,ZR cm m a↔ZR cm (m.set i (some (b',ts))) a:=fun a=>by
    constructor
    · intro n j us q
      obtain ⟨d,q'⟩:=X7 e q
      exact n j d q'
    · intro n j us q
      by_cases hj:j=i
      · subst hj
        exact n j _ (List.getElem?_set_self hi)
      · exact n j us (by rw [List.getElem?_set_ne (Ne.symm hj)]; exact q)
  have sm:∀ t v,RT K cm m H t v→RT K cm (m.set i (some (b',ts))) H t v:=fun t v h=>h.same (fun _ _ z=>z) fun a n _=>(nl a).mp n
  refine ⟨nl,⟨by simp [M.len],fun j k a us us' e1 e2 f1 f2=>?_,fun j us q=>?_⟩,sm⟩
  · obtain ⟨_,e1⟩:=X7 e e1
    obtain ⟨_,e2⟩:=X7 e e2
    exact M.inj j k a _ _ e1 e2 f1 f2
  · by_cases hj:j=i
    · subst hj
      rw [List.getElem?_set_self hi] at q
      cases q
      obtain ⟨a,vs,q1,q2,q3,q4⟩:=M.at' j _ e
      exact ⟨a,vs,q1,q2,q3,ZD (fun _ _ z=>sm _ _ z) q4⟩
    · rw [List.getElem?_set_ne (Ne.symm hj)] at q
      obtain ⟨a,vs,q1,q2,q3,q4⟩:=M.at' j us q
      exact ⟨a,vs,q1,q2,q3,ZD (fun _ _ z=>sm _ _ z) q4⟩
theorem Zi5 (M:MemR K cm m H) {i:Nat} {b:Bool} {ts:List T} (e:m[i]? = some (some (b,ts))):Ext cm m H cm (m.set i (some (true,ts))) H∧MemR K cm (m.set i (some (true,ts))) H:=by
  have hi:i < m.length:=(List.getElem?_eq_some_iff.mp e).1
  obtain ⟨nl,M',_⟩:=Zcl (b':=true) M e
  refine ⟨⟨fun _ _ h=>h,by simp,fun j us h=>?_,fun a o h n=>⟨h,(nl a).mp n⟩⟩,M'⟩
  by_cases hj:j=i
  · subst hj
    rw [e] at h; cases h
    exact List.getElem?_set_self hi
  · rw [List.getElem?_set_ne (Ne.symm hj)]; exact h
theorem XN {cm':List Addr} {m1 m':Mem} {H':Hp} {w:W} {ts:List T} (M:MemR K cm m H) (e:QL w m = .ok ts m1) (x:Ext cm m1 H cm' m' H') (M':MemR K cm' m' H') :
    Ext cm m H cm' (giveBack w m m') H'∧MemR K cm' (giveBack w m m') H'∧∀ t v,RT K cm' m' H' t v→RT K cm' (giveBack w m m') H' t v:=by
  cases w with
  | t t =>
    unfold QL at e
    dsimp only at e
    split at e <;> cases e
    exact ⟨x,M',fun _ _ h=>h⟩
  | f a=>cases e
  | c i =>
    unfold QL at e
    dsimp only at e
    split at e
    · rename_i b us h
      cases e
      have hi:i < m.length:=(List.getElem?_eq_some_iff.mp h).1
      have h':m'[i]? = some (some (true,ts)):=x.lent i ts (List.getElem?_set_self hi)
      have hi':i < m'.length:=(List.getElem?_eq_some_iff.mp h').1
      obtain ⟨nl,M2,sm⟩:=Zcl (b':=b) M' h'
      have eg:giveBack (.c i) m m' = m'.set i (some (b,ts)):=by unfold giveBack; dsimp only; rw [h]
      rw [eg]
      obtain ⟨nl0,M1,_⟩:=Zcl (b':=true) M h
      refine ⟨⟨fun j a q=>x.pre j a q,by rw [List.length_set]; have:=x.len; rw [List.length_set] at this; exact this,fun j vs q=>?_,fun a o q n=>?_⟩,M2,sm⟩
      · by_cases hj:j=i
        · subst hj
          rw [h] at q; cases q
          exact List.getElem?_set_self hi'
        · rw [List.getElem?_set_ne (Ne.symm hj)]
          exact x.lent j vs (by rw [List.getElem?_set_ne (Ne.symm hj)]; exact q)
      · obtain ⟨q1,q2⟩:=x.keep a o q ((nl0 a).mp n)
        exact ⟨q1,(nl a).mp q2⟩
    · cases e
end
end Mi
end
noncomputable section
namespace Mi
open PySem PySem.Spec PyProof.Rows L2
section
variable {K:PySem.W.Frag} {cm:List Addr} {m:Mem} {H:Hp} {xr:XR} {X:Cx}
theorem Qn:lim≤sizeLine:=by rw [sizeLine_eq]; decide
theorem JN {o:Option T} {k:W→List Addr→Mem→Hp→Prop} (h:OkR K (pur o m) xr cm m H k):∃ t,o=some t∧OkR K (.ok (.t t) m) xr cm m H k:=by
  cases o with
  | none=>exact h.elim
  | some t=>exact ⟨t,rfl,h⟩
theorem ZdH {α:Type} {o p:Option T} {f:T→T→Option α} {z:α} (h:(o.bind fun x=>p.bind fun y=>f x y)=some z):∃ x y,o=some x∧p=some y∧f x y=some z:=by
  cases o with
  | none=>cases h
  | some x =>
    cases p with
    | none=>cases h
    | some y=>exact ⟨x,y,rfl,rfl,h⟩
theorem strApp (a b:List Nat):(⟨a.toArray⟩:Str)++⟨b.toArray⟩=⟨(a++b).toArray⟩:=by
  show (⟨a.toArray++b.toArray⟩:Str)=_
  simp
theorem Zav (a:List Nat):(⟨a.toArray⟩:Str).length=a.length:=by simp [Str.length]
theorem ans {t:T} {Q:VK} (ho:OkR K (.ok (.t t) m) xr cm m H fun w cm' m' H'=>∀ v,RW K cm' m' H' w v→Q v H') (M:MemR K cm m H) {v:V} (r:RT K cm m H t v):Q v H:=ho.now M v r
theorem Zc1 {ts:List T} {Q:VK} (ho:OkR K (.ok (.t (.tup ts)) m) xr cm m H fun w cm' m' H'=>∀ v,RW K cm' m' H' w v→Q v H') (M:MemR K cm m H) {vs:List V} (r:RTs K cm m H ts vs) {p:Addr} (hp:H p=none) :
    Q (.ref p) (upd H p (.tup vs)):=ho.to (.new hp) (M.new hp) _ (RT.newTup r hp)
theorem Zcv {ts:List T} {Q:VK} (ho:OkR K (.ok (.t (.lst ts)) m) xr cm m H fun w cm' m' H'=>∀ v,RW K cm' m' H' w v→Q v H') (M:MemR K cm m H) {vs:List V} (r:RTs K cm m H ts vs) {p:Addr} (hp:H p=none) :
    Q (.ref p) (upd H p (.lst vs)):=ho.to (.new hp) (M.new hp) _ (RT.newLst M r hp)
theorem Zm1 {i j:Int} (h1:i.natAbs < bigN) (h2:j.natAbs < bigN):IntMulOk i j:=by
  have b:∀ {k:Int},k.natAbs < bigN→Builtin.Int.intBits k≤2000:=fun {k} h=>intBits_le (by
    have e:bigN=2 ^ (250 * 8):=by unfold bigN; rw [← Nat.pow_mul]
    rw [e] at h
    exact h)
  exact mulOk_of_bits (b h1) (b h2) (by decide)
theorem ZdQ {i:Int} (h:small i=true):-(2 ^ 64) < i∧i < 2 ^ 64:=by
  have h':i.natAbs < 2 ^ 64:=of_decide_eq_true h
  omega
theorem ZkG {i j:Int} (h:Zbd i j=true):IntMulOk i j:=by
  unfold Zbd at h
  simp only [Bool.or_eq_true,Bool.and_eq_true,decide_eq_true_eq] at h
  rcases h with (h | h) | ⟨h1,h2⟩
  · exact CMul.ok (.inl (ZdQ h))
  · exact CMul.ok (.inr (ZdQ h))
  · exact Zm1 h1 h2
theorem ZmO:OpR X (binaryOp .Mult) (rI (fun i j=>Zbd i j=true) fun i j=>.int (i * j)):=opI fun _ _ _ _ _ _ _ hc q=>mul_int q (ZkG hc)
theorem Znp {prog:Program} {w:World} {A:Around} {E:Value→Shared→Prop} {s:Shared} {t b:Addr} {ws:List Value} {Q:Value→Shared→Prop} (ht:IsTup s.heap t ([]:List Value).toArray) (hb:IsTup s.heap b ws.toArray)
    (h:Q (.ref b) s):wpAny (model prog w) A (binaryOp .Add (.ref t) (.ref b)) Q E s:=by
  obtain ⟨⟨cls,dd,data,sl⟩,ho,hc,n,hd⟩:=id ht
  obtain ⟨⟨cls2,dd2,data2,sl2⟩,ho2,hc2,n2,hd2⟩:=id hb
  simp only at hc hd hc2 hd2
  subst hc hd hc2 hd2
  exact concat_meets ⟨_,ho,rfl⟩ ⟨_,ho2,rfl⟩ noFill_tuple_add seq_tuple_add PySem.F.slot_tuple_add PySem.F.entry_tuple_add (PySem.F.args_tuple_add_2 _ _)
      (tuple_addW0 t b ([]:List Value).toArray ws.toArray n n2 dd dd2 sl sl2 (by simp)) ⟨ho,ho2,h⟩
theorem ZmN:OpR X (binaryOp .Add) (fun x y H Q=>∃ a b ys,x = .ref a∧y = .ref b∧SqT X.K H a []∧SqT X.K H b ys∧Q (.ref b) H):=by
  intro pins s σ H x y v u Q I rx ry h
  obtain ⟨a,b,ys,rfl,rfl,ha,hb,q⟩:=h
  cases rx
  cases ry
  obtain ⟨its,r1,p1,_⟩:=I.tuple ha
  obtain ⟨its2,r2,p2,_⟩:=I.tuple hb
  cases r1
  exact Znp p1 p2 ⟨.ref b,H,I,rfl,q⟩
theorem ZaP {f:Int→Int→Option T} {x y t:T} (e:intT f x y=some t):∃ i j,x = .int i∧y = .int j∧f i j=some t:=by
  cases x with
  | int i=>cases y with
    | int j=>exact ⟨i,j,rfl,rfl,e⟩
    | _=>cases e
  | _=>cases e
theorem Zbf {f:Int→Int→Bool} {x y:T} {c:Bool} (e:ZkN f x y=some c):∃ i j,x = .int i∧y = .int j∧f i j=c:=by
  cases x with
  | int i=>cases y with
    | int j=>exact ⟨i,j,rfl,rfl,Option.some.inj e⟩
    | _=>cases e
  | _=>cases e
def fBin (op:Operator) (x y:W) (m:Mem):Res W:=pur ((view x m).bind fun x=>(view y m).bind fun y=>binT op x y) m
theorem ZgN:OpR X (binaryOp .Add) (r2 X.K xr (fBin .Add)):=by
  rintro pins s σ H x y v u Q I rx ry ⟨cm,m,a,b,M,ra,rb,ho⟩
  obtain ⟨t,e,ho⟩:=JN ho
  obtain ⟨ta,tb,ea,eb,e⟩:=ZdH e
  change addT ta tb=some t at e
  unfold addT at e
  have hz:=Qn
  split at e
  · cases e
    cases (Zj ra ea (fun _ z=>by cases z)).vint
    cases (Zj rb eb (fun _ z=>by cases z)).vint
    exact op_add pins s σ H _ _ v u Q I rx ry ⟨_,_,rfl,rfl,ans ho M (.int _)⟩
  · split at e <;> cases e
    cases (Zj ra ea (fun _ z=>by cases z)).vstr
    cases (Zj rb eb (fun _ z=>by cases z)).vstr
    exact ZgO pins s σ H _ _ v u Q I rx ry ⟨_,_,rfl,rfl,by rw [Zav,Zav]; omega,by rw [strApp]; exact ans ho M (.str _)⟩
  · split at e <;> cases e
    obtain ⟨p,vs,rfl,h1,r1⟩:=(Zj ra ea (fun _ z=>by cases z)).itup
    obtain ⟨q,us,rfl,h2,r2⟩:=(Zj rb eb (fun _ z=>by cases z)).itup
    have l1:=r1.length
    have l2:=r2.length
    cases vs with
    | nil =>
      cases r1
      exact ZmN pins s σ H _ _ v u Q I rx ry ⟨p,q,us,rfl,rfl,h1,h2,ans ho M (.mtup h2 r2)⟩
    | cons v1 vs =>
      refine ZmQ pins s σ H _ _ v u Q I rx ry ⟨p,q,_,us,rfl,rfl,h1,h2,by simp,by omega,fun z=>?_,fun z l hl=>Zc1 ho M (QZ r1 r2) hl⟩
      subst z
      cases r2
      rw [List.append_nil] at ho
      exact ans ho M (.mtup h1 r1)
  · split at e <;> cases e
    obtain ⟨p,vs,rfl,h1,r1⟩:=Z7 M ra ea
    obtain ⟨q,us,rfl,h2,r2⟩:=Z7 M rb eb
    have l1:=r1.length
    have l2:=r2.length
    exact op_cat pins s σ H _ _ v u Q I rx ry ⟨p,q,vs,us,rfl,rfl,h1,h2,by omega,fun l hl=>Zcv ho M (QZ r1 r2) hl⟩
  all_goals cases e
theorem ZgJ:OpR X (binaryOp .Sub) (r2 X.K xr (fBin .Sub)):=by
  rintro pins s σ H x y v u Q I rx ry ⟨cm,m,a,b,M,ra,rb,ho⟩
  obtain ⟨t,e,ho⟩:=JN ho
  obtain ⟨ta,tb,ea,eb,e⟩:=ZdH e
  obtain ⟨i,j,rfl,rfl,e2⟩:=ZaP e
  cases (Zj ra ea (fun _ z=>by cases z)).vint
  cases (Zj rb eb (fun _ z=>by cases z)).vint
  cases e2
  exact op_sub pins s σ H _ _ v u Q I rx ry ⟨_,_,rfl,rfl,ans ho M (.int _)⟩
theorem Zfd:OpR X (binaryOp .FloorDiv) (r2 X.K xr (fBin .FloorDiv)):=by
  rintro pins s σ H x y v u Q I rx ry ⟨cm,m,a,b,M,ra,rb,ho⟩
  obtain ⟨t,e,ho⟩:=JN ho
  obtain ⟨ta,tb,ea,eb,e⟩:=ZdH e
  obtain ⟨i,j,rfl,rfl,e2⟩:=ZaP e
  cases (Zj ra ea (fun _ z=>by cases z)).vint
  cases (Zj rb eb (fun _ z=>by cases z)).vint
  split at e2 <;> cases e2
  exact ZmP pins s σ H _ _ v u Q I rx ry ⟨_,_,rfl,rfl,‹_∧_›,ans ho M (.int _)⟩
theorem ZgM:OpR X (binaryOp .Mod) (r2 X.K xr (fBin .Mod)):=by
  rintro pins s σ H x y v u Q I rx ry ⟨cm,m,a,b,M,ra,rb,ho⟩
  obtain ⟨t,e,ho⟩:=JN ho
  obtain ⟨ta,tb,ea,eb,e⟩:=ZdH e
  obtain ⟨i,j,rfl,rfl,e2⟩:=ZaP e
  cases (Zj ra ea (fun _ z=>by cases z)).vint
  cases (Zj rb eb (fun _ z=>by cases z)).vint
  split at e2 <;> cases e2
  exact op_mod pins s σ H _ _ v u Q I rx ry ⟨_,_,rfl,rfl,‹_›,ans ho M (.int _)⟩
theorem ZgK:OpR X (binaryOp .Pow) (r2 X.K xr (fBin .Pow)):=by
  rintro pins s σ H x y v u Q I rx ry ⟨cm,m,a,b,M,ra,rb,ho⟩
  obtain ⟨t,e,ho⟩:=JN ho
  obtain ⟨ta,tb,ea,eb,e⟩:=ZdH e
  obtain ⟨i,j,rfl,rfl,e2⟩:=ZaP e
  cases (Zj ra ea (fun _ z=>by cases z)).vint
  cases (Zj rb eb (fun _ z=>by cases z)).vint
  have hc:0≤j∧j≤1000∧i.natAbs < 2 ^ 64:=by
    by_cases hc:0≤j∧j≤1000∧i.natAbs < 2 ^ 64
    · exact hc
    · rw [if_neg hc] at e2; cases e2
  rw [if_pos hc] at e2
  cases e2
  exact op_pow pins s σ H _ _ v u Q I rx ry ⟨_,_,rfl,rfl,⟨hc.1,by omega,hc.2.2⟩,ans ho M (.int _)⟩
theorem Za8 {α β:Type} {F:α→β→Prop} {xs:List α} {ys:List β} (h:Paired F xs ys):∀ k:Nat,Paired F (repT xs k) (List.replicate k ys).flatten
  | 0=>.nil
  | k + 1=>by
    unfold repT
    rw [List.replicate_succ,List.replicate_succ,List.flatten_cons,List.flatten_cons]
    exact QZ h (Za8 h k)
end
end Mi
end
noncomputable section
namespace Mi
open PySem PySem.Spec PyProof.Rows L2
section
variable {K:PySem.W.Frag} {cm:List Addr} {m:Mem} {H:Hp} {xr:XR} {X:Cx}
def fCmp (op:CmpOp) (x y:W) (m:Mem):Res W:=pur (((view x m).bind fun x=>(view y m).bind fun y=>cmpT op x y).map .bl) m
theorem Zag {op:CmpOp} {a b:W} {k:W→List Addr→Mem→Hp→Prop} (h:OkR K (fCmp op a b m) xr cm m H k):∃ ta tb c,view a m=some ta∧view b m=some tb∧cmpT op ta tb=some c∧OkR K (.ok (.t (.bl c)) m) xr cm m H k:=by
  obtain ⟨t,e,ho⟩:=JN h
  cases q:((view a m).bind fun x=>(view b m).bind fun y=>cmpT op x y) with
  | none=>rw [q] at e; cases e
  | some c =>
    rw [q] at e; cases e
    obtain ⟨ta,tb,ea,eb,e⟩:=ZdH q
    exact ⟨ta,tb,c,ea,eb,e,ho⟩
def flV:T→V
  | .bl b=>.bl b
  | .int i=>.int i
  | .str cs=>.str ⟨cs.toArray⟩
  | _=>.non
theorem RT.fl {t:T} {v:V} (h:RT K cm m H t v) (f:flat t=true):v=flV t:=by
  cases h <;> first | rfl | cases f
theorem Xc {w:W} {v:V} {t:T} (h:RW K cm m H w v) (e:view w m=some t) (f:flat t=true):v=flV t :=
  (Zj h e (fun ts z=>by subst z; cases f)).fl f
theorem ZeW {a b:List Nat}:(⟨a.toArray⟩:Str)=⟨b.toArray⟩↔a=b:=by
  constructor
  · intro h
    injection h with h
    simpa using h
  · intro h; rw [h]
theorem Zk6 {a b:List Nat}:decide (V.str ⟨a.toArray⟩=V.str ⟨b.toArray⟩)=(a == b):=by
  by_cases h:a=b
  · subst h; simp
  · rw [beq_eq_false_iff_ne.mpr h]
    exact decide_eq_false fun z=>h (ZeW.mp (V.str.inj z))
theorem ZhL {x y:T} (h:ZdU x y=true):flat x=true∧flat y=true∧scal (flV x) (flV y)=true∧decide (flV x=flV y)=eqT x y:=by
  cases x <;> cases y <;> first
    | (cases h; done)
    | (refine ⟨rfl,rfl,rfl,?_⟩; unfold eqT; first | exact Zfp | exact ZiY | exact Zk6 | exact decide_eq_true rfl | exact decide_eq_false (fun z=>nomatch z))
theorem Znj (x y:T):cmpT .Eq x y=if ZdU x y || (Zm 60 x && Zm 60 y) then some (eqT x y) else none:=by cases x <;> cases y <;> rfl
theorem Zni (x y:T):cmpT .NotEq x y=if ZdU x y || (Zm 60 x && Zm 60 y) then some (!eqT x y) else none:=by cases x <;> cases y <;> rfl
mutual
def pyT:T→PyData
  | .bl b=>.bool b
  | .int i=>.int i
  | .str cs=>.str ⟨cs.toArray⟩
  | .tup ts=>.tuple (pyTs ts)
  | .lst ts=>.list (pyTs ts)
  | _=>.none
def pyTs:List T→List PyData
  | []=>[]
  | t :: ts=>pyT t :: pyTs ts
end
mutual
theorem ZbX:∀ (n:Nat) (t:T),Zm n t=true→PyData.canLay0 (pyT t)=true∧PyData.depth (pyT t)≤n
  | n,.non,h=>⟨by simp [pyT,PyData.canLay0],by simp [pyT,PyData.depth]⟩
  | n,.bl b,h=>⟨by rw [pyT]; simp [PyData.canLay0],by rw [pyT]; simp [PyData.depth]⟩
  | n,.int i,h=>⟨by rw [pyT]; simp [PyData.canLay0],by rw [pyT]; simp [PyData.depth]⟩
  | n,.str cs,h=>⟨by rw [pyT,PyData.canLay0]; rw [Zm] at h; exact h,by rw [pyT]; simp [PyData.depth]⟩
  | 0,.tup ts,h=>by simp [Zm] at h
  | 0,.lst ts,h=>by simp [Zm] at h
  | n + 1,.tup ts,h=>by
    rw [Zm] at h
    have:=Ze5 n ts h
    exact ⟨by rw [pyT,PyData.canLay0]; exact this.1,by rw [pyT]; simp only [PyData.depth]; omega⟩
  | n + 1,.lst ts,h=>by
    rw [Zm] at h
    have:=Ze5 n ts h
    exact ⟨by rw [pyT,PyData.canLay0]; exact this.1,by rw [pyT]; simp only [PyData.depth]; omega⟩
  | n,.dct _ _,h=>by cases n <;> simp [Zm] at h
  | n,.scr _,h=>by cases n <;> simp [Zm] at h
theorem Ze5:∀ (n:Nat) (ts:List T),Zo n ts=true→PyData.canLayAll0 (pyTs ts)=true∧PyData.depthAll (pyTs ts)≤n
  | n,[],h=>⟨by rw [pyTs]; simp [PyData.canLayAll0],by rw [pyTs]; simp [PyData.depthAll]⟩
  | n,t :: ts,h=>by
    rw [Zo,Bool.and_eq_true] at h
    have h1:=ZbX n t h.1
    have h2:=Ze5 n ts h.2
    refine ⟨by rw [pyTs,PyData.canLayAll0,h1.1,h2.1]; rfl,?_⟩
    rw [pyTs,PyData.depthAll]
    omega
end
theorem str_beq {a b:List Nat}:((⟨a.toArray⟩:Str) == ⟨b.toArray⟩)=(a == b):=by
  by_cases h:a=b
  · subst h; simp
  · rw [beq_eq_false_iff_ne.mpr h,beq_eq_false_iff_ne.mpr fun z=>h (ZeW.mp z)]
mutual
theorem ZfR:∀ (n k:Nat) (x y:T),Zm n x=true→Zm k y=true→PyData.eqv (pyT x) (pyT y)=eqT x y
  | n,k,.tup xs,.tup ys,h1,h2=>by
    cases n with
    | zero=>simp [Zm] at h1
    | succ n=>cases k with
      | zero=>simp [Zm] at h2
      | succ k =>
        rw [Zm] at h1 h2
        rw [pyT,pyT,PyData.eqv,eqT]
        exact Ze6 n k xs ys h1 h2
  | n,k,.lst xs,.lst ys,h1,h2=>by
    cases n with
    | zero=>simp [Zm] at h1
    | succ n=>cases k with
      | zero=>simp [Zm] at h2
      | succ k =>
        rw [Zm] at h1 h2
        rw [pyT,pyT,PyData.eqv,eqT]
        exact Ze6 n k xs ys h1 h2
  | n,k,.str xs,.str ys,_,_=>by rw [pyT,pyT,PyData.eqv,eqT]; exact str_beq
  | n,k,.non,y,_,h2=>by cases y <;> first | (simp [pyT,PyData.eqv,eqT]; done) | (cases k <;> simp [Zm] at h2)
  | n,k,.bl b,y,_,h2=>by cases y <;> first | (simp [pyT,PyData.eqv,eqT,b2i]; done) | (cases k <;> simp [Zm] at h2)
  | n,k,.int b,y,_,h2=>by cases y <;> first | (simp [pyT,PyData.eqv,eqT,b2i]; done) | (cases k <;> simp [Zm] at h2)
  | n,k,.str xs,.non,_,_=>by simp [pyT,PyData.eqv,eqT]
  | n,k,.str xs,.bl _,_,_=>by simp [pyT,PyData.eqv,eqT]
  | n,k,.str xs,.int _,_,_=>by simp [pyT,PyData.eqv,eqT]
  | n,k,.str xs,.tup _,_,_=>by simp [pyT,PyData.eqv,eqT]
  | n,k,.str xs,.lst _,_,_=>by simp [pyT,PyData.eqv,eqT]
  | n,k,.tup xs,.non,_,_=>by simp [pyT,PyData.eqv,eqT]
  | n,k,.tup xs,.bl _,_,_=>by simp [pyT,PyData.eqv,eqT]
  | n,k,.tup xs,.int _,_,_=>by simp [pyT,PyData.eqv,eqT]
  | n,k,.tup xs,.str _,_,_=>by simp [pyT,PyData.eqv,eqT]
  | n,k,.tup xs,.lst _,_,_=>by simp [pyT,PyData.eqv,eqT]
  | n,k,.lst xs,.non,_,_=>by simp [pyT,PyData.eqv,eqT]
  | n,k,.lst xs,.bl _,_,_=>by simp [pyT,PyData.eqv,eqT]
  | n,k,.lst xs,.int _,_,_=>by simp [pyT,PyData.eqv,eqT]
  | n,k,.lst xs,.str _,_,_=>by simp [pyT,PyData.eqv,eqT]
  | n,k,.lst xs,.tup _,_,_=>by simp [pyT,PyData.eqv,eqT]
  | n,k,x,.dct _ _,_,h2=>by cases k <;> simp [Zm] at h2
  | n,k,x,.scr _,_,h2=>by cases k <;> simp [Zm] at h2
  | n,k,.dct _ _,y,h1,_=>by cases n <;> simp [Zm] at h1
  | n,k,.scr _,y,h1,_=>by cases n <;> simp [Zm] at h1
theorem Ze6:∀ (n k:Nat) (xs ys:List T),Zo n xs=true→Zo k ys=true→PyData.eqvAll (pyTs xs) (pyTs ys)=eqTs xs ys
  | n,k,[],[],_,_=>by rw [pyTs,PyData.eqvAll,eqTs]
  | n,k,[],_ :: _,_,_=>by rw [pyTs,pyTs,PyData.eqvAll,eqTs] <;> simp
  | n,k,_ :: _,[],_,_=>by rw [pyTs,pyTs,PyData.eqvAll,eqTs] <;> simp
  | n,k,x :: xs,y :: ys,h1,h2=>by
    rw [Zo,Bool.and_eq_true] at h1 h2
    rw [pyTs,pyTs,PyData.eqvAll,eqTs,ZfR n k x y h1.1 h2.1,Ze6 n k xs ys h1.2 h2.2]
end
theorem ZaF {pins:List (Addr×Obj)} {σ:L2.St} {s:Shared} (I:Inv X pins σ H s):∀ {ts:List T} {vs:List V} {us:List Value},ts.length=vs.length→(∀ (i:Nat) t v u,ts[i]? = some t→vs[i]? = some v→RelV v u→∃ as,Reads s.heap u (pyT t) as)→Vals vs us→∃ as,ReadsAll s.heap us (pyTs ts) as
  | [],[],_,_,_,.nil=>⟨_,by rw [pyTs]; exact .nil⟩
  | t :: ts,v :: vs,_,hl,h,.cons r rs=>by
    obtain ⟨as,h1⟩:=h 0 t v _ rfl rfl r
    obtain ⟨bs,h2⟩:=ZaF I (ts:=ts) (vs:=vs) (by simpa using hl) (fun i t v u a b c=>h (i + 1) t v u (by simpa using a) (by simpa using b) c) rs
    exact ⟨_,by rw [pyTs]; exact .cons h1 h2⟩
  | [],_ :: _,_,hl,_,_=>by simp at hl
  | _ :: _,[],_,hl,_,_=>by simp at hl
theorem RT.reads {pins:List (Addr×Obj)} {σ:L2.St} {s:Shared} {K:PySem.W.Frag} (hK:X.K=K) (I:Inv X pins σ H s) {t:T} {v:V} (h:RT K cm m H t v):∀ {n:Nat} {u:Value},Zm n t=true→RelV v u→∃ as,Reads s.heap u (pyT t) as:=by
  subst hK
  induction h with
  | non=>intro n u _ r; cases r; exact ⟨[],by simp only [pyT]; exact .none⟩
  | bl b=>intro n u _ r; cases r; exact ⟨_,by rw [pyT]; exact .bool b⟩
  | int i=>intro n u _ r; obtain ⟨t,rfl⟩:=r; exact ⟨_,by rw [pyT]; exact .int i t⟩
  | str cs=>intro n u _ r; obtain ⟨t,rfl⟩:=r; exact ⟨_,by rw [pyT]; exact .str _ t⟩
  | @tup a ts vs h1 h2 h3 ih =>
    intro n u hd r
    cases n with
    | zero=>simp [Zm] at hd
    | succ n =>
      rw [Zm] at hd
      cases r
      obtain ⟨its,rv,⟨o,ho,hc,k,hdt⟩,hz⟩:=I.tuple h1
      have hall:∀ (i:Nat) t,ts[i]? = some t→Zm n t=true:=fun i t e=>by
        have:∀ {l:List T},Zo n l=true→∀ x∈l,Zm n x=true:=fun {l}=>by
          induction l with
          | nil=>intro _ x hx; cases hx
          | cons y l ih=>intro h x hx; rw [Zo,Bool.and_eq_true] at h; rcases List.mem_cons.mp hx with rfl | hx; exact h.1; exact ih h.2 x hx
        exact this hd t (List.mem_of_getElem? e)
      obtain ⟨as,hr⟩:=ZaF I h2 (fun i t v u e1 e2 r=>ih i t v e1 e2 (hall i t e1) r) rv
      exact ⟨_,by rw [pyT]; exact .tuple ho hc hdt (by simpa using hr)⟩
  | @lst a ts vs h1 h2 h3 h4 ih =>
    intro n u hd r
    cases n with
    | zero=>simp [Zm] at hd
    | succ n =>
      rw [Zm] at hd
      cases r
      obtain ⟨its,k,rv,ho,hz⟩:=I.lst h1
      have hall:∀ (i:Nat) t,ts[i]? = some t→Zm n t=true:=fun i t e=>by
        have:∀ {l:List T},Zo n l=true→∀ x∈l,Zm n x=true:=fun {l}=>by
          induction l with
          | nil=>intro _ x hx; cases hx
          | cons y l ih=>intro h x hx; rw [Zo,Bool.and_eq_true] at h; rcases List.mem_cons.mp hx with rfl | hx; exact h.1; exact ih h.2 x hx
        exact this hd t (List.mem_of_getElem? e)
      obtain ⟨as,hr⟩:=ZaF I h3 (fun i t v u e1 e2 r=>ih i t v e1 e2 (hall i t e1) r) rv
      exact ⟨_,by rw [pyT]; exact .list ho rfl rfl (by simpa using hr)⟩
  | dct _ _ _ _ _ _=>intro n u hd _; cases n <;> simp [Zm] at hd
  | scr _ _=>intro n u hd _; cases n <;> simp [Zm] at hd
theorem J7 {pins:List (Addr×Obj)} {σ:L2.St} {s:Shared} (I:Inv X pins σ H s) (M:MemR X.K cm m H) {w:W} {t:T} {v:V} {u:Value} (r:RW X.K cm m H w v) (e:view w m=some t) (rv:RelV v u) {n:Nat} (hd:Zm n t=true):∃ as,Reads s.heap u (pyT t) as:=by
  cases t with
  | lst ts =>
    cases n with
    | zero=>simp [Zm] at hd
    | succ n =>
      rw [Zm] at hd
      obtain ⟨a,vs,rfl,h1,rr⟩:=Z7 M r e
      cases rv
      obtain ⟨its,k,rv,ho,hz⟩:=I.lst h1
      obtain ⟨as,hr⟩:=ZaF I rr.length (fun i t v u e1 e2 r=>RT.reads rfl I (Xa rr i t v e1 e2) (n:=n) (by
        have:∀ {l:List T},Zo n l=true→∀ x∈l,Zm n x=true:=fun {l}=>by
          induction l with
          | nil=>intro _ x hx; cases hx
          | cons y l ih=>intro h x hx; rw [Zo,Bool.and_eq_true] at h; rcases List.mem_cons.mp hx with rfl | hx; exact h.1; exact ih h.2 x hx
        exact this hd t (List.mem_of_getElem? e1)) r) rv
      exact ⟨_,by rw [pyT]; exact .list ho rfl rfl (by simpa using hr)⟩
  | _=>exact RT.reads rfl I (Zj r e (fun _ z=>by cases z)) hd rv
theorem Zib (hu:X.A.units + 64 < cLine):OpR X (compareOp .Eq) (r2 X.K xr (fCmp .Eq)):=by
  rintro pins s σ H x y v u Q I rx ry ⟨cm,m,a,b,M,ra,rb,ho⟩
  obtain ⟨ta,tb,c,ea,eb,e,ho⟩:=Zag ho
  rw [Znj] at e
  split at e <;> cases e
  rename_i hs
  rw [Bool.or_eq_true] at hs
  rcases hs with hs | hs
  · obtain ⟨f1,f2,f3,f4⟩:=ZhL hs
    cases Xc ra ea f1
    cases Xc rb eb f2
    exact op_eq pins s σ H _ _ v u Q I rx ry ⟨f3,by rw [f4]; exact ans ho M (.bl _)⟩
  · rw [Bool.and_eq_true] at hs
    obtain ⟨as,ha⟩:=J7 I M ra ea rx hs.1
    obtain ⟨bs,hb⟩:=J7 I M rb eb ry hs.2
    have d1:=ZbX 60 ta hs.1
    have d2:=ZbX 60 tb hs.2
    refine SeqAt.compareEq_reads ha hb d1.1 d2.1 (by omega) ⟨.bl (eqT ta tb),H,I,?_,ans ho M (.bl _)⟩
    rw [ZfR 60 60 ta tb hs.1 hs.2]
    rfl
theorem Zh4 (hu:X.A.units + 64 < cLine):OpR X (compareOp .NotEq) (r2 X.K xr (fCmp .NotEq)):=by
  rintro pins s σ H x y v u Q I rx ry ⟨cm,m,a,b,M,ra,rb,ho⟩
  obtain ⟨ta,tb,c,ea,eb,e,ho⟩:=Zag ho
  rw [Zni] at e
  split at e <;> cases e
  rename_i hs
  rw [Bool.or_eq_true] at hs
  rcases hs with hs | hs
  · obtain ⟨f1,f2,f3,f4⟩:=ZhL hs
    cases Xc ra ea f1
    cases Xc rb eb f2
    exact op_ne pins s σ H _ _ v u Q I rx ry ⟨f3,by rw [f4]; exact ans ho M (.bl _)⟩
  · rw [Bool.and_eq_true] at hs
    obtain ⟨as,ha⟩:=J7 I M ra ea rx hs.1
    obtain ⟨bs,hb⟩:=J7 I M rb eb ry hs.2
    have d1:=ZbX 60 ta hs.1
    have d2:=ZbX 60 tb hs.2
    refine SeqAt.compareNe_reads ha hb d1.1 d2.1 (by omega) ⟨.bl (!eqT ta tb),H,I,?_,ans ho M (.bl _)⟩
    rw [ZfR 60 60 ta tb hs.1 hs.2]
    rfl
theorem ZfX:∀ a b:List Nat,nlt a b=decide (a < b)
  | [],[]=>by simp [nlt]
  | [],_ :: _=>by simp [nlt]
  | _ :: _,[]=>by simp [nlt]
  | a :: x,b :: y=>by
    unfold nlt
    rw [ZfX x y]
    by_cases h:a < b
    · rw [if_pos h]
      exact (decide_eq_true (List.cons_lt_cons_iff.mpr (.inl h))).symm
    · rw [if_neg h]
      by_cases h2:b < a
      · rw [if_pos h2]
        refine (decide_eq_false fun z=>?_).symm
        rcases List.cons_lt_cons_iff.mp z with z | ⟨z,_⟩ <;> omega
      · rw [if_neg h2]
        have e:a=b:=by omega
        subst e
        simp
theorem Zh5:OpR X (compareOp .Lt) (r2 X.K xr (fCmp .Lt)):=by
  rintro pins s σ H x y v u Q I rx ry ⟨cm,m,a,b,M,ra,rb,ho⟩
  obtain ⟨ta,tb,c,ea,eb,e,ho⟩:=Zag ho
  change ltT ta tb=some c at e
  cases ta with
  | int i=>cases tb with
    | int j =>
      cases e
      cases (Zj ra ea (fun _ z=>by cases z)).vint
      cases (Zj rb eb (fun _ z=>by cases z)).vint
      exact op_lt pins s σ H _ _ v u Q I rx ry ⟨_,_,rfl,rfl,ans ho M (.bl _)⟩
    | _=>cases e
  | str i=>cases tb with
    | str j =>
      cases e
      cases (Zj ra ea (fun _ z=>by cases z)).vstr
      cases (Zj rb eb (fun _ z=>by cases z)).vstr
      refine Zh2 pins s σ H _ _ v u Q I rx ry ⟨_,_,rfl,rfl,?_⟩
      have:=ans ho M (.bl _)
      rw [ZfX] at this
      exact this
    | _=>cases e
  | _=>cases e
theorem Zh6:OpR X (compareOp .LtE) (r2 X.K xr (fCmp .LtE)):=by
  rintro pins s σ H x y v u Q I rx ry ⟨cm,m,a,b,M,ra,rb,ho⟩
  obtain ⟨ta,tb,c,ea,eb,e,ho⟩:=Zag ho
  obtain ⟨i,j,rfl,rfl,rfl⟩:=Zbf e
  cases (Zj ra ea (fun _ z=>by cases z)).vint
  cases (Zj rb eb (fun _ z=>by cases z)).vint
  exact op_le pins s σ H _ _ v u Q I rx ry ⟨_,_,rfl,rfl,ans ho M (.bl _)⟩
theorem Zh9:OpR X (compareOp .Gt) (r2 X.K xr (fCmp .Gt)):=by
  rintro pins s σ H x y v u Q I rx ry ⟨cm,m,a,b,M,ra,rb,ho⟩
  obtain ⟨ta,tb,c,ea,eb,e,ho⟩:=Zag ho
  obtain ⟨i,j,rfl,rfl,rfl⟩:=Zbf e
  cases (Zj ra ea (fun _ z=>by cases z)).vint
  cases (Zj rb eb (fun _ z=>by cases z)).vint
  exact op_gt pins s σ H _ _ v u Q I rx ry ⟨_,_,rfl,rfl,ans ho M (.bl _)⟩
theorem Zia:OpR X (compareOp .GtE) (r2 X.K xr (fCmp .GtE)):=by
  rintro pins s σ H x y v u Q I rx ry ⟨cm,m,a,b,M,ra,rb,ho⟩
  obtain ⟨ta,tb,c,ea,eb,e,ho⟩:=Zag ho
  obtain ⟨i,j,rfl,rfl,rfl⟩:=Zbf e
  cases (Zj ra ea (fun _ z=>by cases z)).vint
  cases (Zj rb eb (fun _ z=>by cases z)).vint
  exact op_ge pins s σ H _ _ v u Q I rx ry ⟨_,_,rfl,rfl,ans ho M (.bl _)⟩
theorem ZkZ {a b:List Nat}:eqV (.str ⟨a.toArray⟩) (.str ⟨b.toArray⟩)=(a == b):=by
  show ((⟨a.toArray⟩:Str) == ⟨b.toArray⟩)=(a == b)
  by_cases h:a=b
  · subst h; simp
  · rw [beq_eq_false_iff_ne.mpr h,beq_eq_false_iff_ne.mpr fun z=>h (ZeW.mp z)]
theorem fl_eqV {x y:T} (f:flat x=true) (g:flat y=true):eqV (flV y) (flV x)=eqT y x:=by
  cases x <;> cases y <;> first
    | (cases f; done)
    | (cases g; done)
    | (unfold eqT; exact ZkZ)
    | (unfold eqT; rfl)
theorem RTs.fl {ts:List T} {vs:List V} (h:RTs K cm m H ts vs) (f:ts.all flat=true):vs=ts.map flV∧vs.all ZbH=true:=by
  induction h with
  | nil=>exact ⟨rfl,rfl⟩
  | @cons t v _ _ r _ ih =>
    rw [List.all_cons,Bool.and_eq_true] at f
    obtain ⟨h1,h2⟩:=ih f.2
    have h3:=r.fl f.1
    subst h3
    refine ⟨by rw [List.map_cons,h1],?_⟩
    rw [List.all_cons,h2,Bool.and_true]
    cases t <;> first | rfl | (cases f.1)
theorem Zjm {x:T} (f:flat x=true):∀ {ts:List T},ts.all flat=true→inV (flV x) (ts.map flV)=ts.any fun t=>eqT t x
  | [],_=>rfl
  | t :: ts,g=>by
    rw [List.all_cons,Bool.and_eq_true] at g
    have ih:=Zjm f g.2
    unfold inV at ih ⊢
    rw [List.map_cons,List.any_cons,List.any_cons,ih,fl_eqV f g.1]
theorem ZbL {x:T} (f:flat x=true):ZbH (flV x)=true:=by cases x <;> first | rfl | cases f
end
end Mi
end
noncomputable section
namespace Mi
open PySem PySem.Spec PyProof.Rows L2
section
variable {K:PySem.W.Frag} {cm:List Addr} {m:Mem} {H:Hp} {xr:XR} {X:Cx}
theorem ZlM (b:List Nat) (a:Nat):(!(Builtin.Str.occurrences ⟨b.toArray⟩ ⟨#[a]⟩ 0 (⟨b.toArray⟩:Str).length 1).isEmpty)=decide (a∈b):=by
  have:=PySem.StrLaws.found_one (⟨b.toArray⟩:Str) a
  simpa using this
theorem ZaV {x y:T} {c:Bool} (e:cmpT .In x y=some c):(∃ a b,x = .str [a]∧y = .str b∧c=decide (a∈b))∨(flat x=true∧∃ ts,(y = .tup ts∨y = .lst ts)∧ts.all flat=true∧c=ts.any fun t=>eqT t x)∨∃ ts,y = .lst ts∧Zm 59 x=true∧Zo 59 ts=true∧c=ts.any fun t=>eqT t x:=by
  have hh:∀ {x y:T} {c:Bool},hasT x y=some c→(flat x=true∧∃ ts,(y = .tup ts∨y = .lst ts)∧ts.all flat=true∧c=ts.any fun t=>eqT t x)∨∃ ts,y = .lst ts∧Zm 59 x=true∧Zo 59 ts=true∧c=ts.any fun t=>eqT t x:=by
    intro x y c e
    unfold hasT at e
    split at e
    · split at e <;> cases e
      rename_i h
      rw [Bool.and_eq_true] at h
      exact .inl ⟨h.1,_,.inl rfl,h.2,rfl⟩
    · split at e
      · cases e
        rename_i h
        rw [Bool.and_eq_true] at h
        exact .inl ⟨h.1,_,.inr rfl,h.2,rfl⟩
      · split at e <;> cases e
        rename_i h
        rw [Bool.and_eq_true] at h
        exact .inr ⟨_,rfl,h.1,h.2,rfl⟩
    · cases e
  cases x with
  | str cs =>
    cases cs with
    | nil=>cases y <;> exact .inr (hh e)
    | cons a r =>
      cases r with
      | nil =>
        cases y with
        | str b=>cases e; exact .inl ⟨a,b,rfl,rfl,rfl⟩
        | _=>exact .inr (hh e)
      | cons _ _=>cases y <;> exact .inr (hh e)
  | _=>cases y <;> exact .inr (hh e)
theorem Zk4 {ts:List T} {n:Nat} (h:Zo n ts=true):∀ x∈ts,Zm n x=true:=by
  induction ts with
  | nil=>intro x hx; cases hx
  | cons y l ih =>
    intro x hx
    rw [Zo,Bool.and_eq_true] at h
    rcases List.mem_cons.mp hx with rfl | hx
    · exact h.1
    · exact ih h.2 x hx
theorem Zjx {vs:List V} {us:List Value} (r:Vals vs us):∀ (i:Nat) (u:Value),us[i]? = some u→∃ v,vs[i]? = some v∧RelV v u:=by
  induction r with
  | nil=>intro i u h; simp at h
  | cons r rs ih =>
    intro i u h
    cases i with
    | zero=>simp at h; subst h; exact ⟨_,rfl,r⟩
    | succ i=>exact ih i u (by simpa using h)
theorem ZiV {pins:List (Addr×Obj)} {σ:L2.St} {s:Shared} {H:Hp} {w:W} {tx:T} {xv:V} {v:Value} {p:Addr} {ts:List T} {vs:List V} (hu:X.A.units + 64 < cLine) (I:Inv X pins σ H s) (M:MemR X.K cm m H) (ra:RW X.K cm m H w xv) (ea:view w m=some tx) (rx:RelV xv v) (dx:Zm 59 tx=true) (h1:H p=some (.lst vs)) (r:RTs X.K cm m H ts vs) (dt:Zo 59 ts=true) :
    ∃ (its:Array Value) (e:Value→Bool),s.heap.IsList p its∧(∀ y,y∈its→SeqAt.EqAt X.A.in1 s y v (e y))∧its.any e=ts.any fun t=>eqT t tx:=by
  classical
  obtain ⟨as,hx⟩:=J7 I M ra ea rx dx
  obtain ⟨its,k,rv,ho,hz⟩:=I.lst h1
  have hlen:ts.length=its.length:=r.length.trans rv.length
  have at_:∀ (i:Nat) (t:T) (y:Value),ts[i]? = some t→its[i]? = some y→SeqAt.EqAt X.A.in1 s y v (eqT t tx):=by
    intro i t y e1 e2
    obtain ⟨u,e3,e4⟩:=Zjx rv i y e2
    have d:=Zk4 dt t (List.mem_of_getElem? e1)
    obtain ⟨bs,hb⟩:=RT.reads rfl I (Xa r i t u e1 e3) (n:=59) d e4
    have l1:=ZbX 59 t d
    have l2:=ZbX 59 tx dx
    have:=SeqAt.eqAt_reads (pyT t) (pyT tx) X.A.in1 s y v bs as hb hx l1.1 l2.1 (by
      have:X.A.in1.units≤X.A.units + 1:=by simp [Around.in1]
      omega)
    rw [ZfR 59 59 t tx d dx] at this
    exact this
  refine ⟨its.toArray,fun y=>decide (∃ (i:Nat) (t:T),ts[i]? = some t∧its[i]? = some y∧eqT t tx=true),⟨_,ho,rfl,k,rfl⟩,fun y hy=>?_,?_⟩
  · by_cases q:∃ (i:Nat) (t:T),ts[i]? = some t∧its[i]? = some y∧eqT t tx=true
    · dsimp only; rw [decide_eq_true q]
      obtain ⟨i,t,e1,e2,e3⟩:=q
      have:=at_ i t y e1 e2
      rw [e3] at this
      exact this
    · dsimp only; rw [decide_eq_false q]
      obtain ⟨i,hi,e2⟩:=List.getElem_of_mem (show y∈its by simpa using hy)
      have hi':i < ts.length:=by omega
      have e1:ts[i]? = some ts[i]:=List.getElem?_eq_getElem hi'
      have e2:its[i]? = some y:=by rw [← e2]; exact List.getElem?_eq_getElem hi
      have:=at_ i ts[i] y e1 e2
      cases q2:eqT ts[i] tx with
      | false=>rw [q2] at this; exact this
      | true=>exact absurd ⟨i,ts[i],e1,e2,q2⟩ q
  · rw [Bool.eq_iff_iff,List.any_toArray,List.any_eq_true,List.any_eq_true]
    constructor
    · rintro ⟨y,hy,q⟩
      obtain ⟨i,t,e1,_,e3⟩:=of_decide_eq_true q
      exact ⟨t,List.mem_of_getElem? e1,e3⟩
    · rintro ⟨t,ht,e3⟩
      obtain ⟨i,hi,e1⟩:=List.getElem_of_mem ht
      have hi':i < its.length:=by omega
      exact ⟨its[i],List.getElem_mem hi',decide_eq_true ⟨i,t,by rw [← e1]; exact List.getElem?_eq_getElem hi,List.getElem?_eq_getElem hi',e3⟩⟩
theorem Zg8 (x y:T):cmpT .NotIn x y=(cmpT .In x y).map (!·):=by
  cases x with
  | str cs =>
    cases cs with
    | nil=>cases y <;> rfl
    | cons a r=>cases r <;> cases y <;> rfl
  | _=>cases y <;> rfl
theorem Zh8 (hu:X.A.units + 64 < cLine):OpR X (compareOp .In) (r2 X.K xr (fCmp .In)):=by
  rintro pins s σ H x y v u Q I rx ry ⟨cm,m,a,b,M,ra,rb,ho⟩
  obtain ⟨ta,tb,c,ea,eb,e,ho⟩:=Zag ho
  rcases ZaV e with ⟨p,q,rfl,rfl,rfl⟩ | ⟨f,ts,hy,g,rfl⟩ | ⟨ts,rfl,dx,dt,rfl⟩
  · cases (Zj ra ea (fun _ z=>by cases z)).vstr
    cases (Zj rb eb (fun _ z=>by cases z)).vstr
    exact Zh3 pins s σ H _ _ v u Q I rx ry ⟨_,_,rfl,rfl,by rw [ZlM]; exact ans ho M (.bl _)⟩
  · cases Xc ra ea f
    have fin:∀ {vs:List V},RTs X.K cm m H ts vs→vs=ts.map flV∧vs.all ZbH=true∧Q (.bl (inV (flV ta) vs)) H:=fun r=>by
      obtain ⟨h1,h2⟩:=RTs.fl r g
      exact ⟨h1,h2,by rw [h1,Zjm f g]; exact ans ho M (.bl _)⟩
    rcases hy with rfl | rfl
    · obtain ⟨p,vs,rfl,h1,r⟩:=(Zj rb eb (fun _ z=>by cases z)).itup
      obtain ⟨_,f2,f3⟩:=fin r
      exact Zd8 pins s σ H _ _ v u Q I rx ry ⟨p,vs,rfl,.inr h1,ZbL f,f2,f3⟩
    · obtain ⟨p,vs,rfl,h1,r⟩:=Z7 M rb eb
      obtain ⟨_,f2,f3⟩:=fin r
      exact Zd8 pins s σ H _ _ v u Q I rx ry ⟨p,vs,rfl,.inl (.of h1),ZbL f,f2,f3⟩
  · obtain ⟨p,vs,rfl,h1,r⟩:=Z7 M rb eb
    cases ry
    obtain ⟨its,e,hl,he,ha⟩:=ZiV hu I M ra ea rx dx h1 r dt
    refine SeqAt.in_listAt e hl he ?_
    rw [ha]
    exact ⟨.bl _,H,I,rfl,ans ho M (.bl _)⟩
theorem Zd9 (hu:X.A.units + 64 < cLine):OpR X (compareOp .NotIn) (r2 X.K xr (fCmp .NotIn)):=by
  rintro pins s σ H x y v u Q I rx ry ⟨cm,m,a,b,M,ra,rb,ho⟩
  obtain ⟨ta,tb,c',ea,eb,e,ho⟩:=Zag ho
  rw [Zg8] at e
  cases e2:cmpT .In ta tb with
  | none=>rw [e2] at e; cases e
  | some c =>
  rw [e2] at e; cases e
  rcases ZaV e2 with ⟨p,q,rfl,rfl,rfl⟩ | ⟨f,ts,hy,g,rfl⟩ | ⟨ts,rfl,dx,dt,rfl⟩
  · cases (Zj ra ea (fun _ z=>by cases z)).vstr
    cases (Zj rb eb (fun _ z=>by cases z)).vstr
    exact Zd7 pins s σ H _ _ v u Q I rx ry ⟨_,_,rfl,rfl,by rw [ZlM]; exact ans ho M (.bl _)⟩
  · cases Xc ra ea f
    have fin:∀ {vs:List V},RTs X.K cm m H ts vs→vs=ts.map flV∧vs.all ZbH=true∧Q (.bl (!inV (flV ta) vs)) H:=fun r=>by
      obtain ⟨h1,h2⟩:=RTs.fl r g
      exact ⟨h1,h2,by rw [h1,Zjm f g]; exact ans ho M (.bl _)⟩
    rcases hy with rfl | rfl
    · obtain ⟨p,vs,rfl,h1,r⟩:=(Zj rb eb (fun _ z=>by cases z)).itup
      obtain ⟨_,f2,f3⟩:=fin r
      exact Zbw pins s σ H _ _ v u Q I rx ry ⟨p,vs,rfl,.inr h1,ZbL f,f2,f3⟩
    · obtain ⟨p,vs,rfl,h1,r⟩:=Z7 M rb eb
      obtain ⟨_,f2,f3⟩:=fin r
      exact Zbw pins s σ H _ _ v u Q I rx ry ⟨p,vs,rfl,.inl (.of h1),ZbL f,f2,f3⟩
  · obtain ⟨p,vs,rfl,h1,r⟩:=Z7 M rb eb
    cases ry
    obtain ⟨its,e,hl,he,ha⟩:=ZiV hu I M ra ea rx dx h1 r dt
    refine SeqAt.notIn_listAt e hl he ?_
    rw [ha]
    exact ⟨.bl _,H,I,rfl,ans ho M (.bl _)⟩
def hdV:V→Option (Option Bool)
  | .non=>some none
  | .bl b=>some (some b)
  | _=>none
def hdT:T→Option (Option Bool)
  | .non=>some none
  | .bl b=>some (some b)
  | _=>none
theorem RW.hd {w:W} {v:V} {t:T} (M:MemR K cm m H) (h:RW K cm m H w v) (e:view w m=some t):hdV v=hdT t:=by
  cases t with
  | lst ts=>obtain ⟨a,vs,rfl,_⟩:=Z7 M h e; rfl
  | _=>cases Zj h e (fun _ z=>by cases z) <;> rfl
theorem is_bl {prog:Program} {w:World} {A:Around} {E:Value→Shared→Prop} {s:Shared} {x:V} {v:Value} {b:Bool} {Q:Value→Shared→Prop} (rx:RelV x v) (h:Q (.bool (hdV x == some (some b))) s) :
    wpAny (model prog w) A (compareOp .Is v (.bool b)) Q E s:=by
  cases x with
  | bl c =>
    cases rx
    refine wpAny_is_plain rfl ?_
    have e:((Value.bool c) == (Value.bool b))=(hdV (.bl c) == some (some b)):=by cases c <;> cases b <;> rfl
    rw [e]; exact h
  | non=>cases rx; exact wpAny_is_other rfl (fun z=>nomatch z) h
  | int i=>obtain ⟨t,rfl⟩:=rx; exact wpAny_is_other rfl (fun z=>nomatch z) h
  | str i=>obtain ⟨t,rfl⟩:=rx; exact wpAny_is_other rfl (fun z=>nomatch z) h
  | byt i=>obtain ⟨t,rfl⟩:=rx; exact wpAny_is_other rfl (fun z=>nomatch z) h
  | flt i=>obtain ⟨t,rfl⟩:=rx; exact wpAny_is_other rfl (fun z=>nomatch z) h
  | ref a=>cases rx; exact wpAny_is_other rfl (fun z=>nomatch z) h
  | ty n=>cases rx; exact wpAny_is_other rfl (fun z=>nomatch z) h
theorem ZkM {prog:Program} {w:World} {A:Around} {E:Value→Shared→Prop} {s:Shared} {x:V} {v:Value} {b:Bool} {Q:Value→Shared→Prop} (rx:RelV x v) (h:Q (.bool (!(hdV x == some (some b)))) s) :
    wpAny (model prog w) A (compareOp .IsNot v (.bool b)) Q E s:=by
  cases x with
  | bl c =>
    cases rx
    refine wpAny_isNot_plain rfl ?_
    have e:((Value.bool c) == (Value.bool b))=(hdV (.bl c) == some (some b)):=by cases c <;> cases b <;> rfl
    rw [e]; exact h
  | non=>cases rx; exact wpAny_isNot_other rfl (fun z=>nomatch z) h
  | int i=>obtain ⟨t,rfl⟩:=rx; exact wpAny_isNot_other rfl (fun z=>nomatch z) h
  | str i=>obtain ⟨t,rfl⟩:=rx; exact wpAny_isNot_other rfl (fun z=>nomatch z) h
  | byt i=>obtain ⟨t,rfl⟩:=rx; exact wpAny_isNot_other rfl (fun z=>nomatch z) h
  | flt i=>obtain ⟨t,rfl⟩:=rx; exact wpAny_isNot_other rfl (fun z=>nomatch z) h
  | ref a=>cases rx; exact wpAny_isNot_other rfl (fun z=>nomatch z) h
  | ty n=>cases rx; exact wpAny_isNot_other rfl (fun z=>nomatch z) h
theorem Zi1 {x y:T} {c:Bool} (e:cmpT .Is x y=some c):(y = .non∧c=(hdT x == some none))∨∃ b,y = .bl b∧c=(hdT x == some (some b)):=by
  cases y with
  | non=>cases x <;> (cases e; exact .inl ⟨rfl,rfl⟩)
  | bl b =>
    refine .inr ⟨b,rfl,?_⟩
    cases x with
    | bl a=>cases e; cases a <;> cases b <;> rfl
    | _=>cases e; rfl
  | _=>cases x <;> cases e
theorem Zg9 (x y:T):cmpT .IsNot x y=(cmpT .Is x y).map (!·):=by
  cases y with
  | non=>cases x <;> rfl
  | bl b=>cases x <;> first | rfl | (rename_i a; cases a <;> cases b <;> rfl)
  | _=>cases x <;> rfl
theorem ZlK {x:V}:decide (x = .non)=(hdV x == some none):=by cases x <;> first | rfl | exact decide_eq_true rfl | exact decide_eq_false (fun z=>nomatch z)
theorem Zh7:OpR X (compareOp .Is) (r2 X.K xr (fCmp .Is)):=by
  rintro pins s σ H x y v u Q I rx ry ⟨cm,m,a,b,M,ra,rb,ho⟩
  obtain ⟨ta,tb,c,ea,eb,e,ho⟩:=Zag ho
  have hx:=RW.hd M ra ea
  rcases Zi1 e with ⟨rfl,rfl⟩ | ⟨k,rfl,rfl⟩
  · cases (Zj rb eb (fun _ z=>by cases z)).vnon
    refine op_isN pins s σ H _ _ v u Q I rx ry ⟨rfl,?_⟩
    rw [ZlK,hx]
    exact ans ho M (.bl _)
  · cases (Zj rb eb (fun _ z=>by cases z)).vbl
    cases ry
    refine is_bl rx ⟨.bl _,H,I,rfl,?_⟩
    rw [hx]
    exact ans ho M (.bl _)
theorem Zea:OpR X (compareOp .IsNot) (r2 X.K xr (fCmp .IsNot)):=by
  rintro pins s σ H x y v u Q I rx ry ⟨cm,m,a,b,M,ra,rb,ho⟩
  obtain ⟨ta,tb,c',ea,eb,e,ho⟩:=Zag ho
  have hx:=RW.hd M ra ea
  rw [Zg9] at e
  cases e2:cmpT .Is ta tb with
  | none=>rw [e2] at e; cases e
  | some c =>
  rw [e2] at e; cases e
  rcases Zi1 e2 with ⟨rfl,rfl⟩ | ⟨k,rfl,rfl⟩
  · cases (Zj rb eb (fun _ z=>by cases z)).vnon
    refine ZmM pins s σ H _ _ v u Q I rx ry ⟨rfl,?_⟩
    rw [ZlK,hx]
    exact ans ho M (.bl _)
  · cases (Zj rb eb (fun _ z=>by cases z)).vbl
    cases ry
    refine ZkM rx ⟨.bl _,H,I,rfl,?_⟩
    rw [hx]
    exact ans ho M (.bl _)
theorem ZcK (hu:X.A.units + 64 < cLine):∀ op:CmpOp,OpR X (compareOp op) (r2 X.K xr (fCmp op))
  | .Eq=>Zib hu
  | .NotEq=>Zh4 hu
  | .Lt=>Zh5
  | .LtE=>Zh6
  | .Gt=>Zh9
  | .GtE=>Zia
  | .Is=>Zh7
  | .IsNot=>Zea
  | .In=>Zh8 hu
  | .NotIn=>Zd9 hu
def fIx (x y:W) (m:Mem):Res W:=pur ((view x m).bind fun x=>(view y m).bind fun y=>ixT x y) m
theorem Zm8 (n:Nat) (i:Int):ixOf n i=ixN n i:=rfl
theorem Zbq {α β:Type} {F:α→β→Prop} {xs:List α} {ys:List β} (h:Paired F xs ys) {i:Int} {x:α} (e:atT xs i=some x):∃ y,atI ys i=some y∧F x y:=by
  unfold atT at e
  unfold atI
  rw [← h.length]
  cases q:ixOf xs.length i with
  | none=>rw [q] at e; cases e
  | some j =>
    rw [q] at e
    rw [Zm8] at q
    obtain ⟨y,e1,e2⟩:=Z9 h e
    exact ⟨y,by rw [q]; exact e1,e2⟩
theorem Za3 (ns:List Int):RTs K cm m H (ns.map .int) (ns.map V.int):=by
  induction ns with
  | nil=>exact .nil
  | cons n ns ih=>exact .cons (.int n) ih
theorem Znx {α β:Type} (f:α→β) (xs:List α) (i:Int):atT (xs.map f) i=(atT xs i).map f:=by
  unfold atT
  rw [List.length_map]
  cases ixOf xs.length i with
  | none=>rfl
  | some j=>simp
theorem ix_ix:IxR X (r2 X.K xr fIx):=by
  rintro value slice pins s σ H x y v u Q I rx ry ⟨cm,m,a,b,M,ra,rb,ho⟩ hs
  obtain ⟨t,e,ho⟩:=JN ho
  obtain ⟨ta,tb,ea,eb,e⟩:=ZdH e
  unfold ixT at e
  have hz:=Qn
  split at e
  · cases (Zj rb eb (fun _ z=>by cases z)).vint
    obtain ⟨p,vs,rfl,h1,r⟩:=(Zj ra ea (fun _ z=>by cases z)).itup
    obtain ⟨z,e1,e2⟩:=Zbq r e
    exact ix_tup value slice pins s σ H _ _ v u Q I rx ry ⟨p,vs,_,z,rfl,rfl,h1,e1,ans ho M e2⟩ hs
  · cases (Zj rb eb (fun _ z=>by cases z)).vint
    obtain ⟨p,vs,rfl,h1,r⟩:=Z7 M ra ea
    obtain ⟨z,e1,e2⟩:=Zbq r e
    exact Zix value slice pins s σ H _ _ v u Q I rx ry ⟨p,vs,_,z,rfl,rfl,.of h1,e1,ans ho M e2⟩ hs
  · cases (Zj rb eb (fun _ z=>by cases z)).vint
    obtain ⟨p,rfl,h1⟩:=(Zj ra ea (fun _ z=>by cases z)).vscr
    rw [← Znx] at e
    obtain ⟨z,e1,e2⟩:=Zbq (Za3 (K:=X.K) (cm:=cm) (m:=m) (H:=H) _) e
    exact Zix value slice pins s σ H _ _ v u Q I rx ry ⟨p,_,_,z,rfl,rfl,h1.sq,e1,ans ho M e2⟩ hs
  · split at e
    · rename_i cs k hl
      cases (Zj rb eb (fun _ z=>by cases z)).vint
      cases (Zj ra ea (fun _ z=>by cases z)).vstr
      cases q:atT cs k with
      | none=>rw [q] at e; cases e
      | some c =>
        rw [q] at e; cases e
        exact ix_str value slice pins s σ H _ _ v u Q I rx ry ⟨_,k,c,rfl,rfl,by rw [Zav]; omega,q,ans ho M (.str [c])⟩ hs
    · cases e
  · cases e
end
end Mi
end
noncomputable section
namespace Mi
open PySem PySem.Spec PyProof.Rows L2
section
variable {P:Program} {w:World} {A:Around} {E:Value→Shared→Prop} {s:Shared}
theorem Zf5 {j a:Addr} {k:Nat} {vs:Array Value} {v:Value} {Q:Value→Shared→Prop} (hj:s.heap.IsTupleIter j a k) (ha:s.heap.IsTuple a vs) (hv:vs[k]? = some v)
    (q:∀ g,g.IsTupleIter j a (k + 1)→Heap.SameBut j s.heap g→Q v { s with heap:=g }):wpAny (model P w) A (Builtin.SmallTypes.nextOf (.ref j)) Q E s:=by
  obtain ⟨oj,ej,cj,dj⟩:=id hj
  obtain ⟨oa,ea,_,na,da⟩:=ha
  unfold Builtin.SmallTypes.nextOf
  refine wpAny_bind (wpAny_callSpecial?_slot (name:=Str.ofString "__next__") hj.typeIs F.slot_tuple_iterator_next (wpAny_call_entry F.slot_tuple_iterator_next hj.typeIs F.entry_tuple_iterator_next ?_ (F.args_tuple_iterator_next_1 _)))
  show wpAny _ _ (field (.ref j) 0 >>= _) _ _ s
  refine wpAny_bind (wpAny_field ej dj (x:=.ref a) rfl ?_)
  show wpAny _ _ (if (Value.ref a == Value.none)=true then _ else _) _ _ s
  rw [if_neg (show ¬ (Value.ref a == Value.none)=true from Bool.false_ne_true)]
  show wpAny _ _ (field (.ref j) 1 >>= _) _ _ s
  refine wpAny_bind (wpAny_field ej dj (x:=.int k 0) rfl ?_)
  show wpAny _ _ (seqItems? (.ref a) >>= _) _ _ s
  refine wpAny_bind (wpAny_seqItems ea da ?_)
  simp only [Int.toNat_natCast,hv]
  refine wpAny_bind (wpAny_setField ej dj (by simp) (wpAny_pure ⟨v,rfl,wpAny_pure (q _ ⟨_,Heap.get?_update_self _ ej (Obj.isFreed_of_fields (Obj.data_mapFields dj _)),(Obj.cls_mapFields ..).trans cj,?_⟩ (Heap.SameBut.update ..))⟩))
  rw [Obj.data_mapFields dj]; simp [rawInt]
theorem Zk2 {j a:Addr} {k:Nat} {vs:Array Value} {Q:Value→Shared→Prop} (hA:A.handled=none) (hj:s.heap.IsTupleIter j a k) (ha:s.heap.IsTuple a vs) (hv:vs[k]? = none)
    (q:∀ g e,Heap.ExtBut j s.heap g→(∃ o,g.get? e=some o∧o.cls = .type "StopIteration")→E (.ref e) { s with heap:=g }):wpAny (model P w) A (Builtin.SmallTypes.nextOf (.ref j)) Q E s:=by
  obtain ⟨oj,ej,cj,dj⟩:=id hj
  obtain ⟨oa,ea,_,na,da⟩:=ha
  unfold Builtin.SmallTypes.nextOf
  refine wpAny_bind (wpAny_callSpecial?_slot (name:=Str.ofString "__next__") hj.typeIs F.slot_tuple_iterator_next (wpAny_call_entry F.slot_tuple_iterator_next hj.typeIs F.entry_tuple_iterator_next ?_ (F.args_tuple_iterator_next_1 _)))
  show wpAny _ _ (field (.ref j) 0 >>= _) _ _ s
  refine wpAny_bind (wpAny_field ej dj (x:=.ref a) rfl ?_)
  show wpAny _ _ (if (Value.ref a == Value.none)=true then _ else _) _ _ s
  rw [if_neg (show ¬ (Value.ref a == Value.none)=true from Bool.false_ne_true)]
  show wpAny _ _ (field (.ref j) 1 >>= _) _ _ s
  refine wpAny_bind (wpAny_field ej dj (x:=.int k 0) rfl ?_)
  show wpAny _ _ (seqItems? (.ref a) >>= _) _ _ s
  refine wpAny_bind (wpAny_seqItems ea da ?_)
  simp only [Int.toNat_natCast,hv]
  refine wpAny_bind (wpAny_rule (wpAny_bind (wpAny_setField ej dj (by simp) ?_)))
  show wpAny _ _ (newExc (.type "StopIteration") [] >>= _) _ _ _
  refine wpAny_bind ?_
  simp only [newExc,newTuple]
  refine wpAny_bind (wpAny_newObj_type ?_ (by size_fits))
  refine wpAny_bind (m:=firstArgMember _ _) (wpAny_of_eq (a:=Value.none) (by first | rfl | (simp only [firstArgMember]; rfl)) (wpAny_newObj_type ?_ (by size_fits)))
  simp only [raiseNew]
  refine wpAny_bind (wpAny_handled ?_)
  first | rw [show A.in1.handled=none from hA] | rw [hA]
  exact wpAny_bind (wpAny_pure (wpAny_throw (q _ _ (((Heap.SameBut.update ..).extBut.push _).push _) ⟨_,Heap.get?_push_size _ rfl,rfl⟩)))
structure Side (z TI TO i j a b:Addr) (k:Nat) (h:Heap):Prop where
  zip:IsZip h z TI TO .none
  its:IsPair h TI (.ref i) (.ref j)
  out:∃ p q,IsPair h TO p q
  one:h.IsTupleIter i a k
  two:h.IsTupleIter j b k
theorem ZhG {z TI TO i j a b:Addr} {k:Nat} {xs ys:Array Value} {x y:Value} {Q:Value→Shared→Prop} (D:ZipApart z TI TO i j a b) (S:Side z TI TO i j a b k s.heap)
    (ha:s.heap.IsTuple a xs) (hb:s.heap.IsTuple b ys) (hx:xs[k]? = some x) (hy:ys[k]? = some y)
    (q:∀ (g g':Heap),g.objs.size=s.heap.objs.size→(∀ c o,c≠z→c≠TO→c≠i→c≠j→s.heap.get? c=some o→g.get? c=some o) →
      (∀ c o,c≠z→(g.push { cls:=.type "tuple",data:=.seq #[x,y] }).get? c=some o→g'.get? c=some o)→IsZip g' z TI TO (rawInt s.heap.objs.size)→IsPair g' TO x y→g'.IsTupleIter i a (k + 1)→g'.IsTupleIter j b (k + 1) →
      Q (.ref s.heap.objs.size) { s with heap:=g' }):wpAny (model P w) A (Builtin.«zip.__next__» ⟨[.ref z],[]⟩) (fun fin s'=>∃ v,fin = .done (.ret v)∧Q v s') E s:=by
  obtain ⟨hz,hI,⟨p,r,hO⟩,h1,h2⟩:=S
  show wpAny _ _ (field (.ref z) 2 >>= _) _ _ _
  refine wpAny_bind (wpAny_field hz rfl (x:=.bool false) rfl ?_)
  show wpAny _ _ (field (.ref z) 3 >>= _) _ _ _
  refine wpAny_bind (wpAny_field hz rfl (x:=.ref TI) rfl (wpAny_bind (wpAny_seqItems hI rfl ?_)))
  show wpAny _ _ (Builtin.SmallTypes.ownedTupleIsFree (.ref z) >>= _) _ _ _
  refine wpAny_bind ?_
  unfold Builtin.SmallTypes.ownedTupleIsFree
  refine wpAny_bind (wpAny_field hz rfl (x:=.none) rfl (wpAny_pure ?_))
  simp only [if_true]
  refine wpAny_bind (wpAny_rule (wpAny_bind (wpAny_field hz rfl (x:=.ref TO) rfl (wpAny_bind (wpAny_setField_rec hz (by simp) fun g1 z1 e1=>?_)))))
  replace z1:IsZip g1 z TI TO .ellipsis:=z1
  refine wpAny_bind ?_
  simp only [List.zipIdx_cons,List.zipIdx_nil,List.forIn_cons,List.forIn_nil]
  refine wpAny_bind (wpAny_bind (wpAny_onRaise ?_))
  show wpAny _ _ (Builtin.SmallTypes.nextOf (.ref i) >>= _) _ _ _
  refine wpAny_bind (Zf5 (h1.extBut e1.extBut D.i1z) (ha.extBut e1.extBut D.l1z) hx fun g2 k2 e2=>wpAny_pure ?_)
  have o2:IsPair g2 TO p r:=e2.extBut _ _ D.TOi1 (e1.extBut _ _ D.TOz hO)
  refine wpAny_bind (wpAny_seqItems o2 rfl (wpAny_bind (wpAny_updateSeq_pair o2 fun g3 o3 e3=>?_)))
  replace o3:IsPair g3 TO x r:=o3
  refine wpAny_bind (wpAny_letGo (wpAny_pure (wpAny_bind (wpAny_bind (wpAny_onRaise ?_)))))
  show wpAny _ _ (Builtin.SmallTypes.nextOf (.ref j) >>= _) _ _ _
  refine wpAny_bind (Zf5 (((h2.extBut e1.extBut D.i2z).extBut e2.extBut D.i12.symm).extBut e3.extBut D.TOi2.symm) (((hb.extBut e1.extBut D.l2z).extBut e2.extBut D.l2i1).extBut e3.extBut D.l2TO) hy fun g4 k4 e4=>wpAny_pure ?_)
  have o4:IsPair g4 TO x r:=e4.extBut _ _ D.TOi2 o3
  refine wpAny_bind (wpAny_seqItems o4 rfl (wpAny_bind (wpAny_updateSeq_pair o4 fun g5 o5 e5=>?_)))
  replace o5:IsPair g5 TO x y:=o5
  refine wpAny_bind (wpAny_letGo (wpAny_pure (wpAny_pure (wpAny_bind (wpAny_seqItems o5 rfl (wpAny_bind (wpAny_newTuple ?_)))))))
  have sz:g5.objs.size=s.heap.objs.size:=by rw [e5.1,e4.1,e3.1,e2.1,e1.1]
  have z5:IsZip g5 z TI TO .ellipsis:=e5.extBut _ _ D.TOz.symm (e4.extBut _ _ D.i2z.symm (e3.extBut _ _ D.TOz.symm (e2.extBut _ _ D.i1z.symm z1)))
  have kp:∀ c o,c≠z→c≠TO→c≠i→c≠j→s.heap.get? c=some o→g5.get? c=some o:=fun c o n1 n2 n3 n4 e =>
    e5.extBut _ _ n2 (e4.extBut _ _ n4 (e3.extBut _ _ n2 (e2.extBut _ _ n3 (e1.extBut _ _ n1 e))))
  have k5:g5.IsTupleIter i a (k + 1):=((k2.extBut e3.extBut D.TOi1.symm).extBut e4.extBut D.i12).extBut e5.extBut D.TOi1.symm
  have l5:g5.IsTupleIter j b (k + 1):=k4.extBut e5.extBut D.TOi2.symm
  show wpAny _ _ (Builtin.SmallTypes.ownedTupleHandOut (.ref z) (.ref g5.objs.size) >>= _) _ _ _
  refine wpAny_bind ?_
  unfold Builtin.SmallTypes.ownedTupleHandOut
  have z6:IsZip (g5.push { cls:=.type "tuple",data:=.seq #[x,y] }) z TI TO .ellipsis:=Heap.get?_push_of_some _ z5
  refine wpAny_bind (wpAny_setField_rec z6 (by simp) fun g7 z7 e7=>?_)
  replace z7:IsZip g7 z TI TO (rawInt g5.objs.size):=z7
  refine wpAny_setField_rec z7 (by simp) fun g8 z8 e8=>?_
  replace z8:IsZip g8 z TI TO (rawInt g5.objs.size):=z8
  have up:∀ c o,c≠z→(g5.push { cls:=.type "tuple",data:=.seq #[x,y] }).get? c=some o→g8.get? c=some o:=fun c o n e=>e8.extBut _ _ n (e7.extBut _ _ n e)
  have up':∀ c o,c≠z→g5.get? c=some o→g8.get? c=some o:=fun c o n e=>up c o n (Heap.get?_push_of_some _ e)
  refine wpAny_pure ⟨_,rfl,?_⟩
  show Q (.ref g5.objs.size) _
  rw [sz] at z8 ⊢
  exact q g5 g8 sz kp up z8 (up' _ _ D.TOz o5) (k5.at fun o e=>up' _ o D.i1z e) (l5.at fun o e=>up' _ o D.i2z e)
theorem ZjL {z TI TO i j a b:Addr} {k:Nat} {xs:Array Value} {Q:Fin→Shared→Prop} (hA:A.handled=none) (D:ZipApart z TI TO i j a b) (S:Side z TI TO i j a b k s.heap)
    (ha:s.heap.IsTuple a xs) (hx:xs[k]? = none)
    (q:∀ (g:Heap) (e:Addr),(∀ c o,c≠z→c≠i→s.heap.get? c=some o→g.get? c=some o)→(∃ o,g.get? e=some o∧o.cls = .type "StopIteration")→E (.ref e) { s with heap:=g }) :
    wpAny (model P w) A (Builtin.«zip.__next__» ⟨[.ref z],[]⟩) Q E s:=by
  obtain ⟨hz,hI,_,h1,h2⟩:=S
  show wpAny _ _ (field (.ref z) 2 >>= _) _ _ _
  refine wpAny_bind (wpAny_field hz rfl (x:=.bool false) rfl ?_)
  show wpAny _ _ (field (.ref z) 3 >>= _) _ _ _
  refine wpAny_bind (wpAny_field hz rfl (x:=.ref TI) rfl (wpAny_bind (wpAny_seqItems hI rfl ?_)))
  show wpAny _ _ (Builtin.SmallTypes.ownedTupleIsFree (.ref z) >>= _) _ _ _
  refine wpAny_bind ?_
  unfold Builtin.SmallTypes.ownedTupleIsFree
  refine wpAny_bind (wpAny_field hz rfl (x:=.none) rfl (wpAny_pure ?_))
  simp only [if_true]
  refine wpAny_bind (wpAny_rule (wpAny_bind (wpAny_field hz rfl (x:=.ref TO) rfl (wpAny_bind (wpAny_setField_rec hz (by simp) fun g1 z1 e1=>?_)))))
  replace z1:IsZip g1 z TI TO .ellipsis:=z1
  refine wpAny_bind ?_
  simp only [List.zipIdx_cons,List.zipIdx_nil,List.forIn_cons,List.forIn_nil]
  refine wpAny_bind (wpAny_bind (wpAny_onRaise ?_))
  show wpAny _ _ (Builtin.SmallTypes.nextOf (.ref i) >>= _) _ _ _
  refine wpAny_bind (Zk2 hA (h1.extBut e1.extBut D.i1z) (ha.extBut e1.extBut D.l1z) hx fun g2 e k2 he=>?_)
  obtain ⟨oe,hoe,hce⟩:=he
  have z2:IsZip g2 z TI TO .ellipsis:=k2 _ _ D.i1z.symm z1
  have ne:e≠z:=fun x=>by subst x; rw [z2] at hoe; cases hoe; simp at hce
  exact wpAny_setField_rec z2 (by simp) fun g3 _ e3=>q g3 e (fun c o n1 n2 x=>e3.extBut _ _ n1 (k2 _ _ n2 (e1.extBut _ _ n1 x))) ⟨oe,e3.extBut _ _ ne hoe,hce⟩
end
theorem Inv.turnedL {X:Cx} {pins:List (Addr×Obj)} {σ:L2.St} {H:Hp} {s:Shared} {g:Heap} {t':Nat} {ch:List Addr} (I:Inv X pins σ H s) (k:∀ b o,b ∉ ch→s.heap.get? b=some o→g.get? b=some o) (hf:∀ b∈ch,FpOk X pins H b) :
    Inv X pins σ H { s with heap:=g,toks:=t' }:=by
  have nit:∀ b u,H b=some u→b ∉ ch:=fun b u e z=>by rw [(hf b z).1] at e; cases e
  obtain ⟨m0,hm0,_⟩:=id I.loc
  refine I.step (g':=s.gens) (d':=s.drawn) (ch:=ch) (fun b hb=>⟨(hf b hb).2.2.2.1,(hf b hb).2.1,(hf b hb).2.2.2.2.1,(hf b hb).2.2.2.2.2⟩) (fun b o _ _ hc e _=>k b o hc e) (fun b o _ _ hc e _=>⟨o.slots,k b o hc e⟩) (fun _ _ _ _ n=>n)
    (fun b o hc e=>⟨o,k b o hc e⟩) (fun _ _ e=>e) (fun _ _ _ e=>e) (fun b ps e=>⟨#[],by rw [e]; simp⟩) (fun m hm=>?_) (fun b u e=>?_) I.bare
  · obtain ⟨o,es,ep,ho,r⟩:=hm
    exact ⟨o,es,ep,k _ o (fun z=>(hf _ z).2.1 rfl) ho,r⟩
  · refine (I.hok b u e).stay (fun c v hc q=>k c v ?_ q) (fun _ q=>q) fun _ _ q=>q
    rcases hc with z | z
    · rw [z]; exact nit b u e
    · exact nit c _ z
def Itz (K:PySem.W.Frag) (a b:Addr):It :=
  ⟨fun i H=>∃ xs ys x y,SqT K H a xs∧SqT K H b ys∧xs[i]? = some x∧ys[i]? = some y,
   fun i H v H'=>∃ x y c,(∀ xs,SqT K H a xs→xs[i]? = some x)∧(∀ ys,SqT K H b ys→ys[i]? = some y)∧H c=none∧v = .ref c∧H' = upd H c (.tup [x,y]),
   fun i H=>∃ xs,SqT K H a xs∧xs.length≤i⟩
theorem Zjz {P:Program} {w:World} {K:PySem.W.Frag} {es:List Expr} {kk} {pos:Pos} {z TI TO i j a b:Addr} (D:ZipApart z TI TO i j a b) :
    Turn P w K (.Tuple es kk pos) (Itz K a b) [z,TI,TO,i,j] z (fun k h=>Side z TI TO i j a b k h) where
  mem:=by simp
  obj:=fun k h st c hc=>by
    obtain ⟨hz,hI,⟨p,q,hO⟩,⟨o1,e1,c1,d1⟩,⟨o2,e2,c2,d2⟩⟩:=st
    simp only [List.mem_cons,List.not_mem_nil,or_false] at hc
    rcases hc with rfl | rfl | rfl | rfl | rfl
    · exact ⟨_,hz,fun v y=>by cases (show Data.fields _=Data.cell v from y)⟩
    · exact ⟨_,hI,fun v y=>by cases (show Data.seq _ _=Data.cell v from y)⟩
    · exact ⟨_,hO,fun v y=>by cases (show Data.seq _ _=Data.cell v from y)⟩
    · exact ⟨o1,e1,fun v y=>by rw [d1] at y; cases y⟩
    · exact ⟨o2,e2,fun v y=>by rw [d2] at y; cases y⟩
  keep:=fun k h h' st f=>by
    obtain ⟨hz,hI,⟨p,q,hO⟩,h1,h2⟩:=st
    exact ⟨f z (by simp) _ hz,f TI (by simp) _ hI,⟨p,q,f TO (by simp) _ hO⟩,h1.at fun o e=>f i (by simp) o e,h2.at fun o e=>f j (by simp) o e⟩
  item:=by
    intro X hP hw hK hc k pins s σ H E I hf st hg
    subst hP hw hK
    obtain ⟨xs,ys,x,y,q1,q2,hx,hy⟩:=hg
    obtain ⟨its,rv,p,_⟩:=I.tuple q1
    obtain ⟨jts,rw',p',_⟩:=I.tuple q2
    obtain ⟨u,hu,ru⟩:=rv.get hx
    obtain ⟨v,hv,rv'⟩:=rw'.get hy
    have hT:s.TypeIs (.ref z) "zip":=⟨_,st.zip,rfl⟩
    unfold pyNext
    refine wpAny_bind (wpAny_attempt (wpAny_callSpecial?_slot (name:=Str.ofString "__next__") hT F.slot_zip_next (wpAny_call_entry F.slot_zip_next hT F.entry_zip_next
      (ZhG D st (show s.heap.IsTuple a its.toArray from p) (show s.heap.IsTuple b jts.toArray from p') (x:=u) (y:=v) (by simpa using hu) (by simpa using hv) fun g g' sz kp up z8 o8 k8 l8=>wpAny_pure ?_) (F.args_zip_next_1 _))))
    refine ⟨_,rfl,?_⟩
    have fr:∀ {c:Addr} {o:Obj},s.heap.get? c=some o→s.heap.objs.size≠c:=fun e=>Nat.ne_of_gt (Heap.lt_size e)
    have nz:s.heap.objs.size≠z:=fr st.zip
    have I5:Inv X pins σ H { s with heap:=g,toks:=s.toks }:=Inv.turnedL (ch:=[z,TI,TO,i,j]) I (fun c o hc e=>kp c o (fun y=>hc (by simp [y])) (fun y=>hc (by simp [y])) (fun y=>hc (by simp [y])) (fun y=>hc (by simp [y])) e) hf
    have fresh:H s.heap.objs.size=none:=I.hok.fresh (Nat.le_refl _)
    have I6:Inv X pins σ (upd H g.objs.size (.tup [x,y])) { s with heap:=g.push { cls:=.type "tuple",data:=.seq #[u,v] },toks:=s.toks } :=
      I5.laid (s:={ s with heap:=g,toks:=s.toks }) (t':=s.toks) (fun c o e=>Heap.get?_push_of_some _ e) (Nat.le_refl _) ⟨by unfold sizeLine; simp,[u,v],.cons ru (.cons rv' .nil),⟨_,Heap.get?_push_size _ rfl,rfl,⟨_,rfl⟩,rfl⟩⟩
    rw [sz] at I6
    obtain ⟨f0,f1,f2,f3,f4,f5⟩:=hf z (by simp)
    have I8:Inv X pins σ (upd H s.heap.objs.size (.tup [x,y])) { s with heap:=g',toks:=s.toks } :=
      Inv.turned (s:={ s with heap:=g.push { cls:=.type "tuple",data:=.seq #[u,v] },toks:=s.toks }) (it:=z) (t':=s.toks) I6 (fun c o hc e=>up c o hc e) (by rw [Qe nz.symm]; exact f0) f1 f3 f4 f5
    refine wpAny_letOwnedTupleGo_zip z8 fun g9 z9 e9=>?_
    have hI8:IsPair g' TI (.ref i) (.ref j):=up _ _ D.TIz (Heap.get?_push_of_some _ (kp _ _ D.TIz D.TITO D.TIi1 D.TIi2 st.its))
    refine ⟨.ref s.heap.objs.size,upd H s.heap.objs.size (.tup [x,y]),Inv.turned (s:={ s with heap:=g',toks:=s.toks }) (it:=z) (t':=s.toks) I8 (fun c o hc e=>e9.extBut _ _ hc e) (by rw [Qe nz.symm]; exact f0) f1 f3 f4 f5,rfl,
      ⟨x,y,_,fun xs' q=>by rw [← I.tuple_inj q1 q]; exact hx,fun ys' q=>by rw [← I.tuple_inj q2 q]; exact hy,fresh,rfl,rfl⟩,⟨z9,e9.extBut _ _ D.TIz hI8,⟨_,_,e9.extBut _ _ D.TOz o8⟩,k8.extBut e9.extBut D.i1z,l8.extBut e9.extBut D.i2z⟩,fun c hc=>?_⟩
    have nc:c≠s.heap.objs.size:=fun e=>by
      obtain ⟨o,ho,_⟩:=(show ∃ o,s.heap.get? c=some o∧True from by
        obtain ⟨hz,hI,⟨p,q,hO⟩,⟨o1,e1,_⟩,⟨o2,e2,_⟩⟩:=st
        simp only [List.mem_cons,List.not_mem_nil,or_false] at hc
        rcases hc with rfl | rfl | rfl | rfl | rfl
        · exact ⟨_,hz,trivial⟩
        · exact ⟨_,hI,trivial⟩
        · exact ⟨_,hO,trivial⟩
        · exact ⟨_,e1,trivial⟩
        · exact ⟨_,e2,trivial⟩)
      exact fr ho e.symm
    rw [Qe nc]
    exact (hf c hc).1
  done:=by
    intro X hP hw hK hc k pins s σ H E I hf st hg
    subst hP hw hK
    obtain ⟨xs,q1,hx⟩:=hg
    obtain ⟨its,rv,p,_⟩:=I.tuple q1
    have hl:=rv.length
    have hT:s.TypeIs (.ref z) "zip":=⟨_,st.zip,rfl⟩
    unfold pyNext
    refine wpAny_bind (wpAny_attempt (wpAny_callSpecial?_slot (name:=Str.ofString "__next__") hT F.slot_zip_next (wpAny_call_entry F.slot_zip_next hT F.entry_zip_next
      (ZjL (I.ok.hd hc) D st (show s.heap.IsTuple a its.toArray from p) (by simp; omega) fun g e kp he=>?_) (F.args_zip_next_1 _))))
    obtain ⟨o,ho,hce⟩:=he
    refine wpAny_bind (wpAny_isInstance (T:="StopIteration") (b:=true) ⟨o,ho,hce⟩ isSubtype_stop (wpAny_pure ⟨rfl,?_⟩))
    exact Inv.turnedL (t':=s.toks) (ch:=[z,TI,TO,i,j]) I (fun c o hc e=>kp c o (fun y=>hc (by simp [y])) (fun y=>hc (by simp [y])) e) hf
  self:=fun _ _ _ _ _ st h=>wpAny_pyIter_zip st.zip h
end Mi
end
noncomputable section
namespace Mi
open PySem PySem.Spec PyProof.Rows L2
def It4 (n:Nat) (l:Nat→Nat) (xs:Nat→Array Value) (p:Nat→Nat) (h:Heap):Prop:=∀ j:Nat,j < 4→h.IsListIter (n + j) (l j) (p j)∧h.IsList (l j) (xs j)∧l j < n
abbrev IsZ (h:Heap) (n:Nat) (f0:Value) (f1:Bool):Prop :=
  h.get? (n + 6)=some { cls:=.type "zip",dict:=none,data:=.fields #[f0,.bool f1,.bool false,.ref (n + 4),.ref (n + 5)],slots:=#[] }
abbrev IsQ (h:Heap) (t:Nat) (a b c d:Value):Prop:=h.get? t=some { cls:=.type "tuple",data:=.seq #[a,b,c,d] }
section
variable {P:Program} {w:World} {A:Around} {E:Value→Shared→Prop} {s:Shared} {n:Nat} {l:Nat→Nat} {xs:Nat→Array Value} {p:Nat→Nat}
def Free (h:Heap) (n:Nat):Prop:=∃ f1,IsZ h n .none f1∨∃ a:Nat,IsZ h n (rawInt a) f1
structure Sd (n:Nat) (l:Nat→Nat) (k:Nat) (h:Heap):Prop where
  zip:Free h n
  its:IsQ h (n + 4) (.ref (n + 0)) (.ref (n + 1)) (.ref (n + 2)) (.ref (n + 3))
  out:∃ a b c d,IsQ h (n + 5) a b c d
  pos:∀ j:Nat,j < 4→h.IsListIter (n + j) (l j) k∧l j < n
def Kp (n:Nat) (h g:Heap):Prop:=g.objs.size=h.objs.size∧∀ c o,(c < n∨n + 7≤c)→h.get? c=some o→g.get? c=some o
end
abbrev fp4 (n:Nat):List Addr:=[n + 6,n + 4,n + 5,n + 0,n + 1,n + 2,n + 3]
def Itz4 (K:PySem.W.Frag) (l:Nat→Nat):It :=
  ⟨fun i H=>∃ (xs:Nat→List V) (x:Nat→V),∀ j:Nat,j < 4→SqL K H (l j) (xs j)∧(xs j)[i]? = some (x j),
   fun i H v H'=>∃ (x:Nat→V) (c:Addr),(∀ j:Nat,j < 4→∀ ys,SqL K H (l j) ys→ys[i]? = some (x j))∧H c=none∧v = .ref c∧H' = upd H c (.tup [x 0,x 1,x 2,x 3]),
   fun i H=>∃ xs,SqL K H (l 0) xs∧xs.length≤i⟩
def pick4 {α:Type} (a b c d:α):Nat→α
  | 0=>a
  | 1=>b
  | 2=>c
  | _=>d
theorem all4 {Q:Nat→Prop} (h0:Q 0) (h1:Q 1) (h2:Q 2) (h3:Q 3):∀ j:Nat,j < 4→Q j
  | 0,_=>h0
  | 1,_=>h1
  | 2,_=>h2
  | 3,_=>h3
end Mi
end
noncomputable section
namespace Mi
open PySem PySem.Spec PyProof.Rows L2
def Ite (K:PySem.W.Frag) (l:Addr):It :=
  ⟨fun i H=>∃ xs x,SqL K H l xs∧xs[i]? = some x,
   fun i H v H'=>∃ x c,(∀ xs,SqL K H l xs→xs[i]? = some x)∧H c=none∧v = .ref c∧H' = upd H c (.tup [.int (i:Int),x]),
   fun i H=>∃ xs,SqL K H l xs∧xs.length≤i⟩
theorem Zhy {P:Program} {w:World} {K:PySem.W.Frag} {es:List Expr} {kk} {pos:Pos} {e it l:Addr} (hei:e≠it) :
    Turn P w K (.Tuple es kk pos) (Ite K l) [e,it] e (fun k h=>(∃ old,IsEnum h e it (k:Int) old)∧h.IsListIter it l k) where
  mem:=by simp
  obj:=fun k h st c hc=>by
    obtain ⟨⟨old,he⟩,⟨o1,e1,c1,d1⟩⟩:=st
    simp only [List.mem_cons,List.not_mem_nil,or_false] at hc
    rcases hc with rfl | rfl
    · exact ⟨_,he,fun v y=>by cases (show Data.fields _=Data.cell v from y)⟩
    · exact ⟨o1,e1,fun v y=>by rw [d1] at y; cases y⟩
  keep:=fun k h h' st f=>by
    obtain ⟨⟨old,he⟩,h1⟩:=st
    exact ⟨⟨old,f e (by simp) _ he⟩,h1.at fun o q=>f it (by simp) o q⟩
  item:=by
    intro X hP hw hK hc k pins s σ H E I hf st hg
    subst hP hw hK
    obtain ⟨xs,x,q1,hx⟩:=hg
    obtain ⟨its,rv,p,_⟩:=I.list q1
    obtain ⟨u,hu,ru⟩:=rv.get hx
    obtain ⟨⟨old,he⟩,hit⟩:=st
    obtain ⟨oi,ei,_⟩:=id hit
    refine wpAny_pyNext_enum_item he hit p.isList (x:=u) (by simpa using hu) hei fun h' heo hit' ht hz kp=>?_
    refine ⟨_,rfl,?_⟩
    have fr:∀ {c:Addr} {o:Obj},s.heap.get? c=some o→c≠s.heap.objs.size:=fun q=>Nat.ne_of_lt (Heap.lt_size q)
    have fresh:H s.heap.objs.size=none:=I.hok.fresh (Nat.le_refl _)
    have I6:Inv X pins σ (upd H s.heap.objs.size (.tup [.int (k:Int),x])) { s with heap:=s.heap.push { cls:=.type "tuple",data:=.seq #[.int k s.toks,u] },toks:=s.toks } :=
      I.laid (t':=s.toks) (fun c o q=>Heap.get?_push_of_some _ q) (Nat.le_refl _) ⟨by unfold sizeLine; simp,[.int k s.toks,u],.cons ⟨_,rfl⟩ (.cons ru .nil),⟨_,Heap.get?_push_size _ rfl,rfl,⟨_,rfl⟩,rfl⟩⟩
    have hf6:∀ b∈[e,it],FpOk X pins (upd H s.heap.objs.size (.tup [.int (k:Int),x])) b:=fun b hb=>by
      refine ⟨?_,(hf b hb).2⟩
      have nb:b≠s.heap.objs.size:=by
        simp only [List.mem_cons,List.not_mem_nil,or_false] at hb
        rcases hb with rfl | rfl
        · exact fr he
        · exact fr ei
      rw [Qe nb]
      exact (hf b hb).1
    have up:∀ c o,c ∉ [e,it]→(s.heap.push { cls:=.type "tuple",data:=.seq #[.int k s.toks,u] }).get? c=some o→h'.get? c=some o:=fun c o hc q=>by
      rcases Heap.get?_push_cases q with ⟨rfl,rfl⟩ | q
      · exact ht
      · exact kp c o (fun y=>hc (by simp [y])) (fun y=>hc (by simp [y])) q
    have I8:Inv X pins σ (upd H s.heap.objs.size (.tup [.int (k:Int),x])) { s with heap:=h',toks:=s.toks + 1 } :=
      Inv.turnedL (s:={ s with heap:=s.heap.push { cls:=.type "tuple",data:=.seq #[.int k s.toks,u] },toks:=s.toks }) (t':=s.toks + 1) (ch:=[e,it]) I6 up hf6
    refine wpAny_letOwnedTupleGo_enum heo fun h2 he2 sb=>?_
    have I9:=Inv.turnedL (s:={ s with heap:=h',toks:=s.toks + 1 }) (g:=h2) (t':=s.toks + 1) (ch:=[e]) I8 (fun c o hc q=>sb.extBut c o (fun y=>hc (by simp [y])) q) (fun b hb=>hf6 b (by
      have z:b=e:=by simpa using hb
      simp [z]))
    exact ⟨.ref s.heap.objs.size,upd H s.heap.objs.size (.tup [.int (k:Int),x]),I9,rfl,⟨x,_,fun ys q=>by rw [← I.list_inj q1 q]; exact hx,fresh,rfl,rfl⟩,⟨⟨_,he2⟩,hit'.extBut sb.extBut hei.symm⟩,fun b hb=>(hf6 b hb).1⟩
  done:=by
    intro X hP hw hK hc k pins s σ H E I hf st hg
    subst hP hw hK
    obtain ⟨xs,q1,hx⟩:=hg
    obtain ⟨its,rv,p,_⟩:=I.list q1
    have hl:=rv.length
    obtain ⟨⟨old,he⟩,hit⟩:=st
    refine wpAny_pyNext_enum_end (I.ok.hd hc) he hit p.isList (by simp; omega) fun h' kp=>⟨rfl,?_⟩
    exact Inv.turnedL (t':=s.toks) (ch:=[it]) I (fun c o hc q=>kp c o (fun y=>hc (by simp [y])) q) (fun b hb=>hf b (by
      have z:b=it:=by simpa using hb
      simp [z]))
  self:=fun _ _ _ _ _ st h=>by
    obtain ⟨⟨old,he⟩,_⟩:=st
    exact wpAny_pyIter_enum he h
end Mi
end
noncomputable section
namespace Mi
open PySem PySem.Spec PyProof.Rows L2
def Its (cs:List Nat):It:=⟨fun i _=>i < cs.length,fun i H x H'=>H' = H∧∃ c,cs[i]? = some c∧x = .str ⟨#[c]⟩,fun i _=>cs.length≤i⟩
theorem ZfE {P:Program} {w:World} {K:PySem.W.Frag} {tg:Expr} {cs:List Nat} {it:Addr} {cl:String} {t:Tok}
    (hcl:["enumerate","zip","dict_itemiterator","dict_reverseitemiterator","odict_iterator","itertools.zip_longest","itertools.pairwise"].contains cl=false)
    (hself:∀ (A:Around) (i:Nat) (s:Shared) (Q:Value→Shared→Prop) (E:Value→Shared→Prop),s.heap.IsStrIter it cl ⟨cs.toArray⟩ t i→Q (.ref it) s→wpAny (model P w) A (pyIter (.ref it)) Q E s)
    (W:∀ A':Around,A'.handled=none→Walks P w A' it [it] [it] cs.length (SignAt ⟨cs.toArray⟩) (fun i h=>h.IsStrIter it cl ⟨cs.toArray⟩ t i)):Turn P w K tg (Its cs) [it] it (fun i h=>h.IsStrIter it cl ⟨cs.toArray⟩ t i∧i≤cs.length) where
  mem:=by simp
  obj:=fun i h st b hb=>by
    have e:b=it:=by simpa using hb
    subst e
    obtain ⟨⟨o,e,c,d⟩,_⟩:=st
    exact ⟨o,e,fun v z=>by rw [d] at z; cases z⟩
  keep:=fun i h h' st k=>⟨let ⟨⟨o,ho,r⟩,_⟩:=st; ⟨o,k it (by simp) o ho,r⟩,st.2⟩
  item:=by
    intro X hP hw hK hc i pins s σ H E I hf st hg
    subst hP hw hK
    obtain ⟨f0,f1,f2,f3,f4,f5⟩:=hf it (by simp)
    have hg':i < cs.length:=hg
    refine (W X.A (I.ok.hd hc)).item i s _ _ hg' st.1 fun v h' tk hv st' kk=>?_
    obtain ⟨c,u,hc',rfl⟩:=hv
    have I1:Inv X pins σ H { s with heap:=h',toks:=tk }:=I.turned (fun b o hb e=>kk b o (by simpa using hb) e) f0 f1 f3 f4 f5
    obtain ⟨o,e,cc,d⟩:=id st'
    refine ⟨_,rfl,ZkX (s:={ s with heap:=h',toks:=tk }) e cc d hcl ⟨.str ⟨#[c]⟩,H,I1,⟨u,rfl⟩,⟨rfl,c,by simpa using hc',rfl⟩,⟨st',by omega⟩,fun b hb=>(hf b hb).1⟩⟩
  done:=by
    intro X hP hw hK hc i pins s σ H E I hf st hg
    subst hP hw hK
    obtain ⟨f0,f1,f2,f3,f4,f5⟩:=hf it (by simp)
    have hg':cs.length≤i:=hg
    have e:i=cs.length:=by have:=st.2; omega
    subst e
    exact (W X.A (I.ok.hd hc)).done s _ _ st.1 fun h' tk kk=>⟨rfl,I.turned (fun b o hb e=>kk b o (by simpa using hb) e) f0 f1 f3 f4 f5⟩
  self:=fun A i s Q E st h=>hself A i s Q E st.1 h
section
variable {K:PySem.W.Frag} {cm cm':List Addr} {m m':Mem} {H H':Hp} {xr:XR} {X:Cx}
variable (K) in
inductive Src (cm:List Addr) (m:Mem) (H:Hp):It→List T→Prop where
  | tup {a:Addr} {vs:List V} {ts:List T}:SqT K H a vs→RTs K cm m H ts vs→Src cm m H (Itt K a) ts
  | lst {a:Addr} {vs:List V} {ts:List T}:H a=some (.lst vs)→ZR cm m a→RTs K cm m H ts vs→Src cm m H (Itl K a) ts
  | cel {a:Addr} {i:Nat} {ts:List T}:m[i]? = some (some (true,ts))→cm[i]? = some a→Src cm m H (Itl K a) ts
  | scr {a:Addr} (ns:List Int):ZeR K H a ns→Src cm m H (Itl K a) (ns.map .int)
  | str (cs:List Nat):Src cm m H (Its cs) (cs.map fun c=>.str [c])
  | rng (lo:Int) (n:Nat):Src cm m H (Itr lo n) (rangeT lo n)
  | zip {a b:Addr} {xs ys:List V} {ts us:List T}:SqT K H a xs→SqT K H b ys→RTs K cm m H ts xs→RTs K cm m H us ys→ts.length=us.length→Src cm m H (Itz K a b) (zipL ts us)
  | zip4 {l:Nat→Nat} {vs:Nat→List V} {ts:Nat→List T}:(∀ j:Nat,j < 4→H (l j)=some (.lst (vs j))∧ZR cm m (l j)∧RTs K cm m H (ts j) (vs j))→(∀ j:Nat,j < 4→(ts 0).length=(ts j).length)→Src cm m H (Itz4 K l) (Zho (ts 0) (ts 1) (ts 2) (ts 3))
  | enm {a:Addr} {vs:List V} {ts:List T}:H a=some (.lst vs)→ZR cm m a→RTs K cm m H ts vs→Src cm m H (Ite K a) (Zfo ts)
theorem Src.ext (x:Ext cm m H cm' m' H') (M:MemR K cm m H) (M':MemR K cm' m' H') {J:It} {ts:List T} (h:Src K cm m H J ts):Src K cm' m' H' J ts:=by
  cases h with
  | tup h1 h2=>exact .tup (x.sqT M h1) (RTs.ext x M M' h2)
  | lst h1 h2 h3=>exact .lst (x.keep _ _ h1 h2).1 (x.keep _ _ h1 h2).2 (RTs.ext x M M' h3)
  | cel h1 h2=>exact .cel (x.lent _ _ h1) (x.pre _ _ h2)
  | scr ns h=>exact .scr ns (x.scr M h)
  | str cs=>exact .str cs
  | rng lo n=>exact .rng lo n
  | zip h1 h2 h3 h4 h5=>exact .zip (x.sqT M h1) (x.sqT M h2) (RTs.ext x M M' h3) (RTs.ext x M M' h4) h5
  | zip4 h1 h2=>exact .zip4 (fun j hj=>let ⟨a,b,c⟩:=h1 j hj; ⟨(x.keep _ _ a b).1,(x.keep _ _ a b).2,RTs.ext x M M' c⟩) h2
  | enm h1 h2 h3=>exact .enm (x.keep _ _ h1 h2).1 (x.keep _ _ h1 h2).2 (RTs.ext x M M' h3)
theorem stay (M:MemR K cm m H) (z:H' = H) {t:T} {x:V} (r:RT K cm m H t x):Ext cm m H cm m H'∧MemR K cm m H'∧RT K cm m H' t x:=by
  subst z
  exact ⟨.refl,M,r⟩
theorem Zjv {xs ys:List T} {i:Nat} {t:T} (e:(zipL xs ys)[i]? = some t):∃ x y,xs[i]? = some x∧ys[i]? = some y∧t = .tup [x,y]:=by
  unfold zipL at e
  rw [List.getElem?_zipWith] at e
  split at e
  · rename_i x y h1 h2
    cases e
    exact ⟨x,y,h1,h2,rfl⟩
  · cases e
theorem Zhn {a b c d:List T} {i:Nat} {t:T} (e:(Zho a b c d)[i]? = some t):∃ x y z w,a[i]? = some x∧b[i]? = some y∧c[i]? = some z∧d[i]? = some w∧t = .tup [x,y,z,w]:=by
  unfold Zho at e
  rw [List.getElem?_map] at e
  obtain ⟨p,h1,h2⟩:=Option.map_eq_some_iff.mp e
  obtain ⟨q1,q2⟩:=List.getElem?_zip_eq_some.mp h1
  obtain ⟨q3,q4⟩:=List.getElem?_zip_eq_some.mp q2
  obtain ⟨q5,q6⟩:=List.getElem?_zip_eq_some.mp q4
  exact ⟨_,_,_,_,q1,q3,q5,q6,h2.symm⟩
theorem ZiQ {xs:List T} {i:Nat} {t:T} (e:(Zfo xs)[i]? = some t):∃ x,xs[i]? = some x∧t = .tup [.int (i:Int),x]:=by
  unfold Zfo at e
  rw [List.getElem?_zipWith] at e
  split at e
  · rename_i k y h1 h2
    cases e
    have hi:=(List.getElem?_eq_some_iff.mp h1).1
    rw [List.length_range] at hi
    rw [List.getElem?_range hi] at h1
    cases h1
    exact ⟨y,h2,rfl⟩
  · cases e
theorem Zeu (xs:List T):(Zfo xs).length=xs.length:=by
  unfold Zfo
  rw [List.length_zipWith,List.length_range,Nat.min_self]
theorem Src.go (M:MemR K cm m H) {J:It} {ts:List T} (h:Src K cm m H J ts) {i:Nat} {t:T} (e:ts[i]? = some t):J.go i H∧∀ x H',J.yld i H x H'→Ext cm m H cm m H'∧MemR K cm m H'∧RT K cm m H' t x:=by
  cases h with
  | tup h1 h2 =>
    obtain ⟨v,e1,e2⟩:=Z9 h2 e
    refine ⟨⟨_,v,h1,e1⟩,fun x H' ⟨z,q⟩=>stay M z ?_⟩
    have:=q _ h1
    rw [e1] at this; cases this
    exact e2
  | lst h1 h2 h3 =>
    obtain ⟨v,e1,e2⟩:=Z9 h3 e
    refine ⟨⟨_,v,.of h1,e1⟩,fun x H' ⟨z,q⟩=>stay M z ?_⟩
    have:=q _ (.of h1)
    rw [e1] at this; cases this
    exact e2
  | cel h1 h2 =>
    obtain ⟨b,vs,q1,q2,q3,q4⟩:=M.at' _ _ h1
    rw [h2] at q1; cases q1
    obtain ⟨v,e1,e2⟩:=Z9 q4 e
    refine ⟨⟨_,v,.of q2,e1⟩,fun x H' ⟨z,q⟩=>stay M z ?_⟩
    have:=q _ (.of q2)
    rw [e1] at this; cases this
    exact e2
  | scr ns h =>
    obtain ⟨v,e1,e2⟩:=Z9 (Za3 (K:=K) (cm:=cm) (m:=m) (H:=H) ns) e
    refine ⟨⟨_,v,h.sq,e1⟩,fun x H' ⟨z,q⟩=>stay M z ?_⟩
    have:=q _ h.sq
    rw [e1] at this; cases this
    exact e2
  | str cs =>
    rw [List.getElem?_map] at e
    cases q:cs[i]? with
    | none=>rw [q] at e; cases e
    | some c =>
      rw [q] at e; cases e
      refine ⟨(List.getElem?_eq_some_iff.mp q).1,fun x H' ⟨z,c',q',e'⟩=>stay M z ?_⟩
      rw [q] at q'; cases q'
      subst e'
      exact .str [c]
  | rng lo n =>
    unfold rangeT at e
    rw [List.getElem?_map] at e
    cases q:(List.range n)[i]? with
    | none=>rw [q] at e; cases e
    | some k =>
      rw [q] at e; cases e
      have hi:=(List.getElem?_eq_some_iff.mp q).1
      rw [List.length_range] at hi
      rw [List.getElem?_range hi] at q
      cases q
      exact ⟨hi,fun x H' ⟨z,e'⟩=>stay M z (by subst e'; exact .int _)⟩
  | zip h1 h2 h3 h4 h5 =>
    obtain ⟨x,y,hx,hy,rfl⟩:=Zjv e
    obtain ⟨u,e1,r1⟩:=Z9 h3 hx
    obtain ⟨v,e2,r2⟩:=Z9 h4 hy
    refine ⟨⟨_,_,u,v,h1,h2,e1,e2⟩,?_⟩
    rintro x' H' ⟨u',v',c,q1,q2,hc,rfl,rfl⟩
    have z1:=q1 _ h1
    rw [e1] at z1; cases z1
    have z2:=q2 _ h2
    rw [e2] at z2; cases z2
    exact ⟨.new hc,M.new hc,RT.newTup (.cons r1 (.cons r2 .nil)) hc⟩
  | @zip4 l vs ts h1 h2 =>
    obtain ⟨x0,x1,x2,x3,e0,e1,e2,e3,rfl⟩:=Zhn e
    obtain ⟨q0,_,p0⟩:=h1 0 (by decide)
    obtain ⟨q1,_,p1⟩:=h1 1 (by decide)
    obtain ⟨q2,_,p2⟩:=h1 2 (by decide)
    obtain ⟨q3,_,p3⟩:=h1 3 (by decide)
    obtain ⟨u0,f0,r0⟩:=Z9 p0 e0
    obtain ⟨u1,f1,r1⟩:=Z9 p1 e1
    obtain ⟨u2,f2,r2⟩:=Z9 p2 e2
    obtain ⟨u3,f3,r3⟩:=Z9 p3 e3
    refine ⟨⟨vs,pick4 u0 u1 u2 u3,all4 ⟨.of q0,f0⟩ ⟨.of q1,f1⟩ ⟨.of q2,f2⟩ ⟨.of q3,f3⟩⟩,?_⟩
    rintro x' H' ⟨x,c,q,hc,rfl,rfl⟩
    have z0:=q 0 (by decide) _ (.of q0)
    rw [f0] at z0
    have z1:=q 1 (by decide) _ (.of q1)
    rw [f1] at z1
    have z2:=q 2 (by decide) _ (.of q2)
    rw [f2] at z2
    have z3:=q 3 (by decide) _ (.of q3)
    rw [f3] at z3
    rw [← Option.some.inj z0,← Option.some.inj z1,← Option.some.inj z2,← Option.some.inj z3]
    exact ⟨.new hc,M.new hc,RT.newTup (.cons r0 (.cons r1 (.cons r2 (.cons r3 .nil)))) hc⟩
  | enm h1 h2 h3 =>
    obtain ⟨x,hx,rfl⟩:=ZiQ e
    obtain ⟨u,e1,r1⟩:=Z9 h3 hx
    refine ⟨⟨_,u,.of h1,e1⟩,?_⟩
    rintro x' H' ⟨u',c,q1,hc,rfl,rfl⟩
    have z1:=q1 _ (.of h1)
    rw [e1] at z1; cases z1
    exact ⟨.new hc,M.new hc,RT.newTup (.cons (.int _) (.cons r1 .nil)) hc⟩
theorem Src.stop (M:MemR K cm m H) {J:It} {ts:List T} (h:Src K cm m H J ts) {i:Nat} (e:ts[i]? = none):J.stop i H:=by
  have l:=List.getElem?_eq_none_iff.mp e
  cases h with
  | tup h1 h2=>exact ⟨_,h1,by rw [← h2.length]; exact l⟩
  | lst h1 h2 h3=>exact ⟨_,.of h1,by rw [← h3.length]; exact l⟩
  | cel h1 h2 =>
    obtain ⟨b,vs,q1,q2,q3,q4⟩:=M.at' _ _ h1
    rw [h2] at q1; cases q1
    exact ⟨_,.of q2,by rw [← q4.length]; exact l⟩
  | scr ns h=>exact ⟨_,h.sq,by rw [List.length_map] at l ⊢; exact l⟩
  | str cs=>rw [List.length_map] at l; exact l
  | rng lo n =>
    unfold rangeT at l
    rw [List.length_map,List.length_range] at l
    exact l
  | zip h1 h2 h3 h4 h5 =>
    refine ⟨_,h1,?_⟩
    unfold zipL at l
    rw [List.length_zipWith] at l
    rw [← h3.length]
    omega
  | @zip4 l vs ts h1 h2 =>
    obtain ⟨q0,_,p0⟩:=h1 0 (by decide)
    refine ⟨_,.of q0,?_⟩
    have l1:=h2 1 (by decide)
    have l2:=h2 2 (by decide)
    have l3:=h2 3 (by decide)
    unfold Zho at l
    rw [List.length_map,List.length_zip,List.length_zip,List.length_zip] at l
    rw [← p0.length]
    omega
  | enm h1 h2 h3 =>
    refine ⟨_,.of h1,?_⟩
    rw [Zeu] at l
    rw [← h3.length]
    exact l
variable (K) in
def tI (call:Nat→List W→Mem→Res W) (gv:List T) (xr:XR) (it:E):TI:=fun σ H R=>∃ env cm m,EnvR K cm m H env σ∧MemR K cm m H ∧
  OkR K (ev call gv it env m) xr cm m H fun x cm1 m1 H1=>∃ ts m2,QL x m1 = .ok ts m2∧∀ J,Src K cm1 m2 H1 J ts→R J H1
theorem PI.mono {tg iter:Expr} {t t':TI} (h:PI X tg iter t) (f:∀ σ H R,t' σ H R→t σ H R):PI X tg iter t':=fun pins s σ H R I q=>h pins s σ H R I (f σ H R q)
theorem pi_of {tg iter:Expr} {call:Nat→List W→Mem→Res W} {gv:List T} {it:E} (h:PE X iter (tE X.K call gv xr it)):PI X tg iter (tI X.K call gv xr it):=by
  rintro pins s σ H R I ⟨env,cm,m,hE,hM,ho⟩
  refine thn (h pins s σ H (fun v H1=>∃ cm1 m1 w,MemR X.K cm1 m1 H1∧RW X.K cm1 m1 H1 w v∧∃ ts m2,QL w m1 = .ok ts m2∧∀ J,Src X.K cm1 m2 H1 J ts→R J H1) I
    ⟨env,cm,m,hE,hM,ho.mono fun w cm1 m1 H1 x1 M1 o1 v rv=>⟨cm1,m1,w,M1,rv,o1⟩⟩) fun v s1 ⟨x,H1,I1,r1,cm1,m1,w,M1,rw1,ts0,m2,eb,o1⟩=>?_
  -- an iterator over a list that stands at a
  have onList:∀ (a:Addr) (vs:List V),x = .ref a→SqL X.K H1 a vs→R (Itl X.K a) H1→wpAny (model X.prog X.w) X.A (pyIter v) (PIE X pins σ tg R) X.xe s1:=fun a vs e hq q=>by
    subst e
    cases r1
    obtain ⟨its,rv,p,hz⟩:=I1.list hq
    refine wpAny_pyIter_list p.isList ?_
    refine ⟨s1.heap.objs.size,[s1.heap.objs.size],_,_,H1,rfl,I1.kept (t':=s1.toks) fun b o e=>Heap.get?_push_of_some _ e,Zhx a _,⟨_,Heap.get?_push_size _ rfl,rfl,rfl⟩,fun b hb=>?_,q⟩
    have e:b=s1.heap.objs.size:=by simpa using hb
    subst e
    exact I1.fpOk (Nat.le_refl _) (I1.hok.fresh (Nat.le_refl _))
  cases w with
  | f a=>cases eb
  | c i =>
    unfold QL at eb
    dsimp only at eb
    split at eb
    · rename_i fl ts e
      cases eb
      obtain ⟨a,vs,q1,q2,_⟩:=M1.at' i _ e
      obtain ⟨b,h1,h2⟩:=rw1
      rw [q1] at h1; cases h1
      exact onList a vs h2 (.of q2) (o1 _ (.cel (List.getElem?_set_self (List.getElem?_eq_some_iff.mp e).1) q1))
    · cases eb
  | t t =>
    unfold QL at eb
    dsimp only at eb
    cases t with
    | tup ts =>
      cases eb
      obtain ⟨a,vs,e,h1,h2⟩:=RT.itup rw1
      subst e
      cases r1
      obtain ⟨its,rv,p,hz⟩:=I1.tuple h1
      refine wpAny_pyIter_tuple (show s1.heap.IsTuple a its.toArray from p) ?_
      refine ⟨s1.heap.objs.size,[s1.heap.objs.size],_,_,H1,rfl,I1.kept (t':=s1.toks) fun b o e=>Heap.get?_push_of_some _ e,Zgh a _,⟨_,Heap.get?_push_size _ rfl,rfl,rfl⟩,fun b hb=>?_,o1 _ (.tup h1 h2)⟩
      have e:b=s1.heap.objs.size:=by simpa using hb
      subst e
      exact I1.fpOk (Nat.le_refl _) (I1.hok.fresh (Nat.le_refl _))
    | lst ts =>
      cases eb
      obtain ⟨a,vs,e,h1,h2,h3⟩:=RT.ilst rw1
      exact onList a vs e (.of h1) (o1 _ (.lst h1 h2 h3))
    | scr ns =>
      cases eb
      obtain ⟨a,e,h1⟩:=RT.vscr rw1
      exact onList a _ e h1.sq (o1 _ (.scr ns h1))
    | str cs =>
      unfold ZlJ at eb
      dsimp only at eb
      split at eb
      · rename_i ts e
        split at e <;> cases e
        cases eb
        cases RT.vstr rw1
        obtain ⟨t,rfl⟩:=r1
        have q:=o1 _ (.str cs)
        have I2:∀ o:Obj,Inv X pins σ H1 { s1 with heap:=s1.heap.push o }:=fun o=>I1.kept (t':=s1.toks) fun b o e=>Heap.get?_push_of_some _ e
        have fpk:∀ b∈[s1.heap.objs.size],FpOk X pins H1 b:=fun b hb=>by
          have e:b=s1.heap.objs.size:=by simpa using hb
          subst e
          exact I1.fpOk (Nat.le_refl _) (I1.hok.fresh (Nat.le_refl _))
        cases ha:(⟨cs.toArray⟩:Str).cps.all (· < 128)
        · refine wpAny_pyIter_wide ha ?_
          exact ⟨s1.heap.objs.size,[s1.heap.objs.size],_,_,H1,rfl,I2 _,ZfE (cl:="str_iterator") (t:=t) (by decide) (fun A i s Q E st h=>wpAny_pyIter_striter_wide st h) (fun A' hA=>by simpa using Walks.strWide hA _ ⟨cs.toArray⟩ t),⟨⟨_,Heap.get?_push_size _ rfl,rfl,rfl⟩,Nat.zero_le _⟩,fpk,q⟩
        · refine wpAny_pyIter_ascii ha ?_
          exact ⟨s1.heap.objs.size,[s1.heap.objs.size],_,_,H1,rfl,I2 _,ZfE (cl:="str_ascii_iterator") (t:=t) (by decide) (fun A i s Q E st h=>wpAny_pyIter_striter_ascii st h) (fun A' hA=>by simpa using Walks.strAscii hA _ ⟨cs.toArray⟩ t),⟨⟨_,Heap.get?_push_size _ rfl,rfl,rfl⟩,Nat.zero_le _⟩,fpk,q⟩
      · cases eb
    | _=>cases eb
end
end Mi
end
noncomputable section
namespace Mi
open PySem PySem.Spec PyProof.Rows L2
theorem Zdx {elt:Expr} {gens:List Comprehension} {scope:Scope} {pos:Pos} {d:Nat} {target iter:Expr} {ifs:List Expr} {it acc:Value} {env:PySem.Env} (hg:gens[d]? = some ⟨target,iter,ifs,0⟩) (hn:gens[d + 1]? = none) :
    compTurn (.ListComp elt gens scope pos) d it acc env=(do
      standAt iter.pos
      match ← pyNext it with
      | none=>pure (.done .next)
      | some v =>
        letOwnedTupleGo target it v
        assign target env v
        let mut ok:=true
        for c in ifs do
          if ok then ok ← isTrue c env (eval c env)
        if ok then
          (do let _ ← call (.builtin "list.append") [acc,← eval elt env])
        again (.compLoop (.ListComp elt gens scope pos) d it acc env)):=by
  unfold compTurn
  simp only [hg,hn]
  rfl
theorem Zdw {elt:Expr} {gens:List Comprehension} {scope:Scope} {pos:Pos} {d:Nat} {target iter:Expr} {ifs:List Expr} {it acc:Value} {env:PySem.Env} {target' iter':Expr} {ifs':List Expr} (hg:gens[d]? = some ⟨target,iter,ifs,0⟩) (hn:gens[d + 1]? = some ⟨target',iter',ifs',0⟩) :
    compTurn (.ListComp elt gens scope pos) d it acc env=(do
      standAt iter.pos
      match ← pyNext it with
      | none=>pure (.done .next)
      | some v =>
        letOwnedTupleGo target it v
        assign target env v
        let mut ok:=true
        for c in ifs do
          if ok then ok ← isTrue c env (eval c env)
        if ok then
          let x ← eval iter' env
          standAt iter'.pos
          let x ← foldedSetIterable iter' env x
          let _ ← runOwn (.compStart (.ListComp elt gens scope pos) (d + 1) (← holding [x] (pyIter x)) acc env) env
        again (.compLoop (.ListComp elt gens scope pos) d it acc env)):=by
  unfold compTurn
  simp only [hg,hn]
  rfl
section
variable {K:PySem.W.Frag} {cm cm':List Addr} {m m':Mem} {H H':Hp} {xr:XR} {Y:Cx}
def AccAt (h:Heap) (D:Addr) (vs:List V):Prop:=vs.length≤sizeLine∧∃ (its:List Value) (n:Nat),Vals vs its∧h.get? D=some { cls:=.type "list",data:=.seq its.toArray n }
structure DOk (Y:Cx) (pins:List (Addr×Obj)) (H:Hp) (D:Addr):Prop where
  free:H D=none
  loc:D≠Y.env.locals
  nofs:D ∉ Y.fs
  own:D∈Y.ex∨Y.s₀.heap.objs.size≤D
  cell:∀ x c,Y.env.cells.lookup x=some c→c≠D
  pin:∀ p∈Y.pn++pins,p.1≠D
theorem ZlC {e:Expr} {call:Nat→List W→Mem→Res W} {gv:List T} {a:E} (h:PE Y e (tE Y.K call gv xr a)) {pins:List (Addr×Obj)} {s:Shared} {σ:L2.St} {env:Env} {w:W} (I:Inv Y pins σ H s) (hE:EnvR Y.K cm m H env σ) (M:MemR Y.K cm m H)
    (ok:ev call gv a env m = .ok w m'):wpAny (model Y.prog Y.w) Y.A (eval e Y.env) (EP Y pins σ fun v H'=>∃ cm',Ext cm m H cm' m' H'∧MemR Y.K cm' m' H'∧RW Y.K cm' m' H' w v) Y.xe s:=by
  refine h pins s σ H _ I ⟨env,cm,m,hE,M,?_⟩
  rw [ok]
  exact fun cm' H' x M' v r=>⟨cm',x,M',r⟩
theorem pt_run {e:Expr} {call:Nat→List W→Mem→Res W} {gv:List T} {a:E} (h:PT Y e (tT Y.K call gv xr a)) {pins:List (Addr×Obj)} {s:Shared} {σ:L2.St} {env:Env} {k:Bool} (I:Inv Y pins σ H s) (hE:EnvR Y.K cm m H env σ) (M:MemR Y.K cm m H)
    (ok:(ev call gv a env m).bind JW = .ok k m'):wpAny (model Y.prog Y.w) Y.A (isTrue e Y.env (eval e Y.env)) (TP Y pins σ fun b H'=>b=k∧∃ cm',Ext cm m H cm' m' H'∧MemR Y.K cm' m' H') Y.xe s:=by
  refine h pins s σ H _ I ⟨env,cm,m,hE,M,?_⟩
  rw [ok]
  exact fun cm' H' x M'=>⟨rfl,cm',x,M'⟩
def PTs (Y:Cx) (call:Nat→List W→Mem→Res W) (gv:List T) (xr:XR):Es→List Expr→Prop
  | .nil,[]=>True
  | .cons a es,e :: r=>PT Y e (tT Y.K call gv xr a)∧PTs Y call gv xr es r
  | _,_=>False
theorem ZbS {env:PySem.Env} {M:Model} {A:Around} {E:Value→Shared→Prop} {s:Shared} {Q:Bool→Shared→Prop} (h:Q false s):∀ ifs:List Expr,
    wpAny M A (forIn ifs false fun c r=>if r=true then do let ok ← isTrue c env (eval c env); pure (ForInStep.yield ok) else pure (ForInStep.yield r)) Q E s
  | []=>wpAny_pure h
  | _ :: r=>by
    simp only [List.forIn_cons,Bool.false_eq_true,if_false]
    exact wpAny_bind (wpAny_pure (ZbS h r))
theorem ZdN {call:Nat→List W→Mem→Res W} {gv:List T} {pins:List (Addr×Obj)} {σ:L2.St} {env:Env}:∀ {cs:Es} {ifs:List Expr} {cm:List Addr} {m m':Mem} {H:Hp} {s:Shared} {k:Bool},PTs Y call gv xr cs ifs→Inv Y pins σ H s→EnvR Y.K cm m H env σ→MemR Y.K cm m H →
    tests call gv cs env m = .ok k m' →
    wpAny (model Y.prog Y.w) Y.A (forIn ifs true fun c r=>if r=true then do let ok ← isTrue c Y.env (eval c Y.env); pure (ForInStep.yield ok) else pure (ForInStep.yield r))
      (fun b s'=>b=k∧∃ H' cm',Inv Y pins σ H' s'∧Ext cm m H cm' m' H'∧MemR Y.K cm' m' H') Y.xe s
  | .nil,[],cm,m,m',H,s,k,_,I,hE,M,ok=>by
    unfold tests at ok
    cases ok
    exact wpAny_pure ⟨rfl,H,cm,I,.refl,M⟩
  | .cons a es,e :: r,cm,m,m',H,s,k,hp,I,hE,M,ok=>by
    unfold tests at ok
    obtain ⟨h1,h2⟩:=hp
    simp only [List.forIn_cons,if_true]
    cases e1:ev call gv a env m with
    | ok w m1 =>
      rw [e1] at ok
      change (JW w m1).bind _=_ at ok
      cases e2:JW w m1 with
      | ok b m2 =>
        rw [e2] at ok
        change (if b=true then _ else _)=_ at ok
        refine wpAny_bind (wpAny_bind (thn (pt_run h1 I hE M (m':=m2) (k:=b) (by rw [e1]; exact e2)) fun c s1 ⟨H1,I1,hb,cm1,x1,M1⟩=>wpAny_pure ?_))
        subst hb
        cases c with
        | true =>
          rw [if_pos rfl] at ok
          exact thn (ZdN h2 I1 (hE.ext x1 M M1) M1 ok) fun b' s2 ⟨hb',H2,cm2,I2,x2,M2⟩=>⟨hb',H2,cm2,I2,x1.trans x2,M2⟩
        | false =>
          rw [if_neg Bool.false_ne_true] at ok
          cases ok
          exact ZbS (Q:=fun b s'=>b=false∧∃ H' cm',Inv Y pins σ H' s'∧Ext cm m H cm' m' H'∧MemR Y.K cm' m' H') ⟨rfl,H1,cm1,I1,x1,M1⟩ r
      | exc _ _=>rw [e2] at ok; cases ok
      | stuck=>rw [e2] at ok; cases ok
    | exc _ _=>rw [e1] at ok; cases ok
    | stuck=>rw [e1] at ok; cases ok
  | .nil,_ :: _,_,_,_,_,_,_,hp,_,_,_,_=>hp.elim
  | .cons _ _,[],_,_,_,_,_,_,hp,_,_,_,_=>hp.elim
def tgS:Tg→List Nat
  | .nm i=>[i]
  | .tp is=>is
def Agree (S:List Nat) (σ σ':L2.St):Prop:=∀ i,i ∉ S→σ'[i]? = σ[i]?
def setAll:List Nat→List V→L2.St→L2.St
  | i :: is,v :: vs,σ=>setAll is vs (σ.set i (some v))
  | _,_,σ=>σ
variable (K) in
def gT:Tg→TG
  | .nm i=>Znf i
  | .tp is=>fun v σ H Q=>∃ a xs,v = .ref a∧SqT K H a xs∧xs.length=is.length∧Q (setAll is xs σ) H
theorem Zbr:∀ (is:List Nat) (vs:List V) (σ:L2.St),Agree is σ (setAll is vs σ)
  | [],_,_=>fun _ _=>by unfold setAll; rfl
  | _ :: _,[],_=>fun _ _=>by unfold setAll; rfl
  | i :: is,v :: vs,σ=>fun j hj=>by
    unfold setAll
    rw [List.mem_cons] at hj
    rw [Zbr is vs _ j fun z=>hj (.inr z),List.getElem?_set_ne fun z=>hj (.inl z.symm)]
theorem EnvR.set {env:Env} {σ:L2.St} (h:EnvR K cm m H env σ) {w:W} {v:V} (r:RW K cm m H w v) (i:Nat) (hi:i < σ.length):EnvR K cm m H (env.set i (some w)) (σ.set i (some v)):=fun j u e=>by
  by_cases hj:j=i
  · subst hj
    have hl:j < env.length:=by
      have:=(List.getElem?_eq_some_iff.mp e).1
      rwa [List.length_set] at this
    rw [List.getElem?_set_self hl] at e
    cases e
    exact ⟨v,List.getElem?_set_self hi,r⟩
  · rw [List.getElem?_set_ne (Ne.symm hj)] at e
    obtain ⟨v',h1,h2⟩:=h j u e
    exact ⟨v',by rw [List.getElem?_set_ne (Ne.symm hj)]; exact h1,h2⟩
theorem EnvR.setAll:∀ {is:List Nat} {ts:List T} {vs:List V} {env:Env} {σ:L2.St},EnvR K cm m H env σ→RTs K cm m H ts vs→(∀ i∈is,i < σ.length) →
    EnvR K cm m H ((is.zip ts).foldl (fun env p=>env.set p.1 (some (.t p.2))) env) (Mi.setAll is vs σ)
  | [],_,_,_,_,h,_,_=>by unfold Mi.setAll; exact h
  | _ :: _,[],_,_,_,h,.nil,_=>by unfold Mi.setAll; exact h
  | i :: is,t :: ts,v :: vs,env,σ,h,.cons r rs,hi=>by
    unfold Mi.setAll
    rw [List.zip_cons_cons,List.foldl_cons]
    refine EnvR.setAll (h.set (w:=.t t) r i (hi i List.mem_cons_self)) rs fun j hj=>?_
    rw [List.length_set]
    exact hi j (List.mem_cons_of_mem _ hj)
theorem Zne {tg:Tg} {t:T} {v:V} {env env':Env} {σ:L2.St} (hE:EnvR K cm m H env σ) (hi:∀ i∈tgS tg,i < σ.length) (r:RT K cm m H t v) (e:Jr tg t env=some env') {Q:L2.St→Hp→Prop}
    (q:∀ σ',EnvR K cm m H env' σ'→Agree (tgS tg) σ σ'→Q σ' H):gT K tg v σ H Q:=by
  cases tg with
  | nm i =>
    cases e
    refine q _ (hE.set (w:=.t t) r i (hi i (by simp [tgS]))) fun j hj=>?_
    rw [List.getElem?_set_ne]
    intro z
    exact hj (by simp [tgS,z])
  | tp is =>
    unfold Jr at e
    dsimp only at e
    split at e
    · split at e <;> cases e
      rename_i ts hl
      obtain ⟨a,vs,rfl,h1,h2⟩:=RT.itup r
      exact ⟨a,vs,rfl,h1,by rw [← h2.length]; exact hl,q _ (EnvR.setAll hE h2 hi) (Zbr is vs σ)⟩
    · cases e
end
end Mi
end
noncomputable section
namespace Mi
open PySem PySem.Spec PyProof.Rows L2
def innS:E→List Nat
  | .more _ tg _ inner=>tgS tg++innS inner
  | _=>[]
section
variable {xr:XR} {Y:Cx} {call:Nat→List W→Mem→Res W} {gv:List T}
variable (Y call gv xr) in
def Ins (elt:Expr) (gens:List Comprehension):Nat→E→Prop
  | d,.emit a=>gens[d + 1]? = none∧PE Y elt (tE Y.K call gv xr a)
  | d,.more it tg cs inner=>(∃ target iter ifs,gens[d + 1]? = some ⟨target,iter,ifs,0⟩∧PI Y target iter (tI Y.K call gv xr it)∧(∀ x,foldedSetIterable iter Y.env x=pure x)∧PG Y target (gT Y.K tg)∧PTs Y call gv xr cs ifs) ∧
      (∀ i∈tgS tg,i ∉ innS inner)∧(∀ i∈tgS tg++innS inner,i < Y.N.length)∧Ins elt gens (d + 1) inner
  | _,_=>False
theorem ZgX {α:Type} {M:Model} {A:Around} {t:Sem α} {Q:α→Shared→Prop} {E:Value→Shared→Prop} {s:Shared} (hxe:∀ e s,¬ Y.xe e s) (h:wpAny M A t Q Y.xe s):wpAny M A t Q E s:=wpAny_mono h (fun _ _ q=>q) fun _ _ z=>(hxe _ _ z).elim
abbrev turnF (call:Nat→List W→Mem→Res W) (gv:List T) (cs:Es) (inner:E):Env→Mem→Res (List T):=fun env m=>(tests call gv cs env m).bind fun k m=>if k then (ev call gv inner env m).bind ZeO else .ok [] m
def Zju (Y:Cx) (Acc:Heap→List V→Prop) (D:Addr) (S:List Nat) (pins:List (Addr×Obj)) (σ:L2.St) (cm:List Addr) (m:Mem) (H:Hp) (vs:List V) (out:List T) (m':Mem) (s':Shared):Prop :=
  ∃ σ' H' cm' vs',Inv Y pins σ' H' s'∧Ext cm m H cm' m' H'∧MemR Y.K cm' m' H'∧RTs Y.K cm' m' H' out vs'∧Acc s'.heap (vs++vs')∧Agree S σ σ'∧H' D=none
abbrev CEnd (Y:Cx) (D:Addr):=Zju Y (fun h vs=>AccAt h D vs) D
theorem AccAt.keep {h h':Heap} {D:Addr} {vs:List V} (a:AccAt h D vs) (k:∀ o,h.get? D=some o→h'.get? D=some o):AccAt h' D vs:=by
  obtain ⟨z,its,n,r,e⟩:=a
  exact ⟨z,its,n,r,k _ e⟩
theorem EnvR.agree {K:PySem.W.Frag} {cm:List Addr} {m:Mem} {H:Hp} {env:Env} {σ σ':L2.St} {S:List Nat} (h:EnvR K cm m H env σ) (a:Agree S σ σ') (n:∀ i∈S,∀ w,env[i]?≠some (some w)):EnvR K cm m H env σ':=fun i w e=>by
  obtain ⟨v,h1,h2⟩:=h i w e
  refine ⟨v,?_,h2⟩
  rw [a i fun z=>n i z w e]
  exact h1
theorem Agree.trans {S:List Nat} {a b c:L2.St} (h:Agree S a b) (g:Agree S b c):Agree S a c:=fun i hi=>(g i hi).trans (h i hi)
theorem Agree.mono {S S':List Nat} {a b:L2.St} (h:Agree S a b) (g:∀ i∈S,i∈S'):Agree S' a b:=fun i hi=>h i fun z=>hi (g i z)
theorem Agree.refl {S:List Nat} {a:L2.St}:Agree S a a:=fun _ _=>rfl
theorem Zfx {tg:Tg} {t:T} {env env':Env} (e:Jr tg t env=some env') {i:Nat} (hi:i ∉ tgS tg):env'[i]? = env[i]?:=by
  cases tg with
  | nm j =>
    cases e
    rw [List.getElem?_set_ne]
    intro z; exact hi (by simp [tgS,z])
  | tp is =>
    unfold Jr at e
    dsimp only at e
    split at e
    · split at e <;> cases e
      rename_i ts hl
      have:∀ (is:List Nat) (ts:List T) (env:Env),i ∉ is→((is.zip ts).foldl (fun env p=>env.set p.1 (some (.t p.2))) env)[i]? = env[i]?:=by
        intro is
        induction is with
        | nil=>intro ts env _; rfl
        | cons j is ih =>
          intro ts env h
          cases ts with
          | nil=>rfl
          | cons t ts =>
            rw [List.mem_cons] at h
            rw [List.zip_cons_cons,List.foldl_cons,ih ts _ fun z=>h (.inr z),List.getElem?_set_ne fun z=>h (.inl z.symm)]
      exact this is ts env hi
    · cases e
theorem Zz {α β:Type} {r:Res α} {f:α→Mem→Res β} {y:β} {m':Mem} (h:r.bind f = .ok y m'):∃ x m,r = .ok x m∧f x m = .ok y m':=by
  cases r with
  | ok x m=>exact ⟨x,m,rfl,h⟩
  | exc _ _=>cases h
  | stuck=>cases h
theorem Zct {w:W} {m m':Mem} {ts:List T} (h:ZeO w m = .ok ts m'):w = .t (.lst ts)∧m' = m:=by
  unfold ZeO at h
  split at h <;> cases h
  exact ⟨rfl,rfl⟩
theorem Zf4 {K:PySem.W.Frag} {cm:List Addr} {m m':Mem} {H:Hp} {w:W} {v:V} {t:T} (M:MemR K cm m H) (r:RW K cm m H w v) (e:frz w m = .ok t m'):Ext cm m H cm m' H∧MemR K cm m' H∧RT K cm m' H t v:=by
  cases w with
  | t x=>cases e; exact ⟨.refl,M,r⟩
  | f a=>cases e
  | c i =>
    unfold frz at e
    dsimp only at e
    split at e
    · rename_i ts h
      cases e
      obtain ⟨a,vs,q1,q2,q3,q4,q5,q6,q7⟩:=Zi6 M h
      obtain ⟨b,h1,h2⟩:=r
      rw [q1] at h1; cases h1
      subst h2
      exact ⟨q4,q5,q7⟩
    · cases e
theorem ZiK {pins:List (Addr×Obj)} {H:Hp} {b:Addr} {fp:List Addr} {h:Heap} (f:FpOk Y pins H b) (n:b ∉ fp):FpOk Y (pins++Zae fp h) H b :=
  ⟨f.1,f.2.1,f.2.2.1,f.2.2.2.1,f.2.2.2.2.1,fun p hp z=>by
    rw [← List.append_assoc] at hp
    rcases List.mem_append.mp hp with hp | hp
    · exact f.2.2.2.2.2 p hp z
    · exact n (by rw [← z]; exact (Zeg hp).1)⟩
structure AccK (D:Addr) (Acc:Heap→List V→Prop):Prop where
  obj:∀ {h vs},Acc h vs→∃ o,h.get? D=some o∧∀ v,o.data≠.cell v
  keep:∀ {h h' vs},Acc h vs→(∀ o,h.get? D=some o→h'.get? D=some o)→Acc h' vs
theorem ZbQ (D:Addr):AccK D (fun h vs=>AccAt h D vs):=⟨fun ⟨_,_,_,_,e⟩=>⟨_,e,fun v z=>by cases z⟩,fun a k=>a.keep k⟩
theorem ZdJ {pins:List (Addr×Obj)} {s:Shared} {σ:L2.St} {H:Hp} {D:Addr} {Acc:Heap→List V→Prop} (hA:AccK D Acc) {vs:List V} (I:Inv Y pins σ H s) (f:FpOk Y pins H D) (a:Acc s.heap vs):Inv Y (pins++Zae [D] s.heap) σ H s:=by
  refine I.pinned (fun b hb=>?_) fun b hb=>?_
  · have e:b=D:=by simpa using hb
    rw [e]; exact f
  · have e:b=D:=by simpa using hb
    obtain ⟨o,q,n⟩:=hA.obj a
    rw [e]
    exact ⟨_,q,n⟩
theorem Zcw {pins:List (Addr×Obj)} {h:Heap} {s:Shared} {σ:L2.St} {H:Hp} {D:Addr} {Acc:Heap→List V→Prop} (hA:AccK D Acc) {vs:List V} (a:Acc h vs) (I:Inv Y pins σ H s) (hp:∀ o,h.get? D=some o→(D,o)∈pins):Acc s.heap vs∧H D=none:=by
  obtain ⟨o,q,_⟩:=hA.obj a
  obtain ⟨h1,h2,_⟩:=I.pin _ (List.mem_append_right _ (hp _ q))
  refine ⟨hA.keep a fun o' e=>?_,h2⟩
  rw [q] at e; cases e
  exact h1
theorem Zjr {pins:List (Addr×Obj)} {s:Shared} {σ:L2.St} {H:Hp} {D:Addr} {vs:List V} (I:Inv Y pins σ H s) (f:FpOk Y pins H D) (a:AccAt s.heap D vs):Inv Y (pins++Zae [D] s.heap) σ H s:=ZdJ (ZbQ D) I f a
theorem ZlU {pins:List (Addr×Obj)} {h:Heap} {s:Shared} {σ:L2.St} {H:Hp} {D:Addr} {vs:List V} (a:AccAt h D vs) (I:Inv Y pins σ H s) (hp:∀ o,h.get? D=some o→(D,o)∈pins):AccAt s.heap D vs∧H D=none:=Zcw (ZbQ D) a I hp
abbrev ZjA (target iter:Expr) (ifs:List Expr) (env:PySem.Env) (it:Value) (c:Code) (br:Sem PySem.Fin):Sem PySem.Fin :=
  standAt iter.pos >>= fun _=>pyNext it >>= fun r=>match r with
    | none=>pure (.done .next)
    | some v=>letOwnedTupleGo target it v >>= fun _=>assign target env v >>= fun _ =>
      (forIn ifs true fun c r=>if r=true then do let ok ← isTrue c env (eval c env); pure (ForInStep.yield ok) else pure (ForInStep.yield r)) >>= fun ok=>if ok=true then br else again c
theorem Zdl (hc:Y.calm=true) (hxe:∀ e s,¬ Y.xe e s) {ce:Expr} {D:Addr} {Acc:Heap→List V→Prop} (hA:AccK D Acc) {L:Nat} {Pt:T→Prop} {inner:E} {d:Nat} {target iter:Expr} {ifs:List Expr} {tg:Tg} {cs:Es} {it:Addr} {br:Sem PySem.Fin}
    (hu:Y.A.under (.compLoop ce d (.ref it) (.ref D) Y.env)=Y.A) (hd:(model Y.prog Y.w).den (.compLoop ce d (.ref it) (.ref D) Y.env)=(compTurn ce d (.ref it) (.ref D) Y.env).onRaise (fun x=>do noteFrame x Y.env; theTreesLotGoes x))
    (code:compTurn ce d (.ref it) (.ref D) Y.env=ZjA target iter ifs Y.env (.ref it) (.compLoop ce d (.ref it) (.ref D) Y.env) br)
    (hg:PG Y target (gT Y.K tg)) (ht:PTs Y call gv xr cs ifs) (hdis:∀ i∈tgS tg,i ∉ innS inner) (hlt:∀ i∈tgS tg++innS inner,i < Y.N.length)
    (hbr:∀ {pins:List (Addr×Obj)} {s:Shared} {σ:L2.St} {H:Hp} {cm:List Addr} {m m':Mem} {env:Env} {out:List T} {vs:List V},Inv Y pins σ H s→FpOk Y pins H D→Acc s.heap vs→EnvR Y.K cm m H env σ→(∀ i∈innS inner,∀ w,env[i]?≠some (some w))→MemR Y.K cm m H →
      (ev call gv inner env m).bind ZeO = .ok out m'→vs.length + out.length≤L→(∀ t∈out,Pt t) →
      wpAny (model Y.prog Y.w) Y.A br (fun fin s'=>fin = .again (.compLoop ce d (.ref it) (.ref D) Y.env)∧Zju Y Acc D (innS inner) pins σ cm m H vs out m' s') Y.xe s)
    {pins:List (Addr×Obj)} {s:Shared} {σ:L2.St} {H:Hp} {cm:List Addr} {m m':Mem} {env:Env} {ts out:List T} {J:It} {fp:List Addr} {tn:Nat→Heap→Prop} {vs:List V} (I:Inv Y pins σ H s) (hD:FpOk Y pins H D) (ha:Acc s.heap vs)
    (hT:Turn Y.prog Y.w Y.K target J fp it tn) (h0:tn 0 s.heap) (hf:∀ b∈fp,FpOk Y pins H b) (hDf:D ∉ fp) (hE:EnvR Y.K cm m H env σ) (hn:∀ i∈tgS tg++innS inner,∀ w,env[i]?≠some (some w)) (M:MemR Y.K cm m H) (hs:Src Y.K cm m H J ts)
    (ok:JD (turnF call gv cs inner) tg ts env m = .ok out m') (hl:vs.length + out.length≤L) (hpt:∀ t∈out,Pt t) :
    codeAny (model Y.prog Y.w) Y.A (.compLoop ce d (.ref it) (.ref D) Y.env) (fun r s'=>r = .ok .next∧Zju Y Acc D (tgS tg++innS inner) pins σ cm m H vs out m' s') s:=by
  have statD:∀ {H1:Hp},H1 D=none→FpOk Y pins H1 D:=fun h=>⟨h,hD.2⟩
  have stat:∀ {H1:Hp},(∀ b∈fp,H1 b=none)→∀ b∈fp,FpOk Y pins H1 b:=fun h b hb=>⟨h b hb,(hf b hb).2⟩
  refine codeAny_loop rfl (fun n s1=>∃ i σ1 H1 cm1 m1 vs1 done rest,Inv Y pins σ1 H1 s1∧tn i s1.heap∧(∀ b∈fp,H1 b=none)∧H1 D=none∧Ext cm m H cm1 m1 H1∧MemR Y.K cm1 m1 H1∧Agree (tgS tg++innS inner) σ σ1 ∧
      Acc s1.heap (vs++vs1)∧RTs Y.K cm1 m1 H1 done vs1∧JD (turnF call gv cs inner) tg (ts.drop i) env m1 = .ok rest m'∧out=done++rest∧n=ts.length + 1 - i∧i≤ts.length) ?_ (ts.length + 1)
    ⟨0,σ,H,cm,m,[],[],out,I,h0,fun b hb=>(hf b hb).1,hD.1,.refl,M,.refl,by rw [List.append_nil]; exact ha,.nil,by rw [List.drop_zero]; exact ok,rfl,rfl,Nat.zero_le _⟩
  rintro n s1 ⟨i,σ1,H1,cm1,m1,vs1,done,rest,I1,st1,fr1,d1,x1,M1,ag1,a1,r1,ok1,eo,rfl,hi⟩
  rw [hu,hd]
  refine wpAny_noted ?_
  rw [code]
  refine wpAny_bind (wpAny_standAt (wpAny_bind ?_))
  have hE1:EnvR Y.K cm1 m1 H1 env σ1:=(hE.ext x1 M M1).agree ag1 hn
  have s1':=hs.ext x1 M M1
  have I1D:=ZdJ hA I1 (statD d1) a1
  have fpD:∀ {H1:Hp},(∀ b∈fp,H1 b=none)→∀ b∈fp,FpOk Y (pins++Zae [D] s1.heap) H1 b:=fun h b hb=>ZiK (stat h b hb) fun z=>hDf (by
    have e:b=D:=by simpa using z
    rw [← e]; exact hb)
  have inD:∀ o,s1.heap.get? D=some o→(D,o)∈pins++Zae [D] s1.heap:=fun o e=>List.mem_append_right _ (Qo (by simp) e)
  cases et:ts[i]? with
  | none =>
    refine ZgX hxe (thn (hT.done Y rfl rfl rfl hc i _ s1 σ1 H1 Y.xe I1D (fpD fr1) st1 (Src.stop M1 s1' et)) fun r s2 ⟨hr,I2⟩=>?_)
    subst hr
    have hd:ts.drop i=[]:=List.drop_eq_nil_of_le (List.getElem?_eq_none_iff.mp et)
    rw [hd] at ok1
    unfold JD at ok1
    cases ok1
    rw [List.append_nil] at eo
    subst eo
    exact wpAny_pure ⟨rfl,σ1,H1,cm1,vs1,I2.unpinned,x1,M1,r1,(Zcw hA a1 I2 inD).1,ag1,(Zcw hA a1 I2 inD).2⟩
  | some t =>
    obtain ⟨go,yl⟩:=Src.go M1 s1' et
    have hit:i < ts.length:=(List.getElem?_eq_some_iff.mp et).1
    have hd:ts.drop i=t :: ts.drop (i + 1):=by
      rw [List.drop_eq_getElem_cons hit]
      congr 1
      exact Option.some.inj ((List.getElem?_eq_getElem hit).symm.trans et)
    rw [hd] at ok1
    unfold JD at ok1
    split at ok1
    · cases ok1
    · rename_i env' eb
      obtain ⟨xs,m2,ok2,ok3⟩:=Zz ok1
      obtain ⟨ys,m3,ok4,ok5⟩:=Zz ok3
      cases ok5
      obtain ⟨k,m4,okt,okb⟩:=Zz ok2
      refine ZgX hxe (thn (hT.item Y rfl rfl rfl hc i _ s1 σ1 H1 Y.xe I1D (fpD fr1) st1 go) fun r s2 ⟨u,hr,h2⟩=>?_)
      subst hr
      refine wpAny_bind (ZgX hxe (thn h2 fun _ s3 ⟨x,H3,I3,rx,y3,st3,fr3⟩=>?_))
      obtain ⟨xy,My,rt⟩:=yl x H3 y3
      have hE1:=hE1.ext xy M1 My
      have x1:=x1.trans xy
      have r1:=RTs.ext xy M1 My r1
      have M1:=My
      -- pinned: the list that is filled,and the iterator
      have I3':=I3.pinned (fpD fr3) (hT.obj _ _ st3)
      refine wpAny_bind (ZgX hxe (thn (hg _ s3 σ1 H3 x u (fun σ' H'=>H' = H3∧EnvR Y.K cm1 m1 H3 env' σ'∧Agree (tgS tg) σ1 σ') I3' rx (Zne hE1 (fun j hj=>by rw [I3.len]; exact hlt j (List.mem_append_left _ hj)) rt eb fun σ' h1 h2=>⟨rfl,h1,h2⟩)) fun _ s4 ⟨σ4,H4,I4,e4,hE4,ag4⟩=>?_))
      subst e4
      refine wpAny_bind (ZgX hxe (thn (ZdN ht I4 hE4 M1 okt) fun b s5 ⟨hb,H5,cm5,I5,x5,M5⟩=>?_))
      subst hb
      have a5:=Zcw hA a1 I5 fun o e=>List.mem_append_left _ (inD o e)
      have st5:tn (i + 1) s5.heap:=hT.keep _ _ _ st3 fun b hb o e=>(I5.pin (b,o) (List.mem_append_right _ (List.mem_append_right _ (Qo hb e)))).1
      have f5:∀ b∈fp,H5 b=none:=fun b hb=>by
        obtain ⟨o,e,dd⟩:=hT.obj _ _ st3 b hb
        exact (I5.pin (b,o) (List.mem_append_right _ (List.mem_append_right _ (Qo hb e)))).2.1
      have ag45:Agree (tgS tg++innS inner) σ σ4:=ag1.trans (ag4.mono fun i hi=>List.mem_append_left _ hi)
      cases b with
      | false =>
        rw [if_neg Bool.false_ne_true] at okb ⊢
        cases okb
        rw [List.nil_append] at eo
        exact wpAny_pure ⟨rfl,_,by omega,i + 1,σ4,H5,cm5,m2,vs1,done,ys,I5.unpinned.unpinned,st5,f5,a5.2,x1.trans x5,M5,ag45,a5.1,RTs.ext x5 M1 M5 r1,ok4,eo,rfl,hit⟩
      | true =>
        rw [if_pos rfl] at okb ⊢
        have I6:Inv Y (pins++Zae fp s5.heap) σ4 H5 s5:=I5.unpinned.unpinned.pinned (stat f5) (hT.obj _ _ st5)
        have hv:=r1.length
        have hz:(vs++vs1).length + xs.length≤L:=by
          rw [List.length_append,← hv]
          rw [eo,List.length_append,List.length_append] at hl
          omega
        have hn6:∀ j∈innS inner,∀ w,env'[j]?≠some (some w):=fun j hj w=>by
          rw [Zfx eb fun z=>hdis j z hj]
          exact hn j (List.mem_append_right _ hj) w
        refine ZgX hxe (thn (hbr I6 (ZiK (statD a5.2) hDf) a5.1 (hE4.ext x5 M1 M5) hn6 M5 okb hz fun t ht'=>hpt t (by rw [eo]; exact List.mem_append_right _ (List.mem_append_left _ ht'))) fun fin s7 ⟨hfin,σ7,H7,cm7,vs7,I7,x7,M7,r7,a7,ag7,d7⟩=>?_)
        subst hfin
        have keep7:∀ b∈fp,∀ o,s5.heap.get? b=some o→s7.heap.get? b=some o:=fun b hb o e=>(I7.pin (b,o) (List.mem_append_right _ (List.mem_append_right _ (Qo hb e)))).1
        refine ⟨rfl,_,by omega,i + 1,σ7,H7,cm7,m2,vs1++vs7,done++xs,ys,I7.unpinned,hT.keep _ _ _ st5 keep7,fun b hb=>?_,?_,(x1.trans x5).trans x7,M7,ag45.trans (ag7.mono fun i hi=>List.mem_append_right _ hi),by rw [← List.append_assoc]; exact a7,
          QZ (RTs.ext x7 M5 M7 (RTs.ext x5 M1 M5 r1)) r7,ok4,by rw [eo,List.append_assoc],rfl,hit⟩
        · obtain ⟨o,e,dd⟩:=hT.obj _ _ st5 b hb
          exact (I7.pin (b,o) (List.mem_append_right _ (List.mem_append_right _ (Qo hb e)))).2.1
        · exact d7
end
end Mi
end
noncomputable section
namespace Mi
open PySem PySem.Spec PyProof.Rows L2
section
variable {xr:XR} {Y:Cx} {call:Nat→List W→Mem→Res W} {gv:List T}
theorem ZaU {prog:Program} {w:World} {A:Around} {R:Result→Shared→Prop} {s:Shared} {elt:Expr} {gens:List Comprehension} {scope:Scope} {pos:Pos} {d:Nat} {target iter:Expr} {ifs:List Expr} {it acc:Value} {env:PySem.Env} (hg:gens[d]? = some ⟨target,iter,ifs,0⟩)
    (h0:codeAny (model prog w) A (.compLoop (.ListComp elt gens scope pos) d it acc env) R s)
    (h:wpAny (model prog w) A (pyIter it) (fun it' s'=>codeAny (model prog w) A (.compLoop (.ListComp elt gens scope pos) d it' acc env) R s') (notedBy (model prog w) A env fun x s'=>R (.error x) s') s) :
    codeAny (model prog w) A (.compStart (.ListComp elt gens scope pos) d it acc env) R s:=by
  refine codeAny_of_tree ?_
  show wpAny _ _ ((compStart (.ListComp elt gens scope pos) d it acc env).onRaise (fun x=>do noteFrame x env; standAt theWindowsPlace)) _ _ s
  refine wpAny_notedAt ?_
  unfold compStart
  have e:(clausesOf (.ListComp elt gens scope pos))[d]? = some ⟨target,iter,ifs,0⟩:=hg
  rw [e]
  show wpAny _ _ (ask >>= _) _ _ s
  refine wpAny_bind (wpAny_askSetting (wpAny_ite ?_))
  split
  · first
      | exact wpAny_bind (wpAny_pure (wpAny_pure (And.intro rfl h0)))
      | exact wpAny_pure (And.intro rfl h0)
  · first
      | exact wpAny_bind (wpAny_rule (wpAny_bind (wpAny_standAt (wpAny_bind (wpAny_mono h (fun it' s' h'=>wpAny_pure (And.intro rfl h')) fun _ _ x=>x)))))
      | (refine wpAny_bind (wpAny_rule ?_); show wpAny _ _ (standAt iter.pos >>= _) _ _ s; exact wpAny_bind (wpAny_standAt (wpAny_bind (wpAny_mono h (fun it' s' h'=>wpAny_pure (And.intro rfl h')) fun _ _ x=>x))))
theorem Zhm {pins:List (Addr×Obj)} {s:Shared} {σ:L2.St} {H:Hp} {D:Addr} {vs:List V} {v:V} {u:Value} {E:Value→Shared→Prop} {Q:Value→Shared→Prop} (I:Inv Y pins σ H s) (f:FpOk Y pins H D) (a:AccAt s.heap D vs) (r:RelV v u) (hz:vs.length < sizeLine)
    (q:∀ s',Inv Y pins σ H s'→AccAt s'.heap D (vs++[v])→Q .none s'):wpAny (model Y.prog Y.w) Y.A (PySem.call (.builtin "list.append") [.ref D,u]) Q E s:=by
  obtain ⟨z,its,n,rv,e⟩:=a
  have hl:=rv.length
  refine call_meets F.slot_list_append ⟨_,e,rfl⟩ F.entry_list_append (F.args_list_append_2 _ _) (PySem.list_append D its.toArray n u (by rw [List.size_toArray]; omega)) ⟨e,?_⟩
  have e2:=PySem.IsL.update e (·.push u)
  have hf:its.toArray.push u=(its++[u]).toArray:=by simp
  rw [hf] at e2
  obtain ⟨f0,f1,f2,f3,f4,f5⟩:=f
  refine q _ (I.turned (t':=s.toks) (it:=D) (fun b o hb eb=>(Heap.get?_update_other s.heap (Obj.mapSeq (·.push u)) (Ne.symm hb)).trans eb) f0 f1 f3 f4 f5) ⟨?_,its++[u],_,rv.append (.cons r .nil),e2⟩
  rw [List.length_append,List.length_singleton]
  omega
theorem Za0 {K:PySem.W.Frag} {cm:List Addr} {m m1:Mem} {H:Hp} {w:W} {ts:List T} (M:MemR K cm m H) (e:QL w m = .ok ts m1):Ext cm m H cm m1 H∧MemR K cm m1 H:=by
  cases w with
  | t t =>
    unfold QL at e
    dsimp only at e
    split at e <;> cases e
    exact ⟨.refl,M⟩
  | f a=>cases e
  | c i =>
    unfold QL at e
    dsimp only at e
    split at e
    · cases e
      exact Zi5 M (by assumption)
    · cases e
theorem Zis (hc:Y.calm=true) (hxe:∀ e s,¬ Y.xe e s) {elt:Expr} {gens:List Comprehension} {scope:Scope} {pos:Pos} {D:Addr}:∀ (inner:E) (d:Nat) (target iter:Expr) (ifs:List Expr) (tg:Tg) (cs:Es),gens[d]? = some ⟨target,iter,ifs,0⟩ →
    PG Y target (gT Y.K tg)→PTs Y call gv xr cs ifs→Ins xr Y call gv elt gens d inner→(∀ i∈tgS tg,i ∉ innS inner)→(∀ i∈tgS tg++innS inner,i < Y.N.length) →
    ∀ {pins:List (Addr×Obj)} {s:Shared} {σ:L2.St} {H:Hp} {cm:List Addr} {m m':Mem} {env:Env} {ts out:List T} {J:It} {it:Addr} {fp:List Addr} {tn:Nat→Heap→Prop} {vs:List V},Inv Y pins σ H s→FpOk Y pins H D→AccAt s.heap D vs →
      Turn Y.prog Y.w Y.K target J fp it tn→tn 0 s.heap→(∀ b∈fp,FpOk Y pins H b)→D ∉ fp→EnvR Y.K cm m H env σ→(∀ i∈tgS tg++innS inner,∀ w,env[i]?≠some (some w))→MemR Y.K cm m H→Src Y.K cm m H J ts →
      JD (turnF call gv cs inner) tg ts env m = .ok out m'→vs.length + out.length≤lim →
      codeAny (model Y.prog Y.w) Y.A (.compLoop (.ListComp elt gens scope pos) d (.ref it) (.ref D) Y.env) (fun r s'=>r = .ok .next∧CEnd Y D (tgS tg++innS inner) pins σ cm m H vs out m' s') s
  | .emit a=>@fun d target iter ifs tg cs hg pg pt hin hdis hlt pins s σ H cm m m' env ts out J it fp tn vs I hD ha hT h0 hf hDf hE hn M hs ok hl=>by
    obtain ⟨hnx,pe⟩:=hin
    refine Zdl hc hxe (ZbQ D) (br:=do (do let _ ← PySem.call (.builtin "list.append") [.ref D,← eval elt Y.env]); again (.compLoop (.ListComp elt gens scope pos) d (.ref it) (.ref D) Y.env)) rfl rfl (Zdx hg hnx) pg pt hdis hlt ?_ I hD ha hT h0 hf hDf hE hn M hs ok hl (Pt:=fun _=>True) (fun _ _=>trivial)
    intro pins s σ H cm m m' env out vs I hD ha hE hn M ok hl _
    obtain ⟨w,m1,ok1,ok2⟩:=Zz ok
    obtain ⟨rfl,rfl⟩:=Zct ok2
    unfold ev at ok1
    obtain ⟨w1,m2,ok3,ok4⟩:=Zz ok1
    obtain ⟨t,m3,ok5,ok6⟩:=Zz ok4
    cases ok6
    have hz:=Qn
    refine wpAny_bind (wpAny_bind (thn (ZlC pe (Zjr I hD ha) hE M ok3) fun u s1 ⟨v,H1,I1,rv,cm1,x1,M1,r1⟩=>?_))
    obtain ⟨a1,d1⟩:=ZlU ha I1 fun o e=>List.mem_append_right _ (Qo (by simp) e)
    obtain ⟨x2,M2,r2⟩:=Zf4 M1 r1 ok5
    have I1':Inv Y pins σ H1 s1:=I1.unpinned
    refine wpAny_bind (Zhm I1' ⟨d1,hD.2⟩ a1 rv (by simp at hl; omega) fun s2 I2 a2=>wpAny_pure (wpAny_pure ⟨rfl,σ,H1,cm1,[v],I2,x1.trans x2,M2,.cons r2 .nil,a2,.refl,d1⟩))
  | .more it' tg' cs' inner'=>@fun d target iter ifs tg cs hg pg pt hin hdis hlt pins s σ H cm m m' env ts out J it fp tn vs I hD ha hT h0 hf hDf hE hn M hs ok hl=>by
    obtain ⟨⟨target',iter',ifs',hnx,pi,hfs,pg',pt'⟩,hdis',hlt',hin'⟩:=hin
    have rec_:=@Zis hc hxe elt gens scope pos D inner' (d + 1) target' iter' ifs' tg' cs' hnx pg' pt' hin' hdis' hlt'
    refine Zdl hc hxe (ZbQ D) rfl rfl (Zdw hg hnx) pg pt hdis hlt ?_ I hD ha hT h0 hf hDf hE hn M hs ok hl (Pt:=fun _=>True) (fun _ _=>trivial)
    intro pins s σ H cm m m' env out vs I hD ha hE hn M ok hl _
    obtain ⟨w,m1,ok1,ok2⟩:=Zz ok
    obtain ⟨rfl,rfl⟩:=Zct ok2
    unfold ev at ok1
    obtain ⟨w1,m2,ok3,ok4⟩:=Zz ok1
    obtain ⟨ts',m3,ok5,ok6⟩:=Zz ok4
    obtain ⟨out',m4,ok7,ok8⟩:=Zz ok6
    cases ok8
    have hz:=Qn
    refine wpAny_bind (thn (pi _ s σ H (fun J H1=>∃ cm1,Ext cm m H cm1 m2 H1∧MemR Y.K cm1 m2 H1∧Src Y.K cm1 m3 H1 J ts') (Zjr I hD ha) ⟨env,cm,m,hE,M,by
      rw [ok3]
      exact fun cm1 H1 x M1=>⟨ts',m3,ok5,fun J hs=>⟨cm1,x,M1,hs⟩⟩⟩) fun xv s1 h1=>?_)
    refine wpAny_bind (wpAny_standAt (wpAny_bind (wpAny_of_eq (hfs xv) (wpAny_bind (wpAny_holding (thn h1 fun itv s2 h2=>?_))))))
    obtain ⟨it2,fp2,tn2,J2,H2,rfl,I2,T2,st2,f2,cm2,x2,M2,hs2⟩:=h2
    obtain ⟨a2,d2⟩:=ZlU ha I2 fun o e=>List.mem_append_right _ (Qo (by simp) e)
    have hDf2:D ∉ fp2:=fun z=>by
      obtain ⟨_,its,n,_,e⟩:=id ha
      exact (f2 D z).2.2.2.2.2 (D,_) (List.mem_append_right _ (List.mem_append_right _ (Qo (by simp) e))) rfl
    have f2':∀ b∈fp2,FpOk Y pins H2 b:=fun b hb=>⟨(f2 b hb).1,(f2 b hb).2.1,(f2 b hb).2.2.1,(f2 b hb).2.2.2.1,(f2 b hb).2.2.2.2.1,fun p hp=>(f2 b hb).2.2.2.2.2 p (by rw [← List.append_assoc]; exact List.mem_append_left _ hp)⟩
    have hb3:Ext cm2 m2 H2 cm2 m3 H2∧MemR Y.K cm2 m3 H2:=Za0 M2 ok5
    have E2:EnvR Y.K cm2 m3 H2 env σ:=(hE.ext x2 M M2).ext hb3.1 M2 hb3.2
    have go:=rec_ I2.unpinned ⟨d2,hD.2⟩ a2 T2 st2 f2' hDf2 E2 hn hb3.2 hs2 ok7 hl
    have self:codeAny (model Y.prog Y.w) Y.A (.compStart (.ListComp elt gens scope pos) (d + 1) (.ref it2) (.ref D) Y.env) _ s2:=ZaU hnx go (T2.self Y.A 0 s2 _ _ st2 go)
    refine wpAny_bind (wpAny_runOwn (codeAny_mono self fun r s3 ⟨hr,σ3,H3,cm3,vs3,I3,x3,M3,r3,a3,ag3,d3⟩=>?_))
    subst hr
    obtain ⟨x4,M4,sm⟩:=XN M2 ok5 x3 M3
    exact wpAny_pure ⟨rfl,σ3,H3,cm3,vs3,I3,x2.trans x4,M4,ZD (fun _ _ z=>sm _ _ z) r3,a3,ag3,d3⟩
  | .var _=>@fun d target iter ifs tg cs hg pg pt hin=>hin.elim
  | .gl _=>@fun d target iter ifs tg cs hg pg pt hin=>hin.elim
  | .con _=>@fun d target iter ifs tg cs hg pg pt hin=>hin.elim
  | .bin _ _ _=>@fun d target iter ifs tg cs hg pg pt hin=>hin.elim
  | .neg _=>@fun d target iter ifs tg cs hg pg pt hin=>hin.elim
  | .not _=>@fun d target iter ifs tg cs hg pg pt hin=>hin.elim
  | .and _ _=>@fun d target iter ifs tg cs hg pg pt hin=>hin.elim
  | .or _ _=>@fun d target iter ifs tg cs hg pg pt hin=>hin.elim
  | .one _=>@fun d target iter ifs tg cs hg pg pt hin=>hin.elim
  | .cmp _ _ _=>@fun d target iter ifs tg cs hg pg pt hin=>hin.elim
  | .chn _ _ _ _ _=>@fun d target iter ifs tg cs hg pg pt hin=>hin.elim
  | .ite _ _ _=>@fun d target iter ifs tg cs hg pg pt hin=>hin.elim
  | .tup _=>@fun d target iter ifs tg cs hg pg pt hin=>hin.elim
  | .lst _=>@fun d target iter ifs tg cs hg pg pt hin=>hin.elim
  | .cel _=>@fun d target iter ifs tg cs hg pg pt hin=>hin.elim
  | .celL _=>@fun d target iter ifs tg cs hg pg pt hin=>hin.elim
  | .celA _ _=>@fun d target iter ifs tg cs hg pg pt hin=>hin.elim
  | .dsp _ _=>@fun d target iter ifs tg cs hg pg pt hin=>hin.elim
  | .ix _ _=>@fun d target iter ifs tg cs hg pg pt hin=>hin.elim
  | .slc _ _ _=>@fun d target iter ifs tg cs hg pg pt hin=>hin.elim
  | .rev _=>@fun d target iter ifs tg cs hg pg pt hin=>hin.elim
  | .hole=>@fun d target iter ifs tg cs hg pg pt hin=>hin.elim
  | .call _ _=>@fun d target iter ifs tg cs hg pg pt hin=>hin.elim
  | .blt _ _=>@fun d target iter ifs tg cs hg pg pt hin=>hin.elim
  | .mth _ _ _=>@fun d target iter ifs tg cs hg pg pt hin=>hin.elim
  | .isi _ _=>@fun d target iter ifs tg cs hg pg pt hin=>hin.elim
  | .comp _ _ _ _ _ _=>@fun d target iter ifs tg cs hg pg pt hin=>hin.elim
  | .tr _=>@fun d target iter ifs tg cs hg pg pt hin=>hin.elim
  | .fnv _=>@fun d target iter ifs tg cs hg pg pt hin=>hin.elim
  | .callV _ _ _=>@fun d target iter ifs tg cs hg pg pt hin=>hin.elim
end
end Mi
end
noncomputable section
namespace Mi
open PySem PySem.Spec PyProof.Rows L2
theorem ZcU {scope:Scope} {env:PySem.Env} (h:∀ x,(x,NameKind.free)∈scope.names→∃ c,env.cells.lookup x=some c) :
    ∃ cl,closureFor scope env=pure cl∧(∀ x c,cl.lookup x=some c→env.cells.lookup x=some c)∧∀ x,(x,NameKind.free)∈scope.names→∃ c,cl.lookup x=some c:=by
  have go:∀ (ns:List (Str×NameKind)) (acc:List (Str×Addr)),(∀ x,(x,NameKind.free)∈ns→∃ c,env.cells.lookup x=some c)→(∀ x c,acc.lookup x=some c→env.cells.lookup x=some c) →
      ∃ cl,(forIn ns acc fun (x:Str×NameKind) cs=>(match x with | (name,kind)=>if (kind == NameKind.free)=true then do let a ← cellOf env name; pure (ForInStep.yield ((name,a) :: cs)) else pure (ForInStep.yield cs):Sem (ForInStep (List (Str×Addr)))))=pure cl ∧
        (∀ x c,cl.lookup x=some c→env.cells.lookup x=some c)∧(∀ x,(x,NameKind.free)∈ns→∃ c,cl.lookup x=some c)∧∀ x c,acc.lookup x=some c→∃ c,cl.lookup x=some c:=by
    intro ns
    induction ns with
    | nil=>intro acc _ h2; exact ⟨acc,rfl,h2,fun x hx=>absurd hx (by simp),fun x c e=>⟨c,e⟩⟩
    | cons p ns ih =>
      intro acc h1 h2
      obtain ⟨n,k⟩:=p
      have h1':∀ x,(x,NameKind.free)∈ns→∃ c,env.cells.lookup x=some c:=fun x hx=>h1 x (List.mem_cons_of_mem _ hx)
      by_cases hk:k = .free
      · subst hk
        obtain ⟨c,hc⟩:=h1 n List.mem_cons_self
        have h2':∀ x d,((n,c) :: acc).lookup x=some d→env.cells.lookup x=some d:=fun x d e=>by
          rw [List.lookup_cons] at e
          cases hx:x == n with
          | true=>rw [hx] at e; cases e; rw [eq_of_beq hx]; exact hc
          | false=>rw [hx] at e; exact h2 x d e
        obtain ⟨cl,e1,e2,e3,e4⟩:=ih ((n,c) :: acc) h1' h2'
        refine ⟨cl,?_,e2,fun x hx=>?_,fun x d e=>?_⟩
        · rw [List.forIn_cons]
          simp only [beq_self_eq_true,if_true,cellOf,hc,pure_bind]
          exact e1
        · rcases List.mem_cons.mp hx with z | z
          · cases z
            exact e4 n c (by rw [List.lookup_cons,beq_self_eq_true])
          · exact e3 x z
        · by_cases hx:x=n
          · subst hx; exact e4 x c (by rw [List.lookup_cons,beq_self_eq_true])
          · exact e4 x d (by rw [List.lookup_cons,beq_eq_false_iff_ne.mpr hx]; exact e)
      · obtain ⟨cl,e1,e2,e3,e4⟩:=ih acc h1' h2
        have hb:(k == NameKind.free)=false:=beq_eq_false_iff_ne.mpr hk
        refine ⟨cl,?_,e2,fun x hx=>?_,e4⟩
        · rw [List.forIn_cons]
          simp only [hb,Bool.false_eq_true,if_false,pure_bind]
          exact e1
        · rcases List.mem_cons.mp hx with z | z
          · cases z; exact absurd rfl hk
          · exact e3 x z
  obtain ⟨cl,e1,e2,e3,_⟩:=go scope.names [] h (fun x c e=>by simp at e)
  refine ⟨cl,?_,e2,e3⟩
  unfold closureFor
  have:(forIn scope.names ([]:List (Str×Addr)) fun (x:Str×NameKind) cs=>(match x with | (name,kind)=>if (kind == NameKind.free)=true then do let a ← cellOf env name; pure (ForInStep.yield ((name,a) :: cs)) else pure (ForInStep.yield cs):Sem (ForInStep (List (Str×Addr))))) >>= (fun cs=>pure cs)=(pure cl:Sem (List (Str×Addr))):=by rw [e1]; rfl
  exact this
end Mi
end
noncomputable section
namespace Mi
open PySem PySem.Spec PyProof.Rows L2
section
variable {xr:XR} {X:Cx} {call:Nat→List W→Mem→Res W} {gv:List T}
abbrev JR (X:Cx) (N':List Str) (scope:Scope) (cl:List (Str×Addr)) (C:Addr) (s2:Shared) (H2:Hp) (fp:List Addr):Cx :=
  { X with N:=N',s₀:=s2,H₀:=H2,env:=compEnvC scope cl C X.env,outer:=X.stack,stack:=X.stack,ex:=fp,fn:=fun _=>false,pn:=[],xe:=fun _ _=>False }
structure CompSc (X:Cx) (N':List Str) (scope:Scope):Prop where
  kind:scope.kind = .function
  cell:∀ y∈scope.names,y.2≠NameKind.cell
  look:∀ p∈scope.names,scope.names.lookup p.1=some p.2
  free:∀ x,(x,NameKind.free)∈scope.names→X.env.kindOf x=some .cell∨X.env.kindOf x=some .free
theorem Zbv {scope:Scope} {env:PySem.Env} (look:∀ p∈scope.names,scope.names.lookup p.1=some p.2) {x:Str} {k:NameKind} (h:(relabel scope env).names.lookup x=some k) :
    ∃ k',scope.names.lookup x=some k'∧(k=k'∨(k' = .free∧k = .cell)):=by
  have go:∀ (ns:List (Str×NameKind)),(ns.map fun (n,k)=>if (k == NameKind.free && env.scope.kind == .function && env.kindOf n == some .cell) then (n,NameKind.cell) else (n,k)).lookup x=some k→∃ k',ns.lookup x=some k'∧(k=k'∨(k' = .free∧k = .cell)):=by
    intro ns
    induction ns with
    | nil=>intro h; simp at h
    | cons p r ih =>
      obtain ⟨n,q⟩:=p
      intro h
      rw [List.map_cons] at h
      by_cases hc:(q == NameKind.free && env.scope.kind == .function && env.kindOf n == some .cell)=true
      · simp only [hc,if_true] at h
        rw [List.lookup_cons] at h ⊢
        cases hx:x == n with
        | true =>
          rw [hx] at h; cases h
          rw [Bool.and_eq_true,Bool.and_eq_true] at hc
          exact ⟨q,rfl,.inr ⟨eq_of_beq hc.1.1,rfl⟩⟩
        | false=>rw [hx] at h; exact ih h
      · simp only [hc,Bool.false_eq_true,if_false] at h
        rw [List.lookup_cons] at h ⊢
        cases hx:x == n with
        | true=>rw [hx] at h; cases h; exact ⟨_,rfl,.inl rfl⟩
        | false=>rw [hx] at h; exact ih h
  exact go scope.names h
theorem Zaq {ns:List (Str×NameKind)} {x:Str} {k:NameKind} (h:ns.lookup x=some k):(x,k)∈ns:=PySem.mem_of_lookup h
theorem ZcT {pins:List (Addr×Obj)} {s:Shared} {σ σ':L2.St} {H:Hp} {fp:List Addr} {N':List Str} {scope:Scope} {cl:List (Str×Addr)} {C:Addr} {h1:Heap} {t:Nat} (I:Inv X pins σ H s) (S:CompSc X N' scope) (hf:∀ b∈fp,FpOk X pins H b) (hlt:∀ b∈fp,b < s.heap.objs.size)
    (hC:s.heap.objs.size≤C) (hns:∃ m,h1.Ns C m) (hk:∀ b o,s.heap.get? b=some o→h1.get? b=some o)
    (hcl1:∀ x c,cl.lookup x=some c→X.env.cells.lookup x=some c) (hcl2:∀ x,(x,NameKind.free)∈scope.names→∃ c,cl.lookup x=some c) (hl:σ'.length=N'.length)
    (hσ:∀ (i:Nat) (x:Str) (v:V),N'[i]? = some x→σ'[i]? = some (some v)→∃ j:Nat,X.N[j]? = some x∧σ[j]? = some (some v)∧(x,NameKind.free)∈scope.names) :
    Inv (JR X N' scope cl C s H fp) [] σ' H { s with heap:=h1,toks:=t }:=by
  have hfree:∀ x k,(relabel scope X.env).names.lookup x=some k→(k = .cell∨k = .free)→(x,NameKind.free)∈scope.names:=fun x k h hk'=>by
    obtain ⟨k',h1,h2⟩:=Zbv S.look h
    rcases h2 with rfl | ⟨rfl,_⟩
    · rcases hk' with rfl | rfl
      · exact absurd rfl (S.cell _ (Zaq h1))
      · exact Zaq h1
    · exact Zaq h1
  obtain ⟨mm,hns⟩:=hns
  refine ⟨⟨I.ok.mod,S.kind,I.ok.glob,I.ok.blt,hC,fun x y c e1 e2=>I.ok.inj x y c (hcl1 x c e1) (hcl1 y c e2),fun x hx=>?_,fun x c h=>?_,I.ok.hd,I.ok.frames,.inl rfl,fun b hb=>⟨Nat.ne_of_lt (Nat.lt_of_lt_of_le (hlt b hb) hC),fun x c e=>(hf b hb).2.2.2.2.1 x c (hcl1 x c e)⟩,I.bs,Nat.le_trans I.ok.bsz I.sz,fun b o e hb=>?_,fun b hb z=>?_,I.stack,I.stkFree⟩,
    rfl,I.bare,Un.kept hk,⟨mm,hns,fun i x v e1 e2 e3=>?_⟩,fun x c e=>?_,I.hok.fresh hC,fun x c e=>I.freeC x c (hcl1 x c e),fun p hp=>absurd (show p∈([]:List (Addr×Obj)) from hp) (by simp),I.hok.kept hk,hl⟩
  · rcases hx with hx | hx
    · exact hcl2 x (hfree x _ hx (.inl rfl))
    · exact hcl2 x (hfree x _ hx (.inr rfl))
  · exact absurd (show false=true from h) Bool.false_ne_true
  · rcases (hf b hb).2.2.2.1 with z | z
    · exact I.ok.noex b o e z
    · exact absurd (Nat.lt_of_lt_of_le (Heap.lt_size e) (Nat.le_trans I.ok.bsz z)) (Nat.lt_irrefl _)
  · rcases List.mem_cons.mp (I.stkSub b z) with q | q
    · exact (hf b hb).2.1 q
    · exact (hf b hb).2.2.1 q
  · obtain ⟨j,h1',h2',h3'⟩:=hσ i x v e1 e2
    obtain ⟨m0,hn0,hl0⟩:=I.loc
    have kx:=S.free x h3'
    obtain ⟨u,ru,lu⟩:=hl0 j x v h1' h2' (kx.elim (fun z=>.inr (.inl z)) fun z=>.inr (.inr z))
    refine ⟨u,ru,.inr ?_⟩
    obtain ⟨c,ec,ic⟩:∃ c,X.env.cells.lookup x=some c∧s.heap.IsCell c (some u):=by
      rcases lu with ⟨q,_⟩ | ⟨_,c,q1,q2⟩
      · rcases kx with z | z
        · rw [z] at q; cases q
        · rw [z] at q; cases q
      · exact ⟨c,q1,q2⟩
    obtain ⟨c',ec'⟩:=hcl2 x h3'
    have:c' = c:=by
      have:=hcl1 x c' ec'
      rw [ec] at this; exact (Option.some.inj this).symm
    subst this
    obtain ⟨o,ho,hd⟩:=ic
    refine ⟨?_,c',ec',o,hk _ _ ho,hd⟩
    rcases e3 with e3 | e3 | e3
    · obtain ⟨k',q1,q2⟩:=Zbv S.look e3
      rw [S.look _ h3'] at q1; cases q1
      rcases q2 with q2 | ⟨_,q2⟩ <;> cases q2
    · exact .inl e3
    · exact .inr e3
  · obtain ⟨v,o,ho,hd⟩:=I.cell x c (hcl1 x c e)
    exact ⟨v,o,hk _ _ ho,hd⟩
theorem ZcS {pins:List (Addr×Obj)} {s s':Shared} {σ σ':L2.St} {H H':Hp} {fp:List Addr} {N':List Str} {scope:Scope} {cl:List (Str×Addr)} {C:Addr} (I:Inv X pins σ H s) (hf:∀ b∈fp,FpOk X pins H b) (J:Inv (JR X N' scope cl C s H fp) [] σ' H' s') :
    Inv X pins σ H' s' :=
  I.call' J.os J.base J.hok J.bare fun b hb=>⟨(hf b hb).2.2.2.1,(hf b hb).2.1,(hf b hb).2.2.2.2.1,(hf b hb).2.2.2.2.2⟩
theorem Inv.adopt {pins:List (Addr×Obj)} {s:Shared} {σ:L2.St} {H:Hp} {D:Addr} {vs:List V} (I:Inv X pins σ H s) (f:FpOk X pins H D) (a:AccAt s.heap D vs):Inv X pins σ (upd H D (.lst vs)) s:=by
  obtain ⟨f0,f1,f2,f3,f4,f5⟩:=f
  have hne:∀ b u,H b=some u→b≠D:=fun b u e z=>by subst z; rw [f0] at e; cases e
  refine I.call' (ch:=[D]) rfl ⟨fun b o e _ _ _=>e,fun b o e _ _ _=>⟨o.slots,e⟩,fun b o e n hx=>by rw [Qe (by simpa using hx)]; exact n,fun b o e _=>⟨o,e⟩,fun b xs e=>by rw [Qe (hne b _ e)]; exact e,fun b o u e=>by rw [Qe (hne b _ e)]; exact e,
    fun b ps e=>⟨#[],by rw [Qe (hne b _ e),e]; simp⟩⟩ (fun b u e=>?_) I.bare fun b hb=>?_
  · by_cases hb:b=D
    · subst hb
      rw [JV] at e; cases e
      exact a
    · rw [Qe hb] at e
      exact (I.hok b u e).stay (fun _ _ _ q=>q) (fun c q=>by rw [Qe (hne c _ q)]; exact q) fun c xs q=>by rw [Qe (hne c _ q)]; exact q
  · have e:b=D:=by simpa using hb
    subst e
    exact ⟨f3,f1,f4,f5⟩
end
end Mi
end
noncomputable section
namespace Mi
open PySem PySem.Spec PyProof.Rows L2
section
variable {xr:XR} {X:Cx} {call:Nat→List W→Mem→Res W} {gv:List T}
def Zge (X:Cx) (xr:XR) (call:Nat→List W→Mem→Res W) (gv:List T) (N':List Str) (scope:Scope) (elt target:Expr) (ifs:List Expr) (gens:List Comprehension) (tg:Tg) (cs:Es) (inner:E):Prop :=
  ∀ (cl:List (Str×Addr)) (C:Addr) (s2:Shared) (H2:Hp) (fp:List Addr),PG (JR X N' scope cl C s2 H2 fp) target (gT X.K tg)∧PTs (JR X N' scope cl C s2 H2 fp) call gv xr cs ifs∧Ins xr (JR X N' scope cl C s2 H2 fp) call gv elt gens 0 inner
def envC (own:Nat) (keep:List Nat) (env:Env):Env:=List.replicate own none++keep.map fun i=>(env[i]?).join
def stC (own:Nat) (keep:List Nat) (σ:L2.St):L2.St:=List.replicate own none++keep.map fun i=>(σ[i]?).join
theorem ZlO {K:PySem.W.Frag} {cm:List Addr} {m:Mem} {H:Hp} {env:Env} {σ:L2.St} {own:Nat} {keep:List Nat} (h:EnvR K cm m H env σ):EnvR K cm m H (envC own keep env) (stC own keep σ):=fun i w e=>by
  unfold envC at e
  unfold stC
  by_cases hi:i < own
  · rw [List.getElem?_append_left (by simpa using hi),List.getElem?_replicate] at e
    split at e <;> cases e
  · rw [List.getElem?_append_right (by simpa using hi),List.length_replicate,List.getElem?_map] at e
    rw [List.getElem?_append_right (by simpa using hi),List.length_replicate,List.getElem?_map]
    cases q:keep[i - own]? with
    | none=>rw [q] at e; cases e
    | some j =>
      rw [q] at e
      have e':(env[j]?).join=some w:=Option.some.inj e
      cases r:env[j]? with
      | none=>rw [r] at e'; cases e'
      | some o =>
        rw [r] at e'
        have e2:o=some w:=e'
        subst e2
        obtain ⟨v,h1,h2⟩:=h j w r
        exact ⟨v,by simp [h1],h2⟩
theorem ZbJ {α:Type} {r:Res α} {x:α} {m:Mem} (h:r.only = .ok x m):r = .ok x m:=by
  cases r with
  | ok _ _=>exact h
  | exc _ _=>cases h
  | stuck=>cases h
theorem ZcL {α β:Type} {r:Res α} {f:α→Mem→Res β} (hf:∀ x m e m',f x m≠.exc e m') (e:Exc) (m':Mem):r.only.bind f≠.exc e m':=by
  cases r with
  | ok x m=>exact hf x m e m'
  | exc _ _=>intro h; cases h
  | stuck=>intro h; cases h
theorem Zbh {own:Nat} {keep:List Nat} {it:E} {tg:Tg} {cs:Es} {inner:E} {env:Env} {m:Mem} (e:Exc) (m':Mem):ev call gv (.comp own keep it tg cs inner) env m≠.exc e m':=by
  unfold ev
  refine ZcL (fun x m0 e m'=>?_) e m'
  cases h:QL x m0 with
  | ok ts m1 =>
    refine ZcL (fun out m2 e m'=>?_) e m'
    split <;> (intro h; cases h)
  | exc _ _ =>
    unfold QL at h
    split at h <;> first
      | (cases h; done)
      | (split at h <;> cases h)
  | stuck=>intro h; cases h
theorem Zcj {own:Nat} {keep:List Nat} {it:E} {tg:Tg} {cs:Es} {inner:E} {env:Env} {m m':Mem} {w:W} (h:ev call gv (.comp own keep it tg cs inner) env m = .ok w m'):∃ out,w = .t (.lst out):=by
  unfold ev at h
  obtain ⟨_,_,_,h⟩:=Zz h
  obtain ⟨_,_,_,h⟩:=Zz h
  obtain ⟨out,_,_,h⟩:=Zz h
  split at h <;> cases h
  exact ⟨_,rfl⟩
theorem Zew {elt target iter:Expr} {ifs:List Expr} {gs:List Comprehension} {scope:Scope} {pos pos':Pos} {N':List Str} {own:Nat} {keep:List Nat} {it:E} {tg:Tg} {cs:Es} {inner:E} {use:Option (Value→Sem Unit)}
    (hc:X.calm=true) (S:CompSc X N' scope) (hown:N'.length=own + keep.length) (hkeep:∀ (i:Nat) x,N'[own + i]? = some x→∃ j,keep[i]? = some j∧X.N[j]? = some x∧(x,NameKind.free)∈scope.names)
    (hlocal:∀ x∈scope.names,x.2=NameKind.local→scope.names.lookup x.1=some .local)
    (pi:PI X target iter (tI X.K call gv xr it)) (hfs:∀ x,foldedSetIterable iter X.env x=pure x) (hY:Zge X xr call gv N' scope elt target ifs (⟨target,iter,ifs,0⟩ :: gs) tg cs inner)
    (hdis:∀ i∈tgS tg,i ∉ innS inner) (hsl:∀ i∈tgS tg++innS inner,i < own)
    {pins:List (Addr×Obj)} {s:Shared} {σ:L2.St} {H:Hp} {cm:List Addr} {m m':Mem} {env:Env} {out:List T} {Q:Value→Shared→Prop} (I:Inv X pins σ H s) (hE:EnvR X.K cm m H env σ) (M:MemR X.K cm m H)
    (ok:ev call gv (.comp own keep it tg cs inner) env m = .ok (.t (.lst out)) m')
    (fin:∀ (D C:Addr) (s3:Shared) (H3:Hp) (cm3:List Addr) (vs:List V),Inv X pins σ (upd H3 D (.lst vs)) s3→H3 D=none→X.K.lookup D=none→Ext cm m H cm3 m' H3→MemR X.K cm3 m' H3→RTs X.K cm3 m' H3 out vs→(∃ mm,s3.heap.Ns C mm)→FpOk X pins (upd H3 D (.lst vs)) C →
      compPost (model X.prog X.w) X.A X.xe use Q (.ref D) C (.ok .next) s3) :
    wpAny (model X.prog X.w) X.A (comprehension (.ListComp elt (⟨target,iter,ifs,0⟩ :: gs) scope pos) scope X.env pos' (newList []) false (eval iter X.env) use) Q X.xe s:=by
  obtain ⟨cl,hclos,hcl1,hcl2⟩:=ZcU (scope:=scope) (env:=X.env) fun x hx=>I.ok.has x (S.free x hx)
  unfold ev at ok
  obtain ⟨w1,m1,ok0,ok2⟩:=Zz ok
  have ok1:=ZbJ ok0
  obtain ⟨ts,m2,ok3,ok4⟩:=Zz ok2
  obtain ⟨out',m3,ok5,ok6⟩:=Zz ok4
  split at ok6 <;> cases ok6
  rename_i hlen
  have ok5':JD (turnF call gv cs inner) tg ts (envC own keep env) m2 = .ok out m3:=ZbJ ok5
  have hz:=Qn
  refine wpAny_comprehension_free rfl hfs hclos S.kind hlocal (thn (pi pins s σ H (fun J H1=>∃ cm1,Ext cm m H cm1 m1 H1∧MemR X.K cm1 m1 H1∧Src X.K cm1 m2 H1 J ts) I ⟨env,cm,m,hE,M,by
      rw [ok1]
      exact fun cm1 H1 x M1=>⟨ts,m2,ok3,fun J hs=>⟨cm1,x,M1,hs⟩⟩⟩) fun xv s1 h1=>thn h1 fun itv s2 h2=>?_)
  obtain ⟨it2,fp,tn,J,H2,rfl,I2,T2,st2,f2,cm2,x2,M2,hs2⟩:=h2
  refine wpAny_newObj_type (wpAny_newFunctionEnv S.cell (by intro y hy; simp at hy) (fun h₁ hns₁ hsb₁=>?_) S.kind)
  dsimp only at hns₁ hsb₁ ⊢
  generalize hH2:s2.heap.push { cls:=.type "list",dict:=none,data:=.seq ([]:List Value).toArray }=P2 at hns₁ hsb₁ ⊢
  have hCs:P2.objs.size=s2.heap.objs.size + 1:=by rw [← hH2,Heap.size_push]
  have hDC:s2.heap.objs.size≠P2.objs.size:=by omega
  have below:∀ b,b < s2.heap.objs.size→b≠P2.objs.size:=fun b hb=>by omega
  have old:∀ b o,s2.heap.get? b=some o→h₁.get? b=some o:=fun b o e=>hsb₁.extBut b o (below b (Heap.lt_size e)) (Heap.get?_push_of_some _ (hH2 ▸ Heap.get?_push_of_some _ e))
  have hacc:h₁.get? s2.heap.objs.size=some { cls:=.type "list",data:=.seq ([]:List Value).toArray }:=hsb₁.extBut _ _ hDC (Heap.get?_push_of_some _ (hH2 ▸ Heap.get?_push_size _ rfl))
  have flt:∀ b∈fp,b < s2.heap.objs.size:=fun b hb=>by
    obtain ⟨o,e,_⟩:=T2.obj _ _ st2 b hb
    exact Heap.lt_size e
  have hb3:=Za0 M2 ok3
  have E2:EnvR X.K cm2 m2 H2 env σ:=(hE.ext x2 M M2).ext hb3.1 M2 hb3.2
  have hσl:(stC own keep σ).length=N'.length:=by unfold stC; simp [hown]
  have J0:Inv (JR X N' scope cl P2.objs.size s2 H2 fp) [] (stC own keep σ) H2 { s2 with heap:=h₁,toks:=s2.toks + ([]:List (Str×Value)).length } :=
    ZcT I2 S f2 flt (by omega) ⟨_,hns₁⟩ old hcl1 hcl2 hσl fun i x v e1 e2=>by
      unfold stC at e2
      by_cases hi:i < own
      · rw [List.getElem?_append_left (by simpa using hi),List.getElem?_replicate] at e2
        split at e2 <;> cases e2
      · rw [List.getElem?_append_right (by simpa using hi),List.length_replicate,List.getElem?_map] at e2
        have ei:N'[own + (i - own)]? = some x:=by rw [show own + (i - own)=i by omega]; exact e1
        obtain ⟨j,q1,q2,q3⟩:=hkeep (i - own) x ei
        rw [q1] at e2
        have e3:(σ[j]?).join=some v:=Option.some.inj e2
        refine ⟨j,q2,?_,q3⟩
        cases r:σ[j]? with
        | none=>rw [r] at e3; cases e3
        | some o=>rw [r] at e3; exact congrArg some e3
  obtain ⟨pg,pt,hin⟩:=hY cl P2.objs.size s2 H2 fp
  have fD:FpOk (JR X N' scope cl P2.objs.size s2 H2 fp) [] H2 s2.heap.objs.size:=by
    refine ⟨I2.hok.fresh (Nat.le_refl _),hDC,fun z=>?_,.inr (Nat.le_refl _),fun x c e z=>?_,fun p hp=>absurd (show p∈([]:List (Addr×Obj)) from hp) (by simp)⟩
    · have:=I2.stkSub _ z
      rcases List.mem_cons.mp this with q | q
      · exact absurd I2.lt (by rw [← q]; exact Nat.lt_irrefl _)
      · exact I2.nofs (Nat.le_refl _) q
    · obtain ⟨v,q⟩:=I2.cell x c (hcl1 x c e)
      exact absurd q.lt (by rw [z]; exact Nat.lt_irrefl _)
  have fF:∀ b∈fp,FpOk (JR X N' scope cl P2.objs.size s2 H2 fp) [] H2 b:=fun b hb=>by
    refine ⟨(f2 b hb).1,below b (flt b hb),fun z=>?_,.inl hb,fun x c e=>(f2 b hb).2.2.2.2.1 x c (hcl1 x c e),fun p hp=>absurd (show p∈([]:List (Addr×Obj)) from hp) (by simp)⟩
    rcases List.mem_cons.mp (I2.stkSub b z) with q | q
    · exact (f2 b hb).2.1 q
    · exact (f2 b hb).2.2.1 q
  have st2':tn 0 h₁:=T2.keep _ _ _ st2 fun b _ o e=>old b o e
  have hDf:s2.heap.objs.size ∉ fp:=fun z=>absurd (flt _ z) (Nat.lt_irrefl _)
  have hnone:∀ i∈tgS tg++innS inner,∀ w,(envC own keep env)[i]?≠some (some w):=fun i hi w e=>by
    unfold envC at e
    rw [List.getElem?_append_left (by simpa using hsl i hi),List.getElem?_replicate] at e
    split at e <;> cases e
  have go:=Zis (Y:=JR X N' scope cl P2.objs.size s2 H2 fp) (xr:=xr) (call:=call) (gv:=gv) hc (fun _ _ z=>z) (elt:=elt) (scope:=scope) (pos:=pos) (D:=s2.heap.objs.size) inner 0 target iter ifs tg cs rfl pg pt hin hdis (fun i hi=>by
    show i < N'.length
    rw [hown]
    have:=hsl i hi
    omega) J0 fD (vs:=[]) ⟨Nat.zero_le _,[],0,.nil,hacc⟩ T2 st2' fF hDf (ZlO E2) hnone hb3.2 hs2 ok5' (by rw [List.length_nil,Nat.zero_add]; exact hlen)
  have fine:∀ r s3,(r = .ok .next∧CEnd (JR X N' scope cl P2.objs.size s2 H2 fp) s2.heap.objs.size (tgS tg++innS inner) [] (stC own keep σ) cm2 m2 H2 [] out m3 s3)→compPost (model X.prog X.w) X.A X.xe use Q (.ref s2.heap.objs.size) P2.objs.size r s3:=fun r s3 ⟨hr,σ3,H3,cm3,vs3,J3,x3,M3,r3,a3,ag3,d3⟩=>by
    subst hr
    rw [List.nil_append] at a3
    obtain ⟨x4,M4,sm⟩:=XN M2 ok3 x3 M3
    have I3:Inv X pins σ H3 s3:=ZcS I2 f2 J3
    have fX:∀ b,s2.heap.objs.size≤b→∀ H',H' b=none→FpOk X pins H' b:=fun b hb H' hn=>I2.fpOk hb hn
    obtain ⟨mm,hmm,_⟩:=J3.loc
    have neC:P2.objs.size≠s2.heap.objs.size:=Ne.symm hDC
    refine fin s2.heap.objs.size P2.objs.size s3 H3 cm3 vs3 (Inv.adopt I3 (fX _ (Nat.le_refl _) _ d3) a3) d3 ?_ (x2.trans x4) M4 (ZD (fun _ _ z=>sm _ _ z) r3) ⟨mm,hmm⟩ (fX _ (by omega) _ ?_)
    · cases q:X.K.lookup s2.heap.objs.size with
      | none=>rfl
      | some o=>exact absurd (Heap.lt_size (I2.kIn _ _ q)) (Nat.lt_irrefl _)
    · rw [Qe neC]; exact J3.free
  exact codeAny_mono (ZaU (gens:=⟨target,iter,ifs,0⟩ :: gs) rfl go (T2.self X.A 0 { s2 with heap:=h₁,toks:=s2.toks + ([]:List (Str×Value)).length } _ _ st2' go)) fine
structure CompK (X:Cx) (xr:XR) (call:Nat→List W→Mem→Res W) (gv:List T) (N':List Str) (scope:Scope) (own:Nat) (keep:List Nat) (elt target iter:Expr) (ifs:List Expr) (gs:List Comprehension) (it:E) (tg:Tg) (cs:Es) (inner:E):Prop where
  sc:CompSc X N' scope
  hown:N'.length=own + keep.length
  hkeep:∀ (i:Nat) x,N'[own + i]? = some x→∃ j,keep[i]? = some j∧X.N[j]? = some x∧(x,NameKind.free)∈scope.names
  pi:PI X target iter (tI X.K call gv xr it)
  fs:∀ x,foldedSetIterable iter X.env x=pure x
  ins:Zge X xr call gv N' scope elt target ifs (⟨target,iter,ifs,0⟩ :: gs) tg cs inner
  dis:∀ i∈tgS tg,i ∉ innS inner
  slt:∀ i∈tgS tg++innS inner,i < own
variable {elt target iter:Expr} {ifs:List Expr} {gs:List Comprehension} {scope:Scope} {pos:Pos} {N':List Str} {own:Nat} {keep:List Nat} {it:E} {tg:Tg} {cs:Es} {inner:E}
theorem Ji (hc:X.calm=true) (k:CompK X xr call gv N' scope own keep elt target iter ifs gs it tg cs inner) :
    PE X (.ListComp elt (⟨target,iter,ifs,0⟩ :: gs) scope pos) (tE X.K call gv xr (.comp own keep it tg cs inner)):=by
  rintro pins s σ H Q I ⟨env,cm,m,hE,M,ho⟩
  cases h:ev call gv (.comp own keep it tg cs inner) env m with
  | stuck=>rw [h] at ho; exact ho.elim
  | exc e m'=>exact absurd h (Zbh e m')
  | ok w m' =>
    obtain ⟨out,rfl⟩:=Zcj h
    rw [h] at ho
    rw [eval_ListComp]
    refine Zew (use:=none) hc k.sc k.hown k.hkeep (fun x hx e=>by rw [k.sc.look x hx,e]) k.pi k.fs k.ins k.dis k.slt I hE M h ?_
    rintro D C s3 H3 cm3 vs I3 hD _ x3 M3 r3 ⟨mm,hm⟩ fC
    refine ⟨mm,hm,fun h' hs'=>?_⟩
    have I4:Inv X pins σ (upd H3 D (.lst vs)) { s3 with heap:=h' }:=I3.turned (t':=s3.toks) (it:=C) (fun b o hb e=>(hs'.2 b hb).trans e) fC.1 fC.2.1 fC.2.2.2.1 fC.2.2.2.2.1 fC.2.2.2.2.2
    exact ⟨.ref D,_,I4,rfl,OkR.to ho (x3.trans (.new hD)) (M3.new hD) _ (RT.newLst M3 r3 hD)⟩
theorem Zk7 {i:Nat} {x:Str} {px spos:Pos} (hc:X.calm=true) (k:CompK X xr call gv N' scope own keep elt target iter ifs gs it tg cs inner) (hN:X.N.Nodup) (hi:X.N[i]? = some x) (hx:X.env.scope.names.lookup x=some .local)
    (hsw:swapsWith (.ListComp elt (⟨target,iter,ifs,0⟩ :: gs) scope pos) (some (.Name x px)) spos.line X.env=pure true)
    {pins:List (Addr×Obj)} {s:Shared} {σ:L2.St} {H:Hp} {cm:List Addr} {m m':Mem} {env:Env} {out:List T} {D:Ends} (I:Inv X pins σ H s) (hE:EnvR X.K cm m H env σ) (M:MemR X.K cm m H)
    (ok:ev call gv (.comp own keep it tg cs inner) env m = .ok (.t (.lst out)) m')
    (q:∀ (p:Addr) (H3:Hp) (cm3:List Addr) (vs:List V),H3 p=none→X.K.lookup p=none→Ext cm m H cm3 m' H3→MemR X.K cm3 m' H3→RTs X.K cm3 m' H3 out vs→D.nx (σ.set i (some (.ref p))) (upd H3 p (.lst vs))) :
    wpAny (model X.prog X.w) X.A (exec (.Assign [.Name x px] (.ListComp elt (⟨target,iter,ifs,0⟩ :: gs) scope pos) spos) X.env) (SP X pins D) X.xe s:=by
  rw [exec_Assign_Name_used _ _ _ _ hsw]
  refine wpAny_bind (wpAny_standAt (wpAny_bind ?_))
  show wpAny _ _ (do let _ ← comprehension (.ListComp elt (⟨target,iter,ifs,0⟩ :: gs) scope pos) scope X.env _ (newList []) false (eval iter X.env) (some (assign (.Name x px) X.env))) _ _ s
  refine wpAny_bind (thn (Zew (use:=some (assign (.Name x px) X.env)) (Q:=fun _ s'=>SP X pins D .next s') hc k.sc k.hown k.hkeep (fun x hx e=>by rw [k.sc.look x hx,e]) k.pi k.fs k.ins k.dis k.slt I hE M ok ?_) fun _ s' h=>wpAny_pure (wpAny_pure h))
  rintro p C s3 H3 cm3 vs I3 hD hK x3 M3 r3 ⟨mm,hm⟩ fC
  show wpAny _ _ (assign (.Name x px) X.env (.ref p)) _ _ s3
  refine wpAny_assign_Name (ZdO I3 hN hi (.inl hx) (v:=.ref p) rfl (fun s4 I4 ⟨a,hs4,ha⟩=>?_) (.inr hx))
  have hac:C≠a:=by
    rcases ha with rfl | ha
    · exact fC.2.1
    · exact fun z=>fC.2.2.2.2.1 x a ha z.symm
  refine ⟨mm,hm.sameBut hs4 hac,fun h' hs'=>?_⟩
  have I5:Inv X pins (σ.set i (some (.ref p))) (upd H3 p (.lst vs)) { s4 with heap:=h' }:=I4.turned (t':=s4.toks) (it:=C) (fun b o hb e=>(hs'.2 b hb).trans e) fC.1 fC.2.1 fC.2.2.2.1 fC.2.2.2.2.1 fC.2.2.2.2.2
  exact ⟨_,_,I5,q p H3 cm3 vs hD hK x3 M3 r3⟩
end
end Mi
end
noncomputable section
namespace Mi
open PySem PySem.Spec PyProof.Rows L2
theorem Zex {elt:Expr} {gens:List Comprehension} {scope:Scope} {pos:Pos} {d:Nat} {target iter:Expr} {ifs:List Expr} {it acc:Value} {env:PySem.Env} (hg:gens[d]? = some ⟨target,iter,ifs,0⟩) (hn:gens[d + 1]? = none) :
    compTurn (.SetComp elt gens scope pos) d it acc env=(do
      standAt iter.pos
      match ← pyNext it with
      | none=>pure (.done .next)
      | some v =>
        letOwnedTupleGo target it v
        assign target env v
        let mut ok:=true
        for c in ifs do
          if ok then ok ← isTrue c env (eval c env)
        if ok then
          (do let v ← eval elt env; standAt elt.pos; let _ ← call (.builtin "set.add") [acc,v])
        again (.compLoop (.SetComp elt gens scope pos) d it acc env)):=by
  unfold compTurn
  simp only [hg,hn]
  rfl
def dl (ss:List Str):List Str:=ss.foldl (fun D x=>if x∈D then D else D++[x]) []
theorem ZiT (ss:List Str) (x:Str):dl (ss++[x])=if x∈dl ss then dl ss else dl ss++[x]:=by
  unfold dl
  rw [List.foldl_append]
  rfl
theorem ZlP (ss:List Str):(dl ss).length≤ss.length:=by
  have:∀ (ss D:List Str),(ss.foldl (fun D x=>if x∈D then D else D++[x]) D).length≤D.length + ss.length:=by
    intro ss
    induction ss with
    | nil=>intro D; exact Nat.le_refl _
    | cons x r ih =>
      intro D
      rw [List.foldl_cons,List.length_cons]
      refine Nat.le_trans (ih _) ?_
      split
      · omega
      · rw [List.length_append,List.length_singleton]; omega
  have h:=this ss []
  rw [List.length_nil,Nat.zero_add] at h
  exact h
abbrev ledS (w:World):Bool:=!w.params.followText "set-order"
def AccS (prog:Program) (w:World) (D:Addr) (h:Heap) (vs:List V):Prop:=∃ ss:List Str,vs=ss.map V.str∧h.SetOf (PySem.strKind prog w) D (fun k=>decide (k∈dl ss)) (dl ss).length
theorem ZdK (prog:Program) (w:World) (D:Addr):AccK D (AccS prog w D):=⟨fun ⟨ss,_,o,es,ep,t,e,_,d,_⟩=>⟨o,e,fun v z=>by rw [d] at z; cases z⟩,fun ⟨ss,q,o,es,ep,t,e,r⟩ k=>⟨ss,q,o,es,ep,t,k o e,r⟩⟩
theorem ZiJ {prog:Program} {w:World} {h:Heap} {a:Addr} {led:Bool} (ha:h.get? a=some { cls:=.type "set",dict:=none,data:=.set #[] 0 (.fresh 0 0 led) }):AccS prog w a h [] :=
  ⟨[],rfl,PyProof.Rows.SetOf_congr ((PyProof.Rows.setObjOf_fresh (knd:=PySem.strKind prog w) led).setOf ha (by unfold scanBound; omega)) (fun _=>rfl) rfl⟩
section
variable {xr:XR} {Y:Cx} {call:Nat→List W→Mem→Res W} {gv:List T}
theorem Zcz {prog:Program} {w:World} {A:Around} {R:Result→Shared→Prop} {s:Shared} {elt:Expr} {gens:List Comprehension} {scope:Scope} {pos:Pos} {d:Nat} {target iter:Expr} {ifs:List Expr} {it acc:Value} {env:PySem.Env} (hg:gens[d]? = some ⟨target,iter,ifs,0⟩)
    (h0:codeAny (model prog w) A (.compLoop (.SetComp elt gens scope pos) d it acc env) R s)
    (h:wpAny (model prog w) A (pyIter it) (fun it' s'=>codeAny (model prog w) A (.compLoop (.SetComp elt gens scope pos) d it' acc env) R s') (notedBy (model prog w) A env fun x s'=>R (.error x) s') s) :
    codeAny (model prog w) A (.compStart (.SetComp elt gens scope pos) d it acc env) R s:=by
  refine codeAny_of_tree ?_
  show wpAny _ _ ((compStart (.SetComp elt gens scope pos) d it acc env).onRaise (fun x=>do noteFrame x env; standAt theWindowsPlace)) _ _ s
  refine wpAny_notedAt ?_
  unfold compStart
  have e:(clausesOf (.SetComp elt gens scope pos))[d]? = some ⟨target,iter,ifs,0⟩:=hg
  rw [e]
  show wpAny _ _ (ask >>= _) _ _ s
  refine wpAny_bind (wpAny_askSetting (wpAny_ite ?_))
  split
  · first
      | exact wpAny_bind (wpAny_pure (wpAny_pure (And.intro rfl h0)))
      | exact wpAny_pure (And.intro rfl h0)
  · first
      | exact wpAny_bind (wpAny_rule (wpAny_bind (wpAny_standAt (wpAny_bind (wpAny_mono h (fun it' s' h'=>wpAny_pure (And.intro rfl h')) fun _ _ x=>x)))))
      | (refine wpAny_bind (wpAny_rule ?_); show wpAny _ _ (standAt iter.pos >>= _) _ _ s; exact wpAny_bind (wpAny_standAt (wpAny_bind (wpAny_mono h (fun it' s' h'=>wpAny_pure (And.intro rfl h')) fun _ _ x=>x))))
theorem ZnD {pins:List (Addr×Obj)} {s:Shared} {σ:L2.St} {H:Hp} {D:Addr} {vs:List V} {x:Str} {t:Tok} {E:Value→Shared→Prop} {Q:Value→Shared→Prop} (I:Inv Y pins σ H s) (f:FpOk Y pins H D) (a:AccS Y.prog Y.w D s.heap vs) (hz:vs.length < 64)
    (q:∀ s',Inv Y pins σ H s'→AccS Y.prog Y.w D s'.heap (vs++[.str x])→Q .none s'):wpAny (model Y.prog Y.w) Y.A (PySem.call (.builtin "set.add") [.ref D,.str x t]) Q E s:=by
  obtain ⟨ss,rfl,hS⟩:=a
  have hl:=ZlP ss
  rw [List.length_map] at hz
  refine call_set_add (k:=x) (by show Value.isStrOf x (.str x t)=true; simp [Value.isStrOf]) rfl hS (by unfold scanBound; omega) fun h' sb hS'=>?_
  obtain ⟨f0,f1,f2,f3,f4,f5⟩:=f
  refine q _ (I.turned (t':=s.toks + 1) (it:=D) (fun b o hb e=>(sb.2 b hb).trans e) f0 f1 f3 f4 f5) ⟨ss++[x],by simp,PyProof.Rows.SetOf_congr hS' (fun k=>?_) ?_⟩
  · rw [ZiT]
    split
    · rename_i h
      by_cases hk:k=x
      · subst hk; simp [h]
      · simp [hk]
    · by_cases hk:k=x <;> simp [hk]
  · rw [ZiT]
    by_cases h:x∈dl ss <;> simp [h]
theorem ZkJ (hc:Y.calm=true) (hxe:∀ e s,¬ Y.xe e s) {elt:Expr} {gens:List Comprehension} {scope:Scope} {pos:Pos} {D:Addr} {ea:E} {target iter:Expr} {ifs:List Expr} {tg:Tg} {cs:Es} (hg:gens[0]? = some ⟨target,iter,ifs,0⟩)
    (pg:PG Y target (gT Y.K tg)) (pt:PTs Y call gv xr cs ifs) (hin:Ins xr Y call gv elt gens 0 (.emit ea)) (hdis:∀ i∈tgS tg,i ∉ innS (.emit ea)) (hlt:∀ i∈tgS tg++innS (.emit ea),i < Y.N.length)
    {pins:List (Addr×Obj)} {s:Shared} {σ:L2.St} {H:Hp} {cm:List Addr} {m m':Mem} {env:Env} {ts out:List T} {J:It} {it:Addr} {fp:List Addr} {tn:Nat→Heap→Prop} {vs:List V} (I:Inv Y pins σ H s) (hD:FpOk Y pins H D) (ha:AccS Y.prog Y.w D s.heap vs)
    (hT:Turn Y.prog Y.w Y.K target J fp it tn) (h0:tn 0 s.heap) (hf:∀ b∈fp,FpOk Y pins H b) (hDf:D ∉ fp) (hE:EnvR Y.K cm m H env σ) (hn:∀ i∈tgS tg++innS (.emit ea),∀ w,env[i]?≠some (some w)) (M:MemR Y.K cm m H) (hs:Src Y.K cm m H J ts)
    (ok:JD (turnF call gv cs (.emit ea)) tg ts env m = .ok out m') (hl:vs.length + out.length≤63) (hst:∀ t∈out,∃ c,t = .str c) :
    codeAny (model Y.prog Y.w) Y.A (.compLoop (.SetComp elt gens scope pos) 0 (.ref it) (.ref D) Y.env) (fun r s'=>r = .ok .next∧Zju Y (AccS Y.prog Y.w D) D (tgS tg++innS (.emit ea)) pins σ cm m H vs out m' s') s:=by
  obtain ⟨hnx,pe⟩:=hin
  refine Zdl hc hxe (ZdK Y.prog Y.w D) (Pt:=fun t=>∃ c,t = .str c) (br:=do (do let v ← eval elt Y.env; standAt elt.pos; let _ ← PySem.call (.builtin "set.add") [.ref D,v]); again (.compLoop (.SetComp elt gens scope pos) 0 (.ref it) (.ref D) Y.env)) rfl rfl (Zex hg hnx) pg pt hdis hlt ?_ I hD ha hT h0 hf hDf hE hn M hs ok hl hst
  intro pins s σ H cm m m' env out vs I hD ha hE hn M ok hl hst
  obtain ⟨w,m1,ok1,ok2⟩:=Zz ok
  obtain ⟨rfl,rfl⟩:=Zct ok2
  unfold ev at ok1
  obtain ⟨w1,m2,ok3,ok4⟩:=Zz ok1
  obtain ⟨t,m3,ok5,ok6⟩:=Zz ok4
  cases ok6
  obtain ⟨c,rfl⟩:=hst t (by simp)
  refine wpAny_bind (wpAny_bind (thn (ZlC pe (ZdJ (ZdK Y.prog Y.w D) I hD ha) hE M ok3) fun u s1 ⟨v,H1,I1,rv,cm1,x1,M1,r1⟩=>?_))
  obtain ⟨a1,d1⟩:=Zcw (ZdK Y.prog Y.w D) ha I1 fun o e=>List.mem_append_right _ (Qo (by simp) e)
  obtain ⟨x2,M2,r2⟩:=Zf4 M1 r1 ok5
  have I1':Inv Y pins σ H1 s1:=I1.unpinned
  cases RT.vstr r2
  obtain ⟨tk,rfl⟩:=rv
  refine wpAny_bind (wpAny_standAt (wpAny_bind (ZnD I1' ⟨d1,hD.2⟩ a1 (by simp at hl; omega) fun s2 I2 a2=>wpAny_pure (wpAny_pure ⟨rfl,σ,H1,cm1,[_],I2,x1.trans x2,M2,.cons r2 .nil,a2,.refl,d1⟩))))
end
section
variable {xr:XR} {X:Cx} {call:Nat→List W→Mem→Res W} {gv:List T}
theorem ZdL {P:Program} {w:World} {A:Around} {E:Value→Shared→Prop} {s:Shared} {Q:Value→Shared→Prop}
    (h:Q (.ref s.heap.objs.size) { s with heap:=s.heap.push { cls:=.type "set",dict:=none,data:=.set #[] 0 (.fresh 0 0 (ledS w)) } }):wpAny (model P w) A (newSet (.type "set")) Q E s:=by
  unfold newSet setsByText
  refine wpAny_bind (wpAny_bind (wpAny_askSetting (wpAny_pure ?_)))
  dsimp only
  simp only [newObj]
  exact wpAny_bind (wpAny_alloc (wpAny_pure h))
theorem Zg7 {elt target iter:Expr} {ifs:List Expr} {gs:List Comprehension} {scope:Scope} {pos pos':Pos} {N':List Str} {own:Nat} {keep:List Nat} {it:E} {tg:Tg} {cs:Es} {ea:E}
    (hc:X.calm=true) (S:CompSc X N' scope) (hown:N'.length=own + keep.length) (hkeep:∀ (i:Nat) x,N'[own + i]? = some x→∃ j,keep[i]? = some j∧X.N[j]? = some x∧(x,NameKind.free)∈scope.names)
    (hlocal:∀ x∈scope.names,x.2=NameKind.local→scope.names.lookup x.1=some .local)
    (pi:PI X target iter (tI X.K call gv xr it)) (hfs:∀ x,foldedSetIterable iter X.env x=pure x) (hY:Zge X xr call gv N' scope elt target ifs (⟨target,iter,ifs,0⟩ :: gs) tg cs (.emit ea))
    (hdis:∀ i∈tgS tg,i ∉ innS (.emit ea)) (hsl:∀ i∈tgS tg++innS (.emit ea),i < own)
    {pins:List (Addr×Obj)} {s:Shared} {σ:L2.St} {H:Hp} {cm:List Addr} {m m':Mem} {env:Env} {out:List T} {Q:Value→Shared→Prop} (I:Inv X pins σ H s) (hE:EnvR X.K cm m H env σ) (M:MemR X.K cm m H)
    (h63:out.length < 64) (hst:∀ t∈out,∃ c,t = .str c)
    (ok:ev call gv (.comp own keep it tg cs (.emit ea)) env m = .ok (.t (.lst out)) m')
    (fin:∀ (D C:Addr) (s3:Shared) (H3:Hp) (cm3:List Addr) (vs:List V),Inv X pins σ H3 s3→AccS X.prog X.w D s3.heap vs→Ext cm m H cm3 m' H3→MemR X.K cm3 m' H3→RTs X.K cm3 m' H3 out vs→(∃ mm,s3.heap.Ns C mm)→FpOk X pins H3 C→D≠C →
      compPost (model X.prog X.w) X.A X.xe none Q (.ref D) C (.ok .next) s3) :
    wpAny (model X.prog X.w) X.A (comprehension (.SetComp elt (⟨target,iter,ifs,0⟩ :: gs) scope pos) scope X.env pos' (newSet (.type "set")) false (eval iter X.env) none) Q X.xe s:=by
  obtain ⟨cl,hclos,hcl1,hcl2⟩:=ZcU (scope:=scope) (env:=X.env) fun x hx=>I.ok.has x (S.free x hx)
  unfold ev at ok
  obtain ⟨w1,m1,ok0,ok2⟩:=Zz ok
  have ok1:=ZbJ ok0
  obtain ⟨ts,m2,ok3,ok4⟩:=Zz ok2
  obtain ⟨out',m3,ok5,ok6⟩:=Zz ok4
  split at ok6 <;> cases ok6
  rename_i hlen
  have ok5':JD (turnF call gv cs (.emit ea)) tg ts (envC own keep env) m2 = .ok out m3:=ZbJ ok5
  have hz:=Qn
  refine wpAny_comprehension_free rfl hfs hclos S.kind hlocal (thn (pi pins s σ H (fun J H1=>∃ cm1,Ext cm m H cm1 m1 H1∧MemR X.K cm1 m1 H1∧Src X.K cm1 m2 H1 J ts) I ⟨env,cm,m,hE,M,by
      rw [ok1]
      exact fun cm1 H1 x M1=>⟨ts,m2,ok3,fun J hs=>⟨cm1,x,M1,hs⟩⟩⟩) fun xv s1 h1=>thn h1 fun itv s2 h2=>?_)
  obtain ⟨it2,fp,tn,J,H2,rfl,I2,T2,st2,f2,cm2,x2,M2,hs2⟩:=h2
  refine ZdL (wpAny_newFunctionEnv S.cell (by intro y hy; simp at hy) (fun h₁ hns₁ hsb₁=>?_) S.kind)
  dsimp only at hns₁ hsb₁ ⊢
  generalize hH2:s2.heap.push { cls:=.type "set",dict:=none,data:=.set #[] 0 (.fresh 0 0 (ledS X.w)) }=P2 at hns₁ hsb₁ ⊢
  have hCs:P2.objs.size=s2.heap.objs.size + 1:=by rw [← hH2,Heap.size_push]
  have hDC:s2.heap.objs.size≠P2.objs.size:=by omega
  have below:∀ b,b < s2.heap.objs.size→b≠P2.objs.size:=fun b hb=>by omega
  have old:∀ b o,s2.heap.get? b=some o→h₁.get? b=some o:=fun b o e=>hsb₁.extBut b o (below b (Heap.lt_size e)) (Heap.get?_push_of_some _ (hH2 ▸ Heap.get?_push_of_some _ e))
  have hacc:h₁.get? s2.heap.objs.size=some { cls:=.type "set",dict:=none,data:=.set #[] 0 (.fresh 0 0 (ledS X.w)) }:=hsb₁.extBut _ _ hDC (Heap.get?_push_of_some _ (hH2 ▸ Heap.get?_push_size _ rfl))
  have flt:∀ b∈fp,b < s2.heap.objs.size:=fun b hb=>by
    obtain ⟨o,e,_⟩:=T2.obj _ _ st2 b hb
    exact Heap.lt_size e
  have hb3:=Za0 M2 ok3
  have E2:EnvR X.K cm2 m2 H2 env σ:=(hE.ext x2 M M2).ext hb3.1 M2 hb3.2
  have hσl:(stC own keep σ).length=N'.length:=by unfold stC; simp [hown]
  have J0:Inv (JR X N' scope cl P2.objs.size s2 H2 fp) [] (stC own keep σ) H2 { s2 with heap:=h₁,toks:=s2.toks + ([]:List (Str×Value)).length } :=
    ZcT I2 S f2 flt (by omega) ⟨_,hns₁⟩ old hcl1 hcl2 hσl fun i x v e1 e2=>by
      unfold stC at e2
      by_cases hi:i < own
      · rw [List.getElem?_append_left (by simpa using hi),List.getElem?_replicate] at e2
        split at e2 <;> cases e2
      · rw [List.getElem?_append_right (by simpa using hi),List.length_replicate,List.getElem?_map] at e2
        have ei:N'[own + (i - own)]? = some x:=by rw [show own + (i - own)=i by omega]; exact e1
        obtain ⟨j,q1,q2,q3⟩:=hkeep (i - own) x ei
        rw [q1] at e2
        have e3:(σ[j]?).join=some v:=Option.some.inj e2
        refine ⟨j,q2,?_,q3⟩
        cases r:σ[j]? with
        | none=>rw [r] at e3; cases e3
        | some o=>rw [r] at e3; exact congrArg some e3
  obtain ⟨pg,pt,hin⟩:=hY cl P2.objs.size s2 H2 fp
  have fD:FpOk (JR X N' scope cl P2.objs.size s2 H2 fp) [] H2 s2.heap.objs.size:=by
    refine ⟨I2.hok.fresh (Nat.le_refl _),hDC,fun z=>?_,.inr (Nat.le_refl _),fun x c e z=>?_,fun p hp=>absurd (show p∈([]:List (Addr×Obj)) from hp) (by simp)⟩
    · have:=I2.stkSub _ z
      rcases List.mem_cons.mp this with q | q
      · exact absurd I2.lt (by rw [← q]; exact Nat.lt_irrefl _)
      · exact I2.nofs (Nat.le_refl _) q
    · obtain ⟨v,q⟩:=I2.cell x c (hcl1 x c e)
      exact absurd q.lt (by rw [z]; exact Nat.lt_irrefl _)
  have fF:∀ b∈fp,FpOk (JR X N' scope cl P2.objs.size s2 H2 fp) [] H2 b:=fun b hb=>by
    refine ⟨(f2 b hb).1,below b (flt b hb),fun z=>?_,.inl hb,fun x c e=>(f2 b hb).2.2.2.2.1 x c (hcl1 x c e),fun p hp=>absurd (show p∈([]:List (Addr×Obj)) from hp) (by simp)⟩
    rcases List.mem_cons.mp (I2.stkSub b z) with q | q
    · exact (f2 b hb).2.1 q
    · exact (f2 b hb).2.2.1 q
  have st2':tn 0 h₁:=T2.keep _ _ _ st2 fun b _ o e=>old b o e
  have hDf:s2.heap.objs.size ∉ fp:=fun z=>absurd (flt _ z) (Nat.lt_irrefl _)
  have hnone:∀ i∈tgS tg++innS (.emit ea),∀ w,(envC own keep env)[i]?≠some (some w):=fun i hi w e=>by
    unfold envC at e
    rw [List.getElem?_append_left (by simpa using hsl i hi),List.getElem?_replicate] at e
    split at e <;> cases e
  have go:=ZkJ (Y:=JR X N' scope cl P2.objs.size s2 H2 fp) (xr:=xr) (call:=call) (gv:=gv) hc (fun _ _ z=>z) (elt:=elt) (scope:=scope) (pos:=pos) (D:=s2.heap.objs.size) (ea:=ea) (gens:=⟨target,iter,ifs,0⟩ :: gs) (target:=target) (iter:=iter) (ifs:=ifs) (tg:=tg) (cs:=cs) rfl pg pt hin hdis (fun i hi=>by
    show i < N'.length
    rw [hown]
    have:=hsl i hi
    omega) J0 fD (vs:=[]) (ZiJ hacc) T2 st2' fF hDf (ZlO E2) hnone hb3.2 hs2 ok5' (by rw [List.length_nil,Nat.zero_add]; omega) hst
  have fine:∀ r s3,(r = .ok .next∧Zju (JR X N' scope cl P2.objs.size s2 H2 fp) (AccS X.prog X.w s2.heap.objs.size) s2.heap.objs.size (tgS tg++innS (.emit ea)) [] (stC own keep σ) cm2 m2 H2 [] out m3 s3)→compPost (model X.prog X.w) X.A X.xe none Q (.ref s2.heap.objs.size) P2.objs.size r s3:=fun r s3 ⟨hr,σ3,H3,cm3,vs3,J3,x3,M3,r3,a3,ag3,d3⟩=>by
    subst hr
    rw [List.nil_append] at a3
    obtain ⟨x4,M4,sm⟩:=XN M2 ok3 x3 M3
    have I3:Inv X pins σ H3 s3:=ZcS I2 f2 J3
    have fX:∀ b,s2.heap.objs.size≤b→∀ H',H' b=none→FpOk X pins H' b:=fun b hb H' hn=>I2.fpOk hb hn
    obtain ⟨mm,hmm,_⟩:=J3.loc
    have neC:P2.objs.size≠s2.heap.objs.size:=Ne.symm hDC
    exact fin s2.heap.objs.size P2.objs.size s3 H3 cm3 vs3 I3 a3 (x2.trans x4) M4 (ZD (fun _ _ z=>sm _ _ z) r3) ⟨mm,hmm⟩ (fX _ (by omega) _ J3.free) hDC
  exact codeAny_mono (Zcz (gens:=⟨target,iter,ifs,0⟩ :: gs) rfl go (T2.self X.A 0 { s2 with heap:=h₁,toks:=s2.toks + ([]:List (Str×Value)).length } _ _ st2' go)) fine
end
end Mi
end
noncomputable section
namespace Mi
open PySem PySem.Spec PyProof.Rows L2
section
variable {K:PySem.W.Frag} {cm:List Addr} {m:Mem} {H:Hp} {xr:XR} {X:Cx} {call:Nat→List W→Mem→Res W} {gv:List T}
theorem RTs.nil_iff {ts:List T} {vs:List V} (h:RTs K cm m H ts vs):(!ts.isEmpty) = !vs.isEmpty:=by cases h <;> rfl
theorem tru_of {w:W} {v:V} {t:T} (M:MemR K cm m H) (r:RW K cm m H w v) (e:view w m=some t) (f:fitT t=true):TruV K v H (ZfH t):=by
  have hz:=Qn
  cases t with
  | lst ts =>
    obtain ⟨a,vs,rfl,h1,h2⟩:=Z7 M r e
    exact .inl ⟨vs,.of h1,h2.nil_iff⟩
  | non=>cases (Zj r e (fun _ z=>by cases z)).vnon; exact rfl
  | bl b=>cases (Zj r e (fun _ z=>by cases z)).vbl; exact rfl
  | int i=>cases (Zj r e (fun _ z=>by cases z)).vint; exact rfl
  | str cs =>
    cases (Zj r e (fun _ z=>by cases z)).vstr
    have hl:cs.length≤lim:=of_decide_eq_true f
    refine ⟨by rw [Zav]; omega,?_⟩
    rw [Zav]
    cases cs with
    | nil=>rfl
    | cons c cs =>
      show true=_
      symm
      simp
      omega
  | tup ts =>
    obtain ⟨a,vs,rfl,h1,h2⟩:=(Zj r e (fun _ z=>by cases z)).itup
    exact .inr (.inl ⟨vs,h1,h2.nil_iff⟩)
  | dct ks ts =>
    have h:=Zj r e (fun _ z=>by cases z)
    cases h with
    | @dct a ks ts vs h1 h2 h3 h4 h5 =>
      refine .inr (.inr ⟨_,h1,?_⟩)
      cases ks with
      | nil=>rfl
      | cons k ks =>
        cases vs with
        | nil=>simp at h3
        | cons v vs=>rfl
  | scr ns =>
    obtain ⟨a,rfl,h1⟩:=(Zj r e (fun _ z=>by cases z)).vscr
    exact .inl ⟨_,h1.sq,by cases ns <;> rfl⟩
theorem Zhz {w:W} {k:Bool→List Addr→Mem→Hp→Prop} (h:OkR K (JW w m) xr cm m H k):∃ t,view w m=some t∧fitT t=true∧OkR K (.ok (ZfH t) m) xr cm m H k:=by
  unfold JW at h
  split at h
  · split at h
    · exact ⟨_,‹_›,‹_›,h⟩
    · exact h.elim
  · exact h.elim
theorem ZdG {w:W} {k:Bool→List Addr→Mem→Hp→Prop} (h:OkR K (ZeJ w m) xr cm m H k):∃ b,w = .t (.bl b)∧OkR K (.ok b m) xr cm m H k:=by
  unfold ZeJ at h
  split at h
  · exact ⟨_,rfl,h⟩
  · exact h.elim
theorem pt_of {e:Expr} {a:E} (h:PE X e (tE X.K call gv xr a)) (he:∀ whole,isTrue e X.env whole=(do let v ← whole; standAt e.pos; holding [v] (truthy v))):PT X e (tT X.K call gv xr a):=by
  refine PT.mono (ZjT h he) fun σ H Q ⟨env,cm,m,hE,M,ho⟩=>⟨env,cm,m,hE,M,ho.bind.mono fun w cm1 m1 H1 x1 M1 o1 v rv=>?_⟩
  obtain ⟨t,e1,f1,o2⟩:=Zhz o1
  exact ⟨ZfH t,tru_of M1 rv e1 f1,OkR.now o2 M1⟩
theorem ZmI {a b:Expr} {rest:List Expr} {pos:Pos} {ea eb:E} (ha:PE X a (tE X.K call gv xr ea)) (hb:PE X (.BoolOp .And (b :: rest) pos) (tE X.K call gv xr eb)):PE X (.BoolOp .And (a :: b :: rest) pos) (tE X.K call gv xr (.and ea eb)):=by
  refine PE.mono (pe_and ha hb) ?_
  rintro σ H Q ⟨env,cm,m,hE,M,ho⟩
  unfold ev at ho
  refine ⟨env,cm,m,hE,M,ho.bind.mono fun w cm1 m1 H1 x1 M1 o1 v rv=>?_⟩
  obtain ⟨c,rfl,o2⟩:=ZdG o1.bind
  cases RT.vbl rv
  have o3:=OkR.now o2 M1
  refine ⟨c,rfl,?_⟩
  cases c with
  | true=>exact iteT ⟨env,cm1,m1,hE.ext x1 M M1,M1,o3⟩
  | false=>exact iteF (OkR.now o3 M1 _ (.bl false))
theorem pe_orW {a b:Expr} {rest:List Expr} {pos:Pos} {ea eb:E} (ha:PE X a (tE X.K call gv xr ea)) (hb:PE X (.BoolOp .Or (b :: rest) pos) (tE X.K call gv xr eb)):PE X (.BoolOp .Or (a :: b :: rest) pos) (tE X.K call gv xr (.or ea eb)):=by
  refine PE.mono (pe_or ha hb) ?_
  rintro σ H Q ⟨env,cm,m,hE,M,ho⟩
  unfold ev at ho
  refine ⟨env,cm,m,hE,M,ho.bind.mono fun w cm1 m1 H1 x1 M1 o1 v rv=>?_⟩
  obtain ⟨c,rfl,o2⟩:=ZdG o1.bind
  cases RT.vbl rv
  have o3:=OkR.now o2 M1
  refine ⟨c,rfl,?_⟩
  cases c with
  | true=>exact iteT (OkR.now o3 M1 _ (.bl true))
  | false=>exact iteF ⟨env,cm1,m1,hE.ext x1 M M1,M1,o3⟩
theorem Zmt {a:Expr} {pos:Pos} {ea:E} (ha:PE X a (tE X.K call gv xr ea)):PE X (.UnaryOp .Not a pos) (tE X.K call gv xr (.not ea)):=by
  refine PE.mono (pe_not ha) ?_
  rintro σ H Q ⟨env,cm,m,hE,M,ho⟩
  unfold ev at ho
  refine ⟨env,cm,m,hE,M,ho.bind.mono fun w cm1 m1 H1 x1 M1 o1 v rv=>?_⟩
  obtain ⟨c,rfl,o2⟩:=ZdG o1.bind
  cases RT.vbl rv
  exact ⟨c,rfl,OkR.now (OkR.now o2 M1) M1 _ (.bl _)⟩
theorem ZeV {a:E} {σ:L2.St} {H:Hp} {env:Env} {cm:List Addr} {m:Mem} {f:Bool→Mem→Res W} {Q:Bool→Hp→Prop} (hE:EnvR K cm m H env σ) (M:MemR K cm m H)
    (ho:OkR K (((ev call gv a env m).bind fun x m=>(ZeJ x m).bind f).bind JW) xr cm m H fun k _ _ H'=>Q k H') :
    tT K call gv xr a σ H fun c H1=>∃ cm1 m1,Ext cm m H cm1 m1 H1∧MemR K cm1 m1 H1∧OkR K ((f c m1).bind JW) xr cm1 m1 H1 fun k _ _ H'=>Q k H':=by
  refine ⟨env,cm,m,hE,M,?_⟩
  cases h:ev call gv a env m with
  | stuck=>rw [h] at ho; exact ho.elim
  | exc e m'=>rw [h] at ho; exact ho
  | ok w m1 =>
    rw [h] at ho
    have ho':OkR K (((ZeJ w m1).bind f).bind JW) xr cm m H fun k _ _ H'=>Q k H':=ho
    cases w with
    | f a=>exact ho'.elim
    | c i=>exact ho'.elim
    | t x =>
      cases x with
      | bl b=>exact fun cm1 H1 x1 M1=>⟨cm1,m1,x1,M1,OkR.shift ho' x1⟩
      | _=>exact ho'.elim
theorem Zl8 {a b:Expr} {rest:List Expr} {pos:Pos} {ea eb:E} (ha:PT X a (tT X.K call gv xr ea)) (hb:PW X (.BoolOp .And (b :: rest) pos) (tT X.K call gv xr eb)):PW X (.BoolOp .And (a :: b :: rest) pos) (tT X.K call gv xr (.and ea eb)):=by
  rintro whole pins s σ H Q I ⟨env,cm,m,hE,M,ho⟩
  unfold ev at ho
  obtain ⟨env',cm',m',hE',M',ho'⟩:=ZeV hE M ho
  refine pw_and ha hb whole pins s σ H Q I ⟨env',cm',m',hE',M',ho'.mono fun c cm1 m1 H1 _ _ ⟨cm2,m2,x2,M2,o2⟩=>?_⟩
  cases c with
  | true=>exact iteT ⟨env,cm2,m2,hE.ext x2 M M2,M2,o2⟩
  | false=>exact iteF (OkR.now (show OkR X.K (.ok false m2) xr cm2 m2 H1 _ from o2) M2)
theorem pw_orW {a b:Expr} {rest:List Expr} {pos:Pos} {ea eb:E} (ha:PT X a (tT X.K call gv xr ea)) (hb:PW X (.BoolOp .Or (b :: rest) pos) (tT X.K call gv xr eb)):PW X (.BoolOp .Or (a :: b :: rest) pos) (tT X.K call gv xr (.or ea eb)):=by
  rintro whole pins s σ H Q I ⟨env,cm,m,hE,M,ho⟩
  unfold ev at ho
  obtain ⟨env',cm',m',hE',M',ho'⟩:=ZeV hE M ho
  refine pw_or ha hb whole pins s σ H Q I ⟨env',cm',m',hE',M',ho'.mono fun c cm1 m1 H1 _ _ ⟨cm2,m2,x2,M2,o2⟩=>?_⟩
  cases c with
  | true=>exact iteT (OkR.now (show OkR X.K (.ok true m2) xr cm2 m2 H1 _ from o2) M2)
  | false=>exact iteF ⟨env,cm2,m2,hE.ext x2 M M2,M2,o2⟩
theorem Zma {a:Expr} {pos:Pos} {ea:E} (ha:PT X a (tT X.K call gv xr ea)):PT X (.UnaryOp .Not a pos) (tT X.K call gv xr (.not ea)):=by
  refine PT.mono (pt_not ha) ?_
  rintro σ H Q ⟨env,cm,m,hE,M,ho⟩
  unfold ev at ho
  obtain ⟨env',cm',m',hE',M',ho'⟩:=ZeV hE M ho
  exact ⟨env',cm',m',hE',M',ho'.mono fun c cm1 m1 H1 _ _ ⟨cm2,m2,x2,M2,o2⟩=>OkR.now (show OkR X.K (.ok (!c) m2) xr cm2 m2 H1 _ from o2) M2⟩
end
end Mi
end
noncomputable section
namespace Mi
open PySem PySem.Spec PyProof.Rows L2
open Builtin
theorem ZbG:fillsNumberSlot (.type "tuple") "mul" = pure false :=
  PySem.fillsNumberSlot_seq (id:="tuple.__mul__") (r:=some (.builtin "tuple.__rmul__")) F.slot_tuple_mul.lookup (by decide +kernel) F.slot_tuple_rmul.lookup (by decide +kernel)
theorem ZdZ:seqRepeat? (.type "tuple")=pure (some (.builtin "tuple.__mul__")):=by
  unfold seqRepeat?
  rw [PySem.seqSlot_of (T:="tuple") (name:="__mul__") (id:="tuple.__mul__") F.slot_tuple_mul.lookup (by decide +kernel),PySem.seqSlot_of (T:="tuple") (name:="__rmul__") (id:="tuple.__rmul__") F.slot_tuple_rmul.lookup (by decide +kernel)]
  rfl
theorem Zgv (a:Int) (t:Tok) (l:Addr) (items:Array Value) (n:Nat) (dd:Option Addr) (sl:Array (Option Value)) :
    Meets (Builtin.«int.__rmul__» ⟨[.int a t,.ref l],[]⟩) (fun _ R s=>s.heap.get? l=some { cls:=.type "tuple",dict:=dd,data:=.seq items n,slots:=sl }∧R (.ok (.ret Value.notImplemented)) s) :=
  .of_wp fun prog w A R s h=>by obtain ⟨hp,g,d,tk,os⟩:=s; obtain ⟨hl,h⟩:=h; wp_walk; exact ⟨_,rfl,h⟩
theorem tmul0 (l:Addr) (items:Array Value) (n:Nat) (dd:Option Addr) (sl:Array (Option Value)) (k:Int) (u:Tok) (h1:(decide (k < -(2 ^ 63)) || decide (k ≥ 2 ^ 63))=false) (hc:(items.isEmpty || k == 1)=true) :
    Meets (Builtin.«tuple.__mul__» ⟨[.ref l,.int k u],[]⟩) (fun _ R s=>s.heap.get? l=some { cls:=.type "tuple",dict:=dd,data:=.seq items n,slots:=sl }∧R (.ok (.ret (Value.ref l))) s) :=
  .of_wp fun prog w A R s h=>by obtain ⟨hp,g,d,tk,os⟩:=s; obtain ⟨hl,h⟩:=h; have f1:=AutoSeq1.idx_int; have f2:=AutoSeq1.sub_tuple_tuple; wp_walk; refine wpAny_ite_false (decide_eq_false (Bool.eq_false_iff.mp h1)) ?_; wp_walk using wpAny_loadPart' hl; exact ⟨_,rfl,h⟩
theorem tmul1 (l:Addr) (items:Array Value) (n:Nat) (dd:Option Addr) (sl:Array (Option Value)) (k:Int) (u:Tok) (h1:(decide (k < -(2 ^ 63)) || decide (k ≥ 2 ^ 63))=false) (hc:¬ (items.isEmpty || k == 1)=true) (hc1:(decide (k≤0) || items.isEmpty)=true) :
    Meets (Builtin.«tuple.__mul__» ⟨[.ref l,.int k u],[]⟩) (fun _ R s=>s.heap.get? l=some { cls:=.type "tuple",dict:=dd,data:=.seq items n,slots:=sl }∧R (.ok (.ret (Value.ref s.heap.objs.size))) { s with heap:=s.heap.push { cls:=Value.type "tuple",data:=Data.seq #[] },toks:=s.toks }) :=
  .of_wp fun prog w A R s h=>by obtain ⟨hp,g,d,tk,os⟩:=s; obtain ⟨hl,h⟩:=h; have f1:=AutoSeq1.idx_int; have f2:=AutoSeq1.sub_tuple_tuple; wp_walk; refine wpAny_ite_false (decide_eq_false (Bool.eq_false_iff.mp h1)) ?_; wp_walk using wpAny_loadPart' hl; exact ⟨_,rfl,h⟩
theorem tmul2 (l:Addr) (items:Array Value) (n:Nat) (dd:Option Addr) (sl:Array (Option Value)) (k:Int) (u:Tok) (h1:(decide (k < -(2 ^ 63)) || decide (k ≥ 2 ^ 63))=false) (hc:¬ (items.isEmpty || k == 1)=true) (hc1:¬ (decide (k≤0) || items.isEmpty)=true)
    (hc2:¬ (items.size:Int) * k > (2 ^ 63 - 1) / 8) (hc3:¬ Tuple.tupleTooMany ((items.size:Int) * k)=true) (hz:(List.foldl (fun x1 x2=>x1++x2) #[] (List.replicate k.toNat items)).size≤sizeLine) :
    Meets (Builtin.«tuple.__mul__» ⟨[.ref l,.int k u],[]⟩) (fun _ R s=>s.heap.get? l=some { cls:=.type "tuple",dict:=dd,data:=.seq items n,slots:=sl }∧R (.ok (.ret (Value.ref s.heap.objs.size))) { s with heap:=s.heap.push { cls:=Value.type "tuple",data:=Data.seq (List.foldl (fun x1 x2=>x1++x2) #[] (List.replicate k.toNat items)) },toks:=s.toks }) :=
  .of_wp fun prog w A R s h=>by obtain ⟨hp,g,d,tk,os⟩:=s; obtain ⟨hl,h⟩:=h; have f1:=AutoSeq1.idx_int; have f2:=AutoSeq1.sub_tuple_tuple; wp_walk; refine wpAny_ite_false (decide_eq_false (Bool.eq_false_iff.mp h1)) ?_; wp_walk using wpAny_loadPart' hl; refine wpAny_ite_false (decide_eq_false hc2) ?_; wp_walk using wpAny_loadPart' hl; exact ⟨_,rfl,h⟩
section
variable {X:Cx}
theorem Zgj {n:Nat} (h:n≤sizeLine):¬ Tuple.tupleTooMany (n:Int)=true:=by
  unfold Tuple.tupleTooMany
  intro hc
  have:=of_decide_eq_true hc
  have e:=sizeLine_eq
  omega
theorem ZmL:OpR X (binaryOp .Mult) (fun x y H Q=>∃ l k xs,x = .ref l∧y = .int k∧SqT X.K H l xs∧(-(2 ^ 63)≤k∧k < 2 ^ 63)∧xs.length * k.toNat≤sizeLine∧((xs=[]∨k=1)→Q (.ref l) H) ∧
    (¬ (xs=[]∨k=1)→∀ p,H p=none→Q (.ref p) (upd H p (.tup (List.replicate k.toNat xs).flatten)))):=by
  intro pins s σ H x y v u Q I rx ry h
  obtain ⟨l,k,xs,rfl,rfl,hH,⟨h1,h2⟩,hz,q1,q2⟩:=h
  cases rx
  obtain ⟨t,rfl⟩:=ry
  obtain ⟨its,r,⟨⟨cls,dd,data,sl⟩,ho,hc,n,hd⟩,hz2⟩:=I.tuple hH
  simp only at hc hd
  subst hc hd
  have hl:=r.length
  have g1:(decide (k < -(2 ^ 63)) || decide (k ≥ 2 ^ 63))=false:=by
    rw [decide_eq_false (by omega),decide_eq_false (by omega)]; rfl
  have road:∀ {Q':Value→Shared→Prop},wpAny (model X.prog X.w) X.A (call (.builtin "tuple.__mul__") [.ref l,.int k t]) Q' X.xe s→wpAny (model X.prog X.w) X.A (binaryOp .Mult (.ref l) (.int k t)) Q' X.xe s:=fun hq =>
    wpAny_binaryOp_repeat_ref (T:="tuple") (U:="int") (by decide) ⟨_,ho,rfl⟩ (fun s'=>typeIs_int s' k t) ZbG F.fills_int_mul F.slot_int_rmul ZdZ F.slot_int_index.lookup
      (call_meets F.slot_int_rmul (typeIs_int s k t) F.entry_int_rmul (F.args_int_rmul_2 _ _) (Zgv k t l its.toArray n dd sl) ⟨ho,rfl,⟨_,ho,rfl⟩,hq⟩)
  refine road ?_
  by_cases hc:xs=[]∨k=1
  · have g2:(its.toArray.isEmpty || k == 1)=true:=by
      rcases hc with rfl | rfl
      · cases r; rfl
      · simp
    exact call_meets F.slot_tuple_mul ⟨_,ho,rfl⟩ F.entry_tuple_mul (F.args_tuple_mul_2 _ _) (tmul0 l its.toArray n dd sl k t g1 g2) ⟨ho,.ref l,H,I,rfl,q1 hc⟩
  · have hne:its≠[]:=fun e=>hc (.inl (r.nil_iff.mp e))
    have g2:¬ (its.toArray.isEmpty || k == 1)=true:=by
      intro hh
      rw [Bool.or_eq_true] at hh
      rcases hh with hh | hh
      · exact hne (by simpa using hh)
      · exact hc (.inr (eq_of_beq hh))
    have fin:∀ arr:Array Value,arr=(List.replicate k.toNat its).flatten.toArray→EP X pins σ Q (.ref s.heap.objs.size) { s with heap:=s.heap.push { cls:=.type "tuple",data:=.seq arr } }:=fun arr e=>by
      subst e
      refine ⟨.ref s.heap.objs.size,_,I.laid (t':=s.toks) (o:=.tup (List.replicate k.toNat xs).flatten) (fun b ob q=>Heap.get?_push_of_some _ q) (Nat.le_refl _) ?_,rfl,q2 hc _ (I.hok.fresh (Nat.le_refl _))⟩
      exact ⟨by rw [len_rep,Nat.mul_comm]; exact hz,_,r.rep k.toNat,TupP.new _ _⟩
    by_cases h0:k≤0
    · have g3:(decide (k≤0) || its.toArray.isEmpty)=true:=by rw [decide_eq_true h0]; rfl
      refine call_meets F.slot_tuple_mul ⟨_,ho,rfl⟩ F.entry_tuple_mul (F.args_tuple_mul_2 _ _) (tmul1 l its.toArray n dd sl k t g1 g2 g3) ⟨ho,fin #[] ?_⟩
      have:k.toNat=0:=by omega
      rw [this]; rfl
    · have g3:¬ (decide (k≤0) || its.toArray.isEmpty)=true:=by
        intro hh
        rw [Bool.or_eq_true] at hh
        rcases hh with hh | hh
        · exact h0 (of_decide_eq_true hh)
        · exact hne (by simpa using hh)
      have hk:(k.toNat:Int)=k:=by omega
      have hs:(its.toArray.size:Int) * k=((xs.length * k.toNat:Nat):Int):=by
        rw [List.size_toArray,← hl,Int.natCast_mul,hk]
      have hsl:(sizeLine:Nat)=16777216:=sizeLine_eq
      have hf:List.foldl (fun x1 x2=>x1++x2) #[] (List.replicate k.toNat its.toArray)=(List.replicate k.toNat its).flatten.toArray:=by
        have:=foldl_rep its k.toNat []
        rw [List.nil_append] at this
        exact this
      refine call_meets F.slot_tuple_mul ⟨_,ho,rfl⟩ F.entry_tuple_mul (F.args_tuple_mul_2 _ _) (tmul2 l its.toArray n dd sl k t g1 g2 g3 (by rw [hs]; omega) (by rw [hs]; exact Zgj hz) ?_) ⟨ho,fin _ hf⟩
      rw [hf,List.size_toArray,len_rep,← hl,Nat.mul_comm]
      exact hz
end
end Mi
end
noncomputable section
namespace Mi
open PySem PySem.Spec PyProof.Rows L2
section
variable {K:PySem.W.Frag} {cm:List Addr} {m:Mem} {H:Hp} {xr:XR} {X:Cx} {call:Nat→List W→Mem→Res W} {gv:List T}
theorem Zmp {i:Nat} {x:Str} {pos:Pos} (hN:X.N[i]? = some x) (hv:Vis X.env.scope x) (hd:(x == ("__debug__" : Str))=false) (hcd:(x == ("__classdict__" : Str))=false):PE X (.Name x pos) (tE X.K call gv xr (.var i)):=by
  refine PE.mono (pe_var hN hv hd hcd) ?_
  rintro σ H Q ⟨env,cm,m,hE,M,ho⟩
  unfold ev at ho
  split at ho
  · rename_i w e
    obtain ⟨v,h1,h2⟩:=hE i w e
    exact ⟨v,h1,OkR.now ho M v h2⟩
  · exact ho.elim
theorem ZmA {i:Int} {j pos}:PE X (.Constant (.int i) j pos) (tE X.K call gv xr (.con (.int i))):=PE.mono pe_int fun σ H Q ⟨env,cm,m,hE,M,ho⟩=>by
  unfold ev at ho
  exact OkR.now ho M _ (.int i)
theorem pe_blW {b:Bool} {j pos}:PE X (.Constant (.bool b) j pos) (tE X.K call gv xr (.con (.bl b))):=PE.mono pe_bl fun σ H Q ⟨env,cm,m,hE,M,ho⟩=>by
  unfold ev at ho
  exact OkR.now ho M _ (.bl b)
theorem Zmu {j pos}:PE X (.Constant .none j pos) (tE X.K call gv xr (.con .non)):=PE.mono pe_non fun σ H Q ⟨env,cm,m,hE,M,ho⟩=>by
  unfold ev at ho
  exact OkR.now ho M _ .non
theorem Zlw {x:Str} {cs:List Nat} (h:x.cps.toList=cs):x=⟨cs.toArray⟩:=by
  subst h
  cases x
  simp
theorem Zmr {x:Str} {cs:List Nat} {j pos} (h:x.cps.toList=cs):PE X (.Constant (.str x) j pos) (tE X.K call gv xr (.con (.str cs))):=PE.mono pe_str fun σ H Q ⟨env,cm,m,hE,M,ho⟩=>by
  unfold ev at ho
  have:=OkR.now ho M _ (.str cs)
  rw [Zlw h]
  exact this
theorem ZgL:OpR X (binaryOp .Mult) (r2 X.K xr (fBin .Mult)):=by
  rintro pins s σ H x y v u Q I rx ry ⟨cm,m,a,b,M,ra,rb,ho⟩
  obtain ⟨t,e,ho⟩:=JN ho
  obtain ⟨ta,tb,ea,eb,e⟩:=ZdH e
  change mulT ta tb=some t at e
  unfold mulT at e
  split at e
  rotate_left
  · cases e
  rename_i k
  split at e
  · split at e <;> cases e
    cases (Zj ra ea (fun _ z=>by cases z)).vint
    cases (Zj rb eb (fun _ z=>by cases z)).vint
    exact ZmO pins s σ H _ _ v u Q I rx ry ⟨_,_,rfl,rfl,‹_›,ans ho M (.int _)⟩
  · split at e <;> cases e
    rename_i ts hc
    obtain ⟨p,vs,rfl,h1,r1⟩:=(Zj ra ea (fun _ z=>by cases z)).itup
    cases (Zj rb eb (fun _ z=>by cases z)).vint
    have l1:=r1.length
    have hz:=Qn
    have hl:(lim:Int) < 2 ^ 63:=by unfold lim; decide
    refine ZmL pins s σ H _ _ v u Q I rx ry ⟨p,_,vs,rfl,rfl,h1,by omega,by rw [← l1]; omega,fun hq=>?_,fun _ l hl=>Zc1 ho M (Za8 r1 _) hl⟩
    have e:repT ts k.toNat=ts:=by
      rcases hq with rfl | rfl
      · cases r1; simp [repT]
      · simp [repT]
    rw [e] at ho
    exact ans ho M (.mtup h1 r1)
  · split at e <;> cases e
    rename_i hc
    obtain ⟨p,vs,rfl,h1,r1⟩:=Z7 M ra ea
    cases (Zj rb eb (fun _ z=>by cases z)).vint
    have l1:=r1.length
    have hz:=Qn
    have hl:(lim:Int) < 2 ^ 63:=by unfold lim; decide
    exact op_rep pins s σ H _ _ v u Q I rx ry ⟨p,_,vs,rfl,rfl,h1,by omega,by omega,by rw [← l1]; omega,fun l hl=>Zcv ho M (Za8 r1 _) hl⟩
  · split at e <;> cases e
    rename_i cs hc
    cases (Zj ra ea (fun _ z=>by cases z)).vstr
    cases (Zj rb eb (fun _ z=>by cases z)).vint
    obtain ⟨tx,rfl⟩:=rx
    obtain ⟨ty,rfl⟩:=ry
    rcases hc with rfl | rfl
    · refine SB.mul ⟨by decide,fun h=>absurd (by decide) h,fun h=>absurd (by decide) h⟩ fun t' k=>⟨.str ⟨([]:List Nat).toArray⟩,H,I.tok _,⟨t',?_⟩,ans ho M (.str _)⟩
      rfl
    · refine SB.mul ⟨by decide,fun _ h=>?_,fun _ h=>?_⟩ fun t' k=>⟨.str ⟨cs.toArray⟩,H,I.tok _,⟨t',?_⟩,?_⟩
      · simp at h
      · simp at h
      · unfold Txt.mul; rw [if_neg (by decide),if_pos (by simp)]
      · have:=ans ho M (.str _)
        rw [show repT cs (1:Int).toNat=cs by simp [repT]] at this
        exact this
  all_goals cases e
theorem op_no {op:Operator} (h:∀ x y,binT op x y=none):OpR X (binaryOp op) (r2 X.K xr (fBin op)):=by
  rintro pins s σ H x y v u Q I rx ry ⟨cm,m,a,b,M,ra,rb,ho⟩
  obtain ⟨t,e,ho⟩:=JN ho
  obtain ⟨ta,tb,ea,eb,e⟩:=ZdH e
  rw [h] at e
  cases e
theorem op_bin (op:Operator):OpR X (binaryOp op) (r2 X.K xr (fBin op)):=by
  cases op <;> first | exact ZgN | exact ZgJ | exact ZgL | exact Zfd | exact ZgM | exact ZgK | exact op_no fun x y=>by cases x <;> cases y <;> rfl
variable {a b c:Expr} {ea eb ec:E} {pos:Pos}
theorem ZmH {op:Operator} (ha:PE X a (tE X.K call gv xr ea)) (hb:PE X b (tE X.K call gv xr eb)):PE X (.BinOp a op b pos) (tE X.K call gv xr (.bin op ea eb)) :=
  PE.mono (pe_op (op_bin op) ha hb) (ZjH fun env m=>by rw [ev]; rfl)
def fNeg (x:W) (m:Mem):Res W:=pur ((view x m).bind fun x=>match x with
    | .int i=>some (.int (-i))
    | _=>none) m
theorem ZlY:UnR X (unaryOp .USub) (r1 X.K xr fNeg):=by
  rintro pins s σ H x v Q I rx ⟨cm,m,a,M,ra,ho⟩
  obtain ⟨t,e,ho⟩:=JN ho
  cases q:view a m with
  | none=>rw [q] at e; cases e
  | some ta =>
    rw [q] at e
    cases ta with
    | int i =>
      cases e
      cases (Zj ra q (fun _ z=>by cases z)).vint
      exact un_neg pins s σ H _ v Q I rx ⟨_,rfl,ans ho M (.int _)⟩
    | _=>cases e
theorem Zmv (ha:PE X a (tE X.K call gv xr ea)):PE X (.UnaryOp .USub a pos) (tE X.K call gv xr (.neg ea)) :=
  PE.mono (pe_un ZlY ha) (t1_of fun env m=>by rw [ev]; rfl)
theorem ZmB {op:CmpOp} (ha:PE X a (tE X.K call gv xr ea)) (hb:PE X b (tE X.K call gv xr eb)) (hm:behindInMarks op b=false) (hu:X.A.units + 64 < cLine):PE X (.Compare a [op] [b] pos) (tE X.K call gv xr (.cmp op ea eb)) :=
  PE.mono (ZmC (ZcK hu op) ha hb hm) (ZjH fun env m=>by rw [ev]; rfl)
theorem ZiM {op:CmpOp} {x y w:W} {m m':Mem} (h:fCmp op x y m = .ok w m'):∃ k,w = .t (.bl k)∧m' = m:=by
  unfold fCmp at h
  cases q:((view x m).bind fun x=>(view y m).bind fun y=>cmpT op x y) with
  | none=>rw [q] at h; cases h
  | some k=>rw [q] at h; cases h; exact ⟨k,rfl,rfl⟩
theorem ZhN {f:Env→Mem→Res W} {e:Expr} {te:TE} {a:E} (h:PT X e (Zl2 te)) (hk:∀ env m w m',ev call gv a env m = .ok w m'→∃ k,w = .t (.bl k)) (he:∀ σ H Q,tE X.K call gv xr a σ H Q→te σ H Q):PT X e (tT X.K call gv xr a):=by
  refine PT.mono h fun σ H Q ⟨env,cm,m,hE,M,ho⟩=>he σ H _ ⟨env,cm,m,hE,M,?_⟩
  cases q:ev call gv a env m with
  | stuck=>rw [q] at ho; exact ho.elim
  | exc e m'=>rw [q] at ho; exact ho
  | ok w m' =>
    obtain ⟨k,rfl⟩:=hk env m w m' q
    rw [q] at ho
    intro cm1 H1 x1 M1 v rv
    cases RT.vbl rv
    exact ⟨k,rfl,(show OkR X.K (.ok k m') xr cm m H _ from ho) cm1 H1 x1 M1⟩
theorem Zmb {op:CmpOp} (ha:PE X a (tE X.K call gv xr ea)) (hb:PE X b (tE X.K call gv xr eb)) (hm:behindInMarks op b=false) (hu:X.A.units + 64 < cLine):PT X (.Compare a [op] [b] pos) (tT X.K call gv xr (.cmp op ea eb)):=by
  refine ZhN (f:=fun _ _=>.stuck) (Zmc (ZcK hu op) ha hb hm) (fun env m w m' h=>?_) (ZjH fun env m=>by rw [ev]; rfl)
  rw [ev] at h
  obtain ⟨x,m1,_,h⟩:=Zz h
  obtain ⟨y,m2,_,h⟩:=Zz h
  obtain ⟨k,hk,_⟩:=ZiM h
  exact ⟨k,hk⟩
theorem ZlR {op op':CmpOp} (σ:L2.St) (H:Hp) (Q:VK) (q:tE X.K call gv xr (.chn op op' ea eb ec) σ H Q) :
    ZhB (r2 X.K xr (fCmp op)) (r2 X.K xr (fCmp op')) (tE X.K call gv xr ea) (tE X.K call gv xr eb) (tE X.K call gv xr ec) σ H Q:=by
  obtain ⟨env,cm,m,hE,hM,ho⟩:=q
  rw [ev] at ho
  refine ⟨env,cm,m,hE,hM,ho.bind.mono fun w cm1 m1 H1 x1 M1 o1 v rv=>?_⟩
  refine ⟨env,cm1,m1,hE.ext x1 hM M1,M1,o1.bind.mono fun w2 cm2 m2 H2 x2 M2 o2 v2 rv2=>?_⟩
  refine ⟨cm2,m2,w,w2,M2,rv.ext x2 M1 M2,rv2,?_⟩
  split at o2
  · rename_i e
    have e1:fCmp op w w2 m2 = .ok (.t (.bl true)) m2:=by unfold fCmp; rw [e]; rfl
    rw [e1]
    intro cm3 H3 x3 M3 v3 rv3
    cases RT.vbl rv3
    refine ⟨true,rfl,iteT ?_⟩
    refine ⟨env,cm3,m2,(hE.ext (x1.trans (x2.trans x3)) hM M3),M3,(OkR.shift o2 x3).bind.mono fun w4 cm4 m4 H4 x4 M4 o4 v4 rv4=>?_⟩
    exact ⟨cm4,m4,w2,w4,M4,(rv2.ext x3 M2 M3).ext x4 M3 M4,rv4,o4⟩
  · rename_i e
    have e1:fCmp op w w2 m2 = .ok (.t (.bl false)) m2:=by unfold fCmp; rw [e]; rfl
    rw [e1]
    intro cm3 H3 x3 M3 v3 rv3
    cases RT.vbl rv3
    exact ⟨false,rfl,iteF (OkR.to o2 x3 M3 _ (.bl false))⟩
  · exact o2.elim
theorem ZmD {op op':CmpOp} (ha:PE X a (tE X.K call gv xr ea)) (hb:PE X b (tE X.K call gv xr eb)) (hc:PE X c (tE X.K call gv xr ec)) (hm:lastMarks [op,op'] [b,c]=false) (hu:X.A.units + 64 < cLine) :
    PE X (.Compare a [op,op'] [b,c] pos) (tE X.K call gv xr (.chn op op' ea eb ec)):=PE.mono (Zkm (ZcK hu op) (ZcK hu op') ha hb hc hm) ZlR
theorem Zmd {op op':CmpOp} (ha:PE X a (tE X.K call gv xr ea)) (hb:PE X b (tE X.K call gv xr eb)) (hc:PE X c (tE X.K call gv xr ec)) (hm:lastMarks [op,op'] [b,c]=false) (hu:X.A.units + 64 < cLine) :
    PT X (.Compare a [op,op'] [b,c] pos) (tT X.K call gv xr (.chn op op' ea eb ec)):=by
  refine ZhN (f:=fun _ _=>.stuck) (ZjU (ZcK hu op) (ZcK hu op') ha hb hc hm) (fun env m w m' h=>?_) ZlR
  rw [ev] at h
  obtain ⟨x,m1,_,h⟩:=Zz h
  obtain ⟨y,m2,_,h⟩:=Zz h
  split at h
  · obtain ⟨z,m3,_,h⟩:=Zz h
    obtain ⟨k,hk,_⟩:=ZiM (op:=op') (x:=y) (y:=z) h
    exact ⟨k,hk⟩
  · cases h; exact ⟨_,rfl⟩
  · cases h
theorem pe_ixW (ha:PE X a (tE X.K call gv xr ea)) (hb:PE X b (tE X.K call gv xr eb)) (hs:Zjs b):PE X (.Subscript a b pos) (tE X.K call gv xr (.ix ea eb)) :=
  PE.mono (pe_ix ix_ix ha hb hs) (ZjH fun env m=>by rw [ev]; rfl)
end
end Mi
end
noncomputable section
namespace Mi
open PySem PySem.Spec PyProof.Rows L2
section
variable {K:PySem.W.Frag} {cm:List Addr} {m:Mem} {H:Hp} {xr:XR} {X:Cx} {call:Nat→List W→Mem→Res W} {gv:List T}
variable {a b c e:Expr} {es:List Expr} {ea eb ec:E} {eas:Es} {pos p:Pos}
def notStar:Expr→Bool
  | .Starred _ _=>false
  | _=>true
theorem JM {env:PySem.Env} (h:notStar e=true):starEach (e :: es) env=(false,eval e env) :: starEach es env:=by
  cases e <;> first | rfl | cases h
theorem ZhD {env:PySem.Env}:∀ {es:List Expr},es.all notStar=true→(backTo pos (starEach es env)).all (fun x=>!x.1)=true
  | [],_=>rfl
  | e :: es,h=>by
    rw [List.all_cons,Bool.and_eq_true] at h
    rw [JM h.1]
    show (!false && (backTo pos (starEach es env)).all (fun x=>!x.1))=true
    rw [ZhD h.2]
    rfl
theorem ZdP {env:PySem.Env} {es:List Expr} (h:es.all notStar=true):(backTo pos (starEach es env)).any (·.1)=false:=by
  have h1:=ZhD (pos:=pos) (env:=env) h
  rw [List.any_eq_false]
  intro x hx
  have:=List.all_eq_true.mp h1 x hx
  simpa using this
theorem ZmK:PA X [] (tA X.K call gv xr .nil):=PA.mono ZlD fun σ H Q ⟨env,cm,m,hE,M,ho⟩=>by
  rw [evs] at ho
  exact OkR.now ho M [] .nil
theorem Zks (ha:PE X e (tE X.K call gv xr ea)) (hr:PA X es (tA X.K call gv xr eas)) (hs:notStar e=true):PA X (e :: es) (tA X.K call gv xr (.cons ea eas)):=by
  refine PA.mono (Zfb ha hr (JM hs)) ?_
  rintro σ H Q ⟨env,cm,m,hE,M,ho⟩
  rw [evs] at ho
  refine ⟨env,cm,m,hE,M,ho.bind.mono fun w cm1 m1 H1 x1 M1 o1 v rv=>?_⟩
  exact ⟨env,cm1,m1,hE.ext x1 M M1,M1,o1.bind.mono fun ws cm2 m2 H2 x2 M2 o2 vs rvs=>OkR.now o2 M2 (v :: vs) (.cons (rv.ext x2 M1 M2) rvs)⟩
theorem Zep {w:W} {m m':Mem} {x:Exc}:frz w m≠.exc x m':=by
  intro h
  unfold frz at h
  split at h
  · cases h
  · cases h
  · split at h <;> cases h
theorem ZcQ:∀ {ws:List W} {m m':Mem} {x:Exc},frzs ws m≠.exc x m'
  | [],_,_,_=>fun h=>by cases h
  | w :: ws,m,m',x=>fun h=>by
    rw [frzs] at h
    cases q:frz w m with
    | stuck=>rw [q] at h; cases h
    | exc y m1=>exact Zep q
    | ok t m1 =>
      rw [q] at h
      have h':((frzs ws m1).bind fun ts m=>Res.ok (t :: ts) m) = .exc x m':=h
      cases q2:frzs ws m1 with
      | stuck=>rw [q2] at h'; cases h'
      | exc y m2=>exact ZcQ q2
      | ok ts m2=>rw [q2] at h'; cases h'
theorem Zcc:∀ {ws:List W} {vs:List V} {ts:List T} {m m':Mem},MemR K cm m H→RWs K cm m H ws vs→frzs ws m = .ok ts m'→Ext cm m H cm m' H∧MemR K cm m' H∧RTs K cm m' H ts vs
  | [],_,_,_,_,M,.nil,e=>by cases e; exact ⟨.refl,M,.nil⟩
  | w :: ws,v :: vs,ts,m,m',M,.cons r rs,e=>by
    rw [frzs] at e
    obtain ⟨t,m1,e1,e⟩:=Zz e
    obtain ⟨us,m2,e2,e⟩:=Zz e
    cases e
    obtain ⟨x1,M1,r1⟩:=Zf4 M r e1
    obtain ⟨x2,M2,r2⟩:=Zcc M1 (RWs.ext x1 M M1 rs) e2
    exact ⟨x1.trans x2,M2,.cons (RT.ext x2 M1 M2 r1) r2⟩
theorem ZbK {α:Type} {ws:List W} {f:List T→Mem→Res α} {k:α→List Addr→Mem→Hp→Prop} (h:OkR K ((frzs ws m).bind f) xr cm m H k):∃ ts m',frzs ws m = .ok ts m'∧OkR K (f ts m') xr cm m H k:=by
  cases q:frzs ws m with
  | stuck=>rw [q] at h; exact h.elim
  | exc x m'=>exact absurd q ZcQ
  | ok ts m'=>rw [q] at h; exact ⟨ts,m',rfl,h⟩
theorem Zf3 {α:Type} {c:Prop} [Decidable c] {r:Res α} {k:α→List Addr→Mem→Hp→Prop} (h:OkR K (if c then r else .stuck) xr cm m H k):c∧OkR K r xr cm m H k:=by
  by_cases hc:c
  · rw [if_pos hc] at h; exact ⟨hc,h⟩
  · rw [if_neg hc] at h; exact h.elim
theorem Zmq {x1} (h:PA X es (tA X.K call gv xr eas)):PE X (.Tuple es x1 pos) (tE X.K call gv xr (.tup eas)):=by
  refine PE.mono (pe_tup h) ?_
  rintro σ H Q ⟨env,cm,m,hE,M,ho⟩
  rw [ev] at ho
  refine ⟨env,cm,m,hE,M,ho.bind.mono fun ws cm1 m1 H1 x1 M1 o1 vs rvs=>?_⟩
  obtain ⟨ts,m2,e2,o2⟩:=ZbK o1
  obtain ⟨hl,o3⟩:=Zf3 o2
  obtain ⟨x2,M2,r2⟩:=Zcc M1 rvs e2
  have l2:=r2.length
  have hz:=Qn
  exact ⟨by omega,fun p hp=>Zc1 (OkR.shift o3 x2) M2 r2 hp⟩
theorem Zmw (h:PA X es (tA X.K call gv xr eas)):PE X (.List es pos) (tE X.K call gv xr (.lst eas)):=by
  refine PE.mono (pe_lst h) ?_
  rintro σ H Q ⟨env,cm,m,hE,M,ho⟩
  rw [ev] at ho
  refine ⟨env,cm,m,hE,M,ho.bind.mono fun ws cm1 m1 H1 x1 M1 o1 vs rvs=>?_⟩
  obtain ⟨ts,m2,e2,o2⟩:=ZbK o1
  obtain ⟨hl,o3⟩:=Zf3 o2
  obtain ⟨x2,M2,r2⟩:=Zcc M1 rvs e2
  have l2:=r2.length
  have hz:=Qn
  exact ⟨by omega,fun p hp=>Zcv (OkR.shift o3 x2) M2 r2 hp⟩
def tLstN (K:PySem.W.Frag) (t:TA):TE:=fun σ H Q=>t σ H fun xs H1=>xs.length≤sizeLine∧∀ p,H1 p=none→K.lookup p=none→Q (.ref p) (upd H1 p (.lst xs))
theorem Inv.notK {pins:List (Addr×Obj)} {σ:L2.St} {H:Hp} {s:Shared} (I:Inv X pins σ H s):X.K.lookup s.heap.objs.size=none:=by
  cases q:X.K.lookup s.heap.objs.size with
  | none=>rfl
  | some o=>exact absurd (Heap.lt_size (I.kIn _ _ q)) (Nat.lt_irrefl _)
theorem Zmx {t:TA} (h:PA X es t):PE X (.List es pos) (tLstN X.K t):=by
  intro pins s σ H Q I hq
  refine wpAny_List_spliced (thn (h pos pins s σ H _ I hq) fun us s1 ⟨xs,H1,I1,r,z,q⟩=>⟨by rw [← r.length]; exact z,?_⟩)
  have hf:H1 s1.heap.objs.size=none:=I1.hok.fresh (Nat.le_refl _)
  refine ⟨.ref s1.heap.objs.size,upd H1 s1.heap.objs.size (.lst xs),I1.laid (t':=s1.toks) (fun b u e=>Heap.get?_push_of_some _ e) (Nat.le_refl _) ?_,rfl,q _ hf (Mi.Inv.notK I1)⟩
  exact ⟨z,us,0,r,Heap.get?_push_size _ rfl⟩
theorem ZmE (h:PA X es (tA X.K call gv xr eas)):PE X (.List es pos) (tE X.K call gv xr (.cel eas)):=by
  refine PE.mono (Zmx h) ?_
  rintro σ H Q ⟨env,cm,m,hE,M,ho⟩
  rw [ev] at ho
  refine ⟨env,cm,m,hE,M,ho.bind.mono fun ws cm1 m1 H1 x1 M1 o1 vs rvs=>?_⟩
  obtain ⟨ts,m2,e2,o2⟩:=ZbK o1
  obtain ⟨hl,o3⟩:=Zf3 o2
  obtain ⟨x2,M2,r2⟩:=Zcc M1 rvs e2
  have l2:=r2.length
  have hz:=Qn
  refine ⟨by omega,fun p hp hk=>?_⟩
  obtain ⟨x3,M3,r3⟩:=Zlg M2 r2 hp hk
  exact OkR.to o3 (x2.trans x3) M3 _ r3
theorem ZbB {α:Type} (xs:List α) (lo hi:Option Int):cut xs lo hi=(xs.drop (HT.sIx xs.length 0 lo)).take (HT.sIx xs.length xs.length hi - HT.sIx xs.length 0 lo):=by
  have e:∀ n d o,Zi0 n d o=HT.sIx n d o:=fun n d o=>by cases o <;> rfl
  unfold cut
  rw [e,e]
theorem Za9 {α β:Type} {F:α→β→Prop} {xs:List α} {ys:List β} (h:Paired F xs ys) (lo hi:Option Int):Paired F (cut xs lo hi) (cut ys lo hi):=by
  rw [ZbB,ZbB,← h.length]
  exact Zb0 _ (Zb2 _ h)
theorem Zfq (xs:List V) (lo hi:Option Int):cutV xs lo hi=cut xs lo hi:=(ZbB xs lo hi).symm
theorem ZjS (x y:Nat):sliceRange (x:Int) (y:Int) 1=(List.range (y - x)).map fun k=>x + k:=by
  unfold sliceRange
  simp only [show ((1:Int) > 0)=True from by simp,if_true]
  by_cases h:(x:Int) < y
  · have e3:(((y:Int) - x + 1 - 1) / 1).toNat=y - x:=by first | omega | (simp; done) | (simp; omega)
    rw [if_pos h,e3]
    refine List.map_congr_left fun k _=>?_
    omega
  · have e3:y - x=0:=by omega
    rw [if_neg h,e3]
    rfl
theorem ZbN (n d:Nat) (v:Int):max 0 (min (if v < 0 then v + n else v) (n:Int))=((HT.sIx n d (some v):Nat):Int):=by
  show max 0 (min (if v < 0 then v + n else v) (n:Int))=(((if v < 0 then (v + (n:Int)).toNat else min v.toNat n):Nat):Int)
  split <;> omega
theorem Zg6 (lo hi:Option Int) (n:Nat):(Builtin.Str.strSliceIndices lo hi 1 n)=(List.range (HT.sIx n n hi - HT.sIx n 0 lo)).map fun k=>HT.sIx n 0 lo + k:=by
  rw [← ZjS]
  unfold Builtin.Str.strSliceIndices
  cases lo with
  | none =>
    cases hi with
    | none=>rfl
    | some j =>
      rw [← ZbN]
      rfl
  | some i =>
    cases hi with
    | none =>
      rw [← ZbN]
      rfl
    | some j =>
      rw [← ZbN,← ZbN]
      rfl
def fSl (w:W) (lo hi:Option Int) (m:Mem):Res W:=pur ((view w m).bind fun x=>slT x lo hi) m
def rSl (K:PySem.W.Frag) (xr:XR):V→Option Int→Option Int→Hp→VK→Prop:=fun x lo hi H Q=>∃ cm m w,MemR K cm m H∧RW K cm m H w x∧OkR K (fSl w lo hi m) xr cm m H fun w cm' m' H'=>∀ v,RW K cm' m' H' w v→Q v H'
theorem ZhE {prog:Program} {w:World} {A:Around} {E:Value→Shared→Prop} {s:Shared} {cs:List Nat} {t:Tok} {sl:Addr} {vl vu:Value} {lo hi:Option Int} {Q:Value→Shared→Prop} (hs:s.heap.IsSliceOf sl vl vu .none) (pl:IsPart vl lo) (pu:IsPart vu hi) (hz:cs.length≤lim)
    (h:∀ t' k,Q (.str ⟨(cut cs lo hi).toArray⟩ t') { s with toks:=k }):wpAny (model prog w) A (getItem (.str ⟨cs.toArray⟩ t) (.ref sl)) Q E s:=by
  have hl:=Qn
  obtain ⟨l,e1,e2⟩:∃ l:Option (Int×Tok),vl=partValue l∧l.map (·.1)=lo:=by
    cases pl with
    | none=>exact ⟨none,rfl,rfl⟩
    | int i t=>exact ⟨some (i,t),rfl,rfl⟩
  obtain ⟨u,f1,f2⟩:∃ l:Option (Int×Tok),vu=partValue l∧l.map (·.1)=hi:=by
    cases pu with
    | none=>exact ⟨none,rfl,rfl⟩
    | int i t=>exact ⟨some (i,t),rfl,rfl⟩
  subst e1 f1
  refine wpAny_getItem_str_slice (l:=l) (u:=u) (st:=none) hs (by rfl) ?_
  have pk:slicePicked ⟨cs.toArray⟩ l u none=(List.range (HT.sIx cs.length cs.length hi - HT.sIx cs.length 0 lo)).map fun k=>HT.sIx cs.length 0 lo + k:=by
    unfold slicePicked
    rw [e2,f2,Zav]
    exact Zg6 lo hi cs.length
  have hn:HT.sIx cs.length cs.length hi≤cs.length:=HT.sIx_le _ _ (Nat.le_refl _) hi
  have fm:((slicePicked ⟨cs.toArray⟩ l u none).filterMap ((⟨cs.toArray⟩:Str).cps[·]?))=cut cs lo hi:=by
    rw [pk,ZbB]
    by_cases hle:HT.sIx cs.length 0 lo≤HT.sIx cs.length cs.length hi
    · have:=StrLaws.picks cs (HT.sIx cs.length cs.length hi - HT.sIx cs.length 0 lo) (HT.sIx cs.length 0 lo) (by omega)
      rw [← this]
      simp
    · have:HT.sIx cs.length cs.length hi - HT.sIx cs.length 0 lo=0:=by omega
      rw [this]
      simp
  unfold sliceMade
  split
  · rename_i hw
    rw [Bool.and_eq_true] at hw
    have q:(slicePicked ⟨cs.toArray⟩ l u none).length=cs.length:=by rw [eq_of_beq hw.2,Zav]
    rw [pk,List.length_map,List.length_range] at q
    have e:cut cs lo hi=cs:=by
      rw [ZbB]
      have:HT.sIx cs.length 0 lo=0∨cs.length=0:=by omega
      rcases this with h0 | h0
      · rw [h0] at q ⊢
        rw [List.drop_zero,q]
        exact List.take_length
      · rw [List.length_eq_zero_iff] at h0
        subst h0
        simp
    have:=h t s.toks
    rw [e] at this
    exact this
  · rw [fm]
    have hc:(cut cs lo hi).length≤cs.length:=by
      rw [ZbB,List.length_take,List.length_drop]; omega
    exact ⟨by show (cut cs lo hi).toArray.size≤_; rw [List.size_toArray]; omega,h _ _⟩
theorem Zhq {prog:Program} {w:World} {A:Around} {E:Value→Shared→Prop} {s:Shared} {t sl:Addr} {items:Array Value} {vl vu:Value} {lo hi:Option Int} {Q:Value→Shared→Prop} (ht:IsTup s.heap t items) (hs:s.heap.IsSliceOf sl vl vu .none) (pl:IsPart vl lo) (pu:IsPart vu hi)
    (hw:HT.sIx items.size 0 lo=0∧HT.sIx items.size items.size hi=items.size) (h:Q (.ref t) s):wpAny (model prog w) A (getItem (.ref t) (.ref sl)) Q E s:=by
  obtain ⟨os,hos,hcs,hds⟩:=id hs
  have hTs:s.TypeIs (.ref sl) "slice":=⟨os,hos,hcs⟩
  unfold getItem
  try with_reducible refine wpAny_holding ?_
  first | refine wpAny_bind (wpAny_pure ?_) | skip
  refine wpAny_bind (wpAny_sequenceKey ht.typeIs (by decide) ?_)
  refine wpAny_bind (wpAny_callSpecial?_slot (name:=Str.ofString "__getitem__") ht.typeIs PyProof.Rows.slot_tuple_getitem
    (wpAny_call_entry PyProof.Rows.slot_tuple_getitem ht.typeIs entry_tuple_getitem ?_ (args_tuple_getitem _ _)))
  show wpAny _ _ (Builtin.Tuple.tupleItemsOf (.ref t) >>= _) _ _ s
  refine wpAny_bind (tupleItemsOf_ ht ?_)
  refine wpAny_bind (wpAny_typeOf hTs ?_)
  rw [if_pos (by decide)]
  refine wpAny_bind (HT.sliceApplied_gen hs pl pu ?_)
  show wpAny _ _ (if (((HT.sIx items.size 0 lo:Nat):Int) == 0 && (1:Int) == 1 && (HT.sIx items.size items.size hi - HT.sIx items.size 0 lo) == items.size)=true then _ else _) _ _ s
  rw [if_pos (by rw [hw.1,hw.2]; simp)]
  refine wpAny_bind ?_
  unfold Builtin.Tuple.tupleIsExact
  refine wpAny_bind (wpAny_typeOf ht.typeIs (wpAny_pure ?_))
  rw [if_pos (by decide)]
  exact wpAny_bind (wpAny_rule (wpAny_pure ⟨_,rfl,wpAny_pure h⟩))
theorem ZjK {pins:List (Addr×Obj)} {s:Shared} {σ:L2.St} {H:Hp} {x:V} {v vl vu:Value} {lo hi:Option Int} {sl:Addr} {Q:VK} {a:Addr} {xs:List V} (I:Inv X pins σ H s) (rx:RelV x v) (hs:s.heap.IsSliceOf sl vl vu .none) (pl:IsPart vl lo) (pu:IsPart vu hi) (e:x = .ref a) (hx:SqT X.K H a xs)
    (hw:HT.sIx xs.length 0 lo=0∧HT.sIx xs.length xs.length hi=xs.length) (q:Q (.ref a) H):∃ T id,typeLookup (.type T) "__getitem__" = pure (some (.builtin id))∧s.TypeIs v T∧wpAny (model X.prog X.w) X.A (getItem v (.ref sl)) (EP X pins σ Q) X.xe s:=by
  subst e
  cases rx
  obtain ⟨its,r,ht,hz⟩:=I.tuple hx
  have hlen:its.toArray.size=xs.length:=by rw [List.size_toArray]; exact r.length.symm
  exact ⟨"tuple",_,PyProof.Rows.slot_tuple_getitem.lookup,ht.typeIs,Zhq ht hs pl pu (by rw [hlen]; exact hw) ⟨.ref a,H,I,rfl,q⟩⟩
theorem sl_any:SlR X (rSl X.K xr):=by
  rintro pins s σ H x v vl vu lo hi sl Q I rx hs pl pu ⟨cm,m,w,M,rw',ho⟩
  obtain ⟨t,e,ho⟩:=JN ho
  cases q:view w m with
  | none=>rw [q] at e; cases e
  | some tw =>
    rw [q] at e
    have e:slT tw lo hi=some t:=e
    cases tw with
    | tup ts =>
      cases e
      obtain ⟨a,vs,rfl,h1,r1⟩:=(Zj rw' q (fun _ z=>by cases z)).itup
      have l1:=r1.length
      have e:∀ n d o,Zi0 n d o=HT.sIx n d o:=fun n d o=>by cases o <;> rfl
      by_cases hc:HT.sIx vs.length 0 lo=0∧HT.sIx vs.length vs.length hi=vs.length
      · refine ZjK I rx hs pl pu rfl h1 hc ?_
        have ec:cut ts lo hi=ts:=by
          unfold cut
          rw [e,e,l1,hc.1,hc.2,List.drop_zero,Nat.sub_zero,← l1,List.take_length]
        rw [ec] at ho
        exact ans ho M (.mtup h1 r1)
      · refine sl_tup pins s σ H _ v vl vu lo hi sl Q I rx hs pl pu ⟨a,vs,rfl,h1,hc,fun p hp=>?_⟩
        rw [Zfq]; exact Zc1 ho M (Za9 r1 lo hi) hp
    | lst ts =>
      cases e
      obtain ⟨a,vs,rfl,h1,r1⟩:=Z7 M rw' q
      exact ZhF pins s σ H _ v vl vu lo hi sl Q I rx hs pl pu ⟨a,vs,rfl,.of h1,fun p hp=>by rw [Zfq]; exact Zcv ho M (Za9 r1 lo hi) hp⟩
    | scr ns =>
      cases e
      obtain ⟨a,rfl,h1⟩:=(Zj rw' q (fun _ z=>by cases z)).vscr
      refine ZhF pins s σ H _ v vl vu lo hi sl Q I rx hs pl pu ⟨a,_,rfl,h1.sq,fun p hp=>?_⟩
      rw [Zfq]
      refine Zcv ho M ?_ hp
      have:=Za9 (Za3 (K:=X.K) (cm:=cm) (m:=m) (H:=H) ns) lo hi
      have e:cut (ns.map T.int) lo hi=(cut ns lo hi).map T.int:=by
        rw [ZbB,ZbB,List.length_map,List.map_take,List.map_drop]
      rw [e] at this
      exact this
    | str cs =>
      unfold slT at e
      dsimp only at e
      split at e <;> cases e
      rename_i hc
      cases (Zj rw' q (fun _ z=>by cases z)).vstr
      obtain ⟨t,rfl⟩:=rx
      exact ⟨"str",_,slot_str_getitem.lookup,typeIs_str s _ t,ZhE hs pl pu hc fun t' k=>⟨.str ⟨(cut cs lo hi).toArray⟩,H,I.tok _,⟨t',rfl⟩,ans ho M (.str _)⟩⟩
    | _=>cases e
def evP (call:Nat→List W→Mem→Res W) (gv:List T) (lo:E) (env:Env) (m:Mem):Res (Option Int):=if ZS lo then Res.ok none m else (ev call gv lo env m).bind intP
def tP (K:PySem.W.Frag) (call:Nat→List W→Mem→Res W) (gv:List T) (xr:XR) (lo:E):TO:=fun σ H Q=>∃ env cm m,EnvR K cm m H env σ∧MemR K cm m H∧OkR K (evP call gv lo env m) xr cm m H fun o cm' m' H'=>Q o H'
theorem Zkb:PO X none (tP X.K call gv xr .hole):=fun pins s σ H Q I ⟨env,cm,m,hE,M,ho⟩=>Zmm pins s σ H Q I (OkR.now ho M)
theorem Zka {lo:Expr} (h:PE X lo (tE X.K call gv xr ea)) (hn:evP call gv ea=fun env m=>(ev call gv ea env m).bind intP):PO X (some lo) (tP X.K call gv xr ea):=fun pins s σ H Q I ⟨env,cm,m,hE,M,ho⟩=>by
  rw [hn] at ho
  refine Zml h pins s σ H Q I ⟨env,cm,m,hE,M,(OkR.bind ho).mono fun w cm1 m1 H1 x1 M1 o1 v rv=>?_⟩
  unfold intP at o1
  split at o1
  · cases RT.vint rv
    exact ⟨_,rfl,OkR.now o1 M1⟩
  · exact o1.elim
theorem Zms {lo hi:Option Expr} {p2:Pos} (he:PE X e (tE X.K call gv xr ea)) (hl:PO X lo (tP X.K call gv xr eb)) (hu:PO X hi (tP X.K call gv xr ec)):PE X (.Subscript e (.Slice lo hi none p2) pos) (tE X.K call gv xr (.slc ea eb ec)):=by
  refine PE.mono (Zkh (sl_any (xr:=xr)) he hl hu) ?_
  rintro σ H Q ⟨env,cm,m,hE,M,ho⟩
  have e:ev call gv (.slc ea eb ec) env m=(ev call gv ea env m).bind fun x m=>(evP call gv eb env m).bind fun l m=>(evP call gv ec env m).bind fun h m=>fSl x l h m:=by
    rw [ev]
    rfl
  rw [e] at ho
  refine ⟨env,cm,m,hE,M,ho.bind.mono fun w cm1 m1 H1 x1 M1 o1 v rv=>?_⟩
  refine ⟨env,cm1,m1,hE.ext x1 M M1,M1,o1.bind.mono fun l cm2 m2 H2 x2 M2 o2=>?_⟩
  refine ⟨env,cm2,m2,(hE.ext x1 M M1).ext x2 M1 M2,M2,o2.bind.mono fun h cm3 m3 H3 x3 M3 o3=>?_⟩
  exact ⟨cm3,m3,w,M3,(rv.ext x2 M1 M2).ext x3 M2 M3,o3⟩
def fBlt (b:B) (ws:List W) (m:Mem):Res W:=pur ((views ws m).bind fun ts=>bltT b ts) m
theorem Zlv {b:B} (σ:L2.St) (H:Hp) (Q:VK) (q:tE X.K call gv xr (.blt b eas) σ H Q):tCB (rN X.K xr (fBlt b)) (tA X.K call gv xr eas) σ H Q:=by
  obtain ⟨env,cm,m,hE,M,ho⟩:=q
  rw [ev] at ho
  exact ⟨env,cm,m,hE,M,ho.bind.mono fun ws cm1 m1 H1 x1 M1 o1 vs rvs=>⟨cm1,m1,ws,M1,rvs,o1⟩⟩
theorem ZbZ {b:B} {id:String} {x:Str} (hc:Xg X (.builtin id) (rN X.K xr (fBlt b))) (hv:bootBuiltins x=some (.builtin id)) (hg:Gl X x) (hm:X.mg x=none) (ha:PA X (e :: es) (tA X.K call gv xr eas)) (hn:x≠"__name__") (hdb:(x == ("__debug__" : Str))=false)
    (he:notStar e=true) (hpl:es.all notStar=true):PE X (.Call (.Name x p) (e :: es) [] pos) (tE X.K call gv xr (.blt b eas)) :=
  PE.mono (ZfT hc hg hm hv ha hn hdb (JM he) (ZdP hpl)) Zlv
theorem Zdg {b:B} {id:String} {x:Str} (hc:Xg X (.type id) (rN X.K xr (fBlt b))) (hv:bootBuiltins x=some (.type id)) (hg:Gl X x) (hm:X.mg x=none) (ha:PA X (e :: es) (tA X.K call gv xr eas)) (hn:x≠"__name__") (hdb:(x == ("__debug__" : Str))=false)
    (he:notStar e=true) (hpl:es.all notStar=true):PE X (.Call (.Name x p) (e :: es) [] pos) (tE X.K call gv xr (.blt b eas)) :=
  PE.mono (ZhX hc hg hm hv ha hn hdb (JM he) (ZdP hpl)) Zlv
theorem blt1 {b:B} {ws:List W} {vs:List V} {k:W→List Addr→Mem→Hp→Prop} (r:RWs K cm m H ws vs) (h1:∀ ts t,bltT b ts=some t→ts.length=1) (h:OkR K (fBlt b ws m) xr cm m H k) :
    ∃ w v t r,ws=[w]∧vs=[v]∧RW K cm m H w v∧view w m=some t∧bltT b [t]=some r∧OkR K (.ok (.t r) m) xr cm m H k:=by
  obtain ⟨t,e,ho⟩:=JN h
  cases q:views ws m with
  | none=>rw [q] at e; cases e
  | some ts =>
    rw [q] at e
    have e:bltT b ts=some t:=e
    have hl:=h1 ts t e
    have hvl:∀ (ws:List W) (ts:List T),views ws m=some ts→ts.length=ws.length:=fun ws=>by
      induction ws with
      | nil=>intro ts h; cases h; rfl
      | cons w ws ih =>
        intro ts h
        unfold views at h
        cases q1:view w m with
        | none=>rw [q1] at h; cases h
        | some t1 =>
          rw [q1] at h
          cases q2:views ws m with
          | none=>rw [q2] at h; cases h
          | some us=>rw [q2] at h; cases h; simp [ih us q2]
    have hw:=hvl ws ts q
    match ws,vs,r with
    | [],_,_=>rw [hl] at hw; simp at hw
    | w :: w' :: ws,_,_=>rw [hl] at hw; simp at hw
    | [w],_,.cons rv .nil =>
      unfold views at q
      cases q1:view w m with
      | none=>rw [q1] at q; cases q
      | some t1 =>
        rw [q1] at q
        cases q
        exact ⟨w,_,t1,t,rfl,rfl,rv,q1,e,ho⟩
theorem Zie {f:T→Option T}:∀ {ts:List T} {t:T},one1 f ts=some t→∃ x,ts=[x]∧f x=some t
  | [],_,h=>by cases h
  | [x],_,h=>⟨x,rfl,h⟩
  | _ :: _ :: _,_,h=>by cases h
theorem Zhu {f:Int→Int→Option T} {ts:List T} {t:T} (h:two2 f ts=some t):∃ i j,ts=[.int i,.int j]∧f i j=some t:=by
  unfold two2 at h
  split at h
  · exact ⟨_,_,rfl,h⟩
  · cases h
theorem JT {b:B} (hb:b≠.min2∧b≠.max2∧b≠.range2∧b≠.zip2∧b≠.zip4∧b≠.dget∧b≠.din∧b≠.dnot):∀ ts t,bltT b ts=some t→ts.length=1:=by
  intro ts t h
  have h1:∀ f:T→Option T,one1 f ts=some t→ts.length=1:=fun f h=>by
    obtain ⟨x,rfl,_⟩:=Zie h
    rfl
  cases b <;> first | exact h1 _ h | exact absurd hb (by decide) | cases h
theorem Zjb:Xg X (.builtin "len") (rN X.K xr (fBlt .len)):=by
  rintro pins s σ H xs us Q I r ⟨cm,m,ws,M,rws,ho⟩
  obtain ⟨w,v,t,rr,rfl,rfl,rv,e,eb,ho⟩:=blt1 rws (JT (by decide)) ho
  have hz:=Qn
  cases t with
  | str cs =>
    change (if cs.length≤lim then some (T.int cs.length) else none)=some rr at eb
    split at eb <;> cases eb
    cases (Zj rv e (fun _ z=>by cases z)).vstr
    exact ZbO pins s σ H _ us Q I r ⟨_,_,rfl,⟨by rw [Zav]; omega,rfl⟩,by rw [Zav]; exact ans ho M (.int _)⟩
  | tup ts =>
    cases eb
    obtain ⟨a,vs,rfl,h1,r1⟩:=(Zj rv e (fun _ z=>by cases z)).itup
    exact ZbO pins s σ H _ us Q I r ⟨_,_,rfl,.inr ⟨vs,h1,r1.length⟩,ans ho M (.int _)⟩
  | lst ts =>
    cases eb
    obtain ⟨a,vs,rfl,h1,r1⟩:=Z7 M rv e
    exact ZbO pins s σ H _ us Q I r ⟨_,_,rfl,.inl ⟨vs,.of h1,r1.length⟩,ans ho M (.int _)⟩
  | scr ns =>
    cases eb
    obtain ⟨a,rfl,h1⟩:=(Zj rv e (fun _ z=>by cases z)).vscr
    exact ZbO pins s σ H _ us Q I r ⟨_,_,rfl,.inl ⟨_,h1.sq,by simp⟩,ans ho M (.int _)⟩
  | _=>cases eb
theorem Zjc:Xg X (.type "int") (rN X.K xr (fBlt .int)):=by
  rintro pins s σ H xs us Q I r ⟨cm,m,ws,M,rws,ho⟩
  obtain ⟨w,v,t,rr,rfl,rfl,rv,e,eb,ho⟩:=blt1 rws (JT (by decide)) ho
  cases t with
  | int i =>
    cases eb
    cases (Zj rv e (fun _ z=>by cases z)).vint
    exact ZeE pins s σ H _ us Q I r (.inl ⟨_,rfl,ans ho M (.int _)⟩)
  | bl b =>
    cases eb
    cases (Zj rv e (fun _ z=>by cases z)).vbl
    exact ZeE pins s σ H _ us Q I r (.inr ⟨_,rfl,ans ho M (.int _)⟩)
  | _=>cases eb
theorem Zi8:Xg X (.type "str") (rN X.K xr (fBlt .str)):=by
  rintro pins s σ H xs us Q I r ⟨cm,m,ws,M,rws,ho⟩
  obtain ⟨w,v,t,rr,rfl,rfl,rv,e,eb,ho⟩:=blt1 rws (JT (by decide)) ho
  cases t with
  | int i =>
    have eb:(if i.natAbs < 2 ^ 250 then some (T.str (decI i)) else none)=some rr:=eb
    split at eb <;> cases eb
    rename_i hc
    cases (Zj rv e (fun _ z=>by cases z)).vint
    refine ZeD pins s σ H _ us Q I r ⟨i,rfl,?_,?_⟩
    · by_cases h0:i.natAbs=0
      · rw [h0]; decide
      · exact Nat.lt_of_lt_of_le ((Nat.log2_lt h0).mpr hc) (by decide)
    · have:=ans ho M (.str _)
      have e2:(⟨(decI i).toArray⟩:Str)=Str.ofString (toString i):=(Zlw rfl).symm
      rw [e2] at this
      exact this
  | _=>cases eb
theorem Zk9 (cs:List Nat):RTs K cm m H (cs.map fun c=>T.str [c]) (cs.map fun c=>V.str ⟨#[c]⟩):=by
  induction cs with
  | nil=>exact .nil
  | cons c cs ih=>exact .cons (.str [c]) ih
theorem ZcV {x:Str}:∀ (cs:List Nat) (k:Nat) (vs:List Value),vs.length=cs.length→(∀ (j:Nat) (v:Value),vs[j]? = some v→∃ c u,cs[j]? = some c∧v=Value.str ⟨#[c]⟩ u)→Vals (cs.map fun c=>V.str ⟨#[c]⟩) vs
  | [],_,[],_,_=>.nil
  | [],_,_ :: _,h,_=>by simp at h
  | _ :: _,_,[],h,_=>by simp at h
  | c :: cs,k,v :: vs,hl,h=>by
    obtain ⟨c',u,e1,e2⟩:=h 0 v rfl
    cases e1
    exact .cons ⟨u,e2⟩ (ZcV (x:=x) cs k vs (by simpa using hl) fun j w hw=>h (j + 1) w (by simpa using hw))
theorem Zfw (hcalm:X.calm=true):Xg X (.type "tuple") (rN X.K xr (fBlt .tuple)):=by
  rintro pins s σ H xs us Q I r ⟨cm,m,ws,M,rws,ho⟩
  obtain ⟨w,v,t,rr,rfl,rfl,rv,e,eb,ho⟩:=blt1 rws (JT (by decide)) ho
  cases t with
  | tup ts =>
    cases eb
    obtain ⟨a,vs,rfl,h1,r1⟩:=(Zj rv e (fun _ z=>by cases z)).itup
    exact ZaY pins s σ H _ us Q I r ⟨a,vs,rfl,.inr ⟨h1,ans ho M (.mtup h1 r1)⟩⟩
  | lst ts =>
    cases eb
    obtain ⟨a,vs,rfl,h1,r1⟩:=Z7 M rv e
    exact ZaY pins s σ H _ us Q I r ⟨a,vs,rfl,.inl ⟨.of h1,fun l hl=>Zc1 ho M r1 hl⟩⟩
  | str cs =>
    change (if cs.length≤lim then some (T.tup (cs.map fun c=>T.str [c])) else none)=some rr at eb
    split at eb <;> cases eb
    rename_i hc
    cases (Zj rv e (fun _ z=>by cases z)).vstr
    obtain ⟨u,rfl,ru⟩:=vals1 r
    obtain ⟨tk,rfl⟩:=ru
    have hz:=Qn
    refine call_tuple_str (I.ok.hd hcalm) ⟨cs.toArray⟩ tk (fun h' tk' acc hk hit=>?_) (by show cs.toArray.size≤_; rw [List.size_toArray]; omega)
    obtain ⟨h1,h2⟩:=hit
    have I1:Inv X pins σ H { s with heap:=h',toks:=tk' }:=I.kept hk
    have rv2:Vals (cs.map fun c=>V.str ⟨#[c]⟩) acc.toList:=ZcV (x:=⟨cs.toArray⟩) cs 0 acc.toList (by simpa using h1) fun j w hw=>by
      obtain ⟨c,u,e1,e2⟩:=h2 j w (by simpa using hw)
      exact ⟨c,u,by simpa using e1,e2⟩
    refine ⟨.ref h'.objs.size,_,I1.laid (t':=tk') (o:=.tup (cs.map fun c=>V.str ⟨#[c]⟩)) (fun b ob q=>Heap.get?_push_of_some _ q) (Nat.le_refl _) ?_,rfl,Zc1 ho M (Zk9 cs) (I1.hok.fresh (Nat.le_refl _))⟩
    refine ⟨by rw [List.length_map]; omega,acc.toList,rv2,?_⟩
    have:=TupP.new h' acc.toList.toArray
    simpa using this
  | _=>cases eb
theorem Zhj:Xg X (.type "list") (rN X.K xr (fBlt .list)):=by
  rintro pins s σ H xs us Q I r ⟨cm,m,ws,M,rws,ho⟩
  obtain ⟨w,v,t,rr,rfl,rfl,rv,e,eb,ho⟩:=blt1 rws (JT (by decide)) ho
  cases t with
  | tup ts =>
    cases eb
    obtain ⟨a,vs,rfl,h1,r1⟩:=(Zj rv e (fun _ z=>by cases z)).itup
    exact ZbC pins s σ H _ us Q I r ⟨a,vs,rfl,.inr h1,fun l hl=>Zcv ho M r1 hl⟩
  | lst ts =>
    cases eb
    obtain ⟨a,vs,rfl,h1,r1⟩:=Z7 M rv e
    exact ZbC pins s σ H _ us Q I r ⟨a,vs,rfl,.inl (.of h1),fun l hl=>Zcv ho M r1 hl⟩
  | _=>cases eb
theorem RTs.bools:∀ {ts:List T} {vs:List V} {bs:List Bool},RTs K cm m H ts vs→bools? ts=some bs→vs=bs.map V.bl
  | [],_,_,.nil,e=>by cases e; rfl
  | t :: ts,_,bs,.cons r rs,e=>by
    cases t with
    | bl c =>
      unfold bools? at e
      cases q:bools? ts with
      | none=>rw [q] at e; cases e
      | some cs =>
        rw [q] at e; cases e
        cases RT.vbl r
        rw [RTs.bools rs q]
        rfl
    | _=>cases e
theorem J8:∀ {bs:List Bool} {us:List Value},Vals (bs.map V.bl) us→us=bs.map Value.bool
  | [],_,.nil=>rfl
  | b :: bs,_,.cons r rs=>by
    cases r
    rw [J8 rs]
    rfl
theorem Zdr {s:Shared} {h':Heap} {o:Obj} (hk:∀ b x,b ∉ [s.heap.objs.size]→(s.heap.push o).get? b=some x→h'.get? b=some x):∀ b x,s.heap.get? b=some x→h'.get? b=some x :=
  fun b x e=>hk b x (fun hm=>by rw [List.mem_singleton.mp hm] at e; exact Nat.lt_irrefl _ (Heap.lt_size e)) (Heap.get?_push_of_some _ e)
theorem ZfQ {α:Type} (f:List α→Bool) (bs:List Bool) (d:Bool):(List.range bs.length).map (fun i=>(bs[i]?).getD d)=bs:=by
  apply List.ext_getElem?
  intro i
  rw [List.getElem?_map]
  by_cases h:i < bs.length
  · rw [List.getElem?_range h]; simp [h]
  · simp [h]
theorem Zje (hc:X.calm=true):Xg X (.builtin "all") (rN X.K xr (fBlt .all)):=by
  rintro pins s σ H xs us Q I r ⟨cm,m,ws,M,rws,ho⟩
  obtain ⟨w,v,t,rr,rfl,rfl,rv,e,eb,ho⟩:=blt1 rws (JT (by decide)) ho
  cases t with
  | lst ts =>
    have eb:(bools? ts).map (fun bs=>T.bl (bs.all id))=some rr:=eb
    cases q:bools? ts with
    | none=>rw [q] at eb; cases eb
    | some bs =>
      rw [q] at eb; cases eb
      obtain ⟨a,vs,rfl,h1,r1⟩:=Z7 M rv e
      obtain ⟨u,rfl,ru⟩:=vals1 r
      cases ru
      obtain ⟨its,rv',pl,hz⟩:=I.list (.of h1)
      cases RTs.bools r1 q
      cases J8 rv'
      have hl:=pl.isList
      have hlt:a < s.heap.objs.size:=by obtain ⟨_,e,_⟩:=hl; exact Heap.lt_size e
      refine call_all_walk (wpAny_pyIter_list hl ?_)
      refine ⟨s.heap.objs.size,[s.heap.objs.size,a],[s.heap.objs.size],(bs.map Value.bool).toArray.size,_,_,fun i=>(bs[i]?).getD true,rfl,Walks.list (A:=X.A.in1) (I.ok.hd hc) _ a (Nat.ne_of_lt hlt) (bs.map Value.bool).toArray,
        ⟨⟨_,Heap.get?_push_size _ rfl,rfl,rfl⟩,hl.push _⟩,fun i v s' Q' E' hP hQ=>?_,fun h' tk hk=>?_⟩
      · have hP':(bs.map Value.bool)[i]? = some v:=by simpa using hP
        rw [List.getElem?_map] at hP'
        cases qq:bs[i]? with
        | none=>rw [qq] at hP'; cases hP'
        | some b =>
          rw [qq] at hP'; cases hP'
          dsimp only at hQ
          rw [qq] at hQ
          exact wpAny_truthy_bool hQ
      · have e:((List.range (bs.map Value.bool).toArray.size).all fun i=>(bs[i]?).getD true)=bs.all id:=by
          rw [List.size_toArray,List.length_map]
          have:=congrArg (fun l=>l.all id) (ZfQ (α:=Nat) (fun _=>true) bs true)
          rw [← this,List.all_map]
          rfl
        rw [e]
        exact ⟨.bl _,H,I.kept (Zdr hk),rfl,ans ho M (.bl _)⟩
  | tup ts =>
    have eb:(bools? ts).map (fun bs=>T.bl (bs.all id))=some rr:=eb
    cases q:bools? ts with
    | none=>rw [q] at eb; cases eb
    | some bs =>
      rw [q] at eb; cases eb
      obtain ⟨a,vs,rfl,h1,r1⟩:=RT.itup (Zj rv e (fun _ z=>by cases z))
      obtain ⟨u,rfl,ru⟩:=vals1 r
      cases ru
      obtain ⟨its,rv',pl,hz⟩:=I.tuple h1
      cases RTs.bools r1 q
      cases J8 rv'
      have hl:s.heap.IsTuple a (bs.map Value.bool).toArray:=pl
      have hlt:a < s.heap.objs.size:=by obtain ⟨_,e,_⟩:=hl; exact Heap.lt_size e
      refine call_all_walk (wpAny_pyIter_tuple hl ?_)
      refine ⟨s.heap.objs.size,[s.heap.objs.size,a],[s.heap.objs.size],(bs.map Value.bool).toArray.size,_,_,fun i=>(bs[i]?).getD true,rfl,Walks.tuple (A:=X.A.in1) (I.ok.hd hc) _ a (Nat.ne_of_lt hlt) (bs.map Value.bool).toArray,
        ⟨⟨_,Heap.get?_push_size _ rfl,rfl,rfl⟩,(show Heap.IsTuple (s.heap.push _) a _ from let ⟨o,ho,r⟩:=hl; ⟨o,Heap.get?_push_of_some _ ho,r⟩)⟩,fun i v s' Q' E' hP hQ=>?_,fun h' tk hk=>?_⟩
      · have hP':(bs.map Value.bool)[i]? = some v:=by simpa using hP
        rw [List.getElem?_map] at hP'
        cases qq:bs[i]? with
        | none=>rw [qq] at hP'; cases hP'
        | some b =>
          rw [qq] at hP'; cases hP'
          dsimp only at hQ
          rw [qq] at hQ
          exact wpAny_truthy_bool hQ
      · have e:((List.range (bs.map Value.bool).toArray.size).all fun i=>(bs[i]?).getD true)=bs.all id:=by
          rw [List.size_toArray,List.length_map]
          have:=congrArg (fun l=>l.all id) (ZfQ (α:=Nat) (fun _=>true) bs true)
          rw [← this,List.all_map]
          rfl
        rw [e]
        exact ⟨.bl _,H,I.kept (Zdr hk),rfl,ans ho M (.bl _)⟩
  | _=>cases eb
theorem Zjd (hc:X.calm=true):Xg X (.builtin "any") (rN X.K xr (fBlt .any)):=by
  rintro pins s σ H xs us Q I r ⟨cm,m,ws,M,rws,ho⟩
  obtain ⟨w,v,t,rr,rfl,rfl,rv,e,eb,ho⟩:=blt1 rws (JT (by decide)) ho
  cases t with
  | lst ts =>
    have eb:(bools? ts).map (fun bs=>T.bl (bs.any id))=some rr:=eb
    cases q:bools? ts with
    | none=>rw [q] at eb; cases eb
    | some bs =>
      rw [q] at eb; cases eb
      obtain ⟨a,vs,rfl,h1,r1⟩:=Z7 M rv e
      obtain ⟨u,rfl,ru⟩:=vals1 r
      cases ru
      obtain ⟨its,rv',pl,hz⟩:=I.list (.of h1)
      cases RTs.bools r1 q
      cases J8 rv'
      have hl:=pl.isList
      have hlt:a < s.heap.objs.size:=by obtain ⟨_,e,_⟩:=hl; exact Heap.lt_size e
      refine call_any_walk (wpAny_pyIter_list hl ?_)
      refine ⟨s.heap.objs.size,[s.heap.objs.size,a],[s.heap.objs.size],(bs.map Value.bool).toArray.size,_,_,fun i=>(bs[i]?).getD false,rfl,Walks.list (A:=X.A.in1) (I.ok.hd hc) _ a (Nat.ne_of_lt hlt) (bs.map Value.bool).toArray,
        ⟨⟨_,Heap.get?_push_size _ rfl,rfl,rfl⟩,hl.push _⟩,fun i v s' Q' E' hP hQ=>?_,fun h' tk hk=>?_⟩
      · have hP':(bs.map Value.bool)[i]? = some v:=by simpa using hP
        rw [List.getElem?_map] at hP'
        cases qq:bs[i]? with
        | none=>rw [qq] at hP'; cases hP'
        | some b =>
          rw [qq] at hP'; cases hP'
          dsimp only at hQ
          rw [qq] at hQ
          exact wpAny_truthy_bool hQ
      · have e:((List.range (bs.map Value.bool).toArray.size).any fun i=>(bs[i]?).getD false)=bs.any id:=by
          rw [List.size_toArray,List.length_map]
          have:=congrArg (fun l=>l.any id) (ZfQ (α:=Nat) (fun _=>true) bs false)
          rw [← this,List.any_map]
          rfl
        rw [e]
        exact ⟨.bl _,H,I.kept (Zdr hk),rfl,ans ho M (.bl _)⟩
  | tup ts =>
    have eb:(bools? ts).map (fun bs=>T.bl (bs.any id))=some rr:=eb
    cases q:bools? ts with
    | none=>rw [q] at eb; cases eb
    | some bs =>
      rw [q] at eb; cases eb
      obtain ⟨a,vs,rfl,h1,r1⟩:=RT.itup (Zj rv e (fun _ z=>by cases z))
      obtain ⟨u,rfl,ru⟩:=vals1 r
      cases ru
      obtain ⟨its,rv',pl,hz⟩:=I.tuple h1
      cases RTs.bools r1 q
      cases J8 rv'
      have hl:s.heap.IsTuple a (bs.map Value.bool).toArray:=pl
      have hlt:a < s.heap.objs.size:=by obtain ⟨_,e,_⟩:=hl; exact Heap.lt_size e
      refine call_any_walk (wpAny_pyIter_tuple hl ?_)
      refine ⟨s.heap.objs.size,[s.heap.objs.size,a],[s.heap.objs.size],(bs.map Value.bool).toArray.size,_,_,fun i=>(bs[i]?).getD false,rfl,Walks.tuple (A:=X.A.in1) (I.ok.hd hc) _ a (Nat.ne_of_lt hlt) (bs.map Value.bool).toArray,
        ⟨⟨_,Heap.get?_push_size _ rfl,rfl,rfl⟩,(show Heap.IsTuple (s.heap.push _) a _ from let ⟨o,ho,r⟩:=hl; ⟨o,Heap.get?_push_of_some _ ho,r⟩)⟩,fun i v s' Q' E' hP hQ=>?_,fun h' tk hk=>?_⟩
      · have hP':(bs.map Value.bool)[i]? = some v:=by simpa using hP
        rw [List.getElem?_map] at hP'
        cases qq:bs[i]? with
        | none=>rw [qq] at hP'; cases hP'
        | some b =>
          rw [qq] at hP'; cases hP'
          dsimp only at hQ
          rw [qq] at hQ
          exact wpAny_truthy_bool hQ
      · have e:((List.range (bs.map Value.bool).toArray.size).any fun i=>(bs[i]?).getD false)=bs.any id:=by
          rw [List.size_toArray,List.length_map]
          have:=congrArg (fun l=>l.any id) (ZfQ (α:=Nat) (fun _=>true) bs false)
          rw [← this,List.any_map]
          rfl
        rw [e]
        exact ⟨.bl _,H,I.kept (Zdr hk),rfl,ans ho M (.bl _)⟩
  | _=>cases eb
end
end Mi
end
noncomputable section
namespace Mi
open PySem PySem.Spec PyProof.Rows L2
section
variable {K:PySem.W.Frag} {cm:List Addr} {m:Mem} {H:Hp} {xr:XR} {X:Cx} {call:Nat→List W→Mem→Res W} {gv:List T}
variable {a b c e:Expr} {es:List Expr} {ea eb ec:E} {eas:Es} {pos p p2:Pos}
def tyN:Ty→String
  | .int=>"int"
  | .bool=>"bool"
  | .str=>"str"
  | .tuple=>"tuple"
  | .list=>"list"
  | .dict=>"dict"
def tyT:T→String
  | .non=>"NoneType"
  | .bl _=>"bool"
  | .int _=>"int"
  | .str _=>"str"
  | .tup _=>"tuple"
  | .lst _=>"list"
  | .dct _ _=>"dict"
  | .scr _=>"list"
theorem Zm7 (t:T) (ty:Ty):PySem.W.kitOne K (.type (tyT t)) (.type (tyN ty))=some (isT t ty):=by cases t <;> cases ty <;> rfl
theorem Zm9 {pins:List (Addr×Obj)} {σ:L2.St} {s:Shared} {A:Around} {E:Value→Shared→Prop} {Q:Value→Shared→Prop} {w:W} {v:V} {u:Value} {t:T} {ty:Ty} (I:Inv X pins σ H s) (M:MemR X.K cm m H) (rx:RelV v u) (r:RW X.K cm m H w v) (ew:view w m=some t) (h:∀ tk,Q (.bool (isT t ty)) { s with toks:=tk }) :
    wpAny (model X.prog X.w) A (PySem.call (.builtin "isinstance") [u,.type (tyN ty)]) Q E s:=by
  have k:=Zm7 (K:=X.K) t ty
  have onL:∀ (a:Addr) (vs:List V),v = .ref a→SqL X.K H a vs→tyT t = "list"→wpAny (model X.prog X.w) A (PySem.call (.builtin "isinstance") [u,.type (tyN ty)]) Q E s:=fun a vs e hq et=>by
    subst e
    cases rx
    obtain ⟨its,_,pl,_⟩:=I.list hq
    obtain ⟨o,n,e,c,_⟩:=pl
    rw [et] at k
    exact PySem.W.kia_one PySem.W.kitx_list I.kIn ⟨o,e,c⟩ k (fun z=>nomatch z) h
  cases t with
  | non=>cases (Zj r ew (fun _ z=>by cases z)).vnon; exact XM I rx .non k h
  | bl y=>cases (Zj r ew (fun _ z=>by cases z)).vbl; exact XM I rx (.bl y) k h
  | int i=>cases (Zj r ew (fun _ z=>by cases z)).vint; exact XM I rx (.int i) k h
  | str cs=>cases (Zj r ew (fun _ z=>by cases z)).vstr; exact XM I rx (.str _) k h
  | tup ts =>
    obtain ⟨a,vs,rfl,h1,_⟩:=(Zj r ew (fun _ z=>by cases z)).itup
    cases rx
    obtain ⟨its,_,p,_⟩:=I.tuple h1
    obtain ⟨o,h1,h2,_⟩:=p
    exact PySem.W.kia_one PySem.W.kitx_tuple I.kIn ⟨o,h1,h2⟩ k (fun z=>nomatch z) h
  | lst ts =>
    obtain ⟨a,vs,e,h1,_⟩:=Z7 M r ew
    exact onL a vs e (.of h1) rfl
  | scr ns =>
    obtain ⟨a,e,h1⟩:=(Zj r ew (fun _ z=>by cases z)).vscr
    exact onL a _ e h1.sq rfl
  | dct ks ts =>
    have r':=Zj r ew (fun _ z=>by cases z)
    cases r' with
    | dct q1 q2 q3 q4 q5=>exact XM I rx (.dK q1) k h
def fIsi (ty:Ty) (w:W) (m:Mem):Res W:=pur ((view w m).map fun x=>.bl (isT x ty)) m
theorem Zlh {ty:Ty}:Xg X (.builtin "isinstance") (fun xs H Q=>∃ x,xs=[x,.ty (tyN ty)]∧r1 X.K xr (fIsi ty) x H Q):=by
  rintro pins s σ H xs us Q I r ⟨x,e,cm,m,w,M,rw',ho⟩
  subst e
  obtain ⟨u1,u2,rfl,ru1,ru2⟩:=vals2 r
  cases (show u2=Value.type (tyN ty) from ru2)
  obtain ⟨t,et,ho⟩:=JN ho
  cases q:view w m with
  | none=>rw [q] at et; cases et
  | some tw =>
    rw [q] at et; cases et
    exact Zm9 I M ru1 rw' q fun tk=>⟨.bl _,H,I.tok _,rfl,ans ho M (.bl _)⟩
theorem Zmz {ty:Ty} {x:Str} (ha:PE X a (tE X.K call gv xr ea)) (hg:Gl X "isinstance") (hm:X.mg "isinstance" = none) (hgT:Gl X x) (hmT:X.mg x=none) (hv:bootBuiltins x=some (.type (tyN ty)))
    (hn:x≠"__name__":=by decide) (hd:(x == ("__debug__" : Str))=false:=by decide)
    (hs:notStar a=true:=by rfl) :
    PE X (.Call (.Name "isinstance" p) [a,.Name x p2] [] pos) (tE X.K call gv xr (.isi ea ty)):=by
  refine PE.mono (ZfT (Zlh (ty:=ty) (xr:=xr)) hg hm (by decide +kernel) (Zfb ha (Zfb (ZmG (v:=.ty (tyN ty)) hgT hmT hv rfl hn hd) ZlD (JM rfl)) (JM hs)) (by decide) (by decide) (JM hs) (ZdP rfl)) ?_
  rintro σ H Q ⟨env,cm,m,hE,M,ho⟩
  rw [ev] at ho
  exact ⟨env,cm,m,hE,M,ho.bind.mono fun w cm1 m1 H1 x1 M1 o1 v rv=>⟨v,rfl,cm1,m1,w,M1,rv,o1⟩⟩
def rM (K:PySem.W.Frag) (xr:XR) (b:Mt):V→List V→Hp→VK→Prop:=fun x xs H Q=>∃ cm m w ws,MemR K cm m H∧RW K cm m H w x∧RWs K cm m H ws xs∧OkR K (doM b w ws m) xr cm m H fun w cm' m' H'=>∀ v,RW K cm' m' H' w v→Q v H'
theorem RTs.strs:∀ {ts:List T} {vs:List V} {bs:List (List Nat)},RTs K cm m H ts vs→strs? ts=some bs→vs=bs.map fun c=>V.str ⟨c.toArray⟩
  | [],_,_,.nil,e=>by cases e; rfl
  | t :: ts,_,bs,.cons r rs,e=>by
    cases t with
    | str c =>
      unfold strs? at e
      cases q:strs? ts with
      | none=>rw [q] at e; cases e
      | some cs =>
        rw [q] at e; cases e
        cases RT.vstr r
        rw [RTs.strs rs q]
        rfl
    | _=>cases e
theorem ZbR:∀ {bs:List (List Nat)} {us:List Value},Vals (bs.map fun c=>V.str ⟨c.toArray⟩) us→StrsAre us (bs.map fun c=>(⟨c.toArray⟩:Str))
  | [],_,.nil=>.nil
  | b :: bs,_,.cons ⟨t,e⟩ rs=>by
    cases e
    exact .cons _ t (ZbR rs)
theorem Zht {ws:List W} {t:T} (h:views ws m=some [t]):∃ w,ws=[w]∧view w m=some t:=by
  cases ws with
  | nil=>cases h
  | cons w ws =>
    unfold views at h
    cases q1:view w m with
    | none=>rw [q1] at h; cases h
    | some t1 =>
      rw [q1] at h
      have h:(views ws m).map (t1 :: ·)=some [t]:=h
      cases q2:views ws m with
      | none=>rw [q2] at h; cases h
      | some ts =>
        rw [q2] at h
        cases h
        cases ws with
        | nil=>exact ⟨w,rfl,by rw [q1]⟩
        | cons w2 ws =>
          unfold views at q2
          cases q3:view w2 m with
          | none=>rw [q3] at q2; cases q2
          | some t3 =>
            rw [q3] at q2
            cases q4:views ws m with
            | none=>rw [q4] at q2; cases q2
            | some t4=>rw [q4] at q2; cases q2
theorem few1 {cpos:Pos} (hs:notStar e=true):((backTo cpos (starEach [e] X.env)).all (fun x=>!x.1) && (backToKw cpos (keywordEach [] X.env)).all (fun x=>x.1.isSome)
      && decide ([e].length + ([]:List Keyword).length + (if ([]:List Keyword).isEmpty then 0 else 1) < 30))=true:=by
  rw [ZhD (by rw [List.all_cons,hs]; rfl)]
  rfl
structure At (X:Cx) (call:Nat→List W→Mem→Res W) (gv:List T) (e:Expr) (a:E) (f:L2.St→Option V):Prop where
  pe:PE X e (fun σ H Q=>∃ v,f σ=some v∧Q v H)
  rd:∀ env cm m H σ,EnvR X.K cm m H env σ→(∃ w v,ev call gv a env m = .ok w m∧f σ=some v∧RW X.K cm m H w v)∨ev call gv a env m = .stuck
theorem ZgE {tg:Expr} (hg:Gl X "range") (hm:X.mg "range" = none) (ha:PA X [a] (tA X.K call gv xr eas)) (hs:notStar a=true:=by rfl):PI X tg (.Call (.Name "range" p) [a] [] pos) (tI X.K call gv xr (.blt .range1 eas)):=by
  refine PI.mono (ZhT hg hm ha (JM hs)) ?_
  rintro σ H R ⟨env,cm,m,hE,M,ho⟩
  rw [ev] at ho
  refine ⟨env,cm,m,hE,M,ho.bind.mono fun ws cm1 m1 H1 x1 M1 o1 vs rvs=>?_⟩
  obtain ⟨w,v,t,rr,rfl,rfl,rv,e,eb,o2⟩:=blt1 (b:=.range1) rvs (JT (by decide)) o1
  cases t with
  | int i =>
    change (if i < 2 ^ 62∧-(2 ^ 62)≤i then some (T.lst (rangeT 0 i.toNat)) else none)=some rr at eb
    split at eb <;> cases eb
    rename_i hc
    cases (Zj rv e (fun _ z=>by cases z)).vint
    obtain ⟨ts,m2,q1,q2⟩:=OkR.now o2 M1
    cases q1
    exact ⟨_,rfl,hc.2,hc.1,q2 _ (.rng 0 _)⟩
  | _=>cases eb
end
end Mi
end
noncomputable section
namespace Mi
open PySem PySem.Spec PyProof.Rows L2
section
variable (K:PySem.W.Frag) (call:Nat→List W→Mem→Res W) (gv:List T) (xr:XR)
def ZiS (n:Nat) (D:Ends) (fl:Flow) (cm:List Addr) (m:Mem) (H:Hp):Prop:=match fl with
  | .next env=>∀ σ:L2.St,σ.length=n→EnvR K cm m H env σ→D.nx σ H
  | .ret w=>∀ v,RW K cm m H w v→D.rt v H
  | .brk env=>∀ σ:L2.St,σ.length=n→EnvR K cm m H env σ→D.bk σ H
  | .cont env=>∀ σ:L2.St,σ.length=n→EnvR K cm m H env σ→D.ct σ H
def tS (n:Nat) (s:S):TS:=fun D σ H=>σ.length=n∧∃ env cm m,EnvR K cm m H env σ∧MemR K cm m H∧OkR K (ex call gv s env m) xr cm m H fun fl cm' m' H'=>ZiS K n D fl cm' m' H'
end
section
variable {K:PySem.W.Frag} {cm:List Addr} {m:Mem} {H:Hp} {xr:XR} {X:Cx} {call:Nat→List W→Mem→Res W} {gv:List T}
variable {a b c e:Expr} {es:List Expr} {ea eb ec:E} {eas:Es} {pos p p2:Pos} {rest:List Stmt} {k:S} {n:Nat}
theorem PSs.mono {sts:List Stmt} {t t':TS} (h:PSs X sts t) (f:∀ D σ H,t' D σ H→t D σ H):PSs X sts t':=fun pins s σ H D I q=>h pins s σ H D I (f D σ H q)
theorem ZjX:PSs X [] (tS X.K call gv xr n .done):=PSs.mono Zme fun D σ H ⟨hl,env,cm,m,hE,M,ho⟩=>by
  rw [ex] at ho
  exact OkR.now ho M σ hl hE
theorem ZjW (h:PE X e (tE X.K call gv xr ea)):PSs X (.Return (some e) pos :: rest) (tS X.K call gv xr n (.ret ea k)):=PSs.mono (JZ (ps_ret h) ZhO) fun D σ H ⟨hl,env,cm,m,hE,M,ho⟩=>by
  rw [ex] at ho
  exact ⟨env,cm,m,hE,M,ho.bind.mono fun w cm1 m1 H1 x1 M1 o1 v rv=>OkR.now o1 M1 v rv⟩
theorem ZhP (h:PE X e (tE X.K call gv xr ea)) (hk:PSs X rest (tS X.K call gv xr n k)) (hs:swapsWith e none pos.line X.env=pure false:=by rfl):PSs X (.Expr e pos :: rest) (tS X.K call gv xr n (.expr ea k)):=PSs.mono (JZ (Zmh h hs) hk) fun D σ H ⟨hl,env,cm,m,hE,M,ho⟩=>by
  rw [ex] at ho
  exact ⟨env,cm,m,hE,M,ho.bind.mono fun w cm1 m1 H1 x1 M1 o1 v rv=>⟨hl,env,cm1,m1,hE.ext x1 M M1,M1,o1⟩⟩
theorem ZjZ {i:Nat} {x:Str} {px:Pos} (hN:X.N.Nodup) (hn:X.N.length=n) (hi:X.N[i]? = some x) (hx:Loc X.env.scope x) (h:PE X e (tE X.K call gv xr ea)) (hk:PSs X rest (tS X.K call gv xr n k))
    (hs:swapsWith e (some (.Name x px)) pos.line X.env=pure false:=by rfl) (hf:X.fn x=true∨X.env.scope.names.lookup x=some .local:=by first | exact .inl rfl | exact .inr rfl | assumption):PSs X (.Assign [.Name x px] e pos :: rest) (tS X.K call gv xr n (.asg i ea k)):=PSs.mono (JZ (ps_set hN hi hx h hs hf) hk) fun D σ H ⟨hl,env,cm,m,hE,M,ho⟩=>by
  rw [ex] at ho
  have hi':i < σ.length:=by rw [hl,← hn]; exact (List.getElem?_eq_some_iff.mp hi).1
  exact ⟨env,cm,m,hE,M,ho.bind.mono fun w cm1 m1 H1 x1 M1 o1 v rv=>⟨by rw [List.length_set]; exact hl,env.set i (some w),cm1,m1,EnvR.set (hE.ext x1 M M1) rv i hi',M1,o1⟩⟩
theorem ZjV {o i v:Expr} {eo ei ev':E} {tp:Pos} (hv:PE X v (tE X.K call gv xr ev')) (ho:PE X o (tE X.K call gv xr eo)) (hi:PE X i (tE X.K call gv xr ei)) (hk:PSs X rest (tS X.K call gv xr n k))
    (ha:∀ v,assign (.Subscript o i tp) X.env v=(do
      let ov ← holding [v] (eval o X.env)
      let iv ← holding [v,ov] (eval i X.env)
      standAt tp
      holding [v,ov,iv] (setItem ov iv v)
      release [v,ov,iv] []):=by intro _; rfl)
    (hs:swapsWithSole [.Subscript o i tp] v pos.line X.env=pure false:=by rfl) (hw:swappedStores [.Subscript o i tp] v X.env=pure none:=by rfl)
    (h1:(assignEach [.Subscript o i tp] X.env).map (·.2)=[assign (.Subscript o i tp) X.env]:=by rfl):PSs X (.Assign [.Subscript o i tp] v pos :: rest) (tS X.K call gv xr n (.set eo ei ev' k)) :=
  PSs.mono (JZ (ZlA hv (pg_sub ho hi set_list ha) hs hw h1) hk) fun D σ H ⟨hl,env,cm,m,hE,M,hq⟩=>by
    rw [ex] at hq
    refine ⟨env,cm,m,hE,M,hq.bind.mono fun z cm1 m1 H1 x1 M1 o1 vz rz=>?_⟩
    refine ⟨env,cm1,m1,hE.ext x1 M M1,M1,o1.bind.mono fun x cm2 m2 H2 x2 M2 o2 vx rx=>?_⟩
    refine ⟨env,cm2,m2,(hE.ext x1 M M1).ext x2 M1 M2,M2,o2.bind.mono fun y cm3 m3 H3 x3 M3 o3 vy ry=>?_⟩
    unfold setM at o3
    split at o3
    · rename_i cc kk
      cases q:frz z m3 with
      | stuck=>rw [q] at o3; exact o3.elim
      | exc e' m'=>exact absurd q Zep
      | ok t m4 =>
        rw [q] at o3
        obtain ⟨x4,M4,r4⟩:=Zf4 M3 ((rz.ext x2 M1 M2).ext x3 M2 M3) q
        have rx':RW X.K cm3 m4 H3 (.c cc) vx:=(rx.ext x3 M2 M3).ext x4 M3 M4
        cases RT.vint ry
        obtain ⟨a,ha1,rfl⟩:=rx'
        have o3:OkR X.K ((match m4[cc]? with
          | some (some (false,xs))=>match ixOf xs.length kk with
            | some j=>Res.ok () (m4.set cc (some (false,xs.set j t)))
            | none=>.stuck
          | _=>.stuck).bind fun _ m=>ex call gv k env m) xr cm3 m3 H3 _:=o3
        split at o3
        · rename_i xs e1
          split at o3
          · rename_i j e2
            obtain ⟨b,vs,q1,q2,q3,q4⟩:=M4.at' cc _ e1
            rw [ha1] at q1; cases q1
            have l4:=q4.length
            dsimp only at l4
            obtain ⟨x5,M5⟩:=ZcW M4 e1 ha1 (ZcJ r4 j q4)
            refine ⟨a,vs,kk,j,rfl,rfl,q2,by rw [← l4]; exact e2,?_⟩
            have xx:=(x4.trans x5)
            exact ⟨hl,env,cm3,_,(((hE.ext x1 M M1).ext x2 M1 M2).ext x3 M2 M3).ext xx M3 M5,M5,OkR.shift (show OkR X.K (ex call gv k env _) xr cm3 m3 H3 _ from o3) xx⟩
          · exact o3.elim
        · exact o3.elim
    · exact o3.elim
theorem bind_assoc {α β γ:Type} (r:Res α) (f:α→Mem→Res β) (g:β→Mem→Res γ):(r.bind f).bind g=r.bind fun a m=>(f a m).bind g:=by cases r <;> rfl
theorem Zmf {A B:List Stmt} {sa sb:S} (hc:PT X c (tT X.K call gv xr ec)) (ha:PSs X A (tS X.K call gv xr n sa)) (hb:PSs X B (tS X.K call gv xr n sb)) (hk:PSs X rest (tS X.K call gv xr n k)):PSs X (.If c A B pos :: rest) (tS X.K call gv xr n (.ife ec sa sb k)) :=
  PSs.mono (JZ (ps_if hc ha hb) hk) fun D σ H ⟨hl,env,cm,m,hE,M,ho⟩=>by
    rw [ex,← bind_assoc] at ho
    refine ⟨env,cm,m,hE,M,ho.bind.mono fun t cm1 m1 H1 x1 M1 o1=>?_⟩
    have go:∀ s:S,OkR X.K ((ex call gv s env m1).bind fun fl m=>match fl with | .next env=>ex call gv k env m | fl=>.ok fl m) xr cm1 m1 H1 (fun fl cm' m' H'=>ZiS X.K n D fl cm' m' H')→tS X.K call gv xr n s { D with nx:=tS X.K call gv xr n k D } σ H1:=fun s o=>by
      refine ⟨hl,env,cm1,m1,hE.ext x1 M M1,M1,o.bind.mono fun fl cm2 m2 H2 x2 M2 o2=>?_⟩
      cases fl with
      | next env'=>exact fun σ' hl' hE'=>⟨hl',env',cm2,m2,hE',M2,o2⟩
      | ret w=>exact OkR.now (xr:=xr) (a:=Flow.ret w) o2 M2
      | brk env'=>exact OkR.now (xr:=xr) (a:=Flow.brk env') o2 M2
      | cont env'=>exact OkR.now (xr:=xr) (a:=Flow.cont env') o2 M2
    cases t with
    | true=>exact iteT (go sa o1)
    | false=>exact iteF (go sb o1)
theorem Zax:∀ (is:List Nat) (vs:List V) (σ:L2.St),(setAll is vs σ).length=σ.length
  | [],_,_=>by unfold setAll; rfl
  | _ :: _,[],_=>by unfold setAll; rfl
  | i :: is,v :: vs,σ=>by unfold setAll; rw [Zax,List.length_set]
theorem ZlL {tg:Tg} {v:V} {σ:L2.St} {Q:L2.St→Hp→Prop} (h:gT K tg v σ H Q):gT K tg v σ H fun σ' H'=>σ'.length=σ.length∧Q σ' H':=by
  cases tg with
  | nm i=>exact ⟨List.length_set,h⟩
  | tp is =>
    obtain ⟨a,xs,h1,h2,h3,h4⟩:=h
    exact ⟨a,xs,h1,h2,h3,Zax _ _ _,h4⟩
theorem EnvR.same {cm:List Addr} {m m':Mem} {H:Hp} {env:Env} {σ:L2.St} (h:EnvR K cm m H env σ) (f:∀ t v,RT K cm m H t v→RT K cm m' H t v):EnvR K cm m' H env σ:=fun i w e=>by
  obtain ⟨v,h1,h2⟩:=h i w e
  refine ⟨v,h1,?_⟩
  cases w with
  | t t=>exact f t v h2
  | f a=>exact h2
  | c i=>exact h2
theorem ZjY {tgt iter:Expr} {body:List Stmt} {tg:Tg} {it:E} {sb:S} (hc:X.calm=true) (hp:PassesOwn (model X.prog X.w) X.A X.env X.xe) (hi:PI X tgt iter (tI X.K call gv xr it)) (hg:PG X tgt (gT X.K tg)) (ht:∀ i∈tgS tg,i < n)
    (hb:PSs X body (tS X.K call gv xr n sb)) (hk:PSs X rest (tS X.K call gv xr n k)) (hs:∀ x,foldedSetIterable iter X.env x=pure x:=by intro _; rfl):PSs X (.For tgt iter body [] pos :: rest) (tS X.K call gv xr n (.forr tg it sb k)) :=
  PSs.mono (JZ (ps_for hp hc hi hg hb hs) hk) fun D σ0 H0 ⟨hl0,env0,cm0,m0,hE0,M0,ho⟩=>by
    rw [ex] at ho
    refine ⟨env0,cm0,m0,hE0,M0,ho.bind.mono fun x cm1 m1 H1 x1 M1 o1=>?_⟩
    cases hbr:QL x m1 with
    | stuck=>rw [hbr] at o1; exact o1.elim
    | exc e' m' =>
      exfalso
      unfold QL at hbr
      split at hbr <;> first | (cases hbr; done) | (split at hbr <;> cases hbr)
    | ok ts m2 =>
      rw [hbr] at o1
      obtain ⟨xb,Mb⟩:=Za0 M1 hbr
      let g:Flow→Mem→Res Flow:=fun fl m=>match fl with
        | .next env=>ex call gv k env (giveBack x m1 m)
        | .ret w=>.ok (.ret w) (giveBack x m1 m)
        | _=>.stuck
      have o1:OkR X.K ((Qz (fun env m=>ex call gv sb env m) tg ts env0 m2).bind g) xr cm1 m1 H1 (fun fl cm' m' H'=>ZiS X.K n D fl cm' m' H'):=o1
      refine ⟨ts,m2,rfl,fun J hJ=>?_⟩
      let P:Flow→List Addr→Mem→Hp→Prop:=fun fl _ m' _=>OkR X.K (g fl m') xr cm1 m1 H1 (fun fl cm' m' H'=>ZiS X.K n D fl cm' m' H')
      -- behind the walk
      have fin:∀ env cm m H σ,σ.length=n→EnvR X.K cm m H env σ→MemR X.K cm m H→Ext cm1 m2 H1 cm m H→P (.next env) cm m H→tS X.K call gv xr n k D σ H:=fun env cm m H σ hl hE M xx hP=>by
        obtain ⟨xg,Mg,fg⟩:=XN M1 hbr xx M
        exact ⟨hl,env,cm,_,EnvR.same hE fg,Mg,OkR.shift (show OkR X.K (ex call gv k env (giveBack x m1 m)) xr cm1 m1 H1 _ from hP) xg⟩
      refine ⟨fun i μ σ H=>μ=ts.length - i∧σ.length=n∧∃ env cm m,EnvR X.K cm m H env σ∧MemR X.K cm m H∧Ext cm1 m2 H1 cm m H∧OkR X.K (Qz (fun env m=>ex call gv sb env m) tg (ts.drop i) env m) xr cm m H P,⟨ts.length - 0,rfl,hl0,env0,cm1,m2,(hE0.ext x1 M0 M1).ext xb M1 Mb,Mb,.refl,?_⟩,?_⟩
      · rw [List.drop_zero]
        exact OkR.shift o1.bind0 xb
      · rintro i μ σ H ⟨rfl,hl,env,cm,m,hE,M,xx,hq⟩
        have sJ:=hJ.ext xx Mb M
        cases e:ts[i]? with
        | none =>
          have ed:ts.drop i=[]:=List.drop_eq_nil_iff.mpr (List.getElem?_eq_none_iff.mp e)
          rw [ed,Qz] at hq
          exact .inl ⟨sJ.stop M e,fin env cm m H σ hl hE M xx (OkR.now hq M)⟩
        | some t =>
          have hlt:=(List.getElem?_eq_some_iff.mp e).1
          have ed:ts.drop i=t :: ts.drop (i + 1):=by
            rw [List.drop_eq_getElem_cons hlt]
            rw [(List.getElem?_eq_some_iff.mp e).2]
          rw [ed,Qz] at hq
          obtain ⟨go,hy⟩:=sJ.go M e
          refine .inr ⟨go,fun σ' H'=>σ'.length=n∧∃ env cm m,EnvR X.K cm m H' env σ'∧MemR X.K cm m H'∧Ext cm1 m2 H1 cm m H'∧OkR X.K (Qz (fun env m=>ex call gv sb env m) tg (ts.drop (i + 1)) env m) xr cm m H' P,
            fun σ' H' hN=>⟨ts.length - (i + 1),by omega,rfl,hN⟩,fun v H' y=>?_⟩
          obtain ⟨xy,My,rt⟩:=hy v H' y
          have hE:=hE.ext xy M My
          have xx:=xx.trans xy
          have hq:=OkR.shift hq xy
          have M:=My
          split at hq
          · exact hq.elim
          · rename_i env' eb
            have:=ZlL (Zne (Q:=fun σ' H2=>H2=H'∧EnvR X.K cm m H' env' σ') hE (fun j hj=>by rw [hl]; exact ht j hj) rt eb fun σ' hE' _=>⟨rfl,hE'⟩)
            have mono:∀ {Q Q':L2.St→Hp→Prop},gT X.K tg v σ H' Q→(∀ σ' H',Q σ' H'→Q' σ' H')→gT X.K tg v σ H' Q':=fun {Q Q'} h f=>by
              cases tg with
              | nm j=>exact f _ _ h
              | tp is =>
                obtain ⟨a1,xs,z1,z2,z3,z4⟩:=h
                exact ⟨a1,xs,z1,z2,z3,f _ _ z4⟩
            refine mono this ?_
            rintro σ2 H2 ⟨hl2,e2,hE2⟩
            subst e2
            refine ⟨hl2.trans hl,env',cm,m,hE2,M,hq.bind.mono fun fl cm3 m3 H3 x3 M3 o3=>?_⟩
            cases fl with
            | next env3=>exact fun σ3 hl3 hE3=>⟨hl3,env3,cm3,m3,hE3,M3,xx.trans x3,o3⟩
            | cont env3=>exact fun σ3 hl3 hE3=>⟨hl3,env3,cm3,m3,hE3,M3,xx.trans x3,o3⟩
            | brk env3=>exact fun σ3 hl3 hE3=>fin env3 cm3 m3 H3 σ3 hl3 hE3 M3 (xx.trans x3) (OkR.now (a:=Flow.next env3) o3 M3)
            | ret w =>
              intro v3 rv3
              have hP:P (.ret w) cm3 m3 H3:=OkR.now (a:=Flow.ret w) o3 M3
              obtain ⟨xg,Mg,fg⟩:=XN M1 hbr (xx.trans x3) M3
              refine OkR.to (a:=Flow.ret w) (m':=giveBack x m1 m3) hP xg Mg v3 ?_
              cases w with
              | t t=>exact fg t v3 rv3
              | f a=>exact rv3
              | c j=>exact rv3
theorem ZfS {elt target iter:Expr} {ifs:List Expr} {gs:List Comprehension} {scope:Scope} {N':List Str} {own:Nat} {keep:List Nat} {it:E} {tg:Tg} {cs:Es} {inner:E} {i:Nat} {x:Str} {px spos:Pos}
    (hc:X.calm=true) (kk:CompK X xr call gv N' scope own keep elt target iter ifs gs it tg cs inner) (hN:X.N.Nodup) (hn:X.N.length=n) (hi:X.N[i]? = some x) (hx:X.env.scope.names.lookup x=some .local)
    (hk:PSs X rest (tS X.K call gv xr n k))
    (hsw:swapsWith (.ListComp elt (⟨target,iter,ifs,0⟩ :: gs) scope pos) (some (.Name x px)) spos.line X.env=pure true:=by rfl) :
    PSs X (.Assign [.Name x px] (.ListComp elt (⟨target,iter,ifs,0⟩ :: gs) scope pos) spos :: rest) (tS X.K call gv xr n (.asg i (.comp own keep it tg cs inner) k)):=by
  have h1:PS X (.Assign [.Name x px] (.ListComp elt (⟨target,iter,ifs,0⟩ :: gs) scope pos) spos) (fun D σ H=>∃ env cm m m' out,EnvR X.K cm m H env σ∧MemR X.K cm m H∧ev call gv (.comp own keep it tg cs inner) env m = .ok (.t (.lst out)) m' ∧
      ∀ (p:Addr) (H3:Hp) (cm3:List Addr) (vs:List V),H3 p=none→X.K.lookup p=none→Ext cm m H cm3 m' H3→MemR X.K cm3 m' H3→RTs X.K cm3 m' H3 out vs→D.nx (σ.set i (some (.ref p))) (upd H3 p (.lst vs))) :=
    fun pins s σ H D I ⟨env,cm,m,m',out,hE,M,ok,q⟩=>Zk7 hc kk hN hi hx hsw I hE M ok q
  refine PSs.mono (JZ h1 hk) ?_
  rintro D σ H ⟨hl,env,cm,m,hE,M,ho⟩
  rw [ex] at ho
  cases h:ev call gv (.comp own keep it tg cs inner) env m with
  | stuck=>rw [h] at ho; exact ho.elim
  | exc e m'=>exact absurd h (Zbh e m')
  | ok w m' =>
    obtain ⟨out,rfl⟩:=Zcj h
    rw [h] at ho
    refine ⟨env,cm,m,m',out,hE,M,h,fun p H3 cm3 vs hp _ x3 M3 r3=>?_⟩
    have hi':i < σ.length:=by rw [hl,← hn]; exact (List.getElem?_eq_some_iff.mp hi).1
    have x4:=x3.trans (Ext.new (o:=.lst vs) hp)
    have M4:=M3.new (o:=.lst vs) hp
    exact ⟨by rw [List.length_set]; exact hl,_,cm3,m',EnvR.set (w:=.t (.lst out)) (hE.ext x4 M M4) (RT.newLst M3 r3 hp) i hi',M4,OkR.shift (show OkR X.K (ex call gv k (env.set i (some (.t (.lst out)))) m') xr cm m H _ from ho) x4⟩
end
end Mi
end
noncomputable section
namespace Mi
open PySem PySem.Spec PyProof.Rows L2
def xr0:XR:=fun _ _ _ _=>False
def spF (K:PySem.W.Frag) (fns:List Fn) (gv:List T) (k f:Nat):Sp:=fun vs H Q _=>∃ cm m ws,MemR K cm m H∧RWs K cm m H ws vs∧OkR K (Z6 fns gv k f ws m) xr0 cm m H fun w cm' m' H'=>∀ v,RW K cm' m' H' w v→Q v H'
def FOk (P:Program) (w:World) (K:PySem.W.Frag) (mg:Str→Option Value) (base:Heap) (fns:List Fn) (gv:List T) (k:Nat) (x:Str) (fi:Nat):Prop :=
  ∃ f fd ps,mg x=some (.ref f)∧PySem.W.keepIn K (.ref f)=true∧Binds K fd ps []∧FnOk P w K mg base CX0 k f fd ps (spF K fns gv k fi)
section
variable {K:PySem.W.Frag} {cm cm':List Addr} {m m':Mem} {H H':Hp} {X:Cx} {fns:List Fn} {gv:List T}
variable {a b c e:Expr} {es:List Expr} {ea eb ec:E} {eas:Es} {pos p p2:Pos} {k n:Nat}
theorem Zkn {fi:Nat} {x:Str} (F:FOk X.prog X.w X.K X.mg X.base fns gv k x fi) (hr:Room k X.A) (hg:Gl X x) (ha:PA X (e :: es) (tA X.K (Z6 fns gv k) gv xr0 eas)) (hdb:(x == ("__debug__" : Str))=false:=by decide)
    (he:notStar e=true:=by rfl) (hpl:es.all notStar=true:=by rfl) :
    PE X (.Call (.Name x p) (e :: es) [] pos) (tE X.K (Z6 fns gv k) gv xr0 (.call fi eas)):=by
  obtain ⟨f,fd,ps,hm,hk,hb,F⟩:=F
  refine PE.mono (ZmF F hr hg hm hk hb (dvs:=[]) .nil (E:=E0) pass0 ha hdb (JM he) (ZdP hpl)) ?_
  rintro σ H Q ⟨env,cm,m,hE,M,ho⟩
  rw [ev] at ho
  refine ⟨env,cm,m,hE,M,ho.bind.mono fun ws cm1 m1 H1 x1 M1 o1 vs rvs=>?_⟩
  show spF X.K fns gv k fi (vs++[]) H1 Q E0
  rw [List.append_nil]
  exact ⟨cm1,m1,ws,M1,rvs,o1⟩
theorem Xb {i n:Nat} {c:Bool×List T} (h:(m.take n)[i]? = some (some c)):m[i]? = some (some c)∧i < n:=by
  rw [List.getElem?_take] at h
  split at h
  · exact ⟨h,‹_›⟩
  · cases h
theorem Jp {i n:Nat} (h:i < n):(cm.take n)[i]? = cm[i]?:=by rw [List.getElem?_take,if_pos h]
theorem XH {n:Nat} {a:Addr} (h:ZR cm m a):ZR (cm.take n) (m.take n) a:=fun i q e=>by
  obtain ⟨e1,hi⟩:=Xb e
  rw [Jp hi]
  exact h i q e1
theorem ZjD (M:MemR K cm m H) (n:Nat):MemR K (cm.take n) (m.take n) H∧∀ t v,RT K cm m H t v→RT K (cm.take n) (m.take n) H t v:=by
  have sm:∀ t v,RT K cm m H t v→RT K (cm.take n) (m.take n) H t v:=fun t v r=>r.same (fun _ _ z=>z) fun _ z _=>XH z
  refine ⟨⟨by rw [List.length_take,List.length_take,M.len],fun i j a q r e1 e2 f1 f2=>?_,fun i q e=>?_⟩,sm⟩
  · obtain ⟨e1,h1⟩:=Xb e1
    obtain ⟨e2,h2⟩:=Xb e2
    rw [Jp h1] at f1
    rw [Jp h2] at f2
    exact M.inj i j a q r e1 e2 f1 f2
  · obtain ⟨e1,h1⟩:=Xb e
    obtain ⟨a,vs,q1,q2,q3,q4⟩:=M.at' i q e1
    exact ⟨a,vs,by rw [Jp h1]; exact q1,q2,q3,ZD (fun _ _ z=>sm _ _ z) q4⟩
theorem ZjE (M:MemR K cm m H) (x:Ext cm m H cm' m' H'):Ext cm m H (cm'.take m.length) (m'.take m.length) H':=by
  refine ⟨fun i a h=>?_,by rw [List.length_take]; have:=x.len; omega,fun i ts h=>?_,fun a o h n=>⟨(x.keep a o h n).1,XH (x.keep a o h n).2⟩⟩
  · have hi:=(List.getElem?_eq_some_iff.mp h).1
    rw [M.len] at hi
    rw [Jp hi]
    exact x.pre i a h
  · have hi:=(List.getElem?_eq_some_iff.mp h).1
    rw [List.getElem?_take,if_pos hi]
    exact x.lent i ts h
theorem fin_ok {cell:Bool} {fl:Flow} {Q:VK} {nn:Nat} (M:MemR K cm m H) (x:Ext cm m H cm' m' H') (M':MemR K cm' m' H') (ho:OkR K (fin m.length cell fl m') xr0 cm m H fun w cm' m' H'=>∀ v,RW K cm' m' H' w v→Q v H') :
    ZiS K nn { nx:=fun _ H'=>Q .non H',rt:=Q } fl cm' m' H':=by
  obtain ⟨Mt,st⟩:=ZjD M' m.length
  have xt:=ZjE M x
  cases fl with
  | next env=>exact fun σ _ _=>OkR.to (a:=W.t .non) ho xt Mt _ .non
  | brk env=>exact ho.elim
  | cont env=>exact ho.elim
  | ret w =>
    intro v rv
    cases w with
    | t t=>exact OkR.to (a:=W.t t) ho xt Mt v (st t v rv)
    | f a=>exact ho.elim
    | c i =>
      unfold fin at ho
      dsimp only at ho
      split at ho
      · rename_i hi
        obtain ⟨a,h1,h2⟩:=rv
        exact OkR.to ho xt Mt v ⟨a,by rw [Jp hi]; exact h1,h2⟩
      · rename_i hi
        split at ho
        · rename_i ts e
          obtain ⟨a,h1,h2⟩:=rv
          obtain ⟨a',vs,q1,q2,q3,q4⟩:=M'.at' i _ e
          rw [h1] at q1; cases q1
          have na:ZR (cm'.take m.length) (m'.take m.length) a:=fun j q ej z=>by
            obtain ⟨ej,hj⟩:=Xb ej
            rw [Jp hj] at z
            have:=M'.inj j i a _ _ ej e z h1
            omega
          have lt:(cm'.take m.length).length=m.length:=by rw [List.length_take,M'.len]; have:=x.len; omega
          have lm:(m'.take m.length).length=m.length:=by rw [List.length_take]; have:=x.len; omega
          split at ho
          · -- a list that may change is handed back
            have nl:∀ b,ZR cm' m' b→ZR (cm'.take m.length++[a]) (m'.take m.length++[some (false,ts)]) b:=fun b n=>by
              refine Zb7 (by rw [lt,lm]) (XH n) fun z=>?_
              subst z
              exact n i _ e h1
            have sm:∀ t v,RT K cm' m' H' t v→RT K (cm'.take m.length++[a]) (m'.take m.length++[some (false,ts)]) H' t v:=fun t v r=>r.same (fun _ _ z=>z) fun b z _=>nl b z
            have cs:∀ {j:Nat} {c:Bool×List T},(m'.take m.length++[some (false,ts)])[j]? = some (some c)→((m'.take m.length)[j]? = some (some c)∧j < m.length)∨(j=m.length∧c=(false,ts)):=fun {j c} ej=>by
              by_cases hj:j < m.length
              · rw [List.getElem?_append_left (by rw [lm]; exact hj)] at ej
                exact .inl ⟨ej,hj⟩
              · by_cases hj2:j=m.length
                · subst hj2
                  rw [List.getElem?_append_right (by rw [lm]; exact Nat.le_refl _),lm,Nat.sub_self] at ej
                  cases ej
                  exact .inr ⟨rfl,rfl⟩
                · rw [List.getElem?_eq_none (by rw [List.length_append,lm]; simp; omega)] at ej
                  cases ej
            have cl:∀ {j:Nat},j < m.length→(cm'.take m.length++[a])[j]? = (cm'.take m.length)[j]?:=fun {j} hj=>List.getElem?_append_left (by rw [lt]; exact hj)
            have cp:(cm'.take m.length++[a])[m.length]? = some a:=by
              rw [List.getElem?_append_right (by rw [lt]; exact Nat.le_refl _),lt,Nat.sub_self]
              rfl
            refine OkR.to (cm':=cm'.take m.length++[a]) ho ⟨fun j b h=>?_,by rw [List.length_append,lm]; simp,fun j us h=>?_,fun b o h nb=>⟨(x.keep b o h nb).1,nl b (x.keep b o h nb).2⟩⟩ ⟨by rw [List.length_append,List.length_append,lt,lm]; rfl,fun j1 j2 b c1 c2 e1 e2 f1 f2=>?_,fun j c ej=>?_⟩ v ⟨a,cp,h2⟩
            · have hj:=(List.getElem?_eq_some_iff.mp h).1
              rw [M.len] at hj
              rw [cl hj]
              exact xt.pre j b h
            · have hj:=(List.getElem?_eq_some_iff.mp h).1
              rw [List.getElem?_append_left (by rw [lm]; exact hj)]
              exact xt.lent j us h
            · rcases cs e1 with ⟨g1,l1⟩ | ⟨k1,_⟩
              · rw [cl l1] at f1
                rcases cs e2 with ⟨g2,l2⟩ | ⟨k2,_⟩
                · rw [cl l2] at f2
                  exact Mt.inj j1 j2 b _ _ g1 g2 f1 f2
                · rw [k2,cp] at f2; cases f2
                  exact absurd f1 (na j1 _ g1)
              · rw [k1,cp] at f1; cases f1
                rcases cs e2 with ⟨g2,l2⟩ | ⟨k2,_⟩
                · rw [cl l2] at f2
                  exact absurd f2 (na j2 _ g2)
                · rw [k1,k2]
            · rcases cs ej with ⟨g,l⟩ | ⟨kk,z⟩
              · obtain ⟨gg,_⟩:=Xb g
                obtain ⟨b,ws,w1,w2,w3,w4⟩:=M'.at' j c gg
                exact ⟨b,ws,by rw [cl l,Jp l]; exact w1,w2,w3,ZD (fun _ _ z=>sm _ _ z) w4⟩
              · rw [kk,z]
                exact ⟨a,vs,cp,q2,q3,ZD (fun _ _ z=>sm _ _ z) q4⟩
          · subst h2
            exact OkR.to (a:=W.t (.lst ts)) ho xt Mt _ (RT.mlst q2 na (ZD (fun _ _ z=>st _ _ z) q4))
        · exact ho.elim
theorem Zl4 {N:List Str} {ws:List W} {vs:List V} {j:Nat} (r:RWs K cm m H ws vs) (hj:j=N.length - vs.length):EnvR K cm m H (ws.map some++List.replicate j none) (L2.start N vs):=fun i w e=>by
  unfold L2.start
  have hl:=r.length
  by_cases hi:i < ws.length
  · rw [List.getElem?_append_left (by simpa using hi),List.getElem?_map] at e
    cases q:ws[i]? with
    | none=>rw [q] at e; cases e
    | some w' =>
      rw [q] at e; cases e
      obtain ⟨v,h1,h2⟩:=Z9 r q
      refine ⟨v,?_,h2⟩
      rw [List.getElem?_append_left (by rw [List.length_map]; omega),List.getElem?_map,h1]
      rfl
  · rw [List.getElem?_append_right (by simpa using hi),List.getElem?_replicate] at e
    split at e <;> cases e
theorem ZhC {N:List Str} {vs:List V} (h:vs.length≤N.length):(L2.start N vs).length=N.length:=by
  unfold L2.start
  rw [List.length_append,List.length_map,List.length_replicate]
  omega
theorem fn_okW {P:Program} {w:World} {mg:Str→Option Value} {base:Heap} {x qual:Str} {st:Stmt} {f:Addr} {fd:FuncData} {N ps:List Str} {fi:Nat} {d:Fn} (F:Fun K x qual st f fd) (S:FnScope N ps (Zc st)) (hd:fns[fi]? = some d) (hps:d.ps=ps.length) (hn:d.n=N.length)
    (hbody:∀ (cdv:Value) (A:Around) (outer:List PySem.Env) (s:Shared) (H:Hp) (E:XK),Room k (A.deeper (envOfC qual (Zc st) s.heap.objs.size f cdv)) →
      PSs (cxOf CX0 P w K mg base N qual (Zc st) f cdv A outer s H E).nox (Ze st) (tS K (Z6 fns gv k) gv xr0 N.length d.body)) :
    FnOk P w K mg base CX0 (k + 1) f fd ps (spF K fns gv (k + 1) fi):=by
  have hpl:ps.length≤N.length:=by have:=congrArg List.length S.pre; rw [List.length_take] at this; omega
  have len:∀ {ws:List W} {m:Mem} {cm:List Addr} {H:Hp} {post:W→List Addr→Mem→Hp→Prop},OkR K (Z6 fns gv (k + 1) fi ws m) xr0 cm m H post→ws.length=d.ps∧OkR K ((ex (Z6 fns gv k) gv d.body (ws.map some++List.replicate (d.n - d.ps) none) m).bind fun fl m'=>fin m.length d.cell fl m') xr0 cm m H post:=fun {ws m cm H post} h=>by
    rw [Z6,hd] at h
    dsimp only at h
    by_cases hc:ws.length=d.ps
    · rw [if_pos hc] at h; exact ⟨hc,h⟩
    · rw [if_neg hc] at h; exact h.elim
  refine F.ok S (fun vs H Q E ⟨cm,m,ws,M,r,ho⟩=>by rw [← r.length,(len ho).1,hps]) (fun cdv A outer s H vs Q E hr ⟨cm,m,ws,M,r,ho⟩=>?_)
  obtain ⟨hl,ho⟩:=len ho
  have hv:vs.length=ps.length:=by rw [← r.length,hl,hps]
  refine ⟨_,hbody cdv A outer s H E hr,ZhC (by omega),ws.map some++List.replicate (d.n - d.ps) none,cm,m,Zl4 r (by rw [hn,hps,hv]),M,?_⟩
  exact ho.bind0.mono fun fl cm1 m1 H1 x1 M1 o1=>fin_ok M x1 M1 o1
theorem ZC {P:Program} {w:World} {mg:Str→Option Value} {base:Heap} {f:Addr} {fd:FuncData} {ps:List Str} {fi:Nat}:FnOk P w K mg base CX0 0 f fd ps (spF K fns gv 0 fi):=by
  have no:∀ vs H Q E,¬ spF K fns gv 0 fi vs H Q E:=fun vs H Q E ⟨cm,m,ws,M,r,ho⟩=>by
    rw [Z6] at ho
    exact ho
  exact ⟨fun vs H Q E h=>absurd h (no vs H Q E),fun A outer s H args us vs Q E _ _ _ _ h=>absurd h (no vs H Q E)⟩
end
end Mi
end
noncomputable section
namespace Mi
open PySem PySem.Spec PyProof.Rows L2
section
variable {K:PySem.W.Frag} {xr:XR} {X:Cx} {call:Nat→List W→Mem→Res W} {gv:List T}
variable {e:Expr} {ea:E} {pos:Pos} {rest:List Stmt} {k:S} {n:Nat}
theorem vr (i:Nat) {x:Str} {pos:Pos} (hN:X.N[i]? = some x:=by rfl) (hv:Vis X.env.scope x:=by first | exact Or.inl rfl | exact Or.inr (Or.inl rfl) | exact Or.inr (Or.inr rfl)) (hd:(x == ("__debug__" : Str))=false:=by decide)
    (hcd:(x == ("__classdict__" : Str))=false:=by decide):PE X (.Name x pos) (tE X.K call gv xr (.var i)):=Zmp hN hv hd hcd
theorem sg (i:Nat) {x:Str} {px:Pos} (hN:X.N.Nodup) (h:PE X e (tE X.K call gv xr ea)) (hk:PSs X rest (tS X.K call gv xr n k)) (hn:X.N.length=n:=by rfl) (hi:X.N[i]? = some x:=by rfl) (hx:Loc X.env.scope x:=by first | exact Or.inl rfl | exact Or.inr rfl)
    (hs:swapsWith e (some (.Name x px)) pos.line X.env=pure false:=by rfl) (hf:X.fn x=true∨X.env.scope.names.lookup x=some .local:=by first | exact .inl rfl | exact .inr rfl):PSs X (.Assign [.Name x px] e pos :: rest) (tS X.K call gv xr n (.asg i ea k)):=ZjZ hN hn hi hx h hk hs hf
theorem Qi (i:Nat) {x:Str} {pos:Pos} (hN:X.N.Nodup) (hi:X.N[i]? = some x:=by rfl) (hx:Loc X.env.scope x:=by first | exact Or.inl rfl | exact Or.inr rfl) (hf:X.fn x=true∨X.env.scope.names.lookup x=some .local:=by first | exact .inl rfl | exact .inr rfl):PG X (.Name x pos) (gT X.K (.nm i)):=Zam hN hi hx hf
def scOk (scope osc:Scope):Bool:=scope.kind == .function && scope.names.all fun p=>p.2 != .cell && scope.names.lookup p.1 == some p.2 && (p.2 != .free || osc.names.lookup p.1 == some .cell || osc.names.lookup p.1 == some .free)
def ZlH (N' N:List Str) (own:Nat) (keep:List Nat) (scope:Scope):Bool:=N'.length == own + keep.length && (List.range keep.length).all fun i=>match N'[own + i]?,keep[i]? with
  | some x,some j=>N[j]? == some x && scope.names.any fun p=>p.1 == x && p.2 == .free
  | _,_=>false
theorem Zk8 {N':List Str} {scope:Scope} {own:Nat} {keep:List Nat} {elt target iter:Expr} {ifs:List Expr} {gs:List Comprehension} {it:E} {tg:Tg} {cs:Es} {inner:E} (h1:scOk scope X.env.scope=true) (h2:ZlH N' X.N own keep scope=true)
    (pi:PI X target iter (tI X.K call gv xr it)) (fs:∀ x,foldedSetIterable iter X.env x=pure x) (ins:Zge X xr call gv N' scope elt target ifs (⟨target,iter,ifs,0⟩ :: gs) tg cs inner) (dis:∀ i∈tgS tg,i ∉ innS inner) (slt:∀ i∈tgS tg++innS inner,i < own) :
    CompK X xr call gv N' scope own keep elt target iter ifs gs it tg cs inner:=by
  unfold scOk at h1
  rw [Bool.and_eq_true] at h1
  obtain ⟨hk,h1⟩:=h1
  have h1:=List.all_eq_true.mp h1
  unfold ZlH at h2
  rw [Bool.and_eq_true] at h2
  obtain ⟨hl,h2⟩:=h2
  have h2:=List.all_eq_true.mp h2
  refine ⟨⟨eq_of_beq hk,fun y hy=>?_,fun p hp=>?_,fun x hx=>?_⟩,eq_of_beq hl,fun i x e=>?_,pi,fs,ins,dis,slt⟩
  · have:=h1 y hy
    simp only [Bool.and_eq_true] at this
    have h:=this.1.1
    exact fun z=>by rw [z] at h; cases h
  · have:=h1 p hp
    simp only [Bool.and_eq_true] at this
    exact eq_of_beq this.1.2
  · have:=h1 _ hx
    simp only [Bool.and_eq_true,Bool.or_eq_true] at this
    rcases this.2 with (h | h) | h
    · cases h
    · exact .inl (eq_of_beq h)
    · exact .inr (eq_of_beq h)
  · have hlen:N'.length=own + keep.length:=eq_of_beq hl
    have hi:i < keep.length:=by
      have:=(List.getElem?_eq_some_iff.mp e).1
      omega
    have h:=h2 i (List.mem_range.mpr hi)
    rw [e] at h
    cases q:keep[i]? with
    | none=>rw [q] at h; cases h
    | some j =>
      rw [q] at h
      have h:(X.N[j]? == some x && scope.names.any fun p=>p.1 == x && p.2 == .free)=true:=h
      rw [Bool.and_eq_true] at h
      refine ⟨j,rfl,eq_of_beq h.1,?_⟩
      obtain ⟨p,hp,hq⟩:=List.any_eq_true.mp h.2
      rw [Bool.and_eq_true] at hq
      rw [← eq_of_beq hq.1]
      have:p.2=NameKind.free:=eq_of_beq hq.2
      rw [← this]
      exact hp
theorem scr_of {H:Hp} {a:Addr} {ns:List Int} (hO:Only H) (hS:SqL K H a (ns.map V.int)):ZeR K H a ns:=by
  rcases hS with (h | ⟨o,h⟩) | h
  · rcases hO a with q | ⟨o,xs,q⟩ <;> rw [h] at q <;> cases q
  · exact .inl ⟨o,h⟩
  · exact .inr h
theorem law_sp {fns:List Fn} {k fi:Nat} {H:Hp} {a:Addr} {ns:List Int} {E:XK} (hO:Only H) (hS:SqL K H a (ns.map V.int)) (h:∃ m,Z6 fns gv k fi [.t (.scr ns)] [] = .ok (.t (.bl true)) m):spF K fns gv k fi [.ref a] H (fun v _=>v = .bl true) E:=by
  obtain ⟨m,h⟩:=h
  refine ⟨[],[],[.t (.scr ns)],⟨rfl,fun i j a p q e=>by simp at e,fun i p e=>by simp at e⟩,.cons (.scr ns (scr_of hO hS)) .nil,?_⟩
  rw [h]
  intro cm' H' x M v rv
  cases RT.vbl rv
  rfl
inductive StrsV:List (List Nat)→List Value→Prop where
  | nil:StrsV [] []
  | cons {y:Str} {t:Tok} {cs:List Nat} {r:List (List Nat)} {us:List Value}:y.cps.toList=cs→StrsV r us→StrsV (cs :: r) (.str y t :: us)
end
end Mi
end
noncomputable section
namespace Mi
open PySem PySem.Spec PyProof.Rows L2
section
variable {K:PySem.W.Frag} {cm:List Addr} {m:Mem} {H:Hp} {xr:XR} {X:Cx} {call:Nat→List W→Mem→Res W} {gv:List T}
variable {a b c e:Expr} {es:List Expr} {ea eb ec:E} {eas:Es} {pos p p2:Pos} {rest:List Stmt} {k:S} {n:Nat}
theorem Zkk:PE X (.Dict [] [] pos) (tE X.K call gv xr (.dsp .nil .nil)):=by
  refine PE.mono Zkl ?_
  rintro σ H Q ⟨env,cm,m,hE,M,ho⟩
  have e0:ev call gv (.dsp .nil .nil) env m = .ok (.t (.dct [] [])) m:=by simp only [ev,evs,Res.bind,dspT]
  rw [e0] at ho
  intro p hp
  refine OkR.to ho (.new hp) (M.new (o:=.dK []) hp) (.ref p) ?_
  exact .dct (ks:=[]) (vs:=[]) JV (Zb6 M hp) rfl rfl fun i t v h1 h2=>by cases h1
theorem blt2 {b:B} {ws:List W} {vs:List V} {k:W→List Addr→Mem→Hp→Prop} (r:RWs K cm m H ws vs) (h1:∀ ts t,bltT b ts=some t→∃ i j,ts=[.int i,.int j]) (h:OkR K (fBlt b ws m) xr cm m H k) :
    ∃ i j r,vs=[.int i,.int j]∧bltT b [.int i,.int j]=some r∧OkR K (.ok (.t r) m) xr cm m H k:=by
  obtain ⟨t,e,ho⟩:=JN h
  cases q:views ws m with
  | none=>rw [q] at e; cases e
  | some ts =>
    rw [q] at e
    have e:bltT b ts=some t:=e
    obtain ⟨i,j,rfl⟩:=h1 ts t e
    match ws,vs,r with
    | [],_,_=>cases q
    | [w],_,_ =>
      unfold views at q
      cases q1:view w m with
      | none=>rw [q1] at q; cases q
      | some t1=>rw [q1] at q; cases q
    | [w1,w2],_,.cons r1 (.cons r2 .nil) =>
      unfold views at q
      cases q1:view w1 m with
      | none=>rw [q1] at q; cases q
      | some t1 =>
        rw [q1] at q
        unfold views at q
        cases q2:view w2 m with
        | none=>rw [q2] at q; cases q
        | some t2 =>
          rw [q2] at q
          cases q
          cases (Zj r1 q1 (fun _ z=>by cases z)).vint
          cases (Zj r2 q2 (fun _ z=>by cases z)).vint
          exact ⟨i,j,t,rfl,e,ho⟩
    | w1 :: w2 :: w3 :: ws,_,_ =>
      unfold views at q
      cases q1:view w1 m with
      | none=>rw [q1] at q; cases q
      | some t1 =>
        rw [q1] at q
        unfold views at q
        cases q2:view w2 m with
        | none=>rw [q2] at q; cases q
        | some t2 =>
          rw [q2] at q
          unfold views at q
          cases q3:view w3 m with
          | none=>rw [q3] at q; cases q
          | some t3 =>
            rw [q3] at q
            cases q4:views ws m with
            | none=>rw [q4] at q; cases q
            | some t4=>rw [q4] at q; cases q
theorem Zjy {b:B} (hb:b = .min2∨b = .max2):∀ ts t,bltT b ts=some t→∃ i j,ts=[.int i,.int j]:=by
  intro ts t h
  rcases hb with rfl | rfl <;> exact (Zhu h).imp fun i hi=>hi.imp fun j hj=>hj.1
theorem Zi9 (hc:X.calm=true):Xg X (.builtin "min") (rN X.K xr (fBlt .min2)):=by
  rintro pins s σ H xs us Q I r ⟨cm,m,ws,M,rws,ho⟩
  obtain ⟨i,j,rr,rfl,eb,ho⟩:=blt2 rws (Zjy (.inl rfl)) ho
  cases eb
  exact Zja hc pins s σ H _ us Q I r ⟨i,j,rfl,ans ho M (.int _)⟩
theorem RTs.ints:∀ {ts:List T} {vs:List V} {bs:List Int},RTs K cm m H ts vs→ints? ts=some bs→vs=bs.map V.int
  | [],_,_,.nil,e=>by cases e; rfl
  | t :: ts,_,bs,.cons r rs,e=>by
    cases t with
    | int c =>
      unfold ints? at e
      cases q:ints? ts with
      | none=>rw [q] at e; cases e
      | some cs =>
        rw [q] at e; cases e
        cases RT.vint r
        rw [RTs.ints rs q]
        rfl
    | _=>cases e
theorem ZgZ:MtR X "list.append" (rM X.K xr .append):=by
  rintro pins s σ H x xs v us Q I rx rs ⟨cm,m,w,ws,M,rw',rws,ho⟩
  cases w with
  | t t=>exact ho.elim
  | f a=>exact ho.elim
  | c i =>
    have ho:OkR X.K ((frzs ws m).bind fun ts m=>match m[i]? with
      | some (some (false,xs))=>match mutM .append xs ts with
        | some (t,ys)=>.ok (W.t t) (m.set i (some (false,ys)))
        | none=>.stuck
      | _=>.stuck) xr cm m H _:=ho
    obtain ⟨ts,m2,e2,o2⟩:=ZbK ho
    obtain ⟨x2,M2,r2⟩:=Zcc M rws e2
    obtain ⟨a,ha,rfl⟩:=rw'
    split at o2
    · rename_i ys e3
      split at o2
      · rename_i t zs e4
        obtain ⟨b,vs,q1,q2,q3,q4⟩:=M2.at' i _ e3
        rw [ha] at q1; cases q1
        have l4:=q4.length
        dsimp only at l4
        have hz:=Qn
        match ts,r2,e4 with
        | [t1],.cons r3 .nil,e4 =>
          unfold mutM at e4
          dsimp only at e4
          split at e4 <;> cases e4
          rename_i hlt
          obtain ⟨x5,M5⟩:=ZcW M2 e3 ha (QZ q4 (.cons r3 .nil))
          exact Zim pins s σ H _ _ v us Q I rx rs ⟨a,vs,_,rfl,rfl,q2,by omega,OkR.to o2 (x2.trans x5) M5 _ .non⟩
        | [],_,e4=>cases e4
        | _ :: _ :: _,_,e4=>cases e4
      · exact o2.elim
    · exact o2.elim
theorem ZgH {o:Expr} {apos cpos:Pos} (ho:PE X o (tE X.K call gv xr ea)) (ha:PA X [e] (tA X.K call gv xr eas))
    (hbase:attributeBase o "append" X.env (eval o X.env)=eval o X.env:=by rfl)
    (hline:(apos.endLine == cpos.line)=true:=by rfl) (hs:notStar e=true:=by rfl) :
    PE X (.Call (.Attribute o "append" apos) [e] [] cpos) (tE X.K call gv xr (.mth .append ea eas)):=by
  refine PE.mono (pe_bm PySem.F.plainAttrs_list PySem.F.slot_list_append PySem.F.type_list_append (ZgZ (xr:=xr)) ho ha hbase (few1 hs) hline (JM hs) (ZdP rfl)) ?_
  rintro σ H Q ⟨env,cm,m,hE,M,hq⟩
  rw [ev] at hq
  refine ⟨env,cm,m,hE,M,hq.bind.mono fun w cm1 m1 H1 x1 M1 o1 v rv=>?_⟩
  obtain ⟨ht,o1⟩:=Zf3 o1
  refine ⟨?_,env,cm1,m1,hE.ext x1 M M1,M1,o1.bind.mono fun ws cm2 m2 H2 x2 M2 o2 vs rvs=>?_⟩
  · cases w with
    | t t=>cases ht
    | f a=>cases ht
    | c i =>
      obtain ⟨a,h1,rfl⟩:=rv
      have ht:(match m1[i]? with
        | some (some _)=>true
        | _=>false)=true:=ht
      split at ht
      · rename_i c e1
        obtain ⟨b,vs,q1,q2,_⟩:=M1.at' i _ e1
        rw [h1] at q1; cases q1
        exact .inl ⟨rfl,vs,.of q2⟩
      · cases ht
  · exact ⟨cm2,m2,w,ws,M2,rv.ext x2 M1 M2,rvs,o2⟩
theorem QX (i j:Nat) {x y:Str} {px py:Pos} {kk:Nat} (hc:X.calm=true) (hN:X.N.Nodup) (hi:X.N[i]? = some x:=by rfl) (hj:X.N[j]? = some y:=by rfl) (hx:Loc X.env.scope x:=by first | exact Or.inl rfl | exact Or.inr rfl) (hy:Loc X.env.scope y:=by first | exact Or.inl rfl | exact Or.inr rfl)
    (hf:X.fn x=true∨X.env.scope.names.lookup x=some .local:=by first | exact .inl rfl | exact .inr rfl) (hg:X.fn y=true∨X.env.scope.names.lookup y=some .local:=by first | exact .inl rfl | exact .inr rfl)
    (hs:(assignEach [.Name x px,.Name y py] X.env).map (·.2)=assign (.Name x px) X.env :: (assignEach [.Name y py] X.env).map (·.2):=by rfl) (hs2:(assignEach [.Name y py] X.env).map (·.2)=assign (.Name y py) X.env :: (assignEach [] X.env).map (·.2):=by rfl)
    (hn:(assignEach [.Name x px,.Name y py] X.env).length=2:=by rfl) (hst:(assignEach [.Name x px,.Name y py] X.env).findIdx? (·.1)=none:=by rfl):PG X (.Tuple [.Name x px,.Name y py] kk pos) (gT X.K (.tp [i,j])):=by
  rintro pins s σ H v u Q I r ⟨a,xs,e1,h1,h2,h3⟩
  refine ZlB hc (X6 (Zam hN hi hx hf) (X6 (Zam hN hj hy hg) ZhU hs2) hs) hn hst pins s σ H v u Q I r ⟨a,xs,e1,h1,h2,?_⟩
  match xs,h2 with
  | [v1,v2],_=>exact ⟨v1,[v2],rfl,v2,[],rfl,rfl,h3⟩
theorem Zj0 {tg:Expr} {is:List Nat} (hN:∀ i∈is,i < n) (h:PE X e (tE X.K call gv xr ea)) (hg:PG X tg (gT X.K (.tp is))) (hk:PSs X rest (tS X.K call gv xr n k))
    (hs:swapsWithSole [tg] e pos.line X.env=pure false:=by rfl) (hw:swappedStores [tg] e X.env=pure none:=by rfl) (h1:(assignEach [tg] X.env).map (·.2)=[assign tg X.env]:=by rfl):PSs X (.Assign [tg] e pos :: rest) (tS X.K call gv xr n (.asgT is ea k)):=by
  refine PSs.mono (JZ (ZlA h hg hs hw h1) hk) ?_
  rintro D σ H ⟨hl,env,cm,m,hE,M,ho⟩
  rw [ex] at ho
  refine ⟨env,cm,m,hE,M,ho.bind.mono fun w cm1 m1 H1 x1 M1 o1 v rv=>?_⟩
  cases w with
  | f a=>exact o1.elim
  | c i=>exact o1.elim
  | t t =>
    have o1:OkR X.K (match Jr (.tp is) t env with
      | some env=>ex call gv k env m1
      | none=>.stuck) xr cm1 m1 H1 _:=o1
    split at o1
    · rename_i env' eb
      have:=ZlL (Zne (Q:=fun σ' H'=>H' = H1∧EnvR X.K cm1 m1 H1 env' σ') (hE.ext x1 M M1) (fun j hj=>by rw [hl]; exact hN j hj) rv eb fun σ' hE' _=>⟨rfl,hE'⟩)
      obtain ⟨a1,xs,z1,z2,z3,z4,z5,z6⟩:=this
      exact ⟨a1,xs,z1,z2,z3,z4.trans hl,env',cm1,m1,z6,M1,o1⟩
    · exact o1.elim
end
end Mi
namespace Mi
open PySem PySem.Spec PyProof.Rows L2
section
variable {xr:XR} {X:Cx} {call:Nat→List W→Mem→Res W} {gv:List T}
variable {e:Expr} {es:List Expr} {eas:Es} {pos p:Pos}
theorem Zmy (hg:Gl X "len") (hm:X.mg "len" = none) (ha:PA X (e :: es) (tA X.K call gv xr eas)) (he:notStar e=true) (hpl:es.all notStar=true):PE X (.Call (.Name "len" p) (e :: es) [] pos) (tE X.K call gv xr (.blt .len eas)):=ZbZ Zjb (by decide +kernel) hg hm ha (by decide) (by decide) he hpl
theorem Zkj (hg:Gl X "int") (hm:X.mg "int" = none) (ha:PA X (e :: es) (tA X.K call gv xr eas)) (he:notStar e=true) (hpl:es.all notStar=true):PE X (.Call (.Name "int" p) (e :: es) [] pos) (tE X.K call gv xr (.blt .int eas)):=Zdg Zjc (by decide +kernel) hg hm ha (by decide) (by decide) he hpl
theorem Zkg (hg:Gl X "str") (hm:X.mg "str" = none) (ha:PA X (e :: es) (tA X.K call gv xr eas)) (he:notStar e=true) (hpl:es.all notStar=true):PE X (.Call (.Name "str" p) (e :: es) [] pos) (tE X.K call gv xr (.blt .str eas)):=Zdg Zi8 (by decide +kernel) hg hm ha (by decide) (by decide) he hpl
theorem ZgF (hg:Gl X "tuple") (hm:X.mg "tuple" = none) (ha:PA X (e :: es) (tA X.K call gv xr eas)) (he:notStar e=true) (hpl:es.all notStar=true) (hc:X.calm=true:=by rfl):PE X (.Call (.Name "tuple" p) (e :: es) [] pos) (tE X.K call gv xr (.blt .tuple eas)):=Zdg (Zfw hc) (by decide +kernel) hg hm ha (by decide) (by decide) he hpl
theorem ZhW (hg:Gl X "list") (hm:X.mg "list" = none) (ha:PA X (e :: es) (tA X.K call gv xr eas)) (he:notStar e=true) (hpl:es.all notStar=true):PE X (.Call (.Name "list" p) (e :: es) [] pos) (tE X.K call gv xr (.blt .list eas)):=Zdg Zhj (by decide +kernel) hg hm ha (by decide) (by decide) he hpl
theorem Zkp (hg:Gl X "all") (hm:X.mg "all" = none) (ha:PA X (e :: es) (tA X.K call gv xr eas)) (he:notStar e=true) (hpl:es.all notStar=true) (hc:X.calm=true:=by rfl):PE X (.Call (.Name "all" p) (e :: es) [] pos) (tE X.K call gv xr (.blt .all eas)):=ZbZ (Zje hc) (by decide +kernel) hg hm ha (by decide) (by decide) he hpl
theorem Zko (hg:Gl X "any") (hm:X.mg "any" = none) (ha:PA X (e :: es) (tA X.K call gv xr eas)) (he:notStar e=true) (hpl:es.all notStar=true) (hc:X.calm=true:=by rfl):PE X (.Call (.Name "any" p) (e :: es) [] pos) (tE X.K call gv xr (.blt .any eas)):=ZbZ (Zjd hc) (by decide +kernel) hg hm ha (by decide) (by decide) he hpl
theorem Zki (hg:Gl X "min") (hm:X.mg "min" = none) (ha:PA X (e :: es) (tA X.K call gv xr eas)) (he:notStar e=true) (hpl:es.all notStar=true) (hc:X.calm=true:=by rfl):PE X (.Call (.Name "min" p) (e :: es) [] pos) (tE X.K call gv xr (.blt .min2 eas)):=ZbZ (Zi9 hc) (by decide +kernel) hg hm ha (by decide) (by decide) he hpl
end
end Mi
namespace Mi
open PySem PySem.Spec PyProof.Rows L2
structure Bd (X:Cx) (st:List Stmt) (t:TS):Prop where
  h:PSs X st t
theorem ZQ {K:PySem.W.Frag} {fns:List Fn} {gv:List T} {k:Nat} {P:Program} {w:World} {mg:Str→Option Value} {base:Heap} {x qual:Str} {st:Stmt} {f:Addr} {fd:FuncData} {N ps:List Str} {fi np n:Nat} {body:S} {cell:Bool} (F:Fun K x qual st f fd) (S:FnScope N ps (Zc st)) (hd:fns[fi]? = some ⟨np,n,body,cell⟩) (hps:np=ps.length) (hn:N.length=n)
    (hbody:∀ (cdv:Value) (A:Around) (outer:List PySem.Env) (s:Shared) (H:Hp) (E:XK),Room k (A.deeper (envOfC qual (Zc st) s.heap.objs.size f cdv)) →
      Bd (cxOf CX0 P w K mg base N qual (Zc st) f cdv A outer s H E).nox (Ze st) (tS K (Z6 fns gv k) gv xr0 n body)) :
    FnOk P w K mg base CX0 (k + 1) f fd ps (spF K fns gv (k + 1) fi):=by
  subst hn
  exact fn_okW F S hd hps rfl fun cdv A outer s H E hr=>(hbody cdv A outer s H E hr).h
end Mi
end
noncomputable section
namespace Mi
open PySem PySem.Spec PyProof.Rows L2
section
variable {K:PySem.W.Frag} {cm:List Addr} {m:Mem} {H:Hp} {xr:XR} {X:Cx} {call:Nat→List W→Mem→Res W} {gv:List T}
variable {a b c e:Expr} {es:List Expr} {ea eb ec:E} {eas:Es} {pos p p2:Pos} {rest:List Stmt} {k:S} {n:Nat}
theorem Zhs {ws:List W} {t1 t2:T} (h:views ws m=some [t1,t2]):∃ w1 w2,ws=[w1,w2]∧view w1 m=some t1∧view w2 m=some t2:=by
  cases ws with
  | nil=>cases h
  | cons w ws =>
    unfold views at h
    obtain ⟨x,h1,h2⟩:=Option.bind_eq_some_iff.mp h
    obtain ⟨xs,h3,h4⟩:=Option.map_eq_some_iff.mp h2
    cases h4
    obtain ⟨w2,rfl,h5⟩:=Zht h3
    exact ⟨w,w2,rfl,h1,h5⟩
abbrev zA (h:Heap) (a:Addr):Heap:=h.push { cls:=.type "tuple_iterator",data:=.fields #[.ref a,.int 0 0] }
abbrev zB (h:Heap) (a b:Addr):Heap:=(zA h a).push { cls:=.type "tuple_iterator",data:=.fields #[.ref b,.int 0 0] }
abbrev zC (h:Heap) (a b:Addr):Heap:=(zB h a b).push { cls:=.type "tuple",data:=.seq #[.ref h.objs.size,.ref (zA h a).objs.size] }
abbrev zD (h:Heap) (a b:Addr):Heap:=(zC h a b).push { cls:=.type "tuple",data:=.seq #[.none,.none] }
abbrev zE (h:Heap) (a b:Addr):Heap:=(zD h a b).push { cls:=.type "zip",data:=.fields #[.none,.bool false,.bool false,.ref (zB h a b).objs.size,.ref (zC h a b).objs.size] }
theorem Zfj (a b:Addr) (xs ys:Array Value):Meets (Builtin.«zip.__new__» ⟨[.type "zip",.ref a,.ref b],[]⟩)
    (fun _ R s=>s.heap.IsTuple a xs∧s.heap.IsTuple b ys∧R (.ok (.ret (.ref (zD s.heap a b).objs.size))) { s with heap:=zE s.heap a b }) :=
  .of_wp fun prog w A R s h=>by
    obtain ⟨hp,g,d,tk,os⟩:=s
    obtain ⟨ha,hb,h⟩:=h
    have hsub:=sub_zip
    have h1:Heap.IsTuple (Shared.heap ⟨hp,g,d,tk,os⟩) a xs:=ha
    have h2:Heap.IsTuple (Shared.heap ⟨hp.push { cls:=.type "tuple_iterator",data:=.fields #[.ref a,.int 0 0] },g,d,tk,os⟩) b ys:=by
      obtain ⟨o,e,r⟩:=hb
      exact ⟨o,Heap.get?_push_of_some _ e,r⟩
    wp_walk using wpAny_pyIter_tuple h1,wpAny_pyIter_tuple h2
    exact ⟨_,rfl,h⟩
theorem Zhh {prog:Program} {w:World} {A:Around} {E:Value→Shared→Prop} {s:Shared} {a b:Addr} {xs ys:Array Value} {Q:Value→Shared→Prop} (ha:s.heap.IsTuple a xs) (hb:s.heap.IsTuple b ys)
    (h:∀ g:Heap,Side (s.heap.objs.size + 4) (s.heap.objs.size + 2) (s.heap.objs.size + 3) s.heap.objs.size (s.heap.objs.size + 1) a b 0 g→(∀ c o,s.heap.get? c=some o→g.get? c=some o)→Q (.ref (s.heap.objs.size + 4)) { s with heap:=g }) :
    wpAny (model prog w) A (PySem.call (.type "zip") [.ref a,.ref b]) Q E s:=by
  refine callType_new F.called_zip (by decide) (F.typeCall_zip_2 _ _) (F.newCall_zip_2 _ _) (fun obj=>F.args_object_init_3 obj _ _) F.entry_zip_new (Zfj a b xs ys) ⟨ha,hb,?_⟩
  have e1:(zA s.heap a).objs.size=s.heap.objs.size + 1:=Heap.size_push ..
  have e2:(zB s.heap a b).objs.size=s.heap.objs.size + 2:=by rw [Heap.size_push,e1]
  have e3:(zC s.heap a b).objs.size=s.heap.objs.size + 3:=by rw [Heap.size_push,e2]
  have e4:(zD s.heap a b).objs.size=s.heap.objs.size + 4:=by rw [Heap.size_push,e3]
  have up:∀ {h:Heap} {o o':Obj} {c:Addr},h.get? c=some o'→(h.push o).get? c=some o':=fun e=>Heap.get?_push_of_some _ e
  have g5:(zE s.heap a b).get? (zD s.heap a b).objs.size=some _:=Heap.get?_push_size _ rfl
  have g4:(zE s.heap a b).get? (zC s.heap a b).objs.size=some _:=up (Heap.get?_push_size _ rfl)
  have g3:(zE s.heap a b).get? (zB s.heap a b).objs.size=some _:=up (up (Heap.get?_push_size _ rfl))
  have g2:(zE s.heap a b).get? (zA s.heap a).objs.size=some _:=up (up (up (Heap.get?_push_size _ rfl)))
  have g1:(zE s.heap a b).get? s.heap.objs.size=some _:=up (up (up (up (Heap.get?_push_size _ rfl))))
  show _∧_
  rw [e2,e3,e4] at g5
  rw [e1,e2] at g3
  rw [e3] at g4
  rw [e1] at g2
  rw [e4]
  exact ⟨⟨_,g5,rfl⟩,h _ ⟨g5,g3,⟨_,_,g4⟩,⟨_,g1,rfl,rfl⟩,⟨_,g2,rfl,rfl⟩⟩ fun c o x=>up (up (up (up (up x))))⟩
def iZip (K:PySem.W.Frag) (ta:TA):TI:=fun σ H R=>ta σ H fun vs H1=>∃ a b xs ys,vs=[.ref a,.ref b]∧SqT K H1 a xs∧SqT K H1 b ys∧R (Itz K a b) H1
theorem Zmn {ts:List Expr} {kk} {tp:Pos} {ta:TA} (hg:Gl X "zip") (hm:X.mg "zip" = none) (ha:PA X [a,b] ta) (hs:starEach [a,b] X.env=[(false,eval a X.env),(false,eval b X.env)]) (hs2:starEach [b] X.env=[(false,eval b X.env)]) :
    PI X (.Tuple ts kk tp) (.Call (.Name "zip" p) [a,b] [] pos) (iZip X.K ta):=by
  intro pins s σ H R I h
  refine Call_ (ZaL I hg hm boot_zip (PyProof.Rows.callWith_type1 (thn (ha pos pins s σ H _ I h) fun us s1 ⟨vs,H1,I1,r1,q1⟩=>?_) (by rw [hs,hs2]) (by rw [hs2]; rfl)))
  obtain ⟨x,y,xs,ys,e,q1,q2,q⟩:=q1
  subst e
  cases r1 with
  | cons r rr =>
    cases rr with
    | cons r' rr =>
      cases rr
      cases r
      cases r'
      obtain ⟨its,rv,p,_⟩:=I1.tuple q1
      obtain ⟨jts,rw',p',_⟩:=I1.tuple q2
      have p1:s1.heap.IsTuple x its.toArray:=p
      have p2:s1.heap.IsTuple y jts.toArray:=p'
      obtain ⟨o1,f1,_⟩:=id p1
      obtain ⟨o2,f2,_⟩:=id p2
      refine Zhh p1 p2 fun g S kp=>wpAny_pyIter_zip S.zip ?_
      have I2:Inv X pins σ H1 { s1 with heap:=g }:=I1.kept (t':=s1.toks) kp
      refine ⟨_,[s1.heap.objs.size + 4,s1.heap.objs.size + 2,s1.heap.objs.size + 3,s1.heap.objs.size,s1.heap.objs.size + 1],_,_,H1,rfl,I2,Zjz (zipApart_new (Heap.lt_size f1) (Heap.lt_size f2)),S,fun b hb=>?_,q⟩
      have hb':s1.heap.objs.size≤b:=by
        simp only [List.mem_cons,List.not_mem_nil,or_false] at hb
        rcases hb with rfl | rfl | rfl | rfl | rfl <;> omega
      exact I1.fpOk hb' (I1.hok.fresh hb')
theorem Zkd {ts:List Expr} {kk} {tp:Pos} (hg:Gl X "zip") (hm:X.mg "zip" = none) (ha:PA X [a,b] (tA X.K call gv xr eas)) (hs:notStar a=true:=by rfl) (hs2:notStar b=true:=by rfl):PI X (.Tuple ts kk tp) (.Call (.Name "zip" p) [a,b] [] pos) (tI X.K call gv xr (.blt .zip2 eas)):=by
  refine PI.mono (Zmn hg hm ha (by rw [JM hs,JM hs2]; rfl) (JM hs2)) ?_
  rintro σ H R ⟨env,cm,m,hE,M,ho⟩
  rw [ev] at ho
  refine ⟨env,cm,m,hE,M,ho.bind.mono fun ws cm1 m1 H1 x1 M1 o1 vs rvs=>?_⟩
  obtain ⟨t,e,o2⟩:=JN o1
  cases q:views ws m1 with
  | none=>rw [q] at e; cases e
  | some us =>
    rw [q] at e
    have e:zipT us=some t:=e
    unfold zipT at e
    split at e
    · rename_i xs ys
      split at e
      · rename_i hl
        cases e
        obtain ⟨w1,w2,rfl,v1,v2⟩:=Zhs q
        cases rvs with
        | cons r1 rr =>
          cases rr with
          | cons r2 rr =>
            cases rr
            obtain ⟨c,cs,rfl,h1,h2⟩:=RT.itup (Zj r1 v1 fun _ z=>by cases z)
            obtain ⟨d,ds,rfl,h3,h4⟩:=RT.itup (Zj r2 v2 fun _ z=>by cases z)
            obtain ⟨ts,m2,q1,q2⟩:=OkR.now o2 M1
            cases q1
            exact ⟨_,_,_,_,rfl,h1,h3,q2 _ (.zip h1 h3 h2 h4 hl.1)⟩
      · cases e
    · cases e
theorem Zkf (i0:Nat) (i1:Nat) (i2:Nat) (i3:Nat) {x0 x1 x2 x3:Str} {p0 p1 p2 p3:Pos} {kk:Nat} (hc:X.calm=true) (hN:X.N.Nodup) (hi0:X.N[i0]? = some x0:=by rfl) (hi1:X.N[i1]? = some x1:=by rfl) (hi2:X.N[i2]? = some x2:=by rfl) (hi3:X.N[i3]? = some x3:=by rfl) (hx0:Loc X.env.scope x0:=by first | exact Or.inl rfl | exact Or.inr rfl) (hx1:Loc X.env.scope x1:=by first | exact Or.inl rfl | exact Or.inr rfl) (hx2:Loc X.env.scope x2:=by first | exact Or.inl rfl | exact Or.inr rfl) (hx3:Loc X.env.scope x3:=by first | exact Or.inl rfl | exact Or.inr rfl) (hf0:X.fn x0=true∨X.env.scope.names.lookup x0=some .local:=by first | exact .inl rfl | exact .inr rfl) (hf1:X.fn x1=true∨X.env.scope.names.lookup x1=some .local:=by first | exact .inl rfl | exact .inr rfl) (hf2:X.fn x2=true∨X.env.scope.names.lookup x2=some .local:=by first | exact .inl rfl | exact .inr rfl) (hf3:X.fn x3=true∨X.env.scope.names.lookup x3=some .local:=by first | exact .inl rfl | exact .inr rfl)
    (hs0:(assignEach [.Name x0 p0,.Name x1 p1,.Name x2 p2,.Name x3 p3] X.env).map (·.2)=assign (.Name x0 p0) X.env :: (assignEach [.Name x1 p1,.Name x2 p2,.Name x3 p3] X.env).map (·.2):=by rfl)
    (hs1:(assignEach [.Name x1 p1,.Name x2 p2,.Name x3 p3] X.env).map (·.2)=assign (.Name x1 p1) X.env :: (assignEach [.Name x2 p2,.Name x3 p3] X.env).map (·.2):=by rfl)
    (hs2:(assignEach [.Name x2 p2,.Name x3 p3] X.env).map (·.2)=assign (.Name x2 p2) X.env :: (assignEach [.Name x3 p3] X.env).map (·.2):=by rfl)
    (hs3:(assignEach [.Name x3 p3] X.env).map (·.2)=assign (.Name x3 p3) X.env :: (assignEach [] X.env).map (·.2):=by rfl)
    (hn:(assignEach [.Name x0 p0,.Name x1 p1,.Name x2 p2,.Name x3 p3] X.env).length=4:=by rfl) (hst:(assignEach [.Name x0 p0,.Name x1 p1,.Name x2 p2,.Name x3 p3] X.env).findIdx? (·.1)=none:=by rfl):PG X (.Tuple [.Name x0 p0,.Name x1 p1,.Name x2 p2,.Name x3 p3] kk pos) (gT X.K (.tp [i0,i1,i2,i3])):=by
  rintro pins s σ H v u Q I r ⟨a,xs,e1,h1,h2,h3⟩
  refine ZlB hc (X6 (Zam hN hi0 hx0 hf0) (X6 (Zam hN hi1 hx1 hf1) (X6 (Zam hN hi2 hx2 hf2) (X6 (Zam hN hi3 hx3 hf3) ZhU hs3) hs2) hs1) hs0) hn hst pins s σ H v u Q I r ⟨a,xs,e1,h1,h2,?_⟩
  match xs,h2 with
  | [v0,v1,v2,v3],_=>exact ⟨v0,[v1,v2,v3],rfl,v1,[v2,v3],rfl,v2,[v3],rfl,v3,[],rfl,rfl,h3⟩
end
end Mi
end
noncomputable section
namespace Mi
theorem JG {f:Env→Mem→Res (List T)} {tg:Tg} {env:Env} {m:Mem} {g:T→List T}:∀ (ts:List T),(∀ t∈ts,∃ env',Jr tg t env=some env'∧f env' m = .ok (g t) m)→JD f tg ts env m = .ok (ts.flatMap g) m
  | [],_=>rfl
  | t :: ts,h=>by
    obtain ⟨env',e1,e2⟩:=h t List.mem_cons_self
    rw [JD,e1]
    show (f env' m).bind _=_
    rw [e2]
    show (JD f tg ts env m).bind _=_
    rw [JG ts fun t ht=>h t (List.mem_cons_of_mem _ ht)]
    rfl
inductive Turns {α β:Type} (R:α→β→Prop):List α→List β→Prop where
  | nil:Turns R [] []
  | cons {a:α} {b:β} {as:List α} {bs:List β}:R a b→Turns R as bs→Turns R (a :: as) (b :: bs)
theorem Xr {f:Env→Mem→Res (List T)} {tg:Tg} {env:Env} {P:Mem→Prop} {R:T→List T→Prop}:∀ (ts:List T) (m:Mem),P m→(∀ t∈ts,∀ m,P m→∃ env' xs m',Jr tg t env=some env'∧f env' m = .ok xs m'∧P m'∧R t xs) →
    ∃ xss m',JD f tg ts env m = .ok xss.flatten m'∧P m'∧Turns R ts xss
  | [],m,hm,_=>⟨[],m,rfl,hm,.nil⟩
  | t :: ts,m,hm,h=>by
    obtain ⟨env',xs,m1,e1,e2,p1,r1⟩:=h t List.mem_cons_self m hm
    obtain ⟨xss,m2,e3,p2,r2⟩:=Xr ts m1 p1 fun t ht=>h t (List.mem_cons_of_mem _ ht)
    refine ⟨xs :: xss,m2,?_,p2,.cons r1 r2⟩
    rw [JD,e1]
    show (f env' m).bind _=_
    rw [e2]
    show (JD f tg ts env m1).bind _=_
    rw [e3]
    rfl
theorem JF {f:Env→Mem→Res Flow} {tg:Tg} {P:Env→Mem→Prop}:∀ (ts:List T) (env:Env) (m:Mem),P env m→(∀ t∈ts,∀ env m,P env m→∃ env1 env2 m2,Jr tg t env=some env1∧f env1 m = .ok (.next env2) m2∧P env2 m2) →
    ∃ env' m',Qz f tg ts env m = .ok (.next env') m'∧P env' m'
  | [],env,m,hm,_=>⟨env,m,rfl,hm⟩
  | t :: ts,env,m,hm,h=>by
    obtain ⟨env1,env2,m2,e1,e2,p2⟩:=h t List.mem_cons_self env m hm
    obtain ⟨env3,m3,e3,p3⟩:=JF ts env2 m2 p2 fun t ht=>h t (List.mem_cons_of_mem _ ht)
    refine ⟨env3,m3,?_,p3⟩
    rw [Qz,e1]
    show (f env1 m).bind _=_
    rw [e2]
    exact e3
theorem Jy {α:Type} {xs:List α} {i:Int} (h0:0≤i) (h1:i < xs.length):∃ x,atT xs i=some x∧x∈xs:=by
  have hi:i.toNat < xs.length:=by omega
  refine ⟨xs[i.toNat],?_,List.getElem_mem hi⟩
  unfold atT ixOf
  rw [if_pos h0,if_pos h1]
  exact List.getElem?_eq_getElem hi
theorem strs_map {α:Type} (f:α→List Nat):∀ xs:List α,strs? (xs.map fun x=>.str (f x))=some (xs.map f)
  | []=>rfl
  | x :: xs=>by
    rw [List.map_cons,strs?,strs_map f xs]
    rfl
section
variable {call:Nat→List W→Mem→Res W} {gv:List T}
def Jh (call:Nat→List W→Mem→Res W) (gv:List T) (cs:Es) (inner:E) (env:Env) (m:Mem):Res (List T):=(tests call gv cs env m).bind fun k m=>if k then (ev call gv inner env m).bind ZeO else .ok [] m
theorem Qj {own:Nat} {keep:List Nat} {it:E} {tg:Tg} {cs:Es} {inner:E} {env:Env} {m m0 m1 m2:Mem} {x:W} {ts out:List T} (h1:ev call gv it env m = .ok x m0) (h2:QL x m0 = .ok ts m1)
    (h3:JD (Jh call gv cs inner) tg ts (List.replicate own none++keep.map fun i=>(env[i]?).join) m1 = .ok out m2) (hz:out.length≤lim):ev call gv (.comp own keep it tg cs inner) env m = .ok (.t (.lst out)) (giveBack x m0 m2):=by
  have e:ev call gv (.comp own keep it tg cs inner) env m=(ev call gv it env m).only.bind fun x m0=>(QL x m0).bind fun ts m =>
      (JD (Jh call gv cs inner) tg ts (List.replicate own none++keep.map fun i=>(env[i]?).join) m).only.bind fun out m =>
        if out.length≤lim then .ok (.t (.lst out)) (giveBack x m0 m) else .stuck:=by rw [ev]; rfl
  rw [e,h1]
  show (QL x m0).bind _=_
  rw [h2]
  show (JD (Jh call gv cs inner) tg ts (List.replicate own none++keep.map fun i=>(env[i]?).join) m1).only.bind _=_
  rw [h3]
  exact if_pos hz
theorem Jg {tg:Tg} {it:E} {body k:S} {env env':Env} {m m0 m1 m2:Mem} {x:W} {ts:List T} (h1:ev call gv it env m = .ok x m0) (h2:QL x m0 = .ok ts m1) (h3:Qz (ex call gv body) tg ts env m1 = .ok (.next env') m2) :
    ex call gv (.forr tg it body k) env m=ex call gv k env' (giveBack x m0 m2):=by
  rw [ex,h1]
  show (QL x m0).bind _=_
  rw [h2]
  show (Qz (ex call gv body) tg ts env m1).bind _=_
  rw [h3]
  rfl
end
section
variable {call:Nat→List W→Mem→Res W} {gv:List T} {env:Env} {m m1 m2:Mem} {k a b:S} {e:E} {w:W}
theorem Zw {α β:Type} (x:α) (m:Mem) (f:α→Mem→Res β):(Res.ok x m).bind f=f x m:=rfl
theorem only_k {α:Type} (x:α) (m:Mem):(Res.ok x m).only = .ok x m:=rfl
theorem view_k (x:T) (m:Mem):view (.t x) m=some x:=rfl
theorem pur_k (x:T) (m:Mem):pur (some x) m = .ok (.t x) m:=rfl
theorem Znt (x:Bool) (m:Mem):ZeJ (.t (.bl x)) m = .ok x m:=rfl
theorem Zc3 (x:Bool) (m:Mem):JW (.t (.bl x)) m = .ok x m:=rfl
theorem frz_k (x:T) (m:Mem):frz (.t x) m = .ok x m:=rfl
theorem Zny (x:List T) (m:Mem):ZeO (.t (.lst x)) m = .ok x m:=rfl
theorem intP_k (x:Int) (m:Mem):intP (.t (.int x)) m = .ok (some x) m:=rfl
theorem c_lt (i j:Int):cmpT .Lt (.int i) (.int j)=some (decide (i < j)):=rfl
theorem c_le (i j:Int):cmpT .LtE (.int i) (.int j)=some (decide (i≤j)):=rfl
theorem c_gt (i j:Int):cmpT .Gt (.int i) (.int j)=some (decide (j < i)):=rfl
theorem c_ge (i j:Int):cmpT .GtE (.int i) (.int j)=some (decide (j≤i)):=rfl
theorem Zlj (i j:Int):cmpT .Eq (.int i) (.int j)=some (i == j):=rfl
theorem ZeF (i j:Int):cmpT .NotEq (.int i) (.int j)=some (!(i == j)):=rfl
theorem Zjf (i j:Bool):cmpT .Eq (.bl i) (.bl j)=some (i == j):=rfl
theorem Zli (i j:Bool):cmpT .NotEq (.bl i) (.bl j)=some (!(i == j)):=rfl
theorem Zcm (i j:List Nat):cmpT .Eq (.str i) (.str j)=some (i == j):=rfl
theorem c_neS (i j:List Nat):cmpT .NotEq (.str i) (.str j)=some (!(i == j)):=rfl
theorem c_in1 (i:Nat) (j:List Nat):cmpT .In (.str [i]) (.str j)=some (decide (i∈j)):=rfl
theorem c_isT (b x:Bool):cmpT .Is (.bl x) (.bl b)=some (x == b):=rfl
theorem ZfB (i j:Int):binT .Add (.int i) (.int j)=some (.int (i + j)):=rfl
theorem b_sub (i j:Int):binT .Sub (.int i) (.int j)=some (.int (i - j)):=rfl
theorem ZlS {a b:List T} (h:a.length + b.length≤lim):binT .Add (.lst a) (.lst b)=some (.lst (a++b)):=if_pos h
theorem Zhk {i j:Int} (h:Zbd i j=true):binT .Mult (.int i) (.int j)=some (.int (i * j)):=if_pos h
theorem Zlq {i j:Int} (h:0 < j∧j < 1073741824):binT .FloorDiv (.int i) (.int j)=some (.int (i / j)):=if_pos h
theorem Zfz {i j:Int} (h:0 < j):binT .Mod (.int i) (.int j)=some (.int (i % j)):=if_pos h
theorem Znw {i j:Int} (h:0≤j∧j≤1000∧i.natAbs < 2 ^ 64):binT .Pow (.int i) (.int j)=some (.int (i ^ j.toNat)):=if_pos h
theorem x_tup (ts:List T) (i:Int):ixT (.tup ts) (.int i)=atT ts i:=rfl
theorem x_lst (ts:List T) (i:Int):ixT (.lst ts) (.int i)=atT ts i:=rfl
theorem x_scr (ts:List Int) (i:Int):ixT (.scr ts) (.int i)=(atT ts i).map .int:=rfl
theorem s_lst (ts:List T) (lo hi:Option Int):slT (.lst ts) lo hi=some (.lst (cut ts lo hi)):=rfl
theorem s_scr (ts:List Int) (lo hi:Option Int):slT (.scr ts) lo hi=some (.lst ((cut ts lo hi).map .int)):=rfl
theorem l_lst (ts:List T):bltT .len [.lst ts]=some (.int ts.length):=rfl
theorem Xv (ts:List T):bltT .len [.tup ts]=some (.int ts.length):=rfl
theorem l_scr (ts:List Int):bltT .len [.scr ts]=some (.int ts.length):=rfl
theorem l_int (b:Bool):bltT .int [.bl b]=some (.int (b2i b)):=rfl
theorem l_str1 {i:Int} (h:i.natAbs < 2 ^ 250):bltT .str [.int i]=some (.str (decI i)):=if_pos h
theorem Zf2 (ts:List T):bltT .tuple [.lst ts]=some (.tup ts):=rfl
theorem l_all {ts:List T} {bs:List Bool} (h:bools? ts=some bs):bltT .all [.lst ts]=some (.bl (bs.all id)):=by
  show (bools? ts).map _=_
  rw [h]; rfl
theorem ZkL {i:Int} (h:i < 2 ^ 62∧-(2 ^ 62)≤i):bltT .range1 [.int i]=some (.lst (rangeT 0 i.toNat)):=if_pos h
theorem ZlW:views [] m=some []:=rfl
theorem ZlX (x:T) (ws:List W):views (.t x :: ws) m=(views ws m).map (x :: ·):=rfl
theorem Zen:frzs [] m = .ok [] m:=rfl
theorem Zeo (x:T) (ws:List W):frzs (.t x :: ws) m=(frzs ws m).bind fun ts m=>.ok (x :: ts) m:=rfl
theorem Zn {i:Nat} (h:ev call gv e env m = .ok w m1):ex call gv (.asg i e k) env m=ex call gv k (env.set i (some w)) m1:=by rw [ex,h]; rfl
theorem Zf (h:ev call gv e env m = .ok w m1):ex call gv (.ret e k) env m = .ok (.ret w) m1:=by rw [ex,h]; rfl
theorem ZP (h:ev call gv e env m = .ok (.t (.bl true)) m1) (h2:ex call gv a env m1 = .ok (.ret w) m2):ex call gv (.ife e a b k) env m = .ok (.ret w) m2:=by
  rw [ex,h]
  show (ex call gv a env m1).bind _=_
  rw [h2]; rfl
theorem Zq (h:ev call gv e env m = .ok (.t (.bl false)) m1):ex call gv (.ife e a .done k) env m=ex call gv k env m1:=by rw [ex,h]; rfl
theorem ZiN {c:Nat} {o i v:E} {x:T} {j:Int} {xs:List T} {q:Nat} (h1:ev call gv v env m = .ok (.t x) m1) (h2:ev call gv o env m1 = .ok (.c c) m1) (h3:ev call gv i env m1 = .ok (.t (.int j)) m1) (h4:m1[c]? = some (some (false,xs))) (h5:ixOf xs.length j=some q) :
    ex call gv (.set o i v k) env m=ex call gv k env (m1.set c (some (false,xs.set q x))):=by
  rw [ex,h1]
  show ((ev call gv o env m1).bind _)=_
  rw [h2]
  show ((ev call gv i env m1).bind _)=_
  rw [h3]
  show (setM (.c c) (.t (.int j)) (.t x) m1).bind _=_
  have:setM (.c c) (.t (.int j)) (.t x) m1 = .ok () (m1.set c (some (false,xs.set q x))):=by
    unfold setM
    dsimp only [frz,Res.bind]
    rw [h4]
    dsimp only
    rw [h5]
  rw [this]; rfl
theorem Zu {n:Nat} {cell:Bool} {t:T} (h:m1.length=n):fin n cell (.ret (.t t)) m1 = .ok (.t t) m1:=by
  show Res.ok (W.t t) (m1.take n)=_
  rw [← h,List.take_length]
theorem ZK {c:Prop} [Decidable c] {b:S} {env:Env} {m m1 m2:Mem} {k:Nat} {cell:Bool} {X:Res W} {w w':W} (hX:X=if c then (ex call gv b env m).bind fun fl m'=>fin k cell fl m' else .stuck) (hc:c) (key:ex call gv b env m = .ok (.ret w) m1) (hf:fin k cell (.ret w) m1 = .ok w' m2):X = .ok w' m2:=by
  rw [hX,if_pos hc,key]
  exact hf
end
def EVs:=And.intro @Zw (And.intro @only_k (And.intro @view_k (And.intro @pur_k (And.intro @Znt (And.intro @Zc3 (And.intro @frz_k (And.intro @Zny (And.intro @intP_k (And.intro @c_lt (And.intro @c_le (And.intro @c_gt (And.intro @c_ge (And.intro @Zlj (And.intro @ZeF (And.intro @Zjf (And.intro @Zli (And.intro @Zcm (And.intro @c_neS (And.intro @c_in1 (And.intro @c_isT (And.intro @ZfB (And.intro @b_sub (And.intro @x_tup (And.intro @x_lst (And.intro @x_scr (And.intro @s_lst (And.intro @s_scr (And.intro @l_lst (And.intro @Xv (And.intro @l_scr (And.intro @l_int (And.intro @Zf2 (And.intro @ZlW (And.intro @ZlX (And.intro @Zen (@Zeo))))))))))))))))))))))))))))))))))))
end Mi
end
noncomputable section
namespace Mi
open PySem PySem.Spec PyProof.Rows L2
theorem ZfY:∀ {a b:List Nat},nlt a b=false→nlt b a=false→a=b
  | [],[],_,_=>rfl
  | [],_ :: _,h,_=>by simp [nlt] at h
  | _ :: _,[],_,h=>by simp [nlt] at h
  | a :: x,b :: y,h1,h2=>by
    unfold nlt at h1 h2
    by_cases h:a < b
    · simp [h] at h1
    · by_cases h':b < a
      · simp [h'] at h2
      · have e:a=b:=by omega
        subst e
        simp at h1 h2
        rw [ZfY h1 h2]
section
variable {K:PySem.W.Frag} {cm:List Addr} {m:Mem} {H:Hp} {xr:XR} {X:Cx} {call:Nat→List W→Mem→Res W} {gv:List T}
variable {a b c e:Expr} {es:List Expr} {ea eb ec:E} {eas:Es} {pos p p2:Pos} {rest:List Stmt} {k:S} {n:Nat}
end
end Mi
end
noncomputable section
namespace Mi
open PySem PySem.Spec PyProof.Rows L2
theorem ZmZ (a:List Nat):nlt a a=false:=by rw [ZfX]; simp
theorem nlt_tr {a b c:List Nat} (h1:nlt a b=true) (h2:nlt b c=true):nlt a c=true:=by
  rw [ZfX] at *
  have h1:a < b:=of_decide_eq_true h1
  have h2:b < c:=of_decide_eq_true h2
  exact decide_eq_true (List.lt_trans h1 h2)
theorem Zds (x y:List Nat):∀ l,y∈insT x l↔y=x∨y∈l
  | []=>by simp [insT]
  | z :: l=>by
    unfold insT
    split
    · simp
    · split
      · rw [List.mem_cons,Zds x y l,List.mem_cons]
        constructor
        · rintro (h | h | h)
          · exact .inr (.inl h)
          · exact .inl h
          · exact .inr (.inr h)
        · rintro (h | h | h)
          · exact .inr (.inl h)
          · exact .inl h
          · exact .inr (.inr h)
      · rename_i h1 h2
        have e:x=z:=ZfY (by simpa using h1) (by simpa using h2)
        subst e
        simp
theorem ZiB (x:List Nat):∀ l,l.Pairwise (fun a b=>nlt a b=true)→(insT x l).Pairwise (fun a b=>nlt a b=true)
  | [],_=>List.pairwise_singleton _ _
  | z :: l,h=>by
    unfold insT
    obtain ⟨h1,h2⟩:=List.pairwise_cons.mp h
    split
    · rename_i hx
      refine List.pairwise_cons.mpr ⟨fun y hy=>?_,h⟩
      rcases List.mem_cons.mp hy with rfl | hy
      · exact hx
      · exact nlt_tr hx (h1 y hy)
    · split
      · rename_i hz
        refine List.pairwise_cons.mpr ⟨fun y hy=>?_,ZiB x l h2⟩
        rcases (Zds x y l).mp hy with rfl | hy
        · exact hz
        · exact h1 y hy
      · exact h
theorem ZbT (y:List Nat):∀ xs,y∈Qs xs↔y∈xs
  | []=>by simp [Qs]
  | x :: xs=>by
    show y∈insT x (Qs xs)↔_
    rw [Zds,ZbT y xs,List.mem_cons]
theorem ZcE:∀ xs,(Qs xs).Pairwise (fun a b=>nlt a b=true)
  | []=>.nil
  | x :: xs=>ZiB x _ (ZcE xs)
theorem Zgk (xs:List (List Nat)):(Qs xs).Nodup:=(ZcE xs).imp fun {a b} h e=>by
  subst e
  rw [ZmZ] at h
  cases h
theorem ZiZ (val:Nat→Str) (x:Str):∀ n,x∈dd val n↔∃ i,i < n∧val i=x
  | 0=>by simp [dd]
  | n + 1=>by
    have ih:=ZiZ val x n
    unfold dd
    split
    · rename_i h
      rw [ih]
      constructor
      · rintro ⟨i,hi,e⟩
        exact ⟨i,by omega,e⟩
      · rintro ⟨i,hi,e⟩
        by_cases hn:i=n
        · subst hn
          rw [e] at h
          exact ih.mp h
        · exact ⟨i,by omega,e⟩
    · rw [List.mem_append,ih,List.mem_singleton]
      constructor
      · rintro (⟨i,hi,e⟩ | e)
        · exact ⟨i,by omega,e⟩
        · exact ⟨n,by omega,e.symm⟩
      · rintro ⟨i,hi,e⟩
        by_cases hn:i=n
        · subst hn; exact .inr e.symm
        · exact .inl ⟨i,by omega,e⟩
theorem Zm3 {a b:List Nat} (h:(⟨a.toArray⟩:Str)=⟨b.toArray⟩):a=b:=by
  injection h with h
  simpa using h
section
variable {K:PySem.W.Frag} {cm:List Addr} {m:Mem} {H:Hp} {xr:XR} {X:Cx} {call:Nat→List W→Mem→Res W} {gv:List T}
variable {a b c e:Expr} {es:List Expr} {ea eb ec:E} {eas:Es} {pos p p2 pos2:Pos} {rest:List Stmt} {k:S} {n:Nat}
theorem Zlx {its:List Value} {xs:List (List Nat)} (h:StrsAre its (xs.map fun c=>(⟨c.toArray⟩:Str))):∀ (i:Nat) v,its[i]? = some v→∃ t,v = .str ((xs.map fun c=>(⟨c.toArray⟩:Str)).getD i ⟨#[]⟩) t:=by
  generalize xs.map (fun c=>(⟨c.toArray⟩:Str))=ss at h
  induction h with
  | nil=>intro i v e; simp at e
  | cons y t _ ih =>
    intro i v e
    cases i with
    | zero=>simp at e; exact ⟨t,by rw [← e]; rfl⟩
    | succ i =>
      obtain ⟨t',h'⟩:=ih i v (by simpa using e)
      exact ⟨t',by rw [h']; rfl⟩
end
end Mi
end
noncomputable section
namespace Mi
open PySem PySem.Spec PyProof.Rows L2
section
variable {prog:Program} {w:World} {A:Around} {E:Value→Shared→Prop} {s:Shared} {led:Bool}
set_option maxHeartbeats 3200000 in
theorem ZcA {l:Addr} {items:Array Value} {val:Nat→Str} {Q:Value→Shared→Prop} (hh:A.handled=none) (hl:s.heap.IsTuple l items) (hv:∀ (i:Nat) v,items[i]? = some v→∃ t,v = .str (val i) t) (hb:items.size + 1 < scanBound)
    (h:∀ (h':Heap) (tk:Nat),SetS prog w (Jj w) h' s.heap.objs.size (dd val items.size)→(∀ b o,s.heap.get? b=some o→h'.get? b=some o)→Q (.ref s.heap.objs.size) { s with heap:=h',toks:=tk }) :
    wpAny (model prog w) A (PySem.call (.type "set") [.ref l]) Q E s:=by
  obtain ⟨c,tl,hmro⟩:=PySem.F.called_set.mro
  have hmade:=PySem.F.called_set.made
  have hsub:=PySem.F.called_set.sub
  refine wpAny_call (codeAny_of_tree ?_)
  show wpAny _ _ (callAny (.type "set") _) _ _ _
  refine wpAny_pure ⟨Code.quiet_builtin _ (by decide +kernel),codeAny_builtin PySem.F.entry_type_call ?_⟩
  rw [Around.under_plain (weight_type_call_type "set" [.ref l] []) rfl]
  have h1:=PySem.F.called_set.notType
  have h2:=PySem.F.called_set.canCreate
  have hct:=PySem.F.typeCall_set_1 (.ref l)
  repeat (any_goals (first | assumption | wp_step))
  refine codeAny_mono (ZfM (.ref l) (E:=E) (Q₁:=fun obj s₁=>obj = .ref s.heap.objs.size∧s₁ = { s with heap:=s.heap.push { cls:=.type "set",dict:=none,data:=.set #[] 0 (.fresh 0 0 (Jj w)) } }) ⟨rfl,rfl⟩) fun r s₁ hr=>?_
  cases r with
  | error e=>exact hr
  | ok fl =>
    cases fl with
    | ret obj =>
      obtain ⟨rfl,rfl⟩:=hr
      have hS:(s.heap.push { cls:=.type "set",dict:=none,data:=.set #[] 0 (.fresh 0 0 (Jj w)) }).get? s.heap.objs.size=some { cls:=.type "set",dict:=none,data:=.set #[] 0 (.fresh 0 0 (Jj w)) }:=Heap.get?_push_size _ rfl
      have hT:Shared.TypeIs { s with heap:=s.heap.push { cls:=.type "set",dict:=none,data:=.set #[] 0 (.fresh 0 0 (Jj w)) } } (.ref s.heap.objs.size) "set":=⟨_,hS,rfl⟩
      have hli:=PySem.F.called_set.init.lookup
      have hbi:=PySem.F.called_set.init.bind (.ref s.heap.objs.size)
      repeat (any_goals (first | assumption | wp_step))
      refine codeAny_mono (codeAny_call_builtin (R:=wants (fun r s₂=>r = .none∧∃ h' tk,s₂ = { s with heap:=h',toks:=tk }∧SetS prog w (Jj w) h' s.heap.objs.size (dd val items.size)∧(∀ b o,s.heap.get? b=some o→h'.get? b=some o)) E) PySem.F.called_set.init.plain PySem.F.entry_set_init (check_set_init_1 hT ?_)) fun r₂ s₂ hr₂=>?_
      · obtain ⟨ol,hol,hcl,nl,hdl⟩:=hl
        obtain ⟨ocls,odict,odata,oslots⟩:=ol
        simp only at hcl hdl
        subst hcl; subst hdl
        have hol':(s.heap.push { cls:=.type "set",dict:=none,data:=.set #[] 0 (.fresh 0 0 (Jj w)) }).get? l=some { cls:=.type "tuple",dict:=odict,data:=.seq items nl,slots:=oslots }:=Heap.get?_push_of_some _ hol
        have hsls:=PySem.F.sub_tuple_set
        have hslf:=PySem.F.sub_tuple_frozenset
        have hne:(Value.type "tuple" == Value.type "dict")=false:=by decide
        have hl1:(s.heap.push { cls:=.type "set",dict:=none,data:=.set #[] 0 (.fresh 0 0 (Jj w)) }).IsTuple l items:=⟨_,hol',rfl,nl,rfl⟩
        unfold Builtin.«set.__init__» noKeywords Builtin.Frozenset.updateFrom
        generalize hPI:pyIter=PI
        wp_walk
        subst hPI
        refine wpAny_pyIter_tuple hl1 ?_
        refine wpAny_bind (wpAny_runValue ?_)
        have hlS:l < s.heap.objs.size:=Heap.lt_size hol
        have hh3:A.in1.in1.in1.handled=none:=by simp [hh]
        have hneI:l≠(s.heap.push { cls:=.type "set",dict:=none,data:=.set #[] 0 (.fresh 0 0 (Jj w)) }).objs.size:=by
          rw [Heap.size_push]; exact Nat.ne_of_lt (Nat.lt_succ_of_lt hlS)
        have hSf:s.heap.objs.size ∉ [(s.heap.push { cls:=.type "set",dict:=none,data:=.set #[] 0 (.fresh 0 0 (Jj w)) }).objs.size,l]:=by
          rw [Heap.size_push]; simp only [List.mem_cons,List.mem_singleton,List.not_mem_nil,or_false,not_or]
          exact ⟨Nat.ne_of_lt (Nat.lt_succ_self _),Nat.ne_of_gt hlS⟩
        refine Zaw (led:=Jj w) ((Walks.tuple hh3 _ l hneI items).toS) s.heap.objs.size hSf val hv hb (items.size - 0) 0 _ (by omega) (Nat.zero_le _)
          ⟨⟨_,Heap.get?_push_size _ rfl,rfl,rfl⟩,(hl1.push _)⟩ ?hS0 ?hR
        case hS0 =>
          exact Zeq (led:=Jj w) (Heap.get?_push_of_some _ hS)
        case hR =>
          intro s' hm hS'
          obtain ⟨h',g',d',tk',os'⟩:=s'
          have eg:g' = s.gens:=hm.gens
          have ed:d' = s.drawn:=hm.drawn
          have eo:os' = s.os:=hm.os
          subst eg; subst ed; subst eo
          show wpAny _ _ _ _ _ _
          refine wpAny_pure ?_
          show wpAny _ _ (ret Value.none) _ _ _
          refine wpAny_pure ⟨rfl,h',tk',rfl,hS',fun b o e=>?_⟩
          have hb:=Heap.lt_size e
          have hb1:b≠s.heap.objs.size:=Nat.ne_of_lt hb
          have hb2:b≠(s.heap.push { cls:=.type "set",dict:=none,data:=.set #[] 0 (.fresh 0 0 (Jj w)) }).objs.size:=by
            rw [Heap.size_push]; exact Nat.ne_of_lt (Nat.lt_succ_of_lt hb)
          exact hm.heap b o (by simp only [List.mem_cons,List.mem_singleton,List.not_mem_nil,or_false,not_or]; exact ⟨hb1,hb2⟩) (Heap.get?_push_of_some _ (Heap.get?_push_of_some _ e))
      · cases r₂ with
        | error e=>exact hr₂
        | ok fl₂ =>
          cases fl₂ with
          | ret r =>
            obtain ⟨rfl,h',tk,rfl,hS',hk'⟩:=hr₂
            repeat (any_goals (first | assumption | wp_step))
            exact h _ _ hS' hk'
          | _=>exact hr₂.elim
    | _=>exact hr.elim
end
theorem Zir:∀ (ns:List Int) (n:Int),minI n ns≤n∧(∀ x∈ns,minI n ns≤x)∧minI n ns∈n :: ns
  | [],n=>⟨Int.le_refl _,fun x hx=>by simp at hx,by simp [minI]⟩
  | a :: r,n=>by
    obtain ⟨h1,h2,h3⟩:=Zir r (if a < n then a else n)
    have e:minI n (a :: r)=minI (if a < n then a else n) r:=rfl
    rw [e]
    by_cases h:a < n
    · rw [if_pos h] at h1 h2 h3 ⊢
      refine ⟨by omega,fun x hx=>?_,List.mem_cons_of_mem _ h3⟩
      rcases List.mem_cons.mp hx with rfl | hx
      · exact h1
      · exact h2 x hx
    · rw [if_neg h] at h1 h2 h3 ⊢
      refine ⟨h1,fun x hx=>?_,?_⟩
      · rcases List.mem_cons.mp hx with rfl | hx
        · omega
        · exact h2 x hx
      · rcases List.mem_cons.mp h3 with h3 | h3
        · rw [h3]; exact List.mem_cons_self
        · exact List.mem_cons_of_mem _ (List.mem_cons_of_mem _ h3)
theorem Zm4 {prog:Program} {w:World} {A:Around} {E:Value→Shared→Prop} {s:Shared} {l:Addr} {vs:List Value} {n:Int} {ns:List Int} {Q:Value→Shared→Prop} (hh:A.handled=none) (hl:s.heap.IsList l vs.toArray) (hi:IntsAre vs (n :: ns))
    (h:∀ h' tk t',(∀ b o,s.heap.get? b=some o→h'.get? b=some o)→Q (.int (minI n ns) t') { s with heap:=h',toks:=tk }):wpAny (model prog w) A (PySem.call (.builtin "min") [.ref l]) Q E s:=by
  obtain ⟨xs,hx⟩:=hi.allInts.items
  have hl':s.heap.IsList l (intItems xs):=hx ▸ hl
  have e1:n :: ns=xs.toList.map (·.1):=by
    rw [← nums_intItems,← hx]
    exact (show numsOf vs.toArray.toList=n :: ns from hi.numsOf).symm
  have hsz:xs.size=ns.length + 1:=by
    have:=congrArg List.length e1
    simpa using this.symm
  have num:∀ j,j < xs.size→numAt xs j=(n :: ns).getD j 0:=fun j hj=>by
    rw [e1]
    simp [numAt,List.getD]
  refine min_intList hh hl' (by omega) fun v h' tk hv hk=>?_
  obtain ⟨t,rfl⟩:=intItems_at hv
  obtain ⟨b1,b2⟩:=argBest_lt (numAt xs) (xs.size - 1)
  obtain ⟨m1,m2,m3⟩:=Zir ns n
  have key:numAt xs (argBest (fun i j=>decide (numAt xs i < numAt xs j)) (xs.size - 1))=minI n ns:=by
    refine Int.le_antisymm ?_ ?_
    · obtain ⟨j,hj,ej⟩:=List.getElem_of_mem m3
      have hj':j < xs.size:=by rw [hsz]; exact hj
      have:=b2 j (by omega)
      rw [num j hj'] at this
      rw [← ej]
      rw [List.getD_eq_getElem?_getD,List.getElem?_eq_getElem hj] at this
      exact this
    · have hb:argBest (fun i j=>decide (numAt xs i < numAt xs j)) (xs.size - 1) < xs.size:=by omega
      rw [num _ hb]
      generalize argBest (fun i j=>decide (numAt xs i < numAt xs j)) (xs.size - 1)=b at hb
      have hb':b < (n :: ns).length:=by rw [List.length_cons]; omega
      have:(n :: ns).getD b 0∈n :: ns:=by
        rw [List.getD_eq_getElem?_getD,List.getElem?_eq_getElem hb']
        exact List.getElem_mem hb'
      rcases List.mem_cons.mp this with e | e
      · rw [e]; exact m1
      · exact m2 _ e
  rw [key]
  exact h h' tk t hk
section
variable {K:PySem.W.Frag} {cm:List Addr} {m:Mem} {H:Hp} {xr:XR} {X:Cx} {call:Nat→List W→Mem→Res W} {gv:List T}
variable {a b c e:Expr} {es:List Expr} {ea eb ec:E} {eas:Es} {pos p p2 pos2:Pos}
theorem Zhi (hc:X.calm=true):Xg X (.builtin "min") (rN X.K xr (fBlt .minl)):=by
  rintro pins s σ H xs us Q I r ⟨cm,m,ws,M,rws,ho⟩
  obtain ⟨w,v,t,rr,rfl,rfl,rv,e,eb,ho⟩:=blt1 rws (JT (by decide)) ho
  cases t with
  | lst ts =>
    have eb:Zip ts=some rr:=eb
    unfold Zip at eb
    cases q:ints? ts with
    | none=>rw [q] at eb; cases eb
    | some bs =>
      rw [q] at eb
      cases bs with
      | nil=>cases eb
      | cons b bs =>
        have eb:(if bs.length < 64 then some (T.int (minI b bs)) else none)=some rr:=eb
        split at eb <;> cases eb
        obtain ⟨a,vs,rfl,h1,r1⟩:=Z7 M rv e
        obtain ⟨u,rfl,ru⟩:=vals1 r
        cases ru
        obtain ⟨its,rv',pl,hz⟩:=I.list (.of h1)
        cases RTs.ints r1 q
        exact Zm4 (I.ok.hd hc) pl.isList (intsAre_of rv') fun h' tk t' hk=>⟨.int _,H,I.kept hk,⟨_,rfl⟩,ans ho M (.int _)⟩
  | _=>cases eb
theorem ZhV (hg:Gl X "min") (hm:X.mg "min" = none) (ha:PA X (e :: es) (tA X.K call gv xr eas)) (he:notStar e=true) (hpl:es.all notStar=true) (hc:X.calm=true:=by rfl):PE X (.Call (.Name "min" p) (e :: es) [] pos) (tE X.K call gv xr (.blt .minl eas)):=ZbZ (Zhi hc) (by decide +kernel) hg hm ha (by decide) (by decide) he hpl
def iEnum (K:PySem.W.Frag) (ta:TA):TI:=fun σ H R=>ta σ H fun vs H1=>∃ a xs,vs=[.ref a]∧SqL K H1 a xs∧R (Ite K a) H1
theorem Zmo {ts:List Expr} {kk} {tp:Pos} {ta:TA} (hg:Gl X "enumerate") (hm:X.mg "enumerate" = none) (ha:PA X [a] ta) (h1:notStar a=true) :
    PI X (.Tuple ts kk tp) (.Call (.Name "enumerate" p) [a] [] pos) (iEnum X.K ta):=by
  intro pins s σ H R I h
  refine Call_ (ZaL I hg hm (show bootBuiltins "enumerate" = some (.type "enumerate") from by decide +kernel) (PyProof.Rows.callWith_type1 (thn (ha pos pins s σ H _ I h) fun us s1 ⟨vs,H1,I1,r1,q1⟩=>?_) (JM h1) rfl))
  obtain ⟨x,xs,e,q1,q⟩:=q1
  subst e
  cases r1 with
  | cons r rr =>
    cases rr
    cases r
    obtain ⟨its,rv,p,_⟩:=I1.list q1
    refine call_enumerate_list p.isList fun g hE hI hsz hk=>wpAny_pyIter_enum hE ?_
    refine ⟨_,[s1.heap.objs.size + 1,s1.heap.objs.size],_,_,H1,rfl,I1.kept (t':=s1.toks) hk,Zhy (Nat.succ_ne_self _),⟨⟨_,hE⟩,hI⟩,fun b hb=>?_,q⟩
    have hb':s1.heap.objs.size≤b:=by
      simp only [List.mem_cons,List.not_mem_nil,or_false] at hb
      rcases hb with rfl | rfl <;> omega
    exact I1.fpOk hb' (I1.hok.fresh hb')
theorem PE.tree (h:PE X e (tE X.K call gv xr ea)):PE X e (tE X.K call gv xr (.tr ea)):=by
  refine PE.mono h ?_
  rintro σ H Q ⟨env,cm,m,hE,M,ho⟩
  refine ⟨env,cm,m,hE,M,?_⟩
  rw [ev] at ho
  exact ho.bind.mono fun w cm1 m1 H1 x1 M1 o1=>by
    cases w with
    | t x=>exact OkR.now o1 M1
    | f a=>exact o1.elim
    | c i=>exact o1.elim
theorem Zke {ts:List Expr} {kk} {tp:Pos} (hg:Gl X "enumerate") (hm:X.mg "enumerate" = none) (ha:PA X [a] (tA X.K call gv xr (.cons (.tr ea) .nil))) (hs:notStar a=true:=by rfl):PI X (.Tuple ts kk tp) (.Call (.Name "enumerate" p) [a] [] pos) (tI X.K call gv xr (.blt .enum (.cons (.tr ea) .nil))):=by
  refine PI.mono (Zmo hg hm ha hs) ?_
  rintro σ H R ⟨env,cm,m,hE,M,ho⟩
  rw [ev] at ho
  cases h:evs call gv (.cons (.tr ea) .nil) env m with
  | stuck=>rw [h] at ho; exact ho.elim
  | exc x m' =>
    refine ⟨env,cm,m,hE,M,?_⟩
    rw [h] at ho ⊢
    exact ho
  | ok ws m' =>
    refine ⟨env,cm,m,hE,M,?_⟩
    rw [h] at ho ⊢
    have hT:∃ t,ws=[.t t]:=by
      rw [evs] at h
      obtain ⟨w,m1,h1,h2⟩:=Zz h
      obtain ⟨ws',m2,h3,h4⟩:=Zz h2
      rw [evs] at h3
      cases h3
      cases h4
      rw [ev] at h1
      obtain ⟨w0,m0,h5,h6⟩:=Zz h1
      cases w0 with
      | t x=>cases h6; exact ⟨x,rfl⟩
      | f a=>cases h6
      | c i=>cases h6
    obtain ⟨t,rfl⟩:=hT
    have ho1:=OkR.bind ho
    intro cm1 H1 x1 M1 vs rvs
    have o1:OkR X.K (fBlt .enum [W.t t] m') xr cm1 m' H1 _:=ho1 cm1 H1 x1 M1
    obtain ⟨w,v,t',rr,e1,rfl,rv,e,eb,ho⟩:=blt1 rvs (JT (by decide)) o1
    cases e1
    cases e
    cases t with
    | lst ts =>
      have eb:(if ts.length≤lim then some (T.lst (Zfo ts)) else none)=some rr:=eb
      split at eb <;> cases eb
      obtain ⟨ts',m2,q1,q2⟩:=OkR.now ho M1
      cases q1
      obtain ⟨a,vs,rfl,h1,h2,h3⟩:=RT.ilst rv
      exact ⟨a,vs,rfl,.of h1,q2 _ (.enm h1 h2 h3)⟩
    | _=>cases eb
theorem dl_mem (x:Str) (ss:List Str):x∈dl ss↔x∈ss:=by
  have:∀ (ss D:List Str),x∈ss.foldl (fun D x=>if x∈D then D else D++[x]) D↔x∈D∨x∈ss:=by
    intro ss
    induction ss with
    | nil=>intro D; simp
    | cons y r ih =>
      intro D
      rw [List.foldl_cons,ih,List.mem_cons]
      split
      · rename_i h
        constructor
        · rintro (h1 | h1)
          · exact .inl h1
          · exact .inr (.inr h1)
        · rintro (h1 | h1 | h1)
          · exact .inl h1
          · subst h1; exact .inl h
          · exact .inr h1
      · rw [List.mem_append,List.mem_singleton,or_assoc]
  have h:=this ss []
  unfold dl
  rw [h]
  simp
theorem dl_nd (ss:List Str):(dl ss).Nodup:=by
  have:∀ (ss D:List Str),D.Nodup→(ss.foldl (fun D x=>if x∈D then D else D++[x]) D).Nodup:=by
    intro ss
    induction ss with
    | nil=>intro D h; exact h
    | cons y r ih =>
      intro D h
      rw [List.foldl_cons]
      refine ih _ ?_
      split
      · exact h
      · rename_i hn
        rw [List.nodup_append]
        refine ⟨h,by simp,fun a ha b hb=>?_⟩
        rw [List.mem_singleton.mp hb]
        exact fun e=>hn (e ▸ ha)
  exact this ss [] .nil
theorem mkS_nd {xs:List (List Nat)} (h:xs.Nodup):(xs.map fun c=>(⟨c.toArray⟩:Str)).Nodup:=by
  refine List.pairwise_map.mpr (h.imp fun {a b} q e=>q (Zm3 e))
theorem Zm2 {xs ys:List (List Nat)} (h:∀ c,c∈xs↔c∈ys) (x:Str):(x∈xs.map fun c=>(⟨c.toArray⟩:Str))↔x∈ys.map fun c=>(⟨c.toArray⟩:Str):=by
  constructor
  · intro q
    obtain ⟨c,hc,rfl⟩:=List.mem_map.mp q
    exact List.mem_map.mpr ⟨c,(h c).mp hc,rfl⟩
  · intro q
    obtain ⟨c,hc,rfl⟩:=List.mem_map.mp q
    exact List.mem_map.mpr ⟨c,(h c).mpr hc,rfl⟩
theorem Zik {D:List Str} {bs:List (List Nat)} (hd:D.Nodup) (hm:∀ x,x∈D↔x∈bs.map fun c=>(⟨c.toArray⟩:Str)):D.length=(Qs bs).length:=by
  have hp:D.Perm ((Qs bs).map fun c=>(⟨c.toArray⟩:Str)):=(List.perm_ext_iff_of_nodup hd (mkS_nd (Zgk bs))).mpr fun x=>by
    rw [hm]
    exact Zm2 (fun c=>(ZbT c bs).symm) x
  have:=hp.length_eq
  rw [List.length_map] at this
  exact this
theorem ZfJ:∀ {ts:List T} {bs:List (List Nat)},strs? ts=some bs→(∀ t∈ts,∃ c,t = .str c)∧ts.length=bs.length
  | [],_,e=>by cases e; exact ⟨fun t h=>by simp at h,rfl⟩
  | t :: ts,bs,e=>by
    cases t with
    | str c =>
      unfold strs? at e
      cases q:strs? ts with
      | none=>rw [q] at e; cases e
      | some cs =>
        rw [q] at e; cases e
        obtain ⟨h1,h2⟩:=ZfJ q
        refine ⟨fun t ht=>?_,by rw [List.length_cons,List.length_cons,h2]⟩
        rcases List.mem_cons.mp ht with rfl | ht
        · exact ⟨c,rfl⟩
        · exact h1 t ht
    | _=>cases e
theorem ZiL {n:Nat} (h:n < 64):(n:Int) < 2 ^ 63:=Int.lt_of_lt_of_le (b:=64) (by omega) (by decide)
theorem ZgG (hc:X.calm=true) (hg1:Gl X "len") (hm1:X.mg "len" = none) (hg2:Gl X "set") (hm2:X.mg "set" = none) (ha:PA X [e] (tA X.K call gv xr (.cons ea .nil))) (he:notStar e=true:=by rfl) :
    PE X (.Call (.Name "len" p) [.Call (.Name "set" p2) [e] [] pos2] [] pos) (tE X.K call gv xr (.blt .lenset (.cons ea .nil))):=by
  rintro pins s σ H Q I ⟨env,cm,m,hE,M,ho⟩
  rw [ev] at ho
  refine wpAny_Call_Name_kw (ZaL I hg1 hm1 (show bootBuiltins "len" = some (.builtin "len") from by decide +kernel) ?_ (by decide) (by decide))
  refine PyProof.Rows.callWith_builtin1 ?_ rfl rfl
  show wpAny _ _ (spliced ((false,eval (.Call (.Name "set" p2) [e] [] pos2) X.env) :: backTo pos [])) _ _ s
  refine Calls.spliced_cons ?_
  refine wpAny_Call_Name_kw (ZaL I hg2 hm2 (show bootBuiltins "set" = some (.type "set") from by decide +kernel) ?_ (by decide) (by decide))
  refine PyProof.Rows.callWith_type1 (thn (ha pos2 pins s σ H (fun vs H1=>∃ cm1 m1 ws,MemR X.K cm1 m1 H1∧RWs X.K cm1 m1 H1 ws vs∧OkR X.K (fBlt .lenset ws m1) xr cm1 m1 H1 fun w cm' m' H'=>∀ v,RW X.K cm' m' H' w v→Q v H') I ⟨env,cm,m,hE,M,ho.bind.mono fun ws cm1 m1 H1 x1 M1 o1 vs rvs=>⟨cm1,m1,ws,M1,rvs,o1⟩⟩) fun us s1 ⟨vs,H1,I1,r1,cm1,m1,ws,M1,rws,o1⟩=>?_) (JM he) rfl
  obtain ⟨w,v,t,rr,rfl,rfl,rv,eq,eb,ho⟩:=blt1 rws (JT (by decide)) o1
  have hA:X.A.handled=none:=I1.ok.hd hc
  cases t with
  | lst ts =>
    have eb:Zdn ts=some rr:=eb
    unfold Zdn at eb
    cases q:strs? ts with
    | none=>rw [q] at eb; cases eb
    | some bs =>
      rw [q] at eb
      have eb:(if bs.length < 64 then some (T.int ((Qs bs).length:Int)) else none)=some rr:=eb
      split at eb <;> cases eb
      rename_i h64
      obtain ⟨a,vs,rfl,h1,rr1⟩:=Z7 M1 rv eq
      obtain ⟨u,rfl,ru⟩:=vals1 r1
      cases ru
      obtain ⟨its,rv',pl,hz⟩:=I1.list (.of h1)
      cases RTs.strs rr1 q
      have hsa:=ZbR rv'
      have hl:=rv'.length
      rw [List.length_map] at hl
      refine ZdD hA pl.isList (fun i v hv=>Zlx hsa i v (by simpa using hv)) (by unfold scanBound; simp; omega) fun h' tk hS kp=>?_
      have I2:Inv X pins σ H1 { s1 with heap:=h',toks:=tk }:=I1.kept kp
      refine wpAny_pure ?_
      rw [show its.toArray.size=bs.length by simp; omega] at hS
      obtain ⟨o,es,ep,t,eo,hE⟩:=hS
      have hsz:es.size=(Qs bs).length:=by
        have h1:=hE.txs.length_eq
        rw [List.length_map,Array.length_toList] at h1
        rw [h1]
        refine Zik hE.nd fun x=>?_
        rw [ZiZ]
        constructor
        · rintro ⟨i,hi,e⟩
          rw [← e]
          simp [List.getD,hi]
        · intro h
          obtain ⟨c,hc,rfl⟩:=List.mem_map.mp h
          obtain ⟨i,hi,rfl⟩:=List.getElem_of_mem hc
          exact ⟨i,hi,by simp [List.getD,hi]⟩
      have hlt:es.size < 64:=by
        have h1:=hE.txs.length_eq
        rw [List.length_map,Array.length_toList] at h1
        have:=Zf6 (fun i=>(bs.map fun c=>(⟨c.toArray⟩:Str)).getD i ⟨#[]⟩) bs.length
        omega
      refine call_len_set eo hE.ex hE.data hE.fits (ZiL hlt) ?_
      rw [hsz]
      exact ⟨.int _,H1,I2.kept (t':=tk + 1 + 1) fun b o e=>e,⟨_,rfl⟩,ans ho M1 (.int _)⟩
  | tup ts =>
    have eb:Zdn ts=some rr:=eb
    unfold Zdn at eb
    cases q:strs? ts with
    | none=>rw [q] at eb; cases eb
    | some bs =>
      rw [q] at eb
      have eb:(if bs.length < 64 then some (T.int ((Qs bs).length:Int)) else none)=some rr:=eb
      split at eb <;> cases eb
      rename_i h64
      obtain ⟨a,vs,rfl,h1,rr1⟩:=RT.itup (Zj rv eq fun _ z=>by cases z)
      obtain ⟨u,rfl,ru⟩:=vals1 r1
      cases ru
      obtain ⟨its,rv',pl,hz⟩:=I1.tuple h1
      cases RTs.strs rr1 q
      have hsa:=ZbR rv'
      have hl:=rv'.length
      rw [List.length_map] at hl
      refine ZcA hA (show s1.heap.IsTuple a its.toArray from pl) (fun i v hv=>Zlx hsa i v (by simpa using hv)) (by unfold scanBound; simp; omega) fun h' tk hS kp=>?_
      have I2:Inv X pins σ H1 { s1 with heap:=h',toks:=tk }:=I1.kept kp
      refine wpAny_pure ?_
      rw [show its.toArray.size=bs.length by simp; omega] at hS
      obtain ⟨o,es,ep,t,eo,hE⟩:=hS
      have hsz:es.size=(Qs bs).length:=by
        have h1:=hE.txs.length_eq
        rw [List.length_map,Array.length_toList] at h1
        rw [h1]
        refine Zik hE.nd fun x=>?_
        rw [ZiZ]
        constructor
        · rintro ⟨i,hi,e⟩
          rw [← e]
          simp [List.getD,hi]
        · intro h
          obtain ⟨c,hc,rfl⟩:=List.mem_map.mp h
          obtain ⟨i,hi,rfl⟩:=List.getElem_of_mem hc
          exact ⟨i,hi,by simp [List.getD,hi]⟩
      have hlt:es.size < 64:=by
        have h1:=hE.txs.length_eq
        rw [List.length_map,Array.length_toList] at h1
        have:=Zf6 (fun i=>(bs.map fun c=>(⟨c.toArray⟩:Str)).getD i ⟨#[]⟩) bs.length
        omega
      refine call_len_set eo hE.ex hE.data hE.fits (ZiL hlt) ?_
      rw [hsz]
      exact ⟨.int _,H1,I2.kept (t':=tk + 1 + 1) fun b o e=>e,⟨_,rfl⟩,ans ho M1 (.int _)⟩
  | _=>cases eb
theorem Zfa {elt target iter:Expr} {ifs:List Expr} {gs:List Comprehension} {scope:Scope} {N':List Str} {own:Nat} {keep:List Nat} {it:E} {tg:Tg} {cs:Es} (hc:X.calm=true) (hg1:Gl X "len") (hm1:X.mg "len" = none) (k:CompK X xr call gv N' scope own keep elt target iter ifs gs it tg cs (.emit ea)) :
    PE X (.Call (.Name "len" p) [.SetComp elt (⟨target,iter,ifs,0⟩ :: gs) scope pos2] [] pos) (tE X.K call gv xr (.blt .lenset (.cons (.comp own keep it tg cs (.emit ea)) .nil))):=by
  rintro pins s σ H Q I ⟨env,cm,m,hE,M,ho⟩
  rw [ev] at ho
  refine wpAny_Call_Name_kw (ZaL I hg1 hm1 (show bootBuiltins "len" = some (.builtin "len") from by decide +kernel) ?_ (by decide) (by decide))
  refine PyProof.Rows.callWith_builtin1 ?_ rfl rfl
  show wpAny _ _ (spliced ((false,eval (.SetComp elt (⟨target,iter,ifs,0⟩ :: gs) scope pos2) X.env) :: backTo pos [])) _ _ s
  refine Calls.spliced_cons ?_
  cases h:ev call gv (.comp own keep it tg cs (.emit ea)) env m with
  | stuck =>
    rw [evs,h] at ho
    exact ho.elim
  | exc e m'=>exact absurd h (Zbh e m')
  | ok w m' =>
    obtain ⟨out,rfl⟩:=Zcj h
    rw [evs,h] at ho
    have ho:OkR X.K (pur ((views [W.t (.lst out)] m').bind fun ts=>bltT .lenset ts) m') xr cm m H _:=ho
    have ho:OkR X.K (pur (Zdn out) m') xr cm m H _:=ho
    unfold Zdn at ho
    cases q:strs? out with
    | none=>rw [q] at ho; exact ho.elim
    | some bs =>
      rw [q] at ho
      have ho:OkR X.K (pur (if bs.length < 64 then some (T.int ((Qs bs).length:Int)) else none) m') xr cm m H _:=ho
      split at ho
      · rename_i h64
        have ho:OkR X.K (Res.ok (W.t (T.int ((Qs bs).length:Int))) m') xr cm m H _:=ho
        obtain ⟨hst,hsl⟩:=ZfJ q
        rw [arm_eval_SetComp]
        refine Zg7 hc k.sc k.hown k.hkeep (fun x hx e=>by rw [k.sc.look x hx,e]) k.pi k.fs k.ins k.dis k.slt I hE M (by omega) hst h ?_
        rintro D C s3 H3 cm3 vs I3 ⟨ss,rfl,hS⟩ x3 M3 r3 ⟨mm,hm⟩ fC nDC
        refine ⟨mm,hm,fun h' hs'=>?_⟩
        have I4:Inv X pins σ H3 { s3 with heap:=h' }:=I3.turned (t':=s3.toks) (it:=C) (fun b o hb e=>(hs'.2 b hb).trans e) fC.1 fC.2.1 fC.2.2.2.1 fC.2.2.2.2.1 fC.2.2.2.2.2
        have e1:=RTs.strs r3 q
        have e2:ss=bs.map fun c=>(⟨c.toArray⟩:Str):=by
          have e3:ss.map V.str=(bs.map fun c=>(⟨c.toArray⟩:Str)).map V.str:=by rw [e1,List.map_map]; rfl
          exact (List.map_inj_right (fun a b e=>by injection e)).mp e3
        subst e2
        obtain ⟨o,es,ep,t,eo,hex,hd,_,_,_,hf,hn⟩:=hS
        have hsz:es.size=(Qs bs).length:=by
          rw [hn]
          exact Zik (dl_nd _) fun x=>dl_mem x _
        have hlt:es.size < 64:=by
          have:=ZlP (bs.map fun c=>(⟨c.toArray⟩:Str))
          rw [List.length_map] at this
          omega
        refine wpAny_pure ?_
        refine call_len_set (s:={ s3 with heap:=h' }) ((hs'.2 D nDC).trans eo) hex hd hf (ZiL hlt) ?_
        rw [hsz]
        exact ⟨.int _,H3,I4.kept (s:={ s3 with heap:=h' }) (t':=s3.toks + 1 + 1) fun b o e=>e,⟨_,rfl⟩,OkR.to ho x3 M3 _ (.int _)⟩
      · exact ho.elim
end
end Mi
end
noncomputable section
namespace My
open Mi
def JH:S:=(.ret (.and (.isi (.var 0) .int) (.not (.isi (.var 0) .bool))) .done)
def JK:S:=(.ret (.cmp .In (.var 1) (.ix (.var 0) (.con (.int 2)))) .done)
def Z8:S:=(.ife (.cmp .Eq (.var 2) (.var 1)) (.ret (.var 3) .done) .done .done)
def Xe:S:=(.forr (.tp [2,3]) (.ix (.var 0) (.con (.int 3))) Z8 (.ret (.con .non) .done))
def Jl:S:=(.ret (.and (.isi (.var 0) .str) (.cmp .In (.var 0) (.var 1))) .done)
def ZkP:E:=(.emit (.call 4 (.cons (.var 0) (.cons (.var 1) .nil))))
def Zga:E:=(.comp 1 [1] (.ix (.var 0) (.con (.int 1))) (.nm 0) .nil ZkP)
def ZkO:E:=(.emit (.call 4 (.cons (.var 0) (.cons (.var 1) .nil))))
def Zf9:E:=(.comp 1 [1] (.ix (.var 0) (.con (.int 1))) (.nm 0) .nil ZkO)
def Zai:S:=(.asg 2 (.ix (.var 0) (.con (.int 0))) (.ife (.cmp .Eq (.var 2) (.con (.str [97,110,121]))) (.ret (.con (.bl true)) .done) .done (.ife (.cmp .Eq (.var 2) (.con (.str [105,115]))) (.ret (.call 1 (.cons (.var 1) (.cons (.ix (.var 0) (.con (.int 1))) .nil))) .done) .done (.ife (.cmp .Eq (.var 2) (.con (.str [98,121]))) (.ret (.cmp .Eq (.ix (.var 1) (.con (.int 0))) (.ix (.var 0) (.con (.int 1)))) .done) .done (.ife (.cmp .Eq (.var 2) (.con (.str [110,111,116]))) (.ret (.not (.call 4 (.cons (.ix (.var 0) (.con (.int 1))) (.cons (.var 1) .nil)))) .done) .done (.ife (.cmp .Eq (.var 2) (.con (.str [97,110,100]))) (.ret (.blt .all (.cons Zf9 .nil)) .done) .done (.ife (.cmp .Eq (.var 2) (.con (.str [111,114]))) (.ret (.blt .any (.cons Zga .nil)) .done) .done (.ret (.call 5 (.cons (.var 0) (.cons (.var 1) .nil))) .done))))))))
def Jk:S:=(.asg 2 (.call 2 (.cons (.var 1) (.cons (.ix (.var 0) (.con (.int 1))) .nil))) (.ife (.cmp .Is (.var 2) (.con .non)) (.ret (.con (.bl false)) .done) .done (.ife (.cmp .Eq (.ix (.var 0) (.con (.int 0))) (.con (.str [108,101,97,115,116]))) (.ret (.cmp .GtE (.var 2) (.ix (.var 0) (.con (.int 2)))) .done) .done (.ret (.cmp .LtE (.var 2) (.ix (.var 0) (.con (.int 2)))) .done))))
def QS:S:=(.ife (.or (.not (.isi (.var 2) .tuple)) (.cmp .NotEq (.blt .len (.cons (.var 2) .nil)) (.con (.int 2)))) (.ret (.con (.bl false)) .done) .done (.asgT [3,4] (.var 2) (.ife (.or (.not (.isi (.var 3) .bool)) (.cmp .NotEq (.var 3) (.call 4 (.cons (.var 0) (.cons (.var 1) .nil))))) (.ret (.con (.bl false)) .done) .done (.ife (.cmp .Eq (.ix (.var 0) (.con (.int 0))) (.con (.str [110,111,116]))) (.ret (.call 6 (.cons (.ix (.var 0) (.con (.int 1))) (.cons (.var 1) (.cons (.var 4) .nil)))) .done) .done (.ife (.cmp .NotIn (.ix (.var 0) (.con (.int 0))) (.tup (.cons (.con (.str [97,110,100])) (.cons (.con (.str [111,114])) .nil)))) (.ret (.cmp .Is (.var 4) (.con .non)) .done) .done (.ife (.cmp .Eq (.var 3) (.cmp .Eq (.ix (.var 0) (.con (.int 0))) (.con (.str [111,114])))) (.ret (.call 7 (.cons (.ix (.var 0) (.con (.int 1))) (.cons (.var 1) (.cons (.var 3) (.cons (.var 4) .nil))))) .done) .done (.ret (.call 8 (.cons (.ix (.var 0) (.con (.int 1))) (.cons (.var 1) (.cons (.var 4) .nil)))) .done)))))))
def Z0:S:=(.ife (.or (.not (.isi (.var 3) .tuple)) (.cmp .NotEq (.blt .len (.cons (.var 3) .nil)) (.con (.int 2)))) (.ret (.con (.bl false)) .done) .done (.asgT [4,5] (.var 3) (.ife (.or (.not (.call 0 (.cons (.var 4) .nil))) (.not (.chn .LtE .Lt (.con (.int 0)) (.var 4) (.blt .len (.cons (.var 0) .nil))))) (.ret (.con (.bl false)) .done) .done (.ret (.and (.call 6 (.cons (.ix (.var 0) (.var 4)) (.cons (.var 1) (.cons (.var 5) .nil)))) (.cmp .Eq (.ix (.var 5) (.con (.int 0))) (.var 2))) .done))))
def Xx:E:=(.emit (.call 6 (.cons (.var 0) (.cons (.var 2) (.cons (.var 1) .nil)))))
def ZdE:E:=(.comp 2 [1] (.blt .zip2 (.cons (.var 0) (.cons (.var 2) .nil))) (.tp [0,1]) .nil Xx)
def Qm:S:=(.ife (.or (.not (.isi (.var 2) .tuple)) (.cmp .NotEq (.blt .len (.cons (.var 2) .nil)) (.blt .len (.cons (.var 0) .nil)))) (.ret (.con (.bl false)) .done) .done (.ret (.blt .all (.cons ZdE .nil)) .done))
def Q8:S:=(.ret (.and (.call 0 (.cons (.var 0) .nil)) (.chn .LtE .LtE (.var 1) (.var 0) (.var 2))) .done)
def XX:S:=(.ret (.ix (.ix (.var 0) (.con (.int 1))) (.con (.int 0))) .done)
def X3:S:=(.ret (.ix (.ix (.var 0) (.con (.int 1))) (.con (.int 1))) .done)
def XS:S:=(.ret (.ix (.ix (.ix (.var 0) (.var 1)) (.con (.int 0))) (.con (.int 2))) .done)
def X4:S:=(.ret (.ix (.ix (.ix (.var 0) (.var 1)) (.con (.int 0))) (.con (.int 1))) .done)
def Zcy:E:=(.emit (.var 1))
def Zah:E:=(.comp 2 [] (.var 0) (.tp [0,1]) .nil Zcy)
def Js:S:=(.ret (.blt .minl (.cons Zah .nil)) .done)
def Zad:E:=(.emit (.call 11 (.cons (.var 0) .nil)))
def Jz:E:=(.comp 2 [] (.var 0) (.tp [0,1]) .nil Zad)
def Ql:S:=(.ret (.cmp .Gt (.blt .lenset (.cons Jz .nil)) (.con (.int 1))) .done)
def Zar:E:=(.emit (.call 10 (.cons (.var 0) .nil)))
def JS:E:=(.comp 2 [] (.var 0) (.tp [0,1]) .nil Zar)
def Qq:S:=(.ret (.cmp .Lt (.blt .lenset (.cons JS .nil)) (.blt .len (.cons (.var 0) .nil))) .done)
def QB:S:=(.ret (.and (.cmp .NotEq (.var 1) (.var 2)) (.not (.call 4 (.cons (.call 12 (.cons (.var 0) (.cons (.var 1) .nil))) (.cons (.call 13 (.cons (.var 0) (.cons (.var 2) .nil))) .nil))))) .done)
def Qa:S:=(.asgT [2,3] (.ix (.var 0) (.var 1)) (.ret (.cmp .Gt (.blt .min2 (.cons (.ix (.var 2) (.con (.int 4))) (.cons (.var 3) .nil))) (.call 14 (.cons (.var 0) .nil))) .done))
def Qp:S:=(.asg 4 (.bin .Sub (.blt .len (.cons (.var 0) .nil)) (.con (.int 1))) (.ife (.or (.not (.call 9 (.cons (.var 1) (.cons (.con (.int 0)) (.cons (.var 4) .nil))))) (.not (.call 9 (.cons (.var 2) (.cons (.con (.int 0)) (.cons (.var 4) .nil)))))) (.ret (.con (.bl false)) .done) .done (.ret (.and (.call 17 (.cons (.var 0) (.cons (.var 1) (.cons (.var 2) .nil)))) (.call 6 (.cons (.call 12 (.cons (.var 0) (.cons (.var 1) .nil))) (.cons (.call 13 (.cons (.var 0) (.cons (.var 2) .nil))) (.cons (.var 3) .nil))))) .done)))
def Qk:S:=(.ife (.or (.not (.isi (.var 1) .tuple)) (.cmp .Eq (.blt .len (.cons (.var 1) .nil)) (.con (.int 0)))) (.ret (.con (.bl false)) .done) .done (.asg 2 (.ix (.var 1) (.con (.int 0))) (.ife (.and (.cmp .Eq (.blt .len (.cons (.var 1) .nil)) (.con (.int 1))) (.call 3 (.cons (.var 2) (.cons (.tup (.cons (.con (.str [107,105,110,100])) .nil)) .nil)))) (.ret (.call 15 (.cons (.var 0) .nil)) .done) .done (.ife (.and (.cmp .Eq (.blt .len (.cons (.var 1) .nil)) (.con (.int 1))) (.call 3 (.cons (.var 2) (.cons (.tup (.cons (.con (.str [110,97,109,101])) .nil)) .nil)))) (.ret (.call 16 (.cons (.var 0) .nil)) .done) .done (.ife (.and (.cmp .Eq (.blt .len (.cons (.var 1) .nil)) (.con (.int 2))) (.call 3 (.cons (.var 2) (.cons (.tup (.cons (.con (.str [108,101,97,115,116])) .nil)) .nil)))) (.ret (.and (.call 9 (.cons (.ix (.var 1) (.con (.int 1))) (.cons (.con (.int 0)) (.cons (.bin .Sub (.blt .len (.cons (.var 0) .nil)) (.con (.int 1))) .nil)))) (.call 18 (.cons (.var 0) (.cons (.ix (.var 1) (.con (.int 1))) .nil)))) .done) .done (.ife (.and (.cmp .Eq (.blt .len (.cons (.var 1) .nil)) (.con (.int 4))) (.call 3 (.cons (.var 2) (.cons (.tup (.cons (.con (.str [119,105,115,104])) .nil)) .nil)))) (.ret (.call 19 (.cons (.var 0) (.cons (.ix (.var 1) (.con (.int 1))) (.cons (.ix (.var 1) (.con (.int 2))) (.cons (.ix (.var 1) (.con (.int 3))) .nil))))) .done) .done (.ret (.con (.bl false)) .done)))))))
def JL:S:=(.ife (.cmp .Lt (.var 1) (.blt .len (.cons (.var 0) .nil))) (.ret (.ix (.var 0) (.var 1)) .done) .done (.ret (.con (.int 0)) .done))
def Zbk:S:=(.ret (.cel (.cons (.bin .Mult (.var 0) (.blt .int (.cons (.cmp .GtE (.var 0) (.bin .Pow (.con (.int 10)) (.con (.int 18)))) .nil))) (.cons (.bin .Mod (.var 0) (.con (.int 2147483647))) (.cons (.con (.int 0)) .nil)))) .done)
def Zbo:S:=(.ife (.cmp .Gt (.ix (.var 0) (.con (.int 0))) (.con (.int 0))) (.asg 2 (.bin .Mod (.ix (.var 0) (.con (.int 0))) (.var 1)) (.set (.var 0) (.con (.int 0)) (.bin .FloorDiv (.ix (.var 0) (.con (.int 0))) (.var 1)) (.ret (.var 2) .done))) .done (.set (.var 0) (.con (.int 2)) (.bin .Add (.ix (.var 0) (.con (.int 2))) (.con (.int 1))) (.asg 3 (.bin .Mod (.bin .Mult (.bin .Add (.bin .Add (.ix (.var 0) (.con (.int 1))) (.bin .Mult (.con (.int 7919)) (.ix (.var 0) (.con (.int 2))))) (.con (.int 1))) (.con (.int 48271))) (.con (.int 2147483647))) (.asg 3 (.bin .Mod (.bin .Mult (.var 3) (.bin .Add (.bin .FloorDiv (.var 3) (.con (.int 1009))) (.con (.int 69621)))) (.con (.int 2147483647))) (.ret (.bin .Mod (.bin .Mod (.bin .Mult (.var 3) (.bin .Add (.bin .FloorDiv (.var 3) (.con (.int 2003))) (.con (.int 40692)))) (.con (.int 2147483399))) (.var 1)) .done)))))
def Zbl:S:=(.ret (.ix (.var 1) (.call 23 (.cons (.var 0) (.cons (.blt .len (.cons (.var 1) .nil)) .nil)))) .done)
def Zbn:S:=(.asg 1 (.lst (.cons (.con (.str [97])) (.cons (.con (.str [97,98])) (.cons (.con (.str [98])) (.cons (.con (.str [97,110,121,97])) (.cons (.con (.str [105,115,108,97,110,100])) (.cons (.con (.str [97,98,99])) (.cons (.con (.str [122])) (.cons (.con (.str [98,121,98,121,101])) (.cons (.con (.str [111,114,100,101,114])) (.cons (.con (.str [110,111,116,101,115])) (.cons (.con (.str [99])) (.cons (.con (.str [122,122,122,122,122,122,122,122])) .nil))))))))))))) (.ret (.ix (.var 1) (.bin .Mod (.var 0) (.con (.int 12)))) .done))
def Xf:S:=(.ret (.ix (.lst (.cons (.call 23 (.cons (.var 0) (.cons (.con (.int 6)) .nil))) (.cons (.call 23 (.cons (.var 0) (.cons (.con (.int 6)) .nil))) (.cons (.bin .Sub (.bin .Pow (.con (.int 10)) (.con (.int 9))) (.call 23 (.cons (.var 0) (.cons (.con (.int 3)) .nil)))) .nil)))) (.call 23 (.cons (.var 0) (.cons (.con (.int 3)) .nil)))) .done)
def ZaR:E:=(.emit (.tup (.cons (.var 0) (.cons (.call 26 (.cons (.var 1) .nil)) .nil))))
def ZeI:E:=(.comp 1 [0] (.lst (.cons (.con (.str [112,114,105,99,101])) (.cons (.con (.str [119,105,100,101])) .nil))) (.nm 0) (.cons (.cmp .Eq (.call 23 (.cons (.var 1) (.cons (.con (.int 2)) .nil))) (.con (.int 1))) .nil) ZaR)
def ZaQ:E:=(.emit (.var 0))
def Zcr:E:=(.comp 1 [0] (.lst (.cons (.con (.str [102,114,101,115,104])) (.cons (.con (.str [111,108,100])) (.cons (.con (.str [111,108,100,115])) .nil)))) (.nm 0) (.cons (.cmp .Eq (.call 23 (.cons (.var 1) (.cons (.con (.int 2)) .nil))) (.con (.int 1))) .nil) ZaQ)
def Zbp:S:=(.asg 3 (.blt .tuple (.cons Zcr .nil)) (.asg 4 (.blt .tuple (.cons ZeI .nil)) (.ret (.tup (.cons (.var 1) (.cons (.var 2) (.cons (.var 3) (.cons (.var 4) .nil))))) .done)))
def Zca:E:=(.emit (.call 28 (.cons (.var 1) (.cons (.bin .Sub (.var 2) (.con (.int 1))) .nil))))
def ZeG:E:=(.comp 1 [0,1] (.blt .range1 (.cons (.var 3) .nil)) (.nm 0) .nil Zca)
def X5:S:=(.asg 2 (.call 23 (.cons (.var 0) (.cons (.bin .Add (.con (.int 6)) (.bin .Mult (.con (.int 3)) (.blt .int (.cons (.cmp .Gt (.var 1) (.con (.int 0))) .nil)))) .nil))) (.ife (.cmp .Lt (.var 2) (.con (.int 2))) (.ret (.tup (.cons (.con (.str [97,110,121])) .nil)) .done) .done (.ife (.cmp .Eq (.var 2) (.con (.int 2))) (.ret (.tup (.cons (.con (.str [105,115])) (.cons (.call 24 (.cons (.var 0) (.cons (.lst (.cons (.con (.str [102,114,101,115,104])) (.cons (.con (.str [111,108,100])) (.cons (.con (.str [111,108,100,115])) (.cons (.con (.str [110,101,119])) .nil))))) .nil))) .nil))) .done) .done (.ife (.cmp .Eq (.var 2) (.con (.int 3))) (.ret (.tup (.cons (.con (.str [98,121])) (.cons (.call 25 (.cons (.call 23 (.cons (.var 0) (.cons (.con (.int 12)) .nil))) .nil)) .nil))) .done) .done (.ife (.cmp .Lt (.var 2) (.con (.int 6))) (.ret (.tup (.cons (.ix (.lst (.cons (.con (.str [108,101,97,115,116])) (.cons (.con (.str [109,111,115,116])) .nil))) (.bin .Sub (.var 2) (.con (.int 4)))) (.cons (.call 24 (.cons (.var 0) (.cons (.lst (.cons (.con (.str [112,114,105,99,101])) (.cons (.con (.str [119,105,100,101])) (.cons (.con (.str [102,97,114])) .nil)))) .nil))) (.cons (.call 26 (.cons (.var 0) .nil)) .nil)))) .done) .done (.ife (.cmp .Eq (.var 2) (.con (.int 6))) (.ret (.tup (.cons (.con (.str [110,111,116])) (.cons (.call 28 (.cons (.var 0) (.cons (.bin .Sub (.var 1) (.con (.int 1))) .nil))) .nil))) .done) .done (.asg 3 (.bin .Add (.con (.int 2)) (.call 23 (.cons (.var 0) (.cons (.con (.int 2)) .nil)))) (.ret (.tup (.cons (.ix (.lst (.cons (.con (.str [97,110,100])) (.cons (.con (.str [111,114])) .nil))) (.bin .Sub (.var 2) (.con (.int 7)))) (.cons (.blt .tuple (.cons ZeG .nil)) .nil))) .done))))))))
def Za1:S:=(.asg 5 (.ix (.lst (.cons (.bin .Add (.con (.int 1)) (.call 23 (.cons (.var 0) (.cons (.con (.int 9)) .nil)))) (.cons (.bin .Add (.con (.int 1)) (.call 23 (.cons (.var 0) (.cons (.con (.int 9)) .nil)))) (.cons (.bin .Add (.con (.int 1)) (.call 23 (.cons (.var 0) (.cons (.bin .Pow (.con (.int 10)) (.con (.int 6))) .nil)))) .nil)))) (.call 23 (.cons (.var 0) (.cons (.con (.int 3)) .nil)))) (.asg 6 (.ix (.lst (.cons (.con (.int 1)) (.cons (.bin .Add (.con (.int 1)) (.call 23 (.cons (.var 0) (.cons (.var 5) .nil)))) (.cons (.var 5) .nil)))) (.call 23 (.cons (.var 0) (.cons (.con (.int 3)) .nil)))) (.asg 7 (.ix (.lst (.cons (.tup (.cons (.con (.str [97,110,121])) .nil)) (.cons (.call 28 (.cons (.var 0) (.cons (.con (.int 2)) .nil))) .nil))) (.call 23 (.cons (.var 0) (.cons (.con (.int 2)) .nil)))) (.asg 8 (.ix (.lst (.cons (.call 23 (.cons (.var 0) (.cons (.con (.int 3)) .nil))) (.cons (.call 23 (.cons (.var 0) (.cons (.con (.int 1001)) .nil))) .nil))) (.call 23 (.cons (.var 0) (.cons (.con (.int 2)) .nil)))) (.ret (.tup (.cons (.var 1) (.cons (.call 27 (.cons (.var 0) (.cons (.var 2) (.cons (.var 3) .nil)))) (.cons (.var 7) (.cons (.var 5) (.cons (.var 6) (.cons (.var 8) (.cons (.var 4) .nil)))))))) .done)))))
def Zcb:E:=(.emit (.var 1))
def Zcq:E:=(.comp 2 [0] (.ix (.var 1) (.con (.int 3))) (.tp [0,1]) (.cons (.cmp .Eq (.var 0) (.ix (.var 2) (.con (.int 1)))) .nil) Zcb)
def ZiG:E:=(.emit (.var 0))
def Zjh:E:=(.comp 1 [1] (.ix (.var 0) (.con (.int 1))) (.nm 0) (.cons (.call 30 (.cons (.var 0) (.cons (.var 1) .nil))) .nil) ZiG)
def ZiF:E:=(.emit (.var 0))
def Zjg:E:=(.comp 1 [1] (.ix (.var 0) (.con (.int 1))) (.nm 0) (.cons (.not (.call 30 (.cons (.var 0) (.cons (.var 1) .nil)))) .nil) ZiF)
def J5:S:=(.asg 2 (.ix (.var 0) (.con (.int 0))) (.ife (.cmp .Eq (.var 2) (.con (.str [97,110,121]))) (.ret (.con (.bl true)) .done) .done (.ife (.cmp .Eq (.var 2) (.con (.str [105,115]))) (.ret (.cmp .In (.ix (.var 0) (.con (.int 1))) (.ix (.var 1) (.con (.int 2)))) .done) .done (.ife (.cmp .Eq (.var 2) (.con (.str [98,121]))) (.ret (.cmp .Eq (.ix (.var 1) (.con (.int 0))) (.ix (.var 0) (.con (.int 1)))) .done) .done (.ife (.cmp .Eq (.var 2) (.con (.str [110,111,116]))) (.ret (.not (.call 30 (.cons (.ix (.var 0) (.con (.int 1))) (.cons (.var 1) .nil)))) .done) .done (.ife (.cmp .Eq (.var 2) (.con (.str [97,110,100]))) (.ret (.cmp .Eq Zjg (.lst .nil)) .done) .done (.ife (.cmp .Eq (.var 2) (.con (.str [111,114]))) (.ret (.cmp .NotEq Zjh (.lst .nil)) .done) .done (.asg 3 Zcq (.ife (.cmp .Eq (.var 3) (.lst .nil)) (.ret (.con (.bl false)) .done) .done (.ret (.ix (.lst (.cons (.cmp .GtE (.ix (.var 3) (.con (.int 0))) (.ix (.var 0) (.con (.int 2)))) (.cons (.cmp .LtE (.ix (.var 3) (.con (.int 0))) (.ix (.var 0) (.con (.int 2)))) .nil))) (.blt .int (.cons (.cmp .Eq (.var 2) (.con (.str [109,111,115,116]))) .nil))) .done))))))))))
def Zem:E:=(.emit (.con (.int 1)))
def Zco:E:=(.comp 2 [6] (.var 0) (.tp [0,1]) (.cons (.cmp .Lt (.var 2) (.blt .min2 (.cons (.ix (.var 0) (.con (.int 4))) (.cons (.var 1) .nil)))) .nil) Zem)
def ZiE:E:=(.emit (.var 1))
def Zcn:E:=(.comp 2 [] (.var 0) (.tp [0,1]) .nil ZiE)
def Zel:S:=(.ife (.and (.cmp .NotEq (.ix (.var 4) (.con (.int 0))) (.ix (.var 2) (.con (.int 0)))) (.not (.call 30 (.cons (.ix (.var 2) (.con (.int 2))) (.cons (.ix (.var 4) (.con (.int 1))) .nil))))) (.ret (.con (.int 0)) .done) .done .done)
def Zek:S:=(.forr (.tp [4,5]) (.var 0) Zel .done)
def ZiD:E:=(.emit (.ix (.ix (.var 0) (.con (.int 1))) (.con (.int 1))))
def ZaZ:E:=(.comp 2 [] (.var 0) (.tp [0,1]) .nil ZiD)
def ZiC:E:=(.emit (.ix (.ix (.var 0) (.con (.int 1))) (.con (.int 0))))
def ZeH:E:=(.comp 2 [] (.var 0) (.tp [0,1]) .nil ZiC)
def Zbm:S:=(.asg 1 ZeH (.ife (.or (.cmp .Gt (.blt .lenset (.cons ZaZ .nil)) (.con (.int 1))) (.cmp .Lt (.blt .lenset (.cons (.var 1) .nil)) (.blt .len (.cons (.var 1) .nil)))) (.ret (.con (.int 0)) .done) .done (.forr (.tp [2,3]) (.var 0) Zek (.asg 6 (.blt .minl (.cons Zcn .nil)) (.ife (.cmp .NotEq Zco (.lst .nil)) (.ret (.con (.int 0)) .done) .done (.ret (.var 6) .done))))))
def ZaM:S:=(.asg 5 (.ix (.lst (.cons (.con (.str [114,121,101])) (.cons (.con (.str [111,97,116])) .nil))) (.bin .FloorDiv (.call 23 (.cons (.var 0) (.cons (.con (.int 9)) .nil))) (.con (.int 8)))) (.asg 6 (.call 25 (.cons (.bin .Add (.var 2) (.bin .Mult (.var 3) (.blt .int (.cons (.cmp .Gt (.call 23 (.cons (.var 0) (.cons (.con (.int 9)) .nil))) (.con (.int 0))) .nil)))) .nil)) (.asg 7 (.call 29 (.cons (.var 0) (.cons (.var 4) (.cons (.var 6) (.cons (.var 5) (.cons (.call 23 (.cons (.var 0) (.cons (.bin .Pow (.con (.int 10)) (.con (.int 9))) .nil))) .nil)))))) (.asg 8 (.ix (.lst (.cons (.ix (.var 7) (.con (.int 3))) (.cons (.bin .Add (.con (.int 1)) (.call 23 (.cons (.var 0) (.cons (.ix (.var 7) (.con (.int 3))) .nil)))) (.cons (.bin .Add (.con (.int 1)) (.call 23 (.cons (.var 0) (.cons (.blt .min2 (.cons (.con (.int 9)) (.cons (.ix (.var 7) (.con (.int 3))) .nil))) .nil)))) .nil)))) (.call 23 (.cons (.var 0) (.cons (.con (.int 3)) .nil)))) (.expr (.mth .append (.var 1) (.cons (.tup (.cons (.var 7) (.cons (.var 8) .nil))) .nil)) .done)))))
def ZcY:S:=(.asg 1 (.cel .nil) (.asg 2 (.call 23 (.cons (.var 0) (.cons (.con (.int 12)) .nil))) (.forr (.tp [3,4]) (.blt .enum (.cons (.tr (.slc (.lst (.cons (.con (.str [103,105,118,101])) (.cons (.con (.str [116,97,107,101])) (.cons (.con (.str [98,101,97,114])) .nil)))) .hole (.bin .Add (.con (.int 2)) (.call 23 (.cons (.var 0) (.cons (.con (.int 2)) .nil)))))) .nil)) ZaM (.ret (.var 1) .done))))
def Zdu:E:=(.emit (.var 0))
def Zgb:E:=(.comp 1 [3,2,1] (.blt .range1 (.cons (.blt .len (.cons (.ix (.var 1) (.con (.int 1))) .nil)) .nil)) (.nm 0) (.cons (.cmp .Eq (.call 30 (.cons (.ix (.ix (.var 3) (.con (.int 1))) (.var 0)) (.cons (.var 2) .nil))) (.var 1)) .nil) Zdu)
def Zdt:E:=(.emit (.call 33 (.cons (.var 1) (.cons (.var 0) (.cons (.var 2) .nil)))))
def Zlk:E:=(.comp 1 [0,2] (.ix (.var 1) (.con (.int 1))) (.nm 0) .nil Zdt)
def Zaj:S:=(.asg 3 (.call 30 (.cons (.var 1) (.cons (.var 2) .nil))) (.ife (.cmp .Eq (.ix (.var 1) (.con (.int 0))) (.con (.str [110,111,116]))) (.ret (.tup (.cons (.var 3) (.cons (.call 33 (.cons (.var 0) (.cons (.ix (.var 1) (.con (.int 1))) (.cons (.var 2) .nil)))) .nil))) .done) .done (.ife (.cmp .NotIn (.ix (.var 1) (.con (.int 0))) (.tup (.cons (.con (.str [97,110,100])) (.cons (.con (.str [111,114])) .nil)))) (.ret (.tup (.cons (.var 3) (.cons (.con .non) .nil))) .done) .done (.ife (.cmp .Eq (.var 3) (.cmp .Eq (.ix (.var 1) (.con (.int 0))) (.con (.str [97,110,100])))) (.ret (.tup (.cons (.var 3) (.cons (.blt .tuple (.cons Zlk .nil)) .nil))) .done) .done (.asg 4 (.call 24 (.cons (.var 0) (.cons Zgb .nil))) (.ret (.tup (.cons (.var 3) (.cons (.tup (.cons (.var 4) (.cons (.call 33 (.cons (.var 0) (.cons (.ix (.ix (.var 1) (.con (.int 1))) (.var 4)) (.cons (.var 2) .nil)))) .nil))) .nil))) .done))))))
def ZaO:S:=(.ife (.and (.cmp .NotEq (.var 4) (.var 7)) (.not (.call 30 (.cons (.ix (.var 5) (.con (.int 2))) (.cons (.ix (.ix (.ix (.var 1) (.var 7)) (.con (.int 0))) (.con (.int 1))) .nil))))) (.expr (.mth .append (.var 2) (.cons (.tup (.cons (.con (.str [119,105,115,104])) (.cons (.var 4) (.cons (.var 7) (.cons (.call 33 (.cons (.var 0) (.cons (.ix (.var 5) (.con (.int 2))) (.cons (.ix (.ix (.ix (.var 1) (.var 7)) (.con (.int 0))) (.con (.int 1))) .nil)))) .nil))))) .nil)) .done) .done .done)
def ZaN:S:=(.asgT [5,6] (.ix (.var 1) (.var 4)) (.ife (.cmp .Lt (.var 3) (.blt .min2 (.cons (.ix (.var 5) (.con (.int 4))) (.cons (.var 6) .nil)))) (.expr (.mth .append (.var 2) (.cons (.tup (.cons (.con (.str [108,101,97,115,116])) (.cons (.var 4) .nil))) .nil)) .done) .done (.forr (.nm 7) (.blt .range1 (.cons (.blt .len (.cons (.var 1) .nil)) .nil)) ZaO .done)))
def ZkS:E:=(.emit (.var 1))
def Zln:E:=(.comp 2 [] (.var 1) (.tp [0,1]) .nil ZkS)
def ZkR:E:=(.emit (.ix (.ix (.var 0) (.con (.int 1))) (.con (.int 0))))
def Zlm:E:=(.comp 2 [] (.var 1) (.tp [0,1]) .nil ZkR)
def ZkQ:E:=(.emit (.ix (.ix (.var 0) (.con (.int 1))) (.con (.int 1))))
def Zll:E:=(.comp 2 [] (.var 1) (.tp [0,1]) .nil ZkQ)
def ZcZ:S:=(.asg 2 (.cel .nil) (.ife (.cmp .Gt (.blt .lenset (.cons Zll .nil)) (.con (.int 1))) (.expr (.mth .append (.var 2) (.cons (.tup (.cons (.con (.str [107,105,110,100])) .nil)) .nil)) .done) .done (.ife (.cmp .Lt (.blt .lenset (.cons Zlm .nil)) (.blt .len (.cons (.var 1) .nil))) (.expr (.mth .append (.var 2) (.cons (.tup (.cons (.con (.str [110,97,109,101])) .nil)) .nil)) .done) .done (.asg 3 (.blt .minl (.cons Zln .nil)) (.forr (.nm 4) (.blt .range1 (.cons (.blt .len (.cons (.var 1) .nil)) .nil)) ZaN (.ret (.var 2) .done))))))
def Jm:S:=(.asg 2 (.call 20 (.cons (.var 0) (.cons (.var 1) .nil))) (.ife (.not (.isi (.var 2) .bool)) (.ret (.con .non) .done) .done (.ret (.var 2) .done)))
def X8:S:=(.asg 1 (.tup (.cons (.con (.bl false)) (.cons (.var 1) .nil))) .done)
def Zab:S:=(.asg 1 (.tup (.cons (.con (.bl false)) (.cons (.con .non) .nil))) (.forr (.nm 2) (.blt .range1 (.cons (.var 0) .nil)) X8 (.ret (.var 1) .done)))
def Zas:E:=(.emit (.tup (.cons (.con (.str [108,101,97,115,116])) (.cons (.var 0) .nil))))
def Zcp:E:=(.comp 1 [] (.var 5) (.nm 0) .nil Zas)
def Jt:S:=(.asg 3 (.blt .len (.cons (.var 1) .nil)) (.asg 4 (.lst (.cons (.blt .list (.cons (.var 2) .nil)) (.cons (.bin .Add (.var 2) (.tup (.cons (.con .non) .nil))) (.cons (.slc (.var 2) .hole (.neg (.con (.int 1)))) (.cons (.bin .Add (.tup (.cons (.bin .Add (.ix (.var 2) (.con (.int 0))) (.con (.str [115]))) .nil)) (.slc (.var 2) (.con (.int 1)) .hole)) (.cons (.bin .Add (.tup (.cons (.con .non) .nil)) (.slc (.var 2) (.con (.int 1)) .hole)) (.cons (.tup (.cons (.var 2) .nil)) .nil))))))) (.ife (.cmp .Eq (.ix (.var 2) (.con (.int 0))) (.con (.str [108,101,97,115,116]))) (.asg 5 (.lst (.cons (.neg (.con (.int 1))) (.cons (.var 3) (.cons (.con (.bl true)) (.cons (.con (.bl false)) (.cons (.con .non) (.cons (.con (.str [48])) (.cons (.tup (.cons (.con (.int 0)) .nil)) (.cons (.bin .Add (.var 3) (.con (.int 3))) (.cons (.bin .Sub (.ix (.var 2) (.con (.int 1))) (.var 3)) .nil)))))))))) (.asg 4 (.bin .Add (.var 4) Zcp) .done)) .done (.ife (.cmp .Eq (.ix (.var 2) (.con (.int 0))) (.con (.str [119,105,115,104]))) (.asgT [6,7,8,9] (.var 2) (.asg 4 (.bin .Add (.var 4) (.lst (.cons (.tup (.cons (.con (.str [119,105,115,104])) (.cons (.var 7) (.cons (.var 7) (.cons (.var 9) .nil))))) (.cons (.tup (.cons (.con (.str [119,105,115,104])) (.cons (.var 8) (.cons (.var 8) (.cons (.var 9) .nil))))) (.cons (.tup (.cons (.con (.str [119,105,115,104])) (.cons (.var 7) (.cons (.var 3) (.cons (.var 9) .nil))))) (.cons (.tup (.cons (.con (.str [119,105,115,104])) (.cons (.neg (.con (.int 1))) (.cons (.var 8) (.cons (.var 9) .nil))))) .nil)))))) (.asg 4 (.bin .Add (.var 4) (.lst (.cons (.tup (.cons (.con (.str [119,105,115,104])) (.cons (.bin .Sub (.var 7) (.var 3)) (.cons (.var 8) (.cons (.var 9) .nil))))) (.cons (.tup (.cons (.con (.str [119,105,115,104])) (.cons (.var 7) (.cons (.bin .Sub (.var 8) (.var 3)) (.cons (.var 9) .nil))))) (.cons (.tup (.cons (.con (.str [119,105,115,104])) (.cons (.var 7) (.cons (.con .non) (.cons (.var 9) .nil))))) .nil))))) (.asg 4 (.bin .Add (.var 4) (.lst (.cons (.tup (.cons (.con (.str [119,105,115,104])) (.cons (.var 7) (.cons (.var 8) (.cons (.bin .Add (.tup (.cons (.con (.bl true)) .nil)) (.slc (.var 9) (.con (.int 1)) .hole)) .nil))))) (.cons (.tup (.cons (.con (.str [119,105,115,104])) (.cons (.var 7) (.cons (.var 8) (.cons (.bin .Add (.tup (.cons (.con (.int 0)) .nil)) (.slc (.var 9) (.con (.int 1)) .hole)) .nil))))) (.cons (.tup (.cons (.con (.str [119,105,115,104])) (.cons (.var 7) (.cons (.var 8) (.cons (.con .non) .nil))))) .nil))))) (.asg 4 (.bin .Add (.var 4) (.lst (.cons (.tup (.cons (.con (.str [119,105,115,104])) (.cons (.var 7) (.cons (.var 8) (.cons (.blt .list (.cons (.var 9) .nil)) .nil))))) (.cons (.tup (.cons (.con (.str [119,105,115,104])) (.cons (.var 7) (.cons (.var 8) (.cons (.bin .Add (.var 9) (.tup (.cons (.con .non) .nil))) .nil))))) (.cons (.tup (.cons (.con (.str [119,105,115,104])) (.cons (.lst (.cons (.var 7) .nil)) (.cons (.var 8) (.cons (.var 9) .nil))))) .nil))))) (.asg 4 (.bin .Add (.var 4) (.lst (.cons (.tup (.cons (.con (.str [119,105,115,104])) (.cons (.var 7) (.cons (.var 8) (.cons (.tup (.cons (.con (.bl false)) (.cons (.tup (.cons (.tup .nil) (.cons (.tup .nil) .nil))) .nil))) .nil))))) (.cons (.tup (.cons (.con (.str [119,105,115,104])) (.cons (.blt .str (.cons (.var 7) .nil)) (.cons (.var 8) (.cons (.var 9) .nil))))) (.cons (.tup (.cons (.con (.str [119,105,115,104])) (.cons (.var 8) (.cons (.var 7) .nil)))) .nil))))) (.asg 4 (.bin .Add (.var 4) (.lst (.cons (.tup (.cons (.con (.str [119,105,115,104])) (.cons (.cmp .Eq (.var 7) (.con (.int 1))) (.cons (.var 8) (.cons (.var 9) .nil))))) (.cons (.tup (.cons (.con (.str [119,105,115,104])) (.cons (.var 7) (.cons (.cmp .Eq (.var 8) (.con (.int 1))) (.cons (.var 9) .nil))))) .nil)))) .done))))))) .done (.ret (.call 24 (.cons (.var 0) (.cons (.var 4) .nil))) .done)))))
def Q6:S:=(.asg 8 (.or (.cmp .Eq (.var 6) (.var 7)) (.call 30 (.cons (.ix (.ix (.ix (.var 1) (.var 6)) (.con (.int 0))) (.con (.int 2))) (.cons (.ix (.ix (.ix (.var 1) (.var 7)) (.con (.int 0))) (.con (.int 1))) .nil)))) (.asg 9 (.call 33 (.cons (.var 0) (.cons (.ix (.ix (.ix (.var 1) (.var 6)) (.con (.int 0))) (.con (.int 2))) (.cons (.ix (.ix (.ix (.var 1) (.var 7)) (.con (.int 0))) (.con (.int 1))) .nil)))) (.ife (.and (.var 8) (.cmp .IsNot (.call 35 (.cons (.var 1) (.cons (.tup (.cons (.con (.str [119,105,115,104])) (.cons (.var 6) (.cons (.var 7) (.cons (.tup (.cons (.con (.bl false)) (.cons (.con .non) .nil))) .nil))))) .nil))) (.con (.bl false)))) (.ret (.con (.bl false)) .done) .done (.ife (.and (.var 8) (.cmp .IsNot (.call 35 (.cons (.var 1) (.cons (.tup (.cons (.con (.str [119,105,115,104])) (.cons (.var 6) (.cons (.var 7) (.cons (.var 9) .nil))))) .nil))) (.con (.bl false)))) (.ret (.con (.bl false)) .done) .done .done))))
def XC:S:=(.forr (.nm 7) (.blt .range1 (.cons (.blt .len (.cons (.var 1) .nil)) .nil)) Q6 .done)
def Q5:S:=(.asg 5 (.call 35 (.cons (.var 1) (.cons (.var 4) .nil))) (.ife (.or (.cmp .Is (.var 5) (.con .non)) (.cmp .NotEq (.var 5) (.cmp .In (.var 4) (.var 2)))) (.ret (.con (.bl false)) .done) .done .done))
def Jv:E:=(.emit (.tup (.cons (.con (.str [108,101,97,115,116])) (.cons (.var 0) .nil))))
def XF:E:=(.comp 1 [] (.blt .range1 (.cons (.blt .len (.cons (.var 1) .nil)) .nil)) (.nm 0) .nil Jv)
def QF:S:=(.asg 3 (.bin .Add (.lst (.cons (.tup (.cons (.con (.str [107,105,110,100])) .nil)) (.cons (.tup (.cons (.con (.str [110,97,109,101])) .nil)) .nil))) XF) (.forr (.nm 4) (.var 3) Q5 (.forr (.nm 6) (.blt .range1 (.cons (.blt .len (.cons (.var 1) .nil)) .nil)) XC (.ret (.con (.bl true)) .done))))
def Zdq:S:=(.ife (.cmp .IsNot (.call 35 (.cons (.var 3) (.cons (.var 6) .nil))) (.con (.bl true))) (.ret (.con (.bl false)) .done) .done (.ife (.cmp .IsNot (.call 35 (.cons (.var 3) (.cons (.call 37 (.cons (.var 2) (.cons (.var 3) (.cons (.var 6) .nil)))) .nil))) (.con (.bl false))) (.ret (.con (.bl false)) .done) .done .done))
def Zdp:S:=(.asg 2 (.call 22 (.cons (.var 1) .nil)) (.asg 3 (.call 32 (.cons (.var 2) .nil)) (.asg 4 (.blt .list (.cons (.var 3) .nil)) (.asg 5 (.call 34 (.cons (.var 2) (.cons (.var 3) .nil))) (.forr (.nm 6) (.var 5) Zdq (.asg 7 (.lst (.cons (.con .non) (.cons (.tup .nil) (.cons (.con (.str [107,105,110,100])) (.cons (.lst (.cons (.con (.str [107,105,110,100])) .nil)) (.cons (.tup (.cons (.con (.str [107,105,110,100,115])) .nil)) (.cons (.tup (.cons (.con (.str [107,105,110,100])) (.cons (.con (.int 0)) .nil))) (.cons (.tup (.cons (.con (.str [108,101,97,115,116])) .nil)) (.cons (.con (.int 7)) (.cons (.con (.bl true)) (.cons (.dsp .nil .nil) (.cons (.tup (.cons (.con (.str [119,105,115,104])) .nil)) (.cons (.tup (.cons (.con (.int 0)) .nil)) .nil))))))))))))) (.asg 7 (.bin .Add (.var 7) (.lst (.cons (.call 36 (.cons (.con (.int 2000)) .nil)) (.cons (.tup (.cons (.con (.str [119,105,115,104])) (.cons (.con (.int 0)) (.cons (.con (.int 1)) (.cons (.call 36 (.cons (.con (.int 2000)) .nil)) .nil))))) (.cons (.tup (.cons (.con (.str [108,101,97,115,116])) (.cons (.call 36 (.cons (.con (.int 2000)) .nil)) .nil))) .nil))))) (.asg 7 (.call 24 (.cons (.var 2) (.cons (.var 7) .nil))) (.ife (.or (.cmp .IsNot (.call 35 (.cons (.var 3) (.cons (.var 7) .nil))) (.con (.bl false))) (.or (.not (.call 38 (.cons (.var 2) (.cons (.var 3) (.cons (.var 5) .nil))))) (.cmp .NotEq (.var 3) (.var 4)))) (.ret (.con (.bl false)) .done) .done (.ife (.cmp .NotEq (.cmp .Eq (.var 5) (.lst .nil)) (.cmp .Gt (.call 31 (.cons (.var 3) .nil)) (.con (.int 0)))) (.ret (.con (.bl false)) .done) .done .done))))))))))
def ZfA:S:=(.forr (.nm 1) (.bin .Add (.lst (.cons (.call 21 (.cons (.var 0) (.cons (.con (.int 0)) .nil))) .nil)) (.slc (.var 0) (.con (.int 1)) (.con (.int 8)))) Zdp (.ret (.con (.bl true)) .done))
def fns:List Fn:=[⟨1,1,JH,false⟩,⟨2,2,JK,false⟩,⟨2,4,Xe,false⟩,⟨2,2,Jl,false⟩,⟨2,3,Zai,false⟩,⟨2,3,Jk,false⟩,⟨3,5,QS,false⟩,⟨4,6,Z0,false⟩,⟨3,3,Qm,false⟩,⟨3,3,Q8,false⟩,⟨1,1,XX,false⟩,⟨1,1,X3,false⟩,⟨2,2,XS,false⟩,⟨2,2,X4,false⟩,⟨1,1,Js,false⟩,⟨1,1,Ql,false⟩,⟨1,1,Qq,false⟩,⟨3,3,QB,false⟩,⟨2,4,Qa,false⟩,⟨4,5,Qp,false⟩,⟨2,3,Qk,false⟩,⟨2,2,JL,false⟩,⟨1,1,Zbk,true⟩,⟨2,4,Zbo,false⟩,⟨2,2,Zbl,false⟩,⟨1,2,Zbn,false⟩,⟨1,1,Xf,false⟩,⟨3,5,Zbp,false⟩,⟨2,4,X5,false⟩,⟨5,9,Za1,false⟩,⟨2,4,J5,false⟩,⟨1,7,Zbm,false⟩,⟨1,9,ZcY,false⟩,⟨3,5,Zaj,false⟩,⟨2,8,ZcZ,false⟩,⟨2,3,Jm,false⟩,⟨1,3,Zab,false⟩,⟨3,10,Jt,false⟩,⟨3,10,QF,false⟩,⟨1,8,ZfA,false⟩]
def gv:List T:=[]
abbrev cf:=Z6 fns gv
abbrev CF (k:Nat) (b:S) (p q:Nat) (c:Bool):Prop:=∀ (n:Nat) (ws:List W) (m:Mem),cf (n + 1) k ws m=if ws.length=p then (ex (cf n) gv b (ws.map some++List.replicate (q - p) none) m).bind fun fl m'=>fin m.length c fl m' else .stuck
theorem Zfs:CF 0 JH 1 1 false:=fun _ _ _=>rfl
theorem Zft:CF 1 JK 2 2 false:=fun _ _ _=>rfl
theorem Zhb:CF 2 Xe 2 4 false:=fun _ _ _=>rfl
theorem ZeB:CF 3 Jl 2 2 false:=fun _ _ _=>rfl
theorem Zfr:CF 4 Zai 2 3 false:=fun _ _ _=>rfl
theorem ZeA:CF 5 Jk 2 3 false:=fun _ _ _=>rfl
theorem Zdy:CF 6 QS 3 5 false:=fun _ _ _=>rfl
theorem Zey:CF 7 Z0 4 6 false:=fun _ _ _=>rfl
theorem Zez:CF 8 Qm 3 3 false:=fun _ _ _=>rfl
theorem ZdB:CF 9 Q8 3 3 false:=fun _ _ _=>rfl
theorem Zhc:CF 10 XX 1 1 false:=fun _ _ _=>rfl
theorem Zhd:CF 11 X3 1 1 false:=fun _ _ _=>rfl
theorem Zha:CF 12 XS 2 2 false:=fun _ _ _=>rfl
theorem Zhe:CF 13 X4 2 2 false:=fun _ _ _=>rfl
theorem ZdA:CF 14 Js 1 1 false:=fun _ _ _=>rfl
theorem Zau:CF 15 Ql 1 1 false:=fun _ _ _=>rfl
theorem ZaX:CF 16 Qq 1 1 false:=fun _ _ _=>rfl
theorem Zbi:CF 17 QB 3 3 false:=fun _ _ _=>rfl
theorem ZaW:CF 18 Qa 2 4 false:=fun _ _ _=>rfl
theorem XD:CF 19 Qp 4 5 false:=fun _ _ _=>rfl
theorem Zdz:CF 20 Qk 2 3 false:=fun _ _ _=>rfl
theorem Zfu:CF 21 JL 2 2 false:=fun _ _ _=>rfl
theorem Zla:CF 22 Zbk 1 1 true:=fun _ _ _=>rfl
theorem Zle:CF 23 Zbo 2 4 false:=fun _ _ _=>rfl
theorem Zlb:CF 24 Zbl 2 2 false:=fun _ _ _=>rfl
theorem Zld:CF 25 Zbn 1 2 false:=fun _ _ _=>rfl
theorem Zhg:CF 26 Xf 1 1 false:=fun _ _ _=>rfl
theorem Zlf:CF 27 Zbp 3 5 false:=fun _ _ _=>rfl
theorem Zf7:CF 28 X5 2 4 false:=fun _ _ _=>rfl
theorem Zi4:CF 29 Za1 5 9 false:=fun _ _ _=>rfl
theorem ZdC:CF 30 J5 2 4 false:=fun _ _ _=>rfl
theorem Zlc:CF 31 Zbm 1 7 false:=fun _ _ _=>rfl
theorem Znm:CF 32 ZcY 1 9 false:=fun _ _ _=>rfl
theorem Zfv:CF 33 Zaj 3 5 false:=fun _ _ _=>rfl
theorem Znn:CF 34 ZcZ 2 8 false:=fun _ _ _=>rfl
theorem ZeC:CF 35 Jm 2 3 false:=fun _ _ _=>rfl
theorem Zi3:CF 36 Zab 1 3 false:=fun _ _ _=>rfl
theorem Zhf:CF 37 Jt 3 10 false:=fun _ _ _=>rfl
theorem Zck:CF 38 QF 3 10 false:=fun _ _ _=>rfl
theorem cf_law:CF 39 ZfA 1 8 false:=fun _ _ _=>rfl
end My
end
noncomputable section
set_option maxRecDepth 20000
namespace My
open Mi
def IsSt (s:List T):Prop:=∃ a b c:Int,s=[.int a,.int b,.int c]
def put (m:Mem) (i:Nat) (s:List T):Mem:=m.set i (some (false,s))
theorem Zly {m:Mem} {i:Nat} {s:List T} (h:i < m.length):(put m i s)[i]? = some (some (false,s)):=List.getElem?_set_self h
theorem Z4 {m:Mem} {i:Nat} {s:List T}:(put m i s).length=m.length:=List.length_set
theorem ZhJ {m:Mem} {i:Nat} {s s':List T}:(put m i s).set i (some (false,s'))=put m i s':=List.set_set _
theorem mulL {i j:Int} (h:0≤i) (h':i < 4294967296):Zbd i j=true:=by
  have:i.natAbs < 2 ^ 64:=by omega
  simp [Zbd,small,this]
theorem mulR {i j:Int} (h:0≤j) (h':j < 4294967296):Zbd i j=true:=by
  have:j.natAbs < 2 ^ 64:=by omega
  simp [Zbd,small,this]
section
variable {call:Nat→List W→Mem→Res W} {gv:List T} {env:Env} {m m1 m2 m3:Mem} {a b c e o v i:E} {x y z r:T} {w w1 w2:W} {f:Nat} {bb:B} {k:Bool}
theorem Zt {op:PySem.Operator} (h1:ev call gv a env m = .ok (.t x) m1) (h2:ev call gv b env m1 = .ok (.t y) m2) (h3:binT op x y=some r):ev call gv (.bin op a b) env m = .ok (.t r) m2:=by
  rw [ev,h1,Zw,h2,Zw]
  show pur (binT op x y) m2=_
  rw [h3]; rfl
theorem Zh {op:PySem.CmpOp} (h1:ev call gv a env m = .ok (.t x) m1) (h2:ev call gv b env m1 = .ok (.t y) m2) (h3:cmpT op x y=some k):ev call gv (.cmp op a b) env m = .ok (.t (.bl k)) m2:=by
  rw [ev,h1,Zw,h2,Zw]
  show pur ((cmpT op x y).map .bl) m2=_
  rw [h3]; rfl
theorem Zb (t:T):ev call gv (.con t) env m = .ok (.t t) m:=by rw [ev]
theorem Za {i:Nat} {w:W} (h:env[i]? = some (some w)):ev call gv (.var i) env m = .ok w m:=by rw [ev,h]
theorem ZcR {c j:Nat} {k:Int} {xs:List T} (h:env[c]? = some (some (.c j))) (hm:m[j]? = some (some (false,xs))) (hx:atT xs k=some r):ev call gv (.ix (.var c) (.con (.int k))) env m = .ok (.t r) m:=by
  rw [ev,Za h,Zw,Zb,Zw]
  simp only [view,hm,Option.bind_some,ixT,hx]
  rfl
theorem Zk (h1:ev call gv a env m = .ok (.t x) m1) (h2:ev call gv b env m1 = .ok (.t y) m2) (h3:ixT x y=some r):ev call gv (.ix a b) env m = .ok (.t r) m2:=by
  rw [ev,h1,Zw,h2,Zw]
  show pur (ixT x y) m2=_
  rw [h3]; rfl
theorem Zr (h:ev call gv e env m = .ok (.t x) m1) (hb:bltT bb [x]=some r):ev call gv (.blt bb (.cons e .nil)) env m = .ok (.t r) m1:=by
  rw [ev,evs,h]
  show pur (bltT bb [x]) m1=_
  rw [hb]; rfl
theorem QK (h:ev call gv e env m = .ok w m1):ev call gv (.call f (.cons e .nil)) env m=call f [w] m1:=by
  rw [ev,evs,h]
  rfl
theorem Zy (h1:ev call gv a env m = .ok w m1) (h2:ev call gv b env m1 = .ok w1 m2):ev call gv (.call f (.cons a (.cons b .nil))) env m=call f [w,w1] m2:=by
  simp only [ev,evs,h1,h2,Zw]
theorem Z2 (h1:ev call gv a env m = .ok w m1) (h2:ev call gv b env m1 = .ok w1 m2) (h3:ev call gv c env m2 = .ok w2 m3):ev call gv (.call f (.cons a (.cons b (.cons c .nil)))) env m=call f [w,w1,w2] m3:=by
  simp only [ev,evs,h1,h2,h3,Zw]
theorem Zce (h1:ev call gv a env m = .ok (.t x) m1):ev call gv (.tup (.cons a .nil)) env m = .ok (.t (.tup [x])) m1:=by
  simp only [ev,evs,h1,Zw,Zeo,Zen]
  exact if_pos (by simp [lim])
theorem Q3 (h1:ev call gv a env m = .ok (.t x) m1) (h2:ev call gv b env m1 = .ok (.t y) m2):ev call gv (.tup (.cons a (.cons b .nil))) env m = .ok (.t (.tup [x,y])) m2:=by
  simp only [ev,evs,h1,h2,Zw,Zeo,Zen]
  exact if_pos (by simp [lim])
theorem ZiO (h1:ev call gv a env m = .ok (.t x) m1) (h2:ev call gv b env m1 = .ok (.t y) m2):ev call gv (.lst (.cons a (.cons b .nil))) env m = .ok (.t (.lst [x,y])) m2:=by
  simp only [ev,evs,h1,h2,Zw,Zeo,Zen]
  exact if_pos (by simp [lim])
theorem Jw (h:ev call gv a env m = .ok (.t (.bl true)) m1):ev call gv (.and a b) env m=ev call gv b env m1:=by rw [ev,h]; rfl
theorem Jx (h:ev call gv a env m = .ok (.t (.bl false)) m1):ev call gv (.and a b) env m = .ok (.t (.bl false)) m1:=by rw [ev,h]; rfl
theorem ZX (h:ev call gv a env m = .ok (.t (.bl k)) m1):ev call gv (.not a) env m = .ok (.t (.bl (!k))) m1:=by rw [ev,h]; rfl
theorem ZaS (h:ev call gv a env m = .ok (.t (.bl true)) m1):ev call gv (.or a b) env m = .ok (.t (.bl true)) m1:=by rw [ev,h]; rfl
theorem QR (h:ev call gv a env m = .ok (.t (.bl false)) m1):ev call gv (.or a b) env m=ev call gv b env m1:=by rw [ev,h]; rfl
theorem QJ {ty:Ty} (h:ev call gv a env m = .ok (.t x) m1) (hk:isT x ty=k):ev call gv (.isi a ty) env m = .ok (.t (.bl k)) m1:=by rw [ev,h,← hk]; rfl
end
section
variable {call:Nat→List W→Mem→Res W} {gv:List T} {env:Env} {m m1 m2 m3:Mem} {a lo hi:E} {es:Es} {x y z r:T} {w:W} {ws:List W} {ts:List T} {f:Nat} {bb:B}
theorem Zg {ts:List T} (h:ts.length≤1000:=by exact Nat.le_of_ble_eq_true rfl):ts.length≤lim:=Nat.le_trans h (by decide)
theorem Zi:evs call gv .nil env m = .ok [] m:=by rw [evs]
theorem Zd (h1:ev call gv a env m = .ok w m1) (h2:evs call gv es env m1 = .ok ws m2):evs call gv (.cons a es) env m = .ok (w :: ws) m2:=by rw [evs,h1,Zw,h2]; rfl
theorem Qd (h:evs call gv es env m = .ok ws m1) (h2:frzs ws m1 = .ok ts m1) (hl:ts.length≤lim):ev call gv (.lst es) env m = .ok (.t (.lst ts)) m1:=by rw [ev,h,Zw,h2,Zw,if_pos hl]
theorem Zx (h:evs call gv es env m = .ok ws m1) (h2:frzs ws m1 = .ok ts m1) (hl:ts.length≤lim):ev call gv (.tup es) env m = .ok (.t (.tup ts)) m1:=by rw [ev,h,Zw,h2,Zw,if_pos hl]
theorem ZL (h:evs call gv es env m = .ok ws m1):ev call gv (.call f es) env m=call f ws m1:=by rw [ev,h]; rfl
theorem ZaT (h:evs call gv es env m = .ok ws m1) (h2:views ws m1=some ts) (h3:bltT bb ts=some r):ev call gv (.blt bb es) env m = .ok (.t r) m1:=by
  rw [ev,h,Zw,h2]
  show pur (bltT bb ts) m1=_
  rw [h3]; rfl
theorem Zcf {k:Int} (h1:ev call gv a env m = .ok (.t x) m1) (h2:ev call gv hi env m1 = .ok (.t (.int k)) m2) (h3:slT x none (some k)=some r) (hh:ZS hi=false:=by rfl):ev call gv (.slc a .hole hi) env m = .ok (.t r) m2:=by
  rw [ev,h1,Zw,show ZS .hole=true from rfl,if_pos rfl,Zw,hh,if_neg Bool.false_ne_true,h2]
  show pur (slT x none (some k)) m2=_
  rw [h3]; rfl
theorem J4 {k:Int} (h1:ev call gv a env m = .ok (.t x) m1) (h2:ev call gv lo env m1 = .ok (.t (.int k)) m2) (h3:slT x (some k) none=some r) (hh:ZS lo=false:=by rfl):ev call gv (.slc a lo .hole) env m = .ok (.t r) m2:=by
  rw [ev,h1,Zw,hh,if_neg Bool.false_ne_true,h2]
  show pur (slT x (some k) none) m2=_
  rw [h3]; rfl
end
section
variable {call:Nat→List W→Mem→Res W} {gv:List T} {env env':Env} {m m1 m2:Mem} {k a b:S} {e:E} {w:W}
theorem Zet (h:ev call gv e env m = .ok (.t (.bl true)) m1) (h2:ex call gv a env m1 = .ok (.next env') m2):ex call gv (.ife e a b k) env m=ex call gv k env' m2:=by
  rw [ex,h]
  show (ex call gv a env m1).bind _=_
  rw [h2]; rfl
theorem Zdv (h:ev call gv e env m = .ok w m1):ex call gv (.expr e k) env m=ex call gv k env m1:=by rw [ex,h]; rfl
end
section
variable {call:Nat→List W→Mem→Res W} {gv:List T} {env:Env} {m m1 m2:Mem} {a c inner:E} {x:T} {xs:List T}
theorem JQ (h:ev call gv a env m = .ok (.t x) m1):ev call gv (.emit a) env m = .ok (.t (.lst [x])) m1:=by rw [ev,h]; rfl
theorem ZfF (h:ev call gv c env m = .ok (.t (.bl true)) m1) (h2:ev call gv inner env m1 = .ok (.t (.lst xs)) m2):Jh call gv (.cons c .nil) inner env m = .ok xs m2:=by
  unfold Jh
  rw [tests,h,Zw,Zc3,Zw,if_pos rfl,tests,Zw,if_pos rfl,h2]
  rfl
theorem ZfG (h:ev call gv c env m = .ok (.t (.bl false)) m1):Jh call gv (.cons c .nil) inner env m = .ok [] m1:=by
  unfold Jh
  rw [tests,h,Zw,Zc3,Zw,if_neg (by decide),Zw,if_neg (by decide)]
theorem ZeU (h2:ev call gv inner env m = .ok (.t (.lst xs)) m2):Jh call gv .nil inner env m = .ok xs m2:=by
  unfold Jh
  rw [tests,Zw,if_pos rfl,h2]
  rfl
end
theorem at0 {α:Type} (a:α) (r:List α):atT (a :: r) 0=some a:=by simp [atT,ixOf]
theorem Zgd {α:Type} {xs:List α} {i:Int} (h0:0≤i) (h1:i < xs.length):atT xs i=xs[i.toNat]?:=by
  unfold atT ixOf
  rw [if_pos h0,if_pos h1]
  rfl
theorem Zat {α β:Type} (f:α→β) (xs:List α):xs.flatMap (fun x=>[f x])=xs.map f:=by
  induction xs with
  | nil=>rfl
  | cons x xs ih=>simp [ih]
def JP (p:List Nat×Int):T:=.tup [.str p.1,.int p.2]
def Z3 (nm kd:List Nat) (mk:List (List Nat)) (sz:List (List Nat×Int)):T:=.tup [.str nm,.str kd,.tup (mk.map .str),.tup (sz.map JP)]
theorem card0 (nm kd mk sz):ixT (Z3 nm kd mk sz) (.int 0)=some (.str nm):=rfl
theorem card2 (nm kd mk sz):ixT (Z3 nm kd mk sz) (.int 2)=some (.tup (mk.map .str)):=rfl
theorem card3 (nm kd mk sz):ixT (Z3 nm kd mk sz) (.int 3)=some (.tup (sz.map JP)):=rfl
theorem in_words (w:List Nat) (mk:List (List Nat)):cmpT .In (.str w) (.tup (mk.map .str))=some (mk.any fun a=>a == w):=by
  have h1:hasT (.str w) (.tup (mk.map .str))=some (mk.any fun a=>a == w):=by
    have ha:(mk.map T.str).all flat=true:=by simp [flat]
    have hb:((mk.map T.str).any fun t=>eqT t (.str w))=mk.any fun a=>a == w:=by
      induction mk with
      | nil=>rfl
      | cons a mk ih=>simp only [List.map_cons,List.any_cons,eqT]; rw [ih (by simp [flat])]
    unfold hasT
    dsimp only
    rw [ha,hb]
    rfl
  rw [← h1]
  rcases w with _ | ⟨c,_ | ⟨d,r⟩⟩ <;> rfl
theorem Zfl {n:Nat} {m:Mem} {nm kd w:List Nat} {mk sz}:cf (n + 1) 1 [.t (Z3 nm kd mk sz),.t (.str w)] m = .ok (.t (.bl (mk.any fun a=>a == w))) m:=by
  have key:ex (cf n) gv JK [some (.t (Z3 nm kd mk sz)),some (.t (.str w))] m = .ok (.ret (.t (.bl (mk.any fun a=>a == w)))) m:=by
    unfold JK
    exact Zf (Zh (Za rfl) (Zk (Za rfl) (Zb _) (card2 _ _ _ _)) (in_words w mk))
  rw [Zft]
  simp [key,Zw,Zu]
def Za2:List (List Nat×Int)→List Nat→Option Int
  | [],_=>none
  | p :: r,w=>if p.1 == w then some p.2 else Za2 r w
def optT:Option Int→T
  | some v=>.int v
  | none=>.non
theorem ZdS {n:Nat} {m:Mem} {c:Option W} {w:List Nat}:∀ (sz:List (List Nat×Int)) (a b:Option W),match Za2 sz w with
    | some v=>Qz (ex (cf n) gv Z8) (.tp [2,3]) (sz.map JP) [c,some (.t (.str w)),a,b] m = .ok (.ret (.t (.int v))) m
    | none=>∃ a' b',Qz (ex (cf n) gv Z8) (.tp [2,3]) (sz.map JP) [c,some (.t (.str w)),a,b] m = .ok (.next [c,some (.t (.str w)),a',b']) m
  | [],a,b=>⟨a,b,rfl⟩
  | p :: sz,a,b=>by
    have hb:Jr (.tp [2,3]) (JP p) [c,some (.t (.str w)),a,b]=some [c,some (.t (.str w)),some (.t (.str p.1)),some (.t (.int p.2))]:=rfl
    have hc:ev (cf n) gv (.cmp .Eq (.var 2) (.var 1)) [c,some (.t (.str w)),some (.t (.str p.1)),some (.t (.int p.2))] m = .ok (.t (.bl (p.1 == w))) m:=Zh (Za rfl) (Za rfl) (Zcm _ _)
    rw [List.map_cons,Za2]
    cases hw:(p.1 == w) with
    | true =>
      rw [hw] at hc
      show Qz _ _ (JP p :: _) _ _=_
      rw [Qz,hb]
      have:ex (cf n) gv Z8 [c,some (.t (.str w)),some (.t (.str p.1)),some (.t (.int p.2))] m = .ok (.ret (.t (.int p.2))) m:=ZP hc (Zf (Za rfl))
      show (ex (cf n) gv Z8 [c,some (.t (.str w)),some (.t (.str p.1)),some (.t (.int p.2))] m).bind _=_
      rw [this]
      rfl
    | false =>
      rw [hw] at hc
      have step:Qz (ex (cf n) gv Z8) (.tp [2,3]) (JP p :: sz.map JP) [c,some (.t (.str w)),a,b] m=Qz (ex (cf n) gv Z8) (.tp [2,3]) (sz.map JP) [c,some (.t (.str w)),some (.t (.str p.1)),some (.t (.int p.2))] m:=by
        rw [Qz,hb]
        have:ex (cf n) gv Z8 [c,some (.t (.str w)),some (.t (.str p.1)),some (.t (.int p.2))] m = .ok (.next [c,some (.t (.str w)),some (.t (.str p.1)),some (.t (.int p.2))]) m:=by
          unfold Z8
          rw [Zq hc,ex]
        show (ex (cf n) gv Z8 [c,some (.t (.str w)),some (.t (.str p.1)),some (.t (.int p.2))] m).bind _=_
        rw [this]
        rfl
      rw [step]
      exact ZdS sz _ _
theorem Zgn {n:Nat} {m:Mem} {nm kd w:List Nat} {mk sz}:cf (n + 1) 2 [.t (Z3 nm kd mk sz),.t (.str w)] m = .ok (.t (optT (Za2 sz w))) m:=by
  have key:ex (cf n) gv Xe [some (.t (Z3 nm kd mk sz)),some (.t (.str w)),none,none] m = .ok (.ret (.t (optT (Za2 sz w)))) m:=by
    unfold Xe
    have h:=ZdS (n:=n) (m:=m) (c:=some (.t (Z3 nm kd mk sz))) (w:=w) sz none none
    have hit:ev (cf n) gv (.ix (.var 0) (.con (.int 3))) [some (.t (Z3 nm kd mk sz)),some (.t (.str w)),none,none] m = .ok (.t (.tup (sz.map JP))) m:=Zk (Za rfl) (Zb _) (card3 _ _ _ _)
    cases q:Za2 sz w with
    | none =>
      rw [q] at h
      obtain ⟨a',b',h⟩:=h
      rw [Jg hit rfl h]
      exact Zf (Zb _)
    | some v =>
      rw [q] at h
      have h:Qz (ex (cf n) gv Z8) (.tp [2,3]) (sz.map JP) [some (.t (Z3 nm kd mk sz)),some (.t (.str w)),none,none] m = .ok (.ret (.t (.int v))) m:=h
      rw [ex,hit]
      show (Qz (ex (cf n) gv Z8) (.tp [2,3]) (sz.map JP) [some (.t (Z3 nm kd mk sz)),some (.t (.str w)),none,none] m).bind _=_
      rw [h]
      rfl
  rw [Zhb]
  simp [key,Zw,Zu]
inductive Lf:T→Prop where
  | any:Lf (.tup [.str [97,110,121]])
  | is (w:List Nat):Lf (.tup [.str [105,115],.str w])
  | by (w:List Nat):Lf (.tup [.str [98,121],.str w])
  | least (w:List Nat) (v:Int):Lf (.tup [.str [108,101,97,115,116],.str w,.int v])
  | most (w:List Nat) (v:Int):Lf (.tup [.str [109,111,115,116],.str w,.int v])
inductive DW:Nat→T→Prop where
  | leaf {d:Nat} {t:T}:Lf t→DW d t
  | nt {d:Nat} {a:T}:DW d a→DW (d + 1) (.tup [.str [110,111,116],a])
  | jn {d:Nat} {b:Bool} {ts:List T}:ts.length≤6→(∀ t∈ts,DW d t)→DW (d + 1) (.tup [.str (if b then [97,110,100] else [111,114]),.tup ts])
def Zac (nm:List Nat) (mk:List (List Nat)) (sz:List (List Nat×Int)):T→Bool
  | .tup [.str _]=>true
  | .tup [.str a,.str w]=>if a == [105,115] then mk.any fun a=>a == w else nm == w
  | .tup [.str a,.str w,.int v]=>match Za2 sz w with
    | none=>false
    | some u=>if a == [108,101,97,115,116] then decide (v≤u) else decide (u≤v)
  | _=>false
theorem optN:∀ o,cmpT .Is (optT o) .non=some (o.isNone)
  | none=>rfl
  | some _=>rfl
theorem Zbz {n:Nat} {m:Mem} {nm kd a w:List Nat} {mk sz} {v:Int}:cf (n + 2) 5 [.t (.tup [.str a,.str w,.int v]),.t (Z3 nm kd mk sz)] m = .ok (.t (.bl (Zac nm mk sz (.tup [.str a,.str w,.int v])))) m:=by
  have key:ex (cf (n + 1)) gv Jk [some (.t (.tup [.str a,.str w,.int v])),some (.t (Z3 nm kd mk sz)),none] m = .ok (.ret (.t (.bl (Zac nm mk sz (.tup [.str a,.str w,.int v]))))) m:=by
    unfold Jk
    rw [Zn ((Zy (Za rfl) (Zk (Za rfl) (Zb _) rfl)).trans (Zgn (n:=n)))]
    simp only [List.set_cons_succ,List.set_cons_zero]
    have hn:ev (cf (n + 1)) gv (.cmp .Is (.var 2) (.con .non)) [some (.t (.tup [.str a,.str w,.int v])),some (.t (Z3 nm kd mk sz)),some (.t (optT (Za2 sz w)))] m = .ok (.t (.bl (Za2 sz w).isNone)) m:=Zh (Za rfl) (Zb _) (optN _)
    cases q:Za2 sz w with
    | none =>
      rw [q] at hn
      rw [ZP hn (Zf (Zb _))]
      simp [Zac,q]
    | some u =>
      rw [q] at hn
      rw [Zq hn]
      have hl:ev (cf (n + 1)) gv (.cmp .Eq (.ix (.var 0) (.con (.int 0))) (.con (.str [108,101,97,115,116]))) [some (.t (.tup [.str a,.str w,.int v])),some (.t (Z3 nm kd mk sz)),some (.t (optT (some u)))] m = .ok (.t (.bl (a == [108,101,97,115,116]))) m:=Zh (Zk (Za rfl) (Zb _) rfl) (Zb _) (Zcm _ _)
      cases ha:(a == [108,101,97,115,116]) with
      | true =>
        rw [ha] at hl
        rw [ZP hl (Zf (Zh (k:=decide (v≤u)) (Za rfl) (Zk (Za rfl) (Zb _) rfl) (c_ge u v)))]
        simp [Zac,q,ha]
      | false =>
        rw [ha] at hl
        rw [Zq hl]
        rw [Zf (Zh (k:=decide (u≤v)) (Za rfl) (Zk (Za rfl) (Zb _) rfl) (c_le u v))]
        simp [Zac,q,ha]
  rw [ZeA]
  simp [key,Zw,Zu]
theorem ZZ {n:Nat} {m:Mem} {i:Nat} {s:List T} {many:Int} (hi:i < m.length) (hs:IsSt s) (h1:0 < many) (h2:many < 1073741824) :
    ∃ r s',cf (n + 1) 23 [.c i,.t (.int many)] (put m i s) = .ok (.t (.int r)) (put m i s')∧IsSt s'∧0≤r∧r < many:=by
  obtain ⟨a,b,c,rfl⟩:=hs
  have key:∃ r s',ex (cf n) gv Zbo [some (.c i),some (.t (.int many)),none,none] (put m i [.int a,.int b,.int c]) = .ok (.ret (.t (.int r))) (put m i s')∧IsSt s'∧0≤r∧r < many:=by
    have h:=Zly (s:=[.int a,.int b,.int c]) hi
    unfold Zbo
    have hg:ev (cf n) gv (.cmp .Gt (.ix (.var 0) (.con (.int 0))) (.con (.int 0))) [some (.c i),some (.t (.int many)),none,none] (put m i [.int a,.int b,.int c]) = .ok (.t (.bl (decide (0 < a)))) (put m i [.int a,.int b,.int c]):=by
      rw [ev,ZcR rfl h rfl,Zw,Zb,Zw]
      rfl
    by_cases ha:0 < a
    · rw [decide_eq_true ha] at hg
      refine ⟨a % many,[.int (a / many),.int b,.int c],ZP hg ?_,⟨_,_,_,rfl⟩,Int.emod_nonneg _ (by omega),Int.emod_lt_of_pos _ h1⟩
      rw [Zn (Zt (ZcR rfl h rfl) (Za rfl) (Zfz h1))]
      rw [ZiN (Zt (ZcR rfl h rfl) (Za rfl) (Zlq ⟨h1,h2⟩)) (Za rfl) (Zb _) h rfl]
      rw [ZhJ]
      exact Zf (Za rfl)
    · rw [decide_eq_false ha] at hg
      rw [Zq hg]
      have h4:Zbd 7919 (c + 1)=true:=mulL (by decide) (by decide)
      have h5:∀ x,Zbd x 48271=true:=fun x=>mulR (by decide) (by decide)
      have h6:∀ x y,Zbd (x % 2147483647) y=true:=fun x y=>mulL (Int.emod_nonneg _ (by decide)) (by have:=Int.emod_lt_of_pos x (b:=2147483647) (by decide); omega)
      have hp:=Zly (s:=[.int a,.int b,.int (c + 1)]) hi
      obtain ⟨z,hz⟩:∃ z:Int,ex (cf n) gv (.set (.var 0) (.con (.int 2)) (.bin .Add (.ix (.var 0) (.con (.int 2))) (.con (.int 1))) (.asg 3 (.bin .Mod (.bin .Mult (.bin .Add (.bin .Add (.ix (.var 0) (.con (.int 1))) (.bin .Mult (.con (.int 7919)) (.ix (.var 0) (.con (.int 2))))) (.con (.int 1))) (.con (.int 48271))) (.con (.int 2147483647))) (.asg 3 (.bin .Mod (.bin .Mult (.var 3) (.bin .Add (.bin .FloorDiv (.var 3) (.con (.int 1009))) (.con (.int 69621)))) (.con (.int 2147483647))) (.ret (.bin .Mod (.bin .Mod (.bin .Mult (.var 3) (.bin .Add (.bin .FloorDiv (.var 3) (.con (.int 2003))) (.con (.int 40692)))) (.con (.int 2147483399))) (.var 1)) .done)))) [some (.c i),some (.t (.int many)),none,none] (put m i [.int a,.int b,.int c]) = .ok (.ret (.t (.int (z % many)))) (put m i [.int a,.int b,.int (c + 1)]):=by
        refine ⟨(((b + 7919 * (c + 1) + 1) * 48271 % 2147483647) * (((b + 7919 * (c + 1) + 1) * 48271 % 2147483647) / 1009 + 69621) % 2147483647) * ((((b + 7919 * (c + 1) + 1) * 48271 % 2147483647) * (((b + 7919 * (c + 1) + 1) * 48271 % 2147483647) / 1009 + 69621) % 2147483647) / 2003 + 40692) % 2147483399,?_⟩
        rw [ZiN (Zt (ZcR rfl h rfl) (Zb _) (ZfB _ _)) (Za rfl) (Zb _) h rfl]
        show ex (cf n) gv _ _ (put m i [.int a,.int b,.int c] |>.set i (some (false,[.int a,.int b,.int (c + 1)])))=_
        rw [ZhJ]
        rw [Zn (Zt (Zt (Zt (Zt (ZcR rfl hp rfl) (Zt (Zb _) (ZcR rfl hp rfl) (Zhk h4)) (ZfB _ _)) (Zb _) (ZfB _ _)) (Zb _) (Zhk (h5 _))) (Zb _) (Zfz (by decide)))]
        rw [Zn (Zt (Zt (Za rfl) (Zt (Zt (Za rfl) (Zb _) (Zlq (by decide))) (Zb _) (ZfB _ _)) (Zhk (h6 _ _))) (Zb _) (Zfz (by decide)))]
        exact Zf (Zt (Zt (Zt (Za rfl) (Zt (Zt (Za rfl) (Zb _) (Zlq (by decide))) (Zb _) (ZfB _ _)) (Zhk (h6 _ _))) (Zb _) (Zfz (by decide))) (Za rfl) (Zfz h1))
      exact ⟨z % many,_,hz,⟨_,_,_,rfl⟩,Int.emod_nonneg _ (Int.ne_of_gt h1),Int.emod_lt_of_pos _ h1⟩
  obtain ⟨r,s',e,h⟩:=key
  refine ⟨r,s',?_,h⟩
  exact ZK (Zle _ _ _) rfl e (Zu (cell:=false) (by rw [Z4,Z4]))
theorem Zl1 {n:Nat} {m:Mem} {x:Int}:∃ s,cf (n + 1) 22 [.t (.int x)] m = .ok (.c m.length) (put (m++[none]) m.length s)∧IsSt s:=by
  have hb:∀ y:Int,∀ k:Bool,Zbd y (b2i k)=true:=fun y k=>mulR (by cases k <;> decide) (by cases k <;> decide)
  refine ⟨[.int (x * b2i (decide (1000000000000000000≤x))),.int (x % 2147483647),.int 0],?_,⟨_,_,_,rfl⟩⟩
  have key:ex (cf n) gv Zbk [some (.t (.int x))] m = .ok (.ret (.c m.length)) (m++[some (false,[.int (x * b2i (decide (1000000000000000000≤x))),.int (x % 2147483647),.int 0])]):=by
    unfold Zbk
    exact Zf (by simp [ev,evs,isT,ZS,EVs,Znw,Zhk (hb _ _),Zfz,lim])
  rw [Zla]
  simp [key,Zw,fin,put]
theorem Zno {n:Nat} {m:Mem} {ns:List Int}:∃ v:Int,cf (n + 1) 21 [.t (.scr ns),.t (.int 0)] m = .ok (.t (.int v)) m:=by
  have key:∃ v:Int,ex (cf n) gv JL [some (.t (.scr ns)),some (.t (.int 0))] m = .ok (.ret (.t (.int v))) m:=by
    unfold JL
    by_cases h:(0:Int) < ns.length
    · obtain ⟨v,hv,_⟩:=Jy (xs:=ns) (i:=0) (by decide) h
      exact ⟨v,ZP (m1:=m) (by simp [ev,evs,isT,ZS,EVs]; omega) (Zf (by simp [ev,evs,isT,ZS,EVs,hv]))⟩
    · have h':ns=[]:=List.length_eq_zero_iff.mp (by omega)
      subst h'
      refine ⟨0,?_⟩
      rw [Zq (m1:=m) (by simp [ev,evs,isT,ZS,EVs])]
      exact Zf (by simp [ev,evs,isT,ZS,EVs])
  obtain ⟨v,e⟩:=key
  refine ⟨v,?_⟩
  rw [Zfu]
  simp [e,Zw,Zu]
theorem Zfn {call:Nat→List W→Mem→Res W} {gv:List T} {env:Env} {m m1 m2:Mem} {a b:E} {x y r:T} {bb:B} (h1:ev call gv a env m = .ok (.t x) m1) (h2:ev call gv b env m1 = .ok (.t y) m2) (hb:bltT bb [x,y]=some r):ev call gv (.blt bb (.cons a (.cons b .nil))) env m = .ok (.t r) m2:=by
  rw [ev,evs,h1,Zw,evs,h2,Zw,evs,Zw,Zw,Zw]
  show pur (bltT bb [x,y]) m2=_
  rw [hb]
  rfl
def okS (cs:List Nat):Bool:=PySem.PyData.strOk ⟨cs.toArray⟩
def Dk (d:Nat) (w:T):Prop:=∀ k,Zm (k + (2 * d + 1)) w=true
theorem Zdf {n:Nat} {m:Mem} {i:Nat} {s xs:List T} (hi:i < m.length) (hs:IsSt s) (h0:0 < xs.length) (h1:xs.length < 1000) :
    ∃ x s',cf (n + 2) 24 [.c i,.t (.lst xs)] (put m i s) = .ok (.t x) (put m i s')∧IsSt s'∧x∈xs:=by
  obtain ⟨r,s1,g1,hs1,r0,r1⟩:=ZZ (n:=n) (many:=(xs.length:Int)) hi hs (by omega) (by omega)
  obtain ⟨x,hx,hm⟩:=Jy r0 r1
  refine ⟨x,s1,?_,hs1,hm⟩
  have key:ex (cf (n + 1)) gv Zbl [some (.c i),some (.t (.lst xs))] (put m i s) = .ok (.ret (.t x)) (put m i s1):=by
    unfold Zbl
    exact Zf (by simp [ev,evs,isT,ZS,EVs,g1,hx])
  exact ZK (Zlb _ _ _) rfl key (Zu (cell:=false) (by rw [Z4,Z4]))
def names12:List T:=[.str [97],.str [97,98],.str [98],.str [97,110,121,97],.str [105,115,108,97,110,100],.str [97,98,99],.str [122],.str [98,121,98,121,101],.str [111,114,100,101,114],.str [110,111,116,101,115],.str [99],.str [122,122,122,122,122,122,122,122]]
theorem Zil {n:Nat} {m:Mem} {k:Int}:∃ cs,cf (n + 1) 25 [.t (.int k)] m = .ok (.t (.str cs)) m∧okS cs=true:=by
  obtain ⟨w,hw,hm⟩:=Jy (xs:=names12) (i:=k % 12) (by omega) (by simp [names12]; omega)
  have hw':∃ cs:List Nat,w = .str cs∧okS cs=true:=by
    simp only [names12,List.mem_cons,List.not_mem_nil,or_false] at hm
    rcases hm with rfl | rfl | rfl | rfl | rfl | rfl | rfl | rfl | rfl | rfl | rfl | rfl <;> exact ⟨_,rfl,by decide +kernel⟩
  obtain ⟨cs,rfl,hwb⟩:=hw'
  refine ⟨cs,?_,hwb⟩
  have key:ex (cf n) gv Zbn [some (.t (.int k)),none] m = .ok (.ret (.t (.str cs))) m:=by
    unfold Zbn
    rw [Zn (w:=.t (.lst names12)) (m1:=m) (by simp [ev,evs,isT,ZS,EVs,lim,names12])]
    exact Zf (by simp [ev,evs,isT,ZS,EVs,Zfz,hw])
  exact ZK (Zld _ _ _) rfl key (Zu (cell:=false) rfl)
theorem Zeh {n:Nat} {m:Mem} {i:Nat} {s:List T} (hi:i < m.length) (hs:IsSt s):∃ (v:Int) (s':List T),cf (n + 2) 26 [.c i] (put m i s) = .ok (.t (.int v)) (put m i s')∧IsSt s'∧0≤v∧v≤1000000000:=by
  have key:∃ (v:Int) (s':List T),ex (cf (n + 1)) gv Xf [some (.c i)] (put m i s) = .ok (.ret (.t (.int v))) (put m i s')∧IsSt s'∧0≤v∧v≤1000000000:=by
    obtain ⟨r1,s1,h1,hs1,a0,a1⟩:=ZZ (n:=n) (many:=6) hi hs (by decide) (by decide)
    obtain ⟨r2,s2,h2,hs2,b0,b1⟩:=ZZ (n:=n) (many:=6) hi hs1 (by decide) (by decide)
    obtain ⟨r3,s3,h3,hs3,c0,c1⟩:=ZZ (n:=n) (many:=3) hi hs2 (by decide) (by decide)
    obtain ⟨r5,s5,h5,hs5,k0,k1⟩:=ZZ (n:=n) (many:=3) hi hs3 (by decide) (by decide)
    obtain ⟨z,hz,hzm⟩:=Jy (xs:=[T.int r1,.int r2,.int (1000000000 - r3)]) k0 (by simpa using k1)
    have hz':∃ v:Int,z = .int v∧0≤v∧v≤1000000000:=by
      simp only [List.mem_cons,List.not_mem_nil,or_false] at hzm
      rcases hzm with rfl | rfl | rfl <;> exact ⟨_,rfl,by omega,by omega⟩
    obtain ⟨v,rfl,hv⟩:=hz'
    refine ⟨v,s5,?_,hs5,hv⟩
    unfold Xf
    exact Zf (by simp [ev,evs,isT,ZS,EVs,h1,h2,h3,h5,Znw,lim,hz])
  obtain ⟨v,s',e,hs',hl⟩:=key
  refine ⟨v,s',?_,hs',hl⟩
  exact ZK (Zhg _ _ _) rfl e (Zu (cell:=false) (by rw [Z4,Z4]))
theorem turns3 {R:T→List T→Prop} {a b c:T} {xss:List (List T)} (h:Turns R [a,b,c] xss):∃ x y z,xss=[x,y,z]∧R a x∧R b y∧R c z:=by
  cases h with
  | cons r1 h=>cases h with
    | cons r2 h=>cases h with
      | cons r3 h=>cases h; exact ⟨_,_,_,rfl,r1,r2,r3⟩
theorem turns2 {R:T→List T→Prop} {a b:T} {xss:List (List T)} (h:Turns R [a,b] xss):∃ x y,xss=[x,y]∧R a x∧R b y:=by
  cases h with
  | cons r1 h=>cases h with
    | cons r2 h=>cases h; exact ⟨_,_,rfl,r1,r2⟩
theorem Zg1 {n:Nat} {m:Mem} {i:Nat} {s:List T} {e1 e2 e3 e4:Option W} (hi:i < m.length) (hs:IsSt s) :
    ∃ (mk:List (List Nat)) (s':List T),ev (cf (n + 1)) gv Zcr [some (.c i),e1,e2,e3,e4] (put m i s) = .ok (.t (.lst (mk.map .str))) (put m i s')∧IsSt s'∧mk.length≤100∧∀ w∈mk,okS w=true:=by
  obtain ⟨xss,m',h2,⟨s2,rfl,hs2⟩,ht⟩:=Xr (f:=Jh (cf (n + 1)) gv (.cons (.cmp .Eq (.call 23 (.cons (.var 1) (.cons (.con (.int 2)) .nil))) (.con (.int 1))) .nil) ZaQ) (tg:=.nm 0) (env:=[none,some (.c i)]) (P:=fun m'=>∃ s,m' = put m i s∧IsSt s) (R:=fun t xs=>xs=[]∨xs=[t]) [.str [102,114,101,115,104],.str [111,108,100],.str [111,108,100,115]] (put m i s) ⟨s,rfl,hs⟩ (by
    rintro t ht m' ⟨s,rfl,hs⟩
    obtain ⟨q,s3,h3,hs3,hq0,hq1⟩:=ZZ (n:=n) (many:=2) hi hs (by decide) (by decide)
    by_cases hq:q=1
    · exact ⟨[some (.t t),some (.c i)],[t],put m i s3,rfl,by simp [Jh,tests,ZaQ,ev,evs,isT,ZS,EVs,h3,hq],⟨s3,rfl,hs3⟩,.inr rfl⟩
    · exact ⟨[some (.t t),some (.c i)],[],put m i s3,rfl,by simp [Jh,tests,ZaQ,ev,evs,isT,ZS,EVs,h3,hq],⟨s3,rfl,hs3⟩,.inl rfl⟩)
  obtain ⟨x,y,z,rfl,r1,r2,r3⟩:=turns3 ht
  have hx:∃ mk:List (List Nat),[x,y,z].flatten=mk.map T.str∧mk.length≤100∧∀ w∈mk,okS w=true:=by
    have a1:okS [102,114,101,115,104]=true:=by decide +kernel
    have a2:okS [111,108,100]=true:=by decide +kernel
    have a3:okS [111,108,100,115]=true:=by decide +kernel
    rcases r1 with rfl | rfl <;> rcases r2 with rfl | rfl <;> rcases r3 with rfl | rfl
    · exact ⟨[],rfl,by decide,by simp⟩
    · exact ⟨[_],rfl,by decide,by simp [a3]⟩
    · exact ⟨[_],rfl,by decide,by simp [a2]⟩
    · exact ⟨[_,_],rfl,by decide,by simp [a2,a3]⟩
    · exact ⟨[_],rfl,by decide,by simp [a1]⟩
    · exact ⟨[_,_],rfl,by decide,by simp [a1,a3]⟩
    · exact ⟨[_,_],rfl,by decide,by simp [a1,a2]⟩
    · exact ⟨[_,_,_],rfl,by decide,by simp [a1,a2,a3]⟩
  obtain ⟨mk,e,hl,hk⟩:=hx
  rw [e] at h2
  exact ⟨mk,s2,Qj (x:=.t (.lst [.str [102,114,101,115,104],.str [111,108,100],.str [111,108,100,115]])) (m0:=put m i s) (m1:=put m i s) rfl rfl h2 (by rw [List.length_map]; unfold lim; omega),hs2,hl,hk⟩
theorem Zgm {n:Nat} {m:Mem} {i:Nat} {s:List T} {e1 e2 e3 e4:Option W} (hi:i < m.length) (hs:IsSt s) :
    ∃ (sz:List (List Nat×Int)) (s':List T),ev (cf (n + 2)) gv ZeI [some (.c i),e1,e2,e3,e4] (put m i s) = .ok (.t (.lst (sz.map JP))) (put m i s')∧IsSt s'∧sz.length≤100∧∀ p∈sz,okS p.1=true:=by
  obtain ⟨xss,m',h2,⟨s2,rfl,hs2⟩,ht⟩:=Xr (f:=Jh (cf (n + 2)) gv (.cons (.cmp .Eq (.call 23 (.cons (.var 1) (.cons (.con (.int 2)) .nil))) (.con (.int 1))) .nil) ZaR) (tg:=.nm 0) (env:=[none,some (.c i)]) (P:=fun m'=>∃ s,m' = put m i s∧IsSt s) (R:=fun t xs=>xs=[]∨∃ v:Int,0≤v∧v≤1000000000∧xs=[.tup [t,.int v]]) [.str [112,114,105,99,101],.str [119,105,100,101]] (put m i s) ⟨s,rfl,hs⟩ (by
    rintro t ht m' ⟨s,rfl,hs⟩
    obtain ⟨q,s3,h3,hs3,hq0,hq1⟩:=ZZ (n:=n + 1) (many:=2) hi hs (by decide) (by decide)
    by_cases hq:q=1
    · obtain ⟨v,s4,h4,hs4,v0,v1⟩:=Zeh (n:=n) hi hs3
      exact ⟨[some (.t t),some (.c i)],[.tup [t,.int v]],put m i s4,rfl,by simp [Jh,tests,ZaR,ev,evs,isT,ZS,EVs,h3,hq,h4,lim],⟨s4,rfl,hs4⟩,.inr ⟨v,v0,v1,rfl⟩⟩
    · exact ⟨[some (.t t),some (.c i)],[],put m i s3,rfl,by simp [Jh,tests,ZaR,ev,evs,isT,ZS,EVs,h3,hq],⟨s3,rfl,hs3⟩,.inl rfl⟩)
  obtain ⟨x,y,rfl,r1,r2⟩:=turns2 ht
  have hx:∃ sz:List (List Nat×Int),[x,y].flatten=sz.map JP∧sz.length≤100∧∀ p∈sz,okS p.1=true:=by
    have a1:okS [112,114,105,99,101]=true:=by decide +kernel
    have a2:okS [119,105,100,101]=true:=by decide +kernel
    rcases r1 with rfl | ⟨v,_,_,rfl⟩ <;> rcases r2 with rfl | ⟨u,_,_,rfl⟩
    · exact ⟨[],rfl,by decide,by simp⟩
    · exact ⟨[(_,u)],rfl,by simp,by simp [a2]⟩
    · exact ⟨[(_,v)],rfl,by simp,by simp [a1]⟩
    · exact ⟨[(_,v),(_,u)],rfl,by simp,by simp [a1,a2]⟩
  obtain ⟨sz,e,hl,hk⟩:=hx
  rw [e] at h2
  exact ⟨sz,s2,Qj (x:=.t (.lst [.str [112,114,105,99,101],.str [119,105,100,101]])) (m0:=put m i s) (m1:=put m i s) rfl rfl h2 (by rw [List.length_map]; unfold lim; omega),hs2,hl,hk⟩
def Zls (nm kd:List Nat) (mk:List (List Nat)) (sz:List (List Nat×Int)):Prop:=mk.length≤100∧sz.length≤100∧(∀ w∈mk,okS w=true)∧(∀ p∈sz,okS p.1=true)∧okS nm=true∧okS kd=true
theorem Znq {n:Nat} {m:Mem} {i:Nat} {s:List T} {nm kd:List Nat} (hi:i < m.length) (hs:IsSt s) (h1:okS nm=true) (h2:okS kd=true):∃ (mk:List (List Nat)) (sz:List (List Nat×Int)) (s':List T),cf (n + 3) 27 [.c i,.t (.str nm),.t (.str kd)] (put m i s) = .ok (.t (Z3 nm kd mk sz)) (put m i s')∧IsSt s'∧Zls nm kd mk sz:=by
  obtain ⟨mk,s1,g1,hs1,m1,m2⟩:=Zg1 (n:=n + 1) (e1:=some (.t (.str nm))) (e2:=some (.t (.str kd))) (e3:=none) (e4:=none) hi hs
  obtain ⟨sz,s2,g2,hs2,z1,z2⟩:=Zgm (n:=n) (e1:=some (.t (.str nm))) (e2:=some (.t (.str kd))) (e3:=some (.t (.tup (mk.map .str)))) (e4:=none) hi hs1
  refine ⟨mk,sz,s2,?_,hs2,m1,z1,m2,z2,h1,h2⟩
  have key:ex (cf (n + 2)) gv Zbp [some (.c i),some (.t (.str nm)),some (.t (.str kd)),none,none] (put m i s) = .ok (.ret (.t (Z3 nm kd mk sz))) (put m i s2):=by
    unfold Zbp
    have g1:ev (cf (n + 2)) gv Zcr [some (.c i),some (.t (.str nm)),some (.t (.str kd)),none,none] (put m i s) = .ok (.t (.lst (mk.map .str))) (put m i s1):=g1
    rw [Zn (w:=.t (.tup (mk.map .str))) (m1:=put m i s1) (Zr (bb:=.tuple) g1 (Zf2 _))]
    simp only [List.set_cons_succ,List.set_cons_zero]
    rw [Zn (w:=.t (.tup (sz.map JP))) (m1:=put m i s2) (Zr (bb:=.tuple) g2 (Zf2 _))]
    exact Zf rfl
  exact ZK (Zlf _ _ _) rfl key (Zu (cell:=false) (by rw [Z4,Z4]))
theorem Zhv {Q:T→Prop} {ts:List T} {xss:List (List T)} (h:Turns (fun _ xs=>∃ w,xs=[w]∧Q w) ts xss):∃ ws:List T,xss.flatten=ws∧ws.length=ts.length∧∀ w∈ws,Q w:=by
  induction h with
  | nil=>exact ⟨[],rfl,rfl,fun w hw=>by cases hw⟩
  | cons h _ ih =>
    obtain ⟨w,rfl,hq⟩:=h
    obtain ⟨ws,h1,h2,h3⟩:=ih
    refine ⟨w :: ws,by rw [List.flatten_cons,h1]; rfl,by simp [h2],fun x hx=>?_⟩
    rcases List.mem_cons.mp hx with rfl | hx
    · exact hq
    · exact h3 x hx
theorem Zd6 {n:Nat} {m:Mem} {i:Nat} {s:List T} {ws:List (List Nat)} (hi:i < m.length) (hs:IsSt s) (h0:0 < ws.length) (h1:ws.length < 1000) (hw:∀ w∈ws,okS w=true) :
    ∃ w s',cf (n + 2) 24 [.c i,.t (.lst (ws.map .str))] (put m i s) = .ok (.t (.str w)) (put m i s')∧IsSt s'∧okS w=true∧w∈ws:=by
  obtain ⟨x,s',g,hs',hx⟩:=Zdf (n:=n) (xs:=ws.map .str) hi hs (by rw [List.length_map]; exact h0) (by rw [List.length_map]; exact h1)
  obtain ⟨w,hw',rfl⟩:=List.mem_map.mp hx
  exact ⟨w,s',g,hs',hw w hw',hw'⟩
theorem Zf1 {n d:Nat} {m:Mem} {i:Nat} {s:List T} {r:Int} (hi:i < m.length) (hs:IsSt s) (r0:0≤r) (r6:r < 6) (k1 k2:S) :
    ∃ (t:T) (s':List T),ex (cf (n + 3)) gv (.ife (.cmp .Lt (.var 2) (.con (.int 2))) (.ret (.tup (.cons (.con (.str [97,110,121])) .nil)) .done) .done (.ife (.cmp .Eq (.var 2) (.con (.int 2))) (.ret (.tup (.cons (.con (.str [105,115])) (.cons (.call 24 (.cons (.var 0) (.cons (.lst (.cons (.con (.str [102,114,101,115,104])) (.cons (.con (.str [111,108,100])) (.cons (.con (.str [111,108,100,115])) (.cons (.con (.str [110,101,119])) .nil))))) .nil))) .nil))) .done) .done (.ife (.cmp .Eq (.var 2) (.con (.int 3))) (.ret (.tup (.cons (.con (.str [98,121])) (.cons (.call 25 (.cons (.call 23 (.cons (.var 0) (.cons (.con (.int 12)) .nil))) .nil)) .nil))) .done) .done (.ife (.cmp .Lt (.var 2) (.con (.int 6))) (.ret (.tup (.cons (.ix (.lst (.cons (.con (.str [108,101,97,115,116])) (.cons (.con (.str [109,111,115,116])) .nil))) (.bin .Sub (.var 2) (.con (.int 4)))) (.cons (.call 24 (.cons (.var 0) (.cons (.lst (.cons (.con (.str [112,114,105,99,101])) (.cons (.con (.str [119,105,100,101])) (.cons (.con (.str [102,97,114])) .nil)))) .nil))) (.cons (.call 26 (.cons (.var 0) .nil)) .nil)))) .done) .done k1)))) [some (.c i),some (.t (.int (d:Int))),some (.t (.int r)),none] (put m i s) = .ok (.ret (.t t)) (put m i s')∧IsSt s'∧Lf t∧Dk 0 t:=by
  have a0:okS [97,110,121]=true:=by decide +kernel
  have a1:okS [105,115]=true:=by decide +kernel
  have a2:okS [98,121]=true:=by decide +kernel
  have a3:okS [108,101,97,115,116]=true:=by decide +kernel
  have a4:okS [109,111,115,116]=true:=by decide +kernel
  have dk1:∀ a:List Nat,okS a=true→Dk 0 (.tup [.str a]):=fun a h k=>by
    show Zo k [.str a]=true
    unfold okS at h
    simp [Zo,Zm,h]
  have dk2:∀ a b:List Nat,okS a=true→okS b=true→Dk 0 (.tup [.str a,.str b]):=fun a b h h' k=>by
    show Zo k [.str a,.str b]=true
    unfold okS at h h'
    simp [Zo,Zm,h,h']
  have dk3:∀ (a b:List Nat) (v:Int),okS a=true→okS b=true→Dk 0 (.tup [.str a,.str b,.int v]):=fun a b v h h' k=>by
    show Zo k [.str a,.str b,.int v]=true
    unfold okS at h h'
    simp [Zo,Zm,h,h']
  by_cases h2:r < 2
  · exact ⟨_,s,ZP (m1:=put m i s) (by simp [ev,evs,isT,ZS,EVs,h2]) (Zf rfl),hs,.any,dk1 _ a0⟩
  rw [Zq (m1:=put m i s) (by simp [ev,evs,isT,ZS,EVs,h2] <;> omega)]
  by_cases h3:r=2
  · obtain ⟨w,s2,g2,hs2,hw2,_⟩:=Zd6 (n:=n + 1) (ws:=[[102,114,101,115,104],[111,108,100],[111,108,100,115],[110,101,119]]) hi hs (by simp) (by simp) (by
      intro w hw
      simp only [List.mem_cons,List.not_mem_nil,or_false] at hw
      rcases hw with rfl | rfl | rfl | rfl <;> decide +kernel)
    simp only [List.map_cons,List.map_nil] at g2
    exact ⟨_,s2,ZP (m1:=put m i s) (by simp [ev,evs,isT,ZS,EVs,h3]) (Zf (Zx (Zd (Zb _) (Zd ((ZL (Zd (Za rfl) (Zd (Qd (Zd (Zb _) (Zd (Zb _) (Zd (Zb _) (Zd (Zb _) Zi)))) rfl Zg) Zi))).trans g2) Zi)) rfl Zg)),hs2,.is w,dk2 _ _ a1 hw2⟩
  rw [Zq (m1:=put m i s) (by simp [ev,evs,isT,ZS,EVs,h3])]
  by_cases h4:r=3
  · obtain ⟨q,s1,g1,hs1,_,_⟩:=ZZ (n:=n + 2) (many:=12) hi hs (by decide) (by decide)
    obtain ⟨w,g2,hw2⟩:=Zil (n:=n + 2) (m:=put m i s1) (k:=q)
    exact ⟨_,s1,ZP (m1:=put m i s) (by simp [ev,evs,isT,ZS,EVs,h4]) (Zf (Zx (Zd (Zb _) (Zd ((ZL (Zd ((ZL (Zd (Za rfl) (Zd (Zb _) Zi))).trans g1) Zi)).trans g2) Zi)) rfl Zg)),hs1,.by w,dk2 _ _ a2 hw2⟩
  rw [Zq (m1:=put m i s) (by simp [ev,evs,isT,ZS,EVs,h4])]
  obtain ⟨z,hz,hzm⟩:=Jy (xs:=[T.str [108,101,97,115,116],.str [109,111,115,116]]) (i:=r - 4) (by omega) (by simp; omega)
  obtain ⟨v,s2,g2,hs2,hv2,_⟩:=Zd6 (n:=n + 1) (ws:=[[112,114,105,99,101],[119,105,100,101],[102,97,114]]) hi hs (by simp) (by simp) (by
      intro w hw
      simp only [List.mem_cons,List.not_mem_nil,or_false] at hw
      rcases hw with rfl | rfl | rfl <;> decide +kernel)
  simp only [List.map_cons,List.map_nil] at g2
  obtain ⟨k,s3,g3,hs3,k0,k1⟩:=Zeh (n:=n + 1) hi hs2
  simp only [List.mem_cons,List.not_mem_nil,or_false] at hzm
  rcases hzm with rfl | rfl
  · exact ⟨_,s3,ZP (m1:=put m i s) (by simp [ev,evs,isT,ZS,EVs,r6]) (Zf (Zx (Zd (Zk (Qd (Zd (Zb _) (Zd (Zb _) Zi)) rfl Zg) (Zt (Za rfl) (Zb _) rfl) hz) (Zd ((ZL (Zd (Za rfl) (Zd (Qd (Zd (Zb _) (Zd (Zb _) (Zd (Zb _) Zi))) rfl Zg) Zi))).trans g2) (Zd ((ZL (Zd (Za rfl) Zi)).trans g3) Zi))) rfl Zg)),hs3,.least v k,dk3 _ _ _ a3 hv2⟩
  · exact ⟨_,s3,ZP (m1:=put m i s) (by simp [ev,evs,isT,ZS,EVs,r6]) (Zf (Zx (Zd (Zk (Qd (Zd (Zb _) (Zd (Zb _) Zi)) rfl Zg) (Zt (Za rfl) (Zb _) rfl) hz) (Zd ((ZL (Zd (Za rfl) (Zd (Qd (Zd (Zb _) (Zd (Zb _) (Zd (Zb _) Zi))) rfl Zg) Zi))).trans g2) (Zd ((ZL (Zd (Za rfl) Zi)).trans g3) Zi))) rfl Zg)),hs3,.most v k,dk3 _ _ _ a4 hv2⟩
theorem Zgl {n d:Nat} {m:Mem} {r:Int} {e0 e1 e3:Option W} (r6:6≤r) {a1 a2 a3 a4 k:S} :
    ex (cf n) gv (.ife (.cmp .Lt (.var 2) (.con (.int 2))) a1 .done (.ife (.cmp .Eq (.var 2) (.con (.int 2))) a2 .done (.ife (.cmp .Eq (.var 2) (.con (.int 3))) a3 .done (.ife (.cmp .Lt (.var 2) (.con (.int 6))) a4 .done k)))) [e0,e1,some (.t (.int r)),e3] m=ex (cf n) gv k [e0,e1,some (.t (.int r)),e3] m:=by
  have h1:¬ r < 2:=by omega
  have h2:¬ r=2:=by omega
  have h3:¬ r=3:=by omega
  have h4:¬ r < 6:=by omega
  rw [Zq (m1:=m) (by simp [ev,evs,isT,ZS,EVs,h1]),Zq (m1:=m) (by simp [ev,evs,isT,ZS,EVs,h2]),Zq (m1:=m) (by simp [ev,evs,isT,ZS,EVs,h3]),Zq (m1:=m) (by simp [ev,evs,isT,ZS,EVs,h4])]
theorem m30:binT .Mult (.int 3) (.int 0)=some (.int 0):=rfl
theorem m31:binT .Mult (.int 3) (.int 1)=some (.int 3):=rfl
theorem Dk.mono {d e:Nat} {t:T} (h:Dk d t) (he:d≤e):Dk e t:=fun k=>by
  have:=h (k + 2 * (e - d))
  rw [show k + 2 * (e - d) + (2 * d + 1)=k + (2 * e + 1) by omega] at this
  exact this
theorem dk_nt {d:Nat} {a:T} (h:Dk d a):Dk (d + 1) (.tup [.str [110,111,116],a]):=fun k=>by
  have h1:=h (k + 1)
  rw [show k + 1 + (2 * d + 1)=k + (2 * d + 2) by omega] at h1
  have h2:okS [110,111,116]=true:=by decide +kernel
  unfold okS at h2
  rw [show k + (2 * (d + 1) + 1)=k + (2 * d + 2) + 1 by omega,Zm]
  simp [Zo,Zm,h1,h2]
theorem QD {n:Nat}:∀ {ts:List T},Zo n ts=true↔∀ t∈ts,Zm n t=true
  | []=>by simp [Zo]
  | t :: ts=>by simp [Zo,QD (ts:=ts)]
theorem dk_jn {d:Nat} {b:Bool} {ts:List T} (h:∀ t∈ts,Dk d t):Dk (d + 1) (.tup [.str (if b then [97,110,100] else [111,114]),.tup ts]):=fun k=>by
  have h1:Zo (k + (2 * d + 1)) ts=true:=QD.mpr fun t ht=>h t ht k
  have h2:okS (if b then [97,110,100] else [111,114])=true:=by cases b <;> decide +kernel
  unfold okS at h2
  rw [show k + (2 * (d + 1) + 1)=k + (2 * d + 1) + 1 + 1 by omega,Zm,Zo,Zo,Zo,Zm,Zm,h1,h2]
  rfl
theorem ZlV:∀ (d:Nat) {n:Nat} {m:Mem} {i:Nat} {s:List T},i < m.length→IsSt s→∃ (t:T) (s':List T),cf (n + (d + 4)) 28 [.c i,.t (.int (d:Int))] (put m i s) = .ok (.t t) (put m i s')∧IsSt s'∧DW d t∧Dk d t:=by
  intro d
  induction d with
  | zero =>
    intro n m i s hi hs
    obtain ⟨r,s1,h1,hs1,r0,r1⟩:=ZZ (n:=n + 2) (many:=6) hi hs (by decide) (by decide)
    obtain ⟨t,s2,h2,hs2,hl⟩:=Zf1 (n:=n) (d:=0) hi hs1 r0 r1 _ .done
    refine ⟨t,s2,?_,hs2,.leaf hl.1,hl.2⟩
    have e:ex (cf (n + 3)) gv X5 [some (.c i),some (.t (.int 0)),none,none] (put m i s) = .ok (.ret (.t t)) (put m i s2):=by
      unfold X5
      rw [Zn (w:=.t (.int r)) (m1:=put m i s1) (by simp [ev,evs,isT,ZS,EVs,m30,b2i,h1])]
      exact h2
    show cf (n + 3 + 1) _ _ _=_
    exact ZK (Zf7 _ _ _) rfl e (Zu (cell:=false) (by rw [Z4,Z4]))
  | succ d ih =>
    intro n m i s hi hs
    have key:∃ (t:T) (s':List T),ex (cf (n + (d + 4))) gv X5 [some (.c i),some (.t (.int ((d:Int) + 1))),none,none] (put m i s) = .ok (.ret (.t t)) (put m i s')∧IsSt s'∧DW (d + 1) t∧Dk (d + 1) t:=by
      obtain ⟨r,s1,h1,hs1,r0,r1⟩:=ZZ (n:=n + (d + 3)) (many:=9) hi hs (by decide) (by decide)
      have h1:cf (n + (d + 4)) 23 [.c i,.t (.int 9)] (put m i s)=_:=h1
      have hd0:(0:Int) < (d:Int) + 1:=by omega
      have hm:ev (cf (n + (d + 4))) gv (.call 23 (.cons (.var 0) (.cons (.bin .Add (.con (.int 6)) (.bin .Mult (.con (.int 3)) (.blt .int (.cons (.cmp .Gt (.var 1) (.con (.int 0))) .nil)))) .nil))) [some (.c i),some (.t (.int ((d:Int) + 1))),none,none] (put m i s) = .ok (.t (.int r)) (put m i s1):=by
        simp [ev,evs,isT,ZS,EVs,m31,b2i,hd0,h1]
      unfold X5
      rw [Zn hm]
      simp only [List.set_cons_succ,List.set_cons_zero]
      by_cases h6:r < 6
      · obtain ⟨t,s2,h2,hs2,hl⟩:=Zf1 (n:=n + (d + 1)) (d:=d + 1) hi hs1 r0 h6 _ .done
        rw [show ((d + 1:Nat):Int)=(d:Int) + 1 by omega] at h2
        exact ⟨t,s2,h2,hs2,.leaf hl.1,hl.2.mono (Nat.zero_le _)⟩
      rw [Zgl (d:=d) (by omega)]
      have hsub:(d:Int) + 1 - 1=(d:Int):=by omega
      by_cases h7:r=6
      · obtain ⟨t,s2,h4,hs2,hw⟩:=ih (n:=n) hi hs1
        exact ⟨_,s2,ZP (m1:=put m i s1) (by simp [ev,evs,isT,ZS,EVs,h7]) (Zf (by simp [ev,evs,isT,ZS,EVs,hsub,h4,lim])),hs2,.nt hw.1,dk_nt hw.2⟩
      rw [Zq (m1:=put m i s1) (by simp [ev,evs,isT,ZS,EVs,h7])]
      obtain ⟨q,s2,h4,hs2,q0,q1⟩:=ZZ (n:=n + (d + 3)) (many:=2) hi hs1 (by decide) (by decide)
      have h4:cf (n + (d + 4)) 23 [.c i,.t (.int 2)] (put m i s1)=_:=h4
      rw [Zn (w:=.t (.int (2 + q))) (m1:=put m i s2) (by simp [ev,evs,isT,ZS,EVs,h4])]
      simp only [List.set_cons_succ,List.set_cons_zero]
      obtain ⟨z,hz,hzm⟩:=Jy (xs:=[T.str [97,110,100],.str [111,114]]) (i:=r - 7) (by omega) (by simp; omega)
      have hz':∃ b:Bool,z = .str (if b then [97,110,100] else [111,114]):=by
        simp only [List.mem_cons,List.not_mem_nil,or_false] at hzm
        rcases hzm with rfl | rfl
        · exact ⟨true,rfl⟩
        · exact ⟨false,rfl⟩
      obtain ⟨b,rfl⟩:=hz'
      obtain ⟨xss,m',h5,⟨s3,rfl,hs3⟩,ht⟩:=Xr (f:=Jh (cf (n + (d + 4))) gv .nil Zca) (tg:=.nm 0) (env:=[none,some (.c i),some (.t (.int ((d:Int) + 1)))]) (P:=fun m'=>∃ s,m' = put m i s∧IsSt s) (R:=fun _ xs=>∃ w,xs=[w]∧DW d w∧Dk d w) (rangeT 0 (2 + q).toNat) (put m i s2) ⟨s2,rfl,hs2⟩ (by
        rintro t ht m' ⟨s,rfl,hs⟩
        obtain ⟨u,s4,h6,hs4,hu⟩:=ih (n:=n) hi hs
        exact ⟨[some (.t t),some (.c i),some (.t (.int ((d:Int) + 1)))],[u],put m i s4,rfl,by simp [Jh,tests,Zca,ev,evs,isT,ZS,EVs,hsub,h6],⟨s4,rfl,hs4⟩,u,rfl,hu⟩)
      obtain ⟨ws,e1,e2,e3⟩:=Zhv ht
      have hr:(rangeT 0 (2 + q).toNat).length=(2 + q).toNat:=by simp [rangeT]
      rw [e1] at h5
      have hc:ev (cf (n + (d + 4))) gv ZeG [some (.c i),some (.t (.int ((d:Int) + 1))),some (.t (.int r)),some (.t (.int (2 + q)))] (put m i s2) = .ok (.t (.lst ws)) (put m i s3):=by
        refine Qj (x:=.t (.lst (rangeT 0 (2 + q).toNat))) (m0:=put m i s2) (m1:=put m i s2) ?_ rfl h5 (by rw [e2,hr]; unfold lim; omega)
        exact Zr (by rw [ev]; rfl) (ZkL (show 2 + q < 2 ^ 62∧-(2 ^ 62)≤2 + q by omega))
      refine ⟨_,s3,Zf (w:=.t (.tup [.str (if b then [97,110,100] else [111,114]),.tup ws])) (by simp [ev,evs,isT,ZS,EVs,hz,hc,lim]),hs3,.jn (by omega) (fun t ht=>(e3 t ht).1),dk_jn fun t ht=>(e3 t ht).2⟩
    obtain ⟨t,s',e,hs',hl⟩:=key
    refine ⟨t,s',?_,hs',hl⟩
    rw [show ((d + 1:Nat):Int)=(d:Int) + 1 by omega]
    show cf (n + (d + 4) + 1) _ _ _=_
    exact ZK (Zf7 _ _ _) rfl e (Zu (cell:=false) (by rw [Z4,Z4]))
def offT (sd nm kd:List Nat) (mk:List (List Nat)) (sz:List (List Nat×Int)) (w:T) (many least wt till:Int):T:=.tup [.str sd,Z3 nm kd mk sz,w,.int many,.int least,.int wt,.int till]
theorem ZkD {n:Nat} {m:Mem} {i:Nat} {s:List T} {sd nm kd:List Nat} {till:Int} (hi:i < m.length) (hs:IsSt s) (h1:okS nm=true) (h2:okS kd=true) :
    ∃ (mk:List (List Nat)) (sz:List (List Nat×Int)) (w:T) (many least weight:Int) (s':List T),cf (n + 7) 29 [.c i,.t (.str sd),.t (.str nm),.t (.str kd),.t (.int till)] (put m i s) = .ok (.t (offT sd nm kd mk sz w many least weight till)) (put m i s')∧IsSt s'∧Zls nm kd mk sz∧(DW 2 w∧Dk 2 w)∧(1≤many∧many≤1000000)∧(1≤least∧least≤many)∧(0≤weight∧weight≤1000):=by
  obtain ⟨a1,s1,d1,hs1,a10,a11⟩:=ZZ (n:=n + 5) (many:=9) hi hs (by decide) (by decide)
  obtain ⟨a2,s2,d2,hs2,a20,a21⟩:=ZZ (n:=n + 5) (many:=9) hi hs1 (by decide) (by decide)
  obtain ⟨a3,s3,d3,hs3,a30,a31⟩:=ZZ (n:=n + 5) (many:=1000000) hi hs2 (by decide) (by decide)
  obtain ⟨a4,s4,d4,hs4,a40,a41⟩:=ZZ (n:=n + 5) (many:=3) hi hs3 (by decide) (by decide)
  obtain ⟨z,hz,hzm⟩:=Jy (xs:=[T.int (1 + a1),.int (1 + a2),.int (1 + a3)]) a40 (by simpa using a41)
  have hz':∃ v:Int,z = .int v∧1≤v∧v≤1000000:=by
    simp only [List.mem_cons,List.not_mem_nil,or_false] at hzm
    rcases hzm with rfl | rfl | rfl <;> exact ⟨_,rfl,by omega,by omega⟩
  obtain ⟨many,rfl,m1,m2⟩:=hz'
  obtain ⟨b1,s5,d5,hs5,b10,b11⟩:=ZZ (n:=n + 5) (many:=many) hi hs4 (by omega) (by omega)
  obtain ⟨b2,s6,d6,hs6,b20,b21⟩:=ZZ (n:=n + 5) (many:=3) hi hs5 (by decide) (by decide)
  obtain ⟨z,hz2,hzm⟩:=Jy (xs:=[T.int 1,.int (1 + b1),.int many]) b20 (by simpa using b21)
  have hz':∃ v:Int,z = .int v∧1≤v∧v≤many:=by
    simp only [List.mem_cons,List.not_mem_nil,or_false] at hzm
    rcases hzm with rfl | rfl | rfl <;> exact ⟨_,rfl,by omega,by omega⟩
  obtain ⟨least,rfl,l1,l2⟩:=hz'
  obtain ⟨w0,s7,d7,hs7,hw0⟩:=ZlV 2 (n:=n) hi hs6
  have d7:cf (n + 6) 28 [.c i,.t (.int 2)] (put m i s6) = .ok (.t w0) (put m i s7):=d7
  obtain ⟨c1,s8,d8,hs8,c10,c11⟩:=ZZ (n:=n + 5) (many:=2) hi hs7 (by decide) (by decide)
  obtain ⟨w,hz3,hzm⟩:=Jy (xs:=[T.tup [.str [97,110,121]],w0]) c10 (by simpa using c11)
  have hw:DW 2 w∧Dk 2 w:=by
    simp only [List.mem_cons,List.not_mem_nil,or_false] at hzm
    rcases hzm with rfl | rfl
    · exact ⟨.leaf .any,fun k=>by
        show Zo (k + 4) [.str [97,110,121]]=true
        have h:okS [97,110,121]=true:=by decide +kernel
        unfold okS at h
        simp [Zo,Zm,h]⟩
    · exact hw0
  obtain ⟨e1,s9,d9,hs9,e10,e11⟩:=ZZ (n:=n + 5) (many:=3) hi hs8 (by decide) (by decide)
  obtain ⟨e2,s10,d10,hs10,e20,e21⟩:=ZZ (n:=n + 5) (many:=1001) hi hs9 (by decide) (by decide)
  obtain ⟨e3,s11,d11,hs11,e30,e31⟩:=ZZ (n:=n + 5) (many:=2) hi hs10 (by decide) (by decide)
  obtain ⟨z,hz4,hzm⟩:=Jy (xs:=[T.int e1,.int e2]) e30 (by simpa using e31)
  have hz':∃ v:Int,z = .int v∧0≤v∧v≤1000:=by
    simp only [List.mem_cons,List.not_mem_nil,or_false] at hzm
    rcases hzm with rfl | rfl <;> exact ⟨_,rfl,by omega,by omega⟩
  obtain ⟨weight,rfl,g1,g2⟩:=hz'
  obtain ⟨mk,sz,s12,d12,hs12,hc⟩:=Znq (n:=n + 3) hi hs11 h1 h2
  refine ⟨mk,sz,w,many,least,weight,s12,?_,hs12,hc,hw,⟨m1,m2⟩,⟨l1,l2⟩,⟨g1,g2⟩⟩
  have key:ex (cf (n + 6)) gv Za1 [some (.c i),some (.t (.str sd)),some (.t (.str nm)),some (.t (.str kd)),some (.t (.int till)),none,none,none,none] (put m i s) = .ok (.ret (.t (offT sd nm kd mk sz w many least weight till))) (put m i s12):=by
    refine (Zn (w:=.t (.int many)) (m1:=put m i s4) (Zk (Qd (Zd (Zt (Zb _) ((ZL (Zd (Za rfl) (Zd (Zb _) Zi))).trans d1) rfl) (Zd (Zt (Zb _) ((ZL (Zd (Za rfl) (Zd (Zb _) Zi))).trans d2) rfl) (Zd (Zt (Zb _) ((ZL (Zd (Za rfl) (Zd (Zt (Zb _) (Zb _) rfl) Zi))).trans d3) rfl) Zi))) rfl Zg) ((ZL (Zd (Za rfl) (Zd (Zb _) Zi))).trans d4) hz)).trans ?_
    refine (Zn (w:=.t (.int least)) (m1:=put m i s6) (Zk (Qd (Zd (Zb _) (Zd (Zt (Zb _) ((ZL (Zd (Za rfl) (Zd (Za rfl) Zi))).trans d5) rfl) (Zd (Za rfl) Zi))) rfl Zg) ((ZL (Zd (Za rfl) (Zd (Zb _) Zi))).trans d6) hz2)).trans ?_
    refine (Zn (w:=.t w) (m1:=put m i s8) (Zk (Qd (Zd (Zx (Zd (Zb _) Zi) rfl Zg) (Zd ((ZL (Zd (Za rfl) (Zd (Zb _) Zi))).trans d7) Zi)) rfl Zg) ((ZL (Zd (Za rfl) (Zd (Zb _) Zi))).trans d8) hz3)).trans ?_
    refine (Zn (w:=.t (.int weight)) (m1:=put m i s11) (Zk (Qd (Zd ((ZL (Zd (Za rfl) (Zd (Zb _) Zi))).trans d9) (Zd ((ZL (Zd (Za rfl) (Zd (Zb _) Zi))).trans d10) Zi)) rfl Zg) ((ZL (Zd (Za rfl) (Zd (Zb _) Zi))).trans d11) hz4)).trans ?_
    exact Zf (Zx (Zd (Za rfl) (Zd ((ZL (Zd (Za rfl) (Zd (Za rfl) (Zd (Za rfl) Zi)))).trans d12) (Zd (Za rfl) (Zd (Za rfl) (Zd (Za rfl) (Zd (Za rfl) (Zd (Za rfl) Zi))))))) rfl Zg)
  exact ZK (Zi4 _ _ _) rfl key (Zu (cell:=false) (by rw [Z4,Z4]))
section
variable {n:Nat} {m:Mem} {nm kd:List Nat} {mk:List (List Nat)} {sz:List (List Nat×Int)}
theorem w0 {n:Nat} {m:Mem} {ts:List T} {a:List Nat} {e1 e2:Option W}:ev (cf n) gv (.ix (.var 0) (.con (.int 0))) [some (.t (.tup (.str a :: ts))),e1,e2] m = .ok (.t (.str a)) m:=Zk (Za rfl) (Zb _) (at0 _ _)
theorem way {call:Nat→List W→Mem→Res W} {env:Env} {a b:List Nat} {s k:S} (h:env[2]? = some (some (.t (.str a)))) (hb:(a == b)=false):ex call gv (.ife (.cmp .Eq (.var 2) (.con (.str b))) s .done k) env m=ex call gv k env m:=by
  refine Zq ?_
  rw [← hb]
  exact Zh (Za h) (Zb _) (Zcm _ _)
theorem wayT {call:Nat→List W→Mem→Res W} {env:Env} {a b:List Nat} {s k:S} {w:W} {m2:Mem} (h:env[2]? = some (some (.t (.str a)))) (hb:(a == b)=true) (hs:ex call gv s env m = .ok (.ret w) m2):ex call gv (.ife (.cmp .Eq (.var 2) (.con (.str b))) s .done k) env m = .ok (.ret w) m2:=by
  refine ZP ?_ hs
  rw [← hb]
  exact Zh (Za h) (Zb _) (Zcm _ _)
theorem Ziu {w:T} (h:Lf w):cf (n + 3) 4 [.t w,.t (Z3 nm kd mk sz)] m = .ok (.t (.bl (Zac nm mk sz w))) m:=by
  have key:ex (cf (n + 2)) gv Zai [some (.t w),some (.t (Z3 nm kd mk sz)),none] m = .ok (.ret (.t (.bl (Zac nm mk sz w)))) m:=by
    unfold Zai
    cases h with
    | any =>
      rw [Zn w0]
      exact wayT rfl rfl (Zf (Zb _))
    | is w =>
      rw [Zn w0,way rfl rfl]
      exact wayT rfl rfl (Zf ((Zy (Za rfl) (Zk (Za rfl) (Zb _) rfl)).trans (Zfl (n:=n + 1))))
    | «by» w =>
      rw [Zn w0,way rfl rfl,way rfl rfl]
      exact wayT rfl rfl (Zf (Zh (Zk (Za rfl) (Zb _) (card0 _ _ _ _)) (Zk (Za rfl) (Zb _) rfl) (Zcm _ _)))
    | least w v =>
      rw [Zn w0,way rfl rfl,way rfl rfl,way rfl rfl,way rfl rfl,way rfl rfl,way rfl rfl]
      exact Zf ((Zy (Za rfl) (Za rfl)).trans (Zbz (n:=n)))
    | most w v =>
      rw [Zn w0,way rfl rfl,way rfl rfl,way rfl rfl,way rfl rfl,way rfl rfl,way rfl rfl]
      exact Zf ((Zy (Za rfl) (Za rfl)).trans (Zbz (n:=n)))
  rw [Zfr]
  simp [key,Zw,Zu]
end
section
variable {n:Nat} {m:Mem} {nm kd:List Nat} {mk:List (List Nat)} {sz:List (List Nat×Int)}
theorem Zih {w:List Nat} {v:Int} {a:List Nat} {e3:Option W} (hl:sz.length≤100):ev (cf n) gv Zcq [some (.t (.tup [.str a,.str w,.int v])),some (.t (Z3 nm kd mk sz)),some (.t (.str a)),e3] m = .ok (.t (.lst ((sz.filter fun p=>p.1 == w).map fun p=>.int p.2))) m:=by
  have h:=JG (f:=Jh (cf n) gv (.cons (.cmp .Eq (.var 0) (.ix (.var 2) (.con (.int 1)))) .nil) Zcb) (tg:=.tp [0,1]) (env:=[none,none,some (.t (.tup [.str a,.str w,.int v]))]) (m:=m)
    (g:=fun t=>match t with | .tup [.str c,.int u]=>(if c == w then [.int u] else []) | _=>[]) (sz.map JP) (fun t ht=>by
      obtain ⟨p,_,rfl⟩:=List.mem_map.mp ht
      refine ⟨[some (.t (.str p.1)),some (.t (.int p.2)),some (.t (.tup [.str a,.str w,.int v]))],rfl,?_⟩
      have hc:ev (cf n) gv (.cmp .Eq (.var 0) (.ix (.var 2) (.con (.int 1)))) [some (.t (.str p.1)),some (.t (.int p.2)),some (.t (.tup [.str a,.str w,.int v]))] m = .ok (.t (.bl (p.1 == w))) m:=Zh (Za rfl) (Zk (Za rfl) (Zb _) rfl) (Zcm _ _)
      cases hw:(p.1 == w) with
      | true =>
        rw [hw] at hc
        rw [ZfF hc (show ev (cf n) gv Zcb _ m=_ from JQ (Za rfl))]
        simp [JP,hw]
      | false =>
        rw [hw] at hc
        rw [ZfG hc]
        simp [JP,hw])
  have e:(sz.map JP).flatMap (fun t=>match t with | .tup [.str c,.int u]=>(if c == w then [T.int u] else []) | _=>[])=(sz.filter fun p=>p.1 == w).map fun p=>.int p.2:=by
    clear h hl
    induction sz with
    | nil=>rfl
    | cons p sz ih =>
      rw [List.map_cons,List.flatMap_cons,ih,List.filter_cons]
      cases hw:(p.1 == w) <;> simp [JP,hw]
  rw [e] at h
  have hz:((sz.filter fun p=>p.1 == w).map fun p=>T.int p.2).length≤lim:=by
    rw [List.length_map]
    have:=List.length_filter_le (fun p:List Nat×Int=>p.1 == w) sz
    unfold lim; omega
  exact Qj (x:=.t (.tup (sz.map JP))) (m0:=m) (m1:=m) (Zk (Za rfl) (Zb _) (card3 _ _ _ _)) rfl h hz
theorem ZbU (w:List Nat):∀ sz:List (List Nat×Int),match Za2 sz w with
    | none=>(sz.filter fun p=>p.1 == w)=[]
    | some u=>∃ r,(sz.filter fun p=>p.1 == w)=(w,u) :: r
  | []=>rfl
  | p :: sz=>by
    rw [Za2,List.filter_cons]
    cases hw:(p.1 == w) with
    | true=>exact ⟨sz.filter fun p=>p.1 == w,by rw [if_pos rfl,← eq_of_beq hw]⟩
    | false =>
      have:=ZbU w sz
      exact this
theorem Zcg {xs:List T} (h:Zo 59 xs=true):cmpT .Eq (.lst xs) (.lst [])=some xs.isEmpty∧cmpT .NotEq (.lst xs) (.lst [])=some (!xs.isEmpty):=by
  have h1:Zm 60 (.lst xs)=true:=by rw [Zm]; exact h
  have h2:Zm 60 (.lst [])=true:=by decide
  have h3:eqT (.lst xs) (.lst [])=xs.isEmpty:=by cases xs <;> simp [eqT,eqTs]
  constructor
  · show (if (ZdU (.lst xs) (.lst []) || (Zm 60 (.lst xs) && Zm 60 (.lst [])))=true then some (eqT (.lst xs) (.lst [])) else none)=_
    rw [h1,h2,Bool.true_and,Bool.or_true,if_pos rfl,h3]
  · show (if (ZdU (.lst xs) (.lst []) || (Zm 60 (.lst xs) && Zm 60 (.lst [])))=true then some (!eqT (.lst xs) (.lst [])) else none)=_
    rw [h1,h2,Bool.true_and,Bool.or_true,if_pos rfl,h3]
theorem Zev:∀ xs:List (List Nat×Int),Zo 59 (xs.map fun p=>T.int p.2)=true
  | []=>rfl
  | x :: xs=>by rw [List.map_cons,Zo,Zev xs]; rfl
theorem law_leaf {w:T} (h:Lf w) (hl:sz.length≤100):cf (n + 1) 30 [.t w,.t (Z3 nm kd mk sz)] m = .ok (.t (.bl (Zac nm mk sz w))) m:=by
  have key:ex (cf n) gv J5 [some (.t w),some (.t (Z3 nm kd mk sz)),none,none] m = .ok (.ret (.t (.bl (Zac nm mk sz w)))) m:=by
    have wz:∀ {ts:List T} {a:List Nat} {e2 e3:Option W},ev (cf n) gv (.ix (.var 0) (.con (.int 0))) [some (.t (.tup (.str a :: ts))),some (.t (Z3 nm kd mk sz)),e2,e3] m = .ok (.t (.str a)) m:=Zk (Za rfl) (Zb _) (at0 _ _)
    have num:∀ (a:List Nat) (w:List Nat) (v:Int) (k:S),a=[108,101,97,115,116]∨a=[109,111,115,116]→ex (cf n) gv (.asg 3 Zcq (.ife (.cmp .Eq (.var 3) (.lst .nil)) (.ret (.con (.bl false)) .done) .done (.ret (.ix (.lst (.cons (.cmp .GtE (.ix (.var 3) (.con (.int 0))) (.ix (.var 0) (.con (.int 2)))) (.cons (.cmp .LtE (.ix (.var 3) (.con (.int 0))) (.ix (.var 0) (.con (.int 2)))) .nil))) (.blt .int (.cons (.cmp .Eq (.var 2) (.con (.str [109,111,115,116]))) .nil))) k))) [some (.t (.tup [.str a,.str w,.int v])),some (.t (Z3 nm kd mk sz)),some (.t (.str a)),none] m = .ok (.ret (.t (.bl (Zac nm mk sz (.tup [.str a,.str w,.int v]))))) m:=by
      intro a w v k ha
      refine (Zn (Zih hl)).trans ?_
      dsimp only [List.set_cons_succ,List.set_cons_zero]
      have hs:=ZbU w sz
      have hemp:∀ env:Env,ev (cf n) gv (.lst .nil) env m = .ok (.t (.lst [])) m:=fun env=>Qd Zi rfl Zg
      cases q:Za2 sz w with
      | none =>
        rw [q] at hs
        have hs:(sz.filter fun p=>p.1 == w)=[]:=hs
        rw [hs]
        rw [ZP (Zh (k:=true) (Za rfl) (hemp _) rfl) (Zf (Zb _))]
        simp [Zac,q]
      | some u =>
        rw [q] at hs
        obtain ⟨r,hs⟩:=hs
        rw [hs]
        have he:=(Zcg (Zev ((w,u) :: r))).1
        rw [List.map_cons] at he ⊢
        rw [Zq (Zh (k:=false) (Za rfl) (hemp _) he)]
        have h0:∀ env:Env,env[3]? = some (some (.t (.lst (.int u :: r.map fun p=>T.int p.2))))→ev (cf n) gv (.ix (.var 3) (.con (.int 0))) env m = .ok (.t (.int u)) m:=fun env h=>Zk (Za h) (Zb _) (at0 _ _)
        refine Zf ?_
        refine Zk (y:=.int (b2i (a == [109,111,115,116]))) (ZiO (Zh (h0 _ rfl) (Zk (Za rfl) (Zb _) rfl) (c_ge _ _)) (Zh (h0 _ rfl) (Zk (Za rfl) (Zb _) rfl) (c_le _ _))) (Zr (Zh (Za rfl) (Zb _) (Zcm _ _)) (l_int _)) ?_
        rcases ha with rfl | rfl
        · simp [Zac,q]; rfl
        · simp [Zac,q]; rfl
    unfold J5
    cases h with
    | any =>
      rw [Zn wz]
      exact wayT rfl rfl (Zf (Zb _))
    | is w =>
      rw [Zn wz,way rfl rfl]
      exact wayT rfl rfl (Zf (Zh (Zk (Za rfl) (Zb _) rfl) (Zk (Za rfl) (Zb _) (card2 _ _ _ _)) (in_words w mk)))
    | «by» w =>
      rw [Zn wz,way rfl rfl,way rfl rfl]
      exact wayT rfl rfl (Zf (Zh (Zk (Za rfl) (Zb _) (card0 _ _ _ _)) (Zk (Za rfl) (Zb _) rfl) (Zcm _ _)))
    | least w v =>
      rw [Zn wz,way rfl rfl,way rfl rfl,way rfl rfl,way rfl rfl,way rfl rfl,way rfl rfl]
      exact num _ _ _ _ (.inl rfl)
    | most w v =>
      rw [Zn wz,way rfl rfl,way rfl rfl,way rfl rfl,way rfl rfl,way rfl rfl,way rfl rfl]
      exact num _ _ _ _ (.inr rfl)
  exact ZK (ZdC _ _ _) rfl key (Zu (cell:=false) rfl)
end
section
variable {nm kd:List Nat} {mk:List (List Nat)} {sz:List (List Nat×Int)}
theorem ZkI {call:Nat→List W→Mem→Res W} {m:Mem} {c:E} {env:Env} {ts:List T} {F:Nat} {g:T→T} {k:Nat} {card:T} (hc:c = .comp 1 [k] (.ix (.var 0) (.con (.int 1))) (.nm 0) .nil (.emit (.call F (.cons (.var 0) (.cons (.var 1) .nil))))) {a:List Nat} (h0:env[0]? = some (some (.t (.tup [.str a,.tup ts])))) (hk:env[k]? = some (some (.t card))) (hl:ts.length≤100) (hg:∀ t∈ts,call F [.t t,.t card] m = .ok (.t (g t)) m) :
    ev call gv c env m = .ok (.t (.lst (ts.map g))) m:=by
  subst hc
  have h:=JG (f:=Jh call gv .nil (.emit (.call F (.cons (.var 0) (.cons (.var 1) .nil))))) (tg:=.nm 0) (env:=[none,some (.t card)]) (m:=m) (g:=fun t=>[g t]) ts (fun t ht=>⟨[some (.t t),some (.t card)],rfl,ZeU (JQ ((Zy (Za rfl) (Za rfl)).trans (hg t ht)))⟩)
  rw [Zat] at h
  refine Qj (x:=.t (.tup ts)) (m0:=m) (m1:=m) (Zk (Za h0) (Zb _) rfl) rfl ?_ (by rw [List.length_map]; unfold lim; omega)
  show JD _ _ _ ([none]++[(env[k]?).join]) _=_
  rw [hk]
  exact h
def jnB (b:Bool) (bs:List Bool):Bool:=if b then bs.all id else bs.any id
theorem ZdF (bs:List Bool):bools? (bs.map T.bl)=some bs:=by
  induction bs with
  | nil=>rfl
  | cons b bs ih=>rw [List.map_cons,bools?,ih]; rfl
theorem all_bl (bs:List Bool):bltT .all [.lst (bs.map .bl)]=some (.bl (bs.all id)):=by
  show (bools? (bs.map T.bl)).map _=_
  rw [ZdF]
  rfl
theorem any_bl (bs:List Bool):bltT .any [.lst (bs.map .bl)]=some (.bl (bs.any id)):=by
  show (bools? (bs.map T.bl)).map _=_
  rw [ZdF]
  rfl
def Both (nm kd:List Nat) (mk:List (List Nat)) (sz:List (List Nat×Int)) (d:Nat) (w:T) (b:Bool):Prop:=∀ (n:Nat) (m:Mem),
    cf (n + (d + 3)) 4 [.t w,.t (Z3 nm kd mk sz)] m = .ok (.t (.bl b)) m ∧
    cf (n + (d + 1)) 30 [.t w,.t (Z3 nm kd mk sz)] m = .ok (.t (.bl b)) m
theorem Znl {P:T→Bool→Prop} {ts:List T} (h:∀ t∈ts,∃ b,P t b):∃ f:T→Bool,∀ t∈ts,P t (f t):=by
  classical
  refine ⟨fun t=>if ht:t∈ts then (h t ht).choose else false,fun t ht=>?_⟩
  simp only [dif_pos ht]
  exact (h t ht).choose_spec
theorem Zes {call:Nat→List W→Mem→Res W} {m:Mem} {c test:E} {env:Env} {ts:List T} {g:T→Bool} {card:T} (hc:c = .comp 1 [1] (.ix (.var 0) (.con (.int 1))) (.nm 0) (.cons test .nil) (.emit (.var 0))) {a:List Nat} (h0:env[0]? = some (some (.t (.tup [.str a,.tup ts])))) (hk:env[1]? = some (some (.t card))) (hl:ts.length≤100) (hg:∀ t∈ts,ev call gv test [some (.t t),some (.t card)] m = .ok (.t (.bl (g t))) m) :
    ev call gv c env m = .ok (.t (.lst (ts.filter g))) m:=by
  subst hc
  have h:=JG (f:=Jh call gv (.cons test .nil) (.emit (.var 0))) (tg:=.nm 0) (env:=[none,some (.t card)]) (m:=m) (g:=fun t=>if g t then [t] else []) ts (fun t ht=>by
    refine ⟨[some (.t t),some (.t card)],rfl,?_⟩
    have hgt:=hg t ht
    cases q:g t with
    | true =>
      rw [q] at hgt
      exact ZfF hgt (JQ (Za rfl))
    | false =>
      rw [q] at hgt
      exact ZfG hgt)
  have e:(ts.flatMap fun t=>if g t=true then [t] else [])=ts.filter g:=by
    clear h hg hl h0
    induction ts with
    | nil=>rfl
    | cons t ts ih =>
      rw [List.flatMap_cons,ih,List.filter_cons]
      cases g t <;> rfl
  rw [e] at h
  refine Qj (x:=.t (.tup ts)) (m0:=m) (m1:=m) (Zk (Za h0) (Zb _) rfl) rfl ?_ (by have:=List.length_filter_le g ts; unfold lim; omega)
  show JD _ _ _ ([none]++[(env[1]?).join]) _=_
  rw [hk]
  exact h
theorem Zc2 (f:T→Bool):∀ ts:List T,(ts.filter fun t=>!f t).isEmpty=(ts.map f).all id
  | []=>rfl
  | t :: ts=>by
    have ih:=Zc2 f ts
    rw [List.filter_cons,List.map_cons,List.all_cons]
    cases h:f t
    · simp
    · simpa using ih
theorem Zc0 (f:T→Bool):∀ ts:List T,(!(ts.filter f).isEmpty)=(ts.map f).any id
  | []=>rfl
  | t :: ts=>by
    have ih:=Zc0 f ts
    rw [List.filter_cons,List.map_cons,List.any_cons]
    cases h:f t
    · simpa using ih
    · simp
theorem Znh {c:Nat} {a:List Nat} {ts:List T} (h:Dk c (.tup [.str a,.tup ts])):∀ t∈ts,Dk c t:=fun t ht k=>by
  have h1:=h (k + 2)
  rw [show k + 2 + (2 * c + 1)=k + (2 * c + 1) + 1 + 1 by omega,Zm,Zo,Zo,Zo,Zm,Zm] at h1
  simp only [Bool.and_eq_true] at h1
  exact QD.mp h1.2.1 t ht
theorem dk_kid {c:Nat} {w:List Nat} {a:T} (h:Dk c (.tup [.str w,a])):Dk c a:=fun k=>by
  have h1:=h (k + 1)
  rw [show k + 1 + (2 * c + 1)=k + (2 * c + 1) + 1 by omega,Zm,Zo,Zo,Zo] at h1
  simp only [Bool.and_eq_true] at h1
  exact h1.2.1
theorem wz4 {call:Nat→List W→Mem→Res W} {m:Mem} {ts:List T} {a:List Nat} {e1 e2 e3:Option W}:ev call gv (.ix (.var 0) (.con (.int 0))) [some (.t (.tup (.str a :: ts))),e1,e2,e3] m = .ok (.t (.str a)) m:=Zk (Za rfl) (Zb _) (at0 _ _)
theorem ZlQ {d:Nat} {ts:List T} (hd:d≤20) (h:∀ t∈ts,Dk d t):∀ (g:T→Bool),Zo 59 (ts.filter g)=true:=fun g=>QD.mpr fun t ht=>by
  have:=h t (List.mem_filter.mp ht).1 (59 - (2 * d + 1))
  rw [show 59 - (2 * d + 1) + (2 * d + 1)=59 by omega] at this
  exact this
end
section
variable {m:Mem}
theorem ix0 (a:T) (r:List T):ixT (.tup (a :: r)) (.int 0)=some a:=at0 a r
theorem w4 {call:Nat→List W→Mem→Res W} {ts:List T} {a:List Nat} {e1 e2 e3:Option W}:ev call gv (.ix (.var 0) (.con (.int 0))) [some (.t (.tup (.str a :: ts))),e1,e2,e3] m = .ok (.t (.str a)) m:=Zk (Za rfl) (Zb _) (ix0 _ _)
theorem w5 {call:Nat→List W→Mem→Res W} {ts:List T} {a:List Nat} {e1 e2 e3 e4:Option W}:ev call gv (.ix (.var 0) (.con (.int 0))) [some (.t (.tup (.str a :: ts))),e1,e2,e3,e4] m = .ok (.t (.str a)) m:=Zk (Za rfl) (Zb _) (ix0 _ _)
end
theorem XQ {call:Nat→List W→Mem→Res W} {gv:List T} {env env':Env} {m m1:Mem} {is:List Nat} {e:E} {k:S} {t:T} (h:ev call gv e env m = .ok (.t t) m1) (hb:Jr (.tp is) t env=some env'):ex call gv (.asgT is e k) env m=ex call gv k env' m1:=by
  rw [ex,h]
  show (match Jr (.tp is) t env with
    | some env=>ex call gv k env m1
    | none=>.stuck)=_
  rw [hb]
inductive PC:T→Prop where
  | no {X:T}:isT X .tuple=false→PC X
  | len {ts:List T}:((ts.length:Int) == 2)=false→PC (.tup ts)
  | odd {a y:T}:isT a .bool=false→PC (.tup [a,y])
  | ok (t:Bool) (y:T):PC (.tup [.bl t,y])
theorem pc (X:T):PC X:=by
  cases X with
  | tup ts =>
    rcases ts with _ | ⟨a,_ | ⟨y,_ | ⟨z,r⟩⟩⟩
    · exact .len rfl
    · exact .len rfl
    · cases a <;> first | exact .ok _ _ | exact .odd rfl
    · refine .len (beq_eq_false_iff_ne.mpr ?_)
      simp only [List.length_cons]
      omega
  | _=>exact .no rfl
def tail3:S→S
  | .ife _ _ _ (.asgT _ _ (.ife _ _ _ k))=>k
  | _=>.done
section
variable {n:Nat} {m:Mem} {w C X y:T} {t c:Bool}
theorem ZhH (h:PC X) (hX:∀ t y,X≠.tup [.bl t,y]):cf (n + 1) 6 [.t w,.t C,.t X] m = .ok (.t (.bl false)) m:=by
  have key:ex (cf n) gv QS [some (.t w),some (.t C),some (.t X),none,none] m = .ok (.ret (.t (.bl false))) m:=by
    unfold QS
    cases h with
    | no h=>exact ZP (ZaS (ZX (k:=false) (QJ (Za rfl) h))) (Zf (Zb _))
    | len h=>exact ZP ((QR (ZX (k:=true) (QJ (Za rfl) rfl))).trans (Zh (k:=true) (Zr (Za rfl) (Xv _)) (Zb _) (by rw [ZeF,h]; rfl))) (Zf (Zb _))
    | odd h =>
      rw [Zq ((QR (ZX (k:=true) (QJ (Za rfl) rfl))).trans (Zh (k:=false) (Zr (Za rfl) (Xv _)) (Zb _) rfl)),XQ (Za rfl) rfl]
      exact ZP (ZaS (ZX (k:=false) (QJ (Za rfl) h))) (Zf (Zb _))
    | ok t y=>exact absurd rfl (hX t y)
  exact ZK (Zdy _ _ _) rfl key (Zu (cell:=false) rfl)
theorem ZfL (hl:cf n 4 [.t w,.t C] m = .ok (.t (.bl c)) m):ex (cf n) gv QS [some (.t w),some (.t C),some (.t (.tup [.bl t,y])),none,none] m=if (t == c)=true then ex (cf n) gv (tail3 QS) [some (.t w),some (.t C),some (.t (.tup [.bl t,y])),some (.t (.bl t)),some (.t y)] m else .ok (.ret (.t (.bl false))) m:=by
  unfold QS
  rw [Zq ((QR (ZX (k:=true) (QJ (Za rfl) rfl))).trans (Zh (k:=false) (Zr (Za rfl) (Xv _)) (Zb _) rfl)),XQ (Za rfl) rfl]
  have hc:ev (cf n) gv (.or (.not (.isi (.var 3) .bool)) (.cmp .NotEq (.var 3) (.call 4 (.cons (.var 0) (.cons (.var 1) .nil))))) [some (.t w),some (.t C),some (.t (.tup [.bl t,y])),some (.t (.bl t)),some (.t y)] m = .ok (.t (.bl (!(t == c)))) m :=
    (QR (ZX (k:=true) (QJ (Za rfl) rfl))).trans (Zh (Za rfl) ((Zy (Za rfl) (Za rfl)).trans hl) (Zli _ _))
  cases q:(t == c) with
  | true =>
    rw [q] at hc
    exact Zq hc
  | false =>
    rw [q] at hc
    exact ZP hc (Zf (Zb _))
end
def nonB:T→Bool
  | .non=>true
  | _=>false
inductive QC (L:Nat):T→Prop where
  | no {X:T}:isT X .tuple=false→QC L X
  | len {ts:List T}:((ts.length:Int) == 2)=false→QC L (.tup ts)
  | odd {k z:T}:isT k .int=false→QC L (.tup [k,z])
  | bl (b:Bool) (z:T):QC L (.tup [.bl b,z])
  | low {i:Int} (z:T):i < 0→QC L (.tup [.int i,z])
  | high {i:Int} (z:T):0≤i→(L:Int)≤i→QC L (.tup [.int i,z])
  | ok {i:Int} (z:T):0≤i→i < L→QC L (.tup [.int i,z])
theorem qc (L:Nat) (X:T):QC L X:=by
  cases X with
  | tup ts =>
    rcases ts with _ | ⟨a,_ | ⟨y,_ | ⟨z,r⟩⟩⟩
    · exact .len rfl
    · exact .len rfl
    · cases a with
      | int i =>
        by_cases h0:i < 0
        · exact .low _ h0
        · by_cases h1:i < L
          · exact .ok _ (by omega) h1
          · exact .high _ (by omega) (by omega)
      | bl b=>exact .bl b y
      | _=>exact .odd rfl
    · refine .len (beq_eq_false_iff_ne.mpr ?_)
      simp only [List.length_cons]
      omega
  | _=>exact .no rfl
def Znc:T→Bool
  | .tup (.bl t :: _)=>t
  | _=>false
theorem ZbI {n:Nat} {m:Mem} {x:T}:cf (n + 1) 0 [.t x] m = .ok (.t (.bl (isT x .int && !isT x .bool))) m:=by
  have key:ex (cf n) gv JH [some (.t x)] m = .ok (.ret (.t (.bl (isT x .int && !isT x .bool)))) m:=by
    unfold JH
    refine Zf ?_
    cases q:isT x .int with
    | true=>exact (Jw (QJ (Za rfl) q)).trans (ZX (QJ (Za rfl) rfl))
    | false=>exact Jx (QJ (Za rfl) q)
  exact ZK (Zfs _ _ _) rfl key (Zu (cell:=false) rfl)
theorem ZiP {call:Nat→List W→Mem→Res W} {gv:List T} {env:Env} {m:Mem} {a b c:E} {x y:T} {o p:PySem.CmpOp} (h1:ev call gv a env m = .ok (.t x) m) (h2:ev call gv b env m = .ok (.t y) m) (h3:cmpT o x y=some false):ev call gv (.chn o p a b c) env m = .ok (.t (.bl false)) m:=by
  rw [ev,h1,Zw,h2,Zw]
  show (match cmpT o x y with
    | some true=>_
    | some false=>_
    | none=>_)=_
  rw [h3]
theorem Zfm {call:Nat→List W→Mem→Res W} {gv:List T} {env:Env} {m:Mem} {a b c:E} {x y z:T} {o p:PySem.CmpOp} {k:Bool} (h1:ev call gv a env m = .ok (.t x) m) (h2:ev call gv b env m = .ok (.t y) m) (h3:cmpT o x y=some true) (h4:ev call gv c env m = .ok (.t z) m) (h5:cmpT p y z=some k):ev call gv (.chn o p a b c) env m = .ok (.t (.bl k)) m:=by
  rw [ev,h1,Zw,h2,Zw]
  show (match cmpT o x y with
    | some true=>(ev call gv c env m).bind fun z m=>pur (((view (.t y) m).bind fun y=>(view z m).bind fun z=>cmpT p y z).map .bl) m
    | some false=>_
    | none=>_)=_
  rw [h3]
  show (ev call gv c env m).bind _=_
  rw [h4]
  show pur ((cmpT p y z).map .bl) m=_
  rw [h5]
  rfl
def ZjG:S→S
  | .ife _ _ _ (.ife _ _ _ k)=>k
  | _=>.done
section
variable {C w X y:T} {d:Nat} {c b b0:Bool} {ts us:List T}
def Lets (C:T) (d:Nat) (w:T) (c:Bool):Prop:=∀ n m,cf (n + (2 * d + 3)) 4 [.t w,.t C] m = .ok (.t (.bl c)) m
def ShT (C w:T) (d:Nat) (c:Bool) (y:T) (b:Bool):Prop:=∀ n m,ex (cf (n + (2 * d + 3))) gv (tail3 QS) [some (.t w),some (.t C),some (.t (.tup [.bl c,y])),some (.t (.bl c)),some (.t y)] m = .ok (.ret (.t (.bl b))) m
def Sh (C:T) (d:Nat) (w X:T) (b:Bool):Prop:=∀ n m,cf (n + (2 * d + 4)) 6 [.t w,.t C,.t X] m = .ok (.t (.bl b)) m
theorem ZdT {b:Bool} (hl:Lets C d w c) (h:ShT C w d c y b):Sh C d w (.tup [.bl c,y]) b:=fun n m=>by
  have k:=ZfL (y:=y) (t:=c) (hl n m)
  rw [if_pos (beq_self_eq_true c),h n m] at k
  exact ZK (Zdy (n + (2 * d + 3)) _ _) rfl k (Zu (cell:=false) rfl)
theorem Zl5 {t:Bool} (hl:Lets C d w c) (q:(t == c)=false):Sh C d w (.tup [.bl t,y]) false:=fun n m=>by
  have k:=ZfL (y:=y) (t:=t) (hl n m)
  rw [if_neg (by rw [q]; decide)] at k
  exact ZK (Zdy (n + (2 * d + 3)) _ _) rfl k (Zu (cell:=false) rfl)
theorem ZcG (hX:∀ t y,X≠.tup [.bl t,y]):Sh C d w X false:=fun n m=>ZhH (n:=n + (2 * d + 3)) (pc X) hX
def ZcB (C:T) (d:Nat) (w:T):Prop:=∀ X:T,∃ b:Bool,Sh C d w X b∧(b=true→∃ t y,X = .tup [.bl t,y])
theorem Zc6 (hl:Lets C d w c) (h:∀ y,∃ b,ShT C w d c y b):ZcB C d w:=by
  intro X
  by_cases hX:∃ t y,X = .tup [.bl t,y]
  · obtain ⟨t,y,rfl⟩:=hX
    cases q:(t == c) with
    | true =>
      have e:=eq_of_beq q
      subst e
      obtain ⟨b,h1⟩:=h y
      exact ⟨b,ZdT hl h1,fun _=>⟨_,_,rfl⟩⟩
    | false=>exact ⟨false,Zl5 hl q,fun z=>by cases z⟩
  · exact ⟨false,ZcG fun t y e=>hX ⟨t,y,e⟩,fun z=>by cases z⟩
theorem Zc5 {a:List Nat} {ts:List T} (h1:(a == [110,111,116])=false) (h2:cmpT .NotIn (.str a) (.tup [.str [97,110,100],.str [111,114]])=some true):ShT C (.tup (.str a :: ts)) d c y (nonB y):=by
  intro n m
  unfold QS
  dsimp only [tail3]
  rw [Zq (Zh w5 (Zb _) (by rw [Zcm,h1]))]
  exact ZP (Zh w5 (Q3 (Zb _) (Zb _)) h2) (Zf (Zh (Za rfl) (Zb _) (by cases y <;> rfl)))
theorem ZeY {b:Bool} (h:Sh C d w y b):ShT C (.tup [.str [110,111,116],w]) (d + 1) c y b:=fun n m=>by
  have h1:=h (n + 1) m
  rw [show n + 1 + (2 * d + 4)=n + (2 * (d + 1) + 3) by omega] at h1
  unfold QS
  dsimp only [tail3]
  exact ZP (Zh (k:=true) w5 (Zb _) rfl) (Zf ((Z2 (Zk (Za rfl) (Zb _) rfl) (Za rfl) (Za rfl)).trans h1))
theorem Zic {i:Int} {z:T} {r:Bool} (h0:0≤i) (h1:i < ts.length) {t:T} (hx:ixT (.tup ts) (.int i)=some t) (s1:Sh C d t z r) (s3:r=true→∃ t y,z = .tup [.bl t,y]) (n:Nat) (m:Mem) :
    ex (cf (n + (2 * d + 4))) gv Z0 [some (.t (.tup ts)),some (.t C),some (.t (.bl c)),some (.t (.tup [.int i,z])),none,none] m = .ok (.ret (.t (.bl (r && (Znc z == c))))) m:=by
  have wh:cf (n + (2 * d + 4)) 0 [.t (.int i)] m = .ok (.t (.bl true)) m:=ZbI (n:=n + (2 * d + 3))
  unfold Z0
  rw [Zq ((QR (ZX (k:=true) (QJ (Za rfl) rfl))).trans (Zh (k:=false) (Zr (Za rfl) (Xv _)) (Zb _) rfl)),XQ (Za rfl) rfl]
  rw [Zq ((QR (ZX (k:=true) ((QK (Za rfl)).trans wh))).trans (ZX (k:=true) (Zfm (Zb _) (Za rfl) (by rw [c_le,decide_eq_true h0]) (Zr (Za rfl) (Xv _)) (by rw [c_lt,decide_eq_true h1]))))]
  refine Zf ?_
  have g:=(Z2 (gv:=gv) (f:=6) (Zk (Za (env:=[some (.t (.tup ts)),some (.t C),some (.t (.bl c)),some (.t (.tup [.int i,z])),some (.t (.int i)),some (.t z)]) (i:=0) rfl) (Za (i:=4) rfl) hx) (Za (i:=1) rfl) (Za (i:=5) rfl)).trans (s1 n m)
  cases r with
  | false=>exact Jx g
  | true =>
    obtain ⟨t',y',rfl⟩:=s3 rfl
    exact (Jw g).trans (Zh (Zk (Za rfl) (Zb _) (ix0 _ _)) (Za rfl) (Zjf _ _))
variable {f:T→T→Bool}
theorem Znk {P:T→T→Bool→Prop} (h:∀ t∈ts,∀ z,∃ b,P t z b):∃ f:T→T→Bool,∀ t∈ts,∀ z,P t z (f t z):=by
  classical
  refine ⟨fun t z=>if ht:t∈ts then (h t ht z).choose else false,fun t ht z=>?_⟩
  simp only [dif_pos ht]
  exact (h t ht z).choose_spec
theorem ZfD (f:T→T→Bool):∀ ts us:List T,(zipL ts us).flatMap (fun e=>match e with | .tup [x,z]=>[T.bl (f x z)] | _=>[])=(List.zipWith f ts us).map .bl
  | [],_=>rfl
  | _ :: _,[]=>rfl
  | t :: ts,u :: us=>by
    show [T.bl (f t u)]++(zipL ts us).flatMap _=_
    rw [ZfD f ts us]
    rfl
theorem zip_at {e:T} (h:e∈zipL ts us):∃ (k:Nat) (h1:k < ts.length) (h2:k < us.length),e = .tup [ts[k],us[k]]:=by
  unfold zipL at h
  obtain ⟨k,hk,rfl⟩:=List.getElem_of_mem h
  rw [List.length_zipWith] at hk
  rw [List.getElem_zipWith]
  exact ⟨k,by omega,by omega,rfl⟩
theorem Zfe {k z:T} (h:(isT k .int && !isT k .bool)=false) (n:Nat) (m:Mem):ex (cf (n + (2 * d + 4))) gv Z0 [some (.t (.tup ts)),some (.t C),some (.t (.bl c)),some (.t (.tup [k,z])),none,none] m = .ok (.ret (.t (.bl false))) m:=by
  have wh:cf (n + (2 * d + 4)) 0 [.t k] m = .ok (.t (.bl false)) m:=by
    rw [← h]
    exact ZbI (n:=n + (2 * d + 3))
  unfold Z0
  rw [Zq ((QR (ZX (k:=true) (QJ (Za rfl) rfl))).trans (Zh (k:=false) (Zr (Za rfl) (Xv _)) (Zb _) rfl)),XQ (Za rfl) rfl]
  exact ZP (ZaS (ZX (k:=false) ((QK (Za rfl)).trans wh))) (Zf (Zb _))
theorem ZmR (hts:∀ t∈ts,ZcB C d t) (y:T):∃ b,∀ n m,ex (cf (n + (2 * d + 4))) gv Z0 [some (.t (.tup ts)),some (.t C),some (.t (.bl c)),some (.t y),none,none] m = .ok (.ret (.t (.bl b))) m:=by
  have wh:∀ (n:Nat) (m:Mem) (x:T) (r:Bool),(isT x .int && !isT x .bool)=r→cf (n + (2 * d + 4)) 0 [.t x] m = .ok (.t (.bl r)) m:=fun n m x r h=>by
    rw [← h]
    exact ZbI (n:=n + (2 * d + 3))
  cases qc ts.length y with
  | no h =>
    refine ⟨false,fun n m=>?_⟩
    unfold Z0
    exact ZP (ZaS (ZX (k:=false) (QJ (Za rfl) h))) (Zf (Zb _))
  | @len vs h =>
    refine ⟨false,fun n m=>?_⟩
    unfold Z0
    exact ZP ((QR (ZX (k:=true) (QJ (Za rfl) rfl))).trans (Zh (k:=true) (Zr (Za rfl) (Xv _)) (Zb _) (by rw [ZeF,h]; rfl))) (Zf (Zb _))
  | odd h=>exact ⟨false,fun n m=>Zfe (by rw [h]; rfl) n m⟩
  | bl b z=>exact ⟨false,fun n m=>Zfe rfl n m⟩
  | @low i z h =>
    refine ⟨false,fun n m=>?_⟩
    unfold Z0
    rw [Zq ((QR (ZX (k:=true) (QJ (Za rfl) rfl))).trans (Zh (k:=false) (Zr (Za rfl) (Xv _)) (Zb _) rfl)),XQ (Za rfl) rfl]
    exact ZP ((QR (ZX (k:=true) ((QK (Za rfl)).trans (wh n m _ _ rfl)))).trans (ZX (k:=false) (ZiP (Zb _) (Za rfl) (by rw [c_le,decide_eq_false (by omega)])))) (Zf (Zb _))
  | @high i z h0 h1 =>
    refine ⟨false,fun n m=>?_⟩
    unfold Z0
    rw [Zq ((QR (ZX (k:=true) (QJ (Za rfl) rfl))).trans (Zh (k:=false) (Zr (Za rfl) (Xv _)) (Zb _) rfl)),XQ (Za rfl) rfl]
    exact ZP ((QR (ZX (k:=true) ((QK (Za rfl)).trans (wh n m _ _ rfl)))).trans (ZX (k:=false) (Zfm (Zb _) (Za rfl) (by rw [c_le,decide_eq_true h0]) (Zr (Za rfl) (Xv _)) (by rw [c_lt,decide_eq_false (by omega)])))) (Zf (Zb _))
  | @ok i z h0 h1 =>
    have hk:i.toNat < ts.length:=by omega
    have hx:ixT (.tup ts) (.int i)=some ts[i.toNat]:=by
      show atT ts i=_
      rw [Zgd h0 h1]
      exact List.getElem?_eq_getElem hk
    obtain ⟨r,s1,s3⟩:=hts ts[i.toNat] (List.getElem_mem hk) z
    exact ⟨r && (Znc z == c),Zic h0 h1 hx s1 s3⟩
theorem Zjn (hlen:us.length=ts.length) (hl:ts.length≤100) (hf:∀ (k:Nat) (h1:k < ts.length) (h2:k < us.length),Sh C d ts[k] us[k] (f ts[k] us[k])) (n:Nat) (m:Mem) :
    ex (cf (n + (2 * d + 4))) gv Qm [some (.t (.tup ts)),some (.t C),some (.t (.tup us))] m = .ok (.ret (.t (.bl ((List.zipWith f ts us).all id)))) m:=by
  unfold Qm
  rw [Zq ((QR (ZX (k:=true) (QJ (Za rfl) rfl))).trans (Zh (k:=false) (Zr (Za rfl) (Xv _)) (Zr (Za rfl) (Xv _)) (by rw [ZeF,hlen,beq_self_eq_true]; rfl)))]
  have h:=JG (f:=Jh (cf (n + (2 * d + 4))) gv .nil Xx) (tg:=.tp [0,1]) (env:=[none,none,some (.t C)]) (m:=m) (g:=fun e=>match e with | .tup [x,z]=>[T.bl (f x z)] | _=>[]) (zipL ts us) (fun e he=>by
    obtain ⟨k,h1,h2,rfl⟩:=zip_at he
    exact ⟨[some (.t ts[k]),some (.t us[k]),some (.t C)],rfl,ZeU (show ev (cf (n + (2 * d + 4))) gv Xx _ m=_ from JQ ((Z2 (Za rfl) (Za rfl) (Za rfl)).trans (hf k h1 h2 n m)))⟩)
  rw [ZfD] at h
  have hz:bltT .zip2 [.tup ts,.tup us]=some (.lst (zipL ts us)):=if_pos ⟨hlen.symm,by unfold lim; omega⟩
  refine Zf (Zr ?_ (l_all (ZdF _)))
  exact Qj (x:=.t (.lst (zipL ts us))) (m0:=m) (m1:=m) (ZaT (Zd (Za rfl) (Zd (Za rfl) Zi)) rfl hz) rfl h (by rw [List.length_map,List.length_zipWith]; unfold lim; omega)
theorem zip_no {t u:T} {ts us:List T} (h:f t u=false):(List.zipWith f (t :: ts) (u :: us)).all id=false:=by simp [h]
theorem Zjq (hts:∀ t∈ts,ZcB C d t) (hl:ts.length≤100) (y:T):∃ b,(∀ n m,ex (cf (n + (2 * d + 4))) gv Qm [some (.t (.tup ts)),some (.t C),some (.t y)] m = .ok (.ret (.t (.bl b))) m)∧((∃ u r,y = .tup (u :: r)∧∀ t z,u≠.tup [.bl t,z])→b=false):=by
  have hy:isT y .tuple=false∨∃ us,y = .tup us:=by
    cases y with
    | tup us=>exact .inr ⟨us,rfl⟩
    | _=>exact .inl rfl
  rcases hy with h | ⟨us,rfl⟩
  · refine ⟨false,fun n m=>?_,fun _=>rfl⟩
    unfold Qm
    exact ZP (ZaS (ZX (k:=false) (QJ (Za rfl) h))) (Zf (Zb _))
  cases q:((us.length:Int) == (ts.length:Int)) with
  | false =>
    refine ⟨false,fun n m=>?_,fun _=>rfl⟩
    unfold Qm
    exact ZP ((QR (ZX (k:=true) (QJ (Za rfl) rfl))).trans (Zh (k:=true) (Zr (Za rfl) (Xv _)) (Zr (Za rfl) (Xv _)) (by rw [ZeF,q]; rfl))) (Zf (Zb _))
  | true =>
    have hlen:us.length=ts.length:=by
      have:=eq_of_beq q
      omega
    obtain ⟨f,hf⟩:=Znk hts
    refine ⟨(List.zipWith f ts us).all id,Zjn hlen hl fun k h1 h2=>(hf _ (List.getElem_mem h1) us[k]).1,?_⟩
    rintro ⟨u,r,e,hu⟩
    cases e
    cases ts with
    | nil=>simp at hlen
    | cons t ts =>
      refine zip_no ?_
      cases hq:f t u with
      | false=>rfl
      | true =>
        obtain ⟨t',y',e⟩:=(hf t List.mem_cons_self u).2 hq
        exact absurd e (hu t' y')
abbrev jnW (b:Bool) (ts:List T):T:=.tup [.str (if b then [97,110,100] else [111,114]),.tup ts]
theorem ZlI {n:Nat} {m:Mem} {e2 e4:Option W}:ex (cf n) gv (tail3 QS) [some (.t (.tup [.str (if b then [97,110,100] else [111,114]),.tup ts])),some (.t C),e2,some (.t (.bl c)),e4] m=ex (cf n) gv (ZjG (tail3 QS)) [some (.t (.tup [.str (if b then [97,110,100] else [111,114]),.tup ts])),some (.t C),e2,some (.t (.bl c)),e4] m:=by
  unfold QS
  dsimp only [tail3,ZjG]
  rw [Zq (Zh (k:=false) w5 (Zb _) (by cases b <;> rfl)),Zq (Zh (k:=false) w5 (Q3 (Zb _) (Zb _)) (by cases b <;> rfl))]
theorem jn_or {n:Nat} {m:Mem} {e2 e4:Option W}:ev (cf n) gv (.cmp .Eq (.var 3) (.cmp .Eq (.ix (.var 0) (.con (.int 0))) (.con (.str [111,114])))) [some (.t (.tup [.str (if b then [97,110,100] else [111,114]),.tup ts])),some (.t C),e2,some (.t (.bl c)),e4] m = .ok (.t (.bl (!(c == b)))) m:=by
  have:=Zh (call:=cf n) (gv:=gv) (y:=.bl (!b)) (Za (env:=[some (.t (.tup [.str (if b then [97,110,100] else [111,114]),.tup ts])),some (.t C),e2,some (.t (.bl c)),e4]) (m:=m) (i:=3) rfl) (Zh (op:=.Eq) w5 (Zb (.str [111,114])) (by cases b <;> rfl)) (Zjf c (!b))
  rw [this]
  cases b <;> cases c <;> rfl
theorem ZeX {r:Bool} (hc:(c == b)=false) (h:∀ n m,ex (cf (n + (2 * d + 4))) gv Z0 [some (.t (.tup ts)),some (.t C),some (.t (.bl c)),some (.t y),none,none] m = .ok (.ret (.t (.bl r))) m):ShT C (jnW b ts) (d + 1) c y r:=fun n m=>by
  have h1:cf (n + (2 * d + 5)) 7 [.t (.tup ts),.t C,.t (.bl c),.t y] m = .ok (.t (.bl r)) m:=ZK (Zey (n + (2 * d + 4)) _ _) rfl (h n m) (Zu (cell:=false) rfl)
  rw [show n + (2 * d + 5)=n + (2 * (d + 1) + 3) by omega] at h1
  rw [ZlI]
  unfold QS
  dsimp only [tail3,ZjG]
  exact ZP (by rw [jn_or,hc]; rfl) (Zf ((ZL (Zd (Zk (Za rfl) (Zb _) rfl) (Zd (Za rfl) (Zd (Za rfl) (Zd (Za rfl) Zi))))).trans h1))
theorem ZeZ {r:Bool} (hc:(c == b)=true) (h:∀ n m,ex (cf (n + (2 * d + 4))) gv Qm [some (.t (.tup ts)),some (.t C),some (.t y)] m = .ok (.ret (.t (.bl r))) m):ShT C (jnW b ts) (d + 1) c y r:=fun n m=>by
  have h1:cf (n + (2 * d + 5)) 8 [.t (.tup ts),.t C,.t y] m = .ok (.t (.bl r)) m:=ZK (Zez (n + (2 * d + 4)) _ _) rfl (h n m) (Zu (cell:=false) rfl)
  rw [show n + (2 * d + 5)=n + (2 * (d + 1) + 3) by omega] at h1
  rw [ZlI]
  unfold QS
  dsimp only [tail3,ZjG]
  rw [Zq (by rw [jn_or,hc]; rfl)]
  exact Zf ((Z2 (Zk (Za rfl) (Zb _) rfl) (Za rfl) (Za rfl)).trans h1)
theorem ZjM (hL:Lets C (d + 1) (jnW b ts) c) (hl:ts.length≤100) (h:∀ t∈ts,ZcB C d t):ZcB C (d + 1) (jnW b ts):=by
  refine Zc6 hL fun y=>?_
  cases hc:(c == b) with
  | false =>
    obtain ⟨r,h1⟩:=ZmR (c:=c) h y
    exact ⟨r,ZeX hc h1⟩
  | true =>
    obtain ⟨r,h1,_⟩:=Zjq h hl y
    exact ⟨r,ZeZ hc h1⟩
theorem ZhI (hL:Lets C (d + 1) (.tup [.str [110,111,116],w]) c) (h:ZcB C d w):ZcB C (d + 1) (.tup [.str [110,111,116],w]):=by
  refine Zc6 hL fun y=>?_
  obtain ⟨r,h1,_⟩:=h y
  exact ⟨r,ZeY h1⟩
theorem Zdm (h:Lf w):∃ a ts,w = .tup (.str a :: ts)∧(a == [110,111,116])=false∧cmpT .NotIn (.str a) (.tup [.str [97,110,100],.str [111,114]])=some true:=by
  cases h <;> exact ⟨_,_,rfl,rfl,rfl⟩
theorem Zgp (hL:Lets C d w c) (h:Lf w):ZcB C d w:=by
  obtain ⟨a,ts,rfl,h1,h2⟩:=Zdm h
  exact Zc6 hL fun y=>⟨nonB y,Zc5 h1 h2⟩
inductive Bad:T→Prop where
  | unit:Bad (.tup [.tup [],.tup []])
  | bl (z:T):Bad (.tup [.bl false,z])
theorem Zlp (hL:Lets C d w false) (h:Lf w) (hy:Bad y):Sh C d w (.tup [.bl false,y]) false:=by
  obtain ⟨a,ts,rfl,h1,h2⟩:=Zdm h
  have:=Zc5 (C:=C) (d:=d) (c:=false) (y:=y) (ts:=ts) h1 h2
  rw [show nonB y=false by cases hy <;> rfl] at this
  exact ZdT hL this
theorem Znv (hL:Lets C (d + 1) (.tup [.str [110,111,116],w]) false) (h:Lets C d w true) (hy:Bad y):Sh C (d + 1) (.tup [.str [110,111,116],w]) (.tup [.bl false,y]) false:=by
  refine ZdT hL (ZeY ?_)
  cases hy with
  | unit=>exact ZcG fun t y e=>by cases e
  | bl z=>exact Zl5 h rfl
theorem bad_jn (hL:Lets C (d + 1) (jnW b ts) false) (hl:ts.length≤100) (h:∀ t∈ts,ZcB C d t) (hy:Bad y):Sh C (d + 1) (jnW b ts) (.tup [.bl false,y]) false:=by
  refine ZdT hL ?_
  cases b with
  | true=>exact ZeX rfl (by cases hy <;> exact fun n m=>Zfe rfl n m)
  | false =>
    obtain ⟨r,h1,h2⟩:=Zjq h hl y
    have e:r=false:=h2 (by
      cases hy with
      | unit=>exact ⟨_,_,rfl,fun t z e=>by cases e⟩
      | bl z=>exact ⟨_,_,rfl,fun t z e=>by cases e⟩)
    subst e
    exact ZeZ rfl h1
def Dr (d:Nat) (R:T):Prop:=∀ k,Zm (k + (2 * d + 1)) R=true
def Good (C:T) (d:Nat) (w:T) (c:Bool) (X:T):Prop:=Dr d X∧(∃ x,X = .tup [.bl c,x])∧Sh C d w X true
theorem ZiI (hL:Lets C d w c) (h:Lf w):Good C d w c (.tup [.bl c,.non]):=by
  obtain ⟨a,ts,rfl,h1,h2⟩:=Zdm h
  exact ⟨fun k=>rfl,⟨_,rfl⟩,ZdT hL (Zc5 (y:=.non) h1 h2)⟩
theorem ZkV (hL:Lets C (d + 1) (.tup [.str [110,111,116],w]) (!c)) (h:Good C d w c X):Good C (d + 1) (.tup [.str [110,111,116],w]) (!c) (.tup [.bl (!c),X]):=by
  refine ⟨fun k=>?_,⟨_,rfl⟩,ZdT hL (ZeY h.2.2)⟩
  have:=h.1 (k + 1)
  rw [show k + (2 * (d + 1) + 1)=(k + 1 + (2 * d + 1)) + 1 by omega]
  simp [Zm,Zo,this]
theorem ZkU {k:Nat} (hL:Lets C (d + 1) (jnW b ts) c) (hc:(c == b)=false) (hk:k < ts.length) (h:Good C d ts[k] c X):Good C (d + 1) (jnW b ts) c (.tup [.bl c,.tup [.int (k:Int),X]]):=by
  obtain ⟨h1,⟨x,rfl⟩,h3⟩:=h
  have hx:ixT (.tup ts) (.int (k:Int))=some ts[k]:=by
    show atT ts (k:Int)=_
    rw [Zgd (by omega) (by omega),Int.toNat_natCast]
    exact List.getElem?_eq_getElem hk
  refine ⟨fun j=>?_,⟨_,rfl⟩,ZdT hL (ZeX hc fun n m=>?_)⟩
  · have:=h1 j
    rw [show j + (2 * (d + 1) + 1)=(j + (2 * d + 1)) + 1 + 1 by omega]
    simp [Zm,Zo,this] at this ⊢
    exact this
  have:=Zic (c:=c) (ts:=ts) (i:=(k:Int)) (by omega) (by omega) hx h3 (fun _=>⟨_,_,rfl⟩) n m
  rw [show (true && (Znc (.tup [.bl c,x]) == c))=true from by show (c == c)=true; exact beq_self_eq_true c] at this
  exact this
theorem ZkW {g:T→Bool} (hL:Lets C (d + 1) (jnW b ts) c) (hc:(c == b)=true) (hlen:us.length=ts.length) (hl:ts.length≤100) (h:∀ (k:Nat) (h1:k < ts.length) (h2:k < us.length),Good C d ts[k] (g ts[k]) us[k]):Good C (d + 1) (jnW b ts) c (.tup [.bl c,.tup us]):=by
  refine ⟨fun j=>?_,⟨_,rfl⟩,ZdT hL (ZeZ hc fun n m=>?_)⟩
  · rw [show j + (2 * (d + 1) + 1)=(j + (2 * d + 1)) + 1 + 1 by omega]
    have:Zo (j + (2 * d + 1)) us=true:=QD.mpr fun u hu=>by
      obtain ⟨k,hk,rfl⟩:=List.getElem_of_mem hu
      exact (h k (by omega) hk).1 j
    simp [Zm,Zo,this]
  · have:=Zjn (f:=fun _ _=>true) hlen hl (fun k h1 h2=>(h k h1 h2).2.2) n m
    rw [show (List.zipWith (fun _ _=>true) ts us).all id=true from by
      rw [List.all_eq_true]
      intro x hx
      obtain ⟨k,hk,rfl⟩:=List.getElem_of_mem hx
      rw [List.getElem_zipWith]
      rfl] at this
    exact this
end
theorem Xu {α:Type} {f:Env→Mem→Res (List T)} {tg:Tg} {env:Env} {m:Mem} {emb:α→T} {g:α→List T}:∀ (as:List α),(∀ a∈as,∃ env',Jr tg (emb a) env=some env'∧f env' m = .ok (g a) m)→JD f tg (as.map emb) env m = .ok (as.flatMap g) m
  | [],_=>rfl
  | a :: as,h=>by
    obtain ⟨env',h1,h2⟩:=h a List.mem_cons_self
    rw [List.map_cons,JD,h1]
    show (f env' m).bind _=_
    rw [h2,Zw,Xu as fun x hx=>h x (List.mem_cons_of_mem _ hx)]
    rfl
theorem ZbA {α:Type} (p:α→Bool) (F:α→T):∀ l:List α,(l.flatMap fun a=>if p a then [F a] else [])=(l.filter p).map F
  | []=>rfl
  | a :: l=>by
    rw [List.flatMap_cons,ZbA p F l,List.filter_cons]
    cases p a <;> rfl
section
variable {nm kd:List Nat} {mk:List (List Nat)} {sz:List (List Nat×Int)}
theorem Zjj {d:Nat} {t:T} (h:Lf t) (hl:sz.length≤100):Both nm kd mk sz d t (Zac nm mk sz t):=fun n m=>⟨Ziu (n:=n + d) h,law_leaf (n:=n + d) h hl⟩
theorem Zlo {d:Nat} {a:T} {b:Bool} (hb:Both nm kd mk sz d a b):Both nm kd mk sz (d + 1) (.tup [.str [110,111,116],a]) (!b):=by
  intro n m
  refine ⟨?_,?_⟩
  · have g:=(hb n m).1
    have key:ex (cf (n + (d + 3))) gv Zai [some (.t (.tup [.str [110,111,116],a])),some (.t (Z3 nm kd mk sz)),none] m = .ok (.ret (.t (.bl (!b)))) m:=by
      unfold Zai
      rw [Zn w0,way rfl rfl,way rfl rfl,way rfl rfl]
      exact wayT rfl rfl (Zf (ZX ((Zy (Zk (Za rfl) (Zb _) rfl) (Za rfl)).trans g)))
    show cf (n + (d + 3) + 1) _ _ _=_
    exact ZK (Zfr _ _ _) rfl key (Zu (cell:=false) rfl)
  · have g:=(hb n m).2
    have key:ex (cf (n + (d + 1))) gv J5 [some (.t (.tup [.str [110,111,116],a])),some (.t (Z3 nm kd mk sz)),none,none] m = .ok (.ret (.t (.bl (!b)))) m:=by
      unfold J5
      refine (Zn (w:=.t (.str [110,111,116])) (m1:=m) wz4).trans ?_
      rw [way rfl rfl,way rfl rfl,way rfl rfl]
      exact wayT rfl rfl (Zf (ZX ((Zy (Zk (Za rfl) (Zb _) rfl) (Za rfl)).trans g)))
    show cf (n + (d + 1) + 1) _ _ _=_
    exact ZK (ZdC _ _ _) rfl key (Zu (cell:=false) rfl)
theorem Zns {c d:Nat} {b:Bool} {ts:List T} {f:T→Bool} (hd:c≤20) (h6:ts.length≤6) (hkt:∀ t∈ts,Dk c t) (hf:∀ t∈ts,Both nm kd mk sz d t (f t)):Both nm kd mk sz (d + 1) (.tup [.str (if b then [97,110,100] else [111,114]),.tup ts]) (jnB b (ts.map f)):=by
  have hlen:(ts.map f).length≤100:=by rw [List.length_map]; omega
  intro n m
  refine ⟨?_,?_⟩
  · have hc:∀ (c:E) (env:Env),c = .comp 1 [1] (.ix (.var 0) (.con (.int 1))) (.nm 0) .nil (.emit (.call 4 (.cons (.var 0) (.cons (.var 1) .nil))))→env[0]? = some (some (.t (.tup [.str (if b then [97,110,100] else [111,114]),.tup ts])))→env[1]? = some (some (.t (Z3 nm kd mk sz)))→ev (cf (n + (d + 3))) gv c env m = .ok (.t (.lst ((ts.map f).map .bl))) m:=fun c env e h0 h1=>by
      rw [List.map_map]
      exact ZkI e h0 h1 (by omega) fun t ht=>(hf t ht n m).1
    have key:ex (cf (n + (d + 3))) gv Zai [some (.t (.tup [.str (if b then [97,110,100] else [111,114]),.tup ts])),some (.t (Z3 nm kd mk sz)),none] m = .ok (.ret (.t (.bl (jnB b (ts.map f))))) m:=by
      unfold Zai
      cases b with
      | true =>
        rw [Zn w0,way rfl rfl,way rfl rfl,way rfl rfl,way rfl rfl]
        exact wayT rfl rfl (Zf (Zr (hc Zf9 _ rfl rfl rfl) (all_bl _)))
      | false =>
        rw [Zn w0,way rfl rfl,way rfl rfl,way rfl rfl,way rfl rfl,way rfl rfl]
        exact wayT rfl rfl (Zf (Zr (hc Zga _ rfl rfl rfl) (any_bl _)))
    show cf (n + (d + 3) + 1) _ _ _=_
    exact ZK (Zfr _ _ _) rfl key (Zu (cell:=false) rfl)
  · have hemp:∀ env:Env,ev (cf (n + (d + 1))) gv (.lst .nil) env m = .ok (.t (.lst [])) m:=fun env=>Qd Zi rfl Zg
    have key:ex (cf (n + (d + 1))) gv J5 [some (.t (.tup [.str (if b then [97,110,100] else [111,114]),.tup ts])),some (.t (Z3 nm kd mk sz)),none,none] m = .ok (.ret (.t (.bl (jnB b (ts.map f))))) m:=by
      unfold J5
      cases b with
      | true =>
        refine (Zn (w:=.t (.str [97,110,100])) (m1:=m) wz4).trans ?_
        rw [way rfl rfl,way rfl rfl,way rfl rfl,way rfl rfl]
        refine wayT rfl rfl (Zf ?_)
        rw [show jnB true (ts.map f)=(ts.map f).all id from rfl,← Zc2]
        exact Zh (Zes (g:=fun t=>!f t) rfl rfl rfl (by omega) fun t ht=>ZX ((Zy (Za rfl) (Za rfl)).trans (hf t ht n m).2)) (hemp _) (Zcg (ZlQ hd hkt _)).1
      | false =>
        refine (Zn (w:=.t (.str [111,114])) (m1:=m) wz4).trans ?_
        rw [way rfl rfl,way rfl rfl,way rfl rfl,way rfl rfl,way rfl rfl]
        refine wayT rfl rfl (Zf ?_)
        rw [show jnB false (ts.map f)=(ts.map f).any id from rfl,← Zc0]
        exact Zh (Zes (g:=f) rfl rfl rfl (by omega) fun t ht=>(Zy (Za rfl) (Za rfl)).trans (hf t ht n m).2) (hemp _) (Zcg (ZlQ hd hkt _)).2
    show cf (n + (d + 1) + 1) _ _ _=_
    exact ZK (ZdC _ _ _) rfl key (Zu (cell:=false) rfl)
theorem Ju {d:Nat} {w:T} {c:Bool} (h:Both nm kd mk sz d w c):Lets (Z3 nm kd mk sz) d w c:=fun n m=>by
  have:=(h (n + d) m).1
  rw [show n + d + (d + 3)=n + (2 * d + 3) by omega] at this
  exact this
theorem Zhw {Q:T→T→Prop} {ts:List T} {xss:List (List T)} (h:Turns (fun t xs=>∃ w,xs=[w]∧Q t w) ts xss):∃ us:List T,xss.flatten=us∧us.length=ts.length∧∀ (k:Nat) (h1:k < ts.length) (h2:k < us.length),Q ts[k] us[k]:=by
  induction h with
  | nil=>exact ⟨[],rfl,rfl,fun k h1=>by simp at h1⟩
  | cons h _ ih =>
    obtain ⟨w,rfl,hq⟩:=h
    obtain ⟨ws,h1,h2,h3⟩:=ih
    refine ⟨w :: ws,by rw [List.flatten_cons,h1]; rfl,by simp [h2],fun k q1 q2=>?_⟩
    cases k with
    | zero=>exact hq
    | succ k=>exact h3 k (by simpa using q1) (by simpa using q2)
theorem jn_ex {b:Bool} {bs:List Bool} (hc:(jnB b bs == b)=false):∃ (k:Nat) (h:k < bs.length),bs[k]=jnB b bs:=by
  have:∃ x∈bs,x=jnB b bs:=by
    cases b with
    | true =>
      have e:jnB true bs=false:=by cases h:jnB true bs <;> simp_all
      rw [e]
      have:bs.all id=false:=e
      simpa using this
    | false =>
      have e:jnB false bs=true:=by cases h:jnB false bs <;> simp_all
      rw [e]
      have:bs.any id=true:=e
      simpa using this
  obtain ⟨x,hx,e⟩:=this
  obtain ⟨k,hk,e2⟩:=List.getElem_of_mem hx
  exact ⟨k,hk,e2.trans e⟩
structure Tell (nm kd:List Nat) (mk:List (List Nat)) (sz:List (List Nat×Int)) (d:Nat) (w:T) (c:Bool):Prop where
  both:Both nm kd mk sz d w c
  shown:ZcB (Z3 nm kd mk sz) d w
  bad:c=false→∀ y,Bad y→Sh (Z3 nm kd mk sz) d w (.tup [.bl false,y]) false
  any:∀ (n:Nat) (m:Mem) (i:Nat) (s:List T),i < m.length→IsSt s→∃ R s',cf (n + (d + 3)) 33 [.c i,.t w,.t (Z3 nm kd mk sz)] (put m i s) = .ok (.t R) (put m i s')∧IsSt s'∧Good (Z3 nm kd mk sz) d w c R
theorem v5 {call:Nat→List W→Mem→Res W} {m:Mem} {ts:List T} {a:List Nat} {e0 e2 e3 e4:Option W}:ev call gv (.ix (.var 1) (.con (.int 0))) [e0,some (.t (.tup (.str a :: ts))),e2,e3,e4] m = .ok (.t (.str a)) m:=Zk (Za rfl) (Zb _) (ix0 _ _)
theorem Zjl {n d:Nat} {m:Mem} {i:Nat} {s:List T} {w:T} {c:Bool} (h:Both nm kd mk sz d w c):ev (cf (n + (d + 2))) gv (.call 30 (.cons (.var 1) (.cons (.var 2) .nil))) [some (.c i),some (.t w),some (.t (Z3 nm kd mk sz)),none,none] (put m i s) = .ok (.t (.bl c)) (put m i s):=by
  have:=(h (n + 1) (put m i s)).2
  rw [show n + 1 + (d + 1)=n + (d + 2) by omega] at this
  exact (Zy (Za rfl) (Za rfl)).trans this
theorem ZhA {d:Nat} {w:T} (h:Lf w) (hl:sz.length≤100):Tell nm kd mk sz d w (Zac nm mk sz w):=by
  have hb:=Zjj (nm:=nm) (kd:=kd) (mk:=mk) (d:=d) h hl
  refine ⟨hb,Zgp (Ju hb) h,fun e y hy=>?_,fun n m i s hi hs=>?_⟩
  · rw [e] at hb
    exact Zlp (Ju hb) h hy
  · refine ⟨_,s,?_,hs,ZiI (Ju hb) h⟩
    have hin:=Zjl (n:=n) (m:=m) (i:=i) (s:=s) hb
    obtain ⟨a,ts,e,h1,h2⟩:=Zdm h
    have key:ex (cf (n + (d + 2))) gv Zaj [some (.c i),some (.t w),some (.t (Z3 nm kd mk sz)),none,none] (put m i s) = .ok (.ret (.t (.tup [.bl (Zac nm mk sz w),.non]))) (put m i s):=by
      unfold Zaj
      rw [Zn hin]
      subst e
      simp only [List.set_cons_succ,List.set_cons_zero]
      rw [Zq (Zh v5 (Zb _) (by rw [Zcm,h1]))]
      exact ZP (Zh v5 (Q3 (Zb _) (Zb _)) h2) (Zf (Q3 (Za rfl) (Zb _)))
    show cf (n + (d + 2) + 1) _ _ _=_
    exact ZK (Zfv _ _ _) rfl key (Zu (cell:=false) rfl)
theorem ZjC {d:Nat} {w:T} {c:Bool} (h:Tell nm kd mk sz d w c):Tell nm kd mk sz (d + 1) (.tup [.str [110,111,116],w]) (!c):=by
  have hb:=Zlo h.both
  refine ⟨hb,ZhI (Ju hb) h.shown,fun e y hy=>?_,fun n m i s hi hs=>?_⟩
  · have e:c=true:=by cases c <;> simp_all
    subst e
    exact Znv (Ju hb) (Ju h.both) hy
  · obtain ⟨R,s',h1,hs',g⟩:=h.any n m i s hi hs
    refine ⟨_,s',?_,hs',ZkV (Ju hb) g⟩
    have hin:=Zjl (n:=n) (m:=m) (i:=i) (s:=s) hb
    have key:ex (cf (n + (d + 1 + 2))) gv Zaj [some (.c i),some (.t (.tup [.str [110,111,116],w])),some (.t (Z3 nm kd mk sz)),none,none] (put m i s) = .ok (.ret (.t (.tup [.bl (!c),R]))) (put m i s'):=by
      unfold Zaj
      rw [Zn hin]
      simp only [List.set_cons_succ,List.set_cons_zero]
      exact ZP (Zh (k:=true) v5 (Zb _) rfl) (Zf (Q3 (Za rfl) ((Z2 (Za rfl) (Zk (Za rfl) (Zb _) rfl) (Za rfl)).trans h1)))
    show cf (n + (d + 1 + 2) + 1) _ _ _=_
    exact ZK (Zfv _ _ _) rfl key (Zu (cell:=false) (by rw [Z4,Z4]))
theorem Zl0 {c0 d:Nat} {b:Bool} {ts:List T} {f:T→Bool} (hd:c0≤20) (h6:ts.length≤6) (hkt:∀ t∈ts,Dk c0 t) (hf:∀ t∈ts,Tell nm kd mk sz d t (f t)):Tell nm kd mk sz (d + 1) (jnW b ts) (jnB b (ts.map f)):=by
  have hb:Both nm kd mk sz (d + 1) (jnW b ts) (jnB b (ts.map f)):=Zns hd h6 hkt fun t ht=>(hf t ht).both
  generalize hc:jnB b (ts.map f)=c at hb ⊢
  refine ⟨hb,ZjM (Ju hb) (by omega) fun t ht=>(hf t ht).shown,fun e y hy=>?_,fun n m i s hi hs=>?_⟩
  · subst e
    exact bad_jn (Ju hb) (by omega) (fun t ht=>(hf t ht).shown) hy
  · have hin:=Zjl (n:=n) (m:=m) (i:=i) (s:=s) hb
    have key:∃ R s',ex (cf (n + (d + 1 + 2))) gv Zaj [some (.c i),some (.t (jnW b ts)),some (.t (Z3 nm kd mk sz)),none,none] (put m i s) = .ok (.ret (.t R)) (put m i s')∧IsSt s'∧Good (Z3 nm kd mk sz) (d + 1) (jnW b ts) c R:=by
      unfold Zaj
      rw [Zn hin]
      simp only [List.set_cons_succ,List.set_cons_zero]
      rw [Zq (Zh (k:=false) v5 (Zb _) (by cases b <;> rfl)),Zq (Zh (k:=false) v5 (Q3 (Zb _) (Zb _)) (by cases b <;> rfl))]
      have hcond:∀ e4:Option W,ev (cf (n + (d + 1 + 2))) gv (.cmp .Eq (.var 3) (.cmp .Eq (.ix (.var 1) (.con (.int 0))) (.con (.str [97,110,100])))) [some (.c i),some (.t (jnW b ts)),some (.t (Z3 nm kd mk sz)),some (.t (.bl c)),e4] (put m i s) = .ok (.t (.bl (c == b))) (put m i s):=fun e4 =>
        Zh (y:=.bl b) (Za rfl) (Zh v5 (Zb _) (by cases b <;> rfl)) (Zjf _ _)
      have hcond:=hcond none
      cases hq:(c == b) with
      | true =>
        rw [hq] at hcond
        obtain ⟨xss,m',h5,⟨s3,rfl,hs3⟩,ht⟩:=Xr (f:=Jh (cf (n + (d + 1 + 2))) gv .nil Zdt) (tg:=.nm 0) (env:=[none,some (.c i),some (.t (Z3 nm kd mk sz))]) (P:=fun m'=>∃ s,m' = put m i s∧IsSt s) (R:=fun t xs=>∃ w,xs=[w]∧Good (Z3 nm kd mk sz) d t (f t) w) ts (put m i s) ⟨s,rfl,hs⟩ (by
          rintro t ht m' ⟨s,rfl,hs⟩
          obtain ⟨R,s4,h6,hs4,hu⟩:=(hf t ht).any n m i s hi hs
          exact ⟨[some (.t t),some (.c i),some (.t (Z3 nm kd mk sz))],[R],put m i s4,rfl,ZeU (show ev _ gv Zdt _ _=_ from JQ ((Z2 (Za rfl) (Za rfl) (Za rfl)).trans h6)),⟨s4,rfl,hs4⟩,R,rfl,hu⟩)
        obtain ⟨us,e1,e2,e3⟩:=Zhw ht
        rw [e1] at h5
        refine ⟨_,s3,ZP hcond (Zf (Q3 (Za rfl) (Zr (Qj (x:=.t (.tup ts)) (m0:=put m i s) (m1:=put m i s) (Zk (Za rfl) (Zb _) rfl) rfl h5 (by rw [e2]; unfold lim; omega)) (Zf2 _)))),hs3,ZkW (g:=f) (Ju hb) hq e2 (by omega) e3⟩
      | false =>
        rw [hq] at hcond
        rw [Zq hcond]
        have hlaw:∀ t∈ts,cf (n + (d + 1 + 2)) 30 [.t t,.t (Z3 nm kd mk sz)] (put m i s) = .ok (.t (.bl (f t))) (put m i s):=fun t ht=>by
          have:=((hf t ht).both (n + 2) (put m i s)).2
          rw [show n + 2 + (d + 1)=n + (d + 1 + 2) by omega] at this
          exact this
        have hx:∀ (k:Nat) (h:k < ts.length),ixT (.tup ts) (.int (k:Int))=some ts[k]:=fun k h=>by
          show atT ts (k:Int)=_
          rw [Zgd (by omega) (by omega),Int.toNat_natCast]
          exact List.getElem?_eq_getElem h
        have h:=Xu (f:=Jh (cf (n + (d + 1 + 2))) gv (.cons (.cmp .Eq (.call 30 (.cons (.ix (.ix (.var 3) (.con (.int 1))) (.var 0)) (.cons (.var 2) .nil))) (.var 1)) .nil) Zdu) (tg:=.nm 0) (env:=[none,some (.t (.bl c)),some (.t (Z3 nm kd mk sz)),some (.t (jnW b ts))]) (m:=put m i s) (emb:=fun k:Nat=>T.int (k:Int)) (g:=fun k=>if f (ts.getD k .non) == c then [T.int (k:Int)] else []) (List.range ts.length) (fun k hk=>by
          have hk:=List.mem_range.mp hk
          refine ⟨[some (.t (.int (k:Int))),some (.t (.bl c)),some (.t (Z3 nm kd mk sz)),some (.t (jnW b ts))],rfl,?_⟩
          have e:ts.getD k .non=ts[k]:=by simp [hk]
          have hcnd:ev (cf (n + (d + 1 + 2))) gv (.cmp .Eq (.call 30 (.cons (.ix (.ix (.var 3) (.con (.int 1))) (.var 0)) (.cons (.var 2) .nil))) (.var 1)) [some (.t (.int (k:Int))),some (.t (.bl c)),some (.t (Z3 nm kd mk sz)),some (.t (jnW b ts))] (put m i s) = .ok (.t (.bl (f ts[k] == c))) (put m i s):=Zh ((Zy (Zk (Zk (Za rfl) (Zb _) rfl) (Za rfl) (hx k hk)) (Za rfl)).trans (hlaw _ (List.getElem_mem hk))) (Za rfl) (Zjf _ _)
          rw [e]
          cases q:(f ts[k] == c) with
          | true =>
            rw [q] at hcnd
            exact ZfF hcnd (show ev _ gv Zdu _ _=_ from JQ (Za rfl))
          | false =>
            rw [q] at hcnd
            exact ZfG hcnd)
        rw [ZbA] at h
        have hr:=ZkL (i:=(ts.length:Int)) ⟨by omega,by omega⟩
        rw [Int.toNat_natCast] at hr
        generalize ho:((List.range ts.length).filter fun k=>f (ts.getD k .non) == c).map (fun k:Nat=>T.int (k:Int))=out at h
        have hol:out.length≤6:=by
          rw [← ho,List.length_map]
          have:=List.length_filter_le (fun k=>f (ts.getD k .non) == c) (List.range ts.length)
          rw [List.length_range] at this
          omega
        have ho0:0 < out.length:=by
          rw [← ho,List.length_map]
          rw [← hc] at hq
          obtain ⟨k,hk,e⟩:=jn_ex hq
          rw [List.length_map] at hk
          refine List.length_pos_of_mem (a:=k) (List.mem_filter.mpr ⟨List.mem_range.mpr hk,?_⟩)
          rw [List.getElem_map,hc] at e
          simp [hk,e]
        obtain ⟨x,s2,hp,hs2,hxm⟩:=Zdf (n:=n + (d + 1)) (m:=m) (i:=i) (s:=s) hi hs ho0 (by omega)
        rw [← ho] at hxm
        obtain ⟨k,hk,rfl⟩:=List.mem_map.mp hxm
        obtain ⟨hk,hfk⟩:=List.mem_filter.mp hk
        have hk:=List.mem_range.mp hk
        have hfk:f ts[k]=c:=by simpa [hk] using hfk
        obtain ⟨R,s3,h6,hs3,hu⟩:=(hf ts[k] (List.getElem_mem hk)).any n m i s2 hi hs2
        rw [hfk] at hu
        have hcomp:ev (cf (n + (d + 1 + 2))) gv Zgb [some (.c i),some (.t (jnW b ts)),some (.t (Z3 nm kd mk sz)),some (.t (.bl c)),none] (put m i s) = .ok (.t (.lst out)) (put m i s):=by
          refine Qj (x:=.t (.lst (rangeT 0 ts.length))) (m0:=put m i s) (m1:=put m i s) (ts:=(List.range ts.length).map fun k:Nat=>T.int (k:Int)) (Zr (Zr (Zk (Za rfl) (Zb _) rfl) (Xv ts)) hr) ?_ h (by unfold lim; omega)
          have:rangeT 0 ts.length=(List.range ts.length).map fun k:Nat=>T.int (k:Int):=by simp [rangeT]
          rw [← this]
          rfl
        refine ⟨_,s3,(Zn ((Zy (Za rfl) hcomp).trans hp)).trans ?_,hs3,ZkU (Ju hb) hq hk hu⟩
        simp only [List.set_cons_succ,List.set_cons_zero]
        exact Zf (Q3 (Za rfl) (Q3 (Za rfl) ((Z2 (Za rfl) (Zk (Zk (Za rfl) (Zb _) rfl) (Za rfl) (hx k hk)) (Za rfl)).trans h6)))
    obtain ⟨R,s',e,hs',g⟩:=key
    refine ⟨R,s',?_,hs',g⟩
    show cf (n + (d + 1 + 2) + 1) _ _ _=_
    exact ZK (Zfv _ _ _) rfl e (Zu (cell:=false) (by rw [Z4,Z4]))
theorem tell {c0:Nat} (hl:sz.length≤100) (hd:c0≤20):∀ (d:Nat) {w:T},DW d w→Dk c0 w→∃ c,Tell nm kd mk sz d w c:=by
  intro d w h
  induction h with
  | leaf h=>exact fun _=>⟨_,ZhA h hl⟩
  | nt h ih =>
    intro hk
    obtain ⟨c,hc⟩:=ih (dk_kid hk)
    exact ⟨_,ZjC hc⟩
  | jn h6 h ih =>
    intro hk
    have hkt:=Znh hk
    obtain ⟨f,hf⟩:=Znl fun t ht=>ih t ht (hkt t ht)
    exact ⟨_,Zl0 hd h6 hkt hf⟩
end
theorem QG {call:Nat→List W→Mem→Res W} {gv:List T} {env:Env} {m:Mem}:ex call gv .done env m = .ok (.next env) m:=by rw [ex]
structure Ent where
  sd:List Nat
  nm:List Nat
  kd:List Nat
  mrk:List (List Nat)
  sz:List (List Nat×Int)
  w:T
  many:Int
  least:Int
  wt:Int
  till:Int
  left:Int
def Ent.card (e:Ent):T:=Z3 e.nm e.kd e.mrk e.sz
def Ent.off (e:Ent):T:=offT e.sd e.nm e.kd e.mrk e.sz e.w e.many e.least e.wt e.till
def Ent.t (e:Ent):T:=.tup [e.off,.int e.left]
structure EntOk (e:Ent):Prop where
  card:Zls e.nm e.kd e.mrk e.sz
  wish:DW 2 e.w∧Dk 2 e.w
  sd:okS e.sd=true
  least:1≤e.least
  left:1≤e.left
def LB (e f:Ent):Bool:=by
  classical exact if h:∃ b,Tell f.nm f.kd f.mrk f.sz 2 e.w b then h.choose else false
theorem tl {e f:Ent} (he:EntOk e) (hf:EntOk f):Tell f.nm f.kd f.mrk f.sz 2 e.w (LB e f):=by
  have h:∃ b,Tell f.nm f.kd f.mrk f.sz 2 e.w b:=tell (c0:=2) hf.card.2.1 (by decide) 2 he.wish.1 he.wish.2
  unfold LB
  rw [dif_pos h]
  exact h.choose_spec
theorem lb {e f:Ent} (he:EntOk e) (hf:EntOk f):Both f.nm f.kd f.mrk f.sz 2 e.w (LB e f):=(tl he hf).both
theorem lb1 {n:Nat} {m:Mem} {e f:Ent} (he:EntOk e) (hf:EntOk f):cf (n + 5) 4 [.t e.w,.t f.card] m = .ok (.t (.bl (LB e f))) m:=(lb he hf n m).1
def min2 (a b:Int):Int:=if b < a then b else a
def minL:List Ent→Int
  | []=>0
  | e :: r=>minI e.left (r.map (·.left))
def QH (es:List Ent):Bool:=decide ((1:Int) < ((Qs (es.map (·.kd))).length:Int))
def Q0 (es:List Ent):Bool:=decide (((Qs (es.map (·.nm))).length:Int) < (es.length:Int))
def wayB (es:List Ent) (i j:Nat):Bool:=!((i:Int) == (j:Int)) && !(match es[i]?,es[j]? with
  | some e,some f=>LB e f
  | _,_=>false)
def Q4 (es:List Ent) (i:Nat):Bool:=match es[i]? with
  | some e=>decide (minL es < min2 e.least e.left)
  | none=>false
def wishW (i j:Nat):T:=.tup [.str [119,105,115,104],.int (i:Int),.int (j:Int)]
def Qc (i:Nat):T:=.tup [.str [108,101,97,115,116],.int (i:Int)]
def wayI (es:List Ent) (i:Nat):Option T:=(List.range es.length).findSome? fun j=>if wayB es i j then some (wishW i j) else none
def wayW (es:List Ent):Option T:=(List.range es.length).findSome? (wayI es)
def wayL (es:List Ent):Option T:=(List.range es.length).findSome? fun i=>if Q4 es i then some (Qc i) else none
def Zgg (es:List Ent):Option T:=if QH es then some (.tup [.str [107,105,110,100]]) else if Q0 es then some (.tup [.str [110,97,109,101]]) else match wayW es with
  | some t=>some t
  | none=>wayL es
def Zkr (es:List Ent):Int:=if (Zgg es).isNone then minL es else 0
theorem ZcN {α:Type} {f:Env→Mem→Res Flow} {tg:Tg} {m:Mem} {P:Env→Prop} {emb:α→T} {g:α→Option T}:∀ (as:List α) (env:Env),P env→(∀ a∈as,∀ env,P env→∃ env1,Jr tg (emb a) env=some env1∧(match g a with
      | some r=>f env1 m = .ok (.ret (.t r)) m
      | none=>∃ env2,f env1 m = .ok (.next env2) m∧P env2)) →
    match as.findSome? g with
    | some r=>Qz f tg (as.map emb) env m = .ok (.ret (.t r)) m
    | none=>∃ env',Qz f tg (as.map emb) env m = .ok (.next env') m∧P env'
  | [],env,hp,_=>⟨env,rfl,hp⟩
  | t :: ts,env,hp,h=>by
    obtain ⟨env1,hb,hf⟩:=h t List.mem_cons_self env hp
    rw [List.findSome?_cons,List.map_cons]
    cases q:g t with
    | some r =>
      rw [q] at hf
      show Qz _ _ _ _ _=_
      rw [Qz,hb]
      show (f env1 m).bind _=_
      rw [show f env1 m=_ from hf]
      rfl
    | none =>
      rw [q] at hf
      obtain ⟨env2,h2,hp2⟩:=hf
      have step:Qz f tg (emb t :: ts.map emb) env m=Qz f tg (ts.map emb) env2 m:=by
        rw [Qz,hb]
        show (f env1 m).bind _=_
        rw [h2]
        rfl
      have ih:=ZcN ts env2 hp2 fun u hu=>h u (List.mem_cons_of_mem _ hu)
      rw [step]
      exact ih
theorem Zer {α:Type} {call:Nat→List W→Mem→Res W} {tg:Tg} {it:E} {body k:S} {env:Env} {m:Mem} {P:Env→Prop} {emb:α→T} {g:α→Option T} {x:T} {as:List α} (hit:ev call gv it env m = .ok (.t x) m) (hb:QL (.t x) m = .ok (as.map emb) m) (hp:P env) (h:∀ a∈as,∀ env,P env→∃ env1,Jr tg (emb a) env=some env1∧(match g a with
      | some r=>ex call gv body env1 m = .ok (.ret (.t r)) m
      | none=>∃ env2,ex call gv body env1 m = .ok (.next env2) m∧P env2)) :
    match as.findSome? g with
    | some r=>ex call gv (.forr tg it body k) env m = .ok (.ret (.t r)) m
    | none=>∃ env',ex call gv (.forr tg it body k) env m=ex call gv k env' m∧P env':=by
  have hl:=ZcN (f:=ex call gv body) (tg:=tg) (m:=m) (P:=P) (emb:=emb) (g:=g) as env hp h
  cases q:as.findSome? g with
  | some r =>
    rw [q] at hl
    have hl:Qz (ex call gv body) tg (as.map emb) env m = .ok (.ret (.t r)) m:=hl
    show ex _ _ _ _ _=_
    rw [ex,hit,Zw,hb,Zw]
    show (Qz (ex call gv body) tg (as.map emb) env m).bind _=_
    rw [hl]
    rfl
  | none =>
    rw [q] at hl
    obtain ⟨env',hl,hp'⟩:=hl
    exact ⟨env',Jg hit hb hl,hp'⟩
theorem Zl6 (n:Nat):rangeT 0 n=(List.range n).map fun k:Nat=>T.int (k:Int):=by
  unfold rangeT
  exact List.map_congr_left fun k _=>by rw [Int.zero_add]
def intN (k:Nat):T:=.int (k:Int)
theorem Xd {m:Mem} (n:Nat):QL (.t (.lst (rangeT 0 n))) m = .ok ((List.range n).map intN) m:=by
  rw [Zl6]
  rfl
section
variable {n:Nat} {m:Mem} {es:List Ent}
def setT (es:List Ent):T:=.lst (es.map Ent.t)
theorem Zaf {i:Nat} {e:Ent} (h:es[i]? = some e):ixT (setT es) (.int (i:Int))=some e.t:=by
  have hi:=(List.getElem?_eq_some_iff.mp h).1
  show atT (es.map Ent.t) (i:Int)=_
  rw [Zgd (by omega) (by rw [List.length_map]; omega),Int.toNat_natCast,List.getElem?_map,h]
  rfl
theorem Zaa {call:Nat→List W→Mem→Res W} {c a:E} {env:Env} {g:Ent→T} (hc:c = .comp 2 [] (.var 0) (.tp [0,1]) .nil (.emit a)) (h0:env[0]? = some (some (.t (setT es)))) (hl:es.length≤100) (hg:∀ e∈es,ev call gv a [some (.t e.off),some (.t (.int e.left))] m = .ok (.t (g e)) m) :
    ev call gv c env m = .ok (.t (.lst (es.map g))) m:=by
  subst hc
  obtain ⟨xss,m',h,rfl,ht⟩:=Xr (f:=Jh call gv .nil (.emit a)) (tg:=.tp [0,1]) (env:=[none,none]) (P:=fun m'=>m' = m) (R:=fun t xs=>∀ e∈es,t=e.t→xs=[g e]) (es.map Ent.t) m rfl (by
    rintro t ht m' rfl
    obtain ⟨e,he,rfl⟩:=List.mem_map.mp ht
    refine ⟨[some (.t e.off),some (.t (.int e.left))],[g e],m',rfl,ZeU (JQ (hg e he)),rfl,fun f hf e'=>?_⟩
    have h1:=hg e he
    have h2:=hg f hf
    have h3:e.off=f.off∧T.int e.left = .int f.left:=by
      unfold Ent.t at e'
      injection e' with e'
      injection e' with e1 e'
      injection e' with e2 e'
      exact ⟨e1,e2⟩
    rw [h3.1,h3.2,h2] at h1
    injection h1 with h1
    injection h1 with h1
    rw [h1])
  have e:xss.flatten=es.map g:=by
    have:∀ (l:List Ent) (xss:List (List T)),(∀ e∈l,e∈es)→Turns (fun t xs=>∀ e∈es,t=e.t→xs=[g e]) (l.map Ent.t) xss→xss.flatten=l.map g:=by
      intro l
      induction l with
      | nil=>intro xss _ h; cases h; rfl
      | cons e l ih =>
        intro xss hs h
        cases h with
        | cons h ht =>
          rw [h e (hs e List.mem_cons_self) rfl,List.flatten_cons,ih _ (fun x hx=>hs x (List.mem_cons_of_mem _ hx)) ht]
          rfl
    exact this es xss (fun e he=>he) ht
  rw [e] at h
  exact Qj (x:=.t (setT es)) (m0:=m') (m1:=m') (Za h0) rfl h (by rw [List.length_map]; unfold lim; omega)
theorem Zbe {g:Ent→List Nat} (hl:es.length < 64):bltT .lenset [.lst (es.map fun e=>.str (g e))]=some (.int ((Qs (es.map g)).length:Int)):=by
  show Zdn (es.map fun e=>T.str (g e))=_
  unfold Zdn
  rw [strs_map]
  exact if_pos (by rw [List.length_map]; exact hl)
theorem ints_map {α:Type} (f:α→Int):∀ xs:List α,ints? (xs.map fun x=>T.int (f x))=some (xs.map f)
  | []=>rfl
  | x :: xs=>by rw [List.map_cons,ints?,ints_map f xs]; rfl
theorem Ziq (h0:es≠[]) (hl:es.length < 64):bltT .minl [.lst (es.map fun e=>.int e.left)]=some (.int (minL es)):=by
  show Zip (es.map fun e=>T.int e.left)=_
  unfold Zip
  rw [ints_map]
  cases es with
  | nil=>exact absurd rfl h0
  | cons e r =>
    rw [List.length_cons] at hl
    exact if_pos (by rw [List.length_map]; omega)
theorem ZgY {e:Ent}:cf (n + 1) 10 [.t e.off] m = .ok (.t (.str e.nm)) m :=
  ZK (Zhc _ _ _) rfl (show ex (cf n) gv XX [some (.t e.off)] m = .ok (.ret (.t (.str e.nm))) m from Zf (Zk (Zk (x:=e.off) (Za rfl) (Zb _) rfl) (Zb _) rfl)) (Zu (cell:=false) rfl)
theorem Zg4 {e:Ent}:cf (n + 1) 11 [.t e.off] m = .ok (.t (.str e.kd)) m :=
  ZK (Zhd _ _ _) rfl (show ex (cf n) gv X3 [some (.t e.off)] m = .ok (.ret (.t (.str e.kd))) m from Zf (Zk (Zk (x:=e.off) (Za rfl) (Zb _) rfl) (Zb _) rfl)) (Zu (cell:=false) rfl)
theorem ZcC {i:Nat} {e:Ent} (h:es[i]? = some e):cf (n + 1) 12 [.t (setT es),.t (.int (i:Int))] m = .ok (.t e.w) m :=
  ZK (Zha _ _ _) rfl (show ex (cf n) gv XS [some (.t (setT es)),some (.t (.int (i:Int)))] m = .ok (.ret (.t e.w)) m from Zf (Zk (Zk (Zk (Za rfl) (Za rfl) (Zaf h)) (Zb _) rfl) (Zb _) rfl)) (Zu (cell:=false) rfl)
theorem ZcX {i:Nat} {e:Ent} (h:es[i]? = some e):cf (n + 1) 13 [.t (setT es),.t (.int (i:Int))] m = .ok (.t e.card) m :=
  ZK (Zhe _ _ _) rfl (show ex (cf n) gv X4 [some (.t (setT es)),some (.t (.int (i:Int)))] m = .ok (.ret (.t e.card)) m from Zf (Zk (Zk (Zk (Za rfl) (Za rfl) (Zaf h)) (Zb _) rfl) (Zb _) rfl)) (Zu (cell:=false) rfl)
theorem Zdo (h0:es≠[]) (hl:es.length < 64):cf (n + 1) 14 [.t (setT es)] m = .ok (.t (.int (minL es))) m:=by
  have hc:ev (cf n) gv Zah [some (.t (setT es))] m = .ok (.t (.lst (es.map fun e=>.int e.left))) m:=Zaa rfl rfl (by omega) fun e he=>Za rfl
  exact ZK (ZdA _ _ _) rfl (show ex (cf n) gv Js [some (.t (setT es))] m = .ok (.ret (.t (.int (minL es)))) m from Zf (Zr hc (Ziq h0 hl))) (Zu (cell:=false) rfl)
theorem XJ:bltT .len [setT es]=some (.int (es.length:Int)):=by
  show some (T.int ((es.map Ent.t).length:Int))=_
  rw [List.length_map]
theorem kinds_ok (hl:es.length < 64):cf (n + 2) 15 [.t (setT es)] m = .ok (.t (.bl (QH es))) m:=by
  have hc:ev (cf (n + 1)) gv Jz [some (.t (setT es))] m = .ok (.t (.lst (es.map fun e=>.str e.kd))) m:=Zaa rfl rfl (by omega) fun e he=>(QK (Za rfl)).trans Zg4
  exact ZK (Zau _ _ _) rfl (show ex (cf (n + 1)) gv Ql [some (.t (setT es))] m = .ok (.ret (.t (.bl (QH es)))) m from Zf (Zh (Zr hc (Zbe hl)) (Zb _) (c_gt _ _))) (Zu (cell:=false) rfl)
theorem ZkF (hl:es.length < 64):cf (n + 2) 16 [.t (setT es)] m = .ok (.t (.bl (Q0 es))) m:=by
  have hc:ev (cf (n + 1)) gv JS [some (.t (setT es))] m = .ok (.t (.lst (es.map fun e=>.str e.nm))) m:=Zaa rfl rfl (by omega) fun e he=>(QK (Za rfl)).trans ZgY
  exact ZK (ZaX _ _ _) rfl (show ex (cf (n + 1)) gv Qq [some (.t (setT es))] m = .ok (.ret (.t (.bl (Q0 es)))) m from Zf (Zh (Zr hc (Zbe hl)) (Zr (Za rfl) XJ) (c_lt _ _))) (Zu (cell:=false) rfl)
theorem ZeS {i j:Nat} {e f:Ent} (hi:es[i]? = some e) (hj:es[j]? = some f) (ho:∀ e∈es,EntOk e):cf (n + 6) 17 [.t (setT es),.t (.int (i:Int)),.t (.int (j:Int))] m = .ok (.t (.bl (wayB es i j))) m:=by
  have hL:cf (n + 5) 4 [.t e.w,.t f.card] m = .ok (.t (.bl (LB e f))) m:=lb1 (ho e (List.mem_of_getElem? hi)) (ho f (List.mem_of_getElem? hj))
  have hw:wayB es i j=(!((i:Int) == (j:Int)) && !LB e f):=by
    unfold wayB
    rw [hi,hj]
  have key:ex (cf (n + 5)) gv QB [some (.t (setT es)),some (.t (.int (i:Int))),some (.t (.int (j:Int)))] m = .ok (.ret (.t (.bl (wayB es i j)))) m:=by
    rw [hw]
    refine Zf ?_
    have hne:=Zh (call:=cf (n + 5)) (gv:=gv) (m:=m) (op:=.NotEq) (a:=.var 1) (b:=.var 2) (env:=[some (.t (setT es)),some (.t (.int (i:Int))),some (.t (.int (j:Int)))]) (Za rfl) (Za rfl) (ZeF (i:Int) (j:Int))
    cases q:((i:Int) == (j:Int)) with
    | true =>
      rw [q] at hne
      exact Jx hne
    | false =>
      rw [q] at hne
      refine (Jw hne).trans ?_
      exact ZX ((Zy ((Zy (Za rfl) (Za rfl)).trans (ZcC (n:=n + 4) hi)) ((Zy (Za rfl) (Za rfl)).trans (ZcX (n:=n + 4) hj))).trans hL)
  exact ZK (Zbi _ _ _) rfl key (Zu (cell:=false) rfl)
theorem Zei {i:Nat} {e:Ent} (hi:es[i]? = some e) (h0:es≠[]) (hl:es.length < 64):cf (n + 2) 18 [.t (setT es),.t (.int (i:Int))] m = .ok (.t (.bl (Q4 es i))) m:=by
  have hw:Q4 es i=decide (minL es < min2 e.least e.left):=by
    unfold Q4
    rw [hi]
  have key:ex (cf (n + 1)) gv Qa [some (.t (setT es)),some (.t (.int (i:Int))),none,none] m = .ok (.ret (.t (.bl (Q4 es i)))) m:=by
    rw [hw]
    unfold Qa
    rw [ex,Zk (Za rfl) (Za rfl) (Zaf hi)]
    show ex (cf (n + 1)) gv _ [some (.t (setT es)),some (.t (.int (i:Int))),some (.t e.off),some (.t (.int e.left))] m=_
    exact Zf (Zh (Zfn (x:=.int e.least) (y:=.int e.left) (Zk (Za rfl) (Zb _) rfl) (Za rfl) rfl) ((QK (Za rfl)).trans (Zdo (n:=n) h0 hl)) (c_gt _ _))
  exact ZK (ZaW _ _ _) rfl key (Zu (cell:=false) rfl)
end
def ZjJ (x:T) (w:List Nat):Bool:=match x with
  | .str a=>w == a
  | _=>false
def btw (x:T) (lo hi:Int):Bool:=match x with
  | .int i=>decide (lo≤i) && decide (i≤hi)
  | _=>false
theorem in_one (a w:List Nat):cmpT .In (.str a) (.tup [.str w])=some (w == a):=by
  rcases a with _ | ⟨x,_ | ⟨y,r⟩⟩ <;> simp [cmpT,inT,hasT,flat,eqT]
abbrev kindS:List Nat:=[107,105,110,100]
abbrev nameS:List Nat:=[110,97,109,101]
abbrev QQ:List Nat:=[108,101,97,115,116]
abbrev J1:List Nat:=[119,105,115,104]
section
variable {n:Nat} {m:Mem} {es:List Ent}
theorem Zid {x:T} {w:List Nat}:cf (n + 1) 3 [.t x,.t (.tup [.str w])] m = .ok (.t (.bl (ZjJ x w))) m:=by
  have key:ex (cf n) gv Jl [some (.t x),some (.t (.tup [.str w]))] m = .ok (.ret (.t (.bl (ZjJ x w)))) m:=by
    unfold Jl
    refine Zf ?_
    cases x with
    | str a=>exact (Jw (QJ (Za rfl) rfl)).trans (Zh (Za rfl) (Za rfl) (in_one a w))
    | _=>exact Jx (QJ (Za rfl) rfl)
  exact ZK (ZeB _ _ _) rfl key (Zu (cell:=false) rfl)
theorem Zgc {x:T} {lo hi:Int}:cf (n + 2) 9 [.t x,.t (.int lo),.t (.int hi)] m = .ok (.t (.bl (btw x lo hi))) m:=by
  have key:ex (cf (n + 1)) gv Q8 [some (.t x),some (.t (.int lo)),some (.t (.int hi))] m = .ok (.ret (.t (.bl (btw x lo hi)))) m:=by
    unfold Q8
    refine Zf ?_
    have wh:=ZbI (n:=n) (m:=m) (x:=x)
    have no:(isT x .int && !isT x .bool)=false→btw x lo hi=false→ev (cf (n + 1)) gv (.and (.call 0 (.cons (.var 0) .nil)) (.chn .LtE .LtE (.var 1) (.var 0) (.var 2))) [some (.t x),some (.t (.int lo)),some (.t (.int hi))] m = .ok (.t (.bl (btw x lo hi))) m:=fun h1 h2=>by
      rw [h1] at wh
      rw [h2]
      exact Jx ((QK (Za rfl)).trans wh)
    cases x with
    | int i =>
      refine (Jw ((QK (Za rfl)).trans wh)).trans ?_
      by_cases h:lo≤i
      · refine (Zfm (Za rfl) (Za rfl) (by rw [c_le,decide_eq_true h]) (Za rfl) (c_le _ _)).trans ?_
        simp [btw,h]
      · refine (ZiP (Za rfl) (Za rfl) (by rw [c_le,decide_eq_false h])).trans ?_
        simp [btw,h]
    | _=>exact no rfl rfl
  exact ZK (ZdB _ _ _) rfl key (Zu (cell:=false) rfl)
theorem Znr {i:Nat} {N:Int} (h:(i:Int)≤N):btw (.int (i:Int)) 0 N=true:=by
  simp [btw,h]
theorem ZiR {i:Nat} {e:Ent} (h:es[i]? = some e):btw (.int (i:Int)) 0 ((es.length:Int) - 1)=true:=by
  have:=(List.getElem?_eq_some_iff.mp h).1
  exact Znr (by omega)
theorem Zlt {x y z:T}:ex (cf (n + 8)) gv Qp [some (.t (setT es)),some (.t x),some (.t y),some (.t z),none] m=if (btw x 0 ((es.length:Int) - 1) && btw y 0 ((es.length:Int) - 1))=true then ex (cf (n + 8)) gv (.ret (.and (.call 17 (.cons (.var 0) (.cons (.var 1) (.cons (.var 2) .nil)))) (.call 6 (.cons (.call 12 (.cons (.var 0) (.cons (.var 1) .nil))) (.cons (.call 13 (.cons (.var 0) (.cons (.var 2) .nil))) (.cons (.var 3) .nil))))) .done) [some (.t (setT es)),some (.t x),some (.t y),some (.t z),some (.t (.int ((es.length:Int) - 1)))] m else .ok (.ret (.t (.bl false))) m:=by
  unfold Qp
  rw [Zn (Zt (Zr (Za rfl) XJ) (Zb _) (show binT .Sub (.int (es.length:Int)) (.int 1)=some (.int ((es.length:Int) - 1)) from rfl))]
  simp only [List.set_cons_succ,List.set_cons_zero]
  have b1:=Zgc (n:=n + 6) (m:=m) (x:=x) (lo:=0) (hi:=(es.length:Int) - 1)
  have b2:=Zgc (n:=n + 6) (m:=m) (x:=y) (lo:=0) (hi:=(es.length:Int) - 1)
  cases q1:btw x 0 ((es.length:Int) - 1) with
  | false =>
    rw [q1] at b1
    rw [if_neg (by simp)]
    exact ZP (ZaS (ZX (k:=false) ((Z2 (Za rfl) (Zb _) (Za rfl)).trans b1))) (Zf (Zb _))
  | true =>
    rw [q1] at b1
    cases q2:btw y 0 ((es.length:Int) - 1) with
    | false =>
      rw [q2] at b2
      rw [if_neg (by simp)]
      exact ZP ((QR (ZX (k:=true) ((Z2 (Za rfl) (Zb _) (Za rfl)).trans b1))).trans (ZX (k:=false) ((Z2 (Za rfl) (Zb _) (Za rfl)).trans b2))) (Zf (Zb _))
    | true =>
      rw [q2] at b2
      rw [if_pos (show (true && true)=true from rfl)]
      exact Zq ((QR (ZX (k:=true) ((Z2 (Za rfl) (Zb _) (Za rfl)).trans b1))).trans (ZX (k:=true) ((Z2 (Za rfl) (Zb _) (Za rfl)).trans b2)))
theorem Zlu {x y z:T} (h:(btw x 0 ((es.length:Int) - 1) && btw y 0 ((es.length:Int) - 1))=false):cf (n + 9) 19 [.t (setT es),.t x,.t y,.t z] m = .ok (.t (.bl false)) m:=by
  have k:=Zlt (n:=n) (m:=m) (es:=es) (x:=x) (y:=y) (z:=z)
  rw [if_neg (by rw [h]; decide)] at k
  exact ZK (XD (n + 8) _ _) rfl k (Zu (cell:=false) rfl)
theorem Zgf {i j:Nat} {e f:Ent} {z:T} {b:Bool} (hi:es[i]? = some e) (hj:es[j]? = some f) (ho:∀ e∈es,EntOk e) (hb:wayB es i j=true→Sh f.card 2 e.w z b) (hn:wayB es i j=false→b=false):cf (n + 9) 19 [.t (setT es),.t (.int (i:Int)),.t (.int (j:Int)),.t z] m = .ok (.t (.bl b)) m:=by
  have k:=Zlt (n:=n) (m:=m) (es:=es) (x:=.int (i:Int)) (y:=.int (j:Int)) (z:=z)
  rw [if_pos (by rw [ZiR hi,ZiR hj]; rfl)] at k
  refine ZK (XD (n + 8) _ _) rfl (k.trans (Zf (w:=.t (.bl b)) ?_)) (Zu (cell:=false) rfl)
  have hw:=ZeS (n:=n + 2) (m:=m) hi hj ho
  cases q:wayB es i j with
  | false =>
    rw [q] at hw
    rw [hn q]
    exact Jx ((Z2 (Za rfl) (Za rfl) (Za rfl)).trans hw)
  | true =>
    rw [q] at hw
    refine (Jw ((Z2 (Za rfl) (Za rfl) (Za rfl)).trans hw)).trans ?_
    exact (Z2 ((Zy (Za rfl) (Za rfl)).trans (ZcC (n:=n + 7) hi)) ((Zy (Za rfl) (Za rfl)).trans (ZcX (n:=n + 7) hj)) (Za rfl)).trans (hb q n m)
theorem Jo {x:T} {r:List T} {k:Int} {w:List Nat} {b:Bool} (hb:((((x :: r).length:Int) == k) && ZjJ x w)=b):ev (cf (n + 9)) gv (.and (.cmp .Eq (.blt .len (.cons (.var 1) .nil)) (.con (.int k))) (.call 3 (.cons (.var 2) (.cons (.tup (.cons (.con (.str w)) .nil)) .nil)))) [some (.t (setT es)),some (.t (.tup (x :: r))),some (.t x)] m = .ok (.t (.bl b)) m:=by
  subst hb
  have c:=Zh (call:=cf (n + 9)) (gv:=gv) (m:=m) (op:=.Eq) (a:=.blt .len (.cons (.var 1) .nil)) (b:=.con (.int k)) (env:=[some (.t (setT es)),some (.t (.tup (x :: r))),some (.t x)]) (Zr (Za rfl) (Xv _)) (Zb _) (Zlj ((x :: r).length:Int) k)
  cases q:(((x :: r).length:Int) == k) with
  | false =>
    rw [q] at c
    exact Jx c
  | true =>
    rw [q] at c
    exact (Jw c).trans ((Zy (Za rfl) (Zce (Zb _))).trans (Zid (n:=n + 8)))
theorem ZcM {x:T} {r:List T} {k:S} (hk:Qk = .ife (.or (.not (.isi (.var 1) .tuple)) (.cmp .Eq (.blt .len (.cons (.var 1) .nil)) (.con (.int 0)))) (.ret (.con (.bl false)) .done) .done (.asg 2 (.ix (.var 1) (.con (.int 0))) k)):ex (cf (n + 9)) gv Qk [some (.t (setT es)),some (.t (.tup (x :: r))),none] m=ex (cf (n + 9)) gv k [some (.t (setT es)),some (.t (.tup (x :: r))),some (.t x)] m:=by
  rw [hk]
  rw [Zq ((QR (ZX (k:=true) (QJ (Za rfl) rfl))).trans (Zh (k:=false) (Zr (Za rfl) (Xv _)) (Zb _) (by rw [Zlj,beq_eq_false_iff_ne.mpr (by simp only [List.length_cons]; omega)])))]
  rw [Zn (Zk (Za rfl) (Zb _) (ix0 _ _))]
  simp only [List.set_cons_succ,List.set_cons_zero]
theorem Zby {t:T} {b:Bool} (key:ex (cf (n + 9)) gv Qk [some (.t (setT es)),some (.t t),none] m = .ok (.ret (.t (.bl b))) m):cf (n + 10) 20 [.t (setT es),.t t] m = .ok (.t (.bl b)) m:=ZK (Zdz _ _ _) rfl key (Zu (cell:=false) rfl)
theorem Zb5 {t:T} (h:isT t .tuple=false):cf (n + 10) 20 [.t (setT es),.t t] m = .ok (.t (.bl false)) m:=by
  refine Zby ?_
  unfold Qk
  exact ZP (ZaS (ZX (k:=false) (QJ (Za rfl) h))) (Zf (Zb _))
theorem ZlE:cf (n + 10) 20 [.t (setT es),.t (.tup [])] m = .ok (.t (.bl false)) m:=by
  refine Zby ?_
  unfold Qk
  exact ZP ((QR (ZX (k:=true) (QJ (Za rfl) rfl))).trans (Zh (k:=true) (Zr (Za rfl) (Xv _)) (Zb _) rfl)) (Zf (Zb _))
def tst (x:T) (r:List T) (k:Int) (w:List Nat):Bool:=(((x :: r).length:Int) == k) && ZjJ x w
theorem Zbc {x:T} {r:List T} (q1:tst x r 1 kindS=false) (q2:tst x r 1 nameS=false) (q3:tst x r 2 QQ=false) (q4:tst x r 4 J1=false):cf (n + 10) 20 [.t (setT es),.t (.tup (x :: r))] m = .ok (.t (.bl false)) m:=by
  refine Zby ((ZcM rfl).trans ?_)
  rw [Zq (Jo q1),Zq (Jo q2),Zq (Jo q3),Zq (Jo q4)]
  exact Zf (Zb _)
theorem Zij (hl:es.length < 64):cf (n + 10) 20 [.t (setT es),.t (.tup [.str kindS])] m = .ok (.t (.bl (QH es))) m:=by
  refine Zby ((ZcM rfl).trans ?_)
  exact ZP (Jo (b:=true) rfl) (Zf ((QK (Za rfl)).trans (kinds_ok (n:=n + 7) hl)))
theorem Zii (hl:es.length < 64):cf (n + 10) 20 [.t (setT es),.t (.tup [.str nameS])] m = .ok (.t (.bl (Q0 es))) m:=by
  refine Zby ((ZcM rfl).trans ?_)
  rw [Zq (Jo (b:=false) rfl)]
  exact ZP (Jo (b:=true) rfl) (Zf ((QK (Za rfl)).trans (ZkF (n:=n + 7) hl)))
theorem Ziw {env:Env} (h:env[0]? = some (some (.t (setT es)))):ev (cf (n + 9)) gv (.bin .Sub (.blt .len (.cons (.var 0) .nil)) (.con (.int 1))) env m = .ok (.t (.int ((es.length:Int) - 1))) m:=Zt (Zr (Za h) XJ) (Zb _) rfl
theorem ZfV {i:Nat} {e:Ent} (hi:es[i]? = some e) (h0:es≠[]) (hl:es.length < 64):cf (n + 10) 20 [.t (setT es),.t (Qc i)] m = .ok (.t (.bl (Q4 es i))) m:=by
  refine Zby ((ZcM rfl).trans ?_)
  rw [Zq (Jo (b:=false) rfl),Zq (Jo (b:=false) rfl)]
  have b:=Zgc (n:=n + 7) (m:=m) (x:=.int (i:Int)) (lo:=0) (hi:=(es.length:Int) - 1)
  rw [ZiR hi] at b
  exact ZP (Jo (b:=true) rfl) (Zf ((Jw ((Z2 (Zk (Za rfl) (Zb _) rfl) (Zb _) (Ziw rfl)).trans b)).trans ((Zy (Za rfl) (Zk (Za rfl) (Zb _) rfl)).trans (Zei (n:=n + 7) hi h0 hl))))
theorem Zbx {x:T} (hx:btw x 0 ((es.length:Int) - 1)=false):cf (n + 10) 20 [.t (setT es),.t (.tup [.str QQ,x])] m = .ok (.t (.bl false)) m:=by
  refine Zby ((ZcM rfl).trans ?_)
  rw [Zq (Jo (b:=false) rfl),Zq (Jo (b:=false) rfl)]
  have b:=Zgc (n:=n + 7) (m:=m) (x:=x) (lo:=0) (hi:=(es.length:Int) - 1)
  rw [hx] at b
  exact ZP (Jo (b:=true) rfl) (Zf (Jx ((Z2 (Zk (Za rfl) (Zb _) rfl) (Zb _) (Ziw rfl)).trans b)))
theorem Zao {x y z:T} {b:Bool} (h:cf (n + 9) 19 [.t (setT es),.t x,.t y,.t z] m = .ok (.t (.bl b)) m):cf (n + 10) 20 [.t (setT es),.t (.tup [.str J1,x,y,z])] m = .ok (.t (.bl b)) m:=by
  refine Zby ((ZcM rfl).trans ?_)
  rw [Zq (Jo (b:=false) rfl),Zq (Jo (b:=false) rfl),Zq (Jo (b:=false) rfl)]
  exact ZP (Jo (b:=true) rfl) (Zf ((ZL (Zd (Za rfl) (Zd (Zk (Za rfl) (Zb _) rfl) (Zd (Zk (Za rfl) (Zb _) rfl) (Zd (Zk (Za rfl) (Zb _) rfl) Zi))))).trans h))
theorem Ziz {t:T} {b:Bool} (h:cf (n + 10) 20 [.t (setT es),.t t] m = .ok (.t (.bl b)) m):cf (n + 11) 35 [.t (setT es),.t t] m = .ok (.t (.bl b)) m:=by
  have key:ex (cf (n + 10)) gv Jm [some (.t (setT es)),some (.t t),none] m = .ok (.ret (.t (.bl b))) m:=by
    unfold Jm
    rw [Zn ((Zy (Za rfl) (Za rfl)).trans h)]
    simp only [List.set_cons_succ,List.set_cons_zero]
    rw [Zq (ZX (k:=true) (QJ (Za rfl) rfl))]
    exact Zf (Za rfl)
  exact ZK (ZeC _ _ _) rfl key (Zu (cell:=false) rfl)
end
def Zba (e f:Ent):Bool:=!(f.sd == e.sd) && !LB e f
def ZgI (es:List Ent) (e:Ent):Option T:=es.findSome? fun f=>if Zba e f then some (.int 0) else none
def Jq (es:List Ent) (e:Ent):Bool:=decide (minL es < min2 e.least e.left)
def ZhY (es:List Ent):Int:=if QH es || Q0 es then 0 else match es.findSome? (ZgI es) with
  | some _=>0
  | none=>if (es.filter (Jq es)).isEmpty then minL es else 0
theorem find_some {α:Type} {l:List α} {g:α→Option T}:(l.findSome? g).isSome=true↔∃ a∈l,(g a).isSome=true:=by
  constructor
  · intro h
    obtain ⟨t,ht⟩:=Option.isSome_iff_exists.mp h
    obtain ⟨a,ha,hg⟩:=List.exists_of_findSome?_eq_some ht
    exact ⟨a,ha,by rw [hg]; rfl⟩
  · rintro ⟨a,ha,hg⟩
    cases q:l.findSome? g with
    | some t=>rfl
    | none =>
      have:=List.findSome?_eq_none_iff.mp q a ha
      rw [this] at hg
      exact hg
theorem ZhZ {es:List Ent} (hn:(es.map (·.sd)).Nodup):(es.findSome? (ZgI es)).isSome=(wayW es).isSome:=by
  have nd:∀ {i j:Nat} {e f:Ent},es[i]? = some e→es[j]? = some f→(f.sd == e.sd)=((i:Int) == (j:Int)):=fun {i j e f} hi hj=>by
    by_cases h:i=j
    · subst h
      rw [hi] at hj
      cases hj
      simp
    · have h1:f.sd≠e.sd:=fun z=>by
        have li:=(List.getElem?_eq_some_iff.mp hi).1
        have lj:=(List.getElem?_eq_some_iff.mp hj).1
        have e1:(es.map (·.sd))[i]? = some e.sd:=by rw [List.getElem?_map,hi]; rfl
        have e2:(es.map (·.sd))[j]? = some f.sd:=by rw [List.getElem?_map,hj]; rfl
        rw [z] at e2
        exact h ((List.getElem?_inj (by rw [List.length_map]; exact li) hn).mp (e1.trans e2.symm))
      rw [beq_eq_false_iff_ne.mpr h1,beq_eq_false_iff_ne.mpr (fun z=>h (by omega))]
  apply Bool.eq_iff_iff.mpr
  unfold wayW ZgI wayI
  rw [find_some,find_some]
  constructor
  · rintro ⟨e,he,h⟩
    obtain ⟨f,hf,h⟩:=find_some.mp h
    obtain ⟨i,hi,rfl⟩:=List.getElem_of_mem he
    obtain ⟨j,hj,rfl⟩:=List.getElem_of_mem hf
    have gi:=List.getElem?_eq_getElem hi
    have gj:=List.getElem?_eq_getElem hj
    refine ⟨i,List.mem_range.mpr hi,find_some.mpr ⟨j,List.mem_range.mpr hj,?_⟩⟩
    have:wayB es i j=Zba es[i] es[j]:=by
      unfold wayB Zba
      rw [gi,gj,nd gi gj]
    rw [this]
    cases q:Zba es[i] es[j] with
    | true=>rfl
    | false=>rw [q] at h; exact h
  · rintro ⟨i,hi,h⟩
    obtain ⟨j,hj,h⟩:=find_some.mp h
    have gi:=List.getElem?_eq_getElem (List.mem_range.mp hi)
    have gj:=List.getElem?_eq_getElem (List.mem_range.mp hj)
    refine ⟨_,List.getElem_mem (List.mem_range.mp hi),find_some.mpr ⟨_,List.getElem_mem (List.mem_range.mp hj),?_⟩⟩
    have:wayB es i j=Zba (es[i]'(List.mem_range.mp hi)) (es[j]'(List.mem_range.mp hj)):=by
      unfold wayB Zba
      rw [gi,gj,nd gi gj]
    rw [← this]
    cases q:wayB es i j with
    | true=>rfl
    | false=>rw [q] at h; exact h
theorem Ziv {es:List Ent}:(!(es.filter (Jq es)).isEmpty)=(wayL es).isSome:=by
  apply Bool.eq_iff_iff.mpr
  unfold wayL
  rw [find_some,Bool.not_eq_true',← Bool.not_eq_true,List.isEmpty_iff,List.filter_eq_nil_iff]
  constructor
  · intro h
    have:∃ e∈es,Jq es e=true:=by
      apply Classical.byContradiction
      intro z
      exact h fun e he hq=>z ⟨e,he,hq⟩
    obtain ⟨e,he,hq⟩:=this
    obtain ⟨i,hi,rfl⟩:=List.getElem_of_mem he
    refine ⟨i,List.mem_range.mpr hi,?_⟩
    have:Q4 es i=true:=by
      unfold Q4
      rw [List.getElem?_eq_getElem hi]
      exact hq
    rw [this]
    rfl
  · rintro ⟨i,hi,h⟩ z
    have hi:=List.mem_range.mp hi
    refine z es[i] (List.getElem_mem hi) ?_
    have:Q4 es i=Jq es es[i]:=by
      unfold Q4 Jq
      rw [List.getElem?_eq_getElem hi]
    rw [← this]
    cases q:Q4 es i with
    | true=>rfl
    | false=>rw [q] at h; cases h
theorem ZmJ {es:List Ent} (hn:(es.map (·.sd)).Nodup):ZhY es=Zkr es:=by
  have h1:=ZhZ hn
  have h2:=Ziv (es:=es)
  unfold ZhY Zkr Zgg
  cases QH es with
  | true=>rfl
  | false =>
    cases Q0 es with
    | true=>rfl
    | false =>
      rw [if_neg Bool.false_ne_true,if_neg Bool.false_ne_true,if_neg (by decide)]
      cases q:es.findSome? (ZgI es) with
      | some t =>
        rw [q] at h1
        obtain ⟨u,hu⟩:=Option.isSome_iff_exists.mp h1.symm
        rw [hu]
        rfl
      | none =>
        rw [q] at h1
        have hw:wayW es=none:=by
          cases qw:wayW es with
          | none=>rfl
          | some t=>rw [qw] at h1; cases h1
        rw [hw]
        cases qe:(es.filter (Jq es)).isEmpty with
        | true =>
          rw [qe] at h2
          have hl:wayL es=none:=by
            cases ql:wayL es with
            | none=>rfl
            | some t=>rw [ql] at h2; cases h2
          rw [hl]
          rfl
        | false =>
          rw [qe] at h2
          obtain ⟨u,hu⟩:=Option.isSome_iff_exists.mp h2.symm
          rw [hu]
          rfl
theorem Zcd {α:Type} (p:α→Bool) (t:T):∀ l:List α,(l.flatMap fun a=>if p a then [t] else [])=(l.filter p).map fun _=>t
  | []=>rfl
  | a :: l=>by
    rw [List.flatMap_cons,Zcd p t l,List.filter_cons]
    cases p a <;> rfl
theorem ZiU {α:Type} (l:List α):Zo 59 (l.map fun _=>T.int 1)=true:=by
  refine QD.mpr fun t ht=>?_
  obtain ⟨_,_,rfl⟩:=List.mem_map.mp ht
  rfl
theorem law_part_ok {n:Nat} {m:Mem} {es:List Ent} (h0:es≠[]) (hl:es.length < 64) (ho:∀ e∈es,EntOk e):cf (n + 4) 31 [.t (setT es)] m = .ok (.t (.int (ZhY es))) m:=by
  have hk:ev (cf (n + 3)) gv ZaZ [some (.t (setT es)),some (.t (.lst (es.map fun e=>.str e.nm))),none,none,none,none,none] m = .ok (.t (.lst (es.map fun e=>.str e.kd))) m:=Zaa (g:=fun e=>.str e.kd) rfl rfl (by omega) fun e he=>Zk (Zk (x:=e.off) (Za rfl) (Zb _) rfl) (Zb _) rfl
  have hn:ev (cf (n + 3)) gv ZeH [some (.t (setT es)),none,none,none,none,none,none] m = .ok (.t (.lst (es.map fun e=>.str e.nm))) m:=Zaa (g:=fun e=>.str e.nm) rfl rfl (by omega) fun e he=>Zk (Zk (x:=e.off) (Za rfl) (Zb _) rfl) (Zb _) rfl
  have ll:bltT .len [.lst (es.map fun e=>T.str e.nm)]=some (.int (es.length:Int)):=by
    show some (T.int ((es.map fun e=>T.str e.nm).length:Int))=_
    rw [List.length_map]
  have key:ex (cf (n + 3)) gv Zbm [some (.t (setT es)),none,none,none,none,none,none] m = .ok (.ret (.t (.int (ZhY es)))) m:=by
    unfold Zbm ZhY
    refine (Zn hn).trans ?_
    dsimp only [List.set_cons_succ,List.set_cons_zero]
    have ht:ev (cf (n + 3)) gv (.or (.cmp .Gt (.blt .lenset (.cons ZaZ .nil)) (.con (.int 1))) (.cmp .Lt (.blt .lenset (.cons (.var 1) .nil)) (.blt .len (.cons (.var 1) .nil)))) [some (.t (setT es)),some (.t (.lst (es.map fun e=>.str e.nm))),none,none,none,none,none] m = .ok (.t (.bl (QH es || Q0 es))) m:=by
      have h1:=Zh (op:=.Gt) (Zr hk (Zbe hl)) (Zb (T.int 1)) (c_gt _ _)
      have h2:=Zh (call:=cf (n + 3)) (gv:=gv) (m:=m) (op:=.Lt) (env:=[some (.t (setT es)),some (.t (.lst (es.map fun e=>.str e.nm))),none,none,none,none,none]) (a:=.blt .lenset (.cons (.var 1) .nil)) (b:=.blt .len (.cons (.var 1) .nil)) (Zr (Za rfl) (Zbe (g:=fun e=>e.nm) hl)) (Zr (Za rfl) ll) (c_lt _ _)
      have h1:ev (cf (n + 3)) gv (.cmp .Gt (.blt .lenset (.cons ZaZ .nil)) (.con (.int 1))) [some (.t (setT es)),some (.t (.lst (es.map fun e=>.str e.nm))),none,none,none,none,none] m = .ok (.t (.bl (QH es))) m:=h1
      have h2:ev (cf (n + 3)) gv (.cmp .Lt (.blt .lenset (.cons (.var 1) .nil)) (.blt .len (.cons (.var 1) .nil))) [some (.t (setT es)),some (.t (.lst (es.map fun e=>.str e.nm))),none,none,none,none,none] m = .ok (.t (.bl (Q0 es))) m:=h2
      cases q:QH es with
      | true=>rw [q] at h1; exact ZaS h1
      | false =>
        rw [q] at h1
        rw [Bool.false_or]
        exact (QR h1).trans h2
    cases q:(QH es || Q0 es) with
    | true =>
      rw [q] at ht
      exact ZP ht (Zf (Zb _))
    | false =>
      rw [q] at ht
      refine (Zq ht).trans ?_
      rw [if_neg Bool.false_ne_true]
      have hP:=Zer (call:=cf (n + 3)) (tg:=.tp [2,3]) (it:=.var 0) (body:=Zek) (k:=.asg 6 (.blt .minl (.cons Zcn .nil)) (.ife (.cmp .NotEq Zco (.lst .nil)) (.ret (.con (.int 0)) .done) .done (.ret (.var 6) .done))) (env:=[some (.t (setT es)),some (.t (.lst (es.map fun e=>.str e.nm))),none,none,none,none,none]) (m:=m) (P:=fun env=>∃ a b c d,env=[some (.t (setT es)),some (.t (.lst (es.map fun e=>.str e.nm))),a,b,c,d,none]) (emb:=Ent.t) (as:=es) (g:=ZgI es) (x:=setT es) (Za rfl) rfl ⟨_,_,_,_,rfl⟩ (by
        rintro e he env ⟨a,b,c,d,rfl⟩
        refine ⟨[some (.t (setT es)),some (.t (.lst (es.map fun e=>.str e.nm))),some (.t e.off),some (.t (.int e.left)),c,d,none],rfl,?_⟩
        have hI:=Zer (call:=cf (n + 3)) (tg:=.tp [4,5]) (it:=.var 0) (body:=Zel) (k:=.done) (env:=[some (.t (setT es)),some (.t (.lst (es.map fun e=>.str e.nm))),some (.t e.off),some (.t (.int e.left)),c,d,none]) (m:=m) (P:=fun env=>∃ c d,env=[some (.t (setT es)),some (.t (.lst (es.map fun e=>.str e.nm))),some (.t e.off),some (.t (.int e.left)),c,d,none]) (emb:=Ent.t) (as:=es) (g:=fun f=>if Zba e f then some (.int 0) else none) (x:=setT es) (Za rfl) rfl ⟨_,_,rfl⟩ (by
          rintro f hf env ⟨c,d,rfl⟩
          refine ⟨[some (.t (setT es)),some (.t (.lst (es.map fun e=>.str e.nm))),some (.t e.off),some (.t (.int e.left)),some (.t f.off),some (.t (.int f.left)),none],rfl,?_⟩
          have hc:ev (cf (n + 3)) gv (.and (.cmp .NotEq (.ix (.var 4) (.con (.int 0))) (.ix (.var 2) (.con (.int 0)))) (.not (.call 30 (.cons (.ix (.var 2) (.con (.int 2))) (.cons (.ix (.var 4) (.con (.int 1))) .nil))))) [some (.t (setT es)),some (.t (.lst (es.map fun e=>.str e.nm))),some (.t e.off),some (.t (.int e.left)),some (.t f.off),some (.t (.int f.left)),none] m = .ok (.t (.bl (Zba e f))) m:=by
            have h1:ev (cf (n + 3)) gv (.cmp .NotEq (.ix (.var 4) (.con (.int 0))) (.ix (.var 2) (.con (.int 0)))) [some (.t (setT es)),some (.t (.lst (es.map fun e=>.str e.nm))),some (.t e.off),some (.t (.int e.left)),some (.t f.off),some (.t (.int f.left)),none] m = .ok (.t (.bl (!(f.sd == e.sd)))) m:=Zh (Zk (x:=f.off) (Za rfl) (Zb _) rfl) (Zk (x:=e.off) (Za rfl) (Zb _) rfl) (c_neS _ _)
            unfold Zba
            cases q:(f.sd == e.sd) with
            | true=>rw [q] at h1; exact Jx h1
            | false =>
              rw [q] at h1
              refine (Jw h1).trans ?_
              exact ZX ((Zy (Zk (x:=e.off) (Za rfl) (Zb _) rfl) (Zk (x:=f.off) (Za rfl) (Zb _) rfl)).trans (lb (ho e he) (ho f hf) n m).2)
          show match (if Zba e f=true then some (T.int 0) else none) with
            | some r=>_
            | none=>_
          cases q:Zba e f with
          | true =>
            rw [q] at hc
            exact ZP hc (Zf (Zb _))
          | false =>
            rw [q] at hc
            exact ⟨_,(Zq hc).trans QG,_,_,rfl⟩)
        show match (es.findSome? fun f=>if Zba e f then some (T.int 0) else none) with
          | some r=>_
          | none=>_
        cases q:es.findSome? fun f=>if Zba e f then some (T.int 0) else none with
        | some r=>rw [q] at hI; exact hI
        | none =>
          rw [q] at hI
          obtain ⟨env',h1,c',d',rfl⟩:=hI
          exact ⟨_,h1.trans QG,_,_,_,_,rfl⟩)
      cases qp:es.findSome? (ZgI es) with
      | some r =>
        rw [qp] at hP
        have hz:r = .int 0:=by
          obtain ⟨e,_,q1⟩:=List.exists_of_findSome?_eq_some qp
          obtain ⟨f,_,q2⟩:=List.exists_of_findSome?_eq_some q1
          split at q2 <;> cases q2
          rfl
        subst hz
        exact hP
      | none =>
        rw [qp] at hP
        obtain ⟨env',h1,a,b,c,d,rfl⟩:=hP
        refine h1.trans ?_
        have hm:ev (cf (n + 3)) gv Zcn [some (.t (setT es)),some (.t (.lst (es.map fun e=>.str e.nm))),a,b,c,d,none] m = .ok (.t (.lst (es.map fun e=>.int e.left))) m:=Zaa rfl rfl (by omega) fun e he=>Za rfl
        refine (Zn (Zr hm (Ziq h0 hl))).trans ?_
        dsimp only [List.set_cons_succ,List.set_cons_zero]
        have hf:ev (cf (n + 3)) gv Zco [some (.t (setT es)),some (.t (.lst (es.map fun e=>.str e.nm))),a,b,c,d,some (.t (.int (minL es)))] m = .ok (.t (.lst ((es.filter (Jq es)).map fun _=>.int 1))) m:=by
          have h:=Xu (f:=Jh (cf (n + 3)) gv (.cons (.cmp .Lt (.var 2) (.blt .min2 (.cons (.ix (.var 0) (.con (.int 4))) (.cons (.var 1) .nil)))) .nil) Zem) (tg:=.tp [0,1]) (env:=[none,none,some (.t (.int (minL es)))]) (m:=m) (emb:=Ent.t) (g:=fun e=>if Jq es e then [T.int 1] else []) es (fun e he=>by
            refine ⟨[some (.t e.off),some (.t (.int e.left)),some (.t (.int (minL es)))],rfl,?_⟩
            have hc:ev (cf (n + 3)) gv (.cmp .Lt (.var 2) (.blt .min2 (.cons (.ix (.var 0) (.con (.int 4))) (.cons (.var 1) .nil)))) [some (.t e.off),some (.t (.int e.left)),some (.t (.int (minL es)))] m = .ok (.t (.bl (Jq es e))) m:=Zh (Za rfl) (Zfn (x:=.int e.least) (y:=.int e.left) (Zk (x:=e.off) (Za rfl) (Zb _) rfl) (Za rfl) rfl) (c_lt _ _)
            cases q:Jq es e with
            | true =>
              rw [q] at hc
              exact ZfF hc (JQ (Zb _))
            | false =>
              rw [q] at hc
              exact ZfG hc)
          rw [Zcd] at h
          exact Qj (x:=.t (setT es)) (m0:=m) (m1:=m) (Za rfl) rfl h (by rw [List.length_map]; have:=List.length_filter_le (Jq es) es; unfold lim; omega)
        have hemp:∀ env:Env,ev (cf (n + 3)) gv (.lst .nil) env m = .ok (.t (.lst [])) m:=fun env=>Qd Zi rfl Zg
        have hne:=Zh hf (hemp _) (Zcg (ZiU (es.filter (Jq es)))).2
        have he:((es.filter (Jq es)).map fun _=>T.int 1).isEmpty=(es.filter (Jq es)).isEmpty:=by cases es.filter (Jq es) <;> rfl
        rw [he] at hne
        show ex _ _ _ _ _ = .ok (.ret (.t (.int (if (es.filter (Jq es)).isEmpty=true then minL es else 0)))) m
        cases qe:(es.filter (Jq es)).isEmpty with
        | true =>
          rw [qe] at hne
          exact (Zq hne).trans (Zf (Za rfl))
        | false =>
          rw [qe] at hne
          exact ZP hne (Zf (Zb _))
  exact ZK (Zlc _ _ _) rfl key (Zu (cell:=false) rfl)
def ZkY:List Nat:=[103,105,118,101]
def ZjF:List Nat:=[116,97,107,101]
def Znu:List Nat:=[98,101,97,114]
def mm (m:Mem) (xs:List T):Mem:=m++[some (false,xs)]
theorem Zio {m:Mem} {xs:List T}:(mm m xs).length=m.length + 1:=by simp [mm]
theorem Zg0 {m:Mem} {i:Nat} {s xs:List T} (hi:i < m.length):(put (mm m xs) i s)[m.length]? = some (some (false,xs)):=by
  unfold put mm
  rw [List.getElem?_set_ne (by omega),List.getElem?_append_right (Nat.le_refl _),Nat.sub_self]
  rfl
theorem ZlF {m:Mem} {i:Nat} {s xs ys:List T} (hi:i < m.length):(put (mm m xs) i s).set m.length (some (false,ys))=put (mm m ys) i s:=by
  unfold put mm
  rw [List.set_comm _ _ (by omega),List.set_append_right _ _ (Nat.le_refl _),Nat.sub_self]
  rfl
theorem Zin {m:Mem} {i:Nat} {s xs:List T} (hi:i < m.length):(put (mm m xs) i s).take m.length=put m i s:=by
  unfold put mm
  rw [List.set_append_left _ _ hi,List.take_left' (by rw [List.length_set])]
theorem ZlG {m:Mem} {i:Nat} {s:List T} (hi:i < m.length):put m i s++[some (false,[])]=put (mm m []) i s:=by
  unfold put mm
  rw [List.set_append_left _ _ hi]
theorem d_app {m:Mem} {j:Nat} {xs:List T} {x:T} (h:m[j]? = some (some (false,xs))) (hl:xs.length < 1000):doM .append (.c j) [.t x] m = .ok (.t .non) (m.set j (some (false,xs++[x]))):=by
  have hm:mutM .append xs [x]=some (.non,xs++[x]):=if_pos (by unfold lim; omega)
  simp [doM,Zeo,Zen,Zw,h,hm]
theorem ev_tr {call:Nat→List W→Mem→Res W} {env:Env} {m m1:Mem} {a:E} {x:T} (h:ev call gv a env m = .ok (.t x) m1):ev call gv (.tr a) env m = .ok (.t x) m1:=by rw [ev,h]; rfl
theorem ZjN {n:Nat} {m:Mem} {i:Nat} {s:List T} {es:List Ent} {k turn:Int} {sd:List Nat} {f5 f6 f7 f8:Option W} (hi:i < m.length) (hs:IsSt s) (hsd:okS sd=true) (hl:es.length < 100) :
    ∃ (e:Ent) (s':List T) (g5 g6 g7 g8:Option W),ex (cf (n + 7)) gv ZaM [some (.c i),some (.c m.length),some (.t (.int turn)),some (.t (.int k)),some (.t (.str sd)),f5,f6,f7,f8] (put (mm m (es.map Ent.t)) i s) = .ok (.next [some (.c i),some (.c m.length),some (.t (.int turn)),some (.t (.int k)),some (.t (.str sd)),g5,g6,g7,g8]) (put (mm m ((es++[e]).map Ent.t)) i s')∧IsSt s'∧EntOk e∧e.sd=sd:=by
  have hi':i < (mm m (es.map Ent.t)).length:=by rw [Zio]; omega
  obtain ⟨d1,s1,g1,hs1,a0,a1⟩:=ZZ (n:=n + 6) (many:=9) hi' hs (by decide) (by decide)
  have hdv:=Zlq (i:=d1) (j:=8) (by decide)
  obtain ⟨kd,hkd,hkm⟩:=Jy (xs:=[T.str [114,121,101],.str [111,97,116]]) (i:=d1 / 8) (by omega) (by simp; omega)
  have hk':∃ kd':List Nat,kd = .str kd'∧okS kd' = true:=by
    simp only [List.mem_cons,List.not_mem_nil,or_false] at hkm
    rcases hkm with rfl | rfl
    · exact ⟨_,rfl,by decide +kernel⟩
    · exact ⟨_,rfl,by decide +kernel⟩
  obtain ⟨kd,rfl,okd⟩:=hk'
  obtain ⟨d2,s2,g2,hs2,b0,b1⟩:=ZZ (n:=n + 6) (many:=9) hi' hs1 (by decide) (by decide)
  have hmu:=Zhk (i:=k) (j:=b2i (decide (0 < d2))) (mulR (by cases decide (0 < d2) <;> decide) (by cases decide (0 < d2) <;> decide))
  obtain ⟨nm,g3,onm⟩:=Zil (n:=n + 6) (m:=put (mm m (es.map Ent.t)) i s2) (k:=turn + k * b2i (decide (0 < d2)))
  obtain ⟨till,s3,g4,hs3,t0,t1⟩:=ZZ (n:=n + 6) (many:=1000000000) hi' hs2 (by decide) (by decide)
  obtain ⟨mk,sz,w,many,least,wt,s4,g5,hs4,hc,hw,⟨m1,m2⟩,⟨l1,l2⟩,_⟩:=ZkD (n:=n) (sd:=sd) (till:=till) hi' hs3 onm okd
  obtain ⟨c1,s5,g6,hs5,c10,c11⟩:=ZZ (n:=n + 6) (many:=many) hi' hs4 (by omega) (by omega)
  have hmn:1≤min2 9 many∧min2 9 many≤9:=by unfold min2; split <;> omega
  obtain ⟨c2,s6,g7,hs6,c20,c21⟩:=ZZ (n:=n + 6) (many:=min2 9 many) hi' hs5 (by omega) (by omega)
  obtain ⟨c3,s7,g8,hs7,c30,c31⟩:=ZZ (n:=n + 6) (many:=3) hi' hs6 (by decide) (by decide)
  obtain ⟨z,hz,hzm⟩:=Jy (xs:=[T.int many,.int (1 + c1),.int (1 + c2)]) c30 (by simpa using c31)
  have hz':∃ v:Int,z = .int v∧1≤v:=by
    simp only [List.mem_cons,List.not_mem_nil,or_false] at hzm
    rcases hzm with rfl | rfl | rfl <;> exact ⟨_,rfl,by omega⟩
  obtain ⟨left,rfl,hleft⟩:=hz'
  refine ⟨⟨sd,nm,kd,mk,sz,w,many,least,wt,till,left⟩,s7,some (.t (.str kd)),some (.t (.str nm)),some (.t (offT sd nm kd mk sz w many least wt till)),some (.t (.int left)),?_,hs7,⟨hc,hw,hsd,l1,hleft⟩,rfl⟩
  unfold ZaM
  refine (Zn (w:=.t (.str kd)) (m1:=put (mm m (es.map Ent.t)) i s1) (Zk (Qd (Zd (Zb _) (Zd (Zb _) Zi)) rfl Zg) (Zt ((ZL (Zd (Za rfl) (Zd (Zb _) Zi))).trans g1) (Zb _) hdv) hkd)).trans ?_
  dsimp only [List.set_cons_succ,List.set_cons_zero]
  refine (Zn (w:=.t (.str nm)) (m1:=put (mm m (es.map Ent.t)) i s2) ((ZL (Zd (Zt (Za rfl) (Zt (Za rfl) (ZaT (Zd (Zh ((ZL (Zd (Za rfl) (Zd (Zb _) Zi))).trans g2) (Zb _) rfl) Zi) rfl rfl) hmu) rfl) Zi)).trans g3)).trans ?_
  dsimp only [List.set_cons_succ,List.set_cons_zero]
  have hpw:binT .Pow (.int 10) (.int 9)=some (.int 1000000000):=by rw [Znw (by decide)]; rfl
  refine (Zn (w:=.t (offT sd nm kd mk sz w many least wt till)) (m1:=put (mm m (es.map Ent.t)) i s4) ((ZL (Zd (Za rfl) (Zd (Za rfl) (Zd (Za rfl) (Zd (Za rfl) (Zd ((ZL (Zd (Za rfl) (Zd (Zt (Zb _) (Zb _) hpw) Zi))).trans g4) Zi)))))).trans g5)).trans ?_
  dsimp only [List.set_cons_succ,List.set_cons_zero]
  refine (Zn (w:=.t (.int left)) (m1:=put (mm m (es.map Ent.t)) i s7) (Zk (Qd (Zd (Zk (Za rfl) (Zb _) rfl) (Zd (Zt (Zb _) ((ZL (Zd (Za rfl) (Zd (Zk (Za rfl) (Zb _) rfl) Zi))).trans g6) rfl) (Zd (Zt (Zb _) ((ZL (Zd (Za rfl) (Zd (ZaT (Zd (Zb _) (Zd (Zk (Za rfl) (Zb _) rfl) Zi)) rfl rfl) Zi))).trans g7) rfl) Zi))) rfl Zg) ((ZL (Zd (Za rfl) (Zd (Zb _) Zi))).trans g8) hz)).trans ?_
  dsimp only [List.set_cons_succ,List.set_cons_zero]
  have happ:ev (cf (n + 7)) gv (.mth .append (.var 1) (.cons (.tup (.cons (.var 7) (.cons (.var 8) .nil))) .nil)) [some (.c i),some (.c m.length),some (.t (.int turn)),some (.t (.int k)),some (.t (.str sd)),some (.t (.str kd)),some (.t (.str nm)),some (.t (offT sd nm kd mk sz w many least wt till)),some (.t (.int left))] (put (mm m (es.map Ent.t)) i s7) = .ok (.t .non) (put (mm m ((es++([⟨sd,nm,kd,mk,sz,w,many,least,wt,till,left⟩]:List Ent)).map Ent.t)) i s7):=by
    rw [ev,Za rfl,Zw]
    have ht:tyM .append (.c m.length) (put (mm m (es.map Ent.t)) i s7)=true:=by
      show (match (put (mm m (es.map Ent.t)) i s7)[m.length]? with
        | some (some _)=>true
        | _=>false)=true
      rw [Zg0 hi]
    rw [if_pos ht,evs,Q3 (Za rfl) (Za rfl),Zw,evs,Zw,Zw]
    rw [d_app (Zg0 hi) (by rw [List.length_map]; omega),ZlF hi,List.map_append]
    rfl
  exact (Zdv happ).trans QG
theorem Zaw {n:Nat} {m:Mem} {i:Nat} {turn:Int} (hi:i < m.length):∀ (ps:List (Int×List Nat)) (es:List Ent) (s:List T) (f3 f4 f5 f6 f7 f8:Option W),IsSt s→(∀ p∈ps,okS p.2=true)→es.length + ps.length < 100→(∀ e∈es,EntOk e) →
    ∃ (es':List Ent) (s':List T) (env':Env),Qz (ex (cf (n + 7)) gv ZaM) (.tp [3,4]) (ps.map fun p=>.tup [.int p.1,.str p.2]) [some (.c i),some (.c m.length),some (.t (.int turn)),f3,f4,f5,f6,f7,f8] (put (mm m (es.map Ent.t)) i s) = .ok (.next env') (put (mm m (es'.map Ent.t)) i s')∧IsSt s'∧(∀ e∈es',EntOk e)∧es'.map (·.sd)=es.map (·.sd)++ps.map (·.2)∧env'[1]? = some (some (.c m.length))
  | [],es,s,f3,f4,f5,f6,f7,f8,hs,_,_,ho=>⟨es,s,_,rfl,hs,ho,by rw [List.map_nil,List.append_nil],rfl⟩
  | p :: ps,es,s,f3,f4,f5,f6,f7,f8,hs,hp,hl,ho=>by
    rw [List.length_cons] at hl
    obtain ⟨e,s1,g5,g6,g7,g8,h1,hs1,he,hsd⟩:=ZjN (n:=n) (es:=es) (k:=p.1) (turn:=turn) (sd:=p.2) (f5:=f5) (f6:=f6) (f7:=f7) (f8:=f8) hi hs (hp p List.mem_cons_self) (by omega)
    obtain ⟨es',s',env',h2,hs',ho',hm,hv⟩:=Zaw (n:=n) (turn:=turn) hi ps (es++[e]) s1 (some (.t (.int p.1))) (some (.t (.str p.2))) g5 g6 g7 g8 hs1 (fun q hq=>hp q (List.mem_cons_of_mem _ hq)) (by rw [List.length_append,List.length_singleton]; omega) (fun x hx=>by
      rcases List.mem_append.mp hx with hx | hx
      · exact ho x hx
      · rw [List.mem_singleton.mp hx]; exact he)
    refine ⟨es',s',env',?_,hs',ho',?_,hv⟩
    · rw [List.map_cons,Qz]
      show (ex (cf (n + 7)) gv ZaM [some (.c i),some (.c m.length),some (.t (.int turn)),some (.t (.int p.1)),some (.t (.str p.2)),f5,f6,f7,f8] (put (mm m (es.map Ent.t)) i s)).bind _=_
      rw [h1]
      exact h2
    · rw [hm,List.map_append,List.map_cons,List.map_cons,hsd,List.append_assoc]
      rfl
theorem set_ok {n:Nat} {m:Mem} {i:Nat} {s:List T} (hi:i < m.length) (hs:IsSt s):∃ (es:List Ent) (s':List T),cf (n + 8) 32 [.c i] (put m i s) = .ok (.t (setT es)) (put m i s')∧IsSt s'∧(∀ e∈es,EntOk e)∧es≠[]∧es.length≤3∧(es.map (·.sd)).Nodup:=by
  have hi':i < (mm m []).length:=by rw [Zio]; omega
  obtain ⟨turn,s1,g1,hs1,_,_⟩:=ZZ (n:=n + 6) (many:=12) hi' hs (by decide) (by decide)
  obtain ⟨r,s2,g2,hs2,r0,r1⟩:=ZZ (n:=n + 6) (many:=2) hi' hs1 (by decide) (by decide)
  have hps:∃ ps:List (Int×List Nat),bltT .enum [.lst (cut [T.str ZkY,.str ZjF,.str Znu] none (some (2 + r)))]=some (.lst (ps.map fun p=>.tup [.int p.1,.str p.2]))∧(∀ p∈ps,okS p.2=true)∧ps.length≤3∧ps≠[]∧(ps.map (·.2)).Nodup:=by
    have k1:okS ZkY=true:=by decide +kernel
    have k2:okS ZjF=true:=by decide +kernel
    have k3:okS Znu=true:=by decide +kernel
    rcases (show r=0∨r=1 by omega) with rfl | rfl
    · exact ⟨[(0,ZkY),(1,ZjF)],rfl,by simp [k1,k2],by decide,by simp,by decide⟩
    · exact ⟨[(0,ZkY),(1,ZjF),(2,Znu)],rfl,by simp [k1,k2,k3],by decide,by simp,by decide⟩
  obtain ⟨ps,he,hok,hlen,hne,hnd⟩:=hps
  obtain ⟨es,s3,env',h3,hs3,ho,hm,hv⟩:=Zaw (n:=n) (turn:=turn) hi ps [] s2 none none none none none none hs2 hok (by simp; omega) (fun e he=>by cases he)
  have hm:es.map (·.sd)=ps.map (·.2):=by simpa using hm
  have hln:es.length=ps.length:=by
    have:=congrArg List.length hm
    simpa using this
  refine ⟨es,s3,?_,hs3,ho,fun z=>hne (List.length_eq_zero_iff.mp (by rw [← hln,z]; rfl)),by omega,by rw [hm]; exact hnd⟩
  have key:ex (cf (n + 7)) gv ZcY [some (.c i),none,none,none,none,none,none,none,none] (put m i s) = .ok (.ret (.c m.length)) (put (mm m (es.map Ent.t)) i s3):=by
    unfold ZcY
    refine (Zn (w:=.c m.length) (m1:=put (mm m []) i s) ?_).trans ?_
    · rw [← ZlG hi]
      rw [ev,evs]
      show Res.ok (W.c (put m i s).length) _=_
      rw [Z4]
    dsimp only [List.set_cons_succ,List.set_cons_zero]
    refine (Zn ((Zy (Za rfl) (Zb _)).trans g1)).trans ?_
    dsimp only [List.set_cons_succ,List.set_cons_zero]
    have hit:ev (cf (n + 7)) gv (.blt .enum (.cons (.tr (.slc (.lst (.cons (.con (.str [103,105,118,101])) (.cons (.con (.str [116,97,107,101])) (.cons (.con (.str [98,101,97,114])) .nil)))) .hole (.bin .Add (.con (.int 2)) (.call 23 (.cons (.var 0) (.cons (.con (.int 2)) .nil)))))) .nil)) [some (.c i),some (.c m.length),some (.t (.int turn)),none,none,none,none,none,none] (put (mm m []) i s1) = .ok (.t (.lst (ps.map fun p=>.tup [.int p.1,.str p.2]))) (put (mm m []) i s2):=by
      refine Zr (ev_tr (Zcf (Qd (Zd (Zb _) (Zd (Zb _) (Zd (Zb _) Zi))) rfl Zg) (Zt (Zb _) ((Zy (Za rfl) (Zb _)).trans g2) (ZfB _ _)) rfl)) he
    refine (Jg hit rfl h3).trans ?_
    exact Zf (Za hv)
  refine ZK (Znm _ _ _) rfl key ?_
  show fin (put m i s).length false (.ret (.c m.length)) _=_
  rw [Z4]
  unfold fin
  dsimp only
  rw [if_neg (Nat.lt_irrefl _),Zg0 hi]
  dsimp only
  rw [if_neg Bool.false_ne_true,Zin hi]
  rfl
theorem Zk0:∀ (n:Nat) (t:T),Zm n t=true→eqT t t=true:=by
  intro n
  induction n with
  | zero =>
    intro t h
    cases t with
    | non=>rfl
    | bl b=>simp [eqT]
    | int b=>simp [eqT]
    | str b=>simp [eqT]
    | tup ts=>simp [Zm] at h
    | lst ts=>simp [Zm] at h
    | dct ks ts=>simp [Zm] at h
    | scr ns=>simp [Zm] at h
  | succ n ih =>
    have hl:∀ ts:List T,Zo n ts=true→eqTs ts ts=true:=by
      intro ts
      induction ts with
      | nil=>intro _; rfl
      | cons t ts iht =>
        intro h
        rw [Zo,Bool.and_eq_true] at h
        rw [eqTs,ih t h.1,iht h.2]
        rfl
    intro t h
    cases t with
    | tup ts=>rw [Zm] at h; rw [eqT]; exact hl ts h
    | lst ts=>rw [Zm] at h; rw [eqT]; exact hl ts h
    | non=>rfl
    | bl b=>simp [eqT]
    | int b=>simp [eqT]
    | str b=>simp [eqT]
    | dct ks ts=>simp [Zm] at h
    | scr ns=>simp [Zm] at h
theorem Zm0 {t:T} (h:Zm 60 t=true):cmpT .NotEq t t=some false:=by
  show (if (ZdU t t || (Zm 60 t && Zm 60 t))=true then some (!eqT t t) else none)=_
  rw [h,Bool.true_and,Bool.or_true,if_pos rfl,Zk0 60 t h]
  rfl
theorem Zi7 {nm kd:List Nat} {mk:List (List Nat)} {sz:List (List Nat×Int)} (h:Zls nm kd mk sz):Zm 57 (Z3 nm kd mk sz)=true:=by
  obtain ⟨_,_,h1,h2,h3,h4⟩:=h
  have e1:Zo 55 (mk.map T.str)=true:=QD.mpr fun t ht=>by
    obtain ⟨w,hw,rfl⟩:=List.mem_map.mp ht
    exact h1 w hw
  have e2:Zo 55 (sz.map JP)=true:=QD.mpr fun t ht=>by
    obtain ⟨p,hp,rfl⟩:=List.mem_map.mp ht
    have:=h2 p hp
    unfold okS at this
    simp [JP,Zm,Zo,this]
  unfold okS at h3 h4
  simp [Z3,Zm,Zo,e1,e2,h3,h4]
theorem Zk1 {e:Ent} (h:EntOk e):Zm 59 e.t=true:=by
  have h1:=Zi7 h.card
  have h2:=h.wish.2 52
  have h3:=h.sd
  unfold okS at h3
  have h2:Zm 57 e.w=true:=h2
  simp [Ent.t,Ent.off,offT,Zm,Zo,h1,h2,h3]
theorem ZjO {es:List Ent} (h:∀ e∈es,EntOk e):Zm 60 (setT es)=true:=by
  show Zo 59 (es.map Ent.t)=true
  refine QD.mpr fun t ht=>?_
  obtain ⟨e,he,rfl⟩:=List.mem_map.mp ht
  exact Zk1 (h e he)
theorem ne_int (v:Int):cmpT .NotEq (.int v) (.int v)=some false:=by rw [ZeF]; simp
theorem l_list (ts:List T):bltT .list [.lst ts]=some (.lst ts):=rfl
theorem Zjk {call:Nat→List W→Mem→Res W} {env:Env} {m:Mem} {i j:Nat} {s s' xs:List T} {x:T} {e:E} (hi:i < m.length) (hl:xs.length < 1000) (hv:env[j]? = some (some (.c m.length))) (hx:ev call gv e env (put (mm m xs) i s) = .ok (.t x) (put (mm m xs) i s')):ev call gv (.mth .append (.var j) (.cons e .nil)) env (put (mm m xs) i s) = .ok (.t .non) (put (mm m (xs++[x])) i s'):=by
  rw [ev,Za hv,Zw]
  have ht:tyM .append (.c m.length) (put (mm m xs) i s)=true:=by
    show (match (put (mm m xs) i s)[m.length]? with
      | some (some _)=>true
      | _=>false)=true
    rw [Zg0 hi]
  rw [if_pos ht,evs,hx,Zw,evs,Zw,Zw]
  rw [d_app (Zg0 hi) hl,ZlF hi]
abbrev Xw:T:=.tup [.str kindS]
abbrev Xq:T:=.tup [.str nameS]
abbrev ZeT (i j:Nat) (R:T):T:=.tup [.str J1,.int (i:Int),.int (j:Int),R]
def Gd (es:List Ent) (t:T):Prop:=(t=Xw∧QH es=true)∨(t=Xq∧Q0 es=true)∨(∃ i e,es[i]? = some e∧t=Qc i∧Q4 es i=true)∨∃ i j e f R,es[i]? = some e∧es[j]? = some f∧wayB es i j=true∧t=ZeT i j R∧Good f.card 2 e.w false R
section
variable {n:Nat} {m:Mem} {i:Nat} {es:List Ent}
theorem ZcD {a j:Nat} {e f:Ent} (ha:es[a]? = some e) (hj:es[j]? = some f):wayB es a j=(!((a:Int) == (j:Int)) && !LB e f):=by
  unfold wayB
  rw [ha,hj]
theorem Zjp {a j:Nat} {e f:Ent} {s xs:List T} {e3 e6:Option W} (hi:i < m.length) (hs:IsSt s) (ha:es[a]? = some e) (hj:es[j]? = some f) (ho:∀ e∈es,EntOk e) (hl:xs.length < 1000) :
    ∃ ys s',ex (cf (n + 5)) gv ZaO [some (.c i),some (.t (setT es)),some (.c m.length),e3,some (.t (.int (a:Int))),some (.t e.off),e6,some (.t (.int (j:Int)))] (put (mm m xs) i s) = .ok (.next [some (.c i),some (.t (setT es)),some (.c m.length),e3,some (.t (.int (a:Int))),some (.t e.off),e6,some (.t (.int (j:Int)))]) (put (mm m (xs++ys)) i s')∧IsSt s'∧ys.length≤1∧(∀ t∈ys,Gd es t)∧(wayB es a j=true→ys≠[]):=by
  have he:=ho e (List.mem_of_getElem? ha)
  have hf:=ho f (List.mem_of_getElem? hj)
  have hcond:ev (cf (n + 5)) gv (.and (.cmp .NotEq (.var 4) (.var 7)) (.not (.call 30 (.cons (.ix (.var 5) (.con (.int 2))) (.cons (.ix (.ix (.ix (.var 1) (.var 7)) (.con (.int 0))) (.con (.int 1))) .nil))))) [some (.c i),some (.t (setT es)),some (.c m.length),e3,some (.t (.int (a:Int))),some (.t e.off),e6,some (.t (.int (j:Int)))] (put (mm m xs) i s) = .ok (.t (.bl (wayB es a j))) (put (mm m xs) i s):=by
    rw [ZcD ha hj]
    have hne:=Zh (call:=cf (n + 5)) (gv:=gv) (m:=put (mm m xs) i s) (op:=.NotEq) (a:=.var 4) (b:=.var 7) (env:=[some (.c i),some (.t (setT es)),some (.c m.length),e3,some (.t (.int (a:Int))),some (.t e.off),e6,some (.t (.int (j:Int)))]) (Za rfl) (Za rfl) (ZeF (a:Int) (j:Int))
    cases q:((a:Int) == (j:Int)) with
    | true =>
      rw [q] at hne
      exact Jx hne
    | false =>
      rw [q] at hne
      refine (Jw hne).trans ?_
      exact ZX ((Zy (Zk (Za rfl) (Zb _) rfl) (Zk (Zk (Zk (Za rfl) (Za rfl) (Zaf hj)) (Zb _) rfl) (Zb _) rfl)).trans (lb he hf (n + 2) _).2)
  cases q:wayB es a j with
  | false =>
    rw [q] at hcond
    refine ⟨[],s,?_,hs,Nat.zero_le _,fun t ht=>(by cases ht),fun z=>by cases z⟩
    rw [List.append_nil]
    exact (Zq hcond).trans QG
  | true =>
    rw [q] at hcond
    have hLB:LB e f=false:=by
      have:=ZcD ha hj
      rw [q] at this
      cases h:LB e f with
      | false=>rfl
      | true=>rw [h,Bool.not_true,Bool.and_false] at this; cases this
    have hi':i < (mm m xs).length:=by rw [Zio]; omega
    obtain ⟨R,s',h1,hs',g⟩:=(tl he hf).any n (mm m xs) i s hi' hs
    rw [hLB] at g
    refine ⟨[ZeT a j R],s',?_,hs',Nat.le_refl _,fun t ht=>?_,fun _ z=>by cases z⟩
    · refine (Zet hcond ((Zdv (Zjk (x:=ZeT a j R) hi hl rfl ?_)).trans QG)).trans QG
      exact Zx (Zd (Zb _) (Zd (Za rfl) (Zd (Za rfl) (Zd ((Z2 (Za rfl) (Zk (Za rfl) (Zb _) rfl) (Zk (Zk (Zk (Za rfl) (Za rfl) (Zaf hj)) (Zb _) rfl) (Zb _) rfl)).trans h1) Zi)))) rfl Zg
    · rw [List.mem_singleton.mp ht]
      exact .inr (.inr (.inr ⟨a,j,e,f,R,ha,hj,q,rfl,g⟩))
theorem ZeQ {a:Nat} {e:Ent} {e3 e6:Option W} (hi:i < m.length) (ha:es[a]? = some e) (ho:∀ e∈es,EntOk e):∀ (js:List Nat) (s xs:List T) (e7:Option W),(∀ j∈js,j < es.length)→IsSt s→xs.length + js.length < 1000 →
    ∃ ys s' g7,Qz (ex (cf (n + 5)) gv ZaO) (.nm 7) (js.map intN) [some (.c i),some (.t (setT es)),some (.c m.length),e3,some (.t (.int (a:Int))),some (.t e.off),e6,e7] (put (mm m xs) i s) = .ok (.next [some (.c i),some (.t (setT es)),some (.c m.length),e3,some (.t (.int (a:Int))),some (.t e.off),e6,g7]) (put (mm m (xs++ys)) i s')∧IsSt s'∧ys.length≤js.length∧(∀ t∈ys,Gd es t)∧(∀ j∈js,wayB es a j=true→ys≠[])
  | [],s,xs,e7,_,hs,_=>⟨[],s,e7,by rw [List.append_nil]; rfl,hs,Nat.le_refl _,fun t ht=>(by cases ht),fun j hj=>(by cases hj)⟩
  | j :: js,s,xs,e7,hj,hs,hl=>by
    rw [List.length_cons] at hl
    have hjl:=hj j List.mem_cons_self
    obtain ⟨ys,s1,h1,hs1,l1,g1,w1⟩:=Zjp (n:=n) (e3:=e3) (e6:=e6) (xs:=xs) (f:=es[j]) hi hs ha (List.getElem?_eq_getElem hjl) ho (by omega)
    obtain ⟨zs,s2,g7,h2,hs2,l2,g2,w2⟩:=ZeQ (e3:=e3) (e6:=e6) hi ha ho js s1 (xs++ys) (some (.t (.int (j:Int)))) (fun k hk=>hj k (List.mem_cons_of_mem _ hk)) hs1 (by rw [List.length_append]; omega)
    refine ⟨ys++zs,s2,g7,?_,hs2,by rw [List.length_append,List.length_cons]; omega,fun t ht=>?_,fun k hk hw=>?_⟩
    · rw [List.map_cons,Qz]
      show (ex (cf (n + 5)) gv ZaO [some (.c i),some (.t (setT es)),some (.c m.length),e3,some (.t (.int (a:Int))),some (.t e.off),e6,some (.t (.int (j:Int)))] (put (mm m xs) i s)).bind _=_
      rw [h1,← List.append_assoc]
      exact h2
    · rcases List.mem_append.mp ht with ht | ht
      · exact g1 t ht
      · exact g2 t ht
    · rcases List.mem_cons.mp hk with rfl | hk
      · intro z
        exact w1 hw (List.append_eq_nil_iff.mp z).1
      · intro z
        exact w2 k hk hw (List.append_eq_nil_iff.mp z).2
theorem ZbW {call:Nat→List W→Mem→Res W} {env:Env} {M:Mem} {k:Nat} (h:env[k]? = some (some (.t (setT es)))) (hl:es.length < 64):ev call gv (.blt .range1 (.cons (.blt .len (.cons (.var k) .nil)) .nil)) env M = .ok (.t (.lst (rangeT 0 es.length))) M:=by
  have hr:=ZkL (i:=(es.length:Int)) ⟨by omega,by omega⟩
  rw [Int.toNat_natCast] at hr
  exact Zr (Zr (Za h) XJ) hr
theorem Zjo {a:Nat} {e:Ent} {s xs:List T} {e5 e6 e7:Option W} (hi:i < m.length) (hs:IsSt s) (ha:es[a]? = some e) (ho:∀ e∈es,EntOk e) (h3:es.length≤3) (hl:xs.length + 4 < 1000) :
    ∃ ys s' g5 g6 g7,ex (cf (n + 5)) gv ZaN [some (.c i),some (.t (setT es)),some (.c m.length),some (.t (.int (minL es))),some (.t (.int (a:Int))),e5,e6,e7] (put (mm m xs) i s) = .ok (.next [some (.c i),some (.t (setT es)),some (.c m.length),some (.t (.int (minL es))),some (.t (.int (a:Int))),g5,g6,g7]) (put (mm m (xs++ys)) i s')∧IsSt s'∧ys.length≤4∧(∀ t∈ys,Gd es t)∧(Q4 es a=true→Qc a∈ys)∧(∀ j,j < es.length→wayB es a j=true→ys≠[]):=by
  have hw:Q4 es a=decide (minL es < min2 e.least e.left):=by
    unfold Q4
    rw [ha]
  unfold ZaN
  have hst:∀ k:S,ex (cf (n + 5)) gv (.asgT [5,6] (.ix (.var 1) (.var 4)) k) [some (.c i),some (.t (setT es)),some (.c m.length),some (.t (.int (minL es))),some (.t (.int (a:Int))),e5,e6,e7] (put (mm m xs) i s)=ex (cf (n + 5)) gv k [some (.c i),some (.t (setT es)),some (.c m.length),some (.t (.int (minL es))),some (.t (.int (a:Int))),some (.t e.off),some (.t (.int e.left)),e7] (put (mm m xs) i s):=fun k=>XQ (Zk (Za rfl) (Za rfl) (Zaf ha)) rfl
  rw [hst]
  have hc:ev (cf (n + 5)) gv (.cmp .Lt (.var 3) (.blt .min2 (.cons (.ix (.var 5) (.con (.int 4))) (.cons (.var 6) .nil)))) [some (.c i),some (.t (setT es)),some (.c m.length),some (.t (.int (minL es))),some (.t (.int (a:Int))),some (.t e.off),some (.t (.int e.left)),e7] (put (mm m xs) i s) = .ok (.t (.bl (Q4 es a))) (put (mm m xs) i s):=by
    rw [hw]
    exact Zh (Za rfl) (Zfn (x:=.int e.least) (y:=.int e.left) (Zk (Za rfl) (Zb _) rfl) (Za rfl) rfl) (c_lt _ _)
  have go:∀ (ws:List T),ws.length≤1→∃ ys s' g7,ex (cf (n + 5)) gv (.forr (.nm 7) (.blt .range1 (.cons (.blt .len (.cons (.var 1) .nil)) .nil)) ZaO .done) [some (.c i),some (.t (setT es)),some (.c m.length),some (.t (.int (minL es))),some (.t (.int (a:Int))),some (.t e.off),some (.t (.int e.left)),e7] (put (mm m (xs++ws)) i s) = .ok (.next [some (.c i),some (.t (setT es)),some (.c m.length),some (.t (.int (minL es))),some (.t (.int (a:Int))),some (.t e.off),some (.t (.int e.left)),g7]) (put (mm m (xs++ws++ys)) i s')∧IsSt s'∧ys.length≤3∧(∀ t∈ys,Gd es t)∧(∀ j,j < es.length→wayB es a j=true→ys≠[]):=fun ws hws=>by
    obtain ⟨ys,s1,g7,h1,hs1,l1,g1,w1⟩:=ZeQ (n:=n) (e3:=some (.t (.int (minL es)))) (e6:=some (.t (.int e.left))) hi ha ho (List.range es.length) s (xs++ws) e7 (fun j hj=>List.mem_range.mp hj) hs (by rw [List.length_append,List.length_range]; omega)
    rw [List.length_range] at l1
    exact ⟨ys,s1,g7,(Jg (ZbW rfl (by omega)) (Xd _) h1).trans QG,hs1,by omega,g1,fun j hj=>w1 j (List.mem_range.mpr hj)⟩
  cases q:Q4 es a with
  | false =>
    rw [q] at hc
    obtain ⟨ys,s1,g7,h1,hs1,l1,g1,w1⟩:=go [] (Nat.zero_le _)
    rw [List.append_nil] at h1
    exact ⟨ys,s1,_,_,g7,(Zq hc).trans h1,hs1,by omega,g1,fun z=>(by cases z),w1⟩
  | true =>
    rw [q] at hc
    obtain ⟨ys,s1,g7,h1,hs1,l1,g1,w1⟩:=go [Qc a] (Nat.le_refl _)
    rw [List.append_assoc] at h1
    refine ⟨[Qc a]++ys,s1,_,_,g7,(Zet hc ((Zdv (Zjk (x:=Qc a) hi (by omega) rfl (Q3 (Zb _) (Za rfl)))).trans QG)).trans h1,hs1,by rw [List.length_append,List.length_singleton]; omega,fun t ht=>?_,fun _=>List.mem_append_left _ (List.mem_singleton.mpr rfl),fun j _ _ z=>by cases z⟩
    rcases List.mem_append.mp ht with ht | ht
    · rw [List.mem_singleton.mp ht]
      exact .inr (.inr (.inl ⟨a,e,ha,rfl,q⟩))
    · exact g1 t ht
theorem ZeP (hi:i < m.length) (ho:∀ e∈es,EntOk e) (h3:es.length≤3):∀ (as:List Nat) (s xs:List T) (e4 e5 e6 e7:Option W),(∀ j∈as,j < es.length)→IsSt s→xs.length + 4 * as.length + 4 < 1000 →
    ∃ ys s' g4 g5 g6 g7,Qz (ex (cf (n + 5)) gv ZaN) (.nm 4) (as.map intN) [some (.c i),some (.t (setT es)),some (.c m.length),some (.t (.int (minL es))),e4,e5,e6,e7] (put (mm m xs) i s) = .ok (.next [some (.c i),some (.t (setT es)),some (.c m.length),some (.t (.int (minL es))),g4,g5,g6,g7]) (put (mm m (xs++ys)) i s')∧IsSt s'∧ys.length≤4 * as.length∧(∀ t∈ys,Gd es t)∧(∀ a∈as,Q4 es a=true→Qc a∈ys)∧(∀ a∈as,∀ j,j < es.length→wayB es a j=true→ys≠[])
  | [],s,xs,e4,e5,e6,e7,_,hs,_=>⟨[],s,e4,e5,e6,e7,by rw [List.append_nil]; rfl,hs,Nat.le_refl _,fun t ht=>(by cases ht),fun j hj=>(by cases hj),fun j hj=>(by cases hj)⟩
  | a :: as,s,xs,e4,e5,e6,e7,hj,hs,hl=>by
    rw [List.length_cons] at hl
    have hal:=hj a List.mem_cons_self
    obtain ⟨ys,s1,f5,f6,f7,h1,hs1,l1,g1,k1,w1⟩:=Zjo (n:=n) (xs:=xs) (e5:=e5) (e6:=e6) (e7:=e7) hi hs (List.getElem?_eq_getElem hal) ho h3 (by omega)
    obtain ⟨zs,s2,g4,g5,g6,g7,h2,hs2,l2,g2,k2,w2⟩:=ZeP hi ho h3 as s1 (xs++ys) (some (.t (.int (a:Int)))) f5 f6 f7 (fun k hk=>hj k (List.mem_cons_of_mem _ hk)) hs1 (by rw [List.length_append]; omega)
    refine ⟨ys++zs,s2,g4,g5,g6,g7,?_,hs2,by rw [List.length_append,List.length_cons]; omega,fun t ht=>?_,fun k hk hw=>?_,fun k hk j hjl hw=>?_⟩
    · rw [List.map_cons,Qz]
      show (ex (cf (n + 5)) gv ZaN [some (.c i),some (.t (setT es)),some (.c m.length),some (.t (.int (minL es))),some (.t (.int (a:Int))),e5,e6,e7] (put (mm m xs) i s)).bind _=_
      rw [h1,← List.append_assoc]
      exact h2
    · rcases List.mem_append.mp ht with ht | ht
      · exact g1 t ht
      · exact g2 t ht
    · rcases List.mem_cons.mp hk with rfl | hk
      · exact List.mem_append_left _ (k1 hw)
      · exact List.mem_append_right _ (k2 k hk hw)
    · rcases List.mem_cons.mp hk with rfl | hk
      · intro z
        exact w1 j hjl hw (List.append_eq_nil_iff.mp z).1
      · intro z
        exact w2 k hk j hjl hw (List.append_eq_nil_iff.mp z).2
structure Al (es:List Ent) (xs:List T):Prop where
  gd:∀ t∈xs,Gd es t
  kd:QH es=true→Xw∈xs
  nm:Q0 es=true→Xq∈xs
  ls:∀ a,a < es.length→Q4 es a=true→Qc a∈xs
  wy:∀ a,a < es.length→∀ j,j < es.length→wayB es a j=true→xs≠[]
  len:xs.length < 100
end
section
variable {n:Nat} {m:Mem} {i:Nat} {es:List Ent}
theorem Zch {call:Nat→List W→Mem→Res W} {c a:E} {env:Env} {g:Ent→T} {k0:Nat} (hc:c = .comp 2 [] (.var k0) (.tp [0,1]) .nil (.emit a)) (h0:env[k0]? = some (some (.t (setT es)))) (hl:es.length≤100) (hg:∀ e∈es,ev call gv a [some (.t e.off),some (.t (.int e.left))] m = .ok (.t (g e)) m) :
    ev call gv c env m = .ok (.t (.lst (es.map g))) m:=by
  subst hc
  obtain ⟨xss,m',h,rfl,ht⟩:=Xr (f:=Jh call gv .nil (.emit a)) (tg:=.tp [0,1]) (env:=[none,none]) (P:=fun m'=>m' = m) (R:=fun t xs=>∀ e∈es,t=e.t→xs=[g e]) (es.map Ent.t) m rfl (by
    rintro t ht m' rfl
    obtain ⟨e,he,rfl⟩:=List.mem_map.mp ht
    refine ⟨[some (.t e.off),some (.t (.int e.left))],[g e],m',rfl,ZeU (JQ (hg e he)),rfl,fun f hf e'=>?_⟩
    have h1:=hg e he
    have h2:=hg f hf
    have h3:e.off=f.off∧T.int e.left = .int f.left:=by
      unfold Ent.t at e'
      injection e' with e'
      injection e' with e1 e'
      injection e' with e2 e'
      exact ⟨e1,e2⟩
    rw [h3.1,h3.2,h2] at h1
    injection h1 with h1
    injection h1 with h1
    rw [h1])
  have e:xss.flatten=es.map g:=by
    have:∀ (l:List Ent) (xss:List (List T)),(∀ e∈l,e∈es)→Turns (fun t xs=>∀ e∈es,t=e.t→xs=[g e]) (l.map Ent.t) xss→xss.flatten=l.map g:=by
      intro l
      induction l with
      | nil=>intro xss _ h; cases h; rfl
      | cons e l ih =>
        intro xss hs h
        cases h with
        | cons h ht =>
          rw [h e (hs e List.mem_cons_self) rfl,List.flatten_cons,ih _ (fun x hx=>hs x (List.mem_cons_of_mem _ hx)) ht]
          rfl
    exact this es xss (fun e he=>he) ht
  rw [e] at h
  exact Qj (x:=.t (setT es)) (m0:=m') (m1:=m') (Za h0) rfl h (by rw [List.length_map]; unfold lim; omega)
theorem Zh1 {call:Nat→List W→Mem→Res W} {env:Env} {s xs:List T} {x:T} {c e:E} {b:Bool} {j:Nat} {k:S} (hi:i < m.length) (hl:xs.length < 1000) (hv:env[j]? = some (some (.c m.length))) (hc:ev call gv c env (put (mm m xs) i s) = .ok (.t (.bl b)) (put (mm m xs) i s)) (hx:ev call gv e env (put (mm m xs) i s) = .ok (.t x) (put (mm m xs) i s)):ex call gv (.ife c (.expr (.mth .append (.var j) (.cons e .nil)) .done) .done k) env (put (mm m xs) i s)=ex call gv k env (put (mm m (xs++if b then [x] else [])) i s):=by
  cases b with
  | false =>
    rw [if_neg Bool.false_ne_true,List.append_nil]
    exact Zq hc
  | true =>
    rw [if_pos rfl]
    exact Zet hc ((Zdv (Zjk hi hl hv hx)).trans QG)
theorem ZnA {s:List T} (hi:i < m.length) (hs:IsSt s) (h0:es≠[]) (h3:es.length≤3) (ho:∀ e∈es,EntOk e):∃ xs s',cf (n + 6) 34 [.c i,.t (setT es)] (put m i s) = .ok (.t (.lst xs)) (put m i s')∧IsSt s'∧Al es xs:=by
  obtain ⟨ys,s1,g4,g5,g6,g7,h1,hs1,l1,gd,ls,wy⟩:=ZeP (n:=n) hi ho h3 (List.range es.length) s (([]++if QH es then [Xw] else [])++if Q0 es then [Xq] else []) none none none none (fun j hj=>List.mem_range.mp hj) hs (by rw [List.length_range]; cases QH es <;> cases Q0 es <;> simp <;> omega)
  rw [List.length_range] at l1
  have hl:es.length < 64:=by omega
  refine ⟨(([]++if QH es then [Xw] else [])++if Q0 es then [Xq] else [])++ys,s1,?_,hs1,⟨fun t ht=>?_,fun h=>?_,fun h=>?_,fun a ha h=>List.mem_append_right _ (ls a (List.mem_range.mpr ha) h),fun a ha j hj h z=>wy a (List.mem_range.mpr ha) j hj h (List.append_eq_nil_iff.mp z).2,?_⟩⟩
  · have key:ex (cf (n + 5)) gv ZcZ [some (.c i),some (.t (setT es)),none,none,none,none,none,none] (put m i s) = .ok (.ret (.c m.length)) (put (mm m ((([]++if QH es then [Xw] else [])++if Q0 es then [Xq] else [])++ys)) i s1):=by
      unfold ZcZ
      refine (Zn (w:=.c m.length) (m1:=put (mm m []) i s) ?_).trans ?_
      · rw [← ZlG hi]
        rw [ev,evs]
        show Res.ok (W.c (put m i s).length) _=_
        rw [Z4]
      dsimp only [List.set_cons_succ,List.set_cons_zero]
      refine (Zh1 (b:=QH es) (x:=Xw) hi (by simp) rfl (Zh (Zr (Zch (k0:=1) (g:=fun e=>.str e.kd) rfl rfl (by omega) fun e he=>Zk (Zk (Za rfl) (Zb _) rfl) (Zb _) rfl) (Zbe hl)) (Zb _) (c_gt _ _)) (Zce (Zb _))).trans ?_
      refine (Zh1 (b:=Q0 es) (x:=Xq) hi (by cases QH es <;> simp) rfl (Zh (Zr (Zch (k0:=1) (g:=fun e=>.str e.nm) rfl rfl (by omega) fun e he=>Zk (Zk (Za rfl) (Zb _) rfl) (Zb _) rfl) (Zbe hl)) (Zr (Za rfl) XJ) (c_lt _ _)) (Zce (Zb _))).trans ?_
      refine (Zn (Zr (Zch (k0:=1) (g:=fun e=>.int e.left) rfl rfl (by omega) fun e he=>Za rfl) (Ziq h0 hl))).trans ?_
      dsimp only [List.set_cons_succ,List.set_cons_zero]
      exact (Jg (ZbW rfl hl) (Xd _) h1).trans (Zf (Za rfl))
    refine ZK (Znn _ _ _) rfl key ?_
    show fin (put m i s).length false (.ret (.c m.length)) _=_
    rw [Z4]
    unfold fin
    dsimp only
    rw [if_neg (Nat.lt_irrefl _),Zg0 hi]
    dsimp only
    rw [if_neg Bool.false_ne_true,Zin hi]
  · rcases List.mem_append.mp ht with ht | ht
    · rcases List.mem_append.mp ht with ht | ht
      · cases q:QH es with
        | false=>rw [q] at ht; simp at ht
        | true=>rw [q] at ht; simp at ht; exact .inl ⟨ht,q⟩
      · cases q:Q0 es with
        | false=>rw [q] at ht; simp at ht
        | true=>rw [q] at ht; simp at ht; exact .inr (.inl ⟨ht,q⟩)
    · exact gd t ht
  · rw [h]; simp
  · rw [h]; simp
  · rw [List.length_append]
    cases QH es <;> cases Q0 es <;> simp <;> omega
def towT:Nat→T
  | 0=>.tup [.bl false,.non]
  | k + 1=>.tup [.bl false,towT k]
theorem ZfI {a:Option W}:∀ (ts:List T) (k:Nat) (e2:Option W),∃ g2,Qz (ex (cf n) gv X8) (.nm 2) ts [a,some (.t (towT k)),e2] m = .ok (.next [a,some (.t (towT (k + ts.length))),g2]) m
  | [],k,e2=>⟨e2,rfl⟩
  | t :: ts,k,e2=>by
    obtain ⟨g2,h⟩:=ZfI ts (k + 1) (some (.t t))
    refine ⟨g2,?_⟩
    rw [Qz]
    show (ex (cf n) gv X8 [a,some (.t (towT k)),some (.t t)] m).bind _=_
    rw [show ex (cf n) gv X8 [a,some (.t (towT k)),some (.t t)] m = .ok (.next [a,some (.t (towT (k + 1))),some (.t t)]) m from (Zn (Q3 (Zb _) (Za rfl))).trans QG,List.length_cons,show k + (ts.length + 1)=k + 1 + ts.length by omega]
    exact h
theorem ZjB:cf (n + 1) 36 [.t (.int 2000)] m = .ok (.t (towT 2000)) m:=by
  obtain ⟨g2,h⟩:=ZfI (n:=n) (m:=m) (a:=some (.t (.int 2000))) (rangeT 0 2000) 0 none
  rw [show (rangeT 0 2000).length=2000 by simp [rangeT]] at h
  have key:ex (cf n) gv Zab [some (.t (.int 2000)),none,none] m = .ok (.ret (.t (towT 2000))) m:=by
    unfold Zab
    refine (Zn (Q3 (Zb _) (Zb _))).trans ?_
    dsimp only [List.set_cons_succ,List.set_cons_zero]
    have hr:=ZkL (i:=(2000:Int)) ⟨by omega,by omega⟩
    refine (Jg (x:=.t (.lst (rangeT 0 2000))) (Zr (Za rfl) hr) rfl h).trans ?_
    rw [Nat.zero_add]
    exact Zf (Za rfl)
  exact ZK (Zi3 _ _ _) rfl key (Zu (cell:=false) rfl)
theorem ZlZ:∃ z,towT 2000 = .tup [.bl false,.tup [.bl false,z]]:=⟨towT 1998,rfl⟩
end
theorem Zbg {call:Nat→List W→Mem→Res W} {env:Env} {m:Mem}:ev call gv (.neg (.con (.int 1))) env m = .ok (.t (.int (-1))) m:=by rw [ev,ev]; rfl
def Nx (es:List Ent) (x:T):Prop:=∀ n m,cf (n + 10) 20 [.t (setT es),.t x] m = .ok (.t (.bl false)) m
theorem fc {α:Type} {P:α→Prop} {x:α} {xs:List α} (h:P x) (t:∀ y∈xs,P y):∀ y∈x :: xs,P y:=List.forall_mem_cons.mpr ⟨h,t⟩
theorem fn {α:Type} {P:α→Prop}:∀ y∈([]:List α),P y:=fun y hy=>by cases hy
theorem fa {α:Type} {P:α→Prop} {xs ys:List α} (h:∀ y∈xs,P y) (t:∀ y∈ys,P y):∀ y∈xs++ys,P y:=List.forall_mem_append.mpr ⟨h,t⟩
theorem ZbP {x lo hi:Int} (h:hi < x):btw (.int x) lo hi=false:=by
  show (decide (lo≤x) && decide (x≤hi))=false
  rw [decide_eq_false (p:=x≤hi) (by omega),Bool.and_false]
theorem Zcs {x lo hi:Int} (h:x < lo):btw (.int x) lo hi=false:=by
  show (decide (lo≤x) && decide (x≤hi))=false
  rw [decide_eq_false (p:=lo≤x) (by omega),Bool.false_and]
section
variable {n:Nat} {m:Mem} {i:Nat} {es:List Ent}
def Zbj (w:List Nat) (r a b:List T):List T:=[.lst (.str w :: r),.tup (.str w :: r++[.non]),.tup a,.tup (.str (w++[115]) :: b),.tup (.non :: b),.tup [.tup (.str w :: r)]]
theorem Zfy {w:List Nat} {r a b:List T} (h2:tst (.str w) (r++[.non]) 1 kindS=false∧tst (.str w) (r++[.non]) 1 nameS=false∧tst (.str w) (r++[.non]) 2 QQ=false∧tst (.str w) (r++[.non]) 4 J1=false) (h3:Nx es (.tup a)) (h4:∀ v∈[kindS,nameS,QQ,J1],(v == w++[115])=false):∀ x∈Zbj w r a b,Nx es x:=by
  have z:∀ (v:List Nat),v∈[kindS,nameS,QQ,J1]→∀ k,tst (.str (w++[115])) b k v=false:=fun v hv k=>by
    show (_ && (v == w++[115]))=false
    rw [h4 v hv,Bool.and_false]
  have y:∀ (v:List Nat) k,tst .non b k v=false:=fun v k=>Bool.and_false _
  have y2:∀ (v:List Nat) k,tst (.tup (.str w :: r)) [] k v=false:=fun v k=>Bool.and_false _
  exact fc (fun n m=>Zb5 rfl) (fc (fun n m=>Zbc h2.1 h2.2.1 h2.2.2.1 h2.2.2.2) (fc h3 (fc (fun n m=>Zbc (z _ (by simp) _) (z _ (by simp) _) (z _ (by simp) _) (z _ (by simp) _)) (fc (fun n m=>Zbc (y _ _) (y _ _) (y _ _) (y _ _)) (fc (fun n m=>Zbc (y2 _ _) (y2 _ _) (y2 _ _) (y2 _ _)) fn)))))
theorem Zfc {s L:List T} {t:T} {g3 g5 g6 g7 g8 g9:Option W} (hi:i < m.length) (hs:IsSt s) (hL:∀ x∈L,Nx es x) (h0:0 < L.length) (h1:L.length < 1000) (key:ex (cf (n + 2)) gv Jt [some (.c i),some (.t (setT es)),some (.t t),none,none,none,none,none,none,none] (put m i s)=ex (cf (n + 2)) gv (.ret (.call 24 (.cons (.var 0) (.cons (.var 4) .nil))) .done) [some (.c i),some (.t (setT es)),some (.t t),g3,some (.t (.lst L)),g5,g6,g7,g8,g9] (put m i s)):∃ x s',cf (n + 3) 37 [.c i,.t (setT es),.t t] (put m i s) = .ok (.t x) (put m i s')∧IsSt s'∧Nx es x:=by
  obtain ⟨x,s',h,hs',hx⟩:=Zdf (n:=n) hi hs h0 h1
  exact ⟨x,s',ZK (Zhf _ _ _) rfl (key.trans (Zf ((Zy (Za rfl) (Za rfl)).trans h))) (Zu (cell:=false) (by rw [Z4,Z4])),hs',hL x hx⟩
theorem ZfU {s:List T} {w:List Nat} (hw:w=kindS∨w=nameS) (hi:i < m.length) (hs:IsSt s):∃ x s',cf (n + 3) 37 [.c i,.t (setT es),.t (.tup [.str w])] (put m i s) = .ok (.t x) (put m i s')∧IsSt s'∧Nx es x:=by
  refine Zfc (L:=Zbj w [] [] []) (g3:=some (.t (.int (es.length:Int)))) (g5:=none) (g6:=none) (g7:=none) (g8:=none) (g9:=none) hi hs (Zfy ?_ (fun n m=>ZlE) ?_) (by simp [Zbj]) (by simp [Zbj]) ?_
  · rcases hw with rfl | rfl <;> exact ⟨rfl,rfl,rfl,rfl⟩
  · rcases hw with rfl | rfl <;> exact fc rfl (fc rfl (fc rfl (fc rfl fn)))
  · unfold Jt
    refine (Zn (Zr (Za rfl) XJ)).trans ?_
    dsimp only [List.set_cons_succ,List.set_cons_zero]
    rcases hw with rfl | rfl
    · refine (Zn (w:=.t (.lst (Zbj kindS [] [] []))) (Qd (Zd (ZaT (Zd (Za rfl) Zi) rfl rfl) (Zd (Zt (Za rfl) (Zx (Zd (Zb _) Zi) rfl Zg) rfl) (Zd (Zcf (Za rfl) Zbg rfl) (Zd (Zt (Zx (Zd (Zt (Zk (Za rfl) (Zb _) rfl) (Zb _) rfl) Zi) rfl Zg) (J4 (Za rfl) (Zb _) rfl) rfl) (Zd (Zt (Zx (Zd (Zb _) Zi) rfl Zg) (J4 (Za rfl) (Zb _) rfl) rfl) (Zd (Zx (Zd (Za rfl) Zi) rfl Zg) Zi)))))) rfl Zg)).trans ?_
      dsimp only [List.set_cons_succ,List.set_cons_zero]
      rw [Zq (Zh (k:=false) (Zk (Za rfl) (Zb _) rfl) (Zb _) rfl),Zq (Zh (k:=false) (Zk (Za rfl) (Zb _) rfl) (Zb _) rfl)]
    · refine (Zn (w:=.t (.lst (Zbj nameS [] [] []))) (Qd (Zd (ZaT (Zd (Za rfl) Zi) rfl rfl) (Zd (Zt (Za rfl) (Zx (Zd (Zb _) Zi) rfl Zg) rfl) (Zd (Zcf (Za rfl) Zbg rfl) (Zd (Zt (Zx (Zd (Zt (Zk (Za rfl) (Zb _) rfl) (Zb _) rfl) Zi) rfl Zg) (J4 (Za rfl) (Zb _) rfl) rfl) (Zd (Zt (Zx (Zd (Zb _) Zi) rfl Zg) (J4 (Za rfl) (Zb _) rfl) rfl) (Zd (Zx (Zd (Za rfl) Zi) rfl Zg) Zi)))))) rfl Zg)).trans ?_
      dsimp only [List.set_cons_succ,List.set_cons_zero]
      rw [Zq (Zh (k:=false) (Zk (Za rfl) (Zb _) rfl) (Zb _) rfl),Zq (Zh (k:=false) (Zk (Za rfl) (Zb _) rfl) (Zb _) rfl)]
def odd9 (L a:Int):List T:=[.int (-1),.int L,.bl true,.bl false,.non,.str [48],.tup [.int 0],.int (L + 3),.int (a - L)]
theorem Zh0 {s:List T} {a:Nat} {e:Ent} (ha:es[a]? = some e) (hi:i < m.length) (hs:IsSt s):∃ x s',cf (n + 3) 37 [.c i,.t (setT es),.t (Qc a)] (put m i s) = .ok (.t x) (put m i s')∧IsSt s'∧Nx es x:=by
  have hal:=(List.getElem?_eq_some_iff.mp ha).1
  refine Zfc (L:=Zbj QQ [.int (a:Int)] [.str QQ] [.int (a:Int)]++(odd9 (es.length:Int) (a:Int)).map fun x=>.tup [.str QQ,x]) (g3:=some (.t (.int (es.length:Int)))) (g5:=some (.t (.lst (odd9 (es.length:Int) (a:Int))))) (g6:=none) (g7:=none) (g8:=none) (g9:=none) hi hs (fa (Zfy ⟨rfl,rfl,rfl,rfl⟩ (fun n m=>Zbc rfl rfl rfl rfl) (fc rfl (fc rfl (fc rfl (fc rfl fn))))) ?_) (by simp [Zbj]) (by simp [Zbj,odd9]) ?_
  · intro x hx
    obtain ⟨o,ho,rfl⟩:=List.mem_map.mp hx
    have:∀ o∈odd9 (es.length:Int) (a:Int),btw o 0 ((es.length:Int) - 1)=false:=fc (Zcs (by omega)) (fc (ZbP (by omega)) (fc rfl (fc rfl (fc rfl (fc rfl (fc rfl (fc (ZbP (by omega)) (fc (Zcs (by omega)) fn))))))))
    exact fun n m=>Zbx (this o ho)
  · unfold Jt
    refine (Zn (Zr (Za rfl) XJ)).trans ?_
    dsimp only [List.set_cons_succ,List.set_cons_zero]
    refine (Zn (w:=.t (.lst (Zbj QQ [.int (a:Int)] [.str QQ] [.int (a:Int)]))) (Qd (Zd (ZaT (Zd (Za rfl) Zi) rfl rfl) (Zd (Zt (Za rfl) (Zx (Zd (Zb _) Zi) rfl Zg) rfl) (Zd (Zcf (Za rfl) Zbg rfl) (Zd (Zt (Zx (Zd (Zt (Zk (Za rfl) (Zb _) rfl) (Zb _) rfl) Zi) rfl Zg) (J4 (Za rfl) (Zb _) rfl) rfl) (Zd (Zt (Zx (Zd (Zb _) Zi) rfl Zg) (J4 (Za rfl) (Zb _) rfl) rfl) (Zd (Zx (Zd (Za rfl) Zi) rfl Zg) Zi)))))) rfl Zg)).trans ?_
    dsimp only [List.set_cons_succ,List.set_cons_zero]
    have hcomp:∀ env:Env,env[5]? = some (some (.t (.lst (odd9 (es.length:Int) (a:Int)))))→ev (cf (n + 2)) gv Zcp env (put m i s) = .ok (.t (.lst ((odd9 (es.length:Int) (a:Int)).map fun x=>.tup [.str QQ,x]))) (put m i s):=fun env h5=>by
      have h:=JG (f:=Jh (cf (n + 2)) gv .nil Zas) (tg:=.nm 0) (env:=[none]) (m:=put m i s) (g:=fun x=>[.tup [.str QQ,x]]) (odd9 (es.length:Int) (a:Int)) (fun x hx=>⟨[some (.t x)],rfl,ZeU (show ev _ gv Zas _ _=_ from JQ (Q3 (Zb _) (Za rfl)))⟩)
      rw [Zat] at h
      exact Qj (x:=.t (.lst (odd9 (es.length:Int) (a:Int)))) (m0:=put m i s) (m1:=put m i s) (Za h5) rfl h (by simp [odd9,lim])
    refine (Zet (env':=[some (.c i),some (.t (setT es)),some (.t (Qc a)),some (.t (.int (es.length:Int))),some (.t (.lst (Zbj QQ [.int (a:Int)] [.str QQ] [.int (a:Int)]++(odd9 (es.length:Int) (a:Int)).map fun x=>.tup [.str QQ,x]))),some (.t (.lst (odd9 (es.length:Int) (a:Int)))),none,none,none,none]) (m2:=put m i s) (Zh (k:=true) (Zk (Za rfl) (Zb _) rfl) (Zb _) rfl) ?_).trans ?_
    · refine (Zn (w:=.t (.lst (odd9 (es.length:Int) (a:Int)))) (Qd (Zd Zbg (Zd (Za rfl) (Zd (Zb _) (Zd (Zb _) (Zd (Zb _) (Zd (Zb _) (Zd (Zx (Zd (Zb _) Zi) rfl Zg) (Zd (Zt (Za rfl) (Zb _) rfl) (Zd (Zt (Zk (Za rfl) (Zb _) rfl) (Za rfl) rfl) Zi))))))))) rfl Zg)).trans ?_
      dsimp only [List.set_cons_succ,List.set_cons_zero]
      exact (Zn (Zt (Za rfl) (hcomp _ rfl) rfl)).trans QG
    · rw [Zq (Zh (k:=false) (Zk (Za rfl) (Zb _) rfl) (Zb _) rfl)]
abbrev wq (x y z:T):T:=.tup [.str J1,x,y,z]
theorem Zkt {s:List T} {a j:Nat} {e f:Ent} {R:T} (ha:es[a]? = some e) (hj:es[j]? = some f) (h3:es.length≤3) (ho:∀ e∈es,EntOk e) (hw:wayB es a j=true) (g:Good f.card 2 e.w false R) (hi:i < m.length) (hs:IsSt s):∃ x s',cf (n + 3) 37 [.c i,.t (setT es),.t (ZeT a j R)] (put m i s) = .ok (.t x) (put m i s')∧IsSt s'∧Nx es x:=by
  obtain ⟨_,⟨y,rfl⟩,_⟩:=g
  have he:=ho e (List.mem_of_getElem? ha)
  have hf:=ho f (List.mem_of_getElem? hj)
  have hLB:LB e f=false:=by
    have:=ZcD ha hj
    rw [hw] at this
    cases h:LB e f with
    | false=>rfl
    | true=>rw [h,Bool.not_true,Bool.and_false] at this; cases this
  have ht:=tl he hf
  rw [hLB] at ht
  have hL:Lets f.card 2 e.w false:=Ju ht.both
  have hal:=(List.getElem?_eq_some_iff.mp ha).1
  have hjl:=(List.getElem?_eq_some_iff.mp hj).1
  have self:∀ {k:Nat} {e:Ent},es[k]? = some e→wayB es k k=false:=fun hk=>by
    rw [ZcD hk hk,beq_self_eq_true]
    rfl
  have inn:∀ {z:T},Sh f.card 2 e.w z false→Nx es (wq (.int (a:Int)) (.int (j:Int)) z):=fun h n m=>Zao (Zgf ha hj ho (fun _=>h) (fun _=>rfl))
  have out:∀ {x y z:T},(btw x 0 ((es.length:Int) - 1) && btw y 0 ((es.length:Int) - 1))=false→Nx es (wq x y z):=fun h n m=>Zao (Zlu h)
  have hstr:bltT .str [.int (a:Int)]=some (.str (decI (a:Int))):=l_str1 (Nat.lt_of_le_of_lt (show (a:Int).natAbs≤3 by omega) (by decide))
  let R:T:=.tup [.bl false,y]
  let A:T:=.int (a:Int)
  let J:T:=.int (j:Int)
  let N:Int:=(es.length:Int)
  let L0:List T:=Zbj J1 [A,J,R] [.str J1,A,J] [A,J,R]
  let L1:List T:=L0++[wq A A R,wq J J R,wq A (.int N) R,wq (.int (-1)) J R]
  let L2:List T:=L1++[wq (.int ((a:Int) - N)) J R,wq A (.int ((j:Int) - N)) R,wq A .non R]
  let L3:List T:=L2++[wq A J (.tup [.bl true,y]),wq A J (.tup [.int 0,y]),wq A J .non]
  let L4:List T:=L3++[wq A J (.lst [.bl false,y]),wq A J (.tup [.bl false,y,.non]),wq (.lst [A]) J R]
  let L5:List T:=L4++[wq A J (.tup [.bl false,.tup [.tup [],.tup []]]),wq (.str (decI (a:Int))) J R,.tup [.str J1,J,A]]
  let L6:List T:=L5++[wq (.bl ((a:Int) == 1)) J R,wq A (.bl ((j:Int) == 1)) R]
  refine Zfc (L:=L6) (g3:=some (.t (.int N))) (g5:=none) (g6:=some (.t (.str J1))) (g7:=some (.t A)) (g8:=some (.t J)) (g9:=some (.t R)) hi hs ?_ (by simp [L6]) (by simp [L6,L5,L4,L3,L2,L1,L0,Zbj]) ?_
  · refine fa (fa (fa (fa (fa (fa (Zfy ⟨rfl,rfl,rfl,rfl⟩ (fun n m=>Zbc rfl rfl rfl rfl) (fc rfl (fc rfl (fc rfl (fc rfl fn))))) ?_) ?_) ?_) ?_) ?_) ?_
    · exact fc (fun n m=>Zao (Zgf ha ha ho (fun z=>by rw [self ha] at z; cases z) (fun _=>rfl))) (fc (fun n m=>Zao (Zgf hj hj ho (fun z=>by rw [self hj] at z; cases z) (fun _=>rfl))) (fc (out (by rw [ZbP (x:=N) (by omega),Bool.and_false])) (fc (out (by rw [Zcs (x:=-1) (by omega),Bool.false_and])) fn)))
    · exact fc (out (by rw [Zcs (x:=(a:Int) - N) (by omega),Bool.false_and])) (fc (out (by rw [Zcs (x:=(j:Int) - N) (by omega),Bool.and_false])) (fc (out (Bool.and_false _)) fn))
    · exact fc (inn (Zl5 hL rfl)) (fc (inn (ZcG fun t y e=>by cases e)) (fc (inn (ZcG fun t y e=>by cases e)) fn))
    · exact fc (inn (ZcG fun t y e=>by cases e)) (fc (inn (ZcG fun t y e=>by cases e)) (fc (out rfl) fn))
    · exact fc (inn (ht.bad rfl _ .unit)) (fc (out rfl) (fc (fun n m=>Zbc rfl rfl rfl rfl) fn))
    · exact fc (out rfl) (fc (out (Bool.and_false _)) fn)
  · unfold Jt
    refine (Zn (Zr (Za rfl) XJ)).trans ?_
    dsimp only [List.set_cons_succ,List.set_cons_zero]
    refine (Zn (w:=.t (.lst L0)) (Qd (Zd (ZaT (Zd (Za rfl) Zi) rfl rfl) (Zd (Zt (Za rfl) (Zx (Zd (Zb _) Zi) rfl Zg) rfl) (Zd (Zcf (Za rfl) Zbg rfl) (Zd (Zt (Zx (Zd (Zt (Zk (Za rfl) (Zb _) rfl) (Zb _) rfl) Zi) rfl Zg) (J4 (Za rfl) (Zb _) rfl) rfl) (Zd (Zt (Zx (Zd (Zb _) Zi) rfl Zg) (J4 (Za rfl) (Zb _) rfl) rfl) (Zd (Zx (Zd (Za rfl) Zi) rfl Zg) Zi)))))) rfl Zg)).trans ?_
    dsimp only [List.set_cons_succ,List.set_cons_zero]
    rw [Zq (Zh (k:=false) (Zk (Za rfl) (Zb _) rfl) (Zb _) rfl)]
    refine Zet (env':=[some (.c i),some (.t (setT es)),some (.t (ZeT a j R)),some (.t (.int N)),some (.t (.lst L6)),none,some (.t (.str J1)),some (.t A),some (.t J),some (.t R)]) (m2:=put m i s) (Zh (k:=true) (Zk (Za rfl) (Zb _) rfl) (Zb _) rfl) ?_
    refine (XQ (env':=[some (.c i),some (.t (setT es)),some (.t (ZeT a j R)),some (.t (.int N)),some (.t (.lst L0)),none,some (.t (.str J1)),some (.t A),some (.t J),some (.t R)]) (Za rfl) rfl).trans ?_
    refine (Zn (w:=.t (.lst L1)) (Zt (Za rfl) (Qd (Zd (Zx (Zd (Zb _) (Zd (Za rfl) (Zd (Za rfl) (Zd (Za rfl) Zi)))) rfl Zg) (Zd (Zx (Zd (Zb _) (Zd (Za rfl) (Zd (Za rfl) (Zd (Za rfl) Zi)))) rfl Zg) (Zd (Zx (Zd (Zb _) (Zd (Za rfl) (Zd (Za rfl) (Zd (Za rfl) Zi)))) rfl Zg) (Zd (Zx (Zd (Zb _) (Zd Zbg (Zd (Za rfl) (Zd (Za rfl) Zi)))) rfl Zg) Zi)))) rfl Zg) rfl)).trans ?_
    dsimp only [List.set_cons_succ,List.set_cons_zero]
    refine (Zn (w:=.t (.lst L2)) (Zt (Za rfl) (Qd (Zd (Zx (Zd (Zb _) (Zd (Zt (Za rfl) (Za rfl) rfl) (Zd (Za rfl) (Zd (Za rfl) Zi)))) rfl Zg) (Zd (Zx (Zd (Zb _) (Zd (Za rfl) (Zd (Zt (Za rfl) (Za rfl) rfl) (Zd (Za rfl) Zi)))) rfl Zg) (Zd (Zx (Zd (Zb _) (Zd (Za rfl) (Zd (Zb _) (Zd (Za rfl) Zi)))) rfl Zg) Zi))) rfl Zg) rfl)).trans ?_
    dsimp only [List.set_cons_succ,List.set_cons_zero]
    refine (Zn (w:=.t (.lst L3)) (Zt (Za rfl) (Qd (Zd (Zx (Zd (Zb _) (Zd (Za rfl) (Zd (Za rfl) (Zd (Zt (Zx (Zd (Zb _) Zi) rfl Zg) (J4 (Za rfl) (Zb _) rfl) rfl) Zi)))) rfl Zg) (Zd (Zx (Zd (Zb _) (Zd (Za rfl) (Zd (Za rfl) (Zd (Zt (Zx (Zd (Zb _) Zi) rfl Zg) (J4 (Za rfl) (Zb _) rfl) rfl) Zi)))) rfl Zg) (Zd (Zx (Zd (Zb _) (Zd (Za rfl) (Zd (Za rfl) (Zd (Zb _) Zi)))) rfl Zg) Zi))) rfl Zg) rfl)).trans ?_
    dsimp only [List.set_cons_succ,List.set_cons_zero]
    refine (Zn (w:=.t (.lst L4)) (Zt (Za rfl) (Qd (Zd (Zx (Zd (Zb _) (Zd (Za rfl) (Zd (Za rfl) (Zd (ZaT (Zd (Za rfl) Zi) rfl rfl) Zi)))) rfl Zg) (Zd (Zx (Zd (Zb _) (Zd (Za rfl) (Zd (Za rfl) (Zd (Zt (Za rfl) (Zx (Zd (Zb _) Zi) rfl Zg) rfl) Zi)))) rfl Zg) (Zd (Zx (Zd (Zb _) (Zd (Qd (Zd (Za rfl) Zi) rfl Zg) (Zd (Za rfl) (Zd (Za rfl) Zi)))) rfl Zg) Zi))) rfl Zg) rfl)).trans ?_
    dsimp only [List.set_cons_succ,List.set_cons_zero]
    refine (Zn (w:=.t (.lst L5)) (Zt (Za rfl) (Qd (Zd (Zx (Zd (Zb _) (Zd (Za rfl) (Zd (Za rfl) (Zd (Zx (Zd (Zb _) (Zd (Zx (Zd (Zx Zi rfl Zg) (Zd (Zx Zi rfl Zg) Zi)) rfl Zg) Zi)) rfl Zg) Zi)))) rfl Zg) (Zd (Zx (Zd (Zb _) (Zd (ZaT (Zd (Za rfl) Zi) rfl hstr) (Zd (Za rfl) (Zd (Za rfl) Zi)))) rfl Zg) (Zd (Zx (Zd (Zb _) (Zd (Za rfl) (Zd (Za rfl) Zi))) rfl Zg) Zi))) rfl Zg) rfl)).trans ?_
    dsimp only [List.set_cons_succ,List.set_cons_zero]
    refine (Zn (w:=.t (.lst L6)) (Zt (Za rfl) (Qd (Zd (Zx (Zd (Zb _) (Zd (Zh (Za rfl) (Zb _) rfl) (Zd (Za rfl) (Zd (Za rfl) Zi)))) rfl Zg) (Zd (Zx (Zd (Zb _) (Zd (Za rfl) (Zd (Zh (Za rfl) (Zb _) rfl) (Zd (Za rfl) Zi)))) rfl Zg) Zi)) rfl Zg) rfl)).trans ?_
    exact QG
theorem oth_ok {s:List T} {t:T} (h3:es.length≤3) (ho:∀ e∈es,EntOk e) (hg:Gd es t) (hi:i < m.length) (hs:IsSt s):∃ x s',cf (n + 3) 37 [.c i,.t (setT es),.t t] (put m i s) = .ok (.t x) (put m i s')∧IsSt s'∧Nx es x:=by
  rcases hg with ⟨rfl,_⟩ | ⟨rfl,_⟩ | ⟨a,e,ha,rfl,_⟩ | ⟨a,j,e,f,R,ha,hj,hw,rfl,g⟩
  · exact ZfU (.inl rfl) hi hs
  · exact ZfU (.inr rfl) hi hs
  · exact Zh0 ha hi hs
  · exact Zkt ha hj h3 ho hw g hi hs
end
theorem Zfk {ts xs:List T} (d1:Zm 59 (.tup ts)=true) (d2:Zo 59 xs=true):cmpT .In (.tup ts) (.lst xs)=some (xs.any fun x=>eqT x (.tup ts)):=by
  show (if flat (.tup ts) && xs.all flat then some (xs.any fun x=>eqT x (.tup ts)) else if Zm 59 (.tup ts) && Zo 59 xs then some (xs.any fun x=>eqT x (.tup ts)) else none)=_
  rw [show flat (.tup ts)=false from rfl,Bool.false_and,if_neg Bool.false_ne_true,d1,d2]
  rfl
theorem okK:okS kindS=true:=by decide +kernel
theorem okN:okS nameS=true:=by decide +kernel
theorem okL:okS QQ=true:=by decide +kernel
theorem okW:okS J1=true:=by decide +kernel
theorem Xy {k:Nat} {w:List Nat} (h:okS w=true):Zm k (.str w)=true:=by
  cases k <;> exact h
theorem ZbM {k:Nat} {v:Int}:Zm k (.int v)=true:=by cases k <;> rfl
theorem Zk5 {k:Nat} {a:T} (h:Zm k a=true):Zm (k + 1) (.tup [a])=true:=by rw [Zm,Zo,Zo,h]; rfl
theorem deep2 {k:Nat} {a b:T} (h:Zm k a=true) (h2:Zm k b=true):Zm (k + 1) (.tup [a,b])=true:=by rw [Zm,Zo,Zo,Zo,h,h2]; rfl
theorem deep4 {k:Nat} {a b c d:T} (h:Zm k a=true) (h2:Zm k b=true) (h3:Zm k c=true) (h4:Zm k d=true):Zm (k + 1) (.tup [a,b,c,d])=true:=by rw [Zm,Zo,Zo,Zo,Zo,Zo,h,h2,h3,h4]; rfl
section
variable {n:Nat} {m:Mem} {i:Nat} {es:List Ent} {xs:List T}
theorem Znd {t:T} (h:Gd es t):Zm 59 t=true:=by
  rcases h with ⟨rfl,_⟩ | ⟨rfl,_⟩ | ⟨a,e,ha,rfl,_⟩ | ⟨a,j,e,f,R,ha,hj,hw,rfl,g⟩
  · exact Zk5 (Xy okK)
  · exact Zk5 (Xy okN)
  · exact deep2 (Xy okL) ZbM
  · exact deep4 (Xy okW) ZbM ZbM (g.1 53)
theorem ZdI (h:Al es xs):Zo 59 xs=true:=QD.mpr fun t ht=>Znd (h.gd t ht)
theorem ZnC (h:Al es xs):cmpT .In Xw (.lst xs)=some (QH es):=by
  rw [Zfk (Zk5 (Xy okK)) (ZdI h)]
  congr 1
  rw [Bool.eq_iff_iff,List.any_eq_true]
  constructor
  · rintro ⟨x,hx,e⟩
    rcases h.gd x hx with ⟨rfl,q⟩ | ⟨rfl,_⟩ | ⟨a,_,_,rfl,_⟩ | ⟨a,j,_,_,R,_,_,_,rfl,_⟩
    · exact q
    · simp [eqT,eqTs] at e
    · simp [Qc,eqT,eqTs] at e
    · simp [eqT,eqTs] at e
  · exact fun q=>⟨_,h.kd q,by simp [eqT,eqTs]⟩
theorem ZnB (h:Al es xs):cmpT .In Xq (.lst xs)=some (Q0 es):=by
  rw [Zfk (Zk5 (Xy okN)) (ZdI h)]
  congr 1
  rw [Bool.eq_iff_iff,List.any_eq_true]
  constructor
  · rintro ⟨x,hx,e⟩
    rcases h.gd x hx with ⟨rfl,q⟩ | ⟨rfl,q⟩ | ⟨a,_,_,rfl,_⟩ | ⟨a,j,_,_,R,_,_,_,rfl,_⟩
    · simp [eqT,eqTs] at e
    · exact q
    · simp [Qc,eqT,eqTs] at e
    · simp [eqT,eqTs] at e
  · exact fun q=>⟨_,h.nm q,by simp [eqT,eqTs]⟩
theorem Zlr {a:Nat} (h:Al es xs) (ha:a < es.length):cmpT .In (Qc a) (.lst xs)=some (Q4 es a):=by
  unfold Qc
  rw [Zfk (deep2 (Xy okL) ZbM) (ZdI h)]
  congr 1
  rw [Bool.eq_iff_iff,List.any_eq_true]
  constructor
  · rintro ⟨x,hx,e⟩
    rcases h.gd x hx with ⟨rfl,q⟩ | ⟨rfl,q⟩ | ⟨b,_,_,rfl,q⟩ | ⟨b,j,_,_,R,_,_,_,rfl,_⟩
    · simp [eqT,eqTs] at e
    · simp [eqT,eqTs] at e
    · simp [Qc,eqT,eqTs] at e
      have:b=a:=by omega
      rw [← this]
      exact q
    · simp [eqT,eqTs] at e
  · exact fun q=>⟨_,h.ls a ha q,by simp [Qc,eqT,eqTs]⟩
theorem Znb {t:T} (h0:es≠[]) (hl:es.length < 64) (h:Al es xs) (ht:t∈[Xw,Xq]++(List.range es.length).map Qc):∃ b,(∀ n m,cf (n + 10) 20 [.t (setT es),.t t] m = .ok (.t (.bl b)) m)∧cmpT .In t (.lst xs)=some b:=by
  rcases List.mem_append.mp ht with ht | ht
  · simp only [List.mem_cons,List.not_mem_nil,or_false] at ht
    rcases ht with rfl | rfl
    · exact ⟨_,fun n m=>Zij hl,ZnC h⟩
    · exact ⟨_,fun n m=>Zii hl,ZnB h⟩
  · obtain ⟨a,ha,rfl⟩:=List.mem_map.mp ht
    have ha:=List.mem_range.mp ha
    exact ⟨_,fun n m=>ZfV (List.getElem?_eq_getElem ha) h0 hl,Zlr h ha⟩
theorem Zhp {t:T} {M:Mem} {e0 e3 e5 e6 e7 e8 e9:Option W} (h0:es≠[]) (hl:es.length < 64) (h:Al es xs) (ht:t∈[Xw,Xq]++(List.range es.length).map Qc):∃ g5,ex (cf (n + 11)) gv Q5 [e0,some (.t (setT es)),some (.t (.lst xs)),e3,some (.t t),e5,e6,e7,e8,e9] M = .ok (.next [e0,some (.t (setT es)),some (.t (.lst xs)),e3,some (.t t),g5,e6,e7,e8,e9]) M:=by
  obtain ⟨b,h1,h2⟩:=Znb h0 hl h ht
  refine ⟨some (.t (.bl b)),?_⟩
  unfold Q5
  refine (Zn ((Zy (Za rfl) (Za rfl)).trans (Ziz (n:=n) (h1 n M)))).trans ?_
  dsimp only [List.set_cons_succ,List.set_cons_zero]
  refine (Zq ((QR (Zh (k:=false) (Za rfl) (Zb _) rfl)).trans (Zh (Za rfl) (Zh (Za rfl) (Za rfl) h2) ?_))).trans QG
  rw [Zli,beq_self_eq_true]
  rfl
theorem Zji {a j:Nat} {s:List T} {e2 e3 e4 e5 e8 e9:Option W} (hi:i < m.length) (hs:IsSt s) (ho:∀ e∈es,EntOk e) (ha:a < es.length) (hj:j < es.length):∃ s' g8 g9,ex (cf (n + 11)) gv Q6 [some (.c i),some (.t (setT es)),e2,e3,e4,e5,some (.t (.int (a:Int))),some (.t (.int (j:Int))),e8,e9] (put m i s) = .ok (.next [some (.c i),some (.t (setT es)),e2,e3,e4,e5,some (.t (.int (a:Int))),some (.t (.int (j:Int))),g8,g9]) (put m i s')∧IsSt s':=by
  have qa:=List.getElem?_eq_getElem ha
  have qj:=List.getElem?_eq_getElem hj
  have he:=ho _ (List.getElem_mem ha)
  have hf:=ho _ (List.getElem_mem hj)
  have hw:=ZcD qa qj
  have w8:∀ env:Env,env[1]? = some (some (.t (setT es)))→env[6]? = some (some (.t (.int (a:Int))))→env[7]? = some (some (.t (.int (j:Int))))→ev (cf (n + 11)) gv (.or (.cmp .Eq (.var 6) (.var 7)) (.call 30 (.cons (.ix (.ix (.ix (.var 1) (.var 6)) (.con (.int 0))) (.con (.int 2))) (.cons (.ix (.ix (.ix (.var 1) (.var 7)) (.con (.int 0))) (.con (.int 1))) .nil)))) env (put m i s) = .ok (.t (.bl (!wayB es a j))) (put m i s):=fun env h1 h6 h7=>by
    rw [hw]
    have c:=Zh (call:=cf (n + 11)) (gv:=gv) (m:=put m i s) (op:=.Eq) (Za h6) (Za h7) (Zlj (a:Int) (j:Int))
    cases q:((a:Int) == (j:Int)) with
    | true =>
      rw [q] at c
      exact ZaS c
    | false =>
      rw [q] at c
      rw [Bool.not_false,Bool.true_and,Bool.not_not]
      exact (QR c).trans ((Zy (Zk (Zk (Zk (Za h1) (Za h6) (Zaf qa)) (Zb _) rfl) (Zb _) rfl) (Zk (Zk (Zk (Za h1) (Za h7) (Zaf qj)) (Zb _) rfl) (Zb _) rfl)).trans (lb he hf (n + 8) _).2)
  obtain ⟨R,s',h1,hs',g⟩:=(tl he hf).any (n + 6) m i s hi hs
  refine ⟨s',some (.t (.bl (!wayB es a j))),some (.t R),?_,hs'⟩
  unfold Q6
  refine (Zn (w8 _ rfl rfl rfl)).trans ?_
  dsimp only [List.set_cons_succ,List.set_cons_zero]
  refine (Zn ((Z2 (Za rfl) (Zk (Zk (Zk (Za rfl) (Za rfl) (Zaf qa)) (Zb _) rfl) (Zb _) rfl) (Zk (Zk (Zk (Za rfl) (Za rfl) (Zaf qj)) (Zb _) rfl) (Zb _) rfl)).trans h1)).trans ?_
  dsimp only [List.set_cons_succ,List.set_cons_zero]
  cases q:wayB es a j with
  | true=>exact (Zq (Jx (Za rfl))).trans ((Zq (Jx (Za rfl))).trans QG)
  | false =>
    have no:∀ (z:T),cf (n + 11) 35 [.t (setT es),.t (ZeT a j z)] (put m i s') = .ok (.t (.bl false)) (put m i s'):=fun z=>Ziz (Zao (Zgf qa qj ho (fun y=>by rw [q] at y; cases y) (fun _=>rfl)))
    refine (Zq ((Jw (Za rfl)).trans (Zh (k:=false) ((Zy (Za rfl) (Zx (Zd (Zb _) (Zd (Za rfl) (Zd (Za rfl) (Zd (Q3 (Zb _) (Zb _)) Zi)))) rfl Zg)).trans (no _)) (Zb _) rfl))).trans ?_
    exact (Zq ((Jw (Za rfl)).trans (Zh (k:=false) ((Zy (Za rfl) (Zx (Zd (Zb _) (Zd (Za rfl) (Zd (Za rfl) (Zd (Za rfl) Zi)))) rfl Zg)).trans (no _)) (Zb _) rfl))).trans QG
theorem Zjw {s:List T} (hi:i < m.length) (hs:IsSt s) (h0:es≠[]) (hl:es.length < 64) (ho:∀ e∈es,EntOk e) (h:Al es xs):∃ s',cf (n + 12) 38 [.c i,.t (setT es),.t (.lst xs)] (put m i s) = .ok (.t (.bl true)) (put m i s')∧IsSt s':=by
  obtain ⟨env1,m1,e1,⟨a4,a5,rfl⟩,rfl⟩:=JF (f:=ex (cf (n + 11)) gv Q5) (tg:=.nm 4) (P:=fun env M=>(∃ a4 a5,env=[some (.c i),some (.t (setT es)),some (.t (.lst xs)),some (.t (.lst ([Xw,Xq]++(List.range es.length).map Qc))),a4,a5,none,none,none,none])∧M=put m i s) ([Xw,Xq]++(List.range es.length).map Qc) [some (.c i),some (.t (setT es)),some (.t (.lst xs)),some (.t (.lst ([Xw,Xq]++(List.range es.length).map Qc))),none,none,none,none,none,none] (put m i s) ⟨⟨_,_,rfl⟩,rfl⟩ (by
    rintro t ht env M ⟨⟨a4,a5,rfl⟩,rfl⟩
    obtain ⟨g5,q⟩:=Zhp (n:=n) (M:=put m i s) (e0:=some (.c i)) (e3:=some (.t (.lst ([Xw,Xq]++(List.range es.length).map Qc)))) (e5:=a5) (e6:=none) (e7:=none) (e8:=none) (e9:=none) h0 hl h ht
    exact ⟨_,_,_,rfl,q,⟨_,_,rfl⟩,rfl⟩)
  obtain ⟨env2,m2,e2,s2,⟨b6,b7,b8,b9,rfl⟩,rfl,hs2⟩:=JF (f:=ex (cf (n + 11)) gv XC) (tg:=.nm 6) (P:=fun env M=>∃ s,(∃ b6 b7 b8 b9,env=[some (.c i),some (.t (setT es)),some (.t (.lst xs)),some (.t (.lst ([Xw,Xq]++(List.range es.length).map Qc))),a4,a5,b6,b7,b8,b9])∧M=put m i s∧IsSt s) ((List.range es.length).map intN) [some (.c i),some (.t (setT es)),some (.t (.lst xs)),some (.t (.lst ([Xw,Xq]++(List.range es.length).map Qc))),a4,a5,none,none,none,none] (put m i s) ⟨s,⟨_,_,_,_,rfl⟩,rfl,hs⟩ (by
    rintro t ht env M ⟨s,⟨b6,b7,b8,b9,rfl⟩,rfl,hs⟩
    obtain ⟨a,ha,rfl⟩:=List.mem_map.mp ht
    have ha:=List.mem_range.mp ha
    obtain ⟨env3,m3,e3,s3,⟨c7,c8,c9,rfl⟩,rfl,hs3⟩:=JF (f:=ex (cf (n + 11)) gv Q6) (tg:=.nm 7) (P:=fun env M=>∃ s,(∃ c7 c8 c9,env=[some (.c i),some (.t (setT es)),some (.t (.lst xs)),some (.t (.lst ([Xw,Xq]++(List.range es.length).map Qc))),a4,a5,some (.t (.int (a:Int))),c7,c8,c9])∧M=put m i s∧IsSt s) ((List.range es.length).map intN) [some (.c i),some (.t (setT es)),some (.t (.lst xs)),some (.t (.lst ([Xw,Xq]++(List.range es.length).map Qc))),a4,a5,some (.t (.int (a:Int))),b7,b8,b9] (put m i s) ⟨s,⟨_,_,_,rfl⟩,rfl,hs⟩ (by
      rintro t ht env M ⟨s,⟨c7,c8,c9,rfl⟩,rfl,hs⟩
      obtain ⟨j,hj,rfl⟩:=List.mem_map.mp ht
      have hj:=List.mem_range.mp hj
      obtain ⟨s',g8,g9,q,hs'⟩:=Zji (n:=n) (e2:=some (.t (.lst xs))) (e3:=some (.t (.lst ([Xw,Xq]++(List.range es.length).map Qc)))) (e4:=a4) (e5:=a5) (e8:=c8) (e9:=c9) hi hs ho ha hj
      exact ⟨_,_,_,rfl,q,s',⟨_,_,_,rfl⟩,rfl,hs'⟩)
    exact ⟨_,_,_,rfl,(Jg (ZbW rfl hl) (Xd _) e3).trans QG,s3,⟨_,_,_,_,rfl⟩,rfl,hs3⟩)
  refine ⟨s2,?_,hs2⟩
  have key:ex (cf (n + 11)) gv QF [some (.c i),some (.t (setT es)),some (.t (.lst xs)),none,none,none,none,none,none,none] (put m i s) = .ok (.ret (.t (.bl true))) (put m i s2):=by
    unfold QF
    have hcomp:ev (cf (n + 11)) gv XF [some (.c i),some (.t (setT es)),some (.t (.lst xs)),none,none,none,none,none,none,none] (put m i s) = .ok (.t (.lst ((List.range es.length).map Qc))) (put m i s):=by
      have q:=Xu (f:=Jh (cf (n + 11)) gv .nil Jv) (tg:=.nm 0) (env:=[none]) (m:=put m i s) (emb:=intN) (g:=fun k=>[Qc k]) (List.range es.length) (fun k hk=>⟨[some (.t (.int (k:Int)))],rfl,ZeU (show ev _ gv Jv _ _=_ from JQ (Q3 (Zb _) (Za rfl)))⟩)
      rw [Zat] at q
      exact Qj (x:=.t (.lst (rangeT 0 es.length))) (m0:=put m i s) (m1:=put m i s) (ZbW rfl hl) (Xd _) q (by rw [List.length_map,List.length_range]; unfold lim; omega)
    refine (Zn (w:=.t (.lst ([Xw,Xq]++(List.range es.length).map Qc))) (Zt (ZiO (Zce (Zb _)) (Zce (Zb _))) hcomp (ZlS (by simp [lim]; omega)))).trans ?_
    dsimp only [List.set_cons_succ,List.set_cons_zero]
    refine (Jg (Za rfl) rfl e1).trans ?_
    exact (Jg (ZbW rfl hl) (Xd _) e2).trans (Zf (Zb _))
  exact ZK (Zck _ _ _) rfl key (Zu (cell:=false) (by rw [Z4,Z4]))
end
theorem ZfZ:∀ (l:List Int) (n:Int),1≤n→(∀ x∈l,1≤x)→1≤minI n l
  | [],n,h,_=>h
  | b :: l,n,h,hl=>by
    show 1≤minI (if b < n then b else n) l
    refine ZfZ l _ ?_ fun x hx=>hl x (List.mem_cons_of_mem _ hx)
    have:=hl b List.mem_cons_self
    split <;> omega
section
variable {n:Nat} {m:Mem} {i:Nat} {es:List Ent} {xs:List T}
theorem ZkH (h0:es≠[]) (ho:∀ e∈es,EntOk e):1≤minL es:=by
  cases es with
  | nil=>exact absurd rfl h0
  | cons e r =>
    refine ZfZ _ _ (ho e List.mem_cons_self).left fun x hx=>?_
    obtain ⟨f,hf,rfl⟩:=List.mem_map.mp hx
    exact (ho f (List.mem_cons_of_mem _ hf)).left
theorem Zkq (h0:es≠[]) (ho:∀ e∈es,EntOk e) (h:Al es xs):xs.isEmpty=decide (0 < Zkr es):=by
  have hm:=ZkH h0 ho
  unfold Zkr
  cases xs with
  | nil =>
    have k:QH es=false:=by
      cases q:QH es with
      | false=>rfl
      | true=>exact absurd (h.kd q) (by simp)
    have k2:Q0 es=false:=by
      cases q:Q0 es with
      | false=>rfl
      | true=>exact absurd (h.nm q) (by simp)
    have w:wayW es=none:=by
      unfold wayW
      rw [List.findSome?_eq_none_iff]
      intro a ha
      unfold wayI
      rw [List.findSome?_eq_none_iff]
      intro j hj
      cases q:wayB es a j with
      | false=>rfl
      | true=>exact absurd rfl (h.wy a (List.mem_range.mp ha) j (List.mem_range.mp hj) q)
    have l:wayL es=none:=by
      unfold wayL
      rw [List.findSome?_eq_none_iff]
      intro a ha
      cases q:Q4 es a with
      | false=>rfl
      | true=>exact absurd (h.ls a (List.mem_range.mp ha) q) (by simp)
    have e:Zgg es=none:=by
      unfold Zgg
      rw [k,k2,w,l]
      rfl
    rw [e]
    show true=decide (0 < minL es)
    rw [decide_eq_true (by omega)]
  | cons t r =>
    have e:(Zgg es).isNone=false:=by
      unfold Zgg
      cases k:QH es with
      | true=>rfl
      | false =>
        cases k2:Q0 es with
        | true=>rfl
        | false =>
          show (match wayW es with
            | some t=>some t
            | none=>wayL es).isNone=false
          cases w:wayW es with
          | some t=>rfl
          | none =>
            cases l:wayL es with
            | some t=>rfl
            | none =>
              exfalso
              rcases h.gd t List.mem_cons_self with ⟨_,q⟩ | ⟨_,q⟩ | ⟨a,e,ha,_,q⟩ | ⟨a,j,e,f,R,ha,hj,q,_,_⟩
              · rw [k] at q; cases q
              · rw [k2] at q; cases q
              · unfold wayL at l
                rw [List.findSome?_eq_none_iff] at l
                have:=l a (List.mem_range.mpr (List.getElem?_eq_some_iff.mp ha).1)
                rw [q] at this
                cases this
              · unfold wayW at w
                rw [List.findSome?_eq_none_iff] at w
                have:=w a (List.mem_range.mpr (List.getElem?_eq_some_iff.mp ha).1)
                unfold wayI at this
                rw [List.findSome?_eq_none_iff] at this
                have:=this j (List.mem_range.mpr (List.getElem?_eq_some_iff.mp hj).1)
                rw [q] at this
                cases this
    rw [e]
    rfl
theorem gd_yes {t:T} (h0:es≠[]) (hl:es.length < 64) (ho:∀ e∈es,EntOk e) (h:Gd es t):cf (n + 10) 20 [.t (setT es),.t t] m = .ok (.t (.bl true)) m:=by
  rcases h with ⟨rfl,q⟩ | ⟨rfl,q⟩ | ⟨a,e,ha,rfl,q⟩ | ⟨a,j,e,f,R,ha,hj,q,rfl,g⟩
  · rw [← q]; exact Zij hl
  · rw [← q]; exact Zii hl
  · rw [← q]; exact ZfV ha h0 hl
  · exact Zao (Zgf ha hj ho (fun _=>g.2.2) (fun z=>by rw [q] at z; cases z))
theorem ZmY {z:T} (h3:es.length≤3) (ho:∀ e∈es,EntOk e):∀ x∈[T.non,.tup [],.str kindS,.lst [.str kindS],.tup [.str [107,105,110,100,115]],.tup [.str kindS,.int 0],.tup [.str QQ],.int 7,.bl true,.dct [] [],.tup [.str J1],.tup [.int 0]]++[.tup [.bl false,.tup [.bl false,z]],.tup [.str J1,.int 0,.int 1,.tup [.bl false,.tup [.bl false,z]]],.tup [.str QQ,.tup [.bl false,.tup [.bl false,z]]]],Nx es x:=by
  refine fa (fc (fun n m=>Zb5 rfl) (fc (fun n m=>ZlE) (fc (fun n m=>Zb5 rfl) (fc (fun n m=>Zb5 rfl) (fc (fun n m=>Zbc rfl rfl rfl rfl) (fc (fun n m=>Zbc rfl rfl rfl rfl) (fc (fun n m=>Zbc rfl rfl rfl rfl) (fc (fun n m=>Zb5 rfl) (fc (fun n m=>Zb5 rfl) (fc (fun n m=>Zb5 rfl) (fc (fun n m=>Zbc rfl rfl rfl rfl) (fc (fun n m=>Zbc rfl rfl rfl rfl) fn)))))))))))) (fc (fun n m=>Zbc (Bool.and_false _) (Bool.and_false _) (Bool.and_false _) (Bool.and_false _)) (fc (fun n m=>Zao ?_) (fc (fun n m=>Zbx rfl) fn)))
  by_cases h:1 < es.length
  · have q0:es[0]? = some es[0]:=List.getElem?_eq_getElem (by omega)
    have q1:es[1]? = some es[1]:=List.getElem?_eq_getElem h
    refine Zgf (i:=0) (j:=1) q0 q1 ho (fun hw=>?_) (fun _=>rfl)
    have ht:=tl (ho _ (List.getElem_mem (by omega:0 < es.length))) (ho _ (List.getElem_mem h))
    have hLB:LB es[0] es[1]=false:=by
      have:=ZcD q0 q1
      rw [hw] at this
      cases h:LB es[0] es[1] with
      | false=>rfl
      | true=>rw [h,Bool.not_true,Bool.and_false] at this; cases this
    rw [hLB] at ht
    exact ht.bad rfl _ (.bl z)
  · exact Zlu (by rw [ZbP (x:=1) (by omega),Bool.and_false])
theorem Zgo {t:T} {s:List T} {e0 e1 e4 e5 e7:Option W} (hi:i < m.length) (hs:IsSt s) (h0:es≠[]) (h3:es.length≤3) (ho:∀ e∈es,EntOk e) (h:Gd es t):∃ s',ex (cf (n + 20)) gv Zdq [e0,e1,some (.c i),some (.t (setT es)),e4,e5,some (.t t),e7] (put m i s) = .ok (.next [e0,e1,some (.c i),some (.t (setT es)),e4,e5,some (.t t),e7]) (put m i s')∧IsSt s':=by
  obtain ⟨x,s',g,hs',hx⟩:=oth_ok (n:=n + 17) h3 ho h hi hs
  refine ⟨s',?_,hs'⟩
  have y1:=Ziz (n:=n + 9) (m:=put m i s) (gd_yes (n:=n + 9) h0 (by omega) ho h)
  have y2:=Ziz (n:=n + 9) (m:=put m i s') (hx (n + 9) _)
  unfold Zdq
  refine (Zq (Zh (k:=false) ((Zy (Za rfl) (Za rfl)).trans y1) (Zb _) rfl)).trans ?_
  exact (Zq (Zh (k:=false) ((Zy (Za rfl) ((Z2 (Za rfl) (Za rfl) (Za rfl)).trans g)).trans y2) (Zb _) rfl)).trans QG
end
theorem law_turn {n:Nat} {ns:List Int} {x:Int} {m:Mem} {e2 e3 e4 e5 e6 e7:Option W}:∃ m' f2 f3 f4 f5 f6 f7,ex (cf (n + 20)) gv Zdp [some (.t (.scr ns)),some (.t (.int x)),e2,e3,e4,e5,e6,e7] m = .ok (.next [some (.t (.scr ns)),some (.t (.int x)),f2,f3,f4,f5,f6,f7]) m':=by
  obtain ⟨s0,g0,hs0⟩:=Zl1 (n:=n + 19) (m:=m) (x:=x)
  have hi:m.length < (m++[none]).length:=by simp
  generalize hM:m++[none]=M at g0 hi
  generalize hI:m.length=i at g0 hi
  obtain ⟨es,s1,g1,hs1,ho,h0,h3,hn⟩:=set_ok (n:=n + 12) hi hs0
  have hl:es.length < 64:=by omega
  obtain ⟨xs,s2,g2,hs2,hA⟩:=ZnA (n:=n + 14) hi hs1 h0 h3 ho
  obtain ⟨env1,m1,eL,s3,⟨a6,rfl⟩,rfl,hs3⟩:=JF (f:=ex (cf (n + 20)) gv Zdq) (tg:=.nm 6) (P:=fun env M'=>∃ s,(∃ a6,env=[some (.t (.scr ns)),some (.t (.int x)),some (.c i),some (.t (setT es)),some (.t (setT es)),some (.t (.lst xs)),a6,e7])∧M' = put M i s∧IsSt s) xs [some (.t (.scr ns)),some (.t (.int x)),some (.c i),some (.t (setT es)),some (.t (setT es)),some (.t (.lst xs)),e6,e7] (put M i s2) ⟨s2,⟨_,rfl⟩,rfl,hs2⟩ (by
    rintro t ht env M' ⟨s,⟨a6,rfl⟩,rfl,hs⟩
    obtain ⟨s',q,hs'⟩:=Zgo (n:=n) (e0:=some (.t (.scr ns))) (e1:=some (.t (.int x))) (e4:=some (.t (setT es))) (e5:=some (.t (.lst xs))) (e7:=e7) hi hs h0 h3 ho (hA.gd t ht)
    exact ⟨_,_,_,rfl,q,s',⟨_,rfl⟩,rfl,hs'⟩)
  obtain ⟨z,hz⟩:=ZlZ
  have tw:=ZjB (n:=n + 19) (m:=put M i s3)
  rw [hz] at tw
  obtain ⟨y,s4,g4,hs4,hy⟩:=Zdf (n:=n + 18) (xs:=[T.non,.tup [],.str kindS,.lst [.str kindS],.tup [.str [107,105,110,100,115]],.tup [.str kindS,.int 0],.tup [.str QQ],.int 7,.bl true,.dct [] [],.tup [.str J1],.tup [.int 0]]++[.tup [.bl false,.tup [.bl false,z]],.tup [.str J1,.int 0,.int 1,.tup [.bl false,.tup [.bl false,z]]],.tup [.str QQ,.tup [.bl false,.tup [.bl false,z]]]]) hi hs3 (by simp) (by simp)
  have y1:=Ziz (n:=n + 9) (m:=put M i s4) (ZmY h3 ho y hy (n + 9) _)
  obtain ⟨s5,g5,hs5⟩:=Zjw (n:=n + 8) hi hs4 h0 hl ho hA
  have gL:=law_part_ok (n:=n + 16) (m:=put M i s5) h0 hl ho
  rw [ZmJ hn] at gL
  have hd:∀ env (m:Mem),ev (cf (n + 20)) gv (.dsp .nil .nil) env m = .ok (.t (.dct [] [])) m:=fun env m=>by rw [ev,evs]; rfl
  refine ⟨put M i s5,some (.c i),some (.t (setT es)),some (.t (setT es)),some (.t (.lst xs)),a6,some (.t y),?_⟩
  unfold Zdp
  refine (Zn ((QK (Za rfl)).trans g0)).trans ?_
  dsimp only [List.set_cons_succ,List.set_cons_zero]
  refine (Zn ((QK (Za rfl)).trans g1)).trans ?_
  dsimp only [List.set_cons_succ,List.set_cons_zero]
  refine (Zn (Zr (Za rfl) (l_list _))).trans ?_
  dsimp only [List.set_cons_succ,List.set_cons_zero]
  refine (Zn ((Zy (Za rfl) (Za rfl)).trans g2)).trans ?_
  dsimp only [List.set_cons_succ,List.set_cons_zero]
  refine (Jg (Za rfl) rfl eL).trans ?_
  refine (Zn (w:=.t (.lst [T.non,.tup [],.str kindS,.lst [.str kindS],.tup [.str [107,105,110,100,115]],.tup [.str kindS,.int 0],.tup [.str QQ],.int 7,.bl true,.dct [] [],.tup [.str J1],.tup [.int 0]])) (Qd (Zd (Zb _) (Zd (Zx Zi rfl Zg) (Zd (Zb _) (Zd (Qd (Zd (Zb _) Zi) rfl Zg) (Zd (Zx (Zd (Zb _) Zi) rfl Zg) (Zd (Zx (Zd (Zb _) (Zd (Zb _) Zi)) rfl Zg) (Zd (Zx (Zd (Zb _) Zi) rfl Zg) (Zd (Zb _) (Zd (Zb _) (Zd (hd _ _) (Zd (Zx (Zd (Zb _) Zi) rfl Zg) (Zd (Zx (Zd (Zb _) Zi) rfl Zg) Zi)))))))))))) rfl Zg)).trans ?_
  dsimp only [List.set_cons_succ,List.set_cons_zero]
  refine (Zn (w:=.t (.lst ([T.non,.tup [],.str kindS,.lst [.str kindS],.tup [.str [107,105,110,100,115]],.tup [.str kindS,.int 0],.tup [.str QQ],.int 7,.bl true,.dct [] [],.tup [.str J1],.tup [.int 0]]++[.tup [.bl false,.tup [.bl false,z]],.tup [.str J1,.int 0,.int 1,.tup [.bl false,.tup [.bl false,z]]],.tup [.str QQ,.tup [.bl false,.tup [.bl false,z]]]]))) (Zt (Za rfl) (Qd (Zd ((ZL (Zd (Zb _) Zi)).trans tw) (Zd (Zx (Zd (Zb _) (Zd (Zb _) (Zd (Zb _) (Zd ((ZL (Zd (Zb _) Zi)).trans tw) Zi)))) rfl Zg) (Zd (Zx (Zd (Zb _) (Zd ((ZL (Zd (Zb _) Zi)).trans tw) Zi)) rfl Zg) Zi))) rfl Zg) rfl)).trans ?_
  dsimp only [List.set_cons_succ,List.set_cons_zero]
  refine (Zn ((Zy (Za rfl) (Za rfl)).trans g4)).trans ?_
  dsimp only [List.set_cons_succ,List.set_cons_zero]
  refine (Zq ((QR (Zh (k:=false) ((Zy (Za rfl) (Za rfl)).trans y1) (Zb _) rfl)).trans ((QR (ZX (k:=true) ((Z2 (Za rfl) (Za rfl) (Za rfl)).trans g5))).trans (Zh (Za rfl) (Za rfl) (Zm0 (ZjO ho)))))).trans ?_
  refine (Zq (Zh (Zh (Za rfl) (Qd Zi rfl Zg) (Zcg (ZdI hA)).1) (Zh ((QK (Za rfl)).trans gL) (Zb _) (c_gt _ _)) ?_)).trans QG
  rw [Zli,Zkq h0 ho hA,beq_self_eq_true]
  rfl
theorem law_true (ns:List Int) (hl:ns.length≤63):∃ m,Z6 fns gv 41 39 [.t (.scr ns)] [] = .ok (.t (.bl true)) m:=by
  obtain ⟨v,hv⟩:=Zno (n:=39) (m:=[]) (ns:=ns)
  obtain ⟨env1,m1,e1,_⟩:=JF (f:=ex (cf 40) gv Zdp) (tg:=.nm 1) (P:=fun env m=>∃ a b c d e f g,env=[some (.t (.scr ns)),a,b,c,d,e,f,g]) (.int v :: (cut ns (some 1) (some 8)).map .int) [some (.t (.scr ns)),none,none,none,none,none,none,none] [] ⟨_,_,_,_,_,_,_,rfl⟩ (by
    rintro t ht env m ⟨a,b,c,d,e,f,g,rfl⟩
    have:∃ x:Int,t = .int x:=by
      rcases List.mem_cons.mp ht with rfl | ht
      · exact ⟨v,rfl⟩
      · obtain ⟨x,_,rfl⟩:=List.mem_map.mp ht
        exact ⟨x,rfl⟩
    obtain ⟨x,rfl⟩:=this
    obtain ⟨m',f2,f3,f4,f5,f6,f7,h1⟩:=law_turn (n:=20) (ns:=ns) (x:=x) (m:=m) (e2:=b) (e3:=c) (e4:=d) (e5:=e) (e6:=f) (e7:=g)
    exact ⟨_,_,m',rfl,h1,_,_,_,_,_,_,_,rfl⟩)
  refine ⟨[],?_⟩
  have key:ex (cf 40) gv ZfA [some (.t (.scr ns)),none,none,none,none,none,none,none] [] = .ok (.ret (.t (.bl true))) m1:=by
    unfold ZfA
    have hcl:(cut ns (some 1) (some 8)).length≤ns.length:=by unfold cut; simp; omega
    have hit:ev (cf 40) gv (.bin .Add (.lst (.cons (.call 21 (.cons (.var 0) (.cons (.con (.int 0)) .nil))) .nil)) (.slc (.var 0) (.con (.int 1)) (.con (.int 8)))) [some (.t (.scr ns)),none,none,none,none,none,none,none] [] = .ok (.t (.lst (.int v :: (cut ns (some 1) (some 8)).map .int))) []:=by
      simp [ev,evs,isT,ZS,EVs,hv,lim]
      rw [ZlS (by simp [lim]; omega)]
      rfl
    refine (Jg hit rfl e1).trans ?_
    exact Zf (Zb _)
  show cf 41 39 [.t (.scr ns)] []=_
  rw [cf_law]
  simp [key,Zw,fin]
end My
end
noncomputable section
set_option maxHeartbeats 1000000
namespace My
open PySem PySem.Spec PyProof.Rows L2 Mi
def top (i:Nat):Stmt:=PySem.Challenge.pw_matepoint_k34_anything_that_shows_it.main.body.getD i (.Pass ⟨0,0,0,0⟩)
abbrev QT:Stmt:=top 1
abbrev QV:Stmt:=top 2
abbrev Ja:Stmt:=top 3
abbrev Qw:Stmt:=top 5
abbrev ZaB:Stmt:=top 6
abbrev Qv:Stmt:=top 7
abbrev Xh:Stmt:=top 9
abbrev Qt:Stmt:=top 10
abbrev Qu:Stmt:=top 11
abbrev Qh:Stmt:=top 13
abbrev Jb:Stmt:=top 14
abbrev Jc:Stmt:=top 15
abbrev Q9:Stmt:=top 16
abbrev Jd:Stmt:=top 17
abbrev Qg:Stmt:=top 18
abbrev ZF:Stmt:=top 19
abbrev ZJ:Stmt:=top 20
abbrev ZM:Stmt:=top 21
abbrev ZG:Stmt:=top 22
abbrev ZW:Stmt:=top 23
abbrev Qf:Stmt:=top 24
abbrev QW:Stmt:=top 26
abbrev Xj:Stmt:=top 27
abbrev Xo:Stmt:=top 28
abbrev Xk:Stmt:=top 29
abbrev Xm:Stmt:=top 30
abbrev Jf:Stmt:=top 31
abbrev Xp:Stmt:=top 32
abbrev Xi:Stmt:=top 33
abbrev JC:Stmt:=top 34
abbrev Xn:Stmt:=top 35
abbrev Xl:Stmt:=top 36
abbrev ZaC:Stmt:=top 37
abbrev ZaD:Stmt:=top 38
abbrev ZaE:Stmt:=top 39
abbrev Qx:Stmt:=top 40
abbrev JB:Stmt:=top 41
abbrev Je:Stmt:=top 42
abbrev Z1:Stmt:=top 43
abbrev ZbD:Stmt:=top 44
set_option hygiene false
local macro_rules
  | `(tactic| wtm_at $s:str)=>do
    let mut r:Array (Lean.TSyntax `tactic):=#[]
    for c in s.getString.toList do
      let t ← match c with
        | '0'=>`(tactic| exact rfl)
        | '1'=>`(tactic| refine Zks ?_ ?_ ?_)
        | '2'=>`(tactic| exact ZmK)
        | '3'=>`(tactic| exact ZmA)
        | '4'=>`(tactic| exact hr)
        | '5'=>`(tactic| exact (vr 0))
        | '6'=>`(tactic| refine pe_ixW ?_ ?_ ?_)
        | '7'=>`(tactic| exact (fun _ _=>rfl))
        | '8'=>`(tactic| refine Zkn ?_ ?_ ?_ ?_)
        | '9'=>`(tactic| exact (Zmr (by decide +kernel)))
        | 'a'=>`(tactic| exact (vr 1))
        | 'b'=>`(tactic| exact (by with_unfolding_all rfl))
        | 'c'=>`(tactic| exact hr.units)
        | 'd'=>`(tactic| refine ZjW ?_)
        | 'e'=>`(tactic| exact (vr 2))
        | 'f'=>`(tactic| exact ZjX)
        | 'g'=>`(tactic| refine Zmq ?_)
        | 'h'=>`(tactic| refine ZmH ?_ ?_)
        | 'i'=>`(tactic| exact (by decide))
        | 'j'=>`(tactic| refine Zmb ?_ ?_ ?_ ?_)
        | 'k'=>`(tactic| refine Zmf ?_ ?_ ?_ ?_)
        | 'l'=>`(tactic| exact (by kernel_rfl))
        | 'm'=>`(tactic| exact (vr 3))
        | 'n'=>`(tactic| exact (fun _=>rfl))
        | 'o'=>`(tactic| refine ⟨?_⟩)
        | 'p'=>`(tactic| refine ⟨f,fd,_,m,F.kp,b,?_⟩)
        | 'q'=>`(tactic| intro _ _ _ _ _ _ hr)
        | 'r'=>`(tactic| exact T0)
        | 's'=>`(tactic| exact ih)
        | 't'=>`(tactic| refine Zmw ?_)
        | 'u'=>`(tactic| exact pe_blW)
        | 'v'=>`(tactic| exact (vr 7))
        | 'w'=>`(tactic| exact (vr 4))
        | 'x'=>`(tactic| refine ⟨?_,?_⟩)
        | 'y'=>`(tactic| exact T0.b_len)
        | 'z'=>`(tactic| refine ZmB ?_ ?_ ?_ ?_)
        | 'A'=>`(tactic| exact T1.f_Ldraw)
        | 'B'=>`(tactic| refine pi_of ?_)
        | 'C'=>`(tactic| refine Zmy ?_ ?_ ?_ ?_ ?_)
        | 'D'=>`(tactic| refine Zk8 ?_ ?_ ?_ ?_ ?_ ?_ ?_)
        | 'E'=>`(tactic| intro _ _ _ _ _)
        | 'F'=>`(tactic| refine ⟨?_,?_,?_⟩)
        | 'G'=>`(tactic| exact True.intro)
        | 'H'=>`(tactic| refine pt_of ?_ ?_)
        | 'I'=>`(tactic| exact (vr 8))
        | 'J'=>`(tactic| refine PW.pt ?_)
        | 'K'=>`(tactic| exact (vr 9))
        | 'L'=>`(tactic| exact Zmu)
        | 'M'=>`(tactic| exact (vr 5))
        | 'N'=>`(tactic| refine Zma ?_)
        | 'O'=>`(tactic| refine ZjY ?_ ?_ ?_ ?_ ?_ ?_ ?_)
        | 'P'=>`(tactic| exact PassesOwn.never)
        | 'Q'=>`(tactic| refine sg (i:=4) ?_ ?_ ?_)
        | 'R'=>`(tactic| refine pw_orW ?_ ?_)
        | 'S'=>`(tactic| exact (vr 6))
        | 'T'=>`(tactic| refine sg (i:=2) ?_ ?_ ?_)
        | 'U'=>`(tactic| refine pw_or1 ?_)
        | 'V'=>`(tactic| exact Za5.nd)
        | 'W'=>`(tactic| refine Zmz ?_ ?_ ?_ ?_ ?_ ?_)
        | 'X'=>`(tactic| exact T0.b_isinstance)
        | 'Y'=>`(tactic| exact (by decide +kernel))
        | 'Z'=>`(tactic| refine sg (i:=3) ?_ ?_ ?_)
        | '!'=>`(tactic| refine pe_one ?_)
        | '#'=>`(tactic| exact T0.b_tuple)
        | '$'=>`(tactic| refine Zl8 ?_ ?_)
        | '%'=>`(tactic| refine Zl9 ?_)
        | '&'=>`(tactic| refine ZgE ?_ ?_ ?_)
        | '('=>`(tactic| exact T0.b_range)
        | ')'=>`(tactic| exact T1.f_Llets)
        | '*'=>`(tactic| refine Zka ?_ ?_)
        | '+'=>`(tactic| refine ZmI ?_ ?_)
        | ','=>`(tactic| exact T0.b_min)
        | '-'=>`(tactic| refine Zms ?_ ?_ ?_)
        | '.'=>`(tactic| exact ZdW.nd)
        | '/'=>`(tactic| exact (QX 0 1 rfl (show List.Nodup (["_law_offer_here","_law_left"]:List Str) from by decide +kernel)))
        | ':'=>`(tactic| exact Ze2.nd)
        | ';'=>`(tactic| exact Zkb)
        | '<'=>`(tactic| exact T1.f_Lis_shown)
        | '='=>`(tactic| exact T0.b_int)
        | '>'=>`(tactic| exact T1.f_lets)
        | '?'=>`(tactic| refine Zj0 ?_ ?_ ?_ ?_)
        | '@'=>`(tactic| exact T1.f_Lpick)
        | '['=>`(tactic| refine sg (i:=5) ?_ ?_ ?_)
        | ']'=>`(tactic| refine sg (i:=7) ?_ ?_ ?_)
        | '^'=>`(tactic| refine Ji (N':=["_law_offer_here","_law_left"]) ?_ ?_)
        | '_'=>`(tactic| refine ZhP ?_ ?_)
        | '`'=>`(tactic| refine ZgH ?_ ?_)
        | '{'=>`(tactic| exact T1.f_Lany)
        | '|'=>`(tactic| refine Zmt ?_)
        | '}'=>`(tactic| exact T1.f_shows)
        | '~'=>`(tactic| refine Zki ?_ ?_ ?_ ?_ ?_)
        | 'À'=>`(tactic| exact T1.f_is_one_of)
        | 'Á'=>`(tactic| refine Zkj ?_ ?_ ?_ ?_ ?_)
        | 'Â'=>`(tactic| refine sg (i:=1) ?_ ?_ ?_)
        | 'Ã'=>`(tactic| refine ZgF ?_ ?_ ?_ ?_ ?_)
        | 'Ä'=>`(tactic| exact ZdY.nd)
        | 'Å'=>`(tactic| refine ZgG ?_ ?_ ?_ ?_ ?_ ?_)
        | 'Æ'=>`(tactic| exact T0.b_set)
        | 'Ç'=>`(tactic| exact QM.nd)
        | 'È'=>`(tactic| exact T0.b_bool)
        | 'É'=>`(tactic| refine ZhV ?_ ?_ ?_ ?_ ?_)
        | 'Ê'=>`(tactic| exact (QX 0 1 rfl (show List.Nodup (["offer","left"]:List Str) from by decide +kernel)))
        | 'Ë'=>`(tactic| exact T1.f_is_between)
        | 'Ì'=>`(tactic| refine ZmE ?_)
        | 'Í'=>`(tactic| exact ZfP.nd)
        | 'Î'=>`(tactic| exact T1.f_Lwish)
        | 'Ï'=>`(tactic| refine sg (i:=6) ?_ ?_ ?_)
        | 'Ð'=>`(tactic| refine sg (i:=8) ?_ ?_ ?_)
        | 'Ñ'=>`(tactic| refine ZhW ?_ ?_ ?_ ?_ ?_)
        | 'Ò'=>`(tactic| exact T0.b_list)
        | 'Ó'=>`(tactic| refine Zmv ?_)
        | 'Ô'=>`(tactic| exact T1.f_Ltower)
        | 'Õ'=>`(tactic| refine Zkp ?_ ?_ ?_ ?_ ?_)
        | 'Ö'=>`(tactic| refine Ji (N':=["one","card"]) ?_ ?_)
        | 'Ø'=>`(tactic| exact (Qi 0 (show List.Nodup (["one","card"]:List Str) from by decide +kernel)))
        | 'Ù'=>`(tactic| refine Zfa (N':=["offer","left"]) ?_ ?_ ?_ ?_)
        | 'Ú'=>`(tactic| refine ZjV ?_ ?_ ?_ ?_)
        | 'Û'=>`(tactic| exact T1.f_Lnumber)
        | 'Ü'=>`(tactic| refine Ji (N':=["_law_one","_law_card_here"]) ?_ ?_)
        | 'Ý'=>`(tactic| exact (Qi 0 (show List.Nodup (["_law_one","_law_card_here"]:List Str) from by decide +kernel)))
        | 'Þ'=>`(tactic| exact ZbV.nd)
        | _=>Lean.Macro.throwUnsupported
      r:=r.push t
    `(tactic| ($[$r:tactic];*))
theorem Ze0:FnScope ["thing"] ["thing"] (Zc QT):=⟨rfl,rfl,rfl,by decide +kernel,rfl,by decide +kernel,by decide +kernel⟩
theorem Ze1:FnScope ["card","word"] ["card","word"] (Zc QV):=⟨rfl,rfl,rfl,by decide +kernel,rfl,by decide +kernel,by decide +kernel⟩
theorem ZcH:FnScope ["card","word","name","number"] ["card","word"] (Zc Ja):=⟨rfl,rfl,rfl,by decide +kernel,rfl,by decide +kernel,by decide +kernel⟩
theorem ZdX:FnScope ["thing","texts"] ["thing","texts"] (Zc Qw):=⟨rfl,rfl,rfl,by decide +kernel,rfl,by decide +kernel,by decide +kernel⟩
theorem ZhM:FnScope ["wish","card","word"] ["wish","card"] (Zc ZaB):=⟨rfl,rfl,rfl,by decide +kernel,rfl,by decide +kernel,by decide +kernel⟩
theorem Zbt:FnScope ["wish","card","size"] ["wish","card"] (Zc Qv):=⟨rfl,rfl,rfl,by decide +kernel,rfl,by decide +kernel,by decide +kernel⟩
theorem ZfN:FnScope ["wish","card","thing","truth","below"] ["wish","card","thing"] (Zc Xh):=⟨rfl,rfl,rfl,by decide +kernel,rfl,by decide +kernel,by decide +kernel⟩
theorem Zbs:FnScope ["wishes","card","truth","thing","k","below"] ["wishes","card","truth","thing"] (Zc Qt):=⟨rfl,rfl,rfl,by decide +kernel,rfl,by decide +kernel,by decide +kernel⟩
theorem ZdV:FnScope ["wishes","card","thing"] ["wishes","card","thing"] (Zc Qu):=⟨rfl,rfl,rfl,by decide +kernel,rfl,by decide +kernel,by decide +kernel⟩
theorem Zc8:FnScope ["thing","low","high"] ["thing","low","high"] (Zc Qh):=⟨rfl,rfl,rfl,by decide +kernel,rfl,by decide +kernel,by decide +kernel⟩
theorem Zgr:FnScope ["offer"] ["offer"] (Zc Jb):=⟨rfl,rfl,rfl,by decide +kernel,rfl,by decide +kernel,by decide +kernel⟩
theorem Zgs:FnScope ["offer"] ["offer"] (Zc Jc):=⟨rfl,rfl,rfl,by decide +kernel,rfl,by decide +kernel,by decide +kernel⟩
theorem Zgq:FnScope ["some","place"] ["some","place"] (Zc Q9):=⟨rfl,rfl,rfl,by decide +kernel,rfl,by decide +kernel,by decide +kernel⟩
theorem Zgt:FnScope ["some","place"] ["some","place"] (Zc Jd):=⟨rfl,rfl,rfl,by decide +kernel,rfl,by decide +kernel,by decide +kernel⟩
theorem Zc7:FnScope ["some"] ["some"] (Zc Qg):=⟨rfl,rfl,rfl,by decide +kernel,rfl,by decide +kernel,by decide +kernel⟩
theorem Zak:FnScope ["some"] ["some"] (Zc ZF):=⟨rfl,rfl,rfl,by decide +kernel,rfl,by decide +kernel,by decide +kernel⟩
theorem Zaz:FnScope ["some"] ["some"] (Zc ZJ):=⟨rfl,rfl,rfl,by decide +kernel,rfl,by decide +kernel,by decide +kernel⟩
theorem Za4:FnScope ["some","i","j"] ["some","i","j"] (Zc ZM):=⟨rfl,rfl,rfl,by decide +kernel,rfl,by decide +kernel,by decide +kernel⟩
theorem JX:FnScope ["some","i","offer","left"] ["some","i"] (Zc ZG):=⟨rfl,rfl,rfl,by decide +kernel,rfl,by decide +kernel,by decide +kernel⟩
theorem Xz:FnScope ["some","i","j","thing","last"] ["some","i","j","thing"] (Zc ZW):=⟨rfl,rfl,rfl,by decide +kernel,rfl,by decide +kernel,by decide +kernel⟩
theorem Zay:FnScope ["some","thing","word"] ["some","thing"] (Zc Qf):=⟨rfl,rfl,rfl,by decide +kernel,rfl,by decide +kernel,by decide +kernel⟩
theorem Ze3:FnScope ["_law_script","_law_k"] ["_law_script","_law_k"] (Zc QW):=⟨rfl,rfl,rfl,by decide +kernel,rfl,by decide +kernel,by decide +kernel⟩
theorem ZjP:FnScope ["_law_cell"] ["_law_cell"] (Zc Xj):=⟨rfl,rfl,rfl,by decide +kernel,rfl,by decide +kernel,by decide +kernel⟩
theorem ZfP:FnScope ["_law_tape_here","_law_many","_law_found","_law_number_here"] ["_law_tape_here","_law_many"] (Zc Xo):=⟨rfl,rfl,rfl,by decide +kernel,rfl,by decide +kernel,by decide +kernel⟩
theorem ZjQ:FnScope ["_law_tape_here","_law_some"] ["_law_tape_here","_law_some"] (Zc Xk):=⟨rfl,rfl,rfl,by decide +kernel,rfl,by decide +kernel,by decide +kernel⟩
theorem ZfO:FnScope ["_law_k","_law_some"] ["_law_k"] (Zc Xm):=⟨rfl,rfl,rfl,by decide +kernel,rfl,by decide +kernel,by decide +kernel⟩
theorem Zgu:FnScope ["_law_tape_here"] ["_law_tape_here"] (Zc Jf):=⟨rfl,rfl,rfl,by decide +kernel,rfl,by decide +kernel,by decide +kernel⟩
theorem Zdb:FnScope ["_law_tape_here","_law_name_here","_law_kind","_law_marks","_law_sizes"] ["_law_tape_here","_law_name_here","_law_kind"] (Zc Xp):=⟨rfl,rfl,rfl,by decide +kernel,rfl,by decide +kernel,by decide +kernel⟩
theorem Zc9:FnScope ["_law_tape_here","_law_deep","_law_way","_law_many"] ["_law_tape_here","_law_deep"] (Zc Xi):=⟨rfl,rfl,rfl,by decide +kernel,rfl,by decide +kernel,by decide +kernel⟩
theorem ZdY:FnScope ["_law_tape_here","_law_side","_law_name_here","_law_kind","_law_till","_law_many","_law_least","_law_wish_here","_law_weight"] ["_law_tape_here","_law_side","_law_name_here","_law_kind","_law_till"] (Zc JC):=⟨rfl,rfl,rfl,by decide +kernel,rfl,by decide +kernel,by decide +kernel⟩
theorem Zda:FnScope ["_law_wish_here","_law_card_here","_law_word","_law_numbers"] ["_law_wish_here","_law_card_here"] (Zc Xn):=⟨rfl,rfl,rfl,by decide +kernel,rfl,by decide +kernel,by decide +kernel⟩
theorem ZaA:FnScope ["_law_some","_law_names","_law_offer_here","_law_left","_law_other","_law_more","_law_many"] ["_law_some"] (Zc Xl):=⟨rfl,rfl,rfl,by decide +kernel,rfl,by decide +kernel,by decide +kernel⟩
theorem Ze2:FnScope ["_law_tape_here","_law_found","_law_turn","_law_k","_law_side","_law_kind","_law_name_here","_law_offer_here","_law_left"] ["_law_tape_here"] (Zc ZaC):=⟨rfl,rfl,rfl,by decide +kernel,rfl,by decide +kernel,by decide +kernel⟩
theorem Ze4:FnScope ["_law_tape_here","_law_wish_here","_law_card_here","_law_truth","_law_at"] ["_law_tape_here","_law_wish_here","_law_card_here"] (Zc ZaD):=⟨rfl,rfl,rfl,by decide +kernel,rfl,by decide +kernel,by decide +kernel⟩
theorem Za6:FnScope ["_law_tape_here","_law_some","_law_found","_law_many","_law_i","_law_offer_here","_law_left","_law_j"] ["_law_tape_here","_law_some"] (Zc ZaE):=⟨rfl,rfl,rfl,by decide +kernel,rfl,by decide +kernel,by decide +kernel⟩
theorem Zbu:FnScope ["_law_some","_law_thing","_law_found"] ["_law_some","_law_thing"] (Zc Qx):=⟨rfl,rfl,rfl,by decide +kernel,rfl,by decide +kernel,by decide +kernel⟩
theorem ZbV:FnScope ["_law_many","_law_found","_law_k"] ["_law_many"] (Zc JB):=⟨rfl,rfl,rfl,by decide +kernel,rfl,by decide +kernel,by decide +kernel⟩
theorem Za5:FnScope ["_law_tape_here","_law_some","_law_thing","_law_many","_law_found","_law_odd","_law_word","_law_i","_law_j","_law_told"] ["_law_tape_here","_law_some","_law_thing"] (Zc Je):=⟨rfl,rfl,rfl,by decide +kernel,rfl,by decide +kernel,by decide +kernel⟩
theorem QM:FnScope ["_law_tape_here","_law_some","_law_shown","_law_words","_law_thing","_law_found","_law_i","_law_j","_law_both_let","_law_told"] ["_law_tape_here","_law_some","_law_shown"] (Zc Z1):=⟨rfl,rfl,rfl,by decide +kernel,rfl,by decide +kernel,by decide +kernel⟩
theorem ZdW:FnScope ["_law_script","_law_cell","_law_tape_here","_law_some","_law_kept","_law_shown","_law_thing","_law_odd"] ["_law_script"] (Zc ZbD):=⟨rfl,rfl,rfl,by decide +kernel,rfl,by decide +kernel,by decide +kernel⟩
structure Txt0 (K:PySem.W.Frag) (mg:Str→Option Value):Prop where
  b_all:mg "all" = none
  b_any:mg "any" = none
  b_bool:mg "bool" = none
  b_enumerate:mg "enumerate" = none
  b_int:mg "int" = none
  b_isinstance:mg "isinstance" = none
  b_len:mg "len" = none
  b_list:mg "list" = none
  b_min:mg "min" = none
  b_range:mg "range" = none
  b_set:mg "set" = none
  b_str:mg "str" = none
  b_tuple:mg "tuple" = none
  b_zip:mg "zip" = none
structure Txt1 (P:Program) (w:World) (K:PySem.W.Frag) (mg:Str→Option Value) (base:Heap) (k:Nat):Prop where
  f_is_whole:FOk P w K mg base fns gv k "is_whole" 0
  f_has_mark:FOk P w K mg base fns gv k "has_mark" 1
  f_size_of:FOk P w K mg base fns gv k "size_of" 2
  f_is_one_of:FOk P w K mg base fns gv k "is_one_of" 3
  f_lets:FOk P w K mg base fns gv k "lets" 4
  f_lets_size:FOk P w K mg base fns gv k "lets_size" 5
  f_shows:FOk P w K mg base fns gv k "shows" 6
  f_shows_one:FOk P w K mg base fns gv k "shows_one" 7
  f_shows_all:FOk P w K mg base fns gv k "shows_all" 8
  f_is_between:FOk P w K mg base fns gv k "is_between" 9
  f_name_of:FOk P w K mg base fns gv k "name_of" 10
  f_kind_of:FOk P w K mg base fns gv k "kind_of" 11
  f_wish_at:FOk P w K mg base fns gv k "wish_at" 12
  f_card_at:FOk P w K mg base fns gv k "card_at" 13
  f_least_left:FOk P w K mg base fns gv k "least_left" 14
  f_are_kinds_unlike:FOk P w K mg base fns gv k "are_kinds_unlike" 15
  f_are_names_alike:FOk P w K mg base fns gv k "are_names_alike" 16
  f_is_wish_in_way:FOk P w K mg base fns gv k "is_wish_in_way" 17
  f_is_least_in_way:FOk P w K mg base fns gv k "is_least_in_way" 18
  f_is_wish_shown:FOk P w K mg base fns gv k "is_wish_shown" 19
  f_none_shown:FOk P w K mg base fns gv k "none_shown" 20
  f_Lcell_at:FOk P w K mg base fns gv k "_law_cell_at" 21
  f_Ltape:FOk P w K mg base fns gv k "_law_tape" 22
  f_Ldraw:FOk P w K mg base fns gv k "_law_draw" 23
  f_Lpick:FOk P w K mg base fns gv k "_law_pick" 24
  f_Lname:FOk P w K mg base fns gv k "_law_name" 25
  f_Lnumber:FOk P w K mg base fns gv k "_law_number" 26
  f_Lcard:FOk P w K mg base fns gv k "_law_card" 27
  f_Lwish:FOk P w K mg base fns gv k "_law_wish" 28
  f_Loffer:FOk P w K mg base fns gv k "_law_offer" 29
  f_Llets:FOk P w K mg base fns gv k "_law_lets" 30
  f_Lpart:FOk P w K mg base fns gv k "_law_part" 31
  f_Lset:FOk P w K mg base fns gv k "_law_set" 32
  f_Lany:FOk P w K mg base fns gv k "_law_any" 33
  f_Lall:FOk P w K mg base fns gv k "_law_all" 34
  f_Lis_shown:FOk P w K mg base fns gv k "_law_is_shown" 35
  f_Ltower:FOk P w K mg base fns gv k "_law_tower" 36
  f_Lothers:FOk P w K mg base fns gv k "_law_others" 37
  f_Lwords_right:FOk P w K mg base fns gv k "_law_words_right" 38
  f_law:FOk P w K mg base fns gv k "law" 39
section
variable {P:Program} {w:World} {K:PySem.W.Frag} {mg:Str→Option Value} {base:Heap} {k:Nat} {f:Addr} {cdv:Value} {A:Around} {outer:List PySem.Env} {s:Shared} {H:Hp} {E:XK}
theorem Ze7 (T0:Txt0 K mg) (T1:Txt1 P w K mg base k) (hr:Room k (A.deeper (envOfC "is_whole" (Zc QT) s.heap.objs.size f cdv))) :
    Bd (cxOf CX0 P w K mg base ["thing"] "is_whole" (Zc QT) f cdv A outer s H E).nox (Ze QT) (tS K (Z6 fns gv k) gv xr0 1 JH):=by
 wtm_at "od+W50X0=Y!|W50X0ÈY"
theorem Ze8 (T0:Txt0 K mg) (T1:Txt1 P w K mg base k) (hr:Room k (A.deeper (envOfC "has_mark" (Zc QV) s.heap.objs.size f cdv))) :
    Bd (cxOf CX0 P w K mg base ["card","word"] "has_mark" (Zc QV) f cdv A outer s H E).nox (Ze QV) (tS K (Z6 fns gv k) gv xr0 2 JK):=by
 wtm_at "odza6537bc"
theorem Zgx (T0:Txt0 K mg) (T1:Txt1 P w K mg base k) (hr:Room k (A.deeper (envOfC "size_of" (Zc Ja) s.heap.objs.size f cdv))) :
    Bd (cxOf CX0 P w K mg base ["card","word","name","number"] "size_of" (Zc Ja) f cdv A outer s H E).nox (Ze Ja) (tS K (Z6 fns gv k) gv xr0 4 Xe):=by
 wtm_at "oO0PB6537";exact (QX 2 3 rfl ZcH.nd);wtm_at "ikjeabcdmffdL"
theorem Zd4 (T0:Txt0 K mg) (T1:Txt1 P w K mg base k) (hr:Room k (A.deeper (envOfC "is_one_of" (Zc Qw) s.heap.objs.size f cdv))) :
    Bd (cxOf CX0 P w K mg base ["thing","texts"] "is_one_of" (Zc Qw) f cdv A outer s H E).nox (Ze Qw) (tS K (Z6 fns gv k) gv xr0 2 Jl):=by
 wtm_at "od+W50X0";exact T0.b_str;wtm_at "Y!z5abc"
theorem Zmg (T0:Txt0 K mg) (T1:Txt1 P w K mg base k) (hr:Room k (A.deeper (envOfC "lets" (Zc ZaB) s.heap.objs.size f cdv))) :
    Bd (cxOf CX0 P w K mg base ["wish","card","word"] "lets" (Zc ZaB) f cdv A outer s H E).nox (Ze ZaB) (tS K (Z6 fns gv k) gv xr0 3 Zai):=by
 wtm_at "oT";exact ZhM.nd;wtm_at "6537kje9bcdufkje9bcd8";exact T1.f_has_mark;wtm_at "401a16537200fkje9bcdz6a376537bcfkje9bcd|8>40165371a200fkje9bcdÕ0";exact T0.b_all;wtm_at "1Ö0DllB6537nEFØGx08>40151a200ii2000fkje9bcd";refine Zko ?_ ?_ ?_ ?_ ?_;wtm_at "0";exact T0.b_any;wtm_at "1Ö0DllB6537nEFØGx08>40151a200ii2000fd8";exact T1.f_lets_size;wtm_at "40151a200"
theorem Zd3 (T0:Txt0 K mg) (T1:Txt1 P w K mg base k) (hr:Room k (A.deeper (envOfC "lets_size" (Zc Qv) s.heap.objs.size f cdv))) :
    Bd (cxOf CX0 P w K mg base ["wish","card","size"] "lets_size" (Zc Qv) f cdv A outer s H E).nox (Ze Qv) (tS K (Z6 fns gv k) gv xr0 3 Jk):=by
 wtm_at "oT";exact Zbt.nd;wtm_at "8";exact T1.f_size_of;wtm_at "401a16537200kjeLbcdufkj65379bcdze6537bcfdze6537bc"
theorem Zj1 (T0:Txt0 K mg) (T1:Txt1 P w K mg base k) (hr:Room k (A.deeper (envOfC "shows" (Zc Xh) s.heap.objs.size f cdv))) :
    Bd (cxOf CX0 P w K mg base ["wish","card","thing","truth","below"] "shows" (Zc Xh) f cdv A outer s H E).nox (Ze Xh) (tS K (Z6 fns gv k) gv xr0 5 QS):=by
 wtm_at "okJRNHWe0X0#YnUjC0y1e20003bcduf?ie";exact (QX 3 4 rfl ZfN.nd);wtm_at "kJRNHWm0X0ÈYnUjm8>40151a200bcdufkj65379bcd8}40165371a1w2000fkj6537g1919200bcdzwLbcfkjmz65379bcbcd8";exact T1.f_shows_one;wtm_at "40165371a1m1w20000fd8";exact T1.f_shows_all;wtm_at "40165371a1w2000"
theorem Zd1 (T0:Txt0 K mg) (T1:Txt1 P w K mg base k) (hr:Room k (A.deeper (envOfC "shows_one" (Zc Qt) s.heap.objs.size f cdv))) :
    Bd (cxOf CX0 P w K mg base ["wishes","card","truth","thing","k","below"] "shows_one" (Zc Qt) f cdv A outer s H E).nox (Ze Qt) (tS K (Z6 fns gv k) gv xr0 6 Z0):=by
 wtm_at "okJRNHWm0X0#YnUjC0y1m20003bcduf?im";exact (QX 4 5 rfl Zbs.nd);wtm_at "kJRNH8";exact T1.f_is_whole;wtm_at "401w20nUN";refine Zmd ?_ ?_ ?_ ?_ ?_;wtm_at "3wC0y152000bcdufd+8}40165w71a1M2000!z6M37ebc"
theorem Zd2 (T0:Txt0 K mg) (T1:Txt1 P w K mg base k) (hr:Room k (A.deeper (envOfC "shows_all" (Zc Qu) s.heap.objs.size f cdv))) :
    Bd (cxOf CX0 P w K mg base ["wishes","card","thing"] "shows_all" (Zc Qu) f cdv A outer s H E).nox (Ze Qu) (tS K (Z6 fns gv k) gv xr0 3 Qm):=by
 wtm_at "okJRNHWe0X0#YnUjC0y1e2000C0y152000bcdufdÕ0";exact T0.b_all;wtm_at "1";refine Ji (N':=["wish","below","card"]) ?_ ?_;wtm_at "0Dll";refine Zkd ?_ ?_ ?_;wtm_at "0";exact T0.b_zip;wtm_at "151e200nEF";exact (QX 0 1 rfl (show List.Nodup (["wish","below","card"]:List Str) from by decide +kernel));wtm_at "Gx08}40151e1a2000ii2000"
theorem Zde (T0:Txt0 K mg) (T1:Txt1 P w K mg base k) (hr:Room k (A.deeper (envOfC "is_between" (Zc Qh) s.heap.objs.size f cdv))) :
    Bd (cxOf CX0 P w K mg base ["thing","low","high"] "is_between" (Zc Qh) f cdv A outer s H E).nox (Ze Qh) (tS K (Z6 fns gv k) gv xr0 3 Q8):=by
 wtm_at "od+8";exact T1.f_is_whole;wtm_at "401520!";refine ZmD ?_ ?_ ?_ ?_ ?_;wtm_at "a5ebc"
theorem Zgy (T0:Txt0 K mg) (T1:Txt1 P w K mg base k) (hr:Room k (A.deeper (envOfC "name_of" (Zc Jb) s.heap.objs.size f cdv))) :
    Bd (cxOf CX0 P w K mg base ["offer"] "name_of" (Zc Jb) f cdv A outer s H E).nox (Ze Jb) (tS K (Z6 fns gv k) gv xr0 1 XX):=by
 wtm_at "od6653737"
theorem Zgz (T0:Txt0 K mg) (T1:Txt1 P w K mg base k) (hr:Room k (A.deeper (envOfC "kind_of" (Zc Jc) s.heap.objs.size f cdv))) :
    Bd (cxOf CX0 P w K mg base ["offer"] "kind_of" (Zc Jc) f cdv A outer s H E).nox (Ze Jc) (tS K (Z6 fns gv k) gv xr0 1 X3):=by
 wtm_at "od6653737"
theorem Zgw (T0:Txt0 K mg) (T1:Txt1 P w K mg base k) (hr:Room k (A.deeper (envOfC "wish_at" (Zc Q9) s.heap.objs.size f cdv))) :
    Bd (cxOf CX0 P w K mg base ["some","place"] "wish_at" (Zc Q9) f cdv A outer s H E).nox (Ze Q9) (tS K (Z6 fns gv k) gv xr0 2 XS):=by
 wtm_at "od6665a73737"
theorem ZgA (T0:Txt0 K mg) (T1:Txt1 P w K mg base k) (hr:Room k (A.deeper (envOfC "card_at" (Zc Jd) s.heap.objs.size f cdv))) :
    Bd (cxOf CX0 P w K mg base ["some","place"] "card_at" (Zc Jd) f cdv A outer s H E).nox (Ze Jd) (tS K (Z6 fns gv k) gv xr0 2 X4):=by
 wtm_at "od6665a73737"
theorem Zdd (T0:Txt0 K mg) (T1:Txt1 P w K mg base k) (hr:Room k (A.deeper (envOfC "least_left" (Zc Qg) s.heap.objs.size f cdv))) :
    Bd (cxOf CX0 P w K mg base ["some"] "least_left" (Zc Qg) f cdv A outer s H E).nox (Ze Qg) (tS K (Z6 fns gv k) gv xr0 1 Js):=by
 wtm_at "odÉ0,1";refine Ji (N':=["offer","left"]) ?_ ?_;wtm_at "0DllB5nEFÊGx0aii2000"
theorem Zal (T0:Txt0 K mg) (T1:Txt1 P w K mg base k) (hr:Room k (A.deeper (envOfC "are_kinds_unlike" (Zc ZF) s.heap.objs.size f cdv))) :
    Bd (cxOf CX0 P w K mg base ["some"] "are_kinds_unlike" (Zc ZF) f cdv A outer s H E).nox (Ze ZF) (tS K (Z6 fns gv k) gv xr0 1 Ql):=by
 wtm_at "odzÙ00yDllB5nEFÊGx08";exact T1.f_kind_of;wtm_at "401520ii3bc"
theorem ZaH (T0:Txt0 K mg) (T1:Txt1 P w K mg base k) (hr:Room k (A.deeper (envOfC "are_names_alike" (Zc ZJ) s.heap.objs.size f cdv))) :
    Bd (cxOf CX0 P w K mg base ["some"] "are_names_alike" (Zc ZJ) f cdv A outer s H E).nox (Ze ZJ) (tS K (Z6 fns gv k) gv xr0 1 Qq):=by
 wtm_at "odzÙ00yDllB5nEFÊGx08";exact T1.f_name_of;wtm_at "401520iiC0y152000bc"
theorem Za7 (T0:Txt0 K mg) (T1:Txt1 P w K mg base k) (hr:Room k (A.deeper (envOfC "is_wish_in_way" (Zc ZM) s.heap.objs.size f cdv))) :
    Bd (cxOf CX0 P w K mg base ["some","i","j"] "is_wish_in_way" (Zc ZM) f cdv A outer s H E).nox (Ze ZM) (tS K (Z6 fns gv k) gv xr0 3 QB):=by
 wtm_at "od+zaebc!|8>4018";exact T1.f_wish_at;wtm_at "40151a20018";exact T1.f_card_at;wtm_at "40151e200200"
theorem ZaG (T0:Txt0 K mg) (T1:Txt1 P w K mg base k) (hr:Room k (A.deeper (envOfC "is_least_in_way" (Zc ZG) s.heap.objs.size f cdv))) :
    Bd (cxOf CX0 P w K mg base ["some","i","offer","left"] "is_least_in_way" (Zc ZG) f cdv A outer s H E).nox (Ze ZG) (tS K (Z6 fns gv k) gv xr0 4 Qa):=by
 wtm_at "o?i65a7";exact (QX 2 3 rfl JX.nd);wtm_at "dz~0,16e371m200008";exact T1.f_least_left;wtm_at "401520bc"
theorem ZbE (T0:Txt0 K mg) (T1:Txt1 P w K mg base k) (hr:Room k (A.deeper (envOfC "is_wish_shown" (Zc ZW) s.heap.objs.size f cdv))) :
    Bd (cxOf CX0 P w K mg base ["some","i","j","thing","last"] "is_wish_shown" (Zc ZW) f cdv A outer s H E).nox (Ze ZW) (tS K (Z6 fns gv k) gv xr0 5 Qp):=by
 wtm_at "oQ";exact Xz.nd;wtm_at "hC0y1520003kJRNH8Ë401a131w2000nUNH8Ë401e131w2000ndufd+8";exact T1.f_is_wish_in_way;wtm_at "40151a1e2000!8}4018";exact T1.f_wish_at;wtm_at "40151a20018";exact T1.f_card_at;wtm_at "40151e2001m2000"
theorem Zdc (T0:Txt0 K mg) (T1:Txt1 P w K mg base k) (hr:Room k (A.deeper (envOfC "none_shown" (Zc Qf) s.heap.objs.size f cdv))) :
    Bd (cxOf CX0 P w K mg base ["some","thing","word"] "none_shown" (Zc Qf) f cdv A outer s H E).nox (Ze Qf) (tS K (Z6 fns gv k) gv xr0 3 Qk):=by
 wtm_at "okJRNHWa0X0#YnUjC0y1a20003bcdufT";exact Zay.nd;wtm_at "6a37kJ$jC0y1a20003bc%H8À401e1g1920200nd8";exact T1.f_are_kinds_unlike;wtm_at "401520fkJ$jC0y1a20003bc%H8À401e1g1920200nd8";exact T1.f_are_names_alike;wtm_at "401520fkJ$jC0y1a20003bc%H8À401e1g1920200nd+8Ë4016a37131hC0y15200032000!8";exact T1.f_is_least_in_way;wtm_at "401516a37200fkJ$jC0y1a20003bc%H8À401e1g1920200nd8";exact T1.f_is_wish_shown;wtm_at "401516a3716a3716a3720000fdu"
theorem Ze9 (T0:Txt0 K mg) (T1:Txt1 P w K mg base k) (hr:Room k (A.deeper (envOfC "_law_cell_at" (Zc QW) s.heap.objs.size f cdv))) :
    Bd (cxOf CX0 P w K mg base ["_law_script","_law_k"] "_law_cell_at" (Zc QW) f cdv A outer s H E).nox (Ze QW) (tS K (Z6 fns gv k) gv xr0 2 JL):=by
 wtm_at "okjaC0y152000bcd65a7fd3"
theorem Zj3 (T0:Txt0 K mg) (T1:Txt1 P w K mg base k) (hr:Room k (A.deeper (envOfC "_law_tape" (Zc Xj) s.heap.objs.size f cdv))) :
    Bd (cxOf CX0 P w K mg base ["_law_cell"] "_law_tape" (Zc Xj) f cdv A outer s H E).nox (Ze Xj) (tS K (Z6 fns gv k) gv xr0 1 Zbk):=by
 wtm_at "odÌ1h5Á0=1z5h33bc20001h53132000"
theorem Zj8 (T0:Txt0 K mg) (T1:Txt1 P w K mg base k) (hr:Room k (A.deeper (envOfC "_law_draw" (Zc Xo) s.heap.objs.size f cdv))) :
    Bd (cxOf CX0 P w K mg base ["_law_tape_here","_law_many","_law_found","_law_number_here"] "_law_draw" (Zc Xo) f cdv A outer s H E).nox (Ze Xo) (tS K (Z6 fns gv k) gv xr0 4 Zbo):=by
 wtm_at "okj65373bcTÍh6537aÚh6537a53defÚh6537353ZÍhhhh6537h36537333ZÍhhmhhm333dhhhmhhm333a"
theorem Zj4 (T0:Txt0 K mg) (T1:Txt1 P w K mg base k) (hr:Room k (A.deeper (envOfC "_law_pick" (Zc Xk) s.heap.objs.size f cdv))) :
    Bd (cxOf CX0 P w K mg base ["_law_tape_here","_law_some"] "_law_pick" (Zc Xk) f cdv A outer s H E).nox (Ze Xk) (tS K (Z6 fns gv k) gv xr0 2 Zbl):=by
 wtm_at "od6a8A40151C0y1a20002007"
theorem Zj6 (T0:Txt0 K mg) (T1:Txt1 P w K mg base k) (hr:Room k (A.deeper (envOfC "_law_name" (Zc Xm) s.heap.objs.size f cdv))) :
    Bd (cxOf CX0 P w K mg base ["_law_k","_law_some"] "_law_name" (Zc Xm) f cdv A outer s H E).nox (Ze Xm) (tS K (Z6 fns gv k) gv xr0 2 Zbn):=by
 wtm_at "oÂ";exact ZfO.nd;wtm_at "t1919191919191919191919192000000000000d6ah537"
theorem ZgC (T0:Txt0 K mg) (T1:Txt1 P w K mg base k) (hr:Room k (A.deeper (envOfC "_law_number" (Zc Jf) s.heap.objs.size f cdv))) :
    Bd (cxOf CX0 P w K mg base ["_law_tape_here"] "_law_number" (Zc Jf) f cdv A outer s H E).nox (Ze Jf) (tS K (Z6 fns gv k) gv xr0 1 Xf):=by
 wtm_at "od6t18A40151320018A4015132001hh338A40151320020008A4015132007"
theorem Zj9 (T0:Txt0 K mg) (T1:Txt1 P w K mg base k) (hr:Room k (A.deeper (envOfC "_law_card" (Zc Xp) s.heap.objs.size f cdv))) :
    Bd (cxOf CX0 P w K mg base ["_law_tape_here","_law_name_here","_law_kind","_law_marks","_law_sizes"] "_law_card" (Zc Xp) f cdv A outer s H E).nox (Ze Xp) (tS K (Z6 fns gv k) gv xr0 5 Zbp):=by
 wtm_at "oZ";exact Zdb.nd;wtm_at "Ã0#1";refine Ji (N':=["_law_mark","_law_tape_here"]) ?_ ?_;wtm_at "0DllBt1919192000nEF";exact (Qi 0 (show List.Nodup (["_law_mark","_law_tape_here"]:List Str) from by decide +kernel));wtm_at "xj8A401a132003bcGx05ii2000Q";exact Zdb.nd;wtm_at "Ã0#1";refine Ji (N':=["_law_word","_law_tape_here"]) ?_ ?_;wtm_at "0DllBt1919200nEF";exact (Qi 0 (show List.Nodup (["_law_word","_law_tape_here"]:List Str) from by decide +kernel));wtm_at "xj8A401a132003bcGx0g1518Û401a20200ii2000dg1a1e1m1w20000"
theorem Zj2 (T0:Txt0 K mg) (T1:Txt1 P w K mg base k) (hr:Room k (A.deeper (envOfC "_law_wish" (Zc Xi) s.heap.objs.size f cdv))) :
    Bd (cxOf CX0 P w K mg base ["_law_tape_here","_law_deep","_law_way","_law_many"] "_law_wish" (Zc Xi) f cdv A outer s H E).nox (Ze Xi) (tS K (Z6 fns gv k) gv xr0 4 X5):=by
 wtm_at "oT";exact Zc9.nd;wtm_at "8A40151h3h3Á0=1za3bc2000200kje3bcdg1920fkje3bcdg1918@40151t1919191920000200200fkje3bcdg1918";exact T1.f_Lname;wtm_at "4018A40151320020200fkje3bcdg16t1919200he3718@40151t191919200020018Û4015202000fkje3bcdg1918Î40151ha3200200fZ";exact Zc9.nd;wtm_at "h38A401513200dg16t1919200he371Ã0#1";refine Ji (N':=["_law_k","_law_tape_here","_law_deep"]) ?_ ?_;wtm_at "0Dll&0(1m20nEF";exact (Qi 0 (show List.Nodup (["_law_k","_law_tape_here","_law_deep"]:List Str) from by decide +kernel));wtm_at "Gx08Î401a1he3200ii2000200"
theorem ZhR (T0:Txt0 K mg) (T1:Txt1 P w K mg base k) (hr:Room k (A.deeper (envOfC "_law_offer" (Zc JC) s.heap.objs.size f cdv))) :
    Bd (cxOf CX0 P w K mg base ["_law_tape_here","_law_side","_law_name_here","_law_kind","_law_till","_law_many","_law_least","_law_wish_here","_law_weight"] "_law_offer" (Zc JC) f cdv A outer s H E).nox (Ze JC) (tS K (Z6 fns gv k) gv xr0 9 Za1):=by
 wtm_at "o[Ä6t1h38A4015132001h38A4015132001h38A40151h3320020008A4015132007ÏÄ6t131h38A40151M2001M20008A4015132007]Ä6t1g192018Î4015132002008A4015132007ÐÄ6t18A40151320018A4015132002008A4015132007dg1a18";exact T1.f_Lcard;wtm_at "40151e1m20001v1M1S1I1w20000000"
theorem Zj7 (T0:Txt0 K mg) (T1:Txt1 P w K mg base k) (hr:Room k (A.deeper (envOfC "_law_lets" (Zc Xn) s.heap.objs.size f cdv))) :
    Bd (cxOf CX0 P w K mg base ["_law_wish_here","_law_card_here","_law_word","_law_numbers"] "_law_lets" (Zc Xn) f cdv A outer s H E).nox (Ze Xn) (tS K (Z6 fns gv k) gv xr0 4 J5):=by
 wtm_at "oT";exact Zda.nd;wtm_at "6537kje9bcdufkje9bcdz65376a37bcfkje9bcdz6a376537bcfkje9bcd|8)40165371a200fkje9bcdzÜ0DllB6537nEFÝxNH8)40151a200nGx05iit2bcfkje9bcdzÜ0DllB6537nEFÝxH8)40151a200nGx05iit2bcf";refine ZfS (N':=["_law_size","_law_number_here","_law_wish_here"]) ?_ ?_ ?_ ?_ ?_ ?_ ?_;wtm_at "0DllB6a37nEF";exact (QX 0 1 rfl (show List.Nodup (["_law_size","_law_number_here","_law_wish_here"]:List Str) from by decide +kernel));wtm_at "xj56e37bcGx0aii";exact Zda.nd;wtm_at "000kjmt2bcdufd6t1z6m376537bc1z6m376537bc200Á0=1ze9bc20007"
theorem Zj5 (T0:Txt0 K mg) (T1:Txt1 P w K mg base k) (hr:Room k (A.deeper (envOfC "_law_part" (Zc Xl) s.heap.objs.size f cdv))) :
    Bd (cxOf CX0 P w K mg base ["_law_some","_law_names","_law_offer_here","_law_left","_law_other","_law_more","_law_many"] "_law_part" (Zc Xl) f cdv A outer s H E).nox (Ze Xl) (tS K (Z6 fns gv k) gv xr0 7 Zbm):=by
 wtm_at "o";refine ZfS (N':=["_law_offer_here","_law_left"]) ?_ ?_ ?_ ?_ ?_ ?_ ?_;wtm_at "0DllB5nEF/Gx06653737ii";exact ZaA.nd;wtm_at "000kJRjÅ00y0Æ1^0DllB5nEF/Gx06653737ii203bcUjÅ00y0Æ1a20C0y1a2000bcd3fO0PB5";exact (QX 2 3 rfl ZaA.nd);wtm_at "iO0PB5";exact (QX 4 5 rfl ZaA.nd);wtm_at "ikJ$j6w376e37bc%NH8)4016e3716w37200nd3fffÏ";exact ZaA.nd;wtm_at "É0,1^0DllB5nEF/Gx0aii2000kj";refine Ji (N':=["_law_offer_here","_law_left","_law_many"]) ?_ ?_;wtm_at "0DllB5nEF";exact (QX 0 1 rfl (show List.Nodup (["_law_offer_here","_law_left","_law_many"]:List Str) from by decide +kernel));wtm_at "xje~0,165371a20000bcGx03iit2bcd3fdS"
theorem Zmi (T0:Txt0 K mg) (T1:Txt1 P w K mg base k) (hr:Room k (A.deeper (envOfC "_law_set" (Zc ZaC) s.heap.objs.size f cdv))) :
    Bd (cxOf CX0 P w K mg base ["_law_tape_here","_law_found","_law_turn","_law_k","_law_side","_law_kind","_law_name_here","_law_offer_here","_law_left"] "_law_set" (Zc ZaC) f cdv A outer s H E).nox (Ze ZaC) (tS K (Z6 fns gv k) gv xr0 9 ZcY):=by
 wtm_at "oÂ:Ì2T:8A401513200O0P";refine Zke ?_ ?_ ?_;wtm_at "0";exact T0.b_enumerate;wtm_at "1";refine PE.tree ?_;wtm_at "-t1919192000;*h38A401513200020";exact (QX 3 4 rfl Ze2.nd);wtm_at "i[:6t1919200h8A40151320037Ï:8";exact T1.f_Lname;wtm_at "401hehmÁ0=1z8A4015132003bc200020]:8";exact T1.f_Loffer;wtm_at "40151w1S1M18A40151h33200200000Ð:6t16v371h38A401516v372001h38A40151~0,1316v372000020020008A4015132007_`a1g1v1I20020fda"
theorem Zmj (T0:Txt0 K mg) (T1:Txt1 P w K mg base k) (hr:Room k (A.deeper (envOfC "_law_any" (Zc ZaD) s.heap.objs.size f cdv))) :
    Bd (cxOf CX0 P w K mg base ["_law_tape_here","_law_wish_here","_law_card_here","_law_truth","_law_at"] "_law_any" (Zc ZaD) f cdv A outer s H E).nox (Ze ZaD) (tS K (Z6 fns gv k) gv xr0 5 Zaj):=by
 wtm_at "oZ";exact Ze4.nd;wtm_at "8)401a1e200kj6a379bcdg1m18{401516a371e2000200fkj6a37g1919200bcdg1m1L200fkjmz6a379bcbcdg1m1Ã0#1";refine Ji (N':=["_law_one","_law_tape_here","_law_card_here"]) ?_ ?_;wtm_at "0DllB6a37nEF";exact (Qi 0 (show List.Nodup (["_law_one","_law_tape_here","_law_card_here"]:List Str) from by decide +kernel));wtm_at "Gx08{401a151e2000ii2000200fQ";exact Ze4.nd;wtm_at "8@40151";refine Ji (N':=["_law_k","_law_truth","_law_card_here","_law_wish_here"]) ?_ ?_;wtm_at "0Dll&0(1C0y16a37200020nEF";exact (Qi 0 (show List.Nodup (["_law_k","_law_truth","_law_card_here","_law_wish_here"]:List Str) from by decide +kernel));wtm_at "xj8)40166m37571e200abcGx05ii200dg1m1g1w18{4015166a37w71e2000200200"
theorem Zmk (T0:Txt0 K mg) (T1:Txt1 P w K mg base k) (hr:Room k (A.deeper (envOfC "_law_all" (Zc ZaE) s.heap.objs.size f cdv))) :
    Bd (cxOf CX0 P w K mg base ["_law_tape_here","_law_some","_law_found","_law_many","_law_i","_law_offer_here","_law_left","_law_j"] "_law_all" (Zc ZaE) f cdv A outer s H E).nox (Ze ZaE) (tS K (Z6 fns gv k) gv xr0 8 ZcZ):=by
 wtm_at "oT";exact Za6.nd;wtm_at "Ì2kjÅ00y0Æ1^0DllBanEF/Gx06653737ii203bc_`e1g192020ffkjÅ00y0Æ1^0DllBanEF/Gx06653737ii20C0y1a2000bc_`e1g192020ffZ";exact Za6.nd;wtm_at "É0,1^0DllBanEF/Gx0aii2000O0P&0(1C0y1a200020";exact (Qi 4 Za6.nd);wtm_at "i?i6aw7";exact (QX 5 6 rfl Za6.nd);wtm_at "kjm~0,16M371S20000bc_`e1g191w20020ffO0P&0(1C0y1a200020";exact (Qi 7 Za6.nd);wtm_at "ikJ$jwvbc%NH8)4016M371666av73737200n_`e1g191w1v18{401516M371666av7373720002000020ffffde"
theorem Zd5 (T0:Txt0 K mg) (T1:Txt1 P w K mg base k) (hr:Room k (A.deeper (envOfC "_law_is_shown" (Zc Qx) s.heap.objs.size f cdv))) :
    Bd (cxOf CX0 P w K mg base ["_law_some","_law_thing","_law_found"] "_law_is_shown" (Zc Qx) f cdv A outer s H E).nox (Ze Qx) (tS K (Z6 fns gv k) gv xr0 3 Jm):=by
 wtm_at "oT";exact Zbu.nd;wtm_at "8";exact T1.f_none_shown;wtm_at "40151a200kNHWe0X0ÈYndLfde"
theorem ZhQ (T0:Txt0 K mg) (T1:Txt1 P w K mg base k) (hr:Room k (A.deeper (envOfC "_law_tower" (Zc JB) s.heap.objs.size f cdv))) :
    Bd (cxOf CX0 P w K mg base ["_law_many","_law_found","_law_k"] "_law_tower" (Zc JB) f cdv A outer s H E).nox (Ze JB) (tS K (Z6 fns gv k) gv xr0 3 Zab):=by
 wtm_at "oÂÞg1u1L200O0P&0(1520";exact (Qi 2 ZbV.nd);wtm_at "iÂÞg1u1a200fda"
theorem ZgB (T0:Txt0 K mg) (T1:Txt1 P w K mg base k) (hr:Room k (A.deeper (envOfC "_law_others" (Zc Je) s.heap.objs.size f cdv))) :
    Bd (cxOf CX0 P w K mg base ["_law_tape_here","_law_some","_law_thing","_law_many","_law_found","_law_odd","_law_word","_law_i","_law_j","_law_told"] "_law_others" (Zc Je) f cdv A outer s H E).nox (Ze Je) (tS K (Z6 fns gv k) gv xr0 10 Jt):=by
 wtm_at "oZVC0y1a2000QVt1Ñ0Ò1e20001heg1L201-e;*Ó301hg1h6e37920-e*30;1hg1L20-e*30;1g1e202000000kj6e379bc[Vt1Ó31m1u1u1L191g13201hm31h6e37m2000000000QVhw";refine Ji (N':=["_law_at"]) ?_ ?_;wtm_at "0DllBMnEF";exact (Qi 0 (show List.Nodup (["_law_at"]:List Str) from by decide +kernel));wtm_at "Gx0g1915200iiffkj6e379bc?ie";exact (Zkf 6 7 8 9 rfl Za5.nd);wtm_at "QVhwt1g191v1v1K200001g191I1I1K200001g191v1m1K200001g191Ó31I1K2000020000QVhwt1g191hvm1I1K200001g191v1hIm1K200001g191v1L1K200002000QVhwt1g191v1I1hg1u20-K*30;200001g191v1I1hg1320-K*30;200001g191v1I1L200002000QVhwt1g191v1I1Ñ0Ò1K2000200001g191v1I1hKg1L20200001g191t1v201I1K200002000QVhwt1g191v1I1g1u1g1g21g2200200200001g191";refine Zkg ?_ ?_ ?_ ?_ ?_;wtm_at "0";exact T0.b_str;wtm_at "1v20001I1K200001g191I1v20002000QVhwt1g191zv3bc1I1K200001g191v1zI3bc1K20000200ffd8@40151w200"
theorem ZbY (T0:Txt0 K mg) (T1:Txt1 P w K mg base k) (hr:Room k (A.deeper (envOfC "_law_words_right" (Zc Z1) s.heap.objs.size f cdv))) :
    Bd (cxOf CX0 P w K mg base ["_law_tape_here","_law_some","_law_shown","_law_words","_law_thing","_law_found","_law_i","_law_j","_law_both_let","_law_told"] "_law_words_right" (Zc Z1) f cdv A outer s H E).nox (Ze Z1) (tS K (Z6 fns gv k) gv xr0 10 QF):=by
 wtm_at "oZÇht1g19201g1920200";refine Ji (N':=["_law_k"]) ?_ ?_;wtm_at "0Dll&0(1C0y1a200020nEF";exact (Qi 0 (show List.Nodup (["_law_k"]:List Str) from by decide +kernel));wtm_at "Gx0g1915200iiO0PBm";exact (Qi 4 QM.nd);wtm_at "i[Ç8<401a1w200kJRjMLbcUjMzwebcbcduffO0P&0(1C0y1a200020";exact (Qi 6 QM.nd);wtm_at "iO0P&0(1C0y1a200020";exact (Qi 7 QM.nd);wtm_at "iÐÇ";refine pe_orW ?_ ?_;wtm_at "zSvbc!8)401666aS737371666av73737200";refine sg (i:=9) ?_ ?_ ?_;wtm_at "Ç8{40151666aS737371666av737372000kJ$HIn%j8<401a1g191S1v1g1u1L20020000200ubcdufkJ$HIn%j8<401a1g191S1v1K20000200ubcdufffdu"
theorem Zlz (T0:Txt0 K mg) (T1:Txt1 P w K mg base k) (hr:Room k (A.deeper (envOfC "law" (Zc ZbD) s.heap.objs.size f cdv))) :
    Bd (cxOf CX0 P w K mg base ["_law_script","_law_cell","_law_tape_here","_law_some","_law_kept","_law_shown","_law_thing","_law_odd"] "law" (Zc ZbD) f cdv A outer s H E).nox (Ze ZbD) (tS K (Z6 fns gv k) gv xr0 8 ZfA):=by
 wtm_at "oO0PBht18";exact T1.f_Lcell_at;wtm_at "40151320020-5*30*30";exact (Qi 1 ZdW.nd);wtm_at "iT.8";exact T1.f_Ltape;wtm_at "401a20Z.8";exact T1.f_Lset;wtm_at "401e20Q.Ñ0Ò1m2000[.8";exact T1.f_Lall;wtm_at "401e1m200O0PBM";exact (Qi 6 ZdW.nd);wtm_at "ikj8<401m1S200ubcdufkj8<401m18";exact T1.f_Lothers;wtm_at "401e1m1S2000200ubcduff].t1L1g2191t19201g19201g19132001g1920131u1";exact Zkk;wtm_at "1g19201g13202000000000000].hvt18Ô4013201g19131318Ô401320200001g1918Ô4013202002000].8@401e1v200kJRj8<401m1v200ubcRNH8";exact T1.f_Lwords_right;wtm_at "401e1m1M2000nUjmwbcdufkjzMt2bcz8";exact T1.f_Lpart;wtm_at "401m203bcbcduffdu"
end
structure TxtF (K:PySem.W.Frag) (mg:Str→Option Value):Prop where
  f_is_whole:∃ f fd,Fun K "is_whole" "is_whole" QT f fd∧mg "is_whole" = some (.ref f)∧Binds K fd ["thing"] []
  f_has_mark:∃ f fd,Fun K "has_mark" "has_mark" QV f fd∧mg "has_mark" = some (.ref f)∧Binds K fd ["card","word"] []
  f_size_of:∃ f fd,Fun K "size_of" "size_of" Ja f fd∧mg "size_of" = some (.ref f)∧Binds K fd ["card","word"] []
  f_is_one_of:∃ f fd,Fun K "is_one_of" "is_one_of" Qw f fd∧mg "is_one_of" = some (.ref f)∧Binds K fd ["thing","texts"] []
  f_lets:∃ f fd,Fun K "lets" "lets" ZaB f fd∧mg "lets" = some (.ref f)∧Binds K fd ["wish","card"] []
  f_lets_size:∃ f fd,Fun K "lets_size" "lets_size" Qv f fd∧mg "lets_size" = some (.ref f)∧Binds K fd ["wish","card"] []
  f_shows:∃ f fd,Fun K "shows" "shows" Xh f fd∧mg "shows" = some (.ref f)∧Binds K fd ["wish","card","thing"] []
  f_shows_one:∃ f fd,Fun K "shows_one" "shows_one" Qt f fd∧mg "shows_one" = some (.ref f)∧Binds K fd ["wishes","card","truth","thing"] []
  f_shows_all:∃ f fd,Fun K "shows_all" "shows_all" Qu f fd∧mg "shows_all" = some (.ref f)∧Binds K fd ["wishes","card","thing"] []
  f_is_between:∃ f fd,Fun K "is_between" "is_between" Qh f fd∧mg "is_between" = some (.ref f)∧Binds K fd ["thing","low","high"] []
  f_name_of:∃ f fd,Fun K "name_of" "name_of" Jb f fd∧mg "name_of" = some (.ref f)∧Binds K fd ["offer"] []
  f_kind_of:∃ f fd,Fun K "kind_of" "kind_of" Jc f fd∧mg "kind_of" = some (.ref f)∧Binds K fd ["offer"] []
  f_wish_at:∃ f fd,Fun K "wish_at" "wish_at" Q9 f fd∧mg "wish_at" = some (.ref f)∧Binds K fd ["some","place"] []
  f_card_at:∃ f fd,Fun K "card_at" "card_at" Jd f fd∧mg "card_at" = some (.ref f)∧Binds K fd ["some","place"] []
  f_least_left:∃ f fd,Fun K "least_left" "least_left" Qg f fd∧mg "least_left" = some (.ref f)∧Binds K fd ["some"] []
  f_are_kinds_unlike:∃ f fd,Fun K "are_kinds_unlike" "are_kinds_unlike" ZF f fd∧mg "are_kinds_unlike" = some (.ref f)∧Binds K fd ["some"] []
  f_are_names_alike:∃ f fd,Fun K "are_names_alike" "are_names_alike" ZJ f fd∧mg "are_names_alike" = some (.ref f)∧Binds K fd ["some"] []
  f_is_wish_in_way:∃ f fd,Fun K "is_wish_in_way" "is_wish_in_way" ZM f fd∧mg "is_wish_in_way" = some (.ref f)∧Binds K fd ["some","i","j"] []
  f_is_least_in_way:∃ f fd,Fun K "is_least_in_way" "is_least_in_way" ZG f fd∧mg "is_least_in_way" = some (.ref f)∧Binds K fd ["some","i"] []
  f_is_wish_shown:∃ f fd,Fun K "is_wish_shown" "is_wish_shown" ZW f fd∧mg "is_wish_shown" = some (.ref f)∧Binds K fd ["some","i","j","thing"] []
  f_none_shown:∃ f fd,Fun K "none_shown" "none_shown" Qf f fd∧mg "none_shown" = some (.ref f)∧Binds K fd ["some","thing"] []
  f_Lcell_at:∃ f fd,Fun K "_law_cell_at" "_law_cell_at" QW f fd∧mg "_law_cell_at" = some (.ref f)∧Binds K fd ["_law_script","_law_k"] []
  f_Ltape:∃ f fd,Fun K "_law_tape" "_law_tape" Xj f fd∧mg "_law_tape" = some (.ref f)∧Binds K fd ["_law_cell"] []
  f_Ldraw:∃ f fd,Fun K "_law_draw" "_law_draw" Xo f fd∧mg "_law_draw" = some (.ref f)∧Binds K fd ["_law_tape_here","_law_many"] []
  f_Lpick:∃ f fd,Fun K "_law_pick" "_law_pick" Xk f fd∧mg "_law_pick" = some (.ref f)∧Binds K fd ["_law_tape_here","_law_some"] []
  f_Lname:∃ f fd,Fun K "_law_name" "_law_name" Xm f fd∧mg "_law_name" = some (.ref f)∧Binds K fd ["_law_k"] []
  f_Lnumber:∃ f fd,Fun K "_law_number" "_law_number" Jf f fd∧mg "_law_number" = some (.ref f)∧Binds K fd ["_law_tape_here"] []
  f_Lcard:∃ f fd,Fun K "_law_card" "_law_card" Xp f fd∧mg "_law_card" = some (.ref f)∧Binds K fd ["_law_tape_here","_law_name_here","_law_kind"] []
  f_Lwish:∃ f fd,Fun K "_law_wish" "_law_wish" Xi f fd∧mg "_law_wish" = some (.ref f)∧Binds K fd ["_law_tape_here","_law_deep"] []
  f_Loffer:∃ f fd,Fun K "_law_offer" "_law_offer" JC f fd∧mg "_law_offer" = some (.ref f)∧Binds K fd ["_law_tape_here","_law_side","_law_name_here","_law_kind","_law_till"] []
  f_Llets:∃ f fd,Fun K "_law_lets" "_law_lets" Xn f fd∧mg "_law_lets" = some (.ref f)∧Binds K fd ["_law_wish_here","_law_card_here"] []
  f_Lpart:∃ f fd,Fun K "_law_part" "_law_part" Xl f fd∧mg "_law_part" = some (.ref f)∧Binds K fd ["_law_some"] []
  f_Lset:∃ f fd,Fun K "_law_set" "_law_set" ZaC f fd∧mg "_law_set" = some (.ref f)∧Binds K fd ["_law_tape_here"] []
  f_Lany:∃ f fd,Fun K "_law_any" "_law_any" ZaD f fd∧mg "_law_any" = some (.ref f)∧Binds K fd ["_law_tape_here","_law_wish_here","_law_card_here"] []
  f_Lall:∃ f fd,Fun K "_law_all" "_law_all" ZaE f fd∧mg "_law_all" = some (.ref f)∧Binds K fd ["_law_tape_here","_law_some"] []
  f_Lis_shown:∃ f fd,Fun K "_law_is_shown" "_law_is_shown" Qx f fd∧mg "_law_is_shown" = some (.ref f)∧Binds K fd ["_law_some","_law_thing"] []
  f_Ltower:∃ f fd,Fun K "_law_tower" "_law_tower" JB f fd∧mg "_law_tower" = some (.ref f)∧Binds K fd ["_law_many"] []
  f_Lothers:∃ f fd,Fun K "_law_others" "_law_others" Je f fd∧mg "_law_others" = some (.ref f)∧Binds K fd ["_law_tape_here","_law_some","_law_thing"] []
  f_Lwords_right:∃ f fd,Fun K "_law_words_right" "_law_words_right" Z1 f fd∧mg "_law_words_right" = some (.ref f)∧Binds K fd ["_law_tape_here","_law_some","_law_shown"] []
  f_law:∃ f fd,Fun K "law" "law" ZbD f fd∧mg "law" = some (.ref f)∧Binds K fd ["_law_script"] []
theorem Zff {P:Program} {w:World} {K:PySem.W.Frag} {mg:Str→Option Value} {base:Heap} {k:Nat} (T0:Txt0 K mg) (TF:TxtF K mg) (ih:Txt1 P w K mg base k):FOk P w K mg base fns gv (k + 1) "is_whole" 0:=by
 obtain ⟨f,fd,F,m,b⟩:=TF.f_is_whole;wtm_at "p";refine ZQ (fi:=0) (np:=1) (n:=1) (body:=JH) (cell:=false) F Ze0 ?_ ?_ ?_ ?_;wtm_at "000q";refine Ze7 ?_ ?_ ?_;wtm_at "rs4"
theorem Zfg {P:Program} {w:World} {K:PySem.W.Frag} {mg:Str→Option Value} {base:Heap} {k:Nat} (T0:Txt0 K mg) (TF:TxtF K mg) (ih:Txt1 P w K mg base k):FOk P w K mg base fns gv (k + 1) "has_mark" 1:=by
 obtain ⟨f,fd,F,m,b⟩:=TF.f_has_mark;wtm_at "p";refine ZQ (fi:=1) (np:=2) (n:=2) (body:=JK) (cell:=false) F Ze1 ?_ ?_ ?_ ?_;wtm_at "000q";refine Ze8 ?_ ?_ ?_;wtm_at "rs4"
theorem ZgQ {P:Program} {w:World} {K:PySem.W.Frag} {mg:Str→Option Value} {base:Heap} {k:Nat} (T0:Txt0 K mg) (TF:TxtF K mg) (ih:Txt1 P w K mg base k):FOk P w K mg base fns gv (k + 1) "size_of" 2:=by
 obtain ⟨f,fd,F,m,b⟩:=TF.f_size_of;wtm_at "p";refine ZQ (fi:=2) (np:=2) (n:=4) (body:=Xe) (cell:=false) F ZcH ?_ ?_ ?_ ?_;wtm_at "000q";refine Zgx ?_ ?_ ?_;wtm_at "rs4"
theorem Zee {P:Program} {w:World} {K:PySem.W.Frag} {mg:Str→Option Value} {base:Heap} {k:Nat} (T0:Txt0 K mg) (TF:TxtF K mg) (ih:Txt1 P w K mg base k):FOk P w K mg base fns gv (k + 1) "is_one_of" 3:=by
 obtain ⟨f,fd,F,m,b⟩:=TF.f_is_one_of;wtm_at "p";refine ZQ (fi:=3) (np:=2) (n:=2) (body:=Jl) (cell:=false) F ZdX ?_ ?_ ?_ ?_;wtm_at "000q";refine Zd4 ?_ ?_ ?_;wtm_at "rs4"
theorem ZmS {P:Program} {w:World} {K:PySem.W.Frag} {mg:Str→Option Value} {base:Heap} {k:Nat} (T0:Txt0 K mg) (TF:TxtF K mg) (ih:Txt1 P w K mg base k):FOk P w K mg base fns gv (k + 1) "lets" 4:=by
 obtain ⟨f,fd,F,m,b⟩:=TF.f_lets;wtm_at "p";refine ZQ (fi:=4) (np:=2) (n:=3) (body:=Zai) (cell:=false) F ZhM ?_ ?_ ?_ ?_;wtm_at "000q";refine Zmg ?_ ?_ ?_;wtm_at "rs4"
theorem Zed {P:Program} {w:World} {K:PySem.W.Frag} {mg:Str→Option Value} {base:Heap} {k:Nat} (T0:Txt0 K mg) (TF:TxtF K mg) (ih:Txt1 P w K mg base k):FOk P w K mg base fns gv (k + 1) "lets_size" 5:=by
 obtain ⟨f,fd,F,m,b⟩:=TF.f_lets_size;wtm_at "p";refine ZQ (fi:=5) (np:=2) (n:=3) (body:=Jk) (cell:=false) F Zbt ?_ ?_ ?_ ?_;wtm_at "000q";refine Zd3 ?_ ?_ ?_;wtm_at "rs4"
theorem Zku {P:Program} {w:World} {K:PySem.W.Frag} {mg:Str→Option Value} {base:Heap} {k:Nat} (T0:Txt0 K mg) (TF:TxtF K mg) (ih:Txt1 P w K mg base k):FOk P w K mg base fns gv (k + 1) "shows" 6:=by
 obtain ⟨f,fd,F,m,b⟩:=TF.f_shows;wtm_at "p";refine ZQ (fi:=6) (np:=3) (n:=5) (body:=QS) (cell:=false) F ZfN ?_ ?_ ?_ ?_;wtm_at "000q";refine Zj1 ?_ ?_ ?_;wtm_at "rs4"
theorem Zeb {P:Program} {w:World} {K:PySem.W.Frag} {mg:Str→Option Value} {base:Heap} {k:Nat} (T0:Txt0 K mg) (TF:TxtF K mg) (ih:Txt1 P w K mg base k):FOk P w K mg base fns gv (k + 1) "shows_one" 7:=by
 obtain ⟨f,fd,F,m,b⟩:=TF.f_shows_one;wtm_at "p";refine ZQ (fi:=7) (np:=4) (n:=6) (body:=Z0) (cell:=false) F Zbs ?_ ?_ ?_ ?_;wtm_at "000q";refine Zd1 ?_ ?_ ?_;wtm_at "rs4"
theorem Zec {P:Program} {w:World} {K:PySem.W.Frag} {mg:Str→Option Value} {base:Heap} {k:Nat} (T0:Txt0 K mg) (TF:TxtF K mg) (ih:Txt1 P w K mg base k):FOk P w K mg base fns gv (k + 1) "shows_all" 8:=by
 obtain ⟨f,fd,F,m,b⟩:=TF.f_shows_all;wtm_at "p";refine ZQ (fi:=8) (np:=3) (n:=3) (body:=Qm) (cell:=false) F ZdV ?_ ?_ ?_ ?_;wtm_at "000q";refine Zd2 ?_ ?_ ?_;wtm_at "rs4"
theorem Zdk {P:Program} {w:World} {K:PySem.W.Frag} {mg:Str→Option Value} {base:Heap} {k:Nat} (T0:Txt0 K mg) (TF:TxtF K mg) (ih:Txt1 P w K mg base k):FOk P w K mg base fns gv (k + 1) "is_between" 9:=by
 obtain ⟨f,fd,F,m,b⟩:=TF.f_is_between;wtm_at "p";refine ZQ (fi:=9) (np:=3) (n:=3) (body:=Q8) (cell:=false) F Zc8 ?_ ?_ ?_ ?_;wtm_at "000q";refine Zde ?_ ?_ ?_;wtm_at "rs4"
theorem ZgR {P:Program} {w:World} {K:PySem.W.Frag} {mg:Str→Option Value} {base:Heap} {k:Nat} (T0:Txt0 K mg) (TF:TxtF K mg) (ih:Txt1 P w K mg base k):FOk P w K mg base fns gv (k + 1) "name_of" 10:=by
 obtain ⟨f,fd,F,m,b⟩:=TF.f_name_of;wtm_at "p";refine ZQ (fi:=10) (np:=1) (n:=1) (body:=XX) (cell:=false) F Zgr ?_ ?_ ?_ ?_;wtm_at "000q";refine Zgy ?_ ?_ ?_;wtm_at "rs4"
theorem ZgS {P:Program} {w:World} {K:PySem.W.Frag} {mg:Str→Option Value} {base:Heap} {k:Nat} (T0:Txt0 K mg) (TF:TxtF K mg) (ih:Txt1 P w K mg base k):FOk P w K mg base fns gv (k + 1) "kind_of" 11:=by
 obtain ⟨f,fd,F,m,b⟩:=TF.f_kind_of;wtm_at "p";refine ZQ (fi:=11) (np:=1) (n:=1) (body:=X3) (cell:=false) F Zgs ?_ ?_ ?_ ?_;wtm_at "000q";refine Zgz ?_ ?_ ?_;wtm_at "rs4"
theorem ZgP {P:Program} {w:World} {K:PySem.W.Frag} {mg:Str→Option Value} {base:Heap} {k:Nat} (T0:Txt0 K mg) (TF:TxtF K mg) (ih:Txt1 P w K mg base k):FOk P w K mg base fns gv (k + 1) "wish_at" 12:=by
 obtain ⟨f,fd,F,m,b⟩:=TF.f_wish_at;wtm_at "p";refine ZQ (fi:=12) (np:=2) (n:=2) (body:=XS) (cell:=false) F Zgq ?_ ?_ ?_ ?_;wtm_at "000q";refine Zgw ?_ ?_ ?_;wtm_at "rs4"
theorem ZgT {P:Program} {w:World} {K:PySem.W.Frag} {mg:Str→Option Value} {base:Heap} {k:Nat} (T0:Txt0 K mg) (TF:TxtF K mg) (ih:Txt1 P w K mg base k):FOk P w K mg base fns gv (k + 1) "card_at" 13:=by
 obtain ⟨f,fd,F,m,b⟩:=TF.f_card_at;wtm_at "p";refine ZQ (fi:=13) (np:=2) (n:=2) (body:=X4) (cell:=false) F Zgt ?_ ?_ ?_ ?_;wtm_at "000q";refine ZgA ?_ ?_ ?_;wtm_at "rs4"
theorem Zdj {P:Program} {w:World} {K:PySem.W.Frag} {mg:Str→Option Value} {base:Heap} {k:Nat} (T0:Txt0 K mg) (TF:TxtF K mg) (ih:Txt1 P w K mg base k):FOk P w K mg base fns gv (k + 1) "least_left" 14:=by
 obtain ⟨f,fd,F,m,b⟩:=TF.f_least_left;wtm_at "p";refine ZQ (fi:=14) (np:=1) (n:=1) (body:=Js) (cell:=false) F Zc7 ?_ ?_ ?_ ?_;wtm_at "000q";refine Zdd ?_ ?_ ?_;wtm_at "rs4"
theorem Zan {P:Program} {w:World} {K:PySem.W.Frag} {mg:Str→Option Value} {base:Heap} {k:Nat} (T0:Txt0 K mg) (TF:TxtF K mg) (ih:Txt1 P w K mg base k):FOk P w K mg base fns gv (k + 1) "are_kinds_unlike" 15:=by
 obtain ⟨f,fd,F,m,b⟩:=TF.f_are_kinds_unlike;wtm_at "p";refine ZQ (fi:=15) (np:=1) (n:=1) (body:=Ql) (cell:=false) F Zak ?_ ?_ ?_ ?_;wtm_at "000q";refine Zal ?_ ?_ ?_;wtm_at "rs4"
theorem ZaJ {P:Program} {w:World} {K:PySem.W.Frag} {mg:Str→Option Value} {base:Heap} {k:Nat} (T0:Txt0 K mg) (TF:TxtF K mg) (ih:Txt1 P w K mg base k):FOk P w K mg base fns gv (k + 1) "are_names_alike" 16:=by
 obtain ⟨f,fd,F,m,b⟩:=TF.f_are_names_alike;wtm_at "p";refine ZQ (fi:=16) (np:=1) (n:=1) (body:=Qq) (cell:=false) F Zaz ?_ ?_ ?_ ?_;wtm_at "000q";refine ZaH ?_ ?_ ?_;wtm_at "rs4"
theorem Zbb {P:Program} {w:World} {K:PySem.W.Frag} {mg:Str→Option Value} {base:Heap} {k:Nat} (T0:Txt0 K mg) (TF:TxtF K mg) (ih:Txt1 P w K mg base k):FOk P w K mg base fns gv (k + 1) "is_wish_in_way" 17:=by
 obtain ⟨f,fd,F,m,b⟩:=TF.f_is_wish_in_way;wtm_at "p";refine ZQ (fi:=17) (np:=3) (n:=3) (body:=QB) (cell:=false) F Za4 ?_ ?_ ?_ ?_;wtm_at "000q";refine Za7 ?_ ?_ ?_;wtm_at "rs4"
theorem ZaI {P:Program} {w:World} {K:PySem.W.Frag} {mg:Str→Option Value} {base:Heap} {k:Nat} (T0:Txt0 K mg) (TF:TxtF K mg) (ih:Txt1 P w K mg base k):FOk P w K mg base fns gv (k + 1) "is_least_in_way" 18:=by
 obtain ⟨f,fd,F,m,b⟩:=TF.f_is_least_in_way;wtm_at "p";refine ZQ (fi:=18) (np:=2) (n:=4) (body:=Qa) (cell:=false) F JX ?_ ?_ ?_ ?_;wtm_at "000q";refine ZaG ?_ ?_ ?_;wtm_at "rs4"
theorem ZbF {P:Program} {w:World} {K:PySem.W.Frag} {mg:Str→Option Value} {base:Heap} {k:Nat} (T0:Txt0 K mg) (TF:TxtF K mg) (ih:Txt1 P w K mg base k):FOk P w K mg base fns gv (k + 1) "is_wish_shown" 19:=by
 obtain ⟨f,fd,F,m,b⟩:=TF.f_is_wish_shown;wtm_at "p";refine ZQ (fi:=19) (np:=4) (n:=5) (body:=Qp) (cell:=false) F Xz ?_ ?_ ?_ ?_;wtm_at "000q";refine ZbE ?_ ?_ ?_;wtm_at "rs4"
theorem Zdi {P:Program} {w:World} {K:PySem.W.Frag} {mg:Str→Option Value} {base:Heap} {k:Nat} (T0:Txt0 K mg) (TF:TxtF K mg) (ih:Txt1 P w K mg base k):FOk P w K mg base fns gv (k + 1) "none_shown" 20:=by
 obtain ⟨f,fd,F,m,b⟩:=TF.f_none_shown;wtm_at "p";refine ZQ (fi:=20) (np:=2) (n:=3) (body:=Qk) (cell:=false) F Zay ?_ ?_ ?_ ?_;wtm_at "000q";refine Zdc ?_ ?_ ?_;wtm_at "rs4"
theorem Zfh {P:Program} {w:World} {K:PySem.W.Frag} {mg:Str→Option Value} {base:Heap} {k:Nat} (T0:Txt0 K mg) (TF:TxtF K mg) (ih:Txt1 P w K mg base k):FOk P w K mg base fns gv (k + 1) "_law_cell_at" 21:=by
 obtain ⟨f,fd,F,m,b⟩:=TF.f_Lcell_at;wtm_at "p";refine ZQ (fi:=21) (np:=2) (n:=2) (body:=JL) (cell:=false) F Ze3 ?_ ?_ ?_ ?_;wtm_at "000q";refine Ze9 ?_ ?_ ?_;wtm_at "rs4"
theorem Zkw {P:Program} {w:World} {K:PySem.W.Frag} {mg:Str→Option Value} {base:Heap} {k:Nat} (T0:Txt0 K mg) (TF:TxtF K mg) (ih:Txt1 P w K mg base k):FOk P w K mg base fns gv (k + 1) "_law_tape" 22:=by
 obtain ⟨f,fd,F,m,b⟩:=TF.f_Ltape;wtm_at "p";refine ZQ (fi:=22) (np:=1) (n:=1) (body:=Zbk) (cell:=true) F ZjP ?_ ?_ ?_ ?_;wtm_at "000q";refine Zj3 ?_ ?_ ?_;wtm_at "rs4"
theorem ZkB {P:Program} {w:World} {K:PySem.W.Frag} {mg:Str→Option Value} {base:Heap} {k:Nat} (T0:Txt0 K mg) (TF:TxtF K mg) (ih:Txt1 P w K mg base k):FOk P w K mg base fns gv (k + 1) "_law_draw" 23:=by
 obtain ⟨f,fd,F,m,b⟩:=TF.f_Ldraw;wtm_at "p";refine ZQ (fi:=23) (np:=2) (n:=4) (body:=Zbo) (cell:=false) F ZfP ?_ ?_ ?_ ?_;wtm_at "000q";refine Zj8 ?_ ?_ ?_;wtm_at "rs4"
theorem Zkx {P:Program} {w:World} {K:PySem.W.Frag} {mg:Str→Option Value} {base:Heap} {k:Nat} (T0:Txt0 K mg) (TF:TxtF K mg) (ih:Txt1 P w K mg base k):FOk P w K mg base fns gv (k + 1) "_law_pick" 24:=by
 obtain ⟨f,fd,F,m,b⟩:=TF.f_Lpick;wtm_at "p";refine ZQ (fi:=24) (np:=2) (n:=2) (body:=Zbl) (cell:=false) F ZjQ ?_ ?_ ?_ ?_;wtm_at "000q";refine Zj4 ?_ ?_ ?_;wtm_at "rs4"
theorem Zkz {P:Program} {w:World} {K:PySem.W.Frag} {mg:Str→Option Value} {base:Heap} {k:Nat} (T0:Txt0 K mg) (TF:TxtF K mg) (ih:Txt1 P w K mg base k):FOk P w K mg base fns gv (k + 1) "_law_name" 25:=by
 obtain ⟨f,fd,F,m,b⟩:=TF.f_Lname;wtm_at "p";refine ZQ (fi:=25) (np:=1) (n:=2) (body:=Zbn) (cell:=false) F ZfO ?_ ?_ ?_ ?_;wtm_at "000q";refine Zj6 ?_ ?_ ?_;wtm_at "rs4"
theorem ZgV {P:Program} {w:World} {K:PySem.W.Frag} {mg:Str→Option Value} {base:Heap} {k:Nat} (T0:Txt0 K mg) (TF:TxtF K mg) (ih:Txt1 P w K mg base k):FOk P w K mg base fns gv (k + 1) "_law_number" 26:=by
 obtain ⟨f,fd,F,m,b⟩:=TF.f_Lnumber;wtm_at "p";refine ZQ (fi:=26) (np:=1) (n:=1) (body:=Xf) (cell:=false) F Zgu ?_ ?_ ?_ ?_;wtm_at "000q";refine ZgC ?_ ?_ ?_;wtm_at "rs4"
theorem ZkC {P:Program} {w:World} {K:PySem.W.Frag} {mg:Str→Option Value} {base:Heap} {k:Nat} (T0:Txt0 K mg) (TF:TxtF K mg) (ih:Txt1 P w K mg base k):FOk P w K mg base fns gv (k + 1) "_law_card" 27:=by
 obtain ⟨f,fd,F,m,b⟩:=TF.f_Lcard;wtm_at "p";refine ZQ (fi:=27) (np:=3) (n:=5) (body:=Zbp) (cell:=false) F Zdb ?_ ?_ ?_ ?_;wtm_at "000q";refine Zj9 ?_ ?_ ?_;wtm_at "rs4"
theorem Zkv {P:Program} {w:World} {K:PySem.W.Frag} {mg:Str→Option Value} {base:Heap} {k:Nat} (T0:Txt0 K mg) (TF:TxtF K mg) (ih:Txt1 P w K mg base k):FOk P w K mg base fns gv (k + 1) "_law_wish" 28:=by
 obtain ⟨f,fd,F,m,b⟩:=TF.f_Lwish;wtm_at "p";refine ZQ (fi:=28) (np:=2) (n:=4) (body:=X5) (cell:=false) F Zc9 ?_ ?_ ?_ ?_;wtm_at "000q";refine Zj2 ?_ ?_ ?_;wtm_at "rs4"
theorem Zig {P:Program} {w:World} {K:PySem.W.Frag} {mg:Str→Option Value} {base:Heap} {k:Nat} (T0:Txt0 K mg) (TF:TxtF K mg) (ih:Txt1 P w K mg base k):FOk P w K mg base fns gv (k + 1) "_law_offer" 29:=by
 obtain ⟨f,fd,F,m,b⟩:=TF.f_Loffer;wtm_at "p";refine ZQ (fi:=29) (np:=5) (n:=9) (body:=Za1) (cell:=false) F ZdY ?_ ?_ ?_ ?_;wtm_at "000q";refine ZhR ?_ ?_ ?_;wtm_at "rs4"
theorem ZkA {P:Program} {w:World} {K:PySem.W.Frag} {mg:Str→Option Value} {base:Heap} {k:Nat} (T0:Txt0 K mg) (TF:TxtF K mg) (ih:Txt1 P w K mg base k):FOk P w K mg base fns gv (k + 1) "_law_lets" 30:=by
 obtain ⟨f,fd,F,m,b⟩:=TF.f_Llets;wtm_at "p";refine ZQ (fi:=30) (np:=2) (n:=4) (body:=J5) (cell:=false) F Zda ?_ ?_ ?_ ?_;wtm_at "000q";refine Zj7 ?_ ?_ ?_;wtm_at "rs4"
theorem Zky {P:Program} {w:World} {K:PySem.W.Frag} {mg:Str→Option Value} {base:Heap} {k:Nat} (T0:Txt0 K mg) (TF:TxtF K mg) (ih:Txt1 P w K mg base k):FOk P w K mg base fns gv (k + 1) "_law_part" 31:=by
 obtain ⟨f,fd,F,m,b⟩:=TF.f_Lpart;wtm_at "p";refine ZQ (fi:=31) (np:=1) (n:=7) (body:=Zbm) (cell:=false) F ZaA ?_ ?_ ?_ ?_;wtm_at "000q";refine Zj5 ?_ ?_ ?_;wtm_at "rs4"
theorem ZmT {P:Program} {w:World} {K:PySem.W.Frag} {mg:Str→Option Value} {base:Heap} {k:Nat} (T0:Txt0 K mg) (TF:TxtF K mg) (ih:Txt1 P w K mg base k):FOk P w K mg base fns gv (k + 1) "_law_set" 32:=by
 obtain ⟨f,fd,F,m,b⟩:=TF.f_Lset;wtm_at "p";refine ZQ (fi:=32) (np:=1) (n:=9) (body:=ZcY) (cell:=false) F Ze2 ?_ ?_ ?_ ?_;wtm_at "000q";refine Zmi ?_ ?_ ?_;wtm_at "rs4"
theorem ZmU {P:Program} {w:World} {K:PySem.W.Frag} {mg:Str→Option Value} {base:Heap} {k:Nat} (T0:Txt0 K mg) (TF:TxtF K mg) (ih:Txt1 P w K mg base k):FOk P w K mg base fns gv (k + 1) "_law_any" 33:=by
 obtain ⟨f,fd,F,m,b⟩:=TF.f_Lany;wtm_at "p";refine ZQ (fi:=33) (np:=3) (n:=5) (body:=Zaj) (cell:=false) F Ze4 ?_ ?_ ?_ ?_;wtm_at "000q";refine Zmj ?_ ?_ ?_;wtm_at "rs4"
theorem ZmV {P:Program} {w:World} {K:PySem.W.Frag} {mg:Str→Option Value} {base:Heap} {k:Nat} (T0:Txt0 K mg) (TF:TxtF K mg) (ih:Txt1 P w K mg base k):FOk P w K mg base fns gv (k + 1) "_law_all" 34:=by
 obtain ⟨f,fd,F,m,b⟩:=TF.f_Lall;wtm_at "p";refine ZQ (fi:=34) (np:=2) (n:=8) (body:=ZcZ) (cell:=false) F Za6 ?_ ?_ ?_ ?_;wtm_at "000q";refine Zmk ?_ ?_ ?_;wtm_at "rs4"
theorem Zef {P:Program} {w:World} {K:PySem.W.Frag} {mg:Str→Option Value} {base:Heap} {k:Nat} (T0:Txt0 K mg) (TF:TxtF K mg) (ih:Txt1 P w K mg base k):FOk P w K mg base fns gv (k + 1) "_law_is_shown" 35:=by
 obtain ⟨f,fd,F,m,b⟩:=TF.f_Lis_shown;wtm_at "p";refine ZQ (fi:=35) (np:=2) (n:=3) (body:=Jm) (cell:=false) F Zbu ?_ ?_ ?_ ?_;wtm_at "000q";refine Zd5 ?_ ?_ ?_;wtm_at "rs4"
theorem Zif {P:Program} {w:World} {K:PySem.W.Frag} {mg:Str→Option Value} {base:Heap} {k:Nat} (T0:Txt0 K mg) (TF:TxtF K mg) (ih:Txt1 P w K mg base k):FOk P w K mg base fns gv (k + 1) "_law_tower" 36:=by
 obtain ⟨f,fd,F,m,b⟩:=TF.f_Ltower;wtm_at "p";refine ZQ (fi:=36) (np:=1) (n:=3) (body:=Zab) (cell:=false) F ZbV ?_ ?_ ?_ ?_;wtm_at "000q";refine ZhQ ?_ ?_ ?_;wtm_at "rs4"
theorem ZgU {P:Program} {w:World} {K:PySem.W.Frag} {mg:Str→Option Value} {base:Heap} {k:Nat} (T0:Txt0 K mg) (TF:TxtF K mg) (ih:Txt1 P w K mg base k):FOk P w K mg base fns gv (k + 1) "_law_others" 37:=by
 obtain ⟨f,fd,F,m,b⟩:=TF.f_Lothers;wtm_at "p";refine ZQ (fi:=37) (np:=3) (n:=10) (body:=Jt) (cell:=false) F Za5 ?_ ?_ ?_ ?_;wtm_at "000q";refine ZgB ?_ ?_ ?_;wtm_at "rs4"
theorem Zb4 {P:Program} {w:World} {K:PySem.W.Frag} {mg:Str→Option Value} {base:Heap} {k:Nat} (T0:Txt0 K mg) (TF:TxtF K mg) (ih:Txt1 P w K mg base k):FOk P w K mg base fns gv (k + 1) "_law_words_right" 38:=by
 obtain ⟨f,fd,F,m,b⟩:=TF.f_Lwords_right;wtm_at "p";refine ZQ (fi:=38) (np:=3) (n:=10) (body:=QF) (cell:=false) F QM ?_ ?_ ?_ ?_;wtm_at "000q";refine ZbY ?_ ?_ ?_;wtm_at "rs4"
theorem ok_law {P:Program} {w:World} {K:PySem.W.Frag} {mg:Str→Option Value} {base:Heap} {k:Nat} (T0:Txt0 K mg) (TF:TxtF K mg) (ih:Txt1 P w K mg base k):FOk P w K mg base fns gv (k + 1) "law" 39:=by
 obtain ⟨f,fd,F,m,b⟩:=TF.f_law;wtm_at "p";refine ZQ (fi:=39) (np:=1) (n:=8) (body:=ZfA) (cell:=false) F ZdW ?_ ?_ ?_ ?_;wtm_at "000q";refine Zlz ?_ ?_ ?_;wtm_at "rs4"
theorem ZlT {P:Program} {w:World} {K:PySem.W.Frag} {mg:Str→Option Value} {base:Heap} (T0:Txt0 K mg) (TF:TxtF K mg):∀ k:Nat,Txt1 P w K mg base k
  | 0=>⟨(let ⟨_,_,F,m,b⟩:=TF.f_is_whole; ⟨_,_,_,m,F.kp,b,ZC⟩),(let ⟨_,_,F,m,b⟩:=TF.f_has_mark; ⟨_,_,_,m,F.kp,b,ZC⟩),(let ⟨_,_,F,m,b⟩:=TF.f_size_of; ⟨_,_,_,m,F.kp,b,ZC⟩),(let ⟨_,_,F,m,b⟩:=TF.f_is_one_of; ⟨_,_,_,m,F.kp,b,ZC⟩),(let ⟨_,_,F,m,b⟩:=TF.f_lets; ⟨_,_,_,m,F.kp,b,ZC⟩),(let ⟨_,_,F,m,b⟩:=TF.f_lets_size; ⟨_,_,_,m,F.kp,b,ZC⟩),(let ⟨_,_,F,m,b⟩:=TF.f_shows; ⟨_,_,_,m,F.kp,b,ZC⟩),(let ⟨_,_,F,m,b⟩:=TF.f_shows_one; ⟨_,_,_,m,F.kp,b,ZC⟩),(let ⟨_,_,F,m,b⟩:=TF.f_shows_all; ⟨_,_,_,m,F.kp,b,ZC⟩),(let ⟨_,_,F,m,b⟩:=TF.f_is_between; ⟨_,_,_,m,F.kp,b,ZC⟩),(let ⟨_,_,F,m,b⟩:=TF.f_name_of; ⟨_,_,_,m,F.kp,b,ZC⟩),(let ⟨_,_,F,m,b⟩:=TF.f_kind_of; ⟨_,_,_,m,F.kp,b,ZC⟩),(let ⟨_,_,F,m,b⟩:=TF.f_wish_at; ⟨_,_,_,m,F.kp,b,ZC⟩),(let ⟨_,_,F,m,b⟩:=TF.f_card_at; ⟨_,_,_,m,F.kp,b,ZC⟩),(let ⟨_,_,F,m,b⟩:=TF.f_least_left; ⟨_,_,_,m,F.kp,b,ZC⟩),(let ⟨_,_,F,m,b⟩:=TF.f_are_kinds_unlike; ⟨_,_,_,m,F.kp,b,ZC⟩),(let ⟨_,_,F,m,b⟩:=TF.f_are_names_alike; ⟨_,_,_,m,F.kp,b,ZC⟩),(let ⟨_,_,F,m,b⟩:=TF.f_is_wish_in_way; ⟨_,_,_,m,F.kp,b,ZC⟩),(let ⟨_,_,F,m,b⟩:=TF.f_is_least_in_way; ⟨_,_,_,m,F.kp,b,ZC⟩),(let ⟨_,_,F,m,b⟩:=TF.f_is_wish_shown; ⟨_,_,_,m,F.kp,b,ZC⟩),(let ⟨_,_,F,m,b⟩:=TF.f_none_shown; ⟨_,_,_,m,F.kp,b,ZC⟩),(let ⟨_,_,F,m,b⟩:=TF.f_Lcell_at; ⟨_,_,_,m,F.kp,b,ZC⟩),(let ⟨_,_,F,m,b⟩:=TF.f_Ltape; ⟨_,_,_,m,F.kp,b,ZC⟩),(let ⟨_,_,F,m,b⟩:=TF.f_Ldraw; ⟨_,_,_,m,F.kp,b,ZC⟩),(let ⟨_,_,F,m,b⟩:=TF.f_Lpick; ⟨_,_,_,m,F.kp,b,ZC⟩),(let ⟨_,_,F,m,b⟩:=TF.f_Lname; ⟨_,_,_,m,F.kp,b,ZC⟩),(let ⟨_,_,F,m,b⟩:=TF.f_Lnumber; ⟨_,_,_,m,F.kp,b,ZC⟩),(let ⟨_,_,F,m,b⟩:=TF.f_Lcard; ⟨_,_,_,m,F.kp,b,ZC⟩),(let ⟨_,_,F,m,b⟩:=TF.f_Lwish; ⟨_,_,_,m,F.kp,b,ZC⟩),(let ⟨_,_,F,m,b⟩:=TF.f_Loffer; ⟨_,_,_,m,F.kp,b,ZC⟩),(let ⟨_,_,F,m,b⟩:=TF.f_Llets; ⟨_,_,_,m,F.kp,b,ZC⟩),(let ⟨_,_,F,m,b⟩:=TF.f_Lpart; ⟨_,_,_,m,F.kp,b,ZC⟩),(let ⟨_,_,F,m,b⟩:=TF.f_Lset; ⟨_,_,_,m,F.kp,b,ZC⟩),(let ⟨_,_,F,m,b⟩:=TF.f_Lany; ⟨_,_,_,m,F.kp,b,ZC⟩),(let ⟨_,_,F,m,b⟩:=TF.f_Lall; ⟨_,_,_,m,F.kp,b,ZC⟩),(let ⟨_,_,F,m,b⟩:=TF.f_Lis_shown; ⟨_,_,_,m,F.kp,b,ZC⟩),(let ⟨_,_,F,m,b⟩:=TF.f_Ltower; ⟨_,_,_,m,F.kp,b,ZC⟩),(let ⟨_,_,F,m,b⟩:=TF.f_Lothers; ⟨_,_,_,m,F.kp,b,ZC⟩),(let ⟨_,_,F,m,b⟩:=TF.f_Lwords_right; ⟨_,_,_,m,F.kp,b,ZC⟩),(let ⟨_,_,F,m,b⟩:=TF.f_law; ⟨_,_,_,m,F.kp,b,ZC⟩)⟩
  | k + 1 =>
    have ih:=ZlT T0 TF k
    ⟨Zff T0 TF ih,Zfg T0 TF ih,ZgQ T0 TF ih,Zee T0 TF ih,ZmS T0 TF ih,Zed T0 TF ih,Zku T0 TF ih,Zeb T0 TF ih,Zec T0 TF ih,Zdk T0 TF ih,ZgR T0 TF ih,ZgS T0 TF ih,ZgP T0 TF ih,ZgT T0 TF ih,Zdj T0 TF ih,Zan T0 TF ih,ZaJ T0 TF ih,Zbb T0 TF ih,ZaI T0 TF ih,ZbF T0 TF ih,Zdi T0 TF ih,Zfh T0 TF ih,Zkw T0 TF ih,ZkB T0 TF ih,Zkx T0 TF ih,Zkz T0 TF ih,ZgV T0 TF ih,ZkC T0 TF ih,Zkv T0 TF ih,Zig T0 TF ih,ZkA T0 TF ih,Zky T0 TF ih,ZmT T0 TF ih,ZmU T0 TF ih,ZmV T0 TF ih,Zef T0 TF ih,Zif T0 TF ih,ZgU T0 TF ih,Zb4 T0 TF ih,ok_law T0 TF ih⟩
end My
end
noncomputable section
set_option maxHeartbeats 1000000
namespace My
open PySem PySem.Spec PyProof.Rows L2 Mi
theorem us_1 {α:Type} {P:List α→Prop} {us:List α} (hl:us.length=1) (h:∀ x0:α,P [x0]):P us:=by
  rcases us with _ | ⟨x0,us⟩
  · simp at hl
  rcases us with _ | ⟨y,us⟩
  · exact h x0
  · simp at hl
theorem us_2 {α:Type} {P:List α→Prop} {us:List α} (hl:us.length=2) (h:∀ x0 x1:α,P [x0,x1]):P us:=by
  rcases us with _ | ⟨x0,us⟩
  · simp at hl
  rcases us with _ | ⟨x1,us⟩
  · simp at hl
  rcases us with _ | ⟨y,us⟩
  · exact h x0 x1
  · simp at hl
theorem us_3 {α:Type} {P:List α→Prop} {us:List α} (hl:us.length=3) (h:∀ x0 x1 x2:α,P [x0,x1,x2]):P us:=by
  rcases us with _ | ⟨x0,us⟩
  · simp at hl
  rcases us with _ | ⟨x1,us⟩
  · simp at hl
  rcases us with _ | ⟨x2,us⟩
  · simp at hl
  rcases us with _ | ⟨y,us⟩
  · exact h x0 x1 x2
  · simp at hl
theorem us_4 {α:Type} {P:List α→Prop} {us:List α} (hl:us.length=4) (h:∀ x0 x1 x2 x3:α,P [x0,x1,x2,x3]):P us:=by
  rcases us with _ | ⟨x0,us⟩
  · simp at hl
  rcases us with _ | ⟨x1,us⟩
  · simp at hl
  rcases us with _ | ⟨x2,us⟩
  · simp at hl
  rcases us with _ | ⟨x3,us⟩
  · simp at hl
  rcases us with _ | ⟨y,us⟩
  · exact h x0 x1 x2 x3
  · simp at hl
theorem us_5 {α:Type} {P:List α→Prop} {us:List α} (hl:us.length=5) (h:∀ x0 x1 x2 x3 x4:α,P [x0,x1,x2,x3,x4]):P us:=by
  rcases us with _ | ⟨x0,us⟩
  · simp at hl
  rcases us with _ | ⟨x1,us⟩
  · simp at hl
  rcases us with _ | ⟨x2,us⟩
  · simp at hl
  rcases us with _ | ⟨x3,us⟩
  · simp at hl
  rcases us with _ | ⟨x4,us⟩
  · simp at hl
  rcases us with _ | ⟨y,us⟩
  · exact h x0 x1 x2 x3 x4
  · simp at hl
theorem all_mk {l:PySem.W.OpenLaw} {w:World} {K:PySem.W.Frag} {h:Heap} {mg:Str→Option Value} {fa f0 f1 f2 f3 f4 f5 f6 f7 f8 f9 f10 f11 f12 f13 f14 f15 f16 f17 f18 f19 f20 f21 f22 f23 f24 f25 f26 f27 f28 f29 f30 f31 f32 f33 f34 f35 f36 f37 f38 f39:Addr} (X:K.In h) (G:h.Ns mainGlobals mg) (hfa:mg "law" = some (.ref fa))
    {od0 an0 od1 an1 od2 an2 od3 an3 od4 an4 od5 an5 od6 an6 od7 an7 od8 an8 od9 an9 od10 an10 od11 an11 od12 an12 od13 an13 od14 an14 od15 an15 od16 an16 od17 an17 od18 an18 od19 an19 od20 an20 od21 an21 od22 an22 od23 an23 od24 an24 od25 an25 od26 an26 od27 an27 od28 an28 od29 an29 od30 an30 od31 an31 od32 an32 od33 an33 od34 an34 od35 an35 od36 an36 od37 an37 od38 an38 od39 an39:Option Addr} {sl0 sl1 sl2 sl3 sl4 sl5 sl6 sl7 sl8 sl9 sl10 sl11 sl12 sl13 sl14 sl15 sl16 sl17 sl18 sl19 sl20 sl21 sl22 sl23 sl24 sl25 sl26 sl27 sl28 sl29 sl30 sl31 sl32 sl33 sl34 sl35 sl36 sl37 sl38 sl39:Array (Option Value)} {oc0 kV0 dc0 pm0 cd0 ct0 oc1 kV1 dc1 pm1 cd1 ct1 oc2 kV2 dc2 pm2 cd2 ct2 oc3 kV3 dc3 pm3 cd3 ct3 oc4 kV4 dc4 pm4 cd4 ct4 oc5 kV5 dc5 pm5 cd5 ct5 oc6 kV6 dc6 pm6 cd6 ct6 oc7 kV7 dc7 pm7 cd7 ct7 oc8 kV8 dc8 pm8 cd8 ct8 oc9 kV9 dc9 pm9 cd9 ct9 oc10 kV10 dc10 pm10 cd10 ct10 oc11 kV11 dc11 pm11 cd11 ct11 oc12 kV12 dc12 pm12 cd12 ct12 oc13 kV13 dc13 pm13 cd13 ct13 oc14 kV14 dc14 pm14 cd14 ct14 oc15 kV15 dc15 pm15 cd15 ct15 oc16 kV16 dc16 pm16 cd16 ct16 oc17 kV17 dc17 pm17 cd17 ct17 oc18 kV18 dc18 pm18 cd18 ct18 oc19 kV19 dc19 pm19 cd19 ct19 oc20 kV20 dc20 pm20 cd20 ct20 oc21 kV21 dc21 pm21 cd21 ct21 oc22 kV22 dc22 pm22 cd22 ct22 oc23 kV23 dc23 pm23 cd23 ct23 oc24 kV24 dc24 pm24 cd24 ct24 oc25 kV25 dc25 pm25 cd25 ct25 oc26 kV26 dc26 pm26 cd26 ct26 oc27 kV27 dc27 pm27 cd27 ct27 oc28 kV28 dc28 pm28 cd28 ct28 oc29 kV29 dc29 pm29 cd29 ct29 oc30 kV30 dc30 pm30 cd30 ct30 oc31 kV31 dc31 pm31 cd31 ct31 oc32 kV32 dc32 pm32 cd32 ct32 oc33 kV33 dc33 pm33 cd33 ct33 oc34 kV34 dc34 pm34 cd34 ct34 oc35 kV35 dc35 pm35 cd35 ct35 oc36 kV36 dc36 pm36 cd36 ct36 oc37 kV37 dc37 pm37 cd37 ct37 oc38 kV38 dc38 pm38 cd38 ct38 oc39 kV39 dc39 pm39 cd39 ct39:Value}
    (a0:PySem.W.nsIn K mainGlobals "is_whole" = some (some (.ref f0))) (l0:K.lookup f0=some ⟨oc0,od0,.func (PySem.W.fnOf "is_whole" "is_whole" (Zv QT) (Ze QT) (Zc QT) .none kV0 dc0 pm0 an0 cd0 ct0),sl0⟩) (c0:PySem.W.codeIn K cd0 "is_whole" = true) (k0:PySem.W.keepIn K (.ref f0)=true)
    (a1:PySem.W.nsIn K mainGlobals "has_mark" = some (some (.ref f1))) (l1:K.lookup f1=some ⟨oc1,od1,.func (PySem.W.fnOf "has_mark" "has_mark" (Zv QV) (Ze QV) (Zc QV) .none kV1 dc1 pm1 an1 cd1 ct1),sl1⟩) (c1:PySem.W.codeIn K cd1 "has_mark" = true) (k1:PySem.W.keepIn K (.ref f1)=true)
    (a2:PySem.W.nsIn K mainGlobals "size_of" = some (some (.ref f2))) (l2:K.lookup f2=some ⟨oc2,od2,.func (PySem.W.fnOf "size_of" "size_of" (Zv Ja) (Ze Ja) (Zc Ja) .none kV2 dc2 pm2 an2 cd2 ct2),sl2⟩) (c2:PySem.W.codeIn K cd2 "size_of" = true) (k2:PySem.W.keepIn K (.ref f2)=true)
    (a3:PySem.W.nsIn K mainGlobals "is_one_of" = some (some (.ref f3))) (l3:K.lookup f3=some ⟨oc3,od3,.func (PySem.W.fnOf "is_one_of" "is_one_of" (Zv Qw) (Ze Qw) (Zc Qw) .none kV3 dc3 pm3 an3 cd3 ct3),sl3⟩) (c3:PySem.W.codeIn K cd3 "is_one_of" = true) (k3:PySem.W.keepIn K (.ref f3)=true)
    (a4:PySem.W.nsIn K mainGlobals "lets" = some (some (.ref f4))) (l4:K.lookup f4=some ⟨oc4,od4,.func (PySem.W.fnOf "lets" "lets" (Zv ZaB) (Ze ZaB) (Zc ZaB) .none kV4 dc4 pm4 an4 cd4 ct4),sl4⟩) (c4:PySem.W.codeIn K cd4 "lets" = true) (k4:PySem.W.keepIn K (.ref f4)=true)
    (a5:PySem.W.nsIn K mainGlobals "lets_size" = some (some (.ref f5))) (l5:K.lookup f5=some ⟨oc5,od5,.func (PySem.W.fnOf "lets_size" "lets_size" (Zv Qv) (Ze Qv) (Zc Qv) .none kV5 dc5 pm5 an5 cd5 ct5),sl5⟩) (c5:PySem.W.codeIn K cd5 "lets_size" = true) (k5:PySem.W.keepIn K (.ref f5)=true)
    (a6:PySem.W.nsIn K mainGlobals "shows" = some (some (.ref f6))) (l6:K.lookup f6=some ⟨oc6,od6,.func (PySem.W.fnOf "shows" "shows" (Zv Xh) (Ze Xh) (Zc Xh) .none kV6 dc6 pm6 an6 cd6 ct6),sl6⟩) (c6:PySem.W.codeIn K cd6 "shows" = true) (k6:PySem.W.keepIn K (.ref f6)=true)
    (a7:PySem.W.nsIn K mainGlobals "shows_one" = some (some (.ref f7))) (l7:K.lookup f7=some ⟨oc7,od7,.func (PySem.W.fnOf "shows_one" "shows_one" (Zv Qt) (Ze Qt) (Zc Qt) .none kV7 dc7 pm7 an7 cd7 ct7),sl7⟩) (c7:PySem.W.codeIn K cd7 "shows_one" = true) (k7:PySem.W.keepIn K (.ref f7)=true)
    (a8:PySem.W.nsIn K mainGlobals "shows_all" = some (some (.ref f8))) (l8:K.lookup f8=some ⟨oc8,od8,.func (PySem.W.fnOf "shows_all" "shows_all" (Zv Qu) (Ze Qu) (Zc Qu) .none kV8 dc8 pm8 an8 cd8 ct8),sl8⟩) (c8:PySem.W.codeIn K cd8 "shows_all" = true) (k8:PySem.W.keepIn K (.ref f8)=true)
    (a9:PySem.W.nsIn K mainGlobals "is_between" = some (some (.ref f9))) (l9:K.lookup f9=some ⟨oc9,od9,.func (PySem.W.fnOf "is_between" "is_between" (Zv Qh) (Ze Qh) (Zc Qh) .none kV9 dc9 pm9 an9 cd9 ct9),sl9⟩) (c9:PySem.W.codeIn K cd9 "is_between" = true) (k9:PySem.W.keepIn K (.ref f9)=true)
    (a10:PySem.W.nsIn K mainGlobals "name_of" = some (some (.ref f10))) (l10:K.lookup f10=some ⟨oc10,od10,.func (PySem.W.fnOf "name_of" "name_of" (Zv Jb) (Ze Jb) (Zc Jb) .none kV10 dc10 pm10 an10 cd10 ct10),sl10⟩) (c10:PySem.W.codeIn K cd10 "name_of" = true) (k10:PySem.W.keepIn K (.ref f10)=true)
    (a11:PySem.W.nsIn K mainGlobals "kind_of" = some (some (.ref f11))) (l11:K.lookup f11=some ⟨oc11,od11,.func (PySem.W.fnOf "kind_of" "kind_of" (Zv Jc) (Ze Jc) (Zc Jc) .none kV11 dc11 pm11 an11 cd11 ct11),sl11⟩) (c11:PySem.W.codeIn K cd11 "kind_of" = true) (k11:PySem.W.keepIn K (.ref f11)=true)
    (a12:PySem.W.nsIn K mainGlobals "wish_at" = some (some (.ref f12))) (l12:K.lookup f12=some ⟨oc12,od12,.func (PySem.W.fnOf "wish_at" "wish_at" (Zv Q9) (Ze Q9) (Zc Q9) .none kV12 dc12 pm12 an12 cd12 ct12),sl12⟩) (c12:PySem.W.codeIn K cd12 "wish_at" = true) (k12:PySem.W.keepIn K (.ref f12)=true)
    (a13:PySem.W.nsIn K mainGlobals "card_at" = some (some (.ref f13))) (l13:K.lookup f13=some ⟨oc13,od13,.func (PySem.W.fnOf "card_at" "card_at" (Zv Jd) (Ze Jd) (Zc Jd) .none kV13 dc13 pm13 an13 cd13 ct13),sl13⟩) (c13:PySem.W.codeIn K cd13 "card_at" = true) (k13:PySem.W.keepIn K (.ref f13)=true)
    (a14:PySem.W.nsIn K mainGlobals "least_left" = some (some (.ref f14))) (l14:K.lookup f14=some ⟨oc14,od14,.func (PySem.W.fnOf "least_left" "least_left" (Zv Qg) (Ze Qg) (Zc Qg) .none kV14 dc14 pm14 an14 cd14 ct14),sl14⟩) (c14:PySem.W.codeIn K cd14 "least_left" = true) (k14:PySem.W.keepIn K (.ref f14)=true)
    (a15:PySem.W.nsIn K mainGlobals "are_kinds_unlike" = some (some (.ref f15))) (l15:K.lookup f15=some ⟨oc15,od15,.func (PySem.W.fnOf "are_kinds_unlike" "are_kinds_unlike" (Zv ZF) (Ze ZF) (Zc ZF) .none kV15 dc15 pm15 an15 cd15 ct15),sl15⟩) (c15:PySem.W.codeIn K cd15 "are_kinds_unlike" = true) (k15:PySem.W.keepIn K (.ref f15)=true)
    (a16:PySem.W.nsIn K mainGlobals "are_names_alike" = some (some (.ref f16))) (l16:K.lookup f16=some ⟨oc16,od16,.func (PySem.W.fnOf "are_names_alike" "are_names_alike" (Zv ZJ) (Ze ZJ) (Zc ZJ) .none kV16 dc16 pm16 an16 cd16 ct16),sl16⟩) (c16:PySem.W.codeIn K cd16 "are_names_alike" = true) (k16:PySem.W.keepIn K (.ref f16)=true)
    (a17:PySem.W.nsIn K mainGlobals "is_wish_in_way" = some (some (.ref f17))) (l17:K.lookup f17=some ⟨oc17,od17,.func (PySem.W.fnOf "is_wish_in_way" "is_wish_in_way" (Zv ZM) (Ze ZM) (Zc ZM) .none kV17 dc17 pm17 an17 cd17 ct17),sl17⟩) (c17:PySem.W.codeIn K cd17 "is_wish_in_way" = true) (k17:PySem.W.keepIn K (.ref f17)=true)
    (a18:PySem.W.nsIn K mainGlobals "is_least_in_way" = some (some (.ref f18))) (l18:K.lookup f18=some ⟨oc18,od18,.func (PySem.W.fnOf "is_least_in_way" "is_least_in_way" (Zv ZG) (Ze ZG) (Zc ZG) .none kV18 dc18 pm18 an18 cd18 ct18),sl18⟩) (c18:PySem.W.codeIn K cd18 "is_least_in_way" = true) (k18:PySem.W.keepIn K (.ref f18)=true)
    (a19:PySem.W.nsIn K mainGlobals "is_wish_shown" = some (some (.ref f19))) (l19:K.lookup f19=some ⟨oc19,od19,.func (PySem.W.fnOf "is_wish_shown" "is_wish_shown" (Zv ZW) (Ze ZW) (Zc ZW) .none kV19 dc19 pm19 an19 cd19 ct19),sl19⟩) (c19:PySem.W.codeIn K cd19 "is_wish_shown" = true) (k19:PySem.W.keepIn K (.ref f19)=true)
    (a20:PySem.W.nsIn K mainGlobals "none_shown" = some (some (.ref f20))) (l20:K.lookup f20=some ⟨oc20,od20,.func (PySem.W.fnOf "none_shown" "none_shown" (Zv Qf) (Ze Qf) (Zc Qf) .none kV20 dc20 pm20 an20 cd20 ct20),sl20⟩) (c20:PySem.W.codeIn K cd20 "none_shown" = true) (k20:PySem.W.keepIn K (.ref f20)=true)
    (a21:PySem.W.nsIn K mainGlobals "_law_cell_at" = some (some (.ref f21))) (l21:K.lookup f21=some ⟨oc21,od21,.func (PySem.W.fnOf "_law_cell_at" "_law_cell_at" (Zv QW) (Ze QW) (Zc QW) .none kV21 dc21 pm21 an21 cd21 ct21),sl21⟩) (c21:PySem.W.codeIn K cd21 "_law_cell_at" = true) (k21:PySem.W.keepIn K (.ref f21)=true)
    (a22:PySem.W.nsIn K mainGlobals "_law_tape" = some (some (.ref f22))) (l22:K.lookup f22=some ⟨oc22,od22,.func (PySem.W.fnOf "_law_tape" "_law_tape" (Zv Xj) (Ze Xj) (Zc Xj) .none kV22 dc22 pm22 an22 cd22 ct22),sl22⟩) (c22:PySem.W.codeIn K cd22 "_law_tape" = true) (k22:PySem.W.keepIn K (.ref f22)=true)
    (a23:PySem.W.nsIn K mainGlobals "_law_draw" = some (some (.ref f23))) (l23:K.lookup f23=some ⟨oc23,od23,.func (PySem.W.fnOf "_law_draw" "_law_draw" (Zv Xo) (Ze Xo) (Zc Xo) .none kV23 dc23 pm23 an23 cd23 ct23),sl23⟩) (c23:PySem.W.codeIn K cd23 "_law_draw" = true) (k23:PySem.W.keepIn K (.ref f23)=true)
    (a24:PySem.W.nsIn K mainGlobals "_law_pick" = some (some (.ref f24))) (l24:K.lookup f24=some ⟨oc24,od24,.func (PySem.W.fnOf "_law_pick" "_law_pick" (Zv Xk) (Ze Xk) (Zc Xk) .none kV24 dc24 pm24 an24 cd24 ct24),sl24⟩) (c24:PySem.W.codeIn K cd24 "_law_pick" = true) (k24:PySem.W.keepIn K (.ref f24)=true)
    (a25:PySem.W.nsIn K mainGlobals "_law_name" = some (some (.ref f25))) (l25:K.lookup f25=some ⟨oc25,od25,.func (PySem.W.fnOf "_law_name" "_law_name" (Zv Xm) (Ze Xm) (Zc Xm) .none kV25 dc25 pm25 an25 cd25 ct25),sl25⟩) (c25:PySem.W.codeIn K cd25 "_law_name" = true) (k25:PySem.W.keepIn K (.ref f25)=true)
    (a26:PySem.W.nsIn K mainGlobals "_law_number" = some (some (.ref f26))) (l26:K.lookup f26=some ⟨oc26,od26,.func (PySem.W.fnOf "_law_number" "_law_number" (Zv Jf) (Ze Jf) (Zc Jf) .none kV26 dc26 pm26 an26 cd26 ct26),sl26⟩) (c26:PySem.W.codeIn K cd26 "_law_number" = true) (k26:PySem.W.keepIn K (.ref f26)=true)
    (a27:PySem.W.nsIn K mainGlobals "_law_card" = some (some (.ref f27))) (l27:K.lookup f27=some ⟨oc27,od27,.func (PySem.W.fnOf "_law_card" "_law_card" (Zv Xp) (Ze Xp) (Zc Xp) .none kV27 dc27 pm27 an27 cd27 ct27),sl27⟩) (c27:PySem.W.codeIn K cd27 "_law_card" = true) (k27:PySem.W.keepIn K (.ref f27)=true)
    (a28:PySem.W.nsIn K mainGlobals "_law_wish" = some (some (.ref f28))) (l28:K.lookup f28=some ⟨oc28,od28,.func (PySem.W.fnOf "_law_wish" "_law_wish" (Zv Xi) (Ze Xi) (Zc Xi) .none kV28 dc28 pm28 an28 cd28 ct28),sl28⟩) (c28:PySem.W.codeIn K cd28 "_law_wish" = true) (k28:PySem.W.keepIn K (.ref f28)=true)
    (a29:PySem.W.nsIn K mainGlobals "_law_offer" = some (some (.ref f29))) (l29:K.lookup f29=some ⟨oc29,od29,.func (PySem.W.fnOf "_law_offer" "_law_offer" (Zv JC) (Ze JC) (Zc JC) .none kV29 dc29 pm29 an29 cd29 ct29),sl29⟩) (c29:PySem.W.codeIn K cd29 "_law_offer" = true) (k29:PySem.W.keepIn K (.ref f29)=true)
    (a30:PySem.W.nsIn K mainGlobals "_law_lets" = some (some (.ref f30))) (l30:K.lookup f30=some ⟨oc30,od30,.func (PySem.W.fnOf "_law_lets" "_law_lets" (Zv Xn) (Ze Xn) (Zc Xn) .none kV30 dc30 pm30 an30 cd30 ct30),sl30⟩) (c30:PySem.W.codeIn K cd30 "_law_lets" = true) (k30:PySem.W.keepIn K (.ref f30)=true)
    (a31:PySem.W.nsIn K mainGlobals "_law_part" = some (some (.ref f31))) (l31:K.lookup f31=some ⟨oc31,od31,.func (PySem.W.fnOf "_law_part" "_law_part" (Zv Xl) (Ze Xl) (Zc Xl) .none kV31 dc31 pm31 an31 cd31 ct31),sl31⟩) (c31:PySem.W.codeIn K cd31 "_law_part" = true) (k31:PySem.W.keepIn K (.ref f31)=true)
    (a32:PySem.W.nsIn K mainGlobals "_law_set" = some (some (.ref f32))) (l32:K.lookup f32=some ⟨oc32,od32,.func (PySem.W.fnOf "_law_set" "_law_set" (Zv ZaC) (Ze ZaC) (Zc ZaC) .none kV32 dc32 pm32 an32 cd32 ct32),sl32⟩) (c32:PySem.W.codeIn K cd32 "_law_set" = true) (k32:PySem.W.keepIn K (.ref f32)=true)
    (a33:PySem.W.nsIn K mainGlobals "_law_any" = some (some (.ref f33))) (l33:K.lookup f33=some ⟨oc33,od33,.func (PySem.W.fnOf "_law_any" "_law_any" (Zv ZaD) (Ze ZaD) (Zc ZaD) .none kV33 dc33 pm33 an33 cd33 ct33),sl33⟩) (c33:PySem.W.codeIn K cd33 "_law_any" = true) (k33:PySem.W.keepIn K (.ref f33)=true)
    (a34:PySem.W.nsIn K mainGlobals "_law_all" = some (some (.ref f34))) (l34:K.lookup f34=some ⟨oc34,od34,.func (PySem.W.fnOf "_law_all" "_law_all" (Zv ZaE) (Ze ZaE) (Zc ZaE) .none kV34 dc34 pm34 an34 cd34 ct34),sl34⟩) (c34:PySem.W.codeIn K cd34 "_law_all" = true) (k34:PySem.W.keepIn K (.ref f34)=true)
    (a35:PySem.W.nsIn K mainGlobals "_law_is_shown" = some (some (.ref f35))) (l35:K.lookup f35=some ⟨oc35,od35,.func (PySem.W.fnOf "_law_is_shown" "_law_is_shown" (Zv Qx) (Ze Qx) (Zc Qx) .none kV35 dc35 pm35 an35 cd35 ct35),sl35⟩) (c35:PySem.W.codeIn K cd35 "_law_is_shown" = true) (k35:PySem.W.keepIn K (.ref f35)=true)
    (a36:PySem.W.nsIn K mainGlobals "_law_tower" = some (some (.ref f36))) (l36:K.lookup f36=some ⟨oc36,od36,.func (PySem.W.fnOf "_law_tower" "_law_tower" (Zv JB) (Ze JB) (Zc JB) .none kV36 dc36 pm36 an36 cd36 ct36),sl36⟩) (c36:PySem.W.codeIn K cd36 "_law_tower" = true) (k36:PySem.W.keepIn K (.ref f36)=true)
    (a37:PySem.W.nsIn K mainGlobals "_law_others" = some (some (.ref f37))) (l37:K.lookup f37=some ⟨oc37,od37,.func (PySem.W.fnOf "_law_others" "_law_others" (Zv Je) (Ze Je) (Zc Je) .none kV37 dc37 pm37 an37 cd37 ct37),sl37⟩) (c37:PySem.W.codeIn K cd37 "_law_others" = true) (k37:PySem.W.keepIn K (.ref f37)=true)
    (a38:PySem.W.nsIn K mainGlobals "_law_words_right" = some (some (.ref f38))) (l38:K.lookup f38=some ⟨oc38,od38,.func (PySem.W.fnOf "_law_words_right" "_law_words_right" (Zv Z1) (Ze Z1) (Zc Z1) .none kV38 dc38 pm38 an38 cd38 ct38),sl38⟩) (c38:PySem.W.codeIn K cd38 "_law_words_right" = true) (k38:PySem.W.keepIn K (.ref f38)=true)
    (a39:PySem.W.nsIn K mainGlobals "law" = some (some (.ref f39))) (l39:K.lookup f39=some ⟨oc39,od39,.func (PySem.W.fnOf "law" "law" (Zv ZbD) (Ze ZbD) (Zc ZbD) .none kV39 dc39 pm39 an39 cd39 ct39),sl39⟩) (c39:PySem.W.codeIn K cd39 "law" = true) (k39:PySem.W.keepIn K (.ref f39)=true)
    (z0:PySem.W.nsIn K mainGlobals "all" = some none)
    (z1:PySem.W.nsIn K mainGlobals "any" = some none)
    (z2:PySem.W.nsIn K mainGlobals "bool" = some none)
    (z3:PySem.W.nsIn K mainGlobals "enumerate" = some none)
    (z4:PySem.W.nsIn K mainGlobals "int" = some none)
    (z5:PySem.W.nsIn K mainGlobals "isinstance" = some none)
    (z6:PySem.W.nsIn K mainGlobals "len" = some none)
    (z7:PySem.W.nsIn K mainGlobals "list" = some none)
    (z8:PySem.W.nsIn K mainGlobals "min" = some none)
    (z9:PySem.W.nsIn K mainGlobals "range" = some none)
    (z10:PySem.W.nsIn K mainGlobals "set" = some none)
    (z11:PySem.W.nsIn K mainGlobals "str" = some none)
    (z12:PySem.W.nsIn K mainGlobals "tuple" = some none)
    (z13:PySem.W.nsIn K mainGlobals "zip" = some none)
    : ∃ fd:FuncData,(∀ (s:Shared) (v:Value),BindsTo s fd ⟨[v],[]⟩ [("_law_script",v)])∧∀ base:Heap,K.In base→base.Ns mainGlobals mg→FnOk l.prog w K mg base CX0 41 fa fd ["_law_script"] (spF K fns gv 41 39):=by
  have e:=hfa.symm.trans (PySem.W.mg_of X G a39)
  cases e
  have F0:=ZV (st:=QT) l0 c0 k0
  have b0:=F0.binds (ps:=["thing"]) fun _ _ _ _ _ _ us hl=>us_1 (us:=us) (P:=fun us=>bindArgs _ ⟨us,[]⟩=pure (List.zip _ us)) hl fun _=>rfl
  have F1:=ZV (st:=QV) l1 c1 k1
  have b1:=F1.binds (ps:=["card","word"]) fun _ _ _ _ _ _ us hl=>us_2 (us:=us) (P:=fun us=>bindArgs _ ⟨us,[]⟩=pure (List.zip _ us)) hl fun _ _=>rfl
  have F2:=ZV (st:=Ja) l2 c2 k2
  have b2:=F2.binds (ps:=["card","word"]) fun _ _ _ _ _ _ us hl=>us_2 (us:=us) (P:=fun us=>bindArgs _ ⟨us,[]⟩=pure (List.zip _ us)) hl fun _ _=>rfl
  have F3:=ZV (st:=Qw) l3 c3 k3
  have b3:=F3.binds (ps:=["thing","texts"]) fun _ _ _ _ _ _ us hl=>us_2 (us:=us) (P:=fun us=>bindArgs _ ⟨us,[]⟩=pure (List.zip _ us)) hl fun _ _=>rfl
  have F4:=ZV (st:=ZaB) l4 c4 k4
  have b4:=F4.binds (ps:=["wish","card"]) fun _ _ _ _ _ _ us hl=>us_2 (us:=us) (P:=fun us=>bindArgs _ ⟨us,[]⟩=pure (List.zip _ us)) hl fun _ _=>rfl
  have F5:=ZV (st:=Qv) l5 c5 k5
  have b5:=F5.binds (ps:=["wish","card"]) fun _ _ _ _ _ _ us hl=>us_2 (us:=us) (P:=fun us=>bindArgs _ ⟨us,[]⟩=pure (List.zip _ us)) hl fun _ _=>rfl
  have F6:=ZV (st:=Xh) l6 c6 k6
  have b6:=F6.binds (ps:=["wish","card","thing"]) fun _ _ _ _ _ _ us hl=>us_3 (us:=us) (P:=fun us=>bindArgs _ ⟨us,[]⟩=pure (List.zip _ us)) hl fun _ _ _=>rfl
  have F7:=ZV (st:=Qt) l7 c7 k7
  have b7:=F7.binds (ps:=["wishes","card","truth","thing"]) fun _ _ _ _ _ _ us hl=>us_4 (us:=us) (P:=fun us=>bindArgs _ ⟨us,[]⟩=pure (List.zip _ us)) hl fun _ _ _ _=>rfl
  have F8:=ZV (st:=Qu) l8 c8 k8
  have b8:=F8.binds (ps:=["wishes","card","thing"]) fun _ _ _ _ _ _ us hl=>us_3 (us:=us) (P:=fun us=>bindArgs _ ⟨us,[]⟩=pure (List.zip _ us)) hl fun _ _ _=>rfl
  have F9:=ZV (st:=Qh) l9 c9 k9
  have b9:=F9.binds (ps:=["thing","low","high"]) fun _ _ _ _ _ _ us hl=>us_3 (us:=us) (P:=fun us=>bindArgs _ ⟨us,[]⟩=pure (List.zip _ us)) hl fun _ _ _=>rfl
  have F10:=ZV (st:=Jb) l10 c10 k10
  have b10:=F10.binds (ps:=["offer"]) fun _ _ _ _ _ _ us hl=>us_1 (us:=us) (P:=fun us=>bindArgs _ ⟨us,[]⟩=pure (List.zip _ us)) hl fun _=>rfl
  have F11:=ZV (st:=Jc) l11 c11 k11
  have b11:=F11.binds (ps:=["offer"]) fun _ _ _ _ _ _ us hl=>us_1 (us:=us) (P:=fun us=>bindArgs _ ⟨us,[]⟩=pure (List.zip _ us)) hl fun _=>rfl
  have F12:=ZV (st:=Q9) l12 c12 k12
  have b12:=F12.binds (ps:=["some","place"]) fun _ _ _ _ _ _ us hl=>us_2 (us:=us) (P:=fun us=>bindArgs _ ⟨us,[]⟩=pure (List.zip _ us)) hl fun _ _=>rfl
  have F13:=ZV (st:=Jd) l13 c13 k13
  have b13:=F13.binds (ps:=["some","place"]) fun _ _ _ _ _ _ us hl=>us_2 (us:=us) (P:=fun us=>bindArgs _ ⟨us,[]⟩=pure (List.zip _ us)) hl fun _ _=>rfl
  have F14:=ZV (st:=Qg) l14 c14 k14
  have b14:=F14.binds (ps:=["some"]) fun _ _ _ _ _ _ us hl=>us_1 (us:=us) (P:=fun us=>bindArgs _ ⟨us,[]⟩=pure (List.zip _ us)) hl fun _=>rfl
  have F15:=ZV (st:=ZF) l15 c15 k15
  have b15:=F15.binds (ps:=["some"]) fun _ _ _ _ _ _ us hl=>us_1 (us:=us) (P:=fun us=>bindArgs _ ⟨us,[]⟩=pure (List.zip _ us)) hl fun _=>rfl
  have F16:=ZV (st:=ZJ) l16 c16 k16
  have b16:=F16.binds (ps:=["some"]) fun _ _ _ _ _ _ us hl=>us_1 (us:=us) (P:=fun us=>bindArgs _ ⟨us,[]⟩=pure (List.zip _ us)) hl fun _=>rfl
  have F17:=ZV (st:=ZM) l17 c17 k17
  have b17:=F17.binds (ps:=["some","i","j"]) fun _ _ _ _ _ _ us hl=>us_3 (us:=us) (P:=fun us=>bindArgs _ ⟨us,[]⟩=pure (List.zip _ us)) hl fun _ _ _=>rfl
  have F18:=ZV (st:=ZG) l18 c18 k18
  have b18:=F18.binds (ps:=["some","i"]) fun _ _ _ _ _ _ us hl=>us_2 (us:=us) (P:=fun us=>bindArgs _ ⟨us,[]⟩=pure (List.zip _ us)) hl fun _ _=>rfl
  have F19:=ZV (st:=ZW) l19 c19 k19
  have b19:=F19.binds (ps:=["some","i","j","thing"]) fun _ _ _ _ _ _ us hl=>us_4 (us:=us) (P:=fun us=>bindArgs _ ⟨us,[]⟩=pure (List.zip _ us)) hl fun _ _ _ _=>rfl
  have F20:=ZV (st:=Qf) l20 c20 k20
  have b20:=F20.binds (ps:=["some","thing"]) fun _ _ _ _ _ _ us hl=>us_2 (us:=us) (P:=fun us=>bindArgs _ ⟨us,[]⟩=pure (List.zip _ us)) hl fun _ _=>rfl
  have F21:=ZV (st:=QW) l21 c21 k21
  have b21:=F21.binds (ps:=["_law_script","_law_k"]) fun _ _ _ _ _ _ us hl=>us_2 (us:=us) (P:=fun us=>bindArgs _ ⟨us,[]⟩=pure (List.zip _ us)) hl fun _ _=>rfl
  have F22:=ZV (st:=Xj) l22 c22 k22
  have b22:=F22.binds (ps:=["_law_cell"]) fun _ _ _ _ _ _ us hl=>us_1 (us:=us) (P:=fun us=>bindArgs _ ⟨us,[]⟩=pure (List.zip _ us)) hl fun _=>rfl
  have F23:=ZV (st:=Xo) l23 c23 k23
  have b23:=F23.binds (ps:=["_law_tape_here","_law_many"]) fun _ _ _ _ _ _ us hl=>us_2 (us:=us) (P:=fun us=>bindArgs _ ⟨us,[]⟩=pure (List.zip _ us)) hl fun _ _=>rfl
  have F24:=ZV (st:=Xk) l24 c24 k24
  have b24:=F24.binds (ps:=["_law_tape_here","_law_some"]) fun _ _ _ _ _ _ us hl=>us_2 (us:=us) (P:=fun us=>bindArgs _ ⟨us,[]⟩=pure (List.zip _ us)) hl fun _ _=>rfl
  have F25:=ZV (st:=Xm) l25 c25 k25
  have b25:=F25.binds (ps:=["_law_k"]) fun _ _ _ _ _ _ us hl=>us_1 (us:=us) (P:=fun us=>bindArgs _ ⟨us,[]⟩=pure (List.zip _ us)) hl fun _=>rfl
  have F26:=ZV (st:=Jf) l26 c26 k26
  have b26:=F26.binds (ps:=["_law_tape_here"]) fun _ _ _ _ _ _ us hl=>us_1 (us:=us) (P:=fun us=>bindArgs _ ⟨us,[]⟩=pure (List.zip _ us)) hl fun _=>rfl
  have F27:=ZV (st:=Xp) l27 c27 k27
  have b27:=F27.binds (ps:=["_law_tape_here","_law_name_here","_law_kind"]) fun _ _ _ _ _ _ us hl=>us_3 (us:=us) (P:=fun us=>bindArgs _ ⟨us,[]⟩=pure (List.zip _ us)) hl fun _ _ _=>rfl
  have F28:=ZV (st:=Xi) l28 c28 k28
  have b28:=F28.binds (ps:=["_law_tape_here","_law_deep"]) fun _ _ _ _ _ _ us hl=>us_2 (us:=us) (P:=fun us=>bindArgs _ ⟨us,[]⟩=pure (List.zip _ us)) hl fun _ _=>rfl
  have F29:=ZV (st:=JC) l29 c29 k29
  have b29:=F29.binds (ps:=["_law_tape_here","_law_side","_law_name_here","_law_kind","_law_till"]) fun _ _ _ _ _ _ us hl=>us_5 (us:=us) (P:=fun us=>bindArgs _ ⟨us,[]⟩=pure (List.zip _ us)) hl fun _ _ _ _ _=>rfl
  have F30:=ZV (st:=Xn) l30 c30 k30
  have b30:=F30.binds (ps:=["_law_wish_here","_law_card_here"]) fun _ _ _ _ _ _ us hl=>us_2 (us:=us) (P:=fun us=>bindArgs _ ⟨us,[]⟩=pure (List.zip _ us)) hl fun _ _=>rfl
  have F31:=ZV (st:=Xl) l31 c31 k31
  have b31:=F31.binds (ps:=["_law_some"]) fun _ _ _ _ _ _ us hl=>us_1 (us:=us) (P:=fun us=>bindArgs _ ⟨us,[]⟩=pure (List.zip _ us)) hl fun _=>rfl
  have F32:=ZV (st:=ZaC) l32 c32 k32
  have b32:=F32.binds (ps:=["_law_tape_here"]) fun _ _ _ _ _ _ us hl=>us_1 (us:=us) (P:=fun us=>bindArgs _ ⟨us,[]⟩=pure (List.zip _ us)) hl fun _=>rfl
  have F33:=ZV (st:=ZaD) l33 c33 k33
  have b33:=F33.binds (ps:=["_law_tape_here","_law_wish_here","_law_card_here"]) fun _ _ _ _ _ _ us hl=>us_3 (us:=us) (P:=fun us=>bindArgs _ ⟨us,[]⟩=pure (List.zip _ us)) hl fun _ _ _=>rfl
  have F34:=ZV (st:=ZaE) l34 c34 k34
  have b34:=F34.binds (ps:=["_law_tape_here","_law_some"]) fun _ _ _ _ _ _ us hl=>us_2 (us:=us) (P:=fun us=>bindArgs _ ⟨us,[]⟩=pure (List.zip _ us)) hl fun _ _=>rfl
  have F35:=ZV (st:=Qx) l35 c35 k35
  have b35:=F35.binds (ps:=["_law_some","_law_thing"]) fun _ _ _ _ _ _ us hl=>us_2 (us:=us) (P:=fun us=>bindArgs _ ⟨us,[]⟩=pure (List.zip _ us)) hl fun _ _=>rfl
  have F36:=ZV (st:=JB) l36 c36 k36
  have b36:=F36.binds (ps:=["_law_many"]) fun _ _ _ _ _ _ us hl=>us_1 (us:=us) (P:=fun us=>bindArgs _ ⟨us,[]⟩=pure (List.zip _ us)) hl fun _=>rfl
  have F37:=ZV (st:=Je) l37 c37 k37
  have b37:=F37.binds (ps:=["_law_tape_here","_law_some","_law_thing"]) fun _ _ _ _ _ _ us hl=>us_3 (us:=us) (P:=fun us=>bindArgs _ ⟨us,[]⟩=pure (List.zip _ us)) hl fun _ _ _=>rfl
  have F38:=ZV (st:=Z1) l38 c38 k38
  have b38:=F38.binds (ps:=["_law_tape_here","_law_some","_law_shown"]) fun _ _ _ _ _ _ us hl=>us_3 (us:=us) (P:=fun us=>bindArgs _ ⟨us,[]⟩=pure (List.zip _ us)) hl fun _ _ _=>rfl
  have F39:=ZV (st:=ZbD) l39 c39 k39
  have b39:=F39.binds (ps:=["_law_script"]) fun _ _ _ _ _ _ us hl=>us_1 (us:=us) (P:=fun us=>bindArgs _ ⟨us,[]⟩=pure (List.zip _ us)) hl fun _=>rfl
  have T0:Txt0 K mg:=⟨PySem.W.mg_none_of X G z0,PySem.W.mg_none_of X G z1,PySem.W.mg_none_of X G z2,PySem.W.mg_none_of X G z3,PySem.W.mg_none_of X G z4,PySem.W.mg_none_of X G z5,PySem.W.mg_none_of X G z6,PySem.W.mg_none_of X G z7,PySem.W.mg_none_of X G z8,PySem.W.mg_none_of X G z9,PySem.W.mg_none_of X G z10,PySem.W.mg_none_of X G z11,PySem.W.mg_none_of X G z12,PySem.W.mg_none_of X G z13⟩
  have TF:TxtF K mg:=⟨⟨_,_,F0,PySem.W.mg_of X G a0,b0⟩,⟨_,_,F1,PySem.W.mg_of X G a1,b1⟩,⟨_,_,F2,PySem.W.mg_of X G a2,b2⟩,⟨_,_,F3,PySem.W.mg_of X G a3,b3⟩,⟨_,_,F4,PySem.W.mg_of X G a4,b4⟩,⟨_,_,F5,PySem.W.mg_of X G a5,b5⟩,⟨_,_,F6,PySem.W.mg_of X G a6,b6⟩,⟨_,_,F7,PySem.W.mg_of X G a7,b7⟩,⟨_,_,F8,PySem.W.mg_of X G a8,b8⟩,⟨_,_,F9,PySem.W.mg_of X G a9,b9⟩,⟨_,_,F10,PySem.W.mg_of X G a10,b10⟩,⟨_,_,F11,PySem.W.mg_of X G a11,b11⟩,⟨_,_,F12,PySem.W.mg_of X G a12,b12⟩,⟨_,_,F13,PySem.W.mg_of X G a13,b13⟩,⟨_,_,F14,PySem.W.mg_of X G a14,b14⟩,⟨_,_,F15,PySem.W.mg_of X G a15,b15⟩,⟨_,_,F16,PySem.W.mg_of X G a16,b16⟩,⟨_,_,F17,PySem.W.mg_of X G a17,b17⟩,⟨_,_,F18,PySem.W.mg_of X G a18,b18⟩,⟨_,_,F19,PySem.W.mg_of X G a19,b19⟩,⟨_,_,F20,PySem.W.mg_of X G a20,b20⟩,⟨_,_,F21,PySem.W.mg_of X G a21,b21⟩,⟨_,_,F22,PySem.W.mg_of X G a22,b22⟩,⟨_,_,F23,PySem.W.mg_of X G a23,b23⟩,⟨_,_,F24,PySem.W.mg_of X G a24,b24⟩,⟨_,_,F25,PySem.W.mg_of X G a25,b25⟩,⟨_,_,F26,PySem.W.mg_of X G a26,b26⟩,⟨_,_,F27,PySem.W.mg_of X G a27,b27⟩,⟨_,_,F28,PySem.W.mg_of X G a28,b28⟩,⟨_,_,F29,PySem.W.mg_of X G a29,b29⟩,⟨_,_,F30,PySem.W.mg_of X G a30,b30⟩,⟨_,_,F31,PySem.W.mg_of X G a31,b31⟩,⟨_,_,F32,PySem.W.mg_of X G a32,b32⟩,⟨_,_,F33,PySem.W.mg_of X G a33,b33⟩,⟨_,_,F34,PySem.W.mg_of X G a34,b34⟩,⟨_,_,F35,PySem.W.mg_of X G a35,b35⟩,⟨_,_,F36,PySem.W.mg_of X G a36,b36⟩,⟨_,_,F37,PySem.W.mg_of X G a37,b37⟩,⟨_,_,F38,PySem.W.mg_of X G a38,b38⟩,⟨_,_,F39,PySem.W.mg_of X G a39,b39⟩⟩
  refine ⟨PySem.W.fnOf "law" "law" (Zv ZbD) (Ze ZbD) (Zc ZbD) .none kV39 dc39 pm39 an39 cd39 ct39,fun s v=>.of_eq rfl,fun base _ _=>?_⟩
  refine ZQ (fi:=39) (np:=1) (n:=8) (body:=ZfA) (cell:=false) F39 ZdW ?_ ?_ ?_ ?_
  exact rfl
  exact rfl
  exact rfl
  intro _ _ _ _ _ _ hr
  refine Zlz ?_ ?_ ?_
  exact T0
  exact ZlT T0 TF 40
  exact hr
theorem walk {l:PySem.W.OpenLaw} {q:Program} {loose:List Str} {XP:(Str→Option Value)→Heap→Prop} {YP:World→Heap→Prop} {d:DefRec} {K:Params→PySem.W.Frag} (hn:l.most=some 63) (hdf:d.params.defaults=[])
    (hY:∀ (w:World) (h:Heap),YP w h→(K w.params).In h)
    (F:∀ (w:World) (mg:Str→Option Value) (fa:Addr) (h:Heap),(K w.params).In h→h.Ns mainGlobals mg→mg d.name=some (.ref fa) →
      ∃ fd:FuncData,(∀ (s:Shared) (u:Value),BindsTo s fd ⟨[u],[]⟩ [("_law_script",u)])∧∀ base:Heap,(K w.params).In base→base.Ns mainGlobals mg→FnOk l.prog w (K w.params) mg base CX0 41 fa fd ["_law_script"] (spF (K w.params) fns gv 41 39)) :
    PySem.W.WalkO q loose XP YP l.row.toRowW d [] (fun f vs=>PySem.call f vs) :=
  L2.walk_of (n:=63) (k:=41) (x:="_law_script") (CX:=fun _=>CX0) (sp:=fun w=>spF (K w.params) fns gv 41 39) hn (by decide) hdf ⟨rfl,by decide,by decide⟩ hY F (fun _ _ a ns hl hO hS=>law_sp hO hS (law_true ns hl)) fun _ _ _ _ _ z=>z
theorem walkX {l:PySem.W.OpenLaw} {q:Program} {loose:List Str} {XP:(Str→Option Value)→Heap→Prop} {d:DefRec} {K:Params→PySem.W.Frag} {as:List Addr} {n t:Nat} (hn:l.most=some 63) (hdf:d.params.defaults=[]) (he:∀ P,as=(K P).map (·.1))
    (F:∀ (w:World) (mg:Str→Option Value) (fa:Addr) (h:Heap),(K w.params).In h→h.Ns mainGlobals mg→mg d.name=some (.ref fa) →
      ∃ fd:FuncData,(∀ (s:Shared) (u:Value),BindsTo s fd ⟨[u],[]⟩ [("_law_script",u)])∧∀ base:Heap,(K w.params).In base→base.Ns mainGlobals mg→FnOk l.prog w (K w.params) mg base CX0 41 fa fd ["_law_script"] (spF (K w.params) fns gv 41 39)) :
    PySem.W.WalkX q loose XP (PySem.W.X.obsZ as) (PySem.W.X.valZ K n t) l.row.toRowW d [] (fun f vs=>PySem.call f vs):=by
  intro w s₀ s₁ mg mb G y fa o pm cd doc dV kV ho hd hcd hD hmg hg args vals as' L
  exact walk (YP:=fun w h=>(K w.params).In h) hn hdf (fun _ _ h=>h) F w s₀ s₁ mg mb G (PySem.W.InK.keeps w _ _ (PySem.W.X.z_facts he y).2.1 (PySem.W.Laid.keeps L)) fa o pm cd doc dV kV ho hd hcd hD hmg hg args vals as'
end My
open PySem PySem.W PyProof.Rows
set_option Elab.async false
def PySem.W.Fast.tw10200480801721057659:PySem.Program:=PySem.Challenge.pw_matepoint_k34_anything_that_shows_it
theorem PySem.W.Fast.te10200480801721057659:PySem.Challenge.pw_matepoint_k34_anything_that_shows_it=PySem.W.Fast.tw10200480801721057659:=rfl
def PySem.W.Fast.tw5174341990893598808:Unit:=()
def PySem.W.Fast.tw14767495544650969016:Unit:=()
def PySem.W.Fast.tw17764216085340150659:Unit:=()
def PySem.W.Fast.tw10125890626845666319:Unit:=()
def PySem.W.Fast.tw15264368011130656258:Unit:=()
def PySem.W.Fast.tw8314505194569007046:Unit:=()
def PySem.W.Fast.tw2999298658473587738:Unit:=()
def PySem.W.Fast.tw13408345108404964502:Unit:=()
set_option maxRecDepth 100000 in
set_option maxHeartbeats 0 in
theorem PySem.Challenge.cw_matepoint_k34_anything_that_shows_it_holds : PySem.Challenge.rw_matepoint_k34_anything_that_shows_it.Holds := by
  w_on; o_law; z_head; (case hw=>w_witness2)
  k_fill
  refine My.walkX (l:=PySem.Challenge.rw_matepoint_k34_anything_that_shows_it) rfl rfl (fun _=>rfl) ?F
  case F =>
    intro w mg fa h KX G hmg
    refine' My.all_mk KX G hmg ?a0 ?l0 ?c0 ?k0 ?a1 ?l1 ?c1 ?k1 ?a2 ?l2 ?c2 ?k2 ?a3 ?l3 ?c3 ?k3 ?a4 ?l4 ?c4 ?k4 ?a5 ?l5 ?c5 ?k5 ?a6 ?l6 ?c6 ?k6 ?a7 ?l7 ?c7 ?k7 ?a8 ?l8 ?c8 ?k8 ?a9 ?l9 ?c9 ?k9 ?a10 ?l10 ?c10 ?k10 ?a11 ?l11 ?c11 ?k11 ?a12 ?l12 ?c12 ?k12 ?a13 ?l13 ?c13 ?k13 ?a14 ?l14 ?c14 ?k14 ?a15 ?l15 ?c15 ?k15 ?a16 ?l16 ?c16 ?k16 ?a17 ?l17 ?c17 ?k17 ?a18 ?l18 ?c18 ?k18 ?a19 ?l19 ?c19 ?k19 ?a20 ?l20 ?c20 ?k20 ?a21 ?l21 ?c21 ?k21 ?a22 ?l22 ?c22 ?k22 ?a23 ?l23 ?c23 ?k23 ?a24 ?l24 ?c24 ?k24 ?a25 ?l25 ?c25 ?k25 ?a26 ?l26 ?c26 ?k26 ?a27 ?l27 ?c27 ?k27 ?a28 ?l28 ?c28 ?k28 ?a29 ?l29 ?c29 ?k29 ?a30 ?l30 ?c30 ?k30 ?a31 ?l31 ?c31 ?k31 ?a32 ?l32 ?c32 ?k32 ?a33 ?l33 ?c33 ?k33 ?a34 ?l34 ?c34 ?k34 ?a35 ?l35 ?c35 ?k35 ?a36 ?l36 ?c36 ?k36 ?a37 ?l37 ?c37 ?k37 ?a38 ?l38 ?c38 ?k38 ?a39 ?l39 ?c39 ?k39 ?z0 ?z1 ?z2 ?z3 ?z4 ?z5 ?z6 ?z7 ?z8 ?z9 ?z10 ?z11 ?z12 ?z13
    (case a0=>k_is)
    (case l0=>k_is)
    (case c0=>k_is)
    (case k0=>k_is)
    (case a1=>k_is)
    (case l1=>k_is)
    (case c1=>k_is)
    (case k1=>k_is)
    (case a2=>k_is)
    (case l2=>k_is)
    (case c2=>k_is)
    (case k2=>k_is)
    (case a3=>k_is)
    (case l3=>k_is)
    (case c3=>k_is)
    (case k3=>k_is)
    (case a4=>k_is)
    (case l4=>k_is)
    (case c4=>k_is)
    (case k4=>k_is)
    (case a5=>k_is)
    (case l5=>k_is)
    (case c5=>k_is)
    (case k5=>k_is)
    (case a6=>k_is)
    (case l6=>k_is)
    (case c6=>k_is)
    (case k6=>k_is)
    (case a7=>k_is)
    (case l7=>k_is)
    (case c7=>k_is)
    (case k7=>k_is)
    (case a8=>k_is)
    (case l8=>k_is)
    (case c8=>k_is)
    (case k8=>k_is)
    (case a9=>k_is)
    (case l9=>k_is)
    (case c9=>k_is)
    (case k9=>k_is)
    (case a10=>k_is)
    (case l10=>k_is)
    (case c10=>k_is)
    (case k10=>k_is)
    (case a11=>k_is)
    (case l11=>k_is)
    (case c11=>k_is)
    (case k11=>k_is)
    (case a12=>k_is)
    (case l12=>k_is)
    (case c12=>k_is)
    (case k12=>k_is)
    (case a13=>k_is)
    (case l13=>k_is)
    (case c13=>k_is)
    (case k13=>k_is)
    (case a14=>k_is)
    (case l14=>k_is)
    (case c14=>k_is)
    (case k14=>k_is)
    (case a15=>k_is)
    (case l15=>k_is)
    (case c15=>k_is)
    (case k15=>k_is)
    (case a16=>k_is)
    (case l16=>k_is)
    (case c16=>k_is)
    (case k16=>k_is)
    (case a17=>k_is)
    (case l17=>k_is)
    (case c17=>k_is)
    (case k17=>k_is)
    (case a18=>k_is)
    (case l18=>k_is)
    (case c18=>k_is)
    (case k18=>k_is)
    (case a19=>k_is)
    (case l19=>k_is)
    (case c19=>k_is)
    (case k19=>k_is)
    (case a20=>k_is)
    (case l20=>k_is)
    (case c20=>k_is)
    (case k20=>k_is)
    (case a21=>k_is)
    (case l21=>k_is)
    (case c21=>k_is)
    (case k21=>k_is)
    (case a22=>k_is)
    (case l22=>k_is)
    (case c22=>k_is)
    (case k22=>k_is)
    (case a23=>k_is)
    (case l23=>k_is)
    (case c23=>k_is)
    (case k23=>k_is)
    (case a24=>k_is)
    (case l24=>k_is)
    (case c24=>k_is)
    (case k24=>k_is)
    (case a25=>k_is)
    (case l25=>k_is)
    (case c25=>k_is)
    (case k25=>k_is)
    (case a26=>k_is)
    (case l26=>k_is)
    (case c26=>k_is)
    (case k26=>k_is)
    (case a27=>k_is)
    (case l27=>k_is)
    (case c27=>k_is)
    (case k27=>k_is)
    (case a28=>k_is)
    (case l28=>k_is)
    (case c28=>k_is)
    (case k28=>k_is)
    (case a29=>k_is)
    (case l29=>k_is)
    (case c29=>k_is)
    (case k29=>k_is)
    (case a30=>k_is)
    (case l30=>k_is)
    (case c30=>k_is)
    (case k30=>k_is)
    (case a31=>k_is)
    (case l31=>k_is)
    (case c31=>k_is)
    (case k31=>k_is)
    (case a32=>k_is)
    (case l32=>k_is)
    (case c32=>k_is)
    (case k32=>k_is)
    (case a33=>k_is)
    (case l33=>k_is)
    (case c33=>k_is)
    (case k33=>k_is)
    (case a34=>k_is)
    (case l34=>k_is)
    (case c34=>k_is)
    (case k34=>k_is)
    (case a35=>k_is)
    (case l35=>k_is)
    (case c35=>k_is)
    (case k35=>k_is)
    (case a36=>k_is)
    (case l36=>k_is)
    (case c36=>k_is)
    (case k36=>k_is)
    (case a37=>k_is)
    (case l37=>k_is)
    (case c37=>k_is)
    (case k37=>k_is)
    (case a38=>k_is)
    (case l38=>k_is)
    (case c38=>k_is)
    (case k38=>k_is)
    (case a39=>k_is)
    (case l39=>k_is)
    (case c39=>k_is)
    (case k39=>k_is)
    (case z0=>k_is)
    (case z1=>k_is)
    (case z2=>k_is)
    (case z3=>k_is)
    (case z4=>k_is)
    (case z5=>k_is)
    (case z6=>k_is)
    (case z7=>k_is)
    (case z8=>k_is)
    (case z9=>k_is)
    (case z10=>k_is)
    (case z11=>k_is)
    (case z12=>k_is)
    (case z13=>k_is)
end
