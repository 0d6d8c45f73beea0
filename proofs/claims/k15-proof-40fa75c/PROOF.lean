import PyProof.Rows.All
import Wide.All
import OpenK.AllK
import Wide.FinOn
import Lean
import PyProof.EqAt
import PyProof.EqKinds
import PyProof.TupleCall
import PySem.Challenge.RW_matepoint_k15_twelve_within_one_another
set_option Elab.async false
set_option linter.all false
set_option maxRecDepth 100000
section
set_option Elab.async false
set_option linter.all false
set_option maxRecDepth 100000
namespace L2
open PySem PySem.Spec PyProof.Rows
noncomputable abbrev Key:=Sum Int Str
noncomputable def Zel:Key→Value→Bool
  | .inl k,v=>Value.isInt k v
  | .inr x,v=>Value.isStrOf x v
noncomputable def keyH (w:World):Key→Int
  | .inl k=>hashInt k
  | .inr x=>hashStr w x
theorem Qe:∀ {k:Key} {v:Value},Zel k v=true→(∃ i t,k=Sum.inl i∧v=Value.int i t)∨(∃ x t,k=Sum.inr x∧v=Value.str x t)
  | .inl i,v,h=>by
    obtain ⟨t,e⟩:=Value.isInt_shape (k:=i) (v:=v) h
    exact .inl ⟨i,t,rfl,e⟩
  | .inr x,v,h=>by
    obtain ⟨t,e⟩:=Value.isStrOf_shape (x:=x) (v:=v) h
    exact .inr ⟨x,t,rfl,e⟩
theorem Zhd (i:Int) (t:Tok):Zel (.inl i) (.int i t)=true:=by simp [Zel,Value.isInt]
theorem Zbt (x:Str) (t:Tok):Zel (.inr x) (.str x t)=true:=by simp [Zel,Value.isStrOf]
theorem key_ll (a b:Int):decide ((Sum.inl a:Key)=Sum.inl b)=(a == b):=by
  by_cases e:a=b
  · subst e; simp
  · have h:¬ (Sum.inl a:Key)=Sum.inl b:=fun q=>e (Sum.inl.inj q)
    rw [decide_eq_false h]
    exact (beq_eq_false_iff_ne.mpr e).symm
theorem key_rr (a b:Str):decide ((Sum.inr a:Key)=Sum.inr b)=decide (a=b):=by
  by_cases e:a=b
  · subst e; simp
  · have h:¬ (Sum.inr a:Key)=Sum.inr b:=fun q=>e (Sum.inr.inj q)
    rw [decide_eq_false h,decide_eq_false e]
theorem key_lr (a:Int) (b:Str):decide ((Sum.inl a:Key)=Sum.inr b)=false:=decide_eq_false (fun q=>nomatch q)
theorem key_rl (a:Str) (b:Int):decide ((Sum.inr a:Key)=Sum.inl b)=false:=decide_eq_false (fun q=>nomatch q)
noncomputable def Jv (prog:Program) (w:World):PySem.KeyKind prog w Key where
  is:=Zel
  hash:=keyH w
  inj:=fun v a b ha hb=>by
    rcases Qe ha with ⟨i,t,rfl,rfl⟩ | ⟨x,t,rfl,rfl⟩
    · rcases Qe hb with ⟨j,u,rfl,e⟩ | ⟨y,u,rfl,e⟩
      · injection e with e1 _; rw [e1]
      · exact nomatch e
    · rcases Qe hb with ⟨j,u,rfl,e⟩ | ⟨y,u,rfl,e⟩
      · exact nomatch e
      · injection e with e1 _; rw [e1]
  byValue:=fun k v h=>by
    rcases Qe h with ⟨i,t,rfl,rfl⟩ | ⟨x,t,rfl,rfl⟩ <;> rfl
  pyHash:=fun hv h=>by
    rcases Qe hv with ⟨i,t,rfl,rfl⟩ | ⟨x,t,rfl,rfl⟩
    · exact wpAny_pyHash_int h
    · exact wpAny_pyHash_str h
  eqBool:=fun hu hv h=>by
    rcases Qe hu with ⟨i,t,rfl,rfl⟩ | ⟨x,t,rfl,rfl⟩
    · rcases Qe hv with ⟨j,u,rfl,rfl⟩ | ⟨y,u,rfl,rfl⟩
      · rw [key_ll] at h; exact wpAny_eqBool_int h
      · rw [key_lr] at h; exact SeqAt.EqAt.int_str i t y u _ _ _ _ h
    · rcases Qe hv with ⟨j,u,rfl,rfl⟩ | ⟨y,u,rfl,rfl⟩
      · rw [key_rl] at h; exact SeqAt.EqAt.str_int x t j u _ _ _ _ h
      · rw [key_rr] at h; exact wpAny_eqBool_str h
  «strs»:=fun k x t v h=>by
    rcases Qe h with ⟨i,u,rfl,e⟩ | ⟨y,u,rfl,e⟩
    · exact nomatch e
    · injection e with e1 _
      subst e1
      cases v <;> rfl
theorem Zei (prog:Program) (w:World) (i:Int) (t:Tok):(Jv prog w).is (.inl i) (.int i t)=true:=Zhd i t
theorem Zeh (prog:Program) (w:World) (x:Str) (t:Tok):(Jv prog w).is (.inr x) (.str x t)=true:=Zbt x t
end L2
namespace L2
open PySem PySem.Spec PyProof.Rows
inductive V where
  | non | bl (b:Bool) | int (i:Int) | str (x:Str) | byt (b:Array UInt8) | flt (b:UInt64) | ref (a:Addr) | ty (n:String)
  deriving DecidableEq
noncomputable def RelV:V→Value→Prop
  | .non,u=>u=Value.none
  | .bl b,u=>u=Value.bool b
  | .int i,u=>∃ t,u=Value.int i t
  | .str x,u=>∃ t,u=Value.str x t
  | .byt b,u=>∃ t,u=Value.bytes b t
  | .flt b,u=>∃ t,u=Value.float b t
  | .ref a,u=>u=Value.ref a
  | .ty n,u=>u=Value.type n
noncomputable abbrev Vals:List V→List Value→Prop:=Paired RelV
theorem Vals.length {xs:List V} {us:List Value} (r:Vals xs us):xs.length=us.length:=Paired.length r
theorem Vals.get:∀ {xs:List V} {us:List Value} {i:Nat} {x:V},Vals xs us→xs[i]? = some x→∃ u,us[i]? = some u∧RelV x u
  | _,_,_,_,.nil,e=>by simp at e
  | _,_,0,_,.cons r _,e=>by simp at e; subst e; exact ⟨_,rfl,r⟩
  | _,_,i + 1,x,.cons _ t,e=>by
    obtain ⟨u,h1,h2⟩:=Vals.get (i:=i) (x:=x) t (by simpa using e)
    exact ⟨u,by simpa using h1,h2⟩
theorem Vals.set {x:V} {u:Value} (r:RelV x u):∀ {xs:List V} {us:List Value} (i:Nat),Vals xs us→Vals (xs.set i x) (us.set i u)
  | _,_,_,.nil=>.nil
  | _,_,0,.cons _ t=>.cons r t
  | _,_,i + 1,.cons q t=>.cons q (Vals.set r i t)
theorem Vals.append:∀ {xs ys:List V} {us ws:List Value},Vals xs us→Vals ys ws→Vals (xs++ys) (us++ws)
  | _,_,_,_,.nil,s=>s
  | _,_,_,_,.cons r t,s=>.cons r (Vals.append t s)
theorem Vals.take:∀ {xs:List V} {us:List Value} (n:Nat),Vals xs us→Vals (xs.take n) (us.take n)
  | _,_,0,_=>.nil
  | _,_,_ + 1,.nil=>.nil
  | _,_,n + 1,.cons r t=>.cons r (Vals.take n t)
theorem Vals.drop:∀ {xs:List V} {us:List Value} (n:Nat),Vals xs us→Vals (xs.drop n) (us.drop n)
  | _,_,0,r=>r
  | _,_,_ + 1,.nil=>.nil
  | _,_,n + 1,.cons _ t=>Vals.drop n t
theorem Vals.none_of:∀ {xs:List V} {us:List Value} {i:Nat},Vals xs us→xs[i]? = none→us[i]? = none:=fun {xs us i} r e=>by
  have h1:=r.length
  have h2:xs.length≤i:=List.getElem?_eq_none_iff.mp e
  exact List.getElem?_eq_none_iff.mpr (by omega)
noncomputable def RelO:Option V→Option Value→Prop
  | some v,some u=>RelV v u
  | none,none=>True
  | _,_=>False
noncomputable def KV {κ:Type}:List (κ×V)→List (κ×Value)→Prop:=Paired fun (p:κ×V) (q:κ×Value)=>p.1=q.1∧RelV p.2 q.2
noncomputable def kV:Key→V
  | .inl i=>.int i
  | .inr x=>.str x
inductive HO where
  | lst (xs:List V)
  | tup (xs:List V)
  | dK (kvs:List (Key×V)) | dT (kvs:List (List Key×V))
  | set (S:Int→Bool) (n:Nat)
  | ins (C dx:Addr) (fs:List (Str×V))
  | own (x:Addr)
  | xd (fs:List (Str×V))
  | met (f x:Addr)
  | rng (lo hi:Int)
  | frz (o:Obj) (u:HO)
  | tbl (ps:Array Value)
  | ext (φ:Heap→Prop)
noncomputable abbrev Hp:=Addr→Option HO
noncomputable def upd (H:Hp) (a:Addr) (o:HO):Hp:=fun b=>if b=a then some o else H b
theorem ZK {H:Hp} {a:Addr} {o:HO}:upd H a o a=some o:=by unfold upd; rw [if_pos rfl]
theorem Zm {H:Hp} {a b:Addr} {o:HO} (h:b≠a):upd H a o b=H b:=by unfold upd; rw [if_neg h]
theorem QF {H:Hp} {a b:Addr} {o:HO} (h:H a=some o) (h':H b=none):a≠b:=by
  intro e; subst e; rw [h] at h'; cases h'
noncomputable def TupP (h:Heap) (a:Addr) (items:Array Value):Prop:=∃ o,h.get? a=some o∧o.cls = .type "tuple"∧(∃ n,o.data = .seq items n)∧o.dict=none
theorem TupP.is {h:Heap} {a:Addr} {items:Array Value} (x:TupP h a items):IsTup h a items:=let ⟨o,h1,h2,h3,_⟩:=x; ⟨o,h1,h2,h3⟩
theorem TupP.new (h:Heap) (items:Array Value):TupP (h.push { cls:=.type "tuple",data:=.seq items }) h.objs.size items:=⟨_,Heap.get?_push_size _ rfl,rfl,⟨_,rfl⟩,rfl⟩
section
variable (P:Program) (w:World)
noncomputable def Jx (H:Hp) (h:Heap) (a:Addr):HO→Prop
  | .lst xs=>xs.length≤sizeLine∧∃ (its:List Value) (n:Nat),Vals xs its∧h.get? a=some { cls:=.type "list",data:=.seq its.toArray n }
  | .tup xs=>xs.length≤sizeLine∧∃ its:List Value,Vals xs its∧TupP h a its.toArray
  | .dK kvs=>kvs.length≤sizeLine∧(a == sysModules)=false∧∃ vs,KV kvs vs∧h.DictOf (Jv P w) a vs
  | .dT kvs=>kvs.length≤sizeLine∧(a == sysModules)=false∧∃ xs:List (List Key×Addr×Value),
      Paired (fun (p:List Key×V) (q:List Key×Addr×Value)=>p.1=q.1∧H q.2.1=some (.tup (p.1.map kV))∧RelV p.2 q.2.2) kvs xs ∧
      ∃ o es ep,h.get? a=some o∧o.ExactDict∧o.data = .dict es ep∧es.toList=xs.map (entryOfKey (tupleKind (Jv P w)))∧(xs.map (·.1)).Nodup
  | .set S n=>h.SetOf (intKind P w) a S n
  | .ins C dx fs=>H dx=some (.own a)∧fs.length≤1000∧dx≠a∧h.get? a=some (PySem.W.instObj C dx) ∧
      ∃ mA,h.Ns1 dx mA∧(∀ f,RelO (fs.lookup f) (mA f))∧PySem.Within mA (fs.map (·.1))
  | .own _=>∃ o,h.get? a=some o
  | .xd fs=>∃ mA,h.Ns1 a mA∧∀ f,RelO (fs.lookup f) (mA f)
  | .rng lo hi=>∃ t u v,h.get? a=some { cls:=.type "range",data:=.fields #[.int lo t,.int hi u,.int 1 v] }
  | .frz o u=>h.get? a=some o∧Jx H h a u
  | .tbl ps=>h.get? a=some { cls:=.none,data:=.fields ps }
  | .met f x=>h.get? a=some (PySem.W.methodObj (.ref f) (.ref x))
  | .ext φ=>φ h∧(∃ o,h.get? a=some o)∧∀ h1 h2:Heap,φ h1→(∀ o,h1.get? a=some o→h2.get? a=some o)→φ h2
noncomputable def HOk (H:Hp) (h:Heap):Prop:=∀ a o,H a=some o→Jx P w H h a o
end
section
variable {P:Program} {w:World} {H H':Hp} {h h':Heap} {a:Addr} {o:HO}
theorem Jx.lt (x:Jx P w H h a o):a < h.objs.size:=by
  cases o with
  | lst xs=>obtain ⟨_,_,_,_,e⟩:=x; exact Heap.lt_size e
  | tup xs=>obtain ⟨_,_,_,p⟩:=x; exact p.is.lt
  | dK kvs=>obtain ⟨_,_,_,_,o,_,_,e,_⟩:=x; exact Heap.lt_size e
  | dT kvs=>obtain ⟨_,_,_,_,o,_,_,e,_⟩:=x; exact Heap.lt_size e
  | set S n=>obtain ⟨o,_,_,_,e,_⟩:=x; exact Heap.lt_size e
  | ins C dx fs=>obtain ⟨_,_,_,e,_⟩:=x; exact Heap.lt_size e
  | own y=>obtain ⟨_,e⟩:=x; exact Heap.lt_size e
  | xd fs=>obtain ⟨_,⟨_,_,_,e,_⟩,_⟩:=x; exact Heap.lt_size e
  | rng lo hi=>obtain ⟨_,_,_,e⟩:=x; exact Heap.lt_size e
  | frz ob u=>obtain ⟨e,_⟩:=x; exact Heap.lt_size e
  | tbl ps=>exact Heap.lt_size (show h.get? a=some _ from x)
  | met f y=>exact Heap.lt_size (show h.get? a=some _ from x)
  | ext φ=>obtain ⟨_,⟨_,e⟩,_⟩:=x; exact Heap.lt_size e
theorem Paired.mapP {α β:Type} {F G:α→β→Prop}:∀ {l₁:List α} {l₂:List β},Paired F l₁ l₂→(∀ a b,F a b→G a b)→Paired G l₁ l₂
  | _,_,.nil,_=>.nil
  | _,_,.cons r t,f=>.cons (f _ _ r) (Paired.mapP t f)
theorem Jx.stay (x:Jx P w H h a o) (k:∀ b u,(b=a∨H b=some (.own a))→h.get? b=some u→h'.get? b=some u)
    (ho:∀ b,H b=some (.own a)→H' b=some (.own a)) (ht:∀ b xs,H b=some (.tup xs)→H' b=some (.tup xs)):Jx P w H' h' a o:=by
  induction o with
  | lst xs=>obtain ⟨z,its,n,r,e⟩:=x; exact ⟨z,its,n,r,k _ _ (.inl rfl) e⟩
  | tup xs=>obtain ⟨z,its,r,ob,e,c⟩:=x; exact ⟨z,its,r,ob,k _ _ (.inl rfl) e,c⟩
  | dK kvs=>obtain ⟨z,y,vs,r,ob,es,ep,e,c⟩:=x; exact ⟨z,y,vs,r,ob,es,ep,k _ _ (.inl rfl) e,c⟩
  | dT kvs =>
    obtain ⟨z,y,xs,r,ob,es,ep,e,c⟩:=x
    exact ⟨z,y,xs,Paired.mapP r fun p q z=>⟨z.1,ht _ _ z.2.1,z.2.2⟩,ob,es,ep,k _ _ (.inl rfl) e,c⟩
  | set S n=>obtain ⟨ob,es,ep,t,e,c⟩:=x; exact ⟨ob,es,ep,t,k _ _ (.inl rfl) e,c⟩
  | ins C dx fs =>
    obtain ⟨d,z,ne,e,mA,⟨od,es,ep,e2,c⟩,r⟩:=x
    exact ⟨ho _ d,z,ne,k _ _ (.inl rfl) e,mA,⟨od,es,ep,k _ _ (.inr d) e2,c⟩,r⟩
  | own y=>obtain ⟨ob,e⟩:=x; exact ⟨ob,k _ _ (.inl rfl) e⟩
  | xd fs=>obtain ⟨mA,⟨od,es,ep,e,c⟩,r⟩:=x; exact ⟨mA,⟨od,es,ep,k _ _ (.inl rfl) e,c⟩,r⟩
  | rng lo hi=>obtain ⟨t,u,v,e⟩:=x; exact ⟨t,u,v,k _ _ (.inl rfl) e⟩
  | frz ob u ih=>obtain ⟨e,q⟩:=x; exact ⟨k _ _ (.inl rfl) e,ih q⟩
  | tbl ps =>
    have e:h.get? a=some { cls:=.none,data:=.fields ps }:=x
    show h'.get? a=some { cls:=.none,data:=.fields ps }
    exact k a _ (.inl rfl) e
  | met f y =>
    have e:h.get? a=some (PySem.W.methodObj (.ref f) (.ref y)):=x
    show h'.get? a=some (PySem.W.methodObj (.ref f) (.ref y))
    exact k a _ (.inl rfl) e
  | ext φ=>obtain ⟨p,⟨o,e⟩,st⟩:=x; exact ⟨st _ _ p fun o q=>k _ _ (.inl rfl) q,⟨o,k _ _ (.inl rfl) e⟩,st⟩
theorem HOk.lt (x:HOk P w H h) (e:H a=some o):a < h.objs.size:=(x a o e).lt
theorem HOk.fresh (x:HOk P w H h) (e:h.objs.size≤a):H a=none:=by
  cases q:H a with
  | none=>rfl
  | some u=>exact absurd (Nat.lt_of_lt_of_le (x.lt q) e) (Nat.lt_irrefl _)
theorem HOk.kept (x:HOk P w H h) (k:∀ b u,h.get? b=some u→h'.get? b=some u):HOk P w H h':=fun a o e =>
  (x a o e).stay (fun b u _ q=>k b u q) (fun _ q=>q) fun _ _ q=>q
theorem HOk.laid (x:HOk P w H h) (k:∀ b u,h.get? b=some u→h'.get? b=some u) (hp:h.objs.size≤a) (new:Jx P w (upd H a o) h' a o):HOk P w (upd H a o) h':=fun b u e=>by
  have hn:=x.fresh hp
  by_cases hb:b=a
  · subst hb; rw [ZK] at e; cases e; exact new
  · rw [Zm hb] at e
    exact (x b u e).stay (fun c v _ q=>k c v q) (fun c q=>by rw [Zm (QF q hn)]; exact q) fun c xs q=>by rw [Zm (QF q hn)]; exact q
end
noncomputable def Rd (H:Hp) (a:Addr) (u:HO):Prop:=H a=some u∨∃ o,H a=some (.frz o u)
theorem Rd.of {H:Hp} {a:Addr} {u:HO} (h:H a=some u):Rd H a u:=.inl h
theorem Rd.ok {P:Program} {w:World} {H:Hp} {h:Heap} {a:Addr} {u:HO} (r:Rd H a u) (x:HOk P w H h):Jx P w H h a u:=by
  rcases r with r | ⟨o,r⟩
  · exact x a u r
  · obtain ⟨_,q⟩:=x a _ r
    exact q
noncomputable def Mut:Option HO→Prop
  | some (.lst _)=>True
  | some (.dK _)=>True
  | some (.dT _)=>True
  | some (.set _ _)=>True
  | some (.ins _ _ _)=>True
  | some (.ext _)=>True
  | _=>False
section
variable {P:Program} {w:World} {H:Hp} {h h':Heap} {x e:Addr} {o':HO}
theorem HOk.write (ok:HOk P w H h) (mu:Mut (H x)) (he:e=x∨H e=some (.own x)) (k:∀ b u,b≠e→h.get? b=some u→h'.get? b=some u) (heo:∃ u,h'.get? e=some u)
    (new:Jx P w (upd H x o') h' x o'):HOk P w (upd H x o') h':=fun b u q=>by
  have nown:∀ c y,H c=some (.own y)→c≠x:=fun c y r z=>by subst z; rw [r] at mu; exact mu
  have ntup:∀ c xs,H c=some (.tup xs)→c≠x:=fun c xs r z=>by subst z; rw [r] at mu; exact mu
  by_cases hb:b=x
  · subst hb; rw [ZK] at q; cases q; exact new
  · rw [Zm hb] at q
    by_cases hbe:b=e
    · have q':H b=some (.own x):=by
        rcases he with z | z
        · exact absurd (hbe.trans z) hb
        · rw [hbe]; exact z
      rw [q] at q'; cases q'
      obtain ⟨v,hv⟩:=heo
      exact ⟨v,by rw [hbe]; exact hv⟩
    · refine (ok b u q).stay (fun c v hc r=>k c v ?_ r) (fun c r=>by rw [Zm (nown c b r)]; exact r) fun c xs r=>by rw [Zm (ntup c xs r)]; exact r
      rcases hc with rfl | hc
      · exact hbe
      · rintro rfl
        rcases he with z | z
        · exact nown c b hc z
        · rw [hc] at z; cases z; exact hb rfl
end
structure Un (fs ex:List Addr) (H H':Hp) (h h':Heap):Prop where
  keep:∀ b o,h.get? b=some o→H b=none→b ∉ fs→b ∉ ex→h'.get? b=some o
  slot:∀ b o,h.get? b=some o→H b=none→b∈fs→b ∉ ex→∃ sl,h'.get? b=some { o with slots:=sl }
  free:∀ b o,h.get? b=some o→H b=none→b ∉ ex→H' b=none
  there:∀ b o,h.get? b=some o→b ∉ ex→∃ o',h'.get? b=some o'
  tups:∀ b xs,H b=some (.tup xs)→H' b=some (.tup xs)
  frzs:∀ b o u,H b=some (.frz o u)→H' b=some (.frz o u)
  tbls:∀ b ps,H b=some (.tbl ps)→∃ more,H' b=some (.tbl (ps++more))
section
variable {fs fs' ex ex':List Addr} {H H1 H2:Hp} {h h1 h2 h':Heap} {a x e:Addr} {o:HO}
theorem Un.any (u:Un fs ex H H1 h h1) {b:Addr} {ob:Obj} (q:h.get? b=some ob) (n:H b=none) (hx:b ∉ ex):∃ sl,h1.get? b=some { ob with slots:=sl }:=by
  by_cases hb:b∈fs
  · exact u.slot b ob q n hb hx
  · exact ⟨ob.slots,u.keep b ob q n hb hx⟩
theorem Un.trans (a:Un fs ex H H1 h h1) (b:Un fs ex H1 H2 h1 h2):Un fs ex H H2 h h2 where
  keep:=fun c ob q n hc hx=>b.keep c ob (a.keep c ob q n hc hx) (a.free c ob q n hx) hc hx
  slot:=fun c ob q n hc hx=>by
    obtain ⟨sl,e1⟩:=a.slot c ob q n hc hx
    obtain ⟨sl',e2⟩:=b.slot c _ e1 (a.free c ob q n hx) hc hx
    exact ⟨sl',e2⟩
  free:=fun c ob q n hx=>by
    obtain ⟨o',e1⟩:=a.there c ob q hx
    exact b.free c o' e1 (a.free c ob q n hx) hx
  there:=fun c ob q hx=>by
    obtain ⟨o',e1⟩:=a.there c ob q hx
    exact b.there c o' e1 hx
  tups:=fun c xs q=>b.tups c xs (a.tups c xs q)
  frzs:=fun c ob xs q=>b.frzs c ob xs (a.frzs c ob xs q)
  tbls:=fun c ps q=>by
    obtain ⟨m1,e1⟩:=a.tbls c ps q
    obtain ⟨m2,e2⟩:=b.tbls c _ e1
    exact ⟨m1++m2,by rw [e2,Array.append_assoc]⟩
theorem Un.kept (k:∀ b u,h.get? b=some u→h'.get? b=some u):Un fs ex H H h h' :=
  ⟨fun b ob q _ _ _=>k b ob q,fun b ob q _ _ _=>⟨ob.slots,k b ob q⟩,fun _ _ _ n _=>n,fun b ob q _=>⟨ob,k b ob q⟩,fun _ _ q=>q,fun _ _ _ q=>q,fun _ ps q=>⟨#[],by rw [q]; simp⟩⟩
theorem Un.refl:Un fs ex H H h h:=Un.kept fun _ _ q=>q
theorem Un.laid (k:∀ b u,h.get? b=some u→h'.get? b=some u) (hp:h.objs.size≤a) (hn:H a=none):Un fs ex H (upd H a o) h h' where
  keep:=fun b u q _ _ _=>k b u q
  slot:=fun b u q _ _ _=>⟨u.slots,k b u q⟩
  free:=fun b u q n _=>by rw [Zm (Nat.ne_of_lt (Nat.lt_of_lt_of_le (Heap.lt_size q) hp))]; exact n
  there:=fun b u q _=>⟨u,k b u q⟩
  tups:=fun b xs q=>by rw [Zm (QF q hn)]; exact q
  frzs:=fun b u xs q=>by rw [Zm (QF q hn)]; exact q
  tbls:=fun b ps q=>⟨#[],by rw [Zm (QF q hn),q]; simp⟩
theorem Un.write (mu:Mut (H x)) (he:e=x∨H e=some (.own x)) (k:∀ b u,b≠e→h.get? b=some u→h'.get? b=some u) (heo:∃ u,h'.get? e=some u):Un fs ex H (upd H x o) h h':=by
  have hx:∀ b,H b=none→b≠x:=fun b n z=>by subst z; rw [n] at mu; exact mu
  have hb:∀ b,H b=none→b≠e:=fun b n z=>by
    subst z
    rcases he with r | r
    · exact hx b n r
    · rw [n] at r; cases r
  have hm:∀ b u,H b=some u→¬ Mut (some u)→b≠x:=fun b u q nm z=>by subst z; rw [q] at mu; exact nm mu
  refine ⟨fun b u q n _ _=>k b u (hb b n) q,fun b u q n _ _=>⟨u.slots,k b u (hb b n) q⟩,fun b u q n _=>by rw [Zm (hx b n)]; exact n,fun b u q _=>?_,
    fun b xs q=>by rw [Zm (hm b _ q fun z=>z)]; exact q,fun b u xs q=>by rw [Zm (hm b _ q fun z=>z)]; exact q,fun b ps q=>⟨#[],by rw [Zm (hm b _ q fun z=>z),q]; simp⟩⟩
  by_cases hbe:b=e
  · subst hbe; exact heo
  · exact ⟨u,k b u hbe q⟩
theorem Un.mono (u:Un fs ex H H1 h h1) (hs:∀ b∈fs,b∈fs') (hx:∀ b∈ex,b∈ex'):Un fs' ex' H H1 h h1 :=
  ⟨fun b ob q n hb he=>u.keep b ob q n (fun z=>hb (hs b z)) fun z=>he (hx b z),fun _ _ q n _ he=>u.any q n fun z=>he (hx _ z),fun b ob q n he=>u.free b ob q n fun z=>he (hx b z),fun b ob q he=>u.there b ob q fun z=>he (hx b z),u.tups,u.frzs,u.tbls⟩
end
noncomputable def trk (h:Heap) (H:Hp):List Addr:=(List.range h.objs.size).filter fun a=>(H a).isSome
noncomputable def hidT (h:Heap) (H:Hp):Heap:=PySem.W.hideAll h (trk h H)
theorem Zhk (h:Heap) (H:Hp):(hidT h H).objs.size=h.objs.size:=PySem.W.hideAll_size _ _
theorem ZiS {h:Heap} {H:Hp} {b:Addr} {o:Obj} (e:h.get? b=some o) (n:H b=none):(hidT h H).get? b=some o :=
  PySem.W.hideAll_get _ e fun hm=>by
    have q:(H b).isSome=true:=(List.mem_filter.mp hm).2
    rw [n] at q; simp at q
theorem Zku {h:Heap} {H:Hp} {b:Addr} {o:Obj} (e:(hidT h H).get? b=some o):h.get? b=some o∧H b=none:=by
  have e':h.get? b=some o:=PySem.W.of_hideAll (trk h H) e
  refine ⟨e',?_⟩
  cases q:H b with
  | none=>rfl
  | some x =>
    have hm:b∈trk h H:=List.mem_filter.mpr ⟨List.mem_range.mpr (Heap.lt_size e'),by simp [q]⟩
    have z:(hidT h H).get? b=none:=PySem.W.hideAll_none (trk h H) hm
    rw [z] at e; cases e
noncomputable def Zk5 (g h:Heap) (L:Addr):List (Addr×Obj):=(List.range h.objs.size).filterMap fun a=>if a=L∨(g.get? a).isSome=true then none else (h.get? a).map fun o=>(a,o)
noncomputable def rest (g h:Heap) (L d:Addr):List (Addr×Obj):=(Zk5 g h L).filter fun p=>decide (p.1≠d)
end L2
namespace L2
open PySem PySem.Spec PyProof.Rows
structure Mod (K:PySem.W.Frag) (mg:Str→Option Value) (base:Heap):Prop where
  kin:K.In base
  glob:base.Ns mainGlobals mg
  blt:∃ mb,base.Ns builtinsNs mb∧∀ x:Str,x≠"__name__"→mb x=bootBuiltins x
  nolimit:base.NoLimit
structure Cx where
  prog:Program
  w:World
  K:PySem.W.Frag
  mg:Str→Option Value
  base:Heap
  A:Around
  N:List Str
  s₀:Shared
  H₀:Hp
  env:Env
  outer:List Env
  stack:List Env
  ex:List Addr
  fn:Str→Bool
  calm:Bool
  pn:List (Addr×Obj)
  xe:Value→Shared→Prop
noncomputable def frs (l:List Env):List Addr:=l.filterMap (·.frame)
noncomputable abbrev Cx.fs (X:Cx):List Addr:=frs X.outer
noncomputable def Vis (sc:Scope) (x:Str):Prop:=sc.names.lookup x=some .local∨sc.names.lookup x=some .cell∨sc.names.lookup x=some .free
noncomputable def Loc (sc:Scope) (x:Str):Prop:=sc.names.lookup x=some .local∨sc.names.lookup x=some .cell
noncomputable def Look (env:Env) (h:Heap) (m:Str→Option Value) (x:Str) (u:Value):Prop :=
  (env.kindOf x=some .local∧m x=some u)∨((env.kindOf x=some .cell∨env.kindOf x=some .free)∧∃ c,env.cells.lookup x=some c∧h.IsCell c (some u))
structure Cx.Ok (X:Cx):Prop where
  mod:Mod X.K X.mg X.base
  kind:X.env.scope.kind = .function
  glob:X.env.globals=mainGlobals
  blt:X.env.builtins=builtinsNs
  above:X.s₀.heap.objs.size≤X.env.locals
  inj:∀ x y c,X.env.cells.lookup x=some c→X.env.cells.lookup y=some c→x=y
  has:∀ x,(X.env.kindOf x=some .cell∨X.env.kindOf x=some .free)→∃ c,X.env.cells.lookup x=some c
  cab:∀ x c,X.fn x=true→X.env.cells.lookup x=some c→X.s₀.heap.objs.size≤c
  hd:X.calm=true→X.A.handled=none
  frames:X.A.frames=some X.stack
  stk:X.stack=X.outer∨(X.stack=X.env :: X.outer∧X.env.frame=some X.env.locals)
  exf:∀ b∈X.ex,b≠X.env.locals∧∀ x c,X.env.cells.lookup x=some c→c≠b
  bs:∀ b o,X.base.get? b=some o→X.s₀.heap.get? b=some o∧X.H₀ b=none
  bsz:X.base.objs.size≤X.s₀.heap.objs.size
  noex:∀ b o,X.base.get? b=some o→b ∉ X.ex
  exfs:∀ b∈X.ex,b ∉ X.fs
  funs:X.s₀.heap.FunFrames X.base X.outer
  frf:∀ b∈X.fs,X.H₀ b=none
structure Inv (X:Cx) (pins:List (Addr×Obj)) (σ:List (Option V)) (H:Hp) (s:Shared):Prop where
  ok:X.Ok
  os:s.os=X.s₀.os
  bare:AllBare s.gens
  base:Un X.fs X.ex X.H₀ H X.s₀.heap s.heap
  loc:∃ m,s.heap.Ns X.env.locals m∧∀ (i:Nat) (x:Str) (v:V),X.N[i]? = some x→σ[i]? = some (some v)→Vis X.env.scope x→∃ u,RelV v u∧Look X.env s.heap m x u
  cell:∀ x c,X.env.cells.lookup x=some c→∃ v,s.heap.IsCell c v
  free:H X.env.locals=none
  freeC:∀ x c,X.env.cells.lookup x=some c→H c=none
  pin:∀ p∈X.pn++pins,s.heap.get? p.1=some p.2∧H p.1=none∧p.1≠X.env.locals∧p.1 ∉ X.fs∧∀ v,p.2.data≠.cell v
  hok:HOk X.prog X.w H s.heap
  len:σ.length=X.N.length
section
variable {X:Cx} {pins:List (Addr×Obj)} {σ:List (Option V)} {H H':Hp} {s:Shared} {h':Heap}
theorem Cx.Ok.nofr (ok:X.Ok) {b:Addr} {o:Obj} (e:X.base.get? b=some o):b ∉ X.fs:=fun hb=>by
  have:=(ok.funs.mem hb).1
  rw [e] at this; cases this
theorem Inv.bs (I:Inv X pins σ H s):∀ b o,X.base.get? b=some o→s.heap.get? b=some o∧H b=none:=fun b o e =>
  ⟨I.base.keep b o (I.ok.bs b o e).1 (I.ok.bs b o e).2 (I.ok.nofr e) (I.ok.noex b o e),I.base.free b o (I.ok.bs b o e).1 (I.ok.bs b o e).2 (I.ok.noex b o e)⟩
theorem Inv.bk (I:Inv X pins σ H s):∀ b o,X.base.get? b=some o→s.heap.get? b=some o:=fun b o e=>(I.bs b o e).1
theorem Inv.mod (I:Inv X pins σ H s):Mod X.K X.mg X.base:=I.ok.mod
theorem Inv.kIn (I:Inv X pins σ H s):X.K.In s.heap:=I.ok.mod.kin.keeps I.bk
theorem Inv.nolimit (I:Inv X pins σ H s):s.heap.NoLimit:=I.ok.mod.nolimit.keeps I.bk
theorem Inv.fr (I:Inv X pins σ H s):∃ m,Fr X.base X.env.locals s.heap m :=
  let ⟨m,hn,_⟩:=I.loc
  ⟨m,hn,I.bk,Nat.le_trans I.ok.bsz I.ok.above⟩
theorem Inv.lt (I:Inv X pins σ H s):X.env.locals < s.heap.objs.size:=let ⟨_,hn,_⟩:=I.loc; hn.lt
theorem Inv.sz (I:Inv X pins σ H s):X.s₀.heap.objs.size≤s.heap.objs.size:=Nat.le_trans I.ok.above (Nat.le_of_lt I.lt)
theorem Inv.nofs (I:Inv X pins σ H s) {a:Addr} (h:s.heap.objs.size≤a):a ∉ X.fs:=fun hb=>by
  obtain ⟨_,o,ho,_⟩:=I.ok.funs.mem hb
  exact absurd (Nat.lt_of_lt_of_le (Heap.lt_size ho) (Nat.le_trans I.sz h)) (Nat.lt_irrefl _)
theorem Inv.cne (I:Inv X pins σ H s):∀ x c,X.env.cells.lookup x=some c→c≠X.env.locals:=fun x c e z=>by
  obtain ⟨v,o,ho,hd⟩:=I.cell x c e
  obtain ⟨m,⟨o',es,ep,ho',hd',_⟩,_⟩:=I.loc
  rw [z,ho'] at ho; cases ho; rw [hd'] at hd; cases hd
theorem Inv.funs (I:Inv X pins σ H s):s.heap.FunFrames X.base X.outer:=by
  have all:∀ (l:List Env),(∀ b∈frs l,b∈X.fs)→X.s₀.heap.FunFrames X.base l→s.heap.FunFrames X.base l:=by
    intro l
    induction l with
    | nil=>intro _ _; trivial
    | cons env r ih =>
      intro hs hl
      obtain ⟨hk,⟨L,o,hf,hn,ho,hd⟩,hr⟩:=hl
      have hL:L∈X.fs:=hs L (by unfold frs; rw [List.filterMap_cons,hf]; exact List.mem_cons_self)
      obtain ⟨sl,e⟩:=I.base.slot L o ho (I.ok.frf L hL) hL fun z=>I.ok.exfs L z hL
      exact ⟨hk,⟨L,_,hf,hn,e,hd⟩,ih (fun b hb=>hs b (by unfold frs; rw [List.filterMap_cons,hf]; exact List.mem_cons_of_mem _ hb)) hr⟩
  exact all X.outer (fun _ hb=>hb) I.ok.funs
theorem Inv.stack (I:Inv X pins σ H s):s.heap.FunFrames X.base X.stack:=by
  rcases I.ok.stk with e | ⟨e,hf⟩
  · rw [e]; exact I.funs
  · rw [e]
    obtain ⟨m,hn,_⟩:=I.loc
    refine .cons (by rw [I.ok.kind]; decide) hf hn ?_ I.funs
    exact Heap.get?_none_of_le (Nat.le_trans I.ok.bsz I.ok.above)
theorem Inv.stkSub (I:Inv X pins σ H s):∀ b∈frs X.stack,b∈X.env.locals :: X.fs:=fun b hb=>by
  rcases I.ok.stk with e | ⟨e,hf⟩
  · rw [e] at hb; exact List.mem_cons_of_mem _ hb
  · rw [e] at hb
    unfold frs at hb
    rw [List.filterMap_cons,hf] at hb
    exact hb
theorem Inv.stkFree (I:Inv X pins σ H s):∀ b∈frs X.stack,H b=none:=fun b hb=>by
  rcases List.mem_cons.mp (I.stkSub b hb) with e | hb
  · rw [e]; exact I.free
  · obtain ⟨_,o,ho,_⟩:=I.ok.funs.mem hb
    exact I.base.free b o ho (I.ok.frf b hb) fun z=>I.ok.exfs b z hb
theorem Inv.step {g':Array GenState} {t':Nat} {d':Drawn} {ch:List Addr} (I:Inv X pins σ H s)
    (hch:∀ b∈ch,(b∈X.ex∨X.s₀.heap.objs.size≤b)∧b≠X.env.locals∧(∀ x c,X.env.cells.lookup x=some c→c≠b)∧∀ p∈X.pn++pins,p.1≠b)
    (keep:∀ b o,b≠X.env.locals→b ∉ X.fs→b ∉ ch→s.heap.get? b=some o→H b=none→h'.get? b=some o)
    (slot:∀ b o,b≠X.env.locals→b∈X.fs→b ∉ ch→s.heap.get? b=some o→H b=none→∃ sl,h'.get? b=some { o with slots:=sl }) (free:∀ b o,b ∉ ch→s.heap.get? b=some o→H b=none→H' b=none)
    (there:∀ b o,b ∉ ch→s.heap.get? b=some o→∃ o',h'.get? b=some o')
    (tups:∀ b xs,H b=some (.tup xs)→H' b=some (.tup xs)) (frzs:∀ b o u,H b=some (.frz o u)→H' b=some (.frz o u)) (tbls:∀ b ps,H b=some (.tbl ps)→∃ more,H' b=some (.tbl (ps++more)))
    (ns:∀ m,s.heap.Ns X.env.locals m→h'.Ns X.env.locals m) (hok:HOk X.prog X.w H' h') (hg:AllBare g') :
    Inv X pins σ H' { s with heap:=h',gens:=g',drawn:=d',toks:=t' }:=by
  have neL:∀ b o,X.s₀.heap.get? b=some o→b≠X.env.locals:=fun b o e=>Nat.ne_of_lt (Nat.lt_of_lt_of_le (Heap.lt_size e) I.ok.above)
  have neC:∀ b o,X.s₀.heap.get? b=some o→b ∉ X.ex→b ∉ ch:=fun b o e hx hb=>by
    rcases (hch b hb).1 with z | z
    · exact hx z
    · exact absurd (Nat.lt_of_lt_of_le (Heap.lt_size e) z) (Nat.lt_irrefl _)
  have cellK:∀ x c,X.env.cells.lookup x=some c→∀ v,s.heap.IsCell c v→h'.IsCell c v:=fun x c e v ⟨o,ho,hd⟩=>by
    have nch:c ∉ ch:=fun z=>(hch c z).2.2.1 x c e rfl
    by_cases hc:c∈X.fs
    · obtain ⟨sl,q⟩:=slot c o (I.cne x c e) hc nch ho (I.freeC x c e)
      exact ⟨_,q,hd⟩
    · exact ⟨o,keep c o (I.cne x c e) hc nch ho (I.freeC x c e),hd⟩
  refine ⟨I.ok,I.os,hg,⟨fun b o e n hb hx=>?_,fun b o e n hb hx=>?_,fun b o e n hx=>?_,fun b o e hx=>?_,fun b xs e=>tups b xs (I.base.tups b xs e),fun b o xs e=>frzs b o xs (I.base.frzs b o xs e),fun b ps e=>?_⟩,?_,fun x c e=>?_,?_,fun x c e=>?_,fun p hp=>?_,hok,I.len⟩
  · exact keep b o (neL b o e) hb (neC b o e hx) (I.base.keep b o e n hb hx) (I.base.free b o e n hx)
  · obtain ⟨sl,e1⟩:=I.base.slot b o e n hb hx
    obtain ⟨sl',e2⟩:=slot b _ (neL b o e) hb (neC b o e hx) e1 (I.base.free b o e n hx)
    exact ⟨sl',e2⟩
  · obtain ⟨o',e1⟩:=I.base.there b o e hx
    exact free b o' (neC b o e hx) e1 (I.base.free b o e n hx)
  · obtain ⟨o',e1⟩:=I.base.there b o e hx
    exact there b o' (neC b o e hx) e1
  · obtain ⟨m1,e1⟩:=I.base.tbls b ps e
    obtain ⟨m2,e2⟩:=tbls b _ e1
    exact ⟨m1++m2,by rw [e2,Array.append_assoc]⟩
  · obtain ⟨m,hn,hl⟩:=I.loc
    refine ⟨m,ns m hn,fun i x v e1 e2 e3=>?_⟩
    obtain ⟨u,r,l⟩:=hl i x v e1 e2 e3
    refine ⟨u,r,?_⟩
    rcases l with l | ⟨k,c,e,z⟩
    · exact .inl l
    · exact .inr ⟨k,c,e,cellK x c e _ z⟩
  · obtain ⟨v,z⟩:=I.cell x c e
    exact ⟨v,cellK x c e v z⟩
  · obtain ⟨m,⟨o,_,_,ho,_⟩,_⟩:=I.loc
    exact free _ o (fun z=>(hch _ z).2.1 rfl) ho I.free
  · obtain ⟨v,o,ho,hd⟩:=I.cell x c e
    exact free c o (fun z=>(hch c z).2.2.1 x c e rfl) ho (I.freeC x c e)
  · obtain ⟨e,n,ne,nf,d⟩:=I.pin p hp
    have nch:p.1 ∉ ch:=fun z=>(hch p.1 z).2.2.2 p hp rfl
    exact ⟨keep p.1 p.2 ne nf nch e n,free p.1 p.2 nch e n,ne,nf,d⟩
theorem Inv.un {t':Nat} (I:Inv X pins σ H s) (u:Un X.fs [] H H' s.heap h') (hok:HOk X.prog X.w H' h'):Inv X pins σ H' { s with heap:=h',toks:=t' }:=by
  obtain ⟨m,⟨o,es,ep,ho,r⟩,_⟩:=id I.loc
  obtain ⟨sl,hL⟩:=u.any ho I.free (by simp)
  exact I.step (g':=s.gens) (d':=s.drawn) (ch:=[]) (fun _ z=>nomatch z) (fun b o _ hb _ e n=>u.keep b o e n hb (by simp)) (fun b o _ hb _ e n=>u.slot b o e n hb (by simp)) (fun b o _ e n=>u.free b o e n (by simp)) (fun b o _ e=>u.there b o e (by simp)) u.tups u.frzs u.tbls (fun m' hm=>by
    obtain ⟨o',es',ep',ho',r'⟩:=hm
    rw [ho] at ho'; cases ho'
    exact ⟨_,es',ep',hL,r'⟩) hok I.bare
theorem Inv.call {g':Array GenState} {t':Nat} {d':Drawn} {ch:List Addr} (I:Inv X pins σ H s) (u:Un (frs X.stack) ch H H' s.heap h') (hok:HOk X.prog X.w H' h') (hg:AllBare g')
    (hch:∀ b∈ch,(b∈X.ex∨X.s₀.heap.objs.size≤b)∧b≠X.env.locals∧(∀ x c,X.env.cells.lookup x=some c→c≠b)∧∀ p∈X.pn++pins,p.1≠b) :
    Inv X pins σ H' { s with heap:=h',gens:=g',drawn:=d',toks:=t' }:=by
  obtain ⟨m,⟨o,es,ep,ho,r⟩,_⟩:=id I.loc
  obtain ⟨sl,hL⟩:=u.any ho I.free fun z=>(hch _ z).2.1 rfl
  exact I.step (ch:=ch) hch (fun b o hL hb hc e n=>u.keep b o e n (fun z=>(List.mem_cons.mp (I.stkSub b z)).elim hL hb) hc) (fun b o _ _ hc e n=>u.any e n hc) (fun b o hc e n=>u.free b o e n hc) (fun b o hc e=>u.there b o e hc) u.tups u.frzs u.tbls (fun m' hm=>by
    obtain ⟨o',es',ep',ho',r'⟩:=hm
    rw [ho] at ho'; cases ho'
    exact ⟨_,es',ep',hL,r'⟩) hok hg
theorem Inv.turned {t':Nat} {it:Addr} (I:Inv X pins σ H s) (k:∀ b o,b≠it→s.heap.get? b=some o→h'.get? b=some o) (hn:H it=none) (hL:it≠X.env.locals)
    (h1:it∈X.ex∨X.s₀.heap.objs.size≤it) (h2:∀ x c,X.env.cells.lookup x=some c→c≠it) (h3:∀ p∈X.pn++pins,p.1≠it):Inv X pins σ H { s with heap:=h',toks:=t' }:=by
  have nit:∀ b u,H b=some u→b≠it:=fun b u e z=>by rw [z,hn] at e; cases e
  refine I.step (g':=s.gens) (d':=s.drawn) (ch:=[it]) (fun b hb=>?_) (fun b o _ _ hc e _=>k b o (fun z=>hc (by simp [z])) e) (fun b o _ _ hc e _=>⟨o.slots,k b o (fun z=>hc (by simp [z])) e⟩) (fun _ _ _ _ n=>n)
    (fun b o hc e=>⟨o,k b o (fun z=>hc (by simp [z])) e⟩) (fun _ _ e=>e) (fun _ _ _ e=>e) (fun b ps e=>⟨#[],by rw [e]; simp⟩) (fun m hm=>?_) (fun b u e=>?_) I.bare
  · have e:b=it:=by simpa using hb
    subst e
    exact ⟨h1,hL,h2,h3⟩
  · obtain ⟨o,es,ep,ho,r⟩:=hm
    exact ⟨o,es,ep,k _ o (Ne.symm hL) ho,r⟩
  · refine (I.hok b u e).stay (fun c v hc q=>k c v ?_ q) (fun _ q=>q) fun _ _ q=>q
    rcases hc with z | z
    · rw [z]; exact nit b u e
    · exact nit c _ z
theorem Inv.tok (I:Inv X pins σ H s) (t:Nat):Inv X pins σ H { s with toks:=t }:=I.un (h':=s.heap) (t':=t) Un.refl I.hok
theorem Inv.kept {t':Nat} (I:Inv X pins σ H s) (k:∀ b u,s.heap.get? b=some u→h'.get? b=some u):Inv X pins σ H { s with heap:=h',toks:=t' }:=I.un (Un.kept k) (I.hok.kept k)
theorem Inv.laid {a:Addr} {o:HO} {t':Nat} (I:Inv X pins σ H s) (k:∀ b u,s.heap.get? b=some u→h'.get? b=some u) (hp:s.heap.objs.size≤a) (new:Jx X.prog X.w (upd H a o) h' a o) :
    Inv X pins σ (upd H a o) { s with heap:=h',toks:=t' }:=I.un (Un.laid k hp (I.hok.fresh hp)) (I.hok.laid k hp new)
theorem Inv.write {x e:Addr} {o:HO} {t':Nat} (I:Inv X pins σ H s) (mu:Mut (H x)) (he:e=x∨H e=some (.own x)) (k:∀ b u,b≠e→s.heap.get? b=some u→h'.get? b=some u) (heo:∃ u,h'.get? e=some u)
    (new:Jx X.prog X.w (upd H x o) h' x o):Inv X pins σ (upd H x o) { s with heap:=h',toks:=t' }:=I.un (Un.write mu he k heo) (I.hok.write mu he k heo new)
theorem Inv.weak {σ':List (Option V)} (I:Inv X pins σ H s) (hl:σ'.length=σ.length) (w:∀ (i:Nat) v,σ'[i]? = some (some v)→σ[i]? = some (some v)):Inv X pins σ' H s :=
  ⟨I.ok,I.os,I.bare,I.base,let ⟨m,hn,hl'⟩:=I.loc; ⟨m,hn,fun i x v e1 e2 e3=>hl' i x v e1 (w i v e2) e3⟩,I.cell,I.free,I.freeC,I.pin,I.hok,hl.trans I.len⟩
theorem Inv.pins_of {pins':List (Addr×Obj)} (I:Inv X pins σ H s) (h:∀ p∈pins',s.heap.get? p.1=some p.2∧H p.1=none∧p.1≠X.env.locals∧p.1 ∉ X.fs∧∀ v,p.2.data≠.cell v):Inv X pins' σ H s :=
  ⟨I.ok,I.os,I.bare,I.base,I.loc,I.cell,I.free,I.freeC,fun p hp=>(List.mem_append.mp hp).elim (fun z=>I.pin p (List.mem_append_left _ z)) (h p),I.hok,I.len⟩
theorem ZcB {N:List Str} (hN:N.Nodup) {i j:Nat} {x:Str} (a:N[i]? = some x) (b:N[j]? = some x):i=j:=by
  obtain ⟨h1,e1⟩:=List.getElem?_eq_some_iff.mp a
  obtain ⟨h2,e2⟩:=List.getElem?_eq_some_iff.mp b
  exact (List.getElem_inj hN).mp (e1.trans e2.symm)
theorem ZcX {M:Model} {A:Around} {E:Value→Shared→Prop} {i:Nat} {x:Str} {v:V} {u:Value} {Q:Unit→Shared→Prop} (I:Inv X pins σ H s) (hN:X.N.Nodup) (hi:X.N[i]? = some x) (hx:Loc X.env.scope x) (r:RelV v u)
    (h:∀ s',Inv X pins (σ.set i (some v)) H s'→(∃ a,Heap.SameBut a s.heap s'.heap∧(a=X.env.locals∨X.env.cells.lookup x=some a))→Q () s') (hf:X.fn x=true∨X.env.scope.names.lookup x=some .local:=by first | exact .inl rfl | exact .inr rfl | assumption):wpAny M A (storeName X.env x u) Q E s:=by
  obtain ⟨m,hn,hl⟩:=id I.loc
  have hcls:(X.env.scope.kind == .class || (X.env.scope.kind == .module && X.env.locals != X.env.globals))=false:=by rw [I.ok.kind]; rfl
  have hiσ:i < σ.length:=by rw [I.len]; exact (List.getElem?_eq_some_iff.mp hi).1
  have cne:=I.cne
  have tracked:∀ {a:Addr} {h':Heap},(∃ o,s.heap.get? a=some o∧H a=none)→Heap.SameBut a s.heap h'→HOk X.prog X.w H h':=fun {a h'} ha hs b ob e=>by
    obtain ⟨_,_,hfree⟩:=ha
    refine (I.hok b ob e).stay (fun c w' hc q=>(hs.2 c ?_).trans q) (fun _ q=>q) fun _ _ q=>q
    rintro rfl
    rcases hc with rfl | hc
    · rw [hfree] at e; cases e
    · rw [hfree] at hc; cases hc
  rcases hx with hk | hk
  · refine wpAny_storeName_local hk hn (fun h' hn' hs=>?_) hcls
    obtain ⟨oL,_,_,hoL,_⟩:=id hn
    refine h _ ⟨I.ok,I.os,I.bare,⟨fun b o e n hb hx=>?_,fun b o e n hb hx=>?_,I.base.free,fun b o e hx=>?_,I.base.tups,I.base.frzs,I.base.tbls⟩,⟨_,hn',fun j y v' e1 e2 e3=>?_⟩,fun y c e=>?_,I.free,I.freeC,fun p hp=>?_,tracked ⟨oL,hoL,I.free⟩ hs,by simpa using I.len⟩ ⟨_,hs,.inl rfl⟩
    · exact (hs.2 b (Nat.ne_of_lt (Nat.lt_of_lt_of_le (Heap.lt_size e) I.ok.above))).trans (I.base.keep b o e n hb hx)
    · obtain ⟨sl,e1⟩:=I.base.slot b o e n hb hx
      exact ⟨sl,(hs.2 b (Nat.ne_of_lt (Nat.lt_of_lt_of_le (Heap.lt_size e) I.ok.above))).trans e1⟩
    · obtain ⟨o',e1⟩:=I.base.there b o e hx
      exact ⟨o',(hs.2 b (Nat.ne_of_lt (Nat.lt_of_lt_of_le (Heap.lt_size e) I.ok.above))).trans e1⟩
    · by_cases hj:j=i
      · subst hj
        rw [hi] at e1; cases e1
        rw [List.getElem?_set_self hiσ] at e2
        cases e2
        exact ⟨u,r,.inl ⟨hk,by simp⟩⟩
      · rw [List.getElem?_set_ne (Ne.symm hj)] at e2
        obtain ⟨u',r',q⟩:=hl j y v' e1 e2 e3
        refine ⟨u',r',?_⟩
        rcases q with ⟨k,e⟩ | ⟨k,c,e,z⟩
        · refine .inl ⟨k,?_⟩
          have:y≠x:=fun e=>hj (ZcB hN e1 (e ▸ hi))
          simp [this,e]
        · exact .inr ⟨k,c,e,z.sameBut hs (cne y c e)⟩
    · obtain ⟨w',z⟩:=I.cell y c e
      exact ⟨w',z.sameBut hs (cne y c e)⟩
    · obtain ⟨e,n,ne,nf,d⟩:=I.pin p hp
      exact ⟨(hs.2 p.1 ne).trans e,n,ne,nf,d⟩
  · have hfn:X.fn x=true:=by
      rcases hf with z | z
      · exact z
      · rw [z] at hk; cases hk
    obtain ⟨c,hc⟩:=I.ok.has x (.inl hk)
    obtain ⟨w',z⟩:=I.cell x c hc
    refine wpAny_storeName_cell I.ok.kind hk hc z (fun h' hc' hs=>?_)
    obtain ⟨oc,hoc,hocd⟩:=id z
    refine h { s with heap:=h' } ⟨I.ok,I.os,I.bare,⟨fun b o e n hb hx=>?_,fun b o e n hb hx=>?_,I.base.free,fun b o e hx=>?_,I.base.tups,I.base.frzs,I.base.tbls⟩,⟨m,hn.sameBut hs (Ne.symm (cne x c hc)),fun j y v' e1 e2 e3=>?_⟩,fun y c' e=>?_,I.free,I.freeC,fun p hp=>?_,tracked ⟨oc,hoc,I.freeC x c hc⟩ hs,by simpa using I.len⟩ ⟨c,hs,.inr hc⟩
    · exact (hs.2 b (Nat.ne_of_lt (Nat.lt_of_lt_of_le (Heap.lt_size e) (I.ok.cab x c hfn hc)))).trans (I.base.keep b o e n hb hx)
    · obtain ⟨sl,e1⟩:=I.base.slot b o e n hb hx
      exact ⟨sl,(hs.2 b (Nat.ne_of_lt (Nat.lt_of_lt_of_le (Heap.lt_size e) (I.ok.cab x c hfn hc)))).trans e1⟩
    · obtain ⟨o',e1⟩:=I.base.there b o e hx
      exact ⟨o',(hs.2 b (Nat.ne_of_lt (Nat.lt_of_lt_of_le (Heap.lt_size e) (I.ok.cab x c hfn hc)))).trans e1⟩
    · by_cases hj:j=i
      · subst hj
        rw [hi] at e1; cases e1
        rw [List.getElem?_set_self hiσ] at e2
        cases e2
        exact ⟨u,r,.inr ⟨.inl hk,c,hc,hc'⟩⟩
      · rw [List.getElem?_set_ne (Ne.symm hj)] at e2
        obtain ⟨u',r',q⟩:=hl j y v' e1 e2 e3
        refine ⟨u',r',?_⟩
        rcases q with q | ⟨k,c',e,z'⟩
        · exact .inl q
        · refine .inr ⟨k,c',e,z'.sameBut hs ?_⟩
          rintro rfl
          exact hj (ZcB hN e1 (I.ok.inj _ _ _ e hc ▸ hi))
    · by_cases hcc:c' = c
      · subst hcc; exact ⟨_,hc'⟩
      · obtain ⟨w2,z2⟩:=I.cell y c' e
        exact ⟨w2,z2.sameBut hs hcc⟩
    · obtain ⟨e,n,ne,nf,d⟩:=I.pin p hp
      refine ⟨(hs.2 p.1 ?_).trans e,n,ne,nf,d⟩
      intro q
      rw [q,hoc] at e
      have q':oc=p.2:=Option.some.inj e
      exact d w' (by rw [← q']; exact hocd)
theorem Xf {M:Model} {A:Around} {E:Value→Shared→Prop} {i:Nat} {x:Str} {v:V} {u:Value} {Q:Unit→Shared→Prop} (I:Inv X pins σ H s) (hN:X.N.Nodup) (hi:X.N[i]? = some x) (hx:Loc X.env.scope x) (r:RelV v u)
    (h:∀ s',Inv X pins (σ.set i (some v)) H s'→Q () s') (hf:X.fn x=true∨X.env.scope.names.lookup x=some .local:=by first | exact .inl rfl | exact .inr rfl | assumption):wpAny M A (storeName X.env x u) Q E s :=
  ZcX I hN hi hx r (fun s' I' _=>h s' I') hf
theorem Inv.call' {s':Shared} {ch:List Addr} (I:Inv X pins σ H s) (ho:s'.os=s.os) (u:Un (frs X.stack) ch H H' s.heap s'.heap) (hok:HOk X.prog X.w H' s'.heap) (hg:AllBare s'.gens)
    (hch:∀ b∈ch,(b∈X.ex∨X.s₀.heap.objs.size≤b)∧b≠X.env.locals∧(∀ x c,X.env.cells.lookup x=some c→c≠b)∧∀ p∈X.pn++pins,p.1≠b):Inv X pins σ H' s':=by
  obtain ⟨h',g',d',t',o'⟩:=s'
  have e:o' = s.os:=ho
  subst e
  exact I.call (g':=g') (t':=t') (d':=d') u hok hg hch
end
noncomputable abbrev XK:=Value→Option Addr→Hp→Prop
noncomputable abbrev St:=List (Option V)
noncomputable abbrev VK:=V→Hp→Prop
noncomputable abbrev TE:=St→Hp→VK→Prop
noncomputable abbrev TT:=St→Hp→(Bool→Hp→Prop)→Prop
noncomputable abbrev TA:=St→Hp→(List V→Hp→Prop)→Prop
structure Ends where
  nx:St→Hp→Prop
  rt:VK
  bk:St→Hp→Prop:=fun _ _=>False
  ct:St→Hp→Prop:=fun _ _=>False
noncomputable abbrev TS:=Ends→St→Hp→Prop
noncomputable def EP (X:Cx) (pins:List (Addr×Obj)) (σ:St) (Q:VK) (u:Value) (s':Shared):Prop:=∃ v H',Inv X pins σ H' s'∧RelV v u∧Q v H'
noncomputable def TP (X:Cx) (pins:List (Addr×Obj)) (σ:St) (Q:Bool→Hp→Prop) (b:Bool) (s':Shared):Prop:=∃ H',Inv X pins σ H' s'∧Q b H'
noncomputable def AP (X:Cx) (pins:List (Addr×Obj)) (σ:St) (Q:List V→Hp→Prop) (us:List Value) (s':Shared):Prop:=∃ vs H',Inv X pins σ H' s'∧Vals vs us∧Q vs H'
noncomputable def SP (X:Cx) (pins:List (Addr×Obj)) (D:Ends) (f:Flow) (s':Shared):Prop :=
  match f with
  | .next=>∃ σ' H',Inv X pins σ' H' s'∧D.nx σ' H'
  | .brk=>∃ σ' H',Inv X pins σ' H' s'∧D.bk σ' H'
  | .cont=>∃ σ' H',Inv X pins σ' H' s'∧D.ct σ' H'
  | .ret u=>∃ v σ' H',Inv X pins σ' H' s'∧RelV v u∧D.rt v H'
noncomputable def PE (X:Cx) (e:Expr) (t:TE):Prop :=
  ∀ (pins:List (Addr×Obj)) (s:Shared) (σ:St) (H:Hp) (Q:VK),Inv X pins σ H s→t σ H Q→wpAny (model X.prog X.w) X.A (eval e X.env) (EP X pins σ Q) X.xe s
noncomputable def PT (X:Cx) (e:Expr) (t:TT):Prop :=
  ∀ (pins:List (Addr×Obj)) (s:Shared) (σ:St) (H:Hp) (Q:Bool→Hp→Prop),Inv X pins σ H s→t σ H Q→wpAny (model X.prog X.w) X.A (isTrue e X.env (eval e X.env)) (TP X pins σ Q) X.xe s
noncomputable def PW (X:Cx) (e:Expr) (t:TT):Prop :=
  ∀ (whole:Sem Value) (pins:List (Addr×Obj)) (s:Shared) (σ:St) (H:Hp) (Q:Bool→Hp→Prop),Inv X pins σ H s→t σ H Q→wpAny (model X.prog X.w) X.A (isTrue e X.env whole) (TP X pins σ Q) X.xe s
theorem PW.pt {X:Cx} {e:Expr} {t:TT} (h:PW X e t):PT X e t:=h _
noncomputable def PA (X:Cx) (es:List Expr) (t:TA):Prop :=
  ∀ (pos:Pos) (pins:List (Addr×Obj)) (s:Shared) (σ:St) (H:Hp) (Q:List V→Hp→Prop),Inv X pins σ H s→t σ H Q→wpAny (model X.prog X.w) X.A (spliced (backTo pos (starEach es X.env))) (AP X pins σ Q) X.xe s
noncomputable def PS (X:Cx) (st:Stmt) (t:TS):Prop :=
  ∀ (pins:List (Addr×Obj)) (s:Shared) (σ:St) (H:Hp) (D:Ends),Inv X pins σ H s→t D σ H→wpAny (model X.prog X.w) X.A (exec st X.env) (SP X pins D) X.xe s
noncomputable def PSs (X:Cx) (st:List Stmt) (t:TS):Prop :=
  ∀ (pins:List (Addr×Obj)) (s:Shared) (σ:St) (H:Hp) (D:Ends),Inv X pins σ H s→t D σ H→wpAny (model X.prog X.w) X.A (execs st X.env) (SP X pins D) X.xe s
theorem thn {α:Type} {t:Sem α} {Q Q':α→Shared→Prop} {M:Model} {A:Around} {E:Value→Shared→Prop} {s:Shared} (h:wpAny M A t Q E s) (hQ:∀ a s,Q a s→Q' a s):wpAny M A t Q' E s:=wpAny_mono h hQ fun _ _ x=>x
end L2
namespace L2
open PySem PySem.Spec PyProof.Rows
section
variable {X:Cx}
theorem bin {a b:Expr} {ta tb:TE} (ha:PE X a ta) (hb:PE X b tb) {pins:List (Addr×Obj)} {s:Shared} {σ:St} {H:Hp} {R:V→V→Hp→Prop} (I:Inv X pins σ H s) (h:ta σ H fun x H1=>tb σ H1 fun y H2=>R x y H2)
    {α:Type} {Q:α→Shared→Prop} {f:Value→Value→Sem α}
    (hf:∀ v u s2 x y H2,Inv X pins σ H2 s2→RelV x v→RelV y u→R x y H2→wpAny (model X.prog X.w) X.A (f v u) Q X.xe s2) :
    wpAny (model X.prog X.w) X.A (eval a X.env) (fun v s₁=>wpAny (model X.prog X.w) X.A (eval b X.env) (fun u s₂=>wpAny (model X.prog X.w) X.A (f v u) Q X.xe s₂) X.xe s₁) X.xe s:=by
  refine thn (ha pins s σ H _ I h) fun v s1 ⟨x,H1,I1,r1,q1⟩=>?_
  refine thn (hb pins s1 σ H1 _ I1 q1) fun u s2 ⟨y,H2,I2,r2,q2⟩=>?_
  exact hf v u s2 x y H2 I2 r1 r2 q2
noncomputable def tVar (i:Nat):TE:=fun σ H Q=>∃ v,σ[i]? = some (some v)∧Q v H
noncomputable def tC (v:V):TE:=fun _ H Q=>Q v H
theorem ZgE {i:Nat} {x:Str} {pos:Pos} (hN:X.N[i]? = some x) (hv:Vis X.env.scope x) (hd:(x == ("__debug__" : Str))=false:=by decide) (hcd:(x == ("__classdict__" : Str))=false:=by decide):PE X (.Name x pos) (tVar i):=by
  intro pins s σ H Q I h
  obtain ⟨v,e,h⟩:=h
  obtain ⟨m,hn,hl⟩:=I.loc
  obtain ⟨u,r,l⟩:=hl i x v hN e hv
  have fin:EP X pins σ Q u s:=⟨v,H,I,r,h⟩
  rcases l with ⟨hk,hm⟩ | ⟨hk,c,hc,hcell⟩
  · exact wpAny_Name (wpAny_loadName_local I.ok.kind hk hn hm fin) hd
  · rcases hk with hk | hk
    · exact wpAny_Name (wpAny_loadName_cell I.ok.kind hk hc hcell fin) hd
    · exact wpAny_Name (wpAny_loadName_free I.ok.kind hk hc hcell fin hcd) hd
theorem pe_int {i j pos}:PE X (.Constant (.int i) j pos) (tC (.int i)):=fun _ _ _ H _ I h=>wpAny_Constant_int ⟨.int i,H,I.tok _,⟨_,rfl⟩,h⟩
theorem pe_bl {b j pos}:PE X (.Constant (.bool b) j pos) (tC (.bl b)):=fun _ _ _ H _ I h=>Constant_bool ⟨.bl b,H,I,rfl,h⟩
theorem pe_non {j pos}:PE X (.Constant .none j pos) (tC .non):=fun _ _ _ H _ I h=>Constant_none ⟨.non,H,I,rfl,h⟩
theorem pe_str {x j pos}:PE X (.Constant (.str x) j pos) (tC (.str x)):=fun _ _ _ H _ I h=>Calls.Constant_str ⟨.str x,H,I.tok _,⟨_,rfl⟩,h⟩
noncomputable def Gl (X:Cx) (x:Str):Prop:=X.env.kindOf x=some .globalImplicit
theorem Zat {E:Value→Shared→Prop} {pins:List (Addr×Obj)} {s:Shared} {σ:St} {H:Hp} {x:Str} {u:Value} {pos:Pos} {Q:Value→Shared→Prop} (I:Inv X pins σ H s) (hg:Gl X x) (hm:X.mg x=some u) (h:Q u s)
    (hd:(x == ("__debug__" : Str))=false:=by decide):wpAny (model X.prog X.w) X.A (eval (.Name x pos) X.env) Q E s :=
  Calls.Name_function_global I.ok.kind hg (Calls.loadGlobal_global (by rw [I.ok.glob]; exact I.mod.glob.keeps I.bk) hm h) hd
theorem ZeR {E:Value→Shared→Prop} {pins:List (Addr×Obj)} {s:Shared} {σ:St} {H:Hp} {x:Str} {u:Value} {pos:Pos} {Q:Value→Shared→Prop} (I:Inv X pins σ H s) (hg:Gl X x) (hm:X.mg x=none) (hv:bootBuiltins x=some u) (h:Q u s)
    (hn:x≠"__name__":=by decide) (hd:(x == ("__debug__" : Str))=false:=by decide):wpAny (model X.prog X.w) X.A (eval (.Name x pos) X.env) Q E s:=by
  obtain ⟨mb,h1,h2⟩:=I.mod.blt
  exact Calls.Name_function_global I.ok.kind hg (Calls.loadGlobal_builtin (by rw [I.ok.glob]; exact I.mod.glob.keeps I.bk) hm (by rw [I.ok.blt]; exact h1.keeps I.bk) ((h2 x hn).trans hv) h) hd
theorem QQ {x:Str} {v:V} {u:Value} {pos:Pos} (hg:Gl X x) (hm:X.mg x=some u) (r:RelV v u) (hd:(x == ("__debug__" : Str))=false:=by decide):PE X (.Name x pos) (tC v) :=
  fun _ _ _ H _ I h=>Zat I hg hm ⟨v,H,I,r,h⟩ hd
theorem ZgK {x:Str} {v:V} {u:Value} {pos:Pos} (hg:Gl X x) (hm:X.mg x=none) (hv:bootBuiltins x=some u) (r:RelV v u) (hn:x≠"__name__":=by decide) (hd:(x == ("__debug__" : Str))=false:=by decide):PE X (.Name x pos) (tC v) :=
  fun _ _ _ H _ I h=>ZeR I hg hm hv ⟨v,H,I,r,h⟩ hn hd
variable {a b:Expr} {ta tb:TE} {pos:Pos}
noncomputable def PC (X:Cx) (op:CmpOp) (a b:Expr) (t:TE):Prop :=
  ∀ (pins:List (Addr×Obj)) (s:Shared) (σ:St) (H:Hp) (Q:VK),Inv X pins σ H s→t σ H Q →
    wpAny (model X.prog X.w) X.A (eval a X.env) (fun v s₁=>wpAny (model X.prog X.w) X.A (eval b X.env) (fun u s₂=>wpAny (model X.prog X.w) X.A (compareOp op v u) (EP X pins σ Q) X.xe s₂) X.xe s₁) X.xe s
theorem ZiL (b:Expr) {op:CmpOp} (h:op≠.In) (h2:op≠.NotIn):behindInMarks op b=false:=by
  have e1:(op == CmpOp.In)=false:=by cases op <;> first | rfl | exact absurd rfl h
  have e2:(op == CmpOp.NotIn)=false:=by cases op <;> first | rfl | exact absurd rfl h2
  cases b <;> simp [behindInMarks,e1,e2]
noncomputable def tB (t:TE):TT:=fun σ H Q=>t σ H fun x H1=>∃ c,x = .bl c∧Q c H1
theorem pt_cmp {op:CmpOp} {t:TE} (h:PC X op a b t) (h1:behindInMarks op b=false:=by first | exact ZiL _ (by decide) (by decide) | rfl):PT X (.Compare a [op] [b] pos) (tB t):=by
  intro pins s σ H Q I hw
  refine wpAny_isTrue_Compare1 (thn (h pins s σ H _ I hw) fun v s1 h1=>thn h1 fun u s2 h2=>thn h2 fun c s3 ⟨x,H1,I1,r1,q1⟩=>?_) h1
  obtain ⟨d,rfl,q⟩:=q1
  cases r1
  exact wpAny_truthy_bool ⟨H1,I1,q⟩
variable {tA tB':TT} {rest:List Expr}
noncomputable def tAnd (t u:TT):TT:=fun σ H Q=>t σ H fun c H1=>if c=true then u σ H1 Q else Q false H1
noncomputable def tOr (t u:TT):TT:=fun σ H Q=>t σ H fun c H1=>if c=true then Q true H1 else u σ H1 Q
noncomputable def tNot (t:TT):TT:=fun σ H Q=>t σ H fun c H1=>Q (!c) H1
theorem Zgu (ha:PT X a tA):PW X (.BoolOp .And [a] pos) tA:=by
  intro wh pins s σ H Q I h
  refine isTrue_and (thn (ha pins s σ H Q I h) fun c s1 e=>?_)
  cases c with
  | true=>exact isTrue_and_nil e
  | false=>exact e
theorem pw_or1 (ha:PT X a tA):PW X (.BoolOp .Or [a] pos) tA:=by
  intro wh pins s σ H Q I h
  refine isTrue_or (thn (ha pins s σ H Q I h) fun c s1 e=>?_)
  cases c with
  | false=>exact isTrue_or_nil e
  | true=>exact e
theorem pw_and (ha:PT X a tA) (hb:PW X (.BoolOp .And (b :: rest) pos) tB'):PW X (.BoolOp .And (a :: b :: rest) pos) (tAnd tA tB'):=by
  intro wh pins s σ H Q I h
  refine isTrue_and (thn (ha pins s σ H _ I h) fun c s1 ⟨H1,I1,q1⟩=>?_)
  cases c with
  | true=>exact hb wh pins s1 σ H1 Q I1 q1
  | false=>exact ⟨H1,I1,q1⟩
theorem pw_or (ha:PT X a tA) (hb:PW X (.BoolOp .Or (b :: rest) pos) tB'):PW X (.BoolOp .Or (a :: b :: rest) pos) (tOr tA tB'):=by
  intro wh pins s σ H Q I h
  refine isTrue_or (thn (ha pins s σ H _ I h) fun c s1 ⟨H1,I1,q1⟩=>?_)
  cases c with
  | true=>exact ⟨H1,I1,q1⟩
  | false=>exact hb wh pins s1 σ H1 Q I1 q1
theorem pt_not (ha:PT X a tA):PT X (.UnaryOp .Not a pos) (tNot tA):=by
  intro pins s σ H Q I h
  exact isTrue_not (ha pins s σ H (fun c H1=>Q (!c) H1) I h)
noncomputable def tAndV (ta tb:TE):TE:=fun σ H Q=>ta σ H fun x H1=>∃ c,x = .bl c∧if c=true then tb σ H1 Q else Q (.bl false) H1
noncomputable def tOrV (ta tb:TE):TE:=fun σ H Q=>ta σ H fun x H1=>∃ c,x = .bl c∧if c=true then Q (.bl true) H1 else tb σ H1 Q
noncomputable def tNotV (ta:TE):TE:=fun σ H Q=>ta σ H fun x H1=>∃ c,x = .bl c∧Q (.bl (!c)) H1
theorem pe_one {op} {t:TE} (h:PE X a t):PE X (.BoolOp op [a] pos) t:=fun pins s σ H Q I hw=>BoolOp_one (h pins s σ H Q I hw)
theorem pe_and (ha:PE X a ta) (hb:PE X (.BoolOp .And (b :: rest) pos) tb):PE X (.BoolOp .And (a :: b :: rest) pos) (tAndV ta tb):=by
  intro pins s σ H Q I h
  refine BoolOp_and (thn (ha pins s σ H _ I h) fun v s1 ⟨x,H1,I1,r1,q1⟩=>?_)
  obtain ⟨c,rfl,q1⟩:=q1
  cases r1
  refine wpAny_truthy_bool ?_
  cases c with
  | true=>exact hb pins s1 σ H1 Q I1 q1
  | false=>exact ⟨.bl false,H1,I1,rfl,q1⟩
theorem pe_or (ha:PE X a ta) (hb:PE X (.BoolOp .Or (b :: rest) pos) tb):PE X (.BoolOp .Or (a :: b :: rest) pos) (tOrV ta tb):=by
  intro pins s σ H Q I h
  refine BoolOp_or (thn (ha pins s σ H _ I h) fun v s1 ⟨x,H1,I1,r1,q1⟩=>?_)
  obtain ⟨c,rfl,q1⟩:=q1
  cases r1
  refine wpAny_truthy_bool ?_
  cases c with
  | false=>exact hb pins s1 σ H1 Q I1 q1
  | true=>exact ⟨.bl true,H1,I1,rfl,q1⟩
theorem pe_not (ha:PE X a ta):PE X (.UnaryOp .Not a pos) (tNotV ta):=by
  intro pins s σ H Q I h
  refine UnaryOp_ (thn (ha pins s σ H _ I h) fun v s1 ⟨x,H1,I1,r1,q1⟩=>?_)
  obtain ⟨c,rfl,q1⟩:=q1
  cases r1
  exact not_of (wpAny_truthy_bool ⟨.bl (!c),H1,I1,rfl,q1⟩)
end
end L2
namespace L2
open PySem PySem.Spec PyProof.Rows
noncomputable def SqL (K:PySem.W.Frag) (H:Hp) (a:Addr) (xs:List V):Prop :=
  Rd H a (.lst xs) ∨
    ∃ (o:Obj) (its:Array Value) (n:Nat),K.lookup a=some o∧o.cls = .type "list"∧o.dict=none∧o.data = .seq its n∧its.size≤sizeLine∧Vals xs its.toList
noncomputable def SqT (K:PySem.W.Frag) (H:Hp) (a:Addr) (xs:List V):Prop :=
  Rd H a (.tup xs) ∨
    ∃ (o:Obj) (its:Array Value) (n:Nat),K.lookup a=some o∧o.cls = .type "tuple"∧o.data = .seq its n∧its.size≤sizeLine∧Vals xs its.toList∧o.dict=none
noncomputable def absV:Value→Option V
  | .none=>some .non
  | .bool b=>some (.bl b)
  | .int i _=>some (.int i)
  | .str x _=>some (.str x)
  | .bytes b _=>some (.byt b)
  | .float b _=>some (.flt b)
  | .ref a=>some (.ref a)
  | .type n=>some (.ty n)
  | _=>none
theorem RelV.abs {x:V} {u:Value} (r:RelV x u):absV u=some x:=by
  cases x with
  | non=>cases r; rfl
  | bl _=>cases r; rfl
  | int _=>obtain ⟨t,rfl⟩:=r; rfl
  | str _=>obtain ⟨t,rfl⟩:=r; rfl
  | byt _=>obtain ⟨t,rfl⟩:=r; rfl
  | flt _=>obtain ⟨t,rfl⟩:=r; rfl
  | ref _=>cases r; rfl
  | ty _=>cases r; rfl
theorem RelV.inj {x y:V} {u:Value} (r:RelV x u) (q:RelV y u):x=y:=Option.some.inj (r.abs.symm.trans q.abs)
theorem Vals.inj:∀ {xs ys:List V} {us:List Value},Vals xs us→Vals ys us→xs=ys
  | _,_,_,.nil,.nil=>rfl
  | _,_,_,.cons r t,.cons r' t'=>by rw [r.inj r',Vals.inj t t']
section
variable {X:Cx} {pins:List (Addr×Obj)} {σ:St} {H:Hp} {s:Shared} {a:Addr} {xs ys:List V}
theorem SqL.of {K:PySem.W.Frag} (h:H a=some (.lst xs)):SqL K H a xs:=.inl (.inl h)
theorem SqT.of {K:PySem.W.Frag} (h:H a=some (.tup xs)):SqT K H a xs:=.inl (.inl h)
theorem Inv.list (I:Inv X pins σ H s) (h:SqL X.K H a xs):∃ its:List Value,Vals xs its∧PlainL s.heap a its.toArray∧xs.length≤sizeLine:=by
  rcases h with h | ⟨o,its,n,hk,hc,hd,hs,hz,r⟩
  · obtain ⟨z,its,n,r,e⟩:=h.ok I.hok
    exact ⟨its,r,⟨_,n,e,rfl,rfl,rfl⟩,z⟩
  · refine ⟨its.toList,r,⟨o,n,I.kIn a o hk,hc,hd,by simpa using hs⟩,?_⟩
    have e:=r.length
    simp only [Array.length_toList] at e
    omega
theorem Inv.tuple (I:Inv X pins σ H s) (h:SqT X.K H a xs):∃ its:List Value,Vals xs its∧IsTup s.heap a its.toArray∧xs.length≤sizeLine:=by
  rcases h with h | ⟨o,its,n,hk,hc,hs,hz,r,hdn⟩
  · obtain ⟨z,its,r,p⟩:=h.ok I.hok
    exact ⟨its,r,p.is,z⟩
  · refine ⟨its.toList,r,⟨o,I.kIn a o hk,hc,n,by simpa using hs⟩,?_⟩
    have e:=r.length
    simp only [Array.length_toList] at e
    omega
theorem Inv.tupleP (I:Inv X pins σ H s) (h:SqT X.K H a xs):∃ its:List Value,Vals xs its∧TupP s.heap a its.toArray∧xs.length≤sizeLine:=by
  rcases h with h | ⟨o,its,n,hk,hc,hs,hz,r,hdn⟩
  · obtain ⟨z,its,r,p⟩:=h.ok I.hok
    exact ⟨its,r,p,z⟩
  · refine ⟨its.toList,r,⟨o,I.kIn a o hk,hc,⟨n,by simpa using hs⟩,hdn⟩,?_⟩
    have e:=r.length
    simp only [Array.length_toList] at e
    omega
theorem Inv.list_inj (I:Inv X pins σ H s) (h:SqL X.K H a xs) (h':SqL X.K H a ys):xs=ys:=by
  obtain ⟨its,r,⟨o,n,e,_,_,d⟩,_⟩:=I.list h
  obtain ⟨its',r',⟨o',n',e',_,_,d'⟩,_⟩:=I.list h'
  rw [e] at e'; cases e'
  rw [d] at d'
  injection d' with d1 _
  have:its=its':=by simpa using congrArg Array.toList d1
  subst this
  exact r.inj r'
theorem Inv.tuple_inj (I:Inv X pins σ H s) (h:SqT X.K H a xs) (h':SqT X.K H a ys):xs=ys:=by
  obtain ⟨its,r,⟨o,e,_,n,d⟩,_⟩:=I.tuple h
  obtain ⟨its',r',⟨o',e',_,n',d'⟩,_⟩:=I.tuple h'
  rw [e] at e'; cases e'
  rw [d] at d'
  injection d' with d1 _
  have:its=its':=by simpa using congrArg Array.toList d1
  subst this
  exact r.inj r'
end
noncomputable abbrev Cx.wish (X:Cx) (E:Value→Shared→Prop):Cx:={ X with xe:=E }
noncomputable abbrev Cx.nox (X:Cx):Cx:=X.wish fun _ _=>False
theorem Cx.Ok.wish {X:Cx} (ok:X.Ok) (E:Value→Shared→Prop):(X.wish E).Ok :=
  ⟨ok.mod,ok.kind,ok.glob,ok.blt,ok.above,ok.inj,ok.has,ok.cab,ok.hd,ok.frames,ok.stk,ok.exf,ok.bs,ok.bsz,ok.noex,ok.exfs,ok.funs,ok.frf⟩
theorem Cx.Ok.unwish {X:Cx} {E:Value→Shared→Prop} (ok:(X.wish E).Ok):X.Ok :=
  ⟨ok.mod,ok.kind,ok.glob,ok.blt,ok.above,ok.inj,ok.has,ok.cab,ok.hd,ok.frames,ok.stk,ok.exf,ok.bs,ok.bsz,ok.noex,ok.exfs,ok.funs,ok.frf⟩
section
variable {X:Cx} {pins:List (Addr×Obj)} {σ:St} {H:Hp} {s:Shared} {E:Value→Shared→Prop}
theorem Inv.wish (I:Inv X pins σ H s) (E:Value→Shared→Prop):Inv (X.wish E) pins σ H s:=⟨I.ok.wish E,I.os,I.bare,I.base,I.loc,I.cell,I.free,I.freeC,I.pin,I.hok,I.len⟩
theorem Inv.unwish (I:Inv (X.wish E) pins σ H s):Inv X pins σ H s:=⟨I.ok.unwish,I.os,I.bare,I.base,I.loc,I.cell,I.free,I.freeC,I.pin,I.hok,I.len⟩
theorem SP.unwish {D:Ends} {f:Flow} {s':Shared} (h:SP (X.wish E) pins D f s'):SP X pins D f s':=by
  cases f with
  | next=>obtain ⟨σ',H',I,q⟩:=h; exact ⟨σ',H',I.unwish,q⟩
  | brk=>obtain ⟨σ',H',I,q⟩:=h; exact ⟨σ',H',I.unwish,q⟩
  | cont=>obtain ⟨σ',H',I,q⟩:=h; exact ⟨σ',H',I.unwish,q⟩
  | ret u=>obtain ⟨v,σ',H',I,r,q⟩:=h; exact ⟨v,σ',H',I.unwish,r,q⟩
theorem PE.nox {e:Expr} {t:TE} (h:PE X.nox e t):PE X e t:=fun pins s σ H Q I hw =>
  wpAny_mono (h pins s σ H Q (I.wish _) hw) (fun _ _ ⟨v,H',I',r,q⟩=>⟨v,H',I'.unwish,r,q⟩) fun _ _ z=>False.elim z
theorem PT.nox {e:Expr} {t:TT} (h:PT X.nox e t):PT X e t:=fun pins s σ H Q I hw =>
  wpAny_mono (h pins s σ H Q (I.wish _) hw) (fun _ _ ⟨H',I',q⟩=>⟨H',I'.unwish,q⟩) fun _ _ z=>False.elim z
theorem PSs.nox {st:List Stmt} {t:TS} (h:PSs X.nox st t):PSs X st t:=fun pins s σ H D I hw =>
  wpAny_mono (h pins s σ H D (I.wish _) hw) (fun _ _ q=>q.unwish) fun _ _ z=>False.elim z
end
section
variable {X:Cx} {st:Stmt} {rest:List Stmt} {t u:TS} {e:Expr} {te:TE} {pos:Pos}
noncomputable def tNext:TS:=fun D σ H=>D.nx σ H
noncomputable def tSeq (t u:TS):TS:=fun D σ H=>t { D with nx:=u D } σ H
theorem Zgw:PSs X [] tNext:=fun _ _ σ H _ I h=>wpAny_execs_nil ⟨σ,H,I,h⟩
theorem QJ (h1:PS X st t) (h2:PSs X rest u):PSs X (st :: rest) (tSeq t u):=by
  intro pins s σ H D I h
  refine wpAny_execs_cons (thn (h1 pins s σ H { D with nx:=u D } I h) fun f s1 q=>?_)
  cases f with
  | next =>
    obtain ⟨σ',H',I',q⟩:=q
    exact h2 pins s1 σ' H' D I' q
  | ret v=>exact q
  | brk=>exact q
  | cont=>exact q
theorem Inv.quiet {pins:List (Addr×Obj)} {σ:St} {H:Hp} {s:Shared} (I:Inv X pins σ H s):interactive X.env=false:=by simp [interactive,I.ok.kind]
noncomputable def tDrop (te:TE):TS:=fun D σ H=>te σ H fun _ H1=>D.nx σ H1
theorem ZjZ (he:PE X e te) (hs:swapsWith e none pos.line X.env=pure false:=by rfl):PS X (.Expr e pos) (tDrop te):=by
  intro pins s σ H D I h
  exact wpAny_Expr_any (thn (he pins s σ H _ I h) fun v s1 ⟨x,H1,I1,r1,q1⟩=>⟨σ,H1,I1,q1⟩) I.quiet hs
noncomputable def tRet (te:TE):TS:=fun D σ H=>te σ H D.rt
theorem ps_ret (he:PE X e te):PS X (.Return (some e) pos) (tRet te):=by
  intro pins s σ H D I h
  exact wpAny_Return_some (thn (he pins s σ H _ I h) fun v s1 ⟨x,H1,I1,r1,q1⟩=>⟨x,σ,H1,I1,r1,q1⟩)
noncomputable def tIfS (c:TT) (t u:TS):TS:=fun D σ H=>c σ H fun b H1=>if b=true then t D σ H1 else u D σ H1
theorem ps_if {c:Expr} {a b:List Stmt} {tc:TT} (hc:PT X c tc) (ha:PSs X a t) (hb:PSs X b u):PS X (.If c a b pos) (tIfS tc t u):=by
  intro pins s σ H D I h
  refine wpAny_If (thn (hc pins s σ H _ I h) fun d s1 ⟨H1,I1,q1⟩=>?_)
  cases d with
  | true=>exact ha pins s1 σ H1 D I1 q1
  | false=>exact hb pins s1 σ H1 D I1 q1
noncomputable def tNever:TS:=fun _ _ _=>False
theorem Zgx {sts:List Stmt}:PSs X sts tNever:=fun _ _ _ _ _ _ h=>h.elim
end
noncomputable abbrev TG:=V→St→Hp→(St→Hp→Prop)→Prop
noncomputable abbrev TGs:=List V→St→Hp→(St→Hp→Prop)→Prop
noncomputable def PG (X:Cx) (target:Expr) (t:TG):Prop :=
  ∀ (pins:List (Addr×Obj)) (s:Shared) (σ:St) (H:Hp) (v:V) (u:Value) (Q:St→Hp→Prop),Inv X pins σ H s→RelV v u→t v σ H Q →
    wpAny (model X.prog X.w) X.A (assign target X.env u) (fun _ s'=>∃ σ' H',Inv X pins σ' H' s'∧Q σ' H') X.xe s
noncomputable def PGs (X:Cx) (ts:List Expr) (t:TGs):Prop :=
  ∀ (pins:List (Addr×Obj)) (s:Shared) (σ:St) (H:Hp) (vs:List V) (us:List Value) (Q:St→Hp→Prop),Inv X pins σ H s→Vals vs us→t vs σ H Q →
    wpAny (model X.prog X.w) X.A (assignInOrder ((assignEach ts X.env).map (·.2)) us) (fun _ s'=>∃ σ' H',Inv X pins σ' H' s'∧Q σ' H') X.xe s
noncomputable abbrev TSet:=V→V→V→Hp→(Hp→Prop)→Prop
noncomputable def PSet (X:Cx) (t:TSet):Prop :=
  ∀ (pins:List (Addr×Obj)) (s:Shared) (σ:St) (H:Hp) (o i v:V) (ov iv u:Value) (Q:Hp→Prop),Inv X pins σ H s→RelV o ov→RelV i iv→RelV v u→t o i v H Q →
    wpAny (model X.prog X.w) X.A (setItem ov iv u) (fun _ s'=>∃ H',Inv X pins σ H' s'∧Q H') X.xe s
noncomputable abbrev TIp:=V→V→Hp→VK→Prop
noncomputable def PIp (X:Cx) (op:Operator) (t:TIp):Prop :=
  ∀ (pins:List (Addr×Obj)) (s:Shared) (σ:St) (H:Hp) (x y:V) (v u:Value) (Q:VK),Inv X pins σ H s→RelV x v→RelV y u→t x y H Q →
    wpAny (model X.prog X.w) X.A (inplaceOp op v u) (EP X pins σ Q) X.xe s
section
variable {X:Cx} {pos:Pos}
noncomputable def ZkN (i:Nat):TG:=fun v σ H Q=>Q (σ.set i (some v)) H
theorem Zap {i:Nat} {x:Str} (hN:X.N.Nodup) (hi:X.N[i]? = some x) (hx:Loc X.env.scope x) (hf:X.fn x=true∨X.env.scope.names.lookup x=some .local:=by first | exact .inl rfl | exact .inr rfl | assumption):PG X (.Name x pos) (ZkN i):=by
  intro pins s σ H v u Q I r h
  exact wpAny_assign_Name (Xf I hN hi hx r (fun s' I'=>⟨_,H,I',h⟩) hf)
noncomputable def gNil:TGs:=fun vs σ H Q=>vs=[]∧Q σ H
noncomputable def gCons (t:TG) (u:TGs):TGs:=fun vs σ H Q=>∃ v r,vs=v :: r∧t v σ H fun σ' H'=>u r σ' H' Q
theorem ZgD:PGs X [] gNil:=by
  intro pins s σ H vs us Q I r h
  obtain ⟨e,h⟩:=h
  subst e
  cases r
  exact assignInOrder_nil ⟨σ,H,I,h⟩
theorem XX {e:Expr} {es:List Expr} {t:TG} {u:TGs} (h1:PG X e t) (h2:PGs X es u)
    (hs:(assignEach (e :: es) X.env).map (·.2)=assign e X.env :: (assignEach es X.env).map (·.2):=by rfl):PGs X (e :: es) (gCons t u):=by
  intro pins s σ H vs us Q I r h
  obtain ⟨v,vr,e1,h⟩:=h
  subst e1
  cases r with
  | cons r rr =>
    rw [hs]
    refine assignInOrder_cons (thn (h1 pins s σ H _ _ _ I r h) fun _ s1 ⟨σ1,H1,I1,q1⟩=>?_)
    exact h2 pins s1 σ1 H1 _ _ Q I1 rr q1
noncomputable def gTup (K:PySem.W.Frag) (n:Nat) (t:TGs):TG:=fun v σ H Q=>∃ a xs,v = .ref a∧SqT K H a xs∧xs.length=n∧t xs σ H Q
theorem Zji {es:List Expr} {k:Nat} {t:TGs} {n:Nat} (hc:X.calm=true) (h:PGs X es t)
    (hn:(assignEach es X.env).length=n:=by rfl) (hst:(assignEach es X.env).findIdx? (·.1)=none:=by rfl):PG X (.Tuple es k pos) (gTup X.K n t):=by
  intro pins s σ H v u Q I r hw
  obtain ⟨a,xs,e1,hq,hl,hw⟩:=hw
  subst e1
  cases r
  obtain ⟨its,rv,ht,hz⟩:=I.tuple hq
  refine assign_Tuple_tuple (I.ok.hd hc) ht (by simp [hn,← hl,rv.length]) hst fun h' hx=>?_
  have I1:Inv X pins σ H { s with heap:=h' }:=I.kept (t':=s.toks) fun b o e=>hx b o (Nat.ne_of_lt (Heap.lt_size e)) e
  exact h pins _ σ H xs _ Q I1 (by simpa using rv) hw
noncomputable def gSub (to ti:TE) (t:TSet):TG:=fun v σ H Q=>to σ H fun o H1=>ti σ H1 fun i H2=>t o i v H2 fun H3=>Q σ H3
theorem pg_sub {o i:Expr} {to ti:TE} {t:TSet} (ho:PE X o to) (hi:PE X i ti) (hs:PSet X t)
    (ha:∀ v,assign (.Subscript o i pos) X.env v=(do
      let ov ← holding [v] (eval o X.env)
      let iv ← holding [v,ov] (eval i X.env)
      standAt pos
      holding [v,ov,iv] (setItem ov iv v)
      release [v,ov,iv] []):=by intro _; rfl):PG X (.Subscript o i pos) (gSub to ti t):=by
  intro pins s σ H v u Q I r h
  rw [ha]
  refine wpAny_bind (wpAny_holding (thn (ho pins s σ H _ I h) fun ov s1 ⟨x,H1,I1,r1,q1⟩=>?_))
  refine wpAny_bind (wpAny_holding (thn (hi pins s1 σ H1 _ I1 q1) fun iv s2 ⟨y,H2,I2,r2,q2⟩=>?_))
  refine wpAny_bind (wpAny_standAt (wpAny_bind (wpAny_holding (thn (hs pins s2 σ H2 x y v ov iv u _ I2 r1 r2 r q2) fun _ s3 ⟨H3,I3,q3⟩=>?_))))
  exact wpAny_release ⟨σ,H3,I3,q3⟩
noncomputable def tAsg (te:TE) (g:TG):TS:=fun D σ H=>te σ H fun x H1=>g x σ H1 D.nx
theorem Zjh {tg e:Expr} {te:TE} {g:TG} (he:PE X e te) (hg:PG X tg g) (hs:swapsWithSole [tg] e pos.line X.env=pure false:=by rfl) (hw:swappedStores [tg] e X.env=pure none:=by rfl)
    (h1:(assignEach [tg] X.env).map (·.2)=[assign tg X.env]:=by rfl):PS X (.Assign [tg] e pos) (tAsg te g):=by
  intro pins s σ H D I h
  refine wpAny_Assign_stores (thn (he pins s σ H _ I h) fun v s1 ⟨x,H1,I1,r1,q1⟩=>?_) hs hw
  rw [h1]
  exact thn (hg pins s1 σ H1 x v _ I1 r1 q1) fun _ s2 q=>q
theorem ps_set {i:Nat} {x:Str} {e:Expr} {te:TE} {pos':Pos} (hN:X.N.Nodup) (hi:X.N[i]? = some x) (hx:Loc X.env.scope x) (he:PE X e te) (hs:swapsWith e (some (.Name x pos')) pos.line X.env=pure false:=by rfl) (hf:X.fn x=true∨X.env.scope.names.lookup x=some .local:=by first | exact .inl rfl | exact .inr rfl | assumption) :
    PS X (.Assign [.Name x pos'] e pos) (tAsg te (ZkN i)):=by
  intro pins s σ H D I h
  refine wpAny_Assign_Name (thn (he pins s σ H _ I h) fun v s1 ⟨y,H1,I1,r1,q1⟩=>?_) hs
  exact Xf I1 hN hi hx r1 (fun s2 I2=>⟨_,H1,I2,q1⟩) hf
noncomputable def tAug (i:Nat) (te:TE) (ti:TIp):TS:=fun D σ H=>∃ x,σ[i]? = some (some x)∧te σ H fun y H1=>ti x y H1 fun z H2=>D.nx (σ.set i (some z)) H2
theorem ps_aug {i:Nat} {x:Str} {e:Expr} {te:TE} {op:Operator} {ti:TIp} {pos':Pos} (hN:X.N.Nodup) (hi:X.N[i]? = some x) (hx:Loc X.env.scope x) (he:PE X e te) (ho:PIp X op ti) (hf:X.fn x=true∨X.env.scope.names.lookup x=some .local:=by first | exact .inl rfl | exact .inr rfl | assumption) :
    PS X (.AugAssign (.Name x pos') op e pos) (tAug i te ti):=by
  intro pins s σ H D I h
  obtain ⟨v,e1,h⟩:=h
  obtain ⟨m,hn,hl⟩:=I.loc
  have vis:Vis X.env.scope x:=by rcases hx with k | k; exact .inl k; exact .inr (.inl k)
  obtain ⟨u,r,l⟩:=hl i x v hi e1 vis
  refine wpAny_AugAssign_Name ?_
  have go:wpAny (model X.prog X.w) X.A (eval e X.env) (fun w s₂=>wpAny (model X.prog X.w) X.A (inplaceOp op u w) (fun r s₃=>wpAny (model X.prog X.w) X.A (storeName X.env x r) (fun _=>SP X pins D .next) X.xe s₃) X.xe s₂) X.xe s:=by
    refine thn (he pins s σ H _ I h) fun w s1 ⟨y,H1,I1,r1,q1⟩=>?_
    refine thn (ho pins s1 σ H1 v y u w _ I1 r r1 q1) fun z s2 ⟨zv,H2,I2,r2,q2⟩=>?_
    exact Xf I2 hN hi hx r2 (fun s3 I3=>⟨_,H2,I3,q2⟩) hf
  rcases l with ⟨hk,hm⟩ | ⟨hk,c,hc,hcell⟩
  · exact wpAny_loadName_local I.ok.kind hk hn hm go
  · rcases hk with hk | hk
    · exact wpAny_loadName_cell I.ok.kind hk hc hcell go
    · rcases hx with k | k
      · have:X.env.scope.names.lookup x=some .free:=hk
        rw [k] at this; cases this
      · have:X.env.scope.names.lookup x=some .free:=hk
        rw [k] at this; cases this
noncomputable def ipI (f:Int→Int→Int):TIp:=fun x y H Q=>∃ i j,x = .int i∧y = .int j∧Q (.int (f i j)) H
theorem ip_add:PIp X .Add (ipI fun i j=>i + j):=by
  intro pins s σ H x y v u Q I r1 r2 h
  obtain ⟨i,j,e1,e2,q⟩:=h
  subst e1; subst e2
  obtain ⟨t,rfl⟩:=r1
  obtain ⟨t',rfl⟩:=r2
  exact iadd_int ⟨.int _,H,I.tok _,⟨_,rfl⟩,q⟩
theorem ip_sub:PIp X .Sub (ipI fun i j=>i - j):=by
  intro pins s σ H x y v u Q I r1 r2 h
  obtain ⟨i,j,e1,e2,q⟩:=h
  subst e1; subst e2
  obtain ⟨t,rfl⟩:=r1
  obtain ⟨t',rfl⟩:=r2
  exact isub_int ⟨.int _,H,I.tok _,⟨_,rfl⟩,q⟩
end
section
variable {X:Cx} {pos:Pos}
noncomputable def tWhile (c:TT) (tb:TS):TS:=fun D σ H=>∃ W:Nat→St→Hp→Prop,(∃ m,W m σ H)∧∀ m σ H,W m σ H →
  c σ H fun b H1=>if b=true then ∃ N:St→Hp→Prop,(∀ σ' H',N σ' H'→∃ m',m' < m∧W m' σ' H')∧tb { D with nx:=N,ct:=N,bk:=D.nx } σ H1 else D.nx σ H1
theorem Zir {c:Expr} {body:List Stmt} {tc:TT} {tb:TS} (hp:PassesOwn (model X.prog X.w) X.A X.env X.xe) (hc:PT X c tc) (hb:PSs X body tb):PS X (.While c body [] pos) (tWhile tc tb):=by
  intro pins s σ H D I h
  obtain ⟨W,⟨m0,w0⟩,turn⟩:=h
  refine wpAny_While (codeAny_whileLoop (fun n s'=>∃ σ' H',Inv X pins σ' H' s'∧W n σ' H') ?_ m0 ⟨σ,H,I,w0⟩)
  rintro n s1 ⟨σ1,H1,I1,w1⟩
  refine wpAny_passesOwn hp (thn (hc pins s1 σ1 H1 _ I1 (turn n σ1 H1 w1)) fun b s2 ⟨H2,I2,q2⟩=>?_)
  cases b with
  | true =>
    obtain ⟨N,hN,q2⟩:=q2
    rw [if_pos rfl]
    refine wpAny_passesOwn hp (thn (hb pins s2 σ1 H2 _ I2 q2) fun f s3 q3=>?_)
    cases f with
    | next =>
      obtain ⟨σ3,H3,I3,n3⟩:=q3
      obtain ⟨m',hm,w3⟩:=hN σ3 H3 n3
      exact ⟨m',hm,σ3,H3,I3,w3⟩
    | cont =>
      obtain ⟨σ3,H3,I3,n3⟩:=q3
      obtain ⟨m',hm,w3⟩:=hN σ3 H3 n3
      exact ⟨m',hm,σ3,H3,I3,w3⟩
    | brk=>exact q3
    | ret v=>exact q3
  | false =>
    rw [if_neg Bool.false_ne_true]
    exact wpAny_execs_nil ⟨σ1,H2,I2,q2⟩
end
structure It where
  go:Nat→Hp→Prop
  yld:Nat→Hp→V→Hp→Prop
  stop:Nat→Hp→Prop
noncomputable def FpOk (X:Cx) (pins:List (Addr×Obj)) (H:Hp) (b:Addr):Prop :=
  H b=none∧b≠X.env.locals∧b ∉ X.fs∧(b∈X.ex∨X.s₀.heap.objs.size≤b)∧(∀ x c,X.env.cells.lookup x=some c→c≠b)∧∀ p∈X.pn++pins,p.1≠b
theorem Inv.fpOk {X:Cx} {pins:List (Addr×Obj)} {σ:St} {H H':Hp} {s:Shared} {b:Addr} (I:Inv X pins σ H s) (hb:s.heap.objs.size≤b) (hn:H' b=none):FpOk X pins H' b:=by
  refine ⟨hn,Nat.ne_of_gt (Nat.lt_of_lt_of_le I.lt hb),I.nofs hb,.inr (Nat.le_trans I.sz hb),fun x c e z=>?_,fun p hp z=>?_⟩
  · obtain ⟨v,q⟩:=I.cell x c e
    exact absurd (Nat.lt_of_lt_of_le q.lt (by rw [z]; exact hb)) (Nat.lt_irrefl _)
  · exact absurd (Nat.lt_of_lt_of_le (Heap.lt_size (I.pin p hp).1) (by rw [z]; exact hb)) (Nat.lt_irrefl _)
structure Turn (P:Program) (w:World) (K:PySem.W.Frag) (tg:Expr) (J:It) (fp:List Addr) (it:Addr) (tn:Nat→Heap→Prop):Prop where
  mem:it∈fp
  obj:∀ i h,tn i h→∀ b∈fp,∃ o,h.get? b=some o∧∀ v,o.data≠.cell v
  keep:∀ i h h',tn i h→(∀ b∈fp,∀ o,h.get? b=some o→h'.get? b=some o)→tn i h'
  item:∀ (X:Cx),X.prog=P→X.w=w→X.K=K→X.calm=true→∀ (i:Nat) (pins:List (Addr×Obj)) (s:Shared) (σ:St) (H:Hp) (E:Value→Shared→Prop),Inv X pins σ H s→(∀ b∈fp,FpOk X pins H b)→tn i s.heap→J.go i H →
    wpAny (model P w) X.A (pyNext (.ref it)) (fun r s1=>∃ u,r=some u ∧
      wpAny (model P w) X.A (letOwnedTupleGo tg (.ref it) u) (fun _ s2=>∃ x H',Inv X pins σ H' s2∧RelV x u∧J.yld i H x H'∧tn (i + 1) s2.heap∧∀ b∈fp,H' b=none) E s1) E s
  done:∀ (X:Cx),X.prog=P→X.w=w→X.K=K→X.calm=true→∀ (i:Nat) (pins:List (Addr×Obj)) (s:Shared) (σ:St) (H:Hp) (E:Value→Shared→Prop),Inv X pins σ H s→(∀ b∈fp,FpOk X pins H b)→tn i s.heap→J.stop i H →
    wpAny (model P w) X.A (pyNext (.ref it)) (fun r s1=>r=none∧Inv X pins σ H s1) E s
  self:∀ (A:Around) (i:Nat) (s:Shared) (Q:Value→Shared→Prop) (E:Value→Shared→Prop),tn i s.heap→Q (.ref it) s→wpAny (model P w) A (pyIter (.ref it)) Q E s
noncomputable abbrev TI:=St→Hp→(It→Hp→Prop)→Prop
noncomputable def PIE (X:Cx) (pins:List (Addr×Obj)) (σ:St) (tg:Expr) (R:It→Hp→Prop) (itv:Value) (s2:Shared):Prop :=
  ∃ (it:Addr) (fp:List Addr) (tn:Nat→Heap→Prop) (J:It) (H':Hp),itv = .ref it∧Inv X pins σ H' s2∧Turn X.prog X.w X.K tg J fp it tn∧tn 0 s2.heap∧(∀ b∈fp,FpOk X pins H' b)∧R J H'
noncomputable def PI (X:Cx) (tg iter:Expr) (wi:TI):Prop :=
  ∀ (pins:List (Addr×Obj)) (s:Shared) (σ:St) (H:Hp) (R:It→Hp→Prop),Inv X pins σ H s→wi σ H R →
    wpAny (model X.prog X.w) X.A (eval iter X.env) (fun v s1=>wpAny (model X.prog X.w) X.A (pyIter v) (PIE X pins σ tg R) X.xe s1) X.xe s
theorem ZiU {M:Model} {A:Around} {E:Value→Shared→Prop} {s:Shared} {tg:Expr} {it:Addr} {u:Value} {o:Obj} {n:String} {vs:Array Value} {Q:Unit→Shared→Prop} (ho:s.heap.get? it=some o) (hc:o.cls = .type n) (hd:o.data = .fields vs)
    (hn:["enumerate","zip","dict_itemiterator","dict_reverseitemiterator","odict_iterator","itertools.zip_longest","itertools.pairwise"].contains n=false) (hQ:Q () s):wpAny M A (letOwnedTupleGo tg (.ref it) u) Q E s:=by
  unfold letOwnedTupleGo
  cases tg <;> first
    | exact wpAny_pure hQ
    | (cases u <;> first
        | exact wpAny_pure hQ
        | (refine wpAny_bind (wpAny_load ho ?_)
           rw [hc,hd]
           show wpAny M A (if (["enumerate","zip","dict_itemiterator","dict_reverseitemiterator","odict_iterator","itertools.zip_longest","itertools.pairwise"].contains n && vs[0]? == some (rawInt _))=true then _ else _) Q E s
           rw [if_neg (by intro h; rw [hn,Bool.false_and] at h; cases h)]
           exact wpAny_pure hQ))
noncomputable def Itl (K:PySem.W.Frag) (a:Addr):It :=
  ⟨fun i H=>∃ xs x,SqL K H a xs∧xs[i]? = some x,fun i H x H'=>H' = H∧∀ xs,SqL K H a xs→xs[i]? = some x,fun i H=>∃ xs,SqL K H a xs∧xs.length≤i⟩
noncomputable def Itt (K:PySem.W.Frag) (a:Addr):It :=
  ⟨fun i H=>∃ xs x,SqT K H a xs∧xs[i]? = some x,fun i H x H'=>H' = H∧∀ xs,SqT K H a xs→xs[i]? = some x,fun i H=>∃ xs,SqT K H a xs∧xs.length≤i⟩
noncomputable def Itr (lo:Int) (n:Nat):It:=⟨fun i _=>i < n,fun i H x H'=>H' = H∧x = .int (lo + i),fun i _=>n≤i⟩
theorem Zge {P:Program} {w:World} {K:PySem.W.Frag} {tg:Expr} (a it:Addr):Turn P w K tg (Itl K a) [it] it (fun i h=>h.IsListIter it a i) where
  mem:=by simp
  obj:=fun i h st b hb=>by
    have e:b=it:=by simpa using hb
    subst e
    obtain ⟨o,e,c,d⟩:=st
    exact ⟨o,e,fun v z=>by rw [d] at z; cases z⟩
  keep:=fun i h h' st k=>st.at fun o e=>k it (by simp) o e
  item:=by
    intro X hP hw hK hc i pins s σ H E I hf st hg
    subst hP hw hK
    obtain ⟨xs,x,hq,hx⟩:=hg
    obtain ⟨its,rv,p,hz⟩:=I.list hq
    obtain ⟨u,hu,ru⟩:=rv.get hx
    obtain ⟨f0,f1,f2,f3,f4,f5⟩:=hf it (by simp)
    refine wpAny_pyNext_list_item st p.isList (x:=u) (by simpa using hu) fun h' st' sb=>?_
    have I1:Inv X pins σ H { s with heap:=h' }:=I.turned (t':=s.toks) (fun b o hb e=>(sb.2 b hb).trans e) f0 f1 f3 f4 f5
    obtain ⟨o,e,c,d⟩:=id st'
    exact ⟨u,rfl,ZiU (s:={ s with heap:=h' }) e c d (by decide) ⟨x,H,I1,ru,⟨rfl,fun ys hy=>by rw [I.list_inj hy hq]; exact hx⟩,st',fun b hb=>(hf b hb).1⟩⟩
  done:=by
    intro X hP hw hK hc i pins s σ H E I hf st hg
    subst hP hw hK
    obtain ⟨xs,hq,hx⟩:=hg
    obtain ⟨its,rv,p,hz⟩:=I.list hq
    obtain ⟨f0,f1,f2,f3,f4,f5⟩:=hf it (by simp)
    have hl:=rv.length
    exact wpAny_pyNext_list_end (I.ok.hd hc) st p.isList (by simp; omega) fun h' eb=>⟨rfl,I.turned (t':=s.toks) (fun b o hb e=>eb b o hb e) f0 f1 f3 f4 f5⟩
  self:=fun _ _ _ _ _ st h=>wpAny_pyIter_listiter st h
theorem Ze9 {P:Program} {w:World} {K:PySem.W.Frag} {tg:Expr} (a it:Addr):Turn P w K tg (Itt K a) [it] it (fun i h=>h.IsTupleIter it a i) where
  mem:=by simp
  obj:=fun i h st b hb=>by
    have e:b=it:=by simpa using hb
    subst e
    obtain ⟨o,e,c,d⟩:=st
    exact ⟨o,e,fun v z=>by rw [d] at z; cases z⟩
  keep:=fun i h h' st k=>st.at fun o e=>k it (by simp) o e
  item:=by
    intro X hP hw hK hc i pins s σ H E I hf st hg
    subst hP hw hK
    obtain ⟨xs,x,hq,hx⟩:=hg
    obtain ⟨its,rv,p,hz⟩:=I.tuple hq
    obtain ⟨u,hu,ru⟩:=rv.get hx
    obtain ⟨f0,f1,f2,f3,f4,f5⟩:=hf it (by simp)
    refine wpAny_pyNext_tuple_item st (show s.heap.IsTuple a its.toArray from p) (x:=u) (by simpa using hu) fun h' st' sb=>?_
    have I1:Inv X pins σ H { s with heap:=h' }:=I.turned (t':=s.toks) (fun b o hb e=>(sb.2 b hb).trans e) f0 f1 f3 f4 f5
    obtain ⟨o,e,c,d⟩:=id st'
    exact ⟨u,rfl,ZiU (s:={ s with heap:=h' }) e c d (by decide) ⟨x,H,I1,ru,⟨rfl,fun ys hy=>by rw [I.tuple_inj hy hq]; exact hx⟩,st',fun b hb=>(hf b hb).1⟩⟩
  done:=by
    intro X hP hw hK hc i pins s σ H E I hf st hg
    subst hP hw hK
    obtain ⟨xs,hq,hx⟩:=hg
    obtain ⟨its,rv,p,hz⟩:=I.tuple hq
    obtain ⟨f0,f1,f2,f3,f4,f5⟩:=hf it (by simp)
    have hl:=rv.length
    exact wpAny_pyNext_tuple_end (I.ok.hd hc) st (show s.heap.IsTuple a its.toArray from p) (by simp; omega) fun h' eb=>⟨rfl,I.turned (t':=s.toks) (fun b o hb e=>eb b o hb e) f0 f1 f3 f4 f5⟩
  self:=fun _ _ _ _ _ st h=>wpAny_pyIter_tupleiter st h
theorem Zfa {P:Program} {w:World} {K:PySem.W.Frag} {tg:Expr} (it:Addr) (lo:Int) (n:Nat):Turn P w K tg (Itr lo n) [it] it (fun i h=>IsRangeIter h it (lo + (i:Nat) * 1) ((n:Int) - (i:Nat)) 1) where
  mem:=by simp
  obj:=fun i h st b hb=>by
    have e:b=it:=by simpa using hb
    subst e
    exact ⟨_,st,fun v z=>by
      have z':Data.fields _=Data.cell v:=z
      cases z'⟩
  keep:=fun i h h' st k=>k it (by simp) _ st
  item:=by
    intro X hP hw hK hc i pins s σ H E I hf st hg
    subst hP hw hK
    obtain ⟨f0,f1,f2,f3,f4,f5⟩:=hf it (by simp)
    have W:=Walks.range (prog:=X.prog) (w:=X.w) (I.ok.hd hc) it lo 1 n
    refine W.item i s _ _ hg st fun v h' tk hv st' kk=>?_
    obtain ⟨t,rfl⟩:=hv
    have I1:Inv X pins σ H { s with heap:=h',toks:=tk }:=I.turned (fun b o hb e=>kk b o (by simpa using hb) e) f0 f1 f3 f4 f5
    refine ⟨_,rfl,ZiU (s:={ s with heap:=h',toks:=tk }) (n:="range_iterator") st' rfl rfl (by decide) ⟨.int (lo + i),H,I1,⟨t,?_⟩,⟨rfl,rfl⟩,st',fun b hb=>(hf b hb).1⟩⟩
    rw [Int.mul_one]
  done:=by
    intro X hP hw hK hc i pins s σ H E I hf st hg
    subst hP hw hK
    obtain ⟨f0,f1,f2,f3,f4,f5⟩:=hf it (by simp)
    exact wpAny_pyNext_range_end (I.ok.hd hc) st (by have:n≤i:=hg; omega) fun h' eb=>⟨rfl,I.turned (t':=s.toks) (fun b o hb e=>eb b o hb e) f0 f1 f3 f4 f5⟩
  self:=fun _ _ _ _ _ st h=>wpAny_pyIter_rangeiter st h
end L2
namespace L2
open PySem PySem.Spec PyProof.Rows
section
variable {X:Cx} {tg:Expr}
theorem Zif {pins:List (Addr×Obj)} {σ:St} {H:Hp} {s:Shared} {R:It→Hp→Prop} {E:Value→Shared→Prop} {lo hi:Int} {t u v:Tok} {tk:Nat} (I:Inv X pins σ H s) (h1:-(2 ^ 62)≤lo) (h2:lo < 2 ^ 62) (h3:-(2 ^ 62)≤hi) (h4:hi < 2 ^ 62)
    (q:R (Itr lo (hi - lo).toNat) H):wpAny (model X.prog X.w) X.A (pyIter (.ref s.heap.objs.size)) (PIE X pins σ tg R) E { s with heap:=s.heap.push { cls:=.type "range",data:=.fields #[.int lo t,.int hi u,.int 1 v] },toks:=tk }:=by
  refine wpAny_pyIter_range (IsRange.new ..) (small_one h1 h2 h3 h4) ?_
  have I1:Inv X pins σ H { s with heap:=s.heap.push { cls:=.type "range",data:=.fields #[.int lo t,.int hi u,.int 1 v] },toks:=tk }:=I.kept fun b o e=>Heap.get?_push_of_some _ e
  refine ⟨(s.heap.push { cls:=.type "range",data:=.fields #[.int lo t,.int hi u,.int 1 v] }).objs.size,[(s.heap.push { cls:=.type "range",data:=.fields #[.int lo t,.int hi u,.int 1 v] }).objs.size],_,_,H,rfl,
    I1.kept (t':=tk) fun b o e=>Heap.get?_push_of_some _ e,Zfa _ lo (hi - lo).toNat,?_,fun b hb=>?_,q⟩
  · have e1:lo + ((0:Nat):Int) * 1=lo:=by simp
    have e2:(((hi - lo).toNat:Nat):Int) - ((0:Nat):Int)=Builtin.Range.rangeSize lo hi 1:=by rw [rangeSize_one]; split <;> omega
    show IsRangeIter _ _ (lo + ((0:Nat):Int) * 1) ((((hi - lo).toNat:Nat):Int) - ((0:Nat):Int)) 1
    rw [e1,e2]
    exact Heap.get?_push_size _ rfl
  · have e:b=(s.heap.push { cls:=.type "range",data:=.fields #[.int lo t,.int hi u,.int 1 v] }).objs.size:=by simpa using hb
    subst e
    exact I1.fpOk (Nat.le_refl _) (I1.hok.fresh (Nat.le_refl _))
noncomputable def iRng1 (ta:TA):TI:=fun σ H R=>ta σ H fun vs H1=>∃ j:Int,vs=[.int j]∧-(2 ^ 62)≤j∧j < 2 ^ 62∧R (Itr 0 j.toNat) H1
theorem ZgC {a:Expr} {ta:TA} {p pos:Pos} (hg:Gl X "range") (hm:X.mg "range" = none) (ha:PA X [a] ta) (hs:starEach [a] X.env=[(false,eval a X.env)]:=by rfl):PI X tg (.Call (.Name "range" p) [a] [] pos) (iRng1 ta):=by
  intro pins s σ H R I h
  refine Call_ (ZeR I hg hm boot_range (PyProof.Rows.callWith_type1 (thn (ha pos pins s σ H _ I h) fun us s1 ⟨vs,H1,I1,r1,q1⟩=>?_) hs rfl))
  obtain ⟨j,e,q1,q2,q⟩:=q1
  subst e
  cases r1 with
  | cons r rr =>
    cases rr
    obtain ⟨t,rfl⟩:=r
    exact call_range_1 (Zif I1 (by omega) (by omega) q1 q2 (by simpa using q))
noncomputable def tFor (wi:TI) (g:TG) (tb:TS):TS:=fun D σ H=>wi σ H fun J H1=>∃ W:Nat→Nat→St→Hp→Prop,(∃ m,W 0 m σ H1)∧∀ i m σ H,W i m σ H →
  (J.stop i H∧D.nx σ H)∨(J.go i H∧∃ N:St→Hp→Prop,(∀ σ' H',N σ' H'→∃ m',m' < m∧W (i + 1) m' σ' H')∧∀ x H',J.yld i H x H'→g x σ H' fun σ2 H2=>tb { D with nx:=N,ct:=N,bk:=D.nx } σ2 H2)
noncomputable def Xm (fp:List Addr) (h:Heap):List (Addr×Obj):=fp.filterMap fun b=>(h.get? b).map fun o=>(b,o)
theorem Ql {fp:List Addr} {h:Heap} {b:Addr} {o:Obj} (hb:b∈fp) (e:h.get? b=some o):(b,o)∈Xm fp h:=List.mem_filterMap.mpr ⟨b,hb,by rw [e]; rfl⟩
theorem Zdo {fp:List Addr} {h:Heap} {p:Addr×Obj} (hp:p∈Xm fp h):p.1∈fp∧h.get? p.1=some p.2:=by
  obtain ⟨b,hb,e⟩:=List.mem_filterMap.mp hp
  cases q:h.get? b with
  | none=>rw [q] at e; cases e
  | some o =>
    rw [q] at e
    have e':(b,o)=p:=Option.some.inj e
    subst e'
    exact ⟨hb,q⟩
theorem Inv.pinned {pins:List (Addr×Obj)} {σ:St} {H:Hp} {s:Shared} {fp:List Addr} (I:Inv X pins σ H s) (hf:∀ b∈fp,FpOk X pins H b) (ho:∀ b∈fp,∃ o,s.heap.get? b=some o∧∀ v,o.data≠.cell v):Inv X (pins++Xm fp s.heap) σ H s :=
  I.pins_of fun p hp=>(List.mem_append.mp hp).elim (fun z=>I.pin p (List.mem_append_right _ z)) fun z=>by
    obtain ⟨hb,e⟩:=Zdo z
    obtain ⟨f0,f1,f2,_⟩:=hf p.1 hb
    obtain ⟨o,e',d⟩:=ho p.1 hb
    rw [e] at e'; cases e'
    exact ⟨e,f0,f1,f2,d⟩
theorem Inv.unpinned {pins pl:List (Addr×Obj)} {σ:St} {H:Hp} {s:Shared} (I:Inv X (pins++pl) σ H s):Inv X pins σ H s:=I.pins_of fun p hp=>I.pin p (List.mem_append_right _ (List.mem_append_left _ hp))
theorem ps_for {iter:Expr} {body:List Stmt} {wi:TI} {g:TG} {tb:TS} {pos:Pos} (hp:PassesOwn (model X.prog X.w) X.A X.env X.xe) (hc:X.calm=true) (hi:PI X tg iter wi) (hg:PG X tg g) (hb:PSs X body tb)
    (hs:∀ x,foldedSetIterable iter X.env x=pure x:=by intro _; rfl):PS X (.For tg iter body [] pos) (tFor wi g tb):=by
  intro pins s σ H D I h
  refine wpAny_For (thn (hi pins s σ H _ I h) fun v s1 h1=>thn h1 fun itv s2 h2=>?_) hs
  obtain ⟨it,fp,tn,J,H2,e,I2,T,st2,f2,W,⟨m0,w0⟩,turn⟩:=h2
  subst e
  -- what stays true of the iterator's objects through the loop
  have stat:∀ {H':Hp},(∀ b∈fp,H' b=none)→∀ b∈fp,FpOk X pins H' b:=fun hn b hb=>⟨hn b hb,(f2 b hb).2⟩
  refine codeAny_forLoop_any (fun n s'=>∃ i σ' H',Inv X pins σ' H' s'∧tn i s'.heap∧(∀ b∈fp,H' b=none)∧W i n σ' H') ?_ m0 ⟨0,σ,H2,I2,st2,fun b hb=>(f2 b hb).1,w0⟩
  rintro n s3 ⟨i,σ3,H3,I3,st3,fr3,w3⟩
  rcases turn i n σ3 H3 w3 with ⟨stop,qn⟩ | ⟨go,N,hN,step⟩
  · refine wpAny_passesOwn hp (thn (T.done X rfl rfl rfl hc i pins s3 σ3 H3 X.xe I3 (stat fr3) st3 stop) fun r s4 ⟨hr,I4⟩=>?_)
    subst hr
    exact wpAny_execs_nil ⟨σ3,H3,I4,qn⟩
  · refine wpAny_passesOwn hp (thn (T.item X rfl rfl rfl hc i pins s3 σ3 H3 X.xe I3 (stat fr3) st3 go) fun r s4 ⟨u,hr,h4⟩=>?_)
    subst hr
    refine wpAny_passesOwn hp (thn h4 fun _ s5 ⟨x,H5,I5,r5,y5,st5,fr5⟩=>?_)
    have I5':=I5.pinned (stat fr5) (T.obj _ _ st5)
    refine wpAny_passesOwn hp (thn (hg _ s5 σ3 H5 x u _ I5' r5 (step x H5 y5)) fun _ s6 ⟨σ6,H6,I6,q6⟩=>?_)
    refine wpAny_passesOwn hp (thn (hb _ s6 σ6 H6 _ I6 q6) fun f s7 q7=>?_)
    have again:∀ {σ7:St} {H7:Hp},Inv X (pins++Xm fp s5.heap) σ7 H7 s7→N σ7 H7→∃ m,m < n∧∃ i σ' H',Inv X pins σ' H' s7∧tn i s7.heap∧(∀ b∈fp,H' b=none)∧W i m σ' H':=fun {σ7 H7} I7 n7=>by
      obtain ⟨m',hm,w7⟩:=hN σ7 H7 n7
      refine ⟨m',hm,i + 1,σ7,H7,I7.unpinned,T.keep _ _ _ st5 fun b hb o e=>(I7.pin (b,o) (List.mem_append_right _ (List.mem_append_right _ (Ql hb e)))).1,fun b hb=>?_,w7⟩
      obtain ⟨o,e,d⟩:=T.obj _ _ st5 b hb
      exact (I7.pin (b,o) (List.mem_append_right _ (List.mem_append_right _ (Ql hb e)))).2.1
    cases f with
    | next=>obtain ⟨σ7,H7,I7,n7⟩:=q7; exact again I7 n7
    | cont=>obtain ⟨σ7,H7,I7,n7⟩:=q7; exact again I7 n7
    | brk=>obtain ⟨σ7,H7,I7,q7⟩:=q7; exact ⟨σ7,H7,I7.unpinned,q7⟩
    | ret v=>obtain ⟨x7,σ7,H7,I7,r7,q7⟩:=q7; exact ⟨x7,σ7,H7,I7.unpinned,r7,q7⟩
end
end L2
namespace L2
open PySem PySem.Spec PyProof.Rows
noncomputable abbrev R2:=V→V→Hp→VK→Prop
noncomputable def OpR (X:Cx) (f:Value→Value→Sem Value) (r:R2):Prop :=
  ∀ (pins:List (Addr×Obj)) (s:Shared) (σ:St) (H:Hp) (x y:V) (v u:Value) (Q:VK),Inv X pins σ H s→RelV x v→RelV y u→r x y H Q →
    wpAny (model X.prog X.w) X.A (f v u) (EP X pins σ Q) X.xe s
noncomputable def UnR (X:Cx) (f:Value→Sem Value) (r:V→Hp→VK→Prop):Prop :=
  ∀ (pins:List (Addr×Obj)) (s:Shared) (σ:St) (H:Hp) (x:V) (v:Value) (Q:VK),Inv X pins σ H s→RelV x v→r x H Q →
    wpAny (model X.prog X.w) X.A (f v) (EP X pins σ Q) X.xe s
noncomputable def J4 (X:Cx) (f:Value) (r:List V→Hp→VK→Prop):Prop :=
  ∀ (pins:List (Addr×Obj)) (s:Shared) (σ:St) (H:Hp) (xs:List V) (us:List Value) (Q:VK),Inv X pins σ H s→Vals xs us→r xs H Q →
    wpAny (model X.prog X.w) X.A (call f us) (EP X pins σ Q) X.xe s
noncomputable def TruR (X:Cx) (r:V→Hp→(Bool→Hp→Prop)→Prop):Prop :=
  ∀ (pins:List (Addr×Obj)) (s:Shared) (σ:St) (H:Hp) (x:V) (v:Value) (Q:Bool→Hp→Prop),Inv X pins σ H s→RelV x v→r x H Q →
    wpAny (model X.prog X.w) X.A (truthy v) (TP X pins σ Q) X.xe s
noncomputable def tOp (r:R2) (ta tb:TE):TE:=fun σ H Q=>ta σ H fun x H1=>tb σ H1 fun y H2=>r x y H2 Q
noncomputable def tUn (r:V→Hp→VK→Prop) (ta:TE):TE:=fun σ H Q=>ta σ H fun x H1=>r x H1 Q
noncomputable def rI (C:Int→Int→Prop) (g:Int→Int→V):R2:=fun x y H Q=>∃ i j,x = .int i∧y = .int j∧C i j∧Q (g i j) H
noncomputable def rI0 (g:Int→Int→V):R2:=fun x y H Q=>∃ i j,x = .int i∧y = .int j∧Q (g i j) H
noncomputable def rU (g:Int→V):V→Hp→VK→Prop:=fun x H Q=>∃ i,x = .int i∧Q (g i) H
section
variable {X:Cx} {a b c:Expr} {ta tb tc:TE} {pos:Pos}
theorem binT (ha:PE X a ta) (hb:PE X b tb) {pins:List (Addr×Obj)} {s:Shared} {σ:St} {H:Hp} {R:V→V→Hp→Prop} (I:Inv X pins σ H s)
    (h:ta σ H fun x H1=>tb σ H1 fun y H2=>R x y H2) {Q:Value→Shared→Prop} {f:Value→Value→Sem Value}
    (hf:∀ v u s2 x y H2,Inv X pins σ H2 s2→RelV x v→RelV y u→R x y H2→wpAny (model X.prog X.w) X.A (f v u) Q X.xe s2) :
    wpAny (model X.prog X.w) X.A (eval a X.env) (fun v s₁=>wpAny (model X.prog X.w) X.A (eval b X.env) (fun u s₂=>wpAny (model X.prog X.w) X.A (f v u) Q X.xe s₂) X.xe s₁) X.xe s:=by
  refine thn (ha pins s σ H _ I h) fun v s1 ⟨x,H1,I1,r1,q1⟩=>?_
  refine thn (hb pins s1 σ H1 _ I1 q1) fun u s2 ⟨y,H2,I2,r2,q2⟩=>?_
  exact hf v u s2 x y H2 I2 r1 r2 q2
theorem pe_op {op:Operator} {r:R2} (ho:OpR X (binaryOp op) r) (ha:PE X a ta) (hb:PE X b tb):PE X (.BinOp a op b pos) (tOp r ta tb):=by
  intro pins s σ H Q I h
  exact wpAny_BinOp (binT ha hb I h fun v u s2 x y H2 I2 rx ry q=>ho pins s2 σ H2 x y v u Q I2 rx ry q)
theorem pe_un {op:UnaryOp} {r:V→Hp→VK→Prop} (ho:UnR X (unaryOp op) r) (ha:PE X a ta):PE X (.UnaryOp op a pos) (tUn r ta):=by
  intro pins s σ H Q I h
  exact UnaryOp_ (thn (ha pins s σ H _ I h) fun v s1 ⟨x,H1,I1,r1,q1⟩=>ho pins s1 σ H1 x v Q I1 r1 q1)
theorem opI {f:Value→Value→Sem Value} {C:Int→Int→Prop} {g:Int→Int→Int}
    (rule:∀ (i j:Int) (t u:Tok) (s:Shared) (Q:Value→Shared→Prop) (E:Value→Shared→Prop),C i j→Q (.int (g i j) s.toks) { s with toks:=s.toks + 1 }→wpAny (model X.prog X.w) X.A (f (.int i t) (.int j u)) Q E s) :
    OpR X f (rI C fun i j=>.int (g i j)):=by
  intro pins s σ H x y v u Q I rx ry h
  obtain ⟨i,j,rfl,rfl,hc,q⟩:=h
  obtain ⟨t,rfl⟩:=rx
  obtain ⟨t',rfl⟩:=ry
  exact rule i j t t' s _ _ hc ⟨.int (g i j),H,I.tok _,⟨_,rfl⟩,q⟩
theorem opI0 {f:Value→Value→Sem Value} {g:Int→Int→Int}
    (rule:∀ (i j:Int) (t u:Tok) (s:Shared) (Q:Value→Shared→Prop) (E:Value→Shared→Prop),Q (.int (g i j) s.toks) { s with toks:=s.toks + 1 }→wpAny (model X.prog X.w) X.A (f (.int i t) (.int j u)) Q E s) :
    OpR X f (rI0 fun i j=>.int (g i j)):=by
  intro pins s σ H x y v u Q I rx ry h
  obtain ⟨i,j,rfl,rfl,q⟩:=h
  obtain ⟨t,rfl⟩:=rx
  obtain ⟨t',rfl⟩:=ry
  exact rule i j t t' s _ _ ⟨.int (g i j),H,I.tok _,⟨_,rfl⟩,q⟩
theorem opB0 {f:Value→Value→Sem Value} {g:Int→Int→Bool}
    (rule:∀ (i j:Int) (t u:Tok) (s:Shared) (Q:Value→Shared→Prop) (E:Value→Shared→Prop),Q (.bool (g i j)) s→wpAny (model X.prog X.w) X.A (f (.int i t) (.int j u)) Q E s) :
    OpR X f (rI0 fun i j=>.bl (g i j)):=by
  intro pins s σ H x y v u Q I rx ry h
  obtain ⟨i,j,rfl,rfl,q⟩:=h
  obtain ⟨t,rfl⟩:=rx
  obtain ⟨t',rfl⟩:=ry
  exact rule i j t t' s _ _ ⟨.bl (g i j),H,I,rfl,q⟩
noncomputable def CDiv (i j:Int):Prop:=0 < j∧j < 1073741824
noncomputable def CPow (i j:Int):Prop:=0≤j∧j≤1000000∧i.natAbs < 2 ^ 64
noncomputable def CMul (i j:Int):Prop:=(-(2 ^ 64) < i∧i < 2 ^ 64)∨(-(2 ^ 64) < j∧j < 2 ^ 64)
theorem CMul.ok {i j:Int} (h:CMul i j):IntMulOk i j:=by
  rcases h with ⟨h1,h2⟩ | ⟨h1,h2⟩
  · exact .of_left (intBits_le_64 h1 h2)
  · exact .of_right (intBits_le_64 h1 h2)
theorem op_add:OpR X (binaryOp .Add) (rI0 fun i j=>.int (i + j)):=opI0 fun _ _ _ _ _ _ _ q=>add_int q
theorem op_sub:OpR X (binaryOp .Sub) (rI0 fun i j=>.int (i - j)):=opI0 fun _ _ _ _ _ _ _ q=>sub_int q
theorem Zks:OpR X (binaryOp .FloorDiv) (rI CDiv fun i j=>.int (i / j)):=opI fun i j _ _ _ _ _ hc q=>by
  have h1:(0:Int) < j:=hc.1
  have h2:j < 1073741824:=hc.2
  exact floordiv_int (by omega) (by rw [Int.fdiv_eq_ediv_of_nonneg i (by omega)]; exact q) (.inl (PyProof.noPylong_small (by omega)))
theorem op_mod:OpR X (binaryOp .Mod) (rI (fun _ j=>0 < j) fun i j=>.int (i % j)):=opI fun i j _ _ _ _ _ hc q=>by
  have h1:(0:Int) < j:=hc
  exact mod_int' (by omega) (by rw [Int.fmod_eq_emod_of_nonneg i (by omega)]; exact q)
theorem op_pow:OpR X (binaryOp .Pow) (rI CPow fun i j=>.int (i ^ j.toNat)):=opI fun _ _ _ _ _ _ _ hc q=>pow_int_small hc.1 hc.2.1 hc.2.2 q
theorem unI {f:Value→Sem Value} {g:Int→Int}
    (rule:∀ (i:Int) (t:Tok) (s:Shared) (Q:Value→Shared→Prop) (E:Value→Shared→Prop),Q (.int (g i) s.toks) { s with toks:=s.toks + 1 }→wpAny (model X.prog X.w) X.A (f (.int i t)) Q E s) :
    UnR X f (rU fun i=>.int (g i)):=by
  intro pins s σ H x v Q I rx h
  obtain ⟨i,rfl,q⟩:=h
  obtain ⟨t,rfl⟩:=rx
  exact rule i t s _ _ ⟨.int (g i),H,I.tok _,⟨_,rfl⟩,q⟩
theorem un_neg:UnR X (unaryOp .USub) (rU fun i=>.int (-i)):=unI fun _ _ _ _ _ q=>neg_int q
end
noncomputable def scal:V→V→Bool
  | .non,.non=>true | .non,.int _=>true | .int _,.non=>true | .non,.bl _=>true | .bl _,.non=>true | .non,.str _=>true | .str _,.non=>true
  | .int _,.int _=>true | .bl _,.bl _=>true | .str _,.str _=>true | .byt _,.byt _=>true
  | .int _,.str _=>true | .str _,.int _=>true | .bl _,.str _=>true | .str _,.bl _=>true
  | _,_=>false
noncomputable def rEq:R2:=fun x y H Q=>scal x y=true∧Q (.bl (decide (x=y))) H
noncomputable def rNe:R2:=fun x y H Q=>scal x y=true∧Q (.bl (!decide (x=y))) H
theorem Zeq {i j:Int}:decide (V.int i=V.int j)=(i == j):=by
  rw [Bool.eq_iff_iff]
  simp
theorem ZhE {i j:Bool}:decide (V.bl i=V.bl j)=(i == j):=by
  rw [Bool.eq_iff_iff]
  simp
theorem ZhC {i j:Str}:decide (V.str i=V.str j)=(i == j):=by
  rw [Bool.eq_iff_iff]
  simp
theorem ZhD {i j:Array UInt8}:decide (V.byt i=V.byt j)=(i.toList == j.toList):=by
  rw [Bool.eq_iff_iff]
  cases i
  cases j
  simp
section
variable {X:Cx} {a b c:Expr} {ta tb tc:TE} {pos:Pos}
theorem ZF {pins:List (Addr×Obj)} {σ:St} {H:Hp} {s:Shared} {Q:VK} {k k':Bool} (I:Inv X pins σ H s) (q:Q (.bl k) H) (e:k=k'):EP X pins σ Q (.bool k') s:=by
  subst e
  exact ⟨.bl k,H,I,rfl,q⟩
theorem op_eq:OpR X (compareOp .Eq) rEq:=by
  intro pins s σ H x y v u Q I rx ry h
  obtain ⟨hs,q⟩:=h
  cases x with
  | non =>
    cases rx
    cases y with
    | non=>cases ry; exact PySem.EqNone.eq_none_none (ZF I q (by simp))
    | bl j=>cases ry; exact PySem.EqNone.eq_none_bool (ZF I q (by simp))
    | int j=>obtain ⟨t',rfl⟩:=ry; exact PySem.EqNone.eq_none_int (ZF I q (by simp))
    | str j=>obtain ⟨t',rfl⟩:=ry; exact PySem.EqNone.eq_none_str (ZF I q (by simp))
    | _=>exact absurd (show false=true from hs) Bool.false_ne_true
  | bl i =>
    cases rx
    cases y with
    | non=>cases ry; exact PySem.EqNone.eq_bool_none (ZF I q (by simp))
    | bl j=>cases ry; exact eq_bool (ZF I q ZhE)
    | str j=>obtain ⟨t',rfl⟩:=ry; exact PySem.EqMixed.eq_bool_str (ZF I q (by simp))
    | _=>exact absurd (show false=true from hs) Bool.false_ne_true
  | int i =>
    obtain ⟨t,rfl⟩:=rx
    cases y with
    | non=>cases ry; exact PySem.EqNone.eq_int_none (ZF I q (by simp))
    | int j=>obtain ⟨t',rfl⟩:=ry; exact eq_int (ZF I q Zeq)
    | str j=>obtain ⟨t',rfl⟩:=ry; exact PySem.EqMixed.eq_int_str (ZF I q (by simp))
    | _=>exact absurd (show false=true from hs) Bool.false_ne_true
  | str i =>
    obtain ⟨t,rfl⟩:=rx
    cases y with
    | non=>cases ry; exact PySem.EqNone.eq_str_none (ZF I q (by simp))
    | bl j=>cases ry; exact PySem.EqMixed.eq_str_bool (ZF I q (by simp))
    | int j=>obtain ⟨t',rfl⟩:=ry; exact PySem.EqMixed.eq_str_int (ZF I q (by simp))
    | str j=>obtain ⟨t',rfl⟩:=ry; exact eq_str (ZF I q ZhC)
    | _=>exact absurd (show false=true from hs) Bool.false_ne_true
  | byt i =>
    obtain ⟨t,rfl⟩:=rx
    cases y with
    | byt j=>obtain ⟨t',rfl⟩:=ry; exact PySem.W.eq_bytes (ZF I q ZhD)
    | _=>exact absurd (show false=true from hs) Bool.false_ne_true
  | _=>cases y <;> exact absurd (show false=true from hs) Bool.false_ne_true
theorem op_ne:OpR X (compareOp .NotEq) rNe:=by
  intro pins s σ H x y v u Q I rx ry h
  obtain ⟨hs,q⟩:=h
  cases x with
  | non =>
    cases rx
    cases y with
    | non=>cases ry; exact PySem.EqNone.ne_none_none (ZF I q (by simp))
    | bl j=>cases ry; exact PySem.EqNone.ne_none_bool (ZF I q (by simp))
    | int j=>obtain ⟨t',rfl⟩:=ry; exact PySem.EqNone.ne_none_int (ZF I q (by simp))
    | str j=>obtain ⟨t',rfl⟩:=ry; exact PySem.EqNone.ne_none_str (ZF I q (by simp))
    | _=>exact absurd (show false=true from hs) Bool.false_ne_true
  | bl i =>
    cases rx
    cases y with
    | non=>cases ry; exact PySem.EqNone.ne_bool_none (ZF I q (by simp))
    | bl j=>cases ry; exact ne_bool (ZF I q (congrArg not ZhE))
    | str j=>obtain ⟨t',rfl⟩:=ry; exact PySem.EqMixed.ne_bool_str (ZF I q (by simp))
    | _=>exact absurd (show false=true from hs) Bool.false_ne_true
  | int i =>
    obtain ⟨t,rfl⟩:=rx
    cases y with
    | non=>cases ry; exact PySem.EqNone.ne_int_none (ZF I q (by simp))
    | int j=>obtain ⟨t',rfl⟩:=ry; exact ne_int (ZF I q (congrArg not Zeq))
    | str j=>obtain ⟨t',rfl⟩:=ry; exact PySem.EqMixed.ne_int_str (ZF I q (by simp))
    | _=>exact absurd (show false=true from hs) Bool.false_ne_true
  | str i =>
    obtain ⟨t,rfl⟩:=rx
    cases y with
    | non=>cases ry; exact PySem.EqNone.ne_str_none (ZF I q (by simp))
    | bl j=>cases ry; exact PySem.EqMixed.ne_str_bool (ZF I q (by simp))
    | int j=>obtain ⟨t',rfl⟩:=ry; exact PySem.EqMixed.ne_str_int (ZF I q (by simp))
    | str j=>obtain ⟨t',rfl⟩:=ry; exact ne_str (ZF I q (congrArg not ZhC))
    | _=>exact absurd (show false=true from hs) Bool.false_ne_true
  | byt i =>
    obtain ⟨t,rfl⟩:=rx
    cases y with
    | byt j=>obtain ⟨t',rfl⟩:=ry; exact PySem.W.ne_bytes (ZF I q (congrArg not ZhD))
    | _=>exact absurd (show false=true from hs) Bool.false_ne_true
  | _=>cases y <;> exact absurd (show false=true from hs) Bool.false_ne_true
theorem op_lt:OpR X (compareOp .Lt) (rI0 fun i j=>.bl (decide (i < j))):=opB0 fun _ _ _ _ _ _ _ q=>lt_int q
theorem op_le:OpR X (compareOp .LtE) (rI0 fun i j=>.bl (decide (i≤j))):=opB0 fun _ _ _ _ _ _ _ q=>le_int q
theorem op_gt:OpR X (compareOp .Gt) (rI0 fun i j=>.bl (decide (j < i))):=opB0 fun _ _ _ _ _ _ _ q=>gt_int q
theorem op_ge:OpR X (compareOp .GtE) (rI0 fun i j=>.bl (decide (j≤i))):=opB0 fun _ _ _ _ _ _ _ q=>ge_int q
theorem ZgO:OpR X (compareOp .Lt) (fun x y H Q=>∃ i j,x = .str i∧y = .str j∧Q (.bl (decide (i.cps.toList < j.cps.toList))) H):=by
  intro pins s σ H x y v u Q I rx ry h
  obtain ⟨i,j,rfl,rfl,q⟩:=h
  obtain ⟨t,rfl⟩:=rx
  obtain ⟨t',rfl⟩:=ry
  exact lt_str (ZF I q rfl)
theorem ZgP:OpR X (compareOp .In) (fun x y H Q=>∃ i j,x = .str i∧y = .str j∧Q (.bl (!(Builtin.Str.occurrences j i 0 j.length 1).isEmpty)) H):=by
  intro pins s σ H x y v u Q I rx ry h
  obtain ⟨i,j,rfl,rfl,q⟩:=h
  obtain ⟨t,rfl⟩:=rx
  obtain ⟨t',rfl⟩:=ry
  exact in_str (ZF I q rfl)
theorem op_isN:OpR X (compareOp .Is) (fun x y H Q=>y = .non∧Q (.bl (decide (x = .non))) H):=by
  intro pins s σ H x y v u Q I rx ry h
  obtain ⟨rfl,q⟩:=h
  cases ry
  refine is_none_gen (ZF I q ?_)
  cases x <;> first
    | (cases rx; rfl)
    | (obtain ⟨t,rfl⟩:=rx; rfl)
theorem Zkp:OpR X (compareOp .IsNot) (fun x y H Q=>y = .non∧Q (.bl (!decide (x = .non))) H):=by
  intro pins s σ H x y v u Q I rx ry h
  obtain ⟨rfl,q⟩:=h
  cases ry
  refine isnot_none_gen (ZF I q ?_)
  cases x <;> first
    | (cases rx; rfl)
    | (obtain ⟨t,rfl⟩:=rx; rfl)
theorem Zdd:OpR X (compareOp .NotIn) (fun x y H Q=>∃ i j,x = .str i∧y = .str j∧Q (.bl (!(!(Builtin.Str.occurrences j i 0 j.length 1).isEmpty))) H):=by
  intro pins s σ H x y v u Q I rx ry h
  obtain ⟨i,j,rfl,rfl,q⟩:=h
  obtain ⟨t,rfl⟩:=rx
  obtain ⟨t',rfl⟩:=ry
  exact notIn_str (ZF I q rfl)
theorem OpR.or {f:Value→Value→Sem Value} {r r':R2} (h:OpR X f r) (h':OpR X f r'):OpR X f (fun x y H Q=>r x y H Q∨r' x y H Q):=by
  intro pins s σ H x y v u Q I rx ry q
  rcases q with q | q
  · exact h pins s σ H x y v u Q I rx ry q
  · exact h' pins s σ H x y v u Q I rx ry q
theorem Zkh {op:CmpOp} {r:R2} (ho:OpR X (compareOp op) r) (ha:PE X a ta) (hb:PE X b tb) (hm:behindInMarks op b=false):PE X (.Compare a [op] [b] pos) (tOp r ta tb):=by
  intro pins s σ H Q I h
  exact wpAny_Compare1 (binT ha hb I h fun v u s2 x y H2 I2 rx ry q=>ho pins s2 σ H2 x y v u Q I2 rx ry q) hm
noncomputable def ZjL (t:TE):TT:=fun σ H Q=>t σ H fun x H'=>∃ k,x = .bl k∧Q k H'
theorem ZjV {op:CmpOp} {r:R2} (ho:OpR X (compareOp op) r) (ha:PE X a ta) (hb:PE X b tb) (hm:behindInMarks op b=false):PT X (.Compare a [op] [b] pos) (ZjL (tOp r ta tb)):=by
  intro pins s σ H Q I h
  refine wpAny_isTrue_Compare1 (thn (ha pins s σ H _ I h) fun v s1 ⟨x,H1,I1,r1,q1⟩=>thn (hb pins s1 σ H1 _ I1 q1) fun u s2 ⟨y,H2,I2,r2,q2⟩ =>
    thn (ho pins s2 σ H2 x y v u _ I2 r1 r2 q2) fun c s3 ⟨z,H3,I3,r3,k,e,q3⟩=>?_) hm
  subst e
  cases r3
  exact wpAny_truthy_bool ⟨H3,I3,q3⟩
noncomputable def Zgi (r r':R2) (ta tb tc:TE):TE:=fun σ H Q=>ta σ H fun x H1=>tb σ H1 fun y H2=>r x y H2 fun z H3=>∃ k,z = .bl k ∧
  (if k=true then tc σ H3 fun w' H4=>r' y w' H4 Q else Q (.bl false) H3)
theorem ZiD {op op':CmpOp} {r r':R2} (ho:OpR X (compareOp op) r) (ho':OpR X (compareOp op') r') (ha:PE X a ta) (hb:PE X b tb) (hc:PE X c tc)
    (hm:lastMarks [op,op'] [b,c]=false:=by with_unfolding_all rfl):PE X (.Compare a [op,op'] [b,c] pos) (Zgi r r' ta tb tc):=by
  intro pins s σ H Q I h
  refine Compare_chain (thn (ha pins s σ H _ I h) fun v s1 ⟨x,H1,I1,r1,q1⟩=>chain_link (thn (hb pins s1 σ H1 _ I1 q1) fun u s2 ⟨y,H2,I2,r2,q2⟩ =>
    thn (ho pins s2 σ H2 x y v u _ I2 r1 r2 q2) fun d s3 ⟨z,H3,I3,r3,k,e,q3⟩=>?_)) hm
  subst e
  cases r3
  refine wpAny_truthy_bool ?_
  cases k with
  | false=>exact ite_ff ⟨.bl false,H3,I3,rfl,q3⟩
  | true=>exact ite_tt (chain_last (thn (hc pins s3 σ H3 _ I3 q3) fun w' s4 ⟨z',H4,I4,r4,q4⟩=>ho' pins s4 σ H4 y z' u w' Q I4 r2 r4 q4))
theorem Zii {op op':CmpOp} {r r':R2} (ho:OpR X (compareOp op) r) (ho':OpR X (compareOp op') r') (ha:PE X a ta) (hb:PE X b tb) (hc:PE X c tc)
    (hm:lastMarks [op,op'] [b,c]=false:=by with_unfolding_all rfl):PT X (.Compare a [op,op'] [b,c] pos) (ZjL (Zgi r r' ta tb tc)):=by
  intro pins s σ H Q I h
  refine isTrue_chain (thn (ha pins s σ H _ I h) fun v s1 ⟨x,H1,I1,r1,q1⟩=>test_link (thn (hb pins s1 σ H1 _ I1 q1) fun u s2 ⟨y,H2,I2,r2,q2⟩ =>
    thn (ho pins s2 σ H2 x y v u _ I2 r1 r2 q2) fun d s3 ⟨z,H3,I3,r3,k,e,q3⟩=>?_)) hm
  subst e
  cases r3
  refine wpAny_truthy_bool ?_
  cases k with
  | false =>
    obtain ⟨k',e',q'⟩:=q3
    cases e'
    exact ite_ff ⟨H3,I3,q'⟩
  | true =>
    refine ite_tt (test_last (thn (hc pins s3 σ H3 _ I3 q3) fun w' s4 ⟨z',H4,I4,r4,q4⟩=>thn (ho' pins s4 σ H4 y z' u w' _ I4 r2 r4 q4) fun d' s5 ⟨z2,H5,I5,r5,k2,e2,q5⟩=>?_))
    subst e2
    cases r5
    exact wpAny_truthy_bool ⟨H5,I5,q5⟩
noncomputable def TruV (K:PySem.W.Frag) (x:V) (H:Hp) (k:Bool):Prop :=
  match x with
  | .non=>k=false
  | .bl b=>k=b
  | .int i=>k=(i != 0)
  | .str y=>y.length≤sizeLine∧k=((y.length:Int) != 0)
  | .byt y=>y.size≤sizeLine∧k=((y.size:Int) != 0)
  | .ref p=>(∃ xs,SqL K H p xs∧k = !xs.isEmpty)∨(∃ xs,SqT K H p xs∧k = !xs.isEmpty)∨∃ kvs,H p=some (.dK kvs)∧k = !kvs.isEmpty
  | _=>False
theorem ZfO {κ:Type} {kvs:List (κ×V)} {vs:List (κ×Value)} (r:KV kvs vs):(!vs.isEmpty) = !kvs.isEmpty:=by
  cases r <;> rfl
theorem Zca {xs:List V} {its:List Value} (r:Vals xs its):(!its.toArray.isEmpty) = !xs.isEmpty:=by
  cases r <;> simp
theorem Zb8:(sizeLine:Nat) < 2 ^ 63:=by rw [sizeLine_eq]; decide
theorem tru_ok:TruR X (fun x H Q=>∃ k,TruV X.K x H k∧Q k H):=by
  intro pins s σ H x v Q I rx h
  obtain ⟨k,e,q⟩:=h
  have hl:=Zb8
  have hs:sizeLine=16777216:=sizeLine_eq
  cases x with
  | non =>
    cases rx
    have e':k=false:=e
    subst e'
    exact truthy_none ⟨H,I,q⟩
  | bl b =>
    cases rx
    have e':k=b:=e
    subst e'
    exact wpAny_truthy_bool ⟨H,I,q⟩
  | int i =>
    obtain ⟨t,rfl⟩:=rx
    have e':k=(i != 0):=e
    subst e'
    exact PySem.P.truthy_int ⟨H,I,q⟩
  | str y =>
    obtain ⟨t,rfl⟩:=rx
    obtain ⟨hy,e'⟩:y.length≤sizeLine∧k=((y.length:Int) != 0):=e
    subst e'
    exact PySem.P.truthy_str (by omega) ⟨H,I.tok _,q⟩
  | byt y =>
    obtain ⟨t,rfl⟩:=rx
    obtain ⟨hy,e'⟩:y.size≤sizeLine∧k=((y.size:Int) != 0):=e
    subst e'
    exact PySem.W.truthy_bytes (by omega) ⟨H,I.tok _,q⟩
  | ref p =>
    cases rx
    have e':(∃ xs,SqL X.K H p xs∧k = !xs.isEmpty)∨(∃ xs,SqT X.K H p xs∧k = !xs.isEmpty)∨∃ kvs,H p=some (.dK kvs)∧k = !kvs.isEmpty:=e
    rcases e' with ⟨xs,hx,e'⟩ | ⟨xs,hx,e'⟩ | ⟨kvs,hx,e'⟩
    · subst e'
      obtain ⟨its,r,pl,hz⟩:=I.list hx
      have hlen:=r.length
      exact wpAny_truthy_list pl.isList (by simp only [List.size_toArray]; omega) ⟨H,I.tok _,by rw [Zca r]; exact q⟩
    · subst e'
      obtain ⟨its,r,pl,hz⟩:=I.tuple hx
      have hlen:=r.length
      exact truthy_tuple pl (by simp only [List.size_toArray]; omega) ⟨H,I.tok _,by rw [Zca r]; exact q⟩
    · subst e'
      obtain ⟨hz,hS,vs,r,m⟩:kvs.length≤sizeLine∧(p == sysModules)=false∧∃ vs,KV kvs vs∧s.heap.DictOf (Jv X.prog X.w) p vs:=I.hok p _ hx
      have hlen:kvs.length=vs.length:=Paired.length r
      exact wpAny_truthy_dict hS m (by omega) ⟨H,I.tok _,by rw [ZfO r]; exact q⟩
  | _=>exact (show False from e).elim
theorem Zih (ha:PE X a ta) (he:∀ whole,isTrue a X.env whole=(do let v ← whole; standAt a.pos; holding [v] (truthy v))) :
    PT X a (fun σ H Q=>ta σ H fun x H'=>∃ k,TruV X.K x H' k∧Q k H'):=by
  intro pins s σ H Q I h
  exact isTrue_plain (thn (ha pins s σ H _ I h) fun v s1 ⟨x,H1,I1,r1,q1⟩=>tru_ok pins s1 σ H1 x v Q I1 r1 q1) (he _)
theorem Zfy:OpR X (binaryOp .Add) (fun x y H Q=>∃ i j,x = .str i∧y = .str j∧i.length + j.length≤sizeLine∧Q (.str (i++j)) H):=by
  intro pins s σ H x y v u Q I rx ry h
  obtain ⟨i,j,rfl,rfl,hz,q⟩:=h
  obtain ⟨t,rfl⟩:=rx
  obtain ⟨t',rfl⟩:=ry
  exact add_str (fun t' tk=>⟨.str (i++j),H,I.tok _,⟨_,rfl⟩,q⟩) hz
theorem vals1 {x:V} {us:List Value} (r:Vals [x] us):∃ u,us=[u]∧RelV x u:=by
  cases r with
  | cons r1 r2=>cases r2; exact ⟨_,rfl,r1⟩
theorem vals2 {x y:V} {us:List Value} (r:Vals [x,y] us):∃ u w',us=[u,w']∧RelV x u∧RelV y w':=by
  cases r with
  | cons r1 r2 =>
    cases r2 with
    | cons r3 r4=>cases r4; exact ⟨_,_,rfl,r1,r3⟩
theorem ZdN:J4 X (.type "int") (fun xs H Q=>(∃ i,xs=[.int i]∧Q (.int i) H)∨∃ k,xs=[.bl k]∧Q (.int (if k then 1 else 0)) H):=by
  intro pins s σ H xs us Q I r h
  rcases h with ⟨i,rfl,q⟩ | ⟨k,rfl,q⟩
  · obtain ⟨u,rfl,t,rfl⟩:=vals1 r
    exact call_int_int ⟨.int i,H,I,⟨_,rfl⟩,q⟩
  · obtain ⟨u,rfl,r1⟩:=vals1 r
    cases r1
    exact call_int_bool ⟨.int (if k then 1 else 0),H,I.tok _,⟨_,rfl⟩,q⟩
noncomputable def LenV (K:PySem.W.Frag) (x:V) (H:Hp) (n:Nat):Prop :=
  match x with
  | .str y=>y.length≤sizeLine∧n=y.length
  | .byt y=>y.size≤sizeLine∧n=y.size
  | .ref p=>(∃ xs,SqL K H p xs∧n=xs.length)∨∃ xs,SqT K H p xs∧n=xs.length
  | _=>False
theorem Za7:J4 X (.builtin "len") (fun xs H Q=>∃ x n,xs=[x]∧LenV X.K x H n∧Q (.int n) H):=by
  intro pins s σ H xs us Q I r h
  obtain ⟨x,n,rfl,e,q⟩:=h
  obtain ⟨u,rfl,rx⟩:=vals1 r
  have hl:=Zb8
  have hs:sizeLine=16777216:=sizeLine_eq
  cases x with
  | str y =>
    obtain ⟨t,rfl⟩:=rx
    obtain ⟨hy,e'⟩:y.length≤sizeLine∧n=y.length:=e
    subst e'
    exact len_str (by omega) ⟨.int _,H,I.tok _,⟨_,rfl⟩,q⟩
  | byt y =>
    obtain ⟨t,rfl⟩:=rx
    obtain ⟨hy,e'⟩:y.size≤sizeLine∧n=y.size:=e
    subst e'
    exact PySem.W.len_bytes (by omega) ⟨.int _,H,I.tok _,⟨_,rfl⟩,q⟩
  | ref p =>
    cases rx
    have e':(∃ xs,SqL X.K H p xs∧n=xs.length)∨∃ xs,SqT X.K H p xs∧n=xs.length:=e
    rcases e' with ⟨xs,hx,e'⟩ | ⟨xs,hx,e'⟩
    · subst e'
      obtain ⟨its,r',pl,hz⟩:=I.list hx
      have hlen:=r'.length
      exact Calls.call_len_list pl.isList (by simp only [List.size_toArray]; omega) ⟨.int xs.length,H,I.tok _,⟨_,by simp only [List.size_toArray]; rw [hlen]⟩,q⟩
    · subst e'
      obtain ⟨its,r',pl,hz⟩:=I.tuple hx
      have hlen:=r'.length
      exact len_tuple pl (by simp only [List.size_toArray]; omega) ⟨.int xs.length,H,I.tok _,⟨_,by simp only [List.size_toArray]; rw [hlen]⟩,q⟩
  | _=>exact (show False from e).elim
end
end L2
namespace L2
open PySem PySem.Spec PyProof.Rows
structure ObjM (h:Heap) (x dx C:Addr) (mA:Str→Option Value):Prop where
  obj:h.get? x=some (PySem.W.instObj C dx)
  ns:h.Ns1 dx mA
  ne:dx≠x
theorem Zdt {h:Heap} {dx:Addr} {mA:Str→Option Value} (n:h.Ns1 dx mA):∃ od,h.get? dx=some od∧∀ name,PySem.W.lookIn name od=some (mA name):=by
  obtain ⟨o,es,ep,ho,hd,hk,_,hm⟩:=n
  refine ⟨o,ho,fun name=>?_⟩
  have e:=hm name
  unfold nsFind findBy at e
  rw [← Array.find?_toList] at e
  unfold PySem.W.lookIn
  rw [hd]
  dsimp only
  split
  · rename_i y q
    rw [q] at e
    exact congrArg some e
  · rename_i q
    rw [q] at e
    have a:es.toList.any (·.refKey)=false:=by
      rw [List.any_eq_false]
      intro y hy
      obtain ⟨z,t,hkey⟩:=hk y (Array.mem_toList_iff.mp hy)
      simp [DictEntry.refKey,hkey]
    have a':¬ es.toList.any (·.refKey)=true:=by rw [a]; exact Bool.false_ne_true
    rw [if_neg a']
    exact congrArg some e
theorem ObjM.look {h:Heap} {x dx C:Addr} {mA:Str→Option Value} (I:ObjM h x dx C mA):∃ od,PySem.W.InstAt h x (PySem.W.instObj C dx) C (some od)∧∀ name,PySem.W.lookIn name od=some (mA name) :=
  let ⟨od,ho,hl⟩:=Zdt I.ns
  ⟨od,⟨I.obj,rfl,rfl,ho⟩,hl⟩
section
variable {prog:Program} {w:World} {A:Around} {E:Value→Shared→Prop} {s:Shared} {K:PySem.W.Frag} {x dx C f:Addr} {mA:Str→Option Value} {name:Str} {v:Value}
end
theorem RelO.some_of {v:V} {o:Option Value} (r:RelO (some v) o):∃ u,o=some u∧RelV v u:=by
  cases o with
  | none=>exact (show False from r).elim
  | some u=>exact ⟨u,rfl,r⟩
theorem RelO.none_of {o:Option Value} (r:RelO none o):o=none:=by
  cases o with
  | none=>rfl
  | some u=>exact (show False from r).elim
theorem Zhl {v:V} {u:Value} (r:RelV v u):PySem.W.handedIn u=true:=by
  cases v with
  | non=>cases (show u=Value.none from r); rfl
  | bl b=>cases (show u=Value.bool b from r); rfl
  | int i=>obtain ⟨t,e⟩:=(show ∃ t,u=Value.int i t from r); cases e; rfl
  | str x=>obtain ⟨t,e⟩:=(show ∃ t,u=Value.str x t from r); cases e; rfl
  | byt b=>obtain ⟨t,e⟩:=(show ∃ t,u=Value.bytes b t from r); cases e; rfl
  | flt b=>obtain ⟨t,e⟩:=(show ∃ t,u=Value.float b t from r); cases e; rfl
  | ref a=>cases (show u=Value.ref a from r); rfl
  | ty n=>cases (show u=Value.type n from r); rfl
section
variable {P:Program} {w:World} {H H':Hp} {h h':Heap} {a C dx:Addr} {fs fs':List (Str×V)}
theorem ZkJ (hok:HOk P w H h) (e:H a=some (.ins C dx fs)):∃ mA,ObjM h a dx C mA∧(∀ f,RelO (fs.lookup f) (mA f))∧PySem.Within mA (fs.map (·.1))∧fs.length≤1000∧H dx=some (.own a):=by
  obtain ⟨d,z,ne,ob,mA,n,r,q⟩:=(show Jx P w H h a (.ins C dx fs) from hok a _ e)
  exact ⟨mA,⟨ob,n,ne⟩,r,q,z,d⟩
end
structure Cls (K:PySem.W.Frag) (C:Addr):Prop where
  pg:PySem.W.plainGet K C Str.empty=true
  hd:PySem.W.hasDictIn K C=true
  po:PySem.W.plainOver K C=true
  sa:PySem.W.findIn K (.ref C) "__setattr__" = some (some (.builtin "object.__setattr__"))
theorem Cls.get {K:PySem.W.Frag} {C:Addr} (c:Cls K C) (f:Str):PySem.W.plainGet K C f=true:=c.pg
structure Con (K:PySem.W.Frag) (C:Addr) (f:Str) (v:V) (u:Value):Prop where
  at_:PySem.W.findIn K (.ref C) f=some (some u)
  rel:RelV v u
  get:PySem.W.specialIn K u "__get__" = some none
  cp:PySem.W.copiedNames.contains f=false
structure Meth (K:PySem.W.Frag) (C:Addr) (m:Str) (f:Addr):Prop where
  at_:PySem.W.findIn K (.ref C) m=some (some (.ref f))
  fn:PySem.W.isFn K (.ref f)=true
  kp:PySem.W.keepIn K (.ref f)=true
section
variable {X:Cx} {pins:List (Addr×Obj)} {σ:St} {H:Hp} {s:Shared} {a C dx:Addr} {fs:List (Str×V)} {f:Str} {v:V} {A:Around} {E:Value→Shared→Prop}
theorem Zk2 {prog:Program} {w:World} {env:Env} {e:Expr} {f:Str} {pos:Pos} {s:Shared} {Q:Value→Shared→Prop} (hb:attributeBase e f env (eval e env)=eval e env)
    (h:wpAny (model prog w) A (eval e env) (fun o s₁=>wpAny (model prog w) A (getAttr o f true) Q E s₁) E s):wpAny (model prog w) A (eval (.Attribute e f pos) env) Q E s :=
  Attribute_any_ h (by rw [arm_eval_Attribute,hb])
end
section
variable {X:Cx} {o e value:Expr} {f:Str} {pos pos' tpos:Pos} {ta tv:TE}
end
section
variable {X:Cx} {pins:List (Addr×Obj)} {σ:St} {H:Hp} {s:Shared} {A:Around} {E:Value→Shared→Prop} {Q:Value→Shared→Prop} {c:Value} {b:Bool}
inductive TyOf (K:PySem.W.Frag) (H:Hp):V→Value→Prop where
  | non:TyOf K H .non (.type "NoneType")
  | bl (x:Bool):TyOf K H (.bl x) (.type "bool")
  | int (i:Int):TyOf K H (.int i) (.type "int")
  | str (x:Str):TyOf K H (.str x) (.type "str")
  | flt (x:UInt64):TyOf K H (.flt x) (.type "float")
  | lst {a:Addr} {xs:List V} (e:H a=some (.lst xs)):TyOf K H (.ref a) (.type "list")
  | frz {a:Addr} {o:Obj} {xs:List V} (e:H a=some (.frz o (.lst xs))):TyOf K H (.ref a) (.type "list")
  | tup {a:Addr} {xs:List V} (e:H a=some (.tup xs)):TyOf K H (.ref a) (.type "tuple")
  | dK {a:Addr} {kvs:List (Key×V)} (e:H a=some (.dK kvs)):TyOf K H (.ref a) (.type "dict")
  | dT {a:Addr} {kvs:List (List Key×V)} (e:H a=some (.dT kvs)):TyOf K H (.ref a) (.type "dict")
  | ins {a C dx:Addr} {fs:List (Str×V)} (e:H a=some (.ins C dx fs)) (cl:Cls K C) (ha:PySem.W.findIn K (.ref C) "__class__" = some (some (.builtin "object.__class__")))
      (hn:PySem.W.specialIn K (.builtin "object.__class__") "__get__" = some (some (.builtin "getset_descriptor.__get__"))) (htk:PySem.W.takesIn K (.builtin "object.__class__")=some true)
      (hm:PySem.W.mroIn K C (.type "object")=some true):TyOf K H (.ref a) (.ref C)
theorem Xa {x:V} {u t:Value} (I:Inv X pins σ H s) (rx:RelV x u) (ty:TyOf X.K H x t) (e:PySem.W.kitOne X.K t c=some b) (h:∀ tk,Q (.bool b) { s with toks:=tk }) :
    wpAny (model X.prog X.w) A (call (.builtin "isinstance") [u,c]) Q E s:=by
  cases ty with
  | non=>cases (show u=Value.none from rx); exact PySem.W.kia_one PySem.W.kitx_none I.kIn True.intro e (fun z=>nomatch z) h
  | bl y=>cases (show u=Value.bool y from rx); exact PySem.W.kia_one PySem.W.kitx_bool I.kIn True.intro e (fun z=>nomatch z) h
  | int i=>obtain ⟨t,q⟩:=(show ∃ t,u=Value.int i t from rx); cases q; exact PySem.W.kia_one PySem.W.kitx_int I.kIn True.intro e (fun z=>nomatch z) h
  | str y=>obtain ⟨t,q⟩:=(show ∃ t,u=Value.str y t from rx); cases q; exact PySem.W.kia_one PySem.W.kitx_str I.kIn True.intro e (fun z=>nomatch z) h
  | flt y=>obtain ⟨t,q⟩:=(show ∃ t,u=Value.float y t from rx); cases q; exact PySem.W.kia_one PySem.W.kitx_float I.kIn True.intro e (fun z=>nomatch z) h
  | @lst a xs ea =>
    cases (show u=Value.ref a from rx)
    obtain ⟨_,_,n,_,h1⟩:=(show Jx X.prog X.w H s.heap a (.lst xs) from I.hok a _ ea)
    exact PySem.W.kia_one PySem.W.kitx_list I.kIn ⟨_,h1,rfl⟩ e (fun z=>nomatch z) h
  | @frz a ob xs ea =>
    cases (show u=Value.ref a from rx)
    obtain ⟨_,_,_,n,_,h1⟩:=(show Jx X.prog X.w H s.heap a (.frz ob (.lst xs)) from I.hok a _ ea)
    exact PySem.W.kia_one PySem.W.kitx_list I.kIn ⟨_,h1,rfl⟩ e (fun z=>nomatch z) h
  | @tup a xs ea =>
    cases (show u=Value.ref a from rx)
    obtain ⟨_,_,_,p⟩:=(show Jx X.prog X.w H s.heap a (.tup xs) from I.hok a _ ea)
    obtain ⟨o,h1,h2,_⟩:=p
    exact PySem.W.kia_one PySem.W.kitx_tuple I.kIn ⟨o,h1,h2⟩ e (fun z=>nomatch z) h
  | @dK a kvs ea =>
    cases (show u=Value.ref a from rx)
    obtain ⟨_,_,vs,_,p⟩:=(show Jx X.prog X.w H s.heap a (.dK kvs) from I.hok a _ ea)
    obtain ⟨o,es,ep,h1,h2,_⟩:=p
    exact PySem.W.kia_one PySem.W.kitx_dict I.kIn ⟨o,h1,h2.1⟩ e (fun z=>nomatch z) h
  | @dT a kvs ea =>
    cases (show u=Value.ref a from rx)
    obtain ⟨_,_,xs,_,o,es,ep,h1,h2,_⟩:=(show Jx X.prog X.w H s.heap a (.dT kvs) from I.hok a _ ea)
    exact PySem.W.kia_one PySem.W.kitx_dict I.kIn ⟨o,h1,h2.1⟩ e (fun z=>nomatch z) h
  | @ins a C dx fs ea cl ha hn htk hm =>
    cases (show u=Value.ref a from rx)
    obtain ⟨mA,O,_⟩:=ZkJ I.hok ea
    obtain ⟨od,J,_⟩:=O.look
    exact PySem.W.kia_one (PySem.W.kitx_own (cl.get _) cl.hd ha hn htk hm) I.kIn J e (fun z=>nomatch z) h
end
end L2
namespace L2
open PySem PySem.Spec PyProof.Rows
structure Room (k:Nat) (A:Around):Prop where
  hd:A.handled=none
  dp:A.depth + 3 * k + 5 < recursionLimit
  un:A.units + 16 * k + 200 < cLine
theorem Room.mono {j k:Nat} {A:Around} (r:Room k A) (h:j≤k):Room j A:=⟨r.hd,by have:=r.dp; omega,by have:=r.un; omega⟩
theorem Room.deeper {k:Nat} {A:Around} (r:Room (k + 1) A) (env:Env):Room k (A.deeper env) :=
  ⟨r.hd,by have:=r.dp; show A.depth + 1 + 3 * k + 5 < _; omega,by have:=r.un; show A.units + 3 + 16 * k + 200 < _; omega⟩
theorem Room.in1 {k:Nat} {A:Around} (r:Room (k + 1) A):Room k A.in1 :=
  ⟨r.hd,by have:=r.dp; show A.depth + 3 * k + 5 < _; omega,by have:=r.un; show A.units + 1 + 16 * k + 200 < _; omega⟩
theorem Zb6 {A:Around} {C:Addr} {us:List Value} {kw:List (Str×Value)}:(A.under (.builtin "type.__call__" ⟨.ref C :: us,kw⟩)).depth=A.depth + 1:=by
  first | rfl | simp [Around.under,Code.weight,Code.isCreation,Code.isGuard,Code.isCaller,Code.frames,Code.isFrame,guardIds]
theorem ZfI {A:Around} {C:Addr} {us:List Value} {kw:List (Str×Value)}:(A.under (.builtin "type.__call__" ⟨.ref C :: us,kw⟩)).units=A.units + 1:=by
  first | rfl | simp [Around.under,Code.cUnits,Code.frames,Code.isFrame]
theorem Room.make {k:Nat} {A:Around} (r:Room (k + 1) A) (C:Addr) (us:List Value) (kw:List (Str×Value)):Room k (A.under (.builtin "type.__call__" ⟨.ref C :: us,kw⟩)) :=
  ⟨r.hd,by have:=r.dp; rw [Zb6]; omega,by have:=r.un; rw [ZfI]; omega⟩
theorem Room.depth {k:Nat} {A:Around} (r:Room k A):A.depth < recursionLimit:=by have:=r.dp; omega
theorem Room.units {k:Nat} {A:Around} (r:Room k A):A.units + 64 < cLine:=by have:=r.un; omega
noncomputable def tNil:TA:=fun _ H Q=>Q [] H
noncomputable def tCons (ta:TE) (tr:TA):TA:=fun σ H Q=>ta σ H fun x H1=>tr σ H1 fun xs H2=>Q (x :: xs) H2
section
variable {X:Cx} {e:Expr} {es:List Expr} {te:TE} {t:TA} {pos:Pos}
theorem Zdc:PA X [] tNil:=fun _ _ _ _ H Q I h=>Calls.spliced_nil ⟨[],H,I,.nil,h⟩
theorem J7 (ha:PE X e te) (hr:PA X es t) (hs:starEach (e :: es) X.env=(false,eval e X.env) :: starEach es X.env:=by rfl):PA X (e :: es) (tCons te t):=by
  intro pos pins s σ H Q I h
  rw [hs]
  show wpAny _ _ (spliced ((false,eval e X.env) :: backTo pos (starEach es X.env))) _ _ s
  refine Calls.spliced_cons (thn (ha pins s σ H _ I h) fun u s1 ⟨x,H1,I1,r1,q1⟩=>?_)
  exact thn (hr pos pins s1 σ H1 _ I1 q1) fun us s2 ⟨xs,H2,I2,r2,q2⟩=>⟨x :: xs,H2,I2,.cons r1 r2,q2⟩
noncomputable def tTup (t:TA):TE:=fun σ H Q=>t σ H fun xs H1=>xs.length≤sizeLine∧∀ p,H1 p=none→Q (.ref p) (upd H1 p (.tup xs))
noncomputable def tLst (t:TA):TE:=fun σ H Q=>t σ H fun xs H1=>xs.length≤sizeLine∧∀ p,H1 p=none→Q (.ref p) (upd H1 p (.lst xs))
theorem Zjj {x1} (h:PA X es t):PE X (.Tuple es x1 pos) (tTup t):=by
  intro pins s σ H Q I hq
  refine wpAny_Tuple_spliced (thn (h pos pins s σ H _ I hq) fun us s1 ⟨xs,H1,I1,r,z,q⟩=>⟨by rw [← r.length]; exact z,?_⟩)
  have hf:H1 s1.heap.objs.size=none:=I1.hok.fresh (Nat.le_refl _)
  refine ⟨.ref s1.heap.objs.size,upd H1 s1.heap.objs.size (.tup xs),I1.laid (t':=s1.toks) (fun b u e=>Heap.get?_push_of_some _ e) (Nat.le_refl _) ?_,rfl,q _ hf⟩
  exact ⟨z,us,r,⟨_,Heap.get?_push_size _ rfl,rfl,⟨_,rfl⟩,rfl⟩⟩
theorem pe_lst (h:PA X es t):PE X (.List es pos) (tLst t):=by
  intro pins s σ H Q I hq
  refine wpAny_List_spliced (thn (h pos pins s σ H _ I hq) fun us s1 ⟨xs,H1,I1,r,z,q⟩=>⟨by rw [← r.length]; exact z,?_⟩)
  have hf:H1 s1.heap.objs.size=none:=I1.hok.fresh (Nat.le_refl _)
  refine ⟨.ref s1.heap.objs.size,upd H1 s1.heap.objs.size (.lst xs),I1.laid (t':=s1.toks) (fun b u e=>Heap.get?_push_of_some _ e) (Nat.le_refl _) ?_,rfl,q _ hf⟩
  exact ⟨z,us,0,r,Heap.get?_push_size _ rfl⟩
end
noncomputable abbrev Sp:=List V→Hp→VK→XK→Prop
noncomputable abbrev CXT:=List Env→Hp→Shared→XK→Value→Shared→Prop
structure Env0 (P:Program) (w:World) (K:PySem.W.Frag) (mg:Str→Option Value) (base:Heap) (A:Around) (outer:List Env) (s:Shared) (H:Hp):Prop where
  frames:A.frames=some outer
  mod:Mod K mg base
  bs:∀ b o,base.get? b=some o→s.heap.get? b=some o∧H b=none
  bsz:base.objs.size≤s.heap.objs.size
  funs:s.heap.FunFrames base outer
  frf:∀ b∈frs outer,H b=none
  hok:HOk P w H s.heap
  bare:AllBare s.gens
noncomputable def CE (outer:List Env) (P:Program) (w:World) (H:Hp) (s:Shared) (Q:VK) (u:Value) (s':Shared):Prop :=
  ∃ v H',s'.os=s.os∧AllBare s'.gens∧Un (frs outer) [] H H' s.heap s'.heap∧HOk P w H' s'.heap∧RelV v u∧Q v H'
noncomputable def CR (CX:CXT) (outer:List Env) (P:Program) (w:World) (H:Hp) (s:Shared) (Q:VK) (E:XK) (r:Result) (s':Shared):Prop :=
  match r with
  | .ok (.ret u)=>CE outer P w H s Q u s'
  | .ok _=>False
  | .error e=>CX outer H s E e s'
structure FnOk (P:Program) (w:World) (K:PySem.W.Frag) (mg:Str→Option Value) (base:Heap) (CX:CXT) (k:Nat) (f:Addr) (fd:FuncData) (ps:List Str) (sp:Sp):Prop where
  len:∀ vs H Q E,sp vs H Q E→vs.length=ps.length
  run:∀ (A:Around) (outer:List Env) (s:Shared) (H:Hp) (args:Args) (us:List Value) (vs:List V) (Q:VK) (E:XK),Room k A→Env0 P w K mg base A outer s H→BindsTo s fd args (ps.zip us)→Vals vs us→sp vs H Q E →
    codeAny (model P w) A (.call (.ref f) args) (CR CX outer P w H s Q E) s
theorem FnOk.mono {P:Program} {w:World} {K:PySem.W.Frag} {mg:Str→Option Value} {base:Heap} {CX:CXT} {j k:Nat} {f:Addr} {fd:FuncData} {ps:List Str} {sp:Sp} (F:FnOk P w K mg base CX j f fd ps sp) (h:j≤k) :
    FnOk P w K mg base CX k f fd ps sp:=⟨F.len,fun A outer s H args us vs Q E hr=>F.run A outer s H args us vs Q E (hr.mono h)⟩
theorem Env0.make {P:Program} {w:World} {K:PySem.W.Frag} {mg:Str→Option Value} {base:Heap} {A:Around} {outer:List Env} {s:Shared} {H:Hp} (e:Env0 P w K mg base A outer s H) (C:Addr) (us:List Value) (kw:List (Str×Value)) :
    Env0 P w K mg base (A.under (.builtin "type.__call__" ⟨.ref C :: us,kw⟩)) outer s H:=⟨by first | exact e.frames | (simpa [Around.under,Code.envs,Code.isFrame,pushEnvs] using e.frames),e.mod,e.bs,e.bsz,e.funs,e.frf,e.hok,e.bare⟩
theorem Env0.in1 {P:Program} {w:World} {K:PySem.W.Frag} {mg:Str→Option Value} {base:Heap} {A:Around} {outer:List Env} {s:Shared} {H:Hp} (e:Env0 P w K mg base A outer s H) :
    Env0 P w K mg base A.in1 outer s H:=⟨e.frames,e.mod,e.bs,e.bsz,e.funs,e.frf,e.hok,e.bare⟩
section
variable {X:Cx} {pins:List (Addr×Obj)} {σ:St} {H:Hp} {s s':Shared}
theorem Inv.env0 (I:Inv X pins σ H s):Env0 X.prog X.w X.K X.mg X.base X.A X.stack s H :=
  ⟨I.ok.frames,I.ok.mod,I.bs,Nat.le_trans I.ok.bsz I.sz,I.stack,I.stkFree,I.hok,I.bare⟩
theorem Inv.after {Q:VK} {u:Value} (I:Inv X pins σ H s) (h:CE X.stack X.prog X.w H s Q u s'):EP X pins σ Q u s':=by
  obtain ⟨v,H',os,bare,un,hok,r,q⟩:=h
  obtain ⟨hh,g,d,t,os'⟩:=s'
  obtain rfl:os' = s.os:=os
  exact ⟨v,H',I.call (h':=hh) (g':=g) (d':=d) (t':=t) (ch:=[]) un hok bare (fun b z=>absurd z (by simp)),r,q⟩
end
noncomputable def tCall (sp:Sp) (dvs:List V) (E:XK) (t:TA):TE:=fun σ H Q=>t σ H fun vs H1=>sp (vs++dvs) H1 Q E
noncomputable def Binds (K:PySem.W.Frag) (fd:FuncData) (ps:List Str) (ds:List Value):Prop :=
  ∀ (s:Shared) (us:List Value),K.In s.heap→(us++ds).length=ps.length→BindsTo s fd ⟨us,[]⟩ (ps.zip (us++ds))
theorem Binds.all {K:PySem.W.Frag} {fd:FuncData} {ps:List Str} (h:∀ us:List Value,us.length=ps.length→bindArgs fd ⟨us,[]⟩=pure (ps.zip us)):Binds K fd ps []:=fun s us _ hl=>by
  rw [List.append_nil] at hl ⊢
  exact .of_eq (h us hl)
noncomputable def ZhX (CX:CXT) (X:Cx) (E:XK):Prop:=∀ (pins:List (Addr×Obj)) (σ:St) (H:Hp) (s:Shared) (e:Value) (s':Shared),Inv X pins σ H s→CX X.stack H s E e s'→X.xe e s'
section
variable {X:Cx} {CX:CXT} {k:Nat} {f C:Addr} {fd:FuncData} {ps:List Str} {sp:Sp} {dvs:List V} {ds:List Value} {E:XK} {x m:Str} {p pos apos:Pos} {e o:Expr} {es:List Expr} {ta:TE} {t:TA}
theorem run_fn {pins:List (Addr×Obj)} {σ:St} {H:Hp} {s:Shared} {Q:VK} {us:List Value} {vs:List V} (F:FnOk X.prog X.w X.K X.mg X.base CX k f fd ps sp) (hr:Room k X.A) (hb:Binds X.K fd ps ds) (hd:Vals dvs ds) (hx:ZhX CX X E)
    (I:Inv X pins σ H s) (r:Vals vs us) (h:sp (vs++dvs) H Q E):wpAny (model X.prog X.w) X.A (call (.ref f) us) (EP X pins σ Q) X.xe s:=by
  have r2:Vals (vs++dvs) (us++ds):=r.append hd
  have hl:(us++ds).length=ps.length:=by rw [← r2.length]; exact F.len _ _ _ _ h
  refine wpAny_call (codeAny_mono (F.run X.A X.stack s H ⟨us,[]⟩ (us++ds) (vs++dvs) Q E hr I.env0 (hb s us I.kIn hl) r2 h) fun r s' hq=>?_)
  cases r with
  | error e=>exact hx pins σ H s e s' I hq
  | ok fl =>
    cases fl with
    | ret u=>exact I.after hq
    | next=>exact False.elim hq
    | brk=>exact False.elim hq
    | cont=>exact False.elim hq
theorem Zkj (F:FnOk X.prog X.w X.K X.mg X.base CX k f fd ps sp) (hr:Room k X.A) (hg:Gl X x) (hm:X.mg x=some (.ref f)) (hk:PySem.W.keepIn X.K (.ref f)=true) (hb:Binds X.K fd ps ds) (hd:Vals dvs ds) (hx:ZhX CX X E)
    (ha:PA X (e :: es) t) (hdb:(x == ("__debug__" : Str))=false:=by decide) (he:starEach (e :: es) X.env=(false,eval e X.env) :: starEach es X.env:=by rfl) (hpl:(backTo pos (starEach es X.env)).any (·.1)=false:=by rfl) :
    PE X (.Call (.Name x p) (e :: es) [] pos) (tCall sp dvs E t):=by
  intro pins s σ H Q I h
  refine wpAny_Call_Name_kw (Zat I hg hm ?_ hdb)
  refine PySem.W.callWith_K (h₀:=X.base) I.ok.mod.kin hk (thn (ha pos pins s σ H _ I h) fun us s1 ⟨vs,H1,I1,r,q⟩=>⟨I1.kIn,?_⟩) he hpl
  exact run_fn F hr hb hd hx I1 r q
structure Mk (K:PySem.W.Frag) (C f:Addr):Prop where
  makes:PySem.W.makesIn K C=true
  init:PySem.W.findIn K (.ref C) "__init__" = some (some (.ref f))
  fn:PySem.W.isFn K (.ref f)=true
  kp:PySem.W.keepIn K (.ref C)=true
end
section
variable {X:Cx} {CX:CXT} {k:Nat} {f C:Addr} {fd:FuncData} {ps ks:List Str} {sp:Sp} {E:XK} {x m:Str} {p pos apos kpos:Pos} {e o:Expr} {es:List Expr} {kws:List Keyword} {te ta:TE} {t tk:TA} {nm:Option Str}
structure KBinds (K:PySem.W.Frag) (fd:FuncData) (ps ks:List Str) (g:List Value→List Value→List Value) (gV:List V→List V→List V):Prop where
  to:∀ (s:Shared) (us ws:List Value),K.In s.heap→(g us ws).length=ps.length→BindsTo s fd ⟨us,ks.zip ws⟩ (ps.zip (g us ws))
  rel:∀ {vs:List V} {us:List Value} {zs:List V} {ws:List Value},Vals vs us→Vals zs ws→Vals (gV vs zs) (g us ws)
variable {g:List Value→List Value→List Value} {gV:List V→List V→List V}
end
structure FnScope (N P:List Str) (sc:Scope):Prop where
  kind:sc.kind = .function
  co:sc.isCoroutine=false
  gen:sc.isGenerator=false
  nd:N.Nodup
  pre:N.take P.length=P
  par:∀ x∈P,sc.names.lookup x=some .local∨sc.names.lookup x=some .cell
  nofree:∀ y∈sc.names,y.2≠.free
theorem ZdQ {kindOf:Str→Option NameKind} {x:Str}:∀ {binds:List (Str×Value)} {m:Str→Option Value},(∀ v,(x,v) ∉ binds)→bindL kindOf binds m x=m x
  | [],_,_=>rfl
  | (n,v) :: r,m,h=>by
    unfold bindL
    rw [ZdQ fun w hw=>h w (List.mem_cons_of_mem _ hw)]
    split
    · have:x≠n:=by rintro rfl; exact h v List.mem_cons_self
      simp [this]
    · rfl
theorem ZdS {kindOf:Str→Option NameKind} {x:Str}:∀ {binds:List (Str×Value)} {m:Str→Option Value},(∀ v,(x,v) ∉ binds)→bindC kindOf binds m x=m x
  | [],_,_=>rfl
  | (n,v) :: r,m,h=>by
    unfold bindC
    rw [ZdS fun w hw=>h w (List.mem_cons_of_mem _ hw)]
    split
    · rfl
    · have:x≠n:=by rintro rfl; exact h v List.mem_cons_self
      simp [this]
theorem ZdR {kindOf:Str→Option NameKind} {x:Str} {v:Value}:∀ {P:List Str} {vs:List Value} {i:Nat} {m:Str→Option Value},P.Nodup→P[i]? = some x→vs[i]? = some v→kindOf x=some .local →
    bindL kindOf (P.zip vs) m x=some v
  | [],_,_,_,_,h,_,_=>by simp at h
  | _ :: _,[],_,_,_,_,h,_=>by simp at h
  | p :: P,w :: vs,0,m,nd,h1,h2,hk=>by
    simp at h1 h2; subst h1; subst h2
    show bindL kindOf ((p,w) :: P.zip vs) m p=_
    unfold bindL
    rw [ZdQ fun v hv=>(List.nodup_cons.mp nd).1 (List.of_mem_zip hv).1,if_pos hk]
    simp
  | p :: P,w :: vs,i + 1,m,nd,h1,h2,hk=>by
    show bindL kindOf ((p,w) :: P.zip vs) m x=_
    unfold bindL
    exact ZdR (i:=i) (List.nodup_cons.mp nd).2 (by simpa using h1) (by simpa using h2) hk
theorem ZdT {kindOf:Str→Option NameKind} {x:Str} {v:Value}:∀ {P:List Str} {vs:List Value} {i:Nat} {m:Str→Option Value},P.Nodup→P[i]? = some x→vs[i]? = some v→kindOf x≠some .local →
    bindC kindOf (P.zip vs) m x=some v
  | [],_,_,_,_,h,_,_=>by simp at h
  | _ :: _,[],_,_,_,_,h,_=>by simp at h
  | p :: P,w :: vs,0,m,nd,h1,h2,hk=>by
    simp at h1 h2; subst h1; subst h2
    show bindC kindOf ((p,w) :: P.zip vs) m p=_
    unfold bindC
    rw [ZdS fun v hv=>(List.nodup_cons.mp nd).1 (List.of_mem_zip hv).1,if_neg hk]
    simp
  | p :: P,w :: vs,i + 1,m,nd,h1,h2,hk=>by
    show bindC kindOf ((p,w) :: P.zip vs) m x=_
    unfold bindC
    exact ZdT (i:=i) (List.nodup_cons.mp nd).2 (by simpa using h1) (by simpa using h2) hk
noncomputable def start (N:List Str) (vs:List V):St:=vs.map some++List.replicate (N.length - vs.length) none
noncomputable def cxOf (CX:CXT) (P:Program) (w:World) (K:PySem.W.Frag) (mg:Str→Option Value) (base:Heap) (N:List Str) (qual:Str) (scope:Scope) (f:Addr) (cd:Value) (A:Around) (outer:List Env) (s:Shared) (H:Hp) (E:XK):Cx where
  prog:=P
  w:=w
  K:=K
  mg:=mg
  base:=base
  A:=A.deeper (envOfC qual scope s.heap.objs.size f cd)
  N:=N
  s₀:=s
  H₀:=H
  env:=envOfC qual scope s.heap.objs.size f cd
  outer:=outer
  stack:=envOfC qual scope s.heap.objs.size f cd :: outer
  ex:=[]
  calm:=true
  fn:=fun _=>true
  pn:=[]
  xe:=fun e s'=>wpAny (model P w) (A.deeper (envOfC qual scope s.heap.objs.size f cd)) (leaving (envOfC qual scope s.heap.objs.size f cd) e) (fun _ s''=>CX outer H s E e s'') (fun e' s''=>CX outer H s E e' s'') s'
theorem Ze5 {sc:Scope} {n:Nat} {x:Str} (h:sc.names.lookup x=some .cell):∃ c,(cellsFrom n sc.names []).lookup x=some c:=by
  have q:=PySem.W.cellsFrom_some sc.names n [] (.inl h)
  exact Option.isSome_iff_exists.mp q
theorem ZdA {CX:CXT} {P:Program} {w:World} {K:PySem.W.Frag} {mg:Str→Option Value} {base:Heap} {N ps:List Str} {qual:Str} {scope:Scope} {f:Addr} {cd:Value} {A:Around} {outer:List Env} {s s1:Shared} {H:Hp} {E:XK} {us:List Value} {vs:List V}
    (S:FnScope N ps scope) (hd:A.handled=none) (e0:Env0 P w K mg base A outer s H) (hl:vs.length=ps.length) (r:Vals vs us)
    (x:InCallC s s.heap.objs.size (bindL (envOfC qual scope s.heap.objs.size f cd).kindOf (ps.zip us) fun _=>none) (cellsFrom (s.heap.objs.size + 1) scope.names []) (bindC (envOfC qual scope s.heap.objs.size f cd).kindOf (ps.zip us) fun _=>none) s1) :
    Inv (cxOf CX P w K mg base N qual scope f cd A outer s H E) [] (start N vs) H s1:=by
  have hpl:ps.length≤N.length:=by have:=congrArg List.length S.pre; rw [List.length_take] at this; omega
  obtain ⟨h1,tk,rfl,hk⟩:=x.done
  have noA:∀ b:Addr,b ∉ (cxOf CX P w K mg base N qual scope f cd A outer s H E).ex:=fun b z=>absurd (show b∈([]:List Addr) from z) (by simp)
  refine ⟨⟨e0.mod,S.kind,rfl,rfl,Nat.le_refl _,fun y z c h1 h2=>?_,fun y hy=>?_,fun y c _ h=>?_,fun _=>hd,Around.frames_deeper e0.frames,.inr ⟨rfl,rfl⟩,fun b z=>absurd z (noA b),e0.bs,e0.bsz,fun b _ _=>noA b,fun b z=>absurd z (noA b),e0.funs,e0.frf⟩,
    rfl,e0.bare,Un.kept hk,⟨_,x.toInCall.ns,fun i y v h1 h2 h3=>?_⟩,fun y c h=>⟨_,x.cell y c h⟩,e0.hok.fresh (Nat.le_refl _),fun y c h=>?_,fun p hp=>absurd (show p∈([]:List (Addr×Obj)) from hp) (by simp),e0.hok.kept hk,?_⟩
  · exact name_of_addr x.apart (PySem.mem_of_lookup h1) (PySem.mem_of_lookup h2)
  · have hy:scope.names.lookup y=some .cell∨scope.names.lookup y=some .free:=hy
    rcases hy with hy | hy
    · exact Ze5 hy
    · exact absurd rfl (S.nofree _ (PySem.mem_of_lookup hy))
  · exact Nat.le_of_lt (x.above y c (PySem.mem_of_lookup h))
  · have hi:i < vs.length:=by
      unfold start at h2
      by_cases hi:i < vs.length
      · exact hi
      · rw [List.getElem?_append_right (by simpa using hi)] at h2
        rw [List.getElem?_replicate] at h2
        split at h2 <;> cases h2
    have ha:vs[i]? = some v:=by
      unfold start at h2
      rw [List.getElem?_append_left (by simpa using hi),List.getElem?_map] at h2
      cases e:vs[i]? with
      | none=>rw [e] at h2; cases h2
      | some a=>rw [e] at h2; cases h2; rfl
    obtain ⟨u,hu,rv⟩:=r.get ha
    have hp:ps[i]? = some y:=by
      rw [← S.pre,List.getElem?_take_of_lt (by omega)]; exact h1
    have ndP:ps.Nodup:=by rw [← S.pre]; exact S.nd.sublist (List.take_sublist _ _)
    refine ⟨u,rv,?_⟩
    rcases S.par y (List.mem_of_getElem? hp) with k | k
    · exact .inl ⟨k,ZdR ndP hp hu k⟩
    · obtain ⟨c,e⟩:=Ze5 (n:=s.heap.objs.size + 1) k
      refine .inr ⟨.inl k,c,e,?_⟩
      have q:=x.cell y c e
      rw [ZdT ndP hp hu (by show scope.names.lookup y≠_; rw [k]; decide)] at q
      exact q
  · exact e0.hok.fresh (Nat.le_of_lt (x.above y c (PySem.mem_of_lookup h)))
  · unfold start
    show _=N.length
    rw [List.length_append,List.length_map,List.length_replicate]
    omega
theorem fn_of {CX:CXT} {P:Program} {w:World} {K:PySem.W.Frag} {mg:Str→Option Value} {base:Heap} {k:Nat} {f:Addr} {name qual:Str} {params:Arguments} {body:List Stmt} {scope:Scope} {dV kV doc pm cdv ct oc:Value} {an od:Option Addr}
    {osl:Array (Option Value)} {N ps:List Str} {sp:Sp} (lk:K.lookup f=some ⟨oc,od,.func (PySem.W.fnOf name qual params body scope dV kV doc pm an cdv ct),osl⟩) (hcd:PySem.W.codeIn K cdv qual=true) (S:FnScope N ps scope)
    (len:∀ vs H Q E,sp vs H Q E→vs.length=ps.length)
    (hbody:∀ (A:Around) (outer:List Env) (s:Shared) (H:Hp) (vs:List V) (Q:VK) (E:XK),Room k (A.deeper (envOfC qual scope s.heap.objs.size f cdv))→HOk P w H s.heap→sp vs H Q E →
      ∃ t,PSs (cxOf CX P w K mg base N qual scope f cdv A outer s H E) body t∧t { nx:=fun _ H'=>Q .non H',rt:=Q } (start N vs) H) :
    FnOk P w K mg base CX (k + 1) f (PySem.W.fnOf name qual params body scope dV kV doc pm an cdv ct) ps sp:=by
  refine ⟨len,fun A outer s H args us vs Q E hr e0 hb r hsp=>?_⟩
  have hl:=len _ _ _ _ hsp
  have KX:K.In s.heap:=e0.mod.kin.keeps fun b o e=>(e0.bs b o e).1
  have lim:s.heap.NoLimit:=e0.mod.nolimit.keeps fun b o e=>(e0.bs b o e).1
  have hkind:∀ y∈ps.zip us,scope.names.lookup y.1=some .local∨(scope.names.lookup y.1=some .cell∧((cellsFrom (s.heap.objs.size + 1) scope.names []).lookup y.1).isSome=true):=fun ⟨n,v⟩ hy=>by
    rcases S.par n (List.of_mem_zip hy).1 with q | q
    · exact .inl q
    · exact .inr ⟨q,PySem.W.cellsFrom_some _ _ _ (.inl q)⟩
  refine codeAny_call_function hr.depth (KX _ _ lk) rfl S.co S.gen rfl (PySem.W.codeRec_of KX hcd) (hb _ _ _ _ ?_)
  refine wpAny_newFunctionEnv_cells S.kind hkind fun env he s1 x=>?_
  subst he
  refine ⟨lim.keeps x.toInCall.keep,codeAny_func ?_⟩
  obtain ⟨t,ht,hq⟩:=hbody A outer s H vs Q E (hr.deeper _) e0.hok hsp
  have I:Inv (cxOf CX P w K mg base N qual scope f cdv A outer s H E) [] (start N vs) H s1:=ZdA S hr.hd e0 hl r x
  refine wpAny_mono (ht [] s1 (start N vs) H _ I hq) (fun fl s' hs=>?_) fun e s' hs=>hs
  have fin:∀ {σ':St} {H':Hp} {v:V} {u:Value},Inv (cxOf CX P w K mg base N qual scope f cdv A outer s H E) [] σ' H' s'→RelV v u→Q v H'→CE outer P w H s Q u s' :=
    fun {σ' H' v u} J rv q=>⟨v,H',J.os,J.bare,J.base,J.hok,rv,q⟩
  cases fl with
  | ret u =>
    obtain ⟨v,σ',H',J,rv,q⟩:=hs
    exact fin J rv q
  | next =>
    obtain ⟨σ',H',J,q⟩:=hs
    exact fin (v:=V.non) (u:=Value.none) J rfl q
  | brk =>
    obtain ⟨_,_,_,q⟩:=hs
    exact False.elim q
  | cont =>
    obtain ⟨_,_,_,q⟩:=hs
    exact False.elim q
end L2
namespace L2
open PySem PySem.Spec PyProof.Rows
section
variable {X:Cx} {x:Str} {p pos:Pos} {e:Expr} {es:List Expr} {t:TA} {id T:String} {r:List V→Hp→VK→Prop}
noncomputable def tCB (r:List V→Hp→VK→Prop) (t:TA):TE:=fun σ H Q=>t σ H fun vs H1=>r vs H1 Q
theorem Za1 (hc:J4 X (.builtin id) r) (hg:Gl X x) (hm:X.mg x=none) (hv:bootBuiltins x=some (.builtin id)) (ha:PA X (e :: es) t) (hn:x≠"__name__":=by decide) (hdb:(x == ("__debug__" : Str))=false:=by decide)
    (he:starEach (e :: es) X.env=(false,eval e X.env) :: starEach es X.env:=by rfl) (hpl:(backTo pos (starEach es X.env)).any (·.1)=false:=by rfl):PE X (.Call (.Name x p) (e :: es) [] pos) (tCB r t):=by
  intro pins s σ H Q I h
  refine wpAny_Call_Name_kw (ZeR I hg hm hv ?_ hn hdb)
  exact PyProof.Rows.callWith_builtin1 (thn (ha pos pins s σ H _ I h) fun us s1 ⟨vs,H1,I1,r1,q1⟩=>hc pins s1 σ H1 vs us Q I1 r1 q1) he hpl
theorem ZgJ (hc:J4 X (.type T) r) (hg:Gl X x) (hm:X.mg x=none) (hv:bootBuiltins x=some (.type T)) (ha:PA X (e :: es) t) (hn:x≠"__name__":=by decide) (hdb:(x == ("__debug__" : Str))=false:=by decide)
    (he:starEach (e :: es) X.env=(false,eval e X.env) :: starEach es X.env:=by rfl) (hpl:(backTo pos (starEach es X.env)).any (·.1)=false:=by rfl):PE X (.Call (.Name x p) (e :: es) [] pos) (tCB r t):=by
  intro pins s σ H Q I h
  refine wpAny_Call_Name_kw (ZeR I hg hm hv ?_ hn hdb)
  exact PyProof.Rows.callWith_type1 (thn (ha pos pins s σ H _ I h) fun us s1 ⟨vs,H1,I1,r1,q1⟩=>hc pins s1 σ H1 vs us Q I1 r1 q1) he hpl
end
end L2
namespace HT
open PySem PyProof.Rows
section
open PySem.SeqAt
open PySem.AutoSeq1 (wpAny_loadPart')
open PySem.MeetsSeq PySem.MeetsSeq2 PySem.MeetsSeq3
end
section
variable {prog:Program} {w:World} {A:Around} {E:Value→Shared→Prop} {s:Shared}
theorem cat_tup {t b:Addr} {vs ws:List Value} {Q:Value→Shared→Prop} (ht:IsTup s.heap t vs.toArray) (hb:IsTup s.heap b ws.toArray) (hv:vs≠[])
    (h1:ws=[]→Q (.ref t) s) (h2:ws≠[]→Q (.ref s.heap.objs.size) { s with heap:=s.heap.push { cls:=.type "tuple",data:=.seq (vs++ws).toArray } })
    (hsz:vs.length + ws.length≤sizeLine):wpAny (model prog w) A (binaryOp .Add (.ref t) (.ref b)) Q E s:=by
  obtain ⟨⟨cls,dd,data,sl⟩,ho,hc,n,hd⟩:=id ht
  obtain ⟨⟨cls2,dd2,data2,sl2⟩,ho2,hc2,n2,hd2⟩:=id hb
  simp only at hc hd hc2 hd2
  subst hc hd hc2 hd2
  have e:vs.toArray++ws.toArray=(vs++ws).toArray:=by simp
  by_cases hw:ws=[]
  · exact concat_meets ⟨_,ho,rfl⟩ ⟨_,ho2,rfl⟩ noFill_tuple_add seq_tuple_add PySem.F.slot_tuple_add PySem.F.entry_tuple_add (PySem.F.args_tuple_add_2 _ _)
      (tuple_addW1 t b vs.toArray ws.toArray n n2 dd dd2 sl sl2 (by simpa using hv) (by simp [hw])) ⟨ho,ho2,h1 hw⟩
  · refine concat_meets ⟨_,ho,rfl⟩ ⟨_,ho2,rfl⟩ noFill_tuple_add seq_tuple_add PySem.F.slot_tuple_add PySem.F.entry_tuple_add (PySem.F.args_tuple_add_2 _ _)
      (tuple_addW2 t b vs.toArray ws.toArray n n2 dd dd2 sl sl2 (by simpa using hv) (by simpa using hw) (by rw [List.size_toArray,List.size_toArray]; exact hsz)) ⟨ho,ho2,?_⟩
    rw [e]
    exact h2 hw
noncomputable def sIx (n d:Nat):Option Int→Nat
  | none=>d
  | some v=>if v < 0 then (v + (n:Int)).toNat else min v.toNat n
theorem sIx_le (n d:Nat) (hd:d≤n) (o:Option Int):sIx n d o≤n:=by
  cases o with
  | none=>exact hd
  | some v =>
    show (if v < 0 then (v + (n:Int)).toNat else min v.toNat n)≤n
    by_cases hv:v < 0
    · rw [if_pos hv]; omega
    · rw [if_neg hv]; exact Nat.min_le_right _ _
theorem ZhG (v:Int) (n d:Nat):(if v < 0 then max (v + (n:Int)) 0 else min v (n:Int))=((sIx n d (some v):Nat):Int):=by
  show (if v < 0 then max (v + (n:Int)) 0 else min v (n:Int))=(((if v < 0 then (v + (n:Int)).toNat else min v.toNat n):Nat):Int)
  by_cases hv:v < 0
  · simp only [if_pos hv]; omega
  · simp only [if_neg hv]; omega
theorem Zf4 (lo hi:Option Int) (n:Nat):Builtin.Slice.sliceAdjust lo hi 1 (n:Int)=(((sIx n 0 lo:Nat):Int),((sIx n n hi:Nat):Int)):=by
  have h1:¬ ((1:Int) < 0):=by omega
  unfold Builtin.Slice.sliceAdjust
  simp only [h1,if_false]
  refine Prod.ext ?_ ?_
  · cases lo with
    | none=>rfl
    | some v=>exact ZhG v n 0
  · cases hi with
    | none=>rfl
    | some v=>exact ZhG v n n
theorem Zfo (i j:Nat):Builtin.Slice.slicePlaces (i:Int) (j:Int) 1=j - i:=by
  unfold Builtin.Slice.slicePlaces
  have h1:(1:Int) > 0:=by omega
  simp only [h1,if_true,Int.ediv_one]
  split <;> omega
theorem ZbY {v:Value} {o:Option Int} {Q:Option Int→Shared→Prop} (p:IsPart v o) (h:Q o s):wpAny (model prog w) A (Builtin.Slice.slicePartIndex v) Q E s:=by
  cases p with
  | none=>exact slicePart_none h
  | int i t=>exact slicePart_int h
theorem sliceApplied_gen {sl:Addr} {vl vu:Value} {lo hi:Option Int} {n:Nat} {Q:Int×Int×Nat→Shared→Prop} (hs:s.heap.IsSliceOf sl vl vu .none) (pl:IsPart vl lo) (pu:IsPart vu hi)
    (h:Q (((sIx n 0 lo:Nat):Int),1,sIx n n hi - sIx n 0 lo) s):wpAny (model prog w) A (Builtin.Slice.sliceApplied (.ref sl) (pure (n:Int))) Q E s:=by
  obtain ⟨os,hos,hcs,hds⟩:=id hs
  unfold Builtin.Slice.sliceApplied Builtin.Slice.sliceFields
  refine wpAny_bind (wpAny_bind (wpAny_field hos hds (x:=vl) rfl (wpAny_bind (wpAny_field hos hds (x:=vu) rfl (wpAny_bind (wpAny_field hos hds (x:=.none) rfl (wpAny_pure ?_)))))))
  refine wpAny_bind (slicePart_none ?_)
  show wpAny _ _ (if ((1:Int) == 0)=true then _ else _) _ _ s
  rw [if_neg (by decide)]
  refine wpAny_bind (ZbY pl (wpAny_bind (ZbY pu (wpAny_bind (wpAny_pure ?_)))))
  show wpAny _ _ (match Builtin.Slice.sliceAdjust lo hi 1 (n:Int) with | (lo,hi)=>pure (lo,(1:Int),Builtin.Slice.slicePlaces lo hi 1)) _ _ s
  rw [Zf4 lo hi n]
  show wpAny _ _ (pure (((sIx n 0 lo:Nat):Int),(1:Int),Builtin.Slice.slicePlaces ((sIx n 0 lo:Nat):Int) ((sIx n n hi:Nat):Int) 1)) _ _ s
  rw [Zfo]
  exact wpAny_pure h
theorem Ziy (xs:Array Value) (i k:Nat):((List.range k).filterMap fun (m:Nat)=>xs[((i:Int) + (m:Int) * 1).toNat]?).toArray=((xs.toList.drop i).take k).toArray:=by
  have e:(fun (m:Nat)=>xs[((i:Int) + (m:Int) * 1).toNat]?)=fun m=>xs[i + m]?:=by
    funext m
    have:((i:Int) + (m:Int) * 1).toNat=i + m:=by omega
    rw [this]
  rw [e]
  have:=pick_run xs i k
  rw [List.filterMap_map] at this
  have e2:((fun x=>xs[x]?) ∘ fun x=>i + x)=fun m=>xs[i + m]?:=rfl
  rw [e2] at this
  rw [this]
theorem getItem_tuple_cut {t sl:Addr} {items:Array Value} {vl vu:Value} {lo hi:Option Int} {Q:Value→Shared→Prop} (ht:IsTup s.heap t items) (hs:s.heap.IsSliceOf sl vl vu .none) (pl:IsPart vl lo) (pu:IsPart vu hi)
    (hw:¬ (sIx items.size 0 lo=0∧sIx items.size items.size hi=items.size))
    (h:Q (.ref s.heap.objs.size) { s with heap:=s.heap.push { cls:=.type "tuple",data:=.seq ((items.toList.drop (sIx items.size 0 lo)).take (sIx items.size items.size hi - sIx items.size 0 lo)).toArray } })
    (hsz:items.size≤sizeLine):wpAny (model prog w) A (getItem (.ref t) (.ref sl)) Q E s:=by
  have htake:sizeOk (.seq ((items.toList.drop (sIx items.size 0 lo)).take (sIx items.size items.size hi - sIx items.size 0 lo)).toArray):=by
    show ((items.toList.drop (sIx items.size 0 lo)).take (sIx items.size items.size hi - sIx items.size 0 lo)).toArray.size≤sizeLine
    rw [List.size_toArray,List.length_take,List.length_drop,Array.length_toList]
    omega
  have hj:sIx items.size items.size hi≤items.size:=sIx_le _ _ (Nat.le_refl _) hi
  obtain ⟨os,hos,hcs,hds⟩:=id hs
  have hTs:s.TypeIs (.ref sl) "slice":=⟨os,hos,hcs⟩
  unfold getItem
  try with_reducible refine wpAny_holding ?_
  first | refine wpAny_bind (wpAny_pure ?_) | skip
  refine wpAny_bind (wpAny_sequenceKey ht.typeIs (by decide) ?_)
  refine wpAny_bind (wpAny_callSpecial?_slot (name:=Str.ofString "__getitem__") ht.typeIs PyProof.Rows.slot_tuple_getitem
    (wpAny_call_entry PyProof.Rows.slot_tuple_getitem ht.typeIs entry_tuple_getitem ?_ (args_tuple_getitem _ _)))
  show wpAny _ _ (Builtin.Tuple.tupleItemsOf (.ref t) >>= _) _ _ s
  refine wpAny_bind (tupleItemsOf_ ht ?_)
  refine wpAny_bind (wpAny_typeOf hTs ?_)
  rw [if_pos (by decide)]
  refine wpAny_bind (sliceApplied_gen hs pl pu ?_)
  have hno:¬ ((((sIx items.size 0 lo:Nat):Int) == 0 && (1:Int) == 1 && (sIx items.size items.size hi - sIx items.size 0 lo) == items.size)=true):=by
    intro q
    rw [Bool.and_eq_true,Bool.and_eq_true] at q
    have q1:((sIx items.size 0 lo:Nat):Int)=0:=eq_of_beq q.1.1
    have q2:sIx items.size items.size hi - sIx items.size 0 lo=items.size:=eq_of_beq q.2
    exact hw ⟨by omega,by omega⟩
  show wpAny _ _ (if (((sIx items.size 0 lo:Nat):Int) == 0 && (1:Int) == 1 && (sIx items.size items.size hi - sIx items.size 0 lo) == items.size)=true then _ else _) _ _ s
  rw [if_neg hno,Ziy]
  first
    | exact wpAny_bind (m:=Builtin.Tuple.tupleExact _) (wpAny_newObj_type (wpAny_pure ⟨_,rfl,wpAny_pure h⟩) htake)
    | exact wpAny_bind (m:=Builtin.Tuple.tupleExact _) (wpAny_newObj_type (wpAny_bind (wpAny_pure (wpAny_pure ⟨_,rfl,wpAny_pure h⟩))) htake)
    | exact wpAny_bind (wpAny_bind (m:=Builtin.Tuple.tupleExact _) (wpAny_newObj_type (wpAny_pure (wpAny_pure ⟨_,rfl,wpAny_pure h⟩)) htake))
    | exact wpAny_bind (wpAny_bind (m:=Builtin.Tuple.tupleExact _) (wpAny_newObj_type (wpAny_pure ⟨_,rfl,wpAny_pure h⟩) htake))
end
end HT
namespace L2
open PySem PySem.Spec PyProof.Rows
noncomputable abbrev TO:=St→Hp→(Option Int→Hp→Prop)→Prop
noncomputable def PO (X:Cx) (e:Option Expr) (t:TO):Prop :=
  ∀ (pins:List (Addr×Obj)) (s:Shared) (σ:St) (H:Hp) (Q:Option Int→Hp→Prop),Inv X pins σ H s→t σ H Q →
    wpAny (model X.prog X.w) X.A (evalPart e X.env) (fun u s'=>∃ o H',Inv X pins σ H' s'∧IsPart u o∧Q o H') X.xe s
noncomputable def ZjM:TO:=fun _ H Q=>Q none H
noncomputable def tPart (t:TE):TO:=fun σ H Q=>t σ H fun x H1=>∃ i,x = .int i∧Q (some i) H1
section
variable {X:Cx} {e:Expr} {te:TE} {lo hi:Option Expr} {tl th:TO} {pos p2:Pos}
theorem Zj1:PO X none ZjM:=by
  intro pins s σ H Q I h
  rw [evalPart_none]
  exact wpAny_pure ⟨none,H,I,.none,h⟩
theorem Zj0 (h:PE X e te):PO X (some e) (tPart te):=by
  intro pins s σ H Q I hw
  rw [evalPart_some]
  refine thn (h pins s σ H _ I hw) fun u s1 ⟨x,H1,I1,r1,q1⟩=>?_
  obtain ⟨i,rfl,q⟩:=q1
  obtain ⟨t,rfl⟩:=r1
  exact ⟨some i,H1,I1,.int i t,q⟩
noncomputable def SlR (X:Cx) (r:V→Option Int→Option Int→Hp→VK→Prop):Prop :=
  ∀ (pins:List (Addr×Obj)) (s:Shared) (σ:St) (H:Hp) (x:V) (v vl vu:Value) (lo hi:Option Int) (sl:Addr) (Q:VK),Inv X pins σ H s→RelV x v→s.heap.IsSliceOf sl vl vu .none→IsPart vl lo→IsPart vu hi→r x lo hi H Q →
    ∃ T id,typeLookup (.type T) "__getitem__" = pure (some (.builtin id))∧s.TypeIs v T∧wpAny (model X.prog X.w) X.A (getItem v (.ref sl)) (EP X pins σ Q) X.xe s
theorem SlR.or {r r':V→Option Int→Option Int→Hp→VK→Prop} (h:SlR X r) (h':SlR X r'):SlR X (fun x lo hi H Q=>r x lo hi H Q∨r' x lo hi H Q):=by
  intro pins s σ H x v vl vu lo hi sl Q I rx hs pl pu q
  rcases q with q | q
  · exact h pins s σ H x v vl vu lo hi sl Q I rx hs pl pu q
  · exact h' pins s σ H x v vl vu lo hi sl Q I rx hs pl pu q
noncomputable def tSl (r:V→Option Int→Option Int→Hp→VK→Prop) (te:TE) (tl th:TO):TE:=fun σ H Q=>te σ H fun x H1=>tl σ H1 fun l H2=>th σ H2 fun u H3=>r x l u H3 Q
theorem ZiB {r:V→Option Int→Option Int→Hp→VK→Prop} (hr:SlR X r) (he:PE X e te) (hl:PO X lo tl) (hu:PO X hi th):PE X (.Subscript e (.Slice lo hi none p2) pos) (tSl r te tl th):=by
  intro pins s σ H Q I h
  refine Subscript_ (thn (he pins s σ H _ I h) fun v s1 ⟨x,H1,I1,r1,q1⟩=>?_)
  refine wpAny_Slice (thn (hl pins s1 σ H1 _ I1 q1) fun vl s2 ⟨l,H2,I2,pl,q2⟩=>thn (hu pins s2 σ H2 _ I2 q2) fun vu s3 ⟨u,H3,I3,pu,q3⟩=>?_)
  rw [evalPart_none]
  refine wpAny_pure ?_
  have I4:Inv X pins σ H3 { s3 with heap:=s3.heap.push { cls:=.type "slice",data:=.fields #[vl,vu,.none] } }:=I3.kept (t':=s3.toks) fun b ob q=>Heap.get?_push_of_some _ q
  obtain ⟨T,id,hT,ht,hg⟩:=hr pins { s3 with heap:=s3.heap.push { cls:=.type "slice",data:=.fields #[vl,vu,.none] } } σ H3 x v vl vu l u s3.heap.objs.size Q I4 r1 (Heap.IsSliceOf.new ..) pl pu q3
  show wpAny (model X.prog X.w) X.A (subscriptTail e (.Slice lo hi none p2) v (.ref s3.heap.objs.size)) (EP X pins σ Q) X.xe { s3 with heap:=s3.heap.push { cls:=.type "slice",data:=.fields #[vl,vu,.none] } }
  exact tail_any (ops:=[.ref s3.heap.objs.size,v]) ht hT hg (by with_unfolding_all rfl)
noncomputable def cutV (xs:List V) (lo hi:Option Int):List V:=(xs.drop (HT.sIx xs.length 0 lo)).take (HT.sIx xs.length xs.length hi - HT.sIx xs.length 0 lo)
theorem ZbC (xs:List V) (lo hi:Option Int):(cutV xs lo hi).length≤xs.length:=by
  unfold cutV
  rw [List.length_take,List.length_drop]
  omega
noncomputable def rSlT (K:PySem.W.Frag):V→Option Int→Option Int→Hp→VK→Prop:=fun x lo hi H Q=>∃ a xs,x = .ref a∧SqT K H a xs ∧
  ¬ (HT.sIx xs.length 0 lo=0∧HT.sIx xs.length xs.length hi=xs.length)∧∀ p,H p=none→Q (.ref p) (upd H p (.tup (cutV xs lo hi)))
theorem sl_tup:SlR X (rSlT X.K):=by
  intro pins s σ H x v vl vu lo hi sl Q I rx hs pl pu h
  obtain ⟨a,xs,rfl,hx,hw,q⟩:=h
  cases rx
  obtain ⟨its,r,ht,hz⟩:=I.tuple hx
  have hlen:its.toArray.size=xs.length:=by rw [List.size_toArray]; exact r.length.symm
  refine ⟨"tuple",_,PyProof.Rows.slot_tuple_getitem.lookup,ht.typeIs,?_⟩
  refine HT.getItem_tuple_cut ht hs pl pu (by rw [hlen]; exact hw) ?_ (by rw [hlen]; exact hz)
  rw [hlen]
  refine ⟨.ref s.heap.objs.size,_,I.laid (t':=s.toks) (o:=.tup (cutV xs lo hi)) (fun b ob q=>Heap.get?_push_of_some _ q) (Nat.le_refl _) ?_,rfl,q _ (I.hok.fresh (Nat.le_refl _))⟩
  exact ⟨Nat.le_trans (ZbC xs lo hi) hz,_,(r.drop (HT.sIx xs.length 0 lo)).take (HT.sIx xs.length xs.length hi - HT.sIx xs.length 0 lo),TupP.new _ _⟩
noncomputable def rCatT (K:PySem.W.Frag):R2:=fun x y H Q=>∃ a b xs ys,x = .ref a∧y = .ref b∧SqT K H a xs∧SqT K H b ys∧xs≠[]∧xs.length + ys.length≤sizeLine ∧
  (ys=[]→Q (.ref a) H)∧(ys≠[]→∀ p,H p=none→Q (.ref p) (upd H p (.tup (xs++ys))))
theorem Vals.nil_iff {xs:List V} {us:List Value} (r:Vals xs us):us=[]↔xs=[]:=by
  cases r with
  | nil=>simp
  | cons _ _=>simp
theorem Zkt:OpR X (binaryOp .Add) (rCatT X.K):=by
  intro pins s σ H x y v u Q I rx ry h
  obtain ⟨a,b,xs,ys,rfl,rfl,ha,hb,hx,hz,q1,q2⟩:=h
  cases rx
  cases ry
  obtain ⟨its,r1,p1,_⟩:=I.tuple ha
  obtain ⟨its2,r2,p2,_⟩:=I.tuple hb
  refine HT.cat_tup p1 p2 (fun z=>hx (r1.nil_iff.mp z)) (fun z=>⟨.ref a,H,I,rfl,q1 (r2.nil_iff.mp z)⟩) (fun z=>?_) (by rw [← r1.length,← r2.length]; exact hz)
  refine ⟨.ref s.heap.objs.size,_,I.laid (t':=s.toks) (o:=.tup (xs++ys)) (fun b ob q=>Heap.get?_push_of_some _ q) (Nat.le_refl _) ?_,rfl,q2 (fun w=>z (r2.nil_iff.mpr w)) _ (I.hok.fresh (Nat.le_refl _))⟩
  exact ⟨by rw [List.length_append]; exact hz,_,r1.append r2,TupP.new _ _⟩
end
end L2
namespace L2
open PySem PySem.Spec PyProof.Rows
noncomputable def ixN (n:Nat) (i:Int):Option Nat:=if 0≤i then (if i < n then some i.toNat else none) else if -(n:Int)≤i then some (i + n).toNat else none
noncomputable def atI {α:Type} (xs:List α) (i:Int):Option α:=(ixN xs.length i).bind fun j=>xs[j]?
theorem Zhg {n:Nat} {i:Int} {j:Nat} (h:ixN n i=some j):seqIndex? i n=some j∧j < n∧-(n:Int)≤i∧i < n:=by
  unfold ixN at h
  by_cases h0:0≤i
  · rw [if_pos h0] at h
    by_cases h1:i < n
    · rw [if_pos h1] at h
      have e:i.toNat=j:=Option.some.inj h
      exact ⟨by rw [seqIndex_of h0 h1,e],by omega,by omega,h1⟩
    · rw [if_neg h1] at h; cases h
  · rw [if_neg h0] at h
    by_cases h1:-(n:Int)≤i
    · rw [if_pos h1] at h
      have e:(i + n).toNat=j:=Option.some.inj h
      exact ⟨by rw [seqIndex_neg (by omega) h1,e],by omega,h1,by omega⟩
    · rw [if_neg h1] at h; cases h
theorem Zex {α:Type} {xs:List α} {i:Int} {v:α} (h:atI xs i=some v):∃ j,seqIndex? i xs.length=some j∧xs[j]? = some v∧j < xs.length∧-(xs.length:Int)≤i∧i < xs.length:=by
  unfold atI at h
  cases e:ixN xs.length i with
  | none=>rw [e] at h; cases h
  | some j =>
    rw [e] at h
    obtain ⟨h1,h2,h3,h4⟩:=Zhg e
    exact ⟨j,h1,h,h2,h3,h4⟩
noncomputable def ZhW (b:Expr):Prop:=∀ o i,subscripted b false o i=operate [o,i] (getItem o i)
noncomputable def IxR (X:Cx) (r:R2):Prop :=
  ∀ (value slice:Expr) (pins:List (Addr×Obj)) (s:Shared) (σ:St) (H:Hp) (x y:V) (v u:Value) (Q:VK),Inv X pins σ H s→RelV x v→RelV y u→r x y H Q →
    subscripted slice false v u=operate [v,u] (getItem v u)→wpAny (model X.prog X.w) X.A (subscriptTail value slice v u) (EP X pins σ Q) X.xe s
noncomputable def MtR (X:Cx) (id:String) (r:V→List V→Hp→VK→Prop):Prop :=
  ∀ (pins:List (Addr×Obj)) (s:Shared) (σ:St) (H:Hp) (x:V) (xs:List V) (v:Value) (us:List Value) (Q:VK),Inv X pins σ H s→RelV x v→Vals xs us→r x xs H Q →
    wpAny (model X.prog X.w) X.A (call (.builtin id) (v :: us)) (EP X pins σ Q) X.xe s
section
variable {X:Cx} {a b:Expr} {ta tb:TE} {pos:Pos}
theorem IxR.or {r r':R2} (h:IxR X r) (h':IxR X r'):IxR X (fun x y H Q=>r x y H Q∨r' x y H Q):=by
  intro value slice pins s σ H x y v u Q I rx ry q hs
  rcases q with q | q
  · exact h value slice pins s σ H x y v u Q I rx ry q hs
  · exact h' value slice pins s σ H x y v u Q I rx ry q hs
theorem MtR.or {id:String} {r r':V→List V→Hp→VK→Prop} (h:MtR X id r) (h':MtR X id r'):MtR X id (fun x xs H Q=>r x xs H Q∨r' x xs H Q):=by
  intro pins s σ H x xs v us Q I rx rs q
  rcases q with q | q
  · exact h pins s σ H x xs v us Q I rx rs q
  · exact h' pins s σ H x xs v us Q I rx rs q
theorem pe_ix {r:R2} (hr:IxR X r) (ha:PE X a ta) (hb:PE X b tb) (hs:ZhW b):PE X (.Subscript a b pos) (tOp r ta tb):=by
  intro pins s σ H Q I h
  exact Subscript_ (binT ha hb I h fun v u s2 x y H2 I2 rx ry q=>hr a b pins s2 σ H2 x y v u Q I2 rx ry q (hs _ _))
noncomputable def rIxL (K:PySem.W.Frag):R2:=fun x y H Q=>∃ p xs i v,x = .ref p∧y = .int i∧SqL K H p xs∧atI xs i=some v∧Q v H
noncomputable def rIxT (K:PySem.W.Frag):R2:=fun x y H Q=>∃ p xs i v,x = .ref p∧y = .int i∧SqT K H p xs∧atI xs i=some v∧Q v H
noncomputable def rIxS:R2:=fun x y H Q=>∃ z i c,x = .str z∧y = .int i∧z.length≤sizeLine∧atI z.cps.toList i=some c∧Q (.str ⟨#[c]⟩) H
theorem Zhf:IxR X (rIxL X.K):=by
  intro value slice pins s σ H x y v u Q I rx ry h hs
  obtain ⟨p,xs,i,z,rfl,rfl,hq,he,q⟩:=h
  cases rx
  obtain ⟨t,rfl⟩:=ry
  obtain ⟨its,r,pl,hz⟩:=I.list hq
  obtain ⟨j,h1,h2,h3,h4,h5⟩:=Zex he
  obtain ⟨w,ew,rw'⟩:=r.get h2
  have hl:=r.length
  have hn:=Zb8
  have fin:EP X pins σ Q w s:=⟨z,H,I,rw',q⟩
  by_cases h0:0≤i
  · have hj:i.toNat=j:=by
      rw [seqIndex_of h0 h5] at h1
      exact Option.some.inj h1
    exact item_listR pl.isList h0 (by omega) (by rw [hj]; simpa using ew) fin hs
  · have hj:(i + (its.toArray.size:Int)).toNat=j:=by
      rw [seqIndex_neg (by omega) h4] at h1
      rw [List.size_toArray,← hl]
      exact Option.some.inj h1
    exact subscriptTail_builtinR (x:=w) pl.isList.typeIs slot_list_getitem.lookup
      (wpAny_getItem_list_neg (Q:=fun r s'=>r=w∧EP X pins σ Q r s') pl.isList (by omega) (by rw [List.size_toArray] <;> omega) (by omega) (by rw [hj]; simpa using ew) ⟨rfl,fin⟩) hs
theorem ix_tup:IxR X (rIxT X.K):=by
  intro value slice pins s σ H x y v u Q I rx ry h hs
  obtain ⟨p,xs,i,z,rfl,rfl,hq,he,q⟩:=h
  cases rx
  obtain ⟨t,rfl⟩:=ry
  obtain ⟨its,r,pl,hz⟩:=I.tuple hq
  obtain ⟨j,h1,h2,h3,h4,h5⟩:=Zex he
  obtain ⟨w,ew,rw'⟩:=r.get h2
  have hl:=r.length
  have hn:=Zb8
  have fin:EP X pins σ Q w s:=⟨z,H,I,rw',q⟩
  exact subscriptTail_builtinR (x:=w) pl.typeIs slot_tuple_getitem.lookup
    (getItem_tuple (j:=j) (Q:=fun r s'=>r=w∧EP X pins σ Q r s') pl (by omega) (by omega) (by rw [List.size_toArray,← hl]; exact h1) (by simpa using ew) ⟨rfl,fin⟩) hs
theorem ix_str:IxR X rIxS:=by
  intro value slice pins s σ H x y v u Q I rx ry h hs
  obtain ⟨z,i,c,rfl,rfl,hz,he,q⟩:=h
  obtain ⟨t,rfl⟩:=rx
  obtain ⟨t',rfl⟩:=ry
  obtain ⟨j,h1,h2,h3,h4,h5⟩:=Zex he
  have hl:z.cps.toList.length=z.length:=by simp [Str.length]
  rw [hl] at h1 h4 h5
  have hn:=Zb8
  exact tail_any (typeIs_str s z t) slot_str_getitem.lookup (getItem_str (c:=c) (by
    have e1:decide (i < -(2 ^ 63:Int))=false:=decide_eq_false (by omega)
    have e2:decide (i ≥ 2 ^ 63)=false:=decide_eq_false (by omega)
    rw [e1,e2,Bool.or_false]) (by rw [h1]; simpa using h2) ⟨.str ⟨#[c]⟩,H,I.tok _,⟨_,rfl⟩,q⟩) hs
theorem ZfH (its:List Value) (n j:Nat) (u:Value):Obj.mapSeq (·.setIfInBounds j u) { cls:=.type "list",data:=.seq its.toArray n } = { cls:=.type "list",data:=.seq (its.set j u).toArray n }:=by
  simp [Obj.mapSeq]
theorem Inv.lst {pins:List (Addr×Obj)} {σ:St} {H:Hp} {s:Shared} {p:Addr} {xs:List V} (I:Inv X pins σ H s) (h:H p=some (.lst xs)) :
    ∃ (its:List Value) (n:Nat),Vals xs its∧s.heap.get? p=some { cls:=.type "list",data:=.seq its.toArray n }∧xs.length≤sizeLine:=by
  obtain ⟨z,its,n,r,e⟩:=I.hok p _ h
  exact ⟨its,n,r,e,z⟩
theorem Inv.lstUpd {pins:List (Addr×Obj)} {σ:St} {H:Hp} {s:Shared} {p:Addr} {xs ys:List V} {its its':List Value} {n n':Nat} {f:Obj→Obj} (I:Inv X pins σ H s) (h:H p=some (.lst xs))
    (ho:s.heap.get? p=some { cls:=.type "list",data:=.seq its.toArray n }) (hf:f { cls:=.type "list",data:=.seq its.toArray n } = { cls:=.type "list",data:=.seq its'.toArray n' }) (r:Vals ys its') (hz:ys.length≤sizeLine) (t:Nat) :
    Inv X pins σ (upd H p (.lst ys)) { s with heap:=s.heap.update p f,toks:=t }:=by
  have e:(s.heap.update p f).get? p=some { cls:=.type "list",data:=.seq its'.toArray n' }:=by
    rw [Heap.get?_update_self f ho (by rw [hf] <;> rfl),hf]
  refine I.write (x:=p) (e:=p) (by rw [h]; trivial) (.inl rfl) (fun b u hb q=>(Heap.get?_update_other _ _ (Ne.symm hb)).trans q) ⟨_,e⟩ ?_
  exact ⟨hz,its',n',r,e⟩
noncomputable def rSetL:V→V→V→Hp→(Hp→Prop)→Prop:=fun o i v H Q=>∃ p xs k j,o = .ref p∧i = .int k∧H p=some (.lst xs)∧ixN xs.length k=some j∧Q (upd H p (.lst (xs.set j v)))
theorem set_list:PSet X rSetL:=by
  intro pins s σ H o i v ov iv u Q I ro ri rv h
  obtain ⟨p,xs,k,j,rfl,rfl,hp,hj,q⟩:=h
  cases ro
  obtain ⟨t,rfl⟩:=ri
  obtain ⟨its,n,r,ho,hz⟩:=I.lst hp
  obtain ⟨h1,h2,h3,h4⟩:=Zhg hj
  have hl:=r.length
  have hn:=Zb8
  have I':Inv X pins σ (upd H p (.lst (xs.set j v))) { s with heap:=s.heap.update p (Obj.mapSeq (·.setIfInBounds j u)) } :=
    I.lstUpd hp ho (ZfH its n j u) (r.set rv j) (by rw [List.length_set]; exact hz) s.toks
  by_cases h0:0≤k
  · have hk:k.toNat=j:=by
      rw [seqIndex_of h0 h4] at h1
      exact Option.some.inj h1
    exact PySem.W.ki_setAt ho h0 (by omega) (by rw [List.size_toArray,← hl]; exact h4) (by rw [hk]; exact ⟨_,I',q⟩)
  · have hk:(k + (its.toArray.size:Int)).toNat=j:=by
      rw [seqIndex_neg (by omega) h3] at h1
      rw [List.size_toArray,← hl]
      exact Option.some.inj h1
    exact PySem.W.ki_setBack ho (by omega) (by rw [List.size_toArray,← hl]; exact h3) (by omega) (by rw [hk]; exact ⟨_,I',q⟩)
theorem ZcZ (lo hi:Option Int) (n:Nat):(sliceBounds lo hi none n).1=((HT.sIx n 0 lo:Nat):Int)∧(sliceBounds lo hi none n).2.1=((HT.sIx n n hi:Nat):Int)∧(sliceBounds lo hi none n).2.2=1:=by
  refine ⟨?_,?_,rfl⟩
  · cases lo with
    | none=>simp [sliceBounds,HT.sIx]
    | some i =>
      simp only [sliceBounds,HT.sIx,Option.getD_none,show (1:Int) > 0 by decide,if_true]
      by_cases h:i < 0
      · simp only [h,if_true] <;> omega
      · simp only [h,if_false] <;> omega
  · cases hi with
    | none=>simp [sliceBounds,HT.sIx]
    | some i =>
      simp only [sliceBounds,HT.sIx,Option.getD_none,show (1:Int) > 0 by decide,if_true]
      by_cases h:i < 0
      · simp only [h,if_true] <;> omega
      · simp only [h,if_false] <;> omega
theorem Zcq (its:List Value) (lo hi:Option Int):slicePick its.toArray lo hi none=((its.drop (HT.sIx its.length 0 lo)).take (HT.sIx its.length its.length hi - HT.sIx its.length 0 lo)).toArray:=by
  obtain ⟨h1,h2,h3⟩:=ZcZ lo hi its.toArray.size
  unfold slicePick
  rw [h1,h2,h3]
  simp only [sliceRange_one,pick_run,List.size_toArray] <;> rfl
noncomputable def rSlL (K:PySem.W.Frag):V→Option Int→Option Int→Hp→VK→Prop:=fun x lo hi H Q=>∃ a xs,x = .ref a∧SqL K H a xs∧∀ p,H p=none→Q (.ref p) (upd H p (.lst (cutV xs lo hi)))
theorem Zgp:SlR X (rSlL X.K):=by
  intro pins s σ H x v vl vu lo hi sl Q I rx hs pl pu h
  obtain ⟨a,xs,rfl,hx,q⟩:=h
  cases rx
  obtain ⟨its,r,ht,hz⟩:=I.list hx
  have hlen:=r.length
  refine ⟨"list",_,slot_list_getitem.lookup,ht.isList.typeIs,?_⟩
  refine wpAny_getItem_list_slice ht.isList hs pl pu .none (by simp) ?_ (by rw [List.size_toArray] <;> omega)
  rw [Zcq,← hlen]
  refine ⟨.ref s.heap.objs.size,_,I.laid (t':=s.toks) (o:=.lst (cutV xs lo hi)) (fun b ob q=>Heap.get?_push_of_some _ q) (Nat.le_refl _) ?_,rfl,q _ (I.hok.fresh (Nat.le_refl _))⟩
  exact ⟨Nat.le_trans (ZbC xs lo hi) hz,_,0,(r.drop (HT.sIx xs.length 0 lo)).take (HT.sIx xs.length xs.length hi - HT.sIx xs.length 0 lo),Heap.get?_push_size _ rfl⟩
noncomputable def ZaW:V→Bool
  | .non=>true
  | .bl _=>true
  | .int _=>true
  | .str _=>true
  | _=>false
noncomputable def eqV:V→V→Bool
  | .non,.non=>true
  | .bl a,.bl b=>a == b
  | .bl a,.int b=>(if a then 1 else 0) == b
  | .int a,.bl b=>a == (if b then 1 else 0)
  | .int a,.int b=>a == b
  | .str a,.str b=>a == b
  | _,_=>false
theorem eqAt_V {A:Around} {s:Shared} {y x:V} {u v:Value} (ry:RelV y u) (rx:RelV x v) (fy:ZaW y=true) (fx:ZaW x=true):SeqAt.EqAt A s u v (eqV y x):=by
  cases y with
  | non =>
    cases ry
    cases x with
    | non=>cases rx; exact SeqAt.EqAt.same _
    | bl b=>cases rx; exact SeqAt.EqAt.none_bool b
    | int b=>obtain ⟨t,rfl⟩:=rx; exact SeqAt.EqAt.none_int b t
    | str b=>obtain ⟨t,rfl⟩:=rx; exact SeqAt.EqAt.none_str b t
    | _=>exact absurd (show false=true from fx) Bool.false_ne_true
  | bl a =>
    cases ry
    cases x with
    | non=>cases rx; exact SeqAt.EqAt.bool_none a
    | bl b=>cases rx; exact SeqAt.EqAt.bool_bool a b
    | int b=>obtain ⟨t,rfl⟩:=rx; exact SeqAt.EqAt.bool_int a b t
    | str b=>obtain ⟨t,rfl⟩:=rx; exact SeqAt.EqAt.bool_str a b t
    | _=>exact absurd (show false=true from fx) Bool.false_ne_true
  | int a =>
    obtain ⟨t',rfl⟩:=ry
    cases x with
    | non=>cases rx; exact SeqAt.EqAt.int_none a t'
    | bl b=>cases rx; exact SeqAt.EqAt.int_bool a t' b
    | int b=>obtain ⟨t,rfl⟩:=rx; exact SeqAt.EqAt.int_int a t' b t
    | str b=>obtain ⟨t,rfl⟩:=rx; exact SeqAt.EqAt.int_str a t' b t
    | _=>exact absurd (show false=true from fx) Bool.false_ne_true
  | str a =>
    obtain ⟨t',rfl⟩:=ry
    cases x with
    | non=>cases rx; exact SeqAt.EqAt.str_none a t'
    | bl b=>cases rx; exact SeqAt.EqAt.str_bool a t' b
    | int b=>obtain ⟨t,rfl⟩:=rx; exact SeqAt.EqAt.str_int a t' b t
    | str b=>obtain ⟨t,rfl⟩:=rx; exact SeqAt.EqAt.str_str a t' b t
    | _=>exact absurd (show false=true from fx) Bool.false_ne_true
  | _=>exact absurd (show false=true from fy) Bool.false_ne_true
noncomputable def eqU (x:V) (u:Value):Bool:=match u with
  | .none=>eqV .non x
  | .bool b=>eqV (.bl b) x
  | .int i _=>eqV (.int i) x
  | .str z _=>eqV (.str z) x
  | _=>false
theorem Zjt {x y:V} {u:Value} (r:RelV y u) (f:ZaW y=true):eqU x u=eqV y x:=by
  cases y with
  | non=>cases r; rfl
  | bl b=>cases r; rfl
  | int i=>obtain ⟨t,rfl⟩:=r; rfl
  | str z=>obtain ⟨t,rfl⟩:=r; rfl
  | _=>exact absurd (show false=true from f) Bool.false_ne_true
theorem ZbN {x:V}:∀ {xs:List V} {us:List Value},Vals xs us→xs.all ZaW=true→us.any (eqU x)=xs.any fun y=>eqV y x
  | _,_,.nil,_=>rfl
  | y :: xs,u :: us,.cons r t,f=>by
    rw [List.all_cons,Bool.and_eq_true] at f
    rw [List.any_cons,List.any_cons,Zjt r f.1,ZbN t f.2]
theorem X3 {A:Around} {s:Shared} {x:V} {v:Value} (rx:RelV x v) (fx:ZaW x=true):∀ {xs:List V} {us:List Value},Vals xs us→xs.all ZaW=true→∀ u∈us,SeqAt.EqAt A s u v (eqU x u)
  | _,_,.nil,_=>fun u hu=>by cases hu
  | y :: xs,u :: us,.cons r t,f=>fun u' hu=>by
    rw [List.all_cons,Bool.and_eq_true] at f
    rcases List.mem_cons.mp hu with rfl | hu
    · rw [Zjt r f.1]; exact eqAt_V r rx f.1 fx
    · exact X3 rx fx t f.2 u' hu
noncomputable def inV (x:V) (xs:List V):Bool:=xs.any fun y=>eqV y x
noncomputable def rIn (K:PySem.W.Frag) (neg:Bool):R2:=fun x y H Q=>∃ p xs,y = .ref p∧(SqL K H p xs∨SqT K H p xs)∧ZaW x=true∧xs.all ZaW=true∧Q (.bl (if neg then !inV x xs else inV x xs)) H
theorem Zde:OpR X (compareOp .In) (rIn X.K false):=by
  intro pins s σ H x y v u Q I rx ry h
  obtain ⟨p,xs,rfl,hq,fx,fs,q⟩:=h
  cases ry
  rcases hq with hq | hq
  · obtain ⟨its,r,pl,hz⟩:=I.list hq
    refine SeqAt.in_listAt (eqU x) pl.isList (fun w hw=>X3 rx fx r fs w (by simpa using hw)) ⟨.bl _,H,I,rfl,?_⟩
    rw [show its.toArray.any (eqU x)=its.any (eqU x) by simp,ZbN r fs]
    exact q
  · obtain ⟨its,r,pl,hz⟩:=I.tuple hq
    refine SeqAt.in_tupleAt (eqU x) pl (fun w hw=>X3 rx fx r fs w (by simpa using hw)) ⟨.bl _,H,I,rfl,?_⟩
    rw [show its.toArray.any (eqU x)=its.any (eqU x) by simp,ZbN r fs]
    exact q
theorem ZaM:OpR X (compareOp .NotIn) (rIn X.K true):=by
  intro pins s σ H x y v u Q I rx ry h
  obtain ⟨p,xs,rfl,hq,fx,fs,q⟩:=h
  cases ry
  rcases hq with hq | hq
  · obtain ⟨its,r,pl,hz⟩:=I.list hq
    refine SeqAt.notIn_listAt (eqU x) pl.isList (fun w hw=>X3 rx fx r fs w (by simpa using hw)) ⟨.bl _,H,I,rfl,?_⟩
    rw [show its.toArray.any (eqU x)=its.any (eqU x) by simp,ZbN r fs]
    exact q
  · obtain ⟨its,r,pl,hz⟩:=I.tuple hq
    refine SeqAt.notIn_tupleAt (eqU x) pl (fun w hw=>X3 rx fx r fs w (by simpa using hw)) ⟨.bl _,H,I,rfl,?_⟩
    rw [show its.toArray.any (eqU x)=its.any (eqU x) by simp,ZbN r fs]
    exact q
theorem J4.or {f:Value} {r r':List V→Hp→VK→Prop} (h:J4 X f r) (h':J4 X f r'):J4 X f (fun xs H Q=>r xs H Q∨r' xs H Q):=by
  intro pins s σ H xs us Q I rs q
  rcases q with q | q
  · exact h pins s σ H xs us Q I rs q
  · exact h' pins s σ H xs us Q I rs q
theorem Zag:J4 X (.type "tuple") (fun xs H Q=>∃ p ys,xs=[.ref p]∧((SqL X.K H p ys∧∀ l,H l=none→Q (.ref l) (upd H l (.tup ys)))∨(SqT X.K H p ys∧Q (.ref p) H))):=by
  intro pins s σ H xs us Q I r h
  obtain ⟨p,ys,rfl,h⟩:=h
  obtain ⟨u,rfl,rx⟩:=vals1 r
  cases rx
  rcases h with ⟨hq,q⟩ | ⟨hq,q⟩
  · obtain ⟨its,r',pl,hz⟩:=I.list hq
    have hlen:=r'.length
    refine call_tuple_list pl.isList (fun h' kp=>?_) (by simp only [List.size_toArray] <;> omega)
    have I1:Inv X pins σ H { s with heap:=h' }:=I.kept (t':=s.toks) kp
    have I2:Inv X pins σ (upd H h'.objs.size (.tup ys)) { s with heap:=h'.push { cls:=.type "tuple",data:=.seq its.toArray } } :=
      I1.laid (t':=s.toks) (fun b o e=>Heap.get?_push_of_some _ e) (Nat.le_refl _) (show Jx X.prog X.w _ _ _ (.tup ys) from ⟨hz,its,r',TupP.new _ _⟩)
    exact ⟨.ref h'.objs.size,_,I2,rfl,q _ (I1.hok.fresh (Nat.le_refl _))⟩
  · obtain ⟨its,r',pl,hz⟩:=I.tuple hq
    exact call_tuple_same pl ⟨.ref p,H,I,rfl,q⟩
noncomputable def tyV (K:PySem.W.Frag) (T:String) (x:V) (H:Hp):Prop:=match x with
  | .str _=>T = "str"
  | .int _=>T = "int"
  | .ref p=>(T = "list"∧∃ xs,SqL K H p xs)∨(T = "tuple"∧∃ o,K.lookup p=some o∧o.cls = .type "tuple"∧o.dict=none) ∨
      (T = "dict"∧((∃ kvs,H p=some (.dK kvs))∨∃ kvs,H p=some (.dT kvs)))∨(T = "set"∧∃ S n,H p=some (.set S n))
  | _=>False
theorem tyV_is {pins:List (Addr×Obj)} {σ:St} {H:Hp} {s:Shared} {T:String} {x:V} {v:Value} (I:Inv X pins σ H s) (r:RelV x v) (ty:tyV X.K T x H) :
    s.TypeIs v T∧∀ a,v = .ref a→∃ ob,s.heap.get? a=some ob∧ob.dict=none:=by
  cases x with
  | str z =>
    obtain ⟨t,rfl⟩:=r
    cases (show T = "str" from ty)
    exact ⟨typeIs_str s z t,fun _ e=>nomatch e⟩
  | int i =>
    obtain ⟨t,rfl⟩:=r
    cases (show T = "int" from ty)
    exact ⟨typeIs_int s i t,fun _ e=>nomatch e⟩
  | ref p =>
    cases r
    rcases ty with ⟨rfl,xs,hq⟩ | ⟨rfl,o,hk,hc,hd⟩ | ⟨rfl,hk⟩ | ⟨rfl,S,n,hk⟩
    · obtain ⟨its,_,pl,_⟩:=I.list hq
      refine ⟨pl.isList.typeIs,fun a e=>?_⟩
      cases e
      obtain ⟨o,n,e,c,hd,_⟩:=pl
      exact ⟨o,e,hd⟩
    · refine ⟨⟨o,I.kIn p o hk,hc⟩,fun a e=>?_⟩
      cases e
      exact ⟨o,I.kIn _ o hk,hd⟩
    · have z:∃ o,s.heap.get? p=some o∧o.ExactDict:=by
        rcases hk with ⟨kvs,hk⟩ | ⟨kvs,hk⟩
        · obtain ⟨_,_,_,_,o,_,_,e,ex,_⟩:=I.hok p _ hk
          exact ⟨o,e,ex⟩
        · obtain ⟨_,_,_,_,o,_,_,e,ex,_⟩:=I.hok p _ hk
          exact ⟨o,e,ex⟩
      obtain ⟨o,e,ex⟩:=z
      refine ⟨⟨o,e,ex.1⟩,fun a e2=>?_⟩
      cases e2
      exact ⟨o,e,ex.2.1⟩
    · obtain ⟨o,_,_,_,e,ex,_⟩:=I.hok p _ hk
      refine ⟨⟨o,e,ex.1⟩,fun a e2=>?_⟩
      cases e2
      exact ⟨o,e,ex.2.1⟩
  | _=>exact False.elim ty
noncomputable def tBM (K:PySem.W.Frag) (T:String) (r:V→List V→Hp→VK→Prop) (to:TE) (t:TA):TE:=fun σ H Q=>to σ H fun x H1=>tyV K T x H1∧t σ H1 fun xs H2=>r x xs H2 Q
variable {o e:Expr} {es:List Expr} {to:TE} {t:TA} {name:Str} {apos cpos:Pos} {T id:String} {r:V→List V→Hp→VK→Prop}
theorem ZiF (pa:PlainAttrs T) (slot:Slot T name id) (hty:typeOf (.builtin id)=pure (.type "method_descriptor")) (hm:MtR X id r) (ho:PE X o to) (ha:PA X (e :: es) t)
    (hbase:attributeBase o name X.env (eval o X.env)=eval o X.env:=by rfl)
    (hfew:((backTo cpos (starEach (e :: es) X.env)).all (fun x=>!x.1) && (backToKw cpos (keywordEach [] X.env)).all (fun x=>x.1.isSome)
      && decide ((e :: es).length + ([]:List Keyword).length + (if ([]:List Keyword).isEmpty then 0 else 1) < 30))=true:=by rfl)
    (hline:(apos.endLine == cpos.line)=true:=by rfl) (hs:starEach (e :: es) X.env=(false,eval e X.env) :: starEach es X.env:=by rfl) (hplain:(backTo cpos (starEach es X.env)).any (·.1)=false:=by rfl) :
    PE X (.Call (.Attribute o name apos) (e :: es) [] cpos) (tBM X.K T r to t):=by
  intro pins s σ H Q I h
  refine wpAny_Call_method_late hbase hfew hline rfl (thn (ho pins s σ H _ I h) fun v s1 ⟨x,H1,I1,r1,ty,q1⟩=>?_)
  obtain ⟨h1,h2⟩:=tyV_is I1 r1 ty
  refine ⟨T,id,pa,slot,hty,h1,h2,?_⟩
  have hA:=ha cpos pins s1 σ H1 _ I1 q1
  rw [hs] at hA ⊢
  refine Calls.callWith_builtin (by show (false || (backTo cpos (starEach es X.env)).any (·.1))=false; rw [hplain] <;> rfl) (Calls.evalArgs_plain ?_)
  exact thn hA fun us s2 ⟨vs,H2,I2,r2,q2⟩=>hm pins s2 σ H2 x vs v us Q I2 r1 r2 q2
end
end L2
namespace L2
open PySem PySem.Spec PyProof.Rows
noncomputable def MtM (X:Cx) (id:String) (r:V→List V→Hp→VK→Prop):Prop :=
  ∀ (pins:List (Addr×Obj)) (s:Shared) (σ:St) (H:Hp) (x:V) (xs:List V) (v:Value) (us:List Value) (Q:VK),Inv X pins σ H s→RelV x v→Vals xs us→r x xs H Q →
    wpAny (model X.prog X.w) X.A (call (.builtin id) (v :: us)) (EP X pins σ Q) X.xe s
theorem Vals.one:∀ {x:V} {us:List Value},Vals [x] us→∃ u,us=[u]∧RelV x u
  | _,_,.cons r .nil=>⟨_,rfl,r⟩
theorem Vals.two:∀ {x y:V} {us:List Value},Vals [x,y] us→∃ u v,us=[u,v]∧RelV x u∧RelV y v
  | _,_,_,.cons r (.cons q .nil)=>⟨_,_,rfl,r,q⟩
theorem Vals.zero:∀ {us:List Value},Vals [] us→us=[]
  | _,.nil=>rfl
theorem Vals.dropLast {xs:List V} {us:List Value} (h:Vals xs us):Vals xs.dropLast us.dropLast:=by
  induction h with
  | nil=>exact .nil
  | cons r t ih =>
    cases t with
    | nil=>exact .nil
    | cons q t'=>exact .cons r ih
theorem Vals.eraseIdx:∀ {xs:List V} {us:List Value} (i:Nat),Vals xs us→Vals (xs.eraseIdx i) (us.eraseIdx i)
  | _,_,_,.nil=>.nil
  | _,_,0,.cons _ t=>t
  | _,_,i + 1,.cons r t=>.cons r (Vals.eraseIdx i t)
theorem Vals.reverse {xs:List V} {us:List Value} (h:Vals xs us):Vals xs.reverse us.reverse:=by
  induction h with
  | nil=>exact .nil
  | cons r t ih=>rw [List.reverse_cons,List.reverse_cons]; exact Vals.append ih (.cons r .nil)
theorem Vals.rep {xs:List V} {us:List Value} (h:Vals xs us):∀ k:Nat,Vals (List.replicate k xs).flatten (List.replicate k us).flatten
  | 0=>.nil
  | k + 1=>by
    rw [List.replicate_succ,List.replicate_succ,List.flatten_cons,List.flatten_cons]
    exact Vals.append h (Vals.rep h k)
theorem foldl_rep (its:List Value):∀ (k:Nat) (acc:List Value),
    List.foldl (fun x1 x2=>x1++x2) acc.toArray (List.replicate k its.toArray)=(acc++(List.replicate k its).flatten).toArray
  | 0,acc=>by simp
  | k + 1,acc=>by
    have e:acc.toArray++its.toArray=(acc++its).toArray:=by simp
    have e2:(acc++its)++(List.replicate k its).flatten=acc++(List.replicate (k + 1) its).flatten:=by
      rw [List.replicate_succ,List.flatten_cons,List.append_assoc]
    rw [← e2,← foldl_rep its k (acc++its),← e,List.replicate_succ,List.foldl_cons]
section
variable {X:Cx} {pins:List (Addr×Obj)} {σ:St} {H:Hp} {s:Shared} {l b:Addr} {xs ys zs:List V}
theorem Inv.lset {its its':List Value} {n:Nat} {f:Array Value→Array Value} {t':Nat} (I:Inv X pins σ H s) (hH:H l=some (.lst xs))
    (e:s.heap.get? l=some { cls:=.type "list",data:=.seq its.toArray n }) (hf:f its.toArray=its'.toArray) (hv:Vals ys its') (hz:ys.length≤sizeLine) :
    Inv X pins σ (upd H l (.lst ys)) { s with heap:=s.heap.update l (Obj.mapSeq f),toks:=t' }:=by
  have q:=PySem.IsL.update e f
  rw [hf] at q
  refine I.write (x:=l) (e:=l) (by rw [hH]; exact trivial) (.inl rfl) (fun b' u hb hu=>(Heap.get?_update_other s.heap (Obj.mapSeq f) (Ne.symm hb)).trans hu) ⟨_,q⟩ ?_
  exact ⟨hz,its',_,hv,q⟩
theorem Inv.lnew {its:List Value} {t':Nat} (I:Inv X pins σ H s) (hv:Vals ys its) (hz:ys.length≤sizeLine) :
    Inv X pins σ (upd H s.heap.objs.size (.lst ys)) { s with heap:=s.heap.push { cls:=.type "list",data:=.seq its.toArray },toks:=t' } :=
  I.laid (fun _ _ q=>Heap.get?_push_of_some _ q) (Nat.le_refl _) ⟨hz,its,0,hv,Heap.get?_push_size _ rfl⟩
theorem Inv.fresh (I:Inv X pins σ H s):H s.heap.objs.size=none:=I.hok.fresh (Nat.le_refl _)
theorem Inv.lstM (I:Inv X pins σ H s) (hH:H l=some (.lst xs)):xs.length≤sizeLine∧∃ (its:List Value) (n:Nat),Vals xs its∧xs.length=its.length∧s.heap.get? l=some { cls:=.type "list",data:=.seq its.toArray n }:=by
  obtain ⟨z,its,n,r,e⟩:=I.hok l _ hH
  exact ⟨z,its,n,r,r.length,e⟩
theorem ZiK {n:Nat} (h:n≤sizeLine):Builtin.List.listTooLong n=false:=by
  unfold Builtin.List.listTooLong
  exact decide_eq_false (by omega)
end
section
variable {X:Cx}
noncomputable def ZjQ:V→List V→Hp→VK→Prop:=fun x vs H Q=>∃ l xs y,x = .ref l∧vs=[y]∧H l=some (.lst xs)∧xs.length < sizeLine∧Q .non (upd H l (.lst (xs++[y])))
theorem Zg5:MtM X "list.append" ZjQ:=by
  intro pins s σ H x vs v us Q I rx rv h
  obtain ⟨l,xs,y,rfl,rfl,hH,hz,q⟩:=h
  cases rx
  obtain ⟨u,rfl,ru⟩:=rv.one
  obtain ⟨z,its,n,r,hl,e⟩:=I.lstM hH
  refine call_meets F.slot_list_append ⟨_,e,rfl⟩ F.entry_list_append (F.args_list_append_2 _ _) (PySem.list_append l its.toArray n u (by rw [List.size_toArray]; omega)) ⟨e,?_⟩
  refine ⟨.non,_,I.lset (its':=its++[u]) hH e (by simp) (r.append (.cons ru .nil)) ?_,rfl,q⟩
  rw [List.length_append,List.length_singleton]
  omega
noncomputable def rCat:R2:=fun x y H Q=>∃ l b xs zs,x = .ref l∧y = .ref b∧H l=some (.lst xs)∧H b=some (.lst zs)∧xs.length + zs.length≤sizeLine∧∀ p,H p=none→Q (.ref p) (upd H p (.lst (xs++zs)))
theorem op_cat:OpR X (binaryOp .Add) rCat:=by
  intro pins s σ H x y v u Q I rx ry h
  obtain ⟨l,b,xs,zs,rfl,rfl,hH,hB,hz,q⟩:=h
  cases rx
  cases ry
  obtain ⟨z,its,n,r,hl,e⟩:=I.lstM hH
  obtain ⟨z2,its2,n2,r2,hl2,e2⟩:=I.lstM hB
  refine PySem.P.add_list e e2 ?_ (by rw [List.size_toArray,List.size_toArray]; omega)
  have ea:its.toArray++its2.toArray=(its++its2).toArray:=by simp
  rw [ea]
  exact ⟨.ref _,_,I.lnew (t':=s.toks) (r.append r2) (by rw [List.length_append]; omega),rfl,q _ I.fresh⟩
noncomputable def rRep:R2:=fun x y H Q=>∃ l k xs,x = .ref l∧y = .int k∧H l=some (.lst xs)∧-(2 ^ 63)≤k∧k < 2 ^ 63∧xs.length * k.toNat≤sizeLine ∧
  ∀ p,H p=none→Q (.ref p) (upd H p (.lst (List.replicate k.toNat xs).flatten))
theorem len_rep {α:Type} (xs:List α) (k:Nat):(List.replicate k xs).flatten.length=k * xs.length:=by
  induction k with
  | zero=>simp
  | succ k ih=>rw [List.replicate_succ,List.flatten_cons,List.length_append,ih,Nat.succ_mul,Nat.add_comm]
theorem op_rep:OpR X (binaryOp .Mult) rRep:=by
  intro pins s σ H x y v u Q I rx ry h
  obtain ⟨l,k,xs,rfl,rfl,hH,h1,h2,hz,q⟩:=h
  cases rx
  obtain ⟨t,rfl⟩:=ry
  obtain ⟨z,its,n,r,hl,e⟩:=I.lstM hH
  have hlen:its.toArray.size * k.toNat≤sizeLine:=by rw [List.size_toArray,← hl]; exact hz
  have hcap:¬ its.toArray.size * k.toNat > (2 ^ 63 - 1) / 8:=by
    have:(sizeLine:Nat)≤(2 ^ 63 - 1) / 8:=by decide
    omega
  have hfit:¬ (!Builtin.List.listFitsIndex k)=true:=by
    rw [fitsIndex_both h1 h2]
    exact Bool.false_ne_true
  have hlong:¬ Builtin.List.listTooLong (its.toArray.size * k.toNat)=true:=by
    rw [ZiK hlen]
    exact Bool.false_ne_true
  have hnew:List.foldl (fun x1 x2=>x1++x2) #[] (List.replicate (if its.toArray.isEmpty=true then 0 else k.toNat) its.toArray)=(List.replicate k.toNat its).flatten.toArray:=by
    have f0:∀ m:Nat,List.foldl (fun x1 x2=>x1++x2) #[] (List.replicate m its.toArray)=(List.replicate m its).flatten.toArray:=fun m=>by
      have:=foldl_rep its m []
      rw [List.nil_append] at this
      exact this
    rw [f0]
    cases its with
    | nil=>simp
    | cons a r'=>rw [if_neg (by simp)]
  refine wpAny_binaryOp_repeat_ref (T:="list") (U:="int") (by decide) ⟨_,e,rfl⟩ (fun s'=>typeIs_int s' k t) noFill_list_mul F.fills_int_mul F.slot_int_rmul repeat_list F.slot_int_index.lookup
    (call_meets F.slot_int_rmul (typeIs_int s k t) F.entry_int_rmul (F.args_int_rmul_2 _ _) (int___rmul___int_list k t l its.toArray n)
      ⟨e,rfl,⟨_,e,rfl⟩,call_meets F.slot_list_mul ⟨_,e,rfl⟩ F.entry_list_mul (F.args_list_mul_2 _ _) (AutoListH.list___mul___list_int_3 l its.toArray n k t hfit hcap hlong) ⟨e,?_⟩⟩)
  rw [hnew]
  exact ⟨.ref _,_,I.lnew (t':=s.toks) (r.rep k.toNat) (by rw [len_rep,Nat.mul_comm]; exact hz),rfl,q _ I.fresh⟩
end
section
variable {prog:Program} {w:World} {A:Around} {E:Value→Shared→Prop} {s:Shared}
set_option maxRecDepth 100000 in
end
section
variable {X:Cx}
end
end L2
namespace Att
open PySem PySem.W PySem.Calls PyProof.Rows
theorem Zbw {P:Params} {h:Heap}:∀ (ns:List Int) (vs:List Value),WellAll P h vs (ns.map WData.int)→IntsAre vs ns:=by
  intro ns
  induction ns with
  | nil =>
    intro vs w
    rw [List.map_nil] at w
    cases w
    exact .nil
  | cons n ns ih =>
    intro vs w
    rw [List.map_cons] at w
    cases w with
    | cons a b =>
      cases a
      exact .cons _ _ (ih _ b)
theorem Zgs {l:OpenLaw} {n:Nat} (hn:l.most=some n) {P:Params} {h:Heap} {args:List WData} {vals:List Value}
    (hpre:l.row.toRowW.claim.pre args=true) (hwl:WellAll P h vals args) :
    ∃ a vs ns,vals=[Value.ref a]∧args=[WData.list (ns.map WData.int)]∧h.get? a=some { cls:=.type "list",data:=.seq vs.toArray }∧IntsAre vs ns∧ns.length≤n:=by
  have hsh:WShape.hasAll [] args [.list .int]=true:=(pre_splitW hpre).1
  have hc:l.pre.holds [] { args:=args }=true:=(pre_splitW hpre).2
  obtain ⟨d,r,rfl,h1,h2⟩:=hasAllW_cons hsh
  obtain rfl:=hasAllW_nil h2
  obtain ⟨xs,rfl,h3⟩:=hasW_list h1
  obtain ⟨ns,rfl⟩:=items_int h3
  have hlen:ns.length≤n:=by
    unfold OpenLaw.pre at hc
    have h4:(WTm.not (.lt (.lit (.int (n:Int))) (.len (.arg 0)))).holds [] { args:=[.list (ns.map .int)] }=true:=by
      have h4:=(holds_andW hc).1
      rw [hn] at h4
      exact h4
    have h5:=condW_of h4 (w_not (w_lt w_lit (w_len_list (w_arg rfl))))
    rw [List.length_map] at h5
    refine Nat.le_of_not_lt fun q=>?_
    have q':(n:Int) < ((ns.length:Nat):Int):=by omega
    first
      | (rw [decide_eq_true q'] at h5; exact absurd h5 (by decide))
      | (simp at h5; omega)
  cases hwl with
  | cons w1 w2 =>
    cases w2
    cases w1 with
    | list ho hall=>exact ⟨_,_,ns,rfl,rfl,ho,Zbw ns _ hall,hlen⟩
theorem ZgB (l:OpenLaw) (args:List WData):l.row.toRowW.claim.post args (.bool true) args=true :=
  postW_of (r:=l.row.toRowW) (X:=(true == true))
    (show WShape.has [] (.bool true) .bool=true by first | rfl | decide | simp [WShape.has,WShape.arms,WShape.armsAll])
    (show (WTm.eq .res (.lit (.bool true))).value [] { args:=args,res:=some (.bool true),after:=args }=some (.bool (true == true)) from w_eq_bool (w_res rfl) w_lit) rfl
theorem attach_call {l:OpenLaw} {n:Nat} {q:Program} {loose:List Str} {XP:(Str→Option Value)→Heap→Prop} {YP:World→Heap→Prop} {d:DefRec}
    (hn:l.most=some n) (hdf:d.params.defaults=[])
    (call:∀ (w:World) (s₀ s₁:Shared) (mg mb:Str→Option Value) (fa:Addr) (o:Obj) (pm cd doc:Value) (a:Addr) (vs:List Value) (ns:List Int),
      Ground q loose [] XP w s₀ mg mb s₁.heap→YP w s₁.heap →
      s₁.heap.get? fa=some o→o.data = .func (docDef d.name d.params d.body d.scope pm cd doc)→s₁.heap.CodeRec cd d.name→mg d.name=some (.ref fa) →
      s₁.heap.get? a=some { cls:=.type "list",data:=.seq vs.toArray }→IntsAre vs ns→ns.length≤n→s₁.gens = #[] →
      codeAny (model l.prog w) callerA (.call (.ref fa) ⟨[.ref a],[]⟩) (fun r s'=>r = .ok (.ret (.bool true))∧OldK s₁.heap s'.heap∧s'.os=s₁.os∧AllBare s'.gens) s₁) :
    WalkO q loose XP YP l.row.toRowW d [] (fun f vs=>PySem.call f vs):=by
  intro w s₀ s₁ mg mb G Y fa o pm cd doc dV kV ho hd hcd hD hmg hg args vals as hpre hlay hrd hwl hlo
  obtain rfl:dV = .none:=Dflts.none hD hdf
  obtain rfl:kV = .none:=Dflts.noKw hD
  obtain ⟨a,vs,ns,rfl,rfl,hobj,hints,hlen⟩:=Zgs hn hpre hwl
  refine enter_call (codeAny_mono (call w s₀ s₁ mg mb fa o pm cd doc a vs ns G Y ho (fd_plain hd) hcd hmg hobj hints hlen hg) fun r s' hq=>?_)
  obtain ⟨rfl,h2,h3,h4⟩:=hq
  exact ⟨.inl ⟨.bool true,.bool true,[],rfl,fun _=>rfl,.bool true,ZgB l _,fun _=>⟨List.Pairwise.nil,fun _ hm=>(nomatch hm)⟩⟩,h2,h3,h4⟩
section
variable {prog:Program} {w:World} {A:Around} {E:Value→Shared→Prop} {s:Shared} {K:Frag}
end
end Att
namespace L2
open PySem PySem.Spec PyProof.Rows
theorem ZcS:∀ {vs:List Value} {ns:List Int},IntsAre vs ns→Vals (ns.map V.int) vs
  | _,_,.nil=>.nil
  | _,_,.cons n t h=>.cons ⟨t,rfl⟩ (ZcS h)
noncomputable def Only (H:Hp):Prop:=∀ b,H b=none∨∃ o xs,H b=some (.frz o (.lst xs))
theorem law_call {P:Program} {w:World} {K:PySem.W.Frag} {mg mb:Str→Option Value} {CX:CXT} {k:Nat} {fa a:Addr} {fd:FuncData} {x:Str} {sp:Sp} {s₁:Shared} {vs:List Value} {ns:List Int}
    (KX:K.In s₁.heap) (hns:s₁.heap.Ns mainGlobals mg) (hb:s₁.heap.Ns builtinsNs mb) (hbb:∀ x:Str,x≠"__name__"→mb x=bootBuiltins x) (hlim:s₁.heap.NoLimit) (hg:s₁.gens = #[])
    (ha:s₁.heap.get? a=some { cls:=.type "list",data:=.seq vs.toArray }) (hi:IntsAre vs ns) (hl:ns.length≤sizeLine) (hr:Room k callerA)
    (F:∀ base:Heap,K.In base→base.Ns mainGlobals mg→FnOk P w K mg base CX k fa fd [x] sp) (hbind:∀ (s:Shared) (u:Value),BindsTo s fd ⟨[u],[]⟩ [(x,u)])
    (hsp:∀ H:Hp,Only H→SqL K H a (ns.map V.int)→sp [.ref a] H (fun v _=>v = .bl true) fun _ _ _=>False)
    (hCX:∀ H e s',CX [] H s₁ (fun _ _ _=>False) e s'→False) :
    codeAny (model P w) callerA (.call (.ref fa) ⟨[.ref a],[]⟩) (fun r s'=>r = .ok (.ret (.bool true))∧OldK s₁.heap s'.heap∧s'.os=s₁.os∧AllBare s'.gens) s₁:=by
  have rv:=ZcS hi
  have lenV:=hi.length
  -- from an abstract heap in which nothing but the script may be tracked
  have core:∀ H:Hp,Only H→SqL K H a (ns.map V.int)→HOk P w H s₁.heap→(∀ b,H b≠none→b=a)→(H a≠none→K.lookup a=none) →
      codeAny (model P w) callerA (.call (.ref fa) ⟨[.ref a],[]⟩) (fun r s'=>r = .ok (.ret (.bool true))∧OldK s₁.heap s'.heap∧s'.os=s₁.os∧AllBare s'.gens) s₁:=by
    intro H hO hS hok hA hK
    have base_of:∀ {b:Addr} {o:Obj},s₁.heap.get? b=some o→H b=none→(hidT s₁.heap H).get? b=some o:=fun e n=>ZiS e n
    have noA:∀ {b:Addr} {o:Obj} {es:Array DictEntry} {ep:Nat},s₁.heap.get? b=some o→o.data = .dict es ep→H b=none:=fun {b o es ep} e d=>by
      cases q:H b with
      | none=>rfl
      | some u =>
        have e':b=a:=hA b (by rw [q]; simp)
        subst e'
        rw [ha] at e; cases e
        have d':Data.seq vs.toArray _=Data.dict es ep:=d
        cases d'
    have nsK:∀ {b:Addr} {m:Str→Option Value},s₁.heap.Ns b m→(hidT s₁.heap H).Ns b m:=fun {b m} ⟨o,es,ep,e,d,r⟩=>⟨o,es,ep,base_of e (noA e d),d,r⟩
    have hKb:K.In (hidT s₁.heap H):=fun b o e=>base_of (KX b o e) (by
      cases q:H b with
      | none=>rfl
      | some u =>
        have e':b=a:=hA b (by rw [q]; simp)
        subst e'
        rw [hK (by rw [q]; simp)] at e; cases e)
    have hM:Mod K mg (hidT s₁.heap H):=⟨hKb,nsK hns,⟨mb,nsK hb,hbb⟩,let ⟨mc,h1,h2⟩:=hlim; ⟨mc,nsK h1,h2⟩⟩
    have e0:Env0 P w K mg (hidT s₁.heap H) callerA [] s₁ H:=⟨rfl,hM,fun b o e=>Zku e,Nat.le_of_eq (Zhk _ _),trivial,fun b hb=>absurd (show b∈([]:List Addr) from hb) (by simp),hok,.of_eq hg⟩
    refine codeAny_mono ((F _ hKb (nsK hns)).run callerA [] s₁ H ⟨[.ref a],[]⟩ [.ref a] [.ref a] _ _ hr e0 (hbind s₁ (.ref a)) (.cons rfl .nil) (hsp H hO hS)) fun r s' h=>?_
    cases r with
    | error e=>exact (hCX H e s' h).elim
    | ok fl =>
      cases fl with
      | next=>exact False.elim h
      | brk=>exact False.elim h
      | cont=>exact False.elim h
      | ret u =>
        obtain ⟨v,H',os,bare,un,hok',r',q⟩:=h
        have q':v = .bl true:=q
        subst q'
        obtain rfl:u=Value.bool true:=r'
        refine ⟨rfl,OldK.of_keep fun b o e=>?_,os,bare⟩
        cases q:H b with
        | none=>exact un.keep b o e q (by intro z; exact absurd (show b∈([]:List Addr) from z) (by simp)) (by simp)
        | some u =>
          rcases hO b with z | ⟨ob,xs,z⟩
          · rw [q] at z; cases z
          · have z2:=un.frzs b ob _ z
            obtain ⟨e1,_⟩:=hok b _ z
            obtain ⟨e2,_⟩:=hok' b _ z2
            rw [e] at e1; cases e1
            exact e2
  cases hk:K.lookup a with
  | some o =>
    -- the script is one of the module's own objects
    have e:=KX a o hk
    rw [ha] at e
    cases e
    refine core (fun _=>none) (fun _=>.inl rfl) (.inr ⟨_,vs.toArray,_,hk,rfl,rfl,rfl,by rw [List.size_toArray,lenV]; exact hl,by simpa using rv⟩) (fun b u z=>by have z':(none:Option HO)=some u:=z; cases z') (fun b z=>absurd rfl z) fun z=>absurd rfl z
  | none =>
    refine core (fun b=>if b=a then some (.frz { cls:=.type "list",data:=.seq vs.toArray } (.lst (ns.map V.int))) else none) (fun b=>?_) (.inl (.inr ⟨{ cls:=.type "list",data:=.seq vs.toArray },if_pos rfl⟩)) (fun b u z=>?_) (fun b z=>?_) fun _=>hk
    · by_cases hb:b=a
      · exact .inr ⟨_,_,if_pos hb⟩
      · exact .inl (if_neg hb)
    · by_cases hb:b=a
      · have z':=(if_pos hb).symm.trans z
        cases z'
        subst hb
        exact ⟨ha,by rw [List.length_map]; exact hl,vs,_,rv,ha⟩
      · have z':=(if_neg hb).symm.trans z
        cases z'
    · by_cases hb:b=a
      · exact hb
      · exact absurd (if_neg hb) z
end L2
namespace L2
open PySem PySem.Spec PyProof.Rows
theorem walk_of {l:PySem.W.OpenLaw} {n k:Nat} {q:Program} {loose:List Str} {XP:(Str→Option Value)→Heap→Prop} {YP:World→Heap→Prop} {d:DefRec} {K:Params→PySem.W.Frag} {CX:World→CXT} {sp:World→Sp} {x:Str}
    (hn:l.most=some n) (hn2:n≤sizeLine) (hdf:d.params.defaults=[]) (hr:Room k callerA)
    (hY:∀ (w:World) (h:Heap),YP w h→(K w.params).In h)
    (F:∀ (w:World) (mg:Str→Option Value) (fa:Addr) (h:Heap),(K w.params).In h→h.Ns mainGlobals mg→mg d.name=some (.ref fa) →
      ∃ fd:FuncData,(∀ (s:Shared) (u:Value),BindsTo s fd ⟨[u],[]⟩ [(x,u)]) ∧
        ∀ base:Heap,(K w.params).In base→base.Ns mainGlobals mg→FnOk l.prog w (K w.params) mg base (CX w) k fa fd [x] (sp w))
    (hsp:∀ (w:World) (H:Hp) (a:Addr) (ns:List Int),ns.length≤n→Only H→SqL (K w.params) H a (ns.map V.int)→sp w [.ref a] H (fun v _=>v = .bl true) fun _ _ _=>False)
    (hCX:∀ (w:World) (H:Hp) (s:Shared) (e:Value) (s':Shared),CX w [] H s (fun _ _ _=>False) e s'→False) :
    PySem.W.WalkO q loose XP YP l.row.toRowW d [] (fun f vs=>PySem.call f vs):=by
  refine Att.attach_call hn hdf fun w s₀ s₁ mg mb fa o pm cd doc a vs ns G Y ho hd hcd hmg hobj hints hlen hg=>?_
  have KX:=hY w _ Y
  obtain ⟨fd,hb,hF⟩:=F w mg fa _ KX G.T.g hmg
  exact law_call KX G.T.g G.T.b G.T.builtins G.T.nolimit hg hobj hints (Nat.le_trans hlen hn2) hr hF hb (fun H hO hS=>hsp w H a ns hlen hO hS) fun H e s'=>hCX w H s₁ e s'
end L2
namespace L2
open PySem PySem.Spec PyProof.Rows
noncomputable def Zv (s:Stmt):Arguments:=match s with
  | .FunctionDef _ a _ _ _ _ _ _ _ _=>a
  | _=>{ posonlyargs:=[],args:=[],vararg:=none,kwonlyargs:=[],kw_defaults:=[],kwarg:=none,defaults:=[] }
noncomputable def Ze (s:Stmt):List Stmt:=match s with
  | .FunctionDef _ _ b _ _ _ _ _ _ _=>b
  | _=>[]
noncomputable def Za (s:Stmt):Scope:=match s with
  | .FunctionDef _ _ _ _ _ _ sc _ _ _=>sc
  | _=>{ kind:=.function,names:=[],isGenerator:=false,isCoroutine:=false }
noncomputable abbrev CX0:CXT:=fun _ _ _ _ _ _=>False
structure Fun (K:PySem.W.Frag) (x qual:Str) (st:Stmt) (f:Addr) (fd:FuncData):Prop where
  ex:∃ (oc:Value) (od:Option Addr) (kV doc pm:Value) (an:Option Addr) (cdv ct:Value) (osl:Array (Option Value)),
    fd=PySem.W.fnOf x qual (Zv st) (Ze st) (Za st) .none kV doc pm an cdv ct∧K.lookup f=some ⟨oc,od,.func fd,osl⟩∧PySem.W.codeIn K cdv qual=true
  kp:PySem.W.keepIn K (.ref f)=true
section
variable {P:Program} {w:World} {K:PySem.W.Frag} {mg:Str→Option Value} {base:Heap}
theorem Fun.ok {x qual:Str} {st:Stmt} {f:Addr} {fd:FuncData} {N ps:List Str} {k:Nat} {sp:Sp} (F:Fun K x qual st f fd) (S:FnScope N ps (Za st)) (len:∀ vs H Q E,sp vs H Q E→vs.length=ps.length)
    (hbody:∀ (cdv:Value) (A:Around) (outer:List Env) (s:Shared) (H:Hp) (vs:List V) (Q:VK) (E:XK),Room k (A.deeper (envOfC qual (Za st) s.heap.objs.size f cdv))→sp vs H Q E →
      ∃ t,PSs (cxOf CX0 P w K mg base N qual (Za st) f cdv A outer s H E).nox (Ze st) t∧t { nx:=fun _ H'=>Q .non H',rt:=Q } (start N vs) H):FnOk P w K mg base CX0 (k + 1) f fd ps sp:=by
  obtain ⟨oc,od,kV,doc,pm,an,cdv,ct,osl,rfl,lk,hcd⟩:=F.ex
  refine fn_of lk hcd S len fun A outer s H vs Q E hr _ hsp=>?_
  obtain ⟨t,h,q⟩:=hbody cdv A outer s H vs Q E hr hsp
  exact ⟨t,h.nox,q⟩
theorem Fun.binds {x qual:Str} {st:Stmt} {f:Addr} {fd:FuncData} {ps:List Str} (F:Fun K x qual st f fd)
    (h:∀ (kV doc pm:Value) (an:Option Addr) (cdv ct:Value) (us:List Value),us.length=ps.length→bindArgs (PySem.W.fnOf x qual (Zv st) (Ze st) (Za st) .none kV doc pm an cdv ct) ⟨us,[]⟩=pure (ps.zip us)):Binds K fd ps []:=by
  obtain ⟨oc,od,kV,doc,pm,an,cdv,ct,osl,rfl,lk,hcd⟩:=F.ex
  exact .all (h kV doc pm an cdv ct)
theorem Z6 {x qual:Str} {st:Stmt} {f:Addr} {oc:Value} {od an:Option Addr} {osl:Array (Option Value)} {kV doc pm cdv ct:Value} (l:K.lookup f=some ⟨oc,od,.func (PySem.W.fnOf x qual (Zv st) (Ze st) (Za st) .none kV doc pm an cdv ct),osl⟩)
    (c:PySem.W.codeIn K cdv qual=true) (k:PySem.W.keepIn K (.ref f)=true):Fun K x qual st f (PySem.W.fnOf x qual (Zv st) (Ze st) (Za st) .none kV doc pm an cdv ct):=⟨⟨oc,od,kV,doc,pm,an,cdv,ct,osl,rfl,l,c⟩,k⟩
end
section
variable {X:Cx}
end
theorem iteF {A B:Prop} (h:B):if false=true then A else B:=by
  rw [if_neg Bool.false_ne_true]
  exact h
theorem iteT {A B:Prop} (h:A):if true=true then A else B:=by
  rw [if_pos rfl]
  exact h
noncomputable def Same (H H':Hp):Prop:=∀ b o,H b=some o→H' b=some o
theorem Same.refl (H:Hp):Same H H:=fun _ _ h=>h
theorem Same.trans {H H1 H2:Hp} (a:Same H H1) (b:Same H1 H2):Same H H2:=fun c o h=>b c o (a c o h)
theorem Same.free {H H':Hp} (e:Same H H') {l:Addr} (h:H' l=Option.none):H l=Option.none:=by
  cases q:H l with
  | none=>rfl
  | some o =>
    rw [e l o q] at h
    cases h
theorem Same.seq {K:PySem.W.Frag} {H H':Hp} {a:Addr} {xs:List V} (e:Same H H') (h:SqL K H a xs):SqL K H' a xs:=by
  rcases h with (h | ⟨o,h⟩) | h
  · exact .inl (.inl (e _ _ h))
  · exact .inl (.inr ⟨o,e _ _ h⟩)
  · exact .inr h
end L2
end
section
namespace L2
open PySem PySem.Spec PyProof.Rows
section
variable {κ:Type} [DecidableEq κ]
noncomputable def valV (kvs:List (κ×V)) (k:κ):Option V:=(kvs.find? fun kv=>decide (kv.1=k)).map (·.2)
noncomputable def putK (kvs:List (κ×V)) (k:κ) (v:V):List (κ×V) :=
  if (kvs.any fun kv=>decide (kv.1=k))=true then kvs.map (fun kv=>if kv.1=k then (kv.1,v) else kv) else kvs++[(k,v)]
noncomputable def dropK (kvs:List (κ×V)) (k:κ):List (κ×V):=kvs.filter fun kv=>decide (kv.1≠k)
theorem Zcm {p:κ×V} {r:List (κ×V)} {k:κ} (e:p.1=k):valV (p :: r) k=some p.2:=by simp [valV,List.find?_cons,e]
theorem Zcn {p:κ×V} {r:List (κ×V)} {k:κ} (e:¬ p.1=k):valV (p :: r) k=valV r k:=by simp [valV,List.find?_cons,e]
theorem ZeB (k:κ):∀ kvs:List (κ×V),(kvs.any fun kv=>decide (kv.1=k))=(valV kvs k).isSome
  | []=>rfl
  | p :: r=>by
    rw [List.any_cons]
    by_cases e:p.1=k
    · simp only [Zcm e,decide_eq_true e,Bool.true_or,Option.isSome_some]
    · rw [Zcn e,decide_eq_false e,Bool.false_or]; exact ZeB k r
theorem RelO.isSome_eq {o:Option V} {u:Option Value} (r:RelO o u):o.isSome=u.isSome:=by
  cases o with
  | none=>cases u with
    | none=>rfl
    | some _=>exact (show False from r).elim
  | some _=>cases u with
    | none=>exact (show False from r).elim
    | some _=>rfl
theorem RelO.getD {o:Option V} {u:Option Value} {d:V} {d':Value} (r:RelO o u) (rd:RelV d d'):RelV (o.getD d) (u.getD d'):=by
  cases o with
  | none=>cases u with
    | none=>exact rd
    | some _=>exact (show False from r).elim
  | some _=>cases u with
    | none=>exact (show False from r).elim
    | some _=>exact r
theorem KV.val {kvs:List (κ×V)} {vs:List (κ×Value)} (r:KV kvs vs) (k:κ):RelO (valV kvs k) (valueAt vs k):=by
  unfold KV at r
  induction r with
  | nil=>exact True.intro
  | @cons p q ps qs h t ih =>
    obtain ⟨h1,h2⟩:=h
    by_cases e:p.1=k
    · have e':q.1=k:=h1.symm.trans e
      have b:valueAt (q :: qs) k=some q.2:=by simp [valueAt,List.find?_cons,e']
      rw [Zcm e,b]; exact h2
    · have e':¬ q.1=k:=fun z=>e (h1.trans z)
      have b:valueAt (q :: qs) k=valueAt qs k:=by simp [valueAt,List.find?_cons,e']
      rw [Zcn e,b]; exact ih
theorem KV.any {kvs:List (κ×V)} {vs:List (κ×Value)} (r:KV kvs vs) (k:κ):(kvs.any fun kv=>decide (kv.1=k))=vs.any fun kv=>decide (kv.1=k):=by
  unfold KV at r
  induction r with
  | nil=>rfl
  | cons h t ih=>rw [List.any_cons,List.any_cons,ih,h.1]
theorem KV.repl {kvs:List (κ×V)} {vs:List (κ×Value)} (r:KV kvs vs) (k:κ) {y:V} {u:Value} (ry:RelV y u) :
    KV (kvs.map fun kv=>if kv.1=k then (kv.1,y) else kv) (vs.map fun kv=>if kv.1=k then (kv.1,u) else kv):=by
  unfold KV at r ⊢
  induction r with
  | nil=>exact .nil
  | @cons p q ps qs h t ih =>
    rw [List.map_cons,List.map_cons]
    refine .cons ?_ ih
    obtain ⟨h1,h2⟩:=h
    by_cases e:p.1=k
    · rw [if_pos e,if_pos (h1.symm.trans e)]; exact ⟨h1,ry⟩
    · rw [if_neg e,if_neg (fun z=>e (h1.trans z))]; exact ⟨h1,h2⟩
theorem KV.put {kvs:List (κ×V)} {vs:List (κ×Value)} (r:KV kvs vs) (k:κ) {y:V} {u:Value} (ry:RelV y u):KV (putK kvs k y) (stored vs k u):=by
  unfold putK stored
  rw [r.any k]
  by_cases e:(vs.any fun kv=>decide (kv.1=k))=true
  · rw [if_pos e,if_pos e]; exact r.repl k ry
  · rw [if_neg e,if_neg e]; exact Paired.snoc r ⟨rfl,ry⟩
theorem KV.drop {kvs:List (κ×V)} {vs:List (κ×Value)} (r:KV kvs vs) (k:κ):KV (dropK kvs k) (without vs k):=by
  unfold KV at r ⊢
  unfold dropK without
  induction r with
  | nil=>exact .nil
  | @cons p q ps qs h t ih =>
    obtain ⟨h1,h2⟩:=h
    rw [List.filter_cons,List.filter_cons]
    by_cases e:p.1=k
    · have a:¬ decide (p.1≠k)=true:=by simp [e]
      have b:¬ decide (q.1≠k)=true:=by simp [h1.symm.trans e]
      rw [if_neg a,if_neg b]; exact ih
    · have e':¬ q.1=k:=fun z=>e (h1.trans z)
      have a:decide (p.1≠k)=true:=by simp [e]
      have b:decide (q.1≠k)=true:=by simp [e']
      rw [if_pos a,if_pos b]; exact .cons ⟨h1,h2⟩ ih
theorem KV.length {kvs:List (κ×V)} {vs:List (κ×Value)} (r:KV kvs vs):kvs.length=vs.length:=Paired.length r
end
theorem ZkE {P:Program} {w:World} {k:Key} {u:Value} (r:RelV (kV k) u):(Jv P w).is k u=true:=by
  cases k with
  | inl i=>obtain ⟨t,e⟩:=(show ∃ t,u=Value.int i t from r); subst e; exact Zei P w i t
  | inr x=>obtain ⟨t,e⟩:=(show ∃ t,u=Value.str x t from r); subst e; exact Zeh P w x t
noncomputable abbrev KT (H:Hp):List (List Key×V)→List (List Key×Addr×Value)→Prop:=Paired fun p q=>p.1=q.1∧H q.2.1=some (.tup (p.1.map kV))∧RelV p.2 q.2.2
theorem KT.val {H:Hp} {kvs:List (List Key×V)} {xs:List (List Key×Addr×Value)} (r:KT H kvs xs) (k:List Key):RelO (valV kvs k) ((atKey xs k).map (·.2)):=by
  induction r with
  | nil=>exact True.intro
  | @cons p q ps qs h t ih =>
    obtain ⟨h1,_,h2⟩:=h
    by_cases e:p.1=k
    · have e':q.1=k:=h1.symm.trans e
      have b:atKey (q :: qs) k=some q.2:=by simp [atKey,List.find?_cons,e']
      rw [Zcm e,b]; exact h2
    · have e':¬ q.1=k:=fun z=>e (h1.trans z)
      have b:atKey (q :: qs) k=atKey qs k:=by simp [atKey,List.find?_cons,e']
      rw [Zcn e,b]; exact ih
theorem KT.repl {H:Hp} {kvs:List (List Key×V)} {xs:List (List Key×Addr×Value)} (r:KT H kvs xs) (k:List Key) {y:V} {u:Value} (ry:RelV y u) :
    KT H (kvs.map fun kv=>if kv.1=k then (kv.1,y) else kv) (xs.map (putAt k u)):=by
  induction r with
  | nil=>exact .nil
  | @cons p q ps qs h t ih =>
    rw [List.map_cons,List.map_cons]
    refine .cons ?_ ih
    obtain ⟨h1,h2,h3⟩:=h
    unfold putAt
    by_cases e:p.1=k
    · rw [if_pos e,if_pos (h1.symm.trans e)]; exact ⟨h1,h2,ry⟩
    · rw [if_neg e,if_neg (fun z=>e (h1.trans z))]; exact ⟨h1,h2,h3⟩
theorem KT.put {H:Hp} {kvs:List (List Key×V)} {xs:List (List Key×Addr×Value)} (r:KT H kvs xs) (k:List Key) {b:Addr} {y:V} {u:Value} (hb:H b=some (.tup (k.map kV))) (ry:RelV y u) :
    KT H (putK kvs k y) (storedH xs k b u):=by
  have e:(kvs.any fun kv=>decide (kv.1=k))=(atKey xs k).isSome:=by
    rw [ZeB,(r.val k).isSome_eq,Option.isSome_map]
  unfold putK storedH
  rw [e]
  by_cases q:(atKey xs k).isSome=true
  · rw [if_pos q,if_pos q]; exact r.repl k ry
  · rw [if_neg q,if_neg q]; exact Paired.snoc r ⟨rfl,hb,ry⟩
theorem KT.keeps {H H':Hp} {kvs:List (List Key×V)} {xs:List (List Key×Addr×Value)} (r:KT H kvs xs) (ht:∀ b ys,H b=some (.tup ys)→H' b=some (.tup ys)):KT H' kvs xs :=
  Paired.mapP r fun _ _ z=>⟨z.1,ht _ _ z.2.1,z.2.2⟩
section
variable {P:Program} {w:World} {H:Hp} {h:Heap} {a:Addr}
end
noncomputable def DGet (H:Hp) (a:Addr) (y:V) (r:Option V):Prop :=
  (∃ kvs k,Rd H a (.dK kvs)∧y=kV k∧r=valV kvs k)∨∃ kvs k b,Rd H a (.dT kvs)∧y = .ref b∧H b=some (.tup (k.map kV))∧r=valV kvs k
noncomputable def DPut (H:Hp) (a:Addr) (y v:V) (H':Hp):Prop :=
  (∃ kvs k,H a=some (.dK kvs)∧y=kV k∧kvs.length < sizeLine∧H' = upd H a (.dK (putK kvs k v))) ∨
  ∃ kvs k b,H a=some (.dT kvs)∧y = .ref b∧H b=some (.tup (k.map kV))∧kvs.length < sizeLine∧H' = upd H a (.dT (putK kvs k v))
theorem DGet.k {H:Hp} {a:Addr} {kvs:List (Key×V)} {k:Key} (e:H a=some (.dK kvs)):DGet H a (kV k) (valV kvs k):=.inl ⟨kvs,k,.inl e,rfl,rfl⟩
theorem DGet.t {H:Hp} {a b:Addr} {kvs:List (List Key×V)} {k:List Key} (e:H a=some (.dT kvs)) (eb:H b=some (.tup (k.map kV))):DGet H a (.ref b) (valV kvs k):=.inr ⟨kvs,k,b,.inl e,rfl,eb,rfl⟩
theorem DPut.k {H:Hp} {a:Addr} {kvs:List (Key×V)} {k:Key} {v:V} (e:H a=some (.dK kvs)) (hl:kvs.length < sizeLine):DPut H a (kV k) v (upd H a (.dK (putK kvs k v))):=.inl ⟨kvs,k,e,rfl,hl,rfl⟩
theorem DPut.t {H:Hp} {a b:Addr} {kvs:List (List Key×V)} {k:List Key} {v:V} (e:H a=some (.dT kvs)) (eb:H b=some (.tup (k.map kV))) (hl:kvs.length < sizeLine) :
    DPut H a (.ref b) v (upd H a (.dT (putK kvs k v))):=.inr ⟨kvs,k,b,e,rfl,eb,hl,rfl⟩
section
variable {X:Cx} {pins:List (Addr×Obj)} {σ:St} {H:Hp} {s:Shared} {a:Addr} {y v:V} {u r:Value} {o:Option V} {A:Around} {E:Value→Shared→Prop}
end
section
variable {X:Cx} {pins:List (Addr×Obj)} {σ:St} {H:Hp} {s:Shared} {a:Addr} {kvs:List (Key×V)} {k:Key} {u:Value} {A:Around} {E:Value→Shared→Prop}
end
noncomputable def NoSl (i:Expr):Prop:=∀ ov iv,subscripted i false ov iv=operate [ov,iv] (getItem ov iv)
theorem ZjN {prog:Program} {w:World} {A:Around} {E:Value→Shared→Prop} {s:Shared} {env:Env} {value slice:Expr} {pos:Pos} {T id:String} {Q:Value→Shared→Prop}
    (hl:typeLookup (.type T) "__getitem__" = pure (some (.builtin id))) (hs:NoSl slice)
    (h:wpAny (model prog w) A (eval value env) (fun o s₁=>wpAny (model prog w) A (eval slice env) (fun i s₂=>s₂.TypeIs o T∧wpAny (model prog w) A (getItem o i) Q E s₂) E s₁) E s) :
    wpAny (model prog w) A (eval (.Subscript value slice pos) env) Q E s:=by
  refine Subscript_ (wpAny_mono h (fun o s₁ h₁=>wpAny_mono h₁ (fun i s₂ h₂=>?_) fun _ _ x=>x) fun _ _ x=>x)
  obtain ⟨hT,h₂⟩:=h₂
  unfold subscriptTail
  refine wpAny_bind ?_
  rw [getitemInPython_of_ne hT.not_modules]
  refine wpAny_bind (wpAny_specialOf hT hl ?_)
  have fin:wpAny (model prog w) A (subscripted slice false o i) (fun r s₃=>wpAny (model prog w) A (letTemporaryGo value o r >>= fun _=>pure r) Q E s₃) E s₂:=by
    rw [hs o i]
    exact wpAny_operating (wpAny_mono h₂ (fun r s₃ h₃=>wpAny_bind (wpAny_letTemporaryGo (wpAny_pure h₃))) fun _ _ x=>x)
  first
    | exact wpAny_pure (wpAny_bind fin)
    | exact wpAny_bind (wpAny_pure (wpAny_bind fin))
    | exact wpAny_bind fin
section
variable {X:Cx} {o i e value:Expr} {pos pos' tpos:Pos} {td ty tv:TE}
end
section
variable {X:Cx} {pos:Pos}
end
end L2
end
section
namespace Mi
open PySem PySem.Spec PyProof.Rows L2
theorem Zcy (t:SetTable) (n:Nat):(t.orStandIn n).led=t.led:=by unfold SetTable.orStandIn; split <;> rfl
theorem Zbo (t:SetTable) (n:Nat) (h:t.plain=false):(t.orStandIn n).plain=false:=by unfold SetTable.orStandIn; split <;> first | exact h | rfl
theorem ZfJ (t:SetTable) (es:Array (Int×Value)) (h:Int) (x:Value):(layNew t es h x).2.1.led=t.led:=by
  unfold layNew
  split
  · exact Zcy _ _
  · rfl
theorem Zdu (t:SetTable) (es:Array (Int×Value)) (h:Int) (x:Value) (hp:t.plain=false):(layNew t es h x).2.1.plain=false:=by
  unfold layNew
  split
  · exact Zbo _ _ hp
  · rfl
theorem Zb2 {t t':SetTable} {hs:Array Int} {n:Nat} {o:Array Nat} (h:t.relaid hs n=some (t',o)):t'.led=t.led∧t'.plain=t.plain:=by
  unfold SetTable.relaid SetTable.laid at h
  simp only [Option.bind_eq_bind] at h
  obtain ⟨w,_,h2⟩:=Option.bind_eq_some_iff.mp h
  cases h2
  exact ⟨rfl,rfl⟩
theorem Zc6 (t:SetTable) (es:Array (Int×Value)) (n:Nat):(relayAll t es n).2.1.led=t.led:=by
  unfold relayAll
  split
  · rename_i t' o h
    dsimp only
    split
    · exact (Zb2 h).1
    · rfl
  · rfl
theorem ZbP (t:SetTable) (es:Array (Int×Value)) (n:Nat) (hp:t.plain=false):(relayAll t es n).2.1.plain=false:=by
  unfold relayAll
  split
  · rename_i t' o h
    dsimp only
    split
    · exact (Zb2 h).2.trans hp
    · rfl
  · rfl
structure SetE (prog:Program) (w:World) (led:Bool) (o:Obj) (D:List Str) (es:Array (Int×Value)) (ep:Nat) (t:SetTable):Prop where
  ex:o.ExactSet
  data:o.data = .set es ep t
  el:ElemsOf (PySem.strKind prog w) es.toList
  txs:(es.toList.map fun e=>strOf e.2).Perm D
  nd:D.Nodup
  room:es.size < scanBound
  fits:t.fits es.size=true
  led:t.led=led
  plain:es.size≠0→t.plain=false
noncomputable def SetS (prog:Program) (w:World) (led:Bool) (h:Heap) (a:Addr) (D:List Str):Prop:=∃ o es ep t,h.get? a=some o∧SetE prog w led o D es ep t
theorem Zbv {x:Str} {v:Value} (h:Value.isStrOf x v=true):strOf v=x:=by
  obtain ⟨t,rfl⟩:=Value.isStrOf_shape h
  rfl
section
variable {prog:Program} {w:World} {A:Around} {E:Value→Shared→Prop} {s:Shared} {led:Bool}
theorem Zh9 {v:Value} (h:∃ k,(PySem.strKind prog w).is k v=true):Value.isStrOf (strOf v) v=true:=by
  obtain ⟨k,hk⟩:=h
  have hk:Value.isStrOf k v=true:=hk
  rw [Zbv hk]
  exact hk
theorem ZeO {es:List (Int×Value)} (he:ElemsOf (PySem.strKind prog w) es) (k:Str):(∃ e∈es,(PySem.strKind prog w).is k e.2=true)↔k∈es.map fun e=>strOf e.2:=by
  constructor
  · rintro ⟨e,he,hk⟩
    exact List.mem_map.mpr ⟨e,he,Zbv hk⟩
  · intro h
    obtain ⟨e,hm,rfl⟩:=List.mem_map.mp h
    obtain ⟨⟨k,hk,_⟩,_⟩:=he e hm
    exact ⟨e,hm,Zh9 ⟨k,hk⟩⟩
theorem add_str {a:Addr} {D:List Str} {x:Str} {tk:Tok} {Q:Bool→Shared→Prop} (hS:SetS prog w led s.heap a D) (hroom:D.length + 1 < scanBound)
    (h:∀ h' b,Heap.SameBut a s.heap h'→SetS prog w led h' a (if x∈D then D else D++[x])→Q b { s with heap:=h' }) :
    wpAny (model prog w) A (setAddHashed a (.str x tk) (hashStr w x)) Q E s:=by
  obtain ⟨o,es,ep,t,ho,hE⟩:=hS
  have hex:=hE.ex
  have hd:=hE.data
  have hel:=hE.el
  have hf:=hE.fits
  have hkey:(PySem.strKind prog w).is x (.str x tk)=true:=by show Value.isStrOf x (.str x tk)=true; simp [Value.isStrOf]
  have hsc:(Value.str x tk).scannable=true:=rfl
  have hlen:es.size=D.length:=by rw [← hE.txs.length_eq,List.length_map,Array.length_toList]
  show wpAny (model prog w) A (setAddHashed a (.str x tk) ((PySem.strKind prog w).hash x)) Q E s
  unfold setAddHashed setAddHashedIn
  refine wpAny_holding (wpAny_bind (wpAny_setState_of ho hd hf ?_))
  dsimp only
  rw [byScan_of hsc hE.room hel]
  simp only [↓reduceIte]
  unfold setAddByScan
  refine wpAny_bind ?_
  refine wpAny_bind (wpAny_rule ?_)
  refine wpAny_bind (wpAny_setScan_of hkey ho hd hf hel ?_)
  cases hr:List.findIdx? (fun e=>(PySem.strKind prog w).is x e.2) es.toList with
  | some j =>
    dsimp only
    obtain ⟨hj,hpj,_⟩:=List.findIdx?_eq_some_iff_getElem.mp hr
    have hm:x∈D:=hE.txs.mem_iff.mp ((ZeO hel x).mp ⟨_,List.getElem_mem hj,hpj⟩)
    refine wpAny_pure (wpAny_pure ?_)
    have:=h s.heap false (Heap.SameBut.refl a s.heap) (by rw [if_pos hm]; exact ⟨o,es,ep,t,ho,hE⟩)
    exact this
  | none =>
    dsimp only
    have hm:x ∉ D:=fun hx=>by
      obtain ⟨e,he,hp⟩:=(ZeO hel x).mpr (hE.txs.mem_iff.mpr hx)
      have:=List.findIdx?_eq_none_iff.mp hr e he
      rw [hp] at this
      exact Bool.noConfusion this
    have hgw:∀ (b:Bool) (s₁:Shared) (Q':Unit→Shared→Prop),Q' () s₁→wpAny (model prog w) A (match b with | true=>rule "set.scan.the-table-gave-way" | false=>pure ()) Q' E s₁ :=
      fun b s₁ Q' hq=>by cases b <;> first | exact wpAny_pure hq | exact wpAny_rule hq
    have hperm:=layNew_perm t es ((PySem.strKind prog w).hash x) (.str x tk)
    have hfits:=layNew_fits t es ((PySem.strKind prog w).hash x) (.str x tk)
    have hled:=ZfJ t es ((PySem.strKind prog w).hash x) (.str x tk)
    have hplain:=Zdu t es ((PySem.strKind prog w).hash x) (.str x tk)
    generalize hL:layNew t es ((PySem.strKind prog w).hash x) (.str x tk)=L at hperm hfits hled hplain ⊢
    obtain ⟨es1,t1,wasDummy,gave⟩:=L
    dsimp only at hperm hfits hled hplain ⊢
    rw [Array.toList_push] at hperm
    have hel1:ElemsOf (PySem.strKind prog w) es1.toList:=(hel.push hkey hsc).perm hperm
    have hsz1:es1.size=es.size + 1:=by rw [← Array.length_toList,hperm.length_eq,List.length_append,Array.length_toList]; rfl
    have hb1:es1.size < scanBound:=by omega
    have hst1:(es1.toList.map fun e=>strOf e.2).Perm (D++[x]):=by
      refine (hperm.map _).trans ?_
      rw [List.map_append]
      exact hE.txs.append_right _
    have hnd:(D++[x]).Nodup:=by
      rw [List.nodup_append]
      refine ⟨hE.nd,by simp,fun y hy z hz=>?_⟩
      rw [List.mem_singleton.mp hz]
      exact fun e=>hm (e ▸ hy)
    -- the end,at a table that is plain no more
    have fin:∀ t2:SetTable,t2.led=led→t2.plain=false→t2.fits es1.size=true→wpAny (model prog w) A (do
        storeSet a es1 t2
        if (!wasDummy && t2.tooFull)=true then do
            (match (relayAll t2 es1 (SetTable.grown es1.size)).2.2 with | true=>rule "set.scan.the-table-gave-way" | false=>pure ())
            storeSet a (relayAll t2 es1 (SetTable.grown es1.size)).1 (relayAll t2 es1 (SetTable.grown es1.size)).2.1
            pure (some true)
          else pure (some true)) (fun r s'=>match r with
            | some b=>Q b s'
            | none=>False) E s:=fun t2 hl2 hp2 hf2=>by
      have hg1:(s.heap.update a (Obj.putSet es1 t2)).get? a=some { o with data:=.set es1 (ep + 1) t2 }:=by
        have:=Heap.get?_update_self (Obj.putSet es1 t2) ho (by rw [putSet_of es1 t2 hd]; rfl)
        rw [putSet_of es1 t2 hd] at this
        exact this
      have hsb1:=Heap.SameBut.update s.heap a (Obj.putSet es1 t2)
      refine wpAny_bind (wpAny_storeSet_of ho hd ?_ (fits_of_scanBound hb1))
      split
      · have hp:=relayAll_perm t2 es1 (SetTable.grown es1.size)
        have hfr:=relayAll_fits t2 es1 (SetTable.grown es1.size)
        have hrl:=Zc6 t2 es1 (SetTable.grown es1.size)
        have hrp:=ZbP t2 es1 (SetTable.grown es1.size) hp2
        generalize relayAll t2 es1 (SetTable.grown es1.size)=Rl at hp hfr hrl hrp ⊢
        obtain ⟨es2,t3,gave2⟩:=Rl
        dsimp only at hp hfr hrl hrp ⊢
        have hsz:es2.size=es1.size:=by rw [← Array.length_toList,hp.length_eq,Array.length_toList]
        refine wpAny_bind (hgw _ _ _ ?_)
        refine wpAny_bind (wpAny_storeSet_of hg1 rfl ?_ (fits_of_scanBound (by omega)))
        have hg2:((s.heap.update a (Obj.putSet es1 t2)).update a (Obj.putSet es2 t3)).get? a=some { o with data:=.set es2 (ep + 1 + 1) t3 } :=
          Heap.get?_update_self (Obj.putSet es2 t3) hg1 rfl
        refine wpAny_pure (h _ true (hsb1.trans (Heap.SameBut.update _ a _)) ?_)
        rw [if_neg hm]
        exact ⟨_,es2,_,t3,hg2,⟨hex,rfl,hel1.perm hp,(hp.map _).trans hst1,hnd,by omega,hfr,hrl.trans hl2,fun _=>hrp⟩⟩
      · refine wpAny_pure (h _ true hsb1 ?_)
        rw [if_neg hm]
        exact ⟨_,es1,_,t2,hg1,⟨hex,rfl,hel1,hst1,hnd,hb1,hf2,hl2,fun _=>hp2⟩⟩
    refine wpAny_bind (hgw _ _ _ ?_)
    have done:∀ {r:Option Bool} {s':Shared},(match r with
        | some b=>Q b s'
        | none=>False)→wpAny (model prog w) A (match r with
          | some added=>pure added
          | none=>setAddHashedIn a (.str x tk) ((PySem.strKind prog w).hash x) 99999) Q E s':=fun {r s'} hr=>by
      cases r with
      | none=>exact hr.elim
      | some b=>exact wpAny_pure hr
    split
    · refine wpAny_bind ?_
      rw [hashByValue_scannable 8 hsc]
      refine wpAny_pure ?_
      exact wpAny_mono (fin { t1 with plain:=false } (hled.trans hE.led) rfl (SetTable.fits_plain_off hfits)) (fun r s' hr=>done hr) fun _ _ e=>e
    · rename_i hpl
      refine wpAny_bind (wpAny_pure ?_)
      simp only [↓reduceIte]
      exact wpAny_mono (fin t1 (hled.trans hE.led) (by simpa using hpl) hfits) (fun r s' hr=>done hr) fun _ _ e=>e
noncomputable def dd (val:Nat→Str):Nat→List Str
  | 0=>[]
  | i + 1=>if val i∈dd val i then dd val i else dd val i++[val i]
theorem SetS.at' {h h':Heap} {a:Addr} {D:List Str} (hS:SetS prog w led h a D) (k:∀ o,h.get? a=some o→h'.get? a=some o):SetS prog w led h' a D:=by
  obtain ⟨o,es,ep,t,ho,hE⟩:=hS
  exact ⟨o,es,ep,t,k o ho,hE⟩
set_option maxHeartbeats 3200000 in
end
end Mi
end
section
namespace PySem.F
end PySem.F
namespace Mi
open PySem PySem.Spec PyProof.Rows L2
section
variable {M:Model} {A:Around} {E:Value→Shared→Prop} {s:Shared}
end
section
variable {prog:Program} {w:World} {A:Around} {E:Value→Shared→Prop} {s:Shared}
noncomputable def ZdX (h:Heap) (it a:Addr) (first:Value) (i n ep:Nat):Prop:=∃ o,h.get? it=some o∧o.cls = .type "set_iterator"∧o.data = .fields #[first,.int i 0,.ref a,.int n 0,.int ep 0]
theorem ZdX.typeIs {it a:Addr} {first:Value} {i n ep:Nat} (h:ZdX s.heap it a first i n ep):s.TypeIs (.ref it) "set_iterator":=let ⟨o,ho,hc,_⟩:=h; ⟨o,ho,hc⟩
end
end Mi
end
section
namespace PySem.F
end PySem.F
namespace Mi
open PySem PySem.Spec PyProof.Rows L2
section
variable {prog:Program} {w:World} {A:Around} {E:Value→Shared→Prop} {s:Shared}
theorem ZdX.at' {h h':Heap} {it a:Addr} {f0:Value} {i n ep:Nat} (x:ZdX h it a f0 i n ep) (k:∀ o,h.get? it=some o→h'.get? it=some o):ZdX h' it a f0 i n ep:=let ⟨o,ho,r⟩:=x; ⟨o,k o ho,r⟩
inductive SetIt (w:World) (h:Heap) (it a tp:Addr) (vs:List Value) (i:Nat):Prop where
  | drawn {o:Obj} {es:Array (Int×Value)} {ep:Nat} {t:SetTable} {pl:Array Value}:ZdX h it a (.ref tp) i es.size ep→h.get? a=some o→o.data = .set es ep t→t.fits es.size=true→h.IsTuple tp pl →
      (∀ (k:Nat) v,vs[k]? = some v→∃ (pp:Nat) (e:Int×Value),pl[k]? = some (.int pp 0)∧es[pp]? = some e∧e.2=v)→pl.size=vs.length→SetIt w h it a tp vs i
  | text {o:Obj} {es:Array (Int×Value)} {ep:Nat} {t:SetTable}:w.params.followText "set-order" = true→ZdX h it a (.int (0:Nat) 0) i es.size ep→h.get? a=some o→o.data = .set es ep t→t.fits es.size=true →
      vs=(pickOrder (w.params.setOrder a ep) es).toList.map (·.2)→SetIt w h it a tp vs i
  | few {o:Obj} {es:Array (Int×Value)} {ep:Nat} {t:SetTable} {sl:Nat}:w.params.followText "set-order" = false→t.led=true→ZdX h it a (.int sl 0) i es.size ep→h.get? a=some o→o.data = .set es ep t→t.fits es.size=true→es.size≤1 →
      vs=es.toList.map (·.2)→(i=0∧sl=0∨i=1∧es.size=1∧∃ j,t.place = #[j]∧sl=j + 1)→SetIt w h it a tp vs i
theorem SetIt.at' {h h':Heap} {it a tp:Addr} {vs:List Value} {i:Nat} (x:SetIt w h it a tp vs i) (k:∀ b∈[it,a,tp],∀ o,h.get? b=some o→h'.get? b=some o):SetIt w h' it a tp vs i:=by
  cases x with
  | drawn h1 h2 h3 h4 h5 h6 h7=>exact .drawn (h1.at' (k it (by simp))) (k a (by simp) _ h2) h3 h4 (let ⟨o,ho,r⟩:=h5; ⟨o,k tp (by simp) o ho,r⟩) h6 h7
  | text h0 h1 h2 h3 h4 h5=>exact .text h0 (h1.at' (k it (by simp))) (k a (by simp) _ h2) h3 h4 h5
  | few h0 hl h1 h2 h3 h4 h5 h6 h7=>exact .few h0 hl (h1.at' (k it (by simp))) (k a (by simp) _ h2) h3 h4 h5 h6 h7
end
end Mi
end
section
namespace Mi
open PySem
inductive T where
  | non | bl (b:Bool) | int (i:Int) | str (cs:List Nat)
  | tup (ts:List T) | lst (ts:List T)
  | dct (ks:List L2.Key) (ts:List T)
  | scr (ns:List Int)
  deriving Inhabited
inductive W where
  | t (x:T) | c (i:Nat) | f (a:Nat) | x (cls:Nat) (nms:List Str) (ts:List T)
  deriving Inhabited
noncomputable abbrev Mem:=List (Option (Bool×List T))
structure Exc where
  cls:Nat
  nms:List Str
  flds:List T
inductive Res (a:Type) where
  | ok (x:a) (m:Mem) | exc (x:Exc) (m:Mem) | stuck
noncomputable def Res.bind {a b:Type} (r:Res a) (f:a→Mem→Res b):Res b:=match r with
  | .ok x m=>f x m
  | .exc x m=>.exc x m
  | .stuck=>.stuck
noncomputable abbrev Env:=List (Option W)
inductive B where
  | len | int | str | tuple | list | all | any | sum | min2 | max2 | sortset | sorted | dict | range1 | range2 | enum | zip2
  | bool | dget | din | dnot | zip4 | lenset | minl | isbis | maxl
  deriving DecidableEq
inductive Mt where
  | join | upper | append | pop | popat | insert | clear | count | get | index | split | partition | extend | reverse
  deriving DecidableEq
inductive Ty where
  | int | bool | str | tuple | list | dict
  deriving DecidableEq
inductive Tg where
  | nm (i:Nat) | tp (is:List Nat)
  deriving DecidableEq
mutual
inductive E where
  | var (i:Nat) | gl (k:Nat) | con (x:T)
  | bin (op:Operator) (a b:E) | neg (a:E) | not (a:E)
  | and (a b:E) | or (a b:E) | one (a:E)
  | cmp (op:CmpOp) (a b:E) | chn (op op':CmpOp) (a b c:E)
  | ite (c a b:E)
  | tup (es:Es) | lst (es:Es) | cel (es:Es) | celL (a:E) | celA (a b:E) | dsp (ks vs:Es)
  | ix (a b:E) | slc (a lo hi:E) | rev (a:E) | hole
  | call (f:Nat) (es:Es) | blt (b:B) (es:Es) | mth (b:Mt) (o:E) (es:Es)
  | isi (a:E) (ty:Ty)
  | comp (own:Nat) (keep:List Nat) (it:E) (tg:Tg) (cs:Es) (inner:E)
  | more (it:E) (tg:Tg) (cs:Es) (inner:E)
  | emit (a:E)
  | tr (a:E)
  | fnv (j:Nat) | callV (i:Nat) (tab:List (Nat×Nat)) (es:Es)
  | xat (a:E) (cs:List Nat) (nm:Str) | xis (a:E) (yes no:List Nat)
  | fst (es:Es) | gdg (k:Nat) (e:E) | gdn (k:Nat) (neg:Bool) (e:E) | dsn (ks:List (List Nat)) (vs:Es)
inductive Es where
  | nil | cons (e:E) (es:Es)
end
noncomputable def Zr:E→Bool
  | .hole=>true
  | _=>false
inductive S where
  | done
  | asg (i:Nat) (e:E) (k:S)
  | asgT (is:List Nat) (e:E) (k:S)
  | asgC (i:Nat) (e:E) (k:S)
  | set (o i v:E) (k:S)
  | aug (i:Nat) (op:Operator) (e:E) (k:S)
  | ife (c:E) (a b k:S)
  | forr (tg:Tg) (it:E) (body k:S)
  | whil (c:E) (body k:S)
  | ret (e:E) (k:S) | retN (k:S)
  | expr (e:E) (k:S) | pass (k:S) | brk (k:S) | cont (k:S)
  | rse (c:Nat) (nms:List Str) (es:Es) (k:S) | stk
  | tri (b:S) (yes:List Nat) (nm:Option Nat) (h k:S)
noncomputable def lim:Nat:=1000000
noncomputable def nlt:List Nat→List Nat→Bool
  | [],[]=>false
  | [],_ :: _=>true
  | _ :: _,[]=>false
  | a :: x,b :: y=>if a < b then true else if b < a then false else nlt x y
noncomputable def b2i (b:Bool):Int:=if b then 1 else 0
mutual
noncomputable def eqT:T→T→Bool
  | .non,.non=>true
  | .bl a,.bl b=>a == b
  | .bl a,.int b=>b2i a == b
  | .int a,.bl b=>a == b2i b
  | .int a,.int b=>a == b
  | .str a,.str b=>a == b
  | .tup a,.tup b=>eqTs a b
  | .lst a,.lst b=>eqTs a b
  | _,_=>false
noncomputable def eqTs:List T→List T→Bool
  | [],[]=>true
  | a :: x,b :: y=>eqT a b && eqTs x y
  | _,_=>false
end
mutual
noncomputable def Zg:Nat→T→Bool
  | _,.non=>true
  | _,.bl _=>true
  | _,.int _=>true
  | _,.str cs=>PyData.strOk ⟨cs.toArray⟩
  | n + 1,.tup ts=>Qh n ts
  | n + 1,.lst ts=>Qh n ts
  | _,_=>false
noncomputable def Qh:Nat→List T→Bool
  | _,[]=>true
  | n,t :: ts=>Zg n t && Qh n ts
end
noncomputable def flat:T→Bool
  | .non | .bl _ | .int _ | .str _=>true
  | _=>false
mutual
noncomputable def eqok:Nat→T→Bool
  | _,.non=>true
  | _,.bl _=>true
  | _,.int _=>true
  | _,.str _=>true
  | n + 1,.tup ts=>ZkS n ts
  | n + 1,.lst ts=>ZkS n ts
  | _,_=>false
noncomputable def ZkS:Nat→List T→Bool
  | _,[]=>true
  | n,t :: ts=>eqok n t && ZkS n ts
end
noncomputable def ZbW:T→Bool
  | .non=>false
  | .bl b=>b
  | .int i=>i != 0
  | .str cs=>!cs.isEmpty
  | .tup ts=>!ts.isEmpty
  | .lst ts=>!ts.isEmpty
  | .dct ks _=>!ks.isEmpty
  | .scr ns=>!ns.isEmpty
noncomputable def ixOf (n:Nat) (i:Int):Option Nat:=if 0≤i then (if i < n then some i.toNat else none) else if -(n:Int)≤i then some (i + n).toNat else none
noncomputable def atT {a:Type} (xs:List a) (i:Int):Option a:=(ixOf xs.length i).bind fun j=>xs[j]?
noncomputable def Zes (n d:Nat):Option Int→Nat
  | none=>d
  | some i=>if i < 0 then (i + n).toNat else min i.toNat n
noncomputable def cut {a:Type} (xs:List a) (lo hi:Option Int):List a :=
  (xs.drop (Zes xs.length 0 lo)).take (Zes xs.length xs.length hi - Zes xs.length 0 lo)
noncomputable def repT {a:Type} (xs:List a) (k:Nat):List a:=(List.replicate k xs).flatten
noncomputable def bigN:Nat:=(2 ^ 250) ^ 8
noncomputable def small (i:Int):Bool:=decide (i.natAbs < 2 ^ 64)
noncomputable def Xk (i j:Int):Bool:=small i || small j || (decide (i.natAbs < bigN) && decide (j.natAbs < bigN))
noncomputable def addT:T→T→Option T
  | .int i,.int j=>some (.int (i + j))
  | .str a,.str b=>if a.length + b.length≤lim then some (.str (a++b)) else none
  | .tup a,.tup b=>if a.length + b.length≤lim then some (.tup (a++b)) else none
  | .lst a,.lst b=>if a.length + b.length≤lim then some (.lst (a++b)) else none
  | _,_=>none
noncomputable def mulT (x y:T):Option T:=match y with
  | .int k=>match x with
    | .int i=>if Xk i k then some (.int (i * k)) else none
    | .tup a=>if (-(lim:Int)≤k∧k≤lim)∧a.length * k.toNat≤lim then some (.tup (repT a k.toNat)) else none
    | .lst a=>if (-(lim:Int)≤k∧k≤lim)∧a.length * k.toNat≤lim then some (.lst (repT a k.toNat)) else none
    | .str a=>if (0≤k∧k≤64)∧a.length≤1000 then some (.str (repT a k.toNat)) else none
    | _=>none
  | _=>none
noncomputable def intT (f:Int→Int→Option T) (x y:T):Option T:=match x with
  | .int i=>match y with
    | .int j=>f i j
    | _=>none
  | _=>none
noncomputable def binT (op:Operator) (x y:T):Option T :=
  match op with
  | .Add=>addT x y
  | .Sub=>intT (fun i j=>some (.int (i - j))) x y
  | .Mult=>mulT x y
  | .FloorDiv=>intT (fun i j=>if 0 < j∧j < 1073741824 then some (.int (i / j)) else none) x y
  | .Mod=>intT (fun i j=>if 0 < j then some (.int (i % j)) else none) x y
  | .Pow=>intT (fun i j=>if 0≤j∧j≤1000∧i.natAbs < 2 ^ 64 then some (.int (i ^ j.toNat)) else none) x y
  | _=>none
noncomputable def augT (op:Operator) (x y:T):Option T :=
  match op,x,y with
  | .Add,.int i,.int j=>some (.int (i + j))
  | .Sub,.int i,.int j=>some (.int (i - j))
  | _,_,_=>none
noncomputable def Zcr (x y:T):Bool:=match x,y with
  | .bl _,.int _=>false
  | .int _,.bl _=>false
  | x,y=>flat x && flat y
noncomputable def hasT (x:T) (y:T):Option Bool :=
  match y with
  | .tup ts=>if flat x && ts.all flat then some (ts.any fun t=>eqT t x) else none
  | .lst ts=>if flat x && ts.all flat then some (ts.any fun t=>eqT t x) else if Zg 59 x && Qh 59 ts then some (ts.any fun t=>eqT t x) else none
  | _=>none
noncomputable def ZbS (f:Int→Int→Bool) (x y:T):Option Bool:=match x with
  | .int i=>match y with
    | .int j=>some (f i j)
    | _=>none
  | _=>none
noncomputable def ltT (x y:T):Option Bool:=match x with
  | .int i=>match y with
    | .int j=>some (decide (i < j))
    | _=>none
  | .str a=>match y with
    | .str b=>some (nlt a b)
    | _=>none
  | _=>none
noncomputable def inT (x y:T):Option Bool:=match x with
  | .str [a]=>match y with
    | .str b=>some (decide (a∈b))
    | y=>hasT (.str [a]) y
  | .str (a :: a' :: r)=>match y with
    | .str b=>some (!(Builtin.Str.occurrences ⟨b.toArray⟩ ⟨(a :: a' :: r).toArray⟩ 0 b.length 1).isEmpty)
    | y=>hasT (.str (a :: a' :: r)) y
  | x=>hasT x y
noncomputable def sameT (x y:T):Option Bool:=match y with
  | .non=>some (match x with | .non=>true | _=>false)
  | .bl b=>some (match x with | .bl a=>a == b | _=>false)
  | _=>none
noncomputable def cmpT (op:CmpOp) (x y:T):Option Bool :=
  match op with
  | .Lt=>ltT x y
  | .LtE=>ZbS (fun i j=>decide (i≤j)) x y
  | .Gt=>ZbS (fun i j=>decide (j < i)) x y
  | .GtE=>ZbS (fun i j=>decide (j≤i)) x y
  | .Eq=>if Zcr x y || (Zg 60 x && Zg 60 y) then some (eqT x y) else none
  | .NotEq=>if Zcr x y || (Zg 60 x && Zg 60 y) then some (!eqT x y) else none
  | .In=>inT x y
  | .NotIn=>(inT x y).map (!·)
  | .Is=>sameT x y
  | .IsNot=>(sameT x y).map (!·)
noncomputable def isT (x:T) (ty:Ty):Bool :=
  match x,ty with
  | .int _,.int=>true
  | .bl _,.int=>true
  | .bl _,.bool=>true
  | .str _,.str=>true
  | .tup _,.tuple=>true
  | .lst _,.list=>true
  | .scr _,.list=>true
  | .dct _ _,.dict=>true
  | _,_=>false
noncomputable def ixT (x i:T):Option T :=
  match x,i with
  | .tup ts,.int k=>atT ts k
  | .lst ts,.int k=>atT ts k
  | .scr ns,.int k=>(atT ns k).map .int
  | .str cs,.int k=>if cs.length≤lim then (atT cs k).map fun c=>.str [c] else none
  | _,_=>none
noncomputable def slT (x:T) (lo hi:Option Int):Option T :=
  match x with
  | .tup ts=>some (.tup (cut ts lo hi))
  | .lst ts=>some (.lst (cut ts lo hi))
  | .scr ns=>some (.lst ((cut ns lo hi).map .int))
  | .str cs=>if cs.length≤lim then some (.str (cut cs lo hi)) else none
  | _=>none
noncomputable def insT (x:List Nat):List (List Nat)→List (List Nat)
  | []=>[x]
  | y :: r=>if nlt x y then x :: y :: r else if nlt y x then y :: insT x r else y :: r
noncomputable def Zgn (xs:List (List Nat)):List (List Nat):=xs.foldr insT []
noncomputable def insN (x:List Nat):List (List Nat)→List (List Nat)
  | []=>[x]
  | y :: r=>if nlt y x then y :: insN x r else x :: y :: r
noncomputable def sortN (xs:List (List Nat)):List (List Nat):=xs.foldr insN []
noncomputable def strs? : List T→Option (List (List Nat))
  | []=>some []
  | .str c :: r=>(strs? r).map (c :: ·)
  | _=>none
noncomputable def ints? : List T→Option (List Int)
  | []=>some []
  | .int c :: r=>(ints? r).map (c :: ·)
  | _=>none
noncomputable def bools? : List T→Option (List Bool)
  | []=>some []
  | .bl c :: r=>(bools? r).map (c :: ·)
  | _=>none
noncomputable def QS (sep:List Nat):List (List Nat)→List Nat
  | []=>[]
  | [x]=>x
  | x :: r=>x++sep++QS sep r
noncomputable def upN (c:Nat):Nat:=if 97≤c∧c≤122 then c - 32 else c
noncomputable def asciiN (c:Nat):Bool:=decide (c < 128)
noncomputable def decI (i:Int):List Nat:=(Str.ofString (toString i)).cps.toList
noncomputable def rangeT (lo:Int) (n:Nat):List T:=(List.range n).map fun k:Nat=>.int (lo + (k:Int))
noncomputable def Qc (c:Nat):List Nat→List (List Nat)
  | []=>[[]]
  | a :: r=>if a=c then [] :: Qc c r else match Qc c r with
    | x :: xs=>(a :: x) :: xs
    | []=>[[a]]
noncomputable def fmtT:T→Option (List Nat)
  | .str cs=>some cs
  | .int i=>if i.natAbs < 2 ^ 250 then some (decI i) else none
  | _=>none
noncomputable def ZeU:T→Option (List T)
  | .tup ts=>some ts
  | .lst ts=>some ts
  | .scr ns=>some (ns.map .int)
  | .str cs=>if cs.length≤lim then some (cs.map fun c=>.str [c]) else none
  | _=>none
noncomputable def view (w:W) (m:Mem):Option T:=match w with
  | .t x=>some x
  | .f _=>none
  | .x _ _ _=>none
  | .c i=>match m[i]? with
    | some (some (_,ts))=>some (.lst ts)
    | _=>none
noncomputable def pur (o:Option T) (m:Mem):Res W:=match o with
  | some t=>.ok (.t t) m
  | none=>.stuck
noncomputable def frz (w:W) (m:Mem):Res T:=match w with
  | .t x=>.ok x m
  | .f _=>.stuck
  | .x _ _ _=>.stuck
  | .c i=>match m[i]? with
    | some (some (false,ts))=>.ok (.lst ts) (m.set i none)
    | _=>.stuck
noncomputable def frzs:List W→Mem→Res (List T)
  | [],m=>.ok [] m
  | w :: ws,m=>(frz w m).bind fun t m=>(frzs ws m).bind fun ts m=>.ok (t :: ts) m
noncomputable def views:List W→Mem→Option (List T)
  | [],_=>some []
  | w :: ws,m=>(view w m).bind fun t=>(views ws m).map (t :: ·)
noncomputable def Qd (w:W) (m:Mem):Res (List T):=match w with
  | .f _=>.stuck
  | .x _ _ _=>.stuck
  | .t x=>match ZeU x with
    | some ts=>.ok ts m
    | none=>.stuck
  | .c i=>match m[i]? with
    | some (some (_,ts))=>.ok ts (m.set i (some (true,ts)))
    | _=>.stuck
noncomputable def giveBack (w:W) (m0 m:Mem):Mem:=match w with
  | .t _=>m
  | .f _=>m
  | .x _ _ _=>m
  | .c i=>match m0[i]? with
    | some c=>m.set i c
    | none=>m
noncomputable def J1 (tg:Tg) (t:T) (env:Env):Option Env:=match tg with
  | .nm i=>some (env.set i (some (.t t)))
  | .tp is=>match t with
    | .tup ts=>if ts.length=is.length then some ((is.zip ts).foldl (fun env p=>env.set p.1 (some (.t p.2))) env) else none
    | _=>none
noncomputable def one1 (f:T→Option T):List T→Option T
  | [x]=>f x
  | _=>none
noncomputable def two2 (f:Int→Int→Option T):List T→Option T
  | [.int i,.int j]=>f i j
  | _=>none
noncomputable def bLen:T→Option T
  | .str cs=>if cs.length≤lim then some (.int cs.length) else none
  | .tup ts=>some (.int ts.length)
  | .lst ts=>some (.int ts.length)
  | .scr ns=>some (.int ns.length)
  | _=>none
noncomputable def figV (cs:List Nat):Int:=((cs.foldl (fun n c=>n * 10 + (c - 48)) 0:Nat):Int)
noncomputable def bInt:T→Option T
  | .int i=>some (.int i)
  | .bl b=>some (.int (b2i b))
  | .str cs=>if cs≠[]∧cs.length≤600∧cs.all (fun c=>decide (48≤c) && decide (c≤57))=true then some (.int (figV cs)) else none
  | _=>none
noncomputable def bStr:T→Option T
  | .int i=>if i.natAbs < 2 ^ 250 then some (.str (decI i)) else none
  | _=>none
noncomputable def bTup:T→Option T
  | .tup ts=>some (.tup ts)
  | .lst ts=>some (.tup ts)
  | .str cs=>if cs.length≤lim then some (.tup (cs.map fun c=>.str [c])) else none
  | _=>none
noncomputable def bLst:T→Option T
  | .tup ts=>some (.lst ts)
  | .lst ts=>some (.lst ts)
  | _=>none
noncomputable def Zee (f:List T→Option T):T→Option T
  | .lst ts=>f ts
  | _=>none
noncomputable def bRng:T→Option T
  | .int i=>if i < 2 ^ 62∧-(2 ^ 62)≤i then some (.lst (rangeT 0 i.toNat)) else none
  | _=>none
noncomputable def zipL (xs ys:List T):List T:=List.zipWith (fun x y=>.tup [x,y]) xs ys
noncomputable def zipT:List T→Option T
  | [.tup xs,.tup ys]=>if xs.length=ys.length∧xs.length≤lim then some (.lst (zipL xs ys)) else none
  | _=>none
noncomputable def Zf8 (a b c d:List T):List T:=(a.zip (b.zip (c.zip d))).map fun p=>.tup [p.1,p.2.1,p.2.2.1,p.2.2.2]
noncomputable def zip4T:List T→Option T
  | [.lst a,.lst b,.lst c,.lst d]=>if (a.length=b.length∧a.length=c.length∧a.length=d.length)∧a.length≤lim then some (.lst (Zf8 a b c d)) else none
  | _=>none
noncomputable def ZfU (xs:List T):List T:=List.zipWith (fun (k:Nat) x=>T.tup [.int (k:Int),x]) (List.range xs.length) xs
noncomputable def lensT (ts:List T):Option T:=(strs? ts).bind fun xs=>if xs.length < 64 then some (.int ((Zgn xs).length:Int)) else none
noncomputable def minI (n:Int) (ns:List Int):Int:=ns.foldl (fun a b=>if b < a then b else a) n
noncomputable def minlT (ts:List T):Option T:=(ints? ts).bind fun ns=>match ns with
  | []=>none
  | n :: r=>if r.length < 64 then some (.int (minI n r)) else none
noncomputable def maxI (n:Int) (ns:List Int):Int:=ns.foldl (fun a b=>if a < b then b else a) n
noncomputable def maxlT (ts:List T):Option T:=(ints? ts).bind fun ns=>match ns with
  | []=>none
  | n :: r=>if r.length < 64 then some (.int (maxI n r)) else none
noncomputable def bIsb:T→Option T
  | .bl _=>some (.bl true)
  | .int _=>some (.bl true)
  | .str _=>some (.bl true)
  | _=>none
noncomputable def keyT:T→Option L2.Key
  | .int i=>some (.inl i)
  | .str cs=>some (.inr ⟨cs.toArray⟩)
  | _=>none
noncomputable def pairs? : List T→Option (List (List Nat×T))
  | []=>some []
  | .tup [.str k,v] :: ts=>(pairs? ts).map ((k,v) :: ·)
  | _=>none
noncomputable def dctT (ps:List (List Nat×T)):T:=.dct (ps.map fun p=>.inr ⟨p.1.toArray⟩) (ps.map (·.2))
noncomputable def bDict:T→Option T
  | .tup ts=>(pairs? ts).bind fun ps=>if ts.length≤lim∧(ps.map (·.1)).Nodup then some (dctT ps) else none
  | _=>none
noncomputable def Qs (ks:List L2.Key) (ts:List T) (k:L2.Key):Option T:=((ks.zip ts).find? fun p=>decide (p.1=k)).map (·.2)
noncomputable def dGetT:List T→Option T
  | [.dct ks vs,x]=>(keyT x).bind (Qs ks vs)
  | _=>none
noncomputable def dInT (neg:Bool):List T→Option T
  | [x,.dct ks vs]=>(keyT x).map fun k=>.bl (if neg then !(Qs ks vs k).isSome else (Qs ks vs k).isSome)
  | _=>none
noncomputable def gDct (o:Option T) (f:List L2.Key→List T→Option T):Option T:=match o with
  | some (.dct ks vs)=>f ks vs
  | _=>none
noncomputable def Zkv (f:List T→Option T):T→Option T
  | .lst ts=>f ts
  | .tup ts=>f ts
  | _=>none
noncomputable def bltT (b:B) (ts:List T):Option T :=
  match b with
  | .len=>one1 bLen ts
  | .int=>one1 bInt ts
  | .str=>one1 bStr ts
  | .tuple=>one1 bTup ts
  | .list=>one1 bLst ts
  | .all=>one1 (Zkv fun ts=>(bools? ts).map fun bs=>.bl (bs.all id)) ts
  | .any=>one1 (Zkv fun ts=>(bools? ts).map fun bs=>.bl (bs.any id)) ts
  | .sum=>one1 (Zee fun ts=>(ints? ts).map fun ns=>.int ns.sum) ts
  | .sortset=>one1 (Zee fun ts=>(strs? ts).bind fun xs=>if xs.length < 64 then some (.lst ((Zgn xs).map .str)) else none) ts
  | .sorted=>one1 (Zee fun ts=>(strs? ts).bind fun xs=>if xs.length < 64 then some (.lst ((sortN xs).map .str)) else none) ts
  | .min2=>two2 (fun i j=>some (.int (if j < i then j else i))) ts
  | .max2=>two2 (fun i j=>some (.int (if j > i then j else i))) ts
  | .range1=>one1 bRng ts
  | .zip2=>zipT ts
  | .dict=>one1 bDict ts
  | .zip4=>zip4T ts
  | .enum=>one1 (Zee fun ts=>if ts.length≤lim then some (.lst (ZfU ts)) else none) ts
  | .lenset=>one1 (Zkv lensT) ts
  | .minl=>one1 (Zee minlT) ts
  | .maxl=>one1 (Zee maxlT) ts
  | .isbis=>one1 bIsb ts
  | .dget=>dGetT ts
  | .din=>dInT false ts
  | .dnot=>dInT true ts
  | .range2=>two2 (fun i j=>if (i < 2 ^ 62∧-(2 ^ 62)≤i)∧j < 2 ^ 62∧-(2 ^ 62)≤j then some (.lst (rangeT i (j - i).toNat)) else none) ts
  | _=>none
noncomputable def ofBl (f:Bool→Option T):T→Option T
  | .bl b=>f b
  | _=>none
noncomputable def idxT (xs:List T) (b:Bool):Option T:=(bools? xs).bind fun bs=>if bs.length≤lim then (bs.findIdx? (· == b)).map fun k=>.int (k:Int) else none
noncomputable def cntT (xs:List T) (b:Bool):Option T:=(bools? xs).bind fun bs=>if bs.length≤lim then some (.int ((bs.countP (· == b):Nat):Int)) else none
noncomputable def cntS (xs:List T) (b:List Nat):Option T:=(strs? xs).bind fun bs=>if bs.length≤lim then some (.int ((bs.countP (· == b):Nat):Int)) else none
noncomputable def cntO (xs:List T):T→Option T
  | .bl b=>cntT xs b
  | .str b=>cntS xs b
  | _=>none
noncomputable def mthT (b:Mt) (o:T) (ts:List T):Option T :=
  match b with
  | .join=>match o with
    | .str sep=>one1 (Zee fun xs=>(strs? xs).bind fun ys=>if (ys.map List.length).sum + ys.length * sep.length≤lim then some (.str (QS sep ys)) else none) ts
    | _=>none
  | .index=>match o with
    | .lst xs=>one1 (ofBl (idxT xs)) ts
    | _=>none
  | .count=>match o with
    | .lst xs=>one1 (cntO xs) ts
    | _=>none
  | .get=>match o with
    | .dct ks vs=>one1 (fun x=>(keyT x).map fun k=>(Qs ks vs k).getD .non) ts
    | _=>none
  | .split=>match o with
    | .str cs=>match ts with
      | [.str [c]]=>if cs.length≤900000 then some (.lst ((Qc c cs).map .str)) else none
      | _=>none
    | _=>none
  | .upper=>match o with
    | .str cs=>match ts with
      | []=>if cs.all asciiN && decide (cs.length≤lim) then some (.str (cs.map upN)) else none
      | _=>none
    | _=>none
  | _=>none
noncomputable def mutM (b:Mt) (xs:List T) (ts:List T):Option (T×List T) :=
  match b,ts with
  | .append,[t]=>if xs.length < lim then some (.non,xs++[t]) else none
  | .popat,[.int i]=>match ixOf xs.length i with
    | some k=>(xs[k]?).map fun t=>(t,xs.eraseIdx k)
    | none=>none
  | .pop,[]=>match xs.getLast? with
    | some t=>some (t,xs.dropLast)
    | none=>none
  | _,_=>none
noncomputable def doM (b:Mt) (o:W) (ws:List W) (m:Mem):Res W:=match b with
  | .append | .pop | .popat | .insert | .clear | .extend | .reverse=>match o with
    | .c i=>(frzs ws m).bind fun ts m=>match m[i]? with
      | some (some (false,xs))=>match mutM b xs ts with
        | some (t,ys)=>.ok (.t t) (m.set i (some (false,ys)))
        | none=>.stuck
      | _=>.stuck
    | .t _=>.stuck
    | .f _=>.stuck
    | .x _ _ _=>.stuck
  | _=>pur ((view o m).bind fun x=>(views ws m).bind fun ts=>mthT b x ts) m
noncomputable def addC (x y:W) (m:Mem):Res W:=match (view x m).bind fun x=>(view y m).bind fun y=>addT x y with
  | some (.lst ts)=>.ok (.c m.length) (m++[some (false,ts)])
  | _=>.stuck
noncomputable def setM (o i v:W) (m:Mem):Res Unit:=match o,i with
  | .c c,.t (.int k)=>(frz v m).bind fun t m=>match m[c]? with
    | some (some (false,xs))=>match ixOf xs.length k with
      | some j=>.ok () (m.set c (some (false,xs.set j t)))
      | none=>.stuck
    | _=>.stuck
  | _,_=>.stuck
noncomputable def intP (w:W) (m:Mem):Res (Option Int):=match w with
  | .t (.int i)=>.ok (some i) m
  | _=>.stuck
noncomputable def dspT (ks vs:List W) (m:Mem):Res W:=match ks,vs with
  | [],[]=>.ok (.t (.dct [] [])) m
  | [.t k],[.t v]=>match keyT k with
    | some kk=>.ok (.t (.dct [kk] [v])) m
    | none=>.stuck
  | _,_=>.stuck
noncomputable def tyM (b:Mt) (w:W) (m:Mem):Bool:=match b with
  | .join | .upper | .split | .partition=>match view w m with
    | some (.str _)=>true
    | _=>false
  | .append | .pop | .popat | .insert | .clear | .extend | .reverse=>match w with
    | .c i=>match m[i]? with
      | some (some _)=>true
      | _=>false
    | _=>false
  | .count | .index=>match view w m with
    | some (.lst _)=>true
    | _=>false
  | .get=>match view w m with
    | some (.dct _ _)=>true
    | _=>false
noncomputable def JD (f:Env→Mem→Res (List T)) (tg:Tg):List T→Env→Mem→Res (List T)
  | [],_,m=>.ok [] m
  | t :: ts,env,m=>match J1 tg t env with
    | none=>.stuck
    | some env'=>(f env' m).bind fun xs m=>(JD f tg ts env m).bind fun ys m=>.ok (xs++ys) m
noncomputable def Res.only {a:Type} (r:Res a):Res a:=match r with
  | .exc _ _=>.stuck
  | r=>r
inductive Flow where
  | next (env:Env) | ret (w:W) | brk (env:Env) | cont (env:Env)
noncomputable def Ja (f:Env→Mem→Res Flow) (tg:Tg):List T→Env→Mem→Res Flow
  | [],env,m=>.ok (.next env) m
  | t :: ts,env,m=>match J1 tg t env with
    | none=>.stuck
    | some env=>(f env m).bind fun fl m=>match fl with
      | .next env=>Ja f tg ts env m
      | .cont env=>Ja f tg ts env m
      | .brk env=>.ok (.next env) m
      | .ret w=>.ok (.ret w) m
noncomputable def QH (c:Env→Mem→Res Bool) (f:Env→Mem→Res Flow):Nat→Env→Mem→Res Flow
  | 0,_,_=>.stuck
  | n + 1,env,m=>(c env m).bind fun b m=>if b then (f env m).bind fun fl m=>match fl with
      | .next env=>QH c f n env m
      | .cont env=>QH c f n env m
      | .brk env=>.ok (.next env) m
      | .ret w=>.ok (.ret w) m
    else .ok (.next env) m
noncomputable def turns:Nat:=1000000
noncomputable def fitT:T→Bool
  | .str cs=>decide (cs.length≤lim)
  | _=>true
noncomputable def Qa (w:W) (m:Mem):Res Bool:=match view w m with
  | some t=>if fitT t then .ok (ZbW t) m else .stuck
  | none=>.stuck
noncomputable def ZbK (w:W) (m:Mem):Res Bool:=match w with
  | .t (.bl b)=>.ok b m
  | _=>.stuck
noncomputable def ZcM (w:W) (m:Mem):Res (List T):=match w with
  | .t (.lst ts)=>.ok ts m
  | _=>.stuck
noncomputable def xatT (cs:List Nat) (nm:Str) (x:W):Option T:=match x with
  | .x c nms ts=>if c∈cs then (nms.zip ts).lookup nm else none
  | _=>none
noncomputable def xisT (yes no:List Nat) (x:W):Option T:=match x with
  | .x c _ _=>if c∈yes then some (.bl true) else if c∈no then some (.bl false) else none
  | _=>none
noncomputable def hEnv (n:Nat) (nm:Option Nat) (x:Exc):Env:=match nm with
  | some i=>(List.replicate n none).set i (some (.x x.cls x.nms x.flds))
  | none=>List.replicate n none
noncomputable def unE (nm:Option Nat) (env:Env):Env:=match nm with
  | some i=>env.set i none
  | none=>env
noncomputable def fmtW (acc:List Nat) (w:W) (m:Mem):Res (List Nat):=match (view w m).bind fmtT with
  | some a=>if acc.length + a.length≤lim then .ok (acc++a) m else .stuck
  | none=>.stuck
noncomputable def treeW (w:W) (m:Mem):Res W:=match w with
  | .t x=>.ok (.t x) m
  | .c _=>.stuck
  | .f _=>.stuck
  | .x _ _ _=>.stuck
noncomputable def Zg7 (gv:List T) (a:Nat):List (Nat×Nat)→Option Nat
  | []=>none
  | (j,k) :: r=>match gv[j]? with
    | some (.int b)=>if b=(a:Int) then some k else Zg7 gv a r
    | _=>Zg7 gv a r
section
variable (call:Nat→List W→Mem→Res W) (gv:List T)
mutual
noncomputable def ev:E→Env→Mem→Res W
  | .var i,env,m=>match env[i]? with
    | some (some w)=>.ok w m
    | _=>.stuck
  | .gl k,_,m=>pur gv[k]? m
  | .con t,_,m=>.ok (.t t) m
  | .bin op a b,env,m=>(ev a env m).bind fun x m=>(ev b env m).bind fun y m=>pur ((view x m).bind fun x=>(view y m).bind fun y=>binT op x y) m
  | .neg a,env,m=>(ev a env m).bind fun x m=>pur ((view x m).bind fun x=>match x with
    | .int i=>some (.int (-i))
    | _=>none) m
  | .not a,env,m=>(ev a env m).bind fun x m=>(ZbK x m).bind fun k m=>.ok (.t (.bl (!k))) m
  | .and a b,env,m=>(ev a env m).bind fun x m=>(ZbK x m).bind fun k m=>if k then ev b env m else .ok (.t (.bl false)) m
  | .or a b,env,m=>(ev a env m).bind fun x m=>(ZbK x m).bind fun k m=>if k then .ok (.t (.bl true)) m else ev b env m
  | .one a,env,m=>ev a env m
  | .cmp op a b,env,m=>(ev a env m).bind fun x m=>(ev b env m).bind fun y m=>pur (((view x m).bind fun x=>(view y m).bind fun y=>cmpT op x y).map .bl) m
  | .chn op op' a b c,env,m=>(ev a env m).bind fun x m=>(ev b env m).bind fun y m =>
      match (view x m).bind fun x=>(view y m).bind fun y=>cmpT op x y with
      | some true=>(ev c env m).bind fun z m=>pur (((view y m).bind fun y=>(view z m).bind fun z=>cmpT op' y z).map .bl) m
      | some false=>.ok (.t (.bl false)) m
      | none=>.stuck
  | .ite c a b,env,m=>(ev c env m).bind fun x m=>(Qa x m).bind fun k m=>if k then ev a env m else ev b env m
  | .tup es,env,m=>(evs es env m).bind fun ws m=>(frzs ws m).bind fun ts m=>if ts.length≤lim then .ok (.t (.tup ts)) m else .stuck
  | .lst es,env,m=>(evs es env m).bind fun ws m=>(frzs ws m).bind fun ts m=>if ts.length≤lim then .ok (.t (.lst ts)) m else .stuck
  | .cel es,env,m=>(evs es env m).bind fun ws m=>(frzs ws m).bind fun ts m=>if ts.length≤lim then .ok (.c m.length) (m++[some (false,ts)]) else .stuck
  | .celL a,env,m=>(ev a env m).bind fun x m=>match view x m with
    | some (.lst ts)=>.ok (.c m.length) (m++[some (false,ts)])
    | some (.tup ts)=>.ok (.c m.length) (m++[some (false,ts)])
    | _=>.stuck
  | .celA a b,env,m=>(ev a env m).bind fun x m=>(ev b env m).bind fun y m=>addC x y m
  | .dsp ks vs,env,m=>(evs ks env m).bind fun kw m=>(evs vs env m).bind fun vw m=>dspT kw vw m
  | .ix a b,env,m=>(ev a env m).bind fun x m=>(ev b env m).bind fun y m=>pur ((view x m).bind fun x=>(view y m).bind fun y=>ixT x y) m
  | .slc a lo hi,env,m=>(ev a env m).bind fun x m=>(if Zr lo then Res.ok none m else (ev lo env m).bind intP).bind fun l m =>
      (if Zr hi then Res.ok none m else (ev hi env m).bind intP).bind fun h m=>pur ((view x m).bind fun x=>slT x l h) m
  | .hole,_,m=>.ok (.t .non) m
  | .rev a,env,m=>(ev a env m).bind fun x m=>pur ((view x m).bind fun x=>match x with
    | .tup ts=>some (.tup ts.reverse)
    | .lst ts=>some (.lst ts.reverse)
    | _=>none) m
  | .call f es,env,m=>(evs es env m).bind fun ws m=>call f ws m
  | .blt b es,env,m=>(evs es env m).bind fun ws m=>pur ((views ws m).bind fun ts=>bltT b ts) m
  | .mth b o es,env,m=>(ev o env m).bind fun x m=>if tyM b x m then (evs es env m).bind fun ws m=>doM b x ws m else .stuck
  | .isi a ty,env,m=>(ev a env m).bind fun x m=>pur ((view x m).map fun x=>.bl (isT x ty)) m
  | .comp own keep it tg cs inner,env,m=>(ev it env m).only.bind fun x m0=>(Qd x m0).bind fun ts m =>
      (JD (fun env m=>(tests cs env m).bind fun k m=>if k then (ev inner env m).bind ZcM else .ok [] m) tg ts (List.replicate own none++keep.map fun i=>(env[i]?).join) m).only.bind fun out m =>
        if out.length≤lim then .ok (.t (.lst out)) (giveBack x m0 m) else .stuck
  | .more it tg cs inner,env,m=>(ev it env m).bind fun x m0=>(Qd x m0).bind fun ts m =>
      (JD (fun env m=>(tests cs env m).bind fun k m=>if k then (ev inner env m).bind ZcM else .ok [] m) tg ts env m).bind fun out m=>.ok (.t (.lst out)) (giveBack x m0 m)
  | .emit a,env,m=>(ev a env m).bind fun x m=>(frz x m).bind fun t m=>.ok (.t (.lst [t])) m
  | .tr a,env,m=>(ev a env m).bind treeW
  | .fnv j,_,m=>match gv[j]? with
    | some (.int a)=>.ok (.f a.toNat) m
    | _=>.stuck
  | .callV i tab es,env,m=>match env[i]? with
    | some (some (.f a))=>match Zg7 gv a tab with
      | some k=>(evs es env m).bind fun ws m=>call k ws m
      | none=>.stuck
    | _=>.stuck
  | .xat a cs nm,env,m=>(ev a env m).bind fun x m=>pur (xatT cs nm x) m
  | .xis a yes no,env,m=>(ev a env m).bind fun x m=>pur (xisT yes no x) m
  | .fst es,env,m=>(evf es [] env m).bind fun cs m=>.ok (.t (.str cs)) m
  | .gdg k e,env,m=>(ev e env m).bind fun x m=>pur ((view x m).bind fun x=>gDct gv[k]? fun ks vs=>(keyT x).bind (Qs ks vs)) m
  | .gdn k neg e,env,m=>(ev e env m).bind fun x m=>pur ((view x m).bind fun x=>gDct gv[k]? fun ks vs=>(keyT x).map fun k=>.bl (if neg then !(Qs ks vs k).isSome else (Qs ks vs k).isSome)) m
  | .dsn ks vs,env,m=>(evs vs env m).bind fun ws m=>(frzs ws m).bind fun ts m=>if ks.length=ts.length∧ks.length≤1000∧ks.Nodup then .ok (.t (.dct (ks.map fun k=>.inr ⟨k.toArray⟩) ts)) m else .stuck
noncomputable def evs:Es→Env→Mem→Res (List W)
  | .nil,_,m=>.ok [] m
  | .cons e es,env,m=>(ev e env m).bind fun w m=>(evs es env m).bind fun ws m=>.ok (w :: ws) m
noncomputable def evf:Es→List Nat→Env→Mem→Res (List Nat)
  | .nil,acc,_,m=>.ok acc m
  | .cons e es,acc,env,m=>(ev e env m).bind fun w m=>(fmtW acc w m).bind fun acc m=>evf es acc env m
noncomputable def tests:Es→Env→Mem→Res Bool
  | .nil,_,m=>.ok true m
  | .cons e es,env,m=>(ev e env m).bind fun x m=>(Qa x m).bind fun k m=>if k then tests es env m else .ok false m
end
noncomputable def ex:S→Env→Mem→Res Flow
  | .done,env,m=>.ok (.next env) m
  | .asg i e k,env,m=>(ev call gv e env m).bind fun w m=>ex k (env.set i (some w)) m
  | .asgT is e k,env,m=>(ev call gv e env m).bind fun w m=>match w with
    | .t t=>match J1 (.tp is) t env with
      | some env=>ex k env m
      | none=>.stuck
    | .c _=>.stuck
    | .f _=>.stuck
    | .x _ _ _=>.stuck
  | .asgC i e k,env,m=>(ev call gv e env m).bind fun w m=>match w with
    | .t (.lst ts)=>ex k (env.set i (some (.c m.length))) (m++[some (false,ts)])
    | _=>.stuck
  | .set o i v k,env,m=>(ev call gv v env m).bind fun z m=>(ev call gv o env m).bind fun x m=>(ev call gv i env m).bind fun y m =>
      (setM x y z m).bind fun _ m=>ex k env m
  | .aug i op e k,env,m=>match env[i]? with
    | some (some x)=>(ev call gv e env m).bind fun y m=>(pur ((view x m).bind fun x=>(view y m).bind fun y=>augT op x y) m).bind fun z m=>ex k (env.set i (some z)) m
    | _=>.stuck
  | .ife c a b k,env,m=>(ev call gv c env m).bind fun x m=>(Qa x m).bind fun t m =>
      (if t then ex a env m else ex b env m).bind fun fl m=>match fl with
        | .next env=>ex k env m
        | fl=>.ok fl m
  | .forr tg it body k,env,m=>(ev call gv it env m).bind fun x m0=>(Qd x m0).bind fun ts m =>
      (Ja (fun env m=>ex body env m) tg ts env m).bind fun fl m=>match fl with
        | .next env=>ex k env (giveBack x m0 m)
        | .ret w=>.ok (.ret w) (giveBack x m0 m)
        | _=>.stuck
  | .whil c body k,env,m=>(QH (fun env m=>(ev call gv c env m).bind Qa) (fun env m=>ex body env m) turns env m).bind fun fl m=>match fl with
        | .next env=>ex k env m
        | fl=>.ok fl m
  | .ret e _,env,m=>(ev call gv e env m).bind fun w m=>.ok (.ret w) m
  | .retN _,_,m=>.ok (.ret (.t .non)) m
  | .expr e k,env,m=>(ev call gv e env m).bind fun _ m=>ex k env m
  | .pass k,env,m=>ex k env m
  | .brk _,env,m=>.ok (.brk env) m
  | .cont _,env,m=>.ok (.cont env) m
  | .stk,_,_=>.stuck
  | .rse c nms es _,env,m=>(evs call gv es env m).bind fun ws m=>(frzs ws m).bind fun ts m=>if nms=[] then (if ts.length≤1000 then .exc ⟨c,[],[]⟩ m else .stuck) else if ts.length=nms.length then .exc ⟨c,nms,ts⟩ m else .stuck
  | .tri b yes nm h k,env,m=>match ex b env m with
    | .ok fl m=>match fl with
      | .next env=>ex k env m
      | fl=>.ok fl m
    | .exc x m=>if x.cls∈yes then (ex h (hEnv env.length nm x) m).only.bind fun fl m=>match fl with
        | .next env=>ex k (unE nm env) m
        | .ret w=>.ok (.ret w) m
        | _=>.stuck
      else .stuck
    | .stuck=>.stuck
end
structure Fn where
  ps:Nat
  n:Nat
  body:S
  cell:Bool:=false
noncomputable def fin (n:Nat) (cell:Bool) (fl:Flow) (m:Mem):Res W:=match fl with
  | .ret (.t t)=>.ok (.t t) (m.take n)
  | .ret (.c i)=>if i < n then .ok (.c i) (m.take n) else match m[i]? with
    | some (some (false,ts))=>if cell then .ok (.c n) (m.take n++[some (false,ts)]) else .ok (.t (.lst ts)) (m.take n)
    | _=>.stuck
  | .next _=>.ok (.t .non) (m.take n)
  | _=>.stuck
noncomputable def Z4 (fns:List Fn) (gv:List T):Nat→Nat→List W→Mem→Res W
  | 0,_,_,_=>.stuck
  | n + 1,f,ws,m=>match fns[f]? with
    | none=>.stuck
    | some d=>if ws.length=d.ps then (ex (Z4 fns gv n) gv d.body (ws.map some++List.replicate (d.n - d.ps) none) m).bind fun fl m'=>fin m.length d.cell fl m' else .stuck
end Mi
end
section
namespace Mi
open PySem L2
section
variable (K:PySem.W.Frag)
noncomputable def Zt (cm:List Addr) (m:Mem) (a:Addr):Prop:=∀ (i:Nat) p,m[i]? = some (some p)→cm[i]?≠some a
noncomputable def ZdW (H:Hp) (a:Addr) (ns:List Int):Prop:=(∃ o,H a=some (.frz o (.lst (ns.map V.int)))) ∨
    ∃ (o:Obj) (its:Array Value) (n:Nat),K.lookup a=some o∧o.cls = .type "list"∧o.dict=none∧o.data = .seq its n∧its.size≤sizeLine∧Vals (ns.map V.int) its.toList
inductive RT (cm:List Addr) (m:Mem) (H:Hp):T→V→Prop where
  | non:RT cm m H .non .non
  | bl (b:Bool):RT cm m H (.bl b) (.bl b)
  | int (i:Int):RT cm m H (.int i) (.int i)
  | str (cs:List Nat):RT cm m H (.str cs) (.str ⟨cs.toArray⟩)
  | tup {a:Addr} {ts:List T} {vs:List V}:SqT K H a vs→ts.length=vs.length→(∀ (i:Nat) t v,ts[i]? = some t→vs[i]? = some v→RT cm m H t v)→RT cm m H (.tup ts) (.ref a)
  | lst {a:Addr} {ts:List T} {vs:List V}:H a=some (.lst vs)→Zt cm m a→ts.length=vs.length→(∀ (i:Nat) t v,ts[i]? = some t→vs[i]? = some v→RT cm m H t v)→RT cm m H (.lst ts) (.ref a)
  | dct {a:Addr} {ks:List Key} {ts:List T} {vs:List V}:H a=some (.dK (ks.zip vs))→Zt cm m a→ks.length=vs.length→ts.length=vs.length →
      (∀ (i:Nat) t v,ts[i]? = some t→vs[i]? = some v→RT cm m H t v)→RT cm m H (.dct ks ts) (.ref a)
  | scr {a:Addr} (ns:List Int):ZdW K H a ns→RT cm m H (.scr ns) (.ref a)
noncomputable abbrev RTs (cm:List Addr) (m:Mem) (H:Hp) (ts:List T) (vs:List V):Prop:=Paired (RT K cm m H) ts vs
noncomputable def XF (cm:List Addr) (m:Mem) (H:Hp) (nms:List Str) (ts:List T) (dx:Option Addr):Prop:=match dx with
  | none=>nms=[]∧ts=[]
  | some d=>∃ vs,H d=some (.xd (nms.zip vs))∧nms.length=vs.length∧RTs K cm m H ts vs
noncomputable def RW (cm:List Addr) (m:Mem) (H:Hp):W→V→Prop
  | .t x,v=>RT K cm m H x v
  | .c i,v=>∃ a,cm[i]? = some a∧v = .ref a
  | .f a,v=>v = .ref a
  | .x c nms ts,v=>∃ a o u,v = .ref a∧H a=some (.frz o u)∧o.cls = .ref c∧(∃ fs,o.data = .fields fs)∧XF K cm m H nms ts o.dict
noncomputable abbrev RWs (cm:List Addr) (m:Mem) (H:Hp) (ws:List W) (vs:List V):Prop:=Paired (RW K cm m H) ws vs
structure MemR (cm:List Addr) (m:Mem) (H:Hp):Prop where
  len:cm.length=m.length
  inj:∀ (i j:Nat) a p q,m[i]? = some (some p)→m[j]? = some (some q)→cm[i]? = some a→cm[j]? = some a→i=j
  at':∀ (i:Nat) p,m[i]? = some (some p)→∃ a vs,cm[i]? = some a∧H a=some (.lst vs)∧K.lookup a=none∧RTs K cm m H p.2 vs
noncomputable def EnvR (cm:List Addr) (m:Mem) (H:Hp) (env:Env) (σ:L2.St):Prop:=∀ (i:Nat) w,env[i]? = some (some w)→∃ v,σ[i]? = some (some v)∧RW K cm m H w v
structure Ext (cm:List Addr) (m:Mem) (H:Hp) (cm':List Addr) (m':Mem) (H':Hp):Prop where
  pre:∀ (i:Nat) a,cm[i]? = some a→cm'[i]? = some a
  len:m.length≤m'.length
  lent:∀ (i:Nat) ts,m[i]? = some (some (true,ts))→m'[i]? = some (some (true,ts))
  keep:∀ a o,H a=some o→Zt cm m a→H' a=some o∧Zt cm' m' a
end
section
variable {K:PySem.W.Frag} {cm cm' cm'':List Addr} {m m' m'':Mem} {H H' H'':Hp}
theorem Zbm {α β:Type} {F:α→β→Prop}:∀ {xs:List α} {ys:List β},xs.length=ys.length→(∀ (i:Nat) x y,xs[i]? = some x→ys[i]? = some y→F x y)→Paired F xs ys
  | [],[],_,_=>.nil
  | x :: xs,y :: ys,hl,h=>.cons (h 0 x y rfl rfl) (Zbm (by simpa using hl) fun i a b ha hb=>h (i + 1) a b (by simpa using ha) (by simpa using hb))
  | [],_ :: _,hl,_=>by simp at hl
  | _ :: _,[],hl,_=>by simp at hl
theorem JC {α β:Type} {F:α→β→Prop}:∀ {xs:List α} {ys:List β},Paired F xs ys→∀ (i:Nat) x y,xs[i]? = some x→ys[i]? = some y→F x y
  | _,_,.nil,i,x,y,h,_=>by simp at h
  | _,_,.cons r t,0,x,y,h1,h2=>by simp at h1 h2; subst h1; subst h2; exact r
  | _,_,.cons r t,i + 1,x,y,h1,h2=>JC t i x y (by simpa using h1) (by simpa using h2)
theorem ZR {α β:Type} {F:α→β→Prop} {xs:List α} {ys:List β} (h:Paired F xs ys) {i:Nat} {x:α} (hx:xs[i]? = some x):∃ y,ys[i]? = some y∧F x y:=by
  have hl:=h.length
  have hi:=(List.getElem?_eq_some_iff.mp hx).1
  have hy:ys[i]? = some (ys[i]'(by omega)):=List.getElem?_eq_getElem (by omega)
  exact ⟨_,hy,JC h i _ _ hx hy⟩
theorem Qq {α β:Type} {F:α→β→Prop}:∀ {xs xs':List α} {ys ys':List β},Paired F xs ys→Paired F xs' ys'→Paired F (xs++xs') (ys++ys')
  | _,_,_,_,.nil,h=>h
  | _,_,_,_,.cons r t,h=>.cons r (Qq t h)
theorem Zbl {α β:Type} {F:α→β→Prop}:∀ {xs:List α} {ys:List β} (n:Nat),Paired F xs ys→Paired F (xs.take n) (ys.take n)
  | _,_,0,_=>.nil
  | _,_,_ + 1,.nil=>.nil
  | _,_,n + 1,.cons r t=>.cons r (Zbl n t)
theorem Zbn {α β:Type} {F:α→β→Prop}:∀ {xs:List α} {ys:List β} (n:Nat),Paired F xs ys→Paired F (xs.drop n) (ys.drop n)
  | _,_,0,r=>r
  | _,_,_ + 1,.nil=>.nil
  | _,_,n + 1,.cons _ t=>Zbn n t
theorem Zb3 {α β:Type} {F:α→β→Prop} {x:α} {y:β} (r:F x y):∀ {xs:List α} {ys:List β} (i:Nat),Paired F xs ys→Paired F (xs.set i x) (ys.set i y)
  | _,_,_,.nil=>.nil
  | _,_,0,.cons _ t=>.cons r t
  | _,_,i + 1,.cons q t=>.cons q (Zb3 r i t)
theorem Zh {α β:Type} {F G:α→β→Prop} (f:∀ a b,F a b→G a b) {xs:List α} {ys:List β} (h:Paired F xs ys):Paired G xs ys:=L2.Paired.mapP h f
theorem RT.mtup {a:Addr} {ts:List T} {vs:List V} (h:SqT K H a vs) (r:RTs K cm m H ts vs):RT K cm m H (.tup ts) (.ref a):=.tup h r.length fun i t v h1 h2=>JC r i t v h1 h2
theorem RT.mlst {a:Addr} {ts:List T} {vs:List V} (h:H a=some (.lst vs)) (n:Zt cm m a) (r:RTs K cm m H ts vs):RT K cm m H (.lst ts) (.ref a):=.lst h n r.length fun i t v h1 h2=>JC r i t v h1 h2
theorem RT.itup {ts:List T} {v:V} (h:RT K cm m H (.tup ts) v):∃ a vs,v = .ref a∧SqT K H a vs∧RTs K cm m H ts vs:=by
  cases h with
  | tup h1 h2 h3=>exact ⟨_,_,rfl,h1,Zbm h2 h3⟩
theorem RT.ilst {ts:List T} {v:V} (h:RT K cm m H (.lst ts) v):∃ a vs,v = .ref a∧H a=some (.lst vs)∧Zt cm m a∧RTs K cm m H ts vs:=by
  cases h with
  | lst h1 h2 h3 h4=>exact ⟨_,_,rfl,h1,h2,Zbm h3 h4⟩
theorem MemR.notK (M:MemR K cm m H) {a:Addr} {o:Obj} (h:K.lookup a=some o):Zt cm m a:=fun i ts e z=>by
  obtain ⟨b,vs,h1,_,h3,_⟩:=M.at' i ts e
  rw [h1] at z; cases z
  rw [h3] at h; cases h
theorem Ext.rd (x:Ext cm m H cm' m' H') {a:Addr} {u:HO} (h:Rd H a u) (n:Zt cm m a):Rd H' a u∧Zt cm' m' a:=by
  rcases h with h | ⟨o,h⟩
  · exact ⟨.inl (x.keep a _ h n).1,(x.keep a _ h n).2⟩
  · exact ⟨.inr ⟨o,(x.keep a _ h n).1⟩,(x.keep a _ h n).2⟩
theorem Jh (M:MemR K cm m H) {a:Addr} {o:HO} (h:H a=some o) (hn:∀ vs,o≠.lst vs):Zt cm m a:=fun i ts e z=>by
  obtain ⟨b,vs,h1,h2,_,_⟩:=M.at' i ts e
  rw [h1] at z; cases z
  rw [h2] at h; cases h
  exact hn _ rfl
theorem Ext.sqT (x:Ext cm m H cm' m' H') (M:MemR K cm m H) {a:Addr} {vs:List V} (h:SqT K H a vs):SqT K H' a vs:=by
  rcases h with (h | ⟨o,h⟩) | h
  · exact .inl (.inl (x.keep a _ h (Jh M h (fun _ z=>by cases z))).1)
  · exact .inl (.inr ⟨o,(x.keep a _ h (Jh M h (fun _ z=>by cases z))).1⟩)
  · exact .inr h
theorem Ext.scr (x:Ext cm m H cm' m' H') (M:MemR K cm m H) {a:Addr} {ns:List Int} (h:ZdW K H a ns):ZdW K H' a ns:=by
  rcases h with ⟨o,h⟩ | h
  · exact .inl ⟨o,(x.keep a _ h (Jh M h (fun _ z=>by cases z))).1⟩
  · exact .inr h
theorem ZdW.sq {a:Addr} {ns:List Int} (h:ZdW K H a ns):SqL K H a (ns.map V.int):=by
  rcases h with ⟨o,h⟩ | h
  · exact .inl (.inr ⟨o,h⟩)
  · exact .inr h
theorem RT.ext (x:Ext cm m H cm' m' H') (M:MemR K cm m H) (M':MemR K cm' m' H') {t:T} {v:V} (h:RT K cm m H t v):RT K cm' m' H' t v:=by
  induction h with
  | non=>exact .non
  | bl b=>exact .bl b
  | int i=>exact .int i
  | str cs=>exact .str cs
  | tup h1 h2 _ ih=>exact .tup (x.sqT M h1) h2 ih
  | lst h1 h2 h3 _ ih=>exact .lst (x.keep _ _ h1 h2).1 (x.keep _ _ h1 h2).2 h3 ih
  | scr ns h=>exact .scr ns (x.scr M h)
  | dct h1 h2 h3 h4 _ ih=>exact .dct (x.keep _ _ h1 h2).1 (x.keep _ _ h1 h2).2 h3 h4 ih
theorem RTs.ext (x:Ext cm m H cm' m' H') (M:MemR K cm m H) (M':MemR K cm' m' H') {ts:List T} {vs:List V} (h:RTs K cm m H ts vs):RTs K cm' m' H' ts vs:=Zh (fun _ _ z=>z.ext x M M') h
theorem XF.ext (x:Ext cm m H cm' m' H') (M:MemR K cm m H) (M':MemR K cm' m' H') {nms:List Str} {ts:List T} {dx:Option Addr} (h:XF K cm m H nms ts dx):XF K cm' m' H' nms ts dx:=by
  cases dx with
  | none=>exact h
  | some d =>
    obtain ⟨vs,h1,h2,h3⟩:=h
    exact ⟨vs,(x.keep d _ h1 (Jh M h1 (fun _ z=>by cases z))).1,h2,h3.ext x M M'⟩
theorem RW.ext (x:Ext cm m H cm' m' H') (M:MemR K cm m H) (M':MemR K cm' m' H') {w:W} {v:V} (h:RW K cm m H w v):RW K cm' m' H' w v:=by
  cases w with
  | t t=>exact RT.ext x M M' h
  | c i=>obtain ⟨a,h1,h2⟩:=h; exact ⟨a,x.pre i a h1,h2⟩
  | f a=>exact h
  | x c nms ts=>obtain ⟨a,o,u,h1,h2,h3,h3',h4⟩:=h; exact ⟨a,o,u,h1,(x.keep a _ h2 (Jh M h2 (fun _ z=>by cases z))).1,h3,h3',h4.ext x M M'⟩
theorem RWs.ext (x:Ext cm m H cm' m' H') (M:MemR K cm m H) (M':MemR K cm' m' H') {ws:List W} {vs:List V} (h:RWs K cm m H ws vs):RWs K cm' m' H' ws vs:=Zh (fun _ _ z=>RW.ext x M M' z) h
theorem EnvR.ext (x:Ext cm m H cm' m' H') (M:MemR K cm m H) (M':MemR K cm' m' H') {env:Env} {σ:L2.St} (h:EnvR K cm m H env σ):EnvR K cm' m' H' env σ:=fun i w e=>by
  obtain ⟨v,h1,h2⟩:=h i w e
  exact ⟨v,h1,h2.ext x M M'⟩
theorem Ext.refl:Ext cm m H cm m H:=⟨fun _ _ h=>h,Nat.le_refl _,fun _ _ h=>h,fun _ _ h n=>⟨h,n⟩⟩
theorem Ext.trans (x:Ext cm m H cm' m' H') (y:Ext cm' m' H' cm'' m'' H''):Ext cm m H cm'' m'' H'' :=
  ⟨fun i a h=>y.pre i a (x.pre i a h),Nat.le_trans x.len y.len,fun i ts h=>y.lent i ts (x.lent i ts h),fun a o h n=>y.keep a o (x.keep a o h n).1 (x.keep a o h n).2⟩
noncomputable abbrev XR:=Exc→List Addr→Mem→Hp→Prop
noncomputable def xr0:XR:=fun _ _ _ _=>False
variable (K) in
noncomputable def OkR {α:Type} (r:Res α) (xr:XR) (cm:List Addr) (m:Mem) (H:Hp) (k:α→List Addr→Mem→Hp→Prop):Prop:=match r with
  | .ok a m'=>∀ cm' H',Ext cm m H cm' m' H'→MemR K cm' m' H'→k a cm' m' H'
  | .exc x m'=>∀ cm' H',Ext cm m H cm' m' H'→MemR K cm' m' H'→xr x cm' m' H'
  | .stuck=>False
variable {xr:XR}
theorem OkR.shift {α:Type} {r:Res α} {k:α→List Addr→Mem→Hp→Prop} (h:OkR K r xr cm m H k) (x:Ext cm m H cm' m' H'):OkR K r xr cm' m' H' k:=by
  cases r with
  | ok a m2=>exact fun c h' e M=>h c h' (x.trans e) M
  | exc a m2=>exact fun c h' e M=>h c h' (x.trans e) M
  | stuck=>exact h
theorem OkR.bind {α β:Type} {r:Res α} {f:α→Mem→Res β} {k:β→List Addr→Mem→Hp→Prop} (h:OkR K (r.bind f) xr cm m H k) :
    OkR K r xr cm m H fun a cm' m' H'=>OkR K (f a m') xr cm' m' H' k:=by
  cases r with
  | ok a m2=>exact fun c h' e M=>OkR.shift (show OkR K (f a m2) xr cm m H k from h) e
  | exc a m2=>exact h
  | stuck=>exact h
theorem OkR.bind0 {α β:Type} {r:Res α} {f:α→Mem→Res β} {k:β→List Addr→Mem→Hp→Prop} (h:OkR K (r.bind f) xr cm m H k) :
    OkR K r xr cm m H fun a _ m' _=>OkR K (f a m') xr cm m H k:=by
  cases r with
  | ok a m2=>exact fun c h' e M=>h
  | exc a m2=>exact h
  | stuck=>exact h
theorem OkR.mono {α:Type} {r:Res α} {k k':α→List Addr→Mem→Hp→Prop} (h:OkR K r xr cm m H k) (f:∀ a cm' m' H',Ext cm m H cm' m' H'→MemR K cm' m' H'→k a cm' m' H'→k' a cm' m' H'):OkR K r xr cm m H k':=by
  cases r with
  | ok a m2=>exact fun c h' e M=>f a c m2 h' e M (h c h' e M)
  | exc a m2=>exact h
  | stuck=>exact h
theorem OkR.now {α:Type} {a:α} {k:α→List Addr→Mem→Hp→Prop} (h:OkR K (.ok a m) xr cm m H k) (M:MemR K cm m H):k a cm m H:=h cm H .refl M
theorem OkR.to {α:Type} {a:α} {m':Mem} {k:α→List Addr→Mem→Hp→Prop} (h:OkR K (.ok a m') xr cm m H k) (x:Ext cm m H cm' m' H') (M:MemR K cm' m' H'):k a cm' m' H':=h cm' H' x M
end
section
variable (K:PySem.W.Frag) (call:Nat→List W→Mem→Res W) (gv:List T) (xr:XR)
noncomputable def tE (e:E):TE:=fun σ H Q=>∃ env cm m,EnvR K cm m H env σ∧MemR K cm m H∧OkR K (ev call gv e env m) xr cm m H fun w cm' m' H'=>∀ v,RW K cm' m' H' w v→Q v H'
noncomputable def tA (es:Es):TA:=fun σ H Q=>∃ env cm m,EnvR K cm m H env σ∧MemR K cm m H∧OkR K (evs call gv es env m) xr cm m H fun ws cm' m' H'=>∀ vs,RWs K cm' m' H' ws vs→Q vs H'
noncomputable def tT (e:E):TT:=fun σ H Q=>∃ env cm m,EnvR K cm m H env σ∧MemR K cm m H∧OkR K ((ev call gv e env m).bind Qa) xr cm m H fun k _ _ H'=>Q k H'
noncomputable def r2 (f:W→W→Mem→Res W):R2:=fun x y H Q=>∃ cm m a b,MemR K cm m H∧RW K cm m H a x∧RW K cm m H b y∧OkR K (f a b m) xr cm m H fun w cm' m' H'=>∀ v,RW K cm' m' H' w v→Q v H'
noncomputable def r1 (f:W→Mem→Res W):V→Hp→VK→Prop:=fun x H Q=>∃ cm m a,MemR K cm m H∧RW K cm m H a x∧OkR K (f a m) xr cm m H fun w cm' m' H'=>∀ v,RW K cm' m' H' w v→Q v H'
noncomputable def rN (f:List W→Mem→Res W):List V→Hp→VK→Prop:=fun xs H Q=>∃ cm m ws,MemR K cm m H∧RWs K cm m H ws xs∧OkR K (f ws m) xr cm m H fun w cm' m' H'=>∀ v,RW K cm' m' H' w v→Q v H'
end
section
variable {K:PySem.W.Frag} {call:Nat→List W→Mem→Res W} {gv:List T} {xr:XR} {X:Cx}
theorem PE.mono {e:Expr} {t t':TE} (h:PE X e t) (f:∀ σ H Q,t' σ H Q→t σ H Q):PE X e t':=fun pins s σ H Q I q=>h pins s σ H Q I (f σ H Q q)
theorem PT.mono {e:Expr} {t t':TT} (h:PT X e t) (f:∀ σ H Q,t' σ H Q→t σ H Q):PT X e t':=fun pins s σ H Q I q=>h pins s σ H Q I (f σ H Q q)
theorem PA.mono {e:List Expr} {t t':TA} (h:PA X e t) (f:∀ σ H Q,t' σ H Q→t σ H Q):PA X e t':=fun pos pins s σ H Q I q=>h pos pins s σ H Q I (f σ H Q q)
theorem Zh8 {a b e:E} {f:W→W→Mem→Res W} (h:∀ env m,ev call gv e env m=(ev call gv a env m).bind fun x m=>(ev call gv b env m).bind fun y m=>f x y m) (σ:L2.St) (H:Hp) (Q:VK) (q:tE K call gv xr e σ H Q) :
    tOp (r2 K xr f) (tE K call gv xr a) (tE K call gv xr b) σ H Q:=by
  obtain ⟨env,cm,m,hE,hM,ho⟩:=q
  rw [h] at ho
  refine ⟨env,cm,m,hE,hM,ho.bind.mono fun w cm1 m1 H1 x1 M1 o1 v rv=>?_⟩
  refine ⟨env,cm1,m1,hE.ext x1 hM M1,M1,o1.bind.mono fun w2 cm2 m2 H2 x2 M2 o2 v2 rv2=>?_⟩
  exact ⟨cm2,m2,w,w2,M2,rv.ext x2 M1 M2,rv2,o2⟩
theorem t1_of {a e:E} {f:W→Mem→Res W} (h:∀ env m,ev call gv e env m=(ev call gv a env m).bind fun x m=>f x m) (σ:L2.St) (H:Hp) (Q:VK) (q:tE K call gv xr e σ H Q) :
    tUn (r1 K xr f) (tE K call gv xr a) σ H Q:=by
  obtain ⟨env,cm,m,hE,hM,ho⟩:=q
  rw [h] at ho
  exact ⟨env,cm,m,hE,hM,ho.bind.mono fun w cm1 m1 H1 x1 M1 o1 v rv=>⟨cm1,m1,w,M1,rv,o1⟩⟩
end
end Mi
end
section
namespace Mi
open PySem PySem.Spec PyProof.Rows L2
section
variable {K:PySem.W.Frag} {cm:List Addr} {m:Mem} {H:Hp} {xr:XR} {X:Cx}
theorem Zd {w:W} {v:V} {t:T} (h:RW K cm m H w v) (e:view w m=some t) (n:∀ ts,t≠.lst ts):RT K cm m H t v:=by
  cases w with
  | t x=>cases e; exact h
  | f a=>cases e
  | x _ _ _=>cases e
  | c i =>
    unfold view at e
    dsimp only at e
    split at e
    · cases e; exact absurd rfl (n _)
    · cases e
theorem ZG {w:W} {v:V} {ts:List T} (M:MemR K cm m H) (h:RW K cm m H w v) (e:view w m=some (.lst ts)):∃ a vs,v = .ref a∧H a=some (.lst vs)∧RTs K cm m H ts vs:=by
  cases w with
  | t x =>
    cases e
    obtain ⟨a,vs,h1,h2,_,h3⟩:=RT.ilst h
    exact ⟨a,vs,h1,h2,h3⟩
  | f a=>cases e
  | x _ _ _=>cases e
  | c i =>
    unfold view at e
    dsimp only at e
    split at e
    · rename_i fl us hu
      cases e
      obtain ⟨a,h1,h2⟩:=h
      obtain ⟨b,vs,h3,h4,_,h5⟩:=M.at' i _ hu
      rw [h1] at h3; cases h3
      exact ⟨a,vs,h2,h4,h5⟩
    · cases e
theorem RT.vint {i:Int} {v:V} (h:RT K cm m H (.int i) v):v = .int i:=by cases h; rfl
theorem RT.vbl {b:Bool} {v:V} (h:RT K cm m H (.bl b) v):v = .bl b:=by cases h; rfl
theorem RT.vnon {v:V} (h:RT K cm m H .non v):v = .non:=by cases h; rfl
theorem RT.vstr {cs:List Nat} {v:V} (h:RT K cm m H (.str cs) v):v = .str ⟨cs.toArray⟩:=by cases h; rfl
theorem RT.vscr {ns:List Int} {v:V} (h:RT K cm m H (.scr ns) v):∃ a,v = .ref a∧ZdW K H a ns:=by
  cases h with
  | scr _ h=>exact ⟨_,rfl,h⟩
theorem Zeg (M:MemR K cm m H) {p:Addr} (hp:H p=none):Zt cm m p:=fun i ts e z=>by
  obtain ⟨a,vs,h1,h2,_⟩:=M.at' i ts e
  rw [h1] at z; cases z
  rw [hp] at h2; cases h2
theorem Ext.new {p:Addr} {o:HO} (hp:H p=none):Ext cm m H cm m (upd H p o) :=
  ⟨fun _ _ h=>h,Nat.le_refl _,fun _ _ h=>h,fun a u h n=>⟨by rw [Zm (QF h hp)]; exact h,n⟩⟩
theorem RT.same {H':Hp} {cm':List Addr} {m':Mem} (h1:∀ a o,H a=some o→H' a=some o) (h2:∀ a,Zt cm m a→H a≠none→Zt cm' m' a) {t:T} {v:V} (h:RT K cm m H t v):RT K cm' m' H' t v:=by
  induction h with
  | non=>exact .non
  | bl b=>exact .bl b
  | int i=>exact .int i
  | str cs=>exact .str cs
  | tup q1 q2 _ ih =>
    refine .tup ?_ q2 ih
    rcases q1 with (q | ⟨o,q⟩) | q
    · exact .inl (.inl (h1 _ _ q))
    · exact .inl (.inr ⟨o,h1 _ _ q⟩)
    · exact .inr q
  | lst q1 q2 q3 _ ih=>exact .lst (h1 _ _ q1) (h2 _ q2 (by rw [q1]; simp)) q3 ih
  | dct q1 q2 q3 q4 _ ih=>exact .dct (h1 _ _ q1) (h2 _ q2 (by rw [q1]; simp)) q3 q4 ih
  | scr ns q =>
    refine .scr ns ?_
    rcases q with ⟨o,q⟩ | q
    · exact .inl ⟨o,h1 _ _ q⟩
    · exact .inr q
theorem XF.same {H':Hp} {cm':List Addr} {m':Mem} (h1:∀ a o,H a=some o→H' a=some o) (f:∀ t v,RT K cm m H t v→RT K cm' m' H' t v) {nms:List Str} {ts:List T} {dx:Option Addr} (h:XF K cm m H nms ts dx):XF K cm' m' H' nms ts dx:=by
  cases dx with
  | none=>exact h
  | some d =>
    obtain ⟨vs,q1,q2,q3⟩:=h
    exact ⟨vs,h1 _ _ q1,q2,Zh (fun t v z=>f t v z) q3⟩
theorem XF.wsame {cm':List Addr} {m':Mem} (f:∀ t v,RT K cm m H t v→RT K cm' m' H t v) {c:Nat} {nms:List Str} {ts:List T} {v:V} (h:RW K cm m H (.x c nms ts) v):RW K cm' m' H (.x c nms ts) v:=by
  obtain ⟨a,o,u,q1,q2,q3,q3',q4⟩:=h
  exact ⟨a,o,u,q1,q2,q3,q3',q4.same (fun _ _ z=>z) f⟩
theorem Z5 {p:Addr} {o:HO} (hp:H p=none):∀ a u,H a=some u→upd H p o a=some u:=fun a u h=>by rw [Zm (QF h hp)]; exact h
theorem MemR.new (M:MemR K cm m H) {p:Addr} {o:HO} (hp:H p=none):MemR K cm m (upd H p o) :=
  ⟨M.len,M.inj,fun i ts e=>by
    obtain ⟨a,vs,h1,h2,h3,h4⟩:=M.at' i ts e
    exact ⟨a,vs,h1,Z5 hp _ _ h2,h3,Zh (fun _ _ z=>z.same (Z5 hp) fun _ n _=>n) h4⟩⟩
theorem RTs.new {ts:List T} {vs:List V} (r:RTs K cm m H ts vs) {p:Addr} {o:HO} (hp:H p=none):RTs K cm m (upd H p o) ts vs:=Zh (fun _ _ z=>z.same (Z5 hp) fun _ n _=>n) r
theorem RT.newTup {ts:List T} {vs:List V} (r:RTs K cm m H ts vs) {p:Addr} (hp:H p=none):RT K cm m (upd H p (.tup vs)) (.tup ts) (.ref p):=.mtup (.of ZK) (RTs.new r hp)
theorem RT.newLst (M:MemR K cm m H) {ts:List T} {vs:List V} (r:RTs K cm m H ts vs) {p:Addr} (hp:H p=none):RT K cm m (upd H p (.lst vs)) (.lst ts) (.ref p):=.mlst ZK (Zeg M hp) (RTs.new r hp)
theorem Zbr {p:Addr} {c:Bool×List T} (hl:cm.length=m.length) {a:Addr} (n:Zt cm m a) (ne:a≠p):Zt (cm++[p]) (m++[some c]) a:=fun i us e z=>by
  by_cases hi:i < m.length
  · rw [List.getElem?_append_left hi] at e
    rw [List.getElem?_append_left (by omega)] at z
    exact n i us e z
  · by_cases hj:i=m.length
    · subst hj
      rw [← hl,List.getElem?_append_right (Nat.le_refl _)] at z
      simp at z
      exact ne z.symm
    · rw [List.getElem?_eq_none (by simp; omega)] at e
      cases e
theorem Zi8 (M:MemR K cm m H) {ts:List T} {vs:List V} (r:RTs K cm m H ts vs) {p:Addr} (hp:H p=none) (hk:K.lookup p=none) :
    Ext cm m H (cm++[p]) (m++[some (false,ts)]) (upd H p (.lst vs))∧MemR K (cm++[p]) (m++[some (false,ts)]) (upd H p (.lst vs))∧RW K (cm++[p]) (m++[some (false,ts)]) (upd H p (.lst vs)) (.c m.length) (.ref p):=by
  have sm:∀ {t:T} {v:V},RT K cm m H t v→RT K (cm++[p]) (m++[some (false,ts)]) (upd H p (.lst vs)) t v:=fun h =>
    h.same (Z5 hp) fun a n hn=>Zbr M.len n fun z=>by subst z; exact hn hp
  have cs:∀ {i:Nat} {c:Bool×List T},(m++[some (false,ts)])[i]? = some (some c)→(m[i]? = some (some c)∧i < m.length)∨(i=m.length∧c=(false,ts)):=fun {i c} e=>by
    by_cases hi:i < m.length
    · rw [List.getElem?_append_left hi] at e
      exact .inl ⟨e,hi⟩
    · by_cases hj:i=m.length
      · subst hj
        simp at e
        exact .inr ⟨rfl,e.symm⟩
      · rw [List.getElem?_eq_none (by simp; omega)] at e
        cases e
  have cl:∀ {i:Nat},i < m.length→(cm++[p])[i]? = cm[i]?:=fun {i} h=>List.getElem?_append_left (by rw [M.len]; exact h)
  have cp:(cm++[p])[m.length]? = some p:=by rw [← M.len]; simp
  have np:∀ {i:Nat} {c:Bool×List T} {a:Addr},m[i]? = some (some c)→cm[i]? = some a→a≠p:=fun {i c a} e1 e2 z=>by
    subst z
    obtain ⟨b,ws,q1,q2,_⟩:=M.at' i c e1
    rw [e2] at q1; cases q1
    rw [hp] at q2; cases q2
  refine ⟨⟨fun i a h=>?_,by simp,fun i us h=>?_,fun a o h n=>⟨Z5 hp _ _ h,Zbr M.len n (QF h hp)⟩⟩,⟨by simp [M.len],fun i j a us us' e1 e2 f1 f2=>?_,fun i us e=>?_⟩,⟨p,cp,rfl⟩⟩
  · rw [List.getElem?_append_left (List.getElem?_eq_some_iff.mp h).1]; exact h
  · rw [List.getElem?_append_left (List.getElem?_eq_some_iff.mp h).1]; exact h
  · rcases cs e1 with ⟨g1,l1⟩ | ⟨k1,_⟩
    · rw [cl l1] at f1
      rcases cs e2 with ⟨g2,l2⟩ | ⟨k2,_⟩
      · rw [cl l2] at f2
        exact M.inj i j a _ _ g1 g2 f1 f2
      · rw [k2,cp] at f2; cases f2
        exact absurd rfl (np g1 f1)
    · rw [k1,cp] at f1; cases f1
      rcases cs e2 with ⟨g2,l2⟩ | ⟨k2,_⟩
      · rw [cl l2] at f2
        exact absurd rfl (np g2 f2)
      · rw [k1,k2]
  · rcases cs e with ⟨g,l⟩ | ⟨k,z⟩
    · obtain ⟨a,ws,q1,q2,q3,q4⟩:=M.at' i us g
      exact ⟨a,ws,by rw [cl l]; exact q1,Z5 hp _ _ q2,q3,Zh (fun _ _ z=>sm z) q4⟩
    · rw [k,z]
      exact ⟨p,vs,cp,ZK,hk,Zh (fun _ _ z=>sm z) r⟩
theorem Xh {i:Nat} {c c':Bool×List T} (e:m[i]? = some (some c)) {j:Nat} {d:Bool×List T} (q:(m.set i (some c'))[j]? = some (some d)):∃ d',m[j]? = some (some d'):=by
  by_cases hj:j=i
  · subst hj; exact ⟨c,e⟩
  · rw [List.getElem?_set_ne (Ne.symm hj)] at q; exact ⟨d,q⟩
theorem Zch (M:MemR K cm m H) {i:Nat} {ts ts':List T} {a:Addr} {vs':List V} (e:m[i]? = some (some (false,ts))) (hc:cm[i]? = some a) (r:RTs K cm m H ts' vs') :
    Ext cm m H cm (m.set i (some (false,ts'))) (upd H a (.lst vs'))∧MemR K cm (m.set i (some (false,ts'))) (upd H a (.lst vs')):=by
  have hi:i < m.length:=(List.getElem?_eq_some_iff.mp e).1
  have nl:∀ {b:Addr},Zt cm m b→Zt cm (m.set i (some (false,ts'))) b:=fun {b} n j us q=>by
    obtain ⟨us',q'⟩:=Xh e q
    exact n j us' q'
  have ne:∀ {b:Addr},Zt cm m b→b≠a:=fun {b} n z=>by subst z; exact n i _ e hc
  have x:Ext cm m H cm (m.set i (some (false,ts'))) (upd H a (.lst vs')):=⟨fun _ _ h=>h,by simp,fun j us h=>by
    by_cases hj:j=i
    · subst hj; rw [e] at h; cases h
    · rw [List.getElem?_set_ne (Ne.symm hj)]; exact h,fun b o h n=>⟨by rw [Zm (ne n)]; exact h,nl n⟩⟩
  have sm:∀ {t:T} {v:V},RT K cm m H t v→RT K cm (m.set i (some (false,ts'))) (upd H a (.lst vs')) t v:=fun {t v} h=>by
    induction h with
    | non=>exact .non
    | bl b=>exact .bl b
    | int i=>exact .int i
    | str cs=>exact .str cs
    | tup q1 q2 _ ih=>exact .tup (x.sqT M q1) q2 ih
    | lst q1 q2 q3 _ ih=>exact .lst (x.keep _ _ q1 q2).1 (x.keep _ _ q1 q2).2 q3 ih
    | dct q1 q2 q3 q4 _ ih=>exact .dct (x.keep _ _ q1 q2).1 (x.keep _ _ q1 q2).2 q3 q4 ih
    | scr ns q=>exact .scr ns (x.scr M q)
  refine ⟨x,⟨by simp [M.len],fun j k b us us' e1 e2 f1 f2=>?_,fun j us q=>?_⟩⟩
  · obtain ⟨_,e1⟩:=Xh e e1
    obtain ⟨_,e2⟩:=Xh e e2
    exact M.inj j k b _ _ e1 e2 f1 f2
  · by_cases hj:j=i
    · subst hj
      rw [List.getElem?_set_self hi] at q
      cases q
      obtain ⟨b,ws,q1,_,q3,_⟩:=M.at' j _ e
      rw [hc] at q1; cases q1
      exact ⟨a,vs',hc,ZK,q3,Zh (fun _ _ z=>sm z) r⟩
    · rw [List.getElem?_set_ne (Ne.symm hj)] at q
      obtain ⟨b,ws,q1,q2,q3,q4⟩:=M.at' j us q
      have hb:b≠a:=fun z=>by
        subst z
        exact hj (M.inj j i b _ _ q e q1 hc)
      exact ⟨b,ws,q1,by rw [Zm hb]; exact q2,q3,Zh (fun _ _ z=>sm z) q4⟩
theorem ZhJ (M:MemR K cm m H) {i:Nat} {ts:List T} (e:m[i]? = some (some (false,ts))) :
    ∃ a vs,cm[i]? = some a∧H a=some (.lst vs)∧K.lookup a=none∧Ext cm m H cm (m.set i none) H∧MemR K cm (m.set i none) H∧RTs K cm (m.set i none) H ts vs∧RT K cm (m.set i none) H (.lst ts) (.ref a):=by
  obtain ⟨a,vs,q1,q2,q3,q4⟩:=M.at' i _ e
  have hi:i < m.length:=(List.getElem?_eq_some_iff.mp e).1
  have lv:∀ {j:Nat} {us:Bool×List T},(m.set i none)[j]? = some (some us)→m[j]? = some (some us)∧j≠i:=fun {j us} q=>by
    by_cases hj:j=i
    · subst hj; rw [List.getElem?_set_self hi] at q; cases q
    · rw [List.getElem?_set_ne (Ne.symm hj)] at q; exact ⟨q,hj⟩
  have nl:∀ {b:Addr},Zt cm m b→Zt cm (m.set i none) b:=fun {b} n j us q=>n j us (lv q).1
  have sm:∀ {t:T} {v:V},RT K cm m H t v→RT K cm (m.set i none) H t v:=fun h=>h.same (fun _ _ z=>z) fun _ n _=>nl n
  have na:Zt cm (m.set i none) a:=fun j us q z=>(lv q).2 (M.inj j i a _ _ (lv q).1 e z q1)
  have rs:RTs K cm (m.set i none) H ts vs:=Zh (fun _ _ z=>sm z) q4
  refine ⟨a,vs,q1,q2,q3,⟨fun _ _ h=>h,by simp,fun j us h=>?_,fun b o h n=>⟨h,nl n⟩⟩,⟨by simp [M.len],fun j k b us us' e1 e2=>M.inj j k b _ _ (lv e1).1 (lv e2).1,fun j us q=>?_⟩,rs,.mlst q2 na rs⟩
  · by_cases hj:j=i
    · subst hj; rw [e] at h; cases h
    · rw [List.getElem?_set_ne (Ne.symm hj)]; exact h
  · obtain ⟨b,ws,p1,p2,p3,p4⟩:=M.at' j us (lv q).1
    exact ⟨b,ws,p1,p2,p3,Zh (fun _ _ z=>sm z) p4⟩
theorem ZbF (M:MemR K cm m H) {i:Nat} {b b':Bool} {ts:List T} (e:m[i]? = some (some (b,ts))) :
    (∀ a,Zt cm m a↔Zt cm (m.set i (some (b',ts))) a)∧MemR K cm (m.set i (some (b',ts))) H∧(∀ t v,RT K cm m H t v→RT K cm (m.set i (some (b',ts))) H t v):=by
  have hi:i < m.length:=(List.getElem?_eq_some_iff.mp e).1
  have nl:∀ a,Zt cm m a↔Zt cm (m.set i (some (b',ts))) a:=fun a=>by
    constructor
    · intro n j us q
      obtain ⟨d,q'⟩:=Xh e q
      exact n j d q'
    · intro n j us q
      by_cases hj:j=i
      · subst hj
        exact n j _ (List.getElem?_set_self hi)
      · exact n j us (by rw [List.getElem?_set_ne (Ne.symm hj)]; exact q)
  have sm:∀ t v,RT K cm m H t v→RT K cm (m.set i (some (b',ts))) H t v:=fun t v h=>h.same (fun _ _ z=>z) fun a n _=>(nl a).mp n
  refine ⟨nl,⟨by simp [M.len],fun j k a us us' e1 e2 f1 f2=>?_,fun j us q=>?_⟩,sm⟩
  · obtain ⟨_,e1⟩:=Xh e e1
    obtain ⟨_,e2⟩:=Xh e e2
    exact M.inj j k a _ _ e1 e2 f1 f2
  · by_cases hj:j=i
    · subst hj
      rw [List.getElem?_set_self hi] at q
      cases q
      obtain ⟨a,vs,q1,q2,q3,q4⟩:=M.at' j _ e
      exact ⟨a,vs,q1,q2,q3,Zh (fun _ _ z=>sm _ _ z) q4⟩
    · rw [List.getElem?_set_ne (Ne.symm hj)] at q
      obtain ⟨a,vs,q1,q2,q3,q4⟩:=M.at' j us q
      exact ⟨a,vs,q1,q2,q3,Zh (fun _ _ z=>sm _ _ z) q4⟩
theorem ZhI (M:MemR K cm m H) {i:Nat} {b:Bool} {ts:List T} (e:m[i]? = some (some (b,ts))):Ext cm m H cm (m.set i (some (true,ts))) H∧MemR K cm (m.set i (some (true,ts))) H:=by
  have hi:i < m.length:=(List.getElem?_eq_some_iff.mp e).1
  obtain ⟨nl,M',_⟩:=ZbF (b':=true) M e
  refine ⟨⟨fun _ _ h=>h,by simp,fun j us h=>?_,fun a o h n=>⟨h,(nl a).mp n⟩⟩,M'⟩
  by_cases hj:j=i
  · subst hj
    rw [e] at h; cases h
    exact List.getElem?_set_self hi
  · rw [List.getElem?_set_ne (Ne.symm hj)]; exact h
theorem Zaa {cm':List Addr} {m1 m':Mem} {H':Hp} {w:W} {ts:List T} (M:MemR K cm m H) (e:Qd w m = .ok ts m1) (x:Ext cm m1 H cm' m' H') (M':MemR K cm' m' H') :
    Ext cm m H cm' (giveBack w m m') H'∧MemR K cm' (giveBack w m m') H'∧∀ t v,RT K cm' m' H' t v→RT K cm' (giveBack w m m') H' t v:=by
  cases w with
  | t t =>
    unfold Qd at e
    dsimp only at e
    split at e <;> cases e
    exact ⟨x,M',fun _ _ h=>h⟩
  | f a=>cases e
  | x _ _ _=>cases e
  | c i =>
    unfold Qd at e
    dsimp only at e
    split at e
    · rename_i b us h
      cases e
      have hi:i < m.length:=(List.getElem?_eq_some_iff.mp h).1
      have h':m'[i]? = some (some (true,ts)):=x.lent i ts (List.getElem?_set_self hi)
      have hi':i < m'.length:=(List.getElem?_eq_some_iff.mp h').1
      obtain ⟨nl,M2,sm⟩:=ZbF (b':=b) M' h'
      have eg:giveBack (.c i) m m' = m'.set i (some (b,ts)):=by unfold giveBack; dsimp only; rw [h]
      rw [eg]
      obtain ⟨nl0,M1,_⟩:=ZbF (b':=true) M h
      refine ⟨⟨fun j a q=>x.pre j a q,by rw [List.length_set]; have:=x.len; rw [List.length_set] at this; exact this,fun j vs q=>?_,fun a o q n=>?_⟩,M2,sm⟩
      · by_cases hj:j=i
        · subst hj
          rw [h] at q; cases q
          exact List.getElem?_set_self hi'
        · rw [List.getElem?_set_ne (Ne.symm hj)]
          exact x.lent j vs (by rw [List.getElem?_set_ne (Ne.symm hj)]; exact q)
      · obtain ⟨q1,q2⟩:=x.keep a o q ((nl0 a).mp n)
        exact ⟨q1,(nl a).mp q2⟩
    · cases e
end
end Mi
end
section
namespace Mi
open PySem PySem.Spec PyProof.Rows L2
section
variable {K:PySem.W.Frag} {cm:List Addr} {m:Mem} {H:Hp} {xr:XR} {X:Cx}
theorem ZV:lim≤sizeLine:=by rw [sizeLine_eq]; decide
theorem QD {o:Option T} {k:W→List Addr→Mem→Hp→Prop} (h:OkR K (pur o m) xr cm m H k):∃ t,o=some t∧OkR K (.ok (.t t) m) xr cm m H k:=by
  cases o with
  | none=>exact h.elim
  | some t=>exact ⟨t,rfl,h⟩
theorem ZbU {α:Type} {o p:Option T} {f:T→T→Option α} {z:α} (h:(o.bind fun x=>p.bind fun y=>f x y)=some z):∃ x y,o=some x∧p=some y∧f x y=some z:=by
  cases o with
  | none=>cases h
  | some x =>
    cases p with
    | none=>cases h
    | some y=>exact ⟨x,y,rfl,rfl,h⟩
theorem Zgj (a b:List Nat):(⟨a.toArray⟩:Str)++⟨b.toArray⟩=⟨(a++b).toArray⟩:=by
  show (⟨a.toArray++b.toArray⟩:Str)=_
  simp
theorem J5 (a:List Nat):(⟨a.toArray⟩:Str).length=a.length:=by simp [Str.length]
theorem ans {t:T} {Q:VK} (ho:OkR K (.ok (.t t) m) xr cm m H fun w cm' m' H'=>∀ v,RW K cm' m' H' w v→Q v H') (M:MemR K cm m H) {v:V} (r:RT K cm m H t v):Q v H:=ho.now M v r
theorem Zci {ts:List T} {Q:VK} (ho:OkR K (.ok (.t (.tup ts)) m) xr cm m H fun w cm' m' H'=>∀ v,RW K cm' m' H' w v→Q v H') (M:MemR K cm m H) {vs:List V} (r:RTs K cm m H ts vs) {p:Addr} (hp:H p=none) :
    Q (.ref p) (upd H p (.tup vs)):=ho.to (.new hp) (M.new hp) _ (RT.newTup r hp)
theorem Zcj {ts:List T} {Q:VK} (ho:OkR K (.ok (.t (.lst ts)) m) xr cm m H fun w cm' m' H'=>∀ v,RW K cm' m' H' w v→Q v H') (M:MemR K cm m H) {vs:List V} (r:RTs K cm m H ts vs) {p:Addr} (hp:H p=none) :
    Q (.ref p) (upd H p (.lst vs)):=ho.to (.new hp) (M.new hp) _ (RT.newLst M r hp)
theorem Zky {i j:Int} (h1:i.natAbs < bigN) (h2:j.natAbs < bigN):IntMulOk i j:=by
  have b:∀ {k:Int},k.natAbs < bigN→Builtin.Int.intBits k≤2000:=fun {k} h=>intBits_le (by
    have e:bigN=2 ^ (250 * 8):=by unfold bigN; rw [← Nat.pow_mul]
    rw [e] at h
    exact h)
  exact mulOk_of_bits (b h1) (b h2) (by decide)
theorem ZcY {i:Int} (h:small i=true):-(2 ^ 64) < i∧i < 2 ^ 64:=by
  have h':i.natAbs < 2 ^ 64:=of_decide_eq_true h
  omega
theorem ZiN {i j:Int} (h:Xk i j=true):IntMulOk i j:=by
  unfold Xk at h
  simp only [Bool.or_eq_true,Bool.and_eq_true,decide_eq_true_eq] at h
  rcases h with (h | h) | ⟨h1,h2⟩
  · exact CMul.ok (.inl (ZcY h))
  · exact CMul.ok (.inr (ZcY h))
  · exact Zky h1 h2
theorem Zkr:OpR X (binaryOp .Mult) (rI (fun i j=>Xk i j=true) fun i j=>.int (i * j)):=opI fun _ _ _ _ _ _ _ hc q=>mul_int q (ZiN hc)
theorem ZkY {prog:Program} {w:World} {A:Around} {E:Value→Shared→Prop} {s:Shared} {t b:Addr} {ws:List Value} {Q:Value→Shared→Prop} (ht:IsTup s.heap t ([]:List Value).toArray) (hb:IsTup s.heap b ws.toArray)
    (h:Q (.ref b) s):wpAny (model prog w) A (binaryOp .Add (.ref t) (.ref b)) Q E s:=by
  obtain ⟨⟨cls,dd,data,sl⟩,ho,hc,n,hd⟩:=id ht
  obtain ⟨⟨cls2,dd2,data2,sl2⟩,ho2,hc2,n2,hd2⟩:=id hb
  simp only at hc hd hc2 hd2
  subst hc hd hc2 hd2
  exact concat_meets ⟨_,ho,rfl⟩ ⟨_,ho2,rfl⟩ noFill_tuple_add seq_tuple_add PySem.F.slot_tuple_add PySem.F.entry_tuple_add (PySem.F.args_tuple_add_2 _ _)
      (tuple_addW0 t b ([]:List Value).toArray ws.toArray n n2 dd dd2 sl sl2 (by simp)) ⟨ho,ho2,h⟩
theorem Zkq:OpR X (binaryOp .Add) (fun x y H Q=>∃ a b ys,x = .ref a∧y = .ref b∧SqT X.K H a []∧SqT X.K H b ys∧Q (.ref b) H):=by
  intro pins s σ H x y v u Q I rx ry h
  obtain ⟨a,b,ys,rfl,rfl,ha,hb,q⟩:=h
  cases rx
  cases ry
  obtain ⟨its,r1,p1,_⟩:=I.tuple ha
  obtain ⟨its2,r2,p2,_⟩:=I.tuple hb
  cases r1
  exact ZkY p1 p2 ⟨.ref b,H,I,rfl,q⟩
theorem X4 {f:Int→Int→Option T} {x y t:T} (e:intT f x y=some t):∃ i j,x = .int i∧y = .int j∧f i j=some t:=by
  cases x with
  | int i=>cases y with
    | int j=>exact ⟨i,j,rfl,rfl,e⟩
    | _=>cases e
  | _=>cases e
theorem Zaw {f:Int→Int→Bool} {x y:T} {c:Bool} (e:ZbS f x y=some c):∃ i j,x = .int i∧y = .int j∧f i j=c:=by
  cases x with
  | int i=>cases y with
    | int j=>exact ⟨i,j,rfl,rfl,Option.some.inj e⟩
    | _=>cases e
  | _=>cases e
noncomputable def fBin (op:Operator) (x y:W) (m:Mem):Res W:=pur ((view x m).bind fun x=>(view y m).bind fun y=>binT op x y) m
theorem Zfx:OpR X (binaryOp .Add) (r2 X.K xr (fBin .Add)):=by
  rintro pins s σ H x y v u Q I rx ry ⟨cm,m,a,b,M,ra,rb,ho⟩
  obtain ⟨t,e,ho⟩:=QD ho
  obtain ⟨ta,tb,ea,eb,e⟩:=ZbU e
  change addT ta tb=some t at e
  unfold addT at e
  have hz:=ZV
  split at e
  · cases e
    cases (Zd ra ea (fun _ z=>by cases z)).vint
    cases (Zd rb eb (fun _ z=>by cases z)).vint
    exact op_add pins s σ H _ _ v u Q I rx ry ⟨_,_,rfl,rfl,ans ho M (.int _)⟩
  · split at e <;> cases e
    cases (Zd ra ea (fun _ z=>by cases z)).vstr
    cases (Zd rb eb (fun _ z=>by cases z)).vstr
    exact Zfy pins s σ H _ _ v u Q I rx ry ⟨_,_,rfl,rfl,by rw [J5,J5]; omega,by rw [Zgj]; exact ans ho M (.str _)⟩
  · split at e <;> cases e
    obtain ⟨p,vs,rfl,h1,r1⟩:=(Zd ra ea (fun _ z=>by cases z)).itup
    obtain ⟨q,us,rfl,h2,r2⟩:=(Zd rb eb (fun _ z=>by cases z)).itup
    have l1:=r1.length
    have l2:=r2.length
    cases vs with
    | nil =>
      cases r1
      exact Zkq pins s σ H _ _ v u Q I rx ry ⟨p,q,us,rfl,rfl,h1,h2,ans ho M (.mtup h2 r2)⟩
    | cons v1 vs =>
      refine Zkt pins s σ H _ _ v u Q I rx ry ⟨p,q,_,us,rfl,rfl,h1,h2,by simp,by omega,fun z=>?_,fun z l hl=>Zci ho M (Qq r1 r2) hl⟩
      subst z
      cases r2
      rw [List.append_nil] at ho
      exact ans ho M (.mtup h1 r1)
  · split at e <;> cases e
    obtain ⟨p,vs,rfl,h1,r1⟩:=ZG M ra ea
    obtain ⟨q,us,rfl,h2,r2⟩:=ZG M rb eb
    have l1:=r1.length
    have l2:=r2.length
    exact op_cat pins s σ H _ _ v u Q I rx ry ⟨p,q,vs,us,rfl,rfl,h1,h2,by omega,fun l hl=>Zcj ho M (Qq r1 r2) hl⟩
  all_goals cases e
theorem Zft:OpR X (binaryOp .Sub) (r2 X.K xr (fBin .Sub)):=by
  rintro pins s σ H x y v u Q I rx ry ⟨cm,m,a,b,M,ra,rb,ho⟩
  obtain ⟨t,e,ho⟩:=QD ho
  obtain ⟨ta,tb,ea,eb,e⟩:=ZbU e
  obtain ⟨i,j,rfl,rfl,e2⟩:=X4 e
  cases (Zd ra ea (fun _ z=>by cases z)).vint
  cases (Zd rb eb (fun _ z=>by cases z)).vint
  cases e2
  exact op_sub pins s σ H _ _ v u Q I rx ry ⟨_,_,rfl,rfl,ans ho M (.int _)⟩
theorem Zea:OpR X (binaryOp .FloorDiv) (r2 X.K xr (fBin .FloorDiv)):=by
  rintro pins s σ H x y v u Q I rx ry ⟨cm,m,a,b,M,ra,rb,ho⟩
  obtain ⟨t,e,ho⟩:=QD ho
  obtain ⟨ta,tb,ea,eb,e⟩:=ZbU e
  obtain ⟨i,j,rfl,rfl,e2⟩:=X4 e
  cases (Zd ra ea (fun _ z=>by cases z)).vint
  cases (Zd rb eb (fun _ z=>by cases z)).vint
  split at e2 <;> cases e2
  exact Zks pins s σ H _ _ v u Q I rx ry ⟨_,_,rfl,rfl,‹_∧_›,ans ho M (.int _)⟩
theorem Zfw:OpR X (binaryOp .Mod) (r2 X.K xr (fBin .Mod)):=by
  rintro pins s σ H x y v u Q I rx ry ⟨cm,m,a,b,M,ra,rb,ho⟩
  obtain ⟨t,e,ho⟩:=QD ho
  obtain ⟨ta,tb,ea,eb,e⟩:=ZbU e
  obtain ⟨i,j,rfl,rfl,e2⟩:=X4 e
  cases (Zd ra ea (fun _ z=>by cases z)).vint
  cases (Zd rb eb (fun _ z=>by cases z)).vint
  split at e2 <;> cases e2
  exact op_mod pins s σ H _ _ v u Q I rx ry ⟨_,_,rfl,rfl,‹_›,ans ho M (.int _)⟩
theorem Zfu:OpR X (binaryOp .Pow) (r2 X.K xr (fBin .Pow)):=by
  rintro pins s σ H x y v u Q I rx ry ⟨cm,m,a,b,M,ra,rb,ho⟩
  obtain ⟨t,e,ho⟩:=QD ho
  obtain ⟨ta,tb,ea,eb,e⟩:=ZbU e
  obtain ⟨i,j,rfl,rfl,e2⟩:=X4 e
  cases (Zd ra ea (fun _ z=>by cases z)).vint
  cases (Zd rb eb (fun _ z=>by cases z)).vint
  have hc:0≤j∧j≤1000∧i.natAbs < 2 ^ 64:=by
    by_cases hc:0≤j∧j≤1000∧i.natAbs < 2 ^ 64
    · exact hc
    · rw [if_neg hc] at e2; cases e2
  rw [if_pos hc] at e2
  cases e2
  exact op_pow pins s σ H _ _ v u Q I rx ry ⟨_,_,rfl,rfl,⟨hc.1,by omega,hc.2.2⟩,ans ho M (.int _)⟩
theorem Zaq {α β:Type} {F:α→β→Prop} {xs:List α} {ys:List β} (h:Paired F xs ys):∀ k:Nat,Paired F (repT xs k) (List.replicate k ys).flatten
  | 0=>.nil
  | k + 1=>by
    unfold repT
    rw [List.replicate_succ,List.replicate_succ,List.flatten_cons,List.flatten_cons]
    exact Qq h (Zaq h k)
end
end Mi
end
section
namespace Mi
open PySem PySem.Spec PyProof.Rows L2
section
variable {K:PySem.W.Frag} {cm:List Addr} {m:Mem} {H:Hp} {xr:XR} {X:Cx}
noncomputable def fCmp (op:CmpOp) (x y:W) (m:Mem):Res W:=pur (((view x m).bind fun x=>(view y m).bind fun y=>cmpT op x y).map .bl) m
theorem Xw {op:CmpOp} {a b:W} {k:W→List Addr→Mem→Hp→Prop} (h:OkR K (fCmp op a b m) xr cm m H k):∃ ta tb c,view a m=some ta∧view b m=some tb∧cmpT op ta tb=some c∧OkR K (.ok (.t (.bl c)) m) xr cm m H k:=by
  obtain ⟨t,e,ho⟩:=QD h
  cases q:((view a m).bind fun x=>(view b m).bind fun y=>cmpT op x y) with
  | none=>rw [q] at e; cases e
  | some c =>
    rw [q] at e; cases e
    obtain ⟨ta,tb,ea,eb,e⟩:=ZbU q
    exact ⟨ta,tb,c,ea,eb,e,ho⟩
noncomputable def flV:T→V
  | .bl b=>.bl b
  | .int i=>.int i
  | .str cs=>.str ⟨cs.toArray⟩
  | _=>.non
theorem RT.fl {t:T} {v:V} (h:RT K cm m H t v) (f:flat t=true):v=flV t:=by
  cases h <;> first | rfl | cases f
theorem JH {w:W} {v:V} {t:T} (h:RW K cm m H w v) (e:view w m=some t) (f:flat t=true):v=flV t :=
  (Zd h e (fun ts z=>by subst z; cases f)).fl f
theorem ZdZ {a b:List Nat}:(⟨a.toArray⟩:Str)=⟨b.toArray⟩↔a=b:=by
  constructor
  · intro h
    injection h with h
    simpa using h
  · intro h; rw [h]
theorem Zi1 {a b:List Nat}:decide (V.str ⟨a.toArray⟩=V.str ⟨b.toArray⟩)=(a == b):=by
  by_cases h:a=b
  · subst h; simp
  · rw [beq_eq_false_iff_ne.mpr h]
    exact decide_eq_false fun z=>h (ZdZ.mp (V.str.inj z))
theorem Zgt {x y:T} (h:Zcr x y=true):flat x=true∧flat y=true∧scal (flV x) (flV y)=true∧decide (flV x=flV y)=eqT x y:=by
  cases x <;> cases y <;> first
    | (cases h; done)
    | (refine ⟨rfl,rfl,rfl,?_⟩; unfold eqT; first | exact Zeq | exact ZhE | exact Zi1 | exact decide_eq_true rfl | exact decide_eq_false (fun z=>nomatch z))
theorem ZkW (x y:T):cmpT .Eq x y=if Zcr x y || (Zg 60 x && Zg 60 y) then some (eqT x y) else none:=by cases x <;> cases y <;> rfl
theorem ZkV (x y:T):cmpT .NotEq x y=if Zcr x y || (Zg 60 x && Zg 60 y) then some (!eqT x y) else none:=by cases x <;> cases y <;> rfl
mutual
noncomputable def pyT:T→PyData
  | .bl b=>.bool b
  | .int i=>.int i
  | .str cs=>.str ⟨cs.toArray⟩
  | .tup ts=>.tuple (pyTs ts)
  | .lst ts=>.list (pyTs ts)
  | _=>.none
noncomputable def pyTs:List T→List PyData
  | []=>[]
  | t :: ts=>pyT t :: pyTs ts
end
mutual
theorem Zbi:∀ (n:Nat) (t:T),Zg n t=true→PyData.canLay0 (pyT t)=true∧PyData.depth (pyT t)≤n
  | n,.non,h=>⟨by simp [pyT,PyData.canLay0],by simp [pyT,PyData.depth]⟩
  | n,.bl b,h=>⟨by rw [pyT]; simp [PyData.canLay0],by rw [pyT]; simp [PyData.depth]⟩
  | n,.int i,h=>⟨by rw [pyT]; simp [PyData.canLay0],by rw [pyT]; simp [PyData.depth]⟩
  | n,.str cs,h=>⟨by rw [pyT,PyData.canLay0]; rw [Zg] at h; exact h,by rw [pyT]; simp [PyData.depth]⟩
  | 0,.tup ts,h=>by simp [Zg] at h
  | 0,.lst ts,h=>by simp [Zg] at h
  | n + 1,.tup ts,h=>by
    rw [Zg] at h
    have:=Zd4 n ts h
    exact ⟨by rw [pyT,PyData.canLay0]; exact this.1,by rw [pyT]; simp only [PyData.depth]; omega⟩
  | n + 1,.lst ts,h=>by
    rw [Zg] at h
    have:=Zd4 n ts h
    exact ⟨by rw [pyT,PyData.canLay0]; exact this.1,by rw [pyT]; simp only [PyData.depth]; omega⟩
  | n,.dct _ _,h=>by cases n <;> simp [Zg] at h
  | n,.scr _,h=>by cases n <;> simp [Zg] at h
theorem Zd4:∀ (n:Nat) (ts:List T),Qh n ts=true→PyData.canLayAll0 (pyTs ts)=true∧PyData.depthAll (pyTs ts)≤n
  | n,[],h=>⟨by rw [pyTs]; simp [PyData.canLayAll0],by rw [pyTs]; simp [PyData.depthAll]⟩
  | n,t :: ts,h=>by
    rw [Qh,Bool.and_eq_true] at h
    have h1:=Zbi n t h.1
    have h2:=Zd4 n ts h.2
    refine ⟨by rw [pyTs,PyData.canLayAll0,h1.1,h2.1]; rfl,?_⟩
    rw [pyTs,PyData.depthAll]
    omega
end
theorem str_beq {a b:List Nat}:((⟨a.toArray⟩:Str) == ⟨b.toArray⟩)=(a == b):=by
  by_cases h:a=b
  · subst h; simp
  · rw [beq_eq_false_iff_ne.mpr h,beq_eq_false_iff_ne.mpr fun z=>h (ZdZ.mp z)]
mutual
theorem ZeH:∀ (n k:Nat) (x y:T),Zg n x=true→Zg k y=true→PyData.eqv (pyT x) (pyT y)=eqT x y
  | n,k,.tup xs,.tup ys,h1,h2=>by
    cases n with
    | zero=>simp [Zg] at h1
    | succ n=>cases k with
      | zero=>simp [Zg] at h2
      | succ k =>
        rw [Zg] at h1 h2
        rw [pyT,pyT,PyData.eqv,eqT]
        exact Zd5 n k xs ys h1 h2
  | n,k,.lst xs,.lst ys,h1,h2=>by
    cases n with
    | zero=>simp [Zg] at h1
    | succ n=>cases k with
      | zero=>simp [Zg] at h2
      | succ k =>
        rw [Zg] at h1 h2
        rw [pyT,pyT,PyData.eqv,eqT]
        exact Zd5 n k xs ys h1 h2
  | n,k,.str xs,.str ys,_,_=>by rw [pyT,pyT,PyData.eqv,eqT]; exact str_beq
  | n,k,.non,y,_,h2=>by cases y <;> first | (simp [pyT,PyData.eqv,eqT]; done) | (cases k <;> simp [Zg] at h2)
  | n,k,.bl b,y,_,h2=>by cases y <;> first | (simp [pyT,PyData.eqv,eqT,b2i]; done) | (cases k <;> simp [Zg] at h2)
  | n,k,.int b,y,_,h2=>by cases y <;> first | (simp [pyT,PyData.eqv,eqT,b2i]; done) | (cases k <;> simp [Zg] at h2)
  | n,k,.str xs,.non,_,_=>by simp [pyT,PyData.eqv,eqT]
  | n,k,.str xs,.bl _,_,_=>by simp [pyT,PyData.eqv,eqT]
  | n,k,.str xs,.int _,_,_=>by simp [pyT,PyData.eqv,eqT]
  | n,k,.str xs,.tup _,_,_=>by simp [pyT,PyData.eqv,eqT]
  | n,k,.str xs,.lst _,_,_=>by simp [pyT,PyData.eqv,eqT]
  | n,k,.tup xs,.non,_,_=>by simp [pyT,PyData.eqv,eqT]
  | n,k,.tup xs,.bl _,_,_=>by simp [pyT,PyData.eqv,eqT]
  | n,k,.tup xs,.int _,_,_=>by simp [pyT,PyData.eqv,eqT]
  | n,k,.tup xs,.str _,_,_=>by simp [pyT,PyData.eqv,eqT]
  | n,k,.tup xs,.lst _,_,_=>by simp [pyT,PyData.eqv,eqT]
  | n,k,.lst xs,.non,_,_=>by simp [pyT,PyData.eqv,eqT]
  | n,k,.lst xs,.bl _,_,_=>by simp [pyT,PyData.eqv,eqT]
  | n,k,.lst xs,.int _,_,_=>by simp [pyT,PyData.eqv,eqT]
  | n,k,.lst xs,.str _,_,_=>by simp [pyT,PyData.eqv,eqT]
  | n,k,.lst xs,.tup _,_,_=>by simp [pyT,PyData.eqv,eqT]
  | n,k,x,.dct _ _,_,h2=>by cases k <;> simp [Zg] at h2
  | n,k,x,.scr _,_,h2=>by cases k <;> simp [Zg] at h2
  | n,k,.dct _ _,y,h1,_=>by cases n <;> simp [Zg] at h1
  | n,k,.scr _,y,h1,_=>by cases n <;> simp [Zg] at h1
theorem Zd5:∀ (n k:Nat) (xs ys:List T),Qh n xs=true→Qh k ys=true→PyData.eqvAll (pyTs xs) (pyTs ys)=eqTs xs ys
  | n,k,[],[],_,_=>by rw [pyTs,PyData.eqvAll,eqTs]
  | n,k,[],_ :: _,_,_=>by rw [pyTs,pyTs,PyData.eqvAll,eqTs] <;> simp
  | n,k,_ :: _,[],_,_=>by rw [pyTs,pyTs,PyData.eqvAll,eqTs] <;> simp
  | n,k,x :: xs,y :: ys,h1,h2=>by
    rw [Qh,Bool.and_eq_true] at h1 h2
    rw [pyTs,pyTs,PyData.eqvAll,eqTs,ZeH n k x y h1.1 h2.1,Zd5 n k xs ys h1.2 h2.2]
end
theorem XQ {pins:List (Addr×Obj)} {σ:L2.St} {s:Shared} (I:Inv X pins σ H s):∀ {ts:List T} {vs:List V} {us:List Value},ts.length=vs.length→(∀ (i:Nat) t v u,ts[i]? = some t→vs[i]? = some v→RelV v u→∃ as,Reads s.heap u (pyT t) as)→Vals vs us→∃ as,ReadsAll s.heap us (pyTs ts) as
  | [],[],_,_,_,.nil=>⟨_,by rw [pyTs]; exact .nil⟩
  | t :: ts,v :: vs,_,hl,h,.cons r rs=>by
    obtain ⟨as,h1⟩:=h 0 t v _ rfl rfl r
    obtain ⟨bs,h2⟩:=XQ I (ts:=ts) (vs:=vs) (by simpa using hl) (fun i t v u a b c=>h (i + 1) t v u (by simpa using a) (by simpa using b) c) rs
    exact ⟨_,by rw [pyTs]; exact .cons h1 h2⟩
  | [],_ :: _,_,hl,_,_=>by simp at hl
  | _ :: _,[],_,hl,_,_=>by simp at hl
theorem RT.reads {pins:List (Addr×Obj)} {σ:L2.St} {s:Shared} {K:PySem.W.Frag} (hK:X.K=K) (I:Inv X pins σ H s) {t:T} {v:V} (h:RT K cm m H t v):∀ {n:Nat} {u:Value},Zg n t=true→RelV v u→∃ as,Reads s.heap u (pyT t) as:=by
  subst hK
  induction h with
  | non=>intro n u _ r; cases r; exact ⟨[],by simp only [pyT]; exact .none⟩
  | bl b=>intro n u _ r; cases r; exact ⟨_,by rw [pyT]; exact .bool b⟩
  | int i=>intro n u _ r; obtain ⟨t,rfl⟩:=r; exact ⟨_,by rw [pyT]; exact .int i t⟩
  | str cs=>intro n u _ r; obtain ⟨t,rfl⟩:=r; exact ⟨_,by rw [pyT]; exact .str _ t⟩
  | @tup a ts vs h1 h2 h3 ih =>
    intro n u hd r
    cases n with
    | zero=>simp [Zg] at hd
    | succ n =>
      rw [Zg] at hd
      cases r
      obtain ⟨its,rv,⟨o,ho,hc,k,hdt⟩,hz⟩:=I.tuple h1
      have hall:∀ (i:Nat) t,ts[i]? = some t→Zg n t=true:=fun i t e=>by
        have:∀ {l:List T},Qh n l=true→∀ x∈l,Zg n x=true:=fun {l}=>by
          induction l with
          | nil=>intro _ x hx; cases hx
          | cons y l ih=>intro h x hx; rw [Qh,Bool.and_eq_true] at h; rcases List.mem_cons.mp hx with rfl | hx; exact h.1; exact ih h.2 x hx
        exact this hd t (List.mem_of_getElem? e)
      obtain ⟨as,hr⟩:=XQ I h2 (fun i t v u e1 e2 r=>ih i t v e1 e2 (hall i t e1) r) rv
      exact ⟨_,by rw [pyT]; exact .tuple ho hc hdt (by simpa using hr)⟩
  | @lst a ts vs h1 h2 h3 h4 ih =>
    intro n u hd r
    cases n with
    | zero=>simp [Zg] at hd
    | succ n =>
      rw [Zg] at hd
      cases r
      obtain ⟨its,k,rv,ho,hz⟩:=I.lst h1
      have hall:∀ (i:Nat) t,ts[i]? = some t→Zg n t=true:=fun i t e=>by
        have:∀ {l:List T},Qh n l=true→∀ x∈l,Zg n x=true:=fun {l}=>by
          induction l with
          | nil=>intro _ x hx; cases hx
          | cons y l ih=>intro h x hx; rw [Qh,Bool.and_eq_true] at h; rcases List.mem_cons.mp hx with rfl | hx; exact h.1; exact ih h.2 x hx
        exact this hd t (List.mem_of_getElem? e)
      obtain ⟨as,hr⟩:=XQ I h3 (fun i t v u e1 e2 r=>ih i t v e1 e2 (hall i t e1) r) rv
      exact ⟨_,by rw [pyT]; exact .list ho rfl rfl (by simpa using hr)⟩
  | dct _ _ _ _ _ _=>intro n u hd _; cases n <;> simp [Zg] at hd
  | scr _ _=>intro n u hd _; cases n <;> simp [Zg] at hd
theorem Jy {pins:List (Addr×Obj)} {σ:L2.St} {s:Shared} (I:Inv X pins σ H s) (M:MemR X.K cm m H) {w:W} {t:T} {v:V} {u:Value} (r:RW X.K cm m H w v) (e:view w m=some t) (rv:RelV v u) {n:Nat} (hd:Zg n t=true):∃ as,Reads s.heap u (pyT t) as:=by
  cases t with
  | lst ts =>
    cases n with
    | zero=>simp [Zg] at hd
    | succ n =>
      rw [Zg] at hd
      obtain ⟨a,vs,rfl,h1,rr⟩:=ZG M r e
      cases rv
      obtain ⟨its,k,rv,ho,hz⟩:=I.lst h1
      obtain ⟨as,hr⟩:=XQ I rr.length (fun i t v u e1 e2 r=>RT.reads rfl I (JC rr i t v e1 e2) (n:=n) (by
        have:∀ {l:List T},Qh n l=true→∀ x∈l,Zg n x=true:=fun {l}=>by
          induction l with
          | nil=>intro _ x hx; cases hx
          | cons y l ih=>intro h x hx; rw [Qh,Bool.and_eq_true] at h; rcases List.mem_cons.mp hx with rfl | hx; exact h.1; exact ih h.2 x hx
        exact this hd t (List.mem_of_getElem? e1)) r) rv
      exact ⟨_,by rw [pyT]; exact .list ho rfl rfl (by simpa using hr)⟩
  | _=>exact RT.reads rfl I (Zd r e (fun _ z=>by cases z)) hd rv
theorem ZgX (hu:X.A.units + 64 < cLine):OpR X (compareOp .Eq) (r2 X.K xr (fCmp .Eq)):=by
  rintro pins s σ H x y v u Q I rx ry ⟨cm,m,a,b,M,ra,rb,ho⟩
  obtain ⟨ta,tb,c,ea,eb,e,ho⟩:=Xw ho
  rw [ZkW] at e
  split at e <;> cases e
  rename_i hs
  rw [Bool.or_eq_true] at hs
  rcases hs with hs | hs
  · obtain ⟨f1,f2,f3,f4⟩:=Zgt hs
    cases JH ra ea f1
    cases JH rb eb f2
    exact op_eq pins s σ H _ _ v u Q I rx ry ⟨f3,by rw [f4]; exact ans ho M (.bl _)⟩
  · rw [Bool.and_eq_true] at hs
    obtain ⟨as,ha⟩:=Jy I M ra ea rx hs.1
    obtain ⟨bs,hb⟩:=Jy I M rb eb ry hs.2
    have d1:=Zbi 60 ta hs.1
    have d2:=Zbi 60 tb hs.2
    refine SeqAt.compareEq_reads ha hb d1.1 d2.1 (by omega) ⟨.bl (eqT ta tb),H,I,?_,ans ho M (.bl _)⟩
    rw [ZeH 60 60 ta tb hs.1 hs.2]
    rfl
theorem ZgQ (hu:X.A.units + 64 < cLine):OpR X (compareOp .NotEq) (r2 X.K xr (fCmp .NotEq)):=by
  rintro pins s σ H x y v u Q I rx ry ⟨cm,m,a,b,M,ra,rb,ho⟩
  obtain ⟨ta,tb,c,ea,eb,e,ho⟩:=Xw ho
  rw [ZkV] at e
  split at e <;> cases e
  rename_i hs
  rw [Bool.or_eq_true] at hs
  rcases hs with hs | hs
  · obtain ⟨f1,f2,f3,f4⟩:=Zgt hs
    cases JH ra ea f1
    cases JH rb eb f2
    exact op_ne pins s σ H _ _ v u Q I rx ry ⟨f3,by rw [f4]; exact ans ho M (.bl _)⟩
  · rw [Bool.and_eq_true] at hs
    obtain ⟨as,ha⟩:=Jy I M ra ea rx hs.1
    obtain ⟨bs,hb⟩:=Jy I M rb eb ry hs.2
    have d1:=Zbi 60 ta hs.1
    have d2:=Zbi 60 tb hs.2
    refine SeqAt.compareNe_reads ha hb d1.1 d2.1 (by omega) ⟨.bl (!eqT ta tb),H,I,?_,ans ho M (.bl _)⟩
    rw [ZeH 60 60 ta tb hs.1 hs.2]
    rfl
theorem Zjk:∀ a b:List Nat,nlt a b=decide (a < b)
  | [],[]=>by simp [nlt]
  | [],_ :: _=>by simp [nlt]
  | _ :: _,[]=>by simp [nlt]
  | a :: x,b :: y=>by
    unfold nlt
    rw [Zjk x y]
    by_cases h:a < b
    · rw [if_pos h]
      exact (decide_eq_true (List.cons_lt_cons_iff.mpr (.inl h))).symm
    · rw [if_neg h]
      by_cases h2:b < a
      · rw [if_pos h2]
        refine (decide_eq_false fun z=>?_).symm
        rcases List.cons_lt_cons_iff.mp z with z | ⟨z,_⟩ <;> omega
      · rw [if_neg h2]
        have e:a=b:=by omega
        subst e
        simp
theorem ZgR:OpR X (compareOp .Lt) (r2 X.K xr (fCmp .Lt)):=by
  rintro pins s σ H x y v u Q I rx ry ⟨cm,m,a,b,M,ra,rb,ho⟩
  obtain ⟨ta,tb,c,ea,eb,e,ho⟩:=Xw ho
  change ltT ta tb=some c at e
  cases ta with
  | int i=>cases tb with
    | int j =>
      cases e
      cases (Zd ra ea (fun _ z=>by cases z)).vint
      cases (Zd rb eb (fun _ z=>by cases z)).vint
      exact op_lt pins s σ H _ _ v u Q I rx ry ⟨_,_,rfl,rfl,ans ho M (.bl _)⟩
    | _=>cases e
  | str i=>cases tb with
    | str j =>
      cases e
      cases (Zd ra ea (fun _ z=>by cases z)).vstr
      cases (Zd rb eb (fun _ z=>by cases z)).vstr
      refine ZgO pins s σ H _ _ v u Q I rx ry ⟨_,_,rfl,rfl,?_⟩
      have:=ans ho M (.bl _)
      rw [Zjk] at this
      exact this
    | _=>cases e
  | _=>cases e
theorem ZgS:OpR X (compareOp .LtE) (r2 X.K xr (fCmp .LtE)):=by
  rintro pins s σ H x y v u Q I rx ry ⟨cm,m,a,b,M,ra,rb,ho⟩
  obtain ⟨ta,tb,c,ea,eb,e,ho⟩:=Xw ho
  obtain ⟨i,j,rfl,rfl,rfl⟩:=Zaw e
  cases (Zd ra ea (fun _ z=>by cases z)).vint
  cases (Zd rb eb (fun _ z=>by cases z)).vint
  exact op_le pins s σ H _ _ v u Q I rx ry ⟨_,_,rfl,rfl,ans ho M (.bl _)⟩
theorem ZgV:OpR X (compareOp .Gt) (r2 X.K xr (fCmp .Gt)):=by
  rintro pins s σ H x y v u Q I rx ry ⟨cm,m,a,b,M,ra,rb,ho⟩
  obtain ⟨ta,tb,c,ea,eb,e,ho⟩:=Xw ho
  obtain ⟨i,j,rfl,rfl,rfl⟩:=Zaw e
  cases (Zd ra ea (fun _ z=>by cases z)).vint
  cases (Zd rb eb (fun _ z=>by cases z)).vint
  exact op_gt pins s σ H _ _ v u Q I rx ry ⟨_,_,rfl,rfl,ans ho M (.bl _)⟩
theorem ZgW:OpR X (compareOp .GtE) (r2 X.K xr (fCmp .GtE)):=by
  rintro pins s σ H x y v u Q I rx ry ⟨cm,m,a,b,M,ra,rb,ho⟩
  obtain ⟨ta,tb,c,ea,eb,e,ho⟩:=Xw ho
  obtain ⟨i,j,rfl,rfl,rfl⟩:=Zaw e
  cases (Zd ra ea (fun _ z=>by cases z)).vint
  cases (Zd rb eb (fun _ z=>by cases z)).vint
  exact op_ge pins s σ H _ _ v u Q I rx ry ⟨_,_,rfl,rfl,ans ho M (.bl _)⟩
theorem ZiY {a b:List Nat}:eqV (.str ⟨a.toArray⟩) (.str ⟨b.toArray⟩)=(a == b):=by
  show ((⟨a.toArray⟩:Str) == ⟨b.toArray⟩)=(a == b)
  by_cases h:a=b
  · subst h; simp
  · rw [beq_eq_false_iff_ne.mpr h,beq_eq_false_iff_ne.mpr fun z=>h (ZdZ.mp z)]
theorem fl_eqV {x y:T} (f:flat x=true) (g:flat y=true):eqV (flV y) (flV x)=eqT y x:=by
  cases x <;> cases y <;> first
    | (cases f; done)
    | (cases g; done)
    | (unfold eqT; exact ZiY)
    | (unfold eqT; rfl)
theorem RTs.fl {ts:List T} {vs:List V} (h:RTs K cm m H ts vs) (f:ts.all flat=true):vs=ts.map flV∧vs.all ZaW=true:=by
  induction h with
  | nil=>exact ⟨rfl,rfl⟩
  | @cons t v _ _ r _ ih =>
    rw [List.all_cons,Bool.and_eq_true] at f
    obtain ⟨h1,h2⟩:=ih f.2
    have h3:=r.fl f.1
    subst h3
    refine ⟨by rw [List.map_cons,h1],?_⟩
    rw [List.all_cons,h2,Bool.and_true]
    cases t <;> first | rfl | (cases f.1)
theorem ZhR {x:T} (f:flat x=true):∀ {ts:List T},ts.all flat=true→inV (flV x) (ts.map flV)=ts.any fun t=>eqT t x
  | [],_=>rfl
  | t :: ts,g=>by
    rw [List.all_cons,Bool.and_eq_true] at g
    have ih:=ZhR f g.2
    unfold inV at ih ⊢
    rw [List.map_cons,List.any_cons,List.any_cons,ih,fl_eqV f g.1]
theorem Za4 {x:T} (f:flat x=true):ZaW (flV x)=true:=by cases x <;> first | rfl | cases f
end
end Mi
end
section
namespace Mi
open PySem PySem.Spec PyProof.Rows L2
section
variable {K:PySem.W.Frag} {cm:List Addr} {m:Mem} {H:Hp} {xr:XR} {X:Cx}
theorem found1 (b:List Nat) (a:Nat):(!(Builtin.Str.occurrences ⟨b.toArray⟩ ⟨#[a]⟩ 0 (⟨b.toArray⟩:Str).length 1).isEmpty)=decide (a∈b):=by
  have:=PySem.StrLaws.found_one (⟨b.toArray⟩:Str) a
  simpa using this
theorem Zae {x y:T} {c:Bool} (e:cmpT .In x y=some c):(∃ a b,x = .str a∧y = .str b∧c = !(Builtin.Str.occurrences ⟨b.toArray⟩ ⟨a.toArray⟩ 0 (⟨b.toArray⟩:Str).length 1).isEmpty)∨(flat x=true∧∃ ts,(y = .tup ts∨y = .lst ts)∧ts.all flat=true∧c=ts.any fun t=>eqT t x)∨∃ ts,y = .lst ts∧Zg 59 x=true∧Qh 59 ts=true∧c=ts.any fun t=>eqT t x:=by
  have hh:∀ {x y:T} {c:Bool},hasT x y=some c→(flat x=true∧∃ ts,(y = .tup ts∨y = .lst ts)∧ts.all flat=true∧c=ts.any fun t=>eqT t x)∨∃ ts,y = .lst ts∧Zg 59 x=true∧Qh 59 ts=true∧c=ts.any fun t=>eqT t x:=by
    intro x y c e
    unfold hasT at e
    split at e
    · split at e <;> cases e
      rename_i h
      rw [Bool.and_eq_true] at h
      exact .inl ⟨h.1,_,.inl rfl,h.2,rfl⟩
    · split at e
      · cases e
        rename_i h
        rw [Bool.and_eq_true] at h
        exact .inl ⟨h.1,_,.inr rfl,h.2,rfl⟩
      · split at e <;> cases e
        rename_i h
        rw [Bool.and_eq_true] at h
        exact .inr ⟨_,rfl,h.1,h.2,rfl⟩
    · cases e
  cases x with
  | str cs =>
    cases cs with
    | nil=>cases y <;> exact .inr (hh e)
    | cons a r =>
      cases r with
      | nil =>
        cases y with
        | str b=>cases e; exact .inl ⟨[a],b,rfl,rfl,(found1 b a).symm⟩
        | _=>exact .inr (hh e)
      | cons a' r =>
        cases y with
        | str b=>cases e; exact .inl ⟨_,b,rfl,rfl,rfl⟩
        | _=>exact .inr (hh e)
  | _=>cases y <;> exact .inr (hh e)
theorem Zi0 {ts:List T} {n:Nat} (h:Qh n ts=true):∀ x∈ts,Zg n x=true:=by
  induction ts with
  | nil=>intro x hx; cases hx
  | cons y l ih =>
    intro x hx
    rw [Qh,Bool.and_eq_true] at h
    rcases List.mem_cons.mp hx with rfl | hx
    · exact h.1
    · exact ih h.2 x hx
theorem Zh2 {vs:List V} {us:List Value} (r:Vals vs us):∀ (i:Nat) (u:Value),us[i]? = some u→∃ v,vs[i]? = some v∧RelV v u:=by
  induction r with
  | nil=>intro i u h; simp at h
  | cons r rs ih =>
    intro i u h
    cases i with
    | zero=>simp at h; subst h; exact ⟨_,rfl,r⟩
    | succ i=>exact ih i u (by simpa using h)
theorem ZhB {pins:List (Addr×Obj)} {σ:L2.St} {s:Shared} {H:Hp} {w:W} {tx:T} {xv:V} {v:Value} {p:Addr} {ts:List T} {vs:List V} (hu:X.A.units + 64 < cLine) (I:Inv X pins σ H s) (M:MemR X.K cm m H) (ra:RW X.K cm m H w xv) (ea:view w m=some tx) (rx:RelV xv v) (dx:Zg 59 tx=true) (h1:H p=some (.lst vs)) (r:RTs X.K cm m H ts vs) (dt:Qh 59 ts=true) :
    ∃ (its:Array Value) (e:Value→Bool),s.heap.IsList p its∧(∀ y,y∈its→SeqAt.EqAt X.A.in1 s y v (e y))∧its.any e=ts.any fun t=>eqT t tx:=by
  classical
  obtain ⟨as,hx⟩:=Jy I M ra ea rx dx
  obtain ⟨its,k,rv,ho,hz⟩:=I.lst h1
  have hlen:ts.length=its.length:=r.length.trans rv.length
  have at_:∀ (i:Nat) (t:T) (y:Value),ts[i]? = some t→its[i]? = some y→SeqAt.EqAt X.A.in1 s y v (eqT t tx):=by
    intro i t y e1 e2
    obtain ⟨u,e3,e4⟩:=Zh2 rv i y e2
    have d:=Zi0 dt t (List.mem_of_getElem? e1)
    obtain ⟨bs,hb⟩:=RT.reads rfl I (JC r i t u e1 e3) (n:=59) d e4
    have l1:=Zbi 59 t d
    have l2:=Zbi 59 tx dx
    have:=SeqAt.eqAt_reads (pyT t) (pyT tx) X.A.in1 s y v bs as hb hx l1.1 l2.1 (by
      have:X.A.in1.units≤X.A.units + 1:=by simp [Around.in1]
      omega)
    rw [ZeH 59 59 t tx d dx] at this
    exact this
  refine ⟨its.toArray,fun y=>decide (∃ (i:Nat) (t:T),ts[i]? = some t∧its[i]? = some y∧eqT t tx=true),⟨_,ho,rfl,k,rfl⟩,fun y hy=>?_,?_⟩
  · by_cases q:∃ (i:Nat) (t:T),ts[i]? = some t∧its[i]? = some y∧eqT t tx=true
    · dsimp only; rw [decide_eq_true q]
      obtain ⟨i,t,e1,e2,e3⟩:=q
      have:=at_ i t y e1 e2
      rw [e3] at this
      exact this
    · dsimp only; rw [decide_eq_false q]
      obtain ⟨i,hi,e2⟩:=List.getElem_of_mem (show y∈its by simpa using hy)
      have hi':i < ts.length:=by omega
      have e1:ts[i]? = some ts[i]:=List.getElem?_eq_getElem hi'
      have e2:its[i]? = some y:=by rw [← e2]; exact List.getElem?_eq_getElem hi
      have:=at_ i ts[i] y e1 e2
      cases q2:eqT ts[i] tx with
      | false=>rw [q2] at this; exact this
      | true=>exact absurd ⟨i,ts[i],e1,e2,q2⟩ q
  · rw [Bool.eq_iff_iff,List.any_toArray,List.any_eq_true,List.any_eq_true]
    constructor
    · rintro ⟨y,hy,q⟩
      obtain ⟨i,t,e1,_,e3⟩:=of_decide_eq_true q
      exact ⟨t,List.mem_of_getElem? e1,e3⟩
    · rintro ⟨t,ht,e3⟩
      obtain ⟨i,hi,e1⟩:=List.getElem_of_mem ht
      have hi':i < its.length:=by omega
      exact ⟨its[i],List.getElem_mem hi',decide_eq_true ⟨i,t,by rw [← e1]; exact List.getElem?_eq_getElem hi,List.getElem?_eq_getElem hi',e3⟩⟩
theorem ZfX (x y:T):cmpT .NotIn x y=(cmpT .In x y).map (!·):=by
  cases x with
  | str cs =>
    cases cs with
    | nil=>cases y <;> rfl
    | cons a r=>cases r <;> cases y <;> rfl
  | _=>cases y <;> rfl
theorem ZgU (hu:X.A.units + 64 < cLine):OpR X (compareOp .In) (r2 X.K xr (fCmp .In)):=by
  rintro pins s σ H x y v u Q I rx ry ⟨cm,m,a,b,M,ra,rb,ho⟩
  obtain ⟨ta,tb,c,ea,eb,e,ho⟩:=Xw ho
  rcases Zae e with ⟨p,q,rfl,rfl,rfl⟩ | ⟨f,ts,hy,g,rfl⟩ | ⟨ts,rfl,dx,dt,rfl⟩
  · cases (Zd ra ea (fun _ z=>by cases z)).vstr
    cases (Zd rb eb (fun _ z=>by cases z)).vstr
    exact ZgP pins s σ H _ _ v u Q I rx ry ⟨_,_,rfl,rfl,ans ho M (.bl _)⟩
  · cases JH ra ea f
    have fin:∀ {vs:List V},RTs X.K cm m H ts vs→vs=ts.map flV∧vs.all ZaW=true∧Q (.bl (inV (flV ta) vs)) H:=fun r=>by
      obtain ⟨h1,h2⟩:=RTs.fl r g
      exact ⟨h1,h2,by rw [h1,ZhR f g]; exact ans ho M (.bl _)⟩
    rcases hy with rfl | rfl
    · obtain ⟨p,vs,rfl,h1,r⟩:=(Zd rb eb (fun _ z=>by cases z)).itup
      obtain ⟨_,f2,f3⟩:=fin r
      exact Zde pins s σ H _ _ v u Q I rx ry ⟨p,vs,rfl,.inr h1,Za4 f,f2,f3⟩
    · obtain ⟨p,vs,rfl,h1,r⟩:=ZG M rb eb
      obtain ⟨_,f2,f3⟩:=fin r
      exact Zde pins s σ H _ _ v u Q I rx ry ⟨p,vs,rfl,.inl (.of h1),Za4 f,f2,f3⟩
  · obtain ⟨p,vs,rfl,h1,r⟩:=ZG M rb eb
    cases ry
    obtain ⟨its,e,hl,he,ha⟩:=ZhB hu I M ra ea rx dx h1 r dt
    refine SeqAt.in_listAt e hl he ?_
    rw [ha]
    exact ⟨.bl _,H,I,rfl,ans ho M (.bl _)⟩
theorem Zdf (hu:X.A.units + 64 < cLine):OpR X (compareOp .NotIn) (r2 X.K xr (fCmp .NotIn)):=by
  rintro pins s σ H x y v u Q I rx ry ⟨cm,m,a,b,M,ra,rb,ho⟩
  obtain ⟨ta,tb,c',ea,eb,e,ho⟩:=Xw ho
  rw [ZfX] at e
  cases e2:cmpT .In ta tb with
  | none=>rw [e2] at e; cases e
  | some c =>
  rw [e2] at e; cases e
  rcases Zae e2 with ⟨p,q,rfl,rfl,rfl⟩ | ⟨f,ts,hy,g,rfl⟩ | ⟨ts,rfl,dx,dt,rfl⟩
  · cases (Zd ra ea (fun _ z=>by cases z)).vstr
    cases (Zd rb eb (fun _ z=>by cases z)).vstr
    exact Zdd pins s σ H _ _ v u Q I rx ry ⟨_,_,rfl,rfl,ans ho M (.bl _)⟩
  · cases JH ra ea f
    have fin:∀ {vs:List V},RTs X.K cm m H ts vs→vs=ts.map flV∧vs.all ZaW=true∧Q (.bl (!inV (flV ta) vs)) H:=fun r=>by
      obtain ⟨h1,h2⟩:=RTs.fl r g
      exact ⟨h1,h2,by rw [h1,ZhR f g]; exact ans ho M (.bl _)⟩
    rcases hy with rfl | rfl
    · obtain ⟨p,vs,rfl,h1,r⟩:=(Zd rb eb (fun _ z=>by cases z)).itup
      obtain ⟨_,f2,f3⟩:=fin r
      exact ZaM pins s σ H _ _ v u Q I rx ry ⟨p,vs,rfl,.inr h1,Za4 f,f2,f3⟩
    · obtain ⟨p,vs,rfl,h1,r⟩:=ZG M rb eb
      obtain ⟨_,f2,f3⟩:=fin r
      exact ZaM pins s σ H _ _ v u Q I rx ry ⟨p,vs,rfl,.inl (.of h1),Za4 f,f2,f3⟩
  · obtain ⟨p,vs,rfl,h1,r⟩:=ZG M rb eb
    cases ry
    obtain ⟨its,e,hl,he,ha⟩:=ZhB hu I M ra ea rx dx h1 r dt
    refine SeqAt.notIn_listAt e hl he ?_
    rw [ha]
    exact ⟨.bl _,H,I,rfl,ans ho M (.bl _)⟩
noncomputable def hdV:V→Option (Option Bool)
  | .non=>some none
  | .bl b=>some (some b)
  | _=>none
noncomputable def hdT:T→Option (Option Bool)
  | .non=>some none
  | .bl b=>some (some b)
  | _=>none
theorem RW.hd {w:W} {v:V} {t:T} (M:MemR K cm m H) (h:RW K cm m H w v) (e:view w m=some t):hdV v=hdT t:=by
  cases t with
  | lst ts=>obtain ⟨a,vs,rfl,_⟩:=ZG M h e; rfl
  | _=>cases Zd h e (fun _ z=>by cases z) <;> rfl
theorem is_bl {prog:Program} {w:World} {A:Around} {E:Value→Shared→Prop} {s:Shared} {x:V} {v:Value} {b:Bool} {Q:Value→Shared→Prop} (rx:RelV x v) (h:Q (.bool (hdV x == some (some b))) s) :
    wpAny (model prog w) A (compareOp .Is v (.bool b)) Q E s:=by
  cases x with
  | bl c =>
    cases rx
    refine wpAny_is_plain rfl ?_
    have e:((Value.bool c) == (Value.bool b))=(hdV (.bl c) == some (some b)):=by cases c <;> cases b <;> rfl
    rw [e]; exact h
  | non=>cases rx; exact wpAny_is_other rfl (fun z=>nomatch z) h
  | int i=>obtain ⟨t,rfl⟩:=rx; exact wpAny_is_other rfl (fun z=>nomatch z) h
  | str i=>obtain ⟨t,rfl⟩:=rx; exact wpAny_is_other rfl (fun z=>nomatch z) h
  | byt i=>obtain ⟨t,rfl⟩:=rx; exact wpAny_is_other rfl (fun z=>nomatch z) h
  | flt i=>obtain ⟨t,rfl⟩:=rx; exact wpAny_is_other rfl (fun z=>nomatch z) h
  | ref a=>cases rx; exact wpAny_is_other rfl (fun z=>nomatch z) h
  | ty n=>cases rx; exact wpAny_is_other rfl (fun z=>nomatch z) h
theorem ZiQ {prog:Program} {w:World} {A:Around} {E:Value→Shared→Prop} {s:Shared} {x:V} {v:Value} {b:Bool} {Q:Value→Shared→Prop} (rx:RelV x v) (h:Q (.bool (!(hdV x == some (some b)))) s) :
    wpAny (model prog w) A (compareOp .IsNot v (.bool b)) Q E s:=by
  cases x with
  | bl c =>
    cases rx
    refine wpAny_isNot_plain rfl ?_
    have e:((Value.bool c) == (Value.bool b))=(hdV (.bl c) == some (some b)):=by cases c <;> cases b <;> rfl
    rw [e]; exact h
  | non=>cases rx; exact wpAny_isNot_other rfl (fun z=>nomatch z) h
  | int i=>obtain ⟨t,rfl⟩:=rx; exact wpAny_isNot_other rfl (fun z=>nomatch z) h
  | str i=>obtain ⟨t,rfl⟩:=rx; exact wpAny_isNot_other rfl (fun z=>nomatch z) h
  | byt i=>obtain ⟨t,rfl⟩:=rx; exact wpAny_isNot_other rfl (fun z=>nomatch z) h
  | flt i=>obtain ⟨t,rfl⟩:=rx; exact wpAny_isNot_other rfl (fun z=>nomatch z) h
  | ref a=>cases rx; exact wpAny_isNot_other rfl (fun z=>nomatch z) h
  | ty n=>cases rx; exact wpAny_isNot_other rfl (fun z=>nomatch z) h
theorem ZhF {x y:T} {c:Bool} (e:cmpT .Is x y=some c):(y = .non∧c=(hdT x == some none))∨∃ b,y = .bl b∧c=(hdT x == some (some b)):=by
  cases y with
  | non=>cases x <;> (cases e; exact .inl ⟨rfl,rfl⟩)
  | bl b =>
    refine .inr ⟨b,rfl,?_⟩
    cases x with
    | bl a=>cases e; cases a <;> cases b <;> rfl
    | _=>cases e; rfl
  | _=>cases x <;> cases e
theorem ZfY (x y:T):cmpT .IsNot x y=(cmpT .Is x y).map (!·):=by
  cases y with
  | non=>cases x <;> rfl
  | bl b=>cases x <;> first | rfl | (rename_i a; cases a <;> cases b <;> rfl)
  | _=>cases x <;> rfl
theorem Zjo {x:V}:decide (x = .non)=(hdV x == some none):=by cases x <;> first | rfl | exact decide_eq_true rfl | exact decide_eq_false (fun z=>nomatch z)
theorem ZgT:OpR X (compareOp .Is) (r2 X.K xr (fCmp .Is)):=by
  rintro pins s σ H x y v u Q I rx ry ⟨cm,m,a,b,M,ra,rb,ho⟩
  obtain ⟨ta,tb,c,ea,eb,e,ho⟩:=Xw ho
  have hx:=RW.hd M ra ea
  rcases ZhF e with ⟨rfl,rfl⟩ | ⟨k,rfl,rfl⟩
  · cases (Zd rb eb (fun _ z=>by cases z)).vnon
    refine op_isN pins s σ H _ _ v u Q I rx ry ⟨rfl,?_⟩
    rw [Zjo,hx]
    exact ans ho M (.bl _)
  · cases (Zd rb eb (fun _ z=>by cases z)).vbl
    cases ry
    refine is_bl rx ⟨.bl _,H,I,rfl,?_⟩
    rw [hx]
    exact ans ho M (.bl _)
theorem Zdg:OpR X (compareOp .IsNot) (r2 X.K xr (fCmp .IsNot)):=by
  rintro pins s σ H x y v u Q I rx ry ⟨cm,m,a,b,M,ra,rb,ho⟩
  obtain ⟨ta,tb,c',ea,eb,e,ho⟩:=Xw ho
  have hx:=RW.hd M ra ea
  rw [ZfY] at e
  cases e2:cmpT .Is ta tb with
  | none=>rw [e2] at e; cases e
  | some c =>
  rw [e2] at e; cases e
  rcases ZhF e2 with ⟨rfl,rfl⟩ | ⟨k,rfl,rfl⟩
  · cases (Zd rb eb (fun _ z=>by cases z)).vnon
    refine Zkp pins s σ H _ _ v u Q I rx ry ⟨rfl,?_⟩
    rw [Zjo,hx]
    exact ans ho M (.bl _)
  · cases (Zd rb eb (fun _ z=>by cases z)).vbl
    cases ry
    refine ZiQ rx ⟨.bl _,H,I,rfl,?_⟩
    rw [hx]
    exact ans ho M (.bl _)
theorem Zb4 (hu:X.A.units + 64 < cLine):∀ op:CmpOp,OpR X (compareOp op) (r2 X.K xr (fCmp op))
  | .Eq=>ZgX hu
  | .NotEq=>ZgQ hu
  | .Lt=>ZgR
  | .LtE=>ZgS
  | .Gt=>ZgV
  | .GtE=>ZgW
  | .Is=>ZgT
  | .IsNot=>Zdg
  | .In=>ZgU hu
  | .NotIn=>Zdf hu
noncomputable def fIx (x y:W) (m:Mem):Res W:=pur ((view x m).bind fun x=>(view y m).bind fun y=>ixT x y) m
theorem ZkG (n:Nat) (i:Int):ixOf n i=ixN n i:=rfl
theorem ZaH {α β:Type} {F:α→β→Prop} {xs:List α} {ys:List β} (h:Paired F xs ys) {i:Int} {x:α} (e:atT xs i=some x):∃ y,atI ys i=some y∧F x y:=by
  unfold atT at e
  unfold atI
  rw [← h.length]
  cases q:ixOf xs.length i with
  | none=>rw [q] at e; cases e
  | some j =>
    rw [q] at e
    rw [ZkG] at q
    obtain ⟨y,e1,e2⟩:=ZR h e
    exact ⟨y,by rw [q]; exact e1,e2⟩
theorem Zak (ns:List Int):RTs K cm m H (ns.map .int) (ns.map V.int):=by
  induction ns with
  | nil=>exact .nil
  | cons n ns ih=>exact .cons (.int n) ih
theorem Zk4 {α β:Type} (f:α→β) (xs:List α) (i:Int):atT (xs.map f) i=(atT xs i).map f:=by
  unfold atT
  rw [List.length_map]
  cases ixOf xs.length i with
  | none=>rfl
  | some j=>simp
theorem ix_ix:IxR X (r2 X.K xr fIx):=by
  rintro value slice pins s σ H x y v u Q I rx ry ⟨cm,m,a,b,M,ra,rb,ho⟩ hs
  obtain ⟨t,e,ho⟩:=QD ho
  obtain ⟨ta,tb,ea,eb,e⟩:=ZbU e
  unfold ixT at e
  have hz:=ZV
  split at e
  · cases (Zd rb eb (fun _ z=>by cases z)).vint
    obtain ⟨p,vs,rfl,h1,r⟩:=(Zd ra ea (fun _ z=>by cases z)).itup
    obtain ⟨z,e1,e2⟩:=ZaH r e
    exact ix_tup value slice pins s σ H _ _ v u Q I rx ry ⟨p,vs,_,z,rfl,rfl,h1,e1,ans ho M e2⟩ hs
  · cases (Zd rb eb (fun _ z=>by cases z)).vint
    obtain ⟨p,vs,rfl,h1,r⟩:=ZG M ra ea
    obtain ⟨z,e1,e2⟩:=ZaH r e
    exact Zhf value slice pins s σ H _ _ v u Q I rx ry ⟨p,vs,_,z,rfl,rfl,.of h1,e1,ans ho M e2⟩ hs
  · cases (Zd rb eb (fun _ z=>by cases z)).vint
    obtain ⟨p,rfl,h1⟩:=(Zd ra ea (fun _ z=>by cases z)).vscr
    rw [← Zk4] at e
    obtain ⟨z,e1,e2⟩:=ZaH (Zak (K:=X.K) (cm:=cm) (m:=m) (H:=H) _) e
    exact Zhf value slice pins s σ H _ _ v u Q I rx ry ⟨p,_,_,z,rfl,rfl,h1.sq,e1,ans ho M e2⟩ hs
  · split at e
    · rename_i cs k hl
      cases (Zd rb eb (fun _ z=>by cases z)).vint
      cases (Zd ra ea (fun _ z=>by cases z)).vstr
      cases q:atT cs k with
      | none=>rw [q] at e; cases e
      | some c =>
        rw [q] at e; cases e
        exact ix_str value slice pins s σ H _ _ v u Q I rx ry ⟨_,k,c,rfl,rfl,by rw [J5]; omega,q,ans ho M (.str [c])⟩ hs
    · cases e
  · cases e
end
end Mi
end
section
namespace Mi
open PySem PySem.Spec PyProof.Rows L2
section
variable {P:Program} {w:World} {A:Around} {E:Value→Shared→Prop} {s:Shared}
structure Side (z TI TO i j a b:Addr) (k:Nat) (h:Heap):Prop where
  zip:IsZip h z TI TO .none
  its:IsPair h TI (.ref i) (.ref j)
  out:∃ p q,IsPair h TO p q
  one:h.IsTupleIter i a k
  two:h.IsTupleIter j b k
end
noncomputable def Itz (K:PySem.W.Frag) (a b:Addr):It :=
  ⟨fun i H=>∃ xs ys x y,SqT K H a xs∧SqT K H b ys∧xs[i]? = some x∧ys[i]? = some y,
   fun i H v H'=>∃ x y c,(∀ xs,SqT K H a xs→xs[i]? = some x)∧(∀ ys,SqT K H b ys→ys[i]? = some y)∧H c=none∧v = .ref c∧H' = upd H c (.tup [x,y]),
   fun i H=>∃ xs,SqT K H a xs∧xs.length≤i⟩
end Mi
end
section
namespace Mi
open PySem PySem.Spec PyProof.Rows L2
theorem apn (n:Nat) {a b:Nat} (h:a≠b):n + a≠n + b:=by omega
theorem apl {n l:Nat} (a:Nat) (h:l < n):l≠n + a:=by omega
noncomputable def It4 (n:Nat) (l:Nat→Nat) (xs:Nat→Array Value) (p:Nat→Nat) (h:Heap):Prop:=∀ j:Nat,j < 4→h.IsListIter (n + j) (l j) (p j)∧h.IsList (l j) (xs j)∧l j < n
theorem It4.but {n:Nat} {l:Nat→Nat} {xs:Nat→Array Value} {p:Nat→Nat} {h g:Heap} {c:Nat} (J:It4 n l xs p h) (sb:Heap.SameBut (n + c) h g) (hc:4≤c):It4 n l xs p g:=by
  intro j hj
  obtain ⟨a,b,c'⟩:=J j hj
  have hne:j≠c:=by omega
  exact ⟨a.extBut sb.extBut (apn n hne),b.extBut sb.extBut (apl _ c'),c'⟩
theorem It4.push {n:Nat} {l:Nat→Nat} {xs:Nat→Array Value} {p:Nat→Nat} {h:Heap} (J:It4 n l xs p h) (o:Obj):It4 n l xs p (h.push o):=fun j hj =>
  let ⟨a,b,c'⟩:=J j hj
  ⟨a.at fun o' e=>Heap.get?_push_of_some _ e,b.push _,c'⟩
noncomputable abbrev IsZ (h:Heap) (n:Nat) (f0:Value) (f1:Bool):Prop :=
  h.get? (n + 6)=some { cls:=.type "zip",dict:=none,data:=.fields #[f0,.bool f1,.bool false,.ref (n + 4),.ref (n + 5)],slots:=#[] }
noncomputable abbrev IsQ (h:Heap) (t:Nat) (a b c d:Value):Prop:=h.get? t=some { cls:=.type "tuple",data:=.seq #[a,b,c,d] }
section
variable {P:Program} {w:World} {A:Around} {E:Value→Shared→Prop} {s:Shared} {n:Nat} {l:Nat→Nat} {xs:Nat→Array Value} {p:Nat→Nat}
noncomputable def Free (h:Heap) (n:Nat):Prop:=∃ f1,IsZ h n .none f1∨∃ a:Nat,IsZ h n (rawInt a) f1
structure Sd (n:Nat) (l:Nat→Nat) (k:Nat) (h:Heap):Prop where
  zip:Free h n
  its:IsQ h (n + 4) (.ref (n + 0)) (.ref (n + 1)) (.ref (n + 2)) (.ref (n + 3))
  out:∃ a b c d,IsQ h (n + 5) a b c d
  pos:∀ j:Nat,j < 4→h.IsListIter (n + j) (l j) k∧l j < n
noncomputable def Kp (n:Nat) (h g:Heap):Prop:=g.objs.size=h.objs.size∧∀ c o,(c < n∨n + 7≤c)→h.get? c=some o→g.get? c=some o
theorem Kp.refl (n:Nat) (h:Heap):Kp n h h:=⟨rfl,fun _ _ _ e=>e⟩
theorem Kp.step {n j:Nat} {h g g':Heap} (k:Kp n h g) (sb:Heap.SameBut (n + j) g g') (hj:j < 7):Kp n h g':=by
  refine ⟨sb.1.trans k.1,fun c o hc e=>sb.extBut _ _ ?_ (k.2 c o hc e)⟩
  intro h
  subst h
  omega
end
noncomputable abbrev fp4 (n:Nat):List Addr:=[n + 6,n + 4,n + 5,n + 0,n + 1,n + 2,n + 3]
theorem Sd.at' {n:Nat} {l:Nat→Nat} {k:Nat} {h:Heap} (S:Sd n l k h):∀ c∈fp4 n,∃ o,h.get? c=some o∧∀ v,o.data≠.cell v:=by
  obtain ⟨hz,hI,⟨a,b,c',d,hO⟩,hp⟩:=S
  have hit:∀ j:Nat,j < 4→∃ o,h.get? (n + j)=some o∧∀ v,o.data≠.cell v:=fun j hj=>by
    obtain ⟨⟨o,e,_,dd⟩,_⟩:=hp j hj
    exact ⟨o,e,fun v y=>by rw [dd] at y; cases y⟩
  intro c hc
  simp only [fp4,List.mem_cons,List.not_mem_nil,or_false] at hc
  rcases hc with rfl | rfl | rfl | rfl | rfl | rfl | rfl
  · obtain ⟨f1,hz | ⟨a,hz⟩⟩:=hz
    · exact ⟨_,hz,fun v y=>by cases (show Data.fields _=Data.cell v from y)⟩
    · exact ⟨_,hz,fun v y=>by cases (show Data.fields _=Data.cell v from y)⟩
  · exact ⟨_,hI,fun v y=>by cases (show Data.seq _ _=Data.cell v from y)⟩
  · exact ⟨_,hO,fun v y=>by cases (show Data.seq _ _=Data.cell v from y)⟩
  · exact hit 0 (by decide)
  · exact hit 1 (by decide)
  · exact hit 2 (by decide)
  · exact hit 3 (by decide)
theorem Sd.keep {n:Nat} {l:Nat→Nat} {k:Nat} {h h':Heap} (S:Sd n l k h) (f:∀ b∈fp4 n,∀ o,h.get? b=some o→h'.get? b=some o):Sd n l k h':=by
  obtain ⟨hz,hI,⟨a,b,c',d,hO⟩,hp⟩:=S
  refine ⟨?_,f _ (by simp [fp4]) _ hI,⟨a,b,c',d,f _ (by simp [fp4]) _ hO⟩,fun j hj=>⟨(hp j hj).1.at fun o e=>f _ ?_ o e,(hp j hj).2⟩⟩
  · obtain ⟨f1,hz | ⟨a,hz⟩⟩:=hz
    · exact ⟨f1,.inl (f _ (by simp [fp4]) _ hz)⟩
    · exact ⟨f1,.inr ⟨a,f _ (by simp [fp4]) _ hz⟩⟩
  · match j,hj with
    | 0,_=>simp [fp4]
    | 1,_=>simp [fp4]
    | 2,_=>simp [fp4]
    | 3,_=>simp [fp4]
noncomputable def Itz4 (K:PySem.W.Frag) (l:Nat→Nat):It :=
  ⟨fun i H=>∃ (xs:Nat→List V) (x:Nat→V),∀ j:Nat,j < 4→SqL K H (l j) (xs j)∧(xs j)[i]? = some (x j),
   fun i H v H'=>∃ (x:Nat→V) (c:Addr),(∀ j:Nat,j < 4→∀ ys,SqL K H (l j) ys→ys[i]? = some (x j))∧H c=none∧v = .ref c∧H' = upd H c (.tup [x 0,x 1,x 2,x 3]),
   fun i H=>∃ xs,SqL K H (l 0) xs∧xs.length≤i⟩
noncomputable def pick4 {α:Type} (a b c d:α):Nat→α
  | 0=>a
  | 1=>b
  | 2=>c
  | _=>d
theorem all4 {Q:Nat→Prop} (h0:Q 0) (h1:Q 1) (h2:Q 2) (h3:Q 3):∀ j:Nat,j < 4→Q j
  | 0,_=>h0
  | 1,_=>h1
  | 2,_=>h2
  | 3,_=>h3
end Mi
end
section
namespace Mi
open PySem PySem.Spec PyProof.Rows L2
noncomputable def Ite (K:PySem.W.Frag) (l:Addr):It :=
  ⟨fun i H=>∃ xs x,SqL K H l xs∧xs[i]? = some x,
   fun i H v H'=>∃ x c,(∀ xs,SqL K H l xs→xs[i]? = some x)∧H c=none∧v = .ref c∧H' = upd H c (.tup [.int (i:Int),x]),
   fun i H=>∃ xs,SqL K H l xs∧xs.length≤i⟩
end Mi
end
section
namespace Mi
open PySem PySem.Spec PyProof.Rows L2
noncomputable def Its (cs:List Nat):It:=⟨fun i _=>i < cs.length,fun i H x H'=>H' = H∧∃ c,cs[i]? = some c∧x = .str ⟨#[c]⟩,fun i _=>cs.length≤i⟩
theorem ZeC {P:Program} {w:World} {K:PySem.W.Frag} {tg:Expr} {cs:List Nat} {it:Addr} {cl:String} {t:Tok}
    (hcl:["enumerate","zip","dict_itemiterator","dict_reverseitemiterator","odict_iterator","itertools.zip_longest","itertools.pairwise"].contains cl=false)
    (hself:∀ (A:Around) (i:Nat) (s:Shared) (Q:Value→Shared→Prop) (E:Value→Shared→Prop),s.heap.IsStrIter it cl ⟨cs.toArray⟩ t i→Q (.ref it) s→wpAny (model P w) A (pyIter (.ref it)) Q E s)
    (W:∀ A':Around,A'.handled=none→Walks P w A' it [it] [it] cs.length (SignAt ⟨cs.toArray⟩) (fun i h=>h.IsStrIter it cl ⟨cs.toArray⟩ t i)):Turn P w K tg (Its cs) [it] it (fun i h=>h.IsStrIter it cl ⟨cs.toArray⟩ t i∧i≤cs.length) where
  mem:=by simp
  obj:=fun i h st b hb=>by
    have e:b=it:=by simpa using hb
    subst e
    obtain ⟨⟨o,e,c,d⟩,_⟩:=st
    exact ⟨o,e,fun v z=>by rw [d] at z; cases z⟩
  keep:=fun i h h' st k=>⟨let ⟨⟨o,ho,r⟩,_⟩:=st; ⟨o,k it (by simp) o ho,r⟩,st.2⟩
  item:=by
    intro X hP hw hK hc i pins s σ H E I hf st hg
    subst hP hw hK
    obtain ⟨f0,f1,f2,f3,f4,f5⟩:=hf it (by simp)
    have hg':i < cs.length:=hg
    refine (W X.A (I.ok.hd hc)).item i s _ _ hg' st.1 fun v h' tk hv st' kk=>?_
    obtain ⟨c,u,hc',rfl⟩:=hv
    have I1:Inv X pins σ H { s with heap:=h',toks:=tk }:=I.turned (fun b o hb e=>kk b o (by simpa using hb) e) f0 f1 f3 f4 f5
    obtain ⟨o,e,cc,d⟩:=id st'
    refine ⟨_,rfl,ZiU (s:={ s with heap:=h',toks:=tk }) e cc d hcl ⟨.str ⟨#[c]⟩,H,I1,⟨u,rfl⟩,⟨rfl,c,by simpa using hc',rfl⟩,⟨st',by omega⟩,fun b hb=>(hf b hb).1⟩⟩
  done:=by
    intro X hP hw hK hc i pins s σ H E I hf st hg
    subst hP hw hK
    obtain ⟨f0,f1,f2,f3,f4,f5⟩:=hf it (by simp)
    have hg':cs.length≤i:=hg
    have e:i=cs.length:=by have:=st.2; omega
    subst e
    exact (W X.A (I.ok.hd hc)).done s _ _ st.1 fun h' tk kk=>⟨rfl,I.turned (fun b o hb e=>kk b o (by simpa using hb) e) f0 f1 f3 f4 f5⟩
  self:=fun A i s Q E st h=>hself A i s Q E st.1 h
section
variable {K:PySem.W.Frag} {cm cm':List Addr} {m m':Mem} {H H':Hp} {xr:XR} {X:Cx}
variable (K) in
inductive Src (cm:List Addr) (m:Mem) (H:Hp):It→List T→Prop where
  | tup {a:Addr} {vs:List V} {ts:List T}:SqT K H a vs→RTs K cm m H ts vs→Src cm m H (Itt K a) ts
  | lst {a:Addr} {vs:List V} {ts:List T}:H a=some (.lst vs)→Zt cm m a→RTs K cm m H ts vs→Src cm m H (Itl K a) ts
  | cel {a:Addr} {i:Nat} {ts:List T}:m[i]? = some (some (true,ts))→cm[i]? = some a→Src cm m H (Itl K a) ts
  | scr {a:Addr} (ns:List Int):ZdW K H a ns→Src cm m H (Itl K a) (ns.map .int)
  | str (cs:List Nat):Src cm m H (Its cs) (cs.map fun c=>.str [c])
  | rng (lo:Int) (n:Nat):Src cm m H (Itr lo n) (rangeT lo n)
  | zip {a b:Addr} {xs ys:List V} {ts us:List T}:SqT K H a xs→SqT K H b ys→RTs K cm m H ts xs→RTs K cm m H us ys→ts.length=us.length→Src cm m H (Itz K a b) (zipL ts us)
  | zip4 {l:Nat→Nat} {vs:Nat→List V} {ts:Nat→List T}:(∀ j:Nat,j < 4→H (l j)=some (.lst (vs j))∧Zt cm m (l j)∧RTs K cm m H (ts j) (vs j))→(∀ j:Nat,j < 4→(ts 0).length=(ts j).length)→Src cm m H (Itz4 K l) (Zf8 (ts 0) (ts 1) (ts 2) (ts 3))
  | enm {a:Addr} {vs:List V} {ts:List T}:H a=some (.lst vs)→Zt cm m a→RTs K cm m H ts vs→Src cm m H (Ite K a) (ZfU ts)
theorem Src.ext (x:Ext cm m H cm' m' H') (M:MemR K cm m H) (M':MemR K cm' m' H') {J:It} {ts:List T} (h:Src K cm m H J ts):Src K cm' m' H' J ts:=by
  cases h with
  | tup h1 h2=>exact .tup (x.sqT M h1) (RTs.ext x M M' h2)
  | lst h1 h2 h3=>exact .lst (x.keep _ _ h1 h2).1 (x.keep _ _ h1 h2).2 (RTs.ext x M M' h3)
  | cel h1 h2=>exact .cel (x.lent _ _ h1) (x.pre _ _ h2)
  | scr ns h=>exact .scr ns (x.scr M h)
  | str cs=>exact .str cs
  | rng lo n=>exact .rng lo n
  | zip h1 h2 h3 h4 h5=>exact .zip (x.sqT M h1) (x.sqT M h2) (RTs.ext x M M' h3) (RTs.ext x M M' h4) h5
  | zip4 h1 h2=>exact .zip4 (fun j hj=>let ⟨a,b,c⟩:=h1 j hj; ⟨(x.keep _ _ a b).1,(x.keep _ _ a b).2,RTs.ext x M M' c⟩) h2
  | enm h1 h2 h3=>exact .enm (x.keep _ _ h1 h2).1 (x.keep _ _ h1 h2).2 (RTs.ext x M M' h3)
theorem stay (M:MemR K cm m H) (z:H' = H) {t:T} {x:V} (r:RT K cm m H t x):Ext cm m H cm m H'∧MemR K cm m H'∧RT K cm m H' t x:=by
  subst z
  exact ⟨.refl,M,r⟩
theorem Zh0 {xs ys:List T} {i:Nat} {t:T} (e:(zipL xs ys)[i]? = some t):∃ x y,xs[i]? = some x∧ys[i]? = some y∧t = .tup [x,y]:=by
  unfold zipL at e
  rw [List.getElem?_zipWith] at e
  split at e
  · rename_i x y h1 h2
    cases e
    exact ⟨x,y,h1,h2,rfl⟩
  · cases e
theorem Zf7 {a b c d:List T} {i:Nat} {t:T} (e:(Zf8 a b c d)[i]? = some t):∃ x y z w,a[i]? = some x∧b[i]? = some y∧c[i]? = some z∧d[i]? = some w∧t = .tup [x,y,z,w]:=by
  unfold Zf8 at e
  rw [List.getElem?_map] at e
  obtain ⟨p,h1,h2⟩:=Option.map_eq_some_iff.mp e
  obtain ⟨q1,q2⟩:=List.getElem?_zip_eq_some.mp h1
  obtain ⟨q3,q4⟩:=List.getElem?_zip_eq_some.mp q2
  obtain ⟨q5,q6⟩:=List.getElem?_zip_eq_some.mp q4
  exact ⟨_,_,_,_,q1,q3,q5,q6,h2.symm⟩
theorem Zhz {xs:List T} {i:Nat} {t:T} (e:(ZfU xs)[i]? = some t):∃ x,xs[i]? = some x∧t = .tup [.int (i:Int),x]:=by
  unfold ZfU at e
  rw [List.getElem?_zipWith] at e
  split at e
  · rename_i k y h1 h2
    cases e
    have hi:=(List.getElem?_eq_some_iff.mp h1).1
    rw [List.length_range] at hi
    rw [List.getElem?_range hi] at h1
    cases h1
    exact ⟨y,h2,rfl⟩
  · cases e
theorem ZdH (xs:List T):(ZfU xs).length=xs.length:=by
  unfold ZfU
  rw [List.length_zipWith,List.length_range,Nat.min_self]
theorem Src.go (M:MemR K cm m H) {J:It} {ts:List T} (h:Src K cm m H J ts) {i:Nat} {t:T} (e:ts[i]? = some t):J.go i H∧∀ x H',J.yld i H x H'→Ext cm m H cm m H'∧MemR K cm m H'∧RT K cm m H' t x:=by
  cases h with
  | tup h1 h2 =>
    obtain ⟨v,e1,e2⟩:=ZR h2 e
    refine ⟨⟨_,v,h1,e1⟩,fun x H' ⟨z,q⟩=>stay M z ?_⟩
    have:=q _ h1
    rw [e1] at this; cases this
    exact e2
  | lst h1 h2 h3 =>
    obtain ⟨v,e1,e2⟩:=ZR h3 e
    refine ⟨⟨_,v,.of h1,e1⟩,fun x H' ⟨z,q⟩=>stay M z ?_⟩
    have:=q _ (.of h1)
    rw [e1] at this; cases this
    exact e2
  | cel h1 h2 =>
    obtain ⟨b,vs,q1,q2,q3,q4⟩:=M.at' _ _ h1
    rw [h2] at q1; cases q1
    obtain ⟨v,e1,e2⟩:=ZR q4 e
    refine ⟨⟨_,v,.of q2,e1⟩,fun x H' ⟨z,q⟩=>stay M z ?_⟩
    have:=q _ (.of q2)
    rw [e1] at this; cases this
    exact e2
  | scr ns h =>
    obtain ⟨v,e1,e2⟩:=ZR (Zak (K:=K) (cm:=cm) (m:=m) (H:=H) ns) e
    refine ⟨⟨_,v,h.sq,e1⟩,fun x H' ⟨z,q⟩=>stay M z ?_⟩
    have:=q _ h.sq
    rw [e1] at this; cases this
    exact e2
  | str cs =>
    rw [List.getElem?_map] at e
    cases q:cs[i]? with
    | none=>rw [q] at e; cases e
    | some c =>
      rw [q] at e; cases e
      refine ⟨(List.getElem?_eq_some_iff.mp q).1,fun x H' ⟨z,c',q',e'⟩=>stay M z ?_⟩
      rw [q] at q'; cases q'
      subst e'
      exact .str [c]
  | rng lo n =>
    unfold rangeT at e
    rw [List.getElem?_map] at e
    cases q:(List.range n)[i]? with
    | none=>rw [q] at e; cases e
    | some k =>
      rw [q] at e; cases e
      have hi:=(List.getElem?_eq_some_iff.mp q).1
      rw [List.length_range] at hi
      rw [List.getElem?_range hi] at q
      cases q
      exact ⟨hi,fun x H' ⟨z,e'⟩=>stay M z (by subst e'; exact .int _)⟩
  | zip h1 h2 h3 h4 h5 =>
    obtain ⟨x,y,hx,hy,rfl⟩:=Zh0 e
    obtain ⟨u,e1,r1⟩:=ZR h3 hx
    obtain ⟨v,e2,r2⟩:=ZR h4 hy
    refine ⟨⟨_,_,u,v,h1,h2,e1,e2⟩,?_⟩
    rintro x' H' ⟨u',v',c,q1,q2,hc,rfl,rfl⟩
    have z1:=q1 _ h1
    rw [e1] at z1; cases z1
    have z2:=q2 _ h2
    rw [e2] at z2; cases z2
    exact ⟨.new hc,M.new hc,RT.newTup (.cons r1 (.cons r2 .nil)) hc⟩
  | @zip4 l vs ts h1 h2 =>
    obtain ⟨x0,x1,x2,x3,e0,e1,e2,e3,rfl⟩:=Zf7 e
    obtain ⟨q0,_,p0⟩:=h1 0 (by decide)
    obtain ⟨q1,_,p1⟩:=h1 1 (by decide)
    obtain ⟨q2,_,p2⟩:=h1 2 (by decide)
    obtain ⟨q3,_,p3⟩:=h1 3 (by decide)
    obtain ⟨u0,f0,r0⟩:=ZR p0 e0
    obtain ⟨u1,f1,r1⟩:=ZR p1 e1
    obtain ⟨u2,f2,r2⟩:=ZR p2 e2
    obtain ⟨u3,f3,r3⟩:=ZR p3 e3
    refine ⟨⟨vs,pick4 u0 u1 u2 u3,all4 ⟨.of q0,f0⟩ ⟨.of q1,f1⟩ ⟨.of q2,f2⟩ ⟨.of q3,f3⟩⟩,?_⟩
    rintro x' H' ⟨x,c,q,hc,rfl,rfl⟩
    have z0:=q 0 (by decide) _ (.of q0)
    rw [f0] at z0
    have z1:=q 1 (by decide) _ (.of q1)
    rw [f1] at z1
    have z2:=q 2 (by decide) _ (.of q2)
    rw [f2] at z2
    have z3:=q 3 (by decide) _ (.of q3)
    rw [f3] at z3
    rw [← Option.some.inj z0,← Option.some.inj z1,← Option.some.inj z2,← Option.some.inj z3]
    exact ⟨.new hc,M.new hc,RT.newTup (.cons r0 (.cons r1 (.cons r2 (.cons r3 .nil)))) hc⟩
  | enm h1 h2 h3 =>
    obtain ⟨x,hx,rfl⟩:=Zhz e
    obtain ⟨u,e1,r1⟩:=ZR h3 hx
    refine ⟨⟨_,u,.of h1,e1⟩,?_⟩
    rintro x' H' ⟨u',c,q1,hc,rfl,rfl⟩
    have z1:=q1 _ (.of h1)
    rw [e1] at z1; cases z1
    exact ⟨.new hc,M.new hc,RT.newTup (.cons (.int _) (.cons r1 .nil)) hc⟩
theorem Src.stop (M:MemR K cm m H) {J:It} {ts:List T} (h:Src K cm m H J ts) {i:Nat} (e:ts[i]? = none):J.stop i H:=by
  have l:=List.getElem?_eq_none_iff.mp e
  cases h with
  | tup h1 h2=>exact ⟨_,h1,by rw [← h2.length]; exact l⟩
  | lst h1 h2 h3=>exact ⟨_,.of h1,by rw [← h3.length]; exact l⟩
  | cel h1 h2 =>
    obtain ⟨b,vs,q1,q2,q3,q4⟩:=M.at' _ _ h1
    rw [h2] at q1; cases q1
    exact ⟨_,.of q2,by rw [← q4.length]; exact l⟩
  | scr ns h=>exact ⟨_,h.sq,by rw [List.length_map] at l ⊢; exact l⟩
  | str cs=>rw [List.length_map] at l; exact l
  | rng lo n =>
    unfold rangeT at l
    rw [List.length_map,List.length_range] at l
    exact l
  | zip h1 h2 h3 h4 h5 =>
    refine ⟨_,h1,?_⟩
    unfold zipL at l
    rw [List.length_zipWith] at l
    rw [← h3.length]
    omega
  | @zip4 l vs ts h1 h2 =>
    obtain ⟨q0,_,p0⟩:=h1 0 (by decide)
    refine ⟨_,.of q0,?_⟩
    have l1:=h2 1 (by decide)
    have l2:=h2 2 (by decide)
    have l3:=h2 3 (by decide)
    unfold Zf8 at l
    rw [List.length_map,List.length_zip,List.length_zip,List.length_zip] at l
    rw [← p0.length]
    omega
  | enm h1 h2 h3 =>
    refine ⟨_,.of h1,?_⟩
    rw [ZdH] at l
    rw [← h3.length]
    exact l
variable (K) in
noncomputable def tI (call:Nat→List W→Mem→Res W) (gv:List T) (xr:XR) (it:E):TI:=fun σ H R=>∃ env cm m,EnvR K cm m H env σ∧MemR K cm m H ∧
  OkR K (ev call gv it env m) xr cm m H fun x cm1 m1 H1=>∃ ts m2,Qd x m1 = .ok ts m2∧∀ J,Src K cm1 m2 H1 J ts→R J H1
theorem PI.mono {tg iter:Expr} {t t':TI} (h:PI X tg iter t) (f:∀ σ H R,t' σ H R→t σ H R):PI X tg iter t':=fun pins s σ H R I q=>h pins s σ H R I (f σ H R q)
theorem pi_of {tg iter:Expr} {call:Nat→List W→Mem→Res W} {gv:List T} {it:E} (h:PE X iter (tE X.K call gv xr it)):PI X tg iter (tI X.K call gv xr it):=by
  rintro pins s σ H R I ⟨env,cm,m,hE,hM,ho⟩
  refine thn (h pins s σ H (fun v H1=>∃ cm1 m1 w,MemR X.K cm1 m1 H1∧RW X.K cm1 m1 H1 w v∧∃ ts m2,Qd w m1 = .ok ts m2∧∀ J,Src X.K cm1 m2 H1 J ts→R J H1) I
    ⟨env,cm,m,hE,hM,ho.mono fun w cm1 m1 H1 x1 M1 o1 v rv=>⟨cm1,m1,w,M1,rv,o1⟩⟩) fun v s1 ⟨x,H1,I1,r1,cm1,m1,w,M1,rw1,ts0,m2,eb,o1⟩=>?_
  -- an iterator over a list that stands at a
  have onList:∀ (a:Addr) (vs:List V),x = .ref a→SqL X.K H1 a vs→R (Itl X.K a) H1→wpAny (model X.prog X.w) X.A (pyIter v) (PIE X pins σ tg R) X.xe s1:=fun a vs e hq q=>by
    subst e
    cases r1
    obtain ⟨its,rv,p,hz⟩:=I1.list hq
    refine wpAny_pyIter_list p.isList ?_
    refine ⟨s1.heap.objs.size,[s1.heap.objs.size],_,_,H1,rfl,I1.kept (t':=s1.toks) fun b o e=>Heap.get?_push_of_some _ e,Zge a _,⟨_,Heap.get?_push_size _ rfl,rfl,rfl⟩,fun b hb=>?_,q⟩
    have e:b=s1.heap.objs.size:=by simpa using hb
    subst e
    exact I1.fpOk (Nat.le_refl _) (I1.hok.fresh (Nat.le_refl _))
  cases w with
  | f a=>cases eb
  | x _ _ _=>cases eb
  | c i =>
    unfold Qd at eb
    dsimp only at eb
    split at eb
    · rename_i fl ts e
      cases eb
      obtain ⟨a,vs,q1,q2,_⟩:=M1.at' i _ e
      obtain ⟨b,h1,h2⟩:=rw1
      rw [q1] at h1; cases h1
      exact onList a vs h2 (.of q2) (o1 _ (.cel (List.getElem?_set_self (List.getElem?_eq_some_iff.mp e).1) q1))
    · cases eb
  | t t =>
    unfold Qd at eb
    dsimp only at eb
    cases t with
    | tup ts =>
      cases eb
      obtain ⟨a,vs,e,h1,h2⟩:=RT.itup rw1
      subst e
      cases r1
      obtain ⟨its,rv,p,hz⟩:=I1.tuple h1
      refine wpAny_pyIter_tuple (show s1.heap.IsTuple a its.toArray from p) ?_
      refine ⟨s1.heap.objs.size,[s1.heap.objs.size],_,_,H1,rfl,I1.kept (t':=s1.toks) fun b o e=>Heap.get?_push_of_some _ e,Ze9 a _,⟨_,Heap.get?_push_size _ rfl,rfl,rfl⟩,fun b hb=>?_,o1 _ (.tup h1 h2)⟩
      have e:b=s1.heap.objs.size:=by simpa using hb
      subst e
      exact I1.fpOk (Nat.le_refl _) (I1.hok.fresh (Nat.le_refl _))
    | lst ts =>
      cases eb
      obtain ⟨a,vs,e,h1,h2,h3⟩:=RT.ilst rw1
      exact onList a vs e (.of h1) (o1 _ (.lst h1 h2 h3))
    | scr ns =>
      cases eb
      obtain ⟨a,e,h1⟩:=RT.vscr rw1
      exact onList a _ e h1.sq (o1 _ (.scr ns h1))
    | str cs =>
      unfold ZeU at eb
      dsimp only at eb
      split at eb
      · rename_i ts e
        split at e <;> cases e
        cases eb
        cases RT.vstr rw1
        obtain ⟨t,rfl⟩:=r1
        have q:=o1 _ (.str cs)
        have I2:∀ o:Obj,Inv X pins σ H1 { s1 with heap:=s1.heap.push o }:=fun o=>I1.kept (t':=s1.toks) fun b o e=>Heap.get?_push_of_some _ e
        have fpk:∀ b∈[s1.heap.objs.size],FpOk X pins H1 b:=fun b hb=>by
          have e:b=s1.heap.objs.size:=by simpa using hb
          subst e
          exact I1.fpOk (Nat.le_refl _) (I1.hok.fresh (Nat.le_refl _))
        cases ha:(⟨cs.toArray⟩:Str).cps.all (· < 128)
        · refine wpAny_pyIter_wide ha ?_
          exact ⟨s1.heap.objs.size,[s1.heap.objs.size],_,_,H1,rfl,I2 _,ZeC (cl:="str_iterator") (t:=t) (by decide) (fun A i s Q E st h=>wpAny_pyIter_striter_wide st h) (fun A' hA=>by simpa using Walks.strWide hA _ ⟨cs.toArray⟩ t),⟨⟨_,Heap.get?_push_size _ rfl,rfl,rfl⟩,Nat.zero_le _⟩,fpk,q⟩
        · refine wpAny_pyIter_ascii ha ?_
          exact ⟨s1.heap.objs.size,[s1.heap.objs.size],_,_,H1,rfl,I2 _,ZeC (cl:="str_ascii_iterator") (t:=t) (by decide) (fun A i s Q E st h=>wpAny_pyIter_striter_ascii st h) (fun A' hA=>by simpa using Walks.strAscii hA _ ⟨cs.toArray⟩ t),⟨⟨_,Heap.get?_push_size _ rfl,rfl,rfl⟩,Nat.zero_le _⟩,fpk,q⟩
      · cases eb
    | _=>cases eb
end
end Mi
end
section
namespace Mi
open PySem PySem.Spec PyProof.Rows L2
theorem ZcI {elt:Expr} {gens:List Comprehension} {scope:Scope} {pos:Pos} {d:Nat} {target iter:Expr} {ifs:List Expr} {it acc:Value} {env:PySem.Env} (hg:gens[d]? = some ⟨target,iter,ifs,0⟩) (hn:gens[d + 1]? = none) :
    compTurn (.ListComp elt gens scope pos) d it acc env=(do
      standAt iter.pos
      match ← pyNext it with
      | none=>pure (.done .next)
      | some v =>
        letOwnedTupleGo target it v
        assign target env v
        let mut ok:=true
        for c in ifs do
          if ok then ok ← isTrue c env (eval c env)
        if ok then
          (do let _ ← call (.builtin "list.append") [acc,← eval elt env])
        again (.compLoop (.ListComp elt gens scope pos) d it acc env)):=by
  unfold compTurn
  simp only [hg,hn]
  rfl
theorem ZcH {elt:Expr} {gens:List Comprehension} {scope:Scope} {pos:Pos} {d:Nat} {target iter:Expr} {ifs:List Expr} {it acc:Value} {env:PySem.Env} {target' iter':Expr} {ifs':List Expr} (hg:gens[d]? = some ⟨target,iter,ifs,0⟩) (hn:gens[d + 1]? = some ⟨target',iter',ifs',0⟩) :
    compTurn (.ListComp elt gens scope pos) d it acc env=(do
      standAt iter.pos
      match ← pyNext it with
      | none=>pure (.done .next)
      | some v =>
        letOwnedTupleGo target it v
        assign target env v
        let mut ok:=true
        for c in ifs do
          if ok then ok ← isTrue c env (eval c env)
        if ok then
          let x ← eval iter' env
          standAt iter'.pos
          let x ← foldedSetIterable iter' env x
          let _ ← runOwn (.compStart (.ListComp elt gens scope pos) (d + 1) (← holding [x] (pyIter x)) acc env) env
        again (.compLoop (.ListComp elt gens scope pos) d it acc env)):=by
  unfold compTurn
  simp only [hg,hn]
  rfl
section
variable {K:PySem.W.Frag} {cm cm':List Addr} {m m':Mem} {H H':Hp} {xr:XR} {Y:Cx}
noncomputable def AccAt (h:Heap) (D:Addr) (vs:List V):Prop:=vs.length≤sizeLine∧∃ (its:List Value) (n:Nat),Vals vs its∧h.get? D=some { cls:=.type "list",data:=.seq its.toArray n }
structure DOk (Y:Cx) (pins:List (Addr×Obj)) (H:Hp) (D:Addr):Prop where
  free:H D=none
  loc:D≠Y.env.locals
  nofs:D ∉ Y.fs
  own:D∈Y.ex∨Y.s₀.heap.objs.size≤D
  cell:∀ x c,Y.env.cells.lookup x=some c→c≠D
  pin:∀ p∈Y.pn++pins,p.1≠D
theorem pe_run {e:Expr} {call:Nat→List W→Mem→Res W} {gv:List T} {a:E} (h:PE Y e (tE Y.K call gv xr a)) {pins:List (Addr×Obj)} {s:Shared} {σ:L2.St} {env:Env} {w:W} (I:Inv Y pins σ H s) (hE:EnvR Y.K cm m H env σ) (M:MemR Y.K cm m H)
    (ok:ev call gv a env m = .ok w m'):wpAny (model Y.prog Y.w) Y.A (eval e Y.env) (EP Y pins σ fun v H'=>∃ cm',Ext cm m H cm' m' H'∧MemR Y.K cm' m' H'∧RW Y.K cm' m' H' w v) Y.xe s:=by
  refine h pins s σ H _ I ⟨env,cm,m,hE,M,?_⟩
  rw [ok]
  exact fun cm' H' x M' v r=>⟨cm',x,M',r⟩
theorem pt_run {e:Expr} {call:Nat→List W→Mem→Res W} {gv:List T} {a:E} (h:PT Y e (tT Y.K call gv xr a)) {pins:List (Addr×Obj)} {s:Shared} {σ:L2.St} {env:Env} {k:Bool} (I:Inv Y pins σ H s) (hE:EnvR Y.K cm m H env σ) (M:MemR Y.K cm m H)
    (ok:(ev call gv a env m).bind Qa = .ok k m'):wpAny (model Y.prog Y.w) Y.A (isTrue e Y.env (eval e Y.env)) (TP Y pins σ fun b H'=>b=k∧∃ cm',Ext cm m H cm' m' H'∧MemR Y.K cm' m' H') Y.xe s:=by
  refine h pins s σ H _ I ⟨env,cm,m,hE,M,?_⟩
  rw [ok]
  exact fun cm' H' x M'=>⟨rfl,cm',x,M'⟩
noncomputable def PTs (Y:Cx) (call:Nat→List W→Mem→Res W) (gv:List T) (xr:XR):Es→List Expr→Prop
  | .nil,[]=>True
  | .cons a es,e :: r=>PT Y e (tT Y.K call gv xr a)∧PTs Y call gv xr es r
  | _,_=>False
theorem Zbb {env:PySem.Env} {M:Model} {A:Around} {E:Value→Shared→Prop} {s:Shared} {Q:Bool→Shared→Prop} (h:Q false s):∀ ifs:List Expr,
    wpAny M A (forIn ifs false fun c r=>if r=true then do let ok ← isTrue c env (eval c env); pure (ForInStep.yield ok) else pure (ForInStep.yield r)) Q E s
  | []=>wpAny_pure h
  | _ :: r=>by
    simp only [List.forIn_cons,Bool.false_eq_true,if_false]
    exact wpAny_bind (wpAny_pure (Zbb h r))
theorem ZcV {call:Nat→List W→Mem→Res W} {gv:List T} {pins:List (Addr×Obj)} {σ:L2.St} {env:Env}:∀ {cs:Es} {ifs:List Expr} {cm:List Addr} {m m':Mem} {H:Hp} {s:Shared} {k:Bool},PTs Y call gv xr cs ifs→Inv Y pins σ H s→EnvR Y.K cm m H env σ→MemR Y.K cm m H →
    tests call gv cs env m = .ok k m' →
    wpAny (model Y.prog Y.w) Y.A (forIn ifs true fun c r=>if r=true then do let ok ← isTrue c Y.env (eval c Y.env); pure (ForInStep.yield ok) else pure (ForInStep.yield r))
      (fun b s'=>b=k∧∃ H' cm',Inv Y pins σ H' s'∧Ext cm m H cm' m' H'∧MemR Y.K cm' m' H') Y.xe s
  | .nil,[],cm,m,m',H,s,k,_,I,hE,M,ok=>by
    unfold tests at ok
    cases ok
    exact wpAny_pure ⟨rfl,H,cm,I,.refl,M⟩
  | .cons a es,e :: r,cm,m,m',H,s,k,hp,I,hE,M,ok=>by
    unfold tests at ok
    obtain ⟨h1,h2⟩:=hp
    simp only [List.forIn_cons,if_true]
    cases e1:ev call gv a env m with
    | ok w m1 =>
      rw [e1] at ok
      change (Qa w m1).bind _=_ at ok
      cases e2:Qa w m1 with
      | ok b m2 =>
        rw [e2] at ok
        change (if b=true then _ else _)=_ at ok
        refine wpAny_bind (wpAny_bind (thn (pt_run h1 I hE M (m':=m2) (k:=b) (by rw [e1]; exact e2)) fun c s1 ⟨H1,I1,hb,cm1,x1,M1⟩=>wpAny_pure ?_))
        subst hb
        cases c with
        | true =>
          rw [if_pos rfl] at ok
          exact thn (ZcV h2 I1 (hE.ext x1 M M1) M1 ok) fun b' s2 ⟨hb',H2,cm2,I2,x2,M2⟩=>⟨hb',H2,cm2,I2,x1.trans x2,M2⟩
        | false =>
          rw [if_neg Bool.false_ne_true] at ok
          cases ok
          exact Zbb (Q:=fun b s'=>b=false∧∃ H' cm',Inv Y pins σ H' s'∧Ext cm m H cm' m' H'∧MemR Y.K cm' m' H') ⟨rfl,H1,cm1,I1,x1,M1⟩ r
      | exc _ _=>rw [e2] at ok; cases ok
      | stuck=>rw [e2] at ok; cases ok
    | exc _ _=>rw [e1] at ok; cases ok
    | stuck=>rw [e1] at ok; cases ok
  | .nil,_ :: _,_,_,_,_,_,_,hp,_,_,_,_=>hp.elim
  | .cons _ _,[],_,_,_,_,_,_,hp,_,_,_,_=>hp.elim
noncomputable def tgS:Tg→List Nat
  | .nm i=>[i]
  | .tp is=>is
noncomputable def Agree (S:List Nat) (σ σ':L2.St):Prop:=∀ i,i ∉ S→σ'[i]? = σ[i]?
noncomputable def setAll:List Nat→List V→L2.St→L2.St
  | i :: is,v :: vs,σ=>setAll is vs (σ.set i (some v))
  | _,_,σ=>σ
variable (K) in
noncomputable def gT:Tg→TG
  | .nm i=>ZkN i
  | .tp is=>fun v σ H Q=>∃ a xs,v = .ref a∧SqT K H a xs∧xs.length=is.length∧Q (setAll is xs σ) H
theorem ZaI:∀ (is:List Nat) (vs:List V) (σ:L2.St),Agree is σ (setAll is vs σ)
  | [],_,_=>fun _ _=>by unfold setAll; rfl
  | _ :: _,[],_=>fun _ _=>by unfold setAll; rfl
  | i :: is,v :: vs,σ=>fun j hj=>by
    unfold setAll
    rw [List.mem_cons] at hj
    rw [ZaI is vs _ j fun z=>hj (.inr z),List.getElem?_set_ne fun z=>hj (.inl z.symm)]
theorem EnvR.set {env:Env} {σ:L2.St} (h:EnvR K cm m H env σ) {w:W} {v:V} (r:RW K cm m H w v) (i:Nat) (hi:i < σ.length):EnvR K cm m H (env.set i (some w)) (σ.set i (some v)):=fun j u e=>by
  by_cases hj:j=i
  · subst hj
    have hl:j < env.length:=by
      have:=(List.getElem?_eq_some_iff.mp e).1
      rwa [List.length_set] at this
    rw [List.getElem?_set_self hl] at e
    cases e
    exact ⟨v,List.getElem?_set_self hi,r⟩
  · rw [List.getElem?_set_ne (Ne.symm hj)] at e
    obtain ⟨v',h1,h2⟩:=h j u e
    exact ⟨v',by rw [List.getElem?_set_ne (Ne.symm hj)]; exact h1,h2⟩
theorem EnvR.setAll:∀ {is:List Nat} {ts:List T} {vs:List V} {env:Env} {σ:L2.St},EnvR K cm m H env σ→RTs K cm m H ts vs→(∀ i∈is,i < σ.length) →
    EnvR K cm m H ((is.zip ts).foldl (fun env p=>env.set p.1 (some (.t p.2))) env) (Mi.setAll is vs σ)
  | [],_,_,_,_,h,_,_=>by unfold Mi.setAll; exact h
  | _ :: _,[],_,_,_,h,.nil,_=>by unfold Mi.setAll; exact h
  | i :: is,t :: ts,v :: vs,env,σ,h,.cons r rs,hi=>by
    unfold Mi.setAll
    rw [List.zip_cons_cons,List.foldl_cons]
    refine EnvR.setAll (h.set (w:=.t t) r i (hi i List.mem_cons_self)) rs fun j hj=>?_
    rw [List.length_set]
    exact hi j (List.mem_cons_of_mem _ hj)
theorem ZkM {tg:Tg} {t:T} {v:V} {env env':Env} {σ:L2.St} (hE:EnvR K cm m H env σ) (hi:∀ i∈tgS tg,i < σ.length) (r:RT K cm m H t v) (e:J1 tg t env=some env') {Q:L2.St→Hp→Prop}
    (q:∀ σ',EnvR K cm m H env' σ'→Agree (tgS tg) σ σ'→Q σ' H):gT K tg v σ H Q:=by
  cases tg with
  | nm i =>
    cases e
    refine q _ (hE.set (w:=.t t) r i (hi i (by simp [tgS]))) fun j hj=>?_
    rw [List.getElem?_set_ne]
    intro z
    exact hj (by simp [tgS,z])
  | tp is =>
    unfold J1 at e
    dsimp only at e
    split at e
    · split at e <;> cases e
      rename_i ts hl
      obtain ⟨a,vs,rfl,h1,h2⟩:=RT.itup r
      exact ⟨a,vs,rfl,h1,by rw [← h2.length]; exact hl,q _ (EnvR.setAll hE h2 hi) (ZaI is vs σ)⟩
    · cases e
end
end Mi
end
section
namespace Mi
open PySem PySem.Spec PyProof.Rows L2
noncomputable def innS:E→List Nat
  | .more _ tg _ inner=>tgS tg++innS inner
  | _=>[]
section
variable {xr:XR} {Y:Cx} {call:Nat→List W→Mem→Res W} {gv:List T}
variable (Y call gv xr) in
noncomputable def Ins (elt:Expr) (gens:List Comprehension):Nat→E→Prop
  | d,.emit a=>gens[d + 1]? = none∧PE Y elt (tE Y.K call gv xr a)
  | d,.more it tg cs inner=>(∃ target iter ifs,gens[d + 1]? = some ⟨target,iter,ifs,0⟩∧PI Y target iter (tI Y.K call gv xr it)∧(∀ x,foldedSetIterable iter Y.env x=pure x)∧PG Y target (gT Y.K tg)∧PTs Y call gv xr cs ifs) ∧
      (∀ i∈tgS tg,i ∉ innS inner)∧(∀ i∈tgS tg++innS inner,i < Y.N.length)∧Ins elt gens (d + 1) inner
  | _,_=>False
theorem ZfF {α:Type} {M:Model} {A:Around} {t:Sem α} {Q:α→Shared→Prop} {E:Value→Shared→Prop} {s:Shared} (hxe:∀ e s,¬ Y.xe e s) (h:wpAny M A t Q Y.xe s):wpAny M A t Q E s:=wpAny_mono h (fun _ _ q=>q) fun _ _ z=>(hxe _ _ z).elim
noncomputable abbrev turnF (call:Nat→List W→Mem→Res W) (gv:List T) (cs:Es) (inner:E):Env→Mem→Res (List T):=fun env m=>(tests call gv cs env m).bind fun k m=>if k then (ev call gv inner env m).bind ZcM else .ok [] m
noncomputable def Zk6 (Y:Cx) (Acc:Heap→List V→Prop) (D:Addr) (S:List Nat) (pins:List (Addr×Obj)) (σ:L2.St) (cm:List Addr) (m:Mem) (H:Hp) (vs:List V) (out:List T) (m':Mem) (s':Shared):Prop :=
  ∃ σ' H' cm' vs',Inv Y pins σ' H' s'∧Ext cm m H cm' m' H'∧MemR Y.K cm' m' H'∧RTs Y.K cm' m' H' out vs'∧Acc s'.heap (vs++vs')∧Agree S σ σ'∧H' D=none
noncomputable abbrev CEnd (Y:Cx) (D:Addr):=Zk6 Y (fun h vs=>AccAt h D vs) D
theorem AccAt.keep {h h':Heap} {D:Addr} {vs:List V} (a:AccAt h D vs) (k:∀ o,h.get? D=some o→h'.get? D=some o):AccAt h' D vs:=by
  obtain ⟨z,its,n,r,e⟩:=a
  exact ⟨z,its,n,r,k _ e⟩
theorem EnvR.agree {K:PySem.W.Frag} {cm:List Addr} {m:Mem} {H:Hp} {env:Env} {σ σ':L2.St} {S:List Nat} (h:EnvR K cm m H env σ) (a:Agree S σ σ') (n:∀ i∈S,∀ w,env[i]?≠some (some w)):EnvR K cm m H env σ':=fun i w e=>by
  obtain ⟨v,h1,h2⟩:=h i w e
  refine ⟨v,?_,h2⟩
  rw [a i fun z=>n i z w e]
  exact h1
theorem Agree.trans {S:List Nat} {a b c:L2.St} (h:Agree S a b) (g:Agree S b c):Agree S a c:=fun i hi=>(g i hi).trans (h i hi)
theorem Agree.mono {S S':List Nat} {a b:L2.St} (h:Agree S a b) (g:∀ i∈S,i∈S'):Agree S' a b:=fun i hi=>h i fun z=>hi (g i z)
theorem Agree.refl {S:List Nat} {a:L2.St}:Agree S a a:=fun _ _=>rfl
theorem Zew {tg:Tg} {t:T} {env env':Env} (e:J1 tg t env=some env') {i:Nat} (hi:i ∉ tgS tg):env'[i]? = env[i]?:=by
  cases tg with
  | nm j =>
    cases e
    rw [List.getElem?_set_ne]
    intro z; exact hi (by simp [tgS,z])
  | tp is =>
    unfold J1 at e
    dsimp only at e
    split at e
    · split at e <;> cases e
      rename_i ts hl
      have:∀ (is:List Nat) (ts:List T) (env:Env),i ∉ is→((is.zip ts).foldl (fun env p=>env.set p.1 (some (.t p.2))) env)[i]? = env[i]?:=by
        intro is
        induction is with
        | nil=>intro ts env _; rfl
        | cons j is ih =>
          intro ts env h
          cases ts with
          | nil=>rfl
          | cons t ts =>
            rw [List.mem_cons] at h
            rw [List.zip_cons_cons,List.foldl_cons,ih ts _ fun z=>h (.inr z),List.getElem?_set_ne fun z=>h (.inl z.symm)]
      exact this is ts env hi
    · cases e
theorem Zw {α β:Type} {r:Res α} {f:α→Mem→Res β} {y:β} {m':Mem} (h:r.bind f = .ok y m'):∃ x m,r = .ok x m∧f x m = .ok y m':=by
  cases r with
  | ok x m=>exact ⟨x,m,rfl,h⟩
  | exc _ _=>cases h
  | stuck=>cases h
theorem ZdU {w:W} {m m':Mem} {ts:List T} (h:ZcM w m = .ok ts m'):w = .t (.lst ts)∧m' = m:=by
  unfold ZcM at h
  split at h <;> cases h
  exact ⟨rfl,rfl⟩
theorem Zho {K:PySem.W.Frag} {cm:List Addr} {m m':Mem} {H:Hp} {w:W} {v:V} {t:T} (M:MemR K cm m H) (r:RW K cm m H w v) (e:frz w m = .ok t m'):Ext cm m H cm m' H∧MemR K cm m' H∧RT K cm m' H t v:=by
  cases w with
  | t x=>cases e; exact ⟨.refl,M,r⟩
  | f a=>cases e
  | x _ _ _=>cases e
  | c i =>
    unfold frz at e
    dsimp only at e
    split at e
    · rename_i ts h
      cases e
      obtain ⟨a,vs,q1,q2,q3,q4,q5,q6,q7⟩:=ZhJ M h
      obtain ⟨b,h1,h2⟩:=r
      rw [q1] at h1; cases h1
      subst h2
      exact ⟨q4,q5,q7⟩
    · cases e
theorem Zhp {pins:List (Addr×Obj)} {H:Hp} {b:Addr} {fp:List Addr} {h:Heap} (f:FpOk Y pins H b) (n:b ∉ fp):FpOk Y (pins++Xm fp h) H b :=
  ⟨f.1,f.2.1,f.2.2.1,f.2.2.2.1,f.2.2.2.2.1,fun p hp z=>by
    rw [← List.append_assoc] at hp
    rcases List.mem_append.mp hp with hp | hp
    · exact f.2.2.2.2.2 p hp z
    · exact n (by rw [← z]; exact (Zdo hp).1)⟩
structure AccK (D:Addr) (Acc:Heap→List V→Prop):Prop where
  obj:∀ {h vs},Acc h vs→∃ o,h.get? D=some o∧∀ v,o.data≠.cell v
  keep:∀ {h h' vs},Acc h vs→(∀ o,h.get? D=some o→h'.get? D=some o)→Acc h' vs
theorem Za9 (D:Addr):AccK D (fun h vs=>AccAt h D vs):=⟨fun ⟨_,_,_,_,e⟩=>⟨_,e,fun v z=>by cases z⟩,fun a k=>a.keep k⟩
theorem Ze8 {pins:List (Addr×Obj)} {s:Shared} {σ:L2.St} {H:Hp} {D:Addr} {Acc:Heap→List V→Prop} (hA:AccK D Acc) {vs:List V} (I:Inv Y pins σ H s) (f:FpOk Y pins H D) (a:Acc s.heap vs):Inv Y (pins++Xm [D] s.heap) σ H s:=by
  refine I.pinned (fun b hb=>?_) fun b hb=>?_
  · have e:b=D:=by simpa using hb
    rw [e]; exact f
  · have e:b=D:=by simpa using hb
    obtain ⟨o,q,n⟩:=hA.obj a
    rw [e]
    exact ⟨_,q,n⟩
theorem ZcO {pins:List (Addr×Obj)} {h:Heap} {s:Shared} {σ:L2.St} {H:Hp} {D:Addr} {Acc:Heap→List V→Prop} (hA:AccK D Acc) {vs:List V} (a:Acc h vs) (I:Inv Y pins σ H s) (hp:∀ o,h.get? D=some o→(D,o)∈pins):Acc s.heap vs∧H D=none:=by
  obtain ⟨o,q,_⟩:=hA.obj a
  obtain ⟨h1,h2,_⟩:=I.pin _ (List.mem_append_right _ (hp _ q))
  refine ⟨hA.keep a fun o' e=>?_,h2⟩
  rw [q] at e; cases e
  exact h1
theorem ZhV {pins:List (Addr×Obj)} {s:Shared} {σ:L2.St} {H:Hp} {D:Addr} {vs:List V} (I:Inv Y pins σ H s) (f:FpOk Y pins H D) (a:AccAt s.heap D vs):Inv Y (pins++Xm [D] s.heap) σ H s:=Ze8 (Za9 D) I f a
theorem Zjy {pins:List (Addr×Obj)} {h:Heap} {s:Shared} {σ:L2.St} {H:Hp} {D:Addr} {vs:List V} (a:AccAt h D vs) (I:Inv Y pins σ H s) (hp:∀ o,h.get? D=some o→(D,o)∈pins):AccAt s.heap D vs∧H D=none:=ZcO (Za9 D) a I hp
noncomputable abbrev Zh5 (target iter:Expr) (ifs:List Expr) (env:PySem.Env) (it:Value) (c:Code) (br:Sem PySem.Fin):Sem PySem.Fin :=
  standAt iter.pos >>= fun _=>pyNext it >>= fun r=>match r with
    | none=>pure (.done .next)
    | some v=>letOwnedTupleGo target it v >>= fun _=>assign target env v >>= fun _ =>
      (forIn ifs true fun c r=>if r=true then do let ok ← isTrue c env (eval c env); pure (ForInStep.yield ok) else pure (ForInStep.yield r)) >>= fun ok=>if ok=true then br else again c
theorem ZeP (hc:Y.calm=true) (hxe:∀ e s,¬ Y.xe e s) {ce:Expr} {D:Addr} {Acc:Heap→List V→Prop} (hA:AccK D Acc) {L:Nat} {Pt:T→Prop} {inner:E} {d:Nat} {target iter:Expr} {ifs:List Expr} {tg:Tg} {cs:Es} {it:Addr} {br:Sem PySem.Fin}
    (hu:Y.A.under (.compLoop ce d (.ref it) (.ref D) Y.env)=Y.A) (hd:(model Y.prog Y.w).den (.compLoop ce d (.ref it) (.ref D) Y.env)=(compTurn ce d (.ref it) (.ref D) Y.env).onRaise (fun x=>do noteFrame x Y.env; theTreesLotGoes x))
    (code:compTurn ce d (.ref it) (.ref D) Y.env=Zh5 target iter ifs Y.env (.ref it) (.compLoop ce d (.ref it) (.ref D) Y.env) br)
    (hg:PG Y target (gT Y.K tg)) (ht:PTs Y call gv xr cs ifs) (hdis:∀ i∈tgS tg,i ∉ innS inner) (hlt:∀ i∈tgS tg++innS inner,i < Y.N.length)
    (hbr:∀ {pins:List (Addr×Obj)} {s:Shared} {σ:L2.St} {H:Hp} {cm:List Addr} {m m':Mem} {env:Env} {out:List T} {vs:List V},Inv Y pins σ H s→FpOk Y pins H D→Acc s.heap vs→EnvR Y.K cm m H env σ→(∀ i∈innS inner,∀ w,env[i]?≠some (some w))→MemR Y.K cm m H →
      (ev call gv inner env m).bind ZcM = .ok out m'→vs.length + out.length≤L→(∀ t∈out,Pt t) →
      wpAny (model Y.prog Y.w) Y.A br (fun fin s'=>fin = .again (.compLoop ce d (.ref it) (.ref D) Y.env)∧Zk6 Y Acc D (innS inner) pins σ cm m H vs out m' s') Y.xe s)
    {pins:List (Addr×Obj)} {s:Shared} {σ:L2.St} {H:Hp} {cm:List Addr} {m m':Mem} {env:Env} {ts out:List T} {J:It} {fp:List Addr} {tn:Nat→Heap→Prop} {vs:List V} (I:Inv Y pins σ H s) (hD:FpOk Y pins H D) (ha:Acc s.heap vs)
    (hT:Turn Y.prog Y.w Y.K target J fp it tn) (h0:tn 0 s.heap) (hf:∀ b∈fp,FpOk Y pins H b) (hDf:D ∉ fp) (hE:EnvR Y.K cm m H env σ) (hn:∀ i∈tgS tg++innS inner,∀ w,env[i]?≠some (some w)) (M:MemR Y.K cm m H) (hs:Src Y.K cm m H J ts)
    (ok:JD (turnF call gv cs inner) tg ts env m = .ok out m') (hl:vs.length + out.length≤L) (hpt:∀ t∈out,Pt t) :
    codeAny (model Y.prog Y.w) Y.A (.compLoop ce d (.ref it) (.ref D) Y.env) (fun r s'=>r = .ok .next∧Zk6 Y Acc D (tgS tg++innS inner) pins σ cm m H vs out m' s') s:=by
  have statD:∀ {H1:Hp},H1 D=none→FpOk Y pins H1 D:=fun h=>⟨h,hD.2⟩
  have stat:∀ {H1:Hp},(∀ b∈fp,H1 b=none)→∀ b∈fp,FpOk Y pins H1 b:=fun h b hb=>⟨h b hb,(hf b hb).2⟩
  refine codeAny_loop rfl (fun n s1=>∃ i σ1 H1 cm1 m1 vs1 done rest,Inv Y pins σ1 H1 s1∧tn i s1.heap∧(∀ b∈fp,H1 b=none)∧H1 D=none∧Ext cm m H cm1 m1 H1∧MemR Y.K cm1 m1 H1∧Agree (tgS tg++innS inner) σ σ1 ∧
      Acc s1.heap (vs++vs1)∧RTs Y.K cm1 m1 H1 done vs1∧JD (turnF call gv cs inner) tg (ts.drop i) env m1 = .ok rest m'∧out=done++rest∧n=ts.length + 1 - i∧i≤ts.length) ?_ (ts.length + 1)
    ⟨0,σ,H,cm,m,[],[],out,I,h0,fun b hb=>(hf b hb).1,hD.1,.refl,M,.refl,by rw [List.append_nil]; exact ha,.nil,by rw [List.drop_zero]; exact ok,rfl,rfl,Nat.zero_le _⟩
  rintro n s1 ⟨i,σ1,H1,cm1,m1,vs1,done,rest,I1,st1,fr1,d1,x1,M1,ag1,a1,r1,ok1,eo,rfl,hi⟩
  rw [hu,hd]
  refine wpAny_noted ?_
  rw [code]
  refine wpAny_bind (wpAny_standAt (wpAny_bind ?_))
  have hE1:EnvR Y.K cm1 m1 H1 env σ1:=(hE.ext x1 M M1).agree ag1 hn
  have s1':=hs.ext x1 M M1
  have I1D:=Ze8 hA I1 (statD d1) a1
  have fpD:∀ {H1:Hp},(∀ b∈fp,H1 b=none)→∀ b∈fp,FpOk Y (pins++Xm [D] s1.heap) H1 b:=fun h b hb=>Zhp (stat h b hb) fun z=>hDf (by
    have e:b=D:=by simpa using z
    rw [← e]; exact hb)
  have inD:∀ o,s1.heap.get? D=some o→(D,o)∈pins++Xm [D] s1.heap:=fun o e=>List.mem_append_right _ (Ql (by simp) e)
  cases et:ts[i]? with
  | none =>
    refine ZfF hxe (thn (hT.done Y rfl rfl rfl hc i _ s1 σ1 H1 Y.xe I1D (fpD fr1) st1 (Src.stop M1 s1' et)) fun r s2 ⟨hr,I2⟩=>?_)
    subst hr
    have hd:ts.drop i=[]:=List.drop_eq_nil_of_le (List.getElem?_eq_none_iff.mp et)
    rw [hd] at ok1
    unfold JD at ok1
    cases ok1
    rw [List.append_nil] at eo
    subst eo
    exact wpAny_pure ⟨rfl,σ1,H1,cm1,vs1,I2.unpinned,x1,M1,r1,(ZcO hA a1 I2 inD).1,ag1,(ZcO hA a1 I2 inD).2⟩
  | some t =>
    obtain ⟨go,yl⟩:=Src.go M1 s1' et
    have hit:i < ts.length:=(List.getElem?_eq_some_iff.mp et).1
    have hd:ts.drop i=t :: ts.drop (i + 1):=by
      rw [List.drop_eq_getElem_cons hit]
      congr 1
      exact Option.some.inj ((List.getElem?_eq_getElem hit).symm.trans et)
    rw [hd] at ok1
    unfold JD at ok1
    split at ok1
    · cases ok1
    · rename_i env' eb
      obtain ⟨xs,m2,ok2,ok3⟩:=Zw ok1
      obtain ⟨ys,m3,ok4,ok5⟩:=Zw ok3
      cases ok5
      obtain ⟨k,m4,okt,okb⟩:=Zw ok2
      refine ZfF hxe (thn (hT.item Y rfl rfl rfl hc i _ s1 σ1 H1 Y.xe I1D (fpD fr1) st1 go) fun r s2 ⟨u,hr,h2⟩=>?_)
      subst hr
      refine wpAny_bind (ZfF hxe (thn h2 fun _ s3 ⟨x,H3,I3,rx,y3,st3,fr3⟩=>?_))
      obtain ⟨xy,My,rt⟩:=yl x H3 y3
      have hE1:=hE1.ext xy M1 My
      have x1:=x1.trans xy
      have r1:=RTs.ext xy M1 My r1
      have M1:=My
      -- pinned: the list that is filled,and the iterator
      have I3':=I3.pinned (fpD fr3) (hT.obj _ _ st3)
      refine wpAny_bind (ZfF hxe (thn (hg _ s3 σ1 H3 x u (fun σ' H'=>H' = H3∧EnvR Y.K cm1 m1 H3 env' σ'∧Agree (tgS tg) σ1 σ') I3' rx (ZkM hE1 (fun j hj=>by rw [I3.len]; exact hlt j (List.mem_append_left _ hj)) rt eb fun σ' h1 h2=>⟨rfl,h1,h2⟩)) fun _ s4 ⟨σ4,H4,I4,e4,hE4,ag4⟩=>?_))
      subst e4
      refine wpAny_bind (ZfF hxe (thn (ZcV ht I4 hE4 M1 okt) fun b s5 ⟨hb,H5,cm5,I5,x5,M5⟩=>?_))
      subst hb
      have a5:=ZcO hA a1 I5 fun o e=>List.mem_append_left _ (inD o e)
      have st5:tn (i + 1) s5.heap:=hT.keep _ _ _ st3 fun b hb o e=>(I5.pin (b,o) (List.mem_append_right _ (List.mem_append_right _ (Ql hb e)))).1
      have f5:∀ b∈fp,H5 b=none:=fun b hb=>by
        obtain ⟨o,e,dd⟩:=hT.obj _ _ st3 b hb
        exact (I5.pin (b,o) (List.mem_append_right _ (List.mem_append_right _ (Ql hb e)))).2.1
      have ag45:Agree (tgS tg++innS inner) σ σ4:=ag1.trans (ag4.mono fun i hi=>List.mem_append_left _ hi)
      cases b with
      | false =>
        rw [if_neg Bool.false_ne_true] at okb ⊢
        cases okb
        rw [List.nil_append] at eo
        exact wpAny_pure ⟨rfl,_,by omega,i + 1,σ4,H5,cm5,m2,vs1,done,ys,I5.unpinned.unpinned,st5,f5,a5.2,x1.trans x5,M5,ag45,a5.1,RTs.ext x5 M1 M5 r1,ok4,eo,rfl,hit⟩
      | true =>
        rw [if_pos rfl] at okb ⊢
        have I6:Inv Y (pins++Xm fp s5.heap) σ4 H5 s5:=I5.unpinned.unpinned.pinned (stat f5) (hT.obj _ _ st5)
        have hv:=r1.length
        have hz:(vs++vs1).length + xs.length≤L:=by
          rw [List.length_append,← hv]
          rw [eo,List.length_append,List.length_append] at hl
          omega
        have hn6:∀ j∈innS inner,∀ w,env'[j]?≠some (some w):=fun j hj w=>by
          rw [Zew eb fun z=>hdis j z hj]
          exact hn j (List.mem_append_right _ hj) w
        refine ZfF hxe (thn (hbr I6 (Zhp (statD a5.2) hDf) a5.1 (hE4.ext x5 M1 M5) hn6 M5 okb hz fun t ht'=>hpt t (by rw [eo]; exact List.mem_append_right _ (List.mem_append_left _ ht'))) fun fin s7 ⟨hfin,σ7,H7,cm7,vs7,I7,x7,M7,r7,a7,ag7,d7⟩=>?_)
        subst hfin
        have keep7:∀ b∈fp,∀ o,s5.heap.get? b=some o→s7.heap.get? b=some o:=fun b hb o e=>(I7.pin (b,o) (List.mem_append_right _ (List.mem_append_right _ (Ql hb e)))).1
        refine ⟨rfl,_,by omega,i + 1,σ7,H7,cm7,m2,vs1++vs7,done++xs,ys,I7.unpinned,hT.keep _ _ _ st5 keep7,fun b hb=>?_,?_,(x1.trans x5).trans x7,M7,ag45.trans (ag7.mono fun i hi=>List.mem_append_right _ hi),by rw [← List.append_assoc]; exact a7,
          Qq (RTs.ext x7 M5 M7 (RTs.ext x5 M1 M5 r1)) r7,ok4,by rw [eo,List.append_assoc],rfl,hit⟩
        · obtain ⟨o,e,dd⟩:=hT.obj _ _ st5 b hb
          exact (I7.pin (b,o) (List.mem_append_right _ (List.mem_append_right _ (Ql hb e)))).2.1
        · exact d7
end
end Mi
end
section
namespace Mi
open PySem PySem.Spec PyProof.Rows L2
section
variable {xr:XR} {Y:Cx} {call:Nat→List W→Mem→Res W} {gv:List T}
theorem Zad {prog:Program} {w:World} {A:Around} {R:Result→Shared→Prop} {s:Shared} {elt:Expr} {gens:List Comprehension} {scope:Scope} {pos:Pos} {d:Nat} {target iter:Expr} {ifs:List Expr} {it acc:Value} {env:PySem.Env} (hg:gens[d]? = some ⟨target,iter,ifs,0⟩)
    (h0:codeAny (model prog w) A (.compLoop (.ListComp elt gens scope pos) d it acc env) R s)
    (h:wpAny (model prog w) A (pyIter it) (fun it' s'=>codeAny (model prog w) A (.compLoop (.ListComp elt gens scope pos) d it' acc env) R s') (notedBy (model prog w) A env fun x s'=>R (.error x) s') s) :
    codeAny (model prog w) A (.compStart (.ListComp elt gens scope pos) d it acc env) R s:=by
  refine codeAny_of_tree ?_
  show wpAny _ _ ((compStart (.ListComp elt gens scope pos) d it acc env).onRaise (fun x=>do noteFrame x env; standAt theWindowsPlace)) _ _ s
  refine wpAny_notedAt ?_
  unfold compStart
  have e:(clausesOf (.ListComp elt gens scope pos))[d]? = some ⟨target,iter,ifs,0⟩:=hg
  rw [e]
  show wpAny _ _ (ask >>= _) _ _ s
  refine wpAny_bind (wpAny_askSetting (wpAny_ite ?_))
  split
  · first
      | exact wpAny_bind (wpAny_pure (wpAny_pure (And.intro rfl h0)))
      | exact wpAny_pure (And.intro rfl h0)
  · first
      | exact wpAny_bind (wpAny_rule (wpAny_bind (wpAny_standAt (wpAny_bind (wpAny_mono h (fun it' s' h'=>wpAny_pure (And.intro rfl h')) fun _ _ x=>x)))))
      | (refine wpAny_bind (wpAny_rule ?_); show wpAny _ _ (standAt iter.pos >>= _) _ _ s; exact wpAny_bind (wpAny_standAt (wpAny_bind (wpAny_mono h (fun it' s' h'=>wpAny_pure (And.intro rfl h')) fun _ _ x=>x))))
theorem Zf5 {pins:List (Addr×Obj)} {s:Shared} {σ:L2.St} {H:Hp} {D:Addr} {vs:List V} {v:V} {u:Value} {E:Value→Shared→Prop} {Q:Value→Shared→Prop} (I:Inv Y pins σ H s) (f:FpOk Y pins H D) (a:AccAt s.heap D vs) (r:RelV v u) (hz:vs.length < sizeLine)
    (q:∀ s',Inv Y pins σ H s'→AccAt s'.heap D (vs++[v])→Q .none s'):wpAny (model Y.prog Y.w) Y.A (PySem.call (.builtin "list.append") [.ref D,u]) Q E s:=by
  obtain ⟨z,its,n,rv,e⟩:=a
  have hl:=rv.length
  refine call_meets F.slot_list_append ⟨_,e,rfl⟩ F.entry_list_append (F.args_list_append_2 _ _) (PySem.list_append D its.toArray n u (by rw [List.size_toArray]; omega)) ⟨e,?_⟩
  have e2:=PySem.IsL.update e (·.push u)
  have hf:its.toArray.push u=(its++[u]).toArray:=by simp
  rw [hf] at e2
  obtain ⟨f0,f1,f2,f3,f4,f5⟩:=f
  refine q _ (I.turned (t':=s.toks) (it:=D) (fun b o hb eb=>(Heap.get?_update_other s.heap (Obj.mapSeq (·.push u)) (Ne.symm hb)).trans eb) f0 f1 f3 f4 f5) ⟨?_,its++[u],_,rv.append (.cons r .nil),e2⟩
  rw [List.length_append,List.length_singleton]
  omega
theorem ZbJ {K:PySem.W.Frag} {cm:List Addr} {m m1:Mem} {H:Hp} {w:W} {ts:List T} (M:MemR K cm m H) (e:Qd w m = .ok ts m1):Ext cm m H cm m1 H∧MemR K cm m1 H:=by
  cases w with
  | t t =>
    unfold Qd at e
    dsimp only at e
    split at e <;> cases e
    exact ⟨.refl,M⟩
  | f a=>cases e
  | x _ _ _=>cases e
  | c i =>
    unfold Qd at e
    dsimp only at e
    split at e
    · cases e
      exact ZhI M (by assumption)
    · cases e
theorem Zg6 (hc:Y.calm=true) (hxe:∀ e s,¬ Y.xe e s) {elt:Expr} {gens:List Comprehension} {scope:Scope} {pos:Pos} {D:Addr}:∀ (inner:E) (d:Nat) (target iter:Expr) (ifs:List Expr) (tg:Tg) (cs:Es),gens[d]? = some ⟨target,iter,ifs,0⟩ →
    PG Y target (gT Y.K tg)→PTs Y call gv xr cs ifs→Ins xr Y call gv elt gens d inner→(∀ i∈tgS tg,i ∉ innS inner)→(∀ i∈tgS tg++innS inner,i < Y.N.length) →
    ∀ {pins:List (Addr×Obj)} {s:Shared} {σ:L2.St} {H:Hp} {cm:List Addr} {m m':Mem} {env:Env} {ts out:List T} {J:It} {it:Addr} {fp:List Addr} {tn:Nat→Heap→Prop} {vs:List V},Inv Y pins σ H s→FpOk Y pins H D→AccAt s.heap D vs →
      Turn Y.prog Y.w Y.K target J fp it tn→tn 0 s.heap→(∀ b∈fp,FpOk Y pins H b)→D ∉ fp→EnvR Y.K cm m H env σ→(∀ i∈tgS tg++innS inner,∀ w,env[i]?≠some (some w))→MemR Y.K cm m H→Src Y.K cm m H J ts →
      JD (turnF call gv cs inner) tg ts env m = .ok out m'→vs.length + out.length≤lim →
      codeAny (model Y.prog Y.w) Y.A (.compLoop (.ListComp elt gens scope pos) d (.ref it) (.ref D) Y.env) (fun r s'=>r = .ok .next∧CEnd Y D (tgS tg++innS inner) pins σ cm m H vs out m' s') s
  | .emit a=>@fun d target iter ifs tg cs hg pg pt hin hdis hlt pins s σ H cm m m' env ts out J it fp tn vs I hD ha hT h0 hf hDf hE hn M hs ok hl=>by
    obtain ⟨hnx,pe⟩:=hin
    refine ZeP hc hxe (Za9 D) (br:=do (do let _ ← PySem.call (.builtin "list.append") [.ref D,← eval elt Y.env]); again (.compLoop (.ListComp elt gens scope pos) d (.ref it) (.ref D) Y.env)) rfl rfl (ZcI hg hnx) pg pt hdis hlt ?_ I hD ha hT h0 hf hDf hE hn M hs ok hl (Pt:=fun _=>True) (fun _ _=>trivial)
    intro pins s σ H cm m m' env out vs I hD ha hE hn M ok hl _
    obtain ⟨w,m1,ok1,ok2⟩:=Zw ok
    obtain ⟨rfl,rfl⟩:=ZdU ok2
    unfold ev at ok1
    obtain ⟨w1,m2,ok3,ok4⟩:=Zw ok1
    obtain ⟨t,m3,ok5,ok6⟩:=Zw ok4
    cases ok6
    have hz:=ZV
    refine wpAny_bind (wpAny_bind (thn (pe_run pe (ZhV I hD ha) hE M ok3) fun u s1 ⟨v,H1,I1,rv,cm1,x1,M1,r1⟩=>?_))
    obtain ⟨a1,d1⟩:=Zjy ha I1 fun o e=>List.mem_append_right _ (Ql (by simp) e)
    obtain ⟨x2,M2,r2⟩:=Zho M1 r1 ok5
    have I1':Inv Y pins σ H1 s1:=I1.unpinned
    refine wpAny_bind (Zf5 I1' ⟨d1,hD.2⟩ a1 rv (by simp at hl; omega) fun s2 I2 a2=>wpAny_pure (wpAny_pure ⟨rfl,σ,H1,cm1,[v],I2,x1.trans x2,M2,.cons r2 .nil,a2,.refl,d1⟩))
  | .more it' tg' cs' inner'=>@fun d target iter ifs tg cs hg pg pt hin hdis hlt pins s σ H cm m m' env ts out J it fp tn vs I hD ha hT h0 hf hDf hE hn M hs ok hl=>by
    obtain ⟨⟨target',iter',ifs',hnx,pi,hfs,pg',pt'⟩,hdis',hlt',hin'⟩:=hin
    have rec_:=@Zg6 hc hxe elt gens scope pos D inner' (d + 1) target' iter' ifs' tg' cs' hnx pg' pt' hin' hdis' hlt'
    refine ZeP hc hxe (Za9 D) rfl rfl (ZcH hg hnx) pg pt hdis hlt ?_ I hD ha hT h0 hf hDf hE hn M hs ok hl (Pt:=fun _=>True) (fun _ _=>trivial)
    intro pins s σ H cm m m' env out vs I hD ha hE hn M ok hl _
    obtain ⟨w,m1,ok1,ok2⟩:=Zw ok
    obtain ⟨rfl,rfl⟩:=ZdU ok2
    unfold ev at ok1
    obtain ⟨w1,m2,ok3,ok4⟩:=Zw ok1
    obtain ⟨ts',m3,ok5,ok6⟩:=Zw ok4
    obtain ⟨out',m4,ok7,ok8⟩:=Zw ok6
    cases ok8
    have hz:=ZV
    refine wpAny_bind (thn (pi _ s σ H (fun J H1=>∃ cm1,Ext cm m H cm1 m2 H1∧MemR Y.K cm1 m2 H1∧Src Y.K cm1 m3 H1 J ts') (ZhV I hD ha) ⟨env,cm,m,hE,M,by
      rw [ok3]
      exact fun cm1 H1 x M1=>⟨ts',m3,ok5,fun J hs=>⟨cm1,x,M1,hs⟩⟩⟩) fun xv s1 h1=>?_)
    refine wpAny_bind (wpAny_standAt (wpAny_bind (wpAny_of_eq (hfs xv) (wpAny_bind (wpAny_holding (thn h1 fun itv s2 h2=>?_))))))
    obtain ⟨it2,fp2,tn2,J2,H2,rfl,I2,T2,st2,f2,cm2,x2,M2,hs2⟩:=h2
    obtain ⟨a2,d2⟩:=Zjy ha I2 fun o e=>List.mem_append_right _ (Ql (by simp) e)
    have hDf2:D ∉ fp2:=fun z=>by
      obtain ⟨_,its,n,_,e⟩:=id ha
      exact (f2 D z).2.2.2.2.2 (D,_) (List.mem_append_right _ (List.mem_append_right _ (Ql (by simp) e))) rfl
    have f2':∀ b∈fp2,FpOk Y pins H2 b:=fun b hb=>⟨(f2 b hb).1,(f2 b hb).2.1,(f2 b hb).2.2.1,(f2 b hb).2.2.2.1,(f2 b hb).2.2.2.2.1,fun p hp=>(f2 b hb).2.2.2.2.2 p (by rw [← List.append_assoc]; exact List.mem_append_left _ hp)⟩
    have hb3:Ext cm2 m2 H2 cm2 m3 H2∧MemR Y.K cm2 m3 H2:=ZbJ M2 ok5
    have E2:EnvR Y.K cm2 m3 H2 env σ:=(hE.ext x2 M M2).ext hb3.1 M2 hb3.2
    have go:=rec_ I2.unpinned ⟨d2,hD.2⟩ a2 T2 st2 f2' hDf2 E2 hn hb3.2 hs2 ok7 hl
    have self:codeAny (model Y.prog Y.w) Y.A (.compStart (.ListComp elt gens scope pos) (d + 1) (.ref it2) (.ref D) Y.env) _ s2:=Zad hnx go (T2.self Y.A 0 s2 _ _ st2 go)
    refine wpAny_bind (wpAny_runOwn (codeAny_mono self fun r s3 ⟨hr,σ3,H3,cm3,vs3,I3,x3,M3,r3,a3,ag3,d3⟩=>?_))
    subst hr
    obtain ⟨x4,M4,sm⟩:=Zaa M2 ok5 x3 M3
    exact wpAny_pure ⟨rfl,σ3,H3,cm3,vs3,I3,x2.trans x4,M4,Zh (fun _ _ z=>sm _ _ z) r3,a3,ag3,d3⟩
  | .var _=>@fun d target iter ifs tg cs hg pg pt hin=>hin.elim
  | .gl _=>@fun d target iter ifs tg cs hg pg pt hin=>hin.elim
  | .con _=>@fun d target iter ifs tg cs hg pg pt hin=>hin.elim
  | .bin _ _ _=>@fun d target iter ifs tg cs hg pg pt hin=>hin.elim
  | .neg _=>@fun d target iter ifs tg cs hg pg pt hin=>hin.elim
  | .not _=>@fun d target iter ifs tg cs hg pg pt hin=>hin.elim
  | .and _ _=>@fun d target iter ifs tg cs hg pg pt hin=>hin.elim
  | .or _ _=>@fun d target iter ifs tg cs hg pg pt hin=>hin.elim
  | .one _=>@fun d target iter ifs tg cs hg pg pt hin=>hin.elim
  | .cmp _ _ _=>@fun d target iter ifs tg cs hg pg pt hin=>hin.elim
  | .chn _ _ _ _ _=>@fun d target iter ifs tg cs hg pg pt hin=>hin.elim
  | .ite _ _ _=>@fun d target iter ifs tg cs hg pg pt hin=>hin.elim
  | .tup _=>@fun d target iter ifs tg cs hg pg pt hin=>hin.elim
  | .lst _=>@fun d target iter ifs tg cs hg pg pt hin=>hin.elim
  | .cel _=>@fun d target iter ifs tg cs hg pg pt hin=>hin.elim
  | .celL _=>@fun d target iter ifs tg cs hg pg pt hin=>hin.elim
  | .celA _ _=>@fun d target iter ifs tg cs hg pg pt hin=>hin.elim
  | .dsp _ _=>@fun d target iter ifs tg cs hg pg pt hin=>hin.elim
  | .ix _ _=>@fun d target iter ifs tg cs hg pg pt hin=>hin.elim
  | .slc _ _ _=>@fun d target iter ifs tg cs hg pg pt hin=>hin.elim
  | .rev _=>@fun d target iter ifs tg cs hg pg pt hin=>hin.elim
  | .hole=>@fun d target iter ifs tg cs hg pg pt hin=>hin.elim
  | .call _ _=>@fun d target iter ifs tg cs hg pg pt hin=>hin.elim
  | .blt _ _=>@fun d target iter ifs tg cs hg pg pt hin=>hin.elim
  | .mth _ _ _=>@fun d target iter ifs tg cs hg pg pt hin=>hin.elim
  | .isi _ _=>@fun d target iter ifs tg cs hg pg pt hin=>hin.elim
  | .comp _ _ _ _ _ _=>@fun d target iter ifs tg cs hg pg pt hin=>hin.elim
  | .tr _=>@fun d target iter ifs tg cs hg pg pt hin=>hin.elim
  | .fnv _=>@fun d target iter ifs tg cs hg pg pt hin=>hin.elim
  | .callV _ _ _=>@fun d target iter ifs tg cs hg pg pt hin=>hin.elim
  | .fst _=>@fun d target iter ifs tg cs hg pg pt hin=>hin.elim
  | .xat _ _ _=>@fun d target iter ifs tg cs hg pg pt hin=>hin.elim
  | .xis _ _ _=>@fun d target iter ifs tg cs hg pg pt hin=>hin.elim
  | .gdg _ _=>@fun d target iter ifs tg cs hg pg pt hin=>hin.elim
  | .gdn _ _ _=>@fun d target iter ifs tg cs hg pg pt hin=>hin.elim
  | .dsn _ _=>@fun d target iter ifs tg cs hg pg pt hin=>hin.elim
end
end Mi
end
section
namespace Mi
open PySem PySem.Spec PyProof.Rows L2
theorem ZfZ {scope:Scope} {env:PySem.Env} (h:∀ x,(x,NameKind.free)∈scope.names→∃ c,env.cells.lookup x=some c) :
    ∃ cl,closureFor scope env=pure cl∧(∀ x c,cl.lookup x=some c→env.cells.lookup x=some c)∧∀ x,(x,NameKind.free)∈scope.names→∃ c,cl.lookup x=some c:=by
  have go:∀ (ns:List (Str×NameKind)) (acc:List (Str×Addr)),(∀ x,(x,NameKind.free)∈ns→∃ c,env.cells.lookup x=some c)→(∀ x c,acc.lookup x=some c→env.cells.lookup x=some c) →
      ∃ cl,(forIn ns acc fun (x:Str×NameKind) cs=>(match x with | (name,kind)=>if (kind == NameKind.free)=true then do let a ← cellOf env name; pure (ForInStep.yield ((name,a) :: cs)) else pure (ForInStep.yield cs):Sem (ForInStep (List (Str×Addr)))))=pure cl ∧
        (∀ x c,cl.lookup x=some c→env.cells.lookup x=some c)∧(∀ x,(x,NameKind.free)∈ns→∃ c,cl.lookup x=some c)∧∀ x c,acc.lookup x=some c→∃ c,cl.lookup x=some c:=by
    intro ns
    induction ns with
    | nil=>intro acc _ h2; exact ⟨acc,rfl,h2,fun x hx=>absurd hx (by simp),fun x c e=>⟨c,e⟩⟩
    | cons p ns ih =>
      intro acc h1 h2
      obtain ⟨n,k⟩:=p
      have h1':∀ x,(x,NameKind.free)∈ns→∃ c,env.cells.lookup x=some c:=fun x hx=>h1 x (List.mem_cons_of_mem _ hx)
      by_cases hk:k = .free
      · subst hk
        obtain ⟨c,hc⟩:=h1 n List.mem_cons_self
        have h2':∀ x d,((n,c) :: acc).lookup x=some d→env.cells.lookup x=some d:=fun x d e=>by
          rw [List.lookup_cons] at e
          cases hx:x == n with
          | true=>rw [hx] at e; cases e; rw [eq_of_beq hx]; exact hc
          | false=>rw [hx] at e; exact h2 x d e
        obtain ⟨cl,e1,e2,e3,e4⟩:=ih ((n,c) :: acc) h1' h2'
        refine ⟨cl,?_,e2,fun x hx=>?_,fun x d e=>?_⟩
        · rw [List.forIn_cons]
          simp only [beq_self_eq_true,if_true,cellOf,hc,pure_bind]
          exact e1
        · rcases List.mem_cons.mp hx with z | z
          · cases z
            exact e4 n c (by rw [List.lookup_cons,beq_self_eq_true])
          · exact e3 x z
        · by_cases hx:x=n
          · subst hx; exact e4 x c (by rw [List.lookup_cons,beq_self_eq_true])
          · exact e4 x d (by rw [List.lookup_cons,beq_eq_false_iff_ne.mpr hx]; exact e)
      · obtain ⟨cl,e1,e2,e3,e4⟩:=ih acc h1' h2
        have hb:(k == NameKind.free)=false:=beq_eq_false_iff_ne.mpr hk
        refine ⟨cl,?_,e2,fun x hx=>?_,e4⟩
        · rw [List.forIn_cons]
          simp only [hb,Bool.false_eq_true,if_false,pure_bind]
          exact e1
        · rcases List.mem_cons.mp hx with z | z
          · cases z; exact absurd rfl hk
          · exact e3 x z
  obtain ⟨cl,e1,e2,e3,_⟩:=go scope.names [] h (fun x c e=>by simp at e)
  refine ⟨cl,?_,e2,e3⟩
  unfold closureFor
  have:(forIn scope.names ([]:List (Str×Addr)) fun (x:Str×NameKind) cs=>(match x with | (name,kind)=>if (kind == NameKind.free)=true then do let a ← cellOf env name; pure (ForInStep.yield ((name,a) :: cs)) else pure (ForInStep.yield cs):Sem (ForInStep (List (Str×Addr))))) >>= (fun cs=>pure cs)=(pure cl:Sem (List (Str×Addr))):=by rw [e1]; rfl
  exact this
end Mi
end
section
namespace Mi
open PySem PySem.Spec PyProof.Rows L2
section
variable {xr:XR} {X:Cx} {call:Nat→List W→Mem→Res W} {gv:List T}
noncomputable abbrev Xv (X:Cx) (N':List Str) (scope:Scope) (cl:List (Str×Addr)) (C:Addr) (s2:Shared) (H2:Hp) (fp:List Addr):Cx :=
  { X with N:=N',s₀:=s2,H₀:=H2,env:=compEnvC scope cl C X.env,outer:=X.stack,stack:=X.stack,ex:=fp,fn:=fun _=>false,pn:=[],xe:=fun _ _=>False }
structure CompSc (X:Cx) (N':List Str) (scope:Scope):Prop where
  kind:scope.kind = .function
  cell:∀ y∈scope.names,y.2≠NameKind.cell
  look:∀ p∈scope.names,scope.names.lookup p.1=some p.2
  free:∀ x,(x,NameKind.free)∈scope.names→X.env.kindOf x=some .cell∨X.env.kindOf x=some .free
theorem ZaK {scope:Scope} {env:PySem.Env} (look:∀ p∈scope.names,scope.names.lookup p.1=some p.2) {x:Str} {k:NameKind} (h:(relabel scope env).names.lookup x=some k) :
    ∃ k',scope.names.lookup x=some k'∧(k=k'∨(k' = .free∧k = .cell)):=by
  have go:∀ (ns:List (Str×NameKind)),(ns.map fun (n,k)=>if (k == NameKind.free && env.scope.kind == .function && env.kindOf n == some .cell) then (n,NameKind.cell) else (n,k)).lookup x=some k→∃ k',ns.lookup x=some k'∧(k=k'∨(k' = .free∧k = .cell)):=by
    intro ns
    induction ns with
    | nil=>intro h; simp at h
    | cons p r ih =>
      obtain ⟨n,q⟩:=p
      intro h
      rw [List.map_cons] at h
      by_cases hc:(q == NameKind.free && env.scope.kind == .function && env.kindOf n == some .cell)=true
      · simp only [hc,if_true] at h
        rw [List.lookup_cons] at h ⊢
        cases hx:x == n with
        | true =>
          rw [hx] at h; cases h
          rw [Bool.and_eq_true,Bool.and_eq_true] at hc
          exact ⟨q,rfl,.inr ⟨eq_of_beq hc.1.1,rfl⟩⟩
        | false=>rw [hx] at h; exact ih h
      · simp only [hc,Bool.false_eq_true,if_false] at h
        rw [List.lookup_cons] at h ⊢
        cases hx:x == n with
        | true=>rw [hx] at h; cases h; exact ⟨_,rfl,.inl rfl⟩
        | false=>rw [hx] at h; exact ih h
  exact go scope.names h
theorem XC {ns:List (Str×NameKind)} {x:Str} {k:NameKind} (h:ns.lookup x=some k):(x,k)∈ns:=PySem.mem_of_lookup h
theorem ZfW {pins:List (Addr×Obj)} {s:Shared} {σ σ':L2.St} {H:Hp} {fp:List Addr} {N':List Str} {scope:Scope} {cl:List (Str×Addr)} {C:Addr} {h1:Heap} {t:Nat} (I:Inv X pins σ H s) (S:CompSc X N' scope) (hf:∀ b∈fp,FpOk X pins H b) (hlt:∀ b∈fp,b < s.heap.objs.size)
    (hC:s.heap.objs.size≤C) (hns:∃ m,h1.Ns C m) (hk:∀ b o,s.heap.get? b=some o→h1.get? b=some o)
    (hcl1:∀ x c,cl.lookup x=some c→X.env.cells.lookup x=some c) (hcl2:∀ x,(x,NameKind.free)∈scope.names→∃ c,cl.lookup x=some c) (hl:σ'.length=N'.length)
    (hσ:∀ (i:Nat) (x:Str) (v:V),N'[i]? = some x→σ'[i]? = some (some v)→∃ j:Nat,X.N[j]? = some x∧σ[j]? = some (some v)∧(x,NameKind.free)∈scope.names) :
    Inv (Xv X N' scope cl C s H fp) [] σ' H { s with heap:=h1,toks:=t }:=by
  have hfree:∀ x k,(relabel scope X.env).names.lookup x=some k→(k = .cell∨k = .free)→(x,NameKind.free)∈scope.names:=fun x k h hk'=>by
    obtain ⟨k',h1,h2⟩:=ZaK S.look h
    rcases h2 with rfl | ⟨rfl,_⟩
    · rcases hk' with rfl | rfl
      · exact absurd rfl (S.cell _ (XC h1))
      · exact XC h1
    · exact XC h1
  obtain ⟨mm,hns⟩:=hns
  refine ⟨⟨I.ok.mod,S.kind,I.ok.glob,I.ok.blt,hC,fun x y c e1 e2=>I.ok.inj x y c (hcl1 x c e1) (hcl1 y c e2),fun x hx=>?_,fun x c h=>?_,I.ok.hd,I.ok.frames,.inl rfl,fun b hb=>⟨Nat.ne_of_lt (Nat.lt_of_lt_of_le (hlt b hb) hC),fun x c e=>(hf b hb).2.2.2.2.1 x c (hcl1 x c e)⟩,I.bs,Nat.le_trans I.ok.bsz I.sz,fun b o e hb=>?_,fun b hb z=>?_,I.stack,I.stkFree⟩,
    rfl,I.bare,Un.kept hk,⟨mm,hns,fun i x v e1 e2 e3=>?_⟩,fun x c e=>?_,I.hok.fresh hC,fun x c e=>I.freeC x c (hcl1 x c e),fun p hp=>absurd (show p∈([]:List (Addr×Obj)) from hp) (by simp),I.hok.kept hk,hl⟩
  · rcases hx with hx | hx
    · exact hcl2 x (hfree x _ hx (.inl rfl))
    · exact hcl2 x (hfree x _ hx (.inr rfl))
  · exact absurd (show false=true from h) Bool.false_ne_true
  · rcases (hf b hb).2.2.2.1 with z | z
    · exact I.ok.noex b o e z
    · exact absurd (Nat.lt_of_lt_of_le (Heap.lt_size e) (Nat.le_trans I.ok.bsz z)) (Nat.lt_irrefl _)
  · rcases List.mem_cons.mp (I.stkSub b z) with q | q
    · exact (hf b hb).2.1 q
    · exact (hf b hb).2.2.1 q
  · obtain ⟨j,h1',h2',h3'⟩:=hσ i x v e1 e2
    obtain ⟨m0,hn0,hl0⟩:=I.loc
    have kx:=S.free x h3'
    obtain ⟨u,ru,lu⟩:=hl0 j x v h1' h2' (kx.elim (fun z=>.inr (.inl z)) fun z=>.inr (.inr z))
    refine ⟨u,ru,.inr ?_⟩
    obtain ⟨c,ec,ic⟩:∃ c,X.env.cells.lookup x=some c∧s.heap.IsCell c (some u):=by
      rcases lu with ⟨q,_⟩ | ⟨_,c,q1,q2⟩
      · rcases kx with z | z
        · rw [z] at q; cases q
        · rw [z] at q; cases q
      · exact ⟨c,q1,q2⟩
    obtain ⟨c',ec'⟩:=hcl2 x h3'
    have:c' = c:=by
      have:=hcl1 x c' ec'
      rw [ec] at this; exact (Option.some.inj this).symm
    subst this
    obtain ⟨o,ho,hd⟩:=ic
    refine ⟨?_,c',ec',o,hk _ _ ho,hd⟩
    rcases e3 with e3 | e3 | e3
    · obtain ⟨k',q1,q2⟩:=ZaK S.look e3
      rw [S.look _ h3'] at q1; cases q1
      rcases q2 with q2 | ⟨_,q2⟩ <;> cases q2
    · exact .inl e3
    · exact .inr e3
  · obtain ⟨v,o,ho,hd⟩:=I.cell x c (hcl1 x c e)
    exact ⟨v,o,hk _ _ ho,hd⟩
theorem ZfV {pins:List (Addr×Obj)} {s s':Shared} {σ σ':L2.St} {H H':Hp} {fp:List Addr} {N':List Str} {scope:Scope} {cl:List (Str×Addr)} {C:Addr} (I:Inv X pins σ H s) (hf:∀ b∈fp,FpOk X pins H b) (J:Inv (Xv X N' scope cl C s H fp) [] σ' H' s') :
    Inv X pins σ H' s' :=
  I.call' J.os J.base J.hok J.bare fun b hb=>⟨(hf b hb).2.2.2.1,(hf b hb).2.1,(hf b hb).2.2.2.2.1,(hf b hb).2.2.2.2.2⟩
theorem Inv.adopt {pins:List (Addr×Obj)} {s:Shared} {σ:L2.St} {H:Hp} {D:Addr} {vs:List V} (I:Inv X pins σ H s) (f:FpOk X pins H D) (a:AccAt s.heap D vs):Inv X pins σ (upd H D (.lst vs)) s:=by
  obtain ⟨f0,f1,f2,f3,f4,f5⟩:=f
  have hne:∀ b u,H b=some u→b≠D:=fun b u e z=>by subst z; rw [f0] at e; cases e
  refine I.call' (ch:=[D]) rfl ⟨fun b o e _ _ _=>e,fun b o e _ _ _=>⟨o.slots,e⟩,fun b o e n hx=>by rw [Zm (by simpa using hx)]; exact n,fun b o e _=>⟨o,e⟩,fun b xs e=>by rw [Zm (hne b _ e)]; exact e,fun b o u e=>by rw [Zm (hne b _ e)]; exact e,
    fun b ps e=>⟨#[],by rw [Zm (hne b _ e),e]; simp⟩⟩ (fun b u e=>?_) I.bare fun b hb=>?_
  · by_cases hb:b=D
    · subst hb
      rw [ZK] at e; cases e
      exact a
    · rw [Zm hb] at e
      exact (I.hok b u e).stay (fun _ _ _ q=>q) (fun c q=>by rw [Zm (hne c _ q)]; exact q) fun c xs q=>by rw [Zm (hne c _ q)]; exact q
  · have e:b=D:=by simpa using hb
    subst e
    exact ⟨f3,f1,f4,f5⟩
end
end Mi
end
section
namespace Mi
open PySem PySem.Spec PyProof.Rows L2
section
variable {xr:XR} {X:Cx} {call:Nat→List W→Mem→Res W} {gv:List T}
noncomputable def ZhZ (X:Cx) (xr:XR) (call:Nat→List W→Mem→Res W) (gv:List T) (N':List Str) (scope:Scope) (elt target:Expr) (ifs:List Expr) (gens:List Comprehension) (tg:Tg) (cs:Es) (inner:E):Prop :=
  ∀ (cl:List (Str×Addr)) (C:Addr) (s2:Shared) (H2:Hp) (fp:List Addr),PG (Xv X N' scope cl C s2 H2 fp) target (gT X.K tg)∧PTs (Xv X N' scope cl C s2 H2 fp) call gv xr cs ifs∧Ins xr (Xv X N' scope cl C s2 H2 fp) call gv elt gens 0 inner
noncomputable def envC (own:Nat) (keep:List Nat) (env:Env):Env:=List.replicate own none++keep.map fun i=>(env[i]?).join
noncomputable def stC (own:Nat) (keep:List Nat) (σ:L2.St):L2.St:=List.replicate own none++keep.map fun i=>(σ[i]?).join
theorem envC_R {K:PySem.W.Frag} {cm:List Addr} {m:Mem} {H:Hp} {env:Env} {σ:L2.St} {own:Nat} {keep:List Nat} (h:EnvR K cm m H env σ):EnvR K cm m H (envC own keep env) (stC own keep σ):=fun i w e=>by
  unfold envC at e
  unfold stC
  by_cases hi:i < own
  · rw [List.getElem?_append_left (by simpa using hi),List.getElem?_replicate] at e
    split at e <;> cases e
  · rw [List.getElem?_append_right (by simpa using hi),List.length_replicate,List.getElem?_map] at e
    rw [List.getElem?_append_right (by simpa using hi),List.length_replicate,List.getElem?_map]
    cases q:keep[i - own]? with
    | none=>rw [q] at e; cases e
    | some j =>
      rw [q] at e
      have e':(env[j]?).join=some w:=Option.some.inj e
      cases r:env[j]? with
      | none=>rw [r] at e'; cases e'
      | some o =>
        rw [r] at e'
        have e2:o=some w:=e'
        subst e2
        obtain ⟨v,h1,h2⟩:=h j w r
        exact ⟨v,by simp [h1],h2⟩
theorem ZeN {α:Type} {r:Res α} {x:α} {m:Mem} (h:r.only = .ok x m):r = .ok x m:=by
  cases r with
  | ok _ _=>exact h
  | exc _ _=>cases h
  | stuck=>cases h
theorem Zb5 {α β:Type} {r:Res α} {f:α→Mem→Res β} (hf:∀ x m e m',f x m≠.exc e m') (e:Exc) (m':Mem):r.only.bind f≠.exc e m':=by
  cases r with
  | ok x m=>exact hf x m e m'
  | exc _ _=>intro h; cases h
  | stuck=>intro h; cases h
theorem Zcc {own:Nat} {keep:List Nat} {it:E} {tg:Tg} {cs:Es} {inner:E} {env:Env} {m:Mem} (e:Exc) (m':Mem):ev call gv (.comp own keep it tg cs inner) env m≠.exc e m':=by
  unfold ev
  refine Zb5 (fun x m0 e m'=>?_) e m'
  cases h:Qd x m0 with
  | ok ts m1 =>
    refine Zb5 (fun out m2 e m'=>?_) e m'
    split <;> (intro h; cases h)
  | exc _ _ =>
    unfold Qd at h
    split at h <;> first
      | (cases h; done)
      | (split at h <;> cases h)
  | stuck=>intro h; cases h
theorem ZdI {own:Nat} {keep:List Nat} {it:E} {tg:Tg} {cs:Es} {inner:E} {env:Env} {m m':Mem} {w:W} (h:ev call gv (.comp own keep it tg cs inner) env m = .ok w m'):∃ out,w = .t (.lst out):=by
  unfold ev at h
  obtain ⟨_,_,_,h⟩:=Zw h
  obtain ⟨_,_,_,h⟩:=Zw h
  obtain ⟨out,_,_,h⟩:=Zw h
  split at h <;> cases h
  exact ⟨_,rfl⟩
theorem ZdJ {elt target iter:Expr} {ifs:List Expr} {gs:List Comprehension} {scope:Scope} {pos pos':Pos} {N':List Str} {own:Nat} {keep:List Nat} {it:E} {tg:Tg} {cs:Es} {inner:E} {use:Option (Value→Sem Unit)}
    (hc:X.calm=true) (S:CompSc X N' scope) (hown:N'.length=own + keep.length) (hkeep:∀ (i:Nat) x,N'[own + i]? = some x→∃ j,keep[i]? = some j∧X.N[j]? = some x∧(x,NameKind.free)∈scope.names)
    (hlocal:∀ x∈scope.names,x.2=NameKind.local→scope.names.lookup x.1=some .local)
    (pi:PI X target iter (tI X.K call gv xr it)) (hfs:∀ x,foldedSetIterable iter X.env x=pure x) (hY:ZhZ X xr call gv N' scope elt target ifs (⟨target,iter,ifs,0⟩ :: gs) tg cs inner)
    (hdis:∀ i∈tgS tg,i ∉ innS inner) (hsl:∀ i∈tgS tg++innS inner,i < own)
    {pins:List (Addr×Obj)} {s:Shared} {σ:L2.St} {H:Hp} {cm:List Addr} {m m':Mem} {env:Env} {out:List T} {Q:Value→Shared→Prop} (I:Inv X pins σ H s) (hE:EnvR X.K cm m H env σ) (M:MemR X.K cm m H)
    (ok:ev call gv (.comp own keep it tg cs inner) env m = .ok (.t (.lst out)) m')
    (fin:∀ (D C:Addr) (s3:Shared) (H3:Hp) (cm3:List Addr) (vs:List V),Inv X pins σ (upd H3 D (.lst vs)) s3→H3 D=none→X.K.lookup D=none→Ext cm m H cm3 m' H3→MemR X.K cm3 m' H3→RTs X.K cm3 m' H3 out vs→(∃ mm,s3.heap.Ns C mm)→FpOk X pins (upd H3 D (.lst vs)) C →
      compPost (model X.prog X.w) X.A X.xe use Q (.ref D) C (.ok .next) s3) :
    wpAny (model X.prog X.w) X.A (comprehension (.ListComp elt (⟨target,iter,ifs,0⟩ :: gs) scope pos) scope X.env pos' (newList []) false (eval iter X.env) use) Q X.xe s:=by
  obtain ⟨cl,hclos,hcl1,hcl2⟩:=ZfZ (scope:=scope) (env:=X.env) fun x hx=>I.ok.has x (S.free x hx)
  unfold ev at ok
  obtain ⟨w1,m1,ok0,ok2⟩:=Zw ok
  have ok1:=ZeN ok0
  obtain ⟨ts,m2,ok3,ok4⟩:=Zw ok2
  obtain ⟨out',m3,ok5,ok6⟩:=Zw ok4
  split at ok6 <;> cases ok6
  rename_i hlen
  have ok5':JD (turnF call gv cs inner) tg ts (envC own keep env) m2 = .ok out m3:=ZeN ok5
  have hz:=ZV
  refine wpAny_comprehension_free rfl hfs hclos S.kind hlocal (thn (pi pins s σ H (fun J H1=>∃ cm1,Ext cm m H cm1 m1 H1∧MemR X.K cm1 m1 H1∧Src X.K cm1 m2 H1 J ts) I ⟨env,cm,m,hE,M,by
      rw [ok1]
      exact fun cm1 H1 x M1=>⟨ts,m2,ok3,fun J hs=>⟨cm1,x,M1,hs⟩⟩⟩) fun xv s1 h1=>thn h1 fun itv s2 h2=>?_)
  obtain ⟨it2,fp,tn,J,H2,rfl,I2,T2,st2,f2,cm2,x2,M2,hs2⟩:=h2
  refine wpAny_newObj_type (wpAny_newFunctionEnv S.cell (by intro y hy; simp at hy) (fun h₁ hns₁ hsb₁=>?_) S.kind)
  dsimp only at hns₁ hsb₁ ⊢
  generalize hH2:s2.heap.push { cls:=.type "list",dict:=none,data:=.seq ([]:List Value).toArray }=P2 at hns₁ hsb₁ ⊢
  have hCs:P2.objs.size=s2.heap.objs.size + 1:=by rw [← hH2,Heap.size_push]
  have hDC:s2.heap.objs.size≠P2.objs.size:=by omega
  have below:∀ b,b < s2.heap.objs.size→b≠P2.objs.size:=fun b hb=>by omega
  have old:∀ b o,s2.heap.get? b=some o→h₁.get? b=some o:=fun b o e=>hsb₁.extBut b o (below b (Heap.lt_size e)) (Heap.get?_push_of_some _ (hH2 ▸ Heap.get?_push_of_some _ e))
  have hacc:h₁.get? s2.heap.objs.size=some { cls:=.type "list",data:=.seq ([]:List Value).toArray }:=hsb₁.extBut _ _ hDC (Heap.get?_push_of_some _ (hH2 ▸ Heap.get?_push_size _ rfl))
  have flt:∀ b∈fp,b < s2.heap.objs.size:=fun b hb=>by
    obtain ⟨o,e,_⟩:=T2.obj _ _ st2 b hb
    exact Heap.lt_size e
  have hb3:=ZbJ M2 ok3
  have E2:EnvR X.K cm2 m2 H2 env σ:=(hE.ext x2 M M2).ext hb3.1 M2 hb3.2
  have hσl:(stC own keep σ).length=N'.length:=by unfold stC; simp [hown]
  have J0:Inv (Xv X N' scope cl P2.objs.size s2 H2 fp) [] (stC own keep σ) H2 { s2 with heap:=h₁,toks:=s2.toks + ([]:List (Str×Value)).length } :=
    ZfW I2 S f2 flt (by omega) ⟨_,hns₁⟩ old hcl1 hcl2 hσl fun i x v e1 e2=>by
      unfold stC at e2
      by_cases hi:i < own
      · rw [List.getElem?_append_left (by simpa using hi),List.getElem?_replicate] at e2
        split at e2 <;> cases e2
      · rw [List.getElem?_append_right (by simpa using hi),List.length_replicate,List.getElem?_map] at e2
        have ei:N'[own + (i - own)]? = some x:=by rw [show own + (i - own)=i by omega]; exact e1
        obtain ⟨j,q1,q2,q3⟩:=hkeep (i - own) x ei
        rw [q1] at e2
        have e3:(σ[j]?).join=some v:=Option.some.inj e2
        refine ⟨j,q2,?_,q3⟩
        cases r:σ[j]? with
        | none=>rw [r] at e3; cases e3
        | some o=>rw [r] at e3; exact congrArg some e3
  obtain ⟨pg,pt,hin⟩:=hY cl P2.objs.size s2 H2 fp
  have fD:FpOk (Xv X N' scope cl P2.objs.size s2 H2 fp) [] H2 s2.heap.objs.size:=by
    refine ⟨I2.hok.fresh (Nat.le_refl _),hDC,fun z=>?_,.inr (Nat.le_refl _),fun x c e z=>?_,fun p hp=>absurd (show p∈([]:List (Addr×Obj)) from hp) (by simp)⟩
    · have:=I2.stkSub _ z
      rcases List.mem_cons.mp this with q | q
      · exact absurd I2.lt (by rw [← q]; exact Nat.lt_irrefl _)
      · exact I2.nofs (Nat.le_refl _) q
    · obtain ⟨v,q⟩:=I2.cell x c (hcl1 x c e)
      exact absurd q.lt (by rw [z]; exact Nat.lt_irrefl _)
  have fF:∀ b∈fp,FpOk (Xv X N' scope cl P2.objs.size s2 H2 fp) [] H2 b:=fun b hb=>by
    refine ⟨(f2 b hb).1,below b (flt b hb),fun z=>?_,.inl hb,fun x c e=>(f2 b hb).2.2.2.2.1 x c (hcl1 x c e),fun p hp=>absurd (show p∈([]:List (Addr×Obj)) from hp) (by simp)⟩
    rcases List.mem_cons.mp (I2.stkSub b z) with q | q
    · exact (f2 b hb).2.1 q
    · exact (f2 b hb).2.2.1 q
  have st2':tn 0 h₁:=T2.keep _ _ _ st2 fun b _ o e=>old b o e
  have hDf:s2.heap.objs.size ∉ fp:=fun z=>absurd (flt _ z) (Nat.lt_irrefl _)
  have hnone:∀ i∈tgS tg++innS inner,∀ w,(envC own keep env)[i]?≠some (some w):=fun i hi w e=>by
    unfold envC at e
    rw [List.getElem?_append_left (by simpa using hsl i hi),List.getElem?_replicate] at e
    split at e <;> cases e
  have go:=Zg6 (Y:=Xv X N' scope cl P2.objs.size s2 H2 fp) (xr:=xr) (call:=call) (gv:=gv) hc (fun _ _ z=>z) (elt:=elt) (scope:=scope) (pos:=pos) (D:=s2.heap.objs.size) inner 0 target iter ifs tg cs rfl pg pt hin hdis (fun i hi=>by
    show i < N'.length
    rw [hown]
    have:=hsl i hi
    omega) J0 fD (vs:=[]) ⟨Nat.zero_le _,[],0,.nil,hacc⟩ T2 st2' fF hDf (envC_R E2) hnone hb3.2 hs2 ok5' (by rw [List.length_nil,Nat.zero_add]; exact hlen)
  have fine:∀ r s3,(r = .ok .next∧CEnd (Xv X N' scope cl P2.objs.size s2 H2 fp) s2.heap.objs.size (tgS tg++innS inner) [] (stC own keep σ) cm2 m2 H2 [] out m3 s3)→compPost (model X.prog X.w) X.A X.xe use Q (.ref s2.heap.objs.size) P2.objs.size r s3:=fun r s3 ⟨hr,σ3,H3,cm3,vs3,J3,x3,M3,r3,a3,ag3,d3⟩=>by
    subst hr
    rw [List.nil_append] at a3
    obtain ⟨x4,M4,sm⟩:=Zaa M2 ok3 x3 M3
    have I3:Inv X pins σ H3 s3:=ZfV I2 f2 J3
    have fX:∀ b,s2.heap.objs.size≤b→∀ H',H' b=none→FpOk X pins H' b:=fun b hb H' hn=>I2.fpOk hb hn
    obtain ⟨mm,hmm,_⟩:=J3.loc
    have neC:P2.objs.size≠s2.heap.objs.size:=Ne.symm hDC
    refine fin s2.heap.objs.size P2.objs.size s3 H3 cm3 vs3 (Inv.adopt I3 (fX _ (Nat.le_refl _) _ d3) a3) d3 ?_ (x2.trans x4) M4 (Zh (fun _ _ z=>sm _ _ z) r3) ⟨mm,hmm⟩ (fX _ (by omega) _ ?_)
    · cases q:X.K.lookup s2.heap.objs.size with
      | none=>rfl
      | some o=>exact absurd (Heap.lt_size (I2.kIn _ _ q)) (Nat.lt_irrefl _)
    · rw [Zm neC]; exact J3.free
  exact codeAny_mono (Zad (gens:=⟨target,iter,ifs,0⟩ :: gs) rfl go (T2.self X.A 0 { s2 with heap:=h₁,toks:=s2.toks + ([]:List (Str×Value)).length } _ _ st2' go)) fine
structure CompK (X:Cx) (xr:XR) (call:Nat→List W→Mem→Res W) (gv:List T) (N':List Str) (scope:Scope) (own:Nat) (keep:List Nat) (elt target iter:Expr) (ifs:List Expr) (gs:List Comprehension) (it:E) (tg:Tg) (cs:Es) (inner:E):Prop where
  sc:CompSc X N' scope
  hown:N'.length=own + keep.length
  hkeep:∀ (i:Nat) x,N'[own + i]? = some x→∃ j,keep[i]? = some j∧X.N[j]? = some x∧(x,NameKind.free)∈scope.names
  pi:PI X target iter (tI X.K call gv xr it)
  fs:∀ x,foldedSetIterable iter X.env x=pure x
  ins:ZhZ X xr call gv N' scope elt target ifs (⟨target,iter,ifs,0⟩ :: gs) tg cs inner
  dis:∀ i∈tgS tg,i ∉ innS inner
  slt:∀ i∈tgS tg++innS inner,i < own
variable {elt target iter:Expr} {ifs:List Expr} {gs:List Comprehension} {scope:Scope} {pos:Pos} {N':List Str} {own:Nat} {keep:List Nat} {it:E} {tg:Tg} {cs:Es} {inner:E}
theorem ZgH (hc:X.calm=true) (k:CompK X xr0 call gv N' scope own keep elt target iter ifs gs it tg cs inner) :
    PE X (.ListComp elt (⟨target,iter,ifs,0⟩ :: gs) scope pos) (tE X.K call gv xr (.comp own keep it tg cs inner)):=by
  rintro pins s σ H Q I ⟨env,cm,m,hE,M,ho⟩
  cases h:ev call gv (.comp own keep it tg cs inner) env m with
  | stuck=>rw [h] at ho; exact ho.elim
  | exc e m'=>exact absurd h (Zcc e m')
  | ok w m' =>
    obtain ⟨out,rfl⟩:=ZdI h
    rw [h] at ho
    rw [eval_ListComp]
    refine ZdJ (use:=none) hc k.sc k.hown k.hkeep (fun x hx e=>by rw [k.sc.look x hx,e]) k.pi k.fs k.ins k.dis k.slt I hE M h ?_
    rintro D C s3 H3 cm3 vs I3 hD _ x3 M3 r3 ⟨mm,hm⟩ fC
    refine ⟨mm,hm,fun h' hs'=>?_⟩
    have I4:Inv X pins σ (upd H3 D (.lst vs)) { s3 with heap:=h' }:=I3.turned (t':=s3.toks) (it:=C) (fun b o hb e=>(hs'.2 b hb).trans e) fC.1 fC.2.1 fC.2.2.2.1 fC.2.2.2.2.1 fC.2.2.2.2.2
    exact ⟨.ref D,_,I4,rfl,OkR.to ho (x3.trans (.new hD)) (M3.new hD) _ (RT.newLst M3 r3 hD)⟩
theorem Zi3 {i:Nat} {x:Str} {px spos:Pos} (hc:X.calm=true) (k:CompK X xr0 call gv N' scope own keep elt target iter ifs gs it tg cs inner) (hN:X.N.Nodup) (hi:X.N[i]? = some x) (hx:X.env.scope.names.lookup x=some .local)
    (hsw:swapsWith (.ListComp elt (⟨target,iter,ifs,0⟩ :: gs) scope pos) (some (.Name x px)) spos.line X.env=pure true)
    {pins:List (Addr×Obj)} {s:Shared} {σ:L2.St} {H:Hp} {cm:List Addr} {m m':Mem} {env:Env} {out:List T} {D:Ends} (I:Inv X pins σ H s) (hE:EnvR X.K cm m H env σ) (M:MemR X.K cm m H)
    (ok:ev call gv (.comp own keep it tg cs inner) env m = .ok (.t (.lst out)) m')
    (q:∀ (p:Addr) (H3:Hp) (cm3:List Addr) (vs:List V),H3 p=none→X.K.lookup p=none→Ext cm m H cm3 m' H3→MemR X.K cm3 m' H3→RTs X.K cm3 m' H3 out vs→D.nx (σ.set i (some (.ref p))) (upd H3 p (.lst vs))) :
    wpAny (model X.prog X.w) X.A (exec (.Assign [.Name x px] (.ListComp elt (⟨target,iter,ifs,0⟩ :: gs) scope pos) spos) X.env) (SP X pins D) X.xe s:=by
  rw [exec_Assign_Name_used _ _ _ _ hsw]
  refine wpAny_bind (wpAny_standAt (wpAny_bind ?_))
  show wpAny _ _ (do let _ ← comprehension (.ListComp elt (⟨target,iter,ifs,0⟩ :: gs) scope pos) scope X.env _ (newList []) false (eval iter X.env) (some (assign (.Name x px) X.env))) _ _ s
  refine wpAny_bind (thn (ZdJ (use:=some (assign (.Name x px) X.env)) (Q:=fun _ s'=>SP X pins D .next s') hc k.sc k.hown k.hkeep (fun x hx e=>by rw [k.sc.look x hx,e]) k.pi k.fs k.ins k.dis k.slt I hE M ok ?_) fun _ s' h=>wpAny_pure (wpAny_pure h))
  rintro p C s3 H3 cm3 vs I3 hD hK x3 M3 r3 ⟨mm,hm⟩ fC
  show wpAny _ _ (assign (.Name x px) X.env (.ref p)) _ _ s3
  refine wpAny_assign_Name (ZcX I3 hN hi (.inl hx) (v:=.ref p) rfl (fun s4 I4 ⟨a,hs4,ha⟩=>?_) (.inr hx))
  have hac:C≠a:=by
    rcases ha with rfl | ha
    · exact fC.2.1
    · exact fun z=>fC.2.2.2.2.1 x a ha z.symm
  refine ⟨mm,hm.sameBut hs4 hac,fun h' hs'=>?_⟩
  have I5:Inv X pins (σ.set i (some (.ref p))) (upd H3 p (.lst vs)) { s4 with heap:=h' }:=I4.turned (t':=s4.toks) (it:=C) (fun b o hb e=>(hs'.2 b hb).trans e) fC.1 fC.2.1 fC.2.2.2.1 fC.2.2.2.2.1 fC.2.2.2.2.2
  exact ⟨_,_,I5,q p H3 cm3 vs hD hK x3 M3 r3⟩
end
end Mi
end
section
namespace Mi
open PySem PySem.Spec PyProof.Rows L2
section
variable {K:PySem.W.Frag} {cm:List Addr} {m:Mem} {H:Hp} {xr:XR} {X:Cx} {call:Nat→List W→Mem→Res W} {gv:List T}
theorem RTs.nil_iff {ts:List T} {vs:List V} (h:RTs K cm m H ts vs):(!ts.isEmpty) = !vs.isEmpty:=by cases h <;> rfl
theorem tru_of {w:W} {v:V} {t:T} (M:MemR K cm m H) (r:RW K cm m H w v) (e:view w m=some t) (f:fitT t=true):TruV K v H (ZbW t):=by
  have hz:=ZV
  cases t with
  | lst ts =>
    obtain ⟨a,vs,rfl,h1,h2⟩:=ZG M r e
    exact .inl ⟨vs,.of h1,h2.nil_iff⟩
  | non=>cases (Zd r e (fun _ z=>by cases z)).vnon; exact rfl
  | bl b=>cases (Zd r e (fun _ z=>by cases z)).vbl; exact rfl
  | int i=>cases (Zd r e (fun _ z=>by cases z)).vint; exact rfl
  | str cs =>
    cases (Zd r e (fun _ z=>by cases z)).vstr
    have hl:cs.length≤lim:=of_decide_eq_true f
    refine ⟨by rw [J5]; omega,?_⟩
    rw [J5]
    cases cs with
    | nil=>rfl
    | cons c cs =>
      show true=_
      symm
      simp
      omega
  | tup ts =>
    obtain ⟨a,vs,rfl,h1,h2⟩:=(Zd r e (fun _ z=>by cases z)).itup
    exact .inr (.inl ⟨vs,h1,h2.nil_iff⟩)
  | dct ks ts =>
    have h:=Zd r e (fun _ z=>by cases z)
    cases h with
    | @dct a ks ts vs h1 h2 h3 h4 h5 =>
      refine .inr (.inr ⟨_,h1,?_⟩)
      cases ks with
      | nil=>rfl
      | cons k ks =>
        cases vs with
        | nil=>simp at h3
        | cons v vs=>rfl
  | scr ns =>
    obtain ⟨a,rfl,h1⟩:=(Zd r e (fun _ z=>by cases z)).vscr
    exact .inl ⟨_,h1.sq,by cases ns <;> rfl⟩
theorem Zgf {w:W} {k:Bool→List Addr→Mem→Hp→Prop} (h:OkR K (Qa w m) xr cm m H k):∃ t,view w m=some t∧fitT t=true∧OkR K (.ok (ZbW t) m) xr cm m H k:=by
  unfold Qa at h
  split at h
  · split at h
    · exact ⟨_,‹_›,‹_›,h⟩
    · exact h.elim
  · exact h.elim
theorem ZcL {w:W} {k:Bool→List Addr→Mem→Hp→Prop} (h:OkR K (ZbK w m) xr cm m H k):∃ b,w = .t (.bl b)∧OkR K (.ok b m) xr cm m H k:=by
  unfold ZbK at h
  split at h
  · exact ⟨_,rfl,h⟩
  · exact h.elim
theorem pt_of {e:Expr} {a:E} (h:PE X e (tE X.K call gv xr a)) (he:∀ whole,isTrue e X.env whole=(do let v ← whole; standAt e.pos; holding [v] (truthy v))):PT X e (tT X.K call gv xr a):=by
  refine PT.mono (Zih h he) fun σ H Q ⟨env,cm,m,hE,M,ho⟩=>⟨env,cm,m,hE,M,ho.bind.mono fun w cm1 m1 H1 x1 M1 o1 v rv=>?_⟩
  obtain ⟨t,e1,f1,o2⟩:=Zgf o1
  exact ⟨ZbW t,tru_of M1 rv e1 f1,OkR.now o2 M1⟩
theorem Zkl {a b:Expr} {rest:List Expr} {pos:Pos} {ea eb:E} (ha:PE X a (tE X.K call gv xr ea)) (hb:PE X (.BoolOp .And (b :: rest) pos) (tE X.K call gv xr eb)):PE X (.BoolOp .And (a :: b :: rest) pos) (tE X.K call gv xr (.and ea eb)):=by
  refine PE.mono (pe_and ha hb) ?_
  rintro σ H Q ⟨env,cm,m,hE,M,ho⟩
  unfold ev at ho
  refine ⟨env,cm,m,hE,M,ho.bind.mono fun w cm1 m1 H1 x1 M1 o1 v rv=>?_⟩
  obtain ⟨c,rfl,o2⟩:=ZcL o1.bind
  cases RT.vbl rv
  have o3:=OkR.now o2 M1
  refine ⟨c,rfl,?_⟩
  cases c with
  | true=>exact iteT ⟨env,cm1,m1,hE.ext x1 M M1,M1,o3⟩
  | false=>exact iteF (OkR.now o3 M1 _ (.bl false))
theorem pe_orW {a b:Expr} {rest:List Expr} {pos:Pos} {ea eb:E} (ha:PE X a (tE X.K call gv xr ea)) (hb:PE X (.BoolOp .Or (b :: rest) pos) (tE X.K call gv xr eb)):PE X (.BoolOp .Or (a :: b :: rest) pos) (tE X.K call gv xr (.or ea eb)):=by
  refine PE.mono (pe_or ha hb) ?_
  rintro σ H Q ⟨env,cm,m,hE,M,ho⟩
  unfold ev at ho
  refine ⟨env,cm,m,hE,M,ho.bind.mono fun w cm1 m1 H1 x1 M1 o1 v rv=>?_⟩
  obtain ⟨c,rfl,o2⟩:=ZcL o1.bind
  cases RT.vbl rv
  have o3:=OkR.now o2 M1
  refine ⟨c,rfl,?_⟩
  cases c with
  | true=>exact iteT (OkR.now o3 M1 _ (.bl true))
  | false=>exact iteF ⟨env,cm1,m1,hE.ext x1 M M1,M1,o3⟩
theorem Zj7 {a:Expr} {pos:Pos} {ea:E} (ha:PE X a (tE X.K call gv xr ea)):PE X (.UnaryOp .Not a pos) (tE X.K call gv xr (.not ea)):=by
  refine PE.mono (pe_not ha) ?_
  rintro σ H Q ⟨env,cm,m,hE,M,ho⟩
  unfold ev at ho
  refine ⟨env,cm,m,hE,M,ho.bind.mono fun w cm1 m1 H1 x1 M1 o1 v rv=>?_⟩
  obtain ⟨c,rfl,o2⟩:=ZcL o1.bind
  cases RT.vbl rv
  exact ⟨c,rfl,OkR.now (OkR.now o2 M1) M1 _ (.bl _)⟩
theorem ZdY {a:E} {σ:L2.St} {H:Hp} {env:Env} {cm:List Addr} {m:Mem} {f:Bool→Mem→Res W} {Q:Bool→Hp→Prop} (hE:EnvR K cm m H env σ) (M:MemR K cm m H)
    (ho:OkR K (((ev call gv a env m).bind fun x m=>(ZbK x m).bind f).bind Qa) xr cm m H fun k _ _ H'=>Q k H') :
    tT K call gv xr a σ H fun c H1=>∃ cm1 m1,Ext cm m H cm1 m1 H1∧MemR K cm1 m1 H1∧OkR K ((f c m1).bind Qa) xr cm1 m1 H1 fun k _ _ H'=>Q k H':=by
  refine ⟨env,cm,m,hE,M,?_⟩
  cases h:ev call gv a env m with
  | stuck=>rw [h] at ho; exact ho.elim
  | exc e m'=>rw [h] at ho; exact ho
  | ok w m1 =>
    rw [h] at ho
    have ho':OkR K (((ZbK w m1).bind f).bind Qa) xr cm m H fun k _ _ H'=>Q k H':=ho
    cases w with
    | f a=>exact ho'.elim
    | x _ _ _=>exact ho'.elim
    | c i=>exact ho'.elim
    | t x =>
      cases x with
      | bl b=>exact fun cm1 H1 x1 M1=>⟨cm1,m1,x1,M1,OkR.shift ho' x1⟩
      | _=>exact ho'.elim
theorem ZjR {a b:Expr} {rest:List Expr} {pos:Pos} {ea eb:E} (ha:PT X a (tT X.K call gv xr ea)) (hb:PW X (.BoolOp .And (b :: rest) pos) (tT X.K call gv xr eb)):PW X (.BoolOp .And (a :: b :: rest) pos) (tT X.K call gv xr (.and ea eb)):=by
  rintro whole pins s σ H Q I ⟨env,cm,m,hE,M,ho⟩
  unfold ev at ho
  obtain ⟨env',cm',m',hE',M',ho'⟩:=ZdY hE M ho
  refine pw_and ha hb whole pins s σ H Q I ⟨env',cm',m',hE',M',ho'.mono fun c cm1 m1 H1 _ _ ⟨cm2,m2,x2,M2,o2⟩=>?_⟩
  cases c with
  | true=>exact iteT ⟨env,cm2,m2,hE.ext x2 M M2,M2,o2⟩
  | false=>exact iteF (OkR.now (show OkR X.K (.ok false m2) xr cm2 m2 H1 _ from o2) M2)
theorem pw_orW {a b:Expr} {rest:List Expr} {pos:Pos} {ea eb:E} (ha:PT X a (tT X.K call gv xr ea)) (hb:PW X (.BoolOp .Or (b :: rest) pos) (tT X.K call gv xr eb)):PW X (.BoolOp .Or (a :: b :: rest) pos) (tT X.K call gv xr (.or ea eb)):=by
  rintro whole pins s σ H Q I ⟨env,cm,m,hE,M,ho⟩
  unfold ev at ho
  obtain ⟨env',cm',m',hE',M',ho'⟩:=ZdY hE M ho
  refine pw_or ha hb whole pins s σ H Q I ⟨env',cm',m',hE',M',ho'.mono fun c cm1 m1 H1 _ _ ⟨cm2,m2,x2,M2,o2⟩=>?_⟩
  cases c with
  | true=>exact iteT (OkR.now (show OkR X.K (.ok true m2) xr cm2 m2 H1 _ from o2) M2)
  | false=>exact iteF ⟨env,cm2,m2,hE.ext x2 M M2,M2,o2⟩
theorem ZjS {a:Expr} {pos:Pos} {ea:E} (ha:PT X a (tT X.K call gv xr ea)):PT X (.UnaryOp .Not a pos) (tT X.K call gv xr (.not ea)):=by
  refine PT.mono (pt_not ha) ?_
  rintro σ H Q ⟨env,cm,m,hE,M,ho⟩
  unfold ev at ho
  obtain ⟨env',cm',m',hE',M',ho'⟩:=ZdY hE M ho
  exact ⟨env',cm',m',hE',M',ho'.mono fun c cm1 m1 H1 _ _ ⟨cm2,m2,x2,M2,o2⟩=>OkR.now (show OkR X.K (.ok (!c) m2) xr cm2 m2 H1 _ from o2) M2⟩
end
end Mi
end
section
namespace Mi
open PySem PySem.Spec PyProof.Rows L2
open Builtin
theorem ZaV:fillsNumberSlot (.type "tuple") "mul" = pure false :=
  PySem.fillsNumberSlot_seq (id:="tuple.__mul__") (r:=some (.builtin "tuple.__rmul__")) F.slot_tuple_mul.lookup (by decide +kernel) F.slot_tuple_rmul.lookup (by decide +kernel)
theorem Zc5:seqRepeat? (.type "tuple")=pure (some (.builtin "tuple.__mul__")):=by
  unfold seqRepeat?
  rw [PySem.seqSlot_of (T:="tuple") (name:="__mul__") (id:="tuple.__mul__") F.slot_tuple_mul.lookup (by decide +kernel),PySem.seqSlot_of (T:="tuple") (name:="__rmul__") (id:="tuple.__rmul__") F.slot_tuple_rmul.lookup (by decide +kernel)]
  rfl
theorem Zfg (a:Int) (t:Tok) (l:Addr) (items:Array Value) (n:Nat) (dd:Option Addr) (sl:Array (Option Value)) :
    Meets (Builtin.«int.__rmul__» ⟨[.int a t,.ref l],[]⟩) (fun _ R s=>s.heap.get? l=some { cls:=.type "tuple",dict:=dd,data:=.seq items n,slots:=sl }∧R (.ok (.ret Value.notImplemented)) s) :=
  .of_wp fun prog w A R s h=>by obtain ⟨hp,g,d,tk,os⟩:=s; obtain ⟨hl,h⟩:=h; wp_walk; exact ⟨_,rfl,h⟩
theorem tmul0 (l:Addr) (items:Array Value) (n:Nat) (dd:Option Addr) (sl:Array (Option Value)) (k:Int) (u:Tok) (h1:(decide (k < -(2 ^ 63)) || decide (k ≥ 2 ^ 63))=false) (hc:(items.isEmpty || k == 1)=true) :
    Meets (Builtin.«tuple.__mul__» ⟨[.ref l,.int k u],[]⟩) (fun _ R s=>s.heap.get? l=some { cls:=.type "tuple",dict:=dd,data:=.seq items n,slots:=sl }∧R (.ok (.ret (Value.ref l))) s) :=
  .of_wp fun prog w A R s h=>by obtain ⟨hp,g,d,tk,os⟩:=s; obtain ⟨hl,h⟩:=h; have f1:=AutoSeq1.idx_int; have f2:=AutoSeq1.sub_tuple_tuple; wp_walk; refine wpAny_ite_false (decide_eq_false (Bool.eq_false_iff.mp h1)) ?_; wp_walk using wpAny_loadPart' hl; exact ⟨_,rfl,h⟩
theorem tmul1 (l:Addr) (items:Array Value) (n:Nat) (dd:Option Addr) (sl:Array (Option Value)) (k:Int) (u:Tok) (h1:(decide (k < -(2 ^ 63)) || decide (k ≥ 2 ^ 63))=false) (hc:¬ (items.isEmpty || k == 1)=true) (hc1:(decide (k≤0) || items.isEmpty)=true) :
    Meets (Builtin.«tuple.__mul__» ⟨[.ref l,.int k u],[]⟩) (fun _ R s=>s.heap.get? l=some { cls:=.type "tuple",dict:=dd,data:=.seq items n,slots:=sl }∧R (.ok (.ret (Value.ref s.heap.objs.size))) { s with heap:=s.heap.push { cls:=Value.type "tuple",data:=Data.seq #[] },toks:=s.toks }) :=
  .of_wp fun prog w A R s h=>by obtain ⟨hp,g,d,tk,os⟩:=s; obtain ⟨hl,h⟩:=h; have f1:=AutoSeq1.idx_int; have f2:=AutoSeq1.sub_tuple_tuple; wp_walk; refine wpAny_ite_false (decide_eq_false (Bool.eq_false_iff.mp h1)) ?_; wp_walk using wpAny_loadPart' hl; exact ⟨_,rfl,h⟩
theorem tmul2 (l:Addr) (items:Array Value) (n:Nat) (dd:Option Addr) (sl:Array (Option Value)) (k:Int) (u:Tok) (h1:(decide (k < -(2 ^ 63)) || decide (k ≥ 2 ^ 63))=false) (hc:¬ (items.isEmpty || k == 1)=true) (hc1:¬ (decide (k≤0) || items.isEmpty)=true)
    (hc2:¬ (items.size:Int) * k > (2 ^ 63 - 1) / 8) (hc3:¬ Tuple.tupleTooMany ((items.size:Int) * k)=true) (hz:(List.foldl (fun x1 x2=>x1++x2) #[] (List.replicate k.toNat items)).size≤sizeLine) :
    Meets (Builtin.«tuple.__mul__» ⟨[.ref l,.int k u],[]⟩) (fun _ R s=>s.heap.get? l=some { cls:=.type "tuple",dict:=dd,data:=.seq items n,slots:=sl }∧R (.ok (.ret (Value.ref s.heap.objs.size))) { s with heap:=s.heap.push { cls:=Value.type "tuple",data:=Data.seq (List.foldl (fun x1 x2=>x1++x2) #[] (List.replicate k.toNat items)) },toks:=s.toks }) :=
  .of_wp fun prog w A R s h=>by obtain ⟨hp,g,d,tk,os⟩:=s; obtain ⟨hl,h⟩:=h; have f1:=AutoSeq1.idx_int; have f2:=AutoSeq1.sub_tuple_tuple; wp_walk; refine wpAny_ite_false (decide_eq_false (Bool.eq_false_iff.mp h1)) ?_; wp_walk using wpAny_loadPart' hl; refine wpAny_ite_false (decide_eq_false hc2) ?_; wp_walk using wpAny_loadPart' hl; exact ⟨_,rfl,h⟩
section
variable {X:Cx}
theorem Zfd {n:Nat} (h:n≤sizeLine):¬ Tuple.tupleTooMany (n:Int)=true:=by
  unfold Tuple.tupleTooMany
  intro hc
  have:=of_decide_eq_true hc
  have e:=sizeLine_eq
  omega
theorem Zko:OpR X (binaryOp .Mult) (fun x y H Q=>∃ l k xs,x = .ref l∧y = .int k∧SqT X.K H l xs∧(-(2 ^ 63)≤k∧k < 2 ^ 63)∧xs.length * k.toNat≤sizeLine∧((xs=[]∨k=1)→Q (.ref l) H) ∧
    (¬ (xs=[]∨k=1)→∀ p,H p=none→Q (.ref p) (upd H p (.tup (List.replicate k.toNat xs).flatten)))):=by
  intro pins s σ H x y v u Q I rx ry h
  obtain ⟨l,k,xs,rfl,rfl,hH,⟨h1,h2⟩,hz,q1,q2⟩:=h
  cases rx
  obtain ⟨t,rfl⟩:=ry
  obtain ⟨its,r,⟨⟨cls,dd,data,sl⟩,ho,hc,n,hd⟩,hz2⟩:=I.tuple hH
  simp only at hc hd
  subst hc hd
  have hl:=r.length
  have g1:(decide (k < -(2 ^ 63)) || decide (k ≥ 2 ^ 63))=false:=by
    rw [decide_eq_false (by omega),decide_eq_false (by omega)]; rfl
  have road:∀ {Q':Value→Shared→Prop},wpAny (model X.prog X.w) X.A (call (.builtin "tuple.__mul__") [.ref l,.int k t]) Q' X.xe s→wpAny (model X.prog X.w) X.A (binaryOp .Mult (.ref l) (.int k t)) Q' X.xe s:=fun hq =>
    wpAny_binaryOp_repeat_ref (T:="tuple") (U:="int") (by decide) ⟨_,ho,rfl⟩ (fun s'=>typeIs_int s' k t) ZaV F.fills_int_mul F.slot_int_rmul Zc5 F.slot_int_index.lookup
      (call_meets F.slot_int_rmul (typeIs_int s k t) F.entry_int_rmul (F.args_int_rmul_2 _ _) (Zfg k t l its.toArray n dd sl) ⟨ho,rfl,⟨_,ho,rfl⟩,hq⟩)
  refine road ?_
  by_cases hc:xs=[]∨k=1
  · have g2:(its.toArray.isEmpty || k == 1)=true:=by
      rcases hc with rfl | rfl
      · cases r; rfl
      · simp
    exact call_meets F.slot_tuple_mul ⟨_,ho,rfl⟩ F.entry_tuple_mul (F.args_tuple_mul_2 _ _) (tmul0 l its.toArray n dd sl k t g1 g2) ⟨ho,.ref l,H,I,rfl,q1 hc⟩
  · have hne:its≠[]:=fun e=>hc (.inl (r.nil_iff.mp e))
    have g2:¬ (its.toArray.isEmpty || k == 1)=true:=by
      intro hh
      rw [Bool.or_eq_true] at hh
      rcases hh with hh | hh
      · exact hne (by simpa using hh)
      · exact hc (.inr (eq_of_beq hh))
    have fin:∀ arr:Array Value,arr=(List.replicate k.toNat its).flatten.toArray→EP X pins σ Q (.ref s.heap.objs.size) { s with heap:=s.heap.push { cls:=.type "tuple",data:=.seq arr } }:=fun arr e=>by
      subst e
      refine ⟨.ref s.heap.objs.size,_,I.laid (t':=s.toks) (o:=.tup (List.replicate k.toNat xs).flatten) (fun b ob q=>Heap.get?_push_of_some _ q) (Nat.le_refl _) ?_,rfl,q2 hc _ (I.hok.fresh (Nat.le_refl _))⟩
      exact ⟨by rw [len_rep,Nat.mul_comm]; exact hz,_,r.rep k.toNat,TupP.new _ _⟩
    by_cases h0:k≤0
    · have g3:(decide (k≤0) || its.toArray.isEmpty)=true:=by rw [decide_eq_true h0]; rfl
      refine call_meets F.slot_tuple_mul ⟨_,ho,rfl⟩ F.entry_tuple_mul (F.args_tuple_mul_2 _ _) (tmul1 l its.toArray n dd sl k t g1 g2 g3) ⟨ho,fin #[] ?_⟩
      have:k.toNat=0:=by omega
      rw [this]; rfl
    · have g3:¬ (decide (k≤0) || its.toArray.isEmpty)=true:=by
        intro hh
        rw [Bool.or_eq_true] at hh
        rcases hh with hh | hh
        · exact h0 (of_decide_eq_true hh)
        · exact hne (by simpa using hh)
      have hk:(k.toNat:Int)=k:=by omega
      have hs:(its.toArray.size:Int) * k=((xs.length * k.toNat:Nat):Int):=by
        rw [List.size_toArray,← hl,Int.natCast_mul,hk]
      have hsl:(sizeLine:Nat)=16777216:=sizeLine_eq
      have hf:List.foldl (fun x1 x2=>x1++x2) #[] (List.replicate k.toNat its.toArray)=(List.replicate k.toNat its).flatten.toArray:=by
        have:=foldl_rep its k.toNat []
        rw [List.nil_append] at this
        exact this
      refine call_meets F.slot_tuple_mul ⟨_,ho,rfl⟩ F.entry_tuple_mul (F.args_tuple_mul_2 _ _) (tmul2 l its.toArray n dd sl k t g1 g2 g3 (by rw [hs]; omega) (by rw [hs]; exact Zfd hz) ?_) ⟨ho,fin _ hf⟩
      rw [hf,List.size_toArray,len_rep,← hl,Nat.mul_comm]
      exact hz
end
end Mi
end
section
namespace Mi
open PySem PySem.Spec PyProof.Rows L2
section
variable {K:PySem.W.Frag} {cm:List Addr} {m:Mem} {H:Hp} {xr:XR} {X:Cx} {call:Nat→List W→Mem→Res W} {gv:List T}
theorem Zj3 {i:Nat} {x:Str} {pos:Pos} (hN:X.N[i]? = some x) (hv:Vis X.env.scope x) (hd:(x == ("__debug__" : Str))=false) (hcd:(x == ("__classdict__" : Str))=false):PE X (.Name x pos) (tE X.K call gv xr (.var i)):=by
  refine PE.mono (ZgE hN hv hd hcd) ?_
  rintro σ H Q ⟨env,cm,m,hE,M,ho⟩
  unfold ev at ho
  split at ho
  · rename_i w e
    obtain ⟨v,h1,h2⟩:=hE i w e
    exact ⟨v,h1,OkR.now ho M v h2⟩
  · exact ho.elim
noncomputable def Q9 (K:PySem.W.Frag) (mg:Str→Option Value) (x:Str) (t:T):Prop:=∃ u v,mg x=some u∧RelV v u∧∀ cm m H,RT K cm m H t v
theorem JW {k:Nat} {x:Str} {t:T} {pos:Pos} (hg:Gl X x) (hk:gv[k]? = some t) (ok:Q9 X.K X.mg x t) (hd:(x == ("__debug__" : Str))=false):PE X (.Name x pos) (tE X.K call gv xr (.gl k)):=by
  obtain ⟨u,v,h1,h2,h3⟩:=ok
  refine PE.mono (QQ hg h1 h2 hd) ?_
  rintro σ H Q ⟨env,cm,m,hE,M,ho⟩
  unfold ev at ho
  rw [hk] at ho
  exact OkR.now (a:=W.t t) ho M v (h3 cm m H)
theorem Zke {i:Int} {j pos}:PE X (.Constant (.int i) j pos) (tE X.K call gv xr (.con (.int i))):=PE.mono pe_int fun σ H Q ⟨env,cm,m,hE,M,ho⟩=>by
  unfold ev at ho
  exact OkR.now ho M _ (.int i)
theorem pe_blW {b:Bool} {j pos}:PE X (.Constant (.bool b) j pos) (tE X.K call gv xr (.con (.bl b))):=PE.mono pe_bl fun σ H Q ⟨env,cm,m,hE,M,ho⟩=>by
  unfold ev at ho
  exact OkR.now ho M _ (.bl b)
theorem Zj8 {j pos}:PE X (.Constant .none j pos) (tE X.K call gv xr (.con .non)):=PE.mono pe_non fun σ H Q ⟨env,cm,m,hE,M,ho⟩=>by
  unfold ev at ho
  exact OkR.now ho M _ .non
theorem ZcW {x:Str} {cs:List Nat} (h:x.cps.toList=cs):x=⟨cs.toArray⟩:=by
  subst h
  cases x
  simp
theorem Zj5 {x:Str} {cs:List Nat} {j pos} (h:x.cps.toList=cs):PE X (.Constant (.str x) j pos) (tE X.K call gv xr (.con (.str cs))):=PE.mono pe_str fun σ H Q ⟨env,cm,m,hE,M,ho⟩=>by
  unfold ev at ho
  have:=OkR.now ho M _ (.str cs)
  rw [ZcW h]
  exact this
theorem ZeX (cs:List Nat):∀ (n:Nat) (acc:Array Nat),(List.replicate n cs.toArray).foldl (·++·) acc=acc++(List.replicate n cs).flatten.toArray
  | 0,acc=>by simp
  | n + 1,acc=>by
    rw [List.replicate_succ,List.foldl_cons,ZeX cs n,List.replicate_succ,List.flatten_cons]
    apply Array.toList_inj.mp
    simp
theorem ZiM {cs:List Nat} {k:Int} (h:0≤k):Txt.mul ⟨cs.toArray⟩ k=⟨(repT cs k.toNat).toArray⟩:=by
  unfold Txt.mul repT
  by_cases h1:k < 1
  · have:k=0:=by omega
    subst this
    rw [if_pos h1]
    rfl
  · rw [if_neg h1]
    by_cases h2:(k == 1 || (⟨cs.toArray⟩:Str).length == 0)=true
    · rw [if_pos h2]
      rcases Bool.or_eq_true _ _ ▸ h2 with h3 | h3
      · have:k=1:=eq_of_beq h3
        subst this
        simp
      · have hl:cs.toArray.size=0:=eq_of_beq h3
        have:cs=[]:=by simpa using hl
        subst this
        simp
    · rw [if_neg h2,ZeX]
      simp
theorem mul_fits {cs:List Nat} {k:Int} (h:0≤k∧k≤64) (hl:cs.length≤1000):MulOk ⟨cs.toArray⟩ k:=by
  have e:(⟨cs.toArray⟩:Str).length=cs.length:=by show cs.toArray.size=_; simp
  have hk:k.toNat≤64:=by omega
  have hm:cs.length * k.toNat≤1000 * 64:=Nat.mul_le_mul hl hk
  refine ⟨?_,fun h1 _=>?_,fun h1 _=>?_⟩
  · have a:¬ k < -(2 ^ 63:Int):=by omega
    have b:¬ k ≥ (2 ^ 63:Int):=by omega
    simp only [a,b,decide_false,Bool.or_self]
  · rw [e]
    have:(1000:Int)≤(2 ^ 63 - 1) / k:=(Int.le_ediv_iff_mul_le (by omega)).mpr (by omega)
    omega
  · rw [e]
    unfold Builtin.Str.tooLong
    have:=ZV
    unfold lim at this
    exact decide_eq_false (by omega)
theorem Zfv:OpR X (binaryOp .Mult) (r2 X.K xr (fBin .Mult)):=by
  rintro pins s σ H x y v u Q I rx ry ⟨cm,m,a,b,M,ra,rb,ho⟩
  obtain ⟨t,e,ho⟩:=QD ho
  obtain ⟨ta,tb,ea,eb,e⟩:=ZbU e
  change mulT ta tb=some t at e
  unfold mulT at e
  split at e
  rotate_left
  · cases e
  rename_i k
  split at e
  · split at e <;> cases e
    cases (Zd ra ea (fun _ z=>by cases z)).vint
    cases (Zd rb eb (fun _ z=>by cases z)).vint
    exact Zkr pins s σ H _ _ v u Q I rx ry ⟨_,_,rfl,rfl,‹_›,ans ho M (.int _)⟩
  · split at e <;> cases e
    rename_i ts hc
    obtain ⟨p,vs,rfl,h1,r1⟩:=(Zd ra ea (fun _ z=>by cases z)).itup
    cases (Zd rb eb (fun _ z=>by cases z)).vint
    have l1:=r1.length
    have hz:=ZV
    have hl:(lim:Int) < 2 ^ 63:=by unfold lim; decide
    refine Zko pins s σ H _ _ v u Q I rx ry ⟨p,_,vs,rfl,rfl,h1,by omega,by rw [← l1]; omega,fun hq=>?_,fun _ l hl=>Zci ho M (Zaq r1 _) hl⟩
    have e:repT ts k.toNat=ts:=by
      rcases hq with rfl | rfl
      · cases r1; simp [repT]
      · simp [repT]
    rw [e] at ho
    exact ans ho M (.mtup h1 r1)
  · split at e <;> cases e
    rename_i hc
    obtain ⟨p,vs,rfl,h1,r1⟩:=ZG M ra ea
    cases (Zd rb eb (fun _ z=>by cases z)).vint
    have l1:=r1.length
    have hz:=ZV
    have hl:(lim:Int) < 2 ^ 63:=by unfold lim; decide
    exact op_rep pins s σ H _ _ v u Q I rx ry ⟨p,_,vs,rfl,rfl,h1,by omega,by omega,by rw [← l1]; omega,fun l hl=>Zcj ho M (Zaq r1 _) hl⟩
  · split at e <;> cases e
    rename_i cs hc
    cases (Zd ra ea (fun _ z=>by cases z)).vstr
    cases (Zd rb eb (fun _ z=>by cases z)).vint
    obtain ⟨tx,rfl⟩:=rx
    obtain ⟨ty,rfl⟩:=ry
    refine SB.mul (mul_fits hc.1 hc.2) fun t' k'=>⟨.str ⟨(repT cs k.toNat).toArray⟩,H,I.tok _,⟨t',?_⟩,ans ho M (.str _)⟩
    rw [ZiM hc.1.1]
  all_goals cases e
theorem Zd3 {α:Type} (xs:List α):repT xs 1=xs:=by simp [repT]
theorem op_no {op:Operator} (h:∀ x y,binT op x y=none):OpR X (binaryOp op) (r2 X.K xr (fBin op)):=by
  rintro pins s σ H x y v u Q I rx ry ⟨cm,m,a,b,M,ra,rb,ho⟩
  obtain ⟨t,e,ho⟩:=QD ho
  obtain ⟨ta,tb,ea,eb,e⟩:=ZbU e
  rw [h] at e
  cases e
theorem op_bin (op:Operator):OpR X (binaryOp op) (r2 X.K xr (fBin op)):=by
  cases op <;> first | exact Zfx | exact Zft | exact Zfv | exact Zea | exact Zfw | exact Zfu | exact op_no fun x y=>by cases x <;> cases y <;> rfl
variable {a b c:Expr} {ea eb ec:E} {pos:Pos}
theorem Zkk {op:Operator} (ha:PE X a (tE X.K call gv xr ea)) (hb:PE X b (tE X.K call gv xr eb)):PE X (.BinOp a op b pos) (tE X.K call gv xr (.bin op ea eb)) :=
  PE.mono (pe_op (op_bin op) ha hb) (Zh8 fun env m=>by rw [ev]; rfl)
noncomputable def fNeg (x:W) (m:Mem):Res W:=pur ((view x m).bind fun x=>match x with
    | .int i=>some (.int (-i))
    | _=>none) m
theorem ZjI:UnR X (unaryOp .USub) (r1 X.K xr fNeg):=by
  rintro pins s σ H x v Q I rx ⟨cm,m,a,M,ra,ho⟩
  obtain ⟨t,e,ho⟩:=QD ho
  cases q:view a m with
  | none=>rw [q] at e; cases e
  | some ta =>
    rw [q] at e
    cases ta with
    | int i =>
      cases e
      cases (Zd ra q (fun _ z=>by cases z)).vint
      exact un_neg pins s σ H _ v Q I rx ⟨_,rfl,ans ho M (.int _)⟩
    | _=>cases e
theorem Zj9 (ha:PE X a (tE X.K call gv xr ea)):PE X (.UnaryOp .USub a pos) (tE X.K call gv xr (.neg ea)) :=
  PE.mono (pe_un ZjI ha) (t1_of fun env m=>by rw [ev]; rfl)
theorem Zkg {op:CmpOp} (ha:PE X a (tE X.K call gv xr ea)) (hb:PE X b (tE X.K call gv xr eb)) (hm:behindInMarks op b=false) (hu:X.A.units + 64 < cLine):PE X (.Compare a [op] [b] pos) (tE X.K call gv xr (.cmp op ea eb)) :=
  PE.mono (Zkh (Zb4 hu op) ha hb hm) (Zh8 fun env m=>by rw [ev]; rfl)
theorem Zhs {op:CmpOp} {x y w:W} {m m':Mem} (h:fCmp op x y m = .ok w m'):∃ k,w = .t (.bl k)∧m' = m:=by
  unfold fCmp at h
  cases q:((view x m).bind fun x=>(view y m).bind fun y=>cmpT op x y) with
  | none=>rw [q] at h; cases h
  | some k=>rw [q] at h; cases h; exact ⟨k,rfl,rfl⟩
theorem Zd6 {f:Env→Mem→Res W} {e:Expr} {te:TE} {a:E} (h:PT X e (ZjL te)) (hk:∀ env m w m',ev call gv a env m = .ok w m'→∃ k,w = .t (.bl k)) (he:∀ σ H Q,tE X.K call gv xr a σ H Q→te σ H Q):PT X e (tT X.K call gv xr a):=by
  refine PT.mono h fun σ H Q ⟨env,cm,m,hE,M,ho⟩=>he σ H _ ⟨env,cm,m,hE,M,?_⟩
  cases q:ev call gv a env m with
  | stuck=>rw [q] at ho; exact ho.elim
  | exc e m'=>rw [q] at ho; exact ho
  | ok w m' =>
    obtain ⟨k,rfl⟩:=hk env m w m' q
    rw [q] at ho
    intro cm1 H1 x1 M1 v rv
    cases RT.vbl rv
    exact ⟨k,rfl,(show OkR X.K (.ok k m') xr cm m H _ from ho) cm1 H1 x1 M1⟩
theorem ZjU {op:CmpOp} (ha:PE X a (tE X.K call gv xr ea)) (hb:PE X b (tE X.K call gv xr eb)) (hm:behindInMarks op b=false) (hu:X.A.units + 64 < cLine):PT X (.Compare a [op] [b] pos) (tT X.K call gv xr (.cmp op ea eb)):=by
  refine Zd6 (f:=fun _ _=>.stuck) (ZjV (Zb4 hu op) ha hb hm) (fun env m w m' h=>?_) (Zh8 fun env m=>by rw [ev]; rfl)
  rw [ev] at h
  obtain ⟨x,m1,_,h⟩:=Zw h
  obtain ⟨y,m2,_,h⟩:=Zw h
  obtain ⟨k,hk,_⟩:=Zhs h
  exact ⟨k,hk⟩
theorem Zju {op op':CmpOp} (σ:L2.St) (H:Hp) (Q:VK) (q:tE X.K call gv xr (.chn op op' ea eb ec) σ H Q) :
    Zgi (r2 X.K xr (fCmp op)) (r2 X.K xr (fCmp op')) (tE X.K call gv xr ea) (tE X.K call gv xr eb) (tE X.K call gv xr ec) σ H Q:=by
  obtain ⟨env,cm,m,hE,hM,ho⟩:=q
  rw [ev] at ho
  refine ⟨env,cm,m,hE,hM,ho.bind.mono fun w cm1 m1 H1 x1 M1 o1 v rv=>?_⟩
  refine ⟨env,cm1,m1,hE.ext x1 hM M1,M1,o1.bind.mono fun w2 cm2 m2 H2 x2 M2 o2 v2 rv2=>?_⟩
  refine ⟨cm2,m2,w,w2,M2,rv.ext x2 M1 M2,rv2,?_⟩
  split at o2
  · rename_i e
    have e1:fCmp op w w2 m2 = .ok (.t (.bl true)) m2:=by unfold fCmp; rw [e]; rfl
    rw [e1]
    intro cm3 H3 x3 M3 v3 rv3
    cases RT.vbl rv3
    refine ⟨true,rfl,iteT ?_⟩
    refine ⟨env,cm3,m2,(hE.ext (x1.trans (x2.trans x3)) hM M3),M3,(OkR.shift o2 x3).bind.mono fun w4 cm4 m4 H4 x4 M4 o4 v4 rv4=>?_⟩
    exact ⟨cm4,m4,w2,w4,M4,(rv2.ext x3 M2 M3).ext x4 M3 M4,rv4,o4⟩
  · rename_i e
    have e1:fCmp op w w2 m2 = .ok (.t (.bl false)) m2:=by unfold fCmp; rw [e]; rfl
    rw [e1]
    intro cm3 H3 x3 M3 v3 rv3
    cases RT.vbl rv3
    exact ⟨false,rfl,iteF (OkR.to o2 x3 M3 _ (.bl false))⟩
  · exact o2.elim
theorem Zki {op op':CmpOp} (ha:PE X a (tE X.K call gv xr ea)) (hb:PE X b (tE X.K call gv xr eb)) (hc:PE X c (tE X.K call gv xr ec)) (hm:lastMarks [op,op'] [b,c]=false) (hu:X.A.units + 64 < cLine) :
    PE X (.Compare a [op,op'] [b,c] pos) (tE X.K call gv xr (.chn op op' ea eb ec)):=PE.mono (ZiD (Zb4 hu op) (Zb4 hu op') ha hb hc hm) Zju
theorem ZjW {op op':CmpOp} (ha:PE X a (tE X.K call gv xr ea)) (hb:PE X b (tE X.K call gv xr eb)) (hc:PE X c (tE X.K call gv xr ec)) (hm:lastMarks [op,op'] [b,c]=false) (hu:X.A.units + 64 < cLine) :
    PT X (.Compare a [op,op'] [b,c] pos) (tT X.K call gv xr (.chn op op' ea eb ec)):=by
  refine Zd6 (f:=fun _ _=>.stuck) (Zii (Zb4 hu op) (Zb4 hu op') ha hb hc hm) (fun env m w m' h=>?_) Zju
  rw [ev] at h
  obtain ⟨x,m1,_,h⟩:=Zw h
  obtain ⟨y,m2,_,h⟩:=Zw h
  split at h
  · obtain ⟨z,m3,_,h⟩:=Zw h
    obtain ⟨k,hk,_⟩:=Zhs (op:=op') (x:=y) (y:=z) h
    exact ⟨k,hk⟩
  · cases h; exact ⟨_,rfl⟩
  · cases h
theorem pe_ixW (ha:PE X a (tE X.K call gv xr ea)) (hb:PE X b (tE X.K call gv xr eb)) (hs:ZhW b):PE X (.Subscript a b pos) (tE X.K call gv xr (.ix ea eb)) :=
  PE.mono (pe_ix ix_ix ha hb hs) (Zh8 fun env m=>by rw [ev]; rfl)
end
end Mi
end
section
namespace Mi
open PySem PySem.Spec PyProof.Rows L2
section
variable {K:PySem.W.Frag} {cm:List Addr} {m:Mem} {H:Hp} {xr:XR} {X:Cx} {call:Nat→List W→Mem→Res W} {gv:List T}
variable {a b c e:Expr} {es:List Expr} {ea eb ec:E} {eas:Es} {pos p:Pos}
noncomputable def notStar:Expr→Bool
  | .Starred _ _=>false
  | _=>true
theorem Qv {env:PySem.Env} (h:notStar e=true):starEach (e :: es) env=(false,eval e env) :: starEach es env:=by
  cases e <;> first | rfl | cases h
theorem Zgl {env:PySem.Env}:∀ {es:List Expr},es.all notStar=true→(backTo pos (starEach es env)).all (fun x=>!x.1)=true
  | [],_=>rfl
  | e :: es,h=>by
    rw [List.all_cons,Bool.and_eq_true] at h
    rw [Qv h.1]
    show (!false && (backTo pos (starEach es env)).all (fun x=>!x.1))=true
    rw [Zgl h.2]
    rfl
theorem Xl {env:PySem.Env} {es:List Expr} (h:es.all notStar=true):(backTo pos (starEach es env)).any (·.1)=false:=by
  have h1:=Zgl (pos:=pos) (env:=env) h
  rw [List.any_eq_false]
  intro x hx
  have:=List.all_eq_true.mp h1 x hx
  simpa using this
theorem ZgN:PA X [] (tA X.K call gv xr .nil):=PA.mono Zdc fun σ H Q ⟨env,cm,m,hE,M,ho⟩=>by
  rw [evs] at ho
  exact OkR.now ho M [] .nil
theorem ZeL (ha:PE X e (tE X.K call gv xr ea)) (hr:PA X es (tA X.K call gv xr eas)) (hs:notStar e=true):PA X (e :: es) (tA X.K call gv xr (.cons ea eas)):=by
  refine PA.mono (J7 ha hr (Qv hs)) ?_
  rintro σ H Q ⟨env,cm,m,hE,M,ho⟩
  rw [evs] at ho
  refine ⟨env,cm,m,hE,M,ho.bind.mono fun w cm1 m1 H1 x1 M1 o1 v rv=>?_⟩
  exact ⟨env,cm1,m1,hE.ext x1 M M1,M1,o1.bind.mono fun ws cm2 m2 H2 x2 M2 o2 vs rvs=>OkR.now o2 M2 (v :: vs) (.cons (rv.ext x2 M1 M2) rvs)⟩
theorem ZdD {w:W} {m m':Mem} {x:Exc}:frz w m≠.exc x m':=by
  intro h
  unfold frz at h
  split at h
  · cases h
  · cases h
  · cases h
  · split at h <;> cases h
theorem Zay:∀ {ws:List W} {m m':Mem} {x:Exc},frzs ws m≠.exc x m'
  | [],_,_,_=>fun h=>by cases h
  | w :: ws,m,m',x=>fun h=>by
    rw [frzs] at h
    cases q:frz w m with
    | stuck=>rw [q] at h; cases h
    | exc y m1=>exact ZdD q
    | ok t m1 =>
      rw [q] at h
      have h':((frzs ws m1).bind fun ts m=>Res.ok (t :: ts) m) = .exc x m':=h
      cases q2:frzs ws m1 with
      | stuck=>rw [q2] at h'; cases h'
      | exc y m2=>exact Zay q2
      | ok ts m2=>rw [q2] at h'; cases h'
theorem Zax:∀ {ws:List W} {vs:List V} {ts:List T} {m m':Mem},MemR K cm m H→RWs K cm m H ws vs→frzs ws m = .ok ts m'→Ext cm m H cm m' H∧MemR K cm m' H∧RTs K cm m' H ts vs
  | [],_,_,_,_,M,.nil,e=>by cases e; exact ⟨.refl,M,.nil⟩
  | w :: ws,v :: vs,ts,m,m',M,.cons r rs,e=>by
    rw [frzs] at e
    obtain ⟨t,m1,e1,e⟩:=Zw e
    obtain ⟨us,m2,e2,e⟩:=Zw e
    cases e
    obtain ⟨x1,M1,r1⟩:=Zho M r e1
    obtain ⟨x2,M2,r2⟩:=Zax M1 (RWs.ext x1 M M1 rs) e2
    exact ⟨x1.trans x2,M2,.cons (RT.ext x2 M1 M2 r1) r2⟩
theorem Za3 {α:Type} {ws:List W} {f:List T→Mem→Res α} {k:α→List Addr→Mem→Hp→Prop} (h:OkR K ((frzs ws m).bind f) xr cm m H k):∃ ts m',frzs ws m = .ok ts m'∧OkR K (f ts m') xr cm m H k:=by
  cases q:frzs ws m with
  | stuck=>rw [q] at h; exact h.elim
  | exc x m'=>exact absurd q Zay
  | ok ts m'=>rw [q] at h; exact ⟨ts,m',rfl,h⟩
theorem Zbx {α:Type} {c:Prop} [Decidable c] {r:Res α} {k:α→List Addr→Mem→Hp→Prop} (h:OkR K (if c then r else .stuck) xr cm m H k):c∧OkR K r xr cm m H k:=by
  by_cases hc:c
  · rw [if_pos hc] at h; exact ⟨hc,h⟩
  · rw [if_neg hc] at h; exact h.elim
theorem Zj4 {x1} (h:PA X es (tA X.K call gv xr eas)):PE X (.Tuple es x1 pos) (tE X.K call gv xr (.tup eas)):=by
  refine PE.mono (Zjj h) ?_
  rintro σ H Q ⟨env,cm,m,hE,M,ho⟩
  rw [ev] at ho
  refine ⟨env,cm,m,hE,M,ho.bind.mono fun ws cm1 m1 H1 x1 M1 o1 vs rvs=>?_⟩
  obtain ⟨ts,m2,e2,o2⟩:=Za3 o1
  obtain ⟨hl,o3⟩:=Zbx o2
  obtain ⟨x2,M2,r2⟩:=Zax M1 rvs e2
  have l2:=r2.length
  have hz:=ZV
  exact ⟨by omega,fun p hp=>Zci (OkR.shift o3 x2) M2 r2 hp⟩
theorem Zka (h:PA X es (tA X.K call gv xr eas)):PE X (.List es pos) (tE X.K call gv xr (.lst eas)):=by
  refine PE.mono (pe_lst h) ?_
  rintro σ H Q ⟨env,cm,m,hE,M,ho⟩
  rw [ev] at ho
  refine ⟨env,cm,m,hE,M,ho.bind.mono fun ws cm1 m1 H1 x1 M1 o1 vs rvs=>?_⟩
  obtain ⟨ts,m2,e2,o2⟩:=Za3 o1
  obtain ⟨hl,o3⟩:=Zbx o2
  obtain ⟨x2,M2,r2⟩:=Zax M1 rvs e2
  have l2:=r2.length
  have hz:=ZV
  exact ⟨by omega,fun p hp=>Zcj (OkR.shift o3 x2) M2 r2 hp⟩
noncomputable def tLstN (K:PySem.W.Frag) (t:TA):TE:=fun σ H Q=>t σ H fun xs H1=>xs.length≤sizeLine∧∀ p,H1 p=none→K.lookup p=none→Q (.ref p) (upd H1 p (.lst xs))
theorem Inv.notK {pins:List (Addr×Obj)} {σ:L2.St} {H:Hp} {s:Shared} (I:Inv X pins σ H s):X.K.lookup s.heap.objs.size=none:=by
  cases q:X.K.lookup s.heap.objs.size with
  | none=>rfl
  | some o=>exact absurd (Heap.lt_size (I.kIn _ _ q)) (Nat.lt_irrefl _)
theorem Zkb {t:TA} (h:PA X es t):PE X (.List es pos) (tLstN X.K t):=by
  intro pins s σ H Q I hq
  refine wpAny_List_spliced (thn (h pos pins s σ H _ I hq) fun us s1 ⟨xs,H1,I1,r,z,q⟩=>⟨by rw [← r.length]; exact z,?_⟩)
  have hf:H1 s1.heap.objs.size=none:=I1.hok.fresh (Nat.le_refl _)
  refine ⟨.ref s1.heap.objs.size,upd H1 s1.heap.objs.size (.lst xs),I1.laid (t':=s1.toks) (fun b u e=>Heap.get?_push_of_some _ e) (Nat.le_refl _) ?_,rfl,q _ hf (Mi.Inv.notK I1)⟩
  exact ⟨z,us,0,r,Heap.get?_push_size _ rfl⟩
theorem ZgI (h:PA X es (tA X.K call gv xr eas)):PE X (.List es pos) (tE X.K call gv xr (.cel eas)):=by
  refine PE.mono (Zkb h) ?_
  rintro σ H Q ⟨env,cm,m,hE,M,ho⟩
  rw [ev] at ho
  refine ⟨env,cm,m,hE,M,ho.bind.mono fun ws cm1 m1 H1 x1 M1 o1 vs rvs=>?_⟩
  obtain ⟨ts,m2,e2,o2⟩:=Za3 o1
  obtain ⟨hl,o3⟩:=Zbx o2
  obtain ⟨x2,M2,r2⟩:=Zax M1 rvs e2
  have l2:=r2.length
  have hz:=ZV
  refine ⟨by omega,fun p hp hk=>?_⟩
  obtain ⟨x3,M3,r3⟩:=Zi8 M2 r2 hp hk
  exact OkR.to o3 (x2.trans x3) M3 _ r3
theorem ZaP {α:Type} (xs:List α) (lo hi:Option Int):cut xs lo hi=(xs.drop (HT.sIx xs.length 0 lo)).take (HT.sIx xs.length xs.length hi - HT.sIx xs.length 0 lo):=by
  have e:∀ n d o,Zes n d o=HT.sIx n d o:=fun n d o=>by cases o <;> rfl
  unfold cut
  rw [e,e]
theorem Zar {α β:Type} {F:α→β→Prop} {xs:List α} {ys:List β} (h:Paired F xs ys) (lo hi:Option Int):Paired F (cut xs lo hi) (cut ys lo hi):=by
  rw [ZaP,ZaP,← h.length]
  exact Zbl _ (Zbn _ h)
theorem Zer (xs:List V) (lo hi:Option Int):cutV xs lo hi=cut xs lo hi:=(ZaP xs lo hi).symm
theorem Zig (x y:Nat):sliceRange (x:Int) (y:Int) 1=(List.range (y - x)).map fun k=>x + k:=by
  unfold sliceRange
  simp only [show ((1:Int) > 0)=True from by simp,if_true]
  by_cases h:(x:Int) < y
  · have e3:(((y:Int) - x + 1 - 1) / 1).toNat=y - x:=by first | omega | (simp; done) | (simp; omega)
    rw [if_pos h,e3]
    refine List.map_congr_left fun k _=>?_
    omega
  · have e3:y - x=0:=by omega
    rw [if_neg h,e3]
    rfl
theorem Za6 (n d:Nat) (v:Int):max 0 (min (if v < 0 then v + n else v) (n:Int))=((HT.sIx n d (some v):Nat):Int):=by
  show max 0 (min (if v < 0 then v + n else v) (n:Int))=(((if v < 0 then (v + (n:Int)).toNat else min v.toNat n):Nat):Int)
  split <;> omega
theorem ZfP (lo hi:Option Int) (n:Nat):(Builtin.Str.strSliceIndices lo hi 1 n)=(List.range (HT.sIx n n hi - HT.sIx n 0 lo)).map fun k=>HT.sIx n 0 lo + k:=by
  rw [← Zig]
  unfold Builtin.Str.strSliceIndices
  cases lo with
  | none =>
    cases hi with
    | none=>rfl
    | some j =>
      rw [← Za6]
      rfl
  | some i =>
    cases hi with
    | none =>
      rw [← Za6]
      rfl
    | some j =>
      rw [← Za6,← Za6]
      rfl
noncomputable def fSl (w:W) (lo hi:Option Int) (m:Mem):Res W:=pur ((view w m).bind fun x=>slT x lo hi) m
noncomputable def rSl (K:PySem.W.Frag) (xr:XR):V→Option Int→Option Int→Hp→VK→Prop:=fun x lo hi H Q=>∃ cm m w,MemR K cm m H∧RW K cm m H w x∧OkR K (fSl w lo hi m) xr cm m H fun w cm' m' H'=>∀ v,RW K cm' m' H' w v→Q v H'
theorem Zgo {prog:Program} {w:World} {A:Around} {E:Value→Shared→Prop} {s:Shared} {cs:List Nat} {t:Tok} {sl:Addr} {vl vu:Value} {lo hi:Option Int} {Q:Value→Shared→Prop} (hs:s.heap.IsSliceOf sl vl vu .none) (pl:IsPart vl lo) (pu:IsPart vu hi) (hz:cs.length≤lim)
    (h:∀ t' k,Q (.str ⟨(cut cs lo hi).toArray⟩ t') { s with toks:=k }):wpAny (model prog w) A (getItem (.str ⟨cs.toArray⟩ t) (.ref sl)) Q E s:=by
  have hl:=ZV
  obtain ⟨l,e1,e2⟩:∃ l:Option (Int×Tok),vl=partValue l∧l.map (·.1)=lo:=by
    cases pl with
    | none=>exact ⟨none,rfl,rfl⟩
    | int i t=>exact ⟨some (i,t),rfl,rfl⟩
  obtain ⟨u,f1,f2⟩:∃ l:Option (Int×Tok),vu=partValue l∧l.map (·.1)=hi:=by
    cases pu with
    | none=>exact ⟨none,rfl,rfl⟩
    | int i t=>exact ⟨some (i,t),rfl,rfl⟩
  subst e1 f1
  refine wpAny_getItem_str_slice (l:=l) (u:=u) (st:=none) hs (by rfl) ?_
  have pk:slicePicked ⟨cs.toArray⟩ l u none=(List.range (HT.sIx cs.length cs.length hi - HT.sIx cs.length 0 lo)).map fun k=>HT.sIx cs.length 0 lo + k:=by
    unfold slicePicked
    rw [e2,f2,J5]
    exact ZfP lo hi cs.length
  have hn:HT.sIx cs.length cs.length hi≤cs.length:=HT.sIx_le _ _ (Nat.le_refl _) hi
  have fm:((slicePicked ⟨cs.toArray⟩ l u none).filterMap ((⟨cs.toArray⟩:Str).cps[·]?))=cut cs lo hi:=by
    rw [pk,ZaP]
    by_cases hle:HT.sIx cs.length 0 lo≤HT.sIx cs.length cs.length hi
    · have:=StrLaws.picks cs (HT.sIx cs.length cs.length hi - HT.sIx cs.length 0 lo) (HT.sIx cs.length 0 lo) (by omega)
      rw [← this]
      simp
    · have:HT.sIx cs.length cs.length hi - HT.sIx cs.length 0 lo=0:=by omega
      rw [this]
      simp
  unfold sliceMade
  split
  · rename_i hw
    rw [Bool.and_eq_true] at hw
    have q:(slicePicked ⟨cs.toArray⟩ l u none).length=cs.length:=by rw [eq_of_beq hw.2,J5]
    rw [pk,List.length_map,List.length_range] at q
    have e:cut cs lo hi=cs:=by
      rw [ZaP]
      have:HT.sIx cs.length 0 lo=0∨cs.length=0:=by omega
      rcases this with h0 | h0
      · rw [h0] at q ⊢
        rw [List.drop_zero,q]
        exact List.take_length
      · rw [List.length_eq_zero_iff] at h0
        subst h0
        simp
    have:=h t s.toks
    rw [e] at this
    exact this
  · rw [fm]
    have hc:(cut cs lo hi).length≤cs.length:=by
      rw [ZaP,List.length_take,List.length_drop]; omega
    exact ⟨by show (cut cs lo hi).toArray.size≤_; rw [List.size_toArray]; omega,h _ _⟩
theorem Zgb {prog:Program} {w:World} {A:Around} {E:Value→Shared→Prop} {s:Shared} {t sl:Addr} {items:Array Value} {vl vu:Value} {lo hi:Option Int} {Q:Value→Shared→Prop} (ht:IsTup s.heap t items) (hs:s.heap.IsSliceOf sl vl vu .none) (pl:IsPart vl lo) (pu:IsPart vu hi)
    (hw:HT.sIx items.size 0 lo=0∧HT.sIx items.size items.size hi=items.size) (h:Q (.ref t) s):wpAny (model prog w) A (getItem (.ref t) (.ref sl)) Q E s:=by
  obtain ⟨os,hos,hcs,hds⟩:=id hs
  have hTs:s.TypeIs (.ref sl) "slice":=⟨os,hos,hcs⟩
  unfold getItem
  try with_reducible refine wpAny_holding ?_
  first | refine wpAny_bind (wpAny_pure ?_) | skip
  refine wpAny_bind (wpAny_sequenceKey ht.typeIs (by decide) ?_)
  refine wpAny_bind (wpAny_callSpecial?_slot (name:=Str.ofString "__getitem__") ht.typeIs PyProof.Rows.slot_tuple_getitem
    (wpAny_call_entry PyProof.Rows.slot_tuple_getitem ht.typeIs entry_tuple_getitem ?_ (args_tuple_getitem _ _)))
  show wpAny _ _ (Builtin.Tuple.tupleItemsOf (.ref t) >>= _) _ _ s
  refine wpAny_bind (tupleItemsOf_ ht ?_)
  refine wpAny_bind (wpAny_typeOf hTs ?_)
  rw [if_pos (by decide)]
  refine wpAny_bind (HT.sliceApplied_gen hs pl pu ?_)
  show wpAny _ _ (if (((HT.sIx items.size 0 lo:Nat):Int) == 0 && (1:Int) == 1 && (HT.sIx items.size items.size hi - HT.sIx items.size 0 lo) == items.size)=true then _ else _) _ _ s
  rw [if_pos (by rw [hw.1,hw.2]; simp)]
  refine wpAny_bind ?_
  unfold Builtin.Tuple.tupleIsExact
  refine wpAny_bind (wpAny_typeOf ht.typeIs (wpAny_pure ?_))
  rw [if_pos (by decide)]
  exact wpAny_bind (wpAny_rule (wpAny_pure ⟨_,rfl,wpAny_pure h⟩))
theorem Zib {pins:List (Addr×Obj)} {s:Shared} {σ:L2.St} {H:Hp} {x:V} {v vl vu:Value} {lo hi:Option Int} {sl:Addr} {Q:VK} {a:Addr} {xs:List V} (I:Inv X pins σ H s) (rx:RelV x v) (hs:s.heap.IsSliceOf sl vl vu .none) (pl:IsPart vl lo) (pu:IsPart vu hi) (e:x = .ref a) (hx:SqT X.K H a xs)
    (hw:HT.sIx xs.length 0 lo=0∧HT.sIx xs.length xs.length hi=xs.length) (q:Q (.ref a) H):∃ T id,typeLookup (.type T) "__getitem__" = pure (some (.builtin id))∧s.TypeIs v T∧wpAny (model X.prog X.w) X.A (getItem v (.ref sl)) (EP X pins σ Q) X.xe s:=by
  subst e
  cases rx
  obtain ⟨its,r,ht,hz⟩:=I.tuple hx
  have hlen:its.toArray.size=xs.length:=by rw [List.size_toArray]; exact r.length.symm
  exact ⟨"tuple",_,PyProof.Rows.slot_tuple_getitem.lookup,ht.typeIs,Zgb ht hs pl pu (by rw [hlen]; exact hw) ⟨.ref a,H,I,rfl,q⟩⟩
theorem sl_any:SlR X (rSl X.K xr):=by
  rintro pins s σ H x v vl vu lo hi sl Q I rx hs pl pu ⟨cm,m,w,M,rw',ho⟩
  obtain ⟨t,e,ho⟩:=QD ho
  cases q:view w m with
  | none=>rw [q] at e; cases e
  | some tw =>
    rw [q] at e
    have e:slT tw lo hi=some t:=e
    cases tw with
    | tup ts =>
      cases e
      obtain ⟨a,vs,rfl,h1,r1⟩:=(Zd rw' q (fun _ z=>by cases z)).itup
      have l1:=r1.length
      have e:∀ n d o,Zes n d o=HT.sIx n d o:=fun n d o=>by cases o <;> rfl
      by_cases hc:HT.sIx vs.length 0 lo=0∧HT.sIx vs.length vs.length hi=vs.length
      · refine Zib I rx hs pl pu rfl h1 hc ?_
        have ec:cut ts lo hi=ts:=by
          unfold cut
          rw [e,e,l1,hc.1,hc.2,List.drop_zero,Nat.sub_zero,← l1,List.take_length]
        rw [ec] at ho
        exact ans ho M (.mtup h1 r1)
      · refine sl_tup pins s σ H _ v vl vu lo hi sl Q I rx hs pl pu ⟨a,vs,rfl,h1,hc,fun p hp=>?_⟩
        rw [Zer]; exact Zci ho M (Zar r1 lo hi) hp
    | lst ts =>
      cases e
      obtain ⟨a,vs,rfl,h1,r1⟩:=ZG M rw' q
      exact Zgp pins s σ H _ v vl vu lo hi sl Q I rx hs pl pu ⟨a,vs,rfl,.of h1,fun p hp=>by rw [Zer]; exact Zcj ho M (Zar r1 lo hi) hp⟩
    | scr ns =>
      cases e
      obtain ⟨a,rfl,h1⟩:=(Zd rw' q (fun _ z=>by cases z)).vscr
      refine Zgp pins s σ H _ v vl vu lo hi sl Q I rx hs pl pu ⟨a,_,rfl,h1.sq,fun p hp=>?_⟩
      rw [Zer]
      refine Zcj ho M ?_ hp
      have:=Zar (Zak (K:=X.K) (cm:=cm) (m:=m) (H:=H) ns) lo hi
      have e:cut (ns.map T.int) lo hi=(cut ns lo hi).map T.int:=by
        rw [ZaP,ZaP,List.length_map,List.map_take,List.map_drop]
      rw [e] at this
      exact this
    | str cs =>
      unfold slT at e
      dsimp only at e
      split at e <;> cases e
      rename_i hc
      cases (Zd rw' q (fun _ z=>by cases z)).vstr
      obtain ⟨t,rfl⟩:=rx
      exact ⟨"str",_,slot_str_getitem.lookup,typeIs_str s _ t,Zgo hs pl pu hc fun t' k=>⟨.str ⟨(cut cs lo hi).toArray⟩,H,I.tok _,⟨t',rfl⟩,ans ho M (.str _)⟩⟩
    | _=>cases e
noncomputable def evP (call:Nat→List W→Mem→Res W) (gv:List T) (lo:E) (env:Env) (m:Mem):Res (Option Int):=if Zr lo then Res.ok none m else (ev call gv lo env m).bind intP
noncomputable def tP (K:PySem.W.Frag) (call:Nat→List W→Mem→Res W) (gv:List T) (xr:XR) (lo:E):TO:=fun σ H Q=>∃ env cm m,EnvR K cm m H env σ∧MemR K cm m H∧OkR K (evP call gv lo env m) xr cm m H fun o cm' m' H'=>Q o H'
theorem Ziw:PO X none (tP X.K call gv xr .hole):=fun pins s σ H Q I ⟨env,cm,m,hE,M,ho⟩=>Zj1 pins s σ H Q I (OkR.now ho M)
theorem Ziv {lo:Expr} (h:PE X lo (tE X.K call gv xr ea)) (hn:evP call gv ea=fun env m=>(ev call gv ea env m).bind intP):PO X (some lo) (tP X.K call gv xr ea):=fun pins s σ H Q I ⟨env,cm,m,hE,M,ho⟩=>by
  rw [hn] at ho
  refine Zj0 h pins s σ H Q I ⟨env,cm,m,hE,M,(OkR.bind ho).mono fun w cm1 m1 H1 x1 M1 o1 v rv=>?_⟩
  unfold intP at o1
  split at o1
  · cases RT.vint rv
    exact ⟨_,rfl,OkR.now o1 M1⟩
  · exact o1.elim
theorem Zj6 {lo hi:Option Expr} {p2:Pos} (he:PE X e (tE X.K call gv xr ea)) (hl:PO X lo (tP X.K call gv xr eb)) (hu:PO X hi (tP X.K call gv xr ec)):PE X (.Subscript e (.Slice lo hi none p2) pos) (tE X.K call gv xr (.slc ea eb ec)):=by
  refine PE.mono (ZiB (sl_any (xr:=xr)) he hl hu) ?_
  rintro σ H Q ⟨env,cm,m,hE,M,ho⟩
  have e:ev call gv (.slc ea eb ec) env m=(ev call gv ea env m).bind fun x m=>(evP call gv eb env m).bind fun l m=>(evP call gv ec env m).bind fun h m=>fSl x l h m:=by
    rw [ev]
    rfl
  rw [e] at ho
  refine ⟨env,cm,m,hE,M,ho.bind.mono fun w cm1 m1 H1 x1 M1 o1 v rv=>?_⟩
  refine ⟨env,cm1,m1,hE.ext x1 M M1,M1,o1.bind.mono fun l cm2 m2 H2 x2 M2 o2=>?_⟩
  refine ⟨env,cm2,m2,(hE.ext x1 M M1).ext x2 M1 M2,M2,o2.bind.mono fun h cm3 m3 H3 x3 M3 o3=>?_⟩
  exact ⟨cm3,m3,w,M3,(rv.ext x2 M1 M2).ext x3 M2 M3,o3⟩
noncomputable def fBlt (b:B) (ws:List W) (m:Mem):Res W:=pur ((views ws m).bind fun ts=>bltT b ts) m
theorem Zjd {b:B} (σ:L2.St) (H:Hp) (Q:VK) (q:tE X.K call gv xr (.blt b eas) σ H Q):tCB (rN X.K xr (fBlt b)) (tA X.K call gv xr eas) σ H Q:=by
  obtain ⟨env,cm,m,hE,M,ho⟩:=q
  rw [ev] at ho
  exact ⟨env,cm,m,hE,M,ho.bind.mono fun ws cm1 m1 H1 x1 M1 o1 vs rvs=>⟨cm1,m1,ws,M1,rvs,o1⟩⟩
theorem ZgM {b:B} {id:String} {x:Str} (hc:J4 X (.builtin id) (rN X.K xr (fBlt b))) (hv:bootBuiltins x=some (.builtin id)) (hg:Gl X x) (hm:X.mg x=none) (ha:PA X (e :: es) (tA X.K call gv xr eas)) (hn:x≠"__name__") (hdb:(x == ("__debug__" : Str))=false)
    (he:notStar e=true) (hpl:es.all notStar=true):PE X (.Call (.Name x p) (e :: es) [] pos) (tE X.K call gv xr (.blt b eas)) :=
  PE.mono (Za1 hc hg hm hv ha hn hdb (Qv he) (Xl hpl)) Zjd
theorem ZgL {b:B} {id:String} {x:Str} (hc:J4 X (.type id) (rN X.K xr (fBlt b))) (hv:bootBuiltins x=some (.type id)) (hg:Gl X x) (hm:X.mg x=none) (ha:PA X (e :: es) (tA X.K call gv xr eas)) (hn:x≠"__name__") (hdb:(x == ("__debug__" : Str))=false)
    (he:notStar e=true) (hpl:es.all notStar=true):PE X (.Call (.Name x p) (e :: es) [] pos) (tE X.K call gv xr (.blt b eas)) :=
  PE.mono (ZgJ hc hg hm hv ha hn hdb (Qv he) (Xl hpl)) Zjd
theorem blt1 {b:B} {ws:List W} {vs:List V} {k:W→List Addr→Mem→Hp→Prop} (r:RWs K cm m H ws vs) (h1:∀ ts t,bltT b ts=some t→ts.length=1) (h:OkR K (fBlt b ws m) xr cm m H k) :
    ∃ w v t r,ws=[w]∧vs=[v]∧RW K cm m H w v∧view w m=some t∧bltT b [t]=some r∧OkR K (.ok (.t r) m) xr cm m H k:=by
  obtain ⟨t,e,ho⟩:=QD h
  cases q:views ws m with
  | none=>rw [q] at e; cases e
  | some ts =>
    rw [q] at e
    have e:bltT b ts=some t:=e
    have hl:=h1 ts t e
    have hvl:∀ (ws:List W) (ts:List T),views ws m=some ts→ts.length=ws.length:=fun ws=>by
      induction ws with
      | nil=>intro ts h; cases h; rfl
      | cons w ws ih =>
        intro ts h
        unfold views at h
        cases q1:view w m with
        | none=>rw [q1] at h; cases h
        | some t1 =>
          rw [q1] at h
          cases q2:views ws m with
          | none=>rw [q2] at h; cases h
          | some us=>rw [q2] at h; cases h; simp [ih us q2]
    have hw:=hvl ws ts q
    match ws,vs,r with
    | [],_,_=>rw [hl] at hw; simp at hw
    | w :: w' :: ws,_,_=>rw [hl] at hw; simp at hw
    | [w],_,.cons rv .nil =>
      unfold views at q
      cases q1:view w m with
      | none=>rw [q1] at q; cases q
      | some t1 =>
        rw [q1] at q
        cases q
        exact ⟨w,_,t1,t,rfl,rfl,rv,q1,e,ho⟩
theorem Zdi {f:T→Option T}:∀ {ts:List T} {t:T},one1 f ts=some t→∃ x,ts=[x]∧f x=some t
  | [],_,h=>by cases h
  | [x],_,h=>⟨x,rfl,h⟩
  | _ :: _ :: _,_,h=>by cases h
theorem ZbL {b:B} (hb:b≠.min2∧b≠.max2∧b≠.range2∧b≠.zip2∧b≠.zip4∧b≠.dget∧b≠.din∧b≠.dnot):∀ ts t,bltT b ts=some t→ts.length=1:=by
  intro ts t h
  have h1:∀ f:T→Option T,one1 f ts=some t→ts.length=1:=fun f h=>by
    obtain ⟨x,rfl,_⟩:=Zdi h
    rfl
  cases b <;> first | exact h1 _ h | exact absurd hb (by decide) | cases h
theorem ZhM:J4 X (.builtin "len") (rN X.K xr (fBlt .len)):=by
  rintro pins s σ H xs us Q I r ⟨cm,m,ws,M,rws,ho⟩
  obtain ⟨w,v,t,rr,rfl,rfl,rv,e,eb,ho⟩:=blt1 rws (ZbL (by decide)) ho
  have hz:=ZV
  cases t with
  | str cs =>
    change (if cs.length≤lim then some (T.int cs.length) else none)=some rr at eb
    split at eb <;> cases eb
    cases (Zd rv e (fun _ z=>by cases z)).vstr
    exact Za7 pins s σ H _ us Q I r ⟨_,_,rfl,⟨by rw [J5]; omega,rfl⟩,by rw [J5]; exact ans ho M (.int _)⟩
  | tup ts =>
    cases eb
    obtain ⟨a,vs,rfl,h1,r1⟩:=(Zd rv e (fun _ z=>by cases z)).itup
    exact Za7 pins s σ H _ us Q I r ⟨_,_,rfl,.inr ⟨vs,h1,r1.length⟩,ans ho M (.int _)⟩
  | lst ts =>
    cases eb
    obtain ⟨a,vs,rfl,h1,r1⟩:=ZG M rv e
    exact Za7 pins s σ H _ us Q I r ⟨_,_,rfl,.inl ⟨vs,.of h1,r1.length⟩,ans ho M (.int _)⟩
  | scr ns =>
    cases eb
    obtain ⟨a,rfl,h1⟩:=(Zd rv e (fun _ z=>by cases z)).vscr
    exact Za7 pins s σ H _ us Q I r ⟨_,_,rfl,.inl ⟨_,h1.sq,by simp⟩,ans ho M (.int _)⟩
  | _=>cases eb
theorem ZhN:J4 X (.type "int") (rN X.K xr (fBlt .int)):=by
  rintro pins s σ H xs us Q I r ⟨cm,m,ws,M,rws,ho⟩
  obtain ⟨w,v,t,rr,rfl,rfl,rv,e,eb,ho⟩:=blt1 rws (ZbL (by decide)) ho
  cases t with
  | int i =>
    cases eb
    cases (Zd rv e (fun _ z=>by cases z)).vint
    exact ZdN pins s σ H _ us Q I r (.inl ⟨_,rfl,ans ho M (.int _)⟩)
  | bl b =>
    cases eb
    cases (Zd rv e (fun _ z=>by cases z)).vbl
    exact ZdN pins s σ H _ us Q I r (.inr ⟨_,rfl,ans ho M (.int _)⟩)
  | str cs =>
    have eb:(if cs≠[]∧cs.length≤600∧cs.all (fun c=>decide (48≤c) && decide (c≤57))=true then some (T.int (figV cs)) else none)=some rr:=eb
    split at eb <;> cases eb
    rename_i hc
    cases (Zd rv e (fun _ z=>by cases z)).vstr
    obtain ⟨u,rfl,tt,rfl⟩:=vals1 r
    have hd:NumText.AllDigits (⟨cs.toArray⟩:Str).cps.toList:=fun c hcm=>by
      have:=List.all_eq_true.mp hc.2.2 c (by simpa using hcm)
      rw [Bool.and_eq_true] at this
      exact ⟨of_decide_eq_true this.1,of_decide_eq_true this.2⟩
    have ht:=PySem.intText_digits (x:=⟨cs.toArray⟩) hd (by simpa using hc.1) (by show cs.toArray.size≤_; rw [List.size_toArray]; omega)
    refine W.KIN.call_text ht (by show cs.toArray.size≤_; rw [List.size_toArray]; omega) ⟨.int (figV cs),H,I.tok _,⟨s.toks,?_⟩,ans ho M (.int _)⟩
    show Value.int _ _=Value.int (figV cs) _
    rw [show (⟨cs.toArray⟩:Str).cps.toList=cs from by simp]
    rfl
  | _=>cases eb
theorem Zi5 (cs:List Nat):RTs K cm m H (cs.map fun c=>T.str [c]) (cs.map fun c=>V.str ⟨#[c]⟩):=by
  induction cs with
  | nil=>exact .nil
  | cons c cs ih=>exact .cons (.str [c]) ih
theorem Zcd {x:Str}:∀ (cs:List Nat) (k:Nat) (vs:List Value),vs.length=cs.length→(∀ (j:Nat) (v:Value),vs[j]? = some v→∃ c u,cs[j]? = some c∧v=Value.str ⟨#[c]⟩ u)→Vals (cs.map fun c=>V.str ⟨#[c]⟩) vs
  | [],_,[],_,_=>.nil
  | [],_,_ :: _,h,_=>by simp at h
  | _ :: _,_,[],h,_=>by simp at h
  | c :: cs,k,v :: vs,hl,h=>by
    obtain ⟨c',u,e1,e2⟩:=h 0 v rfl
    cases e1
    exact .cons ⟨u,e2⟩ (Zcd (x:=x) cs k vs (by simpa using hl) fun j w hw=>h (j + 1) w (by simpa using hw))
theorem Zev (hcalm:X.calm=true):J4 X (.type "tuple") (rN X.K xr (fBlt .tuple)):=by
  rintro pins s σ H xs us Q I r ⟨cm,m,ws,M,rws,ho⟩
  obtain ⟨w,v,t,rr,rfl,rfl,rv,e,eb,ho⟩:=blt1 rws (ZbL (by decide)) ho
  cases t with
  | tup ts =>
    cases eb
    obtain ⟨a,vs,rfl,h1,r1⟩:=(Zd rv e (fun _ z=>by cases z)).itup
    exact Zag pins s σ H _ us Q I r ⟨a,vs,rfl,.inr ⟨h1,ans ho M (.mtup h1 r1)⟩⟩
  | lst ts =>
    cases eb
    obtain ⟨a,vs,rfl,h1,r1⟩:=ZG M rv e
    exact Zag pins s σ H _ us Q I r ⟨a,vs,rfl,.inl ⟨.of h1,fun l hl=>Zci ho M r1 hl⟩⟩
  | str cs =>
    change (if cs.length≤lim then some (T.tup (cs.map fun c=>T.str [c])) else none)=some rr at eb
    split at eb <;> cases eb
    rename_i hc
    cases (Zd rv e (fun _ z=>by cases z)).vstr
    obtain ⟨u,rfl,ru⟩:=vals1 r
    obtain ⟨tk,rfl⟩:=ru
    have hz:=ZV
    refine call_tuple_str (I.ok.hd hcalm) ⟨cs.toArray⟩ tk (fun h' tk' acc hk hit=>?_) (by show cs.toArray.size≤_; rw [List.size_toArray]; omega)
    obtain ⟨h1,h2⟩:=hit
    have I1:Inv X pins σ H { s with heap:=h',toks:=tk' }:=I.kept hk
    have rv2:Vals (cs.map fun c=>V.str ⟨#[c]⟩) acc.toList:=Zcd (x:=⟨cs.toArray⟩) cs 0 acc.toList (by simpa using h1) fun j w hw=>by
      obtain ⟨c,u,e1,e2⟩:=h2 j w (by simpa using hw)
      exact ⟨c,u,by simpa using e1,e2⟩
    refine ⟨.ref h'.objs.size,_,I1.laid (t':=tk') (o:=.tup (cs.map fun c=>V.str ⟨#[c]⟩)) (fun b ob q=>Heap.get?_push_of_some _ q) (Nat.le_refl _) ?_,rfl,Zci ho M (Zi5 cs) (I1.hok.fresh (Nat.le_refl _))⟩
    refine ⟨by rw [List.length_map]; omega,acc.toList,rv2,?_⟩
    have:=TupP.new h' acc.toList.toArray
    simpa using this
  | _=>cases eb
theorem RTs.bools:∀ {ts:List T} {vs:List V} {bs:List Bool},RTs K cm m H ts vs→bools? ts=some bs→vs=bs.map V.bl
  | [],_,_,.nil,e=>by cases e; rfl
  | t :: ts,_,bs,.cons r rs,e=>by
    cases t with
    | bl c =>
      unfold bools? at e
      cases q:bools? ts with
      | none=>rw [q] at e; cases e
      | some cs =>
        rw [q] at e; cases e
        cases RT.vbl r
        rw [RTs.bools rs q]
        rfl
    | _=>cases e
theorem Zaj:∀ {bs:List Bool} {us:List Value},Vals (bs.map V.bl) us→us=bs.map Value.bool
  | [],_,.nil=>rfl
  | b :: bs,_,.cons r rs=>by
    cases r
    rw [Zaj rs]
    rfl
theorem Zhe {s:Shared} {h':Heap} {o:Obj} (hk:∀ b x,b ∉ [s.heap.objs.size]→(s.heap.push o).get? b=some x→h'.get? b=some x):∀ b x,s.heap.get? b=some x→h'.get? b=some x :=
  fun b x e=>hk b x (fun hm=>by rw [List.mem_singleton.mp hm] at e; exact Nat.lt_irrefl _ (Heap.lt_size e)) (Heap.get?_push_of_some _ e)
theorem Zje {α:Type} (f:List α→Bool) (bs:List Bool) (d:Bool):(List.range bs.length).map (fun i=>(bs[i]?).getD d)=bs:=by
  apply List.ext_getElem?
  intro i
  rw [List.getElem?_map]
  by_cases h:i < bs.length
  · rw [List.getElem?_range h]; simp [h]
  · simp [h]
theorem ZhO (hc:X.calm=true):J4 X (.builtin "all") (rN X.K xr (fBlt .all)):=by
  rintro pins s σ H xs us Q I r ⟨cm,m,ws,M,rws,ho⟩
  obtain ⟨w,v,t,rr,rfl,rfl,rv,e,eb,ho⟩:=blt1 rws (ZbL (by decide)) ho
  cases t with
  | lst ts =>
    have eb:(bools? ts).map (fun bs=>T.bl (bs.all id))=some rr:=eb
    cases q:bools? ts with
    | none=>rw [q] at eb; cases eb
    | some bs =>
      rw [q] at eb; cases eb
      obtain ⟨a,vs,rfl,h1,r1⟩:=ZG M rv e
      obtain ⟨u,rfl,ru⟩:=vals1 r
      cases ru
      obtain ⟨its,rv',pl,hz⟩:=I.list (.of h1)
      cases RTs.bools r1 q
      cases Zaj rv'
      have hl:=pl.isList
      have hlt:a < s.heap.objs.size:=by obtain ⟨_,e,_⟩:=hl; exact Heap.lt_size e
      refine call_all_walk (wpAny_pyIter_list hl ?_)
      refine ⟨s.heap.objs.size,[s.heap.objs.size,a],[s.heap.objs.size],(bs.map Value.bool).toArray.size,_,_,fun i=>(bs[i]?).getD true,rfl,Walks.list (A:=X.A.in1) (I.ok.hd hc) _ a (Nat.ne_of_lt hlt) (bs.map Value.bool).toArray,
        ⟨⟨_,Heap.get?_push_size _ rfl,rfl,rfl⟩,hl.push _⟩,fun i v s' Q' E' hP hQ=>?_,fun h' tk hk=>?_⟩
      · have hP':(bs.map Value.bool)[i]? = some v:=by simpa using hP
        rw [List.getElem?_map] at hP'
        cases qq:bs[i]? with
        | none=>rw [qq] at hP'; cases hP'
        | some b =>
          rw [qq] at hP'; cases hP'
          dsimp only at hQ
          rw [qq] at hQ
          exact wpAny_truthy_bool hQ
      · have e:((List.range (bs.map Value.bool).toArray.size).all fun i=>(bs[i]?).getD true)=bs.all id:=by
          rw [List.size_toArray,List.length_map]
          have:=congrArg (fun l=>l.all id) (Zje (α:=Nat) (fun _=>true) bs true)
          rw [← this,List.all_map]
          rfl
        rw [e]
        exact ⟨.bl _,H,I.kept (Zhe hk),rfl,ans ho M (.bl _)⟩
  | tup ts =>
    have eb:(bools? ts).map (fun bs=>T.bl (bs.all id))=some rr:=eb
    cases q:bools? ts with
    | none=>rw [q] at eb; cases eb
    | some bs =>
      rw [q] at eb; cases eb
      obtain ⟨a,vs,rfl,h1,r1⟩:=RT.itup (Zd rv e (fun _ z=>by cases z))
      obtain ⟨u,rfl,ru⟩:=vals1 r
      cases ru
      obtain ⟨its,rv',pl,hz⟩:=I.tuple h1
      cases RTs.bools r1 q
      cases Zaj rv'
      have hl:s.heap.IsTuple a (bs.map Value.bool).toArray:=pl
      have hlt:a < s.heap.objs.size:=by obtain ⟨_,e,_⟩:=hl; exact Heap.lt_size e
      refine call_all_walk (wpAny_pyIter_tuple hl ?_)
      refine ⟨s.heap.objs.size,[s.heap.objs.size,a],[s.heap.objs.size],(bs.map Value.bool).toArray.size,_,_,fun i=>(bs[i]?).getD true,rfl,Walks.tuple (A:=X.A.in1) (I.ok.hd hc) _ a (Nat.ne_of_lt hlt) (bs.map Value.bool).toArray,
        ⟨⟨_,Heap.get?_push_size _ rfl,rfl,rfl⟩,(show Heap.IsTuple (s.heap.push _) a _ from let ⟨o,ho,r⟩:=hl; ⟨o,Heap.get?_push_of_some _ ho,r⟩)⟩,fun i v s' Q' E' hP hQ=>?_,fun h' tk hk=>?_⟩
      · have hP':(bs.map Value.bool)[i]? = some v:=by simpa using hP
        rw [List.getElem?_map] at hP'
        cases qq:bs[i]? with
        | none=>rw [qq] at hP'; cases hP'
        | some b =>
          rw [qq] at hP'; cases hP'
          dsimp only at hQ
          rw [qq] at hQ
          exact wpAny_truthy_bool hQ
      · have e:((List.range (bs.map Value.bool).toArray.size).all fun i=>(bs[i]?).getD true)=bs.all id:=by
          rw [List.size_toArray,List.length_map]
          have:=congrArg (fun l=>l.all id) (Zje (α:=Nat) (fun _=>true) bs true)
          rw [← this,List.all_map]
          rfl
        rw [e]
        exact ⟨.bl _,H,I.kept (Zhe hk),rfl,ans ho M (.bl _)⟩
  | _=>cases eb
end
end Mi
end
section
namespace Mi
open PySem PySem.Spec PyProof.Rows L2
section
variable {K:PySem.W.Frag} {cm:List Addr} {m:Mem} {H:Hp} {xr:XR} {X:Cx} {call:Nat→List W→Mem→Res W} {gv:List T}
variable {a b c e:Expr} {es:List Expr} {ea eb ec:E} {eas:Es} {pos p p2:Pos}
noncomputable def tyN:Ty→String
  | .int=>"int"
  | .bool=>"bool"
  | .str=>"str"
  | .tuple=>"tuple"
  | .list=>"list"
  | .dict=>"dict"
noncomputable def tyT:T→String
  | .non=>"NoneType"
  | .bl _=>"bool"
  | .int _=>"int"
  | .str _=>"str"
  | .tup _=>"tuple"
  | .lst _=>"list"
  | .dct _ _=>"dict"
  | .scr _=>"list"
theorem ZkB (t:T) (ty:Ty):PySem.W.kitOne K (.type (tyT t)) (.type (tyN ty))=some (isT t ty):=by cases t <;> cases ty <;> rfl
theorem ZkH {pins:List (Addr×Obj)} {σ:L2.St} {s:Shared} {A:Around} {E:Value→Shared→Prop} {Q:Value→Shared→Prop} {w:W} {v:V} {u:Value} {t:T} {ty:Ty} (I:Inv X pins σ H s) (M:MemR X.K cm m H) (rx:RelV v u) (r:RW X.K cm m H w v) (ew:view w m=some t) (h:∀ tk,Q (.bool (isT t ty)) { s with toks:=tk }) :
    wpAny (model X.prog X.w) A (PySem.call (.builtin "isinstance") [u,.type (tyN ty)]) Q E s:=by
  have k:=ZkB (K:=X.K) t ty
  have onL:∀ (a:Addr) (vs:List V),v = .ref a→SqL X.K H a vs→tyT t = "list"→wpAny (model X.prog X.w) A (PySem.call (.builtin "isinstance") [u,.type (tyN ty)]) Q E s:=fun a vs e hq et=>by
    subst e
    cases rx
    obtain ⟨its,_,pl,_⟩:=I.list hq
    obtain ⟨o,n,e,c,_⟩:=pl
    rw [et] at k
    exact PySem.W.kia_one PySem.W.kitx_list I.kIn ⟨o,e,c⟩ k (fun z=>nomatch z) h
  cases t with
  | non=>cases (Zd r ew (fun _ z=>by cases z)).vnon; exact Xa I rx .non k h
  | bl y=>cases (Zd r ew (fun _ z=>by cases z)).vbl; exact Xa I rx (.bl y) k h
  | int i=>cases (Zd r ew (fun _ z=>by cases z)).vint; exact Xa I rx (.int i) k h
  | str cs=>cases (Zd r ew (fun _ z=>by cases z)).vstr; exact Xa I rx (.str _) k h
  | tup ts =>
    obtain ⟨a,vs,rfl,h1,_⟩:=(Zd r ew (fun _ z=>by cases z)).itup
    cases rx
    obtain ⟨its,_,p,_⟩:=I.tuple h1
    obtain ⟨o,h1,h2,_⟩:=p
    exact PySem.W.kia_one PySem.W.kitx_tuple I.kIn ⟨o,h1,h2⟩ k (fun z=>nomatch z) h
  | lst ts =>
    obtain ⟨a,vs,e,h1,_⟩:=ZG M r ew
    exact onL a vs e (.of h1) rfl
  | scr ns =>
    obtain ⟨a,e,h1⟩:=(Zd r ew (fun _ z=>by cases z)).vscr
    exact onL a _ e h1.sq rfl
  | dct ks ts =>
    have r':=Zd r ew (fun _ z=>by cases z)
    cases r' with
    | dct q1 q2 q3 q4 q5=>exact Xa I rx (.dK q1) k h
noncomputable def fIsi (ty:Ty) (w:W) (m:Mem):Res W:=pur ((view w m).map fun x=>.bl (isT x ty)) m
theorem Zja {ty:Ty}:J4 X (.builtin "isinstance") (fun xs H Q=>∃ x,xs=[x,.ty (tyN ty)]∧r1 X.K xr (fIsi ty) x H Q):=by
  rintro pins s σ H xs us Q I r ⟨x,e,cm,m,w,M,rw',ho⟩
  subst e
  obtain ⟨u1,u2,rfl,ru1,ru2⟩:=vals2 r
  cases (show u2=Value.type (tyN ty) from ru2)
  obtain ⟨t,et,ho⟩:=QD ho
  cases q:view w m with
  | none=>rw [q] at et; cases et
  | some tw =>
    rw [q] at et; cases et
    exact ZkH I M ru1 rw' q fun tk=>⟨.bl _,H,I.tok _,rfl,ans ho M (.bl _)⟩
theorem Zkd {ty:Ty} {x:Str} (ha:PE X a (tE X.K call gv xr ea)) (hg:Gl X "isinstance") (hm:X.mg "isinstance" = none) (hgT:Gl X x) (hmT:X.mg x=none) (hv:bootBuiltins x=some (.type (tyN ty)))
    (hn:x≠"__name__":=by decide) (hd:(x == ("__debug__" : Str))=false:=by decide)
    (hs:notStar a=true:=by rfl) :
    PE X (.Call (.Name "isinstance" p) [a,.Name x p2] [] pos) (tE X.K call gv xr (.isi ea ty)):=by
  refine PE.mono (Za1 (Zja (ty:=ty) (xr:=xr)) hg hm (by decide +kernel) (J7 ha (J7 (ZgK (v:=.ty (tyN ty)) hgT hmT hv rfl hn hd) Zdc (Qv rfl)) (Qv hs)) (by decide) (by decide) (Qv hs) (Xl rfl)) ?_
  rintro σ H Q ⟨env,cm,m,hE,M,ho⟩
  rw [ev] at ho
  exact ⟨env,cm,m,hE,M,ho.bind.mono fun w cm1 m1 H1 x1 M1 o1 v rv=>⟨v,rfl,cm1,m1,w,M1,rv,o1⟩⟩
noncomputable def rM (K:PySem.W.Frag) (xr:XR) (b:Mt):V→List V→Hp→VK→Prop:=fun x xs H Q=>∃ cm m w ws,MemR K cm m H∧RW K cm m H w x∧RWs K cm m H ws xs∧OkR K (doM b w ws m) xr cm m H fun w cm' m' H'=>∀ v,RW K cm' m' H' w v→Q v H'
theorem Zem (sep:List Nat):∀ xs:List (List Nat),Str.join ⟨sep.toArray⟩ (xs.map fun c=>(⟨c.toArray⟩:Str))=⟨(QS sep xs).toArray⟩
  | []=>rfl
  | [x]=>rfl
  | x :: y :: r=>by
    show (⟨x.toArray⟩:Str)++⟨sep.toArray⟩++Str.join ⟨sep.toArray⟩ ((y :: r).map fun c=>(⟨c.toArray⟩:Str))=⟨(x++sep++QS sep (y :: r)).toArray⟩
    rw [Zem sep (y :: r),Zgj,Zgj]
theorem RTs.strs:∀ {ts:List T} {vs:List V} {bs:List (List Nat)},RTs K cm m H ts vs→strs? ts=some bs→vs=bs.map fun c=>V.str ⟨c.toArray⟩
  | [],_,_,.nil,e=>by cases e; rfl
  | t :: ts,_,bs,.cons r rs,e=>by
    cases t with
    | str c =>
      unfold strs? at e
      cases q:strs? ts with
      | none=>rw [q] at e; cases e
      | some cs =>
        rw [q] at e; cases e
        cases RT.vstr r
        rw [RTs.strs rs q]
        rfl
    | _=>cases e
theorem Zba:∀ {bs:List (List Nat)} {us:List Value},Vals (bs.map fun c=>V.str ⟨c.toArray⟩) us→StrsAre us (bs.map fun c=>(⟨c.toArray⟩:Str))
  | [],_,.nil=>.nil
  | b :: bs,_,.cons ⟨t,e⟩ rs=>by
    cases e
    exact .cons _ t (Zba rs)
theorem XH {ws:List W} {t:T} (h:views ws m=some [t]):∃ w,ws=[w]∧view w m=some t:=by
  cases ws with
  | nil=>cases h
  | cons w ws =>
    unfold views at h
    cases q1:view w m with
    | none=>rw [q1] at h; cases h
    | some t1 =>
      rw [q1] at h
      have h:(views ws m).map (t1 :: ·)=some [t]:=h
      cases q2:views ws m with
      | none=>rw [q2] at h; cases h
      | some ts =>
        rw [q2] at h
        cases h
        cases ws with
        | nil=>exact ⟨w,rfl,by rw [q1]⟩
        | cons w2 ws =>
          unfold views at q2
          cases q3:view w2 m with
          | none=>rw [q3] at q2; cases q2
          | some t3 =>
            rw [q3] at q2
            cases q4:views ws m with
            | none=>rw [q4] at q2; cases q2
            | some t4=>rw [q4] at q2; cases q2
theorem Zg2 {b:Mt} {w:W} {ws:List W} {k:W→List Addr→Mem→Hp→Prop} (h:OkR K (pur ((view w m).bind fun x=>(views ws m).bind fun ts=>mthT b x ts) m) xr cm m H k):∃ x ts t,view w m=some x∧views ws m=some ts∧mthT b x ts=some t∧OkR K (.ok (.t t) m) xr cm m H k:=by
  obtain ⟨t,e,ho⟩:=QD h
  cases q1:view w m with
  | none=>rw [q1] at e; cases e
  | some x =>
    cases q2:views ws m with
    | none=>rw [q1,q2] at e; cases e
    | some ts=>rw [q1,q2] at e; exact ⟨x,ts,t,rfl,rfl,e,ho⟩
theorem ZiO:MtR X "str.join" (rM X.K xr .join):=by
  rintro pins s σ H x xs v us Q I rx rs ⟨cm,m,w,ws,M,rw',rws,ho⟩
  obtain ⟨tw,ts,t,q1,q2,e,hz9⟩:=Zg2 (b:=.join) ho
  clear ho
  cases tw with
  | str sep =>
    match ts,e,q2 with
    | [.lst ys],e,q2 =>
      have e:((strs? ys).bind fun zs=>if (zs.map List.length).sum + zs.length * sep.length≤lim then some (T.str (QS sep zs)) else none)=some t:=e
      cases q3:strs? ys with
      | none=>rw [q3] at e; cases e
      | some zs =>
        rw [q3] at e
        have e:(if (zs.map List.length).sum + zs.length * sep.length≤lim then some (T.str (QS sep zs)) else none)=some t:=e
        split at e <;> cases e
        rename_i hc
        obtain ⟨w1,rfl,q4⟩:=XH q2
        cases rws with
        | cons rv r0 =>
          cases r0
          cases (Zd rw' q1 (fun _ z=>by cases z)).vstr
          obtain ⟨tt,rfl⟩:=rx
          obtain ⟨a,vs,rfl,h1,r1⟩:=ZG M rv q4
          obtain ⟨u,rfl,ru⟩:=vals1 rs
          cases ru
          obtain ⟨its,rv',pl,hz⟩:=I.list (.of h1)
          cases RTs.strs r1 q3
          refine join_list pl.isList (Zba rv') ?_ fun t' k=>?_
          · rw [List.map_map,J5,List.length_map]
            have e5:((fun x:Str=>x.length) ∘ fun c:List Nat=>(⟨c.toArray⟩:Str))=List.length:=by funext c; exact J5 c
            have e6:(lim:Nat)≤16777216:=by decide
            rw [e5]
            omega
          · refine ⟨.str ⟨(QS sep zs).toArray⟩,H,I.tok _,⟨t',?_⟩,ans hz9 M (.str _)⟩
            show Value.str (Txt.join _ _) t' = _
            unfold Txt.join
            rw [StrLaws.glued_eq_join,Zem]
    | [],e,_=>cases e
    | [.non],e,_=>cases e
    | [.bl _],e,_=>cases e
    | [.int _],e,_=>cases e
    | [.str _],e,_=>cases e
    | [.tup _],e,_=>cases e
    | [.dct _ _],e,_=>cases e
    | [.scr _],e,_=>cases e
    | x1 :: _ :: _,e,_=>cases x1 <;> cases e
  | _=>cases e
theorem ty_str {w:W} {v:V} {b:Mt} (hb:b = .join∨b = .upper) (r:RW K cm m H w v) (h:tyM b w m=true):tyV K "str" v H:=by
  have h':(match view w m with | some (.str _)=>true | _=>false)=true:=by
    rcases hb with rfl | rfl <;> exact h
  split at h'
  · rename_i cs e
    cases (Zd r e (fun _ z=>by cases z)).vstr
    rfl
  · cases h'
theorem few1 {cpos:Pos} (hs:notStar e=true):((backTo cpos (starEach [e] X.env)).all (fun x=>!x.1) && (backToKw cpos (keywordEach [] X.env)).all (fun x=>x.1.isSome)
      && decide ([e].length + ([]:List Keyword).length + (if ([]:List Keyword).isEmpty then 0 else 1) < 30))=true:=by
  rw [Zgl (by rw [List.all_cons,hs]; rfl)]
  rfl
theorem ZeK {o:Expr} {apos cpos:Pos} (ho:PE X o (tE X.K call gv xr ea)) (ha:PA X [e] (tA X.K call gv xr eas))
    (hbase:attributeBase o "join" X.env (eval o X.env)=eval o X.env:=by rfl)
    (hline:(apos.endLine == cpos.line)=true:=by rfl) (hs:notStar e=true:=by rfl) :
    PE X (.Call (.Attribute o "join" apos) [e] [] cpos) (tE X.K call gv xr (.mth .join ea eas)):=by
  refine PE.mono (ZiF PySem.F.plainAttrs_str PySem.F.slot_str_join PySem.F.type_str_join (ZiO (xr:=xr)) ho ha hbase (few1 hs) hline (Qv hs) (Xl rfl)) ?_
  rintro σ H Q ⟨env,cm,m,hE,M,hq⟩
  rw [ev] at hq
  refine ⟨env,cm,m,hE,M,hq.bind.mono fun w cm1 m1 H1 x1 M1 o1 v rv=>?_⟩
  obtain ⟨ht,o1⟩:=Zbx o1
  refine ⟨ty_str (.inl rfl) rv ht,env,cm1,m1,hE.ext x1 M M1,M1,o1.bind.mono fun ws cm2 m2 H2 x2 M2 o2 vs rvs=>?_⟩
  exact ⟨cm2,m2,w,ws,M2,rv.ext x2 M1 M2,rvs,o2⟩
structure At (X:Cx) (call:Nat→List W→Mem→Res W) (gv:List T) (e:Expr) (a:E) (f:L2.St→Option V):Prop where
  pe:PE X e (fun σ H Q=>∃ v,f σ=some v∧Q v H)
  rd:∀ env cm m H σ,EnvR X.K cm m H env σ→(∃ w v,ev call gv a env m = .ok w m∧f σ=some v∧RW X.K cm m H w v)∨ev call gv a env m = .stuck
theorem Zfp {tg:Expr} (hg:Gl X "range") (hm:X.mg "range" = none) (ha:PA X [a] (tA X.K call gv xr eas)) (hs:notStar a=true:=by rfl):PI X tg (.Call (.Name "range" p) [a] [] pos) (tI X.K call gv xr (.blt .range1 eas)):=by
  refine PI.mono (ZgC hg hm ha (Qv hs)) ?_
  rintro σ H R ⟨env,cm,m,hE,M,ho⟩
  rw [ev] at ho
  refine ⟨env,cm,m,hE,M,ho.bind.mono fun ws cm1 m1 H1 x1 M1 o1 vs rvs=>?_⟩
  obtain ⟨w,v,t,rr,rfl,rfl,rv,e,eb,o2⟩:=blt1 (b:=.range1) rvs (ZbL (by decide)) o1
  cases t with
  | int i =>
    change (if i < 2 ^ 62∧-(2 ^ 62)≤i then some (T.lst (rangeT 0 i.toNat)) else none)=some rr at eb
    split at eb <;> cases eb
    rename_i hc
    cases (Zd rv e (fun _ z=>by cases z)).vint
    obtain ⟨ts,m2,q1,q2⟩:=OkR.now o2 M1
    cases q1
    exact ⟨_,rfl,hc.2,hc.1,q2 _ (.rng 0 _)⟩
  | _=>cases eb
end
end Mi
end
section
namespace Mi
open PySem PySem.Spec PyProof.Rows L2
section
variable (K:PySem.W.Frag) (call:Nat→List W→Mem→Res W) (gv:List T) (xr:XR)
noncomputable def ZaX (n:Nat) (D:Ends) (fl:Flow) (cm:List Addr) (m:Mem) (H:Hp):Prop:=match fl with
  | .next env=>∀ σ:L2.St,σ.length=n→EnvR K cm m H env σ→D.nx σ H
  | .ret w=>∀ v,RW K cm m H w v→D.rt v H
  | .brk env=>∀ σ:L2.St,σ.length=n→EnvR K cm m H env σ→D.bk σ H
  | .cont env=>∀ σ:L2.St,σ.length=n→EnvR K cm m H env σ→D.ct σ H
noncomputable def tS (n:Nat) (s:S):TS:=fun D σ H=>σ.length=n∧∃ env cm m,EnvR K cm m H env σ∧MemR K cm m H∧OkR K (ex call gv s env m) xr cm m H fun fl cm' m' H'=>ZaX K n D fl cm' m' H'
end
section
variable {K:PySem.W.Frag} {cm:List Addr} {m:Mem} {H:Hp} {xr:XR} {X:Cx} {call:Nat→List W→Mem→Res W} {gv:List T}
variable {a b c e:Expr} {es:List Expr} {ea eb ec:E} {eas:Es} {pos p p2:Pos} {rest:List Stmt} {k:S} {n:Nat}
theorem PSs.mono {sts:List Stmt} {t t':TS} (h:PSs X sts t) (f:∀ D σ H,t' D σ H→t D σ H):PSs X sts t':=fun pins s σ H D I q=>h pins s σ H D I (f D σ H q)
theorem PS.mono {st:Stmt} {t t':TS} (h:PS X st t) (f:∀ D σ H,t' D σ H→t D σ H):PS X st t':=fun pins s σ H D I q=>h pins s σ H D I (f D σ H q)
theorem Zim:PSs X [] (tS X.K call gv xr n .done):=PSs.mono Zgw fun D σ H ⟨hl,env,cm,m,hE,M,ho⟩=>by
  rw [ex] at ho
  exact OkR.now ho M σ hl hE
theorem Zil (h:PE X e (tE X.K call gv xr ea)):PSs X (.Return (some e) pos :: rest) (tS X.K call gv xr n (.ret ea k)):=PSs.mono (QJ (ps_ret h) Zgx) fun D σ H ⟨hl,env,cm,m,hE,M,ho⟩=>by
  rw [ex] at ho
  exact ⟨env,cm,m,hE,M,ho.bind.mono fun w cm1 m1 H1 x1 M1 o1 v rv=>OkR.now o1 M1 v rv⟩
theorem Zgy (h:PE X e (tE X.K call gv xr ea)) (hk:PSs X rest (tS X.K call gv xr n k)) (hs:swapsWith e none pos.line X.env=pure false:=by rfl):PSs X (.Expr e pos :: rest) (tS X.K call gv xr n (.expr ea k)):=PSs.mono (QJ (ZjZ h hs) hk) fun D σ H ⟨hl,env,cm,m,hE,M,ho⟩=>by
  rw [ex] at ho
  exact ⟨env,cm,m,hE,M,ho.bind.mono fun w cm1 m1 H1 x1 M1 o1 v rv=>⟨hl,env,cm1,m1,hE.ext x1 M M1,M1,o1⟩⟩
theorem Zip {i:Nat} {x:Str} {px:Pos} (hN:X.N.Nodup) (hn:X.N.length=n) (hi:X.N[i]? = some x) (hx:Loc X.env.scope x) (h:PE X e (tE X.K call gv xr ea)) (hk:PSs X rest (tS X.K call gv xr n k))
    (hs:swapsWith e (some (.Name x px)) pos.line X.env=pure false:=by rfl) (hf:X.fn x=true∨X.env.scope.names.lookup x=some .local:=by first | exact .inl rfl | exact .inr rfl | assumption):PSs X (.Assign [.Name x px] e pos :: rest) (tS X.K call gv xr n (.asg i ea k)):=PSs.mono (QJ (ps_set hN hi hx h hs hf) hk) fun D σ H ⟨hl,env,cm,m,hE,M,ho⟩=>by
  rw [ex] at ho
  have hi':i < σ.length:=by rw [hl,← hn]; exact (List.getElem?_eq_some_iff.mp hi).1
  exact ⟨env,cm,m,hE,M,ho.bind.mono fun w cm1 m1 H1 x1 M1 o1 v rv=>⟨by rw [List.length_set]; exact hl,env.set i (some w),cm1,m1,EnvR.set (hE.ext x1 M M1) rv i hi',M1,o1⟩⟩
theorem Zik {o i v:Expr} {eo ei ev':E} {tp:Pos} (hv:PE X v (tE X.K call gv xr ev')) (ho:PE X o (tE X.K call gv xr eo)) (hi:PE X i (tE X.K call gv xr ei)) (hk:PSs X rest (tS X.K call gv xr n k))
    (ha:∀ v,assign (.Subscript o i tp) X.env v=(do
      let ov ← holding [v] (eval o X.env)
      let iv ← holding [v,ov] (eval i X.env)
      standAt tp
      holding [v,ov,iv] (setItem ov iv v)
      release [v,ov,iv] []):=by intro _; rfl)
    (hs:swapsWithSole [.Subscript o i tp] v pos.line X.env=pure false:=by rfl) (hw:swappedStores [.Subscript o i tp] v X.env=pure none:=by rfl)
    (h1:(assignEach [.Subscript o i tp] X.env).map (·.2)=[assign (.Subscript o i tp) X.env]:=by rfl):PSs X (.Assign [.Subscript o i tp] v pos :: rest) (tS X.K call gv xr n (.set eo ei ev' k)) :=
  PSs.mono (QJ (Zjh hv (pg_sub ho hi set_list ha) hs hw h1) hk) fun D σ H ⟨hl,env,cm,m,hE,M,hq⟩=>by
    rw [ex] at hq
    refine ⟨env,cm,m,hE,M,hq.bind.mono fun z cm1 m1 H1 x1 M1 o1 vz rz=>?_⟩
    refine ⟨env,cm1,m1,hE.ext x1 M M1,M1,o1.bind.mono fun x cm2 m2 H2 x2 M2 o2 vx rx=>?_⟩
    refine ⟨env,cm2,m2,(hE.ext x1 M M1).ext x2 M1 M2,M2,o2.bind.mono fun y cm3 m3 H3 x3 M3 o3 vy ry=>?_⟩
    unfold setM at o3
    split at o3
    · rename_i cc kk
      cases q:frz z m3 with
      | stuck=>rw [q] at o3; exact o3.elim
      | exc e' m'=>exact absurd q ZdD
      | ok t m4 =>
        rw [q] at o3
        obtain ⟨x4,M4,r4⟩:=Zho M3 ((rz.ext x2 M1 M2).ext x3 M2 M3) q
        have rx':RW X.K cm3 m4 H3 (.c cc) vx:=(rx.ext x3 M2 M3).ext x4 M3 M4
        cases RT.vint ry
        obtain ⟨a,ha1,rfl⟩:=rx'
        have o3:OkR X.K ((match m4[cc]? with
          | some (some (false,xs))=>match ixOf xs.length kk with
            | some j=>Res.ok () (m4.set cc (some (false,xs.set j t)))
            | none=>.stuck
          | _=>.stuck).bind fun _ m=>ex call gv k env m) xr cm3 m3 H3 _:=o3
        split at o3
        · rename_i xs e1
          split at o3
          · rename_i j e2
            obtain ⟨b,vs,q1,q2,q3,q4⟩:=M4.at' cc _ e1
            rw [ha1] at q1; cases q1
            have l4:=q4.length
            dsimp only at l4
            obtain ⟨x5,M5⟩:=Zch M4 e1 ha1 (Zb3 r4 j q4)
            refine ⟨a,vs,kk,j,rfl,rfl,q2,by rw [← l4]; exact e2,?_⟩
            have xx:=(x4.trans x5)
            exact ⟨hl,env,cm3,_,(((hE.ext x1 M M1).ext x2 M1 M2).ext x3 M2 M3).ext xx M3 M5,M5,OkR.shift (show OkR X.K (ex call gv k env _) xr cm3 m3 H3 _ from o3) xx⟩
          · exact o3.elim
        · exact o3.elim
    · exact o3.elim
theorem bind_assoc {α β γ:Type} (r:Res α) (f:α→Mem→Res β) (g:β→Mem→Res γ):(r.bind f).bind g=r.bind fun a m=>(f a m).bind g:=by cases r <;> rfl
theorem ZjX {A B:List Stmt} {sa sb:S} (hc:PT X c (tT X.K call gv xr ec)) (ha:PSs X A (tS X.K call gv xr n sa)) (hb:PSs X B (tS X.K call gv xr n sb)) (hk:PSs X rest (tS X.K call gv xr n k)):PSs X (.If c A B pos :: rest) (tS X.K call gv xr n (.ife ec sa sb k)) :=
  PSs.mono (QJ (ps_if hc ha hb) hk) fun D σ H ⟨hl,env,cm,m,hE,M,ho⟩=>by
    rw [ex,← bind_assoc] at ho
    refine ⟨env,cm,m,hE,M,ho.bind.mono fun t cm1 m1 H1 x1 M1 o1=>?_⟩
    have go:∀ s:S,OkR X.K ((ex call gv s env m1).bind fun fl m=>match fl with | .next env=>ex call gv k env m | fl=>.ok fl m) xr cm1 m1 H1 (fun fl cm' m' H'=>ZaX X.K n D fl cm' m' H')→tS X.K call gv xr n s { D with nx:=tS X.K call gv xr n k D } σ H1:=fun s o=>by
      refine ⟨hl,env,cm1,m1,hE.ext x1 M M1,M1,o.bind.mono fun fl cm2 m2 H2 x2 M2 o2=>?_⟩
      cases fl with
      | next env'=>exact fun σ' hl' hE'=>⟨hl',env',cm2,m2,hE',M2,o2⟩
      | ret w=>exact OkR.now (xr:=xr) (a:=Flow.ret w) o2 M2
      | brk env'=>exact OkR.now (xr:=xr) (a:=Flow.brk env') o2 M2
      | cont env'=>exact OkR.now (xr:=xr) (a:=Flow.cont env') o2 M2
    cases t with
    | true=>exact iteT (go sa o1)
    | false=>exact iteF (go sb o1)
theorem XJ:∀ (is:List Nat) (vs:List V) (σ:L2.St),(setAll is vs σ).length=σ.length
  | [],_,_=>by unfold setAll; rfl
  | _ :: _,[],_=>by unfold setAll; rfl
  | i :: is,v :: vs,σ=>by unfold setAll; rw [XJ,List.length_set]
theorem Zjp {tg:Tg} {v:V} {σ:L2.St} {Q:L2.St→Hp→Prop} (h:gT K tg v σ H Q):gT K tg v σ H fun σ' H'=>σ'.length=σ.length∧Q σ' H':=by
  cases tg with
  | nm i=>exact ⟨List.length_set,h⟩
  | tp is =>
    obtain ⟨a,xs,h1,h2,h3,h4⟩:=h
    exact ⟨a,xs,h1,h2,h3,XJ _ _ _,h4⟩
theorem EnvR.same {cm:List Addr} {m m':Mem} {H:Hp} {env:Env} {σ:L2.St} (h:EnvR K cm m H env σ) (f:∀ t v,RT K cm m H t v→RT K cm m' H t v):EnvR K cm m' H env σ:=fun i w e=>by
  obtain ⟨v,h1,h2⟩:=h i w e
  refine ⟨v,h1,?_⟩
  cases w with
  | t t=>exact f t v h2
  | f a=>exact h2
  | x _ _ _=>exact XF.wsame f h2
  | c i=>exact h2
theorem Zin {tgt iter:Expr} {body:List Stmt} {tg:Tg} {it:E} {sb:S} (hc:X.calm=true) (hp:PassesOwn (model X.prog X.w) X.A X.env X.xe) (hi:PI X tgt iter (tI X.K call gv xr it)) (hg:PG X tgt (gT X.K tg)) (ht:∀ i∈tgS tg,i < n)
    (hb:PSs X body (tS X.K call gv xr n sb)) (hk:PSs X rest (tS X.K call gv xr n k)) (hs:∀ x,foldedSetIterable iter X.env x=pure x:=by intro _; rfl):PSs X (.For tgt iter body [] pos :: rest) (tS X.K call gv xr n (.forr tg it sb k)) :=
  PSs.mono (QJ (ps_for hp hc hi hg hb hs) hk) fun D σ0 H0 ⟨hl0,env0,cm0,m0,hE0,M0,ho⟩=>by
    rw [ex] at ho
    refine ⟨env0,cm0,m0,hE0,M0,ho.bind.mono fun x cm1 m1 H1 x1 M1 o1=>?_⟩
    cases hbr:Qd x m1 with
    | stuck=>rw [hbr] at o1; exact o1.elim
    | exc e' m' =>
      exfalso
      unfold Qd at hbr
      split at hbr <;> first | (cases hbr; done) | (split at hbr <;> cases hbr)
    | ok ts m2 =>
      rw [hbr] at o1
      obtain ⟨xb,Mb⟩:=ZbJ M1 hbr
      let g:Flow→Mem→Res Flow:=fun fl m=>match fl with
        | .next env=>ex call gv k env (giveBack x m1 m)
        | .ret w=>.ok (.ret w) (giveBack x m1 m)
        | _=>.stuck
      have o1:OkR X.K ((Ja (fun env m=>ex call gv sb env m) tg ts env0 m2).bind g) xr cm1 m1 H1 (fun fl cm' m' H'=>ZaX X.K n D fl cm' m' H'):=o1
      refine ⟨ts,m2,rfl,fun J hJ=>?_⟩
      let P:Flow→List Addr→Mem→Hp→Prop:=fun fl _ m' _=>OkR X.K (g fl m') xr cm1 m1 H1 (fun fl cm' m' H'=>ZaX X.K n D fl cm' m' H')
      -- behind the walk
      have fin:∀ env cm m H σ,σ.length=n→EnvR X.K cm m H env σ→MemR X.K cm m H→Ext cm1 m2 H1 cm m H→P (.next env) cm m H→tS X.K call gv xr n k D σ H:=fun env cm m H σ hl hE M xx hP=>by
        obtain ⟨xg,Mg,fg⟩:=Zaa M1 hbr xx M
        exact ⟨hl,env,cm,_,EnvR.same hE fg,Mg,OkR.shift (show OkR X.K (ex call gv k env (giveBack x m1 m)) xr cm1 m1 H1 _ from hP) xg⟩
      refine ⟨fun i μ σ H=>μ=ts.length - i∧σ.length=n∧∃ env cm m,EnvR X.K cm m H env σ∧MemR X.K cm m H∧Ext cm1 m2 H1 cm m H∧OkR X.K (Ja (fun env m=>ex call gv sb env m) tg (ts.drop i) env m) xr cm m H P,⟨ts.length - 0,rfl,hl0,env0,cm1,m2,(hE0.ext x1 M0 M1).ext xb M1 Mb,Mb,.refl,?_⟩,?_⟩
      · rw [List.drop_zero]
        exact OkR.shift o1.bind0 xb
      · rintro i μ σ H ⟨rfl,hl,env,cm,m,hE,M,xx,hq⟩
        have sJ:=hJ.ext xx Mb M
        cases e:ts[i]? with
        | none =>
          have ed:ts.drop i=[]:=List.drop_eq_nil_iff.mpr (List.getElem?_eq_none_iff.mp e)
          rw [ed,Ja] at hq
          exact .inl ⟨sJ.stop M e,fin env cm m H σ hl hE M xx (OkR.now hq M)⟩
        | some t =>
          have hlt:=(List.getElem?_eq_some_iff.mp e).1
          have ed:ts.drop i=t :: ts.drop (i + 1):=by
            rw [List.drop_eq_getElem_cons hlt]
            rw [(List.getElem?_eq_some_iff.mp e).2]
          rw [ed,Ja] at hq
          obtain ⟨go,hy⟩:=sJ.go M e
          refine .inr ⟨go,fun σ' H'=>σ'.length=n∧∃ env cm m,EnvR X.K cm m H' env σ'∧MemR X.K cm m H'∧Ext cm1 m2 H1 cm m H'∧OkR X.K (Ja (fun env m=>ex call gv sb env m) tg (ts.drop (i + 1)) env m) xr cm m H' P,
            fun σ' H' hN=>⟨ts.length - (i + 1),by omega,rfl,hN⟩,fun v H' y=>?_⟩
          obtain ⟨xy,My,rt⟩:=hy v H' y
          have hE:=hE.ext xy M My
          have xx:=xx.trans xy
          have hq:=OkR.shift hq xy
          have M:=My
          split at hq
          · exact hq.elim
          · rename_i env' eb
            have:=Zjp (ZkM (Q:=fun σ' H2=>H2=H'∧EnvR X.K cm m H' env' σ') hE (fun j hj=>by rw [hl]; exact ht j hj) rt eb fun σ' hE' _=>⟨rfl,hE'⟩)
            have mono:∀ {Q Q':L2.St→Hp→Prop},gT X.K tg v σ H' Q→(∀ σ' H',Q σ' H'→Q' σ' H')→gT X.K tg v σ H' Q':=fun {Q Q'} h f=>by
              cases tg with
              | nm j=>exact f _ _ h
              | tp is =>
                obtain ⟨a1,xs,z1,z2,z3,z4⟩:=h
                exact ⟨a1,xs,z1,z2,z3,f _ _ z4⟩
            refine mono this ?_
            rintro σ2 H2 ⟨hl2,e2,hE2⟩
            subst e2
            refine ⟨hl2.trans hl,env',cm,m,hE2,M,hq.bind.mono fun fl cm3 m3 H3 x3 M3 o3=>?_⟩
            cases fl with
            | next env3=>exact fun σ3 hl3 hE3=>⟨hl3,env3,cm3,m3,hE3,M3,xx.trans x3,o3⟩
            | cont env3=>exact fun σ3 hl3 hE3=>⟨hl3,env3,cm3,m3,hE3,M3,xx.trans x3,o3⟩
            | brk env3=>exact fun σ3 hl3 hE3=>fin env3 cm3 m3 H3 σ3 hl3 hE3 M3 (xx.trans x3) (OkR.now (a:=Flow.next env3) o3 M3)
            | ret w =>
              intro v3 rv3
              have hP:P (.ret w) cm3 m3 H3:=OkR.now (a:=Flow.ret w) o3 M3
              obtain ⟨xg,Mg,fg⟩:=Zaa M1 hbr (xx.trans x3) M3
              refine OkR.to (a:=Flow.ret w) (m':=giveBack x m1 m3) hP xg Mg v3 ?_
              cases w with
              | t t=>exact fg t v3 rv3
              | f a=>exact rv3
              | x _ _ _=>exact XF.wsame fg rv3
              | c j=>exact rv3
theorem ZeJ {elt target iter:Expr} {ifs:List Expr} {gs:List Comprehension} {scope:Scope} {N':List Str} {own:Nat} {keep:List Nat} {it:E} {tg:Tg} {cs:Es} {inner:E} {i:Nat} {x:Str} {px spos:Pos}
    (hc:X.calm=true) (kk:CompK X xr0 call gv N' scope own keep elt target iter ifs gs it tg cs inner) (hN:X.N.Nodup) (hn:X.N.length=n) (hi:X.N[i]? = some x) (hx:X.env.scope.names.lookup x=some .local)
    (hk:PSs X rest (tS X.K call gv xr n k))
    (hsw:swapsWith (.ListComp elt (⟨target,iter,ifs,0⟩ :: gs) scope pos) (some (.Name x px)) spos.line X.env=pure true:=by rfl) :
    PSs X (.Assign [.Name x px] (.ListComp elt (⟨target,iter,ifs,0⟩ :: gs) scope pos) spos :: rest) (tS X.K call gv xr n (.asg i (.comp own keep it tg cs inner) k)):=by
  have h1:PS X (.Assign [.Name x px] (.ListComp elt (⟨target,iter,ifs,0⟩ :: gs) scope pos) spos) (fun D σ H=>∃ env cm m m' out,EnvR X.K cm m H env σ∧MemR X.K cm m H∧ev call gv (.comp own keep it tg cs inner) env m = .ok (.t (.lst out)) m' ∧
      ∀ (p:Addr) (H3:Hp) (cm3:List Addr) (vs:List V),H3 p=none→X.K.lookup p=none→Ext cm m H cm3 m' H3→MemR X.K cm3 m' H3→RTs X.K cm3 m' H3 out vs→D.nx (σ.set i (some (.ref p))) (upd H3 p (.lst vs))) :=
    fun pins s σ H D I ⟨env,cm,m,m',out,hE,M,ok,q⟩=>Zi3 hc kk hN hi hx hsw I hE M ok q
  refine PSs.mono (QJ h1 hk) ?_
  rintro D σ H ⟨hl,env,cm,m,hE,M,ho⟩
  rw [ex] at ho
  cases h:ev call gv (.comp own keep it tg cs inner) env m with
  | stuck=>rw [h] at ho; exact ho.elim
  | exc e m'=>exact absurd h (Zcc e m')
  | ok w m' =>
    obtain ⟨out,rfl⟩:=ZdI h
    rw [h] at ho
    refine ⟨env,cm,m,m',out,hE,M,h,fun p H3 cm3 vs hp _ x3 M3 r3=>?_⟩
    have hi':i < σ.length:=by rw [hl,← hn]; exact (List.getElem?_eq_some_iff.mp hi).1
    have x4:=x3.trans (Ext.new (o:=.lst vs) hp)
    have M4:=M3.new (o:=.lst vs) hp
    exact ⟨by rw [List.length_set]; exact hl,_,cm3,m',EnvR.set (w:=.t (.lst out)) (hE.ext x4 M M4) (RT.newLst M3 r3 hp) i hi',M4,OkR.shift (show OkR X.K (ex call gv k (env.set i (some (.t (.lst out)))) m') xr cm m H _ from ho) x4⟩
end
end Mi
end
section
namespace Mi
open PySem PySem.Spec PyProof.Rows L2
noncomputable def Ahead (h:Heap) (e:Addr) (mk hd:Value):Prop:=hd = .none∨∃ T oT ts,hd = .ref T∧T≠e∧h.get? T=some oT∧oT.data = .fields ts∧ts[3]? = some mk
theorem ZaO {o:Obj} {vs:Array Value} (h:o.data = .fields vs) (f:Array Value→Array Value):o.mapFields f = { o with data:=.fields (f vs) }:=by
  obtain ⟨c,d,dt,sl⟩:=o
  cases h
  rfl
structure Noted (fr:List Addr) (h:Heap) (e:Addr) (oe:Obj) (mk:Value) (h':Heap):Prop where
  keep:∀ b o,b ∉ fr→b≠e→h.get? b=some o→h'.get? b=some o
  slot:∀ b o,b∈fr→h.get? b=some o→∃ sl,h'.get? b=some { o with slots:=sl }
  new:∃ T oT ts vs,h.get? T=none∧T≠e∧h'.get? T=some oT∧oT.data = .fields ts∧ts[3]? = some mk∧h'.get? e=some { oe with data:=.fields vs }∧vs[1]? = some (.ref T)
section
variable {M:Model} {A:Around} {E:Value→Shared→Prop} {s:Shared} {base:Heap} {env:PySem.Env} {outer:List PySem.Env} {L e:Addr} {oe:Obj} {vs:Array Value} {hd:Value} {Q:Unit→Shared→Prop}
theorem ZhA {before:Bool} (hfr:A.frames=some (env :: outer)) (hl:s.heap.FunFrames base (env :: outer)) (hf:env.frame=some L) (he:s.heap.get? e=some oe) (hv:oe.data = .fields vs) (h1:1 < vs.size)
    (k:∀ h':Heap,Noted (frs (env :: outer)) s.heap e oe (rawInt L) h'→Q () { s with heap:=h' }) :
    wpAny M A (do
      let a ← frameOf env
      let pl ← entryPlaceOf L before
      let b ← EntryCells.newEntry hd a .none (rawInt L) .none pl
      setField (.ref e) 1 b) Q E s:=by
  have ne:e ∉ frs (env :: outer):=fun hm=>by
    obtain ⟨_,o,q,nf⟩:=hl.mem hm
    rw [he] at q; cases q
    exact nf vs hv
  refine wpAny_bind (wpAny_frameOf_fun hfr hl hf fun h1' so=>?_)
  refine wpAny_bind (wpAny_entryPlaceOf fun pl hp=>?_)
  unfold EntryCells.newEntry newFields
  refine wpAny_bind (wpAny_newObj_type ?_ (hp.sizeOk5 _ _ _ _ _))
  have e1:h1'.get? e=some oe:=(so.2.1 e ne).trans he
  generalize hob:({ cls:=.type "traceback",dict:=none,data:=.fields ([hd,.ref L,.none,rawInt L,.none]++(if pl.isEmpty then List.replicate 6 Value.none else pl)).toArray }:Obj)=ob
  have e2:=Heap.get?_push_of_some (h:=h1') ob e1
  have obf:ob.isFreed=false:=by rw [← hob]; rfl
  refine wpAny_setField e2 hv h1 (k _ ?_)
  have nT:h1'.objs.size≠e:=Nat.ne_of_gt (Heap.lt_size e1)
  have kp:∀ b o,b≠e→h1'.get? b=some o→((h1'.push ob).update e (Obj.mapFields (·.setIfInBounds 1 (Value.ref h1'.objs.size)))).get? b=some o:=fun b o hb q=>by
    rw [Heap.get?_update_other _ _ (Ne.symm hb)]
    exact Heap.get?_push_of_some _ q
  refine ⟨fun b o hb hbe q=>kp b o hbe ((so.2.1 b hb).trans q),fun b o hb q=>?_,?_⟩
  · obtain ⟨sl,z⟩:=so.2.2 b o q
    exact ⟨sl,kp b _ (fun y=>ne (y ▸ hb)) z⟩
  · refine ⟨h1'.objs.size,ob,_,vs.setIfInBounds 1 (Value.ref h1'.objs.size),Heap.get?_none_of_le (by rw [so.1]; exact Nat.le_refl _),nT,?_,by rw [← hob],?_,?_,?_⟩
    · rw [Heap.get?_update_other _ _ (Ne.symm nT)]
      exact Heap.get?_push_size _ obf
    · simp
    · rw [Heap.get?_update_self _ e2 (Obj.isFreed_of_fields (Obj.data_mapFields hv _)),ZaO hv]
    · simp [h1]
theorem note_x (hfr:A.frames=some (env :: outer)) (hl:s.heap.FunFrames base (env :: outer)) (hf:env.frame=some L) (he:s.heap.get? e=some oe) (hv:oe.data = .fields vs) (h1:vs[1]? = some hd) (ah:Ahead s.heap e .none hd)
    (k:∀ h':Heap,Noted (frs (env :: outer)) s.heap e oe (rawInt L) h'→Q () { s with heap:=h' }):wpAny M A (noteFrame (.ref e) env) Q E s:=by
  have hz:1 < vs.size:=(Array.getElem?_eq_some_iff.mp h1).1
  unfold noteFrame
  simp only [hf]
  refine wpAny_bind (wpAny_field he hv h1 ?_)
  rcases ah with rfl | ⟨T,oT,ts,rfl,ne,hT,dT,mT⟩
  · rw [if_neg (by decide)]
    exact ZhA hfr hl hf he hv hz k
  · rw [if_pos (show (Value.ref T != Value.none)=true from by simp)]
    refine wpAny_bind (wpAny_field hT dT mT ?_)
    rw [if_neg (show ¬ ((Value.none == rawInt L)=true) from by simp [rawInt])]
    refine wpAny_bind (wpAny_setField hT dT (Array.getElem?_eq_some_iff.mp mT).1 ?_)
    rw [Heap.update_setField_same s.heap T oT ts 3 .none hT dT mT]
    exact ZhA hfr hl hf he hv hz k
theorem ZiV {T:Addr} {oT:Obj} {ts:Array Value} {mk:Value} (he:s.heap.get? e=some oe) (hv:oe.data = .fields vs) (h1:vs[1]? = some (.ref T)) (hT:s.heap.get? T=some oT) (dT:oT.data = .fields ts) (mT:ts[3]? = some mk)
    (k:∀ h':Heap,(∀ b,b≠T→h'.get? b=s.heap.get? b)→h'.get? T=some { oT with data:=.fields (ts.setIfInBounds 3 .none) }→Q () { s with heap:=h' }):wpAny M A (setFlight (.ref e) none) Q E s:=by
  unfold setFlight
  refine wpAny_bind (wpAny_field he hv h1 ?_)
  rw [if_pos (show (Value.ref T != Value.none)=true from by simp)]
  refine wpAny_setField hT dT (Array.getElem?_eq_some_iff.mp mT).1 (k _ (fun b hb=>Heap.get?_update_other _ _ (Ne.symm hb)) ?_)
  rw [Heap.get?_update_self _ hT (Obj.isFreed_of_fields (Obj.data_mapFields dT _)),ZaO dT]
  rfl
end
end Mi
end
section
namespace Mi
open PySem PySem.Spec PyProof.Rows L2
noncomputable def xeP (e C:Addr) (dx:Option Addr) (hd:Value) (h:Heap):Prop:=∃ oe vs,h.get? e=some oe∧oe.cls = .ref C∧oe.dict=dx∧oe.data = .fields vs∧vs[1]? = some hd
noncomputable def xtP (T:Addr) (h:Heap):Prop:=∃ oT ts,h.get? T=some oT∧oT.data = .fields ts∧ts[3]? = some .none
noncomputable def xeO (e C:Addr) (dx:Option Addr) (hd:Value):HO:=.ext (xeP e C dx hd)
theorem ZjA {P:Program} {w:World} {H:Hp} {h:Heap} {e C:Addr} {dx:Option Addr} {hd:Value} (x:xeP e C dx hd h):Jx P w H h e (xeO e C dx hd):=by
  refine ⟨x,?_,fun h1 h2 ⟨oe,vs,q,r⟩ k=>⟨oe,vs,k _ q,r⟩⟩
  obtain ⟨oe,vs,q,r⟩:=x
  exact ⟨oe,q⟩
theorem Zjn {P:Program} {w:World} {H:Hp} {h:Heap} (ok:HOk P w H h) {b:Addr} {u:HO} (q:H b=some u):∃ o,h.get? b=some o:=by
  cases u with
  | lst xs=>obtain ⟨_,_,_,_,z⟩:=ok b _ q; exact ⟨_,z⟩
  | tup xs=>obtain ⟨_,_,_,o,z,_⟩:=ok b _ q; exact ⟨_,z⟩
  | dK kvs=>obtain ⟨_,_,_,_,o,_,_,z,_⟩:=ok b _ q; exact ⟨_,z⟩
  | dT kvs=>obtain ⟨_,_,_,_,o,_,_,z,_⟩:=ok b _ q; exact ⟨_,z⟩
  | set S n=>obtain ⟨o,_,_,_,z,_⟩:=ok b _ q; exact ⟨_,z⟩
  | ins C dx fs=>obtain ⟨_,_,_,z,_⟩:=ok b _ q; exact ⟨_,z⟩
  | own y=>exact ok b _ q
  | xd fs=>obtain ⟨_,⟨_,_,_,z,_⟩,_⟩:=ok b _ q; exact ⟨_,z⟩
  | rng lo hi=>obtain ⟨_,_,_,z⟩:=ok b _ q; exact ⟨_,z⟩
  | frz ob u=>obtain ⟨z,_⟩:=ok b _ q; exact ⟨_,z⟩
  | tbl ps=>exact ⟨_,ok b _ q⟩
  | met f y=>exact ⟨_,ok b _ q⟩
  | ext φ=>obtain ⟨_,z,_⟩:=ok b _ q; exact z
theorem Zhj {P:Program} {w:World} {H:Hp} {h:Heap} (ok:HOk P w H h) {b:Addr} (n:h.get? b=none):H b=none:=by
  cases q:H b with
  | none=>rfl
  | some u =>
    obtain ⟨o,z⟩:=Zjn ok q
    rw [n] at z; cases z
structure Air (P:Program) (w:World) (fr:List Addr) (H:Hp) (s:Shared) (H':Hp) (e C:Addr) (dx:Option Addr) (s':Shared):Prop where
  os:s'.os=s.os
  bare:AllBare s'.gens
  un:Un fr [] H H' s.heap s'.heap
  hok:HOk P w H' s'.heap
  no:H' e=none
  new:s.heap.get? e=none
  at':∃ hd,xeP e C dx hd s'.heap∧(hd = .none∨∃ T,hd = .ref T∧T≠e∧xtP T s'.heap)
section
variable {P:Program} {w:World} {M:Model} {A:Around} {E:Value→Shared→Prop} {s s':Shared} {H H':Hp} {base:Heap} {env:PySem.Env} {outer:List PySem.Env} {L e C:Addr} {dx:Option Addr} {Q:Unit→Shared→Prop}
theorem land (a:Air P w (frs (env :: outer)) H s H' e C dx s') (fre:∀ b∈frs (env :: outer),H' b=none) (hfr:A.frames=some (env :: outer)) (hl:s'.heap.FunFrames base (env :: outer)) (hf:env.frame=some L)
    (k:∀ (h':Heap) (T:Addr),Air P w (frs (env :: outer)) H s H' e C dx { s' with heap:=h' }→xeP e C dx (.ref T) h'→xtP T h'→T≠e→Q () { s' with heap:=h' }) :
    wpAny M A (noteFrame (.ref e) env) (fun _ s1=>wpAny M A (setFlight (.ref e) none) Q E s1) E s':=by
  obtain ⟨hd,⟨oe,vs,q1,q2,q3,q4,q5⟩,ah⟩:=a.at'
  refine note_x hfr hl hf q1 q4 q5 ?_ fun h1 N=>?_
  · rcases ah with rfl | ⟨T,rfl,ne,oT,ts,z⟩
    · exact .inl rfl
    · exact .inr ⟨T,oT,ts,rfl,ne,z⟩
  obtain ⟨T,oT,ts,vs',a1,a2,a3,a4,a5,a6,a7⟩:=N.new
  refine ZiV (s:={ s' with heap:=h1 }) a6 rfl a7 a3 a4 a5 fun h2 k2 hT=>?_
  have neT:∀ b o,s'.heap.get? b=some o→b≠T:=fun b o q z=>by rw [z,a1] at q; cases q
  have kp:∀ b o,b ∉ frs (env :: outer)→b≠e→s'.heap.get? b=some o→h2.get? b=some o:=fun b o hb hbe q=>(k2 b (neT b o q)).trans (N.keep b o hb hbe q)
  have sl:∀ b o,b∈frs (env :: outer)→s'.heap.get? b=some o→∃ sl,h2.get? b=some { o with slots:=sl }:=fun b o hb q=>by
    obtain ⟨sl,z⟩:=N.slot b o hb q
    exact ⟨sl,(k2 b (neT b o q)).trans z⟩
  have nb:∀ b o,s.heap.get? b=some o→b≠e:=fun b o q z=>by rw [z,a.new] at q; cases q
  have xe2:xeP e C dx (.ref T) h2:=⟨_,vs',(k2 e (Ne.symm a2)).trans a6,q2,q3,rfl,a7⟩
  have xt2:xtP T h2:=⟨_,_,hT,rfl,by simp [(Array.getElem?_eq_some_iff.mp a5).1]⟩
  refine k h2 T ⟨a.os,a.bare,⟨fun b o q n hb hx=>kp b o hb (nb b o q) (a.un.keep b o q n hb hx),fun b o q n hb hx=>?_,a.un.free,fun b o q hx=>?_,a.un.tups,a.un.frzs,a.un.tbls⟩,fun b u q=>?_,a.no,a.new,_,xe2,.inr ⟨T,rfl,a2,xt2⟩⟩ xe2 xt2 a2
  · obtain ⟨s1,e1⟩:=a.un.slot b o q n hb hx
    obtain ⟨s2,e2⟩:=sl b _ hb e1
    exact ⟨s2,e2⟩
  · obtain ⟨o',e1⟩:=a.un.there b o q hx
    by_cases hb:b∈frs (env :: outer)
    · obtain ⟨s2,e2⟩:=sl b _ hb e1
      exact ⟨_,e2⟩
    · exact ⟨_,kp b o' hb (nb b o q) e1⟩
  · refine (a.hok b u q).stay (fun c v hc r=>kp c v ?_ ?_ r) (fun _ z=>z) fun _ _ z=>z
    · intro hm
      rcases hc with rfl | hc
      · rw [fre _ hm] at q; cases q
      · rw [fre _ hm] at hc; cases hc
    · rintro rfl
      rcases hc with rfl | hc
      · rw [a.no] at q; cases q
      · rw [a.no] at hc; cases hc
theorem Zg8 (a:Air P w (frs (env :: outer)) H s H' e C dx s') (fre:∀ b∈frs (env :: outer),H' b=none) (hfr:A.frames=some (env :: outer)) (hl:s'.heap.FunFrames base (env :: outer)) (hf:env.frame=some L)
    (k:∀ h':Heap,Air P w (frs (env :: outer)) H s H' e C dx { s' with heap:=h' }→Q () { s' with heap:=h' }):wpAny M A (leaving env (.ref e)) Q E s':=by
  unfold leaving
  exact wpAny_bind (land a fre hfr hl hf fun h' T a' _ _ _=>k h' a')
end
end Mi
end
section
namespace Mi
open PySem PySem.Spec PyProof.Rows L2
noncomputable def CXF (P:Program) (w:World):CXT:=fun outer H s E ev s'=>∃ e C dx H',ev = .ref e∧Air P w (frs outer) H s H' e C dx s'∧E (.ref C) dx H'
noncomputable def Lk (X:Cx) (xr:XR):Prop:=∀ (pins:List (Addr×Obj)) (σ:L2.St) (H:Hp) (s:Shared) (H':Hp) (e:Addr) (dx:Option Addr) (s':Shared) (cm:List Addr) (m:Mem) (x:Exc),Inv X pins σ H s →
  Air X.prog X.w (frs X.stack) H s H' e x.cls dx s'→MemR X.K cm m H'→XF X.K cm m H' x.nms x.flds dx→xr x cm m H'→X.xe (.ref e) s'
theorem lk0 {X:Cx}:Lk X xr0:=fun _ _ _ _ _ _ _ _ _ _ _ _ _ _ _ h=>h.elim
noncomputable abbrev asX (X:Cx) (xe:Value→Shared→Prop) (pn:List (Addr×Obj)):Cx:={ X with xe:=xe,pn:=pn }
structure Go (X:Cx) (xr:XR):Prop where
  lk:Lk X xr
  po:PassesOwn (model X.prog X.w) X.A X.env X.xe
section
variable {K:PySem.W.Frag} {cm cm':List Addr} {m m':Mem} {H H' H'':Hp} {X:Cx}
variable (K) in
noncomputable def xrE (E:XK):XR:=fun x cm m H=>∀ dx,XF K cm m H x.nms x.flds dx→E (.ref x.cls) dx H
variable (K) in
noncomputable def EX (xr:XR):XK:=fun cls dx H=>∃ cm m x,MemR K cm m H∧cls = .ref x.cls∧XF K cm m H x.nms x.flds dx∧xr x cm m H
theorem Lk.passes {xr:XR} (h:Lk X xr):ZhX (CXF X.prog X.w) X (EX X.K xr):=fun pins σ H s ev s' I ⟨e,C,dx,H',he,air,cm,m,x,M,hc,hf,q⟩=>by
  subst he
  cases hc
  exact h pins σ H s H' e dx s' cm m x I air M hf q
theorem OkR.monoX {α:Type} {r:Res α} {xr xr':XR} {k:α→List Addr→Mem→Hp→Prop} (h:OkR K r xr cm m H k) (f:∀ x cm' m' H',Ext cm m H cm' m' H'→MemR K cm' m' H'→xr x cm' m' H'→xr' x cm' m' H'):OkR K r xr' cm m H k:=by
  cases r with
  | ok a m2=>exact h
  | exc a m2=>exact fun c h' e M=>f _ _ _ _ e M (h c h' e M)
  | stuck=>exact h
theorem OkR.toE {α:Type} {r:Res α} {xr:XR} {k:α→List Addr→Mem→Hp→Prop} (h:OkR K r xr cm m H k):OkR K r (xrE K (EX K xr)) cm m H k :=
  h.monoX fun x cm' m' H' _ M q dx hf=>⟨cm',m',x,M,rfl,hf,q⟩
theorem ZjH {fs:List Addr} {H0 H1 H2:Hp} {h0 h1 h2:Heap} {L:Addr} (a:Un fs [] H0 H1 h0 h1) (b:Un (L :: fs) [] H1 H2 h1 h2) (hL:h0.get? L=none):Un fs [] H0 H2 h0 h2 where
  keep:=fun c ob q n hc hx=>b.keep c ob (a.keep c ob q n hc hx) (a.free c ob q n hx) (fun z=>(List.mem_cons.mp z).elim (fun z=>by rw [z,hL] at q; cases q) hc) hx
  slot:=fun c ob q n hc hx=>by
    obtain ⟨sl,e1⟩:=a.slot c ob q n hc hx
    obtain ⟨sl',e2⟩:=b.slot c _ e1 (a.free c ob q n hx) (List.mem_cons_of_mem _ hc) hx
    exact ⟨sl',e2⟩
  free:=fun c ob q n hx=>by
    obtain ⟨o',e1⟩:=a.there c ob q hx
    exact b.free c o' e1 (a.free c ob q n hx) hx
  there:=fun c ob q hx=>by
    obtain ⟨o',e1⟩:=a.there c ob q hx
    exact b.there c o' e1 hx
  tups:=fun c xs q=>b.tups c xs (a.tups c xs q)
  frzs:=fun c ob xs q=>b.frzs c ob xs (a.frzs c ob xs q)
  tbls:=fun c ps q=>by
    obtain ⟨m1,e1⟩:=a.tbls c ps q
    obtain ⟨m2,e2⟩:=b.tbls c _ e1
    exact ⟨m1++m2,by rw [e2,Array.append_assoc]⟩
end
theorem Inv.air {X:Cx} {pins:List (Addr×Obj)} {σ:L2.St} {H H':Hp} {s s':Shared} {e C:Addr} {dx:Option Addr} (I:Inv X pins σ H s) (a:Air X.prog X.w (frs X.stack) H s H' e C dx s'):Inv X pins σ H' s' :=
  I.call' (ch:=[]) a.os a.un a.hok a.bare fun b z=>absurd z (by simp)
theorem ZkL {P:Program} {w:World} {K:PySem.W.Frag} {mg:Str→Option Value} {base:Heap} {N:List Str} {qual:Str} {scope:Scope} {f:Addr} {cd:Value} {A:Around} {outer:List PySem.Env} {s:Shared} {H:Hp} {E:XK} :
    Go (cxOf (CXF P w) P w K mg base N qual scope f cd A outer s H E) (xrE K E):=by
  refine ⟨fun pins σ H1 s1 H' e dx s' cm m x I a M hf q=>?_,PassesOwn.leaving⟩
  have I':=Inv.air I a
  have gone:s.heap.get? e=none:=by
    cases y:s.heap.get? e with
    | none=>rfl
    | some o =>
      obtain ⟨o',y'⟩:=I.base.there e o y (by intro z; cases z)
      rw [a.new] at y'; cases y'
  refine Zg8 a I'.stkFree I'.ok.frames I'.stack rfl fun h' a'=>?_
  exact ⟨e,x.cls,dx,H',rfl,⟨I'.os,a'.bare,ZjH I.base a'.un (Heap.get?_none_of_le (Nat.le_refl _)),a'.hok,a'.no,gone,a'.at'⟩,q dx hf⟩
theorem ZkO {P:Program} {w:World} {K:PySem.W.Frag} {mg:Str→Option Value} {base:Heap} {x qual:Str} {st:Stmt} {f:Addr} {fd:FuncData} {N ps:List Str} {k:Nat} {sp:Sp} (F:Fun K x qual st f fd) (S:FnScope N ps (Za st)) (len:∀ vs H Q E,sp vs H Q E→vs.length=ps.length)
    (hbody:∀ (cdv:Value) (A:Around) (outer:List PySem.Env) (s:Shared) (H:Hp) (vs:List V) (Q:VK) (E:XK),Room k (A.deeper (envOfC qual (Za st) s.heap.objs.size f cdv))→HOk P w H s.heap→sp vs H Q E →
      ∃ t,PSs (cxOf (CXF P w) P w K mg base N qual (Za st) f cdv A outer s H E) (Ze st) t∧t { nx:=fun _ H'=>Q .non H',rt:=Q } (start N vs) H):FnOk P w K mg base (CXF P w) (k + 1) f fd ps sp:=by
  obtain ⟨oc,od,kV,doc,pm,an,cdv,ct,osl,rfl,lk,hcd⟩:=F.ex
  exact fn_of lk hcd S len fun A outer s H vs Q E hr hk hsp=>hbody cdv A outer s H vs Q E hr hk hsp
end Mi
end
section
namespace Mi
open PySem PySem.Spec PyProof.Rows L2 PySem.W PySem.Builtin.ObjectAttr
section
variable {prog:Program} {w:World} {A:Around} {R:Result→Shared→Prop} {h:Heap} {g:Array GenState} {d:Drawn} {t:Nat} {os:OsState}
variable {nm q:Str} {C N f:Addr} {bs bm bmB:List Value} {hdct:Bool} {sn:List Str} {sub:List Value} {ab:Bool} {col:Option Bool} {dd:Option Addr} {k0 k1 k2 k3 k5:Option Value} {B newId initId:String}
noncomputable abbrev newX (C t:Addr):Obj:={ cls:=.ref C,data:=.fields #[.ref t,.none,.none,.none,.bool false,.none] }
noncomputable abbrev tupX (us:List Value):Obj:={ cls:=.type "tuple",data:=.seq us.toArray }
theorem make_x {us:List Value} (F:ExcBaseFacts B newId initId bmB) (T:OwnTail h bmB bm) (hC:h.get? C=some (excClassObj nm q C N bs bm hdct sn sub ab col dd k0 k1 k2 k3 k5 newId))
    (hi:Looks (model prog w) h (typeLookup (.ref C) "__init__") (some (.ref f))) (hb:∀ self,Looks (model prog w) h (bindSpecial (.ref f) self) (.ref f,[self]))
    (hq:codeAny (model prog w) (A.under (.builtin "type.__call__" ⟨.ref C :: us,[]⟩)) (.call (.ref f) ⟨.ref (h.objs.size + 1) :: us,[]⟩) (InitBack (h.objs.size + 1) R) ⟨(h.push (tupX us)).push (newX C h.objs.size),g,d,t,os⟩)
    (hz:us.length≤sizeLine):codeAny (model prog w) A (.call (.ref C) ⟨us,[]⟩) R ⟨h,g,d,t,os⟩:=by
  have f1:=tc_lookup
  have f2:=tc_bind (.ref C)
  have hT:(⟨h,g,d,t,os⟩:Shared).TypeIs (.ref C) "type":=⟨_,hC,rfl⟩
  refine codeAny_of_tree ?_; show wpAny _ _ (callAny (.ref C) _) _ _ _
  repeat (any_goals (first | assumption | with_reducible refine wpAny_loadPart_at hC ?_ | wp_step))
  refine And.intro rfl (codeAny_call_builtin_at (Code.quiet_builtin _ (by decide +kernel)) entry_typeCall (wpAny_check_type_call_sub hC ?_))
  repeat (first | with_reducible refine wpAny_madeBy_exc hC ?_ | with_reducible refine wpAny_loadPart_at hC ?_ | wp_step)
  refine codeAny_call_builtin_code (Code.quiet_builtin _ F.quiet) (wpAny_check_new_subT F T hC (codeAny_exc_new_subT F T hC ?_ hz))
  show wpAny (model prog w) (A.under (.builtin "type.__call__" ⟨.ref C :: us,[]⟩)) _ _ _ ⟨(h.push (tupX us)).push (newX C h.objs.size),g,d,t,os⟩
  have k:∀ b o,h.get? b=some o→((h.push (tupX us)).push (newX C h.objs.size)).get? b=some o:=fun b o e=>Heap.get?_push_of_some _ (Heap.get?_push_of_some _ e)
  have hC1:=k _ _ hC
  have hx:((h.push (tupX us)).push (newX C h.objs.size)).get? (h.objs.size + 1)=some (newX C h.objs.size):=by heap_get
  have hcC:(Value.ref C :: bm).contains (.ref C)=true:=by simp
  have i1:=hi.keeps k
  have b1:=(hb (.ref (h.objs.size + 1))).keeps k
  have t1:Looks (model prog w) ((h.push (tupX us)).push (newX C h.objs.size)) (typeOf (.ref (h.objs.size + 1))) (.ref C):=(Looks.ld hx).andThen .now
  have s1:Looks (model prog w) ((h.push (tupX us)).push (newX C h.objs.size)) (isSubtype (.ref C) (.ref C)) true:=fun A Q E s kk q0=>wpAny_isSubtype_exc (kk _ _ hC1) (by rw [hcC]; exact q0)
  clear hT hC hC1 hi hb T
  unfold isInstance callSpecial? specialOf; repeat (first | with_reducible refine wpAny_call ?_ | lk)
  refine codeAny_mono hq fun r s' z=>?_
  rcases r with e | (v | _ | _ | _)
  · exact z
  · exact z.elim
  · exact z.elim
  · exact z.elim
  · obtain ⟨rfl,z⟩:=z; exact wpAny_pure (wpAny_pure z)
end
noncomputable def Zfs:List Value→Bool
  | .ref _ :: r=>Zfs r
  | l=>l == [.type "ValueError",.type "Exception",.type "BaseException",.type "object"]
noncomputable def Zkn (K:Frag) (C:Addr):Bool:=(clsIn K C).any fun cd=>Zfs cd.mro
theorem ZeG (self:Value):∀ {l:List Value},Zfs l=true→refuseLoop self "__setattr__" l=pure ()
  | l,e=>by
    unfold Zfs at e
    split at e
    · rw [refuseLoop_ref]; exact ZeG self e
    · rw [eq_of_beq e]; exact PySem.F.store_ValueError.passes self
theorem V_has:∀ {l:List Value},Zfs l=true→l.contains (.type "object")=true
  | l,e=>by
    unfold Zfs at e
    split at e
    · rw [List.contains_cons,V_has e,Bool.or_true]
    · rw [eq_of_beq e]; decide
theorem set_x {prog:Program} {w:World} {A:Around} {E:Value→Shared→Prop} {K:Frag} {s:Shared} {x C:Addr} {ox:Obj} {vs:Array Value} {name:Str} {v:Value} {Q:Unit→Shared→Prop} (X:K.In s.heap) (hx:s.heap.get? x=some ox) (hc:ox.cls = .ref C) (hdn:ox.dict=none) (hv:ox.data = .fields vs)
    (hs:findIn K (.ref C) "__setattr__" = some (some (.builtin "object.__setattr__"))) (ho:Zkn K C=true) (hn:findIn K (.ref C) name=some none) (hh:hasDictIn K C=true)
    (k:∀ (h':Heap) (tk:Nat),h'.Ns1 s.heap.objs.size (fun y=>if y=name then some v else none)→h'.get? x=some { ox with dict:=some s.heap.objs.size }→(∀ b o,b≠x→s.heap.get? b=some o→h'.get? b=some o)→Q () { s with heap:=h',toks:=tk }) :
    wpAny (model prog w) A (setAttr (.ref x) name v) Q E s:=by
  have nc:notCls ox=true:=by unfold notCls; rw [hv]
  have I:InstAt s.heap x ox C none:=⟨hx,hc,nc,by rw [hdn]; trivial⟩
  refine set_plain X I hs ?_
  have SF:=PySem.F.store_object
  obtain ⟨cd,hcd,hov⟩:=any_some ho
  have sub:Looks (model prog w) s.heap (isInstance (.ref x) (.type "object")) true:=I.type.andThen (looks_mroIn X (by
    unfold mroIn
    rw [hcd,Option.bind_some,if_neg ?_,V_has hov]
    cases q:cd.mro with
    | nil=>rw [q] at hov; exact absurd hov (by decide)
    | cons a r=>simp))
  refine codeAny_call_builtin SF.slot.plain SF.entry (@check_slot (model prog w) _ _ { s with toks:=s.toks + 1 } "object.__setattr__" "object" "__setattr__" (.ref x) [.str name s.toks,v] [] _ SF.kind SF.split sub (SF.args (.ref x) (.str name s.toks) v) ?_)
  rw [osa_eq,refuse_eq]
  refine wpAny_bind (wpAny_bind (I.type.here (s:={ s with toks:=s.toks + 1 }) (wpAny_bind (Looks.here (s:={ s with toks:=s.toks + 1 }) ((looks_clsIn X hcd).andThen .now) ?_))))
  rw [ZeG _ hov]
  refine wpAny_pure (wpAny_bind (I.type.here (s:={ s with toks:=s.toks + 1 }) (wpAny_bind (Looks.here (s:={ s with toks:=s.toks + 1 }) (looks_findIn X hn) (wpAny_bind (wpAny_pure ?_))))))
  obtain ⟨oc,od,odt,osl⟩:=ox
  dsimp only at hc hdn hv
  subst hc hdn hv
  obtain ⟨cd2,hcd2,hhd⟩:=any_some hh
  refine wpAny_bind (wpAny_pure (wpAny_bind (wpAny_bind (wpAny_loadPart (s:={ s with toks:=s.toks + 1 }) hx (wpAny_bind (Looks.here (s:={ s with toks:=s.toks + 1 }) (looks_clsIn X hcd2) ?_))))))
  rw [hhd]
  have hx1:(s.heap.push { cls:=.type "dict",data:=.dict #[] }).get? x=some ⟨.ref C,none,.fields vs,osl⟩:=Heap.get?_push_of_some _ hx
  have hxs:x≠s.heap.objs.size:=Nat.ne_of_lt (Heap.lt_size hx)
  refine wpAny_bind (wpAny_alloc' ?_)
  refine wpAny_bind (wpAny_update' hx1 ?_)
  refine wpAny_pure ?_
  generalize hG:((s.heap.push { cls:=.type "dict",data:=.dict #[] }).update x fun o=>{ cls:=o.cls,dict:=some s.heap.objs.size,data:=o.data,slots:=o.slots })=G
  have gd:G.get? s.heap.objs.size=some { cls:=.type "dict",data:=.dict #[] }:=by
    rw [← hG]
    exact (Heap.get?_update_ne _ _ _ _ hxs.symm).trans (Heap.get?_push_at rfl rfl)
  have gx:G.get? x=some ⟨.ref C,some s.heap.objs.size,.fields vs,osl⟩:=by
    rw [← hG]
    exact Heap.get?_update_self _ hx1 rfl
  have gb:∀ b o,b≠x→s.heap.get? b=some o→G.get? b=some o:=fun b o hb q=>by
    rw [← hG]
    exact (Heap.get?_update_ne _ _ _ _ hb).trans (Heap.get?_push_of_some _ q)
  have gn:G.Ns s.heap.objs.size (fun _=>none):=⟨_,#[],_,gd,rfl,fun e he=>absurd he (by simp),fun _=>rfl⟩
  show wpAny _ _ (storeInDict s.heap.objs.size (.str name s.toks) name v) _ _ { s with heap:=G,toks:=s.toks + 1 }
  unfold storeInDict newKeyGuard
  refine wpAny_bind (wpAny_pure (wpAny_bind (wpAny_nsSet1 (Heap.Ns1.of_empty gn) fun h' hn' hs'=>?_)))
  obtain ⟨oD,esD,epD,hoD,hdD,hcD⟩:=hn'.count (Within.cons name v Within.nil)
  refine wpAny_bind (wpAny_lookBehind hoD (by rw [hdD]; exact pastItsLine_dict (Nat.le_trans hcD (by rw [List.length_cons,List.length_nil,sizeLine_eq]; omega))) ?_)
  refine wpAny_pure (k h' _ hn' ((hs'.2 x hxs).trans gx) fun b o hb q=>(hs'.2 b (Nat.ne_of_lt (Heap.lt_size q))).trans (gb b o hb q))
structure XSet (K:Frag) (C:Addr) (f:Str):Prop where
  sa:findIn K (.ref C) "__setattr__" = some (some (.builtin "object.__setattr__"))
  ov:Zkn K C=true
  na:findIn K (.ref C) f=some none
  hd:hasDictIn K C=true
noncomputable def setH (H:Hp) (e C d:Addr) (f:Str) (y:V):Hp:=upd (upd H d (.xd [(f,y)])) e (xeO e C (some d) .none)
theorem Zjz {P:Program} {w:World} {H:Hp} {h h':Heap} {fs:List Addr} {e C d:Addr} {dx:Option Addr} {hd:Value} {f:Str} {y:V} {u:Value} (ok:HOk P w H h) (he:H e=some (xeO e C dx hd)) (nd:h.get? d=none) (ry:RelV y u) (hn:h'.Ns1 d (fun z=>if z=f then some u else none)) (hx:xeP e C (some d) .none h')
    (kp:∀ b o,b≠e→h.get? b=some o→h'.get? b=some o):HOk P w (setH H e C d f y) h'∧Un fs [] H (setH H e C d f y) h h':=by
  have nH:=Zhj ok nd
  have ne:d≠e:=fun z=>by rw [z,he] at nH; cases nH
  have at':∀ b u,H b=some u→b≠e→setH H e C d f y b=some u:=fun b u q n=>by unfold setH; rw [Zm n,Zm (fun z=>by rw [z,nH] at q; cases q)]; exact q
  have no:∀ b u,H b=some u→(∀ φ,u≠.ext φ)→b≠e:=fun b u q n z=>by rw [z,he] at q; cases q; exact n _ rfl
  refine ⟨fun b u q=>?_,⟨fun b o q n _ _=>kp b o (fun z=>by rw [z,he] at n; cases n) q,fun b o q n _ _=>⟨o.slots,kp b o (fun z=>by rw [z,he] at n; cases n) q⟩,fun b o q n _=>?_,fun b o q _=>?_,fun b xs q=>at' b _ q (no b _ q fun _ z=>by cases z),fun b o u q=>at' b _ q (no b _ q fun _ z=>by cases z),fun b ps q=>⟨#[],by rw [at' b _ q (no b _ q fun _ z=>by cases z)]; simp⟩⟩⟩
  · by_cases h1:b=e
    · subst h1
      unfold setH at q
      rw [ZK] at q; cases q
      exact ZjA hx
    · by_cases h2:b=d
      · subst h2
        unfold setH at q
        rw [Zm h1,ZK] at q; cases q
        refine ⟨_,hn,fun g=>?_⟩
        by_cases hg:g=f
        · subst hg
          simp only [if_pos,List.lookup,beq_self_eq_true]
          exact ry
        · have hb:(g == f)=false:=beq_eq_false_iff_ne.mpr hg
          simp only [if_neg hg,List.lookup,hb]
          trivial
      · have q':H b=some u:=by unfold setH at q; rw [Zm h1,Zm h2] at q; exact q
        refine (ok b u q').stay (fun c v hc r=>kp c v ?_ r) (fun c r=>at' c _ r (no c _ r fun _ z=>by cases z)) fun c xs r=>at' c _ r (no c _ r fun _ z=>by cases z)
        rcases hc with rfl | hc
        · exact h1
        · exact no c _ hc fun _ z=>by cases z
  · unfold setH
    rw [Zm (fun z=>by rw [z,he] at n; cases n),Zm (fun z=>by rw [z,nd] at q; cases q)]; exact n
  · by_cases h1:b=e
    · subst h1
      obtain ⟨oe,vs,z,_⟩:=hx
      exact ⟨oe,z⟩
    · exact ⟨o,kp b o h1 q⟩
noncomputable def sFldX (K:Frag) (ta tv:TE) (f:Str):TS:=fun D σ H=>tv σ H fun y H1=>ta σ H1 fun x H2=>∃ a C,x = .ref a∧H2 a=some (xeO a C none .none)∧XSet K C f∧∀ d,H2 d=none→D.nx σ (setH H2 a C d f y)
theorem ZjY {X:Cx} {o value:Expr} {f:Str} {pos pos':Pos} {ta tv:TE} (ha:PE X o ta) (hv:PE X value tv) (hs:swapsWith value (some (.Attribute o f pos')) pos.line X.env=pure false:=by rfl):PS X (.Assign [.Attribute o f pos'] value pos) (sFldX X.K ta tv f):=by
  intro pins s σ H D I h
  refine plainObj_wpAny_Assign_Attribute (thn (hv pins s σ H _ I h) fun u s1 ⟨y,H1,I1,ry,q⟩=>thn (ha pins s1 σ H1 _ I1 q) fun ov s2 ⟨x,H2,I2,rx,a,C,ex,ea,xs,q2⟩=>?_) hs
  subst ex
  obtain rfl:ov=Value.ref a:=rx
  obtain ⟨⟨oe,vs,e1,e2,e3,e4,e5⟩,_⟩:=I2.hok a _ ea
  refine set_x I2.kIn e1 e2 e3 e4 xs.sa xs.ov xs.na xs.hd fun h' tk hn hx kp=>?_
  have nd:s2.heap.get? s2.heap.objs.size=none:=Heap.get?_none_of_le (Nat.le_refl _)
  obtain ⟨ok,un⟩:=Zjz (fs:=X.fs) I2.hok ea nd ry hn ⟨_,vs,hx,e2,rfl,e4,e5⟩ kp
  exact ⟨σ,_,I2.un (t':=tk) un ok,q2 _ (Zhj I2.hok nd)⟩
end Mi
end
section
namespace Mi
open PySem PySem.Spec PyProof.Rows L2
noncomputable def spF (K:PySem.W.Frag) (fns:List Fn) (gv:List T) (k f:Nat):Sp:=fun vs H Q E=>∃ cm m ws,MemR K cm m H∧RWs K cm m H ws vs∧OkR K (Z4 fns gv k f ws m) (xrE K E) cm m H fun w cm' m' H'=>∀ v,RW K cm' m' H' w v→Q v H'
noncomputable def FOk (P:Program) (w:World) (K:PySem.W.Frag) (mg:Str→Option Value) (base:Heap) (fns:List Fn) (gv:List T) (k:Nat) (x:Str) (fi:Nat):Prop :=
  ∃ f fd ps,mg x=some (.ref f)∧PySem.W.keepIn K (.ref f)=true∧Binds K fd ps []∧FnOk P w K mg base (CXF P w) k f fd ps (spF K fns gv k fi)
section
variable {K:PySem.W.Frag} {cm cm':List Addr} {m m':Mem} {H H':Hp} {X:Cx} {fns:List Fn} {gv:List T}
variable {a b c e:Expr} {es:List Expr} {ea eb ec:E} {eas:Es} {pos p p2:Pos} {k n:Nat}
theorem ZiE {fi:Nat} {x:Str} {xr:XR} (lk:Lk X xr) (F:FOk X.prog X.w X.K X.mg X.base fns gv k x fi) (hr:Room k X.A) (hg:Gl X x) (ha:PA X (e :: es) (tA X.K (Z4 fns gv k) gv xr eas)) (hdb:(x == ("__debug__" : Str))=false:=by decide)
    (he:notStar e=true:=by rfl) (hpl:es.all notStar=true:=by rfl) :
    PE X (.Call (.Name x p) (e :: es) [] pos) (tE X.K (Z4 fns gv k) gv xr (.call fi eas)):=by
  obtain ⟨f,fd,ps,hm,hk,hb,F⟩:=F
  refine PE.mono (Zkj F hr hg hm hk hb (dvs:=[]) .nil (E:=EX X.K xr) lk.passes ha hdb (Qv he) (Xl hpl)) ?_
  rintro σ H Q ⟨env,cm,m,hE,M,ho⟩
  rw [ev] at ho
  refine ⟨env,cm,m,hE,M,ho.bind.mono fun ws cm1 m1 H1 x1 M1 o1 vs rvs=>?_⟩
  show spF X.K fns gv k fi (vs++[]) H1 Q (EX X.K xr)
  rw [List.append_nil]
  exact ⟨cm1,m1,ws,M1,rvs,o1.toE⟩
theorem JF {i n:Nat} {c:Bool×List T} (h:(m.take n)[i]? = some (some c)):m[i]? = some (some c)∧i < n:=by
  rw [List.getElem?_take] at h
  split at h
  · exact ⟨h,‹_›⟩
  · cases h
theorem Q4 {i n:Nat} (h:i < n):(cm.take n)[i]? = cm[i]?:=by rw [List.getElem?_take,if_pos h]
theorem J9 {n:Nat} {a:Addr} (h:Zt cm m a):Zt (cm.take n) (m.take n) a:=fun i q e=>by
  obtain ⟨e1,hi⟩:=JF e
  rw [Q4 hi]
  exact h i q e1
theorem Zh6 (M:MemR K cm m H) (n:Nat):MemR K (cm.take n) (m.take n) H∧∀ t v,RT K cm m H t v→RT K (cm.take n) (m.take n) H t v:=by
  have sm:∀ t v,RT K cm m H t v→RT K (cm.take n) (m.take n) H t v:=fun t v r=>r.same (fun _ _ z=>z) fun _ z _=>J9 z
  refine ⟨⟨by rw [List.length_take,List.length_take,M.len],fun i j a q r e1 e2 f1 f2=>?_,fun i q e=>?_⟩,sm⟩
  · obtain ⟨e1,h1⟩:=JF e1
    obtain ⟨e2,h2⟩:=JF e2
    rw [Q4 h1] at f1
    rw [Q4 h2] at f2
    exact M.inj i j a q r e1 e2 f1 f2
  · obtain ⟨e1,h1⟩:=JF e
    obtain ⟨a,vs,q1,q2,q3,q4⟩:=M.at' i q e1
    exact ⟨a,vs,by rw [Q4 h1]; exact q1,q2,q3,Zh (fun _ _ z=>sm _ _ z) q4⟩
theorem Zh7 (M:MemR K cm m H) (x:Ext cm m H cm' m' H'):Ext cm m H (cm'.take m.length) (m'.take m.length) H':=by
  refine ⟨fun i a h=>?_,by rw [List.length_take]; have:=x.len; omega,fun i ts h=>?_,fun a o h n=>⟨(x.keep a o h n).1,J9 (x.keep a o h n).2⟩⟩
  · have hi:=(List.getElem?_eq_some_iff.mp h).1
    rw [M.len] at hi
    rw [Q4 hi]
    exact x.pre i a h
  · have hi:=(List.getElem?_eq_some_iff.mp h).1
    rw [List.getElem?_take,if_pos hi]
    exact x.lent i ts h
theorem fin_ok {xr:XR} {cell:Bool} {fl:Flow} {Q:VK} {nn:Nat} (M:MemR K cm m H) (x:Ext cm m H cm' m' H') (M':MemR K cm' m' H') (ho:OkR K (fin m.length cell fl m') xr cm m H fun w cm' m' H'=>∀ v,RW K cm' m' H' w v→Q v H') :
    ZaX K nn { nx:=fun _ H'=>Q .non H',rt:=Q } fl cm' m' H':=by
  obtain ⟨Mt,st⟩:=Zh6 M' m.length
  have xt:=Zh7 M x
  cases fl with
  | next env=>exact fun σ _ _=>OkR.to (a:=W.t .non) ho xt Mt _ .non
  | brk env=>exact ho.elim
  | cont env=>exact ho.elim
  | ret w =>
    intro v rv
    cases w with
    | t t=>exact OkR.to (a:=W.t t) ho xt Mt v (st t v rv)
    | f a=>exact ho.elim
    | x _ _ _=>exact ho.elim
    | c i =>
      unfold fin at ho
      dsimp only at ho
      split at ho
      · rename_i hi
        obtain ⟨a,h1,h2⟩:=rv
        exact OkR.to ho xt Mt v ⟨a,by rw [Q4 hi]; exact h1,h2⟩
      · rename_i hi
        split at ho
        · rename_i ts e
          obtain ⟨a,h1,h2⟩:=rv
          obtain ⟨a',vs,q1,q2,q3,q4⟩:=M'.at' i _ e
          rw [h1] at q1; cases q1
          have na:Zt (cm'.take m.length) (m'.take m.length) a:=fun j q ej z=>by
            obtain ⟨ej,hj⟩:=JF ej
            rw [Q4 hj] at z
            have:=M'.inj j i a _ _ ej e z h1
            omega
          have lt:(cm'.take m.length).length=m.length:=by rw [List.length_take,M'.len]; have:=x.len; omega
          have lm:(m'.take m.length).length=m.length:=by rw [List.length_take]; have:=x.len; omega
          split at ho
          · -- a list that may change is handed back
            have nl:∀ b,Zt cm' m' b→Zt (cm'.take m.length++[a]) (m'.take m.length++[some (false,ts)]) b:=fun b n=>by
              refine Zbr (by rw [lt,lm]) (J9 n) fun z=>?_
              subst z
              exact n i _ e h1
            have sm:∀ t v,RT K cm' m' H' t v→RT K (cm'.take m.length++[a]) (m'.take m.length++[some (false,ts)]) H' t v:=fun t v r=>r.same (fun _ _ z=>z) fun b z _=>nl b z
            have cs:∀ {j:Nat} {c:Bool×List T},(m'.take m.length++[some (false,ts)])[j]? = some (some c)→((m'.take m.length)[j]? = some (some c)∧j < m.length)∨(j=m.length∧c=(false,ts)):=fun {j c} ej=>by
              by_cases hj:j < m.length
              · rw [List.getElem?_append_left (by rw [lm]; exact hj)] at ej
                exact .inl ⟨ej,hj⟩
              · by_cases hj2:j=m.length
                · subst hj2
                  rw [List.getElem?_append_right (by rw [lm]; exact Nat.le_refl _),lm,Nat.sub_self] at ej
                  cases ej
                  exact .inr ⟨rfl,rfl⟩
                · rw [List.getElem?_eq_none (by rw [List.length_append,lm]; simp; omega)] at ej
                  cases ej
            have cl:∀ {j:Nat},j < m.length→(cm'.take m.length++[a])[j]? = (cm'.take m.length)[j]?:=fun {j} hj=>List.getElem?_append_left (by rw [lt]; exact hj)
            have cp:(cm'.take m.length++[a])[m.length]? = some a:=by
              rw [List.getElem?_append_right (by rw [lt]; exact Nat.le_refl _),lt,Nat.sub_self]
              rfl
            refine OkR.to (cm':=cm'.take m.length++[a]) ho ⟨fun j b h=>?_,by rw [List.length_append,lm]; simp,fun j us h=>?_,fun b o h nb=>⟨(x.keep b o h nb).1,nl b (x.keep b o h nb).2⟩⟩ ⟨by rw [List.length_append,List.length_append,lt,lm]; rfl,fun j1 j2 b c1 c2 e1 e2 f1 f2=>?_,fun j c ej=>?_⟩ v ⟨a,cp,h2⟩
            · have hj:=(List.getElem?_eq_some_iff.mp h).1
              rw [M.len] at hj
              rw [cl hj]
              exact xt.pre j b h
            · have hj:=(List.getElem?_eq_some_iff.mp h).1
              rw [List.getElem?_append_left (by rw [lm]; exact hj)]
              exact xt.lent j us h
            · rcases cs e1 with ⟨g1,l1⟩ | ⟨k1,_⟩
              · rw [cl l1] at f1
                rcases cs e2 with ⟨g2,l2⟩ | ⟨k2,_⟩
                · rw [cl l2] at f2
                  exact Mt.inj j1 j2 b _ _ g1 g2 f1 f2
                · rw [k2,cp] at f2; cases f2
                  exact absurd f1 (na j1 _ g1)
              · rw [k1,cp] at f1; cases f1
                rcases cs e2 with ⟨g2,l2⟩ | ⟨k2,_⟩
                · rw [cl l2] at f2
                  exact absurd f2 (na j2 _ g2)
                · rw [k1,k2]
            · rcases cs ej with ⟨g,l⟩ | ⟨kk,z⟩
              · obtain ⟨gg,_⟩:=JF g
                obtain ⟨b,ws,w1,w2,w3,w4⟩:=M'.at' j c gg
                exact ⟨b,ws,by rw [cl l,Q4 l]; exact w1,w2,w3,Zh (fun _ _ z=>sm _ _ z) w4⟩
              · rw [kk,z]
                exact ⟨a,vs,cp,q2,q3,Zh (fun _ _ z=>sm _ _ z) q4⟩
          · subst h2
            exact OkR.to (a:=W.t (.lst ts)) ho xt Mt _ (RT.mlst q2 na (Zh (fun _ _ z=>st _ _ z) q4))
        · exact ho.elim
theorem ZjO {N:List Str} {ws:List W} {vs:List V} {j:Nat} (r:RWs K cm m H ws vs) (hj:j=N.length - vs.length):EnvR K cm m H (ws.map some++List.replicate j none) (L2.start N vs):=fun i w e=>by
  unfold L2.start
  have hl:=r.length
  by_cases hi:i < ws.length
  · rw [List.getElem?_append_left (by simpa using hi),List.getElem?_map] at e
    cases q:ws[i]? with
    | none=>rw [q] at e; cases e
    | some w' =>
      rw [q] at e; cases e
      obtain ⟨v,h1,h2⟩:=ZR r q
      refine ⟨v,?_,h2⟩
      rw [List.getElem?_append_left (by rw [List.length_map]; omega),List.getElem?_map,h1]
      rfl
  · rw [List.getElem?_append_right (by simpa using hi),List.getElem?_replicate] at e
    split at e <;> cases e
theorem Zgk {N:List Str} {vs:List V} (h:vs.length≤N.length):(L2.start N vs).length=N.length:=by
  unfold L2.start
  rw [List.length_append,List.length_map,List.length_replicate]
  omega
theorem fn_okW {P:Program} {w:World} {mg:Str→Option Value} {base:Heap} {x qual:Str} {st:Stmt} {f:Addr} {fd:FuncData} {N ps:List Str} {fi:Nat} {d:Fn} (F:Fun K x qual st f fd) (S:FnScope N ps (Za st)) (hd:fns[fi]? = some d) (hps:d.ps=ps.length) (hn:d.n=N.length)
    (hbody:∀ (cdv:Value) (A:Around) (outer:List PySem.Env) (s:Shared) (H:Hp) (E:XK),Room k (A.deeper (envOfC qual (Za st) s.heap.objs.size f cdv))→∀ (xe:Value→Shared→Prop) (pn:List (Addr×Obj)) (xr:XR),
      Go (asX (cxOf (CXF P w) P w K mg base N qual (Za st) f cdv A outer s H E) xe pn) xr→PSs (asX (cxOf (CXF P w) P w K mg base N qual (Za st) f cdv A outer s H E) xe pn) (Ze st) (tS K (Z4 fns gv k) gv xr N.length d.body)) :
    FnOk P w K mg base (CXF P w) (k + 1) f fd ps (spF K fns gv (k + 1) fi):=by
  have hpl:ps.length≤N.length:=by have:=congrArg List.length S.pre; rw [List.length_take] at this; omega
  have len:∀ {ws:List W} {m:Mem} {cm:List Addr} {H:Hp} {xr:XR} {post:W→List Addr→Mem→Hp→Prop},OkR K (Z4 fns gv (k + 1) fi ws m) xr cm m H post→ws.length=d.ps∧OkR K ((ex (Z4 fns gv k) gv d.body (ws.map some++List.replicate (d.n - d.ps) none) m).bind fun fl m'=>fin m.length d.cell fl m') xr cm m H post:=fun {ws m cm H xr post} h=>by
    rw [Z4,hd] at h
    dsimp only at h
    by_cases hc:ws.length=d.ps
    · rw [if_pos hc] at h; exact ⟨hc,h⟩
    · rw [if_neg hc] at h; exact h.elim
  refine ZkO F S (fun vs H Q E ⟨cm,m,ws,M,r,ho⟩=>by rw [← r.length,(len ho).1,hps]) (fun cdv A outer s H vs Q E hr hk ⟨cm,m,ws,M,r,ho⟩=>?_)
  obtain ⟨hl,ho⟩:=len ho
  have hv:vs.length=ps.length:=by rw [← r.length,hl,hps]
  refine ⟨_,hbody cdv A outer s H E hr _ _ (xrE K E) ZkL,Zgk (by omega),ws.map some++List.replicate (d.n - d.ps) none,cm,m,ZjO r (by rw [hn,hps,hv]),M,?_⟩
  exact ho.bind0.mono fun fl cm1 m1 H1 x1 M1 o1=>fin_ok M x1 M1 o1
theorem ZD {P:Program} {w:World} {mg:Str→Option Value} {base:Heap} {f:Addr} {fd:FuncData} {ps:List Str} {fi:Nat}:FnOk P w K mg base (CXF P w) 0 f fd ps (spF K fns gv 0 fi):=by
  have no:∀ vs H Q E,¬ spF K fns gv 0 fi vs H Q E:=fun vs H Q E ⟨cm,m,ws,M,r,ho⟩=>by
    rw [Z4] at ho
    exact ho
  exact ⟨fun vs H Q E h=>absurd h (no vs H Q E),fun A outer s H args us vs Q E _ _ _ _ h=>absurd h (no vs H Q E)⟩
end
end Mi
end
section
namespace Mi
open PySem PySem.Spec PyProof.Rows L2 PySem.W
theorem ZiR {P:Program} {w:World} {K:Frag} {mg:Str→Option Value} {base:Heap} {x qual a b nm:Str} {st:Stmt} {f e C:Addr} {fd:FuncData} {p1 p2 p3 p4:Pos} {A:Around} {outer:List PySem.Env} {s:Shared} {H:Hp} {v:V} {u:Value}
    (F:Fun K x qual st f fd) (S:FnScope [a,b] [a,b] (Za st)) (hb:Ze st=[.Assign [.Attribute (.Name a p1) nm p2] (.Name b p3) p4]) (bd:Binds K fd [a,b] []) (xs:XSet K C nm)
    (hd:A.handled=none) (hdep:A.depth < recursionLimit) (e0:Env0 P w K mg base A outer s H) (he:H e=some (xeO e C none .none)) (rv:RelV v u)
    (ha:(a == ("__debug__" : Str))=false) (hb':(b == ("__debug__" : Str))=false) (ha2:(a == ("__classdict__" : Str))=false) (hb2:(b == ("__classdict__" : Str))=false) :
    codeAny (model P w) A (.call (.ref f) ⟨[.ref e,u],[]⟩) (fun r s'=>r = .ok (.ret .none)∧∃ d,H d=none∧s'.os=s.os∧AllBare s'.gens∧Un (frs outer) [] H (setH H e C d nm v) s.heap s'.heap∧HOk P w (setH H e C d nm v) s'.heap) s:=by
  obtain ⟨oc,od,kV,doc,pm,an,cdv,ct,osl,rfl,lk,hcd⟩:=F.ex
  have KX:K.In s.heap:=e0.mod.kin.keeps fun b o e=>(e0.bs b o e).1
  have lim:s.heap.NoLimit:=e0.mod.nolimit.keeps fun b o e=>(e0.bs b o e).1
  have r:Vals [V.ref e,v] [Value.ref e,u]:=.cons rfl (.cons rv .nil)
  have hkind:∀ y∈[a,b].zip [Value.ref e,u],(Za st).names.lookup y.1=some .local∨((Za st).names.lookup y.1=some .cell∧((cellsFrom (s.heap.objs.size + 1) (Za st).names []).lookup y.1).isSome=true):=fun ⟨n,v⟩ hy=>by
    rcases S.par n (List.of_mem_zip hy).1 with q | q
    · exact .inl q
    · exact .inr ⟨q,PySem.W.cellsFrom_some _ _ _ (.inl q)⟩
  refine codeAny_call_function hdep (KX _ _ lk) rfl S.co S.gen rfl (PySem.W.codeRec_of KX hcd) (bd s [.ref e,u] KX rfl _ _ _ _ ?_)
  refine wpAny_newFunctionEnv_cells S.kind hkind fun env he' s1 x=>?_
  subst he'
  refine ⟨lim.keeps x.toInCall.keep,codeAny_func ?_⟩
  let E:XK:=fun _ _ _=>False
  have I:Inv (cxOf CX0 P w K mg base [a,b] qual (Za st) f cdv A outer s H E).nox [] (start [a,b] [V.ref e,v]) H s1:=Inv.wish (ZdA (CX:=CX0) (E:=E) S hd e0 rfl r x) _
  have vis:∀ y∈[a,b],Vis (Za st) y:=fun y hy=>(S.par y hy).elim .inl fun z=>.inr (.inl z)
  have body:PSs (cxOf CX0 P w K mg base [a,b] qual (Za st) f cdv A outer s H E).nox (Ze st) (tSeq (sFldX K (tVar 0) (tVar 1) nm) tNext):=by
    rw [hb]
    exact QJ (ZjY (ZgE (i:=0) rfl (vis a (by simp)) ha ha2) (ZgE (i:=1) rfl (vis b (by simp)) hb' hb2)) Zgw
  refine wpAny_mono (wpAny_noRaise (body [] s1 _ H { nx:=fun _ H'=>∃ d,H d=none∧H' = setH H e C d nm v,rt:=fun _ _=>False } I ?_)) (fun fl s' hs=>?_) fun e s' hs=>hs
  · exact ⟨v,rfl,V.ref e,rfl,e,C,rfl,he,xs,fun d hd=>⟨d,hd,rfl⟩⟩
  · cases fl with
    | next =>
      obtain ⟨σ',H',J,d,hd,rfl⟩:=hs
      exact ⟨rfl,d,hd,J.os,J.bare,J.base,J.hok⟩
    | ret u =>
      obtain ⟨_,_,_,_,_,q⟩:=hs
      exact False.elim q
    | brk =>
      obtain ⟨_,_,_,q⟩:=hs
      exact False.elim q
    | cont =>
      obtain ⟨_,_,_,q⟩:=hs
      exact False.elim q
end Mi
end
section
namespace Mi
open PySem PySem.Spec PyProof.Rows L2 PySem.W
noncomputable def bmV:List Value:=[.type "ValueError",.type "Exception",.type "BaseException",.type "object"]
noncomputable def xcIn (K:Frag) (C:Addr):Bool:=match K.lookup C with
  | some ⟨.type "type",_,.cls cd,sl⟩=>(match cd.mro,sl.toList with
    | .ref C' :: bm,[_,_,_,_,some (.builtin n),_]=>C' == C && n == "ValueError.__new__" && !cd.hasDel && tailIn K bmV bm
    | _,_=>false)
  | _=>false
theorem xc_of {K:Frag} {h:Heap} {C:Addr} (X:K.In h) (q:xcIn K C=true):∃ nm qn N bs bm hdct sn sub ab col dd k0 k1 k2 k3 k5,h.get? C=some (excClassObj nm qn C N bs bm hdct sn sub ab col dd k0 k1 k2 k3 k5 "ValueError.__new__")∧OwnTail h bmV bm:=by
  unfold xcIn at q
  split at q
  · rename_i dd cd sl ho
    split at q
    · rename_i C' bm k0 k1 k2 k3 n k5 hm hs
      simp only [Bool.and_eq_true,beq_iff_eq,Bool.not_eq_true'] at q
      obtain ⟨⟨⟨rfl,rfl⟩,hdel⟩,ht⟩:=q
      obtain ⟨nm,bs,mro,ns,qn,hd,sn,sub,ab,col,del⟩:=cd
      dsimp only at hm hdel
      subst hm hdel
      have hsl:sl = #[k0,k1,k2,k3,some (.builtin "ValueError.__new__"),k5]:=by
        obtain ⟨l⟩:=sl
        simp only at hs
        rw [hs]
      subst hsl
      exact ⟨nm,qn,ns,bs,bm,hd,sn,sub,ab,col,dd,k0,k1,k2,k3,k5,X _ _ ho,tail_of_in X ht⟩
    · cases q
  · cases q
theorem ZjP {M:Model} {A:Around} {E:Value→Shared→Prop} {s:Shared} {env:PySem.Env} {x:Sem Value} {Q:PySem.Flow→Shared→Prop} {K:Frag} {C:Addr} (xc:xcIn K C=true) (hh:A.handled=none)
    (h:wpAny M A x (fun v s1=>∃ e oe vs,v = .ref e∧K.In s1.heap∧s1.heap.get? e=some oe∧oe.cls = .ref C∧oe.data = .fields vs∧vs[1]? = some .none∧E (.ref e) s1) E s):wpAny M A (raiseStmt env (some x) none) Q E s:=by
  unfold raiseStmt
  refine wpAny_bind (wpAny_mono h (fun v s1 h1=>?_) fun _ _ z=>z)
  obtain ⟨e,oe,vs,rfl,X,he,hcls,hd,h1,hE⟩:=h1
  obtain ⟨nm,qn,N,bs,bm,hdct,sn,sub,ab,col,dd,k0,k1,k2,k3,k5,hC,T⟩:=xc_of X xc
  have hb:(Value.ref C :: bm).contains (.type "BaseException")=true:=by rw [List.contains_cons,T.hasType (show bmV.contains (.type "BaseException")=true by decide),Bool.or_true]
  obtain ⟨hp,g,d,tk,os⟩:=s1
  repeat (first | (with_reducible refine wpAny_loadPart_at he ?_; rw [hcls]) | with_reducible refine wpAny_loadPart_at hC ?_ | (with_reducible refine wpAny_isSubtype_exc hC ?_; rw [hb]) | with_reducible refine wpAny_field he hd h1 ?_ | wp_step)
  exact wpAny_raiseNew_none hh hE
structure XInit (K:Frag) (C:Addr) (nm:Str):Prop where
  xc:xcIn K C=true
  kp:keepIn K (.ref C)=true
  xs:XSet K C nm
  fn:∃ f fd x qual st a b p1 p2 p3 p4,findIn K (.ref C) "__init__" = some (some (.ref f))∧typeIn K (.ref f)=some (.type "function")∧Fun K x qual st f fd∧FnScope [a,b] [a,b] (Za st)∧Ze st=[.Assign [.Attribute (.Name a p1) nm p2] (.Name b p3) p4] ∧
    Binds K fd [a,b] []∧(a == ("__debug__" : Str))=false∧(b == ("__debug__" : Str))=false∧(a == ("__classdict__" : Str))=false∧(b == ("__classdict__" : Str))=false
section
variable {X:Cx} {pins:List (Addr×Obj)} {σ:L2.St} {H:Hp} {s:Shared} {C:Addr} {nm:Str} {v:V} {u:Value} {Q:Value→Shared→Prop} {E:Value→Shared→Prop}
theorem ZkZ (I:Inv X pins σ H s) (x:XInit X.K C nm) (hh:X.A.handled=none) (hdep:X.A.depth + 1 < recursionLimit) (rv:RelV v u)
    (k:∀ s' e d,Air X.prog X.w (frs X.stack) H s (upd H d (.xd [(nm,v)])) e C (some d) s'→H d=none→xeP e C (some d) .none s'.heap→Q (.ref e) s'):wpAny (model X.prog X.w) X.A (call (.ref C) [u]) Q E s:=by
  obtain ⟨f,fd,xn,qual,st,a,b,p1,p2,p3,p4,hi,hf,F,S,hb,bd,n1,n2,n3,n4⟩:=x.fn
  obtain ⟨cn,qn,N,bs,bm,hdct,sn,sub,ab,col,dd,k0,k1,k2,k3,k5,hC,T⟩:=xc_of I.kIn x.xc
  have kp:∀ b o,s.heap.get? b=some o→((s.heap.push (tupX [u])).push (newX C s.heap.objs.size)).get? b=some o:=fun b o e=>Heap.get?_push_of_some _ (Heap.get?_push_of_some _ e)
  have hx:((s.heap.push (tupX [u])).push (newX C s.heap.objs.size)).get? (s.heap.objs.size + 1)=some (newX C s.heap.objs.size):=by heap_get
  have I2:Inv X pins σ (upd H (s.heap.objs.size + 1) (xeO (s.heap.objs.size + 1) C none .none)) { s with heap:=(s.heap.push (tupX [u])).push (newX C s.heap.objs.size) } :=
    I.laid (t':=s.toks) kp (Nat.le_succ _) (ZjA ⟨_,_,hx,rfl,rfl,rfl,rfl⟩)
  have nE:s.heap.get? (s.heap.objs.size + 1)=none:=Heap.get?_none_of_le (Nat.le_succ _)
  obtain ⟨hp,g,d,tk,os⟩:=s
  refine wpAny_call (make_x PySem.F.excBase_ValueError T hC (looks_findIn I.kIn hi) (fun self=>bind_fn I.kIn self hf) ?_ (show 1≤sizeLine by decide))
  refine codeAny_mono (ZiR F S hb bd x.xs (by first | exact hh | simpa [Around.under] using hh) (by rw [Zb6]; exact hdep) (I2.env0.make C [u] []) ZK rv n1 n2 n3 n4) fun r s' z=>?_
  obtain ⟨rfl,d',nd,q1,q2,q3,q4⟩:=z
  generalize hE:hp.objs.size + 1=e' at *
  have nHe:H e' = none:=Zhj I.hok nE
  have nde:d'≠e':=fun z=>by rw [z,ZK] at nd; cases nd
  have nd':H d' = none:=by rw [Zm nde] at nd; exact nd
  have un3:=(Un.laid (fs:=frs X.stack) (ex:=[]) (o:=xeO e' C none .none) kp (by rw [← hE]; exact Nat.le_succ _) nHe).trans q3
  generalize hS:setH (upd H e' (xeO e' C none .none)) e' C d' nm v=HS at *
  have sE:HS e' = some (xeO e' C (some d') .none):=by rw [← hS]; unfold setH; rw [ZK]
  have sD:HS d' = some (.xd [(nm,v)]):=by rw [← hS]; unfold setH; rw [Zm nde,ZK]
  have sO:∀ b,b≠e'→b≠d'→HS b=H b:=fun b h1 h2=>by rw [← hS]; unfold setH; rw [Zm h1,Zm h2,Zm h1]
  have toS:∀ b u,upd H d' (.xd [(nm,v)]) b=some u→HS b=some u:=fun b u q=>by
    by_cases hb:b=d'
    · subst hb; rw [ZK] at q; rw [sD]; exact q
    · rw [Zm hb] at q
      rw [sO b (fun z=>by rw [z,nHe] at q; cases q) hb]; exact q
  have ofS:∀ b u,HS b=some u→b≠e'→upd H d' (.xd [(nm,v)]) b=some u:=fun b u q n=>by
    by_cases hb:b=d'
    · subst hb; rw [ZK]; rw [sD] at q; exact q
    · rw [Zm hb,← sO b n hb]; exact q
  obtain ⟨xp,_⟩:=q4 e' _ sE
  have nS:∀ b u,HS b=some u→(∀ φ,u≠.ext φ)→b≠e':=fun b u q n z=>by rw [z,sE] at q; cases q; exact n _ rfl
  refine ⟨rfl,k s' e' d' ⟨q1,q2,⟨un3.keep,un3.slot,fun b o q n hx=>?_,un3.there,fun b xs q=>?_,fun b o u q=>?_,fun b ps q=>⟨#[],?_⟩⟩,fun b u q=>?_,?_,nE,_,xp,.inl rfl⟩ nd' xp⟩
  · have z:=un3.free b o q n hx
    by_cases hb:b=d'
    · subst hb; rw [sD] at z; cases z
    · rw [Zm hb]; exact n
  · rw [Zm (fun z=>by rw [z,nd'] at q; cases q)]; exact q
  · rw [Zm (fun z=>by rw [z,nd'] at q; cases q)]; exact q
  · rw [Zm (fun z=>by rw [z,nd'] at q; cases q),q]; simp
  · refine (q4 b u (toS b u q)).stay (fun _ _ _ z=>z) (fun c z=>ofS c _ z (nS c _ z fun _ y=>by cases y)) fun c xs z=>ofS c _ z (nS c _ z fun _ y=>by cases y)
  · rw [Zm (Ne.symm nde)]; exact nHe
end
section
variable {X:Cx} {C:Addr} {nm:Str} {xr:XR} {call':Nat→List W→Mem→Res W} {gv:List T} {e:Expr} {ea:E} {x:Str} {np cpos pos:Pos} {rest:List Stmt} {k:S} {n kk:Nat}
theorem Zgv (lk:Lk X xr) (xi:XInit X.K C nm) (hm:X.mg x=some (.ref C)) (hg:Gl X x) (hc:X.calm=true) (hr:Room kk X.A) (ha:PE X e (tE X.K call' gv xr ea)) (he:notStar e=true:=by rfl) (hdb:(x == ("__debug__" : Str))=false:=by decide) :
    PSs X (.Raise (some (.Call (.Name x np) [e] [] cpos)) none pos :: rest) (tS X.K call' gv xr n (.rse C [nm] (.cons ea .nil) k)):=by
  rintro pins s σ H D I ⟨hl,env,cm,m,hE,M,ho⟩
  have hh:=I.ok.hd hc
  rw [ex] at ho
  refine wpAny_execs_cons ?_
  rw [arm_exec_Raise]
  refine wpAny_bind (wpAny_standAt ?_)
  show wpAny _ _ (raiseStmt X.env (some (do let v ← eval (.Call (.Name x np) [e] [] cpos) X.env; standAt pos; pure v)) none) _ _ _
  refine ZjP xi.xc hh (wpAny_bind ?_)
  refine wpAny_Call_Name_kw (Zat I hg hm ?_ hdb)
  refine PySem.W.callWith_K (h₀:=X.base) I.ok.mod.kin xi.kp (thn (ZeL ha ZgN he cpos pins s σ H (fun vs H1=>∃ cm1 m1 ws,MemR X.K cm1 m1 H1∧RWs X.K cm1 m1 H1 ws vs∧OkR X.K _ xr cm1 m1 H1 _) I ⟨env,cm,m,hE,M,ho.bind.mono fun ws cm1 m1 H1 x1 M1 o1 vs rvs=>⟨cm1,m1,ws,M1,rvs,o1⟩⟩) fun us s1 ⟨vs,H1,I1,r,cm1,m1,ws,M1,rvs,o1⟩=>⟨I1.kIn,?_⟩) (Qv he) rfl
  cases q:frzs ws m1 with
  | stuck=>rw [q] at o1; exact o1.elim
  | exc y m2=>exact absurd q Zay
  | ok ts m2 =>
    rw [q] at o1
    obtain ⟨x2,M2,r2⟩:=Zax M1 rvs q
    have o1:OkR X.K (if ([nm]:List Str)=[] then (if ts.length≤1000 then Res.exc (a:=Flow) ⟨C,[],[]⟩ m2 else .stuck) else if ts.length=([nm]:List Str).length then .exc ⟨C,[nm],ts⟩ m2 else .stuck) xr cm1 m1 H1 _:=o1
    rw [if_neg (by simp)] at o1
    split at o1
    · rename_i hlen
      have hv1:vs.length=1:=by rw [← r2.length,hlen]; rfl
      obtain ⟨v,rfl⟩:=List.length_eq_one_iff.mp hv1
      cases r with
      | cons ru r' =>
        cases r'
        refine ZkZ I1 xi hh (by have:=hr.dp; omega) ru fun s' e' d air nd xp=>?_
        obtain ⟨oe,vv,y1,y2,y3,y4,y5⟩:=xp
        refine wpAny_bind (wpAny_standAt (wpAny_pure ?_))
        refine ⟨e',oe,vv,rfl,(Inv.air I1 air).kIn,y1,y2,y4,y5,?_⟩
        have keep:∀ a o,H1 a=some o→upd H1 d (.xd [(nm,v)]) a=some o:=Z5 nd
        have Mm:=M2.new (o:=.xd [(nm,v)]) nd
        refine lk pins σ H1 s1 (upd H1 d (.xd [(nm,v)])) e' (some d) s' cm1 m2 ⟨C,[nm],ts⟩ I1 air Mm ⟨[v],ZK,rfl,Zh (fun _ _ z=>z.same keep fun _ n _=>n) r2⟩ ?_
        exact o1 cm1 _ (x2.trans (.new nd)) Mm
    · exact o1.elim
structure XPlain (K:Frag) (C:Addr):Prop where
  xc:xcIn K C=true
  kp:keepIn K (.ref C)=true
  no:excIn K C bmV "ValueError.__new__" = true
end
end Mi
end
section
namespace Mi
open PySem PySem.Spec PyProof.Rows L2 PySem.W
noncomputable abbrev hndX (X:Cx) (A:Around) (pn:List (Addr×Obj)):Cx:={ X with A:=A,calm:=false,xe:=fun _ _=>False,pn:=pn }
section
variable {X:Cx} {pins pins':List (Addr×Obj)} {σ:L2.St} {H:Hp} {s:Shared} {xe:Value→Shared→Prop} {e:Option Value}
theorem inv_as (I:Inv X pins σ H s) (xe:Value→Shared→Prop):Inv (asX X xe (X.pn++pins)) [] σ H s :=
  ⟨⟨I.ok.mod,I.ok.kind,I.ok.glob,I.ok.blt,I.ok.above,I.ok.inj,I.ok.has,I.ok.cab,I.ok.hd,I.ok.frames,I.ok.stk,I.ok.exf,I.ok.bs,I.ok.bsz,I.ok.noex,I.ok.exfs,I.ok.funs,I.ok.frf⟩,I.os,I.bare,I.base,I.loc,I.cell,I.free,I.freeC,fun p hp=>I.pin p (by rw [List.append_nil] at hp; exact hp),I.hok,I.len⟩
theorem Zdz (I:Inv (asX X xe (X.pn++pins)) pins' σ H s):Inv X pins σ H s :=
  ⟨⟨I.ok.mod,I.ok.kind,I.ok.glob,I.ok.blt,I.ok.above,I.ok.inj,I.ok.has,I.ok.cab,I.ok.hd,I.ok.frames,I.ok.stk,I.ok.exf,I.ok.bs,I.ok.bsz,I.ok.noex,I.ok.exfs,I.ok.funs,I.ok.frf⟩,I.os,I.bare,I.base,I.loc,I.cell,I.free,I.freeC,fun p hp=>I.pin p (List.mem_append_left _ hp),I.hok,I.len⟩
theorem Zhi (I:Inv X pins σ H s) (e:Option Value):Inv (hndX X (X.A.mark e) (X.pn++pins)) [] σ H s :=
  ⟨⟨I.ok.mod,I.ok.kind,I.ok.glob,I.ok.blt,I.ok.above,I.ok.inj,I.ok.has,I.ok.cab,(fun z=>nomatch z),I.ok.frames,I.ok.stk,I.ok.exf,I.ok.bs,I.ok.bsz,I.ok.noex,I.ok.exfs,I.ok.funs,I.ok.frf⟩,I.os,I.bare,I.base,I.loc,I.cell,I.free,I.freeC,fun p hp=>I.pin p (by rw [List.append_nil] at hp; exact hp),I.hok,I.len⟩
theorem Zhh {A:Around} (ok:X.Ok) (I:Inv (hndX X A (X.pn++pins)) pins' σ H s):Inv X pins σ H s :=
  ⟨ok,I.os,I.bare,I.base,I.loc,I.cell,I.free,I.freeC,fun p hp=>I.pin p (List.mem_append_left _ hp),I.hok,I.len⟩
theorem ZcT {M:Model} {A:Around} {E:Value→Shared→Prop} {i:Nat} {x:Str} {pos:Pos} {Q:Unit→Shared→Prop} (I:Inv X pins σ H s) (hN:X.N.Nodup) (hi:X.N[i]? = some x) (hk:X.env.scope.names.lookup x=some .local)
    (h:∀ s',Inv X pins (σ.set i none) H s'→Q () s'):wpAny M A (do bindName X.env x .none; unbindBehindTheSuite X.env x pos) Q E s:=by
  obtain ⟨m,hn,hl⟩:=id I.loc
  have hcls:(X.env.scope.kind == .class || (X.env.scope.kind == .module && X.env.locals != X.env.globals))=false:=by rw [I.ok.kind]; rfl
  have hiσ:i < σ.length:=by rw [I.len]; exact (List.getElem?_eq_some_iff.mp hi).1
  obtain ⟨oL,_,_,hoL,_⟩:=id hn
  have lt:∀ b o,X.s₀.heap.get? b=some o→b≠X.env.locals:=fun b o e=>Nat.ne_of_lt (Nat.lt_of_lt_of_le (Heap.lt_size e) I.ok.above)
  refine wpAny_nameGoes_keeps hk hn hcls fun h' v hn' hs=>?_
  refine h _ ⟨I.ok,I.os,I.bare,⟨fun b o e n hb hx=>?_,fun b o e n hb hx=>?_,I.base.free,fun b o e hx=>?_,I.base.tups,I.base.frzs,I.base.tbls⟩,⟨_,hn',fun j y v' e1 e2 e3=>?_⟩,fun y c e=>?_,I.free,I.freeC,fun p hp=>?_,fun b ob e=>?_,by simpa using I.len⟩
  · exact (hs.2 b (lt b o e)).trans (I.base.keep b o e n hb hx)
  · obtain ⟨sl,e1⟩:=I.base.slot b o e n hb hx
    exact ⟨sl,(hs.2 b (lt b o e)).trans e1⟩
  · obtain ⟨o',e1⟩:=I.base.there b o e hx
    exact ⟨o',(hs.2 b (lt b o e)).trans e1⟩
  · have hj:j≠i:=fun z=>by
      rw [z,List.getElem?_set_self hiσ] at e2; cases e2
    rw [List.getElem?_set_ne (Ne.symm hj)] at e2
    obtain ⟨u',r',q⟩:=hl j y v' e1 e2 e3
    refine ⟨u',r',?_⟩
    rcases q with ⟨k,e⟩ | ⟨k,c,e,z⟩
    · refine .inl ⟨k,?_⟩
      have:y≠x:=fun e=>hj (ZcB hN e1 (e ▸ hi))
      simp [this,e]
    · exact .inr ⟨k,c,e,z.sameBut hs (I.cne y c e)⟩
  · obtain ⟨w',z⟩:=I.cell y c e
    exact ⟨w',z.sameBut hs (I.cne y c e)⟩
  · obtain ⟨e,n,ne,nf,d⟩:=I.pin p hp
    exact ⟨(hs.2 p.1 ne).trans e,n,ne,nf,d⟩
  · refine (I.hok b ob e).stay (fun c w' hc q=>(hs.2 c ?_).trans q) (fun _ q=>q) fun _ _ q=>q
    rintro rfl
    rcases hc with rfl | hc
    · rw [I.free] at e; cases e
    · rw [I.free] at hc; cases hc
theorem ZkI {e' C:Addr} {dx:Option Addr} {hd:Value} (I:Inv X pins σ H s) (he:H e' = none) (xp:xeP e' C dx hd s.heap) (n0:X.s₀.heap.get? e' = none) (np:∀ p∈X.pn++pins,p.1≠e') :
    ∃ oe,oe.cls = .ref C∧oe.dict=dx∧(∃ fs,oe.data = .fields fs)∧Inv X pins σ (upd H e' (.frz oe (xeO e' C dx hd))) s:=by
  obtain ⟨oe,vs,q1,q2,q3,q4,q5⟩:=id xp
  refine ⟨oe,q2,q3,⟨_,q4⟩,I.ok,I.os,I.bare,⟨I.base.keep,I.base.slot,fun b o q n hx=>?_,I.base.there,fun b xs q=>?_,fun b o u q=>?_,fun b ps q=>?_⟩,I.loc,I.cell,?_,fun x c hc=>?_,fun p hp=>?_,fun b u q=>?_,I.len⟩
  · rw [Zm (fun z=>by rw [z,n0] at q; cases q)]; exact I.base.free b o q n hx
  · exact Z5 he _ _ (I.base.tups b xs q)
  · exact Z5 he _ _ (I.base.frzs b o u q)
  · obtain ⟨more,z⟩:=I.base.tbls b ps q
    exact ⟨more,Z5 he _ _ z⟩
  · obtain ⟨m,⟨o,es,ep,e1,e2,_⟩,_⟩:=I.loc
    rw [Zm (fun z=>by rw [z,q1] at e1; cases e1; rw [q4] at e2; cases e2)]; exact I.free
  · obtain ⟨w',o,e1,e2⟩:=I.cell x c hc
    rw [Zm (fun z=>by rw [z,q1] at e1; cases e1; rw [q4] at e2; cases e2)]; exact I.freeC x c hc
  · obtain ⟨a1,a2,a3⟩:=I.pin p hp
    exact ⟨a1,by rw [Zm (np p hp)]; exact a2,a3⟩
  · by_cases hb:b=e'
    · subst hb
      rw [ZK] at q; cases q
      exact ⟨q1,ZjA xp⟩
    · rw [Zm hb] at q
      exact (I.hok b u q).stay (fun _ _ _ q=>q) (fun c r=>Z5 he _ _ r) fun c xs r=>Z5 he _ _ r
end
theorem ZeZ {M:Model} {A:Around} {E:Value→Shared→Prop} {s:Shared} {e T:Addr} {oe oT:Obj} {vs ts:Array Value} {Q:Unit→Shared→Prop} (he:s.heap.get? e=some oe) (hv:oe.data = .fields vs) (h1:vs[1]? = some (.ref T)) (hT:s.heap.get? T=some oT) (dT:oT.data = .fields ts) (mT:ts[3]? = some .none)
    (k:Q () s):wpAny M A (setFlight (.ref e) none) Q E s:=by
  unfold setFlight
  refine wpAny_bind (wpAny_field he hv h1 ?_)
  rw [if_pos (show (Value.ref T != Value.none)=true from by simp)]
  refine wpAny_setField hT dT (Array.getElem?_eq_some_iff.mp mT).1 ?_
  show Q () { s with heap:=s.heap.update T (Obj.mapFields (·.setIfInBounds 3 .none)) }
  rw [Heap.update_setField_same s.heap T oT ts 3 .none hT dT mT]
  exact k
end Mi
end
section
namespace Mi
open PySem PySem.Spec PyProof.Rows L2 PySem.W
section
variable {X:Cx} {xr:XR} {call:Nat→List W→Mem→Res W} {gv:List T} {n:Nat}
noncomputable def HName (X:Cx) (i:Option Nat) (nmo:Option Str):Prop:=match i,nmo with
  | none,none=>True
  | some j,some x=>X.N[j]? = some x∧X.env.scope.names.lookup x=some .local
  | _,_=>False
noncomputable def unS (i:Option Nat) (σ:L2.St):L2.St:=match i with
  | some j=>σ.set j none
  | none=>σ
theorem ZjJ {i:Option Nat} {σ:L2.St}:(unS i σ).length=σ.length:=by
  cases i with
  | none=>rfl
  | some j=>exact List.length_set
theorem EnvR.unE {K:Frag} {cm:List Addr} {m:Mem} {H:Hp} {env:Env} {σ:L2.St} (h:EnvR K cm m H env σ) (i:Option Nat):EnvR K cm m H (Mi.unE i env) (unS i σ):=by
  cases i with
  | none=>exact h
  | some j =>
    intro l w e
    have e:(env.set j none)[l]? = some (some w):=e
    by_cases hj:l=j
    · subst hj
      rw [List.getElem?_set] at e
      simp only [if_pos] at e
      split at e <;> cases e
    · rw [List.getElem?_set_ne (Ne.symm hj)] at e
      obtain ⟨v,h1,h2⟩:=h l w e
      refine ⟨v,?_,h2⟩
      show (σ.set j none)[l]? = _
      rw [List.getElem?_set_ne (Ne.symm hj)]; exact h1
theorem Zij {body:List Stmt} {y:Str} {yp hpos pos:Pos} {nmo:Option Str} {b0:Stmt} {suite rest:List Stmt} {sb sh k:S} {yes:List Nat} {i:Option Nat} {D:Addr}
    (hex:X.ex=[]) (hst:X.stack=X.env :: X.outer) (hfr:X.env.frame=some X.env.locals) (hN:X.N.Nodup) (hn:X.N.length=n) (hi:HName X i nmo) (hg:Gl X y) (hm:X.mg y=some (.ref D)) (hy:∀ c∈yes,exmOne X.K (.ref c) (.ref D)=some true)
    (hb:∀ xe pn xr',Go (asX X xe pn) xr'→PSs (asX X xe pn) body (tS X.K call gv xr' n sb)) (hh:∀ A pn,PSs (hndX X A pn) (b0 :: suite) (tS X.K call gv xr0 n sh)) (hk:PSs X rest (tS X.K call gv xr n k)) (hdb:(y == ("__debug__" : Str))=false:=by decide) :
    PSs X (.Try body [.ExceptHandler (some (.Name y yp)) nmo (b0 :: suite) hpos] [] [] pos :: rest) (tS X.K call gv xr n (.tri sb yes i sh k)):=by
  rintro pins s σ H D0 I ⟨hl,env,cm,m,hE,M,ho⟩
  refine wpAny_execs_cons (wpAny_Try_except ?_)
  have run:∀ xr' xe',Go (asX X xe' (X.pn++pins)) xr'→OkR X.K (ex call gv sb env m) xr' cm m H (fun fl cm' m' H'=>ZaX X.K n { D0 with nx:=tS X.K call gv xr n k D0 } fl cm' m' H') →
      wpAny (model X.prog X.w) X.A (execs body X.env) (fun f s1=>match f with
        | .next=>wpAny (model X.prog X.w) X.A (execs [] X.env) (fun f s'=>match f with
          | .next=>wpAny (model X.prog X.w) X.A (execs rest X.env) (SP X pins D0) X.xe s'
          | f=>SP X pins D0 f s') X.xe s1
        | f=>(match f with
          | .next=>wpAny (model X.prog X.w) X.A (execs rest X.env) (SP X pins D0) X.xe s1
          | f=>SP X pins D0 f s1)) xe' s:=fun xr' xe' go o=>by
    refine wpAny_mono (hb xe' (X.pn++pins) xr' go [] s σ H _ (inv_as I xe') ⟨hl,env,cm,m,hE,M,o⟩) (fun f s1 q=>?_) fun _ _ z=>z
    cases f with
    | next =>
      obtain ⟨σ',H',I',q⟩:=q
      exact wpAny_execs_nil (hk pins s1 σ' H' D0 (Zdz I') q)
    | ret u=>obtain ⟨v,σ',H',I',r,q⟩:=q; exact ⟨v,σ',H',Zdz I',r,q⟩
    | brk=>obtain ⟨σ',H',I',q⟩:=q; exact ⟨σ',H',Zdz I',q⟩
    | cont=>obtain ⟨σ',H',I',q⟩:=q; exact ⟨σ',H',Zdz I',q⟩
  rw [ex] at ho
  cases r:ex call gv sb env m with
  | stuck=>rw [r] at ho; exact ho.elim
  | ok fl m1 =>
    rw [r] at ho run
    refine run xr0 _ ⟨lk0,PassesOwn.looking⟩ fun cm1 H1 x1 M1=>?_
    cases fl with
    | next env'=>exact fun σ' hl' hE'=>⟨hl',env',cm1,m1,hE',M1,OkR.shift ho x1⟩
    | ret w=>show ZaX X.K n D0 (.ret w) cm1 m1 H1; exact OkR.to (xr:=xr) (a:=Flow.ret w) ho x1 M1
    | brk env'=>show ZaX X.K n D0 (.brk env') cm1 m1 H1; exact OkR.to (xr:=xr) (a:=Flow.brk env') ho x1 M1
    | cont env'=>show ZaX X.K n D0 (.cont env') cm1 m1 H1; exact OkR.to (xr:=xr) (a:=Flow.cont env') ho x1 M1
  | exc x m1 =>
    rw [r] at ho run
    dsimp only at ho
    by_cases hx:x.cls∈yes
    · rw [if_pos hx] at ho
      refine run (fun x' cm' m' H'=>x' = x∧m' = m1∧Ext cm m H cm' m1 H') _ ⟨?_,PassesOwn.looking⟩ fun cm1 H1 x1 M1=>⟨rfl,rfl,x1⟩
      rintro pins1 σ1 H1 s1 H' e dx s' cm' m' x' I1 air M' hf ⟨rfl,rfl,x1⟩
      have I':=Inv.air I1 air
      have st:(asX X (asX X (fun _ _=>False) []).xe []).stack=X.env :: X.outer:=hst
      have air2:Air X.prog X.w (frs (X.env :: X.outer)) H1 s1 H' e x'.cls dx s':=by rw [← hst]; exact air
      have fre:∀ b∈frs (X.env :: X.outer),H' b=none:=by rw [← hst]; exact I'.stkFree
      have fun':s'.heap.FunFrames X.base (X.env :: X.outer):=by rw [← hst]; exact I'.stack
      have frm:X.A.frames=some (X.env :: X.outer):=by rw [← hst]; exact I'.ok.frames
      refine land air2 fre frm fun' hfr fun h2 T a2 xp xt neT=>?_
      have I2:=Inv.air I1 (show Air X.prog X.w (frs X.stack) H1 s1 H' e x'.cls dx { s' with heap:=h2 } by rw [hst]; exact a2)
      have I3:Inv X pins σ1 H' { s' with heap:=h2 }:=Zdz I2
      have np:∀ p∈X.pn++pins,p.1≠e:=fun p hp z=>by
        have q:=(I1.pin p (List.mem_append_left _ hp)).1
        rw [z,air.new] at q; cases q
      have J:Inv X pins (List.replicate n none) H' { s' with heap:=h2 }:=I3.weak (by rw [List.length_replicate,I3.len,hn]) fun j v z=>by
        rw [List.getElem?_replicate] at z
        split at z <;> cases z
      obtain ⟨oe,vs,y1,y2,y3,y4,y5⟩:=id xp
      obtain ⟨oT,ts,z1,z2,z3⟩:=id xt
      refine wpAny_handleBy_cons (codeAny_handlers_test (Zat (Zhi J (some (.ref e))) hg hm ?_ hdb)) (by intro q; cases q)
      have LT:Looks (model X.prog X.w) h2 (typeOf (.ref e)) oe.cls:=(Looks.ld y1).andThen .now
      rw [y2] at LT
      refine (exm_one (M:=model X.prog X.w) J.kIn LT (hy _ hx)).here (s:={ s' with heap:=h2 }) ?_
      rw [if_pos rfl]
      dsimp only
      have go:∀ σ2 H2 s2 cm2,Inv X pins σ2 H2 s2→σ2.length=n→EnvR X.K cm2 m' H2 (hEnv env.length i x') σ2→MemR X.K cm2 m' H2→Ext cm m H cm2 m' H2 →
          wpAny (model X.prog X.w) (X.A.mark (some (.ref e))) (execs (b0 :: suite) X.env) (SP X pins { nx:=fun σ3 H3=>tS X.K call gv xr n k D0 (unS i σ3) H3,rt:=D0.rt }) (fun _ _=>False) s2:=fun σ2 H2 s2 cm2 I4 hl2 hE2 M2 x2=>by
        refine wpAny_mono (hh (X.A.mark (some (.ref e))) (X.pn++pins) [] s2 σ2 H2 { nx:=fun σ3 H3=>tS X.K call gv xr n k D0 (unS i σ3) H3,rt:=D0.rt } (Zhi I4 _) ⟨hl2,hEnv env.length i x',cm2,m',hE2,M2,?_⟩) (fun f s3 q=>?_) fun _ _ z=>z
        · cases r2:ex call gv sh (hEnv env.length i x') m' with
          | stuck=>rw [r2] at ho; exact ho.elim
          | exc x3 m3=>rw [r2] at ho; exact ho.elim
          | ok fl m3 =>
            rw [r2] at ho
            intro cm3 H3 x3 M3
            cases fl with
            | next env'=>exact fun σ3 hl3 hE3=>⟨ZjJ.trans hl3,Mi.unE i env',cm3,m3,hE3.unE i,M3,OkR.shift (show OkR X.K (ex call gv k (Mi.unE i env') m3) xr cm m H _ from ho) (x2.trans x3)⟩
            | ret w=>show ZaX X.K n D0 (.ret w) cm3 m3 H3; exact OkR.to (xr:=xr) (a:=Flow.ret w) ho (x2.trans x3) M3
            | brk env'=>exact ho.elim
            | cont env'=>exact ho.elim
        · cases f with
          | next=>obtain ⟨σ',H',I',q⟩:=q; exact ⟨σ',H',Zhh I4.ok I',q⟩
          | ret u=>obtain ⟨v,σ',H',I',r,q⟩:=q; exact ⟨v,σ',H',Zhh I4.ok I',r,q⟩
          | brk=>obtain ⟨σ',H',I',q⟩:=q; exact q.elim
          | cont=>obtain ⟨σ',H',I',q⟩:=q; exact q.elim
      unfold HName at hi
      split at hi
      · refine codeAny_handlers_suite (ZeZ (s:={ s' with heap:=h2 }) y1 y4 y5 z1 z2 z3 (wpAny_mono (go _ _ _ cm' J (List.length_replicate) (fun l w z=>?_) M' x1) (fun f s3 q=>?_) fun _ _ z=>z.elim))
        · have z:(List.replicate env.length (none:Option W))[l]? = some (some w):=z
          rw [List.getElem?_replicate] at z
          split at z <;> cases z
        · cases f with
          | next=>obtain ⟨σ',H',I',q⟩:=q; exact hk pins s3 σ' H' D0 I' q
          | ret u=>obtain ⟨v,σ',H',I',r,q⟩:=q; exact ⟨v,σ',H',I',r,q⟩
          | brk=>obtain ⟨σ',H',I',q⟩:=q; exact q.elim
          | cont=>obtain ⟨σ',H',I',q⟩:=q; exact q.elim
      · rename_i j xn
        obtain ⟨hj,hloc⟩:=hi
        have hjn:j < n:=by rw [← hn]; exact (List.getElem?_eq_some_iff.mp hj).1
        have gone:X.s₀.heap.get? e=none:=by
          cases y:X.s₀.heap.get? e with
          | none=>rfl
          | some o =>
            obtain ⟨o',y'⟩:=I1.base.there e o y (by intro z; have z:e∈X.ex:=z; rw [hex] at z; cases z)
            rw [air.new] at y'; cases y'
        obtain ⟨oe2,c1,c2,c3,I5⟩:=ZkI J a2.no xp gone np
        refine codeAny_handlers_suite_as (ZeZ (s:={ s' with heap:=h2 }) y1 y4 y5 z1 z2 z3 (Xf I5 hN hj (.inl hloc) (v:=.ref e) rfl (fun s4 I6=>?_) (.inr hloc)))
        have keep:∀ a o,H' a=some o→upd H' e (.frz oe2 (xeO e x'.cls dx (.ref T))) a=some o:=Z5 a2.no
        have M5:=M'.new (o:=.frz oe2 (xeO e x'.cls dx (.ref T))) a2.no
        refine wpAny_mono (go _ _ _ cm' I6 (by rw [List.length_set,List.length_replicate]) (fun l w z=>?_) M5 (x1.trans (.new a2.no))) (fun f s3 q=>?_) fun _ _ z=>z.elim
        · have z:((List.replicate env.length (none:Option W)).set j (some (.x x'.cls x'.nms x'.flds)))[l]? = some (some w):=z
          by_cases hlj:l=j
          · subst hlj
            refine ⟨.ref e,List.getElem?_set_self (by rw [List.length_replicate]; exact hjn),?_⟩
            rw [List.getElem?_set] at z
            simp only [if_pos] at z
            split at z
            · cases z
              refine ⟨e,oe2,_,rfl,ZK,c1,c3,?_⟩
              rw [c2]
              exact hf.same keep fun t v r=>r.same keep fun _ n _=>n
            · cases z
          · rw [List.getElem?_set_ne (Ne.symm hlj),List.getElem?_replicate] at z
            split at z <;> cases z
        · cases f with
          | next=>obtain ⟨σ',H',I',q⟩:=q; exact ZcT I' hN hj hloc fun s5 I7=>hk pins s5 _ H' D0 I7 q
          | ret u=>obtain ⟨v,σ',H',I',r,q⟩:=q; exact ZcT I' hN hj hloc fun s5 I7=>⟨v,_,H',I7,r,q⟩
          | brk=>obtain ⟨σ',H',I',q⟩:=q; exact q.elim
          | cont=>obtain ⟨σ',H',I',q⟩:=q; exact q.elim
      · exact hi.elim
    · rw [if_neg hx] at ho
      exact ho.elim
end
end Mi
end
section
namespace Mi
open PySem PySem.Spec PyProof.Rows L2 PySem.W
noncomputable def inBody (s:Stmt) (i:Nat):Stmt:=match s with
  | .ClassDef _ _ _ b _ _ _ _ _ _ _=>b.getD i (.Pass ⟨0,0,0,0⟩)
  | s=>s
structure XGet (K:Frag) (C:Addr):Prop where
  ga:findIn K (.ref C) "__getattribute__" = some (some (.builtin "BaseException.__getattribute__"))
  gn:findIn K (.ref C) "__getattr__" = some none
  mb:mroIn K C (.type "BaseException")=some true
  hd:hasDictIn K C=true
  ca:findIn K (.ref C) "__class__" = some (some (.builtin "object.__class__"))
  mo:mroIn K C (.type "object")=some true
structure XKit (K:Frag):Prop where
  hn:specialIn K (.builtin "object.__class__") "__get__" = some (some (.builtin "getset_descriptor.__get__"))
  htk:takesIn K (.builtin "object.__class__")=some true
theorem ZcE {K:Frag} {C:Addr} {od:Option Obj} {name:Str} {a g:Value} (hc:(clsIn K C).isSome=true) (ha:findIn K (.ref C) name=some (some a)) (hg:specialIn K a "__get__" = some (some g)) (ht:takesIn K a=some true):findObj K C od name=some (.bind g a):=by
  obtain ⟨cd,hc⟩:=Option.isSome_iff_exists.mp hc
  unfold findObj
  rw [hc,Option.bind_some,ha,Option.bind_some]
  simp [hg,ht]
section
variable {prog:Program} {w:World} {A:Around} {E:Value→Shared→Prop} {s:Shared} {K:Frag} {x C:Addr} {ox:Obj} {od:Option Obj} {name:Str}
theorem x_by {t:Nat} {expr fill:Bool} {Q:Value→Shared→Prop} (X:K.In s.heap) (I:InstAt s.heap x ox C od) (c:XGet K C) (ht:s.toks=t + 1)
    (h:∀ A':Around,wpAny (model prog w) A' (Builtin.«object.__getattribute__» ⟨[.ref x,.str name t],[]⟩) (fun fin s'=>match fin with | .done (.ret v)=>wpAny (model prog w) A (handedOut v) Q E s' | _=>False) (fun _ _=>False) s) :
    wpAny (model prog w) A (getAttrBy (.ref x) (.str name t) fill expr) Q E s:=by
  obtain ⟨hh,g,d,tk,os⟩:=s
  have L0:=I.type (M:=model prog w)
  have L1:=looks_findIn (M:=model prog w) X c.ga
  have L2:=looks_findIn (M:=model prog w) X c.gn
  have LB:Looks (model prog w) hh (isInstance (.ref x) (.type "BaseException")) true:=L0.andThen (looks_mroIn X c.mb)
  have f3:=PySem.F.attrBase_ValueError.ga.bind (.ref x)
  have hx0:(expr && onTheHeap (Value.builtin "BaseException.__getattribute__"))=false:=by cases expr <;> rfl
  have hx2:(Value.builtin "BaseException.__getattribute__" == Value.builtin "object.__getattribute__")=false:=by decide +kernel
  have hx1:(onTheHeap (Value.ref C) && Value.builtin "BaseException.__getattribute__" == Value.builtin "object.__getattribute__")=false:=by rw [hx2]; rfl
  unfold getAttrBy
  refine wpAny_holding (wpAny_bind (L0.at (wpAny_bind (L1.at ?_))))
  dsimp only
  rw [hx1,if_neg Bool.false_ne_true]
  unfold getAttrByItsOwn hookBefore
  rw [if_pos (show onTheHeap (Value.ref C)=true from rfl)]
  refine wpAny_bind (L2.at ?_)
  refine wpAny_bind (wpAny_attempt (wpAny_holding ?_))
  unfold callGetattribute
  rw [hx0,if_neg Bool.false_ne_true]
  unfold boundAndCalled
  rw [f3]
  refine wpAny_bind (wpAny_pure (wpAny_call (codeAny_call_builtin PySem.F.attrBase_ValueError.ga.plain PySem.F.entry_bexc_ga (@check_slot (model prog w) _ _ ⟨hh,g,d,tk,os⟩ "BaseException.__getattribute__" "BaseException" "__getattribute__" (.ref x) [.str name t] [] _ (by decide +kernel) (by decide +kernel) LB (PySem.F.args_bexc_ga (.ref x) (.str name t)) ?_))))
  refine wpAny_mono (h _) (fun fin s' z=>?_) fun _ _ z=>z.elim
  rcases fin with (_ | _ | _ | _) | _ <;> first | exact z | exact z.elim
theorem ZjB {v:Value} {expr:Bool} {Q:Value→Shared→Prop} (X:K.In s.heap) (I:InstAt s.heap x ox C od) (c:XGet K C) (hf:findObj K C od name=some (.value v)) (hh:handedIn v=true) (h:Q v { s with toks:=s.toks + 1 }) :
    wpAny (model prog w) A (getAttr (.ref x) name expr) Q E s:=by
  unfold getAttr
  refine wpAny_bind (wpAny_mkText ?_)
  refine x_by (s:={ s with toks:=s.toks + 1 }) X I c rfl fun A'=>?_
  obtain ⟨hp,g,d,t,os⟩:=s
  have L0:=I.type (M:=model prog w)
  have L1:=looks_find (M:=model prog w) X I hf
  unfold Builtin.«object.__getattribute__»
  refine wpAny_bind (wpAny_pure ?_)
  refine wpAny_bind (wpAny_pure (wpAny_bind (L0.at (wpAny_bind (L1.at ?_)))))
  refine wpAny_pure ?_
  show wpAny _ _ (handedOut v) _ _ _
  rw [handedOut_of hh]; exact wpAny_pure h
theorem ZjC {Q:Option Value→Shared→Prop} (X:K.In s.heap) (I:InstAt s.heap x ox C od) (c:XGet K C) (z:XKit K) (h:Q (some (.ref C)) { s with toks:=s.toks + 1 }) :
    wpAny (model prog w) A (getAttr? (.ref x) "__class__") Q E s:=by
  have hf:findObj K C od "__class__" = some (.bind (.builtin "getset_descriptor.__get__") (.builtin "object.__class__")):=ZcE (by obtain ⟨cd,hc,_⟩:=any_some c.hd; rw [hc]; rfl) c.ca z.hn z.htk
  unfold getAttr? getAttrBy?
  refine wpAny_bind (wpAny_mkText ?_)
  refine wpAny_bind (wpAny_attempt ?_)
  refine x_by (s:={ s with toks:=s.toks + 1 }) X I c rfl fun A'=>?_
  obtain ⟨hp,g,d,t,os⟩:=s
  have L0:=I.type (M:=model prog w)
  have L1:=looks_find (M:=model prog w) X I hf
  unfold Builtin.«object.__getattribute__»
  refine wpAny_bind (wpAny_pure ?_)
  refine wpAny_bind (wpAny_pure (wpAny_bind (L0.at (wpAny_bind (L1.at ?_)))))
  show wpAny _ _ (holding [Value.builtin "object.__class__"] (call (.builtin "getset_descriptor.__get__") [.builtin "object.__class__",.ref x,.ref C]) >>= ret) _ _ _
  refine wpAny_bind (wpAny_holding (wpAny_call (class_get (s:=⟨hp,g,d,t + 1,os⟩) (ox:=ox) (od:=od) X I c.mo ?_)))
  refine wpAny_pure ?_
  exact handed_on rfl (wpAny_pure h)
end
theorem ZeS {K:Frag} {x D:Addr} {ox:Obj} {odo:Option Obj} (c:XGet K D) (z:XKit K):KitX K (.ref x) (.ref D) (fun h=>InstAt h x ox D odo) where
  ty:=fun _ _ _ I=>I.type
  it:=fun _ _ X _=>by
    obtain ⟨cdD,hcD,_⟩:=any_some c.hd
    unfold clsIn at hcD
    split at hcD
    · rename_i c' d' cd' sl' ho
      intro A' Q' E' s' k q
      unfold isType loadHead
      exact wpAny_bind (wpAny_loadPart (k _ _ (X _ _ ho)) (wpAny_pure q))
    · cases hcD
  ne:=fun h tp dd its n sl X htp=>by
    obtain ⟨cdD,hcD,_⟩:=any_some c.hd
    refine Bool.eq_false_iff.mpr fun q=>?_
    have e:D=tp:=Value.ref.inj (beq_iff_eq.mp q)
    subst e
    unfold clsIn at hcD
    split at hcD
    · rename_i c' d' cd' sl' ho
      have z:=(X _ _ ho).symm.trans htp
      cases z
    · cases hcD
  ca:=fun X I k=>ZjC X I c z k
section
variable {X:Cx} {xr:XR} {call:Nat→List W→Mem→Res W} {gv:List T} {cm:List Addr} {m:Mem} {H:Hp} {pins:List (Addr×Obj)} {σ:L2.St} {s:Shared}
variable {e:Expr} {ea:E} {pos p p2:Pos}
theorem x_at {c:Nat} {nms:List Str} {ts:List T} {v:V} (I:Inv X pins σ H s) (r:RW X.K cm m H (.x c nms ts) v) :
    ∃ a o odo,v = .ref a∧InstAt s.heap a o c odo∧XF X.K cm m H nms ts o.dict:=by
  obtain ⟨a,o,u,rfl,h1,h2,⟨fs,h3⟩,h4⟩:=r
  obtain ⟨z,_⟩:=I.hok a _ h1
  have nc:notCls o=true:=by unfold notCls; rw [h3]
  cases q:o.dict with
  | none=>exact ⟨a,o,none,rfl,⟨z,h2,nc,by rw [q]; trivial⟩,q ▸ h4⟩
  | some d =>
    rw [q] at h4
    obtain ⟨vs,h5,h6,h7⟩:=id h4
    obtain ⟨o',z'⟩:=Zjn I.hok h5
    exact ⟨a,o,some o',rfl,⟨z,h2,nc,by rw [q]; exact z'⟩,by rw [q]; exact h4⟩
theorem Zey {K:Frag}:∀ {nms:List Str} {ts:List T} {vs:List V} {nm:Str} {t:T},Paired (RT K cm m H) ts vs→(nms.zip ts).lookup nm=some t→∃ v,(nms.zip vs).lookup nm=some v∧RT K cm m H t v
  | [],_,_,_,_,_,h=>by simp at h
  | n :: nms,_,_,nm,t,.nil,h=>by simp at h
  | n :: nms,_,_,nm,t,.cons r rs,h=>by
    rw [List.zip_cons_cons] at h ⊢
    simp only [List.lookup] at h ⊢
    cases q:nm == n with
    | true=>rw [q] at h; cases h; exact ⟨_,rfl,r⟩
    | false=>rw [q] at h; exact Zey rs h
theorem Zj2 {nm:Str} {cs:List Nat} (ha:PE X e (tE X.K call gv xr ea)) (hk:∀ c∈cs,XGet X.K c∧findIn X.K (.ref c) nm=some none) (hb:attributeBase e nm X.env (eval e X.env)=eval e X.env:=by rfl) :
    PE X (.Attribute e nm pos) (tE X.K call gv xr (.xat ea cs nm)):=by
  rintro pins s σ H Q I ⟨env,cm,m,hE,M,ho⟩
  rw [ev] at ho
  refine Zk2 hb (thn (ha pins s σ H (fun v H1=>∃ cm1 m1 w,MemR X.K cm1 m1 H1∧RW X.K cm1 m1 H1 w v∧OkR X.K (pur (xatT cs nm w) m1) xr cm1 m1 H1 fun w cm' m' H'=>∀ v,RW X.K cm' m' H' w v→Q v H') I ⟨env,cm,m,hE,M,ho.bind.mono fun w cm1 m1 H1 x1 M1 o1 v rv=>⟨cm1,m1,w,M1,rv,o1⟩⟩) fun u s1 ⟨v,H1,I1,ru,cm1,m1,w,M1,rw1,o1⟩=>?_)
  obtain ⟨t,et,o2⟩:=QD o1
  cases w with
  | t _=>cases et
  | c _=>cases et
  | f _=>cases et
  | x c nms ts =>
    have et:(if c∈cs then (nms.zip ts).lookup nm else none)=some t:=et
    split at et
    · rename_i hc
      obtain ⟨g,hn⟩:=hk c hc
      obtain ⟨a,o,odo,rfl,J,xf⟩:=x_at I1 rw1
      cases ru
      cases q:o.dict with
      | none=>rw [q] at xf; obtain ⟨rfl,rfl⟩:=xf; cases et
      | some d =>
        rw [q] at xf
        obtain ⟨vs,h5,h6,h7⟩:=xf
        obtain ⟨v,hv,rt⟩:=Zey h7 et
        obtain ⟨mA,hns,hrel⟩:=(show Jx X.prog X.w H1 s1.heap d (.xd (nms.zip vs)) from I1.hok d _ h5)
        obtain ⟨u,hu,ru⟩:=RelO.some_of (v:=v) (o:=mA nm) (by rw [← hv]; exact hrel nm)
        obtain ⟨od,hod,hl⟩:=Zdt hns
        have J2:InstAt s1.heap a o c (some od):=⟨J.at_,J.cls,J.no,by rw [q]; exact hod⟩
        refine ZjB I1.kIn J2 g (findObj_own g.hd hn rfl (by rw [hl,hu])) (Zhl ru) ?_
        exact ⟨v,H1,I1.tok _,ru,ans o2 M1 rt⟩
    · cases et
noncomputable def fXis (yes no:List Nat) (w:W) (m:Mem):Res W:=pur (xisT yes no w) m
theorem Zi9 {yes no:List Nat} {cv:V} {c:Value} (hcv:∀ u,RelV cv u→u=c) (z:XKit X.K) (hy:∀ C∈yes,XGet X.K C∧kitOne X.K (.ref C) c=some true) (hn:∀ C∈no,XGet X.K C∧kitOne X.K (.ref C) c=some false) :
    J4 X (.builtin "isinstance") (fun xs H Q=>∃ x,xs=[x,cv]∧r1 X.K xr (fXis yes no) x H Q):=by
  rintro pins s σ H xs us Q I r ⟨x,e,cm,m,w,M,rw',ho⟩
  subst e
  obtain ⟨u1,u2,rfl,ru1,ru2⟩:=vals2 r
  obtain rfl:=hcv _ ru2
  obtain ⟨t,et,ho⟩:=QD ho
  cases w with
  | t _=>cases et
  | c _=>cases et
  | f _=>cases et
  | x C nms ts =>
    obtain ⟨a,o,odo,rfl,J,xf⟩:=x_at I rw'
    cases ru1
    have et:(if C∈yes then some (T.bl true) else if C∈no then some (.bl false) else none)=some t:=et
    split at et
    · rename_i hc
      cases et
      exact kia_one (ZeS (hy C hc).1 z) I.kIn J (hy C hc).2 (fun z=>nomatch z) fun tk=>⟨.bl _,H,I.tok _,rfl,ans ho M (.bl _)⟩
    · split at et
      · rename_i hc
        cases et
        exact kia_one (ZeS (hn C hc).1 z) I.kIn J (hn C hc).2 (fun z=>nomatch z) fun tk=>⟨.bl _,H,I.tok _,rfl,ans ho M (.bl _)⟩
      · cases et
theorem Zcx {yes no:List Nat} {ce:Expr} {cv:V} {c:Value} (ha:PE X e (tE X.K call gv xr ea)) (hg:Gl X "isinstance") (hm:X.mg "isinstance" = none) (hc:PE X ce (tC cv)) (hcv:∀ u,RelV cv u→u=c) (z:XKit X.K)
    (hy:∀ C∈yes,XGet X.K C∧kitOne X.K (.ref C) c=some true) (hn:∀ C∈no,XGet X.K C∧kitOne X.K (.ref C) c=some false) (hs:notStar e=true:=by rfl) (hs2:notStar ce=true:=by rfl) :
    PE X (.Call (.Name "isinstance" p) [e,ce] [] pos) (tE X.K call gv xr (.xis ea yes no)):=by
  refine PE.mono (Za1 (Zi9 (xr:=xr) hcv z hy hn) hg hm (by decide +kernel) (J7 ha (J7 hc Zdc (Qv hs2)) (Qv hs)) (by decide) (by decide) (Qv hs) (Xl (by simp [hs2]))) ?_
  rintro σ H Q ⟨env,cm,m,hE,M,ho⟩
  rw [ev] at ho
  exact ⟨env,cm,m,hE,M,ho.bind.mono fun w cm1 m1 H1 x1 M1 o1 v rv=>⟨v,rfl,cm1,m1,w,M1,rv,o1⟩⟩
theorem ZcR:∀ {as:List Addr} {us:List Value},Vals (as.map V.ref) us→us=as.map Value.ref
  | [],_,.nil=>rfl
  | a :: as,_,.cons r rs=>by
    cases r
    rw [ZcR rs]
    rfl
theorem ZhL {yes no:List Nat} {as:List Addr} (z:XKit X.K) (hy:∀ C∈yes,XGet X.K C∧kitAny X.K (.ref C) (as.map .ref)=some true) (hn:∀ C∈no,XGet X.K C∧kitAny X.K (.ref C) (as.map .ref)=some false) :
    J4 X (.builtin "isinstance") (fun xs H Q=>∃ x q,xs=[x,.ref q]∧SqT X.K H q (as.map .ref)∧r1 X.K xr (fXis yes no) x H Q):=by
  rintro pins s σ H xs us Q I r ⟨x,q,e,sq,cm,m,w,M,rw',ho⟩
  subst e
  obtain ⟨u1,u2,rfl,ru1,ru2⟩:=vals2 r
  cases ru2
  obtain ⟨t,et,ho⟩:=QD ho
  obtain ⟨its,rv,⟨ot,g1,g2,⟨n,g3⟩,g4⟩,_⟩:=I.tupleP sq
  obtain rfl:=ZcR rv
  obtain ⟨oc,od,odt,osl⟩:=ot
  dsimp only at g2 g3 g4
  subst g2 g3 g4
  cases w with
  | t _=>cases et
  | c _=>cases et
  | f _=>cases et
  | x C nms ts =>
    obtain ⟨a,o,odo,rfl,J,xf⟩:=x_at I rw'
    cases ru1
    have et:(if C∈yes then some (T.bl true) else if C∈no then some (.bl false) else none)=some t:=et
    split at et
    · rename_i hc
      cases et
      exact kia_tup (ZeS (hy C hc).1 z) I.kIn J g1 (hy C hc).2 (fun z=>nomatch z) fun tk=>⟨.bl _,H,I.tok _,rfl,ans ho M (.bl _)⟩
    · split at et
      · rename_i hc
        cases et
        exact kia_tup (ZeS (hn C hc).1 z) I.kIn J g1 (hn C hc).2 (fun z=>nomatch z) fun tk=>⟨.bl _,H,I.tok _,rfl,ans ho M (.bl _)⟩
      · cases et
noncomputable def tCs (as:List Addr):TA:=fun _ H Q=>Q (as.map V.ref) H
theorem pa_cs0:PA X [] (tCs []):=PA.mono Zdc fun σ H Q h=>h
theorem pa_csS {es:List Expr} {a:Addr} {as:List Addr} (ha:PE X e (tC (.ref a))) (hr:PA X es (tCs as)) (hs:notStar e=true:=by rfl):PA X (e :: es) (tCs (a :: as)):=PA.mono (J7 ha hr (Qv hs)) fun σ H Q h=>h
theorem ZiA {yes no:List Nat} {ces:List Expr} {k} {as:List Addr} (ha:PE X e (tE X.K call gv xr ea)) (hg:Gl X "isinstance") (hm:X.mg "isinstance" = none) (hc:PA X ces (tCs as)) (hl:as.length≤100) (z:XKit X.K)
    (hy:∀ C∈yes,XGet X.K C∧kitAny X.K (.ref C) (as.map .ref)=some true) (hn:∀ C∈no,XGet X.K C∧kitAny X.K (.ref C) (as.map .ref)=some false) (hs:notStar e=true:=by rfl) :
    PE X (.Call (.Name "isinstance" p) [e,.Tuple ces k p2] [] pos) (tE X.K call gv xr (.xis ea yes no)):=by
  refine PE.mono (Za1 (ZhL (xr:=xr) z hy hn) hg hm (by decide +kernel) (J7 ha (J7 (Zjj hc) Zdc (Qv rfl)) (Qv hs)) (by decide) (by decide) (Qv hs) (Xl rfl)) ?_
  rintro σ H Q ⟨env,cm,m,hE,M,ho⟩
  rw [ev] at ho
  refine ⟨env,cm,m,hE,M,ho.bind.mono fun w cm1 m1 H1 x1 M1 o1 v rv=>⟨?_,fun q hq=>⟨v,q,rfl,.inl (.inl ZK),cm1,m1,w,M1.new hq,rv.ext (.new hq) M1 (M1.new hq),o1.shift (.new hq)⟩⟩⟩
  rw [List.length_map]
  have:(100:Nat)≤sizeLine:=by decide
  omega
end
end Mi
end
section
namespace Mi
open PySem PySem.Spec PyProof.Rows L2
section
variable {K:PySem.W.Frag} {xr:XR} {X:Cx} {call:Nat→List W→Mem→Res W} {gv:List T}
variable {e:Expr} {ea:E} {pos:Pos} {rest:List Stmt} {k:S} {n:Nat}
theorem vr (i:Nat) {x:Str} {pos:Pos} (hN:X.N[i]? = some x:=by rfl) (hv:Vis X.env.scope x:=by first | exact Or.inl rfl | exact Or.inr (Or.inl rfl) | exact Or.inr (Or.inr rfl)) (hd:(x == ("__debug__" : Str))=false:=by decide)
    (hcd:(x == ("__classdict__" : Str))=false:=by decide):PE X (.Name x pos) (tE X.K call gv xr (.var i)):=Zj3 hN hv hd hcd
theorem sg (i:Nat) {x:Str} {px:Pos} (hN:X.N.Nodup) (h:PE X e (tE X.K call gv xr ea)) (hk:PSs X rest (tS X.K call gv xr n k)) (hn:X.N.length=n:=by rfl) (hi:X.N[i]? = some x:=by rfl) (hx:Loc X.env.scope x:=by first | exact Or.inl rfl | exact Or.inr rfl)
    (hs:swapsWith e (some (.Name x px)) pos.line X.env=pure false:=by rfl) (hf:X.fn x=true∨X.env.scope.names.lookup x=some .local:=by first | exact .inl rfl | exact .inr rfl):PSs X (.Assign [.Name x px] e pos :: rest) (tS X.K call gv xr n (.asg i ea k)):=Zip hN hn hi hx h hk hs hf
theorem Jm (i:Nat) {x:Str} {pos:Pos} (hN:X.N.Nodup) (hi:X.N[i]? = some x:=by rfl) (hx:Loc X.env.scope x:=by first | exact Or.inl rfl | exact Or.inr rfl) (hf:X.fn x=true∨X.env.scope.names.lookup x=some .local:=by first | exact .inl rfl | exact .inr rfl):PG X (.Name x pos) (gT X.K (.nm i)):=Zap hN hi hx hf
noncomputable def scOk (scope osc:Scope):Bool:=scope.kind == .function && scope.names.all fun p=>p.2 != .cell && scope.names.lookup p.1 == some p.2 && (p.2 != .free || osc.names.lookup p.1 == some .cell || osc.names.lookup p.1 == some .free)
noncomputable def Zjl (N' N:List Str) (own:Nat) (keep:List Nat) (scope:Scope):Bool:=N'.length == own + keep.length && (List.range keep.length).all fun i=>match N'[own + i]?,keep[i]? with
  | some x,some j=>N[j]? == some x && scope.names.any fun p=>p.1 == x && p.2 == .free
  | _,_=>false
theorem Zi4 {N':List Str} {scope:Scope} {own:Nat} {keep:List Nat} {elt target iter:Expr} {ifs:List Expr} {gs:List Comprehension} {it:E} {tg:Tg} {cs:Es} {inner:E} (h1:scOk scope X.env.scope=true) (h2:Zjl N' X.N own keep scope=true)
    (pi:PI X target iter (tI X.K call gv xr it)) (fs:∀ x,foldedSetIterable iter X.env x=pure x) (ins:ZhZ X xr call gv N' scope elt target ifs (⟨target,iter,ifs,0⟩ :: gs) tg cs inner) (dis:∀ i∈tgS tg,i ∉ innS inner) (slt:∀ i∈tgS tg++innS inner,i < own) :
    CompK X xr call gv N' scope own keep elt target iter ifs gs it tg cs inner:=by
  unfold scOk at h1
  rw [Bool.and_eq_true] at h1
  obtain ⟨hk,h1⟩:=h1
  have h1:=List.all_eq_true.mp h1
  unfold Zjl at h2
  rw [Bool.and_eq_true] at h2
  obtain ⟨hl,h2⟩:=h2
  have h2:=List.all_eq_true.mp h2
  refine ⟨⟨eq_of_beq hk,fun y hy=>?_,fun p hp=>?_,fun x hx=>?_⟩,eq_of_beq hl,fun i x e=>?_,pi,fs,ins,dis,slt⟩
  · have:=h1 y hy
    simp only [Bool.and_eq_true] at this
    have h:=this.1.1
    exact fun z=>by rw [z] at h; cases h
  · have:=h1 p hp
    simp only [Bool.and_eq_true] at this
    exact eq_of_beq this.1.2
  · have:=h1 _ hx
    simp only [Bool.and_eq_true,Bool.or_eq_true] at this
    rcases this.2 with (h | h) | h
    · cases h
    · exact .inl (eq_of_beq h)
    · exact .inr (eq_of_beq h)
  · have hlen:N'.length=own + keep.length:=eq_of_beq hl
    have hi:i < keep.length:=by
      have:=(List.getElem?_eq_some_iff.mp e).1
      omega
    have h:=h2 i (List.mem_range.mpr hi)
    rw [e] at h
    cases q:keep[i]? with
    | none=>rw [q] at h; cases h
    | some j =>
      rw [q] at h
      have h:(X.N[j]? == some x && scope.names.any fun p=>p.1 == x && p.2 == .free)=true:=h
      rw [Bool.and_eq_true] at h
      refine ⟨j,rfl,eq_of_beq h.1,?_⟩
      obtain ⟨p,hp,hq⟩:=List.any_eq_true.mp h.2
      rw [Bool.and_eq_true] at hq
      rw [← eq_of_beq hq.1]
      have:p.2=NameKind.free:=eq_of_beq hq.2
      rw [← this]
      exact hp
theorem scr_of {H:Hp} {a:Addr} {ns:List Int} (hO:Only H) (hS:SqL K H a (ns.map V.int)):ZdW K H a ns:=by
  rcases hS with (h | ⟨o,h⟩) | h
  · rcases hO a with q | ⟨o,xs,q⟩ <;> rw [h] at q <;> cases q
  · exact .inl ⟨o,h⟩
  · exact .inr h
theorem law_sp {fns:List Fn} {k fi:Nat} {H:Hp} {a:Addr} {ns:List Int} {E:XK} (hO:Only H) (hS:SqL K H a (ns.map V.int)) (h:∃ m,Z4 fns gv k fi [.t (.scr ns)] [] = .ok (.t (.bl true)) m):spF K fns gv k fi [.ref a] H (fun v _=>v = .bl true) E:=by
  obtain ⟨m,h⟩:=h
  refine ⟨[],[],[.t (.scr ns)],⟨rfl,fun i j a p q e=>by simp at e,fun i p e=>by simp at e⟩,.cons (.scr ns (scr_of hO hS)) .nil,?_⟩
  rw [h]
  intro cm' H' x M v rv
  cases RT.vbl rv
  rfl
theorem ZeV {mg:Str→Option Value} {x y:Str} {t:Tok} {cs:List Nat} (h:mg x=some (.str y t)) (e:y.cps.toList=cs):Q9 K mg x (.str cs):=⟨_,.str y,h,⟨t,rfl⟩,fun cm m H=>by rw [ZcW e]; exact .str cs⟩
theorem Jp {mg:Str→Option Value} {x:Str} {i:Int} {t:Tok} (h:mg x=some (.int i t)):Q9 K mg x (.int i):=⟨_,.int i,h,⟨t,rfl⟩,fun cm m H=>.int i⟩
inductive StrsV:List (List Nat)→List Value→Prop where
  | nil:StrsV [] []
  | cons {y:Str} {t:Tok} {cs:List Nat} {r:List (List Nat)} {us:List Value}:y.cps.toList=cs→StrsV r us→StrsV (cs :: r) (.str y t :: us)
theorem ZdC {mg:Str→Option Value} {x:Str} {a:Addr} {its:Array Value} {nn:Nat} {sl:Array (Option Value)} {css:List (List Nat)} (h:mg x=some (.ref a)) (l:K.lookup a=some ⟨.type "tuple",none,.seq its nn,sl⟩) (hz:its.size≤sizeLine) (hs:StrsV css its.toList):Q9 K mg x (.tup (css.map .str)):=by
  refine ⟨_,.ref a,h,rfl,fun cm m H=>?_⟩
  have go:∀ {css:List (List Nat)} {us:List Value},StrsV css us→Vals (css.map fun c=>V.str ⟨c.toArray⟩) us∧RTs K cm m H (css.map .str) (css.map fun c=>V.str ⟨c.toArray⟩):=fun {css us} h=>by
    induction h with
    | nil=>exact ⟨.nil,.nil⟩
    | @cons y t cs r us e _ ih =>
      refine ⟨.cons ?_ ih.1,.cons (.str cs) ih.2⟩
      show ∃ t',Value.str y t=Value.str ⟨cs.toArray⟩ t'
      rw [← ZcW e]
      exact ⟨t,rfl⟩
  exact .mtup (.inr ⟨_,its,nn,l,rfl,rfl,hz,(go hs).1,rfl⟩) (go hs).2
end
end Mi
end
section
namespace Mi
open PySem PySem.Spec PyProof.Rows L2
section
variable {K:PySem.W.Frag} {cm:List Addr} {m:Mem} {H:Hp} {xr:XR} {X:Cx} {call:Nat→List W→Mem→Res W} {gv:List T}
variable {a b c e:Expr} {es:List Expr} {ea eb ec:E} {eas:Es} {pos p p2:Pos} {rest:List Stmt} {k:S} {n:Nat}
theorem ip_aug {op:Operator}:PIp X op (r2 X.K xr fun x y m=>pur ((view x m).bind fun x=>(view y m).bind fun y=>augT op x y) m):=by
  rintro pins s σ H x y v u Q I rx ry ⟨cm,m,a,b,M,ra,rb,ho⟩
  obtain ⟨t,e,ho⟩:=QD ho
  obtain ⟨ta,tb,ea,eb,e⟩:=ZbU e
  unfold augT at e
  split at e
  · cases e
    cases (Zd ra ea (fun _ z=>by cases z)).vint
    cases (Zd rb eb (fun _ z=>by cases z)).vint
    exact ip_add pins s σ H _ _ v u Q I rx ry ⟨_,_,rfl,rfl,ans ho M (.int _)⟩
  · cases e
    cases (Zd ra ea (fun _ z=>by cases z)).vint
    cases (Zd rb eb (fun _ z=>by cases z)).vint
    exact ip_sub pins s σ H _ _ v u Q I rx ry ⟨_,_,rfl,rfl,ans ho M (.int _)⟩
  · cases e
theorem Zio (i:Nat) {x:Str} {op:Operator} {px:Pos} (hN:X.N.Nodup) (h:PE X e (tE X.K call gv xr ea)) (hk:PSs X rest (tS X.K call gv xr n k)) (hn:X.N.length=n:=by rfl) (hi:X.N[i]? = some x:=by rfl) (hx:Loc X.env.scope x:=by first | exact Or.inl rfl | exact Or.inr rfl)
    (hf:X.fn x=true∨X.env.scope.names.lookup x=some .local:=by first | exact .inl rfl | exact .inr rfl):PSs X (.AugAssign (.Name x px) op e pos :: rest) (tS X.K call gv xr n (.aug i op ea k)):=by
  refine PSs.mono (QJ (ps_aug hN hi hx h (ip_aug (xr:=xr)) hf) hk) ?_
  rintro D σ H ⟨hl,env,cm,m,hE,M,ho⟩
  rw [ex] at ho
  split at ho
  · rename_i w e
    obtain ⟨v,h1,h2⟩:=hE i w e
    have hi':i < σ.length:=by rw [hl,← hn]; exact (List.getElem?_eq_some_iff.mp hi).1
    refine ⟨v,h1,env,cm,m,hE,M,ho.bind.mono fun y cm1 m1 H1 x1 M1 o1 vy ry=>?_⟩
    refine ⟨cm1,m1,w,y,M1,h2.ext x1 M M1,ry,o1.bind.mono fun z cm2 m2 H2 x2 M2 o2 vz rz=>?_⟩
    exact ⟨by rw [List.length_set]; exact hl,env.set i (some z),cm2,m2,EnvR.set ((hE.ext x1 M M1).ext x2 M1 M2) rz i hi',M2,o2⟩
  · exact ho.elim
theorem ZfG:MtR X "list.append" (rM X.K xr .append):=by
  rintro pins s σ H x xs v us Q I rx rs ⟨cm,m,w,ws,M,rw',rws,ho⟩
  cases w with
  | t t=>exact ho.elim
  | f a=>exact ho.elim
  | x _ _ _=>exact ho.elim
  | c i =>
    have ho:OkR X.K ((frzs ws m).bind fun ts m=>match m[i]? with
      | some (some (false,xs))=>match mutM .append xs ts with
        | some (t,ys)=>.ok (W.t t) (m.set i (some (false,ys)))
        | none=>.stuck
      | _=>.stuck) xr cm m H _:=ho
    obtain ⟨ts,m2,e2,o2⟩:=Za3 ho
    obtain ⟨x2,M2,r2⟩:=Zax M rws e2
    obtain ⟨a,ha,rfl⟩:=rw'
    split at o2
    · rename_i ys e3
      split at o2
      · rename_i t zs e4
        obtain ⟨b,vs,q1,q2,q3,q4⟩:=M2.at' i _ e3
        rw [ha] at q1; cases q1
        have l4:=q4.length
        dsimp only at l4
        have hz:=ZV
        match ts,r2,e4 with
        | [t1],.cons r3 .nil,e4 =>
          unfold mutM at e4
          dsimp only at e4
          split at e4 <;> cases e4
          rename_i hlt
          obtain ⟨x5,M5⟩:=Zch M2 e3 ha (Qq q4 (.cons r3 .nil))
          exact Zg5 pins s σ H _ _ v us Q I rx rs ⟨a,vs,_,rfl,rfl,q2,by omega,OkR.to o2 (x2.trans x5) M5 _ .non⟩
        | [],_,e4=>cases e4
        | _ :: _ :: _,_,e4=>cases e4
      · exact o2.elim
    · exact o2.elim
theorem Zfr {o:Expr} {apos cpos:Pos} (ho:PE X o (tE X.K call gv xr ea)) (ha:PA X [e] (tA X.K call gv xr eas))
    (hbase:attributeBase o "append" X.env (eval o X.env)=eval o X.env:=by rfl)
    (hline:(apos.endLine == cpos.line)=true:=by rfl) (hs:notStar e=true:=by rfl) :
    PE X (.Call (.Attribute o "append" apos) [e] [] cpos) (tE X.K call gv xr (.mth .append ea eas)):=by
  refine PE.mono (ZiF PySem.F.plainAttrs_list PySem.F.slot_list_append PySem.F.type_list_append (ZfG (xr:=xr)) ho ha hbase (few1 hs) hline (Qv hs) (Xl rfl)) ?_
  rintro σ H Q ⟨env,cm,m,hE,M,hq⟩
  rw [ev] at hq
  refine ⟨env,cm,m,hE,M,hq.bind.mono fun w cm1 m1 H1 x1 M1 o1 v rv=>?_⟩
  obtain ⟨ht,o1⟩:=Zbx o1
  refine ⟨?_,env,cm1,m1,hE.ext x1 M M1,M1,o1.bind.mono fun ws cm2 m2 H2 x2 M2 o2 vs rvs=>?_⟩
  · cases w with
    | t t=>cases ht
    | f a=>cases ht
    | x _ _ _=>cases ht
    | c i =>
      obtain ⟨a,h1,rfl⟩:=rv
      have ht:(match m1[i]? with
        | some (some _)=>true
        | _=>false)=true:=ht
      split at ht
      · rename_i c e1
        obtain ⟨b,vs,q1,q2,_⟩:=M1.at' i _ e1
        rw [h1] at q1; cases q1
        exact .inl ⟨rfl,vs,.of q2⟩
      · cases ht
  · exact ⟨cm2,m2,w,ws,M2,rv.ext x2 M1 M2,rvs,o2⟩
theorem Zfh {body:List Stmt} {sb:S} (hp:PassesOwn (model X.prog X.w) X.A X.env X.xe) (hc:PT X c (tT X.K call gv xr ec)) (hb:PSs X body (tS X.K call gv xr n sb)) (hk:PSs X rest (tS X.K call gv xr n k)) :
    PSs X (.While c body [] pos :: rest) (tS X.K call gv xr n (.whil ec sb k)):=by
  refine PSs.mono (QJ (Zir hp hc hb) hk) ?_
  rintro D σ0 H0 ⟨hl0,env0,cm0,m0,hE0,M0,ho⟩
  rw [ex] at ho
  let g:Flow→Mem→Res Flow:=fun fl m=>match fl with
    | .next env=>ex call gv k env m
    | fl=>.ok fl m
  let P:Flow→List Addr→Mem→Hp→Prop:=fun fl cm m H=>OkR X.K (g fl m) xr cm m H (fun fl cm' m' H'=>ZaX X.K n D fl cm' m' H')
  have ho:OkR X.K ((QH (fun env m=>(ev call gv ec env m).bind Qa) (fun env m=>ex call gv sb env m) turns env0 m0).bind g) xr cm0 m0 H0 (fun fl cm' m' H'=>ZaX X.K n D fl cm' m' H'):=ho
  refine ⟨fun μ σ H=>σ.length=n∧∃ env cm m,EnvR X.K cm m H env σ∧MemR X.K cm m H∧OkR X.K (QH (fun env m=>(ev call gv ec env m).bind Qa) (fun env m=>ex call gv sb env m) μ env m) xr cm m H P,⟨turns,hl0,env0,cm0,m0,hE0,M0,ho.bind⟩,?_⟩
  rintro μ σ H ⟨hl,env,cm,m,hE,M,hq⟩
  cases μ with
  | zero=>rw [QH] at hq; exact hq.elim
  | succ μ =>
    rw [QH] at hq
    refine ⟨env,cm,m,hE,M,hq.bind.mono fun b cm1 m1 H1 x1 M1 o1=>?_⟩
    cases b with
    | false=>exact iteF ⟨hl,env,cm1,m1,hE.ext x1 M M1,M1,OkR.now (a:=Flow.next env) o1 M1⟩
    | true =>
      have o1:OkR X.K ((ex call gv sb env m1).bind fun fl m=>match fl with
        | .next env=>QH (fun env m=>(ev call gv ec env m).bind Qa) (fun env m=>ex call gv sb env m) μ env m
        | .cont env=>QH (fun env m=>(ev call gv ec env m).bind Qa) (fun env m=>ex call gv sb env m) μ env m
        | .brk env=>.ok (.next env) m
        | .ret w=>.ok (.ret w) m) xr cm1 m1 H1 P:=o1
      refine iteT ⟨fun σ' H'=>σ'.length=n∧∃ env cm m,EnvR X.K cm m H' env σ'∧MemR X.K cm m H'∧OkR X.K (QH (fun env m=>(ev call gv ec env m).bind Qa) (fun env m=>ex call gv sb env m) μ env m) xr cm m H' P,fun σ' H' h=>⟨μ,Nat.lt_succ_self _,h⟩,hl,env,cm1,m1,hE.ext x1 M M1,M1,o1.bind.mono fun fl cm2 m2 H2 x2 M2 o2=>?_⟩
      cases fl with
      | next env2=>exact fun σ2 hl2 hE2=>⟨hl2,env2,cm2,m2,hE2,M2,o2⟩
      | cont env2=>exact fun σ2 hl2 hE2=>⟨hl2,env2,cm2,m2,hE2,M2,o2⟩
      | brk env2=>exact fun σ2 hl2 hE2=>⟨hl2,env2,cm2,m2,hE2,M2,OkR.now (a:=Flow.next env2) o2 M2⟩
      | ret w=>exact OkR.now (xr:=xr) (a:=Flow.ret w) (OkR.now (a:=Flow.ret w) o2 M2) M2
theorem Zcw (i j:Nat) {x y:Str} {px py:Pos} {kk:Nat} (hc:X.calm=true) (hN:X.N.Nodup) (hi:X.N[i]? = some x:=by rfl) (hj:X.N[j]? = some y:=by rfl) (hx:Loc X.env.scope x:=by first | exact Or.inl rfl | exact Or.inr rfl) (hy:Loc X.env.scope y:=by first | exact Or.inl rfl | exact Or.inr rfl)
    (hf:X.fn x=true∨X.env.scope.names.lookup x=some .local:=by first | exact .inl rfl | exact .inr rfl) (hg:X.fn y=true∨X.env.scope.names.lookup y=some .local:=by first | exact .inl rfl | exact .inr rfl)
    (hs:(assignEach [.Name x px,.Name y py] X.env).map (·.2)=assign (.Name x px) X.env :: (assignEach [.Name y py] X.env).map (·.2):=by rfl) (hs2:(assignEach [.Name y py] X.env).map (·.2)=assign (.Name y py) X.env :: (assignEach [] X.env).map (·.2):=by rfl)
    (hn:(assignEach [.Name x px,.Name y py] X.env).length=2:=by rfl) (hst:(assignEach [.Name x px,.Name y py] X.env).findIdx? (·.1)=none:=by rfl):PG X (.Tuple [.Name x px,.Name y py] kk pos) (gT X.K (.tp [i,j])):=by
  rintro pins s σ H v u Q I r ⟨a,xs,e1,h1,h2,h3⟩
  refine Zji hc (XX (Zap hN hi hx hf) (XX (Zap hN hj hy hg) ZgD hs2) hs) hn hst pins s σ H v u Q I r ⟨a,xs,e1,h1,h2,?_⟩
  match xs,h2 with
  | [v1,v2],_=>exact ⟨v1,[v2],rfl,v2,[],rfl,rfl,h3⟩
theorem Ziq {tg:Expr} {is:List Nat} (hN:∀ i∈is,i < n) (h:PE X e (tE X.K call gv xr ea)) (hg:PG X tg (gT X.K (.tp is))) (hk:PSs X rest (tS X.K call gv xr n k))
    (hs:swapsWithSole [tg] e pos.line X.env=pure false:=by rfl) (hw:swappedStores [tg] e X.env=pure none:=by rfl) (h1:(assignEach [tg] X.env).map (·.2)=[assign tg X.env]:=by rfl):PSs X (.Assign [tg] e pos :: rest) (tS X.K call gv xr n (.asgT is ea k)):=by
  refine PSs.mono (QJ (Zjh h hg hs hw h1) hk) ?_
  rintro D σ H ⟨hl,env,cm,m,hE,M,ho⟩
  rw [ex] at ho
  refine ⟨env,cm,m,hE,M,ho.bind.mono fun w cm1 m1 H1 x1 M1 o1 v rv=>?_⟩
  cases w with
  | f a=>exact o1.elim
  | x _ _ _=>exact o1.elim
  | c i=>exact o1.elim
  | t t =>
    have o1:OkR X.K (match J1 (.tp is) t env with
      | some env=>ex call gv k env m1
      | none=>.stuck) xr cm1 m1 H1 _:=o1
    split at o1
    · rename_i env' eb
      have:=Zjp (ZkM (Q:=fun σ' H'=>H' = H1∧EnvR X.K cm1 m1 H1 env' σ') (hE.ext x1 M M1) (fun j hj=>by rw [hl]; exact hN j hj) rv eb fun σ' hE' _=>⟨rfl,hE'⟩)
      obtain ⟨a1,xs,z1,z2,z3,z4,z5,z6⟩:=this
      exact ⟨a1,xs,z1,z2,z3,z4.trans hl,env',cm1,m1,z6,M1,o1⟩
    · exact o1.elim
end
end Mi
namespace Mi
open PySem PySem.Spec PyProof.Rows L2
section
variable {xr:XR} {X:Cx} {call:Nat→List W→Mem→Res W} {gv:List T}
variable {e:Expr} {es:List Expr} {eas:Es} {pos p:Pos}
theorem Zkc (hg:Gl X "len") (hm:X.mg "len" = none) (ha:PA X (e :: es) (tA X.K call gv xr eas)) (he:notStar e=true) (hpl:es.all notStar=true):PE X (.Call (.Name "len" p) (e :: es) [] pos) (tE X.K call gv xr (.blt .len eas)):=ZgM ZhM (by decide +kernel) hg hm ha (by decide) (by decide) he hpl
theorem ZiC (hg:Gl X "int") (hm:X.mg "int" = none) (ha:PA X (e :: es) (tA X.K call gv xr eas)) (he:notStar e=true) (hpl:es.all notStar=true):PE X (.Call (.Name "int" p) (e :: es) [] pos) (tE X.K call gv xr (.blt .int eas)):=ZgL ZhN (by decide +kernel) hg hm ha (by decide) (by decide) he hpl
theorem Zfq (hg:Gl X "tuple") (hm:X.mg "tuple" = none) (ha:PA X (e :: es) (tA X.K call gv xr eas)) (he:notStar e=true) (hpl:es.all notStar=true) (hc:X.calm=true:=by rfl):PE X (.Call (.Name "tuple" p) (e :: es) [] pos) (tE X.K call gv xr (.blt .tuple eas)):=ZgL (Zev hc) (by decide +kernel) hg hm ha (by decide) (by decide) he hpl
theorem ZiG (hg:Gl X "all") (hm:X.mg "all" = none) (ha:PA X (e :: es) (tA X.K call gv xr eas)) (he:notStar e=true) (hpl:es.all notStar=true) (hc:X.calm=true:=by rfl):PE X (.Call (.Name "all" p) (e :: es) [] pos) (tE X.K call gv xr (.blt .all eas)):=ZgM (ZhO hc) (by decide +kernel) hg hm ha (by decide) (by decide) he hpl
end
end Mi
namespace Mi
open PySem PySem.Spec PyProof.Rows L2
structure Bd (X:Cx) (st:List Stmt) (t:TS):Prop where
  h:PSs X st t
theorem Z7 {K:PySem.W.Frag} {fns:List Fn} {gv:List T} {k:Nat} {P:Program} {w:World} {mg:Str→Option Value} {base:Heap} {x qual:Str} {st:Stmt} {f:Addr} {fd:FuncData} {N ps:List Str} {fi np n:Nat} {body:S} {cell:Bool} (F:Fun K x qual st f fd) (S:FnScope N ps (Za st)) (hd:fns[fi]? = some ⟨np,n,body,cell⟩) (hps:np=ps.length) (hn:N.length=n)
    (hbody:∀ (cdv:Value) (A:Around) (outer:List PySem.Env) (s:Shared) (H:Hp) (E:XK),Room k (A.deeper (envOfC qual (Za st) s.heap.objs.size f cdv)) →
      ∀ (xe:Value→Shared→Prop) (pn:List (Addr×Obj)) (xr:XR),Go (asX (cxOf (CXF P w) P w K mg base N qual (Za st) f cdv A outer s H E) xe pn) xr→Bd (asX (cxOf (CXF P w) P w K mg base N qual (Za st) f cdv A outer s H E) xe pn) (Ze st) (tS K (Z4 fns gv k) gv xr n body)) :
    FnOk P w K mg base (CXF P w) (k + 1) f fd ps (spF K fns gv (k + 1) fi):=by
  subst hn
  exact fn_okW F S hd hps rfl fun cdv A outer s H E hr xe pn xr go=>(hbody cdv A outer s H E hr xe pn xr go).h
end Mi
end
section
namespace Mi
open PySem PySem.Spec PyProof.Rows L2
section
variable {K:PySem.W.Frag} {X:Cx} {fns:List Fn} {gv:List T} {xr:XR} {call:Nat→List W→Mem→Res W}
variable {e:Expr} {es:List Expr} {eas:Es} {pos p:Pos} {k:Nat}
inductive TabOk (P:Program) (w:World) (K:PySem.W.Frag) (mg:Str→Option Value) (base:Heap) (fns:List Fn) (gv:List T) (k:Nat):List (Nat×Nat)→Prop where
  | nil:TabOk P w K mg base fns gv k []
  | cons {j fi a:Nat} {x:Str} {r:List (Nat×Nat)}:FOk P w K mg base fns gv k x fi→mg x=some (.ref a)→gv[j]? = some (.int (a:Int))→TabOk P w K mg base fns gv k r→TabOk P w K mg base fns gv k ((j,fi) :: r)
theorem TabOk.get {P:Program} {w:World} {mg:Str→Option Value} {base:Heap} {tab:List (Nat×Nat)} (h:TabOk P w K mg base fns gv k tab) {a fi:Nat} (e:Zg7 gv a tab=some fi):∃ fd ps,PySem.W.keepIn K (.ref a)=true∧Binds K fd ps []∧FnOk P w K mg base (CXF P w) k a fd ps (spF K fns gv k fi):=by
  induction h with
  | nil=>cases e
  | @cons j fj b x r F hm hj _ ih =>
    unfold Zg7 at e
    rw [hj] at e
    dsimp only at e
    split at e
    · rename_i hb
      cases e
      have hb:b=a:=by omega
      subst hb
      obtain ⟨f,fd,ps,h1,h2,h3,h4⟩:=F
      rw [hm] at h1
      cases h1
      exact ⟨fd,ps,h2,h3,h4⟩
    · exact ih e
end
end Mi
end
section
namespace Mi
open PySem PySem.Spec PyProof.Rows L2
section
variable {K:PySem.W.Frag} {cm:List Addr} {m:Mem} {H:Hp} {xr:XR} {X:Cx} {call:Nat→List W→Mem→Res W} {gv:List T}
variable {a b c e:Expr} {es:List Expr} {ea eb ec:E} {eas:Es} {pos p p2:Pos} {rest:List Stmt} {k:S} {n:Nat}
theorem Ziz (i0:Nat) (i1:Nat) (i2:Nat) {x0 x1 x2:Str} {p0 p1 p2:Pos} {kk:Nat} (hc:X.calm=true) (hN:X.N.Nodup) (hi0:X.N[i0]? = some x0:=by rfl) (hi1:X.N[i1]? = some x1:=by rfl) (hi2:X.N[i2]? = some x2:=by rfl) (hx0:Loc X.env.scope x0:=by first | exact Or.inl rfl | exact Or.inr rfl) (hx1:Loc X.env.scope x1:=by first | exact Or.inl rfl | exact Or.inr rfl) (hx2:Loc X.env.scope x2:=by first | exact Or.inl rfl | exact Or.inr rfl) (hf0:X.fn x0=true∨X.env.scope.names.lookup x0=some .local:=by first | exact .inl rfl | exact .inr rfl) (hf1:X.fn x1=true∨X.env.scope.names.lookup x1=some .local:=by first | exact .inl rfl | exact .inr rfl) (hf2:X.fn x2=true∨X.env.scope.names.lookup x2=some .local:=by first | exact .inl rfl | exact .inr rfl)
    (hs0:(assignEach [.Name x0 p0,.Name x1 p1,.Name x2 p2] X.env).map (·.2)=assign (.Name x0 p0) X.env :: (assignEach [.Name x1 p1,.Name x2 p2] X.env).map (·.2):=by rfl)
    (hs1:(assignEach [.Name x1 p1,.Name x2 p2] X.env).map (·.2)=assign (.Name x1 p1) X.env :: (assignEach [.Name x2 p2] X.env).map (·.2):=by rfl)
    (hs2:(assignEach [.Name x2 p2] X.env).map (·.2)=assign (.Name x2 p2) X.env :: (assignEach [] X.env).map (·.2):=by rfl)
    (hn:(assignEach [.Name x0 p0,.Name x1 p1,.Name x2 p2] X.env).length=3:=by rfl) (hst:(assignEach [.Name x0 p0,.Name x1 p1,.Name x2 p2] X.env).findIdx? (·.1)=none:=by rfl):PG X (.Tuple [.Name x0 p0,.Name x1 p1,.Name x2 p2] kk pos) (gT X.K (.tp [i0,i1,i2])):=by
  rintro pins s σ H v u Q I r ⟨a,xs,e1,h1,h2,h3⟩
  refine Zji hc (XX (Zap hN hi0 hx0 hf0) (XX (Zap hN hi1 hx1 hf1) (XX (Zap hN hi2 hx2 hf2) ZgD hs2) hs1) hs0) hn hst pins s σ H v u Q I r ⟨a,xs,e1,h1,h2,?_⟩
  match xs,h2 with
  | [v0,v1,v2],_=>exact ⟨v0,[v1,v2],rfl,v1,[v2],rfl,v2,[],rfl,rfl,h3⟩
end
end Mi
end
section
namespace Mi
theorem Jc {f:Env→Mem→Res (List T)} {tg:Tg} {env:Env} {m:Mem} {g:T→List T}:∀ (ts:List T),(∀ t∈ts,∃ env',J1 tg t env=some env'∧f env' m = .ok (g t) m)→JD f tg ts env m = .ok (ts.flatMap g) m
  | [],_=>rfl
  | t :: ts,h=>by
    obtain ⟨env',e1,e2⟩:=h t List.mem_cons_self
    rw [JD,e1]
    show (f env' m).bind _=_
    rw [e2]
    show (JD f tg ts env m).bind _=_
    rw [Jc ts fun t ht=>h t (List.mem_cons_of_mem _ ht)]
    rfl
inductive Turns {α β:Type} (R:α→β→Prop):List α→List β→Prop where
  | nil:Turns R [] []
  | cons {a:α} {b:β} {as:List α} {bs:List β}:R a b→Turns R as bs→Turns R (a :: as) (b :: bs)
theorem Turns.length {α β:Type} {R:α→β→Prop} {as:List α} {bs:List β} (h:Turns R as bs):as.length=bs.length:=by
  induction h with
  | nil=>rfl
  | cons _ _ ih=>simp [ih]
theorem ZeQ {f:Env→Mem→Res (List T)} {tg:Tg} {env:Env} {P:Mem→Prop} {R:T→List T→Prop}:∀ (ts:List T) (m:Mem),P m→(∀ t∈ts,∀ m,P m→∃ env' xs m',J1 tg t env=some env'∧f env' m = .ok xs m'∧P m'∧R t xs) →
    ∃ xss m',JD f tg ts env m = .ok xss.flatten m'∧P m'∧Turns R ts xss
  | [],m,hm,_=>⟨[],m,rfl,hm,.nil⟩
  | t :: ts,m,hm,h=>by
    obtain ⟨env',xs,m1,e1,e2,p1,r1⟩:=h t List.mem_cons_self m hm
    obtain ⟨xss,m2,e3,p2,r2⟩:=ZeQ ts m1 p1 fun t ht=>h t (List.mem_cons_of_mem _ ht)
    refine ⟨xs :: xss,m2,?_,p2,.cons r1 r2⟩
    rw [JD,e1]
    show (f env' m).bind _=_
    rw [e2]
    show (JD f tg ts env m1).bind _=_
    rw [e3]
    rfl
theorem Zb7 {f:Env→Mem→Res Flow} {tg:Tg} {P:Env→Mem→Prop}:∀ (ts:List T) (env:Env) (m:Mem),P env m→(∀ t∈ts,∀ env m,P env m→∃ env1 env2 m2,J1 tg t env=some env1∧f env1 m = .ok (.next env2) m2∧P env2 m2) →
    ∃ env' m',Ja f tg ts env m = .ok (.next env') m'∧P env' m'
  | [],env,m,hm,_=>⟨env,m,rfl,hm⟩
  | t :: ts,env,m,hm,h=>by
    obtain ⟨env1,env2,m2,e1,e2,p2⟩:=h t List.mem_cons_self env m hm
    obtain ⟨env3,m3,e3,p3⟩:=Zb7 ts env2 m2 p2 fun t ht=>h t (List.mem_cons_of_mem _ ht)
    refine ⟨env3,m3,?_,p3⟩
    rw [Ja,e1]
    show (f env1 m).bind _=_
    rw [e2]
    exact e3
theorem Zk3 {α:Type} {xs:List α} {i:Int} (h0:0≤i) (h1:i < xs.length):∃ x,atT xs i=some x∧x∈xs:=by
  have hi:i.toNat < xs.length:=by omega
  refine ⟨xs[i.toNat],?_,List.getElem_mem hi⟩
  unfold atT ixOf
  rw [if_pos h0,if_pos h1]
  exact List.getElem?_eq_getElem hi
theorem Zah {α:Type} (f:α→Bool):∀ xs:List α,bools? (xs.map fun x=>.bl (f x))=some (xs.map f)
  | []=>rfl
  | x :: xs=>by
    rw [List.map_cons,bools?,Zah f xs]
    rfl
theorem Zdx:∀ xs:List (List Nat),QS [] xs=xs.flatten
  | []=>rfl
  | [x]=>by simp [QS]
  | x :: y :: r=>by
    show x++[]++QS [] (y :: r)=_
    rw [Zdx (y :: r)]; simp
section
variable {call:Nat→List W→Mem→Res W} {gv:List T}
noncomputable def Jl (call:Nat→List W→Mem→Res W) (gv:List T) (cs:Es) (inner:E) (env:Env) (m:Mem):Res (List T):=(tests call gv cs env m).bind fun k m=>if k then (ev call gv inner env m).bind ZcM else .ok [] m
theorem Xe {own:Nat} {keep:List Nat} {it:E} {tg:Tg} {cs:Es} {inner:E} {env:Env} {m m0 m1 m2:Mem} {x:W} {ts out:List T} (h1:ev call gv it env m = .ok x m0) (h2:Qd x m0 = .ok ts m1)
    (h3:JD (Jl call gv cs inner) tg ts (List.replicate own none++keep.map fun i=>(env[i]?).join) m1 = .ok out m2) (hz:out.length≤lim):ev call gv (.comp own keep it tg cs inner) env m = .ok (.t (.lst out)) (giveBack x m0 m2):=by
  have e:ev call gv (.comp own keep it tg cs inner) env m=(ev call gv it env m).only.bind fun x m0=>(Qd x m0).bind fun ts m =>
      (JD (Jl call gv cs inner) tg ts (List.replicate own none++keep.map fun i=>(env[i]?).join) m).only.bind fun out m =>
        if out.length≤lim then .ok (.t (.lst out)) (giveBack x m0 m) else .stuck:=by rw [ev]; rfl
  rw [e,h1]
  show (Qd x m0).bind _=_
  rw [h2]
  show (JD (Jl call gv cs inner) tg ts (List.replicate own none++keep.map fun i=>(env[i]?).join) m1).only.bind _=_
  rw [h3]
  exact if_pos hz
theorem ZcD {tg:Tg} {it:E} {body k:S} {env env':Env} {m m0 m1 m2:Mem} {x:W} {ts:List T} (h1:ev call gv it env m = .ok x m0) (h2:Qd x m0 = .ok ts m1) (h3:Ja (ex call gv body) tg ts env m1 = .ok (.next env') m2) :
    ex call gv (.forr tg it body k) env m=ex call gv k env' (giveBack x m0 m2):=by
  rw [ex,h1]
  show (Qd x m0).bind _=_
  rw [h2]
  show (Ja (ex call gv body) tg ts env m1).bind _=_
  rw [h3]
  rfl
end
section
variable {call:Nat→List W→Mem→Res W} {gv:List T} {env:Env} {m m1 m2:Mem} {k a b:S} {e:E} {w:W}
theorem Zf {α β:Type} (x:α) (m:Mem) (f:α→Mem→Res β):(Res.ok x m).bind f=f x m:=rfl
theorem only_k {α:Type} (x:α) (m:Mem):(Res.ok x m).only = .ok x m:=rfl
theorem view_k (x:T) (m:Mem):view (.t x) m=some x:=rfl
theorem pur_k (x:T) (m:Mem):pur (some x) m = .ok (.t x) m:=rfl
theorem Zk1 (x:Bool) (m:Mem):ZbK (.t (.bl x)) m = .ok x m:=rfl
theorem Zcp (x:Bool) (m:Mem):Qa (.t (.bl x)) m = .ok x m:=rfl
theorem frz_k (x:T) (m:Mem):frz (.t x) m = .ok x m:=rfl
theorem ZhQ (x:List T) (m:Mem):ZcM (.t (.lst x)) m = .ok x m:=rfl
theorem intP_k (x:Int) (m:Mem):intP (.t (.int x)) m = .ok (some x) m:=rfl
theorem c_lt (i j:Int):cmpT .Lt (.int i) (.int j)=some (decide (i < j)):=rfl
theorem c_le (i j:Int):cmpT .LtE (.int i) (.int j)=some (decide (i≤j)):=rfl
theorem c_gt (i j:Int):cmpT .Gt (.int i) (.int j)=some (decide (j < i)):=rfl
theorem c_ge (i j:Int):cmpT .GtE (.int i) (.int j)=some (decide (j≤i)):=rfl
theorem ZdP (i j:Int):cmpT .Eq (.int i) (.int j)=some (i == j):=rfl
theorem c_neI (i j:Int):cmpT .NotEq (.int i) (.int j)=some (!(i == j)):=rfl
theorem c_eqB (i j:Bool):cmpT .Eq (.bl i) (.bl j)=some (i == j):=rfl
theorem c_neB (i j:Bool):cmpT .NotEq (.bl i) (.bl j)=some (!(i == j)):=rfl
theorem ZdO (i j:List Nat):cmpT .Eq (.str i) (.str j)=some (i == j):=rfl
theorem Zk0 (i j:List Nat):cmpT .NotEq (.str i) (.str j)=some (!(i == j)):=rfl
theorem c_in1 (i:Nat) (j:List Nat):cmpT .In (.str [i]) (.str j)=some (decide (i∈j)):=rfl
theorem c_isT (b x:Bool):cmpT .Is (.bl x) (.bl b)=some (x == b):=rfl
theorem Zf3 (i j:Int):binT .Add (.int i) (.int j)=some (.int (i + j)):=rfl
theorem b_sub (i j:Int):binT .Sub (.int i) (.int j)=some (.int (i - j)):=rfl
theorem ZbM {a b:List Nat} (h:a.length + b.length≤lim):binT .Add (.str a) (.str b)=some (.str (a++b)):=if_pos h
theorem Ze7 {a b:List T} (h:a.length + b.length≤lim):binT .Add (.lst a) (.lst b)=some (.lst (a++b)):=if_pos h
theorem x_tup (ts:List T) (i:Int):ixT (.tup ts) (.int i)=atT ts i:=rfl
theorem x_lst (ts:List T) (i:Int):ixT (.lst ts) (.int i)=atT ts i:=rfl
theorem x_scr (ts:List Int) (i:Int):ixT (.scr ts) (.int i)=(atT ts i).map .int:=rfl
theorem x_str {cs:List Nat} (h:cs.length≤lim) (i:Int):ixT (.str cs) (.int i)=(atT cs i).map fun c=>.str [c]:=if_pos h
theorem s_lst (ts:List T) (lo hi:Option Int):slT (.lst ts) lo hi=some (.lst (cut ts lo hi)):=rfl
theorem s_scr (ts:List Int) (lo hi:Option Int):slT (.scr ts) lo hi=some (.lst ((cut ts lo hi).map .int)):=rfl
theorem ZfK {cs:List Nat} (h:cs.length≤lim):bltT .len [.str cs]=some (.int cs.length):=if_pos h
theorem Zek (ts:List T):bltT .len [.lst ts]=some (.int ts.length):=rfl
theorem ZiP (ts:List T):bltT .len [.tup ts]=some (.int ts.length):=rfl
theorem l_scr (ts:List Int):bltT .len [.scr ts]=some (.int ts.length):=rfl
theorem l_int (b:Bool):bltT .int [.bl b]=some (.int (b2i b)):=rfl
theorem Zg9 (ts:List T):bltT .tuple [.lst ts]=some (.tup ts):=rfl
theorem ZkA {ts:List T} {bs:List Bool} (h:bools? ts=some bs):bltT .all [.lst ts]=some (.bl (bs.all id)):=by
  show (bools? ts).map _=_
  rw [h]; rfl
theorem Zkz {i:Int} (h:i < 2 ^ 62∧-(2 ^ 62)≤i):bltT .range1 [.int i]=some (.lst (rangeT 0 i.toNat)):=if_pos h
theorem ZjF:views [] m=some []:=rfl
theorem ZjG (x:T) (ws:List W):views (.t x :: ws) m=(views ws m).map (x :: ·):=rfl
theorem Xr:frzs [] m = .ok [] m:=rfl
theorem Xu (x:T) (ws:List W):frzs (.t x :: ws) m=(frzs ws m).bind fun ts m=>.ok (x :: ts) m:=rfl
theorem ZJ {i:Nat} (h:ev call gv e env m = .ok w m1):ex call gv (.asg i e k) env m=ex call gv k (env.set i (some w)) m1:=by rw [ex,h]; rfl
theorem Zi (h:ev call gv e env m = .ok w m1):ex call gv (.ret e k) env m = .ok (.ret w) m1:=by rw [ex,h]; rfl
theorem Z8 (h:ev call gv e env m = .ok (.t (.bl true)) m1) (h2:ex call gv a env m1 = .ok (.ret w) m2):ex call gv (.ife e a b k) env m = .ok (.ret w) m2:=by
  rw [ex,h]
  show (ex call gv a env m1).bind _=_
  rw [h2]; rfl
theorem Zo (h:ev call gv e env m = .ok (.t (.bl false)) m1):ex call gv (.ife e a .done k) env m=ex call gv k env m1:=by rw [ex,h]; rfl
theorem Z3 {n:Nat} {cell:Bool} {t:T} (h:m1.length=n):fin n cell (.ret (.t t)) m1 = .ok (.t t) m1:=by
  show Res.ok (W.t t) (m1.take n)=_
  rw [← h,List.take_length]
theorem Qu {c:Prop} [Decidable c] {b:S} {env:Env} {m m1 m2:Mem} {k:Nat} {cell:Bool} {X:Res W} {w w':W} (hX:X=if c then (ex call gv b env m).bind fun fl m'=>fin k cell fl m' else .stuck) (hc:c) (key:ex call gv b env m = .ok (.ret w) m1) (hf:fin k cell (.ret w) m1 = .ok w' m2):X = .ok w' m2:=by
  rw [hX,if_pos hc,key]
  exact hf
theorem d_join {sep:List Nat} {xs:List T} {ys:List (List Nat)} (h:strs? xs=some ys) (hz:(ys.map List.length).sum + ys.length * sep.length≤lim):doM .join (.t (.str sep)) [.t (.lst xs)] m = .ok (.t (.str (QS sep ys))) m:=by
  show pur ((strs? xs).bind fun ys=>if (ys.map List.length).sum + ys.length * sep.length≤lim then some (.str (QS sep ys)) else none) m=_
  rw [h]
  show pur (if (ys.map List.length).sum + ys.length * sep.length≤lim then some (.str (QS sep ys)) else none) m=_
  rw [if_pos hz]
  rfl
theorem t_join {x:List Nat}:tyM .join (.t (.str x)) m=true:=rfl
end
noncomputable def EVs:=And.intro @Zf (And.intro @only_k (And.intro @view_k (And.intro @pur_k (And.intro @Zk1 (And.intro @Zcp (And.intro @frz_k (And.intro @ZhQ (And.intro @intP_k (And.intro @c_lt (And.intro @c_le (And.intro @c_gt (And.intro @c_ge (And.intro @ZdP (And.intro @c_neI (And.intro @c_eqB (And.intro @c_neB (And.intro @ZdO (And.intro @Zk0 (And.intro @c_in1 (And.intro @c_isT (And.intro @Zf3 (And.intro @b_sub (And.intro @x_tup (And.intro @x_lst (And.intro @x_scr (And.intro @s_lst (And.intro @s_scr (And.intro @Zek (And.intro @ZiP (And.intro @l_scr (And.intro @l_int (And.intro @Zg9 (And.intro @ZjF (And.intro @ZjG (And.intro @Xr (@Xu))))))))))))))))))))))))))))))))))))
end Mi
end
section
namespace Mi
open PySem PySem.Spec PyProof.Rows L2
section
variable {K:PySem.W.Frag} {cm:List Addr} {m:Mem} {H:Hp} {xr:XR} {X:Cx} {call:Nat→List W→Mem→Res W} {gv:List T}
variable {a b c e:Expr} {es:List Expr} {ea eb ec:E} {eas:Es} {pos p p2:Pos} {rest:List Stmt} {k:S} {n:Nat}
theorem ZeA:∀ {bs:List Bool} {us:List Value},Vals (bs.map V.bl) us→us=bs.map Value.bool
  | [],_,.nil=>rfl
  | b :: bs,_,.cons r rs=>by
    cases r
    rw [ZeA rs]
    rfl
end
end Mi
end
section
namespace Mi
open PySem PySem.Spec PyProof.Rows L2
section
variable {K:PySem.W.Frag} {cm:List Addr} {m:Mem} {H:Hp} {xr:XR} {X:Cx} {call:Nat→List W→Mem→Res W} {gv:List T}
variable {a b c e:Expr} {es:List Expr} {ea eb ec:E} {eas:Es} {pos p p2 pos2:Pos} {rest:List Stmt} {k:S} {n:Nat}
noncomputable def eqS (b:List Nat) (y:Value):Bool:=match y with
  | .str c _=>c == ⟨b.toArray⟩
  | _=>false
theorem cnt_strs (b:List Nat):∀ {bs:List (List Nat)} {us:List Value},StrsAre us (bs.map fun c=>(⟨c.toArray⟩:Str))→us.countP (eqS b)=bs.countP (· == b)∧∀ y∈us,∃ c t,y = .str c t
  | [],us,h=>by cases h; exact ⟨rfl,fun y hy=>by cases hy⟩
  | c :: bs,us,h=>by
    cases h with
    | cons _ t hr =>
      obtain ⟨h1,h2⟩:=cnt_strs b hr
      refine ⟨?_,fun y hy=>?_⟩
      · rw [List.countP_cons,List.countP_cons,h1]
        congr 1
        show (if ((⟨c.toArray⟩:Str) == ⟨b.toArray⟩)=true then 1 else 0)=_
        rw [str_beq]
      · rcases List.mem_cons.mp hy with rfl | hy
        · exact ⟨_,t,rfl⟩
        · exact h2 y hy
theorem Zg4:MtR X "list.count" (rM X.K xr .count):=by
  rintro pins s σ H x xs v us Q I rx rs ⟨cm,m,w,ws,M,rw',rws,ho⟩
  obtain ⟨tw,ts,t,q1,q2,e,hz9⟩:=Zg2 (b:=.count) ho
  clear ho
  cases tw with
  | lst ys =>
    obtain ⟨x1,rfl,e⟩:=Zdi e
    cases x1 with
    | bl b =>
      have e:((bools? ys).bind fun bs=>if bs.length≤lim then some (T.int ((bs.countP (· == b):Nat):Int)) else none)=some t:=e
      cases q3:bools? ys with
      | none=>rw [q3] at e; cases e
      | some bs =>
        rw [q3] at e
        have e:(if bs.length≤lim then some (T.int ((bs.countP (· == b):Nat):Int)) else none)=some t:=e
        split at e <;> cases e
        rename_i hbl
        obtain ⟨w1,rfl,q4⟩:=XH q2
        cases rws with
        | cons rv r0 =>
          cases r0
          cases (Zd rv q4 (fun _ z=>by cases z)).vbl
          obtain ⟨a,vs,rfl,h1,r1⟩:=ZG M rw' q1
          obtain ⟨u,rfl,ru⟩:=vals1 rs
          cases ru
          cases rx
          obtain ⟨its,nn,rv',ho',hz⟩:=I.lst h1
          cases RTs.bools r1 q3
          have ei:=ZeA rv'
          subst ei
          refine call_meets F.slot_list_count ⟨_,ho',rfl⟩ F.entry_list_count (F.args_list_count_2 _ _) (SeqAt.list_countAt a (bs.map Value.bool).toArray nn none #[] (.bool b) (fun y=>match y with | .bool c=>c == b | _=>false)) ⟨ho',?_,?_⟩
          · intro y hy
            have:∃ c,y = .bool c:=by
              have:y∈bs.map Value.bool:=by simpa using hy
              obtain ⟨c,_,rfl⟩:=List.mem_map.mp this
              exact ⟨c,rfl⟩
            obtain ⟨c,rfl⟩:=this
            exact SeqAt.EqAt.bool_bool c b
          · have hc:((bs.map Value.bool).toArray.toList.countP fun y=>match y with | .bool c=>c == b | _=>false)=bs.countP (· == b):=by
              show (bs.map Value.bool).countP _=_
              rw [List.countP_map]
              rfl
            rw [hc]
            exact ⟨.int _,H,I.tok _,⟨_,rfl⟩,ans hz9 M (.int _)⟩
    | str b =>
      have e:((strs? ys).bind fun bs=>if bs.length≤lim then some (T.int ((bs.countP (· == b):Nat):Int)) else none)=some t:=e
      cases q3:strs? ys with
      | none=>rw [q3] at e; cases e
      | some bs =>
        rw [q3] at e
        have e:(if bs.length≤lim then some (T.int ((bs.countP (· == b):Nat):Int)) else none)=some t:=e
        split at e <;> cases e
        rename_i hbl
        obtain ⟨w1,rfl,q4⟩:=XH q2
        cases rws with
        | cons rv r0 =>
          cases r0
          cases (Zd rv q4 (fun _ z=>by cases z)).vstr
          obtain ⟨a,vs,rfl,h1,r1⟩:=ZG M rw' q1
          obtain ⟨u,rfl,ru⟩:=vals1 rs
          obtain ⟨tk,rfl⟩:=(show ∃ t,u=Value.str ⟨b.toArray⟩ t from ru)
          cases rx
          obtain ⟨its,nn,rv',ho',hz⟩:=I.lst h1
          cases RTs.strs r1 q3
          obtain ⟨hc,hm⟩:=cnt_strs b (Zba rv')
          refine call_meets F.slot_list_count ⟨_,ho',rfl⟩ F.entry_list_count (F.args_list_count_2 _ _) (SeqAt.list_countAt a its.toArray nn none #[] (.str ⟨b.toArray⟩ tk) (eqS b)) ⟨ho',?_,?_⟩
          · intro y hy
            obtain ⟨c,t,rfl⟩:=hm y (by simpa using hy)
            exact SeqAt.EqAt.str_str c t ⟨b.toArray⟩ tk
          · rw [show its.toArray.toList.countP (eqS b)=bs.countP (· == b) from hc]
            exact ⟨.int _,H,I.tok _,⟨_,rfl⟩,ans hz9 M (.int _)⟩
    | _=>cases e
  | _=>cases e
theorem ZgG {o:Expr} {apos cpos:Pos} (ho:PE X o (tE X.K call gv xr ea)) (ha:PA X [e] (tA X.K call gv xr eas))
    (hbase:attributeBase o "count" X.env (eval o X.env)=eval o X.env:=by rfl)
    (hline:(apos.endLine == cpos.line)=true:=by rfl) (hs:notStar e=true:=by rfl) :
    PE X (.Call (.Attribute o "count" apos) [e] [] cpos) (tE X.K call gv xr (.mth .count ea eas)):=by
  refine PE.mono (ZiF PySem.F.plainAttrs_list PySem.F.slot_list_count PySem.F.type_list_count (Zg4 (xr:=xr)) ho ha hbase (few1 hs) hline (Qv hs) (Xl rfl)) ?_
  rintro σ H Q ⟨env,cm,m,hE,M,hq⟩
  rw [ev] at hq
  refine ⟨env,cm,m,hE,M,hq.bind.mono fun w cm1 m1 H1 x1 M1 o1 v rv=>?_⟩
  obtain ⟨ht,o1⟩:=Zbx o1
  refine ⟨?_,env,cm1,m1,hE.ext x1 M M1,M1,o1.bind.mono fun ws cm2 m2 H2 x2 M2 o2 vs rvs=>⟨cm2,m2,w,ws,M2,rv.ext x2 M1 M2,rvs,o2⟩⟩
  have ht:(match view w m1 with
    | some (.lst _)=>true
    | _=>false)=true:=ht
  split at ht
  · rename_i ts e1
    obtain ⟨a,vs,rfl,h1,_⟩:=ZG M1 rv e1
    exact .inl ⟨rfl,vs,.of h1⟩
  · cases ht
theorem ZcC:∀ {ks:List Key} {ts:List T} {vs:List V} (_:RTs K cm m H ts vs) (k:Key),(∃ t v,Qs ks ts k=some t∧valV (ks.zip vs) k=some v∧RT K cm m H t v)∨(Qs ks ts k=none∧valV (ks.zip vs) k=none)
  | [],_,_,_,k=>.inr ⟨by simp [Qs],by simp [valV]⟩
  | _ :: _,_,_,.nil,k=>.inr ⟨by simp [Qs],by simp [valV]⟩
  | k0 :: ks,t :: ts,v :: vs,.cons r rs,k=>by
    by_cases h:k0=k
    · subst h
      exact .inl ⟨t,v,by simp [Qs],by simp [valV],r⟩
    · have e1:Qs (k0 :: ks) (t :: ts) k=Qs ks ts k:=by simp [Qs,List.find?_cons,h]
      have e2:valV ((k0 :: ks).zip (v :: vs)) k=valV (ks.zip vs) k:=by simp [valV,List.find?_cons,h]
      rw [e1,e2]
      exact ZcC rs k
theorem ZkD {t:T} {k:Key} {v:V} (h:keyT t=some k) (r:RT K cm m H t v):v=kV k:=by
  unfold keyT at h
  split at h <;> cases h
  · cases RT.vint r; rfl
  · cases RT.vstr r; rfl
end
end Mi
end
section
namespace Mi
open PySem PySem.Spec PyProof.Rows L2
noncomputable abbrev q1 (h:Heap) (a:Addr):Heap:=h.push { cls:=.type "list_iterator",data:=.fields #[.ref a,.int 0 0] }
noncomputable abbrev q5 (h:Heap) (a b c d:Addr):Heap:=(q1 (q1 (q1 (q1 h a) b) c) d).push { cls:=.type "tuple",data:=.seq #[.ref h.objs.size,.ref (q1 h a).objs.size,.ref (q1 (q1 h a) b).objs.size,.ref (q1 (q1 (q1 h a) b) c).objs.size] }
noncomputable abbrev q6 (h:Heap) (a b c d:Addr):Heap:=(q5 h a b c d).push { cls:=.type "tuple",data:=.seq #[.none,.none,.none,.none] }
noncomputable abbrev q7 (h:Heap) (a b c d:Addr):Heap:=(q6 h a b c d).push { cls:=.type "zip",data:=.fields #[.none,.bool false,.bool false,.ref (q1 (q1 (q1 (q1 h a) b) c) d).objs.size,.ref (q5 h a b c d).objs.size] }
set_option maxHeartbeats 4000000 in
section
variable {K:PySem.W.Frag} {cm:List Addr} {m:Mem} {H:Hp} {xr:XR} {X:Cx} {call:Nat→List W→Mem→Res W} {gv:List T}
variable {a b c d e:Expr} {es:List Expr} {ea eb ec:E} {eas:Es} {pos p p2 pos2:Pos} {rest:List Stmt} {k:S} {n:Nat}
end
end Mi
end
section
namespace Mi
open PySem PySem.Spec PyProof.Rows L2
section
variable {K:PySem.W.Frag} {cm cm':List Addr} {m m':Mem} {H H':Hp} {xr:XR} {X:Cx} {call:Nat→List W→Mem→Res W} {gv:List T}
variable {a b c e:Expr} {es:List Expr} {ea eb ec:E} {eas:Es} {pos p p2:Pos} {rest:List Stmt} {k:S} {n:Nat}
theorem Xx {c:Nat}:∀ {ws:List (List Nat)},ws≠[]→(∀ w∈ws,c ∉ w)→Qc c (QS [c] ws)=ws
  | [],h,_=>absurd rfl h
  | [w],h0,hc=>by
    show Qc c w=[w]
    have hw:=hc w (List.mem_singleton.mpr rfl)
    clear hc h0
    induction w with
    | nil=>rfl
    | cons a r ih =>
      rw [Qc,if_neg (fun z=>hw (by rw [z]; exact List.mem_cons_self)),ih fun z=>hw (List.mem_cons_of_mem _ z)]
  | w :: v :: r,h0,hc=>by
    have ih:=Xx (c:=c) (ws:=v :: r) (by simp) fun u hu=>hc u (List.mem_cons_of_mem _ hu)
    show Qc c (w++[c]++QS [c] (v :: r))=_
    have hw:=hc w List.mem_cons_self
    clear hc h0
    induction w with
    | nil =>
      show Qc c (c :: QS [c] (v :: r))=_
      rw [Qc,if_pos rfl,ih]
    | cons a w ihw =>
      show Qc c (a :: (w++[c]++QS [c] (v :: r)))=_
      rw [Qc,if_neg (fun z=>hw (by rw [z]; exact List.mem_cons_self)),ihw fun z=>hw (List.mem_cons_of_mem _ z)]
theorem Zia (c:Nat) (cs:List Nat):Txt.split ⟨cs.toArray⟩ ⟨#[c]⟩=(Qc c cs).map fun w=>(⟨w.toArray⟩:Str):=by
  have h1:=StrLaws.join_split ⟨cs.toArray⟩ ⟨#[c]⟩
  have h2:=StrLaws.split_free ⟨cs.toArray⟩ c
  have h3:=split_pos (⟨cs.toArray⟩:Str) ⟨#[c]⟩
  generalize hq:Txt.split ⟨cs.toArray⟩ ⟨#[c]⟩=ps at h1 h2 h3
  have hm:ps=(ps.map fun p=>p.cps.toList).map fun w=>(⟨w.toArray⟩:Str):=by
    rw [List.map_map]
    exact (List.map_id' (l:=ps)).symm.trans (List.map_congr_left fun x _=>by cases x; simp)
  have hj:QS [c] (ps.map fun p=>p.cps.toList)=cs:=by
    have:=Zem [c] (ps.map fun p=>p.cps.toList)
    rw [← hm] at this
    have e2:(⟨cs.toArray⟩:Str)=⟨(QS [c] (ps.map fun p=>p.cps.toList)).toArray⟩:=h1.symm.trans this
    have e3:=congrArg (fun z:Str=>z.cps.toList) e2
    simpa using e3.symm
  have hs:=Xx (c:=c) (ws:=ps.map fun p=>p.cps.toList) (by
    intro z
    have:ps=[]:=List.map_eq_nil_iff.mp z
    rw [this] at h3
    simp at h3) (fun w hw=>by
    obtain ⟨q,hq,rfl⟩:=List.mem_map.mp hw
    exact h2 q hq)
  rw [hj] at hs
  rw [hs]
  exact hm
theorem Zgm {prog:Program} {w:World} {A:Around} {E:Value→Shared→Prop} {s:Shared} {Q:Value→Shared→Prop} {x y:Str} {t u:Tok} (hy:(y.length == 0)=false) (hz:x.length + 2≤sizeLine)
    (h:∀ (l:List (Str×Tok)) (k:Nat),l.map (·.1)=Txt.split x y→Q (.ref s.heap.objs.size) { s with heap:=s.heap.push { cls:=.type "list",data:=.seq (strValues l).toArray },toks:=k }) :
    wpAny (model prog w) A (PySem.call (.builtin "str.split") [.str x t,.str y u]) Q E s:=by
  have many:(Builtin.Str.partsBetween x (Builtin.Str.occurrences x y 0 x.length (x.length + 1)) y.length).length≤sizeLine:=by
    have:=StrLaws.occ_length_le x y 0 x.length (x.length + 1)
    rw [length_partsBetween]; omega
  by_cases h1:(decide (x.length < y.length) || decide (Builtin.Str.strKind x < Builtin.Str.strKind y))=true
  · refine call_meets F.slot_str_split (typeIs_str _ _ _) F.entry_str_split (F.args_str_split_2 _ _) (meets_str_split_cannot_occur x y t u h1) ?_
    exact h [(x,t)] s.toks (if_pos h1).symm
  · have g1:=Bool.eq_false_iff.mpr h1
    by_cases h2:(Builtin.Str.occurrences x y 0 x.length (x.length + 1)).isEmpty=true
    · refine call_meets F.slot_str_split (typeIs_str _ _ _) F.entry_str_split (F.args_str_split_2 _ _) (meets_str_split_not_found x y t u g1 hy h2) ?_
      exact h [(x,t)] s.toks ((if_neg h1).trans (if_pos h2)).symm
    · have g2:=Bool.eq_false_iff.mpr h2
      refine call_meets F.slot_str_split (typeIs_str _ _ _) F.entry_str_split (F.args_str_split_2 _ _) (meets_str_split_sep x y t u g1 hy g2 (by omega) many) ?_
      have q:=h (numbered s.toks (Builtin.Str.partsBetween x (Builtin.Str.occurrences x y 0 x.length (x.length + 1)) y.length)) (s.toks + (Builtin.Str.partsBetween x (Builtin.Str.occurrences x y 0 x.length (x.length + 1)) y.length).length) ((numbered_texts _ _).trans ((if_neg h1).trans (if_neg h2)).symm)
      rw [← strsFrom_eq] at q
      exact q
theorem Zbd:∀ {l:List (Str×Tok)} {xs:List Str},l.map (·.1)=xs→Vals (xs.map V.str) (strValues l)
  | [],_,e=>by cases e; exact .nil
  | q :: l,_,e=>by cases e; exact .cons ⟨q.2,rfl⟩ (Zbd rfl)
theorem ZeF:∀ (ws:List (List Nat)),RTs K cm m H (ws.map T.str) (ws.map fun w=>V.str ⟨w.toArray⟩)
  | []=>.nil
  | w :: ws=>.cons (.str w) (ZeF ws)
theorem ZbX (c:Nat):∀ x:List Nat,(Qc c x).length≤x.length + 1
  | []=>by rw [Qc]; simp
  | a :: r=>by
    have ih:=ZbX c r
    rw [Qc]
    split
    · simp only [List.length_cons]; omega
    · split
      · rename_i e; rw [e] at ih; simp only [List.length_cons] at ih ⊢; omega
      · simp only [List.length_cons,List.length_nil]; omega
theorem Zg3:MtR X "str.split" (rM X.K xr .split):=by
  rintro pins s σ H x xs v us Q I rx rs ⟨cm,m,w,ws,M,rw',rws,ho⟩
  obtain ⟨tw,ts,t,q1,q2,e,hz9⟩:=Zg2 (b:=.split) ho
  clear ho
  unfold mthT at e
  dsimp only at e
  split at e
  · rename_i cs
    split at e
    · rename_i c
      split at e <;> cases e
      rename_i hl
      obtain ⟨w1,rfl,e1⟩:=XH q2
      cases (Zd rw' q1 (fun _ z=>by cases z)).vstr
      cases rws with
      | cons r1 r0 =>
        cases r0
        cases (Zd r1 e1 (fun _ z=>by cases z)).vstr
        obtain ⟨tt,rfl⟩:=rx
        obtain ⟨u1,rfl,tu,rfl⟩:=vals1 rs
        have hz:=ZV
        unfold lim at hz
        refine Zgm rfl (by show cs.toArray.size + 2≤_; rw [List.size_toArray]; omega) fun l k' el=>?_
        rw [Zia c cs] at el
        have hv:=Zbd el
        rw [List.map_map] at hv
        have hlen:=ZbX c cs
        have I':=I.lnew (t':=k') hv (by rw [List.length_map]; omega)
        exact ⟨.ref s.heap.objs.size,_,I',rfl,Zcj hz9 M (ZeF _) I.fresh⟩
    · cases e
  · cases e
theorem ZjK {w:W} {v:V} (r:RW K cm m H w v) (h:tyM .split w m=true):tyV K "str" v H:=by
  have h':(match view w m with | some (.str _)=>true | _=>false)=true:=h
  split at h'
  · rename_i cs e
    cases (Zd r e (fun _ z=>by cases z)).vstr
    rfl
  · cases h'
theorem ZgF {o:Expr} {apos cpos:Pos} (ho:PE X o (tE X.K call gv xr ea)) (ha:PA X [e] (tA X.K call gv xr eas))
    (hbase:attributeBase o "split" X.env (eval o X.env)=eval o X.env:=by rfl)
    (hline:(apos.endLine == cpos.line)=true:=by rfl) (hs:notStar e=true:=by rfl) :
    PE X (.Call (.Attribute o "split" apos) [e] [] cpos) (tE X.K call gv xr (.mth .split ea eas)):=by
  refine PE.mono (ZiF PySem.F.plainAttrs_str PySem.F.slot_str_split PySem.F.type_str_split (Zg3 (xr:=xr)) ho ha hbase (few1 hs) hline (Qv hs) (Xl rfl)) ?_
  rintro σ H Q ⟨env,cm,m,hE,M,hq⟩
  rw [ev] at hq
  refine ⟨env,cm,m,hE,M,hq.bind.mono fun w cm1 m1 H1 x1 M1 o1 v rv=>?_⟩
  obtain ⟨ht,o1⟩:=Zbx o1
  refine ⟨ZjK rv ht,env,cm1,m1,hE.ext x1 M M1,M1,o1.bind.mono fun ws cm2 m2 H2 x2 M2 o2 vs rvs=>?_⟩
  exact ⟨cm2,m2,w,ws,M2,rv.ext x2 M1 M2,rvs,o2⟩
end
end Mi
end
section
namespace Mi
open PySem PySem.Spec PyProof.Rows L2
noncomputable def ZhY (P:Program) (w:World) (K:PySem.W.Frag) (mg:Str→Option Value) (x:Str) (ks:List Key) (ts:List T):Prop :=
  ∃ (a:Addr) (us:List Value) (ys:List V),mg x=some (.ref a)∧(∀ h:Heap,K.In h→h.DictOf (Jv P w) a (ks.zip us))∧(a == sysModules)=false∧Vals ys us∧ks.length=us.length∧∀ cm m H,RTs K cm m H ts ys
section
variable {K:PySem.W.Frag} {cm cm':List Addr} {m m':Mem} {H H':Hp} {xr:XR} {X:Cx} {call:Nat→List W→Mem→Res W} {gv:List T}
variable {a b c e:Expr} {es:List Expr} {ea eb ec:E} {eas:Es} {pos p p2:Pos} {rest:List Stmt} {k:Nat} {n:Nat}
theorem Zha:∀ {ks:List Key} {ys:List V} {us:List Value},Vals ys us→KV (ks.zip ys) (ks.zip us)
  | [],_,_,_=>.nil
  | _ :: _,_,_,.nil=>.nil
  | _ :: _,_,_,.cons r rs=>.cons ⟨rfl,r⟩ (Zha rs)
theorem ZbA {o:Option T} {f:List Key→List T→Option T} {t:T} (h:gDct o f=some t):∃ ks ts,o=some (.dct ks ts)∧f ks ts=some t:=by
  unfold gDct at h
  split at h
  · exact ⟨_,_,rfl,h⟩
  · cases h
theorem ZcQ {w:W} {t:T} {kk:Key} {v:V} (r:RW K cm m H w v) (e:view w m=some t) (hk:keyT t=some kk):v=kV kk:=by
  refine ZkD hk (Zd r e fun ts z=>?_)
  subst z
  cases hk
theorem Zkf {x:Str} {ks:List Key} {ts:List T} (hg:Gl X x) (hk:gv[k]? = some (.dct ks ts)) (ok:ZhY X.prog X.w X.K X.mg x ks ts) (hb:PE X b (tE X.K call gv xr eb)) (hs:NoSl b) (hd:(x == ("__debug__" : Str))=false):PE X (.Subscript (.Name x p) b pos) (tE X.K call gv xr (.gdg k eb)):=by
  obtain ⟨a,us,ys,h1,h2,h3,h4,h5,h6⟩:=ok
  rintro pins s σ H Q I ⟨env,cm,m,hE,M,ho⟩
  rw [ev] at ho
  refine ZjN PySem.F.slot_dict_getitem.lookup hs (Zat I hg h1 (thn (hb pins s σ H (fun v H1=>∃ cm1 m1 w,MemR X.K cm1 m1 H1∧RW X.K cm1 m1 H1 w v∧OkR X.K (pur ((view w m1).bind fun x=>gDct gv[k]? fun ks vs=>(keyT x).bind (Qs ks vs)) m1) xr cm1 m1 H1 fun w cm' m' H'=>∀ v,RW X.K cm' m' H' w v→Q v H') I ⟨env,cm,m,hE,M,ho.bind.mono fun w cm1 m1 H1 x1 M1 o1 v rv=>⟨cm1,m1,w,M1,rv,o1⟩⟩) ?_) hd)
  rintro u s1 ⟨v,H1,I1,ru,cm1,m1,w,M1,rv,o1⟩
  obtain ⟨t,e,o1⟩:=QD o1
  have dd:=h2 _ I1.kIn
  refine ⟨dd.typeIs,?_⟩
  cases q:view w m1 with
  | none=>rw [q] at e; cases e
  | some tw =>
    rw [q] at e
    obtain ⟨ks',ts',e1,e2⟩:=ZbA (show gDct gv[k]? (fun ks vs=>(keyT tw).bind (Qs ks vs))=some t from e)
    rw [hk] at e1
    cases e1
    cases q2:keyT tw with
    | none=>rw [q2] at e2; cases e2
    | some kk =>
      rw [q2] at e2
      have e2:Qs ks ts kk=some t:=e2
      cases ZcQ rv q q2
      rcases ZcC (ks:=ks) (h6 cm1 m1 H1) kk with ⟨t',v',f1,f2,f3⟩ | ⟨f1,_⟩
      · rw [e2] at f1; cases f1
        obtain ⟨u',g1,g2⟩:=RelO.some_of (v:=v') (o:=valueAt (ks.zip us) kk) (by rw [← f2]; exact (Zha h4).val kk)
        exact wpAny_getItem_of (ZkE ru) dd.mapOf g1 ⟨v',H1,I1.tok _,g2,ans o1 M1 f3⟩
      · rw [e2] at f1; cases f1
noncomputable def Zkx (neg:Bool):CmpOp:=if neg then .NotIn else .In
theorem Zkm {x:Str} {neg:Bool} {ks:List Key} {ts:List T} (hg:Gl X x) (hk:gv[k]? = some (.dct ks ts)) (ok:ZhY X.prog X.w X.K X.mg x ks ts) (hb:PE X b (tE X.K call gv xr eb)) (hd:(x == ("__debug__" : Str))=false):PC X (Zkx neg) b (.Name x p) (tE X.K call gv xr (.gdn k neg eb)):=by
  obtain ⟨a,us,ys,h1,h2,h3,h4,h5,h6⟩:=ok
  rintro pins s σ H Q I ⟨env,cm,m,hE,M,ho⟩
  rw [ev] at ho
  refine thn (hb pins s σ H (fun v H1=>∃ cm1 m1 w,MemR X.K cm1 m1 H1∧RW X.K cm1 m1 H1 w v∧OkR X.K (pur ((view w m1).bind fun x=>gDct gv[k]? fun ks vs=>(keyT x).map fun k=>T.bl (if neg then !(Qs ks vs k).isSome else (Qs ks vs k).isSome)) m1) xr cm1 m1 H1 fun w cm' m' H'=>∀ v,RW X.K cm' m' H' w v→Q v H') I ⟨env,cm,m,hE,M,ho.bind.mono fun w cm1 m1 H1 x1 M1 o1 v rv=>⟨cm1,m1,w,M1,rv,o1⟩⟩) ?_
  rintro u s1 ⟨v,H1,I1,ru,cm1,m1,w,M1,rv,o1⟩
  refine Zat I1 hg h1 ?_ hd
  obtain ⟨t,e,o1⟩:=QD o1
  have dd:=h2 _ I1.kIn
  cases q:view w m1 with
  | none=>rw [q] at e; cases e
  | some tw =>
    rw [q] at e
    obtain ⟨ks',ts',e1,e2⟩:=ZbA (show gDct gv[k]? (fun ks vs=>(keyT tw).map fun k=>T.bl (if neg then !(Qs ks vs k).isSome else (Qs ks vs k).isSome))=some t from e)
    rw [hk] at e1
    cases e1
    cases q2:keyT tw with
    | none=>rw [q2] at e2; cases e2
    | some kk =>
      rw [q2] at e2
      cases e2
      cases ZcQ rv q q2
      have hv:(valueAt (ks.zip us) kk).isSome=(Qs ks ts kk).isSome:=by
        have r:=(Zha (ks:=ks) h4).val kk
        rcases ZcC (ks:=ks) (h6 cm1 m1 H1) kk with ⟨t',v',f1,f2,f3⟩ | ⟨f1,f2⟩
        · rw [f2] at r
          obtain ⟨u',g1,_⟩:=RelO.some_of r
          rw [g1,f1]; rfl
        · rw [f2] at r
          rw [RelO.none_of r,f1]; rfl
      cases neg with
      | true =>
        refine wpAny_notIn_of (ZkE ru) h3 dd.mapOf ?_
        rw [hv]
        exact ⟨.bl _,H1,I1.tok _,rfl,ans o1 M1 (.bl _)⟩
      | false =>
        refine wpAny_in_of (ZkE ru) h3 dd.mapOf ?_
        rw [hv]
        exact ⟨.bl _,H1,I1.tok _,rfl,ans o1 M1 (.bl _)⟩
theorem gdn_bl {env:Env} {m m':Mem} {neg:Bool} {w:W} (h:ev call gv (.gdn k neg eb) env m = .ok w m'):∃ k,w = .t (.bl k):=by
  rw [ev] at h
  obtain ⟨x,m1,_,h⟩:=Zw h
  unfold pur at h
  split at h
  · rename_i t e
    obtain ⟨rfl,rfl⟩:W.t t=w∧m1=m':=by cases h; exact ⟨rfl,rfl⟩
    cases q:view x m1 with
    | none=>rw [q] at e; cases e
    | some tw =>
      rw [q] at e
      obtain ⟨ks',ts',e1,e2⟩:=ZbA e
      cases q2:keyT tw with
      | none=>rw [q2] at e2; cases e2
      | some kk=>rw [q2] at e2; cases e2; exact ⟨_,rfl⟩
  · cases h
theorem ZjT {x:Str} {neg:Bool} {ks:List Key} {ts:List T} (hg:Gl X x) (hk:gv[k]? = some (.dct ks ts)) (ok:ZhY X.prog X.w X.K X.mg x ks ts) (hb:PE X b (tE X.K call gv xr eb)) (hd:(x == ("__debug__" : Str))=false) (hm:behindInMarks (Zkx neg) (.Name x p)=false):PT X (.Compare b [Zkx neg] [.Name x p] pos) (tT X.K call gv xr (.gdn k neg eb)) :=
  Zd6 (f:=fun _ _=>.stuck) (te:=tE X.K call gv xr (.gdn k neg eb)) (PT.mono (pt_cmp (Zkm (neg:=neg) hg hk ok hb hd) hm) fun σ H Q q=>q) (fun env m w m' h=>gdn_bl h) (fun σ H Q q=>q)
theorem ZfL {ks:List (List Nat)} (h:ks.Nodup):(ks.map fun k=>(Sum.inr ⟨k.toArray⟩:Key)).Nodup:=by
  refine List.Pairwise.map _ (fun a b hne z=>hne ?_) h
  have:=congrArg (fun q:Key=>match q with | .inr x=>x.cps.toList | .inl _=>[]) z
  simpa using this
theorem Zf6 {α β:Type}:∀ {xs:List α} {ys:List β},xs.length=ys.length→(xs.zip ys).map (·.1)=xs
  | [],_,_=>rfl
  | _ :: _,[],h=>by simp at h
  | x :: xs,y :: ys,h=>by simp [Zf6 (xs:=xs) (ys:=ys) (by simpa using h)]
inductive Ents (w:World):List (List Nat)→List Value→List DictEntry→Prop where
  | nil:Ents w [] [] []
  | cons {y:Str} {t:Tok} {cs:List Nat} {h:Int} {u:Value} {css:List (List Nat)} {us:List Value} {es:List DictEntry}:y.cps.toList=cs→h=hashStr w y→Ents w css us es→Ents w (cs :: css) (u :: us) (⟨h,.str y t,u⟩ :: es)
noncomputable def VT (K:PySem.W.Frag) (u:Value) (t:T):Prop:=∃ v,RelV v u∧∀ cm m H,RT K cm m H t v
inductive VTs (K:PySem.W.Frag):List Value→List T→Prop where
  | nil:VTs K [] []
  | cons {u:Value} {t:T} {us:List Value} {ts:List T}:VT K u t→VTs K us ts→VTs K (u :: us) (t :: ts)
theorem vt_str {y:Str} {t:Tok} {cs:List Nat} (h:y.cps.toList=cs):VT K (.str y t) (.str cs):=⟨.str y,⟨t,rfl⟩,fun cm m H=>by rw [ZcW h]; exact .str cs⟩
theorem VTs.get:∀ {us:List Value} {ts:List T},VTs K us ts→∃ ys,Vals ys us∧∀ cm m H,RTs K cm m H ts ys
  | _,_,.nil=>⟨[],.nil,fun _ _ _=>.nil⟩
  | _,_,.cons ⟨v,h1,h2⟩ r=>let ⟨ys,h3,h4⟩:=r.get; ⟨v :: ys,.cons h1 h3,fun cm m H=>.cons (h2 cm m H) (h4 cm m H)⟩
theorem Ents.pairs {P:Program} {w:World}:∀ {css:List (List Nat)} {us:List Value} {es:List DictEntry},Ents w css us es→(∀ e∈es,∃ k,(Jv P w).is k e.key=true∧e.hash=(Jv P w).hash k)∧Pairs (Jv P w) es ((css.map fun k=>(Sum.inr ⟨k.toArray⟩:Key)).zip us)∧css.length=us.length
  | _,_,_,.nil=>And.intro (fun e he=>nomatch he) (And.intro Pairs.nil rfl)
  | _,_,_,@Ents.cons _ y t cs h u css us es e1 e2 r=>by
    obtain ⟨h1,h2,h3⟩:=Ents.pairs (P:=P) r
    refine ⟨fun e he=>?_,.cons (kv:=(.inr ⟨cs.toArray⟩,u)) ?_ rfl h2,by simp [h3]⟩
    · rcases List.mem_cons.mp he with rfl | he
      · exact ⟨.inr y,Zbt y t,e2⟩
      · exact h1 e he
    · show Zel (.inr ⟨cs.toArray⟩) (.str y t)=true
      rw [← ZcW e1]
      exact Zbt y t
theorem Zhn {P:Program} {w:World} {mg:Str→Option Value} {x:Str} {a:Addr} {es:Array DictEntry} {nn:Nat} {css:List (List Nat)} {us:List Value} {ts:List T} (h:mg x=some (.ref a)) (l:K.lookup a=some ⟨.type "dict",none,.dict es nn,#[]⟩) (hz:(a == sysModules)=false)
    (he:Ents w css us es.toList) (nd:css.Nodup) (hv:VTs K us ts):ZhY P w K mg x (css.map fun k=>.inr ⟨k.toArray⟩) ts:=by
  obtain ⟨ys,h1,h2⟩:=hv.get
  obtain ⟨p1,p2,p3⟩:=he.pairs (P:=P)
  refine ⟨a,us,ys,h,fun hh hK=>⟨_,es,nn,hK a _ l,⟨rfl,rfl,rfl⟩,rfl,fun e hm=>p1 e (Array.mem_toList_iff.mpr hm),p2,?_⟩,hz,h1,by rw [List.length_map]; exact p3,h2⟩
  rw [Zf6 (by rw [List.length_map]; exact p3)]
  exact ZfL nd
end
end Mi
end
section
namespace My
open Mi
noncomputable def Q8:E:=(.emit (.cmp .In (.var 0) (.gl 0)))
noncomputable def JZ:E:=(.comp 1 [] (.var 0) (.nm 0) .nil Q8)
noncomputable def Qm:S:=(.ret (.and (.cmp .Gt (.blt .len (.cons (.var 0) .nil)) (.con (.int 0))) (.and (.cmp .NotIn (.var 0) (.gl 2)) (.blt .all (.cons JZ .nil)))) .done)
noncomputable def Q6:S:=(.ret (.and (.isi (.var 0) .str) (.and (.cmp .LtE (.blt .len (.cons (.var 0) .nil)) (.gl 1)) (.call 0 (.cons (.var 0) .nil)))) .done)
noncomputable def JM:S:=(.ret (.and (.isi (.var 0) .int) (.not (.isi (.var 0) .bool))) .done)
noncomputable def QX:S:=(.ret (.and (.call 2 (.cons (.var 0) .nil)) (.chn .LtE .LtE (.con (.int 0)) (.var 0) (.gl 3))) .done)
noncomputable def Jk:S:=(.ret (.and (.isi (.var 0) .str) (.cmp .In (.var 0) (.var 1))) .done)
noncomputable def Z9:S:=(.ife (.not (.isi (.var 0) .tuple)) (.ret (.con (.bl false)) .done) .done (.ife (.cmp .Eq (.blt .len (.cons (.var 0) .nil)) (.con (.int 1))) (.ret (.call 4 (.cons (.ix (.var 0) (.con (.int 0))) (.cons (.tup (.cons (.con (.str [97,110,121])) .nil)) .nil))) .done) .done (.ife (.cmp .Eq (.blt .len (.cons (.var 0) .nil)) (.con (.int 2))) (.ret (.and (.call 4 (.cons (.ix (.var 0) (.con (.int 0))) (.cons (.tup (.cons (.con (.str [105,115])) (.cons (.con (.str [98,121])) .nil))) .nil))) (.call 1 (.cons (.ix (.var 0) (.con (.int 1))) .nil))) .done) .done (.ife (.cmp .Eq (.blt .len (.cons (.var 0) .nil)) (.con (.int 3))) (.ret (.and (.call 4 (.cons (.ix (.var 0) (.con (.int 0))) (.cons (.tup (.cons (.con (.str [108,101,97,115,116])) (.cons (.con (.str [109,111,115,116])) .nil))) .nil))) (.and (.call 1 (.cons (.ix (.var 0) (.con (.int 1))) .nil)) (.call 3 (.cons (.ix (.var 0) (.con (.int 2))) .nil)))) .done) .done (.ret (.con (.bl false)) .done)))))
noncomputable def QG:S:=(.ret (.and (.isi (.var 0) .tuple) (.chn .LtE .LtE (.gl 6) (.blt .len (.cons (.var 0) .nil)) (.gl 7))) .done)
noncomputable def QW:S:=(.ife (.or (.not (.isi (.var 0) .tuple)) (.cmp .NotEq (.blt .len (.cons (.var 0) .nil)) (.con (.int 2)))) (.ret (.tup .nil) .done) .done (.ife (.call 4 (.cons (.ix (.var 0) (.con (.int 0))) (.cons (.tup (.cons (.con (.str [110,111,116])) .nil)) .nil))) (.ret (.tup (.cons (.ix (.var 0) (.con (.int 1))) .nil)) .done) .done (.ife (.and (.call 4 (.cons (.ix (.var 0) (.con (.int 0))) (.cons (.tup (.cons (.con (.str [97,110,100])) (.cons (.con (.str [111,114])) .nil))) .nil))) (.call 6 (.cons (.ix (.var 0) (.con (.int 1))) .nil))) (.ret (.ix (.var 0) (.con (.int 1))) .done) .done (.ret (.tup .nil) .done))))
noncomputable def Jf:S:=(.ret (.or (.call 5 (.cons (.var 0) .nil)) (.cmp .Gt (.blt .len (.cons (.call 7 (.cons (.var 0) .nil)) .nil)) (.con (.int 0)))) .done)
noncomputable def QT:E:=(.more (.call 7 (.cons (.var 0) .nil)) (.nm 1) .nil (.emit (.var 1)))
noncomputable def ZbH:E:=(.comp 2 [] (.var 1) (.nm 0) .nil QT)
noncomputable def XD:E:=(.emit (.call 8 (.cons (.var 0) .nil)))
noncomputable def ZbG:E:=(.comp 1 [] (.var 1) (.nm 0) .nil XD)
noncomputable def Zy:S:=(.aug 2 .Add (.blt .len (.cons (.var 1) .nil)) (.ife (.or (.cmp .Gt (.var 2) (.gl 5)) (.not (.blt .all (.cons ZbG .nil)))) (.ret (.con (.bl false)) .done) .done (.asg 1 ZbH .done)))
noncomputable def JL:S:=(.asg 1 (.lst (.cons (.var 0) .nil)) (.asg 2 (.con (.int 0)) (.forr (.nm 3) (.blt .range1 (.cons (.gl 4) .nil)) Zy (.ret (.cmp .Eq (.blt .len (.cons (.var 1) .nil)) (.con (.int 0))) .done))))
noncomputable def Jo:E:=(.emit (.cmp .In (.var 0) (.gl 8)))
noncomputable def QK:E:=(.comp 1 [] (.var 0) (.nm 0) .nil Jo)
noncomputable def ZS:S:=(.ife (.or (.not (.chn .LtE .LtE (.con (.int 1)) (.blt .len (.cons (.var 0) .nil)) (.gl 9))) (.not (.blt .all (.cons QK .nil)))) (.ret (.con (.bl false)) .done) .done (.ret (.or (.cmp .Eq (.var 0) (.con (.str [48]))) (.cmp .NotEq (.ix (.var 0) (.con (.int 0))) (.con (.str [48])))) .done))
noncomputable def JK:S:=(.ife (.cmp .Lt (.var 1) (.blt .len (.cons (.var 0) .nil))) (.ret (.ix (.var 0) (.var 1)) .done) .done (.ret (.con (.str [])) .done))
noncomputable def Q5:S:=(.asg 2 (.call 11 (.cons (.var 0) (.cons (.var 1) .nil))) (.ife (.not (.call 0 (.cons (.var 2) .nil))) (.rse 71 ["at"] (.cons (.var 1) .nil) .done) .done (.ret (.var 2) .done)))
noncomputable def Qp:S:=(.asg 2 (.call 11 (.cons (.var 0) (.cons (.var 1) .nil))) (.ife (.not (.call 10 (.cons (.var 2) .nil))) (.rse 71 ["at"] (.cons (.var 1) .nil) .done) .done (.ret (.blt .int (.cons (.var 2) .nil)) .done)))
noncomputable def Qo:S:=(.asg 2 (.call 11 (.cons (.var 0) (.cons (.var 1) .nil))) (.ife (.cmp .Eq (.var 2) (.con (.str [97,110,121]))) (.ret (.tup (.cons (.tup (.cons (.var 2) .nil)) (.cons (.bin .Add (.var 1) (.con (.int 1))) .nil))) .done) .done (.ife (.cmp .In (.var 2) (.tup (.cons (.con (.str [105,115])) (.cons (.con (.str [98,121])) .nil)))) (.ret (.tup (.cons (.tup (.cons (.var 2) (.cons (.call 12 (.cons (.var 0) (.cons (.bin .Add (.var 1) (.con (.int 1))) .nil))) .nil))) (.cons (.bin .Add (.var 1) (.con (.int 2))) .nil))) .done) .done (.asg 3 (.call 12 (.cons (.var 0) (.cons (.var 1) .nil))) (.asg 4 (.call 11 (.cons (.var 0) (.cons (.bin .Add (.var 1) (.con (.int 1))) .nil))) (.ife (.gdn 11 true (.var 4)) (.rse 71 ["at"] (.cons (.bin .Add (.var 1) (.con (.int 1))) .nil) .done) .done (.ret (.tup (.cons (.tup (.cons (.gdg 11 (.var 4)) (.cons (.var 3) (.cons (.call 13 (.cons (.var 0) (.cons (.bin .Add (.var 1) (.con (.int 2))) .nil))) .nil)))) (.cons (.bin .Add (.var 1) (.con (.int 3))) .nil))) .done)))))))
noncomputable def Je:S:=(.asg 3 (.call 11 (.cons (.var 0) (.cons (.var 1) .nil))) (.ife (.cmp .NotIn (.var 3) (.tup (.cons (.con (.str [110,111,116])) (.cons (.con (.str [40])) .nil)))) (.ret (.call 14 (.cons (.var 0) (.cons (.var 1) .nil))) .done) .done (.ife (.cmp .Eq (.var 2) (.gl 10)) (.rse 71 ["at"] (.cons (.var 1) .nil) .done) .done (.ife (.cmp .Eq (.var 3) (.con (.str [110,111,116]))) (.asgT [4,5] (.call 15 (.cons (.var 0) (.cons (.bin .Add (.var 1) (.con (.int 1))) (.cons (.bin .Add (.var 2) (.con (.int 1))) .nil)))) (.ret (.tup (.cons (.tup (.cons (.con (.str [110,111,116])) (.cons (.var 4) .nil))) (.cons (.var 5) .nil))) .done)) .done (.asgT [4,5] (.call 16 (.cons (.var 0) (.cons (.bin .Add (.var 1) (.con (.int 1))) (.cons (.bin .Add (.var 2) (.con (.int 1))) (.cons (.gl 12) .nil))))) (.ife (.cmp .NotEq (.call 11 (.cons (.var 0) (.cons (.var 5) .nil))) (.con (.str [41]))) (.rse 71 ["at"] (.cons (.var 5) .nil) .done) .done (.ret (.tup (.cons (.var 4) (.cons (.bin .Add (.var 5) (.con (.int 1))) .nil))) .done)))))))
noncomputable def Zn:S:=(.asgT [4,5] (.call 16 (.cons (.var 0) (.cons (.bin .Add (.var 5) (.con (.int 1))) (.cons (.var 2) (.cons (.slc (.var 3) (.con (.int 1)) .hole) .nil))))) (.expr (.mth .append (.var 6) (.cons (.var 4) .nil)) .done))
noncomputable def ZW:S:=(.ife (.cmp .Eq (.blt .len (.cons (.var 3) .nil)) (.con (.int 0))) (.ret (.call 15 (.cons (.var 0) (.cons (.var 1) (.cons (.var 2) .nil)))) .done) .done (.asgT [4,5] (.call 16 (.cons (.var 0) (.cons (.var 1) (.cons (.var 2) (.cons (.slc (.var 3) (.con (.int 1)) .hole) .nil))))) (.asg 6 (.cel (.cons (.var 4) .nil)) (.whil (.cmp .Eq (.call 11 (.cons (.var 0) (.cons (.var 5) .nil))) (.ix (.var 3) (.con (.int 0)))) Zn (.ife (.cmp .Eq (.blt .len (.cons (.var 6) .nil)) (.con (.int 1))) (.ret (.tup (.cons (.var 4) (.cons (.var 5) .nil))) .done) .done (.ret (.tup (.cons (.tup (.cons (.ix (.var 3) (.con (.int 0))) (.cons (.blt .tuple (.cons (.var 6) .nil)) .nil))) (.cons (.var 5) .nil))) .done))))))
noncomputable def Qg:S:=(.ife (.not (.isi (.var 0) .str)) (.rse 71 ["at"] (.cons (.con (.int 0)) .nil) .done) .done (.asg 1 (.mth .split (.var 0) (.cons (.con (.str [32])) .nil)) (.asgT [2,3] (.call 16 (.cons (.var 1) (.cons (.con (.int 0)) (.cons (.con (.int 0)) (.cons (.gl 12) .nil))))) (.ife (.or (.cmp .Lt (.var 3) (.blt .len (.cons (.var 1) .nil))) (.not (.call 9 (.cons (.var 2) .nil)))) (.rse 71 ["at"] (.cons (.var 3) .nil) .done) .done (.ret (.var 2) .done)))))
noncomputable def ZaG:S:=(.ife (.cmp .Lt (.var 1) (.blt .len (.cons (.var 0) .nil))) (.ret (.ix (.var 0) (.var 1)) .done) .done (.ret (.con (.int 0)) .done))
noncomputable def Zai:S:=(.asg 1 (.bin .Pow (.con (.int 10)) (.con (.int 60))) (.asg 2 (.bin .Mod (.var 0) (.bin .Mult (.bin .Mult (.bin .Mult (.bin .Mult (.var 1) (.var 1)) (.var 1)) (.var 1)) (.var 1))) (.ret (.cel (.cons (.bin .Mult (.var 2) (.blt .int (.cons (.cmp .GtE (.var 0) (.bin .Pow (.con (.int 10)) (.con (.int 18)))) .nil))) (.cons (.bin .Mod (.var 0) (.con (.int 2147483647))) (.cons (.con (.int 0)) .nil)))) .done)))
noncomputable def ZaE:S:=(.ife (.cmp .Gt (.ix (.var 0) (.con (.int 0))) (.con (.int 0))) (.asg 2 (.bin .Mod (.ix (.var 0) (.con (.int 0))) (.var 1)) (.set (.var 0) (.con (.int 0)) (.bin .FloorDiv (.ix (.var 0) (.con (.int 0))) (.var 1)) (.ret (.var 2) .done))) .done (.set (.var 0) (.con (.int 2)) (.bin .Add (.ix (.var 0) (.con (.int 2))) (.con (.int 1))) (.asg 3 (.bin .Mod (.bin .Mult (.bin .Add (.bin .Add (.ix (.var 0) (.con (.int 1))) (.bin .Mult (.con (.int 6373)) (.ix (.var 0) (.con (.int 2))))) (.con (.int 5))) (.con (.int 48271))) (.con (.int 2147483647))) (.asg 3 (.bin .Mod (.bin .Mult (.var 3) (.bin .Add (.bin .FloorDiv (.var 3) (.con (.int 1013))) (.con (.int 65539)))) (.con (.int 2147483647))) (.asg 3 (.bin .Mod (.bin .Mult (.var 3) (.bin .Add (.bin .FloorDiv (.var 3) (.con (.int 3001))) (.con (.int 40699)))) (.con (.int 2147483629))) (.ret (.bin .Mod (.bin .FloorDiv (.var 3) (.con (.int 3))) (.var 1)) .done))))))
noncomputable def JR:S:=(.asg 3 (.xis (.var 2) [] [71]) (.ife (.and (.xis (.var 2) [71] []) (.and (.xis (.var 2) [71] []) (.and (.not (.var 3)) (.not (.xis (.var 2) [] [71]))))) (.asg 1 (.tup (.cons (.con (.str [114,101,102,117,115,101,100])) (.cons (.xat (.var 2) [71] "at") .nil))) .done) .done .done))
noncomputable def Ji:S:=(.asg 1 (.tup (.cons (.con (.str [116,111,108,100])) (.cons (.call 17 (.cons (.var 0) .nil)) .nil))) .done)
noncomputable def Q7:S:=(.asg 1 (.tup (.cons (.con (.str [111,116,104,101,114])) (.cons (.con .non) .nil))) (.tri Ji [71] (some 2) JR (.ret (.var 1) .done)))
noncomputable def Zby:E:=(.emit (.ix (.lst (.cons (.con (.str [110,111,116])) (.cons (.con (.str [40])) .nil))) (.call 20 (.cons (.var 1) (.cons (.con (.int 2)) .nil)))))
noncomputable def ZbI:E:=(.comp 1 [0] (.blt .range1 (.cons (.var 1) .nil)) (.nm 0) .nil Zby)
noncomputable def JP:S:=(.asg 2 ZbI (.ret (.tup (.cons (.var 2) (.cons (.bin .Mult (.lst (.cons (.con (.str [41])) .nil)) (.mth .count (.var 2) (.cons (.con (.str [40])) .nil))) (.cons (.mth .count (.var 2) (.cons (.con (.str [110,111,116])) .nil)) .nil)))) .done))
noncomputable def JG:S:=(.asg 1 (.tup (.cons (.con (.str [110,111,116])) (.cons (.var 1) .nil))) .done)
noncomputable def ZaF:S:=(.asg 1 (.tup (.cons (.con (.str [105,115])) (.cons (.con (.str [97])) .nil))) (.forr (.nm 2) (.blt .range1 (.cons (.var 0) .nil)) JG (.ret (.var 1) .done)))
noncomputable def Xj:S:=(.asg 1 (.ix (.lst (.cons (.bin .Add (.con (.int 1)) (.call 20 (.cons (.var 0) (.cons (.con (.int 16)) .nil)))) (.cons (.con (.int 12)) (.cons (.con (.int 13)) .nil)))) (.call 20 (.cons (.var 0) (.cons (.con (.int 3)) .nil)))) (.asgT [2,3,4] (.call 22 (.cons (.var 0) (.cons (.var 1) .nil))) (.asg 5 (.ix (.lst (.cons (.lst .nil) (.cons (.lst (.cons (.con (.str [40])) (.cons (.con (.str [40])) (.cons (.con (.str [110,111,116])) (.cons (.con (.str [97,110,121])) (.cons (.con (.str [41])) (.cons (.con (.str [41])) (.cons (.con (.str [97,110,100])) .nil)))))))) (.cons (.lst (.cons (.con (.str [110,111,116])) (.cons (.con (.str [110,111,116])) (.cons (.con (.str [97,110,121])) (.cons (.con (.str [111,114])) .nil))))) .nil)))) (.call 20 (.cons (.var 0) (.cons (.con (.int 3)) .nil)))) (.asg 6 (.bin .Add (.bin .Add (.bin .Add (.var 5) (.var 2)) (.lst (.cons (.con (.str [105,115])) (.cons (.con (.str [97])) .nil)))) (.var 3)) (.asg 7 (.call 21 (.cons (.mth .join (.con (.str [32])) (.cons (.var 6) .nil)) .nil)) (.ife (.cmp .Gt (.var 1) (.con (.int 12))) (.ret (.cmp .Eq (.var 7) (.tup (.cons (.con (.str [114,101,102,117,115,101,100])) (.cons (.bin .Add (.blt .len (.cons (.var 5) .nil)) (.con (.int 12))) .nil)))) .done) .done (.asg 8 (.bin .Add (.bin .Add (.var 4) (.con (.int 1))) (.blt .int (.cons (.cmp .NotEq (.var 5) (.lst .nil)) .nil))) (.ife (.cmp .Gt (.var 8) (.con (.int 6))) (.ret (.cmp .Eq (.var 7) (.tup (.cons (.con (.str [114,101,102,117,115,101,100])) (.cons (.blt .len (.cons (.var 6) .nil)) .nil)))) .done) .done (.asg 9 (.call 23 (.cons (.var 4) .nil)) (.ife (.cmp .Eq (.blt .len (.cons (.var 5) .nil)) (.con (.int 7))) (.asg 9 (.tup (.cons (.con (.str [97,110,100])) (.cons (.tup (.cons (.tup (.cons (.con (.str [110,111,116])) (.cons (.tup (.cons (.con (.str [97,110,121])) .nil)) .nil))) (.cons (.var 9) .nil))) .nil))) .done) .done (.ife (.cmp .Eq (.blt .len (.cons (.var 5) .nil)) (.con (.int 4))) (.asg 9 (.tup (.cons (.con (.str [111,114])) (.cons (.tup (.cons (.tup (.cons (.con (.str [110,111,116])) (.cons (.tup (.cons (.con (.str [110,111,116])) (.cons (.tup (.cons (.con (.str [97,110,121])) .nil)) .nil))) .nil))) (.cons (.var 9) .nil))) .nil))) .done) .done (.ife (.cmp .NotEq (.var 7) (.tup (.cons (.con (.str [116,111,108,100])) (.cons (.var 9) .nil)))) (.ret (.con (.bl false)) .done) .done (.ret (.or (.cmp .Eq (.var 3) (.lst .nil)) (.cmp .Eq (.call 21 (.cons (.mth .join (.con (.str [32])) (.cons (.slc (.var 6) .hole (.neg (.con (.int 1)))) .nil)) .nil)) (.tup (.cons (.con (.str [114,101,102,117,115,101,100])) (.cons (.bin .Sub (.blt .len (.cons (.var 6) .nil)) (.con (.int 1))) .nil))))) .done)))))))))))))
noncomputable def Zbs:S:=(.ife (.not (.call 24 (.cons (.call 19 (.cons (.var 1) .nil)) .nil))) (.ret (.con (.bl false)) .done) .done .done)
noncomputable def ZbV:S:=(.forr (.nm 1) (.bin .Add (.lst (.cons (.call 18 (.cons (.var 0) (.cons (.con (.int 0)) .nil))) .nil)) (.slc (.var 0) (.con (.int 1)) (.con (.int 20)))) Zbs (.asg 2 (.bin .Add (.bin .Add (.bin .Mult (.con (.str [40,32])) (.con (.int 12))) (.con (.str [97,110,121]))) (.bin .Mult (.con (.str [32,41])) (.con (.int 12)))) (.ife (.cmp .NotEq (.call 17 (.cons (.bin .Add (.bin .Add (.var 2) (.con (.str [32,97,110,100,32]))) (.var 2)) .nil)) (.tup (.cons (.con (.str [97,110,100])) (.cons (.tup (.cons (.tup (.cons (.con (.str [97,110,121])) .nil)) (.cons (.tup (.cons (.con (.str [97,110,121])) .nil)) .nil))) .nil)))) (.ret (.con (.bl false)) .done) .done (.asg 3 (.bin .Add (.bin .Add (.bin .Mult (.con (.str [40,32])) (.con (.int 13))) (.con (.str [97,110,121]))) (.bin .Mult (.con (.str [32,41])) (.con (.int 13)))) (.ret (.and (.cmp .Eq (.call 21 (.cons (.var 3) .nil)) (.tup (.cons (.con (.str [114,101,102,117,115,101,100])) (.cons (.con (.int 12)) .nil)))) (.cmp .Eq (.call 21 (.cons (.bin .Add (.var 2) (.con (.str [32,41]))) .nil)) (.tup (.cons (.con (.str [114,101,102,117,115,101,100])) (.cons (.con (.int 25)) .nil))))) .done)))))
noncomputable def fns:List Fn:=[⟨1,1,Qm,false⟩,⟨1,1,Q6,false⟩,⟨1,1,JM,false⟩,⟨1,1,QX,false⟩,⟨2,2,Jk,false⟩,⟨1,1,Z9,false⟩,⟨1,1,QG,false⟩,⟨1,1,QW,false⟩,⟨1,1,Jf,false⟩,⟨1,4,JL,false⟩,⟨1,1,ZS,false⟩,⟨2,2,JK,false⟩,⟨2,3,Q5,false⟩,⟨2,3,Qp,false⟩,⟨2,5,Qo,false⟩,⟨3,6,Je,false⟩,⟨4,7,ZW,false⟩,⟨1,4,Qg,false⟩,⟨2,2,ZaG,false⟩,⟨1,3,Zai,true⟩,⟨2,4,ZaE,false⟩,⟨1,4,Q7,false⟩,⟨2,3,JP,false⟩,⟨1,3,ZaF,false⟩,⟨1,10,Xj,false⟩,⟨1,4,ZbV,false⟩]
noncomputable def gv:List T:=[(.str [97,98,99,100,101,102,103,104,105,106,107,108,109,110,111,112,113,114,115,116,117,118,119,120,121,122]),(.int 8),(.tup [(.str [97,110,121]),(.str [105,115]),(.str [98,121]),(.str [110,111,116]),(.str [97,110,100]),(.str [111,114])]),(.int 1000000000),(.int 6),(.int 40),(.int 2),(.int 6),(.str [48,49,50,51,52,53,54,55,56,57]),(.int 10),(.int 12),(.dct (List.map (fun k=>.inr ⟨k.toArray⟩) [[62,61],[60,61]]) [(.str [108,101,97,115,116]),(.str [109,111,115,116])]),(.tup [(.str [111,114]),(.str [97,110,100])])]
noncomputable abbrev cf:=Z4 fns gv
noncomputable abbrev CF (k:Nat) (b:S) (p q:Nat) (c:Bool):Prop:=∀ (n:Nat) (ws:List W) (m:Mem),cf (n + 1) k ws m=if ws.length=p then (ex (cf n) gv b (ws.map some++List.replicate (q - p) none) m).bind fun fl m'=>fin m.length c fl m' else .stuck
theorem ZbE:CF 0 Qm 1 1 false:=fun _ _ _=>rfl
theorem Zcf:CF 1 Q6 1 1 false:=fun _ _ _=>rfl
theorem Zet:CF 2 JM 1 1 false:=fun _ _ _=>rfl
theorem ZdM:CF 3 QX 1 1 false:=fun _ _ _=>rfl
theorem ZdL:CF 4 Jk 2 2 false:=fun _ _ _=>rfl
theorem ZaY:CF 5 Z9 1 1 false:=fun _ _ _=>rfl
theorem ZcJ:CF 6 QG 1 1 false:=fun _ _ _=>rfl
theorem ZdK:CF 7 QW 1 1 false:=fun _ _ _=>rfl
theorem Zeu:CF 8 Jf 1 1 false:=fun _ _ _=>rfl
theorem Zf1:CF 9 JL 1 4 false:=fun _ _ _=>rfl
theorem ZaD:CF 10 ZS 1 1 false:=fun _ _ _=>rfl
theorem Zf0:CF 11 JK 2 2 false:=fun _ _ _=>rfl
theorem Zce:CF 12 Q5 2 3 false:=fun _ _ _=>rfl
theorem ZaR:CF 13 Qp 2 3 false:=fun _ _ _=>rfl
theorem Zaf:CF 14 Qo 2 5 false:=fun _ _ _=>rfl
theorem ZbD:CF 15 Je 3 6 false:=fun _ _ _=>rfl
theorem Jw:CF 16 ZW 4 7 false:=fun _ _ _=>rfl
theorem ZaQ:CF 17 Qg 1 4 false:=fun _ _ _=>rfl
theorem Zi7:CF 18 ZaG 2 2 false:=fun _ _ _=>rfl
theorem cf_Lstore:CF 19 Zai 1 3 true:=fun _ _ _=>rfl
theorem cf_Lpick:CF 20 ZaE 2 4 false:=fun _ _ _=>rfl
theorem Zcg:CF 21 Q7 1 4 false:=fun _ _ _=>rfl
theorem Zf2:CF 22 JP 2 3 false:=fun _ _ _=>rfl
theorem Zi6:CF 23 ZaF 1 3 false:=fun _ _ _=>rfl
theorem ZhH:CF 24 Xj 1 10 false:=fun _ _ _=>rfl
theorem cf_law:CF 25 ZbV 1 4 false:=fun _ _ _=>rfl
theorem ZfQ:gv[0]? = some (.str [97,98,99,100,101,102,103,104,105,106,107,108,109,110,111,112,113,114,115,116,117,118,119,120,121,122]):=rfl
theorem Xb:gv[1]? = some (.int 8):=rfl
theorem X5:gv[2]? = some (.tup [(.str [97,110,121]),(.str [105,115]),(.str [98,121]),(.str [110,111,116]),(.str [97,110,100]),(.str [111,114])]):=rfl
theorem X7:gv[3]? = some (.int 1000000000):=rfl
theorem ZfS:gv[4]? = some (.int 6):=rfl
theorem JS:gv[5]? = some (.int 40):=rfl
theorem JX:gv[6]? = some (.int 2):=rfl
theorem Xq:gv[7]? = some (.int 6):=rfl
theorem ZfR:gv[8]? = some (.str [48,49,50,51,52,53,54,55,56,57]):=rfl
theorem Zbz:gv[9]? = some (.int 10):=rfl
theorem Xp:gv[10]? = some (.int 12):=rfl
theorem X6:gv[11]? = some (.dct (List.map (fun k=>.inr ⟨k.toArray⟩) [[62,61],[60,61]]) [(.str [108,101,97,115,116]),(.str [109,111,115,116])]):=rfl
theorem Za2:gv[12]? = some (.tup [(.str [111,114]),(.str [97,110,100])]):=rfl
end My
end
section
set_option maxRecDepth 20000
namespace My
open Mi
noncomputable def IsSt (s:List T):Prop:=∃ a b c:Int,s=[.int a,.int b,.int c]
noncomputable def put (m:Mem) (i:Nat) (s:List T):Mem:=m.set i (some (false,s))
theorem Zjf {m:Mem} {i:Nat} {s:List T} (h:i < m.length):(put m i s)[i]? = some (some (false,s)):=List.getElem?_set_self h
theorem put_put {m:Mem} {i:Nat} {s s':List T}:put (put m i s) i s' = put m i s':=List.set_set _
theorem Xz {m:Mem} {i:Nat} {s:List T}:(put m i s).length=m.length:=List.length_set
theorem Zgr {m:Mem} {i:Nat} {s s':List T}:(put m i s).set i (some (false,s'))=put m i s':=List.set_set _
theorem ZeI {m:Mem} {i:Nat} {s:List T}:(put m i s).take m.length=put m i s:=by
  have h:=List.take_length (l:=put m i s)
  rw [Xz] at h
  exact h
theorem mulL {i j:Int} (h:0≤i) (h':i < 4294967296):Xk i j=true:=by
  have:i.natAbs < 2 ^ 64:=by omega
  simp [Xk,small,this]
theorem mulR {i j:Int} (h:0≤j) (h':j < 4294967296):Xk i j=true:=by
  have:j.natAbs < 2 ^ 64:=by omega
  simp [Xk,small,this]
section
variable {call:Nat→List W→Mem→Res W} {gv:List T} {env:Env} {m m1 m2 m3:Mem} {a b c e o v i:E} {x y z r:T} {w w1 w2:W} {f:Nat} {bb:B} {k:Bool}
theorem QL {op:PySem.Operator} (h1:ev call gv a env m = .ok (.t x) m1) (h2:ev call gv b env m1 = .ok (.t y) m2) (h3:binT op x y=some r):ev call gv (.bin op a b) env m = .ok (.t r) m2:=by
  rw [ev,h1,Zf,h2,Zf]
  show pur (binT op x y) m2=_
  rw [h3]; rfl
theorem Zz {op:PySem.CmpOp} (h1:ev call gv a env m = .ok (.t x) m1) (h2:ev call gv b env m1 = .ok (.t y) m2) (h3:cmpT op x y=some k):ev call gv (.cmp op a b) env m = .ok (.t (.bl k)) m2:=by
  rw [ev,h1,Zf,h2,Zf]
  show pur ((cmpT op x y).map .bl) m2=_
  rw [h3]; rfl
theorem Zc (t:T):ev call gv (.con t) env m = .ok (.t t) m:=by rw [ev]
theorem Zb {i:Nat} {w:W} (h:env[i]? = some (some w)):ev call gv (.var i) env m = .ok w m:=by rw [ev,h]
theorem ev_cix {c j:Nat} {k:Int} {xs:List T} (h:env[c]? = some (some (.c j))) (hm:m[j]? = some (some (false,xs))) (hx:atT xs k=some r):ev call gv (.ix (.var c) (.con (.int k))) env m = .ok (.t r) m:=by
  rw [ev,Zb h,Zf,Zc,Zf]
  simp only [view,hm,Option.bind_some,ixT,hx]
  rfl
theorem ZcF (h1:ev call gv a env m = .ok (.t x) m1) (h2:ev call gv b env m1 = .ok (.t y) m2) (h3:ixT x y=some r):ev call gv (.ix a b) env m = .ok (.t r) m2:=by
  rw [ev,h1,Zf,h2,Zf]
  show pur (ixT x y) m2=_
  rw [h3]; rfl
theorem QV (h:ev call gv e env m = .ok (.t x) m1) (hb:bltT bb [x]=some r):ev call gv (.blt bb (.cons e .nil)) env m = .ok (.t r) m1:=by
  rw [ev,evs,h]
  show pur (bltT bb [x]) m1=_
  rw [hb]; rfl
theorem Qf (h:ev call gv e env m = .ok w m1):ev call gv (.call f (.cons e .nil)) env m=call f [w] m1:=by
  rw [ev,evs,h]
  rfl
theorem Zk (h1:ev call gv a env m = .ok w m1) (h2:ev call gv b env m1 = .ok w1 m2):ev call gv (.call f (.cons a (.cons b .nil))) env m=call f [w,w1] m2:=by
  simp only [ev,evs,h1,h2,Zf]
theorem Za5 (h1:ev call gv a env m = .ok w m1) (h2:ev call gv b env m1 = .ok w1 m2) (h3:ev call gv c env m2 = .ok w2 m3):ev call gv (.call f (.cons a (.cons b (.cons c .nil)))) env m=call f [w,w1,w2] m3:=by
  simp only [ev,evs,h1,h2,h3,Zf]
theorem ZaB (h1:ev call gv a env m = .ok (.t x) m1):ev call gv (.tup (.cons a .nil)) env m = .ok (.t (.tup [x])) m1:=by
  simp only [ev,evs,h1,Zf,Xu,Xr]
  exact if_pos (by simp [lim])
theorem Zj (h1:ev call gv a env m = .ok (.t x) m1) (h2:ev call gv b env m1 = .ok (.t y) m2):ev call gv (.tup (.cons a (.cons b .nil))) env m = .ok (.t (.tup [x,y])) m2:=by
  simp only [ev,evs,h1,h2,Zf,Xu,Xr]
  exact if_pos (by simp [lim])
theorem Zep (h1:ev call gv a env m = .ok (.t x) m1) (h2:ev call gv b env m1 = .ok (.t y) m2) (h3:ev call gv c env m2 = .ok (.t z) m3):ev call gv (.tup (.cons a (.cons b (.cons c .nil)))) env m = .ok (.t (.tup [x,y,z])) m3:=by
  simp only [ev,evs,h1,h2,h3,Zf,Xu,Xr]
  exact if_pos (by simp [lim])
theorem Zhv (h1:ev call gv a env m = .ok (.t x) m1) (h2:ev call gv b env m1 = .ok (.t y) m2):ev call gv (.lst (.cons a (.cons b .nil))) env m = .ok (.t (.lst [x,y])) m2:=by
  simp only [ev,evs,h1,h2,Zf,Xu,Xr]
  exact if_pos (by simp [lim])
theorem ZkR (h:ev call gv a env m = .ok (.t (.bl true)) m1):ev call gv (.and a b) env m=ev call gv b env m1:=by rw [ev,h]; rfl
theorem ev_andF (h:ev call gv a env m = .ok (.t (.bl false)) m1):ev call gv (.and a b) env m = .ok (.t (.bl false)) m1:=by rw [ev,h]; rfl
theorem Xd (h:ev call gv a env m = .ok (.t (.bl k)) m1):ev call gv (.not a) env m = .ok (.t (.bl (!k))) m1:=by rw [ev,h]; rfl
theorem Ze2 (h:ev call gv a env m = .ok (.t (.bl true)) m1):ev call gv (.or a b) env m = .ok (.t (.bl true)) m1:=by rw [ev,h]; rfl
theorem ZdF (h:ev call gv a env m = .ok (.t (.bl false)) m1):ev call gv (.or a b) env m=ev call gv b env m1:=by rw [ev,h]; rfl
theorem ev_isi {ty:Ty} (h:ev call gv a env m = .ok (.t x) m1) (hk:isT x ty=k):ev call gv (.isi a ty) env m = .ok (.t (.bl k)) m1:=by rw [ev,h,← hk]; rfl
end
section
variable {call:Nat→List W→Mem→Res W} {gv:List T} {env:Env} {m m1 m2 m3:Mem} {a lo hi:E} {es:Es} {x y z r:T} {w:W} {ws:List W} {ts:List T} {f:Nat} {bb:B}
theorem le_lim {ts:List T} (h:ts.length≤1000:=by exact Nat.le_of_ble_eq_true rfl):ts.length≤lim:=Nat.le_trans h (by decide)
theorem ZdE:evs call gv .nil env m = .ok [] m:=by rw [evs]
theorem ZbT (h1:ev call gv a env m = .ok w m1) (h2:evs call gv es env m1 = .ok ws m2):evs call gv (.cons a es) env m = .ok (w :: ws) m2:=by rw [evs,h1,Zf,h2]; rfl
theorem ev_lst (h:evs call gv es env m = .ok ws m1) (h2:frzs ws m1 = .ok ts m1) (hl:ts.length≤lim):ev call gv (.lst es) env m = .ok (.t (.lst ts)) m1:=by rw [ev,h,Zf,h2,Zf,if_pos hl]
theorem ev_tup (h:evs call gv es env m = .ok ws m1) (h2:frzs ws m1 = .ok ts m1) (hl:ts.length≤lim):ev call gv (.tup es) env m = .ok (.t (.tup ts)) m1:=by rw [ev,h,Zf,h2,Zf,if_pos hl]
theorem ev_call (h:evs call gv es env m = .ok ws m1):ev call gv (.call f es) env m=call f ws m1:=by rw [ev,h]; rfl
theorem ev_blt (h:evs call gv es env m = .ok ws m1) (h2:views ws m1=some ts) (h3:bltT bb ts=some r):ev call gv (.blt bb es) env m = .ok (.t r) m1:=by
  rw [ev,h,Zf,h2]
  show pur (bltT bb ts) m1=_
  rw [h3]; rfl
theorem ev_one (h:ev call gv a env m = .ok w m1):ev call gv (.one a) env m = .ok w m1:=by rw [ev,h]
theorem ZdG {k:Nat} (h:gv[k]? = some x):ev call gv (.gl k) env m = .ok (.t x) m:=by rw [ev,h]; rfl
theorem ZkQ {k:Int} (h1:ev call gv a env m = .ok (.t x) m1) (h2:ev call gv hi env m1 = .ok (.t (.int k)) m2) (h3:slT x none (some k)=some r) (hh:Zr hi=false:=by rfl):ev call gv (.slc a .hole hi) env m = .ok (.t r) m2:=by
  rw [ev,h1,Zf,show Zr .hole=true from rfl,if_pos rfl,Zf,hh,if_neg Bool.false_ne_true,h2]
  show pur (slT x none (some k)) m2=_
  rw [h3]; rfl
theorem ZaC {k:Int} (h1:ev call gv a env m = .ok (.t x) m1) (h2:ev call gv lo env m1 = .ok (.t (.int k)) m2) (h3:slT x (some k) none=some r) (hh:Zr lo=false:=by rfl):ev call gv (.slc a lo .hole) env m = .ok (.t r) m2:=by
  rw [ev,h1,Zf,hh,if_neg Bool.false_ne_true,h2]
  show pur (slT x (some k) none) m2=_
  rw [h3]; rfl
end
section
variable {call:Nat→List W→Mem→Res W} {gv:List T} {env env':Env} {m m1 m2:Mem} {k a b:S} {e:E} {w:W}
theorem ex_ifB (h:ev call gv e env m = .ok (.t (.bl false)) m1) (h2:ex call gv b env m1 = .ok (.next env') m2):ex call gv (.ife e a b k) env m=ex call gv k env' m2:=by
  rw [ex,h]
  show (ex call gv b env m1).bind _=_
  rw [h2]; rfl
theorem Zjq (h:ev call gv e env m = .ok (.t (.bl true)) m1) (h2:ex call gv a env m1 = .ok (.next env') m2):ex call gv (.ife e a b k) env m=ex call gv k env' m2:=by
  rw [ex,h]
  show (ex call gv a env m1).bind _=_
  rw [h2]; rfl
theorem Zht (h:ev call gv e env m = .ok w m1):ex call gv (.expr e k) env m=ex call gv k env m1:=by rw [ex,h]; rfl
end
section
variable {call:Nat→List W→Mem→Res W} {gv:List T} {env:Env} {m m1 m2:Mem} {a c inner:E} {x:T} {xs:List T}
theorem Zhx (h:ev call gv a env m = .ok (.t x) m1):ev call gv (.emit a) env m = .ok (.t (.lst [x])) m1:=by rw [ev,h]; rfl
theorem turn1T (h:ev call gv c env m = .ok (.t (.bl true)) m1) (h2:ev call gv inner env m1 = .ok (.t (.lst xs)) m2):Jl call gv (.cons c .nil) inner env m = .ok xs m2:=by
  unfold Jl
  rw [tests,h,Zf,Zcp,Zf,if_pos rfl,tests,Zf,if_pos rfl,h2]
  rfl
theorem turn1F (h:ev call gv c env m = .ok (.t (.bl false)) m1):Jl call gv (.cons c .nil) inner env m = .ok [] m1:=by
  unfold Jl
  rw [tests,h,Zf,Zcp,Zf,if_neg (by decide),Zf,if_neg (by decide)]
theorem turn0 (h2:ev call gv inner env m = .ok (.t (.lst xs)) m2):Jl call gv .nil inner env m = .ok xs m2:=by
  unfold Jl
  rw [tests,Zf,if_pos rfl,h2]
  rfl
end
theorem at0 {α:Type} (a:α) (r:List α):atT (a :: r) 0=some a:=by simp [atT,ixOf]
theorem at1 {α:Type} (a b:α) (r:List α):atT (a :: b :: r) 1=some b:=by
  have:(1:Int) < (r.length:Int) + 1 + 1:=by omega
  simp [atT,ixOf,this]
theorem at_get {α:Type} {xs:List α} {i:Int} (h0:0≤i) (h1:i < xs.length):atT xs i=xs[i.toNat]?:=by
  unfold atT ixOf
  rw [if_pos h0,if_pos h1]
  rfl
theorem JT {α β:Type} (f:α→β) (xs:List α):xs.flatMap (fun x=>[f x])=xs.map f:=by
  induction xs with
  | nil=>rfl
  | cons x xs ih=>simp [ih]
theorem fin_t {n:Nat} {c:Bool} {t:T} {m:Mem} {k:Nat} (h:m.length=k):fin k c (.ret (.t t)) m = .ok (.t t) m:=Z3 h
theorem Zcv {n:Nat} {m:Mem} {i:Nat} {s:List T} {many:Int} (hi:i < m.length) (hs:IsSt s) (h1:0 < many) (h2:many < 1073741824) :
    ∃ r s',cf (n + 1) 20 [.c i,.t (.int many)] (put m i s) = .ok (.t (.int r)) (put m i s')∧IsSt s'∧0≤r∧r < many:=by
  obtain ⟨a,b,c,rfl⟩:=hs
  have h:=Zjf (s:=[.int a,.int b,.int c]) hi
  by_cases ha:0 < a
  · refine ⟨a % many,[.int (a / many),.int b,.int c],?_,⟨_,_,_,rfl⟩,Int.emod_nonneg _ (by omega),Int.emod_lt_of_pos _ h1⟩
    simp [cf,Z4,fns,ZaE,ex,ev,Res.bind,view,h,pur,cmpT,ZbS,ltT,inT,ixT,atT,ixOf,Qa,fitT,ZbW,binT,addT,mulT,intT,ha,h1,h2,setM,frz,fin,Zgr,Xz,ZeI]
  · have h4:Xk 6373 (c + 1)=true:=mulL (by decide) (by decide)
    have h5:∀ x,Xk x 48271=true:=fun x=>mulR (by decide) (by decide)
    have h6:∀ x y,Xk (x % 2147483647) y=true:=fun x y=>mulL (Int.emod_nonneg _ (by decide)) (by have:=Int.emod_lt_of_pos x (b:=2147483647) (by decide); omega)
    have hp:=Zjf (s:=[.int a,.int b,.int (c + 1)]) hi
    refine ⟨(((((b + 6373 * (c + 1) + 5) * 48271 % 2147483647) * ((b + 6373 * (c + 1) + 5) * 48271 % 2147483647 / 1013 + 65539) % 2147483647) * (((b + 6373 * (c + 1) + 5) * 48271 % 2147483647) * ((b + 6373 * (c + 1) + 5) * 48271 % 2147483647 / 1013 + 65539) % 2147483647 / 3001 + 40699) % 2147483629) / 3) % many,[.int a,.int b,.int (c + 1)],?_,⟨_,_,_,rfl⟩,Int.emod_nonneg _ (by omega),Int.emod_lt_of_pos _ h1⟩
    simp [cf,Z4,fns,ZaE,ex,ev,Res.bind,view,h,pur,cmpT,ZbS,ltT,inT,ixT,atT,ixOf,Qa,fitT,ZbW,binT,addT,mulT,intT,ha,h1,h2,setM,frz,fin,h4,h5,h6,hp,Zgr,Xz,ZeI]
theorem mw1:Xk 1000000000000000000000000000000000000000000000000000000000000 1000000000000000000000000000000000000000000000000000000000000=true:=by decide +kernel
theorem mw2:Xk 1000000000000000000000000000000000000000000000000000000000000000000000000000000000000000000000000000000000000000000000000 1000000000000000000000000000000000000000000000000000000000000=true:=by decide +kernel
theorem mw3:Xk 1000000000000000000000000000000000000000000000000000000000000000000000000000000000000000000000000000000000000000000000000000000000000000000000000000000000000000000000000000000000000 1000000000000000000000000000000000000000000000000000000000000=true:=by decide +kernel
theorem mw4:Xk 1000000000000000000000000000000000000000000000000000000000000000000000000000000000000000000000000000000000000000000000000000000000000000000000000000000000000000000000000000000000000000000000000000000000000000000000000000000000000000000000000 1000000000000000000000000000000000000000000000000000000000000=true:=by decide +kernel
theorem Xf {n:Nat} {m:Mem} {x:Int}:∃ s,cf (n + 1) 19 [.t (.int x)] m = .ok (.c m.length) (put (m++[none]) m.length s)∧IsSt s:=by
  have hb:∀ y:Int,∀ k:Bool,Xk y (b2i k)=true:=fun y k=>mulR (by cases k <;> decide) (by cases k <;> decide)
  refine ⟨[.int ((x % 1000000000000000000000000000000000000000000000000000000000000000000000000000000000000000000000000000000000000000000000000000000000000000000000000000000000000000000000000000000000000000000000000000000000000000000000000000000000000000000000000000000000000000000000000000000000000000000000000000000000000) * b2i (decide (1000000000000000000≤x))),.int (x % 2147483647),.int 0],?_,⟨_,_,_,rfl⟩⟩
  simp [cf,Z4,fns,Zai,ex,ev,evs,Res.bind,view,views,pur,cmpT,ZbS,ltT,inT,binT,addT,mulT,intT,bltT,one1,two2,bLen,bInt,bTup,bLst,bRng,frz,frzs,fin,put,mw1,mw2,mw3,mw4,hb,lim]
theorem Zbu {n:Nat} {m:Mem} {x:T}:cf (n + 1) 2 [.t x] m = .ok (.t (.bl (isT x .int && !isT x .bool))) m:=by
  rw [Zet]
  cases x <;> simp [JM,ex,ev,Res.bind,view,pur,isT,ZbK,fin]
noncomputable def numB:T→Bool
  | .int i=>decide (0≤i) && decide (i≤1000000000)
  | _=>false
theorem Zdy {n:Nat} {m:Mem} {x:T}:cf (n + 2) 3 [.t x] m = .ok (.t (.bl (numB x))) m:=by
  rw [ZdM]
  cases x with
  | int i =>
    by_cases h:0≤i <;> simp [QX,ex,ev,evs,Res.bind,view,pur,isT,ZbK,fin,Zbu,cmpT,ZbS,ltT,inT,numB,h,X7]
  | _=>simp [QX,ex,ev,evs,Res.bind,view,pur,isT,ZbK,fin,Zbu,numB]
noncomputable def lett:List Nat:=[97,98,99,100,101,102,103,104,105,106,107,108,109,110,111,112,113,114,115,116,117,118,119,120,121,122]
noncomputable def six:List (List Nat):=[[97,110,121],[105,115],[98,121],[110,111,116],[97,110,100],[111,114]]
noncomputable def Zeo (cs:List Nat):Bool:=six.any fun a=>a == cs
noncomputable def ZcP (cs:List Nat):Bool:=decide (1≤cs.length) && decide (cs.length≤8) && !Zeo cs && cs.all fun c=>decide (c∈lett)
theorem Zf9 {n:Nat} {cs:List Nat} {m:Mem} (hl:cs.length≤lim):ev (cf n) gv JZ [some (.t (.str cs))] m = .ok (.t (.lst (cs.map fun c=>.bl (decide (c∈lett))))) m:=by
  have h:=Jc (f:=Jl (cf n) gv .nil Q8) (tg:=.nm 0) (env:=[none]) (m:=m)
    (g:=fun t=>match t with | .str [c]=>[.bl (decide (c∈lett))] | _=>[]) (cs.map fun c=>.str [c]) (fun t ht=>by
      obtain ⟨c,_,rfl⟩:=List.mem_map.mp ht
      exact ⟨[some (.t (.str [c]))],rfl,by simp [Jl,tests,Q8,ev,Res.bind,view,pur,ZfQ,cmpT,ZbS,ltT,inT,ZcM,frz,lett]⟩)
  have e:(cs.map fun c=>T.str [c]).flatMap (fun t=>match t with | .str [c]=>[T.bl (decide (c∈lett))] | _=>[])=cs.map fun c=>.bl (decide (c∈lett)):=by
    rw [List.flatMap_map]
    exact JT _ _
  rw [e] at h
  exact Xe (x:=.t (.str cs)) (m0:=m) (by simp [ev]) (by simp [Qd,ZeU,hl]) h (by simpa using hl)
theorem ZkK (cs:List Nat):hasT (.str cs) (.tup [.str [97,110,121],.str [105,115],.str [98,121],.str [110,111,116],.str [97,110,100],.str [111,114]])=some (Zeo cs):=by
  simp [hasT,flat,eqT,six,Zeo]
noncomputable def JQ (cs:List Nat):Bool:=decide (1≤cs.length) && !Zeo cs && cs.all fun c=>decide (c∈lett)
theorem Zav {n:Nat} {m:Mem} {cs:List Nat} (hl:cs.length≤lim):cf (n + 1) 0 [.t (.str cs)] m = .ok (.t (.bl (JQ cs))) m:=by
  have e:ex (cf n) gv Qm [some (.t (.str cs))] m = .ok (.ret (.t (.bl (JQ cs)))) m:=by
    unfold Qm
    refine Zi ?_
    by_cases h1:0 < cs.length
    · have h1':(0:Int) < cs.length:=by omega
      have h1'':(decide (1≤cs.length))=true:=decide_eq_true h1
      have hin:cmpT .NotIn (.str cs) (.tup [.str [97,110,121],.str [105,115],.str [98,121],.str [110,111,116],.str [97,110,100],.str [111,114]])=some (!Zeo cs):=by
        rcases cs with _ | ⟨c,_ | ⟨d,r⟩⟩ <;> simp [cmpT,ZbS,ltT,inT,ZkK]
      cases h6:Zeo cs
      · simp only [JQ,h1'',h6]
        simp [ev,evs,isT,Zr,EVs,ZfK hl,h1,h1',hin,h6,X5,Zf9 hl,ZkA (Zah _ cs)]
      · simp [ev,evs,isT,Zr,EVs,ZfK hl,h1,h1',hin,h6,X5,JQ]
    · have h1':¬ (0:Int) < cs.length:=by omega
      have h1'':(decide (1≤cs.length))=false:=decide_eq_false h1
      simp only [JQ,h1'']
      simp [ev,evs,isT,Zr,EVs,ZfK hl,h1,h1']
  exact Qu (ZbE _ _ _) rfl e (Z3 (cell:=false) rfl)
theorem Zen {n:Nat} {m:Mem} {cs:List Nat} (hl:cs.length≤lim):cf (n + 2) 1 [.t (.str cs)] m = .ok (.t (.bl (ZcP cs))) m:=by
  have e:ex (cf (n + 1)) gv Q6 [some (.t (.str cs))] m = .ok (.ret (.t (.bl (ZcP cs)))) m:=by
    unfold Q6
    refine Zi ?_
    by_cases h8:cs.length≤8
    · have h8':(cs.length:Int)≤8:=by omega
      have hw:ZcP cs=JQ cs:=by simp [ZcP,JQ,h8]
      simp [ev,evs,isT,Zr,EVs,ZfK hl,h8',Xb,Zav (n:=n) hl,hw]
    · have h8':¬ (cs.length:Int)≤8:=by omega
      simp [ev,evs,isT,Zr,EVs,ZfK hl,h8',Xb,ZcP,h8]
  exact Qu (Zcf _ _ _) rfl e (Z3 (cell:=false) rfl)
theorem ZfM {n:Nat} {m:Mem} {x:T} (h:isT x .str=false):cf (n + 2) 1 [.t x] m = .ok (.t (.bl false)) m:=by
  have e:ex (cf (n + 1)) gv Q6 [some (.t x)] m = .ok (.ret (.t (.bl false))) m:=by
    unfold Q6
    refine Zi ?_
    cases x with
    | str cs=>cases h
    | _=>simp [ev,evs,isT,Zr,EVs]
  exact Qu (Zcf _ _ _) rfl e (Z3 (cell:=false) rfl)
theorem join_len (cs:List Nat):(QS [] (cs.map fun c=>[c])).length=cs.length:=by
  rw [Zdx,← List.flatMap_def,JT]
  simp
theorem sum_one (cs:List Nat):((cs.map fun c=>[c]).map List.length).sum=cs.length:=by
  induction cs with
  | nil=>rfl
  | cons c cs ih=>rw [List.map_cons,List.map_cons,List.sum_cons,ih]; simp; omega
theorem ZkU {α:Type} (xs:List α) (lo hi:Option Int):(cut xs lo hi).length≤xs.length:=by
  unfold cut
  rw [List.length_take,List.length_drop]
  omega
theorem ZkX {n:Nat} {m:Mem} {ns:List Int}:∃ v:Int,cf (n + 1) 18 [.t (.scr ns),.t (.int 0)] m = .ok (.t (.int v)) m:=by
  have key:∃ v:Int,ex (cf n) gv ZaG [some (.t (.scr ns)),some (.t (.int 0))] m = .ok (.ret (.t (.int v))) m:=by
    unfold ZaG
    by_cases h:(0:Int) < ns.length
    · obtain ⟨v,hv,_⟩:=Zk3 (xs:=ns) (i:=0) (by decide) h
      exact ⟨v,Z8 (m1:=m) (by simp [ev,evs,isT,Zr,EVs]; omega) (Zi (by simp [ev,evs,isT,Zr,EVs,hv]))⟩
    · have h':ns=[]:=List.length_eq_zero_iff.mp (by omega)
      subst h'
      refine ⟨0,?_⟩
      rw [Zo (m1:=m) (by simp [ev,evs,isT,Zr,EVs])]
      exact Zi (by simp [ev,evs,isT,Zr,EVs])
  obtain ⟨v,e⟩:=key
  refine ⟨v,?_⟩
  rw [Zi7]
  simp [e,Zf,Z3]
noncomputable def fitL:T→Prop:=fun t=>∀ cs,t = .str cs→cs.length≤lim
noncomputable def oneOf (x:T) (ws:List (List Nat)):Bool:=match x with
  | .str cs=>ws.any fun a=>a == cs
  | _=>false
theorem Zdh {n:Nat} {m:Mem} {x:T} {ws:List (List Nat)}:cf (n + 1) 4 [.t x,.t (.tup (ws.map .str))] m = .ok (.t (.bl (oneOf x ws))) m:=by
  have hh:∀ cs,cmpT .In (.str cs) (.tup (ws.map .str))=some (ws.any fun a=>a == cs):=fun cs=>by
    have h1:hasT (.str cs) (.tup (ws.map .str))=some (ws.any fun a=>a == cs):=by
      have ha:∀ ws:List (List Nat),(ws.map T.str).all flat=true:=fun ws=>by simp [flat]
      have hb:∀ ws:List (List Nat),((ws.map T.str).any fun t=>eqT t (.str cs))=ws.any fun a=>a == cs:=fun ws=>by
        induction ws with
        | nil=>rfl
        | cons w ws ih=>simp [eqT] at ih ⊢; rw [ih]
      unfold hasT
      dsimp only
      rw [ha,hb]
      rfl
    rw [← h1]
    cases cs with
    | nil=>rfl
    | cons c r=>cases r <;> rfl
  rw [ZdL]
  cases x with
  | str cs=>simp [Jk,ex,ev,evs,isT,Zr,EVs,hh,oneOf,fin]
  | _=>exact Qu rfl rfl rfl (Z3 (cell:=false) rfl)
noncomputable def Zh1:T→Bool
  | .str cs=>ZcP cs
  | _=>false
theorem Zb9 {n:Nat} {m:Mem} {x:T} (h:fitL x):cf (n + 2) 1 [.t x] m = .ok (.t (.bl (Zh1 x))) m:=by
  cases x with
  | str cs=>exact Zen (h cs rfl)
  | _=>exact ZfM rfl
noncomputable def Zbk:T→Bool
  | .tup [a]=>oneOf a [[97,110,121]]
  | .tup [a,b]=>oneOf a [[105,115],[98,121]] && Zh1 b
  | .tup [a,b,c]=>oneOf a [[108,101,97,115,116],[109,111,115,116]] && Zh1 b && numB c
  | _=>false
noncomputable def fit1:T→Prop
  | .tup ts=>∀ t∈ts,fitL t
  | _=>True
theorem one1 {n:Nat} {m:Mem} {x:T} {w:List Nat}:cf (n + 1) 4 [.t x,.t (.tup [.str w])] m = .ok (.t (.bl (oneOf x [w]))) m:=Zdh (ws:=[w])
theorem one2 {n:Nat} {m:Mem} {x:T} {w v:List Nat}:cf (n + 1) 4 [.t x,.t (.tup [.str w,.str v])] m = .ok (.t (.bl (oneOf x [w,v]))) m:=Zdh (ws:=[w,v])
theorem at2 {α:Type} (a b c:α) (r:List α):atT (a :: b :: c :: r) 2=some c:=by
  have:(2:Int) < (r.length:Int) + 1 + 1 + 1:=by omega
  simp [atT,ixOf,this]
theorem Zix {n:Nat} {m:Mem} {x:T} (h:fit1 x):cf (n + 3) 5 [.t x] m = .ok (.t (.bl (Zbk x))) m:=by
  have key:ex (cf (n + 2)) gv Z9 [some (.t x)] m = .ok (.ret (.t (.bl (Zbk x)))) m:=by
    unfold Z9
    cases x with
    | tup ts =>
      rw [Zo (m1:=m) rfl]
      match ts,h with
      | [],_ =>
        rw [Zo (m1:=m) rfl,Zo (m1:=m) rfl,Zo (m1:=m) rfl]
        exact Zi rfl
      | [a],_ =>
        exact Z8 (m1:=m) rfl (Zi (by simp [ev,evs,isT,Zr,EVs,at0,one1 (n:=n + 1),lim,Zbk]))
      | [a,b],h =>
        rw [Zo (m1:=m) rfl]
        have hb:=Zb9 (n:=n) (m:=m) (x:=b) (h b (by simp))
        refine Z8 (m1:=m) rfl (Zi ?_)
        cases ho:oneOf a [[105,115],[98,121]] <;> simp [ev,evs,isT,Zr,EVs,at0,at1,one2 (n:=n + 1),lim,Zbk,ho,hb]
      | [a,b,c],h =>
        rw [Zo (m1:=m) rfl,Zo (m1:=m) rfl]
        have hb:=Zb9 (n:=n) (m:=m) (x:=b) (h b (by simp))
        have hc:=Zdy (n:=n) (m:=m) (x:=c)
        refine Z8 (m1:=m) rfl (Zi ?_)
        cases ho:oneOf a [[108,101,97,115,116],[109,111,115,116]] <;> cases hw:Zh1 b <;> simp [ev,evs,isT,Zr,EVs,at0,at1,at2,one2 (n:=n + 1),lim,Zbk,ho,hb,hw,hc]
      | a :: b :: c :: d :: r,_ =>
        have h1:¬ (r.length:Int) + 1 + 1 + 1 + 1=1:=by omega
        have h2:¬ (r.length:Int) + 1 + 1 + 1 + 1=2:=by omega
        have h3:¬ (r.length:Int) + 1 + 1 + 1 + 1=3:=by omega
        rw [Zo (m1:=m) (by simp [ev,evs,isT,Zr,EVs,h1]),Zo (m1:=m) (by simp [ev,evs,isT,Zr,EVs,h2]),Zo (m1:=m) (by simp [ev,evs,isT,Zr,EVs,h3])]
        exact Zi rfl
    | _=>exact Z8 (m1:=m) rfl (Zi rfl)
  exact Qu (ZaY _ _ _) rfl key (Z3 (cell:=false) rfl)
noncomputable def Zau:T→Bool
  | .tup ts=>decide (2≤ts.length) && decide (ts.length≤6)
  | _=>false
theorem Zdw {n:Nat} {m:Mem} {x:T}:cf (n + 1) 6 [.t x] m = .ok (.t (.bl (Zau x))) m:=by
  rw [ZcJ]
  cases x with
  | tup ts =>
    by_cases h:2≤ts.length
    · have h':(2:Int)≤ts.length:=by omega
      simp [QG,ex,ev,evs,isT,Zr,EVs,JX,Xq,h',Zau,h,fin]
      omega
    · have h':¬ (2:Int)≤ts.length:=by omega
      simp [QG,ex,ev,evs,isT,Zr,EVs,JX,Xq,h',Zau,h,fin]
  | _=>exact Qu rfl rfl rfl (Z3 (cell:=false) rfl)
noncomputable def kids:T→List T
  | .tup [a,b]=>if oneOf a [[110,111,116]] then [b] else if oneOf a [[97,110,100],[111,114]] && Zau b then (match b with
    | .tup ts=>ts
    | _=>[]) else []
  | _=>[]
theorem ZcU {n:Nat} {m:Mem} {x:T}:cf (n + 2) 7 [.t x] m = .ok (.t (.tup (kids x))) m:=by
  have key:ex (cf (n + 1)) gv QW [some (.t x)] m = .ok (.ret (.t (.tup (kids x)))) m:=by
    unfold QW
    cases x with
    | tup ts =>
      match ts with
      | []=>exact Z8 (m1:=m) rfl (Zi rfl)
      | [a]=>exact Z8 (m1:=m) rfl (Zi rfl)
      | [a,b] =>
        rw [Zo (m1:=m) rfl]
        cases hn:oneOf a [[110,111,116]] with
        | true=>exact Z8 (m1:=m) (by simp [ev,evs,isT,Zr,EVs,at0,one1 (n:=n),lim,hn]) (Zi (by simp [ev,evs,isT,Zr,EVs,at1,lim,kids,hn]))
        | false =>
          rw [Zo (m1:=m) (by simp [ev,evs,isT,Zr,EVs,at0,one1 (n:=n),lim,hn])]
          cases ho:oneOf a [[97,110,100],[111,114]] with
          | false =>
            rw [Zo (m1:=m) (by simp [ev,evs,isT,Zr,EVs,at0,one2 (n:=n),lim,ho])]
            exact Zi (by simp [ev,evs,isT,Zr,EVs,lim,kids,hn,ho])
          | true =>
            cases hj:Zau b with
            | false =>
              rw [Zo (m1:=m) (by simp [ev,evs,isT,Zr,EVs,at0,at1,one2 (n:=n),lim,ho,Zdw (n:=n),hj])]
              exact Zi (by simp [ev,evs,isT,Zr,EVs,lim,kids,hn,ho,hj])
            | true =>
              refine Z8 (m1:=m) (by simp [ev,evs,isT,Zr,EVs,at0,at1,one2 (n:=n),lim,ho,Zdw (n:=n),hj]) (Zi ?_)
              cases b with
              | tup ts=>simp [ev,evs,isT,Zr,EVs,at1,kids,hn,ho,hj]
              | _=>cases hj
      | a :: b :: c :: r =>
        have h1:¬ (r.length:Int) + 1 + 1 + 1=2:=by omega
        exact Z8 (m1:=m) (by simp [ev,evs,isT,Zr,EVs,h1]) (Zi rfl)
    | _=>exact Z8 (m1:=m) rfl (Zi rfl)
  exact Qu (ZdK _ _ _) rfl key (Z3 (cell:=false) rfl)
noncomputable def Zaz (x:T):Bool:=Zbk x || decide (0 < (kids x).length)
theorem ZkP {n:Nat} {m:Mem} {x:T} (h:fit1 x):cf (n + 4) 8 [.t x] m = .ok (.t (.bl (Zaz x))) m:=by
  have key:ex (cf (n + 3)) gv Jf [some (.t x)] m = .ok (.ret (.t (.bl (Zaz x)))) m:=by
    unfold Jf
    refine Zi ?_
    cases hp:Zbk x <;> simp [ev,evs,isT,Zr,EVs,Zix (n:=n) h,hp,ZcU (n:=n + 1),Zaz]
  exact Qu (Zeu _ _ _) rfl key (Z3 (cell:=false) rfl)
theorem ZkC (x:T):(kids x).length≤6:=by
  unfold kids
  split
  · rename_i a b
    split
    · simp
    · split
      · rename_i h
        rw [Bool.and_eq_true] at h
        cases b with
        | tup ts =>
          have:=h.2
          unfold Zau at this
          simp at this
          exact this.2
        | _=>simp
      · simp
  · simp
theorem ZfT {n:Nat} {m:Mem} {l:List T} {e0 e2 e3:Option W} (hf:∀ x∈l,fit1 x) (hl:l.length≤lim):ev (cf (n + 4)) gv ZbG [e0,some (.t (.lst l)),e2,e3] m = .ok (.t (.lst (l.map fun x=>.bl (Zaz x)))) m:=by
  have h:=Jc (f:=Jl (cf (n + 4)) gv .nil XD) (tg:=.nm 0) (env:=[none]) (m:=m) (g:=fun x=>[.bl (Zaz x)]) l (fun t ht=>⟨[some (.t t)],rfl,by simp [Jl,tests,XD,ev,evs,isT,Zr,EVs,ZkP (n:=n) (hf t ht)]⟩)
  rw [JT] at h
  exact Xe (x:=.t (.lst l)) (m0:=m) rfl rfl h (by simpa using hl)
theorem Zhb {n:Nat} {m:Mem} {x:T}:Jl (cf (n + 4)) gv .nil QT [some (.t x),none] m = .ok (kids x) m:=by
  have h:=Jc (f:=Jl (cf (n + 4)) gv .nil (.emit (.var 1))) (tg:=.nm 1) (env:=[some (.t x),none]) (m:=m) (g:=fun y=>[y]) (kids x) (fun t ht=>⟨[some (.t x),some (.t t)],rfl,by simp [Jl,tests,ev,evs,isT,Zr,EVs]⟩)
  rw [JT,List.map_id'] at h
  have e:ev (cf (n + 4)) gv QT [some (.t x),none] m = .ok (.t (.lst (kids x))) m:=by
    have e1:ev (cf (n + 4)) gv QT [some (.t x),none] m=(ev (cf (n + 4)) gv (.call 7 (.cons (.var 0) .nil)) [some (.t x),none] m).bind fun y m0=>(Qd y m0).bind fun ts m =>
        (JD (Jl (cf (n + 4)) gv .nil (.emit (.var 1))) (.nm 1) ts [some (.t x),none] m).bind fun out m=>.ok (.t (.lst out)) (giveBack y m0 m):=by
      unfold QT
      rw [ev]
      rfl
    rw [e1]
    have e2:ev (cf (n + 4)) gv (.call 7 (.cons (.var 0) .nil)) [some (.t x),none] m = .ok (.t (.tup (kids x))) m:=by simp [ev,evs,isT,Zr,EVs,ZcU (n:=n + 2)]
    rw [e2]
    show (JD (Jl (cf (n + 4)) gv .nil (.emit (.var 1))) (.nm 1) (kids x) [some (.t x),none] m).bind _=_
    rw [h]
    rfl
  unfold Jl
  simp [tests,Zf,e,ZhQ]
theorem Zhc {n:Nat} {m:Mem} {l:List T} {e0 e2 e3:Option W} (hl:(l.flatMap kids).length≤lim):ev (cf (n + 4)) gv ZbH [e0,some (.t (.lst l)),e2,e3] m = .ok (.t (.lst (l.flatMap kids))) m:=by
  have h:=Jc (f:=Jl (cf (n + 4)) gv .nil QT) (tg:=.nm 0) (env:=[none,none]) (m:=m) (g:=kids) l (fun t ht=>⟨[some (.t t),none],rfl,Zhb⟩)
  exact Xe (x:=.t (.lst l)) (m0:=m) rfl rfl h hl
noncomputable def lay:Nat→List T→List T
  | 0,l=>l
  | k + 1,l=>lay k (l.flatMap kids)
noncomputable def run:Nat→Nat→List T→Option (List T)
  | 0,_,l=>some l
  | k + 1,p,l=>if 40 < p + l.length∨l.all Zaz=false then none else run k (p + l.length) (l.flatMap kids)
theorem ZiW (l:List T):(l.flatMap kids).length≤6 * l.length:=by
  induction l with
  | nil=>simp
  | cons x l ih =>
    have:=ZkC x
    rw [List.flatMap_cons,List.length_append,List.length_cons]
    omega
theorem ZhP (l:List T):((l.map Zaz).all id)=l.all Zaz:=by rw [List.all_map]; rfl
theorem layers {n:Nat} {m:Mem} {x:Option W}:∀ (ts:List T) (l:List T) (p:Nat) (d:Option W),(∀ k,∀ y∈lay k l,fit1 y)→l.length≤lim→match run ts.length p l with
    | none=>Ja (ex (cf (n + 4)) gv Zy) (.nm 3) ts [x,some (.t (.lst l)),some (.t (.int p)),d] m = .ok (.ret (.t (.bl false))) m
    | some l'=>∃ p' d',Ja (ex (cf (n + 4)) gv Zy) (.nm 3) ts [x,some (.t (.lst l)),some (.t (.int p)),d] m = .ok (.next [x,some (.t (.lst l')),p',d']) m
  | [],l,p,d,_,_=>⟨_,_,rfl⟩
  | t :: ts,l,p,d,hf,hl=>by
    have hd:J1 (.nm 3) t [x,some (.t (.lst l)),some (.t (.int p)),d]=some [x,some (.t (.lst l)),some (.t (.int p)),some (.t t)]:=rfl
    have hfo:=ZfT (n:=n) (m:=m) (l:=l) (e0:=x) (e2:=some (.t (.int ((p:Int) + l.length)))) (e3:=some (.t t)) (fun y hy=>hf 0 y hy) hl
    have ha:=ZkA (Zah Zaz l)
    rw [ZhP] at ha
    have haug:∀ k,ex (cf (n + 4)) gv (.aug 2 .Add (.blt .len (.cons (.var 1) .nil)) k) [x,some (.t (.lst l)),some (.t (.int p)),some (.t t)] m=ex (cf (n + 4)) gv k [x,some (.t (.lst l)),some (.t (.int ((p:Int) + l.length))),some (.t t)] m:=fun k=>by
      rw [ex]
      simp [ev,evs,isT,Zr,EVs,augT]
    rw [List.length_cons,run]
    by_cases hc:40 < p + l.length∨l.all Zaz=false
    · rw [if_pos hc]
      show Ja _ _ _ _ _=_
      rw [Ja,hd]
      show (ex (cf (n + 4)) gv Zy [x,some (.t (.lst l)),some (.t (.int p)),some (.t t)] m).bind _=_
      have e:ex (cf (n + 4)) gv Zy [x,some (.t (.lst l)),some (.t (.int p)),some (.t t)] m = .ok (.ret (.t (.bl false))) m:=by
        unfold Zy
        rw [haug]
        refine Z8 (m1:=m) ?_ (Zi rfl)
        by_cases h4:40 < p + l.length
        · have h4':(40:Int) < (p:Int) + l.length:=by omega
          simp [ev,evs,isT,Zr,EVs,JS,h4']
        · have h4':¬ (40:Int) < (p:Int) + l.length:=by omega
          have hal:l.all Zaz=false:=by
            rcases hc with h | h
            · exact absurd h h4
            · exact h
          rw [hal] at ha
          simp [ev,evs,isT,Zr,EVs,JS,h4',hfo,ha]
      rw [e]
      rfl
    · rw [if_neg hc]
      have h4:¬ 40 < p + l.length:=fun h=>hc (.inl h)
      have hal:l.all Zaz=true:=by
        cases h:l.all Zaz with
        | true=>rfl
        | false=>exact absurd (.inr h) hc
      have hfl:=ZiW l
      have hl2:(l.flatMap kids).length≤lim:=by unfold lim; omega
      have hk:=Zhc (n:=n) (m:=m) (e0:=x) (e2:=some (.t (.int ((p:Int) + l.length)))) (e3:=some (.t t)) hl2
      have e:ex (cf (n + 4)) gv Zy [x,some (.t (.lst l)),some (.t (.int p)),some (.t t)] m = .ok (.next [x,some (.t (.lst (l.flatMap kids))),some (.t (.int ((p + l.length:Nat):Int))),some (.t t)]) m:=by
        unfold Zy
        rw [haug]
        have h4':¬ (40:Int) < (p:Int) + l.length:=by omega
        rw [hal] at ha
        rw [Zo (m1:=m) (by simp [ev,evs,isT,Zr,EVs,JS,h4',hfo,ha])]
        rw [ZJ hk]
        rw [ex]
        simp
      have ih:=layers (n:=n) (m:=m) (x:=x) ts (l.flatMap kids) (p + l.length) (some (.t t)) (fun k y hy=>hf (k + 1) y hy) hl2
      have step:Ja (ex (cf (n + 4)) gv Zy) (.nm 3) (t :: ts) [x,some (.t (.lst l)),some (.t (.int p)),d] m=Ja (ex (cf (n + 4)) gv Zy) (.nm 3) ts [x,some (.t (.lst (l.flatMap kids))),some (.t (.int ((p + l.length:Nat):Int))),some (.t t)] m:=by
        rw [Ja,hd]
        show (ex (cf (n + 4)) gv Zy [x,some (.t (.lst l)),some (.t (.int p)),some (.t t)] m).bind _=_
        rw [e]
        rfl
      rw [step]
      exact ih
noncomputable def Xo (x:T):Bool:=match run 6 0 [x] with
  | none=>false
  | some l=>l.isEmpty
theorem ZfN {n:Nat} {m:Mem} {x:T} (hf:∀ k,∀ y∈lay k [x],fit1 y):cf (n + 5) 9 [.t x] m = .ok (.t (.bl (Xo x))) m:=by
  have key:ex (cf (n + 4)) gv JL [some (.t x),none,none,none] m = .ok (.ret (.t (.bl (Xo x)))) m:=by
    unfold JL
    rw [ZJ (w:=.t (.lst [x])) (m1:=m) rfl]
    rw [ZJ (w:=.t (.int 0)) (m1:=m) rfl]
    simp only [List.set_cons_succ,List.set_cons_zero]
    have hit:ev (cf (n + 4)) gv (.blt .range1 (.cons (.gl 4) .nil)) [some (.t x),some (.t (.lst [x])),some (.t (.int 0)),none] m = .ok (.t (.lst (rangeT 0 6))) m:=by
      simp [ev,evs,isT,Zr,EVs,ZfS,Zkz (show (6:Int) < 2 ^ 62∧-(2 ^ 62)≤(6:Int) by decide)]
    have h:=layers (n:=n) (m:=m) (x:=some (.t x)) (rangeT 0 6) [x] 0 none hf (by show 1≤lim; decide)
    have hr:(rangeT 0 6).length=6:=rfl
    rw [hr] at h
    unfold Xo
    cases q:run 6 0 [x] with
    | none =>
      rw [q] at h
      have h:Ja (ex (cf (n + 4)) gv Zy) (.nm 3) (rangeT 0 6) [some (.t x),some (.t (.lst [x])),some (.t (.int 0)),none] m = .ok (.ret (.t (.bl false))) m:=h
      rw [ex,hit]
      show (Ja (ex (cf (n + 4)) gv Zy) (.nm 3) (rangeT 0 6) [some (.t x),some (.t (.lst [x])),some (.t (.int 0)),none] m).bind _=_
      rw [h]
      rfl
    | some l' =>
      rw [q] at h
      obtain ⟨p',d',h⟩:=h
      have h:Ja (ex (cf (n + 4)) gv Zy) (.nm 3) (rangeT 0 6) [some (.t x),some (.t (.lst [x])),some (.t (.int 0)),none] m = .ok (.next [some (.t x),some (.t (.lst l')),p',d']) m:=h
      rw [ZcD hit rfl h]
      refine Zi ?_
      cases l' <;> simp [ev,evs,isT,Zr,EVs,giveBack]
      omega
  exact Qu (Zf1 _ _ _) rfl key (Z3 (cell:=false) rfl)
theorem ZdB (w a b:List Nat):cmpT .In (.str w) (.tup [.str a,.str b])=some (a == w || b == w):=by
  have h:hasT (.str w) (.tup [.str a,.str b])=some (a == w || b == w):=by simp [hasT,flat,eqT]
  rw [← h]
  cases w with
  | nil=>rfl
  | cons c r=>cases r <;> rfl
noncomputable def wl (ws:List (List Nat)):T:=.lst (ws.map .str)
noncomputable def wat (ws:List (List Nat)) (i:Nat):List Nat:=(ws[i]?).getD []
theorem ZjD (pre:List (List Nat)) (w:List Nat) (post:List (List Nat)):wat (pre++w :: post) pre.length=w:=by simp [wat]
theorem Zez {pre mid post:List (List Nat)} {j i:Nat} (h:j < mid.length) (e:i=pre.length + j:=by omega):wat (pre++mid++post) i=wat mid j:=by
  subst e
  unfold wat
  rw [List.append_assoc,List.getElem?_append_right (by omega),List.getElem?_append_left (by omega),show pre.length + j - pre.length=j by omega]
theorem ZjE {pre mid post:List (List Nat)} {i:Nat} (e:i=pre.length + mid.length:=by omega):wat (pre++mid++post) i=wat post 0:=by
  subst e
  unfold wat
  rw [List.getElem?_append_right (by simp),List.length_append,Nat.sub_self]
theorem ZQ {n:Nat} {m:Mem} {ws:List (List Nat)} {k:Int} {i:Nat} (hk:k=(i:Int)):cf (n + 1) 11 [.t (wl ws),.t (.int k)] m = .ok (.t (.str (wat ws i))) m:=by
  subst hk
  have key:ex (cf n) gv JK [some (.t (wl ws)),some (.t (.int i))] m = .ok (.ret (.t (.str (wat ws i)))) m:=by
    unfold JK
    have hc:ev (cf n) gv (.cmp .Lt (.var 1) (.blt .len (.cons (.var 0) .nil))) [some (.t (wl ws)),some (.t (.int i))] m = .ok (.t (.bl (decide (i < ws.length)))) m:=by
      refine (Zz (Zb rfl) (QV (Zb rfl) (Zek _)) (c_lt _ _)).trans ?_
      rw [List.length_map]
      congr 3
      exact decide_eq_decide.mpr (by omega)
    by_cases h:i < ws.length
    · rw [decide_eq_true h] at hc
      refine Z8 hc (Zi (ZcF (Zb rfl) (Zb rfl) ?_))
      show atT (ws.map T.str) (i:Int)=_
      rw [at_get (by omega) (by rw [List.length_map]; omega)]
      simp [wat,h]
    · rw [decide_eq_false h] at hc
      rw [Zo hc]
      refine Zi ?_
      rw [show wat ws i=[] by simp [wat,List.getElem?_eq_none (Nat.not_lt.mp h)]]
      exact Zc _
  exact Qu (Zf0 _ _ _) rfl key (Z3 (cell:=false) rfl)
theorem Xg {n:Nat} {m:Mem} {ws:List (List Nat)} {k:Int} {i:Nat} (hk:k=(i:Int)) (hl:(wat ws i).length≤lim) (hw:JQ (wat ws i)=true):cf (n + 2) 12 [.t (wl ws),.t (.int k)] m = .ok (.t (.str (wat ws i))) m:=by
  have key:ex (cf (n + 1)) gv Q5 [some (.t (wl ws)),some (.t (.int k)),none] m = .ok (.ret (.t (.str (wat ws i)))) m:=by
    unfold Q5
    rw [ZJ ((Zk (Zb rfl) (Zb rfl)).trans (ZQ hk))]
    dsimp only [List.set_cons_succ,List.set_cons_zero]
    have hi:=Zav (n:=n) (m:=m) hl
    rw [hw] at hi
    rw [Zo (Xd (k:=true) ((Qf (Zb rfl)).trans hi))]
    exact Zi (Zb rfl)
  exact Qu (Zce _ _ _) rfl key (Z3 (cell:=false) rfl)
noncomputable def digs:List Nat:=[48,49,50,51,52,53,54,55,56,57]
noncomputable def figB (cs:List Nat):Bool:=decide (1≤cs.length) && decide (cs.length≤10) && (cs.all fun c=>decide (c∈digs)) && (cs == [48] || cs.head? != some 48)
theorem ZiZ {n:Nat} {cs:List Nat} {m:Mem} (hl:cs.length≤lim):ev (cf n) gv QK [some (.t (.str cs))] m = .ok (.t (.lst (cs.map fun c=>.bl (decide (c∈digs))))) m:=by
  have h:=Jc (f:=Jl (cf n) gv .nil Jo) (tg:=.nm 0) (env:=[none]) (m:=m)
    (g:=fun t=>match t with | .str [c]=>[.bl (decide (c∈digs))] | _=>[]) (cs.map fun c=>.str [c]) (fun t ht=>by
      obtain ⟨c,_,rfl⟩:=List.mem_map.mp ht
      exact ⟨[some (.t (.str [c]))],rfl,turn0 (Zhx (Zz (Zb rfl) (ZdG ZfR) (c_in1 _ _)))⟩)
  have e:(cs.map fun c=>T.str [c]).flatMap (fun t=>match t with | .str [c]=>[T.bl (decide (c∈digs))] | _=>[])=cs.map fun c=>.bl (decide (c∈digs)):=by
    clear h hl
    induction cs with
    | nil=>rfl
    | cons c cs ih=>rw [List.map_cons,List.flatMap_cons,ih]; rfl
  rw [e] at h
  have hb:Qd (.t (.str cs)) m = .ok (cs.map fun c=>.str [c]) m:=by simp [Qd,ZeU,hl]
  exact Xe (x:=.t (.str cs)) (m0:=m) (m1:=m) (Zb rfl) hb h (by rw [List.length_map]; exact hl)
theorem Zbq {n:Nat} {m:Mem} {cs:List Nat} (hl:cs.length≤lim):cf (n + 1) 10 [.t (.str cs)] m = .ok (.t (.bl (figB cs))) m:=by
  have key:ex (cf n) gv ZS [some (.t (.str cs))] m = .ok (.ret (.t (.bl (figB cs)))) m:=by
    unfold ZS
    have ha:ev (cf n) gv (.not (.blt .all (.cons QK .nil))) [some (.t (.str cs))] m = .ok (.t (.bl (!(cs.all fun c=>decide (c∈digs))))) m:=by
      refine (Xd (QV (ZiZ hl) (ZkA (Zah _ _)))).trans ?_
      rw [List.all_map]; rfl
    have hb:ev (cf n) gv (.chn .LtE .LtE (.con (.int 1)) (.blt .len (.cons (.var 0) .nil)) (.gl 9)) [some (.t (.str cs))] m = .ok (.t (.bl (decide (1≤cs.length) && decide (cs.length≤10)))) m:=by
      rw [ev,Zc,Zf,QV (Zb rfl) (ZfK hl),Zf]
      simp only [view,Option.bind_some,c_le]
      by_cases h1:1≤cs.length
      · rw [decide_eq_true (show (1:Int)≤(cs.length:Int) by omega)]
        dsimp only
        rw [ZdG Zbz,Zf]
        simp only [view,Option.bind_some,c_le,h1,decide_true,Bool.true_and,Option.map_some,pur]
        congr 3
        exact decide_eq_decide.mpr (by omega)
      · rw [decide_eq_false (show ¬ (1:Int)≤(cs.length:Int) by omega)]
        simp [h1]
    by_cases h1:(decide (1≤cs.length) && decide (cs.length≤10))=true
    · rw [h1] at hb
      by_cases h2:(cs.all fun c=>decide (c∈digs))=true
      · rw [h2] at ha
        rw [Zo ((ZdF (Xd hb)).trans ha)]
        rw [Bool.and_eq_true] at h1
        have hlen:=of_decide_eq_true h1.1
        have hf:figB cs=(cs == [48] || cs.head? != some 48):=by
          unfold figB; rw [h1.1,h1.2,h2]; rfl
        rw [hf]
        cases cs with
        | nil=>simp at hlen
        | cons c r =>
          have e1:ev (cf n) gv (.cmp .Eq (.var 0) (.con (.str [48]))) [some (.t (.str (c :: r)))] m = .ok (.t (.bl (c :: r == [48]))) m:=Zz (Zb rfl) (Zc _) (ZdO _ _)
          cases q:(c :: r == [48]) with
          | true =>
            rw [q] at e1
            exact Zi (Ze2 e1)
          | false =>
            rw [q] at e1
            refine Zi ((ZdF e1).trans (Zz (ZcF (Zb rfl) (Zc _) ((x_str hl _).trans (by rw [at0]; rfl))) (Zc _) ?_))
            rw [Zk0]
            simp [bne]
      · rw [Bool.eq_false_iff.mpr h2] at ha
        have hf:figB cs=false:=by unfold figB; rw [Bool.eq_false_iff.mpr h2]; simp
        rw [hf]
        exact Z8 ((ZdF (Xd hb)).trans ha) (Zi (Zc _))
    · rw [Bool.eq_false_iff.mpr h1] at hb
      have hf:figB cs=false:=by unfold figB; rw [Bool.eq_false_iff.mpr h1]; simp
      rw [hf]
      exact Z8 (Ze2 (Xd hb)) (Zi (Zc _))
  exact Qu (ZaD _ _ _) rfl key (Z3 (cell:=false) rfl)
theorem Zhr {cs:List Nat} (h:figB cs=true):bltT .int [.str cs]=some (.int (figV cs))∧cs.length≤lim:=by
  unfold figB at h
  simp only [Bool.and_eq_true,decide_eq_true_eq,List.all_eq_true] at h
  obtain ⟨⟨⟨h1,h2⟩,h3⟩,_⟩:=h
  refine ⟨?_,by unfold lim; omega⟩
  show (if cs≠[]∧cs.length≤600∧cs.all (fun c=>decide (48≤c) && decide (c≤57))=true then some (T.int (figV cs)) else none)=_
  refine if_pos ⟨fun z=>by subst z; simp at h1,by omega,List.all_eq_true.mpr fun c hc=>?_⟩
  have:=h3 c hc
  unfold digs at this
  rw [Bool.and_eq_true]
  refine ⟨decide_eq_true ?_,decide_eq_true ?_⟩ <;> (simp at this; omega)
theorem ZaN {n:Nat} {m:Mem} {ws:List (List Nat)} {k:Int} {i:Nat} (hk:k=(i:Int)) (hw:figB (wat ws i)=true):cf (n + 2) 13 [.t (wl ws),.t (.int k)] m = .ok (.t (.int (figV (wat ws i)))) m:=by
  have key:ex (cf (n + 1)) gv Qp [some (.t (wl ws)),some (.t (.int k)),none] m = .ok (.ret (.t (.int (figV (wat ws i))))) m:=by
    unfold Qp
    rw [ZJ ((Zk (Zb rfl) (Zb rfl)).trans (ZQ hk))]
    dsimp only [List.set_cons_succ,List.set_cons_zero]
    have hi:=Zbq (n:=n) (m:=m) (Zhr hw).2
    rw [hw] at hi
    rw [Zo (Xd (k:=true) ((Qf (Zb rfl)).trans hi))]
    exact Zi (QV (Zb rfl) (Zhr hw).1)
  exact Qu (ZaR _ _ _) rfl key (Z3 (cell:=false) rfl)
inductive LeafW:T→List (List Nat)→Prop where
  | any:LeafW (.tup [.str [97,110,121]]) [[97,110,121]]
  | two {w v:List Nat}:(w=[105,115]∨w=[98,121])→JQ v=true→v.length≤lim→LeafW (.tup [.str w,.str v]) [w,v]
  | three {a w v f:List Nat}:(a=[62,61]∧w=[108,101,97,115,116]∨a=[60,61]∧w=[109,111,115,116])→JQ v=true→v.length≤lim→figB f=true→LeafW (.tup [.str w,.str v,.int (figV f)]) [v,a,f]
theorem Zej {v w:List Nat} (h:JQ v=true) (hw:Zeo w=true):(v == w)=false:=by
  rw [Bool.eq_false_iff]
  intro z
  have:=eq_of_beq z
  subst this
  unfold JQ at h
  rw [hw] at h
  simp at h
theorem long_br {v:List Nat} (h:JQ v=true):(v == [40])=false:=by
  rw [Bool.eq_false_iff]
  intro z
  have:=eq_of_beq z
  subst this
  revert h
  decide
theorem long_br2 {v:List Nat} (h:JQ v=true):(v == [41])=false:=by
  rw [Bool.eq_false_iff]
  intro z
  have:=eq_of_beq z
  subst this
  revert h
  decide
theorem in_two' (w a b:List Nat):cmpT .In (.str w) (.tup [.str a,.str b])=some (a == w || b == w):=ZdB w a b
theorem JV {call:Nat→List W→Mem→Res W} {gv:List T} {env:Env} {m m1:Mem} {k:S} {e:E} {i j:Nat} {x y:T} (h:ev call gv e env m = .ok (.t (.tup [x,y])) m1):ex call gv (.asgT [i,j] e k) env m=ex call gv k ((env.set i (some (.t x))).set j (some (.t y))) m1:=by
  rw [ex,h]; rfl
theorem Zjr {call:Nat→List W→Mem→Res W} {gv:List T} {env:Env} {m m1:Mem} {e:E} {k:Nat} {x r:T} {ks:List L2.Key} {vs:List T} (h:ev call gv e env m = .ok (.t x) m1) (hk:gv[k]? = some (.dct ks vs)) (hr:(keyT x).bind (Qs ks vs)=some r):ev call gv (.gdg k e) env m = .ok (.t r) m1:=by
  rw [ev,h]
  show pur (gDct gv[k]? fun ks vs=>(keyT x).bind (Qs ks vs)) m1=_
  rw [hk]
  show pur ((keyT x).bind (Qs ks vs)) m1=_
  rw [hr]; rfl
theorem Zhw {call:Nat→List W→Mem→Res W} {gv:List T} {env:Env} {m m1:Mem} {e:E} {k:Nat} {neg b:Bool} {x:T} {ks:List L2.Key} {vs:List T} (h:ev call gv e env m = .ok (.t x) m1) (hk:gv[k]? = some (.dct ks vs)) (hr:((keyT x).map fun k=>T.bl (if neg then !(Qs ks vs k).isSome else (Qs ks vs k).isSome))=some (.bl b)):ev call gv (.gdn k neg e) env m = .ok (.t (.bl b)) m1:=by
  rw [ev,h]
  show pur (gDct gv[k]? fun ks vs=>(keyT x).map fun k=>T.bl (if neg then !(Qs ks vs k).isSome else (Qs ks vs k).isSome)) m1=_
  rw [hk]
  show pur ((keyT x).map fun k=>T.bl (if neg then !(Qs ks vs k).isSome else (Qs ks vs k).isSome)) m1=_
  rw [hr]; rfl
theorem ZL {call:Nat→List W→Mem→Res W} {gv:List T} {env:Env} {m:Mem} {i:Nat} {a b:Int} (h:env[i]? = some (some (.t (.int a)))):ev call gv (.bin .Add (.var i) (.con (.int b))) env m = .ok (.t (.int (a + b))) m:=QL (Zb h) (Zc _) (Zf3 _ _)
theorem read_plain_ok {n:Nat} {m:Mem} {t:T} {pre mid post:List (List Nat)} (h:LeafW t mid):cf (n + 3) 14 [.t (wl (pre++mid++post)),.t (.int (pre.length:Int))] m = .ok (.t (.tup [t,.int ((pre.length + mid.length:Nat):Int)])) m:=by
  have key:ex (cf (n + 2)) gv Qo [some (.t (wl (pre++mid++post))),some (.t (.int (pre.length:Int))),none,none,none] m = .ok (.ret (.t (.tup [t,.int ((pre.length + mid.length:Nat):Int)]))) m:=by
    unfold Qo
    rw [ZJ ((Zk (Zb rfl) (Zb rfl)).trans (ZQ rfl))]
    dsimp only [List.set_cons_succ,List.set_cons_zero]
    have h0:wat (pre++mid++post) pre.length=wat mid 0:=Zez (j:=0) (by cases h <;> simp)
    rw [h0]
    cases h with
    | any =>
      refine Z8 (m1:=m) (Zz (k:=true) (Zb rfl) (Zc _) rfl) (Zi ?_)
      refine (Zj (ZaB (Zb rfl)) (ZL rfl)).trans ?_
      rfl
    | @two w v hw hv hl =>
      have h1:wat (pre++[w,v]++post) (pre.length + 1)=v:=(Zez (j:=1) (by simp)).trans rfl
      have hn:=Xg (n:=n) (m:=m) (ws:=pre++[w,v]++post) (k:=(pre.length:Int) + 1) (i:=pre.length + 1) (by omega) (by rw [h1]; exact hl) (by rw [h1]; exact hv)
      rw [h1] at hn
      have ha:(w == [97,110,121])=false:=by rcases hw with rfl | rfl <;> rfl
      rw [Zo (m1:=m) (Zz (k:=false) (Zb rfl) (Zc _) (by rw [ZdO]; exact congrArg some ha))]
      refine Z8 (m1:=m) (Zz (k:=true) (Zb rfl) (Zj (Zc _) (Zc _)) ?_) (Zi ?_)
      · rw [ZdB]
        rcases hw with rfl | rfl <;> rfl
      · refine (Zj (Zj (Zb rfl) ((Zk (Zb rfl) (ZL rfl)).trans hn)) (ZL rfl)).trans ?_
        rfl
    | @three a w v f hw hv hl hf =>
      have h1:wat (pre++[v,a,f]++post) pre.length=v:=h0.trans rfl
      have h2:wat (pre++[v,a,f]++post) (pre.length + 1)=a:=(Zez (j:=1) (by simp)).trans rfl
      have h3:wat (pre++[v,a,f]++post) (pre.length + 2)=f:=(Zez (j:=2) (by simp)).trans rfl
      have hn:=Xg (n:=n) (m:=m) (ws:=pre++[v,a,f]++post) (k:=(pre.length:Int)) (i:=pre.length) rfl (by rw [h1]; exact hl) (by rw [h1]; exact hv)
      rw [h1] at hn
      have hs:=ZQ (n:=n + 1) (m:=m) (ws:=pre++[v,a,f]++post) (k:=(pre.length:Int) + 1) (i:=pre.length + 1) (by omega)
      rw [h2] at hs
      have hm:=ZaN (n:=n) (m:=m) (ws:=pre++[v,a,f]++post) (k:=(pre.length:Int) + 2) (i:=pre.length + 2) (by omega) (by rw [h3]; exact hf)
      rw [h3] at hm
      show ex (cf (n + 2)) gv _ [_,_,some (.t (.str v)),none,none] m=_
      rw [Zo (m1:=m) (Zz (k:=false) (Zb rfl) (Zc _) (by rw [ZdO]; exact congrArg some (Zej hv rfl)))]
      rw [Zo (m1:=m) (Zz (k:=false) (Zb rfl) (Zj (Zc _) (Zc _)) (by rw [ZdB]; refine congrArg some ?_; have e1:=Zej hv (w:=[105,115]) rfl; have e2:=Zej hv (w:=[98,121]) rfl; rw [Bool.beq_comm,e1,Bool.beq_comm,e2]; rfl))]
      rw [ZJ ((Zk (Zb rfl) (Zb rfl)).trans hn)]
      dsimp only [List.set_cons_succ,List.set_cons_zero]
      rw [ZJ ((Zk (Zb rfl) (ZL rfl)).trans hs)]
      dsimp only [List.set_cons_succ,List.set_cons_zero]
      rw [Zo (Zhw (b:=false) (Zb rfl) X6 (by rcases hw with ⟨rfl,rfl⟩ | ⟨rfl,rfl⟩ <;> rfl))]
      refine Zi ?_
      have hg:ev (cf (n + 2)) gv (.gdg 11 (.var 4)) [some (.t (wl (pre++[v,a,f]++post))),some (.t (.int (pre.length:Int))),some (.t (.str v)),some (.t (.str v)),some (.t (.str a))] m = .ok (.t (.str w)) m :=
        Zjr (Zb rfl) X6 (by rcases hw with ⟨rfl,rfl⟩ | ⟨rfl,rfl⟩ <;> rfl)
      refine (Zj (Zep hg (Zb rfl) ((Zk (Zb rfl) (ZL rfl)).trans hm)) (ZL rfl)).trans ?_
      rfl
  exact Qu (Zaf _ _ _) rfl key (Z3 (cell:=false) rfl)
noncomputable abbrev Rd:=Except Nat (T×Nat)
noncomputable def noT (e:Nat):Exc:=⟨71,["at"],[.int (e:Int)]⟩
noncomputable def Back (r:Rd) (m:Mem) (res:Res W):Prop:=match r with
  | .ok p=>res = .ok (.t (.tup [p.1,.int (p.2:Int)])) m
  | .error e=>∃ x,res = .exc (noT e) (m++x)
section
variable {call:Nat→List W→Mem→Res W} {gv:List T} {env:Env} {m m1 m2:Mem} {e a b c:E} {s s' k:S} {x:Exc}
theorem bind_x {α β:Type} (f:α→Mem→Res β):(Res.exc x m:Res α).bind f = .exc x m:=rfl
theorem Zhu {i:Nat} (h:ev call gv e env m = .exc x m1):ex call gv (.asg i e k) env m = .exc x m1:=by rw [ex,h]; rfl
theorem Zab {is:List Nat} (h:ev call gv e env m = .exc x m1):ex call gv (.asgT is e k) env m = .exc x m1:=by rw [ex,h]; rfl
theorem ZbB (h:ev call gv e env m = .exc x m1):ex call gv (.ret e k) env m = .exc x m1:=by rw [ex,h]; rfl
theorem Xc (h:ev call gv e env m = .ok (.t (.bl true)) m1) (h2:ex call gv s env m1 = .exc x m2):ex call gv (.ife e s s' k) env m = .exc x m2:=by
  rw [ex,h]
  show (ex call gv s env m1).bind _=_
  rw [h2]; rfl
theorem ZaA {cl:Nat} {nm:PySem.Str} {t:T} (h:ev call gv e env m = .ok (.t t) m1):ex call gv (.rse cl [nm] (.cons e .nil) k) env m = .exc ⟨cl,[nm],[t]⟩ m1:=by
  rw [ex,evs,h,Zf,evs,Zf,Zf,Xu,Xr,Zf,Zf,if_neg (by simp)]
  exact if_pos rfl
theorem ZeY {cc:Prop} [Decidable cc] {bb:S} {kk:Nat} {cell:Bool} {X:Res W} (hX:X=if cc then (ex call gv bb env m).bind fun fl m'=>fin kk cell fl m' else .stuck) (hc:cc) (key:ex call gv bb env m = .exc x m1):X = .exc x m1:=by
  rw [hX,if_pos hc,key]; rfl
theorem Ze1 (h:ev call gv a env m = .exc x m1):ev call gv (.tup (.cons a (.cons b .nil))) env m = .exc x m1:=by rw [ev,evs,h]; rfl
theorem Ze0 {y:T} (h:ev call gv a env m = .ok (.t y) m1) (h2:ev call gv b env m1 = .exc x m2):ev call gv (.tup (.cons a (.cons b .nil))) env m = .exc x m2:=by rw [ev,evs,h,Zf,evs,h2]; rfl
theorem ZiX {y z:T} (h:ev call gv a env m = .ok (.t y) m1) (h2:ev call gv b env m1 = .ok (.t z) m2) {m3:Mem} (h3:ev call gv c env m2 = .exc x m3):ev call gv (.tup (.cons a (.cons b (.cons c .nil)))) env m = .exc x m3:=by rw [ev,evs,h,Zf,evs,h2,Zf,evs,h3]; rfl
end
theorem Back.fn {r:Rd} {m:Mem} {cc:Prop} [Decidable cc] {bb:S} {env:Env} {call:Nat→List W→Mem→Res W} {gv:List T} {X:Res W} (hX:X=if cc then (ex call gv bb env m).bind fun fl m'=>fin m.length false fl m' else .stuck) (hc:cc)
    (key:match r with
      | .ok p=>∃ y,ex call gv bb env m = .ok (.ret (.t (.tup [p.1,.int (p.2:Int)]))) (m++y)
      | .error e=>∃ y,ex call gv bb env m = .exc (noT e) (m++y)):Back r m X:=by
  cases r with
  | ok p =>
    obtain ⟨y,key⟩:=key
    refine Qu hX hc key ?_
    show Res.ok _ ((m++y).take m.length)=_
    rw [List.take_left]
  | error e =>
    obtain ⟨y,key⟩:=key
    exact ⟨y,ZeY hX hc key⟩
theorem Zdr {n:Nat} {m:Mem} {ws:List (List Nat)} {k:Int} {i:Nat} (hk:k=(i:Int)) (hl:(wat ws i).length≤lim) (hw:JQ (wat ws i)=false):cf (n + 2) 12 [.t (wl ws),.t (.int k)] m = .exc (noT i) m:=by
  refine ZeY (Zce _ _ _) rfl (show ex (cf (n + 1)) gv Q5 [some (.t (wl ws)),some (.t (.int k)),none] m=_ from ?_)
  unfold Q5
  rw [ZJ ((Zk (Zb rfl) (Zb rfl)).trans (ZQ hk))]
  dsimp only [List.set_cons_succ,List.set_cons_zero]
  have hi:=Zav (n:=n) (m:=m) hl
  rw [hw] at hi
  subst hk
  exact Xc (Xd (k:=false) ((Qf (Zb rfl)).trans hi)) (ZaA (Zb rfl))
theorem Zef {n:Nat} {m:Mem} {ws:List (List Nat)} {k:Int} {i:Nat} (hk:k=(i:Int)) (hl:(wat ws i).length≤lim) (hw:figB (wat ws i)=false):cf (n + 2) 13 [.t (wl ws),.t (.int k)] m = .exc (noT i) m:=by
  refine ZeY (ZaR _ _ _) rfl (show ex (cf (n + 1)) gv Qp [some (.t (wl ws)),some (.t (.int k)),none] m=_ from ?_)
  unfold Qp
  rw [ZJ ((Zk (Zb rfl) (Zb rfl)).trans (ZQ hk))]
  dsimp only [List.set_cons_succ,List.set_cons_zero]
  have hi:=Zbq (n:=n) (m:=m) hl
  rw [hw] at hi
  subst hk
  exact Xc (Xd (k:=false) ((Qf (Zb rfl)).trans hi)) (ZaA (Zb rfl))
noncomputable def signOf (w:List Nat):Option (List Nat):=if w == [62,61] then some [108,101,97,115,116] else if w == [60,61] then some [109,111,115,116] else none
theorem key_eq (a w:List Nat):decide ((Sum.inr ⟨a.toArray⟩:L2.Key) = .inr ⟨w.toArray⟩)=(w == a):=by
  by_cases h:w=a
  · subst h; simp
  · rw [beq_eq_false_iff_ne.mpr h]
    refine decide_eq_false fun z=>h ?_
    have z:=Sum.inr.inj z
    have:=congrArg (fun s:PySem.Str=>s.cps.toList) z
    simpa using this.symm
theorem Zgq (w:List Nat):Qs (List.map (fun k=>.inr ⟨k.toArray⟩) [[62,61],[60,61]]) [(.str [108,101,97,115,116]),(.str [109,111,115,116])] (.inr ⟨w.toArray⟩)=(signOf w).map .str:=by
  unfold Qs signOf
  simp only [List.map_cons,List.map_nil,List.zip_cons_cons,List.zip_nil_left,List.find?,key_eq]
  cases w == [62,61] <;> cases w == [60,61] <;> rfl
noncomputable def QM (ws:List (List Nat)) (i:Nat):Rd :=
  if wat ws i == [97,110,121] then .ok (.tup [.str (wat ws i)],i + 1)
  else if wat ws i == [105,115] || wat ws i == [98,121] then (if JQ (wat ws (i + 1)) then .ok (.tup [.str (wat ws i),.str (wat ws (i + 1))],i + 2) else .error (i + 1))
  else if JQ (wat ws i) then (match signOf (wat ws (i + 1)) with
    | none=>.error (i + 1)
    | some sg=>if figB (wat ws (i + 2)) then .ok (.tup [.str sg,.str (wat ws i),.int (figV (wat ws (i + 2)))],i + 3) else .error (i + 2))
  else .error i
noncomputable def Fits (ws:List (List Nat)):Prop:=∀ w∈ws,w.length≤lim
theorem Fits.at {ws:List (List Nat)} (h:Fits ws) (i:Nat):(wat ws i).length≤lim:=by
  unfold wat
  cases q:ws[i]? with
  | none=>simp [lim]
  | some w=>exact h w (List.mem_of_getElem? q)
theorem ZaL {n:Nat} {m:Mem} {ws:List (List Nat)} {i:Nat} {b:Int} (hf:Fits ws) (hb:b=(i:Int)):Back (QM ws i) m (cf (n + 3) 14 [.t (wl ws),.t (.int b)] m):=by
  refine Back.fn (Zaf _ _ _) rfl (env:=[some (.t (wl ws)),some (.t (.int b)),none,none,none]) ?_
  subst hb
  have h0:∀ k,ex (cf (n + 2)) gv (.asg 2 (.call 11 (.cons (.var 0) (.cons (.var 1) .nil))) k) [some (.t (wl ws)),some (.t (.int (i:Int))),none,none,none] m=ex (cf (n + 2)) gv k [some (.t (wl ws)),some (.t (.int (i:Int))),some (.t (.str (wat ws i))),none,none] m:=fun k=>by
    rw [ZJ ((Zk (Zb rfl) (Zb rfl)).trans (ZQ rfl))]
    rfl
  have e1:∀ e3 e4,ev (cf (n + 2)) gv (.cmp .Eq (.var 2) (.con (.str [97,110,121]))) [some (.t (wl ws)),some (.t (.int (i:Int))),some (.t (.str (wat ws i))),e3,e4] m = .ok (.t (.bl (wat ws i == [97,110,121]))) m:=fun e3 e4=>Zz (Zb rfl) (Zc _) (ZdO _ _)
  have e2:∀ e3 e4,ev (cf (n + 2)) gv (.cmp .In (.var 2) (.tup (.cons (.con (.str [105,115])) (.cons (.con (.str [98,121])) .nil)))) [some (.t (wl ws)),some (.t (.int (i:Int))),some (.t (.str (wat ws i))),e3,e4] m = .ok (.t (.bl (wat ws i == [105,115] || wat ws i == [98,121]))) m:=fun e3 e4 =>
    Zz (Zb rfl) (Zj (Zc _) (Zc _)) (by rw [ZdB,Bool.beq_comm (a:=wat ws i),Bool.beq_comm (a:=wat ws i)])
  have p1:∀ (d:Int) (j:Nat) e2 e3 e4,(i:Int) + d=(j:Int)→ev (cf (n + 2)) gv (.bin .Add (.var 1) (.con (.int d))) [some (.t (wl ws)),some (.t (.int (i:Int))),e2,e3,e4] m = .ok (.t (.int (j:Int))) m:=fun d j e2 e3 e4 h=>by rw [ZL rfl,h]
  unfold Qo
  rw [h0]
  unfold QM
  cases q1:wat ws i == [97,110,121] with
  | true =>
    rw [if_pos rfl]
    have e1:=e1 none none
    rw [q1] at e1
    refine ⟨[],?_⟩
    rw [List.append_nil]
    exact Z8 e1 (Zi (Zj (ZaB (Zb rfl)) (p1 1 _ _ _ _ (by omega))))
  | false =>
    rw [if_neg (by simp)]
    have e1:=e1 none none
    rw [q1] at e1
    rw [Zo e1]
    have e2:=e2 none none
    cases q2:(wat ws i == [105,115] || wat ws i == [98,121]) with
    | true =>
      rw [q2] at e2
      rw [if_pos rfl]
      cases q3:JQ (wat ws (i + 1)) with
      | true =>
        rw [if_pos rfl]
        refine ⟨[],?_⟩
        rw [List.append_nil]
        exact Z8 e2 (Zi (Zj (Zj (Zb rfl) ((Zk (Zb rfl) (p1 1 (i + 1) _ _ _ (by omega))).trans (Xg rfl (hf.at _) q3))) (p1 2 _ _ _ _ (by omega))))
      | false =>
        rw [if_neg (by simp)]
        refine ⟨[],?_⟩
        rw [List.append_nil]
        exact Xc e2 (ZbB (Ze1 (Ze0 (Zb rfl) ((Zk (Zb rfl) (p1 1 (i + 1) _ _ _ (by omega))).trans (Zdr rfl (hf.at _) q3)))))
    | false =>
      rw [q2] at e2
      rw [if_neg (by simp),Zo e2]
      cases q3:JQ (wat ws i) with
      | false =>
        rw [if_neg (by simp)]
        refine ⟨[],?_⟩
        rw [List.append_nil]
        exact Zhu ((Zk (Zb rfl) (Zb rfl)).trans (Zdr rfl (hf.at _) q3))
      | true =>
        rw [if_pos rfl]
        rw [ZJ ((Zk (Zb rfl) (Zb rfl)).trans (Xg rfl (hf.at _) q3))]
        dsimp only [List.set_cons_succ,List.set_cons_zero]
        rw [ZJ ((Zk (Zb rfl) (p1 1 (i + 1) _ _ _ (by omega))).trans (ZQ rfl))]
        dsimp only [List.set_cons_succ,List.set_cons_zero]
        have hl:=Zgq (wat ws (i + 1))
        cases q4:signOf (wat ws (i + 1)) with
        | none =>
          rw [q4] at hl
          refine ⟨[],?_⟩
          rw [List.append_nil]
          exact Xc (Zhw (b:=true) (Zb rfl) X6 (by show ((some (Sum.inr _)).map _)=_; rw [Option.map_some,hl]; rfl)) (ZaA (p1 1 (i + 1) _ _ _ (by omega)))
        | some sg =>
          rw [q4] at hl
          rw [Zo (Zhw (b:=false) (Zb rfl) X6 (by show ((some (Sum.inr _)).map _)=_; rw [Option.map_some,hl]; rfl))]
          have hg:∀ e2 e3,ev (cf (n + 2)) gv (.gdg 11 (.var 4)) [some (.t (wl ws)),some (.t (.int (i:Int))),e2,e3,some (.t (.str (wat ws (i + 1))))] m = .ok (.t (.str sg)) m:=fun e2 e3=>Zjr (Zb rfl) X6 hl
          dsimp only
          cases q5:figB (wat ws (i + 2)) with
          | true =>
            rw [if_pos rfl]
            refine ⟨[],?_⟩
            rw [List.append_nil]
            exact Zi (Zj (Zep (hg _ _) (Zb rfl) ((Zk (Zb rfl) (p1 2 (i + 2) _ _ _ (by omega))).trans (ZaN rfl q5))) (p1 3 _ _ _ _ (by omega)))
          | false =>
            rw [if_neg (by simp)]
            refine ⟨[],?_⟩
            rw [List.append_nil]
            exact ZbB (Ze1 (ZiX (hg _ _) (Zb rfl) ((Zk (Zb rfl) (p1 2 (i + 2) _ _ _ (by omega))).trans (Zef rfl (hf.at _) q5))))
noncomputable def Jof (s:List Nat) (P:T→List (List Nat)→Prop) (t:T) (ws:List (List Nat)):Prop :=
  P t ws∨∃ (q:T×List (List Nat)) (qs:List (T×List (List Nat))),qs≠[]∧P q.1 q.2∧(∀ p∈qs,P p.1 p.2)∧t = .tup [.str s,.tup (q.1 :: qs.map (·.1))]∧ws=q.2++qs.flatMap fun p=>s :: p.2
noncomputable def G1:Nat→T→List (List Nat)→Prop
  | 0=>LeafW
  | k + 1=>fun t ws=>LeafW t ws∨(∃ t' ws',G1 k t' ws'∧t = .tup [.str [110,111,116],t']∧ws=[110,111,116] :: ws')∨∃ ws',Jof [111,114] (Jof [97,110,100] (G1 k)) t ws'∧ws=[40] :: (ws'++[[41]])
noncomputable abbrev GA (k:Nat):=Jof [97,110,100] (G1 k)
noncomputable abbrev GO (k:Nat):=Jof [111,114] (GA k)
theorem Zck {c:Env→Mem→Res Bool} {f:Env→Mem→Res Flow} {n:Nat} {env env':Env} {m m1 m2:Mem} (h1:c env m = .ok true m1) (h2:f env m1 = .ok (.next env') m2):QH c f (n + 1) env m=QH c f n env' m2:=by
  rw [QH,h1]
  show (f env m1).bind _=_
  rw [h2]; rfl
theorem Zcl {c:Env→Mem→Res Bool} {f:Env→Mem→Res Flow} {n:Nat} {env:Env} {m m1:Mem} (h1:c env m = .ok false m1):QH c f (n + 1) env m = .ok (.next env) m1:=by
  rw [QH,h1]; rfl
theorem ZkT {m:Mem} {ts:List T} {t:T} (hl:ts.length < lim):doM .append (.c m.length) [.t t] (m++[some (false,ts)]) = .ok (.t .non) (m++[some (false,ts++[t])]):=by
  have hg:(m++[some (false,ts)])[m.length]? = some (some (false,ts)):=by rw [List.getElem?_append_right (Nat.le_refl _),Nat.sub_self]; rfl
  unfold doM
  dsimp only
  rw [Xu,Xr,Zf,Zf,hg]
  dsimp only
  unfold mutM
  dsimp only
  rw [if_pos hl]
  dsimp only
  rw [List.set_append_right _ _ (Nat.le_refl _),Nat.sub_self]
  rfl
theorem ZeW {m:Mem} {c:Option (Bool×List T)}:(m++[c])[m.length]? = some c:=by rw [List.getElem?_append_right (Nat.le_refl _),Nat.sub_self]; rfl
theorem Zhy {call:Nat→List W→Mem→Res W} {gv:List T} {env:Env} {m:Mem} {i j:Nat} {ts:List T} {t:T} (hi:env[i]? = some (some (.c m.length))) (hj:env[j]? = some (some (.t t))) (hl:ts.length < lim):ev call gv (.mth .append (.var i) (.cons (.var j) .nil)) env (m++[some (false,ts)]) = .ok (.t .non) (m++[some (false,ts++[t])]):=by
  rw [ev,Zb hi,Zf]
  rw [show tyM .append (.c m.length) (m++[some (false,ts)])=true by unfold tyM; dsimp only; rw [ZeW]]
  rw [if_pos rfl,evs,Zb hj,Zf,evs,Zf,Zf]
  exact ZkT hl
theorem Q3 {call:Nat→List W→Mem→Res W} {gv:List T} {env:Env} {m m1 m2 m3 m4:Mem} {f:Nat} {a b c d:E} {w w1 w2 w3:W} (h1:ev call gv a env m = .ok w m1) (h2:ev call gv b env m1 = .ok w1 m2) (h3:ev call gv c env m2 = .ok w2 m3) (h4:ev call gv d env m3 = .ok w3 m4):ev call gv (.call f (.cons a (.cons b (.cons c (.cons d .nil))))) env m=call f [w,w1,w2,w3] m4:=by
  simp only [ev,evs,h1,h2,h3,h4,Zf]
section
variable {N:Nat} {s:List Nat} {rest:List T} {P:T→List (List Nat)→Prop} {I:List Nat→Prop} {wi:Int}
noncomputable def Reads (N:Nat) (rest:List T) (wi:Int) (P:T→List (List Nat)→Prop) (I:List Nat→Prop):Prop :=
  ∀ (m:Mem) (t:T) (pre mid post:List (List Nat)) (b:Int),P t mid→mid.length < 900000→I (wat post 0)→b=(pre.length:Int)→cf N 16 [.t (wl (pre++mid++post)),.t (.int b),.t (.int wi),.t (.tup rest)] m = .ok (.t (.tup [t,.int ((pre.length + mid.length:Nat):Int)])) m
theorem Jd (s:List Nat) (rest:List T):slT (.tup (.str s :: rest)) (some 1) none=some (.tup rest):=by
  show some (T.tup (cut (T.str s :: rest) (some 1) none))=_
  simp only [cut,Zes,List.length_cons]
  rw [if_neg (by decide),show min (1:Int).toNat (rest.length + 1)=1 by simp]
  simp
theorem wat_app {a b:List (List Nat)} (h:a≠[]):wat (a++b) 0=wat a 0:=by
  cases a with
  | nil=>exact absurd rfl h
  | cons x r=>rfl
theorem Zg0 (hs:I s) {qs:List (T×List (List Nat))} {post:List (List Nat)} (hI:I (wat post 0)):I (wat ((qs.flatMap fun p=>s :: p.2)++post) 0):=by
  cases qs with
  | nil=>exact hI
  | cons q qs=>exact hs
theorem join_loop (R:Reads (N + 1) rest wi P I) (hs:I s) {W0:List (List Nat)} {e1:Option W} {m:Mem}:∀ (qs:List (T×List (List Nat))) (f:Nat) (ts:List T) (t:T) (pre:List (List Nat)) (post:List (List Nat)) (b:Int),qs.length < f→ts.length + qs.length < 1000000→(qs.flatMap fun p=>s :: p.2).length < 900000→W0=pre++(qs.flatMap fun p=>s :: p.2)++post→b=(pre.length:Int)→(∀ p∈qs,P p.1 p.2)→(wat post 0 == s)=false→I (wat post 0) →
    QH (fun env m=>(ev (cf (N + 1)) gv (.cmp .Eq (.call 11 (.cons (.var 0) (.cons (.var 5) .nil))) (.ix (.var 3) (.con (.int 0)))) env m).bind Qa) (fun env m=>ex (cf (N + 1)) gv Zn env m) f
      [some (.t (wl W0)),e1,some (.t (.int wi)),some (.t (.tup (.str s :: rest))),some (.t t),some (.t (.int b)),some (.c m.length)] (m++[some (false,ts)]) =
    .ok (.next [some (.t (wl W0)),e1,some (.t (.int wi)),some (.t (.tup (.str s :: rest))),some (.t ((qs.map (·.1)).getLastD t)),some (.t (.int ((pre.length + (qs.flatMap fun p=>s :: p.2).length:Nat):Int))),some (.c m.length)]) (m++[some (false,ts++qs.map (·.1))]):=by
  have cond:∀ {i:Nat} {b:Int} {t:T} {ts:List T} {k:Bool},b=(i:Int)→(wat W0 i == s)=k→(ev (cf (N + 1)) gv (.cmp .Eq (.call 11 (.cons (.var 0) (.cons (.var 5) .nil))) (.ix (.var 3) (.con (.int 0)))) [some (.t (wl W0)),e1,some (.t (.int wi)),some (.t (.tup (.str s :: rest))),some (.t t),some (.t (.int b)),some (.c m.length)] (m++[some (false,ts)])).bind Qa = .ok k (m++[some (false,ts)]):=fun {i b t ts k} hb hk=>by
    have h0:ixT (.tup (.str s :: rest)) (.int 0)=some (.str s):=at0 _ _
    rw [Zz ((Zk (Zb rfl) (Zb rfl)).trans (ZQ hb)) (ZcF (Zb rfl) (Zc _) h0) (by rw [ZdO,hk])]
    rfl
  intro qs
  induction qs with
  | nil =>
    intro f ts t pre post b hf hl hz hW hb hq hn hI
    obtain ⟨f,rfl⟩:∃ g,f=g + 1:=⟨f - 1,by simp at hf; omega⟩
    have hw:wat W0 pre.length=wat post 0:=by rw [hW]; exact ZjE (mid:=[]) (by simp)
    rw [Zcl (cond hb (by rw [hw]; exact hn))]
    subst hb
    simp
  | cons q qs ih =>
    intro f ts t pre post b hf hl hz hW hb hq hn hI
    obtain ⟨f,rfl⟩:∃ g,f=g + 1:=⟨f - 1,by simp at hf; omega⟩
    rw [List.length_cons] at hf hl
    have hW1:W0=(pre++[s])++q.2++((qs.flatMap fun p=>s :: p.2)++post):=by rw [hW]; simp
    have hW2:W0=(pre++s :: q.2)++(qs.flatMap fun p=>s :: p.2)++post:=by rw [hW]; simp
    have hw:wat W0 pre.length=s:=by
      rw [hW]
      simp [wat]
    have hr:=R (m++[some (false,ts)]) q.1 (pre++[s]) q.2 ((qs.flatMap fun p=>s :: p.2)++post) (b + 1) (hq q List.mem_cons_self) (by simp at hz; omega) (Zg0 hs hI) (by rw [hb]; simp)
    rw [← hW1] at hr
    have hbody:ex (cf (N + 1)) gv Zn [some (.t (wl W0)),e1,some (.t (.int wi)),some (.t (.tup (.str s :: rest))),some (.t t),some (.t (.int b)),some (.c m.length)] (m++[some (false,ts)]) =
        .ok (.next [some (.t (wl W0)),e1,some (.t (.int wi)),some (.t (.tup (.str s :: rest))),some (.t q.1),some (.t (.int (((pre++[s]).length + q.2.length:Nat):Int))),some (.c m.length)]) (m++[some (false,ts++[q.1])]):=by
      unfold Zn
      rw [JV ((Q3 (Zb rfl) (ZL rfl) (Zb rfl) (ZaC (Zb rfl) (Zc _) (Jd s rest))).trans hr)]
      dsimp only [List.set_cons_succ,List.set_cons_zero]
      rw [Zht (Zhy rfl rfl (by unfold lim; omega)),ex]
    rw [Zck (cond hb (by rw [hw]; simp)) hbody]
    rw [ih f (ts++[q.1]) q.1 (pre++s :: q.2) post _ (by omega) (by rw [List.length_append,List.length_singleton]; omega) (by rw [List.flatMap_cons,List.length_append] at hz; omega) hW2 (by simp; omega) (fun p hp=>hq p (List.mem_cons_of_mem _ hp)) hn hI]
    have e1:(q :: qs).map (·.1)=q.1 :: qs.map (·.1):=rfl
    rw [e1,List.getLastD_cons]
    congr 3
    · congr 7
      congr 2
      simp
      omega
    · simp
theorem Zhq (s:List Nat):∀ qs:List (T×List (List Nat)),qs.length≤(qs.flatMap fun p=>s :: p.2).length
  | []=>by simp
  | q :: qs=>by
    have:=Zhq s qs
    rw [List.flatMap_cons,List.length_append,List.length_cons,List.length_cons]
    omega
theorem Za8 {call:Nat→List W→Mem→Res W} {gv:List T} {env:Env} {m:Mem} {i:Nat} {ts:List T} {bb:B} {r:T} (hi:env[i]? = some (some (.c m.length))) (hr:bltT bb [.lst ts]=some r):ev call gv (.blt bb (.cons (.var i) .nil)) env (m++[some (false,ts)]) = .ok (.t r) (m++[some (false,ts)]) :=
  ev_blt (ZbT (Zb hi) ZdE) (show views [.c m.length] (m++[some (false,ts)])=some [.lst ts] by unfold views views view; dsimp only; rw [ZeW]; rfl) hr
theorem joined_ok' (R:Reads (N + 1) rest wi P I) (hs:I s):Reads (N + 2) (.str s :: rest) wi (Jof s P) (fun w=>I w∧(w == s)=false):=by
  intro m t pre mid post b h hlen hI hb
  obtain ⟨q,qs,hP,hPs,ht,hm⟩:∃ (q:T×List (List Nat)) (qs:List (T×List (List Nat))),P q.1 q.2∧(∀ p∈qs,P p.1 p.2)∧t=(if qs=[] then q.1 else .tup [.str s,.tup (q.1 :: qs.map (·.1))])∧mid=q.2++qs.flatMap fun p=>s :: p.2:=by
    rcases h with h | ⟨q,qs,h0,h1,h2,h3,h4⟩
    · exact ⟨(t,mid),[],h,by simp⟩
    · exact ⟨q,qs,h1,h2,by rw [if_neg h0]; exact h3,h4⟩
  have hq:=Zhq s qs
  have hl2:q.2.length + (qs.flatMap fun p=>s :: p.2).length < 900000:=by rw [hm,List.length_append] at hlen; exact hlen
  have hW1:pre++mid++post=pre++q.2++((qs.flatMap fun p=>s :: p.2)++post):=by rw [hm]; simp
  have hW2:pre++mid++post=(pre++q.2)++(qs.flatMap fun p=>s :: p.2)++post:=by rw [hm]; simp
  have key:ex (cf (N + 1)) gv ZW [some (.t (wl (pre++mid++post))),some (.t (.int b)),some (.t (.int wi)),some (.t (.tup (.str s :: rest))),none,none,none] m = .ok (.ret (.t (.tup [t,.int ((pre.length + mid.length:Nat):Int)]))) (m++[some (false,q.1 :: qs.map (·.1))]):=by
    unfold ZW
    rw [Zo (m1:=m) (Zz (k:=false) (QV (Zb rfl) (ZiP _)) (Zc _) (by rw [ZdP]; simp; omega))]
    have hr:=R m q.1 pre q.2 ((qs.flatMap fun p=>s :: p.2)++post) b hP (by omega) (Zg0 hs hI.1) hb
    rw [← hW1] at hr
    rw [JV ((Q3 (Zb rfl) (Zb rfl) (Zb rfl) (ZaC (Zb rfl) (Zc _) (Jd s rest))).trans hr)]
    dsimp only [List.set_cons_succ,List.set_cons_zero]
    rw [ZJ (show ev (cf (N + 1)) gv (.cel (.cons (.var 4) .nil)) _ m = .ok (.c m.length) (m++[some (false,[q.1])]) by rw [ev,ZbT (Zb rfl) ZdE,Zf,Xu,Xr,Zf,Zf,if_pos (by simp [lim])])]
    dsimp only [List.set_cons_succ,List.set_cons_zero]
    rw [ex,join_loop R hs (W0:=pre++mid++post) qs turns [q.1] q.1 (pre++q.2) post _ (by unfold turns; omega) (by simp; omega) (by omega) hW2 (by simp) hPs hI.2 hI.1,Zf]
    dsimp only
    have hlast:((pre++q.2).length + (qs.flatMap fun p=>s :: p.2).length:Nat)=pre.length + mid.length:=by rw [hm]; simp; omega
    rw [hlast]
    have hc:∀ e4:Option W,ev (cf (N + 1)) gv (.cmp .Eq (.blt .len (.cons (.var 6) .nil)) (.con (.int 1))) [some (.t (wl (pre++mid++post))),some (.t (.int b)),some (.t (.int wi)),some (.t (.tup (.str s :: rest))),e4,some (.t (.int ((pre.length + mid.length:Nat):Int))),some (.c m.length)] (m++[some (false,[q.1]++qs.map (·.1))]) = .ok (.t (.bl qs.isEmpty)) (m++[some (false,[q.1]++qs.map (·.1))]):=fun e4=>by
      refine Zz (Za8 rfl (Zek _)) (Zc _) ?_
      rw [ZdP]
      cases qs with
      | nil=>rfl
      | cons q' qs =>
        refine congrArg some ?_
        show ((([q.1]++q'.1 :: qs.map (·.1)).length:Int) == 1)=false
        rw [List.length_append,List.length_cons,List.length_cons,beq_eq_false_iff_ne]
        simp only [List.length_nil]
        omega
    cases qs with
    | nil =>
      rw [Z8 (hc _) (Zi (Zj (Zb rfl) (Zb rfl)))]
      subst ht
      rfl
    | cons q' qs =>
      rw [Zo (hc _)]
      have h0:ixT (.tup (.str s :: rest)) (.int 0)=some (.str s):=at0 _ _
      rw [Zi (Zj (Zj (ZcF (Zb rfl) (Zc _) h0) (Za8 rfl (Zg9 _))) (Zb rfl))]
      rw [ht,if_neg (by simp)]
      rfl
  refine Qu (Jw _ _ _) rfl key ?_
  show Res.ok _ ((m++[_]).take m.length)=_
  rw [List.take_left]
end
noncomputable def JN:List T:=[.str [111,114],.str [97,110,100]]
theorem Zdq (w a b:List Nat):cmpT .NotIn (.str w) (.tup [.str a,.str b])=some (!(a == w || b == w)):=by
  show (inT (.str w) (.tup [.str a,.str b])).map (!·)=_
  rw [show inT (.str w) (.tup [.str a,.str b])=some (a == w || b == w) from ZdB w a b]
  rfl
noncomputable def Jg (s:List Nat) (f:Nat→Rd) (ws:List (List Nat)):Nat→List T→Nat→Except Nat (List T×Nat)
  | 0,acc,b=>.ok (acc,b)
  | n + 1,acc,b=>if wat ws b == s then (match f (b + 1) with
    | .error e=>.error e
    | .ok p=>Jg s f ws n (acc++[p.1]) p.2) else .ok (acc,b)
noncomputable def ZkF (s:List Nat):List T→T
  | [t]=>t
  | acc=>.tup [.str s,.tup acc]
noncomputable def Qt (s:List Nat) (f:Nat→Rd) (ws:List (List Nat)) (i:Nat):Rd:=match f i with
  | .error e=>.error e
  | .ok p=>match Jg s f ws ws.length [p.1] p.2 with
    | .error e=>.error e
    | .ok q=>.ok (ZkF s q.1,q.2)
noncomputable def Qn:Nat→List (List Nat)→Nat→Rd
  | 0,ws,i=>if wat ws i == [110,111,116] || wat ws i == [40] then .error i else QM ws i
  | k + 1,ws,i=>if wat ws i == [110,111,116] || wat ws i == [40] then
      (if wat ws i == [110,111,116] then (match Qn k ws (i + 1) with
        | .error e=>.error e
        | .ok p=>.ok (.tup [.str [110,111,116],p.1],p.2))
      else (match Qt [111,114] (Qt [97,110,100] (Qn k ws) ws) ws (i + 1) with
        | .error e=>.error e
        | .ok p=>if wat ws p.2 == [41] then .ok (p.1,p.2 + 1) else .error p.2))
    else QM ws i
noncomputable abbrev Zie (k:Nat) (ws:List (List Nat)):Nat→Rd:=Qt [97,110,100] (Qn k ws) ws
noncomputable abbrev rdOr (k:Nat) (ws:List (List Nat)):Nat→Rd:=Qt [111,114] (Zie k ws) ws
noncomputable def Adv (f:Nat→Rd):Prop:=∀ i p,f i = .ok p→i < p.2
theorem ZdV (ws:List (List Nat)):Adv (QM ws):=by
  intro i p h
  unfold QM at h
  split at h
  · cases h; exact Nat.lt_succ_self _
  · split at h
    · split at h
      · cases h; show i < i + 2; omega
      · cases h
    · split at h
      · split at h
        · cases h
        · split at h
          · cases h; show i < i + 3; omega
          · cases h
      · cases h
theorem Zjc {s:List Nat} {f:Nat→Rd} {ws:List (List Nat)} (hf:Adv f):∀ (n:Nat) (acc:List T) (b:Nat) (q:List T×Nat),Jg s f ws n acc b = .ok q→b≤q.2:=by
  intro n
  induction n with
  | zero=>intro acc b q h; cases h; exact Nat.le_refl _
  | succ n ih =>
    intro acc b q h
    rw [Jg] at h
    split at h
    · split at h
      · cases h
      · rename_i p hp
        have h1:=hf _ _ hp
        have h2:=ih _ _ _ h
        omega
    · cases h; exact Nat.le_refl _
theorem ZcN {s:List Nat} {f:Nat→Rd} {ws:List (List Nat)} (hf:Adv f):Adv (Qt s f ws):=by
  intro i p h
  unfold Qt at h
  split at h
  · cases h
  · rename_i p1 h1
    split at h
    · cases h
    · rename_i q h2
      cases h
      have:=hf _ _ h1
      have:=Zjc hf _ _ _ _ h2
      show i < q.2
      omega
theorem ZhU (ws:List (List Nat)):∀ k,Adv (Qn k ws):=by
  intro k
  induction k with
  | zero =>
    intro i p h
    rw [Qn] at h
    split at h
    · cases h
    · exact ZdV ws i p h
  | succ k ih =>
    intro i p h
    rw [Qn] at h
    split at h
    · split at h
      · split at h
        · cases h
        · rename_i p1 h1
          cases h
          have:=ih _ _ h1
          show i < p1.2
          omega
      · split at h
        · cases h
        · rename_i p1 h1
          split at h
          · cases h
            have:=ZcN (ZcN ih) _ _ h1
            show i < p1.2 + 1
            omega
          · cases h
    · exact ZdV ws i p h
section
variable {N:Nat} {s:List Nat} {rest:List T} {wi:Int} {ws:List (List Nat)} {f:Nat→Rd}
noncomputable def RJ (N:Nat) (rest:List T) (wi:Int) (ws:List (List Nat)) (f:Nat→Rd):Prop :=
  ∀ (m:Mem) (i:Nat) (b:Int),b=(i:Int)→Back (f i) m (cf N 16 [.t (wl ws),.t (.int b),.t (.int wi),.t (.tup rest)] m)
noncomputable def RO (N:Nat) (wi:Int) (ws:List (List Nat)) (f:Nat→Rd):Prop :=
  ∀ (m:Mem) (i:Nat) (b:Int),b=(i:Int)→Back (f i) m (cf N 15 [.t (wl ws),.t (.int b),.t (.int wi)] m)
theorem ev_appX {m:Mem} {env:Env} {i j:Nat} {ts:List T} {t:T} (hi:env[i]? = some (some (.c m.length))) (hj:env[j]? = some (some (.t t))) (hl:ts.length < lim):ev (cf N) gv (.mth .append (.var i) (.cons (.var j) .nil)) env (m++[some (false,ts)]) = .ok (.t .non) (m++[some (false,ts++[t])]):=Zhy hi hj hl
theorem Zgc {i:Nat} (h:ws.length≤i):wat ws i=[]:=by simp [wat,List.getElem?_eq_none h]
theorem loop_x (R:RJ (N + 1) rest wi ws f) (hf:Adv f) (hs:s≠[]) {e1:Option W} {m:Mem}:∀ (n fu:Nat) (acc:List T) (t:T) (b:Nat),acc.getLast? = some t→ws.length≤n + b→n < fu→acc.length + n < 1000000 →
    match Jg s f ws n acc b with
    | .ok q=>∃ t',q.1.getLast? = some t'∧q.1≠[]∧QH (fun env m=>(ev (cf (N + 1)) gv (.cmp .Eq (.call 11 (.cons (.var 0) (.cons (.var 5) .nil))) (.ix (.var 3) (.con (.int 0)))) env m).bind Qa) (fun env m=>ex (cf (N + 1)) gv Zn env m) fu
        [some (.t (wl ws)),e1,some (.t (.int wi)),some (.t (.tup (.str s :: rest))),some (.t t),some (.t (.int (b:Int))),some (.c m.length)] (m++[some (false,acc)]) =
        .ok (.next [some (.t (wl ws)),e1,some (.t (.int wi)),some (.t (.tup (.str s :: rest))),some (.t t'),some (.t (.int (q.2:Int))),some (.c m.length)]) (m++[some (false,q.1)])
    | .error e=>∃ x,QH (fun env m=>(ev (cf (N + 1)) gv (.cmp .Eq (.call 11 (.cons (.var 0) (.cons (.var 5) .nil))) (.ix (.var 3) (.con (.int 0)))) env m).bind Qa) (fun env m=>ex (cf (N + 1)) gv Zn env m) fu
        [some (.t (wl ws)),e1,some (.t (.int wi)),some (.t (.tup (.str s :: rest))),some (.t t),some (.t (.int (b:Int))),some (.c m.length)] (m++[some (false,acc)]) = .exc (noT e) (m++x):=by
  have cond:∀ {b:Nat} {t:T} {ts:List T},(ev (cf (N + 1)) gv (.cmp .Eq (.call 11 (.cons (.var 0) (.cons (.var 5) .nil))) (.ix (.var 3) (.con (.int 0)))) [some (.t (wl ws)),e1,some (.t (.int wi)),some (.t (.tup (.str s :: rest))),some (.t t),some (.t (.int (b:Int))),some (.c m.length)] (m++[some (false,ts)])).bind Qa = .ok (wat ws b == s) (m++[some (false,ts)]):=fun {b t ts}=>by
    have h0:ixT (.tup (.str s :: rest)) (.int 0)=some (.str s):=at0 _ _
    rw [Zz ((Zk (Zb rfl) (Zb rfl)).trans (ZQ rfl)) (ZcF (Zb rfl) (Zc _) h0) (ZdO _ _)]
    rfl
  have ne:∀ {acc:List T} {t:T},acc.getLast? = some t→acc≠[]:=fun {acc t} h z=>by rw [z] at h; cases h
  intro n
  induction n with
  | zero =>
    intro fu acc t b ht hb hfu hl
    obtain ⟨fu,rfl⟩:∃ g,fu=g + 1:=⟨fu - 1,by omega⟩
    have hw:(wat ws b == s)=false:=by
      rw [Zgc (by omega)]
      exact beq_eq_false_iff_ne.mpr (Ne.symm hs)
    have c1:=cond (b:=b) (t:=t) (ts:=acc)
    rw [hw] at c1
    exact ⟨t,ht,ne ht,Zcl c1⟩
  | succ n ih =>
    intro fu acc t b ht hb hfu hl
    obtain ⟨fu,rfl⟩:∃ g,fu=g + 1:=⟨fu - 1,by omega⟩
    rw [Jg]
    have c1:=cond (b:=b) (t:=t) (ts:=acc)
    cases hw:wat ws b == s with
    | false =>
      rw [hw] at c1
      rw [if_neg (by simp)]
      exact ⟨t,ht,ne ht,Zcl c1⟩
    | true =>
      rw [hw] at c1
      rw [if_pos rfl]
      have hr:=R (m++[some (false,acc)]) (b + 1) ((b:Int) + 1) (by omega)
      cases hq:f (b + 1) with
      | error e =>
        rw [hq] at hr
        obtain ⟨x,hr⟩:=hr
        refine ⟨[some (false,acc)]++x,?_⟩
        rw [QH,c1]
        show (ex (cf (N + 1)) gv Zn _ _).bind _=_
        rw [show ex (cf (N + 1)) gv Zn [some (.t (wl ws)),e1,some (.t (.int wi)),some (.t (.tup (.str s :: rest))),some (.t t),some (.t (.int (b:Int))),some (.c m.length)] (m++[some (false,acc)]) = .exc (noT e) (m++[some (false,acc)]++x) by
          unfold Zn
          exact Zab ((Q3 (Zb rfl) (ZL rfl) (Zb rfl) (ZaC (Zb rfl) (Zc _) (Jd s rest))).trans hr)]
        rw [List.append_assoc]
        rfl
      | ok p =>
        rw [hq] at hr
        have hr:_=_:=hr
        have hadv:=hf _ _ hq
        have hbody:ex (cf (N + 1)) gv Zn [some (.t (wl ws)),e1,some (.t (.int wi)),some (.t (.tup (.str s :: rest))),some (.t t),some (.t (.int (b:Int))),some (.c m.length)] (m++[some (false,acc)]) =
            .ok (.next [some (.t (wl ws)),e1,some (.t (.int wi)),some (.t (.tup (.str s :: rest))),some (.t p.1),some (.t (.int (p.2:Int))),some (.c m.length)]) (m++[some (false,acc++[p.1])]):=by
          unfold Zn
          rw [JV ((Q3 (Zb rfl) (ZL rfl) (Zb rfl) (ZaC (Zb rfl) (Zc _) (Jd s rest))).trans hr)]
          dsimp only [List.set_cons_succ,List.set_cons_zero]
          rw [Zht (Zhy rfl rfl (by unfold lim; omega)),ex]
        have h2:=ih fu (acc++[p.1]) p.1 p.2 (by simp) (by omega) (by omega) (by rw [List.length_append,List.length_singleton]; omega)
        show match Jg s f ws n (acc++[p.1]) p.2 with
          | .ok q=>_
          | .error e=>_
        cases hl2:Jg s f ws n (acc++[p.1]) p.2 with
        | ok q =>
          rw [hl2] at h2
          obtain ⟨t',h3,h4,h5⟩:=h2
          exact ⟨t',h3,h4,(Zck c1 hbody).trans h5⟩
        | error e =>
          rw [hl2] at h2
          obtain ⟨x,h5⟩:=h2
          exact ⟨x,(Zck c1 hbody).trans h5⟩
theorem Zjm (R:RJ (N + 1) rest wi ws f) (hf:Adv f) (hs:s≠[]) (hl:ws.length < 900000):RJ (N + 2) (.str s :: rest) wi ws (Qt s f ws):=by
  intro m i b hb
  refine Back.fn (Jw _ _ _) rfl (env:=[some (.t (wl ws)),some (.t (.int b)),some (.t (.int wi)),some (.t (.tup (.str s :: rest))),none,none,none]) ?_
  have hr:=R m i b hb
  have h0:∀ k,ex (cf (N + 1)) gv (.ife (.cmp .Eq (.blt .len (.cons (.var 3) .nil)) (.con (.int 0))) (.ret (.call 15 (.cons (.var 0) (.cons (.var 1) (.cons (.var 2) .nil)))) .done) .done k) [some (.t (wl ws)),some (.t (.int b)),some (.t (.int wi)),some (.t (.tup (.str s :: rest))),none,none,none] m=ex (cf (N + 1)) gv k [some (.t (wl ws)),some (.t (.int b)),some (.t (.int wi)),some (.t (.tup (.str s :: rest))),none,none,none] m:=fun k =>
    Zo (m1:=m) (Zz (k:=false) (QV (Zb rfl) (ZiP _)) (Zc _) (by rw [ZdP]; simp; omega))
  unfold ZW
  rw [h0]
  unfold Qt
  cases hq:f i with
  | error e =>
    rw [hq] at hr
    obtain ⟨x,hr⟩:=hr
    exact ⟨x,Zab ((Q3 (Zb rfl) (Zb rfl) (Zb rfl) (ZaC (Zb rfl) (Zc _) (Jd s rest))).trans hr)⟩
  | ok p =>
    rw [hq] at hr
    have hr:_=_:=hr
    rw [JV ((Q3 (Zb rfl) (Zb rfl) (Zb rfl) (ZaC (Zb rfl) (Zc _) (Jd s rest))).trans hr)]
    dsimp only [List.set_cons_succ,List.set_cons_zero]
    rw [ZJ (show ev (cf (N + 1)) gv (.cel (.cons (.var 4) .nil)) _ m = .ok (.c m.length) (m++[some (false,[p.1])]) by rw [ev,ZbT (Zb rfl) ZdE,Zf,Xu,Xr,Zf,Zf,if_pos (by simp [lim])])]
    dsimp only [List.set_cons_succ,List.set_cons_zero]
    have hlp:=loop_x (e1:=some (.t (.int b))) (m:=m) R hf hs ws.length turns [p.1] p.1 p.2 rfl (by omega) (by unfold turns; omega) (by simp; omega)
    rw [ex]
    cases hq2:Jg s f ws ws.length [p.1] p.2 with
    | error e =>
      rw [hq2] at hlp
      obtain ⟨x,hlp⟩:=hlp
      exact ⟨x,by rw [hlp]; rfl⟩
    | ok q =>
      rw [hq2] at hlp
      obtain ⟨t',h1,h2,hlp⟩:=hlp
      refine ⟨[some (false,q.1)],?_⟩
      rw [hlp,Zf]
      dsimp only
      have hc:ev (cf (N + 1)) gv (.cmp .Eq (.blt .len (.cons (.var 6) .nil)) (.con (.int 1))) [some (.t (wl ws)),some (.t (.int b)),some (.t (.int wi)),some (.t (.tup (.str s :: rest))),some (.t t'),some (.t (.int (q.2:Int))),some (.c m.length)] (m++[some (false,q.1)]) = .ok (.t (.bl ((q.1.length:Int) == 1))) (m++[some (false,q.1)]) :=
        Zz (Za8 rfl (Zek _)) (Zc _) (ZdP _ _)
      have many:q.1.length≠1→ex (cf (N + 1)) gv (.ife (.cmp .Eq (.blt .len (.cons (.var 6) .nil)) (.con (.int 1))) (.ret (.tup (.cons (.var 4) (.cons (.var 5) .nil))) .done) .done (.ret (.tup (.cons (.tup (.cons (.ix (.var 3) (.con (.int 0))) (.cons (.blt .tuple (.cons (.var 6) .nil)) .nil))) (.cons (.var 5) .nil))) .done)) [some (.t (wl ws)),some (.t (.int b)),some (.t (.int wi)),some (.t (.tup (.str s :: rest))),some (.t t'),some (.t (.int (q.2:Int))),some (.c m.length)] (m++[some (false,q.1)]) = .ok (.ret (.t (.tup [.tup [.str s,.tup q.1],.int (q.2:Int)]))) (m++[some (false,q.1)]):=fun hn=>by
        rw [show ((q.1.length:Int) == 1)=false from by rw [beq_eq_false_iff_ne]; omega] at hc
        rw [Zo hc]
        have h0:ixT (.tup (.str s :: rest)) (.int 0)=some (.str s):=at0 _ _
        exact Zi (Zj (Zj (ZcF (Zb rfl) (Zc _) h0) (Za8 rfl (Zg9 _))) (Zb rfl))
      obtain ⟨ac,bb⟩:=q
      dsimp only at *
      match ac,h1,h2 with
      | [],h1,h2=>exact absurd rfl h2
      | [x],h1,h2 =>
        cases h1
        exact Z8 hc (Zi (Zj (Zb rfl) (Zb rfl)))
      | x :: y :: r,h1,h2=>exact many (by simp)
theorem base_x (R:RO N wi ws f):RJ (N + 1) [] wi ws f:=by
  intro m i b hb
  refine Back.fn (Jw _ _ _) rfl (env:=[some (.t (wl ws)),some (.t (.int b)),some (.t (.int wi)),some (.t (.tup [])),none,none,none]) ?_
  have hr:=R m i b hb
  have hc:ev (cf N) gv (.cmp .Eq (.blt .len (.cons (.var 3) .nil)) (.con (.int 0))) [some (.t (wl ws)),some (.t (.int b)),some (.t (.int wi)),some (.t (.tup [])),none,none,none] m = .ok (.t (.bl true)) m:=Zz (k:=true) (QV (Zb rfl) (ZiP _)) (Zc _) rfl
  unfold ZW
  cases hq:f i with
  | error e =>
    rw [hq] at hr
    obtain ⟨x,hr⟩:=hr
    exact ⟨x,Xc hc (ZbB ((Za5 (Zb rfl) (Zb rfl) (Zb rfl)).trans hr))⟩
  | ok p =>
    rw [hq] at hr
    have hr:_=_:=hr
    exact ⟨[],by rw [List.append_nil]; exact Z8 hc (Zi ((Za5 (Zb rfl) (Zb rfl) (Zb rfl)).trans hr))⟩
theorem or_x (R:RO N wi ws f) (hf:Adv f) (hl:ws.length < 900000):RJ (N + 3) JN wi ws (Qt [111,114] (Qt [97,110,100] f ws) ws) :=
  Zjm (Zjm (base_x R) hf (by simp) hl) (ZcN hf) (by simp) hl
end
section
variable {ws:List (List Nat)}
theorem one_x (hF:Fits ws) (hl:ws.length < 900000):∀ (k n:Nat) (wi:Int),0≤wi→wi + k=12→RO (n + 4 * k + 4) wi ws (Qn k ws):=by
  intro k
  induction k with
  | zero =>
    intro n wi h0 h1 m i b hb
    refine Back.fn (ZbD _ _ _) rfl (env:=[some (.t (wl ws)),some (.t (.int b)),some (.t (.int wi)),none,none,none]) ?_
    have hp:=ZaL (n:=n) (m:=m) hF hb
    have hc:ev (cf (n + 3)) gv (.cmp .NotIn (.var 3) (.tup (.cons (.con (.str [110,111,116])) (.cons (.con (.str [40])) .nil)))) [some (.t (wl ws)),some (.t (.int b)),some (.t (.int wi)),some (.t (.str (wat ws i))),none,none] m = .ok (.t (.bl (!(wat ws i == [110,111,116] || wat ws i == [40])))) m :=
      Zz (Zb rfl) (Zj (Zc _) (Zc _)) (by rw [Zdq,Bool.beq_comm (a:=wat ws i),Bool.beq_comm (a:=wat ws i)])
    unfold Je
    rw [ZJ ((Zk (Zb rfl) (Zb rfl)).trans (ZQ hb))]
    dsimp only [List.set_cons_succ,List.set_cons_zero]
    rw [Qn]
    cases q:(wat ws i == [110,111,116] || wat ws i == [40]) with
    | true =>
      rw [q] at hc
      rw [if_pos rfl,Zo hc]
      refine ⟨[],?_⟩
      rw [List.append_nil]
      subst hb
      exact Xc (m1:=m) (Zz (k:=true) (Zb rfl) (ZdG Xp) (by rw [ZdP]; simp; omega)) (ZaA (Zb rfl))
    | false =>
      rw [q] at hc
      rw [if_neg (by simp)]
      cases hq:QM ws i with
      | error e =>
        rw [hq] at hp
        obtain ⟨x,hp⟩:=hp
        exact ⟨x,Xc hc (ZbB ((Zk (Zb rfl) (Zb rfl)).trans hp))⟩
      | ok p =>
        rw [hq] at hp
        have hp:_=_:=hp
        exact ⟨[],by rw [List.append_nil]; exact Z8 hc (Zi ((Zk (Zb rfl) (Zb rfl)).trans hp))⟩
  | succ k ih =>
    intro n wi h0 h1 m i b hb
    refine Back.fn (ZbD _ _ _) rfl (env:=[some (.t (wl ws)),some (.t (.int b)),some (.t (.int wi)),none,none,none]) ?_
    have hp:=ZaL (n:=n + 4 * (k + 1)) (m:=m) hF hb
    have hc:ev (cf (n + 4 * (k + 1) + 3)) gv (.cmp .NotIn (.var 3) (.tup (.cons (.con (.str [110,111,116])) (.cons (.con (.str [40])) .nil)))) [some (.t (wl ws)),some (.t (.int b)),some (.t (.int wi)),some (.t (.str (wat ws i))),none,none] m = .ok (.t (.bl (!(wat ws i == [110,111,116] || wat ws i == [40])))) m :=
      Zz (Zb rfl) (Zj (Zc _) (Zc _)) (by rw [Zdq,Bool.beq_comm (a:=wat ws i),Bool.beq_comm (a:=wat ws i)])
    have hwi:(wi == 12)=false:=by rw [beq_eq_false_iff_ne]; omega
    unfold Je
    rw [ZJ ((Zk (Zb rfl) (Zb rfl)).trans (ZQ hb))]
    dsimp only [List.set_cons_succ,List.set_cons_zero]
    rw [Qn]
    cases q:(wat ws i == [110,111,116] || wat ws i == [40]) with
    | false =>
      rw [q] at hc
      rw [if_neg (by simp)]
      cases hq:QM ws i with
      | error e =>
        rw [hq] at hp
        obtain ⟨x,hp⟩:=hp
        exact ⟨x,Xc hc (ZbB ((Zk (Zb rfl) (Zb rfl)).trans hp))⟩
      | ok p =>
        rw [hq] at hp
        have hp:_=_:=hp
        exact ⟨[],by rw [List.append_nil]; exact Z8 hc (Zi ((Zk (Zb rfl) (Zb rfl)).trans hp))⟩
    | true =>
      rw [q] at hc
      rw [if_pos rfl,Zo hc]
      rw [Zo (m1:=m) (Zz (k:=false) (Zb rfl) (ZdG Xp) (by rw [ZdP,hwi]))]
      have hn:ev (cf (n + 4 * (k + 1) + 3)) gv (.cmp .Eq (.var 3) (.con (.str [110,111,116]))) [some (.t (wl ws)),some (.t (.int b)),some (.t (.int wi)),some (.t (.str (wat ws i))),none,none] m = .ok (.t (.bl (wat ws i == [110,111,116]))) m:=Zz (Zb rfl) (Zc _) (ZdO _ _)
      cases q2:(wat ws i == [110,111,116]) with
      | true =>
        rw [q2] at hn
        rw [if_pos rfl]
        have hr:=ih (n + 3) (wi + 1) (by omega) (by omega) m (i + 1) (b + 1) (by omega)
        have e0:n + 4 * (k + 1) + 3=n + 3 + 4 * k + 4:=by omega
        rw [e0] at hn ⊢
        cases hq:Qn k ws (i + 1) with
        | error e =>
          rw [hq] at hr
          obtain ⟨x,hr⟩:=hr
          exact ⟨x,Xc hn (Zab ((Za5 (Zb rfl) (ZL rfl) (ZL rfl)).trans hr))⟩
        | ok p =>
          rw [hq] at hr
          have hr:_=_:=hr
          refine ⟨[],?_⟩
          rw [List.append_nil]
          refine Z8 hn ?_
          rw [JV ((Za5 (Zb rfl) (ZL rfl) (ZL rfl)).trans hr)]
          dsimp only [List.set_cons_succ,List.set_cons_zero]
          exact Zi (Zj (Zj (Zc _) (Zb rfl)) (Zb rfl))
      | false =>
        rw [q2] at hn
        rw [if_neg (by simp),Zo hn]
        have hr:=or_x (ih n (wi + 1) (by omega) (by omega)) (ZhU ws k) hl m (i + 1) (b + 1) (by omega)
        have e0:n + 4 * (k + 1) + 3=n + 4 * k + 4 + 3:=by omega
        rw [e0]
        cases hq:Qt [111,114] (Qt [97,110,100] (Qn k ws) ws) ws (i + 1) with
        | error e =>
          rw [hq] at hr
          obtain ⟨x,hr⟩:=hr
          exact ⟨x,Zab ((Q3 (Zb rfl) (ZL rfl) (ZL rfl) (ZdG Za2)).trans hr)⟩
        | ok p =>
          rw [hq] at hr
          have hr:_=_:=hr
          rw [JV ((Q3 (Zb rfl) (ZL rfl) (ZL rfl) (ZdG Za2)).trans hr)]
          dsimp only [List.set_cons_succ,List.set_cons_zero]
          have h3:ev (cf (n + 4 * k + 4 + 3)) gv (.cmp .NotEq (.call 11 (.cons (.var 0) (.cons (.var 5) .nil))) (.con (.str [41]))) [some (.t (wl ws)),some (.t (.int b)),some (.t (.int wi)),some (.t (.str (wat ws i))),some (.t p.1),some (.t (.int (p.2:Int)))] m = .ok (.t (.bl (!(wat ws p.2 == [41])))) m:=Zz ((Zk (Zb rfl) (Zb rfl)).trans (ZQ rfl)) (Zc _) (Zk0 _ _)
          cases q3:(wat ws p.2 == [41]) with
          | true =>
            rw [q3] at h3
            rw [if_pos rfl]
            refine ⟨[],?_⟩
            rw [List.append_nil,Zo h3]
            refine (Zi (Zj (Zb rfl) (ZL rfl))).trans ?_
            congr 6
          | false =>
            rw [q3] at h3
            rw [if_neg (by simp)]
            refine ⟨[],?_⟩
            rw [List.append_nil]
            exact Xc h3 (ZaA (Zb rfl))
end
inductive FitH:T→Prop where
  | str {cs:List Nat}:cs.length≤lim→FitH (.str cs)
  | int (i:Int):FitH (.int i)
  | tup {ts:List T}:(∀ t∈ts,FitH t)→FitH (.tup ts)
theorem FitH.one {x:T} (h:FitH x):fit1 x:=by
  cases h with
  | str _=>exact True.intro
  | int _=>exact True.intro
  | tup h =>
    intro t ht cs e
    have:=h t ht
    rw [e] at this
    cases this with
    | str h=>exact h
theorem FitH.kids {x:T} (h:FitH x):∀ y∈kids x,FitH y:=by
  intro y hy
  unfold My.kids at hy
  split at hy
  · rename_i a b
    cases h with
    | tup h =>
      have hb:=h b (by simp)
      split at hy
      · simp at hy; subst hy; exact hb
      · split at hy
        · cases hb with
          | tup h2=>exact h2 y hy
          | str _=>cases hy
          | int _=>cases hy
        · cases hy
  · cases hy
theorem FitH.lay:∀ (k:Nat) (l:List T),(∀ y∈l,FitH y)→∀ y∈lay k l,FitH y
  | 0,l,h=>h
  | k + 1,l,h=>FitH.lay k (l.flatMap My.kids) fun y hy=>by
    obtain ⟨x,hx,hy⟩:=List.mem_flatMap.mp hy
    exact (h x hx).kids y hy
noncomputable def Good (f:Nat→Rd):Prop:=∀ i p,f i = .ok p→FitH p.1
theorem Zcb {ws:List (List Nat)} (hF:Fits ws):Good (QM ws):=by
  intro i p h
  have two:∀ {a b:T},FitH a→FitH b→FitH (.tup [a,b]):=fun ha hb=>.tup fun t ht=>by
    simp at ht
    rcases ht with rfl | rfl
    · exact ha
    · exact hb
  unfold QM at h
  split at h
  · cases h
    exact .tup fun t ht=>by simp at ht; subst ht; exact .str (hF.at _)
  · split at h
    · split at h
      · cases h
        exact two (.str (hF.at _)) (.str (hF.at _))
      · cases h
    · split at h
      · split at h
        · cases h
        · rename_i sg hsg
          split at h
          · cases h
            refine .tup fun t ht=>?_
            simp at ht
            rcases ht with rfl | rfl | rfl
            · refine .str ?_
              unfold signOf at hsg
              split at hsg
              · cases hsg; decide
              · split at hsg
                · cases hsg; decide
                · cases hsg
            · exact .str (hF.at _)
            · exact .int _
          · cases h
      · cases h
theorem Zhm {s:List Nat} {f:Nat→Rd} {ws:List (List Nat)} (hf:Good f):∀ (n:Nat) (acc:List T) (b:Nat) (q:List T×Nat),(∀ t∈acc,FitH t)→Jg s f ws n acc b = .ok q→∀ t∈q.1,FitH t:=by
  intro n
  induction n with
  | zero=>intro acc b q ha h; cases h; exact ha
  | succ n ih =>
    intro acc b q ha h
    rw [Jg] at h
    split at h
    · split at h
      · cases h
      · rename_i p hp
        refine ih _ _ _ (fun t ht=>?_) h
        rcases List.mem_append.mp ht with ht | ht
        · exact ha t ht
        · simp at ht; subst ht; exact hf _ _ hp
    · cases h; exact ha
theorem X8 {s:List Nat} {f:Nat→Rd} {ws:List (List Nat)} (hs:s.length≤lim) (hf:Good f):Good (Qt s f ws):=by
  intro i p h
  unfold Qt at h
  split at h
  · cases h
  · rename_i p1 h1
    split at h
    · cases h
    · rename_i q h2
      cases h
      have:=Zhm hf _ _ _ _ (fun t ht=>by simp at ht; subst ht; exact hf _ _ h1) h2
      show FitH (ZkF s q.1)
      unfold ZkF
      split
      · rename_i t e; exact this t (by rw [e]; simp)
      · refine .tup fun t ht=>?_
        simp at ht
        rcases ht with rfl | rfl
        · exact .str hs
        · exact .tup this
theorem ZiT {ws:List (List Nat)} (hF:Fits ws):∀ k,Good (Qn k ws):=by
  intro k
  induction k with
  | zero =>
    intro i p h
    rw [Qn] at h
    split at h
    · cases h
    · exact Zcb hF i p h
  | succ k ih =>
    intro i p h
    rw [Qn] at h
    split at h
    · split at h
      · split at h
        · cases h
        · rename_i p1 h1
          cases h
          refine .tup fun t ht=>?_
          simp at ht
          rcases ht with rfl | rfl
          · exact .str (by decide)
          · exact ih _ _ h1
      · split at h
        · cases h
        · rename_i p1 h1
          split at h
          · cases h
            exact X8 (s:=[111,114]) (by decide) (X8 (s:=[97,110,100]) (by decide) ih) _ p1 h1
          · cases h
    · exact Zcb hF i p h
noncomputable def Jz (ws:List (List Nat)):Except Nat T:=match rdOr 12 ws 0 with
  | .error e=>.error e
  | .ok p=>if decide (p.2 < ws.length) || !Xo p.1 then .error p.2 else .ok p.1
theorem split_len (c:Nat):∀ cs:List Nat,(Qc c cs).length≤cs.length + 1∧∀ w∈Qc c cs,w.length≤cs.length
  | []=>by rw [Qc]; simp
  | a :: r=>by
    obtain ⟨h1,h2⟩:=split_len c r
    rw [Qc]
    split
    · refine ⟨by simp; omega,fun w hw=>?_⟩
      rcases List.mem_cons.mp hw with rfl | hw
      · simp
      · have:=h2 w hw; simp; omega
    · split
      · rename_i x xs e
        rw [e] at h1 h2
        refine ⟨by simp at h1 ⊢; omega,fun w hw=>?_⟩
        rcases List.mem_cons.mp hw with rfl | hw
        · have:=h2 x (by simp); simp; omega
        · have:=h2 w (List.mem_cons_of_mem _ hw); simp; omega
      · exact ⟨by simp,fun w hw=>by simp at hw; subst hw; simp⟩
noncomputable def BackW (r:Except Nat T) (m:Mem) (res:Res W):Prop:=match r with
  | .ok t=>res = .ok (.t t) m
  | .error e=>∃ x,res = .exc (noT e) (m++x)
theorem Zbg {n:Nat} {m:Mem} {cs:List Nat} (hc:cs.length≤800000):BackW (Jz (Qc 32 cs)) m (cf (n + 56) 17 [.t (.str cs)] m):=by
  obtain ⟨hs1,hs2⟩:=split_len 32 cs
  generalize hws:Qc 32 cs=ws at *
  have hF:Fits ws:=fun w hw=>by have:=hs2 w hw; unfold lim; omega
  have hl:ws.length < 900000:=by omega
  have hr:Back (rdOr 12 ws 0) m (cf (n + 55) 16 [.t (wl ws),.t (.int 0),.t (.int 0),.t (.tup JN)] m):=or_x (one_x hF hl 12 n 0 (by omega) (by omega)) (ZhU ws 12) hl m 0 0 rfl
  have h0:∀ k,ex (cf (n + 55)) gv (.ife (.not (.isi (.var 0) .str)) (.rse 71 ["at"] (.cons (.con (.int 0)) .nil) .done) .done (.asg 1 (.mth .split (.var 0) (.cons (.con (.str [32])) .nil)) k)) [some (.t (.str cs)),none,none,none] m=ex (cf (n + 55)) gv k [some (.t (.str cs)),some (.t (wl ws)),none,none] m:=fun k=>by
    rw [Zo (m1:=m) (Xd (k:=true) (ev_isi (Zb rfl) rfl))]
    rw [ZJ (show ev (cf (n + 55)) gv (.mth .split (.var 0) (.cons (.con (.str [32])) .nil)) [some (.t (.str cs)),none,none,none] m = .ok (.t (wl ws)) m by
      rw [ev,Zb rfl,Zf,show tyM .split (.t (.str cs)) m=true from rfl,if_pos rfl,ZbT (Zc _) ZdE,Zf]
      show pur (if cs.length≤900000 then some (.lst ((Qc 32 cs).map .str)) else none) m=_
      rw [if_pos (by omega),hws]
      rfl)]
    rfl
  have fin1:∀ {x:Exc} {y:Mem},ex (cf (n + 55)) gv Qg [some (.t (.str cs)),none,none,none] m = .exc x (m++y)→cf (n + 56) 17 [.t (.str cs)] m = .exc x (m++y):=fun key=>ZeY (ZaQ _ _ _) rfl key
  unfold Jz
  cases hq:rdOr 12 ws 0 with
  | error e =>
    rw [hq] at hr
    obtain ⟨x,hr⟩:=hr
    refine ⟨x,fin1 ?_⟩
    unfold Qg
    rw [h0]
    exact Zab ((Q3 (Zb rfl) (Zc _) (Zc _) (ZdG Za2)).trans hr)
  | ok p =>
    rw [hq] at hr
    have hr:_=_:=hr
    have hg:=X8 (s:=[111,114]) (ws:=ws) (by decide) (X8 (s:=[97,110,100]) (ws:=ws) (by decide) (ZiT hF 12)) _ _ hq
    have hw:=ZfN (n:=n + 50) (m:=m) (x:=p.1) (fun k y hy=>(FitH.lay k [p.1] (fun y hy=>by simp at hy; subst hy; exact hg) y hy).one)
    have h2:∀ k,ex (cf (n + 55)) gv (.asgT [2,3] (.call 16 (.cons (.var 1) (.cons (.con (.int 0)) (.cons (.con (.int 0)) (.cons (.gl 12) .nil))))) k) [some (.t (.str cs)),some (.t (wl ws)),none,none] m=ex (cf (n + 55)) gv k [some (.t (.str cs)),some (.t (wl ws)),some (.t p.1),some (.t (.int (p.2:Int)))] m:=fun k=>by
      rw [JV ((Q3 (Zb rfl) (Zc _) (Zc _) (ZdG Za2)).trans hr)]
      rfl
    have h3:ev (cf (n + 55)) gv (.or (.cmp .Lt (.var 3) (.blt .len (.cons (.var 1) .nil))) (.not (.call 9 (.cons (.var 2) .nil)))) [some (.t (.str cs)),some (.t (wl ws)),some (.t p.1),some (.t (.int (p.2:Int)))] m = .ok (.t (.bl (decide (p.2 < ws.length) || !Xo p.1))) m:=by
      have h4:ev (cf (n + 55)) gv (.cmp .Lt (.var 3) (.blt .len (.cons (.var 1) .nil))) [some (.t (.str cs)),some (.t (wl ws)),some (.t p.1),some (.t (.int (p.2:Int)))] m = .ok (.t (.bl (decide (p.2 < ws.length)))) m:=by
        refine (Zz (Zb rfl) (QV (Zb rfl) (Zek _)) (c_lt _ _)).trans ?_
        rw [List.length_map]
        congr 3
        exact decide_eq_decide.mpr (by omega)
      cases q:decide (p.2 < ws.length) with
      | true=>rw [q] at h4; exact Ze2 h4
      | false =>
        rw [q] at h4
        exact (ZdF h4).trans (Xd ((Qf (Zb rfl)).trans hw))
    dsimp only
    cases q:(decide (p.2 < ws.length) || !Xo p.1) with
    | true =>
      rw [q] at h3
      rw [if_pos rfl]
      refine ⟨[],fin1 ?_⟩
      rw [List.append_nil]
      unfold Qg
      rw [h0,h2]
      exact Xc h3 (ZaA (Zb rfl))
    | false =>
      rw [q] at h3
      rw [if_neg (by simp)]
      refine Qu (ZaQ _ _ _) rfl (show ex (cf (n + 55)) gv Qg [some (.t (.str cs)),none,none,none] m = .ok (.ret (.t p.1)) m from ?_) (Z3 (cell:=false) rfl)
      unfold Qg
      rw [h0,h2,Zo h3]
      exact Zi (Zb rfl)
noncomputable def Jj:Except Nat T→T
  | .ok t=>.tup [.str [116,111,108,100],t]
  | .error e=>.tup [.str [114,101,102,117,115,101,100],.int (e:Int)]
theorem ZhK {n:Nat} {m:Mem} {x:T} {r:Except Nat T} (h:BackW r m (cf (n + 56) 17 [.t x] m)):cf (n + 57) 21 [.t x] m = .ok (.t (Jj r)) m:=by
  have h0:∀ k,ex (cf (n + 56)) gv (.asg 1 (.tup (.cons (.con (.str [111,116,104,101,114])) (.cons (.con .non) .nil))) k) [some (.t x),none,none,none] m=ex (cf (n + 56)) gv k [some (.t x),some (.t (.tup [.str [111,116,104,101,114],.non])),none,none] m:=fun k=>by
    rw [ZJ (Zj (Zc _) (Zc _))]; rfl
  cases r with
  | ok t =>
    have h:_=_:=h
    refine Qu (Zcg _ _ _) rfl (show ex (cf (n + 56)) gv Q7 [some (.t x),none,none,none] m = .ok (.ret (.t (Jj (.ok t)))) m from ?_) (Z3 (cell:=false) rfl)
    unfold Q7
    rw [h0,ex]
    have hb:ex (cf (n + 56)) gv Ji [some (.t x),some (.t (.tup [.str [111,116,104,101,114],.non])),none,none] m = .ok (.next [some (.t x),some (.t (Jj (.ok t))),none,none]) m:=by
      unfold Ji
      rw [ZJ (Zj (Zc _) ((Qf (Zb rfl)).trans h)),ex]
      rfl
    rw [hb]
    exact Zi (Zb rfl)
  | error e =>
    obtain ⟨y,h⟩:=h
    refine Qu (Zcg _ _ _) rfl (show ex (cf (n + 56)) gv Q7 [some (.t x),none,none,none] m = .ok (.ret (.t (Jj (.error e)))) (m++y) from ?_) ?_
    · unfold Q7
      rw [h0,ex]
      have hb:ex (cf (n + 56)) gv Ji [some (.t x),some (.t (.tup [.str [111,116,104,101,114],.non])),none,none] m = .exc (noT e) (m++y):=by
        unfold Ji
        exact Zhu (Ze0 (Zc _) ((Qf (Zb rfl)).trans h))
      rw [hb]
      have hh:ex (cf (n + 56)) gv JR [none,none,some (.x 71 ["at"] [.int (e:Int)]),none] (m++y) = .ok (.next [none,some (.t (Jj (.error e))),some (.x 71 ["at"] [.int (e:Int)]),some (.t (.bl false))]) (m++y):=by
        unfold JR
        rfl
      show (if (71:Nat)∈[71] then (ex (cf (n + 56)) gv JR [none,none,some (.x 71 ["at"] [.int (e:Int)]),none] (m++y)).only.bind _ else Res.stuck)=_
      rw [if_pos (by decide),hh]
      show ex (cf (n + 56)) gv (.ret (.var 1) .done) [none,some (.t (Jj (.error e))),none,some (.t (.bl false))] (m++y)=_
      exact Zi (Zb rfl)
    · show Res.ok _ ((m++y).take m.length)=_
      rw [List.take_left]
theorem ZcK {n:Nat} {m:Mem} {cs:List Nat} (hc:cs.length≤800000):cf (n + 57) 21 [.t (.str cs)] m = .ok (.t (Jj (Jz (Qc 32 cs)))) m:=ZhK (Zbg hc)
noncomputable abbrev wNot:List Nat:=[110,111,116]
noncomputable abbrev wL:List Nat:=[40]
noncomputable abbrev wR:List Nat:=[41]
noncomputable def Kd (k:List Nat):Prop:=k=wNot∨k=wL
noncomputable def cN (ks:List (List Nat)):Nat:=ks.countP (· == wNot)
noncomputable def cP (ks:List (List Nat)):Nat:=ks.countP (· == wL)
noncomputable def nots:Nat→T
  | 0=>.tup [.str [105,115],.str [97]]
  | n + 1=>.tup [.str wNot,nots n]
theorem Zbh {k:Nat} {ws:List (List Nat)} {i:Nat} (h:(wat ws i == wNot || wat ws i == wL)=false):Qn k ws i=QM ws i:=by
  cases k with
  | zero=>rw [Qn,if_neg (by rw [h]; simp)]
  | succ k=>rw [Qn,if_neg (by rw [h]; simp)]
theorem JB {k:Nat} {ws:List (List Nat)} {i:Nat} (h:wat ws i=wNot):Qn (k + 1) ws i=(match Qn k ws (i + 1) with
    | .error e=>.error e
    | .ok p=>.ok (.tup [.str wNot,p.1],p.2)):=by
  rw [Qn,h]; rfl
theorem XS {k:Nat} {ws:List (List Nat)} {i:Nat} (h:wat ws i=wL):Qn (k + 1) ws i=(match rdOr k ws (i + 1) with
    | .error e=>.error e
    | .ok p=>if wat ws p.2 == wR then .ok (p.1,p.2 + 1) else .error p.2):=by
  rw [Qn,h]; rfl
theorem Zds {s:List Nat} {f:Nat→Rd} {ws:List (List Nat)} {n b:Nat} {acc:List T} (h:(wat ws b == s)=false):Jg s f ws n acc b = .ok (acc,b):=by
  cases n with
  | zero=>rfl
  | succ n=>rw [Jg,if_neg (by rw [h]; simp)]
theorem QR {s:List Nat} {f:Nat→Rd} {ws:List (List Nat)} {i:Nat} {p:T×Nat} (h:f i = .ok p) (hw:(wat ws p.2 == s)=false):Qt s f ws i = .ok p:=by
  unfold Qt
  rw [h]
  dsimp only
  rw [Zds hw]
  rfl
theorem Xi {s:List Nat} {f:Nat→Rd} {ws:List (List Nat)} {i e:Nat} (h:f i = .error e):Qt s f ws i = .error e:=by
  unfold Qt
  rw [h]
theorem J8 {k:Nat} {ws:List (List Nat)} {i:Nat} {p:T×Nat} (h:Qn k ws i = .ok p) (h1:(wat ws p.2 == [97,110,100])=false) (h2:(wat ws p.2 == [111,114])=false):rdOr k ws i = .ok p :=
  QR (QR h h1) h2
theorem ZeM {k:Nat} {ws:List (List Nat)} {i e:Nat} (h:Qn k ws i = .error e):rdOr k ws i = .error e:=Xi (Xi h)
theorem ZeD:∀ (ks:List (List Nat)),(∀ k∈ks,Kd k)→∀ (k:Nat) (ws pre post:List (List Nat)),ks.length≤k→ws=pre++ks++[[105,115],[97]]++List.replicate (cP ks) wR++post→Qn k ws pre.length = .ok (nots (cN ks),pre.length + ks.length + 2 + cP ks):=by
  intro ks
  induction ks with
  | nil =>
    intro _ k ws pre post _ hw
    have h0:wat ws pre.length=[105,115]:=by rw [hw]; simp [wat]
    have h1:wat ws (pre.length + 1)=[97]:=by rw [hw]; simp [wat]
    rw [Zbh (by rw [h0]; rfl)]
    unfold QM
    rw [h0,h1]
    rfl
  | cons x ks ih =>
    intro hk k ws pre post hl hw
    obtain ⟨k,rfl⟩:∃ j,k=j + 1:=⟨k - 1,by simp at hl; omega⟩
    have h0:wat ws pre.length=x:=by rw [hw]; simp [wat]
    have hk':=fun y hy=>hk y (List.mem_cons_of_mem _ hy)
    rw [List.length_cons] at hl
    rcases hk x List.mem_cons_self with rfl | rfl
    · have e1:cP (wNot :: ks)=cP ks:=by unfold cP; rw [List.countP_cons]; rfl
      have e2:cN (wNot :: ks)=cN ks + 1:=by unfold cN; rw [List.countP_cons]; rfl
      have h:=ih hk' k ws (pre++[wNot]) post (by omega) (by rw [hw,e1]; simp)
      rw [List.length_append,List.length_singleton] at h
      rw [JB h0,h,e1,e2]
      dsimp only
      rw [List.length_cons]
      congr 2
      omega
    · have e1:cP (wL :: ks)=cP ks + 1:=by unfold cP; rw [List.countP_cons]; rfl
      have e2:cN (wL :: ks)=cN ks:=by unfold cN; rw [List.countP_cons]; rfl
      have hw2:ws=(pre++[wL])++ks++[[105,115],[97]]++List.replicate (cP ks) wR++(wR :: post):=by
        rw [hw,e1,List.replicate_succ']; simp
      have h:=ih hk' k ws (pre++[wL]) (wR :: post) (by omega) hw2
      rw [List.length_append,List.length_singleton] at h
      have hb:wat ws (pre.length + 1 + ks.length + 2 + cP ks)=wR:=by
        have e:pre.length + 1 + ks.length + 2 + cP ks=((pre++[wL])++ks++[[105,115],[97]]++List.replicate (cP ks) wR).length:=by simp; omega
        rw [hw2,e]
        exact ZjD _ _ _
      rw [XS h0,J8 h (by dsimp only; rw [hb]; rfl) (by dsimp only; rw [hb]; rfl)]
      dsimp only
      rw [hb,if_pos (by rfl),e1,e2,List.length_cons]
      congr 2
      omega
theorem Zfc:∀ (k:Nat) (ks:List (List Nat)),(∀ k∈ks,Kd k)→∀ (ws pre post:List (List Nat)),k < ks.length→ws=pre++ks++post→Qn k ws pre.length = .error (pre.length + k):=by
  intro k
  induction k with
  | zero =>
    intro ks hk ws pre post hl hw
    obtain ⟨x,r,rfl⟩:∃ x r,ks=x :: r:=List.exists_cons_of_length_pos hl
    have h0:wat ws pre.length=x:=by rw [hw]; simp [wat]
    rw [Qn,h0]
    rcases hk x List.mem_cons_self with rfl | rfl <;> rfl
  | succ k ih =>
    intro ks hk ws pre post hl hw
    obtain ⟨x,r,rfl⟩:∃ x r,ks=x :: r:=List.exists_cons_of_length_pos (by omega)
    have h0:wat ws pre.length=x:=by rw [hw]; simp [wat]
    have h:=ih r (fun y hy=>hk y (List.mem_cons_of_mem _ hy)) ws (pre++[x]) post (by simp at hl; omega) (by rw [hw]; simp)
    rw [List.length_append,List.length_singleton] at h
    have e:pre.length + 1 + k=pre.length + (k + 1):=by omega
    rw [e] at h
    rcases hk x List.mem_cons_self with rfl | rfl
    · rw [JB h0,h]
    · rw [XS h0,ZeM h]
theorem ZaZ {ws:List (List Nat)}:wat ws ws.length=[]:=Zgc (Nat.le_refl _)
theorem Zfb:∀ (ks:List (List Nat)),(∀ k∈ks,Kd k)→∀ (k:Nat) (ws pre:List (List Nat)),ks.length≤k→1≤cP ks→ws=pre++ks++[[105,115],[97]]++List.replicate (cP ks - 1) wR→Qn k ws pre.length = .error ws.length:=by
  intro ks
  induction ks with
  | nil=>intro _ k ws pre _ h; exact absurd h (by decide)
  | cons x ks ih =>
    intro hk k ws pre hl hc hw
    obtain ⟨k,rfl⟩:∃ j,k=j + 1:=⟨k - 1,by simp at hl; omega⟩
    have h0:wat ws pre.length=x:=by rw [hw]; simp [wat]
    have hk':=fun y hy=>hk y (List.mem_cons_of_mem _ hy)
    rw [List.length_cons] at hl
    rcases hk x List.mem_cons_self with rfl | rfl
    · have e1:cP (wNot :: ks)=cP ks:=by unfold cP; rw [List.countP_cons]; rfl
      rw [e1] at hc hw
      have h:=ih hk' k ws (pre++[wNot]) (by omega) hc (by rw [hw]; simp)
      rw [List.length_append,List.length_singleton] at h
      rw [JB h0,h]
    · have e1:cP (wL :: ks)=cP ks + 1:=by unfold cP; rw [List.countP_cons]; rfl
      rw [e1,Nat.add_sub_cancel] at hw
      have h:=ZeD ks hk' k ws (pre++[wL]) [] (by omega) (by rw [hw]; simp)
      rw [List.length_append,List.length_singleton] at h
      have hb:pre.length + 1 + ks.length + 2 + cP ks=ws.length:=by rw [hw]; simp; omega
      rw [hb] at h
      rw [XS h0,J8 h (by dsimp only; rw [ZaZ]; rfl) (by dsimp only; rw [ZaZ]; rfl)]
      dsimp only
      rw [ZaZ]
      rfl
noncomputable def aheads:List (List (List Nat)):=[[],[wL,wL,wNot,[97,110,121],wR,wR,[97,110,100]],[wNot,wNot,[97,110,121],[111,114]]]
noncomputable def wrap (a:Nat) (t:T):T:=match a with
  | 0=>t
  | 1=>.tup [.str [97,110,100],.tup [.tup [.str wNot,.tup [.str [97,110,121]]],t]]
  | _=>.tup [.str [111,114],.tup [.tup [.str wNot,.tup [.str wNot,.tup [.str [97,110,121]]]],t]]
noncomputable def ahd (a:Nat):List (List Nat):=match a with
  | 0=>[]
  | 1=>[wL,wL,wNot,[97,110,121],wR,wR,[97,110,100]]
  | _=>[wNot,wNot,[97,110,121],[111,114]]
theorem Zjw {ws:List (List Nat)} {k i:Nat} (h:wat ws i=[97,110,121]):Qn k ws i = .ok (.tup [.str [97,110,121]],i + 1):=by
  rw [Zbh (by rw [h]; rfl)]
  unfold QM
  rw [h]
  rfl
theorem ZhT (body:List (List Nat)):Qn 12 (ahd 1++body) 0 = .ok (.tup [.str wNot,.tup [.str [97,110,121]]],6):=by
  have w:∀ i (x:List Nat),(ahd 1)[i]? = some x→wat (ahd 1++body) i=x:=fun i x h=>by
    have hi:=(List.getElem?_eq_some_iff.mp h).1
    unfold wat
    rw [List.getElem?_append_left hi,h]; rfl
  have h3:=Zjw (k:=9) (w 3 _ rfl)
  have h2:Qn 10 (ahd 1++body) 2 = .ok (.tup [.str wNot,.tup [.str [97,110,121]]],4):=by rw [JB (w 2 _ rfl),h3]
  have h1:Qn 11 (ahd 1++body) 1 = .ok (.tup [.str wNot,.tup [.str [97,110,121]]],5):=by
    rw [XS (w 1 _ rfl),J8 h2 (by dsimp only; rw [w 4 _ rfl]; rfl) (by dsimp only; rw [w 4 _ rfl]; rfl)]
    dsimp only
    rw [w 4 _ rfl]
    rfl
  rw [XS (w 0 _ rfl),J8 h1 (by dsimp only; rw [w 5 _ rfl]; rfl) (by dsimp only; rw [w 5 _ rfl]; rfl)]
  dsimp only
  rw [w 5 _ rfl]
  rfl
theorem ZhS (body:List (List Nat)):Qn 12 (ahd 2++body) 0 = .ok (.tup [.str wNot,.tup [.str wNot,.tup [.str [97,110,121]]]],3):=by
  have w:∀ i (x:List Nat),(ahd 2)[i]? = some x→wat (ahd 2++body) i=x:=fun i x h=>by
    have hi:=(List.getElem?_eq_some_iff.mp h).1
    unfold wat
    rw [List.getElem?_append_left hi,h]; rfl
  rw [JB (w 0 _ rfl),JB (w 1 _ rfl),Zjw (w 2 _ rfl)]
theorem ZeT {s:List Nat} {f:Nat→Rd} {ws:List (List Nat)} {i:Nat} {p q:T×Nat} (hl:0 < ws.length) (h:f i = .ok p) (hw:(wat ws p.2 == s)=true) (h2:f (p.2 + 1) = .ok q) (hw2:(wat ws q.2 == s)=false):Qt s f ws i = .ok (.tup [.str s,.tup [p.1,q.1]],q.2):=by
  unfold Qt
  rw [h]
  dsimp only
  obtain ⟨n,hn⟩:∃ n,ws.length=n + 1:=⟨ws.length - 1,by omega⟩
  rw [hn,Jg,if_pos hw,h2]
  dsimp only
  rw [Zds hw2]
  rfl
theorem Xn {s:List Nat} {f:Nat→Rd} {ws:List (List Nat)} {i e:Nat} {p:T×Nat} (hl:0 < ws.length) (h:f i = .ok p) (hw:(wat ws p.2 == s)=true) (h2:f (p.2 + 1) = .error e):Qt s f ws i = .error e:=by
  unfold Qt
  rw [h]
  dsimp only
  obtain ⟨n,hn⟩:∃ n,ws.length=n + 1:=⟨ws.length - 1,by omega⟩
  rw [hn,Jg,if_pos hw,h2]
theorem Zjb {a:Nat} (ha:a < 3) {body:List (List Nat)} {t:T} (h:Qn 12 (ahd a++body) (ahd a).length = .ok (t,(ahd a++body).length)):rdOr 12 (ahd a++body) 0 = .ok (wrap a t,(ahd a++body).length):=by
  have hz:=ZaZ (ws:=ahd a++body)
  match a,ha with
  | 0,_=>exact J8 h (by dsimp only; rw [hz]; rfl) (by dsimp only; rw [hz]; rfl)
  | 1,_ =>
    have h6:wat (ahd 1++body) 6=[97,110,100]:=by unfold wat; rw [List.getElem?_append_left (by decide)]; rfl
    have h1:Zie 12 (ahd 1++body) 0 = .ok (wrap 1 t,(ahd 1++body).length):=ZeT (by simp [ahd]) (ZhT body) (by dsimp only; rw [h6]; rfl) h (by dsimp only; rw [hz]; rfl)
    exact QR h1 (by dsimp only; rw [hz]; rfl)
  | 2,_ =>
    have h3:wat (ahd 2++body) 3=[111,114]:=by unfold wat; rw [List.getElem?_append_left (by decide)]; rfl
    have h1:Zie 12 (ahd 2++body) 0=_:=QR (ZhS body) (by dsimp only; rw [h3]; rfl)
    have h2:Zie 12 (ahd 2++body) 4 = .ok (t,(ahd 2++body).length):=QR h (by dsimp only; rw [hz]; rfl)
    exact ZeT (by simp [ahd]) h1 (by dsimp only; rw [h3]; rfl) h2 (by dsimp only; rw [hz]; rfl)
theorem ZbO {a:Nat} (ha:a < 3) {body:List (List Nat)} {e:Nat} (h:Qn 12 (ahd a++body) (ahd a).length = .error e):rdOr 12 (ahd a++body) 0 = .error e:=by
  match a,ha with
  | 0,_=>exact ZeM h
  | 1,_ =>
    have h6:wat (ahd 1++body) 6=[97,110,100]:=by unfold wat; rw [List.getElem?_append_left (by decide)]; rfl
    exact Xi (Xn (by simp [ahd]) (ZhT body) (by dsimp only; rw [h6]; rfl) h)
  | 2,_ =>
    have h3:wat (ahd 2++body) 3=[111,114]:=by unfold wat; rw [List.getElem?_append_left (by decide)]; rfl
    exact Xn (by simp [ahd]) (QR (ZhS body) (by dsimp only; rw [h3]; rfl)) (by dsimp only; rw [h3]; rfl) (Xi h)
noncomputable def twr (a:Nat) (ks:List (List Nat)) (c:Nat):List (List Nat):=ahd a++(ks++[[105,115],[97]]++List.replicate c wR)
theorem Zco (a:Nat) (ks:List (List Nat)) (c:Nat):(twr a ks c).length=(ahd a).length + ks.length + 2 + c:=by unfold twr; simp; omega
theorem Zh4 {a:Nat} (ha:a < 3) {ks:List (List Nat)} (hk:∀ k∈ks,Kd k) (hl:12 < ks.length) (c:Nat):Jz (twr a ks c) = .error ((ahd a).length + 12):=by
  unfold Jz twr
  rw [ZbO ha (Zfc 12 ks hk _ (ahd a) ([[105,115],[97]]++List.replicate c wR) hl (by simp))]
theorem twr_ok {a:Nat} (ha:a < 3) {ks:List (List Nat)} (hk:∀ k∈ks,Kd k) (hl:ks.length≤12):Jz (twr a ks (cP ks))=if Xo (wrap a (nots (cN ks))) then .ok (wrap a (nots (cN ks))) else .error (twr a ks (cP ks)).length:=by
  have h:=ZeD ks hk 12 (twr a ks (cP ks)) (ahd a) [] hl (by unfold twr; simp)
  rw [show (ahd a).length + ks.length + 2 + cP ks=(twr a ks (cP ks)).length from (Zco a ks (cP ks)).symm] at h
  have h2:rdOr 12 (twr a ks (cP ks)) 0 = .ok (wrap a (nots (cN ks)),(twr a ks (cP ks)).length):=Zjb ha h
  unfold Jz
  rw [h2]
  dsimp only
  rw [decide_eq_false (Nat.lt_irrefl _),Bool.false_or]
  cases Xo (wrap a (nots (cN ks))) <;> rfl
theorem Zh3 {a:Nat} (ha:a < 3) {ks:List (List Nat)} (hk:∀ k∈ks,Kd k) (hl:ks.length≤12) (hc:1≤cP ks):Jz (twr a ks (cP ks - 1)) = .error (twr a ks (cP ks - 1)).length:=by
  have h:=Zfb ks hk 12 (twr a ks (cP ks - 1)) (ahd a) hl hc (by unfold twr; simp)
  unfold Jz
  rw [show rdOr 12 (twr a ks (cP ks - 1)) 0=_ from ZbO ha h]
theorem Zga {a n:Nat} (ha:a < 3) (hn:n≤12):Xo (wrap a (nots n))=decide (n + 1 + (if a=0 then 0 else 1)≤6):=by
  have:∀ a < 3,∀ n < 13,Xo (wrap a (nots n))=decide (n + 1 + (if a=0 then 0 else 1)≤6):=by decide +kernel
  exact this a ha n (by omega)
theorem Zbc:∀ ks:List (List Nat),strs? (ks.map .str)=some ks
  | []=>rfl
  | k :: ks=>by
    show (strs? (ks.map T.str)).map (k :: ·)=_
    rw [Zbc ks]; rfl
theorem Zjs {call:Nat→List W→Mem→Res W} {gv:List T} {env:Env} {m:Mem} {o:E} {ks:List (List Nat)} {b:List Nat} (h:ev call gv o env m = .ok (.t (.lst (ks.map .str))) m) (hl:ks.length≤lim):ev call gv (.mth .count o (.cons (.con (.str b)) .nil)) env m = .ok (.t (.int ((ks.countP (· == b):Nat):Int))) m:=by
  rw [ev,h,Zf,show tyM .count (.t (.lst (ks.map .str))) m=true from rfl,if_pos rfl,ZbT (Zc _) ZdE,Zf]
  show pur ((strs? (ks.map T.str)).bind fun bs=>if bs.length≤lim then some (T.int ((bs.countP (· == b):Nat):Int)) else none) m=_
  rw [Zbc,Option.bind_some,if_pos hl]
  rfl
theorem Zd3 {α:Type} (x:α):∀ c:Nat,repT [x] c=List.replicate c x
  | 0=>rfl
  | c + 1=>by
    unfold repT
    rw [List.replicate_succ,List.flatten_cons,List.replicate_succ]
    exact congrArg (x :: ·) (Zd3 x c)
theorem b_repL {x:T} {c:Nat} (h:c≤1000):binT .Mult (.lst [x]) (.int (c:Int))=some (.lst (List.replicate c x)):=by
  show (if (-(lim:Int)≤(c:Int)∧(c:Int)≤lim)∧1 * (c:Int).toNat≤lim then some (T.lst (repT [x] (c:Int).toNat)) else none)=_
  rw [if_pos (by unfold lim; refine ⟨⟨by omega,by omega⟩,by omega⟩),Int.toNat_natCast,Zd3]
theorem Zgg {n:Nat} {m:Mem} {i:Nat} {s:List T} {M:Nat} (hi:i < m.length) (hs:IsSt s) (hM:M≤16) :
    ∃ ks s',cf (n + 2) 22 [.c i,.t (.int (M:Int))] (put m i s) = .ok (.t (.tup [.lst (ks.map .str),.lst (List.replicate (cP ks) (.str wR)),.int (cN ks:Int)])) (put m i s')∧IsSt s'∧ks.length=M∧∀ k∈ks,Kd k:=by
  obtain ⟨xss,m',h2,⟨s2,rfl,hs2⟩,ht⟩:=ZeQ (f:=Jl (cf (n + 1)) gv .nil Zby) (tg:=.nm 0) (env:=[none,some (.c i)]) (P:=fun m'=>∃ s,m' = put m i s∧IsSt s) (R:=fun _ xs=>∃ k,Kd k∧xs=[T.str k]) (rangeT 0 M) (put m i s) ⟨s,rfl,hs⟩ (by
    rintro t ht m' ⟨s,rfl,hs⟩
    obtain ⟨q,s3,h3,hs3,hq0,hq1⟩:=Zcv (n:=n) (many:=2) hi hs (by decide) (by decide)
    have hx:∃ k,Kd k∧ixT (.lst [.str [110,111,116],.str [40]]) (.int q)=some (.str k):=by
      have:q=0∨q=1:=by omega
      rcases this with rfl | rfl
      · exact ⟨_,.inl rfl,rfl⟩
      · exact ⟨_,.inr rfl,rfl⟩
    obtain ⟨k,hk,hx⟩:=hx
    refine ⟨[some (.t t),some (.c i)],[.str k],put m i s3,rfl,?_,⟨s3,rfl,hs3⟩,k,hk,rfl⟩
    exact turn0 (Zhx (ZcF (Zhv (Zc _) (Zc _)) ((Zk (Zb rfl) (Zc _)).trans h3) hx)))
  have hl:∀ (ts:List T) (xss:List (List T)),Turns (fun _ xs=>∃ k,Kd k∧xs=[T.str k]) ts xss→∃ ks:List (List Nat),xss.flatten=ks.map T.str∧ks.length=ts.length∧∀ k∈ks,Kd k:=by
    intro ts xss h
    induction h with
    | nil=>exact ⟨[],rfl,rfl,fun k hk=>by cases hk⟩
    | cons h _ ih =>
      obtain ⟨k,hk,rfl⟩:=h
      obtain ⟨ks,e1,e2,e3⟩:=ih
      refine ⟨k :: ks,by rw [List.flatten_cons,e1]; rfl,by simp [e2],fun y hy=>?_⟩
      rcases List.mem_cons.mp hy with rfl | hy
      · exact hk
      · exact e3 y hy
  obtain ⟨ks,e1,e2,e3⟩:=hl _ _ ht
  have hr:(rangeT 0 M).length=M:=by simp [rangeT]
  rw [hr] at e2
  rw [e1] at h2
  refine ⟨ks,s2,?_,hs2,e2,e3⟩
  have hc:ev (cf (n + 1)) gv ZbI [some (.c i),some (.t (.int (M:Int))),none] (put m i s) = .ok (.t (.lst (ks.map .str))) (put m i s2) :=
    Xe (x:=.t (.lst (rangeT 0 M))) (m0:=put m i s) (m1:=put m i s) (QV (Zb rfl) (by rw [Zkz (by omega),Int.toNat_natCast])) rfl h2 (by rw [List.length_map]; unfold lim; omega)
  have h1:cP ks≤16:=Nat.le_trans (List.countP_le_length) (by omega)
  have hlk:ks.length≤lim:=by unfold lim; omega
  refine Qu (Zf2 _ _ _) rfl (show ex (cf (n + 1)) gv JP [some (.c i),some (.t (.int (M:Int))),none] (put m i s) = .ok (.ret (.t (.tup [.lst (ks.map .str),.lst (List.replicate (cP ks) (.str wR)),.int (cN ks:Int)]))) (put m i s2) from ?_) (Z3 (cell:=false) (Xz.trans Xz.symm))
  unfold JP
  rw [ZJ hc]
  dsimp only [List.set_cons_succ,List.set_cons_zero]
  have hlst:∀ (call:Nat→List W→Mem→Res W) (env:Env) (m:Mem) (x:T),ev call gv (.lst (.cons (.con x) .nil)) env m = .ok (.t (.lst [x])) m:=fun call env m x=>by
    rw [ev,ZbT (Zc _) ZdE,Zf,Xu,Xr,Zf,Zf]
    exact if_pos (by simp [lim])
  exact Zi (Zep (Zb rfl) (QL (hlst _ _ _ _) (Zjs (Zb rfl) hlk) (b_repL (by show cP ks≤1000; omega))) (Zjs (Zb rfl) hlk))
theorem Zdp {n:Nat} {m:Mem} {e0:Option W}:∀ (ts:List T) (j:Nat) (e2:Option W),∃ e2',Ja (ex (cf n) gv JG) (.nm 2) ts [e0,some (.t (nots j)),e2] m = .ok (.next [e0,some (.t (nots (j + ts.length))),e2']) m
  | [],j,e2=>⟨e2,rfl⟩
  | t :: ts,j,e2=>by
    obtain ⟨e2',h⟩:=Zdp (n:=n) (m:=m) (e0:=e0) ts (j + 1) (some (.t t))
    refine ⟨e2',?_⟩
    rw [Ja]
    show (ex (cf n) gv JG [e0,some (.t (nots j)),some (.t t)] m).bind _=_
    have e:ex (cf n) gv JG [e0,some (.t (nots j)),some (.t t)] m = .ok (.next [e0,some (.t (nots (j + 1))),some (.t t)]) m:=by
      unfold JG
      rw [ZJ (Zj (Zc _) (Zb rfl)),ex]
      rfl
    rw [e,List.length_cons,show j + (ts.length + 1)=j + 1 + ts.length by omega]
    exact h
theorem Zkw {n c:Nat} {m:Mem} (hc:c≤1000):cf (n + 1) 23 [.t (.int (c:Int))] m = .ok (.t (nots c)) m:=by
  refine Qu (Zi6 _ _ _) rfl (show ex (cf n) gv ZaF [some (.t (.int (c:Int))),none,none] m = .ok (.ret (.t (nots c))) m from ?_) (Z3 (cell:=false) rfl)
  unfold ZaF
  rw [ZJ (Zj (Zc _) (Zc _))]
  dsimp only [List.set_cons_succ,List.set_cons_zero]
  obtain ⟨e2',h⟩:=Zdp (n:=n) (m:=m) (e0:=some (.t (.int (c:Int)))) (rangeT 0 c) 0 none
  show ex (cf n) gv (.forr (.nm 2) (.blt .range1 (.cons (.var 0) .nil)) JG (.ret (.var 1) .done)) [some (.t (.int (c:Int))),some (.t (nots 0)),none] m=_
  rw [ZcD (x:=.t (.lst (rangeT 0 c))) (m0:=m) (m1:=m) (QV (Zb rfl) (by rw [Zkz (by omega),Int.toNat_natCast])) rfl h]
  have e:(rangeT 0 c).length=c:=by simp [rangeT]
  rw [e,Nat.zero_add]
  exact Zi (Zb rfl)
theorem Zdv {ys:List (List Nat)} (h:∀ w∈ys,w.length≤20):(ys.map List.length).sum≤20 * ys.length∧(QS [32] ys).length≤21 * ys.length:=by
  induction ys with
  | nil=>exact ⟨by simp,by simp [QS]⟩
  | cons y r ih =>
    obtain ⟨h1,h2⟩:=ih fun w hw=>h w (List.mem_cons_of_mem _ hw)
    have hy:=h y List.mem_cons_self
    refine ⟨by rw [List.map_cons,List.sum_cons,List.length_cons]; omega,?_⟩
    cases r with
    | nil=>simp only [QS,List.length_cons,List.length_nil]; omega
    | cons z r =>
      show (y++[32]++QS [32] (z :: r)).length≤_
      rw [List.length_append,List.length_append,List.length_cons]
      simp only [List.length_cons,List.length_nil] at h2 ⊢
      omega
noncomputable def Few (ws:List (List Nat)):Prop:=ws≠[]∧ws.length≤1000∧∀ w∈ws,w.length≤20∧32 ∉ w
theorem Ze3 {call:Nat→List W→Mem→Res W} {gv:List T} {env:Env} {m:Mem} {o:E} {ws:List (List Nat)} (hf:Few ws) (h:ev call gv o env m = .ok (.t (.lst (ws.map .str))) m):ev call gv (.mth .join (.con (.str [32])) (.cons o .nil)) env m = .ok (.t (.str (QS [32] ws))) m:=by
  obtain ⟨_,h2,h3⟩:=hf
  obtain ⟨h4,h5⟩:=Zdv fun w hw=>(h3 w hw).1
  rw [ev,Zc,Zf,t_join,if_pos rfl,ZbT h ZdE,Zf]
  exact d_join (Zbc ws) (by unfold lim; simp only [List.length_cons,List.length_nil]; omega)
theorem Ze6 {n:Nat} {m:Mem} {ws:List (List Nat)} (hf:Few ws):cf (n + 57) 21 [.t (.str (QS [32] ws))] m = .ok (.t (Jj (Jz ws))) m:=by
  obtain ⟨h1,h2,h3⟩:=hf
  obtain ⟨h4,h5⟩:=Zdv fun w hw=>(h3 w hw).1
  have h:=ZcK (n:=n) (m:=m) (cs:=QS [32] ws) (by omega)
  rw [Xx h1 fun w hw=>(h3 w hw).2] at h
  exact h
theorem Zgd {a:Nat} {ks:List (List Nat)} {c:Nat} (hk:∀ k∈ks,Kd k) (hl:ks.length≤16) (hc:c≤16):Few (twr a ks c):=by
  have hlen:=Zco a ks c
  have ha:(ahd a).length≤7:=by unfold ahd; split <;> decide
  refine ⟨fun z=>by rw [z,List.length_nil] at hlen; omega,by omega,fun w hw=>?_⟩
  unfold twr at hw
  simp only [List.mem_append] at hw
  rcases hw with hw | (hw | hw) | hw
  · have:∀ w∈ahd a,w.length≤20∧32 ∉ w:=by unfold ahd; split <;> decide
    exact this w hw
  · rcases hk w hw with rfl | rfl <;> decide
  · have:∀ w∈([[105,115],[97]]:List (List Nat)),w.length≤20∧32 ∉ w:=by decide
    exact this w hw
  · rw [List.mem_replicate] at hw
    rw [hw.2]
    decide
theorem Ze4:∀ (n:Nat) (t:T),Zg n t=true→eqT t t=true:=by
  intro n
  induction n with
  | zero =>
    intro t h
    cases t with
    | non=>rfl
    | bl b=>simp [eqT]
    | int b=>simp [eqT]
    | str b=>simp [eqT]
    | tup ts=>simp [Zg] at h
    | lst ts=>simp [Zg] at h
    | dct ks ts=>simp [Zg] at h
    | scr ns=>simp [Zg] at h
  | succ n ih =>
    have hl:∀ ts:List T,Qh n ts=true→eqTs ts ts=true:=by
      intro ts
      induction ts with
      | nil=>intro _; rfl
      | cons t ts iht =>
        intro h
        rw [Qh,Bool.and_eq_true] at h
        rw [eqTs,ih t h.1,iht h.2]
        rfl
    intro t h
    cases t with
    | tup ts=>rw [Zg] at h; rw [eqT]; exact hl ts h
    | lst ts=>rw [Zg] at h; rw [eqT]; exact hl ts h
    | non=>rfl
    | bl b=>simp [eqT]
    | int b=>simp [eqT]
    | str b=>simp [eqT]
    | dct ks ts=>simp [Zg] at h
    | scr ns=>simp [Zg] at h
theorem Zg1 {t:T} (h:Zg 60 t=true):cmpT .NotEq t t=some false:=by
  show (if (Zcr t t || (Zg 60 t && Zg 60 t))=true then some (!eqT t t) else none)=_
  rw [h,Bool.true_and,Bool.or_true,if_pos rfl,Ze4 60 t h]
  rfl
theorem eq_self {t:T} (h:Zg 60 t=true):cmpT .Eq t t=some true:=by
  show (if (Zcr t t || (Zg 60 t && Zg 60 t))=true then some (eqT t t) else none)=_
  rw [h,Bool.true_and,Bool.or_true,if_pos rfl,Ze4 60 t h]
theorem deep_str {k:Nat} {w:List Nat} (h:ZcP w=true):Zg k (.str w)=true:=by
  unfold Zg
  show (w.toArray.all fun c=>decide (c < 0x110000))=true
  rw [List.all_toArray,List.all_eq_true]
  intro c hc
  have:c < 200:=by
    unfold ZcP at h
    simp only [Bool.and_eq_true] at h
    have:=of_decide_eq_true (List.all_eq_true.mp h.2 c hc)
    unfold lett at this
    simp at this
    omega
  exact decide_eq_true (by omega)
theorem Zac {k:Nat}:∀ {ts:List T},(∀ t∈ts,Zg k t=true)→Qh k ts=true
  | [],_=>by unfold Qh; rfl
  | t :: ts,h=>by
    unfold Qh
    rw [h t List.mem_cons_self,Zac fun u hu=>h u (List.mem_cons_of_mem _ hu)]
    rfl
theorem ZcG {k:Nat} {w:List Nat} (h:∀ c∈w,c < 1114112):Zg k (.str w)=true:=by
  unfold Zg
  show (w.toArray.all fun c=>decide (c < 0x110000))=true
  rw [List.all_toArray,List.all_eq_true]
  exact fun c hc=>decide_eq_true (h c hc)
noncomputable def aT (a:Nat):T:=.lst ((ahd a).map .str)
theorem deep_lst {xs:List (List Nat)} (h:∀ w∈xs,∀ c∈w,c < 1114112):Zg 60 (.lst (xs.map .str))=true:=by
  rw [Zg]
  refine Zac fun t ht=>?_
  obtain ⟨w,hw,rfl⟩:=List.mem_map.mp ht
  exact ZcG (h w hw)
theorem eq_nil {c:Nat}:cmpT .Eq (.lst (List.replicate c (.str wR))) (.lst [])=some (decide (c=0)):=by
  have hd:Zg 60 (.lst (List.replicate c (.str wR)))=true:=by
    rw [Zg]
    refine Zac fun t ht=>?_
    rw [List.mem_replicate] at ht
    rw [ht.2]
    exact ZcG (by decide)
  show (if (Zcr (.lst (List.replicate c (.str wR))) (.lst []) || (Zg 60 (.lst (List.replicate c (.str wR))) && Zg 60 (.lst [])))=true then some (eqT (.lst (List.replicate c (.str wR))) (.lst [])) else none)=_
  rw [hd,show Zcr (.lst (List.replicate c (.str wR))) (.lst [])=false from rfl,show Zg 60 (.lst [])=true from by rw [Zg]; rfl]
  cases c with
  | zero=>rfl
  | succ c=>rw [List.replicate_succ]; rfl
theorem Zgh {a n:Nat} (ha:a < 3) (hn:n≤5):Zg 60 (.tup [.str [116,111,108,100],wrap a (nots n)])=true:=by
  have:∀ a < 3,∀ n < 6,Zg 60 (.tup [.str [116,111,108,100],wrap a (nots n)])=true:=by decide +kernel
  exact this a ha n (by omega)
theorem XN (e:Int):Zg 60 (.tup [.str [114,101,102,117,115,101,100],.int e])=true:=by
  rw [Zg]
  refine Zac fun t ht=>?_
  simp at ht
  rcases ht with rfl | rfl
  · exact ZcG (by decide)
  · unfold Zg; rfl
theorem Zi2 {xs:List T} {y:T}:cut (xs++[y]) none (some (-1))=xs:=by
  unfold cut Zes
  have e:(-1 + ((xs.length:Int) + 1)).toNat=xs.length:=by omega
  simp [e]
theorem ahd_ne {a:Nat} (ha:a < 3):cmpT .NotEq (aT a) (.lst [])=some (!decide (a=0)):=by
  have:∀ a < 3,cmpT .NotEq (aT a) (.lst [])=some (!decide (a=0)):=by decide +kernel
  exact this a ha
theorem Zid {n:Nat} {m:Mem} {i:Nat} {s:List T} (hi:i < m.length) (hs:IsSt s):∃ s',cf (n + 58) 24 [.c i] (put m i s) = .ok (.t (.bl true)) (put m i s')∧IsSt s':=by
  obtain ⟨r,s1,h1,hs1,hr0,hr1⟩:=Zcv (n:=n + 56) (many:=16) hi hs (by decide) (by decide)
  obtain ⟨q,s2,h2,hs2,hq0,hq1⟩:=Zcv (n:=n + 56) (many:=3) hi hs1 (by decide) (by decide)
  obtain ⟨M,hM0,hM1,hM⟩:∃ M:Nat,1≤M∧M≤16∧ixT (.lst [.int (1 + r),.int 12,.int 13]) (.int q)=some (.int (M:Int)):=by
    have:q=0∨q=1∨q=2:=by omega
    rcases this with rfl | rfl | rfl
    · refine ⟨(1 + r).toNat,by omega,by omega,?_⟩
      rw [show (((1 + r).toNat:Nat):Int)=1 + r by omega]; rfl
    · exact ⟨12,by omega,by omega,rfl⟩
    · exact ⟨13,by omega,by omega,rfl⟩
  obtain ⟨ks,s3,h3,hs3,hlen,hk⟩:=Zgg (n:=n + 55) hi hs2 hM1
  obtain ⟨q2,s4,h4,hs4,hq20,hq21⟩:=Zcv (n:=n + 56) (many:=3) hi hs3 (by decide) (by decide)
  obtain ⟨a,ha,hA⟩:∃ a:Nat,a < 3∧ixT (.lst [.lst [],.lst [.str [40],.str [40],.str [110,111,116],.str [97,110,121],.str [41],.str [41],.str [97,110,100]],.lst [.str [110,111,116],.str [110,111,116],.str [97,110,121],.str [111,114]]]) (.int q2)=some (aT a):=by
    have:q2=0∨q2=1∨q2=2:=by omega
    rcases this with rfl | rfl | rfl
    · exact ⟨0,by omega,rfl⟩
    · exact ⟨1,by omega,rfl⟩
    · exact ⟨2,by omega,rfl⟩
  have hcP:cP ks≤16:=Nat.le_trans (List.countP_le_length) (by omega)
  have hcN:cN ks≤ks.length:=List.countP_le_length
  have hfew:=Zgd (a:=a) (c:=cP ks) hk (by omega) hcP
  have hfew':=Zgd (a:=a) (c:=cP ks - 1) hk (by omega) (by omega)
  have hah:(ahd a).length≤7:=by unfold ahd; split <;> decide
  refine ⟨s4,?_,hs4⟩
  refine Qu (ZhH _ _ _) rfl (show ex (cf (n + 57)) gv Xj [some (.c i),none,none,none,none,none,none,none,none,none] (put m i s) = .ok (.ret (.t (.bl true))) (put m i s4) from ?_) (Z3 (cell:=false) (Xz.trans Xz.symm))
  unfold Xj
  have hl3:∀ (env:Env),env[0]? = some (some (.c i))→ev (cf (n + 57)) gv (.lst (.cons (.bin .Add (.con (.int 1)) (.call 20 (.cons (.var 0) (.cons (.con (.int 16)) .nil)))) (.cons (.con (.int 12)) (.cons (.con (.int 13)) .nil)))) env (put m i s) = .ok (.t (.lst [.int (1 + r),.int 12,.int 13])) (put m i s1):=fun env h0=>by
    refine ev_lst (ZbT (QL (Zc _) ((Zk (Zb h0) (Zc _)).trans h1) (Zf3 _ _)) (ZbT (Zc _) (ZbT (Zc _) ZdE))) ?_ (by simp [lim])
    rfl
  rw [ZJ (ZcF (hl3 _ rfl) ((Zk (Zb rfl) (Zc _)).trans h2) hM)]
  dsimp only [List.set_cons_succ,List.set_cons_zero]
  have hT3:∀ {k:S} {e:E} {env:Env} {x y z:T} {m m1:Mem},ev (cf (n + 57)) gv e env m = .ok (.t (.tup [x,y,z])) m1→ex (cf (n + 57)) gv (.asgT [2,3,4] e k) env m=ex (cf (n + 57)) gv k (((env.set 2 (some (.t x))).set 3 (some (.t y))).set 4 (some (.t z))) m1:=fun h=>by rw [ex,h]; rfl
  rw [hT3 ((Zk (Zb rfl) (Zb rfl)).trans h3)]
  dsimp only [List.set_cons_succ,List.set_cons_zero]
  have hla:∀ (env:Env) (m:Mem),ev (cf (n + 57)) gv (.lst (.cons (.lst .nil) (.cons (.lst (.cons (.con (.str [40])) (.cons (.con (.str [40])) (.cons (.con (.str [110,111,116])) (.cons (.con (.str [97,110,121])) (.cons (.con (.str [41])) (.cons (.con (.str [41])) (.cons (.con (.str [97,110,100])) .nil)))))))) (.cons (.lst (.cons (.con (.str [110,111,116])) (.cons (.con (.str [110,111,116])) (.cons (.con (.str [97,110,121])) (.cons (.con (.str [111,114])) .nil))))) .nil)))) env m = .ok (.t (.lst [.lst [],.lst [.str [40],.str [40],.str [110,111,116],.str [97,110,121],.str [41],.str [41],.str [97,110,100]],.lst [.str [110,111,116],.str [110,111,116],.str [97,110,121],.str [111,114]]])) m:=fun env m=>rfl
  rw [ZJ (ZcF (hla _ _) ((Zk (Zb rfl) (Zc _)).trans h4) hA)]
  dsimp only [List.set_cons_succ,List.set_cons_zero]
  have hw:∀ e6 e7 e8 e9,ev (cf (n + 57)) gv (.bin .Add (.bin .Add (.bin .Add (.var 5) (.var 2)) (.lst (.cons (.con (.str [105,115])) (.cons (.con (.str [97])) .nil)))) (.var 3)) [some (.c i),some (.t (.int (M:Int))),some (.t (.lst (ks.map .str))),some (.t (.lst (List.replicate (cP ks) (.str wR)))),some (.t (.int (cN ks:Int))),some (.t (aT a)),e6,e7,e8,e9] (put m i s4) = .ok (.t (.lst ((twr a ks (cP ks)).map .str))) (put m i s4):=fun e6 e7 e8 e9=>by
    refine (QL (QL (QL (Zb rfl) (Zb rfl) (Ze7 (a:=(ahd a).map .str) ?_)) (Zhv (Zc _) (Zc _)) (Ze7 ?_)) (Zb rfl) (Ze7 ?_)).trans ?_
    · simp [lim]; omega
    · simp [lim]; omega
    · simp [lim]; omega
    · unfold twr; simp
  rw [ZJ (hw _ _ _ _)]
  dsimp only [List.set_cons_succ,List.set_cons_zero]
  rw [ZJ ((Qf (Ze3 hfew (Zb rfl))).trans (Ze6 hfew))]
  dsimp only [List.set_cons_succ,List.set_cons_zero]
  have hla:∀ e6 e7 e8 e9,ev (cf (n + 57)) gv (.blt .len (.cons (.var 5) .nil)) [some (.c i),some (.t (.int (M:Int))),some (.t (.lst (ks.map .str))),some (.t (.lst (List.replicate (cP ks) (.str wR)))),some (.t (.int (cN ks:Int))),some (.t (aT a)),e6,e7,e8,e9] (put m i s4) = .ok (.t (.int ((ahd a).length:Int))) (put m i s4):=fun e6 e7 e8 e9=>QV (Zb rfl) ((Zek _).trans (by rw [List.length_map]))
  have hlw:∀ e7 e8 e9,ev (cf (n + 57)) gv (.blt .len (.cons (.var 6) .nil)) [some (.c i),some (.t (.int (M:Int))),some (.t (.lst (ks.map .str))),some (.t (.lst (List.replicate (cP ks) (.str wR)))),some (.t (.int (cN ks:Int))),some (.t (aT a)),some (.t (.lst ((twr a ks (cP ks)).map .str))),e7,e8,e9] (put m i s4) = .ok (.t (.int ((twr a ks (cP ks)).length:Int))) (put m i s4):=fun e7 e8 e9=>QV (Zb rfl) ((Zek _).trans (by rw [List.length_map]))
  by_cases h12:12 < M
  · have hc:=Zh4 ha hk (by omega) (cP ks)
    refine Z8 (m1:=put m i s4) (Zz (k:=true) (Zb rfl) (Zc _) ((c_gt _ _).trans (congrArg some (decide_eq_true (by omega))))) (Zi (Zz (Zb rfl) (Zj (Zc _) (QL (hla _ _ _ _) (Zc _) (Zf3 _ _))) ?_))
    rw [hc]
    exact eq_self (XN _)
  rw [Zo (m1:=put m i s4) (Zz (k:=false) (Zb rfl) (Zc _) ((c_gt _ _).trans (congrArg some (decide_eq_false (by omega)))))]
  have hok:=twr_ok ha hk (by omega)
  have hwd:=Zga ha (show cN ks≤12 by omega)
  have hne:cmpT .NotEq (aT a) (.lst [])=some (!decide (a=0)):=ahd_ne ha
  obtain ⟨dp,hdp,hdp'⟩:∃ dp:Int,dp=(cN ks:Int) + 1 + b2i (!decide (a=0))∧(6 < dp↔¬ (cN ks + 1 + (if a=0 then 0 else 1)≤6)):=by
    refine ⟨_,rfl,?_⟩
    by_cases h:a=0
    · simp [h,b2i]; omega
    · simp [h,b2i]; omega
  have hdeep:∀ e6 e7 e8 e9,ev (cf (n + 57)) gv (.bin .Add (.bin .Add (.var 4) (.con (.int 1))) (.blt .int (.cons (.cmp .NotEq (.var 5) (.lst .nil)) .nil))) [some (.c i),some (.t (.int (M:Int))),some (.t (.lst (ks.map .str))),some (.t (.lst (List.replicate (cP ks) (.str wR)))),some (.t (.int (cN ks:Int))),some (.t (aT a)),e6,e7,e8,e9] (put m i s4) = .ok (.t (.int dp)) (put m i s4):=fun e6 e7 e8 e9=>by
    rw [hdp]
    exact QL (QL (Zb rfl) (Zc _) (Zf3 _ _)) (QV (Zz (Zb rfl) (show ev (cf (n + 57)) gv (.lst .nil) _ (put m i s4) = .ok (.t (.lst [])) (put m i s4) from rfl) hne) (l_int _)) (Zf3 _ _)
  rw [ZJ (hdeep _ _ _ _)]
  dsimp only [List.set_cons_succ,List.set_cons_zero]
  by_cases h6:6 < dp
  · rw [hwd,decide_eq_false (hdp'.mp h6)] at hok
    refine Z8 (m1:=put m i s4) (Zz (k:=true) (Zb rfl) (Zc _) ((c_gt _ _).trans (congrArg some (decide_eq_true h6)))) (Zi (Zz (Zb rfl) (Zj (Zc _) (hlw _ _ _)) ?_))
    rw [hok]
    exact eq_self (XN _)
  rw [Zo (m1:=put m i s4) (Zz (k:=false) (Zb rfl) (Zc _) ((c_gt _ _).trans (congrArg some (decide_eq_false h6))))]
  have hle:cN ks + 1 + (if a=0 then 0 else 1)≤6:=Classical.not_not.mp fun z=>h6 (hdp'.mpr z)
  rw [hwd,decide_eq_true hle,if_pos rfl] at hok
  rw [hok]
  rw [ZJ ((Qf (Zb rfl)).trans (Zkw (n:=n + 56) (by omega)))]
  dsimp only [List.set_cons_succ,List.set_cons_zero]
  have tail:ex (cf (n + 57)) gv (.ife (.cmp .NotEq (.var 7) (.tup (.cons (.con (.str [116,111,108,100])) (.cons (.var 9) .nil)))) (.ret (.con (.bl false)) .done) .done (.ret (.or (.cmp .Eq (.var 3) (.lst .nil)) (.cmp .Eq (.call 21 (.cons (.mth .join (.con (.str [32])) (.cons (.slc (.var 6) .hole (.neg (.con (.int 1)))) .nil)) .nil)) (.tup (.cons (.con (.str [114,101,102,117,115,101,100])) (.cons (.bin .Sub (.blt .len (.cons (.var 6) .nil)) (.con (.int 1))) .nil))))) .done))
      [some (.c i),some (.t (.int (M:Int))),some (.t (.lst (ks.map .str))),some (.t (.lst (List.replicate (cP ks) (.str wR)))),some (.t (.int (cN ks:Int))),some (.t (aT a)),some (.t (.lst ((twr a ks (cP ks)).map .str))),some (.t (Jj (.ok (wrap a (nots (cN ks)))))),some (.t (.int dp)),some (.t (wrap a (nots (cN ks))))] (put m i s4) = .ok (.ret (.t (.bl true))) (put m i s4):=by
    have hd:=Zgh ha (show cN ks≤5 by split at hle <;> omega)
    rw [Zo (m1:=put m i s4) (Zz (k:=false) (Zb rfl) (Zj (Zc _) (Zb rfl)) (Zg1 hd))]
    have h0:∀ env,env[3]? = some (some (.t (.lst (List.replicate (cP ks) (.str wR)))))→ev (cf (n + 57)) gv (.cmp .Eq (.var 3) (.lst .nil)) env (put m i s4) = .ok (.t (.bl (decide (cP ks=0)))) (put m i s4):=fun env h=>Zz (Zb h) (show ev (cf (n + 57)) gv (.lst .nil) env (put m i s4) = .ok (.t (.lst [])) (put m i s4) from rfl) eq_nil
    by_cases hc:cP ks=0
    · rw [decide_eq_true hc] at h0
      exact Zi (Ze2 (h0 _ rfl))
    · rw [decide_eq_false hc] at h0
      refine Zi ((ZdF (h0 _ rfl)).trans ?_)
      have hsl:slT (.lst ((twr a ks (cP ks)).map .str)) none (some (-1))=some (.lst ((twr a ks (cP ks - 1)).map .str)):=by
        have e:twr a ks (cP ks)=twr a ks (cP ks - 1)++[wR]:=by
          obtain ⟨c,e⟩:∃ c,cP ks=c + 1:=⟨cP ks - 1,by omega⟩
          rw [e,Nat.add_sub_cancel]
          unfold twr
          rw [List.replicate_succ']
          simp
        rw [e,List.map_append]
        show some (T.lst (cut _ none (some (-1))))=_
        rw [show List.map T.str [wR]=[T.str wR] from rfl,Zi2]
      have hop:=Zh3 ha hk (by omega) (by omega)
      have hl2:(twr a ks (cP ks - 1)).length + 1=(twr a ks (cP ks)).length:=by rw [Zco,Zco]; omega
      refine Zz ((Qf (Ze3 hfew' (ZkQ (Zb rfl) (show ev (cf (n + 57)) gv (.neg (.con (.int 1))) _ (put m i s4) = .ok (.t (.int (-1))) (put m i s4) from rfl) hsl))).trans (Ze6 hfew')) (Zj (Zc _) (QL (hlw _ _ _) (Zc _) (b_sub _ _))) ?_
      rw [hop,show ((twr a ks (cP ks)).length:Int) - 1=((twr a ks (cP ks - 1)).length:Int) by omega]
      exact eq_self (XN _)
  have c7:∀ e6 e7 e8 e9 (j:Int) (k:Bool),(((ahd a).length:Int) == j)=k→ev (cf (n + 57)) gv (.cmp .Eq (.blt .len (.cons (.var 5) .nil)) (.con (.int j))) [some (.c i),some (.t (.int (M:Int))),some (.t (.lst (ks.map .str))),some (.t (.lst (List.replicate (cP ks) (.str wR)))),some (.t (.int (cN ks:Int))),some (.t (aT a)),e6,e7,e8,e9] (put m i s4) = .ok (.t (.bl k)) (put m i s4):=fun e6 e7 e8 e9 j k h=>Zz (hla _ _ _ _) (Zc _) ((ZdP _ _).trans (congrArg some h))
  have hcase:a=0∨a=1∨a=2:=by omega
  rcases hcase with rfl | rfl | rfl
  · rw [Zo (c7 _ _ _ _ 7 false rfl),Zo (c7 _ _ _ _ 4 false rfl)]
    exact tail
  · rw [Zjq (c7 _ _ _ _ 7 true rfl) (show ex (cf (n + 57)) gv _ _ (put m i s4) = .ok (.next [some (.c i),some (.t (.int (M:Int))),some (.t (.lst (ks.map .str))),some (.t (.lst (List.replicate (cP ks) (.str wR)))),some (.t (.int (cN ks:Int))),some (.t (aT 1)),some (.t (.lst ((twr 1 ks (cP ks)).map .str))),some (.t (Jj (.ok (wrap 1 (nots (cN ks)))))),some (.t (.int dp)),some (.t (wrap 1 (nots (cN ks))))]) (put m i s4) from by
      rw [ZJ (Zj (Zc _) (Zj (Zj (Zc _) (ZaB (Zc _))) (Zb rfl))),ex]; rfl)]
    rw [Zo (c7 _ _ _ _ 4 false rfl)]
    exact tail
  · rw [Zo (c7 _ _ _ _ 7 false rfl)]
    rw [Zjq (c7 _ _ _ _ 4 true rfl) (show ex (cf (n + 57)) gv _ _ (put m i s4) = .ok (.next [some (.c i),some (.t (.int (M:Int))),some (.t (.lst (ks.map .str))),some (.t (.lst (List.replicate (cP ks) (.str wR)))),some (.t (.int (cN ks:Int))),some (.t (aT 2)),some (.t (.lst ((twr 2 ks (cP ks)).map .str))),some (.t (Jj (.ok (wrap 2 (nots (cN ks)))))),some (.t (.int dp)),some (.t (wrap 2 (nots (cN ks))))]) (put m i s4) from by
      rw [ZJ (Zj (Zc _) (Zj (Zj (Zc _) (Zj (Zc _) (ZaB (Zc _)))) (Zb rfl))),ex]; rfl)]
    exact tail
noncomputable def t12:List Nat:=repT [40,32] 12++[97,110,121]++repT [32,41] 12
noncomputable def t13:List Nat:=repT [40,32] 13++[97,110,121]++repT [32,41] 13
noncomputable def Zjv:T:=.tup [.str [97,110,100],.tup [.tup [.str [97,110,121]],.tup [.str [97,110,121]]]]
theorem rd_and:Jz (Qc 32 (t12++[32,97,110,100,32]++t12)) = .ok Zjv:=by kernel_rfl
theorem rd_13:Jz (Qc 32 t13) = .error 12:=by kernel_rfl
theorem rd_12:Jz (Qc 32 (t12++[32,41])) = .error 25:=by kernel_rfl
theorem law_turn {n:Nat} {m:Mem} {x:Int} {e0 e2 e3:Option W}:∃ m',ex (cf (n + 59)) gv Zbs [e0,some (.t (.int x)),e2,e3] m = .ok (.next [e0,some (.t (.int x)),e2,e3]) m':=by
  obtain ⟨s,h1,hs⟩:=Xf (n:=n + 58) (m:=m) (x:=x)
  obtain ⟨s',h2,hs'⟩:=Zid (n:=n + 1) (m:=m++[none]) (i:=m.length) (by simp) hs
  refine ⟨put (m++[none]) m.length s',?_⟩
  unfold Zbs
  rw [Zo (Xd (k:=true) ((Qf ((Qf (Zb rfl)).trans h1)).trans h2)),ex]
theorem law_end {n:Nat} {m:Mem} {ns:List Int} {e1:Option W} {k:S} (hk:ZbV = .forr (.nm 1) (.bin .Add (.lst (.cons (.call 18 (.cons (.var 0) (.cons (.con (.int 0)) .nil))) .nil)) (.slc (.var 0) (.con (.int 1)) (.con (.int 20)))) Zbs k):ex (cf (n + 59)) gv k [some (.t (.scr ns)),e1,none,none] m = .ok (.ret (.t (.bl true))) m:=by
  unfold ZbV at hk
  injection hk with _ _ _ hk
  subst hk
  have hstr:∀ (c:Int) (a:List Nat) (env:Env),(0≤c∧c≤64)∧a.length≤1000→ev (cf (n + 59)) gv (.bin .Mult (.con (.str a)) (.con (.int c))) env m = .ok (.t (.str (repT a c.toNat))) m:=fun c a env h=>QL (Zc _) (Zc _) (if_pos h)
  rw [ZJ (show ev (cf (n + 59)) gv (.bin .Add (.bin .Add (.bin .Mult (.con (.str [40,32])) (.con (.int 12))) (.con (.str [97,110,121]))) (.bin .Mult (.con (.str [32,41])) (.con (.int 12)))) _ m = .ok (.t (.str t12)) m from QL (QL (hstr 12 _ _ (by decide)) (Zc _) (ZbM (by decide))) (hstr 12 _ _ (by decide)) (ZbM (by decide)))]
  dsimp only [List.set_cons_succ,List.set_cons_zero]
  have hr:=Zbg (n:=n + 3) (m:=m) (cs:=t12++[32,97,110,100,32]++t12) (by decide)
  rw [rd_and] at hr
  have hr:_=_:=hr
  rw [Zo (m1:=m) (Zz (k:=false) ((Qf (QL (QL (Zb rfl) (Zc _) (ZbM (by decide))) (Zb rfl) (ZbM (by decide)))).trans hr) (Zj (Zc _) (Zj (ZaB (Zc _)) (ZaB (Zc _)))) (Zg1 (t:=Zjv) (by decide +kernel)))]
  rw [ZJ (show ev (cf (n + 59)) gv (.bin .Add (.bin .Add (.bin .Mult (.con (.str [40,32])) (.con (.int 13))) (.con (.str [97,110,121]))) (.bin .Mult (.con (.str [32,41])) (.con (.int 13)))) _ m = .ok (.t (.str t13)) m from QL (QL (hstr 13 _ _ (by decide)) (Zc _) (ZbM (by decide))) (hstr 13 _ _ (by decide)) (ZbM (by decide)))]
  dsimp only [List.set_cons_succ,List.set_cons_zero]
  have h13:=ZcK (n:=n + 2) (m:=m) (cs:=t13) (by decide)
  rw [rd_13] at h13
  have h12:=ZcK (n:=n + 2) (m:=m) (cs:=t12++[32,41]) (by decide)
  rw [rd_12] at h12
  refine Zi ((ZkR (Zz (k:=true) ((Qf (Zb rfl)).trans h13) (Zj (Zc _) (Zc _)) (eq_self (XN 12)))).trans ?_)
  exact Zz ((Qf (QL (Zb rfl) (Zc _) (ZbM (by decide)))).trans h12) (Zj (Zc _) (Zc _)) (eq_self (XN 25))
theorem law_true (ns:List Int) (hl:ns.length≤63):∃ m,Z4 fns gv 81 25 [.t (.scr ns)] [] = .ok (.t (.bl true)) m:=by
  obtain ⟨v,hv⟩:=ZkX (n:=79) (m:=[]) (ns:=ns)
  have hcut:=ZkU ns (some 1) (some 20)
  obtain ⟨env1,m1,e1,x1,rfl⟩:=Zb7 (f:=ex (cf 80) gv Zbs) (tg:=.nm 1) (P:=fun env m=>∃ e1,env=[some (.t (.scr ns)),e1,none,none]) (.int v :: (cut ns (some 1) (some 20)).map .int) [some (.t (.scr ns)),none,none,none] [] ⟨_,rfl⟩ (by
    rintro t ht env m ⟨e1,rfl⟩
    have:∃ x:Int,t = .int x:=by
      rcases List.mem_cons.mp ht with rfl | ht
      · exact ⟨v,rfl⟩
      · obtain ⟨x,_,rfl⟩:=List.mem_map.mp ht
        exact ⟨x,rfl⟩
    obtain ⟨y,rfl⟩:=this
    obtain ⟨m',h⟩:=law_turn (n:=21) (m:=m) (x:=y) (e0:=some (.t (.scr ns))) (e2:=none) (e3:=none)
    exact ⟨_,_,m',rfl,h,_,rfl⟩)
  refine ⟨[],?_⟩
  have key:ex (cf 80) gv ZbV [some (.t (.scr ns)),none,none,none] [] = .ok (.ret (.t (.bl true))) m1:=by
    unfold ZbV
    rw [ZcD (x:=.t (.lst (.int v :: (cut ns (some 1) (some 20)).map .int))) (m0:=[]) (m1:=[]) (by
      simp [ev,evs,isT,Zr,EVs,hv,lim]
      rw [Ze7 (by simp [lim]; omega)]
      rfl) rfl e1]
    exact law_end (n:=21) (by unfold ZbV; rfl)
  show cf 81 25 [.t (.scr ns)] []=_
  rw [cf_law]
  simp [key,Zf,fin]
end My
end
section
set_option maxHeartbeats 1000000
namespace My
open PySem PySem.Spec PyProof.Rows L2 Mi
noncomputable def top (i:Nat):Stmt:=PySem.Challenge.pw_matepoint_k15_twelve_within_one_another.main.body.getD i (.Pass ⟨0,0,0,0⟩)
noncomputable abbrev Zx:Stmt:=top 5
noncomputable abbrev Qy:Stmt:=top 6
noncomputable abbrev Qj:Stmt:=top 7
noncomputable abbrev Z2:Stmt:=top 8
noncomputable abbrev Z1:Stmt:=top 28
noncomputable abbrev Zu:Stmt:=top 29
noncomputable abbrev ZP:Stmt:=top 30
noncomputable abbrev ZX:Stmt:=top 31
noncomputable abbrev Qk:Stmt:=top 32
noncomputable abbrev Qz:Stmt:=top 33
noncomputable abbrev Zq:Stmt:=top 40
noncomputable abbrev Qw:Stmt:=top 41
noncomputable abbrev Qx:Stmt:=top 42
noncomputable abbrev Z0:Stmt:=top 43
noncomputable abbrev ZM:Stmt:=top 44
noncomputable abbrev Qi:Stmt:=top 45
noncomputable abbrev ZC:Stmt:=top 46
noncomputable abbrev ZZ:Stmt:=top 47
noncomputable abbrev Jt:Stmt:=top 49
noncomputable abbrev QZ:Stmt:=top 50
noncomputable abbrev Jr:Stmt:=top 51
noncomputable abbrev QC:Stmt:=top 52
noncomputable abbrev QB:Stmt:=top 53
noncomputable abbrev Js:Stmt:=top 54
noncomputable abbrev Q0:Stmt:=top 55
noncomputable abbrev Zan:Stmt:=top 56
noncomputable abbrev Jb:Stmt:=inBody (top 11) 0
set_option hygiene false
local macro_rules
  | `(tactic| wtm_at $s:str)=>do
    let mut r:Array (Lean.TSyntax `tactic):=#[]
    for c in s.getString.toList do
      let t ← match c with
        | '0'=>`(tactic| exact rfl)
        | '1'=>`(tactic| refine ZeL ?_ ?_ ?_)
        | '2'=>`(tactic| exact ZgN)
        | '3'=>`(tactic| exact Zke)
        | '4'=>`(tactic| exact (vr 0))
        | '5'=>`(tactic| exact hr)
        | '6'=>`(tactic| exact (Zj5 (by decide +kernel)))
        | '7'=>`(tactic| refine Zkk ?_ ?_)
        | '8'=>`(tactic| exact go.lk)
        | '9'=>`(tactic| refine ZiE ?_ ?_ ?_ ?_ ?_)
        | 'a'=>`(tactic| refine Zil ?_)
        | 'b'=>`(tactic| exact (vr 1))
        | 'c'=>`(tactic| refine Zj4 ?_)
        | 'd'=>`(tactic| exact (by with_unfolding_all rfl))
        | 'e'=>`(tactic| exact hr.units)
        | 'f'=>`(tactic| exact Zim)
        | 'g'=>`(tactic| refine ZjX ?_ ?_ ?_ ?_)
        | 'h'=>`(tactic| exact (vr 2))
        | 'i'=>`(tactic| refine ⟨?_⟩)
        | 'j'=>`(tactic| exact (fun _ _=>rfl))
        | 'k'=>`(tactic| refine ⟨f,fd,_,m,F.kp,b,?_⟩)
        | 'l'=>`(tactic| intro _ _ _ _ _ _ hr _ _ _ go)
        | 'm'=>`(tactic| exact T0)
        | 'n'=>`(tactic| exact ih)
        | 'o'=>`(tactic| exact go)
        | 'p'=>`(tactic| refine pe_ixW ?_ ?_ ?_)
        | 'q'=>`(tactic| refine ZjU ?_ ?_ ?_ ?_)
        | 'r'=>`(tactic| exact (by decide))
        | 's'=>`(tactic| refine Zkc ?_ ?_ ?_ ?_ ?_)
        | 't'=>`(tactic| exact T0.b_len)
        | 'u'=>`(tactic| exact (fun _=>rfl))
        | 'v'=>`(tactic| exact (vr 3))
        | 'w'=>`(tactic| refine Zkg ?_ ?_ ?_ ?_)
        | 'x'=>`(tactic| refine pt_of ?_ ?_)
        | 'y'=>`(tactic| exact (vr 5))
        | 'z'=>`(tactic| refine Zkl ?_ ?_)
        | 'A'=>`(tactic| refine pe_one ?_)
        | 'B'=>`(tactic| exact T0.b_isinstance)
        | 'C'=>`(tactic| refine ZjS ?_)
        | 'D'=>`(tactic| refine Zka ?_)
        | 'E'=>`(tactic| exact (by kernel_rfl))
        | 'F'=>`(tactic| refine pa_csS ?_ ?_)
        | 'G'=>`(tactic| refine sg (i:=1) ?_ ?_ ?_)
        | 'H'=>`(tactic| exact (vr 4))
        | 'I'=>`(tactic| refine Zkd ?_ ?_ ?_ ?_ ?_ ?_)
        | 'J'=>`(tactic| exact (by decide +kernel))
        | 'K'=>`(tactic| exact Zbf.nd)
        | 'L'=>`(tactic| exact pe_blW)
        | 'M'=>`(tactic| refine sg (i:=2) ?_ ?_ ?_)
        | 'N'=>`(tactic| exact T1.f_word_at)
        | 'O'=>`(tactic| refine Zgv (kk:=k) ?_ ?_ ?_ ?_ ?_ ?_ ?_)
        | 'P'=>`(tactic| exact T0.xi_NoText)
        | 'Q'=>`(tactic| exact T0.c_NoText)
        | 'R'=>`(tactic| refine sg (i:=3) ?_ ?_ ?_)
        | 'S'=>`(tactic| exact (vr 6))
        | 'T'=>`(tactic| refine pi_of ?_)
        | 'U'=>`(tactic| exact True.intro)
        | 'V'=>`(tactic| refine PW.pt ?_)
        | 'W'=>`(tactic| refine Ziq ?_ ?_ ?_ ?_)
        | 'X'=>`(tactic| refine Zi4 ?_ ?_ ?_ ?_ ?_ ?_ ?_)
        | 'Y'=>`(tactic| intro _ _ _ _ _)
        | 'Z'=>`(tactic| refine ⟨?_,?_,?_⟩)
        | '!'=>`(tactic| refine ⟨?_,?_⟩)
        | '#'=>`(tactic| exact T1.f_is_one_of)
        | '$'=>`(tactic| refine Ziv ?_ ?_)
        | '%'=>`(tactic| exact Zb1.nd)
        | '&'=>`(tactic| exact T0.b_int)
        | '('=>`(tactic| exact T0.b_tuple)
        | ')'=>`(tactic| refine pw_orW ?_ ?_)
        | '*'=>`(tactic| refine pw_or1 ?_)
        | '+'=>`(tactic| refine ZjR ?_ ?_)
        | ','=>`(tactic| exact Zal.nd)
        | '-'=>`(tactic| exact go.po)
        | '.'=>`(tactic| exact T1.f_read_joined)
        | '/'=>`(tactic| refine Zj6 ?_ ?_ ?_)
        | ':'=>`(tactic| exact ZeE.nd)
        | ';'=>`(tactic| exact T0.xk)
        | '<'=>`(tactic| exact (fun _ h=>absurd h List.not_mem_nil))
        | '='=>`(tactic| exact T1.f_Lpick)
        | '>'=>`(tactic| exact T1.f_Lcaught)
        | '?'=>`(tactic| refine ZiG ?_ ?_ ?_ ?_ ?_)
        | '@'=>`(tactic| exact T0.b_all)
        | '['=>`(tactic| exact T0.b_str)
        | ']'=>`(tactic| refine pe_orW ?_ ?_)
        | '^'=>`(tactic| refine Zin ?_ ?_ ?_ ?_ ?_ ?_ ?_)
        | '_'=>`(tactic| refine Zfp ?_ ?_ ?_)
        | '`'=>`(tactic| exact T0.b_range)
        | '{'=>`(tactic| refine ZiC ?_ ?_ ?_ ?_ ?_)
        | '|'=>`(tactic| exact XM.nd)
        | '}'=>`(tactic| exact Ziw)
        | '~'=>`(tactic| exact (fun _ h=>h))
        | 'À'=>`(tactic| exact (vr 7))
        | 'Á'=>`(tactic| refine sg (i:=9) ?_ ?_ ?_)
        | 'Â'=>`(tactic| exact (vr 9))
        | 'Ã'=>`(tactic| refine ZgH (N':=["sign"]) ?_ ?_)
        | 'Ä'=>`(tactic| exact (Jm 0 (show List.Nodup (["sign"]:List Str) from by decide +kernel)))
        | 'Å'=>`(tactic| exact T1.f_is_long_word)
        | 'Æ'=>`(tactic| refine Zki ?_ ?_ ?_ ?_ ?_)
        | 'Ç'=>`(tactic| exact (Zcw 4 5 rfl Xy.nd))
        | 'È'=>`(tactic| exact (JW rfl rfl T0.g_JOINS (by decide)))
        | 'É'=>`(tactic| exact (Zcw 4 5 rfl Jq.nd))
        | 'Ê'=>`(tactic| refine sg (i:=6) ?_ ?_ ?_)
        | 'Ë'=>`(tactic| exact Zc4.nd)
        | 'Ì'=>`(tactic| refine Zik ?_ ?_ ?_ ?_)
        | 'Í'=>`(tactic| refine ZgG ?_ ?_)
        | _=>Lean.Macro.throwUnsupported
      r:=r.push t
    `(tactic| ($[$r:tactic];*))
theorem Zd1:FnScope ["self","at"] ["self","at"] (Za Jb):=⟨rfl,rfl,rfl,by decide +kernel,rfl,by decide +kernel,by decide +kernel⟩
theorem Zbe:FnScope ["text"] ["text"] (Za Zx):=⟨rfl,rfl,rfl,by decide +kernel,rfl,by decide +kernel,by decide +kernel⟩
theorem Zff:FnScope ["thing"] ["thing"] (Za Qy):=⟨rfl,rfl,rfl,by decide +kernel,rfl,by decide +kernel,by decide +kernel⟩
theorem Zd0:FnScope ["thing"] ["thing"] (Za Qj):=⟨rfl,rfl,rfl,by decide +kernel,rfl,by decide +kernel,by decide +kernel⟩
theorem Zc3:FnScope ["thing"] ["thing"] (Za Z2):=⟨rfl,rfl,rfl,by decide +kernel,rfl,by decide +kernel,by decide +kernel⟩
theorem Zc2:FnScope ["thing","texts"] ["thing","texts"] (Za Z1):=⟨rfl,rfl,rfl,by decide +kernel,rfl,by decide +kernel,by decide +kernel⟩
theorem ZaS:FnScope ["thing"] ["thing"] (Za Zu):=⟨rfl,rfl,rfl,by decide +kernel,rfl,by decide +kernel,by decide +kernel⟩
theorem Zcs:FnScope ["thing"] ["thing"] (Za ZP):=⟨rfl,rfl,rfl,by decide +kernel,rfl,by decide +kernel,by decide +kernel⟩
theorem Zc0:FnScope ["thing"] ["thing"] (Za ZX):=⟨rfl,rfl,rfl,by decide +kernel,rfl,by decide +kernel,by decide +kernel⟩
theorem Zd2:FnScope ["thing"] ["thing"] (Za Qk):=⟨rfl,rfl,rfl,by decide +kernel,rfl,by decide +kernel,by decide +kernel⟩
theorem Zal:FnScope ["thing","layer","parts","depth"] ["thing"] (Za Qz):=⟨rfl,rfl,rfl,by decide +kernel,rfl,by decide +kernel,by decide +kernel⟩
theorem Zam:FnScope ["word"] ["word"] (Za Zq):=⟨rfl,rfl,rfl,by decide +kernel,rfl,by decide +kernel,by decide +kernel⟩
theorem Zfe:FnScope ["words","at"] ["words","at"] (Za Qw):=⟨rfl,rfl,rfl,by decide +kernel,rfl,by decide +kernel,by decide +kernel⟩
theorem ZbZ:FnScope ["words","at","word"] ["words","at"] (Za Qx):=⟨rfl,rfl,rfl,by decide +kernel,rfl,by decide +kernel,by decide +kernel⟩
theorem ZaJ:FnScope ["words","at","word"] ["words","at"] (Za Z0):=⟨rfl,rfl,rfl,by decide +kernel,rfl,by decide +kernel,by decide +kernel⟩
theorem XM:FnScope ["words","at","word","size","sign"] ["words","at"] (Za ZM):=⟨rfl,rfl,rfl,by decide +kernel,rfl,by decide +kernel,by decide +kernel⟩
theorem Xy:FnScope ["words","at","within","word","wish","behind"] ["words","at","within"] (Za Qi):=⟨rfl,rfl,rfl,by decide +kernel,rfl,by decide +kernel,by decide +kernel⟩
theorem Jq:FnScope ["words","at","within","joins","wish","behind","wishes"] ["words","at","within","joins"] (Za ZC):=⟨rfl,rfl,rfl,by decide +kernel,rfl,by decide +kernel,by decide +kernel⟩
theorem J6:FnScope ["text","words","wish","behind"] ["text"] (Za ZZ):=⟨rfl,rfl,rfl,by decide +kernel,rfl,by decide +kernel,by decide +kernel⟩
theorem Zic:FnScope ["_law_script","_law_k"] ["_law_script","_law_k"] (Za Jt):=⟨rfl,rfl,rfl,by decide +kernel,rfl,by decide +kernel,by decide +kernel⟩
theorem Zc4:FnScope ["_law_cell_here","_law_wide","_law_digits"] ["_law_cell_here"] (Za QZ):=⟨rfl,rfl,rfl,by decide +kernel,rfl,by decide +kernel,by decide +kernel⟩
theorem ZeE:FnScope ["_law_store_here","_law_many","_law_found","_law_number"] ["_law_store_here","_law_many"] (Za Jr):=⟨rfl,rfl,rfl,by decide +kernel,rfl,by decide +kernel,by decide +kernel⟩
theorem Zb1:FnScope ["_law_text","_law_told","e","_law_others"] ["_law_text"] (Za QC):=⟨rfl,rfl,rfl,by decide +kernel,rfl,by decide +kernel,by decide +kernel⟩
theorem Zb0:FnScope ["_law_store_here","_law_many","_law_kinds"] ["_law_store_here","_law_many"] (Za QB):=⟨rfl,rfl,rfl,by decide +kernel,rfl,by decide +kernel,by decide +kernel⟩
theorem Za0:FnScope ["_law_many","_law_wish","_law_k"] ["_law_many"] (Za Js):=⟨rfl,rfl,rfl,by decide +kernel,rfl,by decide +kernel,by decide +kernel⟩
theorem Zbf:FnScope ["_law_store_here","_law_many","_law_begin","_law_behind","_law_nots_here","_law_ahead","_law_words","_law_found","_law_deep","_law_due"] ["_law_store_here"] (Za Q0):=⟨rfl,rfl,rfl,by decide +kernel,rfl,by decide +kernel,by decide +kernel⟩
theorem Zc1:FnScope ["_law_script","_law_cell_here","_law_twelve","_law_thirteen"] ["_law_script"] (Za Zan):=⟨rfl,rfl,rfl,by decide +kernel,rfl,by decide +kernel,by decide +kernel⟩
structure Txt0 (P:Program) (w:World) (K:PySem.W.Frag) (mg:Str→Option Value):Prop where
  b_ValueError:mg "ValueError" = none
  b_all:mg "all" = none
  b_bool:mg "bool" = none
  b_int:mg "int" = none
  b_isinstance:mg "isinstance" = none
  b_len:mg "len" = none
  b_range:mg "range" = none
  b_str:mg "str" = none
  b_tuple:mg "tuple" = none
  g_LETTERS:Q9 K mg "LETTERS" (.str [97,98,99,100,101,102,103,104,105,106,107,108,109,110,111,112,113,114,115,116,117,118,119,120,121,122])
  g_LONGEST_WORD:Q9 K mg "LONGEST_WORD" (.int 8)
  g_WISH_WORDS:Q9 K mg "WISH_WORDS" (.tup [(.str [97,110,121]),(.str [105,115]),(.str [98,121]),(.str [110,111,116]),(.str [97,110,100]),(.str [111,114])])
  g_GREATEST_NUMBER:Q9 K mg "GREATEST_NUMBER" (.int 1000000000)
  g_DEEPEST:Q9 K mg "DEEPEST" (.int 6)
  g_MOST_PARTS:Q9 K mg "MOST_PARTS" (.int 40)
  g_FEWEST_JOINED:Q9 K mg "FEWEST_JOINED" (.int 2)
  g_MOST_JOINED:Q9 K mg "MOST_JOINED" (.int 6)
  g_FIGURES:Q9 K mg "FIGURES" (.str [48,49,50,51,52,53,54,55,56,57])
  g_MOST_FIGURES:Q9 K mg "MOST_FIGURES" (.int 10)
  g_MOST_WITHIN:Q9 K mg "MOST_WITHIN" (.int 12)
  d_SIGNS:ZhY P w K mg "SIGNS" (List.map (fun k=>.inr ⟨k.toArray⟩) [[62,61],[60,61]]) [(.str [108,101,97,115,116]),(.str [109,111,115,116])]
  g_JOINS:Q9 K mg "JOINS" (.tup [(.str [111,114]),(.str [97,110,100])])
  c_NoText:mg "NoText" = some (.ref 71)
  c_TooLate:mg "TooLate" = some (.ref 150)
  c_NoNumber:mg "NoNumber" = some (.ref 186)
  c_NoName:mg "NoName" = some (.ref 138)
  c_NoLine:mg "NoLine" = some (.ref 210)
  c_HasName:mg "HasName" = some (.ref 126)
  c_Full:mg "Full" = some (.ref 162)
  c_BadTime:mg "BadTime" = some (.ref 114)
  c_BadRule:mg "BadRule" = some (.ref 83)
  c_BadOffer:mg "BadOffer" = some (.ref 95)
  c_BadMany:mg "BadMany" = some (.ref 174)
  c_BadBook:mg "BadBook" = some (.ref 198)
  c_MateError:mg "MateError" = some (.ref 51)
  xi_NoText:XInit K 71 "at"
  xk:XKit K
  xg_NoText:XGet K 71
  xo_NoText_TooLate:PySem.W.kitOne K (.ref 71) (.ref 150)=some false
  xo_NoText_ValueError:PySem.W.kitOne K (.ref 71) (.type "ValueError")=some true
  xo_NoText_NoText:PySem.W.kitOne K (.ref 71) (.ref 71)=some true
  xt_NoText_198_174_95_83_114_162_126_210_138_186:PySem.W.kitAny K (.ref 71) (List.map (Value.ref) [198,174,95,83,114,162,126,210,138,186])=some false
  xm_NoText_MateError:PySem.W.exmOne K (.ref 71) (.ref 51)=some true
structure Txt1 (P:Program) (w:World) (K:PySem.W.Frag) (mg:Str→Option Value) (base:Heap) (k:Nat):Prop where
  f_is_long_word:FOk P w K mg base fns gv k "is_long_word" 0
  f_is_word:FOk P w K mg base fns gv k "is_word" 1
  f_is_whole:FOk P w K mg base fns gv k "is_whole" 2
  f_is_number:FOk P w K mg base fns gv k "is_number" 3
  f_is_one_of:FOk P w K mg base fns gv k "is_one_of" 4
  f_is_plain_wish:FOk P w K mg base fns gv k "is_plain_wish" 5
  f_are_joined:FOk P w K mg base fns gv k "are_joined" 6
  f_things_in:FOk P w K mg base fns gv k "things_in" 7
  f_has_form:FOk P w K mg base fns gv k "has_form" 8
  f_is_wish:FOk P w K mg base fns gv k "is_wish" 9
  f_is_number_text:FOk P w K mg base fns gv k "is_number_text" 10
  f_word_at:FOk P w K mg base fns gv k "word_at" 11
  f_name_at:FOk P w K mg base fns gv k "name_at" 12
  f_number_at:FOk P w K mg base fns gv k "number_at" 13
  f_read_plain:FOk P w K mg base fns gv k "read_plain" 14
  f_read_one:FOk P w K mg base fns gv k "read_one" 15
  f_read_joined:FOk P w K mg base fns gv k "read_joined" 16
  f_read_wish:FOk P w K mg base fns gv k "read_wish" 17
  f_Lcell:FOk P w K mg base fns gv k "_law_cell" 18
  f_Lstore:FOk P w K mg base fns gv k "_law_store" 19
  f_Lpick:FOk P w K mg base fns gv k "_law_pick" 20
  f_Lcaught:FOk P w K mg base fns gv k "_law_caught" 21
  f_Ltowers:FOk P w K mg base fns gv k "_law_towers" 22
  f_Lnots:FOk P w K mg base fns gv k "_law_nots" 23
  f_Lright:FOk P w K mg base fns gv k "_law_right" 24
  f_law:FOk P w K mg base fns gv k "law" 25
section
variable {P:Program} {w:World} {K:PySem.W.Frag} {mg:Str→Option Value} {base:Heap} {k:Nat} {f:Addr} {cdv:Value} {A:Around} {outer:List PySem.Env} {s:Shared} {H:Hp} {E:XK}
theorem Zbj (T0:Txt0 P w K mg) (T1:Txt1 P w K mg base k) (hr:Room k (A.deeper (envOfC "is_long_word" (Za Zx) s.heap.objs.size f cdv))) {xe:Value→Shared→Prop} {pn:List (Addr×Obj)} {xr:XR}
    (go:Go (asX (cxOf (CXF P w) P w K mg base ["text"] "is_long_word" (Za Zx) f cdv A outer s H E) xe pn) xr) :
    Bd (asX (cxOf (CXF P w) P w K mg base ["text"] "is_long_word" (Za Zx) f cdv A outer s H E) xe pn) (Ze Zx) (tS K (Z4 fns gv k) gv xr 1 Qm):=by
 wtm_at "iazws0t1420003dezw4";exact (JW rfl rfl T0.g_WISH_WORDS (by decide));wtm_at "deA?0@1Ã0XEET4uYZÄU!0w4";exact (JW rfl rfl T0.g_LETTERS (by decide));wtm_at "derr2000"
theorem Zfk (T0:Txt0 P w K mg) (T1:Txt1 P w K mg base k) (hr:Room k (A.deeper (envOfC "is_word" (Za Qy) s.heap.objs.size f cdv))) {xe:Value→Shared→Prop} {pn:List (Addr×Obj)} {xr:XR}
    (go:Go (asX (cxOf (CXF P w) P w K mg base ["thing"] "is_word" (Za Qy) f cdv A outer s H E) xe pn) xr) :
    Bd (asX (cxOf (CXF P w) P w K mg base ["thing"] "is_word" (Za Qy) f cdv A outer s H E) xe pn) (Ze Qy) (tS K (Z4 fns gv k) gv xr 1 Q6):=by
 wtm_at "iazI40B0[Jzws0t142000";exact (JW rfl rfl T0.g_LONGEST_WORD (by decide));wtm_at "deA98Å501420"
theorem Zd8 (T0:Txt0 P w K mg) (T1:Txt1 P w K mg base k) (hr:Room k (A.deeper (envOfC "is_whole" (Za Qj) s.heap.objs.size f cdv))) {xe:Value→Shared→Prop} {pn:List (Addr×Obj)} {xr:XR}
    (go:Go (asX (cxOf (CXF P w) P w K mg base ["thing"] "is_whole" (Za Qj) f cdv A outer s H E) xe pn) xr) :
    Bd (asX (cxOf (CXF P w) P w K mg base ["thing"] "is_whole" (Za Qj) f cdv A outer s H E) xe pn) (Ze Qj) (tS K (Z4 fns gv k) gv xr 1 JM):=by
 wtm_at "iazI40B0&JA";refine Zj7 ?_;wtm_at "I40B0";exact T0.b_bool;wtm_at "J"
theorem Zdb (T0:Txt0 P w K mg) (T1:Txt1 P w K mg base k) (hr:Room k (A.deeper (envOfC "is_number" (Za Z2) s.heap.objs.size f cdv))) {xe:Value→Shared→Prop} {pn:List (Addr×Obj)} {xr:XR}
    (go:Go (asX (cxOf (CXF P w) P w K mg base ["thing"] "is_number" (Za Z2) f cdv A outer s H E) xe pn) xr) :
    Bd (asX (cxOf (CXF P w) P w K mg base ["thing"] "is_number" (Za Z2) f cdv A outer s H E) xe pn) (Ze Z2) (tS K (Z4 fns gv k) gv xr 1 QX):=by
 wtm_at "iaz98";exact T1.f_is_whole;wtm_at "501420AÆ34";exact (JW rfl rfl T0.g_GREATEST_NUMBER (by decide));wtm_at "de"
theorem Zda (T0:Txt0 P w K mg) (T1:Txt1 P w K mg base k) (hr:Room k (A.deeper (envOfC "is_one_of" (Za Z1) s.heap.objs.size f cdv))) {xe:Value→Shared→Prop} {pn:List (Addr×Obj)} {xr:XR}
    (go:Go (asX (cxOf (CXF P w) P w K mg base ["thing","texts"] "is_one_of" (Za Z1) f cdv A outer s H E) xe pn) xr) :
    Bd (asX (cxOf (CXF P w) P w K mg base ["thing","texts"] "is_one_of" (Za Z1) f cdv A outer s H E) xe pn) (Ze Z1) (tS K (Z4 fns gv k) gv xr 2 Jk):=by
 wtm_at "iazI40B0[JAw4bde"
theorem ZaT (T0:Txt0 P w K mg) (T1:Txt1 P w K mg base k) (hr:Room k (A.deeper (envOfC "is_plain_wish" (Za Zu) s.heap.objs.size f cdv))) {xe:Value→Shared→Prop} {pn:List (Addr×Obj)} {xr:XR}
    (go:Go (asX (cxOf (CXF P w) P w K mg base ["thing"] "is_plain_wish" (Za Zu) f cdv A outer s H E) xe pn) xr) :
    Bd (asX (cxOf (CXF P w) P w K mg base ["thing"] "is_plain_wish" (Za Zu) f cdv A outer s H E) xe pn) (Ze Zu) (tS K (Z4 fns gv k) gv xr 1 Z9):=by
 wtm_at "igCxI40B0(JuaLfgqs0t1420003dea98#501p43j1c1620200fgqs0t1420003deaz98#501p43j1c1616200200A98";exact T1.f_is_word;wtm_at "501p43j20fgqs0t1420003deaz98#501p43j1c1616200200z98";exact T1.f_is_word;wtm_at "501p43j20A98";exact T1.f_is_number;wtm_at "501p43j20faL"
theorem Zcu (T0:Txt0 P w K mg) (T1:Txt1 P w K mg base k) (hr:Room k (A.deeper (envOfC "are_joined" (Za ZP) s.heap.objs.size f cdv))) {xe:Value→Shared→Prop} {pn:List (Addr×Obj)} {xr:XR}
    (go:Go (asX (cxOf (CXF P w) P w K mg base ["thing"] "are_joined" (Za ZP) f cdv A outer s H E) xe pn) xr) :
    Bd (asX (cxOf (CXF P w) P w K mg base ["thing"] "are_joined" (Za ZP) f cdv A outer s H E) xe pn) (Ze ZP) (tS K (Z4 fns gv k) gv xr 1 QG):=by
 wtm_at "iazI40B0(JAÆ";exact (JW rfl rfl T0.g_FEWEST_JOINED (by decide));wtm_at "s0t142000";exact (JW rfl rfl T0.g_MOST_JOINED (by decide));wtm_at "de"
theorem Zc7 (T0:Txt0 P w K mg) (T1:Txt1 P w K mg base k) (hr:Room k (A.deeper (envOfC "things_in" (Za ZX) s.heap.objs.size f cdv))) {xe:Value→Shared→Prop} {pn:List (Addr×Obj)} {xr:XR}
    (go:Go (asX (cxOf (CXF P w) P w K mg base ["thing"] "things_in" (Za ZX) f cdv A outer s H E) xe pn) xr) :
    Bd (asX (cxOf (CXF P w) P w K mg base ["thing"] "things_in" (Za ZX) f cdv A outer s H E) xe pn) (Ze ZX) (tS K (Z4 fns gv k) gv xr 1 QW):=by
 wtm_at "igV)CxI40B0(Ju*qs0t1420003deac2fgx98#501p43j1c1620200uac1p43j20fgV+x98#501p43j1c1616200200u";refine Zgu ?_;wtm_at "x98";exact T1.f_are_joined;wtm_at "501p43j20uap43jfac2"
theorem Zd9 (T0:Txt0 P w K mg) (T1:Txt1 P w K mg base k) (hr:Room k (A.deeper (envOfC "has_form" (Za Qk) s.heap.objs.size f cdv))) {xe:Value→Shared→Prop} {pn:List (Addr×Obj)} {xr:XR}
    (go:Go (asX (cxOf (CXF P w) P w K mg base ["thing"] "has_form" (Za Qk) f cdv A outer s H E) xe pn) xr) :
    Bd (asX (cxOf (CXF P w) P w K mg base ["thing"] "has_form" (Za Qk) f cdv A outer s H E) xe pn) (Ze Qk) (tS K (Z4 fns gv k) gv xr 1 Jf):=by
 wtm_at "ia]98";exact T1.f_is_plain_wish;wtm_at "501420Aws0t198";exact T1.f_things_in;wtm_at "50142020003de"
theorem Zfl (T0:Txt0 P w K mg) (T1:Txt1 P w K mg base k) (hr:Room k (A.deeper (envOfC "is_wish" (Za Qz) s.heap.objs.size f cdv))) {xe:Value→Shared→Prop} {pn:List (Addr×Obj)} {xr:XR}
    (go:Go (asX (cxOf (CXF P w) P w K mg base ["thing","layer","parts","depth"] "is_wish" (Za Qz) f cdv A outer s H E) xe pn) xr) :
    Bd (asX (cxOf (CXF P w) P w K mg base ["thing","layer","parts","depth"] "is_wish" (Za Qz) f cdv A outer s H E) xe pn) (Ze Qz) (tS K (Z4 fns gv k) gv xr 4 JL):=by
 wtm_at "iG,D1420M,3^0-_0`1";exact (JW rfl rfl T0.g_DEEPEST (by decide));wtm_at "20";exact (Jm 3 Zal.nd);wtm_at "r";refine Zio (i:=2) ?_ ?_ ?_;wtm_at ",s0t1b2000gV)qh";exact (JW rfl rfl T0.g_MOST_PARTS (by decide));wtm_at "de*Cx?0@1";refine ZgH (N':=["one"]) ?_ ?_;wtm_at "0XEETbuYZ";exact (Jm 0 (show List.Nodup (["one"]:List Str) from by decide +kernel));wtm_at "U!09";exact lk0;exact T1.f_has_form;wtm_at "501420rr2000uaLf";refine ZeJ (N':=["one","below"]) ?_ ?_ ?_ ?_ ?_ ?_ ?_;wtm_at "0XEETbuYZ";exact (Jm 0 (show List.Nodup (["one","below"]:List Str) from by decide +kernel));wtm_at "U";refine ⟨⟨_,_,_,rfl,?_,fun _=>rfl,?_,?_⟩,by decide,(show ∀ i∈tgS (.nm 1)++innS (.emit (.var 1)),i < 2 from by decide),?_⟩;wtm_at "T9";exact lk0;exact T1.f_things_in;wtm_at "501420";exact (Jm 1 (show List.Nodup (["one","below"]:List Str) from by decide +kernel));wtm_at "U!0brr,000faws0t1b20003de"
theorem Zao (T0:Txt0 P w K mg) (T1:Txt1 P w K mg base k) (hr:Room k (A.deeper (envOfC "is_number_text" (Za Zq) s.heap.objs.size f cdv))) {xe:Value→Shared→Prop} {pn:List (Addr×Obj)} {xr:XR}
    (go:Go (asX (cxOf (CXF P w) P w K mg base ["word"] "is_number_text" (Za Zq) f cdv A outer s H E) xe pn) xr) :
    Bd (asX (cxOf (CXF P w) P w K mg base ["word"] "is_number_text" (Za Zq) f cdv A outer s H E) xe pn) (Ze Zq) (tS K (Z4 fns gv k) gv xr 1 ZS):=by
 wtm_at "igV)C";refine ZjW ?_ ?_ ?_ ?_ ?_;wtm_at "3s0t142000";exact (JW rfl rfl T0.g_MOST_FIGURES (by decide));wtm_at "de*Cx?0@1Ã0XEET4uYZÄU!0w4";exact (JW rfl rfl T0.g_FIGURES (by decide));wtm_at "derr2000uaLfa]w46deAwp43j6de"
theorem Zfi (T0:Txt0 P w K mg) (T1:Txt1 P w K mg base k) (hr:Room k (A.deeper (envOfC "word_at" (Za Qw) s.heap.objs.size f cdv))) {xe:Value→Shared→Prop} {pn:List (Addr×Obj)} {xr:XR}
    (go:Go (asX (cxOf (CXF P w) P w K mg base ["words","at"] "word_at" (Za Qw) f cdv A outer s H E) xe pn) xr) :
    Bd (asX (cxOf (CXF P w) P w K mg base ["words","at"] "word_at" (Za Qw) f cdv A outer s H E) xe pn) (Ze Qw) (tS K (Z4 fns gv k) gv xr 2 JK):=by
 wtm_at "igqbs0t142000deap4bjfa6"
theorem Zfj (T0:Txt0 P w K mg) (T1:Txt1 P w K mg base k) (hr:Room k (A.deeper (envOfC "name_at" (Za Qx) s.heap.objs.size f cdv))) {xe:Value→Shared→Prop} {pn:List (Addr×Obj)} {xr:XR}
    (go:Go (asX (cxOf (CXF P w) P w K mg base ["words","at","word"] "name_at" (Za Qx) f cdv A outer s H E) xe pn) xr) :
    Bd (asX (cxOf (CXF P w) P w K mg base ["words","at","word"] "name_at" (Za Qx) f cdv A outer s H E) xe pn) (Ze Qx) (tS K (Z4 fns gv k) gv xr 3 Q5):=by
 wtm_at "iM";exact ZbZ.nd;wtm_at "98N50141b200gCx98Å501h20uO8PQ005bfah"
theorem Zc9 (T0:Txt0 P w K mg) (T1:Txt1 P w K mg base k) (hr:Room k (A.deeper (envOfC "number_at" (Za Z0) s.heap.objs.size f cdv))) {xe:Value→Shared→Prop} {pn:List (Addr×Obj)} {xr:XR}
    (go:Go (asX (cxOf (CXF P w) P w K mg base ["words","at","word"] "number_at" (Za Z0) f cdv A outer s H E) xe pn) xr) :
    Bd (asX (cxOf (CXF P w) P w K mg base ["words","at","word"] "number_at" (Za Z0) f cdv A outer s H E) xe pn) (Ze Z0) (tS K (Z4 fns gv k) gv xr 3 Qp):=by
 wtm_at "iM";exact ZaJ.nd;wtm_at "98N50141b200gCx98";exact T1.f_is_number_text;wtm_at "501h20uO8PQ005bfa{0&1h2000"
theorem Zct (T0:Txt0 P w K mg) (T1:Txt1 P w K mg base k) (hr:Room k (A.deeper (envOfC "read_plain" (Za ZM) s.heap.objs.size f cdv))) {xe:Value→Shared→Prop} {pn:List (Addr×Obj)} {xr:XR}
    (go:Go (asX (cxOf (CXF P w) P w K mg base ["words","at","word","size","sign"] "read_plain" (Za ZM) f cdv A outer s H E) xe pn) xr) :
    Bd (asX (cxOf (CXF P w) P w K mg base ["words","at","word","size","sign"] "read_plain" (Za ZM) f cdv A outer s H E) xe pn) (Ze ZM) (tS K (Z4 fns gv k) gv xr 5 Qo):=by
 wtm_at "iM|98N50141b200gqh6deac1c1h2017b3200fgqhc1616200deac1c1h198";exact T1.f_name_at;wtm_at "501417b320020017b3200fR|98";exact T1.f_name_at;wtm_at "50141b200";refine sg (i:=4) ?_ ?_ ?_;wtm_at "|98N501417b3200g";refine ZjT (neg:=true) (ok:=T0.d_SIGNS) ?_ ?_ ?_ ?_ ?_;wtm_at "00HrdO8PQ0057b3fac1c1";refine Zkf (ok:=T0.d_SIGNS) ?_ ?_ ?_ ?_ ?_;wtm_at "00Hjr1v198";exact T1.f_number_at;wtm_at "501417b3200200017b3200"
theorem Zd7 (T0:Txt0 P w K mg) (T1:Txt1 P w K mg base k) (hr:Room k (A.deeper (envOfC "read_one" (Za Qi) s.heap.objs.size f cdv))) {xe:Value→Shared→Prop} {pn:List (Addr×Obj)} {xr:XR}
    (go:Go (asX (cxOf (CXF P w) P w K mg base ["words","at","within","word","wish","behind"] "read_one" (Za Qi) f cdv A outer s H E) xe pn) xr) :
    Bd (asX (cxOf (CXF P w) P w K mg base ["words","at","within","word","wish","behind"] "read_one" (Za Qi) f cdv A outer s H E) xe pn) (Ze Qi) (tS K (Z4 fns gv k) gv xr 6 Je):=by
 wtm_at "iR";exact Xy.nd;wtm_at "98N50141b200gqvc1616200dea98";exact T1.f_read_plain;wtm_at "50141b200fgqh";exact (JW rfl rfl T0.g_MOST_WITHIN (by decide));wtm_at "deO8PQ005bfgqv6deWr98";exact T1.f_read_one;wtm_at "501417b317h32000Çac1c161H2001y200fWr98.501417b317h31È20000Çgq98N50141y2006deO8PQ005yfac1H17y3200"
theorem ZbQ (T0:Txt0 P w K mg) (T1:Txt1 P w K mg base k) (hr:Room k (A.deeper (envOfC "read_joined" (Za ZC) s.heap.objs.size f cdv))) {xe:Value→Shared→Prop} {pn:List (Addr×Obj)} {xr:XR}
    (go:Go (asX (cxOf (CXF P w) P w K mg base ["words","at","within","joins","wish","behind","wishes"] "read_joined" (Za ZC) f cdv A outer s H E) xe pn) xr) :
    Bd (asX (cxOf (CXF P w) P w K mg base ["words","at","within","joins","wish","behind","wishes"] "read_joined" (Za ZC) f cdv A outer s H E) xe pn) (Ze ZC) (tS K (Z4 fns gv k) gv xr 7 ZW):=by
 wtm_at "igqs0t1v20003dea98";exact T1.f_read_one;wtm_at "50141b1h2000fWr98.50141b1h1/v$30}20000ÉÊ";exact Jq.nd;refine ZgI ?_;wtm_at "1H20";refine Zfh ?_ ?_ ?_ ?_;wtm_at "-q98N50141y200pv3jdeWr98.501417y31h1/v$30}20000É";refine Zgy ?_ ?_;refine Zfr ?_ ?_;wtm_at "S1H20fgqs0t1S20003deac1H1y200fac1c1pv3j1";refine Zfq ?_ ?_ ?_ ?_ ?_;wtm_at "0(1S20002001y200"
theorem Zc8 (T0:Txt0 P w K mg) (T1:Txt1 P w K mg base k) (hr:Room k (A.deeper (envOfC "read_wish" (Za ZZ) s.heap.objs.size f cdv))) {xe:Value→Shared→Prop} {pn:List (Addr×Obj)} {xr:XR}
    (go:Go (asX (cxOf (CXF P w) P w K mg base ["text","words","wish","behind"] "read_wish" (Za ZZ) f cdv A outer s H E) xe pn) xr) :
    Bd (asX (cxOf (CXF P w) P w K mg base ["text","words","wish","behind"] "read_wish" (Za ZZ) f cdv A outer s H E) xe pn) (Ze ZZ) (tS K (Z4 fns gv k) gv xr 4 Qg):=by
 wtm_at "igCxI40B0[JuO8PQ0053fG";exact J6.nd;refine ZgF ?_ ?_;wtm_at "41620Wr98.501b13131È20000";exact (Zcw 2 3 rfl J6.nd);wtm_at "gV)qvs0t1b2000de*Cx98";exact T1.f_is_wish;wtm_at "501h20uO8PQ005vfah"
theorem Ziu (T0:Txt0 P w K mg) (T1:Txt1 P w K mg base k) (hr:Room k (A.deeper (envOfC "_law_cell" (Za Jt) s.heap.objs.size f cdv))) {xe:Value→Shared→Prop} {pn:List (Addr×Obj)} {xr:XR}
    (go:Go (asX (cxOf (CXF P w) P w K mg base ["_law_script","_law_k"] "_law_cell" (Za Jt) f cdv A outer s H E) xe pn) xr) :
    Bd (asX (cxOf (CXF P w) P w K mg base ["_law_script","_law_k"] "_law_cell" (Za Jt) f cdv A outer s H E) xe pn) (Ze Jt) (tS K (Z4 fns gv k) gv xr 2 ZaG):=by
 wtm_at "igqbs0t142000deap4bjfa3"
theorem Zgz (T0:Txt0 P w K mg) (T1:Txt1 P w K mg base k) (hr:Room k (A.deeper (envOfC "_law_store" (Za QZ) s.heap.objs.size f cdv))) {xe:Value→Shared→Prop} {pn:List (Addr×Obj)} {xr:XR}
    (go:Go (asX (cxOf (CXF P w) P w K mg base ["_law_cell_here","_law_wide","_law_digits"] "_law_store" (Za QZ) f cdv A outer s H E) xe pn) xr) :
    Bd (asX (cxOf (CXF P w) P w K mg base ["_law_cell_here","_law_wide","_law_digits"] "_law_store" (Za QZ) f cdv A outer s H E) xe pn) (Ze QZ) (tS K (Z4 fns gv k) gv xr 3 Zai):=by
 wtm_at "iGË733MË747777bbbbba";refine ZgI ?_;wtm_at "17h{0&1w4733de20001743132000"
theorem Zis (T0:Txt0 P w K mg) (T1:Txt1 P w K mg base k) (hr:Room k (A.deeper (envOfC "_law_pick" (Za Jr) s.heap.objs.size f cdv))) {xe:Value→Shared→Prop} {pn:List (Addr×Obj)} {xr:XR}
    (go:Go (asX (cxOf (CXF P w) P w K mg base ["_law_store_here","_law_many","_law_found","_law_number"] "_law_pick" (Za Jr) f cdv A outer s H E) xe pn) xr) :
    Bd (asX (cxOf (CXF P w) P w K mg base ["_law_store_here","_law_many","_law_found","_law_number"] "_law_pick" (Za Jr) f cdv A outer s H E) xe pn) (Ze Jr) (tS K (Z4 fns gv k) gv xr 4 ZaE):=by
 wtm_at "igqp43j3deM:7p43jbÌ7p43jb43ahfÌ7p43j343R:7777p43j73p43j333R:77v77v333R:77v77v333a77v3b"
theorem Zfn (T0:Txt0 P w K mg) (T1:Txt1 P w K mg base k) (hr:Room k (A.deeper (envOfC "_law_caught" (Za QC) s.heap.objs.size f cdv))) {xe:Value→Shared→Prop} {pn:List (Addr×Obj)} {xr:XR}
    (go:Go (asX (cxOf (CXF P w) P w K mg base ["_law_text","_law_told","e","_law_others"] "_law_caught" (Za QC) f cdv A outer s H E) xe pn) xr) :
    Bd (asX (cxOf (CXF P w) P w K mg base ["_law_text","_law_told","e","_law_others"] "_law_caught" (Za QC) f cdv A outer s H E) xe pn) (Ze QC) (tS K (Z4 fns gv k) gv xr 4 Q7):=by
 wtm_at "iG%c161";exact Zj8;wtm_at "200";refine Zij (D:=51) ?_ ?_ ?_ ?_ ?_ ?_ ?_ ?_ ?_ ?_ ?_ ?_;wtm_at "000%0";exact ⟨rfl,rfl⟩;wtm_at "0";exact T0.c_MateError;exact (List.forall_mem_cons.mpr ⟨T0.xm_NoText_MateError,(fun _ h=>absurd h List.not_mem_nil)⟩);intro xe pn xr go;wtm_at "G%c16198";exact T1.f_read_wish;wtm_at "501420200f";intro A2 pn2;wtm_at "R%";refine ZiA (as:=[198,174,95,83,114,162,126,210,138,186]) ?_ ?_ ?_ ?_ ?_ ?_ ?_ ?_;wtm_at "h0BF";exact (QQ (v:=.ref 198) rfl T0.c_BadBook rfl);wtm_at "F";exact (QQ (v:=.ref 174) rfl T0.c_BadMany rfl);wtm_at "F";exact (QQ (v:=.ref 95) rfl T0.c_BadOffer rfl);wtm_at "F";exact (QQ (v:=.ref 83) rfl T0.c_BadRule rfl);wtm_at "F";exact (QQ (v:=.ref 114) rfl T0.c_BadTime rfl);wtm_at "F";exact (QQ (v:=.ref 162) rfl T0.c_Full rfl);wtm_at "F";exact (QQ (v:=.ref 126) rfl T0.c_HasName rfl);wtm_at "F";exact (QQ (v:=.ref 210) rfl T0.c_NoLine rfl);wtm_at "F";exact (QQ (v:=.ref 138) rfl T0.c_NoName rfl);wtm_at "F";exact (QQ (v:=.ref 186) rfl T0.c_NoNumber rfl);exact pa_cs0;wtm_at "r;<";exact (List.forall_mem_cons.mpr ⟨⟨T0.xg_NoText,T0.xt_NoText_198_174_95_83_114_162_126_210_138_186⟩,(fun _ h=>absurd h List.not_mem_nil)⟩);wtm_at "gV+x";refine Zcx (cv:=(.ref 71)) (c:=(.ref 71)) ?_ ?_ ?_ ?_ ?_ ?_ ?_ ?_;wtm_at "h0B";exact (QQ (v:=.ref 71) rfl T0.c_NoText rfl);wtm_at "~;";exact (List.forall_mem_cons.mpr ⟨⟨T0.xg_NoText,T0.xo_NoText_NoText⟩,(fun _ h=>absurd h List.not_mem_nil)⟩);wtm_at "<u+x";refine Zcx (cv:=(.ty "ValueError")) (c:=(.type "ValueError")) ?_ ?_ ?_ ?_ ?_ ?_ ?_ ?_;wtm_at "h0B";exact (ZgK (v:=.ty "ValueError") rfl T0.b_ValueError (by decide +kernel) rfl);wtm_at "~;";exact (List.forall_mem_cons.mpr ⟨⟨T0.xg_NoText,T0.xo_NoText_ValueError⟩,(fun _ h=>absurd h List.not_mem_nil)⟩);wtm_at "<u+Cxvu";refine Zgu ?_;wtm_at "Cx";refine Zcx (cv:=(.ref 150)) (c:=(.ref 150)) ?_ ?_ ?_ ?_ ?_ ?_ ?_ ?_;wtm_at "h0B";exact (QQ (v:=.ref 150) rfl T0.c_TooLate rfl);wtm_at "~;<";exact (List.forall_mem_cons.mpr ⟨⟨T0.xg_NoText,T0.xo_NoText_TooLate⟩,(fun _ h=>absurd h List.not_mem_nil)⟩);wtm_at "uG%c161";refine Zj2 ?_ ?_;wtm_at "h";exact (List.forall_mem_cons.mpr ⟨⟨T0.xg_NoText,T0.xi_NoText.xs.na⟩,(fun _ h=>absurd h List.not_mem_nil)⟩);wtm_at "200fffab"
theorem Zfm (T0:Txt0 P w K mg) (T1:Txt1 P w K mg base k) (hr:Room k (A.deeper (envOfC "_law_towers" (Za QB) s.heap.objs.size f cdv))) {xe:Value→Shared→Prop} {pn:List (Addr×Obj)} {xr:XR}
    (go:Go (asX (cxOf (CXF P w) P w K mg base ["_law_store_here","_law_many","_law_kinds"] "_law_towers" (Za QB) f cdv A outer s H E) xe pn) xr) :
    Bd (asX (cxOf (CXF P w) P w K mg base ["_law_store_here","_law_many","_law_kinds"] "_law_towers" (Za QB) f cdv A outer s H E) xe pn) (Ze QB) (tS K (Z4 fns gv k) gv xr 3 JP):=by
 wtm_at "i";refine ZeJ (N':=["_law_k","_law_store_here"]) ?_ ?_ ?_ ?_ ?_ ?_ ?_;wtm_at "0XEE_0`1b20uYZ";exact (Jm 0 (show List.Nodup (["_law_k","_law_store_here"]:List Str) from by decide +kernel));wtm_at "U!0pD16162009";exact lk0;wtm_at "=501b13200jrr";exact Zb0.nd;wtm_at "000ac1h17D1620Íh16201Íh16202000"
theorem Zit (T0:Txt0 P w K mg) (T1:Txt1 P w K mg base k) (hr:Room k (A.deeper (envOfC "_law_nots" (Za Js) s.heap.objs.size f cdv))) {xe:Value→Shared→Prop} {pn:List (Addr×Obj)} {xr:XR}
    (go:Go (asX (cxOf (CXF P w) P w K mg base ["_law_many","_law_wish","_law_k"] "_law_nots" (Za Js) f cdv A outer s H E) xe pn) xr) :
    Bd (asX (cxOf (CXF P w) P w K mg base ["_law_many","_law_wish","_law_k"] "_law_nots" (Za Js) f cdv A outer s H E) xe pn) (Ze Js) (tS K (Z4 fns gv k) gv xr 3 ZaF):=by
 wtm_at "iG";exact Za0.nd;wtm_at "c1616200^0-_0`1420";exact (Jm 2 Za0.nd);wtm_at "rG";exact Za0.nd;wtm_at "c161b200fab"
theorem ZgA (T0:Txt0 P w K mg) (T1:Txt1 P w K mg base k) (hr:Room k (A.deeper (envOfC "_law_right" (Za Q0) s.heap.objs.size f cdv))) {xe:Value→Shared→Prop} {pn:List (Addr×Obj)} {xr:XR}
    (go:Go (asX (cxOf (CXF P w) P w K mg base ["_law_store_here","_law_many","_law_begin","_law_behind","_law_nots_here","_law_ahead","_law_words","_law_found","_law_deep","_law_due"] "_law_right" (Za Q0) f cdv A outer s H E) xe pn) xr) :
    Bd (asX (cxOf (CXF P w) P w K mg base ["_law_store_here","_law_many","_law_begin","_law_behind","_law_nots_here","_law_ahead","_law_words","_law_found","_law_deep","_law_due"] "_law_right" (Za Q0) f cdv A outer s H E) xe pn) (Ze Q0) (tS K (Z4 fns gv k) gv xr 10 Xj):=by
 wtm_at "iGKpD17398=5014132001313200098=501413200jWr98";exact T1.f_Ltowers;wtm_at "50141b200";exact (Ziz 2 3 4 rfl Zbf.nd);refine sg (i:=5) ?_ ?_ ?_;wtm_at "KpD1D21D16161616161616200000001D1616161620000200098=501413200jÊK777yhD1616200v";refine sg (i:=7) ?_ ?_ ?_;wtm_at "K98>501";refine ZeK ?_ ?_;wtm_at "61S2020gqb3deawÀc1617s0t1y20003200def";refine sg (i:=8) ?_ ?_ ?_;wtm_at "K77H3{0&1wyD2de2000gq";exact (vr 8);wtm_at "3deawÀc161s0t1S2000200defÁK98";exact T1.f_Lnots;wtm_at "501H20gqs0t1y20003deÁKc161c1c161c16202001Â200200ffgqs0t1y20003deÁKc161c1c161c161c16202002001Â200200ffgqÀc161Â200deaLfa]wvD2deAw98>501";refine ZeK ?_ ?_;wtm_at "61/S}$";refine Zj9 ?_;wtm_at "302020c1617s0t1S20003200de"
theorem Zjg (T0:Txt0 P w K mg) (T1:Txt1 P w K mg base k) (hr:Room k (A.deeper (envOfC "law" (Za Zan) s.heap.objs.size f cdv))) {xe:Value→Shared→Prop} {pn:List (Addr×Obj)} {xr:XR}
    (go:Go (asX (cxOf (CXF P w) P w K mg base ["_law_script","_law_cell_here","_law_twelve","_law_thirteen"] "law" (Za Zan) f cdv A outer s H E) xe pn) xr) :
    Bd (asX (cxOf (CXF P w) P w K mg base ["_law_script","_law_cell_here","_law_twelve","_law_thirteen"] "law" (Za Zan) f cdv A outer s H E) xe pn) (Ze Zan) (tS K (Z4 fns gv k) gv xr 4 ZbV):=by
 wtm_at "i^0-T7D198";exact T1.f_Lcell;wtm_at "50141320020/4$30$30";exact (Jm 1 Zc1.nd);wtm_at "rgCx98";exact T1.f_Lright;wtm_at "50198";exact T1.f_Lstore;wtm_at "501b2020uaLffM";exact Zc1.nd;wtm_at "777636763gq98";exact T1.f_read_wish;wtm_at "50177h6h20c161c1c16201c1620200200deaLfR";exact Zc1.nd;wtm_at "777636763azw98>501v20c1613200deAw98>5017h620c1613200de"
end
structure TxtF (K:PySem.W.Frag) (mg:Str→Option Value):Prop where
  f_is_long_word:∃ f fd,Fun K "is_long_word" "is_long_word" Zx f fd∧mg "is_long_word" = some (.ref f)∧Binds K fd ["text"] []
  f_is_word:∃ f fd,Fun K "is_word" "is_word" Qy f fd∧mg "is_word" = some (.ref f)∧Binds K fd ["thing"] []
  f_is_whole:∃ f fd,Fun K "is_whole" "is_whole" Qj f fd∧mg "is_whole" = some (.ref f)∧Binds K fd ["thing"] []
  f_is_number:∃ f fd,Fun K "is_number" "is_number" Z2 f fd∧mg "is_number" = some (.ref f)∧Binds K fd ["thing"] []
  f_is_one_of:∃ f fd,Fun K "is_one_of" "is_one_of" Z1 f fd∧mg "is_one_of" = some (.ref f)∧Binds K fd ["thing","texts"] []
  f_is_plain_wish:∃ f fd,Fun K "is_plain_wish" "is_plain_wish" Zu f fd∧mg "is_plain_wish" = some (.ref f)∧Binds K fd ["thing"] []
  f_are_joined:∃ f fd,Fun K "are_joined" "are_joined" ZP f fd∧mg "are_joined" = some (.ref f)∧Binds K fd ["thing"] []
  f_things_in:∃ f fd,Fun K "things_in" "things_in" ZX f fd∧mg "things_in" = some (.ref f)∧Binds K fd ["thing"] []
  f_has_form:∃ f fd,Fun K "has_form" "has_form" Qk f fd∧mg "has_form" = some (.ref f)∧Binds K fd ["thing"] []
  f_is_wish:∃ f fd,Fun K "is_wish" "is_wish" Qz f fd∧mg "is_wish" = some (.ref f)∧Binds K fd ["thing"] []
  f_is_number_text:∃ f fd,Fun K "is_number_text" "is_number_text" Zq f fd∧mg "is_number_text" = some (.ref f)∧Binds K fd ["word"] []
  f_word_at:∃ f fd,Fun K "word_at" "word_at" Qw f fd∧mg "word_at" = some (.ref f)∧Binds K fd ["words","at"] []
  f_name_at:∃ f fd,Fun K "name_at" "name_at" Qx f fd∧mg "name_at" = some (.ref f)∧Binds K fd ["words","at"] []
  f_number_at:∃ f fd,Fun K "number_at" "number_at" Z0 f fd∧mg "number_at" = some (.ref f)∧Binds K fd ["words","at"] []
  f_read_plain:∃ f fd,Fun K "read_plain" "read_plain" ZM f fd∧mg "read_plain" = some (.ref f)∧Binds K fd ["words","at"] []
  f_read_one:∃ f fd,Fun K "read_one" "read_one" Qi f fd∧mg "read_one" = some (.ref f)∧Binds K fd ["words","at","within"] []
  f_read_joined:∃ f fd,Fun K "read_joined" "read_joined" ZC f fd∧mg "read_joined" = some (.ref f)∧Binds K fd ["words","at","within","joins"] []
  f_read_wish:∃ f fd,Fun K "read_wish" "read_wish" ZZ f fd∧mg "read_wish" = some (.ref f)∧Binds K fd ["text"] []
  f_Lcell:∃ f fd,Fun K "_law_cell" "_law_cell" Jt f fd∧mg "_law_cell" = some (.ref f)∧Binds K fd ["_law_script","_law_k"] []
  f_Lstore:∃ f fd,Fun K "_law_store" "_law_store" QZ f fd∧mg "_law_store" = some (.ref f)∧Binds K fd ["_law_cell_here"] []
  f_Lpick:∃ f fd,Fun K "_law_pick" "_law_pick" Jr f fd∧mg "_law_pick" = some (.ref f)∧Binds K fd ["_law_store_here","_law_many"] []
  f_Lcaught:∃ f fd,Fun K "_law_caught" "_law_caught" QC f fd∧mg "_law_caught" = some (.ref f)∧Binds K fd ["_law_text"] []
  f_Ltowers:∃ f fd,Fun K "_law_towers" "_law_towers" QB f fd∧mg "_law_towers" = some (.ref f)∧Binds K fd ["_law_store_here","_law_many"] []
  f_Lnots:∃ f fd,Fun K "_law_nots" "_law_nots" Js f fd∧mg "_law_nots" = some (.ref f)∧Binds K fd ["_law_many"] []
  f_Lright:∃ f fd,Fun K "_law_right" "_law_right" Q0 f fd∧mg "_law_right" = some (.ref f)∧Binds K fd ["_law_store_here"] []
  f_law:∃ f fd,Fun K "law" "law" Zan f fd∧mg "law" = some (.ref f)∧Binds K fd ["_law_script"] []
theorem Zbp {P:Program} {w:World} {K:PySem.W.Frag} {mg:Str→Option Value} {base:Heap} {k:Nat} (T0:Txt0 P w K mg) (TF:TxtF K mg) (ih:Txt1 P w K mg base k):FOk P w K mg base fns gv (k + 1) "is_long_word" 0:=by
 obtain ⟨f,fd,F,m,b⟩:=TF.f_is_long_word;wtm_at "k";refine Z7 (fi:=0) (np:=1) (n:=1) (body:=Qm) (cell:=false) F Zbe ?_ ?_ ?_ ?_;wtm_at "000l";refine Zbj ?_ ?_ ?_ ?_;wtm_at "mn5o"
theorem ZfB {P:Program} {w:World} {K:PySem.W.Frag} {mg:Str→Option Value} {base:Heap} {k:Nat} (T0:Txt0 P w K mg) (TF:TxtF K mg) (ih:Txt1 P w K mg base k):FOk P w K mg base fns gv (k + 1) "is_word" 1:=by
 obtain ⟨f,fd,F,m,b⟩:=TF.f_is_word;wtm_at "k";refine Z7 (fi:=1) (np:=1) (n:=1) (body:=Q6) (cell:=false) F Zff ?_ ?_ ?_ ?_;wtm_at "000l";refine Zfk ?_ ?_ ?_ ?_;wtm_at "mn5o"
theorem Zec {P:Program} {w:World} {K:PySem.W.Frag} {mg:Str→Option Value} {base:Heap} {k:Nat} (T0:Txt0 P w K mg) (TF:TxtF K mg) (ih:Txt1 P w K mg base k):FOk P w K mg base fns gv (k + 1) "is_whole" 2:=by
 obtain ⟨f,fd,F,m,b⟩:=TF.f_is_whole;wtm_at "k";refine Z7 (fi:=2) (np:=1) (n:=1) (body:=JM) (cell:=false) F Zd0 ?_ ?_ ?_ ?_;wtm_at "000l";refine Zd8 ?_ ?_ ?_ ?_;wtm_at "mn5o"
theorem Zdn {P:Program} {w:World} {K:PySem.W.Frag} {mg:Str→Option Value} {base:Heap} {k:Nat} (T0:Txt0 P w K mg) (TF:TxtF K mg) (ih:Txt1 P w K mg base k):FOk P w K mg base fns gv (k + 1) "is_number" 3:=by
 obtain ⟨f,fd,F,m,b⟩:=TF.f_is_number;wtm_at "k";refine Z7 (fi:=3) (np:=1) (n:=1) (body:=QX) (cell:=false) F Zc3 ?_ ?_ ?_ ?_;wtm_at "000l";refine Zdb ?_ ?_ ?_ ?_;wtm_at "mn5o"
theorem Zdm {P:Program} {w:World} {K:PySem.W.Frag} {mg:Str→Option Value} {base:Heap} {k:Nat} (T0:Txt0 P w K mg) (TF:TxtF K mg) (ih:Txt1 P w K mg base k):FOk P w K mg base fns gv (k + 1) "is_one_of" 4:=by
 obtain ⟨f,fd,F,m,b⟩:=TF.f_is_one_of;wtm_at "k";refine Z7 (fi:=4) (np:=2) (n:=2) (body:=Jk) (cell:=false) F Zc2 ?_ ?_ ?_ ?_;wtm_at "000l";refine Zda ?_ ?_ ?_ ?_;wtm_at "mn5o"
theorem ZaU {P:Program} {w:World} {K:PySem.W.Frag} {mg:Str→Option Value} {base:Heap} {k:Nat} (T0:Txt0 P w K mg) (TF:TxtF K mg) (ih:Txt1 P w K mg base k):FOk P w K mg base fns gv (k + 1) "is_plain_wish" 5:=by
 obtain ⟨f,fd,F,m,b⟩:=TF.f_is_plain_wish;wtm_at "k";refine Z7 (fi:=5) (np:=1) (n:=1) (body:=Z9) (cell:=false) F ZaS ?_ ?_ ?_ ?_;wtm_at "000l";refine ZaT ?_ ?_ ?_ ?_;wtm_at "mn5o"
theorem ZcA {P:Program} {w:World} {K:PySem.W.Frag} {mg:Str→Option Value} {base:Heap} {k:Nat} (T0:Txt0 P w K mg) (TF:TxtF K mg) (ih:Txt1 P w K mg base k):FOk P w K mg base fns gv (k + 1) "are_joined" 6:=by
 obtain ⟨f,fd,F,m,b⟩:=TF.f_are_joined;wtm_at "k";refine Z7 (fi:=6) (np:=1) (n:=1) (body:=QG) (cell:=false) F Zcs ?_ ?_ ?_ ?_;wtm_at "000l";refine Zcu ?_ ?_ ?_ ?_;wtm_at "mn5o"
theorem Zdj {P:Program} {w:World} {K:PySem.W.Frag} {mg:Str→Option Value} {base:Heap} {k:Nat} (T0:Txt0 P w K mg) (TF:TxtF K mg) (ih:Txt1 P w K mg base k):FOk P w K mg base fns gv (k + 1) "things_in" 7:=by
 obtain ⟨f,fd,F,m,b⟩:=TF.f_things_in;wtm_at "k";refine Z7 (fi:=7) (np:=1) (n:=1) (body:=QW) (cell:=false) F Zc0 ?_ ?_ ?_ ?_;wtm_at "000l";refine Zc7 ?_ ?_ ?_ ?_;wtm_at "mn5o"
theorem Zed {P:Program} {w:World} {K:PySem.W.Frag} {mg:Str→Option Value} {base:Heap} {k:Nat} (T0:Txt0 P w K mg) (TF:TxtF K mg) (ih:Txt1 P w K mg base k):FOk P w K mg base fns gv (k + 1) "has_form" 8:=by
 obtain ⟨f,fd,F,m,b⟩:=TF.f_has_form;wtm_at "k";refine Z7 (fi:=8) (np:=1) (n:=1) (body:=Jf) (cell:=false) F Zd2 ?_ ?_ ?_ ?_;wtm_at "000l";refine Zd9 ?_ ?_ ?_ ?_;wtm_at "mn5o"
theorem ZfC {P:Program} {w:World} {K:PySem.W.Frag} {mg:Str→Option Value} {base:Heap} {k:Nat} (T0:Txt0 P w K mg) (TF:TxtF K mg) (ih:Txt1 P w K mg base k):FOk P w K mg base fns gv (k + 1) "is_wish" 9:=by
 obtain ⟨f,fd,F,m,b⟩:=TF.f_is_wish;wtm_at "k";refine Z7 (fi:=9) (np:=1) (n:=4) (body:=JL) (cell:=false) F Zal ?_ ?_ ?_ ?_;wtm_at "000l";refine Zfl ?_ ?_ ?_ ?_;wtm_at "mn5o"
theorem Zas {P:Program} {w:World} {K:PySem.W.Frag} {mg:Str→Option Value} {base:Heap} {k:Nat} (T0:Txt0 P w K mg) (TF:TxtF K mg) (ih:Txt1 P w K mg base k):FOk P w K mg base fns gv (k + 1) "is_number_text" 10:=by
 obtain ⟨f,fd,F,m,b⟩:=TF.f_is_number_text;wtm_at "k";refine Z7 (fi:=10) (np:=1) (n:=1) (body:=ZS) (cell:=false) F Zam ?_ ?_ ?_ ?_;wtm_at "000l";refine Zao ?_ ?_ ?_ ?_;wtm_at "mn5o"
theorem Zfz {P:Program} {w:World} {K:PySem.W.Frag} {mg:Str→Option Value} {base:Heap} {k:Nat} (T0:Txt0 P w K mg) (TF:TxtF K mg) (ih:Txt1 P w K mg base k):FOk P w K mg base fns gv (k + 1) "word_at" 11:=by
 obtain ⟨f,fd,F,m,b⟩:=TF.f_word_at;wtm_at "k";refine Z7 (fi:=11) (np:=2) (n:=2) (body:=JK) (cell:=false) F Zfe ?_ ?_ ?_ ?_;wtm_at "000l";refine Zfi ?_ ?_ ?_ ?_;wtm_at "mn5o"
theorem ZfA {P:Program} {w:World} {K:PySem.W.Frag} {mg:Str→Option Value} {base:Heap} {k:Nat} (T0:Txt0 P w K mg) (TF:TxtF K mg) (ih:Txt1 P w K mg base k):FOk P w K mg base fns gv (k + 1) "name_at" 12:=by
 obtain ⟨f,fd,F,m,b⟩:=TF.f_name_at;wtm_at "k";refine Z7 (fi:=12) (np:=2) (n:=3) (body:=Q5) (cell:=false) F ZbZ ?_ ?_ ?_ ?_;wtm_at "000l";refine Zfj ?_ ?_ ?_ ?_;wtm_at "mn5o"
theorem Zdl {P:Program} {w:World} {K:PySem.W.Frag} {mg:Str→Option Value} {base:Heap} {k:Nat} (T0:Txt0 P w K mg) (TF:TxtF K mg) (ih:Txt1 P w K mg base k):FOk P w K mg base fns gv (k + 1) "number_at" 13:=by
 obtain ⟨f,fd,F,m,b⟩:=TF.f_number_at;wtm_at "k";refine Z7 (fi:=13) (np:=2) (n:=3) (body:=Qp) (cell:=false) F ZaJ ?_ ?_ ?_ ?_;wtm_at "000l";refine Zc9 ?_ ?_ ?_ ?_;wtm_at "mn5o"
theorem Zcz {P:Program} {w:World} {K:PySem.W.Frag} {mg:Str→Option Value} {base:Heap} {k:Nat} (T0:Txt0 P w K mg) (TF:TxtF K mg) (ih:Txt1 P w K mg base k):FOk P w K mg base fns gv (k + 1) "read_plain" 14:=by
 obtain ⟨f,fd,F,m,b⟩:=TF.f_read_plain;wtm_at "k";refine Z7 (fi:=14) (np:=2) (n:=5) (body:=Qo) (cell:=false) F XM ?_ ?_ ?_ ?_;wtm_at "000l";refine Zct ?_ ?_ ?_ ?_;wtm_at "mn5o"
theorem Zeb {P:Program} {w:World} {K:PySem.W.Frag} {mg:Str→Option Value} {base:Heap} {k:Nat} (T0:Txt0 P w K mg) (TF:TxtF K mg) (ih:Txt1 P w K mg base k):FOk P w K mg base fns gv (k + 1) "read_one" 15:=by
 obtain ⟨f,fd,F,m,b⟩:=TF.f_read_one;wtm_at "k";refine Z7 (fi:=15) (np:=3) (n:=6) (body:=Je) (cell:=false) F Xy ?_ ?_ ?_ ?_;wtm_at "000l";refine Zd7 ?_ ?_ ?_ ?_;wtm_at "mn5o"
theorem ZbR {P:Program} {w:World} {K:PySem.W.Frag} {mg:Str→Option Value} {base:Heap} {k:Nat} (T0:Txt0 P w K mg) (TF:TxtF K mg) (ih:Txt1 P w K mg base k):FOk P w K mg base fns gv (k + 1) "read_joined" 16:=by
 obtain ⟨f,fd,F,m,b⟩:=TF.f_read_joined;wtm_at "k";refine Z7 (fi:=16) (np:=4) (n:=7) (body:=ZW) (cell:=false) F Jq ?_ ?_ ?_ ?_;wtm_at "000l";refine ZbQ ?_ ?_ ?_ ?_;wtm_at "mn5o"
theorem Zdk {P:Program} {w:World} {K:PySem.W.Frag} {mg:Str→Option Value} {base:Heap} {k:Nat} (T0:Txt0 P w K mg) (TF:TxtF K mg) (ih:Txt1 P w K mg base k):FOk P w K mg base fns gv (k + 1) "read_wish" 17:=by
 obtain ⟨f,fd,F,m,b⟩:=TF.f_read_wish;wtm_at "k";refine Z7 (fi:=17) (np:=1) (n:=4) (body:=Qg) (cell:=false) F J6 ?_ ?_ ?_ ?_;wtm_at "000l";refine Zc8 ?_ ?_ ?_ ?_;wtm_at "mn5o"
theorem ZiJ {P:Program} {w:World} {K:PySem.W.Frag} {mg:Str→Option Value} {base:Heap} {k:Nat} (T0:Txt0 P w K mg) (TF:TxtF K mg) (ih:Txt1 P w K mg base k):FOk P w K mg base fns gv (k + 1) "_law_cell" 18:=by
 obtain ⟨f,fd,F,m,b⟩:=TF.f_Lcell;wtm_at "k";refine Z7 (fi:=18) (np:=2) (n:=2) (body:=ZaG) (cell:=false) F Zic ?_ ?_ ?_ ?_;wtm_at "000l";refine Ziu ?_ ?_ ?_ ?_;wtm_at "mn5o"
theorem ZgY {P:Program} {w:World} {K:PySem.W.Frag} {mg:Str→Option Value} {base:Heap} {k:Nat} (T0:Txt0 P w K mg) (TF:TxtF K mg) (ih:Txt1 P w K mg base k):FOk P w K mg base fns gv (k + 1) "_law_store" 19:=by
 obtain ⟨f,fd,F,m,b⟩:=TF.f_Lstore;wtm_at "k";refine Z7 (fi:=19) (np:=1) (n:=3) (body:=Zai) (cell:=true) F Zc4 ?_ ?_ ?_ ?_;wtm_at "000l";refine Zgz ?_ ?_ ?_ ?_;wtm_at "mn5o"
theorem ZiH {P:Program} {w:World} {K:PySem.W.Frag} {mg:Str→Option Value} {base:Heap} {k:Nat} (T0:Txt0 P w K mg) (TF:TxtF K mg) (ih:Txt1 P w K mg base k):FOk P w K mg base fns gv (k + 1) "_law_pick" 20:=by
 obtain ⟨f,fd,F,m,b⟩:=TF.f_Lpick;wtm_at "k";refine Z7 (fi:=20) (np:=2) (n:=4) (body:=ZaE) (cell:=false) F ZeE ?_ ?_ ?_ ?_;wtm_at "000l";refine Zis ?_ ?_ ?_ ?_;wtm_at "mn5o"
theorem ZfE {P:Program} {w:World} {K:PySem.W.Frag} {mg:Str→Option Value} {base:Heap} {k:Nat} (T0:Txt0 P w K mg) (TF:TxtF K mg) (ih:Txt1 P w K mg base k):FOk P w K mg base fns gv (k + 1) "_law_caught" 21:=by
 obtain ⟨f,fd,F,m,b⟩:=TF.f_Lcaught;wtm_at "k";refine Z7 (fi:=21) (np:=1) (n:=4) (body:=Q7) (cell:=false) F Zb1 ?_ ?_ ?_ ?_;wtm_at "000l";refine Zfn ?_ ?_ ?_ ?_;wtm_at "mn5o"
theorem ZfD {P:Program} {w:World} {K:PySem.W.Frag} {mg:Str→Option Value} {base:Heap} {k:Nat} (T0:Txt0 P w K mg) (TF:TxtF K mg) (ih:Txt1 P w K mg base k):FOk P w K mg base fns gv (k + 1) "_law_towers" 22:=by
 obtain ⟨f,fd,F,m,b⟩:=TF.f_Ltowers;wtm_at "k";refine Z7 (fi:=22) (np:=2) (n:=3) (body:=JP) (cell:=false) F Zb0 ?_ ?_ ?_ ?_;wtm_at "000l";refine Zfm ?_ ?_ ?_ ?_;wtm_at "mn5o"
theorem ZiI {P:Program} {w:World} {K:PySem.W.Frag} {mg:Str→Option Value} {base:Heap} {k:Nat} (T0:Txt0 P w K mg) (TF:TxtF K mg) (ih:Txt1 P w K mg base k):FOk P w K mg base fns gv (k + 1) "_law_nots" 23:=by
 obtain ⟨f,fd,F,m,b⟩:=TF.f_Lnots;wtm_at "k";refine Z7 (fi:=23) (np:=1) (n:=3) (body:=ZaF) (cell:=false) F Za0 ?_ ?_ ?_ ?_;wtm_at "000l";refine Zit ?_ ?_ ?_ ?_;wtm_at "mn5o"
theorem ZgZ {P:Program} {w:World} {K:PySem.W.Frag} {mg:Str→Option Value} {base:Heap} {k:Nat} (T0:Txt0 P w K mg) (TF:TxtF K mg) (ih:Txt1 P w K mg base k):FOk P w K mg base fns gv (k + 1) "_law_right" 24:=by
 obtain ⟨f,fd,F,m,b⟩:=TF.f_Lright;wtm_at "k";refine Z7 (fi:=24) (np:=1) (n:=10) (body:=Xj) (cell:=false) F Zbf ?_ ?_ ?_ ?_;wtm_at "000l";refine ZgA ?_ ?_ ?_ ?_;wtm_at "mn5o"
theorem ok_law {P:Program} {w:World} {K:PySem.W.Frag} {mg:Str→Option Value} {base:Heap} {k:Nat} (T0:Txt0 P w K mg) (TF:TxtF K mg) (ih:Txt1 P w K mg base k):FOk P w K mg base fns gv (k + 1) "law" 25:=by
 obtain ⟨f,fd,F,m,b⟩:=TF.f_law;wtm_at "k";refine Z7 (fi:=25) (np:=1) (n:=4) (body:=ZbV) (cell:=false) F Zc1 ?_ ?_ ?_ ?_;wtm_at "000l";refine Zjg ?_ ?_ ?_ ?_;wtm_at "mn5o"
theorem Zjx {P:Program} {w:World} {K:PySem.W.Frag} {mg:Str→Option Value} {base:Heap} (T0:Txt0 P w K mg) (TF:TxtF K mg):∀ k:Nat,Txt1 P w K mg base k
  | 0=>⟨(let ⟨_,_,F,m,b⟩:=TF.f_is_long_word; ⟨_,_,_,m,F.kp,b,ZD⟩),(let ⟨_,_,F,m,b⟩:=TF.f_is_word; ⟨_,_,_,m,F.kp,b,ZD⟩),(let ⟨_,_,F,m,b⟩:=TF.f_is_whole; ⟨_,_,_,m,F.kp,b,ZD⟩),(let ⟨_,_,F,m,b⟩:=TF.f_is_number; ⟨_,_,_,m,F.kp,b,ZD⟩),(let ⟨_,_,F,m,b⟩:=TF.f_is_one_of; ⟨_,_,_,m,F.kp,b,ZD⟩),(let ⟨_,_,F,m,b⟩:=TF.f_is_plain_wish; ⟨_,_,_,m,F.kp,b,ZD⟩),(let ⟨_,_,F,m,b⟩:=TF.f_are_joined; ⟨_,_,_,m,F.kp,b,ZD⟩),(let ⟨_,_,F,m,b⟩:=TF.f_things_in; ⟨_,_,_,m,F.kp,b,ZD⟩),(let ⟨_,_,F,m,b⟩:=TF.f_has_form; ⟨_,_,_,m,F.kp,b,ZD⟩),(let ⟨_,_,F,m,b⟩:=TF.f_is_wish; ⟨_,_,_,m,F.kp,b,ZD⟩),(let ⟨_,_,F,m,b⟩:=TF.f_is_number_text; ⟨_,_,_,m,F.kp,b,ZD⟩),(let ⟨_,_,F,m,b⟩:=TF.f_word_at; ⟨_,_,_,m,F.kp,b,ZD⟩),(let ⟨_,_,F,m,b⟩:=TF.f_name_at; ⟨_,_,_,m,F.kp,b,ZD⟩),(let ⟨_,_,F,m,b⟩:=TF.f_number_at; ⟨_,_,_,m,F.kp,b,ZD⟩),(let ⟨_,_,F,m,b⟩:=TF.f_read_plain; ⟨_,_,_,m,F.kp,b,ZD⟩),(let ⟨_,_,F,m,b⟩:=TF.f_read_one; ⟨_,_,_,m,F.kp,b,ZD⟩),(let ⟨_,_,F,m,b⟩:=TF.f_read_joined; ⟨_,_,_,m,F.kp,b,ZD⟩),(let ⟨_,_,F,m,b⟩:=TF.f_read_wish; ⟨_,_,_,m,F.kp,b,ZD⟩),(let ⟨_,_,F,m,b⟩:=TF.f_Lcell; ⟨_,_,_,m,F.kp,b,ZD⟩),(let ⟨_,_,F,m,b⟩:=TF.f_Lstore; ⟨_,_,_,m,F.kp,b,ZD⟩),(let ⟨_,_,F,m,b⟩:=TF.f_Lpick; ⟨_,_,_,m,F.kp,b,ZD⟩),(let ⟨_,_,F,m,b⟩:=TF.f_Lcaught; ⟨_,_,_,m,F.kp,b,ZD⟩),(let ⟨_,_,F,m,b⟩:=TF.f_Ltowers; ⟨_,_,_,m,F.kp,b,ZD⟩),(let ⟨_,_,F,m,b⟩:=TF.f_Lnots; ⟨_,_,_,m,F.kp,b,ZD⟩),(let ⟨_,_,F,m,b⟩:=TF.f_Lright; ⟨_,_,_,m,F.kp,b,ZD⟩),(let ⟨_,_,F,m,b⟩:=TF.f_law; ⟨_,_,_,m,F.kp,b,ZD⟩)⟩
  | k + 1 =>
    have ih:=Zjx T0 TF k
    ⟨Zbp T0 TF ih,ZfB T0 TF ih,Zec T0 TF ih,Zdn T0 TF ih,Zdm T0 TF ih,ZaU T0 TF ih,ZcA T0 TF ih,Zdj T0 TF ih,Zed T0 TF ih,ZfC T0 TF ih,Zas T0 TF ih,Zfz T0 TF ih,ZfA T0 TF ih,Zdl T0 TF ih,Zcz T0 TF ih,Zeb T0 TF ih,ZbR T0 TF ih,Zdk T0 TF ih,ZiJ T0 TF ih,ZgY T0 TF ih,ZiH T0 TF ih,ZfE T0 TF ih,ZfD T0 TF ih,ZiI T0 TF ih,ZgZ T0 TF ih,ok_law T0 TF ih⟩
end My
end
section
set_option maxHeartbeats 1000000
namespace My
open PySem PySem.Spec PyProof.Rows L2 Mi
theorem us_1 {α:Type} {P:List α→Prop} {us:List α} (hl:us.length=1) (h:∀ x0:α,P [x0]):P us:=by
  rcases us with _ | ⟨x0,us⟩
  · simp at hl
  rcases us with _ | ⟨y,us⟩
  · exact h x0
  · simp at hl
theorem us_2 {α:Type} {P:List α→Prop} {us:List α} (hl:us.length=2) (h:∀ x0 x1:α,P [x0,x1]):P us:=by
  rcases us with _ | ⟨x0,us⟩
  · simp at hl
  rcases us with _ | ⟨x1,us⟩
  · simp at hl
  rcases us with _ | ⟨y,us⟩
  · exact h x0 x1
  · simp at hl
theorem us_3 {α:Type} {P:List α→Prop} {us:List α} (hl:us.length=3) (h:∀ x0 x1 x2:α,P [x0,x1,x2]):P us:=by
  rcases us with _ | ⟨x0,us⟩
  · simp at hl
  rcases us with _ | ⟨x1,us⟩
  · simp at hl
  rcases us with _ | ⟨x2,us⟩
  · simp at hl
  rcases us with _ | ⟨y,us⟩
  · exact h x0 x1 x2
  · simp at hl
theorem us_4 {α:Type} {P:List α→Prop} {us:List α} (hl:us.length=4) (h:∀ x0 x1 x2 x3:α,P [x0,x1,x2,x3]):P us:=by
  rcases us with _ | ⟨x0,us⟩
  · simp at hl
  rcases us with _ | ⟨x1,us⟩
  · simp at hl
  rcases us with _ | ⟨x2,us⟩
  · simp at hl
  rcases us with _ | ⟨x3,us⟩
  · simp at hl
  rcases us with _ | ⟨y,us⟩
  · exact h x0 x1 x2 x3
  · simp at hl
theorem all_mk {l:PySem.W.OpenLaw} {w:World} {K:PySem.W.Frag} {h:Heap} {mg:Str→Option Value} {fa f0 f1 f2 f3 f4 f5 f6 f7 f8 f9 f10 f11 f12 f13 f14 f15 f16 f17 f18 f19 f20 f21 f22 f23 f24 f25:Addr} (X:K.In h) (G:h.Ns mainGlobals mg) (hfa:mg "law" = some (.ref fa))
    {od0 an0 od1 an1 od2 an2 od3 an3 od4 an4 od5 an5 od6 an6 od7 an7 od8 an8 od9 an9 od10 an10 od11 an11 od12 an12 od13 an13 od14 an14 od15 an15 od16 an16 od17 an17 od18 an18 od19 an19 od20 an20 od21 an21 od22 an22 od23 an23 od24 an24 od25 an25:Option Addr} {sl0 sl1 sl2 sl3 sl4 sl5 sl6 sl7 sl8 sl9 sl10 sl11 sl12 sl13 sl14 sl15 sl16 sl17 sl18 sl19 sl20 sl21 sl22 sl23 sl24 sl25:Array (Option Value)} {oc0 kV0 dc0 pm0 cd0 ct0 oc1 kV1 dc1 pm1 cd1 ct1 oc2 kV2 dc2 pm2 cd2 ct2 oc3 kV3 dc3 pm3 cd3 ct3 oc4 kV4 dc4 pm4 cd4 ct4 oc5 kV5 dc5 pm5 cd5 ct5 oc6 kV6 dc6 pm6 cd6 ct6 oc7 kV7 dc7 pm7 cd7 ct7 oc8 kV8 dc8 pm8 cd8 ct8 oc9 kV9 dc9 pm9 cd9 ct9 oc10 kV10 dc10 pm10 cd10 ct10 oc11 kV11 dc11 pm11 cd11 ct11 oc12 kV12 dc12 pm12 cd12 ct12 oc13 kV13 dc13 pm13 cd13 ct13 oc14 kV14 dc14 pm14 cd14 ct14 oc15 kV15 dc15 pm15 cd15 ct15 oc16 kV16 dc16 pm16 cd16 ct16 oc17 kV17 dc17 pm17 cd17 ct17 oc18 kV18 dc18 pm18 cd18 ct18 oc19 kV19 dc19 pm19 cd19 ct19 oc20 kV20 dc20 pm20 cd20 ct20 oc21 kV21 dc21 pm21 cd21 ct21 oc22 kV22 dc22 pm22 cd22 ct22 oc23 kV23 dc23 pm23 cd23 ct23 oc24 kV24 dc24 pm24 cd24 ct24 oc25 kV25 dc25 pm25 cd25 ct25:Value}
    (a0:PySem.W.nsIn K mainGlobals "is_long_word" = some (some (.ref f0))) (l0:K.lookup f0=some ⟨oc0,od0,.func (PySem.W.fnOf "is_long_word" "is_long_word" (Zv Zx) (Ze Zx) (Za Zx) .none kV0 dc0 pm0 an0 cd0 ct0),sl0⟩) (c0:PySem.W.codeIn K cd0 "is_long_word" = true) (k0:PySem.W.keepIn K (.ref f0)=true)
    (a1:PySem.W.nsIn K mainGlobals "is_word" = some (some (.ref f1))) (l1:K.lookup f1=some ⟨oc1,od1,.func (PySem.W.fnOf "is_word" "is_word" (Zv Qy) (Ze Qy) (Za Qy) .none kV1 dc1 pm1 an1 cd1 ct1),sl1⟩) (c1:PySem.W.codeIn K cd1 "is_word" = true) (k1:PySem.W.keepIn K (.ref f1)=true)
    (a2:PySem.W.nsIn K mainGlobals "is_whole" = some (some (.ref f2))) (l2:K.lookup f2=some ⟨oc2,od2,.func (PySem.W.fnOf "is_whole" "is_whole" (Zv Qj) (Ze Qj) (Za Qj) .none kV2 dc2 pm2 an2 cd2 ct2),sl2⟩) (c2:PySem.W.codeIn K cd2 "is_whole" = true) (k2:PySem.W.keepIn K (.ref f2)=true)
    (a3:PySem.W.nsIn K mainGlobals "is_number" = some (some (.ref f3))) (l3:K.lookup f3=some ⟨oc3,od3,.func (PySem.W.fnOf "is_number" "is_number" (Zv Z2) (Ze Z2) (Za Z2) .none kV3 dc3 pm3 an3 cd3 ct3),sl3⟩) (c3:PySem.W.codeIn K cd3 "is_number" = true) (k3:PySem.W.keepIn K (.ref f3)=true)
    (a4:PySem.W.nsIn K mainGlobals "is_one_of" = some (some (.ref f4))) (l4:K.lookup f4=some ⟨oc4,od4,.func (PySem.W.fnOf "is_one_of" "is_one_of" (Zv Z1) (Ze Z1) (Za Z1) .none kV4 dc4 pm4 an4 cd4 ct4),sl4⟩) (c4:PySem.W.codeIn K cd4 "is_one_of" = true) (k4:PySem.W.keepIn K (.ref f4)=true)
    (a5:PySem.W.nsIn K mainGlobals "is_plain_wish" = some (some (.ref f5))) (l5:K.lookup f5=some ⟨oc5,od5,.func (PySem.W.fnOf "is_plain_wish" "is_plain_wish" (Zv Zu) (Ze Zu) (Za Zu) .none kV5 dc5 pm5 an5 cd5 ct5),sl5⟩) (c5:PySem.W.codeIn K cd5 "is_plain_wish" = true) (k5:PySem.W.keepIn K (.ref f5)=true)
    (a6:PySem.W.nsIn K mainGlobals "are_joined" = some (some (.ref f6))) (l6:K.lookup f6=some ⟨oc6,od6,.func (PySem.W.fnOf "are_joined" "are_joined" (Zv ZP) (Ze ZP) (Za ZP) .none kV6 dc6 pm6 an6 cd6 ct6),sl6⟩) (c6:PySem.W.codeIn K cd6 "are_joined" = true) (k6:PySem.W.keepIn K (.ref f6)=true)
    (a7:PySem.W.nsIn K mainGlobals "things_in" = some (some (.ref f7))) (l7:K.lookup f7=some ⟨oc7,od7,.func (PySem.W.fnOf "things_in" "things_in" (Zv ZX) (Ze ZX) (Za ZX) .none kV7 dc7 pm7 an7 cd7 ct7),sl7⟩) (c7:PySem.W.codeIn K cd7 "things_in" = true) (k7:PySem.W.keepIn K (.ref f7)=true)
    (a8:PySem.W.nsIn K mainGlobals "has_form" = some (some (.ref f8))) (l8:K.lookup f8=some ⟨oc8,od8,.func (PySem.W.fnOf "has_form" "has_form" (Zv Qk) (Ze Qk) (Za Qk) .none kV8 dc8 pm8 an8 cd8 ct8),sl8⟩) (c8:PySem.W.codeIn K cd8 "has_form" = true) (k8:PySem.W.keepIn K (.ref f8)=true)
    (a9:PySem.W.nsIn K mainGlobals "is_wish" = some (some (.ref f9))) (l9:K.lookup f9=some ⟨oc9,od9,.func (PySem.W.fnOf "is_wish" "is_wish" (Zv Qz) (Ze Qz) (Za Qz) .none kV9 dc9 pm9 an9 cd9 ct9),sl9⟩) (c9:PySem.W.codeIn K cd9 "is_wish" = true) (k9:PySem.W.keepIn K (.ref f9)=true)
    (a10:PySem.W.nsIn K mainGlobals "is_number_text" = some (some (.ref f10))) (l10:K.lookup f10=some ⟨oc10,od10,.func (PySem.W.fnOf "is_number_text" "is_number_text" (Zv Zq) (Ze Zq) (Za Zq) .none kV10 dc10 pm10 an10 cd10 ct10),sl10⟩) (c10:PySem.W.codeIn K cd10 "is_number_text" = true) (k10:PySem.W.keepIn K (.ref f10)=true)
    (a11:PySem.W.nsIn K mainGlobals "word_at" = some (some (.ref f11))) (l11:K.lookup f11=some ⟨oc11,od11,.func (PySem.W.fnOf "word_at" "word_at" (Zv Qw) (Ze Qw) (Za Qw) .none kV11 dc11 pm11 an11 cd11 ct11),sl11⟩) (c11:PySem.W.codeIn K cd11 "word_at" = true) (k11:PySem.W.keepIn K (.ref f11)=true)
    (a12:PySem.W.nsIn K mainGlobals "name_at" = some (some (.ref f12))) (l12:K.lookup f12=some ⟨oc12,od12,.func (PySem.W.fnOf "name_at" "name_at" (Zv Qx) (Ze Qx) (Za Qx) .none kV12 dc12 pm12 an12 cd12 ct12),sl12⟩) (c12:PySem.W.codeIn K cd12 "name_at" = true) (k12:PySem.W.keepIn K (.ref f12)=true)
    (a13:PySem.W.nsIn K mainGlobals "number_at" = some (some (.ref f13))) (l13:K.lookup f13=some ⟨oc13,od13,.func (PySem.W.fnOf "number_at" "number_at" (Zv Z0) (Ze Z0) (Za Z0) .none kV13 dc13 pm13 an13 cd13 ct13),sl13⟩) (c13:PySem.W.codeIn K cd13 "number_at" = true) (k13:PySem.W.keepIn K (.ref f13)=true)
    (a14:PySem.W.nsIn K mainGlobals "read_plain" = some (some (.ref f14))) (l14:K.lookup f14=some ⟨oc14,od14,.func (PySem.W.fnOf "read_plain" "read_plain" (Zv ZM) (Ze ZM) (Za ZM) .none kV14 dc14 pm14 an14 cd14 ct14),sl14⟩) (c14:PySem.W.codeIn K cd14 "read_plain" = true) (k14:PySem.W.keepIn K (.ref f14)=true)
    (a15:PySem.W.nsIn K mainGlobals "read_one" = some (some (.ref f15))) (l15:K.lookup f15=some ⟨oc15,od15,.func (PySem.W.fnOf "read_one" "read_one" (Zv Qi) (Ze Qi) (Za Qi) .none kV15 dc15 pm15 an15 cd15 ct15),sl15⟩) (c15:PySem.W.codeIn K cd15 "read_one" = true) (k15:PySem.W.keepIn K (.ref f15)=true)
    (a16:PySem.W.nsIn K mainGlobals "read_joined" = some (some (.ref f16))) (l16:K.lookup f16=some ⟨oc16,od16,.func (PySem.W.fnOf "read_joined" "read_joined" (Zv ZC) (Ze ZC) (Za ZC) .none kV16 dc16 pm16 an16 cd16 ct16),sl16⟩) (c16:PySem.W.codeIn K cd16 "read_joined" = true) (k16:PySem.W.keepIn K (.ref f16)=true)
    (a17:PySem.W.nsIn K mainGlobals "read_wish" = some (some (.ref f17))) (l17:K.lookup f17=some ⟨oc17,od17,.func (PySem.W.fnOf "read_wish" "read_wish" (Zv ZZ) (Ze ZZ) (Za ZZ) .none kV17 dc17 pm17 an17 cd17 ct17),sl17⟩) (c17:PySem.W.codeIn K cd17 "read_wish" = true) (k17:PySem.W.keepIn K (.ref f17)=true)
    (a18:PySem.W.nsIn K mainGlobals "_law_cell" = some (some (.ref f18))) (l18:K.lookup f18=some ⟨oc18,od18,.func (PySem.W.fnOf "_law_cell" "_law_cell" (Zv Jt) (Ze Jt) (Za Jt) .none kV18 dc18 pm18 an18 cd18 ct18),sl18⟩) (c18:PySem.W.codeIn K cd18 "_law_cell" = true) (k18:PySem.W.keepIn K (.ref f18)=true)
    (a19:PySem.W.nsIn K mainGlobals "_law_store" = some (some (.ref f19))) (l19:K.lookup f19=some ⟨oc19,od19,.func (PySem.W.fnOf "_law_store" "_law_store" (Zv QZ) (Ze QZ) (Za QZ) .none kV19 dc19 pm19 an19 cd19 ct19),sl19⟩) (c19:PySem.W.codeIn K cd19 "_law_store" = true) (k19:PySem.W.keepIn K (.ref f19)=true)
    (a20:PySem.W.nsIn K mainGlobals "_law_pick" = some (some (.ref f20))) (l20:K.lookup f20=some ⟨oc20,od20,.func (PySem.W.fnOf "_law_pick" "_law_pick" (Zv Jr) (Ze Jr) (Za Jr) .none kV20 dc20 pm20 an20 cd20 ct20),sl20⟩) (c20:PySem.W.codeIn K cd20 "_law_pick" = true) (k20:PySem.W.keepIn K (.ref f20)=true)
    (a21:PySem.W.nsIn K mainGlobals "_law_caught" = some (some (.ref f21))) (l21:K.lookup f21=some ⟨oc21,od21,.func (PySem.W.fnOf "_law_caught" "_law_caught" (Zv QC) (Ze QC) (Za QC) .none kV21 dc21 pm21 an21 cd21 ct21),sl21⟩) (c21:PySem.W.codeIn K cd21 "_law_caught" = true) (k21:PySem.W.keepIn K (.ref f21)=true)
    (a22:PySem.W.nsIn K mainGlobals "_law_towers" = some (some (.ref f22))) (l22:K.lookup f22=some ⟨oc22,od22,.func (PySem.W.fnOf "_law_towers" "_law_towers" (Zv QB) (Ze QB) (Za QB) .none kV22 dc22 pm22 an22 cd22 ct22),sl22⟩) (c22:PySem.W.codeIn K cd22 "_law_towers" = true) (k22:PySem.W.keepIn K (.ref f22)=true)
    (a23:PySem.W.nsIn K mainGlobals "_law_nots" = some (some (.ref f23))) (l23:K.lookup f23=some ⟨oc23,od23,.func (PySem.W.fnOf "_law_nots" "_law_nots" (Zv Js) (Ze Js) (Za Js) .none kV23 dc23 pm23 an23 cd23 ct23),sl23⟩) (c23:PySem.W.codeIn K cd23 "_law_nots" = true) (k23:PySem.W.keepIn K (.ref f23)=true)
    (a24:PySem.W.nsIn K mainGlobals "_law_right" = some (some (.ref f24))) (l24:K.lookup f24=some ⟨oc24,od24,.func (PySem.W.fnOf "_law_right" "_law_right" (Zv Q0) (Ze Q0) (Za Q0) .none kV24 dc24 pm24 an24 cd24 ct24),sl24⟩) (c24:PySem.W.codeIn K cd24 "_law_right" = true) (k24:PySem.W.keepIn K (.ref f24)=true)
    (a25:PySem.W.nsIn K mainGlobals "law" = some (some (.ref f25))) (l25:K.lookup f25=some ⟨oc25,od25,.func (PySem.W.fnOf "law" "law" (Zv Zan) (Ze Zan) (Za Zan) .none kV25 dc25 pm25 an25 cd25 ct25),sl25⟩) (c25:PySem.W.codeIn K cd25 "law" = true) (k25:PySem.W.keepIn K (.ref f25)=true)
    {t0:Tok} (gv0:PySem.W.nsIn K mainGlobals "LETTERS" = some (some (.str "abcdefghijklmnopqrstuvwxyz" t0)))
    {t1:Tok} (gv1:PySem.W.nsIn K mainGlobals "LONGEST_WORD" = some (some (.int 8 t1)))
    {ga2:Addr} {its2:Array Value} {gn2:Nat} {gsl2:Array (Option Value)} (gv2:PySem.W.nsIn K mainGlobals "WISH_WORDS" = some (some (.ref ga2))) (gl2:K.lookup ga2=some ⟨.type "tuple",none,.seq its2 gn2,gsl2⟩) (gz2:its2.size≤sizeLine) (gs2:StrsV [[97,110,121],[105,115],[98,121],[110,111,116],[97,110,100],[111,114]] its2.toList)
    {t3:Tok} (gv3:PySem.W.nsIn K mainGlobals "GREATEST_NUMBER" = some (some (.int 1000000000 t3)))
    {t4:Tok} (gv4:PySem.W.nsIn K mainGlobals "DEEPEST" = some (some (.int 6 t4)))
    {t5:Tok} (gv5:PySem.W.nsIn K mainGlobals "MOST_PARTS" = some (some (.int 40 t5)))
    {t6:Tok} (gv6:PySem.W.nsIn K mainGlobals "FEWEST_JOINED" = some (some (.int 2 t6)))
    {t7:Tok} (gv7:PySem.W.nsIn K mainGlobals "MOST_JOINED" = some (some (.int 6 t7)))
    {t8:Tok} (gv8:PySem.W.nsIn K mainGlobals "FIGURES" = some (some (.str "0123456789" t8)))
    {t9:Tok} (gv9:PySem.W.nsIn K mainGlobals "MOST_FIGURES" = some (some (.int 10 t9)))
    {t10:Tok} (gv10:PySem.W.nsIn K mainGlobals "MOST_WITHIN" = some (some (.int 12 t10)))
    {ga11:Addr} {des11:Array DictEntry} {gn11:Nat} {dus11:List Value} (gv11:PySem.W.nsIn K mainGlobals "SIGNS" = some (some (.ref ga11))) (gl11:K.lookup ga11=some ⟨.type "dict",none,.dict des11 gn11,#[]⟩) (gz11:(ga11 == sysModules)=false) (ge11:Ents w [[62,61],[60,61]] dus11 des11.toList) (gx11:VTs K dus11 [(.str [108,101,97,115,116]),(.str [109,111,115,116])])
    {ga12:Addr} {its12:Array Value} {gn12:Nat} {gsl12:Array (Option Value)} (gv12:PySem.W.nsIn K mainGlobals "JOINS" = some (some (.ref ga12))) (gl12:K.lookup ga12=some ⟨.type "tuple",none,.seq its12 gn12,gsl12⟩) (gz12:its12.size≤sizeLine) (gs12:StrsV [[111,114],[97,110,100]] its12.toList)
    (z0:PySem.W.nsIn K mainGlobals "ValueError" = some none)
    (z1:PySem.W.nsIn K mainGlobals "all" = some none)
    (z2:PySem.W.nsIn K mainGlobals "bool" = some none)
    (z3:PySem.W.nsIn K mainGlobals "int" = some none)
    (z4:PySem.W.nsIn K mainGlobals "isinstance" = some none)
    (z5:PySem.W.nsIn K mainGlobals "len" = some none)
    (z6:PySem.W.nsIn K mainGlobals "range" = some none)
    (z7:PySem.W.nsIn K mainGlobals "str" = some none)
    (z8:PySem.W.nsIn K mainGlobals "tuple" = some none)
    (cx0:PySem.W.nsIn K mainGlobals "NoText" = some (some (.ref 71)))
    (cx1:PySem.W.nsIn K mainGlobals "TooLate" = some (some (.ref 150)))
    (cx2:PySem.W.nsIn K mainGlobals "NoNumber" = some (some (.ref 186)))
    (cx3:PySem.W.nsIn K mainGlobals "NoName" = some (some (.ref 138)))
    (cx4:PySem.W.nsIn K mainGlobals "NoLine" = some (some (.ref 210)))
    (cx5:PySem.W.nsIn K mainGlobals "HasName" = some (some (.ref 126)))
    (cx6:PySem.W.nsIn K mainGlobals "Full" = some (some (.ref 162)))
    (cx7:PySem.W.nsIn K mainGlobals "BadTime" = some (some (.ref 114)))
    (cx8:PySem.W.nsIn K mainGlobals "BadRule" = some (some (.ref 83)))
    (cx9:PySem.W.nsIn K mainGlobals "BadOffer" = some (some (.ref 95)))
    (cx10:PySem.W.nsIn K mainGlobals "BadMany" = some (some (.ref 174)))
    (cx11:PySem.W.nsIn K mainGlobals "BadBook" = some (some (.ref 198)))
    (cx12:PySem.W.nsIn K mainGlobals "MateError" = some (some (.ref 51)))
    {qf0:Addr} {qod0 qan0:Option Addr} {qsl0:Array (Option Value)} {qoc0 qkV0 qdc0 qpm0 qcd0 qct0:Value}
    (q0a:xcIn K 71=true) (q0b:PySem.W.keepIn K (.ref 71)=true) (q0c:PySem.W.findIn K (.ref 71) "__setattr__" = some (some (.builtin "object.__setattr__"))) (q0d:Zkn K 71=true) (q0e:PySem.W.findIn K (.ref 71) "at" = some none) (q0f:PySem.W.hasDictIn K 71=true)
    (q0g:PySem.W.findIn K (.ref 71) "__init__" = some (some (.ref qf0))) (q0h:PySem.W.typeIn K (.ref qf0)=some (.type "function")) (q0i:K.lookup qf0=some ⟨qoc0,qod0,.func (PySem.W.fnOf "__init__" "NoText.__init__" (Zv Jb) (Ze Jb) (Za Jb) .none qkV0 qdc0 qpm0 qan0 qcd0 qct0),qsl0⟩) (q0j:PySem.W.codeIn K qcd0 "NoText.__init__" = true) (q0k:PySem.W.keepIn K (.ref qf0)=true)
    (q1a:PySem.W.specialIn K (.builtin "object.__class__") "__get__" = some (some (.builtin "getset_descriptor.__get__"))) (q1b:PySem.W.takesIn K (.builtin "object.__class__")=some true)
    (q2a:PySem.W.findIn K (.ref 71) "__getattribute__" = some (some (.builtin "BaseException.__getattribute__"))) (q2b:PySem.W.findIn K (.ref 71) "__getattr__" = some none) (q2c:PySem.W.mroIn K 71 (.type "BaseException")=some true) (q2d:PySem.W.hasDictIn K 71=true) (q2e:PySem.W.findIn K (.ref 71) "__class__" = some (some (.builtin "object.__class__"))) (q2f:PySem.W.mroIn K 71 (.type "object")=some true)
    (q3:PySem.W.kitOne K (.ref 71) (.ref 150)=some false)
    (q4:PySem.W.kitOne K (.ref 71) (.type "ValueError")=some true)
    (q5:PySem.W.kitOne K (.ref 71) (.ref 71)=some true)
    (q6:PySem.W.kitAny K (.ref 71) (List.map (Value.ref) [198,174,95,83,114,162,126,210,138,186])=some false)
    (q7:PySem.W.exmOne K (.ref 71) (.ref 51)=some true)
    : ∃ fd:FuncData,(∀ (s:Shared) (v:Value),BindsTo s fd ⟨[v],[]⟩ [("_law_script",v)])∧∀ base:Heap,K.In base→base.Ns mainGlobals mg→FnOk l.prog w K mg base (CXF l.prog w) 81 fa fd ["_law_script"] (spF K fns gv 81 25):=by
  have e:=hfa.symm.trans (PySem.W.mg_of X G a25)
  cases e
  have F0:=Z6 (st:=Zx) l0 c0 k0
  have b0:=F0.binds (ps:=["text"]) fun _ _ _ _ _ _ us hl=>us_1 (us:=us) (P:=fun us=>bindArgs _ ⟨us,[]⟩=pure (List.zip _ us)) hl fun _=>rfl
  have F1:=Z6 (st:=Qy) l1 c1 k1
  have b1:=F1.binds (ps:=["thing"]) fun _ _ _ _ _ _ us hl=>us_1 (us:=us) (P:=fun us=>bindArgs _ ⟨us,[]⟩=pure (List.zip _ us)) hl fun _=>rfl
  have F2:=Z6 (st:=Qj) l2 c2 k2
  have b2:=F2.binds (ps:=["thing"]) fun _ _ _ _ _ _ us hl=>us_1 (us:=us) (P:=fun us=>bindArgs _ ⟨us,[]⟩=pure (List.zip _ us)) hl fun _=>rfl
  have F3:=Z6 (st:=Z2) l3 c3 k3
  have b3:=F3.binds (ps:=["thing"]) fun _ _ _ _ _ _ us hl=>us_1 (us:=us) (P:=fun us=>bindArgs _ ⟨us,[]⟩=pure (List.zip _ us)) hl fun _=>rfl
  have F4:=Z6 (st:=Z1) l4 c4 k4
  have b4:=F4.binds (ps:=["thing","texts"]) fun _ _ _ _ _ _ us hl=>us_2 (us:=us) (P:=fun us=>bindArgs _ ⟨us,[]⟩=pure (List.zip _ us)) hl fun _ _=>rfl
  have F5:=Z6 (st:=Zu) l5 c5 k5
  have b5:=F5.binds (ps:=["thing"]) fun _ _ _ _ _ _ us hl=>us_1 (us:=us) (P:=fun us=>bindArgs _ ⟨us,[]⟩=pure (List.zip _ us)) hl fun _=>rfl
  have F6:=Z6 (st:=ZP) l6 c6 k6
  have b6:=F6.binds (ps:=["thing"]) fun _ _ _ _ _ _ us hl=>us_1 (us:=us) (P:=fun us=>bindArgs _ ⟨us,[]⟩=pure (List.zip _ us)) hl fun _=>rfl
  have F7:=Z6 (st:=ZX) l7 c7 k7
  have b7:=F7.binds (ps:=["thing"]) fun _ _ _ _ _ _ us hl=>us_1 (us:=us) (P:=fun us=>bindArgs _ ⟨us,[]⟩=pure (List.zip _ us)) hl fun _=>rfl
  have F8:=Z6 (st:=Qk) l8 c8 k8
  have b8:=F8.binds (ps:=["thing"]) fun _ _ _ _ _ _ us hl=>us_1 (us:=us) (P:=fun us=>bindArgs _ ⟨us,[]⟩=pure (List.zip _ us)) hl fun _=>rfl
  have F9:=Z6 (st:=Qz) l9 c9 k9
  have b9:=F9.binds (ps:=["thing"]) fun _ _ _ _ _ _ us hl=>us_1 (us:=us) (P:=fun us=>bindArgs _ ⟨us,[]⟩=pure (List.zip _ us)) hl fun _=>rfl
  have F10:=Z6 (st:=Zq) l10 c10 k10
  have b10:=F10.binds (ps:=["word"]) fun _ _ _ _ _ _ us hl=>us_1 (us:=us) (P:=fun us=>bindArgs _ ⟨us,[]⟩=pure (List.zip _ us)) hl fun _=>rfl
  have F11:=Z6 (st:=Qw) l11 c11 k11
  have b11:=F11.binds (ps:=["words","at"]) fun _ _ _ _ _ _ us hl=>us_2 (us:=us) (P:=fun us=>bindArgs _ ⟨us,[]⟩=pure (List.zip _ us)) hl fun _ _=>rfl
  have F12:=Z6 (st:=Qx) l12 c12 k12
  have b12:=F12.binds (ps:=["words","at"]) fun _ _ _ _ _ _ us hl=>us_2 (us:=us) (P:=fun us=>bindArgs _ ⟨us,[]⟩=pure (List.zip _ us)) hl fun _ _=>rfl
  have F13:=Z6 (st:=Z0) l13 c13 k13
  have b13:=F13.binds (ps:=["words","at"]) fun _ _ _ _ _ _ us hl=>us_2 (us:=us) (P:=fun us=>bindArgs _ ⟨us,[]⟩=pure (List.zip _ us)) hl fun _ _=>rfl
  have F14:=Z6 (st:=ZM) l14 c14 k14
  have b14:=F14.binds (ps:=["words","at"]) fun _ _ _ _ _ _ us hl=>us_2 (us:=us) (P:=fun us=>bindArgs _ ⟨us,[]⟩=pure (List.zip _ us)) hl fun _ _=>rfl
  have F15:=Z6 (st:=Qi) l15 c15 k15
  have b15:=F15.binds (ps:=["words","at","within"]) fun _ _ _ _ _ _ us hl=>us_3 (us:=us) (P:=fun us=>bindArgs _ ⟨us,[]⟩=pure (List.zip _ us)) hl fun _ _ _=>rfl
  have F16:=Z6 (st:=ZC) l16 c16 k16
  have b16:=F16.binds (ps:=["words","at","within","joins"]) fun _ _ _ _ _ _ us hl=>us_4 (us:=us) (P:=fun us=>bindArgs _ ⟨us,[]⟩=pure (List.zip _ us)) hl fun _ _ _ _=>rfl
  have F17:=Z6 (st:=ZZ) l17 c17 k17
  have b17:=F17.binds (ps:=["text"]) fun _ _ _ _ _ _ us hl=>us_1 (us:=us) (P:=fun us=>bindArgs _ ⟨us,[]⟩=pure (List.zip _ us)) hl fun _=>rfl
  have F18:=Z6 (st:=Jt) l18 c18 k18
  have b18:=F18.binds (ps:=["_law_script","_law_k"]) fun _ _ _ _ _ _ us hl=>us_2 (us:=us) (P:=fun us=>bindArgs _ ⟨us,[]⟩=pure (List.zip _ us)) hl fun _ _=>rfl
  have F19:=Z6 (st:=QZ) l19 c19 k19
  have b19:=F19.binds (ps:=["_law_cell_here"]) fun _ _ _ _ _ _ us hl=>us_1 (us:=us) (P:=fun us=>bindArgs _ ⟨us,[]⟩=pure (List.zip _ us)) hl fun _=>rfl
  have F20:=Z6 (st:=Jr) l20 c20 k20
  have b20:=F20.binds (ps:=["_law_store_here","_law_many"]) fun _ _ _ _ _ _ us hl=>us_2 (us:=us) (P:=fun us=>bindArgs _ ⟨us,[]⟩=pure (List.zip _ us)) hl fun _ _=>rfl
  have F21:=Z6 (st:=QC) l21 c21 k21
  have b21:=F21.binds (ps:=["_law_text"]) fun _ _ _ _ _ _ us hl=>us_1 (us:=us) (P:=fun us=>bindArgs _ ⟨us,[]⟩=pure (List.zip _ us)) hl fun _=>rfl
  have F22:=Z6 (st:=QB) l22 c22 k22
  have b22:=F22.binds (ps:=["_law_store_here","_law_many"]) fun _ _ _ _ _ _ us hl=>us_2 (us:=us) (P:=fun us=>bindArgs _ ⟨us,[]⟩=pure (List.zip _ us)) hl fun _ _=>rfl
  have F23:=Z6 (st:=Js) l23 c23 k23
  have b23:=F23.binds (ps:=["_law_many"]) fun _ _ _ _ _ _ us hl=>us_1 (us:=us) (P:=fun us=>bindArgs _ ⟨us,[]⟩=pure (List.zip _ us)) hl fun _=>rfl
  have F24:=Z6 (st:=Q0) l24 c24 k24
  have b24:=F24.binds (ps:=["_law_store_here"]) fun _ _ _ _ _ _ us hl=>us_1 (us:=us) (P:=fun us=>bindArgs _ ⟨us,[]⟩=pure (List.zip _ us)) hl fun _=>rfl
  have F25:=Z6 (st:=Zan) l25 c25 k25
  have b25:=F25.binds (ps:=["_law_script"]) fun _ _ _ _ _ _ us hl=>us_1 (us:=us) (P:=fun us=>bindArgs _ ⟨us,[]⟩=pure (List.zip _ us)) hl fun _=>rfl
  have G0:=Z6 (st:=Jb) q0i q0j q0k
  have H0:=G0.binds (ps:=["self","at"]) fun _ _ _ _ _ _ us hl=>us_2 (us:=us) (P:=fun us=>bindArgs _ ⟨us,[]⟩=pure (List.zip _ us)) hl fun _ _=>rfl
  have xi0:XInit K 71 "at":=⟨q0a,q0b,⟨q0c,q0d,q0e,q0f⟩,⟨_,_,_,_,Jb,"self","at",_,_,_,_,q0g,q0h,G0,Zd1,rfl,H0,by decide,by decide,by decide,by decide⟩⟩
  have T0:Txt0 l.prog w K mg:=⟨PySem.W.mg_none_of X G z0,PySem.W.mg_none_of X G z1,PySem.W.mg_none_of X G z2,PySem.W.mg_none_of X G z3,PySem.W.mg_none_of X G z4,PySem.W.mg_none_of X G z5,PySem.W.mg_none_of X G z6,PySem.W.mg_none_of X G z7,PySem.W.mg_none_of X G z8,ZeV (PySem.W.mg_of X G gv0) (by decide +kernel),Jp (PySem.W.mg_of X G gv1),ZdC (PySem.W.mg_of X G gv2) gl2 gz2 gs2,Jp (PySem.W.mg_of X G gv3),Jp (PySem.W.mg_of X G gv4),Jp (PySem.W.mg_of X G gv5),Jp (PySem.W.mg_of X G gv6),Jp (PySem.W.mg_of X G gv7),ZeV (PySem.W.mg_of X G gv8) (by decide +kernel),Jp (PySem.W.mg_of X G gv9),Jp (PySem.W.mg_of X G gv10),Zhn (PySem.W.mg_of X G gv11) gl11 gz11 ge11 (by decide) gx11,ZdC (PySem.W.mg_of X G gv12) gl12 gz12 gs12,PySem.W.mg_of X G cx0,PySem.W.mg_of X G cx1,PySem.W.mg_of X G cx2,PySem.W.mg_of X G cx3,PySem.W.mg_of X G cx4,PySem.W.mg_of X G cx5,PySem.W.mg_of X G cx6,PySem.W.mg_of X G cx7,PySem.W.mg_of X G cx8,PySem.W.mg_of X G cx9,PySem.W.mg_of X G cx10,PySem.W.mg_of X G cx11,PySem.W.mg_of X G cx12,xi0,⟨q1a,q1b⟩,⟨q2a,q2b,q2c,q2d,q2e,q2f⟩,q3,q4,q5,q6,q7⟩
  have TF:TxtF K mg:=⟨⟨_,_,F0,PySem.W.mg_of X G a0,b0⟩,⟨_,_,F1,PySem.W.mg_of X G a1,b1⟩,⟨_,_,F2,PySem.W.mg_of X G a2,b2⟩,⟨_,_,F3,PySem.W.mg_of X G a3,b3⟩,⟨_,_,F4,PySem.W.mg_of X G a4,b4⟩,⟨_,_,F5,PySem.W.mg_of X G a5,b5⟩,⟨_,_,F6,PySem.W.mg_of X G a6,b6⟩,⟨_,_,F7,PySem.W.mg_of X G a7,b7⟩,⟨_,_,F8,PySem.W.mg_of X G a8,b8⟩,⟨_,_,F9,PySem.W.mg_of X G a9,b9⟩,⟨_,_,F10,PySem.W.mg_of X G a10,b10⟩,⟨_,_,F11,PySem.W.mg_of X G a11,b11⟩,⟨_,_,F12,PySem.W.mg_of X G a12,b12⟩,⟨_,_,F13,PySem.W.mg_of X G a13,b13⟩,⟨_,_,F14,PySem.W.mg_of X G a14,b14⟩,⟨_,_,F15,PySem.W.mg_of X G a15,b15⟩,⟨_,_,F16,PySem.W.mg_of X G a16,b16⟩,⟨_,_,F17,PySem.W.mg_of X G a17,b17⟩,⟨_,_,F18,PySem.W.mg_of X G a18,b18⟩,⟨_,_,F19,PySem.W.mg_of X G a19,b19⟩,⟨_,_,F20,PySem.W.mg_of X G a20,b20⟩,⟨_,_,F21,PySem.W.mg_of X G a21,b21⟩,⟨_,_,F22,PySem.W.mg_of X G a22,b22⟩,⟨_,_,F23,PySem.W.mg_of X G a23,b23⟩,⟨_,_,F24,PySem.W.mg_of X G a24,b24⟩,⟨_,_,F25,PySem.W.mg_of X G a25,b25⟩⟩
  refine ⟨PySem.W.fnOf "law" "law" (Zv Zan) (Ze Zan) (Za Zan) .none kV25 dc25 pm25 an25 cd25 ct25,fun s v=>.of_eq rfl,fun base _ _=>?_⟩
  refine Z7 (fi:=25) (np:=1) (n:=4) (body:=ZbV) (cell:=false) F25 Zc1 ?_ ?_ ?_ ?_
  exact rfl
  exact rfl
  exact rfl
  intro _ _ _ _ _ _ hr _ _ _ go
  refine Zjg ?_ ?_ ?_ ?_
  exact T0
  exact Zjx T0 TF 80
  exact hr
  exact go
theorem walk {l:PySem.W.OpenLaw} {q:Program} {loose:List Str} {XP:(Str→Option Value)→Heap→Prop} {YP:World→Heap→Prop} {d:DefRec} {K:Params→PySem.W.Frag} (hn:l.most=some 63) (hdf:d.params.defaults=[])
    (hY:∀ (w:World) (h:Heap),YP w h→(K w.params).In h)
    (F:∀ (w:World) (mg:Str→Option Value) (fa:Addr) (h:Heap),(K w.params).In h→h.Ns mainGlobals mg→mg d.name=some (.ref fa) →
      ∃ fd:FuncData,(∀ (s:Shared) (u:Value),BindsTo s fd ⟨[u],[]⟩ [("_law_script",u)])∧∀ base:Heap,(K w.params).In base→base.Ns mainGlobals mg→FnOk l.prog w (K w.params) mg base (CXF l.prog w) 81 fa fd ["_law_script"] (spF (K w.params) fns gv 81 25)) :
    PySem.W.WalkO q loose XP YP l.row.toRowW d [] (fun f vs=>PySem.call f vs) :=
  L2.walk_of (n:=63) (k:=81) (x:="_law_script") (CX:=fun w=>CXF l.prog w) (sp:=fun w=>spF (K w.params) fns gv 81 25) hn (by decide) hdf ⟨rfl,by decide,by decide⟩ hY F (fun _ _ a ns hl hO hS=>law_sp hO hS (law_true ns hl)) fun _ _ _ _ _ z=>by obtain ⟨_,_,_,_,_,_,h⟩:=z; exact h
theorem walkX {l:PySem.W.OpenLaw} {q:Program} {loose:List Str} {XP:(Str→Option Value)→Heap→Prop} {d:DefRec} {K:Params→PySem.W.Frag} {as:List Addr} {n t:Nat} (hn:l.most=some 63) (hdf:d.params.defaults=[]) (he:∀ P,as=(K P).map (·.1))
    (F:∀ (w:World) (mg:Str→Option Value) (fa:Addr) (h:Heap),(K w.params).In h→h.Ns mainGlobals mg→mg d.name=some (.ref fa) →
      ∃ fd:FuncData,(∀ (s:Shared) (u:Value),BindsTo s fd ⟨[u],[]⟩ [("_law_script",u)])∧∀ base:Heap,(K w.params).In base→base.Ns mainGlobals mg→FnOk l.prog w (K w.params) mg base (CXF l.prog w) 81 fa fd ["_law_script"] (spF (K w.params) fns gv 81 25)) :
    PySem.W.WalkX q loose XP (PySem.W.X.obsZ as) (PySem.W.X.valZ K n t) l.row.toRowW d [] (fun f vs=>PySem.call f vs):=by
  intro w s₀ s₁ mg mb G y fa o pm cd doc dV kV ho hd hcd hD hmg hg args vals as' L
  exact walk (YP:=fun w h=>(K w.params).In h) hn hdf (fun _ _ h=>h) F w s₀ s₁ mg mb G (PySem.W.InK.keeps w _ _ (PySem.W.X.z_facts he y).2.1 (PySem.W.Laid.keeps L)) fa o pm cd doc dV kV ho hd hcd hD hmg hg args vals as'
end My
set_option Elab.async false
noncomputable def PySem.W.Fast.tw13345164981333282490:Unit:=()
noncomputable def PySem.W.Fast.tw16637322094142828767:Unit:=()
noncomputable def PySem.W.Fast.tw2597050755690596816:Unit:=()
noncomputable def PySem.W.Fast.tw3659021460454861738:Unit:=()
noncomputable def PySem.W.Fast.tw12907978935841065108:PySem.Program:=PySem.Challenge.pw_matepoint_k15_twelve_within_one_another
theorem PySem.W.Fast.te12907978935841065108:PySem.Challenge.pw_matepoint_k15_twelve_within_one_another=PySem.W.Fast.tw12907978935841065108:=rfl
noncomputable def PySem.W.Fast.tw18238428019986409882:Unit:=()
noncomputable def PySem.W.Fast.tw15320948420178352791:Unit:=()
noncomputable def PySem.W.Fast.tw7890533344124254907:Unit:=()
noncomputable def PySem.W.Fast.tw16172379193737714802:Unit:=()
noncomputable def PySem.W.Fast.tw17251814542801685275:Unit:=()
noncomputable def PySem.W.Fast.tw8463392593333541854:Unit:=()
noncomputable def PySem.W.Fast.tw10362280595756972349:Unit:=()
noncomputable def PySem.W.Fast.tw956788761248928475:Unit:=()
noncomputable def PySem.W.Fast.tw6106809701260713690:Unit:=()
noncomputable def PySem.W.Fast.tw12997015215739368164:Unit:=()
noncomputable def PySem.W.Fast.tw15544166523388198513:Unit:=()
noncomputable def PySem.W.Fast.tw4210166451213970538:Unit:=()
noncomputable def PySem.W.Fast.tw13156972113514354572:Unit:=()
noncomputable def PySem.W.Fast.tw17308962344662070646:Unit:=()
noncomputable def PySem.W.Fast.tw17051134526646747043:Unit:=()
noncomputable def PySem.W.Fast.tw3182089773782271112:Unit:=()
noncomputable def PySem.W.Fast.tw13894541848214525350:Unit:=()
noncomputable def PySem.W.Fast.tw5450448816163567970:Unit:=()
noncomputable def PySem.W.Fast.tw8985189692727903062:Unit:=()
noncomputable def PySem.W.Fast.tw3947882321127090650:Unit:=()
noncomputable def PySem.W.Fast.tw10573968069861540220:Unit:=()
noncomputable def PySem.W.Fast.tw9036525479363749701:Unit:=()
noncomputable def PySem.W.Fast.tw17670364565781167324:Unit:=()
noncomputable def PySem.W.Fast.tw9489904293876492993:Unit:=()
noncomputable def PySem.W.Fast.tw15152493392319238385:Unit:=()
noncomputable def PySem.W.Fast.tw12217252743239794201:Unit:=()
noncomputable def PySem.W.Fast.tw16405840006421339491:Unit:=()
noncomputable def PySem.W.Fast.tw2727454708880152743:Unit:=()
noncomputable def PySem.W.Fast.tw5265154581596431734:Unit:=()
noncomputable def PySem.W.Fast.tw956390915404562013:Unit:=()
noncomputable def PySem.W.Fast.tw15116712075846287516:Unit:=()
noncomputable def PySem.W.Fast.tw18425030216402855469:Unit:=()
noncomputable def PySem.W.Fast.tw7441128650573095785:Unit:=()
noncomputable def PySem.W.Fast.tw12691242079924603658:Unit:=()
noncomputable def PySem.W.Fast.tw3688456534987118410:Unit:=()
noncomputable def PySem.W.Fast.tw11848470690441207692:Unit:=()
noncomputable def PySem.W.Fast.tw11025843014771492527:Unit:=()
noncomputable def PySem.W.Fast.tw8657719319339756338:Unit:=()
noncomputable def PySem.W.Fast.tw2943029252755592026:Unit:=()
noncomputable def PySem.W.Fast.tw14903476983900214919:Unit:=()
noncomputable def PySem.W.Fast.tw14763716063004740462:Unit:=()
noncomputable def PySem.W.Fast.tw2616775768409833544:Unit:=()
noncomputable def PySem.W.Fast.tw1037201029752576287:Unit:=()
noncomputable def PySem.W.Fast.tw11073227198760079276:Unit:=()
noncomputable def PySem.W.Fast.tw16796680572239962193:Unit:=()
noncomputable def PySem.W.Fast.tw13303821291087579983:Unit:=()
noncomputable def PySem.W.Fast.tw11616124895258805720:Unit:=()
noncomputable def PySem.W.Fast.tw13476043617811790813:Unit:=()
noncomputable def PySem.W.Fast.tw680164166476716663:Unit:=()
noncomputable def PySem.W.Fast.tw3706673339737288860:Unit:=()
noncomputable def PySem.W.Fast.tw15523543954138788802:Unit:=()
noncomputable def PySem.W.Fast.tw3911299543541605735:Unit:=()
noncomputable def PySem.W.Fast.tw343547232793418632:Unit:=()
noncomputable def PySem.W.Fast.tw16368421671573862507:Unit:=()
noncomputable def PySem.W.Fast.tw14392797790200790148:Unit:=()
noncomputable def PySem.W.Fast.tw6772753410202756916:Unit:=()
noncomputable def PySem.W.Fast.tw9392304000626958494:Unit:=()
noncomputable def PySem.W.Fast.tw2857681325648951681:Unit:=()
noncomputable def PySem.W.Fast.tw7427180224936121785:Unit:=()
noncomputable def PySem.W.Fast.tw12917204316814726521:Unit:=()
noncomputable def PySem.W.Fast.tw18391468261680655697:Unit:=()
noncomputable def PySem.W.Fast.tw3074852216841086760:Unit:=()
noncomputable def PySem.W.Fast.tw11873684261582088266:Unit:=()
noncomputable def PySem.W.Fast.tw9799564095911976203:Unit:=()
noncomputable def PySem.W.Fast.tw6657124102590912283:Unit:=()
noncomputable def PySem.W.Fast.tw4909800893316880557:Unit:=()
noncomputable def PySem.W.Fast.tw13602893931562144935:Unit:=()
noncomputable def PySem.W.Fast.tw14723769123054645563:Unit:=()
noncomputable def PySem.W.Fast.tw15312039867881492810:Unit:=()
noncomputable def PySem.W.Fast.tw11392636767927822362:Unit:=()
noncomputable def PySem.W.Fast.tw15382142893865348917:Unit:=()
noncomputable def PySem.W.Fast.tw7443650497310553215:Unit:=()
noncomputable def PySem.W.Fast.tw14200994072630332342:Unit:=()
noncomputable def PySem.W.Fast.tw14925470199942546653:Unit:=()
noncomputable def PySem.W.Fast.tw15414652157246302872:Unit:=()
noncomputable def PySem.W.Fast.tw3225818445390340763:Unit:=()
noncomputable def PySem.W.Fast.tw6321856211533962087:Unit:=()
noncomputable def PySem.W.Fast.tw6390954166630564057:Unit:=()
noncomputable def PySem.W.Fast.tw4215523258757859131:Unit:=()
noncomputable def PySem.W.Fast.tw15387237378079424740:Unit:=()
noncomputable def PySem.W.Fast.tw12420183512288376387:Unit:=()
noncomputable def PySem.W.Fast.tw1111884137509461237:Unit:=()
noncomputable def PySem.W.Fast.tw16745217124468873824:Unit:=()
noncomputable def PySem.W.Fast.tw8054794103365823999:Unit:=()
noncomputable def PySem.W.Fast.tw12389776097531337852:Unit:=()
noncomputable def PySem.W.Fast.tw11448946181109618691:Unit:=()
noncomputable def PySem.W.Fast.tw18340589850458447559:Unit:=()
noncomputable def PySem.W.Fast.tw9660453186577121498:Unit:=()
noncomputable def PySem.W.Fast.tw6068342722144804825:Unit:=()
noncomputable def PySem.W.Fast.tw18249578093472201325:Unit:=()
noncomputable def PySem.W.Fast.tw2873534080810561012:Unit:=()
noncomputable def PySem.W.Fast.tw17063783092654856560:Unit:=()
noncomputable def PySem.W.Fast.tw18125102188490143188:Unit:=()
noncomputable def PySem.W.Fast.tw1757106174877315272:Unit:=()
noncomputable def PySem.W.Fast.tw9318096304437347559:Unit:=()
noncomputable def PySem.W.Fast.tw8507781261598797181:Unit:=()
noncomputable def PySem.W.Fast.tw2386085661048608285:Unit:=()
noncomputable def PySem.W.Fast.tw3741660305392149639:Unit:=()
noncomputable def PySem.W.Fast.tw10034094400211543569:Unit:=()
noncomputable def PySem.W.Fast.tw9693366040423273019:Unit:=()
noncomputable def PySem.W.Fast.tw15431482844704069085:Unit:=()
noncomputable def PySem.W.Fast.tw15939277196823005596:Unit:=()
noncomputable def PySem.W.Fast.tw7572752967789529136:Unit:=()
noncomputable def PySem.W.Fast.tw8751733887322941789:Unit:=()
noncomputable def PySem.W.Fast.tw18062367031749215393:Unit:=()
noncomputable def PySem.W.Fast.tw305014818040840600:Unit:=()
noncomputable def PySem.W.Fast.tw4386845721852273896:Unit:=()
noncomputable def PySem.W.Fast.tw11431033835386186757:Unit:=()
open PySem PySem.W PyProof.Rows
set_option maxRecDepth 100000 in
set_option maxHeartbeats 0 in
theorem PySem.Challenge.cw_matepoint_k15_twelve_within_one_another_holds : PySem.Challenge.rw_matepoint_k15_twelve_within_one_another.Holds := by
  w_on; o_law; z_head; (case hw=>w_witness2)
  k_fill
  refine My.walkX (l:=PySem.Challenge.rw_matepoint_k15_twelve_within_one_another) rfl rfl (fun _=>rfl) ?F
  case F =>
    intro w mg fa h KX G hmg
    refine' My.all_mk KX G hmg ?a0 ?l0 ?c0 ?k0 ?a1 ?l1 ?c1 ?k1 ?a2 ?l2 ?c2 ?k2 ?a3 ?l3 ?c3 ?k3 ?a4 ?l4 ?c4 ?k4 ?a5 ?l5 ?c5 ?k5 ?a6 ?l6 ?c6 ?k6 ?a7 ?l7 ?c7 ?k7 ?a8 ?l8 ?c8 ?k8 ?a9 ?l9 ?c9 ?k9 ?a10 ?l10 ?c10 ?k10 ?a11 ?l11 ?c11 ?k11 ?a12 ?l12 ?c12 ?k12 ?a13 ?l13 ?c13 ?k13 ?a14 ?l14 ?c14 ?k14 ?a15 ?l15 ?c15 ?k15 ?a16 ?l16 ?c16 ?k16 ?a17 ?l17 ?c17 ?k17 ?a18 ?l18 ?c18 ?k18 ?a19 ?l19 ?c19 ?k19 ?a20 ?l20 ?c20 ?k20 ?a21 ?l21 ?c21 ?k21 ?a22 ?l22 ?c22 ?k22 ?a23 ?l23 ?c23 ?k23 ?a24 ?l24 ?c24 ?k24 ?a25 ?l25 ?c25 ?k25 ?gv0 ?gv1 ?gv2 ?gl2 ?gz2 ?gs2 ?gv3 ?gv4 ?gv5 ?gv6 ?gv7 ?gv8 ?gv9 ?gv10 ?gv11 ?gl11 ?gz11 ?ge11 ?gx11 ?gv12 ?gl12 ?gz12 ?gs12 ?z0 ?z1 ?z2 ?z3 ?z4 ?z5 ?z6 ?z7 ?z8 ?cx0 ?cx1 ?cx2 ?cx3 ?cx4 ?cx5 ?cx6 ?cx7 ?cx8 ?cx9 ?cx10 ?cx11 ?cx12 ?q0a ?q0b ?q0c ?q0d ?q0e ?q0f ?q0g ?q0h ?q0i ?q0j ?q0k ?q1a ?q1b ?q2a ?q2b ?q2c ?q2d ?q2e ?q2f ?q3 ?q4 ?q5 ?q6 ?q7
    (case a0=>k_is)
    (case l0=>k_is)
    (case c0=>k_is)
    (case k0=>k_is)
    (case a1=>k_is)
    (case l1=>k_is)
    (case c1=>k_is)
    (case k1=>k_is)
    (case a2=>k_is)
    (case l2=>k_is)
    (case c2=>k_is)
    (case k2=>k_is)
    (case a3=>k_is)
    (case l3=>k_is)
    (case c3=>k_is)
    (case k3=>k_is)
    (case a4=>k_is)
    (case l4=>k_is)
    (case c4=>k_is)
    (case k4=>k_is)
    (case a5=>k_is)
    (case l5=>k_is)
    (case c5=>k_is)
    (case k5=>k_is)
    (case a6=>k_is)
    (case l6=>k_is)
    (case c6=>k_is)
    (case k6=>k_is)
    (case a7=>k_is)
    (case l7=>k_is)
    (case c7=>k_is)
    (case k7=>k_is)
    (case a8=>k_is)
    (case l8=>k_is)
    (case c8=>k_is)
    (case k8=>k_is)
    (case a9=>k_is)
    (case l9=>k_is)
    (case c9=>k_is)
    (case k9=>k_is)
    (case a10=>k_is)
    (case l10=>k_is)
    (case c10=>k_is)
    (case k10=>k_is)
    (case a11=>k_is)
    (case l11=>k_is)
    (case c11=>k_is)
    (case k11=>k_is)
    (case a12=>k_is)
    (case l12=>k_is)
    (case c12=>k_is)
    (case k12=>k_is)
    (case a13=>k_is)
    (case l13=>k_is)
    (case c13=>k_is)
    (case k13=>k_is)
    (case a14=>k_is)
    (case l14=>k_is)
    (case c14=>k_is)
    (case k14=>k_is)
    (case a15=>k_is)
    (case l15=>k_is)
    (case c15=>k_is)
    (case k15=>k_is)
    (case a16=>k_is)
    (case l16=>k_is)
    (case c16=>k_is)
    (case k16=>k_is)
    (case a17=>k_is)
    (case l17=>k_is)
    (case c17=>k_is)
    (case k17=>k_is)
    (case a18=>k_is)
    (case l18=>k_is)
    (case c18=>k_is)
    (case k18=>k_is)
    (case a19=>k_is)
    (case l19=>k_is)
    (case c19=>k_is)
    (case k19=>k_is)
    (case a20=>k_is)
    (case l20=>k_is)
    (case c20=>k_is)
    (case k20=>k_is)
    (case a21=>k_is)
    (case l21=>k_is)
    (case c21=>k_is)
    (case k21=>k_is)
    (case a22=>k_is)
    (case l22=>k_is)
    (case c22=>k_is)
    (case k22=>k_is)
    (case a23=>k_is)
    (case l23=>k_is)
    (case c23=>k_is)
    (case k23=>k_is)
    (case a24=>k_is)
    (case l24=>k_is)
    (case c24=>k_is)
    (case k24=>k_is)
    (case a25=>k_is)
    (case l25=>k_is)
    (case c25=>k_is)
    (case k25=>k_is)
    (case gv0=>k_is)
    (case gv1=>k_is)
    (case gv2=>k_is)
    (case gl2=>k_is)
    (case gz2=>decide)
    (case gs2=>exact (.cons (by decide +kernel) (.cons (by decide +kernel) (.cons (by decide +kernel) (.cons (by decide +kernel) (.cons (by decide +kernel) (.cons (by decide +kernel) .nil)))))))
    (case gv3=>k_is)
    (case gv4=>k_is)
    (case gv5=>k_is)
    (case gv6=>k_is)
    (case gv7=>k_is)
    (case gv8=>k_is)
    (case gv9=>k_is)
    (case gv10=>k_is)
    (case gv11=>k_is)
    (case gl11=>k_is)
    (case gz11=>decide)
    (case ge11=>exact (Mi.Ents.cons (by decide +kernel) (by with_unfolding_all rfl) (Mi.Ents.cons (by decide +kernel) (by with_unfolding_all rfl) Mi.Ents.nil)))
    (case gx11=>exact (Mi.VTs.cons (Mi.vt_str (by decide +kernel)) (Mi.VTs.cons (Mi.vt_str (by decide +kernel)) Mi.VTs.nil)))
    (case gv12=>k_is)
    (case gl12=>k_is)
    (case gz12=>decide)
    (case gs12=>exact (.cons (by decide +kernel) (.cons (by decide +kernel) .nil)))
    (case z0=>k_is)
    (case z1=>k_is)
    (case z2=>k_is)
    (case z3=>k_is)
    (case z4=>k_is)
    (case z5=>k_is)
    (case z6=>k_is)
    (case z7=>k_is)
    (case z8=>k_is)
    (case cx0=>k_is)
    (case cx1=>k_is)
    (case cx2=>k_is)
    (case cx3=>k_is)
    (case cx4=>k_is)
    (case cx5=>k_is)
    (case cx6=>k_is)
    (case cx7=>k_is)
    (case cx8=>k_is)
    (case cx9=>k_is)
    (case cx10=>k_is)
    (case cx11=>k_is)
    (case cx12=>k_is)
    (case q0a=>kernel_rfl)
    (case q0b=>k_is)
    (case q0c=>k_is)
    (case q0d=>kernel_rfl)
    (case q0e=>k_is)
    (case q0f=>k_is)
    (case q0g=>k_is)
    (case q0h=>k_is)
    (case q0i=>k_is)
    (case q0j=>k_is)
    (case q0k=>k_is)
    (case q1a=>k_is)
    (case q1b=>k_is)
    (case q2a=>k_is)
    (case q2b=>k_is)
    (case q2c=>k_is)
    (case q2d=>k_is)
    (case q2e=>k_is)
    (case q2f=>k_is)
    (case q3=>kit_is)
    (case q4=>kit_is)
    (case q5=>kit_is)
    (case q6=>kit_is)
    (case q7=>kts_exm)
end
