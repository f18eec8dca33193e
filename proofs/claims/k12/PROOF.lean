import PyProof.Rows.All
import Wide.All
import OpenK.AllK
import Wide.FinOn
import Lean
import PyProof.EqAt
import PyProof.EqKinds
import PyProof.TupleCall
import PySem.Challenge.RW_manyreaders_k12_deeds_that_may_be_done
set_option Elab.async false
set_option linter.all false
set_option maxRecDepth 100000
namespace L2
open PySem PySem.Spec PyProof.Rows
noncomputable abbrev Key:=Sum Int Str
noncomputable def zg5:Key→Value→Bool
  | .inl k,v=>Value.isInt k v
  | .inr x,v=>Value.isStrOf x v
noncomputable def keyH (w:World):Key→Int
  | .inl k=>hashInt k
  | .inr x=>hashStr w x
theorem qh4:∀ {k:Key} {v:Value},zg5 k v=true→(∃ i t,k=Sum.inl i∧v=Value.int i t)∨(∃ x t,k=Sum.inr x∧v=Value.str x t)
  | .inl i,v,h=>by
    obtain ⟨t,e⟩:=Value.isInt_shape (k:=i) (v:=v) h
    exact .inl ⟨i,t,rfl,e⟩
  | .inr x,v,h=>by
    obtain ⟨t,e⟩:=Value.isStrOf_shape (x:=x) (v:=v) h
    exact .inr ⟨x,t,rfl,e⟩
theorem zq5 (i:Int) (t:Tok):zg5 (.inl i) (.int i t)=true:=by simp [zg5,Value.isInt]
theorem zq4 (x:Str) (t:Tok):zg5 (.inr x) (.str x t)=true:=by simp [zg5,Value.isStrOf]
theorem key_ll (a b:Int):decide ((Sum.inl a:Key)=Sum.inl b)=(a == b):=by
  by_cases e:a=b
  · subst e;simp
  · have h:¬ (Sum.inl a:Key)=Sum.inl b:=fun q=>e (Sum.inl.inj q)
    rw [decide_eq_false h]
    exact (beq_eq_false_iff_ne.mpr e).symm
theorem key_rr (a b:Str):decide ((Sum.inr a:Key)=Sum.inr b)=decide (a=b):=by
  by_cases e:a=b
  · subst e;simp
  · have h:¬ (Sum.inr a:Key)=Sum.inr b:=fun q=>e (Sum.inr.inj q)
    rw [decide_eq_false h,decide_eq_false e]
theorem key_lr (a:Int) (b:Str):decide ((Sum.inl a:Key)=Sum.inr b)=false:=decide_eq_false (fun q=>nomatch q)
theorem key_rl (a:Str) (b:Int):decide ((Sum.inr a:Key)=Sum.inl b)=false:=decide_eq_false (fun q=>nomatch q)
noncomputable def qi7 (prog:Program) (w:World):PySem.KeyKind prog w Key where
  is:=zg5
  hash:=keyH w
  inj:=fun v a b ha hb=>by
    rcases qh4 ha with ⟨i,t,rfl,rfl⟩ | ⟨x,t,rfl,rfl⟩
    · rcases qh4 hb with ⟨j,u,rfl,e⟩ | ⟨y,u,rfl,e⟩
      · injection e with e1 _;rw [e1]
      · exact nomatch e
    · rcases qh4 hb with ⟨j,u,rfl,e⟩ | ⟨y,u,rfl,e⟩
      · exact nomatch e
      · injection e with e1 _;rw [e1]
  byValue:=fun k v h=>by
    rcases qh4 h with ⟨i,t,rfl,rfl⟩ | ⟨x,t,rfl,rfl⟩ <;> rfl
  pyHash:=fun hv h=>by
    rcases qh4 hv with ⟨i,t,rfl,rfl⟩ | ⟨x,t,rfl,rfl⟩
    · exact wpAny_pyHash_int h
    · exact wpAny_pyHash_str h
  eqBool:=fun hu hv h=>by
    rcases qh4 hu with ⟨i,t,rfl,rfl⟩ | ⟨x,t,rfl,rfl⟩
    · rcases qh4 hv with ⟨j,u,rfl,rfl⟩ | ⟨y,u,rfl,rfl⟩
      · rw [key_ll] at h;exact wpAny_eqBool_int h
      · rw [key_lr] at h;exact SeqAt.EqAt.int_str i t y u _ _ _ _ h
    · rcases qh4 hv with ⟨j,u,rfl,rfl⟩ | ⟨y,u,rfl,rfl⟩
      · rw [key_rl] at h;exact SeqAt.EqAt.str_int x t j u _ _ _ _ h
      · rw [key_rr] at h;exact wpAny_eqBool_str h
  «strs»:=fun k x t v h=>by
    rcases qh4 h with ⟨i,u,rfl,e⟩ | ⟨y,u,rfl,e⟩
    · exact nomatch e
    · injection e with e1 _
      subst e1
      cases v <;> rfl
theorem q32 (prog:Program) (w:World) (i:Int) (t:Tok):(qi7 prog w).is (.inl i) (.int i t)=true:=zq5 i t
theorem q31 (prog:Program) (w:World) (x:Str) (t:Tok):(qi7 prog w).is (.inr x) (.str x t)=true:=zq4 x t
end L2
namespace L2
open PySem PySem.Spec PyProof.Rows
inductive V where
  | non | bl (b:Bool) | int (i:Int) | str (x:Str) | byt (b:Array UInt8) | flt (b:UInt64) | ref (a:Addr) | ty (n:String)
  deriving DecidableEq
noncomputable def RelV:V→Value→Prop
  | .non,u=>u=Value.none
  | .bl b,u=>u=Value.bool b
  | .int i,u=>∃ t,u=Value.int i t
  | .str x,u=>∃ t,u=Value.str x t
  | .byt b,u=>∃ t,u=Value.bytes b t
  | .flt b,u=>∃ t,u=Value.float b t
  | .ref a,u=>u=Value.ref a
  | .ty n,u=>u=Value.type n
noncomputable abbrev Vals:List V→List Value→Prop:=Paired RelV
theorem Vals.length {xs:List V} {us:List Value} (r:Vals xs us):xs.length=us.length:=Paired.length r
theorem Vals.get:∀ {xs:List V} {us:List Value} {i:Nat} {x:V},Vals xs us→xs[i]?=some x→∃ u,us[i]?=some u∧RelV x u
  | _,_,_,_,.nil,e=>by simp at e
  | _,_,0,_,.cons r _,e=>by simp at e;subst e;exact ⟨_,rfl,r⟩
  | _,_,i+1,x,.cons _ t,e=>by
    obtain ⟨u,h1,h2⟩:=Vals.get (i:=i) (x:=x) t (by simpa using e)
    exact ⟨u,by simpa using h1,h2⟩
theorem Vals.set {x:V} {u:Value} (r:RelV x u):∀ {xs:List V} {us:List Value} (i:Nat),Vals xs us→Vals (xs.set i x) (us.set i u)
  | _,_,_,.nil=>.nil
  | _,_,0,.cons _ t=>.cons r t
  | _,_,i+1,.cons q t=>.cons q (Vals.set r i t)
theorem Vals.append:∀ {xs ys:List V} {us ws:List Value},Vals xs us→Vals ys ws→Vals (xs++ys) (us++ws)
  | _,_,_,_,.nil,s=>s
  | _,_,_,_,.cons r t,s=>.cons r (Vals.append t s)
theorem Vals.take:∀ {xs:List V} {us:List Value} (n:Nat),Vals xs us→Vals (xs.take n) (us.take n)
  | _,_,0,_=>.nil
  | _,_,_+1,.nil=>.nil
  | _,_,n+1,.cons r t=>.cons r (Vals.take n t)
theorem Vals.drop:∀ {xs:List V} {us:List Value} (n:Nat),Vals xs us→Vals (xs.drop n) (us.drop n)
  | _,_,0,r=>r
  | _,_,_+1,.nil=>.nil
  | _,_,n+1,.cons _ t=>Vals.drop n t
noncomputable def RelO:Option V→Option Value→Prop
  | some v,some u=>RelV v u
  | none,none=>True
  | _,_=>False
noncomputable def KV {κ:Type}:List (κ×V)→List (κ×Value)→Prop:=Paired fun (p:κ×V) (q:κ×Value)=>p.1=q.1∧RelV p.2 q.2
noncomputable def kV:Key→V
  | .inl i=>.int i
  | .inr x=>.str x
inductive HO where
  | lst (xs:List V)
  | tup (xs:List V)
  | dK (kvs:List (Key×V)) | dT (kvs:List (List Key×V))
  | set (S:Int→Bool) (n:Nat)
  | ins (C dx:Addr) (fs:List (Str×V))
  | own (x:Addr)
  | xd (fs:List (Str×V))
  | met (f x:Addr)
  | rng (lo hi:Int)
  | frz (o:Obj) (u:HO)
  | tbl (ps:Array Value)
  | ext (φ:Heap→Prop)
noncomputable abbrev Hp:=Addr→Option HO
noncomputable def upd (H:Hp) (a:Addr) (o:HO):Hp:=fun b=>if b=a then some o else H b
theorem qb4 {H:Hp} {a:Addr} {o:HO}:upd H a o a=some o:=by unfold upd;rw [if_pos rfl]
theorem qb5 {H:Hp} {a b:Addr} {o:HO} (h:b≠a):upd H a o b=H b:=by unfold upd;rw [if_neg h]
theorem qe6 {H:Hp} {a b:Addr} {o:HO} (h:H a=some o) (h':H b=none):a≠b:=by
  intro e;subst e;rw [h] at h';cases h'
noncomputable def IsTupN (h:Heap) (a:Addr) (items:Array Value):Prop:=∃ o,h.get? a=some o∧o.cls=.type "tuple"∧(∃ n,o.data=.seq items n)∧o.dict=none
theorem IsTupN.up {h:Heap} {a:Addr} {items:Array Value} (x:IsTupN h a items):IsTup h a items:=by
  obtain ⟨o,e,c,d,_⟩:=x
  exact ⟨o,e,c,d⟩
theorem IsTupN.lt {h:Heap} {a:Addr} {items:Array Value} (x:IsTupN h a items):a<h.objs.size:=x.up.lt
theorem IsTupN.new (h:Heap) (items:Array Value):IsTupN (h.push { cls:=.type "tuple",data:=.seq items }) h.objs.size items:=⟨_,Heap.get?_push_size _ rfl,rfl,⟨_,rfl⟩,rfl⟩
section
variable (P:Program) (w:World)
noncomputable def ObjOk (H:Hp) (h:Heap) (a:Addr):HO→Prop
  | .lst xs=>xs.length≤sizeLine∧∃ (its:List Value) (n:Nat),Vals xs its∧h.get? a=some { cls:=.type "list",data:=.seq its.toArray n }
  | .tup xs=>xs.length≤sizeLine∧∃ its:List Value,Vals xs its∧IsTupN h a its.toArray
  | .dK kvs=>kvs.length≤sizeLine∧(a == sysModules)=false∧∃ vs,KV kvs vs∧h.DictOf (qi7 P w) a vs
  | .dT kvs=>kvs.length≤sizeLine∧(a == sysModules)=false∧∃ xs:List (List Key×Addr×Value),
      Paired (fun (p:List Key×V) (q:List Key×Addr×Value)=>p.1=q.1∧H q.2.1=some (.tup (p.1.map kV))∧RelV p.2 q.2.2) kvs xs ∧
      ∃ o es ep,h.get? a=some o∧o.ExactDict∧o.data=.dict es ep∧es.toList=xs.map (entryOfKey (tupleKind (qi7 P w)))∧(xs.map (·.1)).Nodup
  | .set S n=>h.SetOf (intKind P w) a S n
  | .ins C dx fs=>H dx=some (.own a)∧fs.length≤1000∧dx≠a∧h.get? a=some (PySem.W.instObj C dx) ∧
      ∃ mA,h.Ns1 dx mA∧(∀ f,RelO (fs.lookup f) (mA f))∧PySem.Within mA (fs.map (·.1))
  | .own _=>∃ o,h.get? a=some o
  | .xd fs=>∃ mA,h.Ns1 a mA∧∀ f,RelO (fs.lookup f) (mA f)
  | .rng lo hi=>∃ t u v,h.get? a=some { cls:=.type "range",data:=.fields #[.int lo t,.int hi u,.int 1 v] }
  | .frz o u=>h.get? a=some o∧ObjOk H h a u
  | .tbl ps=>h.get? a=some { cls:=.none,data:=.fields ps }
  | .met f x=>h.get? a=some (PySem.W.methodObj (.ref f) (.ref x))
  | .ext φ=>φ h∧(∃ o,h.get? a=some o)∧∀ h1 h2:Heap,φ h1→(∀ o,h1.get? a=some o→h2.get? a=some o)→φ h2
noncomputable def HOk (H:Hp) (h:Heap):Prop:=∀ a o,H a=some o→ObjOk P w H h a o
end
section
variable {P:Program} {w:World} {H H':Hp} {h h':Heap} {a:Addr} {o:HO}
theorem ObjOk.lt (x:ObjOk P w H h a o):a<h.objs.size:=by
  cases o with
  | lst xs=>obtain ⟨_,_,_,_,e⟩:=x;exact Heap.lt_size e
  | tup xs=>obtain ⟨_,_,_,p⟩:=x;exact p.lt
  | dK kvs=>obtain ⟨_,_,_,_,o,_,_,e,_⟩:=x;exact Heap.lt_size e
  | dT kvs=>obtain ⟨_,_,_,_,o,_,_,e,_⟩:=x;exact Heap.lt_size e
  | set S n=>obtain ⟨o,_,_,_,e,_⟩:=x;exact Heap.lt_size e
  | ins C dx fs=>obtain ⟨_,_,_,e,_⟩:=x;exact Heap.lt_size e
  | own y=>obtain ⟨_,e⟩:=x;exact Heap.lt_size e
  | xd fs=>obtain ⟨_,⟨_,_,_,e,_⟩,_⟩:=x;exact Heap.lt_size e
  | rng lo hi=>obtain ⟨_,_,_,e⟩:=x;exact Heap.lt_size e
  | frz ob u=>obtain ⟨e,_⟩:=x;exact Heap.lt_size e
  | tbl ps=>exact Heap.lt_size (show h.get? a=some _ from x)
  | met f y=>exact Heap.lt_size (show h.get? a=some _ from x)
  | ext φ=>obtain ⟨_,⟨_,e⟩,_⟩:=x;exact Heap.lt_size e
theorem Paired.mapP {α β:Type} {F G:α→β→Prop}:∀ {l₁:List α} {l₂:List β},Paired F l₁ l₂→(∀ a b,F a b→G a b)→Paired G l₁ l₂
  | _,_,.nil,_=>.nil
  | _,_,.cons r t,f=>.cons (f _ _ r) (Paired.mapP t f)
theorem ObjOk.stay (x:ObjOk P w H h a o) (k:∀ b u,(b=a∨H b=some (.own a))→h.get? b=some u→h'.get? b=some u)
    (ho:∀ b,H b=some (.own a)→H' b=some (.own a)) (ht:∀ b xs,H b=some (.tup xs)→H' b=some (.tup xs)):ObjOk P w H' h' a o:=by
  induction o with
  | lst xs=>obtain ⟨z,its,n,r,e⟩:=x;exact ⟨z,its,n,r,k _ _ (.inl rfl) e⟩
  | tup xs=>obtain ⟨z,its,r,ob,e,c⟩:=x;exact ⟨z,its,r,ob,k _ _ (.inl rfl) e,c⟩
  | dK kvs=>obtain ⟨z,y,vs,r,ob,es,ep,e,c⟩:=x;exact ⟨z,y,vs,r,ob,es,ep,k _ _ (.inl rfl) e,c⟩
  | dT kvs=>
    obtain ⟨z,y,xs,r,ob,es,ep,e,c⟩:=x
    exact ⟨z,y,xs,Paired.mapP r fun p q z=>⟨z.1,ht _ _ z.2.1,z.2.2⟩,ob,es,ep,k _ _ (.inl rfl) e,c⟩
  | set S n=>obtain ⟨ob,es,ep,t,e,c⟩:=x;exact ⟨ob,es,ep,t,k _ _ (.inl rfl) e,c⟩
  | ins C dx fs=>
    obtain ⟨d,z,ne,e,mA,⟨od,es,ep,e2,c⟩,r⟩:=x
    exact ⟨ho _ d,z,ne,k _ _ (.inl rfl) e,mA,⟨od,es,ep,k _ _ (.inr d) e2,c⟩,r⟩
  | own y=>obtain ⟨ob,e⟩:=x;exact ⟨ob,k _ _ (.inl rfl) e⟩
  | xd fs=>obtain ⟨mA,⟨od,es,ep,e,c⟩,r⟩:=x;exact ⟨mA,⟨od,es,ep,k _ _ (.inl rfl) e,c⟩,r⟩
  | rng lo hi=>obtain ⟨t,u,v,e⟩:=x;exact ⟨t,u,v,k _ _ (.inl rfl) e⟩
  | frz ob u ih=>obtain ⟨e,q⟩:=x;exact ⟨k _ _ (.inl rfl) e,ih q⟩
  | tbl ps=>
    have e:h.get? a=some { cls:=.none,data:=.fields ps }:=x
    show h'.get? a=some { cls:=.none,data:=.fields ps }
    exact k a _ (.inl rfl) e
  | met f y=>
    have e:h.get? a=some (PySem.W.methodObj (.ref f) (.ref y)):=x
    show h'.get? a=some (PySem.W.methodObj (.ref f) (.ref y))
    exact k a _ (.inl rfl) e
  | ext φ=>obtain ⟨p,⟨o,e⟩,st⟩:=x;exact ⟨st _ _ p fun o q=>k _ _ (.inl rfl) q,⟨o,k _ _ (.inl rfl) e⟩,st⟩
theorem HOk.lt (x:HOk P w H h) (e:H a=some o):a<h.objs.size:=(x a o e).lt
theorem HOk.fresh (x:HOk P w H h) (e:h.objs.size≤a):H a=none:=by
  cases q:H a with
  | none=>rfl
  | some u=>exact absurd (Nat.lt_of_lt_of_le (x.lt q) e) (Nat.lt_irrefl _)
theorem HOk.kept (x:HOk P w H h) (k:∀ b u,h.get? b=some u→h'.get? b=some u):HOk P w H h':=fun a o e=>
  (x a o e).stay (fun b u _ q=>k b u q) (fun _ q=>q) fun _ _ q=>q
theorem HOk.laid (x:HOk P w H h) (k:∀ b u,h.get? b=some u→h'.get? b=some u) (hp:h.objs.size≤a) (new:ObjOk P w (upd H a o) h' a o):HOk P w (upd H a o) h':=fun b u e=>by
  have hn:=x.fresh hp
  by_cases hb:b=a
  · subst hb;rw [qb4] at e;cases e;exact new
  · rw [qb5 hb] at e
    exact (x b u e).stay (fun c v _ q=>k c v q) (fun c q=>by rw [qb5 (qe6 q hn)];exact q) fun c xs q=>by rw [qb5 (qe6 q hn)];exact q
end
noncomputable def Rd (H:Hp) (a:Addr) (u:HO):Prop:=H a=some u∨∃ o,H a=some (.frz o u)
theorem Rd.ok {P:Program} {w:World} {H:Hp} {h:Heap} {a:Addr} {u:HO} (r:Rd H a u) (x:HOk P w H h):ObjOk P w H h a u:=by
  rcases r with r | ⟨o,r⟩
  · exact x a u r
  · obtain ⟨_,q⟩:=x a _ r
    exact q
noncomputable def Mut:Option HO→Prop
  | some (.lst _)=>True
  | some (.dK _)=>True
  | some (.dT _)=>True
  | some (.set _ _)=>True
  | some (.ins _ _ _)=>True
  | some (.ext _)=>True
  | _=>False
section
variable {P:Program} {w:World} {H:Hp} {h h':Heap} {x e:Addr} {o':HO}
theorem HOk.write (ok:HOk P w H h) (mu:Mut (H x)) (he:e=x∨H e=some (.own x)) (k:∀ b u,b≠e→h.get? b=some u→h'.get? b=some u) (heo:∃ u,h'.get? e=some u)
    (new:ObjOk P w (upd H x o') h' x o'):HOk P w (upd H x o') h':=fun b u q=>by
  have nown:∀ c y,H c=some (.own y)→c≠x:=fun c y r z=>by subst z;rw [r] at mu;exact mu
  have ntup:∀ c xs,H c=some (.tup xs)→c≠x:=fun c xs r z=>by subst z;rw [r] at mu;exact mu
  by_cases hb:b=x
  · subst hb;rw [qb4] at q;cases q;exact new
  · rw [qb5 hb] at q
    by_cases hbe:b=e
    · have q':H b=some (.own x):=by
        rcases he with z | z
        · exact absurd (hbe.trans z) hb
        · rw [hbe];exact z
      rw [q] at q';cases q'
      obtain ⟨v,hv⟩:=heo
      exact ⟨v,by rw [hbe];exact hv⟩
    · refine (ok b u q).stay (fun c v hc r=>k c v ?_ r) (fun c r=>by rw [qb5 (nown c b r)];exact r) fun c xs r=>by rw [qb5 (ntup c xs r)];exact r
      rcases hc with rfl | hc
      · exact hbe
      · rintro rfl
        rcases he with z | z
        · exact nown c b hc z
        · rw [hc] at z;cases z;exact hb rfl
end
structure Un (fs ex:List Addr) (H H':Hp) (h h':Heap):Prop where
  keep:∀ b o,h.get? b=some o→H b=none→b ∉ fs→b ∉ ex→h'.get? b=some o
  slot:∀ b o,h.get? b=some o→H b=none→b∈fs→b ∉ ex→∃ sl,h'.get? b=some { o with slots:=sl }
  free:∀ b o,h.get? b=some o→H b=none→b ∉ ex→H' b=none
  there:∀ b o,h.get? b=some o→b ∉ ex→∃ o',h'.get? b=some o'
  tups:∀ b xs,H b=some (.tup xs)→H' b=some (.tup xs)
  frzs:∀ b o u,H b=some (.frz o u)→H' b=some (.frz o u)
  tbls:∀ b ps,H b=some (.tbl ps)→∃ more,H' b=some (.tbl (ps++more))
section
variable {fs fs' ex ex':List Addr} {H H1 H2:Hp} {h h1 h2 h':Heap} {a x e:Addr} {o:HO}
theorem Un.any (u:Un fs ex H H1 h h1) {b:Addr} {ob:Obj} (q:h.get? b=some ob) (n:H b=none) (hx:b ∉ ex):∃ sl,h1.get? b=some { ob with slots:=sl }:=by
  by_cases hb:b∈fs
  · exact u.slot b ob q n hb hx
  · exact ⟨ob.slots,u.keep b ob q n hb hx⟩
theorem Un.kept (k:∀ b u,h.get? b=some u→h'.get? b=some u):Un fs ex H H h h':=
  ⟨fun b ob q _ _ _=>k b ob q,fun b ob q _ _ _=>⟨ob.slots,k b ob q⟩,fun _ _ _ n _=>n,fun b ob q _=>⟨ob,k b ob q⟩,fun _ _ q=>q,fun _ _ _ q=>q,fun _ ps q=>⟨#[],by rw [q];simp⟩⟩
theorem Un.refl:Un fs ex H H h h:=Un.kept fun _ _ q=>q
theorem Un.laid (k:∀ b u,h.get? b=some u→h'.get? b=some u) (hp:h.objs.size≤a) (hn:H a=none):Un fs ex H (upd H a o) h h' where
  keep:=fun b u q _ _ _=>k b u q
  slot:=fun b u q _ _ _=>⟨u.slots,k b u q⟩
  free:=fun b u q n _=>by rw [qb5 (Nat.ne_of_lt (Nat.lt_of_lt_of_le (Heap.lt_size q) hp))];exact n
  there:=fun b u q _=>⟨u,k b u q⟩
  tups:=fun b xs q=>by rw [qb5 (qe6 q hn)];exact q
  frzs:=fun b u xs q=>by rw [qb5 (qe6 q hn)];exact q
  tbls:=fun b ps q=>⟨#[],by rw [qb5 (qe6 q hn),q];simp⟩
theorem Un.write (mu:Mut (H x)) (he:e=x∨H e=some (.own x)) (k:∀ b u,b≠e→h.get? b=some u→h'.get? b=some u) (heo:∃ u,h'.get? e=some u):Un fs ex H (upd H x o) h h':=by
  have hx:∀ b,H b=none→b≠x:=fun b n z=>by subst z;rw [n] at mu;exact mu
  have hb:∀ b,H b=none→b≠e:=fun b n z=>by
    subst z
    rcases he with r | r
    · exact hx b n r
    · rw [n] at r;cases r
  have hm:∀ b u,H b=some u→¬ Mut (some u)→b≠x:=fun b u q nm z=>by subst z;rw [q] at mu;exact nm mu
  refine ⟨fun b u q n _ _=>k b u (hb b n) q,fun b u q n _ _=>⟨u.slots,k b u (hb b n) q⟩,fun b u q n _=>by rw [qb5 (hx b n)];exact n,fun b u q _=>?_,
    fun b xs q=>by rw [qb5 (hm b _ q fun z=>z)];exact q,fun b u xs q=>by rw [qb5 (hm b _ q fun z=>z)];exact q,fun b ps q=>⟨#[],by rw [qb5 (hm b _ q fun z=>z),q];simp⟩⟩
  by_cases hbe:b=e
  · subst hbe;exact heo
  · exact ⟨u,k b u hbe q⟩
end
noncomputable def trk (h:Heap) (H:Hp):List Addr:=(List.range h.objs.size).filter fun a=>(H a).isSome
noncomputable def hidT (h:Heap) (H:Hp):Heap:=PySem.W.hideAll h (trk h H)
theorem zt0 (h:Heap) (H:Hp):(hidT h H).objs.size=h.objs.size:=PySem.W.hideAll_size _ _
theorem hidT_get {h:Heap} {H:Hp} {b:Addr} {o:Obj} (e:h.get? b=some o) (n:H b=none):(hidT h H).get? b=some o:=
  PySem.W.hideAll_get _ e fun hm=>by
    have q:(H b).isSome=true:=(List.mem_filter.mp hm).2
    rw [n] at q;simp at q
theorem of_hidT {h:Heap} {H:Hp} {b:Addr} {o:Obj} (e:(hidT h H).get? b=some o):h.get? b=some o∧H b=none:=by
  have e':h.get? b=some o:=PySem.W.of_hideAll (trk h H) e
  refine ⟨e',?_⟩
  cases q:H b with
  | none=>rfl
  | some x=>
    have hm:b∈trk h H:=List.mem_filter.mpr ⟨List.mem_range.mpr (Heap.lt_size e'),by simp [q]⟩
    have z:(hidT h H).get? b=none:=PySem.W.hideAll_none (trk h H) hm
    rw [z] at e;cases e
end L2
namespace L2
open PySem PySem.Spec PyProof.Rows
structure Mod (K:PySem.W.Frag) (mg:Str→Option Value) (base:Heap):Prop where
  kin:K.In base
  glob:base.Ns mainGlobals mg
  blt:∃ mb,base.Ns builtinsNs mb∧∀ x:Str,x ≠ "__name__"→mb x=bootBuiltins x
  nolimit:base.NoLimit
structure Cx where
  prog:Program
  w:World
  K:PySem.W.Frag
  mg:Str→Option Value
  base:Heap
  A:Around
  N:List Str
  s₀:Shared
  H₀:Hp
  env:Env
  outer:List Env
  stack:List Env
  ex:List Addr
  fn:Str→Bool
  calm:Bool
  pn:List (Addr×Obj)
  xe:Value→Shared→Prop
noncomputable def frs (l:List Env):List Addr:=l.filterMap (·.frame)
noncomputable abbrev Cx.fs (X:Cx):List Addr:=frs X.outer
noncomputable def Vis (sc:Scope) (x:Str):Prop:=sc.names.lookup x=some .local∨sc.names.lookup x=some .cell∨sc.names.lookup x=some .free
noncomputable def Loc (sc:Scope) (x:Str):Prop:=sc.names.lookup x=some .local∨sc.names.lookup x=some .cell
noncomputable def Look (env:Env) (h:Heap) (m:Str→Option Value) (x:Str) (u:Value):Prop:=
  (env.kindOf x=some .local∧m x=some u)∨((env.kindOf x=some .cell∨env.kindOf x=some .free)∧∃ c,env.cells.lookup x=some c∧h.IsCell c (some u))
structure Cx.Ok (X:Cx):Prop where
  mod:Mod X.K X.mg X.base
  kind:X.env.scope.kind=.function
  glob:X.env.globals=mainGlobals
  blt:X.env.builtins=builtinsNs
  above:X.s₀.heap.objs.size≤X.env.locals
  inj:∀ x y c,X.env.cells.lookup x=some c→X.env.cells.lookup y=some c→x=y
  has:∀ x,(X.env.kindOf x=some .cell∨X.env.kindOf x=some .free)→∃ c,X.env.cells.lookup x=some c
  cab:∀ x c,X.fn x=true→X.env.cells.lookup x=some c→X.s₀.heap.objs.size≤c
  hd:X.calm=true→X.A.handled=none
  frames:X.A.frames=some X.stack
  stk:X.stack=X.outer∨(X.stack=X.env::X.outer∧X.env.frame=some X.env.locals)
  exf:∀ b∈X.ex,b≠X.env.locals∧∀ x c,X.env.cells.lookup x=some c→c≠b
  bs:∀ b o,X.base.get? b=some o→X.s₀.heap.get? b=some o∧X.H₀ b=none
  bsz:X.base.objs.size≤X.s₀.heap.objs.size
  noex:∀ b o,X.base.get? b=some o→b ∉ X.ex
  exfs:∀ b∈X.ex,b ∉ X.fs
  funs:X.s₀.heap.FunFrames X.base X.outer
  frf:∀ b∈X.fs,X.H₀ b=none
structure Inv (X:Cx) (pins:List (Addr×Obj)) (σ:List (Option V)) (H:Hp) (s:Shared):Prop where
  ok:X.Ok
  os:s.os=X.s₀.os
  bare:AllBare s.gens
  base:Un X.fs X.ex X.H₀ H X.s₀.heap s.heap
  loc:∃ m,s.heap.Ns X.env.locals m∧∀ (i:Nat) (x:Str) (v:V),X.N[i]?=some x→σ[i]?=some (some v)→Vis X.env.scope x→∃ u,RelV v u∧Look X.env s.heap m x u
  cell:∀ x c,X.env.cells.lookup x=some c→∃ v,s.heap.IsCell c v
  free:H X.env.locals=none
  freeC:∀ x c,X.env.cells.lookup x=some c→H c=none
  pin:∀ p∈X.pn++pins,s.heap.get? p.1=some p.2∧H p.1=none∧p.1≠X.env.locals∧p.1 ∉ X.fs∧∀ v,p.2.data≠.cell v
  hok:HOk X.prog X.w H s.heap
  len:σ.length=X.N.length
section
variable {X:Cx} {pins:List (Addr×Obj)} {σ:List (Option V)} {H H':Hp} {s:Shared} {h':Heap}
theorem Cx.Ok.nofr (ok:X.Ok) {b:Addr} {o:Obj} (e:X.base.get? b=some o):b ∉ X.fs:=fun hb=>by
  have:=(ok.funs.mem hb).1
  rw [e] at this;cases this
theorem Inv.bs (I:Inv X pins σ H s):∀ b o,X.base.get? b=some o→s.heap.get? b=some o∧H b=none:=fun b o e=>
  ⟨I.base.keep b o (I.ok.bs b o e).1 (I.ok.bs b o e).2 (I.ok.nofr e) (I.ok.noex b o e),I.base.free b o (I.ok.bs b o e).1 (I.ok.bs b o e).2 (I.ok.noex b o e)⟩
theorem Inv.bk (I:Inv X pins σ H s):∀ b o,X.base.get? b=some o→s.heap.get? b=some o:=fun b o e=>(I.bs b o e).1
theorem Inv.mod (I:Inv X pins σ H s):Mod X.K X.mg X.base:=I.ok.mod
theorem Inv.kIn (I:Inv X pins σ H s):X.K.In s.heap:=I.ok.mod.kin.keeps I.bk
theorem Inv.lt (I:Inv X pins σ H s):X.env.locals<s.heap.objs.size:=let ⟨_,hn,_⟩:=I.loc;hn.lt
theorem Inv.sz (I:Inv X pins σ H s):X.s₀.heap.objs.size≤s.heap.objs.size:=Nat.le_trans I.ok.above (Nat.le_of_lt I.lt)
theorem Inv.nofs (I:Inv X pins σ H s) {a:Addr} (h:s.heap.objs.size≤a):a ∉ X.fs:=fun hb=>by
  obtain ⟨_,o,ho,_⟩:=I.ok.funs.mem hb
  exact absurd (Nat.lt_of_lt_of_le (Heap.lt_size ho) (Nat.le_trans I.sz h)) (Nat.lt_irrefl _)
theorem Inv.cne (I:Inv X pins σ H s):∀ x c,X.env.cells.lookup x=some c→c≠X.env.locals:=fun x c e z=>by
  obtain ⟨v,o,ho,hd⟩:=I.cell x c e
  obtain ⟨m,⟨o',es,ep,ho',hd',_⟩,_⟩:=I.loc
  rw [z,ho'] at ho;cases ho;rw [hd'] at hd;cases hd
theorem Inv.funs (I:Inv X pins σ H s):s.heap.FunFrames X.base X.outer:=by
  have all:∀ (l:List Env),(∀ b∈frs l,b∈X.fs)→X.s₀.heap.FunFrames X.base l→s.heap.FunFrames X.base l:=by
    intro l
    induction l with
    | nil=>intro _ _;trivial
    | cons env r ih=>
      intro hs hl
      obtain ⟨hk,⟨L,o,hf,hn,ho,hd⟩,hr⟩:=hl
      have hL:L∈X.fs:=hs L (by unfold frs;rw [List.filterMap_cons,hf];exact List.mem_cons_self)
      obtain ⟨sl,e⟩:=I.base.slot L o ho (I.ok.frf L hL) hL fun z=>I.ok.exfs L z hL
      exact ⟨hk,⟨L,_,hf,hn,e,hd⟩,ih (fun b hb=>hs b (by unfold frs;rw [List.filterMap_cons,hf];exact List.mem_cons_of_mem _ hb)) hr⟩
  exact all X.outer (fun _ hb=>hb) I.ok.funs
theorem Inv.stack (I:Inv X pins σ H s):s.heap.FunFrames X.base X.stack:=by
  rcases I.ok.stk with e | ⟨e,hf⟩
  · rw [e];exact I.funs
  · rw [e]
    obtain ⟨m,hn,_⟩:=I.loc
    refine .cons (by rw [I.ok.kind];decide) hf hn ?_ I.funs
    exact Heap.get?_none_of_le (Nat.le_trans I.ok.bsz I.ok.above)
theorem Inv.stkSub (I:Inv X pins σ H s):∀ b∈frs X.stack,b∈X.env.locals::X.fs:=fun b hb=>by
  rcases I.ok.stk with e | ⟨e,hf⟩
  · rw [e] at hb;exact List.mem_cons_of_mem _ hb
  · rw [e] at hb
    unfold frs at hb
    rw [List.filterMap_cons,hf] at hb
    exact hb
theorem Inv.stkFree (I:Inv X pins σ H s):∀ b∈frs X.stack,H b=none:=fun b hb=>by
  rcases List.mem_cons.mp (I.stkSub b hb) with e | hb
  · rw [e];exact I.free
  · obtain ⟨_,o,ho,_⟩:=I.ok.funs.mem hb
    exact I.base.free b o ho (I.ok.frf b hb) fun z=>I.ok.exfs b z hb
theorem Inv.step {g':Array GenState} {t':Nat} {d':Drawn} {ch:List Addr} (I:Inv X pins σ H s)
    (hch:∀ b∈ch,(b∈X.ex∨X.s₀.heap.objs.size≤b)∧b≠X.env.locals∧(∀ x c,X.env.cells.lookup x=some c→c≠b)∧∀ p∈X.pn++pins,p.1≠b)
    (keep:∀ b o,b≠X.env.locals→b ∉ X.fs→b ∉ ch→s.heap.get? b=some o→H b=none→h'.get? b=some o)
    (slot:∀ b o,b≠X.env.locals→b∈X.fs→b ∉ ch→s.heap.get? b=some o→H b=none→∃ sl,h'.get? b=some { o with slots:=sl }) (free:∀ b o,b ∉ ch→s.heap.get? b=some o→H b=none→H' b=none)
    (there:∀ b o,b ∉ ch→s.heap.get? b=some o→∃ o',h'.get? b=some o')
    (tups:∀ b xs,H b=some (.tup xs)→H' b=some (.tup xs)) (frzs:∀ b o u,H b=some (.frz o u)→H' b=some (.frz o u)) (tbls:∀ b ps,H b=some (.tbl ps)→∃ more,H' b=some (.tbl (ps++more)))
    (ns:∀ m,s.heap.Ns X.env.locals m→h'.Ns X.env.locals m) (hok:HOk X.prog X.w H' h') (hg:AllBare g') :
    Inv X pins σ H' { s with heap:=h',gens:=g',drawn:=d',toks:=t' }:=by
  have neL:∀ b o,X.s₀.heap.get? b=some o→b≠X.env.locals:=fun b o e=>Nat.ne_of_lt (Nat.lt_of_lt_of_le (Heap.lt_size e) I.ok.above)
  have neC:∀ b o,X.s₀.heap.get? b=some o→b ∉ X.ex→b ∉ ch:=fun b o e hx hb=>by
    rcases (hch b hb).1 with z | z
    · exact hx z
    · exact absurd (Nat.lt_of_lt_of_le (Heap.lt_size e) z) (Nat.lt_irrefl _)
  have cellK:∀ x c,X.env.cells.lookup x=some c→∀ v,s.heap.IsCell c v→h'.IsCell c v:=fun x c e v ⟨o,ho,hd⟩=>by
    have nch:c ∉ ch:=fun z=>(hch c z).2.2.1 x c e rfl
    by_cases hc:c∈X.fs
    · obtain ⟨sl,q⟩:=slot c o (I.cne x c e) hc nch ho (I.freeC x c e)
      exact ⟨_,q,hd⟩
    · exact ⟨o,keep c o (I.cne x c e) hc nch ho (I.freeC x c e),hd⟩
  refine ⟨I.ok,I.os,hg,⟨fun b o e n hb hx=>?_,fun b o e n hb hx=>?_,fun b o e n hx=>?_,fun b o e hx=>?_,fun b xs e=>tups b xs (I.base.tups b xs e),fun b o xs e=>frzs b o xs (I.base.frzs b o xs e),fun b ps e=>?_⟩,?_,fun x c e=>?_,?_,fun x c e=>?_,fun p hp=>?_,hok,I.len⟩
  · exact keep b o (neL b o e) hb (neC b o e hx) (I.base.keep b o e n hb hx) (I.base.free b o e n hx)
  · obtain ⟨sl,e1⟩:=I.base.slot b o e n hb hx
    obtain ⟨sl',e2⟩:=slot b _ (neL b o e) hb (neC b o e hx) e1 (I.base.free b o e n hx)
    exact ⟨sl',e2⟩
  · obtain ⟨o',e1⟩:=I.base.there b o e hx
    exact free b o' (neC b o e hx) e1 (I.base.free b o e n hx)
  · obtain ⟨o',e1⟩:=I.base.there b o e hx
    exact there b o' (neC b o e hx) e1
  · obtain ⟨m1,e1⟩:=I.base.tbls b ps e
    obtain ⟨m2,e2⟩:=tbls b _ e1
    exact ⟨m1++m2,by rw [e2,Array.append_assoc]⟩
  · obtain ⟨m,hn,hl⟩:=I.loc
    refine ⟨m,ns m hn,fun i x v e1 e2 e3=>?_⟩
    obtain ⟨u,r,l⟩:=hl i x v e1 e2 e3
    refine ⟨u,r,?_⟩
    rcases l with l | ⟨k,c,e,z⟩
    · exact .inl l
    · exact .inr ⟨k,c,e,cellK x c e _ z⟩
  · obtain ⟨v,z⟩:=I.cell x c e
    exact ⟨v,cellK x c e v z⟩
  · obtain ⟨m,⟨o,_,_,ho,_⟩,_⟩:=I.loc
    exact free _ o (fun z=>(hch _ z).2.1 rfl) ho I.free
  · obtain ⟨v,o,ho,hd⟩:=I.cell x c e
    exact free c o (fun z=>(hch c z).2.2.1 x c e rfl) ho (I.freeC x c e)
  · obtain ⟨e,n,ne,nf,d⟩:=I.pin p hp
    have nch:p.1 ∉ ch:=fun z=>(hch p.1 z).2.2.2 p hp rfl
    exact ⟨keep p.1 p.2 ne nf nch e n,free p.1 p.2 nch e n,ne,nf,d⟩
theorem Inv.un {t':Nat} (I:Inv X pins σ H s) (u:Un X.fs [] H H' s.heap h') (hok:HOk X.prog X.w H' h'):Inv X pins σ H' { s with heap:=h',toks:=t' }:=by
  obtain ⟨m,⟨o,es,ep,ho,r⟩,_⟩:=id I.loc
  obtain ⟨sl,hL⟩:=u.any ho I.free (by simp)
  exact I.step (g':=s.gens) (d':=s.drawn) (ch:=[]) (fun _ z=>nomatch z) (fun b o _ hb _ e n=>u.keep b o e n hb (by simp)) (fun b o _ hb _ e n=>u.slot b o e n hb (by simp)) (fun b o _ e n=>u.free b o e n (by simp)) (fun b o _ e=>u.there b o e (by simp)) u.tups u.frzs u.tbls (fun m' hm=>by
    obtain ⟨o',es',ep',ho',r'⟩:=hm
    rw [ho] at ho';cases ho'
    exact ⟨_,es',ep',hL,r'⟩) hok I.bare
theorem Inv.call {g':Array GenState} {t':Nat} {d':Drawn} {ch:List Addr} (I:Inv X pins σ H s) (u:Un (frs X.stack) ch H H' s.heap h') (hok:HOk X.prog X.w H' h') (hg:AllBare g')
    (hch:∀ b∈ch,(b∈X.ex∨X.s₀.heap.objs.size≤b)∧b≠X.env.locals∧(∀ x c,X.env.cells.lookup x=some c→c≠b)∧∀ p∈X.pn++pins,p.1≠b) :
    Inv X pins σ H' { s with heap:=h',gens:=g',drawn:=d',toks:=t' }:=by
  obtain ⟨m,⟨o,es,ep,ho,r⟩,_⟩:=id I.loc
  obtain ⟨sl,hL⟩:=u.any ho I.free fun z=>(hch _ z).2.1 rfl
  exact I.step (ch:=ch) hch (fun b o hL hb hc e n=>u.keep b o e n (fun z=>(List.mem_cons.mp (I.stkSub b z)).elim hL hb) hc) (fun b o _ _ hc e n=>u.any e n hc) (fun b o hc e n=>u.free b o e n hc) (fun b o hc e=>u.there b o e hc) u.tups u.frzs u.tbls (fun m' hm=>by
    obtain ⟨o',es',ep',ho',r'⟩:=hm
    rw [ho] at ho';cases ho'
    exact ⟨_,es',ep',hL,r'⟩) hok hg
theorem Inv.turned {t':Nat} {it:Addr} (I:Inv X pins σ H s) (k:∀ b o,b≠it→s.heap.get? b=some o→h'.get? b=some o) (hn:H it=none) (hL:it≠X.env.locals)
    (h1:it∈X.ex∨X.s₀.heap.objs.size≤it) (h2:∀ x c,X.env.cells.lookup x=some c→c≠it) (h3:∀ p∈X.pn++pins,p.1≠it):Inv X pins σ H { s with heap:=h',toks:=t' }:=by
  have nit:∀ b u,H b=some u→b≠it:=fun b u e z=>by rw [z,hn] at e;cases e
  refine I.step (g':=s.gens) (d':=s.drawn) (ch:=[it]) (fun b hb=>?_) (fun b o _ _ hc e _=>k b o (fun z=>hc (by simp [z])) e) (fun b o _ _ hc e _=>⟨o.slots,k b o (fun z=>hc (by simp [z])) e⟩) (fun _ _ _ _ n=>n)
    (fun b o hc e=>⟨o,k b o (fun z=>hc (by simp [z])) e⟩) (fun _ _ e=>e) (fun _ _ _ e=>e) (fun b ps e=>⟨#[],by rw [e];simp⟩) (fun m hm=>?_) (fun b u e=>?_) I.bare
  · have e:b=it:=by simpa using hb
    subst e
    exact ⟨h1,hL,h2,h3⟩
  · obtain ⟨o,es,ep,ho,r⟩:=hm
    exact ⟨o,es,ep,k _ o (Ne.symm hL) ho,r⟩
  · refine (I.hok b u e).stay (fun c v hc q=>k c v ?_ q) (fun _ q=>q) fun _ _ q=>q
    rcases hc with z | z
    · rw [z];exact nit b u e
    · exact nit c _ z
theorem Inv.tok (I:Inv X pins σ H s) (t:Nat):Inv X pins σ H { s with toks:=t }:=I.un (h':=s.heap) (t':=t) Un.refl I.hok
theorem Inv.kept {t':Nat} (I:Inv X pins σ H s) (k:∀ b u,s.heap.get? b=some u→h'.get? b=some u):Inv X pins σ H { s with heap:=h',toks:=t' }:=I.un (Un.kept k) (I.hok.kept k)
theorem Inv.laid {a:Addr} {o:HO} {t':Nat} (I:Inv X pins σ H s) (k:∀ b u,s.heap.get? b=some u→h'.get? b=some u) (hp:s.heap.objs.size≤a) (new:ObjOk X.prog X.w (upd H a o) h' a o) :
    Inv X pins σ (upd H a o) { s with heap:=h',toks:=t' }:=I.un (Un.laid k hp (I.hok.fresh hp)) (I.hok.laid k hp new)
theorem Inv.write {x e:Addr} {o:HO} {t':Nat} (I:Inv X pins σ H s) (mu:Mut (H x)) (he:e=x∨H e=some (.own x)) (k:∀ b u,b≠e→s.heap.get? b=some u→h'.get? b=some u) (heo:∃ u,h'.get? e=some u)
    (new:ObjOk X.prog X.w (upd H x o) h' x o):Inv X pins σ (upd H x o) { s with heap:=h',toks:=t' }:=I.un (Un.write mu he k heo) (I.hok.write mu he k heo new)
theorem Inv.pins_of {pins':List (Addr×Obj)} (I:Inv X pins σ H s) (h:∀ p∈pins',s.heap.get? p.1=some p.2∧H p.1=none∧p.1≠X.env.locals∧p.1 ∉ X.fs∧∀ v,p.2.data≠.cell v):Inv X pins' σ H s:=
  ⟨I.ok,I.os,I.bare,I.base,I.loc,I.cell,I.free,I.freeC,fun p hp=>(List.mem_append.mp hp).elim (fun z=>I.pin p (List.mem_append_left _ z)) (h p),I.hok,I.len⟩
theorem q93 {N:List Str} (hN:N.Nodup) {i j:Nat} {x:Str} (a:N[i]?=some x) (b:N[j]?=some x):i=j:=by
  obtain ⟨h1,e1⟩:=List.getElem?_eq_some_iff.mp a
  obtain ⟨h2,e2⟩:=List.getElem?_eq_some_iff.mp b
  exact (List.getElem_inj hN).mp (e1.trans e2.symm)
theorem qR6 {M:Model} {A:Around} {E:Value→Shared→Prop} {i:Nat} {x:Str} {v:V} {u:Value} {Q:Unit→Shared→Prop} (I:Inv X pins σ H s) (hN:X.N.Nodup) (hi:X.N[i]?=some x) (hx:Loc X.env.scope x) (r:RelV v u)
    (h:∀ s',Inv X pins (σ.set i (some v)) H s'→(∃ a,Heap.SameBut a s.heap s'.heap∧(a=X.env.locals∨X.env.cells.lookup x=some a))→Q () s') (hf:X.fn x=true∨X.env.scope.names.lookup x=some .local:=by first | exact .inl rfl | exact .inr rfl | assumption):wpAny M A (storeName X.env x u) Q E s:=by
  obtain ⟨m,hn,hl⟩:=id I.loc
  have hcls:(X.env.scope.kind == .class||(X.env.scope.kind == .module&&X.env.locals != X.env.globals))=false:=by rw [I.ok.kind];rfl
  have hiσ:i < σ.length:=by rw [I.len];exact (List.getElem?_eq_some_iff.mp hi).1
  have cne:=I.cne
  have tracked:∀ {a:Addr} {h':Heap},(∃ o,s.heap.get? a=some o∧H a=none)→Heap.SameBut a s.heap h'→HOk X.prog X.w H h':=fun {a h'} ha hs b ob e=>by
    obtain ⟨_,_,hfree⟩:=ha
    refine (I.hok b ob e).stay (fun c w' hc q=>(hs.2 c ?_).trans q) (fun _ q=>q) fun _ _ q=>q
    rintro rfl
    rcases hc with rfl | hc
    · rw [hfree] at e;cases e
    · rw [hfree] at hc;cases hc
  rcases hx with hk | hk
  · refine wpAny_storeName_local hk hn (fun h' hn' hs=>?_) hcls
    obtain ⟨oL,_,_,hoL,_⟩:=id hn
    refine h _ ⟨I.ok,I.os,I.bare,⟨fun b o e n hb hx=>?_,fun b o e n hb hx=>?_,I.base.free,fun b o e hx=>?_,I.base.tups,I.base.frzs,I.base.tbls⟩,⟨_,hn',fun j y v' e1 e2 e3=>?_⟩,fun y c e=>?_,I.free,I.freeC,fun p hp=>?_,tracked ⟨oL,hoL,I.free⟩ hs,by simpa using I.len⟩ ⟨_,hs,.inl rfl⟩
    · exact (hs.2 b (Nat.ne_of_lt (Nat.lt_of_lt_of_le (Heap.lt_size e) I.ok.above))).trans (I.base.keep b o e n hb hx)
    · obtain ⟨sl,e1⟩:=I.base.slot b o e n hb hx
      exact ⟨sl,(hs.2 b (Nat.ne_of_lt (Nat.lt_of_lt_of_le (Heap.lt_size e) I.ok.above))).trans e1⟩
    · obtain ⟨o',e1⟩:=I.base.there b o e hx
      exact ⟨o',(hs.2 b (Nat.ne_of_lt (Nat.lt_of_lt_of_le (Heap.lt_size e) I.ok.above))).trans e1⟩
    · by_cases hj:j=i
      · subst hj
        rw [hi] at e1;cases e1
        rw [List.getElem?_set_self hiσ] at e2
        cases e2
        exact ⟨u,r,.inl ⟨hk,by simp⟩⟩
      · rw [List.getElem?_set_ne (Ne.symm hj)] at e2
        obtain ⟨u',r',q⟩:=hl j y v' e1 e2 e3
        refine ⟨u',r',?_⟩
        rcases q with ⟨k,e⟩ | ⟨k,c,e,z⟩
        · refine .inl ⟨k,?_⟩
          have:y≠x:=fun e=>hj (q93 hN e1 (e ▸ hi))
          simp [this,e]
        · exact .inr ⟨k,c,e,z.sameBut hs (cne y c e)⟩
    · obtain ⟨w',z⟩:=I.cell y c e
      exact ⟨w',z.sameBut hs (cne y c e)⟩
    · obtain ⟨e,n,ne,nf,d⟩:=I.pin p hp
      exact ⟨(hs.2 p.1 ne).trans e,n,ne,nf,d⟩
  · have hfn:X.fn x=true:=by
      rcases hf with z | z
      · exact z
      · rw [z] at hk;cases hk
    obtain ⟨c,hc⟩:=I.ok.has x (.inl hk)
    obtain ⟨w',z⟩:=I.cell x c hc
    refine wpAny_storeName_cell I.ok.kind hk hc z (fun h' hc' hs=>?_)
    obtain ⟨oc,hoc,hocd⟩:=id z
    refine h { s with heap:=h' } ⟨I.ok,I.os,I.bare,⟨fun b o e n hb hx=>?_,fun b o e n hb hx=>?_,I.base.free,fun b o e hx=>?_,I.base.tups,I.base.frzs,I.base.tbls⟩,⟨m,hn.sameBut hs (Ne.symm (cne x c hc)),fun j y v' e1 e2 e3=>?_⟩,fun y c' e=>?_,I.free,I.freeC,fun p hp=>?_,tracked ⟨oc,hoc,I.freeC x c hc⟩ hs,by simpa using I.len⟩ ⟨c,hs,.inr hc⟩
    · exact (hs.2 b (Nat.ne_of_lt (Nat.lt_of_lt_of_le (Heap.lt_size e) (I.ok.cab x c hfn hc)))).trans (I.base.keep b o e n hb hx)
    · obtain ⟨sl,e1⟩:=I.base.slot b o e n hb hx
      exact ⟨sl,(hs.2 b (Nat.ne_of_lt (Nat.lt_of_lt_of_le (Heap.lt_size e) (I.ok.cab x c hfn hc)))).trans e1⟩
    · obtain ⟨o',e1⟩:=I.base.there b o e hx
      exact ⟨o',(hs.2 b (Nat.ne_of_lt (Nat.lt_of_lt_of_le (Heap.lt_size e) (I.ok.cab x c hfn hc)))).trans e1⟩
    · by_cases hj:j=i
      · subst hj
        rw [hi] at e1;cases e1
        rw [List.getElem?_set_self hiσ] at e2
        cases e2
        exact ⟨u,r,.inr ⟨.inl hk,c,hc,hc'⟩⟩
      · rw [List.getElem?_set_ne (Ne.symm hj)] at e2
        obtain ⟨u',r',q⟩:=hl j y v' e1 e2 e3
        refine ⟨u',r',?_⟩
        rcases q with q | ⟨k,c',e,z'⟩
        · exact .inl q
        · refine .inr ⟨k,c',e,z'.sameBut hs ?_⟩
          rintro rfl
          exact hj (q93 hN e1 (I.ok.inj _ _ _ e hc ▸ hi))
    · by_cases hcc:c'=c
      · subst hcc;exact ⟨_,hc'⟩
      · obtain ⟨w2,z2⟩:=I.cell y c' e
        exact ⟨w2,z2.sameBut hs hcc⟩
    · obtain ⟨e,n,ne,nf,d⟩:=I.pin p hp
      refine ⟨(hs.2 p.1 ?_).trans e,n,ne,nf,d⟩
      intro q
      rw [q,hoc] at e
      have q':oc=p.2:=Option.some.inj e
      exact d w' (by rw [← q'];exact hocd)
theorem qB7 {M:Model} {A:Around} {E:Value→Shared→Prop} {i:Nat} {x:Str} {v:V} {u:Value} {Q:Unit→Shared→Prop} (I:Inv X pins σ H s) (hN:X.N.Nodup) (hi:X.N[i]?=some x) (hx:Loc X.env.scope x) (r:RelV v u)
    (h:∀ s',Inv X pins (σ.set i (some v)) H s'→Q () s') (hf:X.fn x=true∨X.env.scope.names.lookup x=some .local:=by first | exact .inl rfl | exact .inr rfl | assumption):wpAny M A (storeName X.env x u) Q E s:=
  qR6 I hN hi hx r (fun s' I' _=>h s' I') hf
theorem Inv.call' {s':Shared} {ch:List Addr} (I:Inv X pins σ H s) (ho:s'.os=s.os) (u:Un (frs X.stack) ch H H' s.heap s'.heap) (hok:HOk X.prog X.w H' s'.heap) (hg:AllBare s'.gens)
    (hch:∀ b∈ch,(b∈X.ex∨X.s₀.heap.objs.size≤b)∧b≠X.env.locals∧(∀ x c,X.env.cells.lookup x=some c→c≠b)∧∀ p∈X.pn++pins,p.1≠b):Inv X pins σ H' s':=by
  obtain ⟨h',g',d',t',o'⟩:=s'
  have e:o'=s.os:=ho
  subst e
  exact I.call (g':=g') (t':=t') (d':=d') u hok hg hch
end
noncomputable abbrev XK:=Value→Option Addr→Hp→Prop
noncomputable abbrev St:=List (Option V)
noncomputable abbrev VK:=V→Hp→Prop
noncomputable abbrev TE:=St→Hp→VK→Prop
noncomputable abbrev TT:=St→Hp→(Bool→Hp→Prop)→Prop
noncomputable abbrev TA:=St→Hp→(List V→Hp→Prop)→Prop
structure Ends where
  nx:St→Hp→Prop
  rt:VK
  bk:St→Hp→Prop:=fun _ _=>False
  ct:St→Hp→Prop:=fun _ _=>False
noncomputable abbrev TS:=Ends→St→Hp→Prop
noncomputable def EP (X:Cx) (pins:List (Addr×Obj)) (σ:St) (Q:VK) (u:Value) (s':Shared):Prop:=∃ v H',Inv X pins σ H' s'∧RelV v u∧Q v H'
noncomputable def TP (X:Cx) (pins:List (Addr×Obj)) (σ:St) (Q:Bool→Hp→Prop) (b:Bool) (s':Shared):Prop:=∃ H',Inv X pins σ H' s'∧Q b H'
noncomputable def AP (X:Cx) (pins:List (Addr×Obj)) (σ:St) (Q:List V→Hp→Prop) (us:List Value) (s':Shared):Prop:=∃ vs H',Inv X pins σ H' s'∧Vals vs us∧Q vs H'
noncomputable def SP (X:Cx) (pins:List (Addr×Obj)) (D:Ends) (f:Flow) (s':Shared):Prop:=
  match f with
  | .next=>∃ σ' H',Inv X pins σ' H' s'∧D.nx σ' H'
  | .brk=>∃ σ' H',Inv X pins σ' H' s'∧D.bk σ' H'
  | .cont=>∃ σ' H',Inv X pins σ' H' s'∧D.ct σ' H'
  | .ret u=>∃ v σ' H',Inv X pins σ' H' s'∧RelV v u∧D.rt v H'
noncomputable def PE (X:Cx) (e:Expr) (t:TE):Prop:=
  ∀ (pins:List (Addr×Obj)) (s:Shared) (σ:St) (H:Hp) (Q:VK),Inv X pins σ H s→t σ H Q→wpAny (model X.prog X.w) X.A (eval e X.env) (EP X pins σ Q) X.xe s
noncomputable def PT (X:Cx) (e:Expr) (t:TT):Prop:=
  ∀ (pins:List (Addr×Obj)) (s:Shared) (σ:St) (H:Hp) (Q:Bool→Hp→Prop),Inv X pins σ H s→t σ H Q→wpAny (model X.prog X.w) X.A (isTrue e X.env (eval e X.env)) (TP X pins σ Q) X.xe s
noncomputable def PW (X:Cx) (e:Expr) (t:TT):Prop:=
  ∀ (whole:Sem Value) (pins:List (Addr×Obj)) (s:Shared) (σ:St) (H:Hp) (Q:Bool→Hp→Prop),Inv X pins σ H s→t σ H Q→wpAny (model X.prog X.w) X.A (isTrue e X.env whole) (TP X pins σ Q) X.xe s
theorem PW.pt {X:Cx} {e:Expr} {t:TT} (h:PW X e t):PT X e t:=h _
noncomputable def PA (X:Cx) (es:List Expr) (t:TA):Prop:=
  ∀ (pos:Pos) (pins:List (Addr×Obj)) (s:Shared) (σ:St) (H:Hp) (Q:List V→Hp→Prop),Inv X pins σ H s→t σ H Q→wpAny (model X.prog X.w) X.A (spliced (backTo pos (starEach es X.env))) (AP X pins σ Q) X.xe s
noncomputable def PS (X:Cx) (st:Stmt) (t:TS):Prop:=
  ∀ (pins:List (Addr×Obj)) (s:Shared) (σ:St) (H:Hp) (D:Ends),Inv X pins σ H s→t D σ H→wpAny (model X.prog X.w) X.A (exec st X.env) (SP X pins D) X.xe s
noncomputable def PSs (X:Cx) (st:List Stmt) (t:TS):Prop:=
  ∀ (pins:List (Addr×Obj)) (s:Shared) (σ:St) (H:Hp) (D:Ends),Inv X pins σ H s→t D σ H→wpAny (model X.prog X.w) X.A (execs st X.env) (SP X pins D) X.xe s
theorem thn {α:Type} {t:Sem α} {Q Q':α→Shared→Prop} {M:Model} {A:Around} {E:Value→Shared→Prop} {s:Shared} (h:wpAny M A t Q E s) (hQ:∀ a s,Q a s→Q' a s):wpAny M A t Q' E s:=wpAny_mono h hQ fun _ _ x=>x
end L2
namespace L2
open PySem PySem.Spec PyProof.Rows
section
variable {X:Cx}
theorem bin {a b:Expr} {ta tb:TE} (ha:PE X a ta) (hb:PE X b tb) {pins:List (Addr×Obj)} {s:Shared} {σ:St} {H:Hp} {R:V→V→Hp→Prop} (I:Inv X pins σ H s) (h:ta σ H fun x H1=>tb σ H1 fun y H2=>R x y H2)
    {α:Type} {Q:α→Shared→Prop} {f:Value→Value→Sem α}
    (hf:∀ v u s2 x y H2,Inv X pins σ H2 s2→RelV x v→RelV y u→R x y H2→wpAny (model X.prog X.w) X.A (f v u) Q X.xe s2) :
    wpAny (model X.prog X.w) X.A (eval a X.env) (fun v s₁=>wpAny (model X.prog X.w) X.A (eval b X.env) (fun u s₂=>wpAny (model X.prog X.w) X.A (f v u) Q X.xe s₂) X.xe s₁) X.xe s:=by
  refine thn (ha pins s σ H _ I h) fun v s1 ⟨x,H1,I1,r1,q1⟩=>?_
  refine thn (hb pins s1 σ H1 _ I1 q1) fun u s2 ⟨y,H2,I2,r2,q2⟩=>?_
  exact hf v u s2 x y H2 I2 r1 r2 q2
noncomputable def tVar (i:Nat):TE:=fun σ H Q=>∃ v,σ[i]?=some (some v)∧Q v H
noncomputable def tC (v:V):TE:=fun _ H Q=>Q v H
theorem pe_var {i:Nat} {x:Str} {pos:Pos} (hN:X.N[i]?=some x) (hv:Vis X.env.scope x) (hd:(x == ("__debug__":Str))=false:=by decide) (hcd:(x == ("__classdict__":Str))=false:=by decide):PE X (.Name x pos) (tVar i):=by
  intro pins s σ H Q I h
  obtain ⟨v,e,h⟩:=h
  obtain ⟨m,hn,hl⟩:=I.loc
  obtain ⟨u,r,l⟩:=hl i x v hN e hv
  have fin:EP X pins σ Q u s:=⟨v,H,I,r,h⟩
  rcases l with ⟨hk,hm⟩ | ⟨hk,c,hc,hcell⟩
  · exact wpAny_Name (wpAny_loadName_local I.ok.kind hk hn hm fin) hd
  · rcases hk with hk | hk
    · exact wpAny_Name (wpAny_loadName_cell I.ok.kind hk hc hcell fin) hd
    · exact wpAny_Name (wpAny_loadName_free I.ok.kind hk hc hcell fin hcd) hd
theorem pe_int {i j pos}:PE X (.Constant (.int i) j pos) (tC (.int i)):=fun _ _ _ H _ I h=>wpAny_Constant_int ⟨.int i,H,I.tok _,⟨_,rfl⟩,h⟩
theorem pe_bl {b j pos}:PE X (.Constant (.bool b) j pos) (tC (.bl b)):=fun _ _ _ H _ I h=>Constant_bool ⟨.bl b,H,I,rfl,h⟩
theorem pe_non {j pos}:PE X (.Constant .none j pos) (tC .non):=fun _ _ _ H _ I h=>Constant_none ⟨.non,H,I,rfl,h⟩
theorem pe_str {x j pos}:PE X (.Constant (.str x) j pos) (tC (.str x)):=fun _ _ _ H _ I h=>Calls.Constant_str ⟨.str x,H,I.tok _,⟨_,rfl⟩,h⟩
noncomputable def Gl (X:Cx) (x:Str):Prop:=X.env.kindOf x=some .globalImplicit
theorem q50 {E:Value→Shared→Prop} {pins:List (Addr×Obj)} {s:Shared} {σ:St} {H:Hp} {x:Str} {u:Value} {pos:Pos} {Q:Value→Shared→Prop} (I:Inv X pins σ H s) (hg:Gl X x) (hm:X.mg x=some u) (h:Q u s)
    (hd:(x == ("__debug__":Str))=false:=by decide):wpAny (model X.prog X.w) X.A (eval (.Name x pos) X.env) Q E s:=
  Calls.Name_function_global I.ok.kind hg (Calls.loadGlobal_global (by rw [I.ok.glob];exact I.mod.glob.keeps I.bk) hm h) hd
theorem qx1 {E:Value→Shared→Prop} {pins:List (Addr×Obj)} {s:Shared} {σ:St} {H:Hp} {x:Str} {u:Value} {pos:Pos} {Q:Value→Shared→Prop} (I:Inv X pins σ H s) (hg:Gl X x) (hm:X.mg x=none) (hv:bootBuiltins x=some u) (h:Q u s)
    (hn:x ≠ "__name__":=by decide) (hd:(x == ("__debug__":Str))=false:=by decide):wpAny (model X.prog X.w) X.A (eval (.Name x pos) X.env) Q E s:=by
  obtain ⟨mb,h1,h2⟩:=I.mod.blt
  exact Calls.Name_function_global I.ok.kind hg (Calls.loadGlobal_builtin (by rw [I.ok.glob];exact I.mod.glob.keeps I.bk) hm (by rw [I.ok.blt];exact h1.keeps I.bk) ((h2 x hn).trans hv) h) hd
theorem pe_glob {x:Str} {v:V} {u:Value} {pos:Pos} (hg:Gl X x) (hm:X.mg x=some u) (r:RelV v u) (hd:(x == ("__debug__":Str))=false:=by decide):PE X (.Name x pos) (tC v):=
  fun _ _ _ H _ I h=>q50 I hg hm ⟨v,H,I,r,h⟩ hd
theorem pe_bltn {x:Str} {v:V} {u:Value} {pos:Pos} (hg:Gl X x) (hm:X.mg x=none) (hv:bootBuiltins x=some u) (r:RelV v u) (hn:x ≠ "__name__":=by decide) (hd:(x == ("__debug__":Str))=false:=by decide):PE X (.Name x pos) (tC v):=
  fun _ _ _ H _ I h=>qx1 I hg hm hv ⟨v,H,I,r,h⟩ hn hd
variable {a b:Expr} {ta tb:TE} {pos:Pos}
variable {tA tB':TT} {rest:List Expr}
noncomputable def tAnd (t u:TT):TT:=fun σ H Q=>t σ H fun c H1=>if c=true then u σ H1 Q else Q false H1
noncomputable def tOr (t u:TT):TT:=fun σ H Q=>t σ H fun c H1=>if c=true then Q true H1 else u σ H1 Q
noncomputable def tNot (t:TT):TT:=fun σ H Q=>t σ H fun c H1=>Q (!c) H1
theorem pw_and1 (ha:PT X a tA):PW X (.BoolOp .And [a] pos) tA:=by
  intro wh pins s σ H Q I h
  refine isTrue_and (thn (ha pins s σ H Q I h) fun c s1 e=>?_)
  cases c with
  | true=>exact isTrue_and_nil e
  | false=>exact e
theorem pw_or1 (ha:PT X a tA):PW X (.BoolOp .Or [a] pos) tA:=by
  intro wh pins s σ H Q I h
  refine isTrue_or (thn (ha pins s σ H Q I h) fun c s1 e=>?_)
  cases c with
  | false=>exact isTrue_or_nil e
  | true=>exact e
theorem pw_and (ha:PT X a tA) (hb:PW X (.BoolOp .And (b::rest) pos) tB'):PW X (.BoolOp .And (a::b::rest) pos) (tAnd tA tB'):=by
  intro wh pins s σ H Q I h
  refine isTrue_and (thn (ha pins s σ H _ I h) fun c s1 ⟨H1,I1,q1⟩=>?_)
  cases c with
  | true=>exact hb wh pins s1 σ H1 Q I1 q1
  | false=>exact ⟨H1,I1,q1⟩
theorem pw_or (ha:PT X a tA) (hb:PW X (.BoolOp .Or (b::rest) pos) tB'):PW X (.BoolOp .Or (a::b::rest) pos) (tOr tA tB'):=by
  intro wh pins s σ H Q I h
  refine isTrue_or (thn (ha pins s σ H _ I h) fun c s1 ⟨H1,I1,q1⟩=>?_)
  cases c with
  | true=>exact ⟨H1,I1,q1⟩
  | false=>exact hb wh pins s1 σ H1 Q I1 q1
theorem pt_not (ha:PT X a tA):PT X (.UnaryOp .Not a pos) (tNot tA):=by
  intro pins s σ H Q I h
  exact isTrue_not (ha pins s σ H (fun c H1=>Q (!c) H1) I h)
theorem pe_one {op} {t:TE} (h:PE X a t):PE X (.BoolOp op [a] pos) t:=fun pins s σ H Q I hw=>BoolOp_one (h pins s σ H Q I hw)
noncomputable def tIf (t:TT) (ta tb:TE):TE:=fun σ H Q=>t σ H fun c H1=>if c=true then ta σ H1 Q else tb σ H1 Q
theorem pe_ifExp {c:Expr} (hc:PT X c tA) (ha:PE X a ta) (hb:PE X b tb):PE X (.IfExp c a b pos) (tIf tA ta tb):=by
  intro pins s σ H Q I h
  refine wpAny_IfExp (thn (hc pins s σ H _ I h) fun d s1 ⟨H1,I1,q1⟩=>?_)
  cases d with
  | true=>exact ha pins s1 σ H1 Q I1 q1
  | false=>exact hb pins s1 σ H1 Q I1 q1
end
end L2
namespace L2
open PySem PySem.Spec PyProof.Rows
noncomputable def SqL (K:PySem.W.Frag) (H:Hp) (a:Addr) (xs:List V):Prop:=
  Rd H a (.lst xs) ∨
    ∃ (o:Obj) (its:Array Value) (n:Nat),K.lookup a=some o∧o.cls=.type "list"∧o.dict=none∧o.data=.seq its n∧its.size≤sizeLine∧Vals xs its.toList
noncomputable def SqT (K:PySem.W.Frag) (H:Hp) (a:Addr) (xs:List V):Prop:=
  Rd H a (.tup xs) ∨
    ∃ (o:Obj) (its:Array Value) (n:Nat),K.lookup a=some o∧o.cls=.type "tuple"∧o.dict=none∧o.data=.seq its n∧its.size≤sizeLine∧Vals xs its.toList
noncomputable def absV:Value→Option V
  | .none=>some .non
  | .bool b=>some (.bl b)
  | .int i _=>some (.int i)
  | .str x _=>some (.str x)
  | .bytes b _=>some (.byt b)
  | .float b _=>some (.flt b)
  | .ref a=>some (.ref a)
  | .type n=>some (.ty n)
  | _=>none
theorem RelV.abs {x:V} {u:Value} (r:RelV x u):absV u=some x:=by
  cases x with
  | non=>cases r;rfl
  | bl _=>cases r;rfl
  | int _=>obtain ⟨t,rfl⟩:=r;rfl
  | str _=>obtain ⟨t,rfl⟩:=r;rfl
  | byt _=>obtain ⟨t,rfl⟩:=r;rfl
  | flt _=>obtain ⟨t,rfl⟩:=r;rfl
  | ref _=>cases r;rfl
  | ty _=>cases r;rfl
theorem RelV.inj {x y:V} {u:Value} (r:RelV x u) (q:RelV y u):x=y:=Option.some.inj (r.abs.symm.trans q.abs)
theorem Vals.inj:∀ {xs ys:List V} {us:List Value},Vals xs us→Vals ys us→xs=ys
  | _,_,_,.nil,.nil=>rfl
  | _,_,_,.cons r t,.cons r' t'=>by rw [r.inj r',Vals.inj t t']
section
variable {X:Cx} {pins:List (Addr×Obj)} {σ:St} {H:Hp} {s:Shared} {a:Addr} {xs ys:List V}
theorem Inv.list (I:Inv X pins σ H s) (h:SqL X.K H a xs):∃ its:List Value,Vals xs its∧PlainL s.heap a its.toArray∧xs.length≤sizeLine:=by
  rcases h with h | ⟨o,its,n,hk,hc,hd,hs,hz,r⟩
  · obtain ⟨z,its,n,r,e⟩:=h.ok I.hok
    exact ⟨its,r,⟨_,n,e,rfl,rfl,rfl⟩,z⟩
  · refine ⟨its.toList,r,⟨o,n,I.kIn a o hk,hc,hd,by simpa using hs⟩,?_⟩
    have e:=r.length
    simp only [Array.length_toList] at e
    omega
theorem Inv.tuple (I:Inv X pins σ H s) (h:SqT X.K H a xs):∃ its:List Value,Vals xs its∧IsTup s.heap a its.toArray∧xs.length≤sizeLine:=by
  rcases h with h | ⟨o,its,n,hk,hc,hdn,hs,hz,r⟩
  · obtain ⟨z,its,r,p⟩:=h.ok I.hok
    exact ⟨its,r,p.up,z⟩
  · refine ⟨its.toList,r,⟨o,I.kIn a o hk,hc,n,by simpa using hs⟩,?_⟩
    have e:=r.length
    simp only [Array.length_toList] at e
    omega
theorem Inv.list_inj (I:Inv X pins σ H s) (h:SqL X.K H a xs) (h':SqL X.K H a ys):xs=ys:=by
  obtain ⟨its,r,⟨o,n,e,_,_,d⟩,_⟩:=I.list h
  obtain ⟨its',r',⟨o',n',e',_,_,d'⟩,_⟩:=I.list h'
  rw [e] at e';cases e'
  rw [d] at d'
  injection d' with d1 _
  have:its=its':=by simpa using congrArg Array.toList d1
  subst this
  exact r.inj r'
theorem Inv.tuple_inj (I:Inv X pins σ H s) (h:SqT X.K H a xs) (h':SqT X.K H a ys):xs=ys:=by
  obtain ⟨its,r,⟨o,e,_,n,d⟩,_⟩:=I.tuple h
  obtain ⟨its',r',⟨o',e',_,n',d'⟩,_⟩:=I.tuple h'
  rw [e] at e';cases e'
  rw [d] at d'
  injection d' with d1 _
  have:its=its':=by simpa using congrArg Array.toList d1
  subst this
  exact r.inj r'
end
noncomputable abbrev Cx.wish (X:Cx) (E:Value→Shared→Prop):Cx:={ X with xe:=E }
noncomputable abbrev Cx.nox (X:Cx):Cx:=X.wish fun _ _=>False
theorem Cx.Ok.wish {X:Cx} (ok:X.Ok) (E:Value→Shared→Prop):(X.wish E).Ok:=
  ⟨ok.mod,ok.kind,ok.glob,ok.blt,ok.above,ok.inj,ok.has,ok.cab,ok.hd,ok.frames,ok.stk,ok.exf,ok.bs,ok.bsz,ok.noex,ok.exfs,ok.funs,ok.frf⟩
theorem Cx.Ok.unwish {X:Cx} {E:Value→Shared→Prop} (ok:(X.wish E).Ok):X.Ok:=
  ⟨ok.mod,ok.kind,ok.glob,ok.blt,ok.above,ok.inj,ok.has,ok.cab,ok.hd,ok.frames,ok.stk,ok.exf,ok.bs,ok.bsz,ok.noex,ok.exfs,ok.funs,ok.frf⟩
section
variable {X:Cx} {pins:List (Addr×Obj)} {σ:St} {H:Hp} {s:Shared} {E:Value→Shared→Prop}
theorem Inv.wish (I:Inv X pins σ H s) (E:Value→Shared→Prop):Inv (X.wish E) pins σ H s:=⟨I.ok.wish E,I.os,I.bare,I.base,I.loc,I.cell,I.free,I.freeC,I.pin,I.hok,I.len⟩
theorem Inv.unwish (I:Inv (X.wish E) pins σ H s):Inv X pins σ H s:=⟨I.ok.unwish,I.os,I.bare,I.base,I.loc,I.cell,I.free,I.freeC,I.pin,I.hok,I.len⟩
theorem SP.unwish {D:Ends} {f:Flow} {s':Shared} (h:SP (X.wish E) pins D f s'):SP X pins D f s':=by
  cases f with
  | next=>obtain ⟨σ',H',I,q⟩:=h;exact ⟨σ',H',I.unwish,q⟩
  | brk=>obtain ⟨σ',H',I,q⟩:=h;exact ⟨σ',H',I.unwish,q⟩
  | cont=>obtain ⟨σ',H',I,q⟩:=h;exact ⟨σ',H',I.unwish,q⟩
  | ret u=>obtain ⟨v,σ',H',I,r,q⟩:=h;exact ⟨v,σ',H',I.unwish,r,q⟩
theorem PSs.nox {st:List Stmt} {t:TS} (h:PSs X.nox st t):PSs X st t:=fun pins s σ H D I hw=>
  wpAny_mono (h pins s σ H D (I.wish _) hw) (fun _ _ q=>q.unwish) fun _ _ z=>False.elim z
end
section
variable {X:Cx} {st:Stmt} {rest:List Stmt} {t u:TS} {e:Expr} {te:TE} {pos:Pos}
noncomputable def tNext:TS:=fun D σ H=>D.nx σ H
noncomputable def tSeq (t u:TS):TS:=fun D σ H=>t { D with nx:=u D } σ H
theorem pss_nil:PSs X [] tNext:=fun _ _ σ H _ I h=>wpAny_execs_nil ⟨σ,H,I,h⟩
theorem pss_cons (h1:PS X st t) (h2:PSs X rest u):PSs X (st::rest) (tSeq t u):=by
  intro pins s σ H D I h
  refine wpAny_execs_cons (thn (h1 pins s σ H { D with nx:=u D } I h) fun f s1 q=>?_)
  cases f with
  | next=>
    obtain ⟨σ',H',I',q⟩:=q
    exact h2 pins s1 σ' H' D I' q
  | ret v=>exact q
  | brk=>exact q
  | cont=>exact q
theorem pss_one (h1:PS X st t):PSs X [st] t:=by
  intro pins s σ H D I h
  refine wpAny_execs_cons (thn (h1 pins s σ H D I h) fun f s1 q=>?_)
  cases f with
  | next=>exact wpAny_execs_nil q
  | ret v=>exact q
  | brk=>exact q
  | cont=>exact q
noncomputable def tBreak:TS:=fun D σ H=>D.bk σ H
noncomputable def tCont:TS:=fun D σ H=>D.ct σ H
theorem ps_pass:PS X (.Pass pos) tNext:=fun _ _ σ H _ I h=>wpAny_Pass ⟨σ,H,I,h⟩
theorem ps_break:PS X (.Break pos) tBreak:=fun _ _ σ H _ I h=>wpAny_Break ⟨σ,H,I,h⟩
theorem q14:PS X (.Continue pos) tCont:=fun _ _ σ H _ I h=>wpAny_Continue ⟨σ,H,I,h⟩
theorem Inv.quiet {pins:List (Addr×Obj)} {σ:St} {H:Hp} {s:Shared} (I:Inv X pins σ H s):interactive X.env=false:=by simp [interactive,I.ok.kind]
theorem ps_doc {x j pos pos'}:PS X (.Expr (.Constant (.str x) j pos) pos') tNext:=fun _ s σ H _ I h=>wpAny_Expr (Calls.Constant_str (show SP X _ _ .next { s with toks:=s.toks+1 } from ⟨σ,H,I.tok _,h⟩)) I.quiet
noncomputable def tDrop (te:TE):TS:=fun D σ H=>te σ H fun _ H1=>D.nx σ H1
theorem ps_expr (he:PE X e te) (hs:swapsWith e none pos.line X.env=pure false:=by rfl):PS X (.Expr e pos) (tDrop te):=by
  intro pins s σ H D I h
  exact wpAny_Expr_any (thn (he pins s σ H _ I h) fun v s1 ⟨x,H1,I1,r1,q1⟩=>⟨σ,H1,I1,q1⟩) I.quiet hs
noncomputable def tRet (te:TE):TS:=fun D σ H=>te σ H D.rt
theorem ps_ret (he:PE X e te):PS X (.Return (some e) pos) (tRet te):=by
  intro pins s σ H D I h
  exact wpAny_Return_some (thn (he pins s σ H _ I h) fun v s1 ⟨x,H1,I1,r1,q1⟩=>⟨x,σ,H1,I1,r1,q1⟩)
noncomputable def tRetN:TS:=fun D _ H=>D.rt .non H
theorem ps_retN:PS X (.Return none pos) tRetN:=fun _ _ σ H _ I h=>wpAny_Return_none ⟨.non,σ,H,I,rfl,h⟩
noncomputable def tIfS (c:TT) (t u:TS):TS:=fun D σ H=>c σ H fun b H1=>if b=true then t D σ H1 else u D σ H1
theorem ps_if {c:Expr} {a b:List Stmt} {tc:TT} (hc:PT X c tc) (ha:PSs X a t) (hb:PSs X b u):PS X (.If c a b pos) (tIfS tc t u):=by
  intro pins s σ H D I h
  refine wpAny_If (thn (hc pins s σ H _ I h) fun d s1 ⟨H1,I1,q1⟩=>?_)
  cases d with
  | true=>exact ha pins s1 σ H1 D I1 q1
  | false=>exact hb pins s1 σ H1 D I1 q1
end
noncomputable abbrev TG:=V→St→Hp→(St→Hp→Prop)→Prop
noncomputable abbrev TGs:=List V→St→Hp→(St→Hp→Prop)→Prop
noncomputable def PG (X:Cx) (target:Expr) (t:TG):Prop:=
  ∀ (pins:List (Addr×Obj)) (s:Shared) (σ:St) (H:Hp) (v:V) (u:Value) (Q:St→Hp→Prop),Inv X pins σ H s→RelV v u→t v σ H Q →
    wpAny (model X.prog X.w) X.A (assign target X.env u) (fun _ s'=>∃ σ' H',Inv X pins σ' H' s'∧Q σ' H') X.xe s
noncomputable def PGs (X:Cx) (ts:List Expr) (t:TGs):Prop:=
  ∀ (pins:List (Addr×Obj)) (s:Shared) (σ:St) (H:Hp) (vs:List V) (us:List Value) (Q:St→Hp→Prop),Inv X pins σ H s→Vals vs us→t vs σ H Q →
    wpAny (model X.prog X.w) X.A (assignInOrder ((assignEach ts X.env).map (·.2)) us) (fun _ s'=>∃ σ' H',Inv X pins σ' H' s'∧Q σ' H') X.xe s
noncomputable abbrev TSet:=V→V→V→Hp→(Hp→Prop)→Prop
noncomputable def PSet (X:Cx) (t:TSet):Prop:=
  ∀ (pins:List (Addr×Obj)) (s:Shared) (σ:St) (H:Hp) (o i v:V) (ov iv u:Value) (Q:Hp→Prop),Inv X pins σ H s→RelV o ov→RelV i iv→RelV v u→t o i v H Q →
    wpAny (model X.prog X.w) X.A (setItem ov iv u) (fun _ s'=>∃ H',Inv X pins σ H' s'∧Q H') X.xe s
section
variable {X:Cx} {pos:Pos}
noncomputable def gName (i:Nat):TG:=fun v σ H Q=>Q (σ.set i (some v)) H
theorem pg_name {i:Nat} {x:Str} (hN:X.N.Nodup) (hi:X.N[i]?=some x) (hx:Loc X.env.scope x) (hf:X.fn x=true∨X.env.scope.names.lookup x=some .local:=by first | exact .inl rfl | exact .inr rfl | assumption):PG X (.Name x pos) (gName i):=by
  intro pins s σ H v u Q I r h
  exact wpAny_assign_Name (qB7 I hN hi hx r (fun s' I'=>⟨_,H,I',h⟩) hf)
noncomputable def gNil:TGs:=fun vs σ H Q=>vs=[]∧Q σ H
noncomputable def gCons (t:TG) (u:TGs):TGs:=fun vs σ H Q=>∃ v r,vs=v::r∧t v σ H fun σ' H'=>u r σ' H' Q
theorem pgs_nil:PGs X [] gNil:=by
  intro pins s σ H vs us Q I r h
  obtain ⟨e,h⟩:=h
  subst e
  cases r
  exact assignInOrder_nil ⟨σ,H,I,h⟩
theorem pgs_cons {e:Expr} {es:List Expr} {t:TG} {u:TGs} (h1:PG X e t) (h2:PGs X es u)
    (hs:(assignEach (e::es) X.env).map (·.2)=assign e X.env::(assignEach es X.env).map (·.2):=by rfl):PGs X (e::es) (gCons t u):=by
  intro pins s σ H vs us Q I r h
  obtain ⟨v,vr,e1,h⟩:=h
  subst e1
  cases r with
  | cons r rr=>
    rw [hs]
    refine assignInOrder_cons (thn (h1 pins s σ H _ _ _ I r h) fun _ s1 ⟨σ1,H1,I1,q1⟩=>?_)
    exact h2 pins s1 σ1 H1 _ _ Q I1 rr q1
noncomputable def gTup (K:PySem.W.Frag) (n:Nat) (t:TGs):TG:=fun v σ H Q=>∃ a xs,v=.ref a∧SqT K H a xs∧xs.length=n∧t xs σ H Q
theorem pg_tup {es:List Expr} {k:Nat} {t:TGs} {n:Nat} (hc:X.calm=true) (h:PGs X es t)
    (hn:(assignEach es X.env).length=n:=by rfl) (hst:(assignEach es X.env).findIdx? (·.1)=none:=by rfl):PG X (.Tuple es k pos) (gTup X.K n t):=by
  intro pins s σ H v u Q I r hw
  obtain ⟨a,xs,e1,hq,hl,hw⟩:=hw
  subst e1
  cases r
  obtain ⟨its,rv,ht,hz⟩:=I.tuple hq
  refine assign_Tuple_tuple (I.ok.hd hc) ht (by simp [hn,← hl,rv.length]) hst fun h' hx=>?_
  have I1:Inv X pins σ H { s with heap:=h' }:=I.kept (t':=s.toks) fun b o e=>hx b o (Nat.ne_of_lt (Heap.lt_size e)) e
  exact h pins _ σ H xs _ Q I1 (by simpa using rv) hw
noncomputable def gSub (to ti:TE) (t:TSet):TG:=fun v σ H Q=>to σ H fun o H1=>ti σ H1 fun i H2=>t o i v H2 fun H3=>Q σ H3
theorem pg_sub {o i:Expr} {to ti:TE} {t:TSet} (ho:PE X o to) (hi:PE X i ti) (hs:PSet X t)
    (ha:∀ v,assign (.Subscript o i pos) X.env v=(do
      let ov ← holding [v] (eval o X.env)
      let iv ← holding [v,ov] (eval i X.env)
      standAt pos
      holding [v,ov,iv] (setItem ov iv v)
      release [v,ov,iv] []):=by intro _;rfl):PG X (.Subscript o i pos) (gSub to ti t):=by
  intro pins s σ H v u Q I r h
  rw [ha]
  refine wpAny_bind (wpAny_holding (thn (ho pins s σ H _ I h) fun ov s1 ⟨x,H1,I1,r1,q1⟩=>?_))
  refine wpAny_bind (wpAny_holding (thn (hi pins s1 σ H1 _ I1 q1) fun iv s2 ⟨y,H2,I2,r2,q2⟩=>?_))
  refine wpAny_bind (wpAny_standAt (wpAny_bind (wpAny_holding (thn (hs pins s2 σ H2 x y v ov iv u _ I2 r1 r2 r q2) fun _ s3 ⟨H3,I3,q3⟩=>?_))))
  exact wpAny_release ⟨σ,H3,I3,q3⟩
noncomputable def tAsg (te:TE) (g:TG):TS:=fun D σ H=>te σ H fun x H1=>g x σ H1 D.nx
theorem ps_asg {tg e:Expr} {te:TE} {g:TG} (he:PE X e te) (hg:PG X tg g) (hs:swapsWithSole [tg] e pos.line X.env=pure false:=by rfl) (hw:swappedStores [tg] e X.env=pure none:=by rfl)
    (h1:(assignEach [tg] X.env).map (·.2)=[assign tg X.env]:=by rfl):PS X (.Assign [tg] e pos) (tAsg te g):=by
  intro pins s σ H D I h
  refine wpAny_Assign_stores (thn (he pins s σ H _ I h) fun v s1 ⟨x,H1,I1,r1,q1⟩=>?_) hs hw
  rw [h1]
  exact thn (hg pins s1 σ H1 x v _ I1 r1 q1) fun _ s2 q=>q
theorem ps_set {i:Nat} {x:Str} {e:Expr} {te:TE} {pos':Pos} (hN:X.N.Nodup) (hi:X.N[i]?=some x) (hx:Loc X.env.scope x) (he:PE X e te) (hs:swapsWith e (some (.Name x pos')) pos.line X.env=pure false:=by rfl) (hf:X.fn x=true∨X.env.scope.names.lookup x=some .local:=by first | exact .inl rfl | exact .inr rfl | assumption) :
    PS X (.Assign [.Name x pos'] e pos) (tAsg te (gName i)):=by
  intro pins s σ H D I h
  refine wpAny_Assign_Name (thn (he pins s σ H _ I h) fun v s1 ⟨y,H1,I1,r1,q1⟩=>?_) hs
  exact qB7 I1 hN hi hx r1 (fun s2 I2=>⟨_,H1,I2,q1⟩) hf
noncomputable def tPar (i j:Nat) (ta:TA):TS:=fun D σ H=>ta σ H fun vs H1=>∃ v w,vs=[v,w]∧D.nx ((σ.set i (some v)).set j (some w)) H1
theorem ps_par {i j:Nat} {x y:Str} {a b:Expr} {ta:TA} {px py pt:Pos} {kt k2 pt2} (hc:X.calm=true) (hN:X.N.Nodup) (hi:X.N[i]?=some x) (hj:X.N[j]?=some y) (hij:i≠j)
    (hx:X.env.scope.names.lookup x=some .local) (hy:X.env.scope.names.lookup y=some .local) (ha:PA X [a,b] ta)
    (hw:swappedStores [.Tuple [.Name x px,.Name y py] kt pt] (.Tuple [a,b] k2 pt2) X.env=pure (some [x,y]))
    (hs:swapsWithSole [.Tuple [.Name x px,.Name y py] kt pt] (.Tuple [a,b] k2 pt2) pos.line X.env=pure false:=by rfl) :
    PS X (.Assign [.Tuple [.Name x px,.Name y py] kt pt] (.Tuple [a,b] k2 pt2) pos) (tPar i j ta):=by
  intro pins s σ H D I h
  rw [exec_Assign_arm]
  refine wpAny_bind (wpAny_standAt ?_)
  rw [hs]
  refine wpAny_bind (wpAny_pure ?_)
  rw [if_neg (by decide)]
  refine wpAny_bind (Tuple_ (thn (ha _ pins s σ H _ I h) fun us s1 ⟨vs,H1,I1,r1,q1⟩=>?_))
  obtain ⟨v,w,e1,q1⟩:=q1
  subst e1
  obtain ⟨u1,u2,rfl,rv,rw'⟩:∃ u1 u2,us=[u1,u2]∧RelV v u1∧RelV w u2:=by
    cases r1 with
    | cons p q=>
      cases q with
      | cons p' q'=>
        cases q'
        exact ⟨_,_,rfl,p,p'⟩
  refine wpAny_newObj_type ?_ (by show 2≤sizeLine;decide)
  have I2:Inv X pins σ H1 { s1 with heap:=s1.heap.push { cls:=.type "tuple",data:=.seq [u1,u2].toArray } }:=I1.kept (t':=s1.toks) fun b o e=>Heap.get?_push_of_some _ e
  rw [hw]
  refine wpAny_bind (wpAny_pure ?_)
  show wpAny (model X.prog X.w) X.A (do rule "assign.swapped-stores";let items ← unpackItems (.ref s1.heap.objs.size) 2 none;assignInOrder [fun v=>bindName X.env y v,fun v=>bindName X.env x v] items.reverse;pure Flow.next) _ _ _
  refine wpAny_bind (wpAny_rule (wpAny_bind (unpackItems_tuple (items:=#[u1,u2]) (I.ok.hd hc) (IsTup.new s1.heap _) fun h' hx'=>?_)))
  have I3:=I2.kept (h':=h') (t':=s1.toks) fun b o e=>hx' b o (Nat.ne_of_lt (Heap.lt_size e)) e
  show wpAny _ _ (assignInOrder [fun v=>bindName X.env y v,fun v=>bindName X.env x v] [u2,u1] >>= fun _=>pure Flow.next) _ _ _
  refine wpAny_bind (assignInOrder_cons (wpAny_bindName (qB7 I3 hN hj (.inl hy) rw' (fun s2 I4=>?_) (.inr hy))))
  refine assignInOrder_cons (wpAny_bindName (qB7 I4 hN hi (.inl hx) rv (fun s3 I5=>assignInOrder_nil (wpAny_pure ?_)) (.inr hx)))
  rw [List.set_comm _ _ (Ne.symm hij)] at I5
  exact ⟨_,H1,I5,q1⟩
end
section
variable {X:Cx} {pos:Pos}
end
structure It where
  go:Nat→Hp→Prop
  yld:Nat→Hp→V→Hp→Prop
  stop:Nat→Hp→Prop
noncomputable def FpOk (X:Cx) (pins:List (Addr×Obj)) (H:Hp) (b:Addr):Prop:=
  H b=none∧b≠X.env.locals∧b ∉ X.fs∧(b∈X.ex∨X.s₀.heap.objs.size≤b)∧(∀ x c,X.env.cells.lookup x=some c→c≠b)∧∀ p∈X.pn++pins,p.1≠b
theorem Inv.fpOk {X:Cx} {pins:List (Addr×Obj)} {σ:St} {H H':Hp} {s:Shared} {b:Addr} (I:Inv X pins σ H s) (hb:s.heap.objs.size≤b) (hn:H' b=none):FpOk X pins H' b:=by
  refine ⟨hn,Nat.ne_of_gt (Nat.lt_of_lt_of_le I.lt hb),I.nofs hb,.inr (Nat.le_trans I.sz hb),fun x c e z=>?_,fun p hp z=>?_⟩
  · obtain ⟨v,q⟩:=I.cell x c e
    exact absurd (Nat.lt_of_lt_of_le q.lt (by rw [z];exact hb)) (Nat.lt_irrefl _)
  · exact absurd (Nat.lt_of_lt_of_le (Heap.lt_size (I.pin p hp).1) (by rw [z];exact hb)) (Nat.lt_irrefl _)
structure Turn (P:Program) (w:World) (K:PySem.W.Frag) (tg:Expr) (J:It) (fp:List Addr) (it:Addr) (tn:Nat→Heap→Prop):Prop where
  mem:it∈fp
  obj:∀ i h,tn i h→∀ b∈fp,∃ o,h.get? b=some o∧∀ v,o.data≠.cell v
  keep:∀ i h h',tn i h→(∀ b∈fp,∀ o,h.get? b=some o→h'.get? b=some o)→tn i h'
  item:∀ (X:Cx),X.prog=P→X.w=w→X.K=K→X.calm=true→∀ (i:Nat) (pins:List (Addr×Obj)) (s:Shared) (σ:St) (H:Hp) (E:Value→Shared→Prop),Inv X pins σ H s→(∀ b∈fp,FpOk X pins H b)→tn i s.heap→J.go i H →
    wpAny (model P w) X.A (pyNext (.ref it)) (fun r s1=>∃ u,r=some u ∧
      wpAny (model P w) X.A (letOwnedTupleGo tg (.ref it) u) (fun _ s2=>∃ x H',Inv X pins σ H' s2∧RelV x u∧J.yld i H x H'∧tn (i+1) s2.heap∧∀ b∈fp,H' b=none) E s1) E s
  done:∀ (X:Cx),X.prog=P→X.w=w→X.K=K→X.calm=true→∀ (i:Nat) (pins:List (Addr×Obj)) (s:Shared) (σ:St) (H:Hp) (E:Value→Shared→Prop),Inv X pins σ H s→(∀ b∈fp,FpOk X pins H b)→tn i s.heap→J.stop i H →
    wpAny (model P w) X.A (pyNext (.ref it)) (fun r s1=>r=none∧Inv X pins σ H s1) E s
  self:∀ (A:Around) (i:Nat) (s:Shared) (Q:Value→Shared→Prop) (E:Value→Shared→Prop),tn i s.heap→Q (.ref it) s→wpAny (model P w) A (pyIter (.ref it)) Q E s
noncomputable abbrev TI:=St→Hp→(It→Hp→Prop)→Prop
noncomputable def PIE (X:Cx) (pins:List (Addr×Obj)) (σ:St) (tg:Expr) (R:It→Hp→Prop) (itv:Value) (s2:Shared):Prop:=
  ∃ (it:Addr) (fp:List Addr) (tn:Nat→Heap→Prop) (J:It) (H':Hp),itv=.ref it∧Inv X pins σ H' s2∧Turn X.prog X.w X.K tg J fp it tn∧tn 0 s2.heap∧(∀ b∈fp,FpOk X pins H' b)∧R J H'
noncomputable def PI (X:Cx) (tg iter:Expr) (wi:TI):Prop:=
  ∀ (pins:List (Addr×Obj)) (s:Shared) (σ:St) (H:Hp) (R:It→Hp→Prop),Inv X pins σ H s→wi σ H R →
    wpAny (model X.prog X.w) X.A (eval iter X.env) (fun v s1=>wpAny (model X.prog X.w) X.A (pyIter v) (PIE X pins σ tg R) X.xe s1) X.xe s
theorem go_of {M:Model} {A:Around} {E:Value→Shared→Prop} {s:Shared} {tg:Expr} {it:Addr} {u:Value} {o:Obj} {n:String} {vs:Array Value} {Q:Unit→Shared→Prop} (ho:s.heap.get? it=some o) (hc:o.cls=.type n) (hd:o.data=.fields vs)
    (hn:["enumerate","zip","dict_itemiterator","dict_reverseitemiterator","odict_iterator","itertools.zip_longest","itertools.pairwise"].contains n=false) (hQ:Q () s):wpAny M A (letOwnedTupleGo tg (.ref it) u) Q E s:=by
  unfold letOwnedTupleGo
  cases tg <;> first
    | exact wpAny_pure hQ
    | (cases u <;> first
        | exact wpAny_pure hQ
        | (refine wpAny_bind (wpAny_load ho ?_)
           rw [hc,hd]
           show wpAny M A (if (["enumerate","zip","dict_itemiterator","dict_reverseitemiterator","odict_iterator","itertools.zip_longest","itertools.pairwise"].contains n&&vs[0]? == some (rawInt _))=true then _ else _) Q E s
           rw [if_neg (by intro h;rw [hn,Bool.false_and] at h;cases h)]
           exact wpAny_pure hQ))
noncomputable def Itl (K:PySem.W.Frag) (a:Addr):It:=
  ⟨fun i H=>∃ xs x,SqL K H a xs∧xs[i]?=some x,fun i H x H'=>H'=H∧∀ xs,SqL K H a xs→xs[i]?=some x,fun i H=>∃ xs,SqL K H a xs∧xs.length≤i⟩
noncomputable def Itt (K:PySem.W.Frag) (a:Addr):It:=
  ⟨fun i H=>∃ xs x,SqT K H a xs∧xs[i]?=some x,fun i H x H'=>H'=H∧∀ xs,SqT K H a xs→xs[i]?=some x,fun i H=>∃ xs,SqT K H a xs∧xs.length≤i⟩
noncomputable def Itr (lo:Int) (n:Nat):It:=⟨fun i _=>i<n,fun i H x H'=>H'=H∧x=.int (lo+i),fun i _=>n≤i⟩
theorem qR1 {P:Program} {w:World} {K:PySem.W.Frag} {tg:Expr} (a it:Addr):Turn P w K tg (Itl K a) [it] it (fun i h=>h.IsListIter it a i) where
  mem:=by simp
  obj:=fun i h st b hb=>by
    have e:b=it:=by simpa using hb
    subst e
    obtain ⟨o,e,c,d⟩:=st
    exact ⟨o,e,fun v z=>by rw [d] at z;cases z⟩
  keep:=fun i h h' st k=>st.at fun o e=>k it (by simp) o e
  item:=by
    intro X hP hw hK hc i pins s σ H E I hf st hg
    subst hP hw hK
    obtain ⟨xs,x,hq,hx⟩:=hg
    obtain ⟨its,rv,p,hz⟩:=I.list hq
    obtain ⟨u,hu,ru⟩:=rv.get hx
    obtain ⟨f0,f1,f2,f3,f4,f5⟩:=hf it (by simp)
    refine wpAny_pyNext_list_item st p.isList (x:=u) (by simpa using hu) fun h' st' sb=>?_
    have I1:Inv X pins σ H { s with heap:=h' }:=I.turned (t':=s.toks) (fun b o hb e=>(sb.2 b hb).trans e) f0 f1 f3 f4 f5
    obtain ⟨o,e,c,d⟩:=id st'
    exact ⟨u,rfl,go_of (s:={ s with heap:=h' }) e c d (by decide) ⟨x,H,I1,ru,⟨rfl,fun ys hy=>by rw [I.list_inj hy hq];exact hx⟩,st',fun b hb=>(hf b hb).1⟩⟩
  done:=by
    intro X hP hw hK hc i pins s σ H E I hf st hg
    subst hP hw hK
    obtain ⟨xs,hq,hx⟩:=hg
    obtain ⟨its,rv,p,hz⟩:=I.list hq
    obtain ⟨f0,f1,f2,f3,f4,f5⟩:=hf it (by simp)
    have hl:=rv.length
    exact wpAny_pyNext_list_end (I.ok.hd hc) st p.isList (by simp;omega) fun h' eb=>⟨rfl,I.turned (t':=s.toks) (fun b o hb e=>eb b o hb e) f0 f1 f3 f4 f5⟩
  self:=fun _ _ _ _ _ st h=>wpAny_pyIter_listiter st h
theorem ze0 {P:Program} {w:World} {K:PySem.W.Frag} {tg:Expr} (a it:Addr):Turn P w K tg (Itt K a) [it] it (fun i h=>h.IsTupleIter it a i) where
  mem:=by simp
  obj:=fun i h st b hb=>by
    have e:b=it:=by simpa using hb
    subst e
    obtain ⟨o,e,c,d⟩:=st
    exact ⟨o,e,fun v z=>by rw [d] at z;cases z⟩
  keep:=fun i h h' st k=>st.at fun o e=>k it (by simp) o e
  item:=by
    intro X hP hw hK hc i pins s σ H E I hf st hg
    subst hP hw hK
    obtain ⟨xs,x,hq,hx⟩:=hg
    obtain ⟨its,rv,p,hz⟩:=I.tuple hq
    obtain ⟨u,hu,ru⟩:=rv.get hx
    obtain ⟨f0,f1,f2,f3,f4,f5⟩:=hf it (by simp)
    refine wpAny_pyNext_tuple_item st (show s.heap.IsTuple a its.toArray from p) (x:=u) (by simpa using hu) fun h' st' sb=>?_
    have I1:Inv X pins σ H { s with heap:=h' }:=I.turned (t':=s.toks) (fun b o hb e=>(sb.2 b hb).trans e) f0 f1 f3 f4 f5
    obtain ⟨o,e,c,d⟩:=id st'
    exact ⟨u,rfl,go_of (s:={ s with heap:=h' }) e c d (by decide) ⟨x,H,I1,ru,⟨rfl,fun ys hy=>by rw [I.tuple_inj hy hq];exact hx⟩,st',fun b hb=>(hf b hb).1⟩⟩
  done:=by
    intro X hP hw hK hc i pins s σ H E I hf st hg
    subst hP hw hK
    obtain ⟨xs,hq,hx⟩:=hg
    obtain ⟨its,rv,p,hz⟩:=I.tuple hq
    obtain ⟨f0,f1,f2,f3,f4,f5⟩:=hf it (by simp)
    have hl:=rv.length
    exact wpAny_pyNext_tuple_end (I.ok.hd hc) st (show s.heap.IsTuple a its.toArray from p) (by simp;omega) fun h' eb=>⟨rfl,I.turned (t':=s.toks) (fun b o hb e=>eb b o hb e) f0 f1 f3 f4 f5⟩
  self:=fun _ _ _ _ _ st h=>wpAny_pyIter_tupleiter st h
theorem ze1 {P:Program} {w:World} {K:PySem.W.Frag} {tg:Expr} (it:Addr) (lo:Int) (n:Nat):Turn P w K tg (Itr lo n) [it] it (fun i h=>IsRangeIter h it (lo+(i:Nat) * 1) ((n:Int) - (i:Nat)) 1) where
  mem:=by simp
  obj:=fun i h st b hb=>by
    have e:b=it:=by simpa using hb
    subst e
    exact ⟨_,st,fun v z=>by
      have z':Data.fields _=Data.cell v:=z
      cases z'⟩
  keep:=fun i h h' st k=>k it (by simp) _ st
  item:=by
    intro X hP hw hK hc i pins s σ H E I hf st hg
    subst hP hw hK
    obtain ⟨f0,f1,f2,f3,f4,f5⟩:=hf it (by simp)
    have W:=Walks.range (prog:=X.prog) (w:=X.w) (I.ok.hd hc) it lo 1 n
    refine W.item i s _ _ hg st fun v h' tk hv st' kk=>?_
    obtain ⟨t,rfl⟩:=hv
    have I1:Inv X pins σ H { s with heap:=h',toks:=tk }:=I.turned (fun b o hb e=>kk b o (by simpa using hb) e) f0 f1 f3 f4 f5
    refine ⟨_,rfl,go_of (s:={ s with heap:=h',toks:=tk }) (n:="range_iterator") st' rfl rfl (by decide) ⟨.int (lo+i),H,I1,⟨t,?_⟩,⟨rfl,rfl⟩,st',fun b hb=>(hf b hb).1⟩⟩
    rw [Int.mul_one]
  done:=by
    intro X hP hw hK hc i pins s σ H E I hf st hg
    subst hP hw hK
    obtain ⟨f0,f1,f2,f3,f4,f5⟩:=hf it (by simp)
    exact wpAny_pyNext_range_end (I.ok.hd hc) st (by have:n≤i:=hg;omega) fun h' eb=>⟨rfl,I.turned (t':=s.toks) (fun b o hb e=>eb b o hb e) f0 f1 f3 f4 f5⟩
  self:=fun _ _ _ _ _ st h=>wpAny_pyIter_rangeiter st h
end L2
namespace L2
open PySem PySem.Spec PyProof.Rows
section
variable {X:Cx} {tg:Expr}
noncomputable def iList (K:PySem.W.Frag) (tl:TE):TI:=fun σ H R=>tl σ H fun x H1=>∃ a,x=.ref a∧(∃ xs,SqL K H1 a xs)∧R (Itl K a) H1
theorem q18 {l:Expr} {tl:TE} (hl:PE X l tl):PI X tg l (iList X.K tl):=by
  intro pins s σ H R I h
  refine thn (hl pins s σ H _ I h) fun v s1 ⟨x,H1,I1,r1,q1⟩=>?_
  obtain ⟨a,e,⟨xs,hq⟩,q⟩:=q1
  subst e
  cases r1
  obtain ⟨its,rv,p,hz⟩:=I1.list hq
  refine wpAny_pyIter_list p.isList ?_
  refine ⟨s1.heap.objs.size,[s1.heap.objs.size],_,_,H1,rfl,I1.kept (t':=s1.toks) fun b o e=>Heap.get?_push_of_some _ e,qR1 a _,⟨_,Heap.get?_push_size _ rfl,rfl,rfl⟩,fun b hb=>?_,q⟩
  have e:b=s1.heap.objs.size:=by simpa using hb
  subst e
  exact I1.fpOk (Nat.le_refl _) (I1.hok.fresh (Nat.le_refl _))
theorem q88 {pins:List (Addr×Obj)} {σ:St} {H:Hp} {s:Shared} {R:It→Hp→Prop} {E:Value→Shared→Prop} {lo hi:Int} {t u v:Tok} {tk:Nat} (I:Inv X pins σ H s) (h1:-(2 ^ 62)≤lo) (h2:lo<2 ^ 62) (h3:-(2 ^ 62)≤hi) (h4:hi<2 ^ 62)
    (q:R (Itr lo (hi - lo).toNat) H):wpAny (model X.prog X.w) X.A (pyIter (.ref s.heap.objs.size)) (PIE X pins σ tg R) E { s with heap:=s.heap.push { cls:=.type "range",data:=.fields #[.int lo t,.int hi u,.int 1 v] },toks:=tk }:=by
  refine wpAny_pyIter_range (IsRange.new ..) (small_one h1 h2 h3 h4) ?_
  have I1:Inv X pins σ H { s with heap:=s.heap.push { cls:=.type "range",data:=.fields #[.int lo t,.int hi u,.int 1 v] },toks:=tk }:=I.kept fun b o e=>Heap.get?_push_of_some _ e
  refine ⟨(s.heap.push { cls:=.type "range",data:=.fields #[.int lo t,.int hi u,.int 1 v] }).objs.size,[(s.heap.push { cls:=.type "range",data:=.fields #[.int lo t,.int hi u,.int 1 v] }).objs.size],_,_,H,rfl,
    I1.kept (t':=tk) fun b o e=>Heap.get?_push_of_some _ e,ze1 _ lo (hi - lo).toNat,?_,fun b hb=>?_,q⟩
  · have e1:lo+((0:Nat):Int) * 1=lo:=by simp
    have e2:(((hi - lo).toNat:Nat):Int) - ((0:Nat):Int)=Builtin.Range.rangeSize lo hi 1:=by rw [rangeSize_one];split <;> omega
    show IsRangeIter _ _ (lo+((0:Nat):Int) * 1) ((((hi - lo).toNat:Nat):Int) - ((0:Nat):Int)) 1
    rw [e1,e2]
    exact Heap.get?_push_size _ rfl
  · have e:b=(s.heap.push { cls:=.type "range",data:=.fields #[.int lo t,.int hi u,.int 1 v] }).objs.size:=by simpa using hb
    subst e
    exact I1.fpOk (Nat.le_refl _) (I1.hok.fresh (Nat.le_refl _))
noncomputable def iRng1 (ta:TA):TI:=fun σ H R=>ta σ H fun vs H1=>∃ j:Int,vs=[.int j]∧-(2 ^ 62)≤j∧j<2 ^ 62∧R (Itr 0 j.toNat) H1
noncomputable def iRng2 (ta:TA):TI:=fun σ H R=>ta σ H fun vs H1=>∃ i j:Int,vs=[.int i,.int j]∧(-(2 ^ 62)≤i∧i<2 ^ 62∧-(2 ^ 62)≤j∧j<2 ^ 62)∧R (Itr i (j - i).toNat) H1
theorem qT5 {a:Expr} {ta:TA} {p pos:Pos} (hg:Gl X "range") (hm:X.mg "range" = none) (ha:PA X [a] ta) (hs:starEach [a] X.env=[(false,eval a X.env)]:=by rfl):PI X tg (.Call (.Name "range" p) [a] [] pos) (iRng1 ta):=by
  intro pins s σ H R I h
  refine Call_ (qx1 I hg hm boot_range (PyProof.Rows.callWith_type1 (thn (ha pos pins s σ H _ I h) fun us s1 ⟨vs,H1,I1,r1,q1⟩=>?_) hs rfl))
  obtain ⟨j,e,q1,q2,q⟩:=q1
  subst e
  cases r1 with
  | cons r rr=>
    cases rr
    obtain ⟨t,rfl⟩:=r
    exact call_range_1 (q88 I1 (by omega) (by omega) q1 q2 (by simpa using q))
theorem zl4 {a b:Expr} {ta:TA} {p pos:Pos} (hg:Gl X "range") (hm:X.mg "range" = none) (ha:PA X [a,b] ta) (hs:starEach [a,b] X.env=[(false,eval a X.env),(false,eval b X.env)]:=by rfl) (hs2:starEach [b] X.env=[(false,eval b X.env)]:=by rfl) :
    PI X tg (.Call (.Name "range" p) [a,b] [] pos) (iRng2 ta):=by
  intro pins s σ H R I h
  refine Call_ (qx1 I hg hm boot_range (PyProof.Rows.callWith_type1 (thn (ha pos pins s σ H _ I h) fun us s1 ⟨vs,H1,I1,r1,q1⟩=>?_) (by rw [hs,hs2]) (by rw [hs2];rfl)))
  obtain ⟨i,j,e,⟨q1,q2,q3,q4⟩,q⟩:=q1
  subst e
  cases r1 with
  | cons r rr=>
    cases rr with
    | cons r' rr=>
      cases rr
      obtain ⟨t,rfl⟩:=r
      obtain ⟨t',rfl⟩:=r'
      exact call_range_2 (q88 I1 q1 q2 q3 q4 q)
noncomputable def tFor (wi:TI) (g:TG) (tb:TS):TS:=fun D σ H=>wi σ H fun J H1=>∃ W:Nat→Nat→St→Hp→Prop,(∃ m,W 0 m σ H1)∧∀ i m σ H,W i m σ H →
  (J.stop i H∧D.nx σ H)∨(J.go i H∧∃ N:St→Hp→Prop,(∀ σ' H',N σ' H'→∃ m',m'<m∧W (i+1) m' σ' H')∧∀ x H',J.yld i H x H'→g x σ H' fun σ2 H2=>tb { D with nx:=N,ct:=N,bk:=D.nx } σ2 H2)
noncomputable def qT3 (fp:List Addr) (h:Heap):List (Addr×Obj):=fp.filterMap fun b=>(h.get? b).map fun o=>(b,o)
theorem qt1 {fp:List Addr} {h:Heap} {b:Addr} {o:Obj} (hb:b∈fp) (e:h.get? b=some o):(b,o)∈qT3 fp h:=List.mem_filterMap.mpr ⟨b,hb,by rw [e];rfl⟩
theorem zm5 {fp:List Addr} {h:Heap} {p:Addr×Obj} (hp:p∈qT3 fp h):p.1∈fp∧h.get? p.1=some p.2:=by
  obtain ⟨b,hb,e⟩:=List.mem_filterMap.mp hp
  cases q:h.get? b with
  | none=>rw [q] at e;cases e
  | some o=>
    rw [q] at e
    have e':(b,o)=p:=Option.some.inj e
    subst e'
    exact ⟨hb,q⟩
theorem Inv.pinned {pins:List (Addr×Obj)} {σ:St} {H:Hp} {s:Shared} {fp:List Addr} (I:Inv X pins σ H s) (hf:∀ b∈fp,FpOk X pins H b) (ho:∀ b∈fp,∃ o,s.heap.get? b=some o∧∀ v,o.data≠.cell v):Inv X (pins++qT3 fp s.heap) σ H s:=
  I.pins_of fun p hp=>(List.mem_append.mp hp).elim (fun z=>I.pin p (List.mem_append_right _ z)) fun z=>by
    obtain ⟨hb,e⟩:=zm5 z
    obtain ⟨f0,f1,f2,_⟩:=hf p.1 hb
    obtain ⟨o,e',d⟩:=ho p.1 hb
    rw [e] at e';cases e'
    exact ⟨e,f0,f1,f2,d⟩
theorem Inv.unpinned {pins pl:List (Addr×Obj)} {σ:St} {H:Hp} {s:Shared} (I:Inv X (pins++pl) σ H s):Inv X pins σ H s:=I.pins_of fun p hp=>I.pin p (List.mem_append_right _ (List.mem_append_left _ hp))
theorem ps_for {iter:Expr} {body:List Stmt} {wi:TI} {g:TG} {tb:TS} {pos:Pos} (hp:PassesOwn (model X.prog X.w) X.A X.env X.xe) (hc:X.calm=true) (hi:PI X tg iter wi) (hg:PG X tg g) (hb:PSs X body tb)
    (hs:∀ x,foldedSetIterable iter X.env x=pure x:=by intro _;rfl):PS X (.For tg iter body [] pos) (tFor wi g tb):=by
  intro pins s σ H D I h
  refine wpAny_For (thn (hi pins s σ H _ I h) fun v s1 h1=>thn h1 fun itv s2 h2=>?_) hs
  obtain ⟨it,fp,tn,J,H2,e,I2,T,st2,f2,W,⟨m0,w0⟩,turn⟩:=h2
  subst e
  have stat:∀ {H':Hp},(∀ b∈fp,H' b=none)→∀ b∈fp,FpOk X pins H' b:=fun hn b hb=>⟨hn b hb,(f2 b hb).2⟩
  refine codeAny_forLoop_any (fun n s'=>∃ i σ' H',Inv X pins σ' H' s'∧tn i s'.heap∧(∀ b∈fp,H' b=none)∧W i n σ' H') ?_ m0 ⟨0,σ,H2,I2,st2,fun b hb=>(f2 b hb).1,w0⟩
  rintro n s3 ⟨i,σ3,H3,I3,st3,fr3,w3⟩
  rcases turn i n σ3 H3 w3 with ⟨stop,qn⟩ | ⟨go,N,hN,step⟩
  · refine wpAny_passesOwn hp (thn (T.done X rfl rfl rfl hc i pins s3 σ3 H3 X.xe I3 (stat fr3) st3 stop) fun r s4 ⟨hr,I4⟩=>?_)
    subst hr
    exact wpAny_execs_nil ⟨σ3,H3,I4,qn⟩
  · refine wpAny_passesOwn hp (thn (T.item X rfl rfl rfl hc i pins s3 σ3 H3 X.xe I3 (stat fr3) st3 go) fun r s4 ⟨u,hr,h4⟩=>?_)
    subst hr
    refine wpAny_passesOwn hp (thn h4 fun _ s5 ⟨x,H5,I5,r5,y5,st5,fr5⟩=>?_)
    have I5':=I5.pinned (stat fr5) (T.obj _ _ st5)
    refine wpAny_passesOwn hp (thn (hg _ s5 σ3 H5 x u _ I5' r5 (step x H5 y5)) fun _ s6 ⟨σ6,H6,I6,q6⟩=>?_)
    refine wpAny_passesOwn hp (thn (hb _ s6 σ6 H6 _ I6 q6) fun f s7 q7=>?_)
    have again:∀ {σ7:St} {H7:Hp},Inv X (pins++qT3 fp s5.heap) σ7 H7 s7→N σ7 H7→∃ m,m<n∧∃ i σ' H',Inv X pins σ' H' s7∧tn i s7.heap∧(∀ b∈fp,H' b=none)∧W i m σ' H':=fun {σ7 H7} I7 n7=>by
      obtain ⟨m',hm,w7⟩:=hN σ7 H7 n7
      refine ⟨m',hm,i+1,σ7,H7,I7.unpinned,T.keep _ _ _ st5 fun b hb o e=>(I7.pin (b,o) (List.mem_append_right _ (List.mem_append_right _ (qt1 hb e)))).1,fun b hb=>?_,w7⟩
      obtain ⟨o,e,d⟩:=T.obj _ _ st5 b hb
      exact (I7.pin (b,o) (List.mem_append_right _ (List.mem_append_right _ (qt1 hb e)))).2.1
    cases f with
    | next=>obtain ⟨σ7,H7,I7,n7⟩:=q7;exact again I7 n7
    | cont=>obtain ⟨σ7,H7,I7,n7⟩:=q7;exact again I7 n7
    | brk=>obtain ⟨σ7,H7,I7,q7⟩:=q7;exact ⟨σ7,H7,I7.unpinned,q7⟩
    | ret v=>obtain ⟨x7,σ7,H7,I7,r7,q7⟩:=q7;exact ⟨x7,σ7,H7,I7.unpinned,r7,q7⟩
end
end L2
namespace L2
open PySem PySem.Spec PyProof.Rows
noncomputable abbrev R2:=V→V→Hp→VK→Prop
noncomputable def OpR (X:Cx) (f:Value→Value→Sem Value) (r:R2):Prop:=
  ∀ (pins:List (Addr×Obj)) (s:Shared) (σ:St) (H:Hp) (x y:V) (v u:Value) (Q:VK),Inv X pins σ H s→RelV x v→RelV y u→r x y H Q →
    wpAny (model X.prog X.w) X.A (f v u) (EP X pins σ Q) X.xe s
noncomputable def UnR (X:Cx) (f:Value→Sem Value) (r:V→Hp→VK→Prop):Prop:=
  ∀ (pins:List (Addr×Obj)) (s:Shared) (σ:St) (H:Hp) (x:V) (v:Value) (Q:VK),Inv X pins σ H s→RelV x v→r x H Q →
    wpAny (model X.prog X.w) X.A (f v) (EP X pins σ Q) X.xe s
noncomputable def CallR (X:Cx) (f:Value) (r:List V→Hp→VK→Prop):Prop:=
  ∀ (pins:List (Addr×Obj)) (s:Shared) (σ:St) (H:Hp) (xs:List V) (us:List Value) (Q:VK),Inv X pins σ H s→Vals xs us→r xs H Q →
    wpAny (model X.prog X.w) X.A (call f us) (EP X pins σ Q) X.xe s
noncomputable def TruR (X:Cx) (r:V→Hp→(Bool→Hp→Prop)→Prop):Prop:=
  ∀ (pins:List (Addr×Obj)) (s:Shared) (σ:St) (H:Hp) (x:V) (v:Value) (Q:Bool→Hp→Prop),Inv X pins σ H s→RelV x v→r x H Q →
    wpAny (model X.prog X.w) X.A (truthy v) (TP X pins σ Q) X.xe s
noncomputable def tOp (r:R2) (ta tb:TE):TE:=fun σ H Q=>ta σ H fun x H1=>tb σ H1 fun y H2=>r x y H2 Q
noncomputable def tUn (r:V→Hp→VK→Prop) (ta:TE):TE:=fun σ H Q=>ta σ H fun x H1=>r x H1 Q
noncomputable def rI (C:Int→Int→Prop) (g:Int→Int→V):R2:=fun x y H Q=>∃ i j,x=.int i∧y=.int j∧C i j∧Q (g i j) H
noncomputable def rI0 (g:Int→Int→V):R2:=fun x y H Q=>∃ i j,x=.int i∧y=.int j∧Q (g i j) H
noncomputable def rU (g:Int→V):V→Hp→VK→Prop:=fun x H Q=>∃ i,x=.int i∧Q (g i) H
section
variable {X:Cx} {a b c:Expr} {ta tb tc:TE} {pos:Pos}
theorem binT (ha:PE X a ta) (hb:PE X b tb) {pins:List (Addr×Obj)} {s:Shared} {σ:St} {H:Hp} {R:V→V→Hp→Prop} (I:Inv X pins σ H s)
    (h:ta σ H fun x H1=>tb σ H1 fun y H2=>R x y H2) {Q:Value→Shared→Prop} {f:Value→Value→Sem Value}
    (hf:∀ v u s2 x y H2,Inv X pins σ H2 s2→RelV x v→RelV y u→R x y H2→wpAny (model X.prog X.w) X.A (f v u) Q X.xe s2) :
    wpAny (model X.prog X.w) X.A (eval a X.env) (fun v s₁=>wpAny (model X.prog X.w) X.A (eval b X.env) (fun u s₂=>wpAny (model X.prog X.w) X.A (f v u) Q X.xe s₂) X.xe s₁) X.xe s:=by
  refine thn (ha pins s σ H _ I h) fun v s1 ⟨x,H1,I1,r1,q1⟩=>?_
  refine thn (hb pins s1 σ H1 _ I1 q1) fun u s2 ⟨y,H2,I2,r2,q2⟩=>?_
  exact hf v u s2 x y H2 I2 r1 r2 q2
theorem pe_op {op:Operator} {r:R2} (ho:OpR X (binaryOp op) r) (ha:PE X a ta) (hb:PE X b tb):PE X (.BinOp a op b pos) (tOp r ta tb):=by
  intro pins s σ H Q I h
  exact wpAny_BinOp (binT ha hb I h fun v u s2 x y H2 I2 rx ry q=>ho pins s2 σ H2 x y v u Q I2 rx ry q)
theorem pe_un {op:UnaryOp} {r:V→Hp→VK→Prop} (ho:UnR X (unaryOp op) r) (ha:PE X a ta):PE X (.UnaryOp op a pos) (tUn r ta):=by
  intro pins s σ H Q I h
  exact UnaryOp_ (thn (ha pins s σ H _ I h) fun v s1 ⟨x,H1,I1,r1,q1⟩=>ho pins s1 σ H1 x v Q I1 r1 q1)
theorem opI {f:Value→Value→Sem Value} {C:Int→Int→Prop} {g:Int→Int→Int}
    (rule:∀ (i j:Int) (t u:Tok) (s:Shared) (Q:Value→Shared→Prop) (E:Value→Shared→Prop),C i j→Q (.int (g i j) s.toks) { s with toks:=s.toks+1 }→wpAny (model X.prog X.w) X.A (f (.int i t) (.int j u)) Q E s) :
    OpR X f (rI C fun i j=>.int (g i j)):=by
  intro pins s σ H x y v u Q I rx ry h
  obtain ⟨i,j,rfl,rfl,hc,q⟩:=h
  obtain ⟨t,rfl⟩:=rx
  obtain ⟨t',rfl⟩:=ry
  exact rule i j t t' s _ _ hc ⟨.int (g i j),H,I.tok _,⟨_,rfl⟩,q⟩
theorem opI0 {f:Value→Value→Sem Value} {g:Int→Int→Int}
    (rule:∀ (i j:Int) (t u:Tok) (s:Shared) (Q:Value→Shared→Prop) (E:Value→Shared→Prop),Q (.int (g i j) s.toks) { s with toks:=s.toks+1 }→wpAny (model X.prog X.w) X.A (f (.int i t) (.int j u)) Q E s) :
    OpR X f (rI0 fun i j=>.int (g i j)):=by
  intro pins s σ H x y v u Q I rx ry h
  obtain ⟨i,j,rfl,rfl,q⟩:=h
  obtain ⟨t,rfl⟩:=rx
  obtain ⟨t',rfl⟩:=ry
  exact rule i j t t' s _ _ ⟨.int (g i j),H,I.tok _,⟨_,rfl⟩,q⟩
theorem opB0 {f:Value→Value→Sem Value} {g:Int→Int→Bool}
    (rule:∀ (i j:Int) (t u:Tok) (s:Shared) (Q:Value→Shared→Prop) (E:Value→Shared→Prop),Q (.bool (g i j)) s→wpAny (model X.prog X.w) X.A (f (.int i t) (.int j u)) Q E s) :
    OpR X f (rI0 fun i j=>.bl (g i j)):=by
  intro pins s σ H x y v u Q I rx ry h
  obtain ⟨i,j,rfl,rfl,q⟩:=h
  obtain ⟨t,rfl⟩:=rx
  obtain ⟨t',rfl⟩:=ry
  exact rule i j t t' s _ _ ⟨.bl (g i j),H,I,rfl,q⟩
noncomputable def CDiv (i j:Int):Prop:=0<j∧j<1073741824
noncomputable def CPow (i j:Int):Prop:=0≤j∧j≤1000000∧i.natAbs<2 ^ 64
theorem op_add:OpR X (binaryOp .Add) (rI0 fun i j=>.int (i+j)):=opI0 fun _ _ _ _ _ _ _ q=>add_int q
theorem op_sub:OpR X (binaryOp .Sub) (rI0 fun i j=>.int (i - j)):=opI0 fun _ _ _ _ _ _ _ q=>sub_int q
theorem op_fdiv:OpR X (binaryOp .FloorDiv) (rI CDiv fun i j=>.int (i / j)):=opI fun i j _ _ _ _ _ hc q=>by
  have h1:(0:Int)<j:=hc.1
  have h2:j<1073741824:=hc.2
  exact floordiv_int (by omega) (by rw [Int.fdiv_eq_ediv_of_nonneg i (by omega)];exact q) (.inl (PyProof.noPylong_small (by omega)))
theorem op_mod:OpR X (binaryOp .Mod) (rI (fun _ j=>0<j) fun i j=>.int (i % j)):=opI fun i j _ _ _ _ _ hc q=>by
  have h1:(0:Int)<j:=hc
  exact mod_int' (by omega) (by rw [Int.fmod_eq_emod_of_nonneg i (by omega)];exact q)
theorem op_pow:OpR X (binaryOp .Pow) (rI CPow fun i j=>.int (i ^ j.toNat)):=opI fun _ _ _ _ _ _ _ hc q=>pow_int_small hc.1 hc.2.1 hc.2.2 q
theorem unI {f:Value→Sem Value} {g:Int→Int}
    (rule:∀ (i:Int) (t:Tok) (s:Shared) (Q:Value→Shared→Prop) (E:Value→Shared→Prop),Q (.int (g i) s.toks) { s with toks:=s.toks+1 }→wpAny (model X.prog X.w) X.A (f (.int i t)) Q E s) :
    UnR X f (rU fun i=>.int (g i)):=by
  intro pins s σ H x v Q I rx h
  obtain ⟨i,rfl,q⟩:=h
  obtain ⟨t,rfl⟩:=rx
  exact rule i t s _ _ ⟨.int (g i),H,I.tok _,⟨_,rfl⟩,q⟩
theorem un_neg:UnR X (unaryOp .USub) (rU fun i=>.int (-i)):=unI fun _ _ _ _ _ q=>neg_int q
end
section
variable {X:Cx} {a b c:Expr} {ta tb tc:TE} {pos:Pos}
theorem op_lt:OpR X (compareOp .Lt) (rI0 fun i j=>.bl (decide (i<j))):=opB0 fun _ _ _ _ _ _ _ q=>lt_int q
theorem op_le:OpR X (compareOp .LtE) (rI0 fun i j=>.bl (decide (i≤j))):=opB0 fun _ _ _ _ _ _ _ q=>le_int q
theorem op_gt:OpR X (compareOp .Gt) (rI0 fun i j=>.bl (decide (j<i))):=opB0 fun _ _ _ _ _ _ _ q=>gt_int q
theorem op_ge:OpR X (compareOp .GtE) (rI0 fun i j=>.bl (decide (j≤i))):=opB0 fun _ _ _ _ _ _ _ q=>ge_int q
theorem OpR.or {f:Value→Value→Sem Value} {r r':R2} (h:OpR X f r) (h':OpR X f r'):OpR X f (fun x y H Q=>r x y H Q∨r' x y H Q):=by
  intro pins s σ H x y v u Q I rx ry q
  rcases q with q | q
  · exact h pins s σ H x y v u Q I rx ry q
  · exact h' pins s σ H x y v u Q I rx ry q
theorem pe_cmpR {op:CmpOp} {r:R2} (ho:OpR X (compareOp op) r) (ha:PE X a ta) (hb:PE X b tb) (hm:behindInMarks op b=false):PE X (.Compare a [op] [b] pos) (tOp r ta tb):=by
  intro pins s σ H Q I h
  exact wpAny_Compare1 (binT ha hb I h fun v u s2 x y H2 I2 rx ry q=>ho pins s2 σ H2 x y v u Q I2 rx ry q) hm
noncomputable def tTest (t:TE):TT:=fun σ H Q=>t σ H fun x H'=>∃ k,x=.bl k∧Q k H'
theorem pt_cmpR {op:CmpOp} {r:R2} (ho:OpR X (compareOp op) r) (ha:PE X a ta) (hb:PE X b tb) (hm:behindInMarks op b=false):PT X (.Compare a [op] [b] pos) (tTest (tOp r ta tb)):=by
  intro pins s σ H Q I h
  refine wpAny_isTrue_Compare1 (thn (ha pins s σ H _ I h) fun v s1 ⟨x,H1,I1,r1,q1⟩=>thn (hb pins s1 σ H1 _ I1 q1) fun u s2 ⟨y,H2,I2,r2,q2⟩=>
    thn (ho pins s2 σ H2 x y v u _ I2 r1 r2 q2) fun c s3 ⟨z,H3,I3,r3,k,e,q3⟩=>?_) hm
  subst e
  cases r3
  exact wpAny_truthy_bool ⟨H3,I3,q3⟩
noncomputable def zj7 (r r':R2) (ta tb tc:TE):TE:=fun σ H Q=>ta σ H fun x H1=>tb σ H1 fun y H2=>r x y H2 fun z H3=>∃ k,z=.bl k ∧
  (if k=true then tc σ H3 fun w' H4=>r' y w' H4 Q else Q (.bl false) H3)
theorem pe_chain {op op':CmpOp} {r r':R2} (ho:OpR X (compareOp op) r) (ho':OpR X (compareOp op') r') (ha:PE X a ta) (hb:PE X b tb) (hc:PE X c tc)
    (hm:lastMarks [op,op'] [b,c]=false:=by with_unfolding_all rfl):PE X (.Compare a [op,op'] [b,c] pos) (zj7 r r' ta tb tc):=by
  intro pins s σ H Q I h
  refine Compare_chain (thn (ha pins s σ H _ I h) fun v s1 ⟨x,H1,I1,r1,q1⟩=>chain_link (thn (hb pins s1 σ H1 _ I1 q1) fun u s2 ⟨y,H2,I2,r2,q2⟩=>
    thn (ho pins s2 σ H2 x y v u _ I2 r1 r2 q2) fun d s3 ⟨z,H3,I3,r3,k,e,q3⟩=>?_)) hm
  subst e
  cases r3
  refine wpAny_truthy_bool ?_
  cases k with
  | false=>exact ite_ff ⟨.bl false,H3,I3,rfl,q3⟩
  | true=>exact ite_tt (chain_last (thn (hc pins s3 σ H3 _ I3 q3) fun w' s4 ⟨z',H4,I4,r4,q4⟩=>ho' pins s4 σ H4 y z' u w' Q I4 r2 r4 q4))
theorem pt_chain {op op':CmpOp} {r r':R2} (ho:OpR X (compareOp op) r) (ho':OpR X (compareOp op') r') (ha:PE X a ta) (hb:PE X b tb) (hc:PE X c tc)
    (hm:lastMarks [op,op'] [b,c]=false:=by with_unfolding_all rfl):PT X (.Compare a [op,op'] [b,c] pos) (tTest (zj7 r r' ta tb tc)):=by
  intro pins s σ H Q I h
  refine isTrue_chain (thn (ha pins s σ H _ I h) fun v s1 ⟨x,H1,I1,r1,q1⟩=>test_link (thn (hb pins s1 σ H1 _ I1 q1) fun u s2 ⟨y,H2,I2,r2,q2⟩=>
    thn (ho pins s2 σ H2 x y v u _ I2 r1 r2 q2) fun d s3 ⟨z,H3,I3,r3,k,e,q3⟩=>?_)) hm
  subst e
  cases r3
  refine wpAny_truthy_bool ?_
  cases k with
  | false=>
    obtain ⟨k',e',q'⟩:=q3
    cases e'
    exact ite_ff ⟨H3,I3,q'⟩
  | true=>
    refine ite_tt (test_last (thn (hc pins s3 σ H3 _ I3 q3) fun w' s4 ⟨z',H4,I4,r4,q4⟩=>thn (ho' pins s4 σ H4 y z' u w' _ I4 r2 r4 q4) fun d' s5 ⟨z2,H5,I5,r5,k2,e2,q5⟩=>?_))
    subst e2
    cases r5
    exact wpAny_truthy_bool ⟨H5,I5,q5⟩
noncomputable def TruV (K:PySem.W.Frag) (x:V) (H:Hp) (k:Bool):Prop:=
  match x with
  | .non=>k=false
  | .bl b=>k=b
  | .int i=>k=(i != 0)
  | .str y=>y.length≤sizeLine∧k=((y.length:Int) != 0)
  | .byt y=>y.size≤sizeLine∧k=((y.size:Int) != 0)
  | .ref p=>(∃ xs,SqL K H p xs∧k = !xs.isEmpty)∨(∃ xs,SqT K H p xs∧k = !xs.isEmpty)∨∃ kvs,H p=some (.dK kvs)∧k = !kvs.isEmpty
  | _=>False
theorem zg9 {κ:Type} {kvs:List (κ×V)} {vs:List (κ×Value)} (r:KV kvs vs):(!vs.isEmpty) = !kvs.isEmpty:=by
  cases r <;> rfl
theorem qL3 {xs:List V} {its:List Value} (r:Vals xs its):(!its.toArray.isEmpty) = !xs.isEmpty:=by
  cases r <;> simp
theorem qL0:(sizeLine:Nat)<2 ^ 63:=by rw [sizeLine_eq];decide
theorem q80:TruR X (fun x H Q=>∃ k,TruV X.K x H k∧Q k H):=by
  intro pins s σ H x v Q I rx h
  obtain ⟨k,e,q⟩:=h
  have hl:=qL0
  have hs:sizeLine=16777216:=sizeLine_eq
  cases x with
  | non=>
    cases rx
    have e':k=false:=e
    subst e'
    exact truthy_none ⟨H,I,q⟩
  | bl b=>
    cases rx
    have e':k=b:=e
    subst e'
    exact wpAny_truthy_bool ⟨H,I,q⟩
  | int i=>
    obtain ⟨t,rfl⟩:=rx
    have e':k=(i != 0):=e
    subst e'
    exact PySem.P.truthy_int ⟨H,I,q⟩
  | str y=>
    obtain ⟨t,rfl⟩:=rx
    obtain ⟨hy,e'⟩:y.length≤sizeLine∧k=((y.length:Int) != 0):=e
    subst e'
    exact PySem.P.truthy_str (by omega) ⟨H,I.tok _,q⟩
  | byt y=>
    obtain ⟨t,rfl⟩:=rx
    obtain ⟨hy,e'⟩:y.size≤sizeLine∧k=((y.size:Int) != 0):=e
    subst e'
    exact PySem.W.truthy_bytes (by omega) ⟨H,I.tok _,q⟩
  | ref p=>
    cases rx
    have e':(∃ xs,SqL X.K H p xs∧k = !xs.isEmpty)∨(∃ xs,SqT X.K H p xs∧k = !xs.isEmpty)∨∃ kvs,H p=some (.dK kvs)∧k = !kvs.isEmpty:=e
    rcases e' with ⟨xs,hx,e'⟩ | ⟨xs,hx,e'⟩ | ⟨kvs,hx,e'⟩
    · subst e'
      obtain ⟨its,r,pl,hz⟩:=I.list hx
      have hlen:=r.length
      exact wpAny_truthy_list pl.isList (by simp only [List.size_toArray];omega) ⟨H,I.tok _,by rw [qL3 r];exact q⟩
    · subst e'
      obtain ⟨its,r,pl,hz⟩:=I.tuple hx
      have hlen:=r.length
      exact truthy_tuple pl (by simp only [List.size_toArray];omega) ⟨H,I.tok _,by rw [qL3 r];exact q⟩
    · subst e'
      obtain ⟨hz,hS,vs,r,m⟩:kvs.length≤sizeLine∧(p == sysModules)=false∧∃ vs,KV kvs vs∧s.heap.DictOf (qi7 X.prog X.w) p vs:=I.hok p _ hx
      have hlen:kvs.length=vs.length:=Paired.length r
      exact wpAny_truthy_dict hS m (by omega) ⟨H,I.tok _,by rw [zg9 r];exact q⟩
  | _=>exact (show False from e).elim
theorem pt_truth (ha:PE X a ta) (he:∀ whole,isTrue a X.env whole=(do let v ← whole;standAt a.pos;holding [v] (truthy v))) :
    PT X a (fun σ H Q=>ta σ H fun x H'=>∃ k,TruV X.K x H' k∧Q k H'):=by
  intro pins s σ H Q I h
  exact isTrue_plain (thn (ha pins s σ H _ I h) fun v s1 ⟨x,H1,I1,r1,q1⟩=>q80 pins s1 σ H1 x v Q I1 r1 q1) (he _)
theorem zf0:OpR X (binaryOp .Add) (fun x y H Q=>∃ i j,x=.str i∧y=.str j∧i.length+j.length≤sizeLine∧Q (.str (i++j)) H):=by
  intro pins s σ H x y v u Q I rx ry h
  obtain ⟨i,j,rfl,rfl,hz,q⟩:=h
  obtain ⟨t,rfl⟩:=rx
  obtain ⟨t',rfl⟩:=ry
  exact add_str (fun t' tk=>⟨.str (i++j),H,I.tok _,⟨_,rfl⟩,q⟩) hz
theorem qR0 {x:V} {us:List Value} (r:Vals [x] us):∃ u,us=[u]∧RelV x u:=by
  cases r with
  | cons r1 r2=>cases r2;exact ⟨_,rfl,r1⟩
theorem vals2 {x y:V} {us:List Value} (r:Vals [x,y] us):∃ u w',us=[u,w']∧RelV x u∧RelV y w':=by
  cases r with
  | cons r1 r2=>
    cases r2 with
    | cons r3 r4=>cases r4;exact ⟨_,_,rfl,r1,r3⟩
theorem zy5 (hc:X.calm=true):CallR X (.builtin "max") (fun xs H Q=>∃ i j,xs=[.int i,.int j]∧Q (.int (if j>i then j else i)) H):=by
  intro pins s σ H xs us Q I r h
  obtain ⟨i,j,rfl,q⟩:=h
  obtain ⟨u,w',rfl,⟨t,rfl⟩,⟨t',rfl⟩⟩:=vals2 r
  refine max_two_ints (I.ok.hd hc) fun h' tk k=>⟨_,H,I.kept k,?_,q⟩
  by_cases hj:j>i
  · rw [if_pos hj,if_pos hj];exact ⟨_,rfl⟩
  · rw [if_neg hj,if_neg hj];exact ⟨_,rfl⟩
theorem zy3 (hc:X.calm=true):CallR X (.builtin "min") (fun xs H Q=>∃ i j,xs=[.int i,.int j]∧Q (.int (if j<i then j else i)) H):=by
  intro pins s σ H xs us Q I r h
  obtain ⟨i,j,rfl,q⟩:=h
  obtain ⟨u,w',rfl,⟨t,rfl⟩,⟨t',rfl⟩⟩:=vals2 r
  refine min_two_ints (I.ok.hd hc) fun h' tk k=>⟨_,H,I.kept k,?_,q⟩
  by_cases hj:j<i
  · rw [if_pos hj,if_pos hj];exact ⟨_,rfl⟩
  · rw [if_neg hj,if_neg hj];exact ⟨_,rfl⟩
theorem zy6:CallR X (.type "int") (fun xs H Q=>(∃ i,xs=[.int i]∧Q (.int i) H)∨∃ k,xs=[.bl k]∧Q (.int (if k then 1 else 0)) H):=by
  intro pins s σ H xs us Q I r h
  rcases h with ⟨i,rfl,q⟩ | ⟨k,rfl,q⟩
  · obtain ⟨u,rfl,t,rfl⟩:=qR0 r
    exact call_int_int ⟨.int i,H,I,⟨_,rfl⟩,q⟩
  · obtain ⟨u,rfl,r1⟩:=qR0 r
    cases r1
    exact call_int_bool ⟨.int (if k then 1 else 0),H,I.tok _,⟨_,rfl⟩,q⟩
end
end L2
namespace L2
open PySem PySem.Spec PyProof.Rows
section
variable {prog:Program} {w:World} {A:Around} {E:Value→Shared→Prop} {s:Shared} {K:PySem.W.Frag} {x dx C f:Addr} {mA:Str→Option Value} {name:Str} {v:Value}
end
theorem RelO.some_of {v:V} {o:Option Value} (r:RelO (some v) o):∃ u,o=some u∧RelV v u:=by
  cases o with
  | none=>exact (show False from r).elim
  | some u=>exact ⟨u,rfl,r⟩
section
variable {P:Program} {w:World} {H H':Hp} {h h':Heap} {a C dx:Addr} {fs fs':List (Str×V)}
end
section
variable {X:Cx} {pins:List (Addr×Obj)} {σ:St} {H:Hp} {s:Shared} {a C dx:Addr} {fs:List (Str×V)} {f:Str} {v:V} {A:Around} {E:Value→Shared→Prop}
end
section
variable {X:Cx} {o e value:Expr} {f:Str} {pos pos' tpos:Pos} {ta tv:TE}
end
section
variable {X:Cx} {pins:List (Addr×Obj)} {σ:St} {H:Hp} {s:Shared} {A:Around} {E:Value→Shared→Prop} {Q:Value→Shared→Prop} {c:Value} {b:Bool}
end
end L2
namespace L2
open PySem PySem.Spec PyProof.Rows
structure Room (k:Nat) (A:Around):Prop where
  hd:A.handled=none
  dp:A.depth+3 * k+5<recursionLimit
  un:A.units+16 * k+200<cLine
theorem Room.mono {j k:Nat} {A:Around} (r:Room k A) (h:j≤k):Room j A:=⟨r.hd,by have:=r.dp;omega,by have:=r.un;omega⟩
theorem Room.deeper {k:Nat} {A:Around} (r:Room (k+1) A) (env:Env):Room k (A.deeper env):=
  ⟨r.hd,by have:=r.dp;show A.depth+1+3 * k+5<_;omega,by have:=r.un;show A.units+3+16 * k+200<_;omega⟩
theorem Room.depth {k:Nat} {A:Around} (r:Room k A):A.depth<recursionLimit:=by have:=r.dp;omega
theorem Room.units {k:Nat} {A:Around} (r:Room k A):A.units+64<cLine:=by have:=r.un;omega
noncomputable def tNil:TA:=fun _ H Q=>Q [] H
noncomputable def tCons (ta:TE) (tr:TA):TA:=fun σ H Q=>ta σ H fun x H1=>tr σ H1 fun xs H2=>Q (x::xs) H2
section
variable {X:Cx} {e:Expr} {es:List Expr} {te:TE} {t:TA} {pos:Pos}
theorem pa_nil:PA X [] tNil:=fun _ _ _ _ H Q I h=>Calls.spliced_nil ⟨[],H,I,.nil,h⟩
theorem q20 (ha:PE X e te) (hr:PA X es t) (hs:starEach (e::es) X.env=(false,eval e X.env)::starEach es X.env:=by rfl):PA X (e::es) (tCons te t):=by
  intro pos pins s σ H Q I h
  rw [hs]
  show wpAny _ _ (spliced ((false,eval e X.env)::backTo pos (starEach es X.env))) _ _ s
  refine Calls.spliced_cons (thn (ha pins s σ H _ I h) fun u s1 ⟨x,H1,I1,r1,q1⟩=>?_)
  exact thn (hr pos pins s1 σ H1 _ I1 q1) fun us s2 ⟨xs,H2,I2,r2,q2⟩=>⟨x::xs,H2,I2,.cons r1 r2,q2⟩
noncomputable def tTup (t:TA):TE:=fun σ H Q=>t σ H fun xs H1=>xs.length≤sizeLine∧∀ p,H1 p=none→Q (.ref p) (upd H1 p (.tup xs))
noncomputable def tLst (t:TA):TE:=fun σ H Q=>t σ H fun xs H1=>xs.length≤sizeLine∧∀ p,H1 p=none→Q (.ref p) (upd H1 p (.lst xs))
theorem pe_tup {x1} (h:PA X es t):PE X (.Tuple es x1 pos) (tTup t):=by
  intro pins s σ H Q I hq
  refine wpAny_Tuple_spliced (thn (h pos pins s σ H _ I hq) fun us s1 ⟨xs,H1,I1,r,z,q⟩=>⟨by rw [← r.length];exact z,?_⟩)
  have hf:H1 s1.heap.objs.size=none:=I1.hok.fresh (Nat.le_refl _)
  refine ⟨.ref s1.heap.objs.size,upd H1 s1.heap.objs.size (.tup xs),I1.laid (t':=s1.toks) (fun b u e=>Heap.get?_push_of_some _ e) (Nat.le_refl _) ?_,rfl,q _ hf⟩
  exact ⟨z,us,r,⟨_,Heap.get?_push_size _ rfl,rfl,⟨_,rfl⟩,rfl⟩⟩
theorem pe_lst (h:PA X es t):PE X (.List es pos) (tLst t):=by
  intro pins s σ H Q I hq
  refine wpAny_List_spliced (thn (h pos pins s σ H _ I hq) fun us s1 ⟨xs,H1,I1,r,z,q⟩=>⟨by rw [← r.length];exact z,?_⟩)
  have hf:H1 s1.heap.objs.size=none:=I1.hok.fresh (Nat.le_refl _)
  refine ⟨.ref s1.heap.objs.size,upd H1 s1.heap.objs.size (.lst xs),I1.laid (t':=s1.toks) (fun b u e=>Heap.get?_push_of_some _ e) (Nat.le_refl _) ?_,rfl,q _ hf⟩
  exact ⟨z,us,0,r,Heap.get?_push_size _ rfl⟩
end
noncomputable abbrev Sp:=List V→Hp→VK→XK→Prop
noncomputable abbrev CXT:=List Env→Hp→Shared→XK→Value→Shared→Prop
structure Env0 (P:Program) (w:World) (K:PySem.W.Frag) (mg:Str→Option Value) (base:Heap) (A:Around) (outer:List Env) (s:Shared) (H:Hp):Prop where
  frames:A.frames=some outer
  mod:Mod K mg base
  bs:∀ b o,base.get? b=some o→s.heap.get? b=some o∧H b=none
  bsz:base.objs.size≤s.heap.objs.size
  funs:s.heap.FunFrames base outer
  frf:∀ b∈frs outer,H b=none
  hok:HOk P w H s.heap
  bare:AllBare s.gens
noncomputable def CE (outer:List Env) (P:Program) (w:World) (H:Hp) (s:Shared) (Q:VK) (u:Value) (s':Shared):Prop:=
  ∃ v H',s'.os=s.os∧AllBare s'.gens∧Un (frs outer) [] H H' s.heap s'.heap∧HOk P w H' s'.heap∧RelV v u∧Q v H'
noncomputable def CR (CX:CXT) (outer:List Env) (P:Program) (w:World) (H:Hp) (s:Shared) (Q:VK) (E:XK) (r:Result) (s':Shared):Prop:=
  match r with
  | .ok (.ret u)=>CE outer P w H s Q u s'
  | .ok _=>False
  | .error e=>CX outer H s E e s'
structure FnOk (P:Program) (w:World) (K:PySem.W.Frag) (mg:Str→Option Value) (base:Heap) (CX:CXT) (k:Nat) (f:Addr) (fd:FuncData) (ps:List Str) (sp:Sp):Prop where
  len:∀ vs H Q E,sp vs H Q E→vs.length=ps.length
  run:∀ (A:Around) (outer:List Env) (s:Shared) (H:Hp) (args:Args) (us:List Value) (vs:List V) (Q:VK) (E:XK),Room k A→Env0 P w K mg base A outer s H→BindsTo s fd args (ps.zip us)→Vals vs us→sp vs H Q E →
    codeAny (model P w) A (.call (.ref f) args) (CR CX outer P w H s Q E) s
theorem FnOk.mono {P:Program} {w:World} {K:PySem.W.Frag} {mg:Str→Option Value} {base:Heap} {CX:CXT} {j k:Nat} {f:Addr} {fd:FuncData} {ps:List Str} {sp:Sp} (F:FnOk P w K mg base CX j f fd ps sp) (h:j≤k) :
    FnOk P w K mg base CX k f fd ps sp:=⟨F.len,fun A outer s H args us vs Q E hr=>F.run A outer s H args us vs Q E (hr.mono h)⟩
section
variable {X:Cx} {pins:List (Addr×Obj)} {σ:St} {H:Hp} {s s':Shared}
theorem Inv.env0 (I:Inv X pins σ H s):Env0 X.prog X.w X.K X.mg X.base X.A X.stack s H:=
  ⟨I.ok.frames,I.ok.mod,I.bs,Nat.le_trans I.ok.bsz I.sz,I.stack,I.stkFree,I.hok,I.bare⟩
theorem Inv.after {Q:VK} {u:Value} (I:Inv X pins σ H s) (h:CE X.stack X.prog X.w H s Q u s'):EP X pins σ Q u s':=by
  obtain ⟨v,H',os,bare,un,hok,r,q⟩:=h
  obtain ⟨hh,g,d,t,os'⟩:=s'
  obtain rfl:os'=s.os:=os
  exact ⟨v,H',I.call (h':=hh) (g':=g) (d':=d) (t':=t) (ch:=[]) un hok bare (fun b z=>absurd z (by simp)),r,q⟩
end
noncomputable def tCall (sp:Sp) (dvs:List V) (E:XK) (t:TA):TE:=fun σ H Q=>t σ H fun vs H1=>sp (vs++dvs) H1 Q E
noncomputable def Binds (K:PySem.W.Frag) (fd:FuncData) (ps:List Str) (ds:List Value):Prop:=
  ∀ (s:Shared) (us:List Value),K.In s.heap→(us++ds).length=ps.length→BindsTo s fd ⟨us,[]⟩ (ps.zip (us++ds))
theorem Binds.all {K:PySem.W.Frag} {fd:FuncData} {ps:List Str} (h:∀ us:List Value,us.length=ps.length→bindArgs fd ⟨us,[]⟩=pure (ps.zip us)):Binds K fd ps []:=fun s us _ hl=>by
  rw [List.append_nil] at hl ⊢
  exact .of_eq (h us hl)
noncomputable def zd5 (CX:CXT) (X:Cx) (E:XK):Prop:=∀ (pins:List (Addr×Obj)) (σ:St) (H:Hp) (s:Shared) (e:Value) (s':Shared),Inv X pins σ H s→CX X.stack H s E e s'→X.xe e s'
section
variable {X:Cx} {CX:CXT} {k:Nat} {f C:Addr} {fd:FuncData} {ps:List Str} {sp:Sp} {dvs:List V} {ds:List Value} {E:XK} {x m:Str} {p pos apos:Pos} {e o:Expr} {es:List Expr} {ta:TE} {t:TA}
theorem run_fn {pins:List (Addr×Obj)} {σ:St} {H:Hp} {s:Shared} {Q:VK} {us:List Value} {vs:List V} (F:FnOk X.prog X.w X.K X.mg X.base CX k f fd ps sp) (hr:Room k X.A) (hb:Binds X.K fd ps ds) (hd:Vals dvs ds) (hx:zd5 CX X E)
    (I:Inv X pins σ H s) (r:Vals vs us) (h:sp (vs++dvs) H Q E):wpAny (model X.prog X.w) X.A (call (.ref f) us) (EP X pins σ Q) X.xe s:=by
  have r2:Vals (vs++dvs) (us++ds):=r.append hd
  have hl:(us++ds).length=ps.length:=by rw [← r2.length];exact F.len _ _ _ _ h
  refine wpAny_call (codeAny_mono (F.run X.A X.stack s H ⟨us,[]⟩ (us++ds) (vs++dvs) Q E hr I.env0 (hb s us I.kIn hl) r2 h) fun r s' hq=>?_)
  cases r with
  | error e=>exact hx pins σ H s e s' I hq
  | ok fl=>
    cases fl with
    | ret u=>exact I.after hq
    | next=>exact False.elim hq
    | brk=>exact False.elim hq
    | cont=>exact False.elim hq
theorem pe_call (F:FnOk X.prog X.w X.K X.mg X.base CX k f fd ps sp) (hr:Room k X.A) (hg:Gl X x) (hm:X.mg x=some (.ref f)) (hk:PySem.W.keepIn X.K (.ref f)=true) (hb:Binds X.K fd ps ds) (hd:Vals dvs ds) (hx:zd5 CX X E)
    (ha:PA X (e::es) t) (hdb:(x == ("__debug__":Str))=false:=by decide) (he:starEach (e::es) X.env=(false,eval e X.env)::starEach es X.env:=by rfl) (hpl:(backTo pos (starEach es X.env)).any (·.1)=false:=by rfl) :
    PE X (.Call (.Name x p) (e::es) [] pos) (tCall sp dvs E t):=by
  intro pins s σ H Q I h
  refine wpAny_Call_Name_kw (q50 I hg hm ?_ hdb)
  refine PySem.W.callWith_K (h₀:=X.base) I.ok.mod.kin hk (thn (ha pos pins s σ H _ I h) fun us s1 ⟨vs,H1,I1,r,q⟩=>⟨I1.kIn,?_⟩) he hpl
  exact run_fn F hr hb hd hx I1 r q
theorem pe_call0 (F:FnOk X.prog X.w X.K X.mg X.base CX k f fd ps sp) (hr:Room k X.A) (hg:Gl X x) (hm:X.mg x=some (.ref f)) (hk:PySem.W.keepIn X.K (.ref f)=true) (hb:Binds X.K fd ps ds) (hd:Vals dvs ds) (hx:zd5 CX X E)
    (hdb:(x == ("__debug__":Str))=false:=by decide):PE X (.Call (.Name x p) [] [] pos) (tCall sp dvs E tNil):=by
  intro pins s σ H Q I h
  refine wpAny_Call_Name_kw (q50 I hg hm ?_ hdb)
  exact PySem.W.callWith_K0 I.kIn hk (run_fn (us:=[]) F hr hb hd hx I .nil h)
end
section
variable {X:Cx} {CX:CXT} {k:Nat} {f C:Addr} {fd:FuncData} {ps ks:List Str} {sp:Sp} {E:XK} {x m:Str} {p pos apos kpos:Pos} {e o:Expr} {es:List Expr} {kws:List Keyword} {te ta:TE} {t tk:TA} {nm:Option Str}
variable {g:List Value→List Value→List Value} {gV:List V→List V→List V}
end
structure qc9 (N P:List Str) (sc:Scope):Prop where
  kind:sc.kind=.function
  co:sc.isCoroutine=false
  gen:sc.isGenerator=false
  nd:N.Nodup
  pre:N.take P.length=P
  par:∀ x∈P,sc.names.lookup x=some .local∨sc.names.lookup x=some .cell
  nofree:∀ y∈sc.names,y.2≠.free
theorem qZ9 {kindOf:Str→Option NameKind} {x:Str}:∀ {binds:List (Str×Value)} {m:Str→Option Value},(∀ v,(x,v) ∉ binds)→bindL kindOf binds m x=m x
  | [],_,_=>rfl
  | (n,v)::r,m,h=>by
    unfold bindL
    rw [qZ9 fun w hw=>h w (List.mem_cons_of_mem _ hw)]
    split
    · have:x≠n:=by rintro rfl;exact h v List.mem_cons_self
      simp [this]
    · rfl
theorem q01 {kindOf:Str→Option NameKind} {x:Str}:∀ {binds:List (Str×Value)} {m:Str→Option Value},(∀ v,(x,v) ∉ binds)→bindC kindOf binds m x=m x
  | [],_,_=>rfl
  | (n,v)::r,m,h=>by
    unfold bindC
    rw [q01 fun w hw=>h w (List.mem_cons_of_mem _ hw)]
    split
    · rfl
    · have:x≠n:=by rintro rfl;exact h v List.mem_cons_self
      simp [this]
theorem q00 {kindOf:Str→Option NameKind} {x:Str} {v:Value}:∀ {P:List Str} {vs:List Value} {i:Nat} {m:Str→Option Value},P.Nodup→P[i]?=some x→vs[i]?=some v→kindOf x=some .local →
    bindL kindOf (P.zip vs) m x=some v
  | [],_,_,_,_,h,_,_=>by simp at h
  | _::_,[],_,_,_,_,h,_=>by simp at h
  | p::P,w::vs,0,m,nd,h1,h2,hk=>by
    simp at h1 h2;subst h1;subst h2
    show bindL kindOf ((p,w)::P.zip vs) m p=_
    unfold bindL
    rw [qZ9 fun v hv=>(List.nodup_cons.mp nd).1 (List.of_mem_zip hv).1,if_pos hk]
    simp
  | p::P,w::vs,i+1,m,nd,h1,h2,hk=>by
    show bindL kindOf ((p,w)::P.zip vs) m x=_
    unfold bindL
    exact q00 (i:=i) (List.nodup_cons.mp nd).2 (by simpa using h1) (by simpa using h2) hk
theorem q02 {kindOf:Str→Option NameKind} {x:Str} {v:Value}:∀ {P:List Str} {vs:List Value} {i:Nat} {m:Str→Option Value},P.Nodup→P[i]?=some x→vs[i]?=some v→kindOf x≠some .local →
    bindC kindOf (P.zip vs) m x=some v
  | [],_,_,_,_,h,_,_=>by simp at h
  | _::_,[],_,_,_,_,h,_=>by simp at h
  | p::P,w::vs,0,m,nd,h1,h2,hk=>by
    simp at h1 h2;subst h1;subst h2
    show bindC kindOf ((p,w)::P.zip vs) m p=_
    unfold bindC
    rw [q01 fun v hv=>(List.nodup_cons.mp nd).1 (List.of_mem_zip hv).1,if_neg hk]
    simp
  | p::P,w::vs,i+1,m,nd,h1,h2,hk=>by
    show bindC kindOf ((p,w)::P.zip vs) m x=_
    unfold bindC
    exact q02 (i:=i) (List.nodup_cons.mp nd).2 (by simpa using h1) (by simpa using h2) hk
noncomputable def start (N:List Str) (vs:List V):St:=vs.map some++List.replicate (N.length - vs.length) none
noncomputable def cxOf (CX:CXT) (P:Program) (w:World) (K:PySem.W.Frag) (mg:Str→Option Value) (base:Heap) (N:List Str) (qual:Str) (scope:Scope) (f:Addr) (cd:Value) (A:Around) (outer:List Env) (s:Shared) (H:Hp) (E:XK):Cx where
  prog:=P
  w:=w
  K:=K
  mg:=mg
  base:=base
  A:=A.deeper (envOfC qual scope s.heap.objs.size f cd)
  N:=N
  s₀:=s
  H₀:=H
  env:=envOfC qual scope s.heap.objs.size f cd
  outer:=outer
  stack:=envOfC qual scope s.heap.objs.size f cd::outer
  ex:=[]
  calm:=true
  fn:=fun _=>true
  pn:=[]
  xe:=fun e s'=>wpAny (model P w) (A.deeper (envOfC qual scope s.heap.objs.size f cd)) (leaving (envOfC qual scope s.heap.objs.size f cd) e) (fun _ s''=>CX outer H s E e s'') (fun e' s''=>CX outer H s E e' s'') s'
theorem zd2 {sc:Scope} {n:Nat} {x:Str} (h:sc.names.lookup x=some .cell):∃ c,(cellsFrom n sc.names []).lookup x=some c:=by
  have q:=PySem.W.cellsFrom_some sc.names n [] (.inl h)
  exact Option.isSome_iff_exists.mp q
theorem zs8 {CX:CXT} {P:Program} {w:World} {K:PySem.W.Frag} {mg:Str→Option Value} {base:Heap} {N ps:List Str} {qual:Str} {scope:Scope} {f:Addr} {cd:Value} {A:Around} {outer:List Env} {s s1:Shared} {H:Hp} {E:XK} {us:List Value} {vs:List V}
    (S:qc9 N ps scope) (hd:A.handled=none) (e0:Env0 P w K mg base A outer s H) (hl:vs.length=ps.length) (r:Vals vs us)
    (x:InCallC s s.heap.objs.size (bindL (envOfC qual scope s.heap.objs.size f cd).kindOf (ps.zip us) fun _=>none) (cellsFrom (s.heap.objs.size+1) scope.names []) (bindC (envOfC qual scope s.heap.objs.size f cd).kindOf (ps.zip us) fun _=>none) s1) :
    Inv (cxOf CX P w K mg base N qual scope f cd A outer s H E) [] (start N vs) H s1:=by
  have hpl:ps.length≤N.length:=by have:=congrArg List.length S.pre;rw [List.length_take] at this;omega
  obtain ⟨h1,tk,rfl,hk⟩:=x.done
  have noA:∀ b:Addr,b ∉ (cxOf CX P w K mg base N qual scope f cd A outer s H E).ex:=fun b z=>absurd (show b∈([]:List Addr) from z) (by simp)
  refine ⟨⟨e0.mod,S.kind,rfl,rfl,Nat.le_refl _,fun y z c h1 h2=>?_,fun y hy=>?_,fun y c _ h=>?_,fun _=>hd,Around.frames_deeper e0.frames,.inr ⟨rfl,rfl⟩,fun b z=>absurd z (noA b),e0.bs,e0.bsz,fun b _ _=>noA b,fun b z=>absurd z (noA b),e0.funs,e0.frf⟩,
    rfl,e0.bare,Un.kept hk,⟨_,x.toInCall.ns,fun i y v h1 h2 h3=>?_⟩,fun y c h=>⟨_,x.cell y c h⟩,e0.hok.fresh (Nat.le_refl _),fun y c h=>?_,fun p hp=>absurd (show p∈([]:List (Addr×Obj)) from hp) (by simp),e0.hok.kept hk,?_⟩
  · exact name_of_addr x.apart (PySem.mem_of_lookup h1) (PySem.mem_of_lookup h2)
  · have hy:scope.names.lookup y=some .cell∨scope.names.lookup y=some .free:=hy
    rcases hy with hy | hy
    · exact zd2 hy
    · exact absurd rfl (S.nofree _ (PySem.mem_of_lookup hy))
  · exact Nat.le_of_lt (x.above y c (PySem.mem_of_lookup h))
  · have hi:i<vs.length:=by
      unfold start at h2
      by_cases hi:i<vs.length
      · exact hi
      · rw [List.getElem?_append_right (by simpa using hi)] at h2
        rw [List.getElem?_replicate] at h2
        split at h2 <;> cases h2
    have ha:vs[i]?=some v:=by
      unfold start at h2
      rw [List.getElem?_append_left (by simpa using hi),List.getElem?_map] at h2
      cases e:vs[i]? with
      | none=>rw [e] at h2;cases h2
      | some a=>rw [e] at h2;cases h2;rfl
    obtain ⟨u,hu,rv⟩:=r.get ha
    have hp:ps[i]?=some y:=by
      rw [← S.pre,List.getElem?_take_of_lt (by omega)];exact h1
    have ndP:ps.Nodup:=by rw [← S.pre];exact S.nd.sublist (List.take_sublist _ _)
    refine ⟨u,rv,?_⟩
    rcases S.par y (List.mem_of_getElem? hp) with k | k
    · exact .inl ⟨k,q00 ndP hp hu k⟩
    · obtain ⟨c,e⟩:=zd2 (n:=s.heap.objs.size+1) k
      refine .inr ⟨.inl k,c,e,?_⟩
      have q:=x.cell y c e
      rw [q02 ndP hp hu (by show scope.names.lookup y≠_;rw [k];decide)] at q
      exact q
  · exact e0.hok.fresh (Nat.le_of_lt (x.above y c (PySem.mem_of_lookup h)))
  · unfold start
    show _=N.length
    rw [List.length_append,List.length_map,List.length_replicate]
    omega
theorem fn_of {CX:CXT} {P:Program} {w:World} {K:PySem.W.Frag} {mg:Str→Option Value} {base:Heap} {k:Nat} {f:Addr} {name qual:Str} {params:Arguments} {body:List Stmt} {scope:Scope} {dV kV doc pm cdv ct oc:Value} {an od:Option Addr}
    {osl:Array (Option Value)} {N ps:List Str} {sp:Sp} (lk:K.lookup f=some ⟨oc,od,.func (PySem.W.fnOf name qual params body scope dV kV doc pm an cdv ct),osl⟩) (hcd:PySem.W.codeIn K cdv qual=true) (S:qc9 N ps scope)
    (len:∀ vs H Q E,sp vs H Q E→vs.length=ps.length)
    (hbody:∀ (A:Around) (outer:List Env) (s:Shared) (H:Hp) (vs:List V) (Q:VK) (E:XK),Room k (A.deeper (envOfC qual scope s.heap.objs.size f cdv))→sp vs H Q E →
      ∃ t,PSs (cxOf CX P w K mg base N qual scope f cdv A outer s H E) body t∧t { nx:=fun _ H'=>Q .non H',rt:=Q } (start N vs) H) :
    FnOk P w K mg base CX (k+1) f (PySem.W.fnOf name qual params body scope dV kV doc pm an cdv ct) ps sp:=by
  refine ⟨len,fun A outer s H args us vs Q E hr e0 hb r hsp=>?_⟩
  have hl:=len _ _ _ _ hsp
  have KX:K.In s.heap:=e0.mod.kin.keeps fun b o e=>(e0.bs b o e).1
  have lim:s.heap.NoLimit:=e0.mod.nolimit.keeps fun b o e=>(e0.bs b o e).1
  have hkind:∀ y∈ps.zip us,scope.names.lookup y.1=some .local∨(scope.names.lookup y.1=some .cell∧((cellsFrom (s.heap.objs.size+1) scope.names []).lookup y.1).isSome=true):=fun ⟨n,v⟩ hy=>by
    rcases S.par n (List.of_mem_zip hy).1 with q | q
    · exact .inl q
    · exact .inr ⟨q,PySem.W.cellsFrom_some _ _ _ (.inl q)⟩
  refine codeAny_call_function hr.depth (KX _ _ lk) rfl S.co S.gen rfl (PySem.W.codeRec_of KX hcd) (hb _ _ _ _ ?_)
  refine wpAny_newFunctionEnv_cells S.kind hkind fun env he s1 x=>?_
  subst he
  refine ⟨lim.keeps x.toInCall.keep,codeAny_func ?_⟩
  obtain ⟨t,ht,hq⟩:=hbody A outer s H vs Q E (hr.deeper _) hsp
  have I:Inv (cxOf CX P w K mg base N qual scope f cdv A outer s H E) [] (start N vs) H s1:=zs8 S hr.hd e0 hl r x
  refine wpAny_mono (ht [] s1 (start N vs) H _ I hq) (fun fl s' hs=>?_) fun e s' hs=>hs
  have fin:∀ {σ':St} {H':Hp} {v:V} {u:Value},Inv (cxOf CX P w K mg base N qual scope f cdv A outer s H E) [] σ' H' s'→RelV v u→Q v H'→CE outer P w H s Q u s':=
    fun {σ' H' v u} J rv q=>⟨v,H',J.os,J.bare,J.base,J.hok,rv,q⟩
  cases fl with
  | ret u=>
    obtain ⟨v,σ',H',J,rv,q⟩:=hs
    exact fin J rv q
  | next=>
    obtain ⟨σ',H',J,q⟩:=hs
    exact fin (v:=V.non) (u:=Value.none) J rfl q
  | brk=>
    obtain ⟨_,_,_,q⟩:=hs
    exact False.elim q
  | cont=>
    obtain ⟨_,_,_,q⟩:=hs
    exact False.elim q
end L2
namespace L2
open PySem PySem.Spec PyProof.Rows
section
variable {X:Cx} {x:Str} {p pos:Pos} {e:Expr} {es:List Expr} {t:TA} {id T:String} {r:List V→Hp→VK→Prop}
noncomputable def tCB (r:List V→Hp→VK→Prop) (t:TA):TE:=fun σ H Q=>t σ H fun vs H1=>r vs H1 Q
theorem q90 (hc:CallR X (.builtin id) r) (hg:Gl X x) (hm:X.mg x=none) (hv:bootBuiltins x=some (.builtin id)) (ha:PA X (e::es) t) (hn:x ≠ "__name__":=by decide) (hdb:(x == ("__debug__":Str))=false:=by decide)
    (he:starEach (e::es) X.env=(false,eval e X.env)::starEach es X.env:=by rfl) (hpl:(backTo pos (starEach es X.env)).any (·.1)=false:=by rfl):PE X (.Call (.Name x p) (e::es) [] pos) (tCB r t):=by
  intro pins s σ H Q I h
  refine wpAny_Call_Name_kw (qx1 I hg hm hv ?_ hn hdb)
  exact PyProof.Rows.callWith_builtin1 (thn (ha pos pins s σ H _ I h) fun us s1 ⟨vs,H1,I1,r1,q1⟩=>hc pins s1 σ H1 vs us Q I1 r1 q1) he hpl
theorem zl7 (hc:CallR X (.type T) r) (hg:Gl X x) (hm:X.mg x=none) (hv:bootBuiltins x=some (.type T)) (ha:PA X (e::es) t) (hn:x ≠ "__name__":=by decide) (hdb:(x == ("__debug__":Str))=false:=by decide)
    (he:starEach (e::es) X.env=(false,eval e X.env)::starEach es X.env:=by rfl) (hpl:(backTo pos (starEach es X.env)).any (·.1)=false:=by rfl):PE X (.Call (.Name x p) (e::es) [] pos) (tCB r t):=by
  intro pins s σ H Q I h
  refine wpAny_Call_Name_kw (qx1 I hg hm hv ?_ hn hdb)
  exact PyProof.Rows.callWith_type1 (thn (ha pos pins s σ H _ I h) fun us s1 ⟨vs,H1,I1,r1,q1⟩=>hc pins s1 σ H1 vs us Q I1 r1 q1) he hpl
end
end L2
namespace HT
open PySem PyProof.Rows
section
open PySem.SeqAt
open PySem.AutoSeq1 (wpAny_loadPart')
open PySem.MeetsSeq PySem.MeetsSeq2 PySem.MeetsSeq3
end
section
variable {prog:Program} {w:World} {A:Around} {E:Value→Shared→Prop} {s:Shared}
theorem cat_tup {t b:Addr} {vs ws:List Value} {Q:Value→Shared→Prop} (ht:IsTup s.heap t vs.toArray) (hb:IsTup s.heap b ws.toArray) (hv:vs≠[])
    (h1:ws=[]→Q (.ref t) s) (h2:ws≠[]→Q (.ref s.heap.objs.size) { s with heap:=s.heap.push { cls:=.type "tuple",data:=.seq (vs++ws).toArray } })
    (hsz:vs.length+ws.length≤sizeLine):wpAny (model prog w) A (binaryOp .Add (.ref t) (.ref b)) Q E s:=by
  obtain ⟨⟨cls,dd,data,sl⟩,ho,hc,n,hd⟩:=id ht
  obtain ⟨⟨cls2,dd2,data2,sl2⟩,ho2,hc2,n2,hd2⟩:=id hb
  simp only at hc hd hc2 hd2
  subst hc hd hc2 hd2
  have e:vs.toArray++ws.toArray=(vs++ws).toArray:=by simp
  by_cases hw:ws=[]
  · exact concat_meets ⟨_,ho,rfl⟩ ⟨_,ho2,rfl⟩ noFill_tuple_add seq_tuple_add PySem.F.slot_tuple_add PySem.F.entry_tuple_add (PySem.F.args_tuple_add_2 _ _)
      (tuple_addW1 t b vs.toArray ws.toArray n n2 dd dd2 sl sl2 (by simpa using hv) (by simp [hw])) ⟨ho,ho2,h1 hw⟩
  · refine concat_meets ⟨_,ho,rfl⟩ ⟨_,ho2,rfl⟩ noFill_tuple_add seq_tuple_add PySem.F.slot_tuple_add PySem.F.entry_tuple_add (PySem.F.args_tuple_add_2 _ _)
      (tuple_addW2 t b vs.toArray ws.toArray n n2 dd dd2 sl sl2 (by simpa using hv) (by simpa using hw) (by rw [List.size_toArray,List.size_toArray];exact hsz)) ⟨ho,ho2,?_⟩
    rw [e]
    exact h2 hw
noncomputable def sIx (n d:Nat):Option Int→Nat
  | none=>d
  | some v=>if v<0 then (v+(n:Int)).toNat else min v.toNat n
theorem sIx_nat (n d k:Nat):sIx n d (some (k:Int))=min k n:=by
  show (if (k:Int)<0 then ((k:Int)+(n:Int)).toNat else min (k:Int).toNat n)=min k n
  rw [if_neg (by omega),Int.toNat_natCast]
theorem sIx_le (n d:Nat) (hd:d≤n) (o:Option Int):sIx n d o≤n:=by
  cases o with
  | none=>exact hd
  | some v=>
    show (if v<0 then (v+(n:Int)).toNat else min v.toNat n)≤n
    by_cases hv:v<0
    · rw [if_pos hv];omega
    · rw [if_neg hv];exact Nat.min_le_right _ _
theorem zx9 (v:Int) (n d:Nat):(if v<0 then max (v+(n:Int)) 0 else min v (n:Int))=((sIx n d (some v):Nat):Int):=by
  show (if v<0 then max (v+(n:Int)) 0 else min v (n:Int))=(((if v<0 then (v+(n:Int)).toNat else min v.toNat n):Nat):Int)
  by_cases hv:v<0
  · simp only [if_pos hv];omega
  · simp only [if_neg hv];omega
theorem zi5 (lo hi:Option Int) (n:Nat):Builtin.Slice.sliceAdjust lo hi 1 (n:Int)=(((sIx n 0 lo:Nat):Int),((sIx n n hi:Nat):Int)):=by
  have h1:¬ ((1:Int)<0):=by omega
  unfold Builtin.Slice.sliceAdjust
  simp only [h1,if_false]
  refine Prod.ext ?_ ?_
  · cases lo with
    | none=>rfl
    | some v=>exact zx9 v n 0
  · cases hi with
    | none=>rfl
    | some v=>exact zx9 v n n
theorem ze9 (i j:Nat):Builtin.Slice.slicePlaces (i:Int) (j:Int) 1=j - i:=by
  unfold Builtin.Slice.slicePlaces
  have h1:(1:Int)>0:=by omega
  simp only [h1,if_true,Int.ediv_one]
  split <;> omega
theorem qJ6 {v:Value} {o:Option Int} {Q:Option Int→Shared→Prop} (p:IsPart v o) (h:Q o s):wpAny (model prog w) A (Builtin.Slice.slicePartIndex v) Q E s:=by
  cases p with
  | none=>exact slicePart_none h
  | int i t=>exact slicePart_int h
theorem qq8 {sl:Addr} {vl vu:Value} {lo hi:Option Int} {n:Nat} {Q:Int×Int×Nat→Shared→Prop} (hs:s.heap.IsSliceOf sl vl vu .none) (pl:IsPart vl lo) (pu:IsPart vu hi)
    (h:Q (((sIx n 0 lo:Nat):Int),1,sIx n n hi - sIx n 0 lo) s):wpAny (model prog w) A (Builtin.Slice.sliceApplied (.ref sl) (pure (n:Int))) Q E s:=by
  obtain ⟨os,hos,hcs,hds⟩:=id hs
  unfold Builtin.Slice.sliceApplied Builtin.Slice.sliceFields
  refine wpAny_bind (wpAny_bind (wpAny_field hos hds (x:=vl) rfl (wpAny_bind (wpAny_field hos hds (x:=vu) rfl (wpAny_bind (wpAny_field hos hds (x:=.none) rfl (wpAny_pure ?_)))))))
  refine wpAny_bind (slicePart_none ?_)
  show wpAny _ _ (if ((1:Int) == 0)=true then _ else _) _ _ s
  rw [if_neg (by decide)]
  refine wpAny_bind (qJ6 pl (wpAny_bind (qJ6 pu (wpAny_bind (wpAny_pure ?_)))))
  show wpAny _ _ (match Builtin.Slice.sliceAdjust lo hi 1 (n:Int) with | (lo,hi)=>pure (lo,(1:Int),Builtin.Slice.slicePlaces lo hi 1)) _ _ s
  rw [zi5 lo hi n]
  show wpAny _ _ (pure (((sIx n 0 lo:Nat):Int),(1:Int),Builtin.Slice.slicePlaces ((sIx n 0 lo:Nat):Int) ((sIx n n hi:Nat):Int) 1)) _ _ s
  rw [ze9]
  exact wpAny_pure h
theorem pick_gen (xs:Array Value) (i k:Nat):((List.range k).filterMap fun (m:Nat)=>xs[((i:Int)+(m:Int) * 1).toNat]?).toArray=((xs.toList.drop i).take k).toArray:=by
  have e:(fun (m:Nat)=>xs[((i:Int)+(m:Int) * 1).toNat]?)=fun m=>xs[i+m]?:=by
    funext m
    have:((i:Int)+(m:Int) * 1).toNat=i+m:=by omega
    rw [this]
  rw [e]
  have:=pick_run xs i k
  rw [List.filterMap_map] at this
  have e2:((fun x=>xs[x]?) ∘ fun x=>i+x)=fun m=>xs[i+m]?:=rfl
  rw [e2] at this
  rw [this]
theorem getItem_tuple_cut {t sl:Addr} {items:Array Value} {vl vu:Value} {lo hi:Option Int} {Q:Value→Shared→Prop} (ht:IsTup s.heap t items) (hs:s.heap.IsSliceOf sl vl vu .none) (pl:IsPart vl lo) (pu:IsPart vu hi)
    (hw:¬ (sIx items.size 0 lo=0∧sIx items.size items.size hi=items.size))
    (h:Q (.ref s.heap.objs.size) { s with heap:=s.heap.push { cls:=.type "tuple",data:=.seq ((items.toList.drop (sIx items.size 0 lo)).take (sIx items.size items.size hi - sIx items.size 0 lo)).toArray } })
    (hsz:items.size≤sizeLine):wpAny (model prog w) A (getItem (.ref t) (.ref sl)) Q E s:=by
  have htake:sizeOk (.seq ((items.toList.drop (sIx items.size 0 lo)).take (sIx items.size items.size hi - sIx items.size 0 lo)).toArray):=by
    show ((items.toList.drop (sIx items.size 0 lo)).take (sIx items.size items.size hi - sIx items.size 0 lo)).toArray.size≤sizeLine
    rw [List.size_toArray,List.length_take,List.length_drop,Array.length_toList]
    omega
  have hj:sIx items.size items.size hi≤items.size:=sIx_le _ _ (Nat.le_refl _) hi
  obtain ⟨os,hos,hcs,hds⟩:=id hs
  have hTs:s.TypeIs (.ref sl) "slice":=⟨os,hos,hcs⟩
  unfold getItem
  try with_reducible refine wpAny_holding ?_
  first | refine wpAny_bind (wpAny_pure ?_) | skip
  refine wpAny_bind (wpAny_sequenceKey ht.typeIs (by decide) ?_)
  refine wpAny_bind (wpAny_callSpecial?_slot (name:=Str.ofString "__getitem__") ht.typeIs PyProof.Rows.slot_tuple_getitem
    (wpAny_call_entry PyProof.Rows.slot_tuple_getitem ht.typeIs entry_tuple_getitem ?_ (args_tuple_getitem _ _)))
  show wpAny _ _ (Builtin.Tuple.tupleItemsOf (.ref t) >>= _) _ _ s
  refine wpAny_bind (tupleItemsOf_ ht ?_)
  refine wpAny_bind (wpAny_typeOf hTs ?_)
  rw [if_pos (by decide)]
  refine wpAny_bind (qq8 hs pl pu ?_)
  have hno:¬ ((((sIx items.size 0 lo:Nat):Int) == 0&&(1:Int) == 1&&(sIx items.size items.size hi - sIx items.size 0 lo) == items.size)=true):=by
    intro q
    rw [Bool.and_eq_true,Bool.and_eq_true] at q
    have q1:((sIx items.size 0 lo:Nat):Int)=0:=eq_of_beq q.1.1
    have q2:sIx items.size items.size hi - sIx items.size 0 lo=items.size:=eq_of_beq q.2
    exact hw ⟨by omega,by omega⟩
  show wpAny _ _ (if (((sIx items.size 0 lo:Nat):Int) == 0&&(1:Int) == 1&&(sIx items.size items.size hi - sIx items.size 0 lo) == items.size)=true then _ else _) _ _ s
  rw [if_neg hno,pick_gen]
  first
    | exact wpAny_bind (m:=Builtin.Tuple.tupleExact _) (wpAny_newObj_type (wpAny_pure ⟨_,rfl,wpAny_pure h⟩) htake)
    | exact wpAny_bind (m:=Builtin.Tuple.tupleExact _) (wpAny_newObj_type (wpAny_bind (wpAny_pure (wpAny_pure ⟨_,rfl,wpAny_pure h⟩))) htake)
    | exact wpAny_bind (wpAny_bind (m:=Builtin.Tuple.tupleExact _) (wpAny_newObj_type (wpAny_pure (wpAny_pure ⟨_,rfl,wpAny_pure h⟩)) htake))
    | exact wpAny_bind (wpAny_bind (m:=Builtin.Tuple.tupleExact _) (wpAny_newObj_type (wpAny_pure ⟨_,rfl,wpAny_pure h⟩) htake))
end
end HT
namespace L2
open PySem PySem.Spec PyProof.Rows
noncomputable abbrev TO:=St→Hp→(Option Int→Hp→Prop)→Prop
noncomputable def PO (X:Cx) (e:Option Expr) (t:TO):Prop:=
  ∀ (pins:List (Addr×Obj)) (s:Shared) (σ:St) (H:Hp) (Q:Option Int→Hp→Prop),Inv X pins σ H s→t σ H Q →
    wpAny (model X.prog X.w) X.A (evalPart e X.env) (fun u s'=>∃ o H',Inv X pins σ H' s'∧IsPart u o∧Q o H') X.xe s
noncomputable def tNoPart:TO:=fun _ H Q=>Q none H
noncomputable def tPart (t:TE):TO:=fun σ H Q=>t σ H fun x H1=>∃ i,x=.int i∧Q (some i) H1
section
variable {X:Cx} {e:Expr} {te:TE} {lo hi:Option Expr} {tl th:TO} {pos p2:Pos}
theorem po_none:PO X none tNoPart:=by
  intro pins s σ H Q I h
  rw [evalPart_none]
  exact wpAny_pure ⟨none,H,I,.none,h⟩
theorem po_some (h:PE X e te):PO X (some e) (tPart te):=by
  intro pins s σ H Q I hw
  rw [evalPart_some]
  refine thn (h pins s σ H _ I hw) fun u s1 ⟨x,H1,I1,r1,q1⟩=>?_
  obtain ⟨i,rfl,q⟩:=q1
  obtain ⟨t,rfl⟩:=r1
  exact ⟨some i,H1,I1,.int i t,q⟩
noncomputable def SlR (X:Cx) (r:V→Option Int→Option Int→Hp→VK→Prop):Prop:=
  ∀ (pins:List (Addr×Obj)) (s:Shared) (σ:St) (H:Hp) (x:V) (v vl vu:Value) (lo hi:Option Int) (sl:Addr) (Q:VK),Inv X pins σ H s→RelV x v→s.heap.IsSliceOf sl vl vu .none→IsPart vl lo→IsPart vu hi→r x lo hi H Q →
    ∃ T id,typeLookup (.type T) "__getitem__" = pure (some (.builtin id))∧s.TypeIs v T∧wpAny (model X.prog X.w) X.A (getItem v (.ref sl)) (EP X pins σ Q) X.xe s
theorem SlR.or {r r':V→Option Int→Option Int→Hp→VK→Prop} (h:SlR X r) (h':SlR X r'):SlR X (fun x lo hi H Q=>r x lo hi H Q∨r' x lo hi H Q):=by
  intro pins s σ H x v vl vu lo hi sl Q I rx hs pl pu q
  rcases q with q | q
  · exact h pins s σ H x v vl vu lo hi sl Q I rx hs pl pu q
  · exact h' pins s σ H x v vl vu lo hi sl Q I rx hs pl pu q
noncomputable def tSl (r:V→Option Int→Option Int→Hp→VK→Prop) (te:TE) (tl th:TO):TE:=fun σ H Q=>te σ H fun x H1=>tl σ H1 fun l H2=>th σ H2 fun u H3=>r x l u H3 Q
theorem pe_slice {r:V→Option Int→Option Int→Hp→VK→Prop} (hr:SlR X r) (he:PE X e te) (hl:PO X lo tl) (hu:PO X hi th):PE X (.Subscript e (.Slice lo hi none p2) pos) (tSl r te tl th):=by
  intro pins s σ H Q I h
  refine Subscript_ (thn (he pins s σ H _ I h) fun v s1 ⟨x,H1,I1,r1,q1⟩=>?_)
  refine wpAny_Slice (thn (hl pins s1 σ H1 _ I1 q1) fun vl s2 ⟨l,H2,I2,pl,q2⟩=>thn (hu pins s2 σ H2 _ I2 q2) fun vu s3 ⟨u,H3,I3,pu,q3⟩=>?_)
  rw [evalPart_none]
  refine wpAny_pure ?_
  have I4:Inv X pins σ H3 { s3 with heap:=s3.heap.push { cls:=.type "slice",data:=.fields #[vl,vu,.none] } }:=I3.kept (t':=s3.toks) fun b ob q=>Heap.get?_push_of_some _ q
  obtain ⟨T,id,hT,ht,hg⟩:=hr pins { s3 with heap:=s3.heap.push { cls:=.type "slice",data:=.fields #[vl,vu,.none] } } σ H3 x v vl vu l u s3.heap.objs.size Q I4 r1 (Heap.IsSliceOf.new ..) pl pu q3
  show wpAny (model X.prog X.w) X.A (subscriptTail e (.Slice lo hi none p2) v (.ref s3.heap.objs.size)) (EP X pins σ Q) X.xe { s3 with heap:=s3.heap.push { cls:=.type "slice",data:=.fields #[vl,vu,.none] } }
  exact tail_any (ops:=[.ref s3.heap.objs.size,v]) ht hT hg (by with_unfolding_all rfl)
noncomputable def cutV (xs:List V) (lo hi:Option Int):List V:=(xs.drop (HT.sIx xs.length 0 lo)).take (HT.sIx xs.length xs.length hi - HT.sIx xs.length 0 lo)
theorem qH1 (xs:List V) (lo hi:Option Int):(cutV xs lo hi).length≤xs.length:=by
  unfold cutV
  rw [List.length_take,List.length_drop]
  omega
noncomputable def rSlT (K:PySem.W.Frag):V→Option Int→Option Int→Hp→VK→Prop:=fun x lo hi H Q=>∃ a xs,x=.ref a∧SqT K H a xs ∧
  ¬ (HT.sIx xs.length 0 lo=0∧HT.sIx xs.length xs.length hi=xs.length)∧∀ p,H p=none→Q (.ref p) (upd H p (.tup (cutV xs lo hi)))
theorem sl_tup:SlR X (rSlT X.K):=by
  intro pins s σ H x v vl vu lo hi sl Q I rx hs pl pu h
  obtain ⟨a,xs,rfl,hx,hw,q⟩:=h
  cases rx
  obtain ⟨its,r,ht,hz⟩:=I.tuple hx
  have hlen:its.toArray.size=xs.length:=by rw [List.size_toArray];exact r.length.symm
  refine ⟨"tuple",_,PyProof.Rows.slot_tuple_getitem.lookup,ht.typeIs,?_⟩
  refine HT.getItem_tuple_cut ht hs pl pu (by rw [hlen];exact hw) ?_ (by rw [hlen];exact hz)
  rw [hlen]
  refine ⟨.ref s.heap.objs.size,_,I.laid (t':=s.toks) (o:=.tup (cutV xs lo hi)) (fun b ob q=>Heap.get?_push_of_some _ q) (Nat.le_refl _) ?_,rfl,q _ (I.hok.fresh (Nat.le_refl _))⟩
  exact ⟨Nat.le_trans (qH1 xs lo hi) hz,_,(r.drop (HT.sIx xs.length 0 lo)).take (HT.sIx xs.length xs.length hi - HT.sIx xs.length 0 lo),IsTupN.new _ _⟩
noncomputable def rCatT (K:PySem.W.Frag):R2:=fun x y H Q=>∃ a b xs ys,x=.ref a∧y=.ref b∧SqT K H a xs∧SqT K H b ys∧xs≠[]∧xs.length+ys.length≤sizeLine ∧
  (ys=[]→Q (.ref a) H)∧(ys≠[]→∀ p,H p=none→Q (.ref p) (upd H p (.tup (xs++ys))))
theorem Vals.nil_iff {xs:List V} {us:List Value} (r:Vals xs us):us=[]↔xs=[]:=by
  cases r with
  | nil=>simp
  | cons _ _=>simp
theorem op_catT:OpR X (binaryOp .Add) (rCatT X.K):=by
  intro pins s σ H x y v u Q I rx ry h
  obtain ⟨a,b,xs,ys,rfl,rfl,ha,hb,hx,hz,q1,q2⟩:=h
  cases rx
  cases ry
  obtain ⟨its,r1,p1,_⟩:=I.tuple ha
  obtain ⟨its2,r2,p2,_⟩:=I.tuple hb
  refine HT.cat_tup p1 p2 (fun z=>hx (r1.nil_iff.mp z)) (fun z=>⟨.ref a,H,I,rfl,q1 (r2.nil_iff.mp z)⟩) (fun z=>?_) (by rw [← r1.length,← r2.length];exact hz)
  refine ⟨.ref s.heap.objs.size,_,I.laid (t':=s.toks) (o:=.tup (xs++ys)) (fun b ob q=>Heap.get?_push_of_some _ q) (Nat.le_refl _) ?_,rfl,q2 (fun w=>z (r2.nil_iff.mpr w)) _ (I.hok.fresh (Nat.le_refl _))⟩
  exact ⟨by rw [List.length_append];exact hz,_,r1.append r2,IsTupN.new _ _⟩
end
end L2
namespace L2
open PySem PySem.Spec PyProof.Rows
noncomputable def ixN (n:Nat) (i:Int):Option Nat:=if 0≤i then (if i<n then some i.toNat else none) else if -(n:Int)≤i then some (i+n).toNat else none
noncomputable def atI {α:Type} (xs:List α) (i:Int):Option α:=(ixN xs.length i).bind fun j=>xs[j]?
theorem zs1 {n:Nat} {i:Int} {j:Nat} (h:ixN n i=some j):seqIndex? i n=some j∧j<n∧-(n:Int)≤i∧i<n:=by
  unfold ixN at h
  by_cases h0:0≤i
  · rw [if_pos h0] at h
    by_cases h1:i<n
    · rw [if_pos h1] at h
      have e:i.toNat=j:=Option.some.inj h
      exact ⟨by rw [seqIndex_of h0 h1,e],by omega,by omega,h1⟩
    · rw [if_neg h1] at h;cases h
  · rw [if_neg h0] at h
    by_cases h1:-(n:Int)≤i
    · rw [if_pos h1] at h
      have e:(i+n).toNat=j:=Option.some.inj h
      exact ⟨by rw [seqIndex_neg (by omega) h1,e],by omega,h1,by omega⟩
    · rw [if_neg h1] at h;cases h
theorem zz2 {α:Type} {xs:List α} {i:Int} {v:α} (h:atI xs i=some v):∃ j,seqIndex? i xs.length=some j∧xs[j]?=some v∧j<xs.length∧-(xs.length:Int)≤i∧i<xs.length:=by
  unfold atI at h
  cases e:ixN xs.length i with
  | none=>rw [e] at h;cases h
  | some j=>
    rw [e] at h
    obtain ⟨h1,h2,h3,h4⟩:=zs1 e
    exact ⟨j,h1,h,h2,h3,h4⟩
noncomputable def q74 (b:Expr):Prop:=∀ o i,subscripted b false o i=operate [o,i] (getItem o i)
noncomputable def IxR (X:Cx) (r:R2):Prop:=
  ∀ (value slice:Expr) (pins:List (Addr×Obj)) (s:Shared) (σ:St) (H:Hp) (x y:V) (v u:Value) (Q:VK),Inv X pins σ H s→RelV x v→RelV y u→r x y H Q →
    subscripted slice false v u=operate [v,u] (getItem v u)→wpAny (model X.prog X.w) X.A (subscriptTail value slice v u) (EP X pins σ Q) X.xe s
noncomputable def MtR (X:Cx) (id:String) (r:V→List V→Hp→VK→Prop):Prop:=
  ∀ (pins:List (Addr×Obj)) (s:Shared) (σ:St) (H:Hp) (x:V) (xs:List V) (v:Value) (us:List Value) (Q:VK),Inv X pins σ H s→RelV x v→Vals xs us→r x xs H Q →
    wpAny (model X.prog X.w) X.A (call (.builtin id) (v::us)) (EP X pins σ Q) X.xe s
section
variable {X:Cx} {a b:Expr} {ta tb:TE} {pos:Pos}
theorem IxR.or {r r':R2} (h:IxR X r) (h':IxR X r'):IxR X (fun x y H Q=>r x y H Q∨r' x y H Q):=by
  intro value slice pins s σ H x y v u Q I rx ry q hs
  rcases q with q | q
  · exact h value slice pins s σ H x y v u Q I rx ry q hs
  · exact h' value slice pins s σ H x y v u Q I rx ry q hs
theorem pe_ix {r:R2} (hr:IxR X r) (ha:PE X a ta) (hb:PE X b tb) (hs:q74 b):PE X (.Subscript a b pos) (tOp r ta tb):=by
  intro pins s σ H Q I h
  exact Subscript_ (binT ha hb I h fun v u s2 x y H2 I2 rx ry q=>hr a b pins s2 σ H2 x y v u Q I2 rx ry q (hs _ _))
noncomputable def rIxL (K:PySem.W.Frag):R2:=fun x y H Q=>∃ p xs i v,x=.ref p∧y=.int i∧SqL K H p xs∧atI xs i=some v∧Q v H
noncomputable def rIxT (K:PySem.W.Frag):R2:=fun x y H Q=>∃ p xs i v,x=.ref p∧y=.int i∧SqT K H p xs∧atI xs i=some v∧Q v H
theorem ix_list:IxR X (rIxL X.K):=by
  intro value slice pins s σ H x y v u Q I rx ry h hs
  obtain ⟨p,xs,i,z,rfl,rfl,hq,he,q⟩:=h
  cases rx
  obtain ⟨t,rfl⟩:=ry
  obtain ⟨its,r,pl,hz⟩:=I.list hq
  obtain ⟨j,h1,h2,h3,h4,h5⟩:=zz2 he
  obtain ⟨w,ew,rw'⟩:=r.get h2
  have hl:=r.length
  have hn:=qL0
  have fin:EP X pins σ Q w s:=⟨z,H,I,rw',q⟩
  by_cases h0:0≤i
  · have hj:i.toNat=j:=by
      rw [seqIndex_of h0 h5] at h1
      exact Option.some.inj h1
    exact item_listR pl.isList h0 (by omega) (by rw [hj];simpa using ew) fin hs
  · have hj:(i+(its.toArray.size:Int)).toNat=j:=by
      rw [seqIndex_neg (by omega) h4] at h1
      rw [List.size_toArray,← hl]
      exact Option.some.inj h1
    exact subscriptTail_builtinR (x:=w) pl.isList.typeIs slot_list_getitem.lookup
      (wpAny_getItem_list_neg (Q:=fun r s'=>r=w∧EP X pins σ Q r s') pl.isList (by omega) (by rw [List.size_toArray] <;> omega) (by omega) (by rw [hj];simpa using ew) ⟨rfl,fin⟩) hs
theorem ix_tup:IxR X (rIxT X.K):=by
  intro value slice pins s σ H x y v u Q I rx ry h hs
  obtain ⟨p,xs,i,z,rfl,rfl,hq,he,q⟩:=h
  cases rx
  obtain ⟨t,rfl⟩:=ry
  obtain ⟨its,r,pl,hz⟩:=I.tuple hq
  obtain ⟨j,h1,h2,h3,h4,h5⟩:=zz2 he
  obtain ⟨w,ew,rw'⟩:=r.get h2
  have hl:=r.length
  have hn:=qL0
  have fin:EP X pins σ Q w s:=⟨z,H,I,rw',q⟩
  exact subscriptTail_builtinR (x:=w) pl.typeIs slot_tuple_getitem.lookup
    (getItem_tuple (j:=j) (Q:=fun r s'=>r=w∧EP X pins σ Q r s') pl (by omega) (by omega) (by rw [List.size_toArray,← hl];exact h1) (by simpa using ew) ⟨rfl,fin⟩) hs
theorem zf9 (its:List Value) (n j:Nat) (u:Value):Obj.mapSeq (·.setIfInBounds j u) { cls:=.type "list",data:=.seq its.toArray n } = { cls:=.type "list",data:=.seq (its.set j u).toArray n }:=by
  simp [Obj.mapSeq]
theorem Inv.lst {pins:List (Addr×Obj)} {σ:St} {H:Hp} {s:Shared} {p:Addr} {xs:List V} (I:Inv X pins σ H s) (h:H p=some (.lst xs)) :
    ∃ (its:List Value) (n:Nat),Vals xs its∧s.heap.get? p=some { cls:=.type "list",data:=.seq its.toArray n }∧xs.length≤sizeLine:=by
  obtain ⟨z,its,n,r,e⟩:=I.hok p _ h
  exact ⟨its,n,r,e,z⟩
theorem Inv.lstUpd {pins:List (Addr×Obj)} {σ:St} {H:Hp} {s:Shared} {p:Addr} {xs ys:List V} {its its':List Value} {n n':Nat} {f:Obj→Obj} (I:Inv X pins σ H s) (h:H p=some (.lst xs))
    (ho:s.heap.get? p=some { cls:=.type "list",data:=.seq its.toArray n }) (hf:f { cls:=.type "list",data:=.seq its.toArray n } = { cls:=.type "list",data:=.seq its'.toArray n' }) (r:Vals ys its') (hz:ys.length≤sizeLine) (t:Nat) :
    Inv X pins σ (upd H p (.lst ys)) { s with heap:=s.heap.update p f,toks:=t }:=by
  have e:(s.heap.update p f).get? p=some { cls:=.type "list",data:=.seq its'.toArray n' }:=by
    rw [Heap.get?_update_self f ho (by rw [hf] <;> rfl),hf]
  refine I.write (x:=p) (e:=p) (by rw [h];trivial) (.inl rfl) (fun b u hb q=>(Heap.get?_update_other _ _ (Ne.symm hb)).trans q) ⟨_,e⟩ ?_
  exact ⟨hz,its',n',r,e⟩
noncomputable def rSetL:V→V→V→Hp→(Hp→Prop)→Prop:=fun o i v H Q=>∃ p xs k j,o=.ref p∧i=.int k∧H p=some (.lst xs)∧ixN xs.length k=some j∧Q (upd H p (.lst (xs.set j v)))
theorem set_list:PSet X rSetL:=by
  intro pins s σ H o i v ov iv u Q I ro ri rv h
  obtain ⟨p,xs,k,j,rfl,rfl,hp,hj,q⟩:=h
  cases ro
  obtain ⟨t,rfl⟩:=ri
  obtain ⟨its,n,r,ho,hz⟩:=I.lst hp
  obtain ⟨h1,h2,h3,h4⟩:=zs1 hj
  have hl:=r.length
  have hn:=qL0
  have I':Inv X pins σ (upd H p (.lst (xs.set j v))) { s with heap:=s.heap.update p (Obj.mapSeq (·.setIfInBounds j u)) }:=
    I.lstUpd hp ho (zf9 its n j u) (r.set rv j) (by rw [List.length_set];exact hz) s.toks
  by_cases h0:0≤k
  · have hk:k.toNat=j:=by
      rw [seqIndex_of h0 h4] at h1
      exact Option.some.inj h1
    exact PySem.W.ki_setAt ho h0 (by omega) (by rw [List.size_toArray,← hl];exact h4) (by rw [hk];exact ⟨_,I',q⟩)
  · have hk:(k+(its.toArray.size:Int)).toNat=j:=by
      rw [seqIndex_neg (by omega) h3] at h1
      rw [List.size_toArray,← hl]
      exact Option.some.inj h1
    exact PySem.W.ki_setBack ho (by omega) (by rw [List.size_toArray,← hl];exact h3) (by omega) (by rw [hk];exact ⟨_,I',q⟩)
theorem qR8 (lo hi:Option Int) (n:Nat):(sliceBounds lo hi none n).1=((HT.sIx n 0 lo:Nat):Int)∧(sliceBounds lo hi none n).2.1=((HT.sIx n n hi:Nat):Int)∧(sliceBounds lo hi none n).2.2=1:=by
  refine ⟨?_,?_,rfl⟩
  · cases lo with
    | none=>simp [sliceBounds,HT.sIx]
    | some i=>
      simp only [sliceBounds,HT.sIx,Option.getD_none,show (1:Int)>0 by decide,if_true]
      by_cases h:i<0
      · simp only [h,if_true] <;> omega
      · simp only [h,if_false] <;> omega
  · cases hi with
    | none=>simp [sliceBounds,HT.sIx]
    | some i=>
      simp only [sliceBounds,HT.sIx,Option.getD_none,show (1:Int)>0 by decide,if_true]
      by_cases h:i<0
      · simp only [h,if_true] <;> omega
      · simp only [h,if_false] <;> omega
theorem qN0 (its:List Value) (lo hi:Option Int):slicePick its.toArray lo hi none=((its.drop (HT.sIx its.length 0 lo)).take (HT.sIx its.length its.length hi - HT.sIx its.length 0 lo)).toArray:=by
  obtain ⟨h1,h2,h3⟩:=qR8 lo hi its.toArray.size
  unfold slicePick
  rw [h1,h2,h3]
  simp only [sliceRange_one,pick_run,List.size_toArray] <;> rfl
noncomputable def rSlL (K:PySem.W.Frag):V→Option Int→Option Int→Hp→VK→Prop:=fun x lo hi H Q=>∃ a xs,x=.ref a∧SqL K H a xs∧∀ p,H p=none→Q (.ref p) (upd H p (.lst (cutV xs lo hi)))
theorem sl_list:SlR X (rSlL X.K):=by
  intro pins s σ H x v vl vu lo hi sl Q I rx hs pl pu h
  obtain ⟨a,xs,rfl,hx,q⟩:=h
  cases rx
  obtain ⟨its,r,ht,hz⟩:=I.list hx
  have hlen:=r.length
  refine ⟨"list",_,slot_list_getitem.lookup,ht.isList.typeIs,?_⟩
  refine wpAny_getItem_list_slice ht.isList hs pl pu .none (by simp) ?_ (by rw [List.size_toArray] <;> omega)
  rw [qN0,← hlen]
  refine ⟨.ref s.heap.objs.size,_,I.laid (t':=s.toks) (o:=.lst (cutV xs lo hi)) (fun b ob q=>Heap.get?_push_of_some _ q) (Nat.le_refl _) ?_,rfl,q _ (I.hok.fresh (Nat.le_refl _))⟩
  exact ⟨Nat.le_trans (qH1 xs lo hi) hz,_,0,(r.drop (HT.sIx xs.length 0 lo)).take (HT.sIx xs.length xs.length hi - HT.sIx xs.length 0 lo),Heap.get?_push_size _ rfl⟩
theorem call_len_seq:CallR X (.builtin "len") (fun xs H Q=>∃ p ys,xs=[.ref p]∧(SqL X.K H p ys∨SqT X.K H p ys)∧Q (.int ys.length) H):=by
  intro pins s σ H xs us Q I r h
  obtain ⟨p,ys,rfl,hq,q⟩:=h
  obtain ⟨u,rfl,rx⟩:=qR0 r
  cases rx
  have hn:=qL0
  rcases hq with hq | hq
  · obtain ⟨its,r',pl,hz⟩:=I.list hq
    have hlen:=r'.length
    exact Calls.call_len_list pl.isList (by simp only [List.size_toArray] <;> omega) ⟨.int ys.length,H,I.tok _,⟨s.toks+1,by rw [List.size_toArray,hlen]⟩,q⟩
  · obtain ⟨its,r',pl,hz⟩:=I.tuple hq
    have hlen:=r'.length
    exact len_tuple pl (by simp only [List.size_toArray] <;> omega) ⟨.int ys.length,H,I.tok _,⟨s.toks+1,by rw [List.size_toArray,hlen]⟩,q⟩
theorem qZ8:CallR X (.builtin "len") (fun xs H Q=>∃ z,xs=[.str z]∧z.length≤sizeLine∧Q (.int z.length) H):=by
  intro pins s σ H xs us Q I r h
  obtain ⟨z,rfl,hz,q⟩:=h
  obtain ⟨u,rfl,t,rfl⟩:=qR0 r
  have hn:=qL0
  exact len_str (by omega) ⟨.int z.length,H,I.tok _,⟨_,rfl⟩,q⟩
theorem CallR.or {f:Value} {r r':List V→Hp→VK→Prop} (h:CallR X f r) (h':CallR X f r'):CallR X f (fun xs H Q=>r xs H Q∨r' xs H Q):=by
  intro pins s σ H xs us Q I rs q
  rcases q with q | q
  · exact h pins s σ H xs us Q I rs q
  · exact h' pins s σ H xs us Q I rs q
theorem qZ7:CallR X (.type "list") (fun xs H Q=>∃ p ys,xs=[.ref p]∧(SqL X.K H p ys∨SqT X.K H p ys)∧∀ l,H l=none→Q (.ref l) (upd H l (.lst ys))):=by
  intro pins s σ H xs us Q I r h
  obtain ⟨p,ys,rfl,hq,q⟩:=h
  obtain ⟨u,rfl,rx⟩:=qR0 r
  cases rx
  have fin:∀ (its:List Value),Vals ys its→ys.length≤sizeLine→∀ (h':Heap) (c':Nat),(∀ b o',s.heap.get? b=some o'→h'.get? b=some o') →
      h'.get? s.heap.objs.size=some { cls:=.type "list",dict:=none,data:=.seq its.toArray c',slots:=#[] }→EP X pins σ Q (.ref s.heap.objs.size) { s with heap:=h' }:=fun its r' hz h' c' kp e=>
    ⟨.ref s.heap.objs.size,_,I.laid (t':=s.toks) kp (Nat.le_refl _) (show ObjOk X.prog X.w _ h' _ (.lst ys) from ⟨hz,its,c',r',e⟩),rfl,q _ (I.hok.fresh (Nat.le_refl _))⟩
  rcases hq with hq | hq
  · obtain ⟨its,r',pl,hz⟩:=I.list hq
    have hlen:=r'.length
    obtain ⟨o,ho,hc,n,hd⟩:=pl.isList
    exact call_list_seq p (.inl rfl) ho hc hd (fun h' c' kp e=>fin its r' hz h' c' kp e) (by simp only [List.size_toArray] <;> omega)
  · obtain ⟨its,r',pl,hz⟩:=I.tuple hq
    have hlen:=r'.length
    obtain ⟨o,ho,hc,n,hd⟩:=pl
    exact call_list_seq p (.inr rfl) ho hc hd (fun h' c' kp e=>fin its r' hz h' c' kp e) (by simp only [List.size_toArray] <;> omega)
theorem qQ4:CallR X (.type "tuple") (fun xs H Q=>∃ p ys,xs=[.ref p]∧((SqL X.K H p ys∧∀ l,H l=none→Q (.ref l) (upd H l (.tup ys)))∨(SqT X.K H p ys∧Q (.ref p) H))):=by
  intro pins s σ H xs us Q I r h
  obtain ⟨p,ys,rfl,h⟩:=h
  obtain ⟨u,rfl,rx⟩:=qR0 r
  cases rx
  rcases h with ⟨hq,q⟩ | ⟨hq,q⟩
  · obtain ⟨its,r',pl,hz⟩:=I.list hq
    have hlen:=r'.length
    refine call_tuple_list pl.isList (fun h' kp=>?_) (by simp only [List.size_toArray] <;> omega)
    have I1:Inv X pins σ H { s with heap:=h' }:=I.kept (t':=s.toks) kp
    have I2:Inv X pins σ (upd H h'.objs.size (.tup ys)) { s with heap:=h'.push { cls:=.type "tuple",data:=.seq its.toArray } }:=
      I1.laid (t':=s.toks) (fun b o e=>Heap.get?_push_of_some _ e) (Nat.le_refl _) (show ObjOk X.prog X.w _ _ _ (.tup ys) from ⟨hz,its,r',IsTupN.new _ _⟩)
    exact ⟨.ref h'.objs.size,_,I2,rfl,q _ (I1.hok.fresh (Nat.le_refl _))⟩
  · obtain ⟨its,r',pl,hz⟩:=I.tuple hq
    exact call_tuple_same pl ⟨.ref p,H,I,rfl,q⟩
noncomputable def tyV (K:PySem.W.Frag) (T:String) (x:V) (H:Hp):Prop:=match x with
  | .str _=>T = "str"
  | .int _=>T = "int"
  | .ref p=>(T = "list"∧∃ xs,SqL K H p xs)∨(T = "tuple"∧∃ o,K.lookup p=some o∧o.cls=.type "tuple"∧o.dict=none) ∨
      (T = "dict"∧((∃ kvs,H p=some (.dK kvs))∨∃ kvs,H p=some (.dT kvs)))∨(T = "set"∧∃ S n,H p=some (.set S n))
  | _=>False
theorem tyV_is {pins:List (Addr×Obj)} {σ:St} {H:Hp} {s:Shared} {T:String} {x:V} {v:Value} (I:Inv X pins σ H s) (r:RelV x v) (ty:tyV X.K T x H) :
    s.TypeIs v T∧∀ a,v=.ref a→∃ ob,s.heap.get? a=some ob∧ob.dict=none:=by
  cases x with
  | str z=>
    obtain ⟨t,rfl⟩:=r
    cases (show T = "str" from ty)
    exact ⟨typeIs_str s z t,fun _ e=>nomatch e⟩
  | int i=>
    obtain ⟨t,rfl⟩:=r
    cases (show T = "int" from ty)
    exact ⟨typeIs_int s i t,fun _ e=>nomatch e⟩
  | ref p=>
    cases r
    rcases ty with ⟨rfl,xs,hq⟩ | ⟨rfl,o,hk,hc,hd⟩ | ⟨rfl,hk⟩ | ⟨rfl,S,n,hk⟩
    · obtain ⟨its,_,pl,_⟩:=I.list hq
      refine ⟨pl.isList.typeIs,fun a e=>?_⟩
      cases e
      obtain ⟨o,n,e,c,hd,_⟩:=pl
      exact ⟨o,e,hd⟩
    · refine ⟨⟨o,I.kIn p o hk,hc⟩,fun a e=>?_⟩
      cases e
      exact ⟨o,I.kIn _ o hk,hd⟩
    · have z:∃ o,s.heap.get? p=some o∧o.ExactDict:=by
        rcases hk with ⟨kvs,hk⟩ | ⟨kvs,hk⟩
        · obtain ⟨_,_,_,_,o,_,_,e,ex,_⟩:=I.hok p _ hk
          exact ⟨o,e,ex⟩
        · obtain ⟨_,_,_,_,o,_,_,e,ex,_⟩:=I.hok p _ hk
          exact ⟨o,e,ex⟩
      obtain ⟨o,e,ex⟩:=z
      refine ⟨⟨o,e,ex.1⟩,fun a e2=>?_⟩
      cases e2
      exact ⟨o,e,ex.2.1⟩
    · obtain ⟨o,_,_,_,e,ex,_⟩:=I.hok p _ hk
      refine ⟨⟨o,e,ex.1⟩,fun a e2=>?_⟩
      cases e2
      exact ⟨o,e,ex.2.1⟩
  | _=>exact False.elim ty
noncomputable def tBM (K:PySem.W.Frag) (T:String) (r:V→List V→Hp→VK→Prop) (to:TE) (t:TA):TE:=fun σ H Q=>to σ H fun x H1=>tyV K T x H1∧t σ H1 fun xs H2=>r x xs H2 Q
variable {o e:Expr} {es:List Expr} {to:TE} {t:TA} {name:Str} {apos cpos:Pos} {T id:String} {r:V→List V→Hp→VK→Prop}
theorem pe_bm (pa:PlainAttrs T) (slot:Slot T name id) (hty:typeOf (.builtin id)=pure (.type "method_descriptor")) (hm:MtR X id r) (ho:PE X o to) (ha:PA X (e::es) t)
    (hbase:attributeBase o name X.env (eval o X.env)=eval o X.env:=by rfl)
    (hfew:((backTo cpos (starEach (e::es) X.env)).all (fun x=>!x.1)&&(backToKw cpos (keywordEach [] X.env)).all (fun x=>x.1.isSome)
      && decide ((e::es).length+([]:List Keyword).length+(if ([]:List Keyword).isEmpty then 0 else 1)<30))=true:=by rfl)
    (hline:(apos.endLine == cpos.line)=true:=by rfl) (hs:starEach (e::es) X.env=(false,eval e X.env)::starEach es X.env:=by rfl) (hplain:(backTo cpos (starEach es X.env)).any (·.1)=false:=by rfl) :
    PE X (.Call (.Attribute o name apos) (e::es) [] cpos) (tBM X.K T r to t):=by
  intro pins s σ H Q I h
  refine wpAny_Call_method_late hbase hfew hline rfl (thn (ho pins s σ H _ I h) fun v s1 ⟨x,H1,I1,r1,ty,q1⟩=>?_)
  obtain ⟨h1,h2⟩:=tyV_is I1 r1 ty
  refine ⟨T,id,pa,slot,hty,h1,h2,?_⟩
  have hA:=ha cpos pins s1 σ H1 _ I1 q1
  rw [hs] at hA ⊢
  refine Calls.callWith_builtin (by show (false||(backTo cpos (starEach es X.env)).any (·.1))=false;rw [hplain] <;> rfl) (Calls.evalArgs_plain ?_)
  exact thn hA fun us s2 ⟨vs,H2,I2,r2,q2⟩=>hm pins s2 σ H2 x vs v us Q I2 r1 r2 q2
end
end L2
namespace L2
open PySem PySem.Spec PyProof.Rows
noncomputable def MtM (X:Cx) (id:String) (r:V→List V→Hp→VK→Prop):Prop:=
  ∀ (pins:List (Addr×Obj)) (s:Shared) (σ:St) (H:Hp) (x:V) (xs:List V) (v:Value) (us:List Value) (Q:VK),Inv X pins σ H s→RelV x v→Vals xs us→r x xs H Q →
    wpAny (model X.prog X.w) X.A (call (.builtin id) (v::us)) (EP X pins σ Q) X.xe s
theorem Vals.one:∀ {x:V} {us:List Value},Vals [x] us→∃ u,us=[u]∧RelV x u
  | _,_,.cons r .nil=>⟨_,rfl,r⟩
theorem Vals.two:∀ {x y:V} {us:List Value},Vals [x,y] us→∃ u v,us=[u,v]∧RelV x u∧RelV y v
  | _,_,_,.cons r (.cons q .nil)=>⟨_,_,rfl,r,q⟩
theorem Vals.rep {xs:List V} {us:List Value} (h:Vals xs us):∀ k:Nat,Vals (List.replicate k xs).flatten (List.replicate k us).flatten
  | 0=>.nil
  | k+1=>by
    rw [List.replicate_succ,List.replicate_succ,List.flatten_cons,List.flatten_cons]
    exact Vals.append h (Vals.rep h k)
theorem qY4 (its:List Value):∀ (k:Nat) (acc:List Value),
    List.foldl (fun x1 x2=>x1++x2) acc.toArray (List.replicate k its.toArray)=(acc++(List.replicate k its).flatten).toArray
  | 0,acc=>by simp
  | k+1,acc=>by
    have e:acc.toArray++its.toArray=(acc++its).toArray:=by simp
    have e2:(acc++its)++(List.replicate k its).flatten=acc++(List.replicate (k+1) its).flatten:=by
      rw [List.replicate_succ,List.flatten_cons,List.append_assoc]
    rw [← e2,← qY4 its k (acc++its),← e,List.replicate_succ,List.foldl_cons]
section
variable {X:Cx} {pins:List (Addr×Obj)} {σ:St} {H:Hp} {s:Shared} {l b:Addr} {xs ys zs:List V}
theorem Inv.lset {its its':List Value} {n:Nat} {f:Array Value→Array Value} {t':Nat} (I:Inv X pins σ H s) (hH:H l=some (.lst xs))
    (e:s.heap.get? l=some { cls:=.type "list",data:=.seq its.toArray n }) (hf:f its.toArray=its'.toArray) (hv:Vals ys its') (hz:ys.length≤sizeLine) :
    Inv X pins σ (upd H l (.lst ys)) { s with heap:=s.heap.update l (Obj.mapSeq f),toks:=t' }:=by
  have q:=PySem.IsL.update e f
  rw [hf] at q
  refine I.write (x:=l) (e:=l) (by rw [hH];exact trivial) (.inl rfl) (fun b' u hb hu=>(Heap.get?_update_other s.heap (Obj.mapSeq f) (Ne.symm hb)).trans hu) ⟨_,q⟩ ?_
  exact ⟨hz,its',_,hv,q⟩
theorem Inv.lnew {its:List Value} {t':Nat} (I:Inv X pins σ H s) (hv:Vals ys its) (hz:ys.length≤sizeLine) :
    Inv X pins σ (upd H s.heap.objs.size (.lst ys)) { s with heap:=s.heap.push { cls:=.type "list",data:=.seq its.toArray },toks:=t' }:=
  I.laid (fun _ _ q=>Heap.get?_push_of_some _ q) (Nat.le_refl _) ⟨hz,its,0,hv,Heap.get?_push_size _ rfl⟩
theorem Inv.fresh (I:Inv X pins σ H s):H s.heap.objs.size=none:=I.hok.fresh (Nat.le_refl _)
theorem Inv.lstM (I:Inv X pins σ H s) (hH:H l=some (.lst xs)):xs.length≤sizeLine∧∃ (its:List Value) (n:Nat),Vals xs its∧xs.length=its.length∧s.heap.get? l=some { cls:=.type "list",data:=.seq its.toArray n }:=by
  obtain ⟨z,its,n,r,e⟩:=I.hok l _ hH
  exact ⟨z,its,n,r,r.length,e⟩
theorem q92 {n:Nat} (h:n≤sizeLine):Builtin.List.listTooLong n=false:=by
  unfold Builtin.List.listTooLong
  exact decide_eq_false (by omega)
end
section
variable {X:Cx}
noncomputable def rAppend:V→List V→Hp→VK→Prop:=fun x vs H Q=>∃ l xs y,x=.ref l∧vs=[y]∧H l=some (.lst xs)∧xs.length<sizeLine∧Q .non (upd H l (.lst (xs++[y])))
theorem qV2:MtM X "list.append" rAppend:=by
  intro pins s σ H x vs v us Q I rx rv h
  obtain ⟨l,xs,y,rfl,rfl,hH,hz,q⟩:=h
  cases rx
  obtain ⟨u,rfl,ru⟩:=rv.one
  obtain ⟨z,its,n,r,hl,e⟩:=I.lstM hH
  refine call_meets F.slot_list_append ⟨_,e,rfl⟩ F.entry_list_append (F.args_list_append_2 _ _) (PySem.list_append l its.toArray n u (by rw [List.size_toArray];omega)) ⟨e,?_⟩
  refine ⟨.non,_,I.lset (its':=its++[u]) hH e (by simp) (r.append (.cons ru .nil)) ?_,rfl,q⟩
  rw [List.length_append,List.length_singleton]
  omega
noncomputable def rExtend:V→List V→Hp→VK→Prop:=fun x vs H Q=>∃ l b xs zs,x=.ref l∧vs=[.ref b]∧H l=some (.lst xs)∧H b=some (.lst zs)∧xs.length+zs.length≤sizeLine∧Q .non (upd H l (.lst (xs++zs)))
theorem zn4:MtM X "list.extend" rExtend:=by
  intro pins s σ H x vs v us Q I rx rv h
  obtain ⟨l,b,xs,zs,rfl,rfl,hH,hB,hz,q⟩:=h
  cases rx
  obtain ⟨u,rfl,ru⟩:=rv.one
  cases ru
  obtain ⟨z,its,n,r,hl,e⟩:=I.lstM hH
  obtain ⟨z2,its2,n2,r2,hl2,e2⟩:=I.lstM hB
  have hsz:its.toArray.size+its2.toArray.size≤sizeLine:=by rw [List.size_toArray,List.size_toArray];omega
  have hlong:¬ (!its.toArray.isEmpty&&Builtin.List.listTooLong (its.toArray.size+its2.toArray.size))=true:=by
    rw [q92 hsz,Bool.and_false]
    exact Bool.false_ne_true
  refine call_meets F.slot_list_extend ⟨_,e,rfl⟩ F.entry_list_extend (F.args_list_extend_2 _ _)
    (AutoSeq1.list_extend_list_list_0 l its.toArray n b its2.toArray n2 hlong (by rw [List.size_toArray];omega) (by omega)) ⟨e,e2,?_⟩
  refine ⟨.non,_,I.lset (its':=its++its2) hH e (by simp) (r.append r2) ?_,rfl,q⟩
  rw [List.length_append]
  omega
noncomputable def rCat:R2:=fun x y H Q=>∃ l b xs zs,x=.ref l∧y=.ref b∧H l=some (.lst xs)∧H b=some (.lst zs)∧xs.length+zs.length≤sizeLine∧∀ p,H p=none→Q (.ref p) (upd H p (.lst (xs++zs)))
theorem zl9:OpR X (binaryOp .Add) rCat:=by
  intro pins s σ H x y v u Q I rx ry h
  obtain ⟨l,b,xs,zs,rfl,rfl,hH,hB,hz,q⟩:=h
  cases rx
  cases ry
  obtain ⟨z,its,n,r,hl,e⟩:=I.lstM hH
  obtain ⟨z2,its2,n2,r2,hl2,e2⟩:=I.lstM hB
  refine PySem.P.add_list e e2 ?_ (by rw [List.size_toArray,List.size_toArray];omega)
  have ea:its.toArray++its2.toArray=(its++its2).toArray:=by simp
  rw [ea]
  exact ⟨.ref _,_,I.lnew (t':=s.toks) (r.append r2) (by rw [List.length_append];omega),rfl,q _ I.fresh⟩
noncomputable def rRep:R2:=fun x y H Q=>∃ l k xs,x=.ref l∧y=.int k∧H l=some (.lst xs)∧-(2 ^ 63)≤k∧k<2 ^ 63∧xs.length * k.toNat≤sizeLine ∧
  ∀ p,H p=none→Q (.ref p) (upd H p (.lst (List.replicate k.toNat xs).flatten))
theorem q49 {α:Type} (xs:List α) (k:Nat):(List.replicate k xs).flatten.length=k * xs.length:=by
  induction k with
  | zero=>simp
  | succ k ih=>rw [List.replicate_succ,List.flatten_cons,List.length_append,ih,Nat.succ_mul,Nat.add_comm]
theorem op_rep:OpR X (binaryOp .Mult) rRep:=by
  intro pins s σ H x y v u Q I rx ry h
  obtain ⟨l,k,xs,rfl,rfl,hH,h1,h2,hz,q⟩:=h
  cases rx
  obtain ⟨t,rfl⟩:=ry
  obtain ⟨z,its,n,r,hl,e⟩:=I.lstM hH
  have hlen:its.toArray.size * k.toNat≤sizeLine:=by rw [List.size_toArray,← hl];exact hz
  have hcap:¬ its.toArray.size * k.toNat>(2 ^ 63 - 1) / 8:=by
    have:(sizeLine:Nat)≤(2 ^ 63 - 1) / 8:=by decide
    omega
  have hfit:¬ (!Builtin.List.listFitsIndex k)=true:=by
    rw [fitsIndex_both h1 h2]
    exact Bool.false_ne_true
  have hlong:¬ Builtin.List.listTooLong (its.toArray.size * k.toNat)=true:=by
    rw [q92 hlen]
    exact Bool.false_ne_true
  have hnew:List.foldl (fun x1 x2=>x1++x2) #[] (List.replicate (if its.toArray.isEmpty=true then 0 else k.toNat) its.toArray)=(List.replicate k.toNat its).flatten.toArray:=by
    have f0:∀ m:Nat,List.foldl (fun x1 x2=>x1++x2) #[] (List.replicate m its.toArray)=(List.replicate m its).flatten.toArray:=fun m=>by
      have:=qY4 its m []
      rw [List.nil_append] at this
      exact this
    rw [f0]
    cases its with
    | nil=>simp
    | cons a r'=>rw [if_neg (by simp)]
  refine wpAny_binaryOp_repeat_ref (T:="list") (U:="int") (by decide) ⟨_,e,rfl⟩ (fun s'=>typeIs_int s' k t) noFill_list_mul F.fills_int_mul F.slot_int_rmul repeat_list F.slot_int_index.lookup
    (call_meets F.slot_int_rmul (typeIs_int s k t) F.entry_int_rmul (F.args_int_rmul_2 _ _) (int___rmul___int_list k t l its.toArray n)
      ⟨e,rfl,⟨_,e,rfl⟩,call_meets F.slot_list_mul ⟨_,e,rfl⟩ F.entry_list_mul (F.args_list_mul_2 _ _) (AutoListH.list___mul___list_int_3 l its.toArray n k t hfit hcap hlong) ⟨e,?_⟩⟩)
  rw [hnew]
  exact ⟨.ref _,_,I.lnew (t':=s.toks) (r.rep k.toNat) (by rw [q49,Nat.mul_comm];exact hz),rfl,q _ I.fresh⟩
end
section
variable {prog:Program} {w:World} {A:Around} {E:Value→Shared→Prop} {s:Shared}
end
section
variable {X:Cx}
end
end L2
namespace L2
open PySem PySem.Spec PyProof.Rows
section
variable {κ:Type} [DecidableEq κ]
noncomputable def valV (kvs:List (κ×V)) (k:κ):Option V:=(kvs.find? fun kv=>decide (kv.1=k)).map (·.2)
noncomputable def putK (kvs:List (κ×V)) (k:κ) (v:V):List (κ×V):=
  if (kvs.any fun kv=>decide (kv.1=k))=true then kvs.map (fun kv=>if kv.1=k then (kv.1,v) else kv) else kvs++[(k,v)]
theorem qM7 {p:κ×V} {r:List (κ×V)} {k:κ} (e:p.1=k):valV (p::r) k=some p.2:=by simp [valV,List.find?_cons,e]
theorem qM8 {p:κ×V} {r:List (κ×V)} {k:κ} (e:¬ p.1=k):valV (p::r) k=valV r k:=by simp [valV,List.find?_cons,e]
theorem q48 (kvs:List (κ×V)) (k:κ) (v:V):(putK kvs k v).length≤kvs.length+1:=by
  unfold putK
  split
  · rw [List.length_map];omega
  · rw [List.length_append,List.length_cons,List.length_nil];omega
theorem KV.val {kvs:List (κ×V)} {vs:List (κ×Value)} (r:KV kvs vs) (k:κ):RelO (valV kvs k) (valueAt vs k):=by
  unfold KV at r
  induction r with
  | nil=>exact True.intro
  | @cons p q ps qs h t ih=>
    obtain ⟨h1,h2⟩:=h
    by_cases e:p.1=k
    · have e':q.1=k:=h1.symm.trans e
      have b:valueAt (q::qs) k=some q.2:=by simp [valueAt,List.find?_cons,e']
      rw [qM7 e,b];exact h2
    · have e':¬ q.1=k:=fun z=>e (h1.trans z)
      have b:valueAt (q::qs) k=valueAt qs k:=by simp [valueAt,List.find?_cons,e']
      rw [qM8 e,b];exact ih
theorem KV.any {kvs:List (κ×V)} {vs:List (κ×Value)} (r:KV kvs vs) (k:κ):(kvs.any fun kv=>decide (kv.1=k))=vs.any fun kv=>decide (kv.1=k):=by
  unfold KV at r
  induction r with
  | nil=>rfl
  | cons h t ih=>rw [List.any_cons,List.any_cons,ih,h.1]
theorem KV.repl {kvs:List (κ×V)} {vs:List (κ×Value)} (r:KV kvs vs) (k:κ) {y:V} {u:Value} (ry:RelV y u) :
    KV (kvs.map fun kv=>if kv.1=k then (kv.1,y) else kv) (vs.map fun kv=>if kv.1=k then (kv.1,u) else kv):=by
  unfold KV at r ⊢
  induction r with
  | nil=>exact .nil
  | @cons p q ps qs h t ih=>
    rw [List.map_cons,List.map_cons]
    refine .cons ?_ ih
    obtain ⟨h1,h2⟩:=h
    by_cases e:p.1=k
    · rw [if_pos e,if_pos (h1.symm.trans e)];exact ⟨h1,ry⟩
    · rw [if_neg e,if_neg (fun z=>e (h1.trans z))];exact ⟨h1,h2⟩
theorem KV.put {kvs:List (κ×V)} {vs:List (κ×Value)} (r:KV kvs vs) (k:κ) {y:V} {u:Value} (ry:RelV y u):KV (putK kvs k y) (stored vs k u):=by
  unfold putK stored
  rw [r.any k]
  by_cases e:(vs.any fun kv=>decide (kv.1=k))=true
  · rw [if_pos e,if_pos e];exact r.repl k ry
  · rw [if_neg e,if_neg e];exact Paired.snoc r ⟨rfl,ry⟩
theorem KV.length {kvs:List (κ×V)} {vs:List (κ×Value)} (r:KV kvs vs):kvs.length=vs.length:=Paired.length r
end
theorem kV_is {P:Program} {w:World} {k:Key} {u:Value} (r:RelV (kV k) u):(qi7 P w).is k u=true:=by
  cases k with
  | inl i=>obtain ⟨t,e⟩:=(show ∃ t,u=Value.int i t from r);subst e;exact q32 P w i t
  | inr x=>obtain ⟨t,e⟩:=(show ∃ t,u=Value.str x t from r);subst e;exact q31 P w x t
theorem qX8 {P:Program} {w:World}:∀ {ks:List Key} {us:List Value},Vals (ks.map kV) us→ItemsAre (qi7 P w) ks us
  | [],_,r=>by rw [List.map_nil] at r;cases r;exact .nil
  | k::ks,_,r=>by
    rw [List.map_cons] at r
    cases r with
    | cons h t=>exact .cons (kV_is h) (qX8 t)
noncomputable abbrev KT (H:Hp):List (List Key×V)→List (List Key×Addr×Value)→Prop:=Paired fun p q=>p.1=q.1∧H q.2.1=some (.tup (p.1.map kV))∧RelV p.2 q.2.2
theorem KT.val {H:Hp} {kvs:List (List Key×V)} {xs:List (List Key×Addr×Value)} (r:KT H kvs xs) (k:List Key):RelO (valV kvs k) ((atKey xs k).map (·.2)):=by
  induction r with
  | nil=>exact True.intro
  | @cons p q ps qs h t ih=>
    obtain ⟨h1,_,h2⟩:=h
    by_cases e:p.1=k
    · have e':q.1=k:=h1.symm.trans e
      have b:atKey (q::qs) k=some q.2:=by simp [atKey,List.find?_cons,e']
      rw [qM7 e,b];exact h2
    · have e':¬ q.1=k:=fun z=>e (h1.trans z)
      have b:atKey (q::qs) k=atKey qs k:=by simp [atKey,List.find?_cons,e']
      rw [qM8 e,b];exact ih
section
variable {P:Program} {w:World} {H:Hp} {h:Heap} {a:Addr}
theorem rd_of {u:HO} (ok:HOk P w H h) (e:Rd H a u):ObjOk P w H h a u:=e.ok ok
theorem dk_rd {kvs:List (Key×V)} (ok:HOk P w H h) (e:Rd H a (.dK kvs)):kvs.length≤sizeLine∧(a == sysModules)=false∧∃ vs,KV kvs vs∧h.DictOf (qi7 P w) a vs:=
  show ObjOk P w H h a (.dK kvs) from rd_of ok e
theorem dk_of {kvs:List (Key×V)} (ok:HOk P w H h) (e:H a=some (.dK kvs)):kvs.length≤sizeLine∧(a == sysModules)=false∧∃ vs,KV kvs vs∧h.DictOf (qi7 P w) a vs:=dk_rd ok (.inl e)
theorem key_of {ks:List Key} (ok:HOk P w H h) (e:H a=some (.tup (ks.map kV))):(tupleKind (qi7 P w)).is h ks a:=by
  obtain ⟨_,its,r,o,h1,h2,⟨n,h3⟩,_⟩:=(show ObjOk P w H h a (.tup (ks.map kV)) from ok a _ e)
  exact ⟨o,its.toArray,n,h1,h2,h3,by simpa using qX8 r⟩
theorem dt_rd {kvs:List (List Key×V)} (ok:HOk P w H h) (e:Rd H a (.dT kvs)):kvs.length≤sizeLine∧(a == sysModules)=false ∧
    ∃ xs,KT H kvs xs∧h.DictOfH (tupleKind (qi7 P w)) a xs:=by
  obtain ⟨z,y,xs,r,o,es,ep,h1,h2,h3,h4,h5⟩:=(show ObjOk P w H h a (.dT kvs) from rd_of ok e)
  refine ⟨z,y,xs,r,o,es,ep,h1,h2,h3,h4,fun x hx=>?_,h5⟩
  have all:∀ {l:List (List Key×V)} {m:List (List Key×Addr×Value)},KT H l m→∀ x∈m,(tupleKind (qi7 P w)).is h x.1 x.2.1:=by
    intro l m q
    induction q with
    | nil=>intro x hx;exact nomatch hx
    | @cons p q ps qs hq t ih=>
      intro x hx
      rcases List.mem_cons.mp hx with e | hx
      · subst e
        exact key_of ok (by rw [← hq.1];exact hq.2.1)
      · exact ih x hx
  exact all r x hx
end
noncomputable def DGet (H:Hp) (a:Addr) (y:V) (r:Option V):Prop:=
  (∃ kvs k,Rd H a (.dK kvs)∧y=kV k∧r=valV kvs k)∨∃ kvs k b,Rd H a (.dT kvs)∧y=.ref b∧H b=some (.tup (k.map kV))∧r=valV kvs k
theorem DGet.k {H:Hp} {a:Addr} {kvs:List (Key×V)} {k:Key} (e:H a=some (.dK kvs)):DGet H a (kV k) (valV kvs k):=.inl ⟨kvs,k,.inl e,rfl,rfl⟩
section
variable {X:Cx} {pins:List (Addr×Obj)} {σ:St} {H:Hp} {s:Shared} {a:Addr} {y v:V} {u r:Value} {o:Option V} {A:Around} {E:Value→Shared→Prop}
theorem Inv.big (I:Inv X pins σ H s):sysModules<s.heap.objs.size:=by
  have h:mainGlobals<s.heap.objs.size:=(I.mod.glob.keeps I.bk).lt
  exact Nat.lt_trans (by decide) h
theorem zx7 {Q:Value→Shared→Prop} (hu:A.units+1<cLine) (I:Inv X pins σ H s) (g:DGet H a y (some v)) (ry:RelV y u) (h:∀ w' s',Inv X pins σ H s'→RelV v w'→Q w' s') :
    wpAny (model X.prog X.w) A (getItem (.ref a) u) Q E s:=by
  rcases g with ⟨kvs,k,e,ey,l⟩ | ⟨kvs,k,b,e,ey,eb,l⟩
  · subst ey
    obtain ⟨z,hd,vs,rel,dd⟩:=dk_rd I.hok e
    obtain ⟨w',hw,rw'⟩:=RelO.some_of (v:=v) (o:=valueAt vs k) (by rw [l];exact rel.val k)
    exact wpAny_getItem_of (kV_is ry) dd.mapOf hw (h w' _ (I.tok _) rw')
  · subst ey
    cases (show u=Value.ref b from ry)
    obtain ⟨z,hd,xs,rel,dd⟩:=dt_rd I.hok e
    obtain ⟨w',hw,rw'⟩:=RelO.some_of (v:=v) (o:=(atKey xs k).map (·.2)) (by rw [l];exact rel.val k)
    obtain ⟨p,hp,hp2⟩:=Option.map_eq_some_iff.mp hw
    refine wpAny_getItem_heap (tupleKind_room_in1 hu) (key_of I.hok eb) dd hp ?_
    rw [hp2]
    exact h w' _ (I.tok _) rw'
theorem zx6 {h':Heap} {t':Nat} {ob:HO} (I:Inv X pins σ H s) (mu:Mut (H a)) (hs:Heap.SameBut a s.heap h') (he:∃ q,h'.get? a=some q) (new:ObjOk X.prog X.w (upd H a ob) h' a ob) :
    Inv X pins σ (upd H a ob) { s with heap:=h',toks:=t' }:=
  I.write (x:=a) (e:=a) mu (.inl rfl) (fun b q hb z=>(hs.2 b hb).trans z) he new
theorem dk_new {P:Program} {w:World} {H':Hp} {h':Heap} {kvs:List (Key×V)} {vs:List (Key×Value)} (z:kvs.length≤sizeLine) (hd:(a == sysModules)=false) (rel:KV kvs vs) (dd:h'.DictOf (qi7 P w) a vs) :
    ObjOk P w H' h' a (.dK kvs):=⟨z,hd,vs,rel,dd⟩
end
section
variable {X:Cx} {pins:List (Addr×Obj)} {σ:St} {H:Hp} {s:Shared} {a:Addr} {kvs:List (Key×V)} {k:Key} {u:Value} {A:Around} {E:Value→Shared→Prop}
end
theorem q64 {X:Cx} {pins:List (Addr×Obj)} {σ:St} {H:Hp} {s:Shared} {a:Addr} {y:V} {o:Option V} (I:Inv X pins σ H s) (g:DGet H a y o):s.TypeIs (.ref a) "dict":=by
  rcases g with ⟨kvs,k,e,_,_⟩ | ⟨kvs,k,b,e,_,_,_⟩
  · obtain ⟨_,_,vs,_,dd⟩:=dk_rd I.hok e
    exact dd.typeIs
  · obtain ⟨_,_,xs,_,dd⟩:=dt_rd I.hok e
    exact dd.typeIs
section
variable {X:Cx} {o i e value:Expr} {pos pos' tpos:Pos} {td ty tv:TE}
end
theorem zd0 {P:Program} {w:World} {H:Hp} (h:Heap) (hb:sysModules<h.objs.size):ObjOk P w H (h.push { cls:=.type "dict",data:=.dict #[] }) h.objs.size (.dK []):=
  ⟨Nat.zero_le _,beq_eq_false_iff_ne.mpr (Ne.symm (Nat.ne_of_lt hb)),[],.nil,Heap.DictOf.new h⟩
noncomputable def tDNewK:TE:=fun _ H Q=>∀ p,H p=none→Q (.ref p) (upd H p (.dK []))
section
variable {X:Cx} {pos:Pos}
theorem pe_dnewK:PE X (.Dict [] [] pos) tDNewK:=fun pins s σ H Q I h=>
  wpAny_Dict_empty ⟨.ref s.heap.objs.size,_,I.laid (a:=s.heap.objs.size) (o:=.dK []) (t':=s.toks) (fun _ _ q=>Heap.get?_push_of_some _ q) (Nat.le_refl _) (zd0 s.heap I.big),rfl,h _ (I.hok.fresh (Nat.le_refl _))⟩
end
noncomputable def q81:List (TE×TE)→St→Hp→(List (V×V)→Hp→Prop)→Prop
  | [],_,H,Q=>Q [] H
  | (tk,tv)::r,σ,H,Q=>tk σ H fun x H1=>tv σ H1 fun y H2=>q81 r σ H2 fun ps H3=>Q ((x,y)::ps) H3
noncomputable abbrev VV:List (V×V)→List (Value×Value)→Prop:=Paired fun p q=>RelV p.1 q.1∧RelV p.2 q.2
noncomputable def PPs (X:Cx) (pos:Pos) (keys:List (Option Expr)) (values:List Expr) (trs:List (TE×TE)):Prop:=
  ∀ (pins:List (Addr×Obj)) (s:Shared) (σ:St) (H:Hp) (Q:List (V×V)→Hp→Prop),Inv X pins σ H s→q81 trs σ H Q →
    wpAny (model X.prog X.w) X.A (evalPairs (pairTrees keys values X.env pos)) (fun vs s'=>∃ ps H',Inv X pins σ H' s'∧VV ps vs∧Q ps H') X.xe s
theorem pps_nil {X:Cx} {pos:Pos}:PPs X pos [] [] []:=fun pins s σ H Q I h=>pairTrees_nil_walk ⟨[],H,I,.nil,h⟩
theorem pps_cons {X:Cx} {pos:Pos} {k v:Expr} {ks:List (Option Expr)} {vs:List Expr} {tk tv:TE} {trs:List (TE×TE)} (hk:PE X k tk) (hv:PE X v tv) (hr:PPs X pos ks vs trs) :
    PPs X pos (some k::ks) (v::vs) ((tk,tv)::trs):=fun pins s σ H Q I h=>
  pairTrees_cons_walk (thn (hk pins s σ H _ I h) fun u s1 ⟨x,H1,I1,rx,q1⟩=>thn (hv pins s1 σ H1 _ I1 q1) fun w2 s2 ⟨y,H2,I2,ry,q2⟩=>
    thn (hr pins s2 σ H2 _ I2 q2) fun ws s3 ⟨ps,H3,I3,rel,q3⟩=>⟨(x,y)::ps,H3,I3,.cons ⟨rx,ry⟩ rel,q3⟩)
noncomputable def qr9 (kvs more:List (Key×V)):List (Key×V):=more.foldl (fun acc kv=>putK acc kv.1 kv.2) kvs
theorem KV.merge:∀ {more:List (Key×V)} {rs:List (Key×Value)} {kvs:List (Key×V)} {vs:List (Key×Value)},KV more rs→KV kvs vs→KV (qr9 kvs more) (merged vs rs):=by
  intro more rs kvs vs r
  unfold KV at r
  induction r generalizing kvs vs with
  | nil=>intro q;exact q
  | @cons p q ps qs h t ih=>
    intro r0
    have e:KV (putK kvs p.1 p.2) (stored vs q.1 q.2):=by
      have:=r0.put p.1 h.2
      rw [← h.1];exact this
    exact ih e
theorem qp8:∀ (more kvs:List (Key×V)),(qr9 kvs more).length≤kvs.length+more.length
  | [],kvs=>by show kvs.length≤kvs.length+0;omega
  | p::r,kvs=>by
    have h1:=qp8 r (putK kvs p.1 p.2)
    have h2:=q48 kvs p.1 p.2
    show (qr9 (putK kvs p.1 p.2) r).length≤_
    rw [List.length_cons];omega
theorem qM1 {P:Program} {w:World}:∀ {kvs:List (Key×V)} {ws:List (Value×Value)},VV (kvs.map fun kv=>(kV kv.1,kv.2)) ws→∃ rs,Carries (qi7 P w) ws rs∧KV kvs rs
  | [],_,r=>by rw [List.map_nil] at r;cases r;exact ⟨[],True.intro,.nil⟩
  | p::kvs,_,r=>by
    rw [List.map_cons] at r
    cases r with
    | @cons a b as bs h t=>
      obtain ⟨rs,c,q⟩:=qM1 (P:=P) (w:=w) t
      obtain ⟨b1,b2⟩:=b
      exact ⟨(p.1,b2)::rs,⟨kV_is h.1,rfl,c⟩,.cons ⟨rfl,h.2⟩ q⟩
noncomputable def tDisp (trs:List (TE×TE)):TE:=fun σ H Q=>∀ p,H p=none→q81 trs σ (upd H p (.dK [])) fun ps H2=>H2 p=some (.dK [])∧∃ kvs:List (Key×V),ps=kvs.map (fun kv=>(kV kv.1,kv.2))∧kvs.length≤15∧Q (.ref p) (upd H2 p (.dK (qr9 [] kvs)))
theorem zl5 {X:Cx} {pos:Pos} {keys:List (Option Expr)} {values:List Expr} {trs:List (TE×TE)} (h:PPs X pos keys values trs) (hall:keys.all (·.isSome)=true) (hl:keys.length=values.length) (h0:keys≠[])
    (h15:keys.length≤15):PE X (.Dict keys values pos) (tDisp trs):=by
  intro pins s σ H Q I q
  have hn:=I.hok.fresh (Nat.le_refl s.heap.objs.size)
  have I1:=I.laid (a:=s.heap.objs.size) (o:=.dK []) (h':=s.heap.push { cls:=.type "dict",data:=.dict #[] }) (t':=s.toks) (fun _ _ q=>Heap.get?_push_of_some _ q) (Nat.le_refl _) (zd0 s.heap I.big)
  refine wpAny_Dict_walk (knd:=qi7 X.prog X.w) hall hl h0 h15 (thn (h pins _ σ _ _ I1 (q _ hn)) fun ws s2 ⟨ps,H2,I2,rel,e,kvs,ep,lk,q2⟩=>?_)
  subst ep
  obtain ⟨rs,c,rk⟩:=qM1 (P:=X.prog) (w:=X.w) rel
  obtain ⟨z,hd,vs0,r0,dd⟩:=dk_of I2.hok e
  cases r0
  refine ⟨rs,c,dd,fun h' dd' hs=>⟨.ref s.heap.objs.size,_,?_,rfl,q2⟩⟩
  have hz:(qr9 [] kvs).length≤sizeLine:=by
    have h1:=qp8 kvs []
    rw [List.length_nil] at h1
    rw [sizeLine_eq];omega
  have he:∃ q,h'.get? s.heap.objs.size=some q:=let ⟨q,_,_,hq,_⟩:=dd';⟨q,hq⟩
  exact zx6 I2 (by rw [e];exact True.intro) hs he (dk_new hz hd (rk.merge .nil) dd')
noncomputable def IsD (H:Hp) (a:Addr):Prop:=(∃ kvs,Rd H a (.dK kvs))∨∃ kvs,Rd H a (.dT kvs)
theorem isD_at {X:Cx} {pins:List (Addr×Obj)} {σ:St} {H:Hp} {s:Shared} {a:Addr} (I:Inv X pins σ H s) (d:IsD H a) :
    s.TypeIs (.ref a) "dict"∧(∀ b,Value.ref a=.ref b→∃ ob,s.heap.get? b=some ob∧ob.dict=none)∧(a == sysModules)=false:=by
  rcases d with ⟨kvs,e⟩ | ⟨kvs,e⟩
  · obtain ⟨_,hd,vs,_,dd⟩:=dk_rd I.hok e
    refine ⟨dd.typeIs,fun b q=>?_,hd⟩
    cases q
    obtain ⟨ob,_,_,h1,h2,_⟩:=dd
    exact ⟨ob,h1,h2.2.1⟩
  · obtain ⟨_,hd,xs,_,dd⟩:=dt_rd I.hok e
    refine ⟨dd.typeIs,fun b q=>?_,hd⟩
    cases q
    obtain ⟨ob,_,_,h1,h2,_⟩:=dd
    exact ⟨ob,h1,h2.2.1⟩
section
variable {X:Cx} {pins:List (Addr×Obj)} {σ:St} {H:Hp} {s:Shared} {a:Addr} {y d:V} {u r:Value} {o:Option V} {A:Around} {E:Value→Shared→Prop}
end
section
variable {X:Cx} {o e f:Expr} {apos cpos:Pos} {td ty tx:TE}
end
section
variable {X:Cx} {pins:List (Addr×Obj)} {σ:St} {H:Hp} {s:Shared} {a:Addr} {kvs:List (Key×V)} {A:Around} {E:Value→Shared→Prop}
end
section
variable {X:Cx} {pins:List (Addr×Obj)} {σ:St} {H:Hp} {s:Shared} {a:Addr} {y:V} {u:Value} {A:Around} {E:Value→Shared→Prop}
end
end L2
namespace Att
open PySem PySem.W PySem.Calls PyProof.Rows
theorem qG1 {P:Params} {h:Heap}:∀ (ns:List Int) (vs:List Value),WellAll P h vs (ns.map WData.int)→IntsAre vs ns:=by
  intro ns
  induction ns with
  | nil=>
    intro vs w
    rw [List.map_nil] at w
    cases w
    exact .nil
  | cons n ns ih=>
    intro vs w
    rw [List.map_cons] at w
    cases w with
    | cons a b=>
      cases a
      exact .cons _ _ (ih _ b)
theorem zk5 {l:OpenLaw} {n:Nat} (hn:l.most=some n) {P:Params} {h:Heap} {args:List WData} {vals:List Value}
    (hpre:l.row.toRowW.claim.pre args=true) (hwl:WellAll P h vals args) :
    ∃ a vs ns,vals=[Value.ref a]∧args=[WData.list (ns.map WData.int)]∧h.get? a=some { cls:=.type "list",data:=.seq vs.toArray }∧IntsAre vs ns∧ns.length≤n:=by
  have hsh:WShape.hasAll [] args [.list .int]=true:=(pre_splitW hpre).1
  have hc:l.pre.holds [] { args:=args } = true:=(pre_splitW hpre).2
  obtain ⟨d,r,rfl,h1,h2⟩:=hasAllW_cons hsh
  obtain rfl:=hasAllW_nil h2
  obtain ⟨xs,rfl,h3⟩:=hasW_list h1
  obtain ⟨ns,rfl⟩:=items_int h3
  have hlen:ns.length≤n:=by
    unfold OpenLaw.pre at hc
    have h4:(WTm.not (.lt (.lit (.int (n:Int))) (.len (.arg 0)))).holds [] { args:=[.list (ns.map .int)] } = true:=by
      have h4:=(holds_andW hc).1
      rw [hn] at h4
      exact h4
    have h5:=condW_of h4 (w_not (w_lt w_lit (w_len_list (w_arg rfl))))
    rw [List.length_map] at h5
    refine Nat.le_of_not_lt fun q=>?_
    have q':(n:Int)<((ns.length:Nat):Int):=by omega
    first
      | (rw [decide_eq_true q'] at h5;exact absurd h5 (by decide))
      | (simp at h5;omega)
  cases hwl with
  | cons w1 w2=>
    cases w2
    cases w1 with
    | list ho hall=>exact ⟨_,_,ns,rfl,rfl,ho,qG1 ns _ hall,hlen⟩
theorem zl2 (l:OpenLaw) (args:List WData):l.row.toRowW.claim.post args (.bool true) args=true:=
  postW_of (r:=l.row.toRowW) (X:=(true == true))
    (show WShape.has [] (.bool true) .bool=true by first | rfl | decide | simp [WShape.has,WShape.arms,WShape.armsAll])
    (show (WTm.eq .res (.lit (.bool true))).value [] { args:=args,res:=some (.bool true),after:=args } = some (.bool (true == true)) from w_eq_bool (w_res rfl) w_lit) rfl
theorem attach_call {l:OpenLaw} {n:Nat} {q:Program} {loose:List Str} {XP:(Str→Option Value)→Heap→Prop} {YP:World→Heap→Prop} {d:DefRec}
    (hn:l.most=some n) (hdf:d.params.defaults=[])
    (call:∀ (w:World) (s₀ s₁:Shared) (mg mb:Str→Option Value) (fa:Addr) (o:Obj) (pm cd doc:Value) (a:Addr) (vs:List Value) (ns:List Int),
      Ground q loose [] XP w s₀ mg mb s₁.heap→YP w s₁.heap →
      s₁.heap.get? fa=some o→o.data=.func (docDef d.name d.params d.body d.scope pm cd doc)→s₁.heap.CodeRec cd d.name→mg d.name=some (.ref fa) →
      s₁.heap.get? a=some { cls:=.type "list",data:=.seq vs.toArray }→IntsAre vs ns→ns.length≤n→s₁.gens = #[] →
      codeAny (model l.prog w) callerA (.call (.ref fa) ⟨[.ref a],[]⟩) (fun r s'=>r=.ok (.ret (.bool true))∧OldK s₁.heap s'.heap∧s'.os=s₁.os∧AllBare s'.gens) s₁) :
    WalkO q loose XP YP l.row.toRowW d [] (fun f vs=>PySem.call f vs):=by
  intro w s₀ s₁ mg mb G Y fa o pm cd doc dV kV ho hd hcd hD hmg hg args vals as hpre hlay hrd hwl hlo
  obtain rfl:dV=.none:=Dflts.none hD hdf
  obtain rfl:kV=.none:=Dflts.noKw hD
  obtain ⟨a,vs,ns,rfl,rfl,hobj,hints,hlen⟩:=zk5 hn hpre hwl
  refine enter_call (codeAny_mono (call w s₀ s₁ mg mb fa o pm cd doc a vs ns G Y ho (fd_plain hd) hcd hmg hobj hints hlen hg) fun r s' hq=>?_)
  obtain ⟨rfl,h2,h3,h4⟩:=hq
  exact ⟨.inl ⟨.bool true,.bool true,[],rfl,fun _=>rfl,.bool true,zl2 l _,fun _=>⟨List.Pairwise.nil,fun _ hm=>(nomatch hm)⟩⟩,h2,h3,h4⟩
section
variable {prog:Program} {w:World} {A:Around} {E:Value→Shared→Prop} {s:Shared} {K:Frag}
end
end Att
namespace L2
open PySem PySem.Spec PyProof.Rows
theorem qQ9:∀ {vs:List Value} {ns:List Int},IntsAre vs ns→Vals (ns.map V.int) vs
  | _,_,.nil=>.nil
  | _,_,.cons n t h=>.cons ⟨t,rfl⟩ (qQ9 h)
noncomputable def Only (H:Hp):Prop:=∀ b,H b=none∨∃ o xs,H b=some (.frz o (.lst xs))
theorem law_call {P:Program} {w:World} {K:PySem.W.Frag} {mg mb:Str→Option Value} {CX:CXT} {k:Nat} {fa a:Addr} {fd:FuncData} {x:Str} {sp:Sp} {s₁:Shared} {vs:List Value} {ns:List Int}
    (KX:K.In s₁.heap) (hns:s₁.heap.Ns mainGlobals mg) (hb:s₁.heap.Ns builtinsNs mb) (hbb:∀ x:Str,x ≠ "__name__"→mb x=bootBuiltins x) (hlim:s₁.heap.NoLimit) (hg:s₁.gens = #[])
    (ha:s₁.heap.get? a=some { cls:=.type "list",data:=.seq vs.toArray }) (hi:IntsAre vs ns) (hl:ns.length≤sizeLine) (hr:Room k callerA)
    (F:∀ base:Heap,K.In base→base.Ns mainGlobals mg→FnOk P w K mg base CX k fa fd [x] sp) (hbind:∀ (s:Shared) (u:Value),BindsTo s fd ⟨[u],[]⟩ [(x,u)])
    (hsp:∀ H:Hp,Only H→SqL K H a (ns.map V.int)→sp [.ref a] H (fun v _=>v=.bl true) fun _ _ _=>False)
    (hCX:∀ H e s',CX [] H s₁ (fun _ _ _=>False) e s'→False) :
    codeAny (model P w) callerA (.call (.ref fa) ⟨[.ref a],[]⟩) (fun r s'=>r=.ok (.ret (.bool true))∧OldK s₁.heap s'.heap∧s'.os=s₁.os∧AllBare s'.gens) s₁:=by
  have rv:=qQ9 hi
  have lenV:=hi.length
  have core:∀ H:Hp,Only H→SqL K H a (ns.map V.int)→HOk P w H s₁.heap→(∀ b,H b≠none→b=a)→(H a≠none→K.lookup a=none) →
      codeAny (model P w) callerA (.call (.ref fa) ⟨[.ref a],[]⟩) (fun r s'=>r=.ok (.ret (.bool true))∧OldK s₁.heap s'.heap∧s'.os=s₁.os∧AllBare s'.gens) s₁:=by
    intro H hO hS hok hA hK
    have base_of:∀ {b:Addr} {o:Obj},s₁.heap.get? b=some o→H b=none→(hidT s₁.heap H).get? b=some o:=fun e n=>hidT_get e n
    have noA:∀ {b:Addr} {o:Obj} {es:Array DictEntry} {ep:Nat},s₁.heap.get? b=some o→o.data=.dict es ep→H b=none:=fun {b o es ep} e d=>by
      cases q:H b with
      | none=>rfl
      | some u=>
        have e':b=a:=hA b (by rw [q];simp)
        subst e'
        rw [ha] at e;cases e
        have d':Data.seq vs.toArray _=Data.dict es ep:=d
        cases d'
    have nsK:∀ {b:Addr} {m:Str→Option Value},s₁.heap.Ns b m→(hidT s₁.heap H).Ns b m:=fun {b m} ⟨o,es,ep,e,d,r⟩=>⟨o,es,ep,base_of e (noA e d),d,r⟩
    have hKb:K.In (hidT s₁.heap H):=fun b o e=>base_of (KX b o e) (by
      cases q:H b with
      | none=>rfl
      | some u=>
        have e':b=a:=hA b (by rw [q];simp)
        subst e'
        rw [hK (by rw [q];simp)] at e;cases e)
    have hM:Mod K mg (hidT s₁.heap H):=⟨hKb,nsK hns,⟨mb,nsK hb,hbb⟩,let ⟨mc,h1,h2⟩:=hlim;⟨mc,nsK h1,h2⟩⟩
    have e0:Env0 P w K mg (hidT s₁.heap H) callerA [] s₁ H:=⟨rfl,hM,fun b o e=>of_hidT e,Nat.le_of_eq (zt0 _ _),trivial,fun b hb=>absurd (show b∈([]:List Addr) from hb) (by simp),hok,.of_eq hg⟩
    refine codeAny_mono ((F _ hKb (nsK hns)).run callerA [] s₁ H ⟨[.ref a],[]⟩ [.ref a] [.ref a] _ _ hr e0 (hbind s₁ (.ref a)) (.cons rfl .nil) (hsp H hO hS)) fun r s' h=>?_
    cases r with
    | error e=>exact (hCX H e s' h).elim
    | ok fl=>
      cases fl with
      | next=>exact False.elim h
      | brk=>exact False.elim h
      | cont=>exact False.elim h
      | ret u=>
        obtain ⟨v,H',os,bare,un,hok',r',q⟩:=h
        have q':v=.bl true:=q
        subst q'
        obtain rfl:u=Value.bool true:=r'
        refine ⟨rfl,OldK.of_keep fun b o e=>?_,os,bare⟩
        cases q:H b with
        | none=>exact un.keep b o e q (by intro z;exact absurd (show b∈([]:List Addr) from z) (by simp)) (by simp)
        | some u=>
          rcases hO b with z | ⟨ob,xs,z⟩
          · rw [q] at z;cases z
          · have z2:=un.frzs b ob _ z
            obtain ⟨e1,_⟩:=hok b _ z
            obtain ⟨e2,_⟩:=hok' b _ z2
            rw [e] at e1;cases e1
            exact e2
  cases hk:K.lookup a with
  | some o=>
    have e:=KX a o hk
    rw [ha] at e
    cases e
    refine core (fun _=>none) (fun _=>.inl rfl) (.inr ⟨_,vs.toArray,_,hk,rfl,rfl,rfl,by rw [List.size_toArray,lenV];exact hl,by simpa using rv⟩) (fun b u z=>by have z':(none:Option HO)=some u:=z;cases z') (fun b z=>absurd rfl z) fun z=>absurd rfl z
  | none=>
    refine core (fun b=>if b=a then some (.frz { cls:=.type "list",data:=.seq vs.toArray } (.lst (ns.map V.int))) else none) (fun b=>?_) (.inl (.inr ⟨{ cls:=.type "list",data:=.seq vs.toArray },if_pos rfl⟩)) (fun b u z=>?_) (fun b z=>?_) fun _=>hk
    · by_cases hb:b=a
      · exact .inr ⟨_,_,if_pos hb⟩
      · exact .inl (if_neg hb)
    · by_cases hb:b=a
      · have z':=(if_pos hb).symm.trans z
        cases z'
        subst hb
        exact ⟨ha,by rw [List.length_map];exact hl,vs,_,rv,ha⟩
      · have z':=(if_neg hb).symm.trans z
        cases z'
    · by_cases hb:b=a
      · exact hb
      · exact absurd (if_neg hb) z
end L2
namespace L2
open PySem PySem.Spec PyProof.Rows
theorem walk_of {l:PySem.W.OpenLaw} {n k:Nat} {q:Program} {loose:List Str} {XP:(Str→Option Value)→Heap→Prop} {YP:World→Heap→Prop} {d:DefRec} {K:Params→PySem.W.Frag} {CX:World→CXT} {sp:World→Sp} {x:Str}
    (hn:l.most=some n) (hn2:n≤sizeLine) (hdf:d.params.defaults=[]) (hr:Room k callerA)
    (hY:∀ (w:World) (h:Heap),YP w h→(K w.params).In h)
    (F:∀ (w:World) (mg:Str→Option Value) (fa:Addr) (h:Heap),(K w.params).In h→h.Ns mainGlobals mg→mg d.name=some (.ref fa) →
      ∃ fd:FuncData,(∀ (s:Shared) (u:Value),BindsTo s fd ⟨[u],[]⟩ [(x,u)]) ∧
        ∀ base:Heap,(K w.params).In base→base.Ns mainGlobals mg→FnOk l.prog w (K w.params) mg base (CX w) k fa fd [x] (sp w))
    (hsp:∀ (w:World) (H:Hp) (a:Addr) (ns:List Int),ns.length≤n→Only H→SqL (K w.params) H a (ns.map V.int)→sp w [.ref a] H (fun v _=>v=.bl true) fun _ _ _=>False)
    (hCX:∀ (w:World) (H:Hp) (s:Shared) (e:Value) (s':Shared),CX w [] H s (fun _ _ _=>False) e s'→False) :
    PySem.W.WalkO q loose XP YP l.row.toRowW d [] (fun f vs=>PySem.call f vs):=by
  refine Att.attach_call hn hdf fun w s₀ s₁ mg mb fa o pm cd doc a vs ns G Y ho hd hcd hmg hobj hints hlen hg=>?_
  have KX:=hY w _ Y
  obtain ⟨fd,hb,hF⟩:=F w mg fa _ KX G.T.g hmg
  exact law_call KX G.T.g G.T.b G.T.builtins G.T.nolimit hg hobj hints (Nat.le_trans hlen hn2) hr hF hb (fun H hO hS=>hsp w H a ns hlen hO hS) fun H e s'=>hCX w H s₁ e s'
end L2
namespace L2
open PySem PySem.Spec PyProof.Rows
noncomputable def qa8 (s:Stmt):Arguments:=match s with
  | .FunctionDef _ a _ _ _ _ _ _ _ _=>a
  | _=>{ posonlyargs:=[],args:=[],vararg:=none,kwonlyargs:=[],kw_defaults:=[],kwarg:=none,defaults:=[] }
noncomputable def qa2 (s:Stmt):List Stmt:=match s with
  | .FunctionDef _ _ b _ _ _ _ _ _ _=>b
  | _=>[]
noncomputable def qa1 (s:Stmt):Scope:=match s with
  | .FunctionDef _ _ _ _ _ _ sc _ _ _=>sc
  | _=>{ kind:=.function,names:=[],isGenerator:=false,isCoroutine:=false }
noncomputable abbrev CX0:CXT:=fun _ _ _ _ _ _=>False
noncomputable abbrev E0:XK:=fun _ _ _=>False
theorem pass0 {X:Cx}:zd5 CX0 X E0:=fun _ _ _ _ _ _ _ h=>h.elim
structure Fun (K:PySem.W.Frag) (x qual:Str) (st:Stmt) (f:Addr) (fd:FuncData):Prop where
  ex:∃ (oc:Value) (od:Option Addr) (kV doc pm:Value) (an:Option Addr) (cdv ct:Value) (osl:Array (Option Value)),
    fd=PySem.W.fnOf x qual (qa8 st) (qa2 st) (qa1 st) .none kV doc pm an cdv ct∧K.lookup f=some ⟨oc,od,.func fd,osl⟩∧PySem.W.codeIn K cdv qual=true
  kp:PySem.W.keepIn K (.ref f)=true
section
variable {P:Program} {w:World} {K:PySem.W.Frag} {mg:Str→Option Value} {base:Heap}
theorem Fun.ok {x qual:Str} {st:Stmt} {f:Addr} {fd:FuncData} {N ps:List Str} {k:Nat} {sp:Sp} (F:Fun K x qual st f fd) (S:qc9 N ps (qa1 st)) (len:∀ vs H Q E,sp vs H Q E→vs.length=ps.length)
    (hbody:∀ (cdv:Value) (A:Around) (outer:List Env) (s:Shared) (H:Hp) (vs:List V) (Q:VK) (E:XK),Room k (A.deeper (envOfC qual (qa1 st) s.heap.objs.size f cdv))→sp vs H Q E →
      ∃ t,PSs (cxOf CX0 P w K mg base N qual (qa1 st) f cdv A outer s H E).nox (qa2 st) t∧t { nx:=fun _ H'=>Q .non H',rt:=Q } (start N vs) H):FnOk P w K mg base CX0 (k+1) f fd ps sp:=by
  obtain ⟨oc,od,kV,doc,pm,an,cdv,ct,osl,rfl,lk,hcd⟩:=F.ex
  refine fn_of lk hcd S len fun A outer s H vs Q E hr hsp=>?_
  obtain ⟨t,h,q⟩:=hbody cdv A outer s H vs Q E hr hsp
  exact ⟨t,h.nox,q⟩
theorem Fun.binds {x qual:Str} {st:Stmt} {f:Addr} {fd:FuncData} {ps:List Str} (F:Fun K x qual st f fd)
    (h:∀ (kV doc pm:Value) (an:Option Addr) (cdv ct:Value) (us:List Value),us.length=ps.length→bindArgs (PySem.W.fnOf x qual (qa8 st) (qa2 st) (qa1 st) .none kV doc pm an cdv ct) ⟨us,[]⟩=pure (ps.zip us)):Binds K fd ps []:=by
  obtain ⟨oc,od,kV,doc,pm,an,cdv,ct,osl,rfl,lk,hcd⟩:=F.ex
  exact .all (h kV doc pm an cdv ct)
theorem qi4 {x qual:Str} {st:Stmt} {f:Addr} {oc:Value} {od an:Option Addr} {osl:Array (Option Value)} {kV doc pm cdv ct:Value} (l:K.lookup f=some ⟨oc,od,.func (PySem.W.fnOf x qual (qa8 st) (qa2 st) (qa1 st) .none kV doc pm an cdv ct),osl⟩)
    (c:PySem.W.codeIn K cdv qual=true) (k:PySem.W.keepIn K (.ref f)=true):Fun K x qual st f (PySem.W.fnOf x qual (qa8 st) (qa2 st) (qa1 st) .none kV doc pm an cdv ct):=⟨⟨oc,od,kV,doc,pm,an,cdv,ct,osl,rfl,l,c⟩,k⟩
end
section
variable {X:Cx}
end
section
variable {κ:Type} [DecidableEq κ]
end
end L2
namespace L2
open PySem PySem.Spec PyProof.Rows
noncomputable def clOf (cells:List (Str×Addr)):List (Str×NameKind)→List (Str×Addr)→List (Str×Addr)
  | [],acc=>acc
  | (n,k)::r,acc=>if k == .free then clOf cells r ((n,(cells.lookup n).getD 0)::acc) else clOf cells r acc
theorem qn8 {env:Env}:∀ (names:List (Str×NameKind)) (acc:List (Str×Addr)),(∀ x∈names,x.2=.free→(env.cells.lookup x.1).isSome=true) →
    (forIn names acc fun (x:Str×NameKind) (r:List (Str×Addr))=>(do
      if x.2 == .free then do let c ← cellOf env x.1;pure (ForInStep.yield ((x.1,c)::r)) else pure (ForInStep.yield r):Sem (ForInStep (List (Str×Addr)))))=pure (clOf env.cells names acc)
  | [],acc,_=>rfl
  | (n,k)::r,acc,h=>by
    rw [List.forIn_cons]
    cases hk:k == NameKind.free with
    | true=>
      have e:k=.free:=by simpa using hk
      have hs:=h (n,k) List.mem_cons_self e
      obtain ⟨c,hc⟩:=Option.isSome_iff_exists.mp hs
      have hc':env.cells.lookup n=some c:=hc
      have hce:cellOf env n=pure c:=by unfold cellOf;rw [hc']
      simp only [if_true,hce,hc',Option.getD_some,pure_bind,clOf,hk]
      rw [qn8 r _ fun x hx=>h x (List.mem_cons_of_mem _ hx)]
    | false=>
      simp only [Bool.false_eq_true,if_false,pure_bind,clOf,hk]
      exact qn8 r _ fun x hx=>h x (List.mem_cons_of_mem _ hx)
theorem qx9 {scope:Scope} {env:Env} (h:∀ x∈scope.names,x.2=.free→(env.cells.lookup x.1).isSome=true):closureFor scope env=pure (clOf env.cells scope.names []):=by
  have q:=qn8 (env:=env) scope.names [] h
  unfold closureFor
  refine Eq.trans ?_ (Eq.trans (congrArg (fun (m:Sem (List (Str×Addr)))=>m >>= fun cs=>pure cs) q) ?_)
  · rfl
  · rfl
theorem qH3 (cells:List (Str×Addr)):∀ (names:List (Str×NameKind)) (acc:List (Str×Addr)),(∀ x∈names,x.2=.free→(cells.lookup x.1).isSome=true)→(∀ y c,acc.lookup y=some c→cells.lookup y=some c) →
    ∀ y c,(clOf cells names acc).lookup y=some c→cells.lookup y=some c
  | [],_,_,ha=>ha
  | (n,k)::r,acc,h,ha=>by
    unfold clOf
    split
    · rename_i hk
      refine qH3 cells r _ (fun x hx=>h x (List.mem_cons_of_mem _ hx)) fun y c e=>?_
      rw [List.lookup_cons] at e
      split at e
      · rename_i hy
        have hy':y=n:=by simpa using hy
        subst hy'
        obtain ⟨c',hc'⟩:=Option.isSome_iff_exists.mp (h (y,k) List.mem_cons_self (by simpa using hk))
        have hc'':cells.lookup y=some c':=hc'
        rw [hc''] at e ⊢
        exact e
      · exact ha y c e
    · exact qH3 cells r _ (fun x hx=>h x (List.mem_cons_of_mem _ hx)) ha
theorem qA5 (cells:List (Str×Addr)):∀ (names:List (Str×NameKind)) (acc:List (Str×Addr)) (y:Str),(acc.lookup y).isSome=true→((clOf cells names acc).lookup y).isSome=true
  | [],_,_,h=>h
  | (n,k)::r,acc,y,h=>by
    unfold clOf
    split
    · refine qA5 cells r _ y ?_
      rw [List.lookup_cons]
      split
      · rfl
      · exact h
    · exact qA5 cells r _ y h
theorem qC5 (cells:List (Str×Addr)):∀ (names:List (Str×NameKind)) (acc:List (Str×Addr)) (y:Str),(y,NameKind.free)∈names→((clOf cells names acc).lookup y).isSome=true
  | [],_,_,h=>by simp at h
  | (n,k)::r,acc,y,h=>by
    unfold clOf
    rcases List.mem_cons.mp h with e | h
    · cases e
      rw [if_pos (by rfl)]
      exact qA5 cells r _ _ (by rw [List.lookup_cons];simp)
    · split
      · exact qC5 cells r _ y h
      · exact qC5 cells r _ y h
theorem qr7 {scope:Scope} {env:Env} {y:Str}:∀ {names:List (Str×NameKind)},
    ((names.map fun (n,k)=>if (k == NameKind.free&&env.scope.kind == .function&&env.kindOf n == some .cell) then (n,NameKind.cell) else (n,k)).lookup y=some .cell ∨
     (names.map fun (n,k)=>if (k == NameKind.free&&env.scope.kind == .function&&env.kindOf n == some .cell) then (n,NameKind.cell) else (n,k)).lookup y=some .free) →
    (∀ x∈names,x.2≠.cell)→(y,NameKind.free)∈names
  | [],h,_=>by simp at h
  | (n,k)::r,h,hc=>by
    have ih:=@qr7 scope env y r
    have hr:∀ x∈r,x.2≠.cell:=fun x hx=>hc x (List.mem_cons_of_mem _ hx)
    rw [List.map_cons] at h
    by_cases hq:(k == NameKind.free&&env.scope.kind == .function&&env.kindOf n == some .cell)=true
    · have hk:k=.free:=by
        have:=hq
        simp only [Bool.and_eq_true] at this
        simpa using this.1.1
      simp only [hq,if_true] at h
      simp only [List.lookup_cons] at h
      cases hy:y == n with
      | true=>
        have e:y=n:=by simpa using hy
        rw [e,hk]
        exact List.mem_cons_self
      | false=>
        simp only [hy] at h
        exact List.mem_cons_of_mem _ (ih h hr)
    · simp only [hq,Bool.false_eq_true,if_false] at h
      simp only [List.lookup_cons] at h
      cases hy:y == n with
      | true=>
        simp only [hy] at h
        have e:y=n:=by simpa using hy
        rcases h with h | h
        · exact absurd (Option.some.inj h) (hc (n,k) List.mem_cons_self)
        · rw [e,← Option.some.inj h]
          exact List.mem_cons_self
      | false=>
        simp only [hy] at h
        exact List.mem_cons_of_mem _ (ih h hr)
noncomputable def cxB (X:Cx) (N':List Str) (scope:Scope) (C:Addr) (s:Shared) (H:Hp) (fp:List Addr):Cx:=
  { X with N:=N',s₀:=s,H₀:=H,env:=compEnvC scope (clOf X.env.cells scope.names []) C X.env,outer:=X.stack,ex:=fp,fn:=fun _=>false,pn:=[],xe:=fun _ _=>False }
noncomputable def PTs (X:Cx) (ifs:List Expr) (t:TT):Prop:=
  ∀ (pins:List (Addr×Obj)) (s:Shared) (σ:St) (H:Hp) (Q:Bool→Hp→Prop),Inv X pins σ H s→t σ H Q→wpAny (model X.prog X.w) X.A (forIn ifs true fun c r=>if r=true then do let ok ← isTrue c X.env (eval c X.env);pure (ForInStep.yield ok) else pure (ForInStep.yield r)) (TP X pins σ Q) X.xe s
theorem pts_nil {X:Cx}:PTs X [] (fun _ H Q=>Q true H):=fun _ _ _ H _ I h=>wpAny_tests_nil ⟨H,I,h⟩
theorem pts_one {X:Cx} {c:Expr} {t:TT} (h:PT X c t):PTs X [c] t:=fun pins s σ H Q I q=>wpAny_tests_one (h pins s σ H Q I q)
noncomputable def qA6 (e tg:Expr) (p0:Pos) (ifs:List Expr) (d:Nat) (it acc:Value) (env:Env) (bc:Sem Unit):Sem Fin:=do
  standAt p0
  let r ← pyNext it
  match r with
  | none=>pure (Fin.done Flow.next)
  | some v=>do
    letOwnedTupleGo tg it v
    assign tg env v
    let ok ← forIn ifs true fun c r=>if r=true then do let ok ← isTrue c env (eval c env);pure (ForInStep.yield ok) else pure (ForInStep.yield r)
    if ok=true then do bc;again (.compLoop e d it acc env) else again (.compLoop e d it acc env)
noncomputable def emitBy (elt:Expr) (acc:Value) (env:Env):Sem Unit:=do
  let x ← eval elt env
  let _ ← call (.builtin "list.append") [acc,x]
  pure ()
section
variable {prog:Program} {w:World} {A:Around} {R:Result→Shared→Prop} {s:Shared}
theorem qt4 {e elt tg:Expr} {gens:List Comprehension} {scope:Scope} {pos p0:Pos} {ifs:List Expr} {d:Nat} {it acc:Value} {env:Env} {bc:Sem Unit} (he:e=.ListComp elt gens scope pos) (htn:compTurn e d it acc env=qA6 e tg p0 ifs d it acc env bc) (I:Nat→Shared→Prop)
    (turn:∀ n s,I n s→wpAny (model prog w) A (pyNext it) (fun r s₁=>match r with
      | none=>R (.ok .next) s₁
      | some v=>wpAny (model prog w) A (letOwnedTupleGo tg it v) (fun _ s₁'=>wpAny (model prog w) A (assign tg env v) (fun _ s₂=>
          wpAny (model prog w) A (forIn ifs true fun c r=>if r=true then do let ok ← isTrue c env (eval c env);pure (ForInStep.yield ok) else pure (ForInStep.yield r)) (fun ok s₃=>
            if ok=true then wpAny (model prog w) A bc (fun _ s₅=>∃ m,m<n∧I m s₅) (fun _ _=>False) s₃
            else ∃ m,m<n∧I m s₃) (fun _ _=>False) s₂) (fun _ _=>False) s₁') (fun _ _=>False) s₁) (fun _ _=>False) s)
    (n:Nat) (h:I n s) :
    codeAny (model prog w) A (.compLoop e d it acc env) R s:=by
  refine codeAny_loop rfl I (fun n s hI=>?_) n h
  subst he
  show wpAny _ A ((compTurn (.ListComp elt gens scope pos) d it acc env).onRaise (fun x=>do noteFrame x env;theTreesLotGoes x)) _ _ s
  refine wpAny_noted ?_
  rw [htn]
  refine wpAny_bind (wpAny_standAt (wpAny_bind (wpAny_mono (turn n s hI) (fun r s₁ h₁=>?_) fun _ _ h'=>h'.elim)))
  cases r with
  | none=>exact wpAny_pure h₁
  | some v=>
    refine wpAny_bind (wpAny_mono h₁ (fun _ s₁' h₁'=>?_) fun _ _ h'=>h'.elim)
    refine wpAny_bind (wpAny_mono h₁' (fun _ s₂ h₂=>wpAny_bind (wpAny_mono h₂ (fun ok s₃ h₃=>?_) fun _ _ h'=>h'.elim)) fun _ _ h'=>h'.elim)
    cases ok with
    | false=>exact wpAny_pure ⟨rfl,h₃⟩
    | true=>exact wpAny_bind (wpAny_mono h₃ (fun _ s₅ h₅=>wpAny_pure ⟨rfl,h₅⟩) fun _ _ h'=>h'.elim)
end
noncomputable abbrev TB:=St→Hp→(St→Hp→Prop)→Prop
noncomputable def PB (X:Cx) (m:Sem Unit) (tb:TB):Prop:=
  ∀ (pins:List (Addr×Obj)) (s:Shared) (σ:St) (H:Hp) (Q:St→Hp→Prop),Inv X pins σ H s→tb σ H Q→wpAny (model X.prog X.w) X.A m (fun _ s'=>∃ σ' H',Inv X pins σ' H' s'∧Q σ' H') X.xe s
noncomputable def tEm (te:TE) (p:Addr):TB:=fun σ H Q=>te σ H fun y H5=>∃ ys,H5 p=some (.lst ys)∧ys.length<sizeLine∧Q σ (upd H5 p (.lst (ys++[y])))
theorem q19 {X:Cx} {elt:Expr} {te:TE} {p:Addr} (he:PE X elt te):PB X (emitBy elt (.ref p) X.env) (tEm te p):=fun pins s σ H Q I h=>by
  refine wpAny_bind (thn (he pins s σ H _ I h) fun xv s8 ⟨y,H8,J8,r8,q8⟩=>?_)
  obtain ⟨ys,hy,hz,q9⟩:=q8
  refine wpAny_bind (thn (qV2 _ s8 σ H8 (.ref p) [y] (.ref p) [xv] (fun _ H9=>H9=upd H8 p (.lst (ys++[y]))) J8 rfl (.cons r8 .nil) ⟨_,ys,y,rfl,rfl,hy,hz,rfl⟩) fun _ s9 ⟨_,H9,J9,_,e9⟩=>?_)
  subst e9
  exact wpAny_pure ⟨_,_,J9,q9⟩
noncomputable def zj6 (J:It) (g:TG) (tt:TT) (tb:TB) (σ:St) (H:Hp) (Q:St→Hp→Prop):Prop:=∃ W:Nat→Nat→St→Hp→Prop,(∃ m,W 0 m σ H)∧∀ i m σ' H',W i m σ' H' →
  (J.stop i H'∧Q σ' H')∨(J.go i H'∧∀ x H2,J.yld i H' x H2→g x σ' H2 fun σ2 H3=>tt σ2 H3 fun ok H4=>
    if ok=true then tb σ2 H4 fun σ3 H5=>∃ m',m'<m∧W (i+1) m' σ3 H5 else ∃ m',m'<m∧W (i+1) m' σ2 H4)
theorem qZ6 {X:Cx} {e elt tg:Expr} {gens:List Comprehension} {scope:Scope} {pos p0:Pos} {ifs:List Expr} {d:Nat} {acc:Value} {bc:Sem Unit} {g:TG} {tt:TT} {tb:TB} {it:Addr} {fp:List Addr} {tn:Nat→Heap→Prop} {J:It}
    (hc:X.calm=true) (hx:∀ e s,X.xe e s→False) (hl:e=.ListComp elt gens scope pos) (htn:compTurn e d (.ref it) acc X.env=qA6 e tg p0 ifs d (.ref it) acc X.env bc) (hg:PG X tg g) (ht:PTs X ifs tt) (hb:PB X bc tb) (T:Turn X.prog X.w X.K tg J fp it tn)
    {pins:List (Addr×Obj)} {s:Shared} {σ:St} {H:Hp} {Q:St→Hp→Prop} (I:Inv X pins σ H s) (st:tn 0 s.heap) (f2:∀ b∈fp,FpOk X pins H b) (h:zj6 J g tt tb σ H Q) :
    codeAny (model X.prog X.w) X.A (.compLoop e d (.ref it) acc X.env) (fun r s'=>∃ σ' H',r=.ok .next∧Inv X pins σ' H' s'∧Q σ' H') s:=by
  obtain ⟨W,⟨m0,w0⟩,turn⟩:=h
  have no:∀ e s,X.xe e s→(fun (_:Value) (_:Shared)=>False) e s:=hx
  have stat:∀ {H':Hp},(∀ b∈fp,H' b=none)→∀ b∈fp,FpOk X pins H' b:=fun hn b hb=>⟨hn b hb,(f2 b hb).2⟩
  refine qt4 hl htn (fun n s'=>∃ i σ' H',Inv X pins σ' H' s'∧tn i s'.heap∧(∀ b∈fp,H' b=none)∧W i n σ' H') ?_ m0 ⟨0,_,_,I,st,fun b hb=>(f2 b hb).1,w0⟩
  rintro n s3 ⟨i,σ3,H3,J3,st3,fr3,w3⟩
  rcases turn i n σ3 H3 w3 with ⟨stop,qn⟩ | ⟨go,step⟩
  · refine thn (T.done X rfl rfl rfl hc i pins s3 σ3 H3 _ J3 (stat fr3) st3 stop) fun r s4 ⟨hr,J4⟩=>?_
    subst hr
    exact ⟨σ3,H3,rfl,J4,qn⟩
  · refine thn (T.item X rfl rfl rfl hc i pins s3 σ3 H3 _ J3 (stat fr3) st3 go) fun r s4 ⟨u,hr,h4⟩=>?_
    subst hr
    refine thn h4 fun _ s5 ⟨x,H5,J5,r5,y5,st5,fr5⟩=>?_
    have J5':=J5.pinned (stat fr5) (T.obj _ _ st5)
    refine wpAny_mono (hg _ s5 σ3 H5 x u _ J5' r5 (step x H5 y5)) (fun _ s6 ⟨σ6,H6,J6,q6⟩=>?_) no
    refine wpAny_mono (ht _ s6 σ6 H6 _ J6 q6) (fun ok s7 ⟨H7,J7,q7⟩=>?_) no
    have again:∀ {s':Shared} {σ7:St} {H7:Hp},Inv X (pins++qT3 fp s5.heap) σ7 H7 s'→(∃ m',m'<n∧W (i+1) m' σ7 H7)→∃ m,m<n∧∃ i σ' H',Inv X pins σ' H' s'∧tn i s'.heap∧(∀ b∈fp,H' b=none)∧W i m σ' H':=fun {s' σ7 H7} J7 n7=>by
      obtain ⟨m',hm,w7⟩:=n7
      refine ⟨m',hm,i+1,σ7,H7,J7.unpinned,T.keep _ _ _ st5 fun b hb o e=>(J7.pin (b,o) (List.mem_append_right _ (List.mem_append_right _ (qt1 hb e)))).1,fun b hb=>?_,w7⟩
      obtain ⟨o,e,d⟩:=T.obj _ _ st5 b hb
      exact (J7.pin (b,o) (List.mem_append_right _ (List.mem_append_right _ (qt1 hb e)))).2.1
    cases ok with
    | false=>
      rw [if_neg Bool.false_ne_true] at q7 ⊢
      exact again J7 q7
    | true=>
      rw [if_pos rfl] at q7 ⊢
      exact wpAny_mono (hb _ s7 σ6 H7 _ J7 q7) (fun _ s9 ⟨σ9,H9,J9,q9⟩=>again J9 q9) no
structure BlockOk (X:Cx) (N':List Str) (scope:Scope) (cap:List (Option Nat)):Prop where
  kind:scope.kind=.function
  nocell:∀ x∈scope.names,x.2≠.cell
  names:∀ x∈scope.names,x.2=.local→scope.names.lookup x.1=some .local
  free:∀ x∈scope.names,x.2=.free→(X.env.kindOf x.1=some .cell∨X.env.kindOf x.1=some .free)
  nd:N'.Nodup
  len:cap.length=N'.length
  cap:∀ (j i:Nat),cap[j]?=some (some i)→∃ y,N'[j]?=some y∧X.N[i]?=some y∧Vis X.env.scope y∧(X.env.kindOf y=some .cell∨X.env.kindOf y=some .free)∧((relabel scope X.env).names.lookup y=some .cell∨(relabel scope X.env).names.lookup y=some .free)
noncomputable def σB (cap:List (Option Nat)) (σ:St):St:=cap.map fun o=>o.bind fun i=>(σ[i]?).join
section
variable {X:Cx} {pins:List (Addr×Obj)} {σ:St} {H:Hp} {s:Shared} {N':List Str} {scope:Scope} {cap:List (Option Nat)} {C:Addr} {fp:List Addr}
theorem BlockOk.cells (B:BlockOk X N' scope cap) (ok:X.Ok):∀ x∈scope.names,x.2=.free→(X.env.cells.lookup x.1).isSome=true:=fun x hx hf=>by
  obtain ⟨c,e⟩:=ok.has x.1 (B.free x hx hf)
  rw [e];rfl
theorem BlockOk.cl (B:BlockOk X N' scope cap) (ok:X.Ok):∀ y c,(clOf X.env.cells scope.names []).lookup y=some c→X.env.cells.lookup y=some c:=
  qH3 _ _ _ (B.cells ok) fun y c e=>by simp at e
theorem Inv.notStk (I:Inv X pins σ H s) {b:Addr} (h1:b≠X.env.locals) (h2:b ∉ X.fs):b ∉ frs X.stack:=fun z=>(List.mem_cons.mp (I.stkSub b z)).elim h1 h2
theorem Inv.block {h4:Heap} {tk:Nat} {m0:Str→Option Value} (I:Inv X pins σ H s) (B:BlockOk X N' scope cap) (hfp:∀ b∈fp,FpOk X pins H b∧b<s.heap.objs.size) (hC:s.heap.objs.size≤C)
    (hk:∀ b o,s.heap.get? b=some o→h4.get? b=some o) (hn:h4.Ns C m0):Inv (cxB X N' scope C s H fp) [] (σB cap σ) H { s with heap:=h4,toks:=tk }:=by
  have okX:=I.ok
  have hcl:=B.cl okX
  have cellC:∀ x c,(clOf X.env.cells scope.names []).lookup x=some c→∃ v,s.heap.IsCell c v:=fun x c e=>I.cell x c (hcl x c e)
  have neC:∀ b o,s.heap.get? b=some o→b≠C:=fun b o e=>Nat.ne_of_lt (Nat.lt_of_lt_of_le (Heap.lt_size e) hC)
  refine ⟨⟨okX.mod,B.kind,okX.glob,okX.blt,hC,fun x y c e1 e2=>okX.inj x y c (hcl x c e1) (hcl y c e2),fun x hx=>?_,fun x c e _=>(by cases e),okX.hd,okX.frames,.inl rfl,fun b hb=>⟨fun z=>?_,fun x c e z=>?_⟩,fun b o e=>I.bs b o e,Nat.le_trans okX.bsz I.sz,fun b o e hb=>?_,fun b hb z=>?_,I.stack,I.stkFree⟩,
    rfl,I.bare,Un.kept hk,⟨m0,hn,fun j y v e1 e2 e3=>?_⟩,fun x c e=>?_,I.hok.fresh hC,fun x c e=>I.freeC x c (hcl x c e),fun p hp=>absurd (show p∈([]:List (Addr×Obj)) from hp) (by simp),I.hok.kept hk,?_⟩
  · have q:=qr7 (scope:=scope) (env:=X.env) (y:=x) (names:=scope.names) hx B.nocell
    exact Option.isSome_iff_exists.mp (qC5 _ _ _ _ q)
  · have z':b=C:=z
    exact absurd (hfp b hb).2 (by rw [z'];exact Nat.not_lt.mpr hC)
  · exact (hfp b hb).1.2.2.2.2.1 x c (hcl x c e) z
  · obtain ⟨h0,h1,h2,h3,h4',h5⟩:=(hfp b hb).1
    rcases h3 with h3 | h3
    · exact okX.noex b o e h3
    · have:=(okX.bs b o e).1
      exact absurd (Nat.lt_of_lt_of_le (Heap.lt_size this) h3) (Nat.lt_irrefl _)
  · obtain ⟨h0,h1,h2,h3,h4',h5⟩:=(hfp b hb).1
    exact I.notStk h1 h2 z
  · have e1':N'[j]?=some y:=e1
    unfold σB at e2
    rw [List.getElem?_map] at e2
    cases ec:cap[j]? with
    | none=>rw [ec] at e2;cases e2
    | some o=>
      rw [ec] at e2
      cases o with
      | none=>cases e2
      | some i=>
        obtain ⟨y',n1,n2,vis,kx,kb⟩:=B.cap j i ec
        rw [e1'] at n1;cases n1
        have e2':(σ[i]?).join=some v:=Option.some.inj e2
        have e2'':σ[i]?=some (some v):=by
          cases q:σ[i]? with
          | none=>rw [q] at e2';cases e2'
          | some z=>rw [q] at e2';exact congrArg some e2'
        obtain ⟨m,hm,hl⟩:=I.loc
        obtain ⟨u,ru,lk⟩:=hl i y v n2 e2'' vis
        refine ⟨u,ru,.inr ⟨kb,?_⟩⟩
        rcases lk with ⟨k,_⟩ | ⟨k,c,ec',z⟩
        · rcases kx with kx | kx
          · rw [kx] at k;cases k
          · rw [kx] at k;cases k
        · have q:=qr7 (scope:=scope) (env:=X.env) (y:=y) (names:=scope.names) kb B.nocell
          obtain ⟨c',hc'⟩:=Option.isSome_iff_exists.mp (qC5 X.env.cells scope.names [] y q)
          have:=hcl y c' hc'
          rw [ec'] at this;cases this
          exact ⟨c,hc',z.keeps hk⟩
  · obtain ⟨v,z⟩:=cellC x c e
    exact ⟨v,z.keeps hk⟩
  · show (σB cap σ).length=N'.length
    unfold σB
    rw [List.length_map,B.len]
theorem Inv.unblock {Hf:Hp} {s':Shared} {σ':St} {pins':List (Addr×Obj)} (I:Inv X pins σ H s) (hfp:∀ b∈fp,FpOk X pins H b) (J:Inv (cxB X N' scope C s H fp) pins' σ' Hf s'):Inv X pins σ Hf s':=
  I.call' (ch:=fp) J.os J.base J.hok J.bare fun b hb=>by
    obtain ⟨h0,h1,h2,h3,h4,h5⟩:=hfp b hb
    exact ⟨h3,h1,h4,h5⟩
end
noncomputable def qR3 (wi:TI) (g:TG) (tt:TT) (tb:Addr→TB) (cap:List (Option Nat)):TE:=fun σ H Q=>wi σ H fun J H1=>∀ p,H1 p=none→zj6 J g tt (tb p) (σB cap σ) (upd H1 p (.lst [])) fun _ H'=>Q (.ref p) H'
noncomputable def tComp (wi:TI) (g:TG) (tt:TT) (te:TE) (cap:List (Option Nat)):TE:=qR3 wi g tt (tEm te) cap
noncomputable def Behind (X:Cx) (pins:List (Addr×Obj)) (σ:St) (Q:VK) (acc:Value) (C:Addr) (r:Result) (s':Shared):Prop:=
  ∃ p Hf m,r=.ok .next∧acc=.ref p∧Inv X pins σ Hf s'∧Q (.ref p) Hf∧s'.heap.Ns C m∧Hf C=none∧C≠X.env.locals∧X.s₀.heap.objs.size≤C∧(∀ x c,X.env.cells.lookup x=some c→c≠C)∧(∀ q∈X.pn++pins,q.1≠C)
theorem qM0 {X:Cx} {elt iter tg:Expr} {ifs:List Expr} {rest:List Comprehension} {scope:Scope} {pos:Pos} {N':List Str} {cap:List (Option Nat)} {wi:TI} {g:TG} {tt:TT} {tb:Addr→TB} {bc:Value→Env→Sem Unit}
    (hc:X.calm=true) (B:BlockOk X N' scope cap) (hi:PI X tg iter wi) (hg:∀ C s H fp,PG (cxB X N' scope C s H fp) tg g) (ht:∀ C s H fp,PTs (cxB X N' scope C s H fp) ifs tt)
    (htn:∀ it acc env,compTurn (.ListComp elt (⟨tg,iter,ifs,0⟩::rest) scope pos) 0 it acc env=qA6 (.ListComp elt (⟨tg,iter,ifs,0⟩::rest) scope pos) tg iter.pos ifs 0 it acc env (bc acc env))
    (hb:∀ C s H fp p,PB (cxB X N' scope C s H fp) (bc (.ref p) (cxB X N' scope C s H fp).env) (tb p))
    {pins:List (Addr×Obj)} {s:Shared} {σ:St} {H:Hp} {Q:VK} (I:Inv X pins σ H s) (h:qR3 wi g tt tb cap σ H Q) {E:Value→Shared→Prop} (hE:∀ e s,X.xe e s→E e s) :
    wpAny (model X.prog X.w) X.A (eval iter X.env) (fun x s₁=>wpAny (model X.prog X.w) X.A (pyIter x) (fun it s₂=>wpAny (model X.prog X.w) X.A (newList []) (fun acc s₃=>
      wpAny (model X.prog X.w) X.A (newFunctionEnv scope X.env.globals (clOf X.env.cells scope.names []) [] X.env.qual none .none (some X.env)) (fun cenv s₄=>
        codeAny (model X.prog X.w) X.A (.compStart (.ListComp elt (⟨tg,iter,ifs,0⟩::rest) scope pos) 0 it acc { cenv with scope:=relabel scope X.env }) (Behind X pins σ Q acc cenv.locals) s₄) E s₃) E s₂) E s₁) E s:=by
  refine wpAny_mono (hi pins s σ H _ I h) (fun v s1 h1=>wpAny_mono h1 (fun itv s2 h2=>?_) hE) hE
  obtain ⟨it,fp,tn,J,H1,e,I2,T,st2,f2,hW⟩:=h2
  subst e
  refine wpAny_newObj_type (wpAny_newFunctionEnv B.nocell (by intro y hy;simp at hy) (fun h₁ hns₁ hsb₁=>?_) B.kind)
  dsimp only at hns₁ hsb₁ ⊢
  have hp1:H1 s2.heap.objs.size=none:=I2.hok.fresh (Nat.le_refl _)
  have hL:=hW s2.heap.objs.size hp1
  have I3:Inv X pins σ (upd H1 s2.heap.objs.size (.lst [])) { s2 with heap:=s2.heap.push { cls:=.type "list",dict:=none,data:=.seq ([]:List Value).toArray },toks:=s2.toks }:=
    I2.laid (fun b o e=>Heap.get?_push_of_some _ e) (Nat.le_refl _) ⟨Nat.zero_le _,[],_,.nil,Heap.get?_push_size _ rfl⟩
  generalize hH2:s2.heap.push { cls:=.type "list",dict:=none,data:=.seq ([]:List Value).toArray } = H2 at hns₁ hsb₁ I3 ⊢
  have hC:H2.objs.size=s2.heap.objs.size+1:=by rw [← hH2,Heap.size_push]
  have ltfp:∀ b∈fp,b<s2.heap.objs.size:=fun b hb=>by
    obtain ⟨o,e,_⟩:=T.obj _ _ st2 b hb
    exact Heap.lt_size e
  have hf3:∀ b∈fp,FpOk X pins (upd H1 s2.heap.objs.size (.lst [])) b∧b<H2.objs.size:=fun b hb=>by
    obtain ⟨a0,a⟩:=f2 b hb
    refine ⟨⟨?_,a⟩,by rw [hC];exact Nat.lt_succ_of_lt (ltfp b hb)⟩
    rw [qb5 (Nat.ne_of_lt (ltfp b hb))];exact a0
  have up:∀ b o,H2.get? b=some o→h₁.get? b=some o:=fun b o e=>hsb₁.extBut b o (Nat.ne_of_lt (Heap.lt_size e)) (Heap.get?_push_of_some _ e)
  have I4:=I3.block (C:=H2.objs.size) (fp:=fp) (h4:=h₁) (tk:=s2.toks+([]:List (Str×Value)).length) B hf3 (Nat.le_refl _) up hns₁
  have st4:tn 0 h₁:=T.keep _ _ _ st2 fun b hb o e=>up b o (by rw [← hH2];exact Heap.get?_push_of_some _ e)
  have loop:codeAny (model X.prog X.w) X.A (.compLoop (.ListComp elt (⟨tg,iter,ifs,0⟩::rest) scope pos) 0 (.ref it) (.ref s2.heap.objs.size) (compEnvC scope (clOf X.env.cells scope.names []) H2.objs.size X.env))
        (Behind X pins σ Q (.ref s2.heap.objs.size) H2.objs.size) { s2 with heap:=h₁,toks:=s2.toks+([]:List (Str×Value)).length }:=by
    refine codeAny_mono (qZ6 (X:=cxB X N' scope H2.objs.size { s2 with heap:=H2,toks:=s2.toks } (upd H1 s2.heap.objs.size (.lst [])) fp) hc (fun _ _ z=>z) rfl (htn _ _ _) (hg _ _ _ _) (ht _ _ _ _) (hb _ _ _ _ _) T I4 st4 (fun b hb=>?_) hL) fun r s4 ⟨σ4,H4,hr,J4,qn⟩=>?_
    · obtain ⟨h0,h1,h2,h3,h4',h5⟩:=(hf3 b hb).1
      exact ⟨h0,Nat.ne_of_lt (hf3 b hb).2,I3.notStk h1 h2,.inl hb,fun x c e=>h4' x c (B.cl I3.ok x c e),fun p hp=>absurd (show p∈([]:List (Addr×Obj)) from hp) (by simp)⟩
    · obtain ⟨m,hm,_⟩:=J4.loc
      have IX:=I3.unblock (fun b hb=>(hf3 b hb).1) J4
      refine ⟨_,H4,m,hr,rfl,IX,qn,hm,J4.free,?_,?_,fun x c e z=>?_,fun q hq z=>?_⟩
      · exact Ne.symm (Nat.ne_of_lt I3.lt)
      · exact I3.sz
      · obtain ⟨v,q⟩:=I3.cell x c e
        exact absurd q.lt (by rw [z];exact Nat.lt_irrefl _)
      · exact absurd (Heap.lt_size (I3.pin q hq).1) (by rw [z];exact Nat.lt_irrefl _)
  exact codeAny_compStart_list loop (T.self _ 0 _ _ _ st4 loop)
theorem q89 {X:Cx} {elt iter tg:Expr} {ifs:List Expr} {rest:List Comprehension} {scope:Scope} {pos:Pos} {N':List Str} {cap:List (Option Nat)} {wi:TI} {g:TG} {tt:TT} {tb:Addr→TB} {bc:Value→Env→Sem Unit}
    (hc:X.calm=true) (B:BlockOk X N' scope cap) (hi:PI X tg iter wi) (hg:∀ C s H fp,PG (cxB X N' scope C s H fp) tg g) (ht:∀ C s H fp,PTs (cxB X N' scope C s H fp) ifs tt) (htn:∀ it acc env,compTurn (.ListComp elt (⟨tg,iter,ifs,0⟩::rest) scope pos) 0 it acc env=qA6 (.ListComp elt (⟨tg,iter,ifs,0⟩::rest) scope pos) tg iter.pos ifs 0 it acc env (bc acc env))
    (hb:∀ C s H fp p,PB (cxB X N' scope C s H fp) (bc (.ref p) (cxB X N' scope C s H fp).env) (tb p))
    (hs:∀ x,foldedSetIterable iter X.env x=pure x:=by intro _;rfl):PE X (.ListComp elt (⟨tg,iter,ifs,0⟩::rest) scope pos) (qR3 wi g tt tb cap):=by
  intro pins s σ H Q I h
  rw [eval_ListComp]
  refine wpAny_comprehension_free (use:=none) rfl hs (qx9 (B.cells I.ok)) B.kind B.names ?_
  refine wpAny_mono (qM0 hc B hi hg ht htn hb I h fun _ _ x=>x) (fun x s1 h1=>wpAny_mono h1 (fun it s2 h2=>wpAny_mono h2 (fun acc s3 h3=>wpAny_mono h3 (fun cenv s4 h4=>codeAny_mono h4 fun r s' hr=>?_) fun _ _ x=>x) fun _ _ x=>x) fun _ _ x=>x) fun _ _ x=>x
  obtain ⟨p,Hf,m,rfl,rfl,J,q,hn,c1,c2,c3,c4,c5⟩:=hr
  exact ⟨m,hn,fun h' sb=>⟨_,Hf,J.turned (t':=s'.toks) (fun b o hb e=>(sb.2 b hb).trans e) c1 c2 (.inr c3) c4 c5,(show RelV (.ref p) (.ref p) from rfl),q⟩⟩
theorem qD1 {X:Cx} {elt iter tg:Expr} {ifs:List Expr} {rest:List Comprehension} {scope:Scope} {pos spos py:Pos} {N':List Str} {cap:List (Option Nat)} {wi:TI} {g:TG} {tt:TT} {tb:Addr→TB} {bc:Value→Env→Sem Unit} {y:Str} {i:Nat}
    (hN:X.N.Nodup) (hy:X.N[i]?=some y) (hx:Loc X.env.scope y)
    (hc:X.calm=true) (B:BlockOk X N' scope cap) (hi:PI X tg iter wi) (hg:∀ C s H fp,PG (cxB X N' scope C s H fp) tg g) (ht:∀ C s H fp,PTs (cxB X N' scope C s H fp) ifs tt) (htn:∀ it acc env,compTurn (.ListComp elt (⟨tg,iter,ifs,0⟩::rest) scope pos) 0 it acc env=qA6 (.ListComp elt (⟨tg,iter,ifs,0⟩::rest) scope pos) tg iter.pos ifs 0 it acc env (bc acc env))
    (hb:∀ C s H fp p,PB (cxB X N' scope C s H fp) (bc (.ref p) (cxB X N' scope C s H fp).env) (tb p))
    (hsw:swapsWith (.ListComp elt (⟨tg,iter,ifs,0⟩::rest) scope pos) (some (.Name y py)) spos.line X.env=pure true:=by rfl)
    (hs:∀ x,foldedSetIterable iter X.env x=pure x:=by intro _;rfl) (hf:X.fn y=true∨X.env.scope.names.lookup y=some .local:=by first | exact .inl rfl | exact .inr rfl | assumption) :
    PS X (.Assign [.Name y py] (.ListComp elt (⟨tg,iter,ifs,0⟩::rest) scope pos) spos) (tAsg (qR3 wi g tt tb cap) (gName i)):=by
  intro pins s σ H D I h
  rw [exec_Assign_Name_used _ _ _ _ hsw]
  refine wpAny_bind (wpAny_standAt (wpAny_bind ?_))
  show wpAny _ _ (do let _ ← comprehension (.ListComp elt (⟨tg,iter,ifs,0⟩::rest) scope pos) scope X.env _ (newList []) false (eval iter X.env) (some (assign (.Name y py) X.env))) _ _ s
  refine wpAny_bind (wpAny_mono (wpAny_comprehension_free (use:=some (assign (.Name y py) X.env)) (Q:=fun _ s'=>SP X pins D .next s') rfl hs (qx9 (B.cells I.ok)) B.kind B.names
    (wpAny_mono (qM0 hc B hi hg ht htn hb I h fun _ _ x=>x) (fun x s1 h1=>wpAny_mono h1 (fun it s2 h2=>wpAny_mono h2 (fun acc s3 h3=>wpAny_mono h3 (fun cenv s4 h4=>codeAny_mono h4 fun r s' hr=>?_) fun _ _ x=>x) fun _ _ x=>x) fun _ _ x=>x) fun _ _ x=>x))
    (fun _ s' hq=>wpAny_pure (wpAny_pure hq)) fun _ _ e=>e)
  obtain ⟨p,Hf,m,rfl,rfl,J,q,hn,c1,c2,c3,c4,c5⟩:=hr
  refine wpAny_assign_Name (qR6 J hN hy hx (v:=.ref p) rfl (fun s2 J2 ⟨a,sb,ha⟩=>?_) hf)
  refine ⟨m,hn.sameBut sb ?_,fun h' sb2=>⟨_,Hf,J2.turned (t':=s2.toks) (fun b o hb e=>(sb2.2 b hb).trans e) c1 c2 (.inr c3) c4 c5,q⟩⟩
  rcases ha with rfl | ha
  · exact c2
  · exact Ne.symm (c4 _ _ ha)
theorem zl6 {X:Cx} {elt iter tg:Expr} {ifs:List Expr} {scope:Scope} {pos:Pos} {N':List Str} {cap:List (Option Nat)} {wi:TI} {g:TG} {tt:TT} {te:TE}
    (hc:X.calm=true) (B:BlockOk X N' scope cap) (hi:PI X tg iter wi) (hg:∀ C s H fp,PG (cxB X N' scope C s H fp) tg g) (ht:∀ C s H fp,PTs (cxB X N' scope C s H fp) ifs tt) (he:∀ C s H fp,PE (cxB X N' scope C s H fp) elt te)
    (hs:∀ x,foldedSetIterable iter X.env x=pure x:=by intro _;rfl):PE X (.ListComp elt [⟨tg,iter,ifs,0⟩] scope pos) (tComp wi g tt te cap):=
  q89 hc B hi hg ht (fun _ _ _=>compTurn_list ..) (fun C s H fp p=>q19 (he C s H fp)) hs
theorem qK1 {X:Cx} {elt iter tg:Expr} {ifs:List Expr} {scope:Scope} {pos spos py:Pos} {N':List Str} {cap:List (Option Nat)} {wi:TI} {g:TG} {tt:TT} {te:TE} {y:Str} {i:Nat}
    (hN:X.N.Nodup) (hy:X.N[i]?=some y) (hx:Loc X.env.scope y)
    (hc:X.calm=true) (B:BlockOk X N' scope cap) (hi:PI X tg iter wi) (hg:∀ C s H fp,PG (cxB X N' scope C s H fp) tg g) (ht:∀ C s H fp,PTs (cxB X N' scope C s H fp) ifs tt) (he:∀ C s H fp,PE (cxB X N' scope C s H fp) elt te)
    (hsw:swapsWith (.ListComp elt [⟨tg,iter,ifs,0⟩] scope pos) (some (.Name y py)) spos.line X.env=pure true:=by rfl)
    (hs:∀ x,foldedSetIterable iter X.env x=pure x:=by intro _;rfl) (hf:X.fn y=true∨X.env.scope.names.lookup y=some .local:=by first | exact .inl rfl | exact .inr rfl | assumption) :
    PS X (.Assign [.Name y py] (.ListComp elt [⟨tg,iter,ifs,0⟩] scope pos) spos) (tAsg (tComp wi g tt te cap) (gName i)):=
  qD1 hN hy hx hc B hi hg ht (fun _ _ _=>compTurn_list ..) (fun C s H fp p=>q19 (he C s H fp)) hsw hs hf
end L2
namespace M
open PySem PySem.Spec PyProof.Rows L2
inductive D where
  | non
  | bl (b:Bool)
  | int (i:Int)
  | str (x:Str)
  | tup (xs:List D)
  | lst (xs:List D)
  | rol (xs:List D)
  | dct (ks:List Key) (vs:List D)
  | ref (r:Nat)
inductive Cell where
  | lst (xs:List D)
  | dct (ks:List Key) (vs:List D)
noncomputable abbrev qa0:=List Cell
structure Fp where
  cs:List Addr
  fb:List Addr
noncomputable def Fp.no (μ:Fp) (a:Addr):Prop:=a ∉ μ.cs∧a ∉ μ.fb
noncomputable abbrev MEnv:=List (Option D)
theorem zm7 {α:Type} {N:List α} (hN:N.Nodup) {i j:Nat} {x:α} (a:N[i]?=some x) (b:N[j]?=some x):i=j:=by
  obtain ⟨h1,e1⟩:=List.getElem?_eq_some_iff.mp a
  obtain ⟨h2,e2⟩:=List.getElem?_eq_some_iff.mp b
  exact (List.getElem_inj hN).mp (e1.trans e2.symm)
noncomputable def KList (K:PySem.W.Frag) (a:Addr) (xs:List V):Prop:=∃ (o:Obj) (its:Array Value) (n:Nat),K.lookup a=some o∧o.cls=.type "list"∧o.dict=none∧o.data=.seq its n∧its.size≤sizeLine∧Vals xs its.toList
noncomputable def KTup (K:PySem.W.Frag) (a:Addr) (xs:List V):Prop:=∃ (o:Obj) (its:Array Value) (n:Nat),K.lookup a=some o∧o.cls=.type "tuple"∧o.dict=none∧o.data=.seq its n∧its.size≤sizeLine∧Vals xs its.toList
mutual
inductive Rep (K:PySem.W.Frag) (μ:Fp) (H:Hp):V→D→Prop
  | non:Rep K μ H .non .non
  | bl (b:Bool):Rep K μ H (.bl b) (.bl b)
  | int (i:Int):Rep K μ H (.int i) (.int i)
  | str (x:Str):Rep K μ H (.str x) (.str x)
  | tup {a:Addr} {vs:List V} {ds:List D} (h:H a=some (.tup vs)) (n:μ.no a) (r:Reps K μ H vs ds):Rep K μ H (.ref a) (.tup ds)
  | ktup {a:Addr} {vs:List V} {ds:List D} (h:KTup K a vs) (r:Reps K μ H vs ds):Rep K μ H (.ref a) (.tup ds)
  | lst {a:Addr} {vs:List V} {ds:List D} (h:H a=some (.lst vs)) (n:μ.no a) (r:Reps K μ H vs ds):Rep K μ H (.ref a) (.lst ds)
  | rol {a:Addr} {vs:List V} {ds:List D} (h:Rd H a (.lst vs)) (n:μ.no a) (r:Reps K μ H vs ds):Rep K μ H (.ref a) (.rol ds)
  | krol {a:Addr} {vs:List V} {ds:List D} (h:KList K a vs) (r:Reps K μ H vs ds):Rep K μ H (.ref a) (.rol ds)
  | dct {a:Addr} {kvs:List (Key×V)} {ds:List D} (h:H a=some (.dK kvs)) (n:μ.no a) (r:Reps K μ H (kvs.map (·.2)) ds):Rep K μ H (.ref a) (.dct (kvs.map (·.1)) ds)
  | ref {a:Addr} {r:Nat} (h:μ.cs[r]?=some a):Rep K μ H (.ref a) (.ref r)
inductive Reps (K:PySem.W.Frag) (μ:Fp) (H:Hp):List V→List D→Prop
  | nil:Reps K μ H [] []
  | cons {v:V} {d:D} {vs:List V} {ds:List D} (h:Rep K μ H v d) (t:Reps K μ H vs ds):Reps K μ H (v::vs) (d::ds)
end
structure Ext (μ:Fp) (H:Hp) (μ':Fp) (H':Hp):Prop where
  fb:μ'.fb = μ.fb
  pre:∃ l,μ'.cs = μ.cs++l∧∀ a∈l,H a=none
  keep:∀ a o,a ∉ μ.cs→H a=some o→H' a=some o
  dom:∀ a ∈ μ'.cs,H' a≠none
section
variable {K:PySem.W.Frag} {μ μ' μ'':Fp} {H H' H'':Hp}
theorem Ext.stays (e:Ext μ H μ' H') {a:Addr} {o:HO} (h:H a=some o) (n:μ.no a):H' a=some o∧μ'.no a:=by
  refine ⟨e.keep a o n.1 h,fun z=>?_,by rw [e.fb];exact n.2⟩
  obtain ⟨l,q,hl⟩:=e.pre
  rw [q] at z
  rcases List.mem_append.mp z with z | z
  · exact n.1 z
  · rw [hl a z] at h;cases h
theorem Ext.keeps (e:Ext μ H μ' H') {a:Addr} {o:HO} (h:H a=some o) (n:a ∉ μ.cs):H' a=some o∧a ∉ μ'.cs:=by
  refine ⟨e.keep a o n h,fun z=>?_⟩
  obtain ⟨l,q,hl⟩:=e.pre
  rw [q] at z
  rcases List.mem_append.mp z with z | z
  · exact n z
  · rw [hl a z] at h;cases h
theorem Ext.trans (e:Ext μ H μ' H') (f:Ext μ' H' μ'' H''):Ext μ H μ'' H'':=by
  obtain ⟨l,q,hl⟩:=e.pre
  obtain ⟨l',q',hl'⟩:=f.pre
  refine ⟨f.fb.trans e.fb,⟨l++l',by rw [q',q,List.append_assoc],fun a ha=>?_⟩,fun a o n h=>?_,f.dom⟩
  · rcases List.mem_append.mp ha with ha | ha
    · exact hl a ha
    · have h1:=hl' a ha
      cases q2:H a with
      | none=>rfl
      | some o=>
        by_cases hm:a ∈ μ.cs
        · exact absurd h1 (e.dom a (by rw [q];exact List.mem_append_left _ hm))
        · rw [e.keep a o hm q2] at h1;cases h1
  · have:=e.keeps h n
    exact f.keep a o this.2 this.1
theorem Ext.refl (h:∀ a ∈ μ.cs,H a≠none):Ext μ H μ H:=⟨rfl,⟨[],by simp,fun _ z=>by simp at z⟩,fun _ _ _ h=>h,h⟩
mutual
theorem Rep.imp (hk:∀ {a:Addr} {o:HO},H a=some o→μ.no a→H' a=some o∧μ'.no a) (hr:∀ {r:Nat} {a:Addr},μ.cs[r]?=some a→μ'.cs[r]?=some a):∀ {v:V} {d:D},Rep K μ H v d→Rep K μ' H' v d
  | _,_,.non=>.non
  | _,_,.bl b=>.bl b
  | _,_,.int i=>.int i
  | _,_,.str x=>.str x
  | _,_,.tup h n r=>.tup (hk h n).1 (hk h n).2 (Reps.imp hk hr r)
  | _,_,.ktup h r=>.ktup h (Reps.imp hk hr r)
  | _,_,.lst h n r=>.lst (hk h n).1 (hk h n).2 (Reps.imp hk hr r)
  | _,_,.rol (.inl h) n r=>.rol (.inl (hk h n).1) (hk h n).2 (Reps.imp hk hr r)
  | _,_,.rol (.inr ⟨o,h⟩) n r=>.rol (.inr ⟨o,(hk h n).1⟩) (hk h n).2 (Reps.imp hk hr r)
  | _,_,.krol h r=>.krol h (Reps.imp hk hr r)
  | _,_,.dct h n r=>.dct (hk h n).1 (hk h n).2 (Reps.imp hk hr r)
  | _,_,.ref h=>.ref (hr h)
theorem Reps.imp (hk:∀ {a:Addr} {o:HO},H a=some o→μ.no a→H' a=some o∧μ'.no a) (hr:∀ {r:Nat} {a:Addr},μ.cs[r]?=some a→μ'.cs[r]?=some a):∀ {vs:List V} {ds:List D},Reps K μ H vs ds→Reps K μ' H' vs ds
  | _,_,.nil=>.nil
  | _,_,.cons h t=>.cons (Rep.imp hk hr h) (Reps.imp hk hr t)
end
theorem zd3 {l m:List Addr} {k:List Addr} (q:k=l++m) {r:Nat} {a:Addr} (h:l[r]?=some a):k[r]?=some a:=by
  rw [q,List.getElem?_append_left (List.getElem?_eq_some_iff.mp h).1];exact h
theorem Ext.ix (e:Ext μ H μ' H') {r:Nat} {a:Addr} (h:μ.cs[r]?=some a):μ'.cs[r]?=some a:=by
  obtain ⟨l,q,_⟩:=e.pre
  exact zd3 q h
theorem Rep.mono (e:Ext μ H μ' H') {v:V} {d:D} (r:Rep K μ H v d):Rep K μ' H' v d:=r.imp e.stays e.ix
theorem Reps.mono (e:Ext μ H μ' H') {vs:List V} {ds:List D} (r:Reps K μ H vs ds):Reps K μ' H' vs ds:=r.imp e.stays e.ix
theorem Reps.length:∀ {vs:List V} {ds:List D},Reps K μ H vs ds→vs.length=ds.length
  | _,_,.nil=>rfl
  | _,_,.cons _ t=>by simp [Reps.length t]
theorem Reps.get:∀ {vs:List V} {ds:List D} {i:Nat} {d:D},Reps K μ H vs ds→ds[i]?=some d→∃ v,vs[i]?=some v∧Rep K μ H v d
  | _,_,_,_,.nil,e=>by simp at e
  | _,_,0,_,.cons h _,e=>by simp at e;subst e;exact ⟨_,rfl,h⟩
  | _,_,i+1,d,.cons _ t,e=>by
    obtain ⟨u,h1,h2⟩:=Reps.get (i:=i) (d:=d) t (by simpa using e)
    exact ⟨u,by simpa using h1,h2⟩
theorem Reps.append:∀ {vs ws:List V} {ds es:List D},Reps K μ H vs ds→Reps K μ H ws es→Reps K μ H (vs++ws) (ds++es)
  | _,_,_,_,.nil,s=>s
  | _,_,_,_,.cons r t,s=>.cons r (Reps.append t s)
theorem Reps.take:∀ {vs:List V} {ds:List D} (n:Nat),Reps K μ H vs ds→Reps K μ H (vs.take n) (ds.take n)
  | _,_,0,_=>.nil
  | _,_,_+1,.nil=>.nil
  | _,_,n+1,.cons r t=>.cons r (Reps.take n t)
theorem Reps.drop:∀ {vs:List V} {ds:List D} (n:Nat),Reps K μ H vs ds→Reps K μ H (vs.drop n) (ds.drop n)
  | _,_,0,r=>r
  | _,_,_+1,.nil=>.nil
  | _,_,n+1,.cons _ t=>Reps.drop n t
theorem Reps.set {x:V} {d:D} (r:Rep K μ H x d):∀ {vs:List V} {ds:List D} (i:Nat),Reps K μ H vs ds→Reps K μ H (vs.set i x) (ds.set i d)
  | _,_,_,.nil=>.nil
  | _,_,0,.cons _ t=>.cons r t
  | _,_,i+1,.cons q t=>.cons q (Reps.set r i t)
theorem Reps.flat {xs:List V}:∀ (k:Nat) {ds:List D},Reps K μ H xs ds→Reps K μ H (List.replicate k xs).flatten (List.replicate k ds).flatten
  | 0,_,_=>.nil
  | k+1,_,r=>by rw [List.replicate_succ,List.replicate_succ,List.flatten_cons,List.flatten_cons];exact r.append (Reps.flat k r)
noncomputable def CellOk (K:PySem.W.Frag) (μ:Fp) (H:Hp) (a:Addr):Cell→Prop
  | .lst ds=>∃ vs,H a=some (.lst vs)∧Reps K μ H vs ds
  | .dct ks ds=>∃ kvs,H a=some (.dK kvs)∧ks=kvs.map (·.1)∧Reps K μ H (kvs.map (·.2)) ds
structure SOk (K:PySem.W.Frag) (μ:Fp) (S:qa0) (H:Hp):Prop where
  nd:μ.cs.Nodup
  len:μ.cs.length=S.length
  cell:∀ (r:Nat) (a:Addr) (c:Cell),μ.cs[r]?=some a→S[r]?=some c→CellOk K μ H a c
  fdom:∀ a ∈ μ.fb,H a≠none
  disj:∀ a ∈ μ.fb,a ∉ μ.cs
theorem CellOk.ne_none {a:Addr} {c:Cell} (h:CellOk K μ H a c):H a≠none:=by
  cases c with
  | lst ds=>obtain ⟨vs,h,_⟩:=h;rw [h];simp
  | dct ks ds=>obtain ⟨vs,h,_⟩:=h;rw [h];simp
theorem CellOk.mono (e:Ext μ H μ' H') {a:Addr} {c:Cell} (he:H' a=H a) (h:CellOk K μ H a c):CellOk K μ' H' a c:=by
  cases c with
  | lst ds=>obtain ⟨vs,h,r⟩:=h;exact ⟨vs,he.trans h,r.mono e⟩
  | dct ks ds=>obtain ⟨vs,h,q,r⟩:=h;exact ⟨vs,he.trans h,q,r.mono e⟩
theorem SOk.dom {S:qa0} (s:SOk K μ S H):∀ a ∈ μ.cs,H a≠none:=fun a ha=>by
  obtain ⟨r,hr⟩:=List.mem_iff_getElem?.mp ha
  have hl:=(List.getElem?_eq_some_iff.mp hr).1
  rw [s.len] at hl
  exact (s.cell r a S[r] hr (by simp [hl])).ne_none
theorem SOk.ext {S:qa0} (s:SOk K μ S H):Ext μ H μ H:=.refl s.dom
theorem SOk.notMem {S:qa0} (s:SOk K μ S H) {p:Addr} (h:H p=none):μ.no p:=⟨fun z=>s.dom p z h,fun z=>s.fdom p z h⟩
theorem SOk.laid {S:qa0} (s:SOk K μ S H) {p:Addr} {o:HO} (h:H p=none):Ext μ H μ (upd H p o)∧SOk K μ S (upd H p o):=by
  have e:Ext μ H μ (upd H p o):=⟨rfl,⟨[],by simp,fun _ z=>by simp at z⟩,fun a o' _ q=>by rw [qb5 (qe6 q h)];exact q,fun a ha=>by
    by_cases z:a=p
    · subst z;rw [qb4];simp
    · rw [qb5 z];exact s.dom a ha⟩
  refine ⟨e,s.nd,s.len,fun r a c h1 h2=>(s.cell r a c h1 h2).mono e ?_,fun a ha=>?_,s.disj⟩
  case refine_2=>
    by_cases z:a=p
    · subst z;rw [qb4];simp
    · rw [qb5 z];exact s.fdom a ha
  have:=(s.cell r a c h1 h2).ne_none
  refine qb5 fun z=>?_
  rw [z] at this
  exact this h
theorem SOk.alloc {S:qa0} (s:SOk K μ S H) {p:Addr} {vs:List V} {ds:List D} (h:H p=none) (r:Reps K μ H vs ds):Ext μ H ⟨μ.cs++[p],μ.fb⟩ (upd H p (.lst vs))∧SOk K ⟨μ.cs++[p],μ.fb⟩ (S++[.lst ds]) (upd H p (.lst vs)):=by
  have hp:=s.notMem h
  have e:Ext μ H ⟨μ.cs++[p],μ.fb⟩ (upd H p (.lst vs)):=⟨rfl,⟨[p],rfl,fun a z=>by rw [List.mem_singleton.mp z];exact h⟩,fun a o' _ q=>by rw [qb5 (qe6 q h)];exact q,fun a ha=>by
    by_cases z:a=p
    · subst z;rw [qb4];simp
    · rw [qb5 z]
      rcases List.mem_append.mp ha with q | q
      · exact s.dom a q
      · exact absurd (List.mem_singleton.mp q) z⟩
  refine ⟨e,?_,by simp [s.len],fun i a c h1 h2=>?_,fun a ha=>?_,fun a ha z=>?_⟩
  case refine_3=>
    by_cases z:a=p
    · subst z;rw [qb4];simp
    · rw [qb5 z];exact s.fdom a ha
  case refine_4=>
    rcases List.mem_append.mp z with q | q
    · exact s.disj a ha q
    · rw [List.mem_singleton.mp q] at ha;exact hp.2 ha
  · show (μ.cs++[p]).Nodup
    rw [List.nodup_append]
    exact ⟨s.nd,by simp,fun a ha b hb=>by rw [List.mem_singleton.mp hb];rintro rfl;exact hp.1 ha⟩
  · have h1:(μ.cs++[p])[i]?=some a:=h1
    by_cases hi:i < μ.cs.length
    · rw [List.getElem?_append_left hi] at h1
      rw [List.getElem?_append_left (by rw [← s.len];exact hi)] at h2
      have q:=s.cell i a c h1 h2
      refine q.mono e (qb5 fun z=>?_)
      exact hp.1 (z ▸ List.mem_of_getElem? h1)
    · have hl:i = μ.cs.length:=by
        have:=(List.getElem?_eq_some_iff.mp h1).1
        simp at this;omega
      subst hl
      rw [List.getElem?_append_right (Nat.le_refl _)] at h1
      rw [s.len,List.getElem?_append_right (Nat.le_refl _)] at h2
      simp at h1 h2
      subst h1 h2
      exact ⟨vs,qb4,r.mono e⟩
theorem SOk.write {S:qa0} (s:SOk K μ S H) {i:Nat} {a:Addr} {vs vs':List V} {ds:List D} (hi:μ.cs[i]?=some a) (h:H a=some (.lst vs)) (r:Reps K μ H vs' ds):Ext μ H μ (upd H a (.lst vs'))∧SOk K μ (S.set i (.lst ds)) (upd H a (.lst vs')):=by
  have ha:=List.mem_of_getElem? hi
  have e:Ext μ H μ (upd H a (.lst vs')):=⟨rfl,⟨[],by simp,fun _ z=>by simp at z⟩,fun b o' n q=>by rw [qb5 (by rintro rfl;exact n ha)];exact q,fun b hb=>by
    by_cases z:b=a
    · subst z;rw [qb4];simp
    · rw [qb5 z];exact s.dom b hb⟩
  refine ⟨e,s.nd,by simp [s.len],fun j b c h1 h2=>?_,fun b hb=>?_,s.disj⟩
  case refine_2=>
    by_cases z:b=a
    · subst z;rw [qb4];simp
    · rw [qb5 z];exact s.fdom b hb
  by_cases hj:j=i
  · subst hj
    rw [hi] at h1;cases h1
    have hl:j<S.length:=by rw [← s.len];exact (List.getElem?_eq_some_iff.mp hi).1
    rw [List.getElem?_set_self hl] at h2
    cases h2
    exact ⟨vs',qb4,r.mono e⟩
  · rw [List.getElem?_set_ne (Ne.symm hj)] at h2
    refine (s.cell j b c h1 h2).mono e (qb5 fun z=>hj ?_)
    subst z
    exact zm7 s.nd h1 hi
inductive EOk (K:PySem.W.Frag) (μ:Fp) (H:Hp):L2.St→MEnv→Prop
  | nil:EOk K μ H [] []
  | no {x:Option V} {σ:L2.St} {env:MEnv} (t:EOk K μ H σ env):EOk K μ H (x::σ) (none::env)
  | yes {v:V} {d:D} {σ:L2.St} {env:MEnv} (h:Rep K μ H v d) (t:EOk K μ H σ env):EOk K μ H (some v::σ) (some d::env)
theorem EOk.mono (e:Ext μ H μ' H'):∀ {σ:L2.St} {env:MEnv},EOk K μ H σ env→EOk K μ' H' σ env
  | _,_,.nil=>.nil
  | _,_,.no t=>.no (EOk.mono e t)
  | _,_,.yes h t=>.yes (h.mono e) (EOk.mono e t)
theorem EOk.get:∀ {σ:L2.St} {env:MEnv} {i:Nat} {d:D},EOk K μ H σ env→env[i]?=some (some d)→∃ v,σ[i]?=some (some v)∧Rep K μ H v d
  | _,_,_,_,.nil,h=>by simp at h
  | _,_,0,_,.no _,h=>by simp at h
  | _,_,0,_,.yes h _,q=>by simp at q;subst q;exact ⟨_,rfl,h⟩
  | _,_,i+1,d,.no t,h=>by
    obtain ⟨v,h1,h2⟩:=EOk.get (i:=i) (d:=d) t (by simpa using h)
    exact ⟨v,by simpa using h1,h2⟩
  | _,_,i+1,d,.yes _ t,h=>by
    obtain ⟨v,h1,h2⟩:=EOk.get (i:=i) (d:=d) t (by simpa using h)
    exact ⟨v,by simpa using h1,h2⟩
theorem EOk.set {v:V} {d:D} (r:Rep K μ H v d):∀ {σ:L2.St} {env:MEnv} (i:Nat),EOk K μ H σ env→EOk K μ H (σ.set i (Option.some v)) (env.set i (Option.some d))
  | _,_,_,.nil=>.nil
  | _,_,0,.no t=>.yes r t
  | _,_,0,.yes _ t=>.yes r t
  | _,_,i+1,.no t=>.no (EOk.set r i t)
  | _,_,i+1,.yes h t=>.yes h (EOk.set r i t)
theorem EOk.start {N:Nat}:∀ {vs:List V} {ds:List D},Reps K μ H vs ds→EOk K μ H (vs.map Option.some++List.replicate N Option.none) (ds.map Option.some++List.replicate N Option.none)
  | _,_,.nil=>by
    induction N with
    | zero=>exact .nil
    | succ n ih=>exact .no ih
  | _,_,.cons h t=>.yes h (EOk.start t)
theorem EOk.block {σ:L2.St} {env:MEnv} (h:EOk K μ H σ env):∀ (cap:List (Option Nat)),EOk K μ H (σB cap σ) (cap.map fun o=>o.bind fun i=>(env[i]?).join)
  | []=>.nil
  | Option.none::r=>.no (EOk.block h r)
  | Option.some i::r=>by
    show EOk K μ H ((σ[i]?).join::σB r σ) ((env[i]?).join::_)
    cases q:(env[i]?).join with
    | none=>exact .no (EOk.block h r)
    | some d=>
      have q':env[i]?=Option.some (Option.some d):=by
        cases z:env[i]? with
        | none=>rw [z] at q;cases q
        | some y=>rw [z] at q;exact congrArg Option.some q
      obtain ⟨v,h1,h2⟩:=h.get q'
      rw [h1]
      exact .yes h2 (EOk.block h r)
theorem zm9 {p a:Addr} {cs fb:List Addr} (n:(⟨cs,p::fb⟩:Fp).no a):(⟨cs,fb⟩:Fp).no a:=⟨n.1,fun z=>n.2 (List.mem_cons_of_mem _ z)⟩
theorem Rep.less {p:Addr} {cs fb:List Addr} {v:V} {d:D} (r:Rep K ⟨cs,p::fb⟩ H v d):Rep K ⟨cs,fb⟩ H v d:=r.imp (fun h n=>⟨h,zm9 n⟩) fun h=>h
theorem Reps.less {p:Addr} {cs fb:List Addr} {v:List V} {d:List D} (r:Reps K ⟨cs,p::fb⟩ H v d):Reps K ⟨cs,fb⟩ H v d:=r.imp (fun h n=>⟨h,zm9 n⟩) fun h=>h
theorem zm8 {p:Addr} {o:HO} {cs fb:List Addr} (hp:H p=none) {a:Addr} {o':HO} (h:H a=some o') (n:(⟨cs,fb⟩:Fp).no a):upd H p o a=some o'∧(⟨cs,p::fb⟩:Fp).no a:=⟨(qb5 (qe6 h hp)).trans h,n.1,fun z=>(List.mem_cons.mp z).elim (qe6 h hp) n.2⟩
theorem Rep.more {p:Addr} {o:HO} {cs fb:List Addr} (hp:H p=none) {v:V} {d:D} (r:Rep K ⟨cs,fb⟩ H v d):Rep K ⟨cs,p::fb⟩ (upd H p o) v d:=r.imp (zm8 hp) fun h=>h
theorem Reps.more {p:Addr} {o:HO} {cs fb:List Addr} (hp:H p=none) {v:List V} {d:List D} (r:Reps K ⟨cs,fb⟩ H v d):Reps K ⟨cs,p::fb⟩ (upd H p o) v d:=r.imp (zm8 hp) fun h=>h
theorem Fp.no.ne {μ:Fp} {a p:Addr} (n:μ.no a) (hp:p ∈ μ.fb):a≠p:=fun z=>n.2 (by rw [z];exact hp)
theorem Rep.chg {p:Addr} {o:HO} (hp:p ∈ μ.fb) {v:V} {d:D} (r:Rep K μ H v d):Rep K μ (upd H p o) v d:=r.imp (fun h n=>⟨(qb5 (n.ne hp)).trans h,n⟩) fun h=>h
theorem Reps.chg {p:Addr} {o:HO} (hp:p ∈ μ.fb) {v:List V} {d:List D} (r:Reps K μ H v d):Reps K μ (upd H p o) v d:=r.imp (fun h n=>⟨(qb5 (n.ne hp)).trans h,n⟩) fun h=>h
theorem EOk.more {p:Addr} {o:HO} {cs fb:List Addr} (hp:H p=none):∀ {σ:L2.St} {env:MEnv},EOk K ⟨cs,fb⟩ H σ env→EOk K ⟨cs,p::fb⟩ (upd H p o) σ env
  | _,_,.nil=>.nil
  | _,_,.no t=>.no (EOk.more hp t)
  | _,_,.yes h t=>.yes (h.more hp) (EOk.more hp t)
theorem EOk.chg {p:Addr} {o:HO} (hp:p ∈ μ.fb):∀ {σ:L2.St} {env:MEnv},EOk K μ H σ env→EOk K μ (upd H p o) σ env
  | _,_,.nil=>.nil
  | _,_,.no t=>.no (EOk.chg hp t)
  | _,_,.yes h t=>.yes (h.chg hp) (EOk.chg hp t)
theorem CellOk.upd {p a:Addr} {o:HO} {c:Cell} (μ':Fp) (hpa:a≠p) (h:CellOk K μ H a c) (f:∀ vs ds,Reps K μ H vs ds→Reps K μ' (upd H p o) vs ds):CellOk K μ' (upd H p o) a c:=by
  cases c with
  | lst ds=>obtain ⟨vs,h,r⟩:=h;exact ⟨vs,(qb5 hpa).trans h,f _ _ r⟩
  | dct ks ds=>obtain ⟨vs,h,q,r⟩:=h;exact ⟨vs,(qb5 hpa).trans h,q,f _ _ r⟩
theorem SOk.less {S:qa0} {p:Addr} {cs fb:List Addr} (s:SOk K ⟨cs,p::fb⟩ S H):SOk K ⟨cs,fb⟩ S H:=
  ⟨s.nd,s.len,fun r a c h1 h2=>by
    have:=s.cell r a c h1 h2
    cases c with
    | lst ds=>obtain ⟨vs,h,r⟩:=this;exact ⟨vs,h,r.less⟩
    | dct ks ds=>obtain ⟨vs,h,q,r⟩:=this;exact ⟨vs,h,q,r.less⟩,fun a ha=>s.fdom a (List.mem_cons_of_mem _ ha),fun a ha=>s.disj a (List.mem_cons_of_mem _ ha)⟩
theorem SOk.more {S:qa0} {p:Addr} {o:HO} {cs fb:List Addr} (s:SOk K ⟨cs,fb⟩ S H) (hp:H p=none):SOk K ⟨cs,p::fb⟩ S (upd H p o):=by
  have hn:=s.notMem hp
  refine ⟨s.nd,s.len,fun r a c h1 h2=>(s.cell r a c h1 h2).upd _ (fun z=>?_) fun vs ds r=>r.more hp,fun a ha=>?_,fun a ha z=>?_⟩
  · exact hn.1 (z ▸ List.mem_of_getElem? h1)
  · by_cases z:a=p
    · subst z;rw [qb4];simp
    · rw [qb5 z];exact s.fdom a ((List.mem_cons.mp ha).resolve_left z)
  · rcases List.mem_cons.mp ha with rfl | ha
    · exact hn.1 z
    · exact s.disj a ha z
theorem SOk.chg {S:qa0} {p:Addr} {o:HO} (s:SOk K μ S H) (hp:p ∈ μ.fb):SOk K μ S (upd H p o):=by
  refine ⟨s.nd,s.len,fun r a c h1 h2=>(s.cell r a c h1 h2).upd _ (fun z=>?_) fun vs ds r=>r.chg hp,fun a ha=>?_,s.disj⟩
  · exact s.disj p hp (z ▸ List.mem_of_getElem? h1)
  · by_cases z:a=p
    · subst z;rw [qb4];simp
    · rw [qb5 z];exact s.fdom a ha
end
end M
namespace M
open PySem PySem.Spec PyProof.Rows L2
noncomputable abbrev ME:=MEnv→qa0→Option (D×qa0)
noncomputable abbrev MT:=MEnv→qa0→Option (Bool×qa0)
noncomputable abbrev MA:=MEnv→qa0→Option (List D×qa0)
inductive Out where
  | nx (env:MEnv) (S:qa0)
  | rt (d:D) (S:qa0)
  | bk (env:MEnv) (S:qa0)
  | ct (env:MEnv) (S:qa0)
noncomputable abbrev MS:=MEnv→qa0→Option Out
noncomputable def Post (K:PySem.W.Frag) (μ:Fp) (H:Hp) (S':qa0) (d:D) (Q:VK):Prop:=∀ v H' μ',Ext μ H μ' H'→SOk K μ' S' H'→Rep K μ' H' v d→Q v H'
noncomputable def PostT (K:PySem.W.Frag) (μ:Fp) (H:Hp) (S':qa0) (b:Bool) (Q:Bool→Hp→Prop):Prop:=∀ H' μ',Ext μ H μ' H'→SOk K μ' S' H'→Q b H'
noncomputable def PostA (K:PySem.W.Frag) (μ:Fp) (H:Hp) (S':qa0) (ds:List D) (Q:List V→Hp→Prop):Prop:=∀ vs H' μ',Ext μ H μ' H'→SOk K μ' S' H'→Reps K μ' H' vs ds→Q vs H'
noncomputable def PostN (K:PySem.W.Frag) (μ:Fp) (H:Hp) (S':qa0) (env':MEnv) (Q:L2.St→Hp→Prop):Prop:=∀ σ' H' μ',Ext μ H μ' H'→SOk K μ' S' H'→EOk K μ' H' σ' env'→Q σ' H'
noncomputable def PostS (K:PySem.W.Frag) (μ:Fp) (H:Hp) (o:Out) (E:Ends):Prop:=match o with
  | .nx env' S'=>PostN K μ H S' env' E.nx
  | .rt d S'=>Post K μ H S' d E.rt
  | .bk env' S'=>PostN K μ H S' env' E.bk
  | .ct env' S'=>PostN K μ H S' env' E.ct
inductive tM (K:PySem.W.Frag) (m:ME) (σ:L2.St) (H:Hp) (Q:VK):Prop
  | mk (μ:Fp) (S:qa0) (env:MEnv) (d:D) (S':qa0) (hS:SOk K μ S H) (hE:EOk K μ H σ env) (h:m env S=some (d,S')) (post:Post K μ H S' d Q)
inductive tMT (K:PySem.W.Frag) (m:MT) (σ:L2.St) (H:Hp) (Q:Bool→Hp→Prop):Prop
  | mk (μ:Fp) (S:qa0) (env:MEnv) (b:Bool) (S':qa0) (hS:SOk K μ S H) (hE:EOk K μ H σ env) (h:m env S=some (b,S')) (post:PostT K μ H S' b Q)
inductive tMA (K:PySem.W.Frag) (m:MA) (σ:L2.St) (H:Hp) (Q:List V→Hp→Prop):Prop
  | mk (μ:Fp) (S:qa0) (env:MEnv) (ds:List D) (S':qa0) (hS:SOk K μ S H) (hE:EOk K μ H σ env) (h:m env S=some (ds,S')) (post:PostA K μ H S' ds Q)
inductive tMS (K:PySem.W.Frag) (m:MS) (E:Ends) (σ:L2.St) (H:Hp):Prop
  | mk (μ:Fp) (S:qa0) (env:MEnv) (o:Out) (hS:SOk K μ S H) (hE:EOk K μ H σ env) (h:m env S=some o) (post:PostS K μ H o E)
inductive rM2 (K:PySem.W.Frag) (f:qa0→D→D→Option D) (x y:V) (H:Hp) (Q:VK):Prop
  | mk (μ:Fp) (S:qa0) (dx dy dz:D) (hS:SOk K μ S H) (h1:Rep K μ H x dx) (h2:Rep K μ H y dy) (h3:f S dx dy=some dz) (post:Post K μ H S dz Q)
inductive rM1 (K:PySem.W.Frag) (f:qa0→D→Option D) (x:V) (H:Hp) (Q:VK):Prop
  | mk (μ:Fp) (S:qa0) (dx dz:D) (hS:SOk K μ S H) (h1:Rep K μ H x dx) (h3:f S dx=some dz) (post:Post K μ H S dz Q)
inductive rMC (K:PySem.W.Frag) (f:List D→qa0→Option (D×qa0)) (vs:List V) (H:Hp) (Q:VK):Prop
  | mk (μ:Fp) (S:qa0) (ds:List D) (d:D) (S':qa0) (hS:SOk K μ S H) (h1:Reps K μ H vs ds) (h3:f ds S=some (d,S')) (post:Post K μ H S' d Q)
noncomputable def DE (X:Cx) (e:Expr) (m:ME):Prop:=PE X e (tM X.K m)
noncomputable def DT (X:Cx) (e:Expr) (m:MT):Prop:=PT X e (tMT X.K m)
noncomputable def DW (X:Cx) (e:Expr) (m:MT):Prop:=PW X e (tMT X.K m)
noncomputable def DA (X:Cx) (es:List Expr) (m:MA):Prop:=PA X es (tMA X.K m)
noncomputable def DS (X:Cx) (st:Stmt) (m:MS):Prop:=PS X st (tMS X.K m)
noncomputable def DSs (X:Cx) (st:List Stmt) (m:MS):Prop:=PSs X st (tMS X.K m)
section
variable {X:Cx} {K:PySem.W.Frag} {μ μ':Fp} {H H':Hp} {S S':qa0}
theorem Post.ext {d:D} {Q:VK} (e:Ext μ H μ' H') (p:Post K μ H S' d Q):Post K μ' H' S' d Q:=fun v H2 μ2 e2 s r=>p v H2 μ2 (e.trans e2) s r
theorem Post.here {d:D} {Q:VK} {v:V} (p:Post K μ H S d Q) (s:SOk K μ S H) (r:Rep K μ H v d):Q v H:=p v H μ s.ext s r
theorem PE.imp {e:Expr} {t t':TE} (h:PE X e t) (i:∀ σ H Q,t' σ H Q→t σ H Q):PE X e t':=fun pins s σ H Q I q=>h pins s σ H Q I (i σ H Q q)
theorem PT.imp {e:Expr} {t t':TT} (h:PT X e t) (i:∀ σ H Q,t' σ H Q→t σ H Q):PT X e t':=fun pins s σ H Q I q=>h pins s σ H Q I (i σ H Q q)
theorem PW.imp {e:Expr} {t t':TT} (h:PW X e t) (i:∀ σ H Q,t' σ H Q→t σ H Q):PW X e t':=fun w pins s σ H Q I q=>h w pins s σ H Q I (i σ H Q q)
theorem PA.imp {e:List Expr} {t t':TA} (h:PA X e t) (i:∀ σ H Q,t' σ H Q→t σ H Q):PA X e t':=fun pos pins s σ H Q I q=>h pos pins s σ H Q I (i σ H Q q)
theorem PS.imp {e:Stmt} {t t':TS} (h:PS X e t) (i:∀ E σ H,t' E σ H→t E σ H):PS X e t':=fun pins s σ H E I q=>h pins s σ H E I (i E σ H q)
theorem PSs.imp {e:List Stmt} {t t':TS} (h:PSs X e t) (i:∀ E σ H,t' E σ H→t E σ H):PSs X e t':=fun pins s σ H E I q=>h pins s σ H E I (i E σ H q)
theorem OpR.imp {f:Value→Value→Sem Value} {r r':R2} (h:OpR X f r) (i:∀ x y H Q,r' x y H Q→r x y H Q):OpR X f r':=fun pins s σ H x y v u Q I rx ry q=>h pins s σ H x y v u Q I rx ry (i x y H Q q)
theorem UnR.imp {f:Value→Sem Value} {r r':V→Hp→VK→Prop} (h:UnR X f r) (i:∀ x H Q,r' x H Q→r x H Q):UnR X f r':=fun pins s σ H x v Q I rx q=>h pins s σ H x v Q I rx (i x H Q q)
theorem CallR.imp {f:Value} {r r':List V→Hp→VK→Prop} (h:CallR X f r) (i:∀ x H Q,r' x H Q→r x H Q):CallR X f r':=fun pins s σ H x v Q I rx q=>h pins s σ H x v Q I rx (i x H Q q)
theorem IxR.imp {r r':R2} (h:IxR X r) (i:∀ x y H Q,r' x y H Q→r x y H Q):IxR X r':=fun va sl pins s σ H x y v u Q I rx ry q=>h va sl pins s σ H x y v u Q I rx ry (i x y H Q q)
noncomputable def mVar (i:Nat):ME:=fun env S=>(env[i]?).join.bind fun d=>some (d,S)
noncomputable def mC (d:D):ME:=fun _ S=>some (d,S)
theorem zs0 {α:Type} {o:Option (Option α)} {a:α} (h:o.join=some a):o=some (some a):=by
  cases o with
  | none=>cases h
  | some o=>exact congrArg some h
theorem de_var {i:Nat} {x:Str} {pos:Pos} (hN:X.N[i]?=some x) (hv:Vis X.env.scope x) (hd:(x == ("__debug__":Str))=false:=by decide) (hcd:(x == ("__classdict__":Str))=false:=by decide):DE X (.Name x pos) (mVar i):=
  PE.imp (pe_var hN hv hd hcd) fun σ H Q ⟨μ,S,env,d,S',hS,hE,hm,post⟩=>by
    obtain ⟨d',h1,h2⟩:=Option.bind_eq_some_iff.mp hm
    cases h2
    obtain ⟨v,e,r⟩:=hE.get (zs0 h1)
    exact ⟨v,e,post.here hS r⟩
theorem qx7 {e:Expr} {v:V} {d:D} (h:PE X e (tC v)) (r:∀ μ H,Rep X.K μ H v d):DE X e (mC d):=
  PE.imp h fun σ H Q ⟨μ,S,env,d',S',hS,hE,hm,post⟩=>by cases hm;exact post.here hS (r μ H)
theorem de_int {i:Int} {j pos}:DE X (.Constant (.int i) j pos) (mC (.int i)):=qx7 pe_int fun _ _=>.int i
theorem de_bl {b j pos}:DE X (.Constant (.bool b) j pos) (mC (.bl b)):=qx7 pe_bl fun _ _=>.bl b
theorem de_non {j pos}:DE X (.Constant .none j pos) (mC .non):=qx7 pe_non fun _ _=>.non
theorem de_str {x j pos}:DE X (.Constant (.str x) j pos) (mC (.str x)):=qx7 pe_str fun _ _=>.str x
structure GC (K:PySem.W.Frag) (mg:Str→Option Value) (x:Str) (d:D):Prop where
  ex:∃ u v,mg x=some u∧RelV v u∧∀ μ H,Rep K μ H v d
theorem de_glob {x:Str} {d:D} {pos:Pos} (g:GC X.K X.mg x d) (hg:Gl X x:=by rfl) (hd:(x == ("__debug__":Str))=false:=by decide):DE X (.Name x pos) (mC d):=by
  obtain ⟨u,v,h1,h2,h3⟩:=g.ex
  exact qx7 (pe_glob hg h1 h2 hd) h3
noncomputable def mOp (f:qa0→D→D→Option D) (a b:ME):ME:=fun env S=>(a env S).bind fun p=>(b env p.2).bind fun q=>(f q.2 p.1 q.1).bind fun z=>some (z,q.2)
theorem mOp_some {f:qa0→D→D→Option D} {a b:ME} {env:MEnv} {S S':qa0} {d:D} (h:mOp f a b env S=some (d,S')):∃ x S1 y,a env S=some (x,S1)∧b env S1=some (y,S')∧f S' x y=some d:=by
  obtain ⟨⟨x,S1⟩,h1,h⟩:=Option.bind_eq_some_iff.mp h
  obtain ⟨⟨y,S2⟩,h2,h⟩:=Option.bind_eq_some_iff.mp h
  obtain ⟨z,h3,h⟩:=Option.bind_eq_some_iff.mp h
  cases h
  exact ⟨x,S1,y,h1,h2,h3⟩
theorem q82 {f:qa0→D→D→Option D} {ma mb:ME} {σ:L2.St} {Q:VK} (h:tM K (mOp f ma mb) σ H Q):tOp (rM2 K f) (tM K ma) (tM K mb) σ H Q:=by
  obtain ⟨μ,S,env,d,S',hS,hE,hm,post⟩:=h
  obtain ⟨x,S1,y,h1,h2,h3⟩:=mOp_some hm
  exact ⟨μ,S,env,x,S1,hS,hE,h1,fun v H1 μ1 e1 s1 r1=>⟨μ1,S1,env,y,S',s1,hE.mono e1,h2,fun w H2 μ2 e2 s2 r2=>⟨μ2,S',x,y,d,s2,r1.mono e2,r2,h3,(post.ext e1).ext e2⟩⟩⟩
section
variable {a b c:Expr} {ma mb mc:ME} {pos:Pos}
theorem de_op {op:Operator} {f:qa0→D→D→Option D} (ho:OpR X (binaryOp op) (rM2 X.K f)) (ha:DE X a ma) (hb:DE X b mb):DE X (.BinOp a op b pos) (mOp f ma mb):=
  PE.imp (pe_op ho ha hb) fun _ _ _ h=>q82 h
theorem de_cmp {op:CmpOp} {f:qa0→D→D→Option D} (ho:OpR X (compareOp op) (rM2 X.K f)) (ha:DE X a ma) (hb:DE X b mb) (hm:behindInMarks op b=false):DE X (.Compare a [op] [b] pos) (mOp f ma mb):=
  PE.imp (pe_cmpR ho ha hb hm) fun _ _ _ h=>q82 h
noncomputable def mTest (m:ME):MT:=fun env S=>(m env S).bind fun p=>match p.1 with | .bl k=>some (k,p.2) | _=>none
theorem qK7 {m:ME} {env:MEnv} {S S':qa0} {k:Bool} (h:mTest m env S=some (k,S')):m env S=some (.bl k,S'):=by
  obtain ⟨⟨x,S1⟩,h1,h⟩:=Option.bind_eq_some_iff.mp h
  cases x <;> first | (cases h;exact h1) | cases h
theorem Rep.bl_inv {v:V} {k:Bool} (h:Rep K μ H v (.bl k)):v=.bl k:=by cases h;rfl
theorem Rep.int_inv {v:V} {k:Int} (h:Rep K μ H v (.int k)):v=.int k:=by cases h;rfl
theorem Rep.str_inv {v:V} {k:Str} (h:Rep K μ H v (.str k)):v=.str k:=by cases h;rfl
theorem dt_cmp {op:CmpOp} {f:qa0→D→D→Option D} (ho:OpR X (compareOp op) (rM2 X.K f)) (ha:DE X a ma) (hb:DE X b mb) (hm:behindInMarks op b=false):DT X (.Compare a [op] [b] pos) (mTest (mOp f ma mb)):=
  PT.imp (pt_cmpR ho ha hb hm) fun σ H Q ⟨μ,S,env,k,S',hS,hE,hm,post⟩=>by
    have h:=qK7 hm
    refine q82 ⟨μ,S,env,_,S',hS,hE,h,fun v H' μ' e s r=>?_⟩
    exact ⟨k,r.bl_inv,post H' μ' e s⟩
noncomputable def mChain (f g:qa0→D→D→Option D) (a b c:ME):ME:=fun env S=>(a env S).bind fun p=>(b env p.2).bind fun q=>(f q.2 p.1 q.1).bind fun z=>match z with
  | .bl true=>(c env q.2).bind fun r=>(g r.2 q.1 r.1).bind fun z=>some (z,r.2)
  | .bl false=>some (.bl false,q.2)
  | _=>none
theorem qR5 {f g:qa0→D→D→Option D} {σ:L2.St} {Q:VK} (h:tM K (mChain f g ma mb mc) σ H Q):zj7 (rM2 K f) (rM2 K g) (tM K ma) (tM K mb) (tM K mc) σ H Q:=by
  obtain ⟨μ,S,env,d,S',hS,hE,hm,post⟩:=h
  obtain ⟨⟨x,S1⟩,h1,hm⟩:=Option.bind_eq_some_iff.mp hm
  obtain ⟨⟨y,S2⟩,h2,hm⟩:=Option.bind_eq_some_iff.mp hm
  obtain ⟨z,h3,hm⟩:=Option.bind_eq_some_iff.mp hm
  refine ⟨μ,S,env,x,S1,hS,hE,h1,fun v H1 μ1 e1 s1 r1=>⟨μ1,S1,env,y,S2,s1,hE.mono e1,h2,fun w H2 μ2 e2 s2 r2=>⟨μ2,S2,x,y,z,s2,r1.mono e2,r2,h3,fun u H3 μ3 e3 s3 r3=>?_⟩⟩⟩
  cases z with
  | bl k=>
    refine ⟨k,r3.bl_inv,?_⟩
    cases k with
    | false=>cases hm;rw [if_neg Bool.false_ne_true];exact post _ H3 μ3 ((e1.trans e2).trans e3) s3 (.bl false)
    | true=>
      obtain ⟨⟨t,S4⟩,h4,hm⟩:=Option.bind_eq_some_iff.mp hm
      obtain ⟨z,h5,hm⟩:=Option.bind_eq_some_iff.mp hm
      cases hm
      rw [if_pos rfl]
      exact ⟨μ3,S2,env,t,S4,s3,hE.mono ((e1.trans e2).trans e3),h4,fun u' H4 μ4 e4 s4 r4=>⟨μ4,_,y,t,_,s4,(r2.mono e3).mono e4,r4,h5,post.ext (((e1.trans e2).trans e3).trans e4)⟩⟩
  | _=>cases hm
theorem de_chain {op op':CmpOp} {f g:qa0→D→D→Option D} (ho:OpR X (compareOp op) (rM2 X.K f)) (ho':OpR X (compareOp op') (rM2 X.K g)) (ha:DE X a ma) (hb:DE X b mb) (hc:DE X c mc)
    (hm:lastMarks [op,op'] [b,c]=false:=by with_unfolding_all rfl):DE X (.Compare a [op,op'] [b,c] pos) (mChain f g ma mb mc):=
  PE.imp (pe_chain ho ho' ha hb hc hm) fun _ _ _ h=>qR5 h
theorem dt_chain {op op':CmpOp} {f g:qa0→D→D→Option D} (ho:OpR X (compareOp op) (rM2 X.K f)) (ho':OpR X (compareOp op') (rM2 X.K g)) (ha:DE X a ma) (hb:DE X b mb) (hc:DE X c mc)
    (hm:lastMarks [op,op'] [b,c]=false:=by with_unfolding_all rfl):DT X (.Compare a [op,op'] [b,c] pos) (mTest (mChain f g ma mb mc)):=
  PT.imp (pt_chain ho ho' ha hb hc hm) fun σ H Q ⟨μ,S,env,k,S',hS,hE,hm,post⟩=>by
    have h:=qK7 hm
    refine qR5 ⟨μ,S,env,_,S',hS,hE,h,fun v H' μ' e s r=>?_⟩
    exact ⟨k,r.bl_inv,post H' μ' e s⟩
noncomputable def truD (S:qa0):D→Option Bool
  | .non=>some false
  | .bl b=>some b
  | .int i=>some (i != 0)
  | .str y=>if y.length≤sizeLine then some ((y.length:Int) != 0) else none
  | .tup xs=>some (!xs.isEmpty)
  | .lst xs=>some (!xs.isEmpty)
  | .rol xs=>some (!xs.isEmpty)
  | .dct ks _=>some (!ks.isEmpty)
  | .ref r=>match S[r]? with
    | some (.lst xs)=>some (!xs.isEmpty)
    | some (.dct ks _)=>some (!ks.isEmpty)
    | none=>none
theorem Reps.isEmpty {vs:List V} {ds:List D} (r:Reps K μ H vs ds):(!ds.isEmpty) = !vs.isEmpty:=by cases r <;> rfl
theorem qF9 {α β:Type} (f:α→β) (l:List α):(!(l.map f).isEmpty) = !l.isEmpty:=by cases l <;> rfl
theorem qM9 {x:V} {d:D} {k:Bool} (s:SOk K μ S H) (r:Rep K μ H x d) (h:truD S d=some k):TruV K x H k:=by
  cases r with
  | non=>cases h;rfl
  | bl b=>cases h;rfl
  | int i=>cases h;rfl
  | str y=>
    simp only [truD] at h
    split at h
    · rename_i hy;cases h;exact ⟨hy,rfl⟩
    · cases h
  | @tup a vs ds h' n r=>cases h;exact .inr (.inl ⟨vs,.inl (.inl h'),r.isEmpty⟩)
  | @ktup a vs ds h' r=>cases h;exact .inr (.inl ⟨vs,.inr h',r.isEmpty⟩)
  | @lst a vs ds h' n r=>cases h;exact .inl ⟨vs,.inl (.inl h'),r.isEmpty⟩
  | @rol a vs ds h' n r=>cases h;exact .inl ⟨vs,.inl h',r.isEmpty⟩
  | @krol a vs ds h' r=>cases h;exact .inl ⟨vs,.inr h',r.isEmpty⟩
  | @dct a kvs ds h' n r=>cases h;exact .inr (.inr ⟨kvs,h',qF9 _ _⟩)
  | @ref a i h'=>
    simp only [truD] at h
    cases q:S[i]? with
    | none=>rw [q] at h;cases h
    | some c=>
      rw [q] at h
      have ck:=s.cell i a c h' q
      cases c with
      | lst xs=>cases h;obtain ⟨vs,e,r⟩:=ck;exact .inl ⟨vs,.inl (.inl e),r.isEmpty⟩
      | dct ks xs=>cases h;obtain ⟨kvs,e,rfl,r⟩:=ck;exact .inr (.inr ⟨kvs,e,qF9 _ _⟩)
noncomputable def mTru (m:ME):MT:=fun env S=>(m env S).bind fun p=>(truD p.2 p.1).bind fun k=>some (k,p.2)
theorem dt_truth (ha:DE X a ma) (he:∀ whole,isTrue a X.env whole=(do let v ← whole;standAt a.pos;holding [v] (truthy v)):=by intro _;rfl):DT X a (mTru ma):=
  PT.imp (pt_truth ha he) fun σ H Q ⟨μ,S,env,k,S',hS,hE,hm,post⟩=>by
    obtain ⟨⟨x,S1⟩,h1,hm⟩:=Option.bind_eq_some_iff.mp hm
    obtain ⟨k',h2,hm⟩:=Option.bind_eq_some_iff.mp hm
    cases hm
    exact ⟨μ,S,env,x,S1,hS,hE,h1,fun v H' μ' e s r=>⟨k,qM9 s r h2,post H' μ' e s⟩⟩
variable {ta tb tc:MT} {rest:List Expr}
noncomputable def mAndT (a b:MT):MT:=fun env S=>(a env S).bind fun p=>if p.1=true then b env p.2 else some (false,p.2)
noncomputable def mOrT (a b:MT):MT:=fun env S=>(a env S).bind fun p=>if p.1=true then some (true,p.2) else b env p.2
noncomputable def mNotT (a:MT):MT:=fun env S=>(a env S).bind fun p=>some (!p.1,p.2)
theorem tAnd_of {σ:L2.St} {Q:Bool→Hp→Prop} (h:tMT K (mAndT ta tb) σ H Q):tAnd (tMT K ta) (tMT K tb) σ H Q:=by
  obtain ⟨μ,S,env,k,S',hS,hE,hm,post⟩:=h
  obtain ⟨⟨x,S1⟩,h1,hm⟩:=Option.bind_eq_some_iff.mp hm
  refine ⟨μ,S,env,x,S1,hS,hE,h1,fun H1 μ1 e1 s1=>?_⟩
  cases x with
  | true=>rw [if_pos rfl] at hm ⊢;exact ⟨μ1,S1,env,k,S',s1,hE.mono e1,hm,fun H2 μ2 e2 s2=>post H2 μ2 (e1.trans e2) s2⟩
  | false=>rw [if_neg Bool.false_ne_true] at hm ⊢;cases hm;exact post H1 μ1 e1 s1
theorem tOr_of {σ:L2.St} {Q:Bool→Hp→Prop} (h:tMT K (mOrT ta tb) σ H Q):tOr (tMT K ta) (tMT K tb) σ H Q:=by
  obtain ⟨μ,S,env,k,S',hS,hE,hm,post⟩:=h
  obtain ⟨⟨x,S1⟩,h1,hm⟩:=Option.bind_eq_some_iff.mp hm
  refine ⟨μ,S,env,x,S1,hS,hE,h1,fun H1 μ1 e1 s1=>?_⟩
  cases x with
  | false=>rw [if_neg Bool.false_ne_true] at hm ⊢;exact ⟨μ1,S1,env,k,S',s1,hE.mono e1,hm,fun H2 μ2 e2 s2=>post H2 μ2 (e1.trans e2) s2⟩
  | true=>rw [if_pos rfl] at hm ⊢;cases hm;exact post H1 μ1 e1 s1
theorem zw7 (ha:DT X a ta):DW X (.BoolOp .And [a] pos) ta:=pw_and1 ha
theorem dw_or1 (ha:DT X a ta):DW X (.BoolOp .Or [a] pos) ta:=pw_or1 ha
theorem dw_and (ha:DT X a ta) (hb:DW X (.BoolOp .And (b::rest) pos) tb):DW X (.BoolOp .And (a::b::rest) pos) (mAndT ta tb):=PW.imp (pw_and ha hb) fun _ _ _ h=>tAnd_of h
theorem dw_or (ha:DT X a ta) (hb:DW X (.BoolOp .Or (b::rest) pos) tb):DW X (.BoolOp .Or (a::b::rest) pos) (mOrT ta tb):=PW.imp (pw_or ha hb) fun _ _ _ h=>tOr_of h
theorem dt_w (h:DW X a ta):DT X a ta:=PW.pt h
theorem dt_not (ha:DT X a ta):DT X (.UnaryOp .Not a pos) (mNotT ta):=PT.imp (pt_not ha) fun σ H Q ⟨μ,S,env,k,S',hS,hE,hm,post⟩=>by
  obtain ⟨⟨x,S1⟩,h1,hm⟩:=Option.bind_eq_some_iff.mp hm
  cases hm
  exact ⟨μ,S,env,x,S1,hS,hE,h1,fun H1 μ1 e1 s1=>post H1 μ1 e1 s1⟩
noncomputable def mAnd (a b:ME):ME:=fun env S=>(a env S).bind fun p=>match p.1 with | .bl true=>b env p.2 | .bl false=>some (.bl false,p.2) | _=>none
noncomputable def mOr (a b:ME):ME:=fun env S=>(a env S).bind fun p=>match p.1 with | .bl false=>b env p.2 | .bl true=>some (.bl true,p.2) | _=>none
theorem de_one {op} (h:DE X a ma):DE X (.BoolOp op [a] pos) ma:=pe_one h
noncomputable def mNotV (a:ME):ME:=fun env S=>(a env S).bind fun p=>match p.1 with | .bl k=>some (.bl (!k),p.2) | _=>none
noncomputable def mIf (t:MT) (a b:ME):ME:=fun env S=>(t env S).bind fun p=>if p.1=true then a env p.2 else b env p.2
theorem de_if (hc:DT X c tc) (ha:DE X a ma) (hb:DE X b mb):DE X (.IfExp c a b pos) (mIf tc ma mb):=PE.imp (pe_ifExp hc ha hb) fun σ H Q ⟨μ,S,env,d,S',hS,hE,hm,post⟩=>by
  obtain ⟨⟨x,S1⟩,h1,hm⟩:=Option.bind_eq_some_iff.mp hm
  refine ⟨μ,S,env,x,S1,hS,hE,h1,fun H1 μ1 e1 s1=>?_⟩
  cases x with
  | true=>rw [if_pos rfl] at hm ⊢;exact ⟨μ1,S1,env,d,S',s1,hE.mono e1,hm,post.ext e1⟩
  | false=>rw [if_neg Bool.false_ne_true] at hm ⊢;exact ⟨μ1,S1,env,d,S',s1,hE.mono e1,hm,post.ext e1⟩
variable {es:List Expr} {ms:MA}
noncomputable def mNil:MA:=fun _ S=>some ([],S)
noncomputable def mCons (a:ME) (r:MA):MA:=fun env S=>(a env S).bind fun p=>(r env p.2).bind fun q=>some (p.1::q.1,q.2)
theorem da_nil:DA X [] mNil:=PA.imp pa_nil fun σ H Q ⟨μ,S,env,d,S',hS,hE,hm,post⟩=>by cases hm;exact post [] H μ hS.ext hS .nil
theorem da_cons (ha:DE X a ma) (hr:DA X es ms) (hs:starEach (a::es) X.env=(false,eval a X.env)::starEach es X.env:=by rfl):DA X (a::es) (mCons ma ms):=PA.imp (q20 ha hr hs) fun σ H Q ⟨μ,S,env,ds,S',hS,hE,hm,post⟩=>by
  obtain ⟨⟨x,S1⟩,h1,hm⟩:=Option.bind_eq_some_iff.mp hm
  obtain ⟨⟨xs,S2⟩,h2,hm⟩:=Option.bind_eq_some_iff.mp hm
  cases hm
  exact ⟨μ,S,env,x,S1,hS,hE,h1,fun v H1 μ1 e1 s1 r1=>⟨μ1,S1,env,xs,S2,s1,hE.mono e1,h2,fun vs H2 μ2 e2 s2 r2=>post (v::vs) H2 μ2 (e1.trans e2) s2 (.cons (r1.mono e2) r2)⟩⟩
noncomputable def mTup (ms:MA):ME:=fun env S=>(ms env S).bind fun p=>if p.1.length≤sizeLine then some (.tup p.1,p.2) else none
noncomputable def mLst (ms:MA):ME:=fun env S=>(ms env S).bind fun p=>if p.1.length≤sizeLine then some (.lst p.1,p.2) else none
noncomputable def mLstR (ms:MA):ME:=fun env S=>(ms env S).bind fun p=>if p.1.length≤sizeLine then some (.ref p.2.length,p.2++[.lst p.1]) else none
theorem Post.tup {vs:List V} {ds:List D} {Q:VK} {p:Addr} (post:Post K μ H S (.tup ds) Q) (s:SOk K μ S H) (hp:H p=none) (r:Reps K μ H vs ds):Q (.ref p) (upd H p (.tup vs)):=by
  obtain ⟨e,s'⟩:=s.laid (o:=.tup vs) hp
  exact post _ _ _ e s' (.tup qb4 (s.notMem hp) (r.mono e))
theorem Post.lst {vs:List V} {ds:List D} {Q:VK} {p:Addr} (post:Post K μ H S (.lst ds) Q) (s:SOk K μ S H) (hp:H p=none) (r:Reps K μ H vs ds):Q (.ref p) (upd H p (.lst vs)):=by
  obtain ⟨e,s'⟩:=s.laid (o:=.lst vs) hp
  exact post _ _ _ e s' (.lst qb4 (s.notMem hp) (r.mono e))
theorem Post.lstR {vs:List V} {ds:List D} {Q:VK} {p:Addr} (post:Post K μ H (S++[.lst ds]) (.ref S.length) Q) (s:SOk K μ S H) (hp:H p=none) (r:Reps K μ H vs ds):Q (.ref p) (upd H p (.lst vs)):=by
  obtain ⟨e,s'⟩:=s.alloc hp r
  exact post _ _ _ e s' (.ref (by rw [← s.len,List.getElem?_append_right (Nat.le_refl _)];simp))
theorem de_tup {k} (h:DA X es ms):DE X (.Tuple es k pos) (mTup ms):=PE.imp (pe_tup h) fun σ H Q ⟨μ,S,env,d,S',hS,hE,hm,post⟩=>by
  obtain ⟨⟨xs,S1⟩,h1,hm⟩:=Option.bind_eq_some_iff.mp hm
  dsimp only at hm
  split at hm
  · rename_i hl
    cases hm
    exact ⟨μ,S,env,_,_,hS,hE,h1,fun vs H1 μ1 e1 s1 r1=>⟨by rw [r1.length];exact hl,fun p hp=>(post.ext e1).tup s1 hp r1⟩⟩
  · cases hm
theorem de_lst (h:DA X es ms):DE X (.List es pos) (mLst ms):=PE.imp (pe_lst h) fun σ H Q ⟨μ,S,env,d,S',hS,hE,hm,post⟩=>by
  obtain ⟨⟨xs,S1⟩,h1,hm⟩:=Option.bind_eq_some_iff.mp hm
  dsimp only at hm
  split at hm
  · rename_i hl
    cases hm
    exact ⟨μ,S,env,_,_,hS,hE,h1,fun vs H1 μ1 e1 s1 r1=>⟨by rw [r1.length];exact hl,fun p hp=>(post.ext e1).lst s1 hp r1⟩⟩
  · cases hm
theorem de_lstR (h:DA X es ms):DE X (.List es pos) (mLstR ms):=PE.imp (pe_lst h) fun σ H Q ⟨μ,S,env,d,S',hS,hE,hm,post⟩=>by
  obtain ⟨⟨xs,S1⟩,h1,hm⟩:=Option.bind_eq_some_iff.mp hm
  dsimp only at hm
  split at hm
  · rename_i hl
    cases hm
    exact ⟨μ,S,env,_,_,hS,hE,h1,fun vs H1 μ1 e1 s1 r1=>⟨by rw [r1.length];exact hl,fun p hp=>(post.ext e1).lstR s1 hp r1⟩⟩
  · cases hm
theorem de_dnew:DE X (.Dict [] [] pos) (mC (.dct [] [])):=PE.imp pe_dnewK fun σ H Q ⟨μ,S,env,d,S',hS,hE,hm,post⟩=>by
  cases hm
  intro p hp
  obtain ⟨e,s'⟩:=hS.laid (o:=.dK []) hp
  exact post _ _ _ e s' (.dct (kvs:=[]) qb4 (hS.notMem hp) .nil)
end
end
end M
namespace M
open PySem PySem.Spec PyProof.Rows L2
mutual
noncomputable def eqD:D→D→Bool
  | .non,.non=>true
  | .bl a,.bl b=>a == b
  | .bl a,.int b=>(if a then 1 else 0) == b
  | .int a,.bl b=>a == (if b then 1 else 0)
  | .int a,.int b=>a == b
  | .str a,.str b=>a == b
  | .tup xs,.tup ys=>eqDs xs ys
  | .lst xs,.lst ys=>eqDs xs ys
  | _,_=>false
noncomputable def eqDs:List D→List D→Bool
  | [],[]=>true
  | x::xs,y::ys=>eqD x y&&eqDs xs ys
  | _,_=>false
end
noncomputable def okD:Nat→D→Bool
  | _,.non=>true
  | _,.bl _=>true
  | _,.int _=>true
  | _,.str _=>true
  | n+1,.tup xs=>xs.all (okD n)
  | n+1,.lst xs=>xs.all (okD n)
  | _,_=>false
theorem qN9:∀ {n m:Nat} {d:D},n≤m→okD n d=true→okD m d=true
  | n,m,.non,_,_=>by simp [okD]
  | n,m,.bl _,_,_=>by simp [okD]
  | n,m,.int _,_,_=>by simp [okD]
  | n,m,.str _,_,_=>by simp [okD]
  | 0,m,.tup _,_,h=>by simp [okD] at h
  | 0,m,.lst _,_,h=>by simp [okD] at h
  | n+1,m+1,.tup xs,hl,h=>by
    simp only [okD,List.all_eq_true] at h ⊢
    exact fun d hd=>qN9 (Nat.le_of_succ_le_succ hl) (h d hd)
  | n+1,m+1,.lst xs,hl,h=>by
    simp only [okD,List.all_eq_true] at h ⊢
    exact fun d hd=>qN9 (Nat.le_of_succ_le_succ hl) (h d hd)
  | n+1,0,.tup _,hl,_=>absurd hl (by omega)
  | n+1,0,.lst _,hl,_=>absurd hl (by omega)
  | n,m,.rol _,_,h=>by cases n <;> simp [okD] at h
  | n,m,.dct _ _,_,h=>by cases n <;> simp [okD] at h
  | n,m,.ref _,_,h=>by cases n <;> simp [okD] at h
theorem q58:∀ (xs ys:List D),eqDs xs ys=((List.range (min xs.length ys.length)).all (fun j=>match xs[j]?,ys[j]? with | some a,some b=>eqD a b | _,_=>true)&&xs.length == ys.length)
  | [],[]=>rfl
  | [],y::ys=>by simp [eqDs]
  | x::xs,[]=>by simp [eqDs]
  | x::xs,y::ys=>by
    have ih:=q58 xs ys
    rw [eqDs,ih]
    have hm:min (x::xs).length (y::ys).length=min xs.length ys.length+1:=by simp only [List.length_cons];omega
    rw [hm,List.range_succ_eq_map,List.all_cons,List.all_map]
    simp only [List.getElem?_cons_zero,List.length_cons,Bool.and_assoc]
    congr 1
    congr 1
    rw [Bool.eq_iff_iff];simp
section
variable {X:Cx} {pins:List (Addr×Obj)} {σ:L2.St} {H:Hp} {s:Shared} {μ:Fp} {A:Around}
theorem Rep.sqT {K:PySem.W.Frag} {v:V} {ds:List D} (r:Rep K μ H v (.tup ds)):∃ a vs,v=.ref a∧SqT K H a vs∧Reps K μ H vs ds:=by
  cases r with
  | tup h n r=>exact ⟨_,_,rfl,.inl (.inl h),r⟩
  | ktup h r=>exact ⟨_,_,rfl,.inr h,r⟩
theorem Rep.sqL {K:PySem.W.Frag} {v:V} {ds:List D} (r:Rep K μ H v (.lst ds)):∃ a vs,v=.ref a∧H a=some (.lst vs)∧μ.no a∧Reps K μ H vs ds:=by
  cases r with
  | lst h n r=>exact ⟨_,_,rfl,h,n,r⟩
theorem Rep.sqR {K:PySem.W.Frag} {v:V} {ds:List D} (r:Rep K μ H v (.rol ds)):∃ a vs,v=.ref a∧SqL K H a vs∧Reps K μ H vs ds:=by
  cases r with
  | rol h n r=>exact ⟨_,_,rfl,.inl h,r⟩
  | krol h r=>exact ⟨_,_,rfl,.inr h,r⟩
theorem ntl (I:Inv X pins σ H s) {a:Addr} {xs ys:List V} (h:SqT X.K H a xs) (h':SqL X.K H a ys):False:=by
  obtain ⟨its,_,⟨o,e,c,_⟩,_⟩:=I.tuple h
  obtain ⟨its',_,⟨o',n',e',c',_⟩,_⟩:=I.list h'
  rw [e] at e';cases e'
  rw [c] at c'
  exact absurd c' (by simp)
theorem Rep.non_inv {K:PySem.W.Frag} {v:V} (h:Rep K μ H v .non):v=.non:=by cases h;rfl
theorem zm2 {n:Nat} {xs:List D}:okD n (.rol xs)=false:=by cases n <;> rfl
theorem zm4 {n:Nat} {ks:List Key} {xs:List D}:okD n (.dct ks xs)=false:=by cases n <;> rfl
theorem zm3 {n:Nat} {r:Nat}:okD n (.ref r)=false:=by cases n <;> rfl
theorem qN8 {n:Nat} {xs:List D} (h:okD n (.tup xs)=true):∃ m,m+1=n∧∀ x∈xs,okD m x=true:=by
  cases n with
  | zero=>cases h
  | succ n=>exact ⟨n,rfl,List.all_eq_true.mp h⟩
theorem qO0 {n:Nat} {xs:List D} (h:okD n (.lst xs)=true):∃ m,m+1=n∧∀ x∈xs,okD m x=true:=by
  cases n with
  | zero=>cases h
  | succ n=>exact ⟨n,rfl,List.all_eq_true.mp h⟩
inductive Fm (K:PySem.W.Frag) (μ:Fp) (H:Hp):D→V→Prop
  | non:Fm K μ H .non .non
  | bl (b:Bool):Fm K μ H (.bl b) (.bl b)
  | int (i:Int):Fm K μ H (.int i) (.int i)
  | str (x:Str):Fm K μ H (.str x) (.str x)
  | tup {xs:List D} {l:Addr} {vs:List V} (q:SqT K H l vs) (r:Reps K μ H vs xs):Fm K μ H (.tup xs) (.ref l)
  | lst {xs:List D} {l:Addr} {vs:List V} (q:SqL K H l vs) (r:Reps K μ H vs xs):Fm K μ H (.lst xs) (.ref l)
theorem qY6 {K:PySem.W.Frag} {n:Nat} {x:D} {a:V} (hx:okD n x=true) (r:Rep K μ H a x):Fm K μ H x a:=by
  cases x with
  | non=>rw [r.non_inv];exact .non
  | bl b=>rw [r.bl_inv];exact .bl b
  | int b=>rw [r.int_inv];exact .int b
  | str b=>rw [r.str_inv];exact .str b
  | tup xs=>obtain ⟨l,vs,rfl,q,r⟩:=r.sqT;exact .tup q r
  | lst xs=>obtain ⟨l,vs,rfl,q,_,r⟩:=r.sqL;exact .lst (.inl (.inl q)) r
  | rol _=>rw [zm2] at hx;cases hx
  | dct _ _=>rw [zm4] at hx;cases hx
  | ref _=>rw [zm3] at hx;cases hx
theorem Reps.injN {K:PySem.W.Frag} {n:Nat} (ih:∀ {v:V} {x y:D},okD n x=true→okD n y=true→Rep K μ H v x→Rep K μ H v y→x=y):∀ {vs:List V} {xs ys:List D},(∀ x∈xs,okD n x=true)→(∀ y∈ys,okD n y=true)→Reps K μ H vs xs→Reps K μ H vs ys→xs=ys
  | _,_,_,_,_,.nil,.nil=>rfl
  | _,_,_,hx,hy,.cons h t,.cons h' t'=>by
    rw [ih (hx _ List.mem_cons_self) (hy _ List.mem_cons_self) h h',Reps.injN ih (fun x m=>hx x (List.mem_cons_of_mem _ m)) (fun x m=>hy x (List.mem_cons_of_mem _ m)) t t']
theorem zb7 (I:Inv X pins σ H s) (n:Nat) (ih:∀ m,m+1=n→∀ {v:V} {x y:D},okD m x=true→okD m y=true→Rep X.K μ H v x→Rep X.K μ H v y→x=y) {v:V} {x y:D} (hx:okD n x=true) (hy:okD n y=true) (rx:Rep X.K μ H v x) (ry:Rep X.K μ H v y):x=y:=by
  have fy:=qY6 hy ry
  cases x with
  | tup xs=>
    obtain ⟨a,vs,rfl,q,r⟩:=rx.sqT
    obtain ⟨m,hm,ox⟩:=qN8 hx
    cases fy with
    | tup q' r'=>
      cases I.tuple_inj q' q
      obtain ⟨m',hm',oy⟩:=qN8 hy
      have:m'=m:=by omega
      subst this
      rw [Reps.injN (ih m' hm) ox oy r r']
    | lst q' _=>exact (ntl I q q').elim
  | lst xs=>
    obtain ⟨a,vs,rfl,q,_,r⟩:=rx.sqL
    obtain ⟨m,hm,ox⟩:=qO0 hx
    cases y with
    | lst ys=>
      obtain ⟨m',hm',oy⟩:=qO0 hy
      have:m'=m:=by omega
      subst this
      obtain ⟨a',vs',e,q',_,r'⟩:=ry.sqL
      cases e
      rw [q] at q';cases q'
      rw [Reps.injN (ih m' hm) ox oy r r']
    | _=>cases fy <;> exact (ntl I (by assumption) (.inl (.inl q))).elim
  | non=>rw [rx.non_inv] at fy;cases fy;rfl
  | bl b=>rw [rx.bl_inv] at fy;cases fy;rfl
  | int b=>rw [rx.int_inv] at fy;cases fy;rfl
  | str b=>rw [rx.str_inv] at fy;cases fy;rfl
  | rol _=>rw [zm2] at hx;cases hx
  | dct _ _=>rw [zm4] at hx;cases hx
  | ref _=>rw [zm3] at hx;cases hx
theorem Rep.inj (I:Inv X pins σ H s) (n:Nat):∀ {v:V} {x y:D},okD n x=true→okD n y=true→Rep X.K μ H v x→Rep X.K μ H v y→x=y:=by
  induction n with
  | zero=>exact fun hx hy rx ry=>zb7 I 0 (fun m h=>absurd h (Nat.succ_ne_zero m)) hx hy rx ry
  | succ n ih=>exact fun hx hy rx ry=>zb7 I (n+1) (fun m h=>by cases h;exact ih) hx hy rx ry
theorem qx6:∀ (n:Nat) (x:D),okD n x=true→eqD x x=true
  | n,.non,_=>rfl
  | n,.bl _,_=>by simp [eqD]
  | n,.int _,_=>by simp [eqD]
  | n,.str _,_=>by simp [eqD]
  | 0,.tup _,h=>by simp [okD] at h
  | 0,.lst _,h=>by simp [okD] at h
  | n+1,.tup xs,h=>by
    simp only [okD,List.all_eq_true] at h
    rw [eqD]
    induction xs with
    | nil=>rfl
    | cons x xs ih=>rw [eqDs,qx6 n x (h x List.mem_cons_self),ih fun y m=>h y (List.mem_cons_of_mem _ m)];rfl
  | n+1,.lst xs,h=>by
    simp only [okD,List.all_eq_true] at h
    rw [eqD]
    induction xs with
    | nil=>rfl
    | cons x xs ih=>rw [eqDs,qx6 n x (h x List.mem_cons_self),ih fun y m=>h y (List.mem_cons_of_mem _ m)];rfl
  | n,.rol _,h=>by cases n <;> simp [okD] at h
  | n,.dct _ _,h=>by cases n <;> simp [okD] at h
  | n,.ref _,h=>by cases n <;> simp [okD] at h
open PySem.SeqAt
theorem qY2 (A:Around):A.in1.units=A.units+1:=rfl
theorem qX9 {its its2:List Value} {vs ws:List V} {xs ys:List D} {P:Value→Value→Bool→Prop} (r1:Vals vs its) (q1:Reps X.K μ H vs xs) (r2:Vals ws its2) (q2:Reps X.K μ H ws ys)
    (h:∀ (j:Nat) (v w:V) (u u':Value) (x y:D),xs[j]?=some x→ys[j]?=some y→Rep X.K μ H v x→Rep X.K μ H w y→RelV v u→RelV w u'→P u u' (eqD x y)) :
    ∀ j (h1:j<its.toArray.size) (h2:j<its2.toArray.size),P its.toArray[j] its2.toArray[j] (match xs[j]?,ys[j]? with | some a,some b=>eqD a b | _,_=>true):=fun j h1 h2=>by
  have l1:=r1.length
  have l2:=r2.length
  have m1:=q1.length
  have m2:=q2.length
  have h1':j<its.length:=by simpa using h1
  have h2':j<its2.length:=by simpa using h2
  have hx:xs[j]?=some xs[j]:=List.getElem?_eq_getElem (by omega)
  have hy:ys[j]?=some ys[j]:=List.getElem?_eq_getElem (by omega)
  obtain ⟨v,e1,p1⟩:=q1.get hx
  obtain ⟨w,e2,p2⟩:=q2.get hy
  obtain ⟨u,f1,g1⟩:=r1.get e1
  obtain ⟨u',f2,g2⟩:=r2.get e2
  rw [hx,hy]
  have:=h j v w u u' _ _ hx hy p1 p2 g1 g2
  have f1':its.toArray[j]=u:=by simpa [List.getElem?_eq_getElem h1'] using f1
  have f2':its2.toArray[j]=u':=by simpa [List.getElem?_eq_getElem h2'] using f2
  rw [f1',f2']
  exact this
structure Cmp3 (A:Around) (s:Shared) (u v:Value) (b:Bool):Prop where
  eq:EqAt A s u v b
  rc:RcAt A s u v b
  ne:RcNeAt A s u v (!b)
theorem zw4 (I:Inv X pins σ H s) (n:Nat) (ih:∀ m,m+1=n→∀ (A:Around) {a b:V} {u v:Value} {x y:D},A.units+m<cLine→okD m x=true→okD m y=true→Rep X.K μ H a x→Rep X.K μ H b y→RelV a u→RelV b v→Cmp3 A s u v (eqD x y))
    (A:Around) {a b:V} {u v:Value} {x y:D} (hn:A.units+n<cLine) (hx:okD n x=true) (hy:okD n y=true) (rx:Rep X.K μ H a x) (ry:Rep X.K μ H b y) (ra:RelV a u) (rb:RelV b v):Cmp3 A s u v (eqD x y):=by
  have hu:A.units<cLine:=by omega
  cases qY6 hx rx with
  | non=>
    cases ra
    cases qY6 hy ry with
    | non=>cases rb;exact ⟨EqAt.same _,RcAt.none_none,RcNeAt.none_none⟩
    | bl b=>cases rb;exact ⟨EqAt.none_bool b,RcAt.none_bool b,RcNeAt.none_bool b⟩
    | int b=>obtain ⟨t,rfl⟩:=rb;exact ⟨EqAt.none_int b t,RcAt.none_int b t,RcNeAt.none_int b t⟩
    | str b=>obtain ⟨t,rfl⟩:=rb;exact ⟨EqAt.none_str b t,RcAt.none_str b t,RcNeAt.none_str b t⟩
    | tup q r=>cases rb;obtain ⟨its,rv,p,_⟩:=I.tuple q;exact ⟨EqAt.none_tuple p hu,RcAt.none_tuple p hu,RcNeAt.none_tuple p hu⟩
    | lst q r=>cases rb;obtain ⟨its,rv,p,_⟩:=I.list q;exact ⟨EqAt.none_list p.isList hu,RcAt.none_list p.isList hu,RcNeAt.none_list p.isList hu⟩
  | bl a=>
    cases ra
    cases qY6 hy ry with
    | non=>cases rb;exact ⟨EqAt.bool_none a,RcAt.bool_none a,RcNeAt.bool_none a⟩
    | bl b=>cases rb;exact ⟨EqAt.bool_bool a b,RcAt.bool_bool a b,RcNeAt.bool_bool a b⟩
    | int b=>obtain ⟨t,rfl⟩:=rb;exact ⟨EqAt.bool_int a b t,RcAt.bool_int a b t,RcNeAt.bool_int a b t⟩
    | str b=>obtain ⟨t,rfl⟩:=rb;exact ⟨EqAt.bool_str a b t,RcAt.bool_str a b t,RcNeAt.bool_str a b t⟩
    | tup q r=>cases rb;obtain ⟨its,rv,p,_⟩:=I.tuple q;exact ⟨EqAt.bool_tuple a p hu,RcAt.bool_tuple a p hu,RcNeAt.bool_tuple a p hu⟩
    | lst q r=>cases rb;obtain ⟨its,rv,p,_⟩:=I.list q;exact ⟨EqAt.bool_list a p.isList hu,RcAt.bool_list a p.isList hu,RcNeAt.bool_list a p.isList hu⟩
  | int a=>
    obtain ⟨t',rfl⟩:=ra
    cases qY6 hy ry with
    | non=>cases rb;exact ⟨EqAt.int_none a t',RcAt.int_none a t',RcNeAt.int_none a t'⟩
    | bl b=>cases rb;exact ⟨EqAt.int_bool a t' b,RcAt.int_bool a t' b,RcNeAt.int_bool a t' b⟩
    | int b=>obtain ⟨t,rfl⟩:=rb;exact ⟨EqAt.int_int a t' b t,RcAt.int_int a t' b t,RcNeAt.int_int a t' b t⟩
    | str b=>obtain ⟨t,rfl⟩:=rb;exact ⟨EqAt.int_str a t' b t,RcAt.int_str a t' b t,RcNeAt.int_str a t' b t⟩
    | tup q r=>cases rb;obtain ⟨its,rv,p,_⟩:=I.tuple q;exact ⟨EqAt.int_tuple a t' p hu,RcAt.int_tuple a t' p hu,RcNeAt.int_tuple a t' p hu⟩
    | lst q r=>cases rb;obtain ⟨its,rv,p,_⟩:=I.list q;exact ⟨EqAt.int_list a t' p.isList hu,RcAt.int_list a t' p.isList hu,RcNeAt.int_list a t' p.isList hu⟩
  | str a=>
    obtain ⟨t',rfl⟩:=ra
    cases qY6 hy ry with
    | non=>cases rb;exact ⟨EqAt.str_none a t',RcAt.str_none a t',RcNeAt.str_none a t'⟩
    | bl b=>cases rb;exact ⟨EqAt.str_bool a t' b,RcAt.str_bool a t' b,RcNeAt.str_bool a t' b⟩
    | int b=>obtain ⟨t,rfl⟩:=rb;exact ⟨EqAt.str_int a t' b t,RcAt.str_int a t' b t,RcNeAt.str_int a t' b t⟩
    | str b=>obtain ⟨t,rfl⟩:=rb;exact ⟨EqAt.str_str a t' b t,RcAt.str_str a t' b t,RcNeAt.str_str a t' b t⟩
    | tup q r=>cases rb;obtain ⟨its,rv,p,_⟩:=I.tuple q;exact ⟨EqAt.str_tuple a t' p hu,RcAt.str_tuple a t' p hu,RcNeAt.str_tuple a t' p hu⟩
    | lst q r=>cases rb;obtain ⟨its,rv,p,_⟩:=I.list q;exact ⟨EqAt.str_list a t' p.isList hu,RcAt.str_list a t' p.isList hu,RcNeAt.str_list a t' p.isList hu⟩
  | @tup xs l vs q r=>
    cases ra
    obtain ⟨its,rv,p,_⟩:=I.tuple q
    cases qY6 hy ry with
    | non=>cases rb;exact ⟨EqAt.tuple_none p hu,RcAt.tuple_none p hu,RcNeAt.tuple_none p hu⟩
    | bl b=>cases rb;exact ⟨EqAt.tuple_bool b p hu,RcAt.tuple_bool b p hu,RcNeAt.tuple_bool b p hu⟩
    | int b=>obtain ⟨t,rfl⟩:=rb;exact ⟨EqAt.tuple_int b t p hu,RcAt.tuple_int b t p hu,RcNeAt.tuple_int b t p hu⟩
    | str b=>obtain ⟨t,rfl⟩:=rb;exact ⟨EqAt.tuple_str b t p hu,RcAt.tuple_str b t p hu,RcNeAt.tuple_str b t p hu⟩
    | @tup ys l' vs' q' r'=>
      cases rb
      obtain ⟨its',rv',p',_⟩:=I.tuple q'
      obtain ⟨m,hm,ox⟩:=qN8 hx
      obtain ⟨m',hm',oy⟩:=qN8 hy
      have:m'=m:=by omega
      subst this
      have all:=qX9 (P:=fun u u' b=>EqAt A.in1 s u u' b) rv r rv' r' fun j v w u u' x y hx' hy' q1 q2 g1 g2=>
        (ih m' hm A.in1 (by rw [qY2];omega) (ox x (List.mem_of_getElem? hx')) (oy y (List.mem_of_getElem? hy')) q1 q2 g1 g2).eq
      have e0:its.toArray.size=xs.length:=by rw [List.size_toArray,← rv.length,r.length]
      have e1:its'.toArray.size=ys.length:=by rw [List.size_toArray,← rv'.length,r'.length]
      have key:=RcAt.tuples (A:=A) (s:=s) p p' hu all
      have kne:=RcNeAt.tuples (A:=A) (s:=s) p p' hu all
      rw [e0,e1,← q58] at key kne
      refine ⟨?_,key,kne⟩
      by_cases hl:l=l'
      · subst hl
        rw [← Rep.inj I n hx hy rx ry,qx6 _ _ hx]
        exact EqAt.same _
      · exact EqAt.of_refs hl key
    | lst q' r'=>cases rb;obtain ⟨its',rv',p',_⟩:=I.list q';exact ⟨EqAt.tuple_list p p'.isList hu,RcAt.tuple_list p p'.isList hu,RcNeAt.tuple_list p p'.isList hu⟩
  | @lst xs l vs q r=>
    cases ra
    obtain ⟨its,rv,p0,_⟩:=I.list q
    have p:=p0.isList
    cases qY6 hy ry with
    | non=>cases rb;exact ⟨EqAt.list_none p hu,RcAt.list_none p hu,RcNeAt.list_none p hu⟩
    | bl b=>cases rb;exact ⟨EqAt.list_bool b p hu,RcAt.list_bool b p hu,RcNeAt.list_bool b p hu⟩
    | int b=>obtain ⟨t,rfl⟩:=rb;exact ⟨EqAt.list_int b t p hu,RcAt.list_int b t p hu,RcNeAt.list_int b t p hu⟩
    | str b=>obtain ⟨t,rfl⟩:=rb;exact ⟨EqAt.list_str b t p hu,RcAt.list_str b t p hu,RcNeAt.list_str b t p hu⟩
    | tup q' r'=>cases rb;obtain ⟨its',rv',p',_⟩:=I.tuple q';exact ⟨EqAt.list_tuple p p' hu,RcAt.list_tuple p p' hu,RcNeAt.list_tuple p p' hu⟩
    | @lst ys l' vs' q' r'=>
      cases rb
      obtain ⟨its',rv',p0',_⟩:=I.list q'
      have p':=p0'.isList
      obtain ⟨m,hm,ox⟩:=qO0 hx
      obtain ⟨m',hm',oy⟩:=qO0 hy
      have:m'=m:=by omega
      subst this
      have all:=qX9 (P:=fun u u' b=>EqAt A.in1 s u u' b) rv r rv' r' fun j v w u u' x y hx' hy' q1 q2 g1 g2=>
        (ih m' hm A.in1 (by rw [qY2];omega) (ox x (List.mem_of_getElem? hx')) (oy y (List.mem_of_getElem? hy')) q1 q2 g1 g2).eq
      have e0:its.toArray.size=xs.length:=by rw [List.size_toArray,← rv.length,r.length]
      have e1:its'.toArray.size=ys.length:=by rw [List.size_toArray,← rv'.length,r'.length]
      have key:RcAt A s (.ref l) (.ref l') (eqDs xs ys)∧RcNeAt A s (.ref l) (.ref l') (!eqDs xs ys):=by
        rw [q58]
        by_cases hlen:xs.length=ys.length
        · have k1:=RcAt.lists (A:=A) (s:=s) p p' (by rw [e0,e1,hlen]) hu all
          have k2:=RcNeAt.lists (A:=A) (s:=s) p p' (by rw [e0,e1,hlen]) hu all
          rw [e0] at k1 k2
          rw [← hlen,Nat.min_self,beq_self_eq_true,Bool.and_true]
          exact ⟨k1,k2⟩
        · rw [show (xs.length == ys.length)=false from beq_eq_false_iff_ne.mpr hlen,Bool.and_false]
          exact ⟨RcAt.lists_lengths (A:=A) (s:=s) p p' (by rw [e0,e1];exact bne_iff_ne.mpr hlen) hu,RcNeAt.lists_lengths (A:=A) (s:=s) p p' (by rw [e0,e1];exact bne_iff_ne.mpr hlen) hu⟩
      refine ⟨?_,key.1,key.2⟩
      by_cases hl:l=l'
      · subst hl
        rw [← Rep.inj I n hx hy rx ry,qx6 _ _ hx]
        exact EqAt.same _
      · exact EqAt.of_refs hl key.1
theorem cmp3 (I:Inv X pins σ H s) (n:Nat):∀ (A:Around) {a b:V} {u v:Value} {x y:D},A.units+n<cLine→okD n x=true→okD n y=true→Rep X.K μ H a x→Rep X.K μ H b y→RelV a u→RelV b v→Cmp3 A s u v (eqD x y):=by
  induction n with
  | zero=>exact fun A _ _ _ _ _ _ hn hx hy rx ry ra rb=>zw4 I 0 (fun m h=>absurd h (Nat.succ_ne_zero m)) A hn hx hy rx ry ra rb
  | succ n ih=>exact fun A _ _ _ _ _ _ hn hx hy rx ry ra rb=>zw4 I (n+1) (fun m h=>by cases h;exact ih) A hn hx hy rx ry ra rb
theorem eqRc (I:Inv X pins σ H s) (n:Nat) (A:Around) {a b:V} {u v:Value} {x y:D} (hn:A.units+n<cLine) (hx:okD n x=true) (hy:okD n y=true) (rx:Rep X.K μ H a x) (ry:Rep X.K μ H b y) (ra:RelV a u) (rb:RelV b v) :
    EqAt A s u v (eqD x y)∧RcAt A s u v (eqD x y):=⟨(cmp3 I n A hn hx hy rx ry ra rb).eq,(cmp3 I n A hn hx hy rx ry ra rb).rc⟩
theorem neRc (I:Inv X pins σ H s) (n:Nat) (A:Around) {a b:V} {u v:Value} {x y:D} (hn:A.units+n<cLine) (hx:okD n x=true) (hy:okD n y=true) (rx:Rep X.K μ H a x) (ry:Rep X.K μ H b y) (ra:RelV a u) (rb:RelV b v) :
    RcNeAt A s u v (!eqD x y):=(cmp3 I n A hn hx hy rx ry ra rb).ne
end
end M
namespace M
open PySem PySem.Spec PyProof.Rows L2
section
variable {X:Cx} {pins:List (Addr×Obj)} {σ:L2.St} {H:Hp} {s:Shared} {μ:Fp} {A:Around}
open PySem.SeqAt
end
noncomputable def seqD (S:qa0):D→Option (List D)
  | .tup xs=>some xs
  | .lst xs=>some xs
  | .rol xs=>some xs
  | .ref r=>match S[r]? with | some (.lst xs)=>some xs | _=>none
  | _=>none
section
variable {X:Cx} {K:PySem.W.Frag} {μ:Fp} {H:Hp} {S:qa0}
theorem qr6 {x:V} {d:D} {ds:List D} (s:SOk K μ S H) (r:Rep K μ H x d) (h:seqD S d=some ds):∃ a vs,x=.ref a∧(SqL K H a vs∨SqT K H a vs)∧Reps K μ H vs ds:=by
  cases r with
  | tup h' n r=>cases h;exact ⟨_,_,rfl,.inr (.inl (.inl h')),r⟩
  | ktup h' r=>cases h;exact ⟨_,_,rfl,.inr (.inr h'),r⟩
  | lst h' n r=>cases h;exact ⟨_,_,rfl,.inl (.inl (.inl h')),r⟩
  | rol h' n r=>cases h;exact ⟨_,_,rfl,.inl (.inl h'),r⟩
  | krol h' r=>cases h;exact ⟨_,_,rfl,.inl (.inr h'),r⟩
  | @ref a i h'=>
    simp only [seqD] at h
    cases q:S[i]? with
    | none=>rw [q] at h;cases h
    | some c=>
      rw [q] at h
      have ck:=s.cell i a c h' q
      cases c with
      | lst xs=>cases h;obtain ⟨vs,e,r⟩:=ck;exact ⟨_,vs,rfl,.inl (.inl (.inl e)),r⟩
      | dct ks xs=>cases h
  | _=>cases h
noncomputable def fEq (S:qa0) (x y:D):Option D:=if okD 40 x=true∧okD 40 y=true then some (.bl (eqD x y)) else none
noncomputable def fNe (S:qa0) (x y:D):Option D:=if okD 40 x=true∧okD 40 y=true then some (.bl (!eqD x y)) else none
theorem op_Eq (hu:X.A.units+64<cLine):OpR X (compareOp .Eq) (rM2 X.K fEq):=by
  intro pins s σ H x y v u Q I rx ry h
  obtain ⟨μ,S,dx,dy,dz,hS,h1,h2,h3,post⟩:=h
  simp only [fEq] at h3
  split at h3
  · rename_i hk
    cases h3
    exact (eqRc I 40 X.A (by omega) hk.1 hk.2 h1 h2 rx ry).2 X.prog X.w X.xe _ ⟨.bl _,H,I,rfl,post.here hS (.bl _)⟩
  · cases h3
theorem op_Ne (hu:X.A.units+64<cLine):OpR X (compareOp .NotEq) (rM2 X.K fNe):=by
  intro pins s σ H x y v u Q I rx ry h
  obtain ⟨μ,S,dx,dy,dz,hS,h1,h2,h3,post⟩:=h
  simp only [fNe] at h3
  split at h3
  · rename_i hk
    cases h3
    exact neRc I 40 X.A (by omega) hk.1 hk.2 h1 h2 rx ry X.prog X.w X.xe _ ⟨.bl _,H,I,rfl,post.here hS (.bl _)⟩
  · cases h3
open Classical in
noncomputable def qq5 (K:PySem.W.Frag) (μ:Fp) (H:Hp) (x:D) (u:Value):Bool:=decide (∃ v d,RelV v u∧Rep K μ H v d∧okD 39 d=true∧eqD d x=true)
open Classical in
theorem qQ0 {pins:List (Addr×Obj)} {σ:L2.St} {s:Shared} (I:Inv X pins σ H s) {x d:D} {v:V} {u:Value} (rv:RelV v u) (r:Rep X.K μ H v d) (ok:okD 39 d=true):qq5 X.K μ H x u=eqD d x:=by
  unfold qq5
  cases e:eqD d x with
  | true=>exact decide_eq_true ⟨v,d,rv,r,ok,e⟩
  | false=>
    refine decide_eq_false ?_
    rintro ⟨v',d',rv',r',ok',e'⟩
    cases rv.inj rv'
    rw [Rep.inj I 39 ok ok' r r'] at e
    rw [e] at e';cases e'
theorem qt0 {pins:List (Addr×Obj)} {σ:L2.St} {s:Shared} (I:Inv X pins σ H s) {x:D}:∀ {vs:List V} {us:List Value} {ds:List D},Vals vs us→Reps X.K μ H vs ds→(∀ d∈ds,okD 39 d=true) →
    us.any (qq5 X.K μ H x)=ds.any fun d=>eqD d x
  | _,_,_,.nil,.nil,_=>rfl
  | _,_,_,.cons rv tv,.cons r t,ok=>by
    rw [List.any_cons,List.any_cons,qQ0 I rv r (ok _ List.mem_cons_self),qt0 I tv t fun d m=>ok d (List.mem_cons_of_mem _ m)]
theorem qn2 {pins:List (Addr×Obj)} {σ:L2.St} {s:Shared} (I:Inv X pins σ H s) {A:Around} (hu:A.units+40<cLine) {x:D} {v:V} {u:Value} (rx:RelV v u) (rD:Rep X.K μ H v x) (okx:okD 40 x=true) :
    ∀ {vs:List V} {us:List Value} {ds:List D},Vals vs us→Reps X.K μ H vs ds→(∀ d∈ds,okD 39 d=true)→∀ w∈us,PySem.SeqAt.EqAt A s w u (qq5 X.K μ H x w)
  | _,_,_,.nil,.nil,_=>fun w hw=>by cases hw
  | _,_,_,.cons rv tv,.cons r t,ok=>fun w hw=>by
    rcases List.mem_cons.mp hw with rfl | hw
    · rw [qQ0 I rv r (ok _ List.mem_cons_self)]
      exact (eqRc I 40 A hu (qN9 (by decide) (ok _ List.mem_cons_self)) okx r rD rv rx).1
    · exact qn2 I hu rx rD okx tv t (fun d m=>ok d (List.mem_cons_of_mem _ m)) w hw
noncomputable def fIn (S:qa0) (x y:D):Option D:=(seqD S y).bind fun ds=>if okD 40 x=true∧ds.all (okD 39)=true then some (.bl (ds.any fun d=>eqD d x)) else none
noncomputable def qL8 (S:qa0) (x y:D):Option D:=(seqD S y).bind fun ds=>if okD 40 x=true∧ds.all (okD 39)=true then some (.bl (!ds.any fun d=>eqD d x)) else none
theorem op_In (hu:X.A.units+64<cLine):OpR X (compareOp .In) (rM2 X.K fIn):=by
  intro pins s σ H x y v u Q I rx ry h
  obtain ⟨μ,S,dx,dy,dz,hS,h1,h2,h3,post⟩:=h
  obtain ⟨ds,e,h3⟩:=Option.bind_eq_some_iff.mp h3
  split at h3
  · rename_i hk
    cases h3
    obtain ⟨a,vs,rfl,hq,r⟩:=qr6 hS h2 e
    cases ry
    have ok:=List.all_eq_true.mp hk.2
    rcases hq with hq | hq
    · obtain ⟨its,rv,pl,hz⟩:=I.list hq
      refine SeqAt.in_listAt (qq5 X.K μ H dx) pl.isList (fun w hw=>qn2 I (by show X.A.units+1+40<cLine;omega) rx h1 hk.1 rv r ok w (by simpa using hw)) ⟨.bl _,H,I,rfl,?_⟩
      rw [show its.toArray.any (qq5 X.K μ H dx)=its.any (qq5 X.K μ H dx) by simp,qt0 I rv r ok]
      exact post.here hS (.bl _)
    · obtain ⟨its,rv,pl,hz⟩:=I.tuple hq
      refine SeqAt.in_tupleAt (qq5 X.K μ H dx) pl (fun w hw=>qn2 I (by show X.A.units+1+40<cLine;omega) rx h1 hk.1 rv r ok w (by simpa using hw)) ⟨.bl _,H,I,rfl,?_⟩
      rw [show its.toArray.any (qq5 X.K μ H dx)=its.any (qq5 X.K μ H dx) by simp,qt0 I rv r ok]
      exact post.here hS (.bl _)
  · cases h3
theorem op_NotIn (hu:X.A.units+64<cLine):OpR X (compareOp .NotIn) (rM2 X.K qL8):=by
  intro pins s σ H x y v u Q I rx ry h
  obtain ⟨μ,S,dx,dy,dz,hS,h1,h2,h3,post⟩:=h
  obtain ⟨ds,e,h3⟩:=Option.bind_eq_some_iff.mp h3
  split at h3
  · rename_i hk
    cases h3
    obtain ⟨a,vs,rfl,hq,r⟩:=qr6 hS h2 e
    cases ry
    have ok:=List.all_eq_true.mp hk.2
    rcases hq with hq | hq
    · obtain ⟨its,rv,pl,hz⟩:=I.list hq
      refine SeqAt.notIn_listAt (qq5 X.K μ H dx) pl.isList (fun w hw=>qn2 I (by show X.A.units+1+40<cLine;omega) rx h1 hk.1 rv r ok w (by simpa using hw)) ⟨.bl _,H,I,rfl,?_⟩
      rw [show its.toArray.any (qq5 X.K μ H dx)=its.any (qq5 X.K μ H dx) by simp,qt0 I rv r ok]
      exact post.here hS (.bl _)
    · obtain ⟨its,rv,pl,hz⟩:=I.tuple hq
      refine SeqAt.notIn_tupleAt (qq5 X.K μ H dx) pl (fun w hw=>qn2 I (by show X.A.units+1+40<cLine;omega) rx h1 hk.1 rv r ok w (by simpa using hw)) ⟨.bl _,H,I,rfl,?_⟩
      rw [show its.toArray.any (qq5 X.K μ H dx)=its.any (qq5 X.K μ H dx) by simp,qt0 I rv r ok]
      exact post.here hS (.bl _)
  · cases h3
noncomputable def isD:D→D→Bool
  | .non,.non=>true
  | .bl a,.bl b=>a == b
  | _,_=>false
noncomputable def fIs (S:qa0) (x y:D):Option D:=match y with | .non=>some (.bl (isD x y)) | .bl _=>some (.bl (isD x y)) | _=>none
noncomputable def qG6 (S:qa0) (x y:D):Option D:=match y with | .non=>some (.bl (!isD x y)) | .bl _=>some (.bl (!isD x y)) | _=>none
theorem isD_of {x y:V} {dx dy:D} {v u:Value} (h1:Rep K μ H x dx) (h2:Rep K μ H y dy) (rx:RelV x v) (ry:RelV y u) (hy:dy=.non∨∃ b,dy=.bl b):plainIs v u=true∧(v == u)=isD dx dy:=by
  rcases hy with rfl | ⟨b,rfl⟩
  · cases h2;cases ry
    cases h1 <;> first | (cases rx;exact ⟨rfl,rfl⟩) | (obtain ⟨t,rfl⟩:=rx;exact ⟨rfl,rfl⟩)
  · cases h2;cases ry
    cases h1 <;> first | (cases rx;exact ⟨rfl,rfl⟩) | (obtain ⟨t,rfl⟩:=rx;exact ⟨rfl,rfl⟩) | (cases rx;rename_i c;refine ⟨rfl,?_⟩;cases b <;> cases c <;> rfl)
theorem op_Is:OpR X (compareOp .Is) (rM2 X.K fIs):=by
  intro pins s σ H x y v u Q I rx ry h
  obtain ⟨μ,S,dx,dy,dz,hS,h1,h2,h3,post⟩:=h
  have hy:(dy=.non∨∃ b,dy=.bl b)∧dz=.bl (isD dx dy):=by
    cases dy <;> first | (cases h3;exact ⟨.inl rfl,rfl⟩) | (cases h3;exact ⟨.inr ⟨_,rfl⟩,rfl⟩) | cases h3
  obtain ⟨p,e⟩:=isD_of h1 h2 rx ry hy.1
  cases hy.2
  exact wpAny_is_plain p ⟨.bl _,H,I,congrArg Value.bool e,post.here hS (.bl _)⟩
theorem op_IsNot:OpR X (compareOp .IsNot) (rM2 X.K qG6):=by
  intro pins s σ H x y v u Q I rx ry h
  obtain ⟨μ,S,dx,dy,dz,hS,h1,h2,h3,post⟩:=h
  have hy:(dy=.non∨∃ b,dy=.bl b)∧dz=.bl (!isD dx dy):=by
    cases dy <;> first | (cases h3;exact ⟨.inl rfl,rfl⟩) | (cases h3;exact ⟨.inr ⟨_,rfl⟩,rfl⟩) | cases h3
  obtain ⟨p,e⟩:=isD_of h1 h2 rx ry hy.1
  cases hy.2
  exact wpAny_isNot_plain p ⟨.bl _,H,I,congrArg (fun b=>Value.bool (!b)) e,post.here hS (.bl _)⟩
end
end M
namespace HT
open PySem PySem.Spec PyProof.Rows
section
variable {prog:Program} {w:World} {A:Around} {E:Value→Shared→Prop} {s:Shared}
theorem cat_nil {t b:Addr} {ws:List Value} {Q:Value→Shared→Prop} (ht:IsTup s.heap t #[]) (hb:IsTup s.heap b ws.toArray) (h:Q (.ref b) s):wpAny (model prog w) A (binaryOp .Add (.ref t) (.ref b)) Q E s:=by
  obtain ⟨⟨cls,dd,data,sl⟩,ho,hc,n,hd⟩:=id ht
  obtain ⟨⟨cls2,dd2,data2,sl2⟩,ho2,hc2,n2,hd2⟩:=id hb
  simp only at hc hd hc2 hd2
  subst hc hd hc2 hd2
  exact concat_meets ⟨_,ho,rfl⟩ ⟨_,ho2,rfl⟩ noFill_tuple_add seq_tuple_add PySem.F.slot_tuple_add PySem.F.entry_tuple_add (PySem.F.args_tuple_add_2 _ _)
      (tuple_addW0 t b #[] ws.toArray n n2 dd dd2 sl sl2 rfl) ⟨ho,ho2,h⟩
theorem getItem_tuple_whole {t sl:Addr} {items:Array Value} {vl vu:Value} {lo hi:Option Int} {Q:Value→Shared→Prop} (ht:IsTup s.heap t items) (hs:s.heap.IsSliceOf sl vl vu .none) (pl:IsPart vl lo) (pu:IsPart vu hi)
    (hw:sIx items.size 0 lo=0∧sIx items.size items.size hi=items.size) (h:Q (.ref t) s):wpAny (model prog w) A (getItem (.ref t) (.ref sl)) Q E s:=by
  obtain ⟨os,hos,hcs,hds⟩:=id hs
  have hTs:s.TypeIs (.ref sl) "slice":=⟨os,hos,hcs⟩
  unfold getItem
  try with_reducible refine wpAny_holding ?_
  first | refine wpAny_bind (wpAny_pure ?_) | skip
  refine wpAny_bind (wpAny_sequenceKey ht.typeIs (by decide) ?_)
  refine wpAny_bind (wpAny_callSpecial?_slot (name:=Str.ofString "__getitem__") ht.typeIs PyProof.Rows.slot_tuple_getitem
    (wpAny_call_entry PyProof.Rows.slot_tuple_getitem ht.typeIs entry_tuple_getitem ?_ (args_tuple_getitem _ _)))
  show wpAny _ _ (Builtin.Tuple.tupleItemsOf (.ref t) >>= _) _ _ s
  refine wpAny_bind (tupleItemsOf_ ht ?_)
  refine wpAny_bind (wpAny_typeOf hTs ?_)
  rw [if_pos (by decide)]
  refine wpAny_bind (qq8 hs pl pu ?_)
  have hyes:(((sIx items.size 0 lo:Nat):Int) == 0&&(1:Int) == 1&&(sIx items.size items.size hi - sIx items.size 0 lo) == items.size)=true:=by
    rw [hw.1,hw.2];simp
  show wpAny _ _ (if (((sIx items.size 0 lo:Nat):Int) == 0&&(1:Int) == 1&&(sIx items.size items.size hi - sIx items.size 0 lo) == items.size)=true then _ else _) _ _ s
  rw [if_pos hyes]
  unfold Builtin.Tuple.tupleIsExact
  refine wpAny_bind (wpAny_bind (wpAny_typeOf ht.typeIs (wpAny_pure ?_)))
  rw [if_pos (by decide)]
  exact wpAny_bind (wpAny_rule (wpAny_bind (wpAny_pure (wpAny_pure ⟨_,rfl,wpAny_pure h⟩))))
end
end HT
namespace M
open PySem PySem.Spec PyProof.Rows L2
section
variable {X:Cx} {K:PySem.W.Frag} {μ μ':Fp} {H H':Hp} {S:qa0}
noncomputable def fInt (g:Int→Int→D) (S:qa0) (x y:D):Option D:=match x,y with | .int i,.int j=>some (g i j) | _,_=>none
noncomputable def zu1 (C:Int→Int→Bool) (g:Int→Int→D) (S:qa0) (x y:D):Option D:=match x,y with | .int i,.int j=>if C i j=true then some (g i j) else none | _,_=>none
theorem qD2 {f:Value→Value→Sem Value} {g:Int→Int→V} {g':Int→Int→D} (h:OpR X f (rI0 g)) (hg:∀ i j μ H,Rep X.K μ H (g i j) (g' i j)):OpR X f (rM2 X.K (fInt g')):=
  OpR.imp h fun x y H Q ⟨μ,S,dx,dy,dz,hS,h1,h2,h3,post⟩=>by
    cases dx <;> cases dy <;> first | cases h3 | skip
    exact ⟨_,_,h1.int_inv,h2.int_inv,post.here hS (hg _ _ _ _)⟩
theorem q21 {f:Value→Value→Sem Value} {C:Int→Int→Prop} {C':Int→Int→Bool} {g:Int→Int→V} {g':Int→Int→D} (h:OpR X f (rI C g)) (hC:∀ i j,C' i j=true→C i j) (hg:∀ i j μ H,Rep X.K μ H (g i j) (g' i j)):OpR X f (rM2 X.K (zu1 C' g')):=
  OpR.imp h fun x y H Q ⟨μ,S,dx,dy,dz,hS,h1,h2,h3,post⟩=>by
    cases dx <;> cases dy <;> first | cases h3 | skip
    simp only [zu1] at h3
    split at h3
    · rename_i hc
      cases h3
      exact ⟨_,_,h1.int_inv,h2.int_inv,hC _ _ hc,post.here hS (hg _ _ _ _)⟩
    · cases h3
noncomputable def fSub:=fInt fun i j=>.int (i - j)
noncomputable def fLt:=fInt fun i j=>.bl (decide (i<j))
noncomputable def fLe:=fInt fun i j=>.bl (decide (i≤j))
noncomputable def fGt:=fInt fun i j=>.bl (decide (j<i))
noncomputable def fGe:=fInt fun i j=>.bl (decide (j≤i))
theorem op_Sub:OpR X (binaryOp .Sub) (rM2 X.K fSub):=qD2 op_sub fun _ _ _ _=>.int _
theorem op_Lt:OpR X (compareOp .Lt) (rM2 X.K fLt):=qD2 op_lt fun _ _ _ _=>.bl _
theorem op_Le:OpR X (compareOp .LtE) (rM2 X.K fLe):=qD2 op_le fun _ _ _ _=>.bl _
theorem op_Gt:OpR X (compareOp .Gt) (rM2 X.K fGt):=qD2 op_gt fun _ _ _ _=>.bl _
theorem op_Ge:OpR X (compareOp .GtE) (rM2 X.K fGe):=qD2 op_ge fun _ _ _ _=>.bl _
noncomputable def fMod:=zu1 (fun _ j=>decide (0<j)) fun i j=>.int (i % j)
noncomputable def fDiv:=zu1 (fun _ j=>decide (0<j)&&decide (j<1073741824)) fun i j=>.int (i / j)
noncomputable def fPow:=zu1 (fun i j=>decide (0≤j)&&decide (j≤1000000)&&decide (i.natAbs<2 ^ 64)) fun i j=>.int (i ^ j.toNat)
theorem op_Mod:OpR X (binaryOp .Mod) (rM2 X.K fMod):=q21 op_mod (fun _ _ h=>of_decide_eq_true h) fun _ _ _ _=>.int _
theorem op_Div:OpR X (binaryOp .FloorDiv) (rM2 X.K fDiv):=q21 op_fdiv (fun _ _ h=>by simpa [CDiv] using h) fun _ _ _ _=>.int _
theorem op_Pow:OpR X (binaryOp .Pow) (rM2 X.K fPow):=q21 op_pow (fun i j h=>by
  simp only [Bool.and_eq_true,decide_eq_true_eq] at h
  exact ⟨h.1.1,h.1.2,h.2⟩) fun _ _ _ _=>.int _
noncomputable def mulB (i j:Int):Bool:=decide (i.natAbs<18446744073709551616)||decide (j.natAbs<18446744073709551616)||(decide (i.natAbs<2 ^ 4000)&&decide (j.natAbs<2 ^ 4000))
theorem mulB_ok {i j:Int} (h:mulB i j=true):IntMulOk i j:=by
  unfold mulB at h
  simp only [Bool.or_eq_true,Bool.and_eq_true,decide_eq_true_eq] at h
  rcases h with (h | h) | h
  · exact .of_left (intBits_le (k:=64) (by omega))
  · exact .of_right (intBits_le (k:=64) (by omega))
  · exact .of_bits (Nat.le_trans (intBits_le (k:=4000) h.1) (by decide)) (Nat.le_trans (intBits_le (k:=4000) h.2) (by decide))
theorem op_mulG:OpR X (binaryOp .Mult) (rI (fun i j=>mulB i j=true) fun i j=>.int (i * j)):=opI fun _ _ _ _ _ _ _ hc q=>mul_int q (mulB_ok hc)
noncomputable def fMul (S:qa0) (x y:D):Option D:=match x,y with
  | .int i,.int j=>if mulB i j=true then some (.int (i * j)) else none
  | _,_=>none
theorem op_Mul:OpR X (binaryOp .Mult) (rM2 X.K fMul):=OpR.imp op_mulG fun x y H Q ⟨μ,S,dx,dy,dz,hS,h1,h2,h3,post⟩=>by
  cases dx <;> cases dy <;> first | cases h3 | skip
  simp only [fMul] at h3
  split at h3
  · rename_i hc
    cases h3
    exact ⟨_,_,h1.int_inv,h2.int_inv,hc,post.here hS (.int _)⟩
  · cases h3
noncomputable def fAdd (S:qa0) (x y:D):Option D:=match x,y with
  | .int i,.int j=>some (.int (i+j))
  | .str i,.str j=>if i.length+j.length≤sizeLine then some (.str (i++j)) else none
  | .tup xs,.tup ys=>if xs.length+ys.length≤sizeLine then some (.tup (xs++ys)) else none
  | .lst xs,.lst ys=>if xs.length+ys.length≤sizeLine then some (.lst (xs++ys)) else none
  | _,_=>none
theorem op_Add:OpR X (binaryOp .Add) (rM2 X.K fAdd):=by
  intro pins s σ H x y v u Q I rx ry h
  obtain ⟨μ,S,dx,dy,dz,hS,h1,h2,h3,post⟩:=h
  cases dx <;> cases dy <;> first | cases h3 | skip
  case int.int i j=>exact op_add pins s σ H x y v u Q I rx ry ⟨_,_,h1.int_inv,h2.int_inv,post.here hS (.int _)⟩
  case str.str i j=>
    simp only [fAdd] at h3
    split at h3
    · rename_i hl;cases h3
      exact zf0 pins s σ H x y v u Q I rx ry ⟨_,_,h1.str_inv,h2.str_inv,hl,post.here hS (.str _)⟩
    · cases h3
  case tup.tup xs ys=>
    simp only [fAdd] at h3
    split at h3
    · rename_i hl;cases h3
      have h2':=h2
      have h1':=h1
      obtain ⟨a,vs,rfl,q1,r1⟩:=h1.sqT
      obtain ⟨b,ws,rfl,q2,r2⟩:=h2.sqT
      have e1:=r1.length
      have e2:=r2.length
      by_cases hv:vs=[]
      · subst hv
        have hx:xs=[]:=List.eq_nil_of_length_eq_zero (by simpa using e1.symm)
        subst hx
        cases rx;cases ry
        obtain ⟨its,rv,p1,_⟩:=I.tuple q1
        obtain ⟨its2,rv2,p2,_⟩:=I.tuple q2
        have:its=[]:=rv.nil_iff.mpr rfl
        subst this
        exact HT.cat_nil p1 p2 ⟨.ref b,H,I,rfl,post.here hS h2'⟩
      · refine op_catT pins s σ H _ _ v u Q I rx ry ⟨a,b,vs,ws,rfl,rfl,q1,q2,hv,by omega,fun hw=>?_,fun hw p hp=>post.tup hS hp (r1.append r2)⟩
        subst hw
        have hy:ys=[]:=List.eq_nil_of_length_eq_zero (by simpa using e2.symm)
        subst hy
        rw [List.append_nil] at post
        exact post.here hS h1'
    · cases h3
  case lst.lst xs ys=>
    simp only [fAdd] at h3
    split at h3
    · rename_i hl;cases h3
      obtain ⟨a,vs,rfl,q1,n1,r1⟩:=h1.sqL
      obtain ⟨b,ws,rfl,q2,n2,r2⟩:=h2.sqL
      have e1:=r1.length
      have e2:=r2.length
      exact zl9 pins s σ H _ _ v u Q I rx ry ⟨a,b,vs,ws,rfl,rfl,q1,q2,by omega,fun p hp=>post.lst hS hp (r1.append r2)⟩
    · cases h3
theorem un_Neg:UnR X (unaryOp .USub) (rM1 X.K fun _ x=>match x with | .int i=>some (.int (-i)) | _=>none):=UnR.imp un_neg fun x H Q ⟨μ,S,dx,dz,hS,h1,h3,post⟩=>by
  cases dx <;> first | cases h3 | skip
  exact ⟨_,h1.int_inv,post.here hS (.int _)⟩
noncomputable def mUn (f:qa0→D→Option D) (a:ME):ME:=fun env S=>(a env S).bind fun p=>(f p.2 p.1).bind fun z=>some (z,p.2)
theorem de_un {a:Expr} {ma:ME} {pos:Pos} {op:UnaryOp} {f:qa0→D→Option D} (ho:UnR X (unaryOp op) (rM1 X.K f)) (ha:DE X a ma):DE X (.UnaryOp op a pos) (mUn f ma):=
  PE.imp (pe_un ho ha) fun σ H Q ⟨μ,S,env,d,S',hS,hE,hm,post⟩=>by
    obtain ⟨⟨x,S1⟩,h1,hm⟩:=Option.bind_eq_some_iff.mp hm
    obtain ⟨z,h2,hm⟩:=Option.bind_eq_some_iff.mp hm
    cases hm
    exact ⟨μ,S,env,x,_,hS,hE,h1,fun v H1 μ1 e1 s1 r1=>⟨μ1,_,x,_,s1,r1,h2,post.ext e1⟩⟩
theorem atI_rep {vs:List V} {ds:List D} {i:Int} {d:D} (r:Reps K μ H vs ds) (h:atI ds i=some d):∃ v,atI vs i=some v∧Rep K μ H v d:=by
  unfold atI at h ⊢
  rw [r.length]
  obtain ⟨j,h1,h2⟩:=Option.bind_eq_some_iff.mp h
  obtain ⟨v,h3,h4⟩:=r.get h2
  exact ⟨v,by rw [h1];exact h3,h4⟩
noncomputable def fIx (S:qa0) (x y:D):Option D:=match y with | .int i=>(seqD S x).bind fun xs=>atI xs i | _=>none
theorem ix_D:IxR X (rM2 X.K fIx):=IxR.imp (ix_list.or ix_tup) fun x y H Q ⟨μ,S,dx,dy,dz,hS,h1,h2,h3,post⟩=>by
  cases dy <;> first | cases h3 | skip
  rename_i i
  obtain ⟨xs,e,h3⟩:=Option.bind_eq_some_iff.mp h3
  obtain ⟨a,vs,rfl,hq,r⟩:=qr6 hS h1 e
  obtain ⟨v,h4,h5⟩:=atI_rep r h3
  rcases hq with hq | hq
  · exact .inl ⟨a,vs,i,v,rfl,h2.int_inv,hq,h4,post.here hS h5⟩
  · exact .inr ⟨a,vs,i,v,rfl,h2.int_inv,hq,h4,post.here hS h5⟩
noncomputable def cutL {α:Type} (xs:List α) (lo hi:Option Int):List α:=(xs.drop (HT.sIx xs.length 0 lo)).take (HT.sIx xs.length xs.length hi - HT.sIx xs.length 0 lo)
noncomputable abbrev MO:=MEnv→qa0→Option (Option Int×qa0)
noncomputable def mPartN:MO:=fun _ S=>some (none,S)
noncomputable def mPart (m:ME):MO:=fun env S=>(m env S).bind fun p=>match p.1 with | .int i=>some (some i,p.2) | _=>none
inductive tMO (K:PySem.W.Frag) (m:MO) (σ:L2.St) (H:Hp) (Q:Option Int→Hp→Prop):Prop
  | mk (μ:Fp) (S:qa0) (env:MEnv) (o:Option Int) (S':qa0) (hS:SOk K μ S H) (hE:EOk K μ H σ env) (h:m env S=some (o,S')) (post:∀ H' μ',Ext μ H μ' H'→SOk K μ' S' H'→Q o H')
noncomputable def DO (X:Cx) (e:Option Expr) (m:MO):Prop:=PO X e (tMO X.K m)
theorem PO.imp {e:Option Expr} {t t':TO} (h:PO X e t) (i:∀ σ H Q,t' σ H Q→t σ H Q):PO X e t':=fun pins s σ H Q I q=>h pins s σ H Q I (i σ H Q q)
theorem do_none:DO X none mPartN:=PO.imp po_none fun σ H Q ⟨μ,S,env,d,S',hS,hE,hm,post⟩=>by cases hm;exact post H μ hS.ext hS
theorem do_some {e:Expr} {m:ME} (h:DE X e m):DO X (some e) (mPart m):=PO.imp (po_some h) fun σ H Q ⟨μ,S,env,d,S',hS,hE,hm,post⟩=>by
  obtain ⟨⟨x,S1⟩,h1,hm⟩:=Option.bind_eq_some_iff.mp hm
  cases x <;> first | cases hm | skip
  exact ⟨μ,S,env,_,_,hS,hE,h1,fun v H1 μ1 e1 s1 r1=>⟨_,r1.int_inv,post H1 μ1 e1 s1⟩⟩
noncomputable def mSlice (a:ME) (lo hi:MO):ME:=fun env S=>(a env S).bind fun p=>(lo env p.2).bind fun l=>(hi env l.2).bind fun h=>match p.1 with
  | .tup xs=>some (.tup (cutL xs l.1 h.1),h.2)
  | .lst xs=>some (.lst (cutL xs l.1 h.1),h.2)
  | .rol xs=>some (.lst (cutL xs l.1 h.1),h.2)
  | .ref r=>match h.2[r]? with | some (.lst xs)=>some (.lst (cutL xs l.1 h.1),h.2) | _=>none
  | _=>none
theorem qQ2 {vs:List V} {ds:List D} {lo hi:Option Int} (r:Reps K μ H vs ds):Reps K μ H (cutV vs lo hi) (cutL ds lo hi):=by
  unfold cutV cutL
  rw [r.length]
  exact (r.drop _).take _
theorem sl_tupW:SlR X (fun x lo hi H Q=>∃ a xs,x=.ref a∧SqT X.K H a xs∧(HT.sIx xs.length 0 lo=0∧HT.sIx xs.length xs.length hi=xs.length)∧Q (.ref a) H):=by
  intro pins s σ H x v vl vu lo hi sl Q I rx hs pl pu h
  obtain ⟨a,xs,rfl,hx,hw,q⟩:=h
  cases rx
  obtain ⟨its,r,ht,hz⟩:=I.tuple hx
  have hlen:its.toArray.size=xs.length:=by rw [List.size_toArray];exact r.length.symm
  refine ⟨"tuple",_,PyProof.Rows.slot_tuple_getitem.lookup,ht.typeIs,?_⟩
  exact HT.getItem_tuple_whole ht hs pl pu (by rw [hlen];exact hw) ⟨.ref a,H,I,rfl,q⟩
theorem de_slice {a:Expr} {lo hi:Option Expr} {ma:ME} {ml mh:MO} {pos p2:Pos} (ha:DE X a ma) (hl:DO X lo ml) (hh:DO X hi mh):DE X (.Subscript a (.Slice lo hi none p2) pos) (mSlice ma ml mh):=
  PE.imp (pe_slice (SlR.or sl_tupW (SlR.or sl_tup sl_list)) ha hl hh) fun σ H Q ⟨μ,S,env,d,S',hS,hE,hm,post⟩=>by
    obtain ⟨⟨x,S1⟩,h1,hm⟩:=Option.bind_eq_some_iff.mp hm
    obtain ⟨⟨l,S2⟩,h2,hm⟩:=Option.bind_eq_some_iff.mp hm
    obtain ⟨⟨h,S3⟩,h3,hm⟩:=Option.bind_eq_some_iff.mp hm
    refine ⟨μ,S,env,x,S1,hS,hE,h1,fun v H1 μ1 e1 s1 r1=>⟨μ1,S1,env,l,S2,s1,hE.mono e1,h2,fun H2 μ2 e2 s2=>⟨μ2,S2,env,h,S3,s2,(hE.mono e1).mono e2,h3,fun H3 μ3 e3 s3=>?_⟩⟩⟩
    have r3:=(r1.mono e2).mono e3
    have e:=(e1.trans e2).trans e3
    cases x with
    | tup xs=>
      cases hm
      have r3':=r3
      obtain ⟨a,vs,rfl,q1,r⟩:=r3.sqT
      by_cases hw:HT.sIx vs.length 0 l=0∧HT.sIx vs.length vs.length h=vs.length
      · refine .inl ⟨a,vs,rfl,q1,hw,?_⟩
        have:cutL xs l h=xs:=by unfold cutL;rw [← r.length,hw.1,hw.2];simp [r.length]
        rw [this] at post
        exact post _ H3 μ3 e s3 r3'
      · exact .inr (.inl ⟨a,vs,rfl,q1,hw,fun p hp=>(post.ext e).tup s3 hp (qQ2 r)⟩)
    | lst xs=>
      cases hm
      obtain ⟨a,vs,rfl,q1,n1,r⟩:=r3.sqL
      exact .inr (.inr ⟨a,vs,rfl,.inl (.inl q1),fun p hp=>(post.ext e).lst s3 hp (qQ2 r)⟩)
    | rol xs=>
      cases hm
      obtain ⟨a,vs,rfl,q1,r⟩:=r3.sqR
      exact .inr (.inr ⟨a,vs,rfl,q1,fun p hp=>(post.ext e).lst s3 hp (qQ2 r)⟩)
    | ref r=>
      dsimp only at hm
      split at hm
      · rename_i xs q
        cases hm
        cases r3 with
        | @ref a _ ha=>
          obtain ⟨vs,hv,rv⟩:=s3.cell r a _ ha q
          exact .inr (.inr ⟨a,vs,rfl,.inl (.inl hv),fun p hp=>(post.ext e).lst s3 hp (qQ2 rv)⟩)
      · cases hm
    | _=>cases hm
end
end M
namespace M
open PySem PySem.Spec PyProof.Rows L2
section
variable {X:Cx} {K:PySem.W.Frag} {μ μ':Fp} {H H':Hp} {S:qa0}
noncomputable def mCall (f:List D→qa0→Option (D×qa0)) (ms:MA):ME:=fun env S=>(ms env S).bind fun p=>f p.1 p.2
theorem tCB_of {f:List D→qa0→Option (D×qa0)} {ms:MA} {σ:L2.St} {Q:VK} (h:tM K (mCall f ms) σ H Q):tCB (rMC K f) (tMA K ms) σ H Q:=by
  obtain ⟨μ,S,env,d,S',hS,hE,hm,post⟩:=h
  obtain ⟨⟨xs,S1⟩,h1,hm⟩:=Option.bind_eq_some_iff.mp hm
  exact ⟨μ,S,env,xs,S1,hS,hE,h1,fun vs H1 μ1 e1 s1 r1=>⟨μ1,S1,xs,d,S',s1,r1,hm,post.ext e1⟩⟩
section
variable {x:Str} {p pos:Pos} {e:Expr} {es:List Expr} {ms:MA} {id T:String} {f:List D→qa0→Option (D×qa0)}
theorem de_callB (hc:CallR X (.builtin id) (rMC X.K f)) (hm:X.mg x=none) (hv:bootBuiltins x=some (.builtin id)) (ha:DA X (e::es) ms) (hg:Gl X x:=by rfl) (hn:x ≠ "__name__":=by decide) (hdb:(x == ("__debug__":Str))=false:=by decide)
    (he:starEach (e::es) X.env=(false,eval e X.env)::starEach es X.env:=by rfl) (hpl:(backTo pos (starEach es X.env)).any (·.1)=false:=by rfl):DE X (.Call (.Name x p) (e::es) [] pos) (mCall f ms):=
  PE.imp (q90 hc hg hm hv ha hn hdb he hpl) fun _ _ _ h=>tCB_of h
theorem de_callTy (hc:CallR X (.type T) (rMC X.K f)) (hm:X.mg x=none) (hv:bootBuiltins x=some (.type T)) (ha:DA X (e::es) ms) (hg:Gl X x:=by rfl) (hn:x ≠ "__name__":=by decide) (hdb:(x == ("__debug__":Str))=false:=by decide)
    (he:starEach (e::es) X.env=(false,eval e X.env)::starEach es X.env:=by rfl) (hpl:(backTo pos (starEach es X.env)).any (·.1)=false:=by rfl):DE X (.Call (.Name x p) (e::es) [] pos) (mCall f ms):=
  PE.imp (zl7 hc hg hm hv ha hn hdb he hpl) fun _ _ _ h=>tCB_of h
end
theorem Reps.one {vs:List V} {d:D} (r:Reps K μ H vs [d]):∃ v,vs=[v]∧Rep K μ H v d:=by
  cases r with
  | cons h t=>cases t;exact ⟨_,rfl,h⟩
theorem Reps.two {vs:List V} {d e:D} (r:Reps K μ H vs [d,e]):∃ v w,vs=[v,w]∧Rep K μ H v d∧Rep K μ H w e:=by
  cases r with
  | cons h t=>cases t with | cons h' t=>cases t;exact ⟨_,_,rfl,h,h'⟩
noncomputable def qb3 (f:qa0→List D→Option D):List D→qa0→Option (D×qa0):=fun ds S=>(f S ds).bind fun d=>some (d,S)
theorem qk5 {f:qa0→List D→Option D} {ds:List D} {S S':qa0} {d:D} (h:qb3 f ds S=some (d,S')):S'=S∧f S ds=some d:=by
  obtain ⟨z,h1,h⟩:=Option.bind_eq_some_iff.mp h
  cases h
  exact ⟨rfl,h1⟩
noncomputable def fLen (S:qa0):List D→Option D
  | [.str z]=>if z.length≤sizeLine then some (.int z.length) else none
  | [d]=>(seqD S d).bind fun xs=>some (.int xs.length)
  | _=>none
theorem call_Len:CallR X (.builtin "len") (rMC X.K (qb3 fLen)):=CallR.imp (call_len_seq.or qZ8) fun xs H Q ⟨μ,S,ds,d,S',hS,hr,hm,post⟩=>by
  obtain ⟨rfl,hm⟩:=qk5 hm
  match ds,hr,hm with
  | [D.str z],hr,hm=>
    obtain ⟨v,rfl,r⟩:=hr.one
    simp only [fLen] at hm
    split at hm
    · rename_i hl;cases hm;exact .inr ⟨z,by rw [r.str_inv],hl,post.here hS (.int _)⟩
    · cases hm
  | [D.non],hr,hm=>cases hm
  | [D.bl _],hr,hm=>cases hm
  | [D.int _],hr,hm=>cases hm
  | [D.dct _ _],hr,hm=>cases hm
  | [D.tup xs],hr,hm=>
    obtain ⟨v,rfl,r⟩:=hr.one
    cases hm
    obtain ⟨a,vs,rfl,hq,r⟩:=qr6 hS r rfl
    exact .inl ⟨a,vs,rfl,hq,by rw [r.length];exact post.here hS (.int _)⟩
  | [D.lst xs],hr,hm=>
    obtain ⟨v,rfl,r⟩:=hr.one
    cases hm
    obtain ⟨a,vs,rfl,hq,r⟩:=qr6 hS r rfl
    exact .inl ⟨a,vs,rfl,hq,by rw [r.length];exact post.here hS (.int _)⟩
  | [D.rol xs],hr,hm=>
    obtain ⟨v,rfl,r⟩:=hr.one
    cases hm
    obtain ⟨a,vs,rfl,hq,r⟩:=qr6 hS r rfl
    exact .inl ⟨a,vs,rfl,hq,by rw [r.length];exact post.here hS (.int _)⟩
  | [D.ref i],hr,hm=>
    obtain ⟨v,rfl,r⟩:=hr.one
    obtain ⟨xs,h1,hm⟩:=Option.bind_eq_some_iff.mp hm
    cases hm
    obtain ⟨a,vs,rfl,hq,r⟩:=qr6 hS r h1
    exact .inl ⟨a,vs,rfl,hq,by rw [r.length];exact post.here hS (.int _)⟩
  | [],hr,hm=>cases hm
  | a::b::c,hr,hm=>simp [fLen] at hm
noncomputable def qz9 (S:qa0):List D→Option D
  | [.int i]=>some (.int i)
  | [.bl k]=>some (.int (if k then 1 else 0))
  | _=>none
theorem call_Int:CallR X (.type "int") (rMC X.K (qb3 qz9)):=CallR.imp zy6 fun xs H Q ⟨μ,S,ds,d,S',hS,hr,hm,post⟩=>by
  obtain ⟨rfl,hm⟩:=qk5 hm
  match ds,hr,hm with
  | [D.int i],hr,hm=>obtain ⟨v,rfl,r⟩:=hr.one;cases hm;exact .inl ⟨i,by rw [r.int_inv],post.here hS (.int _)⟩
  | [D.bl k],hr,hm=>obtain ⟨v,rfl,r⟩:=hr.one;cases hm;exact .inr ⟨k,by rw [r.bl_inv],post.here hS (.int _)⟩
  | [D.non],hr,hm=>cases hm
  | [D.str _],hr,hm=>cases hm
  | [D.dct _ _],hr,hm=>cases hm
  | [D.tup _],hr,hm=>cases hm
  | [D.lst _],hr,hm=>cases hm
  | [D.rol _],hr,hm=>cases hm
  | [D.ref _],hr,hm=>cases hm
  | [],hr,hm=>cases hm
  | a::b::c,hr,hm=>simp [qz9] at hm
noncomputable def fMax2 (S:qa0):List D→Option D
  | [.int i,.int j]=>some (.int (if j>i then j else i))
  | _=>none
noncomputable def zu0 (S:qa0):List D→Option D
  | [.int i,.int j]=>some (.int (if j<i then j else i))
  | _=>none
theorem ints2 {ds:List D} {f:Int→Int→D} {d:D} (h:(match ds with | [.int i,.int j]=>some (f i j) | _=>none)=some d):∃ i j,ds=[.int i,.int j]∧d=f i j:=by
  split at h
  · cases h;exact ⟨_,_,rfl,rfl⟩
  · cases h
theorem zy9 (hc:X.calm=true):CallR X (.builtin "max") (rMC X.K (qb3 fMax2)):=CallR.imp (zy5 hc) fun xs H Q ⟨μ,S,ds,d,S',hS,hr,hm,post⟩=>by
  obtain ⟨rfl,hm⟩:=qk5 hm
  obtain ⟨i,j,rfl,rfl⟩:=ints2 (f:=fun i j=>.int (if j>i then j else i)) hm
  obtain ⟨v,w,rfl,r1,r2⟩:=hr.two
  exact ⟨i,j,by rw [r1.int_inv,r2.int_inv],post.here hS (.int _)⟩
theorem zy7 (hc:X.calm=true):CallR X (.builtin "min") (rMC X.K (qb3 zu0)):=CallR.imp (zy3 hc) fun xs H Q ⟨μ,S,ds,d,S',hS,hr,hm,post⟩=>by
  obtain ⟨rfl,hm⟩:=qk5 hm
  obtain ⟨i,j,rfl,rfl⟩:=ints2 (f:=fun i j=>.int (if j<i then j else i)) hm
  obtain ⟨v,w,rfl,r1,r2⟩:=hr.two
  exact ⟨i,j,by rw [r1.int_inv,r2.int_inv],post.here hS (.int _)⟩
noncomputable def qi5 (c:List D→D) (S:qa0):List D→Option D
  | [d]=>(seqD S d).bind fun xs=>some (c xs)
  | _=>none
theorem qL7 {c:List D→D} {S:qa0} {ds:List D} {d:D} (h:qi5 c S ds=some d):∃ x xs,ds=[x]∧seqD S x=some xs∧d=c xs:=by
  match ds,h with
  | [x],h=>
    obtain ⟨xs,h1,h⟩:=Option.bind_eq_some_iff.mp h
    cases h
    exact ⟨x,xs,rfl,h1,rfl⟩
  | [],h=>cases h
  | _::_::_,h=>cases h
theorem zz0:CallR X (.type "list") (rMC X.K (qb3 (qi5 .lst))):=CallR.imp qZ7 fun xs H Q ⟨μ,S,ds,d,S',hS,hr,hm,post⟩=>by
  obtain ⟨rfl,hm⟩:=qk5 hm
  obtain ⟨x,ys,rfl,h1,rfl⟩:=qL7 hm
  obtain ⟨v,rfl,r⟩:=hr.one
  obtain ⟨a,vs,rfl,hq,r⟩:=qr6 hS r h1
  exact ⟨a,vs,rfl,hq,fun l hl=>post.lst hS hl r⟩
theorem zi4:CallR X (.type "tuple") (rMC X.K (qb3 (qi5 .tup))):=CallR.imp qQ4 fun xs H Q ⟨μ,S,ds,d,S',hS,hr,hm,post⟩=>by
  obtain ⟨rfl,hm⟩:=qk5 hm
  obtain ⟨x,ys,rfl,h1,rfl⟩:=qL7 hm
  obtain ⟨v,rfl,r⟩:=hr.one
  cases x with
  | tup zs=>
    cases h1
    have r':=r
    obtain ⟨a,vs,rfl,q,r⟩:=r.sqT
    exact ⟨a,vs,rfl,.inr ⟨q,post.here hS r'⟩⟩
  | lst zs=>
    cases h1
    obtain ⟨a,vs,rfl,q,n,r⟩:=r.sqL
    exact ⟨a,vs,rfl,.inl ⟨.inl (.inl q),fun l hl=>post.tup hS hl r⟩⟩
  | rol zs=>
    cases h1
    obtain ⟨a,vs,rfl,q,r⟩:=r.sqR
    exact ⟨a,vs,rfl,.inl ⟨q,fun l hl=>post.tup hS hl r⟩⟩
  | ref i=>
    simp only [seqD] at h1
    cases r with
    | @ref a _ h'=>
      cases q:S'[i]? with
      | none=>rw [q] at h1;cases h1
      | some c=>
        rw [q] at h1
        have ck:=hS.cell i a c h' q
        cases c with
        | lst xs=>cases h1;obtain ⟨vs,e,r⟩:=ck;exact ⟨a,vs,rfl,.inl ⟨.inl (.inl e),fun l hl=>post.tup hS hl r⟩⟩
        | dct ks xs=>cases h1
  | _=>cases h1
noncomputable def qH4:List D→Option (List Bool)
  | []=>some []
  | .bl b::r=>(qH4 r).bind fun bs=>some (b::bs)
  | _=>none
noncomputable def fAll (S:qa0):List D→Option D
  | [.lst xs]=>(qH4 xs).bind fun bs=>some (.bl (bs.all id))
  | _=>none
theorem qH5:∀ {vs:List V} {ds:List D} {us:List Value} {bs:List Bool},Reps K μ H vs ds→Vals vs us→qH4 ds=some bs→LSm.BoolsAre us bs
  | _,_,_,_,.nil,.nil,h=>by cases h;exact .nil
  | _,_,_,_,.cons (d:=d) r t,.cons rv tv,h=>by
    cases d <;> first | cases h | skip
    obtain ⟨cs,h1,h⟩:=Option.bind_eq_some_iff.mp h
    cases h
    cases r;cases rv
    exact .cons _ (qH5 t tv h1)
theorem call_All (hc:X.calm=true):CallR X (.builtin "all") (rMC X.K (qb3 fAll)):=by
  intro pins s σ H xs us Q I rv h
  obtain ⟨μ,S,ds,d,S',hS,hr,hm,post⟩:=h
  obtain ⟨rfl,hm⟩:=qk5 hm
  match ds,hr,hm with
  | [D.lst zs],hr,hm=>
    obtain ⟨v,rfl,r⟩:=hr.one
    obtain ⟨bs,h1,hm⟩:=Option.bind_eq_some_iff.mp hm
    cases hm
    obtain ⟨u,rfl,ru⟩:=qR0 rv
    obtain ⟨a,vs,rfl,q,n,r⟩:=r.sqL
    cases ru
    obtain ⟨its,rv',pl,hz⟩:=I.list (.inl (.inl q))
    have hl:=pl.isList
    have hb:=qH5 r rv' h1
    have hlt:a<s.heap.objs.size:=by obtain ⟨_,e,_⟩:=hl;exact Heap.lt_size e
    refine call_all_walk (wpAny_pyIter_list hl ?_)
    refine ⟨s.heap.objs.size,[s.heap.objs.size,a],[s.heap.objs.size],its.toArray.size,_,_,fun i=>(bs[i]?).getD true,rfl,Walks.list (A:=X.A.in1) (I.ok.hd hc) _ a (Nat.ne_of_lt hlt) its.toArray,
      ⟨⟨_,Heap.get?_push_size _ rfl,rfl,rfl⟩,hl.push _⟩,fun i v s' Q' E' hP hQ=>?_,fun h' tk hk=>?_⟩
    · obtain ⟨b,e,rfl⟩:=hb.get i v (by simpa using hP)
      simp only [e,Option.getD_some] at hQ
      exact wpAny_truthy_bool hQ
    · have e:((List.range its.toArray.size).all fun i=>(bs[i]?).getD true)=bs.all id:=by
        rw [List.size_toArray,hb.length];exact LSm.range_all bs
      rw [e]
      exact ⟨.bl _,H,I.kept (LSm.kept_iter hk),rfl,post.here hS (.bl _)⟩
  | [D.non],hr,hm=>cases hm
  | [D.bl _],hr,hm=>cases hm
  | [D.int _],hr,hm=>cases hm
  | [D.str _],hr,hm=>cases hm
  | [D.dct _ _],hr,hm=>cases hm
  | [D.tup _],hr,hm=>cases hm
  | [D.rol _],hr,hm=>cases hm
  | [D.ref _],hr,hm=>cases hm
  | [],hr,hm=>cases hm
  | a::b::c,hr,hm=>simp [fAll] at hm
noncomputable def tyD (S:qa0):D→Option String
  | .non=>some "NoneType"
  | .bl _=>some "bool"
  | .int _=>some "int"
  | .str _=>some "str"
  | .tup _=>some "tuple"
  | .lst _=>some "list"
  | .rol _=>some "list"
  | .dct _ _=>some "dict"
  | .ref r=>match S[r]? with | some (.lst _)=>some "list" | some (.dct _ _)=>some "dict" | none=>none
noncomputable def isTyD (T:String) (t:String):Bool:=t == T||(t == "bool" && T == "int")
noncomputable def fIsI (T:String) (S:qa0) (d:D):Option D:=(tyD S d).bind fun t=>some (.bl (isTyD T t))
noncomputable def mIsI (T:String) (m:ME):ME:=fun env S=>(m env S).bind fun p=>(fIsI T p.2 p.1).bind fun d=>some (d,p.2)
theorem zj2 {S:qa0} {d:D} {t:String} (h:tyD S d=some t):t = "NoneType"∨t = "bool"∨t = "int"∨t = "str"∨t = "tuple"∨t = "list"∨t = "dict":=by
  cases d <;> simp only [tyD] at h <;> first | (cases h;simp) | (split at h <;> first | (cases h;simp) | cases h)
theorem kit_all (K:PySem.W.Frag) {T t:String} (hT:T = "int"∨T = "bool"∨T = "str"∨T = "tuple"∨T = "list"∨T = "dict") (ht:t = "NoneType"∨t = "bool"∨t = "int"∨t = "str"∨t = "tuple"∨t = "list"∨t = "dict") :
    PySem.W.kitOne K (.type t) (.type T)=some (isTyD T t):=by
  rcases hT with rfl | rfl | rfl | rfl | rfl | rfl <;> rcases ht with rfl | rfl | rfl | rfl | rfl | rfl | rfl <;> rfl
theorem kia_D {pins:List (Addr×Obj)} {σ:L2.St} {s:Shared} {v:V} {u:Value} {d:D} {t:String} {b:Bool} {c:Value} {Q:Value→Shared→Prop} {E:Value→Shared→Prop} (I:Inv X pins σ H s) (hS:SOk X.K μ S H) (r:Rep X.K μ H v d) (ru:RelV v u) (ht:tyD S d=some t)
    (e:PySem.W.kitOne X.K (.type t) c=some b) (h:∀ tk,Q (.bool b) { s with toks:=tk }):wpAny (model X.prog X.w) X.A (call (.builtin "isinstance") [u,c]) Q E s:=by
  have tupK:∀ {a:Addr} {vs:List V},SqT X.K H a vs→PySem.W.KitAt a "tuple" s.heap:=fun {a vs} q=>by
    obtain ⟨its,_,⟨o,h1,h2,_⟩,_⟩:=I.tuple q;exact ⟨o,h1,h2⟩
  have lstK:∀ {a:Addr} {vs:List V},SqL X.K H a vs→PySem.W.KitAt a "list" s.heap:=fun {a vs} q=>by
    obtain ⟨its,_,⟨o,n,h1,h2,_⟩,_⟩:=I.list q;exact ⟨o,h1,h2⟩
  have dK:∀ {a:Addr} {kvs:List (Key×V)},H a=some (.dK kvs)→PySem.W.KitAt a "dict" s.heap:=fun {a kvs} q=>by
    obtain ⟨_,_,vs,_,p⟩:=(show ObjOk X.prog X.w H s.heap a (.dK kvs) from I.hok a _ q)
    obtain ⟨o,es,ep,h1,h2,_⟩:=p
    exact ⟨o,h1,h2.1⟩
  cases r with
  | non=>cases ht;cases ru;exact PySem.W.kia_one PySem.W.kitx_none I.kIn True.intro e (fun z=>nomatch z) h
  | bl y=>cases ht;cases ru;exact PySem.W.kia_one PySem.W.kitx_bool I.kIn True.intro e (fun z=>nomatch z) h
  | int i=>cases ht;obtain ⟨t,rfl⟩:=ru;exact PySem.W.kia_one PySem.W.kitx_int I.kIn True.intro e (fun z=>nomatch z) h
  | str y=>cases ht;obtain ⟨t,rfl⟩:=ru;exact PySem.W.kia_one PySem.W.kitx_str I.kIn True.intro e (fun z=>nomatch z) h
  | tup q n r=>cases ht;cases ru;exact PySem.W.kia_one PySem.W.kitx_tuple I.kIn (tupK (.inl (.inl q))) e (fun z=>nomatch z) h
  | ktup q r=>cases ht;cases ru;exact PySem.W.kia_one PySem.W.kitx_tuple I.kIn (tupK (.inr q)) e (fun z=>nomatch z) h
  | lst q n r=>cases ht;cases ru;exact PySem.W.kia_one PySem.W.kitx_list I.kIn (lstK (.inl (.inl q))) e (fun z=>nomatch z) h
  | rol q n r=>cases ht;cases ru;exact PySem.W.kia_one PySem.W.kitx_list I.kIn (lstK (.inl q)) e (fun z=>nomatch z) h
  | krol q r=>cases ht;cases ru;exact PySem.W.kia_one PySem.W.kitx_list I.kIn (lstK (.inr q)) e (fun z=>nomatch z) h
  | dct q n r=>cases ht;cases ru;exact PySem.W.kia_one PySem.W.kitx_dict I.kIn (dK q) e (fun z=>nomatch z) h
  | @ref a i h'=>
    cases ru
    simp only [tyD] at ht
    cases q:S[i]? with
    | none=>rw [q] at ht;cases ht
    | some c'=>
      rw [q] at ht
      have ck:=hS.cell i a c' h' q
      cases c' with
      | lst xs=>cases ht;obtain ⟨vs,q,r⟩:=ck;exact PySem.W.kia_one PySem.W.kitx_list I.kIn (lstK (.inl (.inl q))) e (fun z=>nomatch z) h
      | dct ks xs=>cases ht;obtain ⟨kvs,q,r⟩:=ck;exact PySem.W.kia_one PySem.W.kitx_dict I.kIn (dK q) e (fun z=>nomatch z) h
theorem de_isinst {a:Expr} {ma:ME} {T:String} {x:Str} {p p2 pos:Pos} (hm:X.mg "isinstance" = none) (hmT:X.mg x=none) (hb:bootBuiltins x=some (.type T)) (ha:DE X a ma)
    (hT:T = "int"∨T = "bool"∨T = "str"∨T = "tuple"∨T = "list"∨T = "dict":=by simp)
    (hg:Gl X "isinstance":=by rfl) (hgT:Gl X x:=by rfl) (hn:x ≠ "__name__":=by decide) (hd:(x == ("__debug__":Str))=false:=by decide)
    (hs1:starEach [a,.Name x p2] X.env=(false,eval a X.env)::starEach [.Name x p2] X.env:=by rfl) (hs2:starEach [.Name x p2] X.env=(false,eval (.Name x p2) X.env)::starEach [] X.env:=by rfl) (hpl:(backTo pos (starEach [.Name x p2] X.env)).any (·.1)=false:=by rfl) :
    DE X (.Call (.Name "isinstance" p) [a,.Name x p2] [] pos) (mIsI T ma):=by
  have hc:CallR X (.builtin "isinstance") (fun vs H Q=>∃ v μ S d t,vs=[v,.ty T]∧SOk X.K μ S H∧Rep X.K μ H v d∧tyD S d=some t∧Q (.bl (isTyD T t)) H):=by
    intro pins s σ H xs us Q I rv h
    obtain ⟨v,μ,S,d,t,rfl,hS,r,ht,q⟩:=h
    obtain ⟨u,w',rfl,r1,r2⟩:=vals2 rv
    cases r2
    exact kia_D I hS r r1 ht (kit_all _ hT (zj2 ht)) fun tk=>⟨.bl _,H,I.tok _,rfl,q⟩
  refine PE.imp (q90 hc hg hm boot_isinstance (q20 ha (q20 (pe_bltn (v:=.ty T) hgT hmT hb rfl hn hd) pa_nil hs2) hs1) (by decide) (by decide) hs1 hpl) fun σ H Q ⟨μ,S,env,d,S',hS,hE,hm,post⟩=>?_
  obtain ⟨⟨x,S1⟩,h1,hm⟩:=Option.bind_eq_some_iff.mp hm
  obtain ⟨z,h2,hm⟩:=Option.bind_eq_some_iff.mp hm
  cases hm
  obtain ⟨t,h3,h2⟩:=Option.bind_eq_some_iff.mp h2
  cases h2
  exact ⟨μ,S,env,x,S1,hS,hE,h1,fun v H1 μ1 e1 s1 r1=>⟨v,μ1,S1,x,t,rfl,s1,r1,h3,post _ H1 μ1 e1 s1 (.bl _)⟩⟩
end
end M
namespace M
open PySem PySem.Spec PyProof.Rows L2
section
variable {X:Cx} {K:PySem.W.Frag} {μ μ':Fp} {H H':Hp} {S:qa0}
noncomputable def spM (K:PySem.W.Frag) (n:Nat) (f:List D→qa0→Option (D×qa0)):Sp:=fun vs H Q _=>∃ μ S ds d S',SOk K μ S H∧Reps K μ H vs ds∧ds.length=n∧f ds S=some (d,S')∧Post K μ H S' d Q
structure Fn (P:Program) (w:World) (K:PySem.W.Frag) (mg:Str→Option Value) (base:Heap) (k:Nat) (x:Str) (n:Nat) (f:List D→qa0→Option (D×qa0)):Prop where
  ex:∃ (a:Addr) (fd:FuncData) (ps:List Str),ps.length=n∧FnOk P w K mg base CX0 k a fd ps (spM K n f)∧mg x=some (.ref a)∧PySem.W.keepIn K (.ref a)=true∧Binds K fd ps []
noncomputable def mCallN (n:Nat) (f:List D→qa0→Option (D×qa0)) (ms:MA):ME:=fun env S=>(ms env S).bind fun p=>if p.1.length=n then f p.1 p.2 else none
theorem tCall_of {n:Nat} {f:List D→qa0→Option (D×qa0)} {ms:MA} {σ:L2.St} {Q:VK} (h:tM K (mCallN n f ms) σ H Q):tCall (spM K n f) [] E0 (tMA K ms) σ H Q:=by
  obtain ⟨μ,S,env,d,S',hS,hE,hm,post⟩:=h
  obtain ⟨⟨xs,S1⟩,h1,hm⟩:=Option.bind_eq_some_iff.mp hm
  dsimp only at hm
  split at hm
  · rename_i hn
    refine ⟨μ,S,env,xs,S1,hS,hE,h1,fun vs H1 μ1 e1 s1 r1=>?_⟩
    show spM K n f (vs++[]) H1 Q E0
    rw [List.append_nil]
    exact ⟨μ1,S1,xs,d,S',s1,r1,hn,hm,post.ext e1⟩
  · cases hm
theorem de_call {k n:Nat} {x:Str} {f:List D→qa0→Option (D×qa0)} {e:Expr} {es:List Expr} {ms:MA} {p pos:Pos} (F:Fn X.prog X.w X.K X.mg X.base k x n f) (hr:Room k X.A) (ha:DA X (e::es) ms) (hg:Gl X x:=by rfl)
    (hdb:(x == ("__debug__":Str))=false:=by decide) (he:starEach (e::es) X.env=(false,eval e X.env)::starEach es X.env:=by rfl) (hpl:(backTo pos (starEach es X.env)).any (·.1)=false:=by rfl) :
    DE X (.Call (.Name x p) (e::es) [] pos) (mCallN n f ms):=by
  obtain ⟨a,fd,ps,hn,F,hm,hk,hb⟩:=F.ex
  exact PE.imp (pe_call F hr hg hm hk hb .nil pass0 ha hdb he hpl) fun _ _ _ h=>tCall_of h
theorem de_call0 {k:Nat} {x:Str} {f:List D→qa0→Option (D×qa0)} {p pos:Pos} (F:Fn X.prog X.w X.K X.mg X.base k x 0 f) (hr:Room k X.A) (hg:Gl X x:=by rfl)
    (hdb:(x == ("__debug__":Str))=false:=by decide):DE X (.Call (.Name x p) [] [] pos) (mCallN 0 f mNil):=by
  obtain ⟨a,fd,ps,hn,F,hm,hk,hb⟩:=F.ex
  refine PE.imp (pe_call0 F hr hg hm hk hb .nil pass0 hdb) fun σ H Q h=>?_
  obtain ⟨μ,S,env,d,S',hS,hE,hm,post⟩:=h
  exact ⟨μ,S,[],d,S',hS,.nil,rfl,hm,post⟩
mutual
noncomputable def qH2 (n:Nat):D→Bool
  | .tup xs=>qp6 n xs
  | .lst xs=>qp6 n xs
  | .rol xs=>qp6 n xs
  | .dct _ xs=>qp6 n xs
  | .ref r=>decide (r<n)
  | _=>true
noncomputable def qp6 (n:Nat):List D→Bool
  | []=>true
  | d::ds=>qH2 n d&&qp6 n ds
end
noncomputable def zi0 (n:Nat):Cell→Bool
  | .lst xs=>qp6 n xs
  | .dct _ xs=>qp6 n xs
mutual
theorem Rep.trunc {cs l fb:List Addr}:∀ {v:V} {d:D},Rep K ⟨cs++l,fb⟩ H v d→qH2 cs.length d=true→Rep K ⟨cs,fb⟩ H v d
  | _,_,.non,_=>.non
  | _,_,.bl b,_=>.bl b
  | _,_,.int i,_=>.int i
  | _,_,.str x,_=>.str x
  | _,_,.tup h n r,c=>.tup h ⟨fun z=>n.1 (List.mem_append_left _ z),n.2⟩ (Reps.trunc r (by simpa only [qH2] using c))
  | _,_,.ktup h r,c=>.ktup h (Reps.trunc r (by simpa only [qH2] using c))
  | _,_,.lst h n r,c=>.lst h ⟨fun z=>n.1 (List.mem_append_left _ z),n.2⟩ (Reps.trunc r (by simpa only [qH2] using c))
  | _,_,.rol h n r,c=>.rol h ⟨fun z=>n.1 (List.mem_append_left _ z),n.2⟩ (Reps.trunc r (by simpa only [qH2] using c))
  | _,_,.krol h r,c=>.krol h (Reps.trunc r (by simpa only [qH2] using c))
  | _,_,.dct h n r,c=>.dct h ⟨fun z=>n.1 (List.mem_append_left _ z),n.2⟩ (Reps.trunc r (by simpa only [qH2] using c))
  | _,_,.ref h,c=>.ref (by
      have hl:=of_decide_eq_true c
      have h:(cs++l)[_]?=some _:=h
      rw [List.getElem?_append_left hl] at h
      exact h)
theorem Reps.trunc {cs l fb:List Addr}:∀ {vs:List V} {ds:List D},Reps K ⟨cs++l,fb⟩ H vs ds→qp6 cs.length ds=true→Reps K ⟨cs,fb⟩ H vs ds
  | _,_,.nil,_=>.nil
  | _,_,.cons h t,c=>by
    rw [qp6,Bool.and_eq_true] at c
    exact .cons (Rep.trunc h c.1) (Reps.trunc t c.2)
end
mutual
theorem Rep.closed:∀ {v:V} {d:D},Rep K μ H v d→qH2 μ.cs.length d=true
  | _,_,.non=>rfl
  | _,_,.bl b=>rfl
  | _,_,.int i=>rfl
  | _,_,.str x=>rfl
  | _,_,.tup h n r=>Reps.closed r
  | _,_,.ktup h r=>Reps.closed r
  | _,_,.lst h n r=>Reps.closed r
  | _,_,.rol h n r=>Reps.closed r
  | _,_,.krol h r=>Reps.closed r
  | _,_,.dct h n r=>Reps.closed r
  | _,_,.ref h=>decide_eq_true (List.getElem?_eq_some_iff.mp h).1
theorem Reps.closed:∀ {vs:List V} {ds:List D},Reps K μ H vs ds→qp6 μ.cs.length ds=true
  | _,_,.nil=>rfl
  | _,_,.cons h t=>by rw [qp6,Rep.closed h,Reps.closed t];rfl
end
theorem SOk.closed (s:SOk K μ S H):∀ c∈S,zi0 S.length c=true:=fun c hc=>by
  obtain ⟨r,hr⟩:=List.mem_iff_getElem?.mp hc
  have hl:=(List.getElem?_eq_some_iff.mp hr).1
  have hl':r < μ.cs.length:=by rw [s.len];exact hl
  have:=s.cell r _ c (List.getElem?_eq_getElem hl') hr
  cases c with
  | lst ds=>obtain ⟨vs,_,q⟩:=this;rw [← s.len];exact q.closed
  | dct ks ds=>obtain ⟨vs,_,_,q⟩:=this;rw [← s.len];exact q.closed
theorem SOk.trunc {S' g:qa0} (s:SOk K μ (S'++g) H) (hc:∀ c∈S',zi0 S'.length c=true):∃ cs l,μ.cs=cs++l∧cs.length=S'.length∧SOk K ⟨cs,μ.fb⟩ S' H:=by
  obtain ⟨cs0,fb⟩:=μ
  have hlen:cs0.length=S'.length+g.length:=by have:=s.len;simpa using this
  have hcl:(cs0.take S'.length).length=S'.length:=by rw [List.length_take];omega
  refine ⟨cs0.take S'.length,cs0.drop S'.length,(List.take_append_drop _ _).symm,hcl,s.nd.sublist (List.take_sublist _ _),hcl,fun r a c h1 h2=>?_,s.fdom,fun a ha z=>s.disj a ha (List.mem_of_mem_take z)⟩
  have hr:=(List.getElem?_eq_some_iff.mp h2).1
  have h1':cs0[r]?=some a:=by
    have h1:(cs0.take S'.length)[r]?=some a:=h1
    rwa [List.getElem?_take_of_lt hr] at h1
  have ck:=s.cell r a c h1' (by rw [List.getElem?_append_left hr];exact h2)
  have cc:=hc c (List.mem_of_getElem? h2)
  have e:cs0=cs0.take S'.length++cs0.drop S'.length:=(List.take_append_drop _ _).symm
  cases c with
  | lst ds=>
    obtain ⟨vs,q,r⟩:=ck
    have r':Reps K ⟨cs0.take S'.length++cs0.drop S'.length,fb⟩ H vs ds:=by rw [← e];exact r
    exact ⟨vs,q,r'.trunc (by rw [hcl];exact cc)⟩
  | dct ks ds=>
    obtain ⟨vs,q,q2,r⟩:=ck
    have r':Reps K ⟨cs0.take S'.length++cs0.drop S'.length,fb⟩ H (vs.map (·.2)) ds:=by rw [← e];exact r
    exact ⟨vs,q,q2,r'.trunc (by rw [hcl];exact cc)⟩
theorem Post.trunc {S' g:qa0} {d:D} {Q:VK} (post:Post K μ H S' d Q) (hd:qH2 S'.length d=true) (hc:∀ c∈S',zi0 S'.length c=true) (hl:μ.cs.length≤S'.length):Post K μ H (S'++g) d Q:=fun v H' μ' e s r=>by
  obtain ⟨cs,l,q,hcl,s'⟩:=s.trunc hc
  obtain ⟨cs',fb'⟩:=μ'
  have q':cs'=cs++l:=q
  subst q'
  refine post v H' ⟨cs,fb'⟩ ⟨e.fb,?_,e.keep,fun a ha=>e.dom a (List.mem_append_left _ ha)⟩ s' (r.trunc (by rw [hcl];exact hd))
  obtain ⟨l0,q0,h0⟩:=e.pre
  have q0:cs++l = μ.cs++l0:=q0
  have hle:μ.cs.length≤cs.length:=by rw [hcl];exact hl
  refine ⟨cs.drop μ.cs.length,?_,fun a ha=>h0 a ?_⟩
  · have t1:(cs++l).take μ.cs.length = μ.cs:=by rw [q0];simp
    rw [List.take_append_of_le_length hle] at t1
    show cs = μ.cs++cs.drop μ.cs.length
    conv=>lhs;rw [← List.take_append_drop μ.cs.length cs,t1]
  · have t2:(cs++l).drop μ.cs.length=l0:=by rw [q0];simp
    rw [← t2,List.drop_append_of_le_length hle]
    exact List.mem_append_left _ ha
noncomputable def Runs (m:MS) (env:MEnv) (S:qa0) (d:D) (S':qa0):Prop:=
  ∃ o g,m env S=some o∧(g=[]∨(qH2 S'.length d=true∧(∀ c∈S',zi0 S'.length c=true)∧S.length≤S'.length))∧(o=.rt d (S'++g)∨(d=.non∧∃ env',o=.nx env' (S'++g)))
theorem Runs.ret {m:MS} {env:MEnv} {S S':qa0} {d:D} (h:m env S=some (.rt d S')):Runs m env S d S':=⟨_,[],h,.inl rfl,.inl (by rw [List.append_nil])⟩
noncomputable def qc0 (N:List Str) (ds:List D):MEnv:=ds.map some++List.replicate (N.length - ds.length) none
theorem fn_ok {P:Program} {w:World} {mg:Str→Option Value} {base:Heap} {k:Nat} {x qual:Str} {st:Stmt} {a:Addr} {fd:FuncData} {N ps:List Str} {f:List D→qa0→Option (D×qa0)}
    (F:L2.Fun K x qual st a fd) (Sc:qc9 N ps (qa1 st))
    (hbody:∀ (cdv:Value) (A:Around) (outer:List PySem.Env) (s:Shared) (H:Hp) (E:XK),Room k (A.deeper (envOfC qual (qa1 st) s.heap.objs.size a cdv)) →
      ∃ m,DSs (cxOf CX0 P w K mg base N qual (qa1 st) a cdv A outer s H E).nox (qa2 st) m∧∀ ds S d S',ds.length=ps.length→(∀ c∈S,zi0 S.length c=true)→qp6 S.length ds=true→f ds S=some (d,S')→Runs m (qc0 N ds) S d S') :
    FnOk P w K mg base CX0 (k+1) a fd ps (spM K ps.length f):=by
  refine F.ok Sc (fun vs H Q E h=>?_) (fun cdv A outer s H vs Q E hr h=>?_)
  · obtain ⟨μ,S,ds,d,S',hS,hr,hn,hf,post⟩:=h
    rw [hr.length,hn]
  · obtain ⟨m,hm,run⟩:=hbody cdv A outer s H E hr
    refine ⟨_,hm,?_⟩
    obtain ⟨μ,S,ds,d,S',hS,hrp,hn,hf,post⟩:=h
    obtain ⟨o,g,ho,hg,hend⟩:=run ds S d S' hn hS.closed (by rw [← hS.len];exact hrp.closed) hf
    have post':Post K μ H (S'++g) d Q:=by
      rcases hg with rfl | ⟨c1,c2,c3⟩
      · rw [List.append_nil];exact post
      · exact post.trunc c1 c2 (by rw [hS.len];exact c3)
    have hEnv:EOk K μ H (L2.start N vs) (qc0 N ds):=by unfold L2.start qc0;rw [hrp.length];exact EOk.start hrp
    rcases hend with rfl | ⟨rfl,env',rfl⟩
    · exact ⟨μ,S,_,_,hS,hEnv,ho,post'⟩
    · exact ⟨μ,S,_,_,hS,hEnv,ho,fun σ' H' μ' e s' _=>post' .non H' μ' e s' .non⟩
theorem fn_mk {P:Program} {w:World} {mg:Str→Option Value} {base:Heap} {k:Nat} {x qual:Str} {st:Stmt} {a:Addr} {fd:FuncData} {N ps:List Str} {f:List D→qa0→Option (D×qa0)}
    (F:L2.Fun K x qual st a fd) (Sc:qc9 N ps (qa1 st)) (hmg:mg x=some (.ref a)) (hb:Binds K fd ps [])
    (hbody:∀ (cdv:Value) (A:Around) (outer:List PySem.Env) (s:Shared) (H:Hp) (E:XK),Room k (A.deeper (envOfC qual (qa1 st) s.heap.objs.size a cdv)) →
      ∃ m,DSs (cxOf CX0 P w K mg base N qual (qa1 st) a cdv A outer s H E).nox (qa2 st) m∧∀ ds S d S',ds.length=ps.length→(∀ c∈S,zi0 S.length c=true)→qp6 S.length ds=true→f ds S=some (d,S')→Runs m (qc0 N ds) S d S') :
    Fn P w K mg base (k+1) x ps.length f:=⟨a,fd,ps,rfl,fn_ok F Sc hbody,hmg,F.kp,hb⟩
end
end M
namespace M
open PySem PySem.Spec PyProof.Rows L2
section
variable {X:Cx} {K:PySem.W.Frag} {μ μ':Fp} {H H':Hp} {S:qa0}
theorem PostN.ext {S':qa0} {env':MEnv} {Q:L2.St→Hp→Prop} (e:Ext μ H μ' H') (p:PostN K μ H S' env' Q):PostN K μ' H' S' env' Q:=fun σ2 H2 μ2 e2 s r=>p σ2 H2 μ2 (e.trans e2) s r
theorem PostS.ext {o:Out} {E:Ends} (e:Ext μ H μ' H') (p:PostS K μ H o E):PostS K μ' H' o E:=by
  cases o with
  | nx env S=>exact PostN.ext e p
  | rt d S=>exact Post.ext e p
  | bk env S=>exact PostN.ext e p
  | ct env S=>exact PostN.ext e p
noncomputable def mSkip:MS:=fun env S=>some (.nx env S)
noncomputable def mSeq (a b:MS):MS:=fun env S=>(a env S).bind fun o=>match o with | .nx env' S'=>b env' S' | o=>some o
theorem dss_nil:DSs X [] mSkip:=PSs.imp pss_nil fun E σ H ⟨μ,S,env,o,hS,hE,hm,post⟩=>by cases hm;exact post σ H μ hS.ext hS hE
theorem tSeq_of {a b:MS} {E:Ends} {σ:L2.St} (h:tMS K (mSeq a b) E σ H):tSeq (tMS K a) (tMS K b) E σ H:=by
  obtain ⟨μ,S,env,o,hS,hE,hm,post⟩:=h
  obtain ⟨o1,h1,hm⟩:=Option.bind_eq_some_iff.mp hm
  refine ⟨μ,S,env,o1,hS,hE,h1,?_⟩
  cases o1 with
  | nx env' S'=>exact fun σ' H' μ' e s r=>⟨μ',S',env',o,s,r,hm,post.ext e⟩
  | rt d S'=>cases hm;exact post
  | bk env' S'=>cases hm;exact post
  | ct env' S'=>cases hm;exact post
theorem dss_cons {st:Stmt} {rest:List Stmt} {a b:MS} (h1:DS X st a) (h2:DSs X rest b):DSs X (st::rest) (mSeq a b):=PSs.imp (pss_cons h1 h2) fun _ _ _ h=>tSeq_of h
theorem dss_one {st:Stmt} {a:MS} (h1:DS X st a):DSs X [st] a:=pss_one h1
variable {pos:Pos} {e c:Expr} {m:ME} {mt:MT} {a b:List Stmt} {ma mb:MS}
theorem ds_pass:DS X (.Pass pos) mSkip:=PS.imp ps_pass fun E σ H ⟨μ,S,env,o,hS,hE,hm,post⟩=>by cases hm;exact post σ H μ hS.ext hS hE
theorem ds_break:DS X (.Break pos) (fun env S=>some (.bk env S)):=PS.imp ps_break fun E σ H ⟨μ,S,env,o,hS,hE,hm,post⟩=>by cases hm;exact post σ H μ hS.ext hS hE
theorem q59:DS X (.Continue pos) (fun env S=>some (.ct env S)):=PS.imp q14 fun E σ H ⟨μ,S,env,o,hS,hE,hm,post⟩=>by cases hm;exact post σ H μ hS.ext hS hE
theorem ds_doc {x j p}:DS X (.Expr (.Constant (.str x) j p) pos) mSkip:=PS.imp ps_doc fun E σ H ⟨μ,S,env,o,hS,hE,hm,post⟩=>by cases hm;exact post σ H μ hS.ext hS hE
noncomputable def mRet (m:ME):MS:=fun env S=>(m env S).bind fun p=>some (.rt p.1 p.2)
theorem ds_ret (he:DE X e m):DS X (.Return (some e) pos) (mRet m):=PS.imp (ps_ret he) fun E σ H ⟨μ,S,env,o,hS,hE,hm,post⟩=>by
  obtain ⟨⟨d,S1⟩,h1,hm⟩:=Option.bind_eq_some_iff.mp hm
  cases hm
  exact ⟨μ,S,env,d,S1,hS,hE,h1,post⟩
theorem ds_retN:DS X (.Return none pos) (fun _ S=>some (.rt .non S)):=PS.imp ps_retN fun E σ H ⟨μ,S,env,o,hS,hE,hm,post⟩=>by cases hm;exact Post.here post hS .non
noncomputable def mDrop (m:ME):MS:=fun env S=>(m env S).bind fun p=>some (.nx env p.2)
theorem ds_expr (he:DE X e m) (hs:swapsWith e none pos.line X.env=pure false:=by rfl):DS X (.Expr e pos) (mDrop m):=PS.imp (ps_expr he hs) fun E σ H ⟨μ,S,env,o,hS,hE,hm,post⟩=>by
  obtain ⟨⟨d,S1⟩,h1,hm⟩:=Option.bind_eq_some_iff.mp hm
  cases hm
  exact ⟨μ,S,env,d,S1,hS,hE,h1,fun v H' μ' ex s r=>post σ H' μ' ex s (hE.mono ex)⟩
noncomputable def mIfS (t:MT) (a b:MS):MS:=fun env S=>(t env S).bind fun p=>if p.1=true then a env p.2 else b env p.2
theorem ds_if (hc:DT X c mt) (ha:DSs X a ma) (hb:DSs X b mb):DS X (.If c a b pos) (mIfS mt ma mb):=PS.imp (ps_if hc ha hb) fun E σ H ⟨μ,S,env,o,hS,hE,hm,post⟩=>by
  obtain ⟨⟨k,S1⟩,h1,hm⟩:=Option.bind_eq_some_iff.mp hm
  refine ⟨μ,S,env,k,S1,hS,hE,h1,fun H1 μ1 e1 s1=>?_⟩
  cases k with
  | true=>rw [if_pos rfl] at hm ⊢;exact ⟨μ1,S1,env,o,s1,hE.mono e1,hm,post.ext e1⟩
  | false=>rw [if_neg Bool.false_ne_true] at hm ⊢;exact ⟨μ1,S1,env,o,s1,hE.mono e1,hm,post.ext e1⟩
noncomputable abbrev MG:=D→MEnv→qa0→Option (MEnv×qa0)
noncomputable abbrev MGs:=List D→MEnv→qa0→Option (MEnv×qa0)
inductive tMG (K:PySem.W.Frag) (g:MG) (v:V) (σ:L2.St) (H:Hp) (Q:L2.St→Hp→Prop):Prop
  | mk (μ:Fp) (S:qa0) (env:MEnv) (d:D) (env':MEnv) (S':qa0) (hS:SOk K μ S H) (hE:EOk K μ H σ env) (h1:Rep K μ H v d) (h:g d env S=some (env',S')) (post:PostN K μ H S' env' Q)
inductive tMGs (K:PySem.W.Frag) (g:MGs) (vs:List V) (σ:L2.St) (H:Hp) (Q:L2.St→Hp→Prop):Prop
  | mk (μ:Fp) (S:qa0) (env:MEnv) (ds:List D) (env':MEnv) (S':qa0) (hS:SOk K μ S H) (hE:EOk K μ H σ env) (h1:Reps K μ H vs ds) (h:g ds env S=some (env',S')) (post:PostN K μ H S' env' Q)
noncomputable def DG (X:Cx) (tg:Expr) (g:MG):Prop:=PG X tg (tMG X.K g)
noncomputable def DGs (X:Cx) (tg:List Expr) (g:MGs):Prop:=PGs X tg (tMGs X.K g)
theorem PG.imp {tg:Expr} {t t':TG} (h:PG X tg t) (i:∀ v σ H Q,t' v σ H Q→t v σ H Q):PG X tg t':=fun pins s σ H v u Q I r q=>h pins s σ H v u Q I r (i v σ H Q q)
theorem PGs.imp {tg:List Expr} {t t':TGs} (h:PGs X tg t) (i:∀ v σ H Q,t' v σ H Q→t v σ H Q):PGs X tg t':=fun pins s σ H v u Q I r q=>h pins s σ H v u Q I r (i v σ H Q q)
noncomputable def gSet (i:Nat):MG:=fun d env S=>some (env.set i (some d),S)
theorem dg_name {i:Nat} {x:Str} (hN:X.N.Nodup) (hi:X.N[i]?=some x) (hx:Loc X.env.scope x) (hf:X.fn x=true∨X.env.scope.names.lookup x=some .local:=by first | exact .inl rfl | exact .inr rfl | assumption):DG X (.Name x pos) (gSet i):=
  PG.imp (pg_name hN hi hx hf) fun v σ H Q ⟨μ,S,env,d,env',S',hS,hE,hr,hm,post⟩=>by cases hm;exact post _ H μ hS.ext hS (hE.set hr i)
noncomputable def gNilD:MGs:=fun ds env S=>match ds with | []=>some (env,S) | _=>none
noncomputable def gConsD (g:MG) (gs:MGs):MGs:=fun ds env S=>match ds with | d::r=>(g d env S).bind fun p=>gs r p.1 p.2 | []=>none
theorem dgs_nil:DGs X [] gNilD:=PGs.imp pgs_nil fun v σ H Q ⟨μ,S,env,ds,env',S',hS,hE,hr,hm,post⟩=>by
  cases hr with
  | nil=>cases hm;exact ⟨rfl,post σ H μ hS.ext hS hE⟩
  | cons _ _=>cases hm
theorem dgs_cons {t:Expr} {ts:List Expr} {g:MG} {gs:MGs} (h1:DG X t g) (h2:DGs X ts gs) (hs:(assignEach (t::ts) X.env).map (·.2)=assign t X.env::(assignEach ts X.env).map (·.2):=by rfl):DGs X (t::ts) (gConsD g gs):=
  PGs.imp (pgs_cons h1 h2 hs) fun v σ H Q ⟨μ,S,env,ds,env',S',hS,hE,hr,hm,post⟩=>by
    cases hr with
    | nil=>cases hm
    | @cons v d vs ds h t=>
      obtain ⟨⟨env1,S1⟩,h1,hm⟩:=Option.bind_eq_some_iff.mp hm
      exact ⟨v,vs,rfl,μ,S,env,d,env1,S1,hS,hE,h,h1,fun σ1 H1 μ1 e1 s1 r1=>⟨μ1,S1,env1,ds,env',S',s1,r1,t.mono e1,hm,post.ext e1⟩⟩
noncomputable def gTupD (n:Nat) (gs:MGs):MG:=fun d env S=>match d with | .tup xs=>if xs.length=n then gs xs env S else none | _=>none
theorem dg_tup {es:List Expr} {k n:Nat} {gs:MGs} (hc:X.calm=true) (h:DGs X es gs) (hn:(assignEach es X.env).length=n:=by rfl) (hst:(assignEach es X.env).findIdx? (·.1)=none:=by rfl):DG X (.Tuple es k pos) (gTupD n gs):=
  PG.imp (pg_tup hc h hn hst) fun v σ H Q ⟨μ,S,env,d,env',S',hS,hE,hr,hm,post⟩=>by
    cases d with
    | tup xs=>
      simp only [gTupD] at hm
      split at hm
      · rename_i hl
        obtain ⟨a,vs,rfl,q,r⟩:=hr.sqT
        exact ⟨a,vs,rfl,q,by rw [r.length];exact hl,μ,S,env,xs,env',S',hS,hE,r,hm,post⟩
      · cases hm
    | _=>cases hm
noncomputable def gSubD (o i:ME):MG:=fun d env S=>(o env S).bind fun p=>(i env p.2).bind fun q=>match p.1,q.1 with
  | .ref r,.int k=>match q.2[r]? with
    | some (.lst xs)=>(ixN xs.length k).bind fun j=>some (env,q.2.set r (.lst (xs.set j d)))
    | _=>none
  | _,_=>none
theorem dg_sub {o i:Expr} {mo mi:ME} (ho:DE X o mo) (hi:DE X i mi) (ha:∀ v,assign (.Subscript o i pos) X.env v=(do
      let ov ← holding [v] (eval o X.env)
      let iv ← holding [v,ov] (eval i X.env)
      standAt pos
      holding [v,ov,iv] (setItem ov iv v)
      release [v,ov,iv] []):=by intro _;rfl):DG X (.Subscript o i pos) (gSubD mo mi):=
  PG.imp (pg_sub ho hi set_list ha) fun v σ H Q ⟨μ,S,env,d,env',S',hS,hE,hr,hm,post⟩=>by
    obtain ⟨⟨x,S1⟩,h1,hm⟩:=Option.bind_eq_some_iff.mp hm
    obtain ⟨⟨y,S2⟩,h2,hm⟩:=Option.bind_eq_some_iff.mp hm
    refine ⟨μ,S,env,x,S1,hS,hE,h1,fun v1 H1 μ1 e1 s1 r1=>⟨μ1,S1,env,y,S2,s1,hE.mono e1,h2,fun v2 H2 μ2 e2 s2 r2=>?_⟩⟩
    cases x with
    | ref r=>
      cases y with
      | int k=>
        dsimp only at hm
        cases q:S2[r]? with
        | none=>rw [q] at hm;cases hm
        | some c=>
          rw [q] at hm
          cases c with
          | lst xs=>
            obtain ⟨j,h3,hm⟩:=Option.bind_eq_some_iff.mp hm
            cases hm
            have r1':=r1.mono e2
            cases r1' with
            | @ref a _ h'=>
              obtain ⟨vs,hv,rv⟩:=s2.cell r a _ h' q
              have rd:=(hr.mono e1).mono e2
              obtain ⟨e3,s3⟩:=s2.write h' hv (rv.set rd j)
              exact ⟨a,vs,k,j,rfl,r2.int_inv,hv,by rw [rv.length];exact h3,post σ _ μ2 ((e1.trans e2).trans e3) s3 (hE.mono ((e1.trans e2).trans e3))⟩
          | dct ks xs=>cases hm
      | _=>cases hm
    | _=>cases hm
noncomputable def mAsg (m:ME) (g:MG):MS:=fun env S=>(m env S).bind fun p=>(g p.1 env p.2).bind fun q=>some (.nx q.1 q.2)
theorem tAsg_of {g:MG} {E:Ends} {σ:L2.St} (h:tMS K (mAsg m g) E σ H):tAsg (tM K m) (tMG K g) E σ H:=by
  obtain ⟨μ,S,env,o,hS,hE,hm,post⟩:=h
  obtain ⟨⟨d,S1⟩,h1,hm⟩:=Option.bind_eq_some_iff.mp hm
  obtain ⟨⟨env2,S2⟩,h2,hm⟩:=Option.bind_eq_some_iff.mp hm
  cases hm
  exact ⟨μ,S,env,d,S1,hS,hE,h1,fun v H1 μ1 e1 s1 r1=>⟨μ1,S1,env,d,env2,S2,s1,hE.mono e1,r1,h2,PostN.ext e1 post⟩⟩
theorem ds_asg {tg:Expr} {g:MG} (he:DE X e m) (hg:DG X tg g) (hs:swapsWithSole [tg] e pos.line X.env=pure false:=by rfl) (hw:swappedStores [tg] e X.env=pure none:=by rfl)
    (h1:(assignEach [tg] X.env).map (·.2)=[assign tg X.env]:=by rfl):DS X (.Assign [tg] e pos) (mAsg m g):=PS.imp (ps_asg he hg hs hw h1) fun _ _ _ h=>tAsg_of h
theorem ds_set {i:Nat} {x:Str} {pos':Pos} (hN:X.N.Nodup) (hi:X.N[i]?=some x) (hx:Loc X.env.scope x) (he:DE X e m) (hs:swapsWith e (some (.Name x pos')) pos.line X.env=pure false:=by rfl) (hf:X.fn x=true∨X.env.scope.names.lookup x=some .local:=by first | exact .inl rfl | exact .inr rfl | assumption) :
    DS X (.Assign [.Name x pos'] e pos) (mAsg m (gSet i)):=PS.imp (ps_set hN hi hx he hs hf) fun E σ H h=>by
  obtain ⟨μ,S,env,o,hS,hE,hm,post⟩:=h
  obtain ⟨⟨d,S1⟩,h1,hm⟩:=Option.bind_eq_some_iff.mp hm
  cases hm
  exact ⟨μ,S,env,d,S1,hS,hE,h1,fun v H1 μ1 e1 s1 r1=>post _ H1 μ1 e1 s1 ((hE.mono e1).set r1 i)⟩
structure ExtP (μ:Fp) (H:Hp) (μ':Fp) (H':Hp):Prop where
  fb:∃ l,μ'.fb=l++μ.fb∧∀ a∈l,H a=none
  pre:∃ l,μ'.cs = μ.cs++l∧∀ a∈l,H a=none
  keep:∀ a o,a ∉ μ.cs→H a=some o→H' a=some o
  dom:∀ a ∈ μ'.cs,H' a≠none
theorem Ext.toP (e:Ext μ H μ' H'):ExtP μ H μ' H':=⟨⟨[],by rw [e.fb];rfl,fun _ z=>by simp at z⟩,e.pre,e.keep,e.dom⟩
theorem ExtP.stays (e:ExtP μ H μ' H') {a:Addr} {o:HO} (h:H a=some o) (n:μ.no a):H' a=some o∧μ'.no a:=by
  refine ⟨e.keep a o n.1 h,fun z=>?_,fun z=>?_⟩
  · obtain ⟨l,q,hl⟩:=e.pre
    rw [q] at z
    rcases List.mem_append.mp z with z | z
    · exact n.1 z
    · rw [hl a z] at h;cases h
  · obtain ⟨l,q,hl⟩:=e.fb
    rw [q] at z
    rcases List.mem_append.mp z with z | z
    · rw [hl a z] at h;cases h
    · exact n.2 z
theorem ExtP.then {μ'':Fp} {H'':Hp} (e:ExtP μ H μ' H') (f:Ext μ' H' μ'' H''):ExtP μ H μ'' H'':=by
  obtain ⟨l,q,hl⟩:=e.pre
  obtain ⟨l',q',hl'⟩:=f.pre
  refine ⟨by rw [f.fb];exact e.fb,⟨l++l',by rw [q',q,List.append_assoc],fun a ha=>?_⟩,fun a o n h=>?_,f.dom⟩
  · rcases List.mem_append.mp ha with ha | ha
    · exact hl a ha
    · have h1:=hl' a ha
      cases q2:H a with
      | none=>rfl
      | some o=>
        by_cases hm:a ∈ μ.cs
        · exact absurd h1 (e.dom a (by rw [q];exact List.mem_append_left _ hm))
        · rw [e.keep a o hm q2] at h1;cases h1
  · have h1:=e.keep a o n h
    refine f.keep a o (fun z=>?_) h1
    rw [q] at z
    rcases List.mem_append.mp z with z | z
    · exact n z
    · rw [hl a z] at h;cases h
theorem ExtP.chg {p:Addr} {o:HO} (e:ExtP μ H μ' H') (hp:H p=none):ExtP μ H μ' (upd H' p o):=
  ⟨e.fb,e.pre,fun a o' n h=>by rw [qb5 (qe6 h hp)];exact e.keep a o' n h,fun a ha=>by
    by_cases z:a=p
    · subst z;rw [qb4];simp
    · rw [qb5 z];exact e.dom a ha⟩
theorem ExtP.ix (e:ExtP μ H μ' H') {r:Nat} {a:Addr} (h:μ.cs[r]?=some a):μ'.cs[r]?=some a:=by
  obtain ⟨l,q,_⟩:=e.pre
  exact zd3 q h
theorem Rep.monoP (e:ExtP μ H μ' H') {v:V} {d:D} (r:Rep K μ H v d):Rep K μ' H' v d:=r.imp e.stays e.ix
noncomputable def ItOk (K:PySem.W.Frag) (μ:Fp) (H:Hp) (J:It) (xs:List D):Prop:=
  ∀ μ' H' S',ExtP μ H μ' H'→SOk K μ' S' H'→∀ i,(∀ d,xs[i]?=some d→J.go i H'∧∀ x H2,J.yld i H' x H2→Ext μ' H' μ' H2∧SOk K μ' S' H2∧Rep K μ' H2 x d)∧(xs.length≤i→J.stop i H')
inductive iM (K:PySem.W.Frag) (m:MA) (σ:L2.St) (H:Hp) (R:It→Hp→Prop):Prop
  | mk (μ:Fp) (S:qa0) (env:MEnv) (xs:List D) (S':qa0) (hS:SOk K μ S H) (hE:EOk K μ H σ env) (h:m env S=some (xs,S')) (post:∀ J H' μ',Ext μ H μ' H'→SOk K μ' S' H'→ItOk K μ' H' J xs→R J H')
noncomputable def DI (X:Cx) (tg iter:Expr) (m:MA):Prop:=PI X tg iter (iM X.K m)
theorem PI.imp {tg iter:Expr} {t t':TI} (h:PI X tg iter t) (i:∀ σ H R,t' σ H R→t σ H R):PI X tg iter t':=fun pins s σ H R I q=>h pins s σ H R I (i σ H R q)
theorem qY0 {v:V} {a:Addr} {d:D} {xs:List D} (hd:d=.lst xs∨d=.rol xs) (r:Rep K μ H v d) (hv:v=.ref a):ItOk K μ H (Itl K a) xs:=fun μ' H' S' e s i=>by
  have r':=r.monoP e
  obtain ⟨vs,q,rs⟩:∃ vs,SqL K H' a vs∧Reps K μ' H' vs xs:=by
    subst hv
    rcases hd with rfl | rfl
    · obtain ⟨a',vs,ea,q,_,rs⟩:=r'.sqL;cases ea;exact ⟨vs,.inl (.inl q),rs⟩
    · obtain ⟨a',vs,ea,q,rs⟩:=r'.sqR;cases ea;exact ⟨vs,q,rs⟩
  refine ⟨fun d hd=>?_,fun hl=>⟨vs,q,by rw [rs.length];exact hl⟩⟩
  obtain ⟨v,hv,rv⟩:=rs.get hd
  refine ⟨⟨vs,v,q,hv⟩,fun x H2 ⟨e2,hy⟩=>?_⟩
  subst e2
  have:=hy vs q
  rw [hv] at this;cases this
  exact ⟨s.ext,s,rv⟩
theorem itOk_tup {a:Addr} {xs:List D} (r:Rep K μ H (.ref a) (.tup xs)):ItOk K μ H (Itt K a) xs:=fun μ' H' S' e s i=>by
  obtain ⟨a',vs,ea,q,rs⟩:=(r.monoP e).sqT
  cases ea
  refine ⟨fun d hd=>?_,fun hl=>⟨vs,q,by rw [rs.length];exact hl⟩⟩
  obtain ⟨v,hv,rv⟩:=rs.get hd
  refine ⟨⟨vs,v,q,hv⟩,fun x H2 ⟨e2,hy⟩=>?_⟩
  subst e2
  have:=hy vs q
  rw [hv] at this;cases this
  exact ⟨s.ext,s,rv⟩
variable {tg iter:Expr}
noncomputable def qe7 (lo:Int) (n:Nat):List D:=(List.range n).map fun (i:Nat)=>D.int (lo+(i:Int))
theorem qK0 (lo:Int) (n i:Nat) (d:D) (h:(qe7 lo n)[i]?=some d):i<n∧d=.int (lo+(i:Int)):=by
  unfold qe7 at h
  rw [List.getElem?_map] at h
  cases q:(List.range n)[i]? with
  | none=>rw [q] at h;cases h
  | some j=>
    rw [q] at h;cases h
    obtain ⟨h1,h2⟩:=List.getElem?_eq_some_iff.mp q
    simp at h1 h2
    exact ⟨h1,by rw [h2]⟩
theorem qz3 (lo:Int) (n:Nat):ItOk K μ H (Itr lo n) (qe7 lo n):=fun μ' H' S' e s i=>by
  refine ⟨fun d hd=>?_,fun hl=>?_⟩
  · obtain ⟨h1,rfl⟩:=qK0 lo n i d hd
    refine ⟨h1,fun x H2 ⟨e2,hy⟩=>?_⟩
    subst e2 hy
    exact ⟨s.ext,s,.int _⟩
  · have:(qe7 lo n).length=n:=by simp [qe7]
    rw [this] at hl;exact hl
noncomputable def mRange1 (ms:MA):MA:=fun env S=>(ms env S).bind fun p=>match p.1 with | [.int j]=>if -(2 ^ 62)≤j∧j<2 ^ 62 then some (qe7 0 j.toNat,p.2) else none | _=>none
noncomputable def mRange2 (ms:MA):MA:=fun env S=>(ms env S).bind fun p=>match p.1 with | [.int i,.int j]=>if -(2 ^ 62)≤i∧i<2 ^ 62∧-(2 ^ 62)≤j∧j<2 ^ 62 then some (qe7 i (j - i).toNat,p.2) else none | _=>none
theorem di_range1 {a:Expr} {ms:MA} {p:Pos} (hm:X.mg "range" = none) (ha:DA X [a] ms) (hg:Gl X "range":=by rfl) (hs:starEach [a] X.env=[(false,eval a X.env)]:=by rfl):DI X tg (.Call (.Name "range" p) [a] [] pos) (mRange1 ms):=
  PI.imp (qT5 hg hm ha hs) fun σ H R ⟨μ,S,env,xs,S',hS,hE,hm,post⟩=>by
    obtain ⟨⟨ds,S1⟩,h1,hm⟩:=Option.bind_eq_some_iff.mp hm
    refine ⟨μ,S,env,ds,S1,hS,hE,h1,fun vs H1 μ1 e1 s1 r1=>?_⟩
    dsimp only at hm
    split at hm
    · split at hm
      · rename_i hb
        cases hm
        obtain ⟨v,rfl,r⟩:=r1.one
        exact ⟨_,by rw [r.int_inv],hb.1,hb.2,post _ H1 μ1 e1 s1 (qz3 0 _)⟩
      · cases hm
    · cases hm
theorem di_range2 {a b:Expr} {ms:MA} {p:Pos} (hm:X.mg "range" = none) (ha:DA X [a,b] ms) (hg:Gl X "range":=by rfl) (hs:starEach [a,b] X.env=[(false,eval a X.env),(false,eval b X.env)]:=by rfl) (hs2:starEach [b] X.env=[(false,eval b X.env)]:=by rfl):DI X tg (.Call (.Name "range" p) [a,b] [] pos) (mRange2 ms):=
  PI.imp (zl4 hg hm ha hs hs2) fun σ H R ⟨μ,S,env,xs,S',hS,hE,hm,post⟩=>by
    obtain ⟨⟨ds,S1⟩,h1,hm⟩:=Option.bind_eq_some_iff.mp hm
    refine ⟨μ,S,env,ds,S1,hS,hE,h1,fun vs H1 μ1 e1 s1 r1=>?_⟩
    dsimp only at hm
    split at hm
    · split at hm
      · rename_i hb
        cases hm
        obtain ⟨v,w,rfl,r,r'⟩:=r1.two
        exact ⟨_,_,by rw [r.int_inv,r'.int_inv],hb,post _ H1 μ1 e1 s1 (qz3 _ _)⟩
      · cases hm
    · cases hm
noncomputable def qk6 (g:MG) (body:MS):List D→MEnv→qa0→Option Out
  | [],env,S=>some (.nx env S)
  | d::ds,env,S=>(g d env S).bind fun p=>(body p.1 p.2).bind fun o=>match o with
    | .nx e s=>qk6 g body ds e s
    | .ct e s=>qk6 g body ds e s
    | .bk e s=>some (.nx e s)
    | .rt d s=>some (.rt d s)
noncomputable def mFor (mi:MA) (g:MG) (body:MS):MS:=fun env S=>(mi env S).bind fun p=>qk6 g body p.1 env p.2
theorem ds_for {body:List Stmt} {mi:MA} {g:MG} {mb:MS} (hp:PassesOwn (model X.prog X.w) X.A X.env X.xe) (hc:X.calm=true) (hi:DI X tg iter mi) (hg:DG X tg g) (hb:DSs X body mb)
    (hs:∀ x,foldedSetIterable iter X.env x=pure x:=by intro _;rfl):DS X (.For tg iter body [] pos) (mFor mi g mb):=PS.imp (ps_for hp hc hi hg hb hs) fun E σ H ⟨μ,S,env,o,hS,hE,hm,post⟩=>by
  obtain ⟨⟨xs,S1⟩,h1,hm⟩:=Option.bind_eq_some_iff.mp hm
  refine ⟨μ,S,env,xs,S1,hS,hE,h1,fun J H1 μ1 e1 s1 it=>?_⟩
  refine ⟨fun i n σ H=>n=xs.length - i∧i≤xs.length∧∃ μ' S' env' o',Ext μ1 H1 μ' H∧SOk X.K μ' S' H∧EOk X.K μ' H σ env'∧qk6 g mb (xs.drop i) env' S'=some o'∧PostS X.K μ' H o' E,
    ⟨xs.length,by simp,Nat.zero_le _,μ1,S1,env,o,s1.ext,s1,hE.mono e1,by rw [List.drop_zero];exact hm,post.ext e1⟩,?_⟩
  rintro i n σ' H' ⟨rfl,hi,μ',S',env',o',e',s',r',hl,post'⟩
  have iti:=it μ' H' S' e'.toP s' i
  by_cases hlt:i<xs.length
  · refine .inr ⟨(iti.1 xs[i] (List.getElem?_eq_getElem hlt)).1,fun σ2 H2=>∃ μ2 S2 env2 o2,Ext μ1 H1 μ2 H2∧SOk X.K μ2 S2 H2∧EOk X.K μ2 H2 σ2 env2∧qk6 g mb (xs.drop (i+1)) env2 S2=some o2∧PostS X.K μ2 H2 o2 E,
      fun σ2 H2 ⟨μ2,S2,env2,o2,q1,q2,q3,q4,q5⟩=>⟨xs.length - (i+1),by omega,rfl,hlt,μ2,S2,env2,o2,q1,q2,q3,q4,q5⟩,fun x H2 y=>?_⟩
    obtain ⟨e2,s2,rx⟩:=(iti.1 xs[i] (List.getElem?_eq_getElem hlt)).2 x H2 y
    rw [List.drop_eq_getElem_cons hlt] at hl
    obtain ⟨⟨env3,S3⟩,h3,hl⟩:=Option.bind_eq_some_iff.mp hl
    obtain ⟨o4,h4,hl⟩:=Option.bind_eq_some_iff.mp hl
    refine ⟨μ',S',env',xs[i],env3,S3,s2,r'.mono e2,rx,h3,fun σ3 H3 μ3 e3 s3 r3=>⟨μ3,S3,env3,o4,s3,r3,h4,?_⟩⟩
    have eT:Ext μ1 H1 μ3 H3:=(e'.trans e2).trans e3
    have pT:PostS X.K μ3 H3 o' E:=(post'.ext e2).ext e3
    cases o4 with
    | nx e5 s5=>exact fun σ6 H6 μ6 e6 s6 r6=>⟨μ6,s5,e5,o',eT.trans e6,s6,r6,hl,pT.ext e6⟩
    | ct e5 s5=>exact fun σ6 H6 μ6 e6 s6 r6=>⟨μ6,s5,e5,o',eT.trans e6,s6,r6,hl,pT.ext e6⟩
    | bk e5 s5=>cases hl;exact pT
    | rt d5 s5=>cases hl;exact pT
  · have e:i=xs.length:=by omega
    subst e
    refine .inl ⟨iti.2 (Nat.le_refl _),?_⟩
    rw [List.drop_length] at hl
    cases hl
    exact post' σ' H' μ' s'.ext s' r'
noncomputable def capE (cap:List (Option Nat)) (env:MEnv):MEnv:=cap.map fun o=>o.bind fun i=>(env[i]?).join
noncomputable def DTs (X:Cx) (ifs:List Expr) (m:MT):Prop:=PTs X ifs (tMT X.K m)
theorem dts_nil:DTs X [] (fun _ S=>some (true,S)):=fun pins s σ H Q I ⟨μ,S,env,b,S',hS,hE,hm,post⟩=>by cases hm;exact pts_nil pins s σ H Q I (post H μ hS.ext hS)
theorem dts_one {c:Expr} {t:MT} (h:DT X c t):DTs X [c] t:=pts_one h
noncomputable def ql8 (g:MG) (t:MT) (e:ME):List D→MEnv→qa0→Option (List D×qa0)
  | [],_,S=>some ([],S)
  | d::ds,env,S=>(g d env S).bind fun p=>(t p.1 p.2).bind fun b=>if b.1=true then (e p.1 b.2).bind fun q=>(ql8 g t e ds p.1 q.2).bind fun r=>some (q.1::r.1,r.2) else ql8 g t e ds p.1 b.2
noncomputable def mComp (mi:MA) (g:MG) (t:MT) (e:ME) (cap:List (Option Nat)):ME:=fun env S=>(mi env S).bind fun p=>if p.1.length≤sizeLine then (ql8 g t e p.1 (capE cap env) p.2).bind fun q=>some (.lst q.1,q.2) else none
theorem q83 {mi:MA} {g:MG} {t:MT} {e:ME} {cap:List (Option Nat)} {σ:L2.St} {Q:VK} (h:tM K (mComp mi g t e cap) σ H Q):tComp (iM K mi) (tMG K g) (tMT K t) (tM K e) cap σ H Q:=by
  obtain ⟨μ,S,env,d,S',hS,hE,hm,post⟩:=h
  obtain ⟨⟨xs,S1⟩,h1,hm⟩:=Option.bind_eq_some_iff.mp hm
  dsimp only at hm
  split at hm
  case isFalse=>cases hm
  rename_i hsz
  obtain ⟨⟨ys,S2⟩,h2,hm⟩:=Option.bind_eq_some_iff.mp hm
  cases hm
  refine ⟨μ,S,env,xs,S1,hS,hE,h1,fun J H1 μ1 e1 s1 it p hp=>?_⟩
  have hpn:=s1.notMem hp
  refine ⟨fun i n σ' H'=>n=xs.length - i∧i≤xs.length∧∃ (cs:List Addr) (S':qa0) (env':MEnv) (vs:List V) (zs rest:List D),ExtP μ1 H1 ⟨cs,p::μ1.fb⟩ H'∧SOk K ⟨cs,p::μ1.fb⟩ S' H'∧EOk K ⟨cs,p::μ1.fb⟩ H' σ' env'∧H' p=some (.lst vs) ∧
      Reps K ⟨cs,p::μ1.fb⟩ H' vs zs∧ql8 g t e (xs.drop i) env' S'=some (rest,S2)∧ys=zs++rest∧vs.length≤i,⟨xs.length,by simp,Nat.zero_le _,μ1.cs,S1,capE cap env,[],[],ys,?_,s1.more hp,?_,qb4,.nil,by rw [List.drop_zero];exact h2,rfl,Nat.le_refl _⟩,?_⟩
  · exact ⟨⟨[p],rfl,fun a z=>by rw [List.mem_singleton.mp z];exact hp⟩,⟨[],by simp,fun _ z=>by simp at z⟩,fun a o' n h=>by rw [qb5 (qe6 h hp)];exact h,fun a ha=>by
      by_cases z:a=p
      · subst z;rw [qb4];simp
      · rw [qb5 z];exact s1.dom a ha⟩
  · exact ((hE.mono e1).block cap).more hp
  rintro i n σ' H' ⟨rfl,hi,cs,S',env',vs,zs,rest,eP,s',r',hpv,rz,hl,rfl,hvl⟩
  have iti:=it _ H' S' eP s' i
  by_cases hlt:i<xs.length
  · refine .inr ⟨(iti.1 xs[i] (List.getElem?_eq_getElem hlt)).1,fun x H2 y=>?_⟩
    obtain ⟨e2,s2,rx⟩:=(iti.1 xs[i] (List.getElem?_eq_getElem hlt)).2 x H2 y
    rw [List.drop_eq_getElem_cons hlt] at hl
    obtain ⟨⟨env3,S3⟩,h3,hl⟩:=Option.bind_eq_some_iff.mp hl
    obtain ⟨⟨b,S4⟩,h4,hl⟩:=Option.bind_eq_some_iff.mp hl
    refine ⟨_,S',env',xs[i],env3,S3,s2,r'.mono e2,rx,h3,fun σ3 H3 μ3 e3 s3 r3=>⟨μ3,S3,env3,b,S4,s3,r3,h4,fun H4 μ4 e4 s4=>?_⟩⟩
    have eA:=(e2.trans e3).trans e4
    have pcs:p ∉ cs:=fun z=>s'.disj p List.mem_cons_self z
    cases b with
    | false=>
      rw [if_neg Bool.false_ne_true] at hl
      dsimp only
      rw [if_neg Bool.false_ne_true]
      obtain ⟨cs4,fb4⟩:=μ4
      have hfb:fb4=p::μ1.fb:=eA.fb
      subst hfb
      exact ⟨xs.length - (i+1),by omega,rfl,hlt,cs4,S4,env3,vs,zs,rest,eP.then eA,s4,r3.mono e4,(eA.keeps hpv pcs).1,rz.mono eA,hl,rfl,by omega⟩
    | true=>
      rw [if_pos rfl] at hl
      dsimp only
      rw [if_pos rfl]
      obtain ⟨⟨dv,S5⟩,h5,hl⟩:=Option.bind_eq_some_iff.mp hl
      obtain ⟨⟨rs,S6⟩,h6,hl⟩:=Option.bind_eq_some_iff.mp hl
      cases hl
      refine ⟨μ4,S4,env3,dv,S5,s4,r3.mono e4,h5,fun v H5 μ5 e5 s5 r5=>?_⟩
      have eB:=eA.trans e5
      obtain ⟨cs5,fb5⟩:=μ5
      have hfb:fb5=p::μ1.fb:=eB.fb
      subst hfb
      refine ⟨vs,(eB.keeps hpv pcs).1,by omega,xs.length - (i+1),by omega,rfl,hlt,cs5,S5,env3,vs++[v],zs++[dv],rs,(eP.then eB).chg hp,s5.chg List.mem_cons_self,((r3.mono e4).mono e5).chg List.mem_cons_self,qb4,Reps.chg List.mem_cons_self ((rz.mono eB).append (.cons r5 .nil)),h6,by simp,by rw [List.length_append,List.length_singleton];omega⟩
  · have e:i=xs.length:=by omega
    subst e
    refine .inl ⟨iti.2 (Nat.le_refl _),?_⟩
    rw [List.drop_length] at hl
    cases hl
    have eF:Ext μ1 H1 ⟨cs,μ1.fb⟩ H':=⟨rfl,eP.pre,eP.keep,eP.dom⟩
    dsimp only at post
    rw [List.append_nil] at post
    exact post _ H' ⟨cs,μ1.fb⟩ (e1.trans eF) s'.less (.lst hpv ⟨fun z=>s'.disj p List.mem_cons_self z,hpn.2⟩ rz.less)
theorem de_comp {elt:Expr} {ifs:List Expr} {scope:Scope} {N':List Str} {cap:List (Option Nat)} {mi:MA} {g:MG} {t:MT} {me:ME}
    (hc:X.calm=true) (B:BlockOk X N' scope cap) (hi:DI X tg iter mi) (hg:∀ C s H fp,DG (cxB X N' scope C s H fp) tg g) (ht:∀ C s H fp,DTs (cxB X N' scope C s H fp) ifs t) (he:∀ C s H fp,DE (cxB X N' scope C s H fp) elt me)
    (hs:∀ x,foldedSetIterable iter X.env x=pure x:=by intro _;rfl):DE X (.ListComp elt [⟨tg,iter,ifs,0⟩] scope pos) (mComp mi g t me cap):=
  PE.imp (zl6 (g:=tMG X.K g) (tt:=tMT X.K t) (te:=tM X.K me) hc B hi hg ht he hs) fun _ _ _ h=>q83 h
theorem ds_setComp {elt:Expr} {ifs:List Expr} {scope:Scope} {spos py:Pos} {N':List Str} {cap:List (Option Nat)} {mi:MA} {g:MG} {t:MT} {me:ME} {y:Str} {i:Nat}
    (hN:X.N.Nodup) (hy:X.N[i]?=some y) (hx:Loc X.env.scope y)
    (hc:X.calm=true) (B:BlockOk X N' scope cap) (hi:DI X tg iter mi) (hg:∀ C s H fp,DG (cxB X N' scope C s H fp) tg g) (ht:∀ C s H fp,DTs (cxB X N' scope C s H fp) ifs t) (he:∀ C s H fp,DE (cxB X N' scope C s H fp) elt me)
    (hsw:swapsWith (.ListComp elt [⟨tg,iter,ifs,0⟩] scope pos) (some (.Name y py)) spos.line X.env=pure true:=by rfl)
    (hs:∀ x,foldedSetIterable iter X.env x=pure x:=by intro _;rfl) (hf:X.fn y=true∨X.env.scope.names.lookup y=some .local:=by first | exact .inl rfl | exact .inr rfl | assumption) :
    DS X (.Assign [.Name y py] (.ListComp elt [⟨tg,iter,ifs,0⟩] scope pos) spos) (mAsg (mComp mi g t me cap) (gSet i)):=
  PS.imp (qK1 (g:=tMG X.K g) (tt:=tMT X.K t) (te:=tM X.K me) hN hy hx hc B hi hg ht he hsw hs hf) fun E σ H h=>by
    obtain ⟨μ,S,env,o,hS,hE,hm,post⟩:=h
    obtain ⟨⟨d,S1⟩,h1,hm⟩:=Option.bind_eq_some_iff.mp hm
    cases hm
    exact q83 ⟨μ,S,env,d,S1,hS,hE,h1,fun v H1 μ1 e1 s1 r1=>post _ H1 μ1 e1 s1 ((hE.mono e1).set r1 i)⟩
end
end M
namespace M
open PySem PySem.Spec PyProof.Rows L2
section
variable {X:Cx} {K:PySem.W.Frag} {μ μ':Fp} {H H':Hp} {S:qa0} {pos p2:Pos} {tg iter:Expr} {m:ME}
noncomputable def capB (N N':List Str) (kX kB:Str→Option NameKind):List (Option Nat)→List Str→Bool
  | [],[]=>true
  | none::r,_::s=>capB N N' kX kB r s
  | some i::r,y::s=>N[i]? == some y&&(kX y == some .cell||kX y == some .free)&&(kB y == some .cell||kB y == some .free)&&capB N N' kX kB r s
  | _,_=>false
theorem q67 {N N':List Str} {kX kB:Str→Option NameKind}:∀ {cap:List (Option Nat)} {ys:List Str},capB N N' kX kB cap ys=true→cap.length=ys.length∧∀ (j i:Nat),cap[j]?=some (some i)→∃ y,ys[j]?=some y∧N[i]?=some y∧(kX y=some .cell∨kX y=some .free)∧(kB y=some .cell∨kB y=some .free)
  | [],[],_=>⟨rfl,fun j i e=>by simp at e⟩
  | none::r,y::s,h=>by
    obtain ⟨h1,h2⟩:=q67 (cap:=r) (ys:=s) h
    refine ⟨by simp [h1],fun j i e=>?_⟩
    cases j with
    | zero=>simp at e
    | succ j=>simpa using h2 j i (by simpa using e)
  | some k::r,y::s,h=>by
    rw [capB,Bool.and_eq_true,Bool.and_eq_true,Bool.and_eq_true,Bool.or_eq_true,Bool.or_eq_true] at h
    obtain ⟨h1,h2⟩:=q67 (cap:=r) (ys:=s) h.2
    refine ⟨by simp [h1],fun j i e=>?_⟩
    cases j with
    | zero=>
      simp at e;subst e
      refine ⟨y,rfl,by simpa using h.1.1.1,?_,?_⟩
      · exact h.1.1.2.imp (fun z=>by simpa using z) fun z=>by simpa using z
      · exact h.1.2.imp (fun z=>by simpa using z) fun z=>by simpa using z
    | succ j=>simpa using h2 j i (by simpa using e)
  | [],_::_,h=>by simp [capB] at h
  | none::_,[],h=>by simp [capB] at h
  | some _::_,[],h=>by simp [capB] at h
theorem blk {N':List Str} {scope:Scope} {cap:List (Option Nat)} (nd:N'.Nodup) (k:scope.kind=.function:=by rfl) (nc:(scope.names.all fun x=>x.2 != .cell)=true:=by rfl) (nm:(scope.names.all fun x=>x.2 != .local||scope.names.lookup x.1 == some .local)=true:=by rfl)
    (fr:(scope.names.all fun x=>x.2 != .free||X.env.kindOf x.1 == some .cell||X.env.kindOf x.1 == some .free)=true:=by rfl)
    (cp:capB X.N N' X.env.kindOf (fun y=>(relabel scope X.env).names.lookup y) cap N'=true:=by rfl):BlockOk X N' scope cap:=by
  obtain ⟨h1,h2⟩:=q67 cp
  refine ⟨k,fun x hx=>?_,fun x hx hl=>?_,fun x hx hf=>?_,nd,h1,fun j i e=>?_⟩
  · have:=List.all_eq_true.mp nc x hx
    simpa using this
  · have:=List.all_eq_true.mp nm x hx
    simpa [hl] using this
  · have:=List.all_eq_true.mp fr x hx
    simpa [hf] using this
  · obtain ⟨y,a,b,c,d⟩:=h2 j i e
    exact ⟨y,a,b,.inr c,c,d⟩
theorem pi_seq {l:Expr} {tl:TE} (hl:PE X l tl):PI X tg l (fun σ H R=>tl σ H fun x H1=>∃ a,x=.ref a∧(((∃ xs,SqL X.K H1 a xs)∧R (Itl X.K a) H1)∨((∃ xs,SqT X.K H1 a xs)∧R (Itt X.K a) H1))):=by
  intro pins s σ H R I h
  refine thn (hl pins s σ H _ I h) fun v s1 ⟨x,H1,I1,r1,q1⟩=>?_
  obtain ⟨a,e,⟨⟨xs,hq⟩,q⟩ | ⟨⟨xs,hq⟩,q⟩⟩:=q1
  · subst e
    cases r1
    obtain ⟨its,rv,p,hz⟩:=I1.list hq
    refine wpAny_pyIter_list p.isList ?_
    refine ⟨s1.heap.objs.size,[s1.heap.objs.size],_,_,H1,rfl,I1.kept (t':=s1.toks) fun b o e=>Heap.get?_push_of_some _ e,qR1 a _,⟨_,Heap.get?_push_size _ rfl,rfl,rfl⟩,fun b hb=>?_,q⟩
    have e:b=s1.heap.objs.size:=by simpa using hb
    subst e
    exact I1.fpOk (Nat.le_refl _) (I1.hok.fresh (Nat.le_refl _))
  · subst e
    cases r1
    obtain ⟨its,rv,p,hz⟩:=I1.tuple hq
    refine wpAny_pyIter_tuple (show s1.heap.IsTuple a its.toArray from p) ?_
    refine ⟨s1.heap.objs.size,[s1.heap.objs.size],_,_,H1,rfl,I1.kept (t':=s1.toks) fun b o e=>Heap.get?_push_of_some _ e,ze0 a _,⟨_,Heap.get?_push_size _ rfl,rfl,rfl⟩,fun b hb=>?_,q⟩
    have e:b=s1.heap.objs.size:=by simpa using hb
    subst e
    exact I1.fpOk (Nat.le_refl _) (I1.hok.fresh (Nat.le_refl _))
noncomputable def mItS (m:ME):MA:=fun env S=>(m env S).bind fun p=>match p.1 with | .lst xs=>some (xs,p.2) | .rol xs=>some (xs,p.2) | .tup xs=>some (xs,p.2) | _=>none
theorem di_seq (h:DE X iter m):DI X tg iter (mItS m):=PI.imp (pi_seq h) fun σ H R ⟨μ,S,env,xs,S',hS,hE,hm,post⟩=>by
  obtain ⟨⟨d,S1⟩,h1,hm⟩:=Option.bind_eq_some_iff.mp hm
  refine ⟨μ,S,env,d,S1,hS,hE,h1,fun v H1 μ1 e1 s1 r1=>?_⟩
  cases d with
  | lst ys=>
    cases hm
    have r1':=r1
    obtain ⟨a,vs,rfl,q,_,rs⟩:=r1.sqL
    exact ⟨a,rfl,.inl ⟨⟨vs,.inl (.inl q)⟩,post _ H1 μ1 e1 s1 (qY0 (.inl rfl) r1' rfl)⟩⟩
  | rol ys=>
    cases hm
    have r1':=r1
    obtain ⟨a,vs,rfl,q,rs⟩:=r1.sqR
    exact ⟨a,rfl,.inl ⟨⟨vs,q⟩,post _ H1 μ1 e1 s1 (qY0 (.inr rfl) r1' rfl)⟩⟩
  | tup ys=>
    cases hm
    have r1':=r1
    obtain ⟨a,vs,rfl,q,rs⟩:=r1.sqT
    exact ⟨a,rfl,.inr ⟨⟨vs,q⟩,post _ H1 μ1 e1 s1 (itOk_tup r1')⟩⟩
  | _=>cases hm
end
noncomputable def runM (N:List Str) (m:MS) (n:Nat):List D→qa0→Option (D×qa0):=fun ds S=>if ds.length=n then (m (qc0 N ds) S).bind fun o=>match o with | .rt d S'=>some (d,S') | .nx _ S'=>some (.non,S') | _=>none else none
theorem qS8 {N:List Str} {m:MS} {n:Nat} {ds:List D} {S S':qa0} {d:D} (h:runM N m n ds S=some (d,S')):Runs m (qc0 N ds) S d S':=by
  unfold runM at h
  split at h
  · obtain ⟨o,h1,h⟩:=Option.bind_eq_some_iff.mp h
    cases o with
    | rt d' S2=>cases h;exact .ret h1
    | nx e S2=>cases h;exact ⟨_,[],h1,.inl rfl,.inr ⟨rfl,e,by rw [List.append_nil]⟩⟩
    | bk _ _=>cases h
    | ct _ _=>cases h
  · cases h
structure qk7 (K:PySem.W.Frag) (mg:Str→Option Value) (x:Str) (st:Stmt):Prop where
  ex:∃ (a:Addr) (fd:FuncData),L2.Fun K x x st a fd∧mg x=some (.ref a)
noncomputable def zd7 (x:Str) (st:Stmt) (ps:List Str):Prop:=∀ (kV doc pm:Value) (an:Option Addr) (cdv ct:Value) (us:List Value),us.length=ps.length→bindArgs (PySem.W.fnOf x x (qa8 st) (qa2 st) (qa1 st) .none kV doc pm an cdv ct) ⟨us,[]⟩=pure (ps.zip us)
theorem def_ok {P:Program} {w:World} {K:PySem.W.Frag} {mg:Str→Option Value} {base:Heap} {k:Nat} {x:Str} {st:Stmt} {N ps:List Str} {m:MS}
    (F:qk7 K mg x st) (Sc:qc9 N ps (qa1 st)) (hb:zd7 x st ps)
    (hbody:∀ (a:Addr) (cdv:Value) (A:Around) (outer:List PySem.Env) (s:Shared) (H:Hp) (E:XK),Room k (A.deeper (envOfC x (qa1 st) s.heap.objs.size a cdv)) →
      DSs (cxOf CX0 P w K mg base N x (qa1 st) a cdv A outer s H E).nox (qa2 st) m) :
    Fn P w K mg base (k+1) x ps.length (runM N m ps.length):=by
  obtain ⟨a,fd,F,hmg⟩:=F.ex
  exact fn_mk F Sc hmg (F.binds hb) fun cdv A outer s H E hr=>⟨m,hbody a cdv A outer s H E hr,fun ds S d S' hn hS hd h=>qS8 h⟩
theorem Fn.up {P:Program} {w:World} {K:PySem.W.Frag} {mg:Str→Option Value} {base:Heap} {k k':Nat} {x:Str} {n:Nat} {f:List D→qa0→Option (D×qa0)} (F:Fn P w K mg base k x n f) (h:k≤k'):Fn P w K mg base k' x n f:=by
  obtain ⟨a,fd,ps,h1,h2,h3⟩:=F.ex
  exact ⟨a,fd,ps,h1,h2.mono h,h3⟩
theorem law_sp {K:PySem.W.Frag} {f:List D→qa0→Option (D×qa0)} (h:∀ ns:List Int,ns.length≤63→∃ S',f [.rol (ns.map .int)] []=some (.bl true,S')) {H:Hp} {a:Addr} {ns:List Int} {E:XK} (hl:ns.length≤63) (hS:SqL K H a (ns.map V.int)) :
    spM K 1 f [.ref a] H (fun v _=>v=.bl true) E:=by
  obtain ⟨S',hf⟩:=h ns hl
  have hr:∀ l:List Int,Reps K ⟨[],[]⟩ H (l.map V.int) (l.map D.int):=fun l=>by
    induction l with
    | nil=>exact .nil
    | cons x l ih=>exact .cons (.int x) ih
  refine ⟨⟨[],[]⟩,[],_,_,S',⟨List.nodup_nil,rfl,fun r a c h=>by simp at h,fun a h=>by simp at h,fun a h=>by simp at h⟩,.cons ?_ .nil,rfl,hf,fun v H' μ' e s r=>r.bl_inv⟩
  rcases hS with hS | hS
  · exact .rol hS ⟨by simp,by simp⟩ (hr ns)
  · exact .krol hS (hr ns)
end M
namespace M
open PySem PySem.Spec PyProof.Rows L2
noncomputable def fNeg (_:qa0) (x:D):Option D:=match x with | .int i=>some (.int (-i)) | _=>none
theorem un_NegF {X:Cx}:UnR X (unaryOp .USub) (rM1 X.K fNeg):=un_Neg
noncomputable def mTrue:MT:=fun _ S=>some (true,S)
theorem dts_nilT {X:Cx}:DTs X [] mTrue:=dts_nil
theorem law_of {P:Program} {w:World} {K:PySem.W.Frag} {mg:Str→Option Value} {k:Nat} {st:Stmt} {N:List Str} {m:MS} {fa:Addr} (F:qk7 K mg "law" st) (hfa:mg "law" = some (.ref fa)) (Sc:qc9 N ["_law_script"] (qa1 st))
    (hbt:∀ (kV doc pm:Value) (an:Option Addr) (cdv ct v:Value),bindArgs (PySem.W.fnOf "law" "law" (qa8 st) (qa2 st) (qa1 st) .none kV doc pm an cdv ct) ⟨[v],[]⟩=pure [(("_law_script":Str),v)])
    (hbody:∀ (base:Heap) (a:Addr) (cdv:Value) (A:Around) (outer:List PySem.Env) (s:Shared) (H:Hp) (E:XK),Room k (A.deeper (envOfC "law" (qa1 st) s.heap.objs.size a cdv)) →
      DSs (cxOf CX0 P w K mg base N "law" (qa1 st) a cdv A outer s H E).nox (qa2 st) m) :
    ∃ fd:FuncData,(∀ (s:Shared) (v:Value),BindsTo s fd ⟨[v],[]⟩ [("_law_script",v)])∧∀ base:Heap,K.In base→base.Ns mainGlobals mg→FnOk P w K mg base CX0 (k+1) fa fd ["_law_script"] (spM K 1 (runM N m 1)):=by
  obtain ⟨a,fd,F,hmg⟩:=F.ex
  rw [hfa] at hmg
  have e:fa=a:=by cases hmg;rfl
  subst e
  refine ⟨fd,fun s v=>?_,fun base _ _=>fn_ok F Sc fun cdv A outer s H E hr=>⟨m,hbody base fa cdv A outer s H E hr,fun ds S d S' hn hS hd h=>qS8 h⟩⟩
  obtain ⟨oc,od,kV,doc,pm,an,cdv,ct,osl,rfl,lk,hcd⟩:=F.ex
  exact .of_eq (hbt kV doc pm an cdv ct v)
end M
namespace HT
open PySem PyProof.Rows
open AutoSeq1 (wpAny_loadPart')
theorem nf_tup_mul:fillsNumberSlot (.type "tuple") "mul" = pure false:=
  PySem.fillsNumberSlot_seq (id:="tuple.__mul__") (r:=some (.builtin "tuple.__rmul__"))
    F.slot_tuple_mul.lookup (by decide +kernel) F.slot_tuple_rmul.lookup (by decide +kernel)
theorem rp_tup:seqRepeat? (.type "tuple")=pure (some (.builtin "tuple.__mul__")):=by
  unfold seqRepeat?
  rw [PySem.seqSlot_of (T:="tuple") (name:="__mul__") (id:="tuple.__mul__") F.slot_tuple_mul.lookup (by decide +kernel)]
  rw [PySem.seqSlot_of (T:="tuple") (name:="__rmul__") (id:="tuple.__rmul__") F.slot_tuple_rmul.lookup (by decide +kernel)]
  rfl
theorem rmul_tup (a:Int) (t:Tok) (l:Addr) (items:Array Value) (n:Nat) (dd:Option Addr) (sl:Array (Option Value)) :
    Meets (Builtin.«int.__rmul__» ⟨[.int a t,.ref l],[]⟩) (fun _ R s=>s.heap.get? l=some ⟨.type "tuple",dd,.seq items n,sl⟩∧R (.ok (.ret Value.notImplemented)) s):=
  .of_wp fun prog w A R s h=>by
    obtain ⟨hp,g,d,tk,os⟩:=s
    obtain ⟨hl,h⟩:=h
    wp_walk
    exact ⟨_,rfl,h⟩
theorem mulT0 (l:Addr) (items:Array Value) (n:Nat) (k:Int) (t:Tok) (dd:Option Addr) (sl:Array (Option Value)) (h1:¬ (decide (k < -(2 ^ 63))||decide (k≥2 ^ 63))=true) (hc:(items.isEmpty||k == 1)=true) :
    Meets (Builtin.«tuple.__mul__» ⟨[.ref l,.int k t],[]⟩) (fun _ R s=>s.heap.get? l=some ⟨.type "tuple",dd,.seq items n,sl⟩∧R (.ok (.ret (.ref l))) s):=
  .of_wp fun prog w A R s h=>by
    obtain ⟨hp,g,d,tk,os⟩:=s
    obtain ⟨hl,h⟩:=h
    have f1:=AutoSeq1.idx_int
    have f2:=AutoSeq1.sub_tuple_tuple
    wp_walk using wpAny_loadPart' hl
    rw [if_neg h1]
    wp_walk using wpAny_loadPart' hl
    exact ⟨_,rfl,h⟩
theorem mulT1 (l:Addr) (items:Array Value) (n:Nat) (k:Int) (t:Tok) (dd:Option Addr) (sl:Array (Option Value)) (h1:¬ (decide (k < -(2 ^ 63))||decide (k≥2 ^ 63))=true) (hc:¬ (items.isEmpty||k == 1)=true) (hk:(decide (k≤0)||items.isEmpty)=true) :
    Meets (Builtin.«tuple.__mul__» ⟨[.ref l,.int k t],[]⟩) (fun _ R s=>s.heap.get? l=some ⟨.type "tuple",dd,.seq items n,sl⟩∧R (.ok (.ret (.ref s.heap.objs.size))) { s with heap:=s.heap.push { cls:=.type "tuple",data:=.seq #[] },toks:=s.toks }):=
  .of_wp fun prog w A R s h=>by
    obtain ⟨hp,g,d,tk,os⟩:=s
    obtain ⟨hl,h⟩:=h
    have f1:=AutoSeq1.idx_int
    have f2:=AutoSeq1.sub_tuple_tuple
    wp_walk using wpAny_loadPart' hl
    rw [if_neg h1]
    wp_walk using wpAny_loadPart' hl
    exact ⟨_,rfl,h⟩
theorem mulT2 (l:Addr) (items:Array Value) (n:Nat) (k:Int) (t:Tok) (dd:Option Addr) (sl:Array (Option Value)) (h1:¬ (decide (k < -(2 ^ 63))||decide (k≥2 ^ 63))=true) (hc:¬ (items.isEmpty||k == 1)=true) (hk:¬ (decide (k≤0)||items.isEmpty)=true)
    (hb:¬ ((items.size:Int) * k>(2 ^ 63 - 1) / 8)) (hm:¬ Builtin.Tuple.tupleTooMany ((items.size:Int) * k)=true) (hz:(List.foldl (fun x1 x2=>x1++x2) #[] (List.replicate k.toNat items)).size≤sizeLine) :
    Meets (Builtin.«tuple.__mul__» ⟨[.ref l,.int k t],[]⟩) (fun _ R s=>s.heap.get? l=some ⟨.type "tuple",dd,.seq items n,sl⟩∧R (.ok (.ret (.ref s.heap.objs.size))) { s with heap:=s.heap.push { cls:=.type "tuple",data:=.seq (List.foldl (fun x1 x2=>x1++x2) #[] (List.replicate k.toNat items)) },toks:=s.toks }):=
  .of_wp fun prog w A R s h=>by
    obtain ⟨hp,g,d,tk,os⟩:=s
    obtain ⟨hl,h⟩:=h
    have f1:=AutoSeq1.idx_int
    have f2:=AutoSeq1.sub_tuple_tuple
    wp_walk using wpAny_loadPart' hl
    rw [if_neg h1]
    wp_walk using wpAny_loadPart' hl
    rw [if_neg hb]
    wp_walk using wpAny_loadPart' hl
    exact ⟨_,rfl,h⟩
end HT
namespace L2
open PySem PySem.Spec PyProof.Rows
section
variable {X:Cx}
theorem vrep {xs:List V} {us:List Value} (h:Vals xs us):∀ k:Nat,Vals (List.replicate k xs).flatten (List.replicate k us).flatten
  | 0=>.nil
  | k+1=>by rw [List.replicate_succ,List.replicate_succ,List.flatten_cons,List.flatten_cons];exact h.append (vrep h k)
theorem frep (its:List Value):∀ (m:Nat) (acc:List Value),List.foldl (fun x1 x2=>x1++x2) acc.toArray (List.replicate m its.toArray)=(acc++(List.replicate m its).flatten).toArray
  | 0,acc=>by simp
  | m+1,acc=>by
    rw [List.replicate_succ,List.foldl_cons,List.append_toArray,frep its m (acc++its),List.replicate_succ,List.flatten_cons,List.append_assoc]
noncomputable def rRepT (K:PySem.W.Frag):R2:=fun x y H Q=>∃ a k xs,x=.ref a∧y=.int k∧SqT K H a xs∧-(2 ^ 62)≤k∧k<2 ^ 62∧xs.length * k.toNat≤sizeLine ∧
  ((xs=[]∨k=1)→Q (.ref a) H)∧((xs≠[]∧k≠1)→∀ p,H p=none→Q (.ref p) (upd H p (.tup (List.replicate k.toNat xs).flatten)))
theorem op_repT:OpR X (binaryOp .Mult) (rRepT X.K):=by
  intro pins s σ H x y v u Q I rx ry h
  obtain ⟨l,k,xs,rfl,rfl,hq,h1,h2,hz,q1,q2⟩:=h
  cases rx
  obtain ⟨t,rfl⟩:=ry
  obtain ⟨its,r,hT,hzz⟩:=I.tuple hq
  obtain ⟨⟨cls,dd,data,sl⟩,e,hc,n,hd⟩:=id hT
  simp only at hc hd
  subst hc hd
  have hlen:xs.length=its.length:=r.length
  have g1:¬ (decide (k < -(2 ^ 63))||decide (k≥2 ^ 63))=true:=by simp;omega
  have road:∀ {S:PySem.Spec},Meets (Builtin.«tuple.__mul__» ⟨[.ref l,.int k t],[]⟩) S→S X.A (wants (EP X pins σ Q) X.xe) s→wpAny (model X.prog X.w) X.A (binaryOp .Mult (.ref l) (.int k t)) (EP X pins σ Q) X.xe s:=fun M hS=>
    wpAny_binaryOp_repeat_ref (T:="tuple") (U:="int") (by decide) ⟨_,e,rfl⟩ (fun s'=>typeIs_int s' k t) HT.nf_tup_mul F.fills_int_mul F.slot_int_rmul HT.rp_tup F.slot_int_index.lookup
      (call_meets F.slot_int_rmul (typeIs_int s k t) F.entry_int_rmul (F.args_int_rmul_2 _ _) (HT.rmul_tup k t l its.toArray n dd sl)
        ⟨e,rfl,⟨_,e,rfl⟩,call_meets F.slot_tuple_mul ⟨_,e,rfl⟩ F.entry_tuple_mul (F.args_tuple_mul_2 _ _) M hS⟩)
  by_cases hs:xs=[]∨k=1
  · have hcc:(its.toArray.isEmpty||k == 1)=true:=by
      rcases hs with rfl | rfl
      · cases r;rfl
      · simp
    exact road (HT.mulT0 l its.toArray n k t dd sl g1 hcc) ⟨e,.ref l,H,I,rfl,q1 hs⟩
  · have hx:xs≠[]:=fun z=>hs (.inl z)
    have hk1:k≠1:=fun z=>hs (.inr z)
    have hi:its≠[]:=fun z=>by subst z;cases r;exact hx rfl
    have hcc:¬ (its.toArray.isEmpty||k == 1)=true:=by simp [hi,hk1]
    by_cases hk:k≤0
    · have hk':(decide (k≤0)||its.toArray.isEmpty)=true:=by simp [hk]
      have k0:k.toNat=0:=by omega
      refine road (HT.mulT1 l its.toArray n k t dd sl g1 hcc hk') ⟨e,.ref _,_,I.laid (o:=.tup []) (fun _ _ q=>Heap.get?_push_of_some _ q) (Nat.le_refl _) ⟨by simp,[],.nil,⟨_,Heap.get?_push_size _ rfl,rfl,⟨0,rfl⟩,rfl⟩⟩,rfl,?_⟩
      have:=q2 ⟨hx,hk1⟩ s.heap.objs.size I.fresh
      rw [k0] at this
      exact this
    · have hk':¬ (decide (k≤0)||its.toArray.isEmpty)=true:=by simp [hi];omega
      have km:(k.toNat:Int)=k:=by omega
      have hpr:((its.length:Int) * k)≤sizeLine:=by rw [← km,← hlen];exact_mod_cast hz
      have hsl:((sizeLine:Nat):Int)≤(2 ^ 63 - 1) / 8:=by decide
      have hf:=frep its k.toNat []
      rw [List.nil_append] at hf
      have hf':List.foldl (fun x1 x2=>x1++x2) #[] (List.replicate k.toNat its.toArray)=(List.replicate k.toNat its).flatten.toArray:=hf
      have hl2:(List.replicate k.toNat its).flatten.length≤sizeLine:=by rw [q49,← hlen,Nat.mul_comm];exact hz
      refine road (HT.mulT2 l its.toArray n k t dd sl g1 hcc hk' (by rw [List.size_toArray];omega) (by unfold Builtin.Tuple.tupleTooMany;rw [List.size_toArray];simp;omega) (by rw [hf',List.size_toArray];exact hl2)) ⟨e,?_⟩
      rw [hf']
      exact ⟨.ref _,_,I.laid (o:=.tup (List.replicate k.toNat xs).flatten) (fun _ _ q=>Heap.get?_push_of_some _ q) (Nat.le_refl _) ⟨by rw [q49,Nat.mul_comm];exact hz,(List.replicate k.toNat its).flatten,vrep r _,⟨_,Heap.get?_push_size _ rfl,rfl,⟨0,rfl⟩,rfl⟩⟩,rfl,q2 ⟨hx,hk1⟩ _ I.fresh⟩
end
end L2
namespace L2
open PySem PySem.Spec PyProof.Rows
section
variable {X:Cx}
noncomputable def insK (n:Nat) (i:Int):Nat:=if i<0 then (i+(n:Int)).toNat else min i.toNat n
noncomputable def insL {α:Type} (xs:List α) (i:Int) (y:α):List α:=xs.take (insK xs.length i)++y::xs.drop (insK xs.length i)
noncomputable def rInsert:V→List V→Hp→VK→Prop:=fun x vs H Q=>∃ l xs i y,x=.ref l∧vs=[.int i,y]∧H l=some (.lst xs)∧xs.length<sizeLine∧-(2 ^ 62)≤i∧i<2 ^ 62∧Q .non (upd H l (.lst (insL xs i y)))
theorem zn3:MtM X "list.insert" rInsert:=by
  intro pins s σ H x vs v us Q I rx rv h
  obtain ⟨l,xs,i,y,rfl,rfl,hH,hz,h1,h2,q⟩:=h
  cases rx
  obtain ⟨u1,u,rfl,⟨t,rfl⟩,ru⟩:=rv.two
  obtain ⟨z,its,n,r,hl,e⟩:=I.lstM hH
  have hfit:¬ (!Builtin.List.listFitsIndex i)=true:=by
    rw [fitsIndex_both (by omega) (by omega)];exact Bool.false_ne_true
  refine call_meets F.slot_list_insert ⟨_,e,rfl⟩ F.entry_list_insert (F.args_list_insert_3 _ _ _) (AutoListH.list_insert_list_int_val_1 l its.toArray n i t u hfit (by rw [List.size_toArray];omega)) ⟨e,?_⟩
  refine ⟨.non,_,I.lset (its':=insL its i u) hH e ?_ (ys:=insL xs i y) ?_ ?_,rfl,q⟩
  · unfold insL insK
    simp
    rw [List.take_of_length_le (by rw [List.length_drop];exact Nat.le_refl _)]
  · unfold insL
    rw [hl]
    exact (r.take _).append (.cons ru (r.drop _))
  · unfold insL
    rw [List.length_append,List.length_cons,List.length_take,List.length_drop]
    omega
end
end L2
namespace M
open PySem PySem.Spec PyProof.Rows L2
section
variable {X:Cx} {K:PySem.W.Frag} {μ μ':Fp} {H H':Hp} {S:qa0}
noncomputable def qj3 (S:qa0) (x y:D):Option D:=match x,y with
  | .tup xs,.int k=>if -(2 ^ 62)≤k∧k<2 ^ 62∧xs.length * k.toNat≤sizeLine then some (.tup (List.replicate k.toNat xs).flatten) else none
  | .lst xs,.int k=>if -(2 ^ 62)≤k∧k<2 ^ 62∧xs.length * k.toNat≤sizeLine then some (.lst (List.replicate k.toNat xs).flatten) else none
  | x,y=>fMul S x y
theorem flat1 {α:Type} (xs:List α):(List.replicate 1 xs).flatten=xs:=by simp
theorem op_MulX:OpR X (binaryOp .Mult) (rM2 X.K qj3):=OpR.imp (OpR.or op_Mul (OpR.or op_repT op_rep)) fun x y H Q ⟨μ,S,dx,dy,dz,hS,h1,h2,h3,post⟩=>by
  unfold qj3 at h3
  split at h3
  · rename_i xs k
    split at h3
    · rename_i hk
      cases h3
      obtain ⟨a,vs,rfl,q,r⟩:=h1.sqT
      have h1':=h1
      refine .inr (.inl ⟨a,k,vs,rfl,h2.int_inv,q,hk.1,hk.2.1,by rw [r.length];exact hk.2.2,fun hs=>?_,fun _ p hp=>post.tup hS hp (Reps.flat _ r)⟩)
      have e:(List.replicate k.toNat xs).flatten=xs:=by
        rcases hs with rfl | rfl
        · cases r;simp
        · exact flat1 xs
      rw [e] at post
      exact post.here hS h1'
    · cases h3
  · rename_i xs k
    split at h3
    · rename_i hk
      cases h3
      obtain ⟨a,vs,rfl,q,n,r⟩:=h1.sqL
      exact .inr (.inr ⟨a,k,vs,rfl,h2.int_inv,q,by omega,by omega,by rw [r.length];exact hk.2.2,fun p hp=>post.lst hS hp (Reps.flat _ r)⟩)
    · cases h3
  · exact .inl ⟨μ,S,dx,dy,dz,hS,h1,h2,h3,post⟩
noncomputable abbrev MF:=D→List D→qa0→Option (D×qa0)
inductive rMM (K:PySem.W.Frag) (f:MF) (x:V) (vs:List V) (H:Hp) (Q:VK):Prop
  | mk (μ:Fp) (S:qa0) (dx:D) (ds:List D) (d:D) (S':qa0) (hS:SOk K μ S H) (h1:Rep K μ H x dx) (h2:Reps K μ H vs ds) (h3:f dx ds S=some (d,S')) (post:Post K μ H S' d Q)
theorem MtR.imp {id:String} {r r':V→List V→Hp→VK→Prop} (h:MtR X id r) (i:∀ x xs H Q,r' x xs H Q→r x xs H Q):MtR X id r':=fun pins s σ H x xs v us Q I rx rv q=>h pins s σ H x xs v us Q I rx rv (i x xs H Q q)
noncomputable def qm5:MF:=fun o ds S=>match o,ds with
  | .ref r,[y]=>match S[r]? with | some (.lst xs)=>if xs.length<sizeLine then some (.non,S.set r (.lst (xs++[y]))) else none | _=>none
  | _,_=>none
noncomputable def qq4:MF:=fun o ds S=>match o,ds with
  | .ref r,[.int i,y]=>match S[r]? with | some (.lst xs)=>if xs.length<sizeLine∧-(2 ^ 62)≤i∧i<2 ^ 62 then some (.non,S.set r (.lst (insL xs i y))) else none | _=>none
  | _,_=>none
noncomputable def qY7:MF:=fun o ds S=>match ds with
  | [x]=>(seqD S o).bind fun ys=>if okD 40 x=true∧ys.all (okD 39)=true then some (.int (ys.countP fun d=>eqD d x),S) else none
  | _=>none
theorem zn8:MtR X "list.append" (rMM X.K qm5):=MtR.imp qV2 fun x vs H Q ⟨μ,S,dx,ds,d,S',hS,r1,r2,h,post⟩=>by
  unfold qm5 at h
  split at h
  · rename_i r y
    obtain ⟨v,rfl,rv⟩:=r2.one
    cases q:S[r]? with
    | none=>rw [q] at h;cases h
    | some c=>
      rw [q] at h
      cases c with
      | dct _ _=>cases h
      | lst xs=>
        dsimp only at h
        split at h
        · rename_i hz
          cases h
          cases r1 with
          | @ref a _ h'=>
            obtain ⟨ws,hw,rw'⟩:=hS.cell r a _ h' q
            obtain ⟨e,s'⟩:=hS.write h' hw (rw'.append (.cons rv .nil))
            exact ⟨a,ws,v,rfl,rfl,hw,by rw [rw'.length];exact hz,post _ _ μ e s' .non⟩
        · cases h
  · cases h
theorem insL_rep {vs:List V} {ds:List D} {v:V} {d:D} {i:Int} (r:Reps K μ H vs ds) (q:Rep K μ H v d):Reps K μ H (insL vs i v) (insL ds i d):=by
  unfold insL;rw [r.length]
  exact (r.take _).append (.cons q (r.drop _))
theorem zn5:MtR X "list.insert" (rMM X.K qq4):=MtR.imp zn3 fun x vs H Q ⟨μ,S,dx,ds,d,S',hS,r1,r2,h,post⟩=>by
  unfold qq4 at h
  split at h
  · rename_i r i y
    obtain ⟨v,w,rfl,rv,rw0⟩:=r2.two
    cases q:S[r]? with
    | none=>rw [q] at h;cases h
    | some c=>
      rw [q] at h
      cases c with
      | dct _ _=>cases h
      | lst xs=>
        dsimp only at h
        split at h
        · rename_i hz
          cases h
          cases r1 with
          | @ref a _ h'=>
            obtain ⟨ws,hw,rw'⟩:=hS.cell r a _ h' q
            obtain ⟨e,s'⟩:=hS.write h' hw (insL_rep (i:=i) rw' rw0)
            exact ⟨a,ws,i,w,rfl,by rw [rv.int_inv],hw,by rw [rw'.length];exact hz.1,hz.2.1,hz.2.2,post _ _ μ e s' .non⟩
        · cases h
  · cases h
theorem qw2 {pins:List (Addr×Obj)} {σ:L2.St} {s:Shared} (I:Inv X pins σ H s) {x:D}:∀ {vs:List V} {us:List Value} {ds:List D},Vals vs us→Reps X.K μ H vs ds→(∀ d∈ds,okD 39 d=true) →
    us.countP (qq5 X.K μ H x)=ds.countP fun d=>eqD d x
  | _,_,_,.nil,.nil,_=>rfl
  | _,_,_,.cons rv tv,.cons r t,ok=>by
    rw [List.countP_cons,List.countP_cons,qQ0 I rv r (ok _ List.mem_cons_self),qw2 I tv t fun d m=>ok d (List.mem_cons_of_mem _ m)]
noncomputable def lstB (S:qa0):D→Bool
  | .lst _=>true
  | .rol _=>true
  | .ref r=>match S[r]? with | some (.lst _)=>true | _=>false
  | _=>false
theorem qP1 {v:V} {d:D} (hS:SOk K μ S H) (r:Rep K μ H v d) (h:lstB S d=true):∃ a vs ds,v=.ref a∧SqL K H a vs∧seqD S d=some ds∧Reps K μ H vs ds:=by
  cases r with
  | lst h' n r=>exact ⟨_,_,_,rfl,.inl (.inl h'),rfl,r⟩
  | rol h' n r=>exact ⟨_,_,_,rfl,.inl h',rfl,r⟩
  | krol h' r=>exact ⟨_,_,_,rfl,.inr h',rfl,r⟩
  | @ref a i h'=>
    simp only [lstB] at h
    cases q:S[i]? with
    | none=>rw [q] at h;cases h
    | some c=>
      rw [q] at h
      cases c with
      | dct _ _=>cases h
      | lst xs=>
        obtain ⟨vs,e,r⟩:=hS.cell i a _ h' q
        exact ⟨a,vs,xs,rfl,.inl (.inl e),by simp only [seqD,q],r⟩
  | _=>cases h
noncomputable def qA0:MF:=fun o ds S=>if lstB S o=true then qY7 o ds S else none
theorem q96 (hu:X.A.units+64<cLine):MtR X "list.count" (rMM X.K qA0):=by
  intro pins s σ H x vs v us Q I rx rv h
  obtain ⟨μ,S,dx,ds,d,S',hS,r1,r2,h,post⟩:=h
  unfold qA0 at h
  split at h
  · rename_i hl
    unfold qY7 at h
    split at h
    · rename_i y
      obtain ⟨a,ws,es,rfl,hq,hse,re⟩:=qP1 hS r1 hl
      rw [hse] at h
      dsimp only [Option.bind_some] at h
      split at h
      · rename_i hk
        cases h
        cases rx
        obtain ⟨w,rfl,rw0⟩:=r2.one
        obtain ⟨u,rfl,ru⟩:=rv.one
        obtain ⟨its,rvs,⟨⟨cls,dd,data,sl⟩,n,e,hc,hdd,hd⟩,hz⟩:=I.list hq
        simp only at hc hdd hd
        subst hc hdd hd
        have ok:=List.all_eq_true.mp hk.2
        refine call_meets F.slot_list_count ⟨_,e,rfl⟩ F.entry_list_count (F.args_list_count_2 _ _) (SeqAt.list_countAt a its.toArray n none sl u (qq5 X.K μ H y)) ⟨e,fun w' hw'=>?_,?_⟩
        · exact qn2 I (by show X.A.units+1+40<cLine;omega) ru rw0 hk.1 rvs re ok w' (by simpa using hw')
        · refine ⟨.int _,H,I.tok _,⟨_,rfl⟩,?_⟩
          rw [qw2 I rvs re ok]
          exact post.here hS (.int _)
      · cases h
    · cases h
  · cases h
noncomputable def mMeth (f:MF) (o:ME) (ms:MA):ME:=fun env S=>(o env S).bind fun p=>if lstB p.2 p.1=true then (ms env p.2).bind fun q=>f p.1 q.1 q.2 else none
theorem de_meth {o e:Expr} {es:List Expr} {mo:ME} {ms:MA} {f:MF} {name:Str} {id:String} {apos cpos:Pos} (slot:Slot "list" name id) (hty:typeOf (.builtin id)=pure (.type "method_descriptor")) (hm:MtR X id (rMM X.K f)) (ho:DE X o mo) (ha:DA X (e::es) ms)
    (hbase:attributeBase o name X.env (eval o X.env)=eval o X.env)
    (hfew:((backTo cpos (starEach (e::es) X.env)).all (fun x=>!x.1)&&(backToKw cpos (keywordEach [] X.env)).all (fun x=>x.1.isSome)&&decide ((e::es).length+([]:List Keyword).length+(if ([]:List Keyword).isEmpty then 0 else 1)<30))=true)
    (hline:(apos.endLine == cpos.line)=true) (hs:starEach (e::es) X.env=(false,eval e X.env)::starEach es X.env) (hpl:(backTo cpos (starEach es X.env)).any (·.1)=false) :
    DE X (.Call (.Attribute o name apos) (e::es) [] cpos) (mMeth f mo ms):=
  PE.imp (pe_bm F.plainAttrs_list slot hty hm ho ha hbase hfew hline hs hpl) fun σ H Q ⟨μ,S,env,d,S',hS,hE,h,post⟩=>by
    obtain ⟨⟨x,S1⟩,h1,h⟩:=Option.bind_eq_some_iff.mp h
    dsimp only at h
    split at h
    · rename_i hl
      obtain ⟨⟨xs,S2⟩,h2,h⟩:=Option.bind_eq_some_iff.mp h
      refine ⟨μ,S,env,x,S1,hS,hE,h1,fun v H1 μ1 e1 s1 r1=>⟨?_,μ1,S1,env,xs,S2,s1,hE.mono e1,h2,fun vs H2 μ2 e2 s2 r2=>⟨μ2,S2,x,xs,d,S',s2,r1.mono e2,r2,h,(post.ext e1).ext e2⟩⟩⟩
      obtain ⟨a,ws,es,rfl,hq,_,_⟩:=qP1 s1 r1 hl
      exact .inl ⟨rfl,ws,hq⟩
    · cases h
end
end M
namespace HT
open PySem PyProof.Rows
open AutoSeq1 (wpAny_loadPart')
section
variable {prog:Program} {w:World} {A:Around} {E:Value→Shared→Prop} {s:Shared}
theorem zh7 {it t:Addr} {i:Nat} {items:Array Value} {x:Value} {Q:Value→Shared→Prop} (hit:s.heap.IsTupleIter it t i) (ht:s.heap.IsTuple t items) (hx:items[i]?=some x)
    (hQ:∀ h',h'.IsTupleIter it t (i+1)→Heap.SameBut it s.heap h'→Q x { s with heap:=h' }):wpAny (model prog w) A (Builtin.SmallTypes.nextOf (.ref it)) Q E s:=by
  obtain ⟨o,ho,hc,hd⟩:=id hit;obtain ⟨ol,hol,_,nl,hdl⟩:=ht
  unfold Builtin.SmallTypes.nextOf
  refine wpAny_bind (wpAny_callSpecial?_slot (name:=Str.ofString "__next__") hit.typeIs F.slot_tuple_iterator_next (wpAny_call_entry F.slot_tuple_iterator_next hit.typeIs F.entry_tuple_iterator_next ?_ (F.args_tuple_iterator_next_1 _)))
  show wpAny _ _ (field (.ref it) 0 >>= _) _ _ s;refine wpAny_bind (wpAny_field ho hd (x:=.ref t) rfl ?_)
  show wpAny _ _ (if (Value.ref t == Value.none)=true then _ else _) _ _ s;rw [if_neg (show ¬ ((Value.ref t == Value.none)=true) from Bool.false_ne_true)]
  show wpAny _ _ (field (.ref it) 1 >>= _) _ _ s;refine wpAny_bind (wpAny_field ho hd (x:=.int i 0) rfl ?_)
  show wpAny _ _ (seqItems? (.ref t) >>= _) _ _ s;refine wpAny_bind (wpAny_seqItems hol hdl ?_);simp only [Int.toNat_natCast,hx]
  refine wpAny_bind (wpAny_setField ho hd (by simp) (wpAny_pure ⟨x,rfl,wpAny_pure (hQ _ ⟨_,Heap.get?_update_self _ ho (Obj.isFreed_of_fields (Obj.data_mapFields hd _)),(Obj.cls_mapFields ..).trans hc,?_⟩ (Heap.SameBut.update ..))⟩))
  rw [Obj.data_mapFields hd];simp [rawInt]
theorem drawT_end {it t:Addr} {i:Nat} {items:Array Value} {Q:Value→Shared→Prop} (hh:A.handled=none) (hit:s.heap.IsTupleIter it t i) (ht:s.heap.IsTuple t items) (hx:items[i]?=none)
    (hE:∀ h' e,Heap.ExtBut it s.heap h'→(∃ o,h'.get? e=some o∧o.cls=.type "StopIteration")→E (.ref e) { s with heap:=h' }):wpAny (model prog w) A (Builtin.SmallTypes.nextOf (.ref it)) Q E s:=by
  obtain ⟨o,ho,hc,hd⟩:=id hit;obtain ⟨ol,hol,_,nl,hdl⟩:=ht
  unfold Builtin.SmallTypes.nextOf
  refine wpAny_bind (wpAny_callSpecial?_slot (name:=Str.ofString "__next__") hit.typeIs F.slot_tuple_iterator_next (wpAny_call_entry F.slot_tuple_iterator_next hit.typeIs F.entry_tuple_iterator_next ?_ (F.args_tuple_iterator_next_1 _)))
  show wpAny _ _ (field (.ref it) 0 >>= _) _ _ s;refine wpAny_bind (wpAny_field ho hd (x:=.ref t) rfl ?_)
  show wpAny _ _ (if (Value.ref t == Value.none)=true then _ else _) _ _ s;rw [if_neg (show ¬ ((Value.ref t == Value.none)=true) from Bool.false_ne_true)]
  show wpAny _ _ (field (.ref it) 1 >>= _) _ _ s;refine wpAny_bind (wpAny_field ho hd (x:=.int i 0) rfl ?_)
  show wpAny _ _ (seqItems? (.ref t) >>= _) _ _ s;refine wpAny_bind (wpAny_seqItems hol hdl ?_);simp only [Int.toNat_natCast,hx]
  refine wpAny_bind (wpAny_rule (wpAny_bind (wpAny_setField ho hd (by simp) ?_)));show wpAny _ _ (newExc (.type "StopIteration") [] >>= _) _ _ _
  refine wpAny_bind ?_;simp only [newExc,newTuple];refine wpAny_bind (wpAny_newObj_type ?_ (by size_fits))
  refine wpAny_bind (m:=firstArgMember _ _) (wpAny_of_eq (a:=Value.none) (by first | rfl | (simp only [firstArgMember];rfl)) (wpAny_newObj_type ?_ (by size_fits)))
  simp only [raiseNew];refine wpAny_bind (wpAny_handled ?_);(first | rw [show A.in1.handled=none from hh] | rw [hh])
  refine wpAny_bind (wpAny_pure (wpAny_throw (hE _ _ (((Heap.SameBut.update ..).extBut.push _).push _) ⟨_,Heap.get?_push_size _ rfl,rfl⟩)))
end
theorem drawsT {prog:Program} {w:World} {A:Around} (hh:A.handled=none) (it t:Addr) (hne:t≠it) (items:Array Value) :
    Draws prog w A it [it,t] items.size (fun i v=>items[i]?=some v) (fun i h=>h.IsTupleIter it t i∧h.IsTuple t items) where
  live:=fun _ _ st=>by obtain ⟨o,ho,_⟩:=st.1;exact ⟨o,ho⟩
  frame:=fun _ _ _ st hk=>by
    obtain ⟨⟨o,ho,r⟩,⟨o2,ho2,r2⟩⟩:=st
    exact ⟨⟨o,hk it (by simp) o ho,r⟩,⟨o2,hk t (by simp) o2 ho2,r2⟩⟩
  item:=fun i s Q E hi st hQ=>zh7 st.1 st.2 (x:=items[i]) (by simp [hi]) fun h' hit' hs'=>hQ _ h' s.toks (by simp [hi]) ⟨hit',st.2.extBut hs'.extBut hne⟩ hs'
  done:=fun s Q E st hE=>drawT_end hh st.1 st.2 (by simp) hE
theorem zw5 (l:Addr) (items:Array Value) (n:Nat) (dct:Option Addr) (sl:Array (Option Value)) :
    Meets (Builtin.«enumerate.__new__» ⟨[.type "enumerate",.ref l],[]⟩) (fun _ R s=>s.heap.get? l=some ⟨.type "tuple",dct,.seq items n,sl⟩ ∧
      R (.ok (.ret (.ref (s.heap.push { cls:=.type "tuple_iterator",data:=.fields #[.ref l,.int 0 0] }).objs.size)))
        { s with heap:=(s.heap.push { cls:=.type "tuple_iterator",data:=.fields #[.ref l,.int 0 0] }).push { cls:=.type "enumerate",data:=.fields #[.none,.bool false,.ref s.heap.objs.size,rawInt 0,.none,.none] } }):=
  .of_wp fun prog w A R s h=>by
    obtain ⟨hp,g,d,tk,os⟩:=s
    obtain ⟨hl,h⟩:=h
    have hsub:=sub_enumerate
    have hL:Heap.IsTuple (Shared.heap ⟨hp,g,d,tk,os⟩) l items:=⟨_,hl,rfl,n,rfl⟩
    wp_walk using wpAny_loadPart' hl
    refine wpAny_stack_any fun st=>wpAny_pure ?_
    split
    · rename_i c _ _ _ _ _
      cases (c == Value.type "enumerate") <;> (wp_walk using wpAny_loadPart' hl,wpAny_pyIter_tuple hL;exact ⟨_,rfl,h⟩)
    · wp_walk using wpAny_loadPart' hl,wpAny_pyIter_tuple hL
      exact ⟨_,rfl,h⟩
end HT
namespace HT
open PySem PyProof.Rows
section
variable {prog:Program} {w:World} {A:Around} {E:Value→Shared→Prop} {s:Shared}
theorem call_enumT {l:Addr} {items:Array Value} {Q:Value→Shared→Prop} (hL:s.heap.IsTuple l items)
    (h:∀ h':Heap,IsEnum h' (s.heap.objs.size+1) s.heap.objs.size 0 .none→h'.IsTupleIter s.heap.objs.size l 0→h'.objs.size=s.heap.objs.size+2→(∀ b o,s.heap.get? b=some o→h'.get? b=some o)→Q (.ref (s.heap.objs.size+1)) { s with heap:=h' }) :
    wpAny (model prog w) A (call (.type "enumerate") [.ref l]) Q E s:=by
  obtain ⟨⟨c,dct,dt,sl⟩,hl,hc,n,hd⟩:=hL
  simp only at hc hd
  subst hc hd
  refine callType_new F.called_enumerate (by decide) (F.typeCall_enumerate_1 _) (F.newCall_enumerate_1 _) (fun obj=>F.args_object_init_2 obj _) F.entry_enumerate_new (zw5 l items n dct sl) ⟨hl,?_⟩
  have hz:(s.heap.push { cls:=.type "tuple_iterator",data:=.fields #[.ref l,.int 0 0] }).objs.size=s.heap.objs.size+1:=Heap.size_push ..
  show _∧_
  rw [hz]
  have he:IsEnum ((s.heap.push { cls:=.type "tuple_iterator",data:=.fields #[.ref l,.int 0 0] }).push { cls:=.type "enumerate",data:=.fields #[.none,.bool false,.ref s.heap.objs.size,rawInt 0,.none,.none] }) (s.heap.objs.size+1) s.heap.objs.size 0 .none:=by
    have q:=Heap.get?_push_size (s.heap.push { cls:=.type "tuple_iterator",data:=.fields #[.ref l,.int 0 0] }) (o:={ cls:=.type "enumerate",data:=.fields #[.none,.bool false,.ref s.heap.objs.size,rawInt 0,.none,.none] }) rfl
    rw [hz] at q
    exact q
  exact ⟨⟨_,he,rfl⟩,h _ he ⟨_,Heap.get?_push_of_some _ (Heap.get?_push_size _ rfl),rfl,rfl⟩ (by rw [Heap.size_push,hz]) fun b o x=>Heap.get?_push_of_some _ (Heap.get?_push_of_some _ x)⟩
end
end HT
namespace L2
open PySem PySem.Spec PyProof.Rows
section
variable {X:Cx} {pins:List (Addr×Obj)} {σ:St} {H:Hp} {s:Shared} {h':Heap}
theorem Inv.turnLaid {fp:List Addr} {a:Addr} {o:HO} {t':Nat} (I:Inv X pins σ H s) (k:∀ b o,b ∉ fp→s.heap.get? b=some o→h'.get? b=some o) (hf:∀ b∈fp,FpOk X pins H b) (hp:s.heap.objs.size≤a)
    (new:ObjOk X.prog X.w (upd H a o) h' a o):Inv X pins σ (upd H a o) { s with heap:=h',toks:=t' }:=by
  have hn:H a=none:=I.hok.fresh hp
  have st:∀ b u,H b=some u→upd H a o b=some u:=fun b u e=>(qb5 (qe6 e hn)).trans e
  have nfp:∀ b u,H b=some u→b ∉ fp:=fun b u e z=>by rw [(hf b z).1] at e;cases e
  refine I.step (g':=s.gens) (d':=s.drawn) (ch:=fp) (fun b hb=>?_) (fun b o _ _ hc e _=>k b o hc e) (fun b o _ _ hc e _=>⟨o.slots,k b o hc e⟩) (fun b u _ e n=>?_) (fun b o hc e=>⟨o,k b o hc e⟩) (fun b xs e=>st b _ e) (fun b o u e=>st b _ e) (fun b ps e=>⟨#[],by rw [st b _ e];simp⟩) (fun m hm=>?_) (fun b u e=>?_) I.bare
  · obtain ⟨f0,f1,f2,f3,f4,f5⟩:=hf b hb
    exact ⟨f3,f1,f4,f5⟩
  · rw [qb5 (Nat.ne_of_lt (Nat.lt_of_lt_of_le (Heap.lt_size e) hp))];exact n
  · obtain ⟨o',es,ep,ho,r⟩:=hm
    exact ⟨o',es,ep,k _ o' (fun z=>(hf _ z).2.1 rfl) ho,r⟩
  · by_cases hb:b=a
    · subst hb
      rw [qb4] at e
      cases e
      exact new
    · rw [qb5 hb] at e
      refine (I.hok b u e).stay (fun c v hc q=>k c v ?_ q) (fun _ q=>st _ _ q) fun _ _ q=>st _ _ q
      rcases hc with z | z
      · rw [z];exact nfp b u e
      · exact nfp c _ z
theorem Inv.turnedL {fp:List Addr} {t':Nat} (I:Inv X pins σ H s) (k:∀ b o,b ∉ fp→s.heap.get? b=some o→h'.get? b=some o) (hf:∀ b∈fp,FpOk X pins H b):Inv X pins σ H { s with heap:=h',toks:=t' }:=by
  have nfp:∀ b u,H b=some u→b ∉ fp:=fun b u e z=>by rw [(hf b z).1] at e;cases e
  refine I.step (g':=s.gens) (d':=s.drawn) (ch:=fp) (fun b hb=>?_) (fun b o _ _ hc e _=>k b o hc e) (fun b o _ _ hc e _=>⟨o.slots,k b o hc e⟩) (fun b u _ e n=>n) (fun b o hc e=>⟨o,k b o hc e⟩) (fun b xs e=>e) (fun b o u e=>e) (fun b ps e=>⟨#[],by rw [e];simp⟩) (fun m hm=>?_) (fun b u e=>?_) I.bare
  · obtain ⟨f0,f1,f2,f3,f4,f5⟩:=hf b hb
    exact ⟨f3,f1,f4,f5⟩
  · obtain ⟨o',es,ep,ho,r⟩:=hm
    exact ⟨o',es,ep,k _ o' (fun z=>(hf _ z).2.1 rfl) ho,r⟩
  · refine (I.hok b u e).stay (fun c v hc q=>k c v ?_ q) (fun _ q=>q) fun _ _ q=>q
    rcases hc with z | z
    · rw [z];exact nfp b u e
    · exact nfp c _ z
noncomputable def Ite (K:PySem.W.Frag) (a:Addr):It:=
  ⟨fun i H=>∃ xs x,SqT K H a xs∧xs[i]?=some x,fun i H x H'=>∃ p v,x=.ref p∧H p=none∧H'=upd H p (.tup [.int (i:Nat),v])∧∀ xs,SqT K H a xs→xs[i]?=some v,fun i H=>∃ xs,SqT K H a xs∧xs.length≤i⟩
theorem zj3 {P:Program} {w:World} {K:PySem.W.Frag} {es:List Expr} {k:Nat} {pos:Pos} (a e it:Addr) (hei:e≠it):Turn P w K (.Tuple es k pos) (Ite K a) [e,it] e (fun i h=>(∃ old,IsEnum h e it i old)∧h.IsTupleIter it a i) where
  mem:=by simp
  obj:=fun i h st b hb=>by
    obtain ⟨⟨old,he⟩,⟨o,ho,hc,hd⟩⟩:=st
    simp only [List.mem_cons,List.not_mem_nil,or_false] at hb
    rcases hb with rfl | rfl
    · exact ⟨_,he,fun v z=>by cases z⟩
    · exact ⟨o,ho,fun v z=>by rw [hd] at z;cases z⟩
  keep:=fun i h h' st kk=>by
    obtain ⟨⟨old,he⟩,⟨o,ho,r⟩⟩:=st
    exact ⟨⟨old,kk e (by simp) _ he⟩,⟨o,kk it (by simp) _ ho,r⟩⟩
  item:=by
    intro X hP hw hK hc i pins s σ H E I hf st hg
    subst hP hw hK
    obtain ⟨xs,x,hq,hx⟩:=hg
    obtain ⟨its,rv,p,hz⟩:=I.tuple hq
    have hT:s.heap.IsTuple a its.toArray:=p
    have hh:=I.ok.hd hc
    have ne1:a≠e:=fun z=>by
      obtain ⟨⟨old,he⟩,_⟩:=st
      obtain ⟨o,ho,hcl,_⟩:=hT
      rw [z,he] at ho;cases ho;exact absurd (show Value.type "enumerate" = Value.type "tuple" from hcl) (by decide)
    have ne2:a≠it:=fun z=>by
      obtain ⟨_,⟨o',ho',hc',_⟩⟩:=st
      obtain ⟨o,ho,hcl,_⟩:=hT
      rw [z,ho'] at ho;cases ho;rw [hc'] at hcl;exact absurd hcl (by decide)
    have W:=WalksT.enumerateD (HT.drawsT (prog:=X.prog) (w:=X.w) (A:=X.A.in1) hh it a ne2 its.toArray) e hei (by simp;exact ⟨hei,fun z=>ne1 z.symm⟩) (by simp)
    have hi:i<its.toArray.size:=by rw [List.size_toArray,← rv.length];exact (List.getElem?_eq_some_iff.mp hx).1
    obtain ⟨⟨old,he⟩,hit⟩:=st
    have Te:s.heap.objs.size≠e:=Nat.ne_of_gt (Heap.lt_size he)
    have Ti:s.heap.objs.size≠it:=by
      obtain ⟨o,ho,_⟩:=hit
      exact Nat.ne_of_gt (Heap.lt_size ho)
    refine wpAny_pyNext_enum_itemD (HT.drawsT (prog:=X.prog) (w:=X.w) (A:=X.A.in1) hh it a ne2 its.toArray) he ⟨hit,hT⟩ hi hei (by simp;exact ⟨hei,fun z=>ne1 z.symm⟩) fun y h1 tk hy ho st1 hT1 hsz kk=>⟨_,rfl,?_⟩
    refine W.go es k pos i s.heap.objs.size _ _ _ ⟨⟨y,ho⟩,st1,Te,Ti⟩ fun h2 st2 kk2=>?_
    generalize hTT:s.heap.objs.size=T at *
    obtain ⟨u,hu,ru⟩:=rv.get hx
    have ey:y=u:=by
      rw [show its.toArray[i]?=its[i]? by simp,hu] at hy
      exact (Option.some.inj hy).symm
    subst ey
    have apT:T ∉ [e,it]:=by simp;exact ⟨Te,Ti⟩
    have kall:∀ b o,b ∉ [e,it]→s.heap.get? b=some o→h2.get? b=some o:=fun b o hb q=>kk2 b o hb (kk b o (fun z=>hb (by simp [z])) (fun z=>hb (by simp [z])) q)
    have hT2:IsTupN h2 T #[.int i tk,y]:=⟨_,kk2 T _ apT hT1,rfl,⟨_,rfl⟩,rfl⟩
    have hTs:s.heap.objs.size≤T:=Nat.le_of_eq hTT
    refine ⟨.ref T,upd H T (.tup [.int (i:Nat),x]),I.turnLaid kall hf hTs ⟨by show 2≤sizeLine;decide,[.int i tk,y],.cons ⟨_,rfl⟩ (.cons ru .nil),hT2⟩,rfl,⟨T,x,rfl,I.hok.fresh hTs,rfl,fun ys hy=>by rw [I.tuple_inj hy hq];exact hx⟩,⟨st2.1,st2.2.1⟩,fun b hb=>?_⟩
    have nb:b≠T:=fun z=>apT (by rw [← z];exact hb)
    rw [qb5 nb]
    exact (hf b hb).1
  done:=by
    intro X hP hw hK hc i pins s σ H E I hf st hg
    subst hP hw hK
    obtain ⟨xs,hq,hx⟩:=hg
    obtain ⟨its,rv,p,hz⟩:=I.tuple hq
    have hT:s.heap.IsTuple a its.toArray:=p
    have hh:=I.ok.hd hc
    have ne1:a≠e:=fun z=>by
      obtain ⟨⟨old,he⟩,_⟩:=st
      obtain ⟨o,ho,hcl,_⟩:=hT
      rw [z,he] at ho;cases ho;exact absurd (show Value.type "enumerate" = Value.type "tuple" from hcl) (by decide)
    have D':Draws X.prog X.w X.A.in1 it [it,a] i (fun _ _=>True) (fun j h=>j=i∧h.IsTupleIter it a i∧h.IsTuple a its.toArray):=
      { live:=fun _ _ q=>by obtain ⟨_,⟨o,ho,_⟩,_⟩:=q;exact ⟨o,ho⟩
        frame:=fun _ _ _ q hk=>by
          obtain ⟨q0,⟨o,ho,r⟩,⟨o2,ho2,r2⟩⟩:=q
          exact ⟨q0,⟨o,hk it (by simp) o ho,r⟩,⟨o2,hk a (by simp) o2 ho2,r2⟩⟩
        item:=fun j _ _ _ hj q _=>absurd q.1 (Nat.ne_of_lt hj)
        done:=fun s Q E q hE=>HT.drawT_end hh q.2.1 q.2.2 (by simp;have:=rv.length;omega) hE }
    have W:=WalksT.enumerateD D' e hei (by simp;exact ⟨hei,fun z=>ne1 z.symm⟩) (by simp)
    refine W.done s _ _ ⟨st.1,rfl,st.2,hT⟩ fun h2 tk kk=>⟨rfl,I.turnedL kk hf⟩
  self:=fun A i s Q E st h=>by
    obtain ⟨⟨old,he⟩,_⟩:=st
    exact wpAny_pyIter_enum he h
noncomputable def iEnum (K:PySem.W.Frag) (t:TA):TI:=fun σ H R=>t σ H fun xs H1=>∃ a,xs=[.ref a]∧(∃ ys,SqT K H1 a ys)∧R (Ite K a) H1
end
end L2
namespace L2
open PySem PySem.Spec PyProof.Rows
section
variable {X:Cx}
theorem pi_enum {a:Expr} {ta:TA} {es:List Expr} {k:Nat} {tp p pos:Pos} (hg:Gl X "enumerate") (hm:X.mg "enumerate" = none) (ha:PA X [a] ta) (hs:starEach [a] X.env=[(false,eval a X.env)]) :
    PI X (.Tuple es k tp) (.Call (.Name "enumerate" p) [a] [] pos) (iEnum X.K ta):=by
  intro pins s σ H R I h
  refine Call_ (qx1 I hg hm boot_enumerate (PyProof.Rows.callWith_type1 (thn (ha pos pins s σ H _ I h) fun us s1 ⟨vs,H1,I1,r1,q1⟩=>?_) hs rfl))
  obtain ⟨t,rfl,⟨ys,hq⟩,q⟩:=q1
  obtain ⟨u,rfl,ru⟩:=r1.one
  cases ru
  obtain ⟨its,rv,pt,hz⟩:=I1.tuple hq
  refine HT.call_enumT pt fun h' he hi hsz kk=>wpAny_pyIter_enum he ?_
  refine ⟨s1.heap.objs.size+1,[s1.heap.objs.size+1,s1.heap.objs.size],_,_,H1,rfl,I1.kept (t':=s1.toks) kk,zj3 t _ _ (Nat.succ_ne_self _),⟨⟨_,he⟩,hi⟩,fun b hb=>?_,q⟩
  simp only [List.mem_cons,List.not_mem_nil,or_false] at hb
  rcases hb with rfl | rfl
  · exact I1.fpOk (Nat.le_succ _) (I1.hok.fresh (Nat.le_succ _))
  · exact I1.fpOk (Nat.le_refl _) (I1.hok.fresh (Nat.le_refl _))
end
end L2
namespace M
open PySem PySem.Spec PyProof.Rows L2
section
variable {X:Cx} {K:PySem.W.Frag} {μ μ':Fp} {H H':Hp} {S:qa0}
noncomputable def qs8:Nat→List D→List D
  | _,[]=>[]
  | i,x::r=>.tup [.int (i:Nat),x]::qs8 (i+1) r
theorem qH0:∀ (i:Nat) (xs:List D),(qs8 i xs).length=xs.length
  | _,[]=>rfl
  | i,_::r=>by rw [qs8,List.length_cons,List.length_cons,qH0 (i+1) r]
theorem qZ1:∀ (k:Nat) (xs:List D) (i:Nat) (d:D),(qs8 k xs)[i]?=some d→∃ x,xs[i]?=some x∧d=.tup [.int ((k+i:Nat):Int),x]
  | _,[],i,d,h=>by simp [qs8] at h
  | k,x::r,0,d,h=>by simp [qs8] at h;exact ⟨x,rfl,h.symm⟩
  | k,x::r,i+1,d,h=>by
    rw [qs8,List.getElem?_cons_succ] at h
    obtain ⟨y,h1,h2⟩:=qZ1 (k+1) r i d h
    refine ⟨y,by simpa using h1,?_⟩
    rw [h2,show k+1+i=k+(i+1) by omega]
theorem zs3 {a:Addr} {xs:List D} (r:Rep K μ H (.ref a) (.tup xs)):ItOk K μ H (Ite K a) (qs8 0 xs):=fun μ' H' S' e s i=>by
  have r':=r.monoP e
  obtain ⟨b,vs,hb,hq,rs⟩:=r'.sqT
  cases hb
  refine ⟨fun d hd=>?_,fun hl=>⟨vs,hq,by rw [rs.length];rw [qH0] at hl;exact hl⟩⟩
  obtain ⟨x,hx,rfl⟩:=qZ1 0 xs i d hd
  obtain ⟨v,hv,rv⟩:=rs.get hx
  refine ⟨⟨vs,v,hq,hv⟩,fun y H2 hy=>?_⟩
  obtain ⟨p,w,rfl,hp,rfl,hw⟩:=hy
  have ew:w=v:=by have:=hw vs hq;rw [hv] at this;exact (Option.some.inj this).symm
  subst ew
  obtain ⟨e2,s2⟩:=s.laid (o:=.tup [.int (i:Nat),w]) hp
  refine ⟨e2,s2,?_⟩
  rw [Nat.zero_add]
  exact .tup qb4 (s.notMem hp) (.cons (.int _) (.cons (rv.mono e2) .nil))
noncomputable def mEnum (ms:MA):MA:=fun env S=>(ms env S).bind fun p=>match p.1 with | [.tup xs]=>some (qs8 0 xs,p.2) | _=>none
theorem di_enum {a:Expr} {ms:MA} {es:List Expr} {k:Nat} {tp p pos:Pos} (hm:X.mg "enumerate" = none) (ha:DA X [a] ms) (hg:Gl X "enumerate") (hs:starEach [a] X.env=[(false,eval a X.env)]) :
    DI X (.Tuple es k tp) (.Call (.Name "enumerate" p) [a] [] pos) (mEnum ms):=PI.imp (pi_enum hg hm ha hs) fun σ H R ⟨μ,S,env,xs,S',hS,hE,h,post⟩=>by
  obtain ⟨⟨ds,S1⟩,h1,h⟩:=Option.bind_eq_some_iff.mp h
  refine ⟨μ,S,env,ds,S1,hS,hE,h1,fun vs H1 μ1 e1 s1 r1=>?_⟩
  dsimp only at h
  split at h
  · rename_i ys
    cases h
    obtain ⟨v,rfl,rv⟩:=r1.one
    have rv':=rv
    obtain ⟨b,ws,rfl,hq,rs⟩:=rv.sqT
    exact ⟨b,rfl,⟨ws,hq⟩,post _ H1 μ1 e1 s1 (zs3 rv')⟩
  · cases h
end
end M
namespace HT
open PySem PyProof.Rows
section
variable {prog:Program} {w:World} {A:Around} {E:Value→Shared→Prop} {s:Shared}
end
end HT
namespace L2
open PySem PySem.Spec PyProof.Rows
section
variable {X:Cx} {e st:Expr} {te:TE} {ts:TO} {pos p2:Pos}
end
end L2
namespace M
open PySem PySem.Spec PyProof.Rows L2
section
variable {X:Cx} {K:PySem.W.Frag} {μ:Fp} {H:Hp} {S:qa0}
noncomputable def mRev (a:ME) (st:MO):ME:=fun env S=>(a env S).bind fun p=>(st env p.2).bind fun k=>match p.1,k.1 with
  | .tup xs,some j=>if j = -1 then some (.tup xs.reverse,k.2) else none
  | _,_=>none
end
end M
namespace L2
open PySem PySem.Spec PyProof.Rows
section
variable {X:Cx}
noncomputable def dedN (ns:List Int):Nat:=(firstMet (fun i=>ns.getD i 0) ns.length).length
end
end L2
namespace M
open PySem PySem.Spec PyProof.Rows L2
noncomputable def qG3:List D→Option (List Int)
  | []=>some []
  | .int i::r=>(qG3 r).bind fun ns=>some (i::ns)
  | _::_=>none
theorem qG2:∀ {ds:List D} {ns:List Int},qG3 ds=some ns→ds=ns.map D.int
  | [],ns,h=>by cases h;rfl
  | .int i::r,ns,h=>by
    obtain ⟨ms,h1,h2⟩:=Option.bind_eq_some_iff.mp h
    cases h2
    rw [List.map_cons,← qG2 h1]
  | .non::_,ns,h=>by cases h
  | .bl _::_,ns,h=>by cases h
  | .str _::_,ns,h=>by cases h
  | .tup _::_,ns,h=>by cases h
  | .lst _::_,ns,h=>by cases h
  | .rol _::_,ns,h=>by cases h
  | .dct _ _::_,ns,h=>by cases h
  | .ref _::_,ns,h=>by cases h
theorem qL5:∀ ns:List Int,qG3 (ns.map D.int)=some ns
  | []=>rfl
  | n::ns=>by rw [List.map_cons,qG3,qL5 ns];rfl
noncomputable def isort (ns:List Int):List Int:=ns.mergeSort fun a b=>decide (a≤b)
section
variable {X:Cx} {K:PySem.W.Frag} {μ:Fp} {H:Hp} {S:qa0}
theorem qT0:∀ {vs:List V} {ns:List Int},Reps K μ H vs (ns.map D.int)→vs=ns.map V.int
  | _,[],.nil=>rfl
  | _,n::ns,.cons h t=>by rw [h.int_inv,qT0 t];rfl
noncomputable def qY1 (S:qa0) (d:D):Option (List Int):=if lstB S d=true then (seqD S d).bind fun ds=>(qG3 ds).bind fun ns=>if ns.length<64 then some ns else none else none
theorem zh0 {v:V} {d:D} {ns:List Int} (hS:SOk K μ S H) (r:Rep K μ H v d) (h:qY1 S d=some ns):∃ a,v=.ref a∧SqL K H a (ns.map V.int)∧ns.length<64:=by
  unfold qY1 at h
  split at h
  · rename_i hl
    obtain ⟨a,vs,ds,rfl,hq,hs,rs⟩:=qP1 hS r hl
    rw [hs] at h
    have h:((qG3 ds).bind fun ns=>if ns.length<64 then some ns else none)=some ns:=h
    obtain ⟨ms,h1,h2⟩:=Option.bind_eq_some_iff.mp h
    split at h2
    · rename_i h3
      cases h2
      have:=qG2 h1
      subst this
      exact ⟨a,rfl,by rw [← qT0 rs];exact hq,h3⟩
    · cases h2
  · cases h
noncomputable def fSorted (S:qa0):List D→Option D
  | [d]=>(qY1 S d).bind fun ns=>some (.lst ((isort ns).map D.int))
  | _=>none
noncomputable def fLenSet (S:qa0):List D→Option D
  | [d]=>(qY1 S d).bind fun ns=>some (.int (dedN ns:Nat))
  | _=>none
end
end M
namespace M
open PySem PySem.Spec PyProof.Rows L2
section
variable {X:Cx} {K:PySem.W.Frag} {μ:Fp} {H:Hp} {S:qa0}
noncomputable def mPar (i j:Nat) (ms:MA):MS:=fun env S=>(ms env S).bind fun p=>match p.1 with | [v,w]=>some (.nx ((env.set i (some v)).set j (some w)) p.2) | _=>none
theorem ds_par {i j:Nat} {x y:Str} {a b:Expr} {ms:MA} {px py pt pos:Pos} {kt k2:Nat} {pt2:Pos} (hc:X.calm=true) (hN:X.N.Nodup) (hi:X.N[i]?=some x) (hj:X.N[j]?=some y) (hij:i≠j)
    (hx:X.env.scope.names.lookup x=some .local) (hy:X.env.scope.names.lookup y=some .local) (ha:DA X [a,b] ms)
    (hw:swappedStores [.Tuple [.Name x px,.Name y py] kt pt] (.Tuple [a,b] k2 pt2) X.env=pure (some [x,y])) :
    DS X (.Assign [.Tuple [.Name x px,.Name y py] kt pt] (.Tuple [a,b] k2 pt2) pos) (mPar i j ms):=
  PS.imp (ps_par hc hN hi hj hij hx hy ha hw rfl) fun E σ H ⟨μ,S,env,o,hS,hE,h,post⟩=>by
    obtain ⟨⟨ds,S1⟩,h1,h⟩:=Option.bind_eq_some_iff.mp h
    refine ⟨μ,S,env,ds,S1,hS,hE,h1,fun vs H1 μ1 e1 s1 r1=>?_⟩
    dsimp only at h
    split at h
    · rename_i v w
      cases h
      obtain ⟨v',w',rfl,rv,rw'⟩:=r1.two
      exact ⟨v',w',rfl,post _ H1 μ1 e1 s1 (((hE.mono e1).set rv i).set rw' j)⟩
    · cases h
noncomputable def qT2:Expr→Bool
  | .Starred _ _=>false
  | _=>true
theorem swapped2 {x y:Str} {a b:Expr} {px py pt:Pos} {kt k2:Nat} {pt2:Pos} (hb:X.env.blockKind=.function) (hx:X.env.scope.names.lookup x=some .local) (hy:X.env.scope.names.lookup y=some .local) (hne:(x == y)=false)
    (hl:(py.line == px.line)=true) (ha:qT2 a=true) (hb':qT2 b=true) (hf:(foldedForSure 8 a&&foldedForSure 8 b)=false) (hcn:(constantsAlone 8 a&&constantsAlone 8 b)=false) :
    swappedStores [.Tuple [.Name x px,.Name y py] kt pt] (.Tuple [a,b] k2 pt2) X.env=pure (some [x,y]):=by
  have hkx:X.env.kindOf x=some .local:=hx
  have hky:X.env.kindOf y=some .local:=hy
  have hs:([a,b].any fun e=>match e with | .Starred ..=>true | _=>false)=false:=by
    have q:∀ e:Expr,qT2 e=true→(match e with | .Starred ..=>true | _=>false:Bool)=false:=fun e h=>by cases e <;> first | rfl | cases h
    simp only [List.any_cons,List.any_nil,q a ha,q b hb',Bool.or_self]
  have hxy:(y == x)=false:=by
    rw [Bool.eq_false_iff] at hne ⊢
    intro z;exact hne (by rw [beq_iff_eq] at z ⊢;exact z.symm)
  have hed:([x,y]:List Str).eraseDups=[x,y]:=by simp [List.eraseDups_cons,hxy]
  have hl':py.line=px.line:=by simpa using hl
  unfold swappedStores
  simp only [List.length_cons,List.length_nil,hb]
  simp only [List.all_cons,List.all_nil,Bool.and_true,hf,hcn]
  generalize hg:List.filterMap _ [Expr.Name x px,Expr.Name y py]=L
  have hL:L=[x,y]:=by
    rw [← hg]
    have e0:(Option.map (fun (x:Expr)=>x.pos.line) [Expr.Name x px,Expr.Name y py].head?).getD 0=px.line:=rfl
    rw [List.filterMap_cons,List.filterMap_cons]
    have e1:(Expr.Name x px).pos=px:=rfl
    simp [hkx,hky,e0,e1,hl']
  subst hL
  rw [if_neg (by decide)]
  rw [if_neg (by
    intro z
    have:([a,b].any fun e=>match e with | .Starred ..=>true | _=>false)=true:=z
    rw [hs] at this;cases this)]
  rw [if_neg (by rw [hed];simp),if_neg Bool.false_ne_true,if_neg Bool.false_ne_true]
end
end M
namespace L2
open PySem PySem.Spec PyProof.Rows
section
variable {X:Cx} {pins:List (Addr×Obj)} {σ:St} {H:Hp} {s:Shared} {a:Addr} {xs:List V}
theorem Inv.tupD (I:Inv X pins σ H s) (h:SqT X.K H a xs):∃ ob,s.heap.get? a=some ob∧ob.cls=.type "tuple"∧ob.dict=none:=by
  rcases h with h | ⟨o,its,n,hk,hc,hdn,hs,hz,r⟩
  · obtain ⟨z,its,r,ob,e,c,d,dn⟩:=h.ok I.hok
    exact ⟨ob,e,c,dn⟩
  · exact ⟨o,I.kIn a o hk,hc,hdn⟩
variable {o e:Expr} {es:List Expr} {to:TE} {t:TA} {name:Str} {apos cpos:Pos} {id:String} {r:V→List V→Hp→VK→Prop}
noncomputable def tBT (K:PySem.W.Frag) (r:V→List V→Hp→VK→Prop) (to:TE) (t:TA):TE:=fun σ H Q=>to σ H fun x H1=>(∃ p xs,x=.ref p∧SqT K H1 p xs)∧t σ H1 fun xs H2=>r x xs H2 Q
theorem pe_bmT (slot:Slot "tuple" name id) (hty:typeOf (.builtin id)=pure (.type "method_descriptor")) (hm:MtR X id r) (ho:PE X o to) (ha:PA X (e::es) t)
    (hbase:attributeBase o name X.env (eval o X.env)=eval o X.env)
    (hfew:((backTo cpos (starEach (e::es) X.env)).all (fun x=>!x.1)&&(backToKw cpos (keywordEach [] X.env)).all (fun x=>x.1.isSome)&&decide ((e::es).length+([]:List Keyword).length+(if ([]:List Keyword).isEmpty then 0 else 1)<30))=true)
    (hline:(apos.endLine == cpos.line)=true) (hs:starEach (e::es) X.env=(false,eval e X.env)::starEach es X.env) (hplain:(backTo cpos (starEach es X.env)).any (·.1)=false) :
    PE X (.Call (.Attribute o name apos) (e::es) [] cpos) (tBT X.K r to t):=by
  intro pins s σ H Q I h
  refine wpAny_Call_method_late hbase hfew hline rfl (thn (ho pins s σ H _ I h) fun v s1 ⟨x,H1,I1,r1,ty,q1⟩=>?_)
  obtain ⟨p,ys,rfl,hq⟩:=ty
  cases r1
  obtain ⟨ob,e1,e2,e3⟩:=I1.tupD hq
  refine ⟨"tuple",id,F.plainAttrs_tuple,slot,hty,⟨ob,e1,e2⟩,fun a z=>by cases z;exact ⟨ob,e1,e3⟩,?_⟩
  have hA:=ha cpos pins s1 σ H1 _ I1 q1
  rw [hs] at hA ⊢
  refine Calls.callWith_builtin (by show (false||(backTo cpos (starEach es X.env)).any (·.1))=false;rw [hplain] <;> rfl) (Calls.evalArgs_plain ?_)
  exact thn hA fun us s2 ⟨vs,H2,I2,r2,q2⟩=>hm pins s2 σ H2 (V.ref p) vs _ us Q I2 (show RelV (V.ref p) (Value.ref p) from rfl) r2 q2
end
end L2
namespace M
open PySem PySem.Spec PyProof.Rows L2
section
variable {X:Cx} {K:PySem.W.Frag} {μ:Fp} {H:Hp} {S:qa0}
noncomputable def tupB:D→Bool
  | .tup _=>true
  | _=>false
noncomputable def qm4:MF:=fun o ds S=>if tupB o=true then qY7 o ds S else none
theorem zn7 (hu:X.A.units+64<cLine):MtR X "tuple.count" (rMM X.K qm4):=by
  intro pins s σ H x vs v us Q I rx rv h
  obtain ⟨μ,S,dx,ds,d,S',hS,r1,r2,h,post⟩:=h
  unfold qm4 at h
  split at h
  · rename_i hl
    cases dx with
    | tup es=>
      unfold qY7 at h
      split at h
      · rename_i y
        have h:(if okD 40 y=true∧es.all (okD 39)=true then some (D.int (es.countP fun d=>eqD d y),S) else none)=some (d,S'):=h
        split at h
        · rename_i hk
          cases h
          obtain ⟨a,ws,rfl,hq,re⟩:=r1.sqT
          cases rx
          obtain ⟨w,rfl,rw0⟩:=r2.one
          obtain ⟨u,rfl,ru⟩:=rv.one
          obtain ⟨its,rvs,pt,hz⟩:=I.tuple hq
          obtain ⟨⟨cls,dd,data,sl⟩,e,hc,n,hd⟩:=id pt
          simp only at hc hd
          subst hc hd
          have ok:=List.all_eq_true.mp hk.2
          refine call_meets F.slot_tuple_count ⟨_,e,rfl⟩ F.entry_tuple_count (F.args_tuple_count_2 _ _) (SeqAt.tuple_countAt a its.toArray n dd sl u (qq5 X.K μ H y)) ⟨e,fun w' hw'=>?_,?_⟩
          · exact qn2 I (by show X.A.units+1+40<cLine;omega) ru rw0 hk.1 rvs re ok w' (by simpa using hw')
          · refine ⟨.int _,H,I.tok _,⟨_,rfl⟩,?_⟩
            rw [qw2 I rvs re ok]
            exact post.here hS (.int _)
        · cases h
      · cases h
    | _=>cases hl
  · cases h
noncomputable def mCnt (o:ME) (ms:MA):ME:=fun env S=>(o env S).bind fun p=>if tupB p.1=true then (ms env p.2).bind fun q=>qm4 p.1 q.1 q.2 else if lstB p.2 p.1=true then (ms env p.2).bind fun q=>qA0 p.1 q.1 q.2 else none
theorem de_cnt {o e:Expr} {es:List Expr} {mo:ME} {ms:MA} {apos cpos:Pos} (hu:X.A.units+64<cLine) (ho:DE X o mo) (ha:DA X (e::es) ms)
    (hbase:attributeBase o "count" X.env (eval o X.env)=eval o X.env)
    (hfew:((backTo cpos (starEach (e::es) X.env)).all (fun x=>!x.1)&&(backToKw cpos (keywordEach [] X.env)).all (fun x=>x.1.isSome)&&decide ((e::es).length+([]:List Keyword).length+(if ([]:List Keyword).isEmpty then 0 else 1)<30))=true)
    (hline:(apos.endLine == cpos.line)=true) (hs:starEach (e::es) X.env=(false,eval e X.env)::starEach es X.env) (hpl:(backTo cpos (starEach es X.env)).any (·.1)=false) :
    DE X (.Call (.Attribute o "count" apos) (e::es) [] cpos) (mCnt mo ms):=by
  have hT:=pe_bmT (X:=X) F.slot_tuple_count F.type_tuple_count (zn7 hu) ho ha hbase hfew hline hs hpl
  have hL:=de_meth (X:=X) F.slot_list_count F.type_list_count (q96 hu) ho ha hbase hfew hline hs hpl
  intro pins s σ H Q I ⟨μ,S,env,d,S',hS,hE,h,post⟩
  obtain ⟨⟨x,S1⟩,h1,h⟩:=Option.bind_eq_some_iff.mp h
  dsimp only at h
  split at h
  · rename_i ht
    obtain ⟨⟨xs,S2⟩,h2,h⟩:=Option.bind_eq_some_iff.mp h
    refine hT pins s σ H Q I ⟨μ,S,env,x,S1,hS,hE,h1,fun v H1 μ1 e1 s1 r1=>⟨?_,μ1,S1,env,xs,S2,s1,hE.mono e1,h2,fun vs H2 μ2 e2 s2 r2=>⟨μ2,S2,x,xs,d,S',s2,r1.mono e2,r2,h,(post.ext e1).ext e2⟩⟩⟩
    cases x <;> first | cases ht | skip
    obtain ⟨a,ws,rfl,hq,_⟩:=r1.sqT
    exact ⟨a,ws,rfl,hq⟩
  · refine hL pins s σ H Q I ⟨μ,S,env,d,S',hS,hE,?_,post⟩
    show (mo env S).bind _=_
    rw [h1];exact h
end
end M
namespace HT
open PySem PyProof.Rows
section
variable {prog:Program} {w:World} {A:Around} {E:Value→Shared→Prop} {s:Shared}
structure ZSep (z TI TO i1 i2:Addr) (fp1 fp2:List Addr):Prop where
  TIz:TI≠z
  TOz:TO≠z
  TITO:TI≠TO
  z1:z ∉ fp1
  z2:z ∉ fp2
  o1:TO ∉ fp1
  o2:TO ∉ fp2
  i12:i1 ∉ fp2
  i21:i2 ∉ fp1
  t1:TI≠i1
  t2:TI≠i2
  m1:i1∈fp1
  m2:i2∈fp2
theorem zi6 {z TI TO i1 i2:Addr} {fp1 fp2:List Addr} {n1 n2 k1 k2:Nat} {P1 P2:Nat→Value→Prop} {St1 St2:Nat→Heap→Prop} {a b:Value} {Q:Value→Shared→Prop}
    (Z:ZSep z TI TO i1 i2 fp1 fp2) (D1:Draws prog w A i1 fp1 n1 P1 St1) (D2:Draws prog w A i2 fp2 n2 P2 St2) (hz:IsZip s.heap z TI TO .none) (hTI:IsPair s.heap TI (.ref i1) (.ref i2)) (hTO:IsPair s.heap TO a b)
    (s1:St1 k1 s.heap) (s2:St2 k2 s.heap) (l1:k1<n1) (l2:k2<n2)
    (hQ:∀ x y h' tk,P1 k1 x→P2 k2 y→IsZip h' z TI TO (rawInt s.heap.objs.size)→IsPair h' TO x y→St1 (k1+1) h'→St2 (k2+1) h'→IsPair h' s.heap.objs.size x y→h'.objs.size=s.heap.objs.size+1 →
      (∀ c o,c≠z→c≠TO→c≠i1→c≠i2→s.heap.get? c=some o→h'.get? c=some o)→Q (.ref s.heap.objs.size) { s with heap:=h',toks:=tk }) :
    wpAny (model prog w) A (Builtin.«zip.__next__» ⟨[.ref z],[]⟩) (fun fin s'=>∃ v,fin=.done (.ret v)∧Q v s') E s:=by
  unfold Builtin.«zip.__next__»
  show wpAny _ _ (field (.ref z) 2 >>= _) _ _ s
  refine wpAny_bind (wpAny_field hz rfl (x:=.bool false) rfl ?_)
  refine wpAny_bind (wpAny_field hz rfl (x:=.ref TI) rfl ?_)
  refine wpAny_bind (wpAny_seqItems hTI rfl ?_)
  show wpAny _ _ (Builtin.SmallTypes.ownedTupleIsFree (.ref z) >>= _) _ _ s
  refine wpAny_bind ?_
  unfold Builtin.SmallTypes.ownedTupleIsFree
  refine wpAny_bind (wpAny_field hz rfl (x:=.none) rfl (wpAny_pure ?_))
  show wpAny _ _ (rule "zip.__next__.owned-tuple-again" >>= _) _ _ s
  refine wpAny_bind (wpAny_rule ?_)
  refine wpAny_bind (wpAny_field hz rfl (x:=.ref TO) rfl ?_)
  refine wpAny_bind (wpAny_setField hz rfl (by simp) ?_)
  refine wpAny_bind ?_
  show wpAny _ _ (forIn [((Value.ref i1,0):Value×Nat),(Value.ref i2,1)] _ _) _ _ _
  rw [List.forIn_cons]
  refine wpAny_bind ?_
  refine wpAny_bind (wpAny_onRaise ?_)
  refine wpAny_bind ?_
  have ez:(s.heap.update z (Obj.mapFields fun vs=>vs.setIfInBounds 0 .ellipsis)).get? z=some { cls:=.type "zip",data:=.fields #[.ellipsis,.bool false,.bool false,.ref TI,.ref TO] }:=Heap.get?_update_self _ hz rfl
  have ne0:∀ c,c≠z→(s.heap.update z (Obj.mapFields fun vs=>vs.setIfInBounds 0 .ellipsis)).get? c=s.heap.get? c:=fun c hc=>Heap.get?_update_ne _ _ _ _ hc
  have sz0:(s.heap.update z (Obj.mapFields fun vs=>vs.setIfInBounds 0 .ellipsis)).objs.size=s.heap.objs.size:=(Heap.SameBut.update ..).1
  generalize (s.heap.update z (Obj.mapFields fun vs=>vs.setIfInBounds 0 .ellipsis))=h0 at ez ne0 sz0 ⊢
  have zi1:z≠i1:=fun e=>Z.z1 (e ▸ Z.m1)
  have zi2:z≠i2:=fun e=>Z.z2 (e ▸ Z.m2)
  have oi1:TO≠i1:=fun e=>Z.o1 (e ▸ Z.m1)
  have oi2:TO≠i2:=fun e=>Z.o2 (e ▸ Z.m2)
  refine D1.item k1 { s with heap:=h0 } _ _ l1 (D1.frame _ _ _ s1 fun c hc o ho=>(ne0 c (fun e=>Z.z1 (e ▸ hc))).trans ho) fun x h1 tk1 px st1 sb1=>wpAny_pure ?_
  have o1:h1.get? TO=some { cls:=.type "tuple",data:=.seq #[a,b] }:=(sb1.2 TO oi1).trans ((ne0 TO Z.TOz).trans hTO)
  show wpAny _ _ (seqItems? (Value.ref TO) >>= _) _ _ _
  refine wpAny_bind (wpAny_seqItems o1 rfl ?_)
  refine wpAny_bind (wpAny_updateSeq o1 rfl ?_ (by show 2≤sizeLine;decide) (by simp;decide))
  refine wpAny_bind (wpAny_letGo (wpAny_pure ?_))
  have eo:(h1.update TO (Obj.mapSeq fun vs=>vs.setIfInBounds 0 x)).get? TO=some { cls:=.type "tuple",data:=.seq #[x,b] }:=Heap.get?_update_self _ o1 rfl
  have ne1:∀ c,c≠TO→(h1.update TO (Obj.mapSeq fun vs=>vs.setIfInBounds 0 x)).get? c=h1.get? c:=fun c hc=>Heap.get?_update_ne _ _ _ _ hc
  have sz1:(h1.update TO (Obj.mapSeq fun vs=>vs.setIfInBounds 0 x)).objs.size=s.heap.objs.size:=(Heap.SameBut.update ..).1.trans (sb1.1.trans sz0)
  generalize (h1.update TO (Obj.mapSeq fun vs=>vs.setIfInBounds 0 x))=h2 at eo ne1 sz1 ⊢
  show wpAny _ _ (forIn [((Value.ref i2,1):Value×Nat)] _ _) _ _ _
  rw [List.forIn_cons]
  refine wpAny_bind ?_
  refine wpAny_bind (wpAny_onRaise ?_)
  refine wpAny_bind ?_
  refine D2.item k2 { s with heap:=h2,toks:=tk1 } _ _ l2 (D2.frame _ _ _ s2 fun c hc o ho=>(ne1 c (fun e=>Z.o2 (e ▸ hc))).trans ((sb1.2 c (fun e=>Z.i12 (e ▸ hc))).trans ((ne0 c (fun e=>Z.z2 (e ▸ hc))).trans ho))) fun y h3 tk2 py st2 sb2=>wpAny_pure ?_
  have o2:h3.get? TO=some { cls:=.type "tuple",data:=.seq #[x,b] }:=(sb2.2 TO oi2).trans eo
  show wpAny _ _ (seqItems? (Value.ref TO) >>= _) _ _ _
  refine wpAny_bind (wpAny_seqItems o2 rfl ?_)
  refine wpAny_bind (wpAny_updateSeq o2 rfl ?_ (by show 2≤sizeLine;decide) (by simp;decide))
  refine wpAny_bind (wpAny_letGo (wpAny_pure ?_))
  have eo2:(h3.update TO (Obj.mapSeq fun vs=>vs.setIfInBounds 1 y)).get? TO=some { cls:=.type "tuple",data:=.seq #[x,y] }:=Heap.get?_update_self _ o2 rfl
  have ne2:∀ c,c≠TO→(h3.update TO (Obj.mapSeq fun vs=>vs.setIfInBounds 1 y)).get? c=h3.get? c:=fun c hc=>Heap.get?_update_ne _ _ _ _ hc
  have sz2:(h3.update TO (Obj.mapSeq fun vs=>vs.setIfInBounds 1 y)).objs.size=s.heap.objs.size:=(Heap.SameBut.update ..).1.trans (sb2.1.trans sz1)
  generalize (h3.update TO (Obj.mapSeq fun vs=>vs.setIfInBounds 1 y))=h4 at eo2 ne2 sz2 ⊢
  show wpAny _ _ (pure _) _ _ _
  refine wpAny_pure ?_
  show wpAny _ _ (seqItems? (Value.ref TO) >>= _) _ _ _
  refine wpAny_bind (wpAny_seqItems eo2 rfl ?_)
  show wpAny _ _ (newTuple [x,y] >>= _) _ _ _
  refine wpAny_bind ?_
  simp only [newTuple]
  refine wpAny_newObj_type ?_ (by size_fits)
  have ez4:h4.get? z=some { cls:=.type "zip",data:=.fields #[.ellipsis,.bool false,.bool false,.ref TI,.ref TO] }:=(ne2 z Z.TOz.symm).trans ((sb2.2 z zi2).trans ((ne1 z Z.TOz.symm).trans ((sb1.2 z zi1).trans ez)))
  have ez5:=Heap.get?_push_of_some { cls:=.type "tuple",data:=.seq #[x,y] } ez4
  have et5:=Heap.get?_push_size h4 (o:={ cls:=.type "tuple",data:=.seq #[x,y] }) rfl
  have kk5:∀ c o,h4.get? c=some o→(h4.push { cls:=.type "tuple",data:=.seq #[x,y] }).get? c=some o:=fun c o=>Heap.get?_push_of_some _
  have sz5:(h4.push { cls:=.type "tuple",data:=.seq #[x,y] }).objs.size=s.heap.objs.size+1:=by rw [Heap.size_push,sz2]
  dsimp only
  show wpAny _ _ _ _ _ { s with heap:=h4.push { cls:=.type "tuple",data:=.seq #[x,y] },toks:=tk2 }
  generalize (h4.push { cls:=.type "tuple",data:=.seq #[x,y] })=h5 at ez5 et5 kk5 sz5 ⊢
  rw [sz2] at et5 ⊢
  show wpAny _ _ ((setField (.ref z) 0 (rawInt s.heap.objs.size) >>= fun _=>setField (.ref z) 1 (.bool false)) >>= _) _ _ _
  refine wpAny_bind (wpAny_bind (wpAny_setField ez5 rfl (by simp) ?_))
  have ez6:(h5.update z (Obj.mapFields fun vs=>vs.setIfInBounds 0 (rawInt s.heap.objs.size))).get? z=some { cls:=.type "zip",data:=.fields #[rawInt s.heap.objs.size,.bool false,.bool false,.ref TI,.ref TO] }:=Heap.get?_update_self _ ez5 rfl
  have ne6:∀ c,c≠z→(h5.update z (Obj.mapFields fun vs=>vs.setIfInBounds 0 (rawInt s.heap.objs.size))).get? c=h5.get? c:=fun c hc=>Heap.get?_update_ne _ _ _ _ hc
  have sz6:(h5.update z (Obj.mapFields fun vs=>vs.setIfInBounds 0 (rawInt s.heap.objs.size))).objs.size=s.heap.objs.size+1:=(Heap.SameBut.update ..).1.trans sz5
  generalize (h5.update z (Obj.mapFields fun vs=>vs.setIfInBounds 0 (rawInt s.heap.objs.size)))=h6 at ez6 ne6 sz6 ⊢
  refine wpAny_setField ez6 rfl (by simp) ?_
  have ez7:(h6.update z (Obj.mapFields fun vs=>vs.setIfInBounds 1 (.bool false))).get? z=some { cls:=.type "zip",data:=.fields #[rawInt s.heap.objs.size,.bool false,.bool false,.ref TI,.ref TO] }:=Heap.get?_update_self _ ez6 rfl
  have ne7:∀ c,c≠z→(h6.update z (Obj.mapFields fun vs=>vs.setIfInBounds 1 (.bool false))).get? c=h6.get? c:=fun c hc=>Heap.get?_update_ne _ _ _ _ hc
  have sz7:(h6.update z (Obj.mapFields fun vs=>vs.setIfInBounds 1 (.bool false))).objs.size=s.heap.objs.size+1:=(Heap.SameBut.update ..).1.trans sz6
  generalize (h6.update z (Obj.mapFields fun vs=>vs.setIfInBounds 1 (.bool false)))=h7 at ez7 ne7 sz7 ⊢
  have k57:∀ c o,c≠z→h4.get? c=some o→h7.get? c=some o:=fun c o hc ho=>(ne7 c hc).trans ((ne6 c hc).trans (kk5 c o ho))
  have newz:s.heap.objs.size≠z:=Nat.ne_of_gt (Heap.lt_size hz)
  refine wpAny_pure ⟨_,rfl,hQ x y h7 tk2 px py ez7 (k57 TO _ Z.TOz eo2) ?_ ?_ ((ne7 _ newz).trans ((ne6 _ newz).trans et5)) sz7 fun c o c1 c2 c3 c4 ho=>k57 c o c1 ((ne2 c c2).trans ((sb2.2 c c4).trans ((ne1 c c2).trans ((sb1.2 c c3).trans ((ne0 c c1).trans ho)))))⟩
  · exact D1.frame _ _ _ st1 fun c hc o ho=>k57 c o (fun e=>Z.z1 (e ▸ hc)) ((ne2 c (fun e=>Z.o1 (e ▸ hc))).trans ((sb2.2 c (fun e=>Z.i21 (e ▸ hc))).trans ((ne1 c (fun e=>Z.o1 (e ▸ hc))).trans ho)))
  · exact D2.frame _ _ _ st2 fun c hc o ho=>k57 c o (fun e=>Z.z2 (e ▸ hc)) ((ne2 c (fun e=>Z.o2 (e ▸ hc))).trans ho)
theorem zi8 {z TI TO i1 i2:Addr} {fp1 fp2:List Addr} {n1:Nat} {P1:Nat→Value→Prop} {St1:Nat→Heap→Prop} {a b:Value} {Q:Fin→Shared→Prop}
    (Z:ZSep z TI TO i1 i2 fp1 fp2) (D1:Draws prog w A i1 fp1 n1 P1 St1) (hz:IsZip s.heap z TI TO .none) (hTI:IsPair s.heap TI (.ref i1) (.ref i2)) (hTO:IsPair s.heap TO a b)
    (s1:St1 n1 s.heap)
    (hE:∀ h' e tk,(∀ c o,c≠z→c≠TO→c≠i1→c≠i2→s.heap.get? c=some o→h'.get? c=some o)→(∃ o,h'.get? e=some o∧o.cls=.type "StopIteration")→E (.ref e) { s with heap:=h',toks:=tk }) :
    wpAny (model prog w) A (Builtin.«zip.__next__» ⟨[.ref z],[]⟩) Q E s:=by
  unfold Builtin.«zip.__next__»
  show wpAny _ _ (field (.ref z) 2 >>= _) _ _ s
  refine wpAny_bind (wpAny_field hz rfl (x:=.bool false) rfl ?_)
  refine wpAny_bind (wpAny_field hz rfl (x:=.ref TI) rfl ?_)
  refine wpAny_bind (wpAny_seqItems hTI rfl ?_)
  show wpAny _ _ (Builtin.SmallTypes.ownedTupleIsFree (.ref z) >>= _) _ _ s
  refine wpAny_bind ?_
  unfold Builtin.SmallTypes.ownedTupleIsFree
  refine wpAny_bind (wpAny_field hz rfl (x:=.none) rfl (wpAny_pure ?_))
  show wpAny _ _ (rule "zip.__next__.owned-tuple-again" >>= _) _ _ s
  refine wpAny_bind (wpAny_rule ?_)
  refine wpAny_bind (wpAny_field hz rfl (x:=.ref TO) rfl ?_)
  refine wpAny_bind (wpAny_setField hz rfl (by simp) ?_)
  refine wpAny_bind ?_
  show wpAny _ _ (forIn [((Value.ref i1,0):Value×Nat),(Value.ref i2,1)] _ _) _ _ _
  rw [List.forIn_cons]
  refine wpAny_bind ?_
  refine wpAny_bind (wpAny_onRaise ?_)
  refine wpAny_bind ?_
  have ez:(s.heap.update z (Obj.mapFields fun vs=>vs.setIfInBounds 0 .ellipsis)).get? z=some { cls:=.type "zip",data:=.fields #[.ellipsis,.bool false,.bool false,.ref TI,.ref TO] }:=Heap.get?_update_self _ hz rfl
  have ne0:∀ c,c≠z→(s.heap.update z (Obj.mapFields fun vs=>vs.setIfInBounds 0 .ellipsis)).get? c=s.heap.get? c:=fun c hc=>Heap.get?_update_ne _ _ _ _ hc
  generalize (s.heap.update z (Obj.mapFields fun vs=>vs.setIfInBounds 0 .ellipsis))=h0 at ez ne0 ⊢
  have zi1:z≠i1:=fun e=>Z.z1 (e ▸ Z.m1)
  have zi2:z≠i2:=fun e=>Z.z2 (e ▸ Z.m2)
  have oi1:TO≠i1:=fun e=>Z.o1 (e ▸ Z.m1)
  have oi2:TO≠i2:=fun e=>Z.o2 (e ▸ Z.m2)
  refine D1.done { s with heap:=h0 } _ _ (D1.frame _ _ _ s1 fun c hc o ho=>(ne0 c (fun e=>Z.z1 (e ▸ hc))).trans ho) fun h1 e xb ⟨o,ho,hc⟩=>?_
  have z1:=xb z _ zi1 ez
  refine wpAny_setField z1 rfl (by simp) (hE _ e s.toks (fun c o c1 c2 c3 c4 ho=>(Heap.get?_update_ne _ _ _ _ c1).trans (xb c o c3 ((ne0 c c1).trans ho))) ?_)
  refine ⟨o,(Heap.get?_update_ne _ _ _ _ fun h=>?_).trans ho,hc⟩
  rw [h,z1] at ho;cases ho;exact absurd (show Value.type "zip" = Value.type "StopIteration" from hc) (by decide)
theorem zi7 {z TI TO i1 i2:Addr} {fp1 fp2:List Addr} {n1 n2 k1:Nat} {P1 P2:Nat→Value→Prop} {St1 St2:Nat→Heap→Prop} {a b:Value} {Q:Fin→Shared→Prop}
    (Z:ZSep z TI TO i1 i2 fp1 fp2) (D1:Draws prog w A i1 fp1 n1 P1 St1) (D2:Draws prog w A i2 fp2 n2 P2 St2) (hz:IsZip s.heap z TI TO .none) (hTI:IsPair s.heap TI (.ref i1) (.ref i2)) (hTO:IsPair s.heap TO a b)
    (s1:St1 k1 s.heap) (l1:k1<n1) (s2:St2 n2 s.heap)
    (hE:∀ h' e tk,(∀ c o,c≠z→c≠TO→c≠i1→c≠i2→s.heap.get? c=some o→h'.get? c=some o)→(∃ o,h'.get? e=some o∧o.cls=.type "StopIteration")→E (.ref e) { s with heap:=h',toks:=tk }) :
    wpAny (model prog w) A (Builtin.«zip.__next__» ⟨[.ref z],[]⟩) Q E s:=by
  unfold Builtin.«zip.__next__»
  show wpAny _ _ (field (.ref z) 2 >>= _) _ _ s
  refine wpAny_bind (wpAny_field hz rfl (x:=.bool false) rfl ?_)
  refine wpAny_bind (wpAny_field hz rfl (x:=.ref TI) rfl ?_)
  refine wpAny_bind (wpAny_seqItems hTI rfl ?_)
  show wpAny _ _ (Builtin.SmallTypes.ownedTupleIsFree (.ref z) >>= _) _ _ s
  refine wpAny_bind ?_
  unfold Builtin.SmallTypes.ownedTupleIsFree
  refine wpAny_bind (wpAny_field hz rfl (x:=.none) rfl (wpAny_pure ?_))
  show wpAny _ _ (rule "zip.__next__.owned-tuple-again" >>= _) _ _ s
  refine wpAny_bind (wpAny_rule ?_)
  refine wpAny_bind (wpAny_field hz rfl (x:=.ref TO) rfl ?_)
  refine wpAny_bind (wpAny_setField hz rfl (by simp) ?_)
  refine wpAny_bind ?_
  show wpAny _ _ (forIn [((Value.ref i1,0):Value×Nat),(Value.ref i2,1)] _ _) _ _ _
  rw [List.forIn_cons]
  refine wpAny_bind ?_
  refine wpAny_bind (wpAny_onRaise ?_)
  refine wpAny_bind ?_
  have ez:(s.heap.update z (Obj.mapFields fun vs=>vs.setIfInBounds 0 .ellipsis)).get? z=some { cls:=.type "zip",data:=.fields #[.ellipsis,.bool false,.bool false,.ref TI,.ref TO] }:=Heap.get?_update_self _ hz rfl
  have ne0:∀ c,c≠z→(s.heap.update z (Obj.mapFields fun vs=>vs.setIfInBounds 0 .ellipsis)).get? c=s.heap.get? c:=fun c hc=>Heap.get?_update_ne _ _ _ _ hc
  generalize (s.heap.update z (Obj.mapFields fun vs=>vs.setIfInBounds 0 .ellipsis))=h0 at ez ne0 ⊢
  have zi1:z≠i1:=fun e=>Z.z1 (e ▸ Z.m1)
  have zi2:z≠i2:=fun e=>Z.z2 (e ▸ Z.m2)
  have oi1:TO≠i1:=fun e=>Z.o1 (e ▸ Z.m1)
  have oi2:TO≠i2:=fun e=>Z.o2 (e ▸ Z.m2)
  refine D1.item k1 { s with heap:=h0 } _ _ l1 (D1.frame _ _ _ s1 fun c hc o ho=>(ne0 c (fun e=>Z.z1 (e ▸ hc))).trans ho) fun x h1 tk1 px st1 sb1=>wpAny_pure ?_
  have o1:h1.get? TO=some { cls:=.type "tuple",data:=.seq #[a,b] }:=(sb1.2 TO oi1).trans ((ne0 TO Z.TOz).trans hTO)
  show wpAny _ _ (seqItems? (Value.ref TO) >>= _) _ _ _
  refine wpAny_bind (wpAny_seqItems o1 rfl ?_)
  refine wpAny_bind (wpAny_updateSeq o1 rfl ?_ (by show 2≤sizeLine;decide) (by simp;decide))
  refine wpAny_bind (wpAny_letGo (wpAny_pure ?_))
  have ne1:∀ c,c≠TO→(h1.update TO (Obj.mapSeq fun vs=>vs.setIfInBounds 0 x)).get? c=h1.get? c:=fun c hc=>Heap.get?_update_ne _ _ _ _ hc
  generalize (h1.update TO (Obj.mapSeq fun vs=>vs.setIfInBounds 0 x))=h2 at ne1 ⊢
  show wpAny _ _ (forIn [((Value.ref i2,1):Value×Nat)] _ _) _ _ _
  rw [List.forIn_cons]
  refine wpAny_bind ?_
  refine wpAny_bind (wpAny_onRaise ?_)
  refine wpAny_bind ?_
  refine D2.done { s with heap:=h2,toks:=tk1 } _ _ (D2.frame _ _ _ s2 fun c hc o ho=>(ne1 c (fun e=>Z.o2 (e ▸ hc))).trans ((sb1.2 c (fun e=>Z.i12 (e ▸ hc))).trans ((ne0 c (fun e=>Z.z2 (e ▸ hc))).trans ho))) fun h3 e xb ⟨o,ho,hc⟩=>?_
  have z1:=xb z _ zi2 ((ne1 z Z.TOz.symm).trans ((sb1.2 z zi1).trans ez))
  refine wpAny_setField z1 rfl (by simp) (hE _ e tk1 (fun c o c1 c2 c3 c4 ho=>(Heap.get?_update_ne _ _ _ _ c1).trans (xb c o c4 ((ne1 c c2).trans ((sb1.2 c c3).trans ((ne0 c c1).trans ho))))) ?_)
  refine ⟨o,(Heap.get?_update_ne _ _ _ _ fun h=>?_).trans ho,hc⟩
  rw [h,z1] at ho;cases ho;exact absurd (show Value.type "zip" = Value.type "StopIteration" from hc) (by decide)
theorem pyNext_zipD {z TI TO i1 i2:Addr} {fp1 fp2:List Addr} {n1 n2 k1 k2:Nat} {P1 P2:Nat→Value→Prop} {St1 St2:Nat→Heap→Prop} {a b:Value} {Q:Option Value→Shared→Prop}
    (Z:ZSep z TI TO i1 i2 fp1 fp2) (D1:Draws prog w A.in1 i1 fp1 n1 P1 St1) (D2:Draws prog w A.in1 i2 fp2 n2 P2 St2) (hz:IsZip s.heap z TI TO .none) (hTI:IsPair s.heap TI (.ref i1) (.ref i2)) (hTO:IsPair s.heap TO a b)
    (s1:St1 k1 s.heap) (s2:St2 k2 s.heap) (l1:k1<n1) (l2:k2<n2)
    (hQ:∀ x y h' tk,P1 k1 x→P2 k2 y→IsZip h' z TI TO (rawInt s.heap.objs.size)→IsPair h' TO x y→St1 (k1+1) h'→St2 (k2+1) h'→IsPair h' s.heap.objs.size x y→h'.objs.size=s.heap.objs.size+1 →
      (∀ c o,c≠z→c≠TO→c≠i1→c≠i2→s.heap.get? c=some o→h'.get? c=some o)→Q (some (.ref s.heap.objs.size)) { s with heap:=h',toks:=tk }) :
    wpAny (model prog w) A (pyNext (.ref z)) Q E s:=by
  unfold pyNext
  refine wpAny_bind (wpAny_attempt ?_)
  refine wpAny_callSpecial?_slot (name:=Str.ofString "__next__") (T:="zip") ?_ F.slot_zip_next (wpAny_call_entry F.slot_zip_next ?_ F.entry_zip_next (zi6 Z D1 D2 hz hTI hTO s1 s2 l1 l2 fun x y h' tk a1 a2 a3 a4 a5 a6 a7 a8 a9=>wpAny_pure (hQ x y h' tk a1 a2 a3 a4 a5 a6 a7 a8 a9)) (F.args_zip_next_1 _)) <;> exact ⟨_,hz,rfl⟩
end
end HT
namespace HT
open PySem PyProof.Rows
section
variable {prog:Program} {w:World} {A:Around} {E:Value→Shared→Prop} {s:Shared}
theorem pyNext_zipE1 {z TI TO i1 i2:Addr} {fp1 fp2:List Addr} {n1:Nat} {P1:Nat→Value→Prop} {St1:Nat→Heap→Prop} {a b:Value} {Q:Option Value→Shared→Prop}
    (Z:ZSep z TI TO i1 i2 fp1 fp2) (D1:Draws prog w A.in1 i1 fp1 n1 P1 St1) (hz:IsZip s.heap z TI TO .none) (hTI:IsPair s.heap TI (.ref i1) (.ref i2)) (hTO:IsPair s.heap TO a b)
    (s1:St1 n1 s.heap) (hQ:∀ h' tk,(∀ c o,c≠z→c≠TO→c≠i1→c≠i2→s.heap.get? c=some o→h'.get? c=some o)→Q none { s with heap:=h',toks:=tk }) :
    wpAny (model prog w) A (pyNext (.ref z)) Q E s:=by
  unfold pyNext
  refine wpAny_bind (wpAny_attempt ?_)
  refine wpAny_callSpecial?_slot (name:=Str.ofString "__next__") (T:="zip") ⟨_,hz,rfl⟩ F.slot_zip_next (wpAny_call_entry F.slot_zip_next ⟨_,hz,rfl⟩ F.entry_zip_next (zi8 Z D1 hz hTI hTO s1 fun h' e tk kk hc=>?_) (F.args_zip_next_1 _))
  show wpAny _ _ (isInstance (.ref e) (.type "StopIteration") >>= _) _ _ _
  exact wpAny_bind (wpAny_isInstance (T:="StopIteration") (b:=true) hc (by first | exact sub_StopIteration | rfl) (wpAny_pure (hQ h' tk kk)))
theorem pyNext_zipE2 {z TI TO i1 i2:Addr} {fp1 fp2:List Addr} {n1 n2 k1:Nat} {P1 P2:Nat→Value→Prop} {St1 St2:Nat→Heap→Prop} {a b:Value} {Q:Option Value→Shared→Prop}
    (Z:ZSep z TI TO i1 i2 fp1 fp2) (D1:Draws prog w A.in1 i1 fp1 n1 P1 St1) (D2:Draws prog w A.in1 i2 fp2 n2 P2 St2) (hz:IsZip s.heap z TI TO .none) (hTI:IsPair s.heap TI (.ref i1) (.ref i2)) (hTO:IsPair s.heap TO a b)
    (s1:St1 k1 s.heap) (l1:k1<n1) (s2:St2 n2 s.heap) (hQ:∀ h' tk,(∀ c o,c≠z→c≠TO→c≠i1→c≠i2→s.heap.get? c=some o→h'.get? c=some o)→Q none { s with heap:=h',toks:=tk }) :
    wpAny (model prog w) A (pyNext (.ref z)) Q E s:=by
  unfold pyNext
  refine wpAny_bind (wpAny_attempt ?_)
  refine wpAny_callSpecial?_slot (name:=Str.ofString "__next__") (T:="zip") ⟨_,hz,rfl⟩ F.slot_zip_next (wpAny_call_entry F.slot_zip_next ⟨_,hz,rfl⟩ F.entry_zip_next (zi7 Z D1 D2 hz hTI hTO s1 l1 s2 fun h' e tk kk hc=>?_) (F.args_zip_next_1 _))
  show wpAny _ _ (isInstance (.ref e) (.type "StopIteration") >>= _) _ _ _
  exact wpAny_bind (wpAny_isInstance (T:="StopIteration") (b:=true) hc (by first | exact sub_StopIteration | rfl) (wpAny_pure (hQ h' tk kk)))
end
theorem zipT_new (l1 l2:Addr) (xs ys:Array Value) :
    Meets (Builtin.«zip.__new__» ⟨[.type "zip",.ref l1,.ref l2],[]⟩) (fun _ R s=>s.heap.IsTuple l1 xs∧s.heap.IsTuple l2 ys ∧
      ∀ h',IsZip h' (s.heap.objs.size+4) (s.heap.objs.size+2) (s.heap.objs.size+3) .none→IsPair h' (s.heap.objs.size+2) (.ref s.heap.objs.size) (.ref (s.heap.objs.size+1))→IsPair h' (s.heap.objs.size+3) .none .none →
        h'.IsTupleIter s.heap.objs.size l1 0→h'.IsTupleIter (s.heap.objs.size+1) l2 0→h'.objs.size=s.heap.objs.size+5→(∀ c o,s.heap.get? c=some o→h'.get? c=some o)→R (.ok (.ret (.ref (s.heap.objs.size+4)))) { s with heap:=h' }):=
  .of_wp fun prog w A R s h=>by
    obtain ⟨hl,hl2,h⟩:=h
    unfold Builtin.«zip.__new__»
    refine wpAny_bind ?_
    show wpAny _ _ (isType (.type "zip") >>= _) _ _ _
    refine wpAny_bind (wpAny_of_eq (a:=true) (by first | rfl | simp [isType]) ?_)
    show wpAny _ _ (isSubtype (.type "zip") (.type "zip") >>= _) _ _ _
    refine wpAny_bind (wpAny_of_eq sub_zip (wpAny_pure ?_))
    show wpAny _ _ (Builtin.SmallTypes.iterAll [.ref l1,.ref l2] >>= _) _ _ _
    refine wpAny_bind ?_
    unfold Builtin.SmallTypes.iterAll
    refine wpAny_bind ?_
    rw [List.forIn_cons]
    refine wpAny_bind (wpAny_bind (wpAny_holding (wpAny_pyIter_tuple hl (wpAny_pure ?_))))
    have g1:=Heap.get?_push_size s.heap (o:={ cls:=.type "tuple_iterator",data:=.fields #[.ref l1,.int 0 0] }) rfl
    have k1:∀ c o,s.heap.get? c=some o→(s.heap.push { cls:=.type "tuple_iterator",data:=.fields #[.ref l1,.int 0 0] }).get? c=some o:=fun c o=>Heap.get?_push_of_some _
    have z1:(s.heap.push { cls:=.type "tuple_iterator",data:=.fields #[.ref l1,.int 0 0] }).objs.size=s.heap.objs.size+1:=Heap.size_push ..
    generalize s.heap.push { cls:=.type "tuple_iterator",data:=.fields #[.ref l1,.int 0 0] } = h1 at g1 k1 z1 ⊢
    have hl2':h1.IsTuple l2 ys:=by obtain ⟨o,ho,r⟩:=hl2;exact ⟨o,k1 _ _ ho,r⟩
    show wpAny _ _ (forIn [Value.ref l2] _ _) _ _ _
    rw [List.forIn_cons]
    refine wpAny_bind (wpAny_bind (wpAny_holding (wpAny_pyIter_tuple hl2' (wpAny_pure ?_))))
    dsimp only
    have g2:=Heap.get?_push_size h1 (o:={ cls:=.type "tuple_iterator",data:=.fields #[.ref l2,.int 0 0] }) rfl
    have k2:∀ c o,h1.get? c=some o→(h1.push { cls:=.type "tuple_iterator",data:=.fields #[.ref l2,.int 0 0] }).get? c=some o:=fun c o=>Heap.get?_push_of_some _
    have z2:(h1.push { cls:=.type "tuple_iterator",data:=.fields #[.ref l2,.int 0 0] }).objs.size=s.heap.objs.size+2:=by rw [Heap.size_push,z1]
    generalize h1.push { cls:=.type "tuple_iterator",data:=.fields #[.ref l2,.int 0 0] } = h2 at g2 k2 z2 ⊢
    rw [z1] at g2 ⊢
    show wpAny _ _ (pure _) _ _ _
    refine wpAny_pure (wpAny_pure ?_)
    show wpAny _ _ (newTuple [.ref s.heap.objs.size,.ref (s.heap.objs.size+1)] >>= _) _ _ _
    refine wpAny_bind ?_
    simp only [newTuple]
    refine wpAny_newObj_type ?_ (by size_fits)
    have g3:=Heap.get?_push_size h2 (o:={ cls:=.type "tuple",data:=.seq #[.ref s.heap.objs.size,.ref (s.heap.objs.size+1)] }) rfl
    have k3:∀ c o,h2.get? c=some o→(h2.push { cls:=.type "tuple",data:=.seq #[.ref s.heap.objs.size,.ref (s.heap.objs.size+1)] }).get? c=some o:=fun c o=>Heap.get?_push_of_some _
    have z3:(h2.push { cls:=.type "tuple",data:=.seq #[.ref s.heap.objs.size,.ref (s.heap.objs.size+1)] }).objs.size=s.heap.objs.size+3:=by rw [Heap.size_push,z2]
    dsimp only
    show wpAny _ _ _ _ _ { s with heap:=h2.push { cls:=.type "tuple",data:=.seq #[.ref s.heap.objs.size,.ref (s.heap.objs.size+1)] } }
    generalize h2.push { cls:=.type "tuple",data:=.seq #[.ref s.heap.objs.size,.ref (s.heap.objs.size+1)] } = h3 at g3 k3 z3 ⊢
    rw [z2] at g3 ⊢
    refine wpAny_bind ?_
    show wpAny _ _ (newObj (.type "tuple") (.seq #[.none,.none])) _ _ _
    refine wpAny_newObj_type ?_ (by size_fits)
    have g4:=Heap.get?_push_size h3 (o:={ cls:=.type "tuple",data:=.seq #[.none,.none] }) rfl
    have k4:∀ c o,h3.get? c=some o→(h3.push { cls:=.type "tuple",data:=.seq #[.none,.none] }).get? c=some o:=fun c o=>Heap.get?_push_of_some _
    have z4:(h3.push { cls:=.type "tuple",data:=.seq #[.none,.none] }).objs.size=s.heap.objs.size+4:=by rw [Heap.size_push,z3]
    dsimp only
    generalize h3.push { cls:=.type "tuple",data:=.seq #[.none,.none] } = h4 at g4 k4 z4 ⊢
    rw [z3] at g4 ⊢
    refine wpAny_bind ?_
    show wpAny _ _ (newObj (.type "zip") (.fields #[.none,.bool false,.bool false,.ref (s.heap.objs.size+2),.ref (s.heap.objs.size+3)])) _ _ _
    refine wpAny_newObj_type ?_ (by size_fits)
    have g5:=Heap.get?_push_size h4 (o:={ cls:=.type "zip",data:=.fields #[.none,.bool false,.bool false,.ref (s.heap.objs.size+2),.ref (s.heap.objs.size+3)] }) rfl
    have k5:∀ c o,h4.get? c=some o→(h4.push { cls:=.type "zip",data:=.fields #[.none,.bool false,.bool false,.ref (s.heap.objs.size+2),.ref (s.heap.objs.size+3)] }).get? c=some o:=fun c o=>Heap.get?_push_of_some _
    have z5:(h4.push { cls:=.type "zip",data:=.fields #[.none,.bool false,.bool false,.ref (s.heap.objs.size+2),.ref (s.heap.objs.size+3)] }).objs.size=s.heap.objs.size+5:=by rw [Heap.size_push,z4]
    dsimp only
    generalize h4.push { cls:=.type "zip",data:=.fields #[.none,.bool false,.bool false,.ref (s.heap.objs.size+2),.ref (s.heap.objs.size+3)] } = h5 at g5 k5 z5 ⊢
    rw [z4] at g5 ⊢
    refine wpAny_pure ⟨_,rfl,h h5 g5 (k5 _ _ (k4 _ _ g3)) (k5 _ _ g4) ⟨_,k5 _ _ (k4 _ _ (k3 _ _ (k2 _ _ g1))),rfl,rfl⟩ ⟨_,k5 _ _ (k4 _ _ (k3 _ _ g2)),rfl,rfl⟩ z5 fun c o e=>k5 _ _ (k4 _ _ (k3 _ _ (k2 _ _ (k1 _ _ e))))⟩
section
variable {prog:Program} {w:World} {A:Around} {E:Value→Shared→Prop} {s:Shared}
theorem call_zipT {l1 l2:Addr} {xs ys:Array Value} {Q:Value→Shared→Prop} (hL:s.heap.IsTuple l1 xs) (hL2:s.heap.IsTuple l2 ys)
    (h:∀ h':Heap,IsZip h' (s.heap.objs.size+4) (s.heap.objs.size+2) (s.heap.objs.size+3) .none→IsPair h' (s.heap.objs.size+2) (.ref s.heap.objs.size) (.ref (s.heap.objs.size+1))→IsPair h' (s.heap.objs.size+3) .none .none →
        h'.IsTupleIter s.heap.objs.size l1 0→h'.IsTupleIter (s.heap.objs.size+1) l2 0→h'.objs.size=s.heap.objs.size+5→(∀ c o,s.heap.get? c=some o→h'.get? c=some o)→Q (.ref (s.heap.objs.size+4)) { s with heap:=h' }) :
    wpAny (model prog w) A (call (.type "zip") [.ref l1,.ref l2]) Q E s:=by
  refine callType_new F.called_zip (by decide) (F.typeCall_zip_2 _ _) (F.newCall_zip_2 _ _) (fun obj=>F.args_object_init_3 obj _ _) F.entry_zip_new (zipT_new l1 l2 xs ys) ⟨hL,hL2,fun h' a b c d e f g=>?_⟩
  exact ⟨⟨_,a,rfl⟩,h h' a b c d e f g⟩
end
end HT
namespace L2
open PySem PySem.Spec PyProof.Rows
section
noncomputable def Itz (K:PySem.W.Frag) (a b:Addr):It:=
  ⟨fun i H=>∃ xs ys x y,SqT K H a xs∧SqT K H b ys∧xs[i]?=some x∧ys[i]?=some y,
   fun i H x H'=>∃ p v u,x=.ref p∧H p=none∧H'=upd H p (.tup [v,u])∧(∀ xs,SqT K H a xs→xs[i]?=some v)∧∀ ys,SqT K H b ys→ys[i]?=some u,
   fun i H=>∃ xs ys,SqT K H a xs∧SqT K H b ys∧(xs.length≤i∨ys.length≤i)⟩
noncomputable def TnZ (z TI TO i1 i2 a b:Addr) (i:Nat) (h:Heap):Prop:=IsZip h z TI TO .none∧IsPair h TI (.ref i1) (.ref i2)∧(∃ u v,IsPair h TO u v)∧h.IsTupleIter i1 a i∧h.IsTupleIter i2 b i
theorem zc9 {prog:Program} {w:World} {A:Around} (hh:A.handled=none) (it a:Addr) (items:Array Value) (i:Nat) (hx:items[i]?=none) :
    Draws prog w A it [it,a] i (fun _ _=>True) (fun j h=>j=i∧h.IsTupleIter it a i∧h.IsTuple a items):=
  { live:=fun _ _ q=>by obtain ⟨_,⟨o,ho,_⟩,_⟩:=q;exact ⟨o,ho⟩
    frame:=fun _ _ _ q hk=>by
      obtain ⟨q0,⟨o,ho,r⟩,⟨o2,ho2,r2⟩⟩:=q
      exact ⟨q0,⟨o,hk it (by simp) o ho,r⟩,⟨o2,hk a (by simp) o2 ho2,r2⟩⟩
    item:=fun j _ _ _ hj q _=>absurd q.1 (Nat.ne_of_lt hj)
    done:=fun s Q E q hE=>HT.drawT_end hh q.2.1 q.2.2 hx hE }
theorem turn_zip {P:Program} {w:World} {K:PySem.W.Frag} {es:List Expr} {k:Nat} {pos:Pos} (a b z TI TO i1 i2:Addr) (Z:HT.ZSep z TI TO i1 i2 [i1,a] [i2,b]):Turn P w K (.Tuple es k pos) (Itz K a b) [z,TI,TO,i1,i2] z (TnZ z TI TO i1 i2 a b) where
  mem:=by simp
  obj:=fun i h st c hc=>by
    obtain ⟨hz,hTI,⟨u,v,hTO⟩,⟨o,ho,hc1,hd⟩,⟨o2,ho2,hc2,hd2⟩⟩:=st
    simp only [List.mem_cons,List.not_mem_nil,or_false] at hc
    rcases hc with rfl | rfl | rfl | rfl | rfl
    · exact ⟨_,hz,fun v z=>by cases z⟩
    · exact ⟨_,hTI,fun v z=>by cases z⟩
    · exact ⟨_,hTO,fun v z=>by cases z⟩
    · exact ⟨o,ho,fun v z=>by rw [hd] at z;cases z⟩
    · exact ⟨o2,ho2,fun v z=>by rw [hd2] at z;cases z⟩
  keep:=fun i h h' st kk=>by
    obtain ⟨hz,hTI,⟨u,v,hTO⟩,⟨o,ho,r⟩,⟨o2,ho2,r2⟩⟩:=st
    exact ⟨kk z (by simp) _ hz,kk TI (by simp) _ hTI,⟨u,v,kk TO (by simp) _ hTO⟩,⟨o,kk i1 (by simp) _ ho,r⟩,⟨o2,kk i2 (by simp) _ ho2,r2⟩⟩
  item:=by
    intro X hP hw hK hc i pins s σ H E I hf st hg
    subst hP hw hK
    obtain ⟨xs,ys,x,y,hq,hq2,hx,hy⟩:=hg
    obtain ⟨its,rv,p,hz0⟩:=I.tuple hq
    obtain ⟨its2,rv2,p2,hz2⟩:=I.tuple hq2
    have hT:s.heap.IsTuple a its.toArray:=p
    have hT2:s.heap.IsTuple b its2.toArray:=p2
    have hh:=I.ok.hd hc
    obtain ⟨hz,hTI,⟨u0,v0,hTO⟩,hit1,hit2⟩:=st
    have li:i<its.toArray.size:=by rw [List.size_toArray,← rv.length];exact (List.getElem?_eq_some_iff.mp hx).1
    have li2:i<its2.toArray.size:=by rw [List.size_toArray,← rv2.length];exact (List.getElem?_eq_some_iff.mp hy).1
    have nea:a≠i1:=fun e=>by
      obtain ⟨o',ho',hc',_⟩:=hit1
      obtain ⟨o,ho,hcl,_⟩:=hT
      rw [e,ho'] at ho;cases ho;rw [hc'] at hcl;exact absurd hcl (by decide)
    have neb:b≠i2:=fun e=>by
      obtain ⟨o',ho',hc',_⟩:=hit2
      obtain ⟨o,ho,hcl,_⟩:=hT2
      rw [e,ho'] at ho;cases ho;rw [hc'] at hcl;exact absurd hcl (by decide)
    have Tn:∀ c,c∈[z,TI,TO,i1,i2]→s.heap.objs.size≠c:=fun c hc=>by
      simp only [List.mem_cons,List.not_mem_nil,or_false] at hc
      rcases hc with rfl | rfl | rfl | rfl | rfl
      · exact Nat.ne_of_gt (Heap.lt_size hz)
      · exact Nat.ne_of_gt (Heap.lt_size hTI)
      · exact Nat.ne_of_gt (Heap.lt_size hTO)
      · obtain ⟨o,ho,_⟩:=hit1;exact Nat.ne_of_gt (Heap.lt_size ho)
      · obtain ⟨o,ho,_⟩:=hit2;exact Nat.ne_of_gt (Heap.lt_size ho)
    refine HT.pyNext_zipD Z (HT.drawsT (prog:=X.prog) (w:=X.w) (A:=X.A.in1) hh i1 a nea its.toArray) (HT.drawsT (prog:=X.prog) (w:=X.w) (A:=X.A.in1) hh i2 b neb its2.toArray) hz hTI hTO ⟨hit1,hT⟩ ⟨hit2,hT2⟩ li li2 fun x' y' h1 tk hx' hy' ez eo st1 st2 hT1 hsz kk=>⟨_,rfl,?_⟩
    refine wpAny_letOwnedTupleGo_zip ez fun h2 ez2 sb=>?_
    generalize hTT:s.heap.objs.size=T at *
    obtain ⟨u,hu,ru⟩:=rv.get hx
    obtain ⟨u2,hu2,ru2⟩:=rv2.get hy
    have ex:x'=u:=by
      rw [show its.toArray[i]?=its[i]? by simp,hu] at hx'
      exact (Option.some.inj hx').symm
    have ey:y'=u2:=by
      rw [show its2.toArray[i]?=its2[i]? by simp,hu2] at hy'
      exact (Option.some.inj hy').symm
    subst ex ey
    have kall:∀ c o,c ∉ [z,TI,TO,i1,i2]→s.heap.get? c=some o→h2.get? c=some o:=fun c o hb q=>by
      simp only [List.mem_cons,List.not_mem_nil,or_false,not_or] at hb
      exact (sb.2 c hb.1).trans (kk c o hb.1 hb.2.2.1 hb.2.2.2.1 hb.2.2.2.2 q)
    have hTp:IsTupN h2 T #[x',y']:=⟨_,(sb.2 T (Tn z (by simp))).trans hT1,rfl,⟨_,rfl⟩,rfl⟩
    have hTs:s.heap.objs.size≤T:=Nat.le_of_eq hTT
    have TIi:TI≠i1∧TI≠i2:=⟨Z.t1,Z.t2⟩
    refine ⟨.ref T,upd H T (.tup [x,y]),I.turnLaid kall hf hTs ⟨by show 2≤sizeLine;decide,[x',y'],.cons ru (.cons ru2 .nil),hTp⟩,rfl,⟨T,x,y,rfl,I.hok.fresh hTs,rfl,fun zs hz=>by rw [I.tuple_inj hz hq];exact hx,fun zs hz=>by rw [I.tuple_inj hz hq2];exact hy⟩,⟨ez2,(sb.2 TI Z.TIz).trans (kk TI _ Z.TIz Z.TITO Z.t1 Z.t2 hTI),⟨x',y',(sb.2 TO Z.TOz).trans eo⟩,?_,?_⟩,fun c hc=>?_⟩
    · obtain ⟨⟨o,ho,r⟩,_⟩:=st1
      exact ⟨o,(sb.2 i1 (fun e=>Z.z1 (by simp [e]))).trans ho,r⟩
    · obtain ⟨⟨o,ho,r⟩,_⟩:=st2
      exact ⟨o,(sb.2 i2 (fun e=>Z.z2 (by simp [e]))).trans ho,r⟩
    · rw [qb5 (Tn c hc).symm]
      exact (hf c hc).1
  done:=by
    intro X hP hw hK hc i pins s σ H E I hf st hg
    subst hP hw hK
    obtain ⟨xs,ys,hq,hq2,hl⟩:=hg
    obtain ⟨its,rv,p,hz0⟩:=I.tuple hq
    obtain ⟨its2,rv2,p2,hz2⟩:=I.tuple hq2
    have hT:s.heap.IsTuple a its.toArray:=p
    have hT2:s.heap.IsTuple b its2.toArray:=p2
    have hh:=I.ok.hd hc
    obtain ⟨hz,hTI,⟨u0,v0,hTO⟩,hit1,hit2⟩:=st
    have fin:∀ h' tk,(∀ c o,c≠z→c≠TO→c≠i1→c≠i2→s.heap.get? c=some o→h'.get? c=some o)→(none:Option Value)=none∧Inv X pins σ H { s with heap:=h',toks:=tk }:=fun h' tk kk=>⟨rfl,I.turnedL (fp:=[z,TI,TO,i1,i2]) (fun c o hb q=>by
      simp only [List.mem_cons,List.not_mem_nil,or_false,not_or] at hb
      exact kk c o hb.1 hb.2.2.1 hb.2.2.2.1 hb.2.2.2.2 q) hf⟩
    by_cases h1:xs.length≤i
    · exact HT.pyNext_zipE1 Z (zc9 (prog:=X.prog) (w:=X.w) (A:=X.A.in1) hh i1 a its.toArray i (by simp;have:=rv.length;omega)) hz hTI hTO ⟨rfl,hit1,hT⟩ fin
    · have h2:ys.length≤i:=hl.resolve_left h1
      have nea:a≠i1:=fun e=>by
        obtain ⟨o',ho',hc',_⟩:=hit1
        obtain ⟨o,ho,hcl,_⟩:=hT
        rw [e,ho'] at ho;cases ho;rw [hc'] at hcl;exact absurd hcl (by decide)
      exact HT.pyNext_zipE2 Z (HT.drawsT (prog:=X.prog) (w:=X.w) (A:=X.A.in1) hh i1 a nea its.toArray) (zc9 (prog:=X.prog) (w:=X.w) (A:=X.A.in1) hh i2 b its2.toArray i (by simp;have:=rv2.length;omega)) hz hTI hTO ⟨hit1,hT⟩ (by simp;have:=rv.length;omega) ⟨rfl,hit2,hT2⟩ fin
  self:=fun A i s Q E st h=>wpAny_pyIter_zip st.1 h
noncomputable def iZip (K:PySem.W.Frag) (t:TA):TI:=fun σ H R=>t σ H fun xs H1=>∃ a b,xs=[.ref a,.ref b]∧(∃ ys,SqT K H1 a ys)∧(∃ ys,SqT K H1 b ys)∧R (Itz K a b) H1
variable {X:Cx}
theorem zsep_new {n t t2:Nat} (h1:t<n) (h2:t2<n):HT.ZSep (n+4) (n+2) (n+3) n (n+1) [n,t] [n+1,t2]:=by
  constructor <;> simp only [List.mem_cons,List.not_mem_nil,or_false,not_or,ne_eq,true_or] <;> (try (show ¬ ((_:Nat)=_))) <;> (try omega)
  all_goals (refine ⟨?_,?_⟩ <;> (show ¬ ((_:Nat)=_)) <;> omega)
theorem zfp_new {n b:Nat} (h:b∈[n+4,n+2,n+3,n,n+1]):n≤b:=by
  simp only [List.mem_cons,List.not_mem_nil,or_false] at h
  omega
theorem pi_zip {a b:Expr} {ta:TA} {es:List Expr} {k:Nat} {tp p pos:Pos} (hg:Gl X "zip") (hm:X.mg "zip" = none) (ha:PA X [a,b] ta) (hs:starEach [a,b] X.env=[(false,eval a X.env),(false,eval b X.env)]) (hs2:starEach [b] X.env=[(false,eval b X.env)]) :
    PI X (.Tuple es k tp) (.Call (.Name "zip" p) [a,b] [] pos) (iZip X.K ta):=by
  intro pins s σ H R I h
  refine Call_ (qx1 I hg hm boot_zip (PyProof.Rows.callWith_type1 (thn (ha pos pins s σ H _ I h) fun us s1 ⟨vs,H1,I1,r1,q1⟩=>?_) (by rw [hs,hs2]) (by rw [hs2];rfl)))
  obtain ⟨t,t2,rfl,⟨ys,hq⟩,⟨ys2,hq2⟩,q⟩:=q1
  obtain ⟨u,v,rfl,ru,rv⟩:=r1.two
  cases ru
  cases rv
  obtain ⟨its,rv,pt,hz⟩:=I1.tuple hq
  obtain ⟨its2,rv2,pt2,hz2⟩:=I1.tuple hq2
  have l1:t<s1.heap.objs.size:=by obtain ⟨o,ho,_⟩:=pt;exact Heap.lt_size ho
  have l2:t2<s1.heap.objs.size:=by obtain ⟨o,ho,_⟩:=pt2;exact Heap.lt_size ho
  refine HT.call_zipT pt pt2 fun h' hz hTI hTO hi1 hi2 hsz kk=>wpAny_pyIter_zip hz ?_
  have Z:HT.ZSep (s1.heap.objs.size+4) (s1.heap.objs.size+2) (s1.heap.objs.size+3) s1.heap.objs.size (s1.heap.objs.size+1) [s1.heap.objs.size,t] [s1.heap.objs.size+1,t2]:=zsep_new l1 l2
  refine ⟨s1.heap.objs.size+4,[s1.heap.objs.size+4,s1.heap.objs.size+2,s1.heap.objs.size+3,s1.heap.objs.size,s1.heap.objs.size+1],_,_,H1,rfl,I1.kept (t':=s1.toks) kk,turn_zip t t2 _ _ _ _ _ Z,⟨hz,hTI,⟨_,_,hTO⟩,hi1,hi2⟩,fun b hb=>?_,q⟩
  have hb':s1.heap.objs.size≤b:=zfp_new hb
  exact I1.fpOk hb' (I1.hok.fresh hb')
end
end L2
namespace M
open PySem PySem.Spec PyProof.Rows L2
section
variable {X:Cx} {K:PySem.W.Frag} {μ μ':Fp} {H H':Hp} {S:qa0}
noncomputable def zipD:List D→List D→List D
  | x::r,y::q=>.tup [x,y]::zipD r q
  | _,_=>[]
theorem q76:∀ (xs ys:List D) (i:Nat),(zipD xs ys).length≤i→xs.length≤i∨ys.length≤i
  | [],_,i,_=>.inl (Nat.zero_le _)
  | _::_,[],i,_=>.inr (Nat.zero_le _)
  | x::r,y::q,0,h=>by simp [zipD] at h
  | x::r,y::q,i+1,h=>by
    rw [zipD,List.length_cons] at h
    rcases q76 r q i (by omega) with h | h
    · exact .inl (by rw [List.length_cons];omega)
    · exact .inr (by rw [List.length_cons];omega)
theorem q77:∀ (xs ys:List D) (i:Nat) (d:D),(zipD xs ys)[i]?=some d→∃ x y,xs[i]?=some x∧ys[i]?=some y∧d=.tup [x,y]
  | [],_,i,d,h=>by simp [zipD] at h
  | _::_,[],i,d,h=>by simp [zipD] at h
  | x::r,y::q,0,d,h=>by simp [zipD] at h;exact ⟨x,y,rfl,rfl,h.symm⟩
  | x::r,y::q,i+1,d,h=>by
    rw [zipD,List.getElem?_cons_succ] at h
    simpa using q77 r q i d h
theorem itOk_zip {a b:Addr} {xs ys:List D} (r:Rep K μ H (.ref a) (.tup xs)) (q:Rep K μ H (.ref b) (.tup ys)):ItOk K μ H (Itz K a b) (zipD xs ys):=fun μ' H' S' e s i=>by
  have r':=r.monoP e
  have q':=q.monoP e
  obtain ⟨b1,vs,hb,hq,rs⟩:=r'.sqT
  cases hb
  obtain ⟨b2,ws,hb,hq2,qs⟩:=q'.sqT
  cases hb
  refine ⟨fun d hd=>?_,fun hl=>⟨vs,ws,hq,hq2,by rw [rs.length,qs.length];exact q76 _ _ _ hl⟩⟩
  obtain ⟨x,y,hx,hy,rfl⟩:=q77 xs ys i d hd
  obtain ⟨v,hv,rv⟩:=rs.get hx
  obtain ⟨u,hu,ru⟩:=qs.get hy
  refine ⟨⟨vs,ws,v,u,hq,hq2,hv,hu⟩,fun y H2 hy=>?_⟩
  obtain ⟨p,v',u',rfl,hp,rfl,hw,hw2⟩:=hy
  have ev:v'=v:=by have:=hw vs hq;rw [hv] at this;exact (Option.some.inj this).symm
  have eu:u'=u:=by have:=hw2 ws hq2;rw [hu] at this;exact (Option.some.inj this).symm
  subst ev eu
  obtain ⟨e2,s2⟩:=s.laid (o:=.tup [v',u']) hp
  refine ⟨e2,s2,?_⟩
  exact .tup qb4 (s.notMem hp) (.cons (rv.mono e2) (.cons (ru.mono e2) .nil))
noncomputable def mZip (ms:MA):MA:=fun env S=>(ms env S).bind fun p=>match p.1 with | [.tup xs,.tup ys]=>some (zipD xs ys,p.2) | _=>none
theorem di_zip {a b:Expr} {ms:MA} {es:List Expr} {k:Nat} {tp p pos:Pos} (hm:X.mg "zip" = none) (ha:DA X [a,b] ms) (hg:Gl X "zip") (hs:starEach [a,b] X.env=[(false,eval a X.env),(false,eval b X.env)]) (hs2:starEach [b] X.env=[(false,eval b X.env)]) :
    DI X (.Tuple es k tp) (.Call (.Name "zip" p) [a,b] [] pos) (mZip ms):=PI.imp (pi_zip hg hm ha hs hs2) fun σ H R ⟨μ,S,env,xs,S',hS,hE,h,post⟩=>by
  obtain ⟨⟨ds,S1⟩,h1,h⟩:=Option.bind_eq_some_iff.mp h
  refine ⟨μ,S,env,ds,S1,hS,hE,h1,fun vs H1 μ1 e1 s1 r1=>?_⟩
  dsimp only at h
  split at h
  · rename_i xs ys
    cases h
    obtain ⟨v,u,rfl,rv,ru⟩:=r1.two
    have rv':=rv
    have ru':=ru
    obtain ⟨b,ws,rfl,hq,rs⟩:=rv.sqT
    obtain ⟨b2,ws2,rfl,hq2,rs2⟩:=ru.sqT
    exact ⟨b,b2,rfl,⟨ws,hq⟩,⟨ws2,hq2⟩,post _ H1 μ1 e1 s1 (itOk_zip rv' ru')⟩
  · cases h
end
end M
namespace M
open PySem PySem.Spec PyProof.Rows L2
section
variable {X:Cx} {K:PySem.W.Frag} {μ μ':Fp} {H H':Hp} {S S':qa0}
noncomputable def qz0:D→Option Key
  | .int i=>some (.inl i)
  | .str x=>some (.inr x)
  | _=>none
theorem qX0 {v:V} {d:D} {k:Key} (h:qz0 d=some k) (r:Rep K μ H v d):v=kV k:=by
  cases d <;> first | cases h | skip
  · rw [r.int_inv];rfl
  · rw [r.str_inv];rfl
noncomputable def valD (kvs:List (Key×D)) (k:Key):Option D:=match kvs with
  | []=>none
  | p::r=>if p.1=k then some p.2 else valD r k
noncomputable def hasK (kvs:List (Key×D)) (k:Key):Bool:=match kvs with
  | []=>false
  | p::r=>if p.1=k then true else hasK r k
noncomputable def setD (kvs:List (Key×D)) (k:Key) (d:D):List (Key×D):=match kvs with
  | []=>[]
  | p::r=>(if p.1=k then (p.1,d) else p)::setD r k d
noncomputable def putD (kvs:List (Key×D)) (k:Key) (d:D):List (Key×D):=if hasK kvs k then setD kvs k d else kvs++[(k,d)]
noncomputable def qh3 (kvs:List (Key×D)):List (Key×D)→List (Key×D)
  | []=>kvs
  | p::r=>qh3 (putD kvs p.1 p.2) r
inductive KR (K:PySem.W.Frag) (μ:Fp) (H:Hp):List (Key×V)→List (Key×D)→Prop
  | nil:KR K μ H [] []
  | cons {k:Key} {v:V} {d:D} {vs:List (Key×V)} {ds:List (Key×D)} (h:Rep K μ H v d) (t:KR K μ H vs ds):KR K μ H ((k,v)::vs) ((k,d)::ds)
theorem KR.keys:∀ {vs ds},KR K μ H vs ds→vs.map (·.1)=ds.map (·.1)
  | _,_,.nil=>rfl
  | _,_,.cons _ t=>by rw [List.map_cons,List.map_cons,KR.keys t]
theorem KR.reps:∀ {vs ds},KR K μ H vs ds→Reps K μ H (vs.map (·.2)) (ds.map (·.2))
  | _,_,.nil=>.nil
  | _,_,.cons h t=>.cons h (KR.reps t)
theorem KR.length:∀ {vs ds},KR K μ H vs ds→vs.length=ds.length
  | _,_,.nil=>rfl
  | _,_,.cons _ t=>by rw [List.length_cons,List.length_cons,KR.length t]
theorem KR.less {p:Addr} {cs fb:List Addr}:∀ {vs ds},KR K ⟨cs,p::fb⟩ H vs ds→KR K ⟨cs,fb⟩ H vs ds
  | _,_,.nil=>.nil
  | _,_,.cons h t=>.cons h.less (KR.less t)
theorem KR.chg {p:Addr} {o:HO} (hp:p ∈ μ.fb):∀ {vs ds},KR K μ H vs ds→KR K μ (upd H p o) vs ds
  | _,_,.nil=>.nil
  | _,_,.cons h t=>.cons (h.chg hp) (KR.chg hp t)
theorem KR.of:∀ {kvs:List (Key×V)} {ks:List Key} {ds:List D},ks=kvs.map (·.1)→Reps K μ H (kvs.map (·.2)) ds→KR K μ H kvs (ks.zip ds)
  | [],_,_,e,r=>by subst e;cases r;exact .nil
  | p::q,_,_,e,r=>by
    subst e
    rw [List.map_cons] at r
    cases r with | cons h t=>exact .cons h (KR.of rfl t)
theorem KR.val {k:Key}:∀ {vs ds},KR K μ H vs ds→∀ {d},valD ds k=some d→∃ v,valV vs k=some v∧Rep K μ H v d
  | _,_,.nil,d,h=>by cases h
  | _,_,.cons (k:=k') h t,d,q=>by
    unfold valD at q
    split at q
    · rename_i e;cases q;exact ⟨_,qM7 e,h⟩
    · rename_i e
      obtain ⟨v,h1,h2⟩:=KR.val t q
      exact ⟨v,(qM8 e).trans h1,h2⟩
theorem KR.has {k:Key}:∀ {vs ds},KR K μ H vs ds→(vs.any fun kv=>decide (kv.1=k))=hasK ds k
  | _,_,.nil=>rfl
  | _,_,.cons (k:=k') h t=>by
    rw [List.any_cons,KR.has t]
    unfold hasK
    by_cases e:k'=k
    · simp [e]
    · simp only [decide_eq_false e,Bool.false_or,if_neg e];cases t <;> rfl
theorem KR.setv {k:Key} {x:V} {d:D} (r:Rep K μ H x d):∀ {vs ds},KR K μ H vs ds→KR K μ H (vs.map fun kv=>if kv.1=k then (kv.1,x) else kv) (setD ds k d)
  | _,_,.nil=>.nil
  | _,_,.cons (k:=k') h t=>by
    rw [List.map_cons]
    unfold setD
    by_cases e:k'=k
    · simp only [if_pos e];exact .cons r (KR.setv r t)
    · simp only [if_neg e];exact .cons h (KR.setv r t)
theorem KR.snoc {k:Key} {x:V} {d:D} (r:Rep K μ H x d):∀ {vs ds},KR K μ H vs ds→KR K μ H (vs++[(k,x)]) (ds++[(k,d)])
  | _,_,.nil=>.cons r .nil
  | _,_,.cons h t=>.cons h (KR.snoc r t)
theorem KR.put {k:Key} {x:V} {d:D} {vs ds} (r:Rep K μ H x d) (t:KR K μ H vs ds):KR K μ H (putK vs k x) (putD ds k d):=by
  unfold putK putD
  rw [t.has]
  split
  · exact t.setv r
  · exact t.snoc r
theorem KR.merge:∀ {ws es vs ds},KR K μ H ws es→KR K μ H vs ds→KR K μ H (qr9 vs ws) (qh3 ds es)
  | _,_,_,_,.nil,t=>t
  | _,_,vs,ds,.cons (k:=k) (v:=v) (d:=d) h q,t=>by
    have:=KR.merge q (t.put (k:=k) h)
    exact this
noncomputable abbrev MP:=MEnv→qa0→Option (List (Key×D)×qa0)
noncomputable def qt9:List (ME×ME)→MP
  | []=>fun _ S=>some ([],S)
  | (a,b)::r=>fun env S=>(a env S).bind fun p=>(qz0 p.1).bind fun k=>(b env p.2).bind fun q=>(qt9 r env q.2).bind fun z=>some ((k,q.1)::z.1,z.2)
noncomputable def DPs (X:Cx) (pos:Pos) (keys:List (Option Expr)) (values:List Expr) (ms:List (ME×ME)):Prop:=PPs X pos keys values (ms.map fun p=>(tM X.K p.1,tM X.K p.2))
theorem dps_nil {pos:Pos}:DPs X pos [] [] []:=pps_nil
theorem dps_cons {pos:Pos} {k v:Expr} {ks:List (Option Expr)} {vs:List Expr} {mk mv:ME} {ms:List (ME×ME)} (hk:DE X k mk) (hv:DE X v mv) (hr:DPs X pos ks vs ms):DPs X pos (some k::ks) (v::vs) ((mk,mv)::ms):=pps_cons hk hv hr
theorem qC8 {σ:L2.St} {env:MEnv}:∀ {ms:List (ME×ME)} {μ:Fp} {H:Hp} {S S':qa0} {kvs:List (Key×D)} {Q:List (V×V)→Hp→Prop},SOk K μ S H→EOk K μ H σ env→qt9 ms env S=some (kvs,S') →
    (∀ vs H' μ',Ext μ H μ' H'→SOk K μ' S' H'→KR K μ' H' vs kvs→Q (vs.map fun kv=>(kV kv.1,kv.2)) H')→q81 (ms.map fun p=>(tM K p.1,tM K p.2)) σ H Q
  | [],μ,H,S,S',kvs,Q,s,e,h,q=>by cases h;exact q [] H μ s.ext s .nil
  | (a,b)::r,μ,H,S,S',kvs,Q,s,e,h,q=>by
    obtain ⟨⟨x,S1⟩,h1,h⟩:=Option.bind_eq_some_iff.mp h
    obtain ⟨k,h2,h⟩:=Option.bind_eq_some_iff.mp h
    obtain ⟨⟨y,S2⟩,h3,h⟩:=Option.bind_eq_some_iff.mp h
    obtain ⟨⟨zs,S3⟩,h4,h⟩:=Option.bind_eq_some_iff.mp h
    cases h
    refine ⟨μ,S,env,x,S1,s,e,h1,fun v H1 μ1 e1 s1 r1=>⟨μ1,S1,env,y,S2,s1,e.mono e1,h3,fun w H2 μ2 e2 s2 r2=>qC8 s2 ((e.mono e1).mono e2) h4 fun vs H3 μ3 e3 s3 r3=>?_⟩⟩
    have:=q ((k,w)::vs) H3 μ3 ((e1.trans e2).trans e3) s3 (.cons (r2.mono e3) r3)
    rw [List.map_cons] at this
    rw [qX0 h2 r1]
    exact this
theorem Ext.shut {p:Addr} {o o':HO} {cs fb:List Addr} {μ2:Fp} {H2:Hp} {S2:qa0} (hp:H p=none) (hn:p ∉ fb) (e:Ext ⟨cs,p::fb⟩ (upd H p o) μ2 H2) (s:SOk K μ2 S2 H2) :
    Ext ⟨cs,fb⟩ H ⟨μ2.cs,fb⟩ (upd H2 p o')∧SOk K ⟨μ2.cs,fb⟩ S2 (upd H2 p o')∧(⟨μ2.cs,fb⟩:Fp).no p∧(∀ vs ds,KR K μ2 H2 vs ds→KR K ⟨μ2.cs,fb⟩ (upd H2 p o') vs ds)∧H2 p=some o:=by
  have pm:p ∈ μ2.fb:=by rw [e.fb];exact List.mem_cons_self
  have ncs:p ∉ μ2.cs:=s.disj p pm
  have ncs0:p ∉ cs:=fun z=>ncs (by obtain ⟨l,q,_⟩:=e.pre;rw [q];exact List.mem_append_left _ z)
  have ef:μ2=⟨μ2.cs,p::fb⟩:=by have:=e.fb;obtain ⟨a,b⟩:=μ2;simp only at this;rw [this]
  refine ⟨⟨rfl,?_,fun a o2 na ha=>?_,fun a ha=>?_⟩,?_,⟨ncs,?_⟩,fun vs ds r=>?_,e.keep p o ncs0 qb4⟩
  · obtain ⟨l,q,hl⟩:=e.pre
    refine ⟨l,q,fun a ha=>?_⟩
    have:=hl a ha
    by_cases z:a=p
    · subst z;exact hp
    · rwa [qb5 z] at this
  · have z:=qe6 ha hp
    rw [qb5 z]
    exact e.keep a o2 na ((qb5 z).trans ha)
  · have z:a≠p:=fun z=>ncs (z ▸ ha)
    rw [qb5 z];exact e.dom a ha
  · have:=(s.chg (o:=o') pm)
    rw [ef] at this
    exact this.less
  · exact hn
  · have:=r.chg (o:=o') pm
    rw [ef] at this
    exact this.less
noncomputable def mDict (ms:List (ME×ME)):ME:=fun env S=>(qt9 ms env S).bind fun z=>if z.1.length≤15 then some (.dct ((qh3 [] z.1).map (·.1)) ((qh3 [] z.1).map (·.2)),z.2) else none
theorem de_disp {pos:Pos} {keys:List (Option Expr)} {values:List Expr} {ms:List (ME×ME)} (h:DPs X pos keys values ms) (hall:keys.all (·.isSome)=true) (hl:keys.length=values.length) (h0:keys≠[]) (h15:keys.length≤15) :
    DE X (.Dict keys values pos) (mDict ms):=PE.imp (zl5 h hall hl h0 h15) fun σ H Q ⟨μ,S,env,d,S',hS,hE,hm,post⟩=>by
  obtain ⟨⟨kvs,S1⟩,h1,hm⟩:=Option.bind_eq_some_iff.mp hm
  dsimp only at hm
  split at hm
  · rename_i hl
    cases hm
    intro p hp
    obtain ⟨cs,fb⟩:=μ
    refine qC8 (hS.more hp) (hE.more hp) h1 fun vs H2 μ2 e2 s2 r2=>?_
    obtain ⟨eF,sF,nF,rF,hF⟩:=Ext.shut (o':=.dK (qr9 [] vs)) hp (hS.notMem hp).2 e2 s2
    refine ⟨hF,vs,rfl,by rw [r2.length];exact hl,post _ _ _ eF sF ?_⟩
    have rr:=(rF _ _ r2).merge KR.nil
    have:=Rep.dct (K:=X.K) (qb4 (H:=H2) (o:=.dK (qr9 [] vs))) nF rr.reps
    rw [rr.keys] at this
    exact this
  · cases hm
noncomputable def tabD (S:qa0):D→Option (List (Key×D))
  | .dct ks vs=>some (ks.zip vs)
  | .ref r=>match S[r]? with | some (.dct ks vs)=>some (ks.zip vs) | _=>none
  | _=>none
theorem tabD_of {v:V} {d:D} {kvs:List (Key×D)} (s:SOk K μ S H) (r:Rep K μ H v d) (h:tabD S d=some kvs):∃ a vs,v=.ref a∧H a=some (.dK vs)∧KR K μ H vs kvs:=by
  cases r with
  | dct hd n rr=>cases h;exact ⟨_,_,rfl,hd,KR.of rfl rr⟩
  | ref hr=>
    rename_i a i
    unfold tabD at h
    dsimp only at h
    cases q:S[i]? with
    | none=>rw [q] at h;cases h
    | some c=>
      rw [q] at h
      have ck:=s.cell _ _ _ hr q
      cases c with
      | lst _=>cases h
      | dct ks xs=>cases h;obtain ⟨vs,e,hk,rr⟩:=ck;exact ⟨a,vs,rfl,e,KR.of hk rr⟩
  | _=>cases h
noncomputable def fIxX (S:qa0) (x y:D):Option D:=match tabD S x with
  | some kvs=>(qz0 y).bind fun k=>valD kvs k
  | none=>fIx S x y
theorem ix_dict (hu:X.A.units+1<cLine):IxR X (fun x y H Q=>∃ a v,x=.ref a∧DGet H a y (some v)∧Q v H):=by
  intro value slice pins s σ H x y v u Q I rx ry h hs
  obtain ⟨a,z,rfl,g,q⟩:=h
  cases rx
  exact tail_any (q64 I g) F.slot_dict_getitem.lookup (zx7 hu I g ry fun w' s' I' rw'=>⟨z,H,I',rw',q⟩) hs
theorem ix_DX (hu:X.A.units+1<cLine):IxR X (rM2 X.K fIxX):=IxR.imp ((ix_dict hu).or ix_D) fun x y H Q ⟨μ,S,dx,dy,dz,hS,h1,h2,h3,post⟩=>by
  unfold fIxX at h3
  split at h3
  · rename_i kvs hk
    obtain ⟨k,h4,h5⟩:=Option.bind_eq_some_iff.mp h3
    obtain ⟨a,vs,rfl,ha,rr⟩:=tabD_of hS h1 hk
    obtain ⟨v,h6,h7⟩:=rr.val h5
    refine .inl ⟨a,v,rfl,?_,post.here hS h7⟩
    rw [qX0 h4 h2,← h6]
    exact DGet.k ha
  · exact .inr ⟨μ,S,dx,dy,dz,hS,h1,h2,h3,post⟩
theorem de_ixX {a b:Expr} {ma mb:ME} {pos:Pos} (hu:X.A.units+1<cLine) (ha:DE X a ma) (hb:DE X b mb) (hs:q74 b:=by intro _ _;rfl):DE X (.Subscript a b pos) (mOp fIxX ma mb):=
  PE.imp (pe_ix (ix_DX hu) ha hb hs) fun _ _ _ h=>q82 h
end
end M
namespace L2
open PySem PySem.Spec PyProof.Rows
section
variable {X:Cx} {o e:Expr} {es:List Expr} {to:TE} {t:TA} {name:Str} {apos cpos:Pos} {id:String} {r:V→List V→Hp→VK→Prop}
noncomputable def tBD (r:V→List V→Hp→VK→Prop) (to:TE) (t:TA):TE:=fun σ H Q=>to σ H fun x H1=>(∃ p,x=.ref p∧IsD H1 p)∧t σ H1 fun xs H2=>r x xs H2 Q
theorem pe_bmD (slot:Slot "dict" name id) (hty:typeOf (.builtin id)=pure (.type "method_descriptor")) (hm:MtR X id r) (ho:PE X o to) (ha:PA X (e::es) t)
    (hbase:attributeBase o name X.env (eval o X.env)=eval o X.env)
    (hfew:((backTo cpos (starEach (e::es) X.env)).all (fun x=>!x.1)&&(backToKw cpos (keywordEach [] X.env)).all (fun x=>x.1.isSome)&&decide ((e::es).length+([]:List Keyword).length+(if ([]:List Keyword).isEmpty then 0 else 1)<30))=true)
    (hline:(apos.endLine == cpos.line)=true) (hs:starEach (e::es) X.env=(false,eval e X.env)::starEach es X.env) (hplain:(backTo cpos (starEach es X.env)).any (·.1)=false) :
    PE X (.Call (.Attribute o name apos) (e::es) [] cpos) (tBD r to t):=by
  intro pins s σ H Q I h
  refine wpAny_Call_method_late hbase hfew hline rfl (thn (ho pins s σ H _ I h) fun v s1 ⟨x,H1,I1,r1,ty,q1⟩=>?_)
  obtain ⟨p,rfl,hq⟩:=ty
  cases r1
  obtain ⟨t1,t2,_⟩:=isD_at I1 hq
  refine ⟨"dict",id,F.plainAttrs_dict,slot,hty,t1,t2,?_⟩
  have hA:=ha cpos pins s1 σ H1 _ I1 q1
  rw [hs] at hA ⊢
  refine Calls.callWith_builtin (by show (false||(backTo cpos (starEach es X.env)).any (·.1))=false;rw [hplain] <;> rfl) (Calls.evalArgs_plain ?_)
  exact thn hA fun us s2 ⟨vs,H2,I2,r2,q2⟩=>hm pins s2 σ H2 (V.ref p) vs _ us Q I2 (show RelV (V.ref p) (Value.ref p) from rfl) r2 q2
theorem zf4:MtR X "dict.update" (fun x xs H Q=>∃ a b kvs more,x=.ref a∧xs=[.ref b]∧a≠b∧H a=some (.dK kvs)∧H b=some (.dK more)∧kvs.length+more.length≤sizeLine∧Q .non (upd H a (.dK (qr9 kvs more)))):=by
  intro pins s σ H x xs v us Q I rx rv h
  obtain ⟨a,b,kvs,more,rfl,rfl,ne,ha,hb,hl,q⟩:=h
  cases rx
  obtain ⟨u,rfl,ru⟩:=rv.one
  cases ru
  obtain ⟨z,hd,vs,r0,dd⟩:=dk_of I.hok ha
  obtain ⟨z2,hd2,vs2,r2,dd2⟩:=dk_of I.hok hb
  have l1:=r0.length
  have l2:=r2.length
  refine call_meetsIn F.slot_dict_update dd.typeIs F.entry_dict_update (F.args_dict_update_2 _ _) (meets_dict_update (qi7 X.prog X.w) a b ne hd2) ⟨vs,vs2,dd,dd2,by omega,fun h' dd' _ hs=>?_⟩
  have hz:(qr9 kvs more).length≤sizeLine:=by
    have h1:=qp8 more kvs
    omega
  have he:∃ q,h'.get? a=some q:=let ⟨q,_,_,hq,_⟩:=dd';⟨q,hq⟩
  exact ⟨.non,_,zx6 I (by rw [ha];exact True.intro) hs he (dk_new hz hd (r2.merge r0) dd'),rfl,q⟩
end
end L2
namespace M
open PySem PySem.Spec PyProof.Rows L2
section
variable {X:Cx} {K:PySem.W.Frag} {μ μ':Fp} {H H':Hp} {S S':qa0}
theorem SOk.writeD {S:qa0} (s:SOk K μ S H) {i:Nat} {a:Addr} {kvs kvs':List (Key×V)} {ks:List Key} {ds:List D} (hi:μ.cs[i]?=some a) (h:H a=some (.dK kvs)) (hk:ks=kvs'.map (·.1)) (r:Reps K μ H (kvs'.map (·.2)) ds) :
    Ext μ H μ (upd H a (.dK kvs'))∧SOk K μ (S.set i (.dct ks ds)) (upd H a (.dK kvs')):=by
  have ha:=List.mem_of_getElem? hi
  have e:Ext μ H μ (upd H a (.dK kvs')):=⟨rfl,⟨[],by simp,fun _ z=>by simp at z⟩,fun b o' n q=>by rw [qb5 (by rintro rfl;exact n ha)];exact q,fun b hb=>by
    by_cases z:b=a
    · subst z;rw [qb4];simp
    · rw [qb5 z];exact s.dom b hb⟩
  refine ⟨e,s.nd,by simp [s.len],fun j b c h1 h2=>?_,fun b hb=>?_,s.disj⟩
  case refine_2=>
    by_cases z:b=a
    · subst z;rw [qb4];simp
    · rw [qb5 z];exact s.fdom b hb
  by_cases hj:j=i
  · subst hj
    rw [hi] at h1;cases h1
    have hl:j<S.length:=by rw [← s.len];exact (List.getElem?_eq_some_iff.mp hi).1
    rw [List.getElem?_set_self hl] at h2
    cases h2
    exact ⟨kvs',qb4,hk,r.mono e⟩
  · rw [List.getElem?_set_ne (Ne.symm hj)] at h2
    refine (s.cell j b c h1 h2).mono e (qb5 fun z=>hj ?_)
    subst z
    exact zm7 s.nd h1 hi
theorem q94 {p a:Addr} {cs fb:List Addr} (n:(⟨cs,p::fb⟩:Fp).no a):(⟨cs++[p],fb⟩:Fp).no a:=
  ⟨fun z=>(List.mem_append.mp z).elim n.1 fun z=>n.2 (by rw [List.mem_singleton.mp z];exact List.mem_cons_self),fun z=>n.2 (List.mem_cons_of_mem _ z)⟩
theorem Rep.adopt {p:Addr} {cs fb:List Addr} {v:V} {d:D} (r:Rep K ⟨cs,p::fb⟩ H v d):Rep K ⟨cs++[p],fb⟩ H v d:=r.imp (fun h n=>⟨h,q94 n⟩) fun h=>zd3 rfl h
theorem Reps.adopt {p:Addr} {cs fb:List Addr} {v:List V} {d:List D} (r:Reps K ⟨cs,p::fb⟩ H v d):Reps K ⟨cs++[p],fb⟩ H v d:=r.imp (fun h n=>⟨h,q94 n⟩) fun h=>zd3 rfl h
theorem KR.adopt {p:Addr} {cs fb:List Addr}:∀ {vs ds},KR K ⟨cs,p::fb⟩ H vs ds→KR K ⟨cs++[p],fb⟩ H vs ds
  | _,_,.nil=>.nil
  | _,_,.cons h t=>.cons h.adopt (KR.adopt t)
theorem Ext.shutR {p:Addr} {o:HO} {cs fb:List Addr} {μ2:Fp} {H2:Hp} {S2:qa0} {vs:List (Key×V)} {kvs:List (Key×D)} (hp:H p=none) (hn:p ∉ fb) (e:Ext ⟨cs,p::fb⟩ (upd H p o) μ2 H2) (s:SOk K μ2 S2 H2) (r:KR K μ2 H2 vs kvs) :
    Ext ⟨cs,fb⟩ H ⟨μ2.cs++[p],fb⟩ (upd H2 p (.dK vs))∧SOk K ⟨μ2.cs++[p],fb⟩ (S2++[.dct (kvs.map (·.1)) (kvs.map (·.2))]) (upd H2 p (.dK vs))∧H2 p=some o:=by
  have pm:p ∈ μ2.fb:=by rw [e.fb];exact List.mem_cons_self
  have ncs:p ∉ μ2.cs:=s.disj p pm
  have ncs0:p ∉ cs:=fun z=>ncs (by obtain ⟨l,q,_⟩:=e.pre;rw [q];exact List.mem_append_left _ z)
  have ef:μ2.fb=p::fb:=e.fb
  obtain ⟨cs2,fb2⟩:=μ2
  simp only at ef pm ncs
  subst ef
  refine ⟨⟨rfl,?_,fun a o2 na ha=>?_,fun a ha=>?_⟩,⟨?_,by simp [s.len],fun i a c h1 h2=>?_,fun a ha=>?_,fun a ha z=>?_⟩,e.keep p o ncs0 qb4⟩
  · obtain ⟨l,q,hl⟩:=e.pre
    simp only at q
    refine ⟨l++[p],by rw [q,List.append_assoc],fun a ha=>?_⟩
    rcases List.mem_append.mp ha with ha | ha
    · have:=hl a ha
      by_cases z:a=p
      · subst z;exact hp
      · rwa [qb5 z] at this
    · rw [List.mem_singleton.mp ha];exact hp
  · have z:=qe6 ha hp
    rw [qb5 z]
    exact e.keep a o2 na ((qb5 z).trans ha)
  · by_cases z:a=p
    · subst z;rw [qb4];simp
    · rw [qb5 z]
      rcases List.mem_append.mp ha with ha | ha
      · exact e.dom a ha
      · exact absurd (List.mem_singleton.mp ha) z
  · exact List.nodup_append.mpr ⟨s.nd,by simp,fun a ha b hb=>by rw [List.mem_singleton.mp hb];exact fun z=>ncs (z ▸ ha)⟩
  · have sc:=s.chg (o:=.dK vs) pm
    by_cases hi:i<cs2.length
    · rw [List.getElem?_append_left hi] at h1
      rw [List.getElem?_append_left (by rw [← s.len];exact hi)] at h2
      have ck:=sc.cell i a c h1 h2
      cases c with
      | lst ds=>obtain ⟨ws,h,r⟩:=ck;exact ⟨ws,h,r.adopt⟩
      | dct ks ds=>obtain ⟨ws,h,q,r⟩:=ck;exact ⟨ws,h,q,r.adopt⟩
    · have hi':i=cs2.length:=by
        have:=(List.getElem?_eq_some_iff.mp h1).1
        simp at this;omega
      subst hi'
      rw [List.getElem?_append_right (Nat.le_refl _)] at h1
      rw [show cs2.length=S2.length from s.len,List.getElem?_append_right (Nat.le_refl _)] at h2
      simp at h1 h2
      subst h1 h2
      have rc:=(r.chg (o:=.dK vs) pm).adopt
      exact ⟨vs,qb4,rc.keys.symm,rc.reps⟩
  · by_cases z:a=p
    · subst z;rw [qb4];simp
    · rw [qb5 z];exact s.fdom a (List.mem_cons_of_mem _ ha)
  · rcases List.mem_append.mp z with z | z
    · exact s.disj a (List.mem_cons_of_mem _ ha) z
    · exact hn (List.mem_singleton.mp z ▸ ha)
noncomputable def mDictR (ms:List (ME×ME)):ME:=fun env S=>(qt9 ms env S).bind fun z=>if z.1.length≤15 then some (.ref z.2.length,z.2++[.dct ((qh3 [] z.1).map (·.1)) ((qh3 [] z.1).map (·.2))]) else none
theorem de_dispR {pos:Pos} {keys:List (Option Expr)} {values:List Expr} {ms:List (ME×ME)} (h:DPs X pos keys values ms) (hall:keys.all (·.isSome)=true) (hl:keys.length=values.length) (h0:keys≠[]) (h15:keys.length≤15) :
    DE X (.Dict keys values pos) (mDictR ms):=PE.imp (zl5 h hall hl h0 h15) fun σ H Q ⟨μ,S,env,d,S',hS,hE,hm,post⟩=>by
  obtain ⟨⟨kvs,S1⟩,h1,hm⟩:=Option.bind_eq_some_iff.mp hm
  dsimp only at hm
  split at hm
  · rename_i hl
    cases hm
    intro p hp
    obtain ⟨cs,fb⟩:=μ
    refine qC8 (hS.more hp) (hE.more hp) h1 fun vs H2 μ2 e2 s2 r2=>?_
    obtain ⟨eF,sF,hF⟩:=Ext.shutR hp (hS.notMem hp).2 e2 s2 (r2.merge KR.nil)
    exact ⟨hF,vs,rfl,by rw [r2.length];exact hl,post _ _ _ eF sF (.ref (by rw [← s2.len];simp))⟩
  · cases hm
noncomputable def dctB (S:qa0):D→Bool
  | .dct _ _=>true
  | .ref r=>match S[r]? with | some (.dct _ _)=>true | _=>false
  | _=>false
theorem dctB_of {v:V} {d:D} (s:SOk K μ S H) (r:Rep K μ H v d) (h:dctB S d=true):∃ a,v=.ref a∧IsD H a:=by
  cases r with
  | dct hd n rr=>exact ⟨_,rfl,.inl ⟨_,.inl hd⟩⟩
  | ref hr=>
    rename_i a i
    unfold dctB at h
    dsimp only at h
    cases q:S[i]? with
    | none=>rw [q] at h;cases h
    | some c=>
      rw [q] at h
      have ck:=s.cell _ _ _ hr q
      cases c with
      | lst _=>cases h
      | dct ks xs=>obtain ⟨vs,e,hk,rr⟩:=ck;exact ⟨a,rfl,.inl ⟨_,.inl e⟩⟩
  | _=>cases h
noncomputable def fGetD:MF:=fun o ds S=>(tabD S o).bind fun kvs=>match ds with
  | [y]=>(qz0 y).bind fun k=>some ((valD kvs k).getD .non,S)
  | [y,d]=>(qz0 y).bind fun k=>some ((valD kvs k).getD d,S)
  | _=>none
noncomputable def q56:MF:=fun o ds S=>match o,ds with
  | .ref r,[.dct ks2 vs2]=>match S[r]? with
    | some (.dct ks vs)=>if ks.length+ks2.length≤sizeLine then some (.non,S.set r (.dct ((qh3 (ks.zip vs) (ks2.zip vs2)).map (·.1)) ((qh3 (ks.zip vs) (ks2.zip vs2)).map (·.2)))) else none
    | _=>none
  | _,_=>none
theorem mt_UpdD:MtR X "dict.update" (rMM X.K q56):=MtR.imp zf4 fun x vs H Q ⟨μ,S,dx,ds,d,S',hS,r1,r2,h,post⟩=>by
  unfold q56 at h
  split at h
  · rename_i r ks2 vs2
    cases q:S[r]? with
    | none=>rw [q] at h;cases h
    | some c=>
      rw [q] at h
      cases c with
      | lst _=>cases h
      | dct ks xs=>
        dsimp only at h
        split at h
        · rename_i hz
          cases h
          obtain ⟨v,rfl,rv⟩:=r2.one
          cases r1 with
          | @ref a _ h'=>
            obtain ⟨kvs,hw,hk,rw'⟩:=hS.cell r a _ h' q
            cases rv with
            | @dct b more _ hb nb rb=>
              have k1:=KR.of hk rw'
              have k2:=KR.of rfl rb
              have kk:=k2.merge k1
              obtain ⟨e,s'⟩:=hS.writeD h' hw (kvs':=qr9 kvs more) (ks:=(qh3 (ks.zip xs) ((more.map (·.1)).zip vs2)).map (·.1)) kk.keys.symm kk.reps
              refine ⟨a,b,kvs,more,rfl,rfl,fun z=>nb.1 (z ▸ List.mem_of_getElem? h'),hw,hb,?_,post _ _ μ e s' .non⟩
              rw [hk,List.length_map,List.length_map] at hz
              exact hz
        · cases h
  · cases h
noncomputable def mMethD (f:MF) (o:ME) (ms:MA):ME:=fun env S=>(o env S).bind fun p=>if dctB p.2 p.1=true then (ms env p.2).bind fun q=>f p.1 q.1 q.2 else none
theorem de_methD {o e:Expr} {es:List Expr} {mo:ME} {ms:MA} {f:MF} {name:Str} {id:String} {apos cpos:Pos} (slot:Slot "dict" name id) (hty:typeOf (.builtin id)=pure (.type "method_descriptor")) (hm:MtR X id (rMM X.K f)) (ho:DE X o mo) (ha:DA X (e::es) ms)
    (hbase:attributeBase o name X.env (eval o X.env)=eval o X.env)
    (hfew:((backTo cpos (starEach (e::es) X.env)).all (fun x=>!x.1)&&(backToKw cpos (keywordEach [] X.env)).all (fun x=>x.1.isSome)&&decide ((e::es).length+([]:List Keyword).length+(if ([]:List Keyword).isEmpty then 0 else 1)<30))=true)
    (hline:(apos.endLine == cpos.line)=true) (hs:starEach (e::es) X.env=(false,eval e X.env)::starEach es X.env) (hpl:(backTo cpos (starEach es X.env)).any (·.1)=false) :
    DE X (.Call (.Attribute o name apos) (e::es) [] cpos) (mMethD f mo ms):=
  PE.imp (pe_bmD slot hty hm ho ha hbase hfew hline hs hpl) fun σ H Q ⟨μ,S,env,d,S',hS,hE,h,post⟩=>by
    obtain ⟨⟨x,S1⟩,h1,h⟩:=Option.bind_eq_some_iff.mp h
    dsimp only at h
    split at h
    · rename_i hl
      obtain ⟨⟨xs,S2⟩,h2,h⟩:=Option.bind_eq_some_iff.mp h
      refine ⟨μ,S,env,x,S1,hS,hE,h1,fun v H1 μ1 e1 s1 r1=>⟨?_,μ1,S1,env,xs,S2,s1,hE.mono e1,h2,fun vs H2 μ2 e2 s2 r2=>⟨μ2,S2,x,xs,d,S',s2,r1.mono e2,r2,h,(post.ext e1).ext e2⟩⟩⟩
      exact dctB_of s1 r1 hl
    · cases h
end
end M
namespace L2
open PySem PySem.Spec PyProof.Rows
section
variable {X:Cx} {a b:Expr} {rest:List Expr} {ta tb:TE} {pos:Pos}
noncomputable def tAndX (K:PySem.W.Frag) (ta tb:TE):TE:=fun σ H Q=>ta σ H fun x H1=>∃ c,TruV K x H1 c∧if c=true then tb σ H1 Q else Q x H1
noncomputable def tOrX (K:PySem.W.Frag) (ta tb:TE):TE:=fun σ H Q=>ta σ H fun x H1=>∃ c,TruV K x H1 c∧if c=true then Q x H1 else tb σ H1 Q
noncomputable def tNotX (K:PySem.W.Frag) (ta:TE):TE:=fun σ H Q=>ta σ H fun x H1=>∃ c,TruV K x H1 c∧Q (.bl (!c)) H1
theorem pe_andX (ha:PE X a ta) (hb:PE X (.BoolOp .And (b::rest) pos) tb):PE X (.BoolOp .And (a::b::rest) pos) (tAndX X.K ta tb):=by
  intro pins s σ H Q I h
  refine BoolOp_and (thn (ha pins s σ H _ I h) fun v s1 ⟨x,H1,I1,r1,q1⟩=>?_)
  obtain ⟨c,tv,q1⟩:=q1
  refine thn (q80 pins s1 σ H1 x v (fun k H'=>k=c∧H'=H1) I1 r1 ⟨c,tv,rfl,rfl⟩) fun k s2 z=>?_
  obtain ⟨H2,I2,rfl,rfl⟩:=z
  cases k with
  | true=>exact hb pins s2 σ H2 Q I2 q1
  | false=>exact ⟨x,H2,I2,r1,q1⟩
theorem pe_orX (ha:PE X a ta) (hb:PE X (.BoolOp .Or (b::rest) pos) tb):PE X (.BoolOp .Or (a::b::rest) pos) (tOrX X.K ta tb):=by
  intro pins s σ H Q I h
  refine BoolOp_or (thn (ha pins s σ H _ I h) fun v s1 ⟨x,H1,I1,r1,q1⟩=>?_)
  obtain ⟨c,tv,q1⟩:=q1
  refine thn (q80 pins s1 σ H1 x v (fun k H'=>k=c∧H'=H1) I1 r1 ⟨c,tv,rfl,rfl⟩) fun k s2 z=>?_
  obtain ⟨H2,I2,rfl,rfl⟩:=z
  cases k with
  | false=>exact hb pins s2 σ H2 Q I2 q1
  | true=>exact ⟨x,H2,I2,r1,q1⟩
theorem pe_notX (ha:PE X a ta):PE X (.UnaryOp .Not a pos) (tNotX X.K ta):=by
  intro pins s σ H Q I h
  refine UnaryOp_ (thn (ha pins s σ H _ I h) fun v s1 ⟨x,H1,I1,r1,q1⟩=>?_)
  obtain ⟨c,tv,q1⟩:=q1
  refine not_of (thn (q80 pins s1 σ H1 x v (fun k H'=>k=c∧H'=H1) I1 r1 ⟨c,tv,rfl,rfl⟩) fun k s2 z=>?_)
  obtain ⟨H2,I2,rfl,rfl⟩:=z
  exact ⟨.bl (!k),H2,I2,rfl,q1⟩
end
end L2
namespace M
open PySem PySem.Spec PyProof.Rows L2
section
variable {X:Cx} {K:PySem.W.Frag} {μ μ':Fp} {H H':Hp} {S S':qa0} {a b:Expr} {ma mb:ME} {rest:List Expr} {pos:Pos}
noncomputable def mAndX (a b:ME):ME:=fun env S=>(a env S).bind fun p=>(truD p.2 p.1).bind fun k=>if k=true then b env p.2 else some (p.1,p.2)
noncomputable def mOrX (a b:ME):ME:=fun env S=>(a env S).bind fun p=>(truD p.2 p.1).bind fun k=>if k=true then some (p.1,p.2) else b env p.2
noncomputable def mNotX (a:ME):ME:=fun env S=>(a env S).bind fun p=>(truD p.2 p.1).bind fun k=>some (.bl (!k),p.2)
theorem de_andX (ha:DE X a ma) (hb:DE X (.BoolOp .And (b::rest) pos) mb):DE X (.BoolOp .And (a::b::rest) pos) (mAndX ma mb):=PE.imp (pe_andX ha hb) fun σ H Q ⟨μ,S,env,d,S',hS,hE,hm,post⟩=>by
  obtain ⟨⟨x,S1⟩,h1,hm⟩:=Option.bind_eq_some_iff.mp hm
  obtain ⟨k,h2,hm⟩:=Option.bind_eq_some_iff.mp hm
  refine ⟨μ,S,env,x,S1,hS,hE,h1,fun v H1 μ1 e1 s1 r1=>⟨k,qM9 s1 r1 h2,?_⟩⟩
  cases k with
  | true=>rw [if_pos rfl];exact ⟨μ1,S1,env,d,S',s1,hE.mono e1,hm,post.ext e1⟩
  | false=>cases hm;rw [if_neg Bool.false_ne_true];exact post _ H1 μ1 e1 s1 r1
theorem de_orX (ha:DE X a ma) (hb:DE X (.BoolOp .Or (b::rest) pos) mb):DE X (.BoolOp .Or (a::b::rest) pos) (mOrX ma mb):=PE.imp (pe_orX ha hb) fun σ H Q ⟨μ,S,env,d,S',hS,hE,hm,post⟩=>by
  obtain ⟨⟨x,S1⟩,h1,hm⟩:=Option.bind_eq_some_iff.mp hm
  obtain ⟨k,h2,hm⟩:=Option.bind_eq_some_iff.mp hm
  refine ⟨μ,S,env,x,S1,hS,hE,h1,fun v H1 μ1 e1 s1 r1=>⟨k,qM9 s1 r1 h2,?_⟩⟩
  cases k with
  | false=>rw [if_neg Bool.false_ne_true];exact ⟨μ1,S1,env,d,S',s1,hE.mono e1,hm,post.ext e1⟩
  | true=>cases hm;rw [if_pos rfl];exact post _ H1 μ1 e1 s1 r1
theorem de_notX (ha:DE X a ma):DE X (.UnaryOp .Not a pos) (mNotX ma):=PE.imp (pe_notX ha) fun σ H Q ⟨μ,S,env,d,S',hS,hE,hm,post⟩=>by
  obtain ⟨⟨x,S1⟩,h1,hm⟩:=Option.bind_eq_some_iff.mp hm
  obtain ⟨k,h2,hm⟩:=Option.bind_eq_some_iff.mp hm
  cases hm
  exact ⟨μ,S,env,x,_,hS,hE,h1,fun v H1 μ1 e1 s1 r1=>⟨k,qM9 s1 r1 h2,post _ H1 μ1 e1 s1 (.bl _)⟩⟩
end
end M
namespace M
open PySem PySem.Spec PyProof.Rows L2
section
variable {X:Cx} {K:PySem.W.Frag} {μ μ':Fp} {H H':Hp} {S S':qa0} {tg iter:Expr} {pos:Pos}
noncomputable def qm6 (g:MG) (body:MS) (r:Nat):Nat→Nat→MEnv→qa0→Option Out
  | 0,_,_,_=>none
  | f+1,i,env,S=>match S[r]? with
    | some (.lst xs)=>match xs[i]? with
      | none=>some (.nx env S)
      | some d=>(g d env S).bind fun p=>(body p.1 p.2).bind fun o=>match o with
        | .nx e s=>qm6 g body r f (i+1) e s
        | .ct e s=>qm6 g body r f (i+1) e s
        | .bk e s=>some (.nx e s)
        | .rt d s=>some (.rt d s)
    | _=>none
noncomputable def mForD (m:ME) (g:MG) (body:MS):MS:=fun env S=>(m env S).bind fun p=>match p.1 with
  | .ref r=>qm6 g body r 2000 0 env p.2
  | .lst xs=>qk6 g body xs env p.2
  | .rol xs=>qk6 g body xs env p.2
  | .tup xs=>qk6 g body xs env p.2
  | _=>none
noncomputable def mForX (m:ME) (g:MG) (body:MS):MS:=fun env S=>(m env S).bind fun p=>match p.1 with
  | .ref r=>qm6 g body r 2000 0 env p.2
  | _=>none
theorem ds_forX {body:List Stmt} {mi:ME} {g:MG} {mb:MS} (hp:PassesOwn (model X.prog X.w) X.A X.env X.xe) (hc:X.calm=true) (hi:DE X iter mi) (hg:DG X tg g) (hb:DSs X body mb)
    (hs:∀ x,foldedSetIterable iter X.env x=pure x):DS X (.For tg iter body [] pos) (mForX mi g mb):=PS.imp (ps_for hp hc (q18 hi) hg hb hs) fun E σ H ⟨μ,S,env,o,hS,hE,hm,post⟩=>by
  obtain ⟨⟨d,S1⟩,h1,hm⟩:=Option.bind_eq_some_iff.mp hm
  dsimp only at hm
  split at hm
  · rename_i r
    refine ⟨μ,S,env,_,S1,hS,hE,h1,fun v H1 μ1 e1 s1 r1=>?_⟩
    cases r1 with
    | @ref a _ ha=>
      have cell:∀ {μ' H' S' xs},Ext μ1 H1 μ' H'→SOk X.K μ' S' H'→S'[r]?=some (.lst xs)→∃ vs,H' a=some (.lst vs)∧Reps X.K μ' H' vs xs:=fun {μ' H' S' xs} e s q=>by
        obtain ⟨l,ql,_⟩:=e.pre
        have ha':μ'.cs[r]?=some a:=by rw [ql,List.getElem?_append_left (List.getElem?_eq_some_iff.mp ha).1];exact ha
        exact s.cell r a _ ha' q
      have hq0:∃ vs,SqL X.K H1 a vs:=by
        unfold qm6 at hm
        split at hm
        · rename_i xs q
          obtain ⟨vs,hv,_⟩:=cell s1.ext s1 q
          exact ⟨vs,.inl (.inl hv)⟩
        · cases hm
      refine ⟨a,rfl,hq0,?_⟩
      refine ⟨fun i n σ H=>∃ μ' S' env' o',Ext μ1 H1 μ' H∧SOk X.K μ' S' H∧EOk X.K μ' H σ env'∧qm6 g mb r n i env' S'=some o'∧PostS X.K μ' H o' E,
        ⟨2000,μ1,S1,env,o,s1.ext,s1,hE.mono e1,hm,post.ext e1⟩,?_⟩
      rintro i n σ' H' ⟨μ',S',env',o',e',s',r',hl,post'⟩
      cases n with
      | zero=>cases hl
      | succ n=>
        unfold qm6 at hl
        split at hl
        · rename_i xs q
          obtain ⟨vs,hv,rv⟩:=cell e' s' q
          have hsq:SqL X.K H' a vs:=.inl (.inl hv)
          split at hl
          · rename_i hx
            cases hl
            refine .inl ⟨⟨vs,hsq,?_⟩,post' σ' H' μ' s'.ext s' r'⟩
            rw [rv.length];simpa using hx
          · rename_i d hx
            obtain ⟨w,hw,rw0⟩:=rv.get hx
            refine .inr ⟨⟨vs,w,hsq,hw⟩,fun σ2 H2=>∃ μ2 S2 env2 o2,Ext μ1 H1 μ2 H2∧SOk X.K μ2 S2 H2∧EOk X.K μ2 H2 σ2 env2∧qm6 g mb r n (i+1) env2 S2=some o2∧PostS X.K μ2 H2 o2 E,
              fun σ2 H2 ⟨μ2,S2,env2,o2,q1,q2,q3,q4,q5⟩=>⟨n,by omega,μ2,S2,env2,o2,q1,q2,q3,q4,q5⟩,fun x H2 y=>?_⟩
            obtain ⟨e2,hy⟩:=y
            subst e2
            have ex:x=w:=by have:=hy vs hsq;rw [hw] at this;exact (Option.some.inj this).symm
            subst ex
            obtain ⟨⟨env3,S3⟩,h3,hl⟩:=Option.bind_eq_some_iff.mp hl
            obtain ⟨o4,h4,hl⟩:=Option.bind_eq_some_iff.mp hl
            refine ⟨μ',S',env',d,env3,S3,s',r',rw0,h3,fun σ3 H3 μ3 e3 s3 r3=>⟨μ3,S3,env3,o4,s3,r3,h4,?_⟩⟩
            have eT:Ext μ1 H1 μ3 H3:=e'.trans e3
            have pT:PostS X.K μ3 H3 o' E:=post'.ext e3
            cases o4 with
            | nx e5 s5=>exact fun σ6 H6 μ6 e6 s6 r6=>⟨μ6,s5,e5,o',eT.trans e6,s6,r6,hl,pT.ext e6⟩
            | ct e5 s5=>exact fun σ6 H6 μ6 e6 s6 r6=>⟨μ6,s5,e5,o',eT.trans e6,s6,r6,hl,pT.ext e6⟩
            | bk e5 s5=>cases hl;exact pT
            | rt d5 s5=>cases hl;exact pT
        · cases hl
  · cases hm
theorem ds_forD {body:List Stmt} {mi:ME} {g:MG} {mb:MS} (hp:PassesOwn (model X.prog X.w) X.A X.env X.xe) (hc:X.calm=true) (hi:DE X iter mi) (hg:DG X tg g) (hb:DSs X body mb)
    (hs:∀ x,foldedSetIterable iter X.env x=pure x):DS X (.For tg iter body [] pos) (mForD mi g mb):=by
  have hA:=ds_forX (pos:=pos) hp hc hi hg hb hs
  have hB:=ds_for (pos:=pos) hp hc (di_seq (tg:=tg) hi) hg hb hs
  intro pins s σ H E I ⟨μ,S,env,o,hS,hE,h,post⟩
  obtain ⟨⟨x,S1⟩,h1,h⟩:=Option.bind_eq_some_iff.mp h
  cases x with
  | ref r=>exact hA pins s σ H E I ⟨μ,S,env,o,hS,hE,by show (mi env S).bind _=_;rw [h1];exact h,post⟩
  | lst xs=>exact hB pins s σ H E I ⟨μ,S,env,o,hS,hE,by show ((mi env S).bind _).bind _=_;rw [h1];exact h,post⟩
  | rol xs=>exact hB pins s σ H E I ⟨μ,S,env,o,hS,hE,by show ((mi env S).bind _).bind _=_;rw [h1];exact h,post⟩
  | tup xs=>exact hB pins s σ H E I ⟨μ,S,env,o,hS,hE,by show ((mi env S).bind _).bind _=_;rw [h1];exact h,post⟩
  | _=>cases h
end
end M
namespace L2
open PySem PySem.Spec PyProof.Rows
section
variable {X:Cx} {pos:Pos}
theorem qL4:∀ {ns:List Int} {us:List Value},Vals (ns.map V.int) us→∃ xs:List (Int×Tok),us=xs.map (fun p=>Value.int p.1 p.2)∧xs.map (·.1)=ns
  | [],_,.nil=>⟨[],rfl,rfl⟩
  | n::ns,_,.cons ⟨t,e⟩ r=>by
    subst e
    obtain ⟨xs,e1,e2⟩:=qL4 r
    exact ⟨(n,t)::xs,by rw [e1];rfl,by rw [List.map_cons,e2]⟩
theorem zy4 (hc:X.calm=true):CallR X (.builtin "max") (fun xs H Q=>∃ p ns,xs=[.ref p]∧SqL X.K H p (ns.map V.int)∧ns≠[]∧∀ m,m∈ns→(∀ a∈ns,a≤m)→Q (.int m) H):=by
  intro pins s σ H xs us Q I r h
  obtain ⟨p,ns,rfl,hq,h0,q⟩:=h
  obtain ⟨u,rfl,rx⟩:=qR0 r
  cases rx
  obtain ⟨its,rv,pl,hz⟩:=I.list hq
  obtain ⟨ps,e1,e2⟩:=qL4 rv
  have hl:s.heap.IsList p (intItems ps.toArray):=by
    have:=pl.isList
    rw [e1] at this
    have e:intItems ps.toArray=(ps.map (fun p=>Value.int p.1 p.2)).toArray:=by simp [intItems]
    rw [e];exact this
  have hp:0<ps.toArray.size:=by
    rw [List.size_toArray]
    cases ps with
    | nil=>exact absurd e2.symm h0
    | cons _ _=>simp
  refine max_intList (I.ok.hd hc) hl hp fun v h' tk hv kk=>?_
  obtain ⟨g1,g2⟩:=argBest_gt (numAt ps.toArray) (ps.toArray.size - 1)
  generalize argBest (fun i j=>decide (numAt ps.toArray i>numAt ps.toArray j)) (ps.toArray.size - 1)=b at hv g1 g2
  have hb:b<ps.length:=by rw [List.size_toArray] at g1 hp;omega
  have nb:∀ j (hj:j<ps.length),numAt ps.toArray j=ps[j].1:=fun j hj=>by
    simp [numAt,hj]
  have ev:v=Value.int ps[b].1 ps[b].2:=by
    simp [intItems,hb] at hv
    exact hv.symm
  subst ev
  refine ⟨.int ps[b].1,H,I.kept kk,⟨_,rfl⟩,q _ ?_ fun a ha=>?_⟩
  · rw [← e2];exact List.mem_map.mpr ⟨_,List.getElem_mem hb,rfl⟩
  · rw [← e2] at ha
    obtain ⟨x,hx,rfl⟩:=List.mem_map.mp ha
    obtain ⟨j,hj,rfl⟩:=List.mem_iff_getElem.mp hx
    have:=g2 j (by rw [List.size_toArray];omega)
    rw [nb j hj,nb b hb] at this
    exact this
theorem qJ5:∀ (l:List Value) (lo:Nat),(∀ (j:Nat) (v:Value),l[j]?=some v→∃ t,v=.int ((lo+j:Nat):Int) t)→Vals ((List.range' lo l.length).map fun (i:Nat)=>V.int (i:Int)) l
  | [],_,_=>.nil
  | v::r,lo,h=>by
    rw [List.length_cons,List.range'_succ,List.map_cons]
    obtain ⟨t,e⟩:=h 0 v rfl
    refine .cons ⟨t,by simpa using e⟩ (qJ5 r (lo+1) fun j w hw=>?_)
    obtain ⟨t,e⟩:=h (j+1) w (by simpa using hw)
    exact ⟨t,by rw [e];congr 2;omega⟩
noncomputable def qJ8 (n:Nat):List V:=(List.range n).map fun (i:Nat)=>V.int (i:Int)
theorem qT6 {a:Expr} {ta:TA} {p p2 pos pos2:Pos} (hc:X.calm=true) (hm:X.mg "list" = none) (hm2:X.mg "range" = none) (hg:Gl X "list") (hg2:Gl X "range") (ha:PA X [a] ta) (hs:starEach [a] X.env=[(false,eval a X.env)]) :
    PE X (.Call (.Name "list" p) [.Call (.Name "range" p2) [a] [] pos2] [] pos) (fun σ H Q=>ta σ H fun vs H1=>∃ j:Int,vs=[.int j]∧0≤j∧j≤1000∧∀ q,H1 q=none→Q (.ref q) (upd H1 q (.lst (qJ8 j.toNat)))):=by
  intro pins s σ H Q I h
  refine Call_ (qx1 I hg hm boot_list (PyProof.Rows.callWith_type1 (Calls.spliced_cons ?_) rfl rfl))
  refine Call_ (qx1 I hg2 hm2 boot_range (PyProof.Rows.callWith_type1 (thn (ha pos2 pins s σ H _ I h) fun us s1 ⟨vs,H1,I1,r1,q1⟩=>?_) hs rfl))
  obtain ⟨j,rfl,j0,j1,q⟩:=q1
  obtain ⟨u,rfl,ru⟩:=r1.one
  obtain ⟨t,rfl⟩:=ru
  refine call_range_1 (Calls.spliced_nil ?_)
  have I2:Inv X pins σ H1 { s1 with heap:=s1.heap.push { cls:=.type "range",data:=.fields #[.int 0 s1.toks,.int j t,.int 1 (s1.toks+1)] },toks:=s1.toks+1+1 }:=I1.kept fun b o e=>Heap.get?_push_of_some _ e
  have hz:(s1.heap.push { cls:=.type "range",data:=.fields #[.int 0 s1.toks,.int j t,.int 1 (s1.toks+1)] }).objs.size=s1.heap.objs.size+1:=Heap.size_push ..
  refine call_list_range (n:=j.toNat) (I1.ok.hd hc) (IsRange.new ..) (small_one (by decide) (by decide) (by omega) (by omega)) (by rw [rangeSize_one];split <;> omega) (by omega) fun h' tk acc c' kk hn it=>?_
  obtain ⟨i1,i2⟩:=it
  have fr:H1 (s1.heap.objs.size+1)=none:=I1.hok.fresh (Nat.le_succ _)
  dsimp only at hn ⊢
  rw [hz] at hn ⊢
  refine ⟨.ref _,_,I2.laid (t':=tk) (a:=s1.heap.objs.size+1) (o:=.lst (qJ8 j.toNat)) kk (by show _≤s1.heap.objs.size+1;rw [hz];exact Nat.le_refl _) ⟨?_,acc.toList,c',?_,?_⟩,rfl,q _ fr⟩
  · simp [qJ8];rw [sizeLine_eq];omega
  · have:=qJ5 acc.toList 0 (fun j v hv=>by
      obtain ⟨t,e⟩:=i2 j v (by simpa using hv)
      exact ⟨t,by rw [e];congr 1;omega⟩)
    rw [Array.length_toList,i1] at this
    rw [qJ8,List.range_eq_range']
    exact this
  · simpa using hn
end
end L2
namespace M
open PySem PySem.Spec PyProof.Rows L2
section
variable {X:Cx} {K:PySem.W.Frag} {μ μ':Fp} {H H':Hp} {S S':qa0} {pos:Pos}
noncomputable def qB5 (S:qa0):D→Option (List D)
  | .lst xs=>some xs
  | .ref r=>match S[r]? with | some (.lst xs)=>some xs | _=>none
  | _=>none
theorem qx0 {v:V} {d:D} {ds:List D} (s:SOk K μ S H) (r:Rep K μ H v d) (h:qB5 S d=some ds):∃ a vs,v=.ref a∧H a=some (.lst vs)∧Reps K μ H vs ds:=by
  cases r with
  | lst hd n rr=>cases h;exact ⟨_,_,rfl,hd,rr⟩
  | ref hr=>
    rename_i a i
    unfold qB5 at h
    dsimp only at h
    cases q:S[i]? with
    | none=>rw [q] at h;cases h
    | some c=>
      rw [q] at h
      have ck:=s.cell _ _ _ hr q
      cases c with
      | lst xs=>cases h;obtain ⟨vs,e,rr⟩:=ck;exact ⟨a,vs,rfl,e,rr⟩
      | dct ks xs=>cases h
  | _=>cases h
noncomputable def zb6:D→Bool
  | .ref _=>true
  | _=>false
noncomputable def qc7 (S:qa0) (x y:D):Option D:=if zb6 x||zb6 y then (qB5 S x).bind fun xs=>(qB5 S y).bind fun ys=>if xs.length+ys.length≤sizeLine then some (.lst (xs++ys)) else none else fAdd S x y
theorem op_AddX:OpR X (binaryOp .Add) (rM2 X.K qc7):=OpR.imp (OpR.or zl9 op_Add) fun x y H Q ⟨μ,S,dx,dy,dz,hS,h1,h2,h3,post⟩=>by
  unfold qc7 at h3
  split at h3
  · obtain ⟨xs,e1,h3⟩:=Option.bind_eq_some_iff.mp h3
    obtain ⟨ys,e2,h3⟩:=Option.bind_eq_some_iff.mp h3
    split at h3
    · rename_i hl
      cases h3
      obtain ⟨a,vs,rfl,q1,r1⟩:=qx0 hS h1 e1
      obtain ⟨b,ws,rfl,q2,r2⟩:=qx0 hS h2 e2
      have l1:=r1.length
      have l2:=r2.length
      exact .inl ⟨a,b,vs,ws,rfl,rfl,q1,q2,by omega,fun p hp=>post.lst hS hp (r1.append r2)⟩
    · cases h3
  · exact .inr ⟨μ,S,dx,dy,dz,hS,h1,h2,h3,post⟩
noncomputable def maxL:List Int→Int
  | []=>0
  | [a]=>a
  | a::r=>max a (maxL r)
theorem qW1:∀ {ns:List Int},ns≠[]→maxL ns∈ns∧∀ a∈ns,a≤maxL ns
  | [a],_=>⟨by simp [maxL],fun b hb=>by simp at hb;simp [maxL,hb]⟩
  | a::b::r,_=>by
    obtain ⟨h1,h2⟩:=qW1 (ns:=b::r) (by simp)
    show max a (maxL (b::r))∈_∧∀ c∈_,c≤max a (maxL (b::r))
    generalize maxL (b::r)=m at h1 h2
    refine ⟨?_,fun c hc=>?_⟩
    · by_cases h:m≤a
      · rw [Int.max_eq_left h];exact List.mem_cons_self
      · rw [Int.max_eq_right (by omega)];exact List.mem_cons_of_mem _ h1
    · rcases List.mem_cons.mp hc with rfl | hc
      · exact Int.le_max_left _ _
      · exact Int.le_trans (h2 c hc) (Int.le_max_right _ _)
theorem q38 {ns:List Int} {m:Int} (h0:ns≠[]) (h1:m∈ns) (h2:∀ a∈ns,a≤m):m=maxL ns:=by
  obtain ⟨g1,g2⟩:=qW1 h0
  have:=h2 _ g1
  have:=g2 _ h1
  omega
noncomputable def qB6 (S:qa0):List D→Option D
  | [d]=>(qY1 S d).bind fun ns=>if ns.isEmpty then none else some (.int (maxL ns))
  | ds=>fMax2 S ds
theorem CallR.or {f:Value} {r r':List V→Hp→VK→Prop} (h:CallR X f r) (h':CallR X f r'):CallR X f (fun xs H Q=>r xs H Q∨r' xs H Q):=by
  intro pins s σ H xs us Q I rv q
  rcases q with q | q
  · exact h pins s σ H xs us Q I rv q
  · exact h' pins s σ H xs us Q I rv q
theorem zy8 (hc:X.calm=true):CallR X (.builtin "max") (rMC X.K (qb3 qB6)):=CallR.imp (CallR.or (zy4 hc) (zy9 hc)) fun xs H Q ⟨μ,S,ds,d,S',hS,hr,hm,post⟩=>by
  obtain ⟨rfl,hm'⟩:=qk5 hm
  match ds,hr,hm,hm' with
  | [d0],hr,hm,hm'=>
    obtain ⟨ns,h1,h2⟩:=Option.bind_eq_some_iff.mp hm'
    split at h2
    · cases h2
    · rename_i h0
      cases h2
      have h0:ns≠[]:=fun z=>h0 (by rw [z];rfl)
      obtain ⟨v,rfl,rv⟩:=hr.one
      obtain ⟨b,rfl,hq,h64⟩:=zh0 hS rv h1
      refine .inl ⟨b,ns,rfl,hq,h0,fun m m1 m2=>?_⟩
      rw [q38 h0 m1 m2]
      exact post.here hS (.int _)
  | [],hr,hm,hm'=>cases hm'
  | _::_::_,hr,hm,hm'=>exact .inr ⟨μ,_,_,d,_,hS,hr,hm,post⟩
noncomputable def mListR (ms:MA):ME:=fun env S=>(ms env S).bind fun p=>match p.1 with | [.int j]=>if 0≤j∧j≤1000 then some (.lst (qe7 0 j.toNat),p.2) else none | _=>none
theorem ze8 (n:Nat):Reps K μ H (qJ8 n) (qe7 0 n):=by
  unfold qJ8 qe7
  generalize List.range n=l
  induction l with
  | nil=>exact .nil
  | cons a r ih=>rw [List.map_cons,List.map_cons,Int.zero_add];exact .cons (.int _) ih
theorem de_listR {a:Expr} {ms:MA} {p p2 pos2:Pos} (hc:X.calm=true) (hm:X.mg "list" = none) (hm2:X.mg "range" = none) (hg:Gl X "list") (hg2:Gl X "range") (ha:DA X [a] ms) (hs:starEach [a] X.env=[(false,eval a X.env)]) :
    DE X (.Call (.Name "list" p) [.Call (.Name "range" p2) [a] [] pos2] [] pos) (mListR ms):=PE.imp (qT6 hc hm hm2 hg hg2 ha hs) fun σ H Q ⟨μ,S,env,d,S',hS,hE,h,post⟩=>by
  obtain ⟨⟨ds,S1⟩,h1,h⟩:=Option.bind_eq_some_iff.mp h
  refine ⟨μ,S,env,ds,S1,hS,hE,h1,fun vs H1 μ1 e1 s1 r1=>?_⟩
  dsimp only at h
  split at h
  · rename_i j
    split at h
    · rename_i hj
      cases h
      obtain ⟨v,rfl,rv⟩:=r1.one
      exact ⟨j,by rw [rv.int_inv],hj.1,hj.2,fun q hq=>(post.ext e1).lst s1 hq (ze8 _)⟩
    · cases h
  · cases h
noncomputable def zo4 (t:MT) (body:MS):Nat→MEnv→qa0→Option Out
  | 0,_,_=>none
  | f+1,env,S=>(t env S).bind fun p=>if p.1=true then (body env p.2).bind fun o=>match o with
      | .nx e s=>zo4 t body f e s
      | .ct e s=>zo4 t body f e s
      | .bk e s=>some (.nx e s)
      | .rt d s=>some (.rt d s)
    else some (.nx env p.2)
end
end M
namespace M
open PySem PySem.Spec PyProof.Rows L2
inductive zd4:List (Key×Value)→List (Key×D)→Prop
  | nil:zd4 [] []
  | cons {k:Key} {v:Value} {d:D} {vs:List (Key×Value)} {ds:List (Key×D)} (x:V) (h:RelV x v) (r:∀ K μ H,Rep K μ H x d) (t:zd4 vs ds):zd4 ((k,v)::vs) ((k,d)::ds)
structure TabAt (w:World) (K:PySem.W.Frag) (mg:Str→Option Value) (x:Str) (l:List (Key×D)):Prop where
  ex:∃ (a:Addr) (vs:List (Key×Value)),mg x=some (.ref a)∧(∀ (P:Program) (h:Heap),K.In h→h.DictOf (qi7 P w) a vs)∧zd4 vs l
section
variable {X:Cx}
end
end M
namespace M
open PySem PySem.Spec PyProof.Rows L2
section
variable {X:Cx} {K:PySem.W.Frag} {μ:Fp} {H:Hp} {S:qa0}
noncomputable def fIndex:MF:=fun o ds S=>match ds with
  | [x]=>if lstB S o=true then (seqD S o).bind fun ys=>if okD 40 x=true∧ys.all (okD 39)=true∧ys.length≤sizeLine then (ys.findIdx? fun d=>eqD d x).bind fun j=>some (.int (j:Nat),S) else none else none
  | _=>none
noncomputable def qs6:MF:=fun o ds S=>match o,ds with
  | .ref r,[.lst ys]=>(match S[r]? with | some (.lst xs)=>if xs.length+ys.length≤sizeLine then some (.non,S.set r (.lst (xs++ys))) else none | _=>none)
  | _,_=>none
theorem zn6:MtR X "list.extend" (rMM X.K qs6):=MtR.imp zn4 fun x vs H Q ⟨μ,S,dx,ds,d,S',hS,r1,r2,h,post⟩=>by
  unfold qs6 at h
  split at h
  · rename_i r ys
    obtain ⟨v,rfl,rv⟩:=r2.one
    cases q:S[r]? with
    | none=>rw [q] at h;cases h
    | some c=>
      rw [q] at h
      cases c with
      | dct _ _=>cases h
      | lst xs=>
        dsimp only at h
        split at h
        · rename_i hz
          cases h
          cases r1 with
          | @ref a _ h'=>
            obtain ⟨ws,hw,rw'⟩:=hS.cell r a _ h' q
            cases rv with
            | @lst b zs _ hb nb rz=>
              obtain ⟨e,s'⟩:=hS.write h' hw (rw'.append rz)
              exact ⟨a,b,ws,zs,rfl,rfl,hw,hb,by rw [rw'.length,rz.length];exact hz,post _ _ μ e s' .non⟩
        · cases h
  · cases h
theorem qQ7 {o:Expr} {name:Str} {env:Env} {w:Sem Value} (h:(match o with | .Call _ _ _ _=>false | _=>true)=true):attributeBase o name env w=w:=by
  cases o <;> first | rfl | cases h
end
end M
namespace M
open PySem PySem.Spec PyProof.Rows L2
section
variable {X:Cx} {K:PySem.W.Frag} {μ μ':Fp} {H H':Hp} {S S':qa0} {tg iter:Expr} {pos:Pos}
noncomputable def qp0 (g:MG) (t:MT) (e:ME) (r:Nat):Nat→Nat→MEnv→qa0→Option (List D×qa0)
  | 0,_,_,_=>none
  | f+1,i,env,S=>match S[r]? with
    | some (.lst xs)=>match xs[i]? with
      | none=>some ([],S)
      | some d=>(g d env S).bind fun p=>(t p.1 p.2).bind fun b=>if b.1=true then (e p.1 b.2).bind fun y=>(qp0 g t e r f (i+1) p.1 y.2).bind fun z=>some (y.1::z.1,z.2) else qp0 g t e r f (i+1) p.1 b.2
    | _=>none
noncomputable def mCompX (m:ME) (g:MG) (t:MT) (e:ME) (cap:List (Option Nat)):ME:=fun env S=>(m env S).bind fun p=>match p.1 with
  | .ref r=>(qp0 g t e r 2000 0 (capE cap env) p.2).bind fun z=>some (.lst z.1,z.2)
  | _=>none
theorem qR2 {mi:ME} {g:MG} {t:MT} {e:ME} {cap:List (Option Nat)} {σ:L2.St} {Q:VK} (h:tM K (mCompX mi g t e cap) σ H Q):tComp (iList K (tM K mi)) (tMG K g) (tMT K t) (tM K e) cap σ H Q:=by
  obtain ⟨μ,S,env,d,S',hS,hE,hm,post⟩:=h
  obtain ⟨⟨d0,S1⟩,h1,hm⟩:=Option.bind_eq_some_iff.mp hm
  dsimp only at hm
  split at hm
  case h_2=>cases hm
  rename_i r
  obtain ⟨⟨ys,S2⟩,h2,hm⟩:=Option.bind_eq_some_iff.mp hm
  cases hm
  refine ⟨μ,S,env,_,S1,hS,hE,h1,fun v H1 μ1 e1 s1 r1=>?_⟩
  cases r1 with
  | @ref a _ ha=>
    have hq0:∃ vs,SqL K H1 a vs:=by
      unfold qp0 at h2
      split at h2
      · rename_i xs q
        obtain ⟨vs,hv,_⟩:=s1.cell r a _ ha q
        exact ⟨vs,.inl (.inl hv)⟩
      · cases h2
    refine ⟨a,rfl,hq0,fun p hp=>?_⟩
    have hpn:=s1.notMem hp
    refine ⟨fun i n σ' H'=>n+i=2000∧∃ (cs:List Addr) (S':qa0) (env':MEnv) (vs:List V) (zs rest:List D),ExtP μ1 H1 ⟨cs,p::μ1.fb⟩ H'∧SOk K ⟨cs,p::μ1.fb⟩ S' H'∧EOk K ⟨cs,p::μ1.fb⟩ H' σ' env'∧H' p=some (.lst vs) ∧
        Reps K ⟨cs,p::μ1.fb⟩ H' vs zs∧qp0 g t e r n i env' S'=some (rest,S2)∧ys=zs++rest∧vs.length≤i,⟨2000,rfl,μ1.cs,S1,capE cap env,[],[],ys,?_,s1.more hp,?_,qb4,.nil,h2,rfl,Nat.le_refl _⟩,?_⟩
    · exact ⟨⟨[p],rfl,fun a z=>by rw [List.mem_singleton.mp z];exact hp⟩,⟨[],by simp,fun _ z=>by simp at z⟩,fun a o' n h=>by rw [qb5 (qe6 h hp)];exact h,fun a ha=>by
        by_cases z:a=p
        · subst z;rw [qb4];simp
        · rw [qb5 z];exact s1.dom a ha⟩
    · exact ((hE.mono e1).block cap).more hp
    rintro i n σ' H' ⟨hn,cs,S',env',vs,zs,rest,eP,s',r',hpv,rz,hl,rfl,hvl⟩
    have pcs:p ∉ cs:=fun z=>s'.disj p List.mem_cons_self z
    cases n with
    | zero=>cases hl
    | succ n=>
      unfold qp0 at hl
      split at hl
      · rename_i xs q
        have ha':(⟨cs,p::μ1.fb⟩:Fp).cs[r]?=some a:=eP.ix ha
        obtain ⟨ws,hv,rv⟩:=s'.cell r a _ ha' q
        have hsq:SqL K H' a ws:=.inl (.inl hv)
        split at hl
        · rename_i hx
          cases hl
          have eF:Ext μ1 H1 ⟨cs,μ1.fb⟩ H':=⟨rfl,eP.pre,eP.keep,eP.dom⟩
          rw [List.append_nil] at post
          exact .inl ⟨⟨ws,hsq,by rw [rv.length];simpa using hx⟩,post _ H' ⟨cs,μ1.fb⟩ (e1.trans eF) s'.less (.lst hpv ⟨fun z=>s'.disj p List.mem_cons_self z,hpn.2⟩ rz.less)⟩
        · rename_i dd hx
          obtain ⟨w,hw,rw0⟩:=rv.get hx
          refine .inr ⟨⟨ws,w,hsq,hw⟩,fun x H2 y=>?_⟩
          obtain ⟨e2,hy⟩:=y
          subst e2
          have ex:x=w:=by have:=hy ws hsq;rw [hw] at this;exact (Option.some.inj this).symm
          subst ex
          obtain ⟨⟨env3,S3⟩,h3,hl⟩:=Option.bind_eq_some_iff.mp hl
          obtain ⟨⟨b,S4⟩,h4,hl⟩:=Option.bind_eq_some_iff.mp hl
          refine ⟨_,S',env',dd,env3,S3,s',r',rw0,h3,fun σ3 H3 μ3 e3 s3 r3=>⟨μ3,S3,env3,b,S4,s3,r3,h4,fun H4 μ4 e4 s4=>?_⟩⟩
          have eA:=e3.trans e4
          cases b with
          | false=>
            rw [if_neg Bool.false_ne_true] at hl
            dsimp only
            rw [if_neg Bool.false_ne_true]
            obtain ⟨cs4,fb4⟩:=μ4
            have hfb:fb4=p::μ1.fb:=eA.fb
            subst hfb
            exact ⟨n,Nat.lt_succ_self _,by omega,cs4,S4,env3,vs,zs,rest,eP.then eA,s4,r3.mono e4,(eA.keeps hpv pcs).1,rz.mono eA,hl,rfl,by omega⟩
          | true=>
            rw [if_pos rfl] at hl
            dsimp only
            rw [if_pos rfl]
            obtain ⟨⟨dv,S5⟩,h5,hl⟩:=Option.bind_eq_some_iff.mp hl
            obtain ⟨⟨rs,S6⟩,h6,hl⟩:=Option.bind_eq_some_iff.mp hl
            cases hl
            refine ⟨μ4,S4,env3,dv,S5,s4,r3.mono e4,h5,fun v H5 μ5 e5 s5 r5=>?_⟩
            have eB:=eA.trans e5
            obtain ⟨cs5,fb5⟩:=μ5
            have hfb:fb5=p::μ1.fb:=eB.fb
            subst hfb
            have sz:2000<sizeLine:=by decide
            exact ⟨vs,(eB.keeps hpv pcs).1,by omega,n,Nat.lt_succ_self _,by omega,cs5,S5,env3,vs++[v],zs++[dv],rs,(eP.then eB).chg hp,s5.chg List.mem_cons_self,((r3.mono e4).mono e5).chg List.mem_cons_self,qb4,Reps.chg List.mem_cons_self ((rz.mono eB).append (.cons r5 .nil)),h6,by simp,by rw [List.length_append,List.length_singleton];omega⟩
      · cases hl
theorem de_compX {elt:Expr} {ifs:List Expr} {scope:Scope} {N':List Str} {cap:List (Option Nat)} {mi:ME} {g:MG} {t:MT} {me:ME}
    (hc:X.calm=true) (B:BlockOk X N' scope cap) (hi:DE X iter mi) (hg:∀ C s H fp,DG (cxB X N' scope C s H fp) tg g) (ht:∀ C s H fp,DTs (cxB X N' scope C s H fp) ifs t) (he:∀ C s H fp,DE (cxB X N' scope C s H fp) elt me)
    (hs:∀ x,foldedSetIterable iter X.env x=pure x:=by intro _;rfl):DE X (.ListComp elt [⟨tg,iter,ifs,0⟩] scope pos) (mCompX mi g t me cap):=
  PE.imp (zl6 (g:=tMG X.K g) (tt:=tMT X.K t) (te:=tM X.K me) hc B (q18 hi) hg ht he hs) fun _ _ _ h=>qR2 h
theorem ds_setCompX {elt:Expr} {ifs:List Expr} {scope:Scope} {spos py:Pos} {N':List Str} {cap:List (Option Nat)} {mi:ME} {g:MG} {t:MT} {me:ME} {y:Str} {i:Nat}
    (hN:X.N.Nodup) (hy:X.N[i]?=some y) (hx:Loc X.env.scope y)
    (hc:X.calm=true) (B:BlockOk X N' scope cap) (hi:DE X iter mi) (hg:∀ C s H fp,DG (cxB X N' scope C s H fp) tg g) (ht:∀ C s H fp,DTs (cxB X N' scope C s H fp) ifs t) (he:∀ C s H fp,DE (cxB X N' scope C s H fp) elt me)
    (hsw:swapsWith (.ListComp elt [⟨tg,iter,ifs,0⟩] scope pos) (some (.Name y py)) spos.line X.env=pure true:=by rfl)
    (hs:∀ x,foldedSetIterable iter X.env x=pure x:=by intro _;rfl) (hf:X.fn y=true∨X.env.scope.names.lookup y=some .local:=by first | exact .inl rfl | exact .inr rfl | assumption) :
    DS X (.Assign [.Name y py] (.ListComp elt [⟨tg,iter,ifs,0⟩] scope pos) spos) (mAsg (mCompX mi g t me cap) (gSet i)):=
  PS.imp (qK1 (g:=tMG X.K g) (tt:=tMT X.K t) (te:=tM X.K me) hN hy hx hc B (q18 hi) hg ht he hsw hs hf) fun E σ H h=>by
    obtain ⟨μ,S,env,o,hS,hE,hm,post⟩:=h
    obtain ⟨⟨d,S1⟩,h1,hm⟩:=Option.bind_eq_some_iff.mp hm
    cases hm
    exact qR2 ⟨μ,S,env,d,S1,hS,hE,h1,fun v H1 μ1 e1 s1 r1=>post _ H1 μ1 e1 s1 ((hE.mono e1).set r1 i)⟩
end
end M
namespace L2
open PySem PySem.Spec PyProof.Rows
section
variable {X:Cx}
end
end L2
namespace M
open PySem PySem.Spec PyProof.Rows L2
section
variable {X:Cx} {K:PySem.W.Frag} {μ μ':Fp} {H H':Hp} {S:qa0}
noncomputable def fAddS (S:qa0) (x y:D):Option D:=match x,y with
  | .str a,.str b=>if a.length+b.length≤sizeLine then some (.str (a++b)) else none
  | _,_=>none
noncomputable def fStr1 (S:qa0) (ds:List D):Option D:=match ds with
  | [.int i]=>if i.natAbs.log2<1920 then some (.str (toString i)) else none
  | [.non]=>some (.str "None")
  | _=>none
noncomputable def fmtD:D→Option Str
  | .str y=>if y.length≤sizeLine then some y else none
  | .int i=>if i.natAbs.log2<1920 then some (toString i) else none
  | _=>none
noncomputable def mJoinL:List ME→Str→ME
  | [],out=>fun _ S=>some (.str out,S)
  | m::r,out=>fun env S=>(m env S).bind fun p=>match p.1 with
    | .str y=>if (out++y).length≤sizeLine then mJoinL r (out++y) env p.2 else none
    | _=>none
inductive DEs (X:Cx):List Expr→List ME→Prop
  | nil:DEs X [] []
  | cons {e:Expr} {m:ME} {es:List Expr} {ms:List ME} (h:DE X e m) (t:DEs X es ms):DEs X (e::es) (m::ms)
noncomputable def strsD:List D→Option (List Str)
  | []=>some []
  | .str x::r=>(strsD r).bind fun xs=>some (x::xs)
  | _::_=>none
noncomputable def fJoin:MF:=fun o ds S=>match o,ds with
  | .str sep,[y]=>(seqD S y).bind fun xs=>(strsD xs).bind fun ys=>if (ys.map (·.length)).sum+ys.length * sep.length≤16777216 then some (.str (Str.join sep ys),S) else none
  | _,_=>none
noncomputable def isStrB:D→Bool
  | .str _=>true
  | _=>false
end
end M
namespace HT
open PySem PyProof.Rows
section
variable {prog:Program} {w:World} {A:Around} {E:Value→Shared→Prop} {s:Shared}
end
end HT
namespace L2
open PySem PySem.Spec PyProof.Rows
section
variable {X:Cx}
end
end L2
namespace M
open PySem PySem.Spec PyProof.Rows L2
section
variable {X:Cx} {K:PySem.W.Frag} {μ μ':Fp} {H H':Hp} {S:qa0}
end
end M
namespace HT
open PySem PyProof.Rows
section
variable {prog:Program} {w:World} {A:Around} {E:Value→Shared→Prop} {s:Shared}
end
end HT
namespace L2
open PySem PySem.Spec PyProof.Rows
section
variable {X:Cx}
end
end L2
namespace M
open PySem PySem.Spec PyProof.Rows L2
section
variable {X:Cx} {K:PySem.W.Frag} {μ:Fp} {H:Hp} {S:qa0}
end
end M
namespace HT
open PySem PyProof.Rows PySem.Spec SeqAt
end HT
namespace M
open PySem PySem.Spec PyProof.Rows L2
section
variable {X:Cx} {K:PySem.W.Frag} {μ:Fp} {H:Hp} {S:qa0}
end
end M
namespace L2
open PySem PySem.Spec PyProof.Rows
noncomputable def inBy (e iter:Expr) (acc:Value) (env:Env):Sem Unit:=do
  let x ← eval iter env
  standAt iter.pos
  let x ← foldedSetIterable iter env x
  let it ← holding [x] (pyIter x)
  let _ ← runOwn (.compStart e 1 it acc env) env
  pure ()
theorem qx8 (elt tg iter tg2 iter2:Expr) (ifs ifs2:List Expr) (scope:Scope) (pos:Pos) (it acc:Value) (env:Env) :
    compTurn (.ListComp elt [⟨tg,iter,ifs,0⟩,⟨tg2,iter2,ifs2,0⟩] scope pos) 0 it acc env=qA6 (.ListComp elt [⟨tg,iter,ifs,0⟩,⟨tg2,iter2,ifs2,0⟩] scope pos) tg iter.pos ifs 0 it acc env (inBy (.ListComp elt [⟨tg,iter,ifs,0⟩,⟨tg2,iter2,ifs2,0⟩] scope pos) iter2 acc env):=by
  unfold qA6 inBy
  simp only [bind_assoc,pure_bind]
  rfl
theorem qQ3 (elt tg iter tg2 iter2:Expr) (ifs ifs2:List Expr) (scope:Scope) (pos:Pos) (it acc:Value) (env:Env) :
    compTurn (.ListComp elt [⟨tg,iter,ifs,0⟩,⟨tg2,iter2,ifs2,0⟩] scope pos) 1 it acc env=qA6 (.ListComp elt [⟨tg,iter,ifs,0⟩,⟨tg2,iter2,ifs2,0⟩] scope pos) tg2 iter2.pos ifs2 1 it acc env (emitBy elt acc env):=rfl
theorem qs9 {prog:Program} {w:World} {A:Around} {R:Result→Shared→Prop} {s:Shared} {elt:Expr} {g1:Comprehension} {tg2 iter2:Expr} {ifs2:List Expr} {scope:Scope} {pos:Pos} {it acc:Value} {env:Env}
    (h0:codeAny (model prog w) A (.compLoop (.ListComp elt [g1,⟨tg2,iter2,ifs2,0⟩] scope pos) 1 it acc env) R s)
    (h:wpAny (model prog w) A (pyIter it) (fun it' s'=>codeAny (model prog w) A (.compLoop (.ListComp elt [g1,⟨tg2,iter2,ifs2,0⟩] scope pos) 1 it' acc env) R s') (notedBy (model prog w) A env fun x s'=>R (.error x) s') s) :
    codeAny (model prog w) A (.compStart (.ListComp elt [g1,⟨tg2,iter2,ifs2,0⟩] scope pos) 1 it acc env) R s:=by
  refine codeAny_of_tree ?_
  refine wpAny_notedAt ?_
  show wpAny _ _ (compStart _ 1 _ _ _) _ _ _
  refine wpAny_bind (wpAny_askSetting (wpAny_ite ?_))
  by_cases hq:({ program:=(model prog w).prog,params:=(model prog w).w.params:Setting }.params.followText "comprehension-iter-twice")=true
  · rw [if_pos hq];exact wpAny_bind (wpAny_pure (wpAny_pure ⟨rfl,h0⟩))
  · rw [if_neg hq];exact wpAny_bind (wpAny_rule (wpAny_bind (wpAny_standAt (wpAny_bind (wpAny_mono h (fun it' s' h'=>wpAny_pure ⟨rfl,h'⟩) fun _ _ z=>z)))))
noncomputable def tIn (wi:TI) (g:TG) (tt:TT) (te:TE) (p:Addr):TB:=fun σ H Q=>wi σ H fun J H1=>zj6 J g tt (tEm te p) σ H1 Q
theorem pb_in {X:Cx} {elt tg iter tg2 iter2:Expr} {ifs ifs2:List Expr} {scope:Scope} {pos:Pos} {wi:TI} {g:TG} {tt:TT} {te:TE} {p:Addr} (hc:X.calm=true) (hx:∀ e s,X.xe e s→False)
    (hi:PI X tg2 iter2 wi) (hg:PG X tg2 g) (ht:PTs X ifs2 tt) (he:PE X elt te) (hs:∀ x,foldedSetIterable iter2 X.env x=pure x) :
    PB X (inBy (.ListComp elt [⟨tg,iter,ifs,0⟩,⟨tg2,iter2,ifs2,0⟩] scope pos) iter2 (.ref p) X.env) (tIn wi g tt te p):=fun pins s σ H Q I h=>by
  refine wpAny_bind (thn (hi pins s σ H _ I h) fun x s1 h1=>wpAny_bind (wpAny_standAt ?_))
  rw [hs]
  refine wpAny_bind (wpAny_pure (wpAny_bind (wpAny_holding (thn h1 fun itv s2 h2=>?_))))
  obtain ⟨it,fp,tn,J,H1,e,I2,T,st2,f2,hL⟩:=h2
  subst e
  have loop:=qZ6 (d:=1) hc hx rfl (qQ3 elt tg iter tg2 iter2 ifs ifs2 scope pos _ _ _) hg ht (q19 (p:=p) he) T I2 st2 f2 hL
  refine wpAny_bind (wpAny_runOwn ?_)
  rw [Around.mark_none]
  refine codeAny_mono (qs9 loop (T.self _ 0 _ _ _ st2 loop)) fun r s' ⟨σ',H',hr,J',q'⟩=>?_
  subst hr
  exact wpAny_pure ⟨σ',H',J',q'⟩
end L2
namespace M
open PySem L2 PyProof.Rows
section
variable {X:Cx} {K:PySem.W.Frag} {H:Hp} {pos:Pos}
inductive iMs (K:PySem.W.Frag) (m:MA) (σ:L2.St) (H:Hp) (R:It→Hp→Prop):Prop
  | mk (μ:Fp) (S:qa0) (env:MEnv) (xs:List D) (S':qa0) (hS:SOk K μ S H) (hE:EOk K μ H σ env) (h:m env S=some (xs,S')) (post:∀ J H' μ',Ext μ H μ' H'→SOk K μ' S' H'→(∀ μ2 H2,ItOk K μ2 H2 J xs)→R J H')
noncomputable def DIs (X:Cx) (tg iter:Expr) (m:MA):Prop:=PI X tg iter (iMs X.K m)
theorem dis_range1 {tg a:Expr} {ms:MA} {p:Pos} (hm:X.mg "range" = none) (ha:DA X [a] ms) (hg:Gl X "range":=by rfl) (hs:starEach [a] X.env=[(false,eval a X.env)]:=by rfl):DIs X tg (.Call (.Name "range" p) [a] [] pos) (mRange1 ms):=
  PI.imp (qT5 hg hm ha hs) fun σ H R ⟨μ,S,env,xs,S',hS,hE,hm,post⟩=>by
    obtain ⟨⟨ds,S1⟩,h1,hm⟩:=Option.bind_eq_some_iff.mp hm
    refine ⟨μ,S,env,ds,S1,hS,hE,h1,fun vs H1 μ1 e1 s1 r1=>?_⟩
    dsimp only at hm
    split at hm
    · split at hm
      · rename_i hb
        cases hm
        obtain ⟨v,rfl,r⟩:=r1.one
        exact ⟨_,by rw [r.int_inv],hb.1,hb.2,post _ H1 μ1 e1 s1 fun _ _=>qz3 0 _⟩
      · cases hm
    · cases hm
noncomputable def qr2 (g:MG) (t:MT) (e:ME):List D→MEnv→qa0→Option (List D×MEnv×qa0)
  | [],env,S=>some ([],env,S)
  | d::ds,env,S=>(g d env S).bind fun p=>(t p.1 p.2).bind fun b=>if b.1=true then (e p.1 b.2).bind fun q=>(qr2 g t e ds p.1 q.2).bind fun r=>some (q.1::r.1,r.2) else qr2 g t e ds p.1 b.2
noncomputable def qr1 (g:MG) (t:MT) (mi2:MA) (g2:MG) (t2:MT) (e:ME):List D→MEnv→qa0→Option (List D×qa0)
  | [],_,S=>some ([],S)
  | d::ds,env,S=>(g d env S).bind fun p=>(t p.1 p.2).bind fun b=>if b.1=true then (mi2 p.1 b.2).bind fun q=>(qr2 g2 t2 e q.1 p.1 q.2).bind fun r=>(qr1 g t mi2 g2 t2 e ds r.2.1 r.2.2).bind fun z=>some (r.1++z.1,z.2) else qr1 g t mi2 g2 t2 e ds p.1 b.2
noncomputable def mComp2 (mi:MA) (g:MG) (t:MT) (mi2:MA) (g2:MG) (t2:MT) (e:ME) (cap:List (Option Nat)):ME:=fun env S=>(mi env S).bind fun p=>(qr1 g t mi2 g2 t2 e p.1 (capE cap env) p.2).bind fun q=>if q.1.length≤sizeLine then some (.lst q.1,q.2) else none
structure CpI (K:PySem.W.Frag) (μ1:Fp) (H1:Hp) (p:Addr) (σ:L2.St) (H:Hp) (cs:List Addr) (S:qa0) (env:MEnv) (vs:List V) (zs:List D):Prop where
  ext:ExtP μ1 H1 ⟨cs,p::μ1.fb⟩ H
  sok:SOk K ⟨cs,p::μ1.fb⟩ S H
  eok:EOk K ⟨cs,p::μ1.fb⟩ H σ env
  lst:H p=some (.lst vs)
  rep:Reps K ⟨cs,p::μ1.fb⟩ H vs zs
theorem CpI.go {μ1:Fp} {H1 H H':Hp} {p:Addr} {σ σ':L2.St} {cs cs':List Addr} {S S':qa0} {env env':MEnv} {vs:List V} {zs:List D} (c:CpI K μ1 H1 p σ H cs S env vs zs) (e:Ext ⟨cs,p::μ1.fb⟩ H ⟨cs',p::μ1.fb⟩ H') (s:SOk K ⟨cs',p::μ1.fb⟩ S' H') (r:EOk K ⟨cs',p::μ1.fb⟩ H' σ' env'):CpI K μ1 H1 p σ' H' cs' S' env' vs zs:=
  ⟨c.ext.then e,s,r,(e.keeps c.lst fun z=>c.sok.disj p List.mem_cons_self z).1,c.rep.mono e⟩
theorem CpI.app {μ1:Fp} {H1 H:Hp} {p:Addr} {σ:L2.St} {cs:List Addr} {S:qa0} {env:MEnv} {vs:List V} {zs:List D} {v:V} {d:D} (c:CpI K μ1 H1 p σ H cs S env vs zs) (hp:H1 p=none) (r:Rep K ⟨cs,p::μ1.fb⟩ H v d):CpI K μ1 H1 p σ (upd H p (.lst (vs++[v]))) cs S env (vs++[v]) (zs++[d]):=
  ⟨c.ext.chg hp,c.sok.chg List.mem_cons_self,c.eok.chg List.mem_cons_self,qb4,Reps.chg List.mem_cons_self (c.rep.append (.cons r .nil))⟩
theorem qR4 {mi mi2:MA} {g g2:MG} {t t2:MT} {e:ME} {cap:List (Option Nat)} {σ:L2.St} {Q:VK} (h:tM K (mComp2 mi g t mi2 g2 t2 e cap) σ H Q):qR3 (iM K mi) (tMG K g) (tMT K t) (tIn (iMs K mi2) (tMG K g2) (tMT K t2) (tM K e)) cap σ H Q:=by
  obtain ⟨μ,S,env,d,S9,hS,hE,hm,post⟩:=h
  obtain ⟨⟨xs,S1⟩,h1,hm⟩:=Option.bind_eq_some_iff.mp hm
  obtain ⟨⟨ys,S2⟩,h2,hm⟩:=Option.bind_eq_some_iff.mp hm
  dsimp only at hm
  split at hm
  case isFalse=>cases hm
  rename_i hsz
  cases hm
  refine ⟨μ,S,env,xs,S1,hS,hE,h1,fun J H1 μ1 e1 s1 it p hp=>?_⟩
  have hpn:=s1.notMem hp
  refine ⟨fun i n σ' H'=>n=xs.length - i∧i≤xs.length∧∃ (cs:List Addr) (S':qa0) (env':MEnv) (vs:List V) (zs rest:List D),CpI K μ1 H1 p σ' H' cs S' env' vs zs∧qr1 g t mi2 g2 t2 e (xs.drop i) env' S'=some (rest,S9)∧ys=zs++rest,
    ⟨xs.length,by simp,Nat.zero_le _,μ1.cs,S1,capE cap env,[],[],ys,⟨?_,s1.more hp,((hE.mono e1).block cap).more hp,qb4,.nil⟩,by rw [List.drop_zero];exact h2,rfl⟩,?_⟩
  · exact ⟨⟨[p],rfl,fun a z=>by rw [List.mem_singleton.mp z];exact hp⟩,⟨[],by simp,fun _ z=>by simp at z⟩,fun a o' n h=>by rw [qb5 (qe6 h hp)];exact h,fun a ha=>by
      by_cases z:a=p
      · subst z;rw [qb4];simp
      · rw [qb5 z];exact s1.dom a ha⟩
  rintro i n σ' H' ⟨rfl,hi,cs,S',env',vs,zs,rest,c,hl,rfl⟩
  have iti:=it _ H' S' c.ext c.sok i
  by_cases hlt:i<xs.length
  · refine .inr ⟨(iti.1 xs[i] (List.getElem?_eq_getElem hlt)).1,fun x H2 y=>?_⟩
    obtain ⟨e2,s2,rx⟩:=(iti.1 xs[i] (List.getElem?_eq_getElem hlt)).2 x H2 y
    rw [List.drop_eq_getElem_cons hlt] at hl
    obtain ⟨⟨env3,S3⟩,h3,hl⟩:=Option.bind_eq_some_iff.mp hl
    obtain ⟨⟨b,S4⟩,h4,hl⟩:=Option.bind_eq_some_iff.mp hl
    refine ⟨_,S',env',xs[i],env3,S3,s2,c.eok.mono e2,rx,h3,fun σ3 H3 μ3 e3 s3 r3=>⟨μ3,S3,env3,b,S4,s3,r3,h4,fun H4 μ4 e4 s4=>?_⟩⟩
    have eA:=(e2.trans e3).trans e4
    obtain ⟨cs4,fb4⟩:=μ4
    have hfb:fb4=p::μ1.fb:=eA.fb
    subst hfb
    have c4:=c.go eA s4 (r3.mono e4)
    cases b with
    | false=>
      rw [if_neg Bool.false_ne_true] at hl
      dsimp only
      rw [if_neg Bool.false_ne_true]
      exact ⟨xs.length - (i+1),by omega,rfl,hlt,cs4,S4,env3,vs,zs,rest,c4,hl,rfl⟩
    | true=>
      rw [if_pos rfl] at hl
      dsimp only
      rw [if_pos rfl]
      obtain ⟨⟨us,S5⟩,h5,hl⟩:=Option.bind_eq_some_iff.mp hl
      obtain ⟨⟨ws,env6,S6⟩,h6,hl⟩:=Option.bind_eq_some_iff.mp hl
      obtain ⟨⟨rs,S7⟩,h7,hl⟩:=Option.bind_eq_some_iff.mp hl
      cases hl
      refine ⟨_,S4,env3,us,S5,s4,r3.mono e4,h5,fun J2 H5 μ5 e5 s5 it2=>?_⟩
      obtain ⟨cs5,fb5⟩:=μ5
      have hfb:fb5=p::μ1.fb:=e5.fb
      subst hfb
      refine ⟨fun j n σ' H'=>n=us.length - j∧j≤us.length∧∃ (cs:List Addr) (S':qa0) (env':MEnv) (vs:List V) (zs' rest:List D),CpI K μ1 H1 p σ' H' cs S' env' vs zs'∧qr2 g2 t2 e (us.drop j) env' S'=some (rest,env6,S6)∧zs++ws=zs'++rest,
        ⟨us.length,by simp,Nat.zero_le _,cs5,S5,env3,vs,zs,ws,c4.go e5 s5 (c4.eok.mono e5),by rw [List.drop_zero];exact h6,rfl⟩,?_⟩
      rintro j n σ' H' ⟨rfl,hj,cs,S',env',vs',zs',rest',c',hl',hz⟩
      have itj:=it2 _ _ _ H' S' c'.sok.ext.toP c'.sok j
      by_cases hlj:j<us.length
      · refine .inr ⟨(itj.1 us[j] (List.getElem?_eq_getElem hlj)).1,fun x2 H2 y2=>?_⟩
        obtain ⟨f2,q2,rx2⟩:=(itj.1 us[j] (List.getElem?_eq_getElem hlj)).2 x2 H2 y2
        rw [List.drop_eq_getElem_cons hlj] at hl'
        obtain ⟨⟨env3',S3'⟩,k3,hl'⟩:=Option.bind_eq_some_iff.mp hl'
        obtain ⟨⟨b',S4'⟩,k4,hl'⟩:=Option.bind_eq_some_iff.mp hl'
        refine ⟨_,S',env',us[j],env3',S3',q2,c'.eok.mono f2,rx2,k3,fun σ3 H3 μ3 e3 s3 r3=>⟨μ3,S3',env3',b',S4',s3,r3,k4,fun H4 μ4 e4 s4=>?_⟩⟩
        have eA:=(f2.trans e3).trans e4
        obtain ⟨cs4,fb4⟩:=μ4
        have hfb:fb4=p::μ1.fb:=eA.fb
        subst hfb
        have c4:=c'.go eA s4 (r3.mono e4)
        cases b' with
        | false=>
          rw [if_neg Bool.false_ne_true] at hl'
          dsimp only
          rw [if_neg Bool.false_ne_true]
          exact ⟨us.length - (j+1),by omega,rfl,hlj,cs4,S4',env3',vs',zs',rest',c4,hl',hz⟩
        | true=>
          rw [if_pos rfl] at hl'
          dsimp only
          rw [if_pos rfl]
          obtain ⟨⟨dv,S8⟩,k5,hl'⟩:=Option.bind_eq_some_iff.mp hl'
          obtain ⟨⟨rs',q8⟩,k6,hl'⟩:=Option.bind_eq_some_iff.mp hl'
          cases hl'
          refine ⟨_,S4',env3',dv,S8,s4,c4.eok,k5,fun v H5 μ5 e5 s5 r5=>?_⟩
          obtain ⟨cs5,fb5⟩:=μ5
          have hfb:fb5=p::μ1.fb:=e5.fb
          subst hfb
          have c5:=c4.go e5 s5 (c4.eok.mono e5)
          have hv:=c5.rep.length
          have hlen:=congrArg List.length hz
          simp only [List.length_append,List.length_cons] at hlen hsz
          exact ⟨vs',c5.lst,by omega,us.length - (j+1),by omega,rfl,hlj,cs5,S8,env3',vs'++[v],zs'++[dv],rs',c5.app hp r5,k6,by rw [hz];simp⟩
      · have e:j=us.length:=by omega
        subst e
        rw [List.drop_length] at hl'
        cases hl'
        rw [List.append_nil] at hz
        subst hz
        exact .inl ⟨itj.2 (Nat.le_refl _),xs.length - (i+1),by omega,rfl,hlt,cs,S6,env6,vs',zs++ws,rs,c',h7,by simp⟩
  · have e:i=xs.length:=by omega
    subst e
    refine .inl ⟨iti.2 (Nat.le_refl _),?_⟩
    rw [List.drop_length] at hl
    cases hl
    have eF:Ext μ1 H1 ⟨cs,μ1.fb⟩ H':=⟨rfl,c.ext.pre,c.ext.keep,c.ext.dom⟩
    rw [List.append_nil] at post
    exact post _ H' ⟨cs,μ1.fb⟩ (e1.trans eF) c.sok.less (.lst c.lst ⟨fun z=>c.sok.disj p List.mem_cons_self z,hpn.2⟩ c.rep.less)
variable {elt tg iter tg2 iter2:Expr} {ifs ifs2:List Expr} {scope:Scope} {spos py:Pos} {N':List Str} {cap:List (Option Nat)} {mi mi2:MA} {g g2:MG} {t t2:MT} {me:ME} {y:Str} {i:Nat}
theorem de_comp2 (hc:X.calm=true) (B:BlockOk X N' scope cap) (hi:DI X tg iter mi) (hg:∀ C s H fp,DG (cxB X N' scope C s H fp) tg g) (ht:∀ C s H fp,DTs (cxB X N' scope C s H fp) ifs t)
    (hi2:∀ C s H fp,DIs (cxB X N' scope C s H fp) tg2 iter2 mi2) (hg2:∀ C s H fp,DG (cxB X N' scope C s H fp) tg2 g2) (ht2:∀ C s H fp,DTs (cxB X N' scope C s H fp) ifs2 t2) (he:∀ C s H fp,DE (cxB X N' scope C s H fp) elt me)
    (hs:∀ x,foldedSetIterable iter X.env x=pure x) (hs2:∀ env x,foldedSetIterable iter2 env x=pure x):DE X (.ListComp elt [⟨tg,iter,ifs,0⟩,⟨tg2,iter2,ifs2,0⟩] scope pos) (mComp2 mi g t mi2 g2 t2 me cap):=
  PE.imp (q89 (g:=tMG X.K g) (tt:=tMT X.K t) (tb:=tIn (iMs X.K mi2) (tMG X.K g2) (tMT X.K t2) (tM X.K me)) hc B hi hg ht (fun _ _ _=>qx8 ..) (fun C s H fp p=>pb_in hc (fun _ _ z=>z) (hi2 C s H fp) (hg2 C s H fp) (ht2 C s H fp) (he C s H fp) (hs2 _)) hs) fun _ _ _ h=>qR4 h
theorem ds_setComp2 (hN:X.N.Nodup) (hy:X.N[i]?=some y) (hx:Loc X.env.scope y)
    (hc:X.calm=true) (B:BlockOk X N' scope cap) (hi:DI X tg iter mi) (hg:∀ C s H fp,DG (cxB X N' scope C s H fp) tg g) (ht:∀ C s H fp,DTs (cxB X N' scope C s H fp) ifs t)
    (hi2:∀ C s H fp,DIs (cxB X N' scope C s H fp) tg2 iter2 mi2) (hg2:∀ C s H fp,DG (cxB X N' scope C s H fp) tg2 g2) (ht2:∀ C s H fp,DTs (cxB X N' scope C s H fp) ifs2 t2) (he:∀ C s H fp,DE (cxB X N' scope C s H fp) elt me)
    (hsw:swapsWith (.ListComp elt [⟨tg,iter,ifs,0⟩,⟨tg2,iter2,ifs2,0⟩] scope pos) (some (.Name y py)) spos.line X.env=pure true)
    (hs:∀ x,foldedSetIterable iter X.env x=pure x) (hs2:∀ env x,foldedSetIterable iter2 env x=pure x) (hf:X.fn y=true∨X.env.scope.names.lookup y=some .local) :
    DS X (.Assign [.Name y py] (.ListComp elt [⟨tg,iter,ifs,0⟩,⟨tg2,iter2,ifs2,0⟩] scope pos) spos) (mAsg (mComp2 mi g t mi2 g2 t2 me cap) (gSet i)):=
  PS.imp (qD1 (g:=tMG X.K g) (tt:=tMT X.K t) (tb:=tIn (iMs X.K mi2) (tMG X.K g2) (tMT X.K t2) (tM X.K me)) hN hy hx hc B hi hg ht (fun _ _ _=>qx8 ..) (fun C s H fp p=>pb_in hc (fun _ _ z=>z) (hi2 C s H fp) (hg2 C s H fp) (ht2 C s H fp) (he C s H fp) (hs2 _)) hsw hs hf) fun E σ H h=>by
    obtain ⟨μ,S,env,o,hS,hE,hm,post⟩:=h
    obtain ⟨⟨d,S1⟩,h1,hm⟩:=Option.bind_eq_some_iff.mp hm
    cases hm
    exact qR4 ⟨μ,S,env,d,S1,hS,hE,h1,fun v H1 μ1 e1 s1 r1=>post _ H1 μ1 e1 s1 ((hE.mono e1).set r1 i)⟩
noncomputable def mCatR (a b:ME):ME:=fun env S=>(a env S).bind fun p=>(b env p.2).bind fun q=>(qB5 q.2 p.1).bind fun xs=>(qB5 q.2 q.1).bind fun ys=>if xs.length+ys.length≤sizeLine then some (.ref q.2.length,q.2++[.lst (xs++ys)]) else none
theorem de_catR {a b:Expr} {ma mb:ME} (ha:DE X a ma) (hb:DE X b mb):DE X (.BinOp a .Add b pos) (mCatR ma mb):=PE.imp (pe_op zl9 ha hb) fun σ H Q ⟨μ,S,env,d,S',hS,hE,hm,post⟩=>by
  obtain ⟨⟨x,S1⟩,h1,hm⟩:=Option.bind_eq_some_iff.mp hm
  obtain ⟨⟨y,S2⟩,h2,hm⟩:=Option.bind_eq_some_iff.mp hm
  obtain ⟨xs,e1,hm⟩:=Option.bind_eq_some_iff.mp hm
  obtain ⟨ys,e2,hm⟩:=Option.bind_eq_some_iff.mp hm
  dsimp only at hm
  split at hm
  · rename_i hl
    cases hm
    refine ⟨μ,S,env,x,S1,hS,hE,h1,fun v H1 μ1 f1 s1 r1=>⟨μ1,S1,env,y,S2,s1,hE.mono f1,h2,fun w H2 μ2 f2 s2 r2=>?_⟩⟩
    obtain ⟨a,vs,rfl,q1,t1⟩:=qx0 s2 (r1.mono f2) e1
    obtain ⟨b,ws,rfl,q2,t2⟩:=qx0 s2 r2 e2
    have l1:=t1.length
    have l2:=t2.length
    exact ⟨a,b,vs,ws,rfl,rfl,q1,q2,by omega,fun p hp=>(post.ext (f1.trans f2)).lstR s2 hp (t1.append t2)⟩
  · cases hm
end
end M
namespace MI
open PySem PySem.Spec PyProof.Rows L2 M
@[irreducible] noncomputable def mC (d:D):ME:=M.mC d
theorem q46 {d:D}:mC d=M.mC d:=by unfold mC;rfl
@[irreducible] noncomputable def mVar (i:Nat):ME:=M.mVar i
theorem zo5 {i:Nat}:mVar i=M.mVar i:=by unfold mVar;rfl
@[irreducible] noncomputable def mOp (f:qa0→D→D→Option D) (a b:ME):ME:=M.mOp f a b
theorem qu0 {f:qa0→D→D→Option D} {a b:ME}:mOp f a b=M.mOp f a b:=by unfold mOp;rfl
@[irreducible] noncomputable def mTest (m:ME):MT:=M.mTest m
theorem qO7 {m:ME}:mTest m=M.mTest m:=by unfold mTest;rfl
@[irreducible] noncomputable def mChain (f g:qa0→D→D→Option D) (a b c:ME):ME:=M.mChain f g a b c
theorem qF2 {f g:qa0→D→D→Option D} {a b c:ME}:mChain f g a b c=M.mChain f g a b c:=by unfold mChain;rfl
@[irreducible] noncomputable def mTru (m:ME):MT:=M.mTru m
theorem q39 {m:ME}:mTru m=M.mTru m:=by unfold mTru;rfl
@[irreducible] noncomputable def mAndT (a b:MT):MT:=M.mAndT a b
theorem qP0 {a b:MT}:mAndT a b=M.mAndT a b:=by unfold mAndT;rfl
@[irreducible] noncomputable def mOrT (a b:MT):MT:=M.mOrT a b
theorem q40 {a b:MT}:mOrT a b=M.mOrT a b:=by unfold mOrT;rfl
@[irreducible] noncomputable def mNotT (a:MT):MT:=M.mNotT a
theorem za0 {a:MT}:mNotT a=M.mNotT a:=by unfold mNotT;rfl
@[irreducible] noncomputable def mAnd (a b:ME):ME:=M.mAndX a b
theorem zp8 {a b:ME}:mAnd a b=M.mAndX a b:=by unfold mAnd;rfl
@[irreducible] noncomputable def mOr (a b:ME):ME:=M.mOrX a b
theorem mOr_eq {a b:ME}:mOr a b=M.mOrX a b:=by unfold mOr;rfl
@[irreducible] noncomputable def mNotV (a:ME):ME:=M.mNotX a
theorem q99 {a:ME}:mNotV a=M.mNotX a:=by unfold mNotV;rfl
@[irreducible] noncomputable def mIf (t:MT) (a b:ME):ME:=M.mIf t a b
theorem mIf_eq {t:MT} {a b:ME}:mIf t a b=M.mIf t a b:=by unfold mIf;rfl
@[irreducible] noncomputable def mNil:MA:=M.mNil 
theorem q41  : mNil  = M.mNil  := by unfold mNil;rfl
@[irreducible] noncomputable def mCons (a:ME) (r:MA):MA:=M.mCons a r
theorem za7 {a:ME} {r:MA}:mCons a r=M.mCons a r:=by unfold mCons;rfl
@[irreducible] noncomputable def mTup (ms:MA):ME:=M.mTup ms
theorem zo6 {ms:MA}:mTup ms=M.mTup ms:=by unfold mTup;rfl
@[irreducible] noncomputable def mLst (ms:MA):ME:=M.mLst ms
theorem zp0 {ms:MA}:mLst ms=M.mLst ms:=by unfold mLst;rfl
@[irreducible] noncomputable def mLstR (ms:MA):ME:=M.mLstR ms
theorem za2 {ms:MA}:mLstR ms=M.mLstR ms:=by unfold mLstR;rfl
@[irreducible] noncomputable def mUn (f:qa0→D→Option D) (a:ME):ME:=M.mUn f a
theorem mUn_eq {f:qa0→D→Option D} {a:ME}:mUn f a=M.mUn f a:=by unfold mUn;rfl
@[irreducible] noncomputable def mPartN:MO:=M.mPartN 
theorem qW4  : mPartN  = M.mPartN  := by unfold mPartN;rfl
@[irreducible] noncomputable def mPart (m:ME):MO:=M.mPart m
theorem q98 {m:ME}:mPart m=M.mPart m:=by unfold mPart;rfl
@[irreducible] noncomputable def mSlice (a:ME) (lo hi:MO):ME:=M.mSlice a lo hi
theorem qW3 {a:ME} {lo hi:MO}:mSlice a lo hi=M.mSlice a lo hi:=by unfold mSlice;rfl
@[irreducible] noncomputable def mCall (f:List D→qa0→Option (D×qa0)) (ms:MA):ME:=M.mCall f ms
theorem qo5 {f:List D→qa0→Option (D×qa0)} {ms:MA}:mCall f ms=M.mCall f ms:=by unfold mCall;rfl
@[irreducible] noncomputable def mIsI (T:String) (m:ME):ME:=M.mIsI T m
theorem zp1 {T:String} {m:ME}:mIsI T m=M.mIsI T m:=by unfold mIsI;rfl
@[irreducible] noncomputable def mCallN (n:Nat) (f:List D→qa0→Option (D×qa0)) (ms:MA):ME:=M.mCallN n f ms
theorem qF3 {n:Nat} {f:List D→qa0→Option (D×qa0)} {ms:MA}:mCallN n f ms=M.mCallN n f ms:=by unfold mCallN;rfl
@[irreducible] noncomputable def mSkip:MS:=M.mSkip 
theorem qB8  : mSkip  = M.mSkip  := by unfold mSkip;rfl
@[irreducible] noncomputable def mSeq (a b:MS):MS:=M.mSeq a b
theorem zo7 {a b:MS}:mSeq a b=M.mSeq a b:=by unfold mSeq;rfl
@[irreducible] noncomputable def mRet (m:ME):MS:=M.mRet m
theorem zo8 {m:ME}:mRet m=M.mRet m:=by unfold mRet;rfl
@[irreducible] noncomputable def mDrop (m:ME):MS:=M.mDrop m
theorem za5 {m:ME}:mDrop m=M.mDrop m:=by unfold mDrop;rfl
@[irreducible] noncomputable def mIfS (t:MT) (a b:MS):MS:=M.mIfS t a b
theorem zp2 {t:MT} {a b:MS}:mIfS t a b=M.mIfS t a b:=by unfold mIfS;rfl
@[irreducible] noncomputable def gSet (i:Nat):MG:=M.gSet i
theorem qw1 {i:Nat}:gSet i=M.gSet i:=by unfold gSet;rfl
@[irreducible] noncomputable def gNilD:MGs:=M.gNilD 
theorem zc0  : gNilD  = M.gNilD  := by unfold gNilD;rfl
@[irreducible] noncomputable def gConsD (g:MG) (gs:MGs):MGs:=M.gConsD g gs
theorem qY3 {g:MG} {gs:MGs}:gConsD g gs=M.gConsD g gs:=by unfold gConsD;rfl
@[irreducible] noncomputable def gTupD (n:Nat) (gs:MGs):MG:=M.gTupD n gs
theorem qx3 {n:Nat} {gs:MGs}:gTupD n gs=M.gTupD n gs:=by unfold gTupD;rfl
@[irreducible] noncomputable def gSubD (o i:ME):MG:=M.gSubD o i
theorem zb9 {o i:ME}:gSubD o i=M.gSubD o i:=by unfold gSubD;rfl
@[irreducible] noncomputable def mAsg (m:ME) (g:MG):MS:=M.mAsg m g
theorem qm1 {m:ME} {g:MG}:mAsg m g=M.mAsg m g:=by unfold mAsg;rfl
@[irreducible] noncomputable def mRange1 (ms:MA):MA:=M.mRange1 ms
theorem qy5 {ms:MA}:mRange1 ms=M.mRange1 ms:=by unfold mRange1;rfl
@[irreducible] noncomputable def mRange2 (ms:MA):MA:=M.mRange2 ms
theorem qK8 {ms:MA}:mRange2 ms=M.mRange2 ms:=by unfold mRange2;rfl
@[irreducible] noncomputable def mFor (mi:MA) (g:MG) (body:MS):MS:=M.mFor mi g body
theorem zp3 {mi:MA} {g:MG} {body:MS}:mFor mi g body=M.mFor mi g body:=by unfold mFor;rfl
@[irreducible] noncomputable def mComp (mi:MA) (g:MG) (t:MT) (e:ME) (cap:List (Option Nat)):ME:=M.mComp mi g t e cap
theorem qO9 {mi:MA} {g:MG} {t:MT} {e:ME} {cap:List (Option Nat)}:mComp mi g t e cap=M.mComp mi g t e cap:=by unfold mComp;rfl
@[irreducible] noncomputable def mItS (m:ME):MA:=M.mItS m
theorem q43 {m:ME}:mItS m=M.mItS m:=by unfold mItS;rfl
@[irreducible] noncomputable def mTrue:MT:=M.mTrue 
theorem q97  : mTrue  = M.mTrue  := by unfold mTrue;rfl
@[irreducible] noncomputable def mMeth (f:MF) (o:ME) (ms:MA):ME:=M.mMeth f o ms
theorem za1 {f:MF} {o:ME} {ms:MA}:mMeth f o ms=M.mMeth f o ms:=by unfold mMeth;rfl
@[irreducible] noncomputable def mEnum (ms:MA):MA:=M.mEnum ms
theorem za4 {ms:MA}:mEnum ms=M.mEnum ms:=by unfold mEnum;rfl
@[irreducible] noncomputable def mPar (i j:Nat) (ms:MA):MS:=M.mPar i j ms
theorem zo9 {i j:Nat} {ms:MA}:mPar i j ms=M.mPar i j ms:=by unfold mPar;rfl
@[irreducible] noncomputable def mCnt (o:ME) (ms:MA):ME:=M.mCnt o ms
theorem zp7 {o:ME} {ms:MA}:mCnt o ms=M.mCnt o ms:=by unfold mCnt;rfl
@[irreducible] noncomputable def mZip (ms:MA):MA:=M.mZip ms
theorem zo3 {ms:MA}:mZip ms=M.mZip ms:=by unfold mZip;rfl
@[irreducible] noncomputable def mDict (ms:List (ME×ME)):ME:=M.mDict ms
theorem za6 {ms:List (ME×ME)}:mDict ms=M.mDict ms:=by unfold mDict;rfl
@[irreducible] noncomputable def mDictR (ms:List (ME×ME)):ME:=M.mDictR ms
theorem qW7 {ms:List (ME×ME)}:mDictR ms=M.mDictR ms:=by unfold mDictR;rfl
@[irreducible] noncomputable def mMethD (f:MF) (o:ME) (ms:MA):ME:=M.mMethD f o ms
theorem qW5 {f:MF} {o:ME} {ms:MA}:mMethD f o ms=M.mMethD f o ms:=by unfold mMethD;rfl
@[irreducible] noncomputable def mForD (m:ME) (g:MG) (body:MS):MS:=M.mForD m g body
theorem za3 {m:ME} {g:MG} {body:MS}:mForD m g body=M.mForD m g body:=by unfold mForD;rfl
@[irreducible] noncomputable def mListR (ms:MA):ME:=M.mListR ms
theorem qW6 {ms:MA}:mListR ms=M.mListR ms:=by unfold mListR;rfl
@[irreducible] noncomputable def mCompX (m:ME) (g:MG) (t:MT) (e:ME) (cap:List (Option Nat)):ME:=M.mCompX m g t e cap
theorem qF0 {m:ME} {g:MG} {t:MT} {e:ME} {cap:List (Option Nat)}:mCompX m g t e cap=M.mCompX m g t e cap:=by unfold mCompX;rfl
@[irreducible] noncomputable def mComp2 (mi:MA) (g:MG) (t:MT) (mi2:MA) (g2:MG) (t2:MT) (e:ME) (cap:List (Option Nat)):ME:=M.mComp2 mi g t mi2 g2 t2 e cap
theorem qF1 {mi:MA} {g:MG} {t:MT} {mi2:MA} {g2:MG} {t2:MT} {e:ME} {cap:List (Option Nat)}:mComp2 mi g t mi2 g2 t2 e cap=M.mComp2 mi g t mi2 g2 t2 e cap:=by unfold mComp2;rfl
@[irreducible] noncomputable def mCatR (a b:ME):ME:=M.mCatR a b
theorem za9 {a b:ME}:mCatR a b=M.mCatR a b:=by unfold mCatR;rfl
theorem zg4 {f:List D→qa0→Option (D×qa0)}:mCallN 0 f mNil=M.mCallN 0 f M.mNil:=by rw [qF3,q41]
theorem zg0 {f:qa0→D→D→Option D} {a b:ME}:mTest (mOp f a b)=M.mTest (M.mOp f a b):=by rw [qO7,qu0]
theorem zg1 {f g:qa0→D→D→Option D} {a b c:ME}:mTest (mChain f g a b c)=M.mTest (M.mChain f g a b c):=by rw [qO7,qF2]
theorem qy8 {m:ME} {i:Nat}:mAsg m (gSet i)=M.mAsg m (M.gSet i):=by rw [qm1,qw1]
theorem q47 {mi:MA} {g:MG} {t:MT} {e:ME} {cap:List (Option Nat)} {i:Nat}:mAsg (mComp mi g t e cap) (gSet i)=M.mAsg (M.mComp mi g t e cap) (M.gSet i):=by rw [qm1,qw1,qO9]
theorem qW8 {mi:ME} {g:MG} {t:MT} {e:ME} {cap:List (Option Nat)} {i:Nat}:mAsg (mCompX mi g t e cap) (gSet i)=M.mAsg (M.mCompX mi g t e cap) (M.gSet i):=by rw [qm1,qw1,qF0]
theorem qW9 {mi mi2:MA} {g g2:MG} {t t2:MT} {e:ME} {cap:List (Option Nat)} {i:Nat}:mAsg (mComp2 mi g t mi2 g2 t2 e cap) (gSet i)=M.mAsg (M.mComp2 mi g t mi2 g2 t2 e cap) (M.gSet i):=by rw [qm1,qw1,qF1]
section
variable {X:Cx} {e:Expr} {es:List Expr} {s:Stmt} {ss:List Stmt}
theorem qg6 {m m':ME} (h:m=m') (d:DE X e m'):DE X e m:=by rw [h];exact d
theorem zy0 {m m':MT} (h:m=m') (d:DT X e m'):DT X e m:=by rw [h];exact d
theorem castW {m m':MT} (h:m=m') (d:DW X e m'):DW X e m:=by rw [h];exact d
theorem castA {m m':MA} (h:m=m') (d:DA X es m'):DA X es m:=by rw [h];exact d
theorem castO {o:Option Expr} {m m':MO} (h:m=m') (d:DO X o m'):DO X o m:=by rw [h];exact d
theorem castG {m m':MG} (h:m=m') (d:DG X e m'):DG X e m:=by rw [h];exact d
theorem castGs {m m':MGs} (h:m=m') (d:DGs X es m'):DGs X es m:=by rw [h];exact d
theorem zi3 {tg:Expr} {m m':MA} (h:m=m') (d:DI X tg e m'):DI X tg e m:=by rw [h];exact d
theorem castIs {tg:Expr} {m m':MA} (h:m=m') (d:DIs X tg e m'):DIs X tg e m:=by rw [h];exact d
theorem castTs {m m':MT} (h:m=m') (d:DTs X es m'):DTs X es m:=by rw [h];exact d
theorem qt5 {m m':MS} (h:m=m') (d:DS X s m'):DS X s m:=by rw [h];exact d
theorem castSs {m m':MS} (h:m=m') (d:DSs X ss m'):DSs X ss m:=by rw [h];exact d
end
end MI
namespace MI
open PySem PySem.Spec PyProof.Rows L2 M
inductive GI where
  | fn (n:Nat) (f:List D→qa0→Option (D×qa0))
  | con (d:D)
  | blt
  | tab (l:List (Key×D))
structure CI where
  N:List Str
  sc:Scope
  all:Bool
  gs:List (Str×GI)
  mt:List Nat
noncomputable def GOk (X:Cx) (k:Nat) (x:Str):GI→Prop
  | .fn n f=>Fn X.prog X.w X.K X.mg X.base k x n f
  | .con d=>GC X.K X.mg x d
  | .blt=>X.mg x=none
  | .tab l=>TabAt X.w X.K X.mg x l
structure COk (k:Nat) (c:CI) (X:Cx):Prop where
  N:X.N=c.N
  nd:c.N.Nodup
  sc:X.env.scope=c.sc
  fk:c.sc.kind=.function
  fn:c.all=true→∀ x,X.fn x=true
  calm:X.calm=true
  room:Room k X.A
  xe:X.xe=fun _ _=>False
  gs:∀ p∈c.gs,GOk X k p.1 p.2
noncomputable def mNo:ME:=fun _ _=>none
noncomputable def mNoT:MT:=fun _ _=>none
noncomputable def mNoS:MS:=fun _ _=>none
noncomputable def mNoA:MA:=fun _ _=>none
noncomputable def gNo:MG:=fun _ _ _=>none
section
variable {X:Cx} {k:Nat} {c:CI} {e:Expr} {pos:Pos}
theorem qg9:DE X e mNo:=fun _ _ _ _ _ _ ⟨_,_,_,_,_,_,_,h,_⟩=>by cases h
theorem qQ1:DT X e mNoT:=fun _ _ _ _ _ _ ⟨_,_,_,_,_,_,_,h,_⟩=>by cases h
theorem qA3 {s:Stmt}:DS X s mNoS:=fun _ _ _ _ _ _ ⟨_,_,_,_,_,_,h,_⟩=>by cases h
theorem ds_asgNo {s:Stmt} {g:MG}:DS X s (mAsg mNo g):=by
  rw [show mAsg mNo g=mNoS from by rw [qm1];rfl]
  exact qA3
theorem dss_no {s:List Stmt}:DSs X s mNoS:=fun _ _ _ _ _ _ ⟨_,_,_,_,_,_,h,_⟩=>by cases h
theorem da_no {es:List Expr}:DA X es mNoA:=fun _ _ _ _ _ _ _ ⟨_,_,_,_,_,_,_,h,_⟩=>by cases h
theorem q65 {tg:Expr}:DI X tg e mNoA:=fun _ _ _ _ _ _ ⟨_,_,_,_,_,_,_,h,_⟩=>by cases h
theorem zx5:DG X e gNo:=fun _ _ _ _ _ _ _ _ _ ⟨_,_,_,_,_,_,_,_,_,h,_⟩=>by cases h
noncomputable def ixOf (x:Str):List Str→Option Nat
  | []=>none
  | y::r=>if x == y then some 0 else (ixOf x r).map (· + 1)
theorem qh7 {x:Str}:∀ {l:List Str} {i:Nat},ixOf x l=some i→l[i]?=some x
  | y::r,i,h=>by
    unfold ixOf at h
    split at h
    · rename_i e;cases h;simp at e;simp [e]
    · cases q:ixOf x r with
      | none=>rw [q] at h;cases h
      | some j=>rw [q] at h;cases h;simpa using qh7 q
noncomputable def qn1 (x:Str):Bool:=!(x == ("__debug__":Str)) && !(x == ("__classdict__":Str)) && !(x == ("__name__":Str))
theorem qj7 {x:Str} (h:qn1 x=true):(x == ("__debug__":Str))=false:=by
  unfold qn1 at h;rw [Bool.and_eq_true,Bool.and_eq_true] at h;simpa only [Bool.not_eq_true'] using h.1.1
theorem okName_c {x:Str} (h:qn1 x=true):(x == ("__classdict__":Str))=false:=by
  unfold qn1 at h;rw [Bool.and_eq_true,Bool.and_eq_true] at h;simpa only [Bool.not_eq_true'] using h.1.2
theorem qo2 {x:Str} (h:qn1 x=true):x ≠ "__name__":=by
  unfold qn1 at h;rw [Bool.and_eq_true,Bool.and_eq_true] at h
  have:=h.2
  rw [Bool.not_eq_true'] at this
  intro z;rw [z] at this;simp at this
noncomputable def gOf (c:CI) (x:Str):Option GI:=match c.sc.names.lookup x with | some .globalImplicit=>if qn1 x then c.gs.lookup x else none | _=>none
theorem qt3 {g:GI} {x:Str} (C:COk k c X) (h:gOf c x=some g):Gl X x∧qn1 x=true∧GOk X k x g:=by
  unfold gOf at h
  split at h
  · rename_i e
    split at h
    · rename_i o
      refine ⟨?_,o,C.gs _ (PySem.mem_of_lookup h)⟩
      show X.env.scope.names.lookup x=_
      rw [C.sc,e]
    · cases h
  · cases h
noncomputable def zv1 (c:CI) (x:Str):ME:=match c.sc.names.lookup x with
  | some .globalImplicit=>match gOf c x with | some (.con d)=>mC d | _=>mNo
  | some .local=>match ixOf x c.N with | some i=>if qn1 x then mVar i else mNo | none=>mNo
  | some .cell=>match ixOf x c.N with | some i=>if qn1 x then mVar i else mNo | none=>mNo
  | some .free=>match ixOf x c.N with | some i=>if qn1 x then mVar i else mNo | none=>mNo
  | _=>mNo
theorem qA1 (C:COk k c X) {x:Str} (hv:Vis c.sc x):DE X (.Name x pos) (match ixOf x c.N with | some i=>if qn1 x then mVar i else mNo | none=>mNo):=by
  split
  · rename_i i e
    split
    · rename_i o
      exact qg6 zo5 <| M.de_var (by rw [C.N];exact qh7 e) (by rw [C.sc];exact hv) (qj7 o) (okName_c o)
    · exact qg9
  · exact qg9
theorem zv0 (C:COk k c X) (x:Str):DE X (.Name x pos) (zv1 c x):=by
  unfold zv1
  split
  · split
    · rename_i d e
      obtain ⟨g,o,G⟩:=qt3 C e
      exact qg6 q46 <| M.de_glob G g (qj7 o)
    · exact qg9
  · rename_i e;exact qA1 C (.inl e)
  · rename_i e;exact qA1 C (.inr (.inl e))
  · rename_i e;exact qA1 C (.inr (.inr e))
  · exact qg9
noncomputable def zv9:Const→ME
  | .int i=>mC (.int i)
  | .bool b=>mC (.bl b)
  | .none=>mC .non
  | .str x=>mC (.str x)
  | _=>mNo
theorem zh6 (v:Const) {j:Nat}:DE X (.Constant v j pos) (zv9 v):=by
  cases v <;> first | exact qg6 q46 <| M.de_int | exact qg6 q46 <| M.de_bl | exact qg6 q46 <| M.de_non | exact qg6 q46 <| M.de_str | exact qg9
noncomputable def evBin (z:Bool) (op:Operator) (a b:ME):ME:=match op with
  | .Add=>mOp qc7 a b
  | .Sub=>mOp fSub a b
  | .Mult=>mOp qj3 a b
  | .Mod=>mOp fMod a b
  | .FloorDiv=>mOp fDiv a b
  | .Pow=>mOp fPow a b
  | _=>mNo
theorem evBin_ok {z:Bool} {op:Operator} {a b:Expr} {ma mb:ME} (ha:DE X a ma) (hb:DE X b mb):DE X (.BinOp a op b pos) (evBin z op ma mb):=by
  cases op <;> first | exact qg9 | skip
  · exact qg6 qu0 <| M.de_op op_AddX ha hb
  · exact qg6 qu0 <| M.de_op op_Sub ha hb
  · exact qg6 qu0 <| M.de_op op_MulX ha hb
  · exact qg6 qu0 <| M.de_op op_Mod ha hb
  · exact qg6 qu0 <| M.de_op op_Pow ha hb
  · exact qg6 qu0 <| M.de_op op_Div ha hb
noncomputable def evCat (op:Operator) (a b:ME):ME:=match op with
  | .Add=>mCatR a b
  | _=>mNo
theorem evCat_ok {op:Operator} {a b:Expr} {ma mb:ME} (ha:DE X a ma) (hb:DE X b mb):DE X (.BinOp a op b pos) (evCat op ma mb):=by
  cases op <;> first | exact qg9 | exact qg6 za9 <| M.de_catR ha hb
noncomputable def evUn (op:UnaryOp) (a:ME):ME:=match op with
  | .Not=>mNotV a
  | .USub=>mUn fNeg a
  | _=>mNo
theorem evUn_ok {op:UnaryOp} {a:Expr} {ma:ME} (ha:DE X a ma):DE X (.UnaryOp op a pos) (evUn op ma):=by
  cases op <;> first | exact qg9 | skip
  · exact qg6 q99 <| M.de_notX ha
  · exact qg6 mUn_eq <| M.de_un un_NegF ha
noncomputable def cmpF:CmpOp→Option (qa0→D→D→Option D)
  | .Eq=>some fEq
  | .NotEq=>some fNe
  | .Lt=>some fLt
  | .LtE=>some fLe
  | .Gt=>some fGt
  | .GtE=>some fGe
  | .In=>some fIn
  | .NotIn=>some qL8
  | .Is=>some fIs
  | .IsNot=>some qG6
theorem qA4 {op:CmpOp} {f:qa0→D→D→Option D} (r:Room k X.A) (h:cmpF op=some f):OpR X (compareOp op) (rM2 X.K f):=by
  cases op <;> cases h
  · exact op_Eq r.units
  · exact op_Ne r.units
  · exact op_Lt
  · exact op_Le
  · exact op_Gt
  · exact op_Ge
  · exact op_Is
  · exact op_IsNot
  · exact op_In r.units
  · exact op_NotIn r.units
noncomputable def qq9:Expr→Bool
  | .Set _ _ _=>false
  | _=>true
theorem qo3 {op:CmpOp} (h:qq9 e=true):behindInMarks op e=false:=by cases e <;> first | rfl | cases h
theorem qi6 (h:qq9 e=true) (x:Value):foldedSetIterable e X.env x=pure x:=by cases e <;> first | rfl | cases h
noncomputable def evCmp (c:CI) (E:CI→Expr→ME) (a:Expr) (ops:List CmpOp) (bs:List Expr):ME:=match ops,bs with
  | [op],[b]=>if qq9 b then (match cmpF op with | some f=>mOp f (E c a) (E c b) | none=>mNo) else mNo
  | [op,op'],[b,d]=>if qq9 d then (match cmpF op,cmpF op' with | some f,some g=>mChain f g (E c a) (E c b) (E c d) | _,_=>mNo) else mNo
  | _,_=>mNo
noncomputable def zw1 (c:CI) (E:CI→Expr→ME) (a:Expr) (ops:List CmpOp) (bs:List Expr):MT:=match ops,bs with
  | [op],[b]=>if qq9 b then (match cmpF op with | some f=>mTest (mOp f (E c a) (E c b)) | none=>mNoT) else mNoT
  | [op,op'],[b,d]=>if qq9 d then (match cmpF op,cmpF op' with | some f,some g=>mTest (mChain f g (E c a) (E c b) (E c d)) | _,_=>mNoT) else mNoT
  | _,_=>mNoT
section
variable {E:CI→Expr→ME} {T:CI→Expr→MT}
theorem evCmp_ok (C:COk k c X) (hE:∀ e,DE X e (E c e)) {a:Expr} {ops:List CmpOp} {bs:List Expr}:DE X (.Compare a ops bs pos) (evCmp c E a ops bs):=by
  unfold evCmp
  split
  · split
    · rename_i hm
      split
      · rename_i f h;exact qg6 qu0 <| M.de_cmp (qA4 C.room h) (hE _) (hE _) (qo3 hm)
      · exact qg9
    · exact qg9
  · split
    · rename_i hm
      split
      · rename_i f g h1 h2;exact qg6 qF2 <| M.de_chain (qA4 C.room h1) (qA4 C.room h2) (hE _) (hE _) (hE _) (qo3 hm)
      · exact qg9
    · exact qg9
  · exact qg9
theorem zw0 (C:COk k c X) (hE:∀ e,DE X e (E c e)) {a:Expr} {ops:List CmpOp} {bs:List Expr}:DT X (.Compare a ops bs pos) (zw1 c E a ops bs):=by
  unfold zw1
  split
  · split
    · rename_i hm
      split
      · rename_i f h;exact zy0 zg0 <| M.dt_cmp (qA4 C.room h) (hE _) (hE _) (qo3 hm)
      · exact qQ1
    · exact qQ1
  · split
    · rename_i hm
      split
      · rename_i f g h1 h2;exact zy0 zg1 <| M.dt_chain (qA4 C.room h1) (qA4 C.room h2) (hE _) (hE _) (hE _) (qo3 hm)
      · exact qQ1
    · exact qQ1
  · exact qQ1
noncomputable def zt2 (f:ME→ME→ME):List ME→ME
  | []=>mNo
  | [m]=>m
  | m::r=>f m (zt2 f r)
noncomputable def q55 (f:MT→MT→MT):List MT→MT
  | []=>mNoT
  | [m]=>m
  | m::r=>f m (q55 f r)
theorem qY5 {E:Expr→ME} (hE:∀ e,DE X e (E e)):∀ vs:List Expr,DE X (.BoolOp .And vs pos) (zt2 mAnd (vs.map E))
  | []=>qg9
  | [e]=>de_one (hE e)
  | e::e'::r=>qg6 zp8 <| M.de_andX (hE e) (qY5 hE (e'::r))
theorem zc3 {E:Expr→ME} (hE:∀ e,DE X e (E e)):∀ vs:List Expr,DE X (.BoolOp .Or vs pos) (zt2 mOr (vs.map E))
  | []=>qg9
  | [e]=>de_one (hE e)
  | e::e'::r=>qg6 mOr_eq <| M.de_orX (hE e) (zc3 hE (e'::r))
theorem zt1 {E:Expr→MT} (hE:∀ e,DT X e (E e)):∀ vs:List Expr,DT X (.BoolOp .And vs pos) (q55 mAndT (vs.map E))
  | []=>qQ1
  | [e]=>dt_w (zw7 (hE e))
  | e::e'::r=>dt_w (castW qP0 <| M.dw_and (hE e) (foldT_andW hE (e'::r) (by simp)))
where foldT_andW {E:Expr→MT} (hE:∀ e,DT X e (E e)):∀ vs:List Expr,vs≠[]→DW X (.BoolOp .And vs pos) (q55 mAndT (vs.map E))
  | [],h=>absurd rfl h
  | [e],_=>zw7 (hE e)
  | e::e'::r,_=>castW qP0 <| M.dw_and (hE e) (foldT_andW hE (e'::r) (by simp))
theorem foldT_or {E:Expr→MT} (hE:∀ e,DT X e (E e)):∀ vs:List Expr,DT X (.BoolOp .Or vs pos) (q55 mOrT (vs.map E))
  | []=>qQ1
  | [e]=>dt_w (dw_or1 (hE e))
  | e::e'::r=>dt_w (castW q40 <| M.dw_or (hE e) (foldT_orW hE (e'::r) (by simp)))
where foldT_orW {E:Expr→MT} (hE:∀ e,DT X e (E e)):∀ vs:List Expr,vs≠[]→DW X (.BoolOp .Or vs pos) (q55 mOrT (vs.map E))
  | [],h=>absurd rfl h
  | [e],_=>dw_or1 (hE e)
  | e::e'::r,_=>castW q40 <| M.dw_or (hE e) (foldT_orW hE (e'::r) (by simp))
noncomputable def qg8:Expr→Bool
  | .Starred _ _=>false
  | _=>true
theorem qd1 {es:List Expr} (h:qg8 e=true):starEach (e::es) X.env=(false,eval e X.env)::starEach es X.env:=by cases e <;> first | rfl | cases h
theorem qp3:∀ {es:List Expr},es.all qg8=true→(backTo pos (starEach es X.env)).any (·.1)=false
  | [],_=>rfl
  | e::es,h=>by
    rw [List.all_cons,Bool.and_eq_true] at h
    rw [qd1 h.1]
    show (false||(backTo pos (starEach es X.env)).any (·.1))=false
    rw [qp3 h.2];rfl
noncomputable def evA (E:Expr→ME):List Expr→MA
  | []=>mNil
  | e::r=>if qg8 e then mCons (E e) (evA E r) else mNoA
theorem qm7 {E:Expr→ME} (hE:∀ e,DE X e (E e)):∀ es:List Expr,DA X es (evA E es)
  | []=>castA q41 <| M.da_nil
  | e::r=>by
    unfold evA
    split
    · rename_i h;exact castA za7 <| M.da_cons (hE e) (qm7 hE r) (qd1 h)
    · exact da_no
noncomputable def evO (E:Expr→ME):Option Expr→MO
  | none=>mPartN
  | some e=>mPart (E e)
theorem evO_ok {E:Expr→ME} (hE:∀ e,DE X e (E e)):∀ o:Option Expr,DO X o (evO E o)
  | none=>castO qW4 <| M.do_none
  | some e=>castO q98 <| M.do_some (hE e)
noncomputable def zj5 (c:CI):Expr→Option (List (Key×D))
  | .Name x _=>match gOf c x with | some (.tab l)=>some l | _=>none
  | _=>none
theorem ze3 {a:Expr} {l:List (Key×D)} (C:COk k c X) (h:zj5 c a=some l):∃ x p,a=.Name x p∧Gl X x∧qn1 x=true∧TabAt X.w X.K X.mg x l:=by
  unfold zj5 at h
  split at h
  · split at h
    · rename_i e
      cases h
      obtain ⟨g,o,G⟩:=qt3 C e
      exact ⟨_,_,rfl,g,o,G⟩
    · cases h
  · cases h
noncomputable def evSub (c:CI) (E:Expr→ME) (a i:Expr):ME:=match i with
  | .Slice lo hi st _=>match st with | none=>mSlice (E a) (evO E lo) (evO E hi) | some st=>(match lo,hi with | none,none=>mNo | _,_=>mNo)
  | i=>match zj5 c a with | some l=>mNo | none=>mOp fIxX (E a) (E i)
theorem zu8 (C:COk k c X) {E:Expr→ME} (hE:∀ e,DE X e (E e)) (a i:Expr) (hs:q74 i:=by intro _ _;rfl):DE X (.Subscript a i pos) (match zj5 c a with | some l=>mNo | none=>mOp fIxX (E a) (E i)):=by
  cases ht:zj5 c a with
  | none=>exact qg6 qu0 <| M.de_ixX (by have:=C.room.units;omega) (hE a) (hE _) hs
  | some l=>
    obtain ⟨x,p,rfl,g,o,G⟩:=ze3 C ht
    exact qg9
theorem evSub_ok (C:COk k c X) {E:Expr→ME} (hE:∀ e,DE X e (E e)) (a i:Expr):DE X (.Subscript a i pos) (evSub c E a i):=by
  cases i with
  | Slice lo hi st p=>
    cases st with
    | none=>exact qg6 qW3 <| M.de_slice (hE a) (evO_ok hE lo) (evO_ok hE hi)
    | some st=>
      cases lo with
      | none=>
        cases hi with
        | none=>exact qg9
        | some _=>exact qg9
      | some _=>exact qg9
  | _=>exact zu8 C hE a _
noncomputable def qV1:Expr→Option Str
  | .Name x _=>some x
  | _=>none
theorem qu6 {x:Str} (h:qV1 e=some x):∃ p,e=.Name x p:=by cases e <;> cases h;exact ⟨_,rfl⟩
noncomputable def qM2:Expr→Option (Str×List Expr)
  | .Call f es [] _=>(qV1 f).map fun x=>(x,es)
  | _=>none
theorem qq6 {x:Str} {es:List Expr} (h:qM2 e=some (x,es)):∃ p p2,e=.Call (.Name x p) es [] p2:=by
  cases e with
  | Call f es' ks p2=>
    cases ks with
    | nil=>
      obtain ⟨y,h1,h2⟩:=Option.map_eq_some_iff.mp h
      cases h2
      obtain ⟨p,rfl⟩:=qu6 h1
      exact ⟨p,p2,rfl⟩
    | cons _ _=>cases h
  | _=>cases h
noncomputable def qG0 (c:CI) (x:Str):Bool:=match gOf c x with | some .blt=>true | _=>false
theorem qt2 {x:Str} (C:COk k c X) (h:qG0 c x=true):X.mg x=none∧Gl X x∧qn1 x=true:=by
  unfold qG0 at h
  split at h
  · rename_i e;obtain ⟨a,b,d⟩:=qt3 C e;exact ⟨d,a,b⟩
  · cases h
noncomputable def zk0 (c:CI) (es:List Expr):Option Expr:=match es with
  | [e1]=>match qM2 e1 with
    | some (y,[a])=>if y == "set" && qG0 c y&&qg8 a then some a else none
    | _=>none
  | _=>none
theorem q07 {es:List Expr} {a:Expr} (h:zk0 c es=some a):∃ p p2,es=[.Call (.Name "set" p) [a] [] p2]∧qG0 c "set" = true∧qg8 a=true:=by
  unfold zk0 at h
  split at h
  · split at h
    · rename_i hc
      split at h
      · rename_i hb
        cases h
        rw [Bool.and_eq_true,Bool.and_eq_true] at hb
        obtain ⟨p,p2,rfl⟩:=qq6 hc
        have z:=hb.1.1
        rw [beq_iff_eq] at z;subst z
        exact ⟨p,p2,rfl,hb.1.2,hb.2⟩
      · cases h
    · cases h
  · cases h
noncomputable def qN5 (c:CI) (es:List Expr):Option Expr:=match es with
  | [e1]=>match qM2 e1 with
    | some (y,[a])=>if y == "range" && qG0 c y&&qg8 a then some a else none
    | _=>none
  | _=>none
theorem qN4 {es:List Expr} {a:Expr} (h:qN5 c es=some a):∃ p p2,es=[.Call (.Name "range" p) [a] [] p2]∧qG0 c "range" = true∧qg8 a=true:=by
  unfold qN5 at h
  split at h
  · split at h
    · rename_i hc
      split at h
      · rename_i hb
        cases h
        rw [Bool.and_eq_true,Bool.and_eq_true] at hb
        obtain ⟨p,p2,rfl⟩:=qq6 hc
        have z:=hb.1.1
        rw [beq_iff_eq] at z;subst z
        exact ⟨p,p2,rfl,hb.1.2,hb.2⟩
      · cases h
    · cases h
  · cases h
noncomputable def bltF (z:Bool) (x:Str):Option (List D→qa0→Option (D×qa0)):=
  if x == "len" then some (qb3 fLen) else if x == "int" then some (qb3 qz9) else if x == "max" then some (qb3 qB6) else if x == "min" then some (qb3 zu0)
  else if x == "list" then some (qb3 (qi5 .lst)) else if x == "tuple" then some (qb3 (qi5 .tup)) else if x == "all" then some (qb3 fAll) else none
theorem bltF_ok {zz:Bool} {x:Str} {f:List D→qa0→Option (D×qa0)} {es:List Expr} {ms:MA} {p:Pos} (C:COk k c X) (h:bltF zz x=some f) (hm:X.mg x=none) (hg:Gl X x) (o:qn1 x=true) (hs:(e::es).all qg8=true) (ha:DA X (e::es) ms) :
    DE X (.Call (.Name x p) (e::es) [] pos) (mCall f ms):=by
  rw [List.all_cons,Bool.and_eq_true] at hs
  have q1:=qd1 (X:=X) (es:=es) hs.1
  have q2:=qp3 (X:=X) (pos:=pos) hs.2
  unfold bltF at h
  split at h
  · rename_i z;cases h;rw [beq_iff_eq] at z;subst z;exact qg6 qo5 <| M.de_callB call_Len hm boot_len ha hg (qo2 o) (qj7 o) q1 q2
  split at h
  · rename_i z;cases h;rw [beq_iff_eq] at z;subst z;exact qg6 qo5 <| M.de_callTy call_Int hm boot_int ha hg (qo2 o) (qj7 o) q1 q2
  split at h
  · rename_i z;cases h;rw [beq_iff_eq] at z;subst z;exact qg6 qo5 <| M.de_callB (zy8 C.calm) hm boot_max ha hg (qo2 o) (qj7 o) q1 q2
  split at h
  · rename_i z;cases h;rw [beq_iff_eq] at z;subst z;exact qg6 qo5 <| M.de_callB (zy7 C.calm) hm boot_min ha hg (qo2 o) (qj7 o) q1 q2
  split at h
  · rename_i z;cases h;rw [beq_iff_eq] at z;subst z;exact qg6 qo5 <| M.de_callTy zz0 hm boot_list ha hg (qo2 o) (qj7 o) q1 q2
  split at h
  · rename_i z;cases h;rw [beq_iff_eq] at z;subst z;exact qg6 qo5 <| M.de_callTy zi4 hm boot_tuple ha hg (qo2 o) (qj7 o) q1 q2
  split at h
  · rename_i z;cases h;rw [beq_iff_eq] at z;subst z;exact qg6 qo5 <| M.de_callB (call_All C.calm) hm boot_all ha hg (qo2 o) (qj7 o) q1 q2
  cases h
noncomputable def tyOf (x:Str):Option String:=if x == "int" then some "int" else if x == "bool" then some "bool" else if x == "str" then some "str" else if x == "tuple" then some "tuple" else if x == "list" then some "list" else if x == "dict" then some "dict" else none
theorem zj1 {x:Str} {T:String} (h:tyOf x=some T):bootBuiltins x=some (.type T)∧(T = "int"∨T = "bool"∨T = "str"∨T = "tuple"∨T = "list"∨T = "dict"):=by
  unfold tyOf at h
  split at h
  · rename_i z;cases h;rw [beq_iff_eq] at z;subst z;exact ⟨boot_int,by simp⟩
  split at h
  · rename_i z;cases h;rw [beq_iff_eq] at z;subst z;exact ⟨boot_bool,by simp⟩
  split at h
  · rename_i z;cases h;rw [beq_iff_eq] at z;subst z;exact ⟨boot_str,by simp⟩
  split at h
  · rename_i z;cases h;rw [beq_iff_eq] at z;subst z;exact ⟨boot_tuple,by simp⟩
  split at h
  · rename_i z;cases h;rw [beq_iff_eq] at z;subst z;exact ⟨boot_list,by simp⟩
  split at h
  · rename_i z;cases h;rw [beq_iff_eq] at z;subst z;exact ⟨boot_dict,by simp⟩
  cases h
noncomputable def evIsI (c:CI) (E:Expr→ME):List Expr→ME
  | [a,t]=>match qV1 t with
    | some y=>match gOf c y,tyOf y with | some .blt,some T=>if qg8 a then mIsI T (E a) else mNo | _,_=>mNo
    | none=>mNo
  | _=>mNo
noncomputable def zc8 (c:CI) (E:Expr→ME) (x:Str) (es:List Expr):ME:=match gOf c x with
  | some (.fn n f)=>match es with
    | []=>if n == 0 then mCallN 0 f mNil else mNo
    | e::r=>if (e::r).all qg8 then mCallN n f (evA E (e::r)) else mNo
  | some .blt=>if x == "isinstance" then evIsI c E es else match (if x == "len" then zk0 c es else none) with
    | some a=>mNo
    | none=>match (if x == "list" then qN5 c es else none) with
     | some a=>mListR (evA E [a])
     | none=>match bltF (c.mt.contains 400000) x,es with
      | some f,e::r=>if (e::r).all qg8 then mCall f (evA E (e::r)) else mNo
      | _,_=>mNo
  | _=>mNo
theorem zw2 (C:COk k c X) {E:Expr→ME} (hE:∀ e,DE X e (E e)) {x:Str} {es:List Expr} {p:Pos}:DE X (.Call (.Name x p) es [] pos) (zc8 c E x es):=by
  unfold zc8
  split
  · rename_i n f hg
    obtain ⟨g,o,G⟩:=qt3 C hg
    split
    · split
      · rename_i hn
        have:n=0:=by simpa using hn
        subst this
        exact qg6 zg4 <| M.de_call0 G C.room g (qj7 o)
      · exact qg9
    · split
      · rename_i hs
        have hs':=hs
        rw [List.all_cons,Bool.and_eq_true] at hs
        exact qg6 qF3 <| M.de_call G C.room (qm7 hE _) g (qj7 o) (qd1 hs.1) (qp3 hs.2)
      · exact qg9
  · rename_i hg
    obtain ⟨g,o,G⟩:=qt3 C hg
    split
    · rename_i z
      rw [beq_iff_eq] at z;subst z
      unfold evIsI
      split
      · split
        · rename_i y hy
          obtain ⟨p2,rfl⟩:=qu6 hy
          split
          · rename_i T h1 h2
            obtain ⟨g',o',G'⟩:=qt3 C h1
            split
            · rename_i hs
              exact qg6 zp1 <| M.de_isinst G G' (zj1 h2).1 (hE _) (zj1 h2).2 g g' (qo2 o') (qj7 o') (qd1 hs) rfl rfl
            · exact qg9
          · exact qg9
        · exact qg9
      · exact qg9
    · split
      · rename_i a ha
        split at ha
        · rename_i z
          rw [beq_iff_eq] at z;subst z
          obtain ⟨p3,p4,rfl,hb,hs⟩:=q07 ha
          obtain ⟨m2,g2,o2⟩:=qt2 C hb
          exact qg9
        · cases ha
      · split
        · rename_i a ha
          split at ha
          · rename_i z
            rw [beq_iff_eq] at z;subst z
            obtain ⟨p3,p4,rfl,hb,hs⟩:=qN4 ha
            obtain ⟨m2,g2,o2⟩:=qt2 C hb
            exact qg6 qW6 (M.de_listR C.calm G m2 g g2 (qm7 hE _) (qd1 hs))
          · cases ha
        · split
          · rename_i _ f e r hf
            split
            · rename_i hs
              exact bltF_ok C (by assumption) G g o hs (qm7 hE _)
            · exact qg9
          · exact qg9
  · exact qg9
noncomputable def zz1:Expr→Option (Expr×Str×Pos)
  | .Attribute o nm ap=>some (o,nm,ap)
  | _=>none
theorem q70 {o:Expr} {nm:Str} {ap:Pos} (h:zz1 e=some (o,nm,ap)):e=.Attribute o nm ap:=by cases e <;> cases h;rfl
noncomputable def methF (x:Str):Option MF:=if x == "append" then some qm5 else if x == "insert" then some qq4 else if x == "count" then some qA0 else if x == "extend" then some qs6 else none
theorem methF_ok {x:Str} {f:MF} (C:COk k c X) (h:methF x=some f):∃ id,Slot "list" x id∧typeOf (.builtin id)=pure (.type "method_descriptor")∧MtR X id (rMM X.K f):=by
  unfold methF at h
  split at h
  · rename_i z;cases h;rw [beq_iff_eq] at z;subst z;exact ⟨_,F.slot_list_append,F.type_list_append,zn8⟩
  split at h
  · rename_i z;cases h;rw [beq_iff_eq] at z;subst z;exact ⟨_,F.slot_list_insert,F.type_list_insert,zn5⟩
  split at h
  · rename_i z;cases h;rw [beq_iff_eq] at z;subst z;exact ⟨_,F.slot_list_count,F.type_list_count,q96 C.room.units⟩
  split at h
  · rename_i z;cases h;rw [beq_iff_eq] at z;subst z;exact ⟨_,F.slot_list_extend,F.type_list_extend,zn6⟩
  cases h
noncomputable def zo0 (x:Str):Option MF:=if x == "update" then some q56 else none
theorem zn9 {x:Str} {f:MF} (C:COk k c X) (h:zo0 x=some f):∃ id,Slot "dict" x id∧typeOf (.builtin id)=pure (.type "method_descriptor")∧MtR X id (rMM X.K f):=by
  unfold zo0 at h
  split at h
  · rename_i z;cases h;rw [beq_iff_eq] at z;subst z;exact ⟨_,F.slot_dict_update,F.type_dict_update,mt_UpdD⟩
  cases h
theorem q84:∀ {es:List Expr},es.all qg8=true→(backTo pos (starEach es X.env)).all (fun x=>!x.1)=true
  | [],_=>rfl
  | e::es,h=>by
    rw [List.all_cons,Bool.and_eq_true] at h
    rw [qd1 h.1]
    show (true&&(backTo pos (starEach es X.env)).all (fun x=>!x.1))=true
    rw [q84 h.2];rfl
noncomputable def plainO (o:Expr):Bool:=match o with | .Call _ _ _ _=>false | _=>true
noncomputable def zc7 (z:Bool) (E:Expr→ME) (o:Expr) (nm:Str) (ap cp:Pos) (es:List Expr):ME:=match plainO o,es with
  | true,e::r=>if (e::r).all qg8&&(decide ((e::r).length<30)&&ap.endLine == cp.line) then
      (if nm == "count" then mCnt (E o) (evA E (e::r)) else match zo0 nm with | some f=>mMethD f (E o) (evA E (e::r)) | none=>match methF nm with | some f=>mMeth f (E o) (evA E (e::r)) | none=>mNo) else mNo
  | _,_=>mNo
theorem zv2 {z:Bool} (C:COk k c X) {E:Expr→ME} (hE:∀ e,DE X e (E e)) {o:Expr} {nm:Str} {ap:Pos} {es:List Expr}:DE X (.Call (.Attribute o nm ap) es [] pos) (zc7 z E o nm ap pos es):=by
  unfold zc7
  split
  · rename_i e r hx
    split
    · rename_i h
      rw [Bool.and_eq_true,Bool.and_eq_true] at h
      have hs:=h.1
      rw [List.all_cons,Bool.and_eq_true] at hs
      have few:((backTo pos (starEach (e::r) X.env)).all (fun x=>!x.1)&&(backToKw pos (keywordEach [] X.env)).all (fun x=>x.1.isSome)&&decide ((e::r).length+([]:List Keyword).length+(if ([]:List Keyword).isEmpty then 0 else 1)<30))=true:=by
        rw [q84 h.1]
        show (true&&decide ((e::r).length+0+0<30))=true
        exact h.2.1
      split
      · rename_i hc
        rw [beq_iff_eq] at hc;subst hc
        exact qg6 zp7 (M.de_cnt C.room.units (hE _) (qm7 hE _) (qQ7 hx) few h.2.2 (qd1 hs.1) (qp3 hs.2))
      · split
        · rename_i f hf
          obtain ⟨id,h1,h2,h3⟩:=zn9 C hf
          exact qg6 qW5 (M.de_methD h1 h2 h3 (hE _) (qm7 hE _) (qQ7 hx) few h.2.2 (qd1 hs.1) (qp3 hs.2))
        · split
          · rename_i f hf
            obtain ⟨id,h1,h2,h3⟩:=methF_ok C hf
            exact qg6 za1 (M.de_meth h1 h2 h3 (hE _) (qm7 hE _) (qQ7 hx) few h.2.2 (qd1 hs.1) (qp3 hs.2))
          · exact qg9
    · exact qg9
  · exact qg9
noncomputable def q91:Expr→Bool
  | .Slice _ _ _ _=>false
  | _=>true
noncomputable def evGs (G:Expr→MG):List Expr→MGs
  | []=>gNilD
  | e::r=>gConsD (if qg8 e then G e else gNo) (evGs G r)
noncomputable def evGn (c:CI) (x:Str):MG:=match c.sc.names.lookup x,ixOf x c.N with
  | some .local,some i=>gSet i
  | some .cell,some i=>if c.all then gSet i else gNo
  | _,_=>gNo
noncomputable def evG1 (c:CI) (E:Expr→ME):Expr→MG
  | .Name x _=>evGn c x
  | .Subscript o i _=>if q91 i then gSubD (E o) (E i) else gNo
  | _=>gNo
noncomputable def evG (c:CI) (E:Expr→ME):Expr→MG
  | .Tuple es _ _=>if es.all qg8 then gTupD es.length (evGs (fun e=>match e with | .Tuple es _ _=>if es.all qg8 then gTupD es.length (evGs (evG1 c E) es) else gNo | e=>evG1 c E e) es) else gNo
  | e=>evG1 c E e
theorem evGn_ok (C:COk k c X) (x:Str):DG X (.Name x pos) (evGn c x):=by
  unfold evGn
  split
  · rename_i h1 h2
    exact castG qw1 <| M.dg_name (by rw [C.N];exact C.nd) (by rw [C.N];exact qh7 h2) (by rw [C.sc];exact .inl h1) (.inr (by rw [C.sc];exact h1))
  · rename_i h1 h2
    split
    · rename_i ha
      exact castG qw1 <| M.dg_name (by rw [C.N];exact C.nd) (by rw [C.N];exact qh7 h2) (by rw [C.sc];exact .inr h1) (.inl (C.fn ha x))
    · exact zx5
  · exact zx5
theorem evG1_ok (C:COk k c X) {E:Expr→ME} (hE:∀ e,DE X e (E e)) (e:Expr):DG X e (evG1 c E e):=by
  cases e with
  | Name x p=>exact evGn_ok C x
  | Subscript o i p=>
    show DG X _ (if q91 i then gSubD (E o) (E i) else gNo)
    split
    · rename_i h
      refine castG zb9 (M.dg_sub (hE o) (hE i) ?_)
      cases i <;> first | (intro _;rfl) | cases h
    · exact zx5
  | _=>exact zx5
theorem qH6 {es:List Expr} (h:qg8 e=true):assignEach (e::es) X.env=(false,assign e X.env)::assignEach es X.env:=by cases e <;> first | rfl | cases h
theorem q71:∀ {es:List Expr},es.all qg8=true→(assignEach es X.env).length=es.length∧(assignEach es X.env).findIdx? (·.1)=none
  | [],_=>⟨rfl,rfl⟩
  | e::es,h=>by
    rw [List.all_cons,Bool.and_eq_true] at h
    rw [qH6 h.1]
    obtain ⟨a,b⟩:=q71 h.2
    exact ⟨by simp [a],by simp [List.findIdx?_cons,b]⟩
theorem zv6 {G:Expr→MG} (hG:∀ e,DG X e (G e)):∀ es:List Expr,es.all qg8=true→DGs X es (evGs G es)
  | [],_=>castGs zc0 <| M.dgs_nil
  | e::r,h=>by
    rw [List.all_cons,Bool.and_eq_true] at h
    unfold evGs
    rw [if_pos h.1]
    exact castGs qY3 <| M.dgs_cons (hG e) (zv6 hG r h.2) (by rw [qH6 h.1];rfl)
theorem zv5 (C:COk k c X) {G:Expr→MG} (hG:∀ e,DG X e (G e)) (es:List Expr) (j:Nat):DG X (.Tuple es j pos) (if es.all qg8 then gTupD es.length (evGs G es) else gNo):=by
  split
  · rename_i h
    exact castG qx3 <| M.dg_tup C.calm (zv6 hG es h) (q71 h).1 (q71 h).2
  · exact zx5
theorem qr4 (C:COk k c X) {E:Expr→ME} (hE:∀ e,DE X e (E e)) (e:Expr):DG X e (evG c E e):=by
  have h1:=evG1_ok C hE
  cases e with
  | Tuple es j p=>
    refine zv5 C (fun e=>?_) es j
    cases e with
    | Tuple es j p=>exact zv5 C h1 es j
    | _=>exact h1 _
  | _=>exact h1 _
noncomputable def evI (c:CI) (E:Expr→ME) (tg it:Expr):MA:=match qM2 it with
  | some (x,es)=>if x == "enumerate" && qG0 c x then (match tg,es with
      | .Tuple _ _ _,[a]=>if qg8 a then mEnum (evA E [a]) else mNoA
      | _,_=>mNoA) else if x == "zip" && qG0 c x then (match tg,es with
      | .Tuple _ _ tp,[a,b]=>if qg8 a&&qg8 b then (mZip (evA E [a,b])) else mNoA
      | _,_=>mNoA) else if x == "range" && qG0 c x then (match es with
      | [a]=>if qg8 a then mRange1 (evA E [a]) else mNoA
      | [a,b]=>if qg8 a&&qg8 b then mRange2 (evA E [a,b]) else mNoA
      | _=>mNoA) else mItS (E it)
  | none=>mItS (E it)
theorem qY9 (C:COk k c X) {E:Expr→ME} (hE:∀ e,DE X e (E e)) {tg it:Expr}:DI X tg it (evI c E tg it):=by
  unfold evI
  split
  · rename_i x es he
    obtain ⟨p,p2,rfl⟩:=qq6 he
    split
    · rename_i hx
      rw [Bool.and_eq_true] at hx
      obtain ⟨m,g,o⟩:=qt2 C hx.2
      have z:=hx.1
      rw [beq_iff_eq] at z;subst z
      split
      · split
        · rename_i h
          exact zi3 za4 (M.di_enum m (qm7 hE _) g (qd1 h))
        · exact q65
      · exact q65
    split
    · rename_i hx
      rw [Bool.and_eq_true] at hx
      obtain ⟨m,g,o⟩:=qt2 C hx.2
      have z:=hx.1
      rw [beq_iff_eq] at z;subst z
      split
      · split
        · rename_i h
          rw [Bool.and_eq_true] at h
          exact zi3 zo3 (M.di_zip m (qm7 hE _) g (by rw [qd1 h.1,qd1 h.2];rfl) (qd1 h.2))
        · exact q65
      · exact q65
    split
    · rename_i hx
      rw [Bool.and_eq_true] at hx
      obtain ⟨m,g,o⟩:=qt2 C hx.2
      have z:=hx.1
      rw [beq_iff_eq] at z;subst z
      split
      · split
        · rename_i h
          exact zi3 qy5 <| M.di_range1 m (qm7 hE _) g (qd1 h)
        · exact q65
      · split
        · rename_i h
          rw [Bool.and_eq_true] at h
          exact zi3 qK8 <| M.di_range2 m (qm7 hE _) g (by rw [qd1 h.1,qd1 h.2];rfl) (qd1 h.2)
        · exact q65
      · exact q65
    · exact zi3 q43 <| M.di_seq (hE _)
  · exact zi3 q43 <| M.di_seq (hE _)
noncomputable def isItC (c:CI) (it:Expr):Bool:=match qM2 it with | some (x,_)=>(x == "enumerate" || x == "zip" || x == "range")&&qG0 c x | none=>false
noncomputable def qw5 (scope sc:Scope):Scope:={ scope with names:=scope.names.map fun x=>match x with | (n,k)=>if (k == NameKind.free&&sc.kind == .function&&sc.names.lookup n == some .cell)=true then (n,.cell) else (n,k) }
theorem relabelS_eq (scope:Scope) (env:Env):relabel scope env=qw5 scope env.scope:=rfl
noncomputable def blkN (scope:Scope):List Str:=(scope.names.filter fun x=>x.2 == .local && !(x.1 == (".0":Str))).map (·.1)++(scope.names.filter fun x=>x.2 == .free).map (·.1)
noncomputable def qM3 (c:CI) (scope:Scope):List (Option Nat):=(scope.names.filter fun x=>x.2 == .local && !(x.1 == (".0":Str))).map (fun _=>none)++(scope.names.filter fun x=>x.2 == .free).map (fun x=>ixOf x.1 c.N)
noncomputable def blkB (c:CI) (scope:Scope):Bool:=
  scope.kind == .function&&(scope.names.all fun x=>x.2 != .cell)&&(scope.names.all fun x=>x.2 != .local||scope.names.lookup x.1 == some .local)
  && (scope.names.all fun x=>x.2 != .free||c.sc.names.lookup x.1 == some .cell||c.sc.names.lookup x.1 == some .free)
  && capB c.N (blkN scope) (fun y=>c.sc.names.lookup y) (fun y=>(qw5 scope c.sc).names.lookup y) (qM3 c scope) (blkN scope)&&decide (blkN scope).Nodup
noncomputable def blkC (c:CI) (scope:Scope):CI:=⟨blkN scope,qw5 scope c.sc,false,c.gs,c.mt⟩
theorem qQ5 {scope:Scope} (C:COk k c X) (h:blkB c scope=true):BlockOk X (blkN scope) scope (qM3 c scope)∧∀ A s H fp,COk k (blkC c scope) (cxB X (blkN scope) scope A s H fp):=by
  unfold blkB at h
  simp only [Bool.and_eq_true,decide_eq_true_eq,beq_iff_eq] at h
  obtain ⟨⟨⟨⟨⟨h1,h2⟩,h3⟩,h4⟩,h5⟩,h6⟩:=h
  refine ⟨blk h6 h1 h2 h3 ?_ ?_,fun A s H fp=>⟨rfl,h6,?_,h1,(fun z=>nomatch z),C.calm,C.room,rfl,C.gs⟩⟩
  · show (scope.names.all fun x=>x.2 != .free||X.env.scope.names.lookup x.1 == some .cell||X.env.scope.names.lookup x.1 == some .free)=true
    rw [C.sc];exact h4
  · show capB X.N (blkN scope) (fun y=>X.env.scope.names.lookup y) (fun y=>(qw5 scope X.env.scope).names.lookup y) (qM3 c scope) (blkN scope)=true
    rw [C.sc,C.N];exact h5
  · show qw5 scope X.env.scope=_
    rw [C.sc];rfl
noncomputable def evTs (T:Expr→MT):List Expr→MT
  | []=>mTrue
  | [e]=>T e
  | _=>mNoT
theorem qs7 {T:Expr→MT} (hT:∀ e,DT X e (T e)):∀ es:List Expr,DTs X es (evTs T es)
  | []=>castTs q97 <| M.dts_nilT
  | [e]=>dts_one (hT e)
  | _::_::_=>fun _ _ _ _ _ _ ⟨_,_,_,_,_,_,_,h,_⟩=>by cases h
noncomputable def evI2 (c:CI) (E:Expr→ME) (it:Expr):MA:=match qM2 it with
  | some (x,es)=>if x == "range" && qG0 c x then (match es with
      | [a]=>if qg8 a then mRange1 (evA E [a]) else mNoA
      | _=>mNoA) else mNoA
  | none=>mNoA
theorem zv4 (C:COk k c X) {E:Expr→ME} (hE:∀ e,DE X e (E e)) {tg it:Expr}:DIs X tg it (evI2 c E it):=by
  have no:DIs X tg it mNoA:=fun _ _ _ _ _ _ h=>by obtain ⟨_,_,_,_,_,_,_,h,_⟩:=h;cases h
  unfold evI2
  split
  · rename_i x es he
    obtain ⟨p,p2,rfl⟩:=qq6 he
    split
    · rename_i hx
      rw [Bool.and_eq_true] at hx
      obtain ⟨m,g,o⟩:=qt2 C hx.2
      have z:=hx.1
      rw [beq_iff_eq] at z;subst z
      split
      · split
        · rename_i h
          exact castIs qy5 (M.dis_range1 m (qm7 hE _) g (qd1 h))
        · exact no
      · exact no
    · exact no
  · exact no
theorem qA8 {e:Expr} (h:qq9 e=true) (env:Env) (x:Value):foldedSetIterable e env x=pure x:=by cases e <;> first | rfl | cases h
noncomputable def qB3 (c:CI) (E:CI→Expr→ME) (T:CI→Expr→MT) (elt:Expr) (gens:List Comprehension) (scope:Scope) (line:Nat):ME:=match gens with
  | [⟨tg,it,ifs,a⟩]=>if a == 0&&qq9 it&&blkB c scope then if c.mt.contains (line+100000) then mCompX (E c it) (evG (blkC c scope) (E (blkC c scope)) tg) (evTs (T (blkC c scope)) ifs) (E (blkC c scope) elt) (qM3 c scope) else mComp (evI c (E c) tg it) (evG (blkC c scope) (E (blkC c scope)) tg) (evTs (T (blkC c scope)) ifs) (E (blkC c scope) elt) (qM3 c scope) else mNo
  | [⟨tg,it,ifs,a⟩,⟨tg2,it2,ifs2,a2⟩]=>if a == 0&&a2 == 0&&qq9 it&&qq9 it2&&blkB c scope then mComp2 (evI c (E c) tg it) (evG (blkC c scope) (E (blkC c scope)) tg) (evTs (T (blkC c scope)) ifs) (evI2 (blkC c scope) (E (blkC c scope)) it2) (evG (blkC c scope) (E (blkC c scope)) tg2) (evTs (T (blkC c scope)) ifs2) (E (blkC c scope) elt) (qM3 c scope) else mNo
  | _=>mNo
theorem qZ0 (C:COk k c X) (hE:∀ c X,COk k c X→∀ e,DE X e (E c e)) (hT:∀ c X,COk k c X→∀ e,DT X e (T c e)) {elt:Expr} {gens:List Comprehension} {scope:Scope} {line:Nat}:DE X (.ListComp elt gens scope pos) (qB3 c E T elt gens scope line):=by
  unfold qB3
  split
  · rename_i tg it ifs a
    split
    · rename_i h
      simp only [Bool.and_eq_true,beq_iff_eq] at h
      obtain ⟨⟨h0,h1⟩,h2⟩:=h
      subst h0
      obtain ⟨B,C'⟩:=qQ5 C h2
      split
      · exact qg6 qF0 <| M.de_compX C.calm B (hE _ _ C it) (fun A s H fp=>qr4 (C' A s H fp) (hE _ _ (C' A s H fp)) tg) (fun A s H fp=>qs7 (hT _ _ (C' A s H fp)) ifs) (fun A s H fp=>hE _ _ (C' A s H fp) elt) (qi6 h1)
      · exact qg6 qO9 <| M.de_comp C.calm B (qY9 C (hE _ _ C)) (fun A s H fp=>qr4 (C' A s H fp) (hE _ _ (C' A s H fp)) tg) (fun A s H fp=>qs7 (hT _ _ (C' A s H fp)) ifs) (fun A s H fp=>hE _ _ (C' A s H fp) elt) (qi6 h1)
    · exact qg9
  · rename_i tg it ifs a tg2 it2 ifs2 a2
    split
    · rename_i h
      simp only [Bool.and_eq_true,beq_iff_eq] at h
      obtain ⟨⟨⟨⟨h0,h0'⟩,h1⟩,h1'⟩,h2⟩:=h
      subst h0 h0'
      obtain ⟨B,C'⟩:=qQ5 C h2
      exact qg6 qF1 <| M.de_comp2 C.calm B (qY9 C (hE _ _ C)) (fun A s H fp=>qr4 (C' A s H fp) (hE _ _ (C' A s H fp)) tg) (fun A s H fp=>qs7 (hT _ _ (C' A s H fp)) ifs) (fun A s H fp=>zv4 (C' A s H fp) (hE _ _ (C' A s H fp))) (fun A s H fp=>qr4 (C' A s H fp) (hE _ _ (C' A s H fp)) tg2) (fun A s H fp=>qs7 (hT _ _ (C' A s H fp)) ifs2) (fun A s H fp=>hE _ _ (C' A s H fp) elt) (qi6 h1) (qA8 h1')
    · exact qg9
  · exact qg9
noncomputable def evPs (E:Expr→ME):List (Option Expr)→List Expr→Option (List (ME×ME))
  | [],[]=>some []
  | some k::ks,v::vs=>(evPs E ks vs).bind fun r=>some ((E k,E v)::r)
  | _,_=>none
theorem zu9 {E:Expr→ME} (hE:∀ e,DE X e (E e)):∀ {ks:List (Option Expr)} {vs:List Expr} {ms:List (ME×ME)},evPs E ks vs=some ms→DPs X pos ks vs ms∧ks.all (·.isSome)=true∧ks.length=vs.length
  | [],[],ms,h=>by cases h;exact ⟨dps_nil,rfl,rfl⟩
  | some k::ks,v::vs,ms,h=>by
    obtain ⟨r,h1,h2⟩:=Option.bind_eq_some_iff.mp h
    cases h2
    obtain ⟨a,b,d⟩:=zu9 hE h1
    exact ⟨dps_cons (hE k) (hE v) a,by rw [List.all_cons,b];rfl,by rw [List.length_cons,List.length_cons,d]⟩
  | [],_::_,_,h=>by cases h
  | none::_,_,_,h=>by cases h
  | some _::_,[],_,h=>by cases h
noncomputable def zv8 (c:CI) (E:Expr→ME) (ks:List (Option Expr)) (vs:List Expr) (line:Nat):ME:=match ks with
  | []=>if vs.isEmpty && !c.mt.contains line then mC (.dct [] []) else mNo
  | k::r=>if (k::r).length≤15 then (match evPs E (k::r) vs with | some ms=>if c.mt.contains line then mDictR ms else mDict ms | none=>mNo) else mNo
theorem zv7 {E:Expr→ME} (hE:∀ e,DE X e (E e)) (ks:List (Option Expr)) (vs:List Expr) (line:Nat):DE X (.Dict ks vs pos) (zv8 c E ks vs line):=by
  unfold zv8
  split
  · split
    · rename_i h
      rw [Bool.and_eq_true] at h
      have:vs=[]:=by simpa using h.1
      subst this
      exact qg6 q46 <| M.de_dnew
    · exact qg9
  · rename_i k r
    split
    · rename_i hl
      split
      · rename_i ms h
        obtain ⟨a,b,d⟩:=zu9 (pos:=pos) hE h
        split
        · exact qg6 qW7 (M.de_dispR a b d (by simp) hl)
        · exact qg6 za6 (M.de_disp a b d (by simp) hl)
      · exact qg9
    · exact qg9
noncomputable def evJoin (E:Expr→ME):List Expr→ME
  | []=>mNo
  | _=>mNo
theorem zv3 {E:Expr→ME} (hE:∀ e,DE X e (E e)):∀ es:List Expr,DE X (.JoinedStr es pos) (evJoin E es)
  | []=>qg9
  | _::_=>qg9
noncomputable def evFmt (E:Expr→ME) (v:Expr) (cv:Int) (f:Option Expr):ME:=match cv,f with
  | _,_=>mNo
theorem evFmt_ok {E:Expr→ME} (hE:∀ e,DE X e (E e)) {v:Expr} {cv:Int} {f:Option Expr}:DE X (.FormattedValue v cv f pos) (evFmt E v cv f):=by
  exact qg9
noncomputable def stepE (E:CI→Expr→ME) (T:CI→Expr→MT) (c:CI):Expr→ME
  | .Constant v _ _=>zv9 v
  | .Name x _=>zv1 c x
  | .BinOp a op b p=>if c.mt.contains (p.line+700000) then evCat op (E c a) (E c b) else evBin (c.mt.contains (p.line+200000)) op (E c a) (E c b)
  | .UnaryOp op a _=>evUn op (E c a)
  | .Compare a ops bs _=>evCmp c E a ops bs
  | .BoolOp op vs _=>match op with | .And=>zt2 mAnd (vs.map (E c)) | .Or=>zt2 mOr (vs.map (E c))
  | .IfExp t a b _=>mIf (T c t) (E c a) (E c b)
  | .Tuple es _ _=>mTup (evA (E c) es)
  | .List es pos=>if c.mt.contains pos.line then mLstR (evA (E c) es) else mLst (evA (E c) es)
  | .Dict ks vs pos=>zv8 c (E c) ks vs pos.line
  | .Subscript a i _=>evSub c (E c) a i
  | .Call f es ks p=>match qV1 f,zz1 f,ks with | some x,_,[]=>zc8 c (E c) x es | none,some (o,nm,ap),[]=>zc7 (c.mt.contains 500000) (E c) o nm ap p es | _,_,_=>mNo
  | .ListComp elt gens scope p=>qB3 c E T elt gens scope p.line
  | .JoinedStr es _=>evJoin (E c) es
  | .FormattedValue v cv f _=>evFmt (E c) v cv f
  | _=>mNo
noncomputable def stepT (E:CI→Expr→ME) (T:CI→Expr→MT) (c:CI):Expr→MT
  | .UnaryOp op a p=>match op with | .Not=>mNotT (T c a) | op=>mTru (E c (.UnaryOp op a p))
  | .BoolOp op vs _=>match op with | .And=>q55 mAndT (vs.map (T c)) | .Or=>q55 mOrT (vs.map (T c))
  | .Compare a ops bs _=>zw1 c E a ops bs
  | .IfExp _ _ _ _=>mNoT
  | e=>mTru (E c e)
theorem stepE_ok (hE:∀ c X,COk k c X→∀ e,DE X e (E c e)) (hT:∀ c X,COk k c X→∀ e,DT X e (T c e)) (C:COk k c X) (e:Expr):DE X e (stepE E T c e):=by
  have h1:=hE c X C
  have h2:=hT c X C
  cases e with
  | Constant v j p=>exact zh6 v
  | Name x p=>exact zv0 C x
  | BinOp a op b p=>
    show DE X _ (if c.mt.contains (p.line+700000) then evCat op (E c a) (E c b) else evBin (c.mt.contains (p.line+200000)) op (E c a) (E c b))
    split
    · exact evCat_ok (h1 a) (h1 b)
    · exact evBin_ok (z:=c.mt.contains (p.line+200000)) (h1 a) (h1 b)
  | UnaryOp op a p=>exact evUn_ok (h1 a)
  | Compare a ops bs p=>exact evCmp_ok C h1
  | BoolOp op vs p=>cases op with | And=>exact qY5 h1 vs | Or=>exact zc3 h1 vs
  | IfExp t a b p=>exact qg6 mIf_eq <| M.de_if (h2 t) (h1 a) (h1 b)
  | Tuple es j p=>exact qg6 zo6 <| M.de_tup (qm7 h1 es)
  | List es p=>
    show DE X _ (if c.mt.contains p.line then mLstR (evA (E c) es) else mLst (evA (E c) es))
    split
    · exact qg6 za2 <| M.de_lstR (qm7 h1 es)
    · exact qg6 zp0 <| M.de_lst (qm7 h1 es)
  | Dict ks vs p=>exact zv7 h1 ks vs p.line
  | Subscript a i p=>exact evSub_ok C h1 a i
  | Call f es ks p=>
    show DE X _ (match qV1 f,zz1 f,ks with | some x,_,[]=>zc8 c (E c) x es | none,some (o,nm,ap),[]=>zc7 (c.mt.contains 500000) (E c) o nm ap p es | _,_,_=>mNo)
    split
    · rename_i x h
      obtain ⟨p2,rfl⟩:=qu6 h
      exact zw2 C h1
    · rename_i o nm ap _ ha
      have:=q70 ha
      subst this
      exact zv2 C h1
    · exact qg9
  | ListComp elt gens scope p=>exact qZ0 C hE hT
  | JoinedStr es p=>exact zv3 h1 es
  | FormattedValue v cv f p=>exact evFmt_ok h1
  | _=>exact qg9
theorem stepT_ok (hE:∀ c X,COk k c X→∀ e,DE X e (E c e)) (hT:∀ c X,COk k c X→∀ e,DT X e (T c e)) (C:COk k c X) (e:Expr):DT X e (stepT E T c e):=by
  have h1:=hE c X C
  have h2:=hT c X C
  cases e with
  | UnaryOp op a p=>cases op <;> first | exact zy0 za0 <| M.dt_not (h2 a) | exact zy0 q39 <| M.dt_truth (h1 _)
  | BoolOp op vs p=>cases op with | And=>exact zt1 h2 vs | Or=>exact foldT_or h2 vs
  | Compare a ops bs p=>exact zw0 C h1
  | IfExp t a b p=>exact qQ1
  | _=>exact zy0 q39 <| M.dt_truth (h1 _)
noncomputable def ev:Nat→(CI→Expr→ME)×(CI→Expr→MT)
  | 0=>(fun _ _=>mNo,fun _ _=>mNoT)
  | n+1=>(stepE (ev n).1 (ev n).2,stepT (ev n).1 (ev n).2)
theorem zh5:∀ n:Nat,(∀ c X,COk k c X→∀ e,DE X e ((ev n).1 c e))∧(∀ c X,COk k c X→∀ e,DT X e ((ev n).2 c e))
  | 0=>⟨fun _ _ _ _=>qg9,fun _ _ _ _=>qQ1⟩
  | n+1=>⟨fun _ _ C e=>stepE_ok (zh5 n).1 (zh5 n).2 C e,fun _ _ C e=>stepT_ok (zh5 n).1 (zh5 n).2 C e⟩
noncomputable def qu5:Expr→Bool
  | .ListComp _ _ _ _=>false
  | .SetComp _ _ _ _=>false
  | .DictComp _ _ _ _ _=>false
  | _=>true
theorem qm8 {t:Option Expr} {l:Nat} (h:qu5 e=true):swapsWith e t l X.env=pure false:=by cases e <;> first | rfl | cases h
noncomputable def zg8:Expr→Bool
  | .Tuple _ _ _=>true
  | .List _ _=>true
  | _=>false
theorem zf2 {t:Expr} (h:zg8 t=false∨zg8 e=false):swappedStores [t] e X.env=pure none:=by
  rcases h with h | h
  · cases t <;> first | rfl | cases h
  · cases t <;> first | rfl | (cases e <;> first | rfl | cases h)
noncomputable def evAsgN (c:CI) (E:CI→Expr→ME) (T:CI→Expr→MT) (x:Str) (px:Pos) (e:Expr):MS:=match e with
  | .ListComp elt gens scope p=>if c.all&&(c.sc.names.lookup x == some .local&&px.line == p.line && !(scope.names.any fun y=>y.1 == x&&(y.2 == .local||y.2 == .cell))) then mAsg (qB3 c E T elt gens scope p.line) (evGn c x) else if c.all&&c.sc.names.lookup x == some .cell then mAsg (qB3 c E T elt gens scope p.line) (evGn c x) else mNoS
  | e=>if qu5 e then mAsg (E c e) (evGn c x) else mNoS
noncomputable def par2:Expr→Option (Str×Pos×Str×Pos)
  | .Tuple [.Name x px,.Name y py] _ _=>some (x,px,y,py)
  | _=>none
theorem zl8 {t:Expr} {x y:Str} {px py:Pos} (h:par2 t=some (x,px,y,py)):∃ k p,t=.Tuple [.Name x px,.Name y py] k p:=by
  unfold par2 at h
  split at h
  · cases h;exact ⟨_,_,rfl⟩
  · cases h
noncomputable def tup2:Expr→Option (Expr×Expr)
  | .Tuple [a,b] _ _=>some (a,b)
  | _=>none
theorem zj4 {t a b:Expr} (h:tup2 t=some (a,b)):∃ k p,t=.Tuple [a,b] k p:=by
  unfold tup2 at h
  split at h
  · cases h;exact ⟨_,_,rfl⟩
  · cases h
theorem ze4 {x y:Str} {px py p p2:Pos} {k k2:Nat} {a b:Expr} (h:(X.env.kindOf x == some NameKind.local&&X.env.kindOf y == some NameKind.local)=false):swappedStores [.Tuple [.Name x px,.Name y py] k p] (.Tuple [a,b] k2 p2) X.env=pure none:=by
  unfold swappedStores
  simp only
  split
  · rfl
  split
  · rfl
  rw [if_pos]
  generalize hg:List.filterMap _ [Expr.Name x px,Expr.Name y py]=L
  have hL:L.length≤1:=by
    rw [← hg,List.filterMap_cons,List.filterMap_cons]
    cases hx:(X.env.kindOf x == some NameKind.local) with
    | false=>simp only [hx,Bool.false_and,Bool.false_eq_true,if_false];split <;> simp
    | true=>
      have hy:(X.env.kindOf y == some NameKind.local)=false:=by rw [hx,Bool.true_and] at h;exact h
      simp only [hy,Bool.false_and,Bool.false_eq_true,if_false];split <;> simp
  have h2:(L.length != [Expr.Name x px,Expr.Name y py].length)=true:=by
    rw [bne_iff_ne];show L.length≠2;omega
  rw [h2];rfl
noncomputable def zm6 (c:CI) (x y:Str):Bool:=!(c.sc.names.lookup x == some .local&&c.sc.names.lookup y == some .local)
noncomputable def evPar (c:CI) (E:CI→Expr→ME) (t e:Expr):Option MS:=match par2 t,tup2 e with
  | some (x,px,y,py),some (a,b)=>if zm6 c x y then some (mAsg (E c e) (evG c (E c) t)) else match ixOf x c.N,ixOf y c.N with
    | some i,some j=>if (c.all&&c.sc.names.lookup x == some .local&&c.sc.names.lookup y == some .local && !(x == y)&&py.line == px.line&&qT2 a&&qT2 b && !(foldedForSure 8 a&&foldedForSure 8 b) && !(constantsAlone 8 a&&constantsAlone 8 b) && !(i == j))=true then some (mPar i j (evA (E c) [a,b])) else none
    | _,_=>none
  | _,_=>none
theorem evPar_ok (C:COk k c X) {E:CI→Expr→ME} (hE:∀ e,DE X e (E c e)) {t:Expr} {m:MS} (h:evPar c E t e=some m):DS X (.Assign [t] e pos) m:=by
  unfold evPar at h
  split at h
  · rename_i x px y py a b h1 h2
    obtain ⟨k1,p1,rfl⟩:=zl8 h1
    obtain ⟨k2,p2,rfl⟩:=zj4 h2
    split at h
    · rename_i hn
      cases h
      refine qt5 qm1 <| M.ds_asg (hE _) (qr4 C hE _) rfl (ze4 ?_) rfl
      unfold zm6 at hn
      rw [Bool.not_eq_true'] at hn
      show (X.env.scope.names.lookup x == some NameKind.local&&X.env.scope.names.lookup y == some NameKind.local)=false
      rw [C.sc];exact hn
    split at h
    · rename_i i j hi hj
      split at h
      · rename_i hc
        cases h
        simp only [Bool.and_eq_true,beq_iff_eq,Bool.not_eq_true'] at hc
        obtain ⟨⟨⟨⟨⟨⟨⟨⟨⟨_,hx⟩,hy⟩,hne⟩,hl⟩,ha⟩,hb⟩,hf⟩,hcn⟩,hij⟩:=hc
        have hx':X.env.scope.names.lookup x=some .local:=by rw [C.sc];exact hx
        have hy':X.env.scope.names.lookup y=some .local:=by rw [C.sc];exact hy
        have hbk:X.env.blockKind=.function:=by unfold Env.blockKind;rw [C.sc,C.fk];rfl
        exact qt5 zo9 (M.ds_par C.calm (by rw [C.N];exact C.nd) (by rw [C.N];exact qh7 hi) (by rw [C.N];exact qh7 hj) (by simpa using hij) hx' hy' (qm7 hE _) (swapped2 hbk hx' hy' hne (by simpa using hl) ha hb hf hcn))
      · cases h
    · cases h
  · cases h
noncomputable def evAsg (c:CI) (E:CI→Expr→ME) (T:CI→Expr→MT) (t e:Expr):MS:=match t with
  | .Name x px=>evAsgN c E T x px e
  | t=>match evPar c E t e with
  | some m=>m
  | none=>if qu5 e&&qg8 t&&(!zg8 t || !zg8 e) then mAsg (E c e) (evG c (E c) t) else mNoS
theorem qB9 {m:ME} {s:Stmt}:DS X s (mAsg m gNo):=fun _ _ _ _ _ _ ⟨_,_,_,_,_,_,h,_⟩=>by
  rw [qm1] at h
  obtain ⟨_,_,h⟩:=Option.bind_eq_some_iff.mp h
  cases h
theorem zw3 (C:COk k c X) (hE:∀ c X,COk k c X→∀ e,DE X e (E c e)) (hT:∀ c X,COk k c X→∀ e,DT X e (T c e)) {x:Str} {px:Pos}:DS X (.Assign [.Name x px] e pos) (evAsgN c E T x px e):=by
  have h1:=hE c X C
  have gen:∀ e,qu5 e=true→DS X (.Assign [.Name x px] e pos) (mAsg (E c e) (evGn c x)):=fun e hn=>by
    unfold evGn
    split
    · rename_i h1' h2
      exact qt5 qy8 <| M.ds_set (by rw [C.N];exact C.nd) (by rw [C.N];exact qh7 h2) (by rw [C.sc];exact .inl h1') (h1 e) (qm8 hn) (.inr (by rw [C.sc];exact h1'))
    · rename_i h1' h2
      split
      · rename_i ha
        exact qt5 qy8 <| M.ds_set (by rw [C.N];exact C.nd) (by rw [C.N];exact qh7 h2) (by rw [C.sc];exact .inr h1') (h1 e) (qm8 hn) (.inl (C.fn ha x))
      · exact qB9
    · exact qB9
  cases e with
  | ListComp elt gens scope p=>
    show DS X _ (if c.all&&(c.sc.names.lookup x == some .local&&px.line == p.line && !(scope.names.any fun y=>y.1 == x&&(y.2 == .local||y.2 == .cell))) then mAsg (qB3 c E T elt gens scope p.line) (evGn c x) else if c.all&&c.sc.names.lookup x == some .cell then mAsg (qB3 c E T elt gens scope p.line) (evGn c x) else mNoS)
    split
    · rename_i hw
      rw [Bool.and_eq_true] at hw
      have hw1:=hw.2
      simp only [Bool.and_eq_true,beq_iff_eq] at hw1
      have hl:=hw1.1.1
      unfold evGn
      rw [hl]
      cases hi:ixOf x c.N with
      | none=>exact qB9
      | some i=>
        have sw:(pure (X.env.blockKind == .function&&X.env.scope.names.lookup x == some .local&&px.line == p.line && !(scope.names.any fun y=>y.1 == x&&(y.2 == .local||y.2 == .cell))):Sem Bool)=pure true:=by
          have hb:X.env.blockKind=.function:=by unfold Env.blockKind;rw [C.sc,C.fk];rfl
          rw [hb,C.sc]
          have:=hw.2
          simp only [Bool.and_assoc] at this ⊢
          rw [this];rfl
        unfold qB3
        split
        · rename_i tg it ifs a
          split
          · rename_i h
            simp only [Bool.and_eq_true,beq_iff_eq] at h
            obtain ⟨⟨h0,h1'⟩,h2⟩:=h
            subst h0
            obtain ⟨B,C'⟩:=qQ5 C h2
            split
            · exact qt5 qW8 <| M.ds_setCompX (by rw [C.N];exact C.nd) (by rw [C.N];exact qh7 hi) (by rw [C.sc];exact .inl hl) C.calm B (hE _ _ C it) (fun A s H fp=>qr4 (C' A s H fp) (hE _ _ (C' A s H fp)) tg) (fun A s H fp=>qs7 (hT _ _ (C' A s H fp)) ifs) (fun A s H fp=>hE _ _ (C' A s H fp) elt) sw (qi6 h1') (.inr (by rw [C.sc];exact hl))
            · exact qt5 q47 <| M.ds_setComp (by rw [C.N];exact C.nd) (by rw [C.N];exact qh7 hi) (by rw [C.sc];exact .inl hl) C.calm B (qY9 C (hE _ _ C)) (fun A s H fp=>qr4 (C' A s H fp) (hE _ _ (C' A s H fp)) tg) (fun A s H fp=>qs7 (hT _ _ (C' A s H fp)) ifs) (fun A s H fp=>hE _ _ (C' A s H fp) elt) sw (qi6 h1') (.inr (by rw [C.sc];exact hl))
          · intro _ _ _ _ _ _ ⟨_,_,_,_,_,_,h,_⟩
            rw [qm1] at h
            obtain ⟨_,z,h⟩:=Option.bind_eq_some_iff.mp h
            cases z
        · rename_i tg it ifs a tg2 it2 ifs2 a2
          split
          · rename_i h
            simp only [Bool.and_eq_true,beq_iff_eq] at h
            obtain ⟨⟨⟨⟨h0,h0'⟩,h1'⟩,h1''⟩,h2⟩:=h
            subst h0 h0'
            obtain ⟨B,C'⟩:=qQ5 C h2
            exact qt5 qW9 <| M.ds_setComp2 (by rw [C.N];exact C.nd) (by rw [C.N];exact qh7 hi) (by rw [C.sc];exact .inl hl) C.calm B (qY9 C (hE _ _ C)) (fun A s H fp=>qr4 (C' A s H fp) (hE _ _ (C' A s H fp)) tg) (fun A s H fp=>qs7 (hT _ _ (C' A s H fp)) ifs) (fun A s H fp=>zv4 (C' A s H fp) (hE _ _ (C' A s H fp))) (fun A s H fp=>qr4 (C' A s H fp) (hE _ _ (C' A s H fp)) tg2) (fun A s H fp=>qs7 (hT _ _ (C' A s H fp)) ifs2) (fun A s H fp=>hE _ _ (C' A s H fp) elt) sw (qi6 h1') (qA8 h1'') (.inr (by rw [C.sc];exact hl))
          · intro _ _ _ _ _ _ ⟨_,_,_,_,_,_,h,_⟩
            rw [qm1] at h
            obtain ⟨_,z,h⟩:=Option.bind_eq_some_iff.mp h
            cases z
        · intro _ _ _ _ _ _ ⟨_,_,_,_,_,_,h,_⟩
          rw [qm1] at h
          obtain ⟨_,z,h⟩:=Option.bind_eq_some_iff.mp h
          cases z
    · split
      · rename_i hw
        rw [Bool.and_eq_true,beq_iff_eq] at hw
        unfold evGn
        rw [hw.2]
        cases hi:ixOf x c.N with
        | none=>exact qB9
        | some i=>
          dsimp only
          rw [if_pos hw.1]
          refine qt5 qy8 <| M.ds_set (by rw [C.N];exact C.nd) (by rw [C.N];exact qh7 hi) (by rw [C.sc];exact .inr hw.2) (qZ0 C hE hT) ?_ (.inl (C.fn hw.1 x))
          show (pure (X.env.blockKind == .function&&X.env.scope.names.lookup x == some .local&&px.line == p.line && !(scope.names.any fun y=>y.1 == x&&(y.2 == .local||y.2 == .cell))):Sem Bool)=pure false
          rw [C.sc,hw.2]
          have:((some NameKind.cell:Option NameKind) == some .local)=false:=by decide
          rw [this,Bool.and_false];rfl
      · exact qA3
  | SetComp _ _ _ _=>exact qA3
  | DictComp _ _ _ _ _=>exact qA3
  | _=>exact gen _ rfl
theorem evAsg_ok (C:COk k c X) (hE:∀ c X,COk k c X→∀ e,DE X e (E c e)) (hT:∀ c X,COk k c X→∀ e,DT X e (T c e)) {t:Expr}:DS X (.Assign [t] e pos) (evAsg c E T t e):=by
  have gen:∀ t,DS X (.Assign [t] e pos) (match evPar c E t e with | some m=>m | none=>if qu5 e&&qg8 t&&(!zg8 t || !zg8 e) then mAsg (E c e) (evG c (E c) t) else mNoS):=fun t=>by
    split
    · rename_i h
      exact evPar_ok C (hE _ _ C) h
    split
    · rename_i h
      simp only [Bool.and_eq_true,Bool.or_eq_true,Bool.not_eq_true'] at h
      refine qt5 qm1 <| M.ds_asg (hE _ _ C e) (qr4 C (hE _ _ C) t) (qm8 h.1.1) (zf2 h.2) ?_
      rw [qH6 h.1.2];rfl
    · exact qA3
  cases t with
  | Name x px=>exact zw3 C hE hT
  | _=>exact gen _
noncomputable def seqM:List MS→MS
  | []=>mSkip
  | [m]=>m
  | m::r=>mSeq m (seqM r)
theorem qy2 {F:Stmt→MS} (h:∀ s,DS X s (F s)):∀ ss:List Stmt,DSs X ss (seqM (ss.map F))
  | []=>castSs qB8 <| M.dss_nil
  | [s]=>dss_one (h s)
  | s::s'::r=>castSs zo7 <| M.dss_cons (h s) (qy2 h (s'::r))
noncomputable def zs7:Expr→Bool
  | .Constant (.str _) _ _=>true
  | _=>false
noncomputable def stepS (E:CI→Expr→ME) (T:CI→Expr→MT) (F:CI→Stmt→MS) (c:CI):Stmt→MS
  | .Return o _=>match o with | some e=>mRet (E c e) | none=>fun _ S=>some (.rt .non S)
  | .Pass _=>mSkip
  | .Break _=>fun env S=>some (.bk env S)
  | .Continue _=>fun env S=>some (.ct env S)
  | .Expr e _=>if zs7 e then mSkip else if qu5 e then mDrop (E c e) else mNoS
  | .If t a b _=>mIfS (T c t) (seqM (a.map (F c))) (seqM (b.map (F c)))
  | .Assign ts e _=>match ts with | [t]=>evAsg c E T t e | _=>mNoS
  | .While tst body els _=>match els with | []=>mNoS | _=>mNoS
  | .For tg it body els _=>match els with | []=>if qq9 it then (if isItC c it then mFor (evI c (E c) tg it) (evG c (E c) tg) (seqM (body.map (F c))) else mForD (E c it) (evG c (E c) tg) (seqM (body.map (F c)))) else mNoS | _=>mNoS
  | _=>mNoS
theorem stepS_ok {F:CI→Stmt→MS} (hE:∀ c X,COk k c X→∀ e,DE X e (E c e)) (hT:∀ c X,COk k c X→∀ e,DT X e (T c e)) (hF:∀ c X,COk k c X→∀ e,DS X e (F c e)) (C:COk k c X) (s:Stmt):DS X s (stepS E T F c s):=by
  have h1:=hE c X C
  have h2:=hT c X C
  have h3:=hF c X C
  cases s with
  | Return o p=>cases o with | none=>exact ds_retN | some e=>exact qt5 zo8 <| M.ds_ret (h1 e)
  | Pass p=>exact qt5 qB8 <| M.ds_pass
  | Break p=>exact ds_break
  | Continue p=>exact q59
  | Expr e p=>
    show DS X _ (if zs7 e then mSkip else if qu5 e then mDrop (E c e) else mNoS)
    split
    · rename_i h
      unfold zs7 at h
      split at h
      · exact qt5 qB8 <| M.ds_doc
      · cases h
    · split
      · rename_i h;exact qt5 za5 <| M.ds_expr (h1 e) (qm8 h)
      · exact qA3
  | If t a b p=>exact qt5 zp2 <| M.ds_if (h2 t) (qy2 h3 a) (qy2 h3 b)
  | Assign ts e p=>
    show DS X _ (match ts with | [t]=>evAsg c E T t e | _=>mNoS)
    split
    · exact evAsg_ok C hE hT
    · exact qA3
  | While tst body els p=>
    cases els with
    | nil=>exact qA3
    | cons _ _=>exact qA3
  | For tg it body els p=>
    cases els with
    | nil=>
      show DS X _ (if qq9 it then (if isItC c it then mFor (evI c (E c) tg it) (evG c (E c) tg) (seqM (body.map (F c))) else mForD (E c it) (evG c (E c) tg) (seqM (body.map (F c)))) else mNoS)
      split
      · rename_i h
        split
        · exact qt5 zp3 <| M.ds_for (by rw [C.xe];exact PassesOwn.never) C.calm (qY9 C h1) (qr4 C h1 tg) (qy2 h3 body) (qi6 h)
        · exact qt5 za3 <| M.ds_forD (by rw [C.xe];exact PassesOwn.never) C.calm (h1 it) (qr4 C h1 tg) (qy2 h3 body) (qi6 h)
      · exact qA3
    | cons _ _=>exact qA3
  | _=>exact qA3
noncomputable def evS (n:Nat):Nat→CI→Stmt→MS
  | 0=>fun _ _=>mNoS
  | m+1=>stepS (ev n).1 (ev n).2 (evS n m)
theorem evS_ok (n:Nat):∀ m:Nat,∀ c X,COk k c X→∀ s,DS X s (evS n m c s)
  | 0=>fun _ _ _ _=>qA3
  | m+1=>fun _ _ C s=>stepS_ok (zh5 n).1 (zh5 n).2 (evS_ok n m) C s
noncomputable def evB (c:CI) (body:List Stmt):MS:=seqM (body.map (evS 40 20 c))
theorem evB_ok (C:COk k c X) (body:List Stmt):DSs X body (evB c body):=qy2 (evS_ok 40 20 c X C) body
end
end
noncomputable def cOf (N:List Str) (st:Stmt) (gs:List (Str×GI)) (mt:List Nat):CI:=⟨N,qa1 st,true,gs,mt⟩
noncomputable def GK (P:Program) (w:World) (K:PySem.W.Frag) (mg:Str→Option Value) (base:Heap) (k:Nat) (p:Str×GI):Prop:=match p.2 with
  | .fn n f=>Fn P w K mg base k p.1 n f
  | .con d=>GC K mg p.1 d
  | .blt=>mg p.1=none
  | .tab l=>TabAt w K mg p.1 l
theorem qi9 {P:Program} {w:World} {K:PySem.W.Frag} {mg:Str→Option Value} {base:Heap} {k:Nat} {x:Str} {st:Stmt} {N ps:List Str} {gs:List (Str×GI)} {mt:List Nat}
    (F:qk7 K mg x st) (Sc:qc9 N ps (qa1 st)) (hb:zd7 x st ps) (hg:∀ p∈gs,GK P w K mg base k p) :
    Fn P w K mg base (k+1) x ps.length (runM N (evB (cOf N st gs mt) (qa2 st)) ps.length):=
  def_ok F Sc hb fun a cdv A outer s H E hr=>evB_ok (k:=k) ⟨rfl,Sc.nd,rfl,Sc.kind,fun _ _=>rfl,rfl,hr,rfl,fun p hp=>by
    have:=hg p hp
    obtain ⟨x,g⟩:=p
    cases g <;> exact this⟩ _
end MI
namespace MI
open PySem PySem.Spec PyProof.Rows L2 M
noncomputable def GKs (P:Program) (w:World) (K:PySem.W.Frag) (mg:Str→Option Value) (base:Heap) (k:Nat):List (Str×GI)→Prop
  | []=>True
  | p::r=>GK P w K mg base k p∧GKs P w K mg base k r
theorem GKs.mem {P:Program} {w:World} {K:PySem.W.Frag} {mg:Str→Option Value} {base:Heap} {k:Nat}:∀ {gs:List (Str×GI)},GKs P w K mg base k gs→∀ p∈gs,GK P w K mg base k p
  | q::r,h,p,hp=>by
    rcases List.mem_cons.mp hp with rfl | hp
    · exact h.1
    · exact GKs.mem h.2 p hp
theorem law_ev {P:Program} {w:World} {K:PySem.W.Frag} {mg:Str→Option Value} {k:Nat} {st:Stmt} {N:List Str} {gs:List (Str×GI)} {mt:List Nat} {fa:Addr} (F:qk7 K mg "law" st) (hfa:mg "law" = some (.ref fa)) (Sc:qc9 N ["_law_script"] (qa1 st))
    (hbt:∀ (kV doc pm:Value) (an:Option Addr) (cdv ct v:Value),bindArgs (PySem.W.fnOf "law" "law" (qa8 st) (qa2 st) (qa1 st) .none kV doc pm an cdv ct) ⟨[v],[]⟩=pure [(("_law_script":Str),v)])
    (hg:∀ base,GKs P w K mg base k gs) :
    ∃ fd:FuncData,(∀ (s:Shared) (v:Value),BindsTo s fd ⟨[v],[]⟩ [("_law_script",v)])∧∀ base:Heap,K.In base→base.Ns mainGlobals mg→FnOk P w K mg base CX0 (k+1) fa fd ["_law_script"] (spM K 1 (runM N (evB (cOf N st gs mt) (qa2 st)) 1)):=
  law_of F hfa Sc hbt fun base a cdv A outer s H E hr=>evB_ok (k:=k) ⟨rfl,Sc.nd,rfl,Sc.kind,fun _ _=>rfl,rfl,hr,rfl,fun p hp=>by
    have:=GKs.mem (hg base) p hp
    obtain ⟨x,g⟩:=p
    cases g <;> exact this⟩ _
end MI
namespace MI
open PySem PySem.Spec PyProof.Rows L2 M
section
variable {P:List Value→Prop}
theorem us0 (h:P []):∀ us:List Value,us.length=0→P us:=fun us e=>by rw [List.eq_nil_of_length_eq_zero e];exact h
theorem usS {n:Nat} (h:∀ a,∀ us:List Value,us.length=n→P (a::us)):∀ us:List Value,us.length=n+1→P us:=fun us e=>by
  cases us with
  | nil=>cases e
  | cons a us=>exact h a us (Nat.succ.inj e)
end
noncomputable def recF (N:List Str) (st:Stmt) (gs:List (Str×GI)) (mt:List Nat) (x:Str) (a:Nat):Nat→List D→qa0→Option (D×qa0)
  | 0=>fun _ _=>none
  | n+1=>runM N (evB (cOf N st ((x,.fn a (recF N st gs mt x a n))::gs) mt) (qa2 st)) a
section
variable {P:Program} {w:World} {K:PySem.W.Frag} {mg:Str→Option Value} {base:Heap} {k:Nat} {x:Str} {st:Stmt} {N ps:List Str} {gs:List (Str×GI)} {mt:List Nat}
theorem GK.up {k':Nat} (h:k≤k'):∀ {p:Str×GI},GK P w K mg base k p→GK P w K mg base k' p
  | (_,.fn _ _),g=>Fn.up g h
  | (_,.con _),g=>g
  | (_,.blt),g=>g
  | (_,.tab _),g=>g
theorem fn_none (F:qk7 K mg x st) (Sc:qc9 N ps (qa1 st)) (hb:zd7 x st ps):Fn P w K mg base (k+1) x ps.length (fun _ _=>none):=by
  obtain ⟨a,fd,F,hmg⟩:=F.ex
  exact fn_mk F Sc hmg (F.binds hb) fun cdv A outer s H E hr=>⟨mNoS,dss_no,fun ds S d S' _ _ _ h=>by cases h⟩
theorem rec_ok (F:qk7 K mg x st) (Sc:qc9 N ps (qa1 st)) (hb:zd7 x st ps) (hg:GKs P w K mg base k gs):∀ n,Fn P w K mg base (k+1+n) x ps.length (recF N st gs mt x ps.length n)
  | 0=>fn_none F Sc hb
  | n+1=>qi9 (k:=k+1+n) F Sc hb fun p hp=>by
    rcases List.mem_cons.mp hp with rfl | hp
    · exact rec_ok F Sc hb hg n
    · exact GK.up (by omega) (GKs.mem hg p hp)
end
end MI
namespace MI
open PySem PySem.Spec PyProof.Rows L2 M
section
variable {env e:MEnv} {S S':qa0} {x y d:D} {f g:qa0→D→D→Option D} {a b c:ME} {ms:MA} {t u:MT} {k l:Bool} {p q:MS} {tg:MG}
@[simp high] theorem ob {α β:Type} {a:α} {f:α→Option β}:(some a).bind f=f a:=id rfl
@[simp high] theorem obn {α β:Type} {f:α→Option β}:(none:Option α).bind f=none:=id rfl
@[simp high] theorem oj {α:Type} {a:Option α}:(some a).join=a:=rfl
@[simp high] theorem lg0 {α:Type} {a:α} {l:List α}:(a::l)[0]?=some a:=rfl
@[simp high] theorem lg1 {α:Type} {a b:α} {l:List α}:(a::b::l)[1]?=some b:=rfl
@[simp high] theorem lgS {α:Type} {a:α} {l:List α} {i:Nat}:(a::l)[i+1]?=l[i]?:=rfl
@[simp high] theorem ls0 {α:Type} {a b:α} {l:List α}:(a::l).set 0 b=b::l:=rfl
@[simp high] theorem lsS {α:Type} {a b:α} {l:List α} {i:Nat}:(a::l).set (i+1) b=a::l.set i b:=rfl
noncomputable def kRet (S:qa0) (z:D):Option (D×qa0):=some (z,S)
@[simp] theorem qa6:kRet S d=some (d,S):=rfl
@[simp] theorem mC_s:mC d env S=some (d,S):=by rw [q46];rfl
@[simp] theorem qa5 {i:Nat}:mVar i env S=(env[i]?).join.bind (kRet S):=by rw [zo5];rfl
noncomputable def kOp2 (f:qa0→D→D→Option D) (x:D) (q:D×qa0):Option (D×qa0):=(f q.2 x q.1).bind (kRet q.2)
noncomputable def kOp1 (f:qa0→D→D→Option D) (b:ME) (env:MEnv) (q:D×qa0):Option (D×qa0):=(b env q.2).bind (kOp2 f q.1)
@[simp] theorem qb1:kOp1 f b env (x,S)=(b env S).bind (kOp2 f x):=id rfl
@[simp] theorem qb2:kOp2 f x (y,S)=(f S x y).bind (kRet S):=id rfl
@[simp] theorem qd2:mOp f a b env S=(a env S).bind (kOp1 f b env):=by rw [qu0];rfl
noncomputable def kTest (q:D×qa0):Option (Bool×qa0):=match q.1 with | .bl k=>some (k,q.2) | _=>none
@[simp] theorem qb6:kTest (.bl k,S)=some (k,S):=id rfl
@[simp] theorem qb7:mTest a env S=(a env S).bind kTest:=by rw [qO7];rfl
noncomputable def kCh3 (g:qa0→D→D→Option D) (y:D) (q:D×qa0):Option (D×qa0):=(g q.2 y q.1).bind (kRet q.2)
noncomputable def kChz (g:qa0→D→D→Option D) (c:ME) (env:MEnv) (y:D) (S:qa0) (z:D):Option (D×qa0):=match z with
  | .bl true=>(c env S).bind (kCh3 g y)
  | .bl false=>some (.bl false,S)
  | _=>none
noncomputable def kCh2 (f g:qa0→D→D→Option D) (c:ME) (env:MEnv) (x:D) (q:D×qa0):Option (D×qa0):=(f q.2 x q.1).bind (kChz g c env q.1 q.2)
noncomputable def kCh1 (f g:qa0→D→D→Option D) (b c:ME) (env:MEnv) (q:D×qa0):Option (D×qa0):=(b env q.2).bind (kCh2 f g c env q.1)
@[simp] theorem kCh1_s:kCh1 f g b c env (x,S)=(b env S).bind (kCh2 f g c env x):=id rfl
@[simp] theorem kCh2_s:kCh2 f g c env x (y,S)=(f S x y).bind (kChz g c env y S):=id rfl
@[simp] theorem kChz_t:kChz g c env y S (.bl true)=(c env S).bind (kCh3 g y):=id rfl
@[simp] theorem kChz_f:kChz g c env y S (.bl false)=some (.bl false,S):=id rfl
@[simp] theorem kCh3_s:kCh3 g y (x,S)=(g S y x).bind (kRet S):=id rfl
@[simp] theorem mChain_s:mChain f g a b c env S=(a env S).bind (kCh1 f g b c env):=by
  rw [qF2];unfold M.mChain kCh1 kCh2 kChz
  congr 1
noncomputable def kTru (q:D×qa0):Option (Bool×qa0):=(truD q.2 q.1).bind fun k=>some (k,q.2)
@[simp] theorem qu1:kTru (.bl k,S)=some (k,S):=id rfl
@[simp] theorem kTru_n:kTru (.non,S)=some (false,S):=id rfl
@[simp] theorem kTru_i {i:Int}:kTru (.int i,S)=some (i != 0,S):=id rfl
@[simp] theorem kTru_t {xs:List D}:kTru (.tup xs,S)=some (!xs.isEmpty,S):=id rfl
@[simp] theorem kTru_l {xs:List D}:kTru (.lst xs,S)=some (!xs.isEmpty,S):=id rfl
@[simp] theorem qt8:mTru a env S=(a env S).bind kTru:=by rw [q39];rfl
noncomputable def kAndT (u:MT) (env:MEnv) (q:Bool×qa0):Option (Bool×qa0):=if q.1=true then u env q.2 else some (false,q.2)
noncomputable def kOrT (u:MT) (env:MEnv) (q:Bool×qa0):Option (Bool×qa0):=if q.1=true then some (true,q.2) else u env q.2
noncomputable def kNotT (q:Bool×qa0):Option (Bool×qa0):=some (!q.1,q.2)
@[simp] theorem qz2:kAndT u env (true,S)=u env S:=id rfl
@[simp] theorem q54:kAndT u env (false,S)=some (false,S):=id rfl
@[simp] theorem kOrT_t:kOrT u env (true,S)=some (true,S):=id rfl
@[simp] theorem qX1:kOrT u env (false,S)=u env S:=id rfl
@[simp] theorem qv2:kNotT (k,S)=some (!k,S):=id rfl
@[simp] theorem qv0:mAndT t u env S=(t env S).bind (kAndT u env):=by rw [qP0];rfl
@[simp] theorem qE8:mOrT t u env S=(t env S).bind (kOrT u env):=by rw [q40];rfl
@[simp] theorem qu9:mNotT t env S=(t env S).bind kNotT:=by rw [za0];rfl
@[simp] theorem qo9:mTrue env S=some (true,S):=by rw [q97];rfl
noncomputable def kAnd (b:ME) (env:MEnv) (q:D×qa0):Option (D×qa0):=(truD q.2 q.1).bind fun k=>if k=true then b env q.2 else some (q.1,q.2)
noncomputable def kOr (b:ME) (env:MEnv) (q:D×qa0):Option (D×qa0):=(truD q.2 q.1).bind fun k=>if k=true then some (q.1,q.2) else b env q.2
@[simp] theorem kAnd_t:kAnd b env (.bl true,S)=b env S:=id rfl
@[simp] theorem kAnd_f:kAnd b env (.bl false,S)=some (.bl false,S):=id rfl
@[simp] theorem kOr_t:kOr b env (.bl true,S)=some (.bl true,S):=id rfl
@[simp] theorem kOr_f:kOr b env (.bl false,S)=b env S:=id rfl
@[simp] theorem mAnd_s:mAnd a b env S=(a env S).bind (kAnd b env):=by rw [zp8];rfl
@[simp] theorem mOr_s:mOr a b env S=(a env S).bind (kOr b env):=by rw [mOr_eq];rfl
noncomputable def kNotV (q:D×qa0):Option (D×qa0):=(truD q.2 q.1).bind fun k=>some (.bl (!k),q.2)
@[simp] theorem kNotV_l {xs:List D}:kNotV (.lst xs,S)=some (.bl (!!xs.isEmpty),S):=id rfl
@[simp] theorem kNotV_t {xs:List D}:kNotV (.tup xs,S)=some (.bl (!!xs.isEmpty),S):=id rfl
@[simp] theorem kOr_c {d:D} {ds:List D}:kOr b env (.lst (d::ds),S)=some (.lst (d::ds),S):=id rfl
@[simp] theorem kOr_e:kOr b env (.lst [],S)=b env S:=id rfl
@[simp] theorem kNotV_s:kNotV (.bl k,S)=some (.bl (!k),S):=id rfl
@[simp] theorem mNotV_s:mNotV a env S=(a env S).bind kNotV:=by rw [q99];rfl
noncomputable def kIf (a b:ME) (env:MEnv) (q:Bool×qa0):Option (D×qa0):=if q.1=true then a env q.2 else b env q.2
@[simp] theorem kIf_t:kIf a b env (true,S)=a env S:=id rfl
@[simp] theorem kIf_f:kIf a b env (false,S)=b env S:=id rfl
@[simp] theorem mIf_s:mIf t a b env S=(t env S).bind (kIf a b env):=by rw [mIf_eq];rfl
@[simp] theorem qb0:mNil env S=some ([],S):=by rw [q41];rfl
noncomputable def zr4 (x:D) (q:List D×qa0):Option (List D×qa0):=some (x::q.1,q.2)
noncomputable def kCons1 (ms:MA) (env:MEnv) (q:D×qa0):Option (List D×qa0):=(ms env q.2).bind (zr4 q.1)
@[simp] theorem qa3 {xs:List D}:zr4 x (xs,S)=some (x::xs,S):=id rfl
@[simp] theorem qa4:kCons1 ms env (x,S)=(ms env S).bind (zr4 x):=id rfl
@[simp] theorem qa7:mCons a ms env S=(a env S).bind (kCons1 ms env):=by rw [za7];rfl
noncomputable def kTup (q:List D×qa0):Option (D×qa0):=if q.1.length≤sizeLine then some (.tup q.1,q.2) else none
noncomputable def kLst (q:List D×qa0):Option (D×qa0):=if q.1.length≤sizeLine then some (.lst q.1,q.2) else none
noncomputable def zg6 (q:List D×qa0):Option (D×qa0):=if q.1.length≤sizeLine then some (.ref q.2.length,q.2++[.lst q.1]) else none
theorem sz {n:Nat} (h:n≤1000):n≤sizeLine:=Nat.le_trans h (by decide)
theorem qd3 {xs:List D} (h:xs.length≤1000):kTup (xs,S)=some (.tup xs,S):=if_pos (sz h)
theorem qi8 {xs:List D} (h:xs.length≤1000):kLst (xs,S)=some (.lst xs,S):=if_pos (sz h)
theorem qC0 {xs:List D} (h:xs.length≤1000):zg6 (xs,S)=some (.ref S.length,S++[.lst xs]):=if_pos (sz h)
@[simp] theorem qf9:mTup ms env S=(ms env S).bind kTup:=by rw [zo6];rfl
@[simp] theorem qr0:mLst ms env S=(ms env S).bind kLst:=by rw [zp0];rfl
@[simp] theorem q42:mLstR ms env S=(ms env S).bind zg6:=by rw [za2];rfl
noncomputable def kCall (f:List D→qa0→Option (D×qa0)) (q:List D×qa0):Option (D×qa0):=f q.1 q.2
@[simp] theorem qf1 {f:List D→qa0→Option (D×qa0)} {xs:List D}:kCall f (xs,S)=f xs S:=id rfl
@[simp] theorem qf0 {f:List D→qa0→Option (D×qa0)}:mCall f ms env S=(ms env S).bind (kCall f):=by rw [qo5];rfl
noncomputable def qL2 (n:Nat) (f:List D→qa0→Option (D×qa0)) (q:List D×qa0):Option (D×qa0):=if q.1.length=n then f q.1 q.2 else none
@[simp] theorem kCallN_0 {f:List D→qa0→Option (D×qa0)}:qL2 0 f ([],S)=f [] S:=id rfl
@[simp] theorem qC3 {f:List D→qa0→Option (D×qa0)}:qL2 1 f ([x],S)=f [x] S:=id rfl
@[simp] theorem qd8 {f:List D→qa0→Option (D×qa0)}:qL2 2 f ([x,y],S)=f [x,y] S:=id rfl
@[simp] theorem qo8 {f:List D→qa0→Option (D×qa0)} {z:D}:qL2 3 f ([x,y,z],S)=f [x,y,z] S:=id rfl
@[simp] theorem kCallN_4 {f:List D→qa0→Option (D×qa0)} {z w:D}:qL2 4 f ([x,y,z,w],S)=f [x,y,z,w] S:=id rfl
@[simp] theorem qc6 {n:Nat} {f:List D→qa0→Option (D×qa0)}:mCallN n f ms env S=(ms env S).bind (qL2 n f):=by rw [qF3];rfl
noncomputable def kIsI (T:String) (q:D×qa0):Option (D×qa0):=(fIsI T q.2 q.1).bind (kRet q.2)
@[simp] theorem kIsI_s {T:String}:kIsI T (x,S)=(fIsI T S x).bind (kRet S):=id rfl
@[simp] theorem mIsI_s {T:String}:mIsI T a env S=(a env S).bind (kIsI T):=by rw [zp1];rfl
noncomputable def kUn (f:qa0→D→Option D) (q:D×qa0):Option (D×qa0):=(f q.2 q.1).bind (kRet q.2)
@[simp] theorem kUn_s {f:qa0→D→Option D}:kUn f (x,S)=(f S x).bind (kRet S):=id rfl
@[simp] theorem mUn_s {f:qa0→D→Option D}:mUn f a env S=(a env S).bind (kUn f):=by rw [mUn_eq];rfl
@[simp] theorem qk8:mPartN env S=some (none,S):=by rw [qW4];rfl
noncomputable def kPart (q:D×qa0):Option (Option Int×qa0):=match q.1 with | .int i=>some (some i,q.2) | _=>none
@[simp] theorem qn4 {i:Int}:kPart (.int i,S)=some (some i,S):=id rfl
@[simp] theorem qn3:mPart a env S=(a env S).bind kPart:=by rw [q98];rfl
noncomputable def kSl3 (x:D) (l:Option Int) (q:Option Int×qa0):Option (D×qa0):=match x with
  | .tup xs=>some (.tup (cutL xs l q.1),q.2)
  | .lst xs=>some (.lst (cutL xs l q.1),q.2)
  | .rol xs=>some (.lst (cutL xs l q.1),q.2)
  | .ref r=>match q.2[r]? with | some (.lst xs)=>some (.lst (cutL xs l q.1),q.2) | _=>none
  | _=>none
noncomputable def kSl2 (hi:MO) (env:MEnv) (x:D) (q:Option Int×qa0):Option (D×qa0):=(hi env q.2).bind (kSl3 x q.1)
noncomputable def kSl1 (lo hi:MO) (env:MEnv) (q:D×qa0):Option (D×qa0):=(lo env q.2).bind (kSl2 hi env q.1)
@[simp] theorem qs3 {lo hi:MO}:kSl1 lo hi env (x,S)=(lo env S).bind (kSl2 hi env x):=id rfl
@[simp] theorem qs2 {hi:MO} {l:Option Int}:kSl2 hi env x (l,S)=(hi env S).bind (kSl3 x l):=id rfl
@[simp] theorem zb3 {xs:List D} {l h:Option Int}:kSl3 (.tup xs) l (h,S)=some (.tup (cutL xs l h),S):=id rfl
@[simp] theorem kSl3_l {xs:List D} {l h:Option Int}:kSl3 (.lst xs) l (h,S)=some (.lst (cutL xs l h),S):=id rfl
@[simp] theorem kSl3_r {xs:List D} {l h:Option Int}:kSl3 (.rol xs) l (h,S)=some (.lst (cutL xs l h),S):=id rfl
@[simp] theorem qj8 {lo hi:MO}:mSlice a lo hi env S=(a env S).bind (kSl1 lo hi env):=by rw [qW3];rfl
@[simp] theorem qg0:mSkip env S=some (.nx env S):=by rw [qB8];rfl
noncomputable def kSeq (q:MS):Out→Option Out
  | .nx e S=>q e S
  | .rt d S=>some (.rt d S)
  | .bk e S=>some (.bk e S)
  | .ct e S=>some (.ct e S)
@[simp] theorem qc1:kSeq q (.nx e S)=q e S:=id rfl
@[simp] theorem qk9:kSeq q (.rt d S)=some (.rt d S):=id rfl
@[simp] theorem kSeq_bk:kSeq q (.bk e S)=some (.bk e S):=id rfl
@[simp] theorem kSeq_ct:kSeq q (.ct e S)=some (.ct e S):=id rfl
@[simp] theorem qd6:mSeq p q env S=(p env S).bind (kSeq q):=by rw [zo7];unfold M.mSeq;congr 1;funext o;cases o <;> rfl
noncomputable def kRt (q:D×qa0):Option Out:=some (.rt q.1 q.2)
@[simp] theorem qj9:kRt (d,S)=some (.rt d S):=id rfl
@[simp] theorem qg5:mRet a env S=(a env S).bind kRt:=by rw [zo8];rfl
noncomputable def kDrop (env:MEnv) (q:D×qa0):Option Out:=some (.nx env q.2)
@[simp] theorem qz1:kDrop env (d,S)=some (.nx env S):=id rfl
@[simp] theorem qy7:mDrop a env S=(a env S).bind (kDrop env):=by rw [za5];rfl
noncomputable def kIfS (p q:MS) (env:MEnv) (r:Bool×qa0):Option Out:=if r.1=true then p env r.2 else q env r.2
@[simp] theorem qj6:kIfS p q env (true,S)=p env S:=id rfl
@[simp] theorem qi3:kIfS p q env (false,S)=q env S:=id rfl
@[simp] theorem qe9:mIfS t p q env S=(t env S).bind (kIfS p q env):=by rw [zp2];rfl
noncomputable def kNx (q:MEnv×qa0):Option Out:=some (.nx q.1 q.2)
@[simp] theorem qk0:kNx (e,S)=some (.nx e S):=id rfl
noncomputable def kAsg (tg:MG) (env:MEnv) (q:D×qa0):Option Out:=(tg q.1 env q.2).bind kNx
@[simp] theorem qg2:kAsg tg env (d,S)=(tg d env S).bind kNx:=id rfl
@[simp] theorem qg1:mAsg a tg env S=(a env S).bind (kAsg tg env):=by rw [qm1];rfl
@[simp] theorem qd0 {i:Nat}:gSet i d env S=some (env.set i (some d),S):=by rw [qw1];rfl
@[simp] theorem ql0:gNilD [] env S=some (env,S):=by rw [zc0];rfl
noncomputable def kGs (gs:MGs) (r:List D) (q:MEnv×qa0):Option (MEnv×qa0):=gs r q.1 q.2
@[simp] theorem qv3 {gs:MGs} {r:List D}:kGs gs r (e,S)=gs r e S:=id rfl
@[simp] theorem qh5 {gs:MGs} {r:List D}:gConsD tg gs (d::r) env S=(tg d env S).bind (kGs gs r):=by rw [qY3];rfl
theorem gTupD_of {n:Nat} {gs:MGs} {xs:List D} (h:xs.length=n):gTupD n gs (.tup xs) env S=gs xs env S:=by rw [qx3];exact if_pos h
@[simp] theorem qm3 {gs:MGs}:gTupD 2 gs (.tup [x,y]) env S=gs [x,y] env S:=by rw [qx3];rfl
@[simp] theorem gTupD_3 {gs:MGs} {z:D}:gTupD 3 gs (.tup [x,y,z]) env S=gs [x,y,z] env S:=by rw [qx3];rfl
@[simp] theorem gTupD_4 {gs:MGs} {z w:D}:gTupD 4 gs (.tup [x,y,z,w]) env S=gs [x,y,z,w] env S:=by rw [qx3];rfl
noncomputable def zq7 (env:MEnv) (d:D) (r:Nat) (k:Int) (S:qa0):Option (MEnv×qa0):=match S[r]? with
  | some (.lst xs)=>(ixN xs.length k).bind fun j=>some (env,S.set r (.lst (xs.set j d)))
  | _=>none
noncomputable def kSub2 (env:MEnv) (d o:D) (q:D×qa0):Option (MEnv×qa0):=match o,q.1 with
  | .ref r,.int k=>zq7 env d r k q.2
  | _,_=>none
noncomputable def kSub1 (i:ME) (env:MEnv) (d:D) (q:D×qa0):Option (MEnv×qa0):=(i env q.2).bind (kSub2 env d q.1)
@[simp] theorem kSub1_s:kSub1 a env d (x,S)=(a env S).bind (kSub2 env d x):=id rfl
@[simp] theorem kSub2_s {r:Nat} {i:Int}:kSub2 env d (.ref r) (.int i,S)=zq7 env d r i S:=id rfl
theorem qP5 {r:Nat} {i:Int} {xs:List D} {j:Nat} (h:S[r]?=some (.lst xs)) (hj:ixN xs.length i=some j):zq7 env d r i S=some (env,S.set r (.lst (xs.set j d))):=by
  unfold zq7;rw [h];show (ixN xs.length i).bind _=_;rw [hj];rfl
@[simp] theorem gSubD_s:gSubD a b d env S=(a env S).bind (kSub1 b env d):=by
  rw [zb9];unfold M.gSubD kSub1 kSub2 zq7;congr 1
noncomputable def kFor (tg:MG) (p:MS) (env:MEnv) (q:List D×qa0):Option Out:=qk6 tg p q.1 env q.2
@[simp] theorem qL1 {xs:List D}:kFor tg p env (xs,S)=qk6 tg p xs env S:=id rfl
@[simp] theorem qK9:mFor ms tg p env S=(ms env S).bind (kFor tg p env):=by rw [zp3];rfl
noncomputable def kLp2 (tg:MG) (p:MS) (xs:List D):Out→Option Out
  | .nx e s=>qk6 tg p xs e s
  | .ct e s=>qk6 tg p xs e s
  | .bk e s=>some (.nx e s)
  | .rt d s=>some (.rt d s)
noncomputable def kLp1 (tg:MG) (p:MS) (xs:List D) (q:MEnv×qa0):Option Out:=(p q.1 q.2).bind (kLp2 tg p xs)
@[simp] theorem qX4 {xs:List D}:kLp1 tg p xs (e,S)=(p e S).bind (kLp2 tg p xs):=id rfl
@[simp] theorem qF7 {xs:List D}:kLp2 tg p xs (.nx e S)=qk6 tg p xs e S:=id rfl
@[simp] theorem kLp2_ct {xs:List D}:kLp2 tg p xs (.ct e S)=qk6 tg p xs e S:=id rfl
@[simp] theorem kLp2_bk {xs:List D}:kLp2 tg p xs (.bk e S)=some (.nx e S):=id rfl
@[simp] theorem kLp2_rt {xs:List D}:kLp2 tg p xs (.rt d S)=some (.rt d S):=id rfl
@[simp] theorem zp4:qk6 tg p [] env S=some (.nx env S):=id rfl
theorem qp5 {xs:List D}:qk6 tg p (d::xs) env S=(tg d env S).bind (kLp1 tg p xs):=by
  show (tg d env S).bind _=_
  first | rfl | (congr 1;funext q;show (p q.1 q.2).bind _=(p q.1 q.2).bind _;congr 1;funext o;cases o <;> rfl)
noncomputable def kItS (q:D×qa0):Option (List D×qa0):=match q.1 with | .lst xs=>some (xs,q.2) | .rol xs=>some (xs,q.2) | .tup xs=>some (xs,q.2) | _=>none
@[simp] theorem kItS_l {xs:List D}:kItS (.lst xs,S)=some (xs,S):=id rfl
@[simp] theorem kItS_r {xs:List D}:kItS (.rol xs,S)=some (xs,S):=id rfl
@[simp] theorem qX5 {xs:List D}:kItS (.tup xs,S)=some (xs,S):=id rfl
@[simp] theorem qo4:mItS a env S=(a env S).bind kItS:=by rw [q43];rfl
noncomputable def kR1 (q:List D×qa0):Option (List D×qa0):=match q.1 with | [.int j]=>if -(2 ^ 62)≤j∧j<2 ^ 62 then some (qe7 0 j.toNat,q.2) else none | _=>none
theorem qu2 {j:Int} (h:-1000000≤j) (h':j≤1000000):kR1 ([.int j],S)=some (qe7 0 j.toNat,S):=if_pos ⟨by omega,by omega⟩
@[simp] theorem qj5:mRange1 ms env S=(ms env S).bind kR1:=by rw [qy5];rfl
noncomputable def kR2 (q:List D×qa0):Option (List D×qa0):=match q.1 with | [.int i,.int j]=>if -(2 ^ 62)≤i∧i<2 ^ 62∧-(2 ^ 62)≤j∧j<2 ^ 62 then some (qe7 i (j - i).toNat,q.2) else none | _=>none
@[simp] theorem mRange2_s:mRange2 ms env S=(ms env S).bind kR2:=by rw [qK8];rfl
noncomputable def qX6 (q:List D×qa0):Option (D×qa0):=some (.lst q.1,q.2)
noncomputable def qX7 (g:MG) (t:MT) (e:ME) (cap:List (Option Nat)) (env:MEnv) (q:List D×qa0):Option (D×qa0):=if q.1.length≤sizeLine then (ql8 g t e q.1 (capE cap env) q.2).bind qX6 else none
theorem qC1 {cap:List (Option Nat)} {xs:List D} (h:xs.length≤1000):qX7 tg t a cap env (xs,S)=(ql8 tg t a xs (capE cap env) S).bind qX6:=if_pos (sz h)
@[simp] theorem qC2 {xs:List D}:qX6 (xs,S)=some (.lst xs,S):=id rfl
@[simp] theorem qh1 {cap:List (Option Nat)}:mComp ms tg t a cap env S=(ms env S).bind (qX7 tg t a cap env):=by rw [qO9];rfl
noncomputable def kCl4 (x:D) (q:List D×qa0):Option (List D×qa0):=some (x::q.1,q.2)
noncomputable def kCl3 (g:MG) (t:MT) (e:ME) (xs:List D) (env:MEnv) (q:D×qa0):Option (List D×qa0):=(ql8 g t e xs env q.2).bind (kCl4 q.1)
noncomputable def kCl2 (g:MG) (t:MT) (e:ME) (xs:List D) (env:MEnv) (q:Bool×qa0):Option (List D×qa0):=if q.1=true then (e env q.2).bind (kCl3 g t e xs env) else ql8 g t e xs env q.2
noncomputable def kCl1 (g:MG) (t:MT) (e:ME) (xs:List D) (q:MEnv×qa0):Option (List D×qa0):=(t q.1 q.2).bind (kCl2 g t e xs q.1)
@[simp] theorem zr9 {xs:List D}:kCl1 tg t a xs (e,S)=(t e S).bind (kCl2 tg t a xs e):=id rfl
@[simp] theorem zr8 {xs:List D}:kCl2 tg t a xs e (true,S)=(a e S).bind (kCl3 tg t a xs e):=id rfl
@[simp] theorem kCl2_f {xs:List D}:kCl2 tg t a xs e (false,S)=ql8 tg t a xs e S:=id rfl
@[simp] theorem zr7 {xs:List D}:kCl3 tg t a xs e (d,S)=(ql8 tg t a xs e S).bind (kCl4 d):=id rfl
@[simp] theorem zr6 {xs:List D}:kCl4 d (xs,S)=some (d::xs,S):=id rfl
@[simp] theorem mCompL_nil:ql8 tg t a [] env S=some ([],S):=id rfl
theorem qp7 {xs:List D}:ql8 tg t a (d::xs) env S=(tg d env S).bind (kCl1 tg t a xs):=id rfl
noncomputable def kCe4 (x:D) (q:List D×MEnv×qa0):Option (List D×MEnv×qa0):=some (x::q.1,q.2)
noncomputable def kCe3 (g:MG) (t:MT) (e:ME) (xs:List D) (env:MEnv) (q:D×qa0):Option (List D×MEnv×qa0):=(qr2 g t e xs env q.2).bind (kCe4 q.1)
noncomputable def kCe2 (g:MG) (t:MT) (e:ME) (xs:List D) (env:MEnv) (q:Bool×qa0):Option (List D×MEnv×qa0):=if q.1=true then (e env q.2).bind (kCe3 g t e xs env) else qr2 g t e xs env q.2
noncomputable def kCe1 (g:MG) (t:MT) (e:ME) (xs:List D) (q:MEnv×qa0):Option (List D×MEnv×qa0):=(t q.1 q.2).bind (kCe2 g t e xs q.1)
theorem kCe1_s {xs:List D}:kCe1 tg t a xs (e,S)=(t e S).bind (kCe2 tg t a xs e):=id rfl
theorem kCe2_t {xs:List D}:kCe2 tg t a xs e (true,S)=(a e S).bind (kCe3 tg t a xs e):=id rfl
theorem kCe3_s {xs:List D}:kCe3 tg t a xs e (d,S)=(qr2 tg t a xs e S).bind (kCe4 d):=id rfl
theorem kCe4_s {xs:List D}:kCe4 d (xs,e,S)=some (d::xs,e,S):=id rfl
theorem zg3:qr2 tg t a [] env S=some ([],env,S):=id rfl
theorem q45 {xs:List D}:qr2 tg t a (d::xs) env S=(tg d env S).bind (kCe1 tg t a xs):=id rfl
noncomputable def kCo5 (r:List D) (z:List D×qa0):Option (List D×qa0):=some (r++z.1,z.2)
noncomputable def kCo4 (g:MG) (t:MT) (mi:MA) (g2:MG) (t2:MT) (e:ME) (xs:List D) (r:List D×MEnv×qa0):Option (List D×qa0):=(qr1 g t mi g2 t2 e xs r.2.1 r.2.2).bind (kCo5 r.1)
noncomputable def kCo3 (g:MG) (t:MT) (mi:MA) (g2:MG) (t2:MT) (e:ME) (xs:List D) (env:MEnv) (q:List D×qa0):Option (List D×qa0):=(qr2 g2 t2 e q.1 env q.2).bind (kCo4 g t mi g2 t2 e xs)
noncomputable def kCo2 (g:MG) (t:MT) (mi:MA) (g2:MG) (t2:MT) (e:ME) (xs:List D) (env:MEnv) (q:Bool×qa0):Option (List D×qa0):=if q.1=true then (mi env q.2).bind (kCo3 g t mi g2 t2 e xs env) else qr1 g t mi g2 t2 e xs env q.2
noncomputable def kCo1 (g:MG) (t:MT) (mi:MA) (g2:MG) (t2:MT) (e:ME) (xs:List D) (q:MEnv×qa0):Option (List D×qa0):=(t q.1 q.2).bind (kCo2 g t mi g2 t2 e xs q.1)
section
variable {g2:MG} {t2:MT} {xs:List D} {mi2:MA}
theorem kCo1_s:kCo1 tg t mi2 g2 t2 a xs (e,S)=(t e S).bind (kCo2 tg t mi2 g2 t2 a xs e):=id rfl
theorem kCo2_t:kCo2 tg t mi2 g2 t2 a xs e (true,S)=(mi2 e S).bind (kCo3 tg t mi2 g2 t2 a xs e):=id rfl
theorem kCo3_s {us:List D}:kCo3 tg t mi2 g2 t2 a xs e (us,S)=(qr2 g2 t2 a us e S).bind (kCo4 tg t mi2 g2 t2 a xs):=id rfl
theorem kCo4_s {us:List D}:kCo4 tg t mi2 g2 t2 a xs (us,e,S)=(qr1 tg t mi2 g2 t2 a xs e S).bind (kCo5 us):=id rfl
theorem kCo5_s {us:List D}:kCo5 us (xs,S)=some (us++xs,S):=id rfl
theorem zg2:qr1 tg t mi2 g2 t2 a [] env S=some ([],S):=id rfl
theorem q44:qr1 tg t mi2 g2 t2 a (d::xs) env S=(tg d env S).bind (kCo1 tg t mi2 g2 t2 a xs):=id rfl
noncomputable def kCo9 (q:List D×qa0):Option (D×qa0):=if q.1.length≤sizeLine then some (.lst q.1,q.2) else none
theorem kCo9_of (h:xs.length≤1000):kCo9 (xs,S)=some (.lst xs,S):=if_pos (sz h)
noncomputable def kCo0 (g:MG) (t:MT) (mi:MA) (g2:MG) (t2:MT) (e:ME) (cap:List (Option Nat)) (env:MEnv) (q:List D×qa0):Option (D×qa0):=(qr1 g t mi g2 t2 e q.1 (capE cap env) q.2).bind kCo9
theorem kCo0_s {cap:List (Option Nat)}:kCo0 tg t mi2 g2 t2 a cap env (xs,S)=(qr1 tg t mi2 g2 t2 a xs (capE cap env) S).bind kCo9:=id rfl
theorem za8 {cap:List (Option Nat)}:mComp2 ms tg t mi2 g2 t2 a cap env S=(ms env S).bind (kCo0 tg t mi2 g2 t2 a cap env):=by rw [qF1];rfl
end
noncomputable def kCat2 (x:D) (q:D×qa0):Option (D×qa0):=(qB5 q.2 x).bind fun xs=>(qB5 q.2 q.1).bind fun ys=>if xs.length+ys.length≤sizeLine then some (.ref q.2.length,q.2++[.lst (xs++ys)]) else none
noncomputable def kCat1 (b:ME) (env:MEnv) (q:D×qa0):Option (D×qa0):=(b env q.2).bind (kCat2 q.1)
theorem kCat1_s {b:ME}:kCat1 b env (d,S)=(b env S).bind (kCat2 d):=id rfl
theorem kCat2_l {xs ys:List D} (h:xs.length+ys.length≤1000):kCat2 (.lst xs) (.lst ys,S)=some (.ref S.length,S++[.lst (xs++ys)]):=if_pos (sz h)
theorem mCatR_s {b:ME}:mCatR a b env S=(a env S).bind (kCat1 b env):=by rw [za9];rfl
@[simp] theorem qG9 {i j:Int}:qc7 S (.int i) (.int j)=some (.int (i+j)):=id rfl
theorem qx5 {xs ys:List D} (h:xs.length+ys.length≤1000):qc7 S (.tup xs) (.tup ys)=some (.tup (xs++ys)):=if_pos (sz h)
theorem zu4 {xs ys:List D} (h:xs.length+ys.length≤1000):qc7 S (.lst xs) (.lst ys)=some (.lst (xs++ys)):=if_pos (sz h)
@[simp] theorem fSub_i {i j:Int}:fSub S (.int i) (.int j)=some (.int (i - j)):=id rfl
@[simp] theorem fLt_i {i j:Int}:fLt S (.int i) (.int j)=some (.bl (decide (i<j))):=id rfl
@[simp] theorem fLe_i {i j:Int}:fLe S (.int i) (.int j)=some (.bl (decide (i≤j))):=id rfl
@[simp] theorem fGt_i {i j:Int}:fGt S (.int i) (.int j)=some (.bl (decide (j<i))):=id rfl
@[simp] theorem fGe_i {i j:Int}:fGe S (.int i) (.int j)=some (.bl (decide (j≤i))):=id rfl
@[simp] theorem fNeg_i {i:Int}:fNeg S (.int i)=some (.int (-i)):=id rfl
theorem qr3 {i j:Int} (h:0<j):fMod S (.int i) (.int j)=some (.int (i % j)):=if_pos (decide_eq_true h)
theorem fDiv_i {i j:Int} (h:0<j) (h':j<1073741824):fDiv S (.int i) (.int j)=some (.int (i / j)):=if_pos (by show (decide (0<j)&&decide (j<1073741824))=true;rw [decide_eq_true h,decide_eq_true h'];rfl)
theorem fPow_i {i j:Int} (h:(decide (0≤j)&&decide (j≤1000000)&&decide (i.natAbs<2 ^ 64))=true):fPow S (.int i) (.int j)=some (.int (i ^ j.toNat)):=if_pos h
theorem qs5 {i j:Int} (h:mulB i j=true):qj3 S (.int i) (.int j)=some (.int (i * j)):=if_pos h
theorem qK2 {i j:Int} (h:-18446744073709551616<i) (h':i<18446744073709551616):mulB i j=true:=by
  unfold mulB;rw [decide_eq_true (p:=i.natAbs<18446744073709551616) (by omega)];rfl
theorem q95 {i j:Int} (h:-18446744073709551616<j) (h':j<18446744073709551616):mulB i j=true:=by
  unfold mulB;rw [decide_eq_true (p:=j.natAbs<18446744073709551616) (by omega)];simp
@[simp] theorem fIx_t {xs:List D} {i:Int}:fIxX S (.tup xs) (.int i)=atI xs i:=id rfl
@[simp] theorem fIx_l {xs:List D} {i:Int}:fIxX S (.lst xs) (.int i)=atI xs i:=id rfl
@[simp] theorem fIx_r {xs:List D} {i:Int}:fIxX S (.rol xs) (.int i)=atI xs i:=id rfl
theorem qG5 {r:Nat} {xs:List D} {i:Int} (h:S[r]?=some (.lst xs)):fIxX S (.ref r) (.int i)=atI xs i:=by
  have:seqD S (.ref r)=some xs:=by simp only [seqD,h]
  have t:tabD S (.ref r)=none:=by simp only [tabD,h]
  unfold fIxX;rw [t]
  show (seqD S (.ref r)).bind _=_;rw [this];rfl
theorem atI_at {α:Type} {xs:List α} {i:Int} (h0:0≤i) (h:i<xs.length):atI xs i=some (xs[i.toNat]'(by omega)):=by
  unfold atI ixN;rw [if_pos h0,if_pos h];show xs[i.toNat]?=_;rw [List.getElem?_eq_getElem]
@[simp] theorem fLen_t {xs:List D}:qb3 fLen [.tup xs] S=some (.int xs.length,S):=id rfl
@[simp] theorem fLen_l {xs:List D}:qb3 fLen [.lst xs] S=some (.int xs.length,S):=id rfl
@[simp] theorem fLen_r {xs:List D}:qb3 fLen [.rol xs] S=some (.int xs.length,S):=id rfl
@[simp] theorem fInt1_i {i:Int}:qb3 qz9 [.int i] S=some (.int i,S):=id rfl
@[simp] theorem qG7:qb3 qz9 [.bl k] S=some (.int (if k then 1 else 0),S):=id rfl
@[simp] theorem fMax2_i {i j:Int}:qb3 qB6 [.int i,.int j] S=some (.int (if j>i then j else i),S):=id rfl
@[simp] theorem fMin2_i {i j:Int}:qb3 zu0 [.int i,.int j] S=some (.int (if j<i then j else i),S):=id rfl
@[simp] theorem fSeq1_t {g:List D→D} {xs:List D}:qb3 (qi5 g) [.tup xs] S=some (g xs,S):=id rfl
@[simp] theorem qn5 {g:List D→D} {xs:List D}:qb3 (qi5 g) [.lst xs] S=some (g xs,S):=id rfl
theorem fAll_l {xs:List D} {bs:List Bool} (h:qH4 xs=some bs):qb3 fAll [.lst xs] S=some (.bl (bs.all id),S):=by
  show ((qH4 xs).bind _).bind _=_;rw [h];rfl
@[simp] theorem fIs_n:fIs S x .non=some (.bl (isD x .non)):=id rfl
@[simp] theorem fIs_b:fIs S x (.bl k)=some (.bl (isD x (.bl k))):=id rfl
@[simp] theorem qP9:qG6 S x .non=some (.bl (!isD x .non)):=id rfl
@[simp] theorem fIsNot_b:qG6 S x (.bl k)=some (.bl (!isD x (.bl k))):=id rfl
theorem qG8 (h:okD 40 x=true) (h':okD 40 y=true):fEq S x y=some (.bl (eqD x y)):=if_pos ⟨h,h'⟩
theorem qL9 (h:okD 40 x=true) (h':okD 40 y=true):fNe S x y=some (.bl (!eqD x y)):=if_pos ⟨h,h'⟩
@[simp] theorem qB2 {i j:Int}:fEq S (.int i) (.int j)=some (.bl (i == j)):=qG8 (by simp [okD]) (by simp [okD])
@[simp] theorem fNe_ii {i j:Int}:fNe S (.int i) (.int j)=some (.bl (!(i == j))):=qL9 (by simp [okD]) (by simp [okD])
@[simp] theorem fEq_bb:fEq S (.bl k) (.bl l)=some (.bl (k == l)):=qG8 (by simp [okD]) (by simp [okD])
@[simp] theorem qn6 {i j:Str}:fEq S (.str i) (.str j)=some (.bl (i == j)):=qG8 (by simp [okD]) (by simp [okD])
@[simp] theorem zt7 {i j:Str}:fNe S (.str i) (.str j)=some (.bl (!(i == j))):=qL9 (by simp [okD]) (by simp [okD])
theorem qB0 {ys:List D} (hs:seqD S y=some ys) (h:okD 40 x=true) (h':ys.all (okD 39)=true):fIn S x y=some (.bl (ys.any fun d=>eqD d x)):=by
  unfold fIn;rw [hs];exact if_pos ⟨h,h'⟩
theorem zt4 {ys:List D} (hs:seqD S y=some ys) (h:okD 40 x=true) (h':ys.all (okD 39)=true):qL8 S x y=some (.bl (!ys.any fun d=>eqD d x)):=by
  unfold qL8;rw [hs];exact if_pos ⟨h,h'⟩
theorem fMulX_t {xs:List D} {k:Int} (h0:0≤k) (h1:k≤100000) (h:xs.length * k.toNat≤1000):qj3 S (.tup xs) (.int k)=some (.tup (List.replicate k.toNat xs).flatten):=if_pos ⟨by omega,by omega,sz h⟩
noncomputable def ql9 (f:MF) (x:D) (q:List D×qa0):Option (D×qa0):=f x q.1 q.2
noncomputable def qX3 (f:MF) (ms:MA) (env:MEnv) (q:D×qa0):Option (D×qa0):=if lstB q.2 q.1=true then (ms env q.2).bind (ql9 f q.1) else none
@[simp] theorem qE9 {f:MF}:mMeth f a ms env S=(a env S).bind (qX3 f ms env):=by rw [za1];rfl
@[simp] theorem kMeth_l {f:MF} {xs:List D}:qX3 f ms env (.lst xs,S)=(ms env S).bind (ql9 f (.lst xs)):=id rfl
theorem qP6 {f:MF} {r:Nat} {xs:List D} (h:S[r]?=some (.lst xs)):qX3 f ms env (.ref r,S)=(ms env S).bind (ql9 f (.ref r)):=by
  unfold qX3;exact if_pos (by simp only [lstB,h])
@[simp] theorem qo7 {f:MF} {xs:List D}:ql9 f x (xs,S)=f x xs S:=id rfl
theorem qY8 {r:Nat} {xs:List D} (h:S[r]?=some (.lst xs)) (hz:xs.length<1000):qm5 (.ref r) [y] S=some (.non,S.set r (.lst (xs++[y]))):=by
  simp only [qm5,h];exact if_pos (Nat.lt_of_lt_of_le hz (by decide))
theorem zu2 {r:Nat} {xs:List D} {i:Int} (h:S[r]?=some (.lst xs)) (hz:xs.length<1000) (h0:0≤i) (h1:i≤100000):qq4 (.ref r) [.int i,y] S=some (.non,S.set r (.lst (insL xs i y))):=by
  simp only [qq4,h];exact if_pos ⟨Nat.lt_of_lt_of_le hz (by decide),by omega,by omega⟩
noncomputable def kEnum (q:List D×qa0):Option (List D×qa0):=match q.1 with | [.tup xs]=>some (qs8 0 xs,q.2) | _=>none
@[simp] theorem kEnum_s {xs:List D}:kEnum ([.tup xs],S)=some (qs8 0 xs,S):=id rfl
@[simp] theorem qO8:mEnum ms env S=(ms env S).bind kEnum:=by rw [za4];rfl
theorem intsL_l {ns:List Int} (h:ns.length<64):qY1 S (.lst (ns.map .int))=some ns:=by
  unfold qY1
  rw [if_pos (show lstB S (.lst (ns.map D.int))=true from rfl)]
  show (qG3 (ns.map D.int)).bind _=_
  rw [qL5];exact if_pos h
noncomputable def kPar (i j:Nat) (env:MEnv) (q:List D×qa0):Option Out:=match q.1 with | [v,w]=>some (.nx ((env.set i (some v)).set j (some w)) q.2) | _=>none
@[simp] theorem mPar_s {i j:Nat}:mPar i j ms env S=(ms env S).bind (kPar i j env):=by rw [zo9];rfl
@[simp] theorem kPar_s {i j:Nat}:kPar i j env ([x,y],S)=some (.nx ((env.set i (some x)).set j (some y)) S):=id rfl
noncomputable def kCnt (ms:MA) (env:MEnv) (q:D×qa0):Option (D×qa0):=if tupB q.1=true then (ms env q.2).bind (ql9 qm4 q.1) else if lstB q.2 q.1=true then (ms env q.2).bind (ql9 qA0 q.1) else none
@[simp] theorem mCnt_s:mCnt a ms env S=(a env S).bind (kCnt ms env):=by rw [zp7];rfl
@[simp] theorem kCnt_t {xs:List D}:kCnt ms env (.tup xs,S)=(ms env S).bind (ql9 qm4 (.tup xs)):=id rfl
@[simp] theorem kCnt_l {xs:List D}:kCnt ms env (.lst xs,S)=(ms env S).bind (ql9 qA0 (.lst xs)):=id rfl
theorem zu3 {xs:List D} (h:okD 40 x=true) (h':xs.all (okD 39)=true):qm4 (.tup xs) [x] S=some (.int (xs.countP fun d=>eqD d x),S):=by
  show (if tupB (.tup xs)=true then qY7 (.tup xs) [x] S else none)=_
  rw [if_pos (show tupB (.tup xs)=true from rfl)]
  exact if_pos ⟨h,h'⟩
noncomputable def kZip (q:List D×qa0):Option (List D×qa0):=match q.1 with | [.tup xs,.tup ys]=>some (zipD xs ys,q.2) | _=>none
@[simp] theorem kZip_s {xs ys:List D}:kZip ([.tup xs,.tup ys],S)=some (zipD xs ys,S):=id rfl
@[simp] theorem mZip_s:mZip ms env S=(ms env S).bind kZip:=by rw [zo3];rfl
@[simp] theorem zipD_c {xs ys:List D}:zipD (x::xs) (y::ys)=.tup [x,y]::zipD xs ys:=id rfl
@[simp] theorem zipD_nl {xs:List D}:zipD [] xs=[]:=by cases xs <;> rfl
@[simp] theorem zipD_nr {xs:List D}:zipD xs []=[]:=by cases xs <;> rfl
noncomputable def kPr4 (k:Key) (d:D) (z:List (Key×D)×qa0):Option (List (Key×D)×qa0):=some ((k,d)::z.1,z.2)
noncomputable def kPr3 (r:List (ME×ME)) (env:MEnv) (k:Key) (q:D×qa0):Option (List (Key×D)×qa0):=(qt9 r env q.2).bind (kPr4 k q.1)
noncomputable def kPr2 (b:ME) (r:List (ME×ME)) (env:MEnv) (S:qa0) (k:Key):Option (List (Key×D)×qa0):=(b env S).bind (kPr3 r env k)
noncomputable def kPr1 (b:ME) (r:List (ME×ME)) (env:MEnv) (q:D×qa0):Option (List (Key×D)×qa0):=(qz0 q.1).bind (kPr2 b r env q.2)
@[simp] theorem qy6:qt9 [] env S=some ([],S):=id rfl
@[simp] theorem qu8 {r:List (ME×ME)}:qt9 ((a,b)::r) env S=(a env S).bind (kPr1 b r env):=id rfl
@[simp] theorem kPr1_i {i:Int} {r:List (ME×ME)}:kPr1 b r env (.int i,S)=(b env S).bind (kPr3 r env (.inl i)):=id rfl
@[simp] theorem zr0 {i:Str} {r:List (ME×ME)}:kPr1 b r env (.str i,S)=(b env S).bind (kPr3 r env (.inr i)):=id rfl
@[simp] theorem zq9 {k:Key} {r:List (ME×ME)}:kPr3 r env k (d,S)=(qt9 r env S).bind (kPr4 k d):=id rfl
@[simp] theorem zq8 {k:Key} {z:List (Key×D)}:kPr4 k d (z,S)=some ((k,d)::z,S):=id rfl
noncomputable def q53 (z:List (Key×D)×qa0):Option (D×qa0):=if z.1.length≤15 then some (.dct ((qh3 [] z.1).map (·.1)) ((qh3 [] z.1).map (·.2)),z.2) else none
noncomputable def zb5 (z:List (Key×D)×qa0):Option (D×qa0):=if z.1.length≤15 then some (.ref z.2.length,z.2++[.dct ((qh3 [] z.1).map (·.1)) ((qh3 [] z.1).map (·.2))]) else none
@[simp] theorem zp6 {ps:List (ME×ME)}:mDict ps env S=(qt9 ps env S).bind q53:=by rw [za6];rfl
@[simp] theorem mDictR_s {ps:List (ME×ME)}:mDictR ps env S=(qt9 ps env S).bind zb5:=by rw [qW7];rfl
theorem zb8 {k:Key}:∀ {l:List (Key×D)},k ∉ l.map (·.1)→hasK l k=false
  | [],_=>rfl
  | p::r,h=>by
    rw [List.map_cons,List.mem_cons,not_or] at h
    unfold hasK;rw [if_neg (fun z=>h.1 z.symm)];exact zb8 h.2
theorem qy3:∀ {l m:List (Key×D)},((m++l).map (·.1)).Nodup→qh3 m l=m++l
  | [],m,_=>by rw [List.append_nil];rfl
  | p::r,m,h=>by
    show qh3 (putD m p.1 p.2) r=_
    have hn:p.1 ∉ m.map (·.1):=by
      rw [List.map_append,List.map_cons,List.nodup_append] at h
      intro z;exact h.2.2 _ z _ List.mem_cons_self rfl
    unfold putD;rw [zb8 hn,if_neg Bool.false_ne_true]
    rw [qy3 (by rw [List.append_assoc];exact h),List.append_assoc];rfl
theorem qD8 {l:List (Key×D)} (h:(l.map (·.1)).Nodup):qh3 [] l=l:=qy3 (m:=[]) h
theorem zb4 {l:List (Key×D)} (h:(l.map (·.1)).Nodup) (hl:l.length≤15):q53 (l,S)=some (.dct (l.map (·.1)) (l.map (·.2)),S):=by
  unfold q53;rw [if_pos hl];simp only [qD8 h]
theorem zr3 {l:List (Key×D)} (h:(l.map (·.1)).Nodup) (hl:l.length≤15):zb5 (l,S)=some (.ref S.length,S++[.dct (l.map (·.1)) (l.map (·.2))]):=by
  unfold zb5;rw [if_pos hl];simp only [qD8 h]
theorem q75 {α β:Type}:∀ (l:List (α×β)),(l.map (·.1)).zip (l.map (·.2))=l
  | []=>rfl
  | p::r=>by rw [List.map_cons,List.map_cons,List.zip_cons_cons,q75 r]
@[simp] theorem fIx_dct {ks:List Key} {vs:List D}:fIxX S (.dct ks vs) y=(qz0 y).bind (valD (ks.zip vs)):=id rfl
theorem kDict_nd {l:List (Key×D)} (h:(l.map (·.1)).Nodup) (hl:l.length≤15):q53 (l,S)=some (.dct (l.map (·.1)) (l.map (·.2)),S):=by
  unfold q53;rw [if_pos hl];simp only [qD8 h]
theorem fIx_d {l:List (Key×D)} {k:Key} (h:qz0 y=some k):fIxX S (.dct (l.map (·.1)) (l.map (·.2))) y=valD l k:=by
  show (qz0 y).bind (fun k=>valD ((l.map (·.1)).zip (l.map (·.2))) k)=_
  rw [h,q75];rfl
theorem fIx_dr {r:Nat} {l:List (Key×D)} {k:Key} (hr:S[r]?=some (.dct (l.map (·.1)) (l.map (·.2)))) (h:qz0 y=some k):fIxX S (.ref r) y=valD l k:=by
  have:tabD S (.ref r)=some l:=by simp only [tabD,hr,q75]
  unfold fIxX;rw [this];show (qz0 y).bind _=_;rw [h];rfl
noncomputable def qX2 (f:MF) (ms:MA) (env:MEnv) (q:D×qa0):Option (D×qa0):=if dctB q.2 q.1=true then (ms env q.2).bind (ql9 f q.1) else none
noncomputable def zr5 (g:MG) (t:MT) (e:ME) (cap:List (Option Nat)) (env:MEnv) (q:D×qa0):Option (D×qa0):=match q.1 with
  | .ref r=>(qp0 g t e r 2000 0 (capE cap env) q.2).bind qX6
  | _=>none
theorem mCompX_s {g:MG} {t:MT} {e:ME} {cap:List (Option Nat)}:mCompX a g t e cap env S=(a env S).bind (zr5 g t e cap env):=by rw [qF0];rfl
theorem kCompX_r {g:MG} {t:MT} {e:ME} {cap:List (Option Nat)} {r:Nat}:zr5 g t e cap env (.ref r,S)=(qp0 g t e r 2000 0 (capE cap env) S).bind qX6:=id rfl
@[simp] theorem mMethD_s {f:MF}:mMethD f a ms env S=(a env S).bind (qX2 f ms env):=by rw [qW5];rfl
@[simp] theorem kMethD_d {f:MF} {ks:List Key} {vs:List D}:qX2 f ms env (.dct ks vs,S)=(ms env S).bind (ql9 f (.dct ks vs)):=id rfl
theorem kMethD_r {f:MF} {r:Nat} {ks:List Key} {vs:List D} (h:S[r]?=some (.dct ks vs)):qX2 f ms env (.ref r,S)=(ms env S).bind (ql9 f (.ref r)):=by
  unfold qX2;exact if_pos (by simp only [dctB,h])
@[simp] theorem valD_nil {k:Key}:valD [] k=none:=id rfl
@[simp] theorem valD_cons {k k':Key} {l:List (Key×D)}:valD ((k',d)::l) k=if k'=k then some d else valD l k:=id rfl
@[simp] theorem keyOf_i {i:Int}:qz0 (.int i)=some (.inl i):=id rfl
@[simp] theorem zq3 {i:Str}:qz0 (.str i)=some (.inr i):=id rfl
theorem fUpdD_r {r:Nat} {l m:List (Key×D)} (hr:S[r]?=some (.dct (l.map (·.1)) (l.map (·.2)))) (hl:l.length+m.length≤1000) :
    q56 (.ref r) [.dct (m.map (·.1)) (m.map (·.2))] S=some (.non,S.set r (.dct ((qh3 l m).map (·.1)) ((qh3 l m).map (·.2)))):=by
  simp only [q56,hr,q75]
  exact if_pos (by rw [List.length_map,List.length_map];exact sz hl)
noncomputable def zg7 (tg:MG) (p:MS) (env:MEnv) (q:D×qa0):Option Out:=match q.1 with
  | .ref r=>qm6 tg p r 2000 0 env q.2
  | .lst xs=>qk6 tg p xs env q.2
  | .rol xs=>qk6 tg p xs env q.2
  | .tup xs=>qk6 tg p xs env q.2
  | _=>none
@[simp] theorem zp5:mForD a tg p env S=(a env S).bind (zg7 tg p env):=by rw [za3];rfl
@[simp] theorem kForD_l {xs:List D}:zg7 tg p env (.lst xs,S)=qk6 tg p xs env S:=id rfl
@[simp] theorem kForD_o {xs:List D}:zg7 tg p env (.rol xs,S)=qk6 tg p xs env S:=id rfl
@[simp] theorem kForD_t {xs:List D}:zg7 tg p env (.tup xs,S)=qk6 tg p xs env S:=id rfl
@[simp] theorem kForD_r {r:Nat}:zg7 tg p env (.ref r,S)=qm6 tg p r 2000 0 env S:=id rfl
noncomputable def kRl2 (tg:MG) (p:MS) (r f i:Nat):Out→Option Out
  | .nx e s=>qm6 tg p r f i e s
  | .ct e s=>qm6 tg p r f i e s
  | .bk e s=>some (.nx e s)
  | .rt d s=>some (.rt d s)
noncomputable def kRl1 (tg:MG) (p:MS) (r f i:Nat) (q:MEnv×qa0):Option Out:=(p q.1 q.2).bind (kRl2 tg p r f i)
@[simp] theorem kRl1_s {r f i:Nat}:kRl1 tg p r f i (e,S)=(p e S).bind (kRl2 tg p r f i):=id rfl
@[simp] theorem kRl2_nx {r f i:Nat}:kRl2 tg p r f i (.nx e S)=qm6 tg p r f i e S:=id rfl
@[simp] theorem kRl2_ct {r f i:Nat}:kRl2 tg p r f i (.ct e S)=qm6 tg p r f i e S:=id rfl
@[simp] theorem kRl2_bk {r f i:Nat}:kRl2 tg p r f i (.bk e S)=some (.nx e S):=id rfl
@[simp] theorem kRl2_rt {r f i:Nat}:kRl2 tg p r f i (.rt d S)=some (.rt d S):=id rfl
theorem mForRL_end {r f i:Nat} {xs:List D} (h:S[r]?=some (.lst xs)) (hx:xs.length≤i):qm6 tg p r (f+1) i env S=some (.nx env S):=by
  have hx':xs[i]?=none:=by simpa using hx
  unfold qm6;rw [h];simp only [hx']
noncomputable def zr2 (q:List D×qa0):Option (D×qa0):=match q.1 with | [.int j]=>if 0≤j∧j≤1000 then some (.lst (qe7 0 j.toNat),q.2) else none | _=>none
@[simp] theorem mListR_s:mListR ms env S=(ms env S).bind zr2:=by rw [qW6];rfl
theorem zr1 {j:Int} (h0:0≤j) (h1:j≤1000):zr2 ([.int j],S)=some (.lst (qe7 0 j.toNat),S):=if_pos ⟨h0,h1⟩
theorem fMaxX_l {ns:List Int} (h:ns.length<64) (h0:ns≠[]):qb3 qB6 [.lst (ns.map .int)] S=some (.int (maxL ns),S):=by
  show ((qB6 S [.lst (ns.map D.int)]).bind _)=_
  have:qB6 S [.lst (ns.map D.int)]=some (.int (maxL ns)):=by
    show ((qY1 S (.lst (ns.map D.int))).bind _)=_
    rw [intsL_l h]
    show (if ns.isEmpty=true then none else some (D.int (maxL ns)))=_
    rw [if_neg (by cases ns with | nil=>exact absurd rfl h0 | cons _ _=>simp)]
  rw [this];rfl
theorem zu5 {x y:D} {xs ys:List D} (h:(zb6 x||zb6 y)=true) (h1:qB5 S x=some xs) (h2:qB5 S y=some ys) (hl:xs.length+ys.length≤1000):qc7 S x y=some (.lst (xs++ys)):=by
  unfold qc7;rw [if_pos h,h1,h2];exact if_pos (sz hl)
theorem szM {n:Nat} (h:n≤1000000):n≤sizeLine:=Nat.le_trans h (by decide)
theorem zj8:∀ ys:List Str,strsD (ys.map .str)=some ys
  | []=>rfl
  | y::r=>by
    have:=zj8 r
    show (strsD (r.map .str)).bind _=_
    rw [this];rfl
noncomputable def outM:Out→Option (D×qa0)
  | .rt d S'=>some (d,S')
  | .nx _ S'=>some (.non,S')
  | .bk _ _=>none
  | .ct _ _=>none
@[simp] theorem qd7:outM (.rt d S)=some (d,S):=id rfl
@[simp] theorem outM_nx:outM (.nx e S)=some (.non,S):=id rfl
theorem qf8 {N:List Str} {m:MS} {n:Nat} {ds:List D} {S:qa0} (h:ds.length=n):runM N m n ds S=(m (qc0 N ds) S).bind outM:=by
  unfold runM;rw [if_pos h];first | rfl | (congr 1;funext o;cases o <;> rfl)
@[simp] theorem rep0:List.replicate 0 (none:Option D)=[]:=id rfl
end
end MI
namespace MI
open PySem PySem.Spec PyProof.Rows L2 M
noncomputable def qP2:MS:=
  mSeq (mIfS (mTest (mOp fGt (mOp fIxX (mVar 0) (mC (.int 0))) (mC (.int 0)))) (mSeq (mAsg (mOp fMod (mOp fIxX (mVar 0) (mC (.int 0))) (mVar 1)) (gSet 2)) (mSeq (mAsg (mOp fDiv (mOp fIxX (mVar 0) (mC (.int 0))) (mVar 1)) (gSubD (mVar 0) (mC (.int 0)))) (mRet (mVar 2)))) (mSkip)) (mSeq (mAsg (mOp qc7 (mOp fIxX (mVar 0) (mC (.int 2))) (mC (.int 1))) (gSubD (mVar 0) (mC (.int 2)))) (mSeq (mAsg (mOp fMod (mOp qc7 (mOp qc7 (mOp qj3 (mOp fIxX (mVar 0) (mC (.int 1))) (mC (.int 48271))) (mC (.int 12345))) (mOp qj3 (mC (.int 7)) (mOp fIxX (mVar 0) (mC (.int 2))))) (mC (.int 2147483647))) (gSubD (mVar 0) (mC (.int 1)))) (mRet (mOp fMod (mOp fDiv (mOp fMod (mOp qj3 (mOp fIxX (mVar 0) (mC (.int 1))) (mOp fIxX (mVar 0) (mC (.int 1)))) (mC (.int 1999999973))) (mC (.int 64))) (mVar 1)))))
noncomputable def zq2:MS:=
  mSeq (mAsg (mC (.int 1)) (gSet 0)) (mSeq (mFor (mRange1 (mCons (mC (.int 10)) (mNil))) (gSet 1) (mAsg (mOp qj3 (mVar 0) (mOp fPow (mC (.int 10)) (mC (.int 60)))) (gSet 0))) (mRet (mVar 0)))
noncomputable def qx2:MS:=
  mSeq (mIfS (mTest (mOp fLt (mVar 1) (mCall (qb3 fLen) (mCons (mVar 0) (mNil))))) (mRet (mOp fIxX (mVar 0) (mVar 1))) (mSkip)) (mRet (mC (.int 0)))
noncomputable def qP3 (cellAt far:List D→qa0→Option (D×qa0)):MS:=
  mSeq (mAsg (mCallN 2 cellAt (mCons (mVar 0) (mCons (mOp fMod (mVar 1) (mCall (qb3 qB6) (mCons (mC (.int 1)) (mCons (mCall (qb3 fLen) (mCons (mVar 0) (mNil))) (mNil))))) (mNil)))) (gSet 2)) (mSeq (mAsg (mOp fMod (mOp qj3 (mOp qc7 (mOp qc7 (mOp fMod (mVar 2) (mC (.int 2147483629))) (mOp qj3 (mOp qj3 (mC (.int 7919)) (mVar 1)) (mVar 1))) (mC (.int 11))) (mC (.int 48271))) (mC (.int 2147483647))) (gSet 3)) (mSeq (mAsg (mOp fMod (mOp qc7 (mOp qc7 (mOp qj3 (mVar 3) (mC (.int 39373))) (mOp qj3 (mC (.int 7)) (mVar 1))) (mC (.int 1))) (mC (.int 2147483629))) (gSet 3)) (mSeq (mIfS (mTest (mOp fLt (mVar 2) (mOp fPow (mC (.int 10)) (mC (.int 18))))) (mAsg (mC (.int 0)) (gSet 2)) (mSkip)) (mRet (mLstR (mCons (mOp fMod (mVar 2) (mCallN 0 far mNil)) (mCons (mVar 3) (mCons (mC (.int 0)) (mNil)))))))))
theorem atI3 {a b c:D}:atI [a,b,c] 0=some a∧atI [a,b,c] 1=some b∧atI [a,b,c] 2=some c:=⟨rfl,rfl,rfl⟩
noncomputable def Pk (S:qa0) (r:Nat):Prop:=∃ a b c:Int,S[r]?=some (.lst [.int a,.int b,.int c])∧0≤a∧0≤b∧b<2147483647
noncomputable def p60:Int:=1000000000000000000000000000000000000000000000000000000000000
theorem p60_eq:(10:Int) ^ (60:Int).toNat=p60:=by decide +kernel
theorem p60_le:p60.natAbs≤2 ^ (200 * 1):=by decide +kernel
theorem p60_pos:0<p60:=by decide +kernel
theorem p60_mul {i:Int} (h:i.natAbs<2 ^ 4000):mulB i p60=true:=by
  unfold mulB
  rw [decide_eq_true h,decide_eq_true (p:=p60.natAbs<2 ^ 4000) (by decide +kernel)]
  simp
noncomputable def farB:MS:=mAsg (mOp qj3 (mVar 0) (mOp fPow (mC (.int 10)) (mC (.int 60)))) (gSet 0)
theorem farPow {S:qa0}:fPow S (.int 10) (.int 60)=some (.int p60):=by
  have h:=fPow_i (S:=S) (i:=10) (j:=60) (by decide +kernel)
  rw [p60_eq] at h
  exact h
theorem farStep' {S:qa0} {a p:Int} {o:Option D} (h1:fPow S (.int 10) (.int 60)=some (.int p)) (h2:qj3 S (.int a) (.int p)=some (.int (a * p))):farB [some (.int a),o] S=some (.nx [some (.int (a * p)),o] S):=by
  simp [farB,h1,h2]
theorem farStep {S:qa0} {a:Int} {o:Option D} (h:mulB a p60=true):farB [some (.int a),o] S=some (.nx [some (.int (a * p60)),o] S):=farStep' farPow (qs5 h)
theorem farL {S:qa0} {B:Nat} (hB:∀ i:Int,i.natAbs<B→mulB i p60=true) (l:List D):∀ (a:Int) (o:Option D),0<a→a.natAbs * 2 ^ (200 * l.length)<B→∃ q o',qk6 (gSet 1) farB l [some (.int a),o] S=some (.nx [some (.int q),o'] S)∧0<q:=by
  induction l with
  | nil=>exact fun a o h _=>⟨a,o,rfl,h⟩
  | cons d l ih=>
    intro a o h hb
    have h1:a.natAbs<B:=Nat.lt_of_le_of_lt (Nat.le_mul_of_pos_right _ (Nat.pow_pos (by decide))) hb
    obtain ⟨q,o',e,hq⟩:=ih (a * p60) (some d) (Int.mul_pos h p60_pos) (by
      rw [Int.natAbs_mul]
      refine Nat.lt_of_le_of_lt ?_ hb
      rw [List.length_cons,Nat.mul_add,Nat.pow_add,Nat.mul_assoc]
      refine Nat.mul_le_mul_left _ ?_
      rw [Nat.mul_comm]
      exact Nat.mul_le_mul_left _ p60_le)
    refine ⟨q,o',?_,hq⟩
    rw [qp5,qd0,ob,qX4]
    show (farB [some (.int a),some d] S).bind _=_
    rw [farStep (hB a h1),ob,qF7]
    exact e
theorem far_spec {S:qa0} {N:List Str} (hN:N.length=2):∃ q:Int,runM N zq2 0 [] S=some (.int q,S)∧0<q:=by
  obtain ⟨q,o',e,hq⟩:=farL (S:=S) (fun i h=>p60_mul h) (qe7 0 10) 1 none (by decide) (by decide +kernel)
  refine ⟨q,?_,hq⟩
  rw [qf8 (show ([]:List D).length=0 from rfl)]
  have:qc0 N []=[none,none]:=by simp [qc0,hN,List.replicate]
  rw [this]
  have k1:kR1 ([.int 10],S)=some (qe7 0 10,S):=qu2 (by decide) (by decide)
  have e':qk6 (gSet 1) (mAsg (mOp qj3 (mVar 0) (mOp fPow (mC (.int 10)) (mC (.int 60)))) (gSet 0)) (qe7 0 10) [some (.int 1),none] S=some (.nx [some (.int q),o'] S):=e
  simp only [zq2,qd6,qg1,mC_s,ob,qg2,qd0,ls0,qk0,qc1,qK9,qj5,qa7,qa4,qb0,qa3,k1,qL1,e',qg5,qa5,lg0,oj,qa6,qj9,qd7]
theorem zl3 {S:qa0} {r:Nat} {m:Int} {N:List Str} (hN:N.length=3) (h:Pk S r) (h0:0<m) (h1:m<1073741824) :
    ∃ q S',runM N qP2 2 [.ref r,.int m] S=some (.int q,S')∧0≤q∧q<m∧Pk S' r∧(∀ j,j≠r→S'[j]?=S[j]?)∧S'.length=S.length:=by
  obtain ⟨a,b,c,h,ha,hb,hb'⟩:=h
  have hr:r<S.length:=(List.getElem?_eq_some_iff.mp h).1
  have hm:∀ x:Int,0≤x % m∧x % m<m:=fun x=>⟨Int.emod_nonneg _ (by omega),Int.emod_lt_of_pos _ h0⟩
  have hst:qc0 N [.ref r,.int m]=[some (.ref r),some (.int m),none]:=by simp [qc0,hN]
  rw [qf8 (show [D.ref r,D.int m].length=2 from rfl),hst]
  have hs:∀ c:Cell,(S.set r c)[r]?=some c:=fun c=>List.getElem?_set_self hr
  by_cases hp:0<a
  · refine ⟨a % m,S.set r (.lst [.int (a / m),.int b,.int c]),?_,(hm a).1,(hm a).2,⟨a / m,b,c,hs _,Int.ediv_nonneg ha (by omega),hb,hb'⟩,fun j hj=>by rw [List.getElem?_set_ne (Ne.symm hj)],by simp⟩
    have w:=qP5 (env:=[some (.ref r),some (.int m),some (.int (a % m))]) (d:=.int (a / m)) h (show ixN _ 0=some 0 from rfl)
    simp [qP2,qG5 h,hp,qr3 h0,fDiv_i h0 h1,atI3,w]
  · have hB:∀ x:Int,0≤x % 2147483647∧x % 2147483647<2147483647:=fun x=>⟨Int.emod_nonneg _ (by decide),Int.emod_lt_of_pos _ (by decide)⟩
    let b':=(b * 48271+12345+7 * (c+1)) % 2147483647
    have hb2:=hB (b * 48271+12345+7 * (c+1))
    have m3:mulB b' b'=true:=qK2 (by omega) (by omega)
    have s1:(S.set r (.lst [.int a,.int b,.int (c+1)]))[r]?=some (.lst [.int a,.int b,.int (c+1)]):=hs _
    have s2:((S.set r (.lst [.int a,.int b,.int (c+1)])).set r (.lst [.int a,.int b',.int (c+1)]))[r]?=some (.lst [.int a,.int b',.int (c+1)]):=List.getElem?_set_self (by simpa using hr)
    refine ⟨b' * b' % 1999999973 / 64 % m,(S.set r (.lst [.int a,.int b,.int (c+1)])).set r (.lst [.int a,.int b',.int (c+1)]),?_,(hm _).1,(hm _).2,⟨a,b',c+1,s2,ha,(hB _).1,(hB _).2⟩,fun j hj=>by rw [List.getElem?_set_ne (Ne.symm hj),List.getElem?_set_ne (Ne.symm hj)],by simp⟩
    have e1:qj3 (S.set r (.lst [.int a,.int b,.int (c+1)])) (.int b) (.int 48271)=some (.int (b * 48271)):=qs5 (q95 (by decide) (by decide))
    have e2:qj3 (S.set r (.lst [.int a,.int b,.int (c+1)])) (.int 7) (.int (c+1))=some (.int (7 * (c+1))):=qs5 (qK2 (by decide) (by decide))
    have e3:∀ S x,fMod S (.int x) (.int 2147483647)=some (.int (x % 2147483647)):=fun _ _=>qr3 (by decide)
    have e4:∀ S x,fMod S (.int x) (.int 1999999973)=some (.int (x % 1999999973)):=fun _ _=>qr3 (by decide)
    have e5:∀ S x,fDiv S (.int x) (.int 64)=some (.int (x / 64)):=fun _ _=>fDiv_i (by decide) (by decide)
    have w1:=qP5 (env:=[some (.ref r),some (.int m),none]) (d:=.int (c+1)) h (show ixN _ 2=some 2 from rfl)
    have w2:=qP5 (env:=[some (.ref r),some (.int m),none]) (d:=.int b') s1 (show ixN _ 1=some 1 from rfl)
    simp [qP2,qG5 h,qG5 s1,qG5 s2,hp,qr3 h0,atI3,e1,e2,e3,e4,e5,w1]
    rw [show (b * 48271+12345+7 * (c+1)) % 2147483647=b' from rfl,w2]
    simp [qG5 (hs _),atI3,qs5 m3,e4,e5,qr3 h0]
theorem q66 {S:qa0} {ns:List Int} {k:Int} {N:List Str} (hN:N.length=2) (h0:0≤k):∃ v,runM N qx2 2 [.rol (ns.map .int),.int k] S=some (.int v,S):=by
  rw [qf8 (show [D.rol (ns.map .int),D.int k].length=2 from rfl)]
  have hst:qc0 N [D.rol (ns.map .int),D.int k]=[some (D.rol (ns.map .int)),some (.int k)]:=by simp [qc0,hN]
  rw [hst]
  by_cases h:k<ns.length
  · have e:atI (ns.map D.int) k=some (.int (ns[k.toNat]'(by omega))):=by
      rw [atI_at h0 (by simpa using h)];simp
    exact ⟨ns[k.toNat]'(by omega),by simp [qx2,h,e]⟩
  · exact ⟨0,by simp [qx2,h]⟩
theorem Pk_new {S:qa0} {a b c:Int} (ha:0≤a) (hb:0≤b) (hb':b<2147483647):Pk (S++[.lst [.int a,.int b,.int c]]) S.length:=⟨a,b,c,by simp,ha,hb,hb'⟩
theorem zp9 {S:qa0} {ns:List Int} {k:Int} {N:List Str} {cellAt far:List D→qa0→Option (D×qa0)} (hN:N.length=4) (h0:0≤k) (h1:k≤100000)
    (hc:∀ S k,0≤k→∃ v,cellAt [.rol (ns.map .int),.int k] S=some (.int v,S)) (hf:∀ S,∃ q,far [] S=some (.int q,S)∧0<q) :
    ∃ a b,runM N (qP3 cellAt far) 2 [.rol (ns.map .int),.int k] S=some (.ref S.length,S++[.lst [.int a,.int b,.int 0]])∧0≤a∧0≤b∧b<2147483647:=by
  rw [qf8 (show [D.rol (ns.map .int),D.int k].length=2 from rfl)]
  have hst:qc0 N [D.rol (ns.map .int),D.int k]=[some (D.rol (ns.map .int)),some (.int k),none,none]:=by simp [qc0,hN,List.replicate]
  rw [hst]
  have hmx:0<(if (ns.length:Int)>1 then (ns.length:Int) else 1):=by split <;> omega
  obtain ⟨v,hv⟩:=hc S (k % (if (ns.length:Int)>1 then (ns.length:Int) else 1)) (Int.emod_nonneg _ (by omega))
  obtain ⟨q,hq,q0⟩:=hf S
  have e1:∀ S x,fMod S (.int x) (.int 2147483629)=some (.int (x % 2147483629)):=fun _ _=>qr3 (by decide)
  have e2:∀ S x,fMod S (.int x) (.int 2147483647)=some (.int (x % 2147483647)):=fun _ _=>qr3 (by decide)
  have e3:∀ S x,fMod S (.int x) (.int q)=some (.int (x % q)):=fun _ _=>qr3 q0
  have p1:∀ S,qj3 S (.int 7919) (.int k)=some (.int (7919 * k)):=fun _=>qs5 (qK2 (by decide) (by decide))
  have p2:∀ S,qj3 S (.int (7919 * k)) (.int k)=some (.int (7919 * k * k)):=fun _=>qs5 (q95 (by omega) (by omega))
  have p3:∀ S x,qj3 S (.int x) (.int 48271)=some (.int (x * 48271)):=fun _ _=>qs5 (q95 (by decide) (by decide))
  have p4:∀ S x,qj3 S (.int x) (.int 39373)=some (.int (x * 39373)):=fun _ _=>qs5 (q95 (by decide) (by decide))
  have p5:∀ S,qj3 S (.int 7) (.int k)=some (.int (7 * k)):=fun _=>qs5 (qK2 (by decide) (by decide))
  have pw:∀ S,fPow S (.int 10) (.int 18)=some (.int 1000000000000000000):=fun S=>by
    have h:=fPow_i (S:=S) (i:=10) (j:=18) (by decide +kernel)
    rwa [show (10:Int) ^ (18:Int).toNat=1000000000000000000 by decide +kernel] at h
  have hb:∀ x:Int,0≤x % 2147483629∧x % 2147483629<2147483647:=fun x=>⟨Int.emod_nonneg _ (by decide),by have:=Int.emod_lt_of_pos x (show (0:Int)<2147483629 by decide);omega⟩
  have kl:∀ S x y,zg6 ([.int x,.int y,.int 0],S)=some (.ref S.length,S++[.lst [.int x,.int y,.int 0]]):=fun _ _ _=>qC0 (by simp)
  by_cases h:v<1000000000000000000
  · refine ⟨0 % q,(((v % 2147483629+7919 * k * k+11) * 48271 % 2147483647) * 39373+7 * k+1) % 2147483629,?_,Int.emod_nonneg _ (by omega),(hb _).1,(hb _).2⟩
    simp [-Int.zero_emod,qP3,qr3 hmx,hv,e1,e2,e3,p1,p2,p3,p4,p5,pw,h,hq,kl]
  · refine ⟨v % q,(((v % 2147483629+7919 * k * k+11) * 48271 % 2147483647) * 39373+7 * k+1) % 2147483629,?_,Int.emod_nonneg _ (by omega),(hb _).1,(hb _).2⟩
    simp [qP3,qr3 hmx,hv,e1,e2,e3,p1,p2,p3,p4,p5,pw,h,hq,kl]
theorem zc2 {tg:MG} {p:MS} (I:MEnv→qa0→Prop):∀ (xs:List D),(∀ d∈xs,∀ env S,I env S→∃ env1 S1 env2 S2,tg d env S=some (env1,S1)∧p env1 S1=some (.nx env2 S2)∧I env2 S2) →
    ∀ env S,I env S→∃ env' S',qk6 tg p xs env S=some (.nx env' S')∧I env' S'
  | [],_,env,S,h=>⟨env,S,rfl,h⟩
  | d::xs,hs,env,S,h=>by
    obtain ⟨env1,S1,env2,S2,e1,e2,h2⟩:=hs d List.mem_cons_self env S h
    obtain ⟨env',S',e3,h3⟩:=zc2 I xs (fun d hd=>hs d (List.mem_cons_of_mem _ hd)) env2 S2 h2
    exact ⟨env',S',by rw [qp5,e1,ob,qX4,e2,ob,qF7,e3],h3⟩
theorem zf5 {lo:Int} {n:Nat} {d:D} (h:d∈qe7 lo n):∃ i:Nat,i<n∧d=.int (lo+(i:Int)):=by
  obtain ⟨i,hi⟩:=List.mem_iff_getElem?.mp h
  exact ⟨i,qK0 lo n i d hi⟩
end MI
namespace MI
open PySem PySem.Spec PyProof.Rows L2 M
noncomputable abbrev PF:=List D→qa0→Option (D×qa0)
noncomputable def qM5 (pick:PF):Prop:=∀ (S:qa0) (r:Nat) (m:Int),Pk S r→0<m→m<1073741824→∃ q S',pick [.ref r,.int m] S=some (.int q,S')∧0≤q∧q<m∧Pk S' r∧(∀ j,j≠r→S'[j]?=S[j]?)∧S'.length=S.length
noncomputable def q51 (pick:PF):MS:=
  mSeq (mAsg (mOp fIxX (mLst (mCons (mC (.str "rows")) (mCons (mC (.str "readers")) (mCons (mC (.str "writers")) (mCons (mC (.str "turns")) (mCons (mC (.str "passes")) (mNil))))))) (mCallN 2 pick (mCons (mVar 0) (mCons (mC (.int 5)) (mNil))))) (gSet 1)) (mSeq (mAsg (mOp fIxX (mLst (mCons (mC (.int 0)) (mCons (mC (.int 0)) (mCons (mC (.int 1)) (mCons (mC (.int 2)) (mCons (mC (.int 3)) (mCons (mC (.int 5)) (mNil)))))))) (mCallN 2 pick (mCons (mVar 0) (mCons (mC (.int 6)) (mNil))))) (gSet 2)) (mSeq (mAsg (mOp qj3 (mOp fIxX (mLst (mCons (mC (.int 0)) (mCons (mC (.int 1)) (mCons (mC (.int 2)) (mCons (mC (.int 9)) (mNil)))))) (mCallN 2 pick (mCons (mVar 0) (mCons (mC (.int 4)) (mNil))))) (mCall (qb3 qz9) (mCons (mOp fEq (mVar 1) (mC (.str "passes"))) (mNil)))) (gSet 3)) (mRet (mTup (mCons (mVar 1) (mCons (mVar 2) (mCons (mVar 3) (mCons (mCallN 2 pick (mCons (mVar 0) (mCons (mC (.int 2)) (mNil)))) (mNil)))))))))
theorem at_most {q:Int} (h0:0≤q) (h1:q<6):∃ i:Int,atI [D.int 0,D.int 0,D.int 1,D.int 2,D.int 3,D.int 5] q=some (.int i)∧0≤i∧i≤5:=by
  obtain rfl | rfl | rfl | rfl | rfl | rfl:q=0∨q=1∨q=2∨q=3∨q=4∨q=5:=by omega
  all_goals exact ⟨_,rfl,by decide,by decide⟩
theorem at_times {q:Int} (h0:0≤q) (h1:q<4):∃ i:Int,atI [D.int 0,D.int 1,D.int 2,D.int 9] q=some (.int i)∧0≤i∧i≤9:=by
  obtain rfl | rfl | rfl | rfl:q=0∨q=1∨q=2∨q=3:=by omega
  all_goals exact ⟨_,rfl,by decide,by decide⟩
noncomputable def qj4:List D:=[.str "out",.str "out",.str "out",.str "reads",.str "reads",.str "rising",.str "writes",.str "raised"]
theorem forR {tg:MG} {p:MS} {lo:Int} (I:Nat→MEnv→qa0→Prop) (n:Nat) (step:∀ i,i<n→∀ env S,I i env S→∃ env1 S1 env2 S2,tg (.int (lo+(i:Int))) env S=some (env1,S1)∧p env1 S1=some (.nx env2 S2)∧I (i+1) env2 S2) :
    ∀ env S,I 0 env S→∃ env' S',qk6 tg p (qe7 lo n) env S=some (.nx env' S')∧I n env' S':=by
  have gen:∀ (m k:Nat),k+m=n→∀ env S,I k env S→∃ env' S',qk6 tg p ((List.range' k m).map fun (i:Nat)=>D.int (lo+(i:Int))) env S=some (.nx env' S')∧I n env' S':=by
    intro m
    induction m with
    | zero=>exact fun k hk env S h=>⟨env,S,rfl,by rw [← hk];exact h⟩
    | succ m ih=>
      intro k hk env S h
      obtain ⟨env1,S1,env2,S2,e1,e2,h2⟩:=step k (by omega) env S h
      obtain ⟨env',S',e3,h3⟩:=ih (k+1) (by omega) env2 S2 h2
      refine ⟨env',S',?_,h3⟩
      rw [List.range'_succ,List.map_cons,qp5,e1,ob,qX4,e2,ob,qF7,e3]
  intro env S h
  have:=gen n 0 (by omega) env S h
  unfold qe7
  rw [List.range_eq_range']
  exact this
noncomputable def EntOk (n:Int) (xs:List D) (d:D):Prop:=∃ (g:Int) (w:Str) (m:Int) (t:D),d=.tup [.int g,.str w,.int m,t]∧0≤g∧g<n∧(w = "read"∨w = "write")∧0≤m∧m≤999∧(t=.non∨∃ k,t=.int k∧1≤k∧k≤9)∧atI xs g=some (.str "out")
theorem EntOk.up {n n':Int} {xs:List D} {d:D} (h:EntOk n xs d) (hn:n≤n'):EntOk n' xs d:=by
  obtain ⟨g,w,m,t,e,h0,h1,r⟩:=h
  exact ⟨g,w,m,t,e,h0,by omega,r⟩
theorem zs9 {α:Type} (xs:List α) (i:Int) (y:α):(insL xs i y).Perm (y::xs):=by
  unfold insL
  refine List.perm_middle.trans ?_
  rw [List.take_append_drop]
theorem fLen_ref {S:qa0} {q:Nat} {xs:List D} (h:S[q]?=some (.lst xs)):qb3 fLen [.ref q] S=some (.int xs.length,S):=by
  have e:seqD S (.ref q)=some xs:=by simp only [seqD,h]
  show ((seqD S (.ref q)).bind _).bind _=_
  rw [e];rfl
theorem qx4 {S:qa0} {g:List D→D} {q:Nat} {xs:List D} (h:S[q]?=some (.lst xs)):qb3 (qi5 g) [.ref q] S=some (g xs,S):=by
  have e:seqD S (.ref q)=some xs:=by simp only [seqD,h]
  show ((seqD S (.ref q)).bind _).bind _=_
  rw [e];rfl
theorem qJ9 (lo:Int) (n:Nat):(qe7 lo n).length=n:=by unfold qe7;simp
end MI
namespace MI
open PySem PySem.Spec PyProof.Rows L2 M
noncomputable def zs5 (x:Str):Prop:=x = "rows"∨x = "readers"∨x = "writers"∨x = "turns"∨x = "passes"
theorem at_word {q:Int} (h0:0≤q) (h1:q<5):∃ x:Str,atI [D.str "rows",D.str "readers",D.str "writers",D.str "turns",D.str "passes"] q=some (.str x)∧zs5 x:=by
  obtain rfl | rfl | rfl | rfl | rfl:q=0∨q=1∨q=2∨q=3∨q=4:=by omega
  · exact ⟨_,rfl,.inl rfl⟩
  · exact ⟨_,rfl,.inr (.inl rfl)⟩
  · exact ⟨_,rfl,.inr (.inr (.inl rfl))⟩
  · exact ⟨_,rfl,.inr (.inr (.inr (.inl rfl)))⟩
  · exact ⟨_,rfl,.inr (.inr (.inr (.inr rfl)))⟩
noncomputable def Keep (r:Nat) (S S':qa0):Prop:=(∀ j,j≠r→S'[j]?=S[j]?)∧S'.length=S.length
theorem Keep.trans {r:Nat} {S S' S'':qa0} (h:Keep r S S') (h':Keep r S' S''):Keep r S S'':=⟨fun j z=>(h'.1 j z).trans (h.1 j z),h'.2.trans h.2⟩
theorem Keep.refl {r:Nat} {S:qa0}:Keep r S S:=⟨fun _ _=>rfl,rfl⟩
structure RuleOk (x:Str) (a b c:Int):Prop where
  w:zs5 x
  a0:0≤a
  a5:a≤5
  b0:0≤b
  b9:b≤9
  c0:0≤c
  c1:c≤1
theorem zl0 {pick:PF} (hp:qM5 pick) {S:qa0} {r:Nat} {N:List Str} (hN:N.length=4) (h:Pk S r):∃ x a b c S',runM N (q51 pick) 1 [.ref r] S=some (.tup [.str x,.int a,.int b,.int c],S')∧RuleOk x a b c∧Pk S' r∧Keep r S S':=by
  have hst:qc0 N [D.ref r]=[some (.ref r),none,none,none]:=by simp [qc0,hN,List.replicate]
  rw [qf8 (show [D.ref r].length=1 from rfl),hst]
  obtain ⟨q1,S1,e1,l1,g1,P1,K1⟩:=hp _ _ 5 h (by decide) (by decide)
  obtain ⟨q2,S2,e2,l2,g2,P2,K2⟩:=hp _ _ 6 P1 (by decide) (by decide)
  obtain ⟨q3,S3,e3,l3,g3,P3,K3⟩:=hp _ _ 4 P2 (by decide) (by decide)
  obtain ⟨q4,S4,e4,l4,g4,P4,K4⟩:=hp _ _ 2 P3 (by decide) (by decide)
  obtain ⟨x,i1,wx⟩:=at_word l1 g1
  obtain ⟨a,i2,a0,a5⟩:=at_most l2 g2
  obtain ⟨b,i3,b0,b9⟩:=at_times l3 g3
  have k1:∀ S,kLst ([D.str "rows",D.str "readers",D.str "writers",D.str "turns",D.str "passes"],S)=some (.lst [D.str "rows",D.str "readers",D.str "writers",D.str "turns",D.str "passes"],S):=fun S=>qi8 (by simp)
  have k2:∀ S,kLst ([D.int 0,D.int 0,D.int 1,D.int 2,D.int 3,D.int 5],S)=some (.lst [D.int 0,D.int 0,D.int 1,D.int 2,D.int 3,D.int 5],S):=fun S=>qi8 (by simp)
  have k3:∀ S,kLst ([D.int 0,D.int 1,D.int 2,D.int 9],S)=some (.lst [D.int 0,D.int 1,D.int 2,D.int 9],S):=fun S=>qi8 (by simp)
  have k4:∀ S (a b c d:D),kTup ([a,b,c,d],S)=some (.tup [a,b,c,d],S):=fun S a b c d=>qd3 (by simp)
  have m1:∀ S (z:Bool),qj3 S (.int b) (.int (if z=true then 1 else 0))=some (.int (b * (if z=true then 1 else 0))):=fun S z=>qs5 (qK2 (by omega) (by omega))
  refine ⟨x,a,b * (if (x == ("passes":Str))=true then 1 else 0),q4,S4,?_,⟨wx,a0,a5,by split <;> omega,by split <;> omega,l4,by omega⟩,P4,Keep.trans K1 (Keep.trans K2 (Keep.trans K3 K4))⟩
  simp [-beq_iff_eq,q51,k1,k2,k3,k4,e1,e2,e3,e4,i1,i2,i3,m1]
noncomputable def qv1 (F:PF):MS:=
  mSeq (mIfS (mTru (mIsI "dict" (mVar 1))) (mSeq (mIfS (mOrT (mNotT (mTru (mIsI "dict" (mVar 0)))) (mTest (mOp fNe (mCall (qb3 fLen) (mCons (mVar 0) (mNil))) (mCall (qb3 fLen) (mCons (mVar 1) (mNil)))))) (mRet (mC (.bl false))) (mSkip)) (mSeq (mAsg (mNo) (gSet 2)) (mRet (mCall (qb3 fAll) (mCons (mComp (mItS (mVar 1)) (gSet 0) (mTrue) (mAnd (mOp fIn (mVar 0) (mVar 2)) (mAnd (mCallN 2 F (mCons (mOp fIxX (mVar 3) (mVar 0)) (mCons (mVar 0) (mNil)))) (mCallN 2 F (mCons (mOp fIxX (mVar 2) (mVar 0)) (mCons (mOp fIxX (mVar 1) (mVar 0)) (mNil)))))) [none,some 1,some 0,some 2]) (mNil)))))) (mSkip)) (mSeq (mIfS (mOrT (mTru (mIsI "list" (mVar 1))) (mTru (mIsI "tuple" (mVar 1)))) (mSeq (mIfS (mOrT (mTest (mOp fNe (mIsI "list" (mVar 0)) (mIsI "list" (mVar 1)))) (mTest (mOp fNe (mIsI "tuple" (mVar 0)) (mIsI "tuple" (mVar 1))))) (mRet (mC (.bl false))) (mSkip)) (mRet (mAnd (mOp fEq (mCall (qb3 fLen) (mCons (mVar 0) (mNil))) (mCall (qb3 fLen) (mCons (mVar 1) (mNil)))) (mCall (qb3 fAll) (mCons (mComp (mZip (mCons (mVar 0) (mCons (mVar 1) (mNil)))) (gTupD 2 (gConsD (gSet 0) (gConsD (gSet 1) (gNilD)))) (mTrue) (mCallN 2 F (mCons (mVar 0) (mCons (mVar 1) (mNil)))) [none,none]) (mNil)))))) (mSkip)) (mSeq (mIfS (mTest (mOp fIs (mVar 1) (mC .non))) (mRet (mOp fIs (mVar 0) (mC .non))) (mSkip)) (mSeq (mIfS (mTru (mIsI "str" (mVar 1))) (mRet (mAnd (mIsI "str" (mVar 0)) (mOp fEq (mVar 0) (mVar 1)))) (mSkip)) (mSeq (mIfS (mOrT (mTru (mIsI "bool" (mVar 1))) (mTru (mIsI "bool" (mVar 0)))) (mRet (mAnd (mIsI "bool" (mVar 0)) (mAnd (mIsI "bool" (mVar 1)) (mOp fEq (mVar 0) (mVar 1))))) (mSkip)) (mRet (mAnd (mIsI "int" (mVar 0)) (mOp fEq (mVar 0) (mVar 1))))))))
noncomputable def qp4:Nat→D→Bool
  | 0,_=>false
  | _+1,.non=>true
  | _+1,.bl _=>true
  | _+1,.int _=>true
  | _+1,.str _=>true
  | j+1,.tup xs=>decide (xs.length≤1000)&&xs.all (qp4 j)
  | _+1,_=>false
theorem fIsI_d {S:qa0} {d:D} {j:Nat} (h:qp4 j d=true):fIsI "dict" S d=some (.bl false)∧fIsI "list" S d=some (.bl false):=by
  cases j with
  | zero=>cases h
  | succ j=>cases d <;> first | exact ⟨rfl,rfl⟩ | (exfalso;simp [qp4] at h)
theorem qw3:∀ xs:List D,(zipD xs xs).length=xs.length
  | []=>rfl
  | x::r=>by rw [zipD_c,List.length_cons,List.length_cons,qw3 r]
theorem qB4:∀ n:Nat,qH4 (List.replicate n (D.bl true))=some (List.replicate n true)
  | 0=>rfl
  | n+1=>by
    rw [List.replicate_succ,List.replicate_succ]
    have:=qB4 n
    simp only [qH4,this];rfl
theorem fNe_bb {S:qa0} {k l:Bool}:fNe S (.bl k) (.bl l)=some (.bl (!(k == l))):=qL9 (by simp [okD]) (by simp [okD])
theorem same_L {F:PF} {S:qa0} {t1 t2:Option D}:∀ (xs:List D) (a b:Option D),(∀ d∈xs,F [d,d] S=some (.bl true,S))→ql8 (gTupD 2 (gConsD (gSet 0) (gConsD (gSet 1) (gNilD)))) (mTrue) (mCallN 2 F (mCons (mVar 0) (mCons (mVar 1) (mNil)))) (zipD xs xs) [a,b] S=some (List.replicate xs.length (.bl true),S)
  | [],a,b,_=>by simp
  | x::r,a,b,h=>by
    have h1:=h x (by simp)
    have h2:=same_L (t1:=t1) (t2:=t2) r (some x) (some x) fun d hd=>h d (List.mem_cons_of_mem _ hd)
    rw [zipD_c,qp7]
    simp [h1,h2,List.replicate_succ]
theorem q86 {R:Nat→PF} {N:List Str} (hN:N.length=3) (hR:∀ j,R (j+1)=runM N (qv1 (R j)) 2) {S:qa0}:∀ (j:Nat) (d:D),qp4 j d=true→R j [d,d] S=some (.bl true,S)
  | 0,d,h=>by cases d <;> cases h
  | j+1,d,h=>by
    have hst:qc0 N [d,d]=[some d,some d,none]:=by simp [qc0,hN,List.replicate]
    rw [hR,qf8 (show [d,d].length=2 from rfl),hst]
    obtain ⟨i1,i2⟩:=fIsI_d (S:=S) h
    cases d with
    | tup xs=>
      have hx:xs.length≤1000∧xs.all (qp4 j)=true:=by simpa [qp4] using h
      have it:fIsI "tuple" S (.tup xs)=some (.bl true):=rfl
      have hl:=same_L (F:=R j) (S:=S) (t1:=none) (t2:=none) xs none none fun d hd=>q86 hN hR j d (List.all_eq_true.mp hx.2 d hd)
      have kc:qX7 (gTupD 2 (gConsD (gSet 0) (gConsD (gSet 1) (gNilD)))) (mTrue) (mCallN 2 (R j) (mCons (mVar 0) (mCons (mVar 1) (mNil)))) [none,none] [some (.tup xs),some (.tup xs),none] (zipD xs xs,S)=some (.lst (List.replicate xs.length (.bl true)),S):=by
        rw [qC1 (by rw [qw3];exact hx.1)]
        show (ql8 _ _ _ (zipD xs xs) [none,none] S).bind _=_
        rw [hl];rfl
      have fa:qb3 fAll [.lst (List.replicate xs.length (D.bl true))] S=some (.bl true,S):=by
        rw [fAll_l (qB4 _)];simp
      simp [qv1,i1,i2,it,fNe_bb,kc,fa]
    | non=>simp [qv1,i1,i2,show fIsI "tuple" S .non=some (.bl false) from rfl,isD]
    | bl k=>simp [qv1,i1,i2,show fIsI "tuple" S (.bl k)=some (.bl false) from rfl,show fIsI "str" S (.bl k)=some (.bl false) from rfl,show fIsI "bool" S (.bl k)=some (.bl true) from rfl,isD]
    | int i=>simp [qv1,i1,i2,show fIsI "tuple" S (.int i)=some (.bl false) from rfl,show fIsI "str" S (.int i)=some (.bl false) from rfl,show fIsI "bool" S (.int i)=some (.bl false) from rfl,show fIsI "int" S (.int i)=some (.bl true) from rfl,isD]
    | str x=>simp [qv1,i1,i2,show fIsI "tuple" S (.str x)=some (.bl false) from rfl,show fIsI "str" S (.str x)=some (.bl true) from rfl,isD]
    | lst _=>simp [qp4] at h
    | rol _=>simp [qp4] at h
    | dct _ _=>simp [qp4] at h
    | ref _=>simp [qp4] at h
theorem qo0 {S:qa0} {c:Cell}:(S++[c])[S.length]?=some c:=by simp
theorem q72 {S:qa0} {c d:Cell}:(S++[c]).set S.length d=S++[d]:=by
  rw [List.set_append,if_neg (Nat.lt_irrefl _)];simp
end MI
namespace MI
open PySem PySem.Spec PyProof.Rows L2 M
inductive Wd where | out | reads | rising | writes | raised
deriving DecidableEq
noncomputable def Wd.s:Wd→Str
  | .out=>"out"
  | .reads=>"reads"
  | .rising=>"rising"
  | .writes=>"writes"
  | .raised=>"raised"
theorem Wd.eq (a b:Wd):(a.s == b.s)=decide (a=b):=by cases a <;> cases b <;> decide +kernel
structure En where
  g:Nat
  wr:Bool
  m:Int
  t:Option Int
noncomputable def qh0 (b:Bool):Str:=if b then "write" else "read"
theorem qM6 (b:Bool):(qh0 b == ("write":Str))=b:=by cases b <;> decide +kernel
theorem zj0 (b:Bool):(qh0 b == ("read":Str)) = !b:=by cases b <;> decide +kernel
noncomputable def qm2:Option Int→D
  | none=>.non
  | some k=>.int k
noncomputable def En.d (e:En):D:=.tup [.int (e.g:Nat),.str (qh0 e.wr),.int e.m,qm2 e.t]
noncomputable abbrev Rm:=List Wd×List En
noncomputable def Wd.d (w:Wd):D:=.str w.s
noncomputable def wsD (ws:List Wd):D:=.tup (ws.map Wd.d)
noncomputable def esD (es:List En):D:=.tup (es.map En.d)
noncomputable def rmD (R:Rm):D:=.tup [wsD R.1,esD R.2]
inductive Rw where | rows | readers | writers | turns | passes
deriving DecidableEq
noncomputable def Rw.s:Rw→Str
  | .rows=>"rows"
  | .readers=>"readers"
  | .writers=>"writers"
  | .turns=>"turns"
  | .passes=>"passes"
theorem Rw.eq (a b:Rw):(a.s == b.s)=decide (a=b):=by cases a <;> cases b <;> decide +kernel
structure Rl where
  w:Rw
  a:Int
  b:Int
  c:Int
noncomputable def Rl.d (r:Rl):D:=.tup [.str r.w.s,.int r.a,.int r.b,.int r.c]
structure Rl.Ok (r:Rl):Prop where
  a0:0≤r.a
  a5:r.a≤5
  b0:0≤r.b
  b9:r.b≤9
  c0:0≤r.c
  c1:r.c≤1
theorem zs4 {x:Str} (h:zs5 x):∃ w:Rw,x=w.s:=by
  rcases h with rfl | rfl | rfl | rfl | rfl
  · exact ⟨.rows,rfl⟩
  · exact ⟨.readers,rfl⟩
  · exact ⟨.writers,rfl⟩
  · exact ⟨.turns,rfl⟩
  · exact ⟨.passes,rfl⟩
section
variable {α:Type} {enc:α→D} {p:α→Bool} {f:α→D} {t:MT} {e:ME} {rest:MEnv} {S:qa0}
theorem comp1:∀ (xs:List α) (a:Option D),(∀ x∈xs,t (some (enc x)::rest) S=some (p x,S))→(∀ x∈xs,p x=true→e (some (enc x)::rest) S=some (f x,S))→ql8 (gSet 0) t e (xs.map enc) (a::rest) S=some ((xs.filter p).map f,S)
  | [],a,_,_=>by simp
  | x::r,a,h,h2=>by
    have ih:=comp1 r (some (enc x)) (fun y hy=>h y (List.mem_cons_of_mem _ hy)) fun y hy=>h2 y (List.mem_cons_of_mem _ hy)
    rw [List.map_cons,qp7,qd0,ob,ls0,zr9,h x (by simp),ob]
    cases hp:p x with
    | true=>rw [zr8,h2 x (by simp) hp,ob,zr7,ih,ob,zr6,List.filter_cons_of_pos hp,List.map_cons]
    | false=>rw [kCl2_f,ih,List.filter_cons_of_neg (by simp [hp])]
theorem qo6 {cap:List (Option Nat)} {env:MEnv} {a:Option D} {xs:List α} (hc:capE cap env=a::rest) (hl:xs.length≤1000) (h:∀ x∈xs,t (some (enc x)::rest) S=some (p x,S)) (h2:∀ x∈xs,p x=true→e (some (enc x)::rest) S=some (f x,S)) :
    qX7 (gSet 0) t e cap env (xs.map enc,S)=some (.lst ((xs.filter p).map f),S):=by
  rw [qC1 (by rw [List.length_map];exact hl),hc,comp1 xs a h h2,ob,qC2]
theorem comp2:∀ (xs:List α) (k:Nat) (a b:Option D),(∀ i x,xs[i]?=some x→t (some (.int ((k+i:Nat):Int))::some (enc x)::rest) S=some (p x,S))→ql8 (gTupD 2 (gConsD (gSet 0) (gConsD (gSet 1) (gNilD)))) t (mVar 0) (qs8 k (xs.map enc)) (a::b::rest) S=some (((xs.zipIdx k).filter fun q=>p q.1).map fun q=>.int (q.2:Int),S)
  | [],k,a,b,_=>by simp [qs8]
  | x::r,k,a,b,h=>by
    have ih:=comp2 r (k+1) (some (.int (k:Int))) (some (enc x)) (fun i y hy=>by
      have:=h (i+1) y (by simpa using hy)
      rw [show k+(i+1)=k+1+i by omega] at this
      exact this)
    have h0:=h 0 x rfl
    rw [Nat.add_zero] at h0
    rw [List.map_cons,qs8,qp7,qm3,qh5,qd0,ob,ls0,qv3,qh5,qd0,ob,lsS,ls0,qv3,ql0,ob,zr9,h0,ob,List.zipIdx_cons]
    cases hp:p x with
    | true=>
      rw [zr8,qa5,lg0,oj,ob,qa6,ob,zr7,ih,ob,zr6,List.filter_cons_of_pos (p:=fun q:α×Nat=>p q.1) (a:=(x,k)) hp,List.map_cons]
    | false=>rw [kCl2_f,ih,List.filter_cons_of_neg (p:=fun q:α×Nat=>p q.1) (a:=(x,k)) (by simp [hp])]
theorem zb2 {cap:List (Option Nat)} {env:MEnv} {a b:Option D} {xs:List α} (hc:capE cap env=a::b::rest) (hl:xs.length≤1000) (h:∀ (i:Nat) x,xs[i]?=some x→t (some (.int (i:Int))::some (enc x)::rest) S=some (p x,S)) :
    qX7 (gTupD 2 (gConsD (gSet 0) (gConsD (gSet 1) (gNilD)))) t (mVar 0) cap env (qs8 0 (xs.map enc),S)=some (.lst ((xs.zipIdx.filter fun q=>p q.1).map fun q=>.int (q.2:Int)),S):=by
  rw [qC1 (by rw [qH0,List.length_map];exact hl),hc,comp2 xs 0 a b (fun i x hx=>by rw [Nat.zero_add];exact h i x hx),ob,qC2]
end
theorem atI_n {α:Type} {xs:List α} {i:Nat} {x:α} (h:xs[i]?=some x):atI xs (i:Int)=some x:=by
  have hl:=(List.getElem?_eq_some_iff.mp h).1
  rw [atI_at (by omega) (by omega)]
  rw [List.getElem?_eq_some_iff] at h
  obtain ⟨_,h⟩:=h
  simpa using h
theorem at4 (x a b c:D):atI [x,a,b,c] 0=some x∧atI [x,a,b,c] 1=some a∧atI [x,a,b,c] 2=some b∧atI [x,a,b,c] 3=some c:=⟨rfl,rfl,rfl,rfl⟩
theorem at2 (x a:D):atI [x,a] 0=some x∧atI [x,a] 1=some a:=⟨rfl,rfl⟩
section
variable {S:qa0} {e:En} {r:Rl} {R:Rm}
theorem En.ix0:fIxX S e.d (.int 0)=some (.int (e.g:Nat)):=rfl
theorem En.ix1:fIxX S e.d (.int 1)=some (.str (qh0 e.wr)):=rfl
theorem En.ix2:fIxX S e.d (.int 2)=some (.int e.m):=rfl
theorem En.ix3:fIxX S e.d (.int 3)=some (qm2 e.t):=rfl
theorem Rl.ix0:fIxX S r.d (.int 0)=some (.str r.w.s):=rfl
theorem Rl.ix1:fIxX S r.d (.int 1)=some (.int r.a):=rfl
theorem Rl.ix2:fIxX S r.d (.int 2)=some (.int r.b):=rfl
theorem Rl.ix3:fIxX S r.d (.int 3)=some (.int r.c):=rfl
theorem Rm.ix0:fIxX S (rmD R) (.int 0)=some (wsD R.1):=rfl
theorem Rm.ix1:fIxX S (rmD R) (.int 1)=some (esD R.2):=rfl
theorem zd8 {ws:List Wd} {i:Nat} {w:Wd} (h:ws[i]?=some w):fIxX S (wsD ws) (.int (i:Int))=some w.d:=by
  show atI (ws.map Wd.d) (i:Int)=_
  exact atI_n (by rw [List.getElem?_map,h];rfl)
theorem es_ix {es:List En} {i:Nat} {e:En} (h:es[i]?=some e):fIxX S (esD es) (.int (i:Int))=some e.d:=by
  show atI (es.map En.d) (i:Int)=_
  exact atI_n (by rw [List.getElem?_map,h];rfl)
end
theorem sIx_n {n d i:Nat}:HT.sIx n d (some (i:Int))=min i n:=by
  show (if (i:Int)<0 then ((i:Int)+(n:Int)).toNat else min (i:Int).toNat n)=_
  rw [if_neg (by omega),Int.toNat_natCast]
theorem sIx_0 {n d:Nat}:HT.sIx n d none=d:=rfl
theorem zx8 {α:Type} (xs:List α) (i:Nat) (h:i≤xs.length):cutL xs none (some (i:Int))=xs.take i:=by
  unfold cutL
  rw [sIx_n,sIx_0,Nat.min_eq_left h];simp
theorem qZ4 {α:Type} (xs:List α) (i:Nat) (h:i≤xs.length):cutL xs (some (i:Int)) none=xs.drop i:=by
  unfold cutL
  rw [sIx_n,sIx_0,Nat.min_eq_left h,List.take_of_length_le (by simp)]
noncomputable def zq1:MS:=mRet (mOp qc7 (mOp qc7 (mSlice (mVar 0) (mPartN) (mPart (mVar 1))) (mTup (mCons (mVar 2) (mNil)))) (mSlice (mVar 0) (mPart (mOp qc7 (mVar 1) (mC (.int 1)))) (mPartN)))
theorem set_eq {α:Type} (xs:List α) (i:Nat) (h:i<xs.length) (x:α):xs.take i++[x]++xs.drop (i+1)=xs.set i x:=by
  rw [List.set_eq_take_append_cons_drop,if_pos h];simp
theorem put_gen {N:List Str} (hN:N.length=3) {S:qa0} {ws:List Wd} {i:Nat} {w:Wd} (h:i<ws.length) (hl:ws.length≤100):runM N zq1 3 [wsD ws,.int (i:Int),w.d] S=some (wsD (ws.set i w),S):=by
  have hst:qc0 N [wsD ws,D.int (i:Int),w.d]=[some (wsD ws),some (.int (i:Int)),some w.d]:=by simp [qc0,hN]
  rw [qf8 (show [wsD ws,D.int (i:Int),w.d].length=3 from rfl),hst]
  have k1:kTup ([w.d],S)=some (.tup [w.d],S):=qd3 (by simp)
  have c1:cutL (ws.map Wd.d) none (some (i:Int))=(ws.take i).map Wd.d:=by rw [zx8 _ _ (by rw [List.length_map];omega),List.map_take]
  have c2:cutL (ws.map Wd.d) (some ((i:Int)+1)) none=(ws.drop (i+1)).map Wd.d:=by
    rw [show ((i:Int)+1)=((i+1:Nat):Int) by omega,qZ4 _ _ (by rw [List.length_map];omega),List.map_drop]
  have a1:qc7 S (.tup ((ws.take i).map Wd.d)) (.tup [w.d])=some (.tup ((ws.take i).map Wd.d++[w.d])):=qx5 (by simp;omega)
  have a2:qc7 S (.tup ((ws.take i).map Wd.d++[w.d])) (.tup ((ws.drop (i+1)).map Wd.d))=some (.tup ((ws.take i).map Wd.d++[w.d]++(ws.drop (i+1)).map Wd.d)):=qx5 (by simp;omega)
  have e:(ws.take i).map Wd.d++[w.d]++(ws.drop (i+1)).map Wd.d=(ws.set i w).map Wd.d:=by
    rw [← set_eq ws i h w];simp
  rw [e] at a2
  simp only [zq1,wsD,qg5,qd2,qj8,qa5,lg0,lgS,lg1,oj,ob,qa6,qs3,qk8,qs2,qn3,qn4,zb3,c1,qb1,qf9,qa7,qa4,qb0,qa3,k1,qb2,a1,mC_s,qG9,c2,a2,qj9,qd7]
end MI
namespace MI
open PySem PySem.Spec PyProof.Rows L2 M
section
variable {S:qa0} {ws:List Wd} {es:List En} {ms:MA} {env:MEnv}
theorem eqWd (a b:Wd):eqD a.d b.d=decide (a=b):=Wd.eq a b
theorem okWs {n:Nat}:((ws.map Wd.d).all (okD n))=true:=by
  rw [List.all_eq_true];intro d hd;obtain ⟨w,_,rfl⟩:=List.mem_map.mp hd;cases n <;> rfl
theorem q79 (w:Wd):qm4 (wsD ws) [w.d] S=some (.int (ws.count w:Nat),S):=by
  have h:=zu3 (S:=S) (x:=w.d) (xs:=ws.map Wd.d) rfl okWs
  rw [show wsD ws=.tup (ws.map Wd.d) from rfl,h]
  congr 4
  rw [List.countP_map]
  apply List.countP_congr
  intro a _
  simp [eqWd]
theorem qC7:kCnt ms env (wsD ws,S)=(ms env S).bind (ql9 qm4 (wsD ws)):=rfl
theorem q78:qb3 fLen [wsD ws] S=some (.int (ws.length:Nat),S):=by
  rw [show wsD ws=.tup (ws.map Wd.d) from rfl,fLen_t,List.length_map]
theorem es_len:qb3 fLen [esD es] S=some (.int (es.length:Nat),S):=by
  rw [show esD es=.tup (es.map En.d) from rfl,fLen_t,List.length_map]
end
noncomputable def letB (r:Rl) (ws:List Wd) (wr:Bool):Bool:=
  if ws.count .reads+ws.count .rising+ws.count .out<ws.length then false
  else if wr then decide (ws.count .reads+ws.count .rising=0)
  else decide (ws.count .rising=0)&&(decide (r.a=0)||decide (((ws.count .reads+ws.count .rising:Nat):Int)<r.a))
noncomputable def q52:MS:=
  mSeq (mAsg (mOp qc7 (mCnt (mVar 1) (mCons (mC (.str "reads")) (mNil))) (mCnt (mVar 1) (mCons (mC (.str "rising")) (mNil)))) (gSet 3)) (mSeq (mIfS (mTest (mOp fLt (mOp qc7 (mVar 3) (mCnt (mVar 1) (mCons (mC (.str "out")) (mNil)))) (mCall (qb3 fLen) (mCons (mVar 1) (mNil))))) (mRet (mC (.bl false))) (mSkip)) (mSeq (mIfS (mTest (mOp fEq (mVar 2) (mC (.str "write")))) (mRet (mOp fEq (mVar 3) (mC (.int 0)))) (mSkip)) (mRet (mAnd (mOp fEq (mCnt (mVar 1) (mCons (mC (.str "rising")) (mNil))) (mC (.int 0))) (mOr (mOp fEq (mOp fIxX (mVar 0) (mC (.int 1))) (mC (.int 0))) (mOp fLt (mVar 3) (mOp fIxX (mVar 0) (mC (.int 1)))))))))
theorem lets_gen {N:List Str} (hN:N.length=4) {S:qa0} {r:Rl} {ws:List Wd} {wr:Bool}:runM N q52 3 [r.d,wsD ws,.str (qh0 wr)] S=some (.bl (letB r ws wr),S):=by
  have hst:qc0 N [r.d,wsD ws,D.str (qh0 wr)]=[some r.d,some (wsD ws),some (.str (qh0 wr)),none]:=by simp [qc0,hN,List.replicate]
  rw [qf8 (show [r.d,wsD ws,D.str (qh0 wr)].length=3 from rfl),hst]
  have c1:∀ S,qm4 (wsD ws) [.str "reads"] S=some (.int (ws.count .reads:Nat),S):=fun S=>q79 .reads
  have c2:∀ S,qm4 (wsD ws) [.str "rising"] S=some (.int (ws.count .rising:Nat),S):=fun S=>q79 .rising
  have c3:∀ S,qm4 (wsD ws) [.str "out"] S=some (.int (ws.count .out:Nat),S):=fun S=>q79 .out
  unfold letB
  simp only [q52,qd6,qg1,qd2,mCnt_s,qa5,lg0,lg1,lgS,oj,ob,qa6,qC7,qa7,mC_s,qa4,qb0,qa3,qo7,c1,c2,c3,qb1,qb2,qG9,qg2,qd0,ls0,lsS,qk0,qc1,qe9,qb7,qf0,qf1,q78,fLt_i,qb6]
  by_cases h1:ws.count .reads+ws.count .rising+ws.count .out<ws.length
  · have:decide (((ws.count Wd.reads:Nat):Int)+((ws.count Wd.rising:Nat):Int)+((ws.count Wd.out:Nat):Int)<((ws.length:Nat):Int))=true:=decide_eq_true (by omega)
    rw [this,if_pos h1];simp
  · have:decide (((ws.count Wd.reads:Nat):Int)+((ws.count Wd.rising:Nat):Int)+((ws.count Wd.out:Nat):Int)<((ws.length:Nat):Int))=false:=decide_eq_false (by omega)
    rw [this,if_neg h1]
    cases wr with
    | true=>
      have e:(qh0 true == ("write":Str))=true:=qM6 true
      have e2:(((ws.count Wd.reads:Nat):Int)+((ws.count Wd.rising:Nat):Int) == 0)=decide (ws.count Wd.reads+ws.count Wd.rising=0):=by
        rw [Bool.eq_iff_iff];simp;omega
      simp [e,e2]
    | false=>
      have e:(qh0 false == ("write":Str))=false:=qM6 false
      have e2:(((ws.count Wd.rising:Nat):Int) == 0)=decide (ws.count Wd.rising=0):=by rw [Bool.eq_iff_iff];simp
      have e3:(r.a == 0)=decide (r.a=0):=rfl
      by_cases h2:ws.count Wd.rising=0
      · by_cases h3:r.a=0
        · simp [e,e2,Rl.ix1,h2,h3,qC7,c2]
        · simp [e,e2,Rl.ix1,h2,h3,qC7,c2,beq_eq_false_iff_ne.mpr h3]
      · simp [e,e2,Rl.ix1,h2,qC7,c2]
theorem qO3 {α:Type} (xs:List α) (i:Nat):cutL xs none (some (i:Int))=xs.take i:=by
  unfold cutL
  rw [sIx_n,sIx_0];simp only [List.drop_zero,Nat.sub_zero]
  rcases Nat.le_total i xs.length with h | h
  · rw [Nat.min_eq_left h]
  · rw [Nat.min_eq_right h,List.take_of_length_le (Nat.le_refl _),List.take_of_length_le h]
noncomputable def ni (i:Nat):D:=.int (i:Int)
noncomputable def nl (l:List Nat):D:=.lst (l.map ni)
noncomputable def orL (a b:List Nat):List Nat:=if a=[] then b else a
noncomputable def ixL (p:En→Bool) (es:List En):List Nat:=(es.zipIdx.filter fun q=>p q.1).map (·.2)
theorem qF8 {p:En→Bool} {es:List En} {i:Nat} (h:i∈ixL p es):i<es.length:=by
  unfold ixL at h
  obtain ⟨q,hq,rfl⟩:=List.mem_map.mp h
  have:=(List.mem_filter.mp hq).1
  have:=List.snd_lt_of_mem_zipIdx this
  omega
theorem zs2 {es:List En}:ixL (fun _=>false) es=[]:=by unfold ixL;simp
theorem nl_ix {p:En→Bool} {es:List En}:D.lst ((es.zipIdx.filter fun q=>p q.1).map fun q=>.int (q.2:Int))=nl (ixL p es):=by
  unfold nl ixL ni;rw [List.map_map];rfl
theorem kOr_nl {b:ME} {env:MEnv} {S:qa0} {l:List Nat}:kOr b env (nl l,S)=if l=[] then b env S else some (nl l,S):=by
  cases l with
  | nil=>rfl
  | cons _ _=>rw [if_neg (by simp)];exact kOr_c
theorem kSl_nl {S:qa0} {l:List Nat} {n:Nat}:kSl3 (nl l) none (some (n:Int),S)=some (nl (l.take n),S):=by
  unfold nl;rw [kSl3_l,qO3,List.map_take]
theorem qO1 (n:Nat):D.lst (qe7 0 n)=nl (List.range n):=by
  unfold qe7 nl ni;congr 1;apply List.map_congr_left;intro i _;rw [Int.zero_add]
theorem kItS_nl {S:qa0} {l:List Nat}:kItS (nl l,S)=some (l.map ni,S):=rfl
noncomputable def frL (r:Rl) (es:List En):List Nat:=match r.w with
  | .rows=>(List.range es.length).take 1
  | .readers=>(orL (ixL (fun e=>!e.wr) es) (ixL (fun e=>e.wr) es)).take 1
  | .passes=>(List.range es.length).filter fun i=>decide (maxL (0::(es.take i).map fun e=>e.m+1)≤r.b)
  | .turns=>(orL (ixL (fun e=>decide (e.m=1)) es) (orL (ixL (fun e=>e.wr) es) (ixL (fun e=>!e.wr) es))).take 1
  | .writers=>(orL (ixL (fun e=>e.wr) es) (ixL (fun e=>!e.wr) es)).take 1
theorem zc1 {r:Rl} {es:List En} {i:Nat} (h:i∈frL r es):i<es.length:=by
  have ho:∀ {a b:List Nat},i∈orL a b→i∈a∨i∈b:=fun {a b} h=>by unfold orL at h;split at h <;> simp [h]
  unfold frL at h
  split at h
  · exact List.mem_range.mp (List.mem_of_mem_take h)
  · exact (ho (List.mem_of_mem_take h)).elim qF8 qF8
  · exact List.mem_range.mp (List.mem_filter.mp h).1
  · exact (ho (List.mem_of_mem_take h)).elim qF8 fun h=>(ho h).elim qF8 qF8
  · exact (ho (List.mem_of_mem_take h)).elim qF8 qF8
noncomputable def frR:ME:=mComp (mEnum (mCons (mVar 1) (mNil))) (gTupD 2 (gConsD (gSet 0) (gConsD (gSet 1) (gNilD)))) (mTest (mOp fEq (mOp fIxX (mVar 1) (mC (.int 1))) (mC (.str "read")))) (mVar 0) [none,none]
noncomputable def frW:ME:=mComp (mEnum (mCons (mVar 1) (mNil))) (gTupD 2 (gConsD (gSet 0) (gConsD (gSet 1) (gNilD)))) (mTest (mOp fEq (mOp fIxX (mVar 1) (mC (.int 1))) (mC (.str "write")))) (mVar 0) [none,none]
noncomputable def frT:ME:=mComp (mEnum (mCons (mVar 1) (mNil))) (gTupD 2 (gConsD (gSet 0) (gConsD (gSet 1) (gNilD)))) (mAndT (mTest (mOp fEq (mOp fIxX (mVar 2) (mC (.int 0))) (mC (.str "turns")))) (mTest (mOp fEq (mOp fIxX (mVar 1) (mC (.int 2))) (mC (.int 1))))) (mVar 0) [none,none,some 0]
noncomputable def frPi:ME:=mComp (mItS (mSlice (mVar 2) (mPartN) (mPart (mVar 0)))) (gSet 0) (mTrue) (mOp qc7 (mOp fIxX (mVar 0) (mC (.int 2))) (mC (.int 1))) [none]
noncomputable def frP:ME:=mComp (mRange1 (mCons (mCall (qb3 fLen) (mCons (mVar 1) (mNil))) (mNil))) (gSet 0) (mTest (mOp fLe (mCall (qb3 qB6) (mCons (mOp qc7 (mLst (mCons (mC (.int 0)) (mNil))) frPi) (mNil))) (mOp fIxX (mVar 1) (mC (.int 2))))) (mVar 0) [none,some 0,some 1]
noncomputable def qF4:MS:=
  mSeq (mAsg frR (gSet 2)) (mSeq (mAsg frW (gSet 3)) (mSeq (mIfS (mTest (mOp fEq (mOp fIxX (mVar 0) (mC (.int 0))) (mC (.str "rows")))) (mRet (mSlice (mListR (mCons (mCall (qb3 fLen) (mCons (mVar 1) (mNil))) (mNil))) (mPartN) (mPart (mC (.int 1))))) (mSkip)) (mSeq (mIfS (mTest (mOp fEq (mOp fIxX (mVar 0) (mC (.int 0))) (mC (.str "readers")))) (mRet (mSlice (mOr (mVar 2) (mVar 3)) (mPartN) (mPart (mC (.int 1))))) (mSkip)) (mSeq (mIfS (mTest (mOp fEq (mOp fIxX (mVar 0) (mC (.int 0))) (mC (.str "passes")))) (mRet frP) (mSkip)) (mSeq (mAsg frT (gSet 4)) (mRet (mSlice (mOr (mVar 4) (mOr (mVar 3) (mVar 2))) (mPartN) (mPart (mC (.int 1))))))))))
section
variable {S:qa0} {r:Rl} {es:List En}
theorem q57 {ms:MA} {env:MEnv}:kEnum ([esD es],S)=some (qs8 0 (es.map En.d),S):=rfl
theorem frR_eq {a c d e:Option D} (hl:es.length≤100):frR [a,some (esD es),c,d,e] S=some (nl (ixL (fun e=>!e.wr) es),S):=by
  have k:=zb2 (S:=S) (t:=mTest (mOp fEq (mOp fIxX (mVar 1) (mC (.int 1))) (mC (.str "read")))) (cap:=[none,none]) (env:=[a,some (esD es),c,d,e]) (enc:=En.d) (p:=fun e=>!e.wr) (xs:=es) rfl (by omega) (fun i x _=>by simp [En.ix1,-beq_iff_eq,zj0])
  rw [nl_ix (p:=fun e=>!e.wr)] at k
  simp only [frR,qh1,qO8,qa7,qa5,lg0,lg1,lgS,oj,ob,qa6,qa4,qb0,qa3,q57 (ms:=mNil) (env:=[]),k]
theorem frW_eq {a c d e:Option D} (hl:es.length≤100):frW [a,some (esD es),c,d,e] S=some (nl (ixL (fun e=>e.wr) es),S):=by
  have k:=zb2 (S:=S) (t:=mTest (mOp fEq (mOp fIxX (mVar 1) (mC (.int 1))) (mC (.str "write")))) (cap:=[none,none]) (env:=[a,some (esD es),c,d,e]) (enc:=En.d) (p:=fun e=>e.wr) (xs:=es) rfl (by omega) (fun i x _=>by simp [En.ix1,-beq_iff_eq,qM6])
  rw [nl_ix] at k
  simp only [frW,qh1,qO8,qa7,qa5,lg0,lg1,lgS,oj,ob,qa6,qa4,qb0,qa3,q57 (ms:=mNil) (env:=[]),k]
theorem frT_eq {c d e:Option D} (hl:es.length≤100):frT [some r.d,some (esD es),c,d,e] S=some (nl (ixL (fun e=>decide (r.w=.turns)&&decide (e.m=1)) es),S):=by
  have hw:(r.w.s == ("turns":Str))=decide (r.w=.turns):=Rw.eq r.w .turns
  have k:=zb2 (S:=S) (t:=mAndT (mTest (mOp fEq (mOp fIxX (mVar 2) (mC (.int 0))) (mC (.str "turns")))) (mTest (mOp fEq (mOp fIxX (mVar 1) (mC (.int 2))) (mC (.int 1))))) (cap:=[none,none,some 0]) (env:=[some r.d,some (esD es),c,d,e]) (enc:=En.d) (p:=fun e=>decide (r.w=.turns)&&decide (e.m=1)) (xs:=es) rfl (by omega) (fun i x _=>by
    cases h:decide (r.w=.turns) with
    | true=>simp [En.ix2,Rl.ix0,-beq_iff_eq,hw,h];rfl
    | false=>simp [En.ix2,Rl.ix0,-beq_iff_eq,hw,h])
  rw [nl_ix (p:=fun e=>decide (r.w=.turns)&&decide (e.m=1))] at k
  simp only [frT,qh1,qO8,qa7,qa5,lg0,lg1,lgS,oj,ob,qa6,qa4,qb0,qa3,q57 (ms:=mNil) (env:=[]),k]
theorem frPi_eq {i:Nat} {b:Option D} (hl:es.length≤60):frPi [some (.int (i:Int)),b,some (esD es)] S=some (.lst (((es.take i).map fun e=>e.m+1).map .int),S):=by
  have k:=qo6 (S:=S) (t:=mTrue) (e:=mOp qc7 (mOp fIxX (mVar 0) (mC (.int 2))) (mC (.int 1))) (cap:=[none]) (env:=[some (.int (i:Int)),b,some (esD es)]) (rest:=[]) (a:=none) (enc:=En.d) (p:=fun _=>true) (f:=fun e=>.int (e.m+1)) (xs:=es.take i) rfl (by simp;omega) (fun x _=>qo9) (fun x _ _=>by simp [En.ix2])
  have e:kSl3 (esD es) none (some (i:Int),S)=some (.tup ((es.take i).map En.d),S):=by
    rw [show esD es=.tup (es.map En.d) from rfl,zb3,qO3,List.map_take]
  rw [List.filter_eq_self.mpr (fun _ _=>rfl)] at k
  simp only [frPi,qh1,qo4,qj8,qa5,lg0,lg1,lgS,oj,ob,qa6,qs3,qk8,qs2,qn3,qn4,e,qX5,k,List.map_map]
  rfl
theorem frP_eq {c d e:Option D} (hl:es.length≤60):frP [some r.d,some (esD es),c,d,e] S=some (nl ((List.range es.length).filter fun i=>decide (maxL (0::(es.take i).map fun e=>e.m+1)≤r.b)),S):=by
  have k:=qo6 (S:=S) (t:=(mTest (mOp fLe (mCall (qb3 qB6) (mCons (mOp qc7 (mLst (mCons (mC (.int 0)) (mNil))) frPi) (mNil))) (mOp fIxX (mVar 1) (mC (.int 2)))))) (e:=mVar 0) (cap:=[none,some 0,some 1]) (env:=[some r.d,some (esD es),c,d,e]) (rest:=[some r.d,some (esD es)]) (a:=none) (enc:=ni) (p:=fun i=>decide (maxL (0::(es.take i).map fun e=>e.m+1)≤r.b)) (f:=ni) (xs:=List.range es.length) rfl (by simp;omega) (fun i _=>by
    have h0:frPi [some (ni i),some r.d,some (esD es)] S=some (.lst (((es.take i).map fun e=>e.m+1).map .int),S):=frPi_eq hl
    have h1:kLst ([.int 0],S)=some (.lst [.int 0],S):=qi8 (by simp)
    have h2:qc7 S (.lst [.int 0]) (.lst (((es.take i).map fun e=>e.m+1).map .int))=some (.lst ((0::(es.take i).map fun e=>e.m+1).map .int)):=zu4 (by simp;omega)
    have h3:qb3 qB6 [.lst ((0::(es.take i).map fun e=>e.m+1).map .int)] S=some (.int (maxL (0::(es.take i).map fun e=>e.m+1)),S):=fMaxX_l (by simp;omega) (by simp)
    simp only [qb7,qd2,qf0,qa7,qr0,mC_s,ob,qa4,qb0,qa3,h1,qb1,h0,qb2,h2,qa6,qf1,h3,qa5,lg0,lg1,lgS,oj,Rl.ix2,fLe_i,qb6]) (fun i _ _=>by simp)
  have e1:kR1 ([.int (es.length:Nat)],S)=some ((List.range es.length).map ni,S):=by
    rw [qu2 (by omega) (by omega)]
    have:=qO1 es.length
    simp only [nl,D.lst.injEq] at this
    rw [Int.toNat_natCast,this]
  simp only [frP,qh1,qj5,qa7,qf0,qa5,lg0,lg1,lgS,oj,ob,qa6,qa4,qb0,qa3,qf1,es_len,e1,k]
  rfl
theorem zh1 {N:List Str} (hN:N.length=5) (hl:es.length≤60):runM N qF4 2 [r.d,esD es] S=some (nl (frL r es),S):=by
  have hst:qc0 N [r.d,esD es]=[some r.d,some (esD es),none,none,none]:=by simp [qc0,hN,List.replicate]
  rw [qf8 (show [r.d,esD es].length=2 from rfl),hst]
  have a:(es.length:Nat)≤100:=by omega
  have w1:(r.w.s == ("rows":Str))=decide (r.w=.rows):=Rw.eq r.w .rows
  have w2:(r.w.s == ("readers":Str))=decide (r.w=.readers):=Rw.eq r.w .readers
  have w3:(r.w.s == ("passes":Str))=decide (r.w=.passes):=Rw.eq r.w .passes
  have lr:zr2 ([.int (es.length:Nat)],S)=some (nl (List.range es.length),S):=by rw [zr1 (by omega) (by omega),Int.toNat_natCast,qO1]
  have s1:∀ l:List Nat,kSl3 (nl l) none (some 1,S)=some (nl (l.take 1),S):=fun l=>kSl_nl (n:=1)
  have o1:∀ (b:ME) env (l:List Nat),kOr b env (nl l,S)=if l=[] then b env S else some (nl l,S):=fun b env l=>kOr_nl
  simp only [qF4,qd6,qg1,frR_eq a,frW_eq a,ob,qg2,qd0,ls0,lsS,qk0,qc1,qe9,qb7,qd2,qa5,lg0,lg1,lgS,oj,qa6,mC_s,qb1,Rl.ix0,qb2,qn6,qb6,w1,w2,w3]
  unfold frL
  cases hw:r.w <;> rw [hw] at w1 w2 w3 <;> simp [qj8,mListR_s,es_len,lr,s1,o1,frP_eq hl,frT_eq a,hw,orL,Rl.ix0,w1,w2,w3,-beq_iff_eq]
  · split <;> simp [s1]
  · rw [zs2,if_pos rfl];split <;> simp [s1]
  · split
    · split <;> simp [s1]
    · simp [s1]
end
end MI
namespace MI
open PySem PySem.Spec PyProof.Rows L2 M
structure ROk (R:Rm):Prop where
  out:∀ e∈R.2,R.1[e.g]?=some .out
  nd:(R.2.map (·.g)).Nodup
theorem zn1:∀ (n:Nat) (l:List Nat),l.Nodup→(∀ x∈l,x<n)→l.length≤n
  | 0,l,_,h=>by cases l with | nil=>exact Nat.le_refl _ | cons x _=>exact absurd (h x (by simp)) (by omega)
  | n+1,l,hn,h=>by
    by_cases hm:n∈l
    · have:=zn1 n (l.erase n) (hn.erase n) fun x hx=>by
        have h1:=h x (List.mem_of_mem_erase hx)
        have h2:x≠n:=fun z=>by rw [z] at hx;exact (List.Nodup.not_mem_erase hn) hx
        omega
      rw [List.length_erase_of_mem hm] at this
      omega
    · have:=zn1 n l hn fun x hx=>by
        have h1:=h x hx
        have h2:x≠n:=fun z=>hm (z ▸ hx)
        omega
      omega
theorem ROk.lt {R:Rm} (h:ROk R) {e:En} (he:e∈R.2):e.g<R.1.length:=(List.getElem?_eq_some_iff.mp (h.out e he)).1
theorem ROk.len {R:Rm} (h:ROk R):R.2.length≤R.1.length:=by
  have:=zn1 R.1.length (R.2.map (·.g)) h.nd fun x hx=>by obtain ⟨e,he,rfl⟩:=List.mem_map.mp hx;exact h.lt he
  rwa [List.length_map] at this
structure Ev where
  w:Str
  g:Nat
noncomputable def Ev.d (e:Ev):D:=.tup [.str e.w,.int (e.g:Nat)]
noncomputable def q03 (ws:List Wd):List Nat:=(List.range ws.length).filter fun g=>decide (ws[g]?=some .rising)&&decide (ws.count .out+1=ws.length)
noncomputable def q05 (r:Rl) (ws:List Wd) (es:List En):List Nat:=(frL r es).filter fun i=>match es[i]? with | some e=>letB r ws e.wr | none=>false
noncomputable def bump (r:Rl) (e:En):En:={ e with m:=e.m+(if r.w=.passes then 1 else 0) }
noncomputable def goIn (r:Rl) (R:Rm) (i:Nat) (e:En):Rm:=(R.1.set e.g (if e.wr then .writes else .reads),(R.2.take i).map (bump r)++R.2.drop (i+1))
noncomputable def stL (r:Rl) (R:Rm):Rm×List Ev:=match q03 R.1 with
  | g::_=>((R.1.set g .raised,R.2),[⟨"steps",g⟩])
  | []=>match q05 r R.1 R.2 with
    | i::_=>match R.2[i]? with
      | some e=>(goIn r R i e,[⟨"in",e.g⟩])
      | none=>(R,[])
    | []=>(R,[])
noncomputable def seL (r:Rl):Nat→Rm→Rm×List Ev
  | 0,R=>(R,[])
  | n+1,R=>let a:=stL r R;let b:=seL r n a.1;(b.1,a.2++b.2)
theorem zf8 (r:Rl) (es:List En):(es.map (bump r)).map (·.g)=es.map (·.g):=by rw [List.map_map];rfl
theorem goIn_ok {r:Rl} {R:Rm} {i:Nat} {e:En} (h:ROk R) (hi:R.2[i]?=some e):ROk (goIn r R i e):=by
  obtain ⟨ws,es⟩:=R
  have hs:es=es.take i++e::es.drop (i+1):=by
    obtain ⟨hl,he⟩:=List.getElem?_eq_some_iff.mp hi
    rw [← he,List.getElem_cons_drop,List.take_append_drop]
  have hnd:((es.take i).map (·.g)++e.g::(es.drop (i+1)).map (·.g)).Nodup:=by
    have:=h.nd
    dsimp only at this
    rw [hs] at this
    simpa using this
  rw [List.nodup_append,List.nodup_cons] at hnd
  obtain ⟨n1,⟨n2,n3⟩,n4⟩:=hnd
  refine ⟨fun x hx=>?_,?_⟩
  · show (ws.set e.g _)[x.g]?=_
    have key:∃ y∈es,y.g=x.g∧x.g≠e.g:=by
      rcases List.mem_append.mp hx with hx | hx
      · obtain ⟨y,hy,rfl⟩:=List.mem_map.mp hx
        refine ⟨y,List.mem_of_mem_take hy,rfl,fun z=>?_⟩
        exact n4 _ (List.mem_map.mpr ⟨y,hy,rfl⟩) _ List.mem_cons_self z
      · refine ⟨x,List.mem_of_mem_drop hx,rfl,fun z=>n2 ?_⟩
        rw [← z];exact List.mem_map.mpr ⟨x,hx,rfl⟩
    obtain ⟨y,hy,e1,ne⟩:=key
    rw [List.getElem?_set_ne (Ne.symm ne),← e1]
    exact h.out y hy
  · show (((es.take i).map (bump r)++es.drop (i+1)).map (·.g)).Nodup
    rw [List.map_append,zf8,List.nodup_append]
    exact ⟨n1,n3,fun a ha b hb=>n4 a ha b (List.mem_cons_of_mem _ hb)⟩
theorem qM4 {ws:List Wd} {g:Nat} (h:g∈q03 ws):ws[g]?=some .rising:=by
  have:=(List.mem_filter.mp h).2
  rw [Bool.and_eq_true] at this
  exact of_decide_eq_true this.1
theorem stL_ok {r:Rl} {R:Rm} (h:ROk R):ROk (stL r R).1∧(stL r R).1.1.length=R.1.length:=by
  unfold stL
  split
  · rename_i g l hg
    have hr:R.1[g]?=some .rising:=qM4 (by rw [hg];exact List.mem_cons_self)
    refine ⟨⟨fun e he=>?_,h.nd⟩,by simp⟩
    show (R.1.set g .raised)[e.g]?=_
    have h1:=h.out e he
    rw [List.getElem?_set_ne (fun z=>by rw [z,h1] at hr;cases hr)]
    exact h1
  · split
    · split
      · rename_i e he
        exact ⟨goIn_ok h he,by simp [goIn]⟩
      · exact ⟨h,rfl⟩
    · exact ⟨h,rfl⟩
theorem seL_ok {r:Rl}:∀ (n:Nat) {R:Rm},ROk R→ROk (seL r n R).1∧(seL r n R).1.1.length=R.1.length
  | 0,R,h=>⟨h,rfl⟩
  | n+1,R,h=>by
    obtain ⟨h1,h2⟩:=stL_ok (r:=r) h
    obtain ⟨h3,h4⟩:=seL_ok n h1
    exact ⟨h3,h4.trans h2⟩
end MI
namespace MI
open PySem PySem.Spec PyProof.Rows L2 M
noncomputable def qN2:ME:=mComp (mRange1 (mCons (mCall (qb3 fLen) (mCons (mVar 2) (mNil))) (mNil))) (gSet 0) (mAndT (mTest (mOp fEq (mOp fIxX (mVar 1) (mVar 0)) (mC (.str "rising")))) (mTest (mOp fEq (mCnt (mVar 1) (mCons (mC (.str "out")) (mNil))) (mOp fSub (mCall (qb3 fLen) (mCons (mVar 1) (mNil))) (mC (.int 1)))))) (mVar 0) [none,some 2]
noncomputable def q85 (fronts lets:PF):ME:=mComp (mItS (mCallN 2 fronts (mCons (mVar 0) (mCons (mVar 3) (mNil))))) (gSet 0) (mTru (mCallN 3 lets (mCons (mVar 1) (mCons (mVar 3) (mCons (mOp fIxX (mOp fIxX (mVar 2) (mVar 0)) (mC (.int 1))) (mNil)))))) (mVar 0) [none,some 0,some 3,some 2]
noncomputable def q08:ME:=mComp (mItS (mSlice (mVar 3) (mPartN) (mPart (mOp fIxX (mVar 7) (mC (.int 0)))))) (gSet 0) (mTrue) (mOp qc7 (mOp qc7 (mSlice (mVar 0) (mPartN) (mPart (mC (.int 2)))) (mTup (mCons (mOp qc7 (mOp fIxX (mVar 0) (mC (.int 2))) (mCall (qb3 qz9) (mCons (mOp fEq (mOp fIxX (mVar 1) (mC (.int 0))) (mC (.str "passes"))) (mNil)))) (mNil)))) (mSlice (mVar 0) (mPart (mC (.int 3))) (mPartN))) [none,some 0]
noncomputable def zk3 (put:PF):MS:=mSeq (mAsg (mCallN 3 put (mCons (mVar 2) (mCons (mOp fIxX (mVar 6) (mC (.int 0))) (mCons (mC (.str "raised")) (mNil))))) (gSet 2)) (mDrop (mMeth qm5 (mVar 4) (mCons (mTup (mCons (mC (.str "steps")) (mCons (mOp fIxX (mVar 6) (mC (.int 0))) (mNil)))) (mNil))))
noncomputable def seIn (put:PF):MS:=mSeq (mAsg (mOp fIxX (mVar 3) (mOp fIxX (mVar 7) (mC (.int 0)))) (gTupD 4 (gConsD (gSet 8) (gConsD (gSet 9) (gConsD (gSet 10) (gConsD (gSet 11) (gNilD))))))) (mSeq (mAsg (mCallN 3 put (mCons (mVar 2) (mCons (mVar 8) (mCons (mOp fIxX (mLst (mCons (mC (.str "reads")) (mCons (mC (.str "writes")) (mNil)))) (mCall (qb3 qz9) (mCons (mOp fEq (mVar 9) (mC (.str "write"))) (mNil)))) (mNil))))) (gSet 2)) (mSeq (mAsg q08 (gSet 12)) (mSeq (mAsg (mOp qc7 (mCall (qb3 (qi5 .tup)) (mCons (mVar 12) (mNil))) (mSlice (mVar 3) (mPart (mOp qc7 (mOp fIxX (mVar 7) (mC (.int 0))) (mC (.int 1)))) (mPartN))) (gSet 3)) (mDrop (mMeth qm5 (mVar 4) (mCons (mTup (mCons (mC (.str "in")) (mCons (mVar 8) (mNil)))) (mNil)))))))
noncomputable def qJ7 (fronts lets put:PF):MS:=mSeq (mAsg qN2 (gSet 6)) (mSeq (mAsg (q85 fronts lets) (gSet 7)) (mIfS (mTest (mOp fNe (mVar 6) (mLst (mNil)))) (zk3 put) (mIfS (mTest (mOp fNe (mVar 7) (mLst (mNil)))) (seIn put) (mSkip))))
noncomputable def qy9 (fronts lets put:PF):MS:=
  mSeq (mAsg (mVar 1) (gTupD 2 (gConsD (gSet 2) (gConsD (gSet 3) (gNilD))))) (mSeq (mAsg (mLstR (mNil)) (gSet 4)) (mSeq (mFor (mRange1 (mCons (mOp qj3 (mC (.int 2)) (mCall (qb3 fLen) (mCons (mVar 2) (mNil)))) (mNil))) (gSet 5) (qJ7 fronts lets put)) (mRet (mTup (mCons (mTup (mCons (mVar 2) (mCons (mVar 3) (mNil)))) (mCons (mVar 4) (mNil)))))))
structure SeOk (fronts lets put:PF):Prop where
  f:∀ (S:qa0) (r:Rl) (es:List En),es.length≤60→fronts [r.d,esD es] S=some (nl (frL r es),S)
  l:∀ (S:qa0) (r:Rl) (ws:List Wd) (wr:Bool),lets [r.d,wsD ws,.str (qh0 wr)] S=some (.bl (letB r ws wr),S)
  p:∀ (S:qa0) (ws:List Wd) (i:Nat) (w:Wd),i<ws.length→ws.length≤100→put [wsD ws,.int (i:Int),w.d] S=some (wsD (ws.set i w),S)
section
variable {S:qa0} {ws:List Wd} {es:List En} {r:Rl}
theorem range_ni {S:qa0} {n:Nat} (h:n≤1000):kR1 ([.int (n:Int)],S)=some ((List.range n).map ni,S):=by
  rw [qu2 (by omega) (by omega)]
  have:=qO1 n
  simp only [nl,D.lst.injEq] at this
  rw [Int.toNat_natCast,this]
theorem q25 {S:qa0} {i:Nat} {l:List Nat}:fIxX S (nl (i::l)) (.int 0)=some (.int (i:Int)):=by
  show atI ((i::l).map ni) ((0:Nat):Int)=_
  exact atI_n rfl
theorem ze5 {a0 a1 a3 a4 a5 a6 a7 a8 a9 b0 b1 b2:Option D} (hl:ws.length≤60):qN2 [a0,a1,some (wsD ws),a3,a4,a5,a6,a7,a8,a9,b0,b1,b2] S=some (nl (q03 ws),S):=by
  have k:=qo6 (S:=S) (t:=mAndT (mTest (mOp fEq (mOp fIxX (mVar 1) (mVar 0)) (mC (.str "rising")))) (mTest (mOp fEq (mCnt (mVar 1) (mCons (mC (.str "out")) (mNil))) (mOp fSub (mCall (qb3 fLen) (mCons (mVar 1) (mNil))) (mC (.int 1)))))) (e:=mVar 0) (cap:=[none,some 2]) (env:=[a0,a1,some (wsD ws),a3,a4,a5,a6,a7,a8,a9,b0,b1,b2]) (rest:=[some (wsD ws)]) (a:=none) (enc:=ni) (p:=fun g=>decide (ws[g]?=some .rising)&&decide (ws.count .out+1=ws.length)) (f:=ni) (xs:=List.range ws.length) rfl (by simp;omega) (fun g hg=>by
    have hg:=List.mem_range.mp hg
    have e1:ws[g]?=some ws[g]:=List.getElem?_eq_getElem hg
    have e2:fIxX S (wsD ws) (ni g)=some (ws[g]).d:=zd8 e1
    have e3:fEq S (ws[g]).d (.str "rising")=some (.bl (decide (ws[g]=.rising))):=by
      show fEq S (.str (ws[g]).s) (.str "rising")=_
      rw [qn6];exact congrArg (fun b=>some (D.bl b)) (Wd.eq ws[g] .rising)
    have e4:∀ S,qm4 (wsD ws) [.str "out"] S=some (.int (ws.count .out:Nat),S):=fun S=>q79 .out
    have e5:(((ws.count Wd.out:Nat):Int) == (ws.length:Nat) - 1)=decide (ws.count .out+1=ws.length):=by rw [Bool.eq_iff_iff];simp;omega
    simp only [qv0,qb7,qd2,qa5,lg0,lg1,lgS,oj,ob,qa6,qb1,e2,qb2,mC_s,e3,qb6,e1,Option.some.injEq]
    cases hd:decide (ws[g]=.rising) with
    | true=>simp only [qz2,mCnt_s,qa5,lg1,lg0,lgS,oj,ob,qa6,qC7,qa7,mC_s,qa4,qb0,qa3,qo7,e4,qb1,qd2,qf0,qf1,q78,qb2,fSub_i,qB2,qb6,e5,qb7,Bool.true_and]
    | false=>simp only [q54,Bool.false_and]) (fun g _ _=>by simp)
  simp only [qN2,qh1,qj5,qa7,qf0,qa5,lg0,lg1,lgS,oj,ob,qa6,qa4,qb0,qa3,qf1,q78,range_ni (show ws.length≤1000 by omega),k]
  rfl
theorem zk4 {fronts lets put:PF} (O:SeOk fronts lets put) {a1 a4 a5 a6 a7 a8 a9 b0 b1 b2:Option D} (hl:es.length≤60):q85 fronts lets [some r.d,a1,some (wsD ws),some (esD es),a4,a5,a6,a7,a8,a9,b0,b1,b2] S=some (nl (q05 r ws es),S):=by
  have hlen:(frL r es).length≤1000:=by
    have h1:(frL r es).length≤60∨(frL r es).length≤es.length:=by
      unfold frL;split
      · left;simp;omega
      · left;simp;omega
      · right;exact Nat.le_trans (List.length_filter_le _ _) (by simp)
      · left;simp;omega
      · left;simp;omega
    omega
  have k:=qo6 (S:=S) (t:=mTru (mCallN 3 lets (mCons (mVar 1) (mCons (mVar 3) (mCons (mOp fIxX (mOp fIxX (mVar 2) (mVar 0)) (mC (.int 1))) (mNil)))))) (e:=mVar 0) (cap:=[none,some 0,some 3,some 2]) (env:=[some r.d,a1,some (wsD ws),some (esD es),a4,a5,a6,a7,a8,a9,b0,b1,b2]) (rest:=[some r.d,some (esD es),some (wsD ws)]) (a:=none) (enc:=ni) (p:=fun i=>match es[i]? with | some e=>letB r ws e.wr | none=>false) (f:=ni) (xs:=frL r es) rfl hlen (fun i hi=>by
    have e1:es[i]?=some (es[i]'(zc1 hi)):=List.getElem?_eq_getElem (zc1 hi)
    have e2:fIxX S (esD es) (ni i)=some (es[i]'(zc1 hi)).d:=es_ix e1
    simp only [qt8,qc6,qa7,qa5,lg0,lg1,lgS,oj,ob,qa6,qa4,qd2,qb1,e2,qb2,mC_s,En.ix1,qb0,qa3,qo8,O.l,qu1,e1]) (fun g _ _=>by simp)
  simp only [q85,qh1,qo4,qc6,qa7,qa5,lg0,lg1,lgS,oj,ob,qa6,qa4,qb0,qa3,qd8,O.f S r es hl,kItS_nl,k]
  rfl
theorem bump_d {e:En} {b:Option D}:(mOp qc7 (mOp qc7 (mSlice (mVar 0) (mPartN) (mPart (mC (.int 2)))) (mTup (mCons (mOp qc7 (mOp fIxX (mVar 0) (mC (.int 2))) (mCall (qb3 qz9) (mCons (mOp fEq (mOp fIxX (mVar 1) (mC (.int 0))) (mC (.str "passes"))) (mNil)))) (mNil)))) (mSlice (mVar 0) (mPart (mC (.int 3))) (mPartN))) [some e.d,some r.d] S=some ((bump r e).d,S):=by
  have w3:(r.w.s == ("passes":Str))=decide (r.w=.passes):=Rw.eq r.w .passes
  have c1:kSl3 e.d none (some 2,S)=some (.tup [.int (e.g:Nat),.str (qh0 e.wr)],S):=rfl
  have c2:kSl3 e.d (some 3) (none,S)=some (.tup [qm2 e.t],S):=rfl
  have k1:∀ x,kTup ([x],S)=some (.tup [x],S):=fun x=>qd3 (by simp)
  have a1:∀ x y z,qc7 S (.tup [x,y]) (.tup [z])=some (.tup [x,y,z]):=fun x y z=>qx5 (by simp)
  have a2:∀ x y z w,qc7 S (.tup [x,y,z]) (.tup [w])=some (.tup [x,y,z,w]):=fun x y z w=>qx5 (by simp)
  simp only [qd2,qj8,qa5,lg0,lg1,lgS,oj,ob,qa6,qs3,qk8,qs2,qn3,mC_s,qn4,c1,qb1,qf9,qa7,qa4,qf0,En.ix2,Rl.ix0,qb2,qn6,w3,qb0,qa3,qf1,qG7,qG9,k1,a1,c2,a2]
  unfold bump En.d
  by_cases h:r.w=.passes <;> simp [h]
theorem ze6 {i:Nat} {l:List Nat} {a1 a2 a4 a5 a6 a8 a9 b0 b1 b2:Option D} (hl:es.length≤60):q08 [some r.d,a1,a2,some (esD es),a4,a5,a6,some (nl (i::l)),a8,a9,b0,b1,b2] S=some (.lst (((es.take i).map (bump r)).map En.d),S):=by
  have k:=qo6 (S:=S) (t:=mTrue) (e:=mOp qc7 (mOp qc7 (mSlice (mVar 0) (mPartN) (mPart (mC (.int 2)))) (mTup (mCons (mOp qc7 (mOp fIxX (mVar 0) (mC (.int 2))) (mCall (qb3 qz9) (mCons (mOp fEq (mOp fIxX (mVar 1) (mC (.int 0))) (mC (.str "passes"))) (mNil)))) (mNil)))) (mSlice (mVar 0) (mPart (mC (.int 3))) (mPartN))) (cap:=[none,some 0]) (env:=[some r.d,a1,a2,some (esD es),a4,a5,a6,some (nl (i::l)),a8,a9,b0,b1,b2]) (rest:=[some r.d]) (a:=none) (enc:=En.d) (p:=fun _=>true) (f:=fun e=>(bump r e).d) (xs:=es.take i) rfl (by simp;omega) (fun x _=>qo9) (fun x _ _=>bump_d (b:=none))
  rw [List.filter_eq_self.mpr (fun _ _=>rfl)] at k
  have e:kSl3 (esD es) none (some (i:Int),S)=some (.tup ((es.take i).map En.d),S):=by
    rw [show esD es=.tup (es.map En.d) from rfl,zb3,qO3,List.map_take]
  have e0:fIxX S (nl (i::l)) (.int 0)=some (.int (i:Int)):=q25
  simp only [q08,qh1,qo4,qj8,qd2,qa5,lg0,lg1,lgS,oj,ob,qa6,qs3,qk8,qs2,qn3,qb1,mC_s,qb2,e0,qn4,e,qX5,k,List.map_map]
  rfl
theorem zt8 {l:List Nat}:fNe S (nl l) (.lst [])=some (.bl (!decide (l=[]))):=by
  have ok:okD 40 (nl l)=true:=by
    show (l.map ni).all (okD 39)=true
    rw [List.all_eq_true];intro d hd;obtain ⟨i,_,rfl⟩:=List.mem_map.mp hd;rfl
  rw [qL9 ok rfl]
  cases l with
  | nil=>rfl
  | cons _ _=>rfl
theorem ev_app {evs:List Ev} {v:Ev} (h:evs.length<500):qm5 (.ref S.length) [v.d] (S++[.lst (evs.map Ev.d)])=some (.non,S++[.lst ((evs++[v]).map Ev.d)]):=by
  rw [qY8 qo0 (by rw [List.length_map];omega),q72];simp
theorem zu6 {evs:List Ev} {f:MF} {ms:MA} {env:MEnv}:qX3 f ms env (.ref S.length,S++[.lst (evs.map Ev.d)])=(ms env (S++[.lst (evs.map Ev.d)])).bind (ql9 f (.ref S.length)):=qP6 qo0
theorem zk2 {fronts lets put:PF} (O:SeOk fronts lets put) {g:Nat} {l:List Nat} {evs:List Ev} {a0 a1 a3 a5 a7 a8 a9 b0 b1 b2:Option D} (hg:g<ws.length) (hl:ws.length≤60) (he:evs.length<500) :
    zk3 put [a0,a1,some (wsD ws),a3,some (.ref S.length),a5,some (nl (g::l)),a7,a8,a9,b0,b1,b2] (S++[.lst (evs.map Ev.d)])=some (.nx [a0,a1,some (wsD (ws.set g .raised)),a3,some (.ref S.length),a5,some (nl (g::l)),a7,a8,a9,b0,b1,b2] (S++[.lst ((evs++[Ev.mk "steps" g]).map Ev.d)])):=by
  have p1:∀ S,put [wsD ws,.int (g:Int),.str "raised"] S=some (wsD (ws.set g .raised),S):=fun S=>O.p S ws g .raised hg (by omega)
  have k2:∀ S (x y:D),kTup ([x,y],S)=some (.tup [x,y],S):=fun S x y=>qd3 (by simp)
  have ap:qm5 (.ref S.length) [.tup [.str "steps",.int (g:Int)]] (S++[.lst (evs.map Ev.d)])=some (.non,S++[.lst ((evs++[Ev.mk "steps" g]).map Ev.d)]):=ev_app (v:=⟨"steps",g⟩) he
  simp only [zk3,qd6,qg1,qc6,qa7,qa5,lg0,lg1,lgS,oj,ob,qa6,qa4,qd2,mC_s,qb1,qb2,q25,qb0,qa3,qo8,p1,qg2,qd0,ls0,lsS,qk0,qc1,qy7,qE9,zu6,qf9,k2,qo7,ap,qz1]
theorem seIn_eq {fronts lets put:PF} (O:SeOk fronts lets put) {i:Nat} {l:List Nat} {e:En} {evs:List Ev} {a1 a5 a6 a8 a9 b0 b1 b2:Option D} (hi:es[i]?=some e) (hg:e.g<ws.length) (hl:ws.length≤60) (hl2:es.length≤60) (he:evs.length<500) :
    ∃ c8 c9 d0 d1 d2,seIn put [some r.d,a1,some (wsD ws),some (esD es),some (.ref S.length),a5,a6,some (nl (i::l)),a8,a9,b0,b1,b2] (S++[.lst (evs.map Ev.d)])=some (.nx [some r.d,a1,some (wsD (goIn r (ws,es) i e).1),some (esD (goIn r (ws,es) i e).2),some (.ref S.length),a5,a6,some (nl (i::l)),c8,c9,d0,d1,d2] (S++[.lst ((evs++[Ev.mk "in" e.g]).map Ev.d)])):=by
  have hlt:=(List.getElem?_eq_some_iff.mp hi).1
  have p1:∀ S,put [wsD ws,.int (e.g:Int),(if e.wr then Wd.writes else Wd.reads).d] S=some (wsD (ws.set e.g (if e.wr then .writes else .reads)),S):=fun S=>O.p S ws e.g _ hg (by omega)
  have k2:∀ S (x y:D),kTup ([x,y],S)=some (.tup [x,y],S):=fun S x y=>qd3 (by simp)
  have l2:∀ S (x y:D),kLst ([x,y],S)=some (.lst [x,y],S):=fun S x y=>qi8 (by simp)
  have ap:qm5 (.ref S.length) [.tup [.str "in",.int (e.g:Int)]] (S++[.lst (evs.map Ev.d)])=some (.non,S++[.lst ((evs++[Ev.mk "in" e.g]).map Ev.d)]):=ev_app (v:=⟨"in",e.g⟩) he
  have x1:∀ S,fIxX S (esD es) (.int (i:Int))=some e.d:=fun S=>es_ix hi
  have wd:∀ S,fIxX S (.lst [.str "reads",.str "writes"]) (.int (if e.wr=true then 1 else 0))=some (if e.wr then Wd.writes else Wd.reads).d:=fun S=>by cases e.wr <;> rfl
  have g4:∀ env S,gTupD 4 (gConsD (gSet 8) (gConsD (gSet 9) (gConsD (gSet 10) (gConsD (gSet 11) (gNilD))))) e.d env S=(gConsD (gSet 8) (gConsD (gSet 9) (gConsD (gSet 10) (gConsD (gSet 11) (gNilD))))) [.int (e.g:Nat),.str (qh0 e.wr),.int e.m,qm2 e.t] env S:=fun env S=>gTupD_4
  have cd:cutL (es.map En.d) (some ((i:Int)+1)) none=(es.drop (i+1)).map En.d:=by
    rw [show ((i:Int)+1)=((i+1:Nat):Int) by omega,qZ4 _ _ (by rw [List.length_map];omega),List.map_drop]
  have sd:∀ S,kSl3 (esD es) (some ((i:Int)+1)) (none,S)=some (.tup ((es.drop (i+1)).map En.d),S):=fun S=>by
    rw [show esD es=.tup (es.map En.d) from rfl,zb3,cd]
  have ad:∀ S,qc7 S (.tup (((es.take i).map (bump r)).map En.d)) (.tup ((es.drop (i+1)).map En.d))=some (esD (goIn r (ws,es) i e).2):=fun S=>by
    rw [qx5 (by simp;omega),← List.map_append];rfl
  refine ⟨some (.int (e.g:Nat)),some (.str (qh0 e.wr)),some (.int e.m),some (qm2 e.t),some (.lst (((es.take i).map (bump r)).map En.d)),?_⟩
  · simp only [seIn,qd6,qg1,qd2,qa5,lg0,lg1,lgS,oj,ob,qa6,qb1,mC_s,qb2,q25,x1,qg2,g4,qh5,qd0,qv3,ql0,ls0,lsS,qk0,qc1,qc6,qa7,qa4,qr0,qb0,qa3,l2,qf0,qn6,qM6,qf1,qG7,wd,qo8,p1,ze6 hl2,qn5,qj8,qs3,qn3,qG9,qn4,qs2,qk8,sd,ad,qy7,qE9,zu6,qf9,k2,qo7,ap,qz1]
    try rfl
theorem zk1 {fronts lets put:PF} (O:SeOk fronts lets put) {R:Rm} (h:ROk R) (hl:R.1.length≤50) {evs:List Ev} {a1 a5 a6 a7 a8 a9 b0 b1 b2:Option D} (he:evs.length<500) :
    ∃ c6 c7 c8 c9 d0 d1 d2,qJ7 fronts lets put [some r.d,a1,some (wsD R.1),some (esD R.2),some (.ref S.length),a5,a6,a7,a8,a9,b0,b1,b2] (S++[.lst (evs.map Ev.d)])=some (.nx [some r.d,a1,some (wsD (stL r R).1.1),some (esD (stL r R).1.2),some (.ref S.length),a5,c6,c7,c8,c9,d0,d1,d2] (S++[.lst ((evs++(stL r R).2).map Ev.d)])):=by
  obtain ⟨ws,es⟩:=R
  have hl2:es.length≤60:=by have:=h.len;simp only at this hl;omega
  have hl1:ws.length≤60:=by simp only at hl;omega
  have k0:∀ S,kLst ([],S)=some (.lst [],S):=fun S=>qi8 (by simp)
  have e1:∀ (T:qa0) (a6:Option D),qN2 [some r.d,a1,some (wsD ws),some (esD es),some (.ref S.length),a5,a6,a7,a8,a9,b0,b1,b2] T=some (nl (q03 ws),T):=fun T a6=>ze5 hl1
  have e2:∀ (T:qa0) (a6 a7:Option D),q85 fronts lets [some r.d,a1,some (wsD ws),some (esD es),some (.ref S.length),a5,a6,a7,a8,a9,b0,b1,b2] T=some (nl (q05 r ws es),T):=fun T a6 a7=>zk4 O hl2
  unfold stL
  dsimp only
  cases hA:q03 ws with
  | cons g l=>
    have hr:ws[g]?=some .rising:=qM4 (by rw [hA];exact List.mem_cons_self)
    have hg:g<ws.length:=(List.getElem?_eq_some_iff.mp hr).1
    rw [hA] at e1
    have e3:=zk2 O (S:=S) (ws:=ws) (g:=g) (l:=l) (evs:=evs) (a0:=some r.d) (a1:=a1) (a3:=some (esD es)) (a5:=a5) (a7:=some (nl (q05 r ws es))) (a8:=a8) (a9:=a9) (b0:=b0) (b1:=b1) (b2:=b2) hg hl1 he
    refine ⟨some (nl (g::l)),some (nl (q05 r ws es)),a8,a9,b0,b1,b2,?_⟩
    simp only [qJ7,qd6,qg1,e1,e2,ob,qg2,qd0,ls0,lsS,qk0,qc1,qe9,qb7,qd2,qa5,lg0,lg1,lgS,oj,qa6,qb1,qr0,qb0,k0,qb2,zt8,qb6,reduceCtorEq,decide_false,Bool.not_false,qj6,e3]
  | nil=>
    rw [hA] at e1
    cases hB:q05 r ws es with
    | nil=>
      rw [hB] at e2
      refine ⟨some (nl []),some (nl []),a8,a9,b0,b1,b2,?_⟩
      simp only [qJ7,qd6,qg1,e1,e2,ob,qg2,qd0,ls0,lsS,qk0,qc1,qe9,qb7,qd2,qa5,lg0,lg1,lgS,oj,qa6,qb1,qr0,qb0,k0,qb2,zt8,qb6,decide_true,Bool.not_true,qi3,qg0,List.append_nil]
    | cons i l=>
      rw [hB] at e2
      have hi:i∈q05 r ws es:=by rw [hB];exact List.mem_cons_self
      have hlt:i<es.length:=zc1 (List.mem_filter.mp hi).1
      have ei:es[i]?=some es[i]:=List.getElem?_eq_getElem hlt
      have hg:(es[i]).g<ws.length:=h.lt (R:=(ws,es)) (List.getElem_mem hlt)
      obtain ⟨c8,c9,d0,d1,d2,e3⟩:=seIn_eq O (S:=S) (ws:=ws) (es:=es) (r:=r) (i:=i) (l:=l) (evs:=evs) (a1:=a1) (a5:=a5) (a6:=some (nl [])) (a8:=a8) (a9:=a9) (b0:=b0) (b1:=b1) (b2:=b2) ei hg hl1 hl2 he
      dsimp only
      rw [ei]
      refine ⟨some (nl []),some (nl (i::l)),c8,c9,d0,d1,d2,?_⟩
      simp only [qJ7,qd6,qg1,e1,e2,ob,qg2,qd0,ls0,lsS,qk0,qc1,qe9,qb7,qd2,qa5,lg0,lg1,lgS,oj,qa6,qb1,qr0,qb0,k0,qb2,zt8,qb6,decide_true,Bool.not_true,qi3,reduceCtorEq,decide_false,Bool.not_false,qj6,e3]
theorem zj9 {R:Rm}:(stL r R).2.length≤1:=by
  unfold stL
  split
  · simp
  · split
    · split <;> simp
    · simp
theorem q06 {fronts lets put:PF} (O:SeOk fronts lets put) {N:List Str} (hN:N.length=13) {R:Rm} (h:ROk R) (hl:R.1.length≤50) :
    runM N (qy9 fronts lets put) 2 [r.d,rmD R] S=some (.tup [rmD (seL r (2 * R.1.length) R).1,.ref S.length],S++[.lst ((seL r (2 * R.1.length) R).2.map Ev.d)]):=by
  have hst:qc0 N [r.d,rmD R]=[some r.d,some (rmD R),none,none,none,none,none,none,none,none,none,none,none]:=by simp [qc0,hN,List.replicate]
  rw [qf8 (show [r.d,rmD R].length=2 from rfl),hst]
  obtain ⟨env',S',e,R',evs',c5,c6,c7,c8,c9,d0,d1,d2,o1,o2,o3,o4,rfl,rfl⟩:=forR (tg:=gSet 5) (p:=qJ7 fronts lets put) (lo:=0) (fun i env T=>∃ (R':Rm) (evs':List Ev) (c5 c6 c7 c8 c9 d0 d1 d2:Option D),ROk R'∧R'.1.length=R.1.length∧evs'.length≤i∧(i≤2 * R.1.length→seL r (2 * R.1.length) R=((seL r (2 * R.1.length - i) R').1,evs'++(seL r (2 * R.1.length - i) R').2)) ∧
      env=[some r.d,some (rmD R),some (wsD R'.1),some (esD R'.2),some (.ref S.length),c5,c6,c7,c8,c9,d0,d1,d2]∧T=S++[.lst (evs'.map Ev.d)]) (2 * R.1.length) (fun i hi env T hI=>by
    obtain ⟨R',evs',c5,c6,c7,c8,c9,d0,d1,d2,o1,o2,o3,o4,rfl,rfl⟩:=hI
    obtain ⟨f6,f7,f8,f9,g0,g1,g2,e⟩:=zk1 O (r:=r) (S:=S) (R:=R') o1 (by omega) (evs:=evs') (a1:=some (rmD R)) (a5:=some (.int (0+(i:Int)))) (a6:=c6) (a7:=c7) (a8:=c8) (a9:=c9) (b0:=d0) (b1:=d1) (b2:=d2) (by omega)
    obtain ⟨q1,q2⟩:=stL_ok (r:=r) o1
    have fw:=zj9 (r:=r) (R:=R')
    refine ⟨_,_,_,_,qd0,e,(stL r R').1,evs'++(stL r R').2,_,f6,f7,f8,f9,g0,g1,g2,q1,q2.trans o2,by rw [List.length_append];omega,fun hn=>?_,rfl,rfl⟩
    rw [o4 (by omega),show 2 * R.1.length - i=(2 * R.1.length - (i+1))+1 by omega]
    simp only [seL,List.append_assoc]) [some r.d,some (rmD R),some (wsD R.1),some (esD R.2),some (.ref S.length),none,none,none,none,none,none,none,none] (S++[.lst []]) ⟨R,[],none,none,none,none,none,none,none,none,h,rfl,Nat.le_refl _,fun _=>by simp,rfl,rfl⟩
  have o5:=o4 (Nat.le_refl _)
  rw [Nat.sub_self] at o5
  simp only [seL,List.append_nil] at o5
  have k0:zg6 ([],S)=some (.ref S.length,S++[.lst []]):=qC0 (by simp)
  have k2:∀ S (x y:D),kTup ([x,y],S)=some (.tup [x,y],S):=fun S x y=>qd3 (by simp)
  have mu:∀ S,qj3 S (.int 2) (.int (R.1.length:Nat))=some (.int (2 * (R.1.length:Nat))):=fun S=>qs5 (qK2 (by decide) (by decide))
  have kr:∀ S,kR1 ([.int (2 * (R.1.length:Nat))],S)=some (qe7 0 (2 * R.1.length),S):=fun S=>by
    rw [qu2 (by omega) (by omega)];congr 3
  have g2:∀ env S,gTupD 2 (gConsD (gSet 2) (gConsD (gSet 3) (gNilD))) (rmD R) env S=(gConsD (gSet 2) (gConsD (gSet 3) (gNilD))) [wsD R.1,esD R.2] env S:=fun env S=>qm3
  rw [o5]
  simp only [qy9,qd6,qg1,qa5,lg0,lg1,lgS,oj,ob,qa6,qg2,g2,qh5,qd0,qv3,ql0,ls0,lsS,qk0,qc1,q42,qb0,k0,qK9,qj5,qa7,qd2,mC_s,qb1,qf0,qa4,qa3,qf1,q78,qb2,mu,kr,qL1,e,qg5,qf9,k2,qj9,qd7]
  rfl
end
end MI
namespace MI
open PySem PySem.Spec PyProof.Rows L2 M
inductive Ak where | up | down | leave | stop
deriving DecidableEq
noncomputable def Ak.s:Ak→Str
  | .up=>"up"
  | .down=>"down"
  | .leave=>"leave"
  | .stop=>"stop"
inductive Dd where
  | ask (wr:Bool) (g:Nat) (t:Option Int)
  | act (k:Ak) (g:Nat)
  | tick
noncomputable def Dd.d:Dd→D
  | .ask wr g t=>.tup [.str (qh0 wr),.int (g:Int),qm2 t]
  | .act k g=>.tup [.str k.s,.int (g:Int)]
  | .tick=>.tup [.str "tick"]
noncomputable def zd6 (t:Option Int):Prop:=∀ k,t=some k→0≤k∧k≤9
noncomputable def Dd.Ok (n:Nat):Dd→Prop
  | .ask _ g t=>g<n∧zd6 t
  | .act _ g=>g<n
  | .tick=>True
noncomputable def qF6 (pick:PF):MS:=
  mSeq (mAsg (mCallN 2 pick (mCons (mVar 0) (mCons (mVar 1) (mNil)))) (gSet 2)) (mSeq (mAsg (mCallN 2 pick (mCons (mVar 0) (mCons (mC (.int 12)) (mNil)))) (gSet 3)) (mSeq (mIfS (mTest (mOp fLt (mVar 3) (mC (.int 6)))) (mRet (mTup (mCons (mOp fIxX (mLst (mCons (mC (.str "read")) (mCons (mC (.str "write")) (mNil)))) (mOp fMod (mVar 3) (mC (.int 2)))) (mCons (mVar 2) (mCons (mOp fIxX (mLst (mCons (mC .non) (mCons (mC .non) (mCons (mC .non) (mCons (mC (.int 0)) (mCons (mC (.int 1)) (mCons (mC (.int 9)) (mNil)))))))) (mCallN 2 pick (mCons (mVar 0) (mCons (mC (.int 6)) (mNil))))) (mNil)))))) (mSkip)) (mSeq (mIfS (mTest (mOp fEq (mVar 3) (mC (.int 11)))) (mRet (mTup (mCons (mC (.str "tick")) (mNil)))) (mSkip)) (mRet (mTup (mCons (mOp fIxX (mLst (mCons (mC (.str "up")) (mCons (mC (.str "down")) (mCons (mC (.str "leave")) (mCons (mC (.str "leave")) (mCons (mC (.str "stop")) (mNil))))))) (mOp fSub (mVar 3) (mC (.int 6)))) (mCons (mVar 2) (mNil))))))))
theorem at_left {q:Int} (h0:0≤q) (h1:q<6):∃ t:Option Int,atI [D.non,D.non,D.non,D.int 0,D.int 1,D.int 9] q=some (qm2 t)∧zd6 t:=by
  have n:zd6 none:=fun k h=>by cases h
  have s:∀ j:Int,0≤j→j≤9→zd6 (some j):=fun j a b k h=>by cases h;exact ⟨a,b⟩
  obtain rfl | rfl | rfl | rfl | rfl | rfl:q=0∨q=1∨q=2∨q=3∨q=4∨q=5:=by omega
  · exact ⟨none,rfl,n⟩
  · exact ⟨none,rfl,n⟩
  · exact ⟨none,rfl,n⟩
  · exact ⟨some 0,rfl,s 0 (by decide) (by decide)⟩
  · exact ⟨some 1,rfl,s 1 (by decide) (by decide)⟩
  · exact ⟨some 9,rfl,s 9 (by decide) (by decide)⟩
theorem at_act {q:Int} (h0:6≤q) (h1:q<11):∃ k:Ak,atI [D.str "up",D.str "down",D.str "leave",D.str "leave",D.str "stop"] (q - 6)=some (.str k.s):=by
  obtain rfl | rfl | rfl | rfl | rfl:q=6∨q=7∨q=8∨q=9∨q=10:=by omega
  · exact ⟨.up,rfl⟩
  · exact ⟨.down,rfl⟩
  · exact ⟨.leave,rfl⟩
  · exact ⟨.leave,rfl⟩
  · exact ⟨.stop,rfl⟩
theorem at_wr {q:Int}:∃ wr:Bool,atI [D.str "read",D.str "write"] (q % 2)=some (.str (qh0 wr)):=by
  obtain h | h:q % 2=0∨q % 2=1:=by omega
  · exact ⟨false,by rw [h];rfl⟩
  · exact ⟨true,by rw [h];rfl⟩
theorem deed_gen {pick:PF} (hp:qM5 pick) {S:qa0} {r n:Nat} {N:List Str} (hN:N.length=4) (P:Pk S r) (h1:1≤n) (h9:n≤9):∃ (dd:Dd) (S':qa0),runM N (qF6 pick) 2 [.ref r,.int (n:Int)] S=some (dd.d,S')∧dd.Ok n∧Pk S' r∧Keep r S S':=by
  have hst:qc0 N [D.ref r,.int (n:Int)]=[some (.ref r),some (.int (n:Int)),none,none]:=by simp [qc0,hN,List.replicate]
  rw [qf8 (show [D.ref r,D.int (n:Int)].length=2 from rfl),hst]
  obtain ⟨g,S1,e1,g0,g1,P1,K1⟩:=hp _ _ (n:Int) P (by omega) (by omega)
  obtain ⟨q,S2,e2,q0,q1,P2,K2⟩:=hp _ _ 12 P1 (by decide) (by decide)
  obtain ⟨g',rfl⟩:∃ g':Nat,g=(g':Int):=⟨g.toNat,by omega⟩
  have md:∀ S,fMod S (.int q) (.int 2)=some (.int (q % 2)):=fun S=>qr3 (by decide)
  by_cases h6:q<6
  · obtain ⟨l,S3,e3,l0,l1,P3,K3⟩:=hp _ _ 6 P2 (by decide) (by decide)
    obtain ⟨t,et,ot⟩:=at_left l0 l1
    obtain ⟨wr,ew⟩:=at_wr (q:=q)
    have k1:∀ S,kLst ([D.str "read",D.str "write"],S)=some (.lst [D.str "read",D.str "write"],S):=fun S=>qi8 (by simp)
    have k2:∀ S,kLst ([D.non,D.non,D.non,D.int 0,D.int 1,D.int 9],S)=some (.lst [D.non,D.non,D.non,D.int 0,D.int 1,D.int 9],S):=fun S=>qi8 (by simp)
    have k3:∀ S (a b c:D),kTup ([a,b,c],S)=some (.tup [a,b,c],S):=fun S a b c=>qd3 (by simp)
    refine ⟨.ask wr g' t,S3,?_,⟨by omega,ot⟩,P3,Keep.trans K1 (Keep.trans K2 K3)⟩
    simp [qF6,e1,e2,h6,k1,md,ew,e3,k2,et,k3,Dd.d]
  · by_cases h11:q=11
    · subst h11
      have k1:∀ S (a:D),kTup ([a],S)=some (.tup [a],S):=fun S a=>qd3 (by simp)
      refine ⟨.tick,S2,?_,trivial,P2,Keep.trans K1 K2⟩
      simp [qF6,e1,e2,k1,Dd.d]
    · obtain ⟨k,ek⟩:=at_act (q:=q) (by omega) (by omega)
      have k1:∀ S,kLst ([D.str "up",D.str "down",D.str "leave",D.str "leave",D.str "stop"],S)=some (.lst [D.str "up",D.str "down",D.str "leave",D.str "leave",D.str "stop"],S):=fun S=>qi8 (by simp)
      have k2:∀ S (a b:D),kTup ([a,b],S)=some (.tup [a,b],S):=fun S a b=>qd3 (by simp)
      refine ⟨.act k g',S2,?_,(by show g'<n;omega),P2,Keep.trans K1 K2⟩
      simp [qF6,e1,e2,h6,beq_eq_false_iff_ne.mpr h11,k1,ek,k2,Dd.d]
noncomputable def qf7 (es:List En) (g:Nat):Bool:=es.any fun e=>decide (e.g=g)
noncomputable def canB (R:Rm):Dd→Bool
  | .tick=>true
  | .ask _ g _=>decide (R.1[g]?=some .out) && !qf7 R.2 g
  | .act .up g=>decide (R.1[g]?=some .reads)
  | .act .down g=>decide (R.1[g]?=some .writes)||decide (R.1[g]?=some .raised)
  | .act .leave g=>decide (R.1[g]?≠some .out)
  | .act .stop g=>qf7 R.2 g||decide (R.1[g]?=some .rising)
noncomputable def q68:ME:=mOp fIn (mOp fIxX (mVar 1) (mC (.int 1))) (mComp (mItS (mVar 3)) (gSet 0) (mTrue) (mOp fIxX (mVar 0) (mC (.int 0))) [none])
noncomputable def caD1:ME:=mDictR [(mC (.str "read"),mAnd (mOp fEq (mVar 4) (mC (.str "out"))) (mNotV (mVar 5))),(mC (.str "write"),mAnd (mOp fEq (mVar 4) (mC (.str "out"))) (mNotV (mVar 5))),(mC (.str "up"),mOp fEq (mVar 4) (mC (.str "reads")))]
noncomputable def caD2:ME:=mDict [(mC (.str "down"),mOp fIn (mVar 4) (mTup (mCons (mC (.str "writes")) (mCons (mC (.str "raised")) (mNil))))),(mC (.str "leave"),mOp fNe (mVar 4) (mC (.str "out"))),(mC (.str "stop"),mOr (mVar 5) (mOp fEq (mVar 4) (mC (.str "rising"))))]
noncomputable def zb0:MS:=
  mSeq (mAsg (mVar 0) (gTupD 2 (gConsD (gSet 2) (gConsD (gSet 3) (gNilD))))) (mSeq (mIfS (mTest (mOp fEq (mVar 1) (mTup (mCons (mC (.str "tick")) (mNil))))) (mRet (mC (.bl true))) (mSkip)) (mSeq (mAsg (mOp fIxX (mVar 2) (mOp fIxX (mVar 1) (mC (.int 1)))) (gSet 4)) (mSeq (mAsg q68 (gSet 5)) (mSeq (mAsg caD1 (gSet 6)) (mSeq (mDrop (mMethD q56 (mVar 6) (mCons caD2 (mNil)))) (mRet (mOp fIxX (mVar 6) (mOp fIxX (mVar 1) (mC (.int 0))))))))))
noncomputable def mkL (r:Rl) (w:Wd) (es:List En):List En:=if r.w=.turns∧w=.writes then es.map (fun e=>if e.wr then e else { e with m:=1 }) else es
noncomputable def mkC:ME:=mComp (mItS (mVar 2)) (gSet 0) (mTrue) (mIf (mTest (mOp fEq (mOp fIxX (mVar 0) (mC (.int 1))) (mC (.str "read")))) (mOp qc7 (mOp qc7 (mSlice (mVar 0) (mPartN) (mPart (mC (.int 2)))) (mTup (mCons (mC (.int 1)) (mNil)))) (mSlice (mVar 0) (mPart (mC (.int 3))) (mPartN))) (mVar 0)) [none]
noncomputable def qs0:MS:=
  mSeq (mIfS (mOrT (mTest (mOp fNe (mOp fIxX (mVar 0) (mC (.int 0))) (mC (.str "turns")))) (mTest (mOp fNe (mVar 1) (mC (.str "writes"))))) (mRet (mVar 2)) (mSkip)) (mRet (mCall (qb3 (qi5 .tup)) (mCons mkC (mNil))))
section
variable {S:qa0} {ws:List Wd} {es:List En} {r:Rl}
theorem fIn_gs {g:Nat}:fIn S (.int (g:Int)) (.lst (es.map fun e=>.int (e.g:Int)))=some (.bl (qf7 es g)):=by
  rw [qB0 (ys:=es.map fun e=>D.int (e.g:Int)) rfl rfl (by rw [List.all_eq_true];intro d hd;obtain ⟨e,_,rfl⟩:=List.mem_map.mp hd;rfl)]
  unfold qf7
  rw [List.any_map]
  congr 2
  induction es with
  | nil=>rfl
  | cons e l ih=>
    rw [List.any_cons,List.any_cons,ih]
    congr 1
    show ((e.g:Int) == (g:Int))=_
    rw [Bool.eq_iff_iff];simp;omega
theorem gsC {b:Option D} {cap:List (Option Nat)} {env:MEnv} (hc:capE cap env=[b]) (hl:es.length≤100):qX7 (gSet 0) mTrue (mOp fIxX (mVar 0) (mC (.int 0))) cap env (es.map En.d,S)=some (.lst (es.map fun e=>.int (e.g:Int)),S):=by
  have k:=qo6 (S:=S) (t:=mTrue) (e:=mOp fIxX (mVar 0) (mC (.int 0))) (cap:=cap) (env:=env) (rest:=[]) (a:=b) (enc:=En.d) (p:=fun _=>true) (f:=fun e=>.int (e.g:Int)) (xs:=es) hc (by omega) (fun x _=>qo9) (fun x _ _=>by simp [En.ix0])
  rw [List.filter_eq_self.mpr (fun _ _=>rfl)] at k
  exact k
theorem qA2:kItS (esD es,S)=some (es.map En.d,S):=rfl
noncomputable def zs6:Dd→Bool
  | .tick=>true
  | _=>false
theorem Dd.tick_ne {dd:Dd}:fEq S dd.d (.tup [.str "tick"])=some (.bl (zs6 dd)):=by
  cases dd with
  | tick=>rw [qG8 rfl rfl];rfl
  | ask wr g t=>
    rw [qG8 (by cases t <;> rfl) rfl]
    show some (D.bl (_&&false))=some (D.bl false)
    rw [Bool.and_false]
  | act k g=>
    rw [qG8 rfl rfl]
    show some (D.bl (_&&false))=some (D.bl false)
    rw [Bool.and_false]
theorem qB1 {a b:Wd}:fEq S a.d (.str b.s)=some (.bl (decide (a=b))):=by
  show fEq S (.str a.s) (.str b.s)=_
  rw [qn6,Wd.eq]
theorem zt6 {a b:Wd}:fNe S a.d (.str b.s)=some (.bl (!decide (a=b))):=by
  show fNe S (.str a.s) (.str b.s)=_
  rw [zt7,Wd.eq]
theorem fIn_wd {a:Wd}:fIn S a.d (.tup [.str "writes",.str "raised"])=some (.bl (decide (a=.writes)||decide (a=.raised))):=by
  have h:([D.str "writes",D.str "raised"].any fun d=>eqD d a.d)=(decide (a=.writes)||decide (a=.raised)):=by cases a <;> decide +kernel
  rw [qB0 (ys:=[.str "writes",.str "raised"]) rfl rfl rfl,h]
noncomputable def caL1 (w:Wd) (s:Bool):List (Key×D):=[(.inr "read",.bl (decide (w=.out) && !s)),(.inr "write",.bl (decide (w=.out) && !s)),(.inr "up",.bl (decide (w=.reads)))]
noncomputable def caL2 (w:Wd) (s:Bool):List (Key×D):=[(.inr "down",.bl (decide (w=.writes)||decide (w=.raised))),(.inr "leave",.bl (!decide (w=.out))),(.inr "stop",.bl (s||decide (w=.rising)))]
theorem caD1_eq {w:Wd} {s:Bool} {a0 a1 a2 a3 a6:Option D}:caD1 [a0,a1,a2,a3,some w.d,some (.bl s),a6] S=some (.ref S.length,S++[.dct ((caL1 w s).map (·.1)) ((caL1 w s).map (·.2))]):=by
  have e1:∀ S,fEq S w.d (.str "out")=some (.bl (decide (w=.out))):=fun S=>qB1 (b:=.out)
  have e2:∀ S,fEq S w.d (.str "reads")=some (.bl (decide (w=.reads))):=fun S=>qB1 (b:=.reads)
  have ka:∀ x:Bool,kAnd (mNotV (mVar 5)) [a0,a1,a2,a3,some w.d,some (.bl s),a6] (.bl x,S)=some (.bl (x && !s),S):=fun x=>by cases x <;> simp
  have kd:zb5 ([(.inr "read",.bl (decide (w=.out) && !s)),(.inr "write",.bl (decide (w=.out) && !s)),(.inr "up",.bl (decide (w=.reads)))],S)=some (.ref S.length,S++[.dct ((caL1 w s).map (·.1)) ((caL1 w s).map (·.2))]):=zr3 (l:=caL1 w s) (show [(Sum.inr "read":Key),.inr "write",.inr "up"].Nodup by decide +kernel) (by show 3≤15;decide)
  simp only [caD1,mDictR_s,qu8,mC_s,ob,zr0,mAnd_s,qd2,qa5,lg0,lg1,lgS,oj,qa6,qb1,qb2,e1,ka,zq9,e2,qy6,zq8,kd]
theorem caD2_eq {w:Wd} {s:Bool} {a0 a1 a2 a3 a6:Option D}:caD2 [a0,a1,a2,a3,some w.d,some (.bl s),a6] S=some (.dct ((caL2 w s).map (·.1)) ((caL2 w s).map (·.2)),S):=by
  have e1:∀ S,fNe S w.d (.str "out")=some (.bl (!decide (w=.out))):=fun S=>zt6 (b:=.out)
  have e2:∀ S,fEq S w.d (.str "rising")=some (.bl (decide (w=.rising))):=fun S=>qB1 (b:=.rising)
  have k2:∀ S (x y:D),kTup ([x,y],S)=some (.tup [x,y],S):=fun S x y=>qd3 (by simp)
  have ka:kOr (mOp fEq (mVar 4) (mC (.str "rising"))) [a0,a1,a2,a3,some w.d,some (.bl s),a6] (.bl s,S)=some (.bl (s||decide (w=.rising)),S):=by cases s <;> simp [e2]
  have kd:q53 ([(.inr "down",.bl (decide (w=.writes)||decide (w=.raised))),(.inr "leave",.bl (!decide (w=.out))),(.inr "stop",.bl (s||decide (w=.rising)))],S)=some (.dct ((caL2 w s).map (·.1)) ((caL2 w s).map (·.2)),S):=zb4 (l:=caL2 w s) (show [(Sum.inr "down":Key),.inr "leave",.inr "stop"].Nodup by decide +kernel) (by show 3≤15;decide)
  simp only [caD2,zp6,qu8,mC_s,ob,zr0,qd2,qa5,lg0,lg1,lgS,oj,qa6,qb1,qf9,qa7,qa4,qb0,qa3,k2,qb2,fIn_wd,zq9,e1,mOr_s,ka,qy6,zq8,kd]
noncomputable def qn7:Dd→Str
  | .ask wr _ _=>qh0 wr
  | .act k _=>k.s
  | .tick=>"tick"
noncomputable def qa9:Dd→Nat
  | .ask _ g _=>g
  | .act _ g=>g
  | .tick=>0
theorem ca_val {w:Wd} {s:Bool} {R:Rm} {dd:Dd} (hs:s=qf7 R.2 (qa9 dd)) (hw:R.1[qa9 dd]?=some w) (ht:dd≠.tick):valD (qh3 (caL1 w s) (caL2 w s)) (.inr (qn7 dd))=some (.bl (canB R dd)):=by
  have hm:qh3 (caL1 w s) (caL2 w s)=caL1 w s++caL2 w s:=qy3 (show [(Sum.inr "read":Key),.inr "write",.inr "up",.inr "down",.inr "leave",.inr "stop"].Nodup by decide +kernel)
  rw [hm]
  cases dd with
  | tick=>exact absurd rfl ht
  | ask wr g t=>
    simp only [qa9] at hw hs
    cases wr
    · simp (decide:=true) [caL1,caL2,valD,qn7,qh0,canB,hw,hs]
    · simp (decide:=true) [caL1,caL2,valD,qn7,qh0,canB,hw,hs]
  | act k g=>
    simp only [qa9] at hw hs
    cases k <;> simp (decide:=true) [caL1,caL2,valD,qn7,Ak.s,canB,hw,hs]
theorem can_gen {N:List Str} (hN:N.length=7) {R:Rm} {dd:Dd} (hl:R.2.length≤60) (hd:dd.Ok R.1.length):∃ T,runM N zb0 2 [rmD R,dd.d] S=some (.bl (canB R dd),S++T):=by
  have hst:qc0 N [rmD R,dd.d]=[some (rmD R),some dd.d,none,none,none,none,none]:=by simp [qc0,hN,List.replicate]
  rw [qf8 (show [rmD R,dd.d].length=2 from rfl),hst]
  obtain ⟨ws,es⟩:=R
  have k1:∀ S (x:D),kTup ([x],S)=some (.tup [x],S):=fun S x=>qd3 (by simp)
  have g2:∀ env S,gTupD 2 (gConsD (gSet 2) (gConsD (gSet 3) (gNilD))) (rmD (ws,es)) env S=(gConsD (gSet 2) (gConsD (gSet 3) (gNilD))) [wsD ws,esD es] env S:=fun env S=>qm3
  by_cases ht:dd=.tick
  · subst ht
    refine ⟨[],?_⟩
    simp only [zb0,qd6,qg1,qa5,lg0,lg1,lgS,oj,ob,qa6,qg2,g2,qh5,qd0,qv3,ql0,ls0,lsS,qk0,qc1,qe9,qb7,qd2,qb1,qf9,qa7,mC_s,qa4,qb0,qa3,k1,qb2,Dd.tick_ne,qb6,qj6,qg5,qj9,qk9,qd7,List.append_nil,canB,zs6]
  · have hf:zs6 dd=false:=by cases dd <;> first | rfl | exact absurd rfl ht
    have x1:∀ S,fIxX S dd.d (.int 1)=some (.int (qa9 dd:Int)):=fun S=>by cases dd <;> first | rfl | exact absurd rfl ht
    have x0:∀ S,fIxX S dd.d (.int 0)=some (.str (qn7 dd)):=fun S=>by cases dd <;> first | rfl | exact absurd rfl ht
    have hg:qa9 dd<ws.length:=by cases dd with
      | ask _ _ _=>exact hd.1
      | act _ _=>exact hd
      | tick=>exact absurd rfl ht
    have hw:ws[qa9 dd]?=some ws[qa9 dd]:=List.getElem?_eq_getElem hg
    have xw:∀ S,fIxX S (wsD ws) (.int (qa9 dd:Int))=some (ws[qa9 dd]).d:=fun S=>zd8 hw
    have st:∀ (S:qa0) (a4 a5 a6:Option D),q68 [some (rmD (ws,es)),some dd.d,some (wsD ws),some (esD es),a4,a5,a6] S=some (.bl (qf7 es (qa9 dd)),S):=fun S a4 a5 a6=>by
      simp only [q68,qd2,qa5,lg0,lg1,lgS,oj,ob,qa6,qb1,mC_s,qb2,x1,qh1,qo4,qA2,gsC (es:=es) (cap:=[none]) (env:=[some (rmD (ws,es)),some dd.d,some (wsD ws),some (esD es),a4,a5,a6]) rfl (by simp only at hl;omega),fIn_gs]
    have up:q56 (.ref S.length) [.dct ((caL2 (ws[qa9 dd]) (qf7 es (qa9 dd))).map (·.1)) ((caL2 (ws[qa9 dd]) (qf7 es (qa9 dd))).map (·.2))] (S++[.dct ((caL1 (ws[qa9 dd]) (qf7 es (qa9 dd))).map (·.1)) ((caL1 (ws[qa9 dd]) (qf7 es (qa9 dd))).map (·.2))])=some (.non,S++[.dct ((qh3 (caL1 (ws[qa9 dd]) (qf7 es (qa9 dd))) (caL2 (ws[qa9 dd]) (qf7 es (qa9 dd)))).map (·.1)) ((qh3 (caL1 (ws[qa9 dd]) (qf7 es (qa9 dd))) (caL2 (ws[qa9 dd]) (qf7 es (qa9 dd)))).map (·.2))]):=by
      rw [fUpdD_r qo0 (by show 3+3≤1000;decide),q72]
    have md:∀ f ms env (c:List Key) (d:List D),qX2 f ms env (.ref S.length,S++[.dct c d])=(ms env (S++[.dct c d])).bind (ql9 f (.ref S.length)):=fun f ms env c d=>kMethD_r qo0
    have fin:fIxX (S++[.dct ((qh3 (caL1 (ws[qa9 dd]) (qf7 es (qa9 dd))) (caL2 (ws[qa9 dd]) (qf7 es (qa9 dd)))).map (·.1)) ((qh3 (caL1 (ws[qa9 dd]) (qf7 es (qa9 dd))) (caL2 (ws[qa9 dd]) (qf7 es (qa9 dd)))).map (·.2))]) (.ref S.length) (.str (qn7 dd))=some (.bl (canB (ws,es) dd)):=by
      rw [fIx_dr qo0 zq3];exact ca_val rfl hw ht
    refine ⟨[.dct ((qh3 (caL1 (ws[qa9 dd]) (qf7 es (qa9 dd))) (caL2 (ws[qa9 dd]) (qf7 es (qa9 dd)))).map (·.1)) ((qh3 (caL1 (ws[qa9 dd]) (qf7 es (qa9 dd))) (caL2 (ws[qa9 dd]) (qf7 es (qa9 dd)))).map (·.2))],?_⟩
    simp only [zb0,qd6,qg1,qa5,lg0,lg1,lgS,oj,ob,qa6,qg2,g2,qh5,qd0,qv3,ql0,ls0,lsS,qk0,qc1,qe9,qb7,qd2,qb1,qf9,qa7,mC_s,qa4,qb0,qa3,k1,qb2,Dd.tick_ne,hf,qb6,qi3,qg0,x1,xw,st,caD1_eq,qy7,mMethD_s,md,caD2_eq,qo7,up,qz1,qg5,x0,fin,qj9,qd7]
theorem mk_d {e:En}:(mIf (mTest (mOp fEq (mOp fIxX (mVar 0) (mC (.int 1))) (mC (.str "read")))) (mOp qc7 (mOp qc7 (mSlice (mVar 0) (mPartN) (mPart (mC (.int 2)))) (mTup (mCons (mC (.int 1)) (mNil)))) (mSlice (mVar 0) (mPart (mC (.int 3))) (mPartN))) (mVar 0)) [some e.d] S=some ((if e.wr then e else { e with m:=1 }:En).d,S):=by
  have c1:kSl3 e.d none (some 2,S)=some (.tup [.int (e.g:Nat),.str (qh0 e.wr)],S):=rfl
  have c2:kSl3 e.d (some 3) (none,S)=some (.tup [qm2 e.t],S):=rfl
  have k1:∀ x,kTup ([x],S)=some (.tup [x],S):=fun x=>qd3 (by simp)
  have a1:∀ x y z,qc7 S (.tup [x,y]) (.tup [z])=some (.tup [x,y,z]):=fun x y z=>qx5 (by simp)
  have a2:∀ x y z w,qc7 S (.tup [x,y,z]) (.tup [w])=some (.tup [x,y,z,w]):=fun x y z w=>qx5 (by simp)
  have wr:(qh0 e.wr == ("read":Str)) = !e.wr:=zj0 e.wr
  simp only [mIf_s,qb7,qd2,qa5,lg0,oj,ob,qa6,qb1,mC_s,qb2,En.ix1,qn6,wr,qb6]
  cases h:e.wr with
  | true=>simp
  | false=>
    simp only [Bool.not_false,kIf_t,qd2,qj8,qa5,lg0,oj,ob,qa6,qs3,qk8,qs2,qn3,mC_s,qn4,c1,qb1,qf9,qa7,qa4,qb0,qa3,k1,qb2,a1,c2,a2]
    unfold En.d
    simp [h]
theorem zf7 {N:List Str} (hN:N.length=3) {w:Wd} (hl:es.length≤60):runM N qs0 3 [r.d,w.d,esD es] S=some (esD (mkL r w es),S):=by
  have hst:qc0 N [r.d,w.d,esD es]=[some r.d,some w.d,some (esD es)]:=by simp [qc0,hN]
  rw [qf8 (show [r.d,w.d,esD es].length=3 from rfl),hst]
  have w1:(r.w.s == ("turns":Str))=decide (r.w=.turns):=Rw.eq r.w .turns
  have e1:fNe S (.str r.w.s) (.str "turns")=some (.bl (!decide (r.w=.turns))):=by rw [zt7,w1]
  have e2:fNe S w.d (.str "writes")=some (.bl (!decide (w=.writes))):=zt6 (b:=.writes)
  have k:=qo6 (S:=S) (t:=mTrue) (e:=mIf (mTest (mOp fEq (mOp fIxX (mVar 0) (mC (.int 1))) (mC (.str "read")))) (mOp qc7 (mOp qc7 (mSlice (mVar 0) (mPartN) (mPart (mC (.int 2)))) (mTup (mCons (mC (.int 1)) (mNil)))) (mSlice (mVar 0) (mPart (mC (.int 3))) (mPartN))) (mVar 0)) (cap:=[none]) (env:=[some r.d,some w.d,some (esD es)]) (rest:=[]) (a:=none) (enc:=En.d) (p:=fun _=>true) (f:=fun e=>(if e.wr then e else { e with m:=1 }:En).d) (xs:=es) rfl (by omega) (fun x _=>qo9) (fun x _ _=>mk_d)
  rw [List.filter_eq_self.mpr (fun _ _=>rfl)] at k
  have kc:mkC [some r.d,some w.d,some (esD es)] S=some (.lst (es.map fun e=>(if e.wr then e else { e with m:=1 }:En).d),S):=by
    simp only [mkC,qh1,qo4,qa5,lg0,lg1,lgS,oj,ob,qa6,qA2,k]
  unfold mkL
  by_cases h1:r.w=.turns
  · rw [decide_eq_true h1] at e1
    by_cases h2:w=.writes
    · rw [if_pos ⟨h1,h2⟩]
      rw [decide_eq_true h2] at e2
      simp only [qs0,qd6,qe9,qE8,qb7,qd2,qa5,lg0,lg1,lgS,oj,ob,qa6,qb1,mC_s,qb2,Rl.ix0,e1,Bool.not_true,qb6,qX1,e2,qi3,qg0,qc1,qg5,qf0,qa7,kc,qa4,qb0,qa3,qf1,qn5,qj9,qd7]
      unfold esD;rw [List.map_map];rfl
    · rw [if_neg (fun z=>h2 z.2)]
      rw [decide_eq_false h2] at e2
      simp only [qs0,qd6,qe9,qE8,qb7,qd2,qa5,lg0,lg1,lgS,oj,ob,qa6,qb1,mC_s,qb2,Rl.ix0,e1,Bool.not_true,Bool.not_false,qb6,qX1,e2,qj6,qg5,qj9,qk9,qd7]
  · rw [if_neg (fun z=>h1 z.1)]
    rw [decide_eq_false h1] at e1
    simp only [qs0,qd6,qe9,qE8,qb7,qd2,qa5,lg0,lg1,lgS,oj,ob,qa6,qb1,mC_s,qb2,Rl.ix0,e1,Bool.not_false,qb6,kOrT_t,qj6,qg5,qj9,qk9,qd7]
end
end MI
namespace MI
open PySem PySem.Spec PyProof.Rows L2 M
noncomputable def evsD (l:List Ev):D:=.tup (l.map Ev.d)
noncomputable def qi0 (r:Rl) (R:Rm):Rm×List Ev:=seL r (2 * R.1.length) R
noncomputable def askE (wr:Bool) (g:Nat) (t:Option Int):En:=⟨g,wr,0,if t=some 0 then some 1 else t⟩
noncomputable def askL (r:Rl) (R:Rm) (wr:Bool) (g:Nat) (t:Option Int):Rm×List Ev:=
  let a:=qi0 r (R.1,R.2++[askE wr g t])
  if qf7 a.1.2 g=false then a
  else if t=some 0 then ((a.1.1,a.1.2.filter fun e=>decide (e.g≠g)),a.2++[⟨"no",g⟩])
  else (a.1,a.2++[⟨"waits",g⟩])
noncomputable def decT (e:En):En:={ e with t:=e.t.map (· - 1) }
noncomputable def ze2 (r:Rl) (R:Rm):Rm×List Ev:=
  let a:=qi0 r (R.1,(R.2.map decT).filter fun e=>decide (e.t≠some 0))
  (a.1,(((R.2.map decT).filter fun e=>decide (e.t=some 0)).map fun e=>⟨"ends",e.g⟩)++a.2)
noncomputable def qu3 (k:Ak) (g:Nat):List Ev:=match k with
  | .up=>[]
  | .stop=>[⟨"ends",g⟩]
  | .down=>[⟨"down",g⟩]
  | .leave=>[⟨"out",g⟩]
noncomputable def qr5 (k:Ak) (w:Wd):Wd:=match k with
  | .up=>.rising
  | .down=>.reads
  | .leave=>.out
  | .stop=>if w=.rising then .reads else .out
noncomputable def actE (r:Rl) (k:Ak) (w:Wd) (g:Nat) (es:List En):List En:=(if k=.down∨k=.leave then mkL r w es else es).filter fun e=>decide (e.g≠g)
noncomputable def actL (r:Rl) (R:Rm) (k:Ak) (g:Nat) (w:Wd):Rm×List Ev:=
  let a:=qi0 r (R.1.set g (qr5 k w),actE r k w g R.2)
  (a.1,qu3 k g++a.2++(if a.1.1[g]?=some .rising then [⟨"waits",g⟩] else []))
noncomputable def q60 (r:Rl) (R:Rm) (dd:Dd):Option (Rm×List Ev):=
  if canB R dd=false then none else match dd with
  | .tick=>some (ze2 r R)
  | .ask wr g t=>some (askL r R wr g t)
  | .act k g=>if k=.up∧(r.c=0∨Wd.rising∈R.1) then some (R,[⟨"no",g⟩]) else match R.1[g]? with
    | some w=>some (actL r R k g w)
    | none=>none
theorem qR7 {es:List En} {g:Nat} (h:qf7 es g=false) {e:En} (he:e∈es):e.g≠g:=fun z=>by
  have:qf7 es g=true:=List.any_eq_true.mpr ⟨e,he,by simp [z]⟩
  rw [h] at this;cases this
theorem ROk.filter {ws:List Wd} {es:List En} (h:ROk (ws,es)) (p:En→Bool):ROk (ws,es.filter p):=
  ⟨fun e he=>h.out e (List.mem_filter.mp he).1,List.Sublist.nodup (List.Sublist.map _ (List.filter_sublist)) h.nd⟩
theorem ROk.mapE {ws:List Wd} {es:List En} (h:ROk (ws,es)) (f:En→En) (hf:∀ e,(f e).g=e.g):ROk (ws,es.map f):=
  ⟨fun e he=>by obtain ⟨x,hx,rfl⟩:=List.mem_map.mp he;rw [hf];exact h.out x hx,by
    show ((es.map f).map (·.g)).Nodup
    rw [List.map_map,show ((·.g) ∘ f)=(fun e:En=>e.g) from funext hf];exact h.nd⟩
theorem ROk.setW {ws:List Wd} {es:List En} (h:ROk (ws,es)) (g:Nat) (w:Wd) (hg:∀ e∈es,e.g≠g):ROk (ws.set g w,es):=
  ⟨fun e he=>by show (ws.set g w)[e.g]?=_;rw [List.getElem?_set_ne (Ne.symm (hg e he))];exact h.out e he,h.nd⟩
theorem qn0 {r:Rl} {R:Rm} (h:ROk R):ROk (qi0 r R).1∧(qi0 r R).1.1.length=R.1.length:=seL_ok _ h
theorem zz4 {R:Rm} {wr:Bool} {g:Nat} {t:Option Int} (h:ROk R) (hw:R.1[g]?=some .out) (hs:qf7 R.2 g=false):ROk (R.1,R.2++[askE wr g t]):=
  ⟨fun e he=>by
    rcases List.mem_append.mp he with he | he
    · exact h.out e he
    · rw [List.mem_singleton.mp he];exact hw,by
    show ((R.2++[askE wr g t]).map (·.g)).Nodup
    rw [List.map_append,List.nodup_append]
    refine ⟨h.nd,by simp,fun a ha b hb=>?_⟩
    obtain ⟨e,he,rfl⟩:=List.mem_map.mp ha
    simp [askE] at hb
    rw [hb];exact qR7 hs he⟩
theorem mkL_ok {r:Rl} {w:Wd} {ws:List Wd} {es:List En} (h:ROk (ws,es)):ROk (ws,mkL r w es):=by
  unfold mkL;split
  · exact h.mapE _ fun e=>by split <;> rfl
  · exact h
theorem zz6 {r:Rl} {k:Ak} {w:Wd} {g:Nat} {ws:List Wd} {es:List En} (h:ROk (ws,es)) (w':Wd):ROk (ws.set g w',actE r k w g es):=by
  unfold actE
  refine ROk.setW (ROk.filter ?_ _) g w' fun e he=>of_decide_eq_true (List.mem_filter.mp he).2
  split
  · exact mkL_ok h
  · exact h
theorem doneL_ok {r:Rl} {R:Rm} {dd:Dd} {x:Rm×List Ev} (h:ROk R) (hx:q60 r R dd=some x):ROk x.1∧x.1.1.length=R.1.length:=by
  unfold q60 at hx
  split at hx
  · cases hx
  · rename_i hc
    have hc:canB R dd=true:=by simpa using hc
    cases dd with
    | tick=>
      cases hx
      obtain ⟨a,b⟩:=qn0 (r:=r) (R:=(R.1,(R.2.map decT).filter fun e=>decide (e.t≠some 0))) (ROk.filter (ROk.mapE h decT fun e=>rfl) _)
      exact ⟨a,b⟩
    | ask wr g t=>
      cases hx
      simp only [canB,Bool.and_eq_true,decide_eq_true_eq,Bool.not_eq_true'] at hc
      obtain ⟨a,b⟩:=qn0 (r:=r) (zz4 (wr:=wr) (t:=t) h hc.1 hc.2)
      unfold askL
      dsimp only
      split
      · exact ⟨a,b⟩
      · split
        · exact ⟨ROk.filter a _,b⟩
        · exact ⟨a,b⟩
    | act k g=>
      dsimp only at hx
      split at hx
      · cases hx;exact ⟨h,rfl⟩
      · split at hx
        · rename_i w hw
          cases hx
          obtain ⟨a,b⟩:=qn0 (r:=r) (zz6 (r:=r) (k:=k) (w:=w) (g:=g) h (qr5 k w))
          exact ⟨a,b.trans (by simp)⟩
        · cases hx
noncomputable def asGs:ME:=mComp (mItS (mOp fIxX (mVar 1) (mC (.int 1)))) (gSet 0) (mTrue) (mOp fIxX (mVar 0) (mC (.int 0))) [none]
noncomputable def zz5:ME:=mComp (mItS (mOp fIxX (mVar 1) (mC (.int 1)))) (gSet 0) (mTest (mOp fNe (mOp fIxX (mVar 0) (mC (.int 0))) (mVar 1))) (mVar 0) [none,some 4]
noncomputable def qP4 (settled:PF):MS:=
  mSeq (mAsg (mVar 2) (gTupD 3 (gConsD (gSet 3) (gConsD (gSet 4) (gConsD (gSet 5) (gNilD)))))) (mSeq (mAsg (mTup (mCons (mVar 4) (mCons (mVar 3) (mCons (mC (.int 0)) (mCons (mIf (mTest (mOp fEq (mVar 5) (mC (.int 0)))) (mC (.int 1)) (mVar 5)) (mNil)))))) (gSet 6)) (mSeq (mAsg (mCallN 2 settled (mCons (mVar 0) (mCons (mTup (mCons (mOp fIxX (mVar 1) (mC (.int 0))) (mCons (mOp qc7 (mOp fIxX (mVar 1) (mC (.int 1))) (mTup (mCons (mVar 6) (mNil)))) (mNil)))) (mNil)))) (gTupD 2 (gConsD (gSet 1) (gConsD (gSet 7) (gNilD))))) (mSeq (mIfS (mTest (mOp qL8 (mVar 4) asGs)) (mRet (mTup (mCons (mVar 1) (mCons (mCall (qb3 (qi5 .tup)) (mCons (mVar 7) (mNil))) (mNil))))) (mSkip)) (mSeq (mIfS (mTest (mOp fEq (mVar 5) (mC (.int 0)))) (mRet (mTup (mCons (mTup (mCons (mOp fIxX (mVar 1) (mC (.int 0))) (mCons (mCall (qb3 (qi5 .tup)) (mCons zz5 (mNil))) (mNil)))) (mCons (mCall (qb3 (qi5 .tup)) (mCons (mOp qc7 (mVar 7) (mLst (mCons (mTup (mCons (mC (.str "no")) (mCons (mVar 4) (mNil)))) (mNil)))) (mNil))) (mNil))))) (mSkip)) (mRet (mTup (mCons (mVar 1) (mCons (mCall (qb3 (qi5 .tup)) (mCons (mOp qc7 (mVar 7) (mLst (mCons (mTup (mCons (mC (.str "waits")) (mCons (mVar 4) (mNil)))) (mNil)))) (mNil))) (mNil)))))))))
noncomputable def q63:ME:=mComp (mItS (mVar 4)) (gSet 0) (mTrue) (mOp qc7 (mSlice (mVar 0) (mPartN) (mPart (mC (.int 3)))) (mTup (mCons (mIf (mTest (mOp fIs (mOp fIxX (mVar 0) (mC (.int 3))) (mC .non))) (mC .non) (mOp fSub (mOp fIxX (mVar 0) (mC (.int 3))) (mC (.int 1)))) (mNil)))) [none]
noncomputable def zx4:ME:=mComp (mItS (mVar 5)) (gSet 0) (mTest (mOp fEq (mOp fIxX (mVar 0) (mC (.int 3))) (mC (.int 0)))) (mTup (mCons (mC (.str "ends")) (mCons (mOp fIxX (mVar 0) (mC (.int 0))) (mNil)))) [none]
noncomputable def zx1:ME:=mComp (mItS (mVar 5)) (gSet 0) (mTest (mOp fNe (mOp fIxX (mVar 0) (mC (.int 3))) (mC (.int 0)))) (mVar 0) [none]
noncomputable def qZ3 (settled:PF):MS:=mSeq (mAsg q63 (gSet 5)) (mSeq (mAsg zx4 (gSet 6)) (mSeq (mAsg (mCallN 2 settled (mCons (mVar 0) (mCons (mTup (mCons (mVar 3) (mCons (mCall (qb3 (qi5 .tup)) (mCons zx1 (mNil))) (mNil)))) (mNil)))) (gTupD 2 (gConsD (gSet 1) (gConsD (gSet 7) (gNilD))))) (mRet (mTup (mCons (mVar 1) (mCons (mCall (qb3 (qi5 .tup)) (mCons (mOp qc7 (mVar 6) (mVar 7)) (mNil))) (mNil)))))))
noncomputable def q62:ME:=mOp qj3 (mLst (mCons (mTup (mCons (mIf (mTest (mOp fEq (mVar 8) (mC (.str "stop")))) (mC (.str "ends")) (mIf (mTest (mOp fEq (mVar 8) (mC (.str "down")))) (mC (.str "down")) (mC (.str "out")))) (mCons (mVar 9) (mNil)))) (mNil))) (mCall (qb3 qz9) (mCons (mOp fNe (mVar 8) (mC (.str "up"))) (mNil)))
noncomputable def q61:ME:=mOp fIxX (mDict [(mC (.str "up"),mC (.str "rising")),(mC (.str "down"),mC (.str "reads")),(mC (.str "leave"),mC (.str "out")),(mC (.str "stop"),mOp fIxX (mLst (mCons (mC (.str "out")) (mCons (mC (.str "reads")) (mNil)))) (mCall (qb3 qz9) (mCons (mOp fEq (mVar 10) (mC (.str "rising"))) (mNil))))]) (mVar 8)
noncomputable def zx0:ME:=mOp qj3 (mLst (mCons (mTup (mCons (mC (.str "waits")) (mCons (mVar 9) (mNil)))) (mNil))) (mCall (qb3 qz9) (mCons (mOp fEq (mOp fIxX (mOp fIxX (mVar 1) (mC (.int 0))) (mVar 9)) (mC (.str "rising"))) (mNil)))
noncomputable def zx3:ME:=mComp (mItS (mVar 4)) (gSet 0) (mTest (mOp fNe (mOp fIxX (mVar 0) (mC (.int 0))) (mVar 1))) (mVar 0) [none,some 9]
noncomputable def doAct (settled marked put:PF):MS:=mSeq (mAsg (mOp fIxX (mVar 3) (mVar 9)) (gSet 10)) (mSeq (mAsg q62 (gSet 11)) (mSeq (mIfS (mTest (mOp fIn (mVar 8) (mTup (mCons (mC (.str "down")) (mCons (mC (.str "leave")) (mNil)))))) (mAsg (mCallN 3 marked (mCons (mVar 0) (mCons (mVar 10) (mCons (mVar 4) (mNil))))) (gSet 4)) (mSkip)) (mSeq (mAsg (mCall (qb3 (qi5 .tup)) (mCons zx3 (mNil))) (gSet 4)) (mSeq (mAsg q61 (gSet 12)) (mSeq (mAsg (mCallN 2 settled (mCons (mVar 0) (mCons (mTup (mCons (mCallN 3 put (mCons (mVar 3) (mCons (mVar 9) (mCons (mVar 12) (mNil))))) (mCons (mVar 4) (mNil)))) (mNil)))) (gTupD 2 (gConsD (gSet 1) (gConsD (gSet 7) (gNilD))))) (mSeq (mAsg zx0 (gSet 13)) (mRet (mTup (mCons (mVar 1) (mCons (mCall (qb3 (qi5 .tup)) (mCons (mOp qc7 (mOp qc7 (mVar 11) (mVar 7)) (mVar 13)) (mNil))) (mNil)))))))))))
noncomputable def qs1 (can asked settled marked put:PF):MS:=
  mSeq (mIfS (mNotT (mTru (mCallN 2 can (mCons (mVar 1) (mCons (mVar 2) (mNil)))))) (mRet (mC .non)) (mSkip)) (mSeq (mAsg (mVar 1) (gTupD 2 (gConsD (gSet 3) (gConsD (gSet 4) (gNilD))))) (mSeq (mIfS (mTest (mOp fEq (mOp fIxX (mVar 2) (mC (.int 0))) (mC (.str "tick")))) (qZ3 settled) (mSkip)) (mSeq (mAsg (mSlice (mVar 2) (mPartN) (mPart (mC (.int 2)))) (gTupD 2 (gConsD (gSet 8) (gConsD (gSet 9) (gNilD))))) (mSeq (mIfS (mTest (mOp fIn (mVar 8) (mTup (mCons (mC (.str "read")) (mCons (mC (.str "write")) (mNil)))))) (mRet (mCallN 3 asked (mCons (mVar 0) (mCons (mVar 1) (mCons (mVar 2) (mNil)))))) (mSkip)) (mSeq (mIfS (mAndT (mTest (mOp fEq (mVar 8) (mC (.str "up")))) (mOrT (mTest (mOp fEq (mOp fIxX (mVar 0) (mC (.int 3))) (mC (.int 0)))) (mTest (mOp fIn (mC (.str "rising")) (mVar 3))))) (mRet (mTup (mCons (mVar 1) (mCons (mTup (mCons (mTup (mCons (mC (.str "no")) (mCons (mVar 9) (mNil)))) (mNil))) (mNil))))) (mSkip)) (doAct settled marked put))))))
end MI
namespace MI
open PySem PySem.Spec PyProof.Rows L2 M
noncomputable def qy1 (settled:PF):Prop:=∀ (S:qa0) (r:Rl) (R:Rm),ROk R→R.1.length≤50→settled [r.d,rmD R] S=some (.tup [rmD (qi0 r R).1,.ref S.length],S++[.lst ((qi0 r R).2.map Ev.d)])
theorem qN1 {r:Rl}:∀ (n:Nat) {R:Rm},(seL r n R).2.length≤n
  | 0,R=>Nat.le_refl _
  | n+1,R=>by
    have h1:=zj9 (r:=r) (R:=R)
    have h2:=qN1 (r:=r) n (R:=(stL r R).1)
    show ((stL r R).2++(seL r n (stL r R).1).2).length≤_
    rw [List.length_append];omega
section
variable {S:qa0} {ws:List Wd} {es:List En} {r:Rl} {R:Rm}
theorem qC4 {t:Option Int}:fEq S (qm2 t) (.int 0)=some (.bl (decide (t=some 0))):=by
  cases t with
  | none=>exact qG8 rfl rfl
  | some k=>
    show fEq S (.int k) (.int 0)=_
    rw [qB2];congr 2;rw [Bool.eq_iff_iff];simp
theorem fNe_left {t:Option Int}:fNe S (qm2 t) (.int 0)=some (.bl (!decide (t=some 0))):=by
  cases t with
  | none=>exact qL9 rfl rfl
  | some k=>
    show fNe S (.int k) (.int 0)=_
    rw [fNe_ii];congr 3;rw [Bool.eq_iff_iff];simp
theorem restC {g:Nat} {b:Option D} {cap:List (Option Nat)} {env:MEnv} (hc:capE cap env=[b,some (.int (g:Int))]) (hl:es.length≤100):qX7 (gSet 0) (mTest (mOp fNe (mOp fIxX (mVar 0) (mC (.int 0))) (mVar 1))) (mVar 0) cap env (es.map En.d,S)=some (.lst ((es.filter fun e=>decide (e.g≠g)).map En.d),S):=by
  exact qo6 (S:=S) (t:=mTest (mOp fNe (mOp fIxX (mVar 0) (mC (.int 0))) (mVar 1))) (e:=mVar 0) (cap:=cap) (env:=env) (rest:=[some (.int (g:Int))]) (a:=b) (enc:=En.d) (p:=fun e=>decide (e.g≠g)) (f:=En.d) (xs:=es) hc (by omega) (fun x _=>by
    have:(!((x.g:Int) == (g:Int)))=decide (x.g≠g):=by rw [Bool.eq_iff_iff];simp;omega
    simp [En.ix0,-beq_iff_eq,this]) (fun x _ _=>by simp)
theorem ev_seq {S:qa0} {l:List Ev}:qb3 (qi5 .tup) [.ref S.length] (S++[.lst (l.map Ev.d)])=some (evsD l,S++[.lst (l.map Ev.d)]):=qx4 qo0
theorem ev_add {S:qa0} {l:List Ev} {v:Ev} (h:l.length≤500):qc7 (S++[.lst (l.map Ev.d)]) (.ref S.length) (.lst [v.d])=some (.lst ((l++[v]).map Ev.d)):=by
  rw [zu5 (xs:=l.map Ev.d) (ys:=[v.d]) rfl (by simp only [qB5,qo0]) rfl (by simp;omega)];simp
theorem zu7 {S:qa0} {k l:List Ev} (h:l.length≤500) (h':k.length≤400):qc7 (S++[.lst (l.map Ev.d)]) (.lst (k.map Ev.d)) (.ref S.length)=some (.lst ((k++l).map Ev.d)):=by
  rw [zu5 (xs:=k.map Ev.d) (ys:=l.map Ev.d) rfl rfl (by simp only [qB5,qo0]) (by simp;omega)];simp
theorem zt5 {g:Nat}:qL8 S (.int (g:Int)) (.lst (es.map fun e=>.int (e.g:Int)))=some (.bl (!qf7 es g)):=by
  have h:=fIn_gs (S:=S) (es:=es) (g:=g)
  have ok:(es.map fun e=>D.int (e.g:Int)).all (okD 39)=true:=by rw [List.all_eq_true];intro d hd;obtain ⟨e,_,rfl⟩:=List.mem_map.mp hd;rfl
  rw [qB0 (ys:=es.map fun e=>D.int (e.g:Int)) rfl rfl ok] at h
  rw [zt4 (ys:=es.map fun e=>D.int (e.g:Int)) rfl rfl ok]
  simp only [Option.some.injEq,D.bl.injEq] at h
  rw [h]
theorem zz3 {settled:PF} (O:qy1 settled) {N:List Str} (hN:N.length=8) {wr:Bool} {g:Nat} {t:Option Int} (h:ROk R) (hl:R.1.length≤50) (hw:R.1[g]?=some .out) (hs:qf7 R.2 g=false) :
    ∃ T,runM N (qP4 settled) 3 [r.d,rmD R,(Dd.ask wr g t).d] S=some (.tup [rmD (askL r R wr g t).1,evsD (askL r R wr g t).2],S++T):=by
  have hst:qc0 N [r.d,rmD R,(Dd.ask wr g t).d]=[some r.d,some (rmD R),some (Dd.ask wr g t).d,none,none,none,none,none]:=by simp [qc0,hN,List.replicate]
  rw [qf8 (show [r.d,rmD R,(Dd.ask wr g t).d].length=3 from rfl),hst]
  have hA:=zz4 (wr:=wr) (t:=t) h hw hs
  have hO:=O S r (R.1,R.2++[askE wr g t]) hA hl
  obtain ⟨q1,q2⟩:=qn0 (r:=r) hA
  have qf:(qi0 r (R.1,R.2++[askE wr g t])).2.length≤100:=Nat.le_trans (qN1 _) (by show 2 * R.1.length≤100;omega)
  have ql:(qi0 r (R.1,R.2++[askE wr g t])).1.2.length≤50:=Nat.le_trans q1.len (by rw [q2];exact hl)
  unfold askL
  generalize hE:qi0 r (R.1,R.2++[askE wr g t])=A at *
  obtain ⟨R',evs⟩:=A
  dsimp only at *
  have k2:∀ S (x y:D),kTup ([x,y],S)=some (.tup [x,y],S):=fun S x y=>qd3 (by simp)
  have k1:∀ S (x:D),kTup ([x],S)=some (.tup [x],S):=fun S x=>qd3 (by simp)
  have l1:∀ S (x:D),kLst ([x],S)=some (.lst [x],S):=fun S x=>qi8 (by simp)
  have k4:∀ S (x y z w:D),kTup ([x,y,z,w],S)=some (.tup [x,y,z,w],S):=fun S x y z w=>qd3 (by simp)
  have g3:∀ env S,gTupD 3 (gConsD (gSet 3) (gConsD (gSet 4) (gConsD (gSet 5) (gNilD)))) (Dd.ask wr g t).d env S=(gConsD (gSet 3) (gConsD (gSet 4) (gConsD (gSet 5) (gNilD)))) [.str (qh0 wr),.int (g:Int),qm2 t] env S:=fun env S=>gTupD_3
  have kif:∀ env:MEnv,kIf (mC (.int 1)) (mVar 5) [some r.d,some (rmD R),some (Dd.ask wr g t).d,some (.str (qh0 wr)),some (.int (g:Int)),some (qm2 t),none,none] (decide (t=some 0),S)=some (qm2 (if t=some 0 then some 1 else t),S):=fun env=>by
    by_cases ht:t=some 0
    · simp [ht];rfl
    · simp [ht]
  have ad:∀ S,qc7 S (esD R.2) (.tup [.tup [.int (g:Int),.str (qh0 wr),.int 0,qm2 (if t=some 0 then some 1 else t)]])=some (esD (R.2++[askE wr g t])):=fun S=>by
    have:=h.len
    rw [show esD R.2=.tup (R.2.map En.d) from rfl,qx5 (by simp;omega)]
    unfold esD;rw [List.map_append];rfl
  have hO':settled [r.d,.tup [wsD R.1,esD (R.2++[askE wr g t])]] S=some (.tup [rmD R',.ref S.length],S++[.lst (evs.map Ev.d)]):=hO
  have gs:∀ (T:qa0) (a6:Option D),asGs [some r.d,some (rmD R'),some (Dd.ask wr g t).d,some (.str (qh0 wr)),some (.int (g:Int)),some (qm2 t),a6,some (.ref S.length)] T=some (.lst (R'.2.map fun e=>.int (e.g:Int)),T):=fun T a6=>by
    simp only [asGs,qh1,qo4,qd2,qa5,lg0,lg1,lgS,oj,ob,qa6,qb1,mC_s,qb2,Rm.ix1,qA2,gsC (es:=R'.2) (cap:=[none]) (env:=[some r.d,some (rmD R'),some (Dd.ask wr g t).d,some (.str (qh0 wr)),some (.int (g:Int)),some (qm2 t),a6,some (.ref S.length)]) rfl (by omega)]
  have rs:∀ (T:qa0) (a6:Option D),zz5 [some r.d,some (rmD R'),some (Dd.ask wr g t).d,some (.str (qh0 wr)),some (.int (g:Int)),some (qm2 t),a6,some (.ref S.length)] T=some (.lst ((R'.2.filter fun e=>decide (e.g≠g)).map En.d),T):=fun T a6=>by
    simp only [zz5,qh1,qo4,qd2,qa5,lg0,lg1,lgS,oj,ob,qa6,qb1,mC_s,qb2,Rm.ix1,qA2,restC (es:=R'.2) (g:=g) (cap:=[none,some 4]) (env:=[some r.d,some (rmD R'),some (Dd.ask wr g t).d,some (.str (qh0 wr)),some (.int (g:Int)),some (qm2 t),a6,some (.ref S.length)]) rfl (by omega)]
  have no:∀ w:Str,qc7 (S++[.lst (evs.map Ev.d)]) (.ref S.length) (.lst [.tup [.str w,.int (g:Int)]])=some (.lst ((evs++[Ev.mk w g]).map Ev.d)):=fun w=>ev_add (v:=⟨w,g⟩) (by omega)
  refine ⟨[.lst (evs.map Ev.d)],?_⟩
  simp only [qP4,qd6,qg1,qa5,lg0,lg1,lgS,oj,ob,qa6,qg2,g3,qh5,qd0,qv3,ql0,ls0,lsS,qk0,qc1,qf9,qa7,qa4,mC_s,mIf_s,qb7,qd2,qb1,qb2,qC4,qb6,kif [],qb0,qa3,k4,qc6,Rm.ix0,Rm.ix1,k1,ad,k2,qd8,hO',qm3,qe9,gs,zt5]
  cases hb:qf7 R'.2 g with
  | false=>simp only [Bool.not_false,qj6,qg5,qf9,qa7,qa5,lg0,lg1,lgS,oj,ob,qa6,qa4,qf0,qb0,qa3,qf1,ev_seq,k2,qj9,qk9,qd7,if_pos]
  | true=>
    simp only [Bool.not_true,qi3,qg0,ob,qc1,reduceCtorEq,if_neg,not_false_eq_true]
    by_cases ht:t=some 0
    · have fe:∀ S,fEq S (qm2 t) (.int 0)=some (.bl true):=fun S=>by rw [qC4,decide_eq_true ht]
      simp only [if_pos ht,qd6,qe9,qb7,fe,qb6,qj6,qg5,qf9,qa7,qa5,lg0,lg1,lgS,oj,ob,qa6,qa4,qd2,qb1,mC_s,qb2,Rm.ix0,qf0,rs,qb0,qa3,qf1,qn5,k2,qr0,l1,no,qj9,qk9,qd7]
      rfl
    · have fe:∀ S,fEq S (qm2 t) (.int 0)=some (.bl false):=fun S=>by rw [qC4,decide_eq_false ht]
      simp only [if_neg ht,qd6,qe9,qb7,fe,qb6,qi3,qg0,ob,qc1,qg5,qf9,qa7,qa5,lg0,lg1,lgS,oj,qa6,qa4,qd2,qb1,mC_s,qb2,qf0,qb0,qa3,qf1,qn5,k2,qr0,l1,no,qj9,qd7]
      rfl
end
end MI
namespace MI
open PySem PySem.Spec PyProof.Rows L2 M
structure DoOk (can asked settled marked put:PF):Prop where
  c:∀ (S:qa0) (R:Rm) (dd:Dd),R.2.length≤60→dd.Ok R.1.length→∃ T,can [rmD R,dd.d] S=some (.bl (canB R dd),S++T)
  a:∀ (S:qa0) (r:Rl) (R:Rm) (wr:Bool) (g:Nat) (t:Option Int),ROk R→R.1.length≤50→R.1[g]?=some .out→qf7 R.2 g=false→∃ T,asked [r.d,rmD R,(Dd.ask wr g t).d] S=some (.tup [rmD (askL r R wr g t).1,evsD (askL r R wr g t).2],S++T)
  s:qy1 settled
  m:∀ (S:qa0) (r:Rl) (w:Wd) (es:List En),es.length≤60→marked [r.d,w.d,esD es] S=some (esD (mkL r w es),S)
  p:∀ (S:qa0) (ws:List Wd) (i:Nat) (w:Wd),i<ws.length→ws.length≤100→put [wsD ws,.int (i:Int),w.d] S=some (wsD (ws.set i w),S)
section
variable {S:qa0} {ws:List Wd} {es:List En} {r:Rl} {R:Rm}
theorem decT_d {e:En}:(mOp qc7 (mSlice (mVar 0) (mPartN) (mPart (mC (.int 3)))) (mTup (mCons (mIf (mTest (mOp fIs (mOp fIxX (mVar 0) (mC (.int 3))) (mC .non))) (mC .non) (mOp fSub (mOp fIxX (mVar 0) (mC (.int 3))) (mC (.int 1)))) (mNil)))) [some e.d] S=some ((decT e).d,S):=by
  have c1:kSl3 e.d none (some 3,S)=some (.tup [.int (e.g:Nat),.str (qh0 e.wr),.int e.m],S):=rfl
  have k1:∀ x,kTup ([x],S)=some (.tup [x],S):=fun x=>qd3 (by simp)
  have a2:∀ x y z w,qc7 S (.tup [x,y,z]) (.tup [w])=some (.tup [x,y,z,w]):=fun x y z w=>qx5 (by simp)
  have cu:∀ a b c d:D,cutL [a,b,c,d] none (some 3)=[a,b,c]:=fun _ _ _ _=>rfl
  obtain ⟨g,wr,m,t⟩:=e
  cases t with
  | none=>simp [at4,cu,qm2,isD,k1,a2,decT,En.d]
  | some k=>simp [at4,cu,qm2,isD,k1,a2,decT,En.d]
theorem zw8 {settled:PF} (O:qy1 settled) {a2 a5 a6 a7 a8 a9 b0 b1 b2 b3:Option D} (h:ROk R) (hl:R.1.length≤50) :
    ∃ T,(qZ3 settled [some r.d,some (rmD R),a2,some (wsD R.1),some (esD R.2),a5,a6,a7,a8,a9,b0,b1,b2,b3] S).bind outM=some (.tup [rmD (ze2 r R).1,evsD (ze2 r R).2],S++T)∧qZ3 settled [some r.d,some (rmD R),a2,some (wsD R.1),some (esD R.2),a5,a6,a7,a8,a9,b0,b1,b2,b3] S=some (.rt (.tup [rmD (ze2 r R).1,evsD (ze2 r R).2]) (S++T)):=by
  have hle:=h.len
  have f1:q63 [some r.d,some (rmD R),a2,some (wsD R.1),some (esD R.2),a5,a6,a7,a8,a9,b0,b1,b2,b3] S=some (.lst ((R.2.map decT).map En.d),S):=by
    have k:=qo6 (S:=S) (t:=mTrue) (e:=mOp qc7 (mSlice (mVar 0) (mPartN) (mPart (mC (.int 3)))) (mTup (mCons (mIf (mTest (mOp fIs (mOp fIxX (mVar 0) (mC (.int 3))) (mC .non))) (mC .non) (mOp fSub (mOp fIxX (mVar 0) (mC (.int 3))) (mC (.int 1)))) (mNil)))) (cap:=[none]) (env:=[some r.d,some (rmD R),a2,some (wsD R.1),some (esD R.2),a5,a6,a7,a8,a9,b0,b1,b2,b3]) (rest:=[]) (a:=none) (enc:=En.d) (p:=fun _=>true) (f:=fun e=>(decT e).d) (xs:=R.2) rfl (by omega) (fun x _=>qo9) (fun x _ _=>decT_d)
    rw [List.filter_eq_self.mpr (fun _ _=>rfl)] at k
    simp only [q63,qh1,qo4,qa5,lg0,lg1,lgS,oj,ob,qa6,qA2,k,List.map_map]
    rfl
  generalize hF:R.2.map decT=fs at f1
  have hfl:fs.length≤50:=by rw [← hF,List.length_map];omega
  have k2:∀ S (x y:D),kTup ([x,y],S)=some (.tup [x,y],S):=fun S x y=>qd3 (by simp)
  have f2:zx4 [some r.d,some (rmD R),a2,some (wsD R.1),some (esD R.2),some (.lst (fs.map En.d)),a6,a7,a8,a9,b0,b1,b2,b3] S=some (.lst (((fs.filter fun e=>decide (e.t=some 0)).map fun e=>Ev.mk "ends" e.g).map Ev.d),S):=by
    have k:=qo6 (S:=S) (t:=mTest (mOp fEq (mOp fIxX (mVar 0) (mC (.int 3))) (mC (.int 0)))) (e:=mTup (mCons (mC (.str "ends")) (mCons (mOp fIxX (mVar 0) (mC (.int 0))) (mNil)))) (cap:=[none]) (env:=[some r.d,some (rmD R),a2,some (wsD R.1),some (esD R.2),some (.lst (fs.map En.d)),a6,a7,a8,a9,b0,b1,b2,b3]) (rest:=[]) (a:=none) (enc:=En.d) (p:=fun e=>decide (e.t=some 0)) (f:=fun e=>(Ev.mk "ends" e.g).d) (xs:=fs) rfl (by omega) (fun x _=>by simp [En.ix3,qC4]) (fun x _ _=>by simp [En.ix0,k2,Ev.d])
    simp only [zx4,qh1,qo4,qa5,lg0,lg1,lgS,oj,ob,qa6,kItS_l,k,List.map_map]
    rfl
  have f3:∀ a6,zx1 [some r.d,some (rmD R),a2,some (wsD R.1),some (esD R.2),some (.lst (fs.map En.d)),a6,a7,a8,a9,b0,b1,b2,b3] S=some (.lst ((fs.filter fun e=>decide (e.t≠some 0)).map En.d),S):=fun a6=>by
    have k:=qo6 (S:=S) (t:=mTest (mOp fNe (mOp fIxX (mVar 0) (mC (.int 3))) (mC (.int 0)))) (e:=mVar 0) (cap:=[none]) (env:=[some r.d,some (rmD R),a2,some (wsD R.1),some (esD R.2),some (.lst (fs.map En.d)),a6,a7,a8,a9,b0,b1,b2,b3]) (rest:=[]) (a:=none) (enc:=En.d) (p:=fun e=>decide (e.t≠some 0)) (f:=En.d) (xs:=fs) rfl (by omega) (fun x _=>by simp [En.ix3,fNe_left]) (fun x _ _=>by simp)
    simp only [zx1,qh1,qo4,qa5,lg0,lg1,lgS,oj,ob,qa6,kItS_l,k]
  have hA:ROk (R.1,fs.filter fun e=>decide (e.t≠some 0)):=by rw [← hF];exact ROk.filter (ROk.mapE h decT fun e=>rfl) _
  have hO:=O S r (R.1,fs.filter fun e=>decide (e.t≠some 0)) hA hl
  have qf:(qi0 r (R.1,fs.filter fun e=>decide (e.t≠some 0))).2.length≤100:=Nat.le_trans (qN1 _) (by show 2 * R.1.length≤100;omega)
  unfold ze2
  rw [hF]
  generalize hE:qi0 r (R.1,fs.filter fun e=>decide (e.t≠some 0))=A at *
  obtain ⟨R',evs⟩:=A
  dsimp only at *
  have hO':settled [r.d,.tup [wsD R.1,.tup ((fs.filter fun e=>decide (e.t≠some 0)).map En.d)]] S=some (.tup [rmD R',.ref S.length],S++[.lst (evs.map Ev.d)]):=hO
  have ad:=zu7 (S:=S) (k:=(fs.filter fun e=>decide (e.t=some 0)).map fun e=>Ev.mk "ends" e.g) (l:=evs) (by omega) (by rw [List.length_map];exact Nat.le_trans (List.length_filter_le _ _) (by omega))
  have key:qZ3 settled [some r.d,some (rmD R),a2,some (wsD R.1),some (esD R.2),a5,a6,a7,a8,a9,b0,b1,b2,b3] S=some (.rt (.tup [rmD R',evsD (((fs.filter fun e=>decide (e.t=some 0)).map fun e=>Ev.mk "ends" e.g)++evs)]) (S++[.lst (evs.map Ev.d)])):=by
    simp only [qZ3,qd6,qg1,f1,ob,qg2,qd0,ls0,lsS,qk0,qc1,f2,qc6,qa7,qa5,lg0,lg1,lgS,oj,qa6,qa4,qf9,qf0,f3,qb0,qa3,qf1,qn5,k2,qd8,hO',qm3,qh5,qv3,ql0,qg5,qd2,qb1,qb2,ad,qj9]
    rfl
  exact ⟨[.lst (evs.map Ev.d)],by rw [key,ob,qd7],key⟩
theorem zt9 {xs:List D} {k:Int} (h0:0≤k) (h1:k≤100000) (h:xs.length * k.toNat≤1000):qj3 S (.lst xs) (.int k)=some (.lst (List.replicate k.toNat xs).flatten):=if_pos ⟨by omega,by omega,sz h⟩
theorem fMul_1 {x:D} {b:Bool}:qj3 S (.lst [x]) (.int (if b=true then 1 else 0))=some (.lst (if b=true then [x] else [])):=by
  cases b
  · exact zt9 (by decide) (by decide) (by simp)
  · exact zt9 (by decide) (by decide) (by simp)
theorem akS (k j:Ak):(k.s == j.s)=decide (k=j):=by cases k <;> cases j <;> decide +kernel
theorem zc6 {k j:Ak}:fEq S (.str k.s) (.str j.s)=some (.bl (decide (k=j))):=by rw [qn6,akS]
theorem zh9 {k:Ak} {g:Nat} {a0 a1 a2 a3 a4 a5 a6 a7 b0 b1 b2 b3:Option D}:q62 [a0,a1,a2,a3,a4,a5,a6,a7,some (.str k.s),some (.int (g:Int)),b0,b1,b2,b3] S=some (.lst ((qu3 k g).map Ev.d),S):=by
  have e1:fEq S (.str k.s) (.str "stop")=some (.bl (decide (k=.stop))):=zc6 (j:=.stop)
  have e2:fEq S (.str k.s) (.str "down")=some (.bl (decide (k=.down))):=zc6 (j:=.down)
  have e3:fNe S (.str k.s) (.str "up")=some (.bl (!decide (k=.up))):=by rw [zt7];exact congrArg (fun b=>some (D.bl (!b))) (akS k .up)
  have k2:∀ S (x y:D),kTup ([x,y],S)=some (.tup [x,y],S):=fun S x y=>qd3 (by simp)
  have l1:∀ S (x:D),kLst ([x],S)=some (.lst [x],S):=fun S x=>qi8 (by simp)
  cases k <;> simp only [q62,qd2,qr0,qa7,qf9,mIf_s,qb7,qa5,lg0,lg1,lgS,oj,ob,qa6,qb1,mC_s,qb2,e1,e2,e3,qb6,reduceCtorEq,decide_false,decide_true,kIf_t,kIf_f,qa4,qb0,qa3,k2,l1,qf0,qf1,qG7,fMul_1,qu3] <;> rfl
theorem zh8 {k:Ak} {w:Wd} {a0 a1 a2 a3 a4 a5 a6 a7 a9 b1 b2 b3:Option D}:q61 [a0,a1,a2,a3,a4,a5,a6,a7,some (.str k.s),a9,some w.d,b1,b2,b3] S=some ((qr5 k w).d,S):=by
  have e1:fEq S w.d (.str "rising")=some (.bl (decide (w=.rising))):=qB1 (b:=.rising)
  have l2:∀ S (x y:D),kLst ([x,y],S)=some (.lst [x,y],S):=fun S x y=>qi8 (by simp)
  have ix:fIxX S (.lst [.str "out",.str "reads"]) (.int (if decide (w=.rising)=true then 1 else 0))=some (if w=.rising then Wd.reads else Wd.out).d:=by by_cases h:w=.rising <;> simp [h] <;> rfl
  have kd:∀ x,q53 ([(.inr "up",.str "rising"),(.inr "down",.str "reads"),(.inr "leave",.str "out"),(.inr "stop",x)],S)=some (.dct ([((Sum.inr "up":Key),D.str "rising"),(.inr "down",.str "reads"),(.inr "leave",.str "out"),(.inr "stop",x)].map (·.1)) ([((Sum.inr "up":Key),D.str "rising"),(.inr "down",.str "reads"),(.inr "leave",.str "out"),(.inr "stop",x)].map (·.2)),S):=fun x=>zb4 (show [(Sum.inr "up":Key),.inr "down",.inr "leave",.inr "stop"].Nodup by decide +kernel) (by show 4≤15;decide)
  have fx:∀ x,fIxX S (.dct ([((Sum.inr "up":Key),D.str "rising"),(.inr "down",.str "reads"),(.inr "leave",.str "out"),(.inr "stop",x)].map (·.1)) ([((Sum.inr "up":Key),D.str "rising"),(.inr "down",.str "reads"),(.inr "leave",.str "out"),(.inr "stop",x)].map (·.2))) (.str k.s)=some (match k with | .up=>.str "rising" | .down=>.str "reads" | .leave=>.str "out" | .stop=>x):=fun x=>by
    rw [fIx_d zq3];cases k <;> simp (decide:=true) [Ak.s]
  simp only [q61,qd2,zp6,qu8,mC_s,ob,zr0,zq9,qr0,qa7,qa4,qb0,qa3,l2,qb1,qf0,qa5,lg0,lg1,lgS,oj,qa6,qb2,e1,qf1,qG7,ix,qy6,zq8,kd,fx]
  cases k <;> rfl
theorem zw9 {g:Nat} {R':Rm} {w:Wd} {a0 a2 a3 a4 a5 a6 a7 a8 b0 b1 b2 b3:Option D} (hw:R'.1[g]?=some w):zx0 [a0,some (rmD R'),a2,a3,a4,a5,a6,a7,a8,some (.int (g:Int)),b0,b1,b2,b3] S=some (.lst ((if w=.rising then [Ev.mk "waits" g] else []).map Ev.d),S):=by
  have k2:∀ S (x y:D),kTup ([x,y],S)=some (.tup [x,y],S):=fun S x y=>qd3 (by simp)
  have l1:∀ S (x:D),kLst ([x],S)=some (.lst [x],S):=fun S x=>qi8 (by simp)
  have x1:fIxX S (wsD R'.1) (.int (g:Int))=some w.d:=zd8 hw
  have e1:fEq S w.d (.str "rising")=some (.bl (decide (w=.rising))):=qB1 (b:=.rising)
  simp only [zx0,qd2,qr0,qa7,qf9,mC_s,ob,qa4,qa5,lg0,lg1,lgS,oj,qa6,qb0,qa3,k2,l1,qb1,qf0,qb2,Rm.ix0,x1,e1,qf1,qG7,fMul_1]
  by_cases h:w=.rising <;> simp [h] <;> rfl
theorem zx2 {g:Nat} {a0 a1 a2 a3 a5 a6 a7 a8 b0 b1 b2 b3:Option D} (hl:es.length≤100):zx3 [a0,a1,a2,a3,some (esD es),a5,a6,a7,a8,some (.int (g:Int)),b0,b1,b2,b3] S=some (.lst ((es.filter fun e=>decide (e.g≠g)).map En.d),S):=by
  simp only [zx3,qh1,qo4,qa5,lg0,lg1,lgS,oj,ob,qa6,qA2,restC (es:=es) (g:=g) (cap:=[none,some 9]) (env:=[a0,a1,a2,a3,some (esD es),a5,a6,a7,a8,some (.int (g:Int)),b0,b1,b2,b3]) rfl hl]
theorem fIn_ak {k:Ak}:fIn S (.str k.s) (.tup [.str "down",.str "leave"])=some (.bl (decide (k=.down∨k=.leave))):=by
  have h:([D.str "down",D.str "leave"].any fun d=>eqD d (.str k.s))=decide (k=.down∨k=.leave):=by cases k <;> decide +kernel
  rw [qB0 (ys:=[.str "down",.str "leave"]) rfl rfl rfl,h]
theorem mkL_len {w:Wd}:(mkL r w es).length=es.length:=by unfold mkL;split <;> simp
theorem doAct_eq {can asked settled marked put:PF} (O:DoOk can asked settled marked put) {k:Ak} {g:Nat} {w:Wd} {a2 a5 a6 a7 b0 b1 b2 b3:Option D} (h:ROk R) (hl:R.1.length≤50) (hw:R.1[g]?=some w) :
    ∃ T,doAct settled marked put [some r.d,some (rmD R),a2,some (wsD R.1),some (esD R.2),a5,a6,a7,some (.str k.s),some (.int (g:Int)),b0,b1,b2,b3] S=some (.rt (.tup [rmD (actL r R k g w).1,evsD (actL r R k g w).2]) (S++T)):=by
  have hle:=h.len
  have hg:g<R.1.length:=(List.getElem?_eq_some_iff.mp hw).1
  have x1:∀ S,fIxX S (wsD R.1) (.int (g:Int))=some w.d:=fun S=>zd8 hw
  have k2:∀ S (x y:D),kTup ([x,y],S)=some (.tup [x,y],S):=fun S x y=>qd3 (by simp)
  have mk:∀ env S,env=[some r.d,some (rmD R),a2,some (wsD R.1),some (esD R.2),a5,a6,a7,some (.str k.s),some (.int (g:Int)),some w.d,some (.lst ((qu3 k g).map Ev.d)),b2,b3]→mIfS (mTest (mOp fIn (mVar 8) (mTup (mCons (mC (.str "down")) (mCons (mC (.str "leave")) (mNil)))))) (mAsg (mCallN 3 marked (mCons (mVar 0) (mCons (mVar 10) (mCons (mVar 4) (mNil))))) (gSet 4)) (mSkip) env S=some (.nx [some r.d,some (rmD R),a2,some (wsD R.1),some (esD (if k=.down∨k=.leave then mkL r w R.2 else R.2)),a5,a6,a7,some (.str k.s),some (.int (g:Int)),some w.d,some (.lst ((qu3 k g).map Ev.d)),b2,b3] S):=fun env S he=>by
    subst he
    simp only [qe9,qb7,qd2,qa5,lg0,lg1,lgS,oj,ob,qa6,qb1,qf9,qa7,mC_s,qa4,qb0,qa3,k2,qb2,fIn_ak,qb6]
    by_cases hk:k=.down∨k=.leave
    · rw [decide_eq_true hk,if_pos hk]
      simp only [qj6,qg1,qc6,qa7,qa5,lg0,lg1,lgS,oj,ob,qa6,qa4,qb0,qa3,qo8,O.m S r w R.2 (by omega),qg2,qd0,ls0,lsS,qk0]
    · rw [decide_eq_false hk,if_neg hk]
      simp only [qi3,qg0]
  have hel:(if k=.down∨k=.leave then mkL r w R.2 else R.2).length≤100:=by split <;> (try rw [mkL_len]) <;> omega
  have hA:=zz6 (r:=r) (k:=k) (w:=w) (g:=g) h (qr5 k w)
  have hO:=O.s S r (R.1.set g (qr5 k w),actE r k w g R.2) hA (by simp;exact hl)
  obtain ⟨q1,q2⟩:=qn0 (r:=r) hA
  have qf:(qi0 r (R.1.set g (qr5 k w),actE r k w g R.2)).2.length≤100:=Nat.le_trans (qN1 _) (by show 2 * (R.1.set g (qr5 k w)).length≤100;rw [List.length_set];omega)
  have pp:∀ S,put [wsD R.1,.int (g:Int),(qr5 k w).d] S=some (wsD (R.1.set g (qr5 k w)),S):=fun S=>O.p S R.1 g _ hg (by omega)
  unfold actL
  generalize hE:qi0 r (R.1.set g (qr5 k w),actE r k w g R.2)=A at *
  obtain ⟨R',evs⟩:=A
  dsimp only at *
  have hg':g<R'.1.length:=by rw [q2,List.length_set];exact hg
  have hw':R'.1[g]?=some R'.1[g]:=List.getElem?_eq_getElem hg'
  have hO':settled [r.d,.tup [wsD (R.1.set g (qr5 k w)),.tup (((if k=.down∨k=.leave then mkL r w R.2 else R.2).filter fun e=>decide (e.g≠g)).map En.d)]] S=some (.tup [rmD R',.ref S.length],S++[.lst (evs.map Ev.d)]):=hO
  have fl:(qu3 k g).length≤1:=by cases k <;> simp [qu3]
  have ad:=zu7 (S:=S) (k:=qu3 k g) (l:=evs) (by omega) (by omega)
  have ad2:qc7 (S++[.lst (evs.map Ev.d)]) (.lst ((qu3 k g++evs).map Ev.d)) (.lst ((if R'.1[g]=.rising then [Ev.mk "waits" g] else []).map Ev.d))=some (.lst ((qu3 k g++evs++(if R'.1[g]=.rising then [Ev.mk "waits" g] else [])).map Ev.d)):=by
    rw [zu4 (by rw [List.length_map,List.length_map,List.length_append];split <;> simp <;> omega),← List.map_append]
  refine ⟨[.lst (evs.map Ev.d)],?_⟩
  rw [hw']
  simp only [doAct,qd6,qg1,qd2,qa5,lg0,lg1,lgS,oj,ob,qa6,qb1,qb2,x1,qg2,qd0,ls0,lsS,qk0,qc1,zh9,mk _ _ rfl,qf0,qa7,zx2 hel,qa4,qb0,qa3,qf1,qn5,zh8,qc6,qf9,qo8,pp,k2,qd8,hO',qm3,qh5,qv3,ql0,zw9 hw',qg5,ad,ad2,qj9,Option.some.injEq]
  rfl
theorem qS9 {S:qa0}:fIn S (.str "rising") (wsD ws)=some (.bl (decide (Wd.rising∈ws))):=by
  rw [qB0 (ys:=ws.map Wd.d) rfl rfl okWs]
  congr 2
  rw [List.any_map]
  induction ws with
  | nil=>rfl
  | cons a l ih=>
    rw [List.any_cons,ih]
    show (eqD a.d (Wd.rising).d||_)=_
    rw [eqWd,Bool.eq_iff_iff]
    simp
    constructor
    · rintro (h | h)
      · exact .inl h.symm
      · exact .inr h
    · rintro (h | h)
      · exact .inl h.symm
      · exact .inr h
theorem zd1 {dd:Dd} (h:dd≠.tick):(qn7 dd == ("tick":Str))=false:=by
  cases dd with
  | tick=>exact absurd rfl h
  | ask wr g t=>show (qh0 wr == ("tick":Str))=false;cases wr <;> decide +kernel
  | act k g=>show (k.s == ("tick":Str))=false;cases k <;> decide +kernel
theorem fIn_rw {x:Str} {b:Bool} (hb:([D.str "read",D.str "write"].any fun d=>eqD d (.str x))=b):fIn S (.str x) (.tup [.str "read",.str "write"])=some (.bl b):=by
  rw [qB0 (ys:=[.str "read",.str "write"]) rfl rfl rfl,hb]
noncomputable def qZ2:Option (Rm×List Ev)→D
  | none=>.non
  | some x=>.tup [rmD x.1,evsD x.2]
theorem done_gen {can asked settled marked put:PF} (O:DoOk can asked settled marked put) {N:List Str} (hN:N.length=14) {dd:Dd} (h:ROk R) (hl:R.1.length≤50) (hd:dd.Ok R.1.length) :
    ∃ T,runM N (qs1 can asked settled marked put) 3 [r.d,rmD R,dd.d] S=some (qZ2 (q60 r R dd),S++T):=by
  have hst:qc0 N [r.d,rmD R,dd.d]=[some r.d,some (rmD R),some dd.d,none,none,none,none,none,none,none,none,none,none,none]:=by simp [qc0,hN,List.replicate]
  rw [qf8 (show [r.d,rmD R,dd.d].length=3 from rfl),hst]
  have hle:=h.len
  obtain ⟨T0,hc⟩:=O.c S R dd (by omega) hd
  have g2:∀ env S,gTupD 2 (gConsD (gSet 3) (gConsD (gSet 4) (gNilD))) (rmD R) env S=(gConsD (gSet 3) (gConsD (gSet 4) (gNilD))) [wsD R.1,esD R.2] env S:=fun env S=>qm3
  have k2:∀ S (x y:D),kTup ([x,y],S)=some (.tup [x,y],S):=fun S x y=>qd3 (by simp)
  have k1:∀ S (x:D),kTup ([x],S)=some (.tup [x],S):=fun S x=>qd3 (by simp)
  unfold q60
  cases hb:canB R dd with
  | false=>
    rw [hb] at hc
    refine ⟨T0,?_⟩
    simp only [qs1,qd6,qe9,qu9,qt8,qc6,qa7,qa5,lg0,lg1,lgS,oj,ob,qa6,qa4,qb0,qa3,qd8,hc,qu1,qv2,Bool.not_false,qj6,qg5,mC_s,qj9,qk9,qd7,if_pos,qZ2]
  | true=>
    rw [hb] at hc
    rw [if_neg (by decide)]
    by_cases ht:dd=.tick
    · subst ht
      have xt:∀ S,fIxX S (Dd.tick).d (.int 0)=some (.str "tick"):=fun S=>rfl
      have et:∀ S,fEq S (.str "tick") (.str "tick")=some (.bl true):=fun S=>by rw [qn6,beq_self_eq_true]
      obtain ⟨T,_,e⟩:=zw8 O.s (S:=S++T0) (r:=r) (R:=R) (a2:=some (Dd.tick).d) (a5:=none) (a6:=none) (a7:=none) (a8:=none) (a9:=none) (b0:=none) (b1:=none) (b2:=none) (b3:=none) h hl
      refine ⟨T0++T,?_⟩
      simp only [qs1,qd6,qe9,qu9,qt8,qc6,qa7,qa5,lg0,lg1,lgS,oj,ob,qa6,qa4,qb0,qa3,qd8,hc,qu1,qv2,Bool.not_true,qi3,qg0,qc1,qg1,qg2,g2,qh5,qd0,qv3,ql0,ls0,lsS,qk0,qb7,qd2,qb1,mC_s,qb2,xt,et,qb6,qj6,e,qk9,qd7,List.append_assoc,qZ2]
    · have et0:=zd1 ht
      cases dd with
      | tick=>exact absurd rfl ht
      | ask wr g t=>
        have x0:∀ S,fIxX S (Dd.ask wr g t).d (.int 0)=some (.str (qh0 wr)):=fun S=>rfl
        have et:∀ S,fEq S (.str (qh0 wr)) (.str "tick")=some (.bl false):=fun S=>by rw [qn6];exact congrArg (fun b=>some (D.bl b)) et0
        have sl:∀ S,kSl3 (Dd.ask wr g t).d none (some 2,S)=some (.tup [.str (qh0 wr),.int (g:Int)],S):=fun S=>rfl
        simp only [canB,Bool.and_eq_true,decide_eq_true_eq,Bool.not_eq_true'] at hb
        obtain ⟨T,e⟩:=O.a (S++T0) r R wr g t h hl hb.1 hb.2
        have fi:∀ S,fIn S (.str (qh0 wr)) (.tup [.str "read",.str "write"])=some (.bl true):=fun S=>fIn_rw (by cases wr <;> decide +kernel)
        refine ⟨T0++T,?_⟩
        simp only [qs1,qd6,qe9,qu9,qt8,qc6,qa7,qa5,lg0,lg1,lgS,oj,ob,qa6,qa4,qb0,qa3,qd8,hc,qu1,qv2,Bool.not_true,qi3,qg0,qc1,qg1,qg2,g2,qh5,qd0,qv3,ql0,ls0,lsS,qk0,qb7,qd2,qb1,mC_s,qb2,x0,et,qb6,qj8,qs3,qk8,qs2,qn3,qn4,sl,qm3,qf9,k2,fi,qj6,qg5,qo8,e,qj9,qk9,qd7,List.append_assoc,qZ2]
      | act k g=>
        have x0:∀ S,fIxX S (Dd.act k g).d (.int 0)=some (.str k.s):=fun S=>rfl
        have et:∀ S,fEq S (.str k.s) (.str "tick")=some (.bl false):=fun S=>by rw [qn6];exact congrArg (fun b=>some (D.bl b)) et0
        have sl:∀ S,kSl3 (Dd.act k g).d none (some 2,S)=some (.tup [.str k.s,.int (g:Int)],S):=fun S=>rfl
        have fi:∀ S,fIn S (.str k.s) (.tup [.str "read",.str "write"])=some (.bl false):=fun S=>fIn_rw (by cases k <;> decide +kernel)
        have fu:∀ S,fEq S (.str k.s) (.str "up")=some (.bl (decide (k=.up))):=fun S=>zc6 (j:=.up)
        have fc:(r.c == 0)=decide (r.c=0):=rfl
        have hg:g<R.1.length:=hd
        have hw:R.1[g]?=some R.1[g]:=List.getElem?_eq_getElem hg
        have ev1:D.tup [.tup [.str "no",.int (g:Int)]]=evsD [⟨"no",g⟩]:=rfl
        obtain ⟨T,e⟩:=doAct_eq O (S:=S++T0) (r:=r) (R:=R) (k:=k) (g:=g) (a2:=some (Dd.act k g).d) (a5:=none) (a6:=none) (a7:=none) (b0:=none) (b1:=none) (b2:=none) (b3:=none) h hl hw
        by_cases hu:k=.up∧(r.c=0∨Wd.rising∈R.1)
        · refine ⟨T0,?_⟩
          dsimp only
          rw [if_pos hu]
          have hu1:=decide_eq_true hu.1
          by_cases hz:r.c=0
          · simp only [qs1,qd6,qe9,qu9,qt8,qc6,qa7,qa5,lg0,lg1,lgS,oj,ob,qa6,qa4,qb0,qa3,qd8,hc,qu1,qv2,Bool.not_true,qi3,qg0,qc1,qg1,qg2,g2,qh5,qd0,qv3,ql0,ls0,lsS,qk0,qb7,qd2,qb1,mC_s,qb2,x0,et,qb6,qj8,qs3,qk8,qs2,qn3,qn4,sl,qm3,qf9,k2,fi,qv0,fu,hu1,qz2,qE8,Rl.ix3,qB2,fc,decide_eq_true hz,kOrT_t,qj6,qg5,k1,qj9,qk9,qd7,qZ2,ev1]
          · have hr:Wd.rising∈R.1:=hu.2.resolve_left hz
            simp only [qs1,qd6,qe9,qu9,qt8,qc6,qa7,qa5,lg0,lg1,lgS,oj,ob,qa6,qa4,qb0,qa3,qd8,hc,qu1,qv2,Bool.not_true,qi3,qg0,qc1,qg1,qg2,g2,qh5,qd0,qv3,ql0,ls0,lsS,qk0,qb7,qd2,qb1,mC_s,qb2,x0,et,qb6,qj8,qs3,qk8,qs2,qn3,qn4,sl,qm3,qf9,k2,fi,qv0,fu,hu1,qz2,qE8,Rl.ix3,qB2,fc,decide_eq_false hz,qX1,qS9,decide_eq_true hr,qj6,qg5,k1,qj9,qk9,qd7,qZ2,ev1]
        · refine ⟨T0++T,?_⟩
          dsimp only
          rw [if_neg hu,hw]
          dsimp only
          have tst:∀ (T:qa0) (a5 a6 a7 b0 b1 b2 b3:Option D),mAndT (mTest (mOp fEq (mVar 8) (mC (.str "up")))) (mOrT (mTest (mOp fEq (mOp fIxX (mVar 0) (mC (.int 3))) (mC (.int 0)))) (mTest (mOp fIn (mC (.str "rising")) (mVar 3)))) [some r.d,some (rmD R),some (Dd.act k g).d,some (wsD R.1),some (esD R.2),a5,a6,a7,some (.str k.s),some (.int (g:Int)),b0,b1,b2,b3] T=some (false,T):=fun T a5 a6 a7 b0 b1 b2 b3=>by
            simp only [qv0,qb7,qd2,qa5,lg0,lg1,lgS,oj,ob,qa6,qb1,mC_s,qb2,fu,qb6]
            by_cases hk:k=.up
            · have hz:¬ r.c=0:=fun z=>hu ⟨hk,.inl z⟩
              have hr:¬ Wd.rising∈R.1:=fun z=>hu ⟨hk,.inr z⟩
              rw [decide_eq_true hk]
              simp only [qz2,qE8,qb7,qd2,qa5,lg0,lg1,lgS,oj,ob,qa6,qb1,mC_s,qb2,Rl.ix3,qB2,fc,decide_eq_false hz,qb6,qX1,qS9,decide_eq_false hr]
            · rw [decide_eq_false hk,q54]
          simp only [qs1,qd6,qe9,qu9,qt8,qc6,qa7,qa5,lg0,lg1,lgS,oj,ob,qa6,qa4,qb0,qa3,qd8,hc,qu1,qv2,Bool.not_true,qi3,qg0,qc1,qg1,qg2,g2,qh5,qd0,qv3,ql0,ls0,lsS,qk0,qb7,qd2,qb1,mC_s,qb2,x0,et,qb6,qj8,qs3,qk8,qs2,qn3,qn4,sl,qm3,qf9,k2,fi,tst,e,qd7,List.append_assoc,qZ2]
end
end MI
namespace MI
open PySem PySem.Spec PyProof.Rows L2 M
noncomputable def Grow (r:Nat) (S S':qa0):Prop:=S.length≤S'.length∧∀ j,j<S.length→j≠r→S'[j]?=S[j]?
theorem Grow.of {r:Nat} {S S':qa0} (h:Keep r S S'):Grow r S S':=⟨Nat.le_of_eq h.2.symm,fun j _ hj=>h.1 j hj⟩
theorem Grow.trans {r:Nat} {S S' S'':qa0} (h:Grow r S S') (h':Grow r S' S''):Grow r S S'':=⟨Nat.le_trans h.1 h'.1,fun j hj hr=>(h'.2 j (Nat.lt_of_lt_of_le hj h.1) hr).trans (h.2 j hj hr)⟩
theorem Pk.appT {S T:qa0} {r:Nat} (h:Pk S r):Pk (S++T) r:=by
  obtain ⟨a,b,d,h,z⟩:=h
  exact ⟨a,b,d,by rw [List.getElem?_append_left (List.getElem?_eq_some_iff.mp h).1];exact h,z⟩
theorem Pk.lt {S:qa0} {r:Nat} (h:Pk S r):r<S.length:=by
  obtain ⟨a,b,d,h,z⟩:=h
  exact (List.getElem?_eq_some_iff.mp h).1
theorem at_rw {q:Int} (h0:0≤q) (h1:q<8):∃ w:Wd,atI qj4 q=some w.d:=by
  obtain rfl | rfl | rfl | rfl | rfl | rfl | rfl | rfl:q=0∨q=1∨q=2∨q=3∨q=4∨q=5∨q=6∨q=7:=by omega
  · exact ⟨.out,rfl⟩
  · exact ⟨.out,rfl⟩
  · exact ⟨.out,rfl⟩
  · exact ⟨.reads,rfl⟩
  · exact ⟨.reads,rfl⟩
  · exact ⟨.rising,rfl⟩
  · exact ⟨.writes,rfl⟩
  · exact ⟨.raised,rfl⟩
theorem zi9 {pick:PF} (hp:qM5 pick) {r:Nat}:∀ (l:List D) (a:Option D) (S:qa0),Pk S r→∃ (ws:List Wd) (S':qa0),ql8 (gSet 0) mTrue (mOp fIxX (mVar 2) (mCallN 2 pick (mCons (mVar 1) (mCons (mC (.int 8)) (mNil))))) l [a,some (.ref r),some (.lst qj4)] S=some (ws.map Wd.d,S')∧ws.length=l.length∧Pk S' r∧Keep r S S'
  | [],a,S,h=>⟨[],S,rfl,rfl,h,Keep.refl⟩
  | d::l,a,S,h=>by
    obtain ⟨q,S1,e1,l1,g1,P1,K1⟩:=hp _ _ 8 h (by decide) (by decide)
    obtain ⟨w,i1⟩:=at_rw l1 g1
    obtain ⟨ws,S',e,hl,P',K'⟩:=zi9 hp l (some d) S1 P1
    refine ⟨w::ws,S',?_,by simp [hl],P',Keep.trans K1 K'⟩
    rw [qp7]
    simp only [qd0,ls0,ob,zr9,qo9,zr8,qd2,qa5,lg0,lg1,lgS,oj,qa6,qb1,qc6,qa7,qa4,mC_s,qb0,qa3,qd8,e1,qb2,fIx_l,i1,zr7,e,zr6,List.map_cons]
noncomputable def qL6 (pick:PF):MS:=mIfS (mAndT (mTest (mOp fEq (mOp fIxX (mVar 3) (mVar 5)) (mC (.str "out")))) (mTest (mOp fGt (mCallN 2 pick (mCons (mVar 0) (mCons (mC (.int 4)) (mNil)))) (mC (.int 0))))) (mSeq (mAsg (mOp fIxX (mLst (mCons (mC (.str "read")) (mCons (mC (.str "write")) (mNil)))) (mCallN 2 pick (mCons (mVar 0) (mCons (mC (.int 2)) (mNil))))) (gSet 6)) (mSeq (mAsg (mOp fIxX (mLst (mCons (mC (.int 0)) (mCons (mC (.int 0)) (mCons (mC (.int 1)) (mCons (mC (.int 1)) (mCons (mC (.int 2)) (mCons (mC (.int 8)) (mCons (mC (.int 9)) (mCons (mC (.int 999)) (mNil)))))))))) (mCallN 2 pick (mCons (mVar 0) (mCons (mC (.int 8)) (mNil))))) (gSet 7)) (mSeq (mAsg (mTup (mCons (mVar 5) (mCons (mVar 6) (mCons (mVar 7) (mCons (mOp fIxX (mLst (mCons (mC .non) (mCons (mC .non) (mCons (mC (.int 1)) (mCons (mC (.int 9)) (mNil)))))) (mCallN 2 pick (mCons (mVar 0) (mCons (mC (.int 4)) (mNil))))) (mNil)))))) (gSet 8)) (mDrop (mMeth qq4 (mVar 4) (mCons (mCallN 2 pick (mCons (mVar 0) (mCons (mOp qc7 (mCall (qb3 fLen) (mCons (mVar 4) (mNil))) (mC (.int 1))) (mNil)))) (mCons (mVar 8) (mNil)))))))) (mSkip)
noncomputable def qF5 (pick:PF):MS:=
  mSeq (mAsg (mLst (mCons (mC (.str "out")) (mCons (mC (.str "out")) (mCons (mC (.str "out")) (mCons (mC (.str "reads")) (mCons (mC (.str "reads")) (mCons (mC (.str "rising")) (mCons (mC (.str "writes")) (mCons (mC (.str "raised")) (mNil)))))))))) (gSet 2)) (mSeq (mAsg (mCall (qb3 (qi5 .tup)) (mCons (mComp (mRange1 (mCons (mVar 1) (mNil))) (gSet 0) (mTrue) (mOp fIxX (mVar 2) (mCallN 2 pick (mCons (mVar 1) (mCons (mC (.int 8)) (mNil))))) [none,some 0,some 2]) (mNil))) (gSet 3)) (mSeq (mAsg (mLstR (mNil)) (gSet 4)) (mSeq (mFor (mRange1 (mCons (mVar 1) (mNil))) (gSet 5) (qL6 pick)) (mRet (mTup (mCons (mVar 3) (mCons (mCall (qb3 (qi5 .tup)) (mCons (mVar 4) (mNil))) (mNil))))))))
theorem at_mk8 {q:Int} (h0:0≤q) (h1:q<8):∃ i:Int,atI [D.int 0,D.int 0,D.int 1,D.int 1,D.int 2,D.int 8,D.int 9,D.int 999] q=some (.int i)∧0≤i∧i≤999:=by
  obtain rfl | rfl | rfl | rfl | rfl | rfl | rfl | rfl:q=0∨q=1∨q=2∨q=3∨q=4∨q=5∨q=6∨q=7:=by omega
  all_goals exact ⟨_,rfl,by decide,by decide⟩
theorem at_lf4 {q:Int} (h0:0≤q) (h1:q<4):∃ t:Option Int,atI [D.non,D.non,D.int 1,D.int 9] q=some (qm2 t)∧∀ k,t=some k→1≤k∧k≤9:=by
  obtain rfl | rfl | rfl | rfl:q=0∨q=1∨q=2∨q=3:=by omega
  · exact ⟨none,rfl,fun k h=>by cases h⟩
  · exact ⟨none,rfl,fun k h=>by cases h⟩
  · exact ⟨some 1,rfl,fun k h=>by cases h;decide⟩
  · exact ⟨some 9,rfl,fun k h=>by cases h;decide⟩
theorem at_w2 {q:Int} (h0:0≤q) (h1:q<2):∃ wr:Bool,atI [D.str "read",D.str "write"] q=some (.str (qh0 wr)):=by
  obtain rfl | rfl:q=0∨q=1:=by omega
  · exact ⟨false,rfl⟩
  · exact ⟨true,rfl⟩
structure q04 (R:Rm):Prop where
  ok:ROk R
  m0:∀ e∈R.2,0≤e.m∧e.m≤999
  t1:∀ e∈R.2,∀ k,e.t=some k→1≤k∧k≤9
theorem map_insL {es:List En} {i:Int} {e:En}:insL (es.map En.d) i e.d=(insL es i e).map En.d:=by
  unfold insL;simp
theorem zt3 {pick:PF} (hp:qM5 pick) {S:qa0} {r q i:Nat} {n:Int} {ws:List Wd} {es:List En} {o6 o7 o8:Option D} (hq:q≠r) (P:Pk S r) (hc:S[q]?=some (.lst (es.map En.d))) (hi:i<ws.length)
    (F:q04 (ws,es)) (hg:∀ e∈es,e.g<i) (hl:es.length≤i) (hi5:i≤500) :
    ∃ p6 p7 p8 es' S',qL6 pick [some (.ref r),some (.int n),some (.lst qj4),some (wsD ws),some (.ref q),some (.int (i:Int)),o6,o7,o8] S=some (.nx [some (.ref r),some (.int n),some (.lst qj4),some (wsD ws),some (.ref q),some (.int (i:Int)),p6,p7,p8] S') ∧
      Pk S' r∧S'[q]?=some (.lst (es'.map En.d))∧q04 (ws,es')∧(∀ e∈es',e.g<i+1)∧es'.length≤i+1∧S'.length=S.length∧∀ j,j≠r→j≠q→S'[j]?=S[j]?:=by
  have up:∀ e∈es,e.g<i+1:=fun e h=>by have:=hg e h;omega
  have hw:ws[i]?=some ws[i]:=List.getElem?_eq_getElem hi
  have x1:∀ S,fIxX S (wsD ws) (.int (i:Int))=some (ws[i]).d:=fun S=>zd8 hw
  have fe:∀ S,fEq S (ws[i]).d (.str "out")=some (.bl (decide (ws[i]=.out))):=fun S=>qB1 (b:=.out)
  by_cases hb:ws[i]=.out
  · obtain ⟨q1,S1,e1,l1,g1,P1,K1⟩:=hp _ _ 4 P (by decide) (by decide)
    by_cases h0:0<q1
    · obtain ⟨q2,S2,e2,l2,g2,P2,K2⟩:=hp _ _ 2 P1 (by decide) (by decide)
      obtain ⟨q3,S3,e3,l3,g3,P3,K3⟩:=hp _ _ 8 P2 (by decide) (by decide)
      obtain ⟨q4,S4,e4,l4,g4,P4,K4⟩:=hp _ _ 4 P3 (by decide) (by decide)
      obtain ⟨q5,S5,e5,l5,g5,P5,K5⟩:=hp _ _ ((es.length:Int)+1) P4 (by omega) (by omega)
      have c4:S4[q]?=some (.lst (es.map En.d)):=by rw [K4.1 q hq,K3.1 q hq,K2.1 q hq,K1.1 q hq,hc]
      have c5:S5[q]?=some (.lst (es.map En.d)):=by rw [K5.1 q hq,c4]
      obtain ⟨wr,i2⟩:=at_w2 l2 g2
      obtain ⟨m,i3,m0,m9⟩:=at_mk8 l3 g3
      obtain ⟨t,i4,ht⟩:=at_lf4 l4 g4
      have k1:∀ S,kLst ([D.int 0,D.int 0,D.int 1,D.int 1,D.int 2,D.int 8,D.int 9,D.int 999],S)=some (.lst [D.int 0,D.int 0,D.int 1,D.int 1,D.int 2,D.int 8,D.int 9,D.int 999],S):=fun S=>qi8 (by simp)
      have k2:∀ S,kLst ([D.non,D.non,D.int 1,D.int 9],S)=some (.lst [D.non,D.non,D.int 1,D.int 9],S):=fun S=>qi8 (by simp)
      have k3:∀ S,kLst ([D.str "read",D.str "write"],S)=some (.lst [D.str "read",D.str "write"],S):=fun S=>qi8 (by simp)
      have k4:∀ S (a b c d:D),kTup ([a,b,c,d],S)=some (.tup [a,b,c,d],S):=fun S a b c d=>qd3 (by simp)
      have ql:q<S5.length:=(List.getElem?_eq_some_iff.mp c5).1
      have hpm:=zs9 es q5 ⟨i,wr,m,t⟩
      have ins:qq4 (.ref q) [.int q5,.tup [.int (i:Int),.str (qh0 wr),.int m,qm2 t]] S5=some (.non,S5.set q (.lst ((insL es q5 ⟨i,wr,m,t⟩).map En.d))):=by
        rw [← map_insL];exact zu2 c5 (by rw [List.length_map];omega) l5 (by omega)
      have km:∀ ms env,qX3 qq4 ms env (.ref q,S4)=(ms env S4).bind (ql9 qq4 (.ref q)):=fun ms env=>qP6 c4
      have fl:qb3 fLen [.ref q] S4=some (.int (es.length:Nat),S4):=by rw [fLen_ref c4,List.length_map]
      refine ⟨some (.str (qh0 wr)),some (.int m),some (.tup [.int (i:Int),.str (qh0 wr),.int m,qm2 t]),insL es q5 ⟨i,wr,m,t⟩,S5.set q (.lst ((insL es q5 ⟨i,wr,m,t⟩).map En.d)),?_,?_,List.getElem?_set_self ql,?_,fun e h=>?_,?_,?_,fun j jr jq=>?_⟩
      · simp only [qL6,qe9,qv0,qb7,qd2,qa5,lg0,lg1,lgS,oj,ob,qa6,qb1,qb2,x1,mC_s,fe,decide_eq_true hb,qb6,qz2,qc6,qa7,qa4,qb0,qa3,qd8,e1,fGt_i,decide_eq_true h0,qj6,qd6,qg1,qr0,k1,e2,fIx_l,i2,qg2,qd0,ls0,lsS,qk0,qc1,k2,e3,i3,qf9,k3,e4,i4,k4,qy7,qE9,km,qf0,qf1,fl,qG9,e5,qo7,ins,qz1]
      · obtain ⟨a,b,c,h,z⟩:=P5
        exact ⟨a,b,c,by rw [List.getElem?_set_ne hq];exact h,z⟩
      · have hmem:∀ {x:En},x∈insL es q5 ⟨i,wr,m,t⟩→x=⟨i,wr,m,t⟩∨x∈es:=fun h=>List.mem_cons.mp (hpm.mem_iff.mp h)
        refine ⟨⟨fun e h=>?_,?_⟩,fun e h=>?_,fun e h=>?_⟩
        · rcases hmem h with rfl | h
          · show ws[i]?=_;rw [hw,hb]
          · exact F.ok.out e h
        · show ((insL es q5 ⟨i,wr,m,t⟩).map (·.g)).Nodup
          rw [(hpm.map (·.g)).nodup_iff,List.map_cons,List.nodup_cons]
          refine ⟨fun z=>?_,F.ok.nd⟩
          obtain ⟨e,h1,h2⟩:=List.mem_map.mp z
          have:=hg e h1
          simp only at h2
          omega
        · rcases hmem h with rfl | h
          · exact ⟨m0,m9⟩
          · exact F.m0 e h
        · rcases hmem h with rfl | h
          · exact ht
          · exact F.t1 e h
      · rcases List.mem_cons.mp (hpm.mem_iff.mp h) with rfl | h
        · exact Nat.lt_succ_self _
        · exact up e h
      · rw [hpm.length_eq,List.length_cons];omega
      · rw [List.length_set,K5.2,K4.2,K3.2,K2.2,K1.2]
      · rw [List.getElem?_set_ne (Ne.symm jq),K5.1 j jr,K4.1 j jr,K3.1 j jr,K2.1 j jr,K1.1 j jr]
    · refine ⟨o6,o7,o8,es,S1,?_,P1,by rw [K1.1 q hq];exact hc,F,up,by omega,K1.2,fun j jr _=>K1.1 j jr⟩
      simp only [qL6,qe9,qv0,qb7,qd2,qa5,lg0,lg1,lgS,oj,ob,qa6,qb1,qb2,x1,mC_s,fe,decide_eq_true hb,qb6,qz2,qc6,qa7,qa4,qb0,qa3,qd8,e1,fGt_i,decide_eq_false h0,qi3,qg0]
  · refine ⟨o6,o7,o8,es,S,?_,P,hc,F,up,by omega,rfl,fun j _ _=>rfl⟩
    simp only [qL6,qe9,qv0,qb7,qd2,qa5,lg0,lg1,lgS,oj,ob,qa6,qb1,qb2,x1,mC_s,fe,decide_eq_false hb,qb6,q54,qi3,qg0]
theorem zh2 {pick:PF} (hp:qM5 pick) {S:qa0} {r n:Nat} {N:List Str} (hN:N.length=9) (P:Pk S r) (h1:1≤n) (h5:n≤5) :
    ∃ (R:Rm) (S':qa0),runM N (qF5 pick) 2 [.ref r,.int (n:Int)] S=some (rmD R,S')∧R.1.length=n∧q04 R∧Pk S' r∧Grow r S S':=by
  have hst:qc0 N [D.ref r,D.int (n:Int)]=[some (.ref r),some (.int (n:Int)),none,none,none,none,none,none,none]:=by simp [qc0,hN,List.replicate]
  rw [qf8 (show [D.ref r,D.int (n:Int)].length=2 from rfl),hst]
  obtain ⟨ws,S1,e1,hl,P1,K1⟩:=zi9 hp (qe7 0 n) none S P
  rw [qJ9] at hl
  have hq:S1.length≠r:=fun z=>by have:=P1.lt;omega
  have P2:Pk (S1++[.lst []]) r:=P1.appT
  have k1:∀ S,kLst ([.str "out",.str "out",.str "out",.str "reads",.str "reads",.str "rising",.str "writes",.str "raised"],S)=some (.lst qj4,S):=fun S=>qi8 (by simp)
  have kr:∀ S,kR1 ([.int (n:Int)],S)=some (qe7 0 n,S):=fun S=>by rw [qu2 (by omega) (by omega),Int.toNat_natCast]
  have kc:∀ b1 b2 b3 b4 b5 b6,qX7 (gSet 0) mTrue (mOp fIxX (mVar 2) (mCallN 2 pick (mCons (mVar 1) (mCons (mC (.int 8)) (mNil))))) [none,some 0,some 2] [some (.ref r),some (.int (n:Int)),some (.lst qj4),b1,b2,b3,b4,b5,b6] (qe7 0 n,S)=some (.lst (ws.map Wd.d),S1):=fun b1 b2 b3 b4 b5 b6=>by
    rw [qC1 (by rw [qJ9];omega),show capE [none,some 0,some 2] [some (D.ref r),some (D.int (n:Int)),some (D.lst qj4),b1,b2,b3,b4,b5,b6]=[none,some (.ref r),some (.lst qj4)] from rfl,e1,ob,qC2]
  have kl:zg6 ([],S1)=some (.ref S1.length,S1++[.lst []]):=qC0 (by simp)
  obtain ⟨env',S',e2,o5,o6,o7,o8,es,rfl,P3,hc,F,hg,hle,hz,fr⟩:=forR (tg:=gSet 5) (p:=qL6 pick) (lo:=0) (fun i env S=>∃ o5 o6 o7 o8 es,env=[some (.ref r),some (.int (n:Int)),some (.lst qj4),some (wsD ws),some (.ref S1.length),o5,o6,o7,o8]∧Pk S r∧S[S1.length]?=some (.lst (es.map En.d))∧q04 (ws,es)∧(∀ e∈es,e.g<i)∧es.length≤i∧S.length=S1.length+1∧∀ j,j≠r→j<S1.length→S[j]?=S1[j]?) n
    (fun i hi env S hI=>by
      obtain ⟨o5,o6,o7,o8,es,rfl,P,hc,F,hg,hle,hz,fr⟩:=hI
      obtain ⟨p6,p7,p8,es',S',e,P',hc',F',hg',hle',hz',fr'⟩:=zt3 hp (n:=(n:Int)) (o6:=o6) (o7:=o7) (o8:=o8) hq P hc (show i<ws.length by omega) F hg hle (by omega)
      refine ⟨_,_,_,_,qd0,?_,some (.int (i:Int)),p6,p7,p8,es',rfl,P',hc',F',hg',hle',by omega,fun j jr jl=>(fr' j jr (by omega)).trans (fr j jr jl)⟩
      rw [show (0:Int)+(i:Int)=i by omega]
      exact e)
    [some (.ref r),some (.int (n:Int)),some (.lst qj4),some (wsD ws),some (.ref S1.length),none,none,none,none] (S1++[.lst []]) ⟨none,none,none,none,[],rfl,P2,by simp,⟨⟨fun e h=>by simp at h,by simp⟩,fun e h=>by simp at h,fun e h=>by simp at h⟩,fun e h=>by simp at h,by simp,by simp,fun j _ jl=>List.getElem?_append_left jl⟩
  have kt:∀ S (a b:D),kTup ([a,b],S)=some (.tup [a,b],S):=fun S a b=>qd3 (by simp)
  have fs:qb3 (qi5 .tup) [.lst (ws.map Wd.d)] S1=some (wsD ws,S1):=qn5
  have fe:qb3 (qi5 .tup) [.ref S1.length] S'=some (esD es,S'):=qx4 hc
  refine ⟨(ws,es),S',?_,hl,F,P3,⟨by rw [hz,K1.2];omega,fun j jl jr=>(fr j jr (by rw [K1.2];exact jl)).trans (K1.1 j jr)⟩⟩
  simp only [qF5,qd6,qg1,qr0,qa7,mC_s,ob,qa4,qb0,qa3,k1,qg2,qd0,ls0,lsS,qk0,qc1,qf0,qh1,qj5,qa5,lg0,lg1,lgS,oj,qa6,kr,kc,qf1,fs,q42,kl,qK9,qL1,e2,qg5,qf9,fe,kt,qj9,qd7]
  rfl
theorem zc4 {α:Type} {x:α}:∀ n:Nat,(List.replicate n [x]).flatten=List.replicate n x
  | 0=>rfl
  | n+1=>by rw [List.replicate_succ,List.flatten_cons,zc4 n,List.replicate_succ];rfl
noncomputable def q87 (deed done:PF):MS:=mSeq (mAsg (mCallN 2 deed (mCons (mVar 0) (mCons (mVar 2) (mNil)))) (gSet 7)) (mSeq (mAsg (mCallN 3 done (mCons (mVar 1) (mCons (mVar 4) (mCons (mVar 7) (mNil))))) (gSet 8)) (mIfS (mTest (mOp qG6 (mVar 8) (mC .non))) (mSeq (mDrop (mMeth qm5 (mVar 5) (mCons (mVar 7) (mNil)))) (mAsg (mOp fIxX (mVar 8) (mC (.int 0))) (gSet 4))) (mSkip)))
noncomputable def zq0 (deed done:PF):MS:=
  mSeq (mAsg (mTup (mCons (mOp qj3 (mTup (mCons (mC (.str "out")) (mNil))) (mVar 2)) (mCons (mTup (mNil)) (mNil)))) (gSet 4)) (mSeq (mAsg (mLstR (mNil)) (gSet 5)) (mSeq (mFor (mRange1 (mCons (mVar 3) (mNil))) (gSet 6) (q87 deed done)) (mRet (mTup (mCons (mCall (qb3 (qi5 .tup)) (mCons (mVar 5) (mNil))) (mCons (mVar 4) (mNil)))))))
structure RowOk (deed done:PF):Prop where
  de:∀ (S:qa0) (r n:Nat),Pk S r→1≤n→n≤5→∃ (dd:Dd) (S':qa0),deed [.ref r,.int (n:Int)] S=some (dd.d,S')∧dd.Ok n∧Pk S' r∧Keep r S S'
  dn:∀ (S:qa0) (rl:Rl) (R:Rm) (dd:Dd),ROk R→R.1.length≤50→dd.Ok R.1.length→∃ T,done [rl.d,rmD R,dd.d] S=some (qZ2 (q60 rl R dd),S++T)
noncomputable def qu4 (n:Nat):Rm:=(List.replicate n .out,[])
theorem zw6 {n:Nat}:ROk (qu4 n):=⟨fun e h=>by simp [qu4] at h,by simp [qu4]⟩
inductive Behind (r:Rl) (n:Nat):List Dd→Rm→Prop
  | nil:Behind r n [] (qu4 n)
  | snoc {l:List Dd} {R:Rm} {d:Dd} {x:Rm×List Ev} (h:Behind r n l R) (hd:d.Ok n) (e:q60 r R d=some x):Behind r n (l++[d]) x.1
theorem Behind.ok {r:Rl} {n:Nat} {l:List Dd} {R:Rm} (h:Behind r n l R):ROk R∧R.1.length=n:=by
  induction h with
  | nil=>exact ⟨zw6,by simp [qu4]⟩
  | snoc h hd e ih=>obtain ⟨a,b⟩:=doneL_ok ih.1 e;exact ⟨a,b.trans ih.2⟩
theorem row_gen {deed done:PF} (O:RowOk deed done) {S:qa0} {r n m:Nat} {rl:Rl} {N:List Str} (hN:N.length=9) (P:Pk S r) (h1:1≤n) (h5:n≤5) (hm:m≤400) :
    ∃ (l:List Dd) (R:Rm) (S':qa0),runM N (zq0 deed done) 4 [.ref r,rl.d,.int (n:Int),.int (m:Int)] S=some (.tup [.tup (l.map Dd.d),rmD R],S')∧Behind rl n l R∧l.length≤m∧Pk S' r∧Grow r S S':=by
  have hst:qc0 N [D.ref r,rl.d,D.int (n:Int),D.int (m:Int)]=[some (.ref r),some rl.d,some (.int (n:Int)),some (.int (m:Int)),none,none,none,none,none]:=by simp [qc0,hN,List.replicate]
  rw [qf8 (show [D.ref r,rl.d,D.int (n:Int),D.int (m:Int)].length=4 from rfl),hst]
  have hq:S.length≠r:=fun z=>by have:=P.lt;omega
  have k1:∀ S (x:D),kTup ([x],S)=some (.tup [x],S):=fun S x=>qd3 (by simp)
  have k0:∀ S,kTup ([],S)=some (.tup [],S):=fun S=>qd3 (by simp)
  have k2:∀ S (x y:D),kTup ([x,y],S)=some (.tup [x,y],S):=fun S x y=>qd3 (by simp)
  have kl:zg6 ([],S)=some (.ref S.length,S++[.lst []]):=qC0 (by simp)
  have mu:∀ S,qj3 S (.tup [.str "out"]) (.int (n:Int))=some (wsD (qu4 n).1):=fun S=>by
    rw [fMulX_t (by omega) (by omega) (by simp;omega),Int.toNat_natCast]
    show some (D.tup _)=some (D.tup ((List.replicate n Wd.out).map Wd.d))
    congr 2
    rw [List.map_replicate,zc4];rfl
  have kr:∀ S,kR1 ([.int (m:Int)],S)=some (qe7 0 m,S):=fun S=>by rw [qu2 (by omega) (by omega),Int.toNat_natCast]
  obtain ⟨env',S',e2,R,l,o6,o7,o8,rfl,P3,hc,B,hle,hz,fr⟩:=forR (tg:=gSet 6) (p:=q87 deed done) (lo:=0) (fun i env T=>∃ (R:Rm) (l:List Dd) (o6 o7 o8:Option D),env=[some (.ref r),some rl.d,some (.int (n:Int)),some (.int (m:Int)),some (rmD R),some (.ref S.length),o6,o7,o8]∧Pk T r∧T[S.length]?=some (.lst (l.map Dd.d))∧Behind rl n l R∧l.length≤i∧S.length≤T.length∧∀ j,j≠r→j<S.length→T[j]?=S[j]?) m
    (fun i hi env T hI=>by
      obtain ⟨R,l,o6,o7,o8,rfl,P,hc,B,hle,hz,fr⟩:=hI
      obtain ⟨ok,hn⟩:=B.ok
      obtain ⟨dd,S1,e1,od,P1,K1⟩:=O.de T r n P h1 h5
      obtain ⟨T2,e3⟩:=O.dn S1 rl R dd ok (by omega) (by rw [hn];exact od)
      have hql:S.length<T.length:=(List.getElem?_eq_some_iff.mp hc).1
      have c1:(S1++T2)[S.length]?=some (.lst (l.map Dd.d)):=by
        rw [List.getElem?_append_left (by rw [K1.2];exact hql),K1.1 _ hq,hc]
      have fr1:∀ j,j≠r→j<S.length→(S1++T2)[j]?=S[j]?:=fun j jr jl=>by
        rw [List.getElem?_append_left (by rw [K1.2];omega),K1.1 j jr,fr j jr jl]
      cases hd:q60 rl R dd with
      | none=>
        rw [hd] at e3
        have e3':done [rl.d,rmD R,dd.d] S1=some (.non,S1++T2):=e3
        refine ⟨_,_,_,_,qd0,?_,R,l,some (.int (0+(i:Int))),some dd.d,some .non,rfl,P1.appT,c1,B,by omega,by simp;rw [K1.2];omega,fr1⟩
        simp only [q87,qd6,qg1,qc6,qa7,qa5,lg0,lg1,lgS,oj,ob,qa6,qa4,qb0,qa3,qd8,e1,qg2,qd0,ls0,lsS,qk0,qc1,qo8,e3',qe9,qb7,qd2,qb1,mC_s,qb2,qP9,isD,Bool.not_true,qb6,qi3,qg0]
      | some x=>
        rw [hd] at e3
        have e3':done [rl.d,rmD R,dd.d] S1=some (.tup [rmD x.1,evsD x.2],S1++T2):=e3
        have ap:qm5 (.ref S.length) [dd.d] (S1++T2)=some (.non,(S1++T2).set S.length (.lst ((l++[dd]).map Dd.d))):=by
          rw [qY8 c1 (by rw [List.length_map];omega)];simp
        have km:∀ f ms env,qX3 f ms env (.ref S.length,S1++T2)=(ms env (S1++T2)).bind (ql9 f (.ref S.length)):=fun f ms env=>qP6 c1
        have hql2:S.length<(S1++T2).length:=(List.getElem?_eq_some_iff.mp c1).1
        refine ⟨_,_,_,_,qd0,?_,x.1,l++[dd],some (.int (0+(i:Int))),some dd.d,some (.tup [rmD x.1,evsD x.2]),rfl,?_,List.getElem?_set_self hql2,B.snoc od hd,by simp;omega,by rw [List.length_set];omega,fun j jr jl=>?_⟩
        · simp only [q87,qd6,qg1,qc6,qa7,qa5,lg0,lg1,lgS,oj,ob,qa6,qa4,qb0,qa3,qd8,e1,qg2,qd0,ls0,lsS,qk0,qc1,qo8,e3',qe9,qb7,qd2,qb1,mC_s,qb2,qP9,isD,Bool.not_false,qb6,qj6,qy7,qE9,km,qo7,ap,qz1,fIx_t,at2]
        · obtain ⟨a,b,c,h,z⟩:=P1.appT (T:=T2)
          exact ⟨a,b,c,by rw [List.getElem?_set_ne hq];exact h,z⟩
        · rw [List.getElem?_set_ne (by omega)];exact fr1 j jr jl)
    [some (.ref r),some rl.d,some (.int (n:Int)),some (.int (m:Int)),some (rmD (qu4 n)),some (.ref S.length),none,none,none] (S++[.lst []]) ⟨qu4 n,[],none,none,none,rfl,P.appT,by simp,.nil,Nat.le_refl _,by simp,fun j _ jl=>List.getElem?_append_left jl⟩
  have fe:qb3 (qi5 .tup) [.ref S.length] S'=some (.tup (l.map Dd.d),S'):=qx4 hc
  refine ⟨l,R,S',?_,B,hle,P3,⟨hz,fun j jl jr=>fr j jr jl⟩⟩
  have er:∀ S,kTup ([wsD (qu4 n).1,.tup []],S)=some (rmD (qu4 n),S):=fun S=>k2 S _ _
  simp only [zq0,qd6,qg1,qf9,qa7,qd2,mC_s,ob,qa4,qb0,qa3,k1,qb1,qa5,lg0,lg1,lgS,oj,qa6,qb2,mu,k0,er,qg2,qd0,ls0,lsS,qk0,qc1,q42,kl,qK9,qj5,kr,qL1,e2,qg5,qf0,qf1,fe,k2,qj9,qd7]
end MI
namespace MI
open PySem PySem.Spec PyProof.Rows L2 M
section
variable {α:Type} {enc:α→D} {p:Nat→α→Bool} {f:Nat→α→D} {t:MT} {e:ME} {rest:MEnv} {S:qa0}
end
noncomputable def ixW (p:Wd→Bool) (ws:List Wd):List Nat:=(ws.zipIdx.filter fun q=>p q.1).map (·.2)
theorem mem_zi {α:Type} {xs:List α} {x:α} {i:Nat}:(x,i)∈xs.zipIdx↔xs[i]?=some x:=by
  rw [List.mem_zipIdx_iff_getElem?]
theorem mem_ixW {p:Wd→Bool} {ws:List Wd} {i:Nat}:i∈ixW p ws↔∃ w,ws[i]?=some w∧p w=true:=by
  unfold ixW
  rw [List.mem_map]
  constructor
  · rintro ⟨⟨w,j⟩,h,rfl⟩
    obtain ⟨h1,h2⟩:=List.mem_filter.mp h
    exact ⟨w,mem_zi.mp h1,h2⟩
  · rintro ⟨w,h1,h2⟩
    exact ⟨(w,i),List.mem_filter.mpr ⟨mem_zi.mpr h1,h2⟩,rfl⟩
noncomputable def nt (l:List Nat):D:=.tup (l.map ni)
theorem ixW_lst {p:Wd→Bool} {ws:List Wd}:D.lst ((ws.zipIdx.filter fun q=>p q.1).map fun q=>.int (q.2:Int))=nl (ixW p ws):=by
  unfold nl ixW ni;rw [List.map_map];rfl
noncomputable def zl1:MS:=mRet (mCall (qb3 (qi5 .tup)) (mCons (mComp (mEnum (mCons (mOp fIxX (mVar 0) (mC (.int 0))) (mNil))) (gTupD 2 (gConsD (gSet 0) (gConsD (gSet 1) (gNilD)))) (mTest (mOp fIn (mVar 1) (mVar 2))) (mVar 0) [none,none,some 1]) (mNil)))
theorem ws_enum {ws:List Wd} {S:qa0}:kEnum ([wsD ws],S)=some (qs8 0 (ws.map Wd.d),S):=rfl
theorem fIn_ws {S:qa0} {w:Wd} {l:List Wd}:fIn S w.d (wsD l)=some (.bl (decide (w∈l))):=by
  rw [qB0 (ys:=l.map Wd.d) rfl rfl okWs]
  congr 2
  rw [List.any_map]
  induction l with
  | nil=>rfl
  | cons a l ih=>
    rw [List.any_cons,ih]
    show (eqD a.d w.d||_)=_
    rw [eqWd,Bool.eq_iff_iff]
    simp
    constructor
    · rintro (h | h)
      · exact .inl h.symm
      · exact .inr h
    · rintro (h | h)
      · exact .inl h.symm
      · exact .inr h
theorem gw_gen {N:List Str} (hN:N.length=2) {S:qa0} {R:Rm} {l:List Wd} (hl:R.1.length≤100):runM N zl1 2 [rmD R,wsD l] S=some (nt (ixW (fun w=>decide (w∈l)) R.1),S):=by
  have hst:qc0 N [rmD R,wsD l]=[some (rmD R),some (wsD l)]:=by simp [qc0,hN]
  rw [qf8 (show [rmD R,wsD l].length=2 from rfl),hst]
  have k:=zb2 (S:=S) (t:=mTest (mOp fIn (mVar 1) (mVar 2))) (cap:=[none,none,some 1]) (env:=[some (rmD R),some (wsD l)]) (rest:=[some (wsD l)]) (a:=none) (b:=none) (enc:=Wd.d) (p:=fun w=>decide (w∈l)) (xs:=R.1) rfl (by omega) (fun i x _=>by simp only [qb7,qd2,qa5,lg0,lg1,lgS,oj,ob,qa6,qb1,qb2,fIn_ws,qb6])
  rw [ixW_lst (p:=fun w=>decide (w∈l))] at k
  have fs:qb3 (qi5 .tup) [nl (ixW (fun w=>decide (w∈l)) R.1)] S=some (nt (ixW (fun w=>decide (w∈l)) R.1),S):=qn5
  simp only [zl1,qg5,qf0,qa7,qh1,qO8,qd2,qa5,lg0,lg1,lgS,oj,ob,qa6,qb1,mC_s,qb2,Rm.ix0,qa4,qb0,qa3,ws_enum,k,qf1,fs,qj9,qd7]
noncomputable def zd9 (R:Rm) (g:Nat):D:=if R.1[g]?=some .rising then .str "up" else match R.2.find? fun e=>decide (e.g=g) with
  | some e=>.str (qh0 e.wr)
  | none=>.non
noncomputable def qJ4:MS:=mIfS (mTest (mOp fEq (mOp fIxX (mVar 2) (mC (.int 0))) (mVar 1))) (mRet (mOp fIxX (mVar 2) (mC (.int 1)))) (mSkip)
noncomputable def qN6 (gw:PF):MS:=mSeq (mIfS (mTest (mOp fIn (mVar 1) (mCallN 2 gw (mCons (mVar 0) (mCons (mTup (mCons (mC (.str "rising")) (mNil))) (mNil)))))) (mRet (mC (.str "up"))) (mSkip)) (mSeq (mForD (mOp fIxX (mVar 0) (mC (.int 1))) (gSet 2) qJ4) (mRet (mC .non)))
noncomputable def GwOk (gw:PF):Prop:=∀ (S:qa0) (R:Rm) (l:List Wd),R.1.length≤100→gw [rmD R,wsD l] S=some (nt (ixW (fun w=>decide (w∈l)) R.1),S)
theorem fIn_nt {S:qa0} {g:Nat} {l:List Nat}:fIn S (.int (g:Int)) (nt l)=some (.bl (decide (g∈l))):=by
  rw [qB0 (ys:=l.map ni) rfl rfl (by rw [List.all_eq_true];intro d hd;obtain ⟨i,_,rfl⟩:=List.mem_map.mp hd;rfl)]
  congr 2
  rw [List.any_map]
  induction l with
  | nil=>rfl
  | cons a l ih=>
    rw [List.any_cons,ih]
    show (((a:Int) == (g:Int))||_)=_
    rw [Bool.eq_iff_iff]
    simp
    constructor
    · rintro (h | h)
      · exact .inl (by omega)
      · exact .inr h
    · rintro (h | h)
      · exact .inl (by omega)
      · exact .inr h
theorem qQ8 {S:qa0} {R:Rm} {g:Nat}:∀ (es:List En) (a:Option D),qk6 (gSet 2) qJ4 (es.map En.d) [some (rmD R),some (.int (g:Int)),a] S=(match es.find? fun e=>decide (e.g=g) with | some e=>some (.rt (.str (qh0 e.wr)) S) | none=>some (.nx [some (rmD R),some (.int (g:Int)),match es.getLast? with | some e=>some e.d | none=>a] S))
  | [],a=>by simp
  | e::l,a=>by
    have ih:=qQ8 (S:=S) (R:=R) (g:=g) l (some e.d)
    have c:((e.g:Int) == (g:Int))=decide (e.g=g):=by rw [Bool.eq_iff_iff];simp;omega
    rw [List.map_cons,qp5,qd0,ob,lsS,lsS,ls0,qX4]
    simp only [qJ4,qe9,qb7,qd2,qa5,lg0,lg1,lgS,oj,ob,qa6,qb1,mC_s,qb2,En.ix0,qB2,c,qb6,List.find?_cons]
    cases hd:decide (e.g=g) with
    | true=>simp only [qj6,qg5,qd2,qa5,lg0,lg1,lgS,oj,ob,qa6,qb1,mC_s,qb2,En.ix1,qj9,kLp2_rt]
    | false=>
      rw [qi3,qg0,ob,qF7]
      show qk6 (gSet 2) qJ4 _ _ _=_
      rw [ih]
      cases hf:l.find? fun e=>decide (e.g=g) with
      | some x=>rfl
      | none=>
        dsimp only
        congr 4
        cases l with
        | nil=>rfl
        | cons y l=>rw [List.getLast?_cons_cons];cases hh:(y::l).getLast? with
          | none=>simp at hh
          | some z=>rfl
theorem wait_gen {gw:PF} (O:GwOk gw) {N:List Str} (hN:N.length=3) {S:qa0} {R:Rm} {g:Nat} (hl:R.1.length≤100):runM N (qN6 gw) 2 [rmD R,.int (g:Int)] S=some (zd9 R g,S):=by
  have hst:qc0 N [rmD R,.int (g:Int)]=[some (rmD R),some (.int (g:Int)),none]:=by simp [qc0,hN,List.replicate]
  rw [qf8 (show [rmD R,D.int (g:Int)].length=2 from rfl),hst]
  have o1:gw [rmD R,.tup [.str "rising"]] S=some (nt (ixW (fun w=>decide (w∈[Wd.rising])) R.1),S):=O S R [.rising] hl
  have k1:kTup ([.str "rising"],S)=some (.tup [.str "rising"],S):=qd3 (by simp)
  have mm:decide (g∈ixW (fun w=>decide (w∈[Wd.rising])) R.1)=decide (R.1[g]?=some .rising):=by
    rw [decide_eq_decide,mem_ixW]
    constructor
    · rintro ⟨w,h1,h2⟩;rw [h1];simpa using h2
    · intro h;exact ⟨.rising,h,by simp⟩
  have ek:zg7 (gSet 2) qJ4 [some (rmD R),some (.int (g:Int)),none] (esD R.2,S)=qk6 (gSet 2) qJ4 (R.2.map En.d) [some (rmD R),some (.int (g:Int)),none] S:=rfl
  simp only [qN6,qd6,qe9,qb7,qd2,qa5,lg0,lg1,lgS,oj,ob,qa6,qb1,qc6,qa7,qa4,qf9,mC_s,qb0,qa3,k1,qd8,o1,qb2,fIn_nt,mm,qb6]
  unfold zd9
  by_cases h:R.1[g]?=some .rising
  · rw [decide_eq_true h,if_pos h];simp
  · rw [decide_eq_false h,if_neg h]
    simp only [qi3,qg0,ob,qc1,qd6,zp5,qd2,qa5,lg0,lg1,lgS,oj,qa6,qb1,mC_s,qb2,Rm.ix1,ek,qQ8]
    cases R.2.find? fun e=>decide (e.g=g) with
    | some e=>simp
    | none=>simp
noncomputable def qQ6 (ws:List Wd) (g:Nat):List Wd:=(ws.zipIdx.filter fun q=>!decide (q.1=.out) && !decide (q.2=g)).map (·.1)
noncomputable def zy1 (r:Rl) (R:Rm) (g:Nat):Bool:=
  if R.1[g]?=some .rising then (qQ6 R.1 g).isEmpty else match R.2.find? fun e=>decide (e.g=g) with
  | none=>false
  | some e=>if e.wr then (qQ6 R.1 g).isEmpty else (qQ6 R.1 g).all (fun w=>decide (w=.reads))&&(decide (r.a=0)||decide (((qQ6 R.1 g).length:Int)<r.a))
noncomputable def WaitOk (wait:PF):Prop:=∀ (S:qa0) (R:Rm) (g:Nat),R.1.length≤100→wait [rmD R,.int (g:Int)] S=some (zd9 R g,S)
section
variable {S:qa0} {R:Rm} {r:Rl} {g:Nat}
end
end MI
namespace MI
open PySem PySem.Spec PyProof.Rows L2 M
noncomputable def favB (w:Rw) (e:En):Bool:=match w with
  | .rows=>false
  | .readers=>!e.wr
  | _=>e.wr
noncomputable def turnB (w:Rw) (e:En):Bool:=decide (w=.turns)&&decide (e.m=1)
noncomputable def foreL (w:Rw) (es:List En):List Nat:=(es.filter (turnB w)).map (·.g)++(es.filter (favB w)).map (·.g)++es.map (·.g)
section
variable {S:qa0} {es:List En} {w:Rw} {r:Rl} {R:Rm}
noncomputable def pastL (r:Rl) (R:Rm):List En→Option Nat
  | []=>none
  | e::l=>if zy1 r R e.g then some e.g else if r.b≤e.m then none else pastL r R l
noncomputable def nextB (r:Rl) (R:Rm):Option Nat:=if r.w=.passes then pastL r R R.2 else match (foreL r.w R.2).head? with
  | none=>none
  | some g=>if zy1 r R g then some g else none
end
end MI
namespace MI
open PySem PySem.Spec PyProof.Rows L2 M
section
variable {ws:List Wd} {es:List En} {r:Rl} {R:Rm} {g:Nat}
noncomputable def comeB (r:Rl) (R:Rm):Option Ev:=match (ixW (fun w=>decide (w=.rising)) R.1).find? (zy1 r R) with
  | some g=>some ⟨"steps",g⟩
  | none=>(nextB r R).map fun g=>⟨"in",g⟩
inductive Step (r:Rl) (R:Rm):Option Ev→Rm→List Ev→Prop
  | up (g:Nat) (h:R.1[g]?=some .rising):Step r R (some ⟨"steps",g⟩) (R.1.set g .raised,R.2) [⟨"steps",g⟩]
  | go (i:Nat) (e:En) (h:R.2[i]?=some e):Step r R (some ⟨"in",e.g⟩) (goIn r R i e) [⟨"in",e.g⟩]
  | no:Step r R none R []
theorem qZ5 {a b:Wd}:∀ {ws:List Wd} {i:Nat},ws[i]?=some a→a≠b→∀ c,(ws.set i b).count c+(if a=c then 1 else 0)=ws.count c+(if b=c then 1 else 0)
  | [],i,h,_,c=>by simp at h
  | w::l,0,h,hn,c=>by
    simp at h;subst h
    rw [List.set_cons_zero,List.count_cons,List.count_cons]
    by_cases h1:w=c <;> by_cases h2:b=c <;> simp [h1,h2] <;> omega
  | w::l,i+1,h,hn,c=>by
    have:=qZ5 (i:=i) (ws:=l) (by simpa using h) hn c
    rw [List.set_cons_succ,List.count_cons,List.count_cons]
    omega
end
end MI
namespace MI
open PySem PySem.Spec PyProof.Rows L2 M
section
variable {S:qa0} {ws:List Wd} {es:List En} {r:Rl} {R:Rm} {g:Nat}
noncomputable def evoD:Option Ev→D
  | none=>.non
  | some v=>v.d
structure StOk (br co:PF):Prop where
  c:∀ (S:qa0) (r:Rl) (R:Rm),R.1.length≤100→R.2.length≤100→co [r.d,rmD R] S=some (evoD (comeB r R),S)
  b:∀ (S:qa0) (r:Rl) (R:Rm) (v:Ev) (R':Rm) (l:List Ev),ROk R→R.1.length≤50→Step r R (some v) R' l→br [r.d,rmD R,v.d] S=some (rmD R',S)
end
end MI
namespace MI
open PySem PySem.Spec PyProof.Rows L2 M
section
variable {S:qa0} {r:Rl} {R:Rm}
theorem fNe_self {x:D} (h:okD 40 x=true):fNe S x x=some (.bl false):=by
  rw [qL9 h h,qx6 40 x h];rfl
end
end MI
namespace MI
open PySem PySem.Spec PyProof.Rows L2 M
section
variable {r:Rl}
structure Calm (ws:List Wd):Prop where
  only:∀ w∈ws,w=.out∨w=.reads
  one:1≤ws.count .reads
theorem Calm.set {ws:List Wd} (c:Calm ws) {g:Nat} (hg:ws[g]?=some .out):Calm (ws.set g .reads)∧(ws.set g .reads).count .reads=ws.count .reads+1:=by
  have h:=qZ5 (b:=.reads) hg (by decide) .reads
  simp at h
  have:=c.one
  refine ⟨⟨fun w hw=>?_,by omega⟩,h⟩
  rcases List.mem_or_eq_of_mem_set hw with z | z
  · exact c.only w z
  · exact .inr z
end
end MI
namespace MI
open PySem PySem.Spec PyProof.Rows L2 M
section
variable {α:Type} {enc:α→D} {p:α→Bool} {f:α→D} {t:MT} {e:ME} {rest:MEnv} {S:qa0} {r:Nat} {xs:List α}
end
section
variable {r:Rl} {es:List En}
end
end MI
namespace MI
open PySem PySem.Spec PyProof.Rows L2
open M hiding mC mVar mOp mTest mChain mTru mAndT mOrT mNotT mAnd mOr mNotV mIf mNil mCons mTup mLst mLstR mUn mPartN mPart mSlice mCall mIsI mCallN mSkip mSeq mRet mDrop mIfS gSet gNilD gConsD gTupD gSubD mAsg mRange1 mRange2 mFor mComp mItS mTrue mMeth mEnum mPar mCnt mZip mDict mDictR mMethD mForD mListR mCompX mComp2 mCatR
theorem qT1 {n:Nat}:qe7 0 n=(List.range n).map ni:=by
  unfold qe7 ni
  refine List.map_congr_left fun i _=>?_
  rw [Int.zero_add]
section
variable {α:Type} {enc:α→D} {f:α→Nat→D} {e:ME} {mi:MA} {S:qa0} {n:Nat} {c:Option D}
theorem compE1 {w:Option D} {f:Nat→D} (h:∀ g,e [w,some (ni g),c] S=some (f g,S)):∀ (us:List Nat) (b:Option D),∃ b',qr2 (gSet 1) mTrue e (us.map ni) [w,b,c] S=some (us.map f,[w,b',c],S)
  | [],b=>⟨b,zg3⟩
  | g::us,b=>by
    obtain ⟨b',ih⟩:=compE1 h us (some (ni g))
    refine ⟨b',?_⟩
    rw [List.map_cons,q45,qd0,ob,lsS,ls0,kCe1_s,qo9,ob,kCe2_t,h,ob,kCe3_s,ih,ob,kCe4_s,List.map_cons]
theorem compO1 (hi:∀ a b,mi [a,b,c] S=some ((List.range n).map ni,S)) (he:∀ x g,e [some (enc x),some (ni g),c] S=some (f x g,S)) :
    ∀ (xs:List α) (a b:Option D),qr1 (gSet 0) mTrue mi (gSet 1) mTrue e (xs.map enc) [a,b,c] S=some (xs.flatMap fun x=>(List.range n).map (f x),S)
  | [],a,b=>zg2
  | x::xs,a,b=>by
    obtain ⟨b',h⟩:=compE1 (c:=c) (S:=S) (w:=some (enc x)) (e:=e) (f:=f x) (he x) (List.range n) b
    rw [List.map_cons,q44,qd0,ob,ls0,kCo1_s,qo9,ob,kCo2_t,hi,ob,kCo3_s,h,ob,kCo4_s,compO1 hi he xs,ob,kCo5_s,List.flatMap_cons]
theorem zq6 {cap:List (Option Nat)} {env:MEnv} {a b:Option D} {xs:List α} {ys:List D} (hy:ys=xs.map enc) (hc:capE cap env=[a,b,c]) (hl:xs.length * n≤1000) (hi:∀ a b,mi [a,b,c] S=some ((List.range n).map ni,S)) (he:∀ x g,e [some (enc x),some (ni g),c] S=some (f x g,S)) :
    kCo0 (gSet 0) mTrue mi (gSet 1) mTrue e cap env (ys,S)=some (.lst (xs.flatMap fun x=>(List.range n).map (f x)),S):=by
  subst hy
  rw [kCo0_s,hc,compO1 hi he,ob,kCo9_of]
  have:∀ l:List α,(l.flatMap fun x=>(List.range n).map (f x)).length=l.length * n:=fun l=>by
    induction l with
    | nil=>simp
    | cons x l ih=>rw [List.flatMap_cons,List.length_append,ih,List.length_map,List.length_range,List.length_cons,Nat.succ_mul];omega
  rw [this];exact hl
end
noncomputable def askA (n:Nat):List Dd:=[false,true].flatMap fun wr=>(List.range n).map fun g=>Dd.ask wr g none
noncomputable def actA (n:Nat):List Dd:=[Ak.up,.down,.leave,.stop].flatMap fun k=>(List.range n).map fun g=>Dd.act k g
noncomputable def allA (n:Nat):List Dd:=askA n++actA n
theorem qy0 {n:Nat}:(askA n).length=n+n:=by simp [askA]
theorem qC6 {n:Nat}:(actA n).length=n+(n+(n+n)):=by simp [actA]
theorem q73 {n:Nat} {dd:Dd} (h:dd∈allA n):dd.Ok n∧dd≠.tick:=by
  rcases List.mem_append.mp h with h | h
  · obtain ⟨wr,_,h⟩:=List.mem_flatMap.mp h
    obtain ⟨g,hg,rfl⟩:=List.mem_map.mp h
    exact ⟨⟨List.mem_range.mp hg,fun k hk=>by cases hk⟩,by intro z;cases z⟩
  · obtain ⟨k,_,h⟩:=List.mem_flatMap.mp h
    obtain ⟨g,hg,rfl⟩:=List.mem_map.mp h
    exact ⟨List.mem_range.mp hg,by intro z;cases z⟩
noncomputable def paA:ME:=mComp2 (mItS (mC (.tup [.str "read",.str "write"]))) (gSet 0) (mTrue) (mRange1 (mCons (mVar 2) (mNil))) (gSet 1) (mTrue) (mTup (mCons (mVar 0) (mCons (mVar 1) (mCons (mC .non) (mNil))))) [none,none,some 0]
noncomputable def paB:ME:=mComp2 (mItS (mC (.tup [.str "up",.str "down",.str "leave",.str "stop"]))) (gSet 0) (mTrue) (mRange1 (mCons (mVar 2) (mNil))) (gSet 1) (mTrue) (mTup (mCons (mVar 0) (mCons (mVar 1) (mNil)))) [none,none,some 0]
noncomputable def q17:MS:=mSeq (mAsg paA (gSet 1)) (mRet (mCall (qb3 (qi5 .tup)) (mCons (mOp qc7 (mVar 1) paB) (mNil))))
section
variable {S:qa0} {n:Nat} {a:Option D}
theorem rgI (h5:n≤5) (a b:Option D):mRange1 (mCons (mVar 2) (mNil)) [a,b,some (.int (n:Int))] S=some ((List.range n).map ni,S):=by
  have:kR1 ([.int (n:Int)],S)=some (qe7 0 n,S):=by rw [qu2 (by omega) (by omega)];rfl
  simp only [qj5,qa7,qa5,lg0,lg1,lgS,oj,ob,qa6,qa4,qb0,qa3,this,qT1]
theorem zc5 {α:Type} (f:α→Nat→Dd) (xs:List α):(xs.flatMap fun x=>(List.range n).map fun g=>(f x g).d)=(xs.flatMap fun x=>(List.range n).map (f x)).map Dd.d:=by
  induction xs with
  | nil=>rfl
  | cons x l ih=>rw [List.flatMap_cons,List.flatMap_cons,List.map_append,ih,List.map_map];rfl
theorem paA_eq (h5:n≤5):paA [some (.int (n:Int)),a] S=some (.lst ((askA n).map Dd.d),S):=by
  have k3:∀ x y z:D,kTup ([x,y,z],S)=some (.tup [x,y,z],S):=fun x y z=>qd3 (by simp)
  have k:=zq6 (S:=S) (n:=n) (c:=some (.int (n:Int))) (mi:=mRange1 (mCons (mVar 2) (mNil))) (e:=mTup (mCons (mVar 0) (mCons (mVar 1) (mCons (mC .non) (mNil))))) (cap:=[none,none,some 0]) (env:=[some (.int (n:Int)),a]) (xs:=[false,true]) (ys:=[.str "read",.str "write"]) (enc:=fun wr=>D.str (qh0 wr)) (f:=fun wr g=>(Dd.ask wr g none).d) rfl rfl (by show 2 * n≤1000;omega) (rgI h5) fun wr g=>by
    simp only [qf9,qa7,qa5,lg0,lg1,lgS,oj,ob,qa6,qa4,mC_s,qb0,qa3,k3];rfl
  rw [zc5] at k
  simp only [paA,za8,qo4,mC_s,ob,qX5,k];rfl
theorem paB_eq (h5:n≤5):paB [some (.int (n:Int)),a] S=some (.lst ((actA n).map Dd.d),S):=by
  have k2:∀ x y:D,kTup ([x,y],S)=some (.tup [x,y],S):=fun x y=>qd3 (by simp)
  have k:=zq6 (S:=S) (n:=n) (c:=some (.int (n:Int))) (mi:=mRange1 (mCons (mVar 2) (mNil))) (e:=mTup (mCons (mVar 0) (mCons (mVar 1) (mNil)))) (cap:=[none,none,some 0]) (env:=[some (.int (n:Int)),a]) (xs:=[Ak.up,.down,.leave,.stop]) (ys:=[.str "up",.str "down",.str "leave",.str "stop"]) (enc:=fun k=>D.str (Ak.s k)) (f:=fun k g=>(Dd.act k g).d) rfl rfl (by show 4 * n≤1000;omega) (rgI h5) fun wr g=>by
    simp only [qf9,qa7,qa5,lg0,lg1,lgS,oj,ob,qa6,qa4,mC_s,qb0,qa3,k2];rfl
  rw [zc5] at k
  simp only [paB,za8,qo4,mC_s,ob,qX5,k];rfl
theorem all_gen {N:List Str} (hN:N.length=2) (h5:n≤5):runM N q17 1 [.int (n:Int)] S=some (.tup ((allA n).map Dd.d),S):=by
  have hst:qc0 N [.int (n:Int)]=[some (.int (n:Int)),none]:=by simp [qc0,hN,List.replicate]
  rw [qf8 (show [D.int (n:Int)].length=1 from rfl),hst]
  have ad:qc7 S (.lst ((askA n).map Dd.d)) (.lst ((actA n).map Dd.d))=some (.lst ((allA n).map Dd.d)):=by
    rw [zu4 (by rw [List.length_map,List.length_map,qy0,qC6];omega),← List.map_append];rfl
  simp only [q17,qd6,qg1,paA_eq h5,ob,qg2,qd0,ls0,lsS,qk0,qc1,qg5,qf0,qa7,qd2,qa5,lg0,lg1,lgS,oj,qa6,qb1,paB_eq h5,qb2,ad,qa4,qb0,qa3,qf1,qn5,qj9,qd7]
end
noncomputable def q16 (wait:PF):MS:=
  mSeq (mIfS (mTest (mOp fEq (mOp fIxX (mVar 1) (mC (.int 0))) (mC (.str "tick")))) (mRet (mC (.bl true))) (mSkip)) (mSeq (mAsg (mSlice (mVar 1) (mPartN) (mPart (mC (.int 2)))) (gTupD 2 (gConsD (gSet 2) (gConsD (gSet 3) (gNilD))))) (mSeq (mAsg (mOp fIxX (mOp fIxX (mVar 0) (mC (.int 0))) (mVar 3)) (gSet 4)) (mSeq (mIfS (mTest (mOp fEq (mVar 2) (mC (.str "up")))) (mRet (mOp fEq (mVar 4) (mC (.str "reads")))) (mSkip)) (mSeq (mIfS (mTest (mOp fEq (mVar 2) (mC (.str "down")))) (mRet (mOp fIn (mVar 4) (mC (.tup [.str "writes",.str "raised"])))) (mSkip)) (mSeq (mIfS (mTest (mOp fEq (mVar 2) (mC (.str "leave")))) (mRet (mOp fNe (mVar 4) (mC (.str "out")))) (mSkip)) (mSeq (mIfS (mTest (mOp fEq (mVar 2) (mC (.str "stop")))) (mRet (mOp qG6 (mCallN 2 wait (mCons (mVar 0) (mCons (mVar 3) (mNil)))) (mC .non))) (mSkip)) (mRet (mAnd (mOp fEq (mVar 4) (mC (.str "out"))) (mOp fIs (mCallN 2 wait (mCons (mVar 0) (mCons (mVar 3) (mNil)))) (mC .non))))))))))
theorem zh3 {es:List En} {g:Nat}:(es.find? fun e=>decide (e.g=g)).isSome=qf7 es g:=by
  unfold qf7;rw [List.isSome_find?]
theorem qJ3 {R:Rm} {g:Nat}:isD (zd9 R g) .non = !(decide (R.1[g]?=some .rising)||qf7 R.2 g):=by
  unfold zd9
  rw [← zh3]
  by_cases h:R.1[g]?=some .rising
  · rw [if_pos h,decide_eq_true h];rfl
  · rw [if_neg h,decide_eq_false h]
    cases R.2.find? fun e=>decide (e.g=g) with
    | none=>rfl
    | some e=>cases e.wr <;> rfl
theorem zy2 {wait:PF} (O:WaitOk wait) {N:List Str} (hN:N.length=5) {S:qa0} {R:Rm} {dd:Dd} (hl:R.1.length≤100) (hd:dd.Ok R.1.length) (ht:dd≠.tick):runM N (q16 wait) 2 [rmD R,dd.d] S=some (.bl (canB R dd),S):=by
  have hst:qc0 N [rmD R,dd.d]=[some (rmD R),some dd.d,none,none,none]:=by simp [qc0,hN,List.replicate]
  rw [qf8 (show [rmD R,dd.d].length=2 from rfl),hst]
  have x0:∀ S,fIxX S dd.d (.int 0)=some (.str (qn7 dd)):=fun S=>by cases dd <;> first | rfl | exact absurd rfl ht
  have tk:fEq S (.str (qn7 dd)) (.str "tick")=some (.bl false):=by rw [qn6,zd1 ht]
  have hg:qa9 dd<R.1.length:=by cases dd with
    | ask _ _ _=>exact hd.1
    | act _ _=>exact hd
    | tick=>exact absurd rfl ht
  have hw:R.1[qa9 dd]?=some R.1[qa9 dd]:=List.getElem?_eq_getElem hg
  have xw:∀ S,fIxX S (wsD R.1) (.int (qa9 dd:Int))=some (R.1[qa9 dd]).d:=fun S=>zd8 hw
  have sl:∀ S,kSl3 dd.d none (some 2,S)=some (.tup [.str (qn7 dd),.int (qa9 dd:Int)],S):=fun S=>by cases dd <;> first | rfl | exact absurd rfl ht
  have g2:∀ x y env S,gTupD 2 (gConsD (gSet 2) (gConsD (gSet 3) (gNilD))) (.tup [x,y]) env S=(gConsD (gSet 2) (gConsD (gSet 3) (gNilD))) [x,y] env S:=fun x y env S=>qm3
  have rx:∀ S,fIxX S (rmD R) (.int 0)=some (wsD R.1):=fun S=>rfl
  have wt:∀ S,wait [rmD R,.int (qa9 dd:Int)] S=some (zd9 R (qa9 dd),S):=fun S=>O S R _ hl
  simp only [q16,qd6,qe9,qb7,qd2,qa5,lg0,lg1,lgS,oj,ob,qa6,qb1,mC_s,qb2,x0,tk,qb6,qi3,qg0,qc1,qg1,qj8,qs3,qk8,qs2,qn3,qn4,sl,qg2,g2,qh5,qd0,qv3,ql0,ls0,lsS,qk0,rx,xw]
  generalize hv:R.1[qa9 dd]=w at hw
  have e1:fEq S w.d (.str "reads")=some (.bl (decide (w=.reads))):=qB1 (b:=.reads)
  have e2:fNe S w.d (.str "out")=some (.bl (!decide (w=.out))):=zt6 (b:=.out)
  have e3:fEq S w.d (.str "out")=some (.bl (decide (w=.out))):=qB1 (b:=.out)
  cases dd with
  | tick=>exact absurd rfl ht
  | act k g=>
    simp only [qa9] at hw wt ⊢
    have wk:∀ j:Ak,fEq S (.str (qn7 (.act k g))) (.str j.s)=some (.bl (decide (k=j))):=fun j=>zc6
    have w1:=wk .up
    have w2:=wk .down
    have w3:=wk .leave
    have w4:=wk .stop
    simp only [Ak.s] at w1 w2 w3 w4
    cases k with
    | up=>simp only [w1,qb6,ob,decide_true,qj6,qg5,qd2,qa5,lg0,lg1,lgS,oj,qa6,qb1,mC_s,qb2,e1,qj9,qk9,qd7,canB,hw,Option.some.injEq]
    | down=>simp (decide:=true) only [w1,w2,qb6,ob,decide_true,decide_false,qi3,qg0,qc1,qj6,qd6,qe9,qb7,qg5,qd2,qa5,lg0,lg1,lgS,oj,qa6,qb1,mC_s,qb2,fIn_wd,qj9,qk9,qd7,canB,hw,Option.some.injEq]
    | leave=>simp (decide:=true) only [w1,w2,w3,qb6,ob,decide_true,decide_false,qi3,qg0,qc1,qj6,qd6,qe9,qb7,qg5,qd2,qa5,lg0,lg1,lgS,oj,qa6,qb1,mC_s,qb2,e2,qj9,qk9,qd7,canB,hw,Option.some.injEq,ne_eq,decide_not]
    | stop=>
      simp (decide:=true) only [w1,w2,w3,w4,qb6,ob,decide_true,decide_false,qi3,qg0,qc1,qj6,qd6,qe9,qb7,qg5,qd2,qa5,lg0,lg1,lgS,oj,qa6,qb1,mC_s,qb2,qc6,qa7,qa4,qb0,qa3,qd8,wt,qP9,qJ3,qj9,qk9,qd7,canB,Bool.not_not,Bool.or_comm]
  | ask wr g t=>
    simp only [qa9] at hw wt ⊢
    have w1:fEq S (.str (qn7 (.ask wr g t))) (.str "up")=some (.bl false):=by rw [qn6];cases wr <;> rfl
    have w2:fEq S (.str (qn7 (.ask wr g t))) (.str "down")=some (.bl false):=by rw [qn6];cases wr <;> rfl
    have w3:fEq S (.str (qn7 (.ask wr g t))) (.str "leave")=some (.bl false):=by rw [qn6];cases wr <;> rfl
    have w4:fEq S (.str (qn7 (.ask wr g t))) (.str "stop")=some (.bl false):=by rw [qn6];cases wr <;> rfl
    simp only [w1,w2,w3,w4,qb6,ob,qi3,qg0,qc1,qd6,qe9,qb7,qg5,qd2,qa5,lg0,lg1,lgS,oj,qa6,qb1,mC_s,qb2,mAnd_s,e3]
    by_cases hw':w=.out
    · subst hw'
      simp only [decide_true,kAnd_t,qd2,qc6,qa7,qa5,lg0,lg1,lgS,oj,ob,qa6,qa4,qb0,qa3,qd8,wt,qb1,mC_s,qb2,fIs_n,qJ3,qj9,qd7,canB,hw,Option.some.injEq]
      simp
    · simp only [decide_eq_false hw',kAnd_f,ob,qj9,qd7,canB,hw,Option.some.injEq,Bool.false_and]
noncomputable def q15 (all can:PF):MS:=mRet (mCall (qb3 (qi5 .tup)) (mCons (mComp (mItS (mCallN 1 all (mCons (mVar 0) (mNil)))) (gSet 0) (mTru (mCallN 2 can (mCons (mVar 1) (mCons (mVar 0) (mNil))))) (mVar 0) [none,some 1]) (mNil)))
noncomputable def mayA (R:Rm) (n:Nat):List Dd:=(allA n).filter (canB R)
theorem may_gen {all can:PF} {S:qa0} {R:Rm} {n:Nat} (ha:all [.int (n:Int)] S=some (.tup ((allA n).map Dd.d),S)) (hc:∀ dd∈allA n,can [rmD R,dd.d] S=some (.bl (canB R dd),S)) (h5:n≤5) {N:List Str} (hN:N.length=2):runM N (q15 all can) 2 [.int (n:Int),rmD R] S=some (.tup ((mayA R n).map Dd.d),S):=by
  have hst:qc0 N [.int (n:Int),rmD R]=[some (.int (n:Int)),some (rmD R)]:=by simp [qc0,hN,List.replicate]
  rw [qf8 (show [D.int (n:Int),rmD R].length=2 from rfl),hst]
  have k:=qo6 (S:=S) (t:=mTru (mCallN 2 can (mCons (mVar 1) (mCons (mVar 0) (mNil))))) (e:=mVar 0) (cap:=[none,some 1]) (env:=[some (.int (n:Int)),some (rmD R)]) (rest:=[some (rmD R)]) (a:=none) (enc:=Dd.d) (p:=canB R) (f:=Dd.d) (xs:=allA n) rfl (by unfold allA;rw [List.length_append,qy0,qC6];omega) (fun dd h=>by
    simp only [qt8,qc6,qa7,qa5,lg0,lg1,lgS,oj,ob,qa6,qa4,qb0,qa3,qd8,hc dd h,qu1]) (fun dd _ _=>by simp only [qa5,lg0,oj,ob,qa6])
  simp only [q15,qg5,qf0,qa7,qh1,qo4,qc6,qa5,lg0,lg1,lgS,oj,ob,qa6,qa4,qb0,qa3,qC3,ha,qX5,k,qf1,qn5,qj9,qd7];rfl
end MI
section
set_option maxHeartbeats 4000000
namespace K12
open PySem L2 MI PyProof.Rows
open M hiding mC mVar mOp mTest mChain mTru mAndT mOrT mNotT mAnd mOr mNotV mIf mNil mCons mTup mLst mLstR mUn mPartN mPart mSlice mCall mIsI mCallN mSkip mSeq mRet mDrop mIfS gSet gNilD gConsD gTupD gSubD mAsg mRange1 mRange2 mFor mComp mItS mTrue mMeth mEnum mPar mCnt mZip mDict mDictR mMethD mForD mListR mCompX mComp2 mCatR
def top (i:Nat):Stmt:=PySem.Challenge.pw_manyreaders_k12_deeds_that_may_be_done.main.body.getD i (.Pass ⟨0,0,0,0⟩)
abbrev qb9:Stmt:=top 11
abbrev qf4:Stmt:=top 13
abbrev qe3:Stmt:=top 12
abbrev qf6:Stmt:=top 28
abbrev qe1:Stmt:=top 14
abbrev qc5:Stmt:=top 27
abbrev qd9:Stmt:=top 7
abbrev qc2:Stmt:=top 3
abbrev qg7:Stmt:=top 4
abbrev qi2:Stmt:=top 9
abbrev qi1:Stmt:=top 8
abbrev qe5:Stmt:=top 16
abbrev qf3:Stmt:=top 20
abbrev qc4:Stmt:=top 18
abbrev qe2:Stmt:=top 19
abbrev qb8:Stmt:=top 21
abbrev qf5:Stmt:=top 22
abbrev qd5:Stmt:=top 25
abbrev qc3:Stmt:=top 23
abbrev qe4:Stmt:=top 24
abbrev qf2:Stmt:=top 17
abbrev qc8:Stmt:=top 26
abbrev qe0:Stmt:=top 15
abbrev qw4:Stmt:=top 29
noncomputable def qq7:D:=(.tup [(.str "up"),(.str "down"),(.str "leave"),(.str "stop")])
noncomputable def q69:D:=(.tup [(.str "read"),(.str "write")])
noncomputable def qn9:D:=(.tup [(.str "writes"),(.str "raised")])
structure Txt (w:World) (K:PySem.W.Frag) (mg:Str→Option Value):Prop where
  d__law_cell_at:qk7 K mg "_law_cell_at" qb9
  d__law_far:qk7 K mg "_law_far" qf4
  d__law_left:qk7 K mg "_law_left" qe3
  d__law_all:qk7 K mg "_law_all" qf6
  d__law_pick:qk7 K mg "_law_pick" qe1
  d__law_formed:qk7 K mg "_law_formed" qc5
  d_all_deeds:qk7 K mg "all_deeds" qd9
  d_guests_with:qk7 K mg "guests_with" qc2
  d_waiting:qk7 K mg "waiting" qg7
  d_can_do:qk7 K mg "can_do" qi2
  d_may_do:qk7 K mg "may_do" qi1
  d__law_deed:qk7 K mg "_law_deed" qe5
  d__law_put:qk7 K mg "_law_put" qf3
  d__law_fronts:qk7 K mg "_law_fronts" qc4
  d__law_lets:qk7 K mg "_law_lets" qe2
  d__law_settled:qk7 K mg "_law_settled" qb8
  d__law_can:qk7 K mg "_law_can" qf5
  d__law_asked:qk7 K mg "_law_asked" qd5
  d__law_marked:qk7 K mg "_law_marked" qc3
  d__law_done:qk7 K mg "_law_done" qe4
  d__law_row:qk7 K mg "_law_row" qf2
  d__law_same:qk7 K mg "_law_same" qc8
  d__law_rule:qk7 K mg "_law_rule" qe0
  d_law:qk7 K mg "law" qw4
  z_all:mg "all" = none
  z_bool:mg "bool" = none
  z_dict:mg "dict" = none
  z_enumerate:mg "enumerate" = none
  z_int:mg "int" = none
  z_isinstance:mg "isinstance" = none
  z_len:mg "len" = none
  z_list:mg "list" = none
  z_max:mg "max" = none
  z_min:mg "min" = none
  z_range:mg "range" = none
  z_str:mg "str" = none
  z_tuple:mg "tuple" = none
  z_zip:mg "zip" = none
  g_GUEST_WORDS:GC K mg "GUEST_WORDS" qq7
  g_WANTS:GC K mg "WANTS" q69
  g_WRITING_WORDS:GC K mg "WRITING_WORDS" qn9
section
variable {P:Program} {w:World} {K:PySem.W.Frag} {mg:Str→Option Value} {base:Heap}
noncomputable def N__law_cell_at:List Str:=["_law_script","_law_k"]
noncomputable def qp2:List (Str×GI):=[("len",.blt)]
noncomputable def qh9:=runM N__law_cell_at (evB (cOf N__law_cell_at qb9 qp2 []) (qa2 qb9)) 2
theorem qD7:N__law_cell_at.Nodup:=by decide +kernel
theorem qD0:qc9 N__law_cell_at ["_law_script","_law_k"] (qa1 qb9):=⟨rfl,rfl,rfl,qD7,rfl,by decide +kernel,by decide +kernel⟩
theorem qD4 (T:Txt w K mg):Fn P w K mg base 1 "_law_cell_at" 2 qh9:=
  qi9 T.d__law_cell_at qD0 (fun _ _ _ _ _ _=>usS fun _=>usS fun _=>us0 rfl) (GKs.mem (gs:=qp2) ⟨T.z_len,trivial⟩)
noncomputable def N__law_far:List Str:=["_law_far_here","_law_k"]
noncomputable def qz6:List (Str×GI):=[("range",.blt)]
noncomputable def qm9:=runM N__law_far (evB (cOf N__law_far qf4 qz6 []) (qa2 qf4)) 0
theorem q28:N__law_far.Nodup:=by decide +kernel
theorem q11:qc9 N__law_far [] (qa1 qf4):=⟨rfl,rfl,rfl,q28,rfl,by decide +kernel,by decide +kernel⟩
theorem q23 (T:Txt w K mg):Fn P w K mg base 1 "_law_far" 0 qm9:=
  qi9 T.d__law_far q11 (fun _ _ _ _ _ _=>us0 rfl) (GKs.mem (gs:=qz6) ⟨T.z_range,trivial⟩)
noncomputable def N__law_left:List Str:=["_law_script","_law_k","_law_cell","_law_seed"]
noncomputable def qv8:List (Str×GI):=[("_law_cell_at",.fn 2 qh9),("max",.blt),("_law_far",.fn 0 qm9),("len",.blt)]
noncomputable def qk2:=runM N__law_left (evB (cOf N__law_left qe3 qv8 [45]) (qa2 qe3)) 2
theorem qU8:N__law_left.Nodup:=by decide +kernel
theorem qS5:qc9 N__law_left ["_law_script","_law_k"] (qa1 qe3):=⟨rfl,rfl,rfl,qU8,rfl,by decide +kernel,by decide +kernel⟩
theorem qU0 (T:Txt w K mg):Fn P w K mg base 2 "_law_left" 2 qk2:=
  qi9 T.d__law_left qS5 (fun _ _ _ _ _ _=>usS fun _=>usS fun _=>us0 rfl) (GKs.mem (gs:=qv8) ⟨(qD4 T).up (by decide),T.z_max,(q23 T).up (by decide),T.z_len,trivial⟩)
noncomputable def N__law_all:List Str:=["_law_n","_law_found","_law_word"]
noncomputable def qz8:List (Str×GI):=[("range",.blt)]
noncomputable def qk4:=runM N__law_all (evB (cOf N__law_all qf6 qz8 [700192]) (qa2 qf6)) 1
theorem q30:N__law_all.Nodup:=by decide +kernel
theorem q13:qc9 N__law_all ["_law_n"] (qa1 qf6):=⟨rfl,rfl,rfl,q30,rfl,by decide +kernel,by decide +kernel⟩
theorem q24 (T:Txt w K mg):Fn P w K mg base 1 "_law_all" 1 qk4:=
  qi9 T.d__law_all q13 (fun _ _ _ _ _ _=>usS fun _=>us0 rfl) (GKs.mem (gs:=qz8) ⟨T.z_range,trivial⟩)
noncomputable def N__law_pick:List Str:=["_law_left_here","_law_many","_law_digit"]
noncomputable def qv6:List (Str×GI):=[]
noncomputable def qd4:=runM N__law_pick (evB (cOf N__law_pick qe1 qv6 []) (qa2 qe1)) 2
theorem qU6:N__law_pick.Nodup:=by decide +kernel
theorem qS3:qc9 N__law_pick ["_law_left_here","_law_many"] (qa1 qe1):=⟨rfl,rfl,rfl,qU6,rfl,by decide +kernel,by decide +kernel⟩
theorem qo1 (T:Txt w K mg):Fn P w K mg base 1 "_law_pick" 2 qd4:=
  qi9 T.d__law_pick qS3 (fun _ _ _ _ _ _=>usS fun _=>usS fun _=>us0 rfl) (GKs.mem (gs:=qv6) trivial)
noncomputable def N__law_formed:List Str:=["_law_left_here","_law_n","_law_words","_law_within","_law_waits","_law_g","_law_want","_law_mark","_law_entry"]
noncomputable def qq2:List (Str×GI):=[("tuple",.blt),("range",.blt),("_law_pick",.fn 2 qd4),("len",.blt)]
noncomputable def qh6:=runM N__law_formed (evB (cOf N__law_formed qc5 qq2 [183]) (qa2 qc5)) 2
theorem qI8:N__law_formed.Nodup:=by decide +kernel
theorem qI0:qc9 N__law_formed ["_law_left_here","_law_n"] (qa1 qc5):=⟨rfl,rfl,rfl,qI8,rfl,by decide +kernel,by decide +kernel⟩
theorem qI4 (T:Txt w K mg):Fn P w K mg base 2 "_law_formed" 2 qh6:=
  qi9 T.d__law_formed qI0 (fun _ _ _ _ _ _=>usS fun _=>usS fun _=>us0 rfl) (GKs.mem (gs:=qq2) ⟨T.z_tuple,T.z_range,(qo1 T).up (by decide),T.z_len,trivial⟩)
noncomputable def N_all_deeds:List Str:=["n","asks"]
noncomputable def qv4:List (Str×GI):=[("tuple",.blt),("WANTS",.con q69),("range",.blt),("GUEST_WORDS",.con qq7)]
noncomputable def qg3:=runM N_all_deeds (evB (cOf N_all_deeds qd9 qv4 []) (qa2 qd9)) 1
theorem qU3:N_all_deeds.Nodup:=by decide +kernel
theorem qS0:qc9 N_all_deeds ["n"] (qa1 qd9):=⟨rfl,rfl,rfl,qU3,rfl,by decide +kernel,by decide +kernel⟩
theorem qA7 (T:Txt w K mg):Fn P w K mg base 1 "all_deeds" 1 qg3:=
  qi9 T.d_all_deeds qS0 (fun _ _ _ _ _ _=>usS fun _=>us0 rfl) (GKs.mem (gs:=qv4) ⟨T.z_tuple,T.g_WANTS,T.z_range,T.g_GUEST_WORDS,trivial⟩)
noncomputable def N_guests_with:List Str:=["room","words"]
noncomputable def qp9:List (Str×GI):=[("tuple",.blt),("enumerate",.blt)]
noncomputable def qj0:=runM N_guests_with (evB (cOf N_guests_with qc2 qp9 []) (qa2 qc2)) 2
theorem qI5:N_guests_with.Nodup:=by decide +kernel
theorem qH7:qc9 N_guests_with ["room","words"] (qa1 qc2):=⟨rfl,rfl,rfl,qI5,rfl,by decide +kernel,by decide +kernel⟩
theorem qI1 (T:Txt w K mg):Fn P w K mg base 1 "guests_with" 2 qj0:=
  qi9 T.d_guests_with qH7 (fun _ _ _ _ _ _=>usS fun _=>usS fun _=>us0 rfl) (GKs.mem (gs:=qp9) ⟨T.z_tuple,T.z_enumerate,trivial⟩)
noncomputable def N_waiting:List Str:=["room","guest","entry"]
noncomputable def qG4:List (Str×GI):=[("guests_with",.fn 2 qj0)]
noncomputable def qm0:=runM N_waiting (evB (cOf N_waiting qg7 qG4 []) (qa2 qg7)) 2
theorem zf3:N_waiting.Nodup:=by decide +kernel
theorem ze7:qc9 N_waiting ["room","guest"] (qa1 qg7):=⟨rfl,rfl,rfl,zf3,rfl,by decide +kernel,by decide +kernel⟩
theorem zf1 (T:Txt w K mg):Fn P w K mg base 2 "waiting" 2 qm0:=
  qi9 T.d_waiting ze7 (fun _ _ _ _ _ _=>usS fun _=>usS fun _=>us0 rfl) (GKs.mem (gs:=qG4) ⟨(qI1 T).up (by decide),trivial⟩)
noncomputable def N_can_do:List Str:=["room","deed","word","guest","within"]
noncomputable def qP8:List (Str×GI):=[("WRITING_WORDS",.con qn9),("waiting",.fn 2 qm0)]
noncomputable def qq3:=runM N_can_do (evB (cOf N_can_do qi2 qP8 []) (qa2 qi2)) 2
theorem zn2:N_can_do.Nodup:=by decide +kernel
theorem zk7:qc9 N_can_do ["room","deed"] (qa1 qi2):=⟨rfl,rfl,rfl,zn2,rfl,by decide +kernel,by decide +kernel⟩
theorem zm1 (T:Txt w K mg):Fn P w K mg base 3 "can_do" 2 qq3:=
  qi9 T.d_can_do zk7 (fun _ _ _ _ _ _=>usS fun _=>usS fun _=>us0 rfl) (GKs.mem (gs:=qP8) ⟨T.g_WRITING_WORDS,(zf1 T).up (by decide),trivial⟩)
noncomputable def N_may_do:List Str:=["n","room"]
noncomputable def qP7:List (Str×GI):=[("tuple",.blt),("all_deeds",.fn 1 qg3),("can_do",.fn 2 qq3)]
noncomputable def ql6:=runM N_may_do (evB (cOf N_may_do qi1 qP7 []) (qa2 qi1)) 2
theorem zn0:N_may_do.Nodup:=by decide +kernel
theorem zk6:qc9 N_may_do ["n","room"] (qa1 qi1):=⟨rfl,rfl,rfl,zn0,rfl,by decide +kernel,by decide +kernel⟩
theorem zm0 (T:Txt w K mg):Fn P w K mg base 4 "may_do" 2 ql6:=
  qi9 T.d_may_do zk6 (fun _ _ _ _ _ _=>usS fun _=>usS fun _=>us0 rfl) (GKs.mem (gs:=qP7) ⟨T.z_tuple,(qA7 T).up (by decide),(zm1 T).up (by decide),trivial⟩)
noncomputable def N__law_deed:List Str:=["_law_left_here","_law_n","_law_guest","_law_way"]
noncomputable def qw0:List (Str×GI):=[("_law_pick",.fn 2 qd4)]
noncomputable def ql5:=runM N__law_deed (evB (cOf N__law_deed qe5 qw0 []) (qa2 qe5)) 2
theorem qV0:N__law_deed.Nodup:=by decide +kernel
theorem qS7:qc9 N__law_deed ["_law_left_here","_law_n"] (qa1 qe5):=⟨rfl,rfl,rfl,qV0,rfl,by decide +kernel,by decide +kernel⟩
theorem qU2 (T:Txt w K mg):Fn P w K mg base 2 "_law_deed" 2 ql5:=
  qi9 T.d__law_deed qS7 (fun _ _ _ _ _ _=>usS fun _=>usS fun _=>us0 rfl) (GKs.mem (gs:=qw0) ⟨(qo1 T).up (by decide),trivial⟩)
noncomputable def N__law_put:List Str:=["_law_within","_law_guest","_law_word"]
noncomputable def qz5:List (Str×GI):=[]
noncomputable def qh8:=runM N__law_put (evB (cOf N__law_put qf3 qz5 []) (qa2 qf3)) 3
theorem q27:N__law_put.Nodup:=by decide +kernel
theorem q10:qc9 N__law_put ["_law_within","_law_guest","_law_word"] (qa1 qf3):=⟨rfl,rfl,rfl,q27,rfl,by decide +kernel,by decide +kernel⟩
theorem qD3 (T:Txt w K mg):Fn P w K mg base 1 "_law_put" 3 qh8:=
  qi9 T.d__law_put q10 (fun _ _ _ _ _ _=>usS fun _=>usS fun _=>usS fun _=>us0 rfl) (GKs.mem (gs:=qz5) trivial)
noncomputable def N__law_fronts:List Str:=["_law_rule_here","_law_waits","_law_reading","_law_writing","_law_tagged"]
noncomputable def qq1:List (Str×GI):=[("enumerate",.blt),("list",.blt),("range",.blt),("len",.blt),("max",.blt)]
noncomputable def qj2:=runM N__law_fronts (evB (cOf N__law_fronts qc4 qq1 []) (qa2 qc4)) 2
theorem qI7:N__law_fronts.Nodup:=by decide +kernel
theorem qH9:qc9 N__law_fronts ["_law_rule_here","_law_waits"] (qa1 qc4):=⟨rfl,rfl,rfl,qI7,rfl,by decide +kernel,by decide +kernel⟩
theorem qI3 (T:Txt w K mg):Fn P w K mg base 1 "_law_fronts" 2 qj2:=
  qi9 T.d__law_fronts qH9 (fun _ _ _ _ _ _=>usS fun _=>usS fun _=>us0 rfl) (GKs.mem (gs:=qq1) ⟨T.z_enumerate,T.z_list,T.z_range,T.z_len,T.z_max,trivial⟩)
noncomputable def N__law_lets:List Str:=["_law_rule_here","_law_within","_law_want","_law_reading"]
noncomputable def qv7:List (Str×GI):=[("len",.blt)]
noncomputable def ql3:=runM N__law_lets (evB (cOf N__law_lets qe2 qv7 []) (qa2 qe2)) 3
theorem qU7:N__law_lets.Nodup:=by decide +kernel
theorem qS4:qc9 N__law_lets ["_law_rule_here","_law_within","_law_want"] (qa1 qe2):=⟨rfl,rfl,rfl,qU7,rfl,by decide +kernel,by decide +kernel⟩
theorem qT9 (T:Txt w K mg):Fn P w K mg base 1 "_law_lets" 3 ql3:=
  qi9 T.d__law_lets qS4 (fun _ _ _ _ _ _=>usS fun _=>usS fun _=>usS fun _=>us0 rfl) (GKs.mem (gs:=qv7) ⟨T.z_len,trivial⟩)
noncomputable def N__law_settled:List Str:=["_law_rule_here","_law_room","_law_within","_law_waits","_law_events","_law_turn","_law_alone","_law_some","_law_guest","_law_want","_law_mark","_law_rest","_law_ahead"]
noncomputable def qp1:List (Str×GI):=[("range",.blt),("len",.blt),("_law_put",.fn 3 qh8),("_law_fronts",.fn 2 qj2),("_law_lets",.fn 3 ql3),("tuple",.blt),("int",.blt)]
noncomputable def qe8:=runM N__law_settled (evB (cOf N__law_settled qb8 qp1 [104]) (qa2 qb8)) 2
theorem qD6:N__law_settled.Nodup:=by decide +kernel
theorem qC9:qc9 N__law_settled ["_law_rule_here","_law_room"] (qa1 qb8):=⟨rfl,rfl,rfl,qD6,rfl,by decide +kernel,by decide +kernel⟩
theorem qr8 (T:Txt w K mg):Fn P w K mg base 2 "_law_settled" 2 qe8:=
  qi9 T.d__law_settled qC9 (fun _ _ _ _ _ _=>usS fun _=>usS fun _=>us0 rfl) (GKs.mem (gs:=qp1) ⟨T.z_range,T.z_len,(qD3 T).up (by decide),(qI3 T).up (by decide),(qT9 T).up (by decide),T.z_tuple,T.z_int,trivial⟩)
noncomputable def N__law_can:List Str:=["_law_room","_law_deed_here","_law_within","_law_waits","_law_here","_law_stays","_law_fits"]
noncomputable def qz7:List (Str×GI):=[]
noncomputable def qh2:=runM N__law_can (evB (cOf N__law_can qf5 qz7 [124]) (qa2 qf5)) 2
theorem q29:N__law_can.Nodup:=by decide +kernel
theorem q12:qc9 N__law_can ["_law_room","_law_deed_here"] (qa1 qf5):=⟨rfl,rfl,rfl,q29,rfl,by decide +kernel,by decide +kernel⟩
theorem qD5 (T:Txt w K mg):Fn P w K mg base 1 "_law_can" 2 qh2:=
  qi9 T.d__law_can q12 (fun _ _ _ _ _ _=>usS fun _=>usS fun _=>us0 rfl) (GKs.mem (gs:=qz7) trivial)
noncomputable def N__law_asked:List Str:=["_law_rule_here","_law_room","_law_deed_here","_law_word","_law_guest","_law_rest","_law_entry","_law_events"]
noncomputable def qs4:List (Str×GI):=[("_law_settled",.fn 2 qe8),("tuple",.blt)]
noncomputable def qk3:=runM N__law_asked (evB (cOf N__law_asked qd5 qs4 []) (qa2 qd5)) 3
theorem qO2:N__law_asked.Nodup:=by decide +kernel
theorem qN3:qc9 N__law_asked ["_law_rule_here","_law_room","_law_deed_here"] (qa1 qd5):=⟨rfl,rfl,rfl,qO2,rfl,by decide +kernel,by decide +kernel⟩
theorem qN7 (T:Txt w K mg):Fn P w K mg base 3 "_law_asked" 3 qk3:=
  qi9 T.d__law_asked qN3 (fun _ _ _ _ _ _=>usS fun _=>usS fun _=>usS fun _=>us0 rfl) (GKs.mem (gs:=qs4) ⟨(qr8 T).up (by decide),T.z_tuple,trivial⟩)
noncomputable def N__law_marked:List Str:=["_law_rule_here","_law_here","_law_waits"]
noncomputable def qq0:List (Str×GI):=[("tuple",.blt)]
noncomputable def qj1:=runM N__law_marked (evB (cOf N__law_marked qc3 qq0 []) (qa2 qc3)) 3
theorem qI6:N__law_marked.Nodup:=by decide +kernel
theorem qH8:qc9 N__law_marked ["_law_rule_here","_law_here","_law_waits"] (qa1 qc3):=⟨rfl,rfl,rfl,qI6,rfl,by decide +kernel,by decide +kernel⟩
theorem qI2 (T:Txt w K mg):Fn P w K mg base 1 "_law_marked" 3 qj1:=
  qi9 T.d__law_marked qH8 (fun _ _ _ _ _ _=>usS fun _=>usS fun _=>usS fun _=>us0 rfl) (GKs.mem (gs:=qq0) ⟨T.z_tuple,trivial⟩)
noncomputable def N__law_done:List Str:=["_law_rule_here","_law_room","_law_deed_here","_law_within","_law_waits","_law_fewer","_law_gone","_law_events","_law_word","_law_guest","_law_here","_law_first","_law_there","_law_more"]
noncomputable def qv9:List (Str×GI):=[("tuple",.blt),("_law_settled",.fn 2 qe8),("_law_can",.fn 2 qh2),("_law_asked",.fn 3 qk3),("int",.blt),("_law_marked",.fn 3 qj1),("_law_put",.fn 3 qh8)]
noncomputable def ql4:=runM N__law_done (evB (cOf N__law_done qe4 qv9 []) (qa2 qe4)) 3
theorem qU9:N__law_done.Nodup:=by decide +kernel
theorem qS6:qc9 N__law_done ["_law_rule_here","_law_room","_law_deed_here"] (qa1 qe4):=⟨rfl,rfl,rfl,qU9,rfl,by decide +kernel,by decide +kernel⟩
theorem qU1 (T:Txt w K mg):Fn P w K mg base 4 "_law_done" 3 ql4:=
  qi9 T.d__law_done qS6 (fun _ _ _ _ _ _=>usS fun _=>usS fun _=>usS fun _=>us0 rfl) (GKs.mem (gs:=qv9) ⟨T.z_tuple,(qr8 T).up (by decide),(qD5 T).up (by decide),(qN7 T).up (by decide),T.z_int,(qI2 T).up (by decide),(qD3 T).up (by decide),trivial⟩)
noncomputable def N__law_row:List Str:=["_law_left_here","_law_rule_here","_law_n","_law_many","_law_room","_law_row_here","_law_turn","_law_deed_here","_law_found"]
noncomputable def qz4:List (Str×GI):=[("range",.blt),("_law_deed",.fn 2 ql5),("_law_done",.fn 3 ql4),("tuple",.blt)]
noncomputable def ql2:=runM N__law_row (evB (cOf N__law_row qf2 qz4 [74]) (qa2 qf2)) 4
theorem q26:N__law_row.Nodup:=by decide +kernel
theorem q09:qc9 N__law_row ["_law_left_here","_law_rule_here","_law_n","_law_many"] (qa1 qf2):=⟨rfl,rfl,rfl,q26,rfl,by decide +kernel,by decide +kernel⟩
theorem q22 (T:Txt w K mg):Fn P w K mg base 5 "_law_row" 4 ql2:=
  qi9 T.d__law_row q09 (fun _ _ _ _ _ _=>usS fun _=>usS fun _=>usS fun _=>usS fun _=>us0 rfl) (GKs.mem (gs:=qz4) ⟨T.z_range,(qU2 T).up (by decide),(qU1 T).up (by decide),T.z_tuple,trivial⟩)
noncomputable def N__law_same:List Str:=["_law_found","_law_due","_law_keys"]
noncomputable def ql1:List (Str×GI):=[("isinstance",.blt),("dict",.blt),("str",.blt),("all",.blt),("list",.blt),("tuple",.blt),("bool",.blt),("int",.blt),("len",.blt),("zip",.blt)]
noncomputable def ql7:=recF N__law_same qc8 ql1 [] "_law_same" 2
noncomputable def qg4:=ql7 8
theorem qU4:N__law_same.Nodup:=by decide +kernel
theorem qS1:qc9 N__law_same ["_law_found","_law_due"] (qa1 qc8):=⟨rfl,rfl,rfl,qU4,rfl,by decide +kernel,by decide +kernel⟩
theorem qT7 (T:Txt w K mg):Fn P w K mg base 9 "_law_same" 2 qg4:=
  rec_ok (gs:=ql1) (k:=0) T.d__law_same qS1 (fun _ _ _ _ _ _=>usS fun _=>usS fun _=>us0 rfl) ⟨T.z_isinstance,T.z_dict,T.z_str,T.z_all,T.z_list,T.z_tuple,T.z_bool,T.z_int,T.z_len,T.z_zip,trivial⟩ 8
noncomputable def N__law_rule:List Str:=["_law_left_here","_law_word","_law_most","_law_times"]
noncomputable def qv5:List (Str×GI):=[("_law_pick",.fn 2 qd4),("int",.blt)]
noncomputable def qk1:=runM N__law_rule (evB (cOf N__law_rule qe0 qv5 []) (qa2 qe0)) 1
theorem qU5:N__law_rule.Nodup:=by decide +kernel
theorem qS2:qc9 N__law_rule ["_law_left_here"] (qa1 qe0):=⟨rfl,rfl,rfl,qU5,rfl,by decide +kernel,by decide +kernel⟩
theorem qT8 (T:Txt w K mg):Fn P w K mg base 2 "_law_rule" 1 qk1:=
  qi9 T.d__law_rule qS2 (fun _ _ _ _ _ _=>usS fun _=>us0 rfl) (GKs.mem (gs:=qv5) ⟨(qo1 T).up (by decide),T.z_int,trivial⟩)
noncomputable def N_law:List Str:=["_law_script","_law_k","_law_left_here","_law_turn","_law_n","_law_every","_law_room","_law_due"]
noncomputable def g_law:List (Str×GI):=[("range",.blt),("max",.blt),("_law_left",.fn 2 qk2),("min",.blt),("_law_all",.fn 1 qk4),("_law_formed",.fn 2 qh6),("tuple",.blt),("len",.blt),("_law_pick",.fn 2 qd4),("may_do",.fn 2 ql6),("_law_row",.fn 4 ql2),("_law_same",.fn 2 qg4),("_law_rule",.fn 1 qk1),("_law_can",.fn 2 qh2),("all_deeds",.fn 1 qg3)]
noncomputable def zh4:=runM N_law (evB (cOf N_law qw4 g_law [100205]) (qa2 qw4)) 1
theorem nd_law:N_law.Nodup:=by decide +kernel
theorem sc_law:qc9 N_law ["_law_script"] (qa1 qw4):=⟨rfl,rfl,rfl,nd_law,rfl,by decide +kernel,by decide +kernel⟩
theorem gk_law (T:Txt w K mg):GKs P w K mg base 9 g_law:=⟨T.z_range,T.z_max,(qU0 T).up (by decide),T.z_min,(q24 T).up (by decide),(qI4 T).up (by decide),T.z_tuple,T.z_len,(qo1 T).up (by decide),(zm0 T).up (by decide),(q22 T).up (by decide),(qT7 T).up (by decide),(qT8 T).up (by decide),(qD5 T).up (by decide),(qA7 T).up (by decide),trivial⟩
end
theorem txt_mk {w:World} {K:PySem.W.Frag} {h:Heap} {mg:Str→Option Value} (X:K.In h) (G:h.Ns mainGlobals mg)
    {f0:Addr} {od0 an0:Option Addr} {sl0:Array (Option Value)} {oc0 kV0 dc0 pm0 cd0 ct0:Value}
    {f1:Addr} {od1 an1:Option Addr} {sl1:Array (Option Value)} {oc1 kV1 dc1 pm1 cd1 ct1:Value}
    {f2:Addr} {od2 an2:Option Addr} {sl2:Array (Option Value)} {oc2 kV2 dc2 pm2 cd2 ct2:Value}
    {f3:Addr} {od3 an3:Option Addr} {sl3:Array (Option Value)} {oc3 kV3 dc3 pm3 cd3 ct3:Value}
    {f4:Addr} {od4 an4:Option Addr} {sl4:Array (Option Value)} {oc4 kV4 dc4 pm4 cd4 ct4:Value}
    {f5:Addr} {od5 an5:Option Addr} {sl5:Array (Option Value)} {oc5 kV5 dc5 pm5 cd5 ct5:Value}
    {f6:Addr} {od6 an6:Option Addr} {sl6:Array (Option Value)} {oc6 kV6 dc6 pm6 cd6 ct6:Value}
    {f7:Addr} {od7 an7:Option Addr} {sl7:Array (Option Value)} {oc7 kV7 dc7 pm7 cd7 ct7:Value}
    {f8:Addr} {od8 an8:Option Addr} {sl8:Array (Option Value)} {oc8 kV8 dc8 pm8 cd8 ct8:Value}
    {f9:Addr} {od9 an9:Option Addr} {sl9:Array (Option Value)} {oc9 kV9 dc9 pm9 cd9 ct9:Value}
    {f10:Addr} {od10 an10:Option Addr} {sl10:Array (Option Value)} {oc10 kV10 dc10 pm10 cd10 ct10:Value}
    {f11:Addr} {od11 an11:Option Addr} {sl11:Array (Option Value)} {oc11 kV11 dc11 pm11 cd11 ct11:Value}
    {f12:Addr} {od12 an12:Option Addr} {sl12:Array (Option Value)} {oc12 kV12 dc12 pm12 cd12 ct12:Value}
    {f13:Addr} {od13 an13:Option Addr} {sl13:Array (Option Value)} {oc13 kV13 dc13 pm13 cd13 ct13:Value}
    {f14:Addr} {od14 an14:Option Addr} {sl14:Array (Option Value)} {oc14 kV14 dc14 pm14 cd14 ct14:Value}
    {f15:Addr} {od15 an15:Option Addr} {sl15:Array (Option Value)} {oc15 kV15 dc15 pm15 cd15 ct15:Value}
    {f16:Addr} {od16 an16:Option Addr} {sl16:Array (Option Value)} {oc16 kV16 dc16 pm16 cd16 ct16:Value}
    {f17:Addr} {od17 an17:Option Addr} {sl17:Array (Option Value)} {oc17 kV17 dc17 pm17 cd17 ct17:Value}
    {f18:Addr} {od18 an18:Option Addr} {sl18:Array (Option Value)} {oc18 kV18 dc18 pm18 cd18 ct18:Value}
    {f19:Addr} {od19 an19:Option Addr} {sl19:Array (Option Value)} {oc19 kV19 dc19 pm19 cd19 ct19:Value}
    {f20:Addr} {od20 an20:Option Addr} {sl20:Array (Option Value)} {oc20 kV20 dc20 pm20 cd20 ct20:Value}
    {f21:Addr} {od21 an21:Option Addr} {sl21:Array (Option Value)} {oc21 kV21 dc21 pm21 cd21 ct21:Value}
    {f22:Addr} {od22 an22:Option Addr} {sl22:Array (Option Value)} {oc22 kV22 dc22 pm22 cd22 ct22:Value}
    {f23:Addr} {od23 an23:Option Addr} {sl23:Array (Option Value)} {oc23 kV23 dc23 pm23 cd23 ct23:Value}
    {ga_GUEST_WORDS:Addr} {gn_GUEST_WORDS:Nat} {gs_GUEST_WORDS:Array (Option Value)} {gt_GUEST_WORDS0 gt_GUEST_WORDS1 gt_GUEST_WORDS2 gt_GUEST_WORDS3:Tok}
    {ga_WANTS:Addr} {gn_WANTS:Nat} {gs_WANTS:Array (Option Value)} {gt_WANTS0 gt_WANTS1:Tok}
    {ga_WRITING_WORDS:Addr} {gn_WRITING_WORDS:Nat} {gs_WRITING_WORDS:Array (Option Value)} {gt_WRITING_WORDS0 gt_WRITING_WORDS1:Tok}
    (a0:PySem.W.nsIn K mainGlobals "_law_cell_at" = some (some (.ref f0))) (l0:K.lookup f0=some ⟨oc0,od0,.func (PySem.W.fnOf "_law_cell_at" "_law_cell_at" (qa8 qb9) (qa2 qb9) (qa1 qb9) .none kV0 dc0 pm0 an0 cd0 ct0),sl0⟩) (c0:PySem.W.codeIn K cd0 "_law_cell_at" = true) (k0:PySem.W.keepIn K (.ref f0)=true)
    (a1:PySem.W.nsIn K mainGlobals "_law_far" = some (some (.ref f1))) (l1:K.lookup f1=some ⟨oc1,od1,.func (PySem.W.fnOf "_law_far" "_law_far" (qa8 qf4) (qa2 qf4) (qa1 qf4) .none kV1 dc1 pm1 an1 cd1 ct1),sl1⟩) (c1:PySem.W.codeIn K cd1 "_law_far" = true) (k1:PySem.W.keepIn K (.ref f1)=true)
    (a2:PySem.W.nsIn K mainGlobals "_law_left" = some (some (.ref f2))) (l2:K.lookup f2=some ⟨oc2,od2,.func (PySem.W.fnOf "_law_left" "_law_left" (qa8 qe3) (qa2 qe3) (qa1 qe3) .none kV2 dc2 pm2 an2 cd2 ct2),sl2⟩) (c2:PySem.W.codeIn K cd2 "_law_left" = true) (k2:PySem.W.keepIn K (.ref f2)=true)
    (a3:PySem.W.nsIn K mainGlobals "_law_all" = some (some (.ref f3))) (l3:K.lookup f3=some ⟨oc3,od3,.func (PySem.W.fnOf "_law_all" "_law_all" (qa8 qf6) (qa2 qf6) (qa1 qf6) .none kV3 dc3 pm3 an3 cd3 ct3),sl3⟩) (c3:PySem.W.codeIn K cd3 "_law_all" = true) (k3:PySem.W.keepIn K (.ref f3)=true)
    (a4:PySem.W.nsIn K mainGlobals "_law_pick" = some (some (.ref f4))) (l4:K.lookup f4=some ⟨oc4,od4,.func (PySem.W.fnOf "_law_pick" "_law_pick" (qa8 qe1) (qa2 qe1) (qa1 qe1) .none kV4 dc4 pm4 an4 cd4 ct4),sl4⟩) (c4:PySem.W.codeIn K cd4 "_law_pick" = true) (k4:PySem.W.keepIn K (.ref f4)=true)
    (a5:PySem.W.nsIn K mainGlobals "_law_formed" = some (some (.ref f5))) (l5:K.lookup f5=some ⟨oc5,od5,.func (PySem.W.fnOf "_law_formed" "_law_formed" (qa8 qc5) (qa2 qc5) (qa1 qc5) .none kV5 dc5 pm5 an5 cd5 ct5),sl5⟩) (c5:PySem.W.codeIn K cd5 "_law_formed" = true) (k5:PySem.W.keepIn K (.ref f5)=true)
    (a6:PySem.W.nsIn K mainGlobals "all_deeds" = some (some (.ref f6))) (l6:K.lookup f6=some ⟨oc6,od6,.func (PySem.W.fnOf "all_deeds" "all_deeds" (qa8 qd9) (qa2 qd9) (qa1 qd9) .none kV6 dc6 pm6 an6 cd6 ct6),sl6⟩) (c6:PySem.W.codeIn K cd6 "all_deeds" = true) (k6:PySem.W.keepIn K (.ref f6)=true)
    (a7:PySem.W.nsIn K mainGlobals "guests_with" = some (some (.ref f7))) (l7:K.lookup f7=some ⟨oc7,od7,.func (PySem.W.fnOf "guests_with" "guests_with" (qa8 qc2) (qa2 qc2) (qa1 qc2) .none kV7 dc7 pm7 an7 cd7 ct7),sl7⟩) (c7:PySem.W.codeIn K cd7 "guests_with" = true) (k7:PySem.W.keepIn K (.ref f7)=true)
    (a8:PySem.W.nsIn K mainGlobals "waiting" = some (some (.ref f8))) (l8:K.lookup f8=some ⟨oc8,od8,.func (PySem.W.fnOf "waiting" "waiting" (qa8 qg7) (qa2 qg7) (qa1 qg7) .none kV8 dc8 pm8 an8 cd8 ct8),sl8⟩) (c8:PySem.W.codeIn K cd8 "waiting" = true) (k8:PySem.W.keepIn K (.ref f8)=true)
    (a9:PySem.W.nsIn K mainGlobals "can_do" = some (some (.ref f9))) (l9:K.lookup f9=some ⟨oc9,od9,.func (PySem.W.fnOf "can_do" "can_do" (qa8 qi2) (qa2 qi2) (qa1 qi2) .none kV9 dc9 pm9 an9 cd9 ct9),sl9⟩) (c9:PySem.W.codeIn K cd9 "can_do" = true) (k9:PySem.W.keepIn K (.ref f9)=true)
    (a10:PySem.W.nsIn K mainGlobals "may_do" = some (some (.ref f10))) (l10:K.lookup f10=some ⟨oc10,od10,.func (PySem.W.fnOf "may_do" "may_do" (qa8 qi1) (qa2 qi1) (qa1 qi1) .none kV10 dc10 pm10 an10 cd10 ct10),sl10⟩) (c10:PySem.W.codeIn K cd10 "may_do" = true) (k10:PySem.W.keepIn K (.ref f10)=true)
    (a11:PySem.W.nsIn K mainGlobals "_law_deed" = some (some (.ref f11))) (l11:K.lookup f11=some ⟨oc11,od11,.func (PySem.W.fnOf "_law_deed" "_law_deed" (qa8 qe5) (qa2 qe5) (qa1 qe5) .none kV11 dc11 pm11 an11 cd11 ct11),sl11⟩) (c11:PySem.W.codeIn K cd11 "_law_deed" = true) (k11:PySem.W.keepIn K (.ref f11)=true)
    (a12:PySem.W.nsIn K mainGlobals "_law_put" = some (some (.ref f12))) (l12:K.lookup f12=some ⟨oc12,od12,.func (PySem.W.fnOf "_law_put" "_law_put" (qa8 qf3) (qa2 qf3) (qa1 qf3) .none kV12 dc12 pm12 an12 cd12 ct12),sl12⟩) (c12:PySem.W.codeIn K cd12 "_law_put" = true) (k12:PySem.W.keepIn K (.ref f12)=true)
    (a13:PySem.W.nsIn K mainGlobals "_law_fronts" = some (some (.ref f13))) (l13:K.lookup f13=some ⟨oc13,od13,.func (PySem.W.fnOf "_law_fronts" "_law_fronts" (qa8 qc4) (qa2 qc4) (qa1 qc4) .none kV13 dc13 pm13 an13 cd13 ct13),sl13⟩) (c13:PySem.W.codeIn K cd13 "_law_fronts" = true) (k13:PySem.W.keepIn K (.ref f13)=true)
    (a14:PySem.W.nsIn K mainGlobals "_law_lets" = some (some (.ref f14))) (l14:K.lookup f14=some ⟨oc14,od14,.func (PySem.W.fnOf "_law_lets" "_law_lets" (qa8 qe2) (qa2 qe2) (qa1 qe2) .none kV14 dc14 pm14 an14 cd14 ct14),sl14⟩) (c14:PySem.W.codeIn K cd14 "_law_lets" = true) (k14:PySem.W.keepIn K (.ref f14)=true)
    (a15:PySem.W.nsIn K mainGlobals "_law_settled" = some (some (.ref f15))) (l15:K.lookup f15=some ⟨oc15,od15,.func (PySem.W.fnOf "_law_settled" "_law_settled" (qa8 qb8) (qa2 qb8) (qa1 qb8) .none kV15 dc15 pm15 an15 cd15 ct15),sl15⟩) (c15:PySem.W.codeIn K cd15 "_law_settled" = true) (k15:PySem.W.keepIn K (.ref f15)=true)
    (a16:PySem.W.nsIn K mainGlobals "_law_can" = some (some (.ref f16))) (l16:K.lookup f16=some ⟨oc16,od16,.func (PySem.W.fnOf "_law_can" "_law_can" (qa8 qf5) (qa2 qf5) (qa1 qf5) .none kV16 dc16 pm16 an16 cd16 ct16),sl16⟩) (c16:PySem.W.codeIn K cd16 "_law_can" = true) (k16:PySem.W.keepIn K (.ref f16)=true)
    (a17:PySem.W.nsIn K mainGlobals "_law_asked" = some (some (.ref f17))) (l17:K.lookup f17=some ⟨oc17,od17,.func (PySem.W.fnOf "_law_asked" "_law_asked" (qa8 qd5) (qa2 qd5) (qa1 qd5) .none kV17 dc17 pm17 an17 cd17 ct17),sl17⟩) (c17:PySem.W.codeIn K cd17 "_law_asked" = true) (k17:PySem.W.keepIn K (.ref f17)=true)
    (a18:PySem.W.nsIn K mainGlobals "_law_marked" = some (some (.ref f18))) (l18:K.lookup f18=some ⟨oc18,od18,.func (PySem.W.fnOf "_law_marked" "_law_marked" (qa8 qc3) (qa2 qc3) (qa1 qc3) .none kV18 dc18 pm18 an18 cd18 ct18),sl18⟩) (c18:PySem.W.codeIn K cd18 "_law_marked" = true) (k18:PySem.W.keepIn K (.ref f18)=true)
    (a19:PySem.W.nsIn K mainGlobals "_law_done" = some (some (.ref f19))) (l19:K.lookup f19=some ⟨oc19,od19,.func (PySem.W.fnOf "_law_done" "_law_done" (qa8 qe4) (qa2 qe4) (qa1 qe4) .none kV19 dc19 pm19 an19 cd19 ct19),sl19⟩) (c19:PySem.W.codeIn K cd19 "_law_done" = true) (k19:PySem.W.keepIn K (.ref f19)=true)
    (a20:PySem.W.nsIn K mainGlobals "_law_row" = some (some (.ref f20))) (l20:K.lookup f20=some ⟨oc20,od20,.func (PySem.W.fnOf "_law_row" "_law_row" (qa8 qf2) (qa2 qf2) (qa1 qf2) .none kV20 dc20 pm20 an20 cd20 ct20),sl20⟩) (c20:PySem.W.codeIn K cd20 "_law_row" = true) (k20:PySem.W.keepIn K (.ref f20)=true)
    (a21:PySem.W.nsIn K mainGlobals "_law_same" = some (some (.ref f21))) (l21:K.lookup f21=some ⟨oc21,od21,.func (PySem.W.fnOf "_law_same" "_law_same" (qa8 qc8) (qa2 qc8) (qa1 qc8) .none kV21 dc21 pm21 an21 cd21 ct21),sl21⟩) (c21:PySem.W.codeIn K cd21 "_law_same" = true) (k21:PySem.W.keepIn K (.ref f21)=true)
    (a22:PySem.W.nsIn K mainGlobals "_law_rule" = some (some (.ref f22))) (l22:K.lookup f22=some ⟨oc22,od22,.func (PySem.W.fnOf "_law_rule" "_law_rule" (qa8 qe0) (qa2 qe0) (qa1 qe0) .none kV22 dc22 pm22 an22 cd22 ct22),sl22⟩) (c22:PySem.W.codeIn K cd22 "_law_rule" = true) (k22:PySem.W.keepIn K (.ref f22)=true)
    (a23:PySem.W.nsIn K mainGlobals "law" = some (some (.ref f23))) (l23:K.lookup f23=some ⟨oc23,od23,.func (PySem.W.fnOf "law" "law" (qa8 qw4) (qa2 qw4) (qa1 qw4) .none kV23 dc23 pm23 an23 cd23 ct23),sl23⟩) (c23:PySem.W.codeIn K cd23 "law" = true) (k23:PySem.W.keepIn K (.ref f23)=true)
    (z_all:PySem.W.nsIn K mainGlobals "all" = some none)
    (z_bool:PySem.W.nsIn K mainGlobals "bool" = some none)
    (z_dict:PySem.W.nsIn K mainGlobals "dict" = some none)
    (z_enumerate:PySem.W.nsIn K mainGlobals "enumerate" = some none)
    (z_int:PySem.W.nsIn K mainGlobals "int" = some none)
    (z_isinstance:PySem.W.nsIn K mainGlobals "isinstance" = some none)
    (z_len:PySem.W.nsIn K mainGlobals "len" = some none)
    (z_list:PySem.W.nsIn K mainGlobals "list" = some none)
    (z_max:PySem.W.nsIn K mainGlobals "max" = some none)
    (z_min:PySem.W.nsIn K mainGlobals "min" = some none)
    (z_range:PySem.W.nsIn K mainGlobals "range" = some none)
    (z_str:PySem.W.nsIn K mainGlobals "str" = some none)
    (z_tuple:PySem.W.nsIn K mainGlobals "tuple" = some none)
    (z_zip:PySem.W.nsIn K mainGlobals "zip" = some none)
    (g_GUEST_WORDS:PySem.W.nsIn K mainGlobals "GUEST_WORDS" = some (some (.ref ga_GUEST_WORDS))) (gl_GUEST_WORDS:K.lookup ga_GUEST_WORDS=some ⟨.type "tuple",none,.seq #[.str "up" gt_GUEST_WORDS0,.str "down" gt_GUEST_WORDS1,.str "leave" gt_GUEST_WORDS2,.str "stop" gt_GUEST_WORDS3] gn_GUEST_WORDS,gs_GUEST_WORDS⟩)
    (g_WANTS:PySem.W.nsIn K mainGlobals "WANTS" = some (some (.ref ga_WANTS))) (gl_WANTS:K.lookup ga_WANTS=some ⟨.type "tuple",none,.seq #[.str "read" gt_WANTS0,.str "write" gt_WANTS1] gn_WANTS,gs_WANTS⟩)
    (g_WRITING_WORDS:PySem.W.nsIn K mainGlobals "WRITING_WORDS" = some (some (.ref ga_WRITING_WORDS))) (gl_WRITING_WORDS:K.lookup ga_WRITING_WORDS=some ⟨.type "tuple",none,.seq #[.str "writes" gt_WRITING_WORDS0,.str "raised" gt_WRITING_WORDS1] gn_WRITING_WORDS,gs_WRITING_WORDS⟩):Txt w K mg:=
  ⟨⟨_,_,qi4 (st:=qb9) l0 c0 k0,PySem.W.mg_of X G a0⟩,
   ⟨_,_,qi4 (st:=qf4) l1 c1 k1,PySem.W.mg_of X G a1⟩,
   ⟨_,_,qi4 (st:=qe3) l2 c2 k2,PySem.W.mg_of X G a2⟩,
   ⟨_,_,qi4 (st:=qf6) l3 c3 k3,PySem.W.mg_of X G a3⟩,
   ⟨_,_,qi4 (st:=qe1) l4 c4 k4,PySem.W.mg_of X G a4⟩,
   ⟨_,_,qi4 (st:=qc5) l5 c5 k5,PySem.W.mg_of X G a5⟩,
   ⟨_,_,qi4 (st:=qd9) l6 c6 k6,PySem.W.mg_of X G a6⟩,
   ⟨_,_,qi4 (st:=qc2) l7 c7 k7,PySem.W.mg_of X G a7⟩,
   ⟨_,_,qi4 (st:=qg7) l8 c8 k8,PySem.W.mg_of X G a8⟩,
   ⟨_,_,qi4 (st:=qi2) l9 c9 k9,PySem.W.mg_of X G a9⟩,
   ⟨_,_,qi4 (st:=qi1) l10 c10 k10,PySem.W.mg_of X G a10⟩,
   ⟨_,_,qi4 (st:=qe5) l11 c11 k11,PySem.W.mg_of X G a11⟩,
   ⟨_,_,qi4 (st:=qf3) l12 c12 k12,PySem.W.mg_of X G a12⟩,
   ⟨_,_,qi4 (st:=qc4) l13 c13 k13,PySem.W.mg_of X G a13⟩,
   ⟨_,_,qi4 (st:=qe2) l14 c14 k14,PySem.W.mg_of X G a14⟩,
   ⟨_,_,qi4 (st:=qb8) l15 c15 k15,PySem.W.mg_of X G a15⟩,
   ⟨_,_,qi4 (st:=qf5) l16 c16 k16,PySem.W.mg_of X G a16⟩,
   ⟨_,_,qi4 (st:=qd5) l17 c17 k17,PySem.W.mg_of X G a17⟩,
   ⟨_,_,qi4 (st:=qc3) l18 c18 k18,PySem.W.mg_of X G a18⟩,
   ⟨_,_,qi4 (st:=qe4) l19 c19 k19,PySem.W.mg_of X G a19⟩,
   ⟨_,_,qi4 (st:=qf2) l20 c20 k20,PySem.W.mg_of X G a20⟩,
   ⟨_,_,qi4 (st:=qc8) l21 c21 k21,PySem.W.mg_of X G a21⟩,
   ⟨_,_,qi4 (st:=qe0) l22 c22 k22,PySem.W.mg_of X G a22⟩,
   ⟨_,_,qi4 (st:=qw4) l23 c23 k23,PySem.W.mg_of X G a23⟩,
   PySem.W.mg_none_of X G z_all,
   PySem.W.mg_none_of X G z_bool,
   PySem.W.mg_none_of X G z_dict,
   PySem.W.mg_none_of X G z_enumerate,
   PySem.W.mg_none_of X G z_int,
   PySem.W.mg_none_of X G z_isinstance,
   PySem.W.mg_none_of X G z_len,
   PySem.W.mg_none_of X G z_list,
   PySem.W.mg_none_of X G z_max,
   PySem.W.mg_none_of X G z_min,
   PySem.W.mg_none_of X G z_range,
   PySem.W.mg_none_of X G z_str,
   PySem.W.mg_none_of X G z_tuple,
   PySem.W.mg_none_of X G z_zip,
   ⟨_,.ref ga_GUEST_WORDS,PySem.W.mg_of X G g_GUEST_WORDS,rfl,fun μ H=>.ktup (vs:=[V.str "up",V.str "down",V.str "leave",V.str "stop"]) ⟨_,_,_,gl_GUEST_WORDS,rfl,rfl,rfl,(show 4≤sizeLine by decide),.cons ⟨_,rfl⟩ (.cons ⟨_,rfl⟩ (.cons ⟨_,rfl⟩ (.cons ⟨_,rfl⟩ (.nil))))⟩ (.cons (.str _) (.cons (.str _) (.cons (.str _) (.cons (.str _) (.nil)))))⟩,
   ⟨_,.ref ga_WANTS,PySem.W.mg_of X G g_WANTS,rfl,fun μ H=>.ktup (vs:=[V.str "read",V.str "write"]) ⟨_,_,_,gl_WANTS,rfl,rfl,rfl,(show 2≤sizeLine by decide),.cons ⟨_,rfl⟩ (.cons ⟨_,rfl⟩ (.nil))⟩ (.cons (.str _) (.cons (.str _) (.nil)))⟩,
   ⟨_,.ref ga_WRITING_WORDS,PySem.W.mg_of X G g_WRITING_WORDS,rfl,fun μ H=>.ktup (vs:=[V.str "writes",V.str "raised"]) ⟨_,_,_,gl_WRITING_WORDS,rfl,rfl,rfl,(show 2≤sizeLine by decide),.cons ⟨_,rfl⟩ (.cons ⟨_,rfl⟩ (.nil))⟩ (.cons (.str _) (.cons (.str _) (.nil)))⟩⟩
theorem all_mk {l:PySem.W.OpenLaw} {w:World} {K:PySem.W.Frag} {h:Heap} {mg:Str→Option Value} {fa:Addr} (X:K.In h) (G:h.Ns mainGlobals mg) (hfa:mg "law" = some (.ref fa)) (T:Txt w K mg) :
    ∃ fd:FuncData,(∀ (s:Shared) (v:Value),BindsTo s fd ⟨[v],[]⟩ [("_law_script",v)])∧∀ base:Heap,K.In base→base.Ns mainGlobals mg→FnOk l.prog w K mg base CX0 10 fa fd ["_law_script"] (spM K 1 zh4):=
  law_ev T.d_law hfa sc_law (fun _ _ _ _ _ _ _=>rfl) fun base=>gk_law T
theorem walk {l:PySem.W.OpenLaw} {q:Program} {loose:List Str} {XP:(Str→Option Value)→Heap→Prop} {YP:World→Heap→Prop} {d:DefRec} {K:Params→PySem.W.Frag} (hn:l.most=some 63) (hdf:d.params.defaults=[]) (hnm:d.name = "law")
    (hY:∀ (w:World) (h:Heap),YP w h→(K w.params).In h) (hlaw:∀ ns:List Int,ns.length≤63→∃ S',zh4 [.rol (ns.map .int)] []=some (.bl true,S'))
    (F:∀ (w:World) (mg:Str→Option Value) (h:Heap),(K w.params).In h→h.Ns mainGlobals mg→Txt w (K w.params) mg) :
    PySem.W.WalkO q loose XP YP l.row.toRowW d [] (fun f vs=>PySem.call f vs):=
  L2.walk_of (n:=63) (k:=10) (x:="_law_script") (CX:=fun _=>CX0) (sp:=fun w=>spM (K w.params) 1 zh4) hn (by decide) hdf ⟨rfl,by decide,by decide⟩ hY
    (fun w mg fa h KX G hmg=>all_mk KX G (hnm ▸ hmg) (F w mg h KX G)) (fun _ _ a ns hl _ hS=>law_sp hlaw hl hS) fun _ _ _ _ _ z=>z
end K12
end
section
set_option maxHeartbeats 4000000
namespace K12
open PySem L2 MI PyProof.Rows
open M hiding mC mVar mOp mTest mChain mTru mAndT mOrT mNotT mAnd mOr mNotV mIf mNil mCons mTup mLst mLstR mUn mPartN mPart mSlice mCall mIsI mCallN mSkip mSeq mRet mDrop mIfS gSet gNilD gConsD gTupD gSubD mAsg mRange1 mRange2 mFor mComp mItS mTrue mMeth mEnum mPar mCnt mZip mDict mDictR mMethD mForD mListR mCompX mComp2 mCatR
noncomputable def qt7:MS:=
  qx2
theorem qE0:qh9=runM N__law_cell_at qt7 2:=by
  unfold qh9
  rw [show evB (cOf N__law_cell_at qb9 qp2 []) (qa2 qb9)=qt7 from rfl]
noncomputable def qK5:MS:=
  zq2
theorem q35:qm9=runM N__law_far qK5 0:=by
  unfold qm9
  rw [show evB (cOf N__law_far qf4 qz6 []) (qa2 qf4)=qK5 from rfl]
noncomputable def qE5:MS:=
  qP3 qh9 qm9
theorem qV8:qk2=runM N__law_left qE5 2:=by
  unfold qk2
  rw [show evB (cOf N__law_left qe3 qv8 [45]) (qa2 qe3)=qE5 from rfl]
noncomputable def qy4:MS:=
  mSeq (mAsg (mCatR (mComp (mRange1 (mCons (mVar 0) (mNil))) (gSet 0) (mTrue) (mTup (mCons (mC (.str "read")) (mCons (mVar 0) (mCons (mC .non) (mNil))))) [none]) (mComp (mRange1 (mCons (mVar 0) (mNil))) (gSet 0) (mTrue) (mTup (mCons (mC (.str "write")) (mCons (mVar 0) (mCons (mC .non) (mNil))))) [none])) (gSet 1)) (mSeq (mForD (mTup (mCons (mC (.str "up")) (mCons (mC (.str "down")) (mCons (mC (.str "leave")) (mCons (mC (.str "stop")) (mNil)))))) (gSet 2) (mDrop (mMeth qs6 (mVar 1) (mCons (mComp (mRange1 (mCons (mVar 0) (mNil))) (gSet 0) (mTrue) (mTup (mCons (mVar 1) (mCons (mVar 0) (mNil)))) [none,some 2]) (mNil))))) (mRet (mVar 1)))
theorem q37:qk4=runM N__law_all qy4 1:=by
  unfold qk4
  rw [show evB (cOf N__law_all qf6 qz8 [700192]) (qa2 qf6)=qy4 from rfl]
noncomputable def qE3:MS:=
  qP2
theorem qV6:qd4=runM N__law_pick qE3 2:=by
  unfold qd4
  rw [show evB (cOf N__law_pick qe1 qv6 []) (qa2 qe1)=qE3 from rfl]
noncomputable def qw9:MS:=
  qF5 qd4
theorem qJ2:qh6=runM N__law_formed qw9 2:=by
  unfold qh6
  rw [show evB (cOf N__law_formed qc5 qq2 [183]) (qa2 qc5)=qw9 from rfl]
noncomputable def qu7:MS:=
  mSeq (mAsg (mComp2 (mItS (mC q69)) (gSet 0) (mTrue) (mRange1 (mCons (mVar 2) (mNil))) (gSet 1) (mTrue) (mTup (mCons (mVar 0) (mCons (mVar 1) (mCons (mC .non) (mNil))))) [none,none,some 0]) (gSet 1)) (mRet (mCall (qb3 (qi5 .tup)) (mCons (mOp qc7 (mVar 1) (mComp2 (mItS (mC qq7)) (gSet 0) (mTrue) (mRange1 (mCons (mVar 2) (mNil))) (gSet 1) (mTrue) (mTup (mCons (mVar 0) (mCons (mVar 1) (mNil)))) [none,none,some 0])) (mNil))))
theorem qV3:qg3=runM N_all_deeds qu7 1:=by
  unfold qg3
  rw [show evB (cOf N_all_deeds qd9 qv4 []) (qa2 qd9)=qu7 from rfl]
noncomputable def qw6:MS:=
  zl1
theorem qI9:qj0=runM N_guests_with qw6 2:=by
  unfold qj0
  rw [show evB (cOf N_guests_with qc2 qp9 []) (qa2 qc2)=qw6 from rfl]
noncomputable def qW2:MS:=
  qN6 qj0
theorem zf6:qm0=runM N_waiting qW2 2:=by
  unfold qm0
  rw [show evB (cOf N_waiting qg7 qG4 []) (qa2 qg7)=qW2 from rfl]
noncomputable def qO6:MS:=
  mSeq (mIfS (mTest (mOp fEq (mOp fIxX (mVar 1) (mC (.int 0))) (mC (.str "tick")))) (mRet (mC (.bl true))) (mSkip)) (mSeq (mAsg (mSlice (mVar 1) (mPartN) (mPart (mC (.int 2)))) (gTupD 2 (gConsD (gSet 2) (gConsD (gSet 3) (gNilD))))) (mSeq (mAsg (mOp fIxX (mOp fIxX (mVar 0) (mC (.int 0))) (mVar 3)) (gSet 4)) (mSeq (mIfS (mTest (mOp fEq (mVar 2) (mC (.str "up")))) (mRet (mOp fEq (mVar 4) (mC (.str "reads")))) (mSkip)) (mSeq (mIfS (mTest (mOp fEq (mVar 2) (mC (.str "down")))) (mRet (mOp fIn (mVar 4) (mC qn9))) (mSkip)) (mSeq (mIfS (mTest (mOp fEq (mVar 2) (mC (.str "leave")))) (mRet (mOp fNe (mVar 4) (mC (.str "out")))) (mSkip)) (mSeq (mIfS (mTest (mOp fEq (mVar 2) (mC (.str "stop")))) (mRet (mOp qG6 (mCallN 2 qm0 (mCons (mVar 0) (mCons (mVar 3) (mNil)))) (mC .non))) (mSkip)) (mRet (mAnd (mOp fEq (mVar 4) (mC (.str "out"))) (mOp fIs (mCallN 2 qm0 (mCons (mVar 0) (mCons (mVar 3) (mNil)))) (mC .non))))))))))
theorem zo2:qq3=runM N_can_do qO6 2:=by
  unfold qq3
  rw [show evB (cOf N_can_do qi2 qP8 []) (qa2 qi2)=qO6 from rfl]
noncomputable def qO5:MS:=
  mRet (mCall (qb3 (qi5 .tup)) (mCons (mComp (mItS (mCallN 1 qg3 (mCons (mVar 0) (mNil)))) (gSet 0) (mTru (mCallN 2 qq3 (mCons (mVar 1) (mCons (mVar 0) (mNil))))) (mVar 0) [none,some 1]) (mNil)))
theorem zo1:ql6=runM N_may_do qO5 2:=by
  unfold ql6
  rw [show evB (cOf N_may_do qi1 qP7 []) (qa2 qi1)=qO5 from rfl]
noncomputable def qE7:MS:=
  qF6 qd4
theorem qW0:ql5=runM N__law_deed qE7 2:=by
  unfold ql5
  rw [show evB (cOf N__law_deed qe5 qw0 []) (qa2 qe5)=qE7 from rfl]
noncomputable def qK4:MS:=
  zq1
theorem q34:qh8=runM N__law_put qK4 3:=by
  unfold qh8
  rw [show evB (cOf N__law_put qf3 qz5 []) (qa2 qf3)=qK4 from rfl]
noncomputable def qw8:MS:=
  qF4
theorem qJ1:qj2=runM N__law_fronts qw8 2:=by
  unfold qj2
  rw [show evB (cOf N__law_fronts qc4 qq1 []) (qa2 qc4)=qw8 from rfl]
noncomputable def qE4:MS:=
  q52
theorem qV7:ql3=runM N__law_lets qE4 3:=by
  unfold ql3
  rw [show evB (cOf N__law_lets qe2 qv7 []) (qa2 qe2)=qE4 from rfl]
noncomputable def qt6:MS:=
  qy9 qj2 ql3 qh8
theorem qD9:qe8=runM N__law_settled qt6 2:=by
  unfold qe8
  rw [show evB (cOf N__law_settled qb8 qp1 [104]) (qa2 qb8)=qt6 from rfl]
noncomputable def qK6:MS:=
  zb0
theorem q36:qh2=runM N__law_can qK6 2:=by
  unfold qh2
  rw [show evB (cOf N__law_can qf5 qz7 [124]) (qa2 qf5)=qK6 from rfl]
noncomputable def qA9:MS:=
  qP4 qe8
theorem qO4:qk3=runM N__law_asked qA9 3:=by
  unfold qk3
  rw [show evB (cOf N__law_asked qd5 qs4 []) (qa2 qd5)=qA9 from rfl]
noncomputable def qw7:MS:=
  qs0
theorem qJ0:qj1=runM N__law_marked qw7 3:=by
  unfold qj1
  rw [show evB (cOf N__law_marked qc3 qq0 []) (qa2 qc3)=qw7 from rfl]
noncomputable def qE6:MS:=
  qs1 qh2 qk3 qe8 qj1 qh8
theorem qV9:ql4=runM N__law_done qE6 3:=by
  unfold ql4
  rw [show evB (cOf N__law_done qe4 qv9 []) (qa2 qe4)=qE6 from rfl]
noncomputable def qK3:MS:=
  zq0 ql5 ql4
theorem q33:ql2=runM N__law_row qK3 4:=by
  unfold ql2
  rw [show evB (cOf N__law_row qf2 qz4 [74]) (qa2 qf2)=qK3 from rfl]
noncomputable def qE1 (qg4:List D→qa0→Option (D×qa0)):MS:=
  qv1 qg4
theorem qV4 (j:Nat):ql7 (j+1)=runM N__law_same (qE1 (ql7 j)) 2:=by
  unfold ql7
  show runM N__law_same (evB (cOf N__law_same qc8 (("_law_same",.fn 2 (recF N__law_same qc8 ql1 [] "_law_same" 2 j))::ql1) []) (qa2 qc8)) 2=_
  generalize recF N__law_same qc8 ql1 [] "_law_same" 2 j=F
  rw [show evB (cOf N__law_same qc8 (("_law_same",.fn 2 F)::ql1) []) (qa2 qc8)=qE1 F from rfl]
noncomputable def qE2:MS:=
  q51 qd4
theorem qV5:qk1=runM N__law_rule qE2 1:=by
  unfold qk1
  rw [show evB (cOf N__law_rule qe0 qv5 []) (qa2 qe0)=qE2 from rfl]
noncomputable def m_law:MS:=
  mSeq (mFor (mRange1 (mCons (mCall (qb3 qB6) (mCons (mC (.int 3)) (mCons (mCall (qb3 zu0) (mCons (mCall (qb3 fLen) (mCons (mVar 0) (mNil))) (mCons (mC (.int 8)) (mNil)))) (mNil)))) (mNil))) (gSet 1) (mSeq (mAsg (mCallN 2 qk2 (mCons (mVar 0) (mCons (mVar 1) (mNil)))) (gSet 2)) (mFor (mRange1 (mCons (mC (.int 6)) (mNil))) (gSet 3) (mSeq (mAsg (mOp qc7 (mC (.int 1)) (mCallN 2 qd4 (mCons (mVar 2) (mCons (mC (.int 5)) (mNil))))) (gSet 4)) (mSeq (mAsg (mCallN 1 qk4 (mCons (mVar 4) (mNil))) (gSet 5)) (mSeq (mAsg (mCallN 2 qh6 (mCons (mVar 2) (mCons (mVar 4) (mNil)))) (gSet 6)) (mSeq (mIfS (mTest (mOp fEq (mOp fMod (mVar 3) (mC (.int 2))) (mC (.int 0)))) (mAsg (mOp fIxX (mCallN 4 ql2 (mCons (mVar 2) (mCons (mCallN 1 qk1 (mCons (mVar 2) (mNil))) (mCons (mVar 4) (mCons (mOp qc7 (mC (.int 4)) (mCallN 2 qd4 (mCons (mVar 2) (mCons (mC (.int 12)) (mNil))))) (mNil)))))) (mC (.int 1))) (gSet 6)) (mSkip)) (mSeq (mAsg (mCall (qb3 (qi5 .tup)) (mCons (mCompX (mVar 5) (gSet 0) (mTru (mCallN 2 qh2 (mCons (mVar 1) (mCons (mVar 0) (mNil))))) (mVar 0) [none,some 6]) (mNil))) (gSet 7)) (mSeq (mIfS (mOrT (mNotT (mTru (mCallN 2 qg4 (mCons (mCallN 1 qg3 (mCons (mVar 4) (mNil))) (mCons (mCall (qb3 (qi5 .tup)) (mCons (mVar 5) (mNil))) (mNil)))))) (mNotT (mTru (mCallN 2 qg4 (mCons (mCallN 2 ql6 (mCons (mVar 4) (mCons (mVar 6) (mNil)))) (mCons (mVar 7) (mNil))))))) (mRet (mC (.bl false))) (mSkip)) (mIfS (mTest (mOp fNe (mCallN 2 ql6 (mCons (mVar 4) (mCons (mVar 6) (mNil)))) (mVar 7))) (mRet (mC (.bl false))) (mSkip))))))))))) (mRet (mC (.bl true)))
theorem me_law:zh4=runM N_law m_law 1:=by
  unfold zh4
  rw [show evB (cOf N_law qw4 g_law [100205]) (qa2 qw4)=m_law from rfl]
end K12
end
section
namespace K12
open PySem MI PySem.Spec PyProof.Rows L2
open M hiding mC mVar mOp mTest mChain mTru mAndT mOrT mNotT mAnd mOr mNotV mIf mNil mCons mTup mLst mLstR mUn mPartN mPart mSlice mCall mIsI mCallN mSkip mSeq mRet mDrop mIfS gSet gNilD gConsD gTupD gSubD mAsg mRange1 mRange2 mFor mComp mItS mTrue mMeth mEnum mPar mCnt mZip mDict mDictR mMethD mForD mListR mCompX mComp2 mCatR
theorem qT4:qM5 qd4:=fun S r m h h0 h1=>by rw [qV6];exact zl3 rfl h h0 h1
theorem left {S:qa0} {ns:List Int} {k:Int} (h0:0≤k) (h1:k≤100000):∃ a b,qk2 [.rol (ns.map .int),.int k] S=some (.ref S.length,S++[.lst [.int a,.int b,.int 0]])∧0≤a∧0≤b∧b<2147483647:=by
  rw [qV8]
  exact zp9 (N:=N__law_left) (cellAt:=qh9) (far:=qm9) rfl h0 h1 (fun S k h=>by rw [qE0];exact q66 (N:=N__law_cell_at) rfl h) (fun S=>by rw [q35];exact far_spec (N:=N__law_far) rfl)
theorem putOk (S:qa0) (ws:List Wd) (i:Nat) (w:Wd) (h:i<ws.length) (hl:ws.length≤100):qh8 [wsD ws,.int (i:Int),w.d] S=some (wsD (ws.set i w),S):=by
  rw [q34];exact put_gen (N:=N__law_put) rfl h hl
theorem seOk:SeOk qj2 ql3 qh8:=
  ⟨fun S r es hl=>by rw [qJ1];exact zh1 (N:=N__law_fronts) rfl hl,fun S r ws wr=>by rw [qV7];exact lets_gen (N:=N__law_lets) rfl,putOk⟩
theorem qR9:qy1 qe8:=fun S r R h hl=>by
  rw [qD9];exact q06 seOk (N:=N__law_settled) rfl h hl
theorem doOk:DoOk qh2 qk3 qe8 qj1 qh8:=
  ⟨fun S R dd hl hd=>by rw [q36];exact can_gen (N:=N__law_can) rfl hl hd,
   fun S r R wr g t h hl hw hs=>by rw [qO4];exact zz3 qR9 (N:=N__law_asked) rfl h hl hw hs,
   qR9,fun S r w es hl=>by rw [qJ0];exact zf7 (N:=N__law_marked) rfl hl,putOk⟩
theorem rowOk:RowOk ql5 ql4:=
  ⟨fun S r n P h1 h5=>by rw [qW0];exact deed_gen qT4 (N:=N__law_deed) rfl P h1 (by omega),
   fun S rl R dd h hl hd=>by rw [qV9];exact done_gen doOk (N:=N__law_done) rfl h hl hd⟩
theorem row {S:qa0} {r n m:Nat} {rl:Rl} (P:Pk S r) (h1:1≤n) (h5:n≤5) (hm:m≤400):∃ (l:List Dd) (R:Rm) (S':qa0),ql2 [.ref r,rl.d,.int (n:Int),.int (m:Int)] S=some (.tup [.tup (l.map Dd.d),rmD R],S')∧Behind rl n l R∧l.length≤m∧Pk S' r∧Grow r S S':=by
  rw [q33];exact row_gen rowOk (N:=N__law_row) rfl P h1 h5 hm
theorem formed {S:qa0} {r n:Nat} (P:Pk S r) (h1:1≤n) (h5:n≤5):∃ (R:Rm) (S':qa0),qh6 [.ref r,.int (n:Int)] S=some (rmD R,S')∧R.1.length=n∧q04 R∧Pk S' r∧Grow r S S':=by
  rw [qJ2];exact zh2 qT4 (N:=N__law_formed) rfl P h1 h5
theorem rule {S:qa0} {r:Nat} (P:Pk S r):∃ (rl:Rl) (S':qa0),qk1 [.ref r] S=some (rl.d,S')∧rl.Ok∧Pk S' r∧Keep r S S':=by
  rw [qV5]
  obtain ⟨x,a,b,c,S',e,R,P',K⟩:=zl0 (pick:=qd4) qT4 (N:=N__law_rule) rfl P
  obtain ⟨w,rfl⟩:=zs4 R.w
  exact ⟨⟨w,a,b,c⟩,S',e,⟨R.a0,R.a5,R.b0,R.b9,R.c0,R.c1⟩,P',K⟩
theorem gwOk:GwOk qj0:=fun S R l hl=>by rw [qI9];exact gw_gen (N:=N_guests_with) rfl hl
theorem waitOk:WaitOk qm0:=fun S R g hl=>by rw [zf6];exact wait_gen gwOk (N:=N_waiting) rfl hl
theorem zk8 {S:qa0} {d:D} (h:qp4 8 d=true):qg4 [d,d] S=some (.bl true,S):=q86 (R:=ql7) (N:=N__law_same) rfl qV4 8 d h
theorem allOk {S:qa0} {n:Nat} (h5:n≤5):qg3 [.int (n:Int)] S=some (.tup ((allA n).map Dd.d),S):=by
  rw [qV3,show qu7=q17 from rfl];exact all_gen (N:=N_all_deeds) rfl h5
theorem canDoOk {S:qa0} {R:Rm} {dd:Dd} (hl:R.1.length≤100) (hd:dd.Ok R.1.length) (ht:dd≠.tick):qq3 [rmD R,dd.d] S=some (.bl (canB R dd),S):=by
  rw [zo2,show qO6=q16 qm0 from rfl];exact zy2 waitOk (N:=N_can_do) rfl hl hd ht
theorem mayOk {S:qa0} {R:Rm} {n:Nat} (h5:n≤5) (hl:R.1.length=n):ql6 [.int (n:Int),rmD R] S=some (.tup ((mayA R n).map Dd.d),S):=by
  rw [zo1,show qO5=q15 qg3 qq3 from rfl]
  exact may_gen (allOk h5) (fun dd h=>canDoOk (by omega) (by rw [hl];exact (q73 h).1) (q73 h).2) h5 (N:=N_may_do) rfl
noncomputable def laA (w:Str):ME:=mComp (mRange1 (mCons (mVar 0) (mNil))) (gSet 0) (mTrue) (mTup (mCons (mC (.str w)) (mCons (mVar 0) (mCons (mC .non) (mNil))))) [none]
noncomputable def laB:ME:=mComp (mRange1 (mCons (mVar 0) (mNil))) (gSet 0) (mTrue) (mTup (mCons (mVar 1) (mCons (mVar 0) (mNil)))) [none,some 2]
noncomputable def laX:MS:=mDrop (mMeth qs6 (mVar 1) (mCons laB (mNil)))
noncomputable def lawAll:MS:=mSeq (mAsg (mCatR (laA "read") (laA "write")) (gSet 1)) (mSeq (mForD (mTup (mCons (mC (.str "up")) (mCons (mC (.str "down")) (mCons (mC (.str "leave")) (mCons (mC (.str "stop")) (mNil)))))) (gSet 2) laX) (mRet (mVar 1)))
theorem rg0 {S:qa0} {n:Nat} {a b:Option D} (h5:n≤5):mRange1 (mCons (mVar 0) (mNil)) [some (.int (n:Int)),a,b] S=some ((List.range n).map ni,S):=by
  have:kR1 ([.int (n:Int)],S)=some (qe7 0 n,S):=by rw [qu2 (by omega) (by omega)];rfl
  simp only [qj5,qa7,qa5,lg0,lg1,lgS,oj,ob,qa6,qa4,qb0,qa3,this,qT1]
theorem mapD {n:Nat} (f:Nat→Dd):((List.range n).map fun g=>(f g).d)=((List.range n).map f).map Dd.d:=by rw [List.map_map];rfl
theorem laA_eq {S:qa0} {n:Nat} {a b:Option D} {wr:Bool} (h5:n≤5):laA (qh0 wr) [some (.int (n:Int)),a,b] S=some (.lst (((List.range n).map fun g=>Dd.ask wr g none).map Dd.d),S):=by
  have k3:∀ x y z:D,kTup ([x,y,z],S)=some (.tup [x,y,z],S):=fun x y z=>qd3 (by simp)
  have k:=qo6 (S:=S) (t:=mTrue) (e:=mTup (mCons (mC (.str (qh0 wr))) (mCons (mVar 0) (mCons (mC .non) (mNil))))) (cap:=[none]) (env:=[some (.int (n:Int)),a,b]) (rest:=[]) (a:=none) (enc:=ni) (p:=fun _=>true) (f:=fun g=>(Dd.ask wr g none).d) (xs:=List.range n) rfl (by rw [List.length_range];omega) (fun _ _=>qo9) (fun g _ _=>by
    simp only [qf9,qa7,qa5,lg0,lg1,lgS,oj,ob,qa6,qa4,mC_s,qb0,qa3,k3];rfl)
  rw [List.filter_eq_self.mpr (fun _ _=>rfl),mapD] at k
  simp only [laA,qh1,rg0 h5,ob,k]
theorem laB_eq {S:qa0} {n:Nat} {a:Option D} {w:Ak} (h5:n≤5):laB [some (.int (n:Int)),a,some (.str w.s)] S=some (.lst (((List.range n).map fun g=>Dd.act w g).map Dd.d),S):=by
  have k2:∀ x y:D,kTup ([x,y],S)=some (.tup [x,y],S):=fun x y=>qd3 (by simp)
  have k:=qo6 (S:=S) (t:=mTrue) (e:=mTup (mCons (mVar 1) (mCons (mVar 0) (mNil)))) (cap:=[none,some 2]) (env:=[some (.int (n:Int)),a,some (.str w.s)]) (rest:=[some (.str w.s)]) (a:=none) (enc:=ni) (p:=fun _=>true) (f:=fun g=>(Dd.act w g).d) (xs:=List.range n) rfl (by rw [List.length_range];omega) (fun _ _=>qo9) (fun g _ _=>by
    simp only [qf9,qa7,qa5,lg0,lg1,lgS,oj,ob,qa6,qa4,mC_s,qb0,qa3,k2];rfl)
  rw [List.filter_eq_self.mpr (fun _ _=>rfl),mapD] at k
  simp only [laB,qh1,rg0 h5,ob,k]
theorem zb1 {S:qa0} {n:Nat} {w:Ak} {xs:List Dd} (h5:n≤5) (hx:xs.length≤500):laX [some (.int (n:Int)),some (.ref S.length),some (.str w.s)] (S++[.lst (xs.map Dd.d)])=some (.nx [some (.int (n:Int)),some (.ref S.length),some (.str w.s)] (S++[.lst ((xs++(List.range n).map fun g=>Dd.act w g).map Dd.d)])):=by
  have ex:qs6 (.ref S.length) [.lst (((List.range n).map fun g=>Dd.act w g).map Dd.d)] (S++[.lst (xs.map Dd.d)])=some (.non,S++[.lst ((xs++(List.range n).map fun g=>Dd.act w g).map Dd.d)]):=by
    show (match (S++[Cell.lst (xs.map Dd.d)])[S.length]? with | some (.lst xs)=>if xs.length+(((List.range n).map fun g=>Dd.act w g).map Dd.d).length≤sizeLine then some (D.non,(S++[Cell.lst (List.map Dd.d _)]).set S.length (.lst (xs++((List.range n).map fun g=>Dd.act w g).map Dd.d))) else none | _=>none)=_
    rw [qo0]
    dsimp only
    rw [if_pos (sz (by simp only [List.length_map,List.length_range];omega)),q72,← List.map_append]
  have km:∀ ms env,qX3 qs6 ms env (.ref S.length,S++[.lst (xs.map Dd.d)])=(ms env (S++[.lst (xs.map Dd.d)])).bind (ql9 qs6 (.ref S.length)):=fun ms env=>qP6 qo0
  simp only [laX,qy7,qE9,qa5,lg0,lg1,lgS,oj,ob,qa6,km,qa7,laB_eq h5,qa4,qb0,qa3,qo7,ex,qz1]
theorem lawAllOk {S:qa0} {n:Nat} (h5:n≤5):qk4 [.int (n:Int)] S=some (.ref S.length,S++[.lst ((allA n).map Dd.d)]):=by
  rw [q37,show qy4=lawAll from rfl,qf8 (show [D.int (n:Int)].length=1 from rfl),show qc0 N__law_all [D.int (n:Int)]=[some (.int (n:Int)),none,none] from rfl]
  have e1:laA "read" [some (.int (n:Int)),none,none] S=_:=laA_eq (wr:=false) h5
  have e2:laA "write" [some (.int (n:Int)),none,none] S=_:=laA_eq (wr:=true) h5
  have k4:kTup ([.str "up",.str "down",.str "leave",.str "stop"],S++[.lst ((askA n).map Dd.d)])=some (.tup [.str "up",.str "down",.str "leave",.str "stop"],S++[.lst ((askA n).map Dd.d)]):=qd3 (by simp)
  have ct:kCat2 (.lst (((List.range n).map fun g=>Dd.ask false g none).map Dd.d)) (.lst (((List.range n).map fun g=>Dd.ask true g none).map Dd.d),S)=some (.ref S.length,S++[.lst ((askA n).map Dd.d)]):=by
    rw [kCat2_l (by simp only [List.length_map,List.length_range];omega),← List.map_append]
    congr 5
    simp [askA]
  have la:(askA n).length=n+n:=qy0
  have x1:=zb1 (S:=S) (n:=n) (w:=.up) (xs:=askA n) h5 (by omega)
  have x2:=zb1 (S:=S) (n:=n) (w:=.down) (xs:=askA n++(List.range n).map fun g=>Dd.act .up g) h5 (by simp only [List.length_append,List.length_map,List.length_range];omega)
  have x3:=zb1 (S:=S) (n:=n) (w:=.leave) (xs:=(askA n++(List.range n).map fun g=>Dd.act .up g)++(List.range n).map fun g=>Dd.act .down g) h5 (by simp only [List.length_append,List.length_map,List.length_range];omega)
  have x4:=zb1 (S:=S) (n:=n) (w:=.stop) (xs:=((askA n++(List.range n).map fun g=>Dd.act .up g)++(List.range n).map fun g=>Dd.act .down g)++(List.range n).map fun g=>Dd.act .leave g) h5 (by simp only [List.length_append,List.length_map,List.length_range];omega)
  have fin:((((askA n++(List.range n).map fun g=>Dd.act .up g)++(List.range n).map fun g=>Dd.act .down g)++(List.range n).map fun g=>Dd.act .leave g)++(List.range n).map fun g=>Dd.act .stop g)=allA n:=by
    simp [allA,actA,List.append_assoc]
  simp only [Ak.s] at x1 x2 x3 x4
  rw [fin] at x4
  simp only [lawAll,qd6,qg1,mCatR_s,e1,ob,kCat1_s,e2,ct,qg2,qd0,ls0,lsS,qk0,qc1,zp5,qf9,qa7,mC_s,qa4,qb0,qa3,k4,kForD_t,qp5,qX4,x1,x2,x3,x4,qF7,zp4,qg5,qa5,lg0,lg1,lgS,oj,qa6,qj9,qd7]
section
variable {α:Type} {enc:α→D} {p:α→Bool} {t:MT} {rest:MEnv} {r:Nat} {xs:List α}
theorem compRG (ht:∀ S,∀ x∈xs,∃ T,t (some (enc x)::rest) S=some (p x,S++T)) :
    ∀ (k i:Nat) (a:Option D) (S:qa0),S[r]?=some (.lst (xs.map enc))→i≤xs.length→xs.length<k+i→∃ T,qp0 (gSet 0) t (mVar 0) r k i (a::rest) S=some (((xs.drop i).filter p).map enc,S++T)
  | 0,i,a,S,hr,h0,hl=>by omega
  | k+1,i,a,S,hr,h0,hl=>by
    unfold qp0
    rw [hr]
    dsimp only
    rw [List.getElem?_map]
    cases hx:xs[i]? with
    | none=>
      have:xs.drop i=[]:=by simpa using hx
      exact ⟨[],by rw [this,List.append_nil];rfl⟩
    | some x=>
      have hi:=(List.getElem?_eq_some_iff.mp hx).1
      have hm:=List.mem_of_getElem? hx
      have hd:xs.drop i=x::xs.drop (i+1):=by
        rw [List.drop_eq_getElem_cons hi];congr 1;exact (List.getElem?_eq_some_iff.mp hx).2
      obtain ⟨T,hT⟩:=ht S x hm
      have hr':(S++T)[r]?=some (.lst (xs.map enc)):=by
        rw [List.getElem?_append_left (List.getElem?_eq_some_iff.mp hr).1];exact hr
      obtain ⟨T',ih⟩:=compRG ht k (i+1) (some (enc x)) (S++T) hr' hi (by omega)
      refine ⟨T++T',?_⟩
      show (gSet 0 (enc x) (a::rest) S).bind _=_
      rw [qd0,ob,ls0]
      dsimp only
      rw [hT,ob,hd]
      cases hp:p x with
      | true=>
        dsimp only
        rw [if_pos rfl,qa5,lg0,oj,ob,qa6,ob]
        dsimp only
        rw [ih,ob,List.filter_cons_of_pos hp,List.map_cons,List.append_assoc]
      | false=>
        dsimp only
        rw [if_neg (by decide),ih,List.filter_cons_of_neg (by simp [hp]),List.append_assoc]
end
noncomputable def dueC:ME:=mCall (qb3 (qi5 .tup)) (mCons (mCompX (mVar 5) (gSet 0) (mTru (mCallN 2 qh2 (mCons (mVar 1) (mCons (mVar 0) (mNil))))) (mVar 0) [none,some 6]) (mNil))
theorem dueC_eq {S:qa0} {q n:Nat} {R:Rm} {a0 a1 a2 a3 a4 a7:Option D} (hq:S[q]?=some (.lst ((allA n).map Dd.d))) (h5:n≤5) (hl:R.1.length=n) (hl2:R.2.length≤60) :
    ∃ T,dueC [a0,a1,a2,a3,a4,some (.ref q),some (rmD R),a7] S=some (.tup ((mayA R n).map Dd.d),S++T):=by
  obtain ⟨T,h⟩:=compRG (r:=q) (enc:=Dd.d) (p:=canB R) (xs:=allA n) (rest:=[some (rmD R)]) (t:=mTru (mCallN 2 qh2 (mCons (mVar 1) (mCons (mVar 0) (mNil))))) (fun S dd h=>by
    obtain ⟨T,hc⟩:=doOk.c S R dd hl2 (by rw [hl];exact (q73 h).1)
    refine ⟨T,?_⟩
    simp only [qt8,qc6,qa7,qa5,lg0,lg1,lgS,oj,ob,qa6,qa4,qb0,qa3,qd8,hc,qu1]) 2000 0 none S hq (Nat.zero_le _) (by unfold allA;rw [List.length_append,qy0,qC6];omega)
  rw [List.drop_zero] at h
  have kx:∀ env,capE [none,some 6] env=[none,some (rmD R)]→zr5 (gSet 0) (mTru (mCallN 2 qh2 (mCons (mVar 1) (mCons (mVar 0) (mNil))))) (mVar 0) [none,some 6] env (.ref q,S)=some (.lst ((mayA R n).map Dd.d),S++T):=fun env he=>by
    rw [kCompX_r,he,h,ob,qC2];rfl
  refine ⟨T,?_⟩
  have kx':=kx [a0,a1,a2,a3,a4,some (.ref q),some (rmD R),a7] rfl
  simp only [dueC,qf0,qa7,mCompX_s,qa5,lg0,lg1,lgS,oj,ob,qa6,kx',qa4,qb0,qa3,qf1,qn5]
theorem zk9 {l:List Dd} (h:l.length≤500):qp4 8 (.tup (l.map Dd.d))=true:=by
  have a1:((l.map Dd.d).all (qp4 7))=true:=by
    rw [List.all_eq_true];intro d hd;obtain ⟨e,_,rfl⟩:=List.mem_map.mp hd
    cases e with
    | ask wr g t=>cases t <;> rfl
    | _=>rfl
  show (decide ((l.map Dd.d).length≤1000)&&_)=true;rw [a1,Bool.and_true];exact decide_eq_true (by simp;omega)
theorem ok_dd {l:List Dd}:okD 40 (.tup (l.map Dd.d))=true:=by
  show ((l.map Dd.d).all (okD 39))=true
  rw [List.all_eq_true];intro d hd;obtain ⟨e,_,rfl⟩:=List.mem_map.mp hd
  cases e with
  | ask wr g t=>cases t <;> rfl
  | _=>rfl
noncomputable def rowC:ME:=mOp fIxX (mCallN 4 ql2 (mCons (mVar 2) (mCons (mCallN 1 qk1 (mCons (mVar 2) (mNil))) (mCons (mVar 4) (mCons (mOp qc7 (mC (.int 4)) (mCallN 2 qd4 (mCons (mVar 2) (mCons (mC (.int 12)) (mNil))))) (mNil)))))) (mC (.int 1))
noncomputable def roomS:MS:=mIfS (mTest (mOp fEq (mOp fMod (mVar 3) (mC (.int 2))) (mC (.int 0)))) (mAsg rowC (gSet 6)) (mSkip)
noncomputable def lookS:MS:=mSeq (mIfS (mOrT (mNotT (mTru (mCallN 2 qg4 (mCons (mCallN 1 qg3 (mCons (mVar 4) (mNil))) (mCons (mCall (qb3 (qi5 .tup)) (mCons (mVar 5) (mNil))) (mNil)))))) (mNotT (mTru (mCallN 2 qg4 (mCons (mCallN 2 ql6 (mCons (mVar 4) (mCons (mVar 6) (mNil)))) (mCons (mVar 7) (mNil))))))) (mRet (mC (.bl false))) (mSkip)) (mIfS (mTest (mOp fNe (mCallN 2 ql6 (mCons (mVar 4) (mCons (mVar 6) (mNil)))) (mVar 7))) (mRet (mC (.bl false))) (mSkip))
noncomputable def turn6:MS:=mSeq (mAsg (mOp qc7 (mC (.int 1)) (mCallN 2 qd4 (mCons (mVar 2) (mCons (mC (.int 5)) (mNil))))) (gSet 4)) (mSeq (mAsg (mCallN 1 qk4 (mCons (mVar 4) (mNil))) (gSet 5)) (mSeq (mAsg (mCallN 2 qh6 (mCons (mVar 2) (mCons (mVar 4) (mNil)))) (gSet 6)) (mSeq roomS (mSeq (mAsg dueC (gSet 7)) lookS))))
noncomputable def turn:MS:=mSeq (mAsg (mCallN 2 qk2 (mCons (mVar 0) (mCons (mVar 1) (mNil)))) (gSet 2)) (mFor (mRange1 (mCons (mC (.int 6)) (mNil))) (gSet 3) turn6)
theorem roomS_ok {S:qa0} {q i n:Nat} {R0:Rm} {a0 a1 a5 a7:Option D} (P:Pk S q) (h1:1≤n) (h5:n≤5) (hl:R0.1.length=n) (F:ROk R0):∃ (R:Rm) (S':qa0),roomS [a0,a1,some (.ref q),some (.int (i:Int)),some (.int (n:Int)),a5,some (rmD R0),a7] S=some (.nx [a0,a1,some (.ref q),some (.int (i:Int)),some (.int (n:Int)),a5,some (rmD R),a7] S')∧R.1.length=n∧ROk R∧Pk S' q∧Grow q S S':=by
  have md:∀ S,fMod S (.int (i:Int)) (.int 2)=some (.int ((i:Int) % 2)):=fun S=>qr3 (by decide)
  by_cases hi:(i:Int) % 2=0
  · obtain ⟨r,S1,e1,Rk,P1,K1⟩:=rule P
    obtain ⟨m,S2,e2,m0,m5,P2,K2⟩:=qT4 _ _ 12 P1 (by decide) (by decide)
    obtain ⟨k,hk⟩:∃ k:Nat,4+m=(k:Int):=⟨(4+m).toNat,by omega⟩
    obtain ⟨l,R,S3,e3,B,_,P3,G3⟩:=row (rl:=r) (n:=n) (m:=k) P2 h1 h5 (by omega)
    refine ⟨R,S3,?_,B.ok.2,B.ok.1,P3,(Grow.of K1).trans ((Grow.of K2).trans G3)⟩
    have hz:((i:Int) % 2 == 0)=true:=by rw [hi];rfl
    have xi:∀ S,fIxX S (.tup [.tup (l.map Dd.d),rmD R]) (.int 1)=some (rmD R):=fun S=>rfl
    simp only [roomS,qe9,qb7,qd2,qa5,lg0,lg1,lgS,oj,ob,qa6,qb1,mC_s,qb2,md,qB2,hz,qb6,qj6,qg1,rowC,qc6,qa7,qa4,qb0,qa3,qC3,e1,qd8,e2,qG9,hk,kCallN_4,e3,xi,qg2,qd0,ls0,lsS,qk0]
  · refine ⟨R0,S,?_,hl,F,P,Grow.of ⟨fun _ _=>rfl,rfl⟩⟩
    have hz:((i:Int) % 2 == 0)=false:=by rw [beq_eq_false_iff_ne];exact hi
    simp only [roomS,qe9,qb7,qd2,qa5,lg0,lg1,lgS,oj,ob,qa6,qb1,mC_s,qb2,md,qB2,hz,qb6,qi3,qg0]
theorem lookS_ok {S:qa0} {q n:Nat} {R:Rm} {a0 a1 a2 a3:Option D} (hq:S[q]?=some (.lst ((allA n).map Dd.d))) (h5:n≤5) (hl:R.1.length=n):lookS [a0,a1,a2,a3,some (.int (n:Int)),some (.ref q),some (rmD R),some (.tup ((mayA R n).map Dd.d))] S=some (.nx [a0,a1,a2,a3,some (.int (n:Int)),some (.ref q),some (rmD R),some (.tup ((mayA R n).map Dd.d))] S):=by
  have al:(allA n).length≤500:=by unfold allA;rw [List.length_append,qy0,qC6];omega
  have ml:(mayA R n).length≤500:=Nat.le_trans (List.length_filter_le _ _) al
  have a:qg3 [.int (n:Int)] S=_:=allOk h5
  have m:ql6 [.int (n:Int),rmD R] S=_:=mayOk h5 hl
  have s1:qg4 [.tup ((allA n).map Dd.d),.tup ((allA n).map Dd.d)] S=some (.bl true,S):=zk8 (zk9 al)
  have s2:qg4 [.tup ((mayA R n).map Dd.d),.tup ((mayA R n).map Dd.d)] S=some (.bl true,S):=zk8 (zk9 ml)
  have n1:fNe S (.tup ((mayA R n).map Dd.d)) (.tup ((mayA R n).map Dd.d))=some (.bl false):=fNe_self ok_dd
  have sq:qb3 (qi5 .tup) [.ref q] S=some (.tup ((allA n).map Dd.d),S):=qx4 hq
  simp only [lookS,qd6,qe9,qE8,qu9,qt8,qc6,qa7,qa5,lg0,lg1,lgS,oj,ob,qa6,qa4,qb0,qa3,qC3,a,qf0,qf1,sq,qd8,s1,qu1,qv2,Bool.not_true,qX1,m,s2,qi3,qg0,qc1,qb7,qd2,qb1,qb2,n1,qb6]
theorem turn6_ok {S:qa0} {q:Nat} {i:Nat} {a0 a1 a4 a5 a6 a7:Option D} (P:Pk S q):∃ b4 b5 b6 b7 S',turn6 [a0,a1,some (.ref q),some (.int (i:Int)),a4,a5,a6,a7] S=some (.nx [a0,a1,some (.ref q),some (.int (i:Int)),b4,b5,b6,b7] S')∧Pk S' q:=by
  obtain ⟨m,S1,e1,m0,m5,P1,K1⟩:=qT4 _ _ 5 P (by decide) (by decide)
  obtain ⟨n,hn⟩:∃ n:Nat,1+m=(n:Int):=⟨(1+m).toNat,by omega⟩
  have e2:qk4 [.int (n:Int)] S1=_:=lawAllOk (S:=S1) (n:=n) (by omega)
  have P2:Pk (S1++[.lst ((allA n).map Dd.d)]) q:=P1.appT
  obtain ⟨R0,S3,e3,hl0,F0,P3,G3⟩:=formed (n:=n) P2 (by omega) (by omega)
  obtain ⟨R,S4,e4,hl,ok,P4,G4⟩:=roomS_ok (i:=i) (a0:=a0) (a1:=a1) (a5:=some (.ref S1.length)) (a7:=a7) P3 (by omega) (by omega) hl0 F0.ok
  have hle:=ok.len
  have hq:S4[S1.length]?=some (.lst ((allA n).map Dd.d)):=by
    rw [(G3.trans G4).2 S1.length (by simp) (Nat.ne_of_gt P1.lt)];exact qo0
  obtain ⟨T,e5⟩:=dueC_eq (a0:=a0) (a1:=a1) (a2:=some (.ref q)) (a3:=some (.int (i:Int))) (a4:=some (.int (n:Int))) (a7:=a7) hq (by omega) hl (by omega)
  have hq':(S4++T)[S1.length]?=some (.lst ((allA n).map Dd.d)):=by
    rw [List.getElem?_append_left (List.getElem?_eq_some_iff.mp hq).1];exact hq
  have e6:=lookS_ok (a0:=a0) (a1:=a1) (a2:=some (.ref q)) (a3:=some (.int (i:Int))) hq' (by omega) hl
  refine ⟨some (.int (n:Int)),some (.ref S1.length),some (rmD R),some (.tup ((mayA R n).map Dd.d)),S4++T,?_,P4.appT (T:=T)⟩
  simp only [turn6,qd6,qg1,qd2,mC_s,ob,qb1,qc6,qa7,qa5,lg0,lg1,lgS,oj,qa6,qa4,qb0,qa3,qd8,e1,qb2,qG9,hn,qg2,qd0,ls0,lsS,qk0,qc1,qC3,e2,e3,e4,e5,e6]
theorem turn_ok {S:qa0} {ns:List Int} {k:Int} {a2 a3 a4 a5 a6 a7:Option D} (h0:0≤k) (h1:k≤100000) :
    ∃ b2 b3 b4 b5 b6 b7 S',turn [some (.rol (ns.map .int)),some (.int k),a2,a3,a4,a5,a6,a7] S=some (.nx [some (.rol (ns.map .int)),some (.int k),b2,b3,b4,b5,b6,b7] S'):=by
  obtain ⟨p,q,e1,p0,q0,q1⟩:=left (S:=S) (ns:=ns) h0 h1
  have P1:=Pk_new (S:=S) (c:=0) p0 q0 q1
  have kr:∀ S,kR1 ([.int 6],S)=some (qe7 0 6,S):=fun S=>qu2 (by decide) (by decide)
  obtain ⟨env',S5,e5,b3,b4,b5,b6,b7,rfl,P5⟩:=forR (tg:=gSet 3) (p:=turn6) (lo:=0) (fun _ env T=>∃ b3 b4 b5 b6 b7,env=[some (.rol (ns.map .int)),some (.int k),some (.ref S.length),b3,b4,b5,b6,b7]∧Pk T S.length) 6 (fun j hj env T hI=>by
    obtain ⟨b3,b4,b5,b6,b7,rfl,P⟩:=hI
    obtain ⟨c4,c5,c6,c7,S',e,P'⟩:=turn6_ok (S:=T) (q:=S.length) (i:=j) (a0:=some (.rol (ns.map .int))) (a1:=some (.int k)) (a4:=b4) (a5:=b5) (a6:=b6) (a7:=b7) P
    rw [show ((j:Nat):Int)=0+(j:Int) by omega] at e
    exact ⟨_,_,_,_,qd0,e,_,_,_,_,_,rfl,P'⟩) [some (.rol (ns.map .int)),some (.int k),some (.ref S.length),a3,a4,a5,a6,a7] (S++[.lst [.int p,.int q,.int 0]]) ⟨_,_,_,_,_,rfl,P1⟩
  refine ⟨some (.ref S.length),b3,b4,b5,b6,b7,S5,?_⟩
  simp only [turn,qd6,qg1,qc6,qa7,qa5,lg0,lg1,lgS,oj,ob,qa6,qa4,qb0,qa3,qd8,e1,qg2,qd0,ls0,lsS,qk0,qc1,qK9,qj5,mC_s,kr,qL1,e5]
theorem law_true:∀ ns:List Int,ns.length≤63→∃ S',zh4 [.rol (ns.map .int)] []=some (.bl true,S'):=fun ns hl=>by
  rw [me_law,qf8 (show [D.rol (ns.map .int)].length=1 from rfl),show qc0 N_law [D.rol (ns.map .int)]=[some (.rol (ns.map .int)),none,none,none,none,none,none,none] from rfl]
  have hm:m_law=mSeq (mFor (mRange1 (mCons (mCall (qb3 qB6) (mCons (mC (.int 3)) (mCons (mCall (qb3 zu0) (mCons (mCall (qb3 fLen) (mCons (mVar 0) (mNil))) (mCons (mC (.int 8)) (mNil)))) (mNil)))) (mNil))) (gSet 1) turn) (mRet (mC (.bl true))):=rfl
  rw [hm]
  generalize hk:(if (if (8:Int)<(ns.length:Int) then 8 else (ns.length:Int))>3 then (if (8:Int)<(ns.length:Int) then 8 else (ns.length:Int)) else 3)=k
  have hk':0≤k∧k≤26:=by rw [← hk];split <;> (try split) <;> omega
  have k1:kR1 ([.int k],[])=some (qe7 0 k.toNat,[]):=qu2 (by omega) (by omega)
  obtain ⟨env',S',e,a1,a2,a3,a4,a5,a6,a7,rfl⟩:=zc2 (tg:=gSet 1) (p:=turn) (fun env _=>∃ a1 a2 a3 a4 a5 a6 a7,env=[some (.rol (ns.map .int)),a1,a2,a3,a4,a5,a6,a7]) (qe7 0 k.toNat) (fun d hd env S hI=>by
    obtain ⟨a1,a2,a3,a4,a5,a6,a7,rfl⟩:=hI
    obtain ⟨i,hi,rfl⟩:=zf5 hd
    obtain ⟨b2,b3,b4,b5,b6,b7,S2,e⟩:=turn_ok (S:=S) (ns:=ns) (k:=0+(i:Int)) (a2:=a2) (a3:=a3) (a4:=a4) (a5:=a5) (a6:=a6) (a7:=a7) (by omega) (by omega)
    exact ⟨_,_,_,_,qd0,e,_,_,_,_,_,_,_,rfl⟩) [some (.rol (ns.map .int)),none,none,none,none,none,none,none] [] ⟨_,_,_,_,_,_,_,rfl⟩
  refine ⟨S',?_⟩
  simp only [qd6,qK9,qj5,qa7,qd2,mC_s,ob,qb1,qf0,qa4,qa5,lg0,oj,qa6,qb0,qa3,qf1,fLen_r,fMin2_i,fMax2_i,List.length_map,hk,k1,qL1,e,qc1,qg5,qj9,qd7]
end K12
end
noncomputable def PySem.W.Fast.tw4716513466071800919:PySem.Program:=PySem.Challenge.pw_manyreaders_k12_deeds_that_may_be_done
theorem PySem.W.Fast.te4716513466071800919:PySem.Challenge.pw_manyreaders_k12_deeds_that_may_be_done=PySem.W.Fast.tw4716513466071800919:=rfl
namespace K12
open PySem
def c0:Stmt:=top 0
def c1:Stmt:=top 1
def c2:Stmt:=top 2
def c5:Stmt:=top 5
def c6:Stmt:=top 6
def c10:Stmt:=top 10
def pw2:Program:={ PySem.Challenge.pw_manyreaders_k12_deeds_that_may_be_done with main:={ PySem.Challenge.pw_manyreaders_k12_deeds_that_may_be_done.main with body:=[c0,c1,c2,qc2,qg7,c5,c6,qd9,qi1,qi2,c10,qb9,qe3,qf4,qe1,qe0,qe5,qf2,qc4,qe2,qf3,qb8,qf5,qc3,qe4,qd5,qc8,qc5,qf6,qw4] } }
def lw:PySem.W.OpenLaw:={ PySem.Challenge.rw_manyreaders_k12_deeds_that_may_be_done with prog:=pw2 }
theorem lw_eq:PySem.Challenge.rw_manyreaders_k12_deeds_that_may_be_done=lw:=by kernel_rfl
end K12
namespace K12
open PySem L2 MI PyProof.Rows M
noncomputable def ko3 (P:Params):Obj:=⟨.type "dict",none,.dict #[⟨PyData.keyHash P "__name__",.str "__name__" 165,.str "law_manyreaders_k12_deeds_that_may_be_done" 240⟩,⟨PyData.keyHash P "__doc__",.str "__doc__" 166,.none⟩,⟨PyData.keyHash P "__package__",.str "__package__" 167,.none⟩,⟨PyData.keyHash P "__loader__",.str "__loader__" 168,.builtin "__main__.__loader__#opaque"⟩,⟨PyData.keyHash P "__spec__",.str "__spec__" 169,.none⟩,⟨PyData.keyHash P "__annotations__",.str "__annotations__" 170,.ref 6⟩,⟨PyData.keyHash P "__builtins__",.str "__builtins__" 171,.ref 4⟩,⟨PyData.keyHash P "__file__",.str "__file__" 173,.str "/claim/cut.py" 172⟩,⟨PyData.keyHash P "__cached__",.str "__cached__" 174,.none⟩,⟨PyData.keyHash P "WRITING_WORDS",.str "WRITING_WORDS" 191,.ref 15⟩,⟨PyData.keyHash P "WANTS",.str "WANTS" 194,.ref 16⟩,⟨PyData.keyHash P "guests_with",.str "guests_with" 200,.ref 21⟩,⟨PyData.keyHash P "waiting",.str "waiting" 209,.ref 28⟩,⟨PyData.keyHash P "GUEST_WORDS",.str "GUEST_WORDS" 216,.ref 29⟩,⟨PyData.keyHash P "all_deeds",.str "all_deeds" 222,.ref 34⟩,⟨PyData.keyHash P "may_do",.str "may_do" 228,.ref 39⟩,⟨PyData.keyHash P "can_do",.str "can_do" 239,.ref 46⟩,⟨PyData.keyHash P "_law_cell_at",.str "_law_cell_at" 249,.ref 53⟩,⟨PyData.keyHash P "_law_left",.str "_law_left" 259,.ref 60⟩,⟨PyData.keyHash P "_law_far",.str "_law_far" 267,.ref 67⟩,⟨PyData.keyHash P "_law_pick",.str "_law_pick" 276,.ref 74⟩,⟨PyData.keyHash P "_law_rule",.str "_law_rule" 286,.ref 81⟩,⟨PyData.keyHash P "_law_deed",.str "_law_deed" 296,.ref 88⟩,⟨PyData.keyHash P "_law_row",.str "_law_row" 311,.ref 95⟩,⟨PyData.keyHash P "_law_fronts",.str "_law_fronts" 317,.ref 100⟩,⟨PyData.keyHash P "_law_lets",.str "_law_lets" 327,.ref 107⟩,⟨PyData.keyHash P "_law_put",.str "_law_put" 336,.ref 114⟩,⟨PyData.keyHash P "_law_settled",.str "_law_settled" 342,.ref 119⟩,⟨PyData.keyHash P "_law_can",.str "_law_can" 348,.ref 124⟩,⟨PyData.keyHash P "_law_marked",.str "_law_marked" 354,.ref 129⟩,⟨PyData.keyHash P "_law_done",.str "_law_done" 360,.ref 134⟩,⟨PyData.keyHash P "_law_asked",.str "_law_asked" 366,.ref 139⟩,⟨PyData.keyHash P "_law_same",.str "_law_same" 372,.ref 144⟩,⟨PyData.keyHash P "_law_formed",.str "_law_formed" 378,.ref 149⟩,⟨PyData.keyHash P "_law_all",.str "_law_all" 384,.ref 154⟩,⟨PyData.keyHash P "law",.str "law" 390,.ref 159⟩] 36,#[]⟩
noncomputable def ko15 (P:Params):Obj:=⟨.type "tuple",none,.seq #[.str "writes" 189,.str "raised" 190] 0,#[]⟩
noncomputable def ko16 (P:Params):Obj:=⟨.type "tuple",none,.seq #[.str "read" 192,.str "write" 193] 0,#[]⟩
noncomputable def ko20 (P:Params):Obj:=⟨.type "code",none,.fields #[.str "guests_with" 195,.str "guests_with" 196,.str "/claim/cut.py" 197,.int 4 0,.int 2 0,.int 0 0,.int 0 0,.int 3 0,.ref 17,.bool true,.int 181 0,.ref 18,.none,.none,.none,.ref 19,.int 198 0,.int 4 0,.str "/claim/cut.py" 199],#[]⟩
noncomputable def ko21 (P:Params):Obj:=⟨.type "function",none,.func (PySem.W.fnOf "guests_with" "guests_with" (qa8 qc2) (qa2 qc2) (qa1 qc2) .none (.none) (.none) (.str "manyreaders.rooms" 187) none (.ref 20) (.none)),#[]⟩
noncomputable def ko27 (P:Params):Obj:=⟨.type "code",none,.fields #[.str "waiting" 201,.str "waiting" 202,.str "/claim/cut.py" 203,.int 6 0,.int 2 0,.int 0 0,.int 0 0,.int 3 0,.ref 22,.bool true,.int 181 0,.ref 23,.none,.ref 24,.ref 25,.ref 26,.int 207 0,.int 6 0,.str "/claim/cut.py" 208],#[]⟩
noncomputable def ko28 (P:Params):Obj:=⟨.type "function",none,.func (PySem.W.fnOf "waiting" "waiting" (qa8 qg7) (qa2 qg7) (qa1 qg7) .none (.none) (.none) (.str "manyreaders.rooms" 187) none (.ref 27) (.none)),#[]⟩
noncomputable def ko29 (P:Params):Obj:=⟨.type "tuple",none,.seq #[.str "up" 212,.str "down" 213,.str "leave" 214,.str "stop" 215] 0,#[]⟩
noncomputable def ko33 (P:Params):Obj:=⟨.type "code",none,.fields #[.str "all_deeds" 217,.str "all_deeds" 218,.str "/claim/cut.py" 219,.int 15 0,.int 1 0,.int 0 0,.int 0 0,.int 3 0,.ref 30,.bool true,.int 181 0,.ref 31,.none,.none,.none,.ref 32,.int 220 0,.int 15 0,.str "/claim/cut.py" 221],#[]⟩
noncomputable def ko34 (P:Params):Obj:=⟨.type "function",none,.func (PySem.W.fnOf "all_deeds" "all_deeds" (qa8 qd9) (qa2 qd9) (qa1 qd9) .none (.none) (.none) (.str "manyreaders.deeds" 210) none (.ref 33) (.none)),#[]⟩
noncomputable def ko38 (P:Params):Obj:=⟨.type "code",none,.fields #[.str "may_do" 223,.str "may_do" 224,.str "/claim/cut.py" 225,.int 18 0,.int 2 0,.int 0 0,.int 0 0,.int 3 0,.ref 35,.bool true,.int 181 0,.ref 36,.none,.none,.none,.ref 37,.int 226 0,.int 18 0,.str "/claim/cut.py" 227],#[]⟩
noncomputable def ko39 (P:Params):Obj:=⟨.type "function",none,.func (PySem.W.fnOf "may_do" "may_do" (qa8 qi1) (qa2 qi1) (qa1 qi1) .none (.none) (.none) (.str "manyreaders.deeds" 210) none (.ref 38) (.none)),#[]⟩
noncomputable def ko45 (P:Params):Obj:=⟨.type "code",none,.fields #[.str "can_do" 229,.str "can_do" 230,.str "/claim/cut.py" 231,.int 20 0,.int 2 0,.int 0 0,.int 0 0,.int 3 0,.ref 40,.bool true,.int 181 0,.ref 41,.none,.ref 42,.ref 43,.ref 44,.int 237 0,.int 20 0,.str "/claim/cut.py" 238],#[]⟩
noncomputable def ko46 (P:Params):Obj:=⟨.type "function",none,.func (PySem.W.fnOf "can_do" "can_do" (qa8 qi2) (qa2 qi2) (qa1 qi2) .none (.none) (.none) (.str "manyreaders.deeds" 210) none (.ref 45) (.none)),#[]⟩
noncomputable def ko52 (P:Params):Obj:=⟨.type "code",none,.fields #[.str "_law_cell_at" 242,.str "_law_cell_at" 243,.str "/claim/cut.py" 244,.int 35 0,.int 2 0,.int 0 0,.int 0 0,.int 3 0,.ref 47,.bool true,.int 181 0,.ref 48,.none,.ref 49,.ref 50,.ref 51,.int 247 0,.int 35 0,.str "/claim/cut.py" 248],#[]⟩
noncomputable def ko53 (P:Params):Obj:=⟨.type "function",none,.func (PySem.W.fnOf "_law_cell_at" "_law_cell_at" (qa8 qb9) (qa2 qb9) (qa1 qb9) .none (.none) (.none) (.str "law_manyreaders_k12_deeds_that_may_be_done" 240) none (.ref 52) (.none)),#[]⟩
noncomputable def ko59 (P:Params):Obj:=⟨.type "code",none,.fields #[.str "_law_left" 250,.str "_law_left" 251,.str "/claim/cut.py" 252,.int 39 0,.int 2 0,.int 0 0,.int 0 0,.int 3 0,.ref 54,.bool true,.int 181 0,.ref 55,.none,.ref 56,.ref 57,.ref 58,.int 257 0,.int 39 0,.str "/claim/cut.py" 258],#[]⟩
noncomputable def ko60 (P:Params):Obj:=⟨.type "function",none,.func (PySem.W.fnOf "_law_left" "_law_left" (qa8 qe3) (qa2 qe3) (qa1 qe3) .none (.none) (.none) (.str "law_manyreaders_k12_deeds_that_may_be_done" 240) none (.ref 59) (.none)),#[]⟩
noncomputable def ko66 (P:Params):Obj:=⟨.type "code",none,.fields #[.str "_law_far" 260,.str "_law_far" 261,.str "/claim/cut.py" 262,.int 46 0,.int 0 0,.int 0 0,.int 0 0,.int 3 0,.ref 61,.bool true,.int 181 0,.ref 62,.none,.ref 63,.ref 64,.ref 65,.int 265 0,.int 46 0,.str "/claim/cut.py" 266],#[]⟩
noncomputable def ko67 (P:Params):Obj:=⟨.type "function",none,.func (PySem.W.fnOf "_law_far" "_law_far" (qa8 qf4) (qa2 qf4) (qa1 qf4) .none (.none) (.none) (.str "law_manyreaders_k12_deeds_that_may_be_done" 240) none (.ref 66) (.none)),#[]⟩
noncomputable def ko73 (P:Params):Obj:=⟨.type "code",none,.fields #[.str "_law_pick" 268,.str "_law_pick" 269,.str "/claim/cut.py" 270,.int 51 0,.int 2 0,.int 0 0,.int 0 0,.int 3 0,.ref 68,.bool true,.int 181 0,.ref 69,.none,.ref 70,.ref 71,.ref 72,.int 274 0,.int 51 0,.str "/claim/cut.py" 275],#[]⟩
noncomputable def ko74 (P:Params):Obj:=⟨.type "function",none,.func (PySem.W.fnOf "_law_pick" "_law_pick" (qa8 qe1) (qa2 qe1) (qa1 qe1) .none (.none) (.none) (.str "law_manyreaders_k12_deeds_that_may_be_done" 240) none (.ref 73) (.none)),#[]⟩
noncomputable def ko80 (P:Params):Obj:=⟨.type "code",none,.fields #[.str "_law_rule" 277,.str "_law_rule" 278,.str "/claim/cut.py" 279,.int 59 0,.int 1 0,.int 0 0,.int 0 0,.int 3 0,.ref 75,.bool true,.int 181 0,.ref 76,.none,.ref 77,.ref 78,.ref 79,.int 284 0,.int 59 0,.str "/claim/cut.py" 285],#[]⟩
noncomputable def ko81 (P:Params):Obj:=⟨.type "function",none,.func (PySem.W.fnOf "_law_rule" "_law_rule" (qa8 qe0) (qa2 qe0) (qa1 qe0) .none (.none) (.none) (.str "law_manyreaders_k12_deeds_that_may_be_done" 240) none (.ref 80) (.none)),#[]⟩
noncomputable def ko87 (P:Params):Obj:=⟨.type "code",none,.fields #[.str "_law_deed" 287,.str "_law_deed" 288,.str "/claim/cut.py" 289,.int 64 0,.int 2 0,.int 0 0,.int 0 0,.int 3 0,.ref 82,.bool true,.int 181 0,.ref 83,.none,.ref 84,.ref 85,.ref 86,.int 294 0,.int 64 0,.str "/claim/cut.py" 295],#[]⟩
noncomputable def ko88 (P:Params):Obj:=⟨.type "function",none,.func (PySem.W.fnOf "_law_deed" "_law_deed" (qa8 qe5) (qa2 qe5) (qa1 qe5) .none (.none) (.none) (.str "law_manyreaders_k12_deeds_that_may_be_done" 240) none (.ref 87) (.none)),#[]⟩
noncomputable def ko94 (P:Params):Obj:=⟨.type "code",none,.fields #[.str "_law_row" 297,.str "_law_row" 298,.str "/claim/cut.py" 299,.int 72 0,.int 4 0,.int 0 0,.int 0 0,.int 3 0,.ref 89,.bool true,.int 181 0,.ref 90,.none,.ref 91,.ref 92,.ref 93,.int 309 0,.int 72 0,.str "/claim/cut.py" 310],#[]⟩
noncomputable def ko95 (P:Params):Obj:=⟨.type "function",none,.func (PySem.W.fnOf "_law_row" "_law_row" (qa8 qf2) (qa2 qf2) (qa1 qf2) .none (.none) (.none) (.str "law_manyreaders_k12_deeds_that_may_be_done" 240) none (.ref 94) (.none)),#[]⟩
noncomputable def ko99 (P:Params):Obj:=⟨.type "code",none,.fields #[.str "_law_fronts" 312,.str "_law_fronts" 313,.str "/claim/cut.py" 314,.int 82 0,.int 2 0,.int 0 0,.int 0 0,.int 3 0,.ref 96,.bool true,.int 181 0,.ref 97,.none,.none,.none,.ref 98,.int 315 0,.int 82 0,.str "/claim/cut.py" 316],#[]⟩
noncomputable def ko100 (P:Params):Obj:=⟨.type "function",none,.func (PySem.W.fnOf "_law_fronts" "_law_fronts" (qa8 qc4) (qa2 qc4) (qa1 qc4) .none (.none) (.none) (.str "law_manyreaders_k12_deeds_that_may_be_done" 240) none (.ref 99) (.none)),#[]⟩
noncomputable def ko106 (P:Params):Obj:=⟨.type "code",none,.fields #[.str "_law_lets" 318,.str "_law_lets" 319,.str "/claim/cut.py" 320,.int 93 0,.int 3 0,.int 0 0,.int 0 0,.int 3 0,.ref 101,.bool true,.int 181 0,.ref 102,.none,.ref 103,.ref 104,.ref 105,.int 325 0,.int 93 0,.str "/claim/cut.py" 326],#[]⟩
noncomputable def ko107 (P:Params):Obj:=⟨.type "function",none,.func (PySem.W.fnOf "_law_lets" "_law_lets" (qa8 qe2) (qa2 qe2) (qa1 qe2) .none (.none) (.none) (.str "law_manyreaders_k12_deeds_that_may_be_done" 240) none (.ref 106) (.none)),#[]⟩
noncomputable def ko113 (P:Params):Obj:=⟨.type "code",none,.fields #[.str "_law_put" 328,.str "_law_put" 329,.str "/claim/cut.py" 330,.int 100 0,.int 3 0,.int 0 0,.int 0 0,.int 3 0,.ref 108,.bool true,.int 181 0,.ref 109,.none,.ref 110,.ref 111,.ref 112,.int 334 0,.int 100 0,.str "/claim/cut.py" 335],#[]⟩
noncomputable def ko114 (P:Params):Obj:=⟨.type "function",none,.func (PySem.W.fnOf "_law_put" "_law_put" (qa8 qf3) (qa2 qf3) (qa1 qf3) .none (.none) (.none) (.str "law_manyreaders_k12_deeds_that_may_be_done" 240) none (.ref 113) (.none)),#[]⟩
noncomputable def ko118 (P:Params):Obj:=⟨.type "code",none,.fields #[.str "_law_settled" 337,.str "_law_settled" 338,.str "/claim/cut.py" 339,.int 102 0,.int 2 0,.int 0 0,.int 0 0,.int 3 0,.ref 115,.bool true,.int 181 0,.ref 116,.none,.none,.none,.ref 117,.int 340 0,.int 102 0,.str "/claim/cut.py" 341],#[]⟩
noncomputable def ko119 (P:Params):Obj:=⟨.type "function",none,.func (PySem.W.fnOf "_law_settled" "_law_settled" (qa8 qb8) (qa2 qb8) (qa1 qb8) .none (.none) (.none) (.str "law_manyreaders_k12_deeds_that_may_be_done" 240) none (.ref 118) (.none)),#[]⟩
noncomputable def ko123 (P:Params):Obj:=⟨.type "code",none,.fields #[.str "_law_can" 343,.str "_law_can" 344,.str "/claim/cut.py" 345,.int 118 0,.int 2 0,.int 0 0,.int 0 0,.int 3 0,.ref 120,.bool true,.int 181 0,.ref 121,.none,.none,.none,.ref 122,.int 346 0,.int 118 0,.str "/claim/cut.py" 347],#[]⟩
noncomputable def ko124 (P:Params):Obj:=⟨.type "function",none,.func (PySem.W.fnOf "_law_can" "_law_can" (qa8 qf5) (qa2 qf5) (qa1 qf5) .none (.none) (.none) (.str "law_manyreaders_k12_deeds_that_may_be_done" 240) none (.ref 123) (.none)),#[]⟩
noncomputable def ko128 (P:Params):Obj:=⟨.type "code",none,.fields #[.str "_law_marked" 349,.str "_law_marked" 350,.str "/claim/cut.py" 351,.int 127 0,.int 3 0,.int 0 0,.int 0 0,.int 3 0,.ref 125,.bool true,.int 181 0,.ref 126,.none,.none,.none,.ref 127,.int 352 0,.int 127 0,.str "/claim/cut.py" 353],#[]⟩
noncomputable def ko129 (P:Params):Obj:=⟨.type "function",none,.func (PySem.W.fnOf "_law_marked" "_law_marked" (qa8 qc3) (qa2 qc3) (qa1 qc3) .none (.none) (.none) (.str "law_manyreaders_k12_deeds_that_may_be_done" 240) none (.ref 128) (.none)),#[]⟩
noncomputable def ko133 (P:Params):Obj:=⟨.type "code",none,.fields #[.str "_law_done" 355,.str "_law_done" 356,.str "/claim/cut.py" 357,.int 131 0,.int 3 0,.int 0 0,.int 0 0,.int 3 0,.ref 130,.bool true,.int 181 0,.ref 131,.none,.none,.none,.ref 132,.int 358 0,.int 131 0,.str "/claim/cut.py" 359],#[]⟩
noncomputable def ko134 (P:Params):Obj:=⟨.type "function",none,.func (PySem.W.fnOf "_law_done" "_law_done" (qa8 qe4) (qa2 qe4) (qa1 qe4) .none (.none) (.none) (.str "law_manyreaders_k12_deeds_that_may_be_done" 240) none (.ref 133) (.none)),#[]⟩
noncomputable def ko138 (P:Params):Obj:=⟨.type "code",none,.fields #[.str "_law_asked" 361,.str "_law_asked" 362,.str "/claim/cut.py" 363,.int 154 0,.int 3 0,.int 0 0,.int 0 0,.int 3 0,.ref 135,.bool true,.int 181 0,.ref 136,.none,.none,.none,.ref 137,.int 364 0,.int 154 0,.str "/claim/cut.py" 365],#[]⟩
noncomputable def ko139 (P:Params):Obj:=⟨.type "function",none,.func (PySem.W.fnOf "_law_asked" "_law_asked" (qa8 qd5) (qa2 qd5) (qa1 qd5) .none (.none) (.none) (.str "law_manyreaders_k12_deeds_that_may_be_done" 240) none (.ref 138) (.none)),#[]⟩
noncomputable def ko143 (P:Params):Obj:=⟨.type "code",none,.fields #[.str "_law_same" 367,.str "_law_same" 368,.str "/claim/cut.py" 369,.int 163 0,.int 2 0,.int 0 0,.int 0 0,.int 3 0,.ref 140,.bool true,.int 181 0,.ref 141,.none,.none,.none,.ref 142,.int 370 0,.int 163 0,.str "/claim/cut.py" 371],#[]⟩
noncomputable def ko144 (P:Params):Obj:=⟨.type "function",none,.func (PySem.W.fnOf "_law_same" "_law_same" (qa8 qc8) (qa2 qc8) (qa1 qc8) .none (.none) (.none) (.str "law_manyreaders_k12_deeds_that_may_be_done" 240) none (.ref 143) (.none)),#[]⟩
noncomputable def ko148 (P:Params):Obj:=⟨.type "code",none,.fields #[.str "_law_formed" 373,.str "_law_formed" 374,.str "/claim/cut.py" 375,.int 180 0,.int 2 0,.int 0 0,.int 0 0,.int 3 0,.ref 145,.bool true,.int 181 0,.ref 146,.none,.none,.none,.ref 147,.int 376 0,.int 180 0,.str "/claim/cut.py" 377],#[]⟩
noncomputable def ko149 (P:Params):Obj:=⟨.type "function",none,.func (PySem.W.fnOf "_law_formed" "_law_formed" (qa8 qc5) (qa2 qc5) (qa1 qc5) .none (.none) (.none) (.str "law_manyreaders_k12_deeds_that_may_be_done" 240) none (.ref 148) (.none)),#[]⟩
noncomputable def ko153 (P:Params):Obj:=⟨.type "code",none,.fields #[.str "_law_all" 379,.str "_law_all" 380,.str "/claim/cut.py" 381,.int 191 0,.int 1 0,.int 0 0,.int 0 0,.int 3 0,.ref 150,.bool true,.int 181 0,.ref 151,.none,.none,.none,.ref 152,.int 382 0,.int 191 0,.str "/claim/cut.py" 383],#[]⟩
noncomputable def ko154 (P:Params):Obj:=⟨.type "function",none,.func (PySem.W.fnOf "_law_all" "_law_all" (qa8 qf6) (qa2 qf6) (qa1 qf6) .none (.none) (.none) (.str "law_manyreaders_k12_deeds_that_may_be_done" 240) none (.ref 153) (.none)),#[]⟩
noncomputable def ko158 (P:Params):Obj:=⟨.type "code",none,.fields #[.str "law" 385,.str "law" 386,.str "/claim/cut.py" 387,.int 196 0,.int 1 0,.int 0 0,.int 0 0,.int 3 0,.ref 155,.bool true,.int 181 0,.ref 156,.none,.none,.none,.ref 157,.int 388 0,.int 196 0,.str "/claim/cut.py" 389],#[]⟩
noncomputable def ko159 (P:Params):Obj:=⟨.type "function",none,.func (PySem.W.fnOf "law" "law" (qa8 qw4) (qa2 qw4) (qa1 qw4) .none (.none) (.none) (.str "law_manyreaders_k12_deeds_that_may_be_done" 240) none (.ref 158) (.none)),#[]⟩
noncomputable def kf0 (P:Params):PySem.W.Frag:=[(3,ko3 P),(15,ko15 P),(16,ko16 P),(20,ko20 P),(21,ko21 P),(27,ko27 P),(28,ko28 P),(29,ko29 P)]
noncomputable def kf1 (P:Params):PySem.W.Frag:=[(33,ko33 P),(34,ko34 P),(38,ko38 P),(39,ko39 P),(45,ko45 P),(46,ko46 P),(52,ko52 P),(53,ko53 P)]
noncomputable def kf2 (P:Params):PySem.W.Frag:=[(59,ko59 P),(60,ko60 P),(66,ko66 P),(67,ko67 P),(73,ko73 P),(74,ko74 P),(80,ko80 P),(81,ko81 P)]
noncomputable def kf3 (P:Params):PySem.W.Frag:=[(87,ko87 P),(88,ko88 P),(94,ko94 P),(95,ko95 P),(99,ko99 P),(100,ko100 P),(106,ko106 P),(107,ko107 P)]
noncomputable def kf4 (P:Params):PySem.W.Frag:=[(113,ko113 P),(114,ko114 P),(118,ko118 P),(119,ko119 P),(123,ko123 P),(124,ko124 P),(128,ko128 P),(129,ko129 P)]
noncomputable def kf5 (P:Params):PySem.W.Frag:=[(133,ko133 P),(134,ko134 P),(138,ko138 P),(139,ko139 P),(143,ko143 P),(144,ko144 P),(148,ko148 P),(149,ko149 P)]
noncomputable def kf6 (P:Params):PySem.W.Frag:=[(153,ko153 P),(154,ko154 P),(158,ko158 P),(159,ko159 P)]
noncomputable def kfrag (P:Params):PySem.W.Frag:=((kf0 P)++((kf1 P)++(kf2 P)))++(((kf3 P)++(kf4 P))++((kf5 P)++(kf6 P)))
noncomputable def kads:List Addr:=[3,15,16,20,21,27,28,29,33,34,38,39,45,46,52,53,59,60,66,67,73,74,80,81,87,88,94,95,99,100,106,107,113,114,118,119,123,124,128,129,133,134,138,139,143,144,148,149,153,154,158,159]
theorem txt {w:World} {h:Heap} {mg:Str→Option Value} (X:(kfrag w.params).In h) (G:h.Ns mainGlobals mg):Txt w (kfrag w.params) mg:=
  txt_mk (f0:=53) (od0:=none) (an0:=none) (sl0:=#[]) (oc0:=.type "function") (kV0:=.none) (dc0:=.none) (pm0:=.str "law_manyreaders_k12_deeds_that_may_be_done" 240) (cd0:=.ref 52) (ct0:=.none) (f1:=67) (od1:=none) (an1:=none) (sl1:=#[]) (oc1:=.type "function") (kV1:=.none) (dc1:=.none) (pm1:=.str "law_manyreaders_k12_deeds_that_may_be_done" 240) (cd1:=.ref 66) (ct1:=.none) (f2:=60) (od2:=none) (an2:=none) (sl2:=#[]) (oc2:=.type "function") (kV2:=.none) (dc2:=.none) (pm2:=.str "law_manyreaders_k12_deeds_that_may_be_done" 240) (cd2:=.ref 59) (ct2:=.none) (f3:=154) (od3:=none) (an3:=none) (sl3:=#[]) (oc3:=.type "function") (kV3:=.none) (dc3:=.none) (pm3:=.str "law_manyreaders_k12_deeds_that_may_be_done" 240) (cd3:=.ref 153) (ct3:=.none) (f4:=74) (od4:=none) (an4:=none) (sl4:=#[]) (oc4:=.type "function") (kV4:=.none) (dc4:=.none) (pm4:=.str "law_manyreaders_k12_deeds_that_may_be_done" 240) (cd4:=.ref 73) (ct4:=.none) (f5:=149) (od5:=none) (an5:=none) (sl5:=#[]) (oc5:=.type "function") (kV5:=.none) (dc5:=.none) (pm5:=.str "law_manyreaders_k12_deeds_that_may_be_done" 240) (cd5:=.ref 148) (ct5:=.none) (f6:=34) (od6:=none) (an6:=none) (sl6:=#[]) (oc6:=.type "function") (kV6:=.none) (dc6:=.none) (pm6:=.str "manyreaders.deeds" 210) (cd6:=.ref 33) (ct6:=.none) (f7:=21) (od7:=none) (an7:=none) (sl7:=#[]) (oc7:=.type "function") (kV7:=.none) (dc7:=.none) (pm7:=.str "manyreaders.rooms" 187) (cd7:=.ref 20) (ct7:=.none) (f8:=28) (od8:=none) (an8:=none) (sl8:=#[]) (oc8:=.type "function") (kV8:=.none) (dc8:=.none) (pm8:=.str "manyreaders.rooms" 187) (cd8:=.ref 27) (ct8:=.none) (f9:=46) (od9:=none) (an9:=none) (sl9:=#[]) (oc9:=.type "function") (kV9:=.none) (dc9:=.none) (pm9:=.str "manyreaders.deeds" 210) (cd9:=.ref 45) (ct9:=.none) (f10:=39) (od10:=none) (an10:=none) (sl10:=#[]) (oc10:=.type "function") (kV10:=.none) (dc10:=.none) (pm10:=.str "manyreaders.deeds" 210) (cd10:=.ref 38) (ct10:=.none) (f11:=88) (od11:=none) (an11:=none) (sl11:=#[]) (oc11:=.type "function") (kV11:=.none) (dc11:=.none) (pm11:=.str "law_manyreaders_k12_deeds_that_may_be_done" 240) (cd11:=.ref 87) (ct11:=.none) (f12:=114) (od12:=none) (an12:=none) (sl12:=#[]) (oc12:=.type "function") (kV12:=.none) (dc12:=.none) (pm12:=.str "law_manyreaders_k12_deeds_that_may_be_done" 240) (cd12:=.ref 113) (ct12:=.none) (f13:=100) (od13:=none) (an13:=none) (sl13:=#[]) (oc13:=.type "function") (kV13:=.none) (dc13:=.none) (pm13:=.str "law_manyreaders_k12_deeds_that_may_be_done" 240) (cd13:=.ref 99) (ct13:=.none) (f14:=107) (od14:=none) (an14:=none) (sl14:=#[]) (oc14:=.type "function") (kV14:=.none) (dc14:=.none) (pm14:=.str "law_manyreaders_k12_deeds_that_may_be_done" 240) (cd14:=.ref 106) (ct14:=.none) (f15:=119) (od15:=none) (an15:=none) (sl15:=#[]) (oc15:=.type "function") (kV15:=.none) (dc15:=.none) (pm15:=.str "law_manyreaders_k12_deeds_that_may_be_done" 240) (cd15:=.ref 118) (ct15:=.none) (f16:=124) (od16:=none) (an16:=none) (sl16:=#[]) (oc16:=.type "function") (kV16:=.none) (dc16:=.none) (pm16:=.str "law_manyreaders_k12_deeds_that_may_be_done" 240) (cd16:=.ref 123) (ct16:=.none) (f17:=139) (od17:=none) (an17:=none) (sl17:=#[]) (oc17:=.type "function") (kV17:=.none) (dc17:=.none) (pm17:=.str "law_manyreaders_k12_deeds_that_may_be_done" 240) (cd17:=.ref 138) (ct17:=.none) (f18:=129) (od18:=none) (an18:=none) (sl18:=#[]) (oc18:=.type "function") (kV18:=.none) (dc18:=.none) (pm18:=.str "law_manyreaders_k12_deeds_that_may_be_done" 240) (cd18:=.ref 128) (ct18:=.none) (f19:=134) (od19:=none) (an19:=none) (sl19:=#[]) (oc19:=.type "function") (kV19:=.none) (dc19:=.none) (pm19:=.str "law_manyreaders_k12_deeds_that_may_be_done" 240) (cd19:=.ref 133) (ct19:=.none) (f20:=95) (od20:=none) (an20:=none) (sl20:=#[]) (oc20:=.type "function") (kV20:=.none) (dc20:=.none) (pm20:=.str "law_manyreaders_k12_deeds_that_may_be_done" 240) (cd20:=.ref 94) (ct20:=.none) (f21:=144) (od21:=none) (an21:=none) (sl21:=#[]) (oc21:=.type "function") (kV21:=.none) (dc21:=.none) (pm21:=.str "law_manyreaders_k12_deeds_that_may_be_done" 240) (cd21:=.ref 143) (ct21:=.none) (f22:=81) (od22:=none) (an22:=none) (sl22:=#[]) (oc22:=.type "function") (kV22:=.none) (dc22:=.none) (pm22:=.str "law_manyreaders_k12_deeds_that_may_be_done" 240) (cd22:=.ref 80) (ct22:=.none) (f23:=159) (od23:=none) (an23:=none) (sl23:=#[]) (oc23:=.type "function") (kV23:=.none) (dc23:=.none) (pm23:=.str "law_manyreaders_k12_deeds_that_may_be_done" 240) (cd23:=.ref 158) (ct23:=.none) (ga_GUEST_WORDS:=29) (gn_GUEST_WORDS:=0) (gs_GUEST_WORDS:=#[]) (gt_GUEST_WORDS0:=212) (gt_GUEST_WORDS1:=213) (gt_GUEST_WORDS2:=214) (gt_GUEST_WORDS3:=215) (ga_WANTS:=16) (gn_WANTS:=0) (gs_WANTS:=#[]) (gt_WANTS0:=192) (gt_WANTS1:=193) (ga_WRITING_WORDS:=15) (gn_WRITING_WORDS:=0) (gs_WRITING_WORDS:=#[]) (gt_WRITING_WORDS0:=189) (gt_WRITING_WORDS1:=190) X G (by kernel_rfl) (by kernel_rfl) (by kernel_rfl) (by kernel_rfl) (by kernel_rfl) (by kernel_rfl) (by kernel_rfl) (by kernel_rfl) (by kernel_rfl) (by kernel_rfl) (by kernel_rfl) (by kernel_rfl) (by kernel_rfl) (by kernel_rfl) (by kernel_rfl) (by kernel_rfl) (by kernel_rfl) (by kernel_rfl) (by kernel_rfl) (by kernel_rfl) (by kernel_rfl) (by kernel_rfl) (by kernel_rfl) (by kernel_rfl) (by kernel_rfl) (by kernel_rfl) (by kernel_rfl) (by kernel_rfl) (by kernel_rfl) (by kernel_rfl) (by kernel_rfl) (by kernel_rfl) (by kernel_rfl) (by kernel_rfl) (by kernel_rfl) (by kernel_rfl) (by kernel_rfl) (by kernel_rfl) (by kernel_rfl) (by kernel_rfl) (by kernel_rfl) (by kernel_rfl) (by kernel_rfl) (by kernel_rfl) (by kernel_rfl) (by kernel_rfl) (by kernel_rfl) (by kernel_rfl) (by kernel_rfl) (by kernel_rfl) (by kernel_rfl) (by kernel_rfl) (by kernel_rfl) (by kernel_rfl) (by kernel_rfl) (by kernel_rfl) (by kernel_rfl) (by kernel_rfl) (by kernel_rfl) (by kernel_rfl) (by kernel_rfl) (by kernel_rfl) (by kernel_rfl) (by kernel_rfl) (by kernel_rfl) (by kernel_rfl) (by kernel_rfl) (by kernel_rfl) (by kernel_rfl) (by kernel_rfl) (by kernel_rfl) (by kernel_rfl) (by kernel_rfl) (by kernel_rfl) (by kernel_rfl) (by kernel_rfl) (by kernel_rfl) (by kernel_rfl) (by kernel_rfl) (by kernel_rfl) (by kernel_rfl) (by kernel_rfl) (by kernel_rfl) (by kernel_rfl) (by kernel_rfl) (by kernel_rfl) (by kernel_rfl) (by kernel_rfl) (by kernel_rfl) (by kernel_rfl) (by kernel_rfl) (by kernel_rfl) (by kernel_rfl) (by kernel_rfl) (by kernel_rfl) (by kernel_rfl) (by kernel_rfl) (by kernel_rfl) (by kernel_rfl) (by kernel_rfl) (by kernel_rfl) (by kernel_rfl) (by kernel_rfl) (by kernel_rfl) (by kernel_rfl) (by kernel_rfl) (by kernel_rfl) (by kernel_rfl) (by kernel_rfl) (by kernel_rfl) (by kernel_rfl) (by kernel_rfl) (by kernel_rfl) (by kernel_rfl) (by kernel_rfl) (by kernel_rfl)
end K12
open PySem PySem.W PyProof.Rows
set_option maxRecDepth 100000 in
set_option maxHeartbeats 0 in
theorem PySem.Challenge.cw_manyreaders_k12_deeds_that_may_be_done_holds : PySem.Challenge.rw_manyreaders_k12_deeds_that_may_be_done.Holds := by
  rw [K12.lw_eq];w_on;o_law;o_head (kHook K12.kfrag K12.kads (fun _=>by kernel_rfl));(case hw=>w_witness2)
  exact K12.walk (l:=K12.lw) rfl rfl rfl (fun w h Y=>PySem.W.kIn_of Y) K12.law_true fun w mg h KX G=>K12.txt KX G
