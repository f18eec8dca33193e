import PyProof.Rows.All
import Wide.All
import OpenK.AllK
import Wide.FinOn
import Lean
import PyProof.EqAt
import PyProof.EqKinds
import PyProof.TupleCall
import PySem.Challenge.RW_manyreaders_k05_whole_counts_agree
set_option Elab.async false
set_option linter.all false
set_option maxRecDepth 100000
namespace L2
open PySem PySem.Spec PyProof.Rows
noncomputable abbrev Key:=Sum Int Str
noncomputable def keyIs:Key→Value→Bool
  | .inl k,v=>Value.isInt k v
  | .inr x,v=>Value.isStrOf x v
noncomputable def keyH (w:World):Key→Int
  | .inl k=>hashInt k
  | .inr x=>hashStr w x
theorem keyIs_shape:∀ {k:Key} {v:Value},keyIs k v=true→(∃ i t,k=Sum.inl i∧v=Value.int i t)∨(∃ x t,k=Sum.inr x∧v=Value.str x t)
  | .inl i,v,h=>by
    obtain ⟨t,e⟩:=Value.isInt_shape (k:=i) (v:=v) h
    exact .inl ⟨i,t,rfl,e⟩
  | .inr x,v,h=>by
    obtain ⟨t,e⟩:=Value.isStrOf_shape (x:=x) (v:=v) h
    exact .inr ⟨x,t,rfl,e⟩
theorem keyIs_int (i:Int) (t:Tok):keyIs (.inl i) (.int i t)=true:=by simp [keyIs,Value.isInt]
theorem keyIs_str (x:Str) (t:Tok):keyIs (.inr x) (.str x t)=true:=by simp [keyIs,Value.isStrOf]
theorem key_ll (a b:Int):decide ((Sum.inl a:Key)=Sum.inl b)=(a == b):=by
  by_cases e:a=b
  · subst e;simp
  · have h:¬ (Sum.inl a:Key)=Sum.inl b:=fun q=>e (Sum.inl.inj q)
    rw [decide_eq_false h]
    exact (beq_eq_false_iff_ne.mpr e).symm
theorem key_rr (a b:Str):decide ((Sum.inr a:Key)=Sum.inr b)=decide (a=b):=by
  by_cases e:a=b
  · subst e;simp
  · have h:¬ (Sum.inr a:Key)=Sum.inr b:=fun q=>e (Sum.inr.inj q)
    rw [decide_eq_false h,decide_eq_false e]
theorem key_lr (a:Int) (b:Str):decide ((Sum.inl a:Key)=Sum.inr b)=false:=decide_eq_false (fun q=>nomatch q)
theorem key_rl (a:Str) (b:Int):decide ((Sum.inr a:Key)=Sum.inl b)=false:=decide_eq_false (fun q=>nomatch q)
noncomputable def mixKind (prog:Program) (w:World):PySem.KeyKind prog w Key where
  is:=keyIs
  hash:=keyH w
  inj:=fun v a b ha hb=>by
    rcases keyIs_shape ha with ⟨i,t,rfl,rfl⟩ | ⟨x,t,rfl,rfl⟩
    · rcases keyIs_shape hb with ⟨j,u,rfl,e⟩ | ⟨y,u,rfl,e⟩
      · injection e with e1 _;rw [e1]
      · exact nomatch e
    · rcases keyIs_shape hb with ⟨j,u,rfl,e⟩ | ⟨y,u,rfl,e⟩
      · exact nomatch e
      · injection e with e1 _;rw [e1]
  byValue:=fun k v h=>by
    rcases keyIs_shape h with ⟨i,t,rfl,rfl⟩ | ⟨x,t,rfl,rfl⟩ <;> rfl
  pyHash:=fun hv h=>by
    rcases keyIs_shape hv with ⟨i,t,rfl,rfl⟩ | ⟨x,t,rfl,rfl⟩
    · exact wpAny_pyHash_int h
    · exact wpAny_pyHash_str h
  eqBool:=fun hu hv h=>by
    rcases keyIs_shape hu with ⟨i,t,rfl,rfl⟩ | ⟨x,t,rfl,rfl⟩
    · rcases keyIs_shape hv with ⟨j,u,rfl,rfl⟩ | ⟨y,u,rfl,rfl⟩
      · rw [key_ll] at h;exact wpAny_eqBool_int h
      · rw [key_lr] at h;exact SeqAt.EqAt.int_str i t y u _ _ _ _ h
    · rcases keyIs_shape hv with ⟨j,u,rfl,rfl⟩ | ⟨y,u,rfl,rfl⟩
      · rw [key_rl] at h;exact SeqAt.EqAt.str_int x t j u _ _ _ _ h
      · rw [key_rr] at h;exact wpAny_eqBool_str h
  «strs»:=fun k x t v h=>by
    rcases keyIs_shape h with ⟨i,u,rfl,e⟩ | ⟨y,u,rfl,e⟩
    · exact nomatch e
    · injection e with e1 _
      subst e1
      cases v <;> rfl
theorem mixKind_int (prog:Program) (w:World) (i:Int) (t:Tok):(mixKind prog w).is (.inl i) (.int i t)=true:=keyIs_int i t
theorem mixKind_str (prog:Program) (w:World) (x:Str) (t:Tok):(mixKind prog w).is (.inr x) (.str x t)=true:=keyIs_str x t
end L2
namespace L2
open PySem PySem.Spec PyProof.Rows
inductive V where
  | non | bl (b:Bool) | int (i:Int) | str (x:Str) | byt (b:Array UInt8) | flt (b:UInt64) | ref (a:Addr) | ty (n:String)
  deriving DecidableEq
noncomputable def RelV:V→Value→Prop
  | .non,u=>u=Value.none
  | .bl b,u=>u=Value.bool b
  | .int i,u=>∃ t,u=Value.int i t
  | .str x,u=>∃ t,u=Value.str x t
  | .byt b,u=>∃ t,u=Value.bytes b t
  | .flt b,u=>∃ t,u=Value.float b t
  | .ref a,u=>u=Value.ref a
  | .ty n,u=>u=Value.type n
noncomputable abbrev Vals:List V→List Value→Prop:=Paired RelV
theorem Vals.length {xs:List V} {us:List Value} (r:Vals xs us):xs.length=us.length:=Paired.length r
theorem Vals.get:∀ {xs:List V} {us:List Value} {i:Nat} {x:V},Vals xs us→xs[i]?=some x→∃ u,us[i]?=some u∧RelV x u
  | _,_,_,_,.nil,e=>by simp at e
  | _,_,0,_,.cons r _,e=>by simp at e;subst e;exact ⟨_,rfl,r⟩
  | _,_,i+1,x,.cons _ t,e=>by
    obtain ⟨u,h1,h2⟩:=Vals.get (i:=i) (x:=x) t (by simpa using e)
    exact ⟨u,by simpa using h1,h2⟩
theorem Vals.set {x:V} {u:Value} (r:RelV x u):∀ {xs:List V} {us:List Value} (i:Nat),Vals xs us→Vals (xs.set i x) (us.set i u)
  | _,_,_,.nil=>.nil
  | _,_,0,.cons _ t=>.cons r t
  | _,_,i+1,.cons q t=>.cons q (Vals.set r i t)
theorem Vals.append:∀ {xs ys:List V} {us ws:List Value},Vals xs us→Vals ys ws→Vals (xs++ys) (us++ws)
  | _,_,_,_,.nil,s=>s
  | _,_,_,_,.cons r t,s=>.cons r (Vals.append t s)
theorem Vals.take:∀ {xs:List V} {us:List Value} (n:Nat),Vals xs us→Vals (xs.take n) (us.take n)
  | _,_,0,_=>.nil
  | _,_,_+1,.nil=>.nil
  | _,_,n+1,.cons r t=>.cons r (Vals.take n t)
theorem Vals.drop:∀ {xs:List V} {us:List Value} (n:Nat),Vals xs us→Vals (xs.drop n) (us.drop n)
  | _,_,0,r=>r
  | _,_,_+1,.nil=>.nil
  | _,_,n+1,.cons _ t=>Vals.drop n t
noncomputable def RelO:Option V→Option Value→Prop
  | some v,some u=>RelV v u
  | none,none=>True
  | _,_=>False
noncomputable def KV {κ:Type}:List (κ×V)→List (κ×Value)→Prop:=Paired fun (p:κ×V) (q:κ×Value)=>p.1=q.1∧RelV p.2 q.2
noncomputable def kV:Key→V
  | .inl i=>.int i
  | .inr x=>.str x
inductive HO where
  | lst (xs:List V)
  | tup (xs:List V)
  | dK (kvs:List (Key×V)) | dT (kvs:List (List Key×V))
  | set (S:Int→Bool) (n:Nat)
  | ins (C dx:Addr) (fs:List (Str×V))
  | own (x:Addr)
  | xd (fs:List (Str×V))
  | met (f x:Addr)
  | rng (lo hi:Int)
  | frz (o:Obj) (u:HO)
  | tbl (ps:Array Value)
  | ext (φ:Heap→Prop)
noncomputable abbrev Hp:=Addr→Option HO
noncomputable def upd (H:Hp) (a:Addr) (o:HO):Hp:=fun b=>if b=a then some o else H b
theorem upd_same {H:Hp} {a:Addr} {o:HO}:upd H a o a=some o:=by unfold upd;rw [if_pos rfl]
theorem upd_ne {H:Hp} {a b:Addr} {o:HO} (h:b≠a):upd H a o b=H b:=by unfold upd;rw [if_neg h]
theorem ne_of_none {H:Hp} {a b:Addr} {o:HO} (h:H a=some o) (h':H b=none):a≠b:=by
  intro e;subst e;rw [h] at h';cases h'
noncomputable def IsTupN (h:Heap) (a:Addr) (items:Array Value):Prop:=∃ o,h.get? a=some o∧o.cls=.type "tuple"∧(∃ n,o.data=.seq items n)∧o.dict=none
theorem IsTupN.up {h:Heap} {a:Addr} {items:Array Value} (x:IsTupN h a items):IsTup h a items:=by
  obtain ⟨o,e,c,d,_⟩:=x
  exact ⟨o,e,c,d⟩
theorem IsTupN.lt {h:Heap} {a:Addr} {items:Array Value} (x:IsTupN h a items):a<h.objs.size:=x.up.lt
theorem IsTupN.new (h:Heap) (items:Array Value):IsTupN (h.push { cls:=.type "tuple",data:=.seq items }) h.objs.size items:=⟨_,Heap.get?_push_size _ rfl,rfl,⟨_,rfl⟩,rfl⟩
section
variable (P:Program) (w:World)
noncomputable def ObjOk (H:Hp) (h:Heap) (a:Addr):HO→Prop
  | .lst xs=>xs.length≤sizeLine∧∃ (its:List Value) (n:Nat),Vals xs its∧h.get? a=some { cls:=.type "list",data:=.seq its.toArray n }
  | .tup xs=>xs.length≤sizeLine∧∃ its:List Value,Vals xs its∧IsTupN h a its.toArray
  | .dK kvs=>kvs.length≤sizeLine∧(a == sysModules)=false∧∃ vs,KV kvs vs∧h.DictOf (mixKind P w) a vs
  | .dT kvs=>kvs.length≤sizeLine∧(a == sysModules)=false∧∃ xs:List (List Key×Addr×Value),
      Paired (fun (p:List Key×V) (q:List Key×Addr×Value)=>p.1=q.1∧H q.2.1=some (.tup (p.1.map kV))∧RelV p.2 q.2.2) kvs xs ∧
      ∃ o es ep,h.get? a=some o∧o.ExactDict∧o.data=.dict es ep∧es.toList=xs.map (entryOfKey (tupleKind (mixKind P w)))∧(xs.map (·.1)).Nodup
  | .set S n=>h.SetOf (intKind P w) a S n
  | .ins C dx fs=>H dx=some (.own a)∧fs.length≤1000∧dx≠a∧h.get? a=some (PySem.W.instObj C dx) ∧
      ∃ mA,h.Ns1 dx mA∧(∀ f,RelO (fs.lookup f) (mA f))∧PySem.Within mA (fs.map (·.1))
  | .own _=>∃ o,h.get? a=some o
  | .xd fs=>∃ mA,h.Ns1 a mA∧∀ f,RelO (fs.lookup f) (mA f)
  | .rng lo hi=>∃ t u v,h.get? a=some { cls:=.type "range",data:=.fields #[.int lo t,.int hi u,.int 1 v] }
  | .frz o u=>h.get? a=some o∧ObjOk H h a u
  | .tbl ps=>h.get? a=some { cls:=.none,data:=.fields ps }
  | .met f x=>h.get? a=some (PySem.W.methodObj (.ref f) (.ref x))
  | .ext φ=>φ h∧(∃ o,h.get? a=some o)∧∀ h1 h2:Heap,φ h1→(∀ o,h1.get? a=some o→h2.get? a=some o)→φ h2
noncomputable def HOk (H:Hp) (h:Heap):Prop:=∀ a o,H a=some o→ObjOk P w H h a o
end
section
variable {P:Program} {w:World} {H H':Hp} {h h':Heap} {a:Addr} {o:HO}
theorem ObjOk.lt (x:ObjOk P w H h a o):a<h.objs.size:=by
  cases o with
  | lst xs=>obtain ⟨_,_,_,_,e⟩:=x;exact Heap.lt_size e
  | tup xs=>obtain ⟨_,_,_,p⟩:=x;exact p.lt
  | dK kvs=>obtain ⟨_,_,_,_,o,_,_,e,_⟩:=x;exact Heap.lt_size e
  | dT kvs=>obtain ⟨_,_,_,_,o,_,_,e,_⟩:=x;exact Heap.lt_size e
  | set S n=>obtain ⟨o,_,_,_,e,_⟩:=x;exact Heap.lt_size e
  | ins C dx fs=>obtain ⟨_,_,_,e,_⟩:=x;exact Heap.lt_size e
  | own y=>obtain ⟨_,e⟩:=x;exact Heap.lt_size e
  | xd fs=>obtain ⟨_,⟨_,_,_,e,_⟩,_⟩:=x;exact Heap.lt_size e
  | rng lo hi=>obtain ⟨_,_,_,e⟩:=x;exact Heap.lt_size e
  | frz ob u=>obtain ⟨e,_⟩:=x;exact Heap.lt_size e
  | tbl ps=>exact Heap.lt_size (show h.get? a=some _ from x)
  | met f y=>exact Heap.lt_size (show h.get? a=some _ from x)
  | ext φ=>obtain ⟨_,⟨_,e⟩,_⟩:=x;exact Heap.lt_size e
theorem Paired.mapP {α β:Type} {F G:α→β→Prop}:∀ {l₁:List α} {l₂:List β},Paired F l₁ l₂→(∀ a b,F a b→G a b)→Paired G l₁ l₂
  | _,_,.nil,_=>.nil
  | _,_,.cons r t,f=>.cons (f _ _ r) (Paired.mapP t f)
theorem ObjOk.stay (x:ObjOk P w H h a o) (k:∀ b u,(b=a∨H b=some (.own a))→h.get? b=some u→h'.get? b=some u)
    (ho:∀ b,H b=some (.own a)→H' b=some (.own a)) (ht:∀ b xs,H b=some (.tup xs)→H' b=some (.tup xs)):ObjOk P w H' h' a o:=by
  induction o with
  | lst xs=>obtain ⟨z,its,n,r,e⟩:=x;exact ⟨z,its,n,r,k _ _ (.inl rfl) e⟩
  | tup xs=>obtain ⟨z,its,r,ob,e,c⟩:=x;exact ⟨z,its,r,ob,k _ _ (.inl rfl) e,c⟩
  | dK kvs=>obtain ⟨z,y,vs,r,ob,es,ep,e,c⟩:=x;exact ⟨z,y,vs,r,ob,es,ep,k _ _ (.inl rfl) e,c⟩
  | dT kvs=>
    obtain ⟨z,y,xs,r,ob,es,ep,e,c⟩:=x
    exact ⟨z,y,xs,Paired.mapP r fun p q z=>⟨z.1,ht _ _ z.2.1,z.2.2⟩,ob,es,ep,k _ _ (.inl rfl) e,c⟩
  | set S n=>obtain ⟨ob,es,ep,t,e,c⟩:=x;exact ⟨ob,es,ep,t,k _ _ (.inl rfl) e,c⟩
  | ins C dx fs=>
    obtain ⟨d,z,ne,e,mA,⟨od,es,ep,e2,c⟩,r⟩:=x
    exact ⟨ho _ d,z,ne,k _ _ (.inl rfl) e,mA,⟨od,es,ep,k _ _ (.inr d) e2,c⟩,r⟩
  | own y=>obtain ⟨ob,e⟩:=x;exact ⟨ob,k _ _ (.inl rfl) e⟩
  | xd fs=>obtain ⟨mA,⟨od,es,ep,e,c⟩,r⟩:=x;exact ⟨mA,⟨od,es,ep,k _ _ (.inl rfl) e,c⟩,r⟩
  | rng lo hi=>obtain ⟨t,u,v,e⟩:=x;exact ⟨t,u,v,k _ _ (.inl rfl) e⟩
  | frz ob u ih=>obtain ⟨e,q⟩:=x;exact ⟨k _ _ (.inl rfl) e,ih q⟩
  | tbl ps=>
    have e:h.get? a=some { cls:=.none,data:=.fields ps }:=x
    show h'.get? a=some { cls:=.none,data:=.fields ps }
    exact k a _ (.inl rfl) e
  | met f y=>
    have e:h.get? a=some (PySem.W.methodObj (.ref f) (.ref y)):=x
    show h'.get? a=some (PySem.W.methodObj (.ref f) (.ref y))
    exact k a _ (.inl rfl) e
  | ext φ=>obtain ⟨p,⟨o,e⟩,st⟩:=x;exact ⟨st _ _ p fun o q=>k _ _ (.inl rfl) q,⟨o,k _ _ (.inl rfl) e⟩,st⟩
theorem HOk.lt (x:HOk P w H h) (e:H a=some o):a<h.objs.size:=(x a o e).lt
theorem HOk.fresh (x:HOk P w H h) (e:h.objs.size≤a):H a=none:=by
  cases q:H a with
  | none=>rfl
  | some u=>exact absurd (Nat.lt_of_lt_of_le (x.lt q) e) (Nat.lt_irrefl _)
theorem HOk.kept (x:HOk P w H h) (k:∀ b u,h.get? b=some u→h'.get? b=some u):HOk P w H h':=fun a o e=>
  (x a o e).stay (fun b u _ q=>k b u q) (fun _ q=>q) fun _ _ q=>q
theorem HOk.laid (x:HOk P w H h) (k:∀ b u,h.get? b=some u→h'.get? b=some u) (hp:h.objs.size≤a) (new:ObjOk P w (upd H a o) h' a o):HOk P w (upd H a o) h':=fun b u e=>by
  have hn:=x.fresh hp
  by_cases hb:b=a
  · subst hb;rw [upd_same] at e;cases e;exact new
  · rw [upd_ne hb] at e
    exact (x b u e).stay (fun c v _ q=>k c v q) (fun c q=>by rw [upd_ne (ne_of_none q hn)];exact q) fun c xs q=>by rw [upd_ne (ne_of_none q hn)];exact q
end
noncomputable def Rd (H:Hp) (a:Addr) (u:HO):Prop:=H a=some u∨∃ o,H a=some (.frz o u)
theorem Rd.ok {P:Program} {w:World} {H:Hp} {h:Heap} {a:Addr} {u:HO} (r:Rd H a u) (x:HOk P w H h):ObjOk P w H h a u:=by
  rcases r with r | ⟨o,r⟩
  · exact x a u r
  · obtain ⟨_,q⟩:=x a _ r
    exact q
noncomputable def Mut:Option HO→Prop
  | some (.lst _)=>True
  | some (.dK _)=>True
  | some (.dT _)=>True
  | some (.set _ _)=>True
  | some (.ins _ _ _)=>True
  | some (.ext _)=>True
  | _=>False
section
variable {P:Program} {w:World} {H:Hp} {h h':Heap} {x e:Addr} {o':HO}
theorem HOk.write (ok:HOk P w H h) (mu:Mut (H x)) (he:e=x∨H e=some (.own x)) (k:∀ b u,b≠e→h.get? b=some u→h'.get? b=some u) (heo:∃ u,h'.get? e=some u)
    (new:ObjOk P w (upd H x o') h' x o'):HOk P w (upd H x o') h':=fun b u q=>by
  have nown:∀ c y,H c=some (.own y)→c≠x:=fun c y r z=>by subst z;rw [r] at mu;exact mu
  have ntup:∀ c xs,H c=some (.tup xs)→c≠x:=fun c xs r z=>by subst z;rw [r] at mu;exact mu
  by_cases hb:b=x
  · subst hb;rw [upd_same] at q;cases q;exact new
  · rw [upd_ne hb] at q
    by_cases hbe:b=e
    · have q':H b=some (.own x):=by
        rcases he with z | z
        · exact absurd (hbe.trans z) hb
        · rw [hbe];exact z
      rw [q] at q';cases q'
      obtain ⟨v,hv⟩:=heo
      exact ⟨v,by rw [hbe];exact hv⟩
    · refine (ok b u q).stay (fun c v hc r=>k c v ?_ r) (fun c r=>by rw [upd_ne (nown c b r)];exact r) fun c xs r=>by rw [upd_ne (ntup c xs r)];exact r
      rcases hc with rfl | hc
      · exact hbe
      · rintro rfl
        rcases he with z | z
        · exact nown c b hc z
        · rw [hc] at z;cases z;exact hb rfl
end
structure Un (fs ex:List Addr) (H H':Hp) (h h':Heap):Prop where
  keep:∀ b o,h.get? b=some o→H b=none→b ∉ fs→b ∉ ex→h'.get? b=some o
  slot:∀ b o,h.get? b=some o→H b=none→b∈fs→b ∉ ex→∃ sl,h'.get? b=some { o with slots:=sl }
  free:∀ b o,h.get? b=some o→H b=none→b ∉ ex→H' b=none
  there:∀ b o,h.get? b=some o→b ∉ ex→∃ o',h'.get? b=some o'
  tups:∀ b xs,H b=some (.tup xs)→H' b=some (.tup xs)
  frzs:∀ b o u,H b=some (.frz o u)→H' b=some (.frz o u)
  tbls:∀ b ps,H b=some (.tbl ps)→∃ more,H' b=some (.tbl (ps++more))
section
variable {fs fs' ex ex':List Addr} {H H1 H2:Hp} {h h1 h2 h':Heap} {a x e:Addr} {o:HO}
theorem Un.any (u:Un fs ex H H1 h h1) {b:Addr} {ob:Obj} (q:h.get? b=some ob) (n:H b=none) (hx:b ∉ ex):∃ sl,h1.get? b=some { ob with slots:=sl }:=by
  by_cases hb:b∈fs
  · exact u.slot b ob q n hb hx
  · exact ⟨ob.slots,u.keep b ob q n hb hx⟩
theorem Un.kept (k:∀ b u,h.get? b=some u→h'.get? b=some u):Un fs ex H H h h':=
  ⟨fun b ob q _ _ _=>k b ob q,fun b ob q _ _ _=>⟨ob.slots,k b ob q⟩,fun _ _ _ n _=>n,fun b ob q _=>⟨ob,k b ob q⟩,fun _ _ q=>q,fun _ _ _ q=>q,fun _ ps q=>⟨#[],by rw [q];simp⟩⟩
theorem Un.refl:Un fs ex H H h h:=Un.kept fun _ _ q=>q
theorem Un.laid (k:∀ b u,h.get? b=some u→h'.get? b=some u) (hp:h.objs.size≤a) (hn:H a=none):Un fs ex H (upd H a o) h h' where
  keep:=fun b u q _ _ _=>k b u q
  slot:=fun b u q _ _ _=>⟨u.slots,k b u q⟩
  free:=fun b u q n _=>by rw [upd_ne (Nat.ne_of_lt (Nat.lt_of_lt_of_le (Heap.lt_size q) hp))];exact n
  there:=fun b u q _=>⟨u,k b u q⟩
  tups:=fun b xs q=>by rw [upd_ne (ne_of_none q hn)];exact q
  frzs:=fun b u xs q=>by rw [upd_ne (ne_of_none q hn)];exact q
  tbls:=fun b ps q=>⟨#[],by rw [upd_ne (ne_of_none q hn),q];simp⟩
theorem Un.write (mu:Mut (H x)) (he:e=x∨H e=some (.own x)) (k:∀ b u,b≠e→h.get? b=some u→h'.get? b=some u) (heo:∃ u,h'.get? e=some u):Un fs ex H (upd H x o) h h':=by
  have hx:∀ b,H b=none→b≠x:=fun b n z=>by subst z;rw [n] at mu;exact mu
  have hb:∀ b,H b=none→b≠e:=fun b n z=>by
    subst z
    rcases he with r | r
    · exact hx b n r
    · rw [n] at r;cases r
  have hm:∀ b u,H b=some u→¬ Mut (some u)→b≠x:=fun b u q nm z=>by subst z;rw [q] at mu;exact nm mu
  refine ⟨fun b u q n _ _=>k b u (hb b n) q,fun b u q n _ _=>⟨u.slots,k b u (hb b n) q⟩,fun b u q n _=>by rw [upd_ne (hx b n)];exact n,fun b u q _=>?_,
    fun b xs q=>by rw [upd_ne (hm b _ q fun z=>z)];exact q,fun b u xs q=>by rw [upd_ne (hm b _ q fun z=>z)];exact q,fun b ps q=>⟨#[],by rw [upd_ne (hm b _ q fun z=>z),q];simp⟩⟩
  by_cases hbe:b=e
  · subst hbe;exact heo
  · exact ⟨u,k b u hbe q⟩
end
noncomputable def trk (h:Heap) (H:Hp):List Addr:=(List.range h.objs.size).filter fun a=>(H a).isSome
noncomputable def hidT (h:Heap) (H:Hp):Heap:=PySem.W.hideAll h (trk h H)
theorem hidT_size (h:Heap) (H:Hp):(hidT h H).objs.size=h.objs.size:=PySem.W.hideAll_size _ _
theorem hidT_get {h:Heap} {H:Hp} {b:Addr} {o:Obj} (e:h.get? b=some o) (n:H b=none):(hidT h H).get? b=some o:=
  PySem.W.hideAll_get _ e fun hm=>by
    have q:(H b).isSome=true:=(List.mem_filter.mp hm).2
    rw [n] at q;simp at q
theorem of_hidT {h:Heap} {H:Hp} {b:Addr} {o:Obj} (e:(hidT h H).get? b=some o):h.get? b=some o∧H b=none:=by
  have e':h.get? b=some o:=PySem.W.of_hideAll (trk h H) e
  refine ⟨e',?_⟩
  cases q:H b with
  | none=>rfl
  | some x=>
    have hm:b∈trk h H:=List.mem_filter.mpr ⟨List.mem_range.mpr (Heap.lt_size e'),by simp [q]⟩
    have z:(hidT h H).get? b=none:=PySem.W.hideAll_none (trk h H) hm
    rw [z] at e;cases e
end L2
namespace L2
open PySem PySem.Spec PyProof.Rows
structure Mod (K:PySem.W.Frag) (mg:Str→Option Value) (base:Heap):Prop where
  kin:K.In base
  glob:base.Ns mainGlobals mg
  blt:∃ mb,base.Ns builtinsNs mb∧∀ x:Str,x ≠ "__name__"→mb x=bootBuiltins x
  nolimit:base.NoLimit
structure Cx where
  prog:Program
  w:World
  K:PySem.W.Frag
  mg:Str→Option Value
  base:Heap
  A:Around
  N:List Str
  s₀:Shared
  H₀:Hp
  env:Env
  outer:List Env
  stack:List Env
  ex:List Addr
  fn:Str→Bool
  calm:Bool
  pn:List (Addr×Obj)
  xe:Value→Shared→Prop
noncomputable def frs (l:List Env):List Addr:=l.filterMap (·.frame)
noncomputable abbrev Cx.fs (X:Cx):List Addr:=frs X.outer
noncomputable def Vis (sc:Scope) (x:Str):Prop:=sc.names.lookup x=some .local∨sc.names.lookup x=some .cell∨sc.names.lookup x=some .free
noncomputable def Loc (sc:Scope) (x:Str):Prop:=sc.names.lookup x=some .local∨sc.names.lookup x=some .cell
noncomputable def Look (env:Env) (h:Heap) (m:Str→Option Value) (x:Str) (u:Value):Prop:=
  (env.kindOf x=some .local∧m x=some u)∨((env.kindOf x=some .cell∨env.kindOf x=some .free)∧∃ c,env.cells.lookup x=some c∧h.IsCell c (some u))
structure Cx.Ok (X:Cx):Prop where
  mod:Mod X.K X.mg X.base
  kind:X.env.scope.kind=.function
  glob:X.env.globals=mainGlobals
  blt:X.env.builtins=builtinsNs
  above:X.s₀.heap.objs.size≤X.env.locals
  inj:∀ x y c,X.env.cells.lookup x=some c→X.env.cells.lookup y=some c→x=y
  has:∀ x,(X.env.kindOf x=some .cell∨X.env.kindOf x=some .free)→∃ c,X.env.cells.lookup x=some c
  cab:∀ x c,X.fn x=true→X.env.cells.lookup x=some c→X.s₀.heap.objs.size≤c
  hd:X.calm=true→X.A.handled=none
  frames:X.A.frames=some X.stack
  stk:X.stack=X.outer∨(X.stack=X.env::X.outer∧X.env.frame=some X.env.locals)
  exf:∀ b∈X.ex,b≠X.env.locals∧∀ x c,X.env.cells.lookup x=some c→c≠b
  bs:∀ b o,X.base.get? b=some o→X.s₀.heap.get? b=some o∧X.H₀ b=none
  bsz:X.base.objs.size≤X.s₀.heap.objs.size
  noex:∀ b o,X.base.get? b=some o→b ∉ X.ex
  exfs:∀ b∈X.ex,b ∉ X.fs
  funs:X.s₀.heap.FunFrames X.base X.outer
  frf:∀ b∈X.fs,X.H₀ b=none
structure Inv (X:Cx) (pins:List (Addr×Obj)) (σ:List (Option V)) (H:Hp) (s:Shared):Prop where
  ok:X.Ok
  os:s.os=X.s₀.os
  bare:AllBare s.gens
  base:Un X.fs X.ex X.H₀ H X.s₀.heap s.heap
  loc:∃ m,s.heap.Ns X.env.locals m∧∀ (i:Nat) (x:Str) (v:V),X.N[i]?=some x→σ[i]?=some (some v)→Vis X.env.scope x→∃ u,RelV v u∧Look X.env s.heap m x u
  cell:∀ x c,X.env.cells.lookup x=some c→∃ v,s.heap.IsCell c v
  free:H X.env.locals=none
  freeC:∀ x c,X.env.cells.lookup x=some c→H c=none
  pin:∀ p∈X.pn++pins,s.heap.get? p.1=some p.2∧H p.1=none∧p.1≠X.env.locals∧p.1 ∉ X.fs∧∀ v,p.2.data≠.cell v
  hok:HOk X.prog X.w H s.heap
  len:σ.length=X.N.length
section
variable {X:Cx} {pins:List (Addr×Obj)} {σ:List (Option V)} {H H':Hp} {s:Shared} {h':Heap}
theorem Cx.Ok.nofr (ok:X.Ok) {b:Addr} {o:Obj} (e:X.base.get? b=some o):b ∉ X.fs:=fun hb=>by
  have:=(ok.funs.mem hb).1
  rw [e] at this;cases this
theorem Inv.bs (I:Inv X pins σ H s):∀ b o,X.base.get? b=some o→s.heap.get? b=some o∧H b=none:=fun b o e=>
  ⟨I.base.keep b o (I.ok.bs b o e).1 (I.ok.bs b o e).2 (I.ok.nofr e) (I.ok.noex b o e),I.base.free b o (I.ok.bs b o e).1 (I.ok.bs b o e).2 (I.ok.noex b o e)⟩
theorem Inv.bk (I:Inv X pins σ H s):∀ b o,X.base.get? b=some o→s.heap.get? b=some o:=fun b o e=>(I.bs b o e).1
theorem Inv.mod (I:Inv X pins σ H s):Mod X.K X.mg X.base:=I.ok.mod
theorem Inv.kIn (I:Inv X pins σ H s):X.K.In s.heap:=I.ok.mod.kin.keeps I.bk
theorem Inv.lt (I:Inv X pins σ H s):X.env.locals<s.heap.objs.size:=let ⟨_,hn,_⟩:=I.loc;hn.lt
theorem Inv.sz (I:Inv X pins σ H s):X.s₀.heap.objs.size≤s.heap.objs.size:=Nat.le_trans I.ok.above (Nat.le_of_lt I.lt)
theorem Inv.nofs (I:Inv X pins σ H s) {a:Addr} (h:s.heap.objs.size≤a):a ∉ X.fs:=fun hb=>by
  obtain ⟨_,o,ho,_⟩:=I.ok.funs.mem hb
  exact absurd (Nat.lt_of_lt_of_le (Heap.lt_size ho) (Nat.le_trans I.sz h)) (Nat.lt_irrefl _)
theorem Inv.cne (I:Inv X pins σ H s):∀ x c,X.env.cells.lookup x=some c→c≠X.env.locals:=fun x c e z=>by
  obtain ⟨v,o,ho,hd⟩:=I.cell x c e
  obtain ⟨m,⟨o',es,ep,ho',hd',_⟩,_⟩:=I.loc
  rw [z,ho'] at ho;cases ho;rw [hd'] at hd;cases hd
theorem Inv.funs (I:Inv X pins σ H s):s.heap.FunFrames X.base X.outer:=by
  have all:∀ (l:List Env),(∀ b∈frs l,b∈X.fs)→X.s₀.heap.FunFrames X.base l→s.heap.FunFrames X.base l:=by
    intro l
    induction l with
    | nil=>intro _ _;trivial
    | cons env r ih=>
      intro hs hl
      obtain ⟨hk,⟨L,o,hf,hn,ho,hd⟩,hr⟩:=hl
      have hL:L∈X.fs:=hs L (by unfold frs;rw [List.filterMap_cons,hf];exact List.mem_cons_self)
      obtain ⟨sl,e⟩:=I.base.slot L o ho (I.ok.frf L hL) hL fun z=>I.ok.exfs L z hL
      exact ⟨hk,⟨L,_,hf,hn,e,hd⟩,ih (fun b hb=>hs b (by unfold frs;rw [List.filterMap_cons,hf];exact List.mem_cons_of_mem _ hb)) hr⟩
  exact all X.outer (fun _ hb=>hb) I.ok.funs
theorem Inv.stack (I:Inv X pins σ H s):s.heap.FunFrames X.base X.stack:=by
  rcases I.ok.stk with e | ⟨e,hf⟩
  · rw [e];exact I.funs
  · rw [e]
    obtain ⟨m,hn,_⟩:=I.loc
    refine .cons (by rw [I.ok.kind];decide) hf hn ?_ I.funs
    exact Heap.get?_none_of_le (Nat.le_trans I.ok.bsz I.ok.above)
theorem Inv.stkSub (I:Inv X pins σ H s):∀ b∈frs X.stack,b∈X.env.locals::X.fs:=fun b hb=>by
  rcases I.ok.stk with e | ⟨e,hf⟩
  · rw [e] at hb;exact List.mem_cons_of_mem _ hb
  · rw [e] at hb
    unfold frs at hb
    rw [List.filterMap_cons,hf] at hb
    exact hb
theorem Inv.stkFree (I:Inv X pins σ H s):∀ b∈frs X.stack,H b=none:=fun b hb=>by
  rcases List.mem_cons.mp (I.stkSub b hb) with e | hb
  · rw [e];exact I.free
  · obtain ⟨_,o,ho,_⟩:=I.ok.funs.mem hb
    exact I.base.free b o ho (I.ok.frf b hb) fun z=>I.ok.exfs b z hb
theorem Inv.step {g':Array GenState} {t':Nat} {d':Drawn} {ch:List Addr} (I:Inv X pins σ H s)
    (hch:∀ b∈ch,(b∈X.ex∨X.s₀.heap.objs.size≤b)∧b≠X.env.locals∧(∀ x c,X.env.cells.lookup x=some c→c≠b)∧∀ p∈X.pn++pins,p.1≠b)
    (keep:∀ b o,b≠X.env.locals→b ∉ X.fs→b ∉ ch→s.heap.get? b=some o→H b=none→h'.get? b=some o)
    (slot:∀ b o,b≠X.env.locals→b∈X.fs→b ∉ ch→s.heap.get? b=some o→H b=none→∃ sl,h'.get? b=some { o with slots:=sl }) (free:∀ b o,b ∉ ch→s.heap.get? b=some o→H b=none→H' b=none)
    (there:∀ b o,b ∉ ch→s.heap.get? b=some o→∃ o',h'.get? b=some o')
    (tups:∀ b xs,H b=some (.tup xs)→H' b=some (.tup xs)) (frzs:∀ b o u,H b=some (.frz o u)→H' b=some (.frz o u)) (tbls:∀ b ps,H b=some (.tbl ps)→∃ more,H' b=some (.tbl (ps++more)))
    (ns:∀ m,s.heap.Ns X.env.locals m→h'.Ns X.env.locals m) (hok:HOk X.prog X.w H' h') (hg:AllBare g') :
    Inv X pins σ H' { s with heap:=h',gens:=g',drawn:=d',toks:=t' }:=by
  have neL:∀ b o,X.s₀.heap.get? b=some o→b≠X.env.locals:=fun b o e=>Nat.ne_of_lt (Nat.lt_of_lt_of_le (Heap.lt_size e) I.ok.above)
  have neC:∀ b o,X.s₀.heap.get? b=some o→b ∉ X.ex→b ∉ ch:=fun b o e hx hb=>by
    rcases (hch b hb).1 with z | z
    · exact hx z
    · exact absurd (Nat.lt_of_lt_of_le (Heap.lt_size e) z) (Nat.lt_irrefl _)
  have cellK:∀ x c,X.env.cells.lookup x=some c→∀ v,s.heap.IsCell c v→h'.IsCell c v:=fun x c e v ⟨o,ho,hd⟩=>by
    have nch:c ∉ ch:=fun z=>(hch c z).2.2.1 x c e rfl
    by_cases hc:c∈X.fs
    · obtain ⟨sl,q⟩:=slot c o (I.cne x c e) hc nch ho (I.freeC x c e)
      exact ⟨_,q,hd⟩
    · exact ⟨o,keep c o (I.cne x c e) hc nch ho (I.freeC x c e),hd⟩
  refine ⟨I.ok,I.os,hg,⟨fun b o e n hb hx=>?_,fun b o e n hb hx=>?_,fun b o e n hx=>?_,fun b o e hx=>?_,fun b xs e=>tups b xs (I.base.tups b xs e),fun b o xs e=>frzs b o xs (I.base.frzs b o xs e),fun b ps e=>?_⟩,?_,fun x c e=>?_,?_,fun x c e=>?_,fun p hp=>?_,hok,I.len⟩
  · exact keep b o (neL b o e) hb (neC b o e hx) (I.base.keep b o e n hb hx) (I.base.free b o e n hx)
  · obtain ⟨sl,e1⟩:=I.base.slot b o e n hb hx
    obtain ⟨sl',e2⟩:=slot b _ (neL b o e) hb (neC b o e hx) e1 (I.base.free b o e n hx)
    exact ⟨sl',e2⟩
  · obtain ⟨o',e1⟩:=I.base.there b o e hx
    exact free b o' (neC b o e hx) e1 (I.base.free b o e n hx)
  · obtain ⟨o',e1⟩:=I.base.there b o e hx
    exact there b o' (neC b o e hx) e1
  · obtain ⟨m1,e1⟩:=I.base.tbls b ps e
    obtain ⟨m2,e2⟩:=tbls b _ e1
    exact ⟨m1++m2,by rw [e2,Array.append_assoc]⟩
  · obtain ⟨m,hn,hl⟩:=I.loc
    refine ⟨m,ns m hn,fun i x v e1 e2 e3=>?_⟩
    obtain ⟨u,r,l⟩:=hl i x v e1 e2 e3
    refine ⟨u,r,?_⟩
    rcases l with l | ⟨k,c,e,z⟩
    · exact .inl l
    · exact .inr ⟨k,c,e,cellK x c e _ z⟩
  · obtain ⟨v,z⟩:=I.cell x c e
    exact ⟨v,cellK x c e v z⟩
  · obtain ⟨m,⟨o,_,_,ho,_⟩,_⟩:=I.loc
    exact free _ o (fun z=>(hch _ z).2.1 rfl) ho I.free
  · obtain ⟨v,o,ho,hd⟩:=I.cell x c e
    exact free c o (fun z=>(hch c z).2.2.1 x c e rfl) ho (I.freeC x c e)
  · obtain ⟨e,n,ne,nf,d⟩:=I.pin p hp
    have nch:p.1 ∉ ch:=fun z=>(hch p.1 z).2.2.2 p hp rfl
    exact ⟨keep p.1 p.2 ne nf nch e n,free p.1 p.2 nch e n,ne,nf,d⟩
theorem Inv.un {t':Nat} (I:Inv X pins σ H s) (u:Un X.fs [] H H' s.heap h') (hok:HOk X.prog X.w H' h'):Inv X pins σ H' { s with heap:=h',toks:=t' }:=by
  obtain ⟨m,⟨o,es,ep,ho,r⟩,_⟩:=id I.loc
  obtain ⟨sl,hL⟩:=u.any ho I.free (by simp)
  exact I.step (g':=s.gens) (d':=s.drawn) (ch:=[]) (fun _ z=>nomatch z) (fun b o _ hb _ e n=>u.keep b o e n hb (by simp)) (fun b o _ hb _ e n=>u.slot b o e n hb (by simp)) (fun b o _ e n=>u.free b o e n (by simp)) (fun b o _ e=>u.there b o e (by simp)) u.tups u.frzs u.tbls (fun m' hm=>by
    obtain ⟨o',es',ep',ho',r'⟩:=hm
    rw [ho] at ho';cases ho'
    exact ⟨_,es',ep',hL,r'⟩) hok I.bare
theorem Inv.call {g':Array GenState} {t':Nat} {d':Drawn} {ch:List Addr} (I:Inv X pins σ H s) (u:Un (frs X.stack) ch H H' s.heap h') (hok:HOk X.prog X.w H' h') (hg:AllBare g')
    (hch:∀ b∈ch,(b∈X.ex∨X.s₀.heap.objs.size≤b)∧b≠X.env.locals∧(∀ x c,X.env.cells.lookup x=some c→c≠b)∧∀ p∈X.pn++pins,p.1≠b) :
    Inv X pins σ H' { s with heap:=h',gens:=g',drawn:=d',toks:=t' }:=by
  obtain ⟨m,⟨o,es,ep,ho,r⟩,_⟩:=id I.loc
  obtain ⟨sl,hL⟩:=u.any ho I.free fun z=>(hch _ z).2.1 rfl
  exact I.step (ch:=ch) hch (fun b o hL hb hc e n=>u.keep b o e n (fun z=>(List.mem_cons.mp (I.stkSub b z)).elim hL hb) hc) (fun b o _ _ hc e n=>u.any e n hc) (fun b o hc e n=>u.free b o e n hc) (fun b o hc e=>u.there b o e hc) u.tups u.frzs u.tbls (fun m' hm=>by
    obtain ⟨o',es',ep',ho',r'⟩:=hm
    rw [ho] at ho';cases ho'
    exact ⟨_,es',ep',hL,r'⟩) hok hg
theorem Inv.turned {t':Nat} {it:Addr} (I:Inv X pins σ H s) (k:∀ b o,b≠it→s.heap.get? b=some o→h'.get? b=some o) (hn:H it=none) (hL:it≠X.env.locals)
    (h1:it∈X.ex∨X.s₀.heap.objs.size≤it) (h2:∀ x c,X.env.cells.lookup x=some c→c≠it) (h3:∀ p∈X.pn++pins,p.1≠it):Inv X pins σ H { s with heap:=h',toks:=t' }:=by
  have nit:∀ b u,H b=some u→b≠it:=fun b u e z=>by rw [z,hn] at e;cases e
  refine I.step (g':=s.gens) (d':=s.drawn) (ch:=[it]) (fun b hb=>?_) (fun b o _ _ hc e _=>k b o (fun z=>hc (by simp [z])) e) (fun b o _ _ hc e _=>⟨o.slots,k b o (fun z=>hc (by simp [z])) e⟩) (fun _ _ _ _ n=>n)
    (fun b o hc e=>⟨o,k b o (fun z=>hc (by simp [z])) e⟩) (fun _ _ e=>e) (fun _ _ _ e=>e) (fun b ps e=>⟨#[],by rw [e];simp⟩) (fun m hm=>?_) (fun b u e=>?_) I.bare
  · have e:b=it:=by simpa using hb
    subst e
    exact ⟨h1,hL,h2,h3⟩
  · obtain ⟨o,es,ep,ho,r⟩:=hm
    exact ⟨o,es,ep,k _ o (Ne.symm hL) ho,r⟩
  · refine (I.hok b u e).stay (fun c v hc q=>k c v ?_ q) (fun _ q=>q) fun _ _ q=>q
    rcases hc with z | z
    · rw [z];exact nit b u e
    · exact nit c _ z
theorem Inv.tok (I:Inv X pins σ H s) (t:Nat):Inv X pins σ H { s with toks:=t }:=I.un (h':=s.heap) (t':=t) Un.refl I.hok
theorem Inv.kept {t':Nat} (I:Inv X pins σ H s) (k:∀ b u,s.heap.get? b=some u→h'.get? b=some u):Inv X pins σ H { s with heap:=h',toks:=t' }:=I.un (Un.kept k) (I.hok.kept k)
theorem Inv.laid {a:Addr} {o:HO} {t':Nat} (I:Inv X pins σ H s) (k:∀ b u,s.heap.get? b=some u→h'.get? b=some u) (hp:s.heap.objs.size≤a) (new:ObjOk X.prog X.w (upd H a o) h' a o) :
    Inv X pins σ (upd H a o) { s with heap:=h',toks:=t' }:=I.un (Un.laid k hp (I.hok.fresh hp)) (I.hok.laid k hp new)
theorem Inv.write {x e:Addr} {o:HO} {t':Nat} (I:Inv X pins σ H s) (mu:Mut (H x)) (he:e=x∨H e=some (.own x)) (k:∀ b u,b≠e→s.heap.get? b=some u→h'.get? b=some u) (heo:∃ u,h'.get? e=some u)
    (new:ObjOk X.prog X.w (upd H x o) h' x o):Inv X pins σ (upd H x o) { s with heap:=h',toks:=t' }:=I.un (Un.write mu he k heo) (I.hok.write mu he k heo new)
theorem Inv.pins_of {pins':List (Addr×Obj)} (I:Inv X pins σ H s) (h:∀ p∈pins',s.heap.get? p.1=some p.2∧H p.1=none∧p.1≠X.env.locals∧p.1 ∉ X.fs∧∀ v,p.2.data≠.cell v):Inv X pins' σ H s:=
  ⟨I.ok,I.os,I.bare,I.base,I.loc,I.cell,I.free,I.freeC,fun p hp=>(List.mem_append.mp hp).elim (fun z=>I.pin p (List.mem_append_left _ z)) (h p),I.hok,I.len⟩
theorem nodup_ix {N:List Str} (hN:N.Nodup) {i j:Nat} {x:Str} (a:N[i]?=some x) (b:N[j]?=some x):i=j:=by
  obtain ⟨h1,e1⟩:=List.getElem?_eq_some_iff.mp a
  obtain ⟨h2,e2⟩:=List.getElem?_eq_some_iff.mp b
  exact (List.getElem_inj hN).mp (e1.trans e2.symm)
theorem store_ok2 {M:Model} {A:Around} {E:Value→Shared→Prop} {i:Nat} {x:Str} {v:V} {u:Value} {Q:Unit→Shared→Prop} (I:Inv X pins σ H s) (hN:X.N.Nodup) (hi:X.N[i]?=some x) (hx:Loc X.env.scope x) (r:RelV v u)
    (h:∀ s',Inv X pins (σ.set i (some v)) H s'→(∃ a,Heap.SameBut a s.heap s'.heap∧(a=X.env.locals∨X.env.cells.lookup x=some a))→Q () s') (hf:X.fn x=true∨X.env.scope.names.lookup x=some .local:=by first | exact .inl rfl | exact .inr rfl | assumption):wpAny M A (storeName X.env x u) Q E s:=by
  obtain ⟨m,hn,hl⟩:=id I.loc
  have hcls:(X.env.scope.kind == .class||(X.env.scope.kind == .module&&X.env.locals != X.env.globals))=false:=by rw [I.ok.kind];rfl
  have hiσ:i < σ.length:=by rw [I.len];exact (List.getElem?_eq_some_iff.mp hi).1
  have cne:=I.cne
  have tracked:∀ {a:Addr} {h':Heap},(∃ o,s.heap.get? a=some o∧H a=none)→Heap.SameBut a s.heap h'→HOk X.prog X.w H h':=fun {a h'} ha hs b ob e=>by
    obtain ⟨_,_,hfree⟩:=ha
    refine (I.hok b ob e).stay (fun c w' hc q=>(hs.2 c ?_).trans q) (fun _ q=>q) fun _ _ q=>q
    rintro rfl
    rcases hc with rfl | hc
    · rw [hfree] at e;cases e
    · rw [hfree] at hc;cases hc
  rcases hx with hk | hk
  · refine wpAny_storeName_local hk hn (fun h' hn' hs=>?_) hcls
    obtain ⟨oL,_,_,hoL,_⟩:=id hn
    refine h _ ⟨I.ok,I.os,I.bare,⟨fun b o e n hb hx=>?_,fun b o e n hb hx=>?_,I.base.free,fun b o e hx=>?_,I.base.tups,I.base.frzs,I.base.tbls⟩,⟨_,hn',fun j y v' e1 e2 e3=>?_⟩,fun y c e=>?_,I.free,I.freeC,fun p hp=>?_,tracked ⟨oL,hoL,I.free⟩ hs,by simpa using I.len⟩ ⟨_,hs,.inl rfl⟩
    · exact (hs.2 b (Nat.ne_of_lt (Nat.lt_of_lt_of_le (Heap.lt_size e) I.ok.above))).trans (I.base.keep b o e n hb hx)
    · obtain ⟨sl,e1⟩:=I.base.slot b o e n hb hx
      exact ⟨sl,(hs.2 b (Nat.ne_of_lt (Nat.lt_of_lt_of_le (Heap.lt_size e) I.ok.above))).trans e1⟩
    · obtain ⟨o',e1⟩:=I.base.there b o e hx
      exact ⟨o',(hs.2 b (Nat.ne_of_lt (Nat.lt_of_lt_of_le (Heap.lt_size e) I.ok.above))).trans e1⟩
    · by_cases hj:j=i
      · subst hj
        rw [hi] at e1;cases e1
        rw [List.getElem?_set_self hiσ] at e2
        cases e2
        exact ⟨u,r,.inl ⟨hk,by simp⟩⟩
      · rw [List.getElem?_set_ne (Ne.symm hj)] at e2
        obtain ⟨u',r',q⟩:=hl j y v' e1 e2 e3
        refine ⟨u',r',?_⟩
        rcases q with ⟨k,e⟩ | ⟨k,c,e,z⟩
        · refine .inl ⟨k,?_⟩
          have:y≠x:=fun e=>hj (nodup_ix hN e1 (e ▸ hi))
          simp [this,e]
        · exact .inr ⟨k,c,e,z.sameBut hs (cne y c e)⟩
    · obtain ⟨w',z⟩:=I.cell y c e
      exact ⟨w',z.sameBut hs (cne y c e)⟩
    · obtain ⟨e,n,ne,nf,d⟩:=I.pin p hp
      exact ⟨(hs.2 p.1 ne).trans e,n,ne,nf,d⟩
  · have hfn:X.fn x=true:=by
      rcases hf with z | z
      · exact z
      · rw [z] at hk;cases hk
    obtain ⟨c,hc⟩:=I.ok.has x (.inl hk)
    obtain ⟨w',z⟩:=I.cell x c hc
    refine wpAny_storeName_cell I.ok.kind hk hc z (fun h' hc' hs=>?_)
    obtain ⟨oc,hoc,hocd⟩:=id z
    refine h { s with heap:=h' } ⟨I.ok,I.os,I.bare,⟨fun b o e n hb hx=>?_,fun b o e n hb hx=>?_,I.base.free,fun b o e hx=>?_,I.base.tups,I.base.frzs,I.base.tbls⟩,⟨m,hn.sameBut hs (Ne.symm (cne x c hc)),fun j y v' e1 e2 e3=>?_⟩,fun y c' e=>?_,I.free,I.freeC,fun p hp=>?_,tracked ⟨oc,hoc,I.freeC x c hc⟩ hs,by simpa using I.len⟩ ⟨c,hs,.inr hc⟩
    · exact (hs.2 b (Nat.ne_of_lt (Nat.lt_of_lt_of_le (Heap.lt_size e) (I.ok.cab x c hfn hc)))).trans (I.base.keep b o e n hb hx)
    · obtain ⟨sl,e1⟩:=I.base.slot b o e n hb hx
      exact ⟨sl,(hs.2 b (Nat.ne_of_lt (Nat.lt_of_lt_of_le (Heap.lt_size e) (I.ok.cab x c hfn hc)))).trans e1⟩
    · obtain ⟨o',e1⟩:=I.base.there b o e hx
      exact ⟨o',(hs.2 b (Nat.ne_of_lt (Nat.lt_of_lt_of_le (Heap.lt_size e) (I.ok.cab x c hfn hc)))).trans e1⟩
    · by_cases hj:j=i
      · subst hj
        rw [hi] at e1;cases e1
        rw [List.getElem?_set_self hiσ] at e2
        cases e2
        exact ⟨u,r,.inr ⟨.inl hk,c,hc,hc'⟩⟩
      · rw [List.getElem?_set_ne (Ne.symm hj)] at e2
        obtain ⟨u',r',q⟩:=hl j y v' e1 e2 e3
        refine ⟨u',r',?_⟩
        rcases q with q | ⟨k,c',e,z'⟩
        · exact .inl q
        · refine .inr ⟨k,c',e,z'.sameBut hs ?_⟩
          rintro rfl
          exact hj (nodup_ix hN e1 (I.ok.inj _ _ _ e hc ▸ hi))
    · by_cases hcc:c'=c
      · subst hcc;exact ⟨_,hc'⟩
      · obtain ⟨w2,z2⟩:=I.cell y c' e
        exact ⟨w2,z2.sameBut hs hcc⟩
    · obtain ⟨e,n,ne,nf,d⟩:=I.pin p hp
      refine ⟨(hs.2 p.1 ?_).trans e,n,ne,nf,d⟩
      intro q
      rw [q,hoc] at e
      have q':oc=p.2:=Option.some.inj e
      exact d w' (by rw [← q'];exact hocd)
theorem store_ok {M:Model} {A:Around} {E:Value→Shared→Prop} {i:Nat} {x:Str} {v:V} {u:Value} {Q:Unit→Shared→Prop} (I:Inv X pins σ H s) (hN:X.N.Nodup) (hi:X.N[i]?=some x) (hx:Loc X.env.scope x) (r:RelV v u)
    (h:∀ s',Inv X pins (σ.set i (some v)) H s'→Q () s') (hf:X.fn x=true∨X.env.scope.names.lookup x=some .local:=by first | exact .inl rfl | exact .inr rfl | assumption):wpAny M A (storeName X.env x u) Q E s:=
  store_ok2 I hN hi hx r (fun s' I' _=>h s' I') hf
theorem Inv.call' {s':Shared} {ch:List Addr} (I:Inv X pins σ H s) (ho:s'.os=s.os) (u:Un (frs X.stack) ch H H' s.heap s'.heap) (hok:HOk X.prog X.w H' s'.heap) (hg:AllBare s'.gens)
    (hch:∀ b∈ch,(b∈X.ex∨X.s₀.heap.objs.size≤b)∧b≠X.env.locals∧(∀ x c,X.env.cells.lookup x=some c→c≠b)∧∀ p∈X.pn++pins,p.1≠b):Inv X pins σ H' s':=by
  obtain ⟨h',g',d',t',o'⟩:=s'
  have e:o'=s.os:=ho
  subst e
  exact I.call (g':=g') (t':=t') (d':=d') u hok hg hch
end
noncomputable abbrev XK:=Value→Option Addr→Hp→Prop
noncomputable abbrev St:=List (Option V)
noncomputable abbrev VK:=V→Hp→Prop
noncomputable abbrev TE:=St→Hp→VK→Prop
noncomputable abbrev TT:=St→Hp→(Bool→Hp→Prop)→Prop
noncomputable abbrev TA:=St→Hp→(List V→Hp→Prop)→Prop
structure Ends where
  nx:St→Hp→Prop
  rt:VK
  bk:St→Hp→Prop:=fun _ _=>False
  ct:St→Hp→Prop:=fun _ _=>False
noncomputable abbrev TS:=Ends→St→Hp→Prop
noncomputable def EP (X:Cx) (pins:List (Addr×Obj)) (σ:St) (Q:VK) (u:Value) (s':Shared):Prop:=∃ v H',Inv X pins σ H' s'∧RelV v u∧Q v H'
noncomputable def TP (X:Cx) (pins:List (Addr×Obj)) (σ:St) (Q:Bool→Hp→Prop) (b:Bool) (s':Shared):Prop:=∃ H',Inv X pins σ H' s'∧Q b H'
noncomputable def AP (X:Cx) (pins:List (Addr×Obj)) (σ:St) (Q:List V→Hp→Prop) (us:List Value) (s':Shared):Prop:=∃ vs H',Inv X pins σ H' s'∧Vals vs us∧Q vs H'
noncomputable def SP (X:Cx) (pins:List (Addr×Obj)) (D:Ends) (f:Flow) (s':Shared):Prop:=
  match f with
  | .next=>∃ σ' H',Inv X pins σ' H' s'∧D.nx σ' H'
  | .brk=>∃ σ' H',Inv X pins σ' H' s'∧D.bk σ' H'
  | .cont=>∃ σ' H',Inv X pins σ' H' s'∧D.ct σ' H'
  | .ret u=>∃ v σ' H',Inv X pins σ' H' s'∧RelV v u∧D.rt v H'
noncomputable def PE (X:Cx) (e:Expr) (t:TE):Prop:=
  ∀ (pins:List (Addr×Obj)) (s:Shared) (σ:St) (H:Hp) (Q:VK),Inv X pins σ H s→t σ H Q→wpAny (model X.prog X.w) X.A (eval e X.env) (EP X pins σ Q) X.xe s
noncomputable def PT (X:Cx) (e:Expr) (t:TT):Prop:=
  ∀ (pins:List (Addr×Obj)) (s:Shared) (σ:St) (H:Hp) (Q:Bool→Hp→Prop),Inv X pins σ H s→t σ H Q→wpAny (model X.prog X.w) X.A (isTrue e X.env (eval e X.env)) (TP X pins σ Q) X.xe s
noncomputable def PW (X:Cx) (e:Expr) (t:TT):Prop:=
  ∀ (whole:Sem Value) (pins:List (Addr×Obj)) (s:Shared) (σ:St) (H:Hp) (Q:Bool→Hp→Prop),Inv X pins σ H s→t σ H Q→wpAny (model X.prog X.w) X.A (isTrue e X.env whole) (TP X pins σ Q) X.xe s
theorem PW.pt {X:Cx} {e:Expr} {t:TT} (h:PW X e t):PT X e t:=h _
noncomputable def PA (X:Cx) (es:List Expr) (t:TA):Prop:=
  ∀ (pos:Pos) (pins:List (Addr×Obj)) (s:Shared) (σ:St) (H:Hp) (Q:List V→Hp→Prop),Inv X pins σ H s→t σ H Q→wpAny (model X.prog X.w) X.A (spliced (backTo pos (starEach es X.env))) (AP X pins σ Q) X.xe s
noncomputable def PS (X:Cx) (st:Stmt) (t:TS):Prop:=
  ∀ (pins:List (Addr×Obj)) (s:Shared) (σ:St) (H:Hp) (D:Ends),Inv X pins σ H s→t D σ H→wpAny (model X.prog X.w) X.A (exec st X.env) (SP X pins D) X.xe s
noncomputable def PSs (X:Cx) (st:List Stmt) (t:TS):Prop:=
  ∀ (pins:List (Addr×Obj)) (s:Shared) (σ:St) (H:Hp) (D:Ends),Inv X pins σ H s→t D σ H→wpAny (model X.prog X.w) X.A (execs st X.env) (SP X pins D) X.xe s
theorem thn {α:Type} {t:Sem α} {Q Q':α→Shared→Prop} {M:Model} {A:Around} {E:Value→Shared→Prop} {s:Shared} (h:wpAny M A t Q E s) (hQ:∀ a s,Q a s→Q' a s):wpAny M A t Q' E s:=wpAny_mono h hQ fun _ _ x=>x
end L2
namespace L2
open PySem PySem.Spec PyProof.Rows
section
variable {X:Cx}
theorem bin {a b:Expr} {ta tb:TE} (ha:PE X a ta) (hb:PE X b tb) {pins:List (Addr×Obj)} {s:Shared} {σ:St} {H:Hp} {R:V→V→Hp→Prop} (I:Inv X pins σ H s) (h:ta σ H fun x H1=>tb σ H1 fun y H2=>R x y H2)
    {α:Type} {Q:α→Shared→Prop} {f:Value→Value→Sem α}
    (hf:∀ v u s2 x y H2,Inv X pins σ H2 s2→RelV x v→RelV y u→R x y H2→wpAny (model X.prog X.w) X.A (f v u) Q X.xe s2) :
    wpAny (model X.prog X.w) X.A (eval a X.env) (fun v s₁=>wpAny (model X.prog X.w) X.A (eval b X.env) (fun u s₂=>wpAny (model X.prog X.w) X.A (f v u) Q X.xe s₂) X.xe s₁) X.xe s:=by
  refine thn (ha pins s σ H _ I h) fun v s1 ⟨x,H1,I1,r1,q1⟩=>?_
  refine thn (hb pins s1 σ H1 _ I1 q1) fun u s2 ⟨y,H2,I2,r2,q2⟩=>?_
  exact hf v u s2 x y H2 I2 r1 r2 q2
noncomputable def tVar (i:Nat):TE:=fun σ H Q=>∃ v,σ[i]?=some (some v)∧Q v H
noncomputable def tC (v:V):TE:=fun _ H Q=>Q v H
theorem pe_var {i:Nat} {x:Str} {pos:Pos} (hN:X.N[i]?=some x) (hv:Vis X.env.scope x) (hd:(x == ("__debug__":Str))=false:=by decide) (hcd:(x == ("__classdict__":Str))=false:=by decide):PE X (.Name x pos) (tVar i):=by
  intro pins s σ H Q I h
  obtain ⟨v,e,h⟩:=h
  obtain ⟨m,hn,hl⟩:=I.loc
  obtain ⟨u,r,l⟩:=hl i x v hN e hv
  have fin:EP X pins σ Q u s:=⟨v,H,I,r,h⟩
  rcases l with ⟨hk,hm⟩ | ⟨hk,c,hc,hcell⟩
  · exact wpAny_Name (wpAny_loadName_local I.ok.kind hk hn hm fin) hd
  · rcases hk with hk | hk
    · exact wpAny_Name (wpAny_loadName_cell I.ok.kind hk hc hcell fin) hd
    · exact wpAny_Name (wpAny_loadName_free I.ok.kind hk hc hcell fin hcd) hd
theorem pe_int {i j pos}:PE X (.Constant (.int i) j pos) (tC (.int i)):=fun _ _ _ H _ I h=>wpAny_Constant_int ⟨.int i,H,I.tok _,⟨_,rfl⟩,h⟩
theorem pe_bl {b j pos}:PE X (.Constant (.bool b) j pos) (tC (.bl b)):=fun _ _ _ H _ I h=>Constant_bool ⟨.bl b,H,I,rfl,h⟩
theorem pe_non {j pos}:PE X (.Constant .none j pos) (tC .non):=fun _ _ _ H _ I h=>Constant_none ⟨.non,H,I,rfl,h⟩
theorem pe_str {x j pos}:PE X (.Constant (.str x) j pos) (tC (.str x)):=fun _ _ _ H _ I h=>Calls.Constant_str ⟨.str x,H,I.tok _,⟨_,rfl⟩,h⟩
noncomputable def Gl (X:Cx) (x:Str):Prop:=X.env.kindOf x=some .globalImplicit
theorem ld_glob {E:Value→Shared→Prop} {pins:List (Addr×Obj)} {s:Shared} {σ:St} {H:Hp} {x:Str} {u:Value} {pos:Pos} {Q:Value→Shared→Prop} (I:Inv X pins σ H s) (hg:Gl X x) (hm:X.mg x=some u) (h:Q u s)
    (hd:(x == ("__debug__":Str))=false:=by decide):wpAny (model X.prog X.w) X.A (eval (.Name x pos) X.env) Q E s:=
  Calls.Name_function_global I.ok.kind hg (Calls.loadGlobal_global (by rw [I.ok.glob];exact I.mod.glob.keeps I.bk) hm h) hd
theorem ld_blt {E:Value→Shared→Prop} {pins:List (Addr×Obj)} {s:Shared} {σ:St} {H:Hp} {x:Str} {u:Value} {pos:Pos} {Q:Value→Shared→Prop} (I:Inv X pins σ H s) (hg:Gl X x) (hm:X.mg x=none) (hv:bootBuiltins x=some u) (h:Q u s)
    (hn:x ≠ "__name__":=by decide) (hd:(x == ("__debug__":Str))=false:=by decide):wpAny (model X.prog X.w) X.A (eval (.Name x pos) X.env) Q E s:=by
  obtain ⟨mb,h1,h2⟩:=I.mod.blt
  exact Calls.Name_function_global I.ok.kind hg (Calls.loadGlobal_builtin (by rw [I.ok.glob];exact I.mod.glob.keeps I.bk) hm (by rw [I.ok.blt];exact h1.keeps I.bk) ((h2 x hn).trans hv) h) hd
theorem pe_glob {x:Str} {v:V} {u:Value} {pos:Pos} (hg:Gl X x) (hm:X.mg x=some u) (r:RelV v u) (hd:(x == ("__debug__":Str))=false:=by decide):PE X (.Name x pos) (tC v):=
  fun _ _ _ H _ I h=>ld_glob I hg hm ⟨v,H,I,r,h⟩ hd
theorem pe_bltn {x:Str} {v:V} {u:Value} {pos:Pos} (hg:Gl X x) (hm:X.mg x=none) (hv:bootBuiltins x=some u) (r:RelV v u) (hn:x ≠ "__name__":=by decide) (hd:(x == ("__debug__":Str))=false:=by decide):PE X (.Name x pos) (tC v):=
  fun _ _ _ H _ I h=>ld_blt I hg hm hv ⟨v,H,I,r,h⟩ hn hd
variable {a b:Expr} {ta tb:TE} {pos:Pos}
variable {tA tB':TT} {rest:List Expr}
noncomputable def tAnd (t u:TT):TT:=fun σ H Q=>t σ H fun c H1=>if c=true then u σ H1 Q else Q false H1
noncomputable def tOr (t u:TT):TT:=fun σ H Q=>t σ H fun c H1=>if c=true then Q true H1 else u σ H1 Q
noncomputable def tNot (t:TT):TT:=fun σ H Q=>t σ H fun c H1=>Q (!c) H1
theorem pw_and1 (ha:PT X a tA):PW X (.BoolOp .And [a] pos) tA:=by
  intro wh pins s σ H Q I h
  refine isTrue_and (thn (ha pins s σ H Q I h) fun c s1 e=>?_)
  cases c with
  | true=>exact isTrue_and_nil e
  | false=>exact e
theorem pw_or1 (ha:PT X a tA):PW X (.BoolOp .Or [a] pos) tA:=by
  intro wh pins s σ H Q I h
  refine isTrue_or (thn (ha pins s σ H Q I h) fun c s1 e=>?_)
  cases c with
  | false=>exact isTrue_or_nil e
  | true=>exact e
theorem pw_and (ha:PT X a tA) (hb:PW X (.BoolOp .And (b::rest) pos) tB'):PW X (.BoolOp .And (a::b::rest) pos) (tAnd tA tB'):=by
  intro wh pins s σ H Q I h
  refine isTrue_and (thn (ha pins s σ H _ I h) fun c s1 ⟨H1,I1,q1⟩=>?_)
  cases c with
  | true=>exact hb wh pins s1 σ H1 Q I1 q1
  | false=>exact ⟨H1,I1,q1⟩
theorem pw_or (ha:PT X a tA) (hb:PW X (.BoolOp .Or (b::rest) pos) tB'):PW X (.BoolOp .Or (a::b::rest) pos) (tOr tA tB'):=by
  intro wh pins s σ H Q I h
  refine isTrue_or (thn (ha pins s σ H _ I h) fun c s1 ⟨H1,I1,q1⟩=>?_)
  cases c with
  | true=>exact ⟨H1,I1,q1⟩
  | false=>exact hb wh pins s1 σ H1 Q I1 q1
theorem pt_not (ha:PT X a tA):PT X (.UnaryOp .Not a pos) (tNot tA):=by
  intro pins s σ H Q I h
  exact isTrue_not (ha pins s σ H (fun c H1=>Q (!c) H1) I h)
theorem pe_one {op} {t:TE} (h:PE X a t):PE X (.BoolOp op [a] pos) t:=fun pins s σ H Q I hw=>BoolOp_one (h pins s σ H Q I hw)
noncomputable def tIf (t:TT) (ta tb:TE):TE:=fun σ H Q=>t σ H fun c H1=>if c=true then ta σ H1 Q else tb σ H1 Q
theorem pe_ifExp {c:Expr} (hc:PT X c tA) (ha:PE X a ta) (hb:PE X b tb):PE X (.IfExp c a b pos) (tIf tA ta tb):=by
  intro pins s σ H Q I h
  refine wpAny_IfExp (thn (hc pins s σ H _ I h) fun d s1 ⟨H1,I1,q1⟩=>?_)
  cases d with
  | true=>exact ha pins s1 σ H1 Q I1 q1
  | false=>exact hb pins s1 σ H1 Q I1 q1
end
end L2
namespace L2
open PySem PySem.Spec PyProof.Rows
noncomputable def SqL (K:PySem.W.Frag) (H:Hp) (a:Addr) (xs:List V):Prop:=
  Rd H a (.lst xs) ∨
    ∃ (o:Obj) (its:Array Value) (n:Nat),K.lookup a=some o∧o.cls=.type "list"∧o.dict=none∧o.data=.seq its n∧its.size≤sizeLine∧Vals xs its.toList
noncomputable def SqT (K:PySem.W.Frag) (H:Hp) (a:Addr) (xs:List V):Prop:=
  Rd H a (.tup xs) ∨
    ∃ (o:Obj) (its:Array Value) (n:Nat),K.lookup a=some o∧o.cls=.type "tuple"∧o.dict=none∧o.data=.seq its n∧its.size≤sizeLine∧Vals xs its.toList
noncomputable def absV:Value→Option V
  | .none=>some .non
  | .bool b=>some (.bl b)
  | .int i _=>some (.int i)
  | .str x _=>some (.str x)
  | .bytes b _=>some (.byt b)
  | .float b _=>some (.flt b)
  | .ref a=>some (.ref a)
  | .type n=>some (.ty n)
  | _=>none
theorem RelV.abs {x:V} {u:Value} (r:RelV x u):absV u=some x:=by
  cases x with
  | non=>cases r;rfl
  | bl _=>cases r;rfl
  | int _=>obtain ⟨t,rfl⟩:=r;rfl
  | str _=>obtain ⟨t,rfl⟩:=r;rfl
  | byt _=>obtain ⟨t,rfl⟩:=r;rfl
  | flt _=>obtain ⟨t,rfl⟩:=r;rfl
  | ref _=>cases r;rfl
  | ty _=>cases r;rfl
theorem RelV.inj {x y:V} {u:Value} (r:RelV x u) (q:RelV y u):x=y:=Option.some.inj (r.abs.symm.trans q.abs)
theorem Vals.inj:∀ {xs ys:List V} {us:List Value},Vals xs us→Vals ys us→xs=ys
  | _,_,_,.nil,.nil=>rfl
  | _,_,_,.cons r t,.cons r' t'=>by rw [r.inj r',Vals.inj t t']
section
variable {X:Cx} {pins:List (Addr×Obj)} {σ:St} {H:Hp} {s:Shared} {a:Addr} {xs ys:List V}
theorem Inv.list (I:Inv X pins σ H s) (h:SqL X.K H a xs):∃ its:List Value,Vals xs its∧PlainL s.heap a its.toArray∧xs.length≤sizeLine:=by
  rcases h with h | ⟨o,its,n,hk,hc,hd,hs,hz,r⟩
  · obtain ⟨z,its,n,r,e⟩:=h.ok I.hok
    exact ⟨its,r,⟨_,n,e,rfl,rfl,rfl⟩,z⟩
  · refine ⟨its.toList,r,⟨o,n,I.kIn a o hk,hc,hd,by simpa using hs⟩,?_⟩
    have e:=r.length
    simp only [Array.length_toList] at e
    omega
theorem Inv.tuple (I:Inv X pins σ H s) (h:SqT X.K H a xs):∃ its:List Value,Vals xs its∧IsTup s.heap a its.toArray∧xs.length≤sizeLine:=by
  rcases h with h | ⟨o,its,n,hk,hc,hdn,hs,hz,r⟩
  · obtain ⟨z,its,r,p⟩:=h.ok I.hok
    exact ⟨its,r,p.up,z⟩
  · refine ⟨its.toList,r,⟨o,I.kIn a o hk,hc,n,by simpa using hs⟩,?_⟩
    have e:=r.length
    simp only [Array.length_toList] at e
    omega
theorem Inv.list_inj (I:Inv X pins σ H s) (h:SqL X.K H a xs) (h':SqL X.K H a ys):xs=ys:=by
  obtain ⟨its,r,⟨o,n,e,_,_,d⟩,_⟩:=I.list h
  obtain ⟨its',r',⟨o',n',e',_,_,d'⟩,_⟩:=I.list h'
  rw [e] at e';cases e'
  rw [d] at d'
  injection d' with d1 _
  have:its=its':=by simpa using congrArg Array.toList d1
  subst this
  exact r.inj r'
theorem Inv.tuple_inj (I:Inv X pins σ H s) (h:SqT X.K H a xs) (h':SqT X.K H a ys):xs=ys:=by
  obtain ⟨its,r,⟨o,e,_,n,d⟩,_⟩:=I.tuple h
  obtain ⟨its',r',⟨o',e',_,n',d'⟩,_⟩:=I.tuple h'
  rw [e] at e';cases e'
  rw [d] at d'
  injection d' with d1 _
  have:its=its':=by simpa using congrArg Array.toList d1
  subst this
  exact r.inj r'
end
noncomputable abbrev Cx.wish (X:Cx) (E:Value→Shared→Prop):Cx:={ X with xe:=E }
noncomputable abbrev Cx.nox (X:Cx):Cx:=X.wish fun _ _=>False
theorem Cx.Ok.wish {X:Cx} (ok:X.Ok) (E:Value→Shared→Prop):(X.wish E).Ok:=
  ⟨ok.mod,ok.kind,ok.glob,ok.blt,ok.above,ok.inj,ok.has,ok.cab,ok.hd,ok.frames,ok.stk,ok.exf,ok.bs,ok.bsz,ok.noex,ok.exfs,ok.funs,ok.frf⟩
theorem Cx.Ok.unwish {X:Cx} {E:Value→Shared→Prop} (ok:(X.wish E).Ok):X.Ok:=
  ⟨ok.mod,ok.kind,ok.glob,ok.blt,ok.above,ok.inj,ok.has,ok.cab,ok.hd,ok.frames,ok.stk,ok.exf,ok.bs,ok.bsz,ok.noex,ok.exfs,ok.funs,ok.frf⟩
section
variable {X:Cx} {pins:List (Addr×Obj)} {σ:St} {H:Hp} {s:Shared} {E:Value→Shared→Prop}
theorem Inv.wish (I:Inv X pins σ H s) (E:Value→Shared→Prop):Inv (X.wish E) pins σ H s:=⟨I.ok.wish E,I.os,I.bare,I.base,I.loc,I.cell,I.free,I.freeC,I.pin,I.hok,I.len⟩
theorem Inv.unwish (I:Inv (X.wish E) pins σ H s):Inv X pins σ H s:=⟨I.ok.unwish,I.os,I.bare,I.base,I.loc,I.cell,I.free,I.freeC,I.pin,I.hok,I.len⟩
theorem SP.unwish {D:Ends} {f:Flow} {s':Shared} (h:SP (X.wish E) pins D f s'):SP X pins D f s':=by
  cases f with
  | next=>obtain ⟨σ',H',I,q⟩:=h;exact ⟨σ',H',I.unwish,q⟩
  | brk=>obtain ⟨σ',H',I,q⟩:=h;exact ⟨σ',H',I.unwish,q⟩
  | cont=>obtain ⟨σ',H',I,q⟩:=h;exact ⟨σ',H',I.unwish,q⟩
  | ret u=>obtain ⟨v,σ',H',I,r,q⟩:=h;exact ⟨v,σ',H',I.unwish,r,q⟩
theorem PSs.nox {st:List Stmt} {t:TS} (h:PSs X.nox st t):PSs X st t:=fun pins s σ H D I hw=>
  wpAny_mono (h pins s σ H D (I.wish _) hw) (fun _ _ q=>q.unwish) fun _ _ z=>False.elim z
end
section
variable {X:Cx} {st:Stmt} {rest:List Stmt} {t u:TS} {e:Expr} {te:TE} {pos:Pos}
noncomputable def tNext:TS:=fun D σ H=>D.nx σ H
noncomputable def tSeq (t u:TS):TS:=fun D σ H=>t { D with nx:=u D } σ H
theorem pss_nil:PSs X [] tNext:=fun _ _ σ H _ I h=>wpAny_execs_nil ⟨σ,H,I,h⟩
theorem pss_cons (h1:PS X st t) (h2:PSs X rest u):PSs X (st::rest) (tSeq t u):=by
  intro pins s σ H D I h
  refine wpAny_execs_cons (thn (h1 pins s σ H { D with nx:=u D } I h) fun f s1 q=>?_)
  cases f with
  | next=>
    obtain ⟨σ',H',I',q⟩:=q
    exact h2 pins s1 σ' H' D I' q
  | ret v=>exact q
  | brk=>exact q
  | cont=>exact q
theorem pss_one (h1:PS X st t):PSs X [st] t:=by
  intro pins s σ H D I h
  refine wpAny_execs_cons (thn (h1 pins s σ H D I h) fun f s1 q=>?_)
  cases f with
  | next=>exact wpAny_execs_nil q
  | ret v=>exact q
  | brk=>exact q
  | cont=>exact q
noncomputable def tBreak:TS:=fun D σ H=>D.bk σ H
noncomputable def tCont:TS:=fun D σ H=>D.ct σ H
theorem ps_pass:PS X (.Pass pos) tNext:=fun _ _ σ H _ I h=>wpAny_Pass ⟨σ,H,I,h⟩
theorem ps_break:PS X (.Break pos) tBreak:=fun _ _ σ H _ I h=>wpAny_Break ⟨σ,H,I,h⟩
theorem ps_continue:PS X (.Continue pos) tCont:=fun _ _ σ H _ I h=>wpAny_Continue ⟨σ,H,I,h⟩
theorem Inv.quiet {pins:List (Addr×Obj)} {σ:St} {H:Hp} {s:Shared} (I:Inv X pins σ H s):interactive X.env=false:=by simp [interactive,I.ok.kind]
theorem ps_doc {x j pos pos'}:PS X (.Expr (.Constant (.str x) j pos) pos') tNext:=fun _ s σ H _ I h=>wpAny_Expr (Calls.Constant_str (show SP X _ _ .next { s with toks:=s.toks+1 } from ⟨σ,H,I.tok _,h⟩)) I.quiet
noncomputable def tDrop (te:TE):TS:=fun D σ H=>te σ H fun _ H1=>D.nx σ H1
theorem ps_expr (he:PE X e te) (hs:swapsWith e none pos.line X.env=pure false:=by rfl):PS X (.Expr e pos) (tDrop te):=by
  intro pins s σ H D I h
  exact wpAny_Expr_any (thn (he pins s σ H _ I h) fun v s1 ⟨x,H1,I1,r1,q1⟩=>⟨σ,H1,I1,q1⟩) I.quiet hs
noncomputable def tRet (te:TE):TS:=fun D σ H=>te σ H D.rt
theorem ps_ret (he:PE X e te):PS X (.Return (some e) pos) (tRet te):=by
  intro pins s σ H D I h
  exact wpAny_Return_some (thn (he pins s σ H _ I h) fun v s1 ⟨x,H1,I1,r1,q1⟩=>⟨x,σ,H1,I1,r1,q1⟩)
noncomputable def tRetN:TS:=fun D _ H=>D.rt .non H
theorem ps_retN:PS X (.Return none pos) tRetN:=fun _ _ σ H _ I h=>wpAny_Return_none ⟨.non,σ,H,I,rfl,h⟩
noncomputable def tIfS (c:TT) (t u:TS):TS:=fun D σ H=>c σ H fun b H1=>if b=true then t D σ H1 else u D σ H1
theorem ps_if {c:Expr} {a b:List Stmt} {tc:TT} (hc:PT X c tc) (ha:PSs X a t) (hb:PSs X b u):PS X (.If c a b pos) (tIfS tc t u):=by
  intro pins s σ H D I h
  refine wpAny_If (thn (hc pins s σ H _ I h) fun d s1 ⟨H1,I1,q1⟩=>?_)
  cases d with
  | true=>exact ha pins s1 σ H1 D I1 q1
  | false=>exact hb pins s1 σ H1 D I1 q1
end
noncomputable abbrev TG:=V→St→Hp→(St→Hp→Prop)→Prop
noncomputable abbrev TGs:=List V→St→Hp→(St→Hp→Prop)→Prop
noncomputable def PG (X:Cx) (target:Expr) (t:TG):Prop:=
  ∀ (pins:List (Addr×Obj)) (s:Shared) (σ:St) (H:Hp) (v:V) (u:Value) (Q:St→Hp→Prop),Inv X pins σ H s→RelV v u→t v σ H Q →
    wpAny (model X.prog X.w) X.A (assign target X.env u) (fun _ s'=>∃ σ' H',Inv X pins σ' H' s'∧Q σ' H') X.xe s
noncomputable def PGs (X:Cx) (ts:List Expr) (t:TGs):Prop:=
  ∀ (pins:List (Addr×Obj)) (s:Shared) (σ:St) (H:Hp) (vs:List V) (us:List Value) (Q:St→Hp→Prop),Inv X pins σ H s→Vals vs us→t vs σ H Q →
    wpAny (model X.prog X.w) X.A (assignInOrder ((assignEach ts X.env).map (·.2)) us) (fun _ s'=>∃ σ' H',Inv X pins σ' H' s'∧Q σ' H') X.xe s
noncomputable abbrev TSet:=V→V→V→Hp→(Hp→Prop)→Prop
noncomputable def PSet (X:Cx) (t:TSet):Prop:=
  ∀ (pins:List (Addr×Obj)) (s:Shared) (σ:St) (H:Hp) (o i v:V) (ov iv u:Value) (Q:Hp→Prop),Inv X pins σ H s→RelV o ov→RelV i iv→RelV v u→t o i v H Q →
    wpAny (model X.prog X.w) X.A (setItem ov iv u) (fun _ s'=>∃ H',Inv X pins σ H' s'∧Q H') X.xe s
section
variable {X:Cx} {pos:Pos}
noncomputable def gName (i:Nat):TG:=fun v σ H Q=>Q (σ.set i (some v)) H
theorem pg_name {i:Nat} {x:Str} (hN:X.N.Nodup) (hi:X.N[i]?=some x) (hx:Loc X.env.scope x) (hf:X.fn x=true∨X.env.scope.names.lookup x=some .local:=by first | exact .inl rfl | exact .inr rfl | assumption):PG X (.Name x pos) (gName i):=by
  intro pins s σ H v u Q I r h
  exact wpAny_assign_Name (store_ok I hN hi hx r (fun s' I'=>⟨_,H,I',h⟩) hf)
noncomputable def gNil:TGs:=fun vs σ H Q=>vs=[]∧Q σ H
noncomputable def gCons (t:TG) (u:TGs):TGs:=fun vs σ H Q=>∃ v r,vs=v::r∧t v σ H fun σ' H'=>u r σ' H' Q
theorem pgs_nil:PGs X [] gNil:=by
  intro pins s σ H vs us Q I r h
  obtain ⟨e,h⟩:=h
  subst e
  cases r
  exact assignInOrder_nil ⟨σ,H,I,h⟩
theorem pgs_cons {e:Expr} {es:List Expr} {t:TG} {u:TGs} (h1:PG X e t) (h2:PGs X es u)
    (hs:(assignEach (e::es) X.env).map (·.2)=assign e X.env::(assignEach es X.env).map (·.2):=by rfl):PGs X (e::es) (gCons t u):=by
  intro pins s σ H vs us Q I r h
  obtain ⟨v,vr,e1,h⟩:=h
  subst e1
  cases r with
  | cons r rr=>
    rw [hs]
    refine assignInOrder_cons (thn (h1 pins s σ H _ _ _ I r h) fun _ s1 ⟨σ1,H1,I1,q1⟩=>?_)
    exact h2 pins s1 σ1 H1 _ _ Q I1 rr q1
noncomputable def gTup (K:PySem.W.Frag) (n:Nat) (t:TGs):TG:=fun v σ H Q=>∃ a xs,v=.ref a∧SqT K H a xs∧xs.length=n∧t xs σ H Q
theorem pg_tup {es:List Expr} {k:Nat} {t:TGs} {n:Nat} (hc:X.calm=true) (h:PGs X es t)
    (hn:(assignEach es X.env).length=n:=by rfl) (hst:(assignEach es X.env).findIdx? (·.1)=none:=by rfl):PG X (.Tuple es k pos) (gTup X.K n t):=by
  intro pins s σ H v u Q I r hw
  obtain ⟨a,xs,e1,hq,hl,hw⟩:=hw
  subst e1
  cases r
  obtain ⟨its,rv,ht,hz⟩:=I.tuple hq
  refine assign_Tuple_tuple (I.ok.hd hc) ht (by simp [hn,← hl,rv.length]) hst fun h' hx=>?_
  have I1:Inv X pins σ H { s with heap:=h' }:=I.kept (t':=s.toks) fun b o e=>hx b o (Nat.ne_of_lt (Heap.lt_size e)) e
  exact h pins _ σ H xs _ Q I1 (by simpa using rv) hw
noncomputable def gSub (to ti:TE) (t:TSet):TG:=fun v σ H Q=>to σ H fun o H1=>ti σ H1 fun i H2=>t o i v H2 fun H3=>Q σ H3
theorem pg_sub {o i:Expr} {to ti:TE} {t:TSet} (ho:PE X o to) (hi:PE X i ti) (hs:PSet X t)
    (ha:∀ v,assign (.Subscript o i pos) X.env v=(do
      let ov ← holding [v] (eval o X.env)
      let iv ← holding [v,ov] (eval i X.env)
      standAt pos
      holding [v,ov,iv] (setItem ov iv v)
      release [v,ov,iv] []):=by intro _;rfl):PG X (.Subscript o i pos) (gSub to ti t):=by
  intro pins s σ H v u Q I r h
  rw [ha]
  refine wpAny_bind (wpAny_holding (thn (ho pins s σ H _ I h) fun ov s1 ⟨x,H1,I1,r1,q1⟩=>?_))
  refine wpAny_bind (wpAny_holding (thn (hi pins s1 σ H1 _ I1 q1) fun iv s2 ⟨y,H2,I2,r2,q2⟩=>?_))
  refine wpAny_bind (wpAny_standAt (wpAny_bind (wpAny_holding (thn (hs pins s2 σ H2 x y v ov iv u _ I2 r1 r2 r q2) fun _ s3 ⟨H3,I3,q3⟩=>?_))))
  exact wpAny_release ⟨σ,H3,I3,q3⟩
noncomputable def tAsg (te:TE) (g:TG):TS:=fun D σ H=>te σ H fun x H1=>g x σ H1 D.nx
theorem ps_asg {tg e:Expr} {te:TE} {g:TG} (he:PE X e te) (hg:PG X tg g) (hs:swapsWithSole [tg] e pos.line X.env=pure false:=by rfl) (hw:swappedStores [tg] e X.env=pure none:=by rfl)
    (h1:(assignEach [tg] X.env).map (·.2)=[assign tg X.env]:=by rfl):PS X (.Assign [tg] e pos) (tAsg te g):=by
  intro pins s σ H D I h
  refine wpAny_Assign_stores (thn (he pins s σ H _ I h) fun v s1 ⟨x,H1,I1,r1,q1⟩=>?_) hs hw
  rw [h1]
  exact thn (hg pins s1 σ H1 x v _ I1 r1 q1) fun _ s2 q=>q
theorem ps_set {i:Nat} {x:Str} {e:Expr} {te:TE} {pos':Pos} (hN:X.N.Nodup) (hi:X.N[i]?=some x) (hx:Loc X.env.scope x) (he:PE X e te) (hs:swapsWith e (some (.Name x pos')) pos.line X.env=pure false:=by rfl) (hf:X.fn x=true∨X.env.scope.names.lookup x=some .local:=by first | exact .inl rfl | exact .inr rfl | assumption) :
    PS X (.Assign [.Name x pos'] e pos) (tAsg te (gName i)):=by
  intro pins s σ H D I h
  refine wpAny_Assign_Name (thn (he pins s σ H _ I h) fun v s1 ⟨y,H1,I1,r1,q1⟩=>?_) hs
  exact store_ok I1 hN hi hx r1 (fun s2 I2=>⟨_,H1,I2,q1⟩) hf
noncomputable def tPar (i j:Nat) (ta:TA):TS:=fun D σ H=>ta σ H fun vs H1=>∃ v w,vs=[v,w]∧D.nx ((σ.set i (some v)).set j (some w)) H1
theorem ps_par {i j:Nat} {x y:Str} {a b:Expr} {ta:TA} {px py pt:Pos} {kt k2 pt2} (hc:X.calm=true) (hN:X.N.Nodup) (hi:X.N[i]?=some x) (hj:X.N[j]?=some y) (hij:i≠j)
    (hx:X.env.scope.names.lookup x=some .local) (hy:X.env.scope.names.lookup y=some .local) (ha:PA X [a,b] ta)
    (hw:swappedStores [.Tuple [.Name x px,.Name y py] kt pt] (.Tuple [a,b] k2 pt2) X.env=pure (some [x,y]))
    (hs:swapsWithSole [.Tuple [.Name x px,.Name y py] kt pt] (.Tuple [a,b] k2 pt2) pos.line X.env=pure false:=by rfl) :
    PS X (.Assign [.Tuple [.Name x px,.Name y py] kt pt] (.Tuple [a,b] k2 pt2) pos) (tPar i j ta):=by
  intro pins s σ H D I h
  rw [exec_Assign_arm]
  refine wpAny_bind (wpAny_standAt ?_)
  rw [hs]
  refine wpAny_bind (wpAny_pure ?_)
  rw [if_neg (by decide)]
  refine wpAny_bind (Tuple_ (thn (ha _ pins s σ H _ I h) fun us s1 ⟨vs,H1,I1,r1,q1⟩=>?_))
  obtain ⟨v,w,e1,q1⟩:=q1
  subst e1
  obtain ⟨u1,u2,rfl,rv,rw'⟩:∃ u1 u2,us=[u1,u2]∧RelV v u1∧RelV w u2:=by
    cases r1 with
    | cons p q=>
      cases q with
      | cons p' q'=>
        cases q'
        exact ⟨_,_,rfl,p,p'⟩
  refine wpAny_newObj_type ?_ (by show 2≤sizeLine;decide)
  have I2:Inv X pins σ H1 { s1 with heap:=s1.heap.push { cls:=.type "tuple",data:=.seq [u1,u2].toArray } }:=I1.kept (t':=s1.toks) fun b o e=>Heap.get?_push_of_some _ e
  rw [hw]
  refine wpAny_bind (wpAny_pure ?_)
  show wpAny (model X.prog X.w) X.A (do rule "assign.swapped-stores";let items ← unpackItems (.ref s1.heap.objs.size) 2 none;assignInOrder [fun v=>bindName X.env y v,fun v=>bindName X.env x v] items.reverse;pure Flow.next) _ _ _
  refine wpAny_bind (wpAny_rule (wpAny_bind (unpackItems_tuple (items:=#[u1,u2]) (I.ok.hd hc) (IsTup.new s1.heap _) fun h' hx'=>?_)))
  have I3:=I2.kept (h':=h') (t':=s1.toks) fun b o e=>hx' b o (Nat.ne_of_lt (Heap.lt_size e)) e
  show wpAny _ _ (assignInOrder [fun v=>bindName X.env y v,fun v=>bindName X.env x v] [u2,u1] >>= fun _=>pure Flow.next) _ _ _
  refine wpAny_bind (assignInOrder_cons (wpAny_bindName (store_ok I3 hN hj (.inl hy) rw' (fun s2 I4=>?_) (.inr hy))))
  refine assignInOrder_cons (wpAny_bindName (store_ok I4 hN hi (.inl hx) rv (fun s3 I5=>assignInOrder_nil (wpAny_pure ?_)) (.inr hx)))
  rw [List.set_comm _ _ (Ne.symm hij)] at I5
  exact ⟨_,H1,I5,q1⟩
end
section
variable {X:Cx} {pos:Pos}
end
structure It where
  go:Nat→Hp→Prop
  yld:Nat→Hp→V→Hp→Prop
  stop:Nat→Hp→Prop
noncomputable def FpOk (X:Cx) (pins:List (Addr×Obj)) (H:Hp) (b:Addr):Prop:=
  H b=none∧b≠X.env.locals∧b ∉ X.fs∧(b∈X.ex∨X.s₀.heap.objs.size≤b)∧(∀ x c,X.env.cells.lookup x=some c→c≠b)∧∀ p∈X.pn++pins,p.1≠b
theorem Inv.fpOk {X:Cx} {pins:List (Addr×Obj)} {σ:St} {H H':Hp} {s:Shared} {b:Addr} (I:Inv X pins σ H s) (hb:s.heap.objs.size≤b) (hn:H' b=none):FpOk X pins H' b:=by
  refine ⟨hn,Nat.ne_of_gt (Nat.lt_of_lt_of_le I.lt hb),I.nofs hb,.inr (Nat.le_trans I.sz hb),fun x c e z=>?_,fun p hp z=>?_⟩
  · obtain ⟨v,q⟩:=I.cell x c e
    exact absurd (Nat.lt_of_lt_of_le q.lt (by rw [z];exact hb)) (Nat.lt_irrefl _)
  · exact absurd (Nat.lt_of_lt_of_le (Heap.lt_size (I.pin p hp).1) (by rw [z];exact hb)) (Nat.lt_irrefl _)
structure Turn (P:Program) (w:World) (K:PySem.W.Frag) (tg:Expr) (J:It) (fp:List Addr) (it:Addr) (tn:Nat→Heap→Prop):Prop where
  mem:it∈fp
  obj:∀ i h,tn i h→∀ b∈fp,∃ o,h.get? b=some o∧∀ v,o.data≠.cell v
  keep:∀ i h h',tn i h→(∀ b∈fp,∀ o,h.get? b=some o→h'.get? b=some o)→tn i h'
  item:∀ (X:Cx),X.prog=P→X.w=w→X.K=K→X.calm=true→∀ (i:Nat) (pins:List (Addr×Obj)) (s:Shared) (σ:St) (H:Hp) (E:Value→Shared→Prop),Inv X pins σ H s→(∀ b∈fp,FpOk X pins H b)→tn i s.heap→J.go i H →
    wpAny (model P w) X.A (pyNext (.ref it)) (fun r s1=>∃ u,r=some u ∧
      wpAny (model P w) X.A (letOwnedTupleGo tg (.ref it) u) (fun _ s2=>∃ x H',Inv X pins σ H' s2∧RelV x u∧J.yld i H x H'∧tn (i+1) s2.heap∧∀ b∈fp,H' b=none) E s1) E s
  done:∀ (X:Cx),X.prog=P→X.w=w→X.K=K→X.calm=true→∀ (i:Nat) (pins:List (Addr×Obj)) (s:Shared) (σ:St) (H:Hp) (E:Value→Shared→Prop),Inv X pins σ H s→(∀ b∈fp,FpOk X pins H b)→tn i s.heap→J.stop i H →
    wpAny (model P w) X.A (pyNext (.ref it)) (fun r s1=>r=none∧Inv X pins σ H s1) E s
  self:∀ (A:Around) (i:Nat) (s:Shared) (Q:Value→Shared→Prop) (E:Value→Shared→Prop),tn i s.heap→Q (.ref it) s→wpAny (model P w) A (pyIter (.ref it)) Q E s
noncomputable abbrev TI:=St→Hp→(It→Hp→Prop)→Prop
noncomputable def PIE (X:Cx) (pins:List (Addr×Obj)) (σ:St) (tg:Expr) (R:It→Hp→Prop) (itv:Value) (s2:Shared):Prop:=
  ∃ (it:Addr) (fp:List Addr) (tn:Nat→Heap→Prop) (J:It) (H':Hp),itv=.ref it∧Inv X pins σ H' s2∧Turn X.prog X.w X.K tg J fp it tn∧tn 0 s2.heap∧(∀ b∈fp,FpOk X pins H' b)∧R J H'
noncomputable def PI (X:Cx) (tg iter:Expr) (wi:TI):Prop:=
  ∀ (pins:List (Addr×Obj)) (s:Shared) (σ:St) (H:Hp) (R:It→Hp→Prop),Inv X pins σ H s→wi σ H R →
    wpAny (model X.prog X.w) X.A (eval iter X.env) (fun v s1=>wpAny (model X.prog X.w) X.A (pyIter v) (PIE X pins σ tg R) X.xe s1) X.xe s
theorem go_of {M:Model} {A:Around} {E:Value→Shared→Prop} {s:Shared} {tg:Expr} {it:Addr} {u:Value} {o:Obj} {n:String} {vs:Array Value} {Q:Unit→Shared→Prop} (ho:s.heap.get? it=some o) (hc:o.cls=.type n) (hd:o.data=.fields vs)
    (hn:["enumerate","zip","dict_itemiterator","dict_reverseitemiterator","odict_iterator","itertools.zip_longest","itertools.pairwise"].contains n=false) (hQ:Q () s):wpAny M A (letOwnedTupleGo tg (.ref it) u) Q E s:=by
  unfold letOwnedTupleGo
  cases tg <;> first
    | exact wpAny_pure hQ
    | (cases u <;> first
        | exact wpAny_pure hQ
        | (refine wpAny_bind (wpAny_load ho ?_)
           rw [hc,hd]
           show wpAny M A (if (["enumerate","zip","dict_itemiterator","dict_reverseitemiterator","odict_iterator","itertools.zip_longest","itertools.pairwise"].contains n&&vs[0]? == some (rawInt _))=true then _ else _) Q E s
           rw [if_neg (by intro h;rw [hn,Bool.false_and] at h;cases h)]
           exact wpAny_pure hQ))
noncomputable def Itl (K:PySem.W.Frag) (a:Addr):It:=
  ⟨fun i H=>∃ xs x,SqL K H a xs∧xs[i]?=some x,fun i H x H'=>H'=H∧∀ xs,SqL K H a xs→xs[i]?=some x,fun i H=>∃ xs,SqL K H a xs∧xs.length≤i⟩
noncomputable def Itt (K:PySem.W.Frag) (a:Addr):It:=
  ⟨fun i H=>∃ xs x,SqT K H a xs∧xs[i]?=some x,fun i H x H'=>H'=H∧∀ xs,SqT K H a xs→xs[i]?=some x,fun i H=>∃ xs,SqT K H a xs∧xs.length≤i⟩
noncomputable def Itr (lo:Int) (n:Nat):It:=⟨fun i _=>i<n,fun i H x H'=>H'=H∧x=.int (lo+i),fun i _=>n≤i⟩
theorem turn_list {P:Program} {w:World} {K:PySem.W.Frag} {tg:Expr} (a it:Addr):Turn P w K tg (Itl K a) [it] it (fun i h=>h.IsListIter it a i) where
  mem:=by simp
  obj:=fun i h st b hb=>by
    have e:b=it:=by simpa using hb
    subst e
    obtain ⟨o,e,c,d⟩:=st
    exact ⟨o,e,fun v z=>by rw [d] at z;cases z⟩
  keep:=fun i h h' st k=>st.at fun o e=>k it (by simp) o e
  item:=by
    intro X hP hw hK hc i pins s σ H E I hf st hg
    subst hP hw hK
    obtain ⟨xs,x,hq,hx⟩:=hg
    obtain ⟨its,rv,p,hz⟩:=I.list hq
    obtain ⟨u,hu,ru⟩:=rv.get hx
    obtain ⟨f0,f1,f2,f3,f4,f5⟩:=hf it (by simp)
    refine wpAny_pyNext_list_item st p.isList (x:=u) (by simpa using hu) fun h' st' sb=>?_
    have I1:Inv X pins σ H { s with heap:=h' }:=I.turned (t':=s.toks) (fun b o hb e=>(sb.2 b hb).trans e) f0 f1 f3 f4 f5
    obtain ⟨o,e,c,d⟩:=id st'
    exact ⟨u,rfl,go_of (s:={ s with heap:=h' }) e c d (by decide) ⟨x,H,I1,ru,⟨rfl,fun ys hy=>by rw [I.list_inj hy hq];exact hx⟩,st',fun b hb=>(hf b hb).1⟩⟩
  done:=by
    intro X hP hw hK hc i pins s σ H E I hf st hg
    subst hP hw hK
    obtain ⟨xs,hq,hx⟩:=hg
    obtain ⟨its,rv,p,hz⟩:=I.list hq
    obtain ⟨f0,f1,f2,f3,f4,f5⟩:=hf it (by simp)
    have hl:=rv.length
    exact wpAny_pyNext_list_end (I.ok.hd hc) st p.isList (by simp;omega) fun h' eb=>⟨rfl,I.turned (t':=s.toks) (fun b o hb e=>eb b o hb e) f0 f1 f3 f4 f5⟩
  self:=fun _ _ _ _ _ st h=>wpAny_pyIter_listiter st h
theorem turn_tuple {P:Program} {w:World} {K:PySem.W.Frag} {tg:Expr} (a it:Addr):Turn P w K tg (Itt K a) [it] it (fun i h=>h.IsTupleIter it a i) where
  mem:=by simp
  obj:=fun i h st b hb=>by
    have e:b=it:=by simpa using hb
    subst e
    obtain ⟨o,e,c,d⟩:=st
    exact ⟨o,e,fun v z=>by rw [d] at z;cases z⟩
  keep:=fun i h h' st k=>st.at fun o e=>k it (by simp) o e
  item:=by
    intro X hP hw hK hc i pins s σ H E I hf st hg
    subst hP hw hK
    obtain ⟨xs,x,hq,hx⟩:=hg
    obtain ⟨its,rv,p,hz⟩:=I.tuple hq
    obtain ⟨u,hu,ru⟩:=rv.get hx
    obtain ⟨f0,f1,f2,f3,f4,f5⟩:=hf it (by simp)
    refine wpAny_pyNext_tuple_item st (show s.heap.IsTuple a its.toArray from p) (x:=u) (by simpa using hu) fun h' st' sb=>?_
    have I1:Inv X pins σ H { s with heap:=h' }:=I.turned (t':=s.toks) (fun b o hb e=>(sb.2 b hb).trans e) f0 f1 f3 f4 f5
    obtain ⟨o,e,c,d⟩:=id st'
    exact ⟨u,rfl,go_of (s:={ s with heap:=h' }) e c d (by decide) ⟨x,H,I1,ru,⟨rfl,fun ys hy=>by rw [I.tuple_inj hy hq];exact hx⟩,st',fun b hb=>(hf b hb).1⟩⟩
  done:=by
    intro X hP hw hK hc i pins s σ H E I hf st hg
    subst hP hw hK
    obtain ⟨xs,hq,hx⟩:=hg
    obtain ⟨its,rv,p,hz⟩:=I.tuple hq
    obtain ⟨f0,f1,f2,f3,f4,f5⟩:=hf it (by simp)
    have hl:=rv.length
    exact wpAny_pyNext_tuple_end (I.ok.hd hc) st (show s.heap.IsTuple a its.toArray from p) (by simp;omega) fun h' eb=>⟨rfl,I.turned (t':=s.toks) (fun b o hb e=>eb b o hb e) f0 f1 f3 f4 f5⟩
  self:=fun _ _ _ _ _ st h=>wpAny_pyIter_tupleiter st h
theorem turn_range {P:Program} {w:World} {K:PySem.W.Frag} {tg:Expr} (it:Addr) (lo:Int) (n:Nat):Turn P w K tg (Itr lo n) [it] it (fun i h=>IsRangeIter h it (lo+(i:Nat) * 1) ((n:Int) - (i:Nat)) 1) where
  mem:=by simp
  obj:=fun i h st b hb=>by
    have e:b=it:=by simpa using hb
    subst e
    exact ⟨_,st,fun v z=>by
      have z':Data.fields _=Data.cell v:=z
      cases z'⟩
  keep:=fun i h h' st k=>k it (by simp) _ st
  item:=by
    intro X hP hw hK hc i pins s σ H E I hf st hg
    subst hP hw hK
    obtain ⟨f0,f1,f2,f3,f4,f5⟩:=hf it (by simp)
    have W:=Walks.range (prog:=X.prog) (w:=X.w) (I.ok.hd hc) it lo 1 n
    refine W.item i s _ _ hg st fun v h' tk hv st' kk=>?_
    obtain ⟨t,rfl⟩:=hv
    have I1:Inv X pins σ H { s with heap:=h',toks:=tk }:=I.turned (fun b o hb e=>kk b o (by simpa using hb) e) f0 f1 f3 f4 f5
    refine ⟨_,rfl,go_of (s:={ s with heap:=h',toks:=tk }) (n:="range_iterator") st' rfl rfl (by decide) ⟨.int (lo+i),H,I1,⟨t,?_⟩,⟨rfl,rfl⟩,st',fun b hb=>(hf b hb).1⟩⟩
    rw [Int.mul_one]
  done:=by
    intro X hP hw hK hc i pins s σ H E I hf st hg
    subst hP hw hK
    obtain ⟨f0,f1,f2,f3,f4,f5⟩:=hf it (by simp)
    exact wpAny_pyNext_range_end (I.ok.hd hc) st (by have:n≤i:=hg;omega) fun h' eb=>⟨rfl,I.turned (t':=s.toks) (fun b o hb e=>eb b o hb e) f0 f1 f3 f4 f5⟩
  self:=fun _ _ _ _ _ st h=>wpAny_pyIter_rangeiter st h
end L2
namespace L2
open PySem PySem.Spec PyProof.Rows
section
variable {X:Cx} {tg:Expr}
noncomputable def iList (K:PySem.W.Frag) (tl:TE):TI:=fun σ H R=>tl σ H fun x H1=>∃ a,x=.ref a∧(∃ xs,SqL K H1 a xs)∧R (Itl K a) H1
theorem pi_list {l:Expr} {tl:TE} (hl:PE X l tl):PI X tg l (iList X.K tl):=by
  intro pins s σ H R I h
  refine thn (hl pins s σ H _ I h) fun v s1 ⟨x,H1,I1,r1,q1⟩=>?_
  obtain ⟨a,e,⟨xs,hq⟩,q⟩:=q1
  subst e
  cases r1
  obtain ⟨its,rv,p,hz⟩:=I1.list hq
  refine wpAny_pyIter_list p.isList ?_
  refine ⟨s1.heap.objs.size,[s1.heap.objs.size],_,_,H1,rfl,I1.kept (t':=s1.toks) fun b o e=>Heap.get?_push_of_some _ e,turn_list a _,⟨_,Heap.get?_push_size _ rfl,rfl,rfl⟩,fun b hb=>?_,q⟩
  have e:b=s1.heap.objs.size:=by simpa using hb
  subst e
  exact I1.fpOk (Nat.le_refl _) (I1.hok.fresh (Nat.le_refl _))
theorem range_it {pins:List (Addr×Obj)} {σ:St} {H:Hp} {s:Shared} {R:It→Hp→Prop} {E:Value→Shared→Prop} {lo hi:Int} {t u v:Tok} {tk:Nat} (I:Inv X pins σ H s) (h1:-(2 ^ 62)≤lo) (h2:lo<2 ^ 62) (h3:-(2 ^ 62)≤hi) (h4:hi<2 ^ 62)
    (q:R (Itr lo (hi - lo).toNat) H):wpAny (model X.prog X.w) X.A (pyIter (.ref s.heap.objs.size)) (PIE X pins σ tg R) E { s with heap:=s.heap.push { cls:=.type "range",data:=.fields #[.int lo t,.int hi u,.int 1 v] },toks:=tk }:=by
  refine wpAny_pyIter_range (IsRange.new ..) (small_one h1 h2 h3 h4) ?_
  have I1:Inv X pins σ H { s with heap:=s.heap.push { cls:=.type "range",data:=.fields #[.int lo t,.int hi u,.int 1 v] },toks:=tk }:=I.kept fun b o e=>Heap.get?_push_of_some _ e
  refine ⟨(s.heap.push { cls:=.type "range",data:=.fields #[.int lo t,.int hi u,.int 1 v] }).objs.size,[(s.heap.push { cls:=.type "range",data:=.fields #[.int lo t,.int hi u,.int 1 v] }).objs.size],_,_,H,rfl,
    I1.kept (t':=tk) fun b o e=>Heap.get?_push_of_some _ e,turn_range _ lo (hi - lo).toNat,?_,fun b hb=>?_,q⟩
  · have e1:lo+((0:Nat):Int) * 1=lo:=by simp
    have e2:(((hi - lo).toNat:Nat):Int) - ((0:Nat):Int)=Builtin.Range.rangeSize lo hi 1:=by rw [rangeSize_one];split <;> omega
    show IsRangeIter _ _ (lo+((0:Nat):Int) * 1) ((((hi - lo).toNat:Nat):Int) - ((0:Nat):Int)) 1
    rw [e1,e2]
    exact Heap.get?_push_size _ rfl
  · have e:b=(s.heap.push { cls:=.type "range",data:=.fields #[.int lo t,.int hi u,.int 1 v] }).objs.size:=by simpa using hb
    subst e
    exact I1.fpOk (Nat.le_refl _) (I1.hok.fresh (Nat.le_refl _))
noncomputable def iRng1 (ta:TA):TI:=fun σ H R=>ta σ H fun vs H1=>∃ j:Int,vs=[.int j]∧-(2 ^ 62)≤j∧j<2 ^ 62∧R (Itr 0 j.toNat) H1
noncomputable def iRng2 (ta:TA):TI:=fun σ H R=>ta σ H fun vs H1=>∃ i j:Int,vs=[.int i,.int j]∧(-(2 ^ 62)≤i∧i<2 ^ 62∧-(2 ^ 62)≤j∧j<2 ^ 62)∧R (Itr i (j - i).toNat) H1
theorem pi_range1 {a:Expr} {ta:TA} {p pos:Pos} (hg:Gl X "range") (hm:X.mg "range" = none) (ha:PA X [a] ta) (hs:starEach [a] X.env=[(false,eval a X.env)]:=by rfl):PI X tg (.Call (.Name "range" p) [a] [] pos) (iRng1 ta):=by
  intro pins s σ H R I h
  refine Call_ (ld_blt I hg hm boot_range (PyProof.Rows.callWith_type1 (thn (ha pos pins s σ H _ I h) fun us s1 ⟨vs,H1,I1,r1,q1⟩=>?_) hs rfl))
  obtain ⟨j,e,q1,q2,q⟩:=q1
  subst e
  cases r1 with
  | cons r rr=>
    cases rr
    obtain ⟨t,rfl⟩:=r
    exact call_range_1 (range_it I1 (by omega) (by omega) q1 q2 (by simpa using q))
theorem pi_range2 {a b:Expr} {ta:TA} {p pos:Pos} (hg:Gl X "range") (hm:X.mg "range" = none) (ha:PA X [a,b] ta) (hs:starEach [a,b] X.env=[(false,eval a X.env),(false,eval b X.env)]:=by rfl) (hs2:starEach [b] X.env=[(false,eval b X.env)]:=by rfl) :
    PI X tg (.Call (.Name "range" p) [a,b] [] pos) (iRng2 ta):=by
  intro pins s σ H R I h
  refine Call_ (ld_blt I hg hm boot_range (PyProof.Rows.callWith_type1 (thn (ha pos pins s σ H _ I h) fun us s1 ⟨vs,H1,I1,r1,q1⟩=>?_) (by rw [hs,hs2]) (by rw [hs2];rfl)))
  obtain ⟨i,j,e,⟨q1,q2,q3,q4⟩,q⟩:=q1
  subst e
  cases r1 with
  | cons r rr=>
    cases rr with
    | cons r' rr=>
      cases rr
      obtain ⟨t,rfl⟩:=r
      obtain ⟨t',rfl⟩:=r'
      exact call_range_2 (range_it I1 q1 q2 q3 q4 q)
noncomputable def tFor (wi:TI) (g:TG) (tb:TS):TS:=fun D σ H=>wi σ H fun J H1=>∃ W:Nat→Nat→St→Hp→Prop,(∃ m,W 0 m σ H1)∧∀ i m σ H,W i m σ H →
  (J.stop i H∧D.nx σ H)∨(J.go i H∧∃ N:St→Hp→Prop,(∀ σ' H',N σ' H'→∃ m',m'<m∧W (i+1) m' σ' H')∧∀ x H',J.yld i H x H'→g x σ H' fun σ2 H2=>tb { D with nx:=N,ct:=N,bk:=D.nx } σ2 H2)
noncomputable def pinsAt (fp:List Addr) (h:Heap):List (Addr×Obj):=fp.filterMap fun b=>(h.get? b).map fun o=>(b,o)
theorem mem_pinsAt {fp:List Addr} {h:Heap} {b:Addr} {o:Obj} (hb:b∈fp) (e:h.get? b=some o):(b,o)∈pinsAt fp h:=List.mem_filterMap.mpr ⟨b,hb,by rw [e];rfl⟩
theorem of_pinsAt {fp:List Addr} {h:Heap} {p:Addr×Obj} (hp:p∈pinsAt fp h):p.1∈fp∧h.get? p.1=some p.2:=by
  obtain ⟨b,hb,e⟩:=List.mem_filterMap.mp hp
  cases q:h.get? b with
  | none=>rw [q] at e;cases e
  | some o=>
    rw [q] at e
    have e':(b,o)=p:=Option.some.inj e
    subst e'
    exact ⟨hb,q⟩
theorem Inv.pinned {pins:List (Addr×Obj)} {σ:St} {H:Hp} {s:Shared} {fp:List Addr} (I:Inv X pins σ H s) (hf:∀ b∈fp,FpOk X pins H b) (ho:∀ b∈fp,∃ o,s.heap.get? b=some o∧∀ v,o.data≠.cell v):Inv X (pins++pinsAt fp s.heap) σ H s:=
  I.pins_of fun p hp=>(List.mem_append.mp hp).elim (fun z=>I.pin p (List.mem_append_right _ z)) fun z=>by
    obtain ⟨hb,e⟩:=of_pinsAt z
    obtain ⟨f0,f1,f2,_⟩:=hf p.1 hb
    obtain ⟨o,e',d⟩:=ho p.1 hb
    rw [e] at e';cases e'
    exact ⟨e,f0,f1,f2,d⟩
theorem Inv.unpinned {pins pl:List (Addr×Obj)} {σ:St} {H:Hp} {s:Shared} (I:Inv X (pins++pl) σ H s):Inv X pins σ H s:=I.pins_of fun p hp=>I.pin p (List.mem_append_right _ (List.mem_append_left _ hp))
theorem ps_for {iter:Expr} {body:List Stmt} {wi:TI} {g:TG} {tb:TS} {pos:Pos} (hp:PassesOwn (model X.prog X.w) X.A X.env X.xe) (hc:X.calm=true) (hi:PI X tg iter wi) (hg:PG X tg g) (hb:PSs X body tb)
    (hs:∀ x,foldedSetIterable iter X.env x=pure x:=by intro _;rfl):PS X (.For tg iter body [] pos) (tFor wi g tb):=by
  intro pins s σ H D I h
  refine wpAny_For (thn (hi pins s σ H _ I h) fun v s1 h1=>thn h1 fun itv s2 h2=>?_) hs
  obtain ⟨it,fp,tn,J,H2,e,I2,T,st2,f2,W,⟨m0,w0⟩,turn⟩:=h2
  subst e
  have stat:∀ {H':Hp},(∀ b∈fp,H' b=none)→∀ b∈fp,FpOk X pins H' b:=fun hn b hb=>⟨hn b hb,(f2 b hb).2⟩
  refine codeAny_forLoop_any (fun n s'=>∃ i σ' H',Inv X pins σ' H' s'∧tn i s'.heap∧(∀ b∈fp,H' b=none)∧W i n σ' H') ?_ m0 ⟨0,σ,H2,I2,st2,fun b hb=>(f2 b hb).1,w0⟩
  rintro n s3 ⟨i,σ3,H3,I3,st3,fr3,w3⟩
  rcases turn i n σ3 H3 w3 with ⟨stop,qn⟩ | ⟨go,N,hN,step⟩
  · refine wpAny_passesOwn hp (thn (T.done X rfl rfl rfl hc i pins s3 σ3 H3 X.xe I3 (stat fr3) st3 stop) fun r s4 ⟨hr,I4⟩=>?_)
    subst hr
    exact wpAny_execs_nil ⟨σ3,H3,I4,qn⟩
  · refine wpAny_passesOwn hp (thn (T.item X rfl rfl rfl hc i pins s3 σ3 H3 X.xe I3 (stat fr3) st3 go) fun r s4 ⟨u,hr,h4⟩=>?_)
    subst hr
    refine wpAny_passesOwn hp (thn h4 fun _ s5 ⟨x,H5,I5,r5,y5,st5,fr5⟩=>?_)
    have I5':=I5.pinned (stat fr5) (T.obj _ _ st5)
    refine wpAny_passesOwn hp (thn (hg _ s5 σ3 H5 x u _ I5' r5 (step x H5 y5)) fun _ s6 ⟨σ6,H6,I6,q6⟩=>?_)
    refine wpAny_passesOwn hp (thn (hb _ s6 σ6 H6 _ I6 q6) fun f s7 q7=>?_)
    have again:∀ {σ7:St} {H7:Hp},Inv X (pins++pinsAt fp s5.heap) σ7 H7 s7→N σ7 H7→∃ m,m<n∧∃ i σ' H',Inv X pins σ' H' s7∧tn i s7.heap∧(∀ b∈fp,H' b=none)∧W i m σ' H':=fun {σ7 H7} I7 n7=>by
      obtain ⟨m',hm,w7⟩:=hN σ7 H7 n7
      refine ⟨m',hm,i+1,σ7,H7,I7.unpinned,T.keep _ _ _ st5 fun b hb o e=>(I7.pin (b,o) (List.mem_append_right _ (List.mem_append_right _ (mem_pinsAt hb e)))).1,fun b hb=>?_,w7⟩
      obtain ⟨o,e,d⟩:=T.obj _ _ st5 b hb
      exact (I7.pin (b,o) (List.mem_append_right _ (List.mem_append_right _ (mem_pinsAt hb e)))).2.1
    cases f with
    | next=>obtain ⟨σ7,H7,I7,n7⟩:=q7;exact again I7 n7
    | cont=>obtain ⟨σ7,H7,I7,n7⟩:=q7;exact again I7 n7
    | brk=>obtain ⟨σ7,H7,I7,q7⟩:=q7;exact ⟨σ7,H7,I7.unpinned,q7⟩
    | ret v=>obtain ⟨x7,σ7,H7,I7,r7,q7⟩:=q7;exact ⟨x7,σ7,H7,I7.unpinned,r7,q7⟩
end
end L2
namespace L2
open PySem PySem.Spec PyProof.Rows
noncomputable abbrev R2:=V→V→Hp→VK→Prop
noncomputable def OpR (X:Cx) (f:Value→Value→Sem Value) (r:R2):Prop:=
  ∀ (pins:List (Addr×Obj)) (s:Shared) (σ:St) (H:Hp) (x y:V) (v u:Value) (Q:VK),Inv X pins σ H s→RelV x v→RelV y u→r x y H Q →
    wpAny (model X.prog X.w) X.A (f v u) (EP X pins σ Q) X.xe s
noncomputable def UnR (X:Cx) (f:Value→Sem Value) (r:V→Hp→VK→Prop):Prop:=
  ∀ (pins:List (Addr×Obj)) (s:Shared) (σ:St) (H:Hp) (x:V) (v:Value) (Q:VK),Inv X pins σ H s→RelV x v→r x H Q →
    wpAny (model X.prog X.w) X.A (f v) (EP X pins σ Q) X.xe s
noncomputable def CallR (X:Cx) (f:Value) (r:List V→Hp→VK→Prop):Prop:=
  ∀ (pins:List (Addr×Obj)) (s:Shared) (σ:St) (H:Hp) (xs:List V) (us:List Value) (Q:VK),Inv X pins σ H s→Vals xs us→r xs H Q →
    wpAny (model X.prog X.w) X.A (call f us) (EP X pins σ Q) X.xe s
noncomputable def TruR (X:Cx) (r:V→Hp→(Bool→Hp→Prop)→Prop):Prop:=
  ∀ (pins:List (Addr×Obj)) (s:Shared) (σ:St) (H:Hp) (x:V) (v:Value) (Q:Bool→Hp→Prop),Inv X pins σ H s→RelV x v→r x H Q →
    wpAny (model X.prog X.w) X.A (truthy v) (TP X pins σ Q) X.xe s
noncomputable def tOp (r:R2) (ta tb:TE):TE:=fun σ H Q=>ta σ H fun x H1=>tb σ H1 fun y H2=>r x y H2 Q
noncomputable def tUn (r:V→Hp→VK→Prop) (ta:TE):TE:=fun σ H Q=>ta σ H fun x H1=>r x H1 Q
noncomputable def rI (C:Int→Int→Prop) (g:Int→Int→V):R2:=fun x y H Q=>∃ i j,x=.int i∧y=.int j∧C i j∧Q (g i j) H
noncomputable def rI0 (g:Int→Int→V):R2:=fun x y H Q=>∃ i j,x=.int i∧y=.int j∧Q (g i j) H
noncomputable def rU (g:Int→V):V→Hp→VK→Prop:=fun x H Q=>∃ i,x=.int i∧Q (g i) H
section
variable {X:Cx} {a b c:Expr} {ta tb tc:TE} {pos:Pos}
theorem binT (ha:PE X a ta) (hb:PE X b tb) {pins:List (Addr×Obj)} {s:Shared} {σ:St} {H:Hp} {R:V→V→Hp→Prop} (I:Inv X pins σ H s)
    (h:ta σ H fun x H1=>tb σ H1 fun y H2=>R x y H2) {Q:Value→Shared→Prop} {f:Value→Value→Sem Value}
    (hf:∀ v u s2 x y H2,Inv X pins σ H2 s2→RelV x v→RelV y u→R x y H2→wpAny (model X.prog X.w) X.A (f v u) Q X.xe s2) :
    wpAny (model X.prog X.w) X.A (eval a X.env) (fun v s₁=>wpAny (model X.prog X.w) X.A (eval b X.env) (fun u s₂=>wpAny (model X.prog X.w) X.A (f v u) Q X.xe s₂) X.xe s₁) X.xe s:=by
  refine thn (ha pins s σ H _ I h) fun v s1 ⟨x,H1,I1,r1,q1⟩=>?_
  refine thn (hb pins s1 σ H1 _ I1 q1) fun u s2 ⟨y,H2,I2,r2,q2⟩=>?_
  exact hf v u s2 x y H2 I2 r1 r2 q2
theorem pe_op {op:Operator} {r:R2} (ho:OpR X (binaryOp op) r) (ha:PE X a ta) (hb:PE X b tb):PE X (.BinOp a op b pos) (tOp r ta tb):=by
  intro pins s σ H Q I h
  exact wpAny_BinOp (binT ha hb I h fun v u s2 x y H2 I2 rx ry q=>ho pins s2 σ H2 x y v u Q I2 rx ry q)
theorem pe_un {op:UnaryOp} {r:V→Hp→VK→Prop} (ho:UnR X (unaryOp op) r) (ha:PE X a ta):PE X (.UnaryOp op a pos) (tUn r ta):=by
  intro pins s σ H Q I h
  exact UnaryOp_ (thn (ha pins s σ H _ I h) fun v s1 ⟨x,H1,I1,r1,q1⟩=>ho pins s1 σ H1 x v Q I1 r1 q1)
theorem opI {f:Value→Value→Sem Value} {C:Int→Int→Prop} {g:Int→Int→Int}
    (rule:∀ (i j:Int) (t u:Tok) (s:Shared) (Q:Value→Shared→Prop) (E:Value→Shared→Prop),C i j→Q (.int (g i j) s.toks) { s with toks:=s.toks+1 }→wpAny (model X.prog X.w) X.A (f (.int i t) (.int j u)) Q E s) :
    OpR X f (rI C fun i j=>.int (g i j)):=by
  intro pins s σ H x y v u Q I rx ry h
  obtain ⟨i,j,rfl,rfl,hc,q⟩:=h
  obtain ⟨t,rfl⟩:=rx
  obtain ⟨t',rfl⟩:=ry
  exact rule i j t t' s _ _ hc ⟨.int (g i j),H,I.tok _,⟨_,rfl⟩,q⟩
theorem opI0 {f:Value→Value→Sem Value} {g:Int→Int→Int}
    (rule:∀ (i j:Int) (t u:Tok) (s:Shared) (Q:Value→Shared→Prop) (E:Value→Shared→Prop),Q (.int (g i j) s.toks) { s with toks:=s.toks+1 }→wpAny (model X.prog X.w) X.A (f (.int i t) (.int j u)) Q E s) :
    OpR X f (rI0 fun i j=>.int (g i j)):=by
  intro pins s σ H x y v u Q I rx ry h
  obtain ⟨i,j,rfl,rfl,q⟩:=h
  obtain ⟨t,rfl⟩:=rx
  obtain ⟨t',rfl⟩:=ry
  exact rule i j t t' s _ _ ⟨.int (g i j),H,I.tok _,⟨_,rfl⟩,q⟩
theorem opB0 {f:Value→Value→Sem Value} {g:Int→Int→Bool}
    (rule:∀ (i j:Int) (t u:Tok) (s:Shared) (Q:Value→Shared→Prop) (E:Value→Shared→Prop),Q (.bool (g i j)) s→wpAny (model X.prog X.w) X.A (f (.int i t) (.int j u)) Q E s) :
    OpR X f (rI0 fun i j=>.bl (g i j)):=by
  intro pins s σ H x y v u Q I rx ry h
  obtain ⟨i,j,rfl,rfl,q⟩:=h
  obtain ⟨t,rfl⟩:=rx
  obtain ⟨t',rfl⟩:=ry
  exact rule i j t t' s _ _ ⟨.bl (g i j),H,I,rfl,q⟩
noncomputable def CDiv (i j:Int):Prop:=0<j∧j<1073741824
noncomputable def CPow (i j:Int):Prop:=0≤j∧j≤1000000∧i.natAbs<2 ^ 64
theorem op_add:OpR X (binaryOp .Add) (rI0 fun i j=>.int (i+j)):=opI0 fun _ _ _ _ _ _ _ q=>add_int q
theorem op_sub:OpR X (binaryOp .Sub) (rI0 fun i j=>.int (i - j)):=opI0 fun _ _ _ _ _ _ _ q=>sub_int q
theorem op_fdiv:OpR X (binaryOp .FloorDiv) (rI CDiv fun i j=>.int (i / j)):=opI fun i j _ _ _ _ _ hc q=>by
  have h1:(0:Int)<j:=hc.1
  have h2:j<1073741824:=hc.2
  exact floordiv_int (by omega) (by rw [Int.fdiv_eq_ediv_of_nonneg i (by omega)];exact q) (.inl (PyProof.noPylong_small (by omega)))
theorem op_mod:OpR X (binaryOp .Mod) (rI (fun _ j=>0<j) fun i j=>.int (i % j)):=opI fun i j _ _ _ _ _ hc q=>by
  have h1:(0:Int)<j:=hc
  exact mod_int' (by omega) (by rw [Int.fmod_eq_emod_of_nonneg i (by omega)];exact q)
theorem op_pow:OpR X (binaryOp .Pow) (rI CPow fun i j=>.int (i ^ j.toNat)):=opI fun _ _ _ _ _ _ _ hc q=>pow_int_small hc.1 hc.2.1 hc.2.2 q
theorem unI {f:Value→Sem Value} {g:Int→Int}
    (rule:∀ (i:Int) (t:Tok) (s:Shared) (Q:Value→Shared→Prop) (E:Value→Shared→Prop),Q (.int (g i) s.toks) { s with toks:=s.toks+1 }→wpAny (model X.prog X.w) X.A (f (.int i t)) Q E s) :
    UnR X f (rU fun i=>.int (g i)):=by
  intro pins s σ H x v Q I rx h
  obtain ⟨i,rfl,q⟩:=h
  obtain ⟨t,rfl⟩:=rx
  exact rule i t s _ _ ⟨.int (g i),H,I.tok _,⟨_,rfl⟩,q⟩
theorem un_neg:UnR X (unaryOp .USub) (rU fun i=>.int (-i)):=unI fun _ _ _ _ _ q=>neg_int q
end
section
variable {X:Cx} {a b c:Expr} {ta tb tc:TE} {pos:Pos}
theorem op_lt:OpR X (compareOp .Lt) (rI0 fun i j=>.bl (decide (i<j))):=opB0 fun _ _ _ _ _ _ _ q=>lt_int q
theorem op_le:OpR X (compareOp .LtE) (rI0 fun i j=>.bl (decide (i≤j))):=opB0 fun _ _ _ _ _ _ _ q=>le_int q
theorem op_gt:OpR X (compareOp .Gt) (rI0 fun i j=>.bl (decide (j<i))):=opB0 fun _ _ _ _ _ _ _ q=>gt_int q
theorem op_ge:OpR X (compareOp .GtE) (rI0 fun i j=>.bl (decide (j≤i))):=opB0 fun _ _ _ _ _ _ _ q=>ge_int q
theorem OpR.or {f:Value→Value→Sem Value} {r r':R2} (h:OpR X f r) (h':OpR X f r'):OpR X f (fun x y H Q=>r x y H Q∨r' x y H Q):=by
  intro pins s σ H x y v u Q I rx ry q
  rcases q with q | q
  · exact h pins s σ H x y v u Q I rx ry q
  · exact h' pins s σ H x y v u Q I rx ry q
theorem pe_cmpR {op:CmpOp} {r:R2} (ho:OpR X (compareOp op) r) (ha:PE X a ta) (hb:PE X b tb) (hm:behindInMarks op b=false):PE X (.Compare a [op] [b] pos) (tOp r ta tb):=by
  intro pins s σ H Q I h
  exact wpAny_Compare1 (binT ha hb I h fun v u s2 x y H2 I2 rx ry q=>ho pins s2 σ H2 x y v u Q I2 rx ry q) hm
noncomputable def tTest (t:TE):TT:=fun σ H Q=>t σ H fun x H'=>∃ k,x=.bl k∧Q k H'
theorem pt_cmpR {op:CmpOp} {r:R2} (ho:OpR X (compareOp op) r) (ha:PE X a ta) (hb:PE X b tb) (hm:behindInMarks op b=false):PT X (.Compare a [op] [b] pos) (tTest (tOp r ta tb)):=by
  intro pins s σ H Q I h
  refine wpAny_isTrue_Compare1 (thn (ha pins s σ H _ I h) fun v s1 ⟨x,H1,I1,r1,q1⟩=>thn (hb pins s1 σ H1 _ I1 q1) fun u s2 ⟨y,H2,I2,r2,q2⟩=>
    thn (ho pins s2 σ H2 x y v u _ I2 r1 r2 q2) fun c s3 ⟨z,H3,I3,r3,k,e,q3⟩=>?_) hm
  subst e
  cases r3
  exact wpAny_truthy_bool ⟨H3,I3,q3⟩
noncomputable def tChain (r r':R2) (ta tb tc:TE):TE:=fun σ H Q=>ta σ H fun x H1=>tb σ H1 fun y H2=>r x y H2 fun z H3=>∃ k,z=.bl k ∧
  (if k=true then tc σ H3 fun w' H4=>r' y w' H4 Q else Q (.bl false) H3)
theorem pe_chain {op op':CmpOp} {r r':R2} (ho:OpR X (compareOp op) r) (ho':OpR X (compareOp op') r') (ha:PE X a ta) (hb:PE X b tb) (hc:PE X c tc)
    (hm:lastMarks [op,op'] [b,c]=false:=by with_unfolding_all rfl):PE X (.Compare a [op,op'] [b,c] pos) (tChain r r' ta tb tc):=by
  intro pins s σ H Q I h
  refine Compare_chain (thn (ha pins s σ H _ I h) fun v s1 ⟨x,H1,I1,r1,q1⟩=>chain_link (thn (hb pins s1 σ H1 _ I1 q1) fun u s2 ⟨y,H2,I2,r2,q2⟩=>
    thn (ho pins s2 σ H2 x y v u _ I2 r1 r2 q2) fun d s3 ⟨z,H3,I3,r3,k,e,q3⟩=>?_)) hm
  subst e
  cases r3
  refine wpAny_truthy_bool ?_
  cases k with
  | false=>exact ite_ff ⟨.bl false,H3,I3,rfl,q3⟩
  | true=>exact ite_tt (chain_last (thn (hc pins s3 σ H3 _ I3 q3) fun w' s4 ⟨z',H4,I4,r4,q4⟩=>ho' pins s4 σ H4 y z' u w' Q I4 r2 r4 q4))
theorem pt_chain {op op':CmpOp} {r r':R2} (ho:OpR X (compareOp op) r) (ho':OpR X (compareOp op') r') (ha:PE X a ta) (hb:PE X b tb) (hc:PE X c tc)
    (hm:lastMarks [op,op'] [b,c]=false:=by with_unfolding_all rfl):PT X (.Compare a [op,op'] [b,c] pos) (tTest (tChain r r' ta tb tc)):=by
  intro pins s σ H Q I h
  refine isTrue_chain (thn (ha pins s σ H _ I h) fun v s1 ⟨x,H1,I1,r1,q1⟩=>test_link (thn (hb pins s1 σ H1 _ I1 q1) fun u s2 ⟨y,H2,I2,r2,q2⟩=>
    thn (ho pins s2 σ H2 x y v u _ I2 r1 r2 q2) fun d s3 ⟨z,H3,I3,r3,k,e,q3⟩=>?_)) hm
  subst e
  cases r3
  refine wpAny_truthy_bool ?_
  cases k with
  | false=>
    obtain ⟨k',e',q'⟩:=q3
    cases e'
    exact ite_ff ⟨H3,I3,q'⟩
  | true=>
    refine ite_tt (test_last (thn (hc pins s3 σ H3 _ I3 q3) fun w' s4 ⟨z',H4,I4,r4,q4⟩=>thn (ho' pins s4 σ H4 y z' u w' _ I4 r2 r4 q4) fun d' s5 ⟨z2,H5,I5,r5,k2,e2,q5⟩=>?_))
    subst e2
    cases r5
    exact wpAny_truthy_bool ⟨H5,I5,q5⟩
noncomputable def TruV (K:PySem.W.Frag) (x:V) (H:Hp) (k:Bool):Prop:=
  match x with
  | .non=>k=false
  | .bl b=>k=b
  | .int i=>k=(i != 0)
  | .str y=>y.length≤sizeLine∧k=((y.length:Int) != 0)
  | .byt y=>y.size≤sizeLine∧k=((y.size:Int) != 0)
  | .ref p=>(∃ xs,SqL K H p xs∧k = !xs.isEmpty)∨(∃ xs,SqT K H p xs∧k = !xs.isEmpty)∨∃ kvs,H p=some (.dK kvs)∧k = !kvs.isEmpty
  | _=>False
theorem isEmpty_kv {κ:Type} {kvs:List (κ×V)} {vs:List (κ×Value)} (r:KV kvs vs):(!vs.isEmpty) = !kvs.isEmpty:=by
  cases r <;> rfl
theorem isEmpty_of {xs:List V} {its:List Value} (r:Vals xs its):(!its.toArray.isEmpty) = !xs.isEmpty:=by
  cases r <;> simp
theorem line63:(sizeLine:Nat)<2 ^ 63:=by rw [sizeLine_eq];decide
theorem tru_ok:TruR X (fun x H Q=>∃ k,TruV X.K x H k∧Q k H):=by
  intro pins s σ H x v Q I rx h
  obtain ⟨k,e,q⟩:=h
  have hl:=line63
  have hs:sizeLine=16777216:=sizeLine_eq
  cases x with
  | non=>
    cases rx
    have e':k=false:=e
    subst e'
    exact truthy_none ⟨H,I,q⟩
  | bl b=>
    cases rx
    have e':k=b:=e
    subst e'
    exact wpAny_truthy_bool ⟨H,I,q⟩
  | int i=>
    obtain ⟨t,rfl⟩:=rx
    have e':k=(i != 0):=e
    subst e'
    exact PySem.P.truthy_int ⟨H,I,q⟩
  | str y=>
    obtain ⟨t,rfl⟩:=rx
    obtain ⟨hy,e'⟩:y.length≤sizeLine∧k=((y.length:Int) != 0):=e
    subst e'
    exact PySem.P.truthy_str (by omega) ⟨H,I.tok _,q⟩
  | byt y=>
    obtain ⟨t,rfl⟩:=rx
    obtain ⟨hy,e'⟩:y.size≤sizeLine∧k=((y.size:Int) != 0):=e
    subst e'
    exact PySem.W.truthy_bytes (by omega) ⟨H,I.tok _,q⟩
  | ref p=>
    cases rx
    have e':(∃ xs,SqL X.K H p xs∧k = !xs.isEmpty)∨(∃ xs,SqT X.K H p xs∧k = !xs.isEmpty)∨∃ kvs,H p=some (.dK kvs)∧k = !kvs.isEmpty:=e
    rcases e' with ⟨xs,hx,e'⟩ | ⟨xs,hx,e'⟩ | ⟨kvs,hx,e'⟩
    · subst e'
      obtain ⟨its,r,pl,hz⟩:=I.list hx
      have hlen:=r.length
      exact wpAny_truthy_list pl.isList (by simp only [List.size_toArray];omega) ⟨H,I.tok _,by rw [isEmpty_of r];exact q⟩
    · subst e'
      obtain ⟨its,r,pl,hz⟩:=I.tuple hx
      have hlen:=r.length
      exact truthy_tuple pl (by simp only [List.size_toArray];omega) ⟨H,I.tok _,by rw [isEmpty_of r];exact q⟩
    · subst e'
      obtain ⟨hz,hS,vs,r,m⟩:kvs.length≤sizeLine∧(p == sysModules)=false∧∃ vs,KV kvs vs∧s.heap.DictOf (mixKind X.prog X.w) p vs:=I.hok p _ hx
      have hlen:kvs.length=vs.length:=Paired.length r
      exact wpAny_truthy_dict hS m (by omega) ⟨H,I.tok _,by rw [isEmpty_kv r];exact q⟩
  | _=>exact (show False from e).elim
theorem pt_truth (ha:PE X a ta) (he:∀ whole,isTrue a X.env whole=(do let v ← whole;standAt a.pos;holding [v] (truthy v))) :
    PT X a (fun σ H Q=>ta σ H fun x H'=>∃ k,TruV X.K x H' k∧Q k H'):=by
  intro pins s σ H Q I h
  exact isTrue_plain (thn (ha pins s σ H _ I h) fun v s1 ⟨x,H1,I1,r1,q1⟩=>tru_ok pins s1 σ H1 x v Q I1 r1 q1) (he _)
theorem op_add_str:OpR X (binaryOp .Add) (fun x y H Q=>∃ i j,x=.str i∧y=.str j∧i.length+j.length≤sizeLine∧Q (.str (i++j)) H):=by
  intro pins s σ H x y v u Q I rx ry h
  obtain ⟨i,j,rfl,rfl,hz,q⟩:=h
  obtain ⟨t,rfl⟩:=rx
  obtain ⟨t',rfl⟩:=ry
  exact add_str (fun t' tk=>⟨.str (i++j),H,I.tok _,⟨_,rfl⟩,q⟩) hz
theorem vals1 {x:V} {us:List Value} (r:Vals [x] us):∃ u,us=[u]∧RelV x u:=by
  cases r with
  | cons r1 r2=>cases r2;exact ⟨_,rfl,r1⟩
theorem vals2 {x y:V} {us:List Value} (r:Vals [x,y] us):∃ u w',us=[u,w']∧RelV x u∧RelV y w':=by
  cases r with
  | cons r1 r2=>
    cases r2 with
    | cons r3 r4=>cases r4;exact ⟨_,_,rfl,r1,r3⟩
theorem call_max2 (hc:X.calm=true):CallR X (.builtin "max") (fun xs H Q=>∃ i j,xs=[.int i,.int j]∧Q (.int (if j>i then j else i)) H):=by
  intro pins s σ H xs us Q I r h
  obtain ⟨i,j,rfl,q⟩:=h
  obtain ⟨u,w',rfl,⟨t,rfl⟩,⟨t',rfl⟩⟩:=vals2 r
  refine max_two_ints (I.ok.hd hc) fun h' tk k=>⟨_,H,I.kept k,?_,q⟩
  by_cases hj:j>i
  · rw [if_pos hj,if_pos hj];exact ⟨_,rfl⟩
  · rw [if_neg hj,if_neg hj];exact ⟨_,rfl⟩
theorem call_min2 (hc:X.calm=true):CallR X (.builtin "min") (fun xs H Q=>∃ i j,xs=[.int i,.int j]∧Q (.int (if j<i then j else i)) H):=by
  intro pins s σ H xs us Q I r h
  obtain ⟨i,j,rfl,q⟩:=h
  obtain ⟨u,w',rfl,⟨t,rfl⟩,⟨t',rfl⟩⟩:=vals2 r
  refine min_two_ints (I.ok.hd hc) fun h' tk k=>⟨_,H,I.kept k,?_,q⟩
  by_cases hj:j<i
  · rw [if_pos hj,if_pos hj];exact ⟨_,rfl⟩
  · rw [if_neg hj,if_neg hj];exact ⟨_,rfl⟩
theorem call_int1:CallR X (.type "int") (fun xs H Q=>(∃ i,xs=[.int i]∧Q (.int i) H)∨∃ k,xs=[.bl k]∧Q (.int (if k then 1 else 0)) H):=by
  intro pins s σ H xs us Q I r h
  rcases h with ⟨i,rfl,q⟩ | ⟨k,rfl,q⟩
  · obtain ⟨u,rfl,t,rfl⟩:=vals1 r
    exact call_int_int ⟨.int i,H,I,⟨_,rfl⟩,q⟩
  · obtain ⟨u,rfl,r1⟩:=vals1 r
    cases r1
    exact call_int_bool ⟨.int (if k then 1 else 0),H,I.tok _,⟨_,rfl⟩,q⟩
end
end L2
namespace L2
open PySem PySem.Spec PyProof.Rows
section
variable {prog:Program} {w:World} {A:Around} {E:Value→Shared→Prop} {s:Shared} {K:PySem.W.Frag} {x dx C f:Addr} {mA:Str→Option Value} {name:Str} {v:Value}
end
theorem RelO.some_of {v:V} {o:Option Value} (r:RelO (some v) o):∃ u,o=some u∧RelV v u:=by
  cases o with
  | none=>exact (show False from r).elim
  | some u=>exact ⟨u,rfl,r⟩
section
variable {P:Program} {w:World} {H H':Hp} {h h':Heap} {a C dx:Addr} {fs fs':List (Str×V)}
end
section
variable {X:Cx} {pins:List (Addr×Obj)} {σ:St} {H:Hp} {s:Shared} {a C dx:Addr} {fs:List (Str×V)} {f:Str} {v:V} {A:Around} {E:Value→Shared→Prop}
end
section
variable {X:Cx} {o e value:Expr} {f:Str} {pos pos' tpos:Pos} {ta tv:TE}
end
section
variable {X:Cx} {pins:List (Addr×Obj)} {σ:St} {H:Hp} {s:Shared} {A:Around} {E:Value→Shared→Prop} {Q:Value→Shared→Prop} {c:Value} {b:Bool}
end
end L2
namespace L2
open PySem PySem.Spec PyProof.Rows
structure Room (k:Nat) (A:Around):Prop where
  hd:A.handled=none
  dp:A.depth+3 * k+5<recursionLimit
  un:A.units+16 * k+200<cLine
theorem Room.mono {j k:Nat} {A:Around} (r:Room k A) (h:j≤k):Room j A:=⟨r.hd,by have:=r.dp;omega,by have:=r.un;omega⟩
theorem Room.deeper {k:Nat} {A:Around} (r:Room (k+1) A) (env:Env):Room k (A.deeper env):=
  ⟨r.hd,by have:=r.dp;show A.depth+1+3 * k+5<_;omega,by have:=r.un;show A.units+3+16 * k+200<_;omega⟩
theorem Room.depth {k:Nat} {A:Around} (r:Room k A):A.depth<recursionLimit:=by have:=r.dp;omega
theorem Room.units {k:Nat} {A:Around} (r:Room k A):A.units+64<cLine:=by have:=r.un;omega
noncomputable def tNil:TA:=fun _ H Q=>Q [] H
noncomputable def tCons (ta:TE) (tr:TA):TA:=fun σ H Q=>ta σ H fun x H1=>tr σ H1 fun xs H2=>Q (x::xs) H2
section
variable {X:Cx} {e:Expr} {es:List Expr} {te:TE} {t:TA} {pos:Pos}
theorem pa_nil:PA X [] tNil:=fun _ _ _ _ H Q I h=>Calls.spliced_nil ⟨[],H,I,.nil,h⟩
theorem pa_cons (ha:PE X e te) (hr:PA X es t) (hs:starEach (e::es) X.env=(false,eval e X.env)::starEach es X.env:=by rfl):PA X (e::es) (tCons te t):=by
  intro pos pins s σ H Q I h
  rw [hs]
  show wpAny _ _ (spliced ((false,eval e X.env)::backTo pos (starEach es X.env))) _ _ s
  refine Calls.spliced_cons (thn (ha pins s σ H _ I h) fun u s1 ⟨x,H1,I1,r1,q1⟩=>?_)
  exact thn (hr pos pins s1 σ H1 _ I1 q1) fun us s2 ⟨xs,H2,I2,r2,q2⟩=>⟨x::xs,H2,I2,.cons r1 r2,q2⟩
noncomputable def tTup (t:TA):TE:=fun σ H Q=>t σ H fun xs H1=>xs.length≤sizeLine∧∀ p,H1 p=none→Q (.ref p) (upd H1 p (.tup xs))
noncomputable def tLst (t:TA):TE:=fun σ H Q=>t σ H fun xs H1=>xs.length≤sizeLine∧∀ p,H1 p=none→Q (.ref p) (upd H1 p (.lst xs))
theorem pe_tup {x1} (h:PA X es t):PE X (.Tuple es x1 pos) (tTup t):=by
  intro pins s σ H Q I hq
  refine wpAny_Tuple_spliced (thn (h pos pins s σ H _ I hq) fun us s1 ⟨xs,H1,I1,r,z,q⟩=>⟨by rw [← r.length];exact z,?_⟩)
  have hf:H1 s1.heap.objs.size=none:=I1.hok.fresh (Nat.le_refl _)
  refine ⟨.ref s1.heap.objs.size,upd H1 s1.heap.objs.size (.tup xs),I1.laid (t':=s1.toks) (fun b u e=>Heap.get?_push_of_some _ e) (Nat.le_refl _) ?_,rfl,q _ hf⟩
  exact ⟨z,us,r,⟨_,Heap.get?_push_size _ rfl,rfl,⟨_,rfl⟩,rfl⟩⟩
theorem pe_lst (h:PA X es t):PE X (.List es pos) (tLst t):=by
  intro pins s σ H Q I hq
  refine wpAny_List_spliced (thn (h pos pins s σ H _ I hq) fun us s1 ⟨xs,H1,I1,r,z,q⟩=>⟨by rw [← r.length];exact z,?_⟩)
  have hf:H1 s1.heap.objs.size=none:=I1.hok.fresh (Nat.le_refl _)
  refine ⟨.ref s1.heap.objs.size,upd H1 s1.heap.objs.size (.lst xs),I1.laid (t':=s1.toks) (fun b u e=>Heap.get?_push_of_some _ e) (Nat.le_refl _) ?_,rfl,q _ hf⟩
  exact ⟨z,us,0,r,Heap.get?_push_size _ rfl⟩
end
noncomputable abbrev Sp:=List V→Hp→VK→XK→Prop
noncomputable abbrev CXT:=List Env→Hp→Shared→XK→Value→Shared→Prop
structure Env0 (P:Program) (w:World) (K:PySem.W.Frag) (mg:Str→Option Value) (base:Heap) (A:Around) (outer:List Env) (s:Shared) (H:Hp):Prop where
  frames:A.frames=some outer
  mod:Mod K mg base
  bs:∀ b o,base.get? b=some o→s.heap.get? b=some o∧H b=none
  bsz:base.objs.size≤s.heap.objs.size
  funs:s.heap.FunFrames base outer
  frf:∀ b∈frs outer,H b=none
  hok:HOk P w H s.heap
  bare:AllBare s.gens
noncomputable def CE (outer:List Env) (P:Program) (w:World) (H:Hp) (s:Shared) (Q:VK) (u:Value) (s':Shared):Prop:=
  ∃ v H',s'.os=s.os∧AllBare s'.gens∧Un (frs outer) [] H H' s.heap s'.heap∧HOk P w H' s'.heap∧RelV v u∧Q v H'
noncomputable def CR (CX:CXT) (outer:List Env) (P:Program) (w:World) (H:Hp) (s:Shared) (Q:VK) (E:XK) (r:Result) (s':Shared):Prop:=
  match r with
  | .ok (.ret u)=>CE outer P w H s Q u s'
  | .ok _=>False
  | .error e=>CX outer H s E e s'
structure FnOk (P:Program) (w:World) (K:PySem.W.Frag) (mg:Str→Option Value) (base:Heap) (CX:CXT) (k:Nat) (f:Addr) (fd:FuncData) (ps:List Str) (sp:Sp):Prop where
  len:∀ vs H Q E,sp vs H Q E→vs.length=ps.length
  run:∀ (A:Around) (outer:List Env) (s:Shared) (H:Hp) (args:Args) (us:List Value) (vs:List V) (Q:VK) (E:XK),Room k A→Env0 P w K mg base A outer s H→BindsTo s fd args (ps.zip us)→Vals vs us→sp vs H Q E →
    codeAny (model P w) A (.call (.ref f) args) (CR CX outer P w H s Q E) s
theorem FnOk.mono {P:Program} {w:World} {K:PySem.W.Frag} {mg:Str→Option Value} {base:Heap} {CX:CXT} {j k:Nat} {f:Addr} {fd:FuncData} {ps:List Str} {sp:Sp} (F:FnOk P w K mg base CX j f fd ps sp) (h:j≤k) :
    FnOk P w K mg base CX k f fd ps sp:=⟨F.len,fun A outer s H args us vs Q E hr=>F.run A outer s H args us vs Q E (hr.mono h)⟩
section
variable {X:Cx} {pins:List (Addr×Obj)} {σ:St} {H:Hp} {s s':Shared}
theorem Inv.env0 (I:Inv X pins σ H s):Env0 X.prog X.w X.K X.mg X.base X.A X.stack s H:=
  ⟨I.ok.frames,I.ok.mod,I.bs,Nat.le_trans I.ok.bsz I.sz,I.stack,I.stkFree,I.hok,I.bare⟩
theorem Inv.after {Q:VK} {u:Value} (I:Inv X pins σ H s) (h:CE X.stack X.prog X.w H s Q u s'):EP X pins σ Q u s':=by
  obtain ⟨v,H',os,bare,un,hok,r,q⟩:=h
  obtain ⟨hh,g,d,t,os'⟩:=s'
  obtain rfl:os'=s.os:=os
  exact ⟨v,H',I.call (h':=hh) (g':=g) (d':=d) (t':=t) (ch:=[]) un hok bare (fun b z=>absurd z (by simp)),r,q⟩
end
noncomputable def tCall (sp:Sp) (dvs:List V) (E:XK) (t:TA):TE:=fun σ H Q=>t σ H fun vs H1=>sp (vs++dvs) H1 Q E
noncomputable def Binds (K:PySem.W.Frag) (fd:FuncData) (ps:List Str) (ds:List Value):Prop:=
  ∀ (s:Shared) (us:List Value),K.In s.heap→(us++ds).length=ps.length→BindsTo s fd ⟨us,[]⟩ (ps.zip (us++ds))
theorem Binds.all {K:PySem.W.Frag} {fd:FuncData} {ps:List Str} (h:∀ us:List Value,us.length=ps.length→bindArgs fd ⟨us,[]⟩=pure (ps.zip us)):Binds K fd ps []:=fun s us _ hl=>by
  rw [List.append_nil] at hl ⊢
  exact .of_eq (h us hl)
noncomputable def Passes (CX:CXT) (X:Cx) (E:XK):Prop:=∀ (pins:List (Addr×Obj)) (σ:St) (H:Hp) (s:Shared) (e:Value) (s':Shared),Inv X pins σ H s→CX X.stack H s E e s'→X.xe e s'
section
variable {X:Cx} {CX:CXT} {k:Nat} {f C:Addr} {fd:FuncData} {ps:List Str} {sp:Sp} {dvs:List V} {ds:List Value} {E:XK} {x m:Str} {p pos apos:Pos} {e o:Expr} {es:List Expr} {ta:TE} {t:TA}
theorem run_fn {pins:List (Addr×Obj)} {σ:St} {H:Hp} {s:Shared} {Q:VK} {us:List Value} {vs:List V} (F:FnOk X.prog X.w X.K X.mg X.base CX k f fd ps sp) (hr:Room k X.A) (hb:Binds X.K fd ps ds) (hd:Vals dvs ds) (hx:Passes CX X E)
    (I:Inv X pins σ H s) (r:Vals vs us) (h:sp (vs++dvs) H Q E):wpAny (model X.prog X.w) X.A (call (.ref f) us) (EP X pins σ Q) X.xe s:=by
  have r2:Vals (vs++dvs) (us++ds):=r.append hd
  have hl:(us++ds).length=ps.length:=by rw [← r2.length];exact F.len _ _ _ _ h
  refine wpAny_call (codeAny_mono (F.run X.A X.stack s H ⟨us,[]⟩ (us++ds) (vs++dvs) Q E hr I.env0 (hb s us I.kIn hl) r2 h) fun r s' hq=>?_)
  cases r with
  | error e=>exact hx pins σ H s e s' I hq
  | ok fl=>
    cases fl with
    | ret u=>exact I.after hq
    | next=>exact False.elim hq
    | brk=>exact False.elim hq
    | cont=>exact False.elim hq
theorem pe_call (F:FnOk X.prog X.w X.K X.mg X.base CX k f fd ps sp) (hr:Room k X.A) (hg:Gl X x) (hm:X.mg x=some (.ref f)) (hk:PySem.W.keepIn X.K (.ref f)=true) (hb:Binds X.K fd ps ds) (hd:Vals dvs ds) (hx:Passes CX X E)
    (ha:PA X (e::es) t) (hdb:(x == ("__debug__":Str))=false:=by decide) (he:starEach (e::es) X.env=(false,eval e X.env)::starEach es X.env:=by rfl) (hpl:(backTo pos (starEach es X.env)).any (·.1)=false:=by rfl) :
    PE X (.Call (.Name x p) (e::es) [] pos) (tCall sp dvs E t):=by
  intro pins s σ H Q I h
  refine wpAny_Call_Name_kw (ld_glob I hg hm ?_ hdb)
  refine PySem.W.callWith_K (h₀:=X.base) I.ok.mod.kin hk (thn (ha pos pins s σ H _ I h) fun us s1 ⟨vs,H1,I1,r,q⟩=>⟨I1.kIn,?_⟩) he hpl
  exact run_fn F hr hb hd hx I1 r q
theorem pe_call0 (F:FnOk X.prog X.w X.K X.mg X.base CX k f fd ps sp) (hr:Room k X.A) (hg:Gl X x) (hm:X.mg x=some (.ref f)) (hk:PySem.W.keepIn X.K (.ref f)=true) (hb:Binds X.K fd ps ds) (hd:Vals dvs ds) (hx:Passes CX X E)
    (hdb:(x == ("__debug__":Str))=false:=by decide):PE X (.Call (.Name x p) [] [] pos) (tCall sp dvs E tNil):=by
  intro pins s σ H Q I h
  refine wpAny_Call_Name_kw (ld_glob I hg hm ?_ hdb)
  exact PySem.W.callWith_K0 I.kIn hk (run_fn (us:=[]) F hr hb hd hx I .nil h)
end
section
variable {X:Cx} {CX:CXT} {k:Nat} {f C:Addr} {fd:FuncData} {ps ks:List Str} {sp:Sp} {E:XK} {x m:Str} {p pos apos kpos:Pos} {e o:Expr} {es:List Expr} {kws:List Keyword} {te ta:TE} {t tk:TA} {nm:Option Str}
variable {g:List Value→List Value→List Value} {gV:List V→List V→List V}
end
structure FnScope (N P:List Str) (sc:Scope):Prop where
  kind:sc.kind=.function
  co:sc.isCoroutine=false
  gen:sc.isGenerator=false
  nd:N.Nodup
  pre:N.take P.length=P
  par:∀ x∈P,sc.names.lookup x=some .local∨sc.names.lookup x=some .cell
  nofree:∀ y∈sc.names,y.2≠.free
theorem bindL_out {kindOf:Str→Option NameKind} {x:Str}:∀ {binds:List (Str×Value)} {m:Str→Option Value},(∀ v,(x,v) ∉ binds)→bindL kindOf binds m x=m x
  | [],_,_=>rfl
  | (n,v)::r,m,h=>by
    unfold bindL
    rw [bindL_out fun w hw=>h w (List.mem_cons_of_mem _ hw)]
    split
    · have:x≠n:=by rintro rfl;exact h v List.mem_cons_self
      simp [this]
    · rfl
theorem bindC_out {kindOf:Str→Option NameKind} {x:Str}:∀ {binds:List (Str×Value)} {m:Str→Option Value},(∀ v,(x,v) ∉ binds)→bindC kindOf binds m x=m x
  | [],_,_=>rfl
  | (n,v)::r,m,h=>by
    unfold bindC
    rw [bindC_out fun w hw=>h w (List.mem_cons_of_mem _ hw)]
    split
    · rfl
    · have:x≠n:=by rintro rfl;exact h v List.mem_cons_self
      simp [this]
theorem bindL_get {kindOf:Str→Option NameKind} {x:Str} {v:Value}:∀ {P:List Str} {vs:List Value} {i:Nat} {m:Str→Option Value},P.Nodup→P[i]?=some x→vs[i]?=some v→kindOf x=some .local →
    bindL kindOf (P.zip vs) m x=some v
  | [],_,_,_,_,h,_,_=>by simp at h
  | _::_,[],_,_,_,_,h,_=>by simp at h
  | p::P,w::vs,0,m,nd,h1,h2,hk=>by
    simp at h1 h2;subst h1;subst h2
    show bindL kindOf ((p,w)::P.zip vs) m p=_
    unfold bindL
    rw [bindL_out fun v hv=>(List.nodup_cons.mp nd).1 (List.of_mem_zip hv).1,if_pos hk]
    simp
  | p::P,w::vs,i+1,m,nd,h1,h2,hk=>by
    show bindL kindOf ((p,w)::P.zip vs) m x=_
    unfold bindL
    exact bindL_get (i:=i) (List.nodup_cons.mp nd).2 (by simpa using h1) (by simpa using h2) hk
theorem bindC_get {kindOf:Str→Option NameKind} {x:Str} {v:Value}:∀ {P:List Str} {vs:List Value} {i:Nat} {m:Str→Option Value},P.Nodup→P[i]?=some x→vs[i]?=some v→kindOf x≠some .local →
    bindC kindOf (P.zip vs) m x=some v
  | [],_,_,_,_,h,_,_=>by simp at h
  | _::_,[],_,_,_,_,h,_=>by simp at h
  | p::P,w::vs,0,m,nd,h1,h2,hk=>by
    simp at h1 h2;subst h1;subst h2
    show bindC kindOf ((p,w)::P.zip vs) m p=_
    unfold bindC
    rw [bindC_out fun v hv=>(List.nodup_cons.mp nd).1 (List.of_mem_zip hv).1,if_neg hk]
    simp
  | p::P,w::vs,i+1,m,nd,h1,h2,hk=>by
    show bindC kindOf ((p,w)::P.zip vs) m x=_
    unfold bindC
    exact bindC_get (i:=i) (List.nodup_cons.mp nd).2 (by simpa using h1) (by simpa using h2) hk
noncomputable def start (N:List Str) (vs:List V):St:=vs.map some++List.replicate (N.length - vs.length) none
noncomputable def cxOf (CX:CXT) (P:Program) (w:World) (K:PySem.W.Frag) (mg:Str→Option Value) (base:Heap) (N:List Str) (qual:Str) (scope:Scope) (f:Addr) (cd:Value) (A:Around) (outer:List Env) (s:Shared) (H:Hp) (E:XK):Cx where
  prog:=P
  w:=w
  K:=K
  mg:=mg
  base:=base
  A:=A.deeper (envOfC qual scope s.heap.objs.size f cd)
  N:=N
  s₀:=s
  H₀:=H
  env:=envOfC qual scope s.heap.objs.size f cd
  outer:=outer
  stack:=envOfC qual scope s.heap.objs.size f cd::outer
  ex:=[]
  calm:=true
  fn:=fun _=>true
  pn:=[]
  xe:=fun e s'=>wpAny (model P w) (A.deeper (envOfC qual scope s.heap.objs.size f cd)) (leaving (envOfC qual scope s.heap.objs.size f cd) e) (fun _ s''=>CX outer H s E e s'') (fun e' s''=>CX outer H s E e' s'') s'
theorem cell_has {sc:Scope} {n:Nat} {x:Str} (h:sc.names.lookup x=some .cell):∃ c,(cellsFrom n sc.names []).lookup x=some c:=by
  have q:=PySem.W.cellsFrom_some sc.names n [] (.inl h)
  exact Option.isSome_iff_exists.mp q
theorem inv_start {CX:CXT} {P:Program} {w:World} {K:PySem.W.Frag} {mg:Str→Option Value} {base:Heap} {N ps:List Str} {qual:Str} {scope:Scope} {f:Addr} {cd:Value} {A:Around} {outer:List Env} {s s1:Shared} {H:Hp} {E:XK} {us:List Value} {vs:List V}
    (S:FnScope N ps scope) (hd:A.handled=none) (e0:Env0 P w K mg base A outer s H) (hl:vs.length=ps.length) (r:Vals vs us)
    (x:InCallC s s.heap.objs.size (bindL (envOfC qual scope s.heap.objs.size f cd).kindOf (ps.zip us) fun _=>none) (cellsFrom (s.heap.objs.size+1) scope.names []) (bindC (envOfC qual scope s.heap.objs.size f cd).kindOf (ps.zip us) fun _=>none) s1) :
    Inv (cxOf CX P w K mg base N qual scope f cd A outer s H E) [] (start N vs) H s1:=by
  have hpl:ps.length≤N.length:=by have:=congrArg List.length S.pre;rw [List.length_take] at this;omega
  obtain ⟨h1,tk,rfl,hk⟩:=x.done
  have noA:∀ b:Addr,b ∉ (cxOf CX P w K mg base N qual scope f cd A outer s H E).ex:=fun b z=>absurd (show b∈([]:List Addr) from z) (by simp)
  refine ⟨⟨e0.mod,S.kind,rfl,rfl,Nat.le_refl _,fun y z c h1 h2=>?_,fun y hy=>?_,fun y c _ h=>?_,fun _=>hd,Around.frames_deeper e0.frames,.inr ⟨rfl,rfl⟩,fun b z=>absurd z (noA b),e0.bs,e0.bsz,fun b _ _=>noA b,fun b z=>absurd z (noA b),e0.funs,e0.frf⟩,
    rfl,e0.bare,Un.kept hk,⟨_,x.toInCall.ns,fun i y v h1 h2 h3=>?_⟩,fun y c h=>⟨_,x.cell y c h⟩,e0.hok.fresh (Nat.le_refl _),fun y c h=>?_,fun p hp=>absurd (show p∈([]:List (Addr×Obj)) from hp) (by simp),e0.hok.kept hk,?_⟩
  · exact name_of_addr x.apart (PySem.mem_of_lookup h1) (PySem.mem_of_lookup h2)
  · have hy:scope.names.lookup y=some .cell∨scope.names.lookup y=some .free:=hy
    rcases hy with hy | hy
    · exact cell_has hy
    · exact absurd rfl (S.nofree _ (PySem.mem_of_lookup hy))
  · exact Nat.le_of_lt (x.above y c (PySem.mem_of_lookup h))
  · have hi:i<vs.length:=by
      unfold start at h2
      by_cases hi:i<vs.length
      · exact hi
      · rw [List.getElem?_append_right (by simpa using hi)] at h2
        rw [List.getElem?_replicate] at h2
        split at h2 <;> cases h2
    have ha:vs[i]?=some v:=by
      unfold start at h2
      rw [List.getElem?_append_left (by simpa using hi),List.getElem?_map] at h2
      cases e:vs[i]? with
      | none=>rw [e] at h2;cases h2
      | some a=>rw [e] at h2;cases h2;rfl
    obtain ⟨u,hu,rv⟩:=r.get ha
    have hp:ps[i]?=some y:=by
      rw [← S.pre,List.getElem?_take_of_lt (by omega)];exact h1
    have ndP:ps.Nodup:=by rw [← S.pre];exact S.nd.sublist (List.take_sublist _ _)
    refine ⟨u,rv,?_⟩
    rcases S.par y (List.mem_of_getElem? hp) with k | k
    · exact .inl ⟨k,bindL_get ndP hp hu k⟩
    · obtain ⟨c,e⟩:=cell_has (n:=s.heap.objs.size+1) k
      refine .inr ⟨.inl k,c,e,?_⟩
      have q:=x.cell y c e
      rw [bindC_get ndP hp hu (by show scope.names.lookup y≠_;rw [k];decide)] at q
      exact q
  · exact e0.hok.fresh (Nat.le_of_lt (x.above y c (PySem.mem_of_lookup h)))
  · unfold start
    show _=N.length
    rw [List.length_append,List.length_map,List.length_replicate]
    omega
theorem fn_of {CX:CXT} {P:Program} {w:World} {K:PySem.W.Frag} {mg:Str→Option Value} {base:Heap} {k:Nat} {f:Addr} {name qual:Str} {params:Arguments} {body:List Stmt} {scope:Scope} {dV kV doc pm cdv ct oc:Value} {an od:Option Addr}
    {osl:Array (Option Value)} {N ps:List Str} {sp:Sp} (lk:K.lookup f=some ⟨oc,od,.func (PySem.W.fnOf name qual params body scope dV kV doc pm an cdv ct),osl⟩) (hcd:PySem.W.codeIn K cdv qual=true) (S:FnScope N ps scope)
    (len:∀ vs H Q E,sp vs H Q E→vs.length=ps.length)
    (hbody:∀ (A:Around) (outer:List Env) (s:Shared) (H:Hp) (vs:List V) (Q:VK) (E:XK),Room k (A.deeper (envOfC qual scope s.heap.objs.size f cdv))→sp vs H Q E →
      ∃ t,PSs (cxOf CX P w K mg base N qual scope f cdv A outer s H E) body t∧t { nx:=fun _ H'=>Q .non H',rt:=Q } (start N vs) H) :
    FnOk P w K mg base CX (k+1) f (PySem.W.fnOf name qual params body scope dV kV doc pm an cdv ct) ps sp:=by
  refine ⟨len,fun A outer s H args us vs Q E hr e0 hb r hsp=>?_⟩
  have hl:=len _ _ _ _ hsp
  have KX:K.In s.heap:=e0.mod.kin.keeps fun b o e=>(e0.bs b o e).1
  have lim:s.heap.NoLimit:=e0.mod.nolimit.keeps fun b o e=>(e0.bs b o e).1
  have hkind:∀ y∈ps.zip us,scope.names.lookup y.1=some .local∨(scope.names.lookup y.1=some .cell∧((cellsFrom (s.heap.objs.size+1) scope.names []).lookup y.1).isSome=true):=fun ⟨n,v⟩ hy=>by
    rcases S.par n (List.of_mem_zip hy).1 with q | q
    · exact .inl q
    · exact .inr ⟨q,PySem.W.cellsFrom_some _ _ _ (.inl q)⟩
  refine codeAny_call_function hr.depth (KX _ _ lk) rfl S.co S.gen rfl (PySem.W.codeRec_of KX hcd) (hb _ _ _ _ ?_)
  refine wpAny_newFunctionEnv_cells S.kind hkind fun env he s1 x=>?_
  subst he
  refine ⟨lim.keeps x.toInCall.keep,codeAny_func ?_⟩
  obtain ⟨t,ht,hq⟩:=hbody A outer s H vs Q E (hr.deeper _) hsp
  have I:Inv (cxOf CX P w K mg base N qual scope f cdv A outer s H E) [] (start N vs) H s1:=inv_start S hr.hd e0 hl r x
  refine wpAny_mono (ht [] s1 (start N vs) H _ I hq) (fun fl s' hs=>?_) fun e s' hs=>hs
  have fin:∀ {σ':St} {H':Hp} {v:V} {u:Value},Inv (cxOf CX P w K mg base N qual scope f cdv A outer s H E) [] σ' H' s'→RelV v u→Q v H'→CE outer P w H s Q u s':=
    fun {σ' H' v u} J rv q=>⟨v,H',J.os,J.bare,J.base,J.hok,rv,q⟩
  cases fl with
  | ret u=>
    obtain ⟨v,σ',H',J,rv,q⟩:=hs
    exact fin J rv q
  | next=>
    obtain ⟨σ',H',J,q⟩:=hs
    exact fin (v:=V.non) (u:=Value.none) J rfl q
  | brk=>
    obtain ⟨_,_,_,q⟩:=hs
    exact False.elim q
  | cont=>
    obtain ⟨_,_,_,q⟩:=hs
    exact False.elim q
end L2
namespace L2
open PySem PySem.Spec PyProof.Rows
section
variable {X:Cx} {x:Str} {p pos:Pos} {e:Expr} {es:List Expr} {t:TA} {id T:String} {r:List V→Hp→VK→Prop}
noncomputable def tCB (r:List V→Hp→VK→Prop) (t:TA):TE:=fun σ H Q=>t σ H fun vs H1=>r vs H1 Q
theorem pe_callB (hc:CallR X (.builtin id) r) (hg:Gl X x) (hm:X.mg x=none) (hv:bootBuiltins x=some (.builtin id)) (ha:PA X (e::es) t) (hn:x ≠ "__name__":=by decide) (hdb:(x == ("__debug__":Str))=false:=by decide)
    (he:starEach (e::es) X.env=(false,eval e X.env)::starEach es X.env:=by rfl) (hpl:(backTo pos (starEach es X.env)).any (·.1)=false:=by rfl):PE X (.Call (.Name x p) (e::es) [] pos) (tCB r t):=by
  intro pins s σ H Q I h
  refine wpAny_Call_Name_kw (ld_blt I hg hm hv ?_ hn hdb)
  exact PyProof.Rows.callWith_builtin1 (thn (ha pos pins s σ H _ I h) fun us s1 ⟨vs,H1,I1,r1,q1⟩=>hc pins s1 σ H1 vs us Q I1 r1 q1) he hpl
theorem pe_callTy (hc:CallR X (.type T) r) (hg:Gl X x) (hm:X.mg x=none) (hv:bootBuiltins x=some (.type T)) (ha:PA X (e::es) t) (hn:x ≠ "__name__":=by decide) (hdb:(x == ("__debug__":Str))=false:=by decide)
    (he:starEach (e::es) X.env=(false,eval e X.env)::starEach es X.env:=by rfl) (hpl:(backTo pos (starEach es X.env)).any (·.1)=false:=by rfl):PE X (.Call (.Name x p) (e::es) [] pos) (tCB r t):=by
  intro pins s σ H Q I h
  refine wpAny_Call_Name_kw (ld_blt I hg hm hv ?_ hn hdb)
  exact PyProof.Rows.callWith_type1 (thn (ha pos pins s σ H _ I h) fun us s1 ⟨vs,H1,I1,r1,q1⟩=>hc pins s1 σ H1 vs us Q I1 r1 q1) he hpl
end
end L2
namespace HT
open PySem PyProof.Rows
section
open PySem.SeqAt
open PySem.AutoSeq1 (wpAny_loadPart')
open PySem.MeetsSeq PySem.MeetsSeq2 PySem.MeetsSeq3
end
section
variable {prog:Program} {w:World} {A:Around} {E:Value→Shared→Prop} {s:Shared}
theorem cat_tup {t b:Addr} {vs ws:List Value} {Q:Value→Shared→Prop} (ht:IsTup s.heap t vs.toArray) (hb:IsTup s.heap b ws.toArray) (hv:vs≠[])
    (h1:ws=[]→Q (.ref t) s) (h2:ws≠[]→Q (.ref s.heap.objs.size) { s with heap:=s.heap.push { cls:=.type "tuple",data:=.seq (vs++ws).toArray } })
    (hsz:vs.length+ws.length≤sizeLine):wpAny (model prog w) A (binaryOp .Add (.ref t) (.ref b)) Q E s:=by
  obtain ⟨⟨cls,dd,data,sl⟩,ho,hc,n,hd⟩:=id ht
  obtain ⟨⟨cls2,dd2,data2,sl2⟩,ho2,hc2,n2,hd2⟩:=id hb
  simp only at hc hd hc2 hd2
  subst hc hd hc2 hd2
  have e:vs.toArray++ws.toArray=(vs++ws).toArray:=by simp
  by_cases hw:ws=[]
  · exact concat_meets ⟨_,ho,rfl⟩ ⟨_,ho2,rfl⟩ noFill_tuple_add seq_tuple_add PySem.F.slot_tuple_add PySem.F.entry_tuple_add (PySem.F.args_tuple_add_2 _ _)
      (tuple_addW1 t b vs.toArray ws.toArray n n2 dd dd2 sl sl2 (by simpa using hv) (by simp [hw])) ⟨ho,ho2,h1 hw⟩
  · refine concat_meets ⟨_,ho,rfl⟩ ⟨_,ho2,rfl⟩ noFill_tuple_add seq_tuple_add PySem.F.slot_tuple_add PySem.F.entry_tuple_add (PySem.F.args_tuple_add_2 _ _)
      (tuple_addW2 t b vs.toArray ws.toArray n n2 dd dd2 sl sl2 (by simpa using hv) (by simpa using hw) (by rw [List.size_toArray,List.size_toArray];exact hsz)) ⟨ho,ho2,?_⟩
    rw [e]
    exact h2 hw
noncomputable def sIx (n d:Nat):Option Int→Nat
  | none=>d
  | some v=>if v<0 then (v+(n:Int)).toNat else min v.toNat n
theorem sIx_nat (n d k:Nat):sIx n d (some (k:Int))=min k n:=by
  show (if (k:Int)<0 then ((k:Int)+(n:Int)).toNat else min (k:Int).toNat n)=min k n
  rw [if_neg (by omega),Int.toNat_natCast]
theorem sIx_le (n d:Nat) (hd:d≤n) (o:Option Int):sIx n d o≤n:=by
  cases o with
  | none=>exact hd
  | some v=>
    show (if v<0 then (v+(n:Int)).toNat else min v.toNat n)≤n
    by_cases hv:v<0
    · rw [if_pos hv];omega
    · rw [if_neg hv];exact Nat.min_le_right _ _
theorem clip_eq (v:Int) (n d:Nat):(if v<0 then max (v+(n:Int)) 0 else min v (n:Int))=((sIx n d (some v):Nat):Int):=by
  show (if v<0 then max (v+(n:Int)) 0 else min v (n:Int))=(((if v<0 then (v+(n:Int)).toNat else min v.toNat n):Nat):Int)
  by_cases hv:v<0
  · simp only [if_pos hv];omega
  · simp only [if_neg hv];omega
theorem adjust_gen (lo hi:Option Int) (n:Nat):Builtin.Slice.sliceAdjust lo hi 1 (n:Int)=(((sIx n 0 lo:Nat):Int),((sIx n n hi:Nat):Int)):=by
  have h1:¬ ((1:Int)<0):=by omega
  unfold Builtin.Slice.sliceAdjust
  simp only [h1,if_false]
  refine Prod.ext ?_ ?_
  · cases lo with
    | none=>rfl
    | some v=>exact clip_eq v n 0
  · cases hi with
    | none=>rfl
    | some v=>exact clip_eq v n n
theorem places_gen (i j:Nat):Builtin.Slice.slicePlaces (i:Int) (j:Int) 1=j - i:=by
  unfold Builtin.Slice.slicePlaces
  have h1:(1:Int)>0:=by omega
  simp only [h1,if_true,Int.ediv_one]
  split <;> omega
theorem slicePart_ {v:Value} {o:Option Int} {Q:Option Int→Shared→Prop} (p:IsPart v o) (h:Q o s):wpAny (model prog w) A (Builtin.Slice.slicePartIndex v) Q E s:=by
  cases p with
  | none=>exact slicePart_none h
  | int i t=>exact slicePart_int h
theorem sliceApplied_gen {sl:Addr} {vl vu:Value} {lo hi:Option Int} {n:Nat} {Q:Int×Int×Nat→Shared→Prop} (hs:s.heap.IsSliceOf sl vl vu .none) (pl:IsPart vl lo) (pu:IsPart vu hi)
    (h:Q (((sIx n 0 lo:Nat):Int),1,sIx n n hi - sIx n 0 lo) s):wpAny (model prog w) A (Builtin.Slice.sliceApplied (.ref sl) (pure (n:Int))) Q E s:=by
  obtain ⟨os,hos,hcs,hds⟩:=id hs
  unfold Builtin.Slice.sliceApplied Builtin.Slice.sliceFields
  refine wpAny_bind (wpAny_bind (wpAny_field hos hds (x:=vl) rfl (wpAny_bind (wpAny_field hos hds (x:=vu) rfl (wpAny_bind (wpAny_field hos hds (x:=.none) rfl (wpAny_pure ?_)))))))
  refine wpAny_bind (slicePart_none ?_)
  show wpAny _ _ (if ((1:Int) == 0)=true then _ else _) _ _ s
  rw [if_neg (by decide)]
  refine wpAny_bind (slicePart_ pl (wpAny_bind (slicePart_ pu (wpAny_bind (wpAny_pure ?_)))))
  show wpAny _ _ (match Builtin.Slice.sliceAdjust lo hi 1 (n:Int) with | (lo,hi)=>pure (lo,(1:Int),Builtin.Slice.slicePlaces lo hi 1)) _ _ s
  rw [adjust_gen lo hi n]
  show wpAny _ _ (pure (((sIx n 0 lo:Nat):Int),(1:Int),Builtin.Slice.slicePlaces ((sIx n 0 lo:Nat):Int) ((sIx n n hi:Nat):Int) 1)) _ _ s
  rw [places_gen]
  exact wpAny_pure h
theorem pick_gen (xs:Array Value) (i k:Nat):((List.range k).filterMap fun (m:Nat)=>xs[((i:Int)+(m:Int) * 1).toNat]?).toArray=((xs.toList.drop i).take k).toArray:=by
  have e:(fun (m:Nat)=>xs[((i:Int)+(m:Int) * 1).toNat]?)=fun m=>xs[i+m]?:=by
    funext m
    have:((i:Int)+(m:Int) * 1).toNat=i+m:=by omega
    rw [this]
  rw [e]
  have:=pick_run xs i k
  rw [List.filterMap_map] at this
  have e2:((fun x=>xs[x]?) ∘ fun x=>i+x)=fun m=>xs[i+m]?:=rfl
  rw [e2] at this
  rw [this]
theorem getItem_tuple_cut {t sl:Addr} {items:Array Value} {vl vu:Value} {lo hi:Option Int} {Q:Value→Shared→Prop} (ht:IsTup s.heap t items) (hs:s.heap.IsSliceOf sl vl vu .none) (pl:IsPart vl lo) (pu:IsPart vu hi)
    (hw:¬ (sIx items.size 0 lo=0∧sIx items.size items.size hi=items.size))
    (h:Q (.ref s.heap.objs.size) { s with heap:=s.heap.push { cls:=.type "tuple",data:=.seq ((items.toList.drop (sIx items.size 0 lo)).take (sIx items.size items.size hi - sIx items.size 0 lo)).toArray } })
    (hsz:items.size≤sizeLine):wpAny (model prog w) A (getItem (.ref t) (.ref sl)) Q E s:=by
  have htake:sizeOk (.seq ((items.toList.drop (sIx items.size 0 lo)).take (sIx items.size items.size hi - sIx items.size 0 lo)).toArray):=by
    show ((items.toList.drop (sIx items.size 0 lo)).take (sIx items.size items.size hi - sIx items.size 0 lo)).toArray.size≤sizeLine
    rw [List.size_toArray,List.length_take,List.length_drop,Array.length_toList]
    omega
  have hj:sIx items.size items.size hi≤items.size:=sIx_le _ _ (Nat.le_refl _) hi
  obtain ⟨os,hos,hcs,hds⟩:=id hs
  have hTs:s.TypeIs (.ref sl) "slice":=⟨os,hos,hcs⟩
  unfold getItem
  try with_reducible refine wpAny_holding ?_
  first | refine wpAny_bind (wpAny_pure ?_) | skip
  refine wpAny_bind (wpAny_sequenceKey ht.typeIs (by decide) ?_)
  refine wpAny_bind (wpAny_callSpecial?_slot (name:=Str.ofString "__getitem__") ht.typeIs PyProof.Rows.slot_tuple_getitem
    (wpAny_call_entry PyProof.Rows.slot_tuple_getitem ht.typeIs entry_tuple_getitem ?_ (args_tuple_getitem _ _)))
  show wpAny _ _ (Builtin.Tuple.tupleItemsOf (.ref t) >>= _) _ _ s
  refine wpAny_bind (tupleItemsOf_ ht ?_)
  refine wpAny_bind (wpAny_typeOf hTs ?_)
  rw [if_pos (by decide)]
  refine wpAny_bind (sliceApplied_gen hs pl pu ?_)
  have hno:¬ ((((sIx items.size 0 lo:Nat):Int) == 0&&(1:Int) == 1&&(sIx items.size items.size hi - sIx items.size 0 lo) == items.size)=true):=by
    intro q
    rw [Bool.and_eq_true,Bool.and_eq_true] at q
    have q1:((sIx items.size 0 lo:Nat):Int)=0:=eq_of_beq q.1.1
    have q2:sIx items.size items.size hi - sIx items.size 0 lo=items.size:=eq_of_beq q.2
    exact hw ⟨by omega,by omega⟩
  show wpAny _ _ (if (((sIx items.size 0 lo:Nat):Int) == 0&&(1:Int) == 1&&(sIx items.size items.size hi - sIx items.size 0 lo) == items.size)=true then _ else _) _ _ s
  rw [if_neg hno,pick_gen]
  first
    | exact wpAny_bind (m:=Builtin.Tuple.tupleExact _) (wpAny_newObj_type (wpAny_pure ⟨_,rfl,wpAny_pure h⟩) htake)
    | exact wpAny_bind (m:=Builtin.Tuple.tupleExact _) (wpAny_newObj_type (wpAny_bind (wpAny_pure (wpAny_pure ⟨_,rfl,wpAny_pure h⟩))) htake)
    | exact wpAny_bind (wpAny_bind (m:=Builtin.Tuple.tupleExact _) (wpAny_newObj_type (wpAny_pure (wpAny_pure ⟨_,rfl,wpAny_pure h⟩)) htake))
    | exact wpAny_bind (wpAny_bind (m:=Builtin.Tuple.tupleExact _) (wpAny_newObj_type (wpAny_pure ⟨_,rfl,wpAny_pure h⟩) htake))
end
end HT
namespace L2
open PySem PySem.Spec PyProof.Rows
noncomputable abbrev TO:=St→Hp→(Option Int→Hp→Prop)→Prop
noncomputable def PO (X:Cx) (e:Option Expr) (t:TO):Prop:=
  ∀ (pins:List (Addr×Obj)) (s:Shared) (σ:St) (H:Hp) (Q:Option Int→Hp→Prop),Inv X pins σ H s→t σ H Q →
    wpAny (model X.prog X.w) X.A (evalPart e X.env) (fun u s'=>∃ o H',Inv X pins σ H' s'∧IsPart u o∧Q o H') X.xe s
noncomputable def tNoPart:TO:=fun _ H Q=>Q none H
noncomputable def tPart (t:TE):TO:=fun σ H Q=>t σ H fun x H1=>∃ i,x=.int i∧Q (some i) H1
section
variable {X:Cx} {e:Expr} {te:TE} {lo hi:Option Expr} {tl th:TO} {pos p2:Pos}
theorem po_none:PO X none tNoPart:=by
  intro pins s σ H Q I h
  rw [evalPart_none]
  exact wpAny_pure ⟨none,H,I,.none,h⟩
theorem po_some (h:PE X e te):PO X (some e) (tPart te):=by
  intro pins s σ H Q I hw
  rw [evalPart_some]
  refine thn (h pins s σ H _ I hw) fun u s1 ⟨x,H1,I1,r1,q1⟩=>?_
  obtain ⟨i,rfl,q⟩:=q1
  obtain ⟨t,rfl⟩:=r1
  exact ⟨some i,H1,I1,.int i t,q⟩
noncomputable def SlR (X:Cx) (r:V→Option Int→Option Int→Hp→VK→Prop):Prop:=
  ∀ (pins:List (Addr×Obj)) (s:Shared) (σ:St) (H:Hp) (x:V) (v vl vu:Value) (lo hi:Option Int) (sl:Addr) (Q:VK),Inv X pins σ H s→RelV x v→s.heap.IsSliceOf sl vl vu .none→IsPart vl lo→IsPart vu hi→r x lo hi H Q →
    ∃ T id,typeLookup (.type T) "__getitem__" = pure (some (.builtin id))∧s.TypeIs v T∧wpAny (model X.prog X.w) X.A (getItem v (.ref sl)) (EP X pins σ Q) X.xe s
theorem SlR.or {r r':V→Option Int→Option Int→Hp→VK→Prop} (h:SlR X r) (h':SlR X r'):SlR X (fun x lo hi H Q=>r x lo hi H Q∨r' x lo hi H Q):=by
  intro pins s σ H x v vl vu lo hi sl Q I rx hs pl pu q
  rcases q with q | q
  · exact h pins s σ H x v vl vu lo hi sl Q I rx hs pl pu q
  · exact h' pins s σ H x v vl vu lo hi sl Q I rx hs pl pu q
noncomputable def tSl (r:V→Option Int→Option Int→Hp→VK→Prop) (te:TE) (tl th:TO):TE:=fun σ H Q=>te σ H fun x H1=>tl σ H1 fun l H2=>th σ H2 fun u H3=>r x l u H3 Q
theorem pe_slice {r:V→Option Int→Option Int→Hp→VK→Prop} (hr:SlR X r) (he:PE X e te) (hl:PO X lo tl) (hu:PO X hi th):PE X (.Subscript e (.Slice lo hi none p2) pos) (tSl r te tl th):=by
  intro pins s σ H Q I h
  refine Subscript_ (thn (he pins s σ H _ I h) fun v s1 ⟨x,H1,I1,r1,q1⟩=>?_)
  refine wpAny_Slice (thn (hl pins s1 σ H1 _ I1 q1) fun vl s2 ⟨l,H2,I2,pl,q2⟩=>thn (hu pins s2 σ H2 _ I2 q2) fun vu s3 ⟨u,H3,I3,pu,q3⟩=>?_)
  rw [evalPart_none]
  refine wpAny_pure ?_
  have I4:Inv X pins σ H3 { s3 with heap:=s3.heap.push { cls:=.type "slice",data:=.fields #[vl,vu,.none] } }:=I3.kept (t':=s3.toks) fun b ob q=>Heap.get?_push_of_some _ q
  obtain ⟨T,id,hT,ht,hg⟩:=hr pins { s3 with heap:=s3.heap.push { cls:=.type "slice",data:=.fields #[vl,vu,.none] } } σ H3 x v vl vu l u s3.heap.objs.size Q I4 r1 (Heap.IsSliceOf.new ..) pl pu q3
  show wpAny (model X.prog X.w) X.A (subscriptTail e (.Slice lo hi none p2) v (.ref s3.heap.objs.size)) (EP X pins σ Q) X.xe { s3 with heap:=s3.heap.push { cls:=.type "slice",data:=.fields #[vl,vu,.none] } }
  exact tail_any (ops:=[.ref s3.heap.objs.size,v]) ht hT hg (by with_unfolding_all rfl)
noncomputable def cutV (xs:List V) (lo hi:Option Int):List V:=(xs.drop (HT.sIx xs.length 0 lo)).take (HT.sIx xs.length xs.length hi - HT.sIx xs.length 0 lo)
theorem cutV_length (xs:List V) (lo hi:Option Int):(cutV xs lo hi).length≤xs.length:=by
  unfold cutV
  rw [List.length_take,List.length_drop]
  omega
noncomputable def rSlT (K:PySem.W.Frag):V→Option Int→Option Int→Hp→VK→Prop:=fun x lo hi H Q=>∃ a xs,x=.ref a∧SqT K H a xs ∧
  ¬ (HT.sIx xs.length 0 lo=0∧HT.sIx xs.length xs.length hi=xs.length)∧∀ p,H p=none→Q (.ref p) (upd H p (.tup (cutV xs lo hi)))
theorem sl_tup:SlR X (rSlT X.K):=by
  intro pins s σ H x v vl vu lo hi sl Q I rx hs pl pu h
  obtain ⟨a,xs,rfl,hx,hw,q⟩:=h
  cases rx
  obtain ⟨its,r,ht,hz⟩:=I.tuple hx
  have hlen:its.toArray.size=xs.length:=by rw [List.size_toArray];exact r.length.symm
  refine ⟨"tuple",_,PyProof.Rows.slot_tuple_getitem.lookup,ht.typeIs,?_⟩
  refine HT.getItem_tuple_cut ht hs pl pu (by rw [hlen];exact hw) ?_ (by rw [hlen];exact hz)
  rw [hlen]
  refine ⟨.ref s.heap.objs.size,_,I.laid (t':=s.toks) (o:=.tup (cutV xs lo hi)) (fun b ob q=>Heap.get?_push_of_some _ q) (Nat.le_refl _) ?_,rfl,q _ (I.hok.fresh (Nat.le_refl _))⟩
  exact ⟨Nat.le_trans (cutV_length xs lo hi) hz,_,(r.drop (HT.sIx xs.length 0 lo)).take (HT.sIx xs.length xs.length hi - HT.sIx xs.length 0 lo),IsTupN.new _ _⟩
noncomputable def rCatT (K:PySem.W.Frag):R2:=fun x y H Q=>∃ a b xs ys,x=.ref a∧y=.ref b∧SqT K H a xs∧SqT K H b ys∧xs≠[]∧xs.length+ys.length≤sizeLine ∧
  (ys=[]→Q (.ref a) H)∧(ys≠[]→∀ p,H p=none→Q (.ref p) (upd H p (.tup (xs++ys))))
theorem Vals.nil_iff {xs:List V} {us:List Value} (r:Vals xs us):us=[]↔xs=[]:=by
  cases r with
  | nil=>simp
  | cons _ _=>simp
theorem op_catT:OpR X (binaryOp .Add) (rCatT X.K):=by
  intro pins s σ H x y v u Q I rx ry h
  obtain ⟨a,b,xs,ys,rfl,rfl,ha,hb,hx,hz,q1,q2⟩:=h
  cases rx
  cases ry
  obtain ⟨its,r1,p1,_⟩:=I.tuple ha
  obtain ⟨its2,r2,p2,_⟩:=I.tuple hb
  refine HT.cat_tup p1 p2 (fun z=>hx (r1.nil_iff.mp z)) (fun z=>⟨.ref a,H,I,rfl,q1 (r2.nil_iff.mp z)⟩) (fun z=>?_) (by rw [← r1.length,← r2.length];exact hz)
  refine ⟨.ref s.heap.objs.size,_,I.laid (t':=s.toks) (o:=.tup (xs++ys)) (fun b ob q=>Heap.get?_push_of_some _ q) (Nat.le_refl _) ?_,rfl,q2 (fun w=>z (r2.nil_iff.mpr w)) _ (I.hok.fresh (Nat.le_refl _))⟩
  exact ⟨by rw [List.length_append];exact hz,_,r1.append r2,IsTupN.new _ _⟩
end
end L2
namespace L2
open PySem PySem.Spec PyProof.Rows
noncomputable def ixN (n:Nat) (i:Int):Option Nat:=if 0≤i then (if i<n then some i.toNat else none) else if -(n:Int)≤i then some (i+n).toNat else none
noncomputable def atI {α:Type} (xs:List α) (i:Int):Option α:=(ixN xs.length i).bind fun j=>xs[j]?
theorem ixN_seq {n:Nat} {i:Int} {j:Nat} (h:ixN n i=some j):seqIndex? i n=some j∧j<n∧-(n:Int)≤i∧i<n:=by
  unfold ixN at h
  by_cases h0:0≤i
  · rw [if_pos h0] at h
    by_cases h1:i<n
    · rw [if_pos h1] at h
      have e:i.toNat=j:=Option.some.inj h
      exact ⟨by rw [seqIndex_of h0 h1,e],by omega,by omega,h1⟩
    · rw [if_neg h1] at h;cases h
  · rw [if_neg h0] at h
    by_cases h1:-(n:Int)≤i
    · rw [if_pos h1] at h
      have e:(i+n).toNat=j:=Option.some.inj h
      exact ⟨by rw [seqIndex_neg (by omega) h1,e],by omega,h1,by omega⟩
    · rw [if_neg h1] at h;cases h
theorem atI_get {α:Type} {xs:List α} {i:Int} {v:α} (h:atI xs i=some v):∃ j,seqIndex? i xs.length=some j∧xs[j]?=some v∧j<xs.length∧-(xs.length:Int)≤i∧i<xs.length:=by
  unfold atI at h
  cases e:ixN xs.length i with
  | none=>rw [e] at h;cases h
  | some j=>
    rw [e] at h
    obtain ⟨h1,h2,h3,h4⟩:=ixN_seq e
    exact ⟨j,h1,h,h2,h3,h4⟩
theorem atI_nat {α:Type} {xs:List α} {j:Nat} {v:α} (h:xs[j]?=some v):atI xs (j:Int)=some v:=by
  have hj:j<xs.length:=(List.getElem?_eq_some_iff.mp h).1
  have e:ixN xs.length (j:Int)=some j:=by
    unfold ixN
    rw [if_pos (by omega),if_pos (by omega)];simp
  unfold atI;rw [e];exact h
noncomputable def PlainIx (b:Expr):Prop:=∀ o i,subscripted b false o i=operate [o,i] (getItem o i)
noncomputable def IxR (X:Cx) (r:R2):Prop:=
  ∀ (value slice:Expr) (pins:List (Addr×Obj)) (s:Shared) (σ:St) (H:Hp) (x y:V) (v u:Value) (Q:VK),Inv X pins σ H s→RelV x v→RelV y u→r x y H Q →
    subscripted slice false v u=operate [v,u] (getItem v u)→wpAny (model X.prog X.w) X.A (subscriptTail value slice v u) (EP X pins σ Q) X.xe s
noncomputable def MtR (X:Cx) (id:String) (r:V→List V→Hp→VK→Prop):Prop:=
  ∀ (pins:List (Addr×Obj)) (s:Shared) (σ:St) (H:Hp) (x:V) (xs:List V) (v:Value) (us:List Value) (Q:VK),Inv X pins σ H s→RelV x v→Vals xs us→r x xs H Q →
    wpAny (model X.prog X.w) X.A (call (.builtin id) (v::us)) (EP X pins σ Q) X.xe s
section
variable {X:Cx} {a b:Expr} {ta tb:TE} {pos:Pos}
theorem IxR.or {r r':R2} (h:IxR X r) (h':IxR X r'):IxR X (fun x y H Q=>r x y H Q∨r' x y H Q):=by
  intro value slice pins s σ H x y v u Q I rx ry q hs
  rcases q with q | q
  · exact h value slice pins s σ H x y v u Q I rx ry q hs
  · exact h' value slice pins s σ H x y v u Q I rx ry q hs
theorem pe_ix {r:R2} (hr:IxR X r) (ha:PE X a ta) (hb:PE X b tb) (hs:PlainIx b):PE X (.Subscript a b pos) (tOp r ta tb):=by
  intro pins s σ H Q I h
  exact Subscript_ (binT ha hb I h fun v u s2 x y H2 I2 rx ry q=>hr a b pins s2 σ H2 x y v u Q I2 rx ry q (hs _ _))
noncomputable def rIxL (K:PySem.W.Frag):R2:=fun x y H Q=>∃ p xs i v,x=.ref p∧y=.int i∧SqL K H p xs∧atI xs i=some v∧Q v H
noncomputable def rIxT (K:PySem.W.Frag):R2:=fun x y H Q=>∃ p xs i v,x=.ref p∧y=.int i∧SqT K H p xs∧atI xs i=some v∧Q v H
theorem ix_list:IxR X (rIxL X.K):=by
  intro value slice pins s σ H x y v u Q I rx ry h hs
  obtain ⟨p,xs,i,z,rfl,rfl,hq,he,q⟩:=h
  cases rx
  obtain ⟨t,rfl⟩:=ry
  obtain ⟨its,r,pl,hz⟩:=I.list hq
  obtain ⟨j,h1,h2,h3,h4,h5⟩:=atI_get he
  obtain ⟨w,ew,rw'⟩:=r.get h2
  have hl:=r.length
  have hn:=line63
  have fin:EP X pins σ Q w s:=⟨z,H,I,rw',q⟩
  by_cases h0:0≤i
  · have hj:i.toNat=j:=by
      rw [seqIndex_of h0 h5] at h1
      exact Option.some.inj h1
    exact item_listR pl.isList h0 (by omega) (by rw [hj];simpa using ew) fin hs
  · have hj:(i+(its.toArray.size:Int)).toNat=j:=by
      rw [seqIndex_neg (by omega) h4] at h1
      rw [List.size_toArray,← hl]
      exact Option.some.inj h1
    exact subscriptTail_builtinR (x:=w) pl.isList.typeIs slot_list_getitem.lookup
      (wpAny_getItem_list_neg (Q:=fun r s'=>r=w∧EP X pins σ Q r s') pl.isList (by omega) (by rw [List.size_toArray] <;> omega) (by omega) (by rw [hj];simpa using ew) ⟨rfl,fin⟩) hs
theorem ix_tup:IxR X (rIxT X.K):=by
  intro value slice pins s σ H x y v u Q I rx ry h hs
  obtain ⟨p,xs,i,z,rfl,rfl,hq,he,q⟩:=h
  cases rx
  obtain ⟨t,rfl⟩:=ry
  obtain ⟨its,r,pl,hz⟩:=I.tuple hq
  obtain ⟨j,h1,h2,h3,h4,h5⟩:=atI_get he
  obtain ⟨w,ew,rw'⟩:=r.get h2
  have hl:=r.length
  have hn:=line63
  have fin:EP X pins σ Q w s:=⟨z,H,I,rw',q⟩
  exact subscriptTail_builtinR (x:=w) pl.typeIs slot_tuple_getitem.lookup
    (getItem_tuple (j:=j) (Q:=fun r s'=>r=w∧EP X pins σ Q r s') pl (by omega) (by omega) (by rw [List.size_toArray,← hl];exact h1) (by simpa using ew) ⟨rfl,fin⟩) hs
theorem mapSeq_set (its:List Value) (n j:Nat) (u:Value):Obj.mapSeq (·.setIfInBounds j u) { cls:=.type "list",data:=.seq its.toArray n } = { cls:=.type "list",data:=.seq (its.set j u).toArray n }:=by
  simp [Obj.mapSeq]
theorem Inv.lst {pins:List (Addr×Obj)} {σ:St} {H:Hp} {s:Shared} {p:Addr} {xs:List V} (I:Inv X pins σ H s) (h:H p=some (.lst xs)) :
    ∃ (its:List Value) (n:Nat),Vals xs its∧s.heap.get? p=some { cls:=.type "list",data:=.seq its.toArray n }∧xs.length≤sizeLine:=by
  obtain ⟨z,its,n,r,e⟩:=I.hok p _ h
  exact ⟨its,n,r,e,z⟩
theorem Inv.lstUpd {pins:List (Addr×Obj)} {σ:St} {H:Hp} {s:Shared} {p:Addr} {xs ys:List V} {its its':List Value} {n n':Nat} {f:Obj→Obj} (I:Inv X pins σ H s) (h:H p=some (.lst xs))
    (ho:s.heap.get? p=some { cls:=.type "list",data:=.seq its.toArray n }) (hf:f { cls:=.type "list",data:=.seq its.toArray n } = { cls:=.type "list",data:=.seq its'.toArray n' }) (r:Vals ys its') (hz:ys.length≤sizeLine) (t:Nat) :
    Inv X pins σ (upd H p (.lst ys)) { s with heap:=s.heap.update p f,toks:=t }:=by
  have e:(s.heap.update p f).get? p=some { cls:=.type "list",data:=.seq its'.toArray n' }:=by
    rw [Heap.get?_update_self f ho (by rw [hf] <;> rfl),hf]
  refine I.write (x:=p) (e:=p) (by rw [h];trivial) (.inl rfl) (fun b u hb q=>(Heap.get?_update_other _ _ (Ne.symm hb)).trans q) ⟨_,e⟩ ?_
  exact ⟨hz,its',n',r,e⟩
noncomputable def rSetL:V→V→V→Hp→(Hp→Prop)→Prop:=fun o i v H Q=>∃ p xs k j,o=.ref p∧i=.int k∧H p=some (.lst xs)∧ixN xs.length k=some j∧Q (upd H p (.lst (xs.set j v)))
theorem set_list:PSet X rSetL:=by
  intro pins s σ H o i v ov iv u Q I ro ri rv h
  obtain ⟨p,xs,k,j,rfl,rfl,hp,hj,q⟩:=h
  cases ro
  obtain ⟨t,rfl⟩:=ri
  obtain ⟨its,n,r,ho,hz⟩:=I.lst hp
  obtain ⟨h1,h2,h3,h4⟩:=ixN_seq hj
  have hl:=r.length
  have hn:=line63
  have I':Inv X pins σ (upd H p (.lst (xs.set j v))) { s with heap:=s.heap.update p (Obj.mapSeq (·.setIfInBounds j u)) }:=
    I.lstUpd hp ho (mapSeq_set its n j u) (r.set rv j) (by rw [List.length_set];exact hz) s.toks
  by_cases h0:0≤k
  · have hk:k.toNat=j:=by
      rw [seqIndex_of h0 h4] at h1
      exact Option.some.inj h1
    exact PySem.W.ki_setAt ho h0 (by omega) (by rw [List.size_toArray,← hl];exact h4) (by rw [hk];exact ⟨_,I',q⟩)
  · have hk:(k+(its.toArray.size:Int)).toNat=j:=by
      rw [seqIndex_neg (by omega) h3] at h1
      rw [List.size_toArray,← hl]
      exact Option.some.inj h1
    exact PySem.W.ki_setBack ho (by omega) (by rw [List.size_toArray,← hl];exact h3) (by omega) (by rw [hk];exact ⟨_,I',q⟩)
theorem slice_bounds (lo hi:Option Int) (n:Nat):(sliceBounds lo hi none n).1=((HT.sIx n 0 lo:Nat):Int)∧(sliceBounds lo hi none n).2.1=((HT.sIx n n hi:Nat):Int)∧(sliceBounds lo hi none n).2.2=1:=by
  refine ⟨?_,?_,rfl⟩
  · cases lo with
    | none=>simp [sliceBounds,HT.sIx]
    | some i=>
      simp only [sliceBounds,HT.sIx,Option.getD_none,show (1:Int)>0 by decide,if_true]
      by_cases h:i<0
      · simp only [h,if_true] <;> omega
      · simp only [h,if_false] <;> omega
  · cases hi with
    | none=>simp [sliceBounds,HT.sIx]
    | some i=>
      simp only [sliceBounds,HT.sIx,Option.getD_none,show (1:Int)>0 by decide,if_true]
      by_cases h:i<0
      · simp only [h,if_true] <;> omega
      · simp only [h,if_false] <;> omega
theorem slicePick_cut (its:List Value) (lo hi:Option Int):slicePick its.toArray lo hi none=((its.drop (HT.sIx its.length 0 lo)).take (HT.sIx its.length its.length hi - HT.sIx its.length 0 lo)).toArray:=by
  obtain ⟨h1,h2,h3⟩:=slice_bounds lo hi its.toArray.size
  unfold slicePick
  rw [h1,h2,h3]
  simp only [sliceRange_one,pick_run,List.size_toArray] <;> rfl
noncomputable def rSlL (K:PySem.W.Frag):V→Option Int→Option Int→Hp→VK→Prop:=fun x lo hi H Q=>∃ a xs,x=.ref a∧SqL K H a xs∧∀ p,H p=none→Q (.ref p) (upd H p (.lst (cutV xs lo hi)))
theorem sl_list:SlR X (rSlL X.K):=by
  intro pins s σ H x v vl vu lo hi sl Q I rx hs pl pu h
  obtain ⟨a,xs,rfl,hx,q⟩:=h
  cases rx
  obtain ⟨its,r,ht,hz⟩:=I.list hx
  have hlen:=r.length
  refine ⟨"list",_,slot_list_getitem.lookup,ht.isList.typeIs,?_⟩
  refine wpAny_getItem_list_slice ht.isList hs pl pu .none (by simp) ?_ (by rw [List.size_toArray] <;> omega)
  rw [slicePick_cut,← hlen]
  refine ⟨.ref s.heap.objs.size,_,I.laid (t':=s.toks) (o:=.lst (cutV xs lo hi)) (fun b ob q=>Heap.get?_push_of_some _ q) (Nat.le_refl _) ?_,rfl,q _ (I.hok.fresh (Nat.le_refl _))⟩
  exact ⟨Nat.le_trans (cutV_length xs lo hi) hz,_,0,(r.drop (HT.sIx xs.length 0 lo)).take (HT.sIx xs.length xs.length hi - HT.sIx xs.length 0 lo),Heap.get?_push_size _ rfl⟩
theorem call_len_seq:CallR X (.builtin "len") (fun xs H Q=>∃ p ys,xs=[.ref p]∧(SqL X.K H p ys∨SqT X.K H p ys)∧Q (.int ys.length) H):=by
  intro pins s σ H xs us Q I r h
  obtain ⟨p,ys,rfl,hq,q⟩:=h
  obtain ⟨u,rfl,rx⟩:=vals1 r
  cases rx
  have hn:=line63
  rcases hq with hq | hq
  · obtain ⟨its,r',pl,hz⟩:=I.list hq
    have hlen:=r'.length
    exact Calls.call_len_list pl.isList (by simp only [List.size_toArray] <;> omega) ⟨.int ys.length,H,I.tok _,⟨s.toks+1,by rw [List.size_toArray,hlen]⟩,q⟩
  · obtain ⟨its,r',pl,hz⟩:=I.tuple hq
    have hlen:=r'.length
    exact len_tuple pl (by simp only [List.size_toArray] <;> omega) ⟨.int ys.length,H,I.tok _,⟨s.toks+1,by rw [List.size_toArray,hlen]⟩,q⟩
theorem call_len_str:CallR X (.builtin "len") (fun xs H Q=>∃ z,xs=[.str z]∧z.length≤sizeLine∧Q (.int z.length) H):=by
  intro pins s σ H xs us Q I r h
  obtain ⟨z,rfl,hz,q⟩:=h
  obtain ⟨u,rfl,t,rfl⟩:=vals1 r
  have hn:=line63
  exact len_str (by omega) ⟨.int z.length,H,I.tok _,⟨_,rfl⟩,q⟩
theorem CallR.or {f:Value} {r r':List V→Hp→VK→Prop} (h:CallR X f r) (h':CallR X f r'):CallR X f (fun xs H Q=>r xs H Q∨r' xs H Q):=by
  intro pins s σ H xs us Q I rs q
  rcases q with q | q
  · exact h pins s σ H xs us Q I rs q
  · exact h' pins s σ H xs us Q I rs q
theorem call_list_of:CallR X (.type "list") (fun xs H Q=>∃ p ys,xs=[.ref p]∧(SqL X.K H p ys∨SqT X.K H p ys)∧∀ l,H l=none→Q (.ref l) (upd H l (.lst ys))):=by
  intro pins s σ H xs us Q I r h
  obtain ⟨p,ys,rfl,hq,q⟩:=h
  obtain ⟨u,rfl,rx⟩:=vals1 r
  cases rx
  have fin:∀ (its:List Value),Vals ys its→ys.length≤sizeLine→∀ (h':Heap) (c':Nat),(∀ b o',s.heap.get? b=some o'→h'.get? b=some o') →
      h'.get? s.heap.objs.size=some { cls:=.type "list",dict:=none,data:=.seq its.toArray c',slots:=#[] }→EP X pins σ Q (.ref s.heap.objs.size) { s with heap:=h' }:=fun its r' hz h' c' kp e=>
    ⟨.ref s.heap.objs.size,_,I.laid (t':=s.toks) kp (Nat.le_refl _) (show ObjOk X.prog X.w _ h' _ (.lst ys) from ⟨hz,its,c',r',e⟩),rfl,q _ (I.hok.fresh (Nat.le_refl _))⟩
  rcases hq with hq | hq
  · obtain ⟨its,r',pl,hz⟩:=I.list hq
    have hlen:=r'.length
    obtain ⟨o,ho,hc,n,hd⟩:=pl.isList
    exact call_list_seq p (.inl rfl) ho hc hd (fun h' c' kp e=>fin its r' hz h' c' kp e) (by simp only [List.size_toArray] <;> omega)
  · obtain ⟨its,r',pl,hz⟩:=I.tuple hq
    have hlen:=r'.length
    obtain ⟨o,ho,hc,n,hd⟩:=pl
    exact call_list_seq p (.inr rfl) ho hc hd (fun h' c' kp e=>fin its r' hz h' c' kp e) (by simp only [List.size_toArray] <;> omega)
theorem call_tuple_of:CallR X (.type "tuple") (fun xs H Q=>∃ p ys,xs=[.ref p]∧((SqL X.K H p ys∧∀ l,H l=none→Q (.ref l) (upd H l (.tup ys)))∨(SqT X.K H p ys∧Q (.ref p) H))):=by
  intro pins s σ H xs us Q I r h
  obtain ⟨p,ys,rfl,h⟩:=h
  obtain ⟨u,rfl,rx⟩:=vals1 r
  cases rx
  rcases h with ⟨hq,q⟩ | ⟨hq,q⟩
  · obtain ⟨its,r',pl,hz⟩:=I.list hq
    have hlen:=r'.length
    refine call_tuple_list pl.isList (fun h' kp=>?_) (by simp only [List.size_toArray] <;> omega)
    have I1:Inv X pins σ H { s with heap:=h' }:=I.kept (t':=s.toks) kp
    have I2:Inv X pins σ (upd H h'.objs.size (.tup ys)) { s with heap:=h'.push { cls:=.type "tuple",data:=.seq its.toArray } }:=
      I1.laid (t':=s.toks) (fun b o e=>Heap.get?_push_of_some _ e) (Nat.le_refl _) (show ObjOk X.prog X.w _ _ _ (.tup ys) from ⟨hz,its,r',IsTupN.new _ _⟩)
    exact ⟨.ref h'.objs.size,_,I2,rfl,q _ (I1.hok.fresh (Nat.le_refl _))⟩
  · obtain ⟨its,r',pl,hz⟩:=I.tuple hq
    exact call_tuple_same pl ⟨.ref p,H,I,rfl,q⟩
noncomputable def tyV (K:PySem.W.Frag) (T:String) (x:V) (H:Hp):Prop:=match x with
  | .str _=>T = "str"
  | .int _=>T = "int"
  | .ref p=>(T = "list"∧∃ xs,SqL K H p xs)∨(T = "tuple"∧∃ o,K.lookup p=some o∧o.cls=.type "tuple"∧o.dict=none) ∨
      (T = "dict"∧((∃ kvs,H p=some (.dK kvs))∨∃ kvs,H p=some (.dT kvs)))∨(T = "set"∧∃ S n,H p=some (.set S n))
  | _=>False
theorem tyV_is {pins:List (Addr×Obj)} {σ:St} {H:Hp} {s:Shared} {T:String} {x:V} {v:Value} (I:Inv X pins σ H s) (r:RelV x v) (ty:tyV X.K T x H) :
    s.TypeIs v T∧∀ a,v=.ref a→∃ ob,s.heap.get? a=some ob∧ob.dict=none:=by
  cases x with
  | str z=>
    obtain ⟨t,rfl⟩:=r
    cases (show T = "str" from ty)
    exact ⟨typeIs_str s z t,fun _ e=>nomatch e⟩
  | int i=>
    obtain ⟨t,rfl⟩:=r
    cases (show T = "int" from ty)
    exact ⟨typeIs_int s i t,fun _ e=>nomatch e⟩
  | ref p=>
    cases r
    rcases ty with ⟨rfl,xs,hq⟩ | ⟨rfl,o,hk,hc,hd⟩ | ⟨rfl,hk⟩ | ⟨rfl,S,n,hk⟩
    · obtain ⟨its,_,pl,_⟩:=I.list hq
      refine ⟨pl.isList.typeIs,fun a e=>?_⟩
      cases e
      obtain ⟨o,n,e,c,hd,_⟩:=pl
      exact ⟨o,e,hd⟩
    · refine ⟨⟨o,I.kIn p o hk,hc⟩,fun a e=>?_⟩
      cases e
      exact ⟨o,I.kIn _ o hk,hd⟩
    · have z:∃ o,s.heap.get? p=some o∧o.ExactDict:=by
        rcases hk with ⟨kvs,hk⟩ | ⟨kvs,hk⟩
        · obtain ⟨_,_,_,_,o,_,_,e,ex,_⟩:=I.hok p _ hk
          exact ⟨o,e,ex⟩
        · obtain ⟨_,_,_,_,o,_,_,e,ex,_⟩:=I.hok p _ hk
          exact ⟨o,e,ex⟩
      obtain ⟨o,e,ex⟩:=z
      refine ⟨⟨o,e,ex.1⟩,fun a e2=>?_⟩
      cases e2
      exact ⟨o,e,ex.2.1⟩
    · obtain ⟨o,_,_,_,e,ex,_⟩:=I.hok p _ hk
      refine ⟨⟨o,e,ex.1⟩,fun a e2=>?_⟩
      cases e2
      exact ⟨o,e,ex.2.1⟩
  | _=>exact False.elim ty
noncomputable def tBM (K:PySem.W.Frag) (T:String) (r:V→List V→Hp→VK→Prop) (to:TE) (t:TA):TE:=fun σ H Q=>to σ H fun x H1=>tyV K T x H1∧t σ H1 fun xs H2=>r x xs H2 Q
variable {o e:Expr} {es:List Expr} {to:TE} {t:TA} {name:Str} {apos cpos:Pos} {T id:String} {r:V→List V→Hp→VK→Prop}
theorem pe_bm (pa:PlainAttrs T) (slot:Slot T name id) (hty:typeOf (.builtin id)=pure (.type "method_descriptor")) (hm:MtR X id r) (ho:PE X o to) (ha:PA X (e::es) t)
    (hbase:attributeBase o name X.env (eval o X.env)=eval o X.env:=by rfl)
    (hfew:((backTo cpos (starEach (e::es) X.env)).all (fun x=>!x.1)&&(backToKw cpos (keywordEach [] X.env)).all (fun x=>x.1.isSome)
      && decide ((e::es).length+([]:List Keyword).length+(if ([]:List Keyword).isEmpty then 0 else 1)<30))=true:=by rfl)
    (hline:(apos.endLine == cpos.line)=true:=by rfl) (hs:starEach (e::es) X.env=(false,eval e X.env)::starEach es X.env:=by rfl) (hplain:(backTo cpos (starEach es X.env)).any (·.1)=false:=by rfl) :
    PE X (.Call (.Attribute o name apos) (e::es) [] cpos) (tBM X.K T r to t):=by
  intro pins s σ H Q I h
  refine wpAny_Call_method_late hbase hfew hline rfl (thn (ho pins s σ H _ I h) fun v s1 ⟨x,H1,I1,r1,ty,q1⟩=>?_)
  obtain ⟨h1,h2⟩:=tyV_is I1 r1 ty
  refine ⟨T,id,pa,slot,hty,h1,h2,?_⟩
  have hA:=ha cpos pins s1 σ H1 _ I1 q1
  rw [hs] at hA ⊢
  refine Calls.callWith_builtin (by show (false||(backTo cpos (starEach es X.env)).any (·.1))=false;rw [hplain] <;> rfl) (Calls.evalArgs_plain ?_)
  exact thn hA fun us s2 ⟨vs,H2,I2,r2,q2⟩=>hm pins s2 σ H2 x vs v us Q I2 r1 r2 q2
end
end L2
namespace L2
open PySem PySem.Spec PyProof.Rows
noncomputable def MtM (X:Cx) (id:String) (r:V→List V→Hp→VK→Prop):Prop:=
  ∀ (pins:List (Addr×Obj)) (s:Shared) (σ:St) (H:Hp) (x:V) (xs:List V) (v:Value) (us:List Value) (Q:VK),Inv X pins σ H s→RelV x v→Vals xs us→r x xs H Q →
    wpAny (model X.prog X.w) X.A (call (.builtin id) (v::us)) (EP X pins σ Q) X.xe s
theorem Vals.one:∀ {x:V} {us:List Value},Vals [x] us→∃ u,us=[u]∧RelV x u
  | _,_,.cons r .nil=>⟨_,rfl,r⟩
theorem Vals.rep {xs:List V} {us:List Value} (h:Vals xs us):∀ k:Nat,Vals (List.replicate k xs).flatten (List.replicate k us).flatten
  | 0=>.nil
  | k+1=>by
    rw [List.replicate_succ,List.replicate_succ,List.flatten_cons,List.flatten_cons]
    exact Vals.append h (Vals.rep h k)
theorem foldl_rep (its:List Value):∀ (k:Nat) (acc:List Value),
    List.foldl (fun x1 x2=>x1++x2) acc.toArray (List.replicate k its.toArray)=(acc++(List.replicate k its).flatten).toArray
  | 0,acc=>by simp
  | k+1,acc=>by
    have e:acc.toArray++its.toArray=(acc++its).toArray:=by simp
    have e2:(acc++its)++(List.replicate k its).flatten=acc++(List.replicate (k+1) its).flatten:=by
      rw [List.replicate_succ,List.flatten_cons,List.append_assoc]
    rw [← e2,← foldl_rep its k (acc++its),← e,List.replicate_succ,List.foldl_cons]
section
variable {X:Cx} {pins:List (Addr×Obj)} {σ:St} {H:Hp} {s:Shared} {l b:Addr} {xs ys zs:List V}
theorem Inv.lset {its its':List Value} {n:Nat} {f:Array Value→Array Value} {t':Nat} (I:Inv X pins σ H s) (hH:H l=some (.lst xs))
    (e:s.heap.get? l=some { cls:=.type "list",data:=.seq its.toArray n }) (hf:f its.toArray=its'.toArray) (hv:Vals ys its') (hz:ys.length≤sizeLine) :
    Inv X pins σ (upd H l (.lst ys)) { s with heap:=s.heap.update l (Obj.mapSeq f),toks:=t' }:=by
  have q:=PySem.IsL.update e f
  rw [hf] at q
  refine I.write (x:=l) (e:=l) (by rw [hH];exact trivial) (.inl rfl) (fun b' u hb hu=>(Heap.get?_update_other s.heap (Obj.mapSeq f) (Ne.symm hb)).trans hu) ⟨_,q⟩ ?_
  exact ⟨hz,its',_,hv,q⟩
theorem Inv.lnew {its:List Value} {t':Nat} (I:Inv X pins σ H s) (hv:Vals ys its) (hz:ys.length≤sizeLine) :
    Inv X pins σ (upd H s.heap.objs.size (.lst ys)) { s with heap:=s.heap.push { cls:=.type "list",data:=.seq its.toArray },toks:=t' }:=
  I.laid (fun _ _ q=>Heap.get?_push_of_some _ q) (Nat.le_refl _) ⟨hz,its,0,hv,Heap.get?_push_size _ rfl⟩
theorem Inv.fresh (I:Inv X pins σ H s):H s.heap.objs.size=none:=I.hok.fresh (Nat.le_refl _)
theorem Inv.lstM (I:Inv X pins σ H s) (hH:H l=some (.lst xs)):xs.length≤sizeLine∧∃ (its:List Value) (n:Nat),Vals xs its∧xs.length=its.length∧s.heap.get? l=some { cls:=.type "list",data:=.seq its.toArray n }:=by
  obtain ⟨z,its,n,r,e⟩:=I.hok l _ hH
  exact ⟨z,its,n,r,r.length,e⟩
theorem notLongL {n:Nat} (h:n≤sizeLine):Builtin.List.listTooLong n=false:=by
  unfold Builtin.List.listTooLong
  exact decide_eq_false (by omega)
end
section
variable {X:Cx}
noncomputable def rAppend:V→List V→Hp→VK→Prop:=fun x vs H Q=>∃ l xs y,x=.ref l∧vs=[y]∧H l=some (.lst xs)∧xs.length<sizeLine∧Q .non (upd H l (.lst (xs++[y])))
theorem mt_append:MtM X "list.append" rAppend:=by
  intro pins s σ H x vs v us Q I rx rv h
  obtain ⟨l,xs,y,rfl,rfl,hH,hz,q⟩:=h
  cases rx
  obtain ⟨u,rfl,ru⟩:=rv.one
  obtain ⟨z,its,n,r,hl,e⟩:=I.lstM hH
  refine call_meets F.slot_list_append ⟨_,e,rfl⟩ F.entry_list_append (F.args_list_append_2 _ _) (PySem.list_append l its.toArray n u (by rw [List.size_toArray];omega)) ⟨e,?_⟩
  refine ⟨.non,_,I.lset (its':=its++[u]) hH e (by simp) (r.append (.cons ru .nil)) ?_,rfl,q⟩
  rw [List.length_append,List.length_singleton]
  omega
noncomputable def rExtend:V→List V→Hp→VK→Prop:=fun x vs H Q=>∃ l b xs zs,x=.ref l∧vs=[.ref b]∧H l=some (.lst xs)∧H b=some (.lst zs)∧xs.length+zs.length≤sizeLine∧Q .non (upd H l (.lst (xs++zs)))
theorem mt_extend:MtM X "list.extend" rExtend:=by
  intro pins s σ H x vs v us Q I rx rv h
  obtain ⟨l,b,xs,zs,rfl,rfl,hH,hB,hz,q⟩:=h
  cases rx
  obtain ⟨u,rfl,ru⟩:=rv.one
  cases ru
  obtain ⟨z,its,n,r,hl,e⟩:=I.lstM hH
  obtain ⟨z2,its2,n2,r2,hl2,e2⟩:=I.lstM hB
  have hsz:its.toArray.size+its2.toArray.size≤sizeLine:=by rw [List.size_toArray,List.size_toArray];omega
  have hlong:¬ (!its.toArray.isEmpty&&Builtin.List.listTooLong (its.toArray.size+its2.toArray.size))=true:=by
    rw [notLongL hsz,Bool.and_false]
    exact Bool.false_ne_true
  refine call_meets F.slot_list_extend ⟨_,e,rfl⟩ F.entry_list_extend (F.args_list_extend_2 _ _)
    (AutoSeq1.list_extend_list_list_0 l its.toArray n b its2.toArray n2 hlong (by rw [List.size_toArray];omega) (by omega)) ⟨e,e2,?_⟩
  refine ⟨.non,_,I.lset (its':=its++its2) hH e (by simp) (r.append r2) ?_,rfl,q⟩
  rw [List.length_append]
  omega
noncomputable def rCat:R2:=fun x y H Q=>∃ l b xs zs,x=.ref l∧y=.ref b∧H l=some (.lst xs)∧H b=some (.lst zs)∧xs.length+zs.length≤sizeLine∧∀ p,H p=none→Q (.ref p) (upd H p (.lst (xs++zs)))
theorem op_cat:OpR X (binaryOp .Add) rCat:=by
  intro pins s σ H x y v u Q I rx ry h
  obtain ⟨l,b,xs,zs,rfl,rfl,hH,hB,hz,q⟩:=h
  cases rx
  cases ry
  obtain ⟨z,its,n,r,hl,e⟩:=I.lstM hH
  obtain ⟨z2,its2,n2,r2,hl2,e2⟩:=I.lstM hB
  refine PySem.P.add_list e e2 ?_ (by rw [List.size_toArray,List.size_toArray];omega)
  have ea:its.toArray++its2.toArray=(its++its2).toArray:=by simp
  rw [ea]
  exact ⟨.ref _,_,I.lnew (t':=s.toks) (r.append r2) (by rw [List.length_append];omega),rfl,q _ I.fresh⟩
noncomputable def rRep:R2:=fun x y H Q=>∃ l k xs,x=.ref l∧y=.int k∧H l=some (.lst xs)∧-(2 ^ 63)≤k∧k<2 ^ 63∧xs.length * k.toNat≤sizeLine ∧
  ∀ p,H p=none→Q (.ref p) (upd H p (.lst (List.replicate k.toNat xs).flatten))
theorem len_rep {α:Type} (xs:List α) (k:Nat):(List.replicate k xs).flatten.length=k * xs.length:=by
  induction k with
  | zero=>simp
  | succ k ih=>rw [List.replicate_succ,List.flatten_cons,List.length_append,ih,Nat.succ_mul,Nat.add_comm]
theorem op_rep:OpR X (binaryOp .Mult) rRep:=by
  intro pins s σ H x y v u Q I rx ry h
  obtain ⟨l,k,xs,rfl,rfl,hH,h1,h2,hz,q⟩:=h
  cases rx
  obtain ⟨t,rfl⟩:=ry
  obtain ⟨z,its,n,r,hl,e⟩:=I.lstM hH
  have hlen:its.toArray.size * k.toNat≤sizeLine:=by rw [List.size_toArray,← hl];exact hz
  have hcap:¬ its.toArray.size * k.toNat>(2 ^ 63 - 1) / 8:=by
    have:(sizeLine:Nat)≤(2 ^ 63 - 1) / 8:=by decide
    omega
  have hfit:¬ (!Builtin.List.listFitsIndex k)=true:=by
    rw [fitsIndex_both h1 h2]
    exact Bool.false_ne_true
  have hlong:¬ Builtin.List.listTooLong (its.toArray.size * k.toNat)=true:=by
    rw [notLongL hlen]
    exact Bool.false_ne_true
  have hnew:List.foldl (fun x1 x2=>x1++x2) #[] (List.replicate (if its.toArray.isEmpty=true then 0 else k.toNat) its.toArray)=(List.replicate k.toNat its).flatten.toArray:=by
    have f0:∀ m:Nat,List.foldl (fun x1 x2=>x1++x2) #[] (List.replicate m its.toArray)=(List.replicate m its).flatten.toArray:=fun m=>by
      have:=foldl_rep its m []
      rw [List.nil_append] at this
      exact this
    rw [f0]
    cases its with
    | nil=>simp
    | cons a r'=>rw [if_neg (by simp)]
  refine wpAny_binaryOp_repeat_ref (T:="list") (U:="int") (by decide) ⟨_,e,rfl⟩ (fun s'=>typeIs_int s' k t) noFill_list_mul F.fills_int_mul F.slot_int_rmul repeat_list F.slot_int_index.lookup
    (call_meets F.slot_int_rmul (typeIs_int s k t) F.entry_int_rmul (F.args_int_rmul_2 _ _) (int___rmul___int_list k t l its.toArray n)
      ⟨e,rfl,⟨_,e,rfl⟩,call_meets F.slot_list_mul ⟨_,e,rfl⟩ F.entry_list_mul (F.args_list_mul_2 _ _) (AutoListH.list___mul___list_int_3 l its.toArray n k t hfit hcap hlong) ⟨e,?_⟩⟩)
  rw [hnew]
  exact ⟨.ref _,_,I.lnew (t':=s.toks) (r.rep k.toNat) (by rw [len_rep,Nat.mul_comm];exact hz),rfl,q _ I.fresh⟩
end
section
variable {prog:Program} {w:World} {A:Around} {E:Value→Shared→Prop} {s:Shared}
end
section
variable {X:Cx}
end
end L2
namespace L2
open PySem PySem.Spec PyProof.Rows
section
variable {κ:Type} [DecidableEq κ]
noncomputable def valV (kvs:List (κ×V)) (k:κ):Option V:=(kvs.find? fun kv=>decide (kv.1=k)).map (·.2)
noncomputable def putK (kvs:List (κ×V)) (k:κ) (v:V):List (κ×V):=
  if (kvs.any fun kv=>decide (kv.1=k))=true then kvs.map (fun kv=>if kv.1=k then (kv.1,v) else kv) else kvs++[(k,v)]
theorem valV_pos {p:κ×V} {r:List (κ×V)} {k:κ} (e:p.1=k):valV (p::r) k=some p.2:=by simp [valV,List.find?_cons,e]
theorem valV_neg {p:κ×V} {r:List (κ×V)} {k:κ} (e:¬ p.1=k):valV (p::r) k=valV r k:=by simp [valV,List.find?_cons,e]
theorem length_putK (kvs:List (κ×V)) (k:κ) (v:V):(putK kvs k v).length≤kvs.length+1:=by
  unfold putK
  split
  · rw [List.length_map];omega
  · rw [List.length_append,List.length_cons,List.length_nil];omega
theorem KV.val {kvs:List (κ×V)} {vs:List (κ×Value)} (r:KV kvs vs) (k:κ):RelO (valV kvs k) (valueAt vs k):=by
  unfold KV at r
  induction r with
  | nil=>exact True.intro
  | @cons p q ps qs h t ih=>
    obtain ⟨h1,h2⟩:=h
    by_cases e:p.1=k
    · have e':q.1=k:=h1.symm.trans e
      have b:valueAt (q::qs) k=some q.2:=by simp [valueAt,List.find?_cons,e']
      rw [valV_pos e,b];exact h2
    · have e':¬ q.1=k:=fun z=>e (h1.trans z)
      have b:valueAt (q::qs) k=valueAt qs k:=by simp [valueAt,List.find?_cons,e']
      rw [valV_neg e,b];exact ih
theorem KV.any {kvs:List (κ×V)} {vs:List (κ×Value)} (r:KV kvs vs) (k:κ):(kvs.any fun kv=>decide (kv.1=k))=vs.any fun kv=>decide (kv.1=k):=by
  unfold KV at r
  induction r with
  | nil=>rfl
  | cons h t ih=>rw [List.any_cons,List.any_cons,ih,h.1]
theorem KV.repl {kvs:List (κ×V)} {vs:List (κ×Value)} (r:KV kvs vs) (k:κ) {y:V} {u:Value} (ry:RelV y u) :
    KV (kvs.map fun kv=>if kv.1=k then (kv.1,y) else kv) (vs.map fun kv=>if kv.1=k then (kv.1,u) else kv):=by
  unfold KV at r ⊢
  induction r with
  | nil=>exact .nil
  | @cons p q ps qs h t ih=>
    rw [List.map_cons,List.map_cons]
    refine .cons ?_ ih
    obtain ⟨h1,h2⟩:=h
    by_cases e:p.1=k
    · rw [if_pos e,if_pos (h1.symm.trans e)];exact ⟨h1,ry⟩
    · rw [if_neg e,if_neg (fun z=>e (h1.trans z))];exact ⟨h1,h2⟩
theorem KV.put {kvs:List (κ×V)} {vs:List (κ×Value)} (r:KV kvs vs) (k:κ) {y:V} {u:Value} (ry:RelV y u):KV (putK kvs k y) (stored vs k u):=by
  unfold putK stored
  rw [r.any k]
  by_cases e:(vs.any fun kv=>decide (kv.1=k))=true
  · rw [if_pos e,if_pos e];exact r.repl k ry
  · rw [if_neg e,if_neg e];exact Paired.snoc r ⟨rfl,ry⟩
theorem KV.length {kvs:List (κ×V)} {vs:List (κ×Value)} (r:KV kvs vs):kvs.length=vs.length:=Paired.length r
end
theorem kV_is {P:Program} {w:World} {k:Key} {u:Value} (r:RelV (kV k) u):(mixKind P w).is k u=true:=by
  cases k with
  | inl i=>obtain ⟨t,e⟩:=(show ∃ t,u=Value.int i t from r);subst e;exact mixKind_int P w i t
  | inr x=>obtain ⟨t,e⟩:=(show ∃ t,u=Value.str x t from r);subst e;exact mixKind_str P w x t
theorem items_are {P:Program} {w:World}:∀ {ks:List Key} {us:List Value},Vals (ks.map kV) us→ItemsAre (mixKind P w) ks us
  | [],_,r=>by rw [List.map_nil] at r;cases r;exact .nil
  | k::ks,_,r=>by
    rw [List.map_cons] at r
    cases r with
    | cons h t=>exact .cons (kV_is h) (items_are t)
noncomputable abbrev KT (H:Hp):List (List Key×V)→List (List Key×Addr×Value)→Prop:=Paired fun p q=>p.1=q.1∧H q.2.1=some (.tup (p.1.map kV))∧RelV p.2 q.2.2
theorem KT.val {H:Hp} {kvs:List (List Key×V)} {xs:List (List Key×Addr×Value)} (r:KT H kvs xs) (k:List Key):RelO (valV kvs k) ((atKey xs k).map (·.2)):=by
  induction r with
  | nil=>exact True.intro
  | @cons p q ps qs h t ih=>
    obtain ⟨h1,_,h2⟩:=h
    by_cases e:p.1=k
    · have e':q.1=k:=h1.symm.trans e
      have b:atKey (q::qs) k=some q.2:=by simp [atKey,List.find?_cons,e']
      rw [valV_pos e,b];exact h2
    · have e':¬ q.1=k:=fun z=>e (h1.trans z)
      have b:atKey (q::qs) k=atKey qs k:=by simp [atKey,List.find?_cons,e']
      rw [valV_neg e,b];exact ih
section
variable {P:Program} {w:World} {H:Hp} {h:Heap} {a:Addr}
theorem rd_of {u:HO} (ok:HOk P w H h) (e:Rd H a u):ObjOk P w H h a u:=e.ok ok
theorem dk_rd {kvs:List (Key×V)} (ok:HOk P w H h) (e:Rd H a (.dK kvs)):kvs.length≤sizeLine∧(a == sysModules)=false∧∃ vs,KV kvs vs∧h.DictOf (mixKind P w) a vs:=
  show ObjOk P w H h a (.dK kvs) from rd_of ok e
theorem dk_of {kvs:List (Key×V)} (ok:HOk P w H h) (e:H a=some (.dK kvs)):kvs.length≤sizeLine∧(a == sysModules)=false∧∃ vs,KV kvs vs∧h.DictOf (mixKind P w) a vs:=dk_rd ok (.inl e)
theorem key_of {ks:List Key} (ok:HOk P w H h) (e:H a=some (.tup (ks.map kV))):(tupleKind (mixKind P w)).is h ks a:=by
  obtain ⟨_,its,r,o,h1,h2,⟨n,h3⟩,_⟩:=(show ObjOk P w H h a (.tup (ks.map kV)) from ok a _ e)
  exact ⟨o,its.toArray,n,h1,h2,h3,by simpa using items_are r⟩
theorem dt_rd {kvs:List (List Key×V)} (ok:HOk P w H h) (e:Rd H a (.dT kvs)):kvs.length≤sizeLine∧(a == sysModules)=false ∧
    ∃ xs,KT H kvs xs∧h.DictOfH (tupleKind (mixKind P w)) a xs:=by
  obtain ⟨z,y,xs,r,o,es,ep,h1,h2,h3,h4,h5⟩:=(show ObjOk P w H h a (.dT kvs) from rd_of ok e)
  refine ⟨z,y,xs,r,o,es,ep,h1,h2,h3,h4,fun x hx=>?_,h5⟩
  have all:∀ {l:List (List Key×V)} {m:List (List Key×Addr×Value)},KT H l m→∀ x∈m,(tupleKind (mixKind P w)).is h x.1 x.2.1:=by
    intro l m q
    induction q with
    | nil=>intro x hx;exact nomatch hx
    | @cons p q ps qs hq t ih=>
      intro x hx
      rcases List.mem_cons.mp hx with e | hx
      · subst e
        exact key_of ok (by rw [← hq.1];exact hq.2.1)
      · exact ih x hx
  exact all r x hx
end
noncomputable def DGet (H:Hp) (a:Addr) (y:V) (r:Option V):Prop:=
  (∃ kvs k,Rd H a (.dK kvs)∧y=kV k∧r=valV kvs k)∨∃ kvs k b,Rd H a (.dT kvs)∧y=.ref b∧H b=some (.tup (k.map kV))∧r=valV kvs k
theorem DGet.k {H:Hp} {a:Addr} {kvs:List (Key×V)} {k:Key} (e:H a=some (.dK kvs)):DGet H a (kV k) (valV kvs k):=.inl ⟨kvs,k,.inl e,rfl,rfl⟩
section
variable {X:Cx} {pins:List (Addr×Obj)} {σ:St} {H:Hp} {s:Shared} {a:Addr} {y v:V} {u r:Value} {o:Option V} {A:Around} {E:Value→Shared→Prop}
theorem Inv.big (I:Inv X pins σ H s):sysModules<s.heap.objs.size:=by
  have h:mainGlobals<s.heap.objs.size:=(I.mod.glob.keeps I.bk).lt
  exact Nat.lt_trans (by decide) h
theorem d_getItem {Q:Value→Shared→Prop} (hu:A.units+1<cLine) (I:Inv X pins σ H s) (g:DGet H a y (some v)) (ry:RelV y u) (h:∀ w' s',Inv X pins σ H s'→RelV v w'→Q w' s') :
    wpAny (model X.prog X.w) A (getItem (.ref a) u) Q E s:=by
  rcases g with ⟨kvs,k,e,ey,l⟩ | ⟨kvs,k,b,e,ey,eb,l⟩
  · subst ey
    obtain ⟨z,hd,vs,rel,dd⟩:=dk_rd I.hok e
    obtain ⟨w',hw,rw'⟩:=RelO.some_of (v:=v) (o:=valueAt vs k) (by rw [l];exact rel.val k)
    exact wpAny_getItem_of (kV_is ry) dd.mapOf hw (h w' _ (I.tok _) rw')
  · subst ey
    cases (show u=Value.ref b from ry)
    obtain ⟨z,hd,xs,rel,dd⟩:=dt_rd I.hok e
    obtain ⟨w',hw,rw'⟩:=RelO.some_of (v:=v) (o:=(atKey xs k).map (·.2)) (by rw [l];exact rel.val k)
    obtain ⟨p,hp,hp2⟩:=Option.map_eq_some_iff.mp hw
    refine wpAny_getItem_heap (tupleKind_room_in1 hu) (key_of I.hok eb) dd hp ?_
    rw [hp2]
    exact h w' _ (I.tok _) rw'
theorem d_write {h':Heap} {t':Nat} {ob:HO} (I:Inv X pins σ H s) (mu:Mut (H a)) (hs:Heap.SameBut a s.heap h') (he:∃ q,h'.get? a=some q) (new:ObjOk X.prog X.w (upd H a ob) h' a ob) :
    Inv X pins σ (upd H a ob) { s with heap:=h',toks:=t' }:=
  I.write (x:=a) (e:=a) mu (.inl rfl) (fun b q hb z=>(hs.2 b hb).trans z) he new
theorem dk_new {P:Program} {w:World} {H':Hp} {h':Heap} {kvs:List (Key×V)} {vs:List (Key×Value)} (z:kvs.length≤sizeLine) (hd:(a == sysModules)=false) (rel:KV kvs vs) (dd:h'.DictOf (mixKind P w) a vs) :
    ObjOk P w H' h' a (.dK kvs):=⟨z,hd,vs,rel,dd⟩
end
section
variable {X:Cx} {pins:List (Addr×Obj)} {σ:St} {H:Hp} {s:Shared} {a:Addr} {kvs:List (Key×V)} {k:Key} {u:Value} {A:Around} {E:Value→Shared→Prop}
end
theorem dict_typeIs {X:Cx} {pins:List (Addr×Obj)} {σ:St} {H:Hp} {s:Shared} {a:Addr} {y:V} {o:Option V} (I:Inv X pins σ H s) (g:DGet H a y o):s.TypeIs (.ref a) "dict":=by
  rcases g with ⟨kvs,k,e,_,_⟩ | ⟨kvs,k,b,e,_,_,_⟩
  · obtain ⟨_,_,vs,_,dd⟩:=dk_rd I.hok e
    exact dd.typeIs
  · obtain ⟨_,_,xs,_,dd⟩:=dt_rd I.hok e
    exact dd.typeIs
section
variable {X:Cx} {o i e value:Expr} {pos pos' tpos:Pos} {td ty tv:TE}
end
theorem dk_empty {P:Program} {w:World} {H:Hp} (h:Heap) (hb:sysModules<h.objs.size):ObjOk P w H (h.push { cls:=.type "dict",data:=.dict #[] }) h.objs.size (.dK []):=
  ⟨Nat.zero_le _,beq_eq_false_iff_ne.mpr (Ne.symm (Nat.ne_of_lt hb)),[],.nil,Heap.DictOf.new h⟩
noncomputable def tDNewK:TE:=fun _ H Q=>∀ p,H p=none→Q (.ref p) (upd H p (.dK []))
section
variable {X:Cx} {pos:Pos}
theorem pe_dnewK:PE X (.Dict [] [] pos) tDNewK:=fun pins s σ H Q I h=>
  wpAny_Dict_empty ⟨.ref s.heap.objs.size,_,I.laid (a:=s.heap.objs.size) (o:=.dK []) (t':=s.toks) (fun _ _ q=>Heap.get?_push_of_some _ q) (Nat.le_refl _) (dk_empty s.heap I.big),rfl,h _ (I.hok.fresh (Nat.le_refl _))⟩
end
noncomputable def tPairs:List (TE×TE)→St→Hp→(List (V×V)→Hp→Prop)→Prop
  | [],_,H,Q=>Q [] H
  | (tk,tv)::r,σ,H,Q=>tk σ H fun x H1=>tv σ H1 fun y H2=>tPairs r σ H2 fun ps H3=>Q ((x,y)::ps) H3
noncomputable abbrev VV:List (V×V)→List (Value×Value)→Prop:=Paired fun p q=>RelV p.1 q.1∧RelV p.2 q.2
noncomputable def PPs (X:Cx) (pos:Pos) (keys:List (Option Expr)) (values:List Expr) (trs:List (TE×TE)):Prop:=
  ∀ (pins:List (Addr×Obj)) (s:Shared) (σ:St) (H:Hp) (Q:List (V×V)→Hp→Prop),Inv X pins σ H s→tPairs trs σ H Q →
    wpAny (model X.prog X.w) X.A (evalPairs (pairTrees keys values X.env pos)) (fun vs s'=>∃ ps H',Inv X pins σ H' s'∧VV ps vs∧Q ps H') X.xe s
theorem pps_nil {X:Cx} {pos:Pos}:PPs X pos [] [] []:=fun pins s σ H Q I h=>pairTrees_nil_walk ⟨[],H,I,.nil,h⟩
theorem pps_cons {X:Cx} {pos:Pos} {k v:Expr} {ks:List (Option Expr)} {vs:List Expr} {tk tv:TE} {trs:List (TE×TE)} (hk:PE X k tk) (hv:PE X v tv) (hr:PPs X pos ks vs trs) :
    PPs X pos (some k::ks) (v::vs) ((tk,tv)::trs):=fun pins s σ H Q I h=>
  pairTrees_cons_walk (thn (hk pins s σ H _ I h) fun u s1 ⟨x,H1,I1,rx,q1⟩=>thn (hv pins s1 σ H1 _ I1 q1) fun w2 s2 ⟨y,H2,I2,ry,q2⟩=>
    thn (hr pins s2 σ H2 _ I2 q2) fun ws s3 ⟨ps,H3,I3,rel,q3⟩=>⟨(x,y)::ps,H3,I3,.cons ⟨rx,ry⟩ rel,q3⟩)
noncomputable def mergeK (kvs more:List (Key×V)):List (Key×V):=more.foldl (fun acc kv=>putK acc kv.1 kv.2) kvs
theorem KV.merge:∀ {more:List (Key×V)} {rs:List (Key×Value)} {kvs:List (Key×V)} {vs:List (Key×Value)},KV more rs→KV kvs vs→KV (mergeK kvs more) (merged vs rs):=by
  intro more rs kvs vs r
  unfold KV at r
  induction r generalizing kvs vs with
  | nil=>intro q;exact q
  | @cons p q ps qs h t ih=>
    intro r0
    have e:KV (putK kvs p.1 p.2) (stored vs q.1 q.2):=by
      have:=r0.put p.1 h.2
      rw [← h.1];exact this
    exact ih e
theorem length_mergeK:∀ (more kvs:List (Key×V)),(mergeK kvs more).length≤kvs.length+more.length
  | [],kvs=>by show kvs.length≤kvs.length+0;omega
  | p::r,kvs=>by
    have h1:=length_mergeK r (putK kvs p.1 p.2)
    have h2:=length_putK kvs p.1 p.2
    show (mergeK (putK kvs p.1 p.2) r).length≤_
    rw [List.length_cons];omega
theorem carries_of {P:Program} {w:World}:∀ {kvs:List (Key×V)} {ws:List (Value×Value)},VV (kvs.map fun kv=>(kV kv.1,kv.2)) ws→∃ rs,Carries (mixKind P w) ws rs∧KV kvs rs
  | [],_,r=>by rw [List.map_nil] at r;cases r;exact ⟨[],True.intro,.nil⟩
  | p::kvs,_,r=>by
    rw [List.map_cons] at r
    cases r with
    | @cons a b as bs h t=>
      obtain ⟨rs,c,q⟩:=carries_of (P:=P) (w:=w) t
      obtain ⟨b1,b2⟩:=b
      exact ⟨(p.1,b2)::rs,⟨kV_is h.1,rfl,c⟩,.cons ⟨rfl,h.2⟩ q⟩
noncomputable def tDisp (trs:List (TE×TE)):TE:=fun σ H Q=>∀ p,H p=none→tPairs trs σ (upd H p (.dK [])) fun ps H2=>H2 p=some (.dK [])∧∃ kvs:List (Key×V),ps=kvs.map (fun kv=>(kV kv.1,kv.2))∧kvs.length≤15∧Q (.ref p) (upd H2 p (.dK (mergeK [] kvs)))
theorem pe_disp {X:Cx} {pos:Pos} {keys:List (Option Expr)} {values:List Expr} {trs:List (TE×TE)} (h:PPs X pos keys values trs) (hall:keys.all (·.isSome)=true) (hl:keys.length=values.length) (h0:keys≠[])
    (h15:keys.length≤15):PE X (.Dict keys values pos) (tDisp trs):=by
  intro pins s σ H Q I q
  have hn:=I.hok.fresh (Nat.le_refl s.heap.objs.size)
  have I1:=I.laid (a:=s.heap.objs.size) (o:=.dK []) (h':=s.heap.push { cls:=.type "dict",data:=.dict #[] }) (t':=s.toks) (fun _ _ q=>Heap.get?_push_of_some _ q) (Nat.le_refl _) (dk_empty s.heap I.big)
  refine wpAny_Dict_walk (knd:=mixKind X.prog X.w) hall hl h0 h15 (thn (h pins _ σ _ _ I1 (q _ hn)) fun ws s2 ⟨ps,H2,I2,rel,e,kvs,ep,lk,q2⟩=>?_)
  subst ep
  obtain ⟨rs,c,rk⟩:=carries_of (P:=X.prog) (w:=X.w) rel
  obtain ⟨z,hd,vs0,r0,dd⟩:=dk_of I2.hok e
  cases r0
  refine ⟨rs,c,dd,fun h' dd' hs=>⟨.ref s.heap.objs.size,_,?_,rfl,q2⟩⟩
  have hz:(mergeK [] kvs).length≤sizeLine:=by
    have h1:=length_mergeK kvs []
    rw [List.length_nil] at h1
    rw [sizeLine_eq];omega
  have he:∃ q,h'.get? s.heap.objs.size=some q:=let ⟨q,_,_,hq,_⟩:=dd';⟨q,hq⟩
  exact d_write I2 (by rw [e];exact True.intro) hs he (dk_new hz hd (rk.merge .nil) dd')
noncomputable def IsD (H:Hp) (a:Addr):Prop:=(∃ kvs,Rd H a (.dK kvs))∨∃ kvs,Rd H a (.dT kvs)
theorem isD_at {X:Cx} {pins:List (Addr×Obj)} {σ:St} {H:Hp} {s:Shared} {a:Addr} (I:Inv X pins σ H s) (d:IsD H a) :
    s.TypeIs (.ref a) "dict"∧(∀ b,Value.ref a=.ref b→∃ ob,s.heap.get? b=some ob∧ob.dict=none)∧(a == sysModules)=false:=by
  rcases d with ⟨kvs,e⟩ | ⟨kvs,e⟩
  · obtain ⟨_,hd,vs,_,dd⟩:=dk_rd I.hok e
    refine ⟨dd.typeIs,fun b q=>?_,hd⟩
    cases q
    obtain ⟨ob,_,_,h1,h2,_⟩:=dd
    exact ⟨ob,h1,h2.2.1⟩
  · obtain ⟨_,hd,xs,_,dd⟩:=dt_rd I.hok e
    refine ⟨dd.typeIs,fun b q=>?_,hd⟩
    cases q
    obtain ⟨ob,_,_,h1,h2,_⟩:=dd
    exact ⟨ob,h1,h2.2.1⟩
section
variable {X:Cx} {pins:List (Addr×Obj)} {σ:St} {H:Hp} {s:Shared} {a:Addr} {y d:V} {u r:Value} {o:Option V} {A:Around} {E:Value→Shared→Prop}
end
section
variable {X:Cx} {o e f:Expr} {apos cpos:Pos} {td ty tx:TE}
end
section
variable {X:Cx} {pins:List (Addr×Obj)} {σ:St} {H:Hp} {s:Shared} {a:Addr} {kvs:List (Key×V)} {A:Around} {E:Value→Shared→Prop}
end
section
variable {X:Cx} {pins:List (Addr×Obj)} {σ:St} {H:Hp} {s:Shared} {a:Addr} {y:V} {u:Value} {A:Around} {E:Value→Shared→Prop}
end
end L2
namespace Att
open PySem PySem.W PySem.Calls PyProof.Rows
theorem ints_of_wellAll {P:Params} {h:Heap}:∀ (ns:List Int) (vs:List Value),WellAll P h vs (ns.map WData.int)→IntsAre vs ns:=by
  intro ns
  induction ns with
  | nil=>
    intro vs w
    rw [List.map_nil] at w
    cases w
    exact .nil
  | cons n ns ih=>
    intro vs w
    rw [List.map_cons] at w
    cases w with
    | cons a b=>
      cases a
      exact .cons _ _ (ih _ b)
theorem script_of {l:OpenLaw} {n:Nat} (hn:l.most=some n) {P:Params} {h:Heap} {args:List WData} {vals:List Value}
    (hpre:l.row.toRowW.claim.pre args=true) (hwl:WellAll P h vals args) :
    ∃ a vs ns,vals=[Value.ref a]∧args=[WData.list (ns.map WData.int)]∧h.get? a=some { cls:=.type "list",data:=.seq vs.toArray }∧IntsAre vs ns∧ns.length≤n:=by
  have hsh:WShape.hasAll [] args [.list .int]=true:=(pre_splitW hpre).1
  have hc:l.pre.holds [] { args:=args } = true:=(pre_splitW hpre).2
  obtain ⟨d,r,rfl,h1,h2⟩:=hasAllW_cons hsh
  obtain rfl:=hasAllW_nil h2
  obtain ⟨xs,rfl,h3⟩:=hasW_list h1
  obtain ⟨ns,rfl⟩:=items_int h3
  have hlen:ns.length≤n:=by
    unfold OpenLaw.pre at hc
    have h4:(WTm.not (.lt (.lit (.int (n:Int))) (.len (.arg 0)))).holds [] { args:=[.list (ns.map .int)] } = true:=by
      have h4:=(holds_andW hc).1
      rw [hn] at h4
      exact h4
    have h5:=condW_of h4 (w_not (w_lt w_lit (w_len_list (w_arg rfl))))
    rw [List.length_map] at h5
    refine Nat.le_of_not_lt fun q=>?_
    have q':(n:Int)<((ns.length:Nat):Int):=by omega
    first
      | (rw [decide_eq_true q'] at h5;exact absurd h5 (by decide))
      | (simp at h5;omega)
  cases hwl with
  | cons w1 w2=>
    cases w2
    cases w1 with
    | list ho hall=>exact ⟨_,_,ns,rfl,rfl,ho,ints_of_wellAll ns _ hall,hlen⟩
theorem post_true (l:OpenLaw) (args:List WData):l.row.toRowW.claim.post args (.bool true) args=true:=
  postW_of (r:=l.row.toRowW) (X:=(true == true))
    (show WShape.has [] (.bool true) .bool=true by first | rfl | decide | simp [WShape.has,WShape.arms,WShape.armsAll])
    (show (WTm.eq .res (.lit (.bool true))).value [] { args:=args,res:=some (.bool true),after:=args } = some (.bool (true == true)) from w_eq_bool (w_res rfl) w_lit) rfl
theorem attach_call {l:OpenLaw} {n:Nat} {q:Program} {loose:List Str} {XP:(Str→Option Value)→Heap→Prop} {YP:World→Heap→Prop} {d:DefRec}
    (hn:l.most=some n) (hdf:d.params.defaults=[])
    (call:∀ (w:World) (s₀ s₁:Shared) (mg mb:Str→Option Value) (fa:Addr) (o:Obj) (pm cd doc:Value) (a:Addr) (vs:List Value) (ns:List Int),
      Ground q loose [] XP w s₀ mg mb s₁.heap→YP w s₁.heap →
      s₁.heap.get? fa=some o→o.data=.func (docDef d.name d.params d.body d.scope pm cd doc)→s₁.heap.CodeRec cd d.name→mg d.name=some (.ref fa) →
      s₁.heap.get? a=some { cls:=.type "list",data:=.seq vs.toArray }→IntsAre vs ns→ns.length≤n→s₁.gens = #[] →
      codeAny (model l.prog w) callerA (.call (.ref fa) ⟨[.ref a],[]⟩) (fun r s'=>r=.ok (.ret (.bool true))∧OldK s₁.heap s'.heap∧s'.os=s₁.os∧AllBare s'.gens) s₁) :
    WalkO q loose XP YP l.row.toRowW d [] (fun f vs=>PySem.call f vs):=by
  intro w s₀ s₁ mg mb G Y fa o pm cd doc dV kV ho hd hcd hD hmg hg args vals as hpre hlay hrd hwl hlo
  obtain rfl:dV=.none:=Dflts.none hD hdf
  obtain rfl:kV=.none:=Dflts.noKw hD
  obtain ⟨a,vs,ns,rfl,rfl,hobj,hints,hlen⟩:=script_of hn hpre hwl
  refine enter_call (codeAny_mono (call w s₀ s₁ mg mb fa o pm cd doc a vs ns G Y ho (fd_plain hd) hcd hmg hobj hints hlen hg) fun r s' hq=>?_)
  obtain ⟨rfl,h2,h3,h4⟩:=hq
  exact ⟨.inl ⟨.bool true,.bool true,[],rfl,fun _=>rfl,.bool true,post_true l _,fun _=>⟨List.Pairwise.nil,fun _ hm=>(nomatch hm)⟩⟩,h2,h3,h4⟩
section
variable {prog:Program} {w:World} {A:Around} {E:Value→Shared→Prop} {s:Shared} {K:Frag}
end
end Att
namespace L2
open PySem PySem.Spec PyProof.Rows
theorem vals_ints:∀ {vs:List Value} {ns:List Int},IntsAre vs ns→Vals (ns.map V.int) vs
  | _,_,.nil=>.nil
  | _,_,.cons n t h=>.cons ⟨t,rfl⟩ (vals_ints h)
noncomputable def Only (H:Hp):Prop:=∀ b,H b=none∨∃ o xs,H b=some (.frz o (.lst xs))
theorem law_call {P:Program} {w:World} {K:PySem.W.Frag} {mg mb:Str→Option Value} {CX:CXT} {k:Nat} {fa a:Addr} {fd:FuncData} {x:Str} {sp:Sp} {s₁:Shared} {vs:List Value} {ns:List Int}
    (KX:K.In s₁.heap) (hns:s₁.heap.Ns mainGlobals mg) (hb:s₁.heap.Ns builtinsNs mb) (hbb:∀ x:Str,x ≠ "__name__"→mb x=bootBuiltins x) (hlim:s₁.heap.NoLimit) (hg:s₁.gens = #[])
    (ha:s₁.heap.get? a=some { cls:=.type "list",data:=.seq vs.toArray }) (hi:IntsAre vs ns) (hl:ns.length≤sizeLine) (hr:Room k callerA)
    (F:∀ base:Heap,K.In base→base.Ns mainGlobals mg→FnOk P w K mg base CX k fa fd [x] sp) (hbind:∀ (s:Shared) (u:Value),BindsTo s fd ⟨[u],[]⟩ [(x,u)])
    (hsp:∀ H:Hp,Only H→SqL K H a (ns.map V.int)→sp [.ref a] H (fun v _=>v=.bl true) fun _ _ _=>False)
    (hCX:∀ H e s',CX [] H s₁ (fun _ _ _=>False) e s'→False) :
    codeAny (model P w) callerA (.call (.ref fa) ⟨[.ref a],[]⟩) (fun r s'=>r=.ok (.ret (.bool true))∧OldK s₁.heap s'.heap∧s'.os=s₁.os∧AllBare s'.gens) s₁:=by
  have rv:=vals_ints hi
  have lenV:=hi.length
  have core:∀ H:Hp,Only H→SqL K H a (ns.map V.int)→HOk P w H s₁.heap→(∀ b,H b≠none→b=a)→(H a≠none→K.lookup a=none) →
      codeAny (model P w) callerA (.call (.ref fa) ⟨[.ref a],[]⟩) (fun r s'=>r=.ok (.ret (.bool true))∧OldK s₁.heap s'.heap∧s'.os=s₁.os∧AllBare s'.gens) s₁:=by
    intro H hO hS hok hA hK
    have base_of:∀ {b:Addr} {o:Obj},s₁.heap.get? b=some o→H b=none→(hidT s₁.heap H).get? b=some o:=fun e n=>hidT_get e n
    have noA:∀ {b:Addr} {o:Obj} {es:Array DictEntry} {ep:Nat},s₁.heap.get? b=some o→o.data=.dict es ep→H b=none:=fun {b o es ep} e d=>by
      cases q:H b with
      | none=>rfl
      | some u=>
        have e':b=a:=hA b (by rw [q];simp)
        subst e'
        rw [ha] at e;cases e
        have d':Data.seq vs.toArray _=Data.dict es ep:=d
        cases d'
    have nsK:∀ {b:Addr} {m:Str→Option Value},s₁.heap.Ns b m→(hidT s₁.heap H).Ns b m:=fun {b m} ⟨o,es,ep,e,d,r⟩=>⟨o,es,ep,base_of e (noA e d),d,r⟩
    have hKb:K.In (hidT s₁.heap H):=fun b o e=>base_of (KX b o e) (by
      cases q:H b with
      | none=>rfl
      | some u=>
        have e':b=a:=hA b (by rw [q];simp)
        subst e'
        rw [hK (by rw [q];simp)] at e;cases e)
    have hM:Mod K mg (hidT s₁.heap H):=⟨hKb,nsK hns,⟨mb,nsK hb,hbb⟩,let ⟨mc,h1,h2⟩:=hlim;⟨mc,nsK h1,h2⟩⟩
    have e0:Env0 P w K mg (hidT s₁.heap H) callerA [] s₁ H:=⟨rfl,hM,fun b o e=>of_hidT e,Nat.le_of_eq (hidT_size _ _),trivial,fun b hb=>absurd (show b∈([]:List Addr) from hb) (by simp),hok,.of_eq hg⟩
    refine codeAny_mono ((F _ hKb (nsK hns)).run callerA [] s₁ H ⟨[.ref a],[]⟩ [.ref a] [.ref a] _ _ hr e0 (hbind s₁ (.ref a)) (.cons rfl .nil) (hsp H hO hS)) fun r s' h=>?_
    cases r with
    | error e=>exact (hCX H e s' h).elim
    | ok fl=>
      cases fl with
      | next=>exact False.elim h
      | brk=>exact False.elim h
      | cont=>exact False.elim h
      | ret u=>
        obtain ⟨v,H',os,bare,un,hok',r',q⟩:=h
        have q':v=.bl true:=q
        subst q'
        obtain rfl:u=Value.bool true:=r'
        refine ⟨rfl,OldK.of_keep fun b o e=>?_,os,bare⟩
        cases q:H b with
        | none=>exact un.keep b o e q (by intro z;exact absurd (show b∈([]:List Addr) from z) (by simp)) (by simp)
        | some u=>
          rcases hO b with z | ⟨ob,xs,z⟩
          · rw [q] at z;cases z
          · have z2:=un.frzs b ob _ z
            obtain ⟨e1,_⟩:=hok b _ z
            obtain ⟨e2,_⟩:=hok' b _ z2
            rw [e] at e1;cases e1
            exact e2
  cases hk:K.lookup a with
  | some o=>
    have e:=KX a o hk
    rw [ha] at e
    cases e
    refine core (fun _=>none) (fun _=>.inl rfl) (.inr ⟨_,vs.toArray,_,hk,rfl,rfl,rfl,by rw [List.size_toArray,lenV];exact hl,by simpa using rv⟩) (fun b u z=>by have z':(none:Option HO)=some u:=z;cases z') (fun b z=>absurd rfl z) fun z=>absurd rfl z
  | none=>
    refine core (fun b=>if b=a then some (.frz { cls:=.type "list",data:=.seq vs.toArray } (.lst (ns.map V.int))) else none) (fun b=>?_) (.inl (.inr ⟨{ cls:=.type "list",data:=.seq vs.toArray },if_pos rfl⟩)) (fun b u z=>?_) (fun b z=>?_) fun _=>hk
    · by_cases hb:b=a
      · exact .inr ⟨_,_,if_pos hb⟩
      · exact .inl (if_neg hb)
    · by_cases hb:b=a
      · have z':=(if_pos hb).symm.trans z
        cases z'
        subst hb
        exact ⟨ha,by rw [List.length_map];exact hl,vs,_,rv,ha⟩
      · have z':=(if_neg hb).symm.trans z
        cases z'
    · by_cases hb:b=a
      · exact hb
      · exact absurd (if_neg hb) z
end L2
namespace L2
open PySem PySem.Spec PyProof.Rows
theorem walk_of {l:PySem.W.OpenLaw} {n k:Nat} {q:Program} {loose:List Str} {XP:(Str→Option Value)→Heap→Prop} {YP:World→Heap→Prop} {d:DefRec} {K:Params→PySem.W.Frag} {CX:World→CXT} {sp:World→Sp} {x:Str}
    (hn:l.most=some n) (hn2:n≤sizeLine) (hdf:d.params.defaults=[]) (hr:Room k callerA)
    (hY:∀ (w:World) (h:Heap),YP w h→(K w.params).In h)
    (F:∀ (w:World) (mg:Str→Option Value) (fa:Addr) (h:Heap),(K w.params).In h→h.Ns mainGlobals mg→mg d.name=some (.ref fa) →
      ∃ fd:FuncData,(∀ (s:Shared) (u:Value),BindsTo s fd ⟨[u],[]⟩ [(x,u)]) ∧
        ∀ base:Heap,(K w.params).In base→base.Ns mainGlobals mg→FnOk l.prog w (K w.params) mg base (CX w) k fa fd [x] (sp w))
    (hsp:∀ (w:World) (H:Hp) (a:Addr) (ns:List Int),ns.length≤n→Only H→SqL (K w.params) H a (ns.map V.int)→sp w [.ref a] H (fun v _=>v=.bl true) fun _ _ _=>False)
    (hCX:∀ (w:World) (H:Hp) (s:Shared) (e:Value) (s':Shared),CX w [] H s (fun _ _ _=>False) e s'→False) :
    PySem.W.WalkO q loose XP YP l.row.toRowW d [] (fun f vs=>PySem.call f vs):=by
  refine Att.attach_call hn hdf fun w s₀ s₁ mg mb fa o pm cd doc a vs ns G Y ho hd hcd hmg hobj hints hlen hg=>?_
  have KX:=hY w _ Y
  obtain ⟨fd,hb,hF⟩:=F w mg fa _ KX G.T.g hmg
  exact law_call KX G.T.g G.T.b G.T.builtins G.T.nolimit hg hobj hints (Nat.le_trans hlen hn2) hr hF hb (fun H hO hS=>hsp w H a ns hlen hO hS) fun H e s'=>hCX w H s₁ e s'
end L2
namespace L2
open PySem PySem.Spec PyProof.Rows
noncomputable def defArgs (s:Stmt):Arguments:=match s with
  | .FunctionDef _ a _ _ _ _ _ _ _ _=>a
  | _=>{ posonlyargs:=[],args:=[],vararg:=none,kwonlyargs:=[],kw_defaults:=[],kwarg:=none,defaults:=[] }
noncomputable def defBody (s:Stmt):List Stmt:=match s with
  | .FunctionDef _ _ b _ _ _ _ _ _ _=>b
  | _=>[]
noncomputable def defScope (s:Stmt):Scope:=match s with
  | .FunctionDef _ _ _ _ _ _ sc _ _ _=>sc
  | _=>{ kind:=.function,names:=[],isGenerator:=false,isCoroutine:=false }
noncomputable abbrev CX0:CXT:=fun _ _ _ _ _ _=>False
noncomputable abbrev E0:XK:=fun _ _ _=>False
theorem pass0 {X:Cx}:Passes CX0 X E0:=fun _ _ _ _ _ _ _ h=>h.elim
structure Fun (K:PySem.W.Frag) (x qual:Str) (st:Stmt) (f:Addr) (fd:FuncData):Prop where
  ex:∃ (oc:Value) (od:Option Addr) (kV doc pm:Value) (an:Option Addr) (cdv ct:Value) (osl:Array (Option Value)),
    fd=PySem.W.fnOf x qual (defArgs st) (defBody st) (defScope st) .none kV doc pm an cdv ct∧K.lookup f=some ⟨oc,od,.func fd,osl⟩∧PySem.W.codeIn K cdv qual=true
  kp:PySem.W.keepIn K (.ref f)=true
section
variable {P:Program} {w:World} {K:PySem.W.Frag} {mg:Str→Option Value} {base:Heap}
theorem Fun.ok {x qual:Str} {st:Stmt} {f:Addr} {fd:FuncData} {N ps:List Str} {k:Nat} {sp:Sp} (F:Fun K x qual st f fd) (S:FnScope N ps (defScope st)) (len:∀ vs H Q E,sp vs H Q E→vs.length=ps.length)
    (hbody:∀ (cdv:Value) (A:Around) (outer:List Env) (s:Shared) (H:Hp) (vs:List V) (Q:VK) (E:XK),Room k (A.deeper (envOfC qual (defScope st) s.heap.objs.size f cdv))→sp vs H Q E →
      ∃ t,PSs (cxOf CX0 P w K mg base N qual (defScope st) f cdv A outer s H E).nox (defBody st) t∧t { nx:=fun _ H'=>Q .non H',rt:=Q } (start N vs) H):FnOk P w K mg base CX0 (k+1) f fd ps sp:=by
  obtain ⟨oc,od,kV,doc,pm,an,cdv,ct,osl,rfl,lk,hcd⟩:=F.ex
  refine fn_of lk hcd S len fun A outer s H vs Q E hr hsp=>?_
  obtain ⟨t,h,q⟩:=hbody cdv A outer s H vs Q E hr hsp
  exact ⟨t,h.nox,q⟩
theorem Fun.binds {x qual:Str} {st:Stmt} {f:Addr} {fd:FuncData} {ps:List Str} (F:Fun K x qual st f fd)
    (h:∀ (kV doc pm:Value) (an:Option Addr) (cdv ct:Value) (us:List Value),us.length=ps.length→bindArgs (PySem.W.fnOf x qual (defArgs st) (defBody st) (defScope st) .none kV doc pm an cdv ct) ⟨us,[]⟩=pure (ps.zip us)):Binds K fd ps []:=by
  obtain ⟨oc,od,kV,doc,pm,an,cdv,ct,osl,rfl,lk,hcd⟩:=F.ex
  exact .all (h kV doc pm an cdv ct)
theorem fun_mk {x qual:Str} {st:Stmt} {f:Addr} {oc:Value} {od an:Option Addr} {osl:Array (Option Value)} {kV doc pm cdv ct:Value} (l:K.lookup f=some ⟨oc,od,.func (PySem.W.fnOf x qual (defArgs st) (defBody st) (defScope st) .none kV doc pm an cdv ct),osl⟩)
    (c:PySem.W.codeIn K cdv qual=true) (k:PySem.W.keepIn K (.ref f)=true):Fun K x qual st f (PySem.W.fnOf x qual (defArgs st) (defBody st) (defScope st) .none kV doc pm an cdv ct):=⟨⟨oc,od,kV,doc,pm,an,cdv,ct,osl,rfl,l,c⟩,k⟩
end
section
variable {X:Cx}
end
section
variable {κ:Type} [DecidableEq κ]
end
end L2
namespace L2
open PySem PySem.Spec PyProof.Rows
noncomputable def clOf (cells:List (Str×Addr)):List (Str×NameKind)→List (Str×Addr)→List (Str×Addr)
  | [],acc=>acc
  | (n,k)::r,acc=>if k == .free then clOf cells r ((n,(cells.lookup n).getD 0)::acc) else clOf cells r acc
theorem closureFor_loop {env:Env}:∀ (names:List (Str×NameKind)) (acc:List (Str×Addr)),(∀ x∈names,x.2=.free→(env.cells.lookup x.1).isSome=true) →
    (forIn names acc fun (x:Str×NameKind) (r:List (Str×Addr))=>(do
      if x.2 == .free then do let c ← cellOf env x.1;pure (ForInStep.yield ((x.1,c)::r)) else pure (ForInStep.yield r):Sem (ForInStep (List (Str×Addr)))))=pure (clOf env.cells names acc)
  | [],acc,_=>rfl
  | (n,k)::r,acc,h=>by
    rw [List.forIn_cons]
    cases hk:k == NameKind.free with
    | true=>
      have e:k=.free:=by simpa using hk
      have hs:=h (n,k) List.mem_cons_self e
      obtain ⟨c,hc⟩:=Option.isSome_iff_exists.mp hs
      have hc':env.cells.lookup n=some c:=hc
      have hce:cellOf env n=pure c:=by unfold cellOf;rw [hc']
      simp only [if_true,hce,hc',Option.getD_some,pure_bind,clOf,hk]
      rw [closureFor_loop r _ fun x hx=>h x (List.mem_cons_of_mem _ hx)]
    | false=>
      simp only [Bool.false_eq_true,if_false,pure_bind,clOf,hk]
      exact closureFor_loop r _ fun x hx=>h x (List.mem_cons_of_mem _ hx)
theorem closureFor_eq {scope:Scope} {env:Env} (h:∀ x∈scope.names,x.2=.free→(env.cells.lookup x.1).isSome=true):closureFor scope env=pure (clOf env.cells scope.names []):=by
  have q:=closureFor_loop (env:=env) scope.names [] h
  unfold closureFor
  refine Eq.trans ?_ (Eq.trans (congrArg (fun (m:Sem (List (Str×Addr)))=>m >>= fun cs=>pure cs) q) ?_)
  · rfl
  · rfl
theorem clOf_look (cells:List (Str×Addr)):∀ (names:List (Str×NameKind)) (acc:List (Str×Addr)),(∀ x∈names,x.2=.free→(cells.lookup x.1).isSome=true)→(∀ y c,acc.lookup y=some c→cells.lookup y=some c) →
    ∀ y c,(clOf cells names acc).lookup y=some c→cells.lookup y=some c
  | [],_,_,ha=>ha
  | (n,k)::r,acc,h,ha=>by
    unfold clOf
    split
    · rename_i hk
      refine clOf_look cells r _ (fun x hx=>h x (List.mem_cons_of_mem _ hx)) fun y c e=>?_
      rw [List.lookup_cons] at e
      split at e
      · rename_i hy
        have hy':y=n:=by simpa using hy
        subst hy'
        obtain ⟨c',hc'⟩:=Option.isSome_iff_exists.mp (h (y,k) List.mem_cons_self (by simpa using hk))
        have hc'':cells.lookup y=some c':=hc'
        rw [hc''] at e ⊢
        exact e
      · exact ha y c e
    · exact clOf_look cells r _ (fun x hx=>h x (List.mem_cons_of_mem _ hx)) ha
theorem clOf_keeps (cells:List (Str×Addr)):∀ (names:List (Str×NameKind)) (acc:List (Str×Addr)) (y:Str),(acc.lookup y).isSome=true→((clOf cells names acc).lookup y).isSome=true
  | [],_,_,h=>h
  | (n,k)::r,acc,y,h=>by
    unfold clOf
    split
    · refine clOf_keeps cells r _ y ?_
      rw [List.lookup_cons]
      split
      · rfl
      · exact h
    · exact clOf_keeps cells r _ y h
theorem clOf_has (cells:List (Str×Addr)):∀ (names:List (Str×NameKind)) (acc:List (Str×Addr)) (y:Str),(y,NameKind.free)∈names→((clOf cells names acc).lookup y).isSome=true
  | [],_,_,h=>by simp at h
  | (n,k)::r,acc,y,h=>by
    unfold clOf
    rcases List.mem_cons.mp h with e | h
    · cases e
      rw [if_pos (by rfl)]
      exact clOf_keeps cells r _ _ (by rw [List.lookup_cons];simp)
    · split
      · exact clOf_has cells r _ y h
      · exact clOf_has cells r _ y h
theorem relabel_free {scope:Scope} {env:Env} {y:Str}:∀ {names:List (Str×NameKind)},
    ((names.map fun (n,k)=>if (k == NameKind.free&&env.scope.kind == .function&&env.kindOf n == some .cell) then (n,NameKind.cell) else (n,k)).lookup y=some .cell ∨
     (names.map fun (n,k)=>if (k == NameKind.free&&env.scope.kind == .function&&env.kindOf n == some .cell) then (n,NameKind.cell) else (n,k)).lookup y=some .free) →
    (∀ x∈names,x.2≠.cell)→(y,NameKind.free)∈names
  | [],h,_=>by simp at h
  | (n,k)::r,h,hc=>by
    have ih:=@relabel_free scope env y r
    have hr:∀ x∈r,x.2≠.cell:=fun x hx=>hc x (List.mem_cons_of_mem _ hx)
    rw [List.map_cons] at h
    by_cases hq:(k == NameKind.free&&env.scope.kind == .function&&env.kindOf n == some .cell)=true
    · have hk:k=.free:=by
        have:=hq
        simp only [Bool.and_eq_true] at this
        simpa using this.1.1
      simp only [hq,if_true] at h
      simp only [List.lookup_cons] at h
      cases hy:y == n with
      | true=>
        have e:y=n:=by simpa using hy
        rw [e,hk]
        exact List.mem_cons_self
      | false=>
        simp only [hy] at h
        exact List.mem_cons_of_mem _ (ih h hr)
    · simp only [hq,Bool.false_eq_true,if_false] at h
      simp only [List.lookup_cons] at h
      cases hy:y == n with
      | true=>
        simp only [hy] at h
        have e:y=n:=by simpa using hy
        rcases h with h | h
        · exact absurd (Option.some.inj h) (hc (n,k) List.mem_cons_self)
        · rw [e,← Option.some.inj h]
          exact List.mem_cons_self
      | false=>
        simp only [hy] at h
        exact List.mem_cons_of_mem _ (ih h hr)
noncomputable def cxB (X:Cx) (N':List Str) (scope:Scope) (C:Addr) (s:Shared) (H:Hp) (fp:List Addr):Cx:=
  { X with N:=N',s₀:=s,H₀:=H,env:=compEnvC scope (clOf X.env.cells scope.names []) C X.env,outer:=X.stack,ex:=fp,fn:=fun _=>false,pn:=[],xe:=fun _ _=>False }
noncomputable def PTs (X:Cx) (ifs:List Expr) (t:TT):Prop:=
  ∀ (pins:List (Addr×Obj)) (s:Shared) (σ:St) (H:Hp) (Q:Bool→Hp→Prop),Inv X pins σ H s→t σ H Q→wpAny (model X.prog X.w) X.A (forIn ifs true fun c r=>if r=true then do let ok ← isTrue c X.env (eval c X.env);pure (ForInStep.yield ok) else pure (ForInStep.yield r)) (TP X pins σ Q) X.xe s
theorem pts_nil {X:Cx}:PTs X [] (fun _ H Q=>Q true H):=fun _ _ _ H _ I h=>wpAny_tests_nil ⟨H,I,h⟩
theorem pts_one {X:Cx} {c:Expr} {t:TT} (h:PT X c t):PTs X [c] t:=fun pins s σ H Q I q=>wpAny_tests_one (h pins s σ H Q I q)
noncomputable def turnBy (e tg:Expr) (p0:Pos) (ifs:List Expr) (d:Nat) (it acc:Value) (env:Env) (bc:Sem Unit):Sem Fin:=do
  standAt p0
  let r ← pyNext it
  match r with
  | none=>pure (Fin.done Flow.next)
  | some v=>do
    letOwnedTupleGo tg it v
    assign tg env v
    let ok ← forIn ifs true fun c r=>if r=true then do let ok ← isTrue c env (eval c env);pure (ForInStep.yield ok) else pure (ForInStep.yield r)
    if ok=true then do bc;again (.compLoop e d it acc env) else again (.compLoop e d it acc env)
noncomputable def emitBy (elt:Expr) (acc:Value) (env:Env):Sem Unit:=do
  let x ← eval elt env
  let _ ← call (.builtin "list.append") [acc,x]
  pure ()
section
variable {prog:Program} {w:World} {A:Around} {R:Result→Shared→Prop} {s:Shared}
theorem codeAny_compLoop_own {e elt tg:Expr} {gens:List Comprehension} {scope:Scope} {pos p0:Pos} {ifs:List Expr} {d:Nat} {it acc:Value} {env:Env} {bc:Sem Unit} (he:e=.ListComp elt gens scope pos) (htn:compTurn e d it acc env=turnBy e tg p0 ifs d it acc env bc) (I:Nat→Shared→Prop)
    (turn:∀ n s,I n s→wpAny (model prog w) A (pyNext it) (fun r s₁=>match r with
      | none=>R (.ok .next) s₁
      | some v=>wpAny (model prog w) A (letOwnedTupleGo tg it v) (fun _ s₁'=>wpAny (model prog w) A (assign tg env v) (fun _ s₂=>
          wpAny (model prog w) A (forIn ifs true fun c r=>if r=true then do let ok ← isTrue c env (eval c env);pure (ForInStep.yield ok) else pure (ForInStep.yield r)) (fun ok s₃=>
            if ok=true then wpAny (model prog w) A bc (fun _ s₅=>∃ m,m<n∧I m s₅) (fun _ _=>False) s₃
            else ∃ m,m<n∧I m s₃) (fun _ _=>False) s₂) (fun _ _=>False) s₁') (fun _ _=>False) s₁) (fun _ _=>False) s)
    (n:Nat) (h:I n s) :
    codeAny (model prog w) A (.compLoop e d it acc env) R s:=by
  refine codeAny_loop rfl I (fun n s hI=>?_) n h
  subst he
  show wpAny _ A ((compTurn (.ListComp elt gens scope pos) d it acc env).onRaise (fun x=>do noteFrame x env;theTreesLotGoes x)) _ _ s
  refine wpAny_noted ?_
  rw [htn]
  refine wpAny_bind (wpAny_standAt (wpAny_bind (wpAny_mono (turn n s hI) (fun r s₁ h₁=>?_) fun _ _ h'=>h'.elim)))
  cases r with
  | none=>exact wpAny_pure h₁
  | some v=>
    refine wpAny_bind (wpAny_mono h₁ (fun _ s₁' h₁'=>?_) fun _ _ h'=>h'.elim)
    refine wpAny_bind (wpAny_mono h₁' (fun _ s₂ h₂=>wpAny_bind (wpAny_mono h₂ (fun ok s₃ h₃=>?_) fun _ _ h'=>h'.elim)) fun _ _ h'=>h'.elim)
    cases ok with
    | false=>exact wpAny_pure ⟨rfl,h₃⟩
    | true=>exact wpAny_bind (wpAny_mono h₃ (fun _ s₅ h₅=>wpAny_pure ⟨rfl,h₅⟩) fun _ _ h'=>h'.elim)
end
noncomputable abbrev TB:=St→Hp→(St→Hp→Prop)→Prop
noncomputable def PB (X:Cx) (m:Sem Unit) (tb:TB):Prop:=
  ∀ (pins:List (Addr×Obj)) (s:Shared) (σ:St) (H:Hp) (Q:St→Hp→Prop),Inv X pins σ H s→tb σ H Q→wpAny (model X.prog X.w) X.A m (fun _ s'=>∃ σ' H',Inv X pins σ' H' s'∧Q σ' H') X.xe s
noncomputable def tEm (te:TE) (p:Addr):TB:=fun σ H Q=>te σ H fun y H5=>∃ ys,H5 p=some (.lst ys)∧ys.length<sizeLine∧Q σ (upd H5 p (.lst (ys++[y])))
theorem pb_emit {X:Cx} {elt:Expr} {te:TE} {p:Addr} (he:PE X elt te):PB X (emitBy elt (.ref p) X.env) (tEm te p):=fun pins s σ H Q I h=>by
  refine wpAny_bind (thn (he pins s σ H _ I h) fun xv s8 ⟨y,H8,J8,r8,q8⟩=>?_)
  obtain ⟨ys,hy,hz,q9⟩:=q8
  refine wpAny_bind (thn (mt_append _ s8 σ H8 (.ref p) [y] (.ref p) [xv] (fun _ H9=>H9=upd H8 p (.lst (ys++[y]))) J8 rfl (.cons r8 .nil) ⟨_,ys,y,rfl,rfl,hy,hz,rfl⟩) fun _ s9 ⟨_,H9,J9,_,e9⟩=>?_)
  subst e9
  exact wpAny_pure ⟨_,_,J9,q9⟩
noncomputable def tCompL (J:It) (g:TG) (tt:TT) (tb:TB) (σ:St) (H:Hp) (Q:St→Hp→Prop):Prop:=∃ W:Nat→Nat→St→Hp→Prop,(∃ m,W 0 m σ H)∧∀ i m σ' H',W i m σ' H' →
  (J.stop i H'∧Q σ' H')∨(J.go i H'∧∀ x H2,J.yld i H' x H2→g x σ' H2 fun σ2 H3=>tt σ2 H3 fun ok H4=>
    if ok=true then tb σ2 H4 fun σ3 H5=>∃ m',m'<m∧W (i+1) m' σ3 H5 else ∃ m',m'<m∧W (i+1) m' σ2 H4)
theorem comp_loop {X:Cx} {e elt tg:Expr} {gens:List Comprehension} {scope:Scope} {pos p0:Pos} {ifs:List Expr} {d:Nat} {acc:Value} {bc:Sem Unit} {g:TG} {tt:TT} {tb:TB} {it:Addr} {fp:List Addr} {tn:Nat→Heap→Prop} {J:It}
    (hc:X.calm=true) (hx:∀ e s,X.xe e s→False) (hl:e=.ListComp elt gens scope pos) (htn:compTurn e d (.ref it) acc X.env=turnBy e tg p0 ifs d (.ref it) acc X.env bc) (hg:PG X tg g) (ht:PTs X ifs tt) (hb:PB X bc tb) (T:Turn X.prog X.w X.K tg J fp it tn)
    {pins:List (Addr×Obj)} {s:Shared} {σ:St} {H:Hp} {Q:St→Hp→Prop} (I:Inv X pins σ H s) (st:tn 0 s.heap) (f2:∀ b∈fp,FpOk X pins H b) (h:tCompL J g tt tb σ H Q) :
    codeAny (model X.prog X.w) X.A (.compLoop e d (.ref it) acc X.env) (fun r s'=>∃ σ' H',r=.ok .next∧Inv X pins σ' H' s'∧Q σ' H') s:=by
  obtain ⟨W,⟨m0,w0⟩,turn⟩:=h
  have no:∀ e s,X.xe e s→(fun (_:Value) (_:Shared)=>False) e s:=hx
  have stat:∀ {H':Hp},(∀ b∈fp,H' b=none)→∀ b∈fp,FpOk X pins H' b:=fun hn b hb=>⟨hn b hb,(f2 b hb).2⟩
  refine codeAny_compLoop_own hl htn (fun n s'=>∃ i σ' H',Inv X pins σ' H' s'∧tn i s'.heap∧(∀ b∈fp,H' b=none)∧W i n σ' H') ?_ m0 ⟨0,_,_,I,st,fun b hb=>(f2 b hb).1,w0⟩
  rintro n s3 ⟨i,σ3,H3,J3,st3,fr3,w3⟩
  rcases turn i n σ3 H3 w3 with ⟨stop,qn⟩ | ⟨go,step⟩
  · refine thn (T.done X rfl rfl rfl hc i pins s3 σ3 H3 _ J3 (stat fr3) st3 stop) fun r s4 ⟨hr,J4⟩=>?_
    subst hr
    exact ⟨σ3,H3,rfl,J4,qn⟩
  · refine thn (T.item X rfl rfl rfl hc i pins s3 σ3 H3 _ J3 (stat fr3) st3 go) fun r s4 ⟨u,hr,h4⟩=>?_
    subst hr
    refine thn h4 fun _ s5 ⟨x,H5,J5,r5,y5,st5,fr5⟩=>?_
    have J5':=J5.pinned (stat fr5) (T.obj _ _ st5)
    refine wpAny_mono (hg _ s5 σ3 H5 x u _ J5' r5 (step x H5 y5)) (fun _ s6 ⟨σ6,H6,J6,q6⟩=>?_) no
    refine wpAny_mono (ht _ s6 σ6 H6 _ J6 q6) (fun ok s7 ⟨H7,J7,q7⟩=>?_) no
    have again:∀ {s':Shared} {σ7:St} {H7:Hp},Inv X (pins++pinsAt fp s5.heap) σ7 H7 s'→(∃ m',m'<n∧W (i+1) m' σ7 H7)→∃ m,m<n∧∃ i σ' H',Inv X pins σ' H' s'∧tn i s'.heap∧(∀ b∈fp,H' b=none)∧W i m σ' H':=fun {s' σ7 H7} J7 n7=>by
      obtain ⟨m',hm,w7⟩:=n7
      refine ⟨m',hm,i+1,σ7,H7,J7.unpinned,T.keep _ _ _ st5 fun b hb o e=>(J7.pin (b,o) (List.mem_append_right _ (List.mem_append_right _ (mem_pinsAt hb e)))).1,fun b hb=>?_,w7⟩
      obtain ⟨o,e,d⟩:=T.obj _ _ st5 b hb
      exact (J7.pin (b,o) (List.mem_append_right _ (List.mem_append_right _ (mem_pinsAt hb e)))).2.1
    cases ok with
    | false=>
      rw [if_neg Bool.false_ne_true] at q7 ⊢
      exact again J7 q7
    | true=>
      rw [if_pos rfl] at q7 ⊢
      exact wpAny_mono (hb _ s7 σ6 H7 _ J7 q7) (fun _ s9 ⟨σ9,H9,J9,q9⟩=>again J9 q9) no
structure BlockOk (X:Cx) (N':List Str) (scope:Scope) (cap:List (Option Nat)):Prop where
  kind:scope.kind=.function
  nocell:∀ x∈scope.names,x.2≠.cell
  names:∀ x∈scope.names,x.2=.local→scope.names.lookup x.1=some .local
  free:∀ x∈scope.names,x.2=.free→(X.env.kindOf x.1=some .cell∨X.env.kindOf x.1=some .free)
  nd:N'.Nodup
  len:cap.length=N'.length
  cap:∀ (j i:Nat),cap[j]?=some (some i)→∃ y,N'[j]?=some y∧X.N[i]?=some y∧Vis X.env.scope y∧(X.env.kindOf y=some .cell∨X.env.kindOf y=some .free)∧((relabel scope X.env).names.lookup y=some .cell∨(relabel scope X.env).names.lookup y=some .free)
noncomputable def σB (cap:List (Option Nat)) (σ:St):St:=cap.map fun o=>o.bind fun i=>(σ[i]?).join
section
variable {X:Cx} {pins:List (Addr×Obj)} {σ:St} {H:Hp} {s:Shared} {N':List Str} {scope:Scope} {cap:List (Option Nat)} {C:Addr} {fp:List Addr}
theorem BlockOk.cells (B:BlockOk X N' scope cap) (ok:X.Ok):∀ x∈scope.names,x.2=.free→(X.env.cells.lookup x.1).isSome=true:=fun x hx hf=>by
  obtain ⟨c,e⟩:=ok.has x.1 (B.free x hx hf)
  rw [e];rfl
theorem BlockOk.cl (B:BlockOk X N' scope cap) (ok:X.Ok):∀ y c,(clOf X.env.cells scope.names []).lookup y=some c→X.env.cells.lookup y=some c:=
  clOf_look _ _ _ (B.cells ok) fun y c e=>by simp at e
theorem Inv.notStk (I:Inv X pins σ H s) {b:Addr} (h1:b≠X.env.locals) (h2:b ∉ X.fs):b ∉ frs X.stack:=fun z=>(List.mem_cons.mp (I.stkSub b z)).elim h1 h2
theorem Inv.block {h4:Heap} {tk:Nat} {m0:Str→Option Value} (I:Inv X pins σ H s) (B:BlockOk X N' scope cap) (hfp:∀ b∈fp,FpOk X pins H b∧b<s.heap.objs.size) (hC:s.heap.objs.size≤C)
    (hk:∀ b o,s.heap.get? b=some o→h4.get? b=some o) (hn:h4.Ns C m0):Inv (cxB X N' scope C s H fp) [] (σB cap σ) H { s with heap:=h4,toks:=tk }:=by
  have okX:=I.ok
  have hcl:=B.cl okX
  have cellC:∀ x c,(clOf X.env.cells scope.names []).lookup x=some c→∃ v,s.heap.IsCell c v:=fun x c e=>I.cell x c (hcl x c e)
  have neC:∀ b o,s.heap.get? b=some o→b≠C:=fun b o e=>Nat.ne_of_lt (Nat.lt_of_lt_of_le (Heap.lt_size e) hC)
  refine ⟨⟨okX.mod,B.kind,okX.glob,okX.blt,hC,fun x y c e1 e2=>okX.inj x y c (hcl x c e1) (hcl y c e2),fun x hx=>?_,fun x c e _=>(by cases e),okX.hd,okX.frames,.inl rfl,fun b hb=>⟨fun z=>?_,fun x c e z=>?_⟩,fun b o e=>I.bs b o e,Nat.le_trans okX.bsz I.sz,fun b o e hb=>?_,fun b hb z=>?_,I.stack,I.stkFree⟩,
    rfl,I.bare,Un.kept hk,⟨m0,hn,fun j y v e1 e2 e3=>?_⟩,fun x c e=>?_,I.hok.fresh hC,fun x c e=>I.freeC x c (hcl x c e),fun p hp=>absurd (show p∈([]:List (Addr×Obj)) from hp) (by simp),I.hok.kept hk,?_⟩
  · have q:=relabel_free (scope:=scope) (env:=X.env) (y:=x) (names:=scope.names) hx B.nocell
    exact Option.isSome_iff_exists.mp (clOf_has _ _ _ _ q)
  · have z':b=C:=z
    exact absurd (hfp b hb).2 (by rw [z'];exact Nat.not_lt.mpr hC)
  · exact (hfp b hb).1.2.2.2.2.1 x c (hcl x c e) z
  · obtain ⟨h0,h1,h2,h3,h4',h5⟩:=(hfp b hb).1
    rcases h3 with h3 | h3
    · exact okX.noex b o e h3
    · have:=(okX.bs b o e).1
      exact absurd (Nat.lt_of_lt_of_le (Heap.lt_size this) h3) (Nat.lt_irrefl _)
  · obtain ⟨h0,h1,h2,h3,h4',h5⟩:=(hfp b hb).1
    exact I.notStk h1 h2 z
  · have e1':N'[j]?=some y:=e1
    unfold σB at e2
    rw [List.getElem?_map] at e2
    cases ec:cap[j]? with
    | none=>rw [ec] at e2;cases e2
    | some o=>
      rw [ec] at e2
      cases o with
      | none=>cases e2
      | some i=>
        obtain ⟨y',n1,n2,vis,kx,kb⟩:=B.cap j i ec
        rw [e1'] at n1;cases n1
        have e2':(σ[i]?).join=some v:=Option.some.inj e2
        have e2'':σ[i]?=some (some v):=by
          cases q:σ[i]? with
          | none=>rw [q] at e2';cases e2'
          | some z=>rw [q] at e2';exact congrArg some e2'
        obtain ⟨m,hm,hl⟩:=I.loc
        obtain ⟨u,ru,lk⟩:=hl i y v n2 e2'' vis
        refine ⟨u,ru,.inr ⟨kb,?_⟩⟩
        rcases lk with ⟨k,_⟩ | ⟨k,c,ec',z⟩
        · rcases kx with kx | kx
          · rw [kx] at k;cases k
          · rw [kx] at k;cases k
        · have q:=relabel_free (scope:=scope) (env:=X.env) (y:=y) (names:=scope.names) kb B.nocell
          obtain ⟨c',hc'⟩:=Option.isSome_iff_exists.mp (clOf_has X.env.cells scope.names [] y q)
          have:=hcl y c' hc'
          rw [ec'] at this;cases this
          exact ⟨c,hc',z.keeps hk⟩
  · obtain ⟨v,z⟩:=cellC x c e
    exact ⟨v,z.keeps hk⟩
  · show (σB cap σ).length=N'.length
    unfold σB
    rw [List.length_map,B.len]
theorem Inv.unblock {Hf:Hp} {s':Shared} {σ':St} {pins':List (Addr×Obj)} (I:Inv X pins σ H s) (hfp:∀ b∈fp,FpOk X pins H b) (J:Inv (cxB X N' scope C s H fp) pins' σ' Hf s'):Inv X pins σ Hf s':=
  I.call' (ch:=fp) J.os J.base J.hok J.bare fun b hb=>by
    obtain ⟨h0,h1,h2,h3,h4,h5⟩:=hfp b hb
    exact ⟨h3,h1,h4,h5⟩
end
noncomputable def tCompB (wi:TI) (g:TG) (tt:TT) (tb:Addr→TB) (cap:List (Option Nat)):TE:=fun σ H Q=>wi σ H fun J H1=>∀ p,H1 p=none→tCompL J g tt (tb p) (σB cap σ) (upd H1 p (.lst [])) fun _ H'=>Q (.ref p) H'
noncomputable def tComp (wi:TI) (g:TG) (tt:TT) (te:TE) (cap:List (Option Nat)):TE:=tCompB wi g tt (tEm te) cap
noncomputable def Behind (X:Cx) (pins:List (Addr×Obj)) (σ:St) (Q:VK) (acc:Value) (C:Addr) (r:Result) (s':Shared):Prop:=
  ∃ p Hf m,r=.ok .next∧acc=.ref p∧Inv X pins σ Hf s'∧Q (.ref p) Hf∧s'.heap.Ns C m∧Hf C=none∧C≠X.env.locals∧X.s₀.heap.objs.size≤C∧(∀ x c,X.env.cells.lookup x=some c→c≠C)∧(∀ q∈X.pn++pins,q.1≠C)
theorem comp_block {X:Cx} {elt iter tg:Expr} {ifs:List Expr} {rest:List Comprehension} {scope:Scope} {pos:Pos} {N':List Str} {cap:List (Option Nat)} {wi:TI} {g:TG} {tt:TT} {tb:Addr→TB} {bc:Value→Env→Sem Unit}
    (hc:X.calm=true) (B:BlockOk X N' scope cap) (hi:PI X tg iter wi) (hg:∀ C s H fp,PG (cxB X N' scope C s H fp) tg g) (ht:∀ C s H fp,PTs (cxB X N' scope C s H fp) ifs tt)
    (htn:∀ it acc env,compTurn (.ListComp elt (⟨tg,iter,ifs,0⟩::rest) scope pos) 0 it acc env=turnBy (.ListComp elt (⟨tg,iter,ifs,0⟩::rest) scope pos) tg iter.pos ifs 0 it acc env (bc acc env))
    (hb:∀ C s H fp p,PB (cxB X N' scope C s H fp) (bc (.ref p) (cxB X N' scope C s H fp).env) (tb p))
    {pins:List (Addr×Obj)} {s:Shared} {σ:St} {H:Hp} {Q:VK} (I:Inv X pins σ H s) (h:tCompB wi g tt tb cap σ H Q) {E:Value→Shared→Prop} (hE:∀ e s,X.xe e s→E e s) :
    wpAny (model X.prog X.w) X.A (eval iter X.env) (fun x s₁=>wpAny (model X.prog X.w) X.A (pyIter x) (fun it s₂=>wpAny (model X.prog X.w) X.A (newList []) (fun acc s₃=>
      wpAny (model X.prog X.w) X.A (newFunctionEnv scope X.env.globals (clOf X.env.cells scope.names []) [] X.env.qual none .none (some X.env)) (fun cenv s₄=>
        codeAny (model X.prog X.w) X.A (.compStart (.ListComp elt (⟨tg,iter,ifs,0⟩::rest) scope pos) 0 it acc { cenv with scope:=relabel scope X.env }) (Behind X pins σ Q acc cenv.locals) s₄) E s₃) E s₂) E s₁) E s:=by
  refine wpAny_mono (hi pins s σ H _ I h) (fun v s1 h1=>wpAny_mono h1 (fun itv s2 h2=>?_) hE) hE
  obtain ⟨it,fp,tn,J,H1,e,I2,T,st2,f2,hW⟩:=h2
  subst e
  refine wpAny_newObj_type (wpAny_newFunctionEnv B.nocell (by intro y hy;simp at hy) (fun h₁ hns₁ hsb₁=>?_) B.kind)
  dsimp only at hns₁ hsb₁ ⊢
  have hp1:H1 s2.heap.objs.size=none:=I2.hok.fresh (Nat.le_refl _)
  have hL:=hW s2.heap.objs.size hp1
  have I3:Inv X pins σ (upd H1 s2.heap.objs.size (.lst [])) { s2 with heap:=s2.heap.push { cls:=.type "list",dict:=none,data:=.seq ([]:List Value).toArray },toks:=s2.toks }:=
    I2.laid (fun b o e=>Heap.get?_push_of_some _ e) (Nat.le_refl _) ⟨Nat.zero_le _,[],_,.nil,Heap.get?_push_size _ rfl⟩
  generalize hH2:s2.heap.push { cls:=.type "list",dict:=none,data:=.seq ([]:List Value).toArray } = H2 at hns₁ hsb₁ I3 ⊢
  have hC:H2.objs.size=s2.heap.objs.size+1:=by rw [← hH2,Heap.size_push]
  have ltfp:∀ b∈fp,b<s2.heap.objs.size:=fun b hb=>by
    obtain ⟨o,e,_⟩:=T.obj _ _ st2 b hb
    exact Heap.lt_size e
  have hf3:∀ b∈fp,FpOk X pins (upd H1 s2.heap.objs.size (.lst [])) b∧b<H2.objs.size:=fun b hb=>by
    obtain ⟨a0,a⟩:=f2 b hb
    refine ⟨⟨?_,a⟩,by rw [hC];exact Nat.lt_succ_of_lt (ltfp b hb)⟩
    rw [upd_ne (Nat.ne_of_lt (ltfp b hb))];exact a0
  have up:∀ b o,H2.get? b=some o→h₁.get? b=some o:=fun b o e=>hsb₁.extBut b o (Nat.ne_of_lt (Heap.lt_size e)) (Heap.get?_push_of_some _ e)
  have I4:=I3.block (C:=H2.objs.size) (fp:=fp) (h4:=h₁) (tk:=s2.toks+([]:List (Str×Value)).length) B hf3 (Nat.le_refl _) up hns₁
  have st4:tn 0 h₁:=T.keep _ _ _ st2 fun b hb o e=>up b o (by rw [← hH2];exact Heap.get?_push_of_some _ e)
  have loop:codeAny (model X.prog X.w) X.A (.compLoop (.ListComp elt (⟨tg,iter,ifs,0⟩::rest) scope pos) 0 (.ref it) (.ref s2.heap.objs.size) (compEnvC scope (clOf X.env.cells scope.names []) H2.objs.size X.env))
        (Behind X pins σ Q (.ref s2.heap.objs.size) H2.objs.size) { s2 with heap:=h₁,toks:=s2.toks+([]:List (Str×Value)).length }:=by
    refine codeAny_mono (comp_loop (X:=cxB X N' scope H2.objs.size { s2 with heap:=H2,toks:=s2.toks } (upd H1 s2.heap.objs.size (.lst [])) fp) hc (fun _ _ z=>z) rfl (htn _ _ _) (hg _ _ _ _) (ht _ _ _ _) (hb _ _ _ _ _) T I4 st4 (fun b hb=>?_) hL) fun r s4 ⟨σ4,H4,hr,J4,qn⟩=>?_
    · obtain ⟨h0,h1,h2,h3,h4',h5⟩:=(hf3 b hb).1
      exact ⟨h0,Nat.ne_of_lt (hf3 b hb).2,I3.notStk h1 h2,.inl hb,fun x c e=>h4' x c (B.cl I3.ok x c e),fun p hp=>absurd (show p∈([]:List (Addr×Obj)) from hp) (by simp)⟩
    · obtain ⟨m,hm,_⟩:=J4.loc
      have IX:=I3.unblock (fun b hb=>(hf3 b hb).1) J4
      refine ⟨_,H4,m,hr,rfl,IX,qn,hm,J4.free,?_,?_,fun x c e z=>?_,fun q hq z=>?_⟩
      · exact Ne.symm (Nat.ne_of_lt I3.lt)
      · exact I3.sz
      · obtain ⟨v,q⟩:=I3.cell x c e
        exact absurd q.lt (by rw [z];exact Nat.lt_irrefl _)
      · exact absurd (Heap.lt_size (I3.pin q hq).1) (by rw [z];exact Nat.lt_irrefl _)
  exact codeAny_compStart_list loop (T.self _ 0 _ _ _ st4 loop)
theorem pe_compB {X:Cx} {elt iter tg:Expr} {ifs:List Expr} {rest:List Comprehension} {scope:Scope} {pos:Pos} {N':List Str} {cap:List (Option Nat)} {wi:TI} {g:TG} {tt:TT} {tb:Addr→TB} {bc:Value→Env→Sem Unit}
    (hc:X.calm=true) (B:BlockOk X N' scope cap) (hi:PI X tg iter wi) (hg:∀ C s H fp,PG (cxB X N' scope C s H fp) tg g) (ht:∀ C s H fp,PTs (cxB X N' scope C s H fp) ifs tt) (htn:∀ it acc env,compTurn (.ListComp elt (⟨tg,iter,ifs,0⟩::rest) scope pos) 0 it acc env=turnBy (.ListComp elt (⟨tg,iter,ifs,0⟩::rest) scope pos) tg iter.pos ifs 0 it acc env (bc acc env))
    (hb:∀ C s H fp p,PB (cxB X N' scope C s H fp) (bc (.ref p) (cxB X N' scope C s H fp).env) (tb p))
    (hs:∀ x,foldedSetIterable iter X.env x=pure x:=by intro _;rfl):PE X (.ListComp elt (⟨tg,iter,ifs,0⟩::rest) scope pos) (tCompB wi g tt tb cap):=by
  intro pins s σ H Q I h
  rw [eval_ListComp]
  refine wpAny_comprehension_free (use:=none) rfl hs (closureFor_eq (B.cells I.ok)) B.kind B.names ?_
  refine wpAny_mono (comp_block hc B hi hg ht htn hb I h fun _ _ x=>x) (fun x s1 h1=>wpAny_mono h1 (fun it s2 h2=>wpAny_mono h2 (fun acc s3 h3=>wpAny_mono h3 (fun cenv s4 h4=>codeAny_mono h4 fun r s' hr=>?_) fun _ _ x=>x) fun _ _ x=>x) fun _ _ x=>x) fun _ _ x=>x
  obtain ⟨p,Hf,m,rfl,rfl,J,q,hn,c1,c2,c3,c4,c5⟩:=hr
  exact ⟨m,hn,fun h' sb=>⟨_,Hf,J.turned (t':=s'.toks) (fun b o hb e=>(sb.2 b hb).trans e) c1 c2 (.inr c3) c4 c5,(show RelV (.ref p) (.ref p) from rfl),q⟩⟩
theorem ps_setCompB {X:Cx} {elt iter tg:Expr} {ifs:List Expr} {rest:List Comprehension} {scope:Scope} {pos spos py:Pos} {N':List Str} {cap:List (Option Nat)} {wi:TI} {g:TG} {tt:TT} {tb:Addr→TB} {bc:Value→Env→Sem Unit} {y:Str} {i:Nat}
    (hN:X.N.Nodup) (hy:X.N[i]?=some y) (hx:Loc X.env.scope y)
    (hc:X.calm=true) (B:BlockOk X N' scope cap) (hi:PI X tg iter wi) (hg:∀ C s H fp,PG (cxB X N' scope C s H fp) tg g) (ht:∀ C s H fp,PTs (cxB X N' scope C s H fp) ifs tt) (htn:∀ it acc env,compTurn (.ListComp elt (⟨tg,iter,ifs,0⟩::rest) scope pos) 0 it acc env=turnBy (.ListComp elt (⟨tg,iter,ifs,0⟩::rest) scope pos) tg iter.pos ifs 0 it acc env (bc acc env))
    (hb:∀ C s H fp p,PB (cxB X N' scope C s H fp) (bc (.ref p) (cxB X N' scope C s H fp).env) (tb p))
    (hsw:swapsWith (.ListComp elt (⟨tg,iter,ifs,0⟩::rest) scope pos) (some (.Name y py)) spos.line X.env=pure true:=by rfl)
    (hs:∀ x,foldedSetIterable iter X.env x=pure x:=by intro _;rfl) (hf:X.fn y=true∨X.env.scope.names.lookup y=some .local:=by first | exact .inl rfl | exact .inr rfl | assumption) :
    PS X (.Assign [.Name y py] (.ListComp elt (⟨tg,iter,ifs,0⟩::rest) scope pos) spos) (tAsg (tCompB wi g tt tb cap) (gName i)):=by
  intro pins s σ H D I h
  rw [exec_Assign_Name_used _ _ _ _ hsw]
  refine wpAny_bind (wpAny_standAt (wpAny_bind ?_))
  show wpAny _ _ (do let _ ← comprehension (.ListComp elt (⟨tg,iter,ifs,0⟩::rest) scope pos) scope X.env _ (newList []) false (eval iter X.env) (some (assign (.Name y py) X.env))) _ _ s
  refine wpAny_bind (wpAny_mono (wpAny_comprehension_free (use:=some (assign (.Name y py) X.env)) (Q:=fun _ s'=>SP X pins D .next s') rfl hs (closureFor_eq (B.cells I.ok)) B.kind B.names
    (wpAny_mono (comp_block hc B hi hg ht htn hb I h fun _ _ x=>x) (fun x s1 h1=>wpAny_mono h1 (fun it s2 h2=>wpAny_mono h2 (fun acc s3 h3=>wpAny_mono h3 (fun cenv s4 h4=>codeAny_mono h4 fun r s' hr=>?_) fun _ _ x=>x) fun _ _ x=>x) fun _ _ x=>x) fun _ _ x=>x))
    (fun _ s' hq=>wpAny_pure (wpAny_pure hq)) fun _ _ e=>e)
  obtain ⟨p,Hf,m,rfl,rfl,J,q,hn,c1,c2,c3,c4,c5⟩:=hr
  refine wpAny_assign_Name (store_ok2 J hN hy hx (v:=.ref p) rfl (fun s2 J2 ⟨a,sb,ha⟩=>?_) hf)
  refine ⟨m,hn.sameBut sb ?_,fun h' sb2=>⟨_,Hf,J2.turned (t':=s2.toks) (fun b o hb e=>(sb2.2 b hb).trans e) c1 c2 (.inr c3) c4 c5,q⟩⟩
  rcases ha with rfl | ha
  · exact c2
  · exact Ne.symm (c4 _ _ ha)
theorem pe_comp {X:Cx} {elt iter tg:Expr} {ifs:List Expr} {scope:Scope} {pos:Pos} {N':List Str} {cap:List (Option Nat)} {wi:TI} {g:TG} {tt:TT} {te:TE}
    (hc:X.calm=true) (B:BlockOk X N' scope cap) (hi:PI X tg iter wi) (hg:∀ C s H fp,PG (cxB X N' scope C s H fp) tg g) (ht:∀ C s H fp,PTs (cxB X N' scope C s H fp) ifs tt) (he:∀ C s H fp,PE (cxB X N' scope C s H fp) elt te)
    (hs:∀ x,foldedSetIterable iter X.env x=pure x:=by intro _;rfl):PE X (.ListComp elt [⟨tg,iter,ifs,0⟩] scope pos) (tComp wi g tt te cap):=
  pe_compB hc B hi hg ht (fun _ _ _=>compTurn_list ..) (fun C s H fp p=>pb_emit (he C s H fp)) hs
theorem ps_setComp {X:Cx} {elt iter tg:Expr} {ifs:List Expr} {scope:Scope} {pos spos py:Pos} {N':List Str} {cap:List (Option Nat)} {wi:TI} {g:TG} {tt:TT} {te:TE} {y:Str} {i:Nat}
    (hN:X.N.Nodup) (hy:X.N[i]?=some y) (hx:Loc X.env.scope y)
    (hc:X.calm=true) (B:BlockOk X N' scope cap) (hi:PI X tg iter wi) (hg:∀ C s H fp,PG (cxB X N' scope C s H fp) tg g) (ht:∀ C s H fp,PTs (cxB X N' scope C s H fp) ifs tt) (he:∀ C s H fp,PE (cxB X N' scope C s H fp) elt te)
    (hsw:swapsWith (.ListComp elt [⟨tg,iter,ifs,0⟩] scope pos) (some (.Name y py)) spos.line X.env=pure true:=by rfl)
    (hs:∀ x,foldedSetIterable iter X.env x=pure x:=by intro _;rfl) (hf:X.fn y=true∨X.env.scope.names.lookup y=some .local:=by first | exact .inl rfl | exact .inr rfl | assumption) :
    PS X (.Assign [.Name y py] (.ListComp elt [⟨tg,iter,ifs,0⟩] scope pos) spos) (tAsg (tComp wi g tt te cap) (gName i)):=
  ps_setCompB hN hy hx hc B hi hg ht (fun _ _ _=>compTurn_list ..) (fun C s H fp p=>pb_emit (he C s H fp)) hsw hs hf
end L2
namespace M
open PySem PySem.Spec PyProof.Rows L2
inductive D where
  | non
  | bl (b:Bool)
  | int (i:Int)
  | str (x:Str)
  | tup (xs:List D)
  | lst (xs:List D)
  | rol (xs:List D)
  | dct (ks:List Key) (vs:List D)
  | ref (r:Nat)
inductive Cell where
  | lst (xs:List D)
  | dct (ks:List Key) (vs:List D)
noncomputable abbrev Store:=List Cell
structure Fp where
  cs:List Addr
  fb:List Addr
noncomputable def Fp.no (μ:Fp) (a:Addr):Prop:=a ∉ μ.cs∧a ∉ μ.fb
noncomputable abbrev MEnv:=List (Option D)
theorem nodupIx {α:Type} {N:List α} (hN:N.Nodup) {i j:Nat} {x:α} (a:N[i]?=some x) (b:N[j]?=some x):i=j:=by
  obtain ⟨h1,e1⟩:=List.getElem?_eq_some_iff.mp a
  obtain ⟨h2,e2⟩:=List.getElem?_eq_some_iff.mp b
  exact (List.getElem_inj hN).mp (e1.trans e2.symm)
noncomputable def KList (K:PySem.W.Frag) (a:Addr) (xs:List V):Prop:=∃ (o:Obj) (its:Array Value) (n:Nat),K.lookup a=some o∧o.cls=.type "list"∧o.dict=none∧o.data=.seq its n∧its.size≤sizeLine∧Vals xs its.toList
noncomputable def KTup (K:PySem.W.Frag) (a:Addr) (xs:List V):Prop:=∃ (o:Obj) (its:Array Value) (n:Nat),K.lookup a=some o∧o.cls=.type "tuple"∧o.dict=none∧o.data=.seq its n∧its.size≤sizeLine∧Vals xs its.toList
mutual
inductive Rep (K:PySem.W.Frag) (μ:Fp) (H:Hp):V→D→Prop
  | non:Rep K μ H .non .non
  | bl (b:Bool):Rep K μ H (.bl b) (.bl b)
  | int (i:Int):Rep K μ H (.int i) (.int i)
  | str (x:Str):Rep K μ H (.str x) (.str x)
  | tup {a:Addr} {vs:List V} {ds:List D} (h:H a=some (.tup vs)) (n:μ.no a) (r:Reps K μ H vs ds):Rep K μ H (.ref a) (.tup ds)
  | ktup {a:Addr} {vs:List V} {ds:List D} (h:KTup K a vs) (r:Reps K μ H vs ds):Rep K μ H (.ref a) (.tup ds)
  | lst {a:Addr} {vs:List V} {ds:List D} (h:H a=some (.lst vs)) (n:μ.no a) (r:Reps K μ H vs ds):Rep K μ H (.ref a) (.lst ds)
  | rol {a:Addr} {vs:List V} {ds:List D} (h:Rd H a (.lst vs)) (n:μ.no a) (r:Reps K μ H vs ds):Rep K μ H (.ref a) (.rol ds)
  | krol {a:Addr} {vs:List V} {ds:List D} (h:KList K a vs) (r:Reps K μ H vs ds):Rep K μ H (.ref a) (.rol ds)
  | dct {a:Addr} {kvs:List (Key×V)} {ds:List D} (h:H a=some (.dK kvs)) (n:μ.no a) (r:Reps K μ H (kvs.map (·.2)) ds):Rep K μ H (.ref a) (.dct (kvs.map (·.1)) ds)
  | ref {a:Addr} {r:Nat} (h:μ.cs[r]?=some a):Rep K μ H (.ref a) (.ref r)
inductive Reps (K:PySem.W.Frag) (μ:Fp) (H:Hp):List V→List D→Prop
  | nil:Reps K μ H [] []
  | cons {v:V} {d:D} {vs:List V} {ds:List D} (h:Rep K μ H v d) (t:Reps K μ H vs ds):Reps K μ H (v::vs) (d::ds)
end
structure Ext (μ:Fp) (H:Hp) (μ':Fp) (H':Hp):Prop where
  fb:μ'.fb = μ.fb
  pre:∃ l,μ'.cs = μ.cs++l∧∀ a∈l,H a=none
  keep:∀ a o,a ∉ μ.cs→H a=some o→H' a=some o
  dom:∀ a ∈ μ'.cs,H' a≠none
section
variable {K:PySem.W.Frag} {μ μ' μ'':Fp} {H H' H'':Hp}
theorem Ext.stays (e:Ext μ H μ' H') {a:Addr} {o:HO} (h:H a=some o) (n:μ.no a):H' a=some o∧μ'.no a:=by
  refine ⟨e.keep a o n.1 h,fun z=>?_,by rw [e.fb];exact n.2⟩
  obtain ⟨l,q,hl⟩:=e.pre
  rw [q] at z
  rcases List.mem_append.mp z with z | z
  · exact n.1 z
  · rw [hl a z] at h;cases h
theorem Ext.keeps (e:Ext μ H μ' H') {a:Addr} {o:HO} (h:H a=some o) (n:a ∉ μ.cs):H' a=some o∧a ∉ μ'.cs:=by
  refine ⟨e.keep a o n h,fun z=>?_⟩
  obtain ⟨l,q,hl⟩:=e.pre
  rw [q] at z
  rcases List.mem_append.mp z with z | z
  · exact n z
  · rw [hl a z] at h;cases h
theorem Ext.trans (e:Ext μ H μ' H') (f:Ext μ' H' μ'' H''):Ext μ H μ'' H'':=by
  obtain ⟨l,q,hl⟩:=e.pre
  obtain ⟨l',q',hl'⟩:=f.pre
  refine ⟨f.fb.trans e.fb,⟨l++l',by rw [q',q,List.append_assoc],fun a ha=>?_⟩,fun a o n h=>?_,f.dom⟩
  · rcases List.mem_append.mp ha with ha | ha
    · exact hl a ha
    · have h1:=hl' a ha
      cases q2:H a with
      | none=>rfl
      | some o=>
        by_cases hm:a ∈ μ.cs
        · exact absurd h1 (e.dom a (by rw [q];exact List.mem_append_left _ hm))
        · rw [e.keep a o hm q2] at h1;cases h1
  · have:=e.keeps h n
    exact f.keep a o this.2 this.1
theorem Ext.refl (h:∀ a ∈ μ.cs,H a≠none):Ext μ H μ H:=⟨rfl,⟨[],by simp,fun _ z=>by simp at z⟩,fun _ _ _ h=>h,h⟩
mutual
theorem Rep.imp (hk:∀ {a:Addr} {o:HO},H a=some o→μ.no a→H' a=some o∧μ'.no a) (hr:∀ {r:Nat} {a:Addr},μ.cs[r]?=some a→μ'.cs[r]?=some a):∀ {v:V} {d:D},Rep K μ H v d→Rep K μ' H' v d
  | _,_,.non=>.non
  | _,_,.bl b=>.bl b
  | _,_,.int i=>.int i
  | _,_,.str x=>.str x
  | _,_,.tup h n r=>.tup (hk h n).1 (hk h n).2 (Reps.imp hk hr r)
  | _,_,.ktup h r=>.ktup h (Reps.imp hk hr r)
  | _,_,.lst h n r=>.lst (hk h n).1 (hk h n).2 (Reps.imp hk hr r)
  | _,_,.rol (.inl h) n r=>.rol (.inl (hk h n).1) (hk h n).2 (Reps.imp hk hr r)
  | _,_,.rol (.inr ⟨o,h⟩) n r=>.rol (.inr ⟨o,(hk h n).1⟩) (hk h n).2 (Reps.imp hk hr r)
  | _,_,.krol h r=>.krol h (Reps.imp hk hr r)
  | _,_,.dct h n r=>.dct (hk h n).1 (hk h n).2 (Reps.imp hk hr r)
  | _,_,.ref h=>.ref (hr h)
theorem Reps.imp (hk:∀ {a:Addr} {o:HO},H a=some o→μ.no a→H' a=some o∧μ'.no a) (hr:∀ {r:Nat} {a:Addr},μ.cs[r]?=some a→μ'.cs[r]?=some a):∀ {vs:List V} {ds:List D},Reps K μ H vs ds→Reps K μ' H' vs ds
  | _,_,.nil=>.nil
  | _,_,.cons h t=>.cons (Rep.imp hk hr h) (Reps.imp hk hr t)
end
theorem app_ix {l m:List Addr} {k:List Addr} (q:k=l++m) {r:Nat} {a:Addr} (h:l[r]?=some a):k[r]?=some a:=by
  rw [q,List.getElem?_append_left (List.getElem?_eq_some_iff.mp h).1];exact h
theorem Ext.ix (e:Ext μ H μ' H') {r:Nat} {a:Addr} (h:μ.cs[r]?=some a):μ'.cs[r]?=some a:=by
  obtain ⟨l,q,_⟩:=e.pre
  exact app_ix q h
theorem Rep.mono (e:Ext μ H μ' H') {v:V} {d:D} (r:Rep K μ H v d):Rep K μ' H' v d:=r.imp e.stays e.ix
theorem Reps.mono (e:Ext μ H μ' H') {vs:List V} {ds:List D} (r:Reps K μ H vs ds):Reps K μ' H' vs ds:=r.imp e.stays e.ix
theorem Reps.length:∀ {vs:List V} {ds:List D},Reps K μ H vs ds→vs.length=ds.length
  | _,_,.nil=>rfl
  | _,_,.cons _ t=>by simp [Reps.length t]
theorem Reps.get:∀ {vs:List V} {ds:List D} {i:Nat} {d:D},Reps K μ H vs ds→ds[i]?=some d→∃ v,vs[i]?=some v∧Rep K μ H v d
  | _,_,_,_,.nil,e=>by simp at e
  | _,_,0,_,.cons h _,e=>by simp at e;subst e;exact ⟨_,rfl,h⟩
  | _,_,i+1,d,.cons _ t,e=>by
    obtain ⟨u,h1,h2⟩:=Reps.get (i:=i) (d:=d) t (by simpa using e)
    exact ⟨u,by simpa using h1,h2⟩
theorem Reps.append:∀ {vs ws:List V} {ds es:List D},Reps K μ H vs ds→Reps K μ H ws es→Reps K μ H (vs++ws) (ds++es)
  | _,_,_,_,.nil,s=>s
  | _,_,_,_,.cons r t,s=>.cons r (Reps.append t s)
theorem Reps.take:∀ {vs:List V} {ds:List D} (n:Nat),Reps K μ H vs ds→Reps K μ H (vs.take n) (ds.take n)
  | _,_,0,_=>.nil
  | _,_,_+1,.nil=>.nil
  | _,_,n+1,.cons r t=>.cons r (Reps.take n t)
theorem Reps.drop:∀ {vs:List V} {ds:List D} (n:Nat),Reps K μ H vs ds→Reps K μ H (vs.drop n) (ds.drop n)
  | _,_,0,r=>r
  | _,_,_+1,.nil=>.nil
  | _,_,n+1,.cons _ t=>Reps.drop n t
theorem Reps.set {x:V} {d:D} (r:Rep K μ H x d):∀ {vs:List V} {ds:List D} (i:Nat),Reps K μ H vs ds→Reps K μ H (vs.set i x) (ds.set i d)
  | _,_,_,.nil=>.nil
  | _,_,0,.cons _ t=>.cons r t
  | _,_,i+1,.cons q t=>.cons q (Reps.set r i t)
theorem Reps.flat {xs:List V}:∀ (k:Nat) {ds:List D},Reps K μ H xs ds→Reps K μ H (List.replicate k xs).flatten (List.replicate k ds).flatten
  | 0,_,_=>.nil
  | k+1,_,r=>by rw [List.replicate_succ,List.replicate_succ,List.flatten_cons,List.flatten_cons];exact r.append (Reps.flat k r)
noncomputable def CellOk (K:PySem.W.Frag) (μ:Fp) (H:Hp) (a:Addr):Cell→Prop
  | .lst ds=>∃ vs,H a=some (.lst vs)∧Reps K μ H vs ds
  | .dct ks ds=>∃ kvs,H a=some (.dK kvs)∧ks=kvs.map (·.1)∧Reps K μ H (kvs.map (·.2)) ds
structure SOk (K:PySem.W.Frag) (μ:Fp) (S:Store) (H:Hp):Prop where
  nd:μ.cs.Nodup
  len:μ.cs.length=S.length
  cell:∀ (r:Nat) (a:Addr) (c:Cell),μ.cs[r]?=some a→S[r]?=some c→CellOk K μ H a c
  fdom:∀ a ∈ μ.fb,H a≠none
  disj:∀ a ∈ μ.fb,a ∉ μ.cs
theorem CellOk.ne_none {a:Addr} {c:Cell} (h:CellOk K μ H a c):H a≠none:=by
  cases c with
  | lst ds=>obtain ⟨vs,h,_⟩:=h;rw [h];simp
  | dct ks ds=>obtain ⟨vs,h,_⟩:=h;rw [h];simp
theorem CellOk.mono (e:Ext μ H μ' H') {a:Addr} {c:Cell} (he:H' a=H a) (h:CellOk K μ H a c):CellOk K μ' H' a c:=by
  cases c with
  | lst ds=>obtain ⟨vs,h,r⟩:=h;exact ⟨vs,he.trans h,r.mono e⟩
  | dct ks ds=>obtain ⟨vs,h,q,r⟩:=h;exact ⟨vs,he.trans h,q,r.mono e⟩
theorem SOk.dom {S:Store} (s:SOk K μ S H):∀ a ∈ μ.cs,H a≠none:=fun a ha=>by
  obtain ⟨r,hr⟩:=List.mem_iff_getElem?.mp ha
  have hl:=(List.getElem?_eq_some_iff.mp hr).1
  rw [s.len] at hl
  exact (s.cell r a S[r] hr (by simp [hl])).ne_none
theorem SOk.ext {S:Store} (s:SOk K μ S H):Ext μ H μ H:=.refl s.dom
theorem SOk.notMem {S:Store} (s:SOk K μ S H) {p:Addr} (h:H p=none):μ.no p:=⟨fun z=>s.dom p z h,fun z=>s.fdom p z h⟩
theorem SOk.laid {S:Store} (s:SOk K μ S H) {p:Addr} {o:HO} (h:H p=none):Ext μ H μ (upd H p o)∧SOk K μ S (upd H p o):=by
  have e:Ext μ H μ (upd H p o):=⟨rfl,⟨[],by simp,fun _ z=>by simp at z⟩,fun a o' _ q=>by rw [upd_ne (ne_of_none q h)];exact q,fun a ha=>by
    by_cases z:a=p
    · subst z;rw [upd_same];simp
    · rw [upd_ne z];exact s.dom a ha⟩
  refine ⟨e,s.nd,s.len,fun r a c h1 h2=>(s.cell r a c h1 h2).mono e ?_,fun a ha=>?_,s.disj⟩
  case refine_2=>
    by_cases z:a=p
    · subst z;rw [upd_same];simp
    · rw [upd_ne z];exact s.fdom a ha
  have:=(s.cell r a c h1 h2).ne_none
  refine upd_ne fun z=>?_
  rw [z] at this
  exact this h
theorem SOk.alloc {S:Store} (s:SOk K μ S H) {p:Addr} {vs:List V} {ds:List D} (h:H p=none) (r:Reps K μ H vs ds):Ext μ H ⟨μ.cs++[p],μ.fb⟩ (upd H p (.lst vs))∧SOk K ⟨μ.cs++[p],μ.fb⟩ (S++[.lst ds]) (upd H p (.lst vs)):=by
  have hp:=s.notMem h
  have e:Ext μ H ⟨μ.cs++[p],μ.fb⟩ (upd H p (.lst vs)):=⟨rfl,⟨[p],rfl,fun a z=>by rw [List.mem_singleton.mp z];exact h⟩,fun a o' _ q=>by rw [upd_ne (ne_of_none q h)];exact q,fun a ha=>by
    by_cases z:a=p
    · subst z;rw [upd_same];simp
    · rw [upd_ne z]
      rcases List.mem_append.mp ha with q | q
      · exact s.dom a q
      · exact absurd (List.mem_singleton.mp q) z⟩
  refine ⟨e,?_,by simp [s.len],fun i a c h1 h2=>?_,fun a ha=>?_,fun a ha z=>?_⟩
  case refine_3=>
    by_cases z:a=p
    · subst z;rw [upd_same];simp
    · rw [upd_ne z];exact s.fdom a ha
  case refine_4=>
    rcases List.mem_append.mp z with q | q
    · exact s.disj a ha q
    · rw [List.mem_singleton.mp q] at ha;exact hp.2 ha
  · show (μ.cs++[p]).Nodup
    rw [List.nodup_append]
    exact ⟨s.nd,by simp,fun a ha b hb=>by rw [List.mem_singleton.mp hb];rintro rfl;exact hp.1 ha⟩
  · have h1:(μ.cs++[p])[i]?=some a:=h1
    by_cases hi:i < μ.cs.length
    · rw [List.getElem?_append_left hi] at h1
      rw [List.getElem?_append_left (by rw [← s.len];exact hi)] at h2
      have q:=s.cell i a c h1 h2
      refine q.mono e (upd_ne fun z=>?_)
      exact hp.1 (z ▸ List.mem_of_getElem? h1)
    · have hl:i = μ.cs.length:=by
        have:=(List.getElem?_eq_some_iff.mp h1).1
        simp at this;omega
      subst hl
      rw [List.getElem?_append_right (Nat.le_refl _)] at h1
      rw [s.len,List.getElem?_append_right (Nat.le_refl _)] at h2
      simp at h1 h2
      subst h1 h2
      exact ⟨vs,upd_same,r.mono e⟩
theorem SOk.write {S:Store} (s:SOk K μ S H) {i:Nat} {a:Addr} {vs vs':List V} {ds:List D} (hi:μ.cs[i]?=some a) (h:H a=some (.lst vs)) (r:Reps K μ H vs' ds):Ext μ H μ (upd H a (.lst vs'))∧SOk K μ (S.set i (.lst ds)) (upd H a (.lst vs')):=by
  have ha:=List.mem_of_getElem? hi
  have e:Ext μ H μ (upd H a (.lst vs')):=⟨rfl,⟨[],by simp,fun _ z=>by simp at z⟩,fun b o' n q=>by rw [upd_ne (by rintro rfl;exact n ha)];exact q,fun b hb=>by
    by_cases z:b=a
    · subst z;rw [upd_same];simp
    · rw [upd_ne z];exact s.dom b hb⟩
  refine ⟨e,s.nd,by simp [s.len],fun j b c h1 h2=>?_,fun b hb=>?_,s.disj⟩
  case refine_2=>
    by_cases z:b=a
    · subst z;rw [upd_same];simp
    · rw [upd_ne z];exact s.fdom b hb
  by_cases hj:j=i
  · subst hj
    rw [hi] at h1;cases h1
    have hl:j<S.length:=by rw [← s.len];exact (List.getElem?_eq_some_iff.mp hi).1
    rw [List.getElem?_set_self hl] at h2
    cases h2
    exact ⟨vs',upd_same,r.mono e⟩
  · rw [List.getElem?_set_ne (Ne.symm hj)] at h2
    refine (s.cell j b c h1 h2).mono e (upd_ne fun z=>hj ?_)
    subst z
    exact nodupIx s.nd h1 hi
inductive EOk (K:PySem.W.Frag) (μ:Fp) (H:Hp):L2.St→MEnv→Prop
  | nil:EOk K μ H [] []
  | no {x:Option V} {σ:L2.St} {env:MEnv} (t:EOk K μ H σ env):EOk K μ H (x::σ) (none::env)
  | yes {v:V} {d:D} {σ:L2.St} {env:MEnv} (h:Rep K μ H v d) (t:EOk K μ H σ env):EOk K μ H (some v::σ) (some d::env)
theorem EOk.mono (e:Ext μ H μ' H'):∀ {σ:L2.St} {env:MEnv},EOk K μ H σ env→EOk K μ' H' σ env
  | _,_,.nil=>.nil
  | _,_,.no t=>.no (EOk.mono e t)
  | _,_,.yes h t=>.yes (h.mono e) (EOk.mono e t)
theorem EOk.get:∀ {σ:L2.St} {env:MEnv} {i:Nat} {d:D},EOk K μ H σ env→env[i]?=some (some d)→∃ v,σ[i]?=some (some v)∧Rep K μ H v d
  | _,_,_,_,.nil,h=>by simp at h
  | _,_,0,_,.no _,h=>by simp at h
  | _,_,0,_,.yes h _,q=>by simp at q;subst q;exact ⟨_,rfl,h⟩
  | _,_,i+1,d,.no t,h=>by
    obtain ⟨v,h1,h2⟩:=EOk.get (i:=i) (d:=d) t (by simpa using h)
    exact ⟨v,by simpa using h1,h2⟩
  | _,_,i+1,d,.yes _ t,h=>by
    obtain ⟨v,h1,h2⟩:=EOk.get (i:=i) (d:=d) t (by simpa using h)
    exact ⟨v,by simpa using h1,h2⟩
theorem EOk.set {v:V} {d:D} (r:Rep K μ H v d):∀ {σ:L2.St} {env:MEnv} (i:Nat),EOk K μ H σ env→EOk K μ H (σ.set i (Option.some v)) (env.set i (Option.some d))
  | _,_,_,.nil=>.nil
  | _,_,0,.no t=>.yes r t
  | _,_,0,.yes _ t=>.yes r t
  | _,_,i+1,.no t=>.no (EOk.set r i t)
  | _,_,i+1,.yes h t=>.yes h (EOk.set r i t)
theorem EOk.start {N:Nat}:∀ {vs:List V} {ds:List D},Reps K μ H vs ds→EOk K μ H (vs.map Option.some++List.replicate N Option.none) (ds.map Option.some++List.replicate N Option.none)
  | _,_,.nil=>by
    induction N with
    | zero=>exact .nil
    | succ n ih=>exact .no ih
  | _,_,.cons h t=>.yes h (EOk.start t)
theorem EOk.block {σ:L2.St} {env:MEnv} (h:EOk K μ H σ env):∀ (cap:List (Option Nat)),EOk K μ H (σB cap σ) (cap.map fun o=>o.bind fun i=>(env[i]?).join)
  | []=>.nil
  | Option.none::r=>.no (EOk.block h r)
  | Option.some i::r=>by
    show EOk K μ H ((σ[i]?).join::σB r σ) ((env[i]?).join::_)
    cases q:(env[i]?).join with
    | none=>exact .no (EOk.block h r)
    | some d=>
      have q':env[i]?=Option.some (Option.some d):=by
        cases z:env[i]? with
        | none=>rw [z] at q;cases q
        | some y=>rw [z] at q;exact congrArg Option.some q
      obtain ⟨v,h1,h2⟩:=h.get q'
      rw [h1]
      exact .yes h2 (EOk.block h r)
theorem no_less {p a:Addr} {cs fb:List Addr} (n:(⟨cs,p::fb⟩:Fp).no a):(⟨cs,fb⟩:Fp).no a:=⟨n.1,fun z=>n.2 (List.mem_cons_of_mem _ z)⟩
theorem Rep.less {p:Addr} {cs fb:List Addr} {v:V} {d:D} (r:Rep K ⟨cs,p::fb⟩ H v d):Rep K ⟨cs,fb⟩ H v d:=r.imp (fun h n=>⟨h,no_less n⟩) fun h=>h
theorem Reps.less {p:Addr} {cs fb:List Addr} {v:List V} {d:List D} (r:Reps K ⟨cs,p::fb⟩ H v d):Reps K ⟨cs,fb⟩ H v d:=r.imp (fun h n=>⟨h,no_less n⟩) fun h=>h
theorem no_more {p:Addr} {o:HO} {cs fb:List Addr} (hp:H p=none) {a:Addr} {o':HO} (h:H a=some o') (n:(⟨cs,fb⟩:Fp).no a):upd H p o a=some o'∧(⟨cs,p::fb⟩:Fp).no a:=⟨(upd_ne (ne_of_none h hp)).trans h,n.1,fun z=>(List.mem_cons.mp z).elim (ne_of_none h hp) n.2⟩
theorem Rep.more {p:Addr} {o:HO} {cs fb:List Addr} (hp:H p=none) {v:V} {d:D} (r:Rep K ⟨cs,fb⟩ H v d):Rep K ⟨cs,p::fb⟩ (upd H p o) v d:=r.imp (no_more hp) fun h=>h
theorem Reps.more {p:Addr} {o:HO} {cs fb:List Addr} (hp:H p=none) {v:List V} {d:List D} (r:Reps K ⟨cs,fb⟩ H v d):Reps K ⟨cs,p::fb⟩ (upd H p o) v d:=r.imp (no_more hp) fun h=>h
theorem Fp.no.ne {μ:Fp} {a p:Addr} (n:μ.no a) (hp:p ∈ μ.fb):a≠p:=fun z=>n.2 (by rw [z];exact hp)
theorem Rep.chg {p:Addr} {o:HO} (hp:p ∈ μ.fb) {v:V} {d:D} (r:Rep K μ H v d):Rep K μ (upd H p o) v d:=r.imp (fun h n=>⟨(upd_ne (n.ne hp)).trans h,n⟩) fun h=>h
theorem Reps.chg {p:Addr} {o:HO} (hp:p ∈ μ.fb) {v:List V} {d:List D} (r:Reps K μ H v d):Reps K μ (upd H p o) v d:=r.imp (fun h n=>⟨(upd_ne (n.ne hp)).trans h,n⟩) fun h=>h
theorem EOk.more {p:Addr} {o:HO} {cs fb:List Addr} (hp:H p=none):∀ {σ:L2.St} {env:MEnv},EOk K ⟨cs,fb⟩ H σ env→EOk K ⟨cs,p::fb⟩ (upd H p o) σ env
  | _,_,.nil=>.nil
  | _,_,.no t=>.no (EOk.more hp t)
  | _,_,.yes h t=>.yes (h.more hp) (EOk.more hp t)
theorem EOk.chg {p:Addr} {o:HO} (hp:p ∈ μ.fb):∀ {σ:L2.St} {env:MEnv},EOk K μ H σ env→EOk K μ (upd H p o) σ env
  | _,_,.nil=>.nil
  | _,_,.no t=>.no (EOk.chg hp t)
  | _,_,.yes h t=>.yes (h.chg hp) (EOk.chg hp t)
theorem CellOk.upd {p a:Addr} {o:HO} {c:Cell} (μ':Fp) (hpa:a≠p) (h:CellOk K μ H a c) (f:∀ vs ds,Reps K μ H vs ds→Reps K μ' (upd H p o) vs ds):CellOk K μ' (upd H p o) a c:=by
  cases c with
  | lst ds=>obtain ⟨vs,h,r⟩:=h;exact ⟨vs,(upd_ne hpa).trans h,f _ _ r⟩
  | dct ks ds=>obtain ⟨vs,h,q,r⟩:=h;exact ⟨vs,(upd_ne hpa).trans h,q,f _ _ r⟩
theorem SOk.less {S:Store} {p:Addr} {cs fb:List Addr} (s:SOk K ⟨cs,p::fb⟩ S H):SOk K ⟨cs,fb⟩ S H:=
  ⟨s.nd,s.len,fun r a c h1 h2=>by
    have:=s.cell r a c h1 h2
    cases c with
    | lst ds=>obtain ⟨vs,h,r⟩:=this;exact ⟨vs,h,r.less⟩
    | dct ks ds=>obtain ⟨vs,h,q,r⟩:=this;exact ⟨vs,h,q,r.less⟩,fun a ha=>s.fdom a (List.mem_cons_of_mem _ ha),fun a ha=>s.disj a (List.mem_cons_of_mem _ ha)⟩
theorem SOk.more {S:Store} {p:Addr} {o:HO} {cs fb:List Addr} (s:SOk K ⟨cs,fb⟩ S H) (hp:H p=none):SOk K ⟨cs,p::fb⟩ S (upd H p o):=by
  have hn:=s.notMem hp
  refine ⟨s.nd,s.len,fun r a c h1 h2=>(s.cell r a c h1 h2).upd _ (fun z=>?_) fun vs ds r=>r.more hp,fun a ha=>?_,fun a ha z=>?_⟩
  · exact hn.1 (z ▸ List.mem_of_getElem? h1)
  · by_cases z:a=p
    · subst z;rw [upd_same];simp
    · rw [upd_ne z];exact s.fdom a ((List.mem_cons.mp ha).resolve_left z)
  · rcases List.mem_cons.mp ha with rfl | ha
    · exact hn.1 z
    · exact s.disj a ha z
theorem SOk.chg {S:Store} {p:Addr} {o:HO} (s:SOk K μ S H) (hp:p ∈ μ.fb):SOk K μ S (upd H p o):=by
  refine ⟨s.nd,s.len,fun r a c h1 h2=>(s.cell r a c h1 h2).upd _ (fun z=>?_) fun vs ds r=>r.chg hp,fun a ha=>?_,s.disj⟩
  · exact s.disj p hp (z ▸ List.mem_of_getElem? h1)
  · by_cases z:a=p
    · subst z;rw [upd_same];simp
    · rw [upd_ne z];exact s.fdom a ha
end
end M
namespace M
open PySem PySem.Spec PyProof.Rows L2
noncomputable abbrev ME:=MEnv→Store→Option (D×Store)
noncomputable abbrev MT:=MEnv→Store→Option (Bool×Store)
noncomputable abbrev MA:=MEnv→Store→Option (List D×Store)
inductive Out where
  | nx (env:MEnv) (S:Store)
  | rt (d:D) (S:Store)
  | bk (env:MEnv) (S:Store)
  | ct (env:MEnv) (S:Store)
noncomputable abbrev MS:=MEnv→Store→Option Out
noncomputable def Post (K:PySem.W.Frag) (μ:Fp) (H:Hp) (S':Store) (d:D) (Q:VK):Prop:=∀ v H' μ',Ext μ H μ' H'→SOk K μ' S' H'→Rep K μ' H' v d→Q v H'
noncomputable def PostT (K:PySem.W.Frag) (μ:Fp) (H:Hp) (S':Store) (b:Bool) (Q:Bool→Hp→Prop):Prop:=∀ H' μ',Ext μ H μ' H'→SOk K μ' S' H'→Q b H'
noncomputable def PostA (K:PySem.W.Frag) (μ:Fp) (H:Hp) (S':Store) (ds:List D) (Q:List V→Hp→Prop):Prop:=∀ vs H' μ',Ext μ H μ' H'→SOk K μ' S' H'→Reps K μ' H' vs ds→Q vs H'
noncomputable def PostN (K:PySem.W.Frag) (μ:Fp) (H:Hp) (S':Store) (env':MEnv) (Q:L2.St→Hp→Prop):Prop:=∀ σ' H' μ',Ext μ H μ' H'→SOk K μ' S' H'→EOk K μ' H' σ' env'→Q σ' H'
noncomputable def PostS (K:PySem.W.Frag) (μ:Fp) (H:Hp) (o:Out) (E:Ends):Prop:=match o with
  | .nx env' S'=>PostN K μ H S' env' E.nx
  | .rt d S'=>Post K μ H S' d E.rt
  | .bk env' S'=>PostN K μ H S' env' E.bk
  | .ct env' S'=>PostN K μ H S' env' E.ct
inductive tM (K:PySem.W.Frag) (m:ME) (σ:L2.St) (H:Hp) (Q:VK):Prop
  | mk (μ:Fp) (S:Store) (env:MEnv) (d:D) (S':Store) (hS:SOk K μ S H) (hE:EOk K μ H σ env) (h:m env S=some (d,S')) (post:Post K μ H S' d Q)
inductive tMT (K:PySem.W.Frag) (m:MT) (σ:L2.St) (H:Hp) (Q:Bool→Hp→Prop):Prop
  | mk (μ:Fp) (S:Store) (env:MEnv) (b:Bool) (S':Store) (hS:SOk K μ S H) (hE:EOk K μ H σ env) (h:m env S=some (b,S')) (post:PostT K μ H S' b Q)
inductive tMA (K:PySem.W.Frag) (m:MA) (σ:L2.St) (H:Hp) (Q:List V→Hp→Prop):Prop
  | mk (μ:Fp) (S:Store) (env:MEnv) (ds:List D) (S':Store) (hS:SOk K μ S H) (hE:EOk K μ H σ env) (h:m env S=some (ds,S')) (post:PostA K μ H S' ds Q)
inductive tMS (K:PySem.W.Frag) (m:MS) (E:Ends) (σ:L2.St) (H:Hp):Prop
  | mk (μ:Fp) (S:Store) (env:MEnv) (o:Out) (hS:SOk K μ S H) (hE:EOk K μ H σ env) (h:m env S=some o) (post:PostS K μ H o E)
inductive rM2 (K:PySem.W.Frag) (f:Store→D→D→Option D) (x y:V) (H:Hp) (Q:VK):Prop
  | mk (μ:Fp) (S:Store) (dx dy dz:D) (hS:SOk K μ S H) (h1:Rep K μ H x dx) (h2:Rep K μ H y dy) (h3:f S dx dy=some dz) (post:Post K μ H S dz Q)
inductive rM1 (K:PySem.W.Frag) (f:Store→D→Option D) (x:V) (H:Hp) (Q:VK):Prop
  | mk (μ:Fp) (S:Store) (dx dz:D) (hS:SOk K μ S H) (h1:Rep K μ H x dx) (h3:f S dx=some dz) (post:Post K μ H S dz Q)
inductive rMC (K:PySem.W.Frag) (f:List D→Store→Option (D×Store)) (vs:List V) (H:Hp) (Q:VK):Prop
  | mk (μ:Fp) (S:Store) (ds:List D) (d:D) (S':Store) (hS:SOk K μ S H) (h1:Reps K μ H vs ds) (h3:f ds S=some (d,S')) (post:Post K μ H S' d Q)
noncomputable def DE (X:Cx) (e:Expr) (m:ME):Prop:=PE X e (tM X.K m)
noncomputable def DT (X:Cx) (e:Expr) (m:MT):Prop:=PT X e (tMT X.K m)
noncomputable def DW (X:Cx) (e:Expr) (m:MT):Prop:=PW X e (tMT X.K m)
noncomputable def DA (X:Cx) (es:List Expr) (m:MA):Prop:=PA X es (tMA X.K m)
noncomputable def DS (X:Cx) (st:Stmt) (m:MS):Prop:=PS X st (tMS X.K m)
noncomputable def DSs (X:Cx) (st:List Stmt) (m:MS):Prop:=PSs X st (tMS X.K m)
section
variable {X:Cx} {K:PySem.W.Frag} {μ μ':Fp} {H H':Hp} {S S':Store}
theorem Post.ext {d:D} {Q:VK} (e:Ext μ H μ' H') (p:Post K μ H S' d Q):Post K μ' H' S' d Q:=fun v H2 μ2 e2 s r=>p v H2 μ2 (e.trans e2) s r
theorem Post.here {d:D} {Q:VK} {v:V} (p:Post K μ H S d Q) (s:SOk K μ S H) (r:Rep K μ H v d):Q v H:=p v H μ s.ext s r
theorem PE.imp {e:Expr} {t t':TE} (h:PE X e t) (i:∀ σ H Q,t' σ H Q→t σ H Q):PE X e t':=fun pins s σ H Q I q=>h pins s σ H Q I (i σ H Q q)
theorem PT.imp {e:Expr} {t t':TT} (h:PT X e t) (i:∀ σ H Q,t' σ H Q→t σ H Q):PT X e t':=fun pins s σ H Q I q=>h pins s σ H Q I (i σ H Q q)
theorem PW.imp {e:Expr} {t t':TT} (h:PW X e t) (i:∀ σ H Q,t' σ H Q→t σ H Q):PW X e t':=fun w pins s σ H Q I q=>h w pins s σ H Q I (i σ H Q q)
theorem PA.imp {e:List Expr} {t t':TA} (h:PA X e t) (i:∀ σ H Q,t' σ H Q→t σ H Q):PA X e t':=fun pos pins s σ H Q I q=>h pos pins s σ H Q I (i σ H Q q)
theorem PS.imp {e:Stmt} {t t':TS} (h:PS X e t) (i:∀ E σ H,t' E σ H→t E σ H):PS X e t':=fun pins s σ H E I q=>h pins s σ H E I (i E σ H q)
theorem PSs.imp {e:List Stmt} {t t':TS} (h:PSs X e t) (i:∀ E σ H,t' E σ H→t E σ H):PSs X e t':=fun pins s σ H E I q=>h pins s σ H E I (i E σ H q)
theorem OpR.imp {f:Value→Value→Sem Value} {r r':R2} (h:OpR X f r) (i:∀ x y H Q,r' x y H Q→r x y H Q):OpR X f r':=fun pins s σ H x y v u Q I rx ry q=>h pins s σ H x y v u Q I rx ry (i x y H Q q)
theorem UnR.imp {f:Value→Sem Value} {r r':V→Hp→VK→Prop} (h:UnR X f r) (i:∀ x H Q,r' x H Q→r x H Q):UnR X f r':=fun pins s σ H x v Q I rx q=>h pins s σ H x v Q I rx (i x H Q q)
theorem CallR.imp {f:Value} {r r':List V→Hp→VK→Prop} (h:CallR X f r) (i:∀ x H Q,r' x H Q→r x H Q):CallR X f r':=fun pins s σ H x v Q I rx q=>h pins s σ H x v Q I rx (i x H Q q)
theorem IxR.imp {r r':R2} (h:IxR X r) (i:∀ x y H Q,r' x y H Q→r x y H Q):IxR X r':=fun va sl pins s σ H x y v u Q I rx ry q=>h va sl pins s σ H x y v u Q I rx ry (i x y H Q q)
noncomputable def mVar (i:Nat):ME:=fun env S=>(env[i]?).join.bind fun d=>some (d,S)
noncomputable def mC (d:D):ME:=fun _ S=>some (d,S)
theorem join_some {α:Type} {o:Option (Option α)} {a:α} (h:o.join=some a):o=some (some a):=by
  cases o with
  | none=>cases h
  | some o=>exact congrArg some h
theorem de_var {i:Nat} {x:Str} {pos:Pos} (hN:X.N[i]?=some x) (hv:Vis X.env.scope x) (hd:(x == ("__debug__":Str))=false:=by decide) (hcd:(x == ("__classdict__":Str))=false:=by decide):DE X (.Name x pos) (mVar i):=
  PE.imp (pe_var hN hv hd hcd) fun σ H Q ⟨μ,S,env,d,S',hS,hE,hm,post⟩=>by
    obtain ⟨d',h1,h2⟩:=Option.bind_eq_some_iff.mp hm
    cases h2
    obtain ⟨v,e,r⟩:=hE.get (join_some h1)
    exact ⟨v,e,post.here hS r⟩
theorem de_const {e:Expr} {v:V} {d:D} (h:PE X e (tC v)) (r:∀ μ H,Rep X.K μ H v d):DE X e (mC d):=
  PE.imp h fun σ H Q ⟨μ,S,env,d',S',hS,hE,hm,post⟩=>by cases hm;exact post.here hS (r μ H)
theorem de_int {i:Int} {j pos}:DE X (.Constant (.int i) j pos) (mC (.int i)):=de_const pe_int fun _ _=>.int i
theorem de_bl {b j pos}:DE X (.Constant (.bool b) j pos) (mC (.bl b)):=de_const pe_bl fun _ _=>.bl b
theorem de_non {j pos}:DE X (.Constant .none j pos) (mC .non):=de_const pe_non fun _ _=>.non
theorem de_str {x j pos}:DE X (.Constant (.str x) j pos) (mC (.str x)):=de_const pe_str fun _ _=>.str x
structure GC (K:PySem.W.Frag) (mg:Str→Option Value) (x:Str) (d:D):Prop where
  ex:∃ u v,mg x=some u∧RelV v u∧∀ μ H,Rep K μ H v d
theorem de_glob {x:Str} {d:D} {pos:Pos} (g:GC X.K X.mg x d) (hg:Gl X x:=by rfl) (hd:(x == ("__debug__":Str))=false:=by decide):DE X (.Name x pos) (mC d):=by
  obtain ⟨u,v,h1,h2,h3⟩:=g.ex
  exact de_const (pe_glob hg h1 h2 hd) h3
noncomputable def mOp (f:Store→D→D→Option D) (a b:ME):ME:=fun env S=>(a env S).bind fun p=>(b env p.2).bind fun q=>(f q.2 p.1 q.1).bind fun z=>some (z,q.2)
theorem mOp_some {f:Store→D→D→Option D} {a b:ME} {env:MEnv} {S S':Store} {d:D} (h:mOp f a b env S=some (d,S')):∃ x S1 y,a env S=some (x,S1)∧b env S1=some (y,S')∧f S' x y=some d:=by
  obtain ⟨⟨x,S1⟩,h1,h⟩:=Option.bind_eq_some_iff.mp h
  obtain ⟨⟨y,S2⟩,h2,h⟩:=Option.bind_eq_some_iff.mp h
  obtain ⟨z,h3,h⟩:=Option.bind_eq_some_iff.mp h
  cases h
  exact ⟨x,S1,y,h1,h2,h3⟩
theorem tOp_of {f:Store→D→D→Option D} {ma mb:ME} {σ:L2.St} {Q:VK} (h:tM K (mOp f ma mb) σ H Q):tOp (rM2 K f) (tM K ma) (tM K mb) σ H Q:=by
  obtain ⟨μ,S,env,d,S',hS,hE,hm,post⟩:=h
  obtain ⟨x,S1,y,h1,h2,h3⟩:=mOp_some hm
  exact ⟨μ,S,env,x,S1,hS,hE,h1,fun v H1 μ1 e1 s1 r1=>⟨μ1,S1,env,y,S',s1,hE.mono e1,h2,fun w H2 μ2 e2 s2 r2=>⟨μ2,S',x,y,d,s2,r1.mono e2,r2,h3,(post.ext e1).ext e2⟩⟩⟩
section
variable {a b c:Expr} {ma mb mc:ME} {pos:Pos}
theorem de_op {op:Operator} {f:Store→D→D→Option D} (ho:OpR X (binaryOp op) (rM2 X.K f)) (ha:DE X a ma) (hb:DE X b mb):DE X (.BinOp a op b pos) (mOp f ma mb):=
  PE.imp (pe_op ho ha hb) fun _ _ _ h=>tOp_of h
theorem de_cmp {op:CmpOp} {f:Store→D→D→Option D} (ho:OpR X (compareOp op) (rM2 X.K f)) (ha:DE X a ma) (hb:DE X b mb) (hm:behindInMarks op b=false):DE X (.Compare a [op] [b] pos) (mOp f ma mb):=
  PE.imp (pe_cmpR ho ha hb hm) fun _ _ _ h=>tOp_of h
noncomputable def mTest (m:ME):MT:=fun env S=>(m env S).bind fun p=>match p.1 with | .bl k=>some (k,p.2) | _=>none
theorem mTest_some {m:ME} {env:MEnv} {S S':Store} {k:Bool} (h:mTest m env S=some (k,S')):m env S=some (.bl k,S'):=by
  obtain ⟨⟨x,S1⟩,h1,h⟩:=Option.bind_eq_some_iff.mp h
  cases x <;> first | (cases h;exact h1) | cases h
theorem Rep.bl_inv {v:V} {k:Bool} (h:Rep K μ H v (.bl k)):v=.bl k:=by cases h;rfl
theorem Rep.int_inv {v:V} {k:Int} (h:Rep K μ H v (.int k)):v=.int k:=by cases h;rfl
theorem Rep.str_inv {v:V} {k:Str} (h:Rep K μ H v (.str k)):v=.str k:=by cases h;rfl
theorem dt_cmp {op:CmpOp} {f:Store→D→D→Option D} (ho:OpR X (compareOp op) (rM2 X.K f)) (ha:DE X a ma) (hb:DE X b mb) (hm:behindInMarks op b=false):DT X (.Compare a [op] [b] pos) (mTest (mOp f ma mb)):=
  PT.imp (pt_cmpR ho ha hb hm) fun σ H Q ⟨μ,S,env,k,S',hS,hE,hm,post⟩=>by
    have h:=mTest_some hm
    refine tOp_of ⟨μ,S,env,_,S',hS,hE,h,fun v H' μ' e s r=>?_⟩
    exact ⟨k,r.bl_inv,post H' μ' e s⟩
noncomputable def mChain (f g:Store→D→D→Option D) (a b c:ME):ME:=fun env S=>(a env S).bind fun p=>(b env p.2).bind fun q=>(f q.2 p.1 q.1).bind fun z=>match z with
  | .bl true=>(c env q.2).bind fun r=>(g r.2 q.1 r.1).bind fun z=>some (z,r.2)
  | .bl false=>some (.bl false,q.2)
  | _=>none
theorem tChain_of {f g:Store→D→D→Option D} {σ:L2.St} {Q:VK} (h:tM K (mChain f g ma mb mc) σ H Q):tChain (rM2 K f) (rM2 K g) (tM K ma) (tM K mb) (tM K mc) σ H Q:=by
  obtain ⟨μ,S,env,d,S',hS,hE,hm,post⟩:=h
  obtain ⟨⟨x,S1⟩,h1,hm⟩:=Option.bind_eq_some_iff.mp hm
  obtain ⟨⟨y,S2⟩,h2,hm⟩:=Option.bind_eq_some_iff.mp hm
  obtain ⟨z,h3,hm⟩:=Option.bind_eq_some_iff.mp hm
  refine ⟨μ,S,env,x,S1,hS,hE,h1,fun v H1 μ1 e1 s1 r1=>⟨μ1,S1,env,y,S2,s1,hE.mono e1,h2,fun w H2 μ2 e2 s2 r2=>⟨μ2,S2,x,y,z,s2,r1.mono e2,r2,h3,fun u H3 μ3 e3 s3 r3=>?_⟩⟩⟩
  cases z with
  | bl k=>
    refine ⟨k,r3.bl_inv,?_⟩
    cases k with
    | false=>cases hm;rw [if_neg Bool.false_ne_true];exact post _ H3 μ3 ((e1.trans e2).trans e3) s3 (.bl false)
    | true=>
      obtain ⟨⟨t,S4⟩,h4,hm⟩:=Option.bind_eq_some_iff.mp hm
      obtain ⟨z,h5,hm⟩:=Option.bind_eq_some_iff.mp hm
      cases hm
      rw [if_pos rfl]
      exact ⟨μ3,S2,env,t,S4,s3,hE.mono ((e1.trans e2).trans e3),h4,fun u' H4 μ4 e4 s4 r4=>⟨μ4,_,y,t,_,s4,(r2.mono e3).mono e4,r4,h5,post.ext (((e1.trans e2).trans e3).trans e4)⟩⟩
  | _=>cases hm
theorem de_chain {op op':CmpOp} {f g:Store→D→D→Option D} (ho:OpR X (compareOp op) (rM2 X.K f)) (ho':OpR X (compareOp op') (rM2 X.K g)) (ha:DE X a ma) (hb:DE X b mb) (hc:DE X c mc)
    (hm:lastMarks [op,op'] [b,c]=false:=by with_unfolding_all rfl):DE X (.Compare a [op,op'] [b,c] pos) (mChain f g ma mb mc):=
  PE.imp (pe_chain ho ho' ha hb hc hm) fun _ _ _ h=>tChain_of h
theorem dt_chain {op op':CmpOp} {f g:Store→D→D→Option D} (ho:OpR X (compareOp op) (rM2 X.K f)) (ho':OpR X (compareOp op') (rM2 X.K g)) (ha:DE X a ma) (hb:DE X b mb) (hc:DE X c mc)
    (hm:lastMarks [op,op'] [b,c]=false:=by with_unfolding_all rfl):DT X (.Compare a [op,op'] [b,c] pos) (mTest (mChain f g ma mb mc)):=
  PT.imp (pt_chain ho ho' ha hb hc hm) fun σ H Q ⟨μ,S,env,k,S',hS,hE,hm,post⟩=>by
    have h:=mTest_some hm
    refine tChain_of ⟨μ,S,env,_,S',hS,hE,h,fun v H' μ' e s r=>?_⟩
    exact ⟨k,r.bl_inv,post H' μ' e s⟩
noncomputable def truD (S:Store):D→Option Bool
  | .non=>some false
  | .bl b=>some b
  | .int i=>some (i != 0)
  | .str y=>if y.length≤sizeLine then some ((y.length:Int) != 0) else none
  | .tup xs=>some (!xs.isEmpty)
  | .lst xs=>some (!xs.isEmpty)
  | .rol xs=>some (!xs.isEmpty)
  | .dct ks _=>some (!ks.isEmpty)
  | .ref r=>match S[r]? with
    | some (.lst xs)=>some (!xs.isEmpty)
    | some (.dct ks _)=>some (!ks.isEmpty)
    | none=>none
theorem Reps.isEmpty {vs:List V} {ds:List D} (r:Reps K μ H vs ds):(!ds.isEmpty) = !vs.isEmpty:=by cases r <;> rfl
theorem isEmpty_map {α β:Type} (f:α→β) (l:List α):(!(l.map f).isEmpty) = !l.isEmpty:=by cases l <;> rfl
theorem truV_of {x:V} {d:D} {k:Bool} (s:SOk K μ S H) (r:Rep K μ H x d) (h:truD S d=some k):TruV K x H k:=by
  cases r with
  | non=>cases h;rfl
  | bl b=>cases h;rfl
  | int i=>cases h;rfl
  | str y=>
    simp only [truD] at h
    split at h
    · rename_i hy;cases h;exact ⟨hy,rfl⟩
    · cases h
  | @tup a vs ds h' n r=>cases h;exact .inr (.inl ⟨vs,.inl (.inl h'),r.isEmpty⟩)
  | @ktup a vs ds h' r=>cases h;exact .inr (.inl ⟨vs,.inr h',r.isEmpty⟩)
  | @lst a vs ds h' n r=>cases h;exact .inl ⟨vs,.inl (.inl h'),r.isEmpty⟩
  | @rol a vs ds h' n r=>cases h;exact .inl ⟨vs,.inl h',r.isEmpty⟩
  | @krol a vs ds h' r=>cases h;exact .inl ⟨vs,.inr h',r.isEmpty⟩
  | @dct a kvs ds h' n r=>cases h;exact .inr (.inr ⟨kvs,h',isEmpty_map _ _⟩)
  | @ref a i h'=>
    simp only [truD] at h
    cases q:S[i]? with
    | none=>rw [q] at h;cases h
    | some c=>
      rw [q] at h
      have ck:=s.cell i a c h' q
      cases c with
      | lst xs=>cases h;obtain ⟨vs,e,r⟩:=ck;exact .inl ⟨vs,.inl (.inl e),r.isEmpty⟩
      | dct ks xs=>cases h;obtain ⟨kvs,e,rfl,r⟩:=ck;exact .inr (.inr ⟨kvs,e,isEmpty_map _ _⟩)
noncomputable def mTru (m:ME):MT:=fun env S=>(m env S).bind fun p=>(truD p.2 p.1).bind fun k=>some (k,p.2)
theorem dt_truth (ha:DE X a ma) (he:∀ whole,isTrue a X.env whole=(do let v ← whole;standAt a.pos;holding [v] (truthy v)):=by intro _;rfl):DT X a (mTru ma):=
  PT.imp (pt_truth ha he) fun σ H Q ⟨μ,S,env,k,S',hS,hE,hm,post⟩=>by
    obtain ⟨⟨x,S1⟩,h1,hm⟩:=Option.bind_eq_some_iff.mp hm
    obtain ⟨k',h2,hm⟩:=Option.bind_eq_some_iff.mp hm
    cases hm
    exact ⟨μ,S,env,x,S1,hS,hE,h1,fun v H' μ' e s r=>⟨k,truV_of s r h2,post H' μ' e s⟩⟩
variable {ta tb tc:MT} {rest:List Expr}
noncomputable def mAndT (a b:MT):MT:=fun env S=>(a env S).bind fun p=>if p.1=true then b env p.2 else some (false,p.2)
noncomputable def mOrT (a b:MT):MT:=fun env S=>(a env S).bind fun p=>if p.1=true then some (true,p.2) else b env p.2
noncomputable def mNotT (a:MT):MT:=fun env S=>(a env S).bind fun p=>some (!p.1,p.2)
theorem tAnd_of {σ:L2.St} {Q:Bool→Hp→Prop} (h:tMT K (mAndT ta tb) σ H Q):tAnd (tMT K ta) (tMT K tb) σ H Q:=by
  obtain ⟨μ,S,env,k,S',hS,hE,hm,post⟩:=h
  obtain ⟨⟨x,S1⟩,h1,hm⟩:=Option.bind_eq_some_iff.mp hm
  refine ⟨μ,S,env,x,S1,hS,hE,h1,fun H1 μ1 e1 s1=>?_⟩
  cases x with
  | true=>rw [if_pos rfl] at hm ⊢;exact ⟨μ1,S1,env,k,S',s1,hE.mono e1,hm,fun H2 μ2 e2 s2=>post H2 μ2 (e1.trans e2) s2⟩
  | false=>rw [if_neg Bool.false_ne_true] at hm ⊢;cases hm;exact post H1 μ1 e1 s1
theorem tOr_of {σ:L2.St} {Q:Bool→Hp→Prop} (h:tMT K (mOrT ta tb) σ H Q):tOr (tMT K ta) (tMT K tb) σ H Q:=by
  obtain ⟨μ,S,env,k,S',hS,hE,hm,post⟩:=h
  obtain ⟨⟨x,S1⟩,h1,hm⟩:=Option.bind_eq_some_iff.mp hm
  refine ⟨μ,S,env,x,S1,hS,hE,h1,fun H1 μ1 e1 s1=>?_⟩
  cases x with
  | false=>rw [if_neg Bool.false_ne_true] at hm ⊢;exact ⟨μ1,S1,env,k,S',s1,hE.mono e1,hm,fun H2 μ2 e2 s2=>post H2 μ2 (e1.trans e2) s2⟩
  | true=>rw [if_pos rfl] at hm ⊢;cases hm;exact post H1 μ1 e1 s1
theorem dw_and1 (ha:DT X a ta):DW X (.BoolOp .And [a] pos) ta:=pw_and1 ha
theorem dw_or1 (ha:DT X a ta):DW X (.BoolOp .Or [a] pos) ta:=pw_or1 ha
theorem dw_and (ha:DT X a ta) (hb:DW X (.BoolOp .And (b::rest) pos) tb):DW X (.BoolOp .And (a::b::rest) pos) (mAndT ta tb):=PW.imp (pw_and ha hb) fun _ _ _ h=>tAnd_of h
theorem dw_or (ha:DT X a ta) (hb:DW X (.BoolOp .Or (b::rest) pos) tb):DW X (.BoolOp .Or (a::b::rest) pos) (mOrT ta tb):=PW.imp (pw_or ha hb) fun _ _ _ h=>tOr_of h
theorem dt_w (h:DW X a ta):DT X a ta:=PW.pt h
theorem dt_not (ha:DT X a ta):DT X (.UnaryOp .Not a pos) (mNotT ta):=PT.imp (pt_not ha) fun σ H Q ⟨μ,S,env,k,S',hS,hE,hm,post⟩=>by
  obtain ⟨⟨x,S1⟩,h1,hm⟩:=Option.bind_eq_some_iff.mp hm
  cases hm
  exact ⟨μ,S,env,x,S1,hS,hE,h1,fun H1 μ1 e1 s1=>post H1 μ1 e1 s1⟩
noncomputable def mAnd (a b:ME):ME:=fun env S=>(a env S).bind fun p=>match p.1 with | .bl true=>b env p.2 | .bl false=>some (.bl false,p.2) | _=>none
noncomputable def mOr (a b:ME):ME:=fun env S=>(a env S).bind fun p=>match p.1 with | .bl false=>b env p.2 | .bl true=>some (.bl true,p.2) | _=>none
theorem de_one {op} (h:DE X a ma):DE X (.BoolOp op [a] pos) ma:=pe_one h
noncomputable def mNotV (a:ME):ME:=fun env S=>(a env S).bind fun p=>match p.1 with | .bl k=>some (.bl (!k),p.2) | _=>none
noncomputable def mIf (t:MT) (a b:ME):ME:=fun env S=>(t env S).bind fun p=>if p.1=true then a env p.2 else b env p.2
theorem de_if (hc:DT X c tc) (ha:DE X a ma) (hb:DE X b mb):DE X (.IfExp c a b pos) (mIf tc ma mb):=PE.imp (pe_ifExp hc ha hb) fun σ H Q ⟨μ,S,env,d,S',hS,hE,hm,post⟩=>by
  obtain ⟨⟨x,S1⟩,h1,hm⟩:=Option.bind_eq_some_iff.mp hm
  refine ⟨μ,S,env,x,S1,hS,hE,h1,fun H1 μ1 e1 s1=>?_⟩
  cases x with
  | true=>rw [if_pos rfl] at hm ⊢;exact ⟨μ1,S1,env,d,S',s1,hE.mono e1,hm,post.ext e1⟩
  | false=>rw [if_neg Bool.false_ne_true] at hm ⊢;exact ⟨μ1,S1,env,d,S',s1,hE.mono e1,hm,post.ext e1⟩
variable {es:List Expr} {ms:MA}
noncomputable def mNil:MA:=fun _ S=>some ([],S)
noncomputable def mCons (a:ME) (r:MA):MA:=fun env S=>(a env S).bind fun p=>(r env p.2).bind fun q=>some (p.1::q.1,q.2)
theorem da_nil:DA X [] mNil:=PA.imp pa_nil fun σ H Q ⟨μ,S,env,d,S',hS,hE,hm,post⟩=>by cases hm;exact post [] H μ hS.ext hS .nil
theorem da_cons (ha:DE X a ma) (hr:DA X es ms) (hs:starEach (a::es) X.env=(false,eval a X.env)::starEach es X.env:=by rfl):DA X (a::es) (mCons ma ms):=PA.imp (pa_cons ha hr hs) fun σ H Q ⟨μ,S,env,ds,S',hS,hE,hm,post⟩=>by
  obtain ⟨⟨x,S1⟩,h1,hm⟩:=Option.bind_eq_some_iff.mp hm
  obtain ⟨⟨xs,S2⟩,h2,hm⟩:=Option.bind_eq_some_iff.mp hm
  cases hm
  exact ⟨μ,S,env,x,S1,hS,hE,h1,fun v H1 μ1 e1 s1 r1=>⟨μ1,S1,env,xs,S2,s1,hE.mono e1,h2,fun vs H2 μ2 e2 s2 r2=>post (v::vs) H2 μ2 (e1.trans e2) s2 (.cons (r1.mono e2) r2)⟩⟩
noncomputable def mTup (ms:MA):ME:=fun env S=>(ms env S).bind fun p=>if p.1.length≤sizeLine then some (.tup p.1,p.2) else none
noncomputable def mLst (ms:MA):ME:=fun env S=>(ms env S).bind fun p=>if p.1.length≤sizeLine then some (.lst p.1,p.2) else none
noncomputable def mLstR (ms:MA):ME:=fun env S=>(ms env S).bind fun p=>if p.1.length≤sizeLine then some (.ref p.2.length,p.2++[.lst p.1]) else none
theorem Post.tup {vs:List V} {ds:List D} {Q:VK} {p:Addr} (post:Post K μ H S (.tup ds) Q) (s:SOk K μ S H) (hp:H p=none) (r:Reps K μ H vs ds):Q (.ref p) (upd H p (.tup vs)):=by
  obtain ⟨e,s'⟩:=s.laid (o:=.tup vs) hp
  exact post _ _ _ e s' (.tup upd_same (s.notMem hp) (r.mono e))
theorem Post.lst {vs:List V} {ds:List D} {Q:VK} {p:Addr} (post:Post K μ H S (.lst ds) Q) (s:SOk K μ S H) (hp:H p=none) (r:Reps K μ H vs ds):Q (.ref p) (upd H p (.lst vs)):=by
  obtain ⟨e,s'⟩:=s.laid (o:=.lst vs) hp
  exact post _ _ _ e s' (.lst upd_same (s.notMem hp) (r.mono e))
theorem Post.lstR {vs:List V} {ds:List D} {Q:VK} {p:Addr} (post:Post K μ H (S++[.lst ds]) (.ref S.length) Q) (s:SOk K μ S H) (hp:H p=none) (r:Reps K μ H vs ds):Q (.ref p) (upd H p (.lst vs)):=by
  obtain ⟨e,s'⟩:=s.alloc hp r
  exact post _ _ _ e s' (.ref (by rw [← s.len,List.getElem?_append_right (Nat.le_refl _)];simp))
theorem de_tup {k} (h:DA X es ms):DE X (.Tuple es k pos) (mTup ms):=PE.imp (pe_tup h) fun σ H Q ⟨μ,S,env,d,S',hS,hE,hm,post⟩=>by
  obtain ⟨⟨xs,S1⟩,h1,hm⟩:=Option.bind_eq_some_iff.mp hm
  dsimp only at hm
  split at hm
  · rename_i hl
    cases hm
    exact ⟨μ,S,env,_,_,hS,hE,h1,fun vs H1 μ1 e1 s1 r1=>⟨by rw [r1.length];exact hl,fun p hp=>(post.ext e1).tup s1 hp r1⟩⟩
  · cases hm
theorem de_lst (h:DA X es ms):DE X (.List es pos) (mLst ms):=PE.imp (pe_lst h) fun σ H Q ⟨μ,S,env,d,S',hS,hE,hm,post⟩=>by
  obtain ⟨⟨xs,S1⟩,h1,hm⟩:=Option.bind_eq_some_iff.mp hm
  dsimp only at hm
  split at hm
  · rename_i hl
    cases hm
    exact ⟨μ,S,env,_,_,hS,hE,h1,fun vs H1 μ1 e1 s1 r1=>⟨by rw [r1.length];exact hl,fun p hp=>(post.ext e1).lst s1 hp r1⟩⟩
  · cases hm
theorem de_lstR (h:DA X es ms):DE X (.List es pos) (mLstR ms):=PE.imp (pe_lst h) fun σ H Q ⟨μ,S,env,d,S',hS,hE,hm,post⟩=>by
  obtain ⟨⟨xs,S1⟩,h1,hm⟩:=Option.bind_eq_some_iff.mp hm
  dsimp only at hm
  split at hm
  · rename_i hl
    cases hm
    exact ⟨μ,S,env,_,_,hS,hE,h1,fun vs H1 μ1 e1 s1 r1=>⟨by rw [r1.length];exact hl,fun p hp=>(post.ext e1).lstR s1 hp r1⟩⟩
  · cases hm
theorem de_dnew:DE X (.Dict [] [] pos) (mC (.dct [] [])):=PE.imp pe_dnewK fun σ H Q ⟨μ,S,env,d,S',hS,hE,hm,post⟩=>by
  cases hm
  intro p hp
  obtain ⟨e,s'⟩:=hS.laid (o:=.dK []) hp
  exact post _ _ _ e s' (.dct (kvs:=[]) upd_same (hS.notMem hp) .nil)
end
end
end M
namespace M
open PySem PySem.Spec PyProof.Rows L2
mutual
noncomputable def eqD:D→D→Bool
  | .non,.non=>true
  | .bl a,.bl b=>a == b
  | .bl a,.int b=>(if a then 1 else 0) == b
  | .int a,.bl b=>a == (if b then 1 else 0)
  | .int a,.int b=>a == b
  | .str a,.str b=>a == b
  | .tup xs,.tup ys=>eqDs xs ys
  | .lst xs,.lst ys=>eqDs xs ys
  | _,_=>false
noncomputable def eqDs:List D→List D→Bool
  | [],[]=>true
  | x::xs,y::ys=>eqD x y&&eqDs xs ys
  | _,_=>false
end
noncomputable def okD:Nat→D→Bool
  | _,.non=>true
  | _,.bl _=>true
  | _,.int _=>true
  | _,.str _=>true
  | n+1,.tup xs=>xs.all (okD n)
  | n+1,.lst xs=>xs.all (okD n)
  | _,_=>false
theorem okD_mono:∀ {n m:Nat} {d:D},n≤m→okD n d=true→okD m d=true
  | n,m,.non,_,_=>by simp [okD]
  | n,m,.bl _,_,_=>by simp [okD]
  | n,m,.int _,_,_=>by simp [okD]
  | n,m,.str _,_,_=>by simp [okD]
  | 0,m,.tup _,_,h=>by simp [okD] at h
  | 0,m,.lst _,_,h=>by simp [okD] at h
  | n+1,m+1,.tup xs,hl,h=>by
    simp only [okD,List.all_eq_true] at h ⊢
    exact fun d hd=>okD_mono (Nat.le_of_succ_le_succ hl) (h d hd)
  | n+1,m+1,.lst xs,hl,h=>by
    simp only [okD,List.all_eq_true] at h ⊢
    exact fun d hd=>okD_mono (Nat.le_of_succ_le_succ hl) (h d hd)
  | n+1,0,.tup _,hl,_=>absurd hl (by omega)
  | n+1,0,.lst _,hl,_=>absurd hl (by omega)
  | n,m,.rol _,_,h=>by cases n <;> simp [okD] at h
  | n,m,.dct _ _,_,h=>by cases n <;> simp [okD] at h
  | n,m,.ref _,_,h=>by cases n <;> simp [okD] at h
theorem eqDs_eq:∀ (xs ys:List D),eqDs xs ys=((List.range (min xs.length ys.length)).all (fun j=>match xs[j]?,ys[j]? with | some a,some b=>eqD a b | _,_=>true)&&xs.length == ys.length)
  | [],[]=>rfl
  | [],y::ys=>by simp [eqDs]
  | x::xs,[]=>by simp [eqDs]
  | x::xs,y::ys=>by
    have ih:=eqDs_eq xs ys
    rw [eqDs,ih]
    have hm:min (x::xs).length (y::ys).length=min xs.length ys.length+1:=by simp only [List.length_cons];omega
    rw [hm,List.range_succ_eq_map,List.all_cons,List.all_map]
    simp only [List.getElem?_cons_zero,List.length_cons,Bool.and_assoc]
    congr 1
    congr 1
    rw [Bool.eq_iff_iff];simp
section
variable {X:Cx} {pins:List (Addr×Obj)} {σ:L2.St} {H:Hp} {s:Shared} {μ:Fp} {A:Around}
theorem Rep.sqT {K:PySem.W.Frag} {v:V} {ds:List D} (r:Rep K μ H v (.tup ds)):∃ a vs,v=.ref a∧SqT K H a vs∧Reps K μ H vs ds:=by
  cases r with
  | tup h n r=>exact ⟨_,_,rfl,.inl (.inl h),r⟩
  | ktup h r=>exact ⟨_,_,rfl,.inr h,r⟩
theorem Rep.sqL {K:PySem.W.Frag} {v:V} {ds:List D} (r:Rep K μ H v (.lst ds)):∃ a vs,v=.ref a∧H a=some (.lst vs)∧μ.no a∧Reps K μ H vs ds:=by
  cases r with
  | lst h n r=>exact ⟨_,_,rfl,h,n,r⟩
theorem Rep.sqR {K:PySem.W.Frag} {v:V} {ds:List D} (r:Rep K μ H v (.rol ds)):∃ a vs,v=.ref a∧SqL K H a vs∧Reps K μ H vs ds:=by
  cases r with
  | rol h n r=>exact ⟨_,_,rfl,.inl h,r⟩
  | krol h r=>exact ⟨_,_,rfl,.inr h,r⟩
theorem ntl (I:Inv X pins σ H s) {a:Addr} {xs ys:List V} (h:SqT X.K H a xs) (h':SqL X.K H a ys):False:=by
  obtain ⟨its,_,⟨o,e,c,_⟩,_⟩:=I.tuple h
  obtain ⟨its',_,⟨o',n',e',c',_⟩,_⟩:=I.list h'
  rw [e] at e';cases e'
  rw [c] at c'
  exact absurd c' (by simp)
theorem Rep.non_inv {K:PySem.W.Frag} {v:V} (h:Rep K μ H v .non):v=.non:=by cases h;rfl
theorem okD_rol {n:Nat} {xs:List D}:okD n (.rol xs)=false:=by cases n <;> rfl
theorem okD_dct {n:Nat} {ks:List Key} {xs:List D}:okD n (.dct ks xs)=false:=by cases n <;> rfl
theorem okD_ref {n:Nat} {r:Nat}:okD n (.ref r)=false:=by cases n <;> rfl
theorem okD_tup {n:Nat} {xs:List D} (h:okD n (.tup xs)=true):∃ m,m+1=n∧∀ x∈xs,okD m x=true:=by
  cases n with
  | zero=>cases h
  | succ n=>exact ⟨n,rfl,List.all_eq_true.mp h⟩
theorem okD_lst {n:Nat} {xs:List D} (h:okD n (.lst xs)=true):∃ m,m+1=n∧∀ x∈xs,okD m x=true:=by
  cases n with
  | zero=>cases h
  | succ n=>exact ⟨n,rfl,List.all_eq_true.mp h⟩
inductive Fm (K:PySem.W.Frag) (μ:Fp) (H:Hp):D→V→Prop
  | non:Fm K μ H .non .non
  | bl (b:Bool):Fm K μ H (.bl b) (.bl b)
  | int (i:Int):Fm K μ H (.int i) (.int i)
  | str (x:Str):Fm K μ H (.str x) (.str x)
  | tup {xs:List D} {l:Addr} {vs:List V} (q:SqT K H l vs) (r:Reps K μ H vs xs):Fm K μ H (.tup xs) (.ref l)
  | lst {xs:List D} {l:Addr} {vs:List V} (q:SqL K H l vs) (r:Reps K μ H vs xs):Fm K μ H (.lst xs) (.ref l)
theorem fm_of {K:PySem.W.Frag} {n:Nat} {x:D} {a:V} (hx:okD n x=true) (r:Rep K μ H a x):Fm K μ H x a:=by
  cases x with
  | non=>rw [r.non_inv];exact .non
  | bl b=>rw [r.bl_inv];exact .bl b
  | int b=>rw [r.int_inv];exact .int b
  | str b=>rw [r.str_inv];exact .str b
  | tup xs=>obtain ⟨l,vs,rfl,q,r⟩:=r.sqT;exact .tup q r
  | lst xs=>obtain ⟨l,vs,rfl,q,_,r⟩:=r.sqL;exact .lst (.inl (.inl q)) r
  | rol _=>rw [okD_rol] at hx;cases hx
  | dct _ _=>rw [okD_dct] at hx;cases hx
  | ref _=>rw [okD_ref] at hx;cases hx
theorem Reps.injN {K:PySem.W.Frag} {n:Nat} (ih:∀ {v:V} {x y:D},okD n x=true→okD n y=true→Rep K μ H v x→Rep K μ H v y→x=y):∀ {vs:List V} {xs ys:List D},(∀ x∈xs,okD n x=true)→(∀ y∈ys,okD n y=true)→Reps K μ H vs xs→Reps K μ H vs ys→xs=ys
  | _,_,_,_,_,.nil,.nil=>rfl
  | _,_,_,hx,hy,.cons h t,.cons h' t'=>by
    rw [ih (hx _ List.mem_cons_self) (hy _ List.mem_cons_self) h h',Reps.injN ih (fun x m=>hx x (List.mem_cons_of_mem _ m)) (fun x m=>hy x (List.mem_cons_of_mem _ m)) t t']
theorem inj_step (I:Inv X pins σ H s) (n:Nat) (ih:∀ m,m+1=n→∀ {v:V} {x y:D},okD m x=true→okD m y=true→Rep X.K μ H v x→Rep X.K μ H v y→x=y) {v:V} {x y:D} (hx:okD n x=true) (hy:okD n y=true) (rx:Rep X.K μ H v x) (ry:Rep X.K μ H v y):x=y:=by
  have fy:=fm_of hy ry
  cases x with
  | tup xs=>
    obtain ⟨a,vs,rfl,q,r⟩:=rx.sqT
    obtain ⟨m,hm,ox⟩:=okD_tup hx
    cases fy with
    | tup q' r'=>
      cases I.tuple_inj q' q
      obtain ⟨m',hm',oy⟩:=okD_tup hy
      have:m'=m:=by omega
      subst this
      rw [Reps.injN (ih m' hm) ox oy r r']
    | lst q' _=>exact (ntl I q q').elim
  | lst xs=>
    obtain ⟨a,vs,rfl,q,_,r⟩:=rx.sqL
    obtain ⟨m,hm,ox⟩:=okD_lst hx
    cases y with
    | lst ys=>
      obtain ⟨m',hm',oy⟩:=okD_lst hy
      have:m'=m:=by omega
      subst this
      obtain ⟨a',vs',e,q',_,r'⟩:=ry.sqL
      cases e
      rw [q] at q';cases q'
      rw [Reps.injN (ih m' hm) ox oy r r']
    | _=>cases fy <;> exact (ntl I (by assumption) (.inl (.inl q))).elim
  | non=>rw [rx.non_inv] at fy;cases fy;rfl
  | bl b=>rw [rx.bl_inv] at fy;cases fy;rfl
  | int b=>rw [rx.int_inv] at fy;cases fy;rfl
  | str b=>rw [rx.str_inv] at fy;cases fy;rfl
  | rol _=>rw [okD_rol] at hx;cases hx
  | dct _ _=>rw [okD_dct] at hx;cases hx
  | ref _=>rw [okD_ref] at hx;cases hx
theorem Rep.inj (I:Inv X pins σ H s) (n:Nat):∀ {v:V} {x y:D},okD n x=true→okD n y=true→Rep X.K μ H v x→Rep X.K μ H v y→x=y:=by
  induction n with
  | zero=>exact fun hx hy rx ry=>inj_step I 0 (fun m h=>absurd h (Nat.succ_ne_zero m)) hx hy rx ry
  | succ n ih=>exact fun hx hy rx ry=>inj_step I (n+1) (fun m h=>by cases h;exact ih) hx hy rx ry
theorem eqD_refl:∀ (n:Nat) (x:D),okD n x=true→eqD x x=true
  | n,.non,_=>rfl
  | n,.bl _,_=>by simp [eqD]
  | n,.int _,_=>by simp [eqD]
  | n,.str _,_=>by simp [eqD]
  | 0,.tup _,h=>by simp [okD] at h
  | 0,.lst _,h=>by simp [okD] at h
  | n+1,.tup xs,h=>by
    simp only [okD,List.all_eq_true] at h
    rw [eqD]
    induction xs with
    | nil=>rfl
    | cons x xs ih=>rw [eqDs,eqD_refl n x (h x List.mem_cons_self),ih fun y m=>h y (List.mem_cons_of_mem _ m)];rfl
  | n+1,.lst xs,h=>by
    simp only [okD,List.all_eq_true] at h
    rw [eqD]
    induction xs with
    | nil=>rfl
    | cons x xs ih=>rw [eqDs,eqD_refl n x (h x List.mem_cons_self),ih fun y m=>h y (List.mem_cons_of_mem _ m)];rfl
  | n,.rol _,h=>by cases n <;> simp [okD] at h
  | n,.dct _ _,h=>by cases n <;> simp [okD] at h
  | n,.ref _,h=>by cases n <;> simp [okD] at h
open PySem.SeqAt
theorem in1_units (A:Around):A.in1.units=A.units+1:=rfl
theorem items_all {its its2:List Value} {vs ws:List V} {xs ys:List D} {P:Value→Value→Bool→Prop} (r1:Vals vs its) (q1:Reps X.K μ H vs xs) (r2:Vals ws its2) (q2:Reps X.K μ H ws ys)
    (h:∀ (j:Nat) (v w:V) (u u':Value) (x y:D),xs[j]?=some x→ys[j]?=some y→Rep X.K μ H v x→Rep X.K μ H w y→RelV v u→RelV w u'→P u u' (eqD x y)) :
    ∀ j (h1:j<its.toArray.size) (h2:j<its2.toArray.size),P its.toArray[j] its2.toArray[j] (match xs[j]?,ys[j]? with | some a,some b=>eqD a b | _,_=>true):=fun j h1 h2=>by
  have l1:=r1.length
  have l2:=r2.length
  have m1:=q1.length
  have m2:=q2.length
  have h1':j<its.length:=by simpa using h1
  have h2':j<its2.length:=by simpa using h2
  have hx:xs[j]?=some xs[j]:=List.getElem?_eq_getElem (by omega)
  have hy:ys[j]?=some ys[j]:=List.getElem?_eq_getElem (by omega)
  obtain ⟨v,e1,p1⟩:=q1.get hx
  obtain ⟨w,e2,p2⟩:=q2.get hy
  obtain ⟨u,f1,g1⟩:=r1.get e1
  obtain ⟨u',f2,g2⟩:=r2.get e2
  rw [hx,hy]
  have:=h j v w u u' _ _ hx hy p1 p2 g1 g2
  have f1':its.toArray[j]=u:=by simpa [List.getElem?_eq_getElem h1'] using f1
  have f2':its2.toArray[j]=u':=by simpa [List.getElem?_eq_getElem h2'] using f2
  rw [f1',f2']
  exact this
structure Cmp3 (A:Around) (s:Shared) (u v:Value) (b:Bool):Prop where
  eq:EqAt A s u v b
  rc:RcAt A s u v b
  ne:RcNeAt A s u v (!b)
theorem eq_step (I:Inv X pins σ H s) (n:Nat) (ih:∀ m,m+1=n→∀ (A:Around) {a b:V} {u v:Value} {x y:D},A.units+m<cLine→okD m x=true→okD m y=true→Rep X.K μ H a x→Rep X.K μ H b y→RelV a u→RelV b v→Cmp3 A s u v (eqD x y))
    (A:Around) {a b:V} {u v:Value} {x y:D} (hn:A.units+n<cLine) (hx:okD n x=true) (hy:okD n y=true) (rx:Rep X.K μ H a x) (ry:Rep X.K μ H b y) (ra:RelV a u) (rb:RelV b v):Cmp3 A s u v (eqD x y):=by
  have hu:A.units<cLine:=by omega
  cases fm_of hx rx with
  | non=>
    cases ra
    cases fm_of hy ry with
    | non=>cases rb;exact ⟨EqAt.same _,RcAt.none_none,RcNeAt.none_none⟩
    | bl b=>cases rb;exact ⟨EqAt.none_bool b,RcAt.none_bool b,RcNeAt.none_bool b⟩
    | int b=>obtain ⟨t,rfl⟩:=rb;exact ⟨EqAt.none_int b t,RcAt.none_int b t,RcNeAt.none_int b t⟩
    | str b=>obtain ⟨t,rfl⟩:=rb;exact ⟨EqAt.none_str b t,RcAt.none_str b t,RcNeAt.none_str b t⟩
    | tup q r=>cases rb;obtain ⟨its,rv,p,_⟩:=I.tuple q;exact ⟨EqAt.none_tuple p hu,RcAt.none_tuple p hu,RcNeAt.none_tuple p hu⟩
    | lst q r=>cases rb;obtain ⟨its,rv,p,_⟩:=I.list q;exact ⟨EqAt.none_list p.isList hu,RcAt.none_list p.isList hu,RcNeAt.none_list p.isList hu⟩
  | bl a=>
    cases ra
    cases fm_of hy ry with
    | non=>cases rb;exact ⟨EqAt.bool_none a,RcAt.bool_none a,RcNeAt.bool_none a⟩
    | bl b=>cases rb;exact ⟨EqAt.bool_bool a b,RcAt.bool_bool a b,RcNeAt.bool_bool a b⟩
    | int b=>obtain ⟨t,rfl⟩:=rb;exact ⟨EqAt.bool_int a b t,RcAt.bool_int a b t,RcNeAt.bool_int a b t⟩
    | str b=>obtain ⟨t,rfl⟩:=rb;exact ⟨EqAt.bool_str a b t,RcAt.bool_str a b t,RcNeAt.bool_str a b t⟩
    | tup q r=>cases rb;obtain ⟨its,rv,p,_⟩:=I.tuple q;exact ⟨EqAt.bool_tuple a p hu,RcAt.bool_tuple a p hu,RcNeAt.bool_tuple a p hu⟩
    | lst q r=>cases rb;obtain ⟨its,rv,p,_⟩:=I.list q;exact ⟨EqAt.bool_list a p.isList hu,RcAt.bool_list a p.isList hu,RcNeAt.bool_list a p.isList hu⟩
  | int a=>
    obtain ⟨t',rfl⟩:=ra
    cases fm_of hy ry with
    | non=>cases rb;exact ⟨EqAt.int_none a t',RcAt.int_none a t',RcNeAt.int_none a t'⟩
    | bl b=>cases rb;exact ⟨EqAt.int_bool a t' b,RcAt.int_bool a t' b,RcNeAt.int_bool a t' b⟩
    | int b=>obtain ⟨t,rfl⟩:=rb;exact ⟨EqAt.int_int a t' b t,RcAt.int_int a t' b t,RcNeAt.int_int a t' b t⟩
    | str b=>obtain ⟨t,rfl⟩:=rb;exact ⟨EqAt.int_str a t' b t,RcAt.int_str a t' b t,RcNeAt.int_str a t' b t⟩
    | tup q r=>cases rb;obtain ⟨its,rv,p,_⟩:=I.tuple q;exact ⟨EqAt.int_tuple a t' p hu,RcAt.int_tuple a t' p hu,RcNeAt.int_tuple a t' p hu⟩
    | lst q r=>cases rb;obtain ⟨its,rv,p,_⟩:=I.list q;exact ⟨EqAt.int_list a t' p.isList hu,RcAt.int_list a t' p.isList hu,RcNeAt.int_list a t' p.isList hu⟩
  | str a=>
    obtain ⟨t',rfl⟩:=ra
    cases fm_of hy ry with
    | non=>cases rb;exact ⟨EqAt.str_none a t',RcAt.str_none a t',RcNeAt.str_none a t'⟩
    | bl b=>cases rb;exact ⟨EqAt.str_bool a t' b,RcAt.str_bool a t' b,RcNeAt.str_bool a t' b⟩
    | int b=>obtain ⟨t,rfl⟩:=rb;exact ⟨EqAt.str_int a t' b t,RcAt.str_int a t' b t,RcNeAt.str_int a t' b t⟩
    | str b=>obtain ⟨t,rfl⟩:=rb;exact ⟨EqAt.str_str a t' b t,RcAt.str_str a t' b t,RcNeAt.str_str a t' b t⟩
    | tup q r=>cases rb;obtain ⟨its,rv,p,_⟩:=I.tuple q;exact ⟨EqAt.str_tuple a t' p hu,RcAt.str_tuple a t' p hu,RcNeAt.str_tuple a t' p hu⟩
    | lst q r=>cases rb;obtain ⟨its,rv,p,_⟩:=I.list q;exact ⟨EqAt.str_list a t' p.isList hu,RcAt.str_list a t' p.isList hu,RcNeAt.str_list a t' p.isList hu⟩
  | @tup xs l vs q r=>
    cases ra
    obtain ⟨its,rv,p,_⟩:=I.tuple q
    cases fm_of hy ry with
    | non=>cases rb;exact ⟨EqAt.tuple_none p hu,RcAt.tuple_none p hu,RcNeAt.tuple_none p hu⟩
    | bl b=>cases rb;exact ⟨EqAt.tuple_bool b p hu,RcAt.tuple_bool b p hu,RcNeAt.tuple_bool b p hu⟩
    | int b=>obtain ⟨t,rfl⟩:=rb;exact ⟨EqAt.tuple_int b t p hu,RcAt.tuple_int b t p hu,RcNeAt.tuple_int b t p hu⟩
    | str b=>obtain ⟨t,rfl⟩:=rb;exact ⟨EqAt.tuple_str b t p hu,RcAt.tuple_str b t p hu,RcNeAt.tuple_str b t p hu⟩
    | @tup ys l' vs' q' r'=>
      cases rb
      obtain ⟨its',rv',p',_⟩:=I.tuple q'
      obtain ⟨m,hm,ox⟩:=okD_tup hx
      obtain ⟨m',hm',oy⟩:=okD_tup hy
      have:m'=m:=by omega
      subst this
      have all:=items_all (P:=fun u u' b=>EqAt A.in1 s u u' b) rv r rv' r' fun j v w u u' x y hx' hy' q1 q2 g1 g2=>
        (ih m' hm A.in1 (by rw [in1_units];omega) (ox x (List.mem_of_getElem? hx')) (oy y (List.mem_of_getElem? hy')) q1 q2 g1 g2).eq
      have e0:its.toArray.size=xs.length:=by rw [List.size_toArray,← rv.length,r.length]
      have e1:its'.toArray.size=ys.length:=by rw [List.size_toArray,← rv'.length,r'.length]
      have key:=RcAt.tuples (A:=A) (s:=s) p p' hu all
      have kne:=RcNeAt.tuples (A:=A) (s:=s) p p' hu all
      rw [e0,e1,← eqDs_eq] at key kne
      refine ⟨?_,key,kne⟩
      by_cases hl:l=l'
      · subst hl
        rw [← Rep.inj I n hx hy rx ry,eqD_refl _ _ hx]
        exact EqAt.same _
      · exact EqAt.of_refs hl key
    | lst q' r'=>cases rb;obtain ⟨its',rv',p',_⟩:=I.list q';exact ⟨EqAt.tuple_list p p'.isList hu,RcAt.tuple_list p p'.isList hu,RcNeAt.tuple_list p p'.isList hu⟩
  | @lst xs l vs q r=>
    cases ra
    obtain ⟨its,rv,p0,_⟩:=I.list q
    have p:=p0.isList
    cases fm_of hy ry with
    | non=>cases rb;exact ⟨EqAt.list_none p hu,RcAt.list_none p hu,RcNeAt.list_none p hu⟩
    | bl b=>cases rb;exact ⟨EqAt.list_bool b p hu,RcAt.list_bool b p hu,RcNeAt.list_bool b p hu⟩
    | int b=>obtain ⟨t,rfl⟩:=rb;exact ⟨EqAt.list_int b t p hu,RcAt.list_int b t p hu,RcNeAt.list_int b t p hu⟩
    | str b=>obtain ⟨t,rfl⟩:=rb;exact ⟨EqAt.list_str b t p hu,RcAt.list_str b t p hu,RcNeAt.list_str b t p hu⟩
    | tup q' r'=>cases rb;obtain ⟨its',rv',p',_⟩:=I.tuple q';exact ⟨EqAt.list_tuple p p' hu,RcAt.list_tuple p p' hu,RcNeAt.list_tuple p p' hu⟩
    | @lst ys l' vs' q' r'=>
      cases rb
      obtain ⟨its',rv',p0',_⟩:=I.list q'
      have p':=p0'.isList
      obtain ⟨m,hm,ox⟩:=okD_lst hx
      obtain ⟨m',hm',oy⟩:=okD_lst hy
      have:m'=m:=by omega
      subst this
      have all:=items_all (P:=fun u u' b=>EqAt A.in1 s u u' b) rv r rv' r' fun j v w u u' x y hx' hy' q1 q2 g1 g2=>
        (ih m' hm A.in1 (by rw [in1_units];omega) (ox x (List.mem_of_getElem? hx')) (oy y (List.mem_of_getElem? hy')) q1 q2 g1 g2).eq
      have e0:its.toArray.size=xs.length:=by rw [List.size_toArray,← rv.length,r.length]
      have e1:its'.toArray.size=ys.length:=by rw [List.size_toArray,← rv'.length,r'.length]
      have key:RcAt A s (.ref l) (.ref l') (eqDs xs ys)∧RcNeAt A s (.ref l) (.ref l') (!eqDs xs ys):=by
        rw [eqDs_eq]
        by_cases hlen:xs.length=ys.length
        · have k1:=RcAt.lists (A:=A) (s:=s) p p' (by rw [e0,e1,hlen]) hu all
          have k2:=RcNeAt.lists (A:=A) (s:=s) p p' (by rw [e0,e1,hlen]) hu all
          rw [e0] at k1 k2
          rw [← hlen,Nat.min_self,beq_self_eq_true,Bool.and_true]
          exact ⟨k1,k2⟩
        · rw [show (xs.length == ys.length)=false from beq_eq_false_iff_ne.mpr hlen,Bool.and_false]
          exact ⟨RcAt.lists_lengths (A:=A) (s:=s) p p' (by rw [e0,e1];exact bne_iff_ne.mpr hlen) hu,RcNeAt.lists_lengths (A:=A) (s:=s) p p' (by rw [e0,e1];exact bne_iff_ne.mpr hlen) hu⟩
      refine ⟨?_,key.1,key.2⟩
      by_cases hl:l=l'
      · subst hl
        rw [← Rep.inj I n hx hy rx ry,eqD_refl _ _ hx]
        exact EqAt.same _
      · exact EqAt.of_refs hl key.1
theorem cmp3 (I:Inv X pins σ H s) (n:Nat):∀ (A:Around) {a b:V} {u v:Value} {x y:D},A.units+n<cLine→okD n x=true→okD n y=true→Rep X.K μ H a x→Rep X.K μ H b y→RelV a u→RelV b v→Cmp3 A s u v (eqD x y):=by
  induction n with
  | zero=>exact fun A _ _ _ _ _ _ hn hx hy rx ry ra rb=>eq_step I 0 (fun m h=>absurd h (Nat.succ_ne_zero m)) A hn hx hy rx ry ra rb
  | succ n ih=>exact fun A _ _ _ _ _ _ hn hx hy rx ry ra rb=>eq_step I (n+1) (fun m h=>by cases h;exact ih) A hn hx hy rx ry ra rb
theorem eqRc (I:Inv X pins σ H s) (n:Nat) (A:Around) {a b:V} {u v:Value} {x y:D} (hn:A.units+n<cLine) (hx:okD n x=true) (hy:okD n y=true) (rx:Rep X.K μ H a x) (ry:Rep X.K μ H b y) (ra:RelV a u) (rb:RelV b v) :
    EqAt A s u v (eqD x y)∧RcAt A s u v (eqD x y):=⟨(cmp3 I n A hn hx hy rx ry ra rb).eq,(cmp3 I n A hn hx hy rx ry ra rb).rc⟩
theorem neRc (I:Inv X pins σ H s) (n:Nat) (A:Around) {a b:V} {u v:Value} {x y:D} (hn:A.units+n<cLine) (hx:okD n x=true) (hy:okD n y=true) (rx:Rep X.K μ H a x) (ry:Rep X.K μ H b y) (ra:RelV a u) (rb:RelV b v) :
    RcNeAt A s u v (!eqD x y):=(cmp3 I n A hn hx hy rx ry ra rb).ne
end
end M
namespace M
open PySem PySem.Spec PyProof.Rows L2
section
variable {X:Cx} {pins:List (Addr×Obj)} {σ:L2.St} {H:Hp} {s:Shared} {μ:Fp} {A:Around}
open PySem.SeqAt
end
noncomputable def seqD (S:Store):D→Option (List D)
  | .tup xs=>some xs
  | .lst xs=>some xs
  | .rol xs=>some xs
  | .ref r=>match S[r]? with | some (.lst xs)=>some xs | _=>none
  | _=>none
section
variable {X:Cx} {K:PySem.W.Frag} {μ:Fp} {H:Hp} {S:Store}
theorem seqD_of {x:V} {d:D} {ds:List D} (s:SOk K μ S H) (r:Rep K μ H x d) (h:seqD S d=some ds):∃ a vs,x=.ref a∧(SqL K H a vs∨SqT K H a vs)∧Reps K μ H vs ds:=by
  cases r with
  | tup h' n r=>cases h;exact ⟨_,_,rfl,.inr (.inl (.inl h')),r⟩
  | ktup h' r=>cases h;exact ⟨_,_,rfl,.inr (.inr h'),r⟩
  | lst h' n r=>cases h;exact ⟨_,_,rfl,.inl (.inl (.inl h')),r⟩
  | rol h' n r=>cases h;exact ⟨_,_,rfl,.inl (.inl h'),r⟩
  | krol h' r=>cases h;exact ⟨_,_,rfl,.inl (.inr h'),r⟩
  | @ref a i h'=>
    simp only [seqD] at h
    cases q:S[i]? with
    | none=>rw [q] at h;cases h
    | some c=>
      rw [q] at h
      have ck:=s.cell i a c h' q
      cases c with
      | lst xs=>cases h;obtain ⟨vs,e,r⟩:=ck;exact ⟨_,vs,rfl,.inl (.inl (.inl e)),r⟩
      | dct ks xs=>cases h
  | _=>cases h
noncomputable def fEq (S:Store) (x y:D):Option D:=if okD 40 x=true∧okD 40 y=true then some (.bl (eqD x y)) else none
noncomputable def fNe (S:Store) (x y:D):Option D:=if okD 40 x=true∧okD 40 y=true then some (.bl (!eqD x y)) else none
theorem op_Eq (hu:X.A.units+64<cLine):OpR X (compareOp .Eq) (rM2 X.K fEq):=by
  intro pins s σ H x y v u Q I rx ry h
  obtain ⟨μ,S,dx,dy,dz,hS,h1,h2,h3,post⟩:=h
  simp only [fEq] at h3
  split at h3
  · rename_i hk
    cases h3
    exact (eqRc I 40 X.A (by omega) hk.1 hk.2 h1 h2 rx ry).2 X.prog X.w X.xe _ ⟨.bl _,H,I,rfl,post.here hS (.bl _)⟩
  · cases h3
theorem op_Ne (hu:X.A.units+64<cLine):OpR X (compareOp .NotEq) (rM2 X.K fNe):=by
  intro pins s σ H x y v u Q I rx ry h
  obtain ⟨μ,S,dx,dy,dz,hS,h1,h2,h3,post⟩:=h
  simp only [fNe] at h3
  split at h3
  · rename_i hk
    cases h3
    exact neRc I 40 X.A (by omega) hk.1 hk.2 h1 h2 rx ry X.prog X.w X.xe _ ⟨.bl _,H,I,rfl,post.here hS (.bl _)⟩
  · cases h3
open Classical in
noncomputable def eqVal (K:PySem.W.Frag) (μ:Fp) (H:Hp) (x:D) (u:Value):Bool:=decide (∃ v d,RelV v u∧Rep K μ H v d∧okD 39 d=true∧eqD d x=true)
open Classical in
theorem eqVal_of {pins:List (Addr×Obj)} {σ:L2.St} {s:Shared} (I:Inv X pins σ H s) {x d:D} {v:V} {u:Value} (rv:RelV v u) (r:Rep X.K μ H v d) (ok:okD 39 d=true):eqVal X.K μ H x u=eqD d x:=by
  unfold eqVal
  cases e:eqD d x with
  | true=>exact decide_eq_true ⟨v,d,rv,r,ok,e⟩
  | false=>
    refine decide_eq_false ?_
    rintro ⟨v',d',rv',r',ok',e'⟩
    cases rv.inj rv'
    rw [Rep.inj I 39 ok ok' r r'] at e
    rw [e] at e';cases e'
theorem any_eqVal {pins:List (Addr×Obj)} {σ:L2.St} {s:Shared} (I:Inv X pins σ H s) {x:D}:∀ {vs:List V} {us:List Value} {ds:List D},Vals vs us→Reps X.K μ H vs ds→(∀ d∈ds,okD 39 d=true) →
    us.any (eqVal X.K μ H x)=ds.any fun d=>eqD d x
  | _,_,_,.nil,.nil,_=>rfl
  | _,_,_,.cons rv tv,.cons r t,ok=>by
    rw [List.any_cons,List.any_cons,eqVal_of I rv r (ok _ List.mem_cons_self),any_eqVal I tv t fun d m=>ok d (List.mem_cons_of_mem _ m)]
theorem mem_eqVal {pins:List (Addr×Obj)} {σ:L2.St} {s:Shared} (I:Inv X pins σ H s) {A:Around} (hu:A.units+40<cLine) {x:D} {v:V} {u:Value} (rx:RelV v u) (rD:Rep X.K μ H v x) (okx:okD 40 x=true) :
    ∀ {vs:List V} {us:List Value} {ds:List D},Vals vs us→Reps X.K μ H vs ds→(∀ d∈ds,okD 39 d=true)→∀ w∈us,PySem.SeqAt.EqAt A s w u (eqVal X.K μ H x w)
  | _,_,_,.nil,.nil,_=>fun w hw=>by cases hw
  | _,_,_,.cons rv tv,.cons r t,ok=>fun w hw=>by
    rcases List.mem_cons.mp hw with rfl | hw
    · rw [eqVal_of I rv r (ok _ List.mem_cons_self)]
      exact (eqRc I 40 A hu (okD_mono (by decide) (ok _ List.mem_cons_self)) okx r rD rv rx).1
    · exact mem_eqVal I hu rx rD okx tv t (fun d m=>ok d (List.mem_cons_of_mem _ m)) w hw
noncomputable def fIn (S:Store) (x y:D):Option D:=(seqD S y).bind fun ds=>if okD 40 x=true∧ds.all (okD 39)=true then some (.bl (ds.any fun d=>eqD d x)) else none
noncomputable def fNotIn (S:Store) (x y:D):Option D:=(seqD S y).bind fun ds=>if okD 40 x=true∧ds.all (okD 39)=true then some (.bl (!ds.any fun d=>eqD d x)) else none
theorem op_In (hu:X.A.units+64<cLine):OpR X (compareOp .In) (rM2 X.K fIn):=by
  intro pins s σ H x y v u Q I rx ry h
  obtain ⟨μ,S,dx,dy,dz,hS,h1,h2,h3,post⟩:=h
  obtain ⟨ds,e,h3⟩:=Option.bind_eq_some_iff.mp h3
  split at h3
  · rename_i hk
    cases h3
    obtain ⟨a,vs,rfl,hq,r⟩:=seqD_of hS h2 e
    cases ry
    have ok:=List.all_eq_true.mp hk.2
    rcases hq with hq | hq
    · obtain ⟨its,rv,pl,hz⟩:=I.list hq
      refine SeqAt.in_listAt (eqVal X.K μ H dx) pl.isList (fun w hw=>mem_eqVal I (by show X.A.units+1+40<cLine;omega) rx h1 hk.1 rv r ok w (by simpa using hw)) ⟨.bl _,H,I,rfl,?_⟩
      rw [show its.toArray.any (eqVal X.K μ H dx)=its.any (eqVal X.K μ H dx) by simp,any_eqVal I rv r ok]
      exact post.here hS (.bl _)
    · obtain ⟨its,rv,pl,hz⟩:=I.tuple hq
      refine SeqAt.in_tupleAt (eqVal X.K μ H dx) pl (fun w hw=>mem_eqVal I (by show X.A.units+1+40<cLine;omega) rx h1 hk.1 rv r ok w (by simpa using hw)) ⟨.bl _,H,I,rfl,?_⟩
      rw [show its.toArray.any (eqVal X.K μ H dx)=its.any (eqVal X.K μ H dx) by simp,any_eqVal I rv r ok]
      exact post.here hS (.bl _)
  · cases h3
theorem op_NotIn (hu:X.A.units+64<cLine):OpR X (compareOp .NotIn) (rM2 X.K fNotIn):=by
  intro pins s σ H x y v u Q I rx ry h
  obtain ⟨μ,S,dx,dy,dz,hS,h1,h2,h3,post⟩:=h
  obtain ⟨ds,e,h3⟩:=Option.bind_eq_some_iff.mp h3
  split at h3
  · rename_i hk
    cases h3
    obtain ⟨a,vs,rfl,hq,r⟩:=seqD_of hS h2 e
    cases ry
    have ok:=List.all_eq_true.mp hk.2
    rcases hq with hq | hq
    · obtain ⟨its,rv,pl,hz⟩:=I.list hq
      refine SeqAt.notIn_listAt (eqVal X.K μ H dx) pl.isList (fun w hw=>mem_eqVal I (by show X.A.units+1+40<cLine;omega) rx h1 hk.1 rv r ok w (by simpa using hw)) ⟨.bl _,H,I,rfl,?_⟩
      rw [show its.toArray.any (eqVal X.K μ H dx)=its.any (eqVal X.K μ H dx) by simp,any_eqVal I rv r ok]
      exact post.here hS (.bl _)
    · obtain ⟨its,rv,pl,hz⟩:=I.tuple hq
      refine SeqAt.notIn_tupleAt (eqVal X.K μ H dx) pl (fun w hw=>mem_eqVal I (by show X.A.units+1+40<cLine;omega) rx h1 hk.1 rv r ok w (by simpa using hw)) ⟨.bl _,H,I,rfl,?_⟩
      rw [show its.toArray.any (eqVal X.K μ H dx)=its.any (eqVal X.K μ H dx) by simp,any_eqVal I rv r ok]
      exact post.here hS (.bl _)
  · cases h3
noncomputable def isD:D→D→Bool
  | .non,.non=>true
  | .bl a,.bl b=>a == b
  | _,_=>false
noncomputable def fIs (S:Store) (x y:D):Option D:=match y with | .non=>some (.bl (isD x y)) | .bl _=>some (.bl (isD x y)) | _=>none
noncomputable def fIsNot (S:Store) (x y:D):Option D:=match y with | .non=>some (.bl (!isD x y)) | .bl _=>some (.bl (!isD x y)) | _=>none
theorem isD_of {x y:V} {dx dy:D} {v u:Value} (h1:Rep K μ H x dx) (h2:Rep K μ H y dy) (rx:RelV x v) (ry:RelV y u) (hy:dy=.non∨∃ b,dy=.bl b):plainIs v u=true∧(v == u)=isD dx dy:=by
  rcases hy with rfl | ⟨b,rfl⟩
  · cases h2;cases ry
    cases h1 <;> first | (cases rx;exact ⟨rfl,rfl⟩) | (obtain ⟨t,rfl⟩:=rx;exact ⟨rfl,rfl⟩)
  · cases h2;cases ry
    cases h1 <;> first | (cases rx;exact ⟨rfl,rfl⟩) | (obtain ⟨t,rfl⟩:=rx;exact ⟨rfl,rfl⟩) | (cases rx;rename_i c;refine ⟨rfl,?_⟩;cases b <;> cases c <;> rfl)
theorem op_Is:OpR X (compareOp .Is) (rM2 X.K fIs):=by
  intro pins s σ H x y v u Q I rx ry h
  obtain ⟨μ,S,dx,dy,dz,hS,h1,h2,h3,post⟩:=h
  have hy:(dy=.non∨∃ b,dy=.bl b)∧dz=.bl (isD dx dy):=by
    cases dy <;> first | (cases h3;exact ⟨.inl rfl,rfl⟩) | (cases h3;exact ⟨.inr ⟨_,rfl⟩,rfl⟩) | cases h3
  obtain ⟨p,e⟩:=isD_of h1 h2 rx ry hy.1
  cases hy.2
  exact wpAny_is_plain p ⟨.bl _,H,I,congrArg Value.bool e,post.here hS (.bl _)⟩
theorem op_IsNot:OpR X (compareOp .IsNot) (rM2 X.K fIsNot):=by
  intro pins s σ H x y v u Q I rx ry h
  obtain ⟨μ,S,dx,dy,dz,hS,h1,h2,h3,post⟩:=h
  have hy:(dy=.non∨∃ b,dy=.bl b)∧dz=.bl (!isD dx dy):=by
    cases dy <;> first | (cases h3;exact ⟨.inl rfl,rfl⟩) | (cases h3;exact ⟨.inr ⟨_,rfl⟩,rfl⟩) | cases h3
  obtain ⟨p,e⟩:=isD_of h1 h2 rx ry hy.1
  cases hy.2
  exact wpAny_isNot_plain p ⟨.bl _,H,I,congrArg (fun b=>Value.bool (!b)) e,post.here hS (.bl _)⟩
end
end M
namespace HT
open PySem PySem.Spec PyProof.Rows
section
variable {prog:Program} {w:World} {A:Around} {E:Value→Shared→Prop} {s:Shared}
theorem cat_nil {t b:Addr} {ws:List Value} {Q:Value→Shared→Prop} (ht:IsTup s.heap t #[]) (hb:IsTup s.heap b ws.toArray) (h:Q (.ref b) s):wpAny (model prog w) A (binaryOp .Add (.ref t) (.ref b)) Q E s:=by
  obtain ⟨⟨cls,dd,data,sl⟩,ho,hc,n,hd⟩:=id ht
  obtain ⟨⟨cls2,dd2,data2,sl2⟩,ho2,hc2,n2,hd2⟩:=id hb
  simp only at hc hd hc2 hd2
  subst hc hd hc2 hd2
  exact concat_meets ⟨_,ho,rfl⟩ ⟨_,ho2,rfl⟩ noFill_tuple_add seq_tuple_add PySem.F.slot_tuple_add PySem.F.entry_tuple_add (PySem.F.args_tuple_add_2 _ _)
      (tuple_addW0 t b #[] ws.toArray n n2 dd dd2 sl sl2 rfl) ⟨ho,ho2,h⟩
theorem getItem_tuple_whole {t sl:Addr} {items:Array Value} {vl vu:Value} {lo hi:Option Int} {Q:Value→Shared→Prop} (ht:IsTup s.heap t items) (hs:s.heap.IsSliceOf sl vl vu .none) (pl:IsPart vl lo) (pu:IsPart vu hi)
    (hw:sIx items.size 0 lo=0∧sIx items.size items.size hi=items.size) (h:Q (.ref t) s):wpAny (model prog w) A (getItem (.ref t) (.ref sl)) Q E s:=by
  obtain ⟨os,hos,hcs,hds⟩:=id hs
  have hTs:s.TypeIs (.ref sl) "slice":=⟨os,hos,hcs⟩
  unfold getItem
  try with_reducible refine wpAny_holding ?_
  first | refine wpAny_bind (wpAny_pure ?_) | skip
  refine wpAny_bind (wpAny_sequenceKey ht.typeIs (by decide) ?_)
  refine wpAny_bind (wpAny_callSpecial?_slot (name:=Str.ofString "__getitem__") ht.typeIs PyProof.Rows.slot_tuple_getitem
    (wpAny_call_entry PyProof.Rows.slot_tuple_getitem ht.typeIs entry_tuple_getitem ?_ (args_tuple_getitem _ _)))
  show wpAny _ _ (Builtin.Tuple.tupleItemsOf (.ref t) >>= _) _ _ s
  refine wpAny_bind (tupleItemsOf_ ht ?_)
  refine wpAny_bind (wpAny_typeOf hTs ?_)
  rw [if_pos (by decide)]
  refine wpAny_bind (sliceApplied_gen hs pl pu ?_)
  have hyes:(((sIx items.size 0 lo:Nat):Int) == 0&&(1:Int) == 1&&(sIx items.size items.size hi - sIx items.size 0 lo) == items.size)=true:=by
    rw [hw.1,hw.2];simp
  show wpAny _ _ (if (((sIx items.size 0 lo:Nat):Int) == 0&&(1:Int) == 1&&(sIx items.size items.size hi - sIx items.size 0 lo) == items.size)=true then _ else _) _ _ s
  rw [if_pos hyes]
  unfold Builtin.Tuple.tupleIsExact
  refine wpAny_bind (wpAny_bind (wpAny_typeOf ht.typeIs (wpAny_pure ?_)))
  rw [if_pos (by decide)]
  exact wpAny_bind (wpAny_rule (wpAny_bind (wpAny_pure (wpAny_pure ⟨_,rfl,wpAny_pure h⟩))))
end
end HT
namespace M
open PySem PySem.Spec PyProof.Rows L2
section
variable {X:Cx} {K:PySem.W.Frag} {μ μ':Fp} {H H':Hp} {S:Store}
noncomputable def fInt (g:Int→Int→D) (S:Store) (x y:D):Option D:=match x,y with | .int i,.int j=>some (g i j) | _,_=>none
noncomputable def fIntC (C:Int→Int→Bool) (g:Int→Int→D) (S:Store) (x y:D):Option D:=match x,y with | .int i,.int j=>if C i j=true then some (g i j) else none | _,_=>none
theorem op_int0 {f:Value→Value→Sem Value} {g:Int→Int→V} {g':Int→Int→D} (h:OpR X f (rI0 g)) (hg:∀ i j μ H,Rep X.K μ H (g i j) (g' i j)):OpR X f (rM2 X.K (fInt g')):=
  OpR.imp h fun x y H Q ⟨μ,S,dx,dy,dz,hS,h1,h2,h3,post⟩=>by
    cases dx <;> cases dy <;> first | cases h3 | skip
    exact ⟨_,_,h1.int_inv,h2.int_inv,post.here hS (hg _ _ _ _)⟩
theorem op_intC {f:Value→Value→Sem Value} {C:Int→Int→Prop} {C':Int→Int→Bool} {g:Int→Int→V} {g':Int→Int→D} (h:OpR X f (rI C g)) (hC:∀ i j,C' i j=true→C i j) (hg:∀ i j μ H,Rep X.K μ H (g i j) (g' i j)):OpR X f (rM2 X.K (fIntC C' g')):=
  OpR.imp h fun x y H Q ⟨μ,S,dx,dy,dz,hS,h1,h2,h3,post⟩=>by
    cases dx <;> cases dy <;> first | cases h3 | skip
    simp only [fIntC] at h3
    split at h3
    · rename_i hc
      cases h3
      exact ⟨_,_,h1.int_inv,h2.int_inv,hC _ _ hc,post.here hS (hg _ _ _ _)⟩
    · cases h3
noncomputable def fSub:=fInt fun i j=>.int (i - j)
noncomputable def fLt:=fInt fun i j=>.bl (decide (i<j))
noncomputable def fLe:=fInt fun i j=>.bl (decide (i≤j))
noncomputable def fGt:=fInt fun i j=>.bl (decide (j<i))
noncomputable def fGe:=fInt fun i j=>.bl (decide (j≤i))
theorem op_Sub:OpR X (binaryOp .Sub) (rM2 X.K fSub):=op_int0 op_sub fun _ _ _ _=>.int _
theorem op_Lt:OpR X (compareOp .Lt) (rM2 X.K fLt):=op_int0 op_lt fun _ _ _ _=>.bl _
theorem op_Le:OpR X (compareOp .LtE) (rM2 X.K fLe):=op_int0 op_le fun _ _ _ _=>.bl _
theorem op_Gt:OpR X (compareOp .Gt) (rM2 X.K fGt):=op_int0 op_gt fun _ _ _ _=>.bl _
theorem op_Ge:OpR X (compareOp .GtE) (rM2 X.K fGe):=op_int0 op_ge fun _ _ _ _=>.bl _
noncomputable def fMod:=fIntC (fun _ j=>decide (0<j)) fun i j=>.int (i % j)
noncomputable def fDiv:=fIntC (fun _ j=>decide (0<j)&&decide (j<1073741824)) fun i j=>.int (i / j)
noncomputable def fPow:=fIntC (fun i j=>decide (0≤j)&&decide (j≤1000000)&&decide (i.natAbs<2 ^ 64)) fun i j=>.int (i ^ j.toNat)
theorem op_Mod:OpR X (binaryOp .Mod) (rM2 X.K fMod):=op_intC op_mod (fun _ _ h=>of_decide_eq_true h) fun _ _ _ _=>.int _
theorem op_Div:OpR X (binaryOp .FloorDiv) (rM2 X.K fDiv):=op_intC op_fdiv (fun _ _ h=>by simpa [CDiv] using h) fun _ _ _ _=>.int _
theorem op_Pow:OpR X (binaryOp .Pow) (rM2 X.K fPow):=op_intC op_pow (fun i j h=>by
  simp only [Bool.and_eq_true,decide_eq_true_eq] at h
  exact ⟨h.1.1,h.1.2,h.2⟩) fun _ _ _ _=>.int _
noncomputable def mulB (i j:Int):Bool:=decide (i.natAbs<18446744073709551616)||decide (j.natAbs<18446744073709551616)||(decide (i.natAbs<2 ^ 4000)&&decide (j.natAbs<2 ^ 4000))
theorem mulB_ok {i j:Int} (h:mulB i j=true):IntMulOk i j:=by
  unfold mulB at h
  simp only [Bool.or_eq_true,Bool.and_eq_true,decide_eq_true_eq] at h
  rcases h with (h | h) | h
  · exact .of_left (intBits_le (k:=64) (by omega))
  · exact .of_right (intBits_le (k:=64) (by omega))
  · exact .of_bits (Nat.le_trans (intBits_le (k:=4000) h.1) (by decide)) (Nat.le_trans (intBits_le (k:=4000) h.2) (by decide))
theorem op_mulG:OpR X (binaryOp .Mult) (rI (fun i j=>mulB i j=true) fun i j=>.int (i * j)):=opI fun _ _ _ _ _ _ _ hc q=>mul_int q (mulB_ok hc)
noncomputable def fMul (S:Store) (x y:D):Option D:=match x,y with
  | .int i,.int j=>if mulB i j=true then some (.int (i * j)) else none
  | _,_=>none
theorem op_Mul:OpR X (binaryOp .Mult) (rM2 X.K fMul):=OpR.imp op_mulG fun x y H Q ⟨μ,S,dx,dy,dz,hS,h1,h2,h3,post⟩=>by
  cases dx <;> cases dy <;> first | cases h3 | skip
  simp only [fMul] at h3
  split at h3
  · rename_i hc
    cases h3
    exact ⟨_,_,h1.int_inv,h2.int_inv,hc,post.here hS (.int _)⟩
  · cases h3
noncomputable def fAdd (S:Store) (x y:D):Option D:=match x,y with
  | .int i,.int j=>some (.int (i+j))
  | .str i,.str j=>if i.length+j.length≤sizeLine then some (.str (i++j)) else none
  | .tup xs,.tup ys=>if xs.length+ys.length≤sizeLine then some (.tup (xs++ys)) else none
  | .lst xs,.lst ys=>if xs.length+ys.length≤sizeLine then some (.lst (xs++ys)) else none
  | _,_=>none
theorem op_Add:OpR X (binaryOp .Add) (rM2 X.K fAdd):=by
  intro pins s σ H x y v u Q I rx ry h
  obtain ⟨μ,S,dx,dy,dz,hS,h1,h2,h3,post⟩:=h
  cases dx <;> cases dy <;> first | cases h3 | skip
  case int.int i j=>exact op_add pins s σ H x y v u Q I rx ry ⟨_,_,h1.int_inv,h2.int_inv,post.here hS (.int _)⟩
  case str.str i j=>
    simp only [fAdd] at h3
    split at h3
    · rename_i hl;cases h3
      exact op_add_str pins s σ H x y v u Q I rx ry ⟨_,_,h1.str_inv,h2.str_inv,hl,post.here hS (.str _)⟩
    · cases h3
  case tup.tup xs ys=>
    simp only [fAdd] at h3
    split at h3
    · rename_i hl;cases h3
      have h2':=h2
      have h1':=h1
      obtain ⟨a,vs,rfl,q1,r1⟩:=h1.sqT
      obtain ⟨b,ws,rfl,q2,r2⟩:=h2.sqT
      have e1:=r1.length
      have e2:=r2.length
      by_cases hv:vs=[]
      · subst hv
        have hx:xs=[]:=List.eq_nil_of_length_eq_zero (by simpa using e1.symm)
        subst hx
        cases rx;cases ry
        obtain ⟨its,rv,p1,_⟩:=I.tuple q1
        obtain ⟨its2,rv2,p2,_⟩:=I.tuple q2
        have:its=[]:=rv.nil_iff.mpr rfl
        subst this
        exact HT.cat_nil p1 p2 ⟨.ref b,H,I,rfl,post.here hS h2'⟩
      · refine op_catT pins s σ H _ _ v u Q I rx ry ⟨a,b,vs,ws,rfl,rfl,q1,q2,hv,by omega,fun hw=>?_,fun hw p hp=>post.tup hS hp (r1.append r2)⟩
        subst hw
        have hy:ys=[]:=List.eq_nil_of_length_eq_zero (by simpa using e2.symm)
        subst hy
        rw [List.append_nil] at post
        exact post.here hS h1'
    · cases h3
  case lst.lst xs ys=>
    simp only [fAdd] at h3
    split at h3
    · rename_i hl;cases h3
      obtain ⟨a,vs,rfl,q1,n1,r1⟩:=h1.sqL
      obtain ⟨b,ws,rfl,q2,n2,r2⟩:=h2.sqL
      have e1:=r1.length
      have e2:=r2.length
      exact op_cat pins s σ H _ _ v u Q I rx ry ⟨a,b,vs,ws,rfl,rfl,q1,q2,by omega,fun p hp=>post.lst hS hp (r1.append r2)⟩
    · cases h3
theorem un_Neg:UnR X (unaryOp .USub) (rM1 X.K fun _ x=>match x with | .int i=>some (.int (-i)) | _=>none):=UnR.imp un_neg fun x H Q ⟨μ,S,dx,dz,hS,h1,h3,post⟩=>by
  cases dx <;> first | cases h3 | skip
  exact ⟨_,h1.int_inv,post.here hS (.int _)⟩
noncomputable def mUn (f:Store→D→Option D) (a:ME):ME:=fun env S=>(a env S).bind fun p=>(f p.2 p.1).bind fun z=>some (z,p.2)
theorem de_un {a:Expr} {ma:ME} {pos:Pos} {op:UnaryOp} {f:Store→D→Option D} (ho:UnR X (unaryOp op) (rM1 X.K f)) (ha:DE X a ma):DE X (.UnaryOp op a pos) (mUn f ma):=
  PE.imp (pe_un ho ha) fun σ H Q ⟨μ,S,env,d,S',hS,hE,hm,post⟩=>by
    obtain ⟨⟨x,S1⟩,h1,hm⟩:=Option.bind_eq_some_iff.mp hm
    obtain ⟨z,h2,hm⟩:=Option.bind_eq_some_iff.mp hm
    cases hm
    exact ⟨μ,S,env,x,_,hS,hE,h1,fun v H1 μ1 e1 s1 r1=>⟨μ1,_,x,_,s1,r1,h2,post.ext e1⟩⟩
theorem atI_rep {vs:List V} {ds:List D} {i:Int} {d:D} (r:Reps K μ H vs ds) (h:atI ds i=some d):∃ v,atI vs i=some v∧Rep K μ H v d:=by
  unfold atI at h ⊢
  rw [r.length]
  obtain ⟨j,h1,h2⟩:=Option.bind_eq_some_iff.mp h
  obtain ⟨v,h3,h4⟩:=r.get h2
  exact ⟨v,by rw [h1];exact h3,h4⟩
noncomputable def fIx (S:Store) (x y:D):Option D:=match y with | .int i=>(seqD S x).bind fun xs=>atI xs i | _=>none
theorem ix_D:IxR X (rM2 X.K fIx):=IxR.imp (ix_list.or ix_tup) fun x y H Q ⟨μ,S,dx,dy,dz,hS,h1,h2,h3,post⟩=>by
  cases dy <;> first | cases h3 | skip
  rename_i i
  obtain ⟨xs,e,h3⟩:=Option.bind_eq_some_iff.mp h3
  obtain ⟨a,vs,rfl,hq,r⟩:=seqD_of hS h1 e
  obtain ⟨v,h4,h5⟩:=atI_rep r h3
  rcases hq with hq | hq
  · exact .inl ⟨a,vs,i,v,rfl,h2.int_inv,hq,h4,post.here hS h5⟩
  · exact .inr ⟨a,vs,i,v,rfl,h2.int_inv,hq,h4,post.here hS h5⟩
noncomputable def cutL {α:Type} (xs:List α) (lo hi:Option Int):List α:=(xs.drop (HT.sIx xs.length 0 lo)).take (HT.sIx xs.length xs.length hi - HT.sIx xs.length 0 lo)
noncomputable abbrev MO:=MEnv→Store→Option (Option Int×Store)
noncomputable def mPartN:MO:=fun _ S=>some (none,S)
noncomputable def mPart (m:ME):MO:=fun env S=>(m env S).bind fun p=>match p.1 with | .int i=>some (some i,p.2) | _=>none
inductive tMO (K:PySem.W.Frag) (m:MO) (σ:L2.St) (H:Hp) (Q:Option Int→Hp→Prop):Prop
  | mk (μ:Fp) (S:Store) (env:MEnv) (o:Option Int) (S':Store) (hS:SOk K μ S H) (hE:EOk K μ H σ env) (h:m env S=some (o,S')) (post:∀ H' μ',Ext μ H μ' H'→SOk K μ' S' H'→Q o H')
noncomputable def DO (X:Cx) (e:Option Expr) (m:MO):Prop:=PO X e (tMO X.K m)
theorem PO.imp {e:Option Expr} {t t':TO} (h:PO X e t) (i:∀ σ H Q,t' σ H Q→t σ H Q):PO X e t':=fun pins s σ H Q I q=>h pins s σ H Q I (i σ H Q q)
theorem do_none:DO X none mPartN:=PO.imp po_none fun σ H Q ⟨μ,S,env,d,S',hS,hE,hm,post⟩=>by cases hm;exact post H μ hS.ext hS
theorem do_some {e:Expr} {m:ME} (h:DE X e m):DO X (some e) (mPart m):=PO.imp (po_some h) fun σ H Q ⟨μ,S,env,d,S',hS,hE,hm,post⟩=>by
  obtain ⟨⟨x,S1⟩,h1,hm⟩:=Option.bind_eq_some_iff.mp hm
  cases x <;> first | cases hm | skip
  exact ⟨μ,S,env,_,_,hS,hE,h1,fun v H1 μ1 e1 s1 r1=>⟨_,r1.int_inv,post H1 μ1 e1 s1⟩⟩
noncomputable def mSlice (a:ME) (lo hi:MO):ME:=fun env S=>(a env S).bind fun p=>(lo env p.2).bind fun l=>(hi env l.2).bind fun h=>match p.1 with
  | .tup xs=>some (.tup (cutL xs l.1 h.1),h.2)
  | .lst xs=>some (.lst (cutL xs l.1 h.1),h.2)
  | .rol xs=>some (.lst (cutL xs l.1 h.1),h.2)
  | .ref r=>match h.2[r]? with | some (.lst xs)=>some (.lst (cutL xs l.1 h.1),h.2) | _=>none
  | _=>none
theorem cut_rep {vs:List V} {ds:List D} {lo hi:Option Int} (r:Reps K μ H vs ds):Reps K μ H (cutV vs lo hi) (cutL ds lo hi):=by
  unfold cutV cutL
  rw [r.length]
  exact (r.drop _).take _
theorem sl_tupW:SlR X (fun x lo hi H Q=>∃ a xs,x=.ref a∧SqT X.K H a xs∧(HT.sIx xs.length 0 lo=0∧HT.sIx xs.length xs.length hi=xs.length)∧Q (.ref a) H):=by
  intro pins s σ H x v vl vu lo hi sl Q I rx hs pl pu h
  obtain ⟨a,xs,rfl,hx,hw,q⟩:=h
  cases rx
  obtain ⟨its,r,ht,hz⟩:=I.tuple hx
  have hlen:its.toArray.size=xs.length:=by rw [List.size_toArray];exact r.length.symm
  refine ⟨"tuple",_,PyProof.Rows.slot_tuple_getitem.lookup,ht.typeIs,?_⟩
  exact HT.getItem_tuple_whole ht hs pl pu (by rw [hlen];exact hw) ⟨.ref a,H,I,rfl,q⟩
theorem de_slice {a:Expr} {lo hi:Option Expr} {ma:ME} {ml mh:MO} {pos p2:Pos} (ha:DE X a ma) (hl:DO X lo ml) (hh:DO X hi mh):DE X (.Subscript a (.Slice lo hi none p2) pos) (mSlice ma ml mh):=
  PE.imp (pe_slice (SlR.or sl_tupW (SlR.or sl_tup sl_list)) ha hl hh) fun σ H Q ⟨μ,S,env,d,S',hS,hE,hm,post⟩=>by
    obtain ⟨⟨x,S1⟩,h1,hm⟩:=Option.bind_eq_some_iff.mp hm
    obtain ⟨⟨l,S2⟩,h2,hm⟩:=Option.bind_eq_some_iff.mp hm
    obtain ⟨⟨h,S3⟩,h3,hm⟩:=Option.bind_eq_some_iff.mp hm
    refine ⟨μ,S,env,x,S1,hS,hE,h1,fun v H1 μ1 e1 s1 r1=>⟨μ1,S1,env,l,S2,s1,hE.mono e1,h2,fun H2 μ2 e2 s2=>⟨μ2,S2,env,h,S3,s2,(hE.mono e1).mono e2,h3,fun H3 μ3 e3 s3=>?_⟩⟩⟩
    have r3:=(r1.mono e2).mono e3
    have e:=(e1.trans e2).trans e3
    cases x with
    | tup xs=>
      cases hm
      have r3':=r3
      obtain ⟨a,vs,rfl,q1,r⟩:=r3.sqT
      by_cases hw:HT.sIx vs.length 0 l=0∧HT.sIx vs.length vs.length h=vs.length
      · refine .inl ⟨a,vs,rfl,q1,hw,?_⟩
        have:cutL xs l h=xs:=by unfold cutL;rw [← r.length,hw.1,hw.2];simp [r.length]
        rw [this] at post
        exact post _ H3 μ3 e s3 r3'
      · exact .inr (.inl ⟨a,vs,rfl,q1,hw,fun p hp=>(post.ext e).tup s3 hp (cut_rep r)⟩)
    | lst xs=>
      cases hm
      obtain ⟨a,vs,rfl,q1,n1,r⟩:=r3.sqL
      exact .inr (.inr ⟨a,vs,rfl,.inl (.inl q1),fun p hp=>(post.ext e).lst s3 hp (cut_rep r)⟩)
    | rol xs=>
      cases hm
      obtain ⟨a,vs,rfl,q1,r⟩:=r3.sqR
      exact .inr (.inr ⟨a,vs,rfl,q1,fun p hp=>(post.ext e).lst s3 hp (cut_rep r)⟩)
    | ref r=>
      dsimp only at hm
      split at hm
      · rename_i xs q
        cases hm
        cases r3 with
        | @ref a _ ha=>
          obtain ⟨vs,hv,rv⟩:=s3.cell r a _ ha q
          exact .inr (.inr ⟨a,vs,rfl,.inl (.inl hv),fun p hp=>(post.ext e).lst s3 hp (cut_rep rv)⟩)
      · cases hm
    | _=>cases hm
end
end M
namespace M
open PySem PySem.Spec PyProof.Rows L2
section
variable {X:Cx} {K:PySem.W.Frag} {μ μ':Fp} {H H':Hp} {S:Store}
noncomputable def mCall (f:List D→Store→Option (D×Store)) (ms:MA):ME:=fun env S=>(ms env S).bind fun p=>f p.1 p.2
theorem tCB_of {f:List D→Store→Option (D×Store)} {ms:MA} {σ:L2.St} {Q:VK} (h:tM K (mCall f ms) σ H Q):tCB (rMC K f) (tMA K ms) σ H Q:=by
  obtain ⟨μ,S,env,d,S',hS,hE,hm,post⟩:=h
  obtain ⟨⟨xs,S1⟩,h1,hm⟩:=Option.bind_eq_some_iff.mp hm
  exact ⟨μ,S,env,xs,S1,hS,hE,h1,fun vs H1 μ1 e1 s1 r1=>⟨μ1,S1,xs,d,S',s1,r1,hm,post.ext e1⟩⟩
section
variable {x:Str} {p pos:Pos} {e:Expr} {es:List Expr} {ms:MA} {id T:String} {f:List D→Store→Option (D×Store)}
theorem de_callB (hc:CallR X (.builtin id) (rMC X.K f)) (hm:X.mg x=none) (hv:bootBuiltins x=some (.builtin id)) (ha:DA X (e::es) ms) (hg:Gl X x:=by rfl) (hn:x ≠ "__name__":=by decide) (hdb:(x == ("__debug__":Str))=false:=by decide)
    (he:starEach (e::es) X.env=(false,eval e X.env)::starEach es X.env:=by rfl) (hpl:(backTo pos (starEach es X.env)).any (·.1)=false:=by rfl):DE X (.Call (.Name x p) (e::es) [] pos) (mCall f ms):=
  PE.imp (pe_callB hc hg hm hv ha hn hdb he hpl) fun _ _ _ h=>tCB_of h
theorem de_callTy (hc:CallR X (.type T) (rMC X.K f)) (hm:X.mg x=none) (hv:bootBuiltins x=some (.type T)) (ha:DA X (e::es) ms) (hg:Gl X x:=by rfl) (hn:x ≠ "__name__":=by decide) (hdb:(x == ("__debug__":Str))=false:=by decide)
    (he:starEach (e::es) X.env=(false,eval e X.env)::starEach es X.env:=by rfl) (hpl:(backTo pos (starEach es X.env)).any (·.1)=false:=by rfl):DE X (.Call (.Name x p) (e::es) [] pos) (mCall f ms):=
  PE.imp (pe_callTy hc hg hm hv ha hn hdb he hpl) fun _ _ _ h=>tCB_of h
end
theorem Reps.one {vs:List V} {d:D} (r:Reps K μ H vs [d]):∃ v,vs=[v]∧Rep K μ H v d:=by
  cases r with
  | cons h t=>cases t;exact ⟨_,rfl,h⟩
theorem Reps.two {vs:List V} {d e:D} (r:Reps K μ H vs [d,e]):∃ v w,vs=[v,w]∧Rep K μ H v d∧Rep K μ H w e:=by
  cases r with
  | cons h t=>cases t with | cons h' t=>cases t;exact ⟨_,_,rfl,h,h'⟩
noncomputable def fPure (f:Store→List D→Option D):List D→Store→Option (D×Store):=fun ds S=>(f S ds).bind fun d=>some (d,S)
theorem fPure_some {f:Store→List D→Option D} {ds:List D} {S S':Store} {d:D} (h:fPure f ds S=some (d,S')):S'=S∧f S ds=some d:=by
  obtain ⟨z,h1,h⟩:=Option.bind_eq_some_iff.mp h
  cases h
  exact ⟨rfl,h1⟩
noncomputable def fLen (S:Store):List D→Option D
  | [.str z]=>if z.length≤sizeLine then some (.int z.length) else none
  | [d]=>(seqD S d).bind fun xs=>some (.int xs.length)
  | _=>none
theorem call_Len:CallR X (.builtin "len") (rMC X.K (fPure fLen)):=CallR.imp (call_len_seq.or call_len_str) fun xs H Q ⟨μ,S,ds,d,S',hS,hr,hm,post⟩=>by
  obtain ⟨rfl,hm⟩:=fPure_some hm
  match ds,hr,hm with
  | [D.str z],hr,hm=>
    obtain ⟨v,rfl,r⟩:=hr.one
    simp only [fLen] at hm
    split at hm
    · rename_i hl;cases hm;exact .inr ⟨z,by rw [r.str_inv],hl,post.here hS (.int _)⟩
    · cases hm
  | [D.non],hr,hm=>cases hm
  | [D.bl _],hr,hm=>cases hm
  | [D.int _],hr,hm=>cases hm
  | [D.dct _ _],hr,hm=>cases hm
  | [D.tup xs],hr,hm=>
    obtain ⟨v,rfl,r⟩:=hr.one
    cases hm
    obtain ⟨a,vs,rfl,hq,r⟩:=seqD_of hS r rfl
    exact .inl ⟨a,vs,rfl,hq,by rw [r.length];exact post.here hS (.int _)⟩
  | [D.lst xs],hr,hm=>
    obtain ⟨v,rfl,r⟩:=hr.one
    cases hm
    obtain ⟨a,vs,rfl,hq,r⟩:=seqD_of hS r rfl
    exact .inl ⟨a,vs,rfl,hq,by rw [r.length];exact post.here hS (.int _)⟩
  | [D.rol xs],hr,hm=>
    obtain ⟨v,rfl,r⟩:=hr.one
    cases hm
    obtain ⟨a,vs,rfl,hq,r⟩:=seqD_of hS r rfl
    exact .inl ⟨a,vs,rfl,hq,by rw [r.length];exact post.here hS (.int _)⟩
  | [D.ref i],hr,hm=>
    obtain ⟨v,rfl,r⟩:=hr.one
    obtain ⟨xs,h1,hm⟩:=Option.bind_eq_some_iff.mp hm
    cases hm
    obtain ⟨a,vs,rfl,hq,r⟩:=seqD_of hS r h1
    exact .inl ⟨a,vs,rfl,hq,by rw [r.length];exact post.here hS (.int _)⟩
  | [],hr,hm=>cases hm
  | a::b::c,hr,hm=>simp [fLen] at hm
noncomputable def fInt1 (S:Store):List D→Option D
  | [.int i]=>some (.int i)
  | [.bl k]=>some (.int (if k then 1 else 0))
  | _=>none
theorem call_Int:CallR X (.type "int") (rMC X.K (fPure fInt1)):=CallR.imp call_int1 fun xs H Q ⟨μ,S,ds,d,S',hS,hr,hm,post⟩=>by
  obtain ⟨rfl,hm⟩:=fPure_some hm
  match ds,hr,hm with
  | [D.int i],hr,hm=>obtain ⟨v,rfl,r⟩:=hr.one;cases hm;exact .inl ⟨i,by rw [r.int_inv],post.here hS (.int _)⟩
  | [D.bl k],hr,hm=>obtain ⟨v,rfl,r⟩:=hr.one;cases hm;exact .inr ⟨k,by rw [r.bl_inv],post.here hS (.int _)⟩
  | [D.non],hr,hm=>cases hm
  | [D.str _],hr,hm=>cases hm
  | [D.dct _ _],hr,hm=>cases hm
  | [D.tup _],hr,hm=>cases hm
  | [D.lst _],hr,hm=>cases hm
  | [D.rol _],hr,hm=>cases hm
  | [D.ref _],hr,hm=>cases hm
  | [],hr,hm=>cases hm
  | a::b::c,hr,hm=>simp [fInt1] at hm
noncomputable def fMax2 (S:Store):List D→Option D
  | [.int i,.int j]=>some (.int (if j>i then j else i))
  | _=>none
noncomputable def fMin2 (S:Store):List D→Option D
  | [.int i,.int j]=>some (.int (if j<i then j else i))
  | _=>none
theorem ints2 {ds:List D} {f:Int→Int→D} {d:D} (h:(match ds with | [.int i,.int j]=>some (f i j) | _=>none)=some d):∃ i j,ds=[.int i,.int j]∧d=f i j:=by
  split at h
  · cases h;exact ⟨_,_,rfl,rfl⟩
  · cases h
theorem call_Max2 (hc:X.calm=true):CallR X (.builtin "max") (rMC X.K (fPure fMax2)):=CallR.imp (call_max2 hc) fun xs H Q ⟨μ,S,ds,d,S',hS,hr,hm,post⟩=>by
  obtain ⟨rfl,hm⟩:=fPure_some hm
  obtain ⟨i,j,rfl,rfl⟩:=ints2 (f:=fun i j=>.int (if j>i then j else i)) hm
  obtain ⟨v,w,rfl,r1,r2⟩:=hr.two
  exact ⟨i,j,by rw [r1.int_inv,r2.int_inv],post.here hS (.int _)⟩
theorem call_Min2 (hc:X.calm=true):CallR X (.builtin "min") (rMC X.K (fPure fMin2)):=CallR.imp (call_min2 hc) fun xs H Q ⟨μ,S,ds,d,S',hS,hr,hm,post⟩=>by
  obtain ⟨rfl,hm⟩:=fPure_some hm
  obtain ⟨i,j,rfl,rfl⟩:=ints2 (f:=fun i j=>.int (if j<i then j else i)) hm
  obtain ⟨v,w,rfl,r1,r2⟩:=hr.two
  exact ⟨i,j,by rw [r1.int_inv,r2.int_inv],post.here hS (.int _)⟩
noncomputable def fSeq1 (c:List D→D) (S:Store):List D→Option D
  | [d]=>(seqD S d).bind fun xs=>some (c xs)
  | _=>none
theorem fSeq1_some {c:List D→D} {S:Store} {ds:List D} {d:D} (h:fSeq1 c S ds=some d):∃ x xs,ds=[x]∧seqD S x=some xs∧d=c xs:=by
  match ds,h with
  | [x],h=>
    obtain ⟨xs,h1,h⟩:=Option.bind_eq_some_iff.mp h
    cases h
    exact ⟨x,xs,rfl,h1,rfl⟩
  | [],h=>cases h
  | _::_::_,h=>cases h
theorem call_List:CallR X (.type "list") (rMC X.K (fPure (fSeq1 .lst))):=CallR.imp call_list_of fun xs H Q ⟨μ,S,ds,d,S',hS,hr,hm,post⟩=>by
  obtain ⟨rfl,hm⟩:=fPure_some hm
  obtain ⟨x,ys,rfl,h1,rfl⟩:=fSeq1_some hm
  obtain ⟨v,rfl,r⟩:=hr.one
  obtain ⟨a,vs,rfl,hq,r⟩:=seqD_of hS r h1
  exact ⟨a,vs,rfl,hq,fun l hl=>post.lst hS hl r⟩
theorem call_Tuple:CallR X (.type "tuple") (rMC X.K (fPure (fSeq1 .tup))):=CallR.imp call_tuple_of fun xs H Q ⟨μ,S,ds,d,S',hS,hr,hm,post⟩=>by
  obtain ⟨rfl,hm⟩:=fPure_some hm
  obtain ⟨x,ys,rfl,h1,rfl⟩:=fSeq1_some hm
  obtain ⟨v,rfl,r⟩:=hr.one
  cases x with
  | tup zs=>
    cases h1
    have r':=r
    obtain ⟨a,vs,rfl,q,r⟩:=r.sqT
    exact ⟨a,vs,rfl,.inr ⟨q,post.here hS r'⟩⟩
  | lst zs=>
    cases h1
    obtain ⟨a,vs,rfl,q,n,r⟩:=r.sqL
    exact ⟨a,vs,rfl,.inl ⟨.inl (.inl q),fun l hl=>post.tup hS hl r⟩⟩
  | rol zs=>
    cases h1
    obtain ⟨a,vs,rfl,q,r⟩:=r.sqR
    exact ⟨a,vs,rfl,.inl ⟨q,fun l hl=>post.tup hS hl r⟩⟩
  | ref i=>
    simp only [seqD] at h1
    cases r with
    | @ref a _ h'=>
      cases q:S'[i]? with
      | none=>rw [q] at h1;cases h1
      | some c=>
        rw [q] at h1
        have ck:=hS.cell i a c h' q
        cases c with
        | lst xs=>cases h1;obtain ⟨vs,e,r⟩:=ck;exact ⟨a,vs,rfl,.inl ⟨.inl (.inl e),fun l hl=>post.tup hS hl r⟩⟩
        | dct ks xs=>cases h1
  | _=>cases h1
noncomputable def boolsD:List D→Option (List Bool)
  | []=>some []
  | .bl b::r=>(boolsD r).bind fun bs=>some (b::bs)
  | _=>none
noncomputable def fAll (S:Store):List D→Option D
  | [.lst xs]=>(boolsD xs).bind fun bs=>some (.bl (bs.all id))
  | _=>none
theorem boolsAre_of:∀ {vs:List V} {ds:List D} {us:List Value} {bs:List Bool},Reps K μ H vs ds→Vals vs us→boolsD ds=some bs→LSm.BoolsAre us bs
  | _,_,_,_,.nil,.nil,h=>by cases h;exact .nil
  | _,_,_,_,.cons (d:=d) r t,.cons rv tv,h=>by
    cases d <;> first | cases h | skip
    obtain ⟨cs,h1,h⟩:=Option.bind_eq_some_iff.mp h
    cases h
    cases r;cases rv
    exact .cons _ (boolsAre_of t tv h1)
theorem call_All (hc:X.calm=true):CallR X (.builtin "all") (rMC X.K (fPure fAll)):=by
  intro pins s σ H xs us Q I rv h
  obtain ⟨μ,S,ds,d,S',hS,hr,hm,post⟩:=h
  obtain ⟨rfl,hm⟩:=fPure_some hm
  match ds,hr,hm with
  | [D.lst zs],hr,hm=>
    obtain ⟨v,rfl,r⟩:=hr.one
    obtain ⟨bs,h1,hm⟩:=Option.bind_eq_some_iff.mp hm
    cases hm
    obtain ⟨u,rfl,ru⟩:=vals1 rv
    obtain ⟨a,vs,rfl,q,n,r⟩:=r.sqL
    cases ru
    obtain ⟨its,rv',pl,hz⟩:=I.list (.inl (.inl q))
    have hl:=pl.isList
    have hb:=boolsAre_of r rv' h1
    have hlt:a<s.heap.objs.size:=by obtain ⟨_,e,_⟩:=hl;exact Heap.lt_size e
    refine call_all_walk (wpAny_pyIter_list hl ?_)
    refine ⟨s.heap.objs.size,[s.heap.objs.size,a],[s.heap.objs.size],its.toArray.size,_,_,fun i=>(bs[i]?).getD true,rfl,Walks.list (A:=X.A.in1) (I.ok.hd hc) _ a (Nat.ne_of_lt hlt) its.toArray,
      ⟨⟨_,Heap.get?_push_size _ rfl,rfl,rfl⟩,hl.push _⟩,fun i v s' Q' E' hP hQ=>?_,fun h' tk hk=>?_⟩
    · obtain ⟨b,e,rfl⟩:=hb.get i v (by simpa using hP)
      simp only [e,Option.getD_some] at hQ
      exact wpAny_truthy_bool hQ
    · have e:((List.range its.toArray.size).all fun i=>(bs[i]?).getD true)=bs.all id:=by
        rw [List.size_toArray,hb.length];exact LSm.range_all bs
      rw [e]
      exact ⟨.bl _,H,I.kept (LSm.kept_iter hk),rfl,post.here hS (.bl _)⟩
  | [D.non],hr,hm=>cases hm
  | [D.bl _],hr,hm=>cases hm
  | [D.int _],hr,hm=>cases hm
  | [D.str _],hr,hm=>cases hm
  | [D.dct _ _],hr,hm=>cases hm
  | [D.tup _],hr,hm=>cases hm
  | [D.rol _],hr,hm=>cases hm
  | [D.ref _],hr,hm=>cases hm
  | [],hr,hm=>cases hm
  | a::b::c,hr,hm=>simp [fAll] at hm
noncomputable def tyD (S:Store):D→Option String
  | .non=>some "NoneType"
  | .bl _=>some "bool"
  | .int _=>some "int"
  | .str _=>some "str"
  | .tup _=>some "tuple"
  | .lst _=>some "list"
  | .rol _=>some "list"
  | .dct _ _=>some "dict"
  | .ref r=>match S[r]? with | some (.lst _)=>some "list" | some (.dct _ _)=>some "dict" | none=>none
noncomputable def isTyD (T:String) (t:String):Bool:=t == T||(t == "bool" && T == "int")
noncomputable def fIsI (T:String) (S:Store) (d:D):Option D:=(tyD S d).bind fun t=>some (.bl (isTyD T t))
noncomputable def mIsI (T:String) (m:ME):ME:=fun env S=>(m env S).bind fun p=>(fIsI T p.2 p.1).bind fun d=>some (d,p.2)
theorem tyD_known {S:Store} {d:D} {t:String} (h:tyD S d=some t):t = "NoneType"∨t = "bool"∨t = "int"∨t = "str"∨t = "tuple"∨t = "list"∨t = "dict":=by
  cases d <;> simp only [tyD] at h <;> first | (cases h;simp) | (split at h <;> first | (cases h;simp) | cases h)
theorem kit_all (K:PySem.W.Frag) {T t:String} (hT:T = "int"∨T = "bool"∨T = "str"∨T = "tuple"∨T = "list"∨T = "dict") (ht:t = "NoneType"∨t = "bool"∨t = "int"∨t = "str"∨t = "tuple"∨t = "list"∨t = "dict") :
    PySem.W.kitOne K (.type t) (.type T)=some (isTyD T t):=by
  rcases hT with rfl | rfl | rfl | rfl | rfl | rfl <;> rcases ht with rfl | rfl | rfl | rfl | rfl | rfl | rfl <;> rfl
theorem kia_D {pins:List (Addr×Obj)} {σ:L2.St} {s:Shared} {v:V} {u:Value} {d:D} {t:String} {b:Bool} {c:Value} {Q:Value→Shared→Prop} {E:Value→Shared→Prop} (I:Inv X pins σ H s) (hS:SOk X.K μ S H) (r:Rep X.K μ H v d) (ru:RelV v u) (ht:tyD S d=some t)
    (e:PySem.W.kitOne X.K (.type t) c=some b) (h:∀ tk,Q (.bool b) { s with toks:=tk }):wpAny (model X.prog X.w) X.A (call (.builtin "isinstance") [u,c]) Q E s:=by
  have tupK:∀ {a:Addr} {vs:List V},SqT X.K H a vs→PySem.W.KitAt a "tuple" s.heap:=fun {a vs} q=>by
    obtain ⟨its,_,⟨o,h1,h2,_⟩,_⟩:=I.tuple q;exact ⟨o,h1,h2⟩
  have lstK:∀ {a:Addr} {vs:List V},SqL X.K H a vs→PySem.W.KitAt a "list" s.heap:=fun {a vs} q=>by
    obtain ⟨its,_,⟨o,n,h1,h2,_⟩,_⟩:=I.list q;exact ⟨o,h1,h2⟩
  have dK:∀ {a:Addr} {kvs:List (Key×V)},H a=some (.dK kvs)→PySem.W.KitAt a "dict" s.heap:=fun {a kvs} q=>by
    obtain ⟨_,_,vs,_,p⟩:=(show ObjOk X.prog X.w H s.heap a (.dK kvs) from I.hok a _ q)
    obtain ⟨o,es,ep,h1,h2,_⟩:=p
    exact ⟨o,h1,h2.1⟩
  cases r with
  | non=>cases ht;cases ru;exact PySem.W.kia_one PySem.W.kitx_none I.kIn True.intro e (fun z=>nomatch z) h
  | bl y=>cases ht;cases ru;exact PySem.W.kia_one PySem.W.kitx_bool I.kIn True.intro e (fun z=>nomatch z) h
  | int i=>cases ht;obtain ⟨t,rfl⟩:=ru;exact PySem.W.kia_one PySem.W.kitx_int I.kIn True.intro e (fun z=>nomatch z) h
  | str y=>cases ht;obtain ⟨t,rfl⟩:=ru;exact PySem.W.kia_one PySem.W.kitx_str I.kIn True.intro e (fun z=>nomatch z) h
  | tup q n r=>cases ht;cases ru;exact PySem.W.kia_one PySem.W.kitx_tuple I.kIn (tupK (.inl (.inl q))) e (fun z=>nomatch z) h
  | ktup q r=>cases ht;cases ru;exact PySem.W.kia_one PySem.W.kitx_tuple I.kIn (tupK (.inr q)) e (fun z=>nomatch z) h
  | lst q n r=>cases ht;cases ru;exact PySem.W.kia_one PySem.W.kitx_list I.kIn (lstK (.inl (.inl q))) e (fun z=>nomatch z) h
  | rol q n r=>cases ht;cases ru;exact PySem.W.kia_one PySem.W.kitx_list I.kIn (lstK (.inl q)) e (fun z=>nomatch z) h
  | krol q r=>cases ht;cases ru;exact PySem.W.kia_one PySem.W.kitx_list I.kIn (lstK (.inr q)) e (fun z=>nomatch z) h
  | dct q n r=>cases ht;cases ru;exact PySem.W.kia_one PySem.W.kitx_dict I.kIn (dK q) e (fun z=>nomatch z) h
  | @ref a i h'=>
    cases ru
    simp only [tyD] at ht
    cases q:S[i]? with
    | none=>rw [q] at ht;cases ht
    | some c'=>
      rw [q] at ht
      have ck:=hS.cell i a c' h' q
      cases c' with
      | lst xs=>cases ht;obtain ⟨vs,q,r⟩:=ck;exact PySem.W.kia_one PySem.W.kitx_list I.kIn (lstK (.inl (.inl q))) e (fun z=>nomatch z) h
      | dct ks xs=>cases ht;obtain ⟨kvs,q,r⟩:=ck;exact PySem.W.kia_one PySem.W.kitx_dict I.kIn (dK q) e (fun z=>nomatch z) h
theorem de_isinst {a:Expr} {ma:ME} {T:String} {x:Str} {p p2 pos:Pos} (hm:X.mg "isinstance" = none) (hmT:X.mg x=none) (hb:bootBuiltins x=some (.type T)) (ha:DE X a ma)
    (hT:T = "int"∨T = "bool"∨T = "str"∨T = "tuple"∨T = "list"∨T = "dict":=by simp)
    (hg:Gl X "isinstance":=by rfl) (hgT:Gl X x:=by rfl) (hn:x ≠ "__name__":=by decide) (hd:(x == ("__debug__":Str))=false:=by decide)
    (hs1:starEach [a,.Name x p2] X.env=(false,eval a X.env)::starEach [.Name x p2] X.env:=by rfl) (hs2:starEach [.Name x p2] X.env=(false,eval (.Name x p2) X.env)::starEach [] X.env:=by rfl) (hpl:(backTo pos (starEach [.Name x p2] X.env)).any (·.1)=false:=by rfl) :
    DE X (.Call (.Name "isinstance" p) [a,.Name x p2] [] pos) (mIsI T ma):=by
  have hc:CallR X (.builtin "isinstance") (fun vs H Q=>∃ v μ S d t,vs=[v,.ty T]∧SOk X.K μ S H∧Rep X.K μ H v d∧tyD S d=some t∧Q (.bl (isTyD T t)) H):=by
    intro pins s σ H xs us Q I rv h
    obtain ⟨v,μ,S,d,t,rfl,hS,r,ht,q⟩:=h
    obtain ⟨u,w',rfl,r1,r2⟩:=vals2 rv
    cases r2
    exact kia_D I hS r r1 ht (kit_all _ hT (tyD_known ht)) fun tk=>⟨.bl _,H,I.tok _,rfl,q⟩
  refine PE.imp (pe_callB hc hg hm boot_isinstance (pa_cons ha (pa_cons (pe_bltn (v:=.ty T) hgT hmT hb rfl hn hd) pa_nil hs2) hs1) (by decide) (by decide) hs1 hpl) fun σ H Q ⟨μ,S,env,d,S',hS,hE,hm,post⟩=>?_
  obtain ⟨⟨x,S1⟩,h1,hm⟩:=Option.bind_eq_some_iff.mp hm
  obtain ⟨z,h2,hm⟩:=Option.bind_eq_some_iff.mp hm
  cases hm
  obtain ⟨t,h3,h2⟩:=Option.bind_eq_some_iff.mp h2
  cases h2
  exact ⟨μ,S,env,x,S1,hS,hE,h1,fun v H1 μ1 e1 s1 r1=>⟨v,μ1,S1,x,t,rfl,s1,r1,h3,post _ H1 μ1 e1 s1 (.bl _)⟩⟩
end
end M
namespace M
open PySem PySem.Spec PyProof.Rows L2
section
variable {X:Cx} {K:PySem.W.Frag} {μ μ':Fp} {H H':Hp} {S:Store}
noncomputable def spM (K:PySem.W.Frag) (n:Nat) (f:List D→Store→Option (D×Store)):Sp:=fun vs H Q _=>∃ μ S ds d S',SOk K μ S H∧Reps K μ H vs ds∧ds.length=n∧f ds S=some (d,S')∧Post K μ H S' d Q
structure Fn (P:Program) (w:World) (K:PySem.W.Frag) (mg:Str→Option Value) (base:Heap) (k:Nat) (x:Str) (n:Nat) (f:List D→Store→Option (D×Store)):Prop where
  ex:∃ (a:Addr) (fd:FuncData) (ps:List Str),ps.length=n∧FnOk P w K mg base CX0 k a fd ps (spM K n f)∧mg x=some (.ref a)∧PySem.W.keepIn K (.ref a)=true∧Binds K fd ps []
noncomputable def mCallN (n:Nat) (f:List D→Store→Option (D×Store)) (ms:MA):ME:=fun env S=>(ms env S).bind fun p=>if p.1.length=n then f p.1 p.2 else none
theorem tCall_of {n:Nat} {f:List D→Store→Option (D×Store)} {ms:MA} {σ:L2.St} {Q:VK} (h:tM K (mCallN n f ms) σ H Q):tCall (spM K n f) [] E0 (tMA K ms) σ H Q:=by
  obtain ⟨μ,S,env,d,S',hS,hE,hm,post⟩:=h
  obtain ⟨⟨xs,S1⟩,h1,hm⟩:=Option.bind_eq_some_iff.mp hm
  dsimp only at hm
  split at hm
  · rename_i hn
    refine ⟨μ,S,env,xs,S1,hS,hE,h1,fun vs H1 μ1 e1 s1 r1=>?_⟩
    show spM K n f (vs++[]) H1 Q E0
    rw [List.append_nil]
    exact ⟨μ1,S1,xs,d,S',s1,r1,hn,hm,post.ext e1⟩
  · cases hm
theorem de_call {k n:Nat} {x:Str} {f:List D→Store→Option (D×Store)} {e:Expr} {es:List Expr} {ms:MA} {p pos:Pos} (F:Fn X.prog X.w X.K X.mg X.base k x n f) (hr:Room k X.A) (ha:DA X (e::es) ms) (hg:Gl X x:=by rfl)
    (hdb:(x == ("__debug__":Str))=false:=by decide) (he:starEach (e::es) X.env=(false,eval e X.env)::starEach es X.env:=by rfl) (hpl:(backTo pos (starEach es X.env)).any (·.1)=false:=by rfl) :
    DE X (.Call (.Name x p) (e::es) [] pos) (mCallN n f ms):=by
  obtain ⟨a,fd,ps,hn,F,hm,hk,hb⟩:=F.ex
  exact PE.imp (pe_call F hr hg hm hk hb .nil pass0 ha hdb he hpl) fun _ _ _ h=>tCall_of h
theorem de_call0 {k:Nat} {x:Str} {f:List D→Store→Option (D×Store)} {p pos:Pos} (F:Fn X.prog X.w X.K X.mg X.base k x 0 f) (hr:Room k X.A) (hg:Gl X x:=by rfl)
    (hdb:(x == ("__debug__":Str))=false:=by decide):DE X (.Call (.Name x p) [] [] pos) (mCallN 0 f mNil):=by
  obtain ⟨a,fd,ps,hn,F,hm,hk,hb⟩:=F.ex
  refine PE.imp (pe_call0 F hr hg hm hk hb .nil pass0 hdb) fun σ H Q h=>?_
  obtain ⟨μ,S,env,d,S',hS,hE,hm,post⟩:=h
  exact ⟨μ,S,[],d,S',hS,.nil,rfl,hm,post⟩
mutual
noncomputable def closD (n:Nat):D→Bool
  | .tup xs=>closDs n xs
  | .lst xs=>closDs n xs
  | .rol xs=>closDs n xs
  | .dct _ xs=>closDs n xs
  | .ref r=>decide (r<n)
  | _=>true
noncomputable def closDs (n:Nat):List D→Bool
  | []=>true
  | d::ds=>closD n d&&closDs n ds
end
noncomputable def closC (n:Nat):Cell→Bool
  | .lst xs=>closDs n xs
  | .dct _ xs=>closDs n xs
mutual
theorem Rep.trunc {cs l fb:List Addr}:∀ {v:V} {d:D},Rep K ⟨cs++l,fb⟩ H v d→closD cs.length d=true→Rep K ⟨cs,fb⟩ H v d
  | _,_,.non,_=>.non
  | _,_,.bl b,_=>.bl b
  | _,_,.int i,_=>.int i
  | _,_,.str x,_=>.str x
  | _,_,.tup h n r,c=>.tup h ⟨fun z=>n.1 (List.mem_append_left _ z),n.2⟩ (Reps.trunc r (by simpa only [closD] using c))
  | _,_,.ktup h r,c=>.ktup h (Reps.trunc r (by simpa only [closD] using c))
  | _,_,.lst h n r,c=>.lst h ⟨fun z=>n.1 (List.mem_append_left _ z),n.2⟩ (Reps.trunc r (by simpa only [closD] using c))
  | _,_,.rol h n r,c=>.rol h ⟨fun z=>n.1 (List.mem_append_left _ z),n.2⟩ (Reps.trunc r (by simpa only [closD] using c))
  | _,_,.krol h r,c=>.krol h (Reps.trunc r (by simpa only [closD] using c))
  | _,_,.dct h n r,c=>.dct h ⟨fun z=>n.1 (List.mem_append_left _ z),n.2⟩ (Reps.trunc r (by simpa only [closD] using c))
  | _,_,.ref h,c=>.ref (by
      have hl:=of_decide_eq_true c
      have h:(cs++l)[_]?=some _:=h
      rw [List.getElem?_append_left hl] at h
      exact h)
theorem Reps.trunc {cs l fb:List Addr}:∀ {vs:List V} {ds:List D},Reps K ⟨cs++l,fb⟩ H vs ds→closDs cs.length ds=true→Reps K ⟨cs,fb⟩ H vs ds
  | _,_,.nil,_=>.nil
  | _,_,.cons h t,c=>by
    rw [closDs,Bool.and_eq_true] at c
    exact .cons (Rep.trunc h c.1) (Reps.trunc t c.2)
end
mutual
theorem Rep.closed:∀ {v:V} {d:D},Rep K μ H v d→closD μ.cs.length d=true
  | _,_,.non=>rfl
  | _,_,.bl b=>rfl
  | _,_,.int i=>rfl
  | _,_,.str x=>rfl
  | _,_,.tup h n r=>Reps.closed r
  | _,_,.ktup h r=>Reps.closed r
  | _,_,.lst h n r=>Reps.closed r
  | _,_,.rol h n r=>Reps.closed r
  | _,_,.krol h r=>Reps.closed r
  | _,_,.dct h n r=>Reps.closed r
  | _,_,.ref h=>decide_eq_true (List.getElem?_eq_some_iff.mp h).1
theorem Reps.closed:∀ {vs:List V} {ds:List D},Reps K μ H vs ds→closDs μ.cs.length ds=true
  | _,_,.nil=>rfl
  | _,_,.cons h t=>by rw [closDs,Rep.closed h,Reps.closed t];rfl
end
theorem SOk.closed (s:SOk K μ S H):∀ c∈S,closC S.length c=true:=fun c hc=>by
  obtain ⟨r,hr⟩:=List.mem_iff_getElem?.mp hc
  have hl:=(List.getElem?_eq_some_iff.mp hr).1
  have hl':r < μ.cs.length:=by rw [s.len];exact hl
  have:=s.cell r _ c (List.getElem?_eq_getElem hl') hr
  cases c with
  | lst ds=>obtain ⟨vs,_,q⟩:=this;rw [← s.len];exact q.closed
  | dct ks ds=>obtain ⟨vs,_,_,q⟩:=this;rw [← s.len];exact q.closed
theorem SOk.trunc {S' g:Store} (s:SOk K μ (S'++g) H) (hc:∀ c∈S',closC S'.length c=true):∃ cs l,μ.cs=cs++l∧cs.length=S'.length∧SOk K ⟨cs,μ.fb⟩ S' H:=by
  obtain ⟨cs0,fb⟩:=μ
  have hlen:cs0.length=S'.length+g.length:=by have:=s.len;simpa using this
  have hcl:(cs0.take S'.length).length=S'.length:=by rw [List.length_take];omega
  refine ⟨cs0.take S'.length,cs0.drop S'.length,(List.take_append_drop _ _).symm,hcl,s.nd.sublist (List.take_sublist _ _),hcl,fun r a c h1 h2=>?_,s.fdom,fun a ha z=>s.disj a ha (List.mem_of_mem_take z)⟩
  have hr:=(List.getElem?_eq_some_iff.mp h2).1
  have h1':cs0[r]?=some a:=by
    have h1:(cs0.take S'.length)[r]?=some a:=h1
    rwa [List.getElem?_take_of_lt hr] at h1
  have ck:=s.cell r a c h1' (by rw [List.getElem?_append_left hr];exact h2)
  have cc:=hc c (List.mem_of_getElem? h2)
  have e:cs0=cs0.take S'.length++cs0.drop S'.length:=(List.take_append_drop _ _).symm
  cases c with
  | lst ds=>
    obtain ⟨vs,q,r⟩:=ck
    have r':Reps K ⟨cs0.take S'.length++cs0.drop S'.length,fb⟩ H vs ds:=by rw [← e];exact r
    exact ⟨vs,q,r'.trunc (by rw [hcl];exact cc)⟩
  | dct ks ds=>
    obtain ⟨vs,q,q2,r⟩:=ck
    have r':Reps K ⟨cs0.take S'.length++cs0.drop S'.length,fb⟩ H (vs.map (·.2)) ds:=by rw [← e];exact r
    exact ⟨vs,q,q2,r'.trunc (by rw [hcl];exact cc)⟩
theorem Post.trunc {S' g:Store} {d:D} {Q:VK} (post:Post K μ H S' d Q) (hd:closD S'.length d=true) (hc:∀ c∈S',closC S'.length c=true) (hl:μ.cs.length≤S'.length):Post K μ H (S'++g) d Q:=fun v H' μ' e s r=>by
  obtain ⟨cs,l,q,hcl,s'⟩:=s.trunc hc
  obtain ⟨cs',fb'⟩:=μ'
  have q':cs'=cs++l:=q
  subst q'
  refine post v H' ⟨cs,fb'⟩ ⟨e.fb,?_,e.keep,fun a ha=>e.dom a (List.mem_append_left _ ha)⟩ s' (r.trunc (by rw [hcl];exact hd))
  obtain ⟨l0,q0,h0⟩:=e.pre
  have q0:cs++l = μ.cs++l0:=q0
  have hle:μ.cs.length≤cs.length:=by rw [hcl];exact hl
  refine ⟨cs.drop μ.cs.length,?_,fun a ha=>h0 a ?_⟩
  · have t1:(cs++l).take μ.cs.length = μ.cs:=by rw [q0];simp
    rw [List.take_append_of_le_length hle] at t1
    show cs = μ.cs++cs.drop μ.cs.length
    conv=>lhs;rw [← List.take_append_drop μ.cs.length cs,t1]
  · have t2:(cs++l).drop μ.cs.length=l0:=by rw [q0];simp
    rw [← t2,List.drop_append_of_le_length hle]
    exact List.mem_append_left _ ha
noncomputable def Runs (m:MS) (env:MEnv) (S:Store) (d:D) (S':Store):Prop:=
  ∃ o g,m env S=some o∧(g=[]∨(closD S'.length d=true∧(∀ c∈S',closC S'.length c=true)∧S.length≤S'.length))∧(o=.rt d (S'++g)∨(d=.non∧∃ env',o=.nx env' (S'++g)))
theorem Runs.ret {m:MS} {env:MEnv} {S S':Store} {d:D} (h:m env S=some (.rt d S')):Runs m env S d S':=⟨_,[],h,.inl rfl,.inl (by rw [List.append_nil])⟩
noncomputable def startE (N:List Str) (ds:List D):MEnv:=ds.map some++List.replicate (N.length - ds.length) none
theorem fn_ok {P:Program} {w:World} {mg:Str→Option Value} {base:Heap} {k:Nat} {x qual:Str} {st:Stmt} {a:Addr} {fd:FuncData} {N ps:List Str} {f:List D→Store→Option (D×Store)}
    (F:L2.Fun K x qual st a fd) (Sc:FnScope N ps (defScope st))
    (hbody:∀ (cdv:Value) (A:Around) (outer:List PySem.Env) (s:Shared) (H:Hp) (E:XK),Room k (A.deeper (envOfC qual (defScope st) s.heap.objs.size a cdv)) →
      ∃ m,DSs (cxOf CX0 P w K mg base N qual (defScope st) a cdv A outer s H E).nox (defBody st) m∧∀ ds S d S',ds.length=ps.length→(∀ c∈S,closC S.length c=true)→closDs S.length ds=true→f ds S=some (d,S')→Runs m (startE N ds) S d S') :
    FnOk P w K mg base CX0 (k+1) a fd ps (spM K ps.length f):=by
  refine F.ok Sc (fun vs H Q E h=>?_) (fun cdv A outer s H vs Q E hr h=>?_)
  · obtain ⟨μ,S,ds,d,S',hS,hr,hn,hf,post⟩:=h
    rw [hr.length,hn]
  · obtain ⟨m,hm,run⟩:=hbody cdv A outer s H E hr
    refine ⟨_,hm,?_⟩
    obtain ⟨μ,S,ds,d,S',hS,hrp,hn,hf,post⟩:=h
    obtain ⟨o,g,ho,hg,hend⟩:=run ds S d S' hn hS.closed (by rw [← hS.len];exact hrp.closed) hf
    have post':Post K μ H (S'++g) d Q:=by
      rcases hg with rfl | ⟨c1,c2,c3⟩
      · rw [List.append_nil];exact post
      · exact post.trunc c1 c2 (by rw [hS.len];exact c3)
    have hEnv:EOk K μ H (L2.start N vs) (startE N ds):=by unfold L2.start startE;rw [hrp.length];exact EOk.start hrp
    rcases hend with rfl | ⟨rfl,env',rfl⟩
    · exact ⟨μ,S,_,_,hS,hEnv,ho,post'⟩
    · exact ⟨μ,S,_,_,hS,hEnv,ho,fun σ' H' μ' e s' _=>post' .non H' μ' e s' .non⟩
theorem fn_mk {P:Program} {w:World} {mg:Str→Option Value} {base:Heap} {k:Nat} {x qual:Str} {st:Stmt} {a:Addr} {fd:FuncData} {N ps:List Str} {f:List D→Store→Option (D×Store)}
    (F:L2.Fun K x qual st a fd) (Sc:FnScope N ps (defScope st)) (hmg:mg x=some (.ref a)) (hb:Binds K fd ps [])
    (hbody:∀ (cdv:Value) (A:Around) (outer:List PySem.Env) (s:Shared) (H:Hp) (E:XK),Room k (A.deeper (envOfC qual (defScope st) s.heap.objs.size a cdv)) →
      ∃ m,DSs (cxOf CX0 P w K mg base N qual (defScope st) a cdv A outer s H E).nox (defBody st) m∧∀ ds S d S',ds.length=ps.length→(∀ c∈S,closC S.length c=true)→closDs S.length ds=true→f ds S=some (d,S')→Runs m (startE N ds) S d S') :
    Fn P w K mg base (k+1) x ps.length f:=⟨a,fd,ps,rfl,fn_ok F Sc hbody,hmg,F.kp,hb⟩
end
end M
namespace M
open PySem PySem.Spec PyProof.Rows L2
section
variable {X:Cx} {K:PySem.W.Frag} {μ μ':Fp} {H H':Hp} {S:Store}
theorem PostN.ext {S':Store} {env':MEnv} {Q:L2.St→Hp→Prop} (e:Ext μ H μ' H') (p:PostN K μ H S' env' Q):PostN K μ' H' S' env' Q:=fun σ2 H2 μ2 e2 s r=>p σ2 H2 μ2 (e.trans e2) s r
theorem PostS.ext {o:Out} {E:Ends} (e:Ext μ H μ' H') (p:PostS K μ H o E):PostS K μ' H' o E:=by
  cases o with
  | nx env S=>exact PostN.ext e p
  | rt d S=>exact Post.ext e p
  | bk env S=>exact PostN.ext e p
  | ct env S=>exact PostN.ext e p
noncomputable def mSkip:MS:=fun env S=>some (.nx env S)
noncomputable def mSeq (a b:MS):MS:=fun env S=>(a env S).bind fun o=>match o with | .nx env' S'=>b env' S' | o=>some o
theorem dss_nil:DSs X [] mSkip:=PSs.imp pss_nil fun E σ H ⟨μ,S,env,o,hS,hE,hm,post⟩=>by cases hm;exact post σ H μ hS.ext hS hE
theorem tSeq_of {a b:MS} {E:Ends} {σ:L2.St} (h:tMS K (mSeq a b) E σ H):tSeq (tMS K a) (tMS K b) E σ H:=by
  obtain ⟨μ,S,env,o,hS,hE,hm,post⟩:=h
  obtain ⟨o1,h1,hm⟩:=Option.bind_eq_some_iff.mp hm
  refine ⟨μ,S,env,o1,hS,hE,h1,?_⟩
  cases o1 with
  | nx env' S'=>exact fun σ' H' μ' e s r=>⟨μ',S',env',o,s,r,hm,post.ext e⟩
  | rt d S'=>cases hm;exact post
  | bk env' S'=>cases hm;exact post
  | ct env' S'=>cases hm;exact post
theorem dss_cons {st:Stmt} {rest:List Stmt} {a b:MS} (h1:DS X st a) (h2:DSs X rest b):DSs X (st::rest) (mSeq a b):=PSs.imp (pss_cons h1 h2) fun _ _ _ h=>tSeq_of h
theorem dss_one {st:Stmt} {a:MS} (h1:DS X st a):DSs X [st] a:=pss_one h1
variable {pos:Pos} {e c:Expr} {m:ME} {mt:MT} {a b:List Stmt} {ma mb:MS}
theorem ds_pass:DS X (.Pass pos) mSkip:=PS.imp ps_pass fun E σ H ⟨μ,S,env,o,hS,hE,hm,post⟩=>by cases hm;exact post σ H μ hS.ext hS hE
theorem ds_break:DS X (.Break pos) (fun env S=>some (.bk env S)):=PS.imp ps_break fun E σ H ⟨μ,S,env,o,hS,hE,hm,post⟩=>by cases hm;exact post σ H μ hS.ext hS hE
theorem ds_continue:DS X (.Continue pos) (fun env S=>some (.ct env S)):=PS.imp ps_continue fun E σ H ⟨μ,S,env,o,hS,hE,hm,post⟩=>by cases hm;exact post σ H μ hS.ext hS hE
theorem ds_doc {x j p}:DS X (.Expr (.Constant (.str x) j p) pos) mSkip:=PS.imp ps_doc fun E σ H ⟨μ,S,env,o,hS,hE,hm,post⟩=>by cases hm;exact post σ H μ hS.ext hS hE
noncomputable def mRet (m:ME):MS:=fun env S=>(m env S).bind fun p=>some (.rt p.1 p.2)
theorem ds_ret (he:DE X e m):DS X (.Return (some e) pos) (mRet m):=PS.imp (ps_ret he) fun E σ H ⟨μ,S,env,o,hS,hE,hm,post⟩=>by
  obtain ⟨⟨d,S1⟩,h1,hm⟩:=Option.bind_eq_some_iff.mp hm
  cases hm
  exact ⟨μ,S,env,d,S1,hS,hE,h1,post⟩
theorem ds_retN:DS X (.Return none pos) (fun _ S=>some (.rt .non S)):=PS.imp ps_retN fun E σ H ⟨μ,S,env,o,hS,hE,hm,post⟩=>by cases hm;exact Post.here post hS .non
noncomputable def mDrop (m:ME):MS:=fun env S=>(m env S).bind fun p=>some (.nx env p.2)
theorem ds_expr (he:DE X e m) (hs:swapsWith e none pos.line X.env=pure false:=by rfl):DS X (.Expr e pos) (mDrop m):=PS.imp (ps_expr he hs) fun E σ H ⟨μ,S,env,o,hS,hE,hm,post⟩=>by
  obtain ⟨⟨d,S1⟩,h1,hm⟩:=Option.bind_eq_some_iff.mp hm
  cases hm
  exact ⟨μ,S,env,d,S1,hS,hE,h1,fun v H' μ' ex s r=>post σ H' μ' ex s (hE.mono ex)⟩
noncomputable def mIfS (t:MT) (a b:MS):MS:=fun env S=>(t env S).bind fun p=>if p.1=true then a env p.2 else b env p.2
theorem ds_if (hc:DT X c mt) (ha:DSs X a ma) (hb:DSs X b mb):DS X (.If c a b pos) (mIfS mt ma mb):=PS.imp (ps_if hc ha hb) fun E σ H ⟨μ,S,env,o,hS,hE,hm,post⟩=>by
  obtain ⟨⟨k,S1⟩,h1,hm⟩:=Option.bind_eq_some_iff.mp hm
  refine ⟨μ,S,env,k,S1,hS,hE,h1,fun H1 μ1 e1 s1=>?_⟩
  cases k with
  | true=>rw [if_pos rfl] at hm ⊢;exact ⟨μ1,S1,env,o,s1,hE.mono e1,hm,post.ext e1⟩
  | false=>rw [if_neg Bool.false_ne_true] at hm ⊢;exact ⟨μ1,S1,env,o,s1,hE.mono e1,hm,post.ext e1⟩
noncomputable abbrev MG:=D→MEnv→Store→Option (MEnv×Store)
noncomputable abbrev MGs:=List D→MEnv→Store→Option (MEnv×Store)
inductive tMG (K:PySem.W.Frag) (g:MG) (v:V) (σ:L2.St) (H:Hp) (Q:L2.St→Hp→Prop):Prop
  | mk (μ:Fp) (S:Store) (env:MEnv) (d:D) (env':MEnv) (S':Store) (hS:SOk K μ S H) (hE:EOk K μ H σ env) (h1:Rep K μ H v d) (h:g d env S=some (env',S')) (post:PostN K μ H S' env' Q)
inductive tMGs (K:PySem.W.Frag) (g:MGs) (vs:List V) (σ:L2.St) (H:Hp) (Q:L2.St→Hp→Prop):Prop
  | mk (μ:Fp) (S:Store) (env:MEnv) (ds:List D) (env':MEnv) (S':Store) (hS:SOk K μ S H) (hE:EOk K μ H σ env) (h1:Reps K μ H vs ds) (h:g ds env S=some (env',S')) (post:PostN K μ H S' env' Q)
noncomputable def DG (X:Cx) (tg:Expr) (g:MG):Prop:=PG X tg (tMG X.K g)
noncomputable def DGs (X:Cx) (tg:List Expr) (g:MGs):Prop:=PGs X tg (tMGs X.K g)
theorem PG.imp {tg:Expr} {t t':TG} (h:PG X tg t) (i:∀ v σ H Q,t' v σ H Q→t v σ H Q):PG X tg t':=fun pins s σ H v u Q I r q=>h pins s σ H v u Q I r (i v σ H Q q)
theorem PGs.imp {tg:List Expr} {t t':TGs} (h:PGs X tg t) (i:∀ v σ H Q,t' v σ H Q→t v σ H Q):PGs X tg t':=fun pins s σ H v u Q I r q=>h pins s σ H v u Q I r (i v σ H Q q)
noncomputable def gSet (i:Nat):MG:=fun d env S=>some (env.set i (some d),S)
theorem dg_name {i:Nat} {x:Str} (hN:X.N.Nodup) (hi:X.N[i]?=some x) (hx:Loc X.env.scope x) (hf:X.fn x=true∨X.env.scope.names.lookup x=some .local:=by first | exact .inl rfl | exact .inr rfl | assumption):DG X (.Name x pos) (gSet i):=
  PG.imp (pg_name hN hi hx hf) fun v σ H Q ⟨μ,S,env,d,env',S',hS,hE,hr,hm,post⟩=>by cases hm;exact post _ H μ hS.ext hS (hE.set hr i)
noncomputable def gNilD:MGs:=fun ds env S=>match ds with | []=>some (env,S) | _=>none
noncomputable def gConsD (g:MG) (gs:MGs):MGs:=fun ds env S=>match ds with | d::r=>(g d env S).bind fun p=>gs r p.1 p.2 | []=>none
theorem dgs_nil:DGs X [] gNilD:=PGs.imp pgs_nil fun v σ H Q ⟨μ,S,env,ds,env',S',hS,hE,hr,hm,post⟩=>by
  cases hr with
  | nil=>cases hm;exact ⟨rfl,post σ H μ hS.ext hS hE⟩
  | cons _ _=>cases hm
theorem dgs_cons {t:Expr} {ts:List Expr} {g:MG} {gs:MGs} (h1:DG X t g) (h2:DGs X ts gs) (hs:(assignEach (t::ts) X.env).map (·.2)=assign t X.env::(assignEach ts X.env).map (·.2):=by rfl):DGs X (t::ts) (gConsD g gs):=
  PGs.imp (pgs_cons h1 h2 hs) fun v σ H Q ⟨μ,S,env,ds,env',S',hS,hE,hr,hm,post⟩=>by
    cases hr with
    | nil=>cases hm
    | @cons v d vs ds h t=>
      obtain ⟨⟨env1,S1⟩,h1,hm⟩:=Option.bind_eq_some_iff.mp hm
      exact ⟨v,vs,rfl,μ,S,env,d,env1,S1,hS,hE,h,h1,fun σ1 H1 μ1 e1 s1 r1=>⟨μ1,S1,env1,ds,env',S',s1,r1,t.mono e1,hm,post.ext e1⟩⟩
noncomputable def gTupD (n:Nat) (gs:MGs):MG:=fun d env S=>match d with | .tup xs=>if xs.length=n then gs xs env S else none | _=>none
theorem dg_tup {es:List Expr} {k n:Nat} {gs:MGs} (hc:X.calm=true) (h:DGs X es gs) (hn:(assignEach es X.env).length=n:=by rfl) (hst:(assignEach es X.env).findIdx? (·.1)=none:=by rfl):DG X (.Tuple es k pos) (gTupD n gs):=
  PG.imp (pg_tup hc h hn hst) fun v σ H Q ⟨μ,S,env,d,env',S',hS,hE,hr,hm,post⟩=>by
    cases d with
    | tup xs=>
      simp only [gTupD] at hm
      split at hm
      · rename_i hl
        obtain ⟨a,vs,rfl,q,r⟩:=hr.sqT
        exact ⟨a,vs,rfl,q,by rw [r.length];exact hl,μ,S,env,xs,env',S',hS,hE,r,hm,post⟩
      · cases hm
    | _=>cases hm
noncomputable def gSubD (o i:ME):MG:=fun d env S=>(o env S).bind fun p=>(i env p.2).bind fun q=>match p.1,q.1 with
  | .ref r,.int k=>match q.2[r]? with
    | some (.lst xs)=>(ixN xs.length k).bind fun j=>some (env,q.2.set r (.lst (xs.set j d)))
    | _=>none
  | _,_=>none
theorem dg_sub {o i:Expr} {mo mi:ME} (ho:DE X o mo) (hi:DE X i mi) (ha:∀ v,assign (.Subscript o i pos) X.env v=(do
      let ov ← holding [v] (eval o X.env)
      let iv ← holding [v,ov] (eval i X.env)
      standAt pos
      holding [v,ov,iv] (setItem ov iv v)
      release [v,ov,iv] []):=by intro _;rfl):DG X (.Subscript o i pos) (gSubD mo mi):=
  PG.imp (pg_sub ho hi set_list ha) fun v σ H Q ⟨μ,S,env,d,env',S',hS,hE,hr,hm,post⟩=>by
    obtain ⟨⟨x,S1⟩,h1,hm⟩:=Option.bind_eq_some_iff.mp hm
    obtain ⟨⟨y,S2⟩,h2,hm⟩:=Option.bind_eq_some_iff.mp hm
    refine ⟨μ,S,env,x,S1,hS,hE,h1,fun v1 H1 μ1 e1 s1 r1=>⟨μ1,S1,env,y,S2,s1,hE.mono e1,h2,fun v2 H2 μ2 e2 s2 r2=>?_⟩⟩
    cases x with
    | ref r=>
      cases y with
      | int k=>
        dsimp only at hm
        cases q:S2[r]? with
        | none=>rw [q] at hm;cases hm
        | some c=>
          rw [q] at hm
          cases c with
          | lst xs=>
            obtain ⟨j,h3,hm⟩:=Option.bind_eq_some_iff.mp hm
            cases hm
            have r1':=r1.mono e2
            cases r1' with
            | @ref a _ h'=>
              obtain ⟨vs,hv,rv⟩:=s2.cell r a _ h' q
              have rd:=(hr.mono e1).mono e2
              obtain ⟨e3,s3⟩:=s2.write h' hv (rv.set rd j)
              exact ⟨a,vs,k,j,rfl,r2.int_inv,hv,by rw [rv.length];exact h3,post σ _ μ2 ((e1.trans e2).trans e3) s3 (hE.mono ((e1.trans e2).trans e3))⟩
          | dct ks xs=>cases hm
      | _=>cases hm
    | _=>cases hm
noncomputable def mAsg (m:ME) (g:MG):MS:=fun env S=>(m env S).bind fun p=>(g p.1 env p.2).bind fun q=>some (.nx q.1 q.2)
theorem tAsg_of {g:MG} {E:Ends} {σ:L2.St} (h:tMS K (mAsg m g) E σ H):tAsg (tM K m) (tMG K g) E σ H:=by
  obtain ⟨μ,S,env,o,hS,hE,hm,post⟩:=h
  obtain ⟨⟨d,S1⟩,h1,hm⟩:=Option.bind_eq_some_iff.mp hm
  obtain ⟨⟨env2,S2⟩,h2,hm⟩:=Option.bind_eq_some_iff.mp hm
  cases hm
  exact ⟨μ,S,env,d,S1,hS,hE,h1,fun v H1 μ1 e1 s1 r1=>⟨μ1,S1,env,d,env2,S2,s1,hE.mono e1,r1,h2,PostN.ext e1 post⟩⟩
theorem ds_asg {tg:Expr} {g:MG} (he:DE X e m) (hg:DG X tg g) (hs:swapsWithSole [tg] e pos.line X.env=pure false:=by rfl) (hw:swappedStores [tg] e X.env=pure none:=by rfl)
    (h1:(assignEach [tg] X.env).map (·.2)=[assign tg X.env]:=by rfl):DS X (.Assign [tg] e pos) (mAsg m g):=PS.imp (ps_asg he hg hs hw h1) fun _ _ _ h=>tAsg_of h
theorem ds_set {i:Nat} {x:Str} {pos':Pos} (hN:X.N.Nodup) (hi:X.N[i]?=some x) (hx:Loc X.env.scope x) (he:DE X e m) (hs:swapsWith e (some (.Name x pos')) pos.line X.env=pure false:=by rfl) (hf:X.fn x=true∨X.env.scope.names.lookup x=some .local:=by first | exact .inl rfl | exact .inr rfl | assumption) :
    DS X (.Assign [.Name x pos'] e pos) (mAsg m (gSet i)):=PS.imp (ps_set hN hi hx he hs hf) fun E σ H h=>by
  obtain ⟨μ,S,env,o,hS,hE,hm,post⟩:=h
  obtain ⟨⟨d,S1⟩,h1,hm⟩:=Option.bind_eq_some_iff.mp hm
  cases hm
  exact ⟨μ,S,env,d,S1,hS,hE,h1,fun v H1 μ1 e1 s1 r1=>post _ H1 μ1 e1 s1 ((hE.mono e1).set r1 i)⟩
structure ExtP (μ:Fp) (H:Hp) (μ':Fp) (H':Hp):Prop where
  fb:∃ l,μ'.fb=l++μ.fb∧∀ a∈l,H a=none
  pre:∃ l,μ'.cs = μ.cs++l∧∀ a∈l,H a=none
  keep:∀ a o,a ∉ μ.cs→H a=some o→H' a=some o
  dom:∀ a ∈ μ'.cs,H' a≠none
theorem Ext.toP (e:Ext μ H μ' H'):ExtP μ H μ' H':=⟨⟨[],by rw [e.fb];rfl,fun _ z=>by simp at z⟩,e.pre,e.keep,e.dom⟩
theorem ExtP.stays (e:ExtP μ H μ' H') {a:Addr} {o:HO} (h:H a=some o) (n:μ.no a):H' a=some o∧μ'.no a:=by
  refine ⟨e.keep a o n.1 h,fun z=>?_,fun z=>?_⟩
  · obtain ⟨l,q,hl⟩:=e.pre
    rw [q] at z
    rcases List.mem_append.mp z with z | z
    · exact n.1 z
    · rw [hl a z] at h;cases h
  · obtain ⟨l,q,hl⟩:=e.fb
    rw [q] at z
    rcases List.mem_append.mp z with z | z
    · rw [hl a z] at h;cases h
    · exact n.2 z
theorem ExtP.then {μ'':Fp} {H'':Hp} (e:ExtP μ H μ' H') (f:Ext μ' H' μ'' H''):ExtP μ H μ'' H'':=by
  obtain ⟨l,q,hl⟩:=e.pre
  obtain ⟨l',q',hl'⟩:=f.pre
  refine ⟨by rw [f.fb];exact e.fb,⟨l++l',by rw [q',q,List.append_assoc],fun a ha=>?_⟩,fun a o n h=>?_,f.dom⟩
  · rcases List.mem_append.mp ha with ha | ha
    · exact hl a ha
    · have h1:=hl' a ha
      cases q2:H a with
      | none=>rfl
      | some o=>
        by_cases hm:a ∈ μ.cs
        · exact absurd h1 (e.dom a (by rw [q];exact List.mem_append_left _ hm))
        · rw [e.keep a o hm q2] at h1;cases h1
  · have h1:=e.keep a o n h
    refine f.keep a o (fun z=>?_) h1
    rw [q] at z
    rcases List.mem_append.mp z with z | z
    · exact n z
    · rw [hl a z] at h;cases h
theorem ExtP.chg {p:Addr} {o:HO} (e:ExtP μ H μ' H') (hp:H p=none):ExtP μ H μ' (upd H' p o):=
  ⟨e.fb,e.pre,fun a o' n h=>by rw [upd_ne (ne_of_none h hp)];exact e.keep a o' n h,fun a ha=>by
    by_cases z:a=p
    · subst z;rw [upd_same];simp
    · rw [upd_ne z];exact e.dom a ha⟩
theorem ExtP.ix (e:ExtP μ H μ' H') {r:Nat} {a:Addr} (h:μ.cs[r]?=some a):μ'.cs[r]?=some a:=by
  obtain ⟨l,q,_⟩:=e.pre
  exact app_ix q h
theorem Rep.monoP (e:ExtP μ H μ' H') {v:V} {d:D} (r:Rep K μ H v d):Rep K μ' H' v d:=r.imp e.stays e.ix
noncomputable def ItOk (K:PySem.W.Frag) (μ:Fp) (H:Hp) (J:It) (xs:List D):Prop:=
  ∀ μ' H' S',ExtP μ H μ' H'→SOk K μ' S' H'→∀ i,(∀ d,xs[i]?=some d→J.go i H'∧∀ x H2,J.yld i H' x H2→Ext μ' H' μ' H2∧SOk K μ' S' H2∧Rep K μ' H2 x d)∧(xs.length≤i→J.stop i H')
inductive iM (K:PySem.W.Frag) (m:MA) (σ:L2.St) (H:Hp) (R:It→Hp→Prop):Prop
  | mk (μ:Fp) (S:Store) (env:MEnv) (xs:List D) (S':Store) (hS:SOk K μ S H) (hE:EOk K μ H σ env) (h:m env S=some (xs,S')) (post:∀ J H' μ',Ext μ H μ' H'→SOk K μ' S' H'→ItOk K μ' H' J xs→R J H')
noncomputable def DI (X:Cx) (tg iter:Expr) (m:MA):Prop:=PI X tg iter (iM X.K m)
theorem PI.imp {tg iter:Expr} {t t':TI} (h:PI X tg iter t) (i:∀ σ H R,t' σ H R→t σ H R):PI X tg iter t':=fun pins s σ H R I q=>h pins s σ H R I (i σ H R q)
theorem itOk_list {v:V} {a:Addr} {d:D} {xs:List D} (hd:d=.lst xs∨d=.rol xs) (r:Rep K μ H v d) (hv:v=.ref a):ItOk K μ H (Itl K a) xs:=fun μ' H' S' e s i=>by
  have r':=r.monoP e
  obtain ⟨vs,q,rs⟩:∃ vs,SqL K H' a vs∧Reps K μ' H' vs xs:=by
    subst hv
    rcases hd with rfl | rfl
    · obtain ⟨a',vs,ea,q,_,rs⟩:=r'.sqL;cases ea;exact ⟨vs,.inl (.inl q),rs⟩
    · obtain ⟨a',vs,ea,q,rs⟩:=r'.sqR;cases ea;exact ⟨vs,q,rs⟩
  refine ⟨fun d hd=>?_,fun hl=>⟨vs,q,by rw [rs.length];exact hl⟩⟩
  obtain ⟨v,hv,rv⟩:=rs.get hd
  refine ⟨⟨vs,v,q,hv⟩,fun x H2 ⟨e2,hy⟩=>?_⟩
  subst e2
  have:=hy vs q
  rw [hv] at this;cases this
  exact ⟨s.ext,s,rv⟩
theorem itOk_tup {a:Addr} {xs:List D} (r:Rep K μ H (.ref a) (.tup xs)):ItOk K μ H (Itt K a) xs:=fun μ' H' S' e s i=>by
  obtain ⟨a',vs,ea,q,rs⟩:=(r.monoP e).sqT
  cases ea
  refine ⟨fun d hd=>?_,fun hl=>⟨vs,q,by rw [rs.length];exact hl⟩⟩
  obtain ⟨v,hv,rv⟩:=rs.get hd
  refine ⟨⟨vs,v,q,hv⟩,fun x H2 ⟨e2,hy⟩=>?_⟩
  subst e2
  have:=hy vs q
  rw [hv] at this;cases this
  exact ⟨s.ext,s,rv⟩
variable {tg iter:Expr}
noncomputable def rangeD (lo:Int) (n:Nat):List D:=(List.range n).map fun (i:Nat)=>D.int (lo+(i:Int))
theorem rangeD_get (lo:Int) (n i:Nat) (d:D) (h:(rangeD lo n)[i]?=some d):i<n∧d=.int (lo+(i:Int)):=by
  unfold rangeD at h
  rw [List.getElem?_map] at h
  cases q:(List.range n)[i]? with
  | none=>rw [q] at h;cases h
  | some j=>
    rw [q] at h;cases h
    obtain ⟨h1,h2⟩:=List.getElem?_eq_some_iff.mp q
    simp at h1 h2
    exact ⟨h1,by rw [h2]⟩
theorem itOk_range (lo:Int) (n:Nat):ItOk K μ H (Itr lo n) (rangeD lo n):=fun μ' H' S' e s i=>by
  refine ⟨fun d hd=>?_,fun hl=>?_⟩
  · obtain ⟨h1,rfl⟩:=rangeD_get lo n i d hd
    refine ⟨h1,fun x H2 ⟨e2,hy⟩=>?_⟩
    subst e2 hy
    exact ⟨s.ext,s,.int _⟩
  · have:(rangeD lo n).length=n:=by simp [rangeD]
    rw [this] at hl;exact hl
noncomputable def mRange1 (ms:MA):MA:=fun env S=>(ms env S).bind fun p=>match p.1 with | [.int j]=>if -(2 ^ 62)≤j∧j<2 ^ 62 then some (rangeD 0 j.toNat,p.2) else none | _=>none
noncomputable def mRange2 (ms:MA):MA:=fun env S=>(ms env S).bind fun p=>match p.1 with | [.int i,.int j]=>if -(2 ^ 62)≤i∧i<2 ^ 62∧-(2 ^ 62)≤j∧j<2 ^ 62 then some (rangeD i (j - i).toNat,p.2) else none | _=>none
theorem di_range1 {a:Expr} {ms:MA} {p:Pos} (hm:X.mg "range" = none) (ha:DA X [a] ms) (hg:Gl X "range":=by rfl) (hs:starEach [a] X.env=[(false,eval a X.env)]:=by rfl):DI X tg (.Call (.Name "range" p) [a] [] pos) (mRange1 ms):=
  PI.imp (pi_range1 hg hm ha hs) fun σ H R ⟨μ,S,env,xs,S',hS,hE,hm,post⟩=>by
    obtain ⟨⟨ds,S1⟩,h1,hm⟩:=Option.bind_eq_some_iff.mp hm
    refine ⟨μ,S,env,ds,S1,hS,hE,h1,fun vs H1 μ1 e1 s1 r1=>?_⟩
    dsimp only at hm
    split at hm
    · split at hm
      · rename_i hb
        cases hm
        obtain ⟨v,rfl,r⟩:=r1.one
        exact ⟨_,by rw [r.int_inv],hb.1,hb.2,post _ H1 μ1 e1 s1 (itOk_range 0 _)⟩
      · cases hm
    · cases hm
theorem di_range2 {a b:Expr} {ms:MA} {p:Pos} (hm:X.mg "range" = none) (ha:DA X [a,b] ms) (hg:Gl X "range":=by rfl) (hs:starEach [a,b] X.env=[(false,eval a X.env),(false,eval b X.env)]:=by rfl) (hs2:starEach [b] X.env=[(false,eval b X.env)]:=by rfl):DI X tg (.Call (.Name "range" p) [a,b] [] pos) (mRange2 ms):=
  PI.imp (pi_range2 hg hm ha hs hs2) fun σ H R ⟨μ,S,env,xs,S',hS,hE,hm,post⟩=>by
    obtain ⟨⟨ds,S1⟩,h1,hm⟩:=Option.bind_eq_some_iff.mp hm
    refine ⟨μ,S,env,ds,S1,hS,hE,h1,fun vs H1 μ1 e1 s1 r1=>?_⟩
    dsimp only at hm
    split at hm
    · split at hm
      · rename_i hb
        cases hm
        obtain ⟨v,w,rfl,r,r'⟩:=r1.two
        exact ⟨_,_,by rw [r.int_inv,r'.int_inv],hb,post _ H1 μ1 e1 s1 (itOk_range _ _)⟩
      · cases hm
    · cases hm
noncomputable def mForL (g:MG) (body:MS):List D→MEnv→Store→Option Out
  | [],env,S=>some (.nx env S)
  | d::ds,env,S=>(g d env S).bind fun p=>(body p.1 p.2).bind fun o=>match o with
    | .nx e s=>mForL g body ds e s
    | .ct e s=>mForL g body ds e s
    | .bk e s=>some (.nx e s)
    | .rt d s=>some (.rt d s)
noncomputable def mFor (mi:MA) (g:MG) (body:MS):MS:=fun env S=>(mi env S).bind fun p=>mForL g body p.1 env p.2
theorem ds_for {body:List Stmt} {mi:MA} {g:MG} {mb:MS} (hp:PassesOwn (model X.prog X.w) X.A X.env X.xe) (hc:X.calm=true) (hi:DI X tg iter mi) (hg:DG X tg g) (hb:DSs X body mb)
    (hs:∀ x,foldedSetIterable iter X.env x=pure x:=by intro _;rfl):DS X (.For tg iter body [] pos) (mFor mi g mb):=PS.imp (ps_for hp hc hi hg hb hs) fun E σ H ⟨μ,S,env,o,hS,hE,hm,post⟩=>by
  obtain ⟨⟨xs,S1⟩,h1,hm⟩:=Option.bind_eq_some_iff.mp hm
  refine ⟨μ,S,env,xs,S1,hS,hE,h1,fun J H1 μ1 e1 s1 it=>?_⟩
  refine ⟨fun i n σ H=>n=xs.length - i∧i≤xs.length∧∃ μ' S' env' o',Ext μ1 H1 μ' H∧SOk X.K μ' S' H∧EOk X.K μ' H σ env'∧mForL g mb (xs.drop i) env' S'=some o'∧PostS X.K μ' H o' E,
    ⟨xs.length,by simp,Nat.zero_le _,μ1,S1,env,o,s1.ext,s1,hE.mono e1,by rw [List.drop_zero];exact hm,post.ext e1⟩,?_⟩
  rintro i n σ' H' ⟨rfl,hi,μ',S',env',o',e',s',r',hl,post'⟩
  have iti:=it μ' H' S' e'.toP s' i
  by_cases hlt:i<xs.length
  · refine .inr ⟨(iti.1 xs[i] (List.getElem?_eq_getElem hlt)).1,fun σ2 H2=>∃ μ2 S2 env2 o2,Ext μ1 H1 μ2 H2∧SOk X.K μ2 S2 H2∧EOk X.K μ2 H2 σ2 env2∧mForL g mb (xs.drop (i+1)) env2 S2=some o2∧PostS X.K μ2 H2 o2 E,
      fun σ2 H2 ⟨μ2,S2,env2,o2,q1,q2,q3,q4,q5⟩=>⟨xs.length - (i+1),by omega,rfl,hlt,μ2,S2,env2,o2,q1,q2,q3,q4,q5⟩,fun x H2 y=>?_⟩
    obtain ⟨e2,s2,rx⟩:=(iti.1 xs[i] (List.getElem?_eq_getElem hlt)).2 x H2 y
    rw [List.drop_eq_getElem_cons hlt] at hl
    obtain ⟨⟨env3,S3⟩,h3,hl⟩:=Option.bind_eq_some_iff.mp hl
    obtain ⟨o4,h4,hl⟩:=Option.bind_eq_some_iff.mp hl
    refine ⟨μ',S',env',xs[i],env3,S3,s2,r'.mono e2,rx,h3,fun σ3 H3 μ3 e3 s3 r3=>⟨μ3,S3,env3,o4,s3,r3,h4,?_⟩⟩
    have eT:Ext μ1 H1 μ3 H3:=(e'.trans e2).trans e3
    have pT:PostS X.K μ3 H3 o' E:=(post'.ext e2).ext e3
    cases o4 with
    | nx e5 s5=>exact fun σ6 H6 μ6 e6 s6 r6=>⟨μ6,s5,e5,o',eT.trans e6,s6,r6,hl,pT.ext e6⟩
    | ct e5 s5=>exact fun σ6 H6 μ6 e6 s6 r6=>⟨μ6,s5,e5,o',eT.trans e6,s6,r6,hl,pT.ext e6⟩
    | bk e5 s5=>cases hl;exact pT
    | rt d5 s5=>cases hl;exact pT
  · have e:i=xs.length:=by omega
    subst e
    refine .inl ⟨iti.2 (Nat.le_refl _),?_⟩
    rw [List.drop_length] at hl
    cases hl
    exact post' σ' H' μ' s'.ext s' r'
noncomputable def capE (cap:List (Option Nat)) (env:MEnv):MEnv:=cap.map fun o=>o.bind fun i=>(env[i]?).join
noncomputable def DTs (X:Cx) (ifs:List Expr) (m:MT):Prop:=PTs X ifs (tMT X.K m)
theorem dts_nil:DTs X [] (fun _ S=>some (true,S)):=fun pins s σ H Q I ⟨μ,S,env,b,S',hS,hE,hm,post⟩=>by cases hm;exact pts_nil pins s σ H Q I (post H μ hS.ext hS)
theorem dts_one {c:Expr} {t:MT} (h:DT X c t):DTs X [c] t:=pts_one h
noncomputable def mCompL (g:MG) (t:MT) (e:ME):List D→MEnv→Store→Option (List D×Store)
  | [],_,S=>some ([],S)
  | d::ds,env,S=>(g d env S).bind fun p=>(t p.1 p.2).bind fun b=>if b.1=true then (e p.1 b.2).bind fun q=>(mCompL g t e ds p.1 q.2).bind fun r=>some (q.1::r.1,r.2) else mCompL g t e ds p.1 b.2
noncomputable def mComp (mi:MA) (g:MG) (t:MT) (e:ME) (cap:List (Option Nat)):ME:=fun env S=>(mi env S).bind fun p=>if p.1.length≤sizeLine then (mCompL g t e p.1 (capE cap env) p.2).bind fun q=>some (.lst q.1,q.2) else none
theorem tComp_of {mi:MA} {g:MG} {t:MT} {e:ME} {cap:List (Option Nat)} {σ:L2.St} {Q:VK} (h:tM K (mComp mi g t e cap) σ H Q):tComp (iM K mi) (tMG K g) (tMT K t) (tM K e) cap σ H Q:=by
  obtain ⟨μ,S,env,d,S',hS,hE,hm,post⟩:=h
  obtain ⟨⟨xs,S1⟩,h1,hm⟩:=Option.bind_eq_some_iff.mp hm
  dsimp only at hm
  split at hm
  case isFalse=>cases hm
  rename_i hsz
  obtain ⟨⟨ys,S2⟩,h2,hm⟩:=Option.bind_eq_some_iff.mp hm
  cases hm
  refine ⟨μ,S,env,xs,S1,hS,hE,h1,fun J H1 μ1 e1 s1 it p hp=>?_⟩
  have hpn:=s1.notMem hp
  refine ⟨fun i n σ' H'=>n=xs.length - i∧i≤xs.length∧∃ (cs:List Addr) (S':Store) (env':MEnv) (vs:List V) (zs rest:List D),ExtP μ1 H1 ⟨cs,p::μ1.fb⟩ H'∧SOk K ⟨cs,p::μ1.fb⟩ S' H'∧EOk K ⟨cs,p::μ1.fb⟩ H' σ' env'∧H' p=some (.lst vs) ∧
      Reps K ⟨cs,p::μ1.fb⟩ H' vs zs∧mCompL g t e (xs.drop i) env' S'=some (rest,S2)∧ys=zs++rest∧vs.length≤i,⟨xs.length,by simp,Nat.zero_le _,μ1.cs,S1,capE cap env,[],[],ys,?_,s1.more hp,?_,upd_same,.nil,by rw [List.drop_zero];exact h2,rfl,Nat.le_refl _⟩,?_⟩
  · exact ⟨⟨[p],rfl,fun a z=>by rw [List.mem_singleton.mp z];exact hp⟩,⟨[],by simp,fun _ z=>by simp at z⟩,fun a o' n h=>by rw [upd_ne (ne_of_none h hp)];exact h,fun a ha=>by
      by_cases z:a=p
      · subst z;rw [upd_same];simp
      · rw [upd_ne z];exact s1.dom a ha⟩
  · exact ((hE.mono e1).block cap).more hp
  rintro i n σ' H' ⟨rfl,hi,cs,S',env',vs,zs,rest,eP,s',r',hpv,rz,hl,rfl,hvl⟩
  have iti:=it _ H' S' eP s' i
  by_cases hlt:i<xs.length
  · refine .inr ⟨(iti.1 xs[i] (List.getElem?_eq_getElem hlt)).1,fun x H2 y=>?_⟩
    obtain ⟨e2,s2,rx⟩:=(iti.1 xs[i] (List.getElem?_eq_getElem hlt)).2 x H2 y
    rw [List.drop_eq_getElem_cons hlt] at hl
    obtain ⟨⟨env3,S3⟩,h3,hl⟩:=Option.bind_eq_some_iff.mp hl
    obtain ⟨⟨b,S4⟩,h4,hl⟩:=Option.bind_eq_some_iff.mp hl
    refine ⟨_,S',env',xs[i],env3,S3,s2,r'.mono e2,rx,h3,fun σ3 H3 μ3 e3 s3 r3=>⟨μ3,S3,env3,b,S4,s3,r3,h4,fun H4 μ4 e4 s4=>?_⟩⟩
    have eA:=(e2.trans e3).trans e4
    have pcs:p ∉ cs:=fun z=>s'.disj p List.mem_cons_self z
    cases b with
    | false=>
      rw [if_neg Bool.false_ne_true] at hl
      dsimp only
      rw [if_neg Bool.false_ne_true]
      obtain ⟨cs4,fb4⟩:=μ4
      have hfb:fb4=p::μ1.fb:=eA.fb
      subst hfb
      exact ⟨xs.length - (i+1),by omega,rfl,hlt,cs4,S4,env3,vs,zs,rest,eP.then eA,s4,r3.mono e4,(eA.keeps hpv pcs).1,rz.mono eA,hl,rfl,by omega⟩
    | true=>
      rw [if_pos rfl] at hl
      dsimp only
      rw [if_pos rfl]
      obtain ⟨⟨dv,S5⟩,h5,hl⟩:=Option.bind_eq_some_iff.mp hl
      obtain ⟨⟨rs,S6⟩,h6,hl⟩:=Option.bind_eq_some_iff.mp hl
      cases hl
      refine ⟨μ4,S4,env3,dv,S5,s4,r3.mono e4,h5,fun v H5 μ5 e5 s5 r5=>?_⟩
      have eB:=eA.trans e5
      obtain ⟨cs5,fb5⟩:=μ5
      have hfb:fb5=p::μ1.fb:=eB.fb
      subst hfb
      refine ⟨vs,(eB.keeps hpv pcs).1,by omega,xs.length - (i+1),by omega,rfl,hlt,cs5,S5,env3,vs++[v],zs++[dv],rs,(eP.then eB).chg hp,s5.chg List.mem_cons_self,((r3.mono e4).mono e5).chg List.mem_cons_self,upd_same,Reps.chg List.mem_cons_self ((rz.mono eB).append (.cons r5 .nil)),h6,by simp,by rw [List.length_append,List.length_singleton];omega⟩
  · have e:i=xs.length:=by omega
    subst e
    refine .inl ⟨iti.2 (Nat.le_refl _),?_⟩
    rw [List.drop_length] at hl
    cases hl
    have eF:Ext μ1 H1 ⟨cs,μ1.fb⟩ H':=⟨rfl,eP.pre,eP.keep,eP.dom⟩
    dsimp only at post
    rw [List.append_nil] at post
    exact post _ H' ⟨cs,μ1.fb⟩ (e1.trans eF) s'.less (.lst hpv ⟨fun z=>s'.disj p List.mem_cons_self z,hpn.2⟩ rz.less)
theorem de_comp {elt:Expr} {ifs:List Expr} {scope:Scope} {N':List Str} {cap:List (Option Nat)} {mi:MA} {g:MG} {t:MT} {me:ME}
    (hc:X.calm=true) (B:BlockOk X N' scope cap) (hi:DI X tg iter mi) (hg:∀ C s H fp,DG (cxB X N' scope C s H fp) tg g) (ht:∀ C s H fp,DTs (cxB X N' scope C s H fp) ifs t) (he:∀ C s H fp,DE (cxB X N' scope C s H fp) elt me)
    (hs:∀ x,foldedSetIterable iter X.env x=pure x:=by intro _;rfl):DE X (.ListComp elt [⟨tg,iter,ifs,0⟩] scope pos) (mComp mi g t me cap):=
  PE.imp (pe_comp (g:=tMG X.K g) (tt:=tMT X.K t) (te:=tM X.K me) hc B hi hg ht he hs) fun _ _ _ h=>tComp_of h
theorem ds_setComp {elt:Expr} {ifs:List Expr} {scope:Scope} {spos py:Pos} {N':List Str} {cap:List (Option Nat)} {mi:MA} {g:MG} {t:MT} {me:ME} {y:Str} {i:Nat}
    (hN:X.N.Nodup) (hy:X.N[i]?=some y) (hx:Loc X.env.scope y)
    (hc:X.calm=true) (B:BlockOk X N' scope cap) (hi:DI X tg iter mi) (hg:∀ C s H fp,DG (cxB X N' scope C s H fp) tg g) (ht:∀ C s H fp,DTs (cxB X N' scope C s H fp) ifs t) (he:∀ C s H fp,DE (cxB X N' scope C s H fp) elt me)
    (hsw:swapsWith (.ListComp elt [⟨tg,iter,ifs,0⟩] scope pos) (some (.Name y py)) spos.line X.env=pure true:=by rfl)
    (hs:∀ x,foldedSetIterable iter X.env x=pure x:=by intro _;rfl) (hf:X.fn y=true∨X.env.scope.names.lookup y=some .local:=by first | exact .inl rfl | exact .inr rfl | assumption) :
    DS X (.Assign [.Name y py] (.ListComp elt [⟨tg,iter,ifs,0⟩] scope pos) spos) (mAsg (mComp mi g t me cap) (gSet i)):=
  PS.imp (ps_setComp (g:=tMG X.K g) (tt:=tMT X.K t) (te:=tM X.K me) hN hy hx hc B hi hg ht he hsw hs hf) fun E σ H h=>by
    obtain ⟨μ,S,env,o,hS,hE,hm,post⟩:=h
    obtain ⟨⟨d,S1⟩,h1,hm⟩:=Option.bind_eq_some_iff.mp hm
    cases hm
    exact tComp_of ⟨μ,S,env,d,S1,hS,hE,h1,fun v H1 μ1 e1 s1 r1=>post _ H1 μ1 e1 s1 ((hE.mono e1).set r1 i)⟩
end
end M
namespace M
open PySem PySem.Spec PyProof.Rows L2
section
variable {X:Cx} {K:PySem.W.Frag} {μ μ':Fp} {H H':Hp} {S:Store} {pos p2:Pos} {tg iter:Expr} {m:ME}
noncomputable def capB (N N':List Str) (kX kB:Str→Option NameKind):List (Option Nat)→List Str→Bool
  | [],[]=>true
  | none::r,_::s=>capB N N' kX kB r s
  | some i::r,y::s=>N[i]? == some y&&(kX y == some .cell||kX y == some .free)&&(kB y == some .cell||kB y == some .free)&&capB N N' kX kB r s
  | _,_=>false
theorem capB_ok {N N':List Str} {kX kB:Str→Option NameKind}:∀ {cap:List (Option Nat)} {ys:List Str},capB N N' kX kB cap ys=true→cap.length=ys.length∧∀ (j i:Nat),cap[j]?=some (some i)→∃ y,ys[j]?=some y∧N[i]?=some y∧(kX y=some .cell∨kX y=some .free)∧(kB y=some .cell∨kB y=some .free)
  | [],[],_=>⟨rfl,fun j i e=>by simp at e⟩
  | none::r,y::s,h=>by
    obtain ⟨h1,h2⟩:=capB_ok (cap:=r) (ys:=s) h
    refine ⟨by simp [h1],fun j i e=>?_⟩
    cases j with
    | zero=>simp at e
    | succ j=>simpa using h2 j i (by simpa using e)
  | some k::r,y::s,h=>by
    rw [capB,Bool.and_eq_true,Bool.and_eq_true,Bool.and_eq_true,Bool.or_eq_true,Bool.or_eq_true] at h
    obtain ⟨h1,h2⟩:=capB_ok (cap:=r) (ys:=s) h.2
    refine ⟨by simp [h1],fun j i e=>?_⟩
    cases j with
    | zero=>
      simp at e;subst e
      refine ⟨y,rfl,by simpa using h.1.1.1,?_,?_⟩
      · exact h.1.1.2.imp (fun z=>by simpa using z) fun z=>by simpa using z
      · exact h.1.2.imp (fun z=>by simpa using z) fun z=>by simpa using z
    | succ j=>simpa using h2 j i (by simpa using e)
  | [],_::_,h=>by simp [capB] at h
  | none::_,[],h=>by simp [capB] at h
  | some _::_,[],h=>by simp [capB] at h
theorem blk {N':List Str} {scope:Scope} {cap:List (Option Nat)} (nd:N'.Nodup) (k:scope.kind=.function:=by rfl) (nc:(scope.names.all fun x=>x.2 != .cell)=true:=by rfl) (nm:(scope.names.all fun x=>x.2 != .local||scope.names.lookup x.1 == some .local)=true:=by rfl)
    (fr:(scope.names.all fun x=>x.2 != .free||X.env.kindOf x.1 == some .cell||X.env.kindOf x.1 == some .free)=true:=by rfl)
    (cp:capB X.N N' X.env.kindOf (fun y=>(relabel scope X.env).names.lookup y) cap N'=true:=by rfl):BlockOk X N' scope cap:=by
  obtain ⟨h1,h2⟩:=capB_ok cp
  refine ⟨k,fun x hx=>?_,fun x hx hl=>?_,fun x hx hf=>?_,nd,h1,fun j i e=>?_⟩
  · have:=List.all_eq_true.mp nc x hx
    simpa using this
  · have:=List.all_eq_true.mp nm x hx
    simpa [hl] using this
  · have:=List.all_eq_true.mp fr x hx
    simpa [hf] using this
  · obtain ⟨y,a,b,c,d⟩:=h2 j i e
    exact ⟨y,a,b,.inr c,c,d⟩
theorem pi_seq {l:Expr} {tl:TE} (hl:PE X l tl):PI X tg l (fun σ H R=>tl σ H fun x H1=>∃ a,x=.ref a∧(((∃ xs,SqL X.K H1 a xs)∧R (Itl X.K a) H1)∨((∃ xs,SqT X.K H1 a xs)∧R (Itt X.K a) H1))):=by
  intro pins s σ H R I h
  refine thn (hl pins s σ H _ I h) fun v s1 ⟨x,H1,I1,r1,q1⟩=>?_
  obtain ⟨a,e,⟨⟨xs,hq⟩,q⟩ | ⟨⟨xs,hq⟩,q⟩⟩:=q1
  · subst e
    cases r1
    obtain ⟨its,rv,p,hz⟩:=I1.list hq
    refine wpAny_pyIter_list p.isList ?_
    refine ⟨s1.heap.objs.size,[s1.heap.objs.size],_,_,H1,rfl,I1.kept (t':=s1.toks) fun b o e=>Heap.get?_push_of_some _ e,turn_list a _,⟨_,Heap.get?_push_size _ rfl,rfl,rfl⟩,fun b hb=>?_,q⟩
    have e:b=s1.heap.objs.size:=by simpa using hb
    subst e
    exact I1.fpOk (Nat.le_refl _) (I1.hok.fresh (Nat.le_refl _))
  · subst e
    cases r1
    obtain ⟨its,rv,p,hz⟩:=I1.tuple hq
    refine wpAny_pyIter_tuple (show s1.heap.IsTuple a its.toArray from p) ?_
    refine ⟨s1.heap.objs.size,[s1.heap.objs.size],_,_,H1,rfl,I1.kept (t':=s1.toks) fun b o e=>Heap.get?_push_of_some _ e,turn_tuple a _,⟨_,Heap.get?_push_size _ rfl,rfl,rfl⟩,fun b hb=>?_,q⟩
    have e:b=s1.heap.objs.size:=by simpa using hb
    subst e
    exact I1.fpOk (Nat.le_refl _) (I1.hok.fresh (Nat.le_refl _))
noncomputable def mItS (m:ME):MA:=fun env S=>(m env S).bind fun p=>match p.1 with | .lst xs=>some (xs,p.2) | .rol xs=>some (xs,p.2) | .tup xs=>some (xs,p.2) | _=>none
theorem di_seq (h:DE X iter m):DI X tg iter (mItS m):=PI.imp (pi_seq h) fun σ H R ⟨μ,S,env,xs,S',hS,hE,hm,post⟩=>by
  obtain ⟨⟨d,S1⟩,h1,hm⟩:=Option.bind_eq_some_iff.mp hm
  refine ⟨μ,S,env,d,S1,hS,hE,h1,fun v H1 μ1 e1 s1 r1=>?_⟩
  cases d with
  | lst ys=>
    cases hm
    have r1':=r1
    obtain ⟨a,vs,rfl,q,_,rs⟩:=r1.sqL
    exact ⟨a,rfl,.inl ⟨⟨vs,.inl (.inl q)⟩,post _ H1 μ1 e1 s1 (itOk_list (.inl rfl) r1' rfl)⟩⟩
  | rol ys=>
    cases hm
    have r1':=r1
    obtain ⟨a,vs,rfl,q,rs⟩:=r1.sqR
    exact ⟨a,rfl,.inl ⟨⟨vs,q⟩,post _ H1 μ1 e1 s1 (itOk_list (.inr rfl) r1' rfl)⟩⟩
  | tup ys=>
    cases hm
    have r1':=r1
    obtain ⟨a,vs,rfl,q,rs⟩:=r1.sqT
    exact ⟨a,rfl,.inr ⟨⟨vs,q⟩,post _ H1 μ1 e1 s1 (itOk_tup r1')⟩⟩
  | _=>cases hm
end
noncomputable def runM (N:List Str) (m:MS) (n:Nat):List D→Store→Option (D×Store):=fun ds S=>if ds.length=n then (m (startE N ds) S).bind fun o=>match o with | .rt d S'=>some (d,S') | .nx _ S'=>some (.non,S') | _=>none else none
theorem runM_runs {N:List Str} {m:MS} {n:Nat} {ds:List D} {S S':Store} {d:D} (h:runM N m n ds S=some (d,S')):Runs m (startE N ds) S d S':=by
  unfold runM at h
  split at h
  · obtain ⟨o,h1,h⟩:=Option.bind_eq_some_iff.mp h
    cases o with
    | rt d' S2=>cases h;exact .ret h1
    | nx e S2=>cases h;exact ⟨_,[],h1,.inl rfl,.inr ⟨rfl,e,by rw [List.append_nil]⟩⟩
    | bk _ _=>cases h
    | ct _ _=>cases h
  · cases h
structure DefAt (K:PySem.W.Frag) (mg:Str→Option Value) (x:Str) (st:Stmt):Prop where
  ex:∃ (a:Addr) (fd:FuncData),L2.Fun K x x st a fd∧mg x=some (.ref a)
noncomputable def BindOk (x:Str) (st:Stmt) (ps:List Str):Prop:=∀ (kV doc pm:Value) (an:Option Addr) (cdv ct:Value) (us:List Value),us.length=ps.length→bindArgs (PySem.W.fnOf x x (defArgs st) (defBody st) (defScope st) .none kV doc pm an cdv ct) ⟨us,[]⟩=pure (ps.zip us)
theorem def_ok {P:Program} {w:World} {K:PySem.W.Frag} {mg:Str→Option Value} {base:Heap} {k:Nat} {x:Str} {st:Stmt} {N ps:List Str} {m:MS}
    (F:DefAt K mg x st) (Sc:FnScope N ps (defScope st)) (hb:BindOk x st ps)
    (hbody:∀ (a:Addr) (cdv:Value) (A:Around) (outer:List PySem.Env) (s:Shared) (H:Hp) (E:XK),Room k (A.deeper (envOfC x (defScope st) s.heap.objs.size a cdv)) →
      DSs (cxOf CX0 P w K mg base N x (defScope st) a cdv A outer s H E).nox (defBody st) m) :
    Fn P w K mg base (k+1) x ps.length (runM N m ps.length):=by
  obtain ⟨a,fd,F,hmg⟩:=F.ex
  exact fn_mk F Sc hmg (F.binds hb) fun cdv A outer s H E hr=>⟨m,hbody a cdv A outer s H E hr,fun ds S d S' hn hS hd h=>runM_runs h⟩
theorem Fn.up {P:Program} {w:World} {K:PySem.W.Frag} {mg:Str→Option Value} {base:Heap} {k k':Nat} {x:Str} {n:Nat} {f:List D→Store→Option (D×Store)} (F:Fn P w K mg base k x n f) (h:k≤k'):Fn P w K mg base k' x n f:=by
  obtain ⟨a,fd,ps,h1,h2,h3⟩:=F.ex
  exact ⟨a,fd,ps,h1,h2.mono h,h3⟩
theorem law_sp {K:PySem.W.Frag} {f:List D→Store→Option (D×Store)} (h:∀ ns:List Int,ns.length≤63→∃ S',f [.rol (ns.map .int)] []=some (.bl true,S')) {H:Hp} {a:Addr} {ns:List Int} {E:XK} (hl:ns.length≤63) (hS:SqL K H a (ns.map V.int)) :
    spM K 1 f [.ref a] H (fun v _=>v=.bl true) E:=by
  obtain ⟨S',hf⟩:=h ns hl
  have hr:∀ l:List Int,Reps K ⟨[],[]⟩ H (l.map V.int) (l.map D.int):=fun l=>by
    induction l with
    | nil=>exact .nil
    | cons x l ih=>exact .cons (.int x) ih
  refine ⟨⟨[],[]⟩,[],_,_,S',⟨List.nodup_nil,rfl,fun r a c h=>by simp at h,fun a h=>by simp at h,fun a h=>by simp at h⟩,.cons ?_ .nil,rfl,hf,fun v H' μ' e s r=>r.bl_inv⟩
  rcases hS with hS | hS
  · exact .rol hS ⟨by simp,by simp⟩ (hr ns)
  · exact .krol hS (hr ns)
end M
namespace M
open PySem PySem.Spec PyProof.Rows L2
noncomputable def fNeg (_:Store) (x:D):Option D:=match x with | .int i=>some (.int (-i)) | _=>none
theorem un_NegF {X:Cx}:UnR X (unaryOp .USub) (rM1 X.K fNeg):=un_Neg
noncomputable def mTrue:MT:=fun _ S=>some (true,S)
theorem dts_nilT {X:Cx}:DTs X [] mTrue:=dts_nil
theorem law_of {P:Program} {w:World} {K:PySem.W.Frag} {mg:Str→Option Value} {k:Nat} {st:Stmt} {N:List Str} {m:MS} {fa:Addr} (F:DefAt K mg "law" st) (hfa:mg "law" = some (.ref fa)) (Sc:FnScope N ["_law_script"] (defScope st))
    (hbt:∀ (kV doc pm:Value) (an:Option Addr) (cdv ct v:Value),bindArgs (PySem.W.fnOf "law" "law" (defArgs st) (defBody st) (defScope st) .none kV doc pm an cdv ct) ⟨[v],[]⟩=pure [(("_law_script":Str),v)])
    (hbody:∀ (base:Heap) (a:Addr) (cdv:Value) (A:Around) (outer:List PySem.Env) (s:Shared) (H:Hp) (E:XK),Room k (A.deeper (envOfC "law" (defScope st) s.heap.objs.size a cdv)) →
      DSs (cxOf CX0 P w K mg base N "law" (defScope st) a cdv A outer s H E).nox (defBody st) m) :
    ∃ fd:FuncData,(∀ (s:Shared) (v:Value),BindsTo s fd ⟨[v],[]⟩ [("_law_script",v)])∧∀ base:Heap,K.In base→base.Ns mainGlobals mg→FnOk P w K mg base CX0 (k+1) fa fd ["_law_script"] (spM K 1 (runM N m 1)):=by
  obtain ⟨a,fd,F,hmg⟩:=F.ex
  rw [hfa] at hmg
  have e:fa=a:=by cases hmg;rfl
  subst e
  refine ⟨fd,fun s v=>?_,fun base _ _=>fn_ok F Sc fun cdv A outer s H E hr=>⟨m,hbody base fa cdv A outer s H E hr,fun ds S d S' hn hS hd h=>runM_runs h⟩⟩
  obtain ⟨oc,od,kV,doc,pm,an,cdv,ct,osl,rfl,lk,hcd⟩:=F.ex
  exact .of_eq (hbt kV doc pm an cdv ct v)
end M
namespace HT
open PySem PyProof.Rows
open AutoSeq1 (wpAny_loadPart')
theorem nf_tup_mul:fillsNumberSlot (.type "tuple") "mul" = pure false:=
  PySem.fillsNumberSlot_seq (id:="tuple.__mul__") (r:=some (.builtin "tuple.__rmul__"))
    F.slot_tuple_mul.lookup (by decide +kernel) F.slot_tuple_rmul.lookup (by decide +kernel)
theorem rp_tup:seqRepeat? (.type "tuple")=pure (some (.builtin "tuple.__mul__")):=by
  unfold seqRepeat?
  rw [PySem.seqSlot_of (T:="tuple") (name:="__mul__") (id:="tuple.__mul__") F.slot_tuple_mul.lookup (by decide +kernel)]
  rw [PySem.seqSlot_of (T:="tuple") (name:="__rmul__") (id:="tuple.__rmul__") F.slot_tuple_rmul.lookup (by decide +kernel)]
  rfl
theorem rmul_tup (a:Int) (t:Tok) (l:Addr) (items:Array Value) (n:Nat) (dd:Option Addr) (sl:Array (Option Value)) :
    Meets (Builtin.«int.__rmul__» ⟨[.int a t,.ref l],[]⟩) (fun _ R s=>s.heap.get? l=some ⟨.type "tuple",dd,.seq items n,sl⟩∧R (.ok (.ret Value.notImplemented)) s):=
  .of_wp fun prog w A R s h=>by
    obtain ⟨hp,g,d,tk,os⟩:=s
    obtain ⟨hl,h⟩:=h
    wp_walk
    exact ⟨_,rfl,h⟩
theorem mulT0 (l:Addr) (items:Array Value) (n:Nat) (k:Int) (t:Tok) (dd:Option Addr) (sl:Array (Option Value)) (h1:¬ (decide (k < -(2 ^ 63))||decide (k≥2 ^ 63))=true) (hc:(items.isEmpty||k == 1)=true) :
    Meets (Builtin.«tuple.__mul__» ⟨[.ref l,.int k t],[]⟩) (fun _ R s=>s.heap.get? l=some ⟨.type "tuple",dd,.seq items n,sl⟩∧R (.ok (.ret (.ref l))) s):=
  .of_wp fun prog w A R s h=>by
    obtain ⟨hp,g,d,tk,os⟩:=s
    obtain ⟨hl,h⟩:=h
    have f1:=AutoSeq1.idx_int
    have f2:=AutoSeq1.sub_tuple_tuple
    wp_walk using wpAny_loadPart' hl
    rw [if_neg h1]
    wp_walk using wpAny_loadPart' hl
    exact ⟨_,rfl,h⟩
theorem mulT1 (l:Addr) (items:Array Value) (n:Nat) (k:Int) (t:Tok) (dd:Option Addr) (sl:Array (Option Value)) (h1:¬ (decide (k < -(2 ^ 63))||decide (k≥2 ^ 63))=true) (hc:¬ (items.isEmpty||k == 1)=true) (hk:(decide (k≤0)||items.isEmpty)=true) :
    Meets (Builtin.«tuple.__mul__» ⟨[.ref l,.int k t],[]⟩) (fun _ R s=>s.heap.get? l=some ⟨.type "tuple",dd,.seq items n,sl⟩∧R (.ok (.ret (.ref s.heap.objs.size))) { s with heap:=s.heap.push { cls:=.type "tuple",data:=.seq #[] },toks:=s.toks }):=
  .of_wp fun prog w A R s h=>by
    obtain ⟨hp,g,d,tk,os⟩:=s
    obtain ⟨hl,h⟩:=h
    have f1:=AutoSeq1.idx_int
    have f2:=AutoSeq1.sub_tuple_tuple
    wp_walk using wpAny_loadPart' hl
    rw [if_neg h1]
    wp_walk using wpAny_loadPart' hl
    exact ⟨_,rfl,h⟩
theorem mulT2 (l:Addr) (items:Array Value) (n:Nat) (k:Int) (t:Tok) (dd:Option Addr) (sl:Array (Option Value)) (h1:¬ (decide (k < -(2 ^ 63))||decide (k≥2 ^ 63))=true) (hc:¬ (items.isEmpty||k == 1)=true) (hk:¬ (decide (k≤0)||items.isEmpty)=true)
    (hb:¬ ((items.size:Int) * k>(2 ^ 63 - 1) / 8)) (hm:¬ Builtin.Tuple.tupleTooMany ((items.size:Int) * k)=true) (hz:(List.foldl (fun x1 x2=>x1++x2) #[] (List.replicate k.toNat items)).size≤sizeLine) :
    Meets (Builtin.«tuple.__mul__» ⟨[.ref l,.int k t],[]⟩) (fun _ R s=>s.heap.get? l=some ⟨.type "tuple",dd,.seq items n,sl⟩∧R (.ok (.ret (.ref s.heap.objs.size))) { s with heap:=s.heap.push { cls:=.type "tuple",data:=.seq (List.foldl (fun x1 x2=>x1++x2) #[] (List.replicate k.toNat items)) },toks:=s.toks }):=
  .of_wp fun prog w A R s h=>by
    obtain ⟨hp,g,d,tk,os⟩:=s
    obtain ⟨hl,h⟩:=h
    have f1:=AutoSeq1.idx_int
    have f2:=AutoSeq1.sub_tuple_tuple
    wp_walk using wpAny_loadPart' hl
    rw [if_neg h1]
    wp_walk using wpAny_loadPart' hl
    rw [if_neg hb]
    wp_walk using wpAny_loadPart' hl
    exact ⟨_,rfl,h⟩
end HT
namespace L2
open PySem PySem.Spec PyProof.Rows
section
variable {X:Cx}
theorem vrep {xs:List V} {us:List Value} (h:Vals xs us):∀ k:Nat,Vals (List.replicate k xs).flatten (List.replicate k us).flatten
  | 0=>.nil
  | k+1=>by rw [List.replicate_succ,List.replicate_succ,List.flatten_cons,List.flatten_cons];exact h.append (vrep h k)
theorem frep (its:List Value):∀ (m:Nat) (acc:List Value),List.foldl (fun x1 x2=>x1++x2) acc.toArray (List.replicate m its.toArray)=(acc++(List.replicate m its).flatten).toArray
  | 0,acc=>by simp
  | m+1,acc=>by
    rw [List.replicate_succ,List.foldl_cons,List.append_toArray,frep its m (acc++its),List.replicate_succ,List.flatten_cons,List.append_assoc]
noncomputable def rRepT (K:PySem.W.Frag):R2:=fun x y H Q=>∃ a k xs,x=.ref a∧y=.int k∧SqT K H a xs∧-(2 ^ 62)≤k∧k<2 ^ 62∧xs.length * k.toNat≤sizeLine ∧
  ((xs=[]∨k=1)→Q (.ref a) H)∧((xs≠[]∧k≠1)→∀ p,H p=none→Q (.ref p) (upd H p (.tup (List.replicate k.toNat xs).flatten)))
theorem op_repT:OpR X (binaryOp .Mult) (rRepT X.K):=by
  intro pins s σ H x y v u Q I rx ry h
  obtain ⟨l,k,xs,rfl,rfl,hq,h1,h2,hz,q1,q2⟩:=h
  cases rx
  obtain ⟨t,rfl⟩:=ry
  obtain ⟨its,r,hT,hzz⟩:=I.tuple hq
  obtain ⟨⟨cls,dd,data,sl⟩,e,hc,n,hd⟩:=id hT
  simp only at hc hd
  subst hc hd
  have hlen:xs.length=its.length:=r.length
  have g1:¬ (decide (k < -(2 ^ 63))||decide (k≥2 ^ 63))=true:=by simp;omega
  have road:∀ {S:PySem.Spec},Meets (Builtin.«tuple.__mul__» ⟨[.ref l,.int k t],[]⟩) S→S X.A (wants (EP X pins σ Q) X.xe) s→wpAny (model X.prog X.w) X.A (binaryOp .Mult (.ref l) (.int k t)) (EP X pins σ Q) X.xe s:=fun M hS=>
    wpAny_binaryOp_repeat_ref (T:="tuple") (U:="int") (by decide) ⟨_,e,rfl⟩ (fun s'=>typeIs_int s' k t) HT.nf_tup_mul F.fills_int_mul F.slot_int_rmul HT.rp_tup F.slot_int_index.lookup
      (call_meets F.slot_int_rmul (typeIs_int s k t) F.entry_int_rmul (F.args_int_rmul_2 _ _) (HT.rmul_tup k t l its.toArray n dd sl)
        ⟨e,rfl,⟨_,e,rfl⟩,call_meets F.slot_tuple_mul ⟨_,e,rfl⟩ F.entry_tuple_mul (F.args_tuple_mul_2 _ _) M hS⟩)
  by_cases hs:xs=[]∨k=1
  · have hcc:(its.toArray.isEmpty||k == 1)=true:=by
      rcases hs with rfl | rfl
      · cases r;rfl
      · simp
    exact road (HT.mulT0 l its.toArray n k t dd sl g1 hcc) ⟨e,.ref l,H,I,rfl,q1 hs⟩
  · have hx:xs≠[]:=fun z=>hs (.inl z)
    have hk1:k≠1:=fun z=>hs (.inr z)
    have hi:its≠[]:=fun z=>by subst z;cases r;exact hx rfl
    have hcc:¬ (its.toArray.isEmpty||k == 1)=true:=by simp [hi,hk1]
    by_cases hk:k≤0
    · have hk':(decide (k≤0)||its.toArray.isEmpty)=true:=by simp [hk]
      have k0:k.toNat=0:=by omega
      refine road (HT.mulT1 l its.toArray n k t dd sl g1 hcc hk') ⟨e,.ref _,_,I.laid (o:=.tup []) (fun _ _ q=>Heap.get?_push_of_some _ q) (Nat.le_refl _) ⟨by simp,[],.nil,⟨_,Heap.get?_push_size _ rfl,rfl,⟨0,rfl⟩,rfl⟩⟩,rfl,?_⟩
      have:=q2 ⟨hx,hk1⟩ s.heap.objs.size I.fresh
      rw [k0] at this
      exact this
    · have hk':¬ (decide (k≤0)||its.toArray.isEmpty)=true:=by simp [hi];omega
      have km:(k.toNat:Int)=k:=by omega
      have hpr:((its.length:Int) * k)≤sizeLine:=by rw [← km,← hlen];exact_mod_cast hz
      have hsl:((sizeLine:Nat):Int)≤(2 ^ 63 - 1) / 8:=by decide
      have hf:=frep its k.toNat []
      rw [List.nil_append] at hf
      have hf':List.foldl (fun x1 x2=>x1++x2) #[] (List.replicate k.toNat its.toArray)=(List.replicate k.toNat its).flatten.toArray:=hf
      have hl2:(List.replicate k.toNat its).flatten.length≤sizeLine:=by rw [len_rep,← hlen,Nat.mul_comm];exact hz
      refine road (HT.mulT2 l its.toArray n k t dd sl g1 hcc hk' (by rw [List.size_toArray];omega) (by unfold Builtin.Tuple.tupleTooMany;rw [List.size_toArray];simp;omega) (by rw [hf',List.size_toArray];exact hl2)) ⟨e,?_⟩
      rw [hf']
      exact ⟨.ref _,_,I.laid (o:=.tup (List.replicate k.toNat xs).flatten) (fun _ _ q=>Heap.get?_push_of_some _ q) (Nat.le_refl _) ⟨by rw [len_rep,Nat.mul_comm];exact hz,(List.replicate k.toNat its).flatten,vrep r _,⟨_,Heap.get?_push_size _ rfl,rfl,⟨0,rfl⟩,rfl⟩⟩,rfl,q2 ⟨hx,hk1⟩ _ I.fresh⟩
end
end L2
namespace L2
open PySem PySem.Spec PyProof.Rows
section
variable {X:Cx}
noncomputable def insK (n:Nat) (i:Int):Nat:=if i<0 then (i+(n:Int)).toNat else min i.toNat n
noncomputable def insL {α:Type} (xs:List α) (i:Int) (y:α):List α:=xs.take (insK xs.length i)++y::xs.drop (insK xs.length i)
end
end L2
namespace M
open PySem PySem.Spec PyProof.Rows L2
section
variable {X:Cx} {K:PySem.W.Frag} {μ μ':Fp} {H H':Hp} {S:Store}
noncomputable def fMulX (S:Store) (x y:D):Option D:=match x,y with
  | .tup xs,.int k=>if -(2 ^ 62)≤k∧k<2 ^ 62∧xs.length * k.toNat≤sizeLine then some (.tup (List.replicate k.toNat xs).flatten) else none
  | .lst xs,.int k=>if -(2 ^ 62)≤k∧k<2 ^ 62∧xs.length * k.toNat≤sizeLine then some (.lst (List.replicate k.toNat xs).flatten) else none
  | x,y=>fMul S x y
theorem flat1 {α:Type} (xs:List α):(List.replicate 1 xs).flatten=xs:=by simp
theorem op_MulX:OpR X (binaryOp .Mult) (rM2 X.K fMulX):=OpR.imp (OpR.or op_Mul (OpR.or op_repT op_rep)) fun x y H Q ⟨μ,S,dx,dy,dz,hS,h1,h2,h3,post⟩=>by
  unfold fMulX at h3
  split at h3
  · rename_i xs k
    split at h3
    · rename_i hk
      cases h3
      obtain ⟨a,vs,rfl,q,r⟩:=h1.sqT
      have h1':=h1
      refine .inr (.inl ⟨a,k,vs,rfl,h2.int_inv,q,hk.1,hk.2.1,by rw [r.length];exact hk.2.2,fun hs=>?_,fun _ p hp=>post.tup hS hp (Reps.flat _ r)⟩)
      have e:(List.replicate k.toNat xs).flatten=xs:=by
        rcases hs with rfl | rfl
        · cases r;simp
        · exact flat1 xs
      rw [e] at post
      exact post.here hS h1'
    · cases h3
  · rename_i xs k
    split at h3
    · rename_i hk
      cases h3
      obtain ⟨a,vs,rfl,q,n,r⟩:=h1.sqL
      exact .inr (.inr ⟨a,k,vs,rfl,h2.int_inv,q,by omega,by omega,by rw [r.length];exact hk.2.2,fun p hp=>post.lst hS hp (Reps.flat _ r)⟩)
    · cases h3
  · exact .inl ⟨μ,S,dx,dy,dz,hS,h1,h2,h3,post⟩
noncomputable abbrev MF:=D→List D→Store→Option (D×Store)
inductive rMM (K:PySem.W.Frag) (f:MF) (x:V) (vs:List V) (H:Hp) (Q:VK):Prop
  | mk (μ:Fp) (S:Store) (dx:D) (ds:List D) (d:D) (S':Store) (hS:SOk K μ S H) (h1:Rep K μ H x dx) (h2:Reps K μ H vs ds) (h3:f dx ds S=some (d,S')) (post:Post K μ H S' d Q)
theorem MtR.imp {id:String} {r r':V→List V→Hp→VK→Prop} (h:MtR X id r) (i:∀ x xs H Q,r' x xs H Q→r x xs H Q):MtR X id r':=fun pins s σ H x xs v us Q I rx rv q=>h pins s σ H x xs v us Q I rx rv (i x xs H Q q)
noncomputable def fAppend:MF:=fun o ds S=>match o,ds with
  | .ref r,[y]=>match S[r]? with | some (.lst xs)=>if xs.length<sizeLine then some (.non,S.set r (.lst (xs++[y]))) else none | _=>none
  | _,_=>none
noncomputable def fInsert:MF:=fun o ds S=>match o,ds with
  | .ref r,[.int i,y]=>match S[r]? with | some (.lst xs)=>if xs.length<sizeLine∧-(2 ^ 62)≤i∧i<2 ^ 62 then some (.non,S.set r (.lst (insL xs i y))) else none | _=>none
  | _,_=>none
noncomputable def fCount:MF:=fun o ds S=>match ds with
  | [x]=>(seqD S o).bind fun ys=>if okD 40 x=true∧ys.all (okD 39)=true then some (.int (ys.countP fun d=>eqD d x),S) else none
  | _=>none
theorem mt_Append:MtR X "list.append" (rMM X.K fAppend):=MtR.imp mt_append fun x vs H Q ⟨μ,S,dx,ds,d,S',hS,r1,r2,h,post⟩=>by
  unfold fAppend at h
  split at h
  · rename_i r y
    obtain ⟨v,rfl,rv⟩:=r2.one
    cases q:S[r]? with
    | none=>rw [q] at h;cases h
    | some c=>
      rw [q] at h
      cases c with
      | dct _ _=>cases h
      | lst xs=>
        dsimp only at h
        split at h
        · rename_i hz
          cases h
          cases r1 with
          | @ref a _ h'=>
            obtain ⟨ws,hw,rw'⟩:=hS.cell r a _ h' q
            obtain ⟨e,s'⟩:=hS.write h' hw (rw'.append (.cons rv .nil))
            exact ⟨a,ws,v,rfl,rfl,hw,by rw [rw'.length];exact hz,post _ _ μ e s' .non⟩
        · cases h
  · cases h
theorem count_eqVal {pins:List (Addr×Obj)} {σ:L2.St} {s:Shared} (I:Inv X pins σ H s) {x:D}:∀ {vs:List V} {us:List Value} {ds:List D},Vals vs us→Reps X.K μ H vs ds→(∀ d∈ds,okD 39 d=true) →
    us.countP (eqVal X.K μ H x)=ds.countP fun d=>eqD d x
  | _,_,_,.nil,.nil,_=>rfl
  | _,_,_,.cons rv tv,.cons r t,ok=>by
    rw [List.countP_cons,List.countP_cons,eqVal_of I rv r (ok _ List.mem_cons_self),count_eqVal I tv t fun d m=>ok d (List.mem_cons_of_mem _ m)]
noncomputable def lstB (S:Store):D→Bool
  | .lst _=>true
  | .rol _=>true
  | .ref r=>match S[r]? with | some (.lst _)=>true | _=>false
  | _=>false
theorem lstB_seq {v:V} {d:D} (hS:SOk K μ S H) (r:Rep K μ H v d) (h:lstB S d=true):∃ a vs ds,v=.ref a∧SqL K H a vs∧seqD S d=some ds∧Reps K μ H vs ds:=by
  cases r with
  | lst h' n r=>exact ⟨_,_,_,rfl,.inl (.inl h'),rfl,r⟩
  | rol h' n r=>exact ⟨_,_,_,rfl,.inl h',rfl,r⟩
  | krol h' r=>exact ⟨_,_,_,rfl,.inr h',rfl,r⟩
  | @ref a i h'=>
    simp only [lstB] at h
    cases q:S[i]? with
    | none=>rw [q] at h;cases h
    | some c=>
      rw [q] at h
      cases c with
      | dct _ _=>cases h
      | lst xs=>
        obtain ⟨vs,e,r⟩:=hS.cell i a _ h' q
        exact ⟨a,vs,xs,rfl,.inl (.inl e),by simp only [seqD,q],r⟩
  | _=>cases h
noncomputable def fCountL:MF:=fun o ds S=>if lstB S o=true then fCount o ds S else none
theorem mt_Count (hu:X.A.units+64<cLine):MtR X "list.count" (rMM X.K fCountL):=by
  intro pins s σ H x vs v us Q I rx rv h
  obtain ⟨μ,S,dx,ds,d,S',hS,r1,r2,h,post⟩:=h
  unfold fCountL at h
  split at h
  · rename_i hl
    unfold fCount at h
    split at h
    · rename_i y
      obtain ⟨a,ws,es,rfl,hq,hse,re⟩:=lstB_seq hS r1 hl
      rw [hse] at h
      dsimp only [Option.bind_some] at h
      split at h
      · rename_i hk
        cases h
        cases rx
        obtain ⟨w,rfl,rw0⟩:=r2.one
        obtain ⟨u,rfl,ru⟩:=rv.one
        obtain ⟨its,rvs,⟨⟨cls,dd,data,sl⟩,n,e,hc,hdd,hd⟩,hz⟩:=I.list hq
        simp only at hc hdd hd
        subst hc hdd hd
        have ok:=List.all_eq_true.mp hk.2
        refine call_meets F.slot_list_count ⟨_,e,rfl⟩ F.entry_list_count (F.args_list_count_2 _ _) (SeqAt.list_countAt a its.toArray n none sl u (eqVal X.K μ H y)) ⟨e,fun w' hw'=>?_,?_⟩
        · exact mem_eqVal I (by show X.A.units+1+40<cLine;omega) ru rw0 hk.1 rvs re ok w' (by simpa using hw')
        · refine ⟨.int _,H,I.tok _,⟨_,rfl⟩,?_⟩
          rw [count_eqVal I rvs re ok]
          exact post.here hS (.int _)
      · cases h
    · cases h
  · cases h
noncomputable def mMeth (f:MF) (o:ME) (ms:MA):ME:=fun env S=>(o env S).bind fun p=>if lstB p.2 p.1=true then (ms env p.2).bind fun q=>f p.1 q.1 q.2 else none
theorem de_meth {o e:Expr} {es:List Expr} {mo:ME} {ms:MA} {f:MF} {name:Str} {id:String} {apos cpos:Pos} (slot:Slot "list" name id) (hty:typeOf (.builtin id)=pure (.type "method_descriptor")) (hm:MtR X id (rMM X.K f)) (ho:DE X o mo) (ha:DA X (e::es) ms)
    (hbase:attributeBase o name X.env (eval o X.env)=eval o X.env)
    (hfew:((backTo cpos (starEach (e::es) X.env)).all (fun x=>!x.1)&&(backToKw cpos (keywordEach [] X.env)).all (fun x=>x.1.isSome)&&decide ((e::es).length+([]:List Keyword).length+(if ([]:List Keyword).isEmpty then 0 else 1)<30))=true)
    (hline:(apos.endLine == cpos.line)=true) (hs:starEach (e::es) X.env=(false,eval e X.env)::starEach es X.env) (hpl:(backTo cpos (starEach es X.env)).any (·.1)=false) :
    DE X (.Call (.Attribute o name apos) (e::es) [] cpos) (mMeth f mo ms):=
  PE.imp (pe_bm F.plainAttrs_list slot hty hm ho ha hbase hfew hline hs hpl) fun σ H Q ⟨μ,S,env,d,S',hS,hE,h,post⟩=>by
    obtain ⟨⟨x,S1⟩,h1,h⟩:=Option.bind_eq_some_iff.mp h
    dsimp only at h
    split at h
    · rename_i hl
      obtain ⟨⟨xs,S2⟩,h2,h⟩:=Option.bind_eq_some_iff.mp h
      refine ⟨μ,S,env,x,S1,hS,hE,h1,fun v H1 μ1 e1 s1 r1=>⟨?_,μ1,S1,env,xs,S2,s1,hE.mono e1,h2,fun vs H2 μ2 e2 s2 r2=>⟨μ2,S2,x,xs,d,S',s2,r1.mono e2,r2,h,(post.ext e1).ext e2⟩⟩⟩
      obtain ⟨a,ws,es,rfl,hq,_,_⟩:=lstB_seq s1 r1 hl
      exact .inl ⟨rfl,ws,hq⟩
    · cases h
end
end M
namespace HT
open PySem PyProof.Rows
open AutoSeq1 (wpAny_loadPart')
section
variable {prog:Program} {w:World} {A:Around} {E:Value→Shared→Prop} {s:Shared}
theorem drawT_item {it t:Addr} {i:Nat} {items:Array Value} {x:Value} {Q:Value→Shared→Prop} (hit:s.heap.IsTupleIter it t i) (ht:s.heap.IsTuple t items) (hx:items[i]?=some x)
    (hQ:∀ h',h'.IsTupleIter it t (i+1)→Heap.SameBut it s.heap h'→Q x { s with heap:=h' }):wpAny (model prog w) A (Builtin.SmallTypes.nextOf (.ref it)) Q E s:=by
  obtain ⟨o,ho,hc,hd⟩:=id hit;obtain ⟨ol,hol,_,nl,hdl⟩:=ht
  unfold Builtin.SmallTypes.nextOf
  refine wpAny_bind (wpAny_callSpecial?_slot (name:=Str.ofString "__next__") hit.typeIs F.slot_tuple_iterator_next (wpAny_call_entry F.slot_tuple_iterator_next hit.typeIs F.entry_tuple_iterator_next ?_ (F.args_tuple_iterator_next_1 _)))
  show wpAny _ _ (field (.ref it) 0 >>= _) _ _ s;refine wpAny_bind (wpAny_field ho hd (x:=.ref t) rfl ?_)
  show wpAny _ _ (if (Value.ref t == Value.none)=true then _ else _) _ _ s;rw [if_neg (show ¬ ((Value.ref t == Value.none)=true) from Bool.false_ne_true)]
  show wpAny _ _ (field (.ref it) 1 >>= _) _ _ s;refine wpAny_bind (wpAny_field ho hd (x:=.int i 0) rfl ?_)
  show wpAny _ _ (seqItems? (.ref t) >>= _) _ _ s;refine wpAny_bind (wpAny_seqItems hol hdl ?_);simp only [Int.toNat_natCast,hx]
  refine wpAny_bind (wpAny_setField ho hd (by simp) (wpAny_pure ⟨x,rfl,wpAny_pure (hQ _ ⟨_,Heap.get?_update_self _ ho (Obj.isFreed_of_fields (Obj.data_mapFields hd _)),(Obj.cls_mapFields ..).trans hc,?_⟩ (Heap.SameBut.update ..))⟩))
  rw [Obj.data_mapFields hd];simp [rawInt]
theorem drawT_end {it t:Addr} {i:Nat} {items:Array Value} {Q:Value→Shared→Prop} (hh:A.handled=none) (hit:s.heap.IsTupleIter it t i) (ht:s.heap.IsTuple t items) (hx:items[i]?=none)
    (hE:∀ h' e,Heap.ExtBut it s.heap h'→(∃ o,h'.get? e=some o∧o.cls=.type "StopIteration")→E (.ref e) { s with heap:=h' }):wpAny (model prog w) A (Builtin.SmallTypes.nextOf (.ref it)) Q E s:=by
  obtain ⟨o,ho,hc,hd⟩:=id hit;obtain ⟨ol,hol,_,nl,hdl⟩:=ht
  unfold Builtin.SmallTypes.nextOf
  refine wpAny_bind (wpAny_callSpecial?_slot (name:=Str.ofString "__next__") hit.typeIs F.slot_tuple_iterator_next (wpAny_call_entry F.slot_tuple_iterator_next hit.typeIs F.entry_tuple_iterator_next ?_ (F.args_tuple_iterator_next_1 _)))
  show wpAny _ _ (field (.ref it) 0 >>= _) _ _ s;refine wpAny_bind (wpAny_field ho hd (x:=.ref t) rfl ?_)
  show wpAny _ _ (if (Value.ref t == Value.none)=true then _ else _) _ _ s;rw [if_neg (show ¬ ((Value.ref t == Value.none)=true) from Bool.false_ne_true)]
  show wpAny _ _ (field (.ref it) 1 >>= _) _ _ s;refine wpAny_bind (wpAny_field ho hd (x:=.int i 0) rfl ?_)
  show wpAny _ _ (seqItems? (.ref t) >>= _) _ _ s;refine wpAny_bind (wpAny_seqItems hol hdl ?_);simp only [Int.toNat_natCast,hx]
  refine wpAny_bind (wpAny_rule (wpAny_bind (wpAny_setField ho hd (by simp) ?_)));show wpAny _ _ (newExc (.type "StopIteration") [] >>= _) _ _ _
  refine wpAny_bind ?_;simp only [newExc,newTuple];refine wpAny_bind (wpAny_newObj_type ?_ (by size_fits))
  refine wpAny_bind (m:=firstArgMember _ _) (wpAny_of_eq (a:=Value.none) (by first | rfl | (simp only [firstArgMember];rfl)) (wpAny_newObj_type ?_ (by size_fits)))
  simp only [raiseNew];refine wpAny_bind (wpAny_handled ?_);(first | rw [show A.in1.handled=none from hh] | rw [hh])
  refine wpAny_bind (wpAny_pure (wpAny_throw (hE _ _ (((Heap.SameBut.update ..).extBut.push _).push _) ⟨_,Heap.get?_push_size _ rfl,rfl⟩)))
end
theorem drawsT {prog:Program} {w:World} {A:Around} (hh:A.handled=none) (it t:Addr) (hne:t≠it) (items:Array Value) :
    Draws prog w A it [it,t] items.size (fun i v=>items[i]?=some v) (fun i h=>h.IsTupleIter it t i∧h.IsTuple t items) where
  live:=fun _ _ st=>by obtain ⟨o,ho,_⟩:=st.1;exact ⟨o,ho⟩
  frame:=fun _ _ _ st hk=>by
    obtain ⟨⟨o,ho,r⟩,⟨o2,ho2,r2⟩⟩:=st
    exact ⟨⟨o,hk it (by simp) o ho,r⟩,⟨o2,hk t (by simp) o2 ho2,r2⟩⟩
  item:=fun i s Q E hi st hQ=>drawT_item st.1 st.2 (x:=items[i]) (by simp [hi]) fun h' hit' hs'=>hQ _ h' s.toks (by simp [hi]) ⟨hit',st.2.extBut hs'.extBut hne⟩ hs'
  done:=fun s Q E st hE=>drawT_end hh st.1 st.2 (by simp) hE
theorem enumT_new (l:Addr) (items:Array Value) (n:Nat) (dct:Option Addr) (sl:Array (Option Value)) :
    Meets (Builtin.«enumerate.__new__» ⟨[.type "enumerate",.ref l],[]⟩) (fun _ R s=>s.heap.get? l=some ⟨.type "tuple",dct,.seq items n,sl⟩ ∧
      R (.ok (.ret (.ref (s.heap.push { cls:=.type "tuple_iterator",data:=.fields #[.ref l,.int 0 0] }).objs.size)))
        { s with heap:=(s.heap.push { cls:=.type "tuple_iterator",data:=.fields #[.ref l,.int 0 0] }).push { cls:=.type "enumerate",data:=.fields #[.none,.bool false,.ref s.heap.objs.size,rawInt 0,.none,.none] } }):=
  .of_wp fun prog w A R s h=>by
    obtain ⟨hp,g,d,tk,os⟩:=s
    obtain ⟨hl,h⟩:=h
    have hsub:=sub_enumerate
    have hL:Heap.IsTuple (Shared.heap ⟨hp,g,d,tk,os⟩) l items:=⟨_,hl,rfl,n,rfl⟩
    wp_walk using wpAny_loadPart' hl
    refine wpAny_stack_any fun st=>wpAny_pure ?_
    split
    · rename_i c _ _ _ _ _
      cases (c == Value.type "enumerate") <;> (wp_walk using wpAny_loadPart' hl,wpAny_pyIter_tuple hL;exact ⟨_,rfl,h⟩)
    · wp_walk using wpAny_loadPart' hl,wpAny_pyIter_tuple hL
      exact ⟨_,rfl,h⟩
end HT
namespace HT
open PySem PyProof.Rows
section
variable {prog:Program} {w:World} {A:Around} {E:Value→Shared→Prop} {s:Shared}
theorem call_enumT {l:Addr} {items:Array Value} {Q:Value→Shared→Prop} (hL:s.heap.IsTuple l items)
    (h:∀ h':Heap,IsEnum h' (s.heap.objs.size+1) s.heap.objs.size 0 .none→h'.IsTupleIter s.heap.objs.size l 0→h'.objs.size=s.heap.objs.size+2→(∀ b o,s.heap.get? b=some o→h'.get? b=some o)→Q (.ref (s.heap.objs.size+1)) { s with heap:=h' }) :
    wpAny (model prog w) A (call (.type "enumerate") [.ref l]) Q E s:=by
  obtain ⟨⟨c,dct,dt,sl⟩,hl,hc,n,hd⟩:=hL
  simp only at hc hd
  subst hc hd
  refine callType_new F.called_enumerate (by decide) (F.typeCall_enumerate_1 _) (F.newCall_enumerate_1 _) (fun obj=>F.args_object_init_2 obj _) F.entry_enumerate_new (enumT_new l items n dct sl) ⟨hl,?_⟩
  have hz:(s.heap.push { cls:=.type "tuple_iterator",data:=.fields #[.ref l,.int 0 0] }).objs.size=s.heap.objs.size+1:=Heap.size_push ..
  show _∧_
  rw [hz]
  have he:IsEnum ((s.heap.push { cls:=.type "tuple_iterator",data:=.fields #[.ref l,.int 0 0] }).push { cls:=.type "enumerate",data:=.fields #[.none,.bool false,.ref s.heap.objs.size,rawInt 0,.none,.none] }) (s.heap.objs.size+1) s.heap.objs.size 0 .none:=by
    have q:=Heap.get?_push_size (s.heap.push { cls:=.type "tuple_iterator",data:=.fields #[.ref l,.int 0 0] }) (o:={ cls:=.type "enumerate",data:=.fields #[.none,.bool false,.ref s.heap.objs.size,rawInt 0,.none,.none] }) rfl
    rw [hz] at q
    exact q
  exact ⟨⟨_,he,rfl⟩,h _ he ⟨_,Heap.get?_push_of_some _ (Heap.get?_push_size _ rfl),rfl,rfl⟩ (by rw [Heap.size_push,hz]) fun b o x=>Heap.get?_push_of_some _ (Heap.get?_push_of_some _ x)⟩
end
end HT
namespace L2
open PySem PySem.Spec PyProof.Rows
section
variable {X:Cx} {pins:List (Addr×Obj)} {σ:St} {H:Hp} {s:Shared} {h':Heap}
theorem Inv.turnLaid {fp:List Addr} {a:Addr} {o:HO} {t':Nat} (I:Inv X pins σ H s) (k:∀ b o,b ∉ fp→s.heap.get? b=some o→h'.get? b=some o) (hf:∀ b∈fp,FpOk X pins H b) (hp:s.heap.objs.size≤a)
    (new:ObjOk X.prog X.w (upd H a o) h' a o):Inv X pins σ (upd H a o) { s with heap:=h',toks:=t' }:=by
  have hn:H a=none:=I.hok.fresh hp
  have st:∀ b u,H b=some u→upd H a o b=some u:=fun b u e=>(upd_ne (ne_of_none e hn)).trans e
  have nfp:∀ b u,H b=some u→b ∉ fp:=fun b u e z=>by rw [(hf b z).1] at e;cases e
  refine I.step (g':=s.gens) (d':=s.drawn) (ch:=fp) (fun b hb=>?_) (fun b o _ _ hc e _=>k b o hc e) (fun b o _ _ hc e _=>⟨o.slots,k b o hc e⟩) (fun b u _ e n=>?_) (fun b o hc e=>⟨o,k b o hc e⟩) (fun b xs e=>st b _ e) (fun b o u e=>st b _ e) (fun b ps e=>⟨#[],by rw [st b _ e];simp⟩) (fun m hm=>?_) (fun b u e=>?_) I.bare
  · obtain ⟨f0,f1,f2,f3,f4,f5⟩:=hf b hb
    exact ⟨f3,f1,f4,f5⟩
  · rw [upd_ne (Nat.ne_of_lt (Nat.lt_of_lt_of_le (Heap.lt_size e) hp))];exact n
  · obtain ⟨o',es,ep,ho,r⟩:=hm
    exact ⟨o',es,ep,k _ o' (fun z=>(hf _ z).2.1 rfl) ho,r⟩
  · by_cases hb:b=a
    · subst hb
      rw [upd_same] at e
      cases e
      exact new
    · rw [upd_ne hb] at e
      refine (I.hok b u e).stay (fun c v hc q=>k c v ?_ q) (fun _ q=>st _ _ q) fun _ _ q=>st _ _ q
      rcases hc with z | z
      · rw [z];exact nfp b u e
      · exact nfp c _ z
theorem Inv.turnedL {fp:List Addr} {t':Nat} (I:Inv X pins σ H s) (k:∀ b o,b ∉ fp→s.heap.get? b=some o→h'.get? b=some o) (hf:∀ b∈fp,FpOk X pins H b):Inv X pins σ H { s with heap:=h',toks:=t' }:=by
  have nfp:∀ b u,H b=some u→b ∉ fp:=fun b u e z=>by rw [(hf b z).1] at e;cases e
  refine I.step (g':=s.gens) (d':=s.drawn) (ch:=fp) (fun b hb=>?_) (fun b o _ _ hc e _=>k b o hc e) (fun b o _ _ hc e _=>⟨o.slots,k b o hc e⟩) (fun b u _ e n=>n) (fun b o hc e=>⟨o,k b o hc e⟩) (fun b xs e=>e) (fun b o u e=>e) (fun b ps e=>⟨#[],by rw [e];simp⟩) (fun m hm=>?_) (fun b u e=>?_) I.bare
  · obtain ⟨f0,f1,f2,f3,f4,f5⟩:=hf b hb
    exact ⟨f3,f1,f4,f5⟩
  · obtain ⟨o',es,ep,ho,r⟩:=hm
    exact ⟨o',es,ep,k _ o' (fun z=>(hf _ z).2.1 rfl) ho,r⟩
  · refine (I.hok b u e).stay (fun c v hc q=>k c v ?_ q) (fun _ q=>q) fun _ _ q=>q
    rcases hc with z | z
    · rw [z];exact nfp b u e
    · exact nfp c _ z
noncomputable def Ite (K:PySem.W.Frag) (a:Addr):It:=
  ⟨fun i H=>∃ xs x,SqT K H a xs∧xs[i]?=some x,fun i H x H'=>∃ p v,x=.ref p∧H p=none∧H'=upd H p (.tup [.int (i:Nat),v])∧∀ xs,SqT K H a xs→xs[i]?=some v,fun i H=>∃ xs,SqT K H a xs∧xs.length≤i⟩
theorem turn_enum {P:Program} {w:World} {K:PySem.W.Frag} {es:List Expr} {k:Nat} {pos:Pos} (a e it:Addr) (hei:e≠it):Turn P w K (.Tuple es k pos) (Ite K a) [e,it] e (fun i h=>(∃ old,IsEnum h e it i old)∧h.IsTupleIter it a i) where
  mem:=by simp
  obj:=fun i h st b hb=>by
    obtain ⟨⟨old,he⟩,⟨o,ho,hc,hd⟩⟩:=st
    simp only [List.mem_cons,List.not_mem_nil,or_false] at hb
    rcases hb with rfl | rfl
    · exact ⟨_,he,fun v z=>by cases z⟩
    · exact ⟨o,ho,fun v z=>by rw [hd] at z;cases z⟩
  keep:=fun i h h' st kk=>by
    obtain ⟨⟨old,he⟩,⟨o,ho,r⟩⟩:=st
    exact ⟨⟨old,kk e (by simp) _ he⟩,⟨o,kk it (by simp) _ ho,r⟩⟩
  item:=by
    intro X hP hw hK hc i pins s σ H E I hf st hg
    subst hP hw hK
    obtain ⟨xs,x,hq,hx⟩:=hg
    obtain ⟨its,rv,p,hz⟩:=I.tuple hq
    have hT:s.heap.IsTuple a its.toArray:=p
    have hh:=I.ok.hd hc
    have ne1:a≠e:=fun z=>by
      obtain ⟨⟨old,he⟩,_⟩:=st
      obtain ⟨o,ho,hcl,_⟩:=hT
      rw [z,he] at ho;cases ho;exact absurd (show Value.type "enumerate" = Value.type "tuple" from hcl) (by decide)
    have ne2:a≠it:=fun z=>by
      obtain ⟨_,⟨o',ho',hc',_⟩⟩:=st
      obtain ⟨o,ho,hcl,_⟩:=hT
      rw [z,ho'] at ho;cases ho;rw [hc'] at hcl;exact absurd hcl (by decide)
    have W:=WalksT.enumerateD (HT.drawsT (prog:=X.prog) (w:=X.w) (A:=X.A.in1) hh it a ne2 its.toArray) e hei (by simp;exact ⟨hei,fun z=>ne1 z.symm⟩) (by simp)
    have hi:i<its.toArray.size:=by rw [List.size_toArray,← rv.length];exact (List.getElem?_eq_some_iff.mp hx).1
    obtain ⟨⟨old,he⟩,hit⟩:=st
    have Te:s.heap.objs.size≠e:=Nat.ne_of_gt (Heap.lt_size he)
    have Ti:s.heap.objs.size≠it:=by
      obtain ⟨o,ho,_⟩:=hit
      exact Nat.ne_of_gt (Heap.lt_size ho)
    refine wpAny_pyNext_enum_itemD (HT.drawsT (prog:=X.prog) (w:=X.w) (A:=X.A.in1) hh it a ne2 its.toArray) he ⟨hit,hT⟩ hi hei (by simp;exact ⟨hei,fun z=>ne1 z.symm⟩) fun y h1 tk hy ho st1 hT1 hsz kk=>⟨_,rfl,?_⟩
    refine W.go es k pos i s.heap.objs.size _ _ _ ⟨⟨y,ho⟩,st1,Te,Ti⟩ fun h2 st2 kk2=>?_
    generalize hTT:s.heap.objs.size=T at *
    obtain ⟨u,hu,ru⟩:=rv.get hx
    have ey:y=u:=by
      rw [show its.toArray[i]?=its[i]? by simp,hu] at hy
      exact (Option.some.inj hy).symm
    subst ey
    have apT:T ∉ [e,it]:=by simp;exact ⟨Te,Ti⟩
    have kall:∀ b o,b ∉ [e,it]→s.heap.get? b=some o→h2.get? b=some o:=fun b o hb q=>kk2 b o hb (kk b o (fun z=>hb (by simp [z])) (fun z=>hb (by simp [z])) q)
    have hT2:IsTupN h2 T #[.int i tk,y]:=⟨_,kk2 T _ apT hT1,rfl,⟨_,rfl⟩,rfl⟩
    have hTs:s.heap.objs.size≤T:=Nat.le_of_eq hTT
    refine ⟨.ref T,upd H T (.tup [.int (i:Nat),x]),I.turnLaid kall hf hTs ⟨by show 2≤sizeLine;decide,[.int i tk,y],.cons ⟨_,rfl⟩ (.cons ru .nil),hT2⟩,rfl,⟨T,x,rfl,I.hok.fresh hTs,rfl,fun ys hy=>by rw [I.tuple_inj hy hq];exact hx⟩,⟨st2.1,st2.2.1⟩,fun b hb=>?_⟩
    have nb:b≠T:=fun z=>apT (by rw [← z];exact hb)
    rw [upd_ne nb]
    exact (hf b hb).1
  done:=by
    intro X hP hw hK hc i pins s σ H E I hf st hg
    subst hP hw hK
    obtain ⟨xs,hq,hx⟩:=hg
    obtain ⟨its,rv,p,hz⟩:=I.tuple hq
    have hT:s.heap.IsTuple a its.toArray:=p
    have hh:=I.ok.hd hc
    have ne1:a≠e:=fun z=>by
      obtain ⟨⟨old,he⟩,_⟩:=st
      obtain ⟨o,ho,hcl,_⟩:=hT
      rw [z,he] at ho;cases ho;exact absurd (show Value.type "enumerate" = Value.type "tuple" from hcl) (by decide)
    have D':Draws X.prog X.w X.A.in1 it [it,a] i (fun _ _=>True) (fun j h=>j=i∧h.IsTupleIter it a i∧h.IsTuple a its.toArray):=
      { live:=fun _ _ q=>by obtain ⟨_,⟨o,ho,_⟩,_⟩:=q;exact ⟨o,ho⟩
        frame:=fun _ _ _ q hk=>by
          obtain ⟨q0,⟨o,ho,r⟩,⟨o2,ho2,r2⟩⟩:=q
          exact ⟨q0,⟨o,hk it (by simp) o ho,r⟩,⟨o2,hk a (by simp) o2 ho2,r2⟩⟩
        item:=fun j _ _ _ hj q _=>absurd q.1 (Nat.ne_of_lt hj)
        done:=fun s Q E q hE=>HT.drawT_end hh q.2.1 q.2.2 (by simp;have:=rv.length;omega) hE }
    have W:=WalksT.enumerateD D' e hei (by simp;exact ⟨hei,fun z=>ne1 z.symm⟩) (by simp)
    refine W.done s _ _ ⟨st.1,rfl,st.2,hT⟩ fun h2 tk kk=>⟨rfl,I.turnedL kk hf⟩
  self:=fun A i s Q E st h=>by
    obtain ⟨⟨old,he⟩,_⟩:=st
    exact wpAny_pyIter_enum he h
noncomputable def iEnum (K:PySem.W.Frag) (t:TA):TI:=fun σ H R=>t σ H fun xs H1=>∃ a,xs=[.ref a]∧(∃ ys,SqT K H1 a ys)∧R (Ite K a) H1
end
end L2
namespace L2
open PySem PySem.Spec PyProof.Rows
section
variable {X:Cx}
theorem pi_enum {a:Expr} {ta:TA} {es:List Expr} {k:Nat} {tp p pos:Pos} (hg:Gl X "enumerate") (hm:X.mg "enumerate" = none) (ha:PA X [a] ta) (hs:starEach [a] X.env=[(false,eval a X.env)]) :
    PI X (.Tuple es k tp) (.Call (.Name "enumerate" p) [a] [] pos) (iEnum X.K ta):=by
  intro pins s σ H R I h
  refine Call_ (ld_blt I hg hm boot_enumerate (PyProof.Rows.callWith_type1 (thn (ha pos pins s σ H _ I h) fun us s1 ⟨vs,H1,I1,r1,q1⟩=>?_) hs rfl))
  obtain ⟨t,rfl,⟨ys,hq⟩,q⟩:=q1
  obtain ⟨u,rfl,ru⟩:=r1.one
  cases ru
  obtain ⟨its,rv,pt,hz⟩:=I1.tuple hq
  refine HT.call_enumT pt fun h' he hi hsz kk=>wpAny_pyIter_enum he ?_
  refine ⟨s1.heap.objs.size+1,[s1.heap.objs.size+1,s1.heap.objs.size],_,_,H1,rfl,I1.kept (t':=s1.toks) kk,turn_enum t _ _ (Nat.succ_ne_self _),⟨⟨_,he⟩,hi⟩,fun b hb=>?_,q⟩
  simp only [List.mem_cons,List.not_mem_nil,or_false] at hb
  rcases hb with rfl | rfl
  · exact I1.fpOk (Nat.le_succ _) (I1.hok.fresh (Nat.le_succ _))
  · exact I1.fpOk (Nat.le_refl _) (I1.hok.fresh (Nat.le_refl _))
end
end L2
namespace M
open PySem PySem.Spec PyProof.Rows L2
section
variable {X:Cx} {K:PySem.W.Frag} {μ μ':Fp} {H H':Hp} {S:Store}
noncomputable def enumD:Nat→List D→List D
  | _,[]=>[]
  | i,x::r=>.tup [.int (i:Nat),x]::enumD (i+1) r
theorem enumD_len:∀ (i:Nat) (xs:List D),(enumD i xs).length=xs.length
  | _,[]=>rfl
  | i,_::r=>by rw [enumD,List.length_cons,List.length_cons,enumD_len (i+1) r]
theorem enumD_get:∀ (k:Nat) (xs:List D) (i:Nat) (d:D),(enumD k xs)[i]?=some d→∃ x,xs[i]?=some x∧d=.tup [.int ((k+i:Nat):Int),x]
  | _,[],i,d,h=>by simp [enumD] at h
  | k,x::r,0,d,h=>by simp [enumD] at h;exact ⟨x,rfl,h.symm⟩
  | k,x::r,i+1,d,h=>by
    rw [enumD,List.getElem?_cons_succ] at h
    obtain ⟨y,h1,h2⟩:=enumD_get (k+1) r i d h
    refine ⟨y,by simpa using h1,?_⟩
    rw [h2,show k+1+i=k+(i+1) by omega]
theorem itOk_enum {a:Addr} {xs:List D} (r:Rep K μ H (.ref a) (.tup xs)):ItOk K μ H (Ite K a) (enumD 0 xs):=fun μ' H' S' e s i=>by
  have r':=r.monoP e
  obtain ⟨b,vs,hb,hq,rs⟩:=r'.sqT
  cases hb
  refine ⟨fun d hd=>?_,fun hl=>⟨vs,hq,by rw [rs.length];rw [enumD_len] at hl;exact hl⟩⟩
  obtain ⟨x,hx,rfl⟩:=enumD_get 0 xs i d hd
  obtain ⟨v,hv,rv⟩:=rs.get hx
  refine ⟨⟨vs,v,hq,hv⟩,fun y H2 hy=>?_⟩
  obtain ⟨p,w,rfl,hp,rfl,hw⟩:=hy
  have ew:w=v:=by have:=hw vs hq;rw [hv] at this;exact (Option.some.inj this).symm
  subst ew
  obtain ⟨e2,s2⟩:=s.laid (o:=.tup [.int (i:Nat),w]) hp
  refine ⟨e2,s2,?_⟩
  rw [Nat.zero_add]
  exact .tup upd_same (s.notMem hp) (.cons (.int _) (.cons (rv.mono e2) .nil))
noncomputable def mEnum (ms:MA):MA:=fun env S=>(ms env S).bind fun p=>match p.1 with | [.tup xs]=>some (enumD 0 xs,p.2) | _=>none
theorem di_enum {a:Expr} {ms:MA} {es:List Expr} {k:Nat} {tp p pos:Pos} (hm:X.mg "enumerate" = none) (ha:DA X [a] ms) (hg:Gl X "enumerate") (hs:starEach [a] X.env=[(false,eval a X.env)]) :
    DI X (.Tuple es k tp) (.Call (.Name "enumerate" p) [a] [] pos) (mEnum ms):=PI.imp (pi_enum hg hm ha hs) fun σ H R ⟨μ,S,env,xs,S',hS,hE,h,post⟩=>by
  obtain ⟨⟨ds,S1⟩,h1,h⟩:=Option.bind_eq_some_iff.mp h
  refine ⟨μ,S,env,ds,S1,hS,hE,h1,fun vs H1 μ1 e1 s1 r1=>?_⟩
  dsimp only at h
  split at h
  · rename_i ys
    cases h
    obtain ⟨v,rfl,rv⟩:=r1.one
    have rv':=rv
    obtain ⟨b,ws,rfl,hq,rs⟩:=rv.sqT
    exact ⟨b,rfl,⟨ws,hq⟩,post _ H1 μ1 e1 s1 (itOk_enum rv')⟩
  · cases h
end
end M
namespace HT
open PySem PyProof.Rows
section
variable {prog:Program} {w:World} {A:Around} {E:Value→Shared→Prop} {s:Shared}
end
end HT
namespace L2
open PySem PySem.Spec PyProof.Rows
section
variable {X:Cx} {e st:Expr} {te:TE} {ts:TO} {pos p2:Pos}
end
end L2
namespace M
open PySem PySem.Spec PyProof.Rows L2
section
variable {X:Cx} {K:PySem.W.Frag} {μ:Fp} {H:Hp} {S:Store}
noncomputable def mRev (a:ME) (st:MO):ME:=fun env S=>(a env S).bind fun p=>(st env p.2).bind fun k=>match p.1,k.1 with
  | .tup xs,some j=>if j = -1 then some (.tup xs.reverse,k.2) else none
  | _,_=>none
end
end M
namespace L2
open PySem PySem.Spec PyProof.Rows
section
variable {X:Cx}
theorem ints_vals:∀ {ns:List Int} {us:List Value},Vals (ns.map V.int) us→IntsAre us ns
  | [],_,.nil=>.nil
  | n::ns,_,.cons ⟨t,e⟩ r=>by subst e;exact .cons n t (ints_vals r)
theorem vals_int:∀ {us:List Value} {ns:List Int},IntsAre us ns→Vals (ns.map V.int) us
  | _,_,.nil=>.nil
  | _,_,.cons n t r=>.cons ⟨t,rfl⟩ (vals_int r)
theorem call_sorted:CallR X (.builtin "sorted") (fun xs H Q=>∃ p ns,xs=[.ref p]∧SqL X.K H p (ns.map V.int)∧ns.length<64∧∀ ns':List Int,ns'.Perm ns→ns'.Pairwise (·≤·)→∀ q,H q=none→Q (.ref q) (upd H q (.lst (ns'.map V.int)))):=by
  intro pins s σ H xs us Q I r h
  obtain ⟨p,ns,rfl,hq,h64,q⟩:=h
  obtain ⟨u,rfl,rx⟩:=vals1 r
  cases rx
  obtain ⟨its,rv,pl,hz⟩:=I.list hq
  have hl:=rv.length
  rw [List.length_map] at hl
  refine sorted_ints pl.isList (ints_vals rv) (by omega) fun out ns' hi hp hs=>?_
  obtain ⟨e,he⟩:=sortedAll_at s.heap its out
  have hlen:=hp.length_eq
  have r':=vals_int hi
  have hf:H (s.heap.objs.size+1)=none:=I.hok.fresh (Nat.le_succ _)
  exact ⟨.ref _,_,I.laid (t':=s.toks) (o:=.lst (ns'.map V.int)) (fun _ _ q=>sortedAll_old q) (Nat.le_succ _) ⟨by rw [List.length_map,hlen];exact Nat.le_trans (Nat.le_of_lt h64) (by decide),out.toList,e,r',he⟩,rfl,q ns' hp hs _ hf⟩
noncomputable def dedN (ns:List Int):Nat:=(firstMet (fun i=>ns.getD i 0) ns.length).length
theorem call_setL:CallR X (.type "set") (fun xs H Q=>X.calm=true∧∃ p ns,xs=[.ref p]∧SqL X.K H p (ns.map V.int)∧ns.length<64∧∀ S q,H q=none→Q (.ref q) (upd H q (.set S (dedN ns)))):=by
  intro pins s σ H xs us Q I r h
  obtain ⟨hc,p,ns,rfl,hq,h64,q⟩:=h
  obtain ⟨u,rfl,rx⟩:=vals1 r
  cases rx
  obtain ⟨its,rv,pl,hz⟩:=I.list hq
  have hl:=rv.length
  rw [List.length_map] at hl
  refine call_set_list (I.ok.hd hc) pl.isList (by simpa using ints_vals rv) (Nat.lt_of_le_of_lt (show its.toArray.size+1≤100 by rw [List.size_toArray];omega) (by decide)) fun h' tk hS kk=>?_
  have ek:its.toArray.size=ns.length:=by rw [List.size_toArray];exact hl.symm
  rw [ek] at hS
  exact ⟨.ref _,_,I.laid (t':=tk) (o:=.set _ (dedN ns)) (fun b o q=>kk b o (Heap.lt_size q) q) (Nat.le_refl _) hS,rfl,q _ _ I.fresh⟩
theorem call_lenS:CallR X (.builtin "len") (fun xs H Q=>∃ p S n,xs=[.ref p]∧H p=some (.set S n)∧n<1000∧Q (.int (n:Nat)) H):=by
  intro pins s σ H xs us Q I r h
  obtain ⟨p,S,n,rfl,hH,hn,q⟩:=h
  obtain ⟨u,rfl,rx⟩:=vals1 r
  cases rx
  obtain ⟨o,es,ep,t,e,hx,hd,_,_,_,hf,hsz⟩:=I.hok p _ hH
  exact call_len_set e hx hd hf (by omega) ⟨.int (n:Nat),H,I.tok _,⟨s.toks+1,by rw [hsz]⟩,q⟩
end
end L2
namespace M
open PySem PySem.Spec PyProof.Rows L2
noncomputable def intsOf:List D→Option (List Int)
  | []=>some []
  | .int i::r=>(intsOf r).bind fun ns=>some (i::ns)
  | _::_=>none
theorem intsOf_some:∀ {ds:List D} {ns:List Int},intsOf ds=some ns→ds=ns.map D.int
  | [],ns,h=>by cases h;rfl
  | .int i::r,ns,h=>by
    obtain ⟨ms,h1,h2⟩:=Option.bind_eq_some_iff.mp h
    cases h2
    rw [List.map_cons,← intsOf_some h1]
  | .non::_,ns,h=>by cases h
  | .bl _::_,ns,h=>by cases h
  | .str _::_,ns,h=>by cases h
  | .tup _::_,ns,h=>by cases h
  | .lst _::_,ns,h=>by cases h
  | .rol _::_,ns,h=>by cases h
  | .dct _ _::_,ns,h=>by cases h
  | .ref _::_,ns,h=>by cases h
theorem intsOf_map:∀ ns:List Int,intsOf (ns.map D.int)=some ns
  | []=>rfl
  | n::ns=>by rw [List.map_cons,intsOf,intsOf_map ns];rfl
noncomputable def isort (ns:List Int):List Int:=ns.mergeSort fun a b=>decide (a≤b)
theorem isort_perm (ns:List Int):(isort ns).Perm ns:=List.mergeSort_perm _ _
theorem isort_pw (ns:List Int):(isort ns).Pairwise (·≤·):=by
  have:=List.pairwise_mergeSort (le:=fun (a b:Int)=>decide (a≤b)) (fun a b c h1 h2=>by simp at h1 h2 ⊢;omega) (fun a b=>by simp;omega) ns
  exact this.imp fun h=>by simpa using h
theorem sorted_unique:∀ {a b:List Int},a.Perm b→a.Pairwise (·≤·)→b.Pairwise (·≤·)→a=b
  | [],b,h,_,_=>(List.nil_perm.mp h).symm
  | x::a,[],h,_,_=>absurd h.length_eq (by simp)
  | x::a,y::b,h,ha,hb=>by
    have e:x=y:=by
      rw [List.pairwise_cons] at ha hb
      have h1:x∈y::b:=h.mem_iff.mp List.mem_cons_self
      have h2:y∈x::a:=h.mem_iff.mpr List.mem_cons_self
      rcases List.mem_cons.mp h1 with rfl | h1
      · rfl
      · rcases List.mem_cons.mp h2 with rfl | h2
        · rfl
        · have:=ha.1 y h2;have:=hb.1 x h1;omega
    subst e
    rw [sorted_unique (List.Perm.cons_inv h) (List.pairwise_cons.mp ha).2 (List.pairwise_cons.mp hb).2]
section
variable {X:Cx} {K:PySem.W.Frag} {μ:Fp} {H:Hp} {S:Store}
theorem reps_ints:∀ {vs:List V} {ns:List Int},Reps K μ H vs (ns.map D.int)→vs=ns.map V.int
  | _,[],.nil=>rfl
  | _,n::ns,.cons h t=>by rw [h.int_inv,reps_ints t];rfl
theorem ints_reps:∀ (ns:List Int),Reps K μ H (ns.map V.int) (ns.map D.int)
  | []=>.nil
  | n::ns=>.cons (.int n) (ints_reps ns)
noncomputable def intsL (S:Store) (d:D):Option (List Int):=if lstB S d=true then (seqD S d).bind fun ds=>(intsOf ds).bind fun ns=>if ns.length<64 then some ns else none else none
theorem intsL_some {v:V} {d:D} {ns:List Int} (hS:SOk K μ S H) (r:Rep K μ H v d) (h:intsL S d=some ns):∃ a,v=.ref a∧SqL K H a (ns.map V.int)∧ns.length<64:=by
  unfold intsL at h
  split at h
  · rename_i hl
    obtain ⟨a,vs,ds,rfl,hq,hs,rs⟩:=lstB_seq hS r hl
    rw [hs] at h
    have h:((intsOf ds).bind fun ns=>if ns.length<64 then some ns else none)=some ns:=h
    obtain ⟨ms,h1,h2⟩:=Option.bind_eq_some_iff.mp h
    split at h2
    · rename_i h3
      cases h2
      have:=intsOf_some h1
      subst this
      exact ⟨a,rfl,by rw [← reps_ints rs];exact hq,h3⟩
    · cases h2
  · cases h
noncomputable def fSorted (S:Store):List D→Option D
  | [d]=>(intsL S d).bind fun ns=>some (.lst ((isort ns).map D.int))
  | _=>none
theorem call_Sorted:CallR X (.builtin "sorted") (rMC X.K (fPure fSorted)):=CallR.imp call_sorted fun xs H Q ⟨μ,S,ds,d,S',hS,hr,hm,post⟩=>by
  obtain ⟨rfl,hm⟩:=fPure_some hm
  unfold fSorted at hm
  split at hm
  · obtain ⟨ns,h1,h2⟩:=Option.bind_eq_some_iff.mp hm
    cases h2
    obtain ⟨v,rfl,rv⟩:=hr.one
    obtain ⟨a,rfl,hq,h64⟩:=intsL_some hS rv h1
    refine ⟨a,ns,rfl,hq,h64,fun ns' hp hw q hn=>?_⟩
    have e:ns'=isort ns:=sorted_unique (hp.trans (isort_perm ns).symm) hw (isort_pw ns)
    subst e
    exact post.lst hS hn (ints_reps _)
  · cases hm
noncomputable def fLenSet (S:Store):List D→Option D
  | [d]=>(intsL S d).bind fun ns=>some (.int (dedN ns:Nat))
  | _=>none
noncomputable def mLenSet (ms:MA):ME:=fun env S=>(ms env S).bind fun p=>(fLenSet p.2 p.1).bind fun d=>some (d,p.2)
theorem dedN_le (ns:List Int):dedN ns≤ns.length:=firstMet_length_le _ _
theorem de_lenSet {a:Expr} {ms:MA} {p p2 pos pos2:Pos} (hc:X.calm=true) (hm:X.mg "len" = none) (hm2:X.mg "set" = none) (hg:Gl X "len") (hg2:Gl X "set") (ha:DA X [a] ms) (hs:starEach [a] X.env=[(false,eval a X.env)]) :
    DE X (.Call (.Name "len" p) [.Call (.Name "set" p2) [a] [] pos2] [] pos) (mLenSet ms):=by
  have hset:=pe_callTy (X:=X) (pos:=pos2) (p:=p2) call_setL hg2 hm2 boot_set ha (by decide) (by decide) hs rfl
  refine PE.imp (pe_callB call_lenS hg hm boot_len (pa_cons hset pa_nil rfl) (by decide) (by decide) rfl rfl) fun σ H Q ⟨μ,S,env,d,S',hS,hE,h,post⟩=>?_
  obtain ⟨⟨ds,S1⟩,h1,h⟩:=Option.bind_eq_some_iff.mp h
  obtain ⟨d',h2,h⟩:=Option.bind_eq_some_iff.mp h
  cases h
  dsimp only at h2
  unfold fLenSet at h2
  split at h2
  · rename_i dd _
    obtain ⟨ns,h3,h4⟩:=Option.bind_eq_some_iff.mp h2
    cases h4
    refine ⟨μ,S,env,[dd],S1,hS,hE,h1,fun vs H1 μ1 e1 s1 r1=>⟨hc,?_⟩⟩
    obtain ⟨v,rfl,rv⟩:=r1.one
    obtain ⟨b,rfl,hq,h64⟩:=intsL_some s1 rv h3
    refine ⟨b,ns,rfl,hq,h64,fun T q hn=>?_⟩
    obtain ⟨e2,s2⟩:=s1.laid (o:=.set T (dedN ns)) hn
    exact ⟨q,T,dedN ns,rfl,upd_same,by have:=dedN_le ns;omega,post _ _ μ1 (e1.trans e2) s2 (.int _)⟩
  · cases h2
end
end M
namespace M
open PySem PySem.Spec PyProof.Rows L2
section
variable {X:Cx} {K:PySem.W.Frag} {μ:Fp} {H:Hp} {S:Store}
noncomputable def mPar (i j:Nat) (ms:MA):MS:=fun env S=>(ms env S).bind fun p=>match p.1 with | [v,w]=>some (.nx ((env.set i (some v)).set j (some w)) p.2) | _=>none
theorem ds_par {i j:Nat} {x y:Str} {a b:Expr} {ms:MA} {px py pt pos:Pos} {kt k2:Nat} {pt2:Pos} (hc:X.calm=true) (hN:X.N.Nodup) (hi:X.N[i]?=some x) (hj:X.N[j]?=some y) (hij:i≠j)
    (hx:X.env.scope.names.lookup x=some .local) (hy:X.env.scope.names.lookup y=some .local) (ha:DA X [a,b] ms)
    (hw:swappedStores [.Tuple [.Name x px,.Name y py] kt pt] (.Tuple [a,b] k2 pt2) X.env=pure (some [x,y])) :
    DS X (.Assign [.Tuple [.Name x px,.Name y py] kt pt] (.Tuple [a,b] k2 pt2) pos) (mPar i j ms):=
  PS.imp (ps_par hc hN hi hj hij hx hy ha hw rfl) fun E σ H ⟨μ,S,env,o,hS,hE,h,post⟩=>by
    obtain ⟨⟨ds,S1⟩,h1,h⟩:=Option.bind_eq_some_iff.mp h
    refine ⟨μ,S,env,ds,S1,hS,hE,h1,fun vs H1 μ1 e1 s1 r1=>?_⟩
    dsimp only at h
    split at h
    · rename_i v w
      cases h
      obtain ⟨v',w',rfl,rv,rw'⟩:=r1.two
      exact ⟨v',w',rfl,post _ H1 μ1 e1 s1 (((hE.mono e1).set rv i).set rw' j)⟩
    · cases h
noncomputable def plainE:Expr→Bool
  | .Starred _ _=>false
  | _=>true
theorem swapped2 {x y:Str} {a b:Expr} {px py pt:Pos} {kt k2:Nat} {pt2:Pos} (hb:X.env.blockKind=.function) (hx:X.env.scope.names.lookup x=some .local) (hy:X.env.scope.names.lookup y=some .local) (hne:(x == y)=false)
    (hl:(py.line == px.line)=true) (ha:plainE a=true) (hb':plainE b=true) (hf:(foldedForSure 8 a&&foldedForSure 8 b)=false) (hcn:(constantsAlone 8 a&&constantsAlone 8 b)=false) :
    swappedStores [.Tuple [.Name x px,.Name y py] kt pt] (.Tuple [a,b] k2 pt2) X.env=pure (some [x,y]):=by
  have hkx:X.env.kindOf x=some .local:=hx
  have hky:X.env.kindOf y=some .local:=hy
  have hs:([a,b].any fun e=>match e with | .Starred ..=>true | _=>false)=false:=by
    have q:∀ e:Expr,plainE e=true→(match e with | .Starred ..=>true | _=>false:Bool)=false:=fun e h=>by cases e <;> first | rfl | cases h
    simp only [List.any_cons,List.any_nil,q a ha,q b hb',Bool.or_self]
  have hxy:(y == x)=false:=by
    rw [Bool.eq_false_iff] at hne ⊢
    intro z;exact hne (by rw [beq_iff_eq] at z ⊢;exact z.symm)
  have hed:([x,y]:List Str).eraseDups=[x,y]:=by simp [List.eraseDups_cons,hxy]
  have hl':py.line=px.line:=by simpa using hl
  unfold swappedStores
  simp only [List.length_cons,List.length_nil,hb]
  simp only [List.all_cons,List.all_nil,Bool.and_true,hf,hcn]
  generalize hg:List.filterMap _ [Expr.Name x px,Expr.Name y py]=L
  have hL:L=[x,y]:=by
    rw [← hg]
    have e0:(Option.map (fun (x:Expr)=>x.pos.line) [Expr.Name x px,Expr.Name y py].head?).getD 0=px.line:=rfl
    rw [List.filterMap_cons,List.filterMap_cons]
    have e1:(Expr.Name x px).pos=px:=rfl
    simp [hkx,hky,e0,e1,hl']
  subst hL
  rw [if_neg (by decide)]
  rw [if_neg (by
    intro z
    have:([a,b].any fun e=>match e with | .Starred ..=>true | _=>false)=true:=z
    rw [hs] at this;cases this)]
  rw [if_neg (by rw [hed];simp),if_neg Bool.false_ne_true,if_neg Bool.false_ne_true]
end
end M
namespace L2
open PySem PySem.Spec PyProof.Rows
section
variable {X:Cx} {pins:List (Addr×Obj)} {σ:St} {H:Hp} {s:Shared} {a:Addr} {xs:List V}
theorem Inv.tupD (I:Inv X pins σ H s) (h:SqT X.K H a xs):∃ ob,s.heap.get? a=some ob∧ob.cls=.type "tuple"∧ob.dict=none:=by
  rcases h with h | ⟨o,its,n,hk,hc,hdn,hs,hz,r⟩
  · obtain ⟨z,its,r,ob,e,c,d,dn⟩:=h.ok I.hok
    exact ⟨ob,e,c,dn⟩
  · exact ⟨o,I.kIn a o hk,hc,hdn⟩
variable {o e:Expr} {es:List Expr} {to:TE} {t:TA} {name:Str} {apos cpos:Pos} {id:String} {r:V→List V→Hp→VK→Prop}
noncomputable def tBT (K:PySem.W.Frag) (r:V→List V→Hp→VK→Prop) (to:TE) (t:TA):TE:=fun σ H Q=>to σ H fun x H1=>(∃ p xs,x=.ref p∧SqT K H1 p xs)∧t σ H1 fun xs H2=>r x xs H2 Q
theorem pe_bmT (slot:Slot "tuple" name id) (hty:typeOf (.builtin id)=pure (.type "method_descriptor")) (hm:MtR X id r) (ho:PE X o to) (ha:PA X (e::es) t)
    (hbase:attributeBase o name X.env (eval o X.env)=eval o X.env)
    (hfew:((backTo cpos (starEach (e::es) X.env)).all (fun x=>!x.1)&&(backToKw cpos (keywordEach [] X.env)).all (fun x=>x.1.isSome)&&decide ((e::es).length+([]:List Keyword).length+(if ([]:List Keyword).isEmpty then 0 else 1)<30))=true)
    (hline:(apos.endLine == cpos.line)=true) (hs:starEach (e::es) X.env=(false,eval e X.env)::starEach es X.env) (hplain:(backTo cpos (starEach es X.env)).any (·.1)=false) :
    PE X (.Call (.Attribute o name apos) (e::es) [] cpos) (tBT X.K r to t):=by
  intro pins s σ H Q I h
  refine wpAny_Call_method_late hbase hfew hline rfl (thn (ho pins s σ H _ I h) fun v s1 ⟨x,H1,I1,r1,ty,q1⟩=>?_)
  obtain ⟨p,ys,rfl,hq⟩:=ty
  cases r1
  obtain ⟨ob,e1,e2,e3⟩:=I1.tupD hq
  refine ⟨"tuple",id,F.plainAttrs_tuple,slot,hty,⟨ob,e1,e2⟩,fun a z=>by cases z;exact ⟨ob,e1,e3⟩,?_⟩
  have hA:=ha cpos pins s1 σ H1 _ I1 q1
  rw [hs] at hA ⊢
  refine Calls.callWith_builtin (by show (false||(backTo cpos (starEach es X.env)).any (·.1))=false;rw [hplain] <;> rfl) (Calls.evalArgs_plain ?_)
  exact thn hA fun us s2 ⟨vs,H2,I2,r2,q2⟩=>hm pins s2 σ H2 (V.ref p) vs _ us Q I2 (show RelV (V.ref p) (Value.ref p) from rfl) r2 q2
end
end L2
namespace M
open PySem PySem.Spec PyProof.Rows L2
section
variable {X:Cx} {K:PySem.W.Frag} {μ:Fp} {H:Hp} {S:Store}
noncomputable def tupB:D→Bool
  | .tup _=>true
  | _=>false
noncomputable def fCountT:MF:=fun o ds S=>if tupB o=true then fCount o ds S else none
theorem mt_CountT (hu:X.A.units+64<cLine):MtR X "tuple.count" (rMM X.K fCountT):=by
  intro pins s σ H x vs v us Q I rx rv h
  obtain ⟨μ,S,dx,ds,d,S',hS,r1,r2,h,post⟩:=h
  unfold fCountT at h
  split at h
  · rename_i hl
    cases dx with
    | tup es=>
      unfold fCount at h
      split at h
      · rename_i y
        have h:(if okD 40 y=true∧es.all (okD 39)=true then some (D.int (es.countP fun d=>eqD d y),S) else none)=some (d,S'):=h
        split at h
        · rename_i hk
          cases h
          obtain ⟨a,ws,rfl,hq,re⟩:=r1.sqT
          cases rx
          obtain ⟨w,rfl,rw0⟩:=r2.one
          obtain ⟨u,rfl,ru⟩:=rv.one
          obtain ⟨its,rvs,pt,hz⟩:=I.tuple hq
          obtain ⟨⟨cls,dd,data,sl⟩,e,hc,n,hd⟩:=id pt
          simp only at hc hd
          subst hc hd
          have ok:=List.all_eq_true.mp hk.2
          refine call_meets F.slot_tuple_count ⟨_,e,rfl⟩ F.entry_tuple_count (F.args_tuple_count_2 _ _) (SeqAt.tuple_countAt a its.toArray n dd sl u (eqVal X.K μ H y)) ⟨e,fun w' hw'=>?_,?_⟩
          · exact mem_eqVal I (by show X.A.units+1+40<cLine;omega) ru rw0 hk.1 rvs re ok w' (by simpa using hw')
          · refine ⟨.int _,H,I.tok _,⟨_,rfl⟩,?_⟩
            rw [count_eqVal I rvs re ok]
            exact post.here hS (.int _)
        · cases h
      · cases h
    | _=>cases hl
  · cases h
noncomputable def mCnt (o:ME) (ms:MA):ME:=fun env S=>(o env S).bind fun p=>if tupB p.1=true then (ms env p.2).bind fun q=>fCountT p.1 q.1 q.2 else if lstB p.2 p.1=true then (ms env p.2).bind fun q=>fCountL p.1 q.1 q.2 else none
theorem de_cnt {o e:Expr} {es:List Expr} {mo:ME} {ms:MA} {apos cpos:Pos} (hu:X.A.units+64<cLine) (ho:DE X o mo) (ha:DA X (e::es) ms)
    (hbase:attributeBase o "count" X.env (eval o X.env)=eval o X.env)
    (hfew:((backTo cpos (starEach (e::es) X.env)).all (fun x=>!x.1)&&(backToKw cpos (keywordEach [] X.env)).all (fun x=>x.1.isSome)&&decide ((e::es).length+([]:List Keyword).length+(if ([]:List Keyword).isEmpty then 0 else 1)<30))=true)
    (hline:(apos.endLine == cpos.line)=true) (hs:starEach (e::es) X.env=(false,eval e X.env)::starEach es X.env) (hpl:(backTo cpos (starEach es X.env)).any (·.1)=false) :
    DE X (.Call (.Attribute o "count" apos) (e::es) [] cpos) (mCnt mo ms):=by
  have hT:=pe_bmT (X:=X) F.slot_tuple_count F.type_tuple_count (mt_CountT hu) ho ha hbase hfew hline hs hpl
  have hL:=de_meth (X:=X) F.slot_list_count F.type_list_count (mt_Count hu) ho ha hbase hfew hline hs hpl
  intro pins s σ H Q I ⟨μ,S,env,d,S',hS,hE,h,post⟩
  obtain ⟨⟨x,S1⟩,h1,h⟩:=Option.bind_eq_some_iff.mp h
  dsimp only at h
  split at h
  · rename_i ht
    obtain ⟨⟨xs,S2⟩,h2,h⟩:=Option.bind_eq_some_iff.mp h
    refine hT pins s σ H Q I ⟨μ,S,env,x,S1,hS,hE,h1,fun v H1 μ1 e1 s1 r1=>⟨?_,μ1,S1,env,xs,S2,s1,hE.mono e1,h2,fun vs H2 μ2 e2 s2 r2=>⟨μ2,S2,x,xs,d,S',s2,r1.mono e2,r2,h,(post.ext e1).ext e2⟩⟩⟩
    cases x <;> first | cases ht | skip
    obtain ⟨a,ws,rfl,hq,_⟩:=r1.sqT
    exact ⟨a,ws,rfl,hq⟩
  · refine hL pins s σ H Q I ⟨μ,S,env,d,S',hS,hE,?_,post⟩
    show (mo env S).bind _=_
    rw [h1];exact h
end
end M
namespace HT
open PySem PyProof.Rows
section
variable {prog:Program} {w:World} {A:Around} {E:Value→Shared→Prop} {s:Shared}
end
end HT
namespace HT
open PySem PyProof.Rows
section
variable {prog:Program} {w:World} {A:Around} {E:Value→Shared→Prop} {s:Shared}
end
section
variable {prog:Program} {w:World} {A:Around} {E:Value→Shared→Prop} {s:Shared}
end
end HT
namespace L2
open PySem PySem.Spec PyProof.Rows
section
variable {X:Cx}
end
end L2
namespace M
open PySem PySem.Spec PyProof.Rows L2
section
variable {X:Cx} {K:PySem.W.Frag} {μ μ':Fp} {H H':Hp} {S:Store}
noncomputable def zipD:List D→List D→List D
  | x::r,y::q=>.tup [x,y]::zipD r q
  | _,_=>[]
end
end M
namespace M
open PySem PySem.Spec PyProof.Rows L2
section
variable {X:Cx} {K:PySem.W.Frag} {μ μ':Fp} {H H':Hp} {S S':Store}
noncomputable def keyOf:D→Option Key
  | .int i=>some (.inl i)
  | .str x=>some (.inr x)
  | _=>none
theorem keyOf_rep {v:V} {d:D} {k:Key} (h:keyOf d=some k) (r:Rep K μ H v d):v=kV k:=by
  cases d <;> first | cases h | skip
  · rw [r.int_inv];rfl
  · rw [r.str_inv];rfl
noncomputable def valD (kvs:List (Key×D)) (k:Key):Option D:=match kvs with
  | []=>none
  | p::r=>if p.1=k then some p.2 else valD r k
noncomputable def hasK (kvs:List (Key×D)) (k:Key):Bool:=match kvs with
  | []=>false
  | p::r=>if p.1=k then true else hasK r k
noncomputable def setD (kvs:List (Key×D)) (k:Key) (d:D):List (Key×D):=match kvs with
  | []=>[]
  | p::r=>(if p.1=k then (p.1,d) else p)::setD r k d
noncomputable def putD (kvs:List (Key×D)) (k:Key) (d:D):List (Key×D):=if hasK kvs k then setD kvs k d else kvs++[(k,d)]
noncomputable def mergeD (kvs:List (Key×D)):List (Key×D)→List (Key×D)
  | []=>kvs
  | p::r=>mergeD (putD kvs p.1 p.2) r
inductive KR (K:PySem.W.Frag) (μ:Fp) (H:Hp):List (Key×V)→List (Key×D)→Prop
  | nil:KR K μ H [] []
  | cons {k:Key} {v:V} {d:D} {vs:List (Key×V)} {ds:List (Key×D)} (h:Rep K μ H v d) (t:KR K μ H vs ds):KR K μ H ((k,v)::vs) ((k,d)::ds)
theorem KR.keys:∀ {vs ds},KR K μ H vs ds→vs.map (·.1)=ds.map (·.1)
  | _,_,.nil=>rfl
  | _,_,.cons _ t=>by rw [List.map_cons,List.map_cons,KR.keys t]
theorem KR.reps:∀ {vs ds},KR K μ H vs ds→Reps K μ H (vs.map (·.2)) (ds.map (·.2))
  | _,_,.nil=>.nil
  | _,_,.cons h t=>.cons h (KR.reps t)
theorem KR.length:∀ {vs ds},KR K μ H vs ds→vs.length=ds.length
  | _,_,.nil=>rfl
  | _,_,.cons _ t=>by rw [List.length_cons,List.length_cons,KR.length t]
theorem KR.less {p:Addr} {cs fb:List Addr}:∀ {vs ds},KR K ⟨cs,p::fb⟩ H vs ds→KR K ⟨cs,fb⟩ H vs ds
  | _,_,.nil=>.nil
  | _,_,.cons h t=>.cons h.less (KR.less t)
theorem KR.chg {p:Addr} {o:HO} (hp:p ∈ μ.fb):∀ {vs ds},KR K μ H vs ds→KR K μ (upd H p o) vs ds
  | _,_,.nil=>.nil
  | _,_,.cons h t=>.cons (h.chg hp) (KR.chg hp t)
theorem KR.of:∀ {kvs:List (Key×V)} {ks:List Key} {ds:List D},ks=kvs.map (·.1)→Reps K μ H (kvs.map (·.2)) ds→KR K μ H kvs (ks.zip ds)
  | [],_,_,e,r=>by subst e;cases r;exact .nil
  | p::q,_,_,e,r=>by
    subst e
    rw [List.map_cons] at r
    cases r with | cons h t=>exact .cons h (KR.of rfl t)
theorem KR.val {k:Key}:∀ {vs ds},KR K μ H vs ds→∀ {d},valD ds k=some d→∃ v,valV vs k=some v∧Rep K μ H v d
  | _,_,.nil,d,h=>by cases h
  | _,_,.cons (k:=k') h t,d,q=>by
    unfold valD at q
    split at q
    · rename_i e;cases q;exact ⟨_,valV_pos e,h⟩
    · rename_i e
      obtain ⟨v,h1,h2⟩:=KR.val t q
      exact ⟨v,(valV_neg e).trans h1,h2⟩
theorem KR.has {k:Key}:∀ {vs ds},KR K μ H vs ds→(vs.any fun kv=>decide (kv.1=k))=hasK ds k
  | _,_,.nil=>rfl
  | _,_,.cons (k:=k') h t=>by
    rw [List.any_cons,KR.has t]
    unfold hasK
    by_cases e:k'=k
    · simp [e]
    · simp only [decide_eq_false e,Bool.false_or,if_neg e];cases t <;> rfl
theorem KR.setv {k:Key} {x:V} {d:D} (r:Rep K μ H x d):∀ {vs ds},KR K μ H vs ds→KR K μ H (vs.map fun kv=>if kv.1=k then (kv.1,x) else kv) (setD ds k d)
  | _,_,.nil=>.nil
  | _,_,.cons (k:=k') h t=>by
    rw [List.map_cons]
    unfold setD
    by_cases e:k'=k
    · simp only [if_pos e];exact .cons r (KR.setv r t)
    · simp only [if_neg e];exact .cons h (KR.setv r t)
theorem KR.snoc {k:Key} {x:V} {d:D} (r:Rep K μ H x d):∀ {vs ds},KR K μ H vs ds→KR K μ H (vs++[(k,x)]) (ds++[(k,d)])
  | _,_,.nil=>.cons r .nil
  | _,_,.cons h t=>.cons h (KR.snoc r t)
theorem KR.put {k:Key} {x:V} {d:D} {vs ds} (r:Rep K μ H x d) (t:KR K μ H vs ds):KR K μ H (putK vs k x) (putD ds k d):=by
  unfold putK putD
  rw [t.has]
  split
  · exact t.setv r
  · exact t.snoc r
theorem KR.merge:∀ {ws es vs ds},KR K μ H ws es→KR K μ H vs ds→KR K μ H (mergeK vs ws) (mergeD ds es)
  | _,_,_,_,.nil,t=>t
  | _,_,vs,ds,.cons (k:=k) (v:=v) (d:=d) h q,t=>by
    have:=KR.merge q (t.put (k:=k) h)
    exact this
noncomputable abbrev MP:=MEnv→Store→Option (List (Key×D)×Store)
noncomputable def mPairs:List (ME×ME)→MP
  | []=>fun _ S=>some ([],S)
  | (a,b)::r=>fun env S=>(a env S).bind fun p=>(keyOf p.1).bind fun k=>(b env p.2).bind fun q=>(mPairs r env q.2).bind fun z=>some ((k,q.1)::z.1,z.2)
noncomputable def DPs (X:Cx) (pos:Pos) (keys:List (Option Expr)) (values:List Expr) (ms:List (ME×ME)):Prop:=PPs X pos keys values (ms.map fun p=>(tM X.K p.1,tM X.K p.2))
theorem dps_nil {pos:Pos}:DPs X pos [] [] []:=pps_nil
theorem dps_cons {pos:Pos} {k v:Expr} {ks:List (Option Expr)} {vs:List Expr} {mk mv:ME} {ms:List (ME×ME)} (hk:DE X k mk) (hv:DE X v mv) (hr:DPs X pos ks vs ms):DPs X pos (some k::ks) (v::vs) ((mk,mv)::ms):=pps_cons hk hv hr
theorem tPairs_of {σ:L2.St} {env:MEnv}:∀ {ms:List (ME×ME)} {μ:Fp} {H:Hp} {S S':Store} {kvs:List (Key×D)} {Q:List (V×V)→Hp→Prop},SOk K μ S H→EOk K μ H σ env→mPairs ms env S=some (kvs,S') →
    (∀ vs H' μ',Ext μ H μ' H'→SOk K μ' S' H'→KR K μ' H' vs kvs→Q (vs.map fun kv=>(kV kv.1,kv.2)) H')→tPairs (ms.map fun p=>(tM K p.1,tM K p.2)) σ H Q
  | [],μ,H,S,S',kvs,Q,s,e,h,q=>by cases h;exact q [] H μ s.ext s .nil
  | (a,b)::r,μ,H,S,S',kvs,Q,s,e,h,q=>by
    obtain ⟨⟨x,S1⟩,h1,h⟩:=Option.bind_eq_some_iff.mp h
    obtain ⟨k,h2,h⟩:=Option.bind_eq_some_iff.mp h
    obtain ⟨⟨y,S2⟩,h3,h⟩:=Option.bind_eq_some_iff.mp h
    obtain ⟨⟨zs,S3⟩,h4,h⟩:=Option.bind_eq_some_iff.mp h
    cases h
    refine ⟨μ,S,env,x,S1,s,e,h1,fun v H1 μ1 e1 s1 r1=>⟨μ1,S1,env,y,S2,s1,e.mono e1,h3,fun w H2 μ2 e2 s2 r2=>tPairs_of s2 ((e.mono e1).mono e2) h4 fun vs H3 μ3 e3 s3 r3=>?_⟩⟩
    have:=q ((k,w)::vs) H3 μ3 ((e1.trans e2).trans e3) s3 (.cons (r2.mono e3) r3)
    rw [List.map_cons] at this
    rw [keyOf_rep h2 r1]
    exact this
theorem Ext.shut {p:Addr} {o o':HO} {cs fb:List Addr} {μ2:Fp} {H2:Hp} {S2:Store} (hp:H p=none) (hn:p ∉ fb) (e:Ext ⟨cs,p::fb⟩ (upd H p o) μ2 H2) (s:SOk K μ2 S2 H2) :
    Ext ⟨cs,fb⟩ H ⟨μ2.cs,fb⟩ (upd H2 p o')∧SOk K ⟨μ2.cs,fb⟩ S2 (upd H2 p o')∧(⟨μ2.cs,fb⟩:Fp).no p∧(∀ vs ds,KR K μ2 H2 vs ds→KR K ⟨μ2.cs,fb⟩ (upd H2 p o') vs ds)∧H2 p=some o:=by
  have pm:p ∈ μ2.fb:=by rw [e.fb];exact List.mem_cons_self
  have ncs:p ∉ μ2.cs:=s.disj p pm
  have ncs0:p ∉ cs:=fun z=>ncs (by obtain ⟨l,q,_⟩:=e.pre;rw [q];exact List.mem_append_left _ z)
  have ef:μ2=⟨μ2.cs,p::fb⟩:=by have:=e.fb;obtain ⟨a,b⟩:=μ2;simp only at this;rw [this]
  refine ⟨⟨rfl,?_,fun a o2 na ha=>?_,fun a ha=>?_⟩,?_,⟨ncs,?_⟩,fun vs ds r=>?_,e.keep p o ncs0 upd_same⟩
  · obtain ⟨l,q,hl⟩:=e.pre
    refine ⟨l,q,fun a ha=>?_⟩
    have:=hl a ha
    by_cases z:a=p
    · subst z;exact hp
    · rwa [upd_ne z] at this
  · have z:=ne_of_none ha hp
    rw [upd_ne z]
    exact e.keep a o2 na ((upd_ne z).trans ha)
  · have z:a≠p:=fun z=>ncs (z ▸ ha)
    rw [upd_ne z];exact e.dom a ha
  · have:=(s.chg (o:=o') pm)
    rw [ef] at this
    exact this.less
  · exact hn
  · have:=r.chg (o:=o') pm
    rw [ef] at this
    exact this.less
noncomputable def mDict (ms:List (ME×ME)):ME:=fun env S=>(mPairs ms env S).bind fun z=>if z.1.length≤15 then some (.dct ((mergeD [] z.1).map (·.1)) ((mergeD [] z.1).map (·.2)),z.2) else none
theorem de_disp {pos:Pos} {keys:List (Option Expr)} {values:List Expr} {ms:List (ME×ME)} (h:DPs X pos keys values ms) (hall:keys.all (·.isSome)=true) (hl:keys.length=values.length) (h0:keys≠[]) (h15:keys.length≤15) :
    DE X (.Dict keys values pos) (mDict ms):=PE.imp (pe_disp h hall hl h0 h15) fun σ H Q ⟨μ,S,env,d,S',hS,hE,hm,post⟩=>by
  obtain ⟨⟨kvs,S1⟩,h1,hm⟩:=Option.bind_eq_some_iff.mp hm
  dsimp only at hm
  split at hm
  · rename_i hl
    cases hm
    intro p hp
    obtain ⟨cs,fb⟩:=μ
    refine tPairs_of (hS.more hp) (hE.more hp) h1 fun vs H2 μ2 e2 s2 r2=>?_
    obtain ⟨eF,sF,nF,rF,hF⟩:=Ext.shut (o':=.dK (mergeK [] vs)) hp (hS.notMem hp).2 e2 s2
    refine ⟨hF,vs,rfl,by rw [r2.length];exact hl,post _ _ _ eF sF ?_⟩
    have rr:=(rF _ _ r2).merge KR.nil
    have:=Rep.dct (K:=X.K) (upd_same (H:=H2) (o:=.dK (mergeK [] vs))) nF rr.reps
    rw [rr.keys] at this
    exact this
  · cases hm
noncomputable def tabD (S:Store):D→Option (List (Key×D))
  | .dct ks vs=>some (ks.zip vs)
  | .ref r=>match S[r]? with | some (.dct ks vs)=>some (ks.zip vs) | _=>none
  | _=>none
theorem tabD_of {v:V} {d:D} {kvs:List (Key×D)} (s:SOk K μ S H) (r:Rep K μ H v d) (h:tabD S d=some kvs):∃ a vs,v=.ref a∧H a=some (.dK vs)∧KR K μ H vs kvs:=by
  cases r with
  | dct hd n rr=>cases h;exact ⟨_,_,rfl,hd,KR.of rfl rr⟩
  | ref hr=>
    rename_i a i
    unfold tabD at h
    dsimp only at h
    cases q:S[i]? with
    | none=>rw [q] at h;cases h
    | some c=>
      rw [q] at h
      have ck:=s.cell _ _ _ hr q
      cases c with
      | lst _=>cases h
      | dct ks xs=>cases h;obtain ⟨vs,e,hk,rr⟩:=ck;exact ⟨a,vs,rfl,e,KR.of hk rr⟩
  | _=>cases h
noncomputable def fIxX (S:Store) (x y:D):Option D:=match tabD S x with
  | some kvs=>(keyOf y).bind fun k=>valD kvs k
  | none=>fIx S x y
theorem ix_dict (hu:X.A.units+1<cLine):IxR X (fun x y H Q=>∃ a v,x=.ref a∧DGet H a y (some v)∧Q v H):=by
  intro value slice pins s σ H x y v u Q I rx ry h hs
  obtain ⟨a,z,rfl,g,q⟩:=h
  cases rx
  exact tail_any (dict_typeIs I g) F.slot_dict_getitem.lookup (d_getItem hu I g ry fun w' s' I' rw'=>⟨z,H,I',rw',q⟩) hs
theorem ix_DX (hu:X.A.units+1<cLine):IxR X (rM2 X.K fIxX):=IxR.imp ((ix_dict hu).or ix_D) fun x y H Q ⟨μ,S,dx,dy,dz,hS,h1,h2,h3,post⟩=>by
  unfold fIxX at h3
  split at h3
  · rename_i kvs hk
    obtain ⟨k,h4,h5⟩:=Option.bind_eq_some_iff.mp h3
    obtain ⟨a,vs,rfl,ha,rr⟩:=tabD_of hS h1 hk
    obtain ⟨v,h6,h7⟩:=rr.val h5
    refine .inl ⟨a,v,rfl,?_,post.here hS h7⟩
    rw [keyOf_rep h4 h2,← h6]
    exact DGet.k ha
  · exact .inr ⟨μ,S,dx,dy,dz,hS,h1,h2,h3,post⟩
theorem de_ixX {a b:Expr} {ma mb:ME} {pos:Pos} (hu:X.A.units+1<cLine) (ha:DE X a ma) (hb:DE X b mb) (hs:PlainIx b:=by intro _ _;rfl):DE X (.Subscript a b pos) (mOp fIxX ma mb):=
  PE.imp (pe_ix (ix_DX hu) ha hb hs) fun _ _ _ h=>tOp_of h
end
end M
namespace L2
open PySem PySem.Spec PyProof.Rows
section
variable {X:Cx} {o e:Expr} {es:List Expr} {to:TE} {t:TA} {name:Str} {apos cpos:Pos} {id:String} {r:V→List V→Hp→VK→Prop}
noncomputable def tBD (r:V→List V→Hp→VK→Prop) (to:TE) (t:TA):TE:=fun σ H Q=>to σ H fun x H1=>(∃ p,x=.ref p∧IsD H1 p)∧t σ H1 fun xs H2=>r x xs H2 Q
theorem pe_bmD (slot:Slot "dict" name id) (hty:typeOf (.builtin id)=pure (.type "method_descriptor")) (hm:MtR X id r) (ho:PE X o to) (ha:PA X (e::es) t)
    (hbase:attributeBase o name X.env (eval o X.env)=eval o X.env)
    (hfew:((backTo cpos (starEach (e::es) X.env)).all (fun x=>!x.1)&&(backToKw cpos (keywordEach [] X.env)).all (fun x=>x.1.isSome)&&decide ((e::es).length+([]:List Keyword).length+(if ([]:List Keyword).isEmpty then 0 else 1)<30))=true)
    (hline:(apos.endLine == cpos.line)=true) (hs:starEach (e::es) X.env=(false,eval e X.env)::starEach es X.env) (hplain:(backTo cpos (starEach es X.env)).any (·.1)=false) :
    PE X (.Call (.Attribute o name apos) (e::es) [] cpos) (tBD r to t):=by
  intro pins s σ H Q I h
  refine wpAny_Call_method_late hbase hfew hline rfl (thn (ho pins s σ H _ I h) fun v s1 ⟨x,H1,I1,r1,ty,q1⟩=>?_)
  obtain ⟨p,rfl,hq⟩:=ty
  cases r1
  obtain ⟨t1,t2,_⟩:=isD_at I1 hq
  refine ⟨"dict",id,F.plainAttrs_dict,slot,hty,t1,t2,?_⟩
  have hA:=ha cpos pins s1 σ H1 _ I1 q1
  rw [hs] at hA ⊢
  refine Calls.callWith_builtin (by show (false||(backTo cpos (starEach es X.env)).any (·.1))=false;rw [hplain] <;> rfl) (Calls.evalArgs_plain ?_)
  exact thn hA fun us s2 ⟨vs,H2,I2,r2,q2⟩=>hm pins s2 σ H2 (V.ref p) vs _ us Q I2 (show RelV (V.ref p) (Value.ref p) from rfl) r2 q2
theorem mt_dupdate:MtR X "dict.update" (fun x xs H Q=>∃ a b kvs more,x=.ref a∧xs=[.ref b]∧a≠b∧H a=some (.dK kvs)∧H b=some (.dK more)∧kvs.length+more.length≤sizeLine∧Q .non (upd H a (.dK (mergeK kvs more)))):=by
  intro pins s σ H x xs v us Q I rx rv h
  obtain ⟨a,b,kvs,more,rfl,rfl,ne,ha,hb,hl,q⟩:=h
  cases rx
  obtain ⟨u,rfl,ru⟩:=rv.one
  cases ru
  obtain ⟨z,hd,vs,r0,dd⟩:=dk_of I.hok ha
  obtain ⟨z2,hd2,vs2,r2,dd2⟩:=dk_of I.hok hb
  have l1:=r0.length
  have l2:=r2.length
  refine call_meetsIn F.slot_dict_update dd.typeIs F.entry_dict_update (F.args_dict_update_2 _ _) (meets_dict_update (mixKind X.prog X.w) a b ne hd2) ⟨vs,vs2,dd,dd2,by omega,fun h' dd' _ hs=>?_⟩
  have hz:(mergeK kvs more).length≤sizeLine:=by
    have h1:=length_mergeK more kvs
    omega
  have he:∃ q,h'.get? a=some q:=let ⟨q,_,_,hq,_⟩:=dd';⟨q,hq⟩
  exact ⟨.non,_,d_write I (by rw [ha];exact True.intro) hs he (dk_new hz hd (r2.merge r0) dd'),rfl,q⟩
end
end L2
namespace M
open PySem PySem.Spec PyProof.Rows L2
section
variable {X:Cx} {K:PySem.W.Frag} {μ μ':Fp} {H H':Hp} {S S':Store}
theorem SOk.writeD {S:Store} (s:SOk K μ S H) {i:Nat} {a:Addr} {kvs kvs':List (Key×V)} {ks:List Key} {ds:List D} (hi:μ.cs[i]?=some a) (h:H a=some (.dK kvs)) (hk:ks=kvs'.map (·.1)) (r:Reps K μ H (kvs'.map (·.2)) ds) :
    Ext μ H μ (upd H a (.dK kvs'))∧SOk K μ (S.set i (.dct ks ds)) (upd H a (.dK kvs')):=by
  have ha:=List.mem_of_getElem? hi
  have e:Ext μ H μ (upd H a (.dK kvs')):=⟨rfl,⟨[],by simp,fun _ z=>by simp at z⟩,fun b o' n q=>by rw [upd_ne (by rintro rfl;exact n ha)];exact q,fun b hb=>by
    by_cases z:b=a
    · subst z;rw [upd_same];simp
    · rw [upd_ne z];exact s.dom b hb⟩
  refine ⟨e,s.nd,by simp [s.len],fun j b c h1 h2=>?_,fun b hb=>?_,s.disj⟩
  case refine_2=>
    by_cases z:b=a
    · subst z;rw [upd_same];simp
    · rw [upd_ne z];exact s.fdom b hb
  by_cases hj:j=i
  · subst hj
    rw [hi] at h1;cases h1
    have hl:j<S.length:=by rw [← s.len];exact (List.getElem?_eq_some_iff.mp hi).1
    rw [List.getElem?_set_self hl] at h2
    cases h2
    exact ⟨kvs',upd_same,hk,r.mono e⟩
  · rw [List.getElem?_set_ne (Ne.symm hj)] at h2
    refine (s.cell j b c h1 h2).mono e (upd_ne fun z=>hj ?_)
    subst z
    exact nodupIx s.nd h1 hi
theorem no_adopt {p a:Addr} {cs fb:List Addr} (n:(⟨cs,p::fb⟩:Fp).no a):(⟨cs++[p],fb⟩:Fp).no a:=
  ⟨fun z=>(List.mem_append.mp z).elim n.1 fun z=>n.2 (by rw [List.mem_singleton.mp z];exact List.mem_cons_self),fun z=>n.2 (List.mem_cons_of_mem _ z)⟩
theorem Rep.adopt {p:Addr} {cs fb:List Addr} {v:V} {d:D} (r:Rep K ⟨cs,p::fb⟩ H v d):Rep K ⟨cs++[p],fb⟩ H v d:=r.imp (fun h n=>⟨h,no_adopt n⟩) fun h=>app_ix rfl h
theorem Reps.adopt {p:Addr} {cs fb:List Addr} {v:List V} {d:List D} (r:Reps K ⟨cs,p::fb⟩ H v d):Reps K ⟨cs++[p],fb⟩ H v d:=r.imp (fun h n=>⟨h,no_adopt n⟩) fun h=>app_ix rfl h
theorem KR.adopt {p:Addr} {cs fb:List Addr}:∀ {vs ds},KR K ⟨cs,p::fb⟩ H vs ds→KR K ⟨cs++[p],fb⟩ H vs ds
  | _,_,.nil=>.nil
  | _,_,.cons h t=>.cons h.adopt (KR.adopt t)
theorem Ext.shutR {p:Addr} {o:HO} {cs fb:List Addr} {μ2:Fp} {H2:Hp} {S2:Store} {vs:List (Key×V)} {kvs:List (Key×D)} (hp:H p=none) (hn:p ∉ fb) (e:Ext ⟨cs,p::fb⟩ (upd H p o) μ2 H2) (s:SOk K μ2 S2 H2) (r:KR K μ2 H2 vs kvs) :
    Ext ⟨cs,fb⟩ H ⟨μ2.cs++[p],fb⟩ (upd H2 p (.dK vs))∧SOk K ⟨μ2.cs++[p],fb⟩ (S2++[.dct (kvs.map (·.1)) (kvs.map (·.2))]) (upd H2 p (.dK vs))∧H2 p=some o:=by
  have pm:p ∈ μ2.fb:=by rw [e.fb];exact List.mem_cons_self
  have ncs:p ∉ μ2.cs:=s.disj p pm
  have ncs0:p ∉ cs:=fun z=>ncs (by obtain ⟨l,q,_⟩:=e.pre;rw [q];exact List.mem_append_left _ z)
  have ef:μ2.fb=p::fb:=e.fb
  obtain ⟨cs2,fb2⟩:=μ2
  simp only at ef pm ncs
  subst ef
  refine ⟨⟨rfl,?_,fun a o2 na ha=>?_,fun a ha=>?_⟩,⟨?_,by simp [s.len],fun i a c h1 h2=>?_,fun a ha=>?_,fun a ha z=>?_⟩,e.keep p o ncs0 upd_same⟩
  · obtain ⟨l,q,hl⟩:=e.pre
    simp only at q
    refine ⟨l++[p],by rw [q,List.append_assoc],fun a ha=>?_⟩
    rcases List.mem_append.mp ha with ha | ha
    · have:=hl a ha
      by_cases z:a=p
      · subst z;exact hp
      · rwa [upd_ne z] at this
    · rw [List.mem_singleton.mp ha];exact hp
  · have z:=ne_of_none ha hp
    rw [upd_ne z]
    exact e.keep a o2 na ((upd_ne z).trans ha)
  · by_cases z:a=p
    · subst z;rw [upd_same];simp
    · rw [upd_ne z]
      rcases List.mem_append.mp ha with ha | ha
      · exact e.dom a ha
      · exact absurd (List.mem_singleton.mp ha) z
  · exact List.nodup_append.mpr ⟨s.nd,by simp,fun a ha b hb=>by rw [List.mem_singleton.mp hb];exact fun z=>ncs (z ▸ ha)⟩
  · have sc:=s.chg (o:=.dK vs) pm
    by_cases hi:i<cs2.length
    · rw [List.getElem?_append_left hi] at h1
      rw [List.getElem?_append_left (by rw [← s.len];exact hi)] at h2
      have ck:=sc.cell i a c h1 h2
      cases c with
      | lst ds=>obtain ⟨ws,h,r⟩:=ck;exact ⟨ws,h,r.adopt⟩
      | dct ks ds=>obtain ⟨ws,h,q,r⟩:=ck;exact ⟨ws,h,q,r.adopt⟩
    · have hi':i=cs2.length:=by
        have:=(List.getElem?_eq_some_iff.mp h1).1
        simp at this;omega
      subst hi'
      rw [List.getElem?_append_right (Nat.le_refl _)] at h1
      rw [show cs2.length=S2.length from s.len,List.getElem?_append_right (Nat.le_refl _)] at h2
      simp at h1 h2
      subst h1 h2
      have rc:=(r.chg (o:=.dK vs) pm).adopt
      exact ⟨vs,upd_same,rc.keys.symm,rc.reps⟩
  · by_cases z:a=p
    · subst z;rw [upd_same];simp
    · rw [upd_ne z];exact s.fdom a (List.mem_cons_of_mem _ ha)
  · rcases List.mem_append.mp z with z | z
    · exact s.disj a (List.mem_cons_of_mem _ ha) z
    · exact hn (List.mem_singleton.mp z ▸ ha)
noncomputable def mDictR (ms:List (ME×ME)):ME:=fun env S=>(mPairs ms env S).bind fun z=>if z.1.length≤15 then some (.ref z.2.length,z.2++[.dct ((mergeD [] z.1).map (·.1)) ((mergeD [] z.1).map (·.2))]) else none
theorem de_dispR {pos:Pos} {keys:List (Option Expr)} {values:List Expr} {ms:List (ME×ME)} (h:DPs X pos keys values ms) (hall:keys.all (·.isSome)=true) (hl:keys.length=values.length) (h0:keys≠[]) (h15:keys.length≤15) :
    DE X (.Dict keys values pos) (mDictR ms):=PE.imp (pe_disp h hall hl h0 h15) fun σ H Q ⟨μ,S,env,d,S',hS,hE,hm,post⟩=>by
  obtain ⟨⟨kvs,S1⟩,h1,hm⟩:=Option.bind_eq_some_iff.mp hm
  dsimp only at hm
  split at hm
  · rename_i hl
    cases hm
    intro p hp
    obtain ⟨cs,fb⟩:=μ
    refine tPairs_of (hS.more hp) (hE.more hp) h1 fun vs H2 μ2 e2 s2 r2=>?_
    obtain ⟨eF,sF,hF⟩:=Ext.shutR hp (hS.notMem hp).2 e2 s2 (r2.merge KR.nil)
    exact ⟨hF,vs,rfl,by rw [r2.length];exact hl,post _ _ _ eF sF (.ref (by rw [← s2.len];simp))⟩
  · cases hm
noncomputable def dctB (S:Store):D→Bool
  | .dct _ _=>true
  | .ref r=>match S[r]? with | some (.dct _ _)=>true | _=>false
  | _=>false
theorem dctB_of {v:V} {d:D} (s:SOk K μ S H) (r:Rep K μ H v d) (h:dctB S d=true):∃ a,v=.ref a∧IsD H a:=by
  cases r with
  | dct hd n rr=>exact ⟨_,rfl,.inl ⟨_,.inl hd⟩⟩
  | ref hr=>
    rename_i a i
    unfold dctB at h
    dsimp only at h
    cases q:S[i]? with
    | none=>rw [q] at h;cases h
    | some c=>
      rw [q] at h
      have ck:=s.cell _ _ _ hr q
      cases c with
      | lst _=>cases h
      | dct ks xs=>obtain ⟨vs,e,hk,rr⟩:=ck;exact ⟨a,rfl,.inl ⟨_,.inl e⟩⟩
  | _=>cases h
noncomputable def fGetD:MF:=fun o ds S=>(tabD S o).bind fun kvs=>match ds with
  | [y]=>(keyOf y).bind fun k=>some ((valD kvs k).getD .non,S)
  | [y,d]=>(keyOf y).bind fun k=>some ((valD kvs k).getD d,S)
  | _=>none
noncomputable def fUpdD:MF:=fun o ds S=>match o,ds with
  | .ref r,[.dct ks2 vs2]=>match S[r]? with
    | some (.dct ks vs)=>if ks.length+ks2.length≤sizeLine then some (.non,S.set r (.dct ((mergeD (ks.zip vs) (ks2.zip vs2)).map (·.1)) ((mergeD (ks.zip vs) (ks2.zip vs2)).map (·.2)))) else none
    | _=>none
  | _,_=>none
theorem mt_UpdD:MtR X "dict.update" (rMM X.K fUpdD):=MtR.imp mt_dupdate fun x vs H Q ⟨μ,S,dx,ds,d,S',hS,r1,r2,h,post⟩=>by
  unfold fUpdD at h
  split at h
  · rename_i r ks2 vs2
    cases q:S[r]? with
    | none=>rw [q] at h;cases h
    | some c=>
      rw [q] at h
      cases c with
      | lst _=>cases h
      | dct ks xs=>
        dsimp only at h
        split at h
        · rename_i hz
          cases h
          obtain ⟨v,rfl,rv⟩:=r2.one
          cases r1 with
          | @ref a _ h'=>
            obtain ⟨kvs,hw,hk,rw'⟩:=hS.cell r a _ h' q
            cases rv with
            | @dct b more _ hb nb rb=>
              have k1:=KR.of hk rw'
              have k2:=KR.of rfl rb
              have kk:=k2.merge k1
              obtain ⟨e,s'⟩:=hS.writeD h' hw (kvs':=mergeK kvs more) (ks:=(mergeD (ks.zip xs) ((more.map (·.1)).zip vs2)).map (·.1)) kk.keys.symm kk.reps
              refine ⟨a,b,kvs,more,rfl,rfl,fun z=>nb.1 (z ▸ List.mem_of_getElem? h'),hw,hb,?_,post _ _ μ e s' .non⟩
              rw [hk,List.length_map,List.length_map] at hz
              exact hz
        · cases h
  · cases h
noncomputable def mMethD (f:MF) (o:ME) (ms:MA):ME:=fun env S=>(o env S).bind fun p=>if dctB p.2 p.1=true then (ms env p.2).bind fun q=>f p.1 q.1 q.2 else none
theorem de_methD {o e:Expr} {es:List Expr} {mo:ME} {ms:MA} {f:MF} {name:Str} {id:String} {apos cpos:Pos} (slot:Slot "dict" name id) (hty:typeOf (.builtin id)=pure (.type "method_descriptor")) (hm:MtR X id (rMM X.K f)) (ho:DE X o mo) (ha:DA X (e::es) ms)
    (hbase:attributeBase o name X.env (eval o X.env)=eval o X.env)
    (hfew:((backTo cpos (starEach (e::es) X.env)).all (fun x=>!x.1)&&(backToKw cpos (keywordEach [] X.env)).all (fun x=>x.1.isSome)&&decide ((e::es).length+([]:List Keyword).length+(if ([]:List Keyword).isEmpty then 0 else 1)<30))=true)
    (hline:(apos.endLine == cpos.line)=true) (hs:starEach (e::es) X.env=(false,eval e X.env)::starEach es X.env) (hpl:(backTo cpos (starEach es X.env)).any (·.1)=false) :
    DE X (.Call (.Attribute o name apos) (e::es) [] cpos) (mMethD f mo ms):=
  PE.imp (pe_bmD slot hty hm ho ha hbase hfew hline hs hpl) fun σ H Q ⟨μ,S,env,d,S',hS,hE,h,post⟩=>by
    obtain ⟨⟨x,S1⟩,h1,h⟩:=Option.bind_eq_some_iff.mp h
    dsimp only at h
    split at h
    · rename_i hl
      obtain ⟨⟨xs,S2⟩,h2,h⟩:=Option.bind_eq_some_iff.mp h
      refine ⟨μ,S,env,x,S1,hS,hE,h1,fun v H1 μ1 e1 s1 r1=>⟨?_,μ1,S1,env,xs,S2,s1,hE.mono e1,h2,fun vs H2 μ2 e2 s2 r2=>⟨μ2,S2,x,xs,d,S',s2,r1.mono e2,r2,h,(post.ext e1).ext e2⟩⟩⟩
      exact dctB_of s1 r1 hl
    · cases h
end
end M
namespace L2
open PySem PySem.Spec PyProof.Rows
section
variable {X:Cx} {a b:Expr} {rest:List Expr} {ta tb:TE} {pos:Pos}
noncomputable def tAndX (K:PySem.W.Frag) (ta tb:TE):TE:=fun σ H Q=>ta σ H fun x H1=>∃ c,TruV K x H1 c∧if c=true then tb σ H1 Q else Q x H1
noncomputable def tOrX (K:PySem.W.Frag) (ta tb:TE):TE:=fun σ H Q=>ta σ H fun x H1=>∃ c,TruV K x H1 c∧if c=true then Q x H1 else tb σ H1 Q
noncomputable def tNotX (K:PySem.W.Frag) (ta:TE):TE:=fun σ H Q=>ta σ H fun x H1=>∃ c,TruV K x H1 c∧Q (.bl (!c)) H1
theorem pe_andX (ha:PE X a ta) (hb:PE X (.BoolOp .And (b::rest) pos) tb):PE X (.BoolOp .And (a::b::rest) pos) (tAndX X.K ta tb):=by
  intro pins s σ H Q I h
  refine BoolOp_and (thn (ha pins s σ H _ I h) fun v s1 ⟨x,H1,I1,r1,q1⟩=>?_)
  obtain ⟨c,tv,q1⟩:=q1
  refine thn (tru_ok pins s1 σ H1 x v (fun k H'=>k=c∧H'=H1) I1 r1 ⟨c,tv,rfl,rfl⟩) fun k s2 z=>?_
  obtain ⟨H2,I2,rfl,rfl⟩:=z
  cases k with
  | true=>exact hb pins s2 σ H2 Q I2 q1
  | false=>exact ⟨x,H2,I2,r1,q1⟩
theorem pe_orX (ha:PE X a ta) (hb:PE X (.BoolOp .Or (b::rest) pos) tb):PE X (.BoolOp .Or (a::b::rest) pos) (tOrX X.K ta tb):=by
  intro pins s σ H Q I h
  refine BoolOp_or (thn (ha pins s σ H _ I h) fun v s1 ⟨x,H1,I1,r1,q1⟩=>?_)
  obtain ⟨c,tv,q1⟩:=q1
  refine thn (tru_ok pins s1 σ H1 x v (fun k H'=>k=c∧H'=H1) I1 r1 ⟨c,tv,rfl,rfl⟩) fun k s2 z=>?_
  obtain ⟨H2,I2,rfl,rfl⟩:=z
  cases k with
  | false=>exact hb pins s2 σ H2 Q I2 q1
  | true=>exact ⟨x,H2,I2,r1,q1⟩
theorem pe_notX (ha:PE X a ta):PE X (.UnaryOp .Not a pos) (tNotX X.K ta):=by
  intro pins s σ H Q I h
  refine UnaryOp_ (thn (ha pins s σ H _ I h) fun v s1 ⟨x,H1,I1,r1,q1⟩=>?_)
  obtain ⟨c,tv,q1⟩:=q1
  refine not_of (thn (tru_ok pins s1 σ H1 x v (fun k H'=>k=c∧H'=H1) I1 r1 ⟨c,tv,rfl,rfl⟩) fun k s2 z=>?_)
  obtain ⟨H2,I2,rfl,rfl⟩:=z
  exact ⟨.bl (!k),H2,I2,rfl,q1⟩
end
end L2
namespace M
open PySem PySem.Spec PyProof.Rows L2
section
variable {X:Cx} {K:PySem.W.Frag} {μ μ':Fp} {H H':Hp} {S S':Store} {a b:Expr} {ma mb:ME} {rest:List Expr} {pos:Pos}
noncomputable def mAndX (a b:ME):ME:=fun env S=>(a env S).bind fun p=>(truD p.2 p.1).bind fun k=>if k=true then b env p.2 else some (p.1,p.2)
noncomputable def mOrX (a b:ME):ME:=fun env S=>(a env S).bind fun p=>(truD p.2 p.1).bind fun k=>if k=true then some (p.1,p.2) else b env p.2
noncomputable def mNotX (a:ME):ME:=fun env S=>(a env S).bind fun p=>(truD p.2 p.1).bind fun k=>some (.bl (!k),p.2)
theorem de_andX (ha:DE X a ma) (hb:DE X (.BoolOp .And (b::rest) pos) mb):DE X (.BoolOp .And (a::b::rest) pos) (mAndX ma mb):=PE.imp (pe_andX ha hb) fun σ H Q ⟨μ,S,env,d,S',hS,hE,hm,post⟩=>by
  obtain ⟨⟨x,S1⟩,h1,hm⟩:=Option.bind_eq_some_iff.mp hm
  obtain ⟨k,h2,hm⟩:=Option.bind_eq_some_iff.mp hm
  refine ⟨μ,S,env,x,S1,hS,hE,h1,fun v H1 μ1 e1 s1 r1=>⟨k,truV_of s1 r1 h2,?_⟩⟩
  cases k with
  | true=>rw [if_pos rfl];exact ⟨μ1,S1,env,d,S',s1,hE.mono e1,hm,post.ext e1⟩
  | false=>cases hm;rw [if_neg Bool.false_ne_true];exact post _ H1 μ1 e1 s1 r1
theorem de_orX (ha:DE X a ma) (hb:DE X (.BoolOp .Or (b::rest) pos) mb):DE X (.BoolOp .Or (a::b::rest) pos) (mOrX ma mb):=PE.imp (pe_orX ha hb) fun σ H Q ⟨μ,S,env,d,S',hS,hE,hm,post⟩=>by
  obtain ⟨⟨x,S1⟩,h1,hm⟩:=Option.bind_eq_some_iff.mp hm
  obtain ⟨k,h2,hm⟩:=Option.bind_eq_some_iff.mp hm
  refine ⟨μ,S,env,x,S1,hS,hE,h1,fun v H1 μ1 e1 s1 r1=>⟨k,truV_of s1 r1 h2,?_⟩⟩
  cases k with
  | false=>rw [if_neg Bool.false_ne_true];exact ⟨μ1,S1,env,d,S',s1,hE.mono e1,hm,post.ext e1⟩
  | true=>cases hm;rw [if_pos rfl];exact post _ H1 μ1 e1 s1 r1
theorem de_notX (ha:DE X a ma):DE X (.UnaryOp .Not a pos) (mNotX ma):=PE.imp (pe_notX ha) fun σ H Q ⟨μ,S,env,d,S',hS,hE,hm,post⟩=>by
  obtain ⟨⟨x,S1⟩,h1,hm⟩:=Option.bind_eq_some_iff.mp hm
  obtain ⟨k,h2,hm⟩:=Option.bind_eq_some_iff.mp hm
  cases hm
  exact ⟨μ,S,env,x,_,hS,hE,h1,fun v H1 μ1 e1 s1 r1=>⟨k,truV_of s1 r1 h2,post _ H1 μ1 e1 s1 (.bl _)⟩⟩
end
end M
namespace M
open PySem PySem.Spec PyProof.Rows L2
section
variable {X:Cx} {K:PySem.W.Frag} {μ μ':Fp} {H H':Hp} {S S':Store} {tg iter:Expr} {pos:Pos}
noncomputable def mForRL (g:MG) (body:MS) (r:Nat):Nat→Nat→MEnv→Store→Option Out
  | 0,_,_,_=>none
  | f+1,i,env,S=>match S[r]? with
    | some (.lst xs)=>match xs[i]? with
      | none=>some (.nx env S)
      | some d=>(g d env S).bind fun p=>(body p.1 p.2).bind fun o=>match o with
        | .nx e s=>mForRL g body r f (i+1) e s
        | .ct e s=>mForRL g body r f (i+1) e s
        | .bk e s=>some (.nx e s)
        | .rt d s=>some (.rt d s)
    | _=>none
noncomputable def mForD (m:ME) (g:MG) (body:MS):MS:=fun env S=>(m env S).bind fun p=>match p.1 with
  | .ref r=>mForRL g body r 2000 0 env p.2
  | .lst xs=>mForL g body xs env p.2
  | .rol xs=>mForL g body xs env p.2
  | .tup xs=>mForL g body xs env p.2
  | _=>none
noncomputable def mForX (m:ME) (g:MG) (body:MS):MS:=fun env S=>(m env S).bind fun p=>match p.1 with
  | .ref r=>mForRL g body r 2000 0 env p.2
  | _=>none
theorem ds_forX {body:List Stmt} {mi:ME} {g:MG} {mb:MS} (hp:PassesOwn (model X.prog X.w) X.A X.env X.xe) (hc:X.calm=true) (hi:DE X iter mi) (hg:DG X tg g) (hb:DSs X body mb)
    (hs:∀ x,foldedSetIterable iter X.env x=pure x):DS X (.For tg iter body [] pos) (mForX mi g mb):=PS.imp (ps_for hp hc (pi_list hi) hg hb hs) fun E σ H ⟨μ,S,env,o,hS,hE,hm,post⟩=>by
  obtain ⟨⟨d,S1⟩,h1,hm⟩:=Option.bind_eq_some_iff.mp hm
  dsimp only at hm
  split at hm
  · rename_i r
    refine ⟨μ,S,env,_,S1,hS,hE,h1,fun v H1 μ1 e1 s1 r1=>?_⟩
    cases r1 with
    | @ref a _ ha=>
      have cell:∀ {μ' H' S' xs},Ext μ1 H1 μ' H'→SOk X.K μ' S' H'→S'[r]?=some (.lst xs)→∃ vs,H' a=some (.lst vs)∧Reps X.K μ' H' vs xs:=fun {μ' H' S' xs} e s q=>by
        obtain ⟨l,ql,_⟩:=e.pre
        have ha':μ'.cs[r]?=some a:=by rw [ql,List.getElem?_append_left (List.getElem?_eq_some_iff.mp ha).1];exact ha
        exact s.cell r a _ ha' q
      have hq0:∃ vs,SqL X.K H1 a vs:=by
        unfold mForRL at hm
        split at hm
        · rename_i xs q
          obtain ⟨vs,hv,_⟩:=cell s1.ext s1 q
          exact ⟨vs,.inl (.inl hv)⟩
        · cases hm
      refine ⟨a,rfl,hq0,?_⟩
      refine ⟨fun i n σ H=>∃ μ' S' env' o',Ext μ1 H1 μ' H∧SOk X.K μ' S' H∧EOk X.K μ' H σ env'∧mForRL g mb r n i env' S'=some o'∧PostS X.K μ' H o' E,
        ⟨2000,μ1,S1,env,o,s1.ext,s1,hE.mono e1,hm,post.ext e1⟩,?_⟩
      rintro i n σ' H' ⟨μ',S',env',o',e',s',r',hl,post'⟩
      cases n with
      | zero=>cases hl
      | succ n=>
        unfold mForRL at hl
        split at hl
        · rename_i xs q
          obtain ⟨vs,hv,rv⟩:=cell e' s' q
          have hsq:SqL X.K H' a vs:=.inl (.inl hv)
          split at hl
          · rename_i hx
            cases hl
            refine .inl ⟨⟨vs,hsq,?_⟩,post' σ' H' μ' s'.ext s' r'⟩
            rw [rv.length];simpa using hx
          · rename_i d hx
            obtain ⟨w,hw,rw0⟩:=rv.get hx
            refine .inr ⟨⟨vs,w,hsq,hw⟩,fun σ2 H2=>∃ μ2 S2 env2 o2,Ext μ1 H1 μ2 H2∧SOk X.K μ2 S2 H2∧EOk X.K μ2 H2 σ2 env2∧mForRL g mb r n (i+1) env2 S2=some o2∧PostS X.K μ2 H2 o2 E,
              fun σ2 H2 ⟨μ2,S2,env2,o2,q1,q2,q3,q4,q5⟩=>⟨n,by omega,μ2,S2,env2,o2,q1,q2,q3,q4,q5⟩,fun x H2 y=>?_⟩
            obtain ⟨e2,hy⟩:=y
            subst e2
            have ex:x=w:=by have:=hy vs hsq;rw [hw] at this;exact (Option.some.inj this).symm
            subst ex
            obtain ⟨⟨env3,S3⟩,h3,hl⟩:=Option.bind_eq_some_iff.mp hl
            obtain ⟨o4,h4,hl⟩:=Option.bind_eq_some_iff.mp hl
            refine ⟨μ',S',env',d,env3,S3,s',r',rw0,h3,fun σ3 H3 μ3 e3 s3 r3=>⟨μ3,S3,env3,o4,s3,r3,h4,?_⟩⟩
            have eT:Ext μ1 H1 μ3 H3:=e'.trans e3
            have pT:PostS X.K μ3 H3 o' E:=post'.ext e3
            cases o4 with
            | nx e5 s5=>exact fun σ6 H6 μ6 e6 s6 r6=>⟨μ6,s5,e5,o',eT.trans e6,s6,r6,hl,pT.ext e6⟩
            | ct e5 s5=>exact fun σ6 H6 μ6 e6 s6 r6=>⟨μ6,s5,e5,o',eT.trans e6,s6,r6,hl,pT.ext e6⟩
            | bk e5 s5=>cases hl;exact pT
            | rt d5 s5=>cases hl;exact pT
        · cases hl
  · cases hm
theorem ds_forD {body:List Stmt} {mi:ME} {g:MG} {mb:MS} (hp:PassesOwn (model X.prog X.w) X.A X.env X.xe) (hc:X.calm=true) (hi:DE X iter mi) (hg:DG X tg g) (hb:DSs X body mb)
    (hs:∀ x,foldedSetIterable iter X.env x=pure x):DS X (.For tg iter body [] pos) (mForD mi g mb):=by
  have hA:=ds_forX (pos:=pos) hp hc hi hg hb hs
  have hB:=ds_for (pos:=pos) hp hc (di_seq (tg:=tg) hi) hg hb hs
  intro pins s σ H E I ⟨μ,S,env,o,hS,hE,h,post⟩
  obtain ⟨⟨x,S1⟩,h1,h⟩:=Option.bind_eq_some_iff.mp h
  cases x with
  | ref r=>exact hA pins s σ H E I ⟨μ,S,env,o,hS,hE,by show (mi env S).bind _=_;rw [h1];exact h,post⟩
  | lst xs=>exact hB pins s σ H E I ⟨μ,S,env,o,hS,hE,by show ((mi env S).bind _).bind _=_;rw [h1];exact h,post⟩
  | rol xs=>exact hB pins s σ H E I ⟨μ,S,env,o,hS,hE,by show ((mi env S).bind _).bind _=_;rw [h1];exact h,post⟩
  | tup xs=>exact hB pins s σ H E I ⟨μ,S,env,o,hS,hE,by show ((mi env S).bind _).bind _=_;rw [h1];exact h,post⟩
  | _=>cases h
end
end M
namespace L2
open PySem PySem.Spec PyProof.Rows
section
variable {X:Cx} {pos:Pos}
theorem ints_items:∀ {ns:List Int} {us:List Value},Vals (ns.map V.int) us→∃ xs:List (Int×Tok),us=xs.map (fun p=>Value.int p.1 p.2)∧xs.map (·.1)=ns
  | [],_,.nil=>⟨[],rfl,rfl⟩
  | n::ns,_,.cons ⟨t,e⟩ r=>by
    subst e
    obtain ⟨xs,e1,e2⟩:=ints_items r
    exact ⟨(n,t)::xs,by rw [e1];rfl,by rw [List.map_cons,e2]⟩
theorem call_maxL (hc:X.calm=true):CallR X (.builtin "max") (fun xs H Q=>∃ p ns,xs=[.ref p]∧SqL X.K H p (ns.map V.int)∧ns≠[]∧∀ m,m∈ns→(∀ a∈ns,a≤m)→Q (.int m) H):=by
  intro pins s σ H xs us Q I r h
  obtain ⟨p,ns,rfl,hq,h0,q⟩:=h
  obtain ⟨u,rfl,rx⟩:=vals1 r
  cases rx
  obtain ⟨its,rv,pl,hz⟩:=I.list hq
  obtain ⟨ps,e1,e2⟩:=ints_items rv
  have hl:s.heap.IsList p (intItems ps.toArray):=by
    have:=pl.isList
    rw [e1] at this
    have e:intItems ps.toArray=(ps.map (fun p=>Value.int p.1 p.2)).toArray:=by simp [intItems]
    rw [e];exact this
  have hp:0<ps.toArray.size:=by
    rw [List.size_toArray]
    cases ps with
    | nil=>exact absurd e2.symm h0
    | cons _ _=>simp
  refine max_intList (I.ok.hd hc) hl hp fun v h' tk hv kk=>?_
  obtain ⟨g1,g2⟩:=argBest_gt (numAt ps.toArray) (ps.toArray.size - 1)
  generalize argBest (fun i j=>decide (numAt ps.toArray i>numAt ps.toArray j)) (ps.toArray.size - 1)=b at hv g1 g2
  have hb:b<ps.length:=by rw [List.size_toArray] at g1 hp;omega
  have nb:∀ j (hj:j<ps.length),numAt ps.toArray j=ps[j].1:=fun j hj=>by
    simp [numAt,hj]
  have ev:v=Value.int ps[b].1 ps[b].2:=by
    simp [intItems,hb] at hv
    exact hv.symm
  subst ev
  refine ⟨.int ps[b].1,H,I.kept kk,⟨_,rfl⟩,q _ ?_ fun a ha=>?_⟩
  · rw [← e2];exact List.mem_map.mpr ⟨_,List.getElem_mem hb,rfl⟩
  · rw [← e2] at ha
    obtain ⟨x,hx,rfl⟩:=List.mem_map.mp ha
    obtain ⟨j,hj,rfl⟩:=List.mem_iff_getElem.mp hx
    have:=g2 j (by rw [List.size_toArray];omega)
    rw [nb j hj,nb b hb] at this
    exact this
theorem vals_range:∀ (l:List Value) (lo:Nat),(∀ (j:Nat) (v:Value),l[j]?=some v→∃ t,v=.int ((lo+j:Nat):Int) t)→Vals ((List.range' lo l.length).map fun (i:Nat)=>V.int (i:Int)) l
  | [],_,_=>.nil
  | v::r,lo,h=>by
    rw [List.length_cons,List.range'_succ,List.map_cons]
    obtain ⟨t,e⟩:=h 0 v rfl
    refine .cons ⟨t,by simpa using e⟩ (vals_range r (lo+1) fun j w hw=>?_)
    obtain ⟨t,e⟩:=h (j+1) w (by simpa using hw)
    exact ⟨t,by rw [e];congr 2;omega⟩
noncomputable def rangeV (n:Nat):List V:=(List.range n).map fun (i:Nat)=>V.int (i:Int)
theorem pe_listRange {a:Expr} {ta:TA} {p p2 pos pos2:Pos} (hc:X.calm=true) (hm:X.mg "list" = none) (hm2:X.mg "range" = none) (hg:Gl X "list") (hg2:Gl X "range") (ha:PA X [a] ta) (hs:starEach [a] X.env=[(false,eval a X.env)]) :
    PE X (.Call (.Name "list" p) [.Call (.Name "range" p2) [a] [] pos2] [] pos) (fun σ H Q=>ta σ H fun vs H1=>∃ j:Int,vs=[.int j]∧0≤j∧j≤1000∧∀ q,H1 q=none→Q (.ref q) (upd H1 q (.lst (rangeV j.toNat)))):=by
  intro pins s σ H Q I h
  refine Call_ (ld_blt I hg hm boot_list (PyProof.Rows.callWith_type1 (Calls.spliced_cons ?_) rfl rfl))
  refine Call_ (ld_blt I hg2 hm2 boot_range (PyProof.Rows.callWith_type1 (thn (ha pos2 pins s σ H _ I h) fun us s1 ⟨vs,H1,I1,r1,q1⟩=>?_) hs rfl))
  obtain ⟨j,rfl,j0,j1,q⟩:=q1
  obtain ⟨u,rfl,ru⟩:=r1.one
  obtain ⟨t,rfl⟩:=ru
  refine call_range_1 (Calls.spliced_nil ?_)
  have I2:Inv X pins σ H1 { s1 with heap:=s1.heap.push { cls:=.type "range",data:=.fields #[.int 0 s1.toks,.int j t,.int 1 (s1.toks+1)] },toks:=s1.toks+1+1 }:=I1.kept fun b o e=>Heap.get?_push_of_some _ e
  have hz:(s1.heap.push { cls:=.type "range",data:=.fields #[.int 0 s1.toks,.int j t,.int 1 (s1.toks+1)] }).objs.size=s1.heap.objs.size+1:=Heap.size_push ..
  refine call_list_range (n:=j.toNat) (I1.ok.hd hc) (IsRange.new ..) (small_one (by decide) (by decide) (by omega) (by omega)) (by rw [rangeSize_one];split <;> omega) (by omega) fun h' tk acc c' kk hn it=>?_
  obtain ⟨i1,i2⟩:=it
  have fr:H1 (s1.heap.objs.size+1)=none:=I1.hok.fresh (Nat.le_succ _)
  dsimp only at hn ⊢
  rw [hz] at hn ⊢
  refine ⟨.ref _,_,I2.laid (t':=tk) (a:=s1.heap.objs.size+1) (o:=.lst (rangeV j.toNat)) kk (by show _≤s1.heap.objs.size+1;rw [hz];exact Nat.le_refl _) ⟨?_,acc.toList,c',?_,?_⟩,rfl,q _ fr⟩
  · simp [rangeV];rw [sizeLine_eq];omega
  · have:=vals_range acc.toList 0 (fun j v hv=>by
      obtain ⟨t,e⟩:=i2 j v (by simpa using hv)
      exact ⟨t,by rw [e];congr 1;omega⟩)
    rw [Array.length_toList,i1] at this
    rw [rangeV,List.range_eq_range']
    exact this
  · simpa using hn
end
end L2
namespace M
open PySem PySem.Spec PyProof.Rows L2
section
variable {X:Cx} {K:PySem.W.Frag} {μ μ':Fp} {H H':Hp} {S S':Store} {pos:Pos}
noncomputable def lstOf (S:Store):D→Option (List D)
  | .lst xs=>some xs
  | .ref r=>match S[r]? with | some (.lst xs)=>some xs | _=>none
  | _=>none
theorem lstOf_rep {v:V} {d:D} {ds:List D} (s:SOk K μ S H) (r:Rep K μ H v d) (h:lstOf S d=some ds):∃ a vs,v=.ref a∧H a=some (.lst vs)∧Reps K μ H vs ds:=by
  cases r with
  | lst hd n rr=>cases h;exact ⟨_,_,rfl,hd,rr⟩
  | ref hr=>
    rename_i a i
    unfold lstOf at h
    dsimp only at h
    cases q:S[i]? with
    | none=>rw [q] at h;cases h
    | some c=>
      rw [q] at h
      have ck:=s.cell _ _ _ hr q
      cases c with
      | lst xs=>cases h;obtain ⟨vs,e,rr⟩:=ck;exact ⟨a,vs,rfl,e,rr⟩
      | dct ks xs=>cases h
  | _=>cases h
noncomputable def isRefB:D→Bool
  | .ref _=>true
  | _=>false
noncomputable def fAddX (S:Store) (x y:D):Option D:=if isRefB x||isRefB y then (lstOf S x).bind fun xs=>(lstOf S y).bind fun ys=>if xs.length+ys.length≤sizeLine then some (.lst (xs++ys)) else none else fAdd S x y
theorem op_AddX:OpR X (binaryOp .Add) (rM2 X.K fAddX):=OpR.imp (OpR.or op_cat op_Add) fun x y H Q ⟨μ,S,dx,dy,dz,hS,h1,h2,h3,post⟩=>by
  unfold fAddX at h3
  split at h3
  · obtain ⟨xs,e1,h3⟩:=Option.bind_eq_some_iff.mp h3
    obtain ⟨ys,e2,h3⟩:=Option.bind_eq_some_iff.mp h3
    split at h3
    · rename_i hl
      cases h3
      obtain ⟨a,vs,rfl,q1,r1⟩:=lstOf_rep hS h1 e1
      obtain ⟨b,ws,rfl,q2,r2⟩:=lstOf_rep hS h2 e2
      have l1:=r1.length
      have l2:=r2.length
      exact .inl ⟨a,b,vs,ws,rfl,rfl,q1,q2,by omega,fun p hp=>post.lst hS hp (r1.append r2)⟩
    · cases h3
  · exact .inr ⟨μ,S,dx,dy,dz,hS,h1,h2,h3,post⟩
noncomputable def maxL:List Int→Int
  | []=>0
  | [a]=>a
  | a::r=>max a (maxL r)
theorem maxL_spec:∀ {ns:List Int},ns≠[]→maxL ns∈ns∧∀ a∈ns,a≤maxL ns
  | [a],_=>⟨by simp [maxL],fun b hb=>by simp at hb;simp [maxL,hb]⟩
  | a::b::r,_=>by
    obtain ⟨h1,h2⟩:=maxL_spec (ns:=b::r) (by simp)
    show max a (maxL (b::r))∈_∧∀ c∈_,c≤max a (maxL (b::r))
    generalize maxL (b::r)=m at h1 h2
    refine ⟨?_,fun c hc=>?_⟩
    · by_cases h:m≤a
      · rw [Int.max_eq_left h];exact List.mem_cons_self
      · rw [Int.max_eq_right (by omega)];exact List.mem_cons_of_mem _ h1
    · rcases List.mem_cons.mp hc with rfl | hc
      · exact Int.le_max_left _ _
      · exact Int.le_trans (h2 c hc) (Int.le_max_right _ _)
theorem maxL_unique {ns:List Int} {m:Int} (h0:ns≠[]) (h1:m∈ns) (h2:∀ a∈ns,a≤m):m=maxL ns:=by
  obtain ⟨g1,g2⟩:=maxL_spec h0
  have:=h2 _ g1
  have:=g2 _ h1
  omega
noncomputable def fMaxX (S:Store):List D→Option D
  | [d]=>(intsL S d).bind fun ns=>if ns.isEmpty then none else some (.int (maxL ns))
  | ds=>fMax2 S ds
theorem CallR.or {f:Value} {r r':List V→Hp→VK→Prop} (h:CallR X f r) (h':CallR X f r'):CallR X f (fun xs H Q=>r xs H Q∨r' xs H Q):=by
  intro pins s σ H xs us Q I rv q
  rcases q with q | q
  · exact h pins s σ H xs us Q I rv q
  · exact h' pins s σ H xs us Q I rv q
theorem call_MaxX (hc:X.calm=true):CallR X (.builtin "max") (rMC X.K (fPure fMaxX)):=CallR.imp (CallR.or (call_maxL hc) (call_Max2 hc)) fun xs H Q ⟨μ,S,ds,d,S',hS,hr,hm,post⟩=>by
  obtain ⟨rfl,hm'⟩:=fPure_some hm
  match ds,hr,hm,hm' with
  | [d0],hr,hm,hm'=>
    obtain ⟨ns,h1,h2⟩:=Option.bind_eq_some_iff.mp hm'
    split at h2
    · cases h2
    · rename_i h0
      cases h2
      have h0:ns≠[]:=fun z=>h0 (by rw [z];rfl)
      obtain ⟨v,rfl,rv⟩:=hr.one
      obtain ⟨b,rfl,hq,h64⟩:=intsL_some hS rv h1
      refine .inl ⟨b,ns,rfl,hq,h0,fun m m1 m2=>?_⟩
      rw [maxL_unique h0 m1 m2]
      exact post.here hS (.int _)
  | [],hr,hm,hm'=>cases hm'
  | _::_::_,hr,hm,hm'=>exact .inr ⟨μ,_,_,d,_,hS,hr,hm,post⟩
noncomputable def mListR (ms:MA):ME:=fun env S=>(ms env S).bind fun p=>match p.1 with | [.int j]=>if 0≤j∧j≤1000 then some (.lst (rangeD 0 j.toNat),p.2) else none | _=>none
theorem rangeV_rep (n:Nat):Reps K μ H (rangeV n) (rangeD 0 n):=by
  unfold rangeV rangeD
  generalize List.range n=l
  induction l with
  | nil=>exact .nil
  | cons a r ih=>rw [List.map_cons,List.map_cons,Int.zero_add];exact .cons (.int _) ih
theorem de_listR {a:Expr} {ms:MA} {p p2 pos2:Pos} (hc:X.calm=true) (hm:X.mg "list" = none) (hm2:X.mg "range" = none) (hg:Gl X "list") (hg2:Gl X "range") (ha:DA X [a] ms) (hs:starEach [a] X.env=[(false,eval a X.env)]) :
    DE X (.Call (.Name "list" p) [.Call (.Name "range" p2) [a] [] pos2] [] pos) (mListR ms):=PE.imp (pe_listRange hc hm hm2 hg hg2 ha hs) fun σ H Q ⟨μ,S,env,d,S',hS,hE,h,post⟩=>by
  obtain ⟨⟨ds,S1⟩,h1,h⟩:=Option.bind_eq_some_iff.mp h
  refine ⟨μ,S,env,ds,S1,hS,hE,h1,fun vs H1 μ1 e1 s1 r1=>?_⟩
  dsimp only at h
  split at h
  · rename_i j
    split at h
    · rename_i hj
      cases h
      obtain ⟨v,rfl,rv⟩:=r1.one
      exact ⟨j,by rw [rv.int_inv],hj.1,hj.2,fun q hq=>(post.ext e1).lst s1 hq (rangeV_rep _)⟩
    · cases h
  · cases h
noncomputable def mWhileL (t:MT) (body:MS):Nat→MEnv→Store→Option Out
  | 0,_,_=>none
  | f+1,env,S=>(t env S).bind fun p=>if p.1=true then (body env p.2).bind fun o=>match o with
      | .nx e s=>mWhileL t body f e s
      | .ct e s=>mWhileL t body f e s
      | .bk e s=>some (.nx e s)
      | .rt d s=>some (.rt d s)
    else some (.nx env p.2)
end
end M
namespace M
open PySem PySem.Spec PyProof.Rows L2
inductive TabRel:List (Key×Value)→List (Key×D)→Prop
  | nil:TabRel [] []
  | cons {k:Key} {v:Value} {d:D} {vs:List (Key×Value)} {ds:List (Key×D)} (x:V) (h:RelV x v) (r:∀ K μ H,Rep K μ H x d) (t:TabRel vs ds):TabRel ((k,v)::vs) ((k,d)::ds)
structure TabAt (w:World) (K:PySem.W.Frag) (mg:Str→Option Value) (x:Str) (l:List (Key×D)):Prop where
  ex:∃ (a:Addr) (vs:List (Key×Value)),mg x=some (.ref a)∧(∀ (P:Program) (h:Heap),K.In h→h.DictOf (mixKind P w) a vs)∧TabRel vs l
section
variable {X:Cx}
end
end M
namespace M
open PySem PySem.Spec PyProof.Rows L2
section
variable {X:Cx} {K:PySem.W.Frag} {μ:Fp} {H:Hp} {S:Store}
noncomputable def fIndex:MF:=fun o ds S=>match ds with
  | [x]=>if lstB S o=true then (seqD S o).bind fun ys=>if okD 40 x=true∧ys.all (okD 39)=true∧ys.length≤sizeLine then (ys.findIdx? fun d=>eqD d x).bind fun j=>some (.int (j:Nat),S) else none else none
  | _=>none
theorem attrBase {o:Expr} {name:Str} {env:Env} {w:Sem Value} (h:(match o with | .Call _ _ _ _=>false | _=>true)=true):attributeBase o name env w=w:=by
  cases o <;> first | rfl | cases h
end
end M
namespace M
open PySem PySem.Spec PyProof.Rows L2
section
variable {X:Cx} {K:PySem.W.Frag} {μ μ':Fp} {H H':Hp} {S S':Store} {tg iter:Expr} {pos:Pos}
noncomputable def mCompRL (g:MG) (t:MT) (e:ME) (r:Nat):Nat→Nat→MEnv→Store→Option (List D×Store)
  | 0,_,_,_=>none
  | f+1,i,env,S=>match S[r]? with
    | some (.lst xs)=>match xs[i]? with
      | none=>some ([],S)
      | some d=>(g d env S).bind fun p=>(t p.1 p.2).bind fun b=>if b.1=true then (e p.1 b.2).bind fun y=>(mCompRL g t e r f (i+1) p.1 y.2).bind fun z=>some (y.1::z.1,z.2) else mCompRL g t e r f (i+1) p.1 b.2
    | _=>none
end
end M
namespace L2
open PySem PySem.Spec PyProof.Rows
section
variable {X:Cx}
end
end L2
namespace M
open PySem PySem.Spec PyProof.Rows L2
section
variable {X:Cx} {K:PySem.W.Frag} {μ μ':Fp} {H H':Hp} {S:Store}
noncomputable def fAddS (S:Store) (x y:D):Option D:=match x,y with
  | .str a,.str b=>if a.length+b.length≤sizeLine then some (.str (a++b)) else none
  | _,_=>none
noncomputable def fStr1 (S:Store) (ds:List D):Option D:=match ds with
  | [.int i]=>if i.natAbs.log2<1920 then some (.str (toString i)) else none
  | [.non]=>some (.str "None")
  | _=>none
noncomputable def fmtD:D→Option Str
  | .str y=>if y.length≤sizeLine then some y else none
  | .int i=>if i.natAbs.log2<1920 then some (toString i) else none
  | _=>none
noncomputable def mJoinL:List ME→Str→ME
  | [],out=>fun _ S=>some (.str out,S)
  | m::r,out=>fun env S=>(m env S).bind fun p=>match p.1 with
    | .str y=>if (out++y).length≤sizeLine then mJoinL r (out++y) env p.2 else none
    | _=>none
inductive DEs (X:Cx):List Expr→List ME→Prop
  | nil:DEs X [] []
  | cons {e:Expr} {m:ME} {es:List Expr} {ms:List ME} (h:DE X e m) (t:DEs X es ms):DEs X (e::es) (m::ms)
noncomputable def strsD:List D→Option (List Str)
  | []=>some []
  | .str x::r=>(strsD r).bind fun xs=>some (x::xs)
  | _::_=>none
noncomputable def fJoin:MF:=fun o ds S=>match o,ds with
  | .str sep,[y]=>(seqD S y).bind fun xs=>(strsD xs).bind fun ys=>if (ys.map (·.length)).sum+ys.length * sep.length≤16777216 then some (.str (Str.join sep ys),S) else none
  | _,_=>none
noncomputable def isStrB:D→Bool
  | .str _=>true
  | _=>false
end
end M
namespace HT
open PySem PyProof.Rows
section
variable {prog:Program} {w:World} {A:Around} {E:Value→Shared→Prop} {s:Shared}
end
end HT
namespace L2
open PySem PySem.Spec PyProof.Rows
section
variable {X:Cx}
end
end L2
namespace M
open PySem PySem.Spec PyProof.Rows L2
section
variable {X:Cx} {K:PySem.W.Frag} {μ μ':Fp} {H H':Hp} {S:Store}
end
end M
namespace HT
open PySem PyProof.Rows
section
variable {prog:Program} {w:World} {A:Around} {E:Value→Shared→Prop} {s:Shared}
end
end HT
namespace L2
open PySem PySem.Spec PyProof.Rows
section
variable {X:Cx}
end
end L2
namespace M
open PySem PySem.Spec PyProof.Rows L2
section
variable {X:Cx} {K:PySem.W.Frag} {μ:Fp} {H:Hp} {S:Store}
end
end M
namespace HT
open PySem PyProof.Rows PySem.Spec SeqAt
end HT
namespace M
open PySem PySem.Spec PyProof.Rows L2
section
variable {X:Cx} {K:PySem.W.Frag} {μ:Fp} {H:Hp} {S:Store}
end
end M
namespace L2
open PySem PySem.Spec PyProof.Rows
end L2
namespace M
open PySem L2 PyProof.Rows
section
variable {X:Cx} {K:PySem.W.Frag} {H:Hp} {pos:Pos}
inductive iMs (K:PySem.W.Frag) (m:MA) (σ:L2.St) (H:Hp) (R:It→Hp→Prop):Prop
  | mk (μ:Fp) (S:Store) (env:MEnv) (xs:List D) (S':Store) (hS:SOk K μ S H) (hE:EOk K μ H σ env) (h:m env S=some (xs,S')) (post:∀ J H' μ',Ext μ H μ' H'→SOk K μ' S' H'→(∀ μ2 H2,ItOk K μ2 H2 J xs)→R J H')
noncomputable def mCompE (g:MG) (t:MT) (e:ME):List D→MEnv→Store→Option (List D×MEnv×Store)
  | [],env,S=>some ([],env,S)
  | d::ds,env,S=>(g d env S).bind fun p=>(t p.1 p.2).bind fun b=>if b.1=true then (e p.1 b.2).bind fun q=>(mCompE g t e ds p.1 q.2).bind fun r=>some (q.1::r.1,r.2) else mCompE g t e ds p.1 b.2
noncomputable def mCompO (g:MG) (t:MT) (mi2:MA) (g2:MG) (t2:MT) (e:ME):List D→MEnv→Store→Option (List D×Store)
  | [],_,S=>some ([],S)
  | d::ds,env,S=>(g d env S).bind fun p=>(t p.1 p.2).bind fun b=>if b.1=true then (mi2 p.1 b.2).bind fun q=>(mCompE g2 t2 e q.1 p.1 q.2).bind fun r=>(mCompO g t mi2 g2 t2 e ds r.2.1 r.2.2).bind fun z=>some (r.1++z.1,z.2) else mCompO g t mi2 g2 t2 e ds p.1 b.2
variable {elt tg iter tg2 iter2:Expr} {ifs ifs2:List Expr} {scope:Scope} {spos py:Pos} {N':List Str} {cap:List (Option Nat)} {mi mi2:MA} {g g2:MG} {t t2:MT} {me:ME} {y:Str} {i:Nat}
noncomputable def mCatR (a b:ME):ME:=fun env S=>(a env S).bind fun p=>(b env p.2).bind fun q=>(lstOf q.2 p.1).bind fun xs=>(lstOf q.2 q.1).bind fun ys=>if xs.length+ys.length≤sizeLine then some (.ref q.2.length,q.2++[.lst (xs++ys)]) else none
theorem de_catR {a b:Expr} {ma mb:ME} (ha:DE X a ma) (hb:DE X b mb):DE X (.BinOp a .Add b pos) (mCatR ma mb):=PE.imp (pe_op op_cat ha hb) fun σ H Q ⟨μ,S,env,d,S',hS,hE,hm,post⟩=>by
  obtain ⟨⟨x,S1⟩,h1,hm⟩:=Option.bind_eq_some_iff.mp hm
  obtain ⟨⟨y,S2⟩,h2,hm⟩:=Option.bind_eq_some_iff.mp hm
  obtain ⟨xs,e1,hm⟩:=Option.bind_eq_some_iff.mp hm
  obtain ⟨ys,e2,hm⟩:=Option.bind_eq_some_iff.mp hm
  dsimp only at hm
  split at hm
  · rename_i hl
    cases hm
    refine ⟨μ,S,env,x,S1,hS,hE,h1,fun v H1 μ1 f1 s1 r1=>⟨μ1,S1,env,y,S2,s1,hE.mono f1,h2,fun w H2 μ2 f2 s2 r2=>?_⟩⟩
    obtain ⟨a,vs,rfl,q1,t1⟩:=lstOf_rep s2 (r1.mono f2) e1
    obtain ⟨b,ws,rfl,q2,t2⟩:=lstOf_rep s2 r2 e2
    have l1:=t1.length
    have l2:=t2.length
    exact ⟨a,b,vs,ws,rfl,rfl,q1,q2,by omega,fun p hp=>(post.ext (f1.trans f2)).lstR s2 hp (t1.append t2)⟩
  · cases hm
end
end M
namespace MI
open PySem PySem.Spec PyProof.Rows L2 M
@[irreducible] noncomputable def mC (d:D):ME:=M.mC d
theorem mC_eq {d:D}:mC d=M.mC d:=by unfold mC;rfl
@[irreducible] noncomputable def mVar (i:Nat):ME:=M.mVar i
theorem mVar_eq {i:Nat}:mVar i=M.mVar i:=by unfold mVar;rfl
@[irreducible] noncomputable def mOp (f:Store→D→D→Option D) (a b:ME):ME:=M.mOp f a b
theorem mOp_eq {f:Store→D→D→Option D} {a b:ME}:mOp f a b=M.mOp f a b:=by unfold mOp;rfl
@[irreducible] noncomputable def mTest (m:ME):MT:=M.mTest m
theorem mTest_eq {m:ME}:mTest m=M.mTest m:=by unfold mTest;rfl
@[irreducible] noncomputable def mChain (f g:Store→D→D→Option D) (a b c:ME):ME:=M.mChain f g a b c
theorem mChain_eq {f g:Store→D→D→Option D} {a b c:ME}:mChain f g a b c=M.mChain f g a b c:=by unfold mChain;rfl
@[irreducible] noncomputable def mTru (m:ME):MT:=M.mTru m
theorem mTru_eq {m:ME}:mTru m=M.mTru m:=by unfold mTru;rfl
@[irreducible] noncomputable def mAndT (a b:MT):MT:=M.mAndT a b
theorem mAndT_eq {a b:MT}:mAndT a b=M.mAndT a b:=by unfold mAndT;rfl
@[irreducible] noncomputable def mOrT (a b:MT):MT:=M.mOrT a b
theorem mOrT_eq {a b:MT}:mOrT a b=M.mOrT a b:=by unfold mOrT;rfl
@[irreducible] noncomputable def mNotT (a:MT):MT:=M.mNotT a
theorem mNotT_eq {a:MT}:mNotT a=M.mNotT a:=by unfold mNotT;rfl
@[irreducible] noncomputable def mAnd (a b:ME):ME:=M.mAndX a b
theorem mAnd_eq {a b:ME}:mAnd a b=M.mAndX a b:=by unfold mAnd;rfl
@[irreducible] noncomputable def mOr (a b:ME):ME:=M.mOrX a b
theorem mOr_eq {a b:ME}:mOr a b=M.mOrX a b:=by unfold mOr;rfl
@[irreducible] noncomputable def mNotV (a:ME):ME:=M.mNotX a
theorem mNotV_eq {a:ME}:mNotV a=M.mNotX a:=by unfold mNotV;rfl
@[irreducible] noncomputable def mIf (t:MT) (a b:ME):ME:=M.mIf t a b
theorem mIf_eq {t:MT} {a b:ME}:mIf t a b=M.mIf t a b:=by unfold mIf;rfl
@[irreducible] noncomputable def mNil:MA:=M.mNil 
theorem mNil_eq  : mNil  = M.mNil  := by unfold mNil;rfl
@[irreducible] noncomputable def mCons (a:ME) (r:MA):MA:=M.mCons a r
theorem mCons_eq {a:ME} {r:MA}:mCons a r=M.mCons a r:=by unfold mCons;rfl
@[irreducible] noncomputable def mTup (ms:MA):ME:=M.mTup ms
theorem mTup_eq {ms:MA}:mTup ms=M.mTup ms:=by unfold mTup;rfl
@[irreducible] noncomputable def mLst (ms:MA):ME:=M.mLst ms
theorem mLst_eq {ms:MA}:mLst ms=M.mLst ms:=by unfold mLst;rfl
@[irreducible] noncomputable def mLstR (ms:MA):ME:=M.mLstR ms
theorem mLstR_eq {ms:MA}:mLstR ms=M.mLstR ms:=by unfold mLstR;rfl
@[irreducible] noncomputable def mUn (f:Store→D→Option D) (a:ME):ME:=M.mUn f a
theorem mUn_eq {f:Store→D→Option D} {a:ME}:mUn f a=M.mUn f a:=by unfold mUn;rfl
@[irreducible] noncomputable def mPartN:MO:=M.mPartN 
theorem mPartN_eq  : mPartN  = M.mPartN  := by unfold mPartN;rfl
@[irreducible] noncomputable def mPart (m:ME):MO:=M.mPart m
theorem mPart_eq {m:ME}:mPart m=M.mPart m:=by unfold mPart;rfl
@[irreducible] noncomputable def mSlice (a:ME) (lo hi:MO):ME:=M.mSlice a lo hi
theorem mSlice_eq {a:ME} {lo hi:MO}:mSlice a lo hi=M.mSlice a lo hi:=by unfold mSlice;rfl
@[irreducible] noncomputable def mCall (f:List D→Store→Option (D×Store)) (ms:MA):ME:=M.mCall f ms
theorem mCall_eq {f:List D→Store→Option (D×Store)} {ms:MA}:mCall f ms=M.mCall f ms:=by unfold mCall;rfl
@[irreducible] noncomputable def mIsI (T:String) (m:ME):ME:=M.mIsI T m
theorem mIsI_eq {T:String} {m:ME}:mIsI T m=M.mIsI T m:=by unfold mIsI;rfl
@[irreducible] noncomputable def mCallN (n:Nat) (f:List D→Store→Option (D×Store)) (ms:MA):ME:=M.mCallN n f ms
theorem mCallN_eq {n:Nat} {f:List D→Store→Option (D×Store)} {ms:MA}:mCallN n f ms=M.mCallN n f ms:=by unfold mCallN;rfl
@[irreducible] noncomputable def mSkip:MS:=M.mSkip 
theorem mSkip_eq  : mSkip  = M.mSkip  := by unfold mSkip;rfl
@[irreducible] noncomputable def mSeq (a b:MS):MS:=M.mSeq a b
theorem mSeq_eq {a b:MS}:mSeq a b=M.mSeq a b:=by unfold mSeq;rfl
@[irreducible] noncomputable def mRet (m:ME):MS:=M.mRet m
theorem mRet_eq {m:ME}:mRet m=M.mRet m:=by unfold mRet;rfl
@[irreducible] noncomputable def mDrop (m:ME):MS:=M.mDrop m
theorem mDrop_eq {m:ME}:mDrop m=M.mDrop m:=by unfold mDrop;rfl
@[irreducible] noncomputable def mIfS (t:MT) (a b:MS):MS:=M.mIfS t a b
theorem mIfS_eq {t:MT} {a b:MS}:mIfS t a b=M.mIfS t a b:=by unfold mIfS;rfl
@[irreducible] noncomputable def gSet (i:Nat):MG:=M.gSet i
theorem gSet_eq {i:Nat}:gSet i=M.gSet i:=by unfold gSet;rfl
@[irreducible] noncomputable def gNilD:MGs:=M.gNilD 
theorem gNilD_eq  : gNilD  = M.gNilD  := by unfold gNilD;rfl
@[irreducible] noncomputable def gConsD (g:MG) (gs:MGs):MGs:=M.gConsD g gs
theorem gConsD_eq {g:MG} {gs:MGs}:gConsD g gs=M.gConsD g gs:=by unfold gConsD;rfl
@[irreducible] noncomputable def gTupD (n:Nat) (gs:MGs):MG:=M.gTupD n gs
theorem gTupD_eq {n:Nat} {gs:MGs}:gTupD n gs=M.gTupD n gs:=by unfold gTupD;rfl
@[irreducible] noncomputable def gSubD (o i:ME):MG:=M.gSubD o i
theorem gSubD_eq {o i:ME}:gSubD o i=M.gSubD o i:=by unfold gSubD;rfl
@[irreducible] noncomputable def mAsg (m:ME) (g:MG):MS:=M.mAsg m g
theorem mAsg_eq {m:ME} {g:MG}:mAsg m g=M.mAsg m g:=by unfold mAsg;rfl
@[irreducible] noncomputable def mRange1 (ms:MA):MA:=M.mRange1 ms
theorem mRange1_eq {ms:MA}:mRange1 ms=M.mRange1 ms:=by unfold mRange1;rfl
@[irreducible] noncomputable def mRange2 (ms:MA):MA:=M.mRange2 ms
theorem mRange2_eq {ms:MA}:mRange2 ms=M.mRange2 ms:=by unfold mRange2;rfl
@[irreducible] noncomputable def mFor (mi:MA) (g:MG) (body:MS):MS:=M.mFor mi g body
theorem mFor_eq {mi:MA} {g:MG} {body:MS}:mFor mi g body=M.mFor mi g body:=by unfold mFor;rfl
@[irreducible] noncomputable def mComp (mi:MA) (g:MG) (t:MT) (e:ME) (cap:List (Option Nat)):ME:=M.mComp mi g t e cap
theorem mComp_eq {mi:MA} {g:MG} {t:MT} {e:ME} {cap:List (Option Nat)}:mComp mi g t e cap=M.mComp mi g t e cap:=by unfold mComp;rfl
@[irreducible] noncomputable def mItS (m:ME):MA:=M.mItS m
theorem mItS_eq {m:ME}:mItS m=M.mItS m:=by unfold mItS;rfl
@[irreducible] noncomputable def mTrue:MT:=M.mTrue 
theorem mTrue_eq  : mTrue  = M.mTrue  := by unfold mTrue;rfl
@[irreducible] noncomputable def mMeth (f:MF) (o:ME) (ms:MA):ME:=M.mMeth f o ms
theorem mMeth_eq {f:MF} {o:ME} {ms:MA}:mMeth f o ms=M.mMeth f o ms:=by unfold mMeth;rfl
@[irreducible] noncomputable def mEnum (ms:MA):MA:=M.mEnum ms
theorem mEnum_eq {ms:MA}:mEnum ms=M.mEnum ms:=by unfold mEnum;rfl
@[irreducible] noncomputable def mLenSet (ms:MA):ME:=M.mLenSet ms
theorem mLenSet_eq {ms:MA}:mLenSet ms=M.mLenSet ms:=by unfold mLenSet;rfl
@[irreducible] noncomputable def mPar (i j:Nat) (ms:MA):MS:=M.mPar i j ms
theorem mPar_eq {i j:Nat} {ms:MA}:mPar i j ms=M.mPar i j ms:=by unfold mPar;rfl
@[irreducible] noncomputable def mCnt (o:ME) (ms:MA):ME:=M.mCnt o ms
theorem mCnt_eq {o:ME} {ms:MA}:mCnt o ms=M.mCnt o ms:=by unfold mCnt;rfl
@[irreducible] noncomputable def mDict (ms:List (ME×ME)):ME:=M.mDict ms
theorem mDict_eq {ms:List (ME×ME)}:mDict ms=M.mDict ms:=by unfold mDict;rfl
@[irreducible] noncomputable def mDictR (ms:List (ME×ME)):ME:=M.mDictR ms
theorem mDictR_eq {ms:List (ME×ME)}:mDictR ms=M.mDictR ms:=by unfold mDictR;rfl
@[irreducible] noncomputable def mMethD (f:MF) (o:ME) (ms:MA):ME:=M.mMethD f o ms
theorem mMethD_eq {f:MF} {o:ME} {ms:MA}:mMethD f o ms=M.mMethD f o ms:=by unfold mMethD;rfl
@[irreducible] noncomputable def mForD (m:ME) (g:MG) (body:MS):MS:=M.mForD m g body
theorem mForD_eq {m:ME} {g:MG} {body:MS}:mForD m g body=M.mForD m g body:=by unfold mForD;rfl
@[irreducible] noncomputable def mListR (ms:MA):ME:=M.mListR ms
theorem mListR_eq {ms:MA}:mListR ms=M.mListR ms:=by unfold mListR;rfl
@[irreducible] noncomputable def mCatR (a b:ME):ME:=M.mCatR a b
theorem mCatR_eq {a b:ME}:mCatR a b=M.mCatR a b:=by unfold mCatR;rfl
theorem mCallN0_eq {f:List D→Store→Option (D×Store)}:mCallN 0 f mNil=M.mCallN 0 f M.mNil:=by rw [mCallN_eq,mNil_eq]
theorem mTestOp_eq {f:Store→D→D→Option D} {a b:ME}:mTest (mOp f a b)=M.mTest (M.mOp f a b):=by rw [mTest_eq,mOp_eq]
theorem mTestCh_eq {f g:Store→D→D→Option D} {a b c:ME}:mTest (mChain f g a b c)=M.mTest (M.mChain f g a b c):=by rw [mTest_eq,mChain_eq]
theorem mAsgSet_eq {m:ME} {i:Nat}:mAsg m (gSet i)=M.mAsg m (M.gSet i):=by rw [mAsg_eq,gSet_eq]
theorem mAsgComp_eq {mi:MA} {g:MG} {t:MT} {e:ME} {cap:List (Option Nat)} {i:Nat}:mAsg (mComp mi g t e cap) (gSet i)=M.mAsg (M.mComp mi g t e cap) (M.gSet i):=by rw [mAsg_eq,gSet_eq,mComp_eq]
section
variable {X:Cx} {e:Expr} {es:List Expr} {s:Stmt} {ss:List Stmt}
theorem castE {m m':ME} (h:m=m') (d:DE X e m'):DE X e m:=by rw [h];exact d
theorem castT {m m':MT} (h:m=m') (d:DT X e m'):DT X e m:=by rw [h];exact d
theorem castW {m m':MT} (h:m=m') (d:DW X e m'):DW X e m:=by rw [h];exact d
theorem castA {m m':MA} (h:m=m') (d:DA X es m'):DA X es m:=by rw [h];exact d
theorem castO {o:Option Expr} {m m':MO} (h:m=m') (d:DO X o m'):DO X o m:=by rw [h];exact d
theorem castG {m m':MG} (h:m=m') (d:DG X e m'):DG X e m:=by rw [h];exact d
theorem castGs {m m':MGs} (h:m=m') (d:DGs X es m'):DGs X es m:=by rw [h];exact d
theorem castI {tg:Expr} {m m':MA} (h:m=m') (d:DI X tg e m'):DI X tg e m:=by rw [h];exact d
theorem castTs {m m':MT} (h:m=m') (d:DTs X es m'):DTs X es m:=by rw [h];exact d
theorem castS {m m':MS} (h:m=m') (d:DS X s m'):DS X s m:=by rw [h];exact d
theorem castSs {m m':MS} (h:m=m') (d:DSs X ss m'):DSs X ss m:=by rw [h];exact d
end
end MI
namespace MI
open PySem PySem.Spec PyProof.Rows L2 M
inductive GI where
  | fn (n:Nat) (f:List D→Store→Option (D×Store))
  | con (d:D)
  | blt
  | tab (l:List (Key×D))
structure CI where
  N:List Str
  sc:Scope
  all:Bool
  gs:List (Str×GI)
  mt:List Nat
noncomputable def GOk (X:Cx) (k:Nat) (x:Str):GI→Prop
  | .fn n f=>Fn X.prog X.w X.K X.mg X.base k x n f
  | .con d=>GC X.K X.mg x d
  | .blt=>X.mg x=none
  | .tab l=>TabAt X.w X.K X.mg x l
structure COk (k:Nat) (c:CI) (X:Cx):Prop where
  N:X.N=c.N
  nd:c.N.Nodup
  sc:X.env.scope=c.sc
  fk:c.sc.kind=.function
  fn:c.all=true→∀ x,X.fn x=true
  calm:X.calm=true
  room:Room k X.A
  xe:X.xe=fun _ _=>False
  gs:∀ p∈c.gs,GOk X k p.1 p.2
noncomputable def mNo:ME:=fun _ _=>none
noncomputable def mNoT:MT:=fun _ _=>none
noncomputable def mNoS:MS:=fun _ _=>none
noncomputable def mNoA:MA:=fun _ _=>none
noncomputable def gNo:MG:=fun _ _ _=>none
section
variable {X:Cx} {k:Nat} {c:CI} {e:Expr} {pos:Pos}
theorem de_no:DE X e mNo:=fun _ _ _ _ _ _ ⟨_,_,_,_,_,_,_,h,_⟩=>by cases h
theorem dt_no:DT X e mNoT:=fun _ _ _ _ _ _ ⟨_,_,_,_,_,_,_,h,_⟩=>by cases h
theorem ds_no {s:Stmt}:DS X s mNoS:=fun _ _ _ _ _ _ ⟨_,_,_,_,_,_,h,_⟩=>by cases h
theorem ds_asgNo {s:Stmt} {g:MG}:DS X s (mAsg mNo g):=by
  rw [show mAsg mNo g=mNoS from by rw [mAsg_eq];rfl]
  exact ds_no
theorem dss_no {s:List Stmt}:DSs X s mNoS:=fun _ _ _ _ _ _ ⟨_,_,_,_,_,_,h,_⟩=>by cases h
theorem da_no {es:List Expr}:DA X es mNoA:=fun _ _ _ _ _ _ _ ⟨_,_,_,_,_,_,_,h,_⟩=>by cases h
theorem di_no {tg:Expr}:DI X tg e mNoA:=fun _ _ _ _ _ _ ⟨_,_,_,_,_,_,_,h,_⟩=>by cases h
theorem dg_no:DG X e gNo:=fun _ _ _ _ _ _ _ _ _ ⟨_,_,_,_,_,_,_,_,_,h,_⟩=>by cases h
noncomputable def ixOf (x:Str):List Str→Option Nat
  | []=>none
  | y::r=>if x == y then some 0 else (ixOf x r).map (· + 1)
theorem ixOf_some {x:Str}:∀ {l:List Str} {i:Nat},ixOf x l=some i→l[i]?=some x
  | y::r,i,h=>by
    unfold ixOf at h
    split at h
    · rename_i e;cases h;simp at e;simp [e]
    · cases q:ixOf x r with
      | none=>rw [q] at h;cases h
      | some j=>rw [q] at h;cases h;simpa using ixOf_some q
noncomputable def okName (x:Str):Bool:=!(x == ("__debug__":Str)) && !(x == ("__classdict__":Str)) && !(x == ("__name__":Str))
theorem okName_d {x:Str} (h:okName x=true):(x == ("__debug__":Str))=false:=by
  unfold okName at h;rw [Bool.and_eq_true,Bool.and_eq_true] at h;simpa only [Bool.not_eq_true'] using h.1.1
theorem okName_c {x:Str} (h:okName x=true):(x == ("__classdict__":Str))=false:=by
  unfold okName at h;rw [Bool.and_eq_true,Bool.and_eq_true] at h;simpa only [Bool.not_eq_true'] using h.1.2
theorem okName_n {x:Str} (h:okName x=true):x ≠ "__name__":=by
  unfold okName at h;rw [Bool.and_eq_true,Bool.and_eq_true] at h
  have:=h.2
  rw [Bool.not_eq_true'] at this
  intro z;rw [z] at this;simp at this
noncomputable def gOf (c:CI) (x:Str):Option GI:=match c.sc.names.lookup x with | some .globalImplicit=>if okName x then c.gs.lookup x else none | _=>none
theorem gOf_some {g:GI} {x:Str} (C:COk k c X) (h:gOf c x=some g):Gl X x∧okName x=true∧GOk X k x g:=by
  unfold gOf at h
  split at h
  · rename_i e
    split at h
    · rename_i o
      refine ⟨?_,o,C.gs _ (PySem.mem_of_lookup h)⟩
      show X.env.scope.names.lookup x=_
      rw [C.sc,e]
    · cases h
  · cases h
noncomputable def evName (c:CI) (x:Str):ME:=match c.sc.names.lookup x with
  | some .globalImplicit=>match gOf c x with | some (.con d)=>mC d | _=>mNo
  | some .local=>match ixOf x c.N with | some i=>if okName x then mVar i else mNo | none=>mNo
  | some .cell=>match ixOf x c.N with | some i=>if okName x then mVar i else mNo | none=>mNo
  | some .free=>match ixOf x c.N with | some i=>if okName x then mVar i else mNo | none=>mNo
  | _=>mNo
theorem evName_var (C:COk k c X) {x:Str} (hv:Vis c.sc x):DE X (.Name x pos) (match ixOf x c.N with | some i=>if okName x then mVar i else mNo | none=>mNo):=by
  split
  · rename_i i e
    split
    · rename_i o
      exact castE mVar_eq <| M.de_var (by rw [C.N];exact ixOf_some e) (by rw [C.sc];exact hv) (okName_d o) (okName_c o)
    · exact de_no
  · exact de_no
theorem evName_ok (C:COk k c X) (x:Str):DE X (.Name x pos) (evName c x):=by
  unfold evName
  split
  · split
    · rename_i d e
      obtain ⟨g,o,G⟩:=gOf_some C e
      exact castE mC_eq <| M.de_glob G g (okName_d o)
    · exact de_no
  · rename_i e;exact evName_var C (.inl e)
  · rename_i e;exact evName_var C (.inr (.inl e))
  · rename_i e;exact evName_var C (.inr (.inr e))
  · exact de_no
noncomputable def evConst:Const→ME
  | .int i=>mC (.int i)
  | .bool b=>mC (.bl b)
  | .none=>mC .non
  | .str x=>mC (.str x)
  | _=>mNo
theorem evConst_ok (v:Const) {j:Nat}:DE X (.Constant v j pos) (evConst v):=by
  cases v <;> first | exact castE mC_eq <| M.de_int | exact castE mC_eq <| M.de_bl | exact castE mC_eq <| M.de_non | exact castE mC_eq <| M.de_str | exact de_no
noncomputable def evBin (z:Bool) (op:Operator) (a b:ME):ME:=match op with
  | .Add=>mOp fAddX a b
  | .Sub=>mOp fSub a b
  | .Mult=>mOp fMulX a b
  | .Mod=>mOp fMod a b
  | .FloorDiv=>mOp fDiv a b
  | .Pow=>mOp fPow a b
  | _=>mNo
theorem evBin_ok {z:Bool} {op:Operator} {a b:Expr} {ma mb:ME} (ha:DE X a ma) (hb:DE X b mb):DE X (.BinOp a op b pos) (evBin z op ma mb):=by
  cases op <;> first | exact de_no | skip
  · exact castE mOp_eq <| M.de_op op_AddX ha hb
  · exact castE mOp_eq <| M.de_op op_Sub ha hb
  · exact castE mOp_eq <| M.de_op op_MulX ha hb
  · exact castE mOp_eq <| M.de_op op_Mod ha hb
  · exact castE mOp_eq <| M.de_op op_Pow ha hb
  · exact castE mOp_eq <| M.de_op op_Div ha hb
noncomputable def evCat (op:Operator) (a b:ME):ME:=match op with
  | .Add=>mCatR a b
  | _=>mNo
theorem evCat_ok {op:Operator} {a b:Expr} {ma mb:ME} (ha:DE X a ma) (hb:DE X b mb):DE X (.BinOp a op b pos) (evCat op ma mb):=by
  cases op <;> first | exact de_no | exact castE mCatR_eq <| M.de_catR ha hb
noncomputable def evUn (op:UnaryOp) (a:ME):ME:=match op with
  | .Not=>mNotV a
  | .USub=>mUn fNeg a
  | _=>mNo
theorem evUn_ok {op:UnaryOp} {a:Expr} {ma:ME} (ha:DE X a ma):DE X (.UnaryOp op a pos) (evUn op ma):=by
  cases op <;> first | exact de_no | skip
  · exact castE mNotV_eq <| M.de_notX ha
  · exact castE mUn_eq <| M.de_un un_NegF ha
noncomputable def cmpF:CmpOp→Option (Store→D→D→Option D)
  | .Eq=>some fEq
  | .NotEq=>some fNe
  | .Lt=>some fLt
  | .LtE=>some fLe
  | .Gt=>some fGt
  | .GtE=>some fGe
  | .In=>some fIn
  | .NotIn=>some fNotIn
  | .Is=>some fIs
  | .IsNot=>some fIsNot
theorem cmpF_ok {op:CmpOp} {f:Store→D→D→Option D} (r:Room k X.A) (h:cmpF op=some f):OpR X (compareOp op) (rM2 X.K f):=by
  cases op <;> cases h
  · exact op_Eq r.units
  · exact op_Ne r.units
  · exact op_Lt
  · exact op_Le
  · exact op_Gt
  · exact op_Ge
  · exact op_Is
  · exact op_IsNot
  · exact op_In r.units
  · exact op_NotIn r.units
noncomputable def notSet:Expr→Bool
  | .Set _ _ _=>false
  | _=>true
theorem notSet_marks {op:CmpOp} (h:notSet e=true):behindInMarks op e=false:=by cases e <;> first | rfl | cases h
theorem notSet_fold (h:notSet e=true) (x:Value):foldedSetIterable e X.env x=pure x:=by cases e <;> first | rfl | cases h
noncomputable def evCmp (c:CI) (E:CI→Expr→ME) (a:Expr) (ops:List CmpOp) (bs:List Expr):ME:=match ops,bs with
  | [op],[b]=>if notSet b then (match cmpF op with | some f=>mOp f (E c a) (E c b) | none=>mNo) else mNo
  | [op,op'],[b,d]=>if notSet d then (match cmpF op,cmpF op' with | some f,some g=>mChain f g (E c a) (E c b) (E c d) | _,_=>mNo) else mNo
  | _,_=>mNo
noncomputable def evCmpT (c:CI) (E:CI→Expr→ME) (a:Expr) (ops:List CmpOp) (bs:List Expr):MT:=match ops,bs with
  | [op],[b]=>if notSet b then (match cmpF op with | some f=>mTest (mOp f (E c a) (E c b)) | none=>mNoT) else mNoT
  | [op,op'],[b,d]=>if notSet d then (match cmpF op,cmpF op' with | some f,some g=>mTest (mChain f g (E c a) (E c b) (E c d)) | _,_=>mNoT) else mNoT
  | _,_=>mNoT
section
variable {E:CI→Expr→ME} {T:CI→Expr→MT}
theorem evCmp_ok (C:COk k c X) (hE:∀ e,DE X e (E c e)) {a:Expr} {ops:List CmpOp} {bs:List Expr}:DE X (.Compare a ops bs pos) (evCmp c E a ops bs):=by
  unfold evCmp
  split
  · split
    · rename_i hm
      split
      · rename_i f h;exact castE mOp_eq <| M.de_cmp (cmpF_ok C.room h) (hE _) (hE _) (notSet_marks hm)
      · exact de_no
    · exact de_no
  · split
    · rename_i hm
      split
      · rename_i f g h1 h2;exact castE mChain_eq <| M.de_chain (cmpF_ok C.room h1) (cmpF_ok C.room h2) (hE _) (hE _) (hE _) (notSet_marks hm)
      · exact de_no
    · exact de_no
  · exact de_no
theorem evCmpT_ok (C:COk k c X) (hE:∀ e,DE X e (E c e)) {a:Expr} {ops:List CmpOp} {bs:List Expr}:DT X (.Compare a ops bs pos) (evCmpT c E a ops bs):=by
  unfold evCmpT
  split
  · split
    · rename_i hm
      split
      · rename_i f h;exact castT mTestOp_eq <| M.dt_cmp (cmpF_ok C.room h) (hE _) (hE _) (notSet_marks hm)
      · exact dt_no
    · exact dt_no
  · split
    · rename_i hm
      split
      · rename_i f g h1 h2;exact castT mTestCh_eq <| M.dt_chain (cmpF_ok C.room h1) (cmpF_ok C.room h2) (hE _) (hE _) (hE _) (notSet_marks hm)
      · exact dt_no
    · exact dt_no
  · exact dt_no
noncomputable def foldE (f:ME→ME→ME):List ME→ME
  | []=>mNo
  | [m]=>m
  | m::r=>f m (foldE f r)
noncomputable def foldT (f:MT→MT→MT):List MT→MT
  | []=>mNoT
  | [m]=>m
  | m::r=>f m (foldT f r)
theorem foldE_and {E:Expr→ME} (hE:∀ e,DE X e (E e)):∀ vs:List Expr,DE X (.BoolOp .And vs pos) (foldE mAnd (vs.map E))
  | []=>de_no
  | [e]=>de_one (hE e)
  | e::e'::r=>castE mAnd_eq <| M.de_andX (hE e) (foldE_and hE (e'::r))
theorem foldE_or {E:Expr→ME} (hE:∀ e,DE X e (E e)):∀ vs:List Expr,DE X (.BoolOp .Or vs pos) (foldE mOr (vs.map E))
  | []=>de_no
  | [e]=>de_one (hE e)
  | e::e'::r=>castE mOr_eq <| M.de_orX (hE e) (foldE_or hE (e'::r))
theorem foldT_and {E:Expr→MT} (hE:∀ e,DT X e (E e)):∀ vs:List Expr,DT X (.BoolOp .And vs pos) (foldT mAndT (vs.map E))
  | []=>dt_no
  | [e]=>dt_w (dw_and1 (hE e))
  | e::e'::r=>dt_w (castW mAndT_eq <| M.dw_and (hE e) (foldT_andW hE (e'::r) (by simp)))
where foldT_andW {E:Expr→MT} (hE:∀ e,DT X e (E e)):∀ vs:List Expr,vs≠[]→DW X (.BoolOp .And vs pos) (foldT mAndT (vs.map E))
  | [],h=>absurd rfl h
  | [e],_=>dw_and1 (hE e)
  | e::e'::r,_=>castW mAndT_eq <| M.dw_and (hE e) (foldT_andW hE (e'::r) (by simp))
theorem foldT_or {E:Expr→MT} (hE:∀ e,DT X e (E e)):∀ vs:List Expr,DT X (.BoolOp .Or vs pos) (foldT mOrT (vs.map E))
  | []=>dt_no
  | [e]=>dt_w (dw_or1 (hE e))
  | e::e'::r=>dt_w (castW mOrT_eq <| M.dw_or (hE e) (foldT_orW hE (e'::r) (by simp)))
where foldT_orW {E:Expr→MT} (hE:∀ e,DT X e (E e)):∀ vs:List Expr,vs≠[]→DW X (.BoolOp .Or vs pos) (foldT mOrT (vs.map E))
  | [],h=>absurd rfl h
  | [e],_=>dw_or1 (hE e)
  | e::e'::r,_=>castW mOrT_eq <| M.dw_or (hE e) (foldT_orW hE (e'::r) (by simp))
noncomputable def noStar:Expr→Bool
  | .Starred _ _=>false
  | _=>true
theorem star_plain {es:List Expr} (h:noStar e=true):starEach (e::es) X.env=(false,eval e X.env)::starEach es X.env:=by cases e <;> first | rfl | cases h
theorem star_back:∀ {es:List Expr},es.all noStar=true→(backTo pos (starEach es X.env)).any (·.1)=false
  | [],_=>rfl
  | e::es,h=>by
    rw [List.all_cons,Bool.and_eq_true] at h
    rw [star_plain h.1]
    show (false||(backTo pos (starEach es X.env)).any (·.1))=false
    rw [star_back h.2];rfl
noncomputable def evA (E:Expr→ME):List Expr→MA
  | []=>mNil
  | e::r=>if noStar e then mCons (E e) (evA E r) else mNoA
theorem evA_ok {E:Expr→ME} (hE:∀ e,DE X e (E e)):∀ es:List Expr,DA X es (evA E es)
  | []=>castA mNil_eq <| M.da_nil
  | e::r=>by
    unfold evA
    split
    · rename_i h;exact castA mCons_eq <| M.da_cons (hE e) (evA_ok hE r) (star_plain h)
    · exact da_no
noncomputable def evO (E:Expr→ME):Option Expr→MO
  | none=>mPartN
  | some e=>mPart (E e)
theorem evO_ok {E:Expr→ME} (hE:∀ e,DE X e (E e)):∀ o:Option Expr,DO X o (evO E o)
  | none=>castO mPartN_eq <| M.do_none
  | some e=>castO mPart_eq <| M.do_some (hE e)
noncomputable def tabOf (c:CI):Expr→Option (List (Key×D))
  | .Name x _=>match gOf c x with | some (.tab l)=>some l | _=>none
  | _=>none
theorem tabOf_some {a:Expr} {l:List (Key×D)} (C:COk k c X) (h:tabOf c a=some l):∃ x p,a=.Name x p∧Gl X x∧okName x=true∧TabAt X.w X.K X.mg x l:=by
  unfold tabOf at h
  split at h
  · split at h
    · rename_i e
      cases h
      obtain ⟨g,o,G⟩:=gOf_some C e
      exact ⟨_,_,rfl,g,o,G⟩
    · cases h
  · cases h
noncomputable def evSub (c:CI) (E:Expr→ME) (a i:Expr):ME:=match i with
  | .Slice lo hi st _=>match st with | none=>mSlice (E a) (evO E lo) (evO E hi) | some st=>(match lo,hi with | none,none=>mNo | _,_=>mNo)
  | i=>match tabOf c a with | some l=>mNo | none=>mOp fIxX (E a) (E i)
theorem evSub_gen (C:COk k c X) {E:Expr→ME} (hE:∀ e,DE X e (E e)) (a i:Expr) (hs:PlainIx i:=by intro _ _;rfl):DE X (.Subscript a i pos) (match tabOf c a with | some l=>mNo | none=>mOp fIxX (E a) (E i)):=by
  cases ht:tabOf c a with
  | none=>exact castE mOp_eq <| M.de_ixX (by have:=C.room.units;omega) (hE a) (hE _) hs
  | some l=>
    obtain ⟨x,p,rfl,g,o,G⟩:=tabOf_some C ht
    exact de_no
theorem evSub_ok (C:COk k c X) {E:Expr→ME} (hE:∀ e,DE X e (E e)) (a i:Expr):DE X (.Subscript a i pos) (evSub c E a i):=by
  cases i with
  | Slice lo hi st p=>
    cases st with
    | none=>exact castE mSlice_eq <| M.de_slice (hE a) (evO_ok hE lo) (evO_ok hE hi)
    | some st=>
      cases lo with
      | none=>
        cases hi with
        | none=>exact de_no
        | some _=>exact de_no
      | some _=>exact de_no
  | _=>exact evSub_gen C hE a _
noncomputable def nameOf:Expr→Option Str
  | .Name x _=>some x
  | _=>none
theorem nameOf_some {x:Str} (h:nameOf e=some x):∃ p,e=.Name x p:=by cases e <;> cases h;exact ⟨_,rfl⟩
noncomputable def callOf:Expr→Option (Str×List Expr)
  | .Call f es [] _=>(nameOf f).map fun x=>(x,es)
  | _=>none
theorem callOf_some {x:Str} {es:List Expr} (h:callOf e=some (x,es)):∃ p p2,e=.Call (.Name x p) es [] p2:=by
  cases e with
  | Call f es' ks p2=>
    cases ks with
    | nil=>
      obtain ⟨y,h1,h2⟩:=Option.map_eq_some_iff.mp h
      cases h2
      obtain ⟨p,rfl⟩:=nameOf_some h1
      exact ⟨p,p2,rfl⟩
    | cons _ _=>cases h
  | _=>cases h
noncomputable def isBlt (c:CI) (x:Str):Bool:=match gOf c x with | some .blt=>true | _=>false
theorem isBlt_ok {x:Str} (C:COk k c X) (h:isBlt c x=true):X.mg x=none∧Gl X x∧okName x=true:=by
  unfold isBlt at h
  split at h
  · rename_i e;obtain ⟨a,b,d⟩:=gOf_some C e;exact ⟨d,a,b⟩
  · cases h
noncomputable def setArg (c:CI) (es:List Expr):Option Expr:=match es with
  | [e1]=>match callOf e1 with
    | some (y,[a])=>if y == "set" && isBlt c y&&noStar a then some a else none
    | _=>none
  | _=>none
theorem setArg_some {es:List Expr} {a:Expr} (h:setArg c es=some a):∃ p p2,es=[.Call (.Name "set" p) [a] [] p2]∧isBlt c "set" = true∧noStar a=true:=by
  unfold setArg at h
  split at h
  · split at h
    · rename_i hc
      split at h
      · rename_i hb
        cases h
        rw [Bool.and_eq_true,Bool.and_eq_true] at hb
        obtain ⟨p,p2,rfl⟩:=callOf_some hc
        have z:=hb.1.1
        rw [beq_iff_eq] at z;subst z
        exact ⟨p,p2,rfl,hb.1.2,hb.2⟩
      · cases h
    · cases h
  · cases h
noncomputable def rangeArg (c:CI) (es:List Expr):Option Expr:=match es with
  | [e1]=>match callOf e1 with
    | some (y,[a])=>if y == "range" && isBlt c y&&noStar a then some a else none
    | _=>none
  | _=>none
theorem rangeArg_some {es:List Expr} {a:Expr} (h:rangeArg c es=some a):∃ p p2,es=[.Call (.Name "range" p) [a] [] p2]∧isBlt c "range" = true∧noStar a=true:=by
  unfold rangeArg at h
  split at h
  · split at h
    · rename_i hc
      split at h
      · rename_i hb
        cases h
        rw [Bool.and_eq_true,Bool.and_eq_true] at hb
        obtain ⟨p,p2,rfl⟩:=callOf_some hc
        have z:=hb.1.1
        rw [beq_iff_eq] at z;subst z
        exact ⟨p,p2,rfl,hb.1.2,hb.2⟩
      · cases h
    · cases h
  · cases h
noncomputable def bltF (z:Bool) (x:Str):Option (List D→Store→Option (D×Store)):=
  if x == "len" then some (fPure fLen) else if x == "int" then some (fPure fInt1) else if x == "max" then some (fPure fMaxX) else if x == "min" then some (fPure fMin2)
  else if x == "list" then some (fPure (fSeq1 .lst)) else if x == "tuple" then some (fPure (fSeq1 .tup)) else if x == "all" then some (fPure fAll) else if x == "sorted" then some (fPure fSorted) else none
theorem bltF_ok {zz:Bool} {x:Str} {f:List D→Store→Option (D×Store)} {es:List Expr} {ms:MA} {p:Pos} (C:COk k c X) (h:bltF zz x=some f) (hm:X.mg x=none) (hg:Gl X x) (o:okName x=true) (hs:(e::es).all noStar=true) (ha:DA X (e::es) ms) :
    DE X (.Call (.Name x p) (e::es) [] pos) (mCall f ms):=by
  rw [List.all_cons,Bool.and_eq_true] at hs
  have q1:=star_plain (X:=X) (es:=es) hs.1
  have q2:=star_back (X:=X) (pos:=pos) hs.2
  unfold bltF at h
  split at h
  · rename_i z;cases h;rw [beq_iff_eq] at z;subst z;exact castE mCall_eq <| M.de_callB call_Len hm boot_len ha hg (okName_n o) (okName_d o) q1 q2
  split at h
  · rename_i z;cases h;rw [beq_iff_eq] at z;subst z;exact castE mCall_eq <| M.de_callTy call_Int hm boot_int ha hg (okName_n o) (okName_d o) q1 q2
  split at h
  · rename_i z;cases h;rw [beq_iff_eq] at z;subst z;exact castE mCall_eq <| M.de_callB (call_MaxX C.calm) hm boot_max ha hg (okName_n o) (okName_d o) q1 q2
  split at h
  · rename_i z;cases h;rw [beq_iff_eq] at z;subst z;exact castE mCall_eq <| M.de_callB (call_Min2 C.calm) hm boot_min ha hg (okName_n o) (okName_d o) q1 q2
  split at h
  · rename_i z;cases h;rw [beq_iff_eq] at z;subst z;exact castE mCall_eq <| M.de_callTy call_List hm boot_list ha hg (okName_n o) (okName_d o) q1 q2
  split at h
  · rename_i z;cases h;rw [beq_iff_eq] at z;subst z;exact castE mCall_eq <| M.de_callTy call_Tuple hm boot_tuple ha hg (okName_n o) (okName_d o) q1 q2
  split at h
  · rename_i z;cases h;rw [beq_iff_eq] at z;subst z;exact castE mCall_eq <| M.de_callB (call_All C.calm) hm boot_all ha hg (okName_n o) (okName_d o) q1 q2
  split at h
  · rename_i z;cases h;rw [beq_iff_eq] at z;subst z;exact castE mCall_eq <| M.de_callB call_Sorted hm boot_sorted ha hg (okName_n o) (okName_d o) q1 q2
  cases h
noncomputable def tyOf (x:Str):Option String:=if x == "int" then some "int" else if x == "bool" then some "bool" else if x == "str" then some "str" else if x == "tuple" then some "tuple" else if x == "list" then some "list" else if x == "dict" then some "dict" else none
theorem tyOf_ok {x:Str} {T:String} (h:tyOf x=some T):bootBuiltins x=some (.type T)∧(T = "int"∨T = "bool"∨T = "str"∨T = "tuple"∨T = "list"∨T = "dict"):=by
  unfold tyOf at h
  split at h
  · rename_i z;cases h;rw [beq_iff_eq] at z;subst z;exact ⟨boot_int,by simp⟩
  split at h
  · rename_i z;cases h;rw [beq_iff_eq] at z;subst z;exact ⟨boot_bool,by simp⟩
  split at h
  · rename_i z;cases h;rw [beq_iff_eq] at z;subst z;exact ⟨boot_str,by simp⟩
  split at h
  · rename_i z;cases h;rw [beq_iff_eq] at z;subst z;exact ⟨boot_tuple,by simp⟩
  split at h
  · rename_i z;cases h;rw [beq_iff_eq] at z;subst z;exact ⟨boot_list,by simp⟩
  split at h
  · rename_i z;cases h;rw [beq_iff_eq] at z;subst z;exact ⟨boot_dict,by simp⟩
  cases h
noncomputable def evIsI (c:CI) (E:Expr→ME):List Expr→ME
  | [a,t]=>match nameOf t with
    | some y=>match gOf c y,tyOf y with | some .blt,some T=>if noStar a then mIsI T (E a) else mNo | _,_=>mNo
    | none=>mNo
  | _=>mNo
noncomputable def evCall (c:CI) (E:Expr→ME) (x:Str) (es:List Expr):ME:=match gOf c x with
  | some (.fn n f)=>match es with
    | []=>if n == 0 then mCallN 0 f mNil else mNo
    | e::r=>if (e::r).all noStar then mCallN n f (evA E (e::r)) else mNo
  | some .blt=>if x == "isinstance" then evIsI c E es else match (if x == "len" then setArg c es else none) with
    | some a=>mLenSet (evA E [a])
    | none=>match (if x == "list" then rangeArg c es else none) with
     | some a=>mListR (evA E [a])
     | none=>match bltF (c.mt.contains 400000) x,es with
      | some f,e::r=>if (e::r).all noStar then mCall f (evA E (e::r)) else mNo
      | _,_=>mNo
  | _=>mNo
theorem evCall_ok (C:COk k c X) {E:Expr→ME} (hE:∀ e,DE X e (E e)) {x:Str} {es:List Expr} {p:Pos}:DE X (.Call (.Name x p) es [] pos) (evCall c E x es):=by
  unfold evCall
  split
  · rename_i n f hg
    obtain ⟨g,o,G⟩:=gOf_some C hg
    split
    · split
      · rename_i hn
        have:n=0:=by simpa using hn
        subst this
        exact castE mCallN0_eq <| M.de_call0 G C.room g (okName_d o)
      · exact de_no
    · split
      · rename_i hs
        have hs':=hs
        rw [List.all_cons,Bool.and_eq_true] at hs
        exact castE mCallN_eq <| M.de_call G C.room (evA_ok hE _) g (okName_d o) (star_plain hs.1) (star_back hs.2)
      · exact de_no
  · rename_i hg
    obtain ⟨g,o,G⟩:=gOf_some C hg
    split
    · rename_i z
      rw [beq_iff_eq] at z;subst z
      unfold evIsI
      split
      · split
        · rename_i y hy
          obtain ⟨p2,rfl⟩:=nameOf_some hy
          split
          · rename_i T h1 h2
            obtain ⟨g',o',G'⟩:=gOf_some C h1
            split
            · rename_i hs
              exact castE mIsI_eq <| M.de_isinst G G' (tyOf_ok h2).1 (hE _) (tyOf_ok h2).2 g g' (okName_n o') (okName_d o') (star_plain hs) rfl rfl
            · exact de_no
          · exact de_no
        · exact de_no
      · exact de_no
    · split
      · rename_i a ha
        split at ha
        · rename_i z
          rw [beq_iff_eq] at z;subst z
          obtain ⟨p3,p4,rfl,hb,hs⟩:=setArg_some ha
          obtain ⟨m2,g2,o2⟩:=isBlt_ok C hb
          exact castE mLenSet_eq (M.de_lenSet C.calm G m2 g g2 (evA_ok hE _) (star_plain hs))
        · cases ha
      · split
        · rename_i a ha
          split at ha
          · rename_i z
            rw [beq_iff_eq] at z;subst z
            obtain ⟨p3,p4,rfl,hb,hs⟩:=rangeArg_some ha
            obtain ⟨m2,g2,o2⟩:=isBlt_ok C hb
            exact castE mListR_eq (M.de_listR C.calm G m2 g g2 (evA_ok hE _) (star_plain hs))
          · cases ha
        · split
          · rename_i _ f e r hf
            split
            · rename_i hs
              exact bltF_ok C (by assumption) G g o hs (evA_ok hE _)
            · exact de_no
          · exact de_no
  · exact de_no
noncomputable def attrOf:Expr→Option (Expr×Str×Pos)
  | .Attribute o nm ap=>some (o,nm,ap)
  | _=>none
theorem attrOf_some {o:Expr} {nm:Str} {ap:Pos} (h:attrOf e=some (o,nm,ap)):e=.Attribute o nm ap:=by cases e <;> cases h;rfl
noncomputable def methF (x:Str):Option MF:=if x == "append" then some fAppend else if x == "count" then some fCountL else none
theorem methF_ok {x:Str} {f:MF} (C:COk k c X) (h:methF x=some f):∃ id,Slot "list" x id∧typeOf (.builtin id)=pure (.type "method_descriptor")∧MtR X id (rMM X.K f):=by
  unfold methF at h
  split at h
  · rename_i z;cases h;rw [beq_iff_eq] at z;subst z;exact ⟨_,F.slot_list_append,F.type_list_append,mt_Append⟩
  split at h
  · rename_i z;cases h;rw [beq_iff_eq] at z;subst z;exact ⟨_,F.slot_list_count,F.type_list_count,mt_Count C.room.units⟩
  cases h
noncomputable def methDF (x:Str):Option MF:=if x == "update" then some fUpdD else none
theorem methDF_ok {x:Str} {f:MF} (C:COk k c X) (h:methDF x=some f):∃ id,Slot "dict" x id∧typeOf (.builtin id)=pure (.type "method_descriptor")∧MtR X id (rMM X.K f):=by
  unfold methDF at h
  split at h
  · rename_i z;cases h;rw [beq_iff_eq] at z;subst z;exact ⟨_,F.slot_dict_update,F.type_dict_update,mt_UpdD⟩
  cases h
theorem star_all:∀ {es:List Expr},es.all noStar=true→(backTo pos (starEach es X.env)).all (fun x=>!x.1)=true
  | [],_=>rfl
  | e::es,h=>by
    rw [List.all_cons,Bool.and_eq_true] at h
    rw [star_plain h.1]
    show (true&&(backTo pos (starEach es X.env)).all (fun x=>!x.1))=true
    rw [star_all h.2];rfl
noncomputable def plainO (o:Expr):Bool:=match o with | .Call _ _ _ _=>false | _=>true
noncomputable def evMeth (z:Bool) (E:Expr→ME) (o:Expr) (nm:Str) (ap cp:Pos) (es:List Expr):ME:=match plainO o,es with
  | true,e::r=>if (e::r).all noStar&&(decide ((e::r).length<30)&&ap.endLine == cp.line) then
      (if nm == "count" then mCnt (E o) (evA E (e::r)) else match methDF nm with | some f=>mMethD f (E o) (evA E (e::r)) | none=>match methF nm with | some f=>mMeth f (E o) (evA E (e::r)) | none=>mNo) else mNo
  | _,_=>mNo
theorem evMeth_ok {z:Bool} (C:COk k c X) {E:Expr→ME} (hE:∀ e,DE X e (E e)) {o:Expr} {nm:Str} {ap:Pos} {es:List Expr}:DE X (.Call (.Attribute o nm ap) es [] pos) (evMeth z E o nm ap pos es):=by
  unfold evMeth
  split
  · rename_i e r hx
    split
    · rename_i h
      rw [Bool.and_eq_true,Bool.and_eq_true] at h
      have hs:=h.1
      rw [List.all_cons,Bool.and_eq_true] at hs
      have few:((backTo pos (starEach (e::r) X.env)).all (fun x=>!x.1)&&(backToKw pos (keywordEach [] X.env)).all (fun x=>x.1.isSome)&&decide ((e::r).length+([]:List Keyword).length+(if ([]:List Keyword).isEmpty then 0 else 1)<30))=true:=by
        rw [star_all h.1]
        show (true&&decide ((e::r).length+0+0<30))=true
        exact h.2.1
      split
      · rename_i hc
        rw [beq_iff_eq] at hc;subst hc
        exact castE mCnt_eq (M.de_cnt C.room.units (hE _) (evA_ok hE _) (attrBase hx) few h.2.2 (star_plain hs.1) (star_back hs.2))
      · split
        · rename_i f hf
          obtain ⟨id,h1,h2,h3⟩:=methDF_ok C hf
          exact castE mMethD_eq (M.de_methD h1 h2 h3 (hE _) (evA_ok hE _) (attrBase hx) few h.2.2 (star_plain hs.1) (star_back hs.2))
        · split
          · rename_i f hf
            obtain ⟨id,h1,h2,h3⟩:=methF_ok C hf
            exact castE mMeth_eq (M.de_meth h1 h2 h3 (hE _) (evA_ok hE _) (attrBase hx) few h.2.2 (star_plain hs.1) (star_back hs.2))
          · exact de_no
    · exact de_no
  · exact de_no
noncomputable def notSlice:Expr→Bool
  | .Slice _ _ _ _=>false
  | _=>true
noncomputable def evGs (G:Expr→MG):List Expr→MGs
  | []=>gNilD
  | e::r=>gConsD (if noStar e then G e else gNo) (evGs G r)
noncomputable def evGn (c:CI) (x:Str):MG:=match c.sc.names.lookup x,ixOf x c.N with
  | some .local,some i=>gSet i
  | some .cell,some i=>if c.all then gSet i else gNo
  | _,_=>gNo
noncomputable def evG1 (c:CI) (E:Expr→ME):Expr→MG
  | .Name x _=>evGn c x
  | .Subscript o i _=>if notSlice i then gSubD (E o) (E i) else gNo
  | _=>gNo
noncomputable def evG (c:CI) (E:Expr→ME):Expr→MG
  | .Tuple es _ _=>if es.all noStar then gTupD es.length (evGs (fun e=>match e with | .Tuple es _ _=>if es.all noStar then gTupD es.length (evGs (evG1 c E) es) else gNo | e=>evG1 c E e) es) else gNo
  | e=>evG1 c E e
theorem evGn_ok (C:COk k c X) (x:Str):DG X (.Name x pos) (evGn c x):=by
  unfold evGn
  split
  · rename_i h1 h2
    exact castG gSet_eq <| M.dg_name (by rw [C.N];exact C.nd) (by rw [C.N];exact ixOf_some h2) (by rw [C.sc];exact .inl h1) (.inr (by rw [C.sc];exact h1))
  · rename_i h1 h2
    split
    · rename_i ha
      exact castG gSet_eq <| M.dg_name (by rw [C.N];exact C.nd) (by rw [C.N];exact ixOf_some h2) (by rw [C.sc];exact .inr h1) (.inl (C.fn ha x))
    · exact dg_no
  · exact dg_no
theorem evG1_ok (C:COk k c X) {E:Expr→ME} (hE:∀ e,DE X e (E e)) (e:Expr):DG X e (evG1 c E e):=by
  cases e with
  | Name x p=>exact evGn_ok C x
  | Subscript o i p=>
    show DG X _ (if notSlice i then gSubD (E o) (E i) else gNo)
    split
    · rename_i h
      refine castG gSubD_eq (M.dg_sub (hE o) (hE i) ?_)
      cases i <;> first | (intro _;rfl) | cases h
    · exact dg_no
  | _=>exact dg_no
theorem asg_plain {es:List Expr} (h:noStar e=true):assignEach (e::es) X.env=(false,assign e X.env)::assignEach es X.env:=by cases e <;> first | rfl | cases h
theorem asg_len:∀ {es:List Expr},es.all noStar=true→(assignEach es X.env).length=es.length∧(assignEach es X.env).findIdx? (·.1)=none
  | [],_=>⟨rfl,rfl⟩
  | e::es,h=>by
    rw [List.all_cons,Bool.and_eq_true] at h
    rw [asg_plain h.1]
    obtain ⟨a,b⟩:=asg_len h.2
    exact ⟨by simp [a],by simp [List.findIdx?_cons,b]⟩
theorem evGs_ok {G:Expr→MG} (hG:∀ e,DG X e (G e)):∀ es:List Expr,es.all noStar=true→DGs X es (evGs G es)
  | [],_=>castGs gNilD_eq <| M.dgs_nil
  | e::r,h=>by
    rw [List.all_cons,Bool.and_eq_true] at h
    unfold evGs
    rw [if_pos h.1]
    exact castGs gConsD_eq <| M.dgs_cons (hG e) (evGs_ok hG r h.2) (by rw [asg_plain h.1];rfl)
theorem evGt_ok (C:COk k c X) {G:Expr→MG} (hG:∀ e,DG X e (G e)) (es:List Expr) (j:Nat):DG X (.Tuple es j pos) (if es.all noStar then gTupD es.length (evGs G es) else gNo):=by
  split
  · rename_i h
    exact castG gTupD_eq <| M.dg_tup C.calm (evGs_ok hG es h) (asg_len h).1 (asg_len h).2
  · exact dg_no
theorem evG_ok (C:COk k c X) {E:Expr→ME} (hE:∀ e,DE X e (E e)) (e:Expr):DG X e (evG c E e):=by
  have h1:=evG1_ok C hE
  cases e with
  | Tuple es j p=>
    refine evGt_ok C (fun e=>?_) es j
    cases e with
    | Tuple es j p=>exact evGt_ok C h1 es j
    | _=>exact h1 _
  | _=>exact h1 _
noncomputable def evI (c:CI) (E:Expr→ME) (tg it:Expr):MA:=match callOf it with
  | some (x,es)=>if x == "enumerate" && isBlt c x then (match tg,es with
      | .Tuple _ _ _,[a]=>if noStar a then mEnum (evA E [a]) else mNoA
      | _,_=>mNoA) else if x == "zip" && isBlt c x then (match tg,es with
      | .Tuple _ _ tp,[a,b]=>if noStar a&&noStar b then (mNoA) else mNoA
      | _,_=>mNoA) else if x == "range" && isBlt c x then (match es with
      | [a]=>if noStar a then mRange1 (evA E [a]) else mNoA
      | [a,b]=>if noStar a&&noStar b then mRange2 (evA E [a,b]) else mNoA
      | _=>mNoA) else mItS (E it)
  | none=>mItS (E it)
theorem evI_ok (C:COk k c X) {E:Expr→ME} (hE:∀ e,DE X e (E e)) {tg it:Expr}:DI X tg it (evI c E tg it):=by
  unfold evI
  split
  · rename_i x es he
    obtain ⟨p,p2,rfl⟩:=callOf_some he
    split
    · rename_i hx
      rw [Bool.and_eq_true] at hx
      obtain ⟨m,g,o⟩:=isBlt_ok C hx.2
      have z:=hx.1
      rw [beq_iff_eq] at z;subst z
      split
      · split
        · rename_i h
          exact castI mEnum_eq (M.di_enum m (evA_ok hE _) g (star_plain h))
        · exact di_no
      · exact di_no
    split
    · rename_i hx
      rw [Bool.and_eq_true] at hx
      obtain ⟨m,g,o⟩:=isBlt_ok C hx.2
      have z:=hx.1
      rw [beq_iff_eq] at z;subst z
      split
      · split
        · rename_i h
          rw [Bool.and_eq_true] at h
          exact di_no
        · exact di_no
      · exact di_no
    split
    · rename_i hx
      rw [Bool.and_eq_true] at hx
      obtain ⟨m,g,o⟩:=isBlt_ok C hx.2
      have z:=hx.1
      rw [beq_iff_eq] at z;subst z
      split
      · split
        · rename_i h
          exact castI mRange1_eq <| M.di_range1 m (evA_ok hE _) g (star_plain h)
        · exact di_no
      · split
        · rename_i h
          rw [Bool.and_eq_true] at h
          exact castI mRange2_eq <| M.di_range2 m (evA_ok hE _) g (by rw [star_plain h.1,star_plain h.2];rfl) (star_plain h.2)
        · exact di_no
      · exact di_no
    · exact castI mItS_eq <| M.di_seq (hE _)
  · exact castI mItS_eq <| M.di_seq (hE _)
noncomputable def isItC (c:CI) (it:Expr):Bool:=match callOf it with | some (x,_)=>(x == "enumerate" || x == "zip" || x == "range")&&isBlt c x | none=>false
noncomputable def relabelS (scope sc:Scope):Scope:={ scope with names:=scope.names.map fun x=>match x with | (n,k)=>if (k == NameKind.free&&sc.kind == .function&&sc.names.lookup n == some .cell)=true then (n,.cell) else (n,k) }
theorem relabelS_eq (scope:Scope) (env:Env):relabel scope env=relabelS scope env.scope:=rfl
noncomputable def blkN (scope:Scope):List Str:=(scope.names.filter fun x=>x.2 == .local && !(x.1 == (".0":Str))).map (·.1)++(scope.names.filter fun x=>x.2 == .free).map (·.1)
noncomputable def blkCap (c:CI) (scope:Scope):List (Option Nat):=(scope.names.filter fun x=>x.2 == .local && !(x.1 == (".0":Str))).map (fun _=>none)++(scope.names.filter fun x=>x.2 == .free).map (fun x=>ixOf x.1 c.N)
noncomputable def blkB (c:CI) (scope:Scope):Bool:=
  scope.kind == .function&&(scope.names.all fun x=>x.2 != .cell)&&(scope.names.all fun x=>x.2 != .local||scope.names.lookup x.1 == some .local)
  && (scope.names.all fun x=>x.2 != .free||c.sc.names.lookup x.1 == some .cell||c.sc.names.lookup x.1 == some .free)
  && capB c.N (blkN scope) (fun y=>c.sc.names.lookup y) (fun y=>(relabelS scope c.sc).names.lookup y) (blkCap c scope) (blkN scope)&&decide (blkN scope).Nodup
noncomputable def blkC (c:CI) (scope:Scope):CI:=⟨blkN scope,relabelS scope c.sc,false,c.gs,c.mt⟩
theorem blkB_ok {scope:Scope} (C:COk k c X) (h:blkB c scope=true):BlockOk X (blkN scope) scope (blkCap c scope)∧∀ A s H fp,COk k (blkC c scope) (cxB X (blkN scope) scope A s H fp):=by
  unfold blkB at h
  simp only [Bool.and_eq_true,decide_eq_true_eq,beq_iff_eq] at h
  obtain ⟨⟨⟨⟨⟨h1,h2⟩,h3⟩,h4⟩,h5⟩,h6⟩:=h
  refine ⟨blk h6 h1 h2 h3 ?_ ?_,fun A s H fp=>⟨rfl,h6,?_,h1,(fun z=>nomatch z),C.calm,C.room,rfl,C.gs⟩⟩
  · show (scope.names.all fun x=>x.2 != .free||X.env.scope.names.lookup x.1 == some .cell||X.env.scope.names.lookup x.1 == some .free)=true
    rw [C.sc];exact h4
  · show capB X.N (blkN scope) (fun y=>X.env.scope.names.lookup y) (fun y=>(relabelS scope X.env.scope).names.lookup y) (blkCap c scope) (blkN scope)=true
    rw [C.sc,C.N];exact h5
  · show relabelS scope X.env.scope=_
    rw [C.sc];rfl
noncomputable def evTs (T:Expr→MT):List Expr→MT
  | []=>mTrue
  | [e]=>T e
  | _=>mNoT
theorem evTs_ok {T:Expr→MT} (hT:∀ e,DT X e (T e)):∀ es:List Expr,DTs X es (evTs T es)
  | []=>castTs mTrue_eq <| M.dts_nilT
  | [e]=>dts_one (hT e)
  | _::_::_=>fun _ _ _ _ _ _ ⟨_,_,_,_,_,_,_,h,_⟩=>by cases h
noncomputable def evComp (c:CI) (E:CI→Expr→ME) (T:CI→Expr→MT) (elt:Expr) (gens:List Comprehension) (scope:Scope) (line:Nat):ME:=match gens with
  | [⟨tg,it,ifs,a⟩]=>if a == 0&&notSet it&&blkB c scope then if c.mt.contains (line+100000) then mNo else mComp (evI c (E c) tg it) (evG (blkC c scope) (E (blkC c scope)) tg) (evTs (T (blkC c scope)) ifs) (E (blkC c scope) elt) (blkCap c scope) else mNo
  | _=>mNo
theorem evComp_ok (C:COk k c X) (hE:∀ c X,COk k c X→∀ e,DE X e (E c e)) (hT:∀ c X,COk k c X→∀ e,DT X e (T c e)) {elt:Expr} {gens:List Comprehension} {scope:Scope} {line:Nat}:DE X (.ListComp elt gens scope pos) (evComp c E T elt gens scope line):=by
  unfold evComp
  split
  · rename_i tg it ifs a
    split
    · rename_i h
      simp only [Bool.and_eq_true,beq_iff_eq] at h
      obtain ⟨⟨h0,h1⟩,h2⟩:=h
      subst h0
      obtain ⟨B,C'⟩:=blkB_ok C h2
      split
      · exact de_no
      · exact castE mComp_eq <| M.de_comp C.calm B (evI_ok C (hE _ _ C)) (fun A s H fp=>evG_ok (C' A s H fp) (hE _ _ (C' A s H fp)) tg) (fun A s H fp=>evTs_ok (hT _ _ (C' A s H fp)) ifs) (fun A s H fp=>hE _ _ (C' A s H fp) elt) (notSet_fold h1)
    · exact de_no
  · exact de_no
noncomputable def evPs (E:Expr→ME):List (Option Expr)→List Expr→Option (List (ME×ME))
  | [],[]=>some []
  | some k::ks,v::vs=>(evPs E ks vs).bind fun r=>some ((E k,E v)::r)
  | _,_=>none
theorem evPs_ok {E:Expr→ME} (hE:∀ e,DE X e (E e)):∀ {ks:List (Option Expr)} {vs:List Expr} {ms:List (ME×ME)},evPs E ks vs=some ms→DPs X pos ks vs ms∧ks.all (·.isSome)=true∧ks.length=vs.length
  | [],[],ms,h=>by cases h;exact ⟨dps_nil,rfl,rfl⟩
  | some k::ks,v::vs,ms,h=>by
    obtain ⟨r,h1,h2⟩:=Option.bind_eq_some_iff.mp h
    cases h2
    obtain ⟨a,b,d⟩:=evPs_ok hE h1
    exact ⟨dps_cons (hE k) (hE v) a,by rw [List.all_cons,b];rfl,by rw [List.length_cons,List.length_cons,d]⟩
  | [],_::_,_,h=>by cases h
  | none::_,_,_,h=>by cases h
  | some _::_,[],_,h=>by cases h
noncomputable def evDict (c:CI) (E:Expr→ME) (ks:List (Option Expr)) (vs:List Expr) (line:Nat):ME:=match ks with
  | []=>if vs.isEmpty && !c.mt.contains line then mC (.dct [] []) else mNo
  | k::r=>if (k::r).length≤15 then (match evPs E (k::r) vs with | some ms=>if c.mt.contains line then mDictR ms else mDict ms | none=>mNo) else mNo
theorem evDict_ok {E:Expr→ME} (hE:∀ e,DE X e (E e)) (ks:List (Option Expr)) (vs:List Expr) (line:Nat):DE X (.Dict ks vs pos) (evDict c E ks vs line):=by
  unfold evDict
  split
  · split
    · rename_i h
      rw [Bool.and_eq_true] at h
      have:vs=[]:=by simpa using h.1
      subst this
      exact castE mC_eq <| M.de_dnew
    · exact de_no
  · rename_i k r
    split
    · rename_i hl
      split
      · rename_i ms h
        obtain ⟨a,b,d⟩:=evPs_ok (pos:=pos) hE h
        split
        · exact castE mDictR_eq (M.de_dispR a b d (by simp) hl)
        · exact castE mDict_eq (M.de_disp a b d (by simp) hl)
      · exact de_no
    · exact de_no
noncomputable def evJoin (E:Expr→ME):List Expr→ME
  | []=>mNo
  | _=>mNo
theorem evJoin_ok {E:Expr→ME} (hE:∀ e,DE X e (E e)):∀ es:List Expr,DE X (.JoinedStr es pos) (evJoin E es)
  | []=>de_no
  | _::_=>de_no
noncomputable def evFmt (E:Expr→ME) (v:Expr) (cv:Int) (f:Option Expr):ME:=match cv,f with
  | _,_=>mNo
theorem evFmt_ok {E:Expr→ME} (hE:∀ e,DE X e (E e)) {v:Expr} {cv:Int} {f:Option Expr}:DE X (.FormattedValue v cv f pos) (evFmt E v cv f):=by
  exact de_no
noncomputable def stepE (E:CI→Expr→ME) (T:CI→Expr→MT) (c:CI):Expr→ME
  | .Constant v _ _=>evConst v
  | .Name x _=>evName c x
  | .BinOp a op b p=>if c.mt.contains (p.line+700000) then evCat op (E c a) (E c b) else evBin (c.mt.contains (p.line+200000)) op (E c a) (E c b)
  | .UnaryOp op a _=>evUn op (E c a)
  | .Compare a ops bs _=>evCmp c E a ops bs
  | .BoolOp op vs _=>match op with | .And=>foldE mAnd (vs.map (E c)) | .Or=>foldE mOr (vs.map (E c))
  | .IfExp t a b _=>mIf (T c t) (E c a) (E c b)
  | .Tuple es _ _=>mTup (evA (E c) es)
  | .List es pos=>if c.mt.contains pos.line then mLstR (evA (E c) es) else mLst (evA (E c) es)
  | .Dict ks vs pos=>evDict c (E c) ks vs pos.line
  | .Subscript a i _=>evSub c (E c) a i
  | .Call f es ks p=>match nameOf f,attrOf f,ks with | some x,_,[]=>evCall c (E c) x es | none,some (o,nm,ap),[]=>evMeth (c.mt.contains 500000) (E c) o nm ap p es | _,_,_=>mNo
  | .ListComp elt gens scope p=>evComp c E T elt gens scope p.line
  | .JoinedStr es _=>evJoin (E c) es
  | .FormattedValue v cv f _=>evFmt (E c) v cv f
  | _=>mNo
noncomputable def stepT (E:CI→Expr→ME) (T:CI→Expr→MT) (c:CI):Expr→MT
  | .UnaryOp op a p=>match op with | .Not=>mNotT (T c a) | op=>mTru (E c (.UnaryOp op a p))
  | .BoolOp op vs _=>match op with | .And=>foldT mAndT (vs.map (T c)) | .Or=>foldT mOrT (vs.map (T c))
  | .Compare a ops bs _=>evCmpT c E a ops bs
  | .IfExp _ _ _ _=>mNoT
  | e=>mTru (E c e)
theorem stepE_ok (hE:∀ c X,COk k c X→∀ e,DE X e (E c e)) (hT:∀ c X,COk k c X→∀ e,DT X e (T c e)) (C:COk k c X) (e:Expr):DE X e (stepE E T c e):=by
  have h1:=hE c X C
  have h2:=hT c X C
  cases e with
  | Constant v j p=>exact evConst_ok v
  | Name x p=>exact evName_ok C x
  | BinOp a op b p=>
    show DE X _ (if c.mt.contains (p.line+700000) then evCat op (E c a) (E c b) else evBin (c.mt.contains (p.line+200000)) op (E c a) (E c b))
    split
    · exact evCat_ok (h1 a) (h1 b)
    · exact evBin_ok (z:=c.mt.contains (p.line+200000)) (h1 a) (h1 b)
  | UnaryOp op a p=>exact evUn_ok (h1 a)
  | Compare a ops bs p=>exact evCmp_ok C h1
  | BoolOp op vs p=>cases op with | And=>exact foldE_and h1 vs | Or=>exact foldE_or h1 vs
  | IfExp t a b p=>exact castE mIf_eq <| M.de_if (h2 t) (h1 a) (h1 b)
  | Tuple es j p=>exact castE mTup_eq <| M.de_tup (evA_ok h1 es)
  | List es p=>
    show DE X _ (if c.mt.contains p.line then mLstR (evA (E c) es) else mLst (evA (E c) es))
    split
    · exact castE mLstR_eq <| M.de_lstR (evA_ok h1 es)
    · exact castE mLst_eq <| M.de_lst (evA_ok h1 es)
  | Dict ks vs p=>exact evDict_ok h1 ks vs p.line
  | Subscript a i p=>exact evSub_ok C h1 a i
  | Call f es ks p=>
    show DE X _ (match nameOf f,attrOf f,ks with | some x,_,[]=>evCall c (E c) x es | none,some (o,nm,ap),[]=>evMeth (c.mt.contains 500000) (E c) o nm ap p es | _,_,_=>mNo)
    split
    · rename_i x h
      obtain ⟨p2,rfl⟩:=nameOf_some h
      exact evCall_ok C h1
    · rename_i o nm ap _ ha
      have:=attrOf_some ha
      subst this
      exact evMeth_ok C h1
    · exact de_no
  | ListComp elt gens scope p=>exact evComp_ok C hE hT
  | JoinedStr es p=>exact evJoin_ok h1 es
  | FormattedValue v cv f p=>exact evFmt_ok h1
  | _=>exact de_no
theorem stepT_ok (hE:∀ c X,COk k c X→∀ e,DE X e (E c e)) (hT:∀ c X,COk k c X→∀ e,DT X e (T c e)) (C:COk k c X) (e:Expr):DT X e (stepT E T c e):=by
  have h1:=hE c X C
  have h2:=hT c X C
  cases e with
  | UnaryOp op a p=>cases op <;> first | exact castT mNotT_eq <| M.dt_not (h2 a) | exact castT mTru_eq <| M.dt_truth (h1 _)
  | BoolOp op vs p=>cases op with | And=>exact foldT_and h2 vs | Or=>exact foldT_or h2 vs
  | Compare a ops bs p=>exact evCmpT_ok C h1
  | IfExp t a b p=>exact dt_no
  | _=>exact castT mTru_eq <| M.dt_truth (h1 _)
noncomputable def ev:Nat→(CI→Expr→ME)×(CI→Expr→MT)
  | 0=>(fun _ _=>mNo,fun _ _=>mNoT)
  | n+1=>(stepE (ev n).1 (ev n).2,stepT (ev n).1 (ev n).2)
theorem ev_ok:∀ n:Nat,(∀ c X,COk k c X→∀ e,DE X e ((ev n).1 c e))∧(∀ c X,COk k c X→∀ e,DT X e ((ev n).2 c e))
  | 0=>⟨fun _ _ _ _=>de_no,fun _ _ _ _=>dt_no⟩
  | n+1=>⟨fun _ _ C e=>stepE_ok (ev_ok n).1 (ev_ok n).2 C e,fun _ _ C e=>stepT_ok (ev_ok n).1 (ev_ok n).2 C e⟩
noncomputable def notComp:Expr→Bool
  | .ListComp _ _ _ _=>false
  | .SetComp _ _ _ _=>false
  | .DictComp _ _ _ _ _=>false
  | _=>true
theorem notComp_swaps {t:Option Expr} {l:Nat} (h:notComp e=true):swapsWith e t l X.env=pure false:=by cases e <;> first | rfl | cases h
noncomputable def isTup:Expr→Bool
  | .Tuple _ _ _=>true
  | .List _ _=>true
  | _=>false
theorem no_swapped {t:Expr} (h:isTup t=false∨isTup e=false):swappedStores [t] e X.env=pure none:=by
  rcases h with h | h
  · cases t <;> first | rfl | cases h
  · cases t <;> first | rfl | (cases e <;> first | rfl | cases h)
noncomputable def evAsgN (c:CI) (E:CI→Expr→ME) (T:CI→Expr→MT) (x:Str) (px:Pos) (e:Expr):MS:=match e with
  | .ListComp elt gens scope p=>if c.all&&(c.sc.names.lookup x == some .local&&px.line == p.line && !(scope.names.any fun y=>y.1 == x&&(y.2 == .local||y.2 == .cell))) then mAsg (evComp c E T elt gens scope p.line) (evGn c x) else if c.all&&c.sc.names.lookup x == some .cell then mAsg (evComp c E T elt gens scope p.line) (evGn c x) else mNoS
  | e=>if notComp e then mAsg (E c e) (evGn c x) else mNoS
noncomputable def par2:Expr→Option (Str×Pos×Str×Pos)
  | .Tuple [.Name x px,.Name y py] _ _=>some (x,px,y,py)
  | _=>none
theorem par2_some {t:Expr} {x y:Str} {px py:Pos} (h:par2 t=some (x,px,y,py)):∃ k p,t=.Tuple [.Name x px,.Name y py] k p:=by
  unfold par2 at h
  split at h
  · cases h;exact ⟨_,_,rfl⟩
  · cases h
noncomputable def tup2:Expr→Option (Expr×Expr)
  | .Tuple [a,b] _ _=>some (a,b)
  | _=>none
theorem tup2_some {t a b:Expr} (h:tup2 t=some (a,b)):∃ k p,t=.Tuple [a,b] k p:=by
  unfold tup2 at h
  split at h
  · cases h;exact ⟨_,_,rfl⟩
  · cases h
theorem swapped_no {x y:Str} {px py p p2:Pos} {k k2:Nat} {a b:Expr} (h:(X.env.kindOf x == some NameKind.local&&X.env.kindOf y == some NameKind.local)=false):swappedStores [.Tuple [.Name x px,.Name y py] k p] (.Tuple [a,b] k2 p2) X.env=pure none:=by
  unfold swappedStores
  simp only
  split
  · rfl
  split
  · rfl
  rw [if_pos]
  generalize hg:List.filterMap _ [Expr.Name x px,Expr.Name y py]=L
  have hL:L.length≤1:=by
    rw [← hg,List.filterMap_cons,List.filterMap_cons]
    cases hx:(X.env.kindOf x == some NameKind.local) with
    | false=>simp only [hx,Bool.false_and,Bool.false_eq_true,if_false];split <;> simp
    | true=>
      have hy:(X.env.kindOf y == some NameKind.local)=false:=by rw [hx,Bool.true_and] at h;exact h
      simp only [hy,Bool.false_and,Bool.false_eq_true,if_false];split <;> simp
  have h2:(L.length != [Expr.Name x px,Expr.Name y py].length)=true:=by
    rw [bne_iff_ne];show L.length≠2;omega
  rw [h2];rfl
noncomputable def notLoc2 (c:CI) (x y:Str):Bool:=!(c.sc.names.lookup x == some .local&&c.sc.names.lookup y == some .local)
noncomputable def evPar (c:CI) (E:CI→Expr→ME) (t e:Expr):Option MS:=match par2 t,tup2 e with
  | some (x,px,y,py),some (a,b)=>if notLoc2 c x y then some (mAsg (E c e) (evG c (E c) t)) else match ixOf x c.N,ixOf y c.N with
    | some i,some j=>if (c.all&&c.sc.names.lookup x == some .local&&c.sc.names.lookup y == some .local && !(x == y)&&py.line == px.line&&plainE a&&plainE b && !(foldedForSure 8 a&&foldedForSure 8 b) && !(constantsAlone 8 a&&constantsAlone 8 b) && !(i == j))=true then some (mPar i j (evA (E c) [a,b])) else none
    | _,_=>none
  | _,_=>none
theorem evPar_ok (C:COk k c X) {E:CI→Expr→ME} (hE:∀ e,DE X e (E c e)) {t:Expr} {m:MS} (h:evPar c E t e=some m):DS X (.Assign [t] e pos) m:=by
  unfold evPar at h
  split at h
  · rename_i x px y py a b h1 h2
    obtain ⟨k1,p1,rfl⟩:=par2_some h1
    obtain ⟨k2,p2,rfl⟩:=tup2_some h2
    split at h
    · rename_i hn
      cases h
      refine castS mAsg_eq <| M.ds_asg (hE _) (evG_ok C hE _) rfl (swapped_no ?_) rfl
      unfold notLoc2 at hn
      rw [Bool.not_eq_true'] at hn
      show (X.env.scope.names.lookup x == some NameKind.local&&X.env.scope.names.lookup y == some NameKind.local)=false
      rw [C.sc];exact hn
    split at h
    · rename_i i j hi hj
      split at h
      · rename_i hc
        cases h
        simp only [Bool.and_eq_true,beq_iff_eq,Bool.not_eq_true'] at hc
        obtain ⟨⟨⟨⟨⟨⟨⟨⟨⟨_,hx⟩,hy⟩,hne⟩,hl⟩,ha⟩,hb⟩,hf⟩,hcn⟩,hij⟩:=hc
        have hx':X.env.scope.names.lookup x=some .local:=by rw [C.sc];exact hx
        have hy':X.env.scope.names.lookup y=some .local:=by rw [C.sc];exact hy
        have hbk:X.env.blockKind=.function:=by unfold Env.blockKind;rw [C.sc,C.fk];rfl
        exact castS mPar_eq (M.ds_par C.calm (by rw [C.N];exact C.nd) (by rw [C.N];exact ixOf_some hi) (by rw [C.N];exact ixOf_some hj) (by simpa using hij) hx' hy' (evA_ok hE _) (swapped2 hbk hx' hy' hne (by simpa using hl) ha hb hf hcn))
      · cases h
    · cases h
  · cases h
noncomputable def evAsg (c:CI) (E:CI→Expr→ME) (T:CI→Expr→MT) (t e:Expr):MS:=match t with
  | .Name x px=>evAsgN c E T x px e
  | t=>match evPar c E t e with
  | some m=>m
  | none=>if notComp e&&noStar t&&(!isTup t || !isTup e) then mAsg (E c e) (evG c (E c) t) else mNoS
theorem mAsg_gNo {m:ME} {s:Stmt}:DS X s (mAsg m gNo):=fun _ _ _ _ _ _ ⟨_,_,_,_,_,_,h,_⟩=>by
  rw [mAsg_eq] at h
  obtain ⟨_,_,h⟩:=Option.bind_eq_some_iff.mp h
  cases h
theorem evAsgN_ok (C:COk k c X) (hE:∀ c X,COk k c X→∀ e,DE X e (E c e)) (hT:∀ c X,COk k c X→∀ e,DT X e (T c e)) {x:Str} {px:Pos}:DS X (.Assign [.Name x px] e pos) (evAsgN c E T x px e):=by
  have h1:=hE c X C
  have gen:∀ e,notComp e=true→DS X (.Assign [.Name x px] e pos) (mAsg (E c e) (evGn c x)):=fun e hn=>by
    unfold evGn
    split
    · rename_i h1' h2
      exact castS mAsgSet_eq <| M.ds_set (by rw [C.N];exact C.nd) (by rw [C.N];exact ixOf_some h2) (by rw [C.sc];exact .inl h1') (h1 e) (notComp_swaps hn) (.inr (by rw [C.sc];exact h1'))
    · rename_i h1' h2
      split
      · rename_i ha
        exact castS mAsgSet_eq <| M.ds_set (by rw [C.N];exact C.nd) (by rw [C.N];exact ixOf_some h2) (by rw [C.sc];exact .inr h1') (h1 e) (notComp_swaps hn) (.inl (C.fn ha x))
      · exact mAsg_gNo
    · exact mAsg_gNo
  cases e with
  | ListComp elt gens scope p=>
    show DS X _ (if c.all&&(c.sc.names.lookup x == some .local&&px.line == p.line && !(scope.names.any fun y=>y.1 == x&&(y.2 == .local||y.2 == .cell))) then mAsg (evComp c E T elt gens scope p.line) (evGn c x) else if c.all&&c.sc.names.lookup x == some .cell then mAsg (evComp c E T elt gens scope p.line) (evGn c x) else mNoS)
    split
    · rename_i hw
      rw [Bool.and_eq_true] at hw
      have hw1:=hw.2
      simp only [Bool.and_eq_true,beq_iff_eq] at hw1
      have hl:=hw1.1.1
      unfold evGn
      rw [hl]
      cases hi:ixOf x c.N with
      | none=>exact mAsg_gNo
      | some i=>
        have sw:(pure (X.env.blockKind == .function&&X.env.scope.names.lookup x == some .local&&px.line == p.line && !(scope.names.any fun y=>y.1 == x&&(y.2 == .local||y.2 == .cell))):Sem Bool)=pure true:=by
          have hb:X.env.blockKind=.function:=by unfold Env.blockKind;rw [C.sc,C.fk];rfl
          rw [hb,C.sc]
          have:=hw.2
          simp only [Bool.and_assoc] at this ⊢
          rw [this];rfl
        unfold evComp
        split
        · rename_i tg it ifs a
          split
          · rename_i h
            simp only [Bool.and_eq_true,beq_iff_eq] at h
            obtain ⟨⟨h0,h1'⟩,h2⟩:=h
            subst h0
            obtain ⟨B,C'⟩:=blkB_ok C h2
            split
            · exact ds_asgNo
            · exact castS mAsgComp_eq <| M.ds_setComp (by rw [C.N];exact C.nd) (by rw [C.N];exact ixOf_some hi) (by rw [C.sc];exact .inl hl) C.calm B (evI_ok C (hE _ _ C)) (fun A s H fp=>evG_ok (C' A s H fp) (hE _ _ (C' A s H fp)) tg) (fun A s H fp=>evTs_ok (hT _ _ (C' A s H fp)) ifs) (fun A s H fp=>hE _ _ (C' A s H fp) elt) sw (notSet_fold h1') (.inr (by rw [C.sc];exact hl))
          · intro _ _ _ _ _ _ ⟨_,_,_,_,_,_,h,_⟩
            rw [mAsg_eq] at h
            obtain ⟨_,z,h⟩:=Option.bind_eq_some_iff.mp h
            cases z
        · intro _ _ _ _ _ _ ⟨_,_,_,_,_,_,h,_⟩
          rw [mAsg_eq] at h
          obtain ⟨_,z,h⟩:=Option.bind_eq_some_iff.mp h
          cases z
    · split
      · rename_i hw
        rw [Bool.and_eq_true,beq_iff_eq] at hw
        unfold evGn
        rw [hw.2]
        cases hi:ixOf x c.N with
        | none=>exact mAsg_gNo
        | some i=>
          dsimp only
          rw [if_pos hw.1]
          refine castS mAsgSet_eq <| M.ds_set (by rw [C.N];exact C.nd) (by rw [C.N];exact ixOf_some hi) (by rw [C.sc];exact .inr hw.2) (evComp_ok C hE hT) ?_ (.inl (C.fn hw.1 x))
          show (pure (X.env.blockKind == .function&&X.env.scope.names.lookup x == some .local&&px.line == p.line && !(scope.names.any fun y=>y.1 == x&&(y.2 == .local||y.2 == .cell))):Sem Bool)=pure false
          rw [C.sc,hw.2]
          have:((some NameKind.cell:Option NameKind) == some .local)=false:=by decide
          rw [this,Bool.and_false];rfl
      · exact ds_no
  | SetComp _ _ _ _=>exact ds_no
  | DictComp _ _ _ _ _=>exact ds_no
  | _=>exact gen _ rfl
theorem evAsg_ok (C:COk k c X) (hE:∀ c X,COk k c X→∀ e,DE X e (E c e)) (hT:∀ c X,COk k c X→∀ e,DT X e (T c e)) {t:Expr}:DS X (.Assign [t] e pos) (evAsg c E T t e):=by
  have gen:∀ t,DS X (.Assign [t] e pos) (match evPar c E t e with | some m=>m | none=>if notComp e&&noStar t&&(!isTup t || !isTup e) then mAsg (E c e) (evG c (E c) t) else mNoS):=fun t=>by
    split
    · rename_i h
      exact evPar_ok C (hE _ _ C) h
    split
    · rename_i h
      simp only [Bool.and_eq_true,Bool.or_eq_true,Bool.not_eq_true'] at h
      refine castS mAsg_eq <| M.ds_asg (hE _ _ C e) (evG_ok C (hE _ _ C) t) (notComp_swaps h.1.1) (no_swapped h.2) ?_
      rw [asg_plain h.1.2];rfl
    · exact ds_no
  cases t with
  | Name x px=>exact evAsgN_ok C hE hT
  | _=>exact gen _
noncomputable def seqM:List MS→MS
  | []=>mSkip
  | [m]=>m
  | m::r=>mSeq m (seqM r)
theorem seqM_ok {F:Stmt→MS} (h:∀ s,DS X s (F s)):∀ ss:List Stmt,DSs X ss (seqM (ss.map F))
  | []=>castSs mSkip_eq <| M.dss_nil
  | [s]=>dss_one (h s)
  | s::s'::r=>castSs mSeq_eq <| M.dss_cons (h s) (seqM_ok h (s'::r))
noncomputable def isStrC:Expr→Bool
  | .Constant (.str _) _ _=>true
  | _=>false
noncomputable def stepS (E:CI→Expr→ME) (T:CI→Expr→MT) (F:CI→Stmt→MS) (c:CI):Stmt→MS
  | .Return o _=>match o with | some e=>mRet (E c e) | none=>fun _ S=>some (.rt .non S)
  | .Pass _=>mSkip
  | .Break _=>fun env S=>some (.bk env S)
  | .Continue _=>fun env S=>some (.ct env S)
  | .Expr e _=>if isStrC e then mSkip else if notComp e then mDrop (E c e) else mNoS
  | .If t a b _=>mIfS (T c t) (seqM (a.map (F c))) (seqM (b.map (F c)))
  | .Assign ts e _=>match ts with | [t]=>evAsg c E T t e | _=>mNoS
  | .While tst body els _=>match els with | []=>mNoS | _=>mNoS
  | .For tg it body els _=>match els with | []=>if notSet it then (if isItC c it then mFor (evI c (E c) tg it) (evG c (E c) tg) (seqM (body.map (F c))) else mForD (E c it) (evG c (E c) tg) (seqM (body.map (F c)))) else mNoS | _=>mNoS
  | _=>mNoS
theorem stepS_ok {F:CI→Stmt→MS} (hE:∀ c X,COk k c X→∀ e,DE X e (E c e)) (hT:∀ c X,COk k c X→∀ e,DT X e (T c e)) (hF:∀ c X,COk k c X→∀ e,DS X e (F c e)) (C:COk k c X) (s:Stmt):DS X s (stepS E T F c s):=by
  have h1:=hE c X C
  have h2:=hT c X C
  have h3:=hF c X C
  cases s with
  | Return o p=>cases o with | none=>exact ds_retN | some e=>exact castS mRet_eq <| M.ds_ret (h1 e)
  | Pass p=>exact castS mSkip_eq <| M.ds_pass
  | Break p=>exact ds_break
  | Continue p=>exact ds_continue
  | Expr e p=>
    show DS X _ (if isStrC e then mSkip else if notComp e then mDrop (E c e) else mNoS)
    split
    · rename_i h
      unfold isStrC at h
      split at h
      · exact castS mSkip_eq <| M.ds_doc
      · cases h
    · split
      · rename_i h;exact castS mDrop_eq <| M.ds_expr (h1 e) (notComp_swaps h)
      · exact ds_no
  | If t a b p=>exact castS mIfS_eq <| M.ds_if (h2 t) (seqM_ok h3 a) (seqM_ok h3 b)
  | Assign ts e p=>
    show DS X _ (match ts with | [t]=>evAsg c E T t e | _=>mNoS)
    split
    · exact evAsg_ok C hE hT
    · exact ds_no
  | While tst body els p=>
    cases els with
    | nil=>exact ds_no
    | cons _ _=>exact ds_no
  | For tg it body els p=>
    cases els with
    | nil=>
      show DS X _ (if notSet it then (if isItC c it then mFor (evI c (E c) tg it) (evG c (E c) tg) (seqM (body.map (F c))) else mForD (E c it) (evG c (E c) tg) (seqM (body.map (F c)))) else mNoS)
      split
      · rename_i h
        split
        · exact castS mFor_eq <| M.ds_for (by rw [C.xe];exact PassesOwn.never) C.calm (evI_ok C h1) (evG_ok C h1 tg) (seqM_ok h3 body) (notSet_fold h)
        · exact castS mForD_eq <| M.ds_forD (by rw [C.xe];exact PassesOwn.never) C.calm (h1 it) (evG_ok C h1 tg) (seqM_ok h3 body) (notSet_fold h)
      · exact ds_no
    | cons _ _=>exact ds_no
  | _=>exact ds_no
noncomputable def evS (n:Nat):Nat→CI→Stmt→MS
  | 0=>fun _ _=>mNoS
  | m+1=>stepS (ev n).1 (ev n).2 (evS n m)
theorem evS_ok (n:Nat):∀ m:Nat,∀ c X,COk k c X→∀ s,DS X s (evS n m c s)
  | 0=>fun _ _ _ _=>ds_no
  | m+1=>fun _ _ C s=>stepS_ok (ev_ok n).1 (ev_ok n).2 (evS_ok n m) C s
noncomputable def evB (c:CI) (body:List Stmt):MS:=seqM (body.map (evS 40 20 c))
theorem evB_ok (C:COk k c X) (body:List Stmt):DSs X body (evB c body):=seqM_ok (evS_ok 40 20 c X C) body
end
end
noncomputable def cOf (N:List Str) (st:Stmt) (gs:List (Str×GI)) (mt:List Nat):CI:=⟨N,defScope st,true,gs,mt⟩
noncomputable def GK (P:Program) (w:World) (K:PySem.W.Frag) (mg:Str→Option Value) (base:Heap) (k:Nat) (p:Str×GI):Prop:=match p.2 with
  | .fn n f=>Fn P w K mg base k p.1 n f
  | .con d=>GC K mg p.1 d
  | .blt=>mg p.1=none
  | .tab l=>TabAt w K mg p.1 l
theorem def_ev {P:Program} {w:World} {K:PySem.W.Frag} {mg:Str→Option Value} {base:Heap} {k:Nat} {x:Str} {st:Stmt} {N ps:List Str} {gs:List (Str×GI)} {mt:List Nat}
    (F:DefAt K mg x st) (Sc:FnScope N ps (defScope st)) (hb:BindOk x st ps) (hg:∀ p∈gs,GK P w K mg base k p) :
    Fn P w K mg base (k+1) x ps.length (runM N (evB (cOf N st gs mt) (defBody st)) ps.length):=
  def_ok F Sc hb fun a cdv A outer s H E hr=>evB_ok (k:=k) ⟨rfl,Sc.nd,rfl,Sc.kind,fun _ _=>rfl,rfl,hr,rfl,fun p hp=>by
    have:=hg p hp
    obtain ⟨x,g⟩:=p
    cases g <;> exact this⟩ _
end MI
namespace MI
open PySem PySem.Spec PyProof.Rows L2 M
noncomputable def GKs (P:Program) (w:World) (K:PySem.W.Frag) (mg:Str→Option Value) (base:Heap) (k:Nat):List (Str×GI)→Prop
  | []=>True
  | p::r=>GK P w K mg base k p∧GKs P w K mg base k r
theorem GKs.mem {P:Program} {w:World} {K:PySem.W.Frag} {mg:Str→Option Value} {base:Heap} {k:Nat}:∀ {gs:List (Str×GI)},GKs P w K mg base k gs→∀ p∈gs,GK P w K mg base k p
  | q::r,h,p,hp=>by
    rcases List.mem_cons.mp hp with rfl | hp
    · exact h.1
    · exact GKs.mem h.2 p hp
theorem law_ev {P:Program} {w:World} {K:PySem.W.Frag} {mg:Str→Option Value} {k:Nat} {st:Stmt} {N:List Str} {gs:List (Str×GI)} {mt:List Nat} {fa:Addr} (F:DefAt K mg "law" st) (hfa:mg "law" = some (.ref fa)) (Sc:FnScope N ["_law_script"] (defScope st))
    (hbt:∀ (kV doc pm:Value) (an:Option Addr) (cdv ct v:Value),bindArgs (PySem.W.fnOf "law" "law" (defArgs st) (defBody st) (defScope st) .none kV doc pm an cdv ct) ⟨[v],[]⟩=pure [(("_law_script":Str),v)])
    (hg:∀ base,GKs P w K mg base k gs) :
    ∃ fd:FuncData,(∀ (s:Shared) (v:Value),BindsTo s fd ⟨[v],[]⟩ [("_law_script",v)])∧∀ base:Heap,K.In base→base.Ns mainGlobals mg→FnOk P w K mg base CX0 (k+1) fa fd ["_law_script"] (spM K 1 (runM N (evB (cOf N st gs mt) (defBody st)) 1)):=
  law_of F hfa Sc hbt fun base a cdv A outer s H E hr=>evB_ok (k:=k) ⟨rfl,Sc.nd,rfl,Sc.kind,fun _ _=>rfl,rfl,hr,rfl,fun p hp=>by
    have:=GKs.mem (hg base) p hp
    obtain ⟨x,g⟩:=p
    cases g <;> exact this⟩ _
end MI
namespace MI
open PySem PySem.Spec PyProof.Rows L2 M
section
variable {P:List Value→Prop}
theorem us0 (h:P []):∀ us:List Value,us.length=0→P us:=fun us e=>by rw [List.eq_nil_of_length_eq_zero e];exact h
theorem usS {n:Nat} (h:∀ a,∀ us:List Value,us.length=n→P (a::us)):∀ us:List Value,us.length=n+1→P us:=fun us e=>by
  cases us with
  | nil=>cases e
  | cons a us=>exact h a us (Nat.succ.inj e)
end
noncomputable def recF (N:List Str) (st:Stmt) (gs:List (Str×GI)) (mt:List Nat) (x:Str) (a:Nat):Nat→List D→Store→Option (D×Store)
  | 0=>fun _ _=>none
  | n+1=>runM N (evB (cOf N st ((x,.fn a (recF N st gs mt x a n))::gs) mt) (defBody st)) a
section
variable {P:Program} {w:World} {K:PySem.W.Frag} {mg:Str→Option Value} {base:Heap} {k:Nat} {x:Str} {st:Stmt} {N ps:List Str} {gs:List (Str×GI)} {mt:List Nat}
theorem GK.up {k':Nat} (h:k≤k'):∀ {p:Str×GI},GK P w K mg base k p→GK P w K mg base k' p
  | (_,.fn _ _),g=>Fn.up g h
  | (_,.con _),g=>g
  | (_,.blt),g=>g
  | (_,.tab _),g=>g
theorem fn_none (F:DefAt K mg x st) (Sc:FnScope N ps (defScope st)) (hb:BindOk x st ps):Fn P w K mg base (k+1) x ps.length (fun _ _=>none):=by
  obtain ⟨a,fd,F,hmg⟩:=F.ex
  exact fn_mk F Sc hmg (F.binds hb) fun cdv A outer s H E hr=>⟨mNoS,dss_no,fun ds S d S' _ _ _ h=>by cases h⟩
theorem rec_ok (F:DefAt K mg x st) (Sc:FnScope N ps (defScope st)) (hb:BindOk x st ps) (hg:GKs P w K mg base k gs):∀ n,Fn P w K mg base (k+1+n) x ps.length (recF N st gs mt x ps.length n)
  | 0=>fn_none F Sc hb
  | n+1=>def_ev (k:=k+1+n) F Sc hb fun p hp=>by
    rcases List.mem_cons.mp hp with rfl | hp
    · exact rec_ok F Sc hb hg n
    · exact GK.up (by omega) (GKs.mem hg p hp)
end
end MI
namespace MI
open PySem PySem.Spec PyProof.Rows L2 M
section
variable {env e:MEnv} {S S':Store} {x y d:D} {f g:Store→D→D→Option D} {a b c:ME} {ms:MA} {t u:MT} {k l:Bool} {p q:MS} {tg:MG}
@[simp high] theorem ob {α β:Type} {a:α} {f:α→Option β}:(some a).bind f=f a:=id rfl
@[simp high] theorem obn {α β:Type} {f:α→Option β}:(none:Option α).bind f=none:=id rfl
@[simp high] theorem oj {α:Type} {a:Option α}:(some a).join=a:=rfl
@[simp high] theorem lg0 {α:Type} {a:α} {l:List α}:(a::l)[0]?=some a:=rfl
@[simp high] theorem lg1 {α:Type} {a b:α} {l:List α}:(a::b::l)[1]?=some b:=rfl
@[simp high] theorem lgS {α:Type} {a:α} {l:List α} {i:Nat}:(a::l)[i+1]?=l[i]?:=rfl
@[simp high] theorem ls0 {α:Type} {a b:α} {l:List α}:(a::l).set 0 b=b::l:=rfl
@[simp high] theorem lsS {α:Type} {a b:α} {l:List α} {i:Nat}:(a::l).set (i+1) b=a::l.set i b:=rfl
noncomputable def kRet (S:Store) (z:D):Option (D×Store):=some (z,S)
@[simp] theorem kRet_s:kRet S d=some (d,S):=rfl
@[simp] theorem mC_s:mC d env S=some (d,S):=by rw [mC_eq];rfl
@[simp] theorem mVar_s {i:Nat}:mVar i env S=(env[i]?).join.bind (kRet S):=by rw [mVar_eq];rfl
noncomputable def kOp2 (f:Store→D→D→Option D) (x:D) (q:D×Store):Option (D×Store):=(f q.2 x q.1).bind (kRet q.2)
noncomputable def kOp1 (f:Store→D→D→Option D) (b:ME) (env:MEnv) (q:D×Store):Option (D×Store):=(b env q.2).bind (kOp2 f q.1)
@[simp] theorem kOp1_s:kOp1 f b env (x,S)=(b env S).bind (kOp2 f x):=id rfl
@[simp] theorem kOp2_s:kOp2 f x (y,S)=(f S x y).bind (kRet S):=id rfl
@[simp] theorem mOp_s:mOp f a b env S=(a env S).bind (kOp1 f b env):=by rw [mOp_eq];rfl
noncomputable def kTest (q:D×Store):Option (Bool×Store):=match q.1 with | .bl k=>some (k,q.2) | _=>none
@[simp] theorem kTest_s:kTest (.bl k,S)=some (k,S):=id rfl
@[simp] theorem mTest_s:mTest a env S=(a env S).bind kTest:=by rw [mTest_eq];rfl
noncomputable def kCh3 (g:Store→D→D→Option D) (y:D) (q:D×Store):Option (D×Store):=(g q.2 y q.1).bind (kRet q.2)
noncomputable def kChz (g:Store→D→D→Option D) (c:ME) (env:MEnv) (y:D) (S:Store) (z:D):Option (D×Store):=match z with
  | .bl true=>(c env S).bind (kCh3 g y)
  | .bl false=>some (.bl false,S)
  | _=>none
noncomputable def kCh2 (f g:Store→D→D→Option D) (c:ME) (env:MEnv) (x:D) (q:D×Store):Option (D×Store):=(f q.2 x q.1).bind (kChz g c env q.1 q.2)
noncomputable def kCh1 (f g:Store→D→D→Option D) (b c:ME) (env:MEnv) (q:D×Store):Option (D×Store):=(b env q.2).bind (kCh2 f g c env q.1)
@[simp] theorem kCh1_s:kCh1 f g b c env (x,S)=(b env S).bind (kCh2 f g c env x):=id rfl
@[simp] theorem kCh2_s:kCh2 f g c env x (y,S)=(f S x y).bind (kChz g c env y S):=id rfl
@[simp] theorem kChz_t:kChz g c env y S (.bl true)=(c env S).bind (kCh3 g y):=id rfl
@[simp] theorem kChz_f:kChz g c env y S (.bl false)=some (.bl false,S):=id rfl
@[simp] theorem kCh3_s:kCh3 g y (x,S)=(g S y x).bind (kRet S):=id rfl
@[simp] theorem mChain_s:mChain f g a b c env S=(a env S).bind (kCh1 f g b c env):=by
  rw [mChain_eq];unfold M.mChain kCh1 kCh2 kChz
  congr 1
noncomputable def kTru (q:D×Store):Option (Bool×Store):=(truD q.2 q.1).bind fun k=>some (k,q.2)
@[simp] theorem kTru_b:kTru (.bl k,S)=some (k,S):=id rfl
@[simp] theorem kTru_n:kTru (.non,S)=some (false,S):=id rfl
@[simp] theorem kTru_i {i:Int}:kTru (.int i,S)=some (i != 0,S):=id rfl
@[simp] theorem kTru_t {xs:List D}:kTru (.tup xs,S)=some (!xs.isEmpty,S):=id rfl
@[simp] theorem kTru_l {xs:List D}:kTru (.lst xs,S)=some (!xs.isEmpty,S):=id rfl
@[simp] theorem mTru_s:mTru a env S=(a env S).bind kTru:=by rw [mTru_eq];rfl
noncomputable def kAndT (u:MT) (env:MEnv) (q:Bool×Store):Option (Bool×Store):=if q.1=true then u env q.2 else some (false,q.2)
noncomputable def kOrT (u:MT) (env:MEnv) (q:Bool×Store):Option (Bool×Store):=if q.1=true then some (true,q.2) else u env q.2
noncomputable def kNotT (q:Bool×Store):Option (Bool×Store):=some (!q.1,q.2)
@[simp] theorem kAndT_t:kAndT u env (true,S)=u env S:=id rfl
@[simp] theorem kAndT_f:kAndT u env (false,S)=some (false,S):=id rfl
@[simp] theorem kOrT_t:kOrT u env (true,S)=some (true,S):=id rfl
@[simp] theorem kOrT_f:kOrT u env (false,S)=u env S:=id rfl
@[simp] theorem kNotT_s:kNotT (k,S)=some (!k,S):=id rfl
@[simp] theorem mAndT_s:mAndT t u env S=(t env S).bind (kAndT u env):=by rw [mAndT_eq];rfl
@[simp] theorem mOrT_s:mOrT t u env S=(t env S).bind (kOrT u env):=by rw [mOrT_eq];rfl
@[simp] theorem mNotT_s:mNotT t env S=(t env S).bind kNotT:=by rw [mNotT_eq];rfl
@[simp] theorem mTrue_s:mTrue env S=some (true,S):=by rw [mTrue_eq];rfl
noncomputable def kAnd (b:ME) (env:MEnv) (q:D×Store):Option (D×Store):=(truD q.2 q.1).bind fun k=>if k=true then b env q.2 else some (q.1,q.2)
noncomputable def kOr (b:ME) (env:MEnv) (q:D×Store):Option (D×Store):=(truD q.2 q.1).bind fun k=>if k=true then some (q.1,q.2) else b env q.2
@[simp] theorem kAnd_t:kAnd b env (.bl true,S)=b env S:=id rfl
@[simp] theorem kAnd_f:kAnd b env (.bl false,S)=some (.bl false,S):=id rfl
@[simp] theorem kOr_t:kOr b env (.bl true,S)=some (.bl true,S):=id rfl
@[simp] theorem kOr_f:kOr b env (.bl false,S)=b env S:=id rfl
@[simp] theorem mAnd_s:mAnd a b env S=(a env S).bind (kAnd b env):=by rw [mAnd_eq];rfl
@[simp] theorem mOr_s:mOr a b env S=(a env S).bind (kOr b env):=by rw [mOr_eq];rfl
noncomputable def kNotV (q:D×Store):Option (D×Store):=(truD q.2 q.1).bind fun k=>some (.bl (!k),q.2)
@[simp] theorem kNotV_l {xs:List D}:kNotV (.lst xs,S)=some (.bl (!!xs.isEmpty),S):=id rfl
@[simp] theorem kNotV_t {xs:List D}:kNotV (.tup xs,S)=some (.bl (!!xs.isEmpty),S):=id rfl
@[simp] theorem kOr_c {d:D} {ds:List D}:kOr b env (.lst (d::ds),S)=some (.lst (d::ds),S):=id rfl
@[simp] theorem kOr_e:kOr b env (.lst [],S)=b env S:=id rfl
@[simp] theorem kNotV_s:kNotV (.bl k,S)=some (.bl (!k),S):=id rfl
@[simp] theorem mNotV_s:mNotV a env S=(a env S).bind kNotV:=by rw [mNotV_eq];rfl
noncomputable def kIf (a b:ME) (env:MEnv) (q:Bool×Store):Option (D×Store):=if q.1=true then a env q.2 else b env q.2
@[simp] theorem kIf_t:kIf a b env (true,S)=a env S:=id rfl
@[simp] theorem kIf_f:kIf a b env (false,S)=b env S:=id rfl
@[simp] theorem mIf_s:mIf t a b env S=(t env S).bind (kIf a b env):=by rw [mIf_eq];rfl
@[simp] theorem mNil_s:mNil env S=some ([],S):=by rw [mNil_eq];rfl
noncomputable def kCons2 (x:D) (q:List D×Store):Option (List D×Store):=some (x::q.1,q.2)
noncomputable def kCons1 (ms:MA) (env:MEnv) (q:D×Store):Option (List D×Store):=(ms env q.2).bind (kCons2 q.1)
@[simp] theorem kCons2_s {xs:List D}:kCons2 x (xs,S)=some (x::xs,S):=id rfl
@[simp] theorem kCons1_s:kCons1 ms env (x,S)=(ms env S).bind (kCons2 x):=id rfl
@[simp] theorem mCons_s:mCons a ms env S=(a env S).bind (kCons1 ms env):=by rw [mCons_eq];rfl
noncomputable def kTup (q:List D×Store):Option (D×Store):=if q.1.length≤sizeLine then some (.tup q.1,q.2) else none
noncomputable def kLst (q:List D×Store):Option (D×Store):=if q.1.length≤sizeLine then some (.lst q.1,q.2) else none
noncomputable def kLstR (q:List D×Store):Option (D×Store):=if q.1.length≤sizeLine then some (.ref q.2.length,q.2++[.lst q.1]) else none
theorem sz {n:Nat} (h:n≤1000):n≤sizeLine:=Nat.le_trans h (by decide)
theorem kTup_of {xs:List D} (h:xs.length≤1000):kTup (xs,S)=some (.tup xs,S):=if_pos (sz h)
theorem kLst_of {xs:List D} (h:xs.length≤1000):kLst (xs,S)=some (.lst xs,S):=if_pos (sz h)
theorem kLstR_of {xs:List D} (h:xs.length≤1000):kLstR (xs,S)=some (.ref S.length,S++[.lst xs]):=if_pos (sz h)
@[simp] theorem mTup_s:mTup ms env S=(ms env S).bind kTup:=by rw [mTup_eq];rfl
@[simp] theorem mLst_s:mLst ms env S=(ms env S).bind kLst:=by rw [mLst_eq];rfl
@[simp] theorem mLstR_s:mLstR ms env S=(ms env S).bind kLstR:=by rw [mLstR_eq];rfl
noncomputable def kCall (f:List D→Store→Option (D×Store)) (q:List D×Store):Option (D×Store):=f q.1 q.2
@[simp] theorem kCall_s {f:List D→Store→Option (D×Store)} {xs:List D}:kCall f (xs,S)=f xs S:=id rfl
@[simp] theorem mCall_s {f:List D→Store→Option (D×Store)}:mCall f ms env S=(ms env S).bind (kCall f):=by rw [mCall_eq];rfl
noncomputable def kCallN (n:Nat) (f:List D→Store→Option (D×Store)) (q:List D×Store):Option (D×Store):=if q.1.length=n then f q.1 q.2 else none
@[simp] theorem kCallN_0 {f:List D→Store→Option (D×Store)}:kCallN 0 f ([],S)=f [] S:=id rfl
@[simp] theorem kCallN_1 {f:List D→Store→Option (D×Store)}:kCallN 1 f ([x],S)=f [x] S:=id rfl
@[simp] theorem kCallN_2 {f:List D→Store→Option (D×Store)}:kCallN 2 f ([x,y],S)=f [x,y] S:=id rfl
@[simp] theorem kCallN_3 {f:List D→Store→Option (D×Store)} {z:D}:kCallN 3 f ([x,y,z],S)=f [x,y,z] S:=id rfl
@[simp] theorem kCallN_4 {f:List D→Store→Option (D×Store)} {z w:D}:kCallN 4 f ([x,y,z,w],S)=f [x,y,z,w] S:=id rfl
@[simp] theorem mCallN_s {n:Nat} {f:List D→Store→Option (D×Store)}:mCallN n f ms env S=(ms env S).bind (kCallN n f):=by rw [mCallN_eq];rfl
noncomputable def kIsI (T:String) (q:D×Store):Option (D×Store):=(fIsI T q.2 q.1).bind (kRet q.2)
@[simp] theorem kIsI_s {T:String}:kIsI T (x,S)=(fIsI T S x).bind (kRet S):=id rfl
@[simp] theorem mIsI_s {T:String}:mIsI T a env S=(a env S).bind (kIsI T):=by rw [mIsI_eq];rfl
noncomputable def kUn (f:Store→D→Option D) (q:D×Store):Option (D×Store):=(f q.2 q.1).bind (kRet q.2)
@[simp] theorem kUn_s {f:Store→D→Option D}:kUn f (x,S)=(f S x).bind (kRet S):=id rfl
@[simp] theorem mUn_s {f:Store→D→Option D}:mUn f a env S=(a env S).bind (kUn f):=by rw [mUn_eq];rfl
@[simp] theorem mPartN_s:mPartN env S=some (none,S):=by rw [mPartN_eq];rfl
noncomputable def kPart (q:D×Store):Option (Option Int×Store):=match q.1 with | .int i=>some (some i,q.2) | _=>none
@[simp] theorem kPart_s {i:Int}:kPart (.int i,S)=some (some i,S):=id rfl
@[simp] theorem mPart_s:mPart a env S=(a env S).bind kPart:=by rw [mPart_eq];rfl
noncomputable def kSl3 (x:D) (l:Option Int) (q:Option Int×Store):Option (D×Store):=match x with
  | .tup xs=>some (.tup (cutL xs l q.1),q.2)
  | .lst xs=>some (.lst (cutL xs l q.1),q.2)
  | .rol xs=>some (.lst (cutL xs l q.1),q.2)
  | .ref r=>match q.2[r]? with | some (.lst xs)=>some (.lst (cutL xs l q.1),q.2) | _=>none
  | _=>none
noncomputable def kSl2 (hi:MO) (env:MEnv) (x:D) (q:Option Int×Store):Option (D×Store):=(hi env q.2).bind (kSl3 x q.1)
noncomputable def kSl1 (lo hi:MO) (env:MEnv) (q:D×Store):Option (D×Store):=(lo env q.2).bind (kSl2 hi env q.1)
@[simp] theorem kSl1_s {lo hi:MO}:kSl1 lo hi env (x,S)=(lo env S).bind (kSl2 hi env x):=id rfl
@[simp] theorem kSl2_s {hi:MO} {l:Option Int}:kSl2 hi env x (l,S)=(hi env S).bind (kSl3 x l):=id rfl
@[simp] theorem kSl3_t {xs:List D} {l h:Option Int}:kSl3 (.tup xs) l (h,S)=some (.tup (cutL xs l h),S):=id rfl
@[simp] theorem kSl3_l {xs:List D} {l h:Option Int}:kSl3 (.lst xs) l (h,S)=some (.lst (cutL xs l h),S):=id rfl
@[simp] theorem kSl3_r {xs:List D} {l h:Option Int}:kSl3 (.rol xs) l (h,S)=some (.lst (cutL xs l h),S):=id rfl
@[simp] theorem mSlice_s {lo hi:MO}:mSlice a lo hi env S=(a env S).bind (kSl1 lo hi env):=by rw [mSlice_eq];rfl
@[simp] theorem mSkip_s:mSkip env S=some (.nx env S):=by rw [mSkip_eq];rfl
noncomputable def kSeq (q:MS):Out→Option Out
  | .nx e S=>q e S
  | .rt d S=>some (.rt d S)
  | .bk e S=>some (.bk e S)
  | .ct e S=>some (.ct e S)
@[simp] theorem kSeq_nx:kSeq q (.nx e S)=q e S:=id rfl
@[simp] theorem kSeq_rt:kSeq q (.rt d S)=some (.rt d S):=id rfl
@[simp] theorem kSeq_bk:kSeq q (.bk e S)=some (.bk e S):=id rfl
@[simp] theorem kSeq_ct:kSeq q (.ct e S)=some (.ct e S):=id rfl
@[simp] theorem mSeq_s:mSeq p q env S=(p env S).bind (kSeq q):=by rw [mSeq_eq];unfold M.mSeq;congr 1;funext o;cases o <;> rfl
noncomputable def kRt (q:D×Store):Option Out:=some (.rt q.1 q.2)
@[simp] theorem kRt_s:kRt (d,S)=some (.rt d S):=id rfl
@[simp] theorem mRet_s:mRet a env S=(a env S).bind kRt:=by rw [mRet_eq];rfl
noncomputable def kDrop (env:MEnv) (q:D×Store):Option Out:=some (.nx env q.2)
@[simp] theorem kDrop_s:kDrop env (d,S)=some (.nx env S):=id rfl
@[simp] theorem mDrop_s:mDrop a env S=(a env S).bind (kDrop env):=by rw [mDrop_eq];rfl
noncomputable def kIfS (p q:MS) (env:MEnv) (r:Bool×Store):Option Out:=if r.1=true then p env r.2 else q env r.2
@[simp] theorem kIfS_t:kIfS p q env (true,S)=p env S:=id rfl
@[simp] theorem kIfS_f:kIfS p q env (false,S)=q env S:=id rfl
@[simp] theorem mIfS_s:mIfS t p q env S=(t env S).bind (kIfS p q env):=by rw [mIfS_eq];rfl
noncomputable def kNx (q:MEnv×Store):Option Out:=some (.nx q.1 q.2)
@[simp] theorem kNx_s:kNx (e,S)=some (.nx e S):=id rfl
noncomputable def kAsg (tg:MG) (env:MEnv) (q:D×Store):Option Out:=(tg q.1 env q.2).bind kNx
@[simp] theorem kAsg_s:kAsg tg env (d,S)=(tg d env S).bind kNx:=id rfl
@[simp] theorem mAsg_s:mAsg a tg env S=(a env S).bind (kAsg tg env):=by rw [mAsg_eq];rfl
@[simp] theorem gSet_s {i:Nat}:gSet i d env S=some (env.set i (some d),S):=by rw [gSet_eq];rfl
@[simp] theorem gNilD_s:gNilD [] env S=some (env,S):=by rw [gNilD_eq];rfl
noncomputable def kGs (gs:MGs) (r:List D) (q:MEnv×Store):Option (MEnv×Store):=gs r q.1 q.2
@[simp] theorem kGs_s {gs:MGs} {r:List D}:kGs gs r (e,S)=gs r e S:=id rfl
@[simp] theorem gConsD_s {gs:MGs} {r:List D}:gConsD tg gs (d::r) env S=(tg d env S).bind (kGs gs r):=by rw [gConsD_eq];rfl
theorem gTupD_of {n:Nat} {gs:MGs} {xs:List D} (h:xs.length=n):gTupD n gs (.tup xs) env S=gs xs env S:=by rw [gTupD_eq];exact if_pos h
@[simp] theorem gTupD_2 {gs:MGs}:gTupD 2 gs (.tup [x,y]) env S=gs [x,y] env S:=by rw [gTupD_eq];rfl
@[simp] theorem gTupD_3 {gs:MGs} {z:D}:gTupD 3 gs (.tup [x,y,z]) env S=gs [x,y,z] env S:=by rw [gTupD_eq];rfl
@[simp] theorem gTupD_4 {gs:MGs} {z w:D}:gTupD 4 gs (.tup [x,y,z,w]) env S=gs [x,y,z,w] env S:=by rw [gTupD_eq];rfl
noncomputable def kSubW (env:MEnv) (d:D) (r:Nat) (k:Int) (S:Store):Option (MEnv×Store):=match S[r]? with
  | some (.lst xs)=>(ixN xs.length k).bind fun j=>some (env,S.set r (.lst (xs.set j d)))
  | _=>none
noncomputable def kSub2 (env:MEnv) (d o:D) (q:D×Store):Option (MEnv×Store):=match o,q.1 with
  | .ref r,.int k=>kSubW env d r k q.2
  | _,_=>none
noncomputable def kSub1 (i:ME) (env:MEnv) (d:D) (q:D×Store):Option (MEnv×Store):=(i env q.2).bind (kSub2 env d q.1)
@[simp] theorem kSub1_s:kSub1 a env d (x,S)=(a env S).bind (kSub2 env d x):=id rfl
@[simp] theorem kSub2_s {r:Nat} {i:Int}:kSub2 env d (.ref r) (.int i,S)=kSubW env d r i S:=id rfl
theorem kSubW_of {r:Nat} {i:Int} {xs:List D} {j:Nat} (h:S[r]?=some (.lst xs)) (hj:ixN xs.length i=some j):kSubW env d r i S=some (env,S.set r (.lst (xs.set j d))):=by
  unfold kSubW;rw [h];show (ixN xs.length i).bind _=_;rw [hj];rfl
@[simp] theorem gSubD_s:gSubD a b d env S=(a env S).bind (kSub1 b env d):=by
  rw [gSubD_eq];unfold M.gSubD kSub1 kSub2 kSubW;congr 1
noncomputable def kFor (tg:MG) (p:MS) (env:MEnv) (q:List D×Store):Option Out:=mForL tg p q.1 env q.2
@[simp] theorem kFor_s {xs:List D}:kFor tg p env (xs,S)=mForL tg p xs env S:=id rfl
@[simp] theorem mFor_s:mFor ms tg p env S=(ms env S).bind (kFor tg p env):=by rw [mFor_eq];rfl
noncomputable def kLp2 (tg:MG) (p:MS) (xs:List D):Out→Option Out
  | .nx e s=>mForL tg p xs e s
  | .ct e s=>mForL tg p xs e s
  | .bk e s=>some (.nx e s)
  | .rt d s=>some (.rt d s)
noncomputable def kLp1 (tg:MG) (p:MS) (xs:List D) (q:MEnv×Store):Option Out:=(p q.1 q.2).bind (kLp2 tg p xs)
@[simp] theorem kLp1_s {xs:List D}:kLp1 tg p xs (e,S)=(p e S).bind (kLp2 tg p xs):=id rfl
@[simp] theorem kLp2_nx {xs:List D}:kLp2 tg p xs (.nx e S)=mForL tg p xs e S:=id rfl
@[simp] theorem kLp2_ct {xs:List D}:kLp2 tg p xs (.ct e S)=mForL tg p xs e S:=id rfl
@[simp] theorem kLp2_bk {xs:List D}:kLp2 tg p xs (.bk e S)=some (.nx e S):=id rfl
@[simp] theorem kLp2_rt {xs:List D}:kLp2 tg p xs (.rt d S)=some (.rt d S):=id rfl
@[simp] theorem mForL_nil:mForL tg p [] env S=some (.nx env S):=id rfl
theorem mForL_cons {xs:List D}:mForL tg p (d::xs) env S=(tg d env S).bind (kLp1 tg p xs):=by
  show (tg d env S).bind _=_
  first | rfl | (congr 1;funext q;show (p q.1 q.2).bind _=(p q.1 q.2).bind _;congr 1;funext o;cases o <;> rfl)
noncomputable def kItS (q:D×Store):Option (List D×Store):=match q.1 with | .lst xs=>some (xs,q.2) | .rol xs=>some (xs,q.2) | .tup xs=>some (xs,q.2) | _=>none
@[simp] theorem kItS_l {xs:List D}:kItS (.lst xs,S)=some (xs,S):=id rfl
@[simp] theorem kItS_r {xs:List D}:kItS (.rol xs,S)=some (xs,S):=id rfl
@[simp] theorem kItS_t {xs:List D}:kItS (.tup xs,S)=some (xs,S):=id rfl
@[simp] theorem mItS_s:mItS a env S=(a env S).bind kItS:=by rw [mItS_eq];rfl
noncomputable def kR1 (q:List D×Store):Option (List D×Store):=match q.1 with | [.int j]=>if -(2 ^ 62)≤j∧j<2 ^ 62 then some (rangeD 0 j.toNat,q.2) else none | _=>none
theorem kR1_of {j:Int} (h:-1000000≤j) (h':j≤1000000):kR1 ([.int j],S)=some (rangeD 0 j.toNat,S):=if_pos ⟨by omega,by omega⟩
@[simp] theorem mRange1_s:mRange1 ms env S=(ms env S).bind kR1:=by rw [mRange1_eq];rfl
noncomputable def kR2 (q:List D×Store):Option (List D×Store):=match q.1 with | [.int i,.int j]=>if -(2 ^ 62)≤i∧i<2 ^ 62∧-(2 ^ 62)≤j∧j<2 ^ 62 then some (rangeD i (j - i).toNat,q.2) else none | _=>none
@[simp] theorem mRange2_s:mRange2 ms env S=(ms env S).bind kR2:=by rw [mRange2_eq];rfl
noncomputable def kComp2 (q:List D×Store):Option (D×Store):=some (.lst q.1,q.2)
noncomputable def kComp (g:MG) (t:MT) (e:ME) (cap:List (Option Nat)) (env:MEnv) (q:List D×Store):Option (D×Store):=if q.1.length≤sizeLine then (mCompL g t e q.1 (capE cap env) q.2).bind kComp2 else none
theorem kComp_of {cap:List (Option Nat)} {xs:List D} (h:xs.length≤1000):kComp tg t a cap env (xs,S)=(mCompL tg t a xs (capE cap env) S).bind kComp2:=if_pos (sz h)
@[simp] theorem kComp2_s {xs:List D}:kComp2 (xs,S)=some (.lst xs,S):=id rfl
@[simp] theorem mComp_s {cap:List (Option Nat)}:mComp ms tg t a cap env S=(ms env S).bind (kComp tg t a cap env):=by rw [mComp_eq];rfl
noncomputable def kCl4 (x:D) (q:List D×Store):Option (List D×Store):=some (x::q.1,q.2)
noncomputable def kCl3 (g:MG) (t:MT) (e:ME) (xs:List D) (env:MEnv) (q:D×Store):Option (List D×Store):=(mCompL g t e xs env q.2).bind (kCl4 q.1)
noncomputable def kCl2 (g:MG) (t:MT) (e:ME) (xs:List D) (env:MEnv) (q:Bool×Store):Option (List D×Store):=if q.1=true then (e env q.2).bind (kCl3 g t e xs env) else mCompL g t e xs env q.2
noncomputable def kCl1 (g:MG) (t:MT) (e:ME) (xs:List D) (q:MEnv×Store):Option (List D×Store):=(t q.1 q.2).bind (kCl2 g t e xs q.1)
@[simp] theorem kCl1_s {xs:List D}:kCl1 tg t a xs (e,S)=(t e S).bind (kCl2 tg t a xs e):=id rfl
@[simp] theorem kCl2_t {xs:List D}:kCl2 tg t a xs e (true,S)=(a e S).bind (kCl3 tg t a xs e):=id rfl
@[simp] theorem kCl2_f {xs:List D}:kCl2 tg t a xs e (false,S)=mCompL tg t a xs e S:=id rfl
@[simp] theorem kCl3_s {xs:List D}:kCl3 tg t a xs e (d,S)=(mCompL tg t a xs e S).bind (kCl4 d):=id rfl
@[simp] theorem kCl4_s {xs:List D}:kCl4 d (xs,S)=some (d::xs,S):=id rfl
@[simp] theorem mCompL_nil:mCompL tg t a [] env S=some ([],S):=id rfl
theorem mCompL_cons {xs:List D}:mCompL tg t a (d::xs) env S=(tg d env S).bind (kCl1 tg t a xs):=id rfl
section
variable {g2:MG} {t2:MT} {xs:List D} {mi2:MA}
end
noncomputable def kCat2 (x:D) (q:D×Store):Option (D×Store):=(lstOf q.2 x).bind fun xs=>(lstOf q.2 q.1).bind fun ys=>if xs.length+ys.length≤sizeLine then some (.ref q.2.length,q.2++[.lst (xs++ys)]) else none
noncomputable def kCat1 (b:ME) (env:MEnv) (q:D×Store):Option (D×Store):=(b env q.2).bind (kCat2 q.1)
theorem kCat1_s {b:ME}:kCat1 b env (d,S)=(b env S).bind (kCat2 d):=id rfl
theorem kCat2_l {xs ys:List D} (h:xs.length+ys.length≤1000):kCat2 (.lst xs) (.lst ys,S)=some (.ref S.length,S++[.lst (xs++ys)]):=if_pos (sz h)
theorem mCatR_s {b:ME}:mCatR a b env S=(a env S).bind (kCat1 b env):=by rw [mCatR_eq];rfl
@[simp] theorem fAdd_i {i j:Int}:fAddX S (.int i) (.int j)=some (.int (i+j)):=id rfl
theorem fAdd_t {xs ys:List D} (h:xs.length+ys.length≤1000):fAddX S (.tup xs) (.tup ys)=some (.tup (xs++ys)):=if_pos (sz h)
theorem fAdd_l {xs ys:List D} (h:xs.length+ys.length≤1000):fAddX S (.lst xs) (.lst ys)=some (.lst (xs++ys)):=if_pos (sz h)
@[simp] theorem fSub_i {i j:Int}:fSub S (.int i) (.int j)=some (.int (i - j)):=id rfl
@[simp] theorem fLt_i {i j:Int}:fLt S (.int i) (.int j)=some (.bl (decide (i<j))):=id rfl
@[simp] theorem fLe_i {i j:Int}:fLe S (.int i) (.int j)=some (.bl (decide (i≤j))):=id rfl
@[simp] theorem fGt_i {i j:Int}:fGt S (.int i) (.int j)=some (.bl (decide (j<i))):=id rfl
@[simp] theorem fGe_i {i j:Int}:fGe S (.int i) (.int j)=some (.bl (decide (j≤i))):=id rfl
@[simp] theorem fNeg_i {i:Int}:fNeg S (.int i)=some (.int (-i)):=id rfl
theorem fMod_i {i j:Int} (h:0<j):fMod S (.int i) (.int j)=some (.int (i % j)):=if_pos (decide_eq_true h)
theorem fDiv_i {i j:Int} (h:0<j) (h':j<1073741824):fDiv S (.int i) (.int j)=some (.int (i / j)):=if_pos (by show (decide (0<j)&&decide (j<1073741824))=true;rw [decide_eq_true h,decide_eq_true h'];rfl)
theorem fPow_i {i j:Int} (h:(decide (0≤j)&&decide (j≤1000000)&&decide (i.natAbs<2 ^ 64))=true):fPow S (.int i) (.int j)=some (.int (i ^ j.toNat)):=if_pos h
theorem fMul_i {i j:Int} (h:mulB i j=true):fMulX S (.int i) (.int j)=some (.int (i * j)):=if_pos h
theorem mulB_l {i j:Int} (h:-18446744073709551616<i) (h':i<18446744073709551616):mulB i j=true:=by
  unfold mulB;rw [decide_eq_true (p:=i.natAbs<18446744073709551616) (by omega)];rfl
theorem mulB_r {i j:Int} (h:-18446744073709551616<j) (h':j<18446744073709551616):mulB i j=true:=by
  unfold mulB;rw [decide_eq_true (p:=j.natAbs<18446744073709551616) (by omega)];simp
@[simp] theorem fIx_t {xs:List D} {i:Int}:fIxX S (.tup xs) (.int i)=atI xs i:=id rfl
@[simp] theorem fIx_l {xs:List D} {i:Int}:fIxX S (.lst xs) (.int i)=atI xs i:=id rfl
@[simp] theorem fIx_r {xs:List D} {i:Int}:fIxX S (.rol xs) (.int i)=atI xs i:=id rfl
theorem fIx_ref {r:Nat} {xs:List D} {i:Int} (h:S[r]?=some (.lst xs)):fIxX S (.ref r) (.int i)=atI xs i:=by
  have:seqD S (.ref r)=some xs:=by simp only [seqD,h]
  have t:tabD S (.ref r)=none:=by simp only [tabD,h]
  unfold fIxX;rw [t]
  show (seqD S (.ref r)).bind _=_;rw [this];rfl
theorem atI_at {α:Type} {xs:List α} {i:Int} (h0:0≤i) (h:i<xs.length):atI xs i=some (xs[i.toNat]'(by omega)):=by
  unfold atI ixN;rw [if_pos h0,if_pos h];show xs[i.toNat]?=_;rw [List.getElem?_eq_getElem]
@[simp] theorem fLen_t {xs:List D}:fPure fLen [.tup xs] S=some (.int xs.length,S):=id rfl
@[simp] theorem fLen_l {xs:List D}:fPure fLen [.lst xs] S=some (.int xs.length,S):=id rfl
@[simp] theorem fLen_r {xs:List D}:fPure fLen [.rol xs] S=some (.int xs.length,S):=id rfl
@[simp] theorem fInt1_i {i:Int}:fPure fInt1 [.int i] S=some (.int i,S):=id rfl
@[simp] theorem fInt1_b:fPure fInt1 [.bl k] S=some (.int (if k then 1 else 0),S):=id rfl
@[simp] theorem fMax2_i {i j:Int}:fPure fMaxX [.int i,.int j] S=some (.int (if j>i then j else i),S):=id rfl
@[simp] theorem fMin2_i {i j:Int}:fPure fMin2 [.int i,.int j] S=some (.int (if j<i then j else i),S):=id rfl
@[simp] theorem fSeq1_t {g:List D→D} {xs:List D}:fPure (fSeq1 g) [.tup xs] S=some (g xs,S):=id rfl
@[simp] theorem fSeq1_l {g:List D→D} {xs:List D}:fPure (fSeq1 g) [.lst xs] S=some (g xs,S):=id rfl
theorem fAll_l {xs:List D} {bs:List Bool} (h:boolsD xs=some bs):fPure fAll [.lst xs] S=some (.bl (bs.all id),S):=by
  show ((boolsD xs).bind _).bind _=_;rw [h];rfl
@[simp] theorem fIs_n:fIs S x .non=some (.bl (isD x .non)):=id rfl
@[simp] theorem fIs_b:fIs S x (.bl k)=some (.bl (isD x (.bl k))):=id rfl
@[simp] theorem fIsNot_n:fIsNot S x .non=some (.bl (!isD x .non)):=id rfl
@[simp] theorem fIsNot_b:fIsNot S x (.bl k)=some (.bl (!isD x (.bl k))):=id rfl
theorem fEq_ok (h:okD 40 x=true) (h':okD 40 y=true):fEq S x y=some (.bl (eqD x y)):=if_pos ⟨h,h'⟩
theorem fNe_ok (h:okD 40 x=true) (h':okD 40 y=true):fNe S x y=some (.bl (!eqD x y)):=if_pos ⟨h,h'⟩
@[simp] theorem fEq_ii {i j:Int}:fEq S (.int i) (.int j)=some (.bl (i == j)):=fEq_ok (by simp [okD]) (by simp [okD])
@[simp] theorem fNe_ii {i j:Int}:fNe S (.int i) (.int j)=some (.bl (!(i == j))):=fNe_ok (by simp [okD]) (by simp [okD])
@[simp] theorem fEq_bb:fEq S (.bl k) (.bl l)=some (.bl (k == l)):=fEq_ok (by simp [okD]) (by simp [okD])
@[simp] theorem fEq_ss {i j:Str}:fEq S (.str i) (.str j)=some (.bl (i == j)):=fEq_ok (by simp [okD]) (by simp [okD])
@[simp] theorem fNe_ss {i j:Str}:fNe S (.str i) (.str j)=some (.bl (!(i == j))):=fNe_ok (by simp [okD]) (by simp [okD])
theorem fIn_ok {ys:List D} (hs:seqD S y=some ys) (h:okD 40 x=true) (h':ys.all (okD 39)=true):fIn S x y=some (.bl (ys.any fun d=>eqD d x)):=by
  unfold fIn;rw [hs];exact if_pos ⟨h,h'⟩
theorem fNotIn_ok {ys:List D} (hs:seqD S y=some ys) (h:okD 40 x=true) (h':ys.all (okD 39)=true):fNotIn S x y=some (.bl (!ys.any fun d=>eqD d x)):=by
  unfold fNotIn;rw [hs];exact if_pos ⟨h,h'⟩
theorem fMulX_t {xs:List D} {k:Int} (h0:0≤k) (h1:k≤100000) (h:xs.length * k.toNat≤1000):fMulX S (.tup xs) (.int k)=some (.tup (List.replicate k.toNat xs).flatten):=if_pos ⟨by omega,by omega,sz h⟩
noncomputable def kMeth2 (f:MF) (x:D) (q:List D×Store):Option (D×Store):=f x q.1 q.2
noncomputable def kMeth (f:MF) (ms:MA) (env:MEnv) (q:D×Store):Option (D×Store):=if lstB q.2 q.1=true then (ms env q.2).bind (kMeth2 f q.1) else none
@[simp] theorem mMeth_s {f:MF}:mMeth f a ms env S=(a env S).bind (kMeth f ms env):=by rw [mMeth_eq];rfl
@[simp] theorem kMeth_l {f:MF} {xs:List D}:kMeth f ms env (.lst xs,S)=(ms env S).bind (kMeth2 f (.lst xs)):=id rfl
theorem kMeth_r {f:MF} {r:Nat} {xs:List D} (h:S[r]?=some (.lst xs)):kMeth f ms env (.ref r,S)=(ms env S).bind (kMeth2 f (.ref r)):=by
  unfold kMeth;exact if_pos (by simp only [lstB,h])
@[simp] theorem kMeth2_s {f:MF} {xs:List D}:kMeth2 f x (xs,S)=f x xs S:=id rfl
theorem fAppend_r {r:Nat} {xs:List D} (h:S[r]?=some (.lst xs)) (hz:xs.length<1000):fAppend (.ref r) [y] S=some (.non,S.set r (.lst (xs++[y]))):=by
  simp only [fAppend,h];exact if_pos (Nat.lt_of_lt_of_le hz (by decide))
noncomputable def kEnum (q:List D×Store):Option (List D×Store):=match q.1 with | [.tup xs]=>some (enumD 0 xs,q.2) | _=>none
@[simp] theorem kEnum_s {xs:List D}:kEnum ([.tup xs],S)=some (enumD 0 xs,S):=id rfl
@[simp] theorem mEnum_s:mEnum ms env S=(ms env S).bind kEnum:=by rw [mEnum_eq];rfl
theorem intsL_l {ns:List Int} (h:ns.length<64):intsL S (.lst (ns.map .int))=some ns:=by
  unfold intsL
  rw [if_pos (show lstB S (.lst (ns.map D.int))=true from rfl)]
  show (intsOf (ns.map D.int)).bind _=_
  rw [intsOf_map];exact if_pos h
theorem fSorted_l {ns:List Int} (h:ns.length<64):fPure fSorted [.lst (ns.map .int)] S=some (.lst ((isort ns).map .int),S):=by
  show ((intsL S (.lst (ns.map D.int))).bind _).bind _=_
  rw [intsL_l h];rfl
noncomputable def kLenSet (q:List D×Store):Option (D×Store):=(fLenSet q.2 q.1).bind (kRet q.2)
@[simp] theorem mLenSet_s:mLenSet ms env S=(ms env S).bind kLenSet:=by rw [mLenSet_eq];rfl
theorem kLenSet_l {ns:List Int} (h:ns.length<64):kLenSet ([.lst (ns.map .int)],S)=some (.int (dedN ns:Nat),S):=by
  show ((intsL S (.lst (ns.map D.int))).bind _).bind _=_
  rw [intsL_l h];rfl
noncomputable def kPar (i j:Nat) (env:MEnv) (q:List D×Store):Option Out:=match q.1 with | [v,w]=>some (.nx ((env.set i (some v)).set j (some w)) q.2) | _=>none
@[simp] theorem mPar_s {i j:Nat}:mPar i j ms env S=(ms env S).bind (kPar i j env):=by rw [mPar_eq];rfl
@[simp] theorem kPar_s {i j:Nat}:kPar i j env ([x,y],S)=some (.nx ((env.set i (some x)).set j (some y)) S):=id rfl
noncomputable def kCnt (ms:MA) (env:MEnv) (q:D×Store):Option (D×Store):=if tupB q.1=true then (ms env q.2).bind (kMeth2 fCountT q.1) else if lstB q.2 q.1=true then (ms env q.2).bind (kMeth2 fCountL q.1) else none
@[simp] theorem mCnt_s:mCnt a ms env S=(a env S).bind (kCnt ms env):=by rw [mCnt_eq];rfl
@[simp] theorem kCnt_t {xs:List D}:kCnt ms env (.tup xs,S)=(ms env S).bind (kMeth2 fCountT (.tup xs)):=id rfl
@[simp] theorem kCnt_l {xs:List D}:kCnt ms env (.lst xs,S)=(ms env S).bind (kMeth2 fCountL (.lst xs)):=id rfl
theorem fCountT_t {xs:List D} (h:okD 40 x=true) (h':xs.all (okD 39)=true):fCountT (.tup xs) [x] S=some (.int (xs.countP fun d=>eqD d x),S):=by
  show (if tupB (.tup xs)=true then fCount (.tup xs) [x] S else none)=_
  rw [if_pos (show tupB (.tup xs)=true from rfl)]
  exact if_pos ⟨h,h'⟩
noncomputable def kPr4 (k:Key) (d:D) (z:List (Key×D)×Store):Option (List (Key×D)×Store):=some ((k,d)::z.1,z.2)
noncomputable def kPr3 (r:List (ME×ME)) (env:MEnv) (k:Key) (q:D×Store):Option (List (Key×D)×Store):=(mPairs r env q.2).bind (kPr4 k q.1)
noncomputable def kPr2 (b:ME) (r:List (ME×ME)) (env:MEnv) (S:Store) (k:Key):Option (List (Key×D)×Store):=(b env S).bind (kPr3 r env k)
noncomputable def kPr1 (b:ME) (r:List (ME×ME)) (env:MEnv) (q:D×Store):Option (List (Key×D)×Store):=(keyOf q.1).bind (kPr2 b r env q.2)
@[simp] theorem mPairs_nil:mPairs [] env S=some ([],S):=id rfl
@[simp] theorem mPairs_cons {r:List (ME×ME)}:mPairs ((a,b)::r) env S=(a env S).bind (kPr1 b r env):=id rfl
@[simp] theorem kPr1_i {i:Int} {r:List (ME×ME)}:kPr1 b r env (.int i,S)=(b env S).bind (kPr3 r env (.inl i)):=id rfl
@[simp] theorem kPr1_s {i:Str} {r:List (ME×ME)}:kPr1 b r env (.str i,S)=(b env S).bind (kPr3 r env (.inr i)):=id rfl
@[simp] theorem kPr3_s {k:Key} {r:List (ME×ME)}:kPr3 r env k (d,S)=(mPairs r env S).bind (kPr4 k d):=id rfl
@[simp] theorem kPr4_s {k:Key} {z:List (Key×D)}:kPr4 k d (z,S)=some ((k,d)::z,S):=id rfl
noncomputable def kDict (z:List (Key×D)×Store):Option (D×Store):=if z.1.length≤15 then some (.dct ((mergeD [] z.1).map (·.1)) ((mergeD [] z.1).map (·.2)),z.2) else none
noncomputable def kDictR (z:List (Key×D)×Store):Option (D×Store):=if z.1.length≤15 then some (.ref z.2.length,z.2++[.dct ((mergeD [] z.1).map (·.1)) ((mergeD [] z.1).map (·.2))]) else none
@[simp] theorem mDict_s {ps:List (ME×ME)}:mDict ps env S=(mPairs ps env S).bind kDict:=by rw [mDict_eq];rfl
@[simp] theorem mDictR_s {ps:List (ME×ME)}:mDictR ps env S=(mPairs ps env S).bind kDictR:=by rw [mDictR_eq];rfl
theorem hasK_not {k:Key}:∀ {l:List (Key×D)},k ∉ l.map (·.1)→hasK l k=false
  | [],_=>rfl
  | p::r,h=>by
    rw [List.map_cons,List.mem_cons,not_or] at h
    unfold hasK;rw [if_neg (fun z=>h.1 z.symm)];exact hasK_not h.2
theorem mergeD_app:∀ {l m:List (Key×D)},((m++l).map (·.1)).Nodup→mergeD m l=m++l
  | [],m,_=>by rw [List.append_nil];rfl
  | p::r,m,h=>by
    show mergeD (putD m p.1 p.2) r=_
    have hn:p.1 ∉ m.map (·.1):=by
      rw [List.map_append,List.map_cons,List.nodup_append] at h
      intro z;exact h.2.2 _ z _ List.mem_cons_self rfl
    unfold putD;rw [hasK_not hn,if_neg Bool.false_ne_true]
    rw [mergeD_app (by rw [List.append_assoc];exact h),List.append_assoc];rfl
theorem mergeD_nd {l:List (Key×D)} (h:(l.map (·.1)).Nodup):mergeD [] l=l:=mergeD_app (m:=[]) h
theorem kDict_of {l:List (Key×D)} (h:(l.map (·.1)).Nodup) (hl:l.length≤15):kDict (l,S)=some (.dct (l.map (·.1)) (l.map (·.2)),S):=by
  unfold kDict;rw [if_pos hl];simp only [mergeD_nd h]
theorem kDictR_of {l:List (Key×D)} (h:(l.map (·.1)).Nodup) (hl:l.length≤15):kDictR (l,S)=some (.ref S.length,S++[.dct (l.map (·.1)) (l.map (·.2))]):=by
  unfold kDictR;rw [if_pos hl];simp only [mergeD_nd h]
theorem zip_fs {α β:Type}:∀ (l:List (α×β)),(l.map (·.1)).zip (l.map (·.2))=l
  | []=>rfl
  | p::r=>by rw [List.map_cons,List.map_cons,List.zip_cons_cons,zip_fs r]
@[simp] theorem fIx_dct {ks:List Key} {vs:List D}:fIxX S (.dct ks vs) y=(keyOf y).bind (valD (ks.zip vs)):=id rfl
theorem kDict_nd {l:List (Key×D)} (h:(l.map (·.1)).Nodup) (hl:l.length≤15):kDict (l,S)=some (.dct (l.map (·.1)) (l.map (·.2)),S):=by
  unfold kDict;rw [if_pos hl];simp only [mergeD_nd h]
theorem fIx_d {l:List (Key×D)} {k:Key} (h:keyOf y=some k):fIxX S (.dct (l.map (·.1)) (l.map (·.2))) y=valD l k:=by
  show (keyOf y).bind (fun k=>valD ((l.map (·.1)).zip (l.map (·.2))) k)=_
  rw [h,zip_fs];rfl
theorem fIx_dr {r:Nat} {l:List (Key×D)} {k:Key} (hr:S[r]?=some (.dct (l.map (·.1)) (l.map (·.2)))) (h:keyOf y=some k):fIxX S (.ref r) y=valD l k:=by
  have:tabD S (.ref r)=some l:=by simp only [tabD,hr,zip_fs]
  unfold fIxX;rw [this];show (keyOf y).bind _=_;rw [h];rfl
noncomputable def kMethD (f:MF) (ms:MA) (env:MEnv) (q:D×Store):Option (D×Store):=if dctB q.2 q.1=true then (ms env q.2).bind (kMeth2 f q.1) else none
@[simp] theorem mMethD_s {f:MF}:mMethD f a ms env S=(a env S).bind (kMethD f ms env):=by rw [mMethD_eq];rfl
@[simp] theorem kMethD_d {f:MF} {ks:List Key} {vs:List D}:kMethD f ms env (.dct ks vs,S)=(ms env S).bind (kMeth2 f (.dct ks vs)):=id rfl
theorem kMethD_r {f:MF} {r:Nat} {ks:List Key} {vs:List D} (h:S[r]?=some (.dct ks vs)):kMethD f ms env (.ref r,S)=(ms env S).bind (kMeth2 f (.ref r)):=by
  unfold kMethD;exact if_pos (by simp only [dctB,h])
@[simp] theorem valD_nil {k:Key}:valD [] k=none:=id rfl
@[simp] theorem valD_cons {k k':Key} {l:List (Key×D)}:valD ((k',d)::l) k=if k'=k then some d else valD l k:=id rfl
@[simp] theorem keyOf_i {i:Int}:keyOf (.int i)=some (.inl i):=id rfl
@[simp] theorem keyOf_s {i:Str}:keyOf (.str i)=some (.inr i):=id rfl
theorem fUpdD_r {r:Nat} {l m:List (Key×D)} (hr:S[r]?=some (.dct (l.map (·.1)) (l.map (·.2)))) (hl:l.length+m.length≤1000) :
    fUpdD (.ref r) [.dct (m.map (·.1)) (m.map (·.2))] S=some (.non,S.set r (.dct ((mergeD l m).map (·.1)) ((mergeD l m).map (·.2)))):=by
  simp only [fUpdD,hr,zip_fs]
  exact if_pos (by rw [List.length_map,List.length_map];exact sz hl)
noncomputable def kForD (tg:MG) (p:MS) (env:MEnv) (q:D×Store):Option Out:=match q.1 with
  | .ref r=>mForRL tg p r 2000 0 env q.2
  | .lst xs=>mForL tg p xs env q.2
  | .rol xs=>mForL tg p xs env q.2
  | .tup xs=>mForL tg p xs env q.2
  | _=>none
@[simp] theorem mForD_s:mForD a tg p env S=(a env S).bind (kForD tg p env):=by rw [mForD_eq];rfl
@[simp] theorem kForD_l {xs:List D}:kForD tg p env (.lst xs,S)=mForL tg p xs env S:=id rfl
@[simp] theorem kForD_o {xs:List D}:kForD tg p env (.rol xs,S)=mForL tg p xs env S:=id rfl
@[simp] theorem kForD_t {xs:List D}:kForD tg p env (.tup xs,S)=mForL tg p xs env S:=id rfl
@[simp] theorem kForD_r {r:Nat}:kForD tg p env (.ref r,S)=mForRL tg p r 2000 0 env S:=id rfl
noncomputable def kRl2 (tg:MG) (p:MS) (r f i:Nat):Out→Option Out
  | .nx e s=>mForRL tg p r f i e s
  | .ct e s=>mForRL tg p r f i e s
  | .bk e s=>some (.nx e s)
  | .rt d s=>some (.rt d s)
noncomputable def kRl1 (tg:MG) (p:MS) (r f i:Nat) (q:MEnv×Store):Option Out:=(p q.1 q.2).bind (kRl2 tg p r f i)
@[simp] theorem kRl1_s {r f i:Nat}:kRl1 tg p r f i (e,S)=(p e S).bind (kRl2 tg p r f i):=id rfl
@[simp] theorem kRl2_nx {r f i:Nat}:kRl2 tg p r f i (.nx e S)=mForRL tg p r f i e S:=id rfl
@[simp] theorem kRl2_ct {r f i:Nat}:kRl2 tg p r f i (.ct e S)=mForRL tg p r f i e S:=id rfl
@[simp] theorem kRl2_bk {r f i:Nat}:kRl2 tg p r f i (.bk e S)=some (.nx e S):=id rfl
@[simp] theorem kRl2_rt {r f i:Nat}:kRl2 tg p r f i (.rt d S)=some (.rt d S):=id rfl
theorem mForRL_end {r f i:Nat} {xs:List D} (h:S[r]?=some (.lst xs)) (hx:xs.length≤i):mForRL tg p r (f+1) i env S=some (.nx env S):=by
  have hx':xs[i]?=none:=by simpa using hx
  unfold mForRL;rw [h];simp only [hx']
noncomputable def kListR (q:List D×Store):Option (D×Store):=match q.1 with | [.int j]=>if 0≤j∧j≤1000 then some (.lst (rangeD 0 j.toNat),q.2) else none | _=>none
@[simp] theorem mListR_s:mListR ms env S=(ms env S).bind kListR:=by rw [mListR_eq];rfl
theorem kListR_of {j:Int} (h0:0≤j) (h1:j≤1000):kListR ([.int j],S)=some (.lst (rangeD 0 j.toNat),S):=if_pos ⟨h0,h1⟩
theorem fMaxX_l {ns:List Int} (h:ns.length<64) (h0:ns≠[]):fPure fMaxX [.lst (ns.map .int)] S=some (.int (maxL ns),S):=by
  show ((fMaxX S [.lst (ns.map D.int)]).bind _)=_
  have:fMaxX S [.lst (ns.map D.int)]=some (.int (maxL ns)):=by
    show ((intsL S (.lst (ns.map D.int))).bind _)=_
    rw [intsL_l h]
    show (if ns.isEmpty=true then none else some (D.int (maxL ns)))=_
    rw [if_neg (by cases ns with | nil=>exact absurd rfl h0 | cons _ _=>simp)]
  rw [this];rfl
theorem fAddX_r {x y:D} {xs ys:List D} (h:(isRefB x||isRefB y)=true) (h1:lstOf S x=some xs) (h2:lstOf S y=some ys) (hl:xs.length+ys.length≤1000):fAddX S x y=some (.lst (xs++ys)):=by
  unfold fAddX;rw [if_pos h,h1,h2];exact if_pos (sz hl)
theorem szM {n:Nat} (h:n≤1000000):n≤sizeLine:=Nat.le_trans h (by decide)
theorem strsD_map:∀ ys:List Str,strsD (ys.map .str)=some ys
  | []=>rfl
  | y::r=>by
    have:=strsD_map r
    show (strsD (r.map .str)).bind _=_
    rw [this];rfl
noncomputable def outM:Out→Option (D×Store)
  | .rt d S'=>some (d,S')
  | .nx _ S'=>some (.non,S')
  | .bk _ _=>none
  | .ct _ _=>none
@[simp] theorem outM_rt:outM (.rt d S)=some (d,S):=id rfl
@[simp] theorem outM_nx:outM (.nx e S)=some (.non,S):=id rfl
theorem runM_eq {N:List Str} {m:MS} {n:Nat} {ds:List D} {S:Store} (h:ds.length=n):runM N m n ds S=(m (startE N ds) S).bind outM:=by
  unfold runM;rw [if_pos h];first | rfl | (congr 1;funext o;cases o <;> rfl)
@[simp] theorem rep0:List.replicate 0 (none:Option D)=[]:=id rfl
end
end MI
namespace MI
open PySem PySem.Spec PyProof.Rows L2 M
noncomputable def lawPick:MS:=
  mSeq (mIfS (mTest (mOp fGt (mOp fIxX (mVar 0) (mC (.int 0))) (mC (.int 0)))) (mSeq (mAsg (mOp fMod (mOp fIxX (mVar 0) (mC (.int 0))) (mVar 1)) (gSet 2)) (mSeq (mAsg (mOp fDiv (mOp fIxX (mVar 0) (mC (.int 0))) (mVar 1)) (gSubD (mVar 0) (mC (.int 0)))) (mRet (mVar 2)))) (mSkip)) (mSeq (mAsg (mOp fAddX (mOp fIxX (mVar 0) (mC (.int 2))) (mC (.int 1))) (gSubD (mVar 0) (mC (.int 2)))) (mSeq (mAsg (mOp fMod (mOp fAddX (mOp fAddX (mOp fMulX (mOp fIxX (mVar 0) (mC (.int 1))) (mC (.int 48271))) (mC (.int 12345))) (mOp fMulX (mC (.int 7)) (mOp fIxX (mVar 0) (mC (.int 2))))) (mC (.int 2147483647))) (gSubD (mVar 0) (mC (.int 1)))) (mRet (mOp fMod (mOp fDiv (mOp fMod (mOp fMulX (mOp fIxX (mVar 0) (mC (.int 1))) (mOp fIxX (mVar 0) (mC (.int 1)))) (mC (.int 1999999973))) (mC (.int 64))) (mVar 1)))))
noncomputable def lawFar:MS:=
  mSeq (mAsg (mC (.int 1)) (gSet 0)) (mSeq (mFor (mRange1 (mCons (mC (.int 10)) (mNil))) (gSet 1) (mAsg (mOp fMulX (mVar 0) (mOp fPow (mC (.int 10)) (mC (.int 60)))) (gSet 0))) (mRet (mVar 0)))
noncomputable def lawCellAt:MS:=
  mSeq (mIfS (mTest (mOp fLt (mVar 1) (mCall (fPure fLen) (mCons (mVar 0) (mNil))))) (mRet (mOp fIxX (mVar 0) (mVar 1))) (mSkip)) (mRet (mC (.int 0)))
noncomputable def lawLeft (cellAt far:List D→Store→Option (D×Store)):MS:=
  mSeq (mAsg (mCallN 2 cellAt (mCons (mVar 0) (mCons (mOp fMod (mVar 1) (mCall (fPure fMaxX) (mCons (mC (.int 1)) (mCons (mCall (fPure fLen) (mCons (mVar 0) (mNil))) (mNil))))) (mNil)))) (gSet 2)) (mSeq (mAsg (mOp fMod (mOp fMulX (mOp fAddX (mOp fAddX (mOp fMod (mVar 2) (mC (.int 2147483629))) (mOp fMulX (mOp fMulX (mC (.int 7919)) (mVar 1)) (mVar 1))) (mC (.int 11))) (mC (.int 48271))) (mC (.int 2147483647))) (gSet 3)) (mSeq (mAsg (mOp fMod (mOp fAddX (mOp fAddX (mOp fMulX (mVar 3) (mC (.int 39373))) (mOp fMulX (mC (.int 7)) (mVar 1))) (mC (.int 1))) (mC (.int 2147483629))) (gSet 3)) (mSeq (mIfS (mTest (mOp fLt (mVar 2) (mOp fPow (mC (.int 10)) (mC (.int 18))))) (mAsg (mC (.int 0)) (gSet 2)) (mSkip)) (mRet (mLstR (mCons (mOp fMod (mVar 2) (mCallN 0 far mNil)) (mCons (mVar 3) (mCons (mC (.int 0)) (mNil)))))))))
theorem atI3 {a b c:D}:atI [a,b,c] 0=some a∧atI [a,b,c] 1=some b∧atI [a,b,c] 2=some c:=⟨rfl,rfl,rfl⟩
noncomputable def Pk (S:Store) (r:Nat):Prop:=∃ a b c:Int,S[r]?=some (.lst [.int a,.int b,.int c])∧0≤a∧0≤b∧b<2147483647
noncomputable def p60:Int:=1000000000000000000000000000000000000000000000000000000000000
theorem p60_eq:(10:Int) ^ (60:Int).toNat=p60:=by decide +kernel
theorem p60_le:p60.natAbs≤2 ^ (200 * 1):=by decide +kernel
theorem p60_pos:0<p60:=by decide +kernel
theorem p60_mul {i:Int} (h:i.natAbs<2 ^ 4000):mulB i p60=true:=by
  unfold mulB
  rw [decide_eq_true h,decide_eq_true (p:=p60.natAbs<2 ^ 4000) (by decide +kernel)]
  simp
noncomputable def farB:MS:=mAsg (mOp fMulX (mVar 0) (mOp fPow (mC (.int 10)) (mC (.int 60)))) (gSet 0)
theorem farPow {S:Store}:fPow S (.int 10) (.int 60)=some (.int p60):=by
  have h:=fPow_i (S:=S) (i:=10) (j:=60) (by decide +kernel)
  rw [p60_eq] at h
  exact h
theorem farStep' {S:Store} {a p:Int} {o:Option D} (h1:fPow S (.int 10) (.int 60)=some (.int p)) (h2:fMulX S (.int a) (.int p)=some (.int (a * p))):farB [some (.int a),o] S=some (.nx [some (.int (a * p)),o] S):=by
  simp [farB,h1,h2]
theorem farStep {S:Store} {a:Int} {o:Option D} (h:mulB a p60=true):farB [some (.int a),o] S=some (.nx [some (.int (a * p60)),o] S):=farStep' farPow (fMul_i h)
theorem farL {S:Store} {B:Nat} (hB:∀ i:Int,i.natAbs<B→mulB i p60=true) (l:List D):∀ (a:Int) (o:Option D),0<a→a.natAbs * 2 ^ (200 * l.length)<B→∃ q o',mForL (gSet 1) farB l [some (.int a),o] S=some (.nx [some (.int q),o'] S)∧0<q:=by
  induction l with
  | nil=>exact fun a o h _=>⟨a,o,rfl,h⟩
  | cons d l ih=>
    intro a o h hb
    have h1:a.natAbs<B:=Nat.lt_of_le_of_lt (Nat.le_mul_of_pos_right _ (Nat.pow_pos (by decide))) hb
    obtain ⟨q,o',e,hq⟩:=ih (a * p60) (some d) (Int.mul_pos h p60_pos) (by
      rw [Int.natAbs_mul]
      refine Nat.lt_of_le_of_lt ?_ hb
      rw [List.length_cons,Nat.mul_add,Nat.pow_add,Nat.mul_assoc]
      refine Nat.mul_le_mul_left _ ?_
      rw [Nat.mul_comm]
      exact Nat.mul_le_mul_left _ p60_le)
    refine ⟨q,o',?_,hq⟩
    rw [mForL_cons,gSet_s,ob,kLp1_s]
    show (farB [some (.int a),some d] S).bind _=_
    rw [farStep (hB a h1),ob,kLp2_nx]
    exact e
theorem far_spec {S:Store} {N:List Str} (hN:N.length=2):∃ q:Int,runM N lawFar 0 [] S=some (.int q,S)∧0<q:=by
  obtain ⟨q,o',e,hq⟩:=farL (S:=S) (fun i h=>p60_mul h) (rangeD 0 10) 1 none (by decide) (by decide +kernel)
  refine ⟨q,?_,hq⟩
  rw [runM_eq (show ([]:List D).length=0 from rfl)]
  have:startE N []=[none,none]:=by simp [startE,hN,List.replicate]
  rw [this]
  have k1:kR1 ([.int 10],S)=some (rangeD 0 10,S):=kR1_of (by decide) (by decide)
  have e':mForL (gSet 1) (mAsg (mOp fMulX (mVar 0) (mOp fPow (mC (.int 10)) (mC (.int 60)))) (gSet 0)) (rangeD 0 10) [some (.int 1),none] S=some (.nx [some (.int q),o'] S):=e
  simp only [lawFar,mSeq_s,mAsg_s,mC_s,ob,kAsg_s,gSet_s,ls0,kNx_s,kSeq_nx,mFor_s,mRange1_s,mCons_s,kCons1_s,mNil_s,kCons2_s,k1,kFor_s,e',mRet_s,mVar_s,lg0,oj,kRet_s,kRt_s,outM_rt]
theorem pick_spec {S:Store} {r:Nat} {m:Int} {N:List Str} (hN:N.length=3) (h:Pk S r) (h0:0<m) (h1:m<1073741824) :
    ∃ q S',runM N lawPick 2 [.ref r,.int m] S=some (.int q,S')∧0≤q∧q<m∧Pk S' r∧(∀ j,j≠r→S'[j]?=S[j]?)∧S'.length=S.length:=by
  obtain ⟨a,b,c,h,ha,hb,hb'⟩:=h
  have hr:r<S.length:=(List.getElem?_eq_some_iff.mp h).1
  have hm:∀ x:Int,0≤x % m∧x % m<m:=fun x=>⟨Int.emod_nonneg _ (by omega),Int.emod_lt_of_pos _ h0⟩
  have hst:startE N [.ref r,.int m]=[some (.ref r),some (.int m),none]:=by simp [startE,hN]
  rw [runM_eq (show [D.ref r,D.int m].length=2 from rfl),hst]
  have hs:∀ c:Cell,(S.set r c)[r]?=some c:=fun c=>List.getElem?_set_self hr
  by_cases hp:0<a
  · refine ⟨a % m,S.set r (.lst [.int (a / m),.int b,.int c]),?_,(hm a).1,(hm a).2,⟨a / m,b,c,hs _,Int.ediv_nonneg ha (by omega),hb,hb'⟩,fun j hj=>by rw [List.getElem?_set_ne (Ne.symm hj)],by simp⟩
    have w:=kSubW_of (env:=[some (.ref r),some (.int m),some (.int (a % m))]) (d:=.int (a / m)) h (show ixN _ 0=some 0 from rfl)
    simp [lawPick,fIx_ref h,hp,fMod_i h0,fDiv_i h0 h1,atI3,w]
  · have hB:∀ x:Int,0≤x % 2147483647∧x % 2147483647<2147483647:=fun x=>⟨Int.emod_nonneg _ (by decide),Int.emod_lt_of_pos _ (by decide)⟩
    let b':=(b * 48271+12345+7 * (c+1)) % 2147483647
    have hb2:=hB (b * 48271+12345+7 * (c+1))
    have m3:mulB b' b'=true:=mulB_l (by omega) (by omega)
    have s1:(S.set r (.lst [.int a,.int b,.int (c+1)]))[r]?=some (.lst [.int a,.int b,.int (c+1)]):=hs _
    have s2:((S.set r (.lst [.int a,.int b,.int (c+1)])).set r (.lst [.int a,.int b',.int (c+1)]))[r]?=some (.lst [.int a,.int b',.int (c+1)]):=List.getElem?_set_self (by simpa using hr)
    refine ⟨b' * b' % 1999999973 / 64 % m,(S.set r (.lst [.int a,.int b,.int (c+1)])).set r (.lst [.int a,.int b',.int (c+1)]),?_,(hm _).1,(hm _).2,⟨a,b',c+1,s2,ha,(hB _).1,(hB _).2⟩,fun j hj=>by rw [List.getElem?_set_ne (Ne.symm hj),List.getElem?_set_ne (Ne.symm hj)],by simp⟩
    have e1:fMulX (S.set r (.lst [.int a,.int b,.int (c+1)])) (.int b) (.int 48271)=some (.int (b * 48271)):=fMul_i (mulB_r (by decide) (by decide))
    have e2:fMulX (S.set r (.lst [.int a,.int b,.int (c+1)])) (.int 7) (.int (c+1))=some (.int (7 * (c+1))):=fMul_i (mulB_l (by decide) (by decide))
    have e3:∀ S x,fMod S (.int x) (.int 2147483647)=some (.int (x % 2147483647)):=fun _ _=>fMod_i (by decide)
    have e4:∀ S x,fMod S (.int x) (.int 1999999973)=some (.int (x % 1999999973)):=fun _ _=>fMod_i (by decide)
    have e5:∀ S x,fDiv S (.int x) (.int 64)=some (.int (x / 64)):=fun _ _=>fDiv_i (by decide) (by decide)
    have w1:=kSubW_of (env:=[some (.ref r),some (.int m),none]) (d:=.int (c+1)) h (show ixN _ 2=some 2 from rfl)
    have w2:=kSubW_of (env:=[some (.ref r),some (.int m),none]) (d:=.int b') s1 (show ixN _ 1=some 1 from rfl)
    simp [lawPick,fIx_ref h,fIx_ref s1,fIx_ref s2,hp,fMod_i h0,atI3,e1,e2,e3,e4,e5,w1]
    rw [show (b * 48271+12345+7 * (c+1)) % 2147483647=b' from rfl,w2]
    simp [fIx_ref (hs _),atI3,fMul_i m3,e4,e5,fMod_i h0]
theorem cellAt_spec {S:Store} {ns:List Int} {k:Int} {N:List Str} (hN:N.length=2) (h0:0≤k):∃ v,runM N lawCellAt 2 [.rol (ns.map .int),.int k] S=some (.int v,S):=by
  rw [runM_eq (show [D.rol (ns.map .int),D.int k].length=2 from rfl)]
  have hst:startE N [D.rol (ns.map .int),D.int k]=[some (D.rol (ns.map .int)),some (.int k)]:=by simp [startE,hN]
  rw [hst]
  by_cases h:k<ns.length
  · have e:atI (ns.map D.int) k=some (.int (ns[k.toNat]'(by omega))):=by
      rw [atI_at h0 (by simpa using h)];simp
    exact ⟨ns[k.toNat]'(by omega),by simp [lawCellAt,h,e]⟩
  · exact ⟨0,by simp [lawCellAt,h]⟩
theorem Pk_new {S:Store} {a b c:Int} (ha:0≤a) (hb:0≤b) (hb':b<2147483647):Pk (S++[.lst [.int a,.int b,.int c]]) S.length:=⟨a,b,c,by simp,ha,hb,hb'⟩
theorem left_spec {S:Store} {ns:List Int} {k:Int} {N:List Str} {cellAt far:List D→Store→Option (D×Store)} (hN:N.length=4) (h0:0≤k) (h1:k≤100000)
    (hc:∀ S k,0≤k→∃ v,cellAt [.rol (ns.map .int),.int k] S=some (.int v,S)) (hf:∀ S,∃ q,far [] S=some (.int q,S)∧0<q) :
    ∃ a b,runM N (lawLeft cellAt far) 2 [.rol (ns.map .int),.int k] S=some (.ref S.length,S++[.lst [.int a,.int b,.int 0]])∧0≤a∧0≤b∧b<2147483647:=by
  rw [runM_eq (show [D.rol (ns.map .int),D.int k].length=2 from rfl)]
  have hst:startE N [D.rol (ns.map .int),D.int k]=[some (D.rol (ns.map .int)),some (.int k),none,none]:=by simp [startE,hN,List.replicate]
  rw [hst]
  have hmx:0<(if (ns.length:Int)>1 then (ns.length:Int) else 1):=by split <;> omega
  obtain ⟨v,hv⟩:=hc S (k % (if (ns.length:Int)>1 then (ns.length:Int) else 1)) (Int.emod_nonneg _ (by omega))
  obtain ⟨q,hq,q0⟩:=hf S
  have e1:∀ S x,fMod S (.int x) (.int 2147483629)=some (.int (x % 2147483629)):=fun _ _=>fMod_i (by decide)
  have e2:∀ S x,fMod S (.int x) (.int 2147483647)=some (.int (x % 2147483647)):=fun _ _=>fMod_i (by decide)
  have e3:∀ S x,fMod S (.int x) (.int q)=some (.int (x % q)):=fun _ _=>fMod_i q0
  have p1:∀ S,fMulX S (.int 7919) (.int k)=some (.int (7919 * k)):=fun _=>fMul_i (mulB_l (by decide) (by decide))
  have p2:∀ S,fMulX S (.int (7919 * k)) (.int k)=some (.int (7919 * k * k)):=fun _=>fMul_i (mulB_r (by omega) (by omega))
  have p3:∀ S x,fMulX S (.int x) (.int 48271)=some (.int (x * 48271)):=fun _ _=>fMul_i (mulB_r (by decide) (by decide))
  have p4:∀ S x,fMulX S (.int x) (.int 39373)=some (.int (x * 39373)):=fun _ _=>fMul_i (mulB_r (by decide) (by decide))
  have p5:∀ S,fMulX S (.int 7) (.int k)=some (.int (7 * k)):=fun _=>fMul_i (mulB_l (by decide) (by decide))
  have pw:∀ S,fPow S (.int 10) (.int 18)=some (.int 1000000000000000000):=fun S=>by
    have h:=fPow_i (S:=S) (i:=10) (j:=18) (by decide +kernel)
    rwa [show (10:Int) ^ (18:Int).toNat=1000000000000000000 by decide +kernel] at h
  have hb:∀ x:Int,0≤x % 2147483629∧x % 2147483629<2147483647:=fun x=>⟨Int.emod_nonneg _ (by decide),by have:=Int.emod_lt_of_pos x (show (0:Int)<2147483629 by decide);omega⟩
  have kl:∀ S x y,kLstR ([.int x,.int y,.int 0],S)=some (.ref S.length,S++[.lst [.int x,.int y,.int 0]]):=fun _ _ _=>kLstR_of (by simp)
  by_cases h:v<1000000000000000000
  · refine ⟨0 % q,(((v % 2147483629+7919 * k * k+11) * 48271 % 2147483647) * 39373+7 * k+1) % 2147483629,?_,Int.emod_nonneg _ (by omega),(hb _).1,(hb _).2⟩
    simp [-Int.zero_emod,lawLeft,fMod_i hmx,hv,e1,e2,e3,p1,p2,p3,p4,p5,pw,h,hq,kl]
  · refine ⟨v % q,(((v % 2147483629+7919 * k * k+11) * 48271 % 2147483647) * 39373+7 * k+1) % 2147483629,?_,Int.emod_nonneg _ (by omega),(hb _).1,(hb _).2⟩
    simp [lawLeft,fMod_i hmx,hv,e1,e2,e3,p1,p2,p3,p4,p5,pw,h,hq,kl]
theorem forL_inv {tg:MG} {p:MS} (I:MEnv→Store→Prop):∀ (xs:List D),(∀ d∈xs,∀ env S,I env S→∃ env1 S1 env2 S2,tg d env S=some (env1,S1)∧p env1 S1=some (.nx env2 S2)∧I env2 S2) →
    ∀ env S,I env S→∃ env' S',mForL tg p xs env S=some (.nx env' S')∧I env' S'
  | [],_,env,S,h=>⟨env,S,rfl,h⟩
  | d::xs,hs,env,S,h=>by
    obtain ⟨env1,S1,env2,S2,e1,e2,h2⟩:=hs d List.mem_cons_self env S h
    obtain ⟨env',S',e3,h3⟩:=forL_inv I xs (fun d hd=>hs d (List.mem_cons_of_mem _ hd)) env2 S2 h2
    exact ⟨env',S',by rw [mForL_cons,e1,ob,kLp1_s,e2,ob,kLp2_nx,e3],h3⟩
theorem mem_rangeD {lo:Int} {n:Nat} {d:D} (h:d∈rangeD lo n):∃ i:Nat,i<n∧d=.int (lo+(i:Int)):=by
  obtain ⟨i,hi⟩:=List.mem_iff_getElem?.mp h
  exact ⟨i,rangeD_get lo n i d hi⟩
noncomputable def nr:D→Bool
  | .ref _=>false
  | _=>true
end MI
namespace MI
open PySem PySem.Spec PyProof.Rows L2 M
noncomputable abbrev PF:=List D→Store→Option (D×Store)
noncomputable def PickOk (pick:PF):Prop:=∀ (S:Store) (r:Nat) (m:Int),Pk S r→0<m→m<1073741824→∃ q S',pick [.ref r,.int m] S=some (.int q,S')∧0≤q∧q<m∧Pk S' r∧(∀ j,j≠r→S'[j]?=S[j]?)∧S'.length=S.length
noncomputable def lawRule (pick:PF):MS:=
  mSeq (mAsg (mOp fIxX (mLst (mCons (mC (.str "rows")) (mCons (mC (.str "readers")) (mCons (mC (.str "writers")) (mCons (mC (.str "turns")) (mCons (mC (.str "passes")) (mNil))))))) (mCallN 2 pick (mCons (mVar 0) (mCons (mC (.int 5)) (mNil))))) (gSet 1)) (mSeq (mAsg (mOp fIxX (mLst (mCons (mC (.int 0)) (mCons (mC (.int 0)) (mCons (mC (.int 1)) (mCons (mC (.int 2)) (mCons (mC (.int 3)) (mCons (mC (.int 5)) (mNil)))))))) (mCallN 2 pick (mCons (mVar 0) (mCons (mC (.int 6)) (mNil))))) (gSet 2)) (mSeq (mAsg (mOp fMulX (mOp fIxX (mLst (mCons (mC (.int 0)) (mCons (mC (.int 1)) (mCons (mC (.int 2)) (mCons (mC (.int 9)) (mNil)))))) (mCallN 2 pick (mCons (mVar 0) (mCons (mC (.int 4)) (mNil))))) (mCall (fPure fInt1) (mCons (mOp fEq (mVar 1) (mC (.str "passes"))) (mNil)))) (gSet 3)) (mRet (mTup (mCons (mVar 1) (mCons (mVar 2) (mCons (mVar 3) (mCons (mCallN 2 pick (mCons (mVar 0) (mCons (mC (.int 2)) (mNil)))) (mNil)))))))))
theorem at_most {q:Int} (h0:0≤q) (h1:q<6):∃ i:Int,atI [D.int 0,D.int 0,D.int 1,D.int 2,D.int 3,D.int 5] q=some (.int i)∧0≤i∧i≤5:=by
  obtain rfl | rfl | rfl | rfl | rfl | rfl:q=0∨q=1∨q=2∨q=3∨q=4∨q=5:=by omega
  all_goals exact ⟨_,rfl,by decide,by decide⟩
theorem at_times {q:Int} (h0:0≤q) (h1:q<4):∃ i:Int,atI [D.int 0,D.int 1,D.int 2,D.int 9] q=some (.int i)∧0≤i∧i≤9:=by
  obtain rfl | rfl | rfl | rfl:q=0∨q=1∨q=2∨q=3:=by omega
  all_goals exact ⟨_,rfl,by decide,by decide⟩
theorem forR {tg:MG} {p:MS} {lo:Int} (I:Nat→MEnv→Store→Prop) (n:Nat) (step:∀ i,i<n→∀ env S,I i env S→∃ env1 S1 env2 S2,tg (.int (lo+(i:Int))) env S=some (env1,S1)∧p env1 S1=some (.nx env2 S2)∧I (i+1) env2 S2) :
    ∀ env S,I 0 env S→∃ env' S',mForL tg p (rangeD lo n) env S=some (.nx env' S')∧I n env' S':=by
  have gen:∀ (m k:Nat),k+m=n→∀ env S,I k env S→∃ env' S',mForL tg p ((List.range' k m).map fun (i:Nat)=>D.int (lo+(i:Int))) env S=some (.nx env' S')∧I n env' S':=by
    intro m
    induction m with
    | zero=>exact fun k hk env S h=>⟨env,S,rfl,by rw [← hk];exact h⟩
    | succ m ih=>
      intro k hk env S h
      obtain ⟨env1,S1,env2,S2,e1,e2,h2⟩:=step k (by omega) env S h
      obtain ⟨env',S',e3,h3⟩:=ih (k+1) (by omega) env2 S2 h2
      refine ⟨env',S',?_,h3⟩
      rw [List.range'_succ,List.map_cons,mForL_cons,e1,ob,kLp1_s,e2,ob,kLp2_nx,e3]
  intro env S h
  have:=gen n 0 (by omega) env S h
  unfold rangeD
  rw [List.range_eq_range']
  exact this
noncomputable def EntOk (n:Int) (xs:List D) (d:D):Prop:=∃ (g:Int) (w:Str) (m:Int) (t:D),d=.tup [.int g,.str w,.int m,t]∧0≤g∧g<n∧(w = "read"∨w = "write")∧0≤m∧m≤999∧(t=.non∨∃ k,t=.int k∧1≤k∧k≤9)∧atI xs g=some (.str "out")
theorem EntOk.up {n n':Int} {xs:List D} {d:D} (h:EntOk n xs d) (hn:n≤n'):EntOk n' xs d:=by
  obtain ⟨g,w,m,t,e,h0,h1,r⟩:=h
  exact ⟨g,w,m,t,e,h0,by omega,r⟩
theorem fSeq1_ref {S:Store} {g:List D→D} {q:Nat} {xs:List D} (h:S[q]?=some (.lst xs)):fPure (fSeq1 g) [.ref q] S=some (g xs,S):=by
  have e:seqD S (.ref q)=some xs:=by simp only [seqD,h]
  show ((seqD S (.ref q)).bind _).bind _=_
  rw [e];rfl
theorem Pk.app {S:Store} {r:Nat} {c:Cell} (h:Pk S r):Pk (S++[c]) r∧S.length≠r:=by
  obtain ⟨a,b,d,h,z⟩:=h
  have hr:=(List.getElem?_eq_some_iff.mp h).1
  exact ⟨⟨a,b,d,by rw [List.getElem?_append_left hr];exact h,z⟩,by omega⟩
end MI
namespace MI
open PySem PySem.Spec PyProof.Rows L2 M
noncomputable def isWord (x:Str):Prop:=x = "rows"∨x = "readers"∨x = "writers"∨x = "turns"∨x = "passes"
theorem at_word {q:Int} (h0:0≤q) (h1:q<5):∃ x:Str,atI [D.str "rows",D.str "readers",D.str "writers",D.str "turns",D.str "passes"] q=some (.str x)∧isWord x:=by
  obtain rfl | rfl | rfl | rfl | rfl:q=0∨q=1∨q=2∨q=3∨q=4:=by omega
  · exact ⟨_,rfl,.inl rfl⟩
  · exact ⟨_,rfl,.inr (.inl rfl)⟩
  · exact ⟨_,rfl,.inr (.inr (.inl rfl))⟩
  · exact ⟨_,rfl,.inr (.inr (.inr (.inl rfl)))⟩
  · exact ⟨_,rfl,.inr (.inr (.inr (.inr rfl)))⟩
noncomputable def Keep (r:Nat) (S S':Store):Prop:=(∀ j,j≠r→S'[j]?=S[j]?)∧S'.length=S.length
theorem Keep.trans {r:Nat} {S S' S'':Store} (h:Keep r S S') (h':Keep r S' S''):Keep r S S'':=⟨fun j z=>(h'.1 j z).trans (h.1 j z),h'.2.trans h.2⟩
structure RuleOk (x:Str) (a b c:Int):Prop where
  w:isWord x
  a0:0≤a
  a5:a≤5
  b0:0≤b
  b9:b≤9
  c0:0≤c
  c1:c≤1
theorem rule_genW {pick:PF} (hp:PickOk pick) {S:Store} {r:Nat} {N:List Str} (hN:N.length=4) (h:Pk S r):∃ x a b c S',runM N (lawRule pick) 1 [.ref r] S=some (.tup [.str x,.int a,.int b,.int c],S')∧RuleOk x a b c∧Pk S' r∧Keep r S S':=by
  have hst:startE N [D.ref r]=[some (.ref r),none,none,none]:=by simp [startE,hN,List.replicate]
  rw [runM_eq (show [D.ref r].length=1 from rfl),hst]
  obtain ⟨q1,S1,e1,l1,g1,P1,K1⟩:=hp _ _ 5 h (by decide) (by decide)
  obtain ⟨q2,S2,e2,l2,g2,P2,K2⟩:=hp _ _ 6 P1 (by decide) (by decide)
  obtain ⟨q3,S3,e3,l3,g3,P3,K3⟩:=hp _ _ 4 P2 (by decide) (by decide)
  obtain ⟨q4,S4,e4,l4,g4,P4,K4⟩:=hp _ _ 2 P3 (by decide) (by decide)
  obtain ⟨x,i1,wx⟩:=at_word l1 g1
  obtain ⟨a,i2,a0,a5⟩:=at_most l2 g2
  obtain ⟨b,i3,b0,b9⟩:=at_times l3 g3
  have k1:∀ S,kLst ([D.str "rows",D.str "readers",D.str "writers",D.str "turns",D.str "passes"],S)=some (.lst [D.str "rows",D.str "readers",D.str "writers",D.str "turns",D.str "passes"],S):=fun S=>kLst_of (by simp)
  have k2:∀ S,kLst ([D.int 0,D.int 0,D.int 1,D.int 2,D.int 3,D.int 5],S)=some (.lst [D.int 0,D.int 0,D.int 1,D.int 2,D.int 3,D.int 5],S):=fun S=>kLst_of (by simp)
  have k3:∀ S,kLst ([D.int 0,D.int 1,D.int 2,D.int 9],S)=some (.lst [D.int 0,D.int 1,D.int 2,D.int 9],S):=fun S=>kLst_of (by simp)
  have k4:∀ S (a b c d:D),kTup ([a,b,c,d],S)=some (.tup [a,b,c,d],S):=fun S a b c d=>kTup_of (by simp)
  have m1:∀ S (z:Bool),fMulX S (.int b) (.int (if z=true then 1 else 0))=some (.int (b * (if z=true then 1 else 0))):=fun S z=>fMul_i (mulB_l (by omega) (by omega))
  refine ⟨x,a,b * (if (x == ("passes":Str))=true then 1 else 0),q4,S4,?_,⟨wx,a0,a5,by split <;> omega,by split <;> omega,l4,by omega⟩,P4,Keep.trans K1 (Keep.trans K2 (Keep.trans K3 K4))⟩
  simp [-beq_iff_eq,lawRule,k1,k2,k3,k4,e1,e2,e3,e4,i1,i2,i3,m1]
theorem app_get {S:Store} {c:Cell}:(S++[c])[S.length]?=some c:=by simp
theorem app_set {S:Store} {c d:Cell}:(S++[c]).set S.length d=S++[d]:=by
  rw [List.set_append,if_neg (Nat.lt_irrefl _)];simp
end MI
namespace MI
open PySem PySem.Spec PyProof.Rows L2 M
inductive Wd where | out | reads | rising | writes | raised
deriving DecidableEq
noncomputable def Wd.s:Wd→Str
  | .out=>"out"
  | .reads=>"reads"
  | .rising=>"rising"
  | .writes=>"writes"
  | .raised=>"raised"
theorem Wd.eq (a b:Wd):(a.s == b.s)=decide (a=b):=by cases a <;> cases b <;> decide +kernel
structure En where
  g:Nat
  wr:Bool
  m:Int
  t:Option Int
noncomputable def wantS (b:Bool):Str:=if b then "write" else "read"
theorem wantS_w (b:Bool):(wantS b == ("write":Str))=b:=by cases b <;> decide +kernel
theorem wantS_r (b:Bool):(wantS b == ("read":Str)) = !b:=by cases b <;> decide +kernel
noncomputable def leftD:Option Int→D
  | none=>.non
  | some k=>.int k
noncomputable def En.d (e:En):D:=.tup [.int (e.g:Nat),.str (wantS e.wr),.int e.m,leftD e.t]
noncomputable abbrev Rm:=List Wd×List En
noncomputable def Wd.d (w:Wd):D:=.str w.s
noncomputable def wsD (ws:List Wd):D:=.tup (ws.map Wd.d)
noncomputable def esD (es:List En):D:=.tup (es.map En.d)
noncomputable def rmD (R:Rm):D:=.tup [wsD R.1,esD R.2]
inductive Rw where | rows | readers | writers | turns | passes
deriving DecidableEq
noncomputable def Rw.s:Rw→Str
  | .rows=>"rows"
  | .readers=>"readers"
  | .writers=>"writers"
  | .turns=>"turns"
  | .passes=>"passes"
theorem Rw.eq (a b:Rw):(a.s == b.s)=decide (a=b):=by cases a <;> cases b <;> decide +kernel
structure Rl where
  w:Rw
  a:Int
  b:Int
  c:Int
noncomputable def Rl.d (r:Rl):D:=.tup [.str r.w.s,.int r.a,.int r.b,.int r.c]
structure Rl.Ok (r:Rl):Prop where
  a0:0≤r.a
  a5:r.a≤5
  b0:0≤r.b
  b9:r.b≤9
  c0:0≤r.c
  c1:r.c≤1
theorem isWord_rw {x:Str} (h:isWord x):∃ w:Rw,x=w.s:=by
  rcases h with rfl | rfl | rfl | rfl | rfl
  · exact ⟨.rows,rfl⟩
  · exact ⟨.readers,rfl⟩
  · exact ⟨.writers,rfl⟩
  · exact ⟨.turns,rfl⟩
  · exact ⟨.passes,rfl⟩
section
variable {α:Type} {enc:α→D} {p:α→Bool} {f:α→D} {t:MT} {e:ME} {rest:MEnv} {S:Store}
theorem comp1:∀ (xs:List α) (a:Option D),(∀ x∈xs,t (some (enc x)::rest) S=some (p x,S))→(∀ x∈xs,p x=true→e (some (enc x)::rest) S=some (f x,S))→mCompL (gSet 0) t e (xs.map enc) (a::rest) S=some ((xs.filter p).map f,S)
  | [],a,_,_=>by simp
  | x::r,a,h,h2=>by
    have ih:=comp1 r (some (enc x)) (fun y hy=>h y (List.mem_cons_of_mem _ hy)) fun y hy=>h2 y (List.mem_cons_of_mem _ hy)
    rw [List.map_cons,mCompL_cons,gSet_s,ob,ls0,kCl1_s,h x (by simp),ob]
    cases hp:p x with
    | true=>rw [kCl2_t,h2 x (by simp) hp,ob,kCl3_s,ih,ob,kCl4_s,List.filter_cons_of_pos hp,List.map_cons]
    | false=>rw [kCl2_f,ih,List.filter_cons_of_neg (by simp [hp])]
theorem kcomp1 {cap:List (Option Nat)} {env:MEnv} {a:Option D} {xs:List α} (hc:capE cap env=a::rest) (hl:xs.length≤1000) (h:∀ x∈xs,t (some (enc x)::rest) S=some (p x,S)) (h2:∀ x∈xs,p x=true→e (some (enc x)::rest) S=some (f x,S)) :
    kComp (gSet 0) t e cap env (xs.map enc,S)=some (.lst ((xs.filter p).map f),S):=by
  rw [kComp_of (by rw [List.length_map];exact hl),hc,comp1 xs a h h2,ob,kComp2_s]
theorem comp2:∀ (xs:List α) (k:Nat) (a b:Option D),(∀ i x,xs[i]?=some x→t (some (.int ((k+i:Nat):Int))::some (enc x)::rest) S=some (p x,S))→mCompL (gTupD 2 (gConsD (gSet 0) (gConsD (gSet 1) (gNilD)))) t (mVar 0) (enumD k (xs.map enc)) (a::b::rest) S=some (((xs.zipIdx k).filter fun q=>p q.1).map fun q=>.int (q.2:Int),S)
  | [],k,a,b,_=>by simp [enumD]
  | x::r,k,a,b,h=>by
    have ih:=comp2 r (k+1) (some (.int (k:Int))) (some (enc x)) (fun i y hy=>by
      have:=h (i+1) y (by simpa using hy)
      rw [show k+(i+1)=k+1+i by omega] at this
      exact this)
    have h0:=h 0 x rfl
    rw [Nat.add_zero] at h0
    rw [List.map_cons,enumD,mCompL_cons,gTupD_2,gConsD_s,gSet_s,ob,ls0,kGs_s,gConsD_s,gSet_s,ob,lsS,ls0,kGs_s,gNilD_s,ob,kCl1_s,h0,ob,List.zipIdx_cons]
    cases hp:p x with
    | true=>
      rw [kCl2_t,mVar_s,lg0,oj,ob,kRet_s,ob,kCl3_s,ih,ob,kCl4_s,List.filter_cons_of_pos (p:=fun q:α×Nat=>p q.1) (a:=(x,k)) hp,List.map_cons]
    | false=>rw [kCl2_f,ih,List.filter_cons_of_neg (p:=fun q:α×Nat=>p q.1) (a:=(x,k)) (by simp [hp])]
theorem kcomp2 {cap:List (Option Nat)} {env:MEnv} {a b:Option D} {xs:List α} (hc:capE cap env=a::b::rest) (hl:xs.length≤1000) (h:∀ (i:Nat) x,xs[i]?=some x→t (some (.int (i:Int))::some (enc x)::rest) S=some (p x,S)) :
    kComp (gTupD 2 (gConsD (gSet 0) (gConsD (gSet 1) (gNilD)))) t (mVar 0) cap env (enumD 0 (xs.map enc),S)=some (.lst ((xs.zipIdx.filter fun q=>p q.1).map fun q=>.int (q.2:Int)),S):=by
  rw [kComp_of (by rw [enumD_len,List.length_map];exact hl),hc,comp2 xs 0 a b (fun i x hx=>by rw [Nat.zero_add];exact h i x hx),ob,kComp2_s]
end
theorem atI_n {α:Type} {xs:List α} {i:Nat} {x:α} (h:xs[i]?=some x):atI xs (i:Int)=some x:=by
  have hl:=(List.getElem?_eq_some_iff.mp h).1
  rw [atI_at (by omega) (by omega)]
  rw [List.getElem?_eq_some_iff] at h
  obtain ⟨_,h⟩:=h
  simpa using h
theorem at4 (x a b c:D):atI [x,a,b,c] 0=some x∧atI [x,a,b,c] 1=some a∧atI [x,a,b,c] 2=some b∧atI [x,a,b,c] 3=some c:=⟨rfl,rfl,rfl,rfl⟩
section
variable {S:Store} {e:En} {r:Rl} {R:Rm}
theorem En.ix0:fIxX S e.d (.int 0)=some (.int (e.g:Nat)):=rfl
theorem En.ix1:fIxX S e.d (.int 1)=some (.str (wantS e.wr)):=rfl
theorem En.ix2:fIxX S e.d (.int 2)=some (.int e.m):=rfl
theorem En.ix3:fIxX S e.d (.int 3)=some (leftD e.t):=rfl
theorem Rl.ix0:fIxX S r.d (.int 0)=some (.str r.w.s):=rfl
theorem Rl.ix1:fIxX S r.d (.int 1)=some (.int r.a):=rfl
theorem Rl.ix2:fIxX S r.d (.int 2)=some (.int r.b):=rfl
theorem Rl.ix3:fIxX S r.d (.int 3)=some (.int r.c):=rfl
theorem Rm.ix0:fIxX S (rmD R) (.int 0)=some (wsD R.1):=rfl
theorem Rm.ix1:fIxX S (rmD R) (.int 1)=some (esD R.2):=rfl
theorem ws_ix {ws:List Wd} {i:Nat} {w:Wd} (h:ws[i]?=some w):fIxX S (wsD ws) (.int (i:Int))=some w.d:=by
  show atI (ws.map Wd.d) (i:Int)=_
  exact atI_n (by rw [List.getElem?_map,h];rfl)
theorem es_ix {es:List En} {i:Nat} {e:En} (h:es[i]?=some e):fIxX S (esD es) (.int (i:Int))=some e.d:=by
  show atI (es.map En.d) (i:Int)=_
  exact atI_n (by rw [List.getElem?_map,h];rfl)
end
theorem sIx_n {n d i:Nat}:HT.sIx n d (some (i:Int))=min i n:=by
  show (if (i:Int)<0 then ((i:Int)+(n:Int)).toNat else min (i:Int).toNat n)=_
  rw [if_neg (by omega),Int.toNat_natCast]
theorem sIx_0 {n d:Nat}:HT.sIx n d none=d:=rfl
theorem cutL_take {α:Type} (xs:List α) (i:Nat) (h:i≤xs.length):cutL xs none (some (i:Int))=xs.take i:=by
  unfold cutL
  rw [sIx_n,sIx_0,Nat.min_eq_left h];simp
theorem cutL_drop {α:Type} (xs:List α) (i:Nat) (h:i≤xs.length):cutL xs (some (i:Int)) none=xs.drop i:=by
  unfold cutL
  rw [sIx_n,sIx_0,Nat.min_eq_left h,List.take_of_length_le (by simp)]
noncomputable def lawPut:MS:=mRet (mOp fAddX (mOp fAddX (mSlice (mVar 0) (mPartN) (mPart (mVar 1))) (mTup (mCons (mVar 2) (mNil)))) (mSlice (mVar 0) (mPart (mOp fAddX (mVar 1) (mC (.int 1)))) (mPartN)))
theorem set_eq {α:Type} (xs:List α) (i:Nat) (h:i<xs.length) (x:α):xs.take i++[x]++xs.drop (i+1)=xs.set i x:=by
  rw [List.set_eq_take_append_cons_drop,if_pos h];simp
theorem put_gen {N:List Str} (hN:N.length=3) {S:Store} {ws:List Wd} {i:Nat} {w:Wd} (h:i<ws.length) (hl:ws.length≤100):runM N lawPut 3 [wsD ws,.int (i:Int),w.d] S=some (wsD (ws.set i w),S):=by
  have hst:startE N [wsD ws,D.int (i:Int),w.d]=[some (wsD ws),some (.int (i:Int)),some w.d]:=by simp [startE,hN]
  rw [runM_eq (show [wsD ws,D.int (i:Int),w.d].length=3 from rfl),hst]
  have k1:kTup ([w.d],S)=some (.tup [w.d],S):=kTup_of (by simp)
  have c1:cutL (ws.map Wd.d) none (some (i:Int))=(ws.take i).map Wd.d:=by rw [cutL_take _ _ (by rw [List.length_map];omega),List.map_take]
  have c2:cutL (ws.map Wd.d) (some ((i:Int)+1)) none=(ws.drop (i+1)).map Wd.d:=by
    rw [show ((i:Int)+1)=((i+1:Nat):Int) by omega,cutL_drop _ _ (by rw [List.length_map];omega),List.map_drop]
  have a1:fAddX S (.tup ((ws.take i).map Wd.d)) (.tup [w.d])=some (.tup ((ws.take i).map Wd.d++[w.d])):=fAdd_t (by simp;omega)
  have a2:fAddX S (.tup ((ws.take i).map Wd.d++[w.d])) (.tup ((ws.drop (i+1)).map Wd.d))=some (.tup ((ws.take i).map Wd.d++[w.d]++(ws.drop (i+1)).map Wd.d)):=fAdd_t (by simp;omega)
  have e:(ws.take i).map Wd.d++[w.d]++(ws.drop (i+1)).map Wd.d=(ws.set i w).map Wd.d:=by
    rw [← set_eq ws i h w];simp
  rw [e] at a2
  simp only [lawPut,wsD,mRet_s,mOp_s,mSlice_s,mVar_s,lg0,lgS,lg1,oj,ob,kRet_s,kSl1_s,mPartN_s,kSl2_s,mPart_s,kPart_s,kSl3_t,c1,kOp1_s,mTup_s,mCons_s,kCons1_s,mNil_s,kCons2_s,k1,kOp2_s,a1,mC_s,fAdd_i,c2,a2,kRt_s,outM_rt]
end MI
namespace MI
open PySem PySem.Spec PyProof.Rows L2 M
section
variable {S:Store} {ws:List Wd} {es:List En} {ms:MA} {env:MEnv}
theorem eqWd (a b:Wd):eqD a.d b.d=decide (a=b):=Wd.eq a b
theorem okWs {n:Nat}:((ws.map Wd.d).all (okD n))=true:=by
  rw [List.all_eq_true];intro d hd;obtain ⟨w,_,rfl⟩:=List.mem_map.mp hd;cases n <;> rfl
theorem ws_cnt (w:Wd):fCountT (wsD ws) [w.d] S=some (.int (ws.count w:Nat),S):=by
  have h:=fCountT_t (S:=S) (x:=w.d) (xs:=ws.map Wd.d) rfl okWs
  rw [show wsD ws=.tup (ws.map Wd.d) from rfl,h]
  congr 4
  rw [List.countP_map]
  apply List.countP_congr
  intro a _
  simp [eqWd]
theorem ws_kCnt:kCnt ms env (wsD ws,S)=(ms env S).bind (kMeth2 fCountT (wsD ws)):=rfl
theorem ws_len:fPure fLen [wsD ws] S=some (.int (ws.length:Nat),S):=by
  rw [show wsD ws=.tup (ws.map Wd.d) from rfl,fLen_t,List.length_map]
theorem es_len:fPure fLen [esD es] S=some (.int (es.length:Nat),S):=by
  rw [show esD es=.tup (es.map En.d) from rfl,fLen_t,List.length_map]
end
noncomputable def letB (r:Rl) (ws:List Wd) (wr:Bool):Bool:=
  if ws.count .reads+ws.count .rising+ws.count .out<ws.length then false
  else if wr then decide (ws.count .reads+ws.count .rising=0)
  else decide (ws.count .rising=0)&&(decide (r.a=0)||decide (((ws.count .reads+ws.count .rising:Nat):Int)<r.a))
noncomputable def lawLets:MS:=
  mSeq (mAsg (mOp fAddX (mCnt (mVar 1) (mCons (mC (.str "reads")) (mNil))) (mCnt (mVar 1) (mCons (mC (.str "rising")) (mNil)))) (gSet 3)) (mSeq (mIfS (mTest (mOp fLt (mOp fAddX (mVar 3) (mCnt (mVar 1) (mCons (mC (.str "out")) (mNil)))) (mCall (fPure fLen) (mCons (mVar 1) (mNil))))) (mRet (mC (.bl false))) (mSkip)) (mSeq (mIfS (mTest (mOp fEq (mVar 2) (mC (.str "write")))) (mRet (mOp fEq (mVar 3) (mC (.int 0)))) (mSkip)) (mRet (mAnd (mOp fEq (mCnt (mVar 1) (mCons (mC (.str "rising")) (mNil))) (mC (.int 0))) (mOr (mOp fEq (mOp fIxX (mVar 0) (mC (.int 1))) (mC (.int 0))) (mOp fLt (mVar 3) (mOp fIxX (mVar 0) (mC (.int 1)))))))))
theorem lets_gen {N:List Str} (hN:N.length=4) {S:Store} {r:Rl} {ws:List Wd} {wr:Bool}:runM N lawLets 3 [r.d,wsD ws,.str (wantS wr)] S=some (.bl (letB r ws wr),S):=by
  have hst:startE N [r.d,wsD ws,D.str (wantS wr)]=[some r.d,some (wsD ws),some (.str (wantS wr)),none]:=by simp [startE,hN,List.replicate]
  rw [runM_eq (show [r.d,wsD ws,D.str (wantS wr)].length=3 from rfl),hst]
  have c1:∀ S,fCountT (wsD ws) [.str "reads"] S=some (.int (ws.count .reads:Nat),S):=fun S=>ws_cnt .reads
  have c2:∀ S,fCountT (wsD ws) [.str "rising"] S=some (.int (ws.count .rising:Nat),S):=fun S=>ws_cnt .rising
  have c3:∀ S,fCountT (wsD ws) [.str "out"] S=some (.int (ws.count .out:Nat),S):=fun S=>ws_cnt .out
  unfold letB
  simp only [lawLets,mSeq_s,mAsg_s,mOp_s,mCnt_s,mVar_s,lg0,lg1,lgS,oj,ob,kRet_s,ws_kCnt,mCons_s,mC_s,kCons1_s,mNil_s,kCons2_s,kMeth2_s,c1,c2,c3,kOp1_s,kOp2_s,fAdd_i,kAsg_s,gSet_s,ls0,lsS,kNx_s,kSeq_nx,mIfS_s,mTest_s,mCall_s,kCall_s,ws_len,fLt_i,kTest_s]
  by_cases h1:ws.count .reads+ws.count .rising+ws.count .out<ws.length
  · have:decide (((ws.count Wd.reads:Nat):Int)+((ws.count Wd.rising:Nat):Int)+((ws.count Wd.out:Nat):Int)<((ws.length:Nat):Int))=true:=decide_eq_true (by omega)
    rw [this,if_pos h1];simp
  · have:decide (((ws.count Wd.reads:Nat):Int)+((ws.count Wd.rising:Nat):Int)+((ws.count Wd.out:Nat):Int)<((ws.length:Nat):Int))=false:=decide_eq_false (by omega)
    rw [this,if_neg h1]
    cases wr with
    | true=>
      have e:(wantS true == ("write":Str))=true:=wantS_w true
      have e2:(((ws.count Wd.reads:Nat):Int)+((ws.count Wd.rising:Nat):Int) == 0)=decide (ws.count Wd.reads+ws.count Wd.rising=0):=by
        rw [Bool.eq_iff_iff];simp;omega
      simp [e,e2]
    | false=>
      have e:(wantS false == ("write":Str))=false:=wantS_w false
      have e2:(((ws.count Wd.rising:Nat):Int) == 0)=decide (ws.count Wd.rising=0):=by rw [Bool.eq_iff_iff];simp
      have e3:(r.a == 0)=decide (r.a=0):=rfl
      by_cases h2:ws.count Wd.rising=0
      · by_cases h3:r.a=0
        · simp [e,e2,Rl.ix1,h2,h3,ws_kCnt,c2]
        · simp [e,e2,Rl.ix1,h2,h3,ws_kCnt,c2,beq_eq_false_iff_ne.mpr h3]
      · simp [e,e2,Rl.ix1,h2,ws_kCnt,c2]
theorem nat_take {α:Type} (xs:List α) (i:Nat):cutL xs none (some (i:Int))=xs.take i:=by
  unfold cutL
  rw [sIx_n,sIx_0];simp only [List.drop_zero,Nat.sub_zero]
  rcases Nat.le_total i xs.length with h | h
  · rw [Nat.min_eq_left h]
  · rw [Nat.min_eq_right h,List.take_of_length_le (Nat.le_refl _),List.take_of_length_le h]
noncomputable def ni (i:Nat):D:=.int (i:Int)
noncomputable def nl (l:List Nat):D:=.lst (l.map ni)
noncomputable def orL (a b:List Nat):List Nat:=if a=[] then b else a
noncomputable def ixL (p:En→Bool) (es:List En):List Nat:=(es.zipIdx.filter fun q=>p q.1).map (·.2)
theorem ixL_lt {p:En→Bool} {es:List En} {i:Nat} (h:i∈ixL p es):i<es.length:=by
  unfold ixL at h
  obtain ⟨q,hq,rfl⟩:=List.mem_map.mp h
  have:=(List.mem_filter.mp hq).1
  have:=List.snd_lt_of_mem_zipIdx this
  omega
theorem ixL_false {es:List En}:ixL (fun _=>false) es=[]:=by unfold ixL;simp
theorem nl_ix {p:En→Bool} {es:List En}:D.lst ((es.zipIdx.filter fun q=>p q.1).map fun q=>.int (q.2:Int))=nl (ixL p es):=by
  unfold nl ixL ni;rw [List.map_map];rfl
theorem kOr_nl {b:ME} {env:MEnv} {S:Store} {l:List Nat}:kOr b env (nl l,S)=if l=[] then b env S else some (nl l,S):=by
  cases l with
  | nil=>rfl
  | cons _ _=>rw [if_neg (by simp)];exact kOr_c
theorem kSl_nl {S:Store} {l:List Nat} {n:Nat}:kSl3 (nl l) none (some (n:Int),S)=some (nl (l.take n),S):=by
  unfold nl;rw [kSl3_l,nat_take,List.map_take]
theorem nl_range (n:Nat):D.lst (rangeD 0 n)=nl (List.range n):=by
  unfold rangeD nl ni;congr 1;apply List.map_congr_left;intro i _;rw [Int.zero_add]
theorem kItS_nl {S:Store} {l:List Nat}:kItS (nl l,S)=some (l.map ni,S):=rfl
noncomputable def frL (r:Rl) (es:List En):List Nat:=match r.w with
  | .rows=>(List.range es.length).take 1
  | .readers=>(orL (ixL (fun e=>!e.wr) es) (ixL (fun e=>e.wr) es)).take 1
  | .passes=>(List.range es.length).filter fun i=>decide (maxL (0::(es.take i).map fun e=>e.m+1)≤r.b)
  | .turns=>(orL (ixL (fun e=>decide (e.m=1)) es) (orL (ixL (fun e=>e.wr) es) (ixL (fun e=>!e.wr) es))).take 1
  | .writers=>(orL (ixL (fun e=>e.wr) es) (ixL (fun e=>!e.wr) es)).take 1
theorem frL_lt {r:Rl} {es:List En} {i:Nat} (h:i∈frL r es):i<es.length:=by
  have ho:∀ {a b:List Nat},i∈orL a b→i∈a∨i∈b:=fun {a b} h=>by unfold orL at h;split at h <;> simp [h]
  unfold frL at h
  split at h
  · exact List.mem_range.mp (List.mem_of_mem_take h)
  · exact (ho (List.mem_of_mem_take h)).elim ixL_lt ixL_lt
  · exact List.mem_range.mp (List.mem_filter.mp h).1
  · exact (ho (List.mem_of_mem_take h)).elim ixL_lt fun h=>(ho h).elim ixL_lt ixL_lt
  · exact (ho (List.mem_of_mem_take h)).elim ixL_lt ixL_lt
noncomputable def frR:ME:=mComp (mEnum (mCons (mVar 1) (mNil))) (gTupD 2 (gConsD (gSet 0) (gConsD (gSet 1) (gNilD)))) (mTest (mOp fEq (mOp fIxX (mVar 1) (mC (.int 1))) (mC (.str "read")))) (mVar 0) [none,none]
noncomputable def frW:ME:=mComp (mEnum (mCons (mVar 1) (mNil))) (gTupD 2 (gConsD (gSet 0) (gConsD (gSet 1) (gNilD)))) (mTest (mOp fEq (mOp fIxX (mVar 1) (mC (.int 1))) (mC (.str "write")))) (mVar 0) [none,none]
noncomputable def frT:ME:=mComp (mEnum (mCons (mVar 1) (mNil))) (gTupD 2 (gConsD (gSet 0) (gConsD (gSet 1) (gNilD)))) (mAndT (mTest (mOp fEq (mOp fIxX (mVar 2) (mC (.int 0))) (mC (.str "turns")))) (mTest (mOp fEq (mOp fIxX (mVar 1) (mC (.int 2))) (mC (.int 1))))) (mVar 0) [none,none,some 0]
noncomputable def frPi:ME:=mComp (mItS (mSlice (mVar 2) (mPartN) (mPart (mVar 0)))) (gSet 0) (mTrue) (mOp fAddX (mOp fIxX (mVar 0) (mC (.int 2))) (mC (.int 1))) [none]
noncomputable def frP:ME:=mComp (mRange1 (mCons (mCall (fPure fLen) (mCons (mVar 1) (mNil))) (mNil))) (gSet 0) (mTest (mOp fLe (mCall (fPure fMaxX) (mCons (mOp fAddX (mLst (mCons (mC (.int 0)) (mNil))) frPi) (mNil))) (mOp fIxX (mVar 1) (mC (.int 2))))) (mVar 0) [none,some 0,some 1]
noncomputable def lawFronts:MS:=
  mSeq (mAsg frR (gSet 2)) (mSeq (mAsg frW (gSet 3)) (mSeq (mIfS (mTest (mOp fEq (mOp fIxX (mVar 0) (mC (.int 0))) (mC (.str "rows")))) (mRet (mSlice (mListR (mCons (mCall (fPure fLen) (mCons (mVar 1) (mNil))) (mNil))) (mPartN) (mPart (mC (.int 1))))) (mSkip)) (mSeq (mIfS (mTest (mOp fEq (mOp fIxX (mVar 0) (mC (.int 0))) (mC (.str "readers")))) (mRet (mSlice (mOr (mVar 2) (mVar 3)) (mPartN) (mPart (mC (.int 1))))) (mSkip)) (mSeq (mIfS (mTest (mOp fEq (mOp fIxX (mVar 0) (mC (.int 0))) (mC (.str "passes")))) (mRet frP) (mSkip)) (mSeq (mAsg frT (gSet 4)) (mRet (mSlice (mOr (mVar 4) (mOr (mVar 3) (mVar 2))) (mPartN) (mPart (mC (.int 1))))))))))
section
variable {S:Store} {r:Rl} {es:List En}
theorem es_enum {ms:MA} {env:MEnv}:kEnum ([esD es],S)=some (enumD 0 (es.map En.d),S):=rfl
theorem frR_eq {a c d e:Option D} (hl:es.length≤100):frR [a,some (esD es),c,d,e] S=some (nl (ixL (fun e=>!e.wr) es),S):=by
  have k:=kcomp2 (S:=S) (t:=mTest (mOp fEq (mOp fIxX (mVar 1) (mC (.int 1))) (mC (.str "read")))) (cap:=[none,none]) (env:=[a,some (esD es),c,d,e]) (enc:=En.d) (p:=fun e=>!e.wr) (xs:=es) rfl (by omega) (fun i x _=>by simp [En.ix1,-beq_iff_eq,wantS_r])
  rw [nl_ix (p:=fun e=>!e.wr)] at k
  simp only [frR,mComp_s,mEnum_s,mCons_s,mVar_s,lg0,lg1,lgS,oj,ob,kRet_s,kCons1_s,mNil_s,kCons2_s,es_enum (ms:=mNil) (env:=[]),k]
theorem frW_eq {a c d e:Option D} (hl:es.length≤100):frW [a,some (esD es),c,d,e] S=some (nl (ixL (fun e=>e.wr) es),S):=by
  have k:=kcomp2 (S:=S) (t:=mTest (mOp fEq (mOp fIxX (mVar 1) (mC (.int 1))) (mC (.str "write")))) (cap:=[none,none]) (env:=[a,some (esD es),c,d,e]) (enc:=En.d) (p:=fun e=>e.wr) (xs:=es) rfl (by omega) (fun i x _=>by simp [En.ix1,-beq_iff_eq,wantS_w])
  rw [nl_ix] at k
  simp only [frW,mComp_s,mEnum_s,mCons_s,mVar_s,lg0,lg1,lgS,oj,ob,kRet_s,kCons1_s,mNil_s,kCons2_s,es_enum (ms:=mNil) (env:=[]),k]
theorem frT_eq {c d e:Option D} (hl:es.length≤100):frT [some r.d,some (esD es),c,d,e] S=some (nl (ixL (fun e=>decide (r.w=.turns)&&decide (e.m=1)) es),S):=by
  have hw:(r.w.s == ("turns":Str))=decide (r.w=.turns):=Rw.eq r.w .turns
  have k:=kcomp2 (S:=S) (t:=mAndT (mTest (mOp fEq (mOp fIxX (mVar 2) (mC (.int 0))) (mC (.str "turns")))) (mTest (mOp fEq (mOp fIxX (mVar 1) (mC (.int 2))) (mC (.int 1))))) (cap:=[none,none,some 0]) (env:=[some r.d,some (esD es),c,d,e]) (enc:=En.d) (p:=fun e=>decide (r.w=.turns)&&decide (e.m=1)) (xs:=es) rfl (by omega) (fun i x _=>by
    cases h:decide (r.w=.turns) with
    | true=>simp [En.ix2,Rl.ix0,-beq_iff_eq,hw,h];rfl
    | false=>simp [En.ix2,Rl.ix0,-beq_iff_eq,hw,h])
  rw [nl_ix (p:=fun e=>decide (r.w=.turns)&&decide (e.m=1))] at k
  simp only [frT,mComp_s,mEnum_s,mCons_s,mVar_s,lg0,lg1,lgS,oj,ob,kRet_s,kCons1_s,mNil_s,kCons2_s,es_enum (ms:=mNil) (env:=[]),k]
theorem frPi_eq {i:Nat} {b:Option D} (hl:es.length≤60):frPi [some (.int (i:Int)),b,some (esD es)] S=some (.lst (((es.take i).map fun e=>e.m+1).map .int),S):=by
  have k:=kcomp1 (S:=S) (t:=mTrue) (e:=mOp fAddX (mOp fIxX (mVar 0) (mC (.int 2))) (mC (.int 1))) (cap:=[none]) (env:=[some (.int (i:Int)),b,some (esD es)]) (rest:=[]) (a:=none) (enc:=En.d) (p:=fun _=>true) (f:=fun e=>.int (e.m+1)) (xs:=es.take i) rfl (by simp;omega) (fun x _=>mTrue_s) (fun x _ _=>by simp [En.ix2])
  have e:kSl3 (esD es) none (some (i:Int),S)=some (.tup ((es.take i).map En.d),S):=by
    rw [show esD es=.tup (es.map En.d) from rfl,kSl3_t,nat_take,List.map_take]
  rw [List.filter_eq_self.mpr (fun _ _=>rfl)] at k
  simp only [frPi,mComp_s,mItS_s,mSlice_s,mVar_s,lg0,lg1,lgS,oj,ob,kRet_s,kSl1_s,mPartN_s,kSl2_s,mPart_s,kPart_s,e,kItS_t,k,List.map_map]
  rfl
theorem frP_eq {c d e:Option D} (hl:es.length≤60):frP [some r.d,some (esD es),c,d,e] S=some (nl ((List.range es.length).filter fun i=>decide (maxL (0::(es.take i).map fun e=>e.m+1)≤r.b)),S):=by
  have k:=kcomp1 (S:=S) (t:=(mTest (mOp fLe (mCall (fPure fMaxX) (mCons (mOp fAddX (mLst (mCons (mC (.int 0)) (mNil))) frPi) (mNil))) (mOp fIxX (mVar 1) (mC (.int 2)))))) (e:=mVar 0) (cap:=[none,some 0,some 1]) (env:=[some r.d,some (esD es),c,d,e]) (rest:=[some r.d,some (esD es)]) (a:=none) (enc:=ni) (p:=fun i=>decide (maxL (0::(es.take i).map fun e=>e.m+1)≤r.b)) (f:=ni) (xs:=List.range es.length) rfl (by simp;omega) (fun i _=>by
    have h0:frPi [some (ni i),some r.d,some (esD es)] S=some (.lst (((es.take i).map fun e=>e.m+1).map .int),S):=frPi_eq hl
    have h1:kLst ([.int 0],S)=some (.lst [.int 0],S):=kLst_of (by simp)
    have h2:fAddX S (.lst [.int 0]) (.lst (((es.take i).map fun e=>e.m+1).map .int))=some (.lst ((0::(es.take i).map fun e=>e.m+1).map .int)):=fAdd_l (by simp;omega)
    have h3:fPure fMaxX [.lst ((0::(es.take i).map fun e=>e.m+1).map .int)] S=some (.int (maxL (0::(es.take i).map fun e=>e.m+1)),S):=fMaxX_l (by simp;omega) (by simp)
    simp only [mTest_s,mOp_s,mCall_s,mCons_s,mLst_s,mC_s,ob,kCons1_s,mNil_s,kCons2_s,h1,kOp1_s,h0,kOp2_s,h2,kRet_s,kCall_s,h3,mVar_s,lg0,lg1,lgS,oj,Rl.ix2,fLe_i,kTest_s]) (fun i _ _=>by simp)
  have e1:kR1 ([.int (es.length:Nat)],S)=some ((List.range es.length).map ni,S):=by
    rw [kR1_of (by omega) (by omega)]
    have:=nl_range es.length
    simp only [nl,D.lst.injEq] at this
    rw [Int.toNat_natCast,this]
  simp only [frP,mComp_s,mRange1_s,mCons_s,mCall_s,mVar_s,lg0,lg1,lgS,oj,ob,kRet_s,kCons1_s,mNil_s,kCons2_s,kCall_s,es_len,e1,k]
  rfl
theorem fronts_gen {N:List Str} (hN:N.length=5) (hl:es.length≤60):runM N lawFronts 2 [r.d,esD es] S=some (nl (frL r es),S):=by
  have hst:startE N [r.d,esD es]=[some r.d,some (esD es),none,none,none]:=by simp [startE,hN,List.replicate]
  rw [runM_eq (show [r.d,esD es].length=2 from rfl),hst]
  have a:(es.length:Nat)≤100:=by omega
  have w1:(r.w.s == ("rows":Str))=decide (r.w=.rows):=Rw.eq r.w .rows
  have w2:(r.w.s == ("readers":Str))=decide (r.w=.readers):=Rw.eq r.w .readers
  have w3:(r.w.s == ("passes":Str))=decide (r.w=.passes):=Rw.eq r.w .passes
  have lr:kListR ([.int (es.length:Nat)],S)=some (nl (List.range es.length),S):=by rw [kListR_of (by omega) (by omega),Int.toNat_natCast,nl_range]
  have s1:∀ l:List Nat,kSl3 (nl l) none (some 1,S)=some (nl (l.take 1),S):=fun l=>kSl_nl (n:=1)
  have o1:∀ (b:ME) env (l:List Nat),kOr b env (nl l,S)=if l=[] then b env S else some (nl l,S):=fun b env l=>kOr_nl
  simp only [lawFronts,mSeq_s,mAsg_s,frR_eq a,frW_eq a,ob,kAsg_s,gSet_s,ls0,lsS,kNx_s,kSeq_nx,mIfS_s,mTest_s,mOp_s,mVar_s,lg0,lg1,lgS,oj,kRet_s,mC_s,kOp1_s,Rl.ix0,kOp2_s,fEq_ss,kTest_s,w1,w2,w3]
  unfold frL
  cases hw:r.w <;> rw [hw] at w1 w2 w3 <;> simp [mSlice_s,mListR_s,es_len,lr,s1,o1,frP_eq hl,frT_eq a,hw,orL,Rl.ix0,w1,w2,w3,-beq_iff_eq]
  · split <;> simp [s1]
  · rw [ixL_false,if_pos rfl];split <;> simp [s1]
  · split
    · split <;> simp [s1]
    · simp [s1]
end
end MI
namespace MI
open PySem PySem.Spec PyProof.Rows L2 M
structure ROk (R:Rm):Prop where
  out:∀ e∈R.2,R.1[e.g]?=some .out
  nd:(R.2.map (·.g)).Nodup
theorem nd_len:∀ (n:Nat) (l:List Nat),l.Nodup→(∀ x∈l,x<n)→l.length≤n
  | 0,l,_,h=>by cases l with | nil=>exact Nat.le_refl _ | cons x _=>exact absurd (h x (by simp)) (by omega)
  | n+1,l,hn,h=>by
    by_cases hm:n∈l
    · have:=nd_len n (l.erase n) (hn.erase n) fun x hx=>by
        have h1:=h x (List.mem_of_mem_erase hx)
        have h2:x≠n:=fun z=>by rw [z] at hx;exact (List.Nodup.not_mem_erase hn) hx
        omega
      rw [List.length_erase_of_mem hm] at this
      omega
    · have:=nd_len n l hn fun x hx=>by
        have h1:=h x hx
        have h2:x≠n:=fun z=>hm (z ▸ hx)
        omega
      omega
theorem ROk.lt {R:Rm} (h:ROk R) {e:En} (he:e∈R.2):e.g<R.1.length:=(List.getElem?_eq_some_iff.mp (h.out e he)).1
theorem ROk.len {R:Rm} (h:ROk R):R.2.length≤R.1.length:=by
  have:=nd_len R.1.length (R.2.map (·.g)) h.nd fun x hx=>by obtain ⟨e,he,rfl⟩:=List.mem_map.mp hx;exact h.lt he
  rwa [List.length_map] at this
structure Ev where
  w:Str
  g:Nat
noncomputable def Ev.d (e:Ev):D:=.tup [.str e.w,.int (e.g:Nat)]
noncomputable def aloneL (ws:List Wd):List Nat:=(List.range ws.length).filter fun g=>decide (ws[g]?=some .rising)&&decide (ws.count .out+1=ws.length)
noncomputable def someL (r:Rl) (ws:List Wd) (es:List En):List Nat:=(frL r es).filter fun i=>match es[i]? with | some e=>letB r ws e.wr | none=>false
noncomputable def bump (r:Rl) (e:En):En:={ e with m:=e.m+(if r.w=.passes then 1 else 0) }
noncomputable def goIn (r:Rl) (R:Rm) (i:Nat) (e:En):Rm:=(R.1.set e.g (if e.wr then .writes else .reads),(R.2.take i).map (bump r)++R.2.drop (i+1))
noncomputable def stL (r:Rl) (R:Rm):Rm×List Ev:=match aloneL R.1 with
  | g::_=>((R.1.set g .raised,R.2),[⟨"steps",g⟩])
  | []=>match someL r R.1 R.2 with
    | i::_=>match R.2[i]? with
      | some e=>(goIn r R i e,[⟨"in",e.g⟩])
      | none=>(R,[])
    | []=>(R,[])
noncomputable def seL (r:Rl):Nat→Rm→Rm×List Ev
  | 0,R=>(R,[])
  | n+1,R=>let a:=stL r R;let b:=seL r n a.1;(b.1,a.2++b.2)
theorem map_bump_g (r:Rl) (es:List En):(es.map (bump r)).map (·.g)=es.map (·.g):=by rw [List.map_map];rfl
theorem goIn_ok {r:Rl} {R:Rm} {i:Nat} {e:En} (h:ROk R) (hi:R.2[i]?=some e):ROk (goIn r R i e):=by
  obtain ⟨ws,es⟩:=R
  have hs:es=es.take i++e::es.drop (i+1):=by
    obtain ⟨hl,he⟩:=List.getElem?_eq_some_iff.mp hi
    rw [← he,List.getElem_cons_drop,List.take_append_drop]
  have hnd:((es.take i).map (·.g)++e.g::(es.drop (i+1)).map (·.g)).Nodup:=by
    have:=h.nd
    dsimp only at this
    rw [hs] at this
    simpa using this
  rw [List.nodup_append,List.nodup_cons] at hnd
  obtain ⟨n1,⟨n2,n3⟩,n4⟩:=hnd
  refine ⟨fun x hx=>?_,?_⟩
  · show (ws.set e.g _)[x.g]?=_
    have key:∃ y∈es,y.g=x.g∧x.g≠e.g:=by
      rcases List.mem_append.mp hx with hx | hx
      · obtain ⟨y,hy,rfl⟩:=List.mem_map.mp hx
        refine ⟨y,List.mem_of_mem_take hy,rfl,fun z=>?_⟩
        exact n4 _ (List.mem_map.mpr ⟨y,hy,rfl⟩) _ List.mem_cons_self z
      · refine ⟨x,List.mem_of_mem_drop hx,rfl,fun z=>n2 ?_⟩
        rw [← z];exact List.mem_map.mpr ⟨x,hx,rfl⟩
    obtain ⟨y,hy,e1,ne⟩:=key
    rw [List.getElem?_set_ne (Ne.symm ne),← e1]
    exact h.out y hy
  · show (((es.take i).map (bump r)++es.drop (i+1)).map (·.g)).Nodup
    rw [List.map_append,map_bump_g,List.nodup_append]
    exact ⟨n1,n3,fun a ha b hb=>n4 a ha b (List.mem_cons_of_mem _ hb)⟩
theorem aloneL_mem {ws:List Wd} {g:Nat} (h:g∈aloneL ws):ws[g]?=some .rising:=by
  have:=(List.mem_filter.mp h).2
  rw [Bool.and_eq_true] at this
  exact of_decide_eq_true this.1
theorem stL_ok {r:Rl} {R:Rm} (h:ROk R):ROk (stL r R).1∧(stL r R).1.1.length=R.1.length:=by
  unfold stL
  split
  · rename_i g l hg
    have hr:R.1[g]?=some .rising:=aloneL_mem (by rw [hg];exact List.mem_cons_self)
    refine ⟨⟨fun e he=>?_,h.nd⟩,by simp⟩
    show (R.1.set g .raised)[e.g]?=_
    have h1:=h.out e he
    rw [List.getElem?_set_ne (fun z=>by rw [z,h1] at hr;cases hr)]
    exact h1
  · split
    · split
      · rename_i e he
        exact ⟨goIn_ok h he,by simp [goIn]⟩
      · exact ⟨h,rfl⟩
    · exact ⟨h,rfl⟩
theorem seL_ok {r:Rl}:∀ (n:Nat) {R:Rm},ROk R→ROk (seL r n R).1∧(seL r n R).1.1.length=R.1.length
  | 0,R,h=>⟨h,rfl⟩
  | n+1,R,h=>by
    obtain ⟨h1,h2⟩:=stL_ok (r:=r) h
    obtain ⟨h3,h4⟩:=seL_ok n h1
    exact ⟨h3,h4.trans h2⟩
end MI
namespace MI
open PySem PySem.Spec PyProof.Rows L2 M
noncomputable def seAlone:ME:=mComp (mRange1 (mCons (mCall (fPure fLen) (mCons (mVar 2) (mNil))) (mNil))) (gSet 0) (mAndT (mTest (mOp fEq (mOp fIxX (mVar 1) (mVar 0)) (mC (.str "rising")))) (mTest (mOp fEq (mCnt (mVar 1) (mCons (mC (.str "out")) (mNil))) (mOp fSub (mCall (fPure fLen) (mCons (mVar 1) (mNil))) (mC (.int 1)))))) (mVar 0) [none,some 2]
noncomputable def seSome (fronts lets:PF):ME:=mComp (mItS (mCallN 2 fronts (mCons (mVar 0) (mCons (mVar 3) (mNil))))) (gSet 0) (mTru (mCallN 3 lets (mCons (mVar 1) (mCons (mVar 3) (mCons (mOp fIxX (mOp fIxX (mVar 2) (mVar 0)) (mC (.int 1))) (mNil)))))) (mVar 0) [none,some 0,some 3,some 2]
noncomputable def seAhead:ME:=mComp (mItS (mSlice (mVar 3) (mPartN) (mPart (mOp fIxX (mVar 7) (mC (.int 0)))))) (gSet 0) (mTrue) (mOp fAddX (mOp fAddX (mSlice (mVar 0) (mPartN) (mPart (mC (.int 2)))) (mTup (mCons (mOp fAddX (mOp fIxX (mVar 0) (mC (.int 2))) (mCall (fPure fInt1) (mCons (mOp fEq (mOp fIxX (mVar 1) (mC (.int 0))) (mC (.str "passes"))) (mNil)))) (mNil)))) (mSlice (mVar 0) (mPart (mC (.int 3))) (mPartN))) [none,some 0]
noncomputable def seStep (put:PF):MS:=mSeq (mAsg (mCallN 3 put (mCons (mVar 2) (mCons (mOp fIxX (mVar 6) (mC (.int 0))) (mCons (mC (.str "raised")) (mNil))))) (gSet 2)) (mDrop (mMeth fAppend (mVar 4) (mCons (mTup (mCons (mC (.str "steps")) (mCons (mOp fIxX (mVar 6) (mC (.int 0))) (mNil)))) (mNil))))
noncomputable def seIn (put:PF):MS:=mSeq (mAsg (mOp fIxX (mVar 3) (mOp fIxX (mVar 7) (mC (.int 0)))) (gTupD 4 (gConsD (gSet 8) (gConsD (gSet 9) (gConsD (gSet 10) (gConsD (gSet 11) (gNilD))))))) (mSeq (mAsg (mCallN 3 put (mCons (mVar 2) (mCons (mVar 8) (mCons (mOp fIxX (mLst (mCons (mC (.str "reads")) (mCons (mC (.str "writes")) (mNil)))) (mCall (fPure fInt1) (mCons (mOp fEq (mVar 9) (mC (.str "write"))) (mNil)))) (mNil))))) (gSet 2)) (mSeq (mAsg seAhead (gSet 12)) (mSeq (mAsg (mOp fAddX (mCall (fPure (fSeq1 .tup)) (mCons (mVar 12) (mNil))) (mSlice (mVar 3) (mPart (mOp fAddX (mOp fIxX (mVar 7) (mC (.int 0))) (mC (.int 1)))) (mPartN))) (gSet 3)) (mDrop (mMeth fAppend (mVar 4) (mCons (mTup (mCons (mC (.str "in")) (mCons (mVar 8) (mNil)))) (mNil)))))))
noncomputable def seTurn (fronts lets put:PF):MS:=mSeq (mAsg seAlone (gSet 6)) (mSeq (mAsg (seSome fronts lets) (gSet 7)) (mIfS (mTest (mOp fNe (mVar 6) (mLst (mNil)))) (seStep put) (mIfS (mTest (mOp fNe (mVar 7) (mLst (mNil)))) (seIn put) (mSkip))))
noncomputable def lawSettled (fronts lets put:PF):MS:=
  mSeq (mAsg (mVar 1) (gTupD 2 (gConsD (gSet 2) (gConsD (gSet 3) (gNilD))))) (mSeq (mAsg (mLstR (mNil)) (gSet 4)) (mSeq (mFor (mRange1 (mCons (mOp fMulX (mC (.int 2)) (mCall (fPure fLen) (mCons (mVar 2) (mNil)))) (mNil))) (gSet 5) (seTurn fronts lets put)) (mRet (mTup (mCons (mTup (mCons (mVar 2) (mCons (mVar 3) (mNil)))) (mCons (mVar 4) (mNil)))))))
structure SeOk (fronts lets put:PF):Prop where
  f:∀ (S:Store) (r:Rl) (es:List En),es.length≤60→fronts [r.d,esD es] S=some (nl (frL r es),S)
  l:∀ (S:Store) (r:Rl) (ws:List Wd) (wr:Bool),lets [r.d,wsD ws,.str (wantS wr)] S=some (.bl (letB r ws wr),S)
  p:∀ (S:Store) (ws:List Wd) (i:Nat) (w:Wd),i<ws.length→ws.length≤100→put [wsD ws,.int (i:Int),w.d] S=some (wsD (ws.set i w),S)
section
variable {S:Store} {ws:List Wd} {es:List En} {r:Rl}
theorem range_ni {S:Store} {n:Nat} (h:n≤1000):kR1 ([.int (n:Int)],S)=some ((List.range n).map ni,S):=by
  rw [kR1_of (by omega) (by omega)]
  have:=nl_range n
  simp only [nl,D.lst.injEq] at this
  rw [Int.toNat_natCast,this]
theorem nl_head {S:Store} {i:Nat} {l:List Nat}:fIxX S (nl (i::l)) (.int 0)=some (.int (i:Int)):=by
  show atI ((i::l).map ni) ((0:Nat):Int)=_
  exact atI_n rfl
theorem seAlone_eq {a0 a1 a3 a4 a5 a6 a7 a8 a9 b0 b1 b2:Option D} (hl:ws.length≤60):seAlone [a0,a1,some (wsD ws),a3,a4,a5,a6,a7,a8,a9,b0,b1,b2] S=some (nl (aloneL ws),S):=by
  have k:=kcomp1 (S:=S) (t:=mAndT (mTest (mOp fEq (mOp fIxX (mVar 1) (mVar 0)) (mC (.str "rising")))) (mTest (mOp fEq (mCnt (mVar 1) (mCons (mC (.str "out")) (mNil))) (mOp fSub (mCall (fPure fLen) (mCons (mVar 1) (mNil))) (mC (.int 1)))))) (e:=mVar 0) (cap:=[none,some 2]) (env:=[a0,a1,some (wsD ws),a3,a4,a5,a6,a7,a8,a9,b0,b1,b2]) (rest:=[some (wsD ws)]) (a:=none) (enc:=ni) (p:=fun g=>decide (ws[g]?=some .rising)&&decide (ws.count .out+1=ws.length)) (f:=ni) (xs:=List.range ws.length) rfl (by simp;omega) (fun g hg=>by
    have hg:=List.mem_range.mp hg
    have e1:ws[g]?=some ws[g]:=List.getElem?_eq_getElem hg
    have e2:fIxX S (wsD ws) (ni g)=some (ws[g]).d:=ws_ix e1
    have e3:fEq S (ws[g]).d (.str "rising")=some (.bl (decide (ws[g]=.rising))):=by
      show fEq S (.str (ws[g]).s) (.str "rising")=_
      rw [fEq_ss];exact congrArg (fun b=>some (D.bl b)) (Wd.eq ws[g] .rising)
    have e4:∀ S,fCountT (wsD ws) [.str "out"] S=some (.int (ws.count .out:Nat),S):=fun S=>ws_cnt .out
    have e5:(((ws.count Wd.out:Nat):Int) == (ws.length:Nat) - 1)=decide (ws.count .out+1=ws.length):=by rw [Bool.eq_iff_iff];simp;omega
    simp only [mAndT_s,mTest_s,mOp_s,mVar_s,lg0,lg1,lgS,oj,ob,kRet_s,kOp1_s,e2,kOp2_s,mC_s,e3,kTest_s,e1,Option.some.injEq]
    cases hd:decide (ws[g]=.rising) with
    | true=>simp only [kAndT_t,mCnt_s,mVar_s,lg1,lg0,lgS,oj,ob,kRet_s,ws_kCnt,mCons_s,mC_s,kCons1_s,mNil_s,kCons2_s,kMeth2_s,e4,kOp1_s,mOp_s,mCall_s,kCall_s,ws_len,kOp2_s,fSub_i,fEq_ii,kTest_s,e5,mTest_s,Bool.true_and]
    | false=>simp only [kAndT_f,Bool.false_and]) (fun g _ _=>by simp)
  simp only [seAlone,mComp_s,mRange1_s,mCons_s,mCall_s,mVar_s,lg0,lg1,lgS,oj,ob,kRet_s,kCons1_s,mNil_s,kCons2_s,kCall_s,ws_len,range_ni (show ws.length≤1000 by omega),k]
  rfl
theorem seSome_eq {fronts lets put:PF} (O:SeOk fronts lets put) {a1 a4 a5 a6 a7 a8 a9 b0 b1 b2:Option D} (hl:es.length≤60):seSome fronts lets [some r.d,a1,some (wsD ws),some (esD es),a4,a5,a6,a7,a8,a9,b0,b1,b2] S=some (nl (someL r ws es),S):=by
  have hlen:(frL r es).length≤1000:=by
    have h1:(frL r es).length≤60∨(frL r es).length≤es.length:=by
      unfold frL;split
      · left;simp;omega
      · left;simp;omega
      · right;exact Nat.le_trans (List.length_filter_le _ _) (by simp)
      · left;simp;omega
      · left;simp;omega
    omega
  have k:=kcomp1 (S:=S) (t:=mTru (mCallN 3 lets (mCons (mVar 1) (mCons (mVar 3) (mCons (mOp fIxX (mOp fIxX (mVar 2) (mVar 0)) (mC (.int 1))) (mNil)))))) (e:=mVar 0) (cap:=[none,some 0,some 3,some 2]) (env:=[some r.d,a1,some (wsD ws),some (esD es),a4,a5,a6,a7,a8,a9,b0,b1,b2]) (rest:=[some r.d,some (esD es),some (wsD ws)]) (a:=none) (enc:=ni) (p:=fun i=>match es[i]? with | some e=>letB r ws e.wr | none=>false) (f:=ni) (xs:=frL r es) rfl hlen (fun i hi=>by
    have e1:es[i]?=some (es[i]'(frL_lt hi)):=List.getElem?_eq_getElem (frL_lt hi)
    have e2:fIxX S (esD es) (ni i)=some (es[i]'(frL_lt hi)).d:=es_ix e1
    simp only [mTru_s,mCallN_s,mCons_s,mVar_s,lg0,lg1,lgS,oj,ob,kRet_s,kCons1_s,mOp_s,kOp1_s,e2,kOp2_s,mC_s,En.ix1,mNil_s,kCons2_s,kCallN_3,O.l,kTru_b,e1]) (fun g _ _=>by simp)
  simp only [seSome,mComp_s,mItS_s,mCallN_s,mCons_s,mVar_s,lg0,lg1,lgS,oj,ob,kRet_s,kCons1_s,mNil_s,kCons2_s,kCallN_2,O.f S r es hl,kItS_nl,k]
  rfl
theorem bump_d {e:En} {b:Option D}:(mOp fAddX (mOp fAddX (mSlice (mVar 0) (mPartN) (mPart (mC (.int 2)))) (mTup (mCons (mOp fAddX (mOp fIxX (mVar 0) (mC (.int 2))) (mCall (fPure fInt1) (mCons (mOp fEq (mOp fIxX (mVar 1) (mC (.int 0))) (mC (.str "passes"))) (mNil)))) (mNil)))) (mSlice (mVar 0) (mPart (mC (.int 3))) (mPartN))) [some e.d,some r.d] S=some ((bump r e).d,S):=by
  have w3:(r.w.s == ("passes":Str))=decide (r.w=.passes):=Rw.eq r.w .passes
  have c1:kSl3 e.d none (some 2,S)=some (.tup [.int (e.g:Nat),.str (wantS e.wr)],S):=rfl
  have c2:kSl3 e.d (some 3) (none,S)=some (.tup [leftD e.t],S):=rfl
  have k1:∀ x,kTup ([x],S)=some (.tup [x],S):=fun x=>kTup_of (by simp)
  have a1:∀ x y z,fAddX S (.tup [x,y]) (.tup [z])=some (.tup [x,y,z]):=fun x y z=>fAdd_t (by simp)
  have a2:∀ x y z w,fAddX S (.tup [x,y,z]) (.tup [w])=some (.tup [x,y,z,w]):=fun x y z w=>fAdd_t (by simp)
  simp only [mOp_s,mSlice_s,mVar_s,lg0,lg1,lgS,oj,ob,kRet_s,kSl1_s,mPartN_s,kSl2_s,mPart_s,mC_s,kPart_s,c1,kOp1_s,mTup_s,mCons_s,kCons1_s,mCall_s,En.ix2,Rl.ix0,kOp2_s,fEq_ss,w3,mNil_s,kCons2_s,kCall_s,fInt1_b,fAdd_i,k1,a1,c2,a2]
  unfold bump En.d
  by_cases h:r.w=.passes <;> simp [h]
theorem seAhead_eq {i:Nat} {l:List Nat} {a1 a2 a4 a5 a6 a8 a9 b0 b1 b2:Option D} (hl:es.length≤60):seAhead [some r.d,a1,a2,some (esD es),a4,a5,a6,some (nl (i::l)),a8,a9,b0,b1,b2] S=some (.lst (((es.take i).map (bump r)).map En.d),S):=by
  have k:=kcomp1 (S:=S) (t:=mTrue) (e:=mOp fAddX (mOp fAddX (mSlice (mVar 0) (mPartN) (mPart (mC (.int 2)))) (mTup (mCons (mOp fAddX (mOp fIxX (mVar 0) (mC (.int 2))) (mCall (fPure fInt1) (mCons (mOp fEq (mOp fIxX (mVar 1) (mC (.int 0))) (mC (.str "passes"))) (mNil)))) (mNil)))) (mSlice (mVar 0) (mPart (mC (.int 3))) (mPartN))) (cap:=[none,some 0]) (env:=[some r.d,a1,a2,some (esD es),a4,a5,a6,some (nl (i::l)),a8,a9,b0,b1,b2]) (rest:=[some r.d]) (a:=none) (enc:=En.d) (p:=fun _=>true) (f:=fun e=>(bump r e).d) (xs:=es.take i) rfl (by simp;omega) (fun x _=>mTrue_s) (fun x _ _=>bump_d (b:=none))
  rw [List.filter_eq_self.mpr (fun _ _=>rfl)] at k
  have e:kSl3 (esD es) none (some (i:Int),S)=some (.tup ((es.take i).map En.d),S):=by
    rw [show esD es=.tup (es.map En.d) from rfl,kSl3_t,nat_take,List.map_take]
  have e0:fIxX S (nl (i::l)) (.int 0)=some (.int (i:Int)):=nl_head
  simp only [seAhead,mComp_s,mItS_s,mSlice_s,mOp_s,mVar_s,lg0,lg1,lgS,oj,ob,kRet_s,kSl1_s,mPartN_s,kSl2_s,mPart_s,kOp1_s,mC_s,kOp2_s,e0,kPart_s,e,kItS_t,k,List.map_map]
  rfl
theorem fNe_nl {l:List Nat}:fNe S (nl l) (.lst [])=some (.bl (!decide (l=[]))):=by
  have ok:okD 40 (nl l)=true:=by
    show (l.map ni).all (okD 39)=true
    rw [List.all_eq_true];intro d hd;obtain ⟨i,_,rfl⟩:=List.mem_map.mp hd;rfl
  rw [fNe_ok ok rfl]
  cases l with
  | nil=>rfl
  | cons _ _=>rfl
theorem ev_app {evs:List Ev} {v:Ev} (h:evs.length<500):fAppend (.ref S.length) [v.d] (S++[.lst (evs.map Ev.d)])=some (.non,S++[.lst ((evs++[v]).map Ev.d)]):=by
  rw [fAppend_r app_get (by rw [List.length_map];omega),app_set];simp
theorem ev_meth {evs:List Ev} {f:MF} {ms:MA} {env:MEnv}:kMeth f ms env (.ref S.length,S++[.lst (evs.map Ev.d)])=(ms env (S++[.lst (evs.map Ev.d)])).bind (kMeth2 f (.ref S.length)):=kMeth_r app_get
theorem seStep_eq {fronts lets put:PF} (O:SeOk fronts lets put) {g:Nat} {l:List Nat} {evs:List Ev} {a0 a1 a3 a5 a7 a8 a9 b0 b1 b2:Option D} (hg:g<ws.length) (hl:ws.length≤60) (he:evs.length<500) :
    seStep put [a0,a1,some (wsD ws),a3,some (.ref S.length),a5,some (nl (g::l)),a7,a8,a9,b0,b1,b2] (S++[.lst (evs.map Ev.d)])=some (.nx [a0,a1,some (wsD (ws.set g .raised)),a3,some (.ref S.length),a5,some (nl (g::l)),a7,a8,a9,b0,b1,b2] (S++[.lst ((evs++[Ev.mk "steps" g]).map Ev.d)])):=by
  have p1:∀ S,put [wsD ws,.int (g:Int),.str "raised"] S=some (wsD (ws.set g .raised),S):=fun S=>O.p S ws g .raised hg (by omega)
  have k2:∀ S (x y:D),kTup ([x,y],S)=some (.tup [x,y],S):=fun S x y=>kTup_of (by simp)
  have ap:fAppend (.ref S.length) [.tup [.str "steps",.int (g:Int)]] (S++[.lst (evs.map Ev.d)])=some (.non,S++[.lst ((evs++[Ev.mk "steps" g]).map Ev.d)]):=ev_app (v:=⟨"steps",g⟩) he
  simp only [seStep,mSeq_s,mAsg_s,mCallN_s,mCons_s,mVar_s,lg0,lg1,lgS,oj,ob,kRet_s,kCons1_s,mOp_s,mC_s,kOp1_s,kOp2_s,nl_head,mNil_s,kCons2_s,kCallN_3,p1,kAsg_s,gSet_s,ls0,lsS,kNx_s,kSeq_nx,mDrop_s,mMeth_s,ev_meth,mTup_s,k2,kMeth2_s,ap,kDrop_s]
theorem seIn_eq {fronts lets put:PF} (O:SeOk fronts lets put) {i:Nat} {l:List Nat} {e:En} {evs:List Ev} {a1 a5 a6 a8 a9 b0 b1 b2:Option D} (hi:es[i]?=some e) (hg:e.g<ws.length) (hl:ws.length≤60) (hl2:es.length≤60) (he:evs.length<500) :
    ∃ c8 c9 d0 d1 d2,seIn put [some r.d,a1,some (wsD ws),some (esD es),some (.ref S.length),a5,a6,some (nl (i::l)),a8,a9,b0,b1,b2] (S++[.lst (evs.map Ev.d)])=some (.nx [some r.d,a1,some (wsD (goIn r (ws,es) i e).1),some (esD (goIn r (ws,es) i e).2),some (.ref S.length),a5,a6,some (nl (i::l)),c8,c9,d0,d1,d2] (S++[.lst ((evs++[Ev.mk "in" e.g]).map Ev.d)])):=by
  have hlt:=(List.getElem?_eq_some_iff.mp hi).1
  have p1:∀ S,put [wsD ws,.int (e.g:Int),(if e.wr then Wd.writes else Wd.reads).d] S=some (wsD (ws.set e.g (if e.wr then .writes else .reads)),S):=fun S=>O.p S ws e.g _ hg (by omega)
  have k2:∀ S (x y:D),kTup ([x,y],S)=some (.tup [x,y],S):=fun S x y=>kTup_of (by simp)
  have l2:∀ S (x y:D),kLst ([x,y],S)=some (.lst [x,y],S):=fun S x y=>kLst_of (by simp)
  have ap:fAppend (.ref S.length) [.tup [.str "in",.int (e.g:Int)]] (S++[.lst (evs.map Ev.d)])=some (.non,S++[.lst ((evs++[Ev.mk "in" e.g]).map Ev.d)]):=ev_app (v:=⟨"in",e.g⟩) he
  have x1:∀ S,fIxX S (esD es) (.int (i:Int))=some e.d:=fun S=>es_ix hi
  have wd:∀ S,fIxX S (.lst [.str "reads",.str "writes"]) (.int (if e.wr=true then 1 else 0))=some (if e.wr then Wd.writes else Wd.reads).d:=fun S=>by cases e.wr <;> rfl
  have g4:∀ env S,gTupD 4 (gConsD (gSet 8) (gConsD (gSet 9) (gConsD (gSet 10) (gConsD (gSet 11) (gNilD))))) e.d env S=(gConsD (gSet 8) (gConsD (gSet 9) (gConsD (gSet 10) (gConsD (gSet 11) (gNilD))))) [.int (e.g:Nat),.str (wantS e.wr),.int e.m,leftD e.t] env S:=fun env S=>gTupD_4
  have cd:cutL (es.map En.d) (some ((i:Int)+1)) none=(es.drop (i+1)).map En.d:=by
    rw [show ((i:Int)+1)=((i+1:Nat):Int) by omega,cutL_drop _ _ (by rw [List.length_map];omega),List.map_drop]
  have sd:∀ S,kSl3 (esD es) (some ((i:Int)+1)) (none,S)=some (.tup ((es.drop (i+1)).map En.d),S):=fun S=>by
    rw [show esD es=.tup (es.map En.d) from rfl,kSl3_t,cd]
  have ad:∀ S,fAddX S (.tup (((es.take i).map (bump r)).map En.d)) (.tup ((es.drop (i+1)).map En.d))=some (esD (goIn r (ws,es) i e).2):=fun S=>by
    rw [fAdd_t (by simp;omega),← List.map_append];rfl
  refine ⟨some (.int (e.g:Nat)),some (.str (wantS e.wr)),some (.int e.m),some (leftD e.t),some (.lst (((es.take i).map (bump r)).map En.d)),?_⟩
  · simp only [seIn,mSeq_s,mAsg_s,mOp_s,mVar_s,lg0,lg1,lgS,oj,ob,kRet_s,kOp1_s,mC_s,kOp2_s,nl_head,x1,kAsg_s,g4,gConsD_s,gSet_s,kGs_s,gNilD_s,ls0,lsS,kNx_s,kSeq_nx,mCallN_s,mCons_s,kCons1_s,mLst_s,mNil_s,kCons2_s,l2,mCall_s,fEq_ss,wantS_w,kCall_s,fInt1_b,wd,kCallN_3,p1,seAhead_eq hl2,fSeq1_l,mSlice_s,kSl1_s,mPart_s,fAdd_i,kPart_s,kSl2_s,mPartN_s,sd,ad,mDrop_s,mMeth_s,ev_meth,mTup_s,k2,kMeth2_s,ap,kDrop_s]
    try rfl
theorem seTurn_eq {fronts lets put:PF} (O:SeOk fronts lets put) {R:Rm} (h:ROk R) (hl:R.1.length≤50) {evs:List Ev} {a1 a5 a6 a7 a8 a9 b0 b1 b2:Option D} (he:evs.length<500) :
    ∃ c6 c7 c8 c9 d0 d1 d2,seTurn fronts lets put [some r.d,a1,some (wsD R.1),some (esD R.2),some (.ref S.length),a5,a6,a7,a8,a9,b0,b1,b2] (S++[.lst (evs.map Ev.d)])=some (.nx [some r.d,a1,some (wsD (stL r R).1.1),some (esD (stL r R).1.2),some (.ref S.length),a5,c6,c7,c8,c9,d0,d1,d2] (S++[.lst ((evs++(stL r R).2).map Ev.d)])):=by
  obtain ⟨ws,es⟩:=R
  have hl2:es.length≤60:=by have:=h.len;simp only at this hl;omega
  have hl1:ws.length≤60:=by simp only at hl;omega
  have k0:∀ S,kLst ([],S)=some (.lst [],S):=fun S=>kLst_of (by simp)
  have e1:∀ (T:Store) (a6:Option D),seAlone [some r.d,a1,some (wsD ws),some (esD es),some (.ref S.length),a5,a6,a7,a8,a9,b0,b1,b2] T=some (nl (aloneL ws),T):=fun T a6=>seAlone_eq hl1
  have e2:∀ (T:Store) (a6 a7:Option D),seSome fronts lets [some r.d,a1,some (wsD ws),some (esD es),some (.ref S.length),a5,a6,a7,a8,a9,b0,b1,b2] T=some (nl (someL r ws es),T):=fun T a6 a7=>seSome_eq O hl2
  unfold stL
  dsimp only
  cases hA:aloneL ws with
  | cons g l=>
    have hr:ws[g]?=some .rising:=aloneL_mem (by rw [hA];exact List.mem_cons_self)
    have hg:g<ws.length:=(List.getElem?_eq_some_iff.mp hr).1
    rw [hA] at e1
    have e3:=seStep_eq O (S:=S) (ws:=ws) (g:=g) (l:=l) (evs:=evs) (a0:=some r.d) (a1:=a1) (a3:=some (esD es)) (a5:=a5) (a7:=some (nl (someL r ws es))) (a8:=a8) (a9:=a9) (b0:=b0) (b1:=b1) (b2:=b2) hg hl1 he
    refine ⟨some (nl (g::l)),some (nl (someL r ws es)),a8,a9,b0,b1,b2,?_⟩
    simp only [seTurn,mSeq_s,mAsg_s,e1,e2,ob,kAsg_s,gSet_s,ls0,lsS,kNx_s,kSeq_nx,mIfS_s,mTest_s,mOp_s,mVar_s,lg0,lg1,lgS,oj,kRet_s,kOp1_s,mLst_s,mNil_s,k0,kOp2_s,fNe_nl,kTest_s,reduceCtorEq,decide_false,Bool.not_false,kIfS_t,e3]
  | nil=>
    rw [hA] at e1
    cases hB:someL r ws es with
    | nil=>
      rw [hB] at e2
      refine ⟨some (nl []),some (nl []),a8,a9,b0,b1,b2,?_⟩
      simp only [seTurn,mSeq_s,mAsg_s,e1,e2,ob,kAsg_s,gSet_s,ls0,lsS,kNx_s,kSeq_nx,mIfS_s,mTest_s,mOp_s,mVar_s,lg0,lg1,lgS,oj,kRet_s,kOp1_s,mLst_s,mNil_s,k0,kOp2_s,fNe_nl,kTest_s,decide_true,Bool.not_true,kIfS_f,mSkip_s,List.append_nil]
    | cons i l=>
      rw [hB] at e2
      have hi:i∈someL r ws es:=by rw [hB];exact List.mem_cons_self
      have hlt:i<es.length:=frL_lt (List.mem_filter.mp hi).1
      have ei:es[i]?=some es[i]:=List.getElem?_eq_getElem hlt
      have hg:(es[i]).g<ws.length:=h.lt (R:=(ws,es)) (List.getElem_mem hlt)
      obtain ⟨c8,c9,d0,d1,d2,e3⟩:=seIn_eq O (S:=S) (ws:=ws) (es:=es) (r:=r) (i:=i) (l:=l) (evs:=evs) (a1:=a1) (a5:=a5) (a6:=some (nl [])) (a8:=a8) (a9:=a9) (b0:=b0) (b1:=b1) (b2:=b2) ei hg hl1 hl2 he
      dsimp only
      rw [ei]
      refine ⟨some (nl []),some (nl (i::l)),c8,c9,d0,d1,d2,?_⟩
      simp only [seTurn,mSeq_s,mAsg_s,e1,e2,ob,kAsg_s,gSet_s,ls0,lsS,kNx_s,kSeq_nx,mIfS_s,mTest_s,mOp_s,mVar_s,lg0,lg1,lgS,oj,kRet_s,kOp1_s,mLst_s,mNil_s,k0,kOp2_s,fNe_nl,kTest_s,decide_true,Bool.not_true,kIfS_f,reduceCtorEq,decide_false,Bool.not_false,kIfS_t,e3]
theorem stL_few {R:Rm}:(stL r R).2.length≤1:=by
  unfold stL
  split
  · simp
  · split
    · split <;> simp
    · simp
theorem settled_gen {fronts lets put:PF} (O:SeOk fronts lets put) {N:List Str} (hN:N.length=13) {R:Rm} (h:ROk R) (hl:R.1.length≤50) :
    runM N (lawSettled fronts lets put) 2 [r.d,rmD R] S=some (.tup [rmD (seL r (2 * R.1.length) R).1,.ref S.length],S++[.lst ((seL r (2 * R.1.length) R).2.map Ev.d)]):=by
  have hst:startE N [r.d,rmD R]=[some r.d,some (rmD R),none,none,none,none,none,none,none,none,none,none,none]:=by simp [startE,hN,List.replicate]
  rw [runM_eq (show [r.d,rmD R].length=2 from rfl),hst]
  obtain ⟨env',S',e,R',evs',c5,c6,c7,c8,c9,d0,d1,d2,o1,o2,o3,o4,rfl,rfl⟩:=forR (tg:=gSet 5) (p:=seTurn fronts lets put) (lo:=0) (fun i env T=>∃ (R':Rm) (evs':List Ev) (c5 c6 c7 c8 c9 d0 d1 d2:Option D),ROk R'∧R'.1.length=R.1.length∧evs'.length≤i∧(i≤2 * R.1.length→seL r (2 * R.1.length) R=((seL r (2 * R.1.length - i) R').1,evs'++(seL r (2 * R.1.length - i) R').2)) ∧
      env=[some r.d,some (rmD R),some (wsD R'.1),some (esD R'.2),some (.ref S.length),c5,c6,c7,c8,c9,d0,d1,d2]∧T=S++[.lst (evs'.map Ev.d)]) (2 * R.1.length) (fun i hi env T hI=>by
    obtain ⟨R',evs',c5,c6,c7,c8,c9,d0,d1,d2,o1,o2,o3,o4,rfl,rfl⟩:=hI
    obtain ⟨f6,f7,f8,f9,g0,g1,g2,e⟩:=seTurn_eq O (r:=r) (S:=S) (R:=R') o1 (by omega) (evs:=evs') (a1:=some (rmD R)) (a5:=some (.int (0+(i:Int)))) (a6:=c6) (a7:=c7) (a8:=c8) (a9:=c9) (b0:=d0) (b1:=d1) (b2:=d2) (by omega)
    obtain ⟨q1,q2⟩:=stL_ok (r:=r) o1
    have fw:=stL_few (r:=r) (R:=R')
    refine ⟨_,_,_,_,gSet_s,e,(stL r R').1,evs'++(stL r R').2,_,f6,f7,f8,f9,g0,g1,g2,q1,q2.trans o2,by rw [List.length_append];omega,fun hn=>?_,rfl,rfl⟩
    rw [o4 (by omega),show 2 * R.1.length - i=(2 * R.1.length - (i+1))+1 by omega]
    simp only [seL,List.append_assoc]) [some r.d,some (rmD R),some (wsD R.1),some (esD R.2),some (.ref S.length),none,none,none,none,none,none,none,none] (S++[.lst []]) ⟨R,[],none,none,none,none,none,none,none,none,h,rfl,Nat.le_refl _,fun _=>by simp,rfl,rfl⟩
  have o5:=o4 (Nat.le_refl _)
  rw [Nat.sub_self] at o5
  simp only [seL,List.append_nil] at o5
  have k0:kLstR ([],S)=some (.ref S.length,S++[.lst []]):=kLstR_of (by simp)
  have k2:∀ S (x y:D),kTup ([x,y],S)=some (.tup [x,y],S):=fun S x y=>kTup_of (by simp)
  have mu:∀ S,fMulX S (.int 2) (.int (R.1.length:Nat))=some (.int (2 * (R.1.length:Nat))):=fun S=>fMul_i (mulB_l (by decide) (by decide))
  have kr:∀ S,kR1 ([.int (2 * (R.1.length:Nat))],S)=some (rangeD 0 (2 * R.1.length),S):=fun S=>by
    rw [kR1_of (by omega) (by omega)];congr 3
  have g2:∀ env S,gTupD 2 (gConsD (gSet 2) (gConsD (gSet 3) (gNilD))) (rmD R) env S=(gConsD (gSet 2) (gConsD (gSet 3) (gNilD))) [wsD R.1,esD R.2] env S:=fun env S=>gTupD_2
  rw [o5]
  simp only [lawSettled,mSeq_s,mAsg_s,mVar_s,lg0,lg1,lgS,oj,ob,kRet_s,kAsg_s,g2,gConsD_s,gSet_s,kGs_s,gNilD_s,ls0,lsS,kNx_s,kSeq_nx,mLstR_s,mNil_s,k0,mFor_s,mRange1_s,mCons_s,mOp_s,mC_s,kOp1_s,mCall_s,kCons1_s,kCons2_s,kCall_s,ws_len,kOp2_s,mu,kr,kFor_s,e,mRet_s,mTup_s,k2,kRt_s,outM_rt]
  rfl
end
end MI
namespace MI
open PySem PySem.Spec PyProof.Rows L2 M
inductive Ak where | up | down | leave | stop
deriving DecidableEq
noncomputable def Ak.s:Ak→Str
  | .up=>"up"
  | .down=>"down"
  | .leave=>"leave"
  | .stop=>"stop"
inductive Dd where
  | ask (wr:Bool) (g:Nat) (t:Option Int)
  | act (k:Ak) (g:Nat)
  | tick
noncomputable def Dd.d:Dd→D
  | .ask wr g t=>.tup [.str (wantS wr),.int (g:Int),leftD t]
  | .act k g=>.tup [.str k.s,.int (g:Int)]
  | .tick=>.tup [.str "tick"]
noncomputable def LeftOk (t:Option Int):Prop:=∀ k,t=some k→0≤k∧k≤9
noncomputable def Dd.Ok (n:Nat):Dd→Prop
  | .ask _ g t=>g<n∧LeftOk t
  | .act _ g=>g<n
  | .tick=>True
noncomputable def lawDeed (pick:PF):MS:=
  mSeq (mAsg (mCallN 2 pick (mCons (mVar 0) (mCons (mVar 1) (mNil)))) (gSet 2)) (mSeq (mAsg (mCallN 2 pick (mCons (mVar 0) (mCons (mC (.int 12)) (mNil)))) (gSet 3)) (mSeq (mIfS (mTest (mOp fLt (mVar 3) (mC (.int 6)))) (mRet (mTup (mCons (mOp fIxX (mLst (mCons (mC (.str "read")) (mCons (mC (.str "write")) (mNil)))) (mOp fMod (mVar 3) (mC (.int 2)))) (mCons (mVar 2) (mCons (mOp fIxX (mLst (mCons (mC .non) (mCons (mC .non) (mCons (mC .non) (mCons (mC (.int 0)) (mCons (mC (.int 1)) (mCons (mC (.int 9)) (mNil)))))))) (mCallN 2 pick (mCons (mVar 0) (mCons (mC (.int 6)) (mNil))))) (mNil)))))) (mSkip)) (mSeq (mIfS (mTest (mOp fEq (mVar 3) (mC (.int 11)))) (mRet (mTup (mCons (mC (.str "tick")) (mNil)))) (mSkip)) (mRet (mTup (mCons (mOp fIxX (mLst (mCons (mC (.str "up")) (mCons (mC (.str "down")) (mCons (mC (.str "leave")) (mCons (mC (.str "leave")) (mCons (mC (.str "stop")) (mNil))))))) (mOp fSub (mVar 3) (mC (.int 6)))) (mCons (mVar 2) (mNil))))))))
theorem at_left {q:Int} (h0:0≤q) (h1:q<6):∃ t:Option Int,atI [D.non,D.non,D.non,D.int 0,D.int 1,D.int 9] q=some (leftD t)∧LeftOk t:=by
  have n:LeftOk none:=fun k h=>by cases h
  have s:∀ j:Int,0≤j→j≤9→LeftOk (some j):=fun j a b k h=>by cases h;exact ⟨a,b⟩
  obtain rfl | rfl | rfl | rfl | rfl | rfl:q=0∨q=1∨q=2∨q=3∨q=4∨q=5:=by omega
  · exact ⟨none,rfl,n⟩
  · exact ⟨none,rfl,n⟩
  · exact ⟨none,rfl,n⟩
  · exact ⟨some 0,rfl,s 0 (by decide) (by decide)⟩
  · exact ⟨some 1,rfl,s 1 (by decide) (by decide)⟩
  · exact ⟨some 9,rfl,s 9 (by decide) (by decide)⟩
theorem at_act {q:Int} (h0:6≤q) (h1:q<11):∃ k:Ak,atI [D.str "up",D.str "down",D.str "leave",D.str "leave",D.str "stop"] (q - 6)=some (.str k.s):=by
  obtain rfl | rfl | rfl | rfl | rfl:q=6∨q=7∨q=8∨q=9∨q=10:=by omega
  · exact ⟨.up,rfl⟩
  · exact ⟨.down,rfl⟩
  · exact ⟨.leave,rfl⟩
  · exact ⟨.leave,rfl⟩
  · exact ⟨.stop,rfl⟩
theorem at_wr {q:Int}:∃ wr:Bool,atI [D.str "read",D.str "write"] (q % 2)=some (.str (wantS wr)):=by
  obtain h | h:q % 2=0∨q % 2=1:=by omega
  · exact ⟨false,by rw [h];rfl⟩
  · exact ⟨true,by rw [h];rfl⟩
theorem deed_gen {pick:PF} (hp:PickOk pick) {S:Store} {r n:Nat} {N:List Str} (hN:N.length=4) (P:Pk S r) (h1:1≤n) (h9:n≤9):∃ (dd:Dd) (S':Store),runM N (lawDeed pick) 2 [.ref r,.int (n:Int)] S=some (dd.d,S')∧dd.Ok n∧Pk S' r∧Keep r S S':=by
  have hst:startE N [D.ref r,.int (n:Int)]=[some (.ref r),some (.int (n:Int)),none,none]:=by simp [startE,hN,List.replicate]
  rw [runM_eq (show [D.ref r,D.int (n:Int)].length=2 from rfl),hst]
  obtain ⟨g,S1,e1,g0,g1,P1,K1⟩:=hp _ _ (n:Int) P (by omega) (by omega)
  obtain ⟨q,S2,e2,q0,q1,P2,K2⟩:=hp _ _ 12 P1 (by decide) (by decide)
  obtain ⟨g',rfl⟩:∃ g':Nat,g=(g':Int):=⟨g.toNat,by omega⟩
  have md:∀ S,fMod S (.int q) (.int 2)=some (.int (q % 2)):=fun S=>fMod_i (by decide)
  by_cases h6:q<6
  · obtain ⟨l,S3,e3,l0,l1,P3,K3⟩:=hp _ _ 6 P2 (by decide) (by decide)
    obtain ⟨t,et,ot⟩:=at_left l0 l1
    obtain ⟨wr,ew⟩:=at_wr (q:=q)
    have k1:∀ S,kLst ([D.str "read",D.str "write"],S)=some (.lst [D.str "read",D.str "write"],S):=fun S=>kLst_of (by simp)
    have k2:∀ S,kLst ([D.non,D.non,D.non,D.int 0,D.int 1,D.int 9],S)=some (.lst [D.non,D.non,D.non,D.int 0,D.int 1,D.int 9],S):=fun S=>kLst_of (by simp)
    have k3:∀ S (a b c:D),kTup ([a,b,c],S)=some (.tup [a,b,c],S):=fun S a b c=>kTup_of (by simp)
    refine ⟨.ask wr g' t,S3,?_,⟨by omega,ot⟩,P3,Keep.trans K1 (Keep.trans K2 K3)⟩
    simp [lawDeed,e1,e2,h6,k1,md,ew,e3,k2,et,k3,Dd.d]
  · by_cases h11:q=11
    · subst h11
      have k1:∀ S (a:D),kTup ([a],S)=some (.tup [a],S):=fun S a=>kTup_of (by simp)
      refine ⟨.tick,S2,?_,trivial,P2,Keep.trans K1 K2⟩
      simp [lawDeed,e1,e2,k1,Dd.d]
    · obtain ⟨k,ek⟩:=at_act (q:=q) (by omega) (by omega)
      have k1:∀ S,kLst ([D.str "up",D.str "down",D.str "leave",D.str "leave",D.str "stop"],S)=some (.lst [D.str "up",D.str "down",D.str "leave",D.str "leave",D.str "stop"],S):=fun S=>kLst_of (by simp)
      have k2:∀ S (a b:D),kTup ([a,b],S)=some (.tup [a,b],S):=fun S a b=>kTup_of (by simp)
      refine ⟨.act k g',S2,?_,(by show g'<n;omega),P2,Keep.trans K1 K2⟩
      simp [lawDeed,e1,e2,h6,beq_eq_false_iff_ne.mpr h11,k1,ek,k2,Dd.d]
noncomputable def staysB (es:List En) (g:Nat):Bool:=es.any fun e=>decide (e.g=g)
noncomputable def canB (R:Rm):Dd→Bool
  | .tick=>true
  | .ask _ g _=>decide (R.1[g]?=some .out) && !staysB R.2 g
  | .act .up g=>decide (R.1[g]?=some .reads)
  | .act .down g=>decide (R.1[g]?=some .writes)||decide (R.1[g]?=some .raised)
  | .act .leave g=>decide (R.1[g]?≠some .out)
  | .act .stop g=>staysB R.2 g||decide (R.1[g]?=some .rising)
noncomputable def caStays:ME:=mOp fIn (mOp fIxX (mVar 1) (mC (.int 1))) (mComp (mItS (mVar 3)) (gSet 0) (mTrue) (mOp fIxX (mVar 0) (mC (.int 0))) [none])
noncomputable def caD1:ME:=mDictR [(mC (.str "read"),mAnd (mOp fEq (mVar 4) (mC (.str "out"))) (mNotV (mVar 5))),(mC (.str "write"),mAnd (mOp fEq (mVar 4) (mC (.str "out"))) (mNotV (mVar 5))),(mC (.str "up"),mOp fEq (mVar 4) (mC (.str "reads")))]
noncomputable def caD2:ME:=mDict [(mC (.str "down"),mOp fIn (mVar 4) (mTup (mCons (mC (.str "writes")) (mCons (mC (.str "raised")) (mNil))))),(mC (.str "leave"),mOp fNe (mVar 4) (mC (.str "out"))),(mC (.str "stop"),mOr (mVar 5) (mOp fEq (mVar 4) (mC (.str "rising"))))]
noncomputable def lawCan:MS:=
  mSeq (mAsg (mVar 0) (gTupD 2 (gConsD (gSet 2) (gConsD (gSet 3) (gNilD))))) (mSeq (mIfS (mTest (mOp fEq (mVar 1) (mTup (mCons (mC (.str "tick")) (mNil))))) (mRet (mC (.bl true))) (mSkip)) (mSeq (mAsg (mOp fIxX (mVar 2) (mOp fIxX (mVar 1) (mC (.int 1)))) (gSet 4)) (mSeq (mAsg caStays (gSet 5)) (mSeq (mAsg caD1 (gSet 6)) (mSeq (mDrop (mMethD fUpdD (mVar 6) (mCons caD2 (mNil)))) (mRet (mOp fIxX (mVar 6) (mOp fIxX (mVar 1) (mC (.int 0))))))))))
noncomputable def mkL (r:Rl) (w:Wd) (es:List En):List En:=if r.w=.turns∧w=.writes then es.map (fun e=>if e.wr then e else { e with m:=1 }) else es
noncomputable def mkC:ME:=mComp (mItS (mVar 2)) (gSet 0) (mTrue) (mIf (mTest (mOp fEq (mOp fIxX (mVar 0) (mC (.int 1))) (mC (.str "read")))) (mOp fAddX (mOp fAddX (mSlice (mVar 0) (mPartN) (mPart (mC (.int 2)))) (mTup (mCons (mC (.int 1)) (mNil)))) (mSlice (mVar 0) (mPart (mC (.int 3))) (mPartN))) (mVar 0)) [none]
noncomputable def lawMarked:MS:=
  mSeq (mIfS (mOrT (mTest (mOp fNe (mOp fIxX (mVar 0) (mC (.int 0))) (mC (.str "turns")))) (mTest (mOp fNe (mVar 1) (mC (.str "writes"))))) (mRet (mVar 2)) (mSkip)) (mRet (mCall (fPure (fSeq1 .tup)) (mCons mkC (mNil))))
section
variable {S:Store} {ws:List Wd} {es:List En} {r:Rl}
theorem fIn_gs {g:Nat}:fIn S (.int (g:Int)) (.lst (es.map fun e=>.int (e.g:Int)))=some (.bl (staysB es g)):=by
  rw [fIn_ok (ys:=es.map fun e=>D.int (e.g:Int)) rfl rfl (by rw [List.all_eq_true];intro d hd;obtain ⟨e,_,rfl⟩:=List.mem_map.mp hd;rfl)]
  unfold staysB
  rw [List.any_map]
  congr 2
  induction es with
  | nil=>rfl
  | cons e l ih=>
    rw [List.any_cons,List.any_cons,ih]
    congr 1
    show ((e.g:Int) == (g:Int))=_
    rw [Bool.eq_iff_iff];simp;omega
theorem gsC {b:Option D} {cap:List (Option Nat)} {env:MEnv} (hc:capE cap env=[b]) (hl:es.length≤100):kComp (gSet 0) mTrue (mOp fIxX (mVar 0) (mC (.int 0))) cap env (es.map En.d,S)=some (.lst (es.map fun e=>.int (e.g:Int)),S):=by
  have k:=kcomp1 (S:=S) (t:=mTrue) (e:=mOp fIxX (mVar 0) (mC (.int 0))) (cap:=cap) (env:=env) (rest:=[]) (a:=b) (enc:=En.d) (p:=fun _=>true) (f:=fun e=>.int (e.g:Int)) (xs:=es) hc (by omega) (fun x _=>mTrue_s) (fun x _ _=>by simp [En.ix0])
  rw [List.filter_eq_self.mpr (fun _ _=>rfl)] at k
  exact k
theorem es_kItS:kItS (esD es,S)=some (es.map En.d,S):=rfl
noncomputable def isTick:Dd→Bool
  | .tick=>true
  | _=>false
theorem Dd.tick_ne {dd:Dd}:fEq S dd.d (.tup [.str "tick"])=some (.bl (isTick dd)):=by
  cases dd with
  | tick=>rw [fEq_ok rfl rfl];rfl
  | ask wr g t=>
    rw [fEq_ok (by cases t <;> rfl) rfl]
    show some (D.bl (_&&false))=some (D.bl false)
    rw [Bool.and_false]
  | act k g=>
    rw [fEq_ok rfl rfl]
    show some (D.bl (_&&false))=some (D.bl false)
    rw [Bool.and_false]
theorem fEq_wd {a b:Wd}:fEq S a.d (.str b.s)=some (.bl (decide (a=b))):=by
  show fEq S (.str a.s) (.str b.s)=_
  rw [fEq_ss,Wd.eq]
theorem fNe_wd {a b:Wd}:fNe S a.d (.str b.s)=some (.bl (!decide (a=b))):=by
  show fNe S (.str a.s) (.str b.s)=_
  rw [fNe_ss,Wd.eq]
theorem fIn_wd {a:Wd}:fIn S a.d (.tup [.str "writes",.str "raised"])=some (.bl (decide (a=.writes)||decide (a=.raised))):=by
  have h:([D.str "writes",D.str "raised"].any fun d=>eqD d a.d)=(decide (a=.writes)||decide (a=.raised)):=by cases a <;> decide +kernel
  rw [fIn_ok (ys:=[.str "writes",.str "raised"]) rfl rfl rfl,h]
noncomputable def caL1 (w:Wd) (s:Bool):List (Key×D):=[(.inr "read",.bl (decide (w=.out) && !s)),(.inr "write",.bl (decide (w=.out) && !s)),(.inr "up",.bl (decide (w=.reads)))]
noncomputable def caL2 (w:Wd) (s:Bool):List (Key×D):=[(.inr "down",.bl (decide (w=.writes)||decide (w=.raised))),(.inr "leave",.bl (!decide (w=.out))),(.inr "stop",.bl (s||decide (w=.rising)))]
theorem caD1_eq {w:Wd} {s:Bool} {a0 a1 a2 a3 a6:Option D}:caD1 [a0,a1,a2,a3,some w.d,some (.bl s),a6] S=some (.ref S.length,S++[.dct ((caL1 w s).map (·.1)) ((caL1 w s).map (·.2))]):=by
  have e1:∀ S,fEq S w.d (.str "out")=some (.bl (decide (w=.out))):=fun S=>fEq_wd (b:=.out)
  have e2:∀ S,fEq S w.d (.str "reads")=some (.bl (decide (w=.reads))):=fun S=>fEq_wd (b:=.reads)
  have ka:∀ x:Bool,kAnd (mNotV (mVar 5)) [a0,a1,a2,a3,some w.d,some (.bl s),a6] (.bl x,S)=some (.bl (x && !s),S):=fun x=>by cases x <;> simp
  have kd:kDictR ([(.inr "read",.bl (decide (w=.out) && !s)),(.inr "write",.bl (decide (w=.out) && !s)),(.inr "up",.bl (decide (w=.reads)))],S)=some (.ref S.length,S++[.dct ((caL1 w s).map (·.1)) ((caL1 w s).map (·.2))]):=kDictR_of (l:=caL1 w s) (show [(Sum.inr "read":Key),.inr "write",.inr "up"].Nodup by decide +kernel) (by show 3≤15;decide)
  simp only [caD1,mDictR_s,mPairs_cons,mC_s,ob,kPr1_s,mAnd_s,mOp_s,mVar_s,lg0,lg1,lgS,oj,kRet_s,kOp1_s,kOp2_s,e1,ka,kPr3_s,e2,mPairs_nil,kPr4_s,kd]
theorem caD2_eq {w:Wd} {s:Bool} {a0 a1 a2 a3 a6:Option D}:caD2 [a0,a1,a2,a3,some w.d,some (.bl s),a6] S=some (.dct ((caL2 w s).map (·.1)) ((caL2 w s).map (·.2)),S):=by
  have e1:∀ S,fNe S w.d (.str "out")=some (.bl (!decide (w=.out))):=fun S=>fNe_wd (b:=.out)
  have e2:∀ S,fEq S w.d (.str "rising")=some (.bl (decide (w=.rising))):=fun S=>fEq_wd (b:=.rising)
  have k2:∀ S (x y:D),kTup ([x,y],S)=some (.tup [x,y],S):=fun S x y=>kTup_of (by simp)
  have ka:kOr (mOp fEq (mVar 4) (mC (.str "rising"))) [a0,a1,a2,a3,some w.d,some (.bl s),a6] (.bl s,S)=some (.bl (s||decide (w=.rising)),S):=by cases s <;> simp [e2]
  have kd:kDict ([(.inr "down",.bl (decide (w=.writes)||decide (w=.raised))),(.inr "leave",.bl (!decide (w=.out))),(.inr "stop",.bl (s||decide (w=.rising)))],S)=some (.dct ((caL2 w s).map (·.1)) ((caL2 w s).map (·.2)),S):=kDict_of (l:=caL2 w s) (show [(Sum.inr "down":Key),.inr "leave",.inr "stop"].Nodup by decide +kernel) (by show 3≤15;decide)
  simp only [caD2,mDict_s,mPairs_cons,mC_s,ob,kPr1_s,mOp_s,mVar_s,lg0,lg1,lgS,oj,kRet_s,kOp1_s,mTup_s,mCons_s,kCons1_s,mNil_s,kCons2_s,k2,kOp2_s,fIn_wd,kPr3_s,e1,mOr_s,ka,mPairs_nil,kPr4_s,kd]
noncomputable def ddWord:Dd→Str
  | .ask wr _ _=>wantS wr
  | .act k _=>k.s
  | .tick=>"tick"
noncomputable def ddGuest:Dd→Nat
  | .ask _ g _=>g
  | .act _ g=>g
  | .tick=>0
theorem ca_val {w:Wd} {s:Bool} {R:Rm} {dd:Dd} (hs:s=staysB R.2 (ddGuest dd)) (hw:R.1[ddGuest dd]?=some w) (ht:dd≠.tick):valD (mergeD (caL1 w s) (caL2 w s)) (.inr (ddWord dd))=some (.bl (canB R dd)):=by
  have hm:mergeD (caL1 w s) (caL2 w s)=caL1 w s++caL2 w s:=mergeD_app (show [(Sum.inr "read":Key),.inr "write",.inr "up",.inr "down",.inr "leave",.inr "stop"].Nodup by decide +kernel)
  rw [hm]
  cases dd with
  | tick=>exact absurd rfl ht
  | ask wr g t=>
    simp only [ddGuest] at hw hs
    cases wr
    · simp (decide:=true) [caL1,caL2,valD,ddWord,wantS,canB,hw,hs]
    · simp (decide:=true) [caL1,caL2,valD,ddWord,wantS,canB,hw,hs]
  | act k g=>
    simp only [ddGuest] at hw hs
    cases k <;> simp (decide:=true) [caL1,caL2,valD,ddWord,Ak.s,canB,hw,hs]
theorem can_gen {N:List Str} (hN:N.length=7) {R:Rm} {dd:Dd} (hl:R.2.length≤60) (hd:dd.Ok R.1.length):∃ T,runM N lawCan 2 [rmD R,dd.d] S=some (.bl (canB R dd),S++T):=by
  have hst:startE N [rmD R,dd.d]=[some (rmD R),some dd.d,none,none,none,none,none]:=by simp [startE,hN,List.replicate]
  rw [runM_eq (show [rmD R,dd.d].length=2 from rfl),hst]
  obtain ⟨ws,es⟩:=R
  have k1:∀ S (x:D),kTup ([x],S)=some (.tup [x],S):=fun S x=>kTup_of (by simp)
  have g2:∀ env S,gTupD 2 (gConsD (gSet 2) (gConsD (gSet 3) (gNilD))) (rmD (ws,es)) env S=(gConsD (gSet 2) (gConsD (gSet 3) (gNilD))) [wsD ws,esD es] env S:=fun env S=>gTupD_2
  by_cases ht:dd=.tick
  · subst ht
    refine ⟨[],?_⟩
    simp only [lawCan,mSeq_s,mAsg_s,mVar_s,lg0,lg1,lgS,oj,ob,kRet_s,kAsg_s,g2,gConsD_s,gSet_s,kGs_s,gNilD_s,ls0,lsS,kNx_s,kSeq_nx,mIfS_s,mTest_s,mOp_s,kOp1_s,mTup_s,mCons_s,mC_s,kCons1_s,mNil_s,kCons2_s,k1,kOp2_s,Dd.tick_ne,kTest_s,kIfS_t,mRet_s,kRt_s,kSeq_rt,outM_rt,List.append_nil,canB,isTick]
  · have hf:isTick dd=false:=by cases dd <;> first | rfl | exact absurd rfl ht
    have x1:∀ S,fIxX S dd.d (.int 1)=some (.int (ddGuest dd:Int)):=fun S=>by cases dd <;> first | rfl | exact absurd rfl ht
    have x0:∀ S,fIxX S dd.d (.int 0)=some (.str (ddWord dd)):=fun S=>by cases dd <;> first | rfl | exact absurd rfl ht
    have hg:ddGuest dd<ws.length:=by cases dd with
      | ask _ _ _=>exact hd.1
      | act _ _=>exact hd
      | tick=>exact absurd rfl ht
    have hw:ws[ddGuest dd]?=some ws[ddGuest dd]:=List.getElem?_eq_getElem hg
    have xw:∀ S,fIxX S (wsD ws) (.int (ddGuest dd:Int))=some (ws[ddGuest dd]).d:=fun S=>ws_ix hw
    have st:∀ (S:Store) (a4 a5 a6:Option D),caStays [some (rmD (ws,es)),some dd.d,some (wsD ws),some (esD es),a4,a5,a6] S=some (.bl (staysB es (ddGuest dd)),S):=fun S a4 a5 a6=>by
      simp only [caStays,mOp_s,mVar_s,lg0,lg1,lgS,oj,ob,kRet_s,kOp1_s,mC_s,kOp2_s,x1,mComp_s,mItS_s,es_kItS,gsC (es:=es) (cap:=[none]) (env:=[some (rmD (ws,es)),some dd.d,some (wsD ws),some (esD es),a4,a5,a6]) rfl (by simp only at hl;omega),fIn_gs]
    have up:fUpdD (.ref S.length) [.dct ((caL2 (ws[ddGuest dd]) (staysB es (ddGuest dd))).map (·.1)) ((caL2 (ws[ddGuest dd]) (staysB es (ddGuest dd))).map (·.2))] (S++[.dct ((caL1 (ws[ddGuest dd]) (staysB es (ddGuest dd))).map (·.1)) ((caL1 (ws[ddGuest dd]) (staysB es (ddGuest dd))).map (·.2))])=some (.non,S++[.dct ((mergeD (caL1 (ws[ddGuest dd]) (staysB es (ddGuest dd))) (caL2 (ws[ddGuest dd]) (staysB es (ddGuest dd)))).map (·.1)) ((mergeD (caL1 (ws[ddGuest dd]) (staysB es (ddGuest dd))) (caL2 (ws[ddGuest dd]) (staysB es (ddGuest dd)))).map (·.2))]):=by
      rw [fUpdD_r app_get (by show 3+3≤1000;decide),app_set]
    have md:∀ f ms env (c:List Key) (d:List D),kMethD f ms env (.ref S.length,S++[.dct c d])=(ms env (S++[.dct c d])).bind (kMeth2 f (.ref S.length)):=fun f ms env c d=>kMethD_r app_get
    have fin:fIxX (S++[.dct ((mergeD (caL1 (ws[ddGuest dd]) (staysB es (ddGuest dd))) (caL2 (ws[ddGuest dd]) (staysB es (ddGuest dd)))).map (·.1)) ((mergeD (caL1 (ws[ddGuest dd]) (staysB es (ddGuest dd))) (caL2 (ws[ddGuest dd]) (staysB es (ddGuest dd)))).map (·.2))]) (.ref S.length) (.str (ddWord dd))=some (.bl (canB (ws,es) dd)):=by
      rw [fIx_dr app_get keyOf_s];exact ca_val rfl hw ht
    refine ⟨[.dct ((mergeD (caL1 (ws[ddGuest dd]) (staysB es (ddGuest dd))) (caL2 (ws[ddGuest dd]) (staysB es (ddGuest dd)))).map (·.1)) ((mergeD (caL1 (ws[ddGuest dd]) (staysB es (ddGuest dd))) (caL2 (ws[ddGuest dd]) (staysB es (ddGuest dd)))).map (·.2))],?_⟩
    simp only [lawCan,mSeq_s,mAsg_s,mVar_s,lg0,lg1,lgS,oj,ob,kRet_s,kAsg_s,g2,gConsD_s,gSet_s,kGs_s,gNilD_s,ls0,lsS,kNx_s,kSeq_nx,mIfS_s,mTest_s,mOp_s,kOp1_s,mTup_s,mCons_s,mC_s,kCons1_s,mNil_s,kCons2_s,k1,kOp2_s,Dd.tick_ne,hf,kTest_s,kIfS_f,mSkip_s,x1,xw,st,caD1_eq,mDrop_s,mMethD_s,md,caD2_eq,kMeth2_s,up,kDrop_s,mRet_s,x0,fin,kRt_s,outM_rt]
theorem mk_d {e:En}:(mIf (mTest (mOp fEq (mOp fIxX (mVar 0) (mC (.int 1))) (mC (.str "read")))) (mOp fAddX (mOp fAddX (mSlice (mVar 0) (mPartN) (mPart (mC (.int 2)))) (mTup (mCons (mC (.int 1)) (mNil)))) (mSlice (mVar 0) (mPart (mC (.int 3))) (mPartN))) (mVar 0)) [some e.d] S=some ((if e.wr then e else { e with m:=1 }:En).d,S):=by
  have c1:kSl3 e.d none (some 2,S)=some (.tup [.int (e.g:Nat),.str (wantS e.wr)],S):=rfl
  have c2:kSl3 e.d (some 3) (none,S)=some (.tup [leftD e.t],S):=rfl
  have k1:∀ x,kTup ([x],S)=some (.tup [x],S):=fun x=>kTup_of (by simp)
  have a1:∀ x y z,fAddX S (.tup [x,y]) (.tup [z])=some (.tup [x,y,z]):=fun x y z=>fAdd_t (by simp)
  have a2:∀ x y z w,fAddX S (.tup [x,y,z]) (.tup [w])=some (.tup [x,y,z,w]):=fun x y z w=>fAdd_t (by simp)
  have wr:(wantS e.wr == ("read":Str)) = !e.wr:=wantS_r e.wr
  simp only [mIf_s,mTest_s,mOp_s,mVar_s,lg0,oj,ob,kRet_s,kOp1_s,mC_s,kOp2_s,En.ix1,fEq_ss,wr,kTest_s]
  cases h:e.wr with
  | true=>simp
  | false=>
    simp only [Bool.not_false,kIf_t,mOp_s,mSlice_s,mVar_s,lg0,oj,ob,kRet_s,kSl1_s,mPartN_s,kSl2_s,mPart_s,mC_s,kPart_s,c1,kOp1_s,mTup_s,mCons_s,kCons1_s,mNil_s,kCons2_s,k1,kOp2_s,a1,c2,a2]
    unfold En.d
    simp [h]
theorem marked_gen {N:List Str} (hN:N.length=3) {w:Wd} (hl:es.length≤60):runM N lawMarked 3 [r.d,w.d,esD es] S=some (esD (mkL r w es),S):=by
  have hst:startE N [r.d,w.d,esD es]=[some r.d,some w.d,some (esD es)]:=by simp [startE,hN]
  rw [runM_eq (show [r.d,w.d,esD es].length=3 from rfl),hst]
  have w1:(r.w.s == ("turns":Str))=decide (r.w=.turns):=Rw.eq r.w .turns
  have e1:fNe S (.str r.w.s) (.str "turns")=some (.bl (!decide (r.w=.turns))):=by rw [fNe_ss,w1]
  have e2:fNe S w.d (.str "writes")=some (.bl (!decide (w=.writes))):=fNe_wd (b:=.writes)
  have k:=kcomp1 (S:=S) (t:=mTrue) (e:=mIf (mTest (mOp fEq (mOp fIxX (mVar 0) (mC (.int 1))) (mC (.str "read")))) (mOp fAddX (mOp fAddX (mSlice (mVar 0) (mPartN) (mPart (mC (.int 2)))) (mTup (mCons (mC (.int 1)) (mNil)))) (mSlice (mVar 0) (mPart (mC (.int 3))) (mPartN))) (mVar 0)) (cap:=[none]) (env:=[some r.d,some w.d,some (esD es)]) (rest:=[]) (a:=none) (enc:=En.d) (p:=fun _=>true) (f:=fun e=>(if e.wr then e else { e with m:=1 }:En).d) (xs:=es) rfl (by omega) (fun x _=>mTrue_s) (fun x _ _=>mk_d)
  rw [List.filter_eq_self.mpr (fun _ _=>rfl)] at k
  have kc:mkC [some r.d,some w.d,some (esD es)] S=some (.lst (es.map fun e=>(if e.wr then e else { e with m:=1 }:En).d),S):=by
    simp only [mkC,mComp_s,mItS_s,mVar_s,lg0,lg1,lgS,oj,ob,kRet_s,es_kItS,k]
  unfold mkL
  by_cases h1:r.w=.turns
  · rw [decide_eq_true h1] at e1
    by_cases h2:w=.writes
    · rw [if_pos ⟨h1,h2⟩]
      rw [decide_eq_true h2] at e2
      simp only [lawMarked,mSeq_s,mIfS_s,mOrT_s,mTest_s,mOp_s,mVar_s,lg0,lg1,lgS,oj,ob,kRet_s,kOp1_s,mC_s,kOp2_s,Rl.ix0,e1,Bool.not_true,kTest_s,kOrT_f,e2,kIfS_f,mSkip_s,kSeq_nx,mRet_s,mCall_s,mCons_s,kc,kCons1_s,mNil_s,kCons2_s,kCall_s,fSeq1_l,kRt_s,outM_rt]
      unfold esD;rw [List.map_map];rfl
    · rw [if_neg (fun z=>h2 z.2)]
      rw [decide_eq_false h2] at e2
      simp only [lawMarked,mSeq_s,mIfS_s,mOrT_s,mTest_s,mOp_s,mVar_s,lg0,lg1,lgS,oj,ob,kRet_s,kOp1_s,mC_s,kOp2_s,Rl.ix0,e1,Bool.not_true,Bool.not_false,kTest_s,kOrT_f,e2,kIfS_t,mRet_s,kRt_s,kSeq_rt,outM_rt]
  · rw [if_neg (fun z=>h1 z.1)]
    rw [decide_eq_false h1] at e1
    simp only [lawMarked,mSeq_s,mIfS_s,mOrT_s,mTest_s,mOp_s,mVar_s,lg0,lg1,lgS,oj,ob,kRet_s,kOp1_s,mC_s,kOp2_s,Rl.ix0,e1,Bool.not_false,kTest_s,kOrT_t,kIfS_t,mRet_s,kRt_s,kSeq_rt,outM_rt]
end
end MI
namespace MI
open PySem PySem.Spec PyProof.Rows L2 M
noncomputable def evsD (l:List Ev):D:=.tup (l.map Ev.d)
noncomputable def settledL (r:Rl) (R:Rm):Rm×List Ev:=seL r (2 * R.1.length) R
noncomputable def askE (wr:Bool) (g:Nat) (t:Option Int):En:=⟨g,wr,0,if t=some 0 then some 1 else t⟩
noncomputable def askL (r:Rl) (R:Rm) (wr:Bool) (g:Nat) (t:Option Int):Rm×List Ev:=
  let a:=settledL r (R.1,R.2++[askE wr g t])
  if staysB a.1.2 g=false then a
  else if t=some 0 then ((a.1.1,a.1.2.filter fun e=>decide (e.g≠g)),a.2++[⟨"no",g⟩])
  else (a.1,a.2++[⟨"waits",g⟩])
noncomputable def decT (e:En):En:={ e with t:=e.t.map (· - 1) }
noncomputable def tickL (r:Rl) (R:Rm):Rm×List Ev:=
  let a:=settledL r (R.1,(R.2.map decT).filter fun e=>decide (e.t≠some 0))
  (a.1,(((R.2.map decT).filter fun e=>decide (e.t=some 0)).map fun e=>⟨"ends",e.g⟩)++a.2)
noncomputable def firstL (k:Ak) (g:Nat):List Ev:=match k with
  | .up=>[]
  | .stop=>[⟨"ends",g⟩]
  | .down=>[⟨"down",g⟩]
  | .leave=>[⟨"out",g⟩]
noncomputable def thereW (k:Ak) (w:Wd):Wd:=match k with
  | .up=>.rising
  | .down=>.reads
  | .leave=>.out
  | .stop=>if w=.rising then .reads else .out
noncomputable def actE (r:Rl) (k:Ak) (w:Wd) (g:Nat) (es:List En):List En:=(if k=.down∨k=.leave then mkL r w es else es).filter fun e=>decide (e.g≠g)
noncomputable def actL (r:Rl) (R:Rm) (k:Ak) (g:Nat) (w:Wd):Rm×List Ev:=
  let a:=settledL r (R.1.set g (thereW k w),actE r k w g R.2)
  (a.1,firstL k g++a.2++(if a.1.1[g]?=some .rising then [⟨"waits",g⟩] else []))
noncomputable def doneL (r:Rl) (R:Rm) (dd:Dd):Option (Rm×List Ev):=
  if canB R dd=false then none else match dd with
  | .tick=>some (tickL r R)
  | .ask wr g t=>some (askL r R wr g t)
  | .act k g=>if k=.up∧(r.c=0∨Wd.rising∈R.1) then some (R,[⟨"no",g⟩]) else match R.1[g]? with
    | some w=>some (actL r R k g w)
    | none=>none
theorem staysB_false {es:List En} {g:Nat} (h:staysB es g=false) {e:En} (he:e∈es):e.g≠g:=fun z=>by
  have:staysB es g=true:=List.any_eq_true.mpr ⟨e,he,by simp [z]⟩
  rw [h] at this;cases this
theorem ROk.filter {ws:List Wd} {es:List En} (h:ROk (ws,es)) (p:En→Bool):ROk (ws,es.filter p):=
  ⟨fun e he=>h.out e (List.mem_filter.mp he).1,List.Sublist.nodup (List.Sublist.map _ (List.filter_sublist)) h.nd⟩
theorem ROk.mapE {ws:List Wd} {es:List En} (h:ROk (ws,es)) (f:En→En) (hf:∀ e,(f e).g=e.g):ROk (ws,es.map f):=
  ⟨fun e he=>by obtain ⟨x,hx,rfl⟩:=List.mem_map.mp he;rw [hf];exact h.out x hx,by
    show ((es.map f).map (·.g)).Nodup
    rw [List.map_map,show ((·.g) ∘ f)=(fun e:En=>e.g) from funext hf];exact h.nd⟩
theorem ROk.setW {ws:List Wd} {es:List En} (h:ROk (ws,es)) (g:Nat) (w:Wd) (hg:∀ e∈es,e.g≠g):ROk (ws.set g w,es):=
  ⟨fun e he=>by show (ws.set g w)[e.g]?=_;rw [List.getElem?_set_ne (Ne.symm (hg e he))];exact h.out e he,h.nd⟩
theorem settledL_ok {r:Rl} {R:Rm} (h:ROk R):ROk (settledL r R).1∧(settledL r R).1.1.length=R.1.length:=seL_ok _ h
theorem askE_ok {R:Rm} {wr:Bool} {g:Nat} {t:Option Int} (h:ROk R) (hw:R.1[g]?=some .out) (hs:staysB R.2 g=false):ROk (R.1,R.2++[askE wr g t]):=
  ⟨fun e he=>by
    rcases List.mem_append.mp he with he | he
    · exact h.out e he
    · rw [List.mem_singleton.mp he];exact hw,by
    show ((R.2++[askE wr g t]).map (·.g)).Nodup
    rw [List.map_append,List.nodup_append]
    refine ⟨h.nd,by simp,fun a ha b hb=>?_⟩
    obtain ⟨e,he,rfl⟩:=List.mem_map.mp ha
    simp [askE] at hb
    rw [hb];exact staysB_false hs he⟩
theorem mkL_ok {r:Rl} {w:Wd} {ws:List Wd} {es:List En} (h:ROk (ws,es)):ROk (ws,mkL r w es):=by
  unfold mkL;split
  · exact h.mapE _ fun e=>by split <;> rfl
  · exact h
theorem actE_ok {r:Rl} {k:Ak} {w:Wd} {g:Nat} {ws:List Wd} {es:List En} (h:ROk (ws,es)) (w':Wd):ROk (ws.set g w',actE r k w g es):=by
  unfold actE
  refine ROk.setW (ROk.filter ?_ _) g w' fun e he=>of_decide_eq_true (List.mem_filter.mp he).2
  split
  · exact mkL_ok h
  · exact h
theorem doneL_ok {r:Rl} {R:Rm} {dd:Dd} {x:Rm×List Ev} (h:ROk R) (hx:doneL r R dd=some x):ROk x.1∧x.1.1.length=R.1.length:=by
  unfold doneL at hx
  split at hx
  · cases hx
  · rename_i hc
    have hc:canB R dd=true:=by simpa using hc
    cases dd with
    | tick=>
      cases hx
      obtain ⟨a,b⟩:=settledL_ok (r:=r) (R:=(R.1,(R.2.map decT).filter fun e=>decide (e.t≠some 0))) (ROk.filter (ROk.mapE h decT fun e=>rfl) _)
      exact ⟨a,b⟩
    | ask wr g t=>
      cases hx
      simp only [canB,Bool.and_eq_true,decide_eq_true_eq,Bool.not_eq_true'] at hc
      obtain ⟨a,b⟩:=settledL_ok (r:=r) (askE_ok (wr:=wr) (t:=t) h hc.1 hc.2)
      unfold askL
      dsimp only
      split
      · exact ⟨a,b⟩
      · split
        · exact ⟨ROk.filter a _,b⟩
        · exact ⟨a,b⟩
    | act k g=>
      dsimp only at hx
      split at hx
      · cases hx;exact ⟨h,rfl⟩
      · split at hx
        · rename_i w hw
          cases hx
          obtain ⟨a,b⟩:=settledL_ok (r:=r) (actE_ok (r:=r) (k:=k) (w:=w) (g:=g) h (thereW k w))
          exact ⟨a,b.trans (by simp)⟩
        · cases hx
noncomputable def asGs:ME:=mComp (mItS (mOp fIxX (mVar 1) (mC (.int 1)))) (gSet 0) (mTrue) (mOp fIxX (mVar 0) (mC (.int 0))) [none]
noncomputable def asRest:ME:=mComp (mItS (mOp fIxX (mVar 1) (mC (.int 1)))) (gSet 0) (mTest (mOp fNe (mOp fIxX (mVar 0) (mC (.int 0))) (mVar 1))) (mVar 0) [none,some 4]
noncomputable def lawAsked (settled:PF):MS:=
  mSeq (mAsg (mVar 2) (gTupD 3 (gConsD (gSet 3) (gConsD (gSet 4) (gConsD (gSet 5) (gNilD)))))) (mSeq (mAsg (mTup (mCons (mVar 4) (mCons (mVar 3) (mCons (mC (.int 0)) (mCons (mIf (mTest (mOp fEq (mVar 5) (mC (.int 0)))) (mC (.int 1)) (mVar 5)) (mNil)))))) (gSet 6)) (mSeq (mAsg (mCallN 2 settled (mCons (mVar 0) (mCons (mTup (mCons (mOp fIxX (mVar 1) (mC (.int 0))) (mCons (mOp fAddX (mOp fIxX (mVar 1) (mC (.int 1))) (mTup (mCons (mVar 6) (mNil)))) (mNil)))) (mNil)))) (gTupD 2 (gConsD (gSet 1) (gConsD (gSet 7) (gNilD))))) (mSeq (mIfS (mTest (mOp fNotIn (mVar 4) asGs)) (mRet (mTup (mCons (mVar 1) (mCons (mCall (fPure (fSeq1 .tup)) (mCons (mVar 7) (mNil))) (mNil))))) (mSkip)) (mSeq (mIfS (mTest (mOp fEq (mVar 5) (mC (.int 0)))) (mRet (mTup (mCons (mTup (mCons (mOp fIxX (mVar 1) (mC (.int 0))) (mCons (mCall (fPure (fSeq1 .tup)) (mCons asRest (mNil))) (mNil)))) (mCons (mCall (fPure (fSeq1 .tup)) (mCons (mOp fAddX (mVar 7) (mLst (mCons (mTup (mCons (mC (.str "no")) (mCons (mVar 4) (mNil)))) (mNil)))) (mNil))) (mNil))))) (mSkip)) (mRet (mTup (mCons (mVar 1) (mCons (mCall (fPure (fSeq1 .tup)) (mCons (mOp fAddX (mVar 7) (mLst (mCons (mTup (mCons (mC (.str "waits")) (mCons (mVar 4) (mNil)))) (mNil)))) (mNil))) (mNil)))))))))
noncomputable def doFewer:ME:=mComp (mItS (mVar 4)) (gSet 0) (mTrue) (mOp fAddX (mSlice (mVar 0) (mPartN) (mPart (mC (.int 3)))) (mTup (mCons (mIf (mTest (mOp fIs (mOp fIxX (mVar 0) (mC (.int 3))) (mC .non))) (mC .non) (mOp fSub (mOp fIxX (mVar 0) (mC (.int 3))) (mC (.int 1)))) (mNil)))) [none]
noncomputable def doGone:ME:=mComp (mItS (mVar 5)) (gSet 0) (mTest (mOp fEq (mOp fIxX (mVar 0) (mC (.int 3))) (mC (.int 0)))) (mTup (mCons (mC (.str "ends")) (mCons (mOp fIxX (mVar 0) (mC (.int 0))) (mNil)))) [none]
noncomputable def doKept:ME:=mComp (mItS (mVar 5)) (gSet 0) (mTest (mOp fNe (mOp fIxX (mVar 0) (mC (.int 3))) (mC (.int 0)))) (mVar 0) [none]
noncomputable def doTick (settled:PF):MS:=mSeq (mAsg doFewer (gSet 5)) (mSeq (mAsg doGone (gSet 6)) (mSeq (mAsg (mCallN 2 settled (mCons (mVar 0) (mCons (mTup (mCons (mVar 3) (mCons (mCall (fPure (fSeq1 .tup)) (mCons doKept (mNil))) (mNil)))) (mNil)))) (gTupD 2 (gConsD (gSet 1) (gConsD (gSet 7) (gNilD))))) (mRet (mTup (mCons (mVar 1) (mCons (mCall (fPure (fSeq1 .tup)) (mCons (mOp fAddX (mVar 6) (mVar 7)) (mNil))) (mNil)))))))
noncomputable def doFirst:ME:=mOp fMulX (mLst (mCons (mTup (mCons (mIf (mTest (mOp fEq (mVar 8) (mC (.str "stop")))) (mC (.str "ends")) (mIf (mTest (mOp fEq (mVar 8) (mC (.str "down")))) (mC (.str "down")) (mC (.str "out")))) (mCons (mVar 9) (mNil)))) (mNil))) (mCall (fPure fInt1) (mCons (mOp fNe (mVar 8) (mC (.str "up"))) (mNil)))
noncomputable def doThere:ME:=mOp fIxX (mDict [(mC (.str "up"),mC (.str "rising")),(mC (.str "down"),mC (.str "reads")),(mC (.str "leave"),mC (.str "out")),(mC (.str "stop"),mOp fIxX (mLst (mCons (mC (.str "out")) (mCons (mC (.str "reads")) (mNil)))) (mCall (fPure fInt1) (mCons (mOp fEq (mVar 10) (mC (.str "rising"))) (mNil))))]) (mVar 8)
noncomputable def doMore:ME:=mOp fMulX (mLst (mCons (mTup (mCons (mC (.str "waits")) (mCons (mVar 9) (mNil)))) (mNil))) (mCall (fPure fInt1) (mCons (mOp fEq (mOp fIxX (mOp fIxX (mVar 1) (mC (.int 0))) (mVar 9)) (mC (.str "rising"))) (mNil)))
noncomputable def doKeep:ME:=mComp (mItS (mVar 4)) (gSet 0) (mTest (mOp fNe (mOp fIxX (mVar 0) (mC (.int 0))) (mVar 1))) (mVar 0) [none,some 9]
noncomputable def doAct (settled marked put:PF):MS:=mSeq (mAsg (mOp fIxX (mVar 3) (mVar 9)) (gSet 10)) (mSeq (mAsg doFirst (gSet 11)) (mSeq (mIfS (mTest (mOp fIn (mVar 8) (mTup (mCons (mC (.str "down")) (mCons (mC (.str "leave")) (mNil)))))) (mAsg (mCallN 3 marked (mCons (mVar 0) (mCons (mVar 10) (mCons (mVar 4) (mNil))))) (gSet 4)) (mSkip)) (mSeq (mAsg (mCall (fPure (fSeq1 .tup)) (mCons doKeep (mNil))) (gSet 4)) (mSeq (mAsg doThere (gSet 12)) (mSeq (mAsg (mCallN 2 settled (mCons (mVar 0) (mCons (mTup (mCons (mCallN 3 put (mCons (mVar 3) (mCons (mVar 9) (mCons (mVar 12) (mNil))))) (mCons (mVar 4) (mNil)))) (mNil)))) (gTupD 2 (gConsD (gSet 1) (gConsD (gSet 7) (gNilD))))) (mSeq (mAsg doMore (gSet 13)) (mRet (mTup (mCons (mVar 1) (mCons (mCall (fPure (fSeq1 .tup)) (mCons (mOp fAddX (mOp fAddX (mVar 11) (mVar 7)) (mVar 13)) (mNil))) (mNil)))))))))))
noncomputable def lawDone (can asked settled marked put:PF):MS:=
  mSeq (mIfS (mNotT (mTru (mCallN 2 can (mCons (mVar 1) (mCons (mVar 2) (mNil)))))) (mRet (mC .non)) (mSkip)) (mSeq (mAsg (mVar 1) (gTupD 2 (gConsD (gSet 3) (gConsD (gSet 4) (gNilD))))) (mSeq (mIfS (mTest (mOp fEq (mOp fIxX (mVar 2) (mC (.int 0))) (mC (.str "tick")))) (doTick settled) (mSkip)) (mSeq (mAsg (mSlice (mVar 2) (mPartN) (mPart (mC (.int 2)))) (gTupD 2 (gConsD (gSet 8) (gConsD (gSet 9) (gNilD))))) (mSeq (mIfS (mTest (mOp fIn (mVar 8) (mTup (mCons (mC (.str "read")) (mCons (mC (.str "write")) (mNil)))))) (mRet (mCallN 3 asked (mCons (mVar 0) (mCons (mVar 1) (mCons (mVar 2) (mNil)))))) (mSkip)) (mSeq (mIfS (mAndT (mTest (mOp fEq (mVar 8) (mC (.str "up")))) (mOrT (mTest (mOp fEq (mOp fIxX (mVar 0) (mC (.int 3))) (mC (.int 0)))) (mTest (mOp fIn (mC (.str "rising")) (mVar 3))))) (mRet (mTup (mCons (mVar 1) (mCons (mTup (mCons (mTup (mCons (mC (.str "no")) (mCons (mVar 9) (mNil)))) (mNil))) (mNil))))) (mSkip)) (doAct settled marked put))))))
end MI
namespace MI
open PySem PySem.Spec PyProof.Rows L2 M
noncomputable def SettledOk (settled:PF):Prop:=∀ (S:Store) (r:Rl) (R:Rm),ROk R→R.1.length≤50→settled [r.d,rmD R] S=some (.tup [rmD (settledL r R).1,.ref S.length],S++[.lst ((settledL r R).2.map Ev.d)])
theorem seL_few {r:Rl}:∀ (n:Nat) {R:Rm},(seL r n R).2.length≤n
  | 0,R=>Nat.le_refl _
  | n+1,R=>by
    have h1:=stL_few (r:=r) (R:=R)
    have h2:=seL_few (r:=r) n (R:=(stL r R).1)
    show ((stL r R).2++(seL r n (stL r R).1).2).length≤_
    rw [List.length_append];omega
section
variable {S:Store} {ws:List Wd} {es:List En} {r:Rl} {R:Rm}
theorem fEq_left {t:Option Int}:fEq S (leftD t) (.int 0)=some (.bl (decide (t=some 0))):=by
  cases t with
  | none=>exact fEq_ok rfl rfl
  | some k=>
    show fEq S (.int k) (.int 0)=_
    rw [fEq_ii];congr 2;rw [Bool.eq_iff_iff];simp
theorem fNe_left {t:Option Int}:fNe S (leftD t) (.int 0)=some (.bl (!decide (t=some 0))):=by
  cases t with
  | none=>exact fNe_ok rfl rfl
  | some k=>
    show fNe S (.int k) (.int 0)=_
    rw [fNe_ii];congr 3;rw [Bool.eq_iff_iff];simp
theorem restC {g:Nat} {b:Option D} {cap:List (Option Nat)} {env:MEnv} (hc:capE cap env=[b,some (.int (g:Int))]) (hl:es.length≤100):kComp (gSet 0) (mTest (mOp fNe (mOp fIxX (mVar 0) (mC (.int 0))) (mVar 1))) (mVar 0) cap env (es.map En.d,S)=some (.lst ((es.filter fun e=>decide (e.g≠g)).map En.d),S):=by
  exact kcomp1 (S:=S) (t:=mTest (mOp fNe (mOp fIxX (mVar 0) (mC (.int 0))) (mVar 1))) (e:=mVar 0) (cap:=cap) (env:=env) (rest:=[some (.int (g:Int))]) (a:=b) (enc:=En.d) (p:=fun e=>decide (e.g≠g)) (f:=En.d) (xs:=es) hc (by omega) (fun x _=>by
    have:(!((x.g:Int) == (g:Int)))=decide (x.g≠g):=by rw [Bool.eq_iff_iff];simp;omega
    simp [En.ix0,-beq_iff_eq,this]) (fun x _ _=>by simp)
theorem ev_seq {S:Store} {l:List Ev}:fPure (fSeq1 .tup) [.ref S.length] (S++[.lst (l.map Ev.d)])=some (evsD l,S++[.lst (l.map Ev.d)]):=fSeq1_ref app_get
theorem ev_add {S:Store} {l:List Ev} {v:Ev} (h:l.length≤500):fAddX (S++[.lst (l.map Ev.d)]) (.ref S.length) (.lst [v.d])=some (.lst ((l++[v]).map Ev.d)):=by
  rw [fAddX_r (xs:=l.map Ev.d) (ys:=[v.d]) rfl (by simp only [lstOf,app_get]) rfl (by simp;omega)];simp
theorem ev_add2 {S:Store} {k l:List Ev} (h:l.length≤500) (h':k.length≤400):fAddX (S++[.lst (l.map Ev.d)]) (.lst (k.map Ev.d)) (.ref S.length)=some (.lst ((k++l).map Ev.d)):=by
  rw [fAddX_r (xs:=k.map Ev.d) (ys:=l.map Ev.d) rfl rfl (by simp only [lstOf,app_get]) (by simp;omega)];simp
theorem fNotIn_gs {g:Nat}:fNotIn S (.int (g:Int)) (.lst (es.map fun e=>.int (e.g:Int)))=some (.bl (!staysB es g)):=by
  have h:=fIn_gs (S:=S) (es:=es) (g:=g)
  have ok:(es.map fun e=>D.int (e.g:Int)).all (okD 39)=true:=by rw [List.all_eq_true];intro d hd;obtain ⟨e,_,rfl⟩:=List.mem_map.mp hd;rfl
  rw [fIn_ok (ys:=es.map fun e=>D.int (e.g:Int)) rfl rfl ok] at h
  rw [fNotIn_ok (ys:=es.map fun e=>D.int (e.g:Int)) rfl rfl ok]
  simp only [Option.some.injEq,D.bl.injEq] at h
  rw [h]
theorem asked_gen {settled:PF} (O:SettledOk settled) {N:List Str} (hN:N.length=8) {wr:Bool} {g:Nat} {t:Option Int} (h:ROk R) (hl:R.1.length≤50) (hw:R.1[g]?=some .out) (hs:staysB R.2 g=false) :
    ∃ T,runM N (lawAsked settled) 3 [r.d,rmD R,(Dd.ask wr g t).d] S=some (.tup [rmD (askL r R wr g t).1,evsD (askL r R wr g t).2],S++T):=by
  have hst:startE N [r.d,rmD R,(Dd.ask wr g t).d]=[some r.d,some (rmD R),some (Dd.ask wr g t).d,none,none,none,none,none]:=by simp [startE,hN,List.replicate]
  rw [runM_eq (show [r.d,rmD R,(Dd.ask wr g t).d].length=3 from rfl),hst]
  have hA:=askE_ok (wr:=wr) (t:=t) h hw hs
  have hO:=O S r (R.1,R.2++[askE wr g t]) hA hl
  obtain ⟨q1,q2⟩:=settledL_ok (r:=r) hA
  have qf:(settledL r (R.1,R.2++[askE wr g t])).2.length≤100:=Nat.le_trans (seL_few _) (by show 2 * R.1.length≤100;omega)
  have ql:(settledL r (R.1,R.2++[askE wr g t])).1.2.length≤50:=Nat.le_trans q1.len (by rw [q2];exact hl)
  unfold askL
  generalize hE:settledL r (R.1,R.2++[askE wr g t])=A at *
  obtain ⟨R',evs⟩:=A
  dsimp only at *
  have k2:∀ S (x y:D),kTup ([x,y],S)=some (.tup [x,y],S):=fun S x y=>kTup_of (by simp)
  have k1:∀ S (x:D),kTup ([x],S)=some (.tup [x],S):=fun S x=>kTup_of (by simp)
  have l1:∀ S (x:D),kLst ([x],S)=some (.lst [x],S):=fun S x=>kLst_of (by simp)
  have k4:∀ S (x y z w:D),kTup ([x,y,z,w],S)=some (.tup [x,y,z,w],S):=fun S x y z w=>kTup_of (by simp)
  have g3:∀ env S,gTupD 3 (gConsD (gSet 3) (gConsD (gSet 4) (gConsD (gSet 5) (gNilD)))) (Dd.ask wr g t).d env S=(gConsD (gSet 3) (gConsD (gSet 4) (gConsD (gSet 5) (gNilD)))) [.str (wantS wr),.int (g:Int),leftD t] env S:=fun env S=>gTupD_3
  have kif:∀ env:MEnv,kIf (mC (.int 1)) (mVar 5) [some r.d,some (rmD R),some (Dd.ask wr g t).d,some (.str (wantS wr)),some (.int (g:Int)),some (leftD t),none,none] (decide (t=some 0),S)=some (leftD (if t=some 0 then some 1 else t),S):=fun env=>by
    by_cases ht:t=some 0
    · simp [ht];rfl
    · simp [ht]
  have ad:∀ S,fAddX S (esD R.2) (.tup [.tup [.int (g:Int),.str (wantS wr),.int 0,leftD (if t=some 0 then some 1 else t)]])=some (esD (R.2++[askE wr g t])):=fun S=>by
    have:=h.len
    rw [show esD R.2=.tup (R.2.map En.d) from rfl,fAdd_t (by simp;omega)]
    unfold esD;rw [List.map_append];rfl
  have hO':settled [r.d,.tup [wsD R.1,esD (R.2++[askE wr g t])]] S=some (.tup [rmD R',.ref S.length],S++[.lst (evs.map Ev.d)]):=hO
  have gs:∀ (T:Store) (a6:Option D),asGs [some r.d,some (rmD R'),some (Dd.ask wr g t).d,some (.str (wantS wr)),some (.int (g:Int)),some (leftD t),a6,some (.ref S.length)] T=some (.lst (R'.2.map fun e=>.int (e.g:Int)),T):=fun T a6=>by
    simp only [asGs,mComp_s,mItS_s,mOp_s,mVar_s,lg0,lg1,lgS,oj,ob,kRet_s,kOp1_s,mC_s,kOp2_s,Rm.ix1,es_kItS,gsC (es:=R'.2) (cap:=[none]) (env:=[some r.d,some (rmD R'),some (Dd.ask wr g t).d,some (.str (wantS wr)),some (.int (g:Int)),some (leftD t),a6,some (.ref S.length)]) rfl (by omega)]
  have rs:∀ (T:Store) (a6:Option D),asRest [some r.d,some (rmD R'),some (Dd.ask wr g t).d,some (.str (wantS wr)),some (.int (g:Int)),some (leftD t),a6,some (.ref S.length)] T=some (.lst ((R'.2.filter fun e=>decide (e.g≠g)).map En.d),T):=fun T a6=>by
    simp only [asRest,mComp_s,mItS_s,mOp_s,mVar_s,lg0,lg1,lgS,oj,ob,kRet_s,kOp1_s,mC_s,kOp2_s,Rm.ix1,es_kItS,restC (es:=R'.2) (g:=g) (cap:=[none,some 4]) (env:=[some r.d,some (rmD R'),some (Dd.ask wr g t).d,some (.str (wantS wr)),some (.int (g:Int)),some (leftD t),a6,some (.ref S.length)]) rfl (by omega)]
  have no:∀ w:Str,fAddX (S++[.lst (evs.map Ev.d)]) (.ref S.length) (.lst [.tup [.str w,.int (g:Int)]])=some (.lst ((evs++[Ev.mk w g]).map Ev.d)):=fun w=>ev_add (v:=⟨w,g⟩) (by omega)
  refine ⟨[.lst (evs.map Ev.d)],?_⟩
  simp only [lawAsked,mSeq_s,mAsg_s,mVar_s,lg0,lg1,lgS,oj,ob,kRet_s,kAsg_s,g3,gConsD_s,gSet_s,kGs_s,gNilD_s,ls0,lsS,kNx_s,kSeq_nx,mTup_s,mCons_s,kCons1_s,mC_s,mIf_s,mTest_s,mOp_s,kOp1_s,kOp2_s,fEq_left,kTest_s,kif [],mNil_s,kCons2_s,k4,mCallN_s,Rm.ix0,Rm.ix1,k1,ad,k2,kCallN_2,hO',gTupD_2,mIfS_s,gs,fNotIn_gs]
  cases hb:staysB R'.2 g with
  | false=>simp only [Bool.not_false,kIfS_t,mRet_s,mTup_s,mCons_s,mVar_s,lg0,lg1,lgS,oj,ob,kRet_s,kCons1_s,mCall_s,mNil_s,kCons2_s,kCall_s,ev_seq,k2,kRt_s,kSeq_rt,outM_rt,if_pos]
  | true=>
    simp only [Bool.not_true,kIfS_f,mSkip_s,ob,kSeq_nx,reduceCtorEq,if_neg,not_false_eq_true]
    by_cases ht:t=some 0
    · have fe:∀ S,fEq S (leftD t) (.int 0)=some (.bl true):=fun S=>by rw [fEq_left,decide_eq_true ht]
      simp only [if_pos ht,mSeq_s,mIfS_s,mTest_s,fe,kTest_s,kIfS_t,mRet_s,mTup_s,mCons_s,mVar_s,lg0,lg1,lgS,oj,ob,kRet_s,kCons1_s,mOp_s,kOp1_s,mC_s,kOp2_s,Rm.ix0,mCall_s,rs,mNil_s,kCons2_s,kCall_s,fSeq1_l,k2,mLst_s,l1,no,kRt_s,kSeq_rt,outM_rt]
      rfl
    · have fe:∀ S,fEq S (leftD t) (.int 0)=some (.bl false):=fun S=>by rw [fEq_left,decide_eq_false ht]
      simp only [if_neg ht,mSeq_s,mIfS_s,mTest_s,fe,kTest_s,kIfS_f,mSkip_s,ob,kSeq_nx,mRet_s,mTup_s,mCons_s,mVar_s,lg0,lg1,lgS,oj,kRet_s,kCons1_s,mOp_s,kOp1_s,mC_s,kOp2_s,mCall_s,mNil_s,kCons2_s,kCall_s,fSeq1_l,k2,mLst_s,l1,no,kRt_s,outM_rt]
      rfl
end
end MI
namespace MI
open PySem PySem.Spec PyProof.Rows L2 M
structure DoOk (can asked settled marked put:PF):Prop where
  c:∀ (S:Store) (R:Rm) (dd:Dd),R.2.length≤60→dd.Ok R.1.length→∃ T,can [rmD R,dd.d] S=some (.bl (canB R dd),S++T)
  a:∀ (S:Store) (r:Rl) (R:Rm) (wr:Bool) (g:Nat) (t:Option Int),ROk R→R.1.length≤50→R.1[g]?=some .out→staysB R.2 g=false→∃ T,asked [r.d,rmD R,(Dd.ask wr g t).d] S=some (.tup [rmD (askL r R wr g t).1,evsD (askL r R wr g t).2],S++T)
  s:SettledOk settled
  m:∀ (S:Store) (r:Rl) (w:Wd) (es:List En),es.length≤60→marked [r.d,w.d,esD es] S=some (esD (mkL r w es),S)
  p:∀ (S:Store) (ws:List Wd) (i:Nat) (w:Wd),i<ws.length→ws.length≤100→put [wsD ws,.int (i:Int),w.d] S=some (wsD (ws.set i w),S)
section
variable {S:Store} {ws:List Wd} {es:List En} {r:Rl} {R:Rm}
theorem decT_d {e:En}:(mOp fAddX (mSlice (mVar 0) (mPartN) (mPart (mC (.int 3)))) (mTup (mCons (mIf (mTest (mOp fIs (mOp fIxX (mVar 0) (mC (.int 3))) (mC .non))) (mC .non) (mOp fSub (mOp fIxX (mVar 0) (mC (.int 3))) (mC (.int 1)))) (mNil)))) [some e.d] S=some ((decT e).d,S):=by
  have c1:kSl3 e.d none (some 3,S)=some (.tup [.int (e.g:Nat),.str (wantS e.wr),.int e.m],S):=rfl
  have k1:∀ x,kTup ([x],S)=some (.tup [x],S):=fun x=>kTup_of (by simp)
  have a2:∀ x y z w,fAddX S (.tup [x,y,z]) (.tup [w])=some (.tup [x,y,z,w]):=fun x y z w=>fAdd_t (by simp)
  have cu:∀ a b c d:D,cutL [a,b,c,d] none (some 3)=[a,b,c]:=fun _ _ _ _=>rfl
  obtain ⟨g,wr,m,t⟩:=e
  cases t with
  | none=>simp [at4,cu,leftD,isD,k1,a2,decT,En.d]
  | some k=>simp [at4,cu,leftD,isD,k1,a2,decT,En.d]
theorem doTick_eq {settled:PF} (O:SettledOk settled) {a2 a5 a6 a7 a8 a9 b0 b1 b2 b3:Option D} (h:ROk R) (hl:R.1.length≤50) :
    ∃ T,(doTick settled [some r.d,some (rmD R),a2,some (wsD R.1),some (esD R.2),a5,a6,a7,a8,a9,b0,b1,b2,b3] S).bind outM=some (.tup [rmD (tickL r R).1,evsD (tickL r R).2],S++T)∧doTick settled [some r.d,some (rmD R),a2,some (wsD R.1),some (esD R.2),a5,a6,a7,a8,a9,b0,b1,b2,b3] S=some (.rt (.tup [rmD (tickL r R).1,evsD (tickL r R).2]) (S++T)):=by
  have hle:=h.len
  have f1:doFewer [some r.d,some (rmD R),a2,some (wsD R.1),some (esD R.2),a5,a6,a7,a8,a9,b0,b1,b2,b3] S=some (.lst ((R.2.map decT).map En.d),S):=by
    have k:=kcomp1 (S:=S) (t:=mTrue) (e:=mOp fAddX (mSlice (mVar 0) (mPartN) (mPart (mC (.int 3)))) (mTup (mCons (mIf (mTest (mOp fIs (mOp fIxX (mVar 0) (mC (.int 3))) (mC .non))) (mC .non) (mOp fSub (mOp fIxX (mVar 0) (mC (.int 3))) (mC (.int 1)))) (mNil)))) (cap:=[none]) (env:=[some r.d,some (rmD R),a2,some (wsD R.1),some (esD R.2),a5,a6,a7,a8,a9,b0,b1,b2,b3]) (rest:=[]) (a:=none) (enc:=En.d) (p:=fun _=>true) (f:=fun e=>(decT e).d) (xs:=R.2) rfl (by omega) (fun x _=>mTrue_s) (fun x _ _=>decT_d)
    rw [List.filter_eq_self.mpr (fun _ _=>rfl)] at k
    simp only [doFewer,mComp_s,mItS_s,mVar_s,lg0,lg1,lgS,oj,ob,kRet_s,es_kItS,k,List.map_map]
    rfl
  generalize hF:R.2.map decT=fs at f1
  have hfl:fs.length≤50:=by rw [← hF,List.length_map];omega
  have k2:∀ S (x y:D),kTup ([x,y],S)=some (.tup [x,y],S):=fun S x y=>kTup_of (by simp)
  have f2:doGone [some r.d,some (rmD R),a2,some (wsD R.1),some (esD R.2),some (.lst (fs.map En.d)),a6,a7,a8,a9,b0,b1,b2,b3] S=some (.lst (((fs.filter fun e=>decide (e.t=some 0)).map fun e=>Ev.mk "ends" e.g).map Ev.d),S):=by
    have k:=kcomp1 (S:=S) (t:=mTest (mOp fEq (mOp fIxX (mVar 0) (mC (.int 3))) (mC (.int 0)))) (e:=mTup (mCons (mC (.str "ends")) (mCons (mOp fIxX (mVar 0) (mC (.int 0))) (mNil)))) (cap:=[none]) (env:=[some r.d,some (rmD R),a2,some (wsD R.1),some (esD R.2),some (.lst (fs.map En.d)),a6,a7,a8,a9,b0,b1,b2,b3]) (rest:=[]) (a:=none) (enc:=En.d) (p:=fun e=>decide (e.t=some 0)) (f:=fun e=>(Ev.mk "ends" e.g).d) (xs:=fs) rfl (by omega) (fun x _=>by simp [En.ix3,fEq_left]) (fun x _ _=>by simp [En.ix0,k2,Ev.d])
    simp only [doGone,mComp_s,mItS_s,mVar_s,lg0,lg1,lgS,oj,ob,kRet_s,kItS_l,k,List.map_map]
    rfl
  have f3:∀ a6,doKept [some r.d,some (rmD R),a2,some (wsD R.1),some (esD R.2),some (.lst (fs.map En.d)),a6,a7,a8,a9,b0,b1,b2,b3] S=some (.lst ((fs.filter fun e=>decide (e.t≠some 0)).map En.d),S):=fun a6=>by
    have k:=kcomp1 (S:=S) (t:=mTest (mOp fNe (mOp fIxX (mVar 0) (mC (.int 3))) (mC (.int 0)))) (e:=mVar 0) (cap:=[none]) (env:=[some r.d,some (rmD R),a2,some (wsD R.1),some (esD R.2),some (.lst (fs.map En.d)),a6,a7,a8,a9,b0,b1,b2,b3]) (rest:=[]) (a:=none) (enc:=En.d) (p:=fun e=>decide (e.t≠some 0)) (f:=En.d) (xs:=fs) rfl (by omega) (fun x _=>by simp [En.ix3,fNe_left]) (fun x _ _=>by simp)
    simp only [doKept,mComp_s,mItS_s,mVar_s,lg0,lg1,lgS,oj,ob,kRet_s,kItS_l,k]
  have hA:ROk (R.1,fs.filter fun e=>decide (e.t≠some 0)):=by rw [← hF];exact ROk.filter (ROk.mapE h decT fun e=>rfl) _
  have hO:=O S r (R.1,fs.filter fun e=>decide (e.t≠some 0)) hA hl
  have qf:(settledL r (R.1,fs.filter fun e=>decide (e.t≠some 0))).2.length≤100:=Nat.le_trans (seL_few _) (by show 2 * R.1.length≤100;omega)
  unfold tickL
  rw [hF]
  generalize hE:settledL r (R.1,fs.filter fun e=>decide (e.t≠some 0))=A at *
  obtain ⟨R',evs⟩:=A
  dsimp only at *
  have hO':settled [r.d,.tup [wsD R.1,.tup ((fs.filter fun e=>decide (e.t≠some 0)).map En.d)]] S=some (.tup [rmD R',.ref S.length],S++[.lst (evs.map Ev.d)]):=hO
  have ad:=ev_add2 (S:=S) (k:=(fs.filter fun e=>decide (e.t=some 0)).map fun e=>Ev.mk "ends" e.g) (l:=evs) (by omega) (by rw [List.length_map];exact Nat.le_trans (List.length_filter_le _ _) (by omega))
  have key:doTick settled [some r.d,some (rmD R),a2,some (wsD R.1),some (esD R.2),a5,a6,a7,a8,a9,b0,b1,b2,b3] S=some (.rt (.tup [rmD R',evsD (((fs.filter fun e=>decide (e.t=some 0)).map fun e=>Ev.mk "ends" e.g)++evs)]) (S++[.lst (evs.map Ev.d)])):=by
    simp only [doTick,mSeq_s,mAsg_s,f1,ob,kAsg_s,gSet_s,ls0,lsS,kNx_s,kSeq_nx,f2,mCallN_s,mCons_s,mVar_s,lg0,lg1,lgS,oj,kRet_s,kCons1_s,mTup_s,mCall_s,f3,mNil_s,kCons2_s,kCall_s,fSeq1_l,k2,kCallN_2,hO',gTupD_2,gConsD_s,kGs_s,gNilD_s,mRet_s,mOp_s,kOp1_s,kOp2_s,ad,kRt_s]
    rfl
  exact ⟨[.lst (evs.map Ev.d)],by rw [key,ob,outM_rt],key⟩
theorem fMulX_l {xs:List D} {k:Int} (h0:0≤k) (h1:k≤100000) (h:xs.length * k.toNat≤1000):fMulX S (.lst xs) (.int k)=some (.lst (List.replicate k.toNat xs).flatten):=if_pos ⟨by omega,by omega,sz h⟩
theorem fMul_1 {x:D} {b:Bool}:fMulX S (.lst [x]) (.int (if b=true then 1 else 0))=some (.lst (if b=true then [x] else [])):=by
  cases b
  · exact fMulX_l (by decide) (by decide) (by simp)
  · exact fMulX_l (by decide) (by decide) (by simp)
theorem akS (k j:Ak):(k.s == j.s)=decide (k=j):=by cases k <;> cases j <;> decide +kernel
theorem fEq_ak {k j:Ak}:fEq S (.str k.s) (.str j.s)=some (.bl (decide (k=j))):=by rw [fEq_ss,akS]
theorem doFirst_eq {k:Ak} {g:Nat} {a0 a1 a2 a3 a4 a5 a6 a7 b0 b1 b2 b3:Option D}:doFirst [a0,a1,a2,a3,a4,a5,a6,a7,some (.str k.s),some (.int (g:Int)),b0,b1,b2,b3] S=some (.lst ((firstL k g).map Ev.d),S):=by
  have e1:fEq S (.str k.s) (.str "stop")=some (.bl (decide (k=.stop))):=fEq_ak (j:=.stop)
  have e2:fEq S (.str k.s) (.str "down")=some (.bl (decide (k=.down))):=fEq_ak (j:=.down)
  have e3:fNe S (.str k.s) (.str "up")=some (.bl (!decide (k=.up))):=by rw [fNe_ss];exact congrArg (fun b=>some (D.bl (!b))) (akS k .up)
  have k2:∀ S (x y:D),kTup ([x,y],S)=some (.tup [x,y],S):=fun S x y=>kTup_of (by simp)
  have l1:∀ S (x:D),kLst ([x],S)=some (.lst [x],S):=fun S x=>kLst_of (by simp)
  cases k <;> simp only [doFirst,mOp_s,mLst_s,mCons_s,mTup_s,mIf_s,mTest_s,mVar_s,lg0,lg1,lgS,oj,ob,kRet_s,kOp1_s,mC_s,kOp2_s,e1,e2,e3,kTest_s,reduceCtorEq,decide_false,decide_true,kIf_t,kIf_f,kCons1_s,mNil_s,kCons2_s,k2,l1,mCall_s,kCall_s,fInt1_b,fMul_1,firstL] <;> rfl
theorem doThere_eq {k:Ak} {w:Wd} {a0 a1 a2 a3 a4 a5 a6 a7 a9 b1 b2 b3:Option D}:doThere [a0,a1,a2,a3,a4,a5,a6,a7,some (.str k.s),a9,some w.d,b1,b2,b3] S=some ((thereW k w).d,S):=by
  have e1:fEq S w.d (.str "rising")=some (.bl (decide (w=.rising))):=fEq_wd (b:=.rising)
  have l2:∀ S (x y:D),kLst ([x,y],S)=some (.lst [x,y],S):=fun S x y=>kLst_of (by simp)
  have ix:fIxX S (.lst [.str "out",.str "reads"]) (.int (if decide (w=.rising)=true then 1 else 0))=some (if w=.rising then Wd.reads else Wd.out).d:=by by_cases h:w=.rising <;> simp [h] <;> rfl
  have kd:∀ x,kDict ([(.inr "up",.str "rising"),(.inr "down",.str "reads"),(.inr "leave",.str "out"),(.inr "stop",x)],S)=some (.dct ([((Sum.inr "up":Key),D.str "rising"),(.inr "down",.str "reads"),(.inr "leave",.str "out"),(.inr "stop",x)].map (·.1)) ([((Sum.inr "up":Key),D.str "rising"),(.inr "down",.str "reads"),(.inr "leave",.str "out"),(.inr "stop",x)].map (·.2)),S):=fun x=>kDict_of (show [(Sum.inr "up":Key),.inr "down",.inr "leave",.inr "stop"].Nodup by decide +kernel) (by show 4≤15;decide)
  have fx:∀ x,fIxX S (.dct ([((Sum.inr "up":Key),D.str "rising"),(.inr "down",.str "reads"),(.inr "leave",.str "out"),(.inr "stop",x)].map (·.1)) ([((Sum.inr "up":Key),D.str "rising"),(.inr "down",.str "reads"),(.inr "leave",.str "out"),(.inr "stop",x)].map (·.2))) (.str k.s)=some (match k with | .up=>.str "rising" | .down=>.str "reads" | .leave=>.str "out" | .stop=>x):=fun x=>by
    rw [fIx_d keyOf_s];cases k <;> simp (decide:=true) [Ak.s]
  simp only [doThere,mOp_s,mDict_s,mPairs_cons,mC_s,ob,kPr1_s,kPr3_s,mLst_s,mCons_s,kCons1_s,mNil_s,kCons2_s,l2,kOp1_s,mCall_s,mVar_s,lg0,lg1,lgS,oj,kRet_s,kOp2_s,e1,kCall_s,fInt1_b,ix,mPairs_nil,kPr4_s,kd,fx]
  cases k <;> rfl
theorem doMore_eq {g:Nat} {R':Rm} {w:Wd} {a0 a2 a3 a4 a5 a6 a7 a8 b0 b1 b2 b3:Option D} (hw:R'.1[g]?=some w):doMore [a0,some (rmD R'),a2,a3,a4,a5,a6,a7,a8,some (.int (g:Int)),b0,b1,b2,b3] S=some (.lst ((if w=.rising then [Ev.mk "waits" g] else []).map Ev.d),S):=by
  have k2:∀ S (x y:D),kTup ([x,y],S)=some (.tup [x,y],S):=fun S x y=>kTup_of (by simp)
  have l1:∀ S (x:D),kLst ([x],S)=some (.lst [x],S):=fun S x=>kLst_of (by simp)
  have x1:fIxX S (wsD R'.1) (.int (g:Int))=some w.d:=ws_ix hw
  have e1:fEq S w.d (.str "rising")=some (.bl (decide (w=.rising))):=fEq_wd (b:=.rising)
  simp only [doMore,mOp_s,mLst_s,mCons_s,mTup_s,mC_s,ob,kCons1_s,mVar_s,lg0,lg1,lgS,oj,kRet_s,mNil_s,kCons2_s,k2,l1,kOp1_s,mCall_s,kOp2_s,Rm.ix0,x1,e1,kCall_s,fInt1_b,fMul_1]
  by_cases h:w=.rising <;> simp [h] <;> rfl
theorem doKeep_eq {g:Nat} {a0 a1 a2 a3 a5 a6 a7 a8 b0 b1 b2 b3:Option D} (hl:es.length≤100):doKeep [a0,a1,a2,a3,some (esD es),a5,a6,a7,a8,some (.int (g:Int)),b0,b1,b2,b3] S=some (.lst ((es.filter fun e=>decide (e.g≠g)).map En.d),S):=by
  simp only [doKeep,mComp_s,mItS_s,mVar_s,lg0,lg1,lgS,oj,ob,kRet_s,es_kItS,restC (es:=es) (g:=g) (cap:=[none,some 9]) (env:=[a0,a1,a2,a3,some (esD es),a5,a6,a7,a8,some (.int (g:Int)),b0,b1,b2,b3]) rfl hl]
theorem fIn_ak {k:Ak}:fIn S (.str k.s) (.tup [.str "down",.str "leave"])=some (.bl (decide (k=.down∨k=.leave))):=by
  have h:([D.str "down",D.str "leave"].any fun d=>eqD d (.str k.s))=decide (k=.down∨k=.leave):=by cases k <;> decide +kernel
  rw [fIn_ok (ys:=[.str "down",.str "leave"]) rfl rfl rfl,h]
theorem mkL_len {w:Wd}:(mkL r w es).length=es.length:=by unfold mkL;split <;> simp
theorem doAct_eq {can asked settled marked put:PF} (O:DoOk can asked settled marked put) {k:Ak} {g:Nat} {w:Wd} {a2 a5 a6 a7 b0 b1 b2 b3:Option D} (h:ROk R) (hl:R.1.length≤50) (hw:R.1[g]?=some w) :
    ∃ T,doAct settled marked put [some r.d,some (rmD R),a2,some (wsD R.1),some (esD R.2),a5,a6,a7,some (.str k.s),some (.int (g:Int)),b0,b1,b2,b3] S=some (.rt (.tup [rmD (actL r R k g w).1,evsD (actL r R k g w).2]) (S++T)):=by
  have hle:=h.len
  have hg:g<R.1.length:=(List.getElem?_eq_some_iff.mp hw).1
  have x1:∀ S,fIxX S (wsD R.1) (.int (g:Int))=some w.d:=fun S=>ws_ix hw
  have k2:∀ S (x y:D),kTup ([x,y],S)=some (.tup [x,y],S):=fun S x y=>kTup_of (by simp)
  have mk:∀ env S,env=[some r.d,some (rmD R),a2,some (wsD R.1),some (esD R.2),a5,a6,a7,some (.str k.s),some (.int (g:Int)),some w.d,some (.lst ((firstL k g).map Ev.d)),b2,b3]→mIfS (mTest (mOp fIn (mVar 8) (mTup (mCons (mC (.str "down")) (mCons (mC (.str "leave")) (mNil)))))) (mAsg (mCallN 3 marked (mCons (mVar 0) (mCons (mVar 10) (mCons (mVar 4) (mNil))))) (gSet 4)) (mSkip) env S=some (.nx [some r.d,some (rmD R),a2,some (wsD R.1),some (esD (if k=.down∨k=.leave then mkL r w R.2 else R.2)),a5,a6,a7,some (.str k.s),some (.int (g:Int)),some w.d,some (.lst ((firstL k g).map Ev.d)),b2,b3] S):=fun env S he=>by
    subst he
    simp only [mIfS_s,mTest_s,mOp_s,mVar_s,lg0,lg1,lgS,oj,ob,kRet_s,kOp1_s,mTup_s,mCons_s,mC_s,kCons1_s,mNil_s,kCons2_s,k2,kOp2_s,fIn_ak,kTest_s]
    by_cases hk:k=.down∨k=.leave
    · rw [decide_eq_true hk,if_pos hk]
      simp only [kIfS_t,mAsg_s,mCallN_s,mCons_s,mVar_s,lg0,lg1,lgS,oj,ob,kRet_s,kCons1_s,mNil_s,kCons2_s,kCallN_3,O.m S r w R.2 (by omega),kAsg_s,gSet_s,ls0,lsS,kNx_s]
    · rw [decide_eq_false hk,if_neg hk]
      simp only [kIfS_f,mSkip_s]
  have hel:(if k=.down∨k=.leave then mkL r w R.2 else R.2).length≤100:=by split <;> (try rw [mkL_len]) <;> omega
  have hA:=actE_ok (r:=r) (k:=k) (w:=w) (g:=g) h (thereW k w)
  have hO:=O.s S r (R.1.set g (thereW k w),actE r k w g R.2) hA (by simp;exact hl)
  obtain ⟨q1,q2⟩:=settledL_ok (r:=r) hA
  have qf:(settledL r (R.1.set g (thereW k w),actE r k w g R.2)).2.length≤100:=Nat.le_trans (seL_few _) (by show 2 * (R.1.set g (thereW k w)).length≤100;rw [List.length_set];omega)
  have pp:∀ S,put [wsD R.1,.int (g:Int),(thereW k w).d] S=some (wsD (R.1.set g (thereW k w)),S):=fun S=>O.p S R.1 g _ hg (by omega)
  unfold actL
  generalize hE:settledL r (R.1.set g (thereW k w),actE r k w g R.2)=A at *
  obtain ⟨R',evs⟩:=A
  dsimp only at *
  have hg':g<R'.1.length:=by rw [q2,List.length_set];exact hg
  have hw':R'.1[g]?=some R'.1[g]:=List.getElem?_eq_getElem hg'
  have hO':settled [r.d,.tup [wsD (R.1.set g (thereW k w)),.tup (((if k=.down∨k=.leave then mkL r w R.2 else R.2).filter fun e=>decide (e.g≠g)).map En.d)]] S=some (.tup [rmD R',.ref S.length],S++[.lst (evs.map Ev.d)]):=hO
  have fl:(firstL k g).length≤1:=by cases k <;> simp [firstL]
  have ad:=ev_add2 (S:=S) (k:=firstL k g) (l:=evs) (by omega) (by omega)
  have ad2:fAddX (S++[.lst (evs.map Ev.d)]) (.lst ((firstL k g++evs).map Ev.d)) (.lst ((if R'.1[g]=.rising then [Ev.mk "waits" g] else []).map Ev.d))=some (.lst ((firstL k g++evs++(if R'.1[g]=.rising then [Ev.mk "waits" g] else [])).map Ev.d)):=by
    rw [fAdd_l (by rw [List.length_map,List.length_map,List.length_append];split <;> simp <;> omega),← List.map_append]
  refine ⟨[.lst (evs.map Ev.d)],?_⟩
  rw [hw']
  simp only [doAct,mSeq_s,mAsg_s,mOp_s,mVar_s,lg0,lg1,lgS,oj,ob,kRet_s,kOp1_s,kOp2_s,x1,kAsg_s,gSet_s,ls0,lsS,kNx_s,kSeq_nx,doFirst_eq,mk _ _ rfl,mCall_s,mCons_s,doKeep_eq hel,kCons1_s,mNil_s,kCons2_s,kCall_s,fSeq1_l,doThere_eq,mCallN_s,mTup_s,kCallN_3,pp,k2,kCallN_2,hO',gTupD_2,gConsD_s,kGs_s,gNilD_s,doMore_eq hw',mRet_s,ad,ad2,kRt_s,Option.some.injEq]
  rfl
theorem rising_in {S:Store}:fIn S (.str "rising") (wsD ws)=some (.bl (decide (Wd.rising∈ws))):=by
  rw [fIn_ok (ys:=ws.map Wd.d) rfl rfl okWs]
  congr 2
  rw [List.any_map]
  induction ws with
  | nil=>rfl
  | cons a l ih=>
    rw [List.any_cons,ih]
    show (eqD a.d (Wd.rising).d||_)=_
    rw [eqWd,Bool.eq_iff_iff]
    simp
    constructor
    · rintro (h | h)
      · exact .inl h.symm
      · exact .inr h
    · rintro (h | h)
      · exact .inl h.symm
      · exact .inr h
theorem ddW_tick {dd:Dd} (h:dd≠.tick):(ddWord dd == ("tick":Str))=false:=by
  cases dd with
  | tick=>exact absurd rfl h
  | ask wr g t=>show (wantS wr == ("tick":Str))=false;cases wr <;> decide +kernel
  | act k g=>show (k.s == ("tick":Str))=false;cases k <;> decide +kernel
theorem fIn_rw {x:Str} {b:Bool} (hb:([D.str "read",D.str "write"].any fun d=>eqD d (.str x))=b):fIn S (.str x) (.tup [.str "read",.str "write"])=some (.bl b):=by
  rw [fIn_ok (ys:=[.str "read",.str "write"]) rfl rfl rfl,hb]
noncomputable def doneD:Option (Rm×List Ev)→D
  | none=>.non
  | some x=>.tup [rmD x.1,evsD x.2]
theorem done_gen {can asked settled marked put:PF} (O:DoOk can asked settled marked put) {N:List Str} (hN:N.length=14) {dd:Dd} (h:ROk R) (hl:R.1.length≤50) (hd:dd.Ok R.1.length) :
    ∃ T,runM N (lawDone can asked settled marked put) 3 [r.d,rmD R,dd.d] S=some (doneD (doneL r R dd),S++T):=by
  have hst:startE N [r.d,rmD R,dd.d]=[some r.d,some (rmD R),some dd.d,none,none,none,none,none,none,none,none,none,none,none]:=by simp [startE,hN,List.replicate]
  rw [runM_eq (show [r.d,rmD R,dd.d].length=3 from rfl),hst]
  have hle:=h.len
  obtain ⟨T0,hc⟩:=O.c S R dd (by omega) hd
  have g2:∀ env S,gTupD 2 (gConsD (gSet 3) (gConsD (gSet 4) (gNilD))) (rmD R) env S=(gConsD (gSet 3) (gConsD (gSet 4) (gNilD))) [wsD R.1,esD R.2] env S:=fun env S=>gTupD_2
  have k2:∀ S (x y:D),kTup ([x,y],S)=some (.tup [x,y],S):=fun S x y=>kTup_of (by simp)
  have k1:∀ S (x:D),kTup ([x],S)=some (.tup [x],S):=fun S x=>kTup_of (by simp)
  unfold doneL
  cases hb:canB R dd with
  | false=>
    rw [hb] at hc
    refine ⟨T0,?_⟩
    simp only [lawDone,mSeq_s,mIfS_s,mNotT_s,mTru_s,mCallN_s,mCons_s,mVar_s,lg0,lg1,lgS,oj,ob,kRet_s,kCons1_s,mNil_s,kCons2_s,kCallN_2,hc,kTru_b,kNotT_s,Bool.not_false,kIfS_t,mRet_s,mC_s,kRt_s,kSeq_rt,outM_rt,if_pos,doneD]
  | true=>
    rw [hb] at hc
    rw [if_neg (by decide)]
    by_cases ht:dd=.tick
    · subst ht
      have xt:∀ S,fIxX S (Dd.tick).d (.int 0)=some (.str "tick"):=fun S=>rfl
      have et:∀ S,fEq S (.str "tick") (.str "tick")=some (.bl true):=fun S=>by rw [fEq_ss,beq_self_eq_true]
      obtain ⟨T,_,e⟩:=doTick_eq O.s (S:=S++T0) (r:=r) (R:=R) (a2:=some (Dd.tick).d) (a5:=none) (a6:=none) (a7:=none) (a8:=none) (a9:=none) (b0:=none) (b1:=none) (b2:=none) (b3:=none) h hl
      refine ⟨T0++T,?_⟩
      simp only [lawDone,mSeq_s,mIfS_s,mNotT_s,mTru_s,mCallN_s,mCons_s,mVar_s,lg0,lg1,lgS,oj,ob,kRet_s,kCons1_s,mNil_s,kCons2_s,kCallN_2,hc,kTru_b,kNotT_s,Bool.not_true,kIfS_f,mSkip_s,kSeq_nx,mAsg_s,kAsg_s,g2,gConsD_s,gSet_s,kGs_s,gNilD_s,ls0,lsS,kNx_s,mTest_s,mOp_s,kOp1_s,mC_s,kOp2_s,xt,et,kTest_s,kIfS_t,e,kSeq_rt,outM_rt,List.append_assoc,doneD]
    · have et0:=ddW_tick ht
      cases dd with
      | tick=>exact absurd rfl ht
      | ask wr g t=>
        have x0:∀ S,fIxX S (Dd.ask wr g t).d (.int 0)=some (.str (wantS wr)):=fun S=>rfl
        have et:∀ S,fEq S (.str (wantS wr)) (.str "tick")=some (.bl false):=fun S=>by rw [fEq_ss];exact congrArg (fun b=>some (D.bl b)) et0
        have sl:∀ S,kSl3 (Dd.ask wr g t).d none (some 2,S)=some (.tup [.str (wantS wr),.int (g:Int)],S):=fun S=>rfl
        simp only [canB,Bool.and_eq_true,decide_eq_true_eq,Bool.not_eq_true'] at hb
        obtain ⟨T,e⟩:=O.a (S++T0) r R wr g t h hl hb.1 hb.2
        have fi:∀ S,fIn S (.str (wantS wr)) (.tup [.str "read",.str "write"])=some (.bl true):=fun S=>fIn_rw (by cases wr <;> decide +kernel)
        refine ⟨T0++T,?_⟩
        simp only [lawDone,mSeq_s,mIfS_s,mNotT_s,mTru_s,mCallN_s,mCons_s,mVar_s,lg0,lg1,lgS,oj,ob,kRet_s,kCons1_s,mNil_s,kCons2_s,kCallN_2,hc,kTru_b,kNotT_s,Bool.not_true,kIfS_f,mSkip_s,kSeq_nx,mAsg_s,kAsg_s,g2,gConsD_s,gSet_s,kGs_s,gNilD_s,ls0,lsS,kNx_s,mTest_s,mOp_s,kOp1_s,mC_s,kOp2_s,x0,et,kTest_s,mSlice_s,kSl1_s,mPartN_s,kSl2_s,mPart_s,kPart_s,sl,gTupD_2,mTup_s,k2,fi,kIfS_t,mRet_s,kCallN_3,e,kRt_s,kSeq_rt,outM_rt,List.append_assoc,doneD]
      | act k g=>
        have x0:∀ S,fIxX S (Dd.act k g).d (.int 0)=some (.str k.s):=fun S=>rfl
        have et:∀ S,fEq S (.str k.s) (.str "tick")=some (.bl false):=fun S=>by rw [fEq_ss];exact congrArg (fun b=>some (D.bl b)) et0
        have sl:∀ S,kSl3 (Dd.act k g).d none (some 2,S)=some (.tup [.str k.s,.int (g:Int)],S):=fun S=>rfl
        have fi:∀ S,fIn S (.str k.s) (.tup [.str "read",.str "write"])=some (.bl false):=fun S=>fIn_rw (by cases k <;> decide +kernel)
        have fu:∀ S,fEq S (.str k.s) (.str "up")=some (.bl (decide (k=.up))):=fun S=>fEq_ak (j:=.up)
        have fc:(r.c == 0)=decide (r.c=0):=rfl
        have hg:g<R.1.length:=hd
        have hw:R.1[g]?=some R.1[g]:=List.getElem?_eq_getElem hg
        have ev1:D.tup [.tup [.str "no",.int (g:Int)]]=evsD [⟨"no",g⟩]:=rfl
        obtain ⟨T,e⟩:=doAct_eq O (S:=S++T0) (r:=r) (R:=R) (k:=k) (g:=g) (a2:=some (Dd.act k g).d) (a5:=none) (a6:=none) (a7:=none) (b0:=none) (b1:=none) (b2:=none) (b3:=none) h hl hw
        by_cases hu:k=.up∧(r.c=0∨Wd.rising∈R.1)
        · refine ⟨T0,?_⟩
          dsimp only
          rw [if_pos hu]
          have hu1:=decide_eq_true hu.1
          by_cases hz:r.c=0
          · simp only [lawDone,mSeq_s,mIfS_s,mNotT_s,mTru_s,mCallN_s,mCons_s,mVar_s,lg0,lg1,lgS,oj,ob,kRet_s,kCons1_s,mNil_s,kCons2_s,kCallN_2,hc,kTru_b,kNotT_s,Bool.not_true,kIfS_f,mSkip_s,kSeq_nx,mAsg_s,kAsg_s,g2,gConsD_s,gSet_s,kGs_s,gNilD_s,ls0,lsS,kNx_s,mTest_s,mOp_s,kOp1_s,mC_s,kOp2_s,x0,et,kTest_s,mSlice_s,kSl1_s,mPartN_s,kSl2_s,mPart_s,kPart_s,sl,gTupD_2,mTup_s,k2,fi,mAndT_s,fu,hu1,kAndT_t,mOrT_s,Rl.ix3,fEq_ii,fc,decide_eq_true hz,kOrT_t,kIfS_t,mRet_s,k1,kRt_s,kSeq_rt,outM_rt,doneD,ev1]
          · have hr:Wd.rising∈R.1:=hu.2.resolve_left hz
            simp only [lawDone,mSeq_s,mIfS_s,mNotT_s,mTru_s,mCallN_s,mCons_s,mVar_s,lg0,lg1,lgS,oj,ob,kRet_s,kCons1_s,mNil_s,kCons2_s,kCallN_2,hc,kTru_b,kNotT_s,Bool.not_true,kIfS_f,mSkip_s,kSeq_nx,mAsg_s,kAsg_s,g2,gConsD_s,gSet_s,kGs_s,gNilD_s,ls0,lsS,kNx_s,mTest_s,mOp_s,kOp1_s,mC_s,kOp2_s,x0,et,kTest_s,mSlice_s,kSl1_s,mPartN_s,kSl2_s,mPart_s,kPart_s,sl,gTupD_2,mTup_s,k2,fi,mAndT_s,fu,hu1,kAndT_t,mOrT_s,Rl.ix3,fEq_ii,fc,decide_eq_false hz,kOrT_f,rising_in,decide_eq_true hr,kIfS_t,mRet_s,k1,kRt_s,kSeq_rt,outM_rt,doneD,ev1]
        · refine ⟨T0++T,?_⟩
          dsimp only
          rw [if_neg hu,hw]
          dsimp only
          have tst:∀ (T:Store) (a5 a6 a7 b0 b1 b2 b3:Option D),mAndT (mTest (mOp fEq (mVar 8) (mC (.str "up")))) (mOrT (mTest (mOp fEq (mOp fIxX (mVar 0) (mC (.int 3))) (mC (.int 0)))) (mTest (mOp fIn (mC (.str "rising")) (mVar 3)))) [some r.d,some (rmD R),some (Dd.act k g).d,some (wsD R.1),some (esD R.2),a5,a6,a7,some (.str k.s),some (.int (g:Int)),b0,b1,b2,b3] T=some (false,T):=fun T a5 a6 a7 b0 b1 b2 b3=>by
            simp only [mAndT_s,mTest_s,mOp_s,mVar_s,lg0,lg1,lgS,oj,ob,kRet_s,kOp1_s,mC_s,kOp2_s,fu,kTest_s]
            by_cases hk:k=.up
            · have hz:¬ r.c=0:=fun z=>hu ⟨hk,.inl z⟩
              have hr:¬ Wd.rising∈R.1:=fun z=>hu ⟨hk,.inr z⟩
              rw [decide_eq_true hk]
              simp only [kAndT_t,mOrT_s,mTest_s,mOp_s,mVar_s,lg0,lg1,lgS,oj,ob,kRet_s,kOp1_s,mC_s,kOp2_s,Rl.ix3,fEq_ii,fc,decide_eq_false hz,kTest_s,kOrT_f,rising_in,decide_eq_false hr]
            · rw [decide_eq_false hk,kAndT_f]
          simp only [lawDone,mSeq_s,mIfS_s,mNotT_s,mTru_s,mCallN_s,mCons_s,mVar_s,lg0,lg1,lgS,oj,ob,kRet_s,kCons1_s,mNil_s,kCons2_s,kCallN_2,hc,kTru_b,kNotT_s,Bool.not_true,kIfS_f,mSkip_s,kSeq_nx,mAsg_s,kAsg_s,g2,gConsD_s,gSet_s,kGs_s,gNilD_s,ls0,lsS,kNx_s,mTest_s,mOp_s,kOp1_s,mC_s,kOp2_s,x0,et,kTest_s,mSlice_s,kSl1_s,mPartN_s,kSl2_s,mPart_s,kPart_s,sl,gTupD_2,mTup_s,k2,fi,tst,e,outM_rt,List.append_assoc,doneD]
end
end MI
namespace MI
open PySem PySem.Spec PyProof.Rows L2 M
noncomputable def Grow (r:Nat) (S S':Store):Prop:=S.length≤S'.length∧∀ j,j<S.length→j≠r→S'[j]?=S[j]?
theorem Grow.of {r:Nat} {S S':Store} (h:Keep r S S'):Grow r S S':=⟨Nat.le_of_eq h.2.symm,fun j _ hj=>h.1 j hj⟩
theorem Grow.app {r:Nat} {S T:Store}:Grow r S (S++T):=⟨by simp,fun j h _=>List.getElem?_append_left h⟩
theorem Grow.trans {r:Nat} {S S' S'':Store} (h:Grow r S S') (h':Grow r S' S''):Grow r S S'':=⟨Nat.le_trans h.1 h'.1,fun j hj hr=>(h'.2 j (Nat.lt_of_lt_of_le hj h.1) hr).trans (h.2 j hj hr)⟩
theorem Pk.appT {S T:Store} {r:Nat} (h:Pk S r):Pk (S++T) r:=by
  obtain ⟨a,b,d,h,z⟩:=h
  exact ⟨a,b,d,by rw [List.getElem?_append_left (List.getElem?_eq_some_iff.mp h).1];exact h,z⟩
theorem Pk.lt {S:Store} {r:Nat} (h:Pk S r):r<S.length:=by
  obtain ⟨a,b,d,h,z⟩:=h
  exact (List.getElem?_eq_some_iff.mp h).1
structure Formed (R:Rm):Prop where
  ok:ROk R
  m0:∀ e∈R.2,0≤e.m∧e.m≤999
  t1:∀ e∈R.2,∀ k,e.t=some k→1≤k∧k≤9
theorem flat_rep {α:Type} {x:α}:∀ n:Nat,(List.replicate n [x]).flatten=List.replicate n x
  | 0=>rfl
  | n+1=>by rw [List.replicate_succ,List.flatten_cons,flat_rep n,List.replicate_succ];rfl
structure RowOk (deed done:PF):Prop where
  de:∀ (S:Store) (r n:Nat),Pk S r→1≤n→n≤5→∃ (dd:Dd) (S':Store),deed [.ref r,.int (n:Int)] S=some (dd.d,S')∧dd.Ok n∧Pk S' r∧Keep r S S'
  dn:∀ (S:Store) (rl:Rl) (R:Rm) (dd:Dd),ROk R→R.1.length≤50→dd.Ok R.1.length→∃ T,done [rl.d,rmD R,dd.d] S=some (doneD (doneL rl R dd),S++T)
noncomputable def emptyR (n:Nat):Rm:=(List.replicate n .out,[])
theorem emptyR_ok {n:Nat}:ROk (emptyR n):=⟨fun e h=>by simp [emptyR] at h,by simp [emptyR]⟩
inductive Behind (r:Rl) (n:Nat):List Dd→Rm→Prop
  | nil:Behind r n [] (emptyR n)
  | snoc {l:List Dd} {R:Rm} {d:Dd} {x:Rm×List Ev} (h:Behind r n l R) (hd:d.Ok n) (e:doneL r R d=some x):Behind r n (l++[d]) x.1
theorem Behind.ok {r:Rl} {n:Nat} {l:List Dd} {R:Rm} (h:Behind r n l R):ROk R∧R.1.length=n:=by
  induction h with
  | nil=>exact ⟨emptyR_ok,by simp [emptyR]⟩
  | snoc h hd e ih=>obtain ⟨a,b⟩:=doneL_ok ih.1 e;exact ⟨a,b.trans ih.2⟩
end MI
namespace MI
open PySem PySem.Spec PyProof.Rows L2 M
section
variable {α:Type} {enc:α→D} {p:Nat→α→Bool} {f:Nat→α→D} {t:MT} {e:ME} {rest:MEnv} {S:Store}
end
noncomputable def ixW (p:Wd→Bool) (ws:List Wd):List Nat:=(ws.zipIdx.filter fun q=>p q.1).map (·.2)
theorem mem_zi {α:Type} {xs:List α} {x:α} {i:Nat}:(x,i)∈xs.zipIdx↔xs[i]?=some x:=by
  rw [List.mem_zipIdx_iff_getElem?]
theorem mem_ixW {p:Wd→Bool} {ws:List Wd} {i:Nat}:i∈ixW p ws↔∃ w,ws[i]?=some w∧p w=true:=by
  unfold ixW
  rw [List.mem_map]
  constructor
  · rintro ⟨⟨w,j⟩,h,rfl⟩
    obtain ⟨h1,h2⟩:=List.mem_filter.mp h
    exact ⟨w,mem_zi.mp h1,h2⟩
  · rintro ⟨w,h1,h2⟩
    exact ⟨(w,i),List.mem_filter.mpr ⟨mem_zi.mpr h1,h2⟩,rfl⟩
noncomputable def nt (l:List Nat):D:=.tup (l.map ni)
theorem ixW_lst {p:Wd→Bool} {ws:List Wd}:D.lst ((ws.zipIdx.filter fun q=>p q.1).map fun q=>.int (q.2:Int))=nl (ixW p ws):=by
  unfold nl ixW ni;rw [List.map_map];rfl
noncomputable def progGw:MS:=mRet (mCall (fPure (fSeq1 .tup)) (mCons (mComp (mEnum (mCons (mOp fIxX (mVar 0) (mC (.int 0))) (mNil))) (gTupD 2 (gConsD (gSet 0) (gConsD (gSet 1) (gNilD)))) (mTest (mOp fIn (mVar 1) (mVar 2))) (mVar 0) [none,none,some 1]) (mNil)))
theorem ws_enum {ws:List Wd} {S:Store}:kEnum ([wsD ws],S)=some (enumD 0 (ws.map Wd.d),S):=rfl
theorem fIn_ws {S:Store} {w:Wd} {l:List Wd}:fIn S w.d (wsD l)=some (.bl (decide (w∈l))):=by
  rw [fIn_ok (ys:=l.map Wd.d) rfl rfl okWs]
  congr 2
  rw [List.any_map]
  induction l with
  | nil=>rfl
  | cons a l ih=>
    rw [List.any_cons,ih]
    show (eqD a.d w.d||_)=_
    rw [eqWd,Bool.eq_iff_iff]
    simp
    constructor
    · rintro (h | h)
      · exact .inl h.symm
      · exact .inr h
    · rintro (h | h)
      · exact .inl h.symm
      · exact .inr h
theorem gw_gen {N:List Str} (hN:N.length=2) {S:Store} {R:Rm} {l:List Wd} (hl:R.1.length≤100):runM N progGw 2 [rmD R,wsD l] S=some (nt (ixW (fun w=>decide (w∈l)) R.1),S):=by
  have hst:startE N [rmD R,wsD l]=[some (rmD R),some (wsD l)]:=by simp [startE,hN]
  rw [runM_eq (show [rmD R,wsD l].length=2 from rfl),hst]
  have k:=kcomp2 (S:=S) (t:=mTest (mOp fIn (mVar 1) (mVar 2))) (cap:=[none,none,some 1]) (env:=[some (rmD R),some (wsD l)]) (rest:=[some (wsD l)]) (a:=none) (b:=none) (enc:=Wd.d) (p:=fun w=>decide (w∈l)) (xs:=R.1) rfl (by omega) (fun i x _=>by simp only [mTest_s,mOp_s,mVar_s,lg0,lg1,lgS,oj,ob,kRet_s,kOp1_s,kOp2_s,fIn_ws,kTest_s])
  rw [ixW_lst (p:=fun w=>decide (w∈l))] at k
  have fs:fPure (fSeq1 .tup) [nl (ixW (fun w=>decide (w∈l)) R.1)] S=some (nt (ixW (fun w=>decide (w∈l)) R.1),S):=fSeq1_l
  simp only [progGw,mRet_s,mCall_s,mCons_s,mComp_s,mEnum_s,mOp_s,mVar_s,lg0,lg1,lgS,oj,ob,kRet_s,kOp1_s,mC_s,kOp2_s,Rm.ix0,kCons1_s,mNil_s,kCons2_s,ws_enum,k,kCall_s,fs,kRt_s,outM_rt]
noncomputable def waitD (R:Rm) (g:Nat):D:=if R.1[g]?=some .rising then .str "up" else match R.2.find? fun e=>decide (e.g=g) with
  | some e=>.str (wantS e.wr)
  | none=>.non
noncomputable def waLoop:MS:=mIfS (mTest (mOp fEq (mOp fIxX (mVar 2) (mC (.int 0))) (mVar 1))) (mRet (mOp fIxX (mVar 2) (mC (.int 1)))) (mSkip)
noncomputable def progWait (gw:PF):MS:=mSeq (mIfS (mTest (mOp fIn (mVar 1) (mCallN 2 gw (mCons (mVar 0) (mCons (mTup (mCons (mC (.str "rising")) (mNil))) (mNil)))))) (mRet (mC (.str "up"))) (mSkip)) (mSeq (mForD (mOp fIxX (mVar 0) (mC (.int 1))) (gSet 2) waLoop) (mRet (mC .non)))
noncomputable def GwOk (gw:PF):Prop:=∀ (S:Store) (R:Rm) (l:List Wd),R.1.length≤100→gw [rmD R,wsD l] S=some (nt (ixW (fun w=>decide (w∈l)) R.1),S)
theorem fIn_nt {S:Store} {g:Nat} {l:List Nat}:fIn S (.int (g:Int)) (nt l)=some (.bl (decide (g∈l))):=by
  rw [fIn_ok (ys:=l.map ni) rfl rfl (by rw [List.all_eq_true];intro d hd;obtain ⟨i,_,rfl⟩:=List.mem_map.mp hd;rfl)]
  congr 2
  rw [List.any_map]
  induction l with
  | nil=>rfl
  | cons a l ih=>
    rw [List.any_cons,ih]
    show (((a:Int) == (g:Int))||_)=_
    rw [Bool.eq_iff_iff]
    simp
    constructor
    · rintro (h | h)
      · exact .inl (by omega)
      · exact .inr h
    · rintro (h | h)
      · exact .inl (by omega)
      · exact .inr h
theorem waLoop_eq {S:Store} {R:Rm} {g:Nat}:∀ (es:List En) (a:Option D),mForL (gSet 2) waLoop (es.map En.d) [some (rmD R),some (.int (g:Int)),a] S=(match es.find? fun e=>decide (e.g=g) with | some e=>some (.rt (.str (wantS e.wr)) S) | none=>some (.nx [some (rmD R),some (.int (g:Int)),match es.getLast? with | some e=>some e.d | none=>a] S))
  | [],a=>by simp
  | e::l,a=>by
    have ih:=waLoop_eq (S:=S) (R:=R) (g:=g) l (some e.d)
    have c:((e.g:Int) == (g:Int))=decide (e.g=g):=by rw [Bool.eq_iff_iff];simp;omega
    rw [List.map_cons,mForL_cons,gSet_s,ob,lsS,lsS,ls0,kLp1_s]
    simp only [waLoop,mIfS_s,mTest_s,mOp_s,mVar_s,lg0,lg1,lgS,oj,ob,kRet_s,kOp1_s,mC_s,kOp2_s,En.ix0,fEq_ii,c,kTest_s,List.find?_cons]
    cases hd:decide (e.g=g) with
    | true=>simp only [kIfS_t,mRet_s,mOp_s,mVar_s,lg0,lg1,lgS,oj,ob,kRet_s,kOp1_s,mC_s,kOp2_s,En.ix1,kRt_s,kLp2_rt]
    | false=>
      rw [kIfS_f,mSkip_s,ob,kLp2_nx]
      show mForL (gSet 2) waLoop _ _ _=_
      rw [ih]
      cases hf:l.find? fun e=>decide (e.g=g) with
      | some x=>rfl
      | none=>
        dsimp only
        congr 4
        cases l with
        | nil=>rfl
        | cons y l=>rw [List.getLast?_cons_cons];cases hh:(y::l).getLast? with
          | none=>simp at hh
          | some z=>rfl
theorem wait_gen {gw:PF} (O:GwOk gw) {N:List Str} (hN:N.length=3) {S:Store} {R:Rm} {g:Nat} (hl:R.1.length≤100):runM N (progWait gw) 2 [rmD R,.int (g:Int)] S=some (waitD R g,S):=by
  have hst:startE N [rmD R,.int (g:Int)]=[some (rmD R),some (.int (g:Int)),none]:=by simp [startE,hN,List.replicate]
  rw [runM_eq (show [rmD R,D.int (g:Int)].length=2 from rfl),hst]
  have o1:gw [rmD R,.tup [.str "rising"]] S=some (nt (ixW (fun w=>decide (w∈[Wd.rising])) R.1),S):=O S R [.rising] hl
  have k1:kTup ([.str "rising"],S)=some (.tup [.str "rising"],S):=kTup_of (by simp)
  have mm:decide (g∈ixW (fun w=>decide (w∈[Wd.rising])) R.1)=decide (R.1[g]?=some .rising):=by
    rw [decide_eq_decide,mem_ixW]
    constructor
    · rintro ⟨w,h1,h2⟩;rw [h1];simpa using h2
    · intro h;exact ⟨.rising,h,by simp⟩
  have ek:kForD (gSet 2) waLoop [some (rmD R),some (.int (g:Int)),none] (esD R.2,S)=mForL (gSet 2) waLoop (R.2.map En.d) [some (rmD R),some (.int (g:Int)),none] S:=rfl
  simp only [progWait,mSeq_s,mIfS_s,mTest_s,mOp_s,mVar_s,lg0,lg1,lgS,oj,ob,kRet_s,kOp1_s,mCallN_s,mCons_s,kCons1_s,mTup_s,mC_s,mNil_s,kCons2_s,k1,kCallN_2,o1,kOp2_s,fIn_nt,mm,kTest_s]
  unfold waitD
  by_cases h:R.1[g]?=some .rising
  · rw [decide_eq_true h,if_pos h];simp
  · rw [decide_eq_false h,if_neg h]
    simp only [kIfS_f,mSkip_s,ob,kSeq_nx,mSeq_s,mForD_s,mOp_s,mVar_s,lg0,lg1,lgS,oj,kRet_s,kOp1_s,mC_s,kOp2_s,Rm.ix1,ek,waLoop_eq]
    cases R.2.find? fun e=>decide (e.g=g) with
    | some e=>simp
    | none=>simp
noncomputable def besideL (ws:List Wd) (g:Nat):List Wd:=(ws.zipIdx.filter fun q=>!decide (q.1=.out) && !decide (q.2=g)).map (·.1)
noncomputable def canGoB (r:Rl) (R:Rm) (g:Nat):Bool:=
  if R.1[g]?=some .rising then (besideL R.1 g).isEmpty else match R.2.find? fun e=>decide (e.g=g) with
  | none=>false
  | some e=>if e.wr then (besideL R.1 g).isEmpty else (besideL R.1 g).all (fun w=>decide (w=.reads))&&(decide (r.a=0)||decide (((besideL R.1 g).length:Int)<r.a))
noncomputable def WaitOk (wait:PF):Prop:=∀ (S:Store) (R:Rm) (g:Nat),R.1.length≤100→wait [rmD R,.int (g:Int)] S=some (waitD R g,S)
section
variable {S:Store} {R:Rm} {r:Rl} {g:Nat}
theorem boolsD_map {α:Type} {p:α→Bool}:∀ l:List α,boolsD (l.map fun x=>D.bl (p x))=some (l.map p)
  | []=>rfl
  | x::l=>by
    have:=boolsD_map (p:=p) l
    rw [List.map_cons,List.map_cons]
    simp only [boolsD,this];rfl
end
end MI
namespace MI
open PySem PySem.Spec PyProof.Rows L2 M
noncomputable def favB (w:Rw) (e:En):Bool:=match w with
  | .rows=>false
  | .readers=>!e.wr
  | _=>e.wr
noncomputable def turnB (w:Rw) (e:En):Bool:=decide (w=.turns)&&decide (e.m=1)
noncomputable def foreL (w:Rw) (es:List En):List Nat:=(es.filter (turnB w)).map (·.g)++(es.filter (favB w)).map (·.g)++es.map (·.g)
section
variable {S:Store} {es:List En} {w:Rw} {r:Rl} {R:Rm}
noncomputable def pastL (r:Rl) (R:Rm):List En→Option Nat
  | []=>none
  | e::l=>if canGoB r R e.g then some e.g else if r.b≤e.m then none else pastL r R l
noncomputable def nextB (r:Rl) (R:Rm):Option Nat:=if r.w=.passes then pastL r R R.2 else match (foreL r.w R.2).head? with
  | none=>none
  | some g=>if canGoB r R g then some g else none
end
end MI
namespace MI
open PySem PySem.Spec PyProof.Rows L2 M
section
variable {ws:List Wd} {es:List En} {r:Rl} {R:Rm} {g:Nat}
noncomputable def comeB (r:Rl) (R:Rm):Option Ev:=match (ixW (fun w=>decide (w=.rising)) R.1).find? (canGoB r R) with
  | some g=>some ⟨"steps",g⟩
  | none=>(nextB r R).map fun g=>⟨"in",g⟩
inductive Step (r:Rl) (R:Rm):Option Ev→Rm→List Ev→Prop
  | up (g:Nat) (h:R.1[g]?=some .rising):Step r R (some ⟨"steps",g⟩) (R.1.set g .raised,R.2) [⟨"steps",g⟩]
  | go (i:Nat) (e:En) (h:R.2[i]?=some e):Step r R (some ⟨"in",e.g⟩) (goIn r R i e) [⟨"in",e.g⟩]
  | no:Step r R none R []
theorem count_set {a b:Wd}:∀ {ws:List Wd} {i:Nat},ws[i]?=some a→a≠b→∀ c,(ws.set i b).count c+(if a=c then 1 else 0)=ws.count c+(if b=c then 1 else 0)
  | [],i,h,_,c=>by simp at h
  | w::l,0,h,hn,c=>by
    simp at h;subst h
    rw [List.set_cons_zero,List.count_cons,List.count_cons]
    by_cases h1:w=c <;> by_cases h2:b=c <;> simp [h1,h2] <;> omega
  | w::l,i+1,h,hn,c=>by
    have:=count_set (i:=i) (ws:=l) (by simpa using h) hn c
    rw [List.set_cons_succ,List.count_cons,List.count_cons]
    omega
end
end MI
namespace MI
open PySem PySem.Spec PyProof.Rows L2 M
section
variable {S:Store} {ws:List Wd} {es:List En} {r:Rl} {R:Rm} {g:Nat}
noncomputable def evoD:Option Ev→D
  | none=>.non
  | some v=>v.d
structure StOk (br co:PF):Prop where
  c:∀ (S:Store) (r:Rl) (R:Rm),R.1.length≤100→R.2.length≤100→co [r.d,rmD R] S=some (evoD (comeB r R),S)
  b:∀ (S:Store) (r:Rl) (R:Rm) (v:Ev) (R':Rm) (l:List Ev),ROk R→R.1.length≤50→Step r R (some v) R' l→br [r.d,rmD R,v.d] S=some (rmD R',S)
end
end MI
namespace MI
open PySem PySem.Spec PyProof.Rows L2 M
section
variable {S:Store} {r:Rl} {R:Rm}
theorem fNe_self {x:D} (h:okD 40 x=true):fNe S x x=some (.bl false):=by
  rw [fNe_ok h h,eqD_refl 40 x h];rfl
end
end MI
namespace MI
open PySem PySem.Spec PyProof.Rows L2 M
section
variable {r:Rl}
structure Calm (ws:List Wd):Prop where
  only:∀ w∈ws,w=.out∨w=.reads
  one:1≤ws.count .reads
theorem Calm.set {ws:List Wd} (c:Calm ws) {g:Nat} (hg:ws[g]?=some .out):Calm (ws.set g .reads)∧(ws.set g .reads).count .reads=ws.count .reads+1:=by
  have h:=count_set (b:=.reads) hg (by decide) .reads
  simp at h
  have:=c.one
  refine ⟨⟨fun w hw=>?_,by omega⟩,h⟩
  rcases List.mem_or_eq_of_mem_set hw with z | z
  · exact c.only w z
  · exact .inr z
end
end MI
namespace MI
open PySem PySem.Spec PyProof.Rows L2 M
section
variable {α:Type} {enc:α→D} {p:α→Bool} {f:α→D} {t:MT} {e:ME} {rest:MEnv} {S:Store} {r:Nat} {xs:List α}
end
section
variable {r:Rl} {es:List En}
end
end MI
namespace MI
open PySem PySem.Spec PyProof.Rows L2 M
noncomputable def MB (k:Nat) (es:List En):Prop:=∀ e∈es,0≤e.m∧e.m≤k∧∀ t,e.t=some t→1≤t∧t≤9
section
variable {r:Rl} {R:Rm} {k j:Nat} {es:List En}
theorem MB.mono (h:MB k es) (hk:k≤j):MB j es:=fun e he=>⟨(h e he).1,by have:=(h e he).2.1;omega,(h e he).2.2⟩
theorem MB.sub {l:List En} (h:MB k es) (hs:∀ e∈l,e∈es):MB k l:=fun e he=>h e (hs e he)
theorem MB.filter (h:MB k es) (p:En→Bool):MB k (es.filter p):=h.sub fun e he=>(List.mem_filter.mp he).1
theorem MB.app {l:List En} (h:MB k es) (h':MB k l):MB k (es++l):=fun e he=>(List.mem_append.mp he).elim (h e) (h' e)
theorem MB.up (h:MB k es):MB (k+1) (es.map (bump r)):=fun e he=>by
  obtain ⟨x,hx,rfl⟩:=List.mem_map.mp he
  obtain ⟨h1,h2,h3⟩:=h x hx
  refine ⟨?_,?_,h3⟩ <;> (show _≤_;unfold bump;dsimp only;split <;> omega)
theorem stL_mb (h:MB k R.2):MB (k+1) (stL r R).1.2:=by
  unfold stL
  split
  · exact h.mono (by omega)
  · split
    · split
      · exact MB.app (MB.up (h.sub fun e he=>List.mem_of_mem_take he)) ((h.sub fun e he=>List.mem_of_mem_drop he).mono (by omega))
      · exact h.mono (by omega)
    · exact h.mono (by omega)
theorem seL_mb:∀ (n:Nat) {R:Rm} {k:Nat},MB k R.2→MB (k+n) (seL r n R).1.2
  | 0,R,k,h=>h
  | n+1,R,k,h=>by
    have:=seL_mb n (stL_mb (r:=r) h)
    rw [show k+1+n=k+(n+1) by omega] at this
    exact this
theorem settledL_mb (h:MB k R.2):MB (k+2 * R.1.length) (settledL r R).1.2:=seL_mb _ h
theorem mkL_mb {w:Wd} (h:MB k es) (hk:1≤k):MB k (mkL r w es):=by
  unfold mkL
  split
  · intro e he
    obtain ⟨x,hx,rfl⟩:=List.mem_map.mp he
    obtain ⟨h1,h2,h3⟩:=h x hx
    split
    · exact ⟨h1,h2,h3⟩
    · exact ⟨by show (0:Int)≤1;decide,by show (1:Int)≤k;omega,h3⟩
  · exact h
theorem doneL_mb {dd:Dd} {x:Rm×List Ev} {n:Nat} (hd:dd.Ok n) (h:MB k R.2) (hx:doneL r R dd=some x):MB (k+1+2 * R.1.length) x.1.2:=by
  have h1:MB (k+1) R.2:=h.mono (by omega)
  unfold doneL at hx
  split at hx
  · cases hx
  · split at hx
    · cases hx
      refine settledL_mb (R:=(R.1,_)) ?_
      intro e he
      obtain ⟨he,ht⟩:=List.mem_filter.mp he
      obtain ⟨y,hy,rfl⟩:=List.mem_map.mp he
      obtain ⟨a1,a2,a3⟩:=h1 y hy
      refine ⟨a1,a2,fun t z=>?_⟩
      have ht':=of_decide_eq_true ht
      unfold decT at z ht'
      dsimp only at z ht'
      cases hy2:y.t with
      | none=>rw [hy2] at z;cases z
      | some u=>
        rw [hy2] at z ht'
        have:=a3 u hy2
        rw [Option.map_some] at z ht'
        cases z
        have:u - 1≠0:=fun q=>ht' (by rw [q])
        omega
    · rename_i wr g t hcan
      cases hx
      have hs:MB (k+1+2 * R.1.length) (settledL r (R.1,R.2++[askE wr g t])).1.2:=by
        refine settledL_mb (R:=(R.1,_)) (MB.app h1 ?_)
        intro e he
        rw [List.mem_singleton.mp he]
        refine ⟨Int.le_refl _,by show (0:Int)≤_;omega,fun u z=>?_⟩
        have hl:LeftOk t:=hd.2
        unfold askE at z
        dsimp only at z
        split at z
        · cases z;decide
        · rename_i hne
          have:=hl u z
          have:u≠0:=fun q=>hne (by rw [z,q])
          omega
      unfold askL
      dsimp only
      split
      · exact hs
      · split
        · exact hs.filter _
        · exact hs
    · rename_i kk g hcan
      split at hx
      · cases hx;exact h.mono (by omega)
      · split at hx
        · rename_i w hw
          cases hx
          have:=settledL_mb (r:=r) (R:=(R.1.set g (thereW kk w),actE r kk w g R.2)) (k:=k+1) (by
            show MB (k+1) (actE r kk w g R.2)
            unfold actE
            refine MB.filter ?_ _
            split
            · exact mkL_mb h1 (by omega)
            · exact h1)
          rw [show (R.1.set g (thereW kk w),actE r kk w g R.2).1.length=R.1.length by simp] at this
          exact this
        · cases hx
theorem Behind.mb {n:Nat} {l:List Dd} (h:Behind r n l R):MB (l.length * (2 * n+1)) R.2:=by
  induction h with
  | nil=>intro e he;cases he
  | snoc h hd e ih=>
    have:=doneL_mb hd ih e
    rw [h.ok.2] at this
    rw [List.length_append,List.length_singleton]
    refine this.mono ?_
    rw [Nat.add_mul]
    omega
end
end MI
namespace MI
open PySem PySem.Spec PyProof.Rows L2
open M hiding mC mVar mOp mTest mChain mTru mAndT mOrT mNotT mAnd mOr mNotV mIf mNil mCons mTup mLst mLstR mUn mPartN mPart mSlice mCall mIsI mCallN mSkip mSeq mRet mDrop mIfS gSet gNilD gConsD gTupD gSubD mAsg mRange1 mRange2 mFor mComp mItS mTrue mMeth mEnum mLenSet mPar mCnt mDict mDictR mMethD mForD mListR mCatR
theorem rangeD_ni {n:Nat}:rangeD 0 n=(List.range n).map ni:=by
  unfold rangeD ni
  refine List.map_congr_left fun i _=>?_
  rw [Int.zero_add]
section
variable {α:Type} {enc:α→D} {f:α→Nat→D} {e:ME} {mi:MA} {S:Store} {n:Nat} {c:Option D}
end
section
variable {S:Store} {n:Nat} {a:Option D}
end
theorem find_stays {es:List En} {g:Nat}:(es.find? fun e=>decide (e.g=g)).isSome=staysB es g:=by
  unfold staysB;rw [List.isSome_find?]
theorem wait_non_b {R:Rm} {g:Nat}:isD (waitD R g) .non = !(decide (R.1[g]?=some .rising)||staysB R.2 g):=by
  unfold waitD
  rw [← find_stays]
  by_cases h:R.1[g]?=some .rising
  · rw [if_pos h,decide_eq_true h];rfl
  · rw [if_neg h,decide_eq_false h]
    cases R.2.find? fun e=>decide (e.g=g) with
    | none=>rfl
    | some e=>cases e.wr <;> rfl
end MI
namespace MI
open PySem PySem.Spec PyProof.Rows L2 M
theorem cnt_sum:∀ ws:List Wd,ws.count .out+ws.count .reads+ws.count .rising+ws.count .writes+ws.count .raised=ws.length
  | []=>rfl
  | w::ws=>by
    have ih:=cnt_sum ws
    rw [List.length_cons]
    cases w <;> simp only [List.count_cons,beq_self_eq_true,if_true,show (Wd.out == Wd.reads)=false from rfl,show (Wd.out == Wd.rising)=false from rfl,show (Wd.out == Wd.writes)=false from rfl,show (Wd.out == Wd.raised)=false from rfl,show (Wd.reads == Wd.out)=false from rfl,show (Wd.reads == Wd.rising)=false from rfl,show (Wd.reads == Wd.writes)=false from rfl,show (Wd.reads == Wd.raised)=false from rfl,show (Wd.rising == Wd.out)=false from rfl,show (Wd.rising == Wd.reads)=false from rfl,show (Wd.rising == Wd.writes)=false from rfl,show (Wd.rising == Wd.raised)=false from rfl,show (Wd.writes == Wd.out)=false from rfl,show (Wd.writes == Wd.reads)=false from rfl,show (Wd.writes == Wd.rising)=false from rfl,show (Wd.writes == Wd.raised)=false from rfl,show (Wd.raised == Wd.out)=false from rfl,show (Wd.raised == Wd.reads)=false from rfl,show (Wd.raised == Wd.rising)=false from rfl,show (Wd.raised == Wd.writes)=false from rfl,Bool.false_eq_true,if_false] <;> omega
theorem cnt_set:∀ {ws:List Wd} {g:Nat} {w:Wd} (w' b:Wd),ws[g]?=some w→(ws.set g w').count b+(if w=b then 1 else 0)=ws.count b+(if w'=b then 1 else 0)
  | [],g,w,w',b,h=>by cases h
  | x::ws,0,w,w',b,h=>by
    cases h
    rw [List.set_cons_zero,List.count_cons,List.count_cons]
    simp only [beq_iff_eq]
    omega
  | x::ws,g+1,w,w',b,h=>by
    have ih:=cnt_set (ws:=ws) (g:=g) w' b h
    rw [List.set_cons_succ,List.count_cons,List.count_cons]
    omega
structure Saf (r:Rl) (ws:List Wd):Prop where
  w1:ws.count .writes+ws.count .raised≤1
  g1:ws.count .rising≤1
  al:ws.count .writes+ws.count .raised=1→ws.count .reads+ws.count .rising=0
  mo:r.a=0∨((ws.count .reads+ws.count .rising:Nat):Int)≤r.a
theorem cnt_pos {ws:List Wd} {g:Nat} {w:Wd} (h:ws[g]?=some w):1≤ws.count w:=List.count_pos_iff.mpr (List.mem_of_getElem? h)
section
variable {r:Rl} {R:Rm}
theorem cnt_all {ws:List Wd} {g:Nat} {w:Wd} (w':Wd) (h:ws[g]?=some w) :
    ((ws.set g w').count .out+(if w=.out then 1 else 0)=ws.count .out+(if w'=.out then 1 else 0))∧((ws.set g w').count .reads+(if w=.reads then 1 else 0)=ws.count .reads+(if w'=.reads then 1 else 0))∧((ws.set g w').count .rising+(if w=.rising then 1 else 0)=ws.count .rising+(if w'=.rising then 1 else 0))∧((ws.set g w').count .writes+(if w=.writes then 1 else 0)=ws.count .writes+(if w'=.writes then 1 else 0))∧((ws.set g w').count .raised+(if w=.raised then 1 else 0)=ws.count .raised+(if w'=.raised then 1 else 0)):=
  ⟨cnt_set _ _ h,cnt_set _ _ h,cnt_set _ _ h,cnt_set _ _ h,cnt_set _ _ h⟩
theorem stL_saf (h:ROk R) (s:Saf r R.1):Saf r (stL r R).1.1:=by
  obtain ⟨s1,s2,s3,s4⟩:=s
  have sm:=cnt_sum R.1
  unfold stL
  split
  · rename_i g l hg
    have hm:g∈aloneL R.1:=by rw [hg];exact List.mem_cons_self
    unfold aloneL at hm
    obtain ⟨_,hm⟩:=List.mem_filter.mp hm
    rw [Bool.and_eq_true] at hm
    have h1:=of_decide_eq_true hm.1
    have h2:=of_decide_eq_true hm.2
    have c0:=cnt_pos h1
    obtain ⟨c1,c2,c3,c4,c5⟩:=cnt_all .raised h1
    simp (decide:=true) only [if_true,if_false] at c1 c2 c3 c4 c5
    refine ⟨?_,?_,?_,?_⟩ <;> (show _;dsimp only)
    · omega
    · omega
    · intro _;omega
    · rcases s4 with s4 | s4
      · exact .inl s4
      · right;omega
  · split
    · rename_i i l hi
      split
      · rename_i e he
        have hm:i∈someL r R.1 R.2:=by rw [hi];exact List.mem_cons_self
        unfold someL at hm
        obtain ⟨_,hm⟩:=List.mem_filter.mp hm
        rw [he] at hm
        dsimp only at hm
        have ho:=h.out e (List.mem_of_getElem? he)
        unfold letB at hm
        split at hm
        · cases hm
        rename_i hlt
        unfold goIn
        dsimp only
        cases hw:e.wr with
        | true=>
          rw [hw,if_pos rfl] at hm
          have hz:=of_decide_eq_true hm
          obtain ⟨c1,c2,c3,c4,c5⟩:=cnt_all .writes ho
          simp (decide:=true) only [if_true,if_false] at c1 c2 c3 c4 c5 ⊢
          refine ⟨by omega,by omega,fun _=>by omega,?_⟩
          rcases s4 with s4 | s4
          · exact .inl s4
          · right;omega
        | false=>
          rw [hw,if_neg (by decide),Bool.and_eq_true,Bool.or_eq_true] at hm
          have hz:=of_decide_eq_true hm.1
          obtain ⟨c1,c2,c3,c4,c5⟩:=cnt_all .reads ho
          simp (decide:=true) only [if_true,if_false] at c1 c2 c3 c4 c5 ⊢
          refine ⟨by omega,by omega,fun _=>by omega,?_⟩
          rcases hm.2 with s5 | s5
          · exact .inl (of_decide_eq_true s5)
          · right;have:=of_decide_eq_true s5;omega
      · exact ⟨s1,s2,s3,s4⟩
    · exact ⟨s1,s2,s3,s4⟩
theorem seL_saf:∀ (n:Nat) {R:Rm},ROk R→Saf r R.1→Saf r (seL r n R).1.1
  | 0,R,_,s=>s
  | n+1,R,h,s=>seL_saf n (R:=(stL r R).1) (stL_ok h).1 (stL_saf h s)
theorem settledL_saf (h:ROk R) (s:Saf r R.1):Saf r (settledL r R).1.1:=seL_saf _ h s
theorem doneL_saf {dd:Dd} {x:Rm×List Ev} (h:ROk R) (ha:0≤r.a) (s:Saf r R.1) (hx:doneL r R dd=some x):Saf r x.1.1:=by
  unfold doneL at hx
  split at hx
  · cases hx
  rename_i hcan
  rw [Bool.not_eq_false] at hcan
  split at hx
  · cases hx
    exact settledL_saf (R:=(R.1,_)) ((h.mapE decT fun _=>rfl).filter _) s
  · rename_i wr g t
    cases hx
    unfold canB at hcan
    rw [Bool.and_eq_true] at hcan
    have hs:=settledL_saf (r:=r) (R:=(R.1,R.2++[askE wr g t])) (askE_ok h (of_decide_eq_true hcan.1) (by simpa using hcan.2)) s
    unfold askL
    dsimp only
    split
    · exact hs
    · split
      · exact hs
      · exact hs
  · rename_i k g
    split at hx
    · cases hx;exact s
    rename_i hup
    split at hx
    · rename_i w hw
      cases hx
      refine settledL_saf (R:=(R.1.set g (thereW k w),actE r k w g R.2)) (actE_ok h _) ?_
      show Saf r (R.1.set g (thereW k w))
      obtain ⟨s1,s2,s3,s4⟩:=s
      have sm:=cnt_sum R.1
      have c0:=cnt_pos hw
      cases k with
      | up=>
        have hr:w=.reads:=by
          have:R.1[g]?=some .reads:=of_decide_eq_true hcan
          rw [hw] at this;exact Option.some.inj this
        subst hr
        have hz:R.1.count .rising=0:=by
          rw [List.count_eq_zero]
          intro z
          exact hup ⟨rfl,.inr z⟩
        obtain ⟨c1,c2,c3,c4,c5⟩:=cnt_all .rising hw
        simp (decide:=true) only [if_true,if_false] at c1 c2 c3 c4 c5
        refine ⟨?_,?_,?_,?_⟩ <;> (show _;unfold thereW;dsimp only)
        · omega
        · omega
        · intro _;omega
        · rcases s4 with s4 | s4
          · exact .inl s4
          · right;omega
      | down=>
        have hr:w=.writes∨w=.raised:=by
          unfold canB at hcan
          rw [Bool.or_eq_true] at hcan
          rcases hcan with z | z
          · have:=of_decide_eq_true z;rw [hw] at this;exact .inl (Option.some.inj this)
          · have:=of_decide_eq_true z;rw [hw] at this;exact .inr (Option.some.inj this)
        obtain ⟨c1,c2,c3,c4,c5⟩:=cnt_all .reads hw
        have hp:1≤R.1.count .writes+R.1.count .raised:=by rcases hr with rfl | rfl <;> omega
        have q:∀ P:Prop,(w=.writes→P)→(w=.raised→P)→P:=fun P a b=>hr.elim a b
        refine q _ (fun z=>?_) (fun z=>?_) <;>
        · subst z
          simp (decide:=true) only [if_true,if_false] at c1 c2 c3 c4 c5
          refine ⟨?_,?_,?_,?_⟩ <;> (show _;unfold thereW;dsimp only)
          · omega
          · omega
          · intro _;omega
          · by_cases z:r.a=0
            · exact .inl z
            · right;omega
      | leave=>
        obtain ⟨c1,c2,c3,c4,c5⟩:=cnt_all .out hw
        cases w <;>
        · simp (decide:=true) only [if_true,if_false] at c1 c2 c3 c4 c5
          refine ⟨?_,?_,?_,?_⟩ <;> (show _;unfold thereW;dsimp only)
          · omega
          · omega
          · intro _;omega
          · rcases s4 with s4 | s4
            · exact .inl s4
            · right;omega
      | stop=>
        by_cases hr:w=.rising
        · subst hr
          obtain ⟨c1,c2,c3,c4,c5⟩:=cnt_all .reads hw
          simp (decide:=true) only [if_true,if_false] at c1 c2 c3 c4 c5
          refine ⟨?_,?_,?_,?_⟩ <;> (show _;unfold thereW;dsimp only;rw [if_pos rfl])
          · omega
          · omega
          · intro _;omega
          · rcases s4 with s4 | s4
            · exact .inl s4
            · right;omega
        · have ho:w=.out:=by
            unfold canB at hcan
            rw [Bool.or_eq_true] at hcan
            rcases hcan with z | z
            · obtain ⟨e,he,hg⟩:=List.any_eq_true.mp z
              have:=h.out e he
              rw [of_decide_eq_true hg,hw] at this
              exact Option.some.inj this
            · have:=of_decide_eq_true z;rw [hw] at this;exact absurd (Option.some.inj this) hr
          subst ho
          have:R.1.set g .out=R.1:=by
            obtain ⟨hl,e⟩:=List.getElem?_eq_some_iff.mp hw
            rw [← e];exact List.set_getElem_self hl
          show Saf r (R.1.set g .out)
          rw [this]
          exact ⟨s1,s2,s3,s4⟩
    · cases hx
theorem Behind.saf {n:Nat} {l:List Dd} (ha:0≤r.a) (h:Behind r n l R):Saf r R.1:=by
  induction h with
  | nil=>
    have:∀ w,w≠Wd.out→(List.replicate n Wd.out).count w=0:=fun w hw=>by rw [List.count_replicate];rw [if_neg (by simpa using fun z=>hw z.symm)]
    have a1:=this .reads (by decide)
    have a2:=this .rising (by decide)
    have a3:=this .writes (by decide)
    have a4:=this .raised (by decide)
    refine ⟨?_,?_,?_,?_⟩ <;> (show _;unfold emptyR;dsimp only)
    · omega
    · omega
    · intro _;omega
    · right;omega
  | snoc h hd e ih=>exact doneL_saf h.ok.1 ha ih e
end
end MI
section
set_option maxHeartbeats 4000000
namespace K05
open PySem L2 MI PyProof.Rows
open M hiding mC mVar mOp mTest mChain mTru mAndT mOrT mNotT mAnd mOr mNotV mIf mNil mCons mTup mLst mLstR mUn mPartN mPart mSlice mCall mIsI mCallN mSkip mSeq mRet mDrop mIfS gSet gNilD gConsD gTupD gSubD mAsg mRange1 mRange2 mFor mComp mItS mTrue mMeth mEnum mLenSet mPar mCnt mDict mDictR mMethD mForD mListR mCatR
def top (i:Nat):Stmt:=PySem.Challenge.pw_manyreaders_k05_whole_counts_agree.main.body.getD i (.Pass ⟨0,0,0,0⟩)
abbrev s__law_cell_at:Stmt:=top 22
abbrev s__law_far:Stmt:=top 24
abbrev s__law_left:Stmt:=top 23
abbrev s__law_pick:Stmt:=top 25
abbrev s__law_rule:Stmt:=top 26
abbrev s__law_put:Stmt:=top 30
abbrev s__law_fronts:Stmt:=top 28
abbrev s__law_lets:Stmt:=top 29
abbrev s__law_settled:Stmt:=top 31
abbrev s__law_can:Stmt:=top 32
abbrev s__law_asked:Stmt:=top 35
abbrev s__law_marked:Stmt:=top 33
abbrev s__law_done:Stmt:=top 34
abbrev s__law_deed:Stmt:=top 27
abbrev s_guests_with:Stmt:=top 18
abbrev s_readers_in:Stmt:=top 16
abbrev s_writer_in:Stmt:=top 17
abbrev s_is_tuple_of:Stmt:=top 4
abbrev s_is_word:Stmt:=top 3
abbrev s_is_within:Stmt:=top 13
abbrev s_is_whole:Stmt:=top 1
abbrev s_is_between:Stmt:=top 2
abbrev s_is_wait:Stmt:=top 15
abbrev s_are_waits:Stmt:=top 14
abbrev s_is_room:Stmt:=top 12
abbrev s_is_safe:Stmt:=top 20
abbrev s_waiting:Stmt:=top 19
abbrev s__law_room_right:Stmt:=top 36
abbrev s__law_more_right:Stmt:=top 37
abbrev s_law:Stmt:=top 38
noncomputable def c_GREATEST_LEFT:D:=(.int 9)
noncomputable def c_GREATEST_MARK:D:=(.int 999)
noncomputable def c_READING_WORDS:D:=(.tup [(.str "reads"),(.str "rising")])
noncomputable def c_WANTS:D:=(.tup [(.str "read"),(.str "write")])
noncomputable def c_WITHIN_WORDS:D:=(.tup [(.str "out"),(.str "reads"),(.str "rising"),(.str "writes"),(.str "raised")])
noncomputable def c_WRITING_WORDS:D:=(.tup [(.str "writes"),(.str "raised")])
structure Txt (w:World) (K:PySem.W.Frag) (mg:Str→Option Value):Prop where
  d__law_cell_at:DefAt K mg "_law_cell_at" s__law_cell_at
  d__law_far:DefAt K mg "_law_far" s__law_far
  d__law_left:DefAt K mg "_law_left" s__law_left
  d__law_pick:DefAt K mg "_law_pick" s__law_pick
  d__law_rule:DefAt K mg "_law_rule" s__law_rule
  d__law_put:DefAt K mg "_law_put" s__law_put
  d__law_fronts:DefAt K mg "_law_fronts" s__law_fronts
  d__law_lets:DefAt K mg "_law_lets" s__law_lets
  d__law_settled:DefAt K mg "_law_settled" s__law_settled
  d__law_can:DefAt K mg "_law_can" s__law_can
  d__law_asked:DefAt K mg "_law_asked" s__law_asked
  d__law_marked:DefAt K mg "_law_marked" s__law_marked
  d__law_done:DefAt K mg "_law_done" s__law_done
  d__law_deed:DefAt K mg "_law_deed" s__law_deed
  d_guests_with:DefAt K mg "guests_with" s_guests_with
  d_readers_in:DefAt K mg "readers_in" s_readers_in
  d_writer_in:DefAt K mg "writer_in" s_writer_in
  d_is_tuple_of:DefAt K mg "is_tuple_of" s_is_tuple_of
  d_is_word:DefAt K mg "is_word" s_is_word
  d_is_within:DefAt K mg "is_within" s_is_within
  d_is_whole:DefAt K mg "is_whole" s_is_whole
  d_is_between:DefAt K mg "is_between" s_is_between
  d_is_wait:DefAt K mg "is_wait" s_is_wait
  d_are_waits:DefAt K mg "are_waits" s_are_waits
  d_is_room:DefAt K mg "is_room" s_is_room
  d_is_safe:DefAt K mg "is_safe" s_is_safe
  d_waiting:DefAt K mg "waiting" s_waiting
  d__law_room_right:DefAt K mg "_law_room_right" s__law_room_right
  d__law_more_right:DefAt K mg "_law_more_right" s__law_more_right
  d_law:DefAt K mg "law" s_law
  z_all:mg "all" = none
  z_bool:mg "bool" = none
  z_enumerate:mg "enumerate" = none
  z_int:mg "int" = none
  z_isinstance:mg "isinstance" = none
  z_len:mg "len" = none
  z_list:mg "list" = none
  z_max:mg "max" = none
  z_min:mg "min" = none
  z_range:mg "range" = none
  z_set:mg "set" = none
  z_sorted:mg "sorted" = none
  z_str:mg "str" = none
  z_tuple:mg "tuple" = none
  g_GREATEST_LEFT:GC K mg "GREATEST_LEFT" c_GREATEST_LEFT
  g_GREATEST_MARK:GC K mg "GREATEST_MARK" c_GREATEST_MARK
  g_READING_WORDS:GC K mg "READING_WORDS" c_READING_WORDS
  g_WANTS:GC K mg "WANTS" c_WANTS
  g_WITHIN_WORDS:GC K mg "WITHIN_WORDS" c_WITHIN_WORDS
  g_WRITING_WORDS:GC K mg "WRITING_WORDS" c_WRITING_WORDS
section
variable {P:Program} {w:World} {K:PySem.W.Frag} {mg:Str→Option Value} {base:Heap}
noncomputable def N__law_cell_at:List Str:=["_law_script","_law_k"]
noncomputable def g__law_cell_at:List (Str×GI):=[("len",.blt)]
noncomputable def f__law_cell_at:=runM N__law_cell_at (evB (cOf N__law_cell_at s__law_cell_at g__law_cell_at []) (defBody s__law_cell_at)) 2
theorem nd__law_cell_at:N__law_cell_at.Nodup:=by decide +kernel
theorem sc__law_cell_at:FnScope N__law_cell_at ["_law_script","_law_k"] (defScope s__law_cell_at):=⟨rfl,rfl,rfl,nd__law_cell_at,rfl,by decide +kernel,by decide +kernel⟩
theorem ok__law_cell_at (T:Txt w K mg):Fn P w K mg base 1 "_law_cell_at" 2 f__law_cell_at:=
  def_ev T.d__law_cell_at sc__law_cell_at (fun _ _ _ _ _ _=>usS fun _=>usS fun _=>us0 rfl) (GKs.mem (gs:=g__law_cell_at) ⟨T.z_len,trivial⟩)
noncomputable def N__law_far:List Str:=["_law_far_here","_law_k"]
noncomputable def g__law_far:List (Str×GI):=[("range",.blt)]
noncomputable def f__law_far:=runM N__law_far (evB (cOf N__law_far s__law_far g__law_far []) (defBody s__law_far)) 0
theorem nd__law_far:N__law_far.Nodup:=by decide +kernel
theorem sc__law_far:FnScope N__law_far [] (defScope s__law_far):=⟨rfl,rfl,rfl,nd__law_far,rfl,by decide +kernel,by decide +kernel⟩
theorem ok__law_far (T:Txt w K mg):Fn P w K mg base 1 "_law_far" 0 f__law_far:=
  def_ev T.d__law_far sc__law_far (fun _ _ _ _ _ _=>us0 rfl) (GKs.mem (gs:=g__law_far) ⟨T.z_range,trivial⟩)
noncomputable def N__law_left:List Str:=["_law_script","_law_k","_law_cell","_law_seed"]
noncomputable def g__law_left:List (Str×GI):=[("_law_cell_at",.fn 2 f__law_cell_at),("max",.blt),("_law_far",.fn 0 f__law_far),("len",.blt)]
noncomputable def f__law_left:=runM N__law_left (evB (cOf N__law_left s__law_left g__law_left [73]) (defBody s__law_left)) 2
theorem nd__law_left:N__law_left.Nodup:=by decide +kernel
theorem sc__law_left:FnScope N__law_left ["_law_script","_law_k"] (defScope s__law_left):=⟨rfl,rfl,rfl,nd__law_left,rfl,by decide +kernel,by decide +kernel⟩
theorem ok__law_left (T:Txt w K mg):Fn P w K mg base 2 "_law_left" 2 f__law_left:=
  def_ev T.d__law_left sc__law_left (fun _ _ _ _ _ _=>usS fun _=>usS fun _=>us0 rfl) (GKs.mem (gs:=g__law_left) ⟨(ok__law_cell_at T).up (by decide),T.z_max,(ok__law_far T).up (by decide),T.z_len,trivial⟩)
noncomputable def N__law_pick:List Str:=["_law_left_here","_law_many","_law_digit"]
noncomputable def g__law_pick:List (Str×GI):=[]
noncomputable def f__law_pick:=runM N__law_pick (evB (cOf N__law_pick s__law_pick g__law_pick []) (defBody s__law_pick)) 2
theorem nd__law_pick:N__law_pick.Nodup:=by decide +kernel
theorem sc__law_pick:FnScope N__law_pick ["_law_left_here","_law_many"] (defScope s__law_pick):=⟨rfl,rfl,rfl,nd__law_pick,rfl,by decide +kernel,by decide +kernel⟩
theorem ok__law_pick (T:Txt w K mg):Fn P w K mg base 1 "_law_pick" 2 f__law_pick:=
  def_ev T.d__law_pick sc__law_pick (fun _ _ _ _ _ _=>usS fun _=>usS fun _=>us0 rfl) (GKs.mem (gs:=g__law_pick) trivial)
noncomputable def N__law_rule:List Str:=["_law_left_here","_law_word","_law_most","_law_times"]
noncomputable def g__law_rule:List (Str×GI):=[("_law_pick",.fn 2 f__law_pick),("int",.blt)]
noncomputable def f__law_rule:=runM N__law_rule (evB (cOf N__law_rule s__law_rule g__law_rule []) (defBody s__law_rule)) 1
theorem nd__law_rule:N__law_rule.Nodup:=by decide +kernel
theorem sc__law_rule:FnScope N__law_rule ["_law_left_here"] (defScope s__law_rule):=⟨rfl,rfl,rfl,nd__law_rule,rfl,by decide +kernel,by decide +kernel⟩
theorem ok__law_rule (T:Txt w K mg):Fn P w K mg base 2 "_law_rule" 1 f__law_rule:=
  def_ev T.d__law_rule sc__law_rule (fun _ _ _ _ _ _=>usS fun _=>us0 rfl) (GKs.mem (gs:=g__law_rule) ⟨(ok__law_pick T).up (by decide),T.z_int,trivial⟩)
noncomputable def N__law_put:List Str:=["_law_within","_law_guest","_law_word"]
noncomputable def g__law_put:List (Str×GI):=[]
noncomputable def f__law_put:=runM N__law_put (evB (cOf N__law_put s__law_put g__law_put []) (defBody s__law_put)) 3
theorem nd__law_put:N__law_put.Nodup:=by decide +kernel
theorem sc__law_put:FnScope N__law_put ["_law_within","_law_guest","_law_word"] (defScope s__law_put):=⟨rfl,rfl,rfl,nd__law_put,rfl,by decide +kernel,by decide +kernel⟩
theorem ok__law_put (T:Txt w K mg):Fn P w K mg base 1 "_law_put" 3 f__law_put:=
  def_ev T.d__law_put sc__law_put (fun _ _ _ _ _ _=>usS fun _=>usS fun _=>usS fun _=>us0 rfl) (GKs.mem (gs:=g__law_put) trivial)
noncomputable def N__law_fronts:List Str:=["_law_rule_here","_law_waits","_law_reading","_law_writing","_law_tagged"]
noncomputable def g__law_fronts:List (Str×GI):=[("enumerate",.blt),("list",.blt),("range",.blt),("len",.blt),("max",.blt)]
noncomputable def f__law_fronts:=runM N__law_fronts (evB (cOf N__law_fronts s__law_fronts g__law_fronts []) (defBody s__law_fronts)) 2
theorem nd__law_fronts:N__law_fronts.Nodup:=by decide +kernel
theorem sc__law_fronts:FnScope N__law_fronts ["_law_rule_here","_law_waits"] (defScope s__law_fronts):=⟨rfl,rfl,rfl,nd__law_fronts,rfl,by decide +kernel,by decide +kernel⟩
theorem ok__law_fronts (T:Txt w K mg):Fn P w K mg base 1 "_law_fronts" 2 f__law_fronts:=
  def_ev T.d__law_fronts sc__law_fronts (fun _ _ _ _ _ _=>usS fun _=>usS fun _=>us0 rfl) (GKs.mem (gs:=g__law_fronts) ⟨T.z_enumerate,T.z_list,T.z_range,T.z_len,T.z_max,trivial⟩)
noncomputable def N__law_lets:List Str:=["_law_rule_here","_law_within","_law_want","_law_reading"]
noncomputable def g__law_lets:List (Str×GI):=[("len",.blt)]
noncomputable def f__law_lets:=runM N__law_lets (evB (cOf N__law_lets s__law_lets g__law_lets []) (defBody s__law_lets)) 3
theorem nd__law_lets:N__law_lets.Nodup:=by decide +kernel
theorem sc__law_lets:FnScope N__law_lets ["_law_rule_here","_law_within","_law_want"] (defScope s__law_lets):=⟨rfl,rfl,rfl,nd__law_lets,rfl,by decide +kernel,by decide +kernel⟩
theorem ok__law_lets (T:Txt w K mg):Fn P w K mg base 1 "_law_lets" 3 f__law_lets:=
  def_ev T.d__law_lets sc__law_lets (fun _ _ _ _ _ _=>usS fun _=>usS fun _=>usS fun _=>us0 rfl) (GKs.mem (gs:=g__law_lets) ⟨T.z_len,trivial⟩)
noncomputable def N__law_settled:List Str:=["_law_rule_here","_law_room","_law_within","_law_waits","_law_events","_law_turn","_law_alone","_law_some","_law_guest","_law_want","_law_mark","_law_rest","_law_ahead"]
noncomputable def g__law_settled:List (Str×GI):=[("range",.blt),("len",.blt),("_law_put",.fn 3 f__law_put),("_law_fronts",.fn 2 f__law_fronts),("_law_lets",.fn 3 f__law_lets),("tuple",.blt),("int",.blt)]
noncomputable def f__law_settled:=runM N__law_settled (evB (cOf N__law_settled s__law_settled g__law_settled [122]) (defBody s__law_settled)) 2
theorem nd__law_settled:N__law_settled.Nodup:=by decide +kernel
theorem sc__law_settled:FnScope N__law_settled ["_law_rule_here","_law_room"] (defScope s__law_settled):=⟨rfl,rfl,rfl,nd__law_settled,rfl,by decide +kernel,by decide +kernel⟩
theorem ok__law_settled (T:Txt w K mg):Fn P w K mg base 2 "_law_settled" 2 f__law_settled:=
  def_ev T.d__law_settled sc__law_settled (fun _ _ _ _ _ _=>usS fun _=>usS fun _=>us0 rfl) (GKs.mem (gs:=g__law_settled) ⟨T.z_range,T.z_len,(ok__law_put T).up (by decide),(ok__law_fronts T).up (by decide),(ok__law_lets T).up (by decide),T.z_tuple,T.z_int,trivial⟩)
noncomputable def N__law_can:List Str:=["_law_room","_law_deed_here","_law_within","_law_waits","_law_here","_law_stays","_law_fits"]
noncomputable def g__law_can:List (Str×GI):=[]
noncomputable def f__law_can:=runM N__law_can (evB (cOf N__law_can s__law_can g__law_can [142]) (defBody s__law_can)) 2
theorem nd__law_can:N__law_can.Nodup:=by decide +kernel
theorem sc__law_can:FnScope N__law_can ["_law_room","_law_deed_here"] (defScope s__law_can):=⟨rfl,rfl,rfl,nd__law_can,rfl,by decide +kernel,by decide +kernel⟩
theorem ok__law_can (T:Txt w K mg):Fn P w K mg base 1 "_law_can" 2 f__law_can:=
  def_ev T.d__law_can sc__law_can (fun _ _ _ _ _ _=>usS fun _=>usS fun _=>us0 rfl) (GKs.mem (gs:=g__law_can) trivial)
noncomputable def N__law_asked:List Str:=["_law_rule_here","_law_room","_law_deed_here","_law_word","_law_guest","_law_rest","_law_entry","_law_events"]
noncomputable def g__law_asked:List (Str×GI):=[("_law_settled",.fn 2 f__law_settled),("tuple",.blt)]
noncomputable def f__law_asked:=runM N__law_asked (evB (cOf N__law_asked s__law_asked g__law_asked []) (defBody s__law_asked)) 3
theorem nd__law_asked:N__law_asked.Nodup:=by decide +kernel
theorem sc__law_asked:FnScope N__law_asked ["_law_rule_here","_law_room","_law_deed_here"] (defScope s__law_asked):=⟨rfl,rfl,rfl,nd__law_asked,rfl,by decide +kernel,by decide +kernel⟩
theorem ok__law_asked (T:Txt w K mg):Fn P w K mg base 3 "_law_asked" 3 f__law_asked:=
  def_ev T.d__law_asked sc__law_asked (fun _ _ _ _ _ _=>usS fun _=>usS fun _=>usS fun _=>us0 rfl) (GKs.mem (gs:=g__law_asked) ⟨(ok__law_settled T).up (by decide),T.z_tuple,trivial⟩)
noncomputable def N__law_marked:List Str:=["_law_rule_here","_law_here","_law_waits"]
noncomputable def g__law_marked:List (Str×GI):=[("tuple",.blt)]
noncomputable def f__law_marked:=runM N__law_marked (evB (cOf N__law_marked s__law_marked g__law_marked []) (defBody s__law_marked)) 3
theorem nd__law_marked:N__law_marked.Nodup:=by decide +kernel
theorem sc__law_marked:FnScope N__law_marked ["_law_rule_here","_law_here","_law_waits"] (defScope s__law_marked):=⟨rfl,rfl,rfl,nd__law_marked,rfl,by decide +kernel,by decide +kernel⟩
theorem ok__law_marked (T:Txt w K mg):Fn P w K mg base 1 "_law_marked" 3 f__law_marked:=
  def_ev T.d__law_marked sc__law_marked (fun _ _ _ _ _ _=>usS fun _=>usS fun _=>usS fun _=>us0 rfl) (GKs.mem (gs:=g__law_marked) ⟨T.z_tuple,trivial⟩)
noncomputable def N__law_done:List Str:=["_law_rule_here","_law_room","_law_deed_here","_law_within","_law_waits","_law_fewer","_law_gone","_law_events","_law_word","_law_guest","_law_here","_law_first","_law_there","_law_more"]
noncomputable def g__law_done:List (Str×GI):=[("tuple",.blt),("_law_settled",.fn 2 f__law_settled),("_law_can",.fn 2 f__law_can),("_law_asked",.fn 3 f__law_asked),("int",.blt),("_law_marked",.fn 3 f__law_marked),("_law_put",.fn 3 f__law_put)]
noncomputable def f__law_done:=runM N__law_done (evB (cOf N__law_done s__law_done g__law_done []) (defBody s__law_done)) 3
theorem nd__law_done:N__law_done.Nodup:=by decide +kernel
theorem sc__law_done:FnScope N__law_done ["_law_rule_here","_law_room","_law_deed_here"] (defScope s__law_done):=⟨rfl,rfl,rfl,nd__law_done,rfl,by decide +kernel,by decide +kernel⟩
theorem ok__law_done (T:Txt w K mg):Fn P w K mg base 4 "_law_done" 3 f__law_done:=
  def_ev T.d__law_done sc__law_done (fun _ _ _ _ _ _=>usS fun _=>usS fun _=>usS fun _=>us0 rfl) (GKs.mem (gs:=g__law_done) ⟨T.z_tuple,(ok__law_settled T).up (by decide),(ok__law_can T).up (by decide),(ok__law_asked T).up (by decide),T.z_int,(ok__law_marked T).up (by decide),(ok__law_put T).up (by decide),trivial⟩)
noncomputable def N__law_deed:List Str:=["_law_left_here","_law_n","_law_guest","_law_way"]
noncomputable def g__law_deed:List (Str×GI):=[("_law_pick",.fn 2 f__law_pick)]
noncomputable def f__law_deed:=runM N__law_deed (evB (cOf N__law_deed s__law_deed g__law_deed []) (defBody s__law_deed)) 2
theorem nd__law_deed:N__law_deed.Nodup:=by decide +kernel
theorem sc__law_deed:FnScope N__law_deed ["_law_left_here","_law_n"] (defScope s__law_deed):=⟨rfl,rfl,rfl,nd__law_deed,rfl,by decide +kernel,by decide +kernel⟩
theorem ok__law_deed (T:Txt w K mg):Fn P w K mg base 2 "_law_deed" 2 f__law_deed:=
  def_ev T.d__law_deed sc__law_deed (fun _ _ _ _ _ _=>usS fun _=>usS fun _=>us0 rfl) (GKs.mem (gs:=g__law_deed) ⟨(ok__law_pick T).up (by decide),trivial⟩)
noncomputable def N_guests_with:List Str:=["room","words"]
noncomputable def g_guests_with:List (Str×GI):=[("tuple",.blt),("enumerate",.blt)]
noncomputable def f_guests_with:=runM N_guests_with (evB (cOf N_guests_with s_guests_with g_guests_with []) (defBody s_guests_with)) 2
theorem nd_guests_with:N_guests_with.Nodup:=by decide +kernel
theorem sc_guests_with:FnScope N_guests_with ["room","words"] (defScope s_guests_with):=⟨rfl,rfl,rfl,nd_guests_with,rfl,by decide +kernel,by decide +kernel⟩
theorem ok_guests_with (T:Txt w K mg):Fn P w K mg base 1 "guests_with" 2 f_guests_with:=
  def_ev T.d_guests_with sc_guests_with (fun _ _ _ _ _ _=>usS fun _=>usS fun _=>us0 rfl) (GKs.mem (gs:=g_guests_with) ⟨T.z_tuple,T.z_enumerate,trivial⟩)
noncomputable def N_readers_in:List Str:=["room"]
noncomputable def g_readers_in:List (Str×GI):=[("guests_with",.fn 2 f_guests_with),("READING_WORDS",.con c_READING_WORDS)]
noncomputable def f_readers_in:=runM N_readers_in (evB (cOf N_readers_in s_readers_in g_readers_in []) (defBody s_readers_in)) 1
theorem nd_readers_in:N_readers_in.Nodup:=by decide +kernel
theorem sc_readers_in:FnScope N_readers_in ["room"] (defScope s_readers_in):=⟨rfl,rfl,rfl,nd_readers_in,rfl,by decide +kernel,by decide +kernel⟩
theorem ok_readers_in (T:Txt w K mg):Fn P w K mg base 2 "readers_in" 1 f_readers_in:=
  def_ev T.d_readers_in sc_readers_in (fun _ _ _ _ _ _=>usS fun _=>us0 rfl) (GKs.mem (gs:=g_readers_in) ⟨(ok_guests_with T).up (by decide),T.g_READING_WORDS,trivial⟩)
noncomputable def N_writer_in:List Str:=["room","writers"]
noncomputable def g_writer_in:List (Str×GI):=[("guests_with",.fn 2 f_guests_with),("WRITING_WORDS",.con c_WRITING_WORDS)]
noncomputable def f_writer_in:=runM N_writer_in (evB (cOf N_writer_in s_writer_in g_writer_in []) (defBody s_writer_in)) 1
theorem nd_writer_in:N_writer_in.Nodup:=by decide +kernel
theorem sc_writer_in:FnScope N_writer_in ["room"] (defScope s_writer_in):=⟨rfl,rfl,rfl,nd_writer_in,rfl,by decide +kernel,by decide +kernel⟩
theorem ok_writer_in (T:Txt w K mg):Fn P w K mg base 2 "writer_in" 1 f_writer_in:=
  def_ev T.d_writer_in sc_writer_in (fun _ _ _ _ _ _=>usS fun _=>us0 rfl) (GKs.mem (gs:=g_writer_in) ⟨(ok_guests_with T).up (by decide),T.g_WRITING_WORDS,trivial⟩)
noncomputable def N_is_tuple_of:List Str:=["thing","many"]
noncomputable def g_is_tuple_of:List (Str×GI):=[("isinstance",.blt),("tuple",.blt),("len",.blt)]
noncomputable def f_is_tuple_of:=runM N_is_tuple_of (evB (cOf N_is_tuple_of s_is_tuple_of g_is_tuple_of []) (defBody s_is_tuple_of)) 2
theorem nd_is_tuple_of:N_is_tuple_of.Nodup:=by decide +kernel
theorem sc_is_tuple_of:FnScope N_is_tuple_of ["thing","many"] (defScope s_is_tuple_of):=⟨rfl,rfl,rfl,nd_is_tuple_of,rfl,by decide +kernel,by decide +kernel⟩
theorem ok_is_tuple_of (T:Txt w K mg):Fn P w K mg base 1 "is_tuple_of" 2 f_is_tuple_of:=
  def_ev T.d_is_tuple_of sc_is_tuple_of (fun _ _ _ _ _ _=>usS fun _=>usS fun _=>us0 rfl) (GKs.mem (gs:=g_is_tuple_of) ⟨T.z_isinstance,T.z_tuple,T.z_len,trivial⟩)
noncomputable def N_is_word:List Str:=["thing","words"]
noncomputable def g_is_word:List (Str×GI):=[("isinstance",.blt),("str",.blt)]
noncomputable def f_is_word:=runM N_is_word (evB (cOf N_is_word s_is_word g_is_word []) (defBody s_is_word)) 2
theorem nd_is_word:N_is_word.Nodup:=by decide +kernel
theorem sc_is_word:FnScope N_is_word ["thing","words"] (defScope s_is_word):=⟨rfl,rfl,rfl,nd_is_word,rfl,by decide +kernel,by decide +kernel⟩
theorem ok_is_word (T:Txt w K mg):Fn P w K mg base 1 "is_word" 2 f_is_word:=
  def_ev T.d_is_word sc_is_word (fun _ _ _ _ _ _=>usS fun _=>usS fun _=>us0 rfl) (GKs.mem (gs:=g_is_word) ⟨T.z_isinstance,T.z_str,trivial⟩)
noncomputable def N_is_within:List Str:=["n","thing"]
noncomputable def g_is_within:List (Str×GI):=[("is_tuple_of",.fn 2 f_is_tuple_of),("all",.blt),("is_word",.fn 2 f_is_word),("WITHIN_WORDS",.con c_WITHIN_WORDS)]
noncomputable def f_is_within:=runM N_is_within (evB (cOf N_is_within s_is_within g_is_within []) (defBody s_is_within)) 2
theorem nd_is_within:N_is_within.Nodup:=by decide +kernel
theorem sc_is_within:FnScope N_is_within ["n","thing"] (defScope s_is_within):=⟨rfl,rfl,rfl,nd_is_within,rfl,by decide +kernel,by decide +kernel⟩
theorem ok_is_within (T:Txt w K mg):Fn P w K mg base 2 "is_within" 2 f_is_within:=
  def_ev T.d_is_within sc_is_within (fun _ _ _ _ _ _=>usS fun _=>usS fun _=>us0 rfl) (GKs.mem (gs:=g_is_within) ⟨(ok_is_tuple_of T).up (by decide),T.z_all,(ok_is_word T).up (by decide),T.g_WITHIN_WORDS,trivial⟩)
noncomputable def N_is_whole:List Str:=["thing"]
noncomputable def g_is_whole:List (Str×GI):=[("isinstance",.blt),("int",.blt),("bool",.blt)]
noncomputable def f_is_whole:=runM N_is_whole (evB (cOf N_is_whole s_is_whole g_is_whole []) (defBody s_is_whole)) 1
theorem nd_is_whole:N_is_whole.Nodup:=by decide +kernel
theorem sc_is_whole:FnScope N_is_whole ["thing"] (defScope s_is_whole):=⟨rfl,rfl,rfl,nd_is_whole,rfl,by decide +kernel,by decide +kernel⟩
theorem ok_is_whole (T:Txt w K mg):Fn P w K mg base 1 "is_whole" 1 f_is_whole:=
  def_ev T.d_is_whole sc_is_whole (fun _ _ _ _ _ _=>usS fun _=>us0 rfl) (GKs.mem (gs:=g_is_whole) ⟨T.z_isinstance,T.z_int,T.z_bool,trivial⟩)
noncomputable def N_is_between:List Str:=["thing","low","high"]
noncomputable def g_is_between:List (Str×GI):=[("is_whole",.fn 1 f_is_whole)]
noncomputable def f_is_between:=runM N_is_between (evB (cOf N_is_between s_is_between g_is_between []) (defBody s_is_between)) 3
theorem nd_is_between:N_is_between.Nodup:=by decide +kernel
theorem sc_is_between:FnScope N_is_between ["thing","low","high"] (defScope s_is_between):=⟨rfl,rfl,rfl,nd_is_between,rfl,by decide +kernel,by decide +kernel⟩
theorem ok_is_between (T:Txt w K mg):Fn P w K mg base 2 "is_between" 3 f_is_between:=
  def_ev T.d_is_between sc_is_between (fun _ _ _ _ _ _=>usS fun _=>usS fun _=>usS fun _=>us0 rfl) (GKs.mem (gs:=g_is_between) ⟨(ok_is_whole T).up (by decide),trivial⟩)
noncomputable def N_is_wait:List Str:=["within","thing","guest","want","mark","left"]
noncomputable def g_is_wait:List (Str×GI):=[("is_tuple_of",.fn 2 f_is_tuple_of),("is_between",.fn 3 f_is_between),("GREATEST_LEFT",.con c_GREATEST_LEFT),("is_word",.fn 2 f_is_word),("WANTS",.con c_WANTS),("GREATEST_MARK",.con c_GREATEST_MARK),("len",.blt)]
noncomputable def f_is_wait:=runM N_is_wait (evB (cOf N_is_wait s_is_wait g_is_wait []) (defBody s_is_wait)) 2
theorem nd_is_wait:N_is_wait.Nodup:=by decide +kernel
theorem sc_is_wait:FnScope N_is_wait ["within","thing"] (defScope s_is_wait):=⟨rfl,rfl,rfl,nd_is_wait,rfl,by decide +kernel,by decide +kernel⟩
theorem ok_is_wait (T:Txt w K mg):Fn P w K mg base 3 "is_wait" 2 f_is_wait:=
  def_ev T.d_is_wait sc_is_wait (fun _ _ _ _ _ _=>usS fun _=>usS fun _=>us0 rfl) (GKs.mem (gs:=g_is_wait) ⟨(ok_is_tuple_of T).up (by decide),(ok_is_between T).up (by decide),T.g_GREATEST_LEFT,(ok_is_word T).up (by decide),T.g_WANTS,T.g_GREATEST_MARK,T.z_len,trivial⟩)
noncomputable def N_are_waits:List Str:=["within","thing","guests"]
noncomputable def g_are_waits:List (Str×GI):=[("len",.blt),("isinstance",.blt),("tuple",.blt),("all",.blt),("set",.blt),("is_wait",.fn 2 f_is_wait)]
noncomputable def f_are_waits:=runM N_are_waits (evB (cOf N_are_waits s_are_waits g_are_waits []) (defBody s_are_waits)) 2
theorem nd_are_waits:N_are_waits.Nodup:=by decide +kernel
theorem sc_are_waits:FnScope N_are_waits ["within","thing"] (defScope s_are_waits):=⟨rfl,rfl,rfl,nd_are_waits,rfl,by decide +kernel,by decide +kernel⟩
theorem ok_are_waits (T:Txt w K mg):Fn P w K mg base 4 "are_waits" 2 f_are_waits:=
  def_ev T.d_are_waits sc_are_waits (fun _ _ _ _ _ _=>usS fun _=>usS fun _=>us0 rfl) (GKs.mem (gs:=g_are_waits) ⟨T.z_len,T.z_isinstance,T.z_tuple,T.z_all,T.z_set,(ok_is_wait T).up (by decide),trivial⟩)
noncomputable def N_is_room:List Str:=["n","thing","within","waits"]
noncomputable def g_is_room:List (Str×GI):=[("is_tuple_of",.fn 2 f_is_tuple_of),("is_within",.fn 2 f_is_within),("are_waits",.fn 2 f_are_waits)]
noncomputable def f_is_room:=runM N_is_room (evB (cOf N_is_room s_is_room g_is_room []) (defBody s_is_room)) 2
theorem nd_is_room:N_is_room.Nodup:=by decide +kernel
theorem sc_is_room:FnScope N_is_room ["n","thing"] (defScope s_is_room):=⟨rfl,rfl,rfl,nd_is_room,rfl,by decide +kernel,by decide +kernel⟩
theorem ok_is_room (T:Txt w K mg):Fn P w K mg base 5 "is_room" 2 f_is_room:=
  def_ev T.d_is_room sc_is_room (fun _ _ _ _ _ _=>usS fun _=>usS fun _=>us0 rfl) (GKs.mem (gs:=g_is_room) ⟨(ok_is_tuple_of T).up (by decide),(ok_is_within T).up (by decide),(ok_are_waits T).up (by decide),trivial⟩)
noncomputable def N_is_safe:List Str:=["rule","room","most","readers","writers","rising"]
noncomputable def g_is_safe:List (Str×GI):=[("len",.blt),("readers_in",.fn 1 f_readers_in),("guests_with",.fn 2 f_guests_with),("WRITING_WORDS",.con c_WRITING_WORDS)]
noncomputable def f_is_safe:=runM N_is_safe (evB (cOf N_is_safe s_is_safe g_is_safe []) (defBody s_is_safe)) 2
theorem nd_is_safe:N_is_safe.Nodup:=by decide +kernel
theorem sc_is_safe:FnScope N_is_safe ["rule","room"] (defScope s_is_safe):=⟨rfl,rfl,rfl,nd_is_safe,rfl,by decide +kernel,by decide +kernel⟩
theorem ok_is_safe (T:Txt w K mg):Fn P w K mg base 3 "is_safe" 2 f_is_safe:=
  def_ev T.d_is_safe sc_is_safe (fun _ _ _ _ _ _=>usS fun _=>usS fun _=>us0 rfl) (GKs.mem (gs:=g_is_safe) ⟨T.z_len,(ok_readers_in T).up (by decide),(ok_guests_with T).up (by decide),T.g_WRITING_WORDS,trivial⟩)
noncomputable def N_waiting:List Str:=["room","guest","entry"]
noncomputable def g_waiting:List (Str×GI):=[("guests_with",.fn 2 f_guests_with)]
noncomputable def f_waiting:=runM N_waiting (evB (cOf N_waiting s_waiting g_waiting []) (defBody s_waiting)) 2
theorem nd_waiting:N_waiting.Nodup:=by decide +kernel
theorem sc_waiting:FnScope N_waiting ["room","guest"] (defScope s_waiting):=⟨rfl,rfl,rfl,nd_waiting,rfl,by decide +kernel,by decide +kernel⟩
theorem ok_waiting (T:Txt w K mg):Fn P w K mg base 2 "waiting" 2 f_waiting:=
  def_ev T.d_waiting sc_waiting (fun _ _ _ _ _ _=>usS fun _=>usS fun _=>us0 rfl) (GKs.mem (gs:=g_waiting) ⟨(ok_guests_with T).up (by decide),trivial⟩)
noncomputable def N__law_room_right:List Str:=["_law_rule_here","_law_n","_law_room","_law_reading","_law_writing","_law_asking","_law_calm","_law_some"]
noncomputable def g__law_room_right:List (Str×GI):=[("readers_in",.fn 1 f_readers_in),("writer_in",.fn 1 f_writer_in),("sorted",.blt),("list",.blt),("is_room",.fn 2 f_is_room),("is_safe",.fn 2 f_is_safe),("range",.blt),("len",.blt),("waiting",.fn 2 f_waiting)]
noncomputable def f__law_room_right:=runM N__law_room_right (evB (cOf N__law_room_right s__law_room_right g__law_room_right [700187]) (defBody s__law_room_right)) 3
theorem nd__law_room_right:N__law_room_right.Nodup:=by decide +kernel
theorem sc__law_room_right:FnScope N__law_room_right ["_law_rule_here","_law_n","_law_room"] (defScope s__law_room_right):=⟨rfl,rfl,rfl,nd__law_room_right,rfl,by decide +kernel,by decide +kernel⟩
theorem ok__law_room_right (T:Txt w K mg):Fn P w K mg base 6 "_law_room_right" 3 f__law_room_right:=
  def_ev T.d__law_room_right sc__law_room_right (fun _ _ _ _ _ _=>usS fun _=>usS fun _=>usS fun _=>us0 rfl) (GKs.mem (gs:=g__law_room_right) ⟨(ok_readers_in T).up (by decide),(ok_writer_in T).up (by decide),T.z_sorted,T.z_list,(ok_is_room T).up (by decide),(ok_is_safe T).up (by decide),T.z_range,T.z_len,(ok_waiting T).up (by decide),trivial⟩)
noncomputable def N__law_more_right:List Str:=["_law_rule_here","_law_n","_law_room","_law_within","_law_waits","_law_guest","_law_entry","_law_there"]
noncomputable def g__law_more_right:List (Str×GI):=[("range",.blt),("waiting",.fn 2 f_waiting),("is_room",.fn 2 f_is_room),("writer_in",.fn 1 f_writer_in),("is_safe",.fn 2 f_is_safe)]
noncomputable def f__law_more_right:=runM N__law_more_right (evB (cOf N__law_more_right s__law_more_right g__law_more_right []) (defBody s__law_more_right)) 3
theorem nd__law_more_right:N__law_more_right.Nodup:=by decide +kernel
theorem sc__law_more_right:FnScope N__law_more_right ["_law_rule_here","_law_n","_law_room"] (defScope s__law_more_right):=⟨rfl,rfl,rfl,nd__law_more_right,rfl,by decide +kernel,by decide +kernel⟩
theorem ok__law_more_right (T:Txt w K mg):Fn P w K mg base 6 "_law_more_right" 3 f__law_more_right:=
  def_ev T.d__law_more_right sc__law_more_right (fun _ _ _ _ _ _=>usS fun _=>usS fun _=>usS fun _=>us0 rfl) (GKs.mem (gs:=g__law_more_right) ⟨T.z_range,(ok_waiting T).up (by decide),(ok_is_room T).up (by decide),(ok_writer_in T).up (by decide),(ok_is_safe T).up (by decide),trivial⟩)
noncomputable def N_law:List Str:=["_law_script","_law_k","_law_left_here","_law_rule_here","_law_n","_law_room","_law_turn","_law_behind"]
noncomputable def g_law:List (Str×GI):=[("range",.blt),("_law_left",.fn 2 f__law_left),("min",.blt),("_law_rule",.fn 1 f__law_rule),("_law_done",.fn 3 f__law_done),("len",.blt),("_law_pick",.fn 2 f__law_pick),("_law_deed",.fn 2 f__law_deed),("_law_room_right",.fn 3 f__law_room_right),("_law_more_right",.fn 3 f__law_more_right)]
noncomputable def f_law:=runM N_law (evB (cOf N_law s_law g_law []) (defBody s_law)) 1
theorem nd_law:N_law.Nodup:=by decide +kernel
theorem sc_law:FnScope N_law ["_law_script"] (defScope s_law):=⟨rfl,rfl,rfl,nd_law,rfl,by decide +kernel,by decide +kernel⟩
theorem gk_law (T:Txt w K mg):GKs P w K mg base 6 g_law:=⟨T.z_range,(ok__law_left T).up (by decide),T.z_min,(ok__law_rule T).up (by decide),(ok__law_done T).up (by decide),T.z_len,(ok__law_pick T).up (by decide),(ok__law_deed T).up (by decide),(ok__law_room_right T).up (by decide),(ok__law_more_right T).up (by decide),trivial⟩
end
theorem txt_mk {w:World} {K:PySem.W.Frag} {h:Heap} {mg:Str→Option Value} (X:K.In h) (G:h.Ns mainGlobals mg)
    {f0:Addr} {od0 an0:Option Addr} {sl0:Array (Option Value)} {oc0 kV0 dc0 pm0 cd0 ct0:Value}
    {f1:Addr} {od1 an1:Option Addr} {sl1:Array (Option Value)} {oc1 kV1 dc1 pm1 cd1 ct1:Value}
    {f2:Addr} {od2 an2:Option Addr} {sl2:Array (Option Value)} {oc2 kV2 dc2 pm2 cd2 ct2:Value}
    {f3:Addr} {od3 an3:Option Addr} {sl3:Array (Option Value)} {oc3 kV3 dc3 pm3 cd3 ct3:Value}
    {f4:Addr} {od4 an4:Option Addr} {sl4:Array (Option Value)} {oc4 kV4 dc4 pm4 cd4 ct4:Value}
    {f5:Addr} {od5 an5:Option Addr} {sl5:Array (Option Value)} {oc5 kV5 dc5 pm5 cd5 ct5:Value}
    {f6:Addr} {od6 an6:Option Addr} {sl6:Array (Option Value)} {oc6 kV6 dc6 pm6 cd6 ct6:Value}
    {f7:Addr} {od7 an7:Option Addr} {sl7:Array (Option Value)} {oc7 kV7 dc7 pm7 cd7 ct7:Value}
    {f8:Addr} {od8 an8:Option Addr} {sl8:Array (Option Value)} {oc8 kV8 dc8 pm8 cd8 ct8:Value}
    {f9:Addr} {od9 an9:Option Addr} {sl9:Array (Option Value)} {oc9 kV9 dc9 pm9 cd9 ct9:Value}
    {f10:Addr} {od10 an10:Option Addr} {sl10:Array (Option Value)} {oc10 kV10 dc10 pm10 cd10 ct10:Value}
    {f11:Addr} {od11 an11:Option Addr} {sl11:Array (Option Value)} {oc11 kV11 dc11 pm11 cd11 ct11:Value}
    {f12:Addr} {od12 an12:Option Addr} {sl12:Array (Option Value)} {oc12 kV12 dc12 pm12 cd12 ct12:Value}
    {f13:Addr} {od13 an13:Option Addr} {sl13:Array (Option Value)} {oc13 kV13 dc13 pm13 cd13 ct13:Value}
    {f14:Addr} {od14 an14:Option Addr} {sl14:Array (Option Value)} {oc14 kV14 dc14 pm14 cd14 ct14:Value}
    {f15:Addr} {od15 an15:Option Addr} {sl15:Array (Option Value)} {oc15 kV15 dc15 pm15 cd15 ct15:Value}
    {f16:Addr} {od16 an16:Option Addr} {sl16:Array (Option Value)} {oc16 kV16 dc16 pm16 cd16 ct16:Value}
    {f17:Addr} {od17 an17:Option Addr} {sl17:Array (Option Value)} {oc17 kV17 dc17 pm17 cd17 ct17:Value}
    {f18:Addr} {od18 an18:Option Addr} {sl18:Array (Option Value)} {oc18 kV18 dc18 pm18 cd18 ct18:Value}
    {f19:Addr} {od19 an19:Option Addr} {sl19:Array (Option Value)} {oc19 kV19 dc19 pm19 cd19 ct19:Value}
    {f20:Addr} {od20 an20:Option Addr} {sl20:Array (Option Value)} {oc20 kV20 dc20 pm20 cd20 ct20:Value}
    {f21:Addr} {od21 an21:Option Addr} {sl21:Array (Option Value)} {oc21 kV21 dc21 pm21 cd21 ct21:Value}
    {f22:Addr} {od22 an22:Option Addr} {sl22:Array (Option Value)} {oc22 kV22 dc22 pm22 cd22 ct22:Value}
    {f23:Addr} {od23 an23:Option Addr} {sl23:Array (Option Value)} {oc23 kV23 dc23 pm23 cd23 ct23:Value}
    {f24:Addr} {od24 an24:Option Addr} {sl24:Array (Option Value)} {oc24 kV24 dc24 pm24 cd24 ct24:Value}
    {f25:Addr} {od25 an25:Option Addr} {sl25:Array (Option Value)} {oc25 kV25 dc25 pm25 cd25 ct25:Value}
    {f26:Addr} {od26 an26:Option Addr} {sl26:Array (Option Value)} {oc26 kV26 dc26 pm26 cd26 ct26:Value}
    {f27:Addr} {od27 an27:Option Addr} {sl27:Array (Option Value)} {oc27 kV27 dc27 pm27 cd27 ct27:Value}
    {f28:Addr} {od28 an28:Option Addr} {sl28:Array (Option Value)} {oc28 kV28 dc28 pm28 cd28 ct28:Value}
    {f29:Addr} {od29 an29:Option Addr} {sl29:Array (Option Value)} {oc29 kV29 dc29 pm29 cd29 ct29:Value}
    {gt_GREATEST_LEFT:Tok}
    {gt_GREATEST_MARK:Tok}
    {ga_READING_WORDS:Addr} {gn_READING_WORDS:Nat} {gs_READING_WORDS:Array (Option Value)} {gt_READING_WORDS0 gt_READING_WORDS1:Tok}
    {ga_WANTS:Addr} {gn_WANTS:Nat} {gs_WANTS:Array (Option Value)} {gt_WANTS0 gt_WANTS1:Tok}
    {ga_WITHIN_WORDS:Addr} {gn_WITHIN_WORDS:Nat} {gs_WITHIN_WORDS:Array (Option Value)} {gt_WITHIN_WORDS0 gt_WITHIN_WORDS1 gt_WITHIN_WORDS2 gt_WITHIN_WORDS3 gt_WITHIN_WORDS4:Tok}
    {ga_WRITING_WORDS:Addr} {gn_WRITING_WORDS:Nat} {gs_WRITING_WORDS:Array (Option Value)} {gt_WRITING_WORDS0 gt_WRITING_WORDS1:Tok}
    (a0:PySem.W.nsIn K mainGlobals "_law_cell_at" = some (some (.ref f0))) (l0:K.lookup f0=some ⟨oc0,od0,.func (PySem.W.fnOf "_law_cell_at" "_law_cell_at" (defArgs s__law_cell_at) (defBody s__law_cell_at) (defScope s__law_cell_at) .none kV0 dc0 pm0 an0 cd0 ct0),sl0⟩) (c0:PySem.W.codeIn K cd0 "_law_cell_at" = true) (k0:PySem.W.keepIn K (.ref f0)=true)
    (a1:PySem.W.nsIn K mainGlobals "_law_far" = some (some (.ref f1))) (l1:K.lookup f1=some ⟨oc1,od1,.func (PySem.W.fnOf "_law_far" "_law_far" (defArgs s__law_far) (defBody s__law_far) (defScope s__law_far) .none kV1 dc1 pm1 an1 cd1 ct1),sl1⟩) (c1:PySem.W.codeIn K cd1 "_law_far" = true) (k1:PySem.W.keepIn K (.ref f1)=true)
    (a2:PySem.W.nsIn K mainGlobals "_law_left" = some (some (.ref f2))) (l2:K.lookup f2=some ⟨oc2,od2,.func (PySem.W.fnOf "_law_left" "_law_left" (defArgs s__law_left) (defBody s__law_left) (defScope s__law_left) .none kV2 dc2 pm2 an2 cd2 ct2),sl2⟩) (c2:PySem.W.codeIn K cd2 "_law_left" = true) (k2:PySem.W.keepIn K (.ref f2)=true)
    (a3:PySem.W.nsIn K mainGlobals "_law_pick" = some (some (.ref f3))) (l3:K.lookup f3=some ⟨oc3,od3,.func (PySem.W.fnOf "_law_pick" "_law_pick" (defArgs s__law_pick) (defBody s__law_pick) (defScope s__law_pick) .none kV3 dc3 pm3 an3 cd3 ct3),sl3⟩) (c3:PySem.W.codeIn K cd3 "_law_pick" = true) (k3:PySem.W.keepIn K (.ref f3)=true)
    (a4:PySem.W.nsIn K mainGlobals "_law_rule" = some (some (.ref f4))) (l4:K.lookup f4=some ⟨oc4,od4,.func (PySem.W.fnOf "_law_rule" "_law_rule" (defArgs s__law_rule) (defBody s__law_rule) (defScope s__law_rule) .none kV4 dc4 pm4 an4 cd4 ct4),sl4⟩) (c4:PySem.W.codeIn K cd4 "_law_rule" = true) (k4:PySem.W.keepIn K (.ref f4)=true)
    (a5:PySem.W.nsIn K mainGlobals "_law_put" = some (some (.ref f5))) (l5:K.lookup f5=some ⟨oc5,od5,.func (PySem.W.fnOf "_law_put" "_law_put" (defArgs s__law_put) (defBody s__law_put) (defScope s__law_put) .none kV5 dc5 pm5 an5 cd5 ct5),sl5⟩) (c5:PySem.W.codeIn K cd5 "_law_put" = true) (k5:PySem.W.keepIn K (.ref f5)=true)
    (a6:PySem.W.nsIn K mainGlobals "_law_fronts" = some (some (.ref f6))) (l6:K.lookup f6=some ⟨oc6,od6,.func (PySem.W.fnOf "_law_fronts" "_law_fronts" (defArgs s__law_fronts) (defBody s__law_fronts) (defScope s__law_fronts) .none kV6 dc6 pm6 an6 cd6 ct6),sl6⟩) (c6:PySem.W.codeIn K cd6 "_law_fronts" = true) (k6:PySem.W.keepIn K (.ref f6)=true)
    (a7:PySem.W.nsIn K mainGlobals "_law_lets" = some (some (.ref f7))) (l7:K.lookup f7=some ⟨oc7,od7,.func (PySem.W.fnOf "_law_lets" "_law_lets" (defArgs s__law_lets) (defBody s__law_lets) (defScope s__law_lets) .none kV7 dc7 pm7 an7 cd7 ct7),sl7⟩) (c7:PySem.W.codeIn K cd7 "_law_lets" = true) (k7:PySem.W.keepIn K (.ref f7)=true)
    (a8:PySem.W.nsIn K mainGlobals "_law_settled" = some (some (.ref f8))) (l8:K.lookup f8=some ⟨oc8,od8,.func (PySem.W.fnOf "_law_settled" "_law_settled" (defArgs s__law_settled) (defBody s__law_settled) (defScope s__law_settled) .none kV8 dc8 pm8 an8 cd8 ct8),sl8⟩) (c8:PySem.W.codeIn K cd8 "_law_settled" = true) (k8:PySem.W.keepIn K (.ref f8)=true)
    (a9:PySem.W.nsIn K mainGlobals "_law_can" = some (some (.ref f9))) (l9:K.lookup f9=some ⟨oc9,od9,.func (PySem.W.fnOf "_law_can" "_law_can" (defArgs s__law_can) (defBody s__law_can) (defScope s__law_can) .none kV9 dc9 pm9 an9 cd9 ct9),sl9⟩) (c9:PySem.W.codeIn K cd9 "_law_can" = true) (k9:PySem.W.keepIn K (.ref f9)=true)
    (a10:PySem.W.nsIn K mainGlobals "_law_asked" = some (some (.ref f10))) (l10:K.lookup f10=some ⟨oc10,od10,.func (PySem.W.fnOf "_law_asked" "_law_asked" (defArgs s__law_asked) (defBody s__law_asked) (defScope s__law_asked) .none kV10 dc10 pm10 an10 cd10 ct10),sl10⟩) (c10:PySem.W.codeIn K cd10 "_law_asked" = true) (k10:PySem.W.keepIn K (.ref f10)=true)
    (a11:PySem.W.nsIn K mainGlobals "_law_marked" = some (some (.ref f11))) (l11:K.lookup f11=some ⟨oc11,od11,.func (PySem.W.fnOf "_law_marked" "_law_marked" (defArgs s__law_marked) (defBody s__law_marked) (defScope s__law_marked) .none kV11 dc11 pm11 an11 cd11 ct11),sl11⟩) (c11:PySem.W.codeIn K cd11 "_law_marked" = true) (k11:PySem.W.keepIn K (.ref f11)=true)
    (a12:PySem.W.nsIn K mainGlobals "_law_done" = some (some (.ref f12))) (l12:K.lookup f12=some ⟨oc12,od12,.func (PySem.W.fnOf "_law_done" "_law_done" (defArgs s__law_done) (defBody s__law_done) (defScope s__law_done) .none kV12 dc12 pm12 an12 cd12 ct12),sl12⟩) (c12:PySem.W.codeIn K cd12 "_law_done" = true) (k12:PySem.W.keepIn K (.ref f12)=true)
    (a13:PySem.W.nsIn K mainGlobals "_law_deed" = some (some (.ref f13))) (l13:K.lookup f13=some ⟨oc13,od13,.func (PySem.W.fnOf "_law_deed" "_law_deed" (defArgs s__law_deed) (defBody s__law_deed) (defScope s__law_deed) .none kV13 dc13 pm13 an13 cd13 ct13),sl13⟩) (c13:PySem.W.codeIn K cd13 "_law_deed" = true) (k13:PySem.W.keepIn K (.ref f13)=true)
    (a14:PySem.W.nsIn K mainGlobals "guests_with" = some (some (.ref f14))) (l14:K.lookup f14=some ⟨oc14,od14,.func (PySem.W.fnOf "guests_with" "guests_with" (defArgs s_guests_with) (defBody s_guests_with) (defScope s_guests_with) .none kV14 dc14 pm14 an14 cd14 ct14),sl14⟩) (c14:PySem.W.codeIn K cd14 "guests_with" = true) (k14:PySem.W.keepIn K (.ref f14)=true)
    (a15:PySem.W.nsIn K mainGlobals "readers_in" = some (some (.ref f15))) (l15:K.lookup f15=some ⟨oc15,od15,.func (PySem.W.fnOf "readers_in" "readers_in" (defArgs s_readers_in) (defBody s_readers_in) (defScope s_readers_in) .none kV15 dc15 pm15 an15 cd15 ct15),sl15⟩) (c15:PySem.W.codeIn K cd15 "readers_in" = true) (k15:PySem.W.keepIn K (.ref f15)=true)
    (a16:PySem.W.nsIn K mainGlobals "writer_in" = some (some (.ref f16))) (l16:K.lookup f16=some ⟨oc16,od16,.func (PySem.W.fnOf "writer_in" "writer_in" (defArgs s_writer_in) (defBody s_writer_in) (defScope s_writer_in) .none kV16 dc16 pm16 an16 cd16 ct16),sl16⟩) (c16:PySem.W.codeIn K cd16 "writer_in" = true) (k16:PySem.W.keepIn K (.ref f16)=true)
    (a17:PySem.W.nsIn K mainGlobals "is_tuple_of" = some (some (.ref f17))) (l17:K.lookup f17=some ⟨oc17,od17,.func (PySem.W.fnOf "is_tuple_of" "is_tuple_of" (defArgs s_is_tuple_of) (defBody s_is_tuple_of) (defScope s_is_tuple_of) .none kV17 dc17 pm17 an17 cd17 ct17),sl17⟩) (c17:PySem.W.codeIn K cd17 "is_tuple_of" = true) (k17:PySem.W.keepIn K (.ref f17)=true)
    (a18:PySem.W.nsIn K mainGlobals "is_word" = some (some (.ref f18))) (l18:K.lookup f18=some ⟨oc18,od18,.func (PySem.W.fnOf "is_word" "is_word" (defArgs s_is_word) (defBody s_is_word) (defScope s_is_word) .none kV18 dc18 pm18 an18 cd18 ct18),sl18⟩) (c18:PySem.W.codeIn K cd18 "is_word" = true) (k18:PySem.W.keepIn K (.ref f18)=true)
    (a19:PySem.W.nsIn K mainGlobals "is_within" = some (some (.ref f19))) (l19:K.lookup f19=some ⟨oc19,od19,.func (PySem.W.fnOf "is_within" "is_within" (defArgs s_is_within) (defBody s_is_within) (defScope s_is_within) .none kV19 dc19 pm19 an19 cd19 ct19),sl19⟩) (c19:PySem.W.codeIn K cd19 "is_within" = true) (k19:PySem.W.keepIn K (.ref f19)=true)
    (a20:PySem.W.nsIn K mainGlobals "is_whole" = some (some (.ref f20))) (l20:K.lookup f20=some ⟨oc20,od20,.func (PySem.W.fnOf "is_whole" "is_whole" (defArgs s_is_whole) (defBody s_is_whole) (defScope s_is_whole) .none kV20 dc20 pm20 an20 cd20 ct20),sl20⟩) (c20:PySem.W.codeIn K cd20 "is_whole" = true) (k20:PySem.W.keepIn K (.ref f20)=true)
    (a21:PySem.W.nsIn K mainGlobals "is_between" = some (some (.ref f21))) (l21:K.lookup f21=some ⟨oc21,od21,.func (PySem.W.fnOf "is_between" "is_between" (defArgs s_is_between) (defBody s_is_between) (defScope s_is_between) .none kV21 dc21 pm21 an21 cd21 ct21),sl21⟩) (c21:PySem.W.codeIn K cd21 "is_between" = true) (k21:PySem.W.keepIn K (.ref f21)=true)
    (a22:PySem.W.nsIn K mainGlobals "is_wait" = some (some (.ref f22))) (l22:K.lookup f22=some ⟨oc22,od22,.func (PySem.W.fnOf "is_wait" "is_wait" (defArgs s_is_wait) (defBody s_is_wait) (defScope s_is_wait) .none kV22 dc22 pm22 an22 cd22 ct22),sl22⟩) (c22:PySem.W.codeIn K cd22 "is_wait" = true) (k22:PySem.W.keepIn K (.ref f22)=true)
    (a23:PySem.W.nsIn K mainGlobals "are_waits" = some (some (.ref f23))) (l23:K.lookup f23=some ⟨oc23,od23,.func (PySem.W.fnOf "are_waits" "are_waits" (defArgs s_are_waits) (defBody s_are_waits) (defScope s_are_waits) .none kV23 dc23 pm23 an23 cd23 ct23),sl23⟩) (c23:PySem.W.codeIn K cd23 "are_waits" = true) (k23:PySem.W.keepIn K (.ref f23)=true)
    (a24:PySem.W.nsIn K mainGlobals "is_room" = some (some (.ref f24))) (l24:K.lookup f24=some ⟨oc24,od24,.func (PySem.W.fnOf "is_room" "is_room" (defArgs s_is_room) (defBody s_is_room) (defScope s_is_room) .none kV24 dc24 pm24 an24 cd24 ct24),sl24⟩) (c24:PySem.W.codeIn K cd24 "is_room" = true) (k24:PySem.W.keepIn K (.ref f24)=true)
    (a25:PySem.W.nsIn K mainGlobals "is_safe" = some (some (.ref f25))) (l25:K.lookup f25=some ⟨oc25,od25,.func (PySem.W.fnOf "is_safe" "is_safe" (defArgs s_is_safe) (defBody s_is_safe) (defScope s_is_safe) .none kV25 dc25 pm25 an25 cd25 ct25),sl25⟩) (c25:PySem.W.codeIn K cd25 "is_safe" = true) (k25:PySem.W.keepIn K (.ref f25)=true)
    (a26:PySem.W.nsIn K mainGlobals "waiting" = some (some (.ref f26))) (l26:K.lookup f26=some ⟨oc26,od26,.func (PySem.W.fnOf "waiting" "waiting" (defArgs s_waiting) (defBody s_waiting) (defScope s_waiting) .none kV26 dc26 pm26 an26 cd26 ct26),sl26⟩) (c26:PySem.W.codeIn K cd26 "waiting" = true) (k26:PySem.W.keepIn K (.ref f26)=true)
    (a27:PySem.W.nsIn K mainGlobals "_law_room_right" = some (some (.ref f27))) (l27:K.lookup f27=some ⟨oc27,od27,.func (PySem.W.fnOf "_law_room_right" "_law_room_right" (defArgs s__law_room_right) (defBody s__law_room_right) (defScope s__law_room_right) .none kV27 dc27 pm27 an27 cd27 ct27),sl27⟩) (c27:PySem.W.codeIn K cd27 "_law_room_right" = true) (k27:PySem.W.keepIn K (.ref f27)=true)
    (a28:PySem.W.nsIn K mainGlobals "_law_more_right" = some (some (.ref f28))) (l28:K.lookup f28=some ⟨oc28,od28,.func (PySem.W.fnOf "_law_more_right" "_law_more_right" (defArgs s__law_more_right) (defBody s__law_more_right) (defScope s__law_more_right) .none kV28 dc28 pm28 an28 cd28 ct28),sl28⟩) (c28:PySem.W.codeIn K cd28 "_law_more_right" = true) (k28:PySem.W.keepIn K (.ref f28)=true)
    (a29:PySem.W.nsIn K mainGlobals "law" = some (some (.ref f29))) (l29:K.lookup f29=some ⟨oc29,od29,.func (PySem.W.fnOf "law" "law" (defArgs s_law) (defBody s_law) (defScope s_law) .none kV29 dc29 pm29 an29 cd29 ct29),sl29⟩) (c29:PySem.W.codeIn K cd29 "law" = true) (k29:PySem.W.keepIn K (.ref f29)=true)
    (z_all:PySem.W.nsIn K mainGlobals "all" = some none)
    (z_bool:PySem.W.nsIn K mainGlobals "bool" = some none)
    (z_enumerate:PySem.W.nsIn K mainGlobals "enumerate" = some none)
    (z_int:PySem.W.nsIn K mainGlobals "int" = some none)
    (z_isinstance:PySem.W.nsIn K mainGlobals "isinstance" = some none)
    (z_len:PySem.W.nsIn K mainGlobals "len" = some none)
    (z_list:PySem.W.nsIn K mainGlobals "list" = some none)
    (z_max:PySem.W.nsIn K mainGlobals "max" = some none)
    (z_min:PySem.W.nsIn K mainGlobals "min" = some none)
    (z_range:PySem.W.nsIn K mainGlobals "range" = some none)
    (z_set:PySem.W.nsIn K mainGlobals "set" = some none)
    (z_sorted:PySem.W.nsIn K mainGlobals "sorted" = some none)
    (z_str:PySem.W.nsIn K mainGlobals "str" = some none)
    (z_tuple:PySem.W.nsIn K mainGlobals "tuple" = some none)
    (g_GREATEST_LEFT:PySem.W.nsIn K mainGlobals "GREATEST_LEFT" = some (some (.int 9 gt_GREATEST_LEFT)))
    (g_GREATEST_MARK:PySem.W.nsIn K mainGlobals "GREATEST_MARK" = some (some (.int 999 gt_GREATEST_MARK)))
    (g_READING_WORDS:PySem.W.nsIn K mainGlobals "READING_WORDS" = some (some (.ref ga_READING_WORDS))) (gl_READING_WORDS:K.lookup ga_READING_WORDS=some ⟨.type "tuple",none,.seq #[.str "reads" gt_READING_WORDS0,.str "rising" gt_READING_WORDS1] gn_READING_WORDS,gs_READING_WORDS⟩)
    (g_WANTS:PySem.W.nsIn K mainGlobals "WANTS" = some (some (.ref ga_WANTS))) (gl_WANTS:K.lookup ga_WANTS=some ⟨.type "tuple",none,.seq #[.str "read" gt_WANTS0,.str "write" gt_WANTS1] gn_WANTS,gs_WANTS⟩)
    (g_WITHIN_WORDS:PySem.W.nsIn K mainGlobals "WITHIN_WORDS" = some (some (.ref ga_WITHIN_WORDS))) (gl_WITHIN_WORDS:K.lookup ga_WITHIN_WORDS=some ⟨.type "tuple",none,.seq #[.str "out" gt_WITHIN_WORDS0,.str "reads" gt_WITHIN_WORDS1,.str "rising" gt_WITHIN_WORDS2,.str "writes" gt_WITHIN_WORDS3,.str "raised" gt_WITHIN_WORDS4] gn_WITHIN_WORDS,gs_WITHIN_WORDS⟩)
    (g_WRITING_WORDS:PySem.W.nsIn K mainGlobals "WRITING_WORDS" = some (some (.ref ga_WRITING_WORDS))) (gl_WRITING_WORDS:K.lookup ga_WRITING_WORDS=some ⟨.type "tuple",none,.seq #[.str "writes" gt_WRITING_WORDS0,.str "raised" gt_WRITING_WORDS1] gn_WRITING_WORDS,gs_WRITING_WORDS⟩):Txt w K mg:=
  ⟨⟨_,_,fun_mk (st:=s__law_cell_at) l0 c0 k0,PySem.W.mg_of X G a0⟩,
   ⟨_,_,fun_mk (st:=s__law_far) l1 c1 k1,PySem.W.mg_of X G a1⟩,
   ⟨_,_,fun_mk (st:=s__law_left) l2 c2 k2,PySem.W.mg_of X G a2⟩,
   ⟨_,_,fun_mk (st:=s__law_pick) l3 c3 k3,PySem.W.mg_of X G a3⟩,
   ⟨_,_,fun_mk (st:=s__law_rule) l4 c4 k4,PySem.W.mg_of X G a4⟩,
   ⟨_,_,fun_mk (st:=s__law_put) l5 c5 k5,PySem.W.mg_of X G a5⟩,
   ⟨_,_,fun_mk (st:=s__law_fronts) l6 c6 k6,PySem.W.mg_of X G a6⟩,
   ⟨_,_,fun_mk (st:=s__law_lets) l7 c7 k7,PySem.W.mg_of X G a7⟩,
   ⟨_,_,fun_mk (st:=s__law_settled) l8 c8 k8,PySem.W.mg_of X G a8⟩,
   ⟨_,_,fun_mk (st:=s__law_can) l9 c9 k9,PySem.W.mg_of X G a9⟩,
   ⟨_,_,fun_mk (st:=s__law_asked) l10 c10 k10,PySem.W.mg_of X G a10⟩,
   ⟨_,_,fun_mk (st:=s__law_marked) l11 c11 k11,PySem.W.mg_of X G a11⟩,
   ⟨_,_,fun_mk (st:=s__law_done) l12 c12 k12,PySem.W.mg_of X G a12⟩,
   ⟨_,_,fun_mk (st:=s__law_deed) l13 c13 k13,PySem.W.mg_of X G a13⟩,
   ⟨_,_,fun_mk (st:=s_guests_with) l14 c14 k14,PySem.W.mg_of X G a14⟩,
   ⟨_,_,fun_mk (st:=s_readers_in) l15 c15 k15,PySem.W.mg_of X G a15⟩,
   ⟨_,_,fun_mk (st:=s_writer_in) l16 c16 k16,PySem.W.mg_of X G a16⟩,
   ⟨_,_,fun_mk (st:=s_is_tuple_of) l17 c17 k17,PySem.W.mg_of X G a17⟩,
   ⟨_,_,fun_mk (st:=s_is_word) l18 c18 k18,PySem.W.mg_of X G a18⟩,
   ⟨_,_,fun_mk (st:=s_is_within) l19 c19 k19,PySem.W.mg_of X G a19⟩,
   ⟨_,_,fun_mk (st:=s_is_whole) l20 c20 k20,PySem.W.mg_of X G a20⟩,
   ⟨_,_,fun_mk (st:=s_is_between) l21 c21 k21,PySem.W.mg_of X G a21⟩,
   ⟨_,_,fun_mk (st:=s_is_wait) l22 c22 k22,PySem.W.mg_of X G a22⟩,
   ⟨_,_,fun_mk (st:=s_are_waits) l23 c23 k23,PySem.W.mg_of X G a23⟩,
   ⟨_,_,fun_mk (st:=s_is_room) l24 c24 k24,PySem.W.mg_of X G a24⟩,
   ⟨_,_,fun_mk (st:=s_is_safe) l25 c25 k25,PySem.W.mg_of X G a25⟩,
   ⟨_,_,fun_mk (st:=s_waiting) l26 c26 k26,PySem.W.mg_of X G a26⟩,
   ⟨_,_,fun_mk (st:=s__law_room_right) l27 c27 k27,PySem.W.mg_of X G a27⟩,
   ⟨_,_,fun_mk (st:=s__law_more_right) l28 c28 k28,PySem.W.mg_of X G a28⟩,
   ⟨_,_,fun_mk (st:=s_law) l29 c29 k29,PySem.W.mg_of X G a29⟩,
   PySem.W.mg_none_of X G z_all,
   PySem.W.mg_none_of X G z_bool,
   PySem.W.mg_none_of X G z_enumerate,
   PySem.W.mg_none_of X G z_int,
   PySem.W.mg_none_of X G z_isinstance,
   PySem.W.mg_none_of X G z_len,
   PySem.W.mg_none_of X G z_list,
   PySem.W.mg_none_of X G z_max,
   PySem.W.mg_none_of X G z_min,
   PySem.W.mg_none_of X G z_range,
   PySem.W.mg_none_of X G z_set,
   PySem.W.mg_none_of X G z_sorted,
   PySem.W.mg_none_of X G z_str,
   PySem.W.mg_none_of X G z_tuple,
   ⟨_,V.int 9,PySem.W.mg_of X G g_GREATEST_LEFT,⟨_,rfl⟩,fun μ H=>.int _⟩,
   ⟨_,V.int 999,PySem.W.mg_of X G g_GREATEST_MARK,⟨_,rfl⟩,fun μ H=>.int _⟩,
   ⟨_,.ref ga_READING_WORDS,PySem.W.mg_of X G g_READING_WORDS,rfl,fun μ H=>.ktup (vs:=[V.str "reads",V.str "rising"]) ⟨_,_,_,gl_READING_WORDS,rfl,rfl,rfl,(show 2≤sizeLine by decide),.cons ⟨_,rfl⟩ (.cons ⟨_,rfl⟩ (.nil))⟩ (.cons (.str _) (.cons (.str _) (.nil)))⟩,
   ⟨_,.ref ga_WANTS,PySem.W.mg_of X G g_WANTS,rfl,fun μ H=>.ktup (vs:=[V.str "read",V.str "write"]) ⟨_,_,_,gl_WANTS,rfl,rfl,rfl,(show 2≤sizeLine by decide),.cons ⟨_,rfl⟩ (.cons ⟨_,rfl⟩ (.nil))⟩ (.cons (.str _) (.cons (.str _) (.nil)))⟩,
   ⟨_,.ref ga_WITHIN_WORDS,PySem.W.mg_of X G g_WITHIN_WORDS,rfl,fun μ H=>.ktup (vs:=[V.str "out",V.str "reads",V.str "rising",V.str "writes",V.str "raised"]) ⟨_,_,_,gl_WITHIN_WORDS,rfl,rfl,rfl,(show 5≤sizeLine by decide),.cons ⟨_,rfl⟩ (.cons ⟨_,rfl⟩ (.cons ⟨_,rfl⟩ (.cons ⟨_,rfl⟩ (.cons ⟨_,rfl⟩ (.nil)))))⟩ (.cons (.str _) (.cons (.str _) (.cons (.str _) (.cons (.str _) (.cons (.str _) (.nil))))))⟩,
   ⟨_,.ref ga_WRITING_WORDS,PySem.W.mg_of X G g_WRITING_WORDS,rfl,fun μ H=>.ktup (vs:=[V.str "writes",V.str "raised"]) ⟨_,_,_,gl_WRITING_WORDS,rfl,rfl,rfl,(show 2≤sizeLine by decide),.cons ⟨_,rfl⟩ (.cons ⟨_,rfl⟩ (.nil))⟩ (.cons (.str _) (.cons (.str _) (.nil)))⟩⟩
theorem all_mk {l:PySem.W.OpenLaw} {w:World} {K:PySem.W.Frag} {h:Heap} {mg:Str→Option Value} {fa:Addr} (X:K.In h) (G:h.Ns mainGlobals mg) (hfa:mg "law" = some (.ref fa)) (T:Txt w K mg) :
    ∃ fd:FuncData,(∀ (s:Shared) (v:Value),BindsTo s fd ⟨[v],[]⟩ [("_law_script",v)])∧∀ base:Heap,K.In base→base.Ns mainGlobals mg→FnOk l.prog w K mg base CX0 7 fa fd ["_law_script"] (spM K 1 f_law):=
  law_ev T.d_law hfa sc_law (fun _ _ _ _ _ _ _=>rfl) fun base=>gk_law T
theorem walk {l:PySem.W.OpenLaw} {q:Program} {loose:List Str} {XP:(Str→Option Value)→Heap→Prop} {YP:World→Heap→Prop} {d:DefRec} {K:Params→PySem.W.Frag} (hn:l.most=some 63) (hdf:d.params.defaults=[]) (hnm:d.name = "law")
    (hY:∀ (w:World) (h:Heap),YP w h→(K w.params).In h) (hlaw:∀ ns:List Int,ns.length≤63→∃ S',f_law [.rol (ns.map .int)] []=some (.bl true,S'))
    (F:∀ (w:World) (mg:Str→Option Value) (h:Heap),(K w.params).In h→h.Ns mainGlobals mg→Txt w (K w.params) mg) :
    PySem.W.WalkO q loose XP YP l.row.toRowW d [] (fun f vs=>PySem.call f vs):=
  L2.walk_of (n:=63) (k:=7) (x:="_law_script") (CX:=fun _=>CX0) (sp:=fun w=>spM (K w.params) 1 f_law) hn (by decide) hdf ⟨rfl,by decide,by decide⟩ hY
    (fun w mg fa h KX G hmg=>all_mk KX G (hnm ▸ hmg) (F w mg h KX G)) (fun _ _ a ns hl _ hS=>law_sp hlaw hl hS) fun _ _ _ _ _ z=>z
end K05
end
section
set_option maxHeartbeats 4000000
namespace K05
open PySem L2 MI PyProof.Rows
open M hiding mC mVar mOp mTest mChain mTru mAndT mOrT mNotT mAnd mOr mNotV mIf mNil mCons mTup mLst mLstR mUn mPartN mPart mSlice mCall mIsI mCallN mSkip mSeq mRet mDrop mIfS gSet gNilD gConsD gTupD gSubD mAsg mRange1 mRange2 mFor mComp mItS mTrue mMeth mEnum mLenSet mPar mCnt mDict mDictR mMethD mForD mListR mCatR
noncomputable def m__law_cell_at:MS:=
  lawCellAt
theorem me__law_cell_at:f__law_cell_at=runM N__law_cell_at m__law_cell_at 2:=by
  unfold f__law_cell_at
  rw [show evB (cOf N__law_cell_at s__law_cell_at g__law_cell_at []) (defBody s__law_cell_at)=m__law_cell_at from rfl]
noncomputable def m__law_far:MS:=
  lawFar
theorem me__law_far:f__law_far=runM N__law_far m__law_far 0:=by
  unfold f__law_far
  rw [show evB (cOf N__law_far s__law_far g__law_far []) (defBody s__law_far)=m__law_far from rfl]
noncomputable def m__law_left:MS:=
  lawLeft f__law_cell_at f__law_far
theorem me__law_left:f__law_left=runM N__law_left m__law_left 2:=by
  unfold f__law_left
  rw [show evB (cOf N__law_left s__law_left g__law_left [73]) (defBody s__law_left)=m__law_left from rfl]
noncomputable def m__law_pick:MS:=
  lawPick
theorem me__law_pick:f__law_pick=runM N__law_pick m__law_pick 2:=by
  unfold f__law_pick
  rw [show evB (cOf N__law_pick s__law_pick g__law_pick []) (defBody s__law_pick)=m__law_pick from rfl]
noncomputable def m__law_rule:MS:=
  lawRule f__law_pick
theorem me__law_rule:f__law_rule=runM N__law_rule m__law_rule 1:=by
  unfold f__law_rule
  rw [show evB (cOf N__law_rule s__law_rule g__law_rule []) (defBody s__law_rule)=m__law_rule from rfl]
noncomputable def m__law_put:MS:=
  lawPut
theorem me__law_put:f__law_put=runM N__law_put m__law_put 3:=by
  unfold f__law_put
  rw [show evB (cOf N__law_put s__law_put g__law_put []) (defBody s__law_put)=m__law_put from rfl]
noncomputable def m__law_fronts:MS:=
  lawFronts
theorem me__law_fronts:f__law_fronts=runM N__law_fronts m__law_fronts 2:=by
  unfold f__law_fronts
  rw [show evB (cOf N__law_fronts s__law_fronts g__law_fronts []) (defBody s__law_fronts)=m__law_fronts from rfl]
noncomputable def m__law_lets:MS:=
  lawLets
theorem me__law_lets:f__law_lets=runM N__law_lets m__law_lets 3:=by
  unfold f__law_lets
  rw [show evB (cOf N__law_lets s__law_lets g__law_lets []) (defBody s__law_lets)=m__law_lets from rfl]
noncomputable def m__law_settled:MS:=
  lawSettled f__law_fronts f__law_lets f__law_put
theorem me__law_settled:f__law_settled=runM N__law_settled m__law_settled 2:=by
  unfold f__law_settled
  rw [show evB (cOf N__law_settled s__law_settled g__law_settled [122]) (defBody s__law_settled)=m__law_settled from rfl]
noncomputable def m__law_can:MS:=
  lawCan
theorem me__law_can:f__law_can=runM N__law_can m__law_can 2:=by
  unfold f__law_can
  rw [show evB (cOf N__law_can s__law_can g__law_can [142]) (defBody s__law_can)=m__law_can from rfl]
noncomputable def m__law_asked:MS:=
  lawAsked f__law_settled
theorem me__law_asked:f__law_asked=runM N__law_asked m__law_asked 3:=by
  unfold f__law_asked
  rw [show evB (cOf N__law_asked s__law_asked g__law_asked []) (defBody s__law_asked)=m__law_asked from rfl]
noncomputable def m__law_marked:MS:=
  lawMarked
theorem me__law_marked:f__law_marked=runM N__law_marked m__law_marked 3:=by
  unfold f__law_marked
  rw [show evB (cOf N__law_marked s__law_marked g__law_marked []) (defBody s__law_marked)=m__law_marked from rfl]
noncomputable def m__law_done:MS:=
  lawDone f__law_can f__law_asked f__law_settled f__law_marked f__law_put
theorem me__law_done:f__law_done=runM N__law_done m__law_done 3:=by
  unfold f__law_done
  rw [show evB (cOf N__law_done s__law_done g__law_done []) (defBody s__law_done)=m__law_done from rfl]
noncomputable def m__law_deed:MS:=
  lawDeed f__law_pick
theorem me__law_deed:f__law_deed=runM N__law_deed m__law_deed 2:=by
  unfold f__law_deed
  rw [show evB (cOf N__law_deed s__law_deed g__law_deed []) (defBody s__law_deed)=m__law_deed from rfl]
noncomputable def m_guests_with:MS:=
  progGw
theorem me_guests_with:f_guests_with=runM N_guests_with m_guests_with 2:=by
  unfold f_guests_with
  rw [show evB (cOf N_guests_with s_guests_with g_guests_with []) (defBody s_guests_with)=m_guests_with from rfl]
noncomputable def m_readers_in:MS:=
  mRet (mCallN 2 f_guests_with (mCons (mVar 0) (mCons (mC c_READING_WORDS) (mNil))))
theorem me_readers_in:f_readers_in=runM N_readers_in m_readers_in 1:=by
  unfold f_readers_in
  rw [show evB (cOf N_readers_in s_readers_in g_readers_in []) (defBody s_readers_in)=m_readers_in from rfl]
noncomputable def m_writer_in:MS:=
  mSeq (mAsg (mCallN 2 f_guests_with (mCons (mVar 0) (mCons (mC c_WRITING_WORDS) (mNil)))) (gSet 1)) (mRet (mIf (mTru (mVar 1)) (mOp fIxX (mVar 1) (mC (.int 0))) (mC .non)))
theorem me_writer_in:f_writer_in=runM N_writer_in m_writer_in 1:=by
  unfold f_writer_in
  rw [show evB (cOf N_writer_in s_writer_in g_writer_in []) (defBody s_writer_in)=m_writer_in from rfl]
noncomputable def m_is_tuple_of:MS:=
  mRet (mAnd (mIsI "tuple" (mVar 0)) (mOp fEq (mCall (fPure fLen) (mCons (mVar 0) (mNil))) (mVar 1)))
theorem me_is_tuple_of:f_is_tuple_of=runM N_is_tuple_of m_is_tuple_of 2:=by
  unfold f_is_tuple_of
  rw [show evB (cOf N_is_tuple_of s_is_tuple_of g_is_tuple_of []) (defBody s_is_tuple_of)=m_is_tuple_of from rfl]
noncomputable def m_is_word:MS:=
  mRet (mAnd (mIsI "str" (mVar 0)) (mOp fIn (mVar 0) (mVar 1)))
theorem me_is_word:f_is_word=runM N_is_word m_is_word 2:=by
  unfold f_is_word
  rw [show evB (cOf N_is_word s_is_word g_is_word []) (defBody s_is_word)=m_is_word from rfl]
noncomputable def m_is_within:MS:=
  mRet (mAnd (mCallN 2 f_is_tuple_of (mCons (mVar 1) (mCons (mVar 0) (mNil)))) (mCall (fPure fAll) (mCons (mComp (mItS (mVar 1)) (gSet 0) (mTrue) (mCallN 2 f_is_word (mCons (mVar 0) (mCons (mC c_WITHIN_WORDS) (mNil)))) [none]) (mNil))))
theorem me_is_within:f_is_within=runM N_is_within m_is_within 2:=by
  unfold f_is_within
  rw [show evB (cOf N_is_within s_is_within g_is_within []) (defBody s_is_within)=m_is_within from rfl]
noncomputable def m_is_whole:MS:=
  mRet (mAnd (mIsI "int" (mVar 0)) (mNotV (mIsI "bool" (mVar 0))))
theorem me_is_whole:f_is_whole=runM N_is_whole m_is_whole 1:=by
  unfold f_is_whole
  rw [show evB (cOf N_is_whole s_is_whole g_is_whole []) (defBody s_is_whole)=m_is_whole from rfl]
noncomputable def m_is_between:MS:=
  mRet (mAnd (mCallN 1 f_is_whole (mCons (mVar 0) (mNil))) (mChain fLe fLe (mVar 1) (mVar 0) (mVar 2)))
theorem me_is_between:f_is_between=runM N_is_between m_is_between 3:=by
  unfold f_is_between
  rw [show evB (cOf N_is_between s_is_between g_is_between []) (defBody s_is_between)=m_is_between from rfl]
noncomputable def m_is_wait:MS:=
  mSeq (mIfS (mNotT (mTru (mCallN 2 f_is_tuple_of (mCons (mVar 1) (mCons (mC (.int 4)) (mNil)))))) (mRet (mC (.bl false))) (mSkip)) (mSeq (mAsg (mVar 1) (gTupD 4 (gConsD (gSet 2) (gConsD (gSet 3) (gConsD (gSet 4) (gConsD (gSet 5) (gNilD))))))) (mSeq (mIfS (mOrT (mNotT (mTru (mCallN 3 f_is_between (mCons (mVar 2) (mCons (mC (.int 0)) (mCons (mOp fSub (mCall (fPure fLen) (mCons (mVar 0) (mNil))) (mC (.int 1))) (mNil))))))) (mTest (mOp fNe (mOp fIxX (mVar 0) (mVar 2)) (mC (.str "out"))))) (mRet (mC (.bl false))) (mSkip)) (mSeq (mIfS (mOrT (mNotT (mTru (mCallN 2 f_is_word (mCons (mVar 3) (mCons (mC c_WANTS) (mNil)))))) (mNotT (mTru (mCallN 3 f_is_between (mCons (mVar 4) (mCons (mC (.int 0)) (mCons (mC c_GREATEST_MARK) (mNil)))))))) (mRet (mC (.bl false))) (mSkip)) (mRet (mOr (mOp fIs (mVar 5) (mC .non)) (mCallN 3 f_is_between (mCons (mVar 5) (mCons (mC (.int 1)) (mCons (mC c_GREATEST_LEFT) (mNil))))))))))
theorem me_is_wait:f_is_wait=runM N_is_wait m_is_wait 2:=by
  unfold f_is_wait
  rw [show evB (cOf N_is_wait s_is_wait g_is_wait []) (defBody s_is_wait)=m_is_wait from rfl]
noncomputable def m_are_waits:MS:=
  mSeq (mIfS (mOrT (mNotT (mTru (mIsI "tuple" (mVar 1)))) (mNotT (mTru (mCall (fPure fAll) (mCons (mComp (mItS (mVar 1)) (gSet 0) (mTrue) (mCallN 2 f_is_wait (mCons (mVar 1) (mCons (mVar 0) (mNil)))) [none,some 0]) (mNil)))))) (mRet (mC (.bl false))) (mSkip)) (mSeq (mAsg (mComp (mItS (mVar 1)) (gSet 0) (mTrue) (mOp fIxX (mVar 0) (mC (.int 0))) [none]) (gSet 2)) (mRet (mOp fEq (mLenSet (mCons (mVar 2) (mNil))) (mCall (fPure fLen) (mCons (mVar 2) (mNil))))))
theorem me_are_waits:f_are_waits=runM N_are_waits m_are_waits 2:=by
  unfold f_are_waits
  rw [show evB (cOf N_are_waits s_are_waits g_are_waits []) (defBody s_are_waits)=m_are_waits from rfl]
noncomputable def m_is_room:MS:=
  mSeq (mIfS (mNotT (mTru (mCallN 2 f_is_tuple_of (mCons (mVar 1) (mCons (mC (.int 2)) (mNil)))))) (mRet (mC (.bl false))) (mSkip)) (mSeq (mAsg (mVar 1) (gTupD 2 (gConsD (gSet 2) (gConsD (gSet 3) (gNilD))))) (mRet (mAnd (mCallN 2 f_is_within (mCons (mVar 0) (mCons (mVar 2) (mNil)))) (mCallN 2 f_are_waits (mCons (mVar 2) (mCons (mVar 3) (mNil)))))))
theorem me_is_room:f_is_room=runM N_is_room m_is_room 2:=by
  unfold f_is_room
  rw [show evB (cOf N_is_room s_is_room g_is_room []) (defBody s_is_room)=m_is_room from rfl]
noncomputable def m_is_safe:MS:=
  mSeq (mAsg (mOp fIxX (mVar 0) (mC (.int 1))) (gSet 2)) (mSeq (mAsg (mCall (fPure fLen) (mCons (mCallN 1 f_readers_in (mCons (mVar 1) (mNil))) (mNil))) (gSet 3)) (mSeq (mAsg (mCall (fPure fLen) (mCons (mCallN 2 f_guests_with (mCons (mVar 1) (mCons (mC c_WRITING_WORDS) (mNil)))) (mNil))) (gSet 4)) (mSeq (mAsg (mCall (fPure fLen) (mCons (mCallN 2 f_guests_with (mCons (mVar 1) (mCons (mTup (mCons (mC (.str "rising")) (mNil))) (mNil)))) (mNil))) (gSet 5)) (mSeq (mIfS (mOrT (mTest (mOp fGt (mVar 4) (mC (.int 1)))) (mTest (mOp fGt (mVar 5) (mC (.int 1))))) (mRet (mC (.bl false))) (mSkip)) (mSeq (mIfS (mAndT (mTest (mOp fEq (mVar 4) (mC (.int 1)))) (mTest (mOp fGt (mVar 3) (mC (.int 0))))) (mRet (mC (.bl false))) (mSkip)) (mRet (mOr (mOp fEq (mVar 2) (mC (.int 0))) (mOp fLe (mVar 3) (mVar 2)))))))))
theorem me_is_safe:f_is_safe=runM N_is_safe m_is_safe 2:=by
  unfold f_is_safe
  rw [show evB (cOf N_is_safe s_is_safe g_is_safe []) (defBody s_is_safe)=m_is_safe from rfl]
noncomputable def m_waiting:MS:=
  progWait f_guests_with
theorem me_waiting:f_waiting=runM N_waiting m_waiting 2:=by
  unfold f_waiting
  rw [show evB (cOf N_waiting s_waiting g_waiting []) (defBody s_waiting)=m_waiting from rfl]
noncomputable def m__law_room_right:MS:=
  mSeq (mIfS (mOrT (mTest (mOp fIsNot (mCallN 2 f_is_room (mCons (mVar 1) (mCons (mVar 2) (mNil)))) (mC (.bl true)))) (mTest (mOp fIsNot (mCallN 2 f_is_safe (mCons (mVar 0) (mCons (mVar 2) (mNil)))) (mC (.bl true))))) (mRet (mC (.bl false))) (mSkip)) (mSeq (mPar 3 4 (mCons (mCallN 1 f_readers_in (mCons (mVar 2) (mNil))) (mCons (mCallN 1 f_writer_in (mCons (mVar 2) (mNil))) (mNil)))) (mSeq (mAsg (mComp (mRange1 (mCons (mVar 1) (mNil))) (gSet 0) (mTest (mOp fIn (mCallN 2 f_waiting (mCons (mVar 1) (mCons (mVar 0) (mNil)))) (mTup (mCons (mC (.str "read")) (mCons (mC (.str "write")) (mNil)))))) (mVar 0) [none,some 2]) (gSet 5)) (mSeq (mAsg (mComp (mRange1 (mCons (mVar 1) (mNil))) (gSet 0) (mAndT (mTest (mOp fEq (mOp fIxX (mOp fIxX (mVar 1) (mC (.int 0))) (mVar 0)) (mC (.str "out")))) (mTest (mOp fIs (mCallN 2 f_waiting (mCons (mVar 1) (mCons (mVar 0) (mNil)))) (mC .non)))) (mVar 0) [none,some 2]) (gSet 6)) (mSeq (mAsg (mCatR (mCatR (mCall (fPure (fSeq1 .lst)) (mCons (mVar 3) (mNil))) (mVar 5)) (mVar 6)) (gSet 7)) (mSeq (mIfS (mTest (mOp fIsNot (mVar 4) (mC .non))) (mDrop (mMeth fAppend (mVar 7) (mCons (mVar 4) (mNil)))) (mSkip)) (mSeq (mIfS (mTest (mOp fNe (mCall (fPure fSorted) (mCons (mVar 7) (mNil))) (mListR (mCons (mVar 1) (mNil))))) (mRet (mC (.bl false))) (mSkip)) (mSeq (mIfS (mOrT (mAndT (mTest (mOp fIsNot (mVar 4) (mC .non))) (mTest (mOp fNe (mVar 3) (mTup (mNil))))) (mTest (mChain fLt fLt (mC (.int 0)) (mOp fIxX (mVar 0) (mC (.int 1))) (mCall (fPure fLen) (mCons (mVar 3) (mNil)))))) (mRet (mC (.bl false))) (mSkip)) (mSeq (mIfS (mTest (mOp fNe (mVar 5) (mCall (fPure fSorted) (mCons (mComp (mItS (mOp fIxX (mVar 2) (mC (.int 1)))) (gSet 0) (mTrue) (mOp fIxX (mVar 0) (mC (.int 0))) [none]) (mNil))))) (mRet (mC (.bl false))) (mSkip)) (mRet (mC (.bl true)))))))))))
theorem me__law_room_right:f__law_room_right=runM N__law_room_right m__law_room_right 3:=by
  unfold f__law_room_right
  rw [show evB (cOf N__law_room_right s__law_room_right g__law_room_right [700187]) (defBody s__law_room_right)=m__law_room_right from rfl]
noncomputable def m__law_more_right:MS:=
  mSeq (mAsg (mVar 2) (gTupD 2 (gConsD (gSet 3) (gConsD (gSet 4) (gNilD))))) (mSeq (mFor (mRange1 (mCons (mVar 1) (mNil))) (gSet 5) (mIfS (mTest (mOp fIn (mCallN 2 f_waiting (mCons (mVar 2) (mCons (mVar 5) (mNil)))) (mTup (mCons (mC (.str "read")) (mCons (mC (.str "write")) (mNil)))))) (mSeq (mAsg (mOp fIxX (mComp (mItS (mVar 4)) (gSet 0) (mTest (mOp fEq (mOp fIxX (mVar 0) (mC (.int 0))) (mVar 1))) (mVar 0) [none,some 5]) (mC (.int 0))) (gSet 6)) (mSeq (mAsg (mOp fAddX (mOp fAddX (mSlice (mVar 3) (mPartN) (mPart (mVar 5))) (mTup (mCons (mC (.str "reads")) (mNil)))) (mSlice (mVar 3) (mPart (mOp fAddX (mVar 5) (mC (.int 1)))) (mPartN))) (gSet 7)) (mSeq (mIfS (mTest (mOp fIsNot (mCallN 2 f_is_room (mCons (mVar 1) (mCons (mTup (mCons (mVar 3) (mCons (mOp fAddX (mVar 4) (mTup (mCons (mVar 6) (mNil)))) (mNil)))) (mNil)))) (mC (.bl false)))) (mRet (mC (.bl false))) (mSkip)) (mIfS (mTest (mOp fIsNot (mCallN 2 f_is_room (mCons (mVar 1) (mCons (mTup (mCons (mVar 7) (mCons (mVar 4) (mNil)))) (mNil)))) (mC (.bl false)))) (mRet (mC (.bl false))) (mSkip))))) (mIfS (mAndT (mTest (mOp fEq (mOp fIxX (mVar 3) (mVar 5)) (mC (.str "out")))) (mTest (mOp fIsNot (mCallN 1 f_writer_in (mCons (mVar 2) (mNil))) (mC .non)))) (mSeq (mAsg (mOp fAddX (mOp fAddX (mSlice (mVar 3) (mPartN) (mPart (mVar 5))) (mTup (mCons (mC (.str "reads")) (mNil)))) (mSlice (mVar 3) (mPart (mOp fAddX (mVar 5) (mC (.int 1)))) (mPartN))) (gSet 7)) (mIfS (mTest (mOp fIsNot (mCallN 2 f_is_safe (mCons (mVar 0) (mCons (mTup (mCons (mVar 7) (mCons (mVar 4) (mNil)))) (mNil)))) (mC (.bl false)))) (mRet (mC (.bl false))) (mSkip))) (mSkip)))) (mRet (mC (.bl true))))
theorem me__law_more_right:f__law_more_right=runM N__law_more_right m__law_more_right 3:=by
  unfold f__law_more_right
  rw [show evB (cOf N__law_more_right s__law_more_right g__law_more_right []) (defBody s__law_more_right)=m__law_more_right from rfl]
noncomputable def m_law:MS:=
  mSeq (mFor (mRange1 (mCons (mOp fAddX (mC (.int 2)) (mCall (fPure fMin2) (mCons (mC (.int 5)) (mCons (mCall (fPure fLen) (mCons (mVar 0) (mNil))) (mNil))))) (mNil))) (gSet 1) (mSeq (mAsg (mCallN 2 f__law_left (mCons (mVar 0) (mCons (mVar 1) (mNil)))) (gSet 2)) (mSeq (mPar 3 4 (mCons (mCallN 1 f__law_rule (mCons (mVar 2) (mNil))) (mCons (mOp fAddX (mC (.int 1)) (mCallN 2 f__law_pick (mCons (mVar 2) (mCons (mC (.int 5)) (mNil))))) (mNil)))) (mSeq (mAsg (mTup (mCons (mOp fMulX (mTup (mCons (mC (.str "out")) (mNil))) (mVar 4)) (mCons (mTup (mNil)) (mNil)))) (gSet 5)) (mFor (mRange1 (mCons (mOp fIxX (mLst (mCons (mC (.int 6)) (mCons (mC (.int 12)) (mCons (mC (.int 20)) (mCons (mC (.int 40)) (mNil)))))) (mCallN 2 f__law_pick (mCons (mVar 2) (mCons (mC (.int 4)) (mNil))))) (mNil))) (gSet 6) (mSeq (mAsg (mCallN 3 f__law_done (mCons (mVar 3) (mCons (mVar 5) (mCons (mCallN 2 f__law_deed (mCons (mVar 2) (mCons (mVar 4) (mNil)))) (mNil))))) (gSet 7)) (mSeq (mIfS (mTest (mOp fIsNot (mVar 7) (mC .non))) (mAsg (mOp fIxX (mVar 7) (mC (.int 0))) (gSet 5)) (mSkip)) (mIfS (mOrT (mNotT (mTru (mCallN 3 f__law_room_right (mCons (mVar 3) (mCons (mVar 4) (mCons (mVar 5) (mNil))))))) (mNotT (mTru (mCallN 3 f__law_more_right (mCons (mVar 3) (mCons (mVar 4) (mCons (mVar 5) (mNil)))))))) (mRet (mC (.bl false))) (mSkip))))))))) (mRet (mC (.bl true)))
theorem me_law:f_law=runM N_law m_law 1:=by
  unfold f_law
  rw [show evB (cOf N_law s_law g_law []) (defBody s_law)=m_law from rfl]
end K05
end
section
namespace K05
open PySem MI PySem.Spec PyProof.Rows L2
open M hiding mC mVar mOp mTest mChain mTru mAndT mOrT mNotT mAnd mOr mNotV mIf mNil mCons mTup mLst mLstR mUn mPartN mPart mSlice mCall mIsI mCallN mSkip mSeq mRet mDrop mIfS gSet gNilD gConsD gTupD gSubD mAsg mRange1 mRange2 mFor mComp mItS mTrue mMeth mEnum mLenSet mPar mCnt mDict mDictR mMethD mForD mListR mCatR
theorem pickOk:PickOk f__law_pick:=fun S r m h h0 h1=>by rw [me__law_pick];exact pick_spec rfl h h0 h1
theorem left {S:Store} {ns:List Int} {k:Int} (h0:0≤k) (h1:k≤100000):∃ a b,f__law_left [.rol (ns.map .int),.int k] S=some (.ref S.length,S++[.lst [.int a,.int b,.int 0]])∧0≤a∧0≤b∧b<2147483647:=by
  rw [me__law_left]
  exact left_spec (N:=N__law_left) (cellAt:=f__law_cell_at) (far:=f__law_far) rfl h0 h1 (fun S k h=>by rw [me__law_cell_at];exact cellAt_spec (N:=N__law_cell_at) rfl h) (fun S=>by rw [me__law_far];exact far_spec (N:=N__law_far) rfl)
theorem putOk (S:Store) (ws:List Wd) (i:Nat) (w:Wd) (h:i<ws.length) (hl:ws.length≤100):f__law_put [wsD ws,.int (i:Int),w.d] S=some (wsD (ws.set i w),S):=by
  rw [me__law_put];exact put_gen (N:=N__law_put) rfl h hl
theorem seOk:SeOk f__law_fronts f__law_lets f__law_put:=
  ⟨fun S r es hl=>by rw [me__law_fronts];exact fronts_gen (N:=N__law_fronts) rfl hl,fun S r ws wr=>by rw [me__law_lets];exact lets_gen (N:=N__law_lets) rfl,putOk⟩
theorem settledOk:SettledOk f__law_settled:=fun S r R h hl=>by
  rw [me__law_settled];exact settled_gen seOk (N:=N__law_settled) rfl h hl
theorem doOk:DoOk f__law_can f__law_asked f__law_settled f__law_marked f__law_put:=
  ⟨fun S R dd hl hd=>by rw [me__law_can];exact can_gen (N:=N__law_can) rfl hl hd,
   fun S r R wr g t h hl hw hs=>by rw [me__law_asked];exact asked_gen settledOk (N:=N__law_asked) rfl h hl hw hs,
   settledOk,fun S r w es hl=>by rw [me__law_marked];exact marked_gen (N:=N__law_marked) rfl hl,putOk⟩
theorem rowOk:RowOk f__law_deed f__law_done:=
  ⟨fun S r n P h1 h5=>by rw [me__law_deed];exact deed_gen pickOk (N:=N__law_deed) rfl P h1 (by omega),
   fun S rl R dd h hl hd=>by rw [me__law_done];exact done_gen doOk (N:=N__law_done) rfl h hl hd⟩
theorem rule {S:Store} {r:Nat} (P:Pk S r):∃ (rl:Rl) (S':Store),f__law_rule [.ref r] S=some (rl.d,S')∧rl.Ok∧Pk S' r∧Keep r S S':=by
  rw [me__law_rule]
  obtain ⟨x,a,b,c,S',e,R,P',K⟩:=rule_genW (pick:=f__law_pick) pickOk (N:=N__law_rule) rfl P
  obtain ⟨w,rfl⟩:=isWord_rw R.w
  exact ⟨⟨w,a,b,c⟩,S',e,⟨R.a0,R.a5,R.b0,R.b9,R.c0,R.c1⟩,P',K⟩
theorem gwOk:GwOk f_guests_with:=fun S R l hl=>by rw [me_guests_with];exact gw_gen (N:=N_guests_with) rfl hl
theorem waitOk:WaitOk f_waiting:=fun S R g hl=>by rw [me_waiting];exact wait_gen gwOk (N:=N_waiting) rfl hl
noncomputable def headD:List Nat→D
  | []=>.non
  | i::_=>ni i
theorem readersOk {S:Store} {R:Rm} (hl:R.1.length≤100):f_readers_in [rmD R] S=some (nt (ixW (fun w=>decide (w∈[.reads,.rising])) R.1),S):=by
  rw [me_readers_in,runM_eq (show [rmD R].length=1 from rfl),show startE N_readers_in [rmD R]=[some (rmD R)] from rfl]
  have g:=gwOk S R [.reads,.rising] hl
  have g':f_guests_with [rmD R,c_READING_WORDS] S=_:=g
  simp only [m_readers_in,mRet_s,mCallN_s,mCons_s,mVar_s,lg0,oj,ob,kRet_s,kCons1_s,mC_s,mNil_s,kCons2_s,kCallN_2,g',kRt_s,outM_rt]
theorem nt_ix0 {S:Store} {i:Nat} {l:List Nat}:fIxX S (nt (i::l)) (.int 0)=some (ni i):=by
  show fIxX S (.tup (ni i::l.map ni)) (.int ((0:Nat):Int))=_
  rw [fIx_t,atI_nat];rfl
theorem writerOk {S:Store} {R:Rm} (hl:R.1.length≤100):f_writer_in [rmD R] S=some (headD (ixW (fun w=>decide (w∈[.writes,.raised])) R.1),S):=by
  rw [me_writer_in,runM_eq (show [rmD R].length=1 from rfl),show startE N_writer_in [rmD R]=[some (rmD R),none] from rfl]
  have g:=gwOk S R [.writes,.raised] hl
  have g':f_guests_with [rmD R,c_WRITING_WORDS] S=_:=g
  generalize ixW (fun w=>decide (w∈[Wd.writes,.raised])) R.1=l at g' ⊢
  cases l with
  | nil=>simp [m_writer_in,g',nt,headD]
  | cons i l=>
    have x0:fIxX S (nt (i::l)) (.int 0)=some (ni i):=nt_ix0
    have tr:kTru (nt (i::l),S)=some (true,S):=rfl
    simp only [m_writer_in,mSeq_s,mAsg_s,mCallN_s,mCons_s,mVar_s,lg0,lg1,lgS,oj,ob,kRet_s,kCons1_s,mC_s,mNil_s,kCons2_s,kCallN_2,g',kAsg_s,gSet_s,ls0,lsS,kNx_s,kSeq_nx,mRet_s,mIf_s,mTru_s,tr,kIf_t,mOp_s,kOp1_s,kOp2_s,x0,kRt_s,outM_rt,headD]
theorem fold_ded:∀ (ns acc:List Int),acc.Nodup→(ns.foldl step_dedup acc).length≤acc.length+ns.length∧((ns.foldl step_dedup acc).length=acc.length+ns.length↔(acc++ns).Nodup)
  | [],acc,h=>by simp [h]
  | n::ns,acc,h=>by
    rw [List.foldl_cons]
    by_cases hm:acc.any (· == n)=true
    · rw [show step_dedup acc n=acc from if_pos hm]
      have hm':n∈acc:=by
        obtain ⟨x,hx,e⟩:=List.any_eq_true.mp hm
        have:x=n:=by simpa using e
        subst this;exact hx
      have ih:=fold_ded ns acc h
      have ih1:(List.foldl step_dedup acc ns).length≤acc.length+ns.length:=ih.1
      refine ⟨by rw [List.length_cons];omega,?_⟩
      constructor
      · intro e
        rw [List.length_cons] at e
        omega
      · intro hd
        exfalso
        rw [List.nodup_append] at hd
        exact hd.2.2 n hm' n List.mem_cons_self rfl
    · rw [show step_dedup acc n=acc++[n] from if_neg hm]
      have hm':n ∉ acc:=fun z=>hm (List.any_eq_true.mpr ⟨n,z,by simp⟩)
      have hn:(acc++[n]).Nodup:=by
        rw [List.nodup_append]
        exact ⟨h,by simp,fun a ha b hb=>by rw [List.mem_singleton.mp hb];rintro rfl;exact hm' ha⟩
      have ih:=fold_ded ns (acc++[n]) hn
      have e:(acc++[n]).length+ns.length=acc.length+(n::ns).length:=by simp;omega
      have e2:acc++[n]++ns=acc++n::ns:=by simp
      rw [e,e2] at ih
      exact ih
theorem range_getD (ns:List Int):((List.range ns.length).map fun i=>ns.getD i 0)=ns:=by
  apply List.ext_getElem?
  intro i
  by_cases h:i<ns.length
  · simp [h]
  · rw [List.getElem?_eq_none (by simp;omega),List.getElem?_eq_none (by omega)]
theorem ded_iff (ns:List Int):dedN ns=ns.length↔ns.Nodup:=by
  unfold dedN firstMet
  rw [range_getD]
  have:=(fold_ded ns [] List.nodup_nil).2
  simpa using this
theorem tupOf {S:Store} {xs:List D} {k:Int}:f_is_tuple_of [.tup xs,.int k] S=some (.bl (decide ((xs.length:Int)=k)),S):=by
  rw [me_is_tuple_of,runM_eq (show [D.tup xs,D.int k].length=2 from rfl),show startE N_is_tuple_of [D.tup xs,D.int k]=[some (.tup xs),some (.int k)] from rfl]
  have it:fIsI "tuple" S (.tup xs)=some (.bl true):=rfl
  simp only [m_is_tuple_of,mRet_s,mAnd_s,mIsI_s,mVar_s,lg0,lg1,lgS,oj,ob,kRet_s,kIsI_s,it,kAnd_t,mOp_s,mCall_s,mCons_s,kCons1_s,mNil_s,kCons2_s,kCall_s,fLen_t,kOp1_s,kOp2_s,fEq_ii,kRt_s,outM_rt]
  rfl
theorem wordWd {S:Store} {w:Wd}:f_is_word [w.d,c_WITHIN_WORDS] S=some (.bl true,S):=by
  rw [me_is_word,runM_eq (show [w.d,c_WITHIN_WORDS].length=2 from rfl),show startE N_is_word [w.d,c_WITHIN_WORDS]=[some w.d,some c_WITHIN_WORDS] from rfl]
  have it:fIsI "str" S w.d=some (.bl true):=rfl
  have fi:fIn S w.d c_WITHIN_WORDS=some (.bl true):=(fIn_ws (l:=[.out,.reads,.rising,.writes,.raised])).trans (by cases w <;> rfl)
  simp only [m_is_word,mRet_s,mAnd_s,mIsI_s,mVar_s,lg0,lg1,lgS,oj,ob,kRet_s,kIsI_s,it,kAnd_t,mOp_s,kOp1_s,kOp2_s,fi,kRt_s,outM_rt]
theorem wordWant {S:Store} {b:Bool}:f_is_word [.str (wantS b),c_WANTS] S=some (.bl true,S):=by
  rw [me_is_word,runM_eq (show [D.str (wantS b),c_WANTS].length=2 from rfl),show startE N_is_word [D.str (wantS b),c_WANTS]=[some (.str (wantS b)),some c_WANTS] from rfl]
  have it:fIsI "str" S (.str (wantS b))=some (.bl true):=rfl
  have fi:fIn S (.str (wantS b)) c_WANTS=some (.bl true):=fIn_rw (by cases b <;> decide +kernel)
  simp only [m_is_word,mRet_s,mAnd_s,mIsI_s,mVar_s,lg0,lg1,lgS,oj,ob,kRet_s,kIsI_s,it,kAnd_t,mOp_s,kOp1_s,kOp2_s,fi,kRt_s,outM_rt]
theorem betOk {S:Store} {i lo hi:Int}:f_is_between [.int i,.int lo,.int hi] S=some (.bl (decide (lo≤i)&&decide (i≤hi)),S):=by
  have wh:f_is_whole [.int i] S=some (.bl true,S):=by
    rw [me_is_whole,runM_eq (show [D.int i].length=1 from rfl),show startE N_is_whole [D.int i]=[some (.int i)] from rfl]
    have i1:fIsI "int" S (.int i)=some (.bl true):=rfl
    have i2:fIsI "bool" S (.int i)=some (.bl false):=rfl
    simp [m_is_whole,i1,i2]
  rw [me_is_between,runM_eq (show [D.int i,D.int lo,D.int hi].length=3 from rfl),show startE N_is_between [D.int i,D.int lo,D.int hi]=[some (.int i),some (.int lo),some (.int hi)] from rfl]
  by_cases h:lo≤i
  · simp [m_is_between,wh,h]
  · simp [m_is_between,wh,h]
theorem withinOk {S:Store} {ws:List Wd} {n:Int} (hl:ws.length≤100):f_is_within [.int n,wsD ws] S=some (.bl (decide ((ws.length:Int)=n)),S):=by
  rw [me_is_within,runM_eq (show [D.int n,wsD ws].length=2 from rfl),show startE N_is_within [D.int n,wsD ws]=[some (.int n),some (wsD ws)] from rfl]
  have t1:f_is_tuple_of [wsD ws,.int n] S=some (.bl (decide ((ws.length:Int)=n)),S):=by rw [show wsD ws=.tup (ws.map Wd.d) from rfl,tupOf,List.length_map]
  have k:=kcomp1 (S:=S) (t:=mTrue) (e:=mCallN 2 f_is_word (mCons (mVar 0) (mCons (mC c_WITHIN_WORDS) (mNil)))) (cap:=[none]) (env:=[some (.int n),some (wsD ws)]) (rest:=[]) (a:=none) (enc:=Wd.d) (p:=fun _=>true) (f:=fun _=>.bl true) (xs:=ws) rfl (by omega) (fun _ _=>mTrue_s) (fun w _ _=>by
    simp only [mCallN_s,mCons_s,mVar_s,lg0,lg1,lgS,oj,ob,kRet_s,kCons1_s,mC_s,mNil_s,kCons2_s,kCallN_2,wordWd])
  rw [List.filter_eq_self.mpr (fun _ _=>rfl)] at k
  have al:fPure fAll [.lst (ws.map fun _=>.bl true)] S=some (.bl true,S):=by
    rw [fAll_l (boolsD_map (p:=fun _=>true) ws)];simp
  have it:kItS (wsD ws,S)=some (ws.map Wd.d,S):=rfl
  simp only [m_is_within,mRet_s,mAnd_s,mCallN_s,mCons_s,mVar_s,lg0,lg1,lgS,oj,ob,kRet_s,kCons1_s,mNil_s,kCons2_s,kCallN_2,t1]
  cases decide ((ws.length:Int)=n) with
  | false=>simp only [kAnd_f,ob,kRt_s,outM_rt]
  | true=>simp only [kAnd_t,mCall_s,mCons_s,mComp_s,mItS_s,mVar_s,lg0,lg1,lgS,oj,ob,kRet_s,it,k,kCons1_s,mNil_s,kCons2_s,kCall_s,al,kRt_s,outM_rt]
noncomputable def leftB:Option Int→Bool
  | none=>true
  | some t=>decide (1≤t)&&decide (t≤9)
noncomputable def waitB (ws:List Wd) (e:En):Bool:=decide (ws[e.g]?=some .out)&&((decide (0≤e.m)&&decide (e.m≤999))&&leftB e.t)
theorem isWaitOk {S:Store} {ws:List Wd} {e:En}:f_is_wait [wsD ws,e.d] S=some (.bl (waitB ws e),S):=by
  rw [me_is_wait,runM_eq (show [wsD ws,e.d].length=2 from rfl),show startE N_is_wait [wsD ws,e.d]=[some (wsD ws),some e.d,none,none,none,none] from rfl]
  have t1:f_is_tuple_of [e.d,.int 4] S=some (.bl true,S):=tupOf
  have g4:∀ env S,gTupD 4 (gConsD (gSet 2) (gConsD (gSet 3) (gConsD (gSet 4) (gConsD (gSet 5) (gNilD))))) e.d env S=(gConsD (gSet 2) (gConsD (gSet 3) (gConsD (gSet 4) (gConsD (gSet 5) (gNilD))))) [.int (e.g:Nat),.str (wantS e.wr),.int e.m,leftD e.t] env S:=fun env S=>gTupD_4
  have b1:f_is_between [.int (e.g:Nat),.int 0,.int ((ws.length:Nat) - 1)] S=some (.bl (decide (e.g<ws.length)),S):=by
    rw [betOk];congr 3;rw [Bool.eq_iff_iff];simp;omega
  have b2:f_is_between [.int e.m,.int 0,c_GREATEST_MARK] S=some (.bl (decide (0≤e.m)&&decide (e.m≤999)),S):=betOk
  simp only [m_is_wait,mSeq_s,mIfS_s,mNotT_s,mTru_s,mCallN_s,mCons_s,mVar_s,lg0,lg1,lgS,oj,ob,kRet_s,kCons1_s,mC_s,mNil_s,kCons2_s,kCallN_2,t1,kTru_b,kNotT_s,Bool.not_true,kIfS_f,mSkip_s,kSeq_nx,mAsg_s,kAsg_s,g4,gConsD_s,gSet_s,kGs_s,gNilD_s,ls0,lsS,kNx_s,mOrT_s,mOp_s,mCall_s,kCall_s,ws_len,kOp1_s,kOp2_s,fSub_i,kCallN_3,b1]
  by_cases hg:e.g<ws.length
  · have hw:ws[e.g]?=some ws[e.g]:=List.getElem?_eq_getElem hg
    have xw:fIxX S (wsD ws) (.int (e.g:Nat))=some (ws[e.g]).d:=ws_ix hw
    generalize ws[e.g]=w at hw xw
    have e2:fNe S w.d (.str "out")=some (.bl (!decide (w=.out))):=fNe_wd (b:=.out)
    simp only [decide_eq_true hg,Bool.not_true,kOrT_f,mTest_s,mOp_s,mVar_s,lg0,lg1,lgS,oj,ob,kRet_s,kOp1_s,kOp2_s,mC_s,xw,e2,kTest_s]
    by_cases ho:w=.out
    · subst ho
      simp only [decide_true,Bool.not_true,kIfS_f,mSkip_s,ob,kSeq_nx,mSeq_s,mIfS_s,mOrT_s,mNotT_s,mTru_s,mCallN_s,mCons_s,mVar_s,lg0,lg1,lgS,oj,kRet_s,kCons1_s,mC_s,mNil_s,kCons2_s,kCallN_2,wordWant,kTru_b,kNotT_s,kOrT_f,kCallN_3,b2]
      unfold waitB
      rw [hw,decide_eq_true rfl,Bool.true_and]
      cases decide (0≤e.m)&&decide (e.m≤999) with
      | false=>simp only [Bool.not_false,kIfS_t,mRet_s,mC_s,ob,kRt_s,kSeq_rt,outM_rt,Bool.false_and]
      | true=>
        cases ht:e.t with
        | none=>
          have i1:isD (leftD none) .non=true:=rfl
          simp only [Bool.not_true,kIfS_f,mSkip_s,ob,kSeq_nx,mRet_s,mOr_s,mOp_s,mVar_s,lg0,lg1,lgS,oj,kRet_s,kOp1_s,mC_s,kOp2_s,fIs_n,i1,kOr_t,kRt_s,outM_rt,leftB,Bool.true_and]
        | some t=>
          have i1:isD (leftD (some t)) .non=false:=rfl
          have b3:f_is_between [leftD (some t),.int 1,c_GREATEST_LEFT] S=some (.bl (decide (1≤t)&&decide (t≤9)),S):=betOk
          simp only [Bool.not_true,kIfS_f,mSkip_s,ob,kSeq_nx,mRet_s,mOr_s,mOp_s,mVar_s,lg0,lg1,lgS,oj,kRet_s,kOp1_s,mC_s,kOp2_s,fIs_n,i1,kOr_f,mCallN_s,mCons_s,kCons1_s,mNil_s,kCons2_s,kCallN_3,b3,kRt_s,outM_rt,leftB,Bool.true_and]
    · unfold waitB
      rw [hw,decide_eq_false (fun z=>ho (Option.some.inj z))]
      simp only [decide_eq_false ho,Bool.not_false,kIfS_t,mRet_s,mC_s,ob,kRt_s,kSeq_rt,outM_rt,Bool.false_and]
  · unfold waitB
    rw [List.getElem?_eq_none (by omega)]
    simp only [decide_eq_false hg,Bool.not_false,kOrT_t,ob,kIfS_t,mRet_s,mC_s,kRt_s,kSeq_rt,outM_rt]
    rfl
noncomputable def nodB (es:List En):Bool:=decide ((es.map (·.g)).Nodup)
theorem ded_g {es:List En}:(dedN (es.map fun e=>(e.g:Int)) == es.length)=nodB es:=by
  unfold nodB
  rw [Bool.eq_iff_iff,beq_iff_eq,decide_eq_true_eq]
  have:=ded_iff (es.map fun e=>(e.g:Int))
  rw [List.length_map] at this
  rw [this]
  have hm:(es.map fun e=>(e.g:Int))=(es.map (·.g)).map fun (i:Nat)=>(i:Int):=by rw [List.map_map];rfl
  rw [hm]
  constructor
  · intro h;exact (List.pairwise_map.mp h).imp fun h z=>h (by rw [z])
  · intro h;exact List.pairwise_map.mpr (h.imp fun h z=>h (by omega))
theorem areWaitsOk {S:Store} {ws:List Wd} {es:List En} (hl:es.length<64):f_are_waits [wsD ws,esD es] S=some (.bl (es.all (waitB ws)&&nodB es),S):=by
  rw [me_are_waits,runM_eq (show [wsD ws,esD es].length=2 from rfl),show startE N_are_waits [wsD ws,esD es]=[some (wsD ws),some (esD es),none] from rfl]
  have it:fIsI "tuple" S (esD es)=some (.bl true):=rfl
  have k:=kcomp1 (S:=S) (t:=mTrue) (e:=mCallN 2 f_is_wait (mCons (mVar 1) (mCons (mVar 0) (mNil)))) (cap:=[none,some 0]) (env:=[some (wsD ws),some (esD es),none]) (rest:=[some (wsD ws)]) (a:=none) (enc:=En.d) (p:=fun _=>true) (f:=fun e=>.bl (waitB ws e)) (xs:=es) rfl (by omega) (fun _ _=>mTrue_s) (fun w _ _=>by
    simp only [mCallN_s,mCons_s,mVar_s,lg0,lg1,lgS,oj,ob,kRet_s,kCons1_s,mNil_s,kCons2_s,kCallN_2,isWaitOk])
  rw [List.filter_eq_self.mpr (fun _ _=>rfl)] at k
  have al:fPure fAll [.lst (es.map fun e=>.bl (waitB ws e))] S=some (.bl (es.all (waitB ws)),S):=by
    rw [fAll_l (boolsD_map (p:=waitB ws) es)];congr 3;rw [List.all_map];rfl
  have gs:=gsC (S:=S) (es:=es) (cap:=[none]) (env:=[some (wsD ws),some (esD es),none]) rfl (by omega)
  have ml:(es.map fun e=>D.int (e.g:Int))=(es.map fun e=>(e.g:Int)).map .int:=by rw [List.map_map];rfl
  have ks:kLenSet ([.lst (es.map fun e=>.int (e.g:Int))],S)=some (.int (dedN (es.map fun e=>(e.g:Int)):Nat),S):=by rw [ml];exact kLenSet_l (by rw [List.length_map];exact hl)
  have ln:fPure fLen [.lst (es.map fun e=>.int (e.g:Int))] S=some (.int (es.length:Nat),S):=by rw [fLen_l,List.length_map]
  simp only [m_are_waits,mSeq_s,mIfS_s,mOrT_s,mNotT_s,mTru_s,mIsI_s,mVar_s,lg0,lg1,lgS,oj,ob,kRet_s,kIsI_s,it,kTru_b,kNotT_s,Bool.not_true,kOrT_f,mCall_s,mCons_s,mComp_s,mItS_s,es_kItS,k,kCons1_s,mNil_s,kCons2_s,kCall_s,al]
  cases es.all (waitB ws) with
  | false=>simp only [Bool.not_false,kIfS_t,mRet_s,mC_s,ob,kRt_s,kSeq_rt,outM_rt,Bool.false_and]
  | true=>
    simp only [Bool.not_true,kIfS_f,mSkip_s,ob,kSeq_nx,mSeq_s,mAsg_s,mComp_s,mItS_s,mVar_s,lg0,lg1,lgS,oj,kRet_s,es_kItS,gs,kAsg_s,gSet_s,ls0,lsS,kNx_s,mRet_s,mOp_s,mLenSet_s,mCons_s,kCons1_s,mNil_s,kCons2_s,ks,kOp1_s,mCall_s,kCall_s,ln,kOp2_s,fEq_ii,kRt_s,outM_rt,Bool.true_and]
    congr 3
    rw [← ded_g,Bool.eq_iff_iff];simp;omega
theorem roomOk {S:Store} {ws:List Wd} {es:List En} {n:Nat} (h1:ws.length≤100) (hl:es.length<64):f_is_room [.int (n:Int),rmD (ws,es)] S=some (.bl (decide (ws.length=n)&&(es.all (waitB ws)&&nodB es)),S):=by
  rw [me_is_room,runM_eq (show [D.int (n:Int),rmD (ws,es)].length=2 from rfl),show startE N_is_room [D.int (n:Int),rmD (ws,es)]=[some (.int (n:Int)),some (rmD (ws,es)),none,none] from rfl]
  have t1:f_is_tuple_of [rmD (ws,es),.int 2] S=some (.bl true,S):=tupOf
  have g2:∀ env S,gTupD 2 (gConsD (gSet 2) (gConsD (gSet 3) (gNilD))) (rmD (ws,es)) env S=(gConsD (gSet 2) (gConsD (gSet 3) (gNilD))) [wsD ws,esD es] env S:=fun env S=>gTupD_2
  have w1:f_is_within [.int (n:Int),wsD ws] S=some (.bl (decide (ws.length=n)),S):=by
    rw [withinOk h1];congr 3;rw [Bool.eq_iff_iff];simp;omega
  simp only [m_is_room,mSeq_s,mIfS_s,mNotT_s,mTru_s,mCallN_s,mCons_s,mVar_s,lg0,lg1,lgS,oj,ob,kRet_s,kCons1_s,mC_s,mNil_s,kCons2_s,kCallN_2,t1,kTru_b,kNotT_s,Bool.not_true,kIfS_f,mSkip_s,kSeq_nx,mAsg_s,kAsg_s,g2,gConsD_s,gSet_s,kGs_s,gNilD_s,ls0,lsS,kNx_s,mRet_s,mAnd_s,w1]
  cases decide (ws.length=n) with
  | false=>simp only [kAnd_f,ob,kRt_s,outM_rt,Bool.false_and]
  | true=>simp only [kAnd_t,mCallN_s,mCons_s,mVar_s,lg0,lg1,lgS,oj,ob,kRet_s,kCons1_s,mNil_s,kCons2_s,kCallN_2,areWaitsOk hl,kRt_s,outM_rt,Bool.true_and]
theorem ixW_cnt {p:Wd→Bool} {ws:List Wd}:(ixW p ws).length=ws.countP p:=by
  unfold ixW
  rw [List.length_map,← List.countP_eq_length_filter]
  have:∀ (ws:List Wd) (k:Nat),(ws.zipIdx k).countP (fun q=>p q.1)=ws.countP p:=fun ws=>by
    induction ws with
    | nil=>intro k;rfl
    | cons w l ih=>intro k;rw [List.zipIdx_cons,List.countP_cons,List.countP_cons,ih]
  exact this ws 0
theorem cnt2 {a b:Wd} (h:a≠b) (ws:List Wd):ws.countP (fun w=>decide (w∈[a,b]))=ws.count a+ws.count b:=by
  induction ws with
  | nil=>rfl
  | cons w l ih=>
    rw [List.countP_cons,List.count_cons,List.count_cons,ih]
    by_cases h1:w=a
    · subst h1;simp [h];omega
    · by_cases h2:w=b
      · subst h2;simp [h1];omega
      · simp [h1,h2]
theorem cnt1 {a:Wd} (ws:List Wd):ws.countP (fun w=>decide (w∈[a]))=ws.count a:=by
  rw [List.count];congr 1;funext w;rw [Bool.eq_iff_iff];simp
noncomputable def safeB (r:Rl) (ws:List Wd):Bool:=
  if 1<ws.count .writes+ws.count .raised∨1<ws.count .rising then false else if ws.count .writes+ws.count .raised=1∧0<ws.count .reads+ws.count .rising then false else decide (r.a=0)||decide (((ws.count .reads+ws.count .rising:Nat):Int)≤r.a)
theorem nt_len {S:Store} {l:List Nat}:fPure fLen [nt l] S=some (.int (l.length:Nat),S):=by rw [show nt l=.tup (l.map ni) from rfl,fLen_t,List.length_map]
theorem safeOk {S:Store} {r:Rl} {R:Rm} (hl:R.1.length≤100):f_is_safe [r.d,rmD R] S=some (.bl (safeB r R.1),S):=by
  rw [me_is_safe,runM_eq (show [r.d,rmD R].length=2 from rfl),show startE N_is_safe [r.d,rmD R]=[some r.d,some (rmD R),none,none,none,none] from rfl]
  have g1:f_readers_in [rmD R] S=_:=readersOk hl
  have g2:f_guests_with [rmD R,c_WRITING_WORDS] S=_:=gwOk S R [.writes,.raised] hl
  have g3:f_guests_with [rmD R,.tup [.str "rising"]] S=_:=gwOk S R [.rising] hl
  have k1:kTup ([.str "rising"],S)=some (.tup [.str "rising"],S):=kTup_of (by simp)
  simp only [m_is_safe,mSeq_s,mAsg_s,mOp_s,mVar_s,lg0,lg1,lgS,oj,ob,kRet_s,kOp1_s,mC_s,kOp2_s,Rl.ix1,kAsg_s,gSet_s,ls0,lsS,kNx_s,kSeq_nx,mCall_s,mCons_s,mCallN_s,kCons1_s,mNil_s,kCons2_s,kCallN_1,g1,kCall_s,nt_len,kCallN_2,g2,mTup_s,k1,g3,mIfS_s,mOrT_s,mTest_s,ixW_cnt,cnt1,cnt2 (show Wd.reads≠.rising by decide),cnt2 (show Wd.writes≠.raised by decide),fGt_i,kTest_s]
  unfold safeB
  generalize R.1.count .writes+R.1.count .raised=w
  generalize R.1.count .rising=g
  generalize R.1.count .reads+g=d
  by_cases h1:1<w
  · rw [if_pos (.inl h1)]
    simp only [show decide (((w:Nat):Int)>1)=true from decide_eq_true (by omega),kOrT_t,ob,kIfS_t,mRet_s,mC_s,kRt_s,kSeq_rt,outM_rt]
  · by_cases h2:1<g
    · rw [if_pos (.inr h2)]
      simp only [show decide (((w:Nat):Int)>1)=false from decide_eq_false (by omega),kOrT_f,mTest_s,mOp_s,mVar_s,lg0,lg1,lgS,oj,kRet_s,kOp1_s,mC_s,kOp2_s,fGt_i,show decide (((g:Nat):Int)>1)=true from decide_eq_true (by omega),kTest_s,ob,kIfS_t,mRet_s,kRt_s,kSeq_rt,outM_rt]
    · rw [if_neg (by omega)]
      simp only [show decide (((w:Nat):Int)>1)=false from decide_eq_false (by omega),kOrT_f,mTest_s,mOp_s,mVar_s,lg0,lg1,lgS,oj,kRet_s,kOp1_s,mC_s,kOp2_s,fGt_i,show decide (((g:Nat):Int)>1)=false from decide_eq_false (by omega),kTest_s,ob,kIfS_f,mSkip_s,kSeq_nx,mSeq_s,mIfS_s,mAndT_s,fEq_ii]
      have last:∀ env:MEnv,env=[some r.d,some (rmD R),some (.int r.a),some (.int (d:Nat)),some (.int (w:Nat)),some (.int (g:Nat))]→(mRet (mOr (mOp fEq (mVar 2) (mC (.int 0))) (mOp fLe (mVar 3) (mVar 2))) env S).bind outM=some (.bl (decide (r.a=0)||decide (((d:Nat):Int)≤r.a)),S):=fun env he=>by
        subst he
        by_cases ha:r.a=0
        · simp [ha]
        · simp [ha,beq_eq_false_iff_ne.mpr ha]
      by_cases h3:w=1
      · have q1:(((w:Nat):Int) == 1)=true:=by rw [beq_iff_eq];omega
        by_cases h4:0<d
        · rw [if_pos ⟨h3,h4⟩]
          simp only [q1,kAndT_t,mTest_s,mOp_s,mVar_s,lg0,lg1,lgS,oj,ob,kRet_s,kOp1_s,mC_s,kOp2_s,fGt_i,show decide (((d:Nat):Int)>0)=true from decide_eq_true (by omega),kTest_s,kIfS_t,mRet_s,kRt_s,kSeq_rt,outM_rt]
        · rw [if_neg (fun z=>h4 z.2)]
          simp only [q1,kAndT_t,mTest_s,mOp_s,mVar_s,lg0,lg1,lgS,oj,ob,kRet_s,kOp1_s,mC_s,kOp2_s,fGt_i,show decide (((d:Nat):Int)>0)=false from decide_eq_false (by omega),kTest_s,kIfS_f,mSkip_s,kSeq_nx]
          exact last _ rfl
      · have q1:(((w:Nat):Int) == 1)=false:=by rw [beq_eq_false_iff_ne];omega
        rw [if_neg (fun z=>h3 z.1)]
        simp only [q1,kAndT_f,ob,kIfS_f,mSkip_s,kSeq_nx]
        exact last _ rfl
theorem ixW_nd {p:Wd→Bool} {ws:List Wd}:(ixW p ws).Nodup:=by
  unfold ixW
  have h:((ws.zipIdx.filter fun q=>p q.1).map (·.2)).Sublist (ws.zipIdx.map (·.2)):=List.filter_sublist.map _
  refine h.nodup ?_
  rw [List.zipIdx_map_snd]
  exact List.nodup_range'
theorem cnt_nd {l:List Nat} (h:l.Nodup) (a:Nat):l.count a=if a∈l then 1 else 0:=by
  by_cases ha:a∈l
  · rw [if_pos ha,h.count,if_pos ha]
  · rw [if_neg ha];exact List.count_eq_zero.mpr ha
theorem perm4 {a b c d e:List Nat} (ha:a.Nodup) (hb:b.Nodup) (hc:c.Nodup) (hd:d.Nodup) (he:e.Nodup) (h:∀ x,(if x∈a then 1 else 0)+(if x∈b then 1 else 0)+(if x∈c then 1 else 0)+(if x∈d then 1 else 0)=if x∈e then 1 else 0):(a++b++c++d).Perm e:=
  List.perm_iff_count.mpr fun x=>by
    rw [List.count_append,List.count_append,List.count_append,cnt_nd ha,cnt_nd hb,cnt_nd hc,cnt_nd hd,cnt_nd he];exact h x
noncomputable def toI (l:List Nat):List Int:=l.map fun (i:Nat)=>(i:Int)
theorem toI_pw {l:List Nat} (h:l.Pairwise (·≤·)):(toI l).Pairwise (·≤·):=List.pairwise_map.mpr (h.imp fun h=>by omega)
theorem isort_of {l m:List Nat} (h:l.Perm m) (hm:m.Pairwise (·≤·)):isort (toI l)=toI m:=
  sorted_unique ((isort_perm _).trans (h.map _)) (isort_pw _) (toI_pw hm)
theorem nl_toI (l:List Nat):nl l=.lst ((toI l).map .int):=by unfold nl toI ni;rw [List.map_map];rfl
theorem range_le (n:Nat):(List.range n).Pairwise (·≤·):=List.pairwise_lt_range.imp fun h=>Nat.le_of_lt h
noncomputable def askB (R:Rm) (g:Nat):Bool:=!decide (R.1[g]?=some .rising)&&staysB R.2 g
noncomputable def calmB (R:Rm) (g:Nat):Bool:=decide (R.1[g]?=some .out) && !(decide (R.1[g]?=some .rising)||staysB R.2 g)
noncomputable def rdL (R:Rm):List Nat:=ixW (fun w=>decide (w∈[.reads,.rising])) R.1
noncomputable def wrL (R:Rm):List Nat:=ixW (fun w=>decide (w∈[.writes,.raised])) R.1
noncomputable def askL' (R:Rm) (n:Nat):List Nat:=(List.range n).filter (askB R)
noncomputable def calmL (R:Rm) (n:Nat):List Nat:=(List.range n).filter (calmB R)
theorem stays_out {R:Rm} (h:ROk R) {g:Nat} (hs:staysB R.2 g=true):R.1[g]?=some .out:=by
  obtain ⟨e,he,hg⟩:=List.any_eq_true.mp hs
  have:=h.out e he
  rwa [of_decide_eq_true hg] at this
theorem ask_stays {R:Rm} (h:ROk R) {g:Nat}:askB R g=staysB R.2 g:=by
  unfold askB
  cases hs:staysB R.2 g with
  | false=>rw [Bool.and_false]
  | true=>rw [stays_out h hs];rfl
theorem each_once {R:Rm} (h:ROk R):(rdL R++askL' R R.1.length++calmL R R.1.length++wrL R).Perm (List.range R.1.length):=by
  have nr:=(List.nodup_range:(List.range R.1.length).Nodup)
  refine perm4 ixW_nd (nr.filter _) (nr.filter _) ixW_nd nr fun x=>?_
  simp only [rdL,wrL,askL',calmL,mem_ixW,List.mem_filter,List.mem_range,ask_stays h,calmB]
  cases hx:R.1[x]? with
  | none=>
    have hn:¬ x<R.1.length:=fun z=>by rw [List.getElem?_eq_getElem z] at hx;cases hx
    simp [hn]
  | some w=>
    have hlt:=(List.getElem?_eq_some_iff.mp hx).1
    have no:(staysB R.2 x=true→False)→staysB R.2 x=false:=fun z=>by
      cases q:staysB R.2 x with
      | false=>rfl
      | true=>exact (z q).elim
    have hw:staysB R.2 x=true→w=.out:=fun z=>by have:=stays_out h z;rw [hx] at this;exact Option.some.inj this
    cases w with
    | out=>cases staysB R.2 x <;> simp [hlt]
    | reads=>
      have:staysB R.2 x=false:=no (by intro z;cases hw z)
      simp [hlt,this]
    | rising=>
      have:staysB R.2 x=false:=no (by intro z;cases hw z)
      simp [hlt,this]
    | writes=>
      have:staysB R.2 x=false:=no (by intro z;cases hw z)
      simp [hlt,this]
    | raised=>
      have:staysB R.2 x=false:=no (by intro z;cases hw z)
      simp [hlt,this]
theorem asks_sorted {R:Rm} (h:ROk R):isort (toI (R.2.map (·.g)))=toI (askL' R R.1.length):=by
  refine isort_of ?_ ((range_le _).filter _)
  refine (List.perm_ext_iff_of_nodup h.nd (List.nodup_range.filter _)).mpr fun x=>?_
  rw [List.mem_filter,List.mem_range,ask_stays h,List.mem_map]
  constructor
  · rintro ⟨e,he,rfl⟩
    exact ⟨h.lt he,List.any_eq_true.mpr ⟨e,he,decide_eq_true rfl⟩⟩
  · rintro ⟨_,hs⟩
    obtain ⟨e,he,hg⟩:=List.any_eq_true.mp hs
    exact ⟨e,he,of_decide_eq_true hg⟩
theorem waitIn {S:Store} {R:Rm} {g:Nat}:fIn S (waitD R g) (.tup [.str "read",.str "write"])=some (.bl (askB R g)):=by
  unfold waitD askB
  rw [← find_stays]
  by_cases h:R.1[g]?=some .rising
  · rw [if_pos h,decide_eq_true h,Bool.not_true,Bool.false_and]
    exact fIn_rw (by decide +kernel)
  · rw [if_neg h,decide_eq_false h,Bool.not_false,Bool.true_and]
    cases R.2.find? fun e=>decide (e.g=g) with
    | none=>rw [fIn_ok (ys:=[.str "read",.str "write"]) rfl rfl rfl];rfl
    | some e=>exact fIn_rw (show _=true by cases e.wr <;> decide +kernel)
noncomputable def rrAsk:ME:=mComp (mRange1 (mCons (mVar 1) (mNil))) (gSet 0) (mTest (mOp fIn (mCallN 2 f_waiting (mCons (mVar 1) (mCons (mVar 0) (mNil)))) (mTup (mCons (mC (.str "read")) (mCons (mC (.str "write")) (mNil)))))) (mVar 0) [none,some 2]
noncomputable def rrCalm:ME:=mComp (mRange1 (mCons (mVar 1) (mNil))) (gSet 0) (mAndT (mTest (mOp fEq (mOp fIxX (mOp fIxX (mVar 1) (mC (.int 0))) (mVar 0)) (mC (.str "out")))) (mTest (mOp fIs (mCallN 2 f_waiting (mCons (mVar 1) (mCons (mVar 0) (mNil)))) (mC .non)))) (mVar 0) [none,some 2]
noncomputable def rrSome:ME:=mCatR (mCatR (mCall (fPure (fSeq1 .lst)) (mCons (mVar 3) (mNil))) (mVar 5)) (mVar 6)
noncomputable def rrT1:MT:=mAndT (mTest (mOp fIsNot (mVar 4) (mC .non))) (mTest (mOp fNe (mVar 3) (mTup (mNil))))
noncomputable def rrT2:MT:=mTest (mChain fLt fLt (mC (.int 0)) (mOp fIxX (mVar 0) (mC (.int 1))) (mCall (fPure fLen) (mCons (mVar 3) (mNil))))
noncomputable def rrE2:MS:=mSeq (mIfS (mTest (mOp fNe (mVar 5) (mCall (fPure fSorted) (mCons (mComp (mItS (mOp fIxX (mVar 2) (mC (.int 1)))) (gSet 0) (mTrue) (mOp fIxX (mVar 0) (mC (.int 0))) [none]) (mNil))))) (mRet (mC (.bl false))) (mSkip)) (mRet (mC (.bl true)))
noncomputable def rrEnd:MS:=mSeq (mIfS (mOrT rrT1 rrT2) (mRet (mC (.bl false))) (mSkip)) rrE2
noncomputable def rrMid:MS:=mSeq (mAsg rrSome (gSet 7)) (mSeq (mIfS (mTest (mOp fIsNot (mVar 4) (mC .non))) (mDrop (mMeth fAppend (mVar 7) (mCons (mVar 4) (mNil)))) (mSkip)) (mSeq (mIfS (mTest (mOp fNe (mCall (fPure fSorted) (mCons (mVar 7) (mNil))) (mListR (mCons (mVar 1) (mNil))))) (mRet (mC (.bl false))) (mSkip)) rrEnd))
noncomputable def rrAll:MS:=mSeq (mIfS (mOrT (mTest (mOp fIsNot (mCallN 2 f_is_room (mCons (mVar 1) (mCons (mVar 2) (mNil)))) (mC (.bl true)))) (mTest (mOp fIsNot (mCallN 2 f_is_safe (mCons (mVar 0) (mCons (mVar 2) (mNil)))) (mC (.bl true))))) (mRet (mC (.bl false))) (mSkip)) (mSeq (mPar 3 4 (mCons (mCallN 1 f_readers_in (mCons (mVar 2) (mNil))) (mCons (mCallN 1 f_writer_in (mCons (mVar 2) (mNil))) (mNil)))) (mSeq (mAsg rrAsk (gSet 5)) (mSeq (mAsg rrCalm (gSet 6)) rrMid)))
theorem rg1 {S:Store} {n:Nat} {env:MEnv} (h:mVar 1 env S=some (.int (n:Int),S)) (h5:n≤100):mRange1 (mCons (mVar 1) (mNil)) env S=some ((List.range n).map ni,S):=by
  have:kR1 ([.int (n:Int)],S)=some (rangeD 0 n,S):=by rw [kR1_of (by omega) (by omega)];rfl
  simp only [mRange1_s,mCons_s,h,ob,kCons1_s,mNil_s,kCons2_s,this,rangeD_ni]
theorem rrAsk_eq {S:Store} {R:Rm} {n:Nat} {a0 a3 a4 a5 a6 a7:Option D} (hl:R.1.length≤100) (h5:n≤100):rrAsk [a0,some (.int (n:Int)),some (rmD R),a3,a4,a5,a6,a7] S=some (nl (askL' R n),S):=by
  have k2:kTup ([.str "read",.str "write"],S)=some (.tup [.str "read",.str "write"],S):=kTup_of (by simp)
  have k:=kcomp1 (S:=S) (t:=mTest (mOp fIn (mCallN 2 f_waiting (mCons (mVar 1) (mCons (mVar 0) (mNil)))) (mTup (mCons (mC (.str "read")) (mCons (mC (.str "write")) (mNil)))))) (e:=mVar 0) (cap:=[none,some 2]) (env:=[a0,some (.int (n:Int)),some (rmD R),a3,a4,a5,a6,a7]) (rest:=[some (rmD R)]) (a:=none) (enc:=ni) (p:=askB R) (f:=ni) (xs:=List.range n) rfl (by rw [List.length_range];omega) (fun g _=>by
    have w:f_waiting [rmD R,ni g] S=_:=waitOk S R g hl
    simp only [mTest_s,mOp_s,mCallN_s,mCons_s,mVar_s,lg0,lg1,lgS,oj,ob,kRet_s,kCons1_s,mNil_s,kCons2_s,kCallN_2,w,kOp1_s,mTup_s,mC_s,k2,kOp2_s,waitIn,kTest_s]) (fun g _ _=>by simp only [mVar_s,lg0,oj,ob,kRet_s])
  have r:=rg1 (S:=S) (n:=n) (env:=[a0,some (.int (n:Int)),some (rmD R),a3,a4,a5,a6,a7]) (by simp only [mVar_s,lg0,lg1,lgS,oj,ob,kRet_s]) h5
  simp only [rrAsk,mComp_s,r,ob,k];rfl
theorem rrCalm_eq {S:Store} {R:Rm} {a0 a3 a4 a5 a6 a7:Option D} (hl:R.1.length≤100):rrCalm [a0,some (.int (R.1.length:Int)),some (rmD R),a3,a4,a5,a6,a7] S=some (nl (calmL R R.1.length),S):=by
  have k:=kcomp1 (S:=S) (t:=mAndT (mTest (mOp fEq (mOp fIxX (mOp fIxX (mVar 1) (mC (.int 0))) (mVar 0)) (mC (.str "out")))) (mTest (mOp fIs (mCallN 2 f_waiting (mCons (mVar 1) (mCons (mVar 0) (mNil)))) (mC .non)))) (e:=mVar 0) (cap:=[none,some 2]) (env:=[a0,some (.int (R.1.length:Int)),some (rmD R),a3,a4,a5,a6,a7]) (rest:=[some (rmD R)]) (a:=none) (enc:=ni) (p:=calmB R) (f:=ni) (xs:=List.range R.1.length) rfl (by rw [List.length_range];omega) (fun g hg=>by
    have w:f_waiting [rmD R,ni g] S=_:=waitOk S R g hl
    have rx:fIxX S (rmD R) (.int 0)=some (wsD R.1):=rfl
    obtain ⟨v,hw⟩:∃ v,R.1[g]?=some v:=⟨_,List.getElem?_eq_getElem (List.mem_range.mp hg)⟩
    have xw:fIxX S (wsD R.1) (ni g)=some v.d:=ws_ix hw
    have e3:fEq S v.d (.str "out")=some (.bl (decide (v=.out))):=fEq_wd (b:=.out)
    simp only [mAndT_s,mTest_s,mOp_s,mVar_s,lg0,lg1,lgS,oj,ob,kRet_s,kOp1_s,mC_s,kOp2_s,rx,xw,e3,kTest_s]
    unfold calmB
    by_cases ho:v=.out
    · have ho':R.1[g]?=some .out:=by rw [hw,ho]
      simp only [decide_eq_true ho,decide_eq_true ho',kAndT_t,mTest_s,mOp_s,mCallN_s,mCons_s,mVar_s,lg0,lg1,lgS,oj,ob,kRet_s,kCons1_s,mNil_s,kCons2_s,kCallN_2,w,kOp1_s,mC_s,kOp2_s,fIs_n,wait_non_b,kTest_s,Bool.true_and]
    · have ho':¬ R.1[g]?=some .out:=fun z=>by rw [hw] at z;exact ho (Option.some.inj z)
      simp only [decide_eq_false ho,decide_eq_false ho',kAndT_f,Bool.false_and]) (fun g _ _=>by simp only [mVar_s,lg0,oj,ob,kRet_s])
  have r:=rg1 (S:=S) (n:=R.1.length) (env:=[a0,some (.int (R.1.length:Int)),some (rmD R),a3,a4,a5,a6,a7]) (by simp only [mVar_s,lg0,lg1,lgS,oj,ob,kRet_s]) hl
  simp only [rrCalm,mComp_s,r,ob,k];rfl
theorem kCat2_r {S:Store} {xs ys:List D} (h:xs.length+ys.length≤1000):kCat2 (.ref S.length) (.lst ys,S++[.lst xs])=some (.ref (S++[Cell.lst xs]).length,(S++[.lst xs])++[.lst (xs++ys)]):=by
  show (lstOf (S++[Cell.lst xs]) (.ref S.length)).bind _=_
  have:lstOf (S++[Cell.lst xs]) (.ref S.length)=some xs:=by
    show (match (S++[Cell.lst xs])[S.length]? with | some (.lst xs)=>some xs | _=>none)=_
    rw [app_get]
  rw [this]
  exact if_pos (sz h)
theorem fSorted_r {S:Store} {r:Nat} {ns:List Int} (hr:S[r]?=some (.lst (ns.map .int))) (h:ns.length<64):fPure fSorted [.ref r] S=some (.lst ((isort ns).map .int),S):=by
  have:intsL S (.ref r)=some ns:=by
    unfold intsL
    rw [if_pos (by simp only [lstB,hr])]
    have:seqD S (.ref r)=some (ns.map .int):=by simp only [seqD,hr]
    rw [this,ob,intsOf_map,ob,if_pos h]
  show (fSorted S [.ref r]).bind _=_
  simp only [fSorted,this]
  rfl
theorem okD_nl {l:List Nat}:okD 40 (nl l)=true:=by
  show ((l.map ni).all (okD 39))=true
  rw [List.all_eq_true];intro d hd;obtain ⟨i,_,rfl⟩:=List.mem_map.mp hd;rfl
theorem rd_len {R:Rm}:(rdL R).length=R.1.count .reads+R.1.count .rising:=by unfold rdL;rw [ixW_cnt,cnt2 (by decide)]
theorem wr_len {R:Rm}:(wrL R).length=R.1.count .writes+R.1.count .raised:=by unfold wrL;rw [ixW_cnt,cnt2 (by decide)]
theorem rrEnd_ok {S:Store} {r:Rl} {R:Rm} {a1 a6 a7:Option D} (h:ROk R) (s:Saf r R.1) (hl:R.1.length≤5):rrEnd [some r.d,a1,some (rmD R),some (nt (rdL R)),some (headD (wrL R)),some (nl (askL' R R.1.length)),a6,a7] S=some (.rt (.bl true) S):=by
  have hle:=h.len
  have rx:fIxX S (rmD R) (.int 1)=some (esD R.2):=rfl
  have gs:=gsC (S:=S) (es:=R.2) (cap:=[none]) (env:=[some r.d,a1,some (rmD R),some (nt (rdL R)),some (headD (wrL R)),some (nl (askL' R R.1.length)),a6,a7]) rfl (by omega)
  have ml:(R.2.map fun e=>D.int (e.g:Int))=(toI (R.2.map (·.g))).map .int:=by unfold toI;rw [List.map_map,List.map_map];rfl
  have so:fPure fSorted [.lst (R.2.map fun e=>.int (e.g:Int))] S=some (nl (askL' R R.1.length),S):=by
    rw [ml,fSorted_l (by simp only [toI,List.length_map];omega),asks_sorted h,nl_toI]
  have ne:fNe S (nl (askL' R R.1.length)) (nl (askL' R R.1.length))=some (.bl false):=fNe_self okD_nl
  have k0:kTup ([],S)=some (.tup [],S):=kTup_of (by simp)
  have e2:rrE2 [some r.d,a1,some (rmD R),some (nt (rdL R)),some (headD (wrL R)),some (nl (askL' R R.1.length)),a6,a7] S=some (.rt (.bl true) S):=by
    simp only [rrE2,mSeq_s,mIfS_s,mTest_s,mOp_s,mVar_s,lg0,lg1,lgS,oj,ob,kRet_s,kOp1_s,mCall_s,mCons_s,mComp_s,mItS_s,mC_s,kOp2_s,rx,es_kItS,gs,kCons1_s,mNil_s,kCons2_s,kCall_s,so,ne,kTest_s,kIfS_f,mSkip_s,kSeq_nx,mRet_s,kRt_s]
  have t2:rrT2 [some r.d,a1,some (rmD R),some (nt (rdL R)),some (headD (wrL R)),some (nl (askL' R R.1.length)),a6,a7] S=some (false,S):=by
    have ln:fPure fLen [nt (rdL R)] S=some (.int ((rdL R).length:Nat),S):=nt_len
    rw [rd_len] at ln
    by_cases ha:0<r.a
    · have hb:decide (r.a<((R.1.count .reads+R.1.count .rising:Nat):Int))=false:=decide_eq_false (by rcases s.mo with z | z <;> omega)
      simp only [rrT2,mTest_s,mChain_s,mC_s,ob,kCh1_s,mOp_s,mVar_s,lg0,lg1,lgS,oj,kRet_s,kOp1_s,kOp2_s,Rl.ix1,kCh2_s,fLt_i,decide_eq_true ha,kChz_t,mCall_s,mCons_s,kCons1_s,mNil_s,kCons2_s,kCall_s,ln,kCh3_s,hb,kTest_s]
    · simp only [rrT2,mTest_s,mChain_s,mC_s,ob,kCh1_s,mOp_s,mVar_s,lg0,lg1,lgS,oj,kRet_s,kOp1_s,kOp2_s,Rl.ix1,kCh2_s,fLt_i,decide_eq_false ha,kChz_f,kTest_s]
  have t1:rrT1 [some r.d,a1,some (rmD R),some (nt (rdL R)),some (headD (wrL R)),some (nl (askL' R R.1.length)),a6,a7] S=some (false,S):=by
    simp only [rrT1,mAndT_s,mTest_s,mOp_s,mVar_s,lg0,lg1,lgS,oj,ob,kRet_s,kOp1_s,mC_s,kOp2_s,fIsNot_n]
    cases hw:wrL R with
    | nil=>
      have:isD (headD []) .non=true:=rfl
      simp only [this,Bool.not_true,kTest_s,ob,kAndT_f]
    | cons i l=>
      have hn:rdL R=[]:=by
        have h1:=wr_len (R:=R)
        have h2:=rd_len (R:=R)
        rw [hw,List.length_cons] at h1
        have:=s.w1
        have:=s.al (by omega)
        exact List.length_eq_zero_iff.mp (by omega)
      rw [hn]
      have i1:isD (headD (i::l)) .non=false:=rfl
      have n1:fNe S (nt []) (.tup [])=some (.bl false):=fNe_self (x:=.tup []) rfl
      simp only [i1,Bool.not_false,kTest_s,kAndT_t,mTest_s,mOp_s,mVar_s,lg0,lg1,lgS,oj,ob,kRet_s,kOp1_s,mTup_s,mNil_s,k0,kOp2_s,n1]
  simp only [rrEnd,mSeq_s,mIfS_s,mOrT_s,t1,ob,kOrT_f,t2,kIfS_f,mSkip_s,kSeq_nx,e2]
theorem rrMid_ok {S:Store} {r:Rl} {R:Rm} {a7:Option D} (h:ROk R) (s:Saf r R.1) (hl:R.1.length≤5):∃ S',rrMid [some r.d,some (.int (R.1.length:Int)),some (rmD R),some (nt (rdL R)),some (headD (wrL R)),some (nl (askL' R R.1.length)),some (nl (calmL R R.1.length)),a7] S=some (.rt (.bl true) S')∧∃ T,S'=S++T:=by
  have pm:=each_once h
  have hlen:=pm.length_eq
  rw [List.length_range] at hlen
  simp only [List.length_append] at hlen
  have sq:fPure (fSeq1 .lst) [nt (rdL R)] S=some (nl (rdL R),S):=fSeq1_t
  have c1:kCat2 (nl (rdL R)) (nl (askL' R R.1.length),S)=some (.ref S.length,S++[.lst ((rdL R++askL' R R.1.length).map ni)]):=by
    rw [List.map_append];exact kCat2_l (by simp only [List.length_map];omega)
  have c2:kCat2 (.ref S.length) (nl (calmL R R.1.length),S++[.lst ((rdL R++askL' R R.1.length).map ni)])=some (.ref (S++[Cell.lst ((rdL R++askL' R R.1.length).map ni)]).length,(S++[.lst ((rdL R++askL' R R.1.length).map ni)])++[.lst ((rdL R++askL' R R.1.length++calmL R R.1.length).map ni)]):=by
    rw [List.map_append (l₁:=rdL R++askL' R R.1.length)];exact kCat2_r (by simp only [List.length_map,List.length_append];omega)
  generalize hT:S++[Cell.lst ((rdL R++askL' R R.1.length).map ni)]=T at c2
  have mi:∀ l:List Nat,l.map ni=(toI l).map .int:=fun l=>by unfold toI ni;rw [List.map_map];rfl
  have so:fPure fSorted [.ref T.length] (T++[.lst ((rdL R++askL' R R.1.length++calmL R R.1.length++wrL R).map ni)])=some (nl (List.range R.1.length),T++[.lst ((rdL R++askL' R R.1.length++calmL R R.1.length++wrL R).map ni)]):=by
    rw [mi,fSorted_r app_get (by simp only [toI,List.length_map,List.length_append];omega),isort_of pm (range_le _),nl_toI]
  have lr:∀ S,kListR ([.int (R.1.length:Int)],S)=some (nl (List.range R.1.length),S):=fun S=>by rw [kListR_of (by omega) (by omega),Int.toNat_natCast,nl_range]
  have ne:∀ S,fNe S (nl (List.range R.1.length)) (nl (List.range R.1.length))=some (.bl false):=fun S=>fNe_self okD_nl
  have e3:=fun S=>rrEnd_ok (S:=S) (a1:=some (.int (R.1.length:Int))) (a6:=some (nl (calmL R R.1.length))) (a7:=some (.ref T.length)) h s hl
  have rs:rrSome [some r.d,some (.int (R.1.length:Int)),some (rmD R),some (nt (rdL R)),some (headD (wrL R)),some (nl (askL' R R.1.length)),some (nl (calmL R R.1.length)),a7] S=some (.ref T.length,T++[.lst ((rdL R++askL' R R.1.length++calmL R R.1.length).map ni)]):=by
    simp only [rrSome,mCatR_s,mCall_s,mCons_s,mVar_s,lg0,lg1,lgS,oj,ob,kRet_s,kCons1_s,mNil_s,kCons2_s,kCall_s,sq,kCat1_s,c1,hT,c2]
  refine ⟨T++[.lst ((rdL R++askL' R R.1.length++calmL R R.1.length++wrL R).map ni)],?_,[.lst ((rdL R++askL' R R.1.length).map ni),.lst ((rdL R++askL' R R.1.length++calmL R R.1.length++wrL R).map ni)],by rw [← hT,List.append_assoc];rfl⟩
  simp only [rrMid,mSeq_s,mAsg_s,rs,ob,kAsg_s,gSet_s,ls0,lsS,kNx_s,kSeq_nx,mIfS_s,mTest_s,mOp_s,mVar_s,lg0,lg1,lgS,oj,kRet_s,kOp1_s,mC_s,kOp2_s,fIsNot_n]
  cases hw:wrL R with
  | nil=>
    rw [hw,List.append_nil] at so
    rw [hw] at e3
    have i1:isD (headD []) .non=true:=rfl
    rw [List.append_nil]
    simp only [i1,Bool.not_true,kTest_s,ob,kIfS_f,mSkip_s,kSeq_nx,mSeq_s,mIfS_s,mTest_s,mOp_s,mCall_s,mCons_s,mVar_s,lg0,lg1,lgS,oj,kRet_s,kCons1_s,mNil_s,kCons2_s,kCall_s,so,kOp1_s,mListR_s,lr,kOp2_s,ne,e3]
  | cons i l=>
    have hl0:l=[]:=by
      have h1:=wr_len (R:=R)
      rw [hw,List.length_cons] at h1
      have:=s.w1
      exact List.length_eq_zero_iff.mp (by omega)
    subst hl0
    rw [hw] at so e3
    have i1:isD (headD [i]) .non=false:=rfl
    have ap:fAppend (.ref T.length) [headD [i]] (T++[.lst ((rdL R++askL' R R.1.length++calmL R R.1.length).map ni)])=some (.non,T++[.lst ((rdL R++askL' R R.1.length++calmL R R.1.length++[i]).map ni)]):=by
      rw [fAppend_r app_get (by simp only [List.length_map,List.length_append];omega),app_set,List.map_append (l₂:=[i])];rfl
    have km:∀ ms env (c:List D),kMeth fAppend ms env (.ref T.length,T++[.lst c])=(ms env (T++[.lst c])).bind (kMeth2 fAppend (.ref T.length)):=fun ms env c=>kMeth_r app_get
    simp only [i1,Bool.not_false,kTest_s,ob,kIfS_t,mDrop_s,mMeth_s,mVar_s,lg0,lg1,lgS,oj,kRet_s,km,mCons_s,kCons1_s,mNil_s,kCons2_s,kMeth2_s,ap,kDrop_s,kSeq_nx,mSeq_s,mIfS_s,mTest_s,mOp_s,mCall_s,kCall_s,so,kOp1_s,mListR_s,lr,kOp2_s,ne,kIfS_f,mSkip_s,e3]
theorem saf_b {r:Rl} {ws:List Wd} (s:Saf r ws):safeB r ws=true:=by
  unfold safeB
  have s1:=s.w1
  have s2:=s.g1
  have s3:=s.al
  rw [if_neg (by omega),if_neg (fun z=>by have:=s3 z.1;omega)]
  rcases s.mo with z | z
  · rw [decide_eq_true z];rfl
  · rw [decide_eq_true z,Bool.or_true]
theorem fit_b {R:Rm} (h:ROk R) (m:MB 999 R.2):(R.2.all (waitB R.1)&&nodB R.2)=true:=by
  rw [Bool.and_eq_true]
  refine ⟨List.all_eq_true.mpr fun e he=>?_,decide_eq_true h.nd⟩
  obtain ⟨m1,m2,m3⟩:=m e he
  unfold waitB
  rw [h.out e he,decide_eq_true rfl,decide_eq_true m1,decide_eq_true (show e.m≤999 from m2)]
  cases ht:e.t with
  | none=>rfl
  | some t=>
    obtain ⟨a,b⟩:=m3 t ht
    show (_&&(decide (1≤t)&&decide (t≤9)))=true
    rw [decide_eq_true a,decide_eq_true b];rfl
theorem rightOk {S:Store} {r:Rl} {R:Rm} (h:ROk R) (s:Saf r R.1) (m:MB 999 R.2) (hl:R.1.length≤5):∃ T,f__law_room_right [r.d,.int (R.1.length:Int),rmD R] S=some (.bl true,S++T):=by
  rw [me__law_room_right,show m__law_room_right=rrAll from rfl,runM_eq (show [r.d,D.int (R.1.length:Int),rmD R].length=3 from rfl),show startE N__law_room_right [r.d,D.int (R.1.length:Int),rmD R]=[some r.d,some (.int (R.1.length:Int)),some (rmD R),none,none,none,none,none] from rfl]
  have hle:=h.len
  have ro:f_is_room [.int (R.1.length:Int),rmD R] S=some (.bl true,S):=by
    have:=roomOk (S:=S) (ws:=R.1) (es:=R.2) (n:=R.1.length) (by omega) (by omega)
    rw [fit_b h m,decide_eq_true rfl] at this;exact this
  have sf:f_is_safe [r.d,rmD R] S=some (.bl true,S):=by rw [safeOk (by omega),saf_b s]
  have rd:f_readers_in [rmD R] S=some (nt (rdL R),S):=readersOk (by omega)
  have wr:f_writer_in [rmD R] S=some (headD (wrL R),S):=writerOk (by omega)
  have i1:isD (.bl true) (.bl true)=true:=rfl
  obtain ⟨_,e,T,rfl⟩:=rrMid_ok (S:=S) (a7:=none) h s hl
  refine ⟨T,?_⟩
  have ea:=fun a5 a6 a7=>rrAsk_eq (S:=S) (R:=R) (n:=R.1.length) (a0:=some r.d) (a3:=some (nt (rdL R))) (a4:=some (headD (wrL R))) (a5:=a5) (a6:=a6) (a7:=a7) (by omega) (by omega)
  have ec:=fun a5 a6 a7=>rrCalm_eq (S:=S) (R:=R) (a0:=some r.d) (a3:=some (nt (rdL R))) (a4:=some (headD (wrL R))) (a5:=a5) (a6:=a6) (a7:=a7) (by omega)
  simp only [rrAll,mSeq_s,mIfS_s,mOrT_s,mTest_s,mOp_s,mCallN_s,mCons_s,mVar_s,lg0,lg1,lgS,oj,ob,kRet_s,kCons1_s,mNil_s,kCons2_s,kCallN_2,ro,kOp1_s,mC_s,kOp2_s,fIsNot_b,i1,Bool.not_true,kTest_s,kOrT_f,sf,kIfS_f,mSkip_s,kSeq_nx,mPar_s,kCallN_1,rd,wr,kPar_s,ls0,lsS,mAsg_s,ea,kAsg_s,gSet_s,kNx_s,ec,e,outM_rt]
noncomputable def mrPut:ME:=mOp fAddX (mOp fAddX (mSlice (mVar 3) (mPartN) (mPart (mVar 5))) (mTup (mCons (mC (.str "reads")) (mNil)))) (mSlice (mVar 3) (mPart (mOp fAddX (mVar 5) (mC (.int 1)))) (mPartN))
noncomputable def mrEnt:ME:=mOp fIxX (mComp (mItS (mVar 4)) (gSet 0) (mTest (mOp fEq (mOp fIxX (mVar 0) (mC (.int 0))) (mVar 1))) (mVar 0) [none,some 5]) (mC (.int 0))
noncomputable def mrA:MS:=mSeq (mAsg mrEnt (gSet 6)) (mSeq (mAsg mrPut (gSet 7)) (mSeq (mIfS (mTest (mOp fIsNot (mCallN 2 f_is_room (mCons (mVar 1) (mCons (mTup (mCons (mVar 3) (mCons (mOp fAddX (mVar 4) (mTup (mCons (mVar 6) (mNil)))) (mNil)))) (mNil)))) (mC (.bl false)))) (mRet (mC (.bl false))) (mSkip)) (mIfS (mTest (mOp fIsNot (mCallN 2 f_is_room (mCons (mVar 1) (mCons (mTup (mCons (mVar 7) (mCons (mVar 4) (mNil)))) (mNil)))) (mC (.bl false)))) (mRet (mC (.bl false))) (mSkip))))
noncomputable def mrB:MS:=mSeq (mAsg mrPut (gSet 7)) (mIfS (mTest (mOp fIsNot (mCallN 2 f_is_safe (mCons (mVar 0) (mCons (mTup (mCons (mVar 7) (mCons (mVar 4) (mNil)))) (mNil)))) (mC (.bl false)))) (mRet (mC (.bl false))) (mSkip))
noncomputable def mrTurn:MS:=mIfS (mTest (mOp fIn (mCallN 2 f_waiting (mCons (mVar 2) (mCons (mVar 5) (mNil)))) (mTup (mCons (mC (.str "read")) (mCons (mC (.str "write")) (mNil)))))) mrA (mIfS (mAndT (mTest (mOp fEq (mOp fIxX (mVar 3) (mVar 5)) (mC (.str "out")))) (mTest (mOp fIsNot (mCallN 1 f_writer_in (mCons (mVar 2) (mNil))) (mC .non)))) mrB (mSkip))
noncomputable def mrAll:MS:=mSeq (mAsg (mVar 2) (gTupD 2 (gConsD (gSet 3) (gConsD (gSet 4) (gNilD))))) (mSeq (mFor (mRange1 (mCons (mVar 1) (mNil))) (gSet 5) mrTurn) (mRet (mC (.bl true))))
theorem mrPut_eq {S:Store} {ws:List Wd} {i:Nat} {a0 a1 a2 a4 a6 a7:Option D} (h:i<ws.length) (hl:ws.length≤100):mrPut [a0,a1,a2,some (wsD ws),a4,some (.int (i:Int)),a6,a7] S=some (wsD (ws.set i .reads),S):=by
  have k1:kTup ([.str "reads"],S)=some (.tup [Wd.reads.d],S):=kTup_of (by simp)
  have c1:cutL (ws.map Wd.d) none (some (i:Int))=(ws.take i).map Wd.d:=by rw [cutL_take _ _ (by rw [List.length_map];omega),List.map_take]
  have c2:cutL (ws.map Wd.d) (some ((i:Int)+1)) none=(ws.drop (i+1)).map Wd.d:=by
    rw [show ((i:Int)+1)=((i+1:Nat):Int) by omega,cutL_drop _ _ (by rw [List.length_map];omega),List.map_drop]
  have a1:fAddX S (.tup ((ws.take i).map Wd.d)) (.tup [Wd.reads.d])=some (.tup ((ws.take i).map Wd.d++[Wd.reads.d])):=fAdd_t (by simp;omega)
  have a2:fAddX S (.tup ((ws.take i).map Wd.d++[Wd.reads.d])) (.tup ((ws.drop (i+1)).map Wd.d))=some (.tup ((ws.take i).map Wd.d++[Wd.reads.d]++(ws.drop (i+1)).map Wd.d)):=fAdd_t (by simp;omega)
  have e:(ws.take i).map Wd.d++[Wd.reads.d]++(ws.drop (i+1)).map Wd.d=(ws.set i .reads).map Wd.d:=by
    rw [← set_eq ws i h .reads];simp
  rw [e] at a2
  simp only [mrPut,wsD,mOp_s,mSlice_s,mVar_s,lg0,lgS,lg1,oj,ob,kRet_s,kSl1_s,mPartN_s,kSl2_s,mPart_s,kPart_s,kSl3_t,c1,kOp1_s,mTup_s,mCons_s,kCons1_s,mNil_s,kCons2_s,k1,kOp2_s,a1,mC_s,fAdd_i,c2,a2]
theorem mrEnt_eq {S:Store} {es:List En} {g:Nat} {a0 a1 a2 a3 a6 a7:Option D} (hs:staysB es g=true) (hl:es.length≤100):∃ e∈es,e.g=g∧mrEnt [a0,a1,a2,a3,some (esD es),some (.int (g:Int)),a6,a7] S=some (e.d,S):=by
  have k:=kcomp1 (S:=S) (t:=mTest (mOp fEq (mOp fIxX (mVar 0) (mC (.int 0))) (mVar 1))) (e:=mVar 0) (cap:=[none,some 5]) (env:=[a0,a1,a2,a3,some (esD es),some (.int (g:Int)),a6,a7]) (rest:=[some (.int (g:Int))]) (a:=none) (enc:=En.d) (p:=fun e=>decide (e.g=g)) (f:=En.d) (xs:=es) rfl (by omega) (fun e _=>by
    have q:((e.g:Int) == (g:Int))=decide (e.g=g):=by rw [Bool.eq_iff_iff];simp;omega
    simp only [mTest_s,mOp_s,mVar_s,lg0,lg1,lgS,oj,ob,kRet_s,kOp1_s,mC_s,kOp2_s,En.ix0,fEq_ii,q,kTest_s]) (fun e _ _=>by simp only [mVar_s,lg0,oj,ob,kRet_s])
  cases hf:es.filter fun e=>decide (e.g=g) with
  | nil=>
    obtain ⟨e,he,hg⟩:=List.any_eq_true.mp hs
    have:e∈es.filter fun e=>decide (e.g=g):=List.mem_filter.mpr ⟨he,hg⟩
    rw [hf] at this;cases this
  | cons e l=>
    have hm:e∈es.filter fun e=>decide (e.g=g):=by rw [hf];exact List.mem_cons_self
    obtain ⟨he,hg⟩:=List.mem_filter.mp hm
    refine ⟨e,he,of_decide_eq_true hg,?_⟩
    rw [hf] at k
    have x0:fIxX S (.lst ((e::l).map En.d)) (.int 0)=some e.d:=by
      show fIxX S (.lst (e.d::l.map En.d)) (.int ((0:Nat):Int))=_
      rw [fIx_l,atI_nat];rfl
    simp only [mrEnt,mOp_s,mComp_s,mItS_s,mVar_s,lg0,lg1,lgS,oj,ob,kRet_s,es_kItS,k,kOp1_s,mC_s,kOp2_s,x0]
theorem mrTurn_ok {S:Store} {r:Rl} {R:Rm} {g:Nat} {a6 a7:Option D} (h:ROk R) (s:Saf r R.1) (hl:R.1.length≤5) (hg:g<R.1.length):∃ b6 b7,mrTurn [some r.d,some (.int (R.1.length:Int)),some (rmD R),some (wsD R.1),some (esD R.2),some (.int (g:Int)),a6,a7] S=some (.nx [some r.d,some (.int (R.1.length:Int)),some (rmD R),some (wsD R.1),some (esD R.2),some (.int (g:Int)),b6,b7] S):=by
  have hle:=h.len
  have w:f_waiting [rmD R,.int (g:Int)] S=_:=waitOk S R g (by omega)
  have k2:kTup ([.str "read",.str "write"],S)=some (.tup [.str "read",.str "write"],S):=kTup_of (by simp)
  have kr:∀ x y:D,kTup ([x,y],S)=some (.tup [x,y],S):=fun x y=>kTup_of (by simp)
  have k1:∀ x:D,kTup ([x],S)=some (.tup [x],S):=fun x=>kTup_of (by simp)
  have pu:=fun a6 a7=>mrPut_eq (S:=S) (ws:=R.1) (i:=g) (a0:=some r.d) (a1:=some (.int (R.1.length:Int))) (a2:=some (rmD R)) (a4:=some (esD R.2)) (a6:=a6) (a7:=a7) hg (by omega)
  have i1:isD (.bl false) (.bl false)=true:=rfl
  simp only [mrTurn,mIfS_s,mTest_s,mOp_s,mCallN_s,mCons_s,mVar_s,lg0,lg1,lgS,oj,ob,kRet_s,kCons1_s,mNil_s,kCons2_s,kCallN_2,w,kOp1_s,mTup_s,mC_s,k2,kOp2_s,waitIn,ask_stays h,kTest_s]
  cases hs:staysB R.2 g with
  | true=>
    obtain ⟨e,he,heg,ee⟩:=mrEnt_eq (S:=S) (es:=R.2) (g:=g) (a0:=some r.d) (a1:=some (.int (R.1.length:Int))) (a2:=some (rmD R)) (a3:=some (wsD R.1)) (a6:=a6) (a7:=a7) hs (by omega)
    have ad:fAddX S (esD R.2) (.tup [e.d])=some (esD (R.2++[e])):=by
      show fAddX S (.tup (R.2.map En.d)) (.tup [e.d])=_
      rw [fAdd_t (by simp;omega)];simp [esD]
    have r1:f_is_room [.int (R.1.length:Int),.tup [wsD R.1,esD (R.2++[e])]] S=some (.bl false,S):=by
      have:=roomOk (S:=S) (ws:=R.1) (es:=R.2++[e]) (n:=R.1.length) (by omega) (by simp;omega)
      have hn:nodB (R.2++[e])=false:=by
        refine decide_eq_false fun z=>?_
        rw [List.map_append,List.nodup_append] at z
        exact z.2.2 e.g (List.mem_map.mpr ⟨e,he,rfl⟩) e.g (by simp) rfl
      rw [hn,Bool.and_false,Bool.and_false] at this
      exact this
    have r2:f_is_room [.int (R.1.length:Int),.tup [wsD (R.1.set g .reads),esD R.2]] S=some (.bl false,S):=by
      have:=roomOk (S:=S) (ws:=R.1.set g .reads) (es:=R.2) (n:=R.1.length) (by simp;omega) (by omega)
      have hn:R.2.all (waitB (R.1.set g .reads))=false:=by
        rw [List.all_eq_false]
        refine ⟨e,he,?_⟩
        unfold waitB
        rw [heg,List.getElem?_set_self hg]
        simp
      rw [hn,Bool.false_and,Bool.and_false] at this
      exact this
    refine ⟨some e.d,some (wsD (R.1.set g .reads)),?_⟩
    simp only [kIfS_t,mrA,mSeq_s,mAsg_s,ee,ob,kAsg_s,gSet_s,ls0,lsS,kNx_s,kSeq_nx,pu,mIfS_s,mTest_s,mOp_s,mCallN_s,mCons_s,mVar_s,lg0,lg1,lgS,oj,kRet_s,kCons1_s,mTup_s,kOp1_s,mNil_s,kCons2_s,k1,kOp2_s,ad,kr,kCallN_2,r1,mC_s,fIsNot_b,i1,Bool.not_true,kTest_s,kIfS_f,mSkip_s,r2]
  | false=>
    obtain ⟨v,hw⟩:∃ v,R.1[g]?=some v:=⟨_,List.getElem?_eq_getElem hg⟩
    have xw:fIxX S (wsD R.1) (.int (g:Int))=some v.d:=ws_ix hw
    have e3:fEq S v.d (.str "out")=some (.bl (decide (v=.out))):=fEq_wd (b:=.out)
    have wi:f_writer_in [rmD R] S=some (headD (wrL R),S):=writerOk (by omega)
    simp only [kIfS_f,mIfS_s,mAndT_s,mTest_s,mOp_s,mVar_s,lg0,lg1,lgS,oj,ob,kRet_s,kOp1_s,kOp2_s,xw,mC_s,e3,kTest_s]
    by_cases ho:v=.out
    · subst ho
      simp only [decide_true,kAndT_t,mTest_s,mOp_s,mCallN_s,mCons_s,mVar_s,lg0,lg1,lgS,oj,ob,kRet_s,kCons1_s,mNil_s,kCons2_s,kCallN_1,wi,kOp1_s,mC_s,kOp2_s,fIsNot_n]
      cases hwr:wrL R with
      | nil=>
        have i2:isD (headD []) .non=true:=rfl
        refine ⟨a6,a7,?_⟩
        simp only [i2,Bool.not_true,kTest_s,ob,kIfS_f,mSkip_s]
      | cons j l=>
        have i2:isD (headD (j::l)) .non=false:=rfl
        have sf:f_is_safe [r.d,.tup [wsD (R.1.set g .reads),esD R.2]] S=some (.bl false,S):=by
          have:=safeOk (S:=S) (r:=r) (R:=(R.1.set g .reads,R.2)) (by simp;omega)
          obtain ⟨c1,c2,c3,c4,c5⟩:=cnt_all .reads hw
          simp (decide:=true) only [if_true,if_false] at c1 c2 c3 c4 c5
          have h1:=wr_len (R:=R)
          rw [hwr,List.length_cons] at h1
          have s1:=s.w1
          have s2:=s.g1
          have s3:=s.al (by omega)
          have hb:safeB r (R.1.set g .reads)=false:=by
            unfold safeB
            rw [if_neg (by omega),if_pos ⟨by omega,by omega⟩]
          rw [hb] at this
          exact this
        refine ⟨a6,some (wsD (R.1.set g .reads)),?_⟩
        simp only [i2,Bool.not_false,kTest_s,ob,kIfS_t,mrB,mSeq_s,mAsg_s,pu,kAsg_s,gSet_s,ls0,lsS,kNx_s,kSeq_nx,mIfS_s,mTest_s,mOp_s,mCallN_s,mCons_s,mVar_s,lg0,lg1,lgS,oj,kRet_s,kCons1_s,mTup_s,mNil_s,kCons2_s,kr,kCallN_2,sf,kOp1_s,mC_s,kOp2_s,fIsNot_b,i1,Bool.not_true,kIfS_f,mSkip_s]
    · refine ⟨a6,a7,?_⟩
      simp only [decide_eq_false ho,kAndT_f,ob,kIfS_f,mSkip_s]
theorem moreOk {S:Store} {r:Rl} {R:Rm} (h:ROk R) (s:Saf r R.1) (hl:R.1.length≤5):f__law_more_right [r.d,.int (R.1.length:Int),rmD R] S=some (.bl true,S):=by
  rw [me__law_more_right,show m__law_more_right=mrAll from rfl,runM_eq (show [r.d,D.int (R.1.length:Int),rmD R].length=3 from rfl),show startE N__law_more_right [r.d,D.int (R.1.length:Int),rmD R]=[some r.d,some (.int (R.1.length:Int)),some (rmD R),none,none,none,none,none] from rfl]
  have g2:∀ env S,gTupD 2 (gConsD (gSet 3) (gConsD (gSet 4) (gNilD))) (rmD R) env S=(gConsD (gSet 3) (gConsD (gSet 4) (gNilD))) [wsD R.1,esD R.2] env S:=fun env S=>gTupD_2
  have kr:kR1 ([.int (R.1.length:Int)],S)=some (rangeD 0 R.1.length,S):=by rw [kR1_of (by omega) (by omega)];rfl
  obtain ⟨env',S5,e5,b5,b6,b7,rfl,rfl⟩:=forR (tg:=gSet 5) (p:=mrTurn) (lo:=0) (fun _ env T=>∃ b5 b6 b7,env=[some r.d,some (.int (R.1.length:Int)),some (rmD R),some (wsD R.1),some (esD R.2),b5,b6,b7]∧T=S) R.1.length (fun j hj env T hI=>by
    obtain ⟨b5,b6,b7,rfl,rfl⟩:=hI
    obtain ⟨c6,c7,e⟩:=mrTurn_ok (S:=T) (g:=j) (a6:=b6) (a7:=b7) h s hl hj
    rw [show ((j:Nat):Int)=0+(j:Int) by omega] at e
    exact ⟨_,_,_,_,gSet_s,e,_,_,_,rfl,rfl⟩) [some r.d,some (.int (R.1.length:Int)),some (rmD R),some (wsD R.1),some (esD R.2),none,none,none] S ⟨_,_,_,rfl,rfl⟩
  simp only [mrAll,mSeq_s,mAsg_s,mVar_s,lg0,lg1,lgS,oj,ob,kRet_s,kAsg_s,g2,gConsD_s,gSet_s,kGs_s,gNilD_s,ls0,lsS,kNx_s,kSeq_nx,mFor_s,mRange1_s,mCons_s,kCons1_s,mNil_s,kCons2_s,kr,kFor_s,e5,mRet_s,mC_s,kRt_s,outM_rt]
noncomputable def turnD:MS:=mSeq (mAsg (mCallN 3 f__law_done (mCons (mVar 3) (mCons (mVar 5) (mCons (mCallN 2 f__law_deed (mCons (mVar 2) (mCons (mVar 4) (mNil)))) (mNil))))) (gSet 7)) (mSeq (mIfS (mTest (mOp fIsNot (mVar 7) (mC .non))) (mAsg (mOp fIxX (mVar 7) (mC (.int 0))) (gSet 5)) (mSkip)) (mIfS (mOrT (mNotT (mTru (mCallN 3 f__law_room_right (mCons (mVar 3) (mCons (mVar 4) (mCons (mVar 5) (mNil))))))) (mNotT (mTru (mCallN 3 f__law_more_right (mCons (mVar 3) (mCons (mVar 4) (mCons (mVar 5) (mNil)))))))) (mRet (mC (.bl false))) (mSkip)))
noncomputable def manyC:ME:=mOp fIxX (mLst (mCons (mC (.int 6)) (mCons (mC (.int 12)) (mCons (mC (.int 20)) (mCons (mC (.int 40)) (mNil)))))) (mCallN 2 f__law_pick (mCons (mVar 2) (mCons (mC (.int 4)) (mNil))))
noncomputable def emptyC:ME:=mTup (mCons (mOp fMulX (mTup (mCons (mC (.str "out")) (mNil))) (mVar 4)) (mCons (mTup (mNil)) (mNil)))
noncomputable def turn:MS:=mSeq (mAsg (mCallN 2 f__law_left (mCons (mVar 0) (mCons (mVar 1) (mNil)))) (gSet 2)) (mSeq (mPar 3 4 (mCons (mCallN 1 f__law_rule (mCons (mVar 2) (mNil))) (mCons (mOp fAddX (mC (.int 1)) (mCallN 2 f__law_pick (mCons (mVar 2) (mCons (mC (.int 5)) (mNil))))) (mNil)))) (mSeq (mAsg emptyC (gSet 5)) (mFor (mRange1 (mCons manyC (mNil))) (gSet 6) turnD)))
theorem turnD_ok {S:Store} {q n:Nat} {r:Rl} {l:List Dd} {R:Rm} {a0 a1 a6 a7:Option D} (P:Pk S q) (h1:1≤n) (h5:n≤5) (ha:0≤r.a) (B:Behind r n l R) (hL:l.length≤80):∃ (l':List Dd) (R':Rm) (b7:Option D) (S':Store),turnD [a0,a1,some (.ref q),some r.d,some (.int (n:Int)),some (rmD R),a6,a7] S=some (.nx [a0,a1,some (.ref q),some r.d,some (.int (n:Int)),some (rmD R'),a6,b7] S')∧Pk S' q∧Behind r n l' R'∧l'.length≤l.length+1:=by
  have hR:=B.ok
  obtain ⟨dd,S1,e1,hd,P1,K1⟩:=rowOk.de S q n P h1 h5
  obtain ⟨T,e2⟩:=rowOk.dn S1 r R dd hR.1 (by omega) (by rw [hR.2];exact hd)
  have fin:∀ (R':Rm) (l':List Dd) (a7:Option D),Behind r n l' R'→l'.length≤l.length+1→∃ S',(mIfS (mOrT (mNotT (mTru (mCallN 3 f__law_room_right (mCons (mVar 3) (mCons (mVar 4) (mCons (mVar 5) (mNil))))))) (mNotT (mTru (mCallN 3 f__law_more_right (mCons (mVar 3) (mCons (mVar 4) (mCons (mVar 5) (mNil)))))))) (mRet (mC (.bl false))) (mSkip)) [a0,a1,some (.ref q),some r.d,some (.int (n:Int)),some (rmD R'),a6,a7] (S1++T)=some (.nx [a0,a1,some (.ref q),some r.d,some (.int (n:Int)),some (rmD R'),a6,a7] S')∧Pk S' q:=fun R' l' a7 B' hl'=>by
    have hR':=B'.ok
    have mb:MB 999 R'.2:=B'.mb.mono (Nat.le_trans (Nat.mul_le_mul (show l'.length≤81 by omega) (show 2 * n+1≤11 by omega)) (by decide))
    have sf:=B'.saf ha
    obtain ⟨U,e3⟩:=rightOk (S:=S1++T) hR'.1 sf mb (by omega)
    have e4:=moreOk (S:=(S1++T)++U) hR'.1 sf (by omega)
    rw [hR'.2] at e3 e4
    refine ⟨(S1++T)++U,?_,P1.appT.appT⟩
    simp only [mIfS_s,mOrT_s,mNotT_s,mTru_s,mCallN_s,mCons_s,mVar_s,lg0,lg1,lgS,oj,ob,kRet_s,kCons1_s,mNil_s,kCons2_s,kCallN_3,e3,kTru_b,kNotT_s,Bool.not_true,kOrT_f,e4,kIfS_f,mSkip_s]
  cases hx:doneL r R dd with
  | none=>
    rw [hx] at e2
    obtain ⟨S',ef,P'⟩:=fin R l (some .non) B (by omega)
    refine ⟨l,R,some .non,S',?_,P',B,by omega⟩
    have i1:isD (doneD none) .non=true:=rfl
    have dn:doneD none=.non:=rfl
    rw [dn] at e2
    have i2:isD D.non .non=true:=rfl
    simp only [turnD,mSeq_s,mAsg_s,mCallN_s,mCons_s,mVar_s,lg0,lg1,lgS,oj,ob,kRet_s,kCons1_s,mNil_s,kCons2_s,kCallN_2,e1,kCallN_3,e2,kAsg_s,gSet_s,ls0,lsS,kNx_s,kSeq_nx]
    rw [mIfS_s]
    simp only [mTest_s,mOp_s,mVar_s,lg0,lg1,lgS,oj,ob,kRet_s,kOp1_s,mC_s,kOp2_s,fIsNot_n,i2,Bool.not_true,kTest_s,kIfS_f,mSkip_s,kSeq_nx]
    exact ef
  | some x=>
    rw [hx] at e2
    have dn:doneD (some x)=.tup [rmD x.1,evsD x.2]:=rfl
    rw [dn] at e2
    have B':Behind r n (l++[dd]) x.1:=B.snoc hd hx
    obtain ⟨S',ef,P'⟩:=fin x.1 (l++[dd]) (some (.tup [rmD x.1,evsD x.2])) B' (by simp)
    refine ⟨l++[dd],x.1,some (.tup [rmD x.1,evsD x.2]),S',?_,P',B',by simp⟩
    have i2:isD (D.tup [rmD x.1,evsD x.2]) .non=false:=rfl
    have x0:∀ S,fIxX S (.tup [rmD x.1,evsD x.2]) (.int 0)=some (rmD x.1):=fun S=>rfl
    simp only [turnD,mSeq_s,mAsg_s,mCallN_s,mCons_s,mVar_s,lg0,lg1,lgS,oj,ob,kRet_s,kCons1_s,mNil_s,kCons2_s,kCallN_2,e1,kCallN_3,e2,kAsg_s,gSet_s,ls0,lsS,kNx_s,kSeq_nx]
    rw [mIfS_s]
    simp only [mTest_s,mOp_s,mVar_s,lg0,lg1,lgS,oj,ob,kRet_s,kOp1_s,mC_s,kOp2_s,fIsNot_n,i2,Bool.not_false,kTest_s,kIfS_t,mAsg_s,x0,kAsg_s,gSet_s,ls0,lsS,kNx_s,kSeq_nx]
    exact ef
theorem emptyC_eq {S:Store} {n:Nat} {a0 a1 a2 a3 a5 a6 a7:Option D} (h5:n≤5):emptyC [a0,a1,a2,a3,some (.int (n:Int)),a5,a6,a7] S=some (rmD (emptyR n),S):=by
  have k1:∀ x:D,kTup ([x],S)=some (.tup [x],S):=fun x=>kTup_of (by simp)
  have k0:kTup ([],S)=some (.tup [],S):=kTup_of (by simp)
  have k2:∀ x y:D,kTup ([x,y],S)=some (.tup [x,y],S):=fun x y=>kTup_of (by simp)
  have m:fMulX S (.tup [.str "out"]) (.int (n:Int))=some (wsD (List.replicate n .out)):=by
    rw [fMulX_t (by omega) (by omega) (by rw [Int.toNat_natCast,List.length_singleton];omega),Int.toNat_natCast,flat_rep]
    simp [wsD,Wd.d,Wd.s]
  simp only [emptyC,mTup_s,mCons_s,mOp_s,mC_s,ob,kCons1_s,mNil_s,kCons2_s,k1,kOp1_s,mVar_s,lg0,lg1,lgS,oj,kRet_s,kOp2_s,m,k0,k2]
  rfl
theorem at_many {q:Int} (h0:0≤q) (h1:q<4):∃ k:Nat,atI [D.int 6,D.int 12,D.int 20,D.int 40] q=some (.int (k:Int))∧k≤40:=by
  have:q=0∨q=1∨q=2∨q=3:=by omega
  rcases this with rfl | rfl | rfl | rfl
  · exact ⟨6,rfl,by decide⟩
  · exact ⟨12,rfl,by decide⟩
  · exact ⟨20,rfl,by decide⟩
  · exact ⟨40,rfl,by decide⟩
theorem turn_ok {S:Store} {ns:List Int} {k:Int} {a2 a3 a4 a5 a6 a7:Option D} (h0:0≤k) (h1:k≤100000) :
    ∃ b2 b3 b4 b5 b6 b7 S',turn [some (.rol (ns.map .int)),some (.int k),a2,a3,a4,a5,a6,a7] S=some (.nx [some (.rol (ns.map .int)),some (.int k),b2,b3,b4,b5,b6,b7] S'):=by
  obtain ⟨p,q,e1,p0,q0,q1⟩:=left (S:=S) (ns:=ns) h0 h1
  have P1:=Pk_new (S:=S) (c:=0) p0 q0 q1
  obtain ⟨r,S2,e2,Rk,P2,K2⟩:=rule P1
  obtain ⟨m,S3,e3,m0,m5,P3,K3⟩:=pickOk _ _ 5 P2 (by decide) (by decide)
  obtain ⟨n,hn⟩:∃ n:Nat,1+m=(n:Int):=⟨(1+m).toNat,by omega⟩
  obtain ⟨j,S4,e4,j0,j4,P4,K4⟩:=pickOk _ _ 4 P3 (by decide) (by decide)
  obtain ⟨c,ec,hc⟩:=at_many j0 j4
  have k4:∀ S,kLst ([D.int 6,D.int 12,D.int 20,D.int 40],S)=some (.lst [D.int 6,D.int 12,D.int 20,D.int 40],S):=fun S=>kLst_of (by simp)
  have xl:∀ S,fIxX S (.lst [D.int 6,D.int 12,D.int 20,D.int 40]) (.int j)=some (.int (c:Int)):=fun S=>by rw [fIx_l];exact ec
  have kr:∀ S,kR1 ([.int (c:Int)],S)=some (rangeD 0 c,S):=fun S=>by rw [kR1_of (by omega) (by omega)];rfl
  have em':=emptyC_eq (S:=S3) (n:=n) (a0:=some (.rol (ns.map .int))) (a1:=some (.int k)) (a2:=some (.ref S.length)) (a3:=some r.d) (a5:=a5) (a6:=a6) (a7:=a7) (by omega)
  obtain ⟨env',S5,e5,l,R,b6,b7,rfl,P5,B5,hl5⟩:=forR (tg:=gSet 6) (p:=turnD) (lo:=0) (fun j env T=>∃ (l:List Dd) (R:Rm) (b6 b7:Option D),env=[some (.rol (ns.map .int)),some (.int k),some (.ref S.length),some r.d,some (.int (n:Int)),some (rmD R),b6,b7]∧Pk T S.length∧Behind r n l R∧l.length≤j) c (fun j hj env T hI=>by
    obtain ⟨l,R,b6,b7,rfl,P,B,hl⟩:=hI
    obtain ⟨l',R',c7,S',e,P',B',hl'⟩:=turnD_ok (S:=T) (q:=S.length) (a0:=some (.rol (ns.map .int))) (a1:=some (.int k)) (a6:=some (.int (0+(j:Int)))) (a7:=b7) P (by omega) (by omega) Rk.a0 B (by omega)
    exact ⟨_,_,_,_,gSet_s,e,_,_,_,_,rfl,P',B',by omega⟩) [some (.rol (ns.map .int)),some (.int k),some (.ref S.length),some r.d,some (.int (n:Int)),some (rmD (emptyR n)),a6,a7] S4 ⟨[],emptyR n,_,_,rfl,P4,.nil,Nat.zero_le _⟩
  refine ⟨some (.ref S.length),some r.d,some (.int (n:Int)),some (rmD R),b6,b7,S5,?_⟩
  simp only [turn,mSeq_s,mAsg_s,mCallN_s,mCons_s,mVar_s,lg0,lg1,lgS,oj,ob,kRet_s,kCons1_s,mNil_s,kCons2_s,kCallN_2,e1,kAsg_s,gSet_s,ls0,lsS,kNx_s,kSeq_nx,mPar_s,kCallN_1,e2,mOp_s,mC_s,kOp1_s,e3,kOp2_s,fAdd_i,hn,kPar_s,em',mFor_s,mRange1_s,manyC,mLst_s,k4,e4,xl,kr,kFor_s,e5]
theorem law_true:∀ ns:List Int,ns.length≤63→∃ S',f_law [.rol (ns.map .int)] []=some (.bl true,S'):=fun ns hl=>by
  rw [me_law,runM_eq (show [D.rol (ns.map .int)].length=1 from rfl),show startE N_law [D.rol (ns.map .int)]=[some (.rol (ns.map .int)),none,none,none,none,none,none,none] from rfl]
  have hm:m_law=mSeq (mFor (mRange1 (mCons (mOp fAddX (mC (.int 2)) (mCall (fPure fMin2) (mCons (mC (.int 5)) (mCons (mCall (fPure fLen) (mCons (mVar 0) (mNil))) (mNil))))) (mNil))) (gSet 1) turn) (mRet (mC (.bl true))):=rfl
  rw [hm]
  generalize hk:2+(if (ns.length:Int)<5 then (ns.length:Int) else 5)=k
  have hk':0≤k∧k≤26:=by rw [← hk];split <;> omega
  have k1:kR1 ([.int k],[])=some (rangeD 0 k.toNat,[]):=kR1_of (by omega) (by omega)
  obtain ⟨env',S',e,a1,a2,a3,a4,a5,a6,a7,rfl⟩:=forL_inv (tg:=gSet 1) (p:=turn) (fun env _=>∃ a1 a2 a3 a4 a5 a6 a7,env=[some (.rol (ns.map .int)),a1,a2,a3,a4,a5,a6,a7]) (rangeD 0 k.toNat) (fun d hd env S hI=>by
    obtain ⟨a1,a2,a3,a4,a5,a6,a7,rfl⟩:=hI
    obtain ⟨i,hi,rfl⟩:=mem_rangeD hd
    obtain ⟨b2,b3,b4,b5,b6,b7,S2,e⟩:=turn_ok (S:=S) (ns:=ns) (k:=0+(i:Int)) (a2:=a2) (a3:=a3) (a4:=a4) (a5:=a5) (a6:=a6) (a7:=a7) (by omega) (by omega)
    exact ⟨_,_,_,_,gSet_s,e,_,_,_,_,_,_,_,rfl⟩) [some (.rol (ns.map .int)),none,none,none,none,none,none,none] [] ⟨_,_,_,_,_,_,_,rfl⟩
  refine ⟨S',?_⟩
  simp only [mSeq_s,mFor_s,mRange1_s,mCons_s,mOp_s,mC_s,ob,kOp1_s,mCall_s,kCons1_s,mVar_s,lg0,oj,kRet_s,mNil_s,kCons2_s,kCall_s,fLen_r,fMin2_i,kOp2_s,fAdd_i,List.length_map,hk,k1,kFor_s,e,kSeq_nx,mRet_s,kRt_s,outM_rt]
end K05
end
noncomputable def PySem.W.Fast.tw17540817883619480514:PySem.Program:=PySem.Challenge.pw_manyreaders_k05_whole_counts_agree
theorem PySem.W.Fast.te17540817883619480514:PySem.Challenge.pw_manyreaders_k05_whole_counts_agree=PySem.W.Fast.tw17540817883619480514:=rfl
namespace K05
open PySem
def c0:Stmt:=top 0
def c5:Stmt:=top 5
def c6:Stmt:=top 6
def c7:Stmt:=top 7
def c8:Stmt:=top 8
def c9:Stmt:=top 9
def c10:Stmt:=top 10
def c11:Stmt:=top 11
def c21:Stmt:=top 21
def pw2:Program:={ PySem.Challenge.pw_manyreaders_k05_whole_counts_agree with main:={ PySem.Challenge.pw_manyreaders_k05_whole_counts_agree.main with body:=[c0,s_is_whole,s_is_between,s_is_word,s_is_tuple_of,c5,c6,c7,c8,c9,c10,c11,s_is_room,s_is_within,s_are_waits,s_is_wait,s_readers_in,s_writer_in,s_guests_with,s_waiting,s_is_safe,c21,s__law_cell_at,s__law_left,s__law_far,s__law_pick,s__law_rule,s__law_deed,s__law_fronts,s__law_lets,s__law_put,s__law_settled,s__law_can,s__law_marked,s__law_done,s__law_asked,s__law_room_right,s__law_more_right,s_law] } }
def lw:PySem.W.OpenLaw:={ PySem.Challenge.rw_manyreaders_k05_whole_counts_agree with prog:=pw2 }
theorem lw_eq:PySem.Challenge.rw_manyreaders_k05_whole_counts_agree=lw:=by kernel_rfl
end K05
namespace K05
open PySem L2 MI PyProof.Rows M
noncomputable def ko3 (P:Params):Obj:=⟨.type "dict",none,.dict #[⟨PyData.keyHash P "__name__",.str "__name__" 165,.str "law_manyreaders_k05_whole_counts_agree" 318⟩,⟨PyData.keyHash P "__doc__",.str "__doc__" 166,.none⟩,⟨PyData.keyHash P "__package__",.str "__package__" 167,.none⟩,⟨PyData.keyHash P "__loader__",.str "__loader__" 168,.builtin "__main__.__loader__#opaque"⟩,⟨PyData.keyHash P "__spec__",.str "__spec__" 169,.none⟩,⟨PyData.keyHash P "__annotations__",.str "__annotations__" 170,.ref 6⟩,⟨PyData.keyHash P "__builtins__",.str "__builtins__" 171,.ref 4⟩,⟨PyData.keyHash P "__file__",.str "__file__" 173,.str "/claim/cut.py" 172⟩,⟨PyData.keyHash P "__cached__",.str "__cached__" 174,.none⟩,⟨PyData.keyHash P "is_whole",.str "is_whole" 195,.ref 21⟩,⟨PyData.keyHash P "is_between",.str "is_between" 204,.ref 28⟩,⟨PyData.keyHash P "is_word",.str "is_word" 212,.ref 35⟩,⟨PyData.keyHash P "is_tuple_of",.str "is_tuple_of" 220,.ref 42⟩,⟨PyData.keyHash P "WITHIN_WORDS",.str "WITHIN_WORDS" 228,.ref 43⟩,⟨PyData.keyHash P "READING_WORDS",.str "READING_WORDS" 231,.ref 44⟩,⟨PyData.keyHash P "WRITING_WORDS",.str "WRITING_WORDS" 234,.ref 45⟩,⟨PyData.keyHash P "WANTS",.str "WANTS" 237,.ref 46⟩,⟨PyData.keyHash P "GREATEST_MARK",.str "GREATEST_MARK" 239,.int 999 238⟩,⟨PyData.keyHash P "GREATEST_LEFT",.str "GREATEST_LEFT" 241,.int 9 240⟩,⟨PyData.keyHash P "is_room",.str "is_room" 251,.ref 53⟩,⟨PyData.keyHash P "is_within",.str "is_within" 257,.ref 58⟩,⟨PyData.keyHash P "are_waits",.str "are_waits" 263,.ref 63⟩,⟨PyData.keyHash P "is_wait",.str "is_wait" 275,.ref 70⟩,⟨PyData.keyHash P "readers_in",.str "readers_in" 282,.ref 77⟩,⟨PyData.keyHash P "writer_in",.str "writer_in" 290,.ref 84⟩,⟨PyData.keyHash P "guests_with",.str "guests_with" 296,.ref 89⟩,⟨PyData.keyHash P "waiting",.str "waiting" 305,.ref 96⟩,⟨PyData.keyHash P "is_safe",.str "is_safe" 317,.ref 103⟩,⟨PyData.keyHash P "_law_cell_at",.str "_law_cell_at" 327,.ref 110⟩,⟨PyData.keyHash P "_law_left",.str "_law_left" 337,.ref 117⟩,⟨PyData.keyHash P "_law_far",.str "_law_far" 345,.ref 124⟩,⟨PyData.keyHash P "_law_pick",.str "_law_pick" 354,.ref 131⟩,⟨PyData.keyHash P "_law_rule",.str "_law_rule" 364,.ref 138⟩,⟨PyData.keyHash P "_law_deed",.str "_law_deed" 374,.ref 145⟩,⟨PyData.keyHash P "_law_fronts",.str "_law_fronts" 380,.ref 150⟩,⟨PyData.keyHash P "_law_lets",.str "_law_lets" 390,.ref 157⟩,⟨PyData.keyHash P "_law_put",.str "_law_put" 399,.ref 164⟩,⟨PyData.keyHash P "_law_settled",.str "_law_settled" 405,.ref 169⟩,⟨PyData.keyHash P "_law_can",.str "_law_can" 411,.ref 174⟩,⟨PyData.keyHash P "_law_marked",.str "_law_marked" 417,.ref 179⟩,⟨PyData.keyHash P "_law_done",.str "_law_done" 423,.ref 184⟩,⟨PyData.keyHash P "_law_asked",.str "_law_asked" 429,.ref 189⟩,⟨PyData.keyHash P "_law_room_right",.str "_law_room_right" 435,.ref 194⟩,⟨PyData.keyHash P "_law_more_right",.str "_law_more_right" 441,.ref 199⟩,⟨PyData.keyHash P "law",.str "law" 455,.ref 206⟩] 45,#[]⟩
noncomputable def ko20 (P:Params):Obj:=⟨.type "code",none,.fields #[.str "is_whole" 189,.str "is_whole" 190,.str "/claim/cut.py" 191,.int 2 0,.int 1 0,.int 0 0,.int 0 0,.int 3 0,.ref 15,.bool true,.int 181 0,.ref 16,.none,.ref 17,.ref 18,.ref 19,.int 193 0,.int 2 0,.str "/claim/cut.py" 194],#[]⟩
noncomputable def ko21 (P:Params):Obj:=⟨.type "function",none,.func (PySem.W.fnOf "is_whole" "is_whole" (defArgs s_is_whole) (defBody s_is_whole) (defScope s_is_whole) .none (.none) (.none) (.str "manyreaders.kinds" 187) none (.ref 20) (.none)),#[]⟩
noncomputable def ko27 (P:Params):Obj:=⟨.type "code",none,.fields #[.str "is_between" 196,.str "is_between" 197,.str "/claim/cut.py" 198,.int 4 0,.int 3 0,.int 0 0,.int 0 0,.int 3 0,.ref 22,.bool true,.int 181 0,.ref 23,.none,.ref 24,.ref 25,.ref 26,.int 202 0,.int 4 0,.str "/claim/cut.py" 203],#[]⟩
noncomputable def ko28 (P:Params):Obj:=⟨.type "function",none,.func (PySem.W.fnOf "is_between" "is_between" (defArgs s_is_between) (defBody s_is_between) (defScope s_is_between) .none (.none) (.none) (.str "manyreaders.kinds" 187) none (.ref 27) (.none)),#[]⟩
noncomputable def ko34 (P:Params):Obj:=⟨.type "code",none,.fields #[.str "is_word" 205,.str "is_word" 206,.str "/claim/cut.py" 207,.int 6 0,.int 2 0,.int 0 0,.int 0 0,.int 3 0,.ref 29,.bool true,.int 181 0,.ref 30,.none,.ref 31,.ref 32,.ref 33,.int 210 0,.int 6 0,.str "/claim/cut.py" 211],#[]⟩
noncomputable def ko35 (P:Params):Obj:=⟨.type "function",none,.func (PySem.W.fnOf "is_word" "is_word" (defArgs s_is_word) (defBody s_is_word) (defScope s_is_word) .none (.none) (.none) (.str "manyreaders.kinds" 187) none (.ref 34) (.none)),#[]⟩
noncomputable def ko41 (P:Params):Obj:=⟨.type "code",none,.fields #[.str "is_tuple_of" 213,.str "is_tuple_of" 214,.str "/claim/cut.py" 215,.int 8 0,.int 2 0,.int 0 0,.int 0 0,.int 3 0,.ref 36,.bool true,.int 181 0,.ref 37,.none,.ref 38,.ref 39,.ref 40,.int 218 0,.int 8 0,.str "/claim/cut.py" 219],#[]⟩
noncomputable def ko42 (P:Params):Obj:=⟨.type "function",none,.func (PySem.W.fnOf "is_tuple_of" "is_tuple_of" (defArgs s_is_tuple_of) (defBody s_is_tuple_of) (defScope s_is_tuple_of) .none (.none) (.none) (.str "manyreaders.kinds" 187) none (.ref 41) (.none)),#[]⟩
noncomputable def ko43 (P:Params):Obj:=⟨.type "tuple",none,.seq #[.str "out" 223,.str "reads" 224,.str "rising" 225,.str "writes" 226,.str "raised" 227] 0,#[]⟩
noncomputable def ko44 (P:Params):Obj:=⟨.type "tuple",none,.seq #[.str "reads" 229,.str "rising" 230] 0,#[]⟩
noncomputable def ko45 (P:Params):Obj:=⟨.type "tuple",none,.seq #[.str "writes" 232,.str "raised" 233] 0,#[]⟩
noncomputable def ko46 (P:Params):Obj:=⟨.type "tuple",none,.seq #[.str "read" 235,.str "write" 236] 0,#[]⟩
noncomputable def ko52 (P:Params):Obj:=⟨.type "code",none,.fields #[.str "is_room" 242,.str "is_room" 243,.str "/claim/cut.py" 244,.int 17 0,.int 2 0,.int 0 0,.int 0 0,.int 3 0,.ref 47,.bool true,.int 181 0,.ref 48,.none,.ref 49,.ref 50,.ref 51,.int 249 0,.int 17 0,.str "/claim/cut.py" 250],#[]⟩
noncomputable def ko53 (P:Params):Obj:=⟨.type "function",none,.func (PySem.W.fnOf "is_room" "is_room" (defArgs s_is_room) (defBody s_is_room) (defScope s_is_room) .none (.none) (.none) (.str "manyreaders.rooms" 221) none (.ref 52) (.none)),#[]⟩
noncomputable def ko57 (P:Params):Obj:=⟨.type "code",none,.fields #[.str "is_within" 252,.str "is_within" 253,.str "/claim/cut.py" 254,.int 22 0,.int 2 0,.int 0 0,.int 0 0,.int 3 0,.ref 54,.bool true,.int 181 0,.ref 55,.none,.none,.none,.ref 56,.int 255 0,.int 22 0,.str "/claim/cut.py" 256],#[]⟩
noncomputable def ko58 (P:Params):Obj:=⟨.type "function",none,.func (PySem.W.fnOf "is_within" "is_within" (defArgs s_is_within) (defBody s_is_within) (defScope s_is_within) .none (.none) (.none) (.str "manyreaders.rooms" 221) none (.ref 57) (.none)),#[]⟩
noncomputable def ko62 (P:Params):Obj:=⟨.type "code",none,.fields #[.str "are_waits" 258,.str "are_waits" 259,.str "/claim/cut.py" 260,.int 24 0,.int 2 0,.int 0 0,.int 0 0,.int 3 0,.ref 59,.bool true,.int 181 0,.ref 60,.none,.none,.none,.ref 61,.int 261 0,.int 24 0,.str "/claim/cut.py" 262],#[]⟩
noncomputable def ko63 (P:Params):Obj:=⟨.type "function",none,.func (PySem.W.fnOf "are_waits" "are_waits" (defArgs s_are_waits) (defBody s_are_waits) (defScope s_are_waits) .none (.none) (.none) (.str "manyreaders.rooms" 221) none (.ref 62) (.none)),#[]⟩
noncomputable def ko69 (P:Params):Obj:=⟨.type "code",none,.fields #[.str "is_wait" 264,.str "is_wait" 265,.str "/claim/cut.py" 266,.int 29 0,.int 2 0,.int 0 0,.int 0 0,.int 3 0,.ref 64,.bool true,.int 181 0,.ref 65,.none,.ref 66,.ref 67,.ref 68,.int 273 0,.int 29 0,.str "/claim/cut.py" 274],#[]⟩
noncomputable def ko70 (P:Params):Obj:=⟨.type "function",none,.func (PySem.W.fnOf "is_wait" "is_wait" (defArgs s_is_wait) (defBody s_is_wait) (defScope s_is_wait) .none (.none) (.none) (.str "manyreaders.rooms" 221) none (.ref 69) (.none)),#[]⟩
noncomputable def ko76 (P:Params):Obj:=⟨.type "code",none,.fields #[.str "readers_in" 276,.str "readers_in" 277,.str "/claim/cut.py" 278,.int 38 0,.int 1 0,.int 0 0,.int 0 0,.int 3 0,.ref 71,.bool true,.int 181 0,.ref 72,.none,.ref 73,.ref 74,.ref 75,.int 280 0,.int 38 0,.str "/claim/cut.py" 281],#[]⟩
noncomputable def ko77 (P:Params):Obj:=⟨.type "function",none,.func (PySem.W.fnOf "readers_in" "readers_in" (defArgs s_readers_in) (defBody s_readers_in) (defScope s_readers_in) .none (.none) (.none) (.str "manyreaders.rooms" 221) none (.ref 76) (.none)),#[]⟩
noncomputable def ko83 (P:Params):Obj:=⟨.type "code",none,.fields #[.str "writer_in" 283,.str "writer_in" 284,.str "/claim/cut.py" 285,.int 40 0,.int 1 0,.int 0 0,.int 0 0,.int 3 0,.ref 78,.bool true,.int 181 0,.ref 79,.none,.ref 80,.ref 81,.ref 82,.int 288 0,.int 40 0,.str "/claim/cut.py" 289],#[]⟩
noncomputable def ko84 (P:Params):Obj:=⟨.type "function",none,.func (PySem.W.fnOf "writer_in" "writer_in" (defArgs s_writer_in) (defBody s_writer_in) (defScope s_writer_in) .none (.none) (.none) (.str "manyreaders.rooms" 221) none (.ref 83) (.none)),#[]⟩
noncomputable def ko88 (P:Params):Obj:=⟨.type "code",none,.fields #[.str "guests_with" 291,.str "guests_with" 292,.str "/claim/cut.py" 293,.int 43 0,.int 2 0,.int 0 0,.int 0 0,.int 3 0,.ref 85,.bool true,.int 181 0,.ref 86,.none,.none,.none,.ref 87,.int 294 0,.int 43 0,.str "/claim/cut.py" 295],#[]⟩
noncomputable def ko89 (P:Params):Obj:=⟨.type "function",none,.func (PySem.W.fnOf "guests_with" "guests_with" (defArgs s_guests_with) (defBody s_guests_with) (defScope s_guests_with) .none (.none) (.none) (.str "manyreaders.rooms" 221) none (.ref 88) (.none)),#[]⟩
noncomputable def ko95 (P:Params):Obj:=⟨.type "code",none,.fields #[.str "waiting" 297,.str "waiting" 298,.str "/claim/cut.py" 299,.int 45 0,.int 2 0,.int 0 0,.int 0 0,.int 3 0,.ref 90,.bool true,.int 181 0,.ref 91,.none,.ref 92,.ref 93,.ref 94,.int 303 0,.int 45 0,.str "/claim/cut.py" 304],#[]⟩
noncomputable def ko96 (P:Params):Obj:=⟨.type "function",none,.func (PySem.W.fnOf "waiting" "waiting" (defArgs s_waiting) (defBody s_waiting) (defScope s_waiting) .none (.none) (.none) (.str "manyreaders.rooms" 221) none (.ref 95) (.none)),#[]⟩
noncomputable def ko102 (P:Params):Obj:=⟨.type "code",none,.fields #[.str "is_safe" 306,.str "is_safe" 307,.str "/claim/cut.py" 308,.int 52 0,.int 2 0,.int 0 0,.int 0 0,.int 3 0,.ref 97,.bool true,.int 181 0,.ref 98,.none,.ref 99,.ref 100,.ref 101,.int 315 0,.int 52 0,.str "/claim/cut.py" 316],#[]⟩
noncomputable def ko103 (P:Params):Obj:=⟨.type "function",none,.func (PySem.W.fnOf "is_safe" "is_safe" (defArgs s_is_safe) (defBody s_is_safe) (defScope s_is_safe) .none (.none) (.none) (.str "manyreaders.rooms" 221) none (.ref 102) (.none)),#[]⟩
noncomputable def ko109 (P:Params):Obj:=⟨.type "code",none,.fields #[.str "_law_cell_at" 320,.str "_law_cell_at" 321,.str "/claim/cut.py" 322,.int 63 0,.int 2 0,.int 0 0,.int 0 0,.int 3 0,.ref 104,.bool true,.int 181 0,.ref 105,.none,.ref 106,.ref 107,.ref 108,.int 325 0,.int 63 0,.str "/claim/cut.py" 326],#[]⟩
noncomputable def ko110 (P:Params):Obj:=⟨.type "function",none,.func (PySem.W.fnOf "_law_cell_at" "_law_cell_at" (defArgs s__law_cell_at) (defBody s__law_cell_at) (defScope s__law_cell_at) .none (.none) (.none) (.str "law_manyreaders_k05_whole_counts_agree" 318) none (.ref 109) (.none)),#[]⟩
noncomputable def ko116 (P:Params):Obj:=⟨.type "code",none,.fields #[.str "_law_left" 328,.str "_law_left" 329,.str "/claim/cut.py" 330,.int 67 0,.int 2 0,.int 0 0,.int 0 0,.int 3 0,.ref 111,.bool true,.int 181 0,.ref 112,.none,.ref 113,.ref 114,.ref 115,.int 335 0,.int 67 0,.str "/claim/cut.py" 336],#[]⟩
noncomputable def ko117 (P:Params):Obj:=⟨.type "function",none,.func (PySem.W.fnOf "_law_left" "_law_left" (defArgs s__law_left) (defBody s__law_left) (defScope s__law_left) .none (.none) (.none) (.str "law_manyreaders_k05_whole_counts_agree" 318) none (.ref 116) (.none)),#[]⟩
noncomputable def ko123 (P:Params):Obj:=⟨.type "code",none,.fields #[.str "_law_far" 338,.str "_law_far" 339,.str "/claim/cut.py" 340,.int 74 0,.int 0 0,.int 0 0,.int 0 0,.int 3 0,.ref 118,.bool true,.int 181 0,.ref 119,.none,.ref 120,.ref 121,.ref 122,.int 343 0,.int 74 0,.str "/claim/cut.py" 344],#[]⟩
noncomputable def ko124 (P:Params):Obj:=⟨.type "function",none,.func (PySem.W.fnOf "_law_far" "_law_far" (defArgs s__law_far) (defBody s__law_far) (defScope s__law_far) .none (.none) (.none) (.str "law_manyreaders_k05_whole_counts_agree" 318) none (.ref 123) (.none)),#[]⟩
noncomputable def ko130 (P:Params):Obj:=⟨.type "code",none,.fields #[.str "_law_pick" 346,.str "_law_pick" 347,.str "/claim/cut.py" 348,.int 79 0,.int 2 0,.int 0 0,.int 0 0,.int 3 0,.ref 125,.bool true,.int 181 0,.ref 126,.none,.ref 127,.ref 128,.ref 129,.int 352 0,.int 79 0,.str "/claim/cut.py" 353],#[]⟩
noncomputable def ko131 (P:Params):Obj:=⟨.type "function",none,.func (PySem.W.fnOf "_law_pick" "_law_pick" (defArgs s__law_pick) (defBody s__law_pick) (defScope s__law_pick) .none (.none) (.none) (.str "law_manyreaders_k05_whole_counts_agree" 318) none (.ref 130) (.none)),#[]⟩
noncomputable def ko137 (P:Params):Obj:=⟨.type "code",none,.fields #[.str "_law_rule" 355,.str "_law_rule" 356,.str "/claim/cut.py" 357,.int 87 0,.int 1 0,.int 0 0,.int 0 0,.int 3 0,.ref 132,.bool true,.int 181 0,.ref 133,.none,.ref 134,.ref 135,.ref 136,.int 362 0,.int 87 0,.str "/claim/cut.py" 363],#[]⟩
noncomputable def ko138 (P:Params):Obj:=⟨.type "function",none,.func (PySem.W.fnOf "_law_rule" "_law_rule" (defArgs s__law_rule) (defBody s__law_rule) (defScope s__law_rule) .none (.none) (.none) (.str "law_manyreaders_k05_whole_counts_agree" 318) none (.ref 137) (.none)),#[]⟩
noncomputable def ko144 (P:Params):Obj:=⟨.type "code",none,.fields #[.str "_law_deed" 365,.str "_law_deed" 366,.str "/claim/cut.py" 367,.int 92 0,.int 2 0,.int 0 0,.int 0 0,.int 3 0,.ref 139,.bool true,.int 181 0,.ref 140,.none,.ref 141,.ref 142,.ref 143,.int 372 0,.int 92 0,.str "/claim/cut.py" 373],#[]⟩
noncomputable def ko145 (P:Params):Obj:=⟨.type "function",none,.func (PySem.W.fnOf "_law_deed" "_law_deed" (defArgs s__law_deed) (defBody s__law_deed) (defScope s__law_deed) .none (.none) (.none) (.str "law_manyreaders_k05_whole_counts_agree" 318) none (.ref 144) (.none)),#[]⟩
noncomputable def ko149 (P:Params):Obj:=⟨.type "code",none,.fields #[.str "_law_fronts" 375,.str "_law_fronts" 376,.str "/claim/cut.py" 377,.int 100 0,.int 2 0,.int 0 0,.int 0 0,.int 3 0,.ref 146,.bool true,.int 181 0,.ref 147,.none,.none,.none,.ref 148,.int 378 0,.int 100 0,.str "/claim/cut.py" 379],#[]⟩
noncomputable def ko150 (P:Params):Obj:=⟨.type "function",none,.func (PySem.W.fnOf "_law_fronts" "_law_fronts" (defArgs s__law_fronts) (defBody s__law_fronts) (defScope s__law_fronts) .none (.none) (.none) (.str "law_manyreaders_k05_whole_counts_agree" 318) none (.ref 149) (.none)),#[]⟩
noncomputable def ko156 (P:Params):Obj:=⟨.type "code",none,.fields #[.str "_law_lets" 381,.str "_law_lets" 382,.str "/claim/cut.py" 383,.int 111 0,.int 3 0,.int 0 0,.int 0 0,.int 3 0,.ref 151,.bool true,.int 181 0,.ref 152,.none,.ref 153,.ref 154,.ref 155,.int 388 0,.int 111 0,.str "/claim/cut.py" 389],#[]⟩
noncomputable def ko157 (P:Params):Obj:=⟨.type "function",none,.func (PySem.W.fnOf "_law_lets" "_law_lets" (defArgs s__law_lets) (defBody s__law_lets) (defScope s__law_lets) .none (.none) (.none) (.str "law_manyreaders_k05_whole_counts_agree" 318) none (.ref 156) (.none)),#[]⟩
noncomputable def ko163 (P:Params):Obj:=⟨.type "code",none,.fields #[.str "_law_put" 391,.str "_law_put" 392,.str "/claim/cut.py" 393,.int 118 0,.int 3 0,.int 0 0,.int 0 0,.int 3 0,.ref 158,.bool true,.int 181 0,.ref 159,.none,.ref 160,.ref 161,.ref 162,.int 397 0,.int 118 0,.str "/claim/cut.py" 398],#[]⟩
noncomputable def ko164 (P:Params):Obj:=⟨.type "function",none,.func (PySem.W.fnOf "_law_put" "_law_put" (defArgs s__law_put) (defBody s__law_put) (defScope s__law_put) .none (.none) (.none) (.str "law_manyreaders_k05_whole_counts_agree" 318) none (.ref 163) (.none)),#[]⟩
noncomputable def ko168 (P:Params):Obj:=⟨.type "code",none,.fields #[.str "_law_settled" 400,.str "_law_settled" 401,.str "/claim/cut.py" 402,.int 120 0,.int 2 0,.int 0 0,.int 0 0,.int 3 0,.ref 165,.bool true,.int 181 0,.ref 166,.none,.none,.none,.ref 167,.int 403 0,.int 120 0,.str "/claim/cut.py" 404],#[]⟩
noncomputable def ko169 (P:Params):Obj:=⟨.type "function",none,.func (PySem.W.fnOf "_law_settled" "_law_settled" (defArgs s__law_settled) (defBody s__law_settled) (defScope s__law_settled) .none (.none) (.none) (.str "law_manyreaders_k05_whole_counts_agree" 318) none (.ref 168) (.none)),#[]⟩
noncomputable def ko173 (P:Params):Obj:=⟨.type "code",none,.fields #[.str "_law_can" 406,.str "_law_can" 407,.str "/claim/cut.py" 408,.int 136 0,.int 2 0,.int 0 0,.int 0 0,.int 3 0,.ref 170,.bool true,.int 181 0,.ref 171,.none,.none,.none,.ref 172,.int 409 0,.int 136 0,.str "/claim/cut.py" 410],#[]⟩
noncomputable def ko174 (P:Params):Obj:=⟨.type "function",none,.func (PySem.W.fnOf "_law_can" "_law_can" (defArgs s__law_can) (defBody s__law_can) (defScope s__law_can) .none (.none) (.none) (.str "law_manyreaders_k05_whole_counts_agree" 318) none (.ref 173) (.none)),#[]⟩
noncomputable def ko178 (P:Params):Obj:=⟨.type "code",none,.fields #[.str "_law_marked" 412,.str "_law_marked" 413,.str "/claim/cut.py" 414,.int 145 0,.int 3 0,.int 0 0,.int 0 0,.int 3 0,.ref 175,.bool true,.int 181 0,.ref 176,.none,.none,.none,.ref 177,.int 415 0,.int 145 0,.str "/claim/cut.py" 416],#[]⟩
noncomputable def ko179 (P:Params):Obj:=⟨.type "function",none,.func (PySem.W.fnOf "_law_marked" "_law_marked" (defArgs s__law_marked) (defBody s__law_marked) (defScope s__law_marked) .none (.none) (.none) (.str "law_manyreaders_k05_whole_counts_agree" 318) none (.ref 178) (.none)),#[]⟩
noncomputable def ko183 (P:Params):Obj:=⟨.type "code",none,.fields #[.str "_law_done" 418,.str "_law_done" 419,.str "/claim/cut.py" 420,.int 149 0,.int 3 0,.int 0 0,.int 0 0,.int 3 0,.ref 180,.bool true,.int 181 0,.ref 181,.none,.none,.none,.ref 182,.int 421 0,.int 149 0,.str "/claim/cut.py" 422],#[]⟩
noncomputable def ko184 (P:Params):Obj:=⟨.type "function",none,.func (PySem.W.fnOf "_law_done" "_law_done" (defArgs s__law_done) (defBody s__law_done) (defScope s__law_done) .none (.none) (.none) (.str "law_manyreaders_k05_whole_counts_agree" 318) none (.ref 183) (.none)),#[]⟩
noncomputable def ko188 (P:Params):Obj:=⟨.type "code",none,.fields #[.str "_law_asked" 424,.str "_law_asked" 425,.str "/claim/cut.py" 426,.int 172 0,.int 3 0,.int 0 0,.int 0 0,.int 3 0,.ref 185,.bool true,.int 181 0,.ref 186,.none,.none,.none,.ref 187,.int 427 0,.int 172 0,.str "/claim/cut.py" 428],#[]⟩
noncomputable def ko189 (P:Params):Obj:=⟨.type "function",none,.func (PySem.W.fnOf "_law_asked" "_law_asked" (defArgs s__law_asked) (defBody s__law_asked) (defScope s__law_asked) .none (.none) (.none) (.str "law_manyreaders_k05_whole_counts_agree" 318) none (.ref 188) (.none)),#[]⟩
noncomputable def ko193 (P:Params):Obj:=⟨.type "code",none,.fields #[.str "_law_room_right" 430,.str "_law_room_right" 431,.str "/claim/cut.py" 432,.int 181 0,.int 3 0,.int 0 0,.int 0 0,.int 3 0,.ref 190,.bool true,.int 181 0,.ref 191,.none,.none,.none,.ref 192,.int 433 0,.int 181 0,.str "/claim/cut.py" 434],#[]⟩
noncomputable def ko194 (P:Params):Obj:=⟨.type "function",none,.func (PySem.W.fnOf "_law_room_right" "_law_room_right" (defArgs s__law_room_right) (defBody s__law_room_right) (defScope s__law_room_right) .none (.none) (.none) (.str "law_manyreaders_k05_whole_counts_agree" 318) none (.ref 193) (.none)),#[]⟩
noncomputable def ko198 (P:Params):Obj:=⟨.type "code",none,.fields #[.str "_law_more_right" 436,.str "_law_more_right" 437,.str "/claim/cut.py" 438,.int 197 0,.int 3 0,.int 0 0,.int 0 0,.int 3 0,.ref 195,.bool true,.int 181 0,.ref 196,.none,.none,.none,.ref 197,.int 439 0,.int 197 0,.str "/claim/cut.py" 440],#[]⟩
noncomputable def ko199 (P:Params):Obj:=⟨.type "function",none,.func (PySem.W.fnOf "_law_more_right" "_law_more_right" (defArgs s__law_more_right) (defBody s__law_more_right) (defScope s__law_more_right) .none (.none) (.none) (.str "law_manyreaders_k05_whole_counts_agree" 318) none (.ref 198) (.none)),#[]⟩
noncomputable def ko205 (P:Params):Obj:=⟨.type "code",none,.fields #[.str "law" 442,.str "law" 443,.str "/claim/cut.py" 444,.int 212 0,.int 1 0,.int 0 0,.int 0 0,.int 3 0,.ref 200,.bool true,.int 181 0,.ref 201,.none,.ref 202,.ref 203,.ref 204,.int 453 0,.int 212 0,.str "/claim/cut.py" 454],#[]⟩
noncomputable def ko206 (P:Params):Obj:=⟨.type "function",none,.func (PySem.W.fnOf "law" "law" (defArgs s_law) (defBody s_law) (defScope s_law) .none (.none) (.none) (.str "law_manyreaders_k05_whole_counts_agree" 318) none (.ref 205) (.none)),#[]⟩
noncomputable def kf0 (P:Params):PySem.W.Frag:=[(3,ko3 P),(20,ko20 P),(21,ko21 P),(27,ko27 P),(28,ko28 P),(34,ko34 P),(35,ko35 P),(41,ko41 P)]
noncomputable def kf1 (P:Params):PySem.W.Frag:=[(42,ko42 P),(43,ko43 P),(44,ko44 P),(45,ko45 P),(46,ko46 P),(52,ko52 P),(53,ko53 P),(57,ko57 P)]
noncomputable def kf2 (P:Params):PySem.W.Frag:=[(58,ko58 P),(62,ko62 P),(63,ko63 P),(69,ko69 P),(70,ko70 P),(76,ko76 P),(77,ko77 P),(83,ko83 P)]
noncomputable def kf3 (P:Params):PySem.W.Frag:=[(84,ko84 P),(88,ko88 P),(89,ko89 P),(95,ko95 P),(96,ko96 P),(102,ko102 P),(103,ko103 P),(109,ko109 P)]
noncomputable def kf4 (P:Params):PySem.W.Frag:=[(110,ko110 P),(116,ko116 P),(117,ko117 P),(123,ko123 P),(124,ko124 P),(130,ko130 P),(131,ko131 P),(137,ko137 P)]
noncomputable def kf5 (P:Params):PySem.W.Frag:=[(138,ko138 P),(144,ko144 P),(145,ko145 P),(149,ko149 P),(150,ko150 P),(156,ko156 P),(157,ko157 P),(163,ko163 P)]
noncomputable def kf6 (P:Params):PySem.W.Frag:=[(164,ko164 P),(168,ko168 P),(169,ko169 P),(173,ko173 P),(174,ko174 P),(178,ko178 P),(179,ko179 P),(183,ko183 P)]
noncomputable def kf7 (P:Params):PySem.W.Frag:=[(184,ko184 P),(188,ko188 P),(189,ko189 P),(193,ko193 P),(194,ko194 P),(198,ko198 P),(199,ko199 P),(205,ko205 P)]
noncomputable def kf8 (P:Params):PySem.W.Frag:=[(206,ko206 P)]
noncomputable def kfrag (P:Params):PySem.W.Frag:=(((kf0 P)++(kf1 P))++((kf2 P)++(kf3 P)))++(((kf4 P)++(kf5 P))++((kf6 P)++((kf7 P)++(kf8 P))))
noncomputable def kads:List Addr:=[3,20,21,27,28,34,35,41,42,43,44,45,46,52,53,57,58,62,63,69,70,76,77,83,84,88,89,95,96,102,103,109,110,116,117,123,124,130,131,137,138,144,145,149,150,156,157,163,164,168,169,173,174,178,179,183,184,188,189,193,194,198,199,205,206]
theorem txt {w:World} {h:Heap} {mg:Str→Option Value} (X:(kfrag w.params).In h) (G:h.Ns mainGlobals mg):Txt w (kfrag w.params) mg:=
  txt_mk (f0:=110) (od0:=none) (an0:=none) (sl0:=#[]) (oc0:=.type "function") (kV0:=.none) (dc0:=.none) (pm0:=.str "law_manyreaders_k05_whole_counts_agree" 318) (cd0:=.ref 109) (ct0:=.none) (f1:=124) (od1:=none) (an1:=none) (sl1:=#[]) (oc1:=.type "function") (kV1:=.none) (dc1:=.none) (pm1:=.str "law_manyreaders_k05_whole_counts_agree" 318) (cd1:=.ref 123) (ct1:=.none) (f2:=117) (od2:=none) (an2:=none) (sl2:=#[]) (oc2:=.type "function") (kV2:=.none) (dc2:=.none) (pm2:=.str "law_manyreaders_k05_whole_counts_agree" 318) (cd2:=.ref 116) (ct2:=.none) (f3:=131) (od3:=none) (an3:=none) (sl3:=#[]) (oc3:=.type "function") (kV3:=.none) (dc3:=.none) (pm3:=.str "law_manyreaders_k05_whole_counts_agree" 318) (cd3:=.ref 130) (ct3:=.none) (f4:=138) (od4:=none) (an4:=none) (sl4:=#[]) (oc4:=.type "function") (kV4:=.none) (dc4:=.none) (pm4:=.str "law_manyreaders_k05_whole_counts_agree" 318) (cd4:=.ref 137) (ct4:=.none) (f5:=164) (od5:=none) (an5:=none) (sl5:=#[]) (oc5:=.type "function") (kV5:=.none) (dc5:=.none) (pm5:=.str "law_manyreaders_k05_whole_counts_agree" 318) (cd5:=.ref 163) (ct5:=.none) (f6:=150) (od6:=none) (an6:=none) (sl6:=#[]) (oc6:=.type "function") (kV6:=.none) (dc6:=.none) (pm6:=.str "law_manyreaders_k05_whole_counts_agree" 318) (cd6:=.ref 149) (ct6:=.none) (f7:=157) (od7:=none) (an7:=none) (sl7:=#[]) (oc7:=.type "function") (kV7:=.none) (dc7:=.none) (pm7:=.str "law_manyreaders_k05_whole_counts_agree" 318) (cd7:=.ref 156) (ct7:=.none) (f8:=169) (od8:=none) (an8:=none) (sl8:=#[]) (oc8:=.type "function") (kV8:=.none) (dc8:=.none) (pm8:=.str "law_manyreaders_k05_whole_counts_agree" 318) (cd8:=.ref 168) (ct8:=.none) (f9:=174) (od9:=none) (an9:=none) (sl9:=#[]) (oc9:=.type "function") (kV9:=.none) (dc9:=.none) (pm9:=.str "law_manyreaders_k05_whole_counts_agree" 318) (cd9:=.ref 173) (ct9:=.none) (f10:=189) (od10:=none) (an10:=none) (sl10:=#[]) (oc10:=.type "function") (kV10:=.none) (dc10:=.none) (pm10:=.str "law_manyreaders_k05_whole_counts_agree" 318) (cd10:=.ref 188) (ct10:=.none) (f11:=179) (od11:=none) (an11:=none) (sl11:=#[]) (oc11:=.type "function") (kV11:=.none) (dc11:=.none) (pm11:=.str "law_manyreaders_k05_whole_counts_agree" 318) (cd11:=.ref 178) (ct11:=.none) (f12:=184) (od12:=none) (an12:=none) (sl12:=#[]) (oc12:=.type "function") (kV12:=.none) (dc12:=.none) (pm12:=.str "law_manyreaders_k05_whole_counts_agree" 318) (cd12:=.ref 183) (ct12:=.none) (f13:=145) (od13:=none) (an13:=none) (sl13:=#[]) (oc13:=.type "function") (kV13:=.none) (dc13:=.none) (pm13:=.str "law_manyreaders_k05_whole_counts_agree" 318) (cd13:=.ref 144) (ct13:=.none) (f14:=89) (od14:=none) (an14:=none) (sl14:=#[]) (oc14:=.type "function") (kV14:=.none) (dc14:=.none) (pm14:=.str "manyreaders.rooms" 221) (cd14:=.ref 88) (ct14:=.none) (f15:=77) (od15:=none) (an15:=none) (sl15:=#[]) (oc15:=.type "function") (kV15:=.none) (dc15:=.none) (pm15:=.str "manyreaders.rooms" 221) (cd15:=.ref 76) (ct15:=.none) (f16:=84) (od16:=none) (an16:=none) (sl16:=#[]) (oc16:=.type "function") (kV16:=.none) (dc16:=.none) (pm16:=.str "manyreaders.rooms" 221) (cd16:=.ref 83) (ct16:=.none) (f17:=42) (od17:=none) (an17:=none) (sl17:=#[]) (oc17:=.type "function") (kV17:=.none) (dc17:=.none) (pm17:=.str "manyreaders.kinds" 187) (cd17:=.ref 41) (ct17:=.none) (f18:=35) (od18:=none) (an18:=none) (sl18:=#[]) (oc18:=.type "function") (kV18:=.none) (dc18:=.none) (pm18:=.str "manyreaders.kinds" 187) (cd18:=.ref 34) (ct18:=.none) (f19:=58) (od19:=none) (an19:=none) (sl19:=#[]) (oc19:=.type "function") (kV19:=.none) (dc19:=.none) (pm19:=.str "manyreaders.rooms" 221) (cd19:=.ref 57) (ct19:=.none) (f20:=21) (od20:=none) (an20:=none) (sl20:=#[]) (oc20:=.type "function") (kV20:=.none) (dc20:=.none) (pm20:=.str "manyreaders.kinds" 187) (cd20:=.ref 20) (ct20:=.none) (f21:=28) (od21:=none) (an21:=none) (sl21:=#[]) (oc21:=.type "function") (kV21:=.none) (dc21:=.none) (pm21:=.str "manyreaders.kinds" 187) (cd21:=.ref 27) (ct21:=.none) (f22:=70) (od22:=none) (an22:=none) (sl22:=#[]) (oc22:=.type "function") (kV22:=.none) (dc22:=.none) (pm22:=.str "manyreaders.rooms" 221) (cd22:=.ref 69) (ct22:=.none) (f23:=63) (od23:=none) (an23:=none) (sl23:=#[]) (oc23:=.type "function") (kV23:=.none) (dc23:=.none) (pm23:=.str "manyreaders.rooms" 221) (cd23:=.ref 62) (ct23:=.none) (f24:=53) (od24:=none) (an24:=none) (sl24:=#[]) (oc24:=.type "function") (kV24:=.none) (dc24:=.none) (pm24:=.str "manyreaders.rooms" 221) (cd24:=.ref 52) (ct24:=.none) (f25:=103) (od25:=none) (an25:=none) (sl25:=#[]) (oc25:=.type "function") (kV25:=.none) (dc25:=.none) (pm25:=.str "manyreaders.rooms" 221) (cd25:=.ref 102) (ct25:=.none) (f26:=96) (od26:=none) (an26:=none) (sl26:=#[]) (oc26:=.type "function") (kV26:=.none) (dc26:=.none) (pm26:=.str "manyreaders.rooms" 221) (cd26:=.ref 95) (ct26:=.none) (f27:=194) (od27:=none) (an27:=none) (sl27:=#[]) (oc27:=.type "function") (kV27:=.none) (dc27:=.none) (pm27:=.str "law_manyreaders_k05_whole_counts_agree" 318) (cd27:=.ref 193) (ct27:=.none) (f28:=199) (od28:=none) (an28:=none) (sl28:=#[]) (oc28:=.type "function") (kV28:=.none) (dc28:=.none) (pm28:=.str "law_manyreaders_k05_whole_counts_agree" 318) (cd28:=.ref 198) (ct28:=.none) (f29:=206) (od29:=none) (an29:=none) (sl29:=#[]) (oc29:=.type "function") (kV29:=.none) (dc29:=.none) (pm29:=.str "law_manyreaders_k05_whole_counts_agree" 318) (cd29:=.ref 205) (ct29:=.none) (gt_GREATEST_LEFT:=240) (gt_GREATEST_MARK:=238) (ga_READING_WORDS:=44) (gn_READING_WORDS:=0) (gs_READING_WORDS:=#[]) (gt_READING_WORDS0:=229) (gt_READING_WORDS1:=230) (ga_WANTS:=46) (gn_WANTS:=0) (gs_WANTS:=#[]) (gt_WANTS0:=235) (gt_WANTS1:=236) (ga_WITHIN_WORDS:=43) (gn_WITHIN_WORDS:=0) (gs_WITHIN_WORDS:=#[]) (gt_WITHIN_WORDS0:=223) (gt_WITHIN_WORDS1:=224) (gt_WITHIN_WORDS2:=225) (gt_WITHIN_WORDS3:=226) (gt_WITHIN_WORDS4:=227) (ga_WRITING_WORDS:=45) (gn_WRITING_WORDS:=0) (gs_WRITING_WORDS:=#[]) (gt_WRITING_WORDS0:=232) (gt_WRITING_WORDS1:=233) X G (by kernel_rfl) (by kernel_rfl) (by kernel_rfl) (by kernel_rfl) (by kernel_rfl) (by kernel_rfl) (by kernel_rfl) (by kernel_rfl) (by kernel_rfl) (by kernel_rfl) (by kernel_rfl) (by kernel_rfl) (by kernel_rfl) (by kernel_rfl) (by kernel_rfl) (by kernel_rfl) (by kernel_rfl) (by kernel_rfl) (by kernel_rfl) (by kernel_rfl) (by kernel_rfl) (by kernel_rfl) (by kernel_rfl) (by kernel_rfl) (by kernel_rfl) (by kernel_rfl) (by kernel_rfl) (by kernel_rfl) (by kernel_rfl) (by kernel_rfl) (by kernel_rfl) (by kernel_rfl) (by kernel_rfl) (by kernel_rfl) (by kernel_rfl) (by kernel_rfl) (by kernel_rfl) (by kernel_rfl) (by kernel_rfl) (by kernel_rfl) (by kernel_rfl) (by kernel_rfl) (by kernel_rfl) (by kernel_rfl) (by kernel_rfl) (by kernel_rfl) (by kernel_rfl) (by kernel_rfl) (by kernel_rfl) (by kernel_rfl) (by kernel_rfl) (by kernel_rfl) (by kernel_rfl) (by kernel_rfl) (by kernel_rfl) (by kernel_rfl) (by kernel_rfl) (by kernel_rfl) (by kernel_rfl) (by kernel_rfl) (by kernel_rfl) (by kernel_rfl) (by kernel_rfl) (by kernel_rfl) (by kernel_rfl) (by kernel_rfl) (by kernel_rfl) (by kernel_rfl) (by kernel_rfl) (by kernel_rfl) (by kernel_rfl) (by kernel_rfl) (by kernel_rfl) (by kernel_rfl) (by kernel_rfl) (by kernel_rfl) (by kernel_rfl) (by kernel_rfl) (by kernel_rfl) (by kernel_rfl) (by kernel_rfl) (by kernel_rfl) (by kernel_rfl) (by kernel_rfl) (by kernel_rfl) (by kernel_rfl) (by kernel_rfl) (by kernel_rfl) (by kernel_rfl) (by kernel_rfl) (by kernel_rfl) (by kernel_rfl) (by kernel_rfl) (by kernel_rfl) (by kernel_rfl) (by kernel_rfl) (by kernel_rfl) (by kernel_rfl) (by kernel_rfl) (by kernel_rfl) (by kernel_rfl) (by kernel_rfl) (by kernel_rfl) (by kernel_rfl) (by kernel_rfl) (by kernel_rfl) (by kernel_rfl) (by kernel_rfl) (by kernel_rfl) (by kernel_rfl) (by kernel_rfl) (by kernel_rfl) (by kernel_rfl) (by kernel_rfl) (by kernel_rfl) (by kernel_rfl) (by kernel_rfl) (by kernel_rfl) (by kernel_rfl) (by kernel_rfl) (by kernel_rfl) (by kernel_rfl) (by kernel_rfl) (by kernel_rfl) (by kernel_rfl) (by kernel_rfl) (by kernel_rfl) (by kernel_rfl) (by kernel_rfl) (by kernel_rfl) (by kernel_rfl) (by kernel_rfl) (by kernel_rfl) (by kernel_rfl) (by kernel_rfl) (by kernel_rfl) (by kernel_rfl) (by kernel_rfl) (by kernel_rfl) (by kernel_rfl) (by kernel_rfl) (by kernel_rfl) (by kernel_rfl) (by kernel_rfl)
end K05
open PySem PySem.W PyProof.Rows
set_option maxRecDepth 100000 in
set_option maxHeartbeats 0 in
theorem PySem.Challenge.cw_manyreaders_k05_whole_counts_agree_holds : PySem.Challenge.rw_manyreaders_k05_whole_counts_agree.Holds := by
  rw [K05.lw_eq];w_on;o_law;o_head (kHook K05.kfrag K05.kads (fun _=>by kernel_rfl));(case hw=>w_witness2)
  exact K05.walk (l:=K05.lw) rfl rfl rfl (fun w h Y=>PySem.W.kIn_of Y) K05.law_true fun w mg h KX G=>K05.txt KX G
