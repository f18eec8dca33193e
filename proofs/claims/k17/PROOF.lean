import PyProof.Rows.All
import Wide.All
import OpenK.AllK
import Wide.FinOn
import Lean
import PyProof.EqAt
import PyProof.EqKinds
import PyProof.TupleCall
import PySem.Challenge.RW_manyreaders_k17_rows_walked
noncomputable section
set_option Elab.async false
set_option linter.all false
set_option maxRecDepth 100000
namespace L2
open PySem PySem.Spec PyProof.Rows
abbrev bC:=Sum Int Str
noncomputable def vY:bC->Value->Bool
 | .inl k,v=>Value.isInt k v
 | .inr x,v=>Value.isStrOf x v
noncomputable def keyH(w:World):bC->Int
 | .inl k=>hashInt k
 | .inr x=>hashStr w x
theorem db:∀ {k:bC} {v:Value},vY k v=true->(∃ i t,k=Sum.inl i/\v=Value.int i t)\/(∃ x t,k=Sum.inr x/\v=Value.str x t)
 | .inl i,v,h=>by
  obtain⟨t,e⟩:=Value.isInt_shape (k:=i) (v:=v) h
  exact .inl ⟨i,t,rfl,e⟩
 | .inr x,v,h=>by
  obtain⟨t,e⟩:=Value.isStrOf_shape (x:=x) (v:=v) h
  exact .inr ⟨x,t,rfl,e⟩
theorem GV(i:Int)(t:Tok):vY (.inl i) (.int i t)=true:=by simp [vY,Value.isInt]
theorem GU(x:Str)(t:Tok):vY (.inr x) (.str x t)=true:=by simp [vY,Value.isStrOf]
theorem Sj(a b:Int):decide ((Sum.inl a:bC)=Sum.inl b)=(a == b):=by
 by_cases e:a=b
 ·subst e;simp
 ·have h:¬ (Sum.inl a:bC)=Sum.inl b:=fun q=>e (Sum.inl.inj q)
  rw [decide_eq_false h]
  exact(beq_eq_false_iff_ne.mpr e).symm
theorem Sg(a b:Str):decide ((Sum.inr a:bC)=Sum.inr b)=decide (a=b):=by
 by_cases e:a=b
 ·subst e;simp
 ·have h:¬ (Sum.inr a:bC)=Sum.inr b:=fun q=>e (Sum.inr.inj q)
  rw [decide_eq_false h,decide_eq_false e]
theorem Si(a:Int)(b:Str):decide ((Sum.inl a:bC)=Sum.inr b)=false:=decide_eq_false (fun q=>nomatch q)
theorem Sh(a:Str)(b:Int):decide ((Sum.inr a:bC)=Sum.inl b)=false:=decide_eq_false (fun q=>nomatch q)
noncomputable def ca(prog:Program)(w:World):PySem.KeyKind prog w bC where
 is:=vY
 hash:=keyH w
 inj:=fun v a b ha hb=>by
  rcases db ha with ⟨i,t,rfl,rfl⟩ | ⟨x,t,rfl,rfl⟩
  ·rcases db hb with ⟨j,u,rfl,e⟩ | ⟨y,u,rfl,e⟩
   ·injection e with e1 _;rw [e1]
   ·exact nomatch e
  ·rcases db hb with ⟨j,u,rfl,e⟩ | ⟨y,u,rfl,e⟩
   ·exact nomatch e
   ·injection e with e1 _;rw [e1]
 byValue:=fun k v h=>by
  rcases db h with ⟨i,t,rfl,rfl⟩ | ⟨x,t,rfl,rfl⟩ <;> rfl
 pyHash:=fun hv h=>by
  rcases db hv with ⟨i,t,rfl,rfl⟩ | ⟨x,t,rfl,rfl⟩
  ·exact wpAny_pyHash_int h
  ·exact wpAny_pyHash_str h
 eqBool:=fun hu hv h=>by
  rcases db hu with ⟨i,t,rfl,rfl⟩ | ⟨x,t,rfl,rfl⟩
  ·rcases db hv with ⟨j,u,rfl,rfl⟩ | ⟨y,u,rfl,rfl⟩
   ·rw [Sj] at h;exact wpAny_eqBool_int h
   ·rw [Si] at h;exact SeqAt.EqAt.int_str i t y u _ _ _ _ h
  ·rcases db hv with ⟨j,u,rfl,rfl⟩ | ⟨y,u,rfl,rfl⟩
   ·rw [Sh] at h;exact SeqAt.EqAt.str_int x t j u _ _ _ _ h
   ·rw [Sg] at h;exact wpAny_eqBool_str h
 «strs»:=fun k x t v h=>by
  rcases db h with ⟨i,u,rfl,e⟩ | ⟨y,u,rfl,e⟩
  ·exact nomatch e
  ·injection e with e1 _
   subst e1
   cases v <;> rfl
theorem Aj(prog:Program)(w:World)(i:Int)(t:Tok):(ca prog w).is (.inl i) (.int i t)=true:=GV i t
theorem Ai(prog:Program)(w:World)(x:Str)(t:Tok):(ca prog w).is (.inr x) (.str x t)=true:=GU x t
end L2
namespace L2
open PySem PySem.Spec PyProof.Rows
inductive V where
 | non | bl (b:Bool) | int (i:Int) | str (x:Str) | byt (b:Array UInt8) | flt (b:UInt64) | ref (a:Addr) | ty (n:String)
 deriving DecidableEq
def RelV:V->Value->Prop
 | .non,u=>u=Value.none
 | .bl b,u=>u=Value.bool b
 | .int i,u=>∃ t,u=Value.int i t
 | .str x,u=>∃ t,u=Value.str x t
 | .byt b,u=>∃ t,u=Value.bytes b t
 | .flt b,u=>∃ t,u=Value.float b t
 | .ref a,u=>u=Value.ref a
 | .ty n,u=>u=Value.type n
abbrev Vals:List V->List Value->Prop:=Paired RelV
theorem Vals.length{xs:List V}{us:List Value}(r:Vals xs us):xs.length=us.length:=Paired.length r
theorem Vals.get:∀ {xs:List V} {us:List Value} {i:Nat} {x:V},Vals xs us->xs[i]?=some x->∃ u,us[i]?=some u/\RelV x u
 | _,_,_,_,.nil,e=>by simp at e
 | _,_,0,_,.cons r _,e=>by simp at e;subst e;exact⟨_,rfl,r⟩
 | _,_,i+1,x,.cons _ t,e=>by
  obtain⟨u,h1,h2⟩:=Vals.get (i:=i) (x:=x) t (by simpa using e)
  exact⟨u,by simpa using h1,h2⟩
theorem Vals.set{x:V}{u:Value}(r:RelV x u):∀ {xs:List V} {us:List Value} (i:Nat),Vals xs us->Vals (xs.set i x) (us.set i u)
 | _,_,_,.nil=>.nil
 | _,_,0,.cons _ t=>.cons r t
 | _,_,i+1,.cons q t=>.cons q (Vals.set r i t)
theorem Vals.append:∀ {xs ys:List V} {us ws:List Value},Vals xs us->Vals ys ws->Vals (xs++ys) (us++ws)
 | _,_,_,_,.nil,s=>s
 | _,_,_,_,.cons r t,s=>.cons r (Vals.append t s)
theorem Vals.take:∀ {xs:List V} {us:List Value} (n:Nat),Vals xs us->Vals (xs.take n) (us.take n)
 | _,_,0,_=>.nil
 | _,_,_+1,.nil=>.nil
 | _,_,n+1,.cons r t=>.cons r (Vals.take n t)
theorem Vals.drop:∀ {xs:List V} {us:List Value} (n:Nat),Vals xs us->Vals (xs.drop n) (us.drop n)
 | _,_,0,r=>r
 | _,_,_+1,.nil=>.nil
 | _,_,n+1,.cons _ t=>Vals.drop n t
def RelO:Option V->Option Value->Prop
 | some v,some u=>RelV v u
 | none,none=>True
 | _,_=>False
def KV{κ:Type}:List (κ×V)->List (κ×Value)->Prop:=Paired fun(p:κ×V) (q:κ×Value)=>p.1=q.1/\RelV p.2 q.2
noncomputable def kV:bC->V
 | .inl i=>.int i
 | .inr x=>.str x
inductive HO where
 | lst (xs:List V)
 | tup (xs:List V)
 | dK (kvs:List (bC×V)) | dT (kvs:List (List bC×V))
 | set (S:Int->Bool) (n:Nat)
 | ins (C dx:Addr) (fs:List (Str×V))
 | own (x:Addr)
 | xd (fs:List (Str×V))
 | met (f x:Addr)
 | rng (lo hi:Int)
 | frz (o:Obj) (u:HO)
 | tbl (ps:Array Value)
 | ext (φ:Heap->Prop)
abbrev Hp:=Addr->Option HO
noncomputable def upd(H:Hp)(a:Addr)(o:HO):Hp:=fun b=>if b=a then some o else H b
theorem bq{H:Hp}{a:Addr}{o:HO}:upd H a o a=some o:=by unfold upd;rw [if_pos rfl]
theorem bf{H:Hp}{a b:Addr}{o:HO}(h:b≠a):upd H a o b=H b:=by unfold upd;rw [if_neg h]
theorem cj{H:Hp}{a b:Addr}{o:HO}(h:H a=some o)(h':H b=none):a≠b:=by
 intro e;subst e;rw [h] at h';cases h'
def IsTupN(h:Heap)(a:Addr)(items:Array Value):Prop:=∃ o,h.get? a=some o/\o.cls=.type "tuple"/\(∃ n,o.data=.seq items n)/\o.dict=none
theorem IsTupN.up{h:Heap}{a:Addr}{items:Array Value}(x:IsTupN h a items):IsTup h a items:=by
 obtain⟨o,e,c,d,_⟩:=x
 exact⟨o,e,c,d⟩
theorem IsTupN.lt{h:Heap}{a:Addr}{items:Array Value}(x:IsTupN h a items):a<h.objs.size:=x.up.lt
theorem IsTupN.new(h:Heap)(items:Array Value):IsTupN (h.push { cls:=.type "tuple",data:=.seq items }) h.objs.size items:=⟨_,Heap.get?_push_size _ rfl,rfl,⟨_,rfl⟩,rfl⟩
section
variable(P:Program)(w:World)
def ObjOk(H:Hp)(h:Heap)(a:Addr):HO->Prop
 | .lst xs=>xs.length<=sizeLine/\∃ (its:List Value) (n:Nat),Vals xs its/\h.get? a=some { cls:=.type "list",data:=.seq its.toArray n }
 | .tup xs=>xs.length<=sizeLine/\∃ its:List Value,Vals xs its/\IsTupN h a its.toArray
 | .dK kvs=>kvs.length<=sizeLine/\(a == sysModules)=false/\∃ vs,KV kvs vs/\h.DictOf (ca P w) a vs
 | .dT kvs=>kvs.length<=sizeLine/\(a == sysModules)=false/\∃ xs:List (List bC×Addr×Value),
   Paired (fun(p:List bC×V) (q:List bC×Addr×Value)=>p.1=q.1/\H q.2.1=some (.tup (p.1.map kV))/\RelV p.2 q.2.2) kvs xs /\
   ∃ o es ep,h.get? a=some o/\o.ExactDict/\o.data=.dict es ep/\es.toList=xs.map (entryOfKey (tupleKind (ca P w)))/\(xs.map (·.1)).Nodup
 | .set S n=>h.SetOf (intKind P w) a S n
 | .ins C dx fs=>H dx=some (.own a)/\fs.length<=1000/\dx≠a/\h.get? a=some (PySem.W.instObj C dx) /\
   ∃ mA,h.Ns1 dx mA/\(∀ f,RelO (fs.lookup f) (mA f))/\PySem.Within mA (fs.map (·.1))
 | .own _=>∃ o,h.get? a=some o
 | .xd fs=>∃ mA,h.Ns1 a mA/\∀ f,RelO (fs.lookup f) (mA f)
 | .rng lo hi=>∃ t u v,h.get? a=some { cls:=.type "range",data:=.fields #[.int lo t,.int hi u,.int 1 v] }
 | .frz o u=>h.get? a=some o/\ObjOk H h a u
 | .tbl ps=>h.get? a=some { cls:=.none,data:=.fields ps }
 | .met f x=>h.get? a=some (PySem.W.methodObj (.ref f) (.ref x))
 | .ext φ=>φ h/\(∃ o,h.get? a=some o)/\∀ h1 h2:Heap,φ h1->(∀ o,h1.get? a=some o->h2.get? a=some o)->φ h2
def HOk(H:Hp)(h:Heap):Prop:=∀ a o,H a=some o->ObjOk P w H h a o
end
section
variable{P:Program}{w:World}{H H':Hp}{h h':Heap}{a:Addr}{o:HO}
theorem ObjOk.lt(x:ObjOk P w H h a o):a<h.objs.size:=by
 cases o with
 | lst xs=>obtain⟨_,_,_,_,e⟩:=x;exact Heap.lt_size e
 | tup xs=>obtain⟨_,_,_,p⟩:=x;exact p.lt
 | dK kvs=>obtain⟨_,_,_,_,o,_,_,e,_⟩:=x;exact Heap.lt_size e
 | dT kvs=>obtain⟨_,_,_,_,o,_,_,e,_⟩:=x;exact Heap.lt_size e
 | set S n=>obtain⟨o,_,_,_,e,_⟩:=x;exact Heap.lt_size e
 | ins C dx fs=>obtain⟨_,_,_,e,_⟩:=x;exact Heap.lt_size e
 | own y=>obtain⟨_,e⟩:=x;exact Heap.lt_size e
 | xd fs=>obtain⟨_,⟨_,_,_,e,_⟩,_⟩:=x;exact Heap.lt_size e
 | rng lo hi=>obtain⟨_,_,_,e⟩:=x;exact Heap.lt_size e
 | frz ob u=>obtain⟨e,_⟩:=x;exact Heap.lt_size e
 | tbl ps=>exact Heap.lt_size (show h.get? a=some _ from x)
 | met f y=>exact Heap.lt_size (show h.get? a=some _ from x)
 | ext φ=>obtain⟨_,⟨_,e⟩,_⟩:=x;exact Heap.lt_size e
theorem Paired.mapP{α β:Type}{F G:α->β->Prop}:∀ {l₁:List α} {l₂:List β},Paired F l₁ l₂->(∀ a b,F a b->G a b)->Paired G l₁ l₂
 | _,_,.nil,_=>.nil
 | _,_,.cons r t,f=>.cons (f _ _ r) (Paired.mapP t f)
theorem ObjOk.stay(x:ObjOk P w H h a o)(k:∀ b u,(b=a\/H b=some (.own a))->h.get? b=some u->h'.get? b=some u)
  (ho:∀ b,H b=some (.own a)->H' b=some (.own a)) (ht:∀ b xs,H b=some (.tup xs)->H' b=some (.tup xs)):ObjOk P w H' h' a o:=by
 induction o with
 | lst xs=>obtain⟨z,its,n,r,e⟩:=x;exact⟨z,its,n,r,k _ _ (.inl rfl) e⟩
 | tup xs=>obtain⟨z,its,r,ob,e,c⟩:=x;exact⟨z,its,r,ob,k _ _ (.inl rfl) e,c⟩
 | dK kvs=>obtain⟨z,y,vs,r,ob,es,ep,e,c⟩:=x;exact⟨z,y,vs,r,ob,es,ep,k _ _ (.inl rfl) e,c⟩
 | dT kvs=>
  obtain⟨z,y,xs,r,ob,es,ep,e,c⟩:=x
  exact⟨z,y,xs,Paired.mapP r fun p q z=>⟨z.1,ht _ _ z.2.1,z.2.2⟩,ob,es,ep,k _ _ (.inl rfl) e,c⟩
 | set S n=>obtain⟨ob,es,ep,t,e,c⟩:=x;exact⟨ob,es,ep,t,k _ _ (.inl rfl) e,c⟩
 | ins C dx fs=>
  obtain⟨d,z,ne,e,mA,⟨od,es,ep,e2,c⟩,r⟩:=x
  exact⟨ho _ d,z,ne,k _ _ (.inl rfl) e,mA,⟨od,es,ep,k _ _ (.inr d) e2,c⟩,r⟩
 | own y=>obtain⟨ob,e⟩:=x;exact⟨ob,k _ _ (.inl rfl) e⟩
 | xd fs=>obtain⟨mA,⟨od,es,ep,e,c⟩,r⟩:=x;exact⟨mA,⟨od,es,ep,k _ _ (.inl rfl) e,c⟩,r⟩
 | rng lo hi=>obtain⟨t,u,v,e⟩:=x;exact⟨t,u,v,k _ _ (.inl rfl) e⟩
 | frz ob u ih=>obtain⟨e,q⟩:=x;exact⟨k _ _ (.inl rfl) e,ih q⟩
 | tbl ps=>
  have e:h.get? a=some { cls:=.none,data:=.fields ps }:=x
  show h'.get? a=some { cls:=.none,data:=.fields ps }
  exact k a _ (.inl rfl) e
 | met f y=>
  have e:h.get? a=some (PySem.W.methodObj (.ref f) (.ref y)):=x
  show h'.get? a=some (PySem.W.methodObj (.ref f) (.ref y))
  exact k a _ (.inl rfl) e
 | ext φ=>obtain⟨p,⟨o,e⟩,st⟩:=x;exact⟨st _ _ p fun o q=>k _ _ (.inl rfl) q,⟨o,k _ _ (.inl rfl) e⟩,st⟩
theorem HOk.lt(x:HOk P w H h)(e:H a=some o):a<h.objs.size:=(x a o e).lt
theorem HOk.fresh(x:HOk P w H h)(e:h.objs.size<=a):H a=none:=by
 cases q:H a with
 | none=>rfl
 | some u=>exact absurd (Nat.lt_of_lt_of_le (x.lt q) e) (Nat.lt_irrefl _)
theorem HOk.kept(x:HOk P w H h)(k:∀ b u,h.get? b=some u->h'.get? b=some u):HOk P w H h':=fun a o e=>
 (x a o e).stay (fun b u _ q=>k b u q) (fun _ q=>q) fun _ _ q=>q
theorem HOk.laid(x:HOk P w H h)(k:∀ b u,h.get? b=some u->h'.get? b=some u)(hp:h.objs.size<=a)(new:ObjOk P w (upd H a o) h' a o):HOk P w (upd H a o) h':=fun b u e=>by
 have hn:=x.fresh hp
 by_cases hb:b=a
 ·subst hb;rw [bq] at e;cases e;exact new
 ·rw [bf hb] at e
  exact(x b u e).stay (fun c v _ q=>k c v q) (fun c q=>by rw [bf (cj q hn)];exact q) fun c xs q=>by rw [bf (cj q hn)];exact q
end
def Rd(H:Hp)(a:Addr)(u:HO):Prop:=H a=some u\/∃ o,H a=some (.frz o u)
theorem Rd.ok{P:Program}{w:World}{H:Hp}{h:Heap}{a:Addr}{u:HO}(r:Rd H a u)(x:HOk P w H h):ObjOk P w H h a u:=by
 rcases r with r | ⟨o,r⟩
 ·exact x a u r
 ·obtain⟨_,q⟩:=x a _ r
  exact q
def Mut:Option HO->Prop
 | some (.lst _)=>True
 | some (.dK _)=>True
 | some (.dT _)=>True
 | some (.set _ _)=>True
 | some (.ins _ _ _)=>True
 | some (.ext _)=>True
 | _=>False
section
variable{P:Program}{w:World}{H:Hp}{h h':Heap}{x e:Addr}{o':HO}
theorem HOk.write(ok:HOk P w H h)(mu:Mut (H x))(he:e=x\/H e=some (.own x))(k:∀ b u,b≠e->h.get? b=some u->h'.get? b=some u)(heo:∃ u,h'.get? e=some u)
  (new:ObjOk P w (upd H x o') h' x o'):HOk P w (upd H x o') h':=fun b u q=>by
 have nown:∀ c y,H c=some (.own y)->c≠x:=fun c y r z=>by subst z;rw [r] at mu;exact mu
 have ntup:∀ c xs,H c=some (.tup xs)->c≠x:=fun c xs r z=>by subst z;rw [r] at mu;exact mu
 by_cases hb:b=x
 ·subst hb;rw [bq] at q;cases q;exact new
 ·rw [bf hb] at q
  by_cases hbe:b=e
  ·have q':H b=some (.own x):=by
    rcases he with z | z
    ·exact absurd (hbe.trans z) hb
    ·rw [hbe];exact z
   rw [q] at q';cases q'
   obtain⟨v,hv⟩:=heo
   exact⟨v,by rw [hbe];exact hv⟩
  ·refine(ok b u q).stay (fun c v hc r=>k c v ?_ r) (fun c r=>by rw [bf (nown c b r)];exact r) fun c xs r=>by rw [bf (ntup c xs r)];exact r
   rcases hc with rfl | hc
   ·exact hbe
   ·rintro rfl
    rcases he with z | z
    ·exact nown c b hc z
    ·rw [hc] at z;cases z;exact hb rfl
end
structure Un(fs ex:List Addr)(H H':Hp)(h h':Heap):Prop where
 keep:∀ b o,h.get? b=some o->H b=none->b ∉ fs->b ∉ ex->h'.get? b=some o
 slot:∀ b o,h.get? b=some o->H b=none->b∈fs->b ∉ ex->∃ sl,h'.get? b=some { o with slots:=sl }
 free:∀ b o,h.get? b=some o->H b=none->b ∉ ex->H' b=none
 there:∀ b o,h.get? b=some o->b ∉ ex->∃ o',h'.get? b=some o'
 tups:∀ b xs,H b=some (.tup xs)->H' b=some (.tup xs)
 frzs:∀ b o u,H b=some (.frz o u)->H' b=some (.frz o u)
 tbls:∀ b ps,H b=some (.tbl ps)->∃ more,H' b=some (.tbl (ps++more))
section
variable{fs fs' ex ex':List Addr}{H H1 H2:Hp}{h h1 h2 h':Heap}{a x e:Addr}{o:HO}
theorem Un.any(u:Un fs ex H H1 h h1){b:Addr}{ob:Obj}(q:h.get? b=some ob)(n:H b=none)(hx:b ∉ ex):∃ sl,h1.get? b=some { ob with slots:=sl }:=by
 by_cases hb:b∈fs
 ·exact u.slot b ob q n hb hx
 ·exact⟨ob.slots,u.keep b ob q n hb hx⟩
theorem Un.kept(k:∀ b u,h.get? b=some u->h'.get? b=some u):Un fs ex H H h h':=
 ⟨fun b ob q _ _ _=>k b ob q,fun b ob q _ _ _=>⟨ob.slots,k b ob q⟩,fun _ _ _ n _=>n,fun b ob q _=>⟨ob,k b ob q⟩,fun _ _ q=>q,fun _ _ _ q=>q,fun _ ps q=>⟨#[],by rw [q];simp⟩⟩
theorem Un.refl:Un fs ex H H h h:=Un.kept fun _ _ q=>q
theorem Un.laid(k:∀ b u,h.get? b=some u->h'.get? b=some u)(hp:h.objs.size<=a)(hn:H a=none):Un fs ex H (upd H a o) h h' where
 keep:=fun b u q _ _ _=>k b u q
 slot:=fun b u q _ _ _=>⟨u.slots,k b u q⟩
 free:=fun b u q n _=>by rw [bf (Nat.ne_of_lt (Nat.lt_of_lt_of_le (Heap.lt_size q) hp))];exact n
 there:=fun b u q _=>⟨u,k b u q⟩
 tups:=fun b xs q=>by rw [bf (cj q hn)];exact q
 frzs:=fun b u xs q=>by rw [bf (cj q hn)];exact q
 tbls:=fun b ps q=>⟨#[],by rw [bf (cj q hn),q];simp⟩
theorem Un.write(mu:Mut (H x))(he:e=x\/H e=some (.own x))(k:∀ b u,b≠e->h.get? b=some u->h'.get? b=some u)(heo:∃ u,h'.get? e=some u):Un fs ex H (upd H x o) h h':=by
 have hx:∀ b,H b=none->b≠x:=fun b n z=>by subst z;rw [n] at mu;exact mu
 have hb:∀ b,H b=none->b≠e:=fun b n z=>by
  subst z
  rcases he with r | r
  ·exact hx b n r
  ·rw [n] at r;cases r
 have hm:∀ b u,H b=some u->¬ Mut (some u)->b≠x:=fun b u q nm z=>by subst z;rw [q] at mu;exact nm mu
 refine⟨fun b u q n _ _=>k b u (hb b n) q,fun b u q n _ _=>⟨u.slots,k b u (hb b n) q⟩,fun b u q n _=>by rw [bf (hx b n)];exact n,fun b u q _=>?_,
  fun b xs q=>by rw [bf (hm b _ q fun z=>z)];exact q,fun b u xs q=>by rw [bf (hm b _ q fun z=>z)];exact q,fun b ps q=>⟨#[],by rw [bf (hm b _ q fun z=>z),q];simp⟩⟩
 by_cases hbe:b=e
 ·subst hbe;exact heo
 ·exact⟨u,k b u hbe q⟩
end
def trk(h:Heap)(H:Hp):List Addr:=(List.range h.objs.size).filter fun a=>(H a).isSome
noncomputable def yF(h:Heap)(H:Hp):Heap:=PySem.W.hideAll h (trk h H)
theorem Hi(h:Heap)(H:Hp):(yF h H).objs.size=h.objs.size:=PySem.W.hideAll_size _ _
theorem KG{h:Heap}{H:Hp}{b:Addr}{o:Obj}(e:h.get? b=some o)(n:H b=none):(yF h H).get? b=some o:=
 PySem.W.hideAll_get _ e fun hm=>by
  have q:(H b).isSome=true:=(List.mem_filter.mp hm).2
  rw [n] at q;simp at q
theorem NN{h:Heap}{H:Hp}{b:Addr}{o:Obj}(e:(yF h H).get? b=some o):h.get? b=some o/\H b=none:=by
 have e':h.get? b=some o:=PySem.W.of_hideAll (trk h H) e
 refine⟨e',?_⟩
 cases q:H b with
 | none=>rfl
 | some x=>
  have hm:b∈trk h H:=List.mem_filter.mpr ⟨List.mem_range.mpr (Heap.lt_size e'),by simp [q]⟩
  have z:(yF h H).get? b=none:=PySem.W.hideAll_none (trk h H) hm
  rw [z] at e;cases e
end L2
namespace L2
open PySem PySem.Spec PyProof.Rows
structure Mod(K:PySem.W.Frag)(mg:Str->Option Value)(base:Heap):Prop where
 kin:K.In base
 glob:base.Ns mainGlobals mg
 blt:∃ mb,base.Ns builtinsNs mb/\∀ x:Str,x ≠ "__name__"->mb x=bootBuiltins x
 nolimit:base.NoLimit
structure Cx where
 prog:Program
 w:World
 K:PySem.W.Frag
 mg:Str->Option Value
 base:Heap
 A:Around
 N:List Str
 s₀:Shared
 H₀:Hp
 env:Env
 outer:List Env
 stack:List Env
 ex:List Addr
 fn:Str->Bool
 calm:Bool
 pn:List (Addr×Obj)
 xe:Value->Shared->Prop
def Io(l:List Env):List Addr:=l.filterMap (·.frame)
abbrev Cx.fs(X:Cx):List Addr:=Io X.outer
def Uj(sc:Scope)(x:Str):Prop:=sc.names.lookup x=some .local\/sc.names.lookup x=some .cell\/sc.names.lookup x=some .free
def Mu(sc:Scope)(x:Str):Prop:=sc.names.lookup x=some .local\/sc.names.lookup x=some .cell
def Look(env:Env)(h:Heap)(m:Str->Option Value)(x:Str)(u:Value):Prop:=
 (env.kindOf x=some .local/\m x=some u)\/((env.kindOf x=some .cell\/env.kindOf x=some .free)/\∃ c,env.cells.lookup x=some c/\h.IsCell c (some u))
structure Cx.Ok(X:Cx):Prop where
 mod:Mod X.K X.mg X.base
 kind:X.env.scope.kind=.function
 glob:X.env.globals=mainGlobals
 blt:X.env.builtins=builtinsNs
 above:X.s₀.heap.objs.size<=X.env.locals
 inj:∀ x y c,X.env.cells.lookup x=some c->X.env.cells.lookup y=some c->x=y
 has:∀ x,(X.env.kindOf x=some .cell\/X.env.kindOf x=some .free)->∃ c,X.env.cells.lookup x=some c
 cab:∀ x c,X.fn x=true->X.env.cells.lookup x=some c->X.s₀.heap.objs.size<=c
 hd:X.calm=true->X.A.handled=none
 frames:X.A.frames=some X.stack
 stk:X.stack=X.outer\/(X.stack=X.env::X.outer/\X.env.frame=some X.env.locals)
 exf:∀ b∈X.ex,b≠X.env.locals/\∀ x c,X.env.cells.lookup x=some c->c≠b
 bs:∀ b o,X.base.get? b=some o->X.s₀.heap.get? b=some o/\X.H₀ b=none
 bsz:X.base.objs.size<=X.s₀.heap.objs.size
 noex:∀ b o,X.base.get? b=some o->b ∉ X.ex
 exfs:∀ b∈X.ex,b ∉ X.fs
 funs:X.s₀.heap.FunFrames X.base X.outer
 frf:∀ b∈X.fs,X.H₀ b=none
structure Inv(X:Cx)(pins:List (Addr×Obj))(σ:List (Option V))(H:Hp)(s:Shared):Prop where
 ok:X.Ok
 os:s.os=X.s₀.os
 bare:AllBare s.gens
 base:Un X.fs X.ex X.H₀ H X.s₀.heap s.heap
 loc:∃ m,s.heap.Ns X.env.locals m/\∀ (i:Nat) (x:Str) (v:V),X.N[i]?=some x->σ[i]?=some (some v)->Uj X.env.scope x->∃ u,RelV v u/\Look X.env s.heap m x u
 cell:∀ x c,X.env.cells.lookup x=some c->∃ v,s.heap.IsCell c v
 free:H X.env.locals=none
 freeC:∀ x c,X.env.cells.lookup x=some c->H c=none
 pin:∀ p∈X.pn++pins,s.heap.get? p.1=some p.2/\H p.1=none/\p.1≠X.env.locals/\p.1 ∉ X.fs/\∀ v,p.2.data≠.cell v
 hok:HOk X.prog X.w H s.heap
 len:σ.length=X.N.length
section
variable{X:Cx}{pins:List (Addr×Obj)}{σ:List (Option V)}{H H':Hp}{s:Shared}{h':Heap}
theorem Cx.Ok.nofr(ok:X.Ok){b:Addr}{o:Obj}(e:X.base.get? b=some o):b ∉ X.fs:=fun hb=>by
 have:=(ok.funs.mem hb).1
 rw [e] at this;cases this
theorem Inv.bs(I:Inv X pins σ H s):∀ b o,X.base.get? b=some o->s.heap.get? b=some o/\H b=none:=fun b o e=>
 ⟨I.base.keep b o (I.ok.bs b o e).1 (I.ok.bs b o e).2 (I.ok.nofr e) (I.ok.noex b o e),I.base.free b o (I.ok.bs b o e).1 (I.ok.bs b o e).2 (I.ok.noex b o e)⟩
theorem Inv.bk(I:Inv X pins σ H s):∀ b o,X.base.get? b=some o->s.heap.get? b=some o:=fun b o e=>(I.bs b o e).1
theorem Inv.mod(I:Inv X pins σ H s):Mod X.K X.mg X.base:=I.ok.mod
theorem Inv.kIn(I:Inv X pins σ H s):X.K.In s.heap:=I.ok.mod.kin.keeps I.bk
theorem Inv.lt(I:Inv X pins σ H s):X.env.locals<s.heap.objs.size:=let ⟨_,hn,_⟩:=I.loc;hn.lt
theorem Inv.sz(I:Inv X pins σ H s):X.s₀.heap.objs.size<=s.heap.objs.size:=Nat.le_trans I.ok.above (Nat.le_of_lt I.lt)
theorem Inv.nofs(I:Inv X pins σ H s){a:Addr}(h:s.heap.objs.size<=a):a ∉ X.fs:=fun hb=>by
 obtain⟨_,o,ho,_⟩:=I.ok.funs.mem hb
 exact absurd (Nat.lt_of_lt_of_le (Heap.lt_size ho) (Nat.le_trans I.sz h)) (Nat.lt_irrefl _)
theorem Inv.cne(I:Inv X pins σ H s):∀ x c,X.env.cells.lookup x=some c->c≠X.env.locals:=fun x c e z=>by
 obtain⟨v,o,ho,hd⟩:=I.cell x c e
 obtain⟨m,⟨o',es,ep,ho',hd',_⟩,_⟩:=I.loc
 rw [z,ho'] at ho;cases ho;rw [hd'] at hd;cases hd
theorem Inv.funs(I:Inv X pins σ H s):s.heap.FunFrames X.base X.outer:=by
 have all:∀ (l:List Env),(∀ b∈Io l,b∈X.fs)->X.s₀.heap.FunFrames X.base l->s.heap.FunFrames X.base l:=by
  intro l
  induction l with
  | nil=>intro _ _;trivial
  | cons env r ih=>
   intro hs hl
   obtain⟨hk,⟨L,o,hf,hn,ho,hd⟩,hr⟩:=hl
   have hL:L∈X.fs:=hs L (by unfold Io;rw [List.filterMap_cons,hf];exact List.mem_cons_self)
   obtain⟨sl,e⟩:=I.base.slot L o ho (I.ok.frf L hL) hL fun z=>I.ok.exfs L z hL
   exact⟨hk,⟨L,_,hf,hn,e,hd⟩,ih (fun b hb=>hs b (by unfold Io;rw [List.filterMap_cons,hf];exact List.mem_cons_of_mem _ hb)) hr⟩
 exact all X.outer (fun _ hb=>hb) I.ok.funs
theorem Inv.stack(I:Inv X pins σ H s):s.heap.FunFrames X.base X.stack:=by
 rcases I.ok.stk with e | ⟨e,hf⟩
 ·rw [e];exact I.funs
 ·rw [e]
  obtain⟨m,hn,_⟩:=I.loc
  refine .cons (by rw [I.ok.kind];decide) hf hn ?_ I.funs
  exact Heap.get?_none_of_le (Nat.le_trans I.ok.bsz I.ok.above)
theorem Inv.stkSub(I:Inv X pins σ H s):∀ b∈Io X.stack,b∈X.env.locals::X.fs:=fun b hb=>by
 rcases I.ok.stk with e | ⟨e,hf⟩
 ·rw [e] at hb;exact List.mem_cons_of_mem _ hb
 ·rw [e] at hb
  unfold Io at hb
  rw [List.filterMap_cons,hf] at hb
  exact hb
theorem Inv.stkFree(I:Inv X pins σ H s):∀ b∈Io X.stack,H b=none:=fun b hb=>by
 rcases List.mem_cons.mp (I.stkSub b hb) with e | hb
 ·rw [e];exact I.free
 ·obtain⟨_,o,ho,_⟩:=I.ok.funs.mem hb
  exact I.base.free b o ho (I.ok.frf b hb) fun z=>I.ok.exfs b z hb
theorem Inv.step{g':Array GenState}{t':Nat}{d':Drawn}{ch:List Addr}(I:Inv X pins σ H s)
  (hch:∀ b∈ch,(b∈X.ex\/X.s₀.heap.objs.size<=b)/\b≠X.env.locals/\(∀ x c,X.env.cells.lookup x=some c->c≠b)/\∀ p∈X.pn++pins,p.1≠b)
  (keep:∀ b o,b≠X.env.locals->b ∉ X.fs->b ∉ ch->s.heap.get? b=some o->H b=none->h'.get? b=some o)
  (slot:∀ b o,b≠X.env.locals->b∈X.fs->b ∉ ch->s.heap.get? b=some o->H b=none->∃ sl,h'.get? b=some { o with slots:=sl }) (free:∀ b o,b ∉ ch->s.heap.get? b=some o->H b=none->H' b=none)
  (there:∀ b o,b ∉ ch->s.heap.get? b=some o->∃ o',h'.get? b=some o')
  (tups:∀ b xs,H b=some (.tup xs)->H' b=some (.tup xs)) (frzs:∀ b o u,H b=some (.frz o u)->H' b=some (.frz o u)) (tbls:∀ b ps,H b=some (.tbl ps)->∃ more,H' b=some (.tbl (ps++more)))
  (ns:∀ m,s.heap.Ns X.env.locals m->h'.Ns X.env.locals m) (hok:HOk X.prog X.w H' h') (hg:AllBare g') :
  Inv X pins σ H' { s with heap:=h',gens:=g',drawn:=d',toks:=t' }:=by
 have neL:∀ b o,X.s₀.heap.get? b=some o->b≠X.env.locals:=fun b o e=>Nat.ne_of_lt (Nat.lt_of_lt_of_le (Heap.lt_size e) I.ok.above)
 have neC:∀ b o,X.s₀.heap.get? b=some o->b ∉ X.ex->b ∉ ch:=fun b o e hx hb=>by
  rcases(hch b hb).1 with z | z
  ·exact hx z
  ·exact absurd (Nat.lt_of_lt_of_le (Heap.lt_size e) z) (Nat.lt_irrefl _)
 have cellK:∀ x c,X.env.cells.lookup x=some c->∀ v,s.heap.IsCell c v->h'.IsCell c v:=fun x c e v ⟨o,ho,hd⟩=>by
  have nch:c ∉ ch:=fun z=>(hch c z).2.2.1 x c e rfl
  by_cases hc:c∈X.fs
  ·obtain⟨sl,q⟩:=slot c o (I.cne x c e) hc nch ho (I.freeC x c e)
   exact⟨_,q,hd⟩
  ·exact⟨o,keep c o (I.cne x c e) hc nch ho (I.freeC x c e),hd⟩
 refine⟨I.ok,I.os,hg,⟨fun b o e n hb hx=>?_,fun b o e n hb hx=>?_,fun b o e n hx=>?_,fun b o e hx=>?_,fun b xs e=>tups b xs (I.base.tups b xs e),fun b o xs e=>frzs b o xs (I.base.frzs b o xs e),fun b ps e=>?_⟩,?_,fun x c e=>?_,?_,fun x c e=>?_,fun p hp=>?_,hok,I.len⟩
 ·exact keep b o (neL b o e) hb (neC b o e hx) (I.base.keep b o e n hb hx) (I.base.free b o e n hx)
 ·obtain⟨sl,e1⟩:=I.base.slot b o e n hb hx
  obtain⟨sl',e2⟩:=slot b _ (neL b o e) hb (neC b o e hx) e1 (I.base.free b o e n hx)
  exact⟨sl',e2⟩
 ·obtain⟨o',e1⟩:=I.base.there b o e hx
  exact free b o' (neC b o e hx) e1 (I.base.free b o e n hx)
 ·obtain⟨o',e1⟩:=I.base.there b o e hx
  exact there b o' (neC b o e hx) e1
 ·obtain⟨m1,e1⟩:=I.base.tbls b ps e
  obtain⟨m2,e2⟩:=tbls b _ e1
  exact⟨m1++m2,by rw [e2,Array.append_assoc]⟩
 ·obtain⟨m,hn,hl⟩:=I.loc
  refine⟨m,ns m hn,fun i x v e1 e2 e3=>?_⟩
  obtain⟨u,r,l⟩:=hl i x v e1 e2 e3
  refine⟨u,r,?_⟩
  rcases l with l | ⟨k,c,e,z⟩
  ·exact .inl l
  ·exact .inr ⟨k,c,e,cellK x c e _ z⟩
 ·obtain⟨v,z⟩:=I.cell x c e
  exact⟨v,cellK x c e v z⟩
 ·obtain⟨m,⟨o,_,_,ho,_⟩,_⟩:=I.loc
  exact free _ o (fun z=>(hch _ z).2.1 rfl) ho I.free
 ·obtain⟨v,o,ho,hd⟩:=I.cell x c e
  exact free c o (fun z=>(hch c z).2.2.1 x c e rfl) ho (I.freeC x c e)
 ·obtain⟨e,n,ne,nf,d⟩:=I.pin p hp
  have nch:p.1 ∉ ch:=fun z=>(hch p.1 z).2.2.2 p hp rfl
  exact⟨keep p.1 p.2 ne nf nch e n,free p.1 p.2 nch e n,ne,nf,d⟩
theorem Inv.un{t':Nat}(I:Inv X pins σ H s)(u:Un X.fs [] H H' s.heap h')(hok:HOk X.prog X.w H' h'):Inv X pins σ H' { s with heap:=h',toks:=t' }:=by
 obtain⟨m,⟨o,es,ep,ho,r⟩,_⟩:=id I.loc
 obtain⟨sl,hL⟩:=u.any ho I.free (by simp)
 exact I.step (g':=s.gens) (d':=s.drawn) (ch:=[]) (fun _ z=>nomatch z) (fun b o _ hb _ e n=>u.keep b o e n hb (by simp)) (fun b o _ hb _ e n=>u.slot b o e n hb (by simp)) (fun b o _ e n=>u.free b o e n (by simp)) (fun b o _ e=>u.there b o e (by simp)) u.tups u.frzs u.tbls (fun m' hm=>by
  obtain⟨o',es',ep',ho',r'⟩:=hm
  rw [ho] at ho';cases ho'
  exact⟨_,es',ep',hL,r'⟩) hok I.bare
theorem Inv.call{g':Array GenState}{t':Nat}{d':Drawn}{ch:List Addr}(I:Inv X pins σ H s)(u:Un (Io X.stack) ch H H' s.heap h')(hok:HOk X.prog X.w H' h')(hg:AllBare g')
  (hch:∀ b∈ch,(b∈X.ex\/X.s₀.heap.objs.size<=b)/\b≠X.env.locals/\(∀ x c,X.env.cells.lookup x=some c->c≠b)/\∀ p∈X.pn++pins,p.1≠b) :
  Inv X pins σ H' { s with heap:=h',gens:=g',drawn:=d',toks:=t' }:=by
 obtain⟨m,⟨o,es,ep,ho,r⟩,_⟩:=id I.loc
 obtain⟨sl,hL⟩:=u.any ho I.free fun z=>(hch _ z).2.1 rfl
 exact I.step (ch:=ch) hch (fun b o hL hb hc e n=>u.keep b o e n (fun z=>(List.mem_cons.mp (I.stkSub b z)).elim hL hb) hc) (fun b o _ _ hc e n=>u.any e n hc) (fun b o hc e n=>u.free b o e n hc) (fun b o hc e=>u.there b o e hc) u.tups u.frzs u.tbls (fun m' hm=>by
  obtain⟨o',es',ep',ho',r'⟩:=hm
  rw [ho] at ho';cases ho'
  exact⟨_,es',ep',hL,r'⟩) hok hg
theorem Inv.turned{t':Nat}{it:Addr}(I:Inv X pins σ H s)(k:∀ b o,b≠it->s.heap.get? b=some o->h'.get? b=some o)(hn:H it=none)(hL:it≠X.env.locals)
  (h1:it∈X.ex\/X.s₀.heap.objs.size<=it) (h2:∀ x c,X.env.cells.lookup x=some c->c≠it) (h3:∀ p∈X.pn++pins,p.1≠it):Inv X pins σ H { s with heap:=h',toks:=t' }:=by
 have nit:∀ b u,H b=some u->b≠it:=fun b u e z=>by rw [z,hn] at e;cases e
 refine I.step (g':=s.gens) (d':=s.drawn) (ch:=[it]) (fun b hb=>?_) (fun b o _ _ hc e _=>k b o (fun z=>hc (by simp [z])) e) (fun b o _ _ hc e _=>⟨o.slots,k b o (fun z=>hc (by simp [z])) e⟩) (fun _ _ _ _ n=>n)
  (fun b o hc e=>⟨o,k b o (fun z=>hc (by simp [z])) e⟩) (fun _ _ e=>e) (fun _ _ _ e=>e) (fun b ps e=>⟨#[],by rw [e];simp⟩) (fun m hm=>?_) (fun b u e=>?_) I.bare
 ·have e:b=it:=by simpa using hb
  subst e
  exact⟨h1,hL,h2,h3⟩
 ·obtain⟨o,es,ep,ho,r⟩:=hm
  exact⟨o,es,ep,k _ o (Ne.symm hL) ho,r⟩
 ·refine(I.hok b u e).stay (fun c v hc q=>k c v ?_ q) (fun _ q=>q) fun _ _ q=>q
  rcases hc with z | z
  ·rw [z];exact nit b u e
  ·exact nit c _ z
theorem Inv.tok(I:Inv X pins σ H s)(t:Nat):Inv X pins σ H { s with toks:=t }:=I.un (h':=s.heap) (t':=t) Un.refl I.hok
theorem Inv.kept{t':Nat}(I:Inv X pins σ H s)(k:∀ b u,s.heap.get? b=some u->h'.get? b=some u):Inv X pins σ H { s with heap:=h',toks:=t' }:=I.un (Un.kept k) (I.hok.kept k)
theorem Inv.laid{a:Addr}{o:HO}{t':Nat}(I:Inv X pins σ H s)(k:∀ b u,s.heap.get? b=some u->h'.get? b=some u)(hp:s.heap.objs.size<=a)(new:ObjOk X.prog X.w (upd H a o) h' a o) :
  Inv X pins σ (upd H a o) { s with heap:=h',toks:=t' }:=I.un (Un.laid k hp (I.hok.fresh hp)) (I.hok.laid k hp new)
theorem Inv.write{x e:Addr}{o:HO}{t':Nat}(I:Inv X pins σ H s)(mu:Mut (H x))(he:e=x\/H e=some (.own x))(k:∀ b u,b≠e->s.heap.get? b=some u->h'.get? b=some u)(heo:∃ u,h'.get? e=some u)
  (new:ObjOk X.prog X.w (upd H x o) h' x o):Inv X pins σ (upd H x o) { s with heap:=h',toks:=t' }:=I.un (Un.write mu he k heo) (I.hok.write mu he k heo new)
theorem Inv.pins_of{pins':List (Addr×Obj)}(I:Inv X pins σ H s)(h:∀ p∈pins',s.heap.get? p.1=some p.2/\H p.1=none/\p.1≠X.env.locals/\p.1 ∉ X.fs/\∀ v,p.2.data≠.cell v):Inv X pins' σ H s:=
 ⟨I.ok,I.os,I.bare,I.base,I.loc,I.cell,I.free,I.freeC,fun p hp=>(List.mem_append.mp hp).elim (fun z=>I.pin p (List.mem_append_left _ z)) (h p),I.hok,I.len⟩
theorem Af{N:List Str}(hN:N.Nodup){i j:Nat}{x:Str}(a:N[i]?=some x)(b:N[j]?=some x):i=j:=by
 obtain⟨h1,e1⟩:=List.getElem?_eq_some_iff.mp a
 obtain⟨h2,e2⟩:=List.getElem?_eq_some_iff.mp b
 exact(List.getElem_inj hN).mp (e1.trans e2.symm)
theorem vA{M:Model}{A:Around}{E:Value->Shared->Prop}{i:Nat}{x:Str}{v:V}{u:Value}{Q:Unit->Shared->Prop}(I:Inv X pins σ H s)(hN:X.N.Nodup)(hi:X.N[i]?=some x)(hx:Mu X.env.scope x)(r:RelV v u)
  (h:∀ s',Inv X pins (σ.set i (some v)) H s'->(∃ a,Heap.SameBut a s.heap s'.heap/\(a=X.env.locals\/X.env.cells.lookup x=some a))->Q () s') (hf:X.fn x=true\/X.env.scope.names.lookup x=some .local:=by first | exact .inl rfl | exact .inr rfl | assumption):wpAny M A (storeName X.env x u) Q E s:=by
 obtain⟨m,hn,hl⟩:=id I.loc
 have hcls:(X.env.scope.kind == .class||(X.env.scope.kind == .module&&X.env.locals != X.env.globals))=false:=by rw [I.ok.kind];rfl
 have hiσ:i < σ.length:=by rw [I.len];exact(List.getElem?_eq_some_iff.mp hi).1
 have cne:=I.cne
 have tracked:∀ {a:Addr} {h':Heap},(∃ o,s.heap.get? a=some o/\H a=none)->Heap.SameBut a s.heap h'->HOk X.prog X.w H h':=fun {a h'} ha hs b ob e=>by
  obtain⟨_,_,hfree⟩:=ha
  refine(I.hok b ob e).stay (fun c w' hc q=>(hs.2 c ?_).trans q) (fun _ q=>q) fun _ _ q=>q
  rintro rfl
  rcases hc with rfl | hc
  ·rw [hfree] at e;cases e
  ·rw [hfree] at hc;cases hc
 rcases hx with hk | hk
 ·refine wpAny_storeName_local hk hn (fun h' hn' hs=>?_) hcls
  obtain⟨oL,_,_,hoL,_⟩:=id hn
  refine h _ ⟨I.ok,I.os,I.bare,⟨fun b o e n hb hx=>?_,fun b o e n hb hx=>?_,I.base.free,fun b o e hx=>?_,I.base.tups,I.base.frzs,I.base.tbls⟩,⟨_,hn',fun j y v' e1 e2 e3=>?_⟩,fun y c e=>?_,I.free,I.freeC,fun p hp=>?_,tracked ⟨oL,hoL,I.free⟩ hs,by simpa using I.len⟩ ⟨_,hs,.inl rfl⟩
  ·exact(hs.2 b (Nat.ne_of_lt (Nat.lt_of_lt_of_le (Heap.lt_size e) I.ok.above))).trans (I.base.keep b o e n hb hx)
  ·obtain⟨sl,e1⟩:=I.base.slot b o e n hb hx
   exact⟨sl,(hs.2 b (Nat.ne_of_lt (Nat.lt_of_lt_of_le (Heap.lt_size e) I.ok.above))).trans e1⟩
  ·obtain⟨o',e1⟩:=I.base.there b o e hx
   exact⟨o',(hs.2 b (Nat.ne_of_lt (Nat.lt_of_lt_of_le (Heap.lt_size e) I.ok.above))).trans e1⟩
  ·by_cases hj:j=i
   ·subst hj
    rw [hi] at e1;cases e1
    rw [List.getElem?_set_self hiσ] at e2
    cases e2
    exact⟨u,r,.inl ⟨hk,by simp⟩⟩
   ·rw [List.getElem?_set_ne (Ne.symm hj)] at e2
    obtain⟨u',r',q⟩:=hl j y v' e1 e2 e3
    refine⟨u',r',?_⟩
    rcases q with ⟨k,e⟩ | ⟨k,c,e,z⟩
    ·refine .inl ⟨k,?_⟩
     have:y≠x:=fun e=>hj (Af hN e1 (e ▸ hi))
     simp [this,e]
    ·exact .inr ⟨k,c,e,z.sameBut hs (cne y c e)⟩
  ·obtain⟨w',z⟩:=I.cell y c e
   exact⟨w',z.sameBut hs (cne y c e)⟩
  ·obtain⟨e,n,ne,nf,d⟩:=I.pin p hp
   exact⟨(hs.2 p.1 ne).trans e,n,ne,nf,d⟩
 ·have hfn:X.fn x=true:=by
   rcases hf with z | z
   ·exact z
   ·rw [z] at hk;cases hk
  obtain⟨c,hc⟩:=I.ok.has x (.inl hk)
  obtain⟨w',z⟩:=I.cell x c hc
  refine wpAny_storeName_cell I.ok.kind hk hc z (fun h' hc' hs=>?_)
  obtain⟨oc,hoc,hocd⟩:=id z
  refine h { s with heap:=h' } ⟨I.ok,I.os,I.bare,⟨fun b o e n hb hx=>?_,fun b o e n hb hx=>?_,I.base.free,fun b o e hx=>?_,I.base.tups,I.base.frzs,I.base.tbls⟩,⟨m,hn.sameBut hs (Ne.symm (cne x c hc)),fun j y v' e1 e2 e3=>?_⟩,fun y c' e=>?_,I.free,I.freeC,fun p hp=>?_,tracked ⟨oc,hoc,I.freeC x c hc⟩ hs,by simpa using I.len⟩ ⟨c,hs,.inr hc⟩
  ·exact(hs.2 b (Nat.ne_of_lt (Nat.lt_of_lt_of_le (Heap.lt_size e) (I.ok.cab x c hfn hc)))).trans (I.base.keep b o e n hb hx)
  ·obtain⟨sl,e1⟩:=I.base.slot b o e n hb hx
   exact⟨sl,(hs.2 b (Nat.ne_of_lt (Nat.lt_of_lt_of_le (Heap.lt_size e) (I.ok.cab x c hfn hc)))).trans e1⟩
  ·obtain⟨o',e1⟩:=I.base.there b o e hx
   exact⟨o',(hs.2 b (Nat.ne_of_lt (Nat.lt_of_lt_of_le (Heap.lt_size e) (I.ok.cab x c hfn hc)))).trans e1⟩
  ·by_cases hj:j=i
   ·subst hj
    rw [hi] at e1;cases e1
    rw [List.getElem?_set_self hiσ] at e2
    cases e2
    exact⟨u,r,.inr ⟨.inl hk,c,hc,hc'⟩⟩
   ·rw [List.getElem?_set_ne (Ne.symm hj)] at e2
    obtain⟨u',r',q⟩:=hl j y v' e1 e2 e3
    refine⟨u',r',?_⟩
    rcases q with q | ⟨k,c',e,z'⟩
    ·exact .inl q
    ·refine .inr ⟨k,c',e,z'.sameBut hs ?_⟩
     rintro rfl
     exact hj (Af hN e1 (I.ok.inj _ _ _ e hc ▸ hi))
  ·by_cases hcc:c'=c
   ·subst hcc;exact⟨_,hc'⟩
   ·obtain⟨w2,z2⟩:=I.cell y c' e
    exact⟨w2,z2.sameBut hs hcc⟩
  ·obtain⟨e,n,ne,nf,d⟩:=I.pin p hp
   refine⟨(hs.2 p.1 ?_).trans e,n,ne,nf,d⟩
   intro q
   rw [q,hoc] at e
   have q':oc=p.2:=Option.some.inj e
   exact d w' (by rw [<- q'];exact hocd)
theorem oG{M:Model}{A:Around}{E:Value->Shared->Prop}{i:Nat}{x:Str}{v:V}{u:Value}{Q:Unit->Shared->Prop}(I:Inv X pins σ H s)(hN:X.N.Nodup)(hi:X.N[i]?=some x)(hx:Mu X.env.scope x)(r:RelV v u)
  (h:∀ s',Inv X pins (σ.set i (some v)) H s'->Q () s') (hf:X.fn x=true\/X.env.scope.names.lookup x=some .local:=by first | exact .inl rfl | exact .inr rfl | assumption):wpAny M A (storeName X.env x u) Q E s:=
 vA I hN hi hx r (fun s' I' _=>h s' I') hf
theorem Inv.call'{s':Shared}{ch:List Addr}(I:Inv X pins σ H s)(ho:s'.os=s.os)(u:Un (Io X.stack) ch H H' s.heap s'.heap)(hok:HOk X.prog X.w H' s'.heap)(hg:AllBare s'.gens)
  (hch:∀ b∈ch,(b∈X.ex\/X.s₀.heap.objs.size<=b)/\b≠X.env.locals/\(∀ x c,X.env.cells.lookup x=some c->c≠b)/\∀ p∈X.pn++pins,p.1≠b):Inv X pins σ H' s':=by
 obtain⟨h',g',d',t',o'⟩:=s'
 have e:o'=s.os:=ho
 subst e
 exact I.call (g':=g') (t':=t') (d':=d') u hok hg hch
end
abbrev XK:=Value->Option Addr->Hp->Prop
abbrev St:=List (Option V)
abbrev VK:=V->Hp->Prop
abbrev TE:=St->Hp->VK->Prop
abbrev TT:=St->Hp->(Bool->Hp->Prop)->Prop
abbrev TA:=St->Hp->(List V->Hp->Prop)->Prop
structure vp where
 nx:St->Hp->Prop
 rt:VK
 bk:St->Hp->Prop:=fun _ _=>False
 ct:St->Hp->Prop:=fun _ _=>False
abbrev TS:=vp->St->Hp->Prop
def EP(X:Cx)(pins:List (Addr×Obj))(σ:St)(Q:VK)(u:Value)(s':Shared):Prop:=∃ v H',Inv X pins σ H' s'/\RelV v u/\Q v H'
def TP(X:Cx)(pins:List (Addr×Obj))(σ:St)(Q:Bool->Hp->Prop)(b:Bool)(s':Shared):Prop:=∃ H',Inv X pins σ H' s'/\Q b H'
def AP(X:Cx)(pins:List (Addr×Obj))(σ:St)(Q:List V->Hp->Prop)(us:List Value)(s':Shared):Prop:=∃ vs H',Inv X pins σ H' s'/\Vals vs us/\Q vs H'
def SP(X:Cx)(pins:List (Addr×Obj))(D:vp)(f:Flow)(s':Shared):Prop:=
 match f with
 | .next=>∃ σ' H',Inv X pins σ' H' s'/\D.nx σ' H'
 | .brk=>∃ σ' H',Inv X pins σ' H' s'/\D.bk σ' H'
 | .cont=>∃ σ' H',Inv X pins σ' H' s'/\D.ct σ' H'
 | .ret u=>∃ v σ' H',Inv X pins σ' H' s'/\RelV v u/\D.rt v H'
def PE(X:Cx)(e:Expr)(t:TE):Prop:=
 ∀ (pins:List (Addr×Obj)) (s:Shared) (σ:St) (H:Hp) (Q:VK),Inv X pins σ H s->t σ H Q->wpAny (model X.prog X.w) X.A (eval e X.env) (EP X pins σ Q) X.xe s
def PT(X:Cx)(e:Expr)(t:TT):Prop:=
 ∀ (pins:List (Addr×Obj)) (s:Shared) (σ:St) (H:Hp) (Q:Bool->Hp->Prop),Inv X pins σ H s->t σ H Q->wpAny (model X.prog X.w) X.A (isTrue e X.env (eval e X.env)) (TP X pins σ Q) X.xe s
def PW(X:Cx)(e:Expr)(t:TT):Prop:=
 ∀ (whole:Sem Value) (pins:List (Addr×Obj)) (s:Shared) (σ:St) (H:Hp) (Q:Bool->Hp->Prop),Inv X pins σ H s->t σ H Q->wpAny (model X.prog X.w) X.A (isTrue e X.env whole) (TP X pins σ Q) X.xe s
theorem PW.pt{X:Cx}{e:Expr}{t:TT}(h:PW X e t):PT X e t:=h _
def PA(X:Cx)(es:List Expr)(t:TA):Prop:=
 ∀ (pos:Pos) (pins:List (Addr×Obj)) (s:Shared) (σ:St) (H:Hp) (Q:List V->Hp->Prop),Inv X pins σ H s->t σ H Q->wpAny (model X.prog X.w) X.A (spliced (backTo pos (starEach es X.env))) (AP X pins σ Q) X.xe s
def PS(X:Cx)(st:Stmt)(t:TS):Prop:=
 ∀ (pins:List (Addr×Obj)) (s:Shared) (σ:St) (H:Hp) (D:vp),Inv X pins σ H s->t D σ H->wpAny (model X.prog X.w) X.A (exec st X.env) (SP X pins D) X.xe s
def PSs(X:Cx)(st:List Stmt)(t:TS):Prop:=
 ∀ (pins:List (Addr×Obj)) (s:Shared) (σ:St) (H:Hp) (D:vp),Inv X pins σ H s->t D σ H->wpAny (model X.prog X.w) X.A (execs st X.env) (SP X pins D) X.xe s
theorem dg{α:Type}{t:Sem α}{Q Q':α->Shared->Prop}{M:Model}{A:Around}{E:Value->Shared->Prop}{s:Shared}(h:wpAny M A t Q E s)(hQ:∀ a s,Q a s->Q' a s):wpAny M A t Q' E s:=wpAny_mono h hQ fun _ _ x=>x
end L2
namespace L2
open PySem PySem.Spec PyProof.Rows
section
variable{X:Cx}
theorem bin{a b:Expr}{ta tb:TE}(ha:PE X a ta)(hb:PE X b tb){pins:List (Addr×Obj)}{s:Shared}{σ:St}{H:Hp}{R:V->V->Hp->Prop}(I:Inv X pins σ H s)(h:ta σ H fun x H1=>tb σ H1 fun y H2=>R x y H2)
  {α:Type} {Q:α->Shared->Prop} {f:Value->Value->Sem α}
  (hf:∀ v u s2 x y H2,Inv X pins σ H2 s2->RelV x v->RelV y u->R x y H2->wpAny (model X.prog X.w) X.A (f v u) Q X.xe s2) :
  wpAny (model X.prog X.w) X.A (eval a X.env) (fun v s₁=>wpAny (model X.prog X.w) X.A (eval b X.env) (fun u s₂=>wpAny (model X.prog X.w) X.A (f v u) Q X.xe s₂) X.xe s₁) X.xe s:=by
 refine dg (ha pins s σ H _ I h) fun v s1 ⟨x,H1,I1,r1,q1⟩=>?_
 refine dg (hb pins s1 σ H1 _ I1 q1) fun u s2 ⟨y,H2,I2,r2,q2⟩=>?_
 exact hf v u s2 x y H2 I2 r1 r2 q2
def tVar(i:Nat):TE:=fun σ H Q=>∃ v,σ[i]?=some (some v)/\Q v H
def tC(v:V):TE:=fun _ H Q=>Q v H
theorem Jv{i:Nat}{x:Str}{pos:Pos}(hN:X.N[i]?=some x)(hv:Uj X.env.scope x)(hd:(x == ("__debug__":Str))=false:=by decide)(hcd:(x == ("__classdict__":Str))=false:=by decide):PE X (.Name x pos) (tVar i):=by
 intro pins s σ H Q I h
 obtain⟨v,e,h⟩:=h
 obtain⟨m,hn,hl⟩:=I.loc
 obtain⟨u,r,l⟩:=hl i x v hN e hv
 have fin:EP X pins σ Q u s:=⟨v,H,I,r,h⟩
 rcases l with ⟨hk,hm⟩ | ⟨hk,c,hc,hcell⟩
 ·exact wpAny_Name (wpAny_loadName_local I.ok.kind hk hn hm fin) hd
 ·rcases hk with hk | hk
  ·exact wpAny_Name (wpAny_loadName_cell I.ok.kind hk hc hcell fin) hd
  ·exact wpAny_Name (wpAny_loadName_free I.ok.kind hk hc hcell fin hcd) hd
theorem Ru{i j pos}:PE X (.Constant (.int i) j pos) (tC (.int i)):=fun _ _ _ H _ I h=>wpAny_Constant_int ⟨.int i,H,I.tok _,⟨_,rfl⟩,h⟩
theorem pe_bl{b j pos}:PE X (.Constant (.bool b) j pos) (tC (.bl b)):=fun _ _ _ H _ I h=>Constant_bool ⟨.bl b,H,I,rfl,h⟩
theorem Rt{j pos}:PE X (.Constant .none j pos) (tC .non):=fun _ _ _ H _ I h=>Constant_none ⟨.non,H,I,rfl,h⟩
theorem Rp{x j pos}:PE X (.Constant (.str x) j pos) (tC (.str x)):=fun _ _ _ H _ I h=>Calls.Constant_str ⟨.str x,H,I.tok _,⟨_,rfl⟩,h⟩
def Gl(X:Cx)(x:Str):Prop:=X.env.kindOf x=some .globalImplicit
theorem yn{E:Value->Shared->Prop}{pins:List (Addr×Obj)}{s:Shared}{σ:St}{H:Hp}{x:Str}{u:Value}{pos:Pos}{Q:Value->Shared->Prop}(I:Inv X pins σ H s)(hg:Gl X x)(hm:X.mg x=some u)(h:Q u s)
  (hd:(x == ("__debug__":Str))=false:=by decide):wpAny (model X.prog X.w) X.A (eval (.Name x pos) X.env) Q E s:=
 Calls.Name_function_global I.ok.kind hg (Calls.loadGlobal_global (by rw [I.ok.glob];exact I.mod.glob.keeps I.bk) hm h) hd
theorem lh{E:Value->Shared->Prop}{pins:List (Addr×Obj)}{s:Shared}{σ:St}{H:Hp}{x:Str}{u:Value}{pos:Pos}{Q:Value->Shared->Prop}(I:Inv X pins σ H s)(hg:Gl X x)(hm:X.mg x=none)(hv:bootBuiltins x=some u)(h:Q u s)
  (hn:x ≠ "__name__":=by decide) (hd:(x == ("__debug__":Str))=false:=by decide):wpAny (model X.prog X.w) X.A (eval (.Name x pos) X.env) Q E s:=by
 obtain⟨mb,h1,h2⟩:=I.mod.blt
 exact Calls.Name_function_global I.ok.kind hg (Calls.loadGlobal_builtin (by rw [I.ok.glob];exact I.mod.glob.keeps I.bk) hm (by rw [I.ok.blt];exact h1.keeps I.bk) ((h2 x hn).trans hv) h) hd
theorem xH{x:Str}{v:V}{u:Value}{pos:Pos}(hg:Gl X x)(hm:X.mg x=some u)(r:RelV v u)(hd:(x == ("__debug__":Str))=false:=by decide):PE X (.Name x pos) (tC v):=
 fun _ _ _ H _ I h=>yn I hg hm ⟨v,H,I,r,h⟩ hd
theorem Ny{x:Str}{v:V}{u:Value}{pos:Pos}(hg:Gl X x)(hm:X.mg x=none)(hv:bootBuiltins x=some u)(r:RelV v u)(hn:x ≠ "__name__":=by decide)(hd:(x == ("__debug__":Str))=false:=by decide):PE X (.Name x pos) (tC v):=
 fun _ _ _ H _ I h=>lh I hg hm hv ⟨v,H,I,r,h⟩ hn hd
variable{a b:Expr}{ta tb:TE}{pos:Pos}
variable{tA tB':TT}{rest:List Expr}
def tAnd(t u:TT):TT:=fun σ H Q=>t σ H fun c H1=>if c=true then u σ H1 Q else Q false H1
def tOr(t u:TT):TT:=fun σ H Q=>t σ H fun c H1=>if c=true then Q true H1 else u σ H1 Q
def tNot(t:TT):TT:=fun σ H Q=>t σ H fun c H1=>Q (!c) H1
theorem Nf(ha:PT X a tA):PW X (.BoolOp .And [a] pos) tA:=by
 intro wh pins s σ H Q I h
 refine isTrue_and (dg (ha pins s σ H Q I h) fun c s1 e=>?_)
 cases c with
 | true=>exact isTrue_and_nil e
 | false=>exact e
theorem QZ(ha:PT X a tA):PW X (.BoolOp .Or [a] pos) tA:=by
 intro wh pins s σ H Q I h
 refine isTrue_or (dg (ha pins s σ H Q I h) fun c s1 e=>?_)
 cases c with
 | false=>exact isTrue_or_nil e
 | true=>exact e
theorem Ra(ha:PT X a tA)(hb:PW X (.BoolOp .And (b::rest) pos) tB'):PW X (.BoolOp .And (a::b::rest) pos) (tAnd tA tB'):=by
 intro wh pins s σ H Q I h
 refine isTrue_and (dg (ha pins s σ H _ I h) fun c s1 ⟨H1,I1,q1⟩=>?_)
 cases c with
 | true=>exact hb wh pins s1 σ H1 Q I1 q1
 | false=>exact⟨H1,I1,q1⟩
theorem pw_or(ha:PT X a tA)(hb:PW X (.BoolOp .Or (b::rest) pos) tB'):PW X (.BoolOp .Or (a::b::rest) pos) (tOr tA tB'):=by
 intro wh pins s σ H Q I h
 refine isTrue_or (dg (ha pins s σ H _ I h) fun c s1 ⟨H1,I1,q1⟩=>?_)
 cases c with
 | true=>exact⟨H1,I1,q1⟩
 | false=>exact hb wh pins s1 σ H1 Q I1 q1
theorem Rb(ha:PT X a tA):PT X (.UnaryOp .Not a pos) (tNot tA):=by
 intro pins s σ H Q I h
 exact isTrue_not (ha pins s σ H (fun c H1=>Q (!c) H1) I h)
theorem Rr{op}{t:TE}(h:PE X a t):PE X (.BoolOp op [a] pos) t:=fun pins s σ H Q I hw=>BoolOp_one (h pins s σ H Q I hw)
def tIf(t:TT)(ta tb:TE):TE:=fun σ H Q=>t σ H fun c H1=>if c=true then ta σ H1 Q else tb σ H1 Q
theorem Jz{c:Expr}(hc:PT X c tA)(ha:PE X a ta)(hb:PE X b tb):PE X (.IfExp c a b pos) (tIf tA ta tb):=by
 intro pins s σ H Q I h
 refine wpAny_IfExp (dg (hc pins s σ H _ I h) fun d s1 ⟨H1,I1,q1⟩=>?_)
 cases d with
 | true=>exact ha pins s1 σ H1 Q I1 q1
 | false=>exact hb pins s1 σ H1 Q I1 q1
end
end L2
namespace L2
open PySem PySem.Spec PyProof.Rows
def nE(K:PySem.W.Frag)(H:Hp)(a:Addr)(xs:List V):Prop:=
 Rd H a (.lst xs) \/
  ∃ (o:Obj) (its:Array Value) (n:Nat),K.lookup a=some o/\o.cls=.type "list"/\o.dict=none/\o.data=.seq its n/\its.size<=sizeLine/\Vals xs its.toList
def lI(K:PySem.W.Frag)(H:Hp)(a:Addr)(xs:List V):Prop:=
 Rd H a (.tup xs) \/
  ∃ (o:Obj) (its:Array Value) (n:Nat),K.lookup a=some o/\o.cls=.type "tuple"/\o.dict=none/\o.data=.seq its n/\its.size<=sizeLine/\Vals xs its.toList
noncomputable def absV:Value->Option V
 | .none=>some .non
 | .bool b=>some (.bl b)
 | .int i _=>some (.int i)
 | .str x _=>some (.str x)
 | .bytes b _=>some (.byt b)
 | .float b _=>some (.flt b)
 | .ref a=>some (.ref a)
 | .type n=>some (.ty n)
 | _=>none
theorem RelV.abs{x:V}{u:Value}(r:RelV x u):absV u=some x:=by
 cases x with
 | non=>cases r;rfl
 | bl _=>cases r;rfl
 | int _=>obtain⟨t,rfl⟩:=r;rfl
 | str _=>obtain⟨t,rfl⟩:=r;rfl
 | byt _=>obtain⟨t,rfl⟩:=r;rfl
 | flt _=>obtain⟨t,rfl⟩:=r;rfl
 | ref _=>cases r;rfl
 | ty _=>cases r;rfl
theorem RelV.inj{x y:V}{u:Value}(r:RelV x u)(q:RelV y u):x=y:=Option.some.inj (r.abs.symm.trans q.abs)
theorem Vals.inj:∀ {xs ys:List V} {us:List Value},Vals xs us->Vals ys us->xs=ys
 | _,_,_,.nil,.nil=>rfl
 | _,_,_,.cons r t,.cons r' t'=>by rw [r.inj r',Vals.inj t t']
section
variable{X:Cx}{pins:List (Addr×Obj)}{σ:St}{H:Hp}{s:Shared}{a:Addr}{xs ys:List V}
theorem Inv.list(I:Inv X pins σ H s)(h:nE X.K H a xs):∃ its:List Value,Vals xs its/\PlainL s.heap a its.toArray/\xs.length<=sizeLine:=by
 rcases h with h | ⟨o,its,n,hk,hc,hd,hs,hz,r⟩
 ·obtain⟨z,its,n,r,e⟩:=h.ok I.hok
  exact⟨its,r,⟨_,n,e,rfl,rfl,rfl⟩,z⟩
 ·refine⟨its.toList,r,⟨o,n,I.kIn a o hk,hc,hd,by simpa using hs⟩,?_⟩
  have e:=r.length
  simp only [Array.length_toList] at e
  omega
theorem Inv.tuple(I:Inv X pins σ H s)(h:lI X.K H a xs):∃ its:List Value,Vals xs its/\IsTup s.heap a its.toArray/\xs.length<=sizeLine:=by
 rcases h with h | ⟨o,its,n,hk,hc,hdn,hs,hz,r⟩
 ·obtain⟨z,its,r,p⟩:=h.ok I.hok
  exact⟨its,r,p.up,z⟩
 ·refine⟨its.toList,r,⟨o,I.kIn a o hk,hc,n,by simpa using hs⟩,?_⟩
  have e:=r.length
  simp only [Array.length_toList] at e
  omega
theorem Inv.list_inj(I:Inv X pins σ H s)(h:nE X.K H a xs)(h':nE X.K H a ys):xs=ys:=by
 obtain⟨its,r,⟨o,n,e,_,_,d⟩,_⟩:=I.list h
 obtain⟨its',r',⟨o',n',e',_,_,d'⟩,_⟩:=I.list h'
 rw [e] at e';cases e'
 rw [d] at d'
 injection d' with d1 _
 have:its=its':=by simpa using congrArg Array.toList d1
 subst this
 exact r.inj r'
theorem Inv.tuple_inj(I:Inv X pins σ H s)(h:lI X.K H a xs)(h':lI X.K H a ys):xs=ys:=by
 obtain⟨its,r,⟨o,e,_,n,d⟩,_⟩:=I.tuple h
 obtain⟨its',r',⟨o',e',_,n',d'⟩,_⟩:=I.tuple h'
 rw [e] at e';cases e'
 rw [d] at d'
 injection d' with d1 _
 have:its=its':=by simpa using congrArg Array.toList d1
 subst this
 exact r.inj r'
end
noncomputable abbrev Cx.wish(X:Cx)(E:Value->Shared->Prop):Cx:={ X with xe:=E }
noncomputable abbrev Cx.nox(X:Cx):Cx:=X.wish fun _ _=>False
theorem Cx.Ok.wish{X:Cx}(ok:X.Ok)(E:Value->Shared->Prop):(X.wish E).Ok:=
 ⟨ok.mod,ok.kind,ok.glob,ok.blt,ok.above,ok.inj,ok.has,ok.cab,ok.hd,ok.frames,ok.stk,ok.exf,ok.bs,ok.bsz,ok.noex,ok.exfs,ok.funs,ok.frf⟩
theorem Cx.Ok.unwish{X:Cx}{E:Value->Shared->Prop}(ok:(X.wish E).Ok):X.Ok:=
 ⟨ok.mod,ok.kind,ok.glob,ok.blt,ok.above,ok.inj,ok.has,ok.cab,ok.hd,ok.frames,ok.stk,ok.exf,ok.bs,ok.bsz,ok.noex,ok.exfs,ok.funs,ok.frf⟩
section
variable{X:Cx}{pins:List (Addr×Obj)}{σ:St}{H:Hp}{s:Shared}{E:Value->Shared->Prop}
theorem Inv.wish(I:Inv X pins σ H s)(E:Value->Shared->Prop):Inv (X.wish E) pins σ H s:=⟨I.ok.wish E,I.os,I.bare,I.base,I.loc,I.cell,I.free,I.freeC,I.pin,I.hok,I.len⟩
theorem Inv.unwish(I:Inv (X.wish E) pins σ H s):Inv X pins σ H s:=⟨I.ok.unwish,I.os,I.bare,I.base,I.loc,I.cell,I.free,I.freeC,I.pin,I.hok,I.len⟩
theorem SP.unwish{D:vp}{f:Flow}{s':Shared}(h:SP (X.wish E) pins D f s'):SP X pins D f s':=by
 cases f with
 | next=>obtain⟨σ',H',I,q⟩:=h;exact⟨σ',H',I.unwish,q⟩
 | brk=>obtain⟨σ',H',I,q⟩:=h;exact⟨σ',H',I.unwish,q⟩
 | cont=>obtain⟨σ',H',I,q⟩:=h;exact⟨σ',H',I.unwish,q⟩
 | ret u=>obtain⟨v,σ',H',I,r,q⟩:=h;exact⟨v,σ',H',I.unwish,r,q⟩
theorem PSs.nox{st:List Stmt}{t:TS}(h:PSs X.nox st t):PSs X st t:=fun pins s σ H D I hw=>
 wpAny_mono (h pins s σ H D (I.wish _) hw) (fun _ _ q=>q.unwish) fun _ _ z=>False.elim z
end
section
variable{X:Cx}{st:Stmt}{rest:List Stmt}{t u:TS}{e:Expr}{te:TE}{pos:Pos}
def IG:TS:=fun D σ H=>D.nx σ H
def tSeq(t u:TS):TS:=fun D σ H=>t { D with nx:=u D } σ H
theorem Nk:PSs X [] IG:=fun _ _ σ H _ I h=>wpAny_execs_nil ⟨σ,H,I,h⟩
theorem zO(h1:PS X st t)(h2:PSs X rest u):PSs X (st::rest) (tSeq t u):=by
 intro pins s σ H D I h
 refine wpAny_execs_cons (dg (h1 pins s σ H { D with nx:=u D } I h) fun f s1 q=>?_)
 cases f with
 | next=>
  obtain⟨σ',H',I',q⟩:=q
  exact h2 pins s1 σ' H' D I' q
 | ret v=>exact q
 | brk=>exact q
 | cont=>exact q
theorem Ez(h1:PS X st t):PSs X [st] t:=by
 intro pins s σ H D I h
 refine wpAny_execs_cons (dg (h1 pins s σ H D I h) fun f s1 q=>?_)
 cases f with
 | next=>exact wpAny_execs_nil q
 | ret v=>exact q
 | brk=>exact q
 | cont=>exact q
def QQ:TS:=fun D σ H=>D.bk σ H
def tCont:TS:=fun D σ H=>D.ct σ H
theorem Nm:PS X (.Pass pos) IG:=fun _ _ σ H _ I h=>wpAny_Pass ⟨σ,H,I,h⟩
theorem Jr:PS X (.Break pos) QQ:=fun _ _ σ H _ I h=>wpAny_Break ⟨σ,H,I,h⟩
theorem zQ:PS X (.Continue pos) tCont:=fun _ _ σ H _ I h=>wpAny_Continue ⟨σ,H,I,h⟩
theorem Inv.quiet{pins:List (Addr×Obj)}{σ:St}{H:Hp}{s:Shared}(I:Inv X pins σ H s):interactive X.env=false:=by simp [interactive,I.ok.kind]
theorem Re{x j pos pos'}:PS X (.Expr (.Constant (.str x) j pos) pos') IG:=fun _ s σ H _ I h=>wpAny_Expr (Calls.Constant_str (show SP X _ _ .next { s with toks:=s.toks+1 } from ⟨σ,H,I.tok _,h⟩)) I.quiet
def tDrop(te:TE):TS:=fun D σ H=>te σ H fun _ H1=>D.nx σ H1
theorem Nn(he:PE X e te)(hs:swapsWith e none pos.line X.env=pure false:=by rfl):PS X (.Expr e pos) (tDrop te):=by
 intro pins s σ H D I h
 exact wpAny_Expr_any (dg (he pins s σ H _ I h) fun v s1 ⟨x,H1,I1,r1,q1⟩=>⟨σ,H1,I1,q1⟩) I.quiet hs
def tRet(te:TE):TS:=fun D σ H=>te σ H D.rt
theorem Jp(he:PE X e te):PS X (.Return (some e) pos) (tRet te):=by
 intro pins s σ H D I h
 exact wpAny_Return_some (dg (he pins s σ H _ I h) fun v s1 ⟨x,H1,I1,r1,q1⟩=>⟨x,σ,H1,I1,r1,q1⟩)
def tRetN:TS:=fun D _ H=>D.rt .non H
theorem Nl:PS X (.Return none pos) tRetN:=fun _ _ σ H _ I h=>wpAny_Return_none ⟨.non,σ,H,I,rfl,h⟩
def tIfS(c:TT)(t u:TS):TS:=fun D σ H=>c σ H fun b H1=>if b=true then t D σ H1 else u D σ H1
theorem ps_if{c:Expr}{a b:List Stmt}{tc:TT}(hc:PT X c tc)(ha:PSs X a t)(hb:PSs X b u):PS X (.If c a b pos) (tIfS tc t u):=by
 intro pins s σ H D I h
 refine wpAny_If (dg (hc pins s σ H _ I h) fun d s1 ⟨H1,I1,q1⟩=>?_)
 cases d with
 | true=>exact ha pins s1 σ H1 D I1 q1
 | false=>exact hb pins s1 σ H1 D I1 q1
end
abbrev TG:=V->St->Hp->(St->Hp->Prop)->Prop
abbrev Qz:=List V->St->Hp->(St->Hp->Prop)->Prop
def PG(X:Cx)(target:Expr)(t:TG):Prop:=
 ∀ (pins:List (Addr×Obj)) (s:Shared) (σ:St) (H:Hp) (v:V) (u:Value) (Q:St->Hp->Prop),Inv X pins σ H s->RelV v u->t v σ H Q ->
  wpAny (model X.prog X.w) X.A (assign target X.env u) (fun _ s'=>∃ σ' H',Inv X pins σ' H' s'/\Q σ' H') X.xe s
def PGs(X:Cx)(ts:List Expr)(t:Qz):Prop:=
 ∀ (pins:List (Addr×Obj)) (s:Shared) (σ:St) (H:Hp) (vs:List V) (us:List Value) (Q:St->Hp->Prop),Inv X pins σ H s->Vals vs us->t vs σ H Q ->
  wpAny (model X.prog X.w) X.A (assignInOrder ((assignEach ts X.env).map (·.2)) us) (fun _ s'=>∃ σ' H',Inv X pins σ' H' s'/\Q σ' H') X.xe s
abbrev Uk:=V->V->V->Hp->(Hp->Prop)->Prop
def PSet(X:Cx)(t:Uk):Prop:=
 ∀ (pins:List (Addr×Obj)) (s:Shared) (σ:St) (H:Hp) (o i v:V) (ov iv u:Value) (Q:Hp->Prop),Inv X pins σ H s->RelV o ov->RelV i iv->RelV v u->t o i v H Q ->
  wpAny (model X.prog X.w) X.A (setItem ov iv u) (fun _ s'=>∃ H',Inv X pins σ H' s'/\Q H') X.xe s
section
variable{X:Cx}{pos:Pos}
def Fi(i:Nat):TG:=fun v σ H Q=>Q (σ.set i (some v)) H
theorem Nu{i:Nat}{x:Str}(hN:X.N.Nodup)(hi:X.N[i]?=some x)(hx:Mu X.env.scope x)(hf:X.fn x=true\/X.env.scope.names.lookup x=some .local:=by first | exact .inl rfl | exact .inr rfl | assumption):PG X (.Name x pos) (Fi i):=by
 intro pins s σ H v u Q I r h
 exact wpAny_assign_Name (oG I hN hi hx r (fun s' I'=>⟨_,H,I',h⟩) hf)
noncomputable def gNil:Qz:=fun vs σ H Q=>vs=[]/\Q σ H
noncomputable def gCons(t:TG)(u:Qz):Qz:=fun vs σ H Q=>∃ v r,vs=v::r/\t v σ H fun σ' H'=>u r σ' H' Q
theorem Nt:PGs X [] gNil:=by
 intro pins s σ H vs us Q I r h
 obtain⟨e,h⟩:=h
 subst e
 cases r
 exact assignInOrder_nil ⟨σ,H,I,h⟩
theorem Ju{e:Expr}{es:List Expr}{t:TG}{u:Qz}(h1:PG X e t)(h2:PGs X es u)
  (hs:(assignEach (e::es) X.env).map (·.2)=assign e X.env::(assignEach es X.env).map (·.2):=by rfl):PGs X (e::es) (gCons t u):=by
 intro pins s σ H vs us Q I r h
 obtain⟨v,vr,e1,h⟩:=h
 subst e1
 cases r with
 | cons r rr=>
  rw [hs]
  refine assignInOrder_cons (dg (h1 pins s σ H _ _ _ I r h) fun _ s1 ⟨σ1,H1,I1,q1⟩=>?_)
  exact h2 pins s1 σ1 H1 _ _ Q I1 rr q1
def gTup(K:PySem.W.Frag)(n:Nat)(t:Qz):TG:=fun v σ H Q=>∃ a xs,v=.ref a/\lI K H a xs/\xs.length=n/\t xs σ H Q
theorem Rj{es:List Expr}{k:Nat}{t:Qz}{n:Nat}(hc:X.calm=true)(h:PGs X es t)
  (hn:(assignEach es X.env).length=n:=by rfl) (hst:(assignEach es X.env).findIdx? (·.1)=none:=by rfl):PG X (.Tuple es k pos) (gTup X.K n t):=by
 intro pins s σ H v u Q I r hw
 obtain⟨a,xs,e1,hq,hl,hw⟩:=hw
 subst e1
 cases r
 obtain⟨its,rv,ht,hz⟩:=I.tuple hq
 refine assign_Tuple_tuple (I.ok.hd hc) ht (by simp [hn,<- hl,rv.length]) hst fun h' hx=>?_
 have I1:Inv X pins σ H { s with heap:=h' }:=I.kept (t':=s.toks) fun b o e=>hx b o (Nat.ne_of_lt (Heap.lt_size e)) e
 exact h pins _ σ H xs _ Q I1 (by simpa using rv) hw
def gSub(to ti:TE)(t:Uk):TG:=fun v σ H Q=>to σ H fun o H1=>ti σ H1 fun i H2=>t o i v H2 fun H3=>Q σ H3
theorem Rn{o i:Expr}{to ti:TE}{t:Uk}(ho:PE X o to)(hi:PE X i ti)(hs:PSet X t)
  (ha:∀ v,assign (.Subscript o i pos) X.env v=(do
   let ov <- holding [v] (eval o X.env)
   let iv <- holding [v,ov] (eval i X.env)
   standAt pos
   holding [v,ov,iv] (setItem ov iv v)
   release [v,ov,iv] []):=by intro _;rfl):PG X (.Subscript o i pos) (gSub to ti t):=by
 intro pins s σ H v u Q I r h
 rw [ha]
 refine wpAny_bind (wpAny_holding (dg (ho pins s σ H _ I h) fun ov s1 ⟨x,H1,I1,r1,q1⟩=>?_))
 refine wpAny_bind (wpAny_holding (dg (hi pins s1 σ H1 _ I1 q1) fun iv s2 ⟨y,H2,I2,r2,q2⟩=>?_))
 refine wpAny_bind (wpAny_standAt (wpAny_bind (wpAny_holding (dg (hs pins s2 σ H2 x y v ov iv u _ I2 r1 r2 r q2) fun _ s3 ⟨H3,I3,q3⟩=>?_))))
 exact wpAny_release ⟨σ,H3,I3,q3⟩
def IJ(te:TE)(g:TG):TS:=fun D σ H=>te σ H fun x H1=>g x σ H1 D.nx
theorem Rf{tg e:Expr}{te:TE}{g:TG}(he:PE X e te)(hg:PG X tg g)(hs:swapsWithSole [tg] e pos.line X.env=pure false:=by rfl)(hw:swappedStores [tg] e X.env=pure none:=by rfl)
  (h1:(assignEach [tg] X.env).map (·.2)=[assign tg X.env]:=by rfl):PS X (.Assign [tg] e pos) (IJ te g):=by
 intro pins s σ H D I h
 refine wpAny_Assign_stores (dg (he pins s σ H _ I h) fun v s1 ⟨x,H1,I1,r1,q1⟩=>?_) hs hw
 rw [h1]
 exact dg (hg pins s1 σ H1 x v _ I1 r1 q1) fun _ s2 q=>q
theorem Jo{i:Nat}{x:Str}{e:Expr}{te:TE}{pos':Pos}(hN:X.N.Nodup)(hi:X.N[i]?=some x)(hx:Mu X.env.scope x)(he:PE X e te)(hs:swapsWith e (some (.Name x pos')) pos.line X.env=pure false:=by rfl)(hf:X.fn x=true\/X.env.scope.names.lookup x=some .local:=by first | exact .inl rfl | exact .inr rfl | assumption) :
  PS X (.Assign [.Name x pos'] e pos) (IJ te (Fi i)):=by
 intro pins s σ H D I h
 refine wpAny_Assign_Name (dg (he pins s σ H _ I h) fun v s1 ⟨y,H1,I1,r1,q1⟩=>?_) hs
 exact oG I1 hN hi hx r1 (fun s2 I2=>⟨_,H1,I2,q1⟩) hf
def tPar(i j:Nat)(ta:TA):TS:=fun D σ H=>ta σ H fun vs H1=>∃ v w,vs=[v,w]/\D.nx ((σ.set i (some v)).set j (some w)) H1
theorem Rc{i j:Nat}{x y:Str}{a b:Expr}{ta:TA}{px py pt:Pos}{kt k2 pt2}(hc:X.calm=true)(hN:X.N.Nodup)(hi:X.N[i]?=some x)(hj:X.N[j]?=some y)(hij:i≠j)
  (hx:X.env.scope.names.lookup x=some .local) (hy:X.env.scope.names.lookup y=some .local) (ha:PA X [a,b] ta)
  (hw:swappedStores [.Tuple [.Name x px,.Name y py] kt pt] (.Tuple [a,b] k2 pt2) X.env=pure (some [x,y]))
  (hs:swapsWithSole [.Tuple [.Name x px,.Name y py] kt pt] (.Tuple [a,b] k2 pt2) pos.line X.env=pure false:=by rfl) :
  PS X (.Assign [.Tuple [.Name x px,.Name y py] kt pt] (.Tuple [a,b] k2 pt2) pos) (tPar i j ta):=by
 intro pins s σ H D I h
 rw [exec_Assign_arm]
 refine wpAny_bind (wpAny_standAt ?_)
 rw [hs]
 refine wpAny_bind (wpAny_pure ?_)
 rw [if_neg (by decide)]
 refine wpAny_bind (Tuple_ (dg (ha _ pins s σ H _ I h) fun us s1 ⟨vs,H1,I1,r1,q1⟩=>?_))
 obtain⟨v,w,e1,q1⟩:=q1
 subst e1
 obtain⟨u1,u2,rfl,rv,rw'⟩:∃ u1 u2,us=[u1,u2]/\RelV v u1/\RelV w u2:=by
  cases r1 with
  | cons p q=>
   cases q with
   | cons p' q'=>
    cases q'
    exact⟨_,_,rfl,p,p'⟩
 refine wpAny_newObj_type ?_ (by show 2<=sizeLine;decide)
 have I2:Inv X pins σ H1 { s1 with heap:=s1.heap.push { cls:=.type "tuple",data:=.seq [u1,u2].toArray } }:=I1.kept (t':=s1.toks) fun b o e=>Heap.get?_push_of_some _ e
 rw [hw]
 refine wpAny_bind (wpAny_pure ?_)
 show wpAny (model X.prog X.w) X.A (do rule "assign.swapped-stores";let items <- unpackItems (.ref s1.heap.objs.size) 2 none;assignInOrder [fun v=>bindName X.env y v,fun v=>bindName X.env x v] items.reverse;pure Flow.next) _ _ _
 refine wpAny_bind (wpAny_rule (wpAny_bind (unpackItems_tuple (items:=#[u1,u2]) (I.ok.hd hc) (IsTup.new s1.heap _) fun h' hx'=>?_)))
 have I3:=I2.kept (h':=h') (t':=s1.toks) fun b o e=>hx' b o (Nat.ne_of_lt (Heap.lt_size e)) e
 show wpAny _ _ (assignInOrder [fun v=>bindName X.env y v,fun v=>bindName X.env x v] [u2,u1] >>= fun _=>pure Flow.next) _ _ _
 refine wpAny_bind (assignInOrder_cons (wpAny_bindName (oG I3 hN hj (.inl hy) rw' (fun s2 I4=>?_) (.inr hy))))
 refine assignInOrder_cons (wpAny_bindName (oG I4 hN hi (.inl hx) rv (fun s3 I5=>assignInOrder_nil (wpAny_pure ?_)) (.inr hx)))
 rw [List.set_comm _ _ (Ne.symm hij)] at I5
 exact⟨_,H1,I5,q1⟩
end
section
variable{X:Cx}{pos:Pos}
def QN(c:TT)(tb:TS):TS:=fun D σ H=>∃ W:Nat->St->Hp->Prop,(∃ m,W m σ H)/\∀ m σ H,W m σ H ->
 c σ H fun b H1=>if b=true then ∃ N:St->Hp->Prop,(∀ σ' H',N σ' H'->∃ m',m'<m/\W m' σ' H')/\tb { D with nx:=N,ct:=N,bk:=D.nx } σ H1 else D.nx σ H1
theorem Jn{c:Expr}{body:List Stmt}{tc:TT}{tb:TS}(hp:PassesOwn (model X.prog X.w) X.A X.env X.xe)(hc:PT X c tc)(hb:PSs X body tb):PS X (.While c body [] pos) (QN tc tb):=by
 intro pins s σ H D I h
 obtain⟨W,⟨m0,w0⟩,turn⟩:=h
 refine wpAny_While (codeAny_whileLoop (fun n s'=>∃ σ' H',Inv X pins σ' H' s'/\W n σ' H') ?_ m0 ⟨σ,H,I,w0⟩)
 rintro n s1 ⟨σ1,H1,I1,w1⟩
 refine wpAny_passesOwn hp (dg (hc pins s1 σ1 H1 _ I1 (turn n σ1 H1 w1)) fun b s2 ⟨H2,I2,q2⟩=>?_)
 cases b with
 | true=>
  obtain⟨N,hN,q2⟩:=q2
  rw [if_pos rfl]
  refine wpAny_passesOwn hp (dg (hb pins s2 σ1 H2 _ I2 q2) fun f s3 q3=>?_)
  cases f with
  | next=>
   obtain⟨σ3,H3,I3,n3⟩:=q3
   obtain⟨m',hm,w3⟩:=hN σ3 H3 n3
   exact⟨m',hm,σ3,H3,I3,w3⟩
  | cont=>
   obtain⟨σ3,H3,I3,n3⟩:=q3
   obtain⟨m',hm,w3⟩:=hN σ3 H3 n3
   exact⟨m',hm,σ3,H3,I3,w3⟩
  | brk=>exact q3
  | ret v=>exact q3
 | false=>
  rw [if_neg Bool.false_ne_true]
  exact wpAny_execs_nil ⟨σ1,H2,I2,q2⟩
end
structure It where
 go:Nat->Hp->Prop
 yld:Nat->Hp->V->Hp->Prop
 stop:Nat->Hp->Prop
def qx(X:Cx)(pins:List (Addr×Obj))(H:Hp)(b:Addr):Prop:=
 H b=none/\b≠X.env.locals/\b ∉ X.fs/\(b∈X.ex\/X.s₀.heap.objs.size<=b)/\(∀ x c,X.env.cells.lookup x=some c->c≠b)/\∀ p∈X.pn++pins,p.1≠b
theorem Inv.fpOk{X:Cx}{pins:List (Addr×Obj)}{σ:St}{H H':Hp}{s:Shared}{b:Addr}(I:Inv X pins σ H s)(hb:s.heap.objs.size<=b)(hn:H' b=none):qx X pins H' b:=by
 refine⟨hn,Nat.ne_of_gt (Nat.lt_of_lt_of_le I.lt hb),I.nofs hb,.inr (Nat.le_trans I.sz hb),fun x c e z=>?_,fun p hp z=>?_⟩
 ·obtain⟨v,q⟩:=I.cell x c e
  exact absurd (Nat.lt_of_lt_of_le q.lt (by rw [z];exact hb)) (Nat.lt_irrefl _)
 ·exact absurd (Nat.lt_of_lt_of_le (Heap.lt_size (I.pin p hp).1) (by rw [z];exact hb)) (Nat.lt_irrefl _)
structure El(P:Program)(w:World)(K:PySem.W.Frag)(tg:Expr)(J:It)(fp:List Addr)(it:Addr)(tn:Nat->Heap->Prop):Prop where
 mem:it∈fp
 obj:∀ i h,tn i h->∀ b∈fp,∃ o,h.get? b=some o/\∀ v,o.data≠.cell v
 keep:∀ i h h',tn i h->(∀ b∈fp,∀ o,h.get? b=some o->h'.get? b=some o)->tn i h'
 item:∀ (X:Cx),X.prog=P->X.w=w->X.K=K->X.calm=true->∀ (i:Nat) (pins:List (Addr×Obj)) (s:Shared) (σ:St) (H:Hp) (E:Value->Shared->Prop),Inv X pins σ H s->(∀ b∈fp,qx X pins H b)->tn i s.heap->J.go i H ->
  wpAny (model P w) X.A (pyNext (.ref it)) (fun r s1=>∃ u,r=some u /\
   wpAny (model P w) X.A (letOwnedTupleGo tg (.ref it) u) (fun _ s2=>∃ x H',Inv X pins σ H' s2/\RelV x u/\J.yld i H x H'/\tn (i+1) s2.heap/\∀ b∈fp,H' b=none) E s1) E s
 done:∀ (X:Cx),X.prog=P->X.w=w->X.K=K->X.calm=true->∀ (i:Nat) (pins:List (Addr×Obj)) (s:Shared) (σ:St) (H:Hp) (E:Value->Shared->Prop),Inv X pins σ H s->(∀ b∈fp,qx X pins H b)->tn i s.heap->J.stop i H ->
  wpAny (model P w) X.A (pyNext (.ref it)) (fun r s1=>r=none/\Inv X pins σ H s1) E s
 self:∀ (A:Around) (i:Nat) (s:Shared) (Q:Value->Shared->Prop) (E:Value->Shared->Prop),tn i s.heap->Q (.ref it) s->wpAny (model P w) A (pyIter (.ref it)) Q E s
abbrev TI:=St->Hp->(It->Hp->Prop)->Prop
def PIE(X:Cx)(pins:List (Addr×Obj))(σ:St)(tg:Expr)(R:It->Hp->Prop)(itv:Value)(s2:Shared):Prop:=
 ∃ (it:Addr) (fp:List Addr) (tn:Nat->Heap->Prop) (J:It) (H':Hp),itv=.ref it/\Inv X pins σ H' s2/\El X.prog X.w X.K tg J fp it tn/\tn 0 s2.heap/\(∀ b∈fp,qx X pins H' b)/\R J H'
def PI(X:Cx)(tg iter:Expr)(wi:TI):Prop:=
 ∀ (pins:List (Addr×Obj)) (s:Shared) (σ:St) (H:Hp) (R:It->Hp->Prop),Inv X pins σ H s->wi σ H R ->
  wpAny (model X.prog X.w) X.A (eval iter X.env) (fun v s1=>wpAny (model X.prog X.w) X.A (pyIter v) (PIE X pins σ tg R) X.xe s1) X.xe s
theorem KH{M:Model}{A:Around}{E:Value->Shared->Prop}{s:Shared}{tg:Expr}{it:Addr}{u:Value}{o:Obj}{n:String}{vs:Array Value}{Q:Unit->Shared->Prop}(ho:s.heap.get? it=some o)(hc:o.cls=.type n)(hd:o.data=.fields vs)
  (hn:["enumerate","zip","dict_itemiterator","dict_reverseitemiterator","odict_iterator","itertools.zip_longest","itertools.pairwise"].contains n=false) (hQ:Q () s):wpAny M A (letOwnedTupleGo tg (.ref it) u) Q E s:=by
 unfold letOwnedTupleGo
 cases tg <;> first
  | exact wpAny_pure hQ
  | (cases u <;> first
    | exact wpAny_pure hQ
    | (refine wpAny_bind (wpAny_load ho ?_); rw [hc,hd]; show wpAny M A (if (["enumerate","zip","dict_itemiterator","dict_reverseitemiterator","odict_iterator","itertools.zip_longest","itertools.pairwise"].contains n&&vs[0]? == some (rawInt _))=true then _ else _) Q E s; rw [if_neg (by intro h;rw [hn,Bool.false_and] at h;cases h)]; exact wpAny_pure hQ))
noncomputable def Itl(K:PySem.W.Frag)(a:Addr):It:=
 ⟨fun i H=>∃ xs x,nE K H a xs/\xs[i]?=some x,fun i H x H'=>H'=H/\∀ xs,nE K H a xs->xs[i]?=some x,fun i H=>∃ xs,nE K H a xs/\xs.length<=i⟩
noncomputable def Itt(K:PySem.W.Frag)(a:Addr):It:=
 ⟨fun i H=>∃ xs x,lI K H a xs/\xs[i]?=some x,fun i H x H'=>H'=H/\∀ xs,lI K H a xs->xs[i]?=some x,fun i H=>∃ xs,lI K H a xs/\xs.length<=i⟩
noncomputable def Itr(lo:Int)(n:Nat):It:=⟨fun i _=>i<n,fun i H x H'=>H'=H/\x=.int (lo+i),fun i _=>n<=i⟩
theorem vx{P:Program}{w:World}{K:PySem.W.Frag}{tg:Expr}(a it:Addr):El P w K tg (Itl K a) [it] it (fun i h=>h.IsListIter it a i) where
 mem:=by simp
 obj:=fun i h st b hb=>by
  have e:b=it:=by simpa using hb
  subst e
  obtain⟨o,e,c,d⟩:=st
  exact⟨o,e,fun v z=>by rw [d] at z;cases z⟩
 keep:=fun i h h' st k=>st.at fun o e=>k it (by simp) o e
 item:=by
  intro X hP hw hK hc i pins s σ H E I hf st hg
  subst hP hw hK
  obtain⟨xs,x,hq,hx⟩:=hg
  obtain⟨its,rv,p,hz⟩:=I.list hq
  obtain⟨u,hu,ru⟩:=rv.get hx
  obtain⟨f0,f1,f2,f3,f4,f5⟩:=hf it (by simp)
  refine wpAny_pyNext_list_item st p.isList (x:=u) (by simpa using hu) fun h' st' sb=>?_
  have I1:Inv X pins σ H { s with heap:=h' }:=I.turned (t':=s.toks) (fun b o hb e=>(sb.2 b hb).trans e) f0 f1 f3 f4 f5
  obtain⟨o,e,c,d⟩:=id st'
  exact⟨u,rfl,KH (s:={ s with heap:=h' }) e c d (by decide) ⟨x,H,I1,ru,⟨rfl,fun ys hy=>by rw [I.list_inj hy hq];exact hx⟩,st',fun b hb=>(hf b hb).1⟩⟩
 done:=by
  intro X hP hw hK hc i pins s σ H E I hf st hg
  subst hP hw hK
  obtain⟨xs,hq,hx⟩:=hg
  obtain⟨its,rv,p,hz⟩:=I.list hq
  obtain⟨f0,f1,f2,f3,f4,f5⟩:=hf it (by simp)
  have hl:=rv.length
  exact wpAny_pyNext_list_end (I.ok.hd hc) st p.isList (by simp;omega) fun h' eb=>⟨rfl,I.turned (t':=s.toks) (fun b o hb e=>eb b o hb e) f0 f1 f3 f4 f5⟩
 self:=fun _ _ _ _ _ st h=>wpAny_pyIter_listiter st h
theorem BW{P:Program}{w:World}{K:PySem.W.Frag}{tg:Expr}(a it:Addr):El P w K tg (Itt K a) [it] it (fun i h=>h.IsTupleIter it a i) where
 mem:=by simp
 obj:=fun i h st b hb=>by
  have e:b=it:=by simpa using hb
  subst e
  obtain⟨o,e,c,d⟩:=st
  exact⟨o,e,fun v z=>by rw [d] at z;cases z⟩
 keep:=fun i h h' st k=>st.at fun o e=>k it (by simp) o e
 item:=by
  intro X hP hw hK hc i pins s σ H E I hf st hg
  subst hP hw hK
  obtain⟨xs,x,hq,hx⟩:=hg
  obtain⟨its,rv,p,hz⟩:=I.tuple hq
  obtain⟨u,hu,ru⟩:=rv.get hx
  obtain⟨f0,f1,f2,f3,f4,f5⟩:=hf it (by simp)
  refine wpAny_pyNext_tuple_item st (show s.heap.IsTuple a its.toArray from p) (x:=u) (by simpa using hu) fun h' st' sb=>?_
  have I1:Inv X pins σ H { s with heap:=h' }:=I.turned (t':=s.toks) (fun b o hb e=>(sb.2 b hb).trans e) f0 f1 f3 f4 f5
  obtain⟨o,e,c,d⟩:=id st'
  exact⟨u,rfl,KH (s:={ s with heap:=h' }) e c d (by decide) ⟨x,H,I1,ru,⟨rfl,fun ys hy=>by rw [I.tuple_inj hy hq];exact hx⟩,st',fun b hb=>(hf b hb).1⟩⟩
 done:=by
  intro X hP hw hK hc i pins s σ H E I hf st hg
  subst hP hw hK
  obtain⟨xs,hq,hx⟩:=hg
  obtain⟨its,rv,p,hz⟩:=I.tuple hq
  obtain⟨f0,f1,f2,f3,f4,f5⟩:=hf it (by simp)
  have hl:=rv.length
  exact wpAny_pyNext_tuple_end (I.ok.hd hc) st (show s.heap.IsTuple a its.toArray from p) (by simp;omega) fun h' eb=>⟨rfl,I.turned (t':=s.toks) (fun b o hb e=>eb b o hb e) f0 f1 f3 f4 f5⟩
 self:=fun _ _ _ _ _ st h=>wpAny_pyIter_tupleiter st h
theorem BX{P:Program}{w:World}{K:PySem.W.Frag}{tg:Expr}(it:Addr)(lo:Int)(n:Nat):El P w K tg (Itr lo n) [it] it (fun i h=>IsRangeIter h it (lo+(i:Nat) * 1) ((n:Int) - (i:Nat)) 1) where
 mem:=by simp
 obj:=fun i h st b hb=>by
  have e:b=it:=by simpa using hb
  subst e
  exact⟨_,st,fun v z=>by
   have z':Data.fields _=Data.cell v:=z
   cases z'⟩
 keep:=fun i h h' st k=>k it (by simp) _ st
 item:=by
  intro X hP hw hK hc i pins s σ H E I hf st hg
  subst hP hw hK
  obtain⟨f0,f1,f2,f3,f4,f5⟩:=hf it (by simp)
  have W:=Walks.range (prog:=X.prog) (w:=X.w) (I.ok.hd hc) it lo 1 n
  refine W.item i s _ _ hg st fun v h' tk hv st' kk=>?_
  obtain⟨t,rfl⟩:=hv
  have I1:Inv X pins σ H { s with heap:=h',toks:=tk }:=I.turned (fun b o hb e=>kk b o (by simpa using hb) e) f0 f1 f3 f4 f5
  refine⟨_,rfl,KH (s:={ s with heap:=h',toks:=tk }) (n:="range_iterator") st' rfl rfl (by decide) ⟨.int (lo+i),H,I1,⟨t,?_⟩,⟨rfl,rfl⟩,st',fun b hb=>(hf b hb).1⟩⟩
  rw [Int.mul_one]
 done:=by
  intro X hP hw hK hc i pins s σ H E I hf st hg
  subst hP hw hK
  obtain⟨f0,f1,f2,f3,f4,f5⟩:=hf it (by simp)
  exact wpAny_pyNext_range_end (I.ok.hd hc) st (by have:n<=i:=hg;omega) fun h' eb=>⟨rfl,I.turned (t':=s.toks) (fun b o hb e=>eb b o hb e) f0 f1 f3 f4 f5⟩
 self:=fun _ _ _ _ _ st h=>wpAny_pyIter_rangeiter st h
end L2
namespace L2
open PySem PySem.Spec PyProof.Rows
section
variable{X:Cx}{tg:Expr}
def Qh(K:PySem.W.Frag)(tl:TE):TI:=fun σ H R=>tl σ H fun x H1=>∃ a,x=.ref a/\(∃ xs,nE K H1 a xs)/\R (Itl K a) H1
theorem xF{l:Expr}{tl:TE}(hl:PE X l tl):PI X tg l (Qh X.K tl):=by
 intro pins s σ H R I h
 refine dg (hl pins s σ H _ I h) fun v s1 ⟨x,H1,I1,r1,q1⟩=>?_
 obtain⟨a,e,⟨xs,hq⟩,q⟩:=q1
 subst e
 cases r1
 obtain⟨its,rv,p,hz⟩:=I1.list hq
 refine wpAny_pyIter_list p.isList ?_
 refine⟨s1.heap.objs.size,[s1.heap.objs.size],_,_,H1,rfl,I1.kept (t':=s1.toks) fun b o e=>Heap.get?_push_of_some _ e,vx a _,⟨_,Heap.get?_push_size _ rfl,rfl,rfl⟩,fun b hb=>?_,q⟩
 have e:b=s1.heap.objs.size:=by simpa using hb
 subst e
 exact I1.fpOk (Nat.le_refl _) (I1.hok.fresh (Nat.le_refl _))
theorem zM{pins:List (Addr×Obj)}{σ:St}{H:Hp}{s:Shared}{R:It->Hp->Prop}{E:Value->Shared->Prop}{lo hi:Int}{t u v:Tok}{tk:Nat}(I:Inv X pins σ H s)(h1:-(2 ^ 62)<=lo)(h2:lo<2 ^ 62)(h3:-(2 ^ 62)<=hi)(h4:hi<2 ^ 62)
  (q:R (Itr lo (hi - lo).toNat) H):wpAny (model X.prog X.w) X.A (pyIter (.ref s.heap.objs.size)) (PIE X pins σ tg R) E { s with heap:=s.heap.push { cls:=.type "range",data:=.fields #[.int lo t,.int hi u,.int 1 v] },toks:=tk }:=by
 refine wpAny_pyIter_range (IsRange.new ..) (small_one h1 h2 h3 h4) ?_
 have I1:Inv X pins σ H { s with heap:=s.heap.push { cls:=.type "range",data:=.fields #[.int lo t,.int hi u,.int 1 v] },toks:=tk }:=I.kept fun b o e=>Heap.get?_push_of_some _ e
 refine⟨(s.heap.push { cls:=.type "range",data:=.fields #[.int lo t,.int hi u,.int 1 v] }).objs.size,[(s.heap.push { cls:=.type "range",data:=.fields #[.int lo t,.int hi u,.int 1 v] }).objs.size],_,_,H,rfl,
  I1.kept (t':=tk) fun b o e=>Heap.get?_push_of_some _ e,BX _ lo (hi - lo).toNat,?_,fun b hb=>?_,q⟩
 ·have e1:lo+((0:Nat):Int) * 1=lo:=by simp
  have e2:(((hi - lo).toNat:Nat):Int) - ((0:Nat):Int)=Builtin.Range.rangeSize lo hi 1:=by rw [rangeSize_one];split <;> omega
  show IsRangeIter _ _ (lo+((0:Nat):Int) * 1) ((((hi - lo).toNat:Nat):Int) - ((0:Nat):Int)) 1
  rw [e1,e2]
  exact Heap.get?_push_size _ rfl
 ·have e:b=(s.heap.push { cls:=.type "range",data:=.fields #[.int lo t,.int hi u,.int 1 v] }).objs.size:=by simpa using hb
  subst e
  exact I1.fpOk (Nat.le_refl _) (I1.hok.fresh (Nat.le_refl _))
def iRng1(ta:TA):TI:=fun σ H R=>ta σ H fun vs H1=>∃ j:Int,vs=[.int j]/\-(2 ^ 62)<=j/\j<2 ^ 62/\R (Itr 0 j.toNat) H1
def iRng2(ta:TA):TI:=fun σ H R=>ta σ H fun vs H1=>∃ i j:Int,vs=[.int i,.int j]/\(-(2 ^ 62)<=i/\i<2 ^ 62/\-(2 ^ 62)<=j/\j<2 ^ 62)/\R (Itr i (j - i).toNat) H1
theorem Gq{a:Expr}{ta:TA}{p pos:Pos}(hg:Gl X "range")(hm:X.mg "range" = none)(ha:PA X [a] ta)(hs:starEach [a] X.env=[(false,eval a X.env)]:=by rfl):PI X tg (.Call (.Name "range" p) [a] [] pos) (iRng1 ta):=by
 intro pins s σ H R I h
 refine Call_ (lh I hg hm boot_range (PyProof.Rows.callWith_type1 (dg (ha pos pins s σ H _ I h) fun us s1 ⟨vs,H1,I1,r1,q1⟩=>?_) hs rfl))
 obtain⟨j,e,q1,q2,q⟩:=q1
 subst e
 cases r1 with
 | cons r rr=>
  cases rr
  obtain⟨t,rfl⟩:=r
  exact call_range_1 (zM I1 (by omega) (by omega) q1 q2 (by simpa using q))
theorem Gp{a b:Expr}{ta:TA}{p pos:Pos}(hg:Gl X "range")(hm:X.mg "range" = none)(ha:PA X [a,b] ta)(hs:starEach [a,b] X.env=[(false,eval a X.env),(false,eval b X.env)]:=by rfl)(hs2:starEach [b] X.env=[(false,eval b X.env)]:=by rfl) :
  PI X tg (.Call (.Name "range" p) [a,b] [] pos) (iRng2 ta):=by
 intro pins s σ H R I h
 refine Call_ (lh I hg hm boot_range (PyProof.Rows.callWith_type1 (dg (ha pos pins s σ H _ I h) fun us s1 ⟨vs,H1,I1,r1,q1⟩=>?_) (by rw [hs,hs2]) (by rw [hs2];rfl)))
 obtain⟨i,j,e,⟨q1,q2,q3,q4⟩,q⟩:=q1
 subst e
 cases r1 with
 | cons r rr=>
  cases rr with
  | cons r' rr=>
   cases rr
   obtain⟨t,rfl⟩:=r
   obtain⟨t',rfl⟩:=r'
   exact call_range_2 (zM I1 q1 q2 q3 q4 q)
def tFor(wi:TI)(g:TG)(tb:TS):TS:=fun D σ H=>wi σ H fun J H1=>∃ W:Nat->Nat->St->Hp->Prop,(∃ m,W 0 m σ H1)/\∀ i m σ H,W i m σ H ->
 (J.stop i H/\D.nx σ H)\/(J.go i H/\∃ N:St->Hp->Prop,(∀ σ' H',N σ' H'->∃ m',m'<m/\W (i+1) m' σ' H')/\∀ x H',J.yld i H x H'->g x σ H' fun σ2 H2=>tb { D with nx:=N,ct:=N,bk:=D.nx } σ2 H2)
noncomputable def sA(fp:List Addr)(h:Heap):List (Addr×Obj):=fp.filterMap fun b=>(h.get? b).map fun o=>(b,o)
theorem lc{fp:List Addr}{h:Heap}{b:Addr}{o:Obj}(hb:b∈fp)(e:h.get? b=some o):(b,o)∈sA fp h:=List.mem_filterMap.mpr ⟨b,hb,by rw [e];rfl⟩
theorem Gz{fp:List Addr}{h:Heap}{p:Addr×Obj}(hp:p∈sA fp h):p.1∈fp/\h.get? p.1=some p.2:=by
 obtain⟨b,hb,e⟩:=List.mem_filterMap.mp hp
 cases q:h.get? b with
 | none=>rw [q] at e;cases e
 | some o=>
  rw [q] at e
  have e':(b,o)=p:=Option.some.inj e
  subst e'
  exact⟨hb,q⟩
theorem Inv.pinned{pins:List (Addr×Obj)}{σ:St}{H:Hp}{s:Shared}{fp:List Addr}(I:Inv X pins σ H s)(hf:∀ b∈fp,qx X pins H b)(ho:∀ b∈fp,∃ o,s.heap.get? b=some o/\∀ v,o.data≠.cell v):Inv X (pins++sA fp s.heap) σ H s:=
 I.pins_of fun p hp=>(List.mem_append.mp hp).elim (fun z=>I.pin p (List.mem_append_right _ z)) fun z=>by
  obtain⟨hb,e⟩:=Gz z
  obtain⟨f0,f1,f2,_⟩:=hf p.1 hb
  obtain⟨o,e',d⟩:=ho p.1 hb
  rw [e] at e';cases e'
  exact⟨e,f0,f1,f2,d⟩
theorem Inv.unpinned{pins pl:List (Addr×Obj)}{σ:St}{H:Hp}{s:Shared}(I:Inv X (pins++pl) σ H s):Inv X pins σ H s:=I.pins_of fun p hp=>I.pin p (List.mem_append_right _ (List.mem_append_left _ hp))
theorem Jq{iter:Expr}{body:List Stmt}{wi:TI}{g:TG}{tb:TS}{pos:Pos}(hp:PassesOwn (model X.prog X.w) X.A X.env X.xe)(hc:X.calm=true)(hi:PI X tg iter wi)(hg:PG X tg g)(hb:PSs X body tb)
  (hs:∀ x,foldedSetIterable iter X.env x=pure x:=by intro _;rfl):PS X (.For tg iter body [] pos) (tFor wi g tb):=by
 intro pins s σ H D I h
 refine wpAny_For (dg (hi pins s σ H _ I h) fun v s1 h1=>dg h1 fun itv s2 h2=>?_) hs
 obtain⟨it,fp,tn,J,H2,e,I2,T,st2,f2,W,⟨m0,w0⟩,turn⟩:=h2
 subst e
 have stat:∀ {H':Hp},(∀ b∈fp,H' b=none)->∀ b∈fp,qx X pins H' b:=fun hn b hb=>⟨hn b hb,(f2 b hb).2⟩
 refine codeAny_forLoop_any (fun n s'=>∃ i σ' H',Inv X pins σ' H' s'/\tn i s'.heap/\(∀ b∈fp,H' b=none)/\W i n σ' H') ?_ m0 ⟨0,σ,H2,I2,st2,fun b hb=>(f2 b hb).1,w0⟩
 rintro n s3 ⟨i,σ3,H3,I3,st3,fr3,w3⟩
 rcases turn i n σ3 H3 w3 with ⟨stop,qn⟩ | ⟨go,N,hN,step⟩
 ·refine wpAny_passesOwn hp (dg (T.done X rfl rfl rfl hc i pins s3 σ3 H3 X.xe I3 (stat fr3) st3 stop) fun r s4 ⟨hr,I4⟩=>?_)
  subst hr
  exact wpAny_execs_nil ⟨σ3,H3,I4,qn⟩
 ·refine wpAny_passesOwn hp (dg (T.item X rfl rfl rfl hc i pins s3 σ3 H3 X.xe I3 (stat fr3) st3 go) fun r s4 ⟨u,hr,h4⟩=>?_)
  subst hr
  refine wpAny_passesOwn hp (dg h4 fun _ s5 ⟨x,H5,I5,r5,y5,st5,fr5⟩=>?_)
  have I5':=I5.pinned (stat fr5) (T.obj _ _ st5)
  refine wpAny_passesOwn hp (dg (hg _ s5 σ3 H5 x u _ I5' r5 (step x H5 y5)) fun _ s6 ⟨σ6,H6,I6,q6⟩=>?_)
  refine wpAny_passesOwn hp (dg (hb _ s6 σ6 H6 _ I6 q6) fun f s7 q7=>?_)
  have again:∀ {σ7:St} {H7:Hp},Inv X (pins++sA fp s5.heap) σ7 H7 s7->N σ7 H7->∃ m,m<n/\∃ i σ' H',Inv X pins σ' H' s7/\tn i s7.heap/\(∀ b∈fp,H' b=none)/\W i m σ' H':=fun {σ7 H7} I7 n7=>by
   obtain⟨m',hm,w7⟩:=hN σ7 H7 n7
   refine⟨m',hm,i+1,σ7,H7,I7.unpinned,T.keep _ _ _ st5 fun b hb o e=>(I7.pin (b,o) (List.mem_append_right _ (List.mem_append_right _ (lc hb e)))).1,fun b hb=>?_,w7⟩
   obtain⟨o,e,d⟩:=T.obj _ _ st5 b hb
   exact(I7.pin (b,o) (List.mem_append_right _ (List.mem_append_right _ (lc hb e)))).2.1
  cases f with
  | next=>obtain⟨σ7,H7,I7,n7⟩:=q7;exact again I7 n7
  | cont=>obtain⟨σ7,H7,I7,n7⟩:=q7;exact again I7 n7
  | brk=>obtain⟨σ7,H7,I7,q7⟩:=q7;exact⟨σ7,H7,I7.unpinned,q7⟩
  | ret v=>obtain⟨x7,σ7,H7,I7,r7,q7⟩:=q7;exact⟨x7,σ7,H7,I7.unpinned,r7,q7⟩
end
end L2
namespace L2
open PySem PySem.Spec PyProof.Rows
abbrev R2:=V->V->Hp->VK->Prop
def OpR(X:Cx)(f:Value->Value->Sem Value)(r:R2):Prop:=
 ∀ (pins:List (Addr×Obj)) (s:Shared) (σ:St) (H:Hp) (x y:V) (v u:Value) (Q:VK),Inv X pins σ H s->RelV x v->RelV y u->r x y H Q ->
  wpAny (model X.prog X.w) X.A (f v u) (EP X pins σ Q) X.xe s
def UnR(X:Cx)(f:Value->Sem Value)(r:V->Hp->VK->Prop):Prop:=
 ∀ (pins:List (Addr×Obj)) (s:Shared) (σ:St) (H:Hp) (x:V) (v:Value) (Q:VK),Inv X pins σ H s->RelV x v->r x H Q ->
  wpAny (model X.prog X.w) X.A (f v) (EP X pins σ Q) X.xe s
def CallR(X:Cx)(f:Value)(r:List V->Hp->VK->Prop):Prop:=
 ∀ (pins:List (Addr×Obj)) (s:Shared) (σ:St) (H:Hp) (xs:List V) (us:List Value) (Q:VK),Inv X pins σ H s->Vals xs us->r xs H Q ->
  wpAny (model X.prog X.w) X.A (call f us) (EP X pins σ Q) X.xe s
def TruR(X:Cx)(r:V->Hp->(Bool->Hp->Prop)->Prop):Prop:=
 ∀ (pins:List (Addr×Obj)) (s:Shared) (σ:St) (H:Hp) (x:V) (v:Value) (Q:Bool->Hp->Prop),Inv X pins σ H s->RelV x v->r x H Q ->
  wpAny (model X.prog X.w) X.A (truthy v) (TP X pins σ Q) X.xe s
def tOp(r:R2)(ta tb:TE):TE:=fun σ H Q=>ta σ H fun x H1=>tb σ H1 fun y H2=>r x y H2 Q
def tUn(r:V->Hp->VK->Prop)(ta:TE):TE:=fun σ H Q=>ta σ H fun x H1=>r x H1 Q
noncomputable def rI(C:Int->Int->Prop)(g:Int->Int->V):R2:=fun x y H Q=>∃ i j,x=.int i/\y=.int j/\C i j/\Q (g i j) H
noncomputable def Nb(g:Int->Int->V):R2:=fun x y H Q=>∃ i j,x=.int i/\y=.int j/\Q (g i j) H
def rU(g:Int->V):V->Hp->VK->Prop:=fun x H Q=>∃ i,x=.int i/\Q (g i) H
section
variable{X:Cx}{a b c:Expr}{ta tb tc:TE}{pos:Pos}
theorem Ud(ha:PE X a ta)(hb:PE X b tb){pins:List (Addr×Obj)}{s:Shared}{σ:St}{H:Hp}{R:V->V->Hp->Prop}(I:Inv X pins σ H s)
  (h:ta σ H fun x H1=>tb σ H1 fun y H2=>R x y H2) {Q:Value->Shared->Prop} {f:Value->Value->Sem Value}
  (hf:∀ v u s2 x y H2,Inv X pins σ H2 s2->RelV x v->RelV y u->R x y H2->wpAny (model X.prog X.w) X.A (f v u) Q X.xe s2) :
  wpAny (model X.prog X.w) X.A (eval a X.env) (fun v s₁=>wpAny (model X.prog X.w) X.A (eval b X.env) (fun u s₂=>wpAny (model X.prog X.w) X.A (f v u) Q X.xe s₂) X.xe s₁) X.xe s:=by
 refine dg (ha pins s σ H _ I h) fun v s1 ⟨x,H1,I1,r1,q1⟩=>?_
 refine dg (hb pins s1 σ H1 _ I1 q1) fun u s2 ⟨y,H2,I2,r2,q2⟩=>?_
 exact hf v u s2 x y H2 I2 r1 r2 q2
theorem pe_op{op:Operator}{r:R2}(ho:OpR X (binaryOp op) r)(ha:PE X a ta)(hb:PE X b tb):PE X (.BinOp a op b pos) (tOp r ta tb):=by
 intro pins s σ H Q I h
 exact wpAny_BinOp (Ud ha hb I h fun v u s2 x y H2 I2 rx ry q=>ho pins s2 σ H2 x y v u Q I2 rx ry q)
theorem pe_un{op:UnaryOp}{r:V->Hp->VK->Prop}(ho:UnR X (unaryOp op) r)(ha:PE X a ta):PE X (.UnaryOp op a pos) (tUn r ta):=by
 intro pins s σ H Q I h
 exact UnaryOp_ (dg (ha pins s σ H _ I h) fun v s1 ⟨x,H1,I1,r1,q1⟩=>ho pins s1 σ H1 x v Q I1 r1 q1)
theorem opI{f:Value->Value->Sem Value}{C:Int->Int->Prop}{g:Int->Int->Int}
  (rule:∀ (i j:Int) (t u:Tok) (s:Shared) (Q:Value->Shared->Prop) (E:Value->Shared->Prop),C i j->Q (.int (g i j) s.toks) { s with toks:=s.toks+1 }->wpAny (model X.prog X.w) X.A (f (.int i t) (.int j u)) Q E s) :
  OpR X f (rI C fun i j=>.int (g i j)):=by
 intro pins s σ H x y v u Q I rx ry h
 obtain⟨i,j,rfl,rfl,hc,q⟩:=h
 obtain⟨t,rfl⟩:=rx
 obtain⟨t',rfl⟩:=ry
 exact rule i j t t' s _ _ hc ⟨.int (g i j),H,I.tok _,⟨_,rfl⟩,q⟩
theorem opI0{f:Value->Value->Sem Value}{g:Int->Int->Int}
  (rule:∀ (i j:Int) (t u:Tok) (s:Shared) (Q:Value->Shared->Prop) (E:Value->Shared->Prop),Q (.int (g i j) s.toks) { s with toks:=s.toks+1 }->wpAny (model X.prog X.w) X.A (f (.int i t) (.int j u)) Q E s) :
  OpR X f (Nb fun i j=>.int (g i j)):=by
 intro pins s σ H x y v u Q I rx ry h
 obtain⟨i,j,rfl,rfl,q⟩:=h
 obtain⟨t,rfl⟩:=rx
 obtain⟨t',rfl⟩:=ry
 exact rule i j t t' s _ _ ⟨.int (g i j),H,I.tok _,⟨_,rfl⟩,q⟩
theorem NK{f:Value->Value->Sem Value}{g:Int->Int->Bool}
  (rule:∀ (i j:Int) (t u:Tok) (s:Shared) (Q:Value->Shared->Prop) (E:Value->Shared->Prop),Q (.bool (g i j)) s->wpAny (model X.prog X.w) X.A (f (.int i t) (.int j u)) Q E s) :
  OpR X f (Nb fun i j=>.bl (g i j)):=by
 intro pins s σ H x y v u Q I rx ry h
 obtain⟨i,j,rfl,rfl,q⟩:=h
 obtain⟨t,rfl⟩:=rx
 obtain⟨t',rfl⟩:=ry
 exact rule i j t t' s _ _ ⟨.bl (g i j),H,I,rfl,q⟩
def CDiv(i j:Int):Prop:=0<j/\j<1073741824
def CPow(i j:Int):Prop:=0<=j/\j<=1000000/\i.natAbs<2 ^ 64
theorem RF:OpR X (binaryOp .Add) (Nb fun i j=>.int (i+j)):=opI0 fun _ _ _ _ _ _ _ q=>add_int q
theorem RB:OpR X (binaryOp .Sub) (Nb fun i j=>.int (i - j)):=opI0 fun _ _ _ _ _ _ _ q=>sub_int q
theorem NG:OpR X (binaryOp .FloorDiv) (rI CDiv fun i j=>.int (i / j)):=opI fun i j _ _ _ _ _ hc q=>by
 have h1:(0:Int)<j:=hc.1
 have h2:j<1073741824:=hc.2
 exact floordiv_int (by omega) (by rw [Int.fdiv_eq_ediv_of_nonneg i (by omega)];exact q) (.inl (PyProof.noPylong_small (by omega)))
theorem RE:OpR X (binaryOp .Mod) (rI (fun _ j=>0<j) fun i j=>.int (i % j)):=opI fun i j _ _ _ _ _ hc q=>by
 have h1:(0:Int)<j:=hc
 exact mod_int' (by omega) (by rw [Int.fmod_eq_emod_of_nonneg i (by omega)];exact q)
theorem RD:OpR X (binaryOp .Pow) (rI CPow fun i j=>.int (i ^ j.toNat)):=opI fun _ _ _ _ _ _ _ hc q=>pow_int_small hc.1 hc.2.1 hc.2.2 q
theorem unI{f:Value->Sem Value}{g:Int->Int}
  (rule:∀ (i:Int) (t:Tok) (s:Shared) (Q:Value->Shared->Prop) (E:Value->Shared->Prop),Q (.int (g i) s.toks) { s with toks:=s.toks+1 }->wpAny (model X.prog X.w) X.A (f (.int i t)) Q E s) :
  UnR X f (rU fun i=>.int (g i)):=by
 intro pins s σ H x v Q I rx h
 obtain⟨i,rfl,q⟩:=h
 obtain⟨t,rfl⟩:=rx
 exact rule i t s _ _ ⟨.int (g i),H,I.tok _,⟨_,rfl⟩,q⟩
theorem QG:UnR X (unaryOp .USub) (rU fun i=>.int (-i)):=unI fun _ _ _ _ _ q=>neg_int q
end
section
variable{X:Cx}{a b c:Expr}{ta tb tc:TE}{pos:Pos}
theorem op_lt:OpR X (compareOp .Lt) (Nb fun i j=>.bl (decide (i<j))):=NK fun _ _ _ _ _ _ _ q=>lt_int q
theorem op_le:OpR X (compareOp .LtE) (Nb fun i j=>.bl (decide (i<=j))):=NK fun _ _ _ _ _ _ _ q=>le_int q
theorem op_gt:OpR X (compareOp .Gt) (Nb fun i j=>.bl (decide (j<i))):=NK fun _ _ _ _ _ _ _ q=>gt_int q
theorem op_ge:OpR X (compareOp .GtE) (Nb fun i j=>.bl (decide (j<=i))):=NK fun _ _ _ _ _ _ _ q=>ge_int q
theorem OpR.or{f:Value->Value->Sem Value}{r r':R2}(h:OpR X f r)(h':OpR X f r'):OpR X f (fun x y H Q=>r x y H Q\/r' x y H Q):=by
 intro pins s σ H x y v u Q I rx ry q
 rcases q with q | q
 ·exact h pins s σ H x y v u Q I rx ry q
 ·exact h' pins s σ H x y v u Q I rx ry q
theorem Nw{op:CmpOp}{r:R2}(ho:OpR X (compareOp op) r)(ha:PE X a ta)(hb:PE X b tb)(hm:behindInMarks op b=false):PE X (.Compare a [op] [b] pos) (tOp r ta tb):=by
 intro pins s σ H Q I h
 exact wpAny_Compare1 (Ud ha hb I h fun v u s2 x y H2 I2 rx ry q=>ho pins s2 σ H2 x y v u Q I2 rx ry q) hm
def Pz(t:TE):TT:=fun σ H Q=>t σ H fun x H'=>∃ k,x=.bl k/\Q k H'
theorem Nj{op:CmpOp}{r:R2}(ho:OpR X (compareOp op) r)(ha:PE X a ta)(hb:PE X b tb)(hm:behindInMarks op b=false):PT X (.Compare a [op] [b] pos) (Pz (tOp r ta tb)):=by
 intro pins s σ H Q I h
 refine wpAny_isTrue_Compare1 (dg (ha pins s σ H _ I h) fun v s1 ⟨x,H1,I1,r1,q1⟩=>dg (hb pins s1 σ H1 _ I1 q1) fun u s2 ⟨y,H2,I2,r2,q2⟩=>
  dg (ho pins s2 σ H2 x y v u _ I2 r1 r2 q2) fun c s3 ⟨z,H3,I3,r3,k,e,q3⟩=>?_) hm
 subst e
 cases r3
 exact wpAny_truthy_bool ⟨H3,I3,q3⟩
def Cb(r r':R2)(ta tb tc:TE):TE:=fun σ H Q=>ta σ H fun x H1=>tb σ H1 fun y H2=>r x y H2 fun z H3=>∃ k,z=.bl k /\
 (if k=true then tc σ H3 fun w' H4=>r' y w' H4 Q else Q (.bl false) H3)
theorem JC{op op':CmpOp}{r r':R2}(ho:OpR X (compareOp op) r)(ho':OpR X (compareOp op') r')(ha:PE X a ta)(hb:PE X b tb)(hc:PE X c tc)
  (hm:lastMarks [op,op'] [b,c]=false:=by with_unfolding_all rfl):PE X (.Compare a [op,op'] [b,c] pos) (Cb r r' ta tb tc):=by
 intro pins s σ H Q I h
 refine Compare_chain (dg (ha pins s σ H _ I h) fun v s1 ⟨x,H1,I1,r1,q1⟩=>chain_link (dg (hb pins s1 σ H1 _ I1 q1) fun u s2 ⟨y,H2,I2,r2,q2⟩=>
  dg (ho pins s2 σ H2 x y v u _ I2 r1 r2 q2) fun d s3 ⟨z,H3,I3,r3,k,e,q3⟩=>?_)) hm
 subst e
 cases r3
 refine wpAny_truthy_bool ?_
 cases k with
 | false=>exact ite_ff ⟨.bl false,H3,I3,rfl,q3⟩
 | true=>exact ite_tt (chain_last (dg (hc pins s3 σ H3 _ I3 q3) fun w' s4 ⟨z',H4,I4,r4,q4⟩=>ho' pins s4 σ H4 y z' u w' Q I4 r2 r4 q4))
theorem Jl{op op':CmpOp}{r r':R2}(ho:OpR X (compareOp op) r)(ho':OpR X (compareOp op') r')(ha:PE X a ta)(hb:PE X b tb)(hc:PE X c tc)
  (hm:lastMarks [op,op'] [b,c]=false:=by with_unfolding_all rfl):PT X (.Compare a [op,op'] [b,c] pos) (Pz (Cb r r' ta tb tc)):=by
 intro pins s σ H Q I h
 refine isTrue_chain (dg (ha pins s σ H _ I h) fun v s1 ⟨x,H1,I1,r1,q1⟩=>test_link (dg (hb pins s1 σ H1 _ I1 q1) fun u s2 ⟨y,H2,I2,r2,q2⟩=>
  dg (ho pins s2 σ H2 x y v u _ I2 r1 r2 q2) fun d s3 ⟨z,H3,I3,r3,k,e,q3⟩=>?_)) hm
 subst e
 cases r3
 refine wpAny_truthy_bool ?_
 cases k with
 | false=>
  obtain⟨k',e',q'⟩:=q3
  cases e'
  exact ite_ff ⟨H3,I3,q'⟩
 | true=>
  refine ite_tt (test_last (dg (hc pins s3 σ H3 _ I3 q3) fun w' s4 ⟨z',H4,I4,r4,q4⟩=>dg (ho' pins s4 σ H4 y z' u w' _ I4 r2 r4 q4) fun d' s5 ⟨z2,H5,I5,r5,k2,e2,q5⟩=>?_))
  subst e2
  cases r5
  exact wpAny_truthy_bool ⟨H5,I5,q5⟩
def Ik(K:PySem.W.Frag)(x:V)(H:Hp)(k:Bool):Prop:=
 match x with
 | .non=>k=false
 | .bl b=>k=b
 | .int i=>k=(i != 0)
 | .str y=>y.length<=sizeLine/\k=((y.length:Int) != 0)
 | .byt y=>y.size<=sizeLine/\k=((y.size:Int) != 0)
 | .ref p=>(∃ xs,nE K H p xs/\k = !xs.isEmpty)\/(∃ xs,lI K H p xs/\k = !xs.isEmpty)\/∃ kvs,H p=some (.dK kvs)/\k = !kvs.isEmpty
 | _=>False
theorem Dv{κ:Type}{kvs:List (κ×V)}{vs:List (κ×Value)}(r:KV kvs vs):(!vs.isEmpty) = !kvs.isEmpty:=by
 cases r <;> rfl
theorem tP{xs:List V}{its:List Value}(r:Vals xs its):(!its.toArray.isEmpty) = !xs.isEmpty:=by
 cases r <;> simp
theorem qd:(sizeLine:Nat)<2 ^ 63:=by rw [sizeLine_eq];decide
theorem wU:TruR X (fun x H Q=>∃ k,Ik X.K x H k/\Q k H):=by
 intro pins s σ H x v Q I rx h
 obtain⟨k,e,q⟩:=h
 have hl:=qd
 have hs:sizeLine=16777216:=sizeLine_eq
 cases x with
 | non=>
  cases rx
  have e':k=false:=e
  subst e'
  exact truthy_none ⟨H,I,q⟩
 | bl b=>
  cases rx
  have e':k=b:=e
  subst e'
  exact wpAny_truthy_bool ⟨H,I,q⟩
 | int i=>
  obtain⟨t,rfl⟩:=rx
  have e':k=(i != 0):=e
  subst e'
  exact PySem.P.truthy_int ⟨H,I,q⟩
 | str y=>
  obtain⟨t,rfl⟩:=rx
  obtain⟨hy,e'⟩:y.length<=sizeLine/\k=((y.length:Int) != 0):=e
  subst e'
  exact PySem.P.truthy_str (by omega) ⟨H,I.tok _,q⟩
 | byt y=>
  obtain⟨t,rfl⟩:=rx
  obtain⟨hy,e'⟩:y.size<=sizeLine/\k=((y.size:Int) != 0):=e
  subst e'
  exact PySem.W.truthy_bytes (by omega) ⟨H,I.tok _,q⟩
 | ref p=>
  cases rx
  have e':(∃ xs,nE X.K H p xs/\k = !xs.isEmpty)\/(∃ xs,lI X.K H p xs/\k = !xs.isEmpty)\/∃ kvs,H p=some (.dK kvs)/\k = !kvs.isEmpty:=e
  rcases e' with ⟨xs,hx,e'⟩ | ⟨xs,hx,e'⟩ | ⟨kvs,hx,e'⟩
  ·subst e'
   obtain⟨its,r,pl,hz⟩:=I.list hx
   have hlen:=r.length
   exact wpAny_truthy_list pl.isList (by simp only [List.size_toArray];omega) ⟨H,I.tok _,by rw [tP r];exact q⟩
  ·subst e'
   obtain⟨its,r,pl,hz⟩:=I.tuple hx
   have hlen:=r.length
   exact truthy_tuple pl (by simp only [List.size_toArray];omega) ⟨H,I.tok _,by rw [tP r];exact q⟩
  ·subst e'
   obtain⟨hz,hS,vs,r,m⟩:kvs.length<=sizeLine/\(p == sysModules)=false/\∃ vs,KV kvs vs/\s.heap.DictOf (ca X.prog X.w) p vs:=I.hok p _ hx
   have hlen:kvs.length=vs.length:=Paired.length r
   exact wpAny_truthy_dict hS m (by omega) ⟨H,I.tok _,by rw [Dv r];exact q⟩
 | _=>exact(show False from e).elim
theorem Jk(ha:PE X a ta)(he:∀ whole,isTrue a X.env whole=(do let v <- whole;standAt a.pos;holding [v] (truthy v))) :
  PT X a (fun σ H Q=>ta σ H fun x H'=>∃ k,Ik X.K x H' k/\Q k H'):=by
 intro pins s σ H Q I h
 exact isTrue_plain (dg (ha pins s σ H _ I h) fun v s1 ⟨x,H1,I1,r1,q1⟩=>wU pins s1 σ H1 x v Q I1 r1 q1) (he _)
theorem Cz:OpR X (binaryOp .Add) (fun x y H Q=>∃ i j,x=.str i/\y=.str j/\i.length+j.length<=sizeLine/\Q (.str (i++j)) H):=by
 intro pins s σ H x y v u Q I rx ry h
 obtain⟨i,j,rfl,rfl,hz,q⟩:=h
 obtain⟨t,rfl⟩:=rx
 obtain⟨t',rfl⟩:=ry
 exact add_str (fun t' tk=>⟨.str (i++j),H,I.tok _,⟨_,rfl⟩,q⟩) hz
theorem qy{x:V}{us:List Value}(r:Vals [x] us):∃ u,us=[u]/\RelV x u:=by
 cases r with
 | cons r1 r2=>cases r2;exact⟨_,rfl,r1⟩
theorem IA{x y:V}{us:List Value}(r:Vals [x,y] us):∃ u w',us=[u,w']/\RelV x u/\RelV y w':=by
 cases r with
 | cons r1 r2=>
  cases r2 with
  | cons r3 r4=>cases r4;exact⟨_,_,rfl,r1,r3⟩
theorem Ib(hc:X.calm=true):CallR X (.builtin "max") (fun xs H Q=>∃ i j,xs=[.int i,.int j]/\Q (.int (if j>i then j else i)) H):=by
 intro pins s σ H xs us Q I r h
 obtain⟨i,j,rfl,q⟩:=h
 obtain⟨u,w',rfl,⟨t,rfl⟩,⟨t',rfl⟩⟩:=IA r
 refine max_two_ints (I.ok.hd hc) fun h' tk k=>⟨_,H,I.kept k,?_,q⟩
 by_cases hj:j>i
 ·rw [if_pos hj,if_pos hj];exact⟨_,rfl⟩
 ·rw [if_neg hj,if_neg hj];exact⟨_,rfl⟩
theorem HZ(hc:X.calm=true):CallR X (.builtin "min") (fun xs H Q=>∃ i j,xs=[.int i,.int j]/\Q (.int (if j<i then j else i)) H):=by
 intro pins s σ H xs us Q I r h
 obtain⟨i,j,rfl,q⟩:=h
 obtain⟨u,w',rfl,⟨t,rfl⟩,⟨t',rfl⟩⟩:=IA r
 refine min_two_ints (I.ok.hd hc) fun h' tk k=>⟨_,H,I.kept k,?_,q⟩
 by_cases hj:j<i
 ·rw [if_pos hj,if_pos hj];exact⟨_,rfl⟩
 ·rw [if_neg hj,if_neg hj];exact⟨_,rfl⟩
theorem Ic:CallR X (.type "int") (fun xs H Q=>(∃ i,xs=[.int i]/\Q (.int i) H)\/∃ k,xs=[.bl k]/\Q (.int (if k then 1 else 0)) H):=by
 intro pins s σ H xs us Q I r h
 rcases h with ⟨i,rfl,q⟩ | ⟨k,rfl,q⟩
 ·obtain⟨u,rfl,t,rfl⟩:=qy r
  exact call_int_int ⟨.int i,H,I,⟨_,rfl⟩,q⟩
 ·obtain⟨u,rfl,r1⟩:=qy r
  cases r1
  exact call_int_bool ⟨.int (if k then 1 else 0),H,I.tok _,⟨_,rfl⟩,q⟩
end
end L2
namespace L2
open PySem PySem.Spec PyProof.Rows
section
variable{prog:Program}{w:World}{A:Around}{E:Value->Shared->Prop}{s:Shared}{K:PySem.W.Frag}{x dx C f:Addr}{mA:Str->Option Value}{name:Str}{v:Value}
end
theorem RelO.some_of{v:V}{o:Option Value}(r:RelO (some v) o):∃ u,o=some u/\RelV v u:=by
 cases o with
 | none=>exact(show False from r).elim
 | some u=>exact⟨u,rfl,r⟩
section
variable{P:Program}{w:World}{H H':Hp}{h h':Heap}{a C dx:Addr}{fs fs':List (Str×V)}
end
section
variable{X:Cx}{pins:List (Addr×Obj)}{σ:St}{H:Hp}{s:Shared}{a C dx:Addr}{fs:List (Str×V)}{f:Str}{v:V}{A:Around}{E:Value->Shared->Prop}
end
section
variable{X:Cx}{o e value:Expr}{f:Str}{pos pos' tpos:Pos}{ta tv:TE}
end
section
variable{X:Cx}{pins:List (Addr×Obj)}{σ:St}{H:Hp}{s:Shared}{A:Around}{E:Value->Shared->Prop}{Q:Value->Shared->Prop}{c:Value}{b:Bool}
end
end L2
namespace L2
open PySem PySem.Spec PyProof.Rows
structure Room(k:Nat)(A:Around):Prop where
 hd:A.handled=none
 dp:A.depth+3 * k+5<recursionLimit
 un:A.units+16 * k+200<cLine
theorem Room.mono{j k:Nat}{A:Around}(r:Room k A)(h:j<=k):Room j A:=⟨r.hd,by have:=r.dp;omega,by have:=r.un;omega⟩
theorem Room.deeper{k:Nat}{A:Around}(r:Room (k+1) A)(env:Env):Room k (A.deeper env):=
 ⟨r.hd,by have:=r.dp;show A.depth+1+3 * k+5<_;omega,by have:=r.un;show A.units+3+16 * k+200<_;omega⟩
theorem Room.depth{k:Nat}{A:Around}(r:Room k A):A.depth<recursionLimit:=by have:=r.dp;omega
theorem Room.units{k:Nat}{A:Around}(r:Room k A):A.units+64<cLine:=by have:=r.un;omega
def tNil:TA:=fun _ H Q=>Q [] H
def tCons(ta:TE)(tr:TA):TA:=fun σ H Q=>ta σ H fun x H1=>tr σ H1 fun xs H2=>Q (x::xs) H2
section
variable{X:Cx}{e:Expr}{es:List Expr}{te:TE}{t:TA}{pos:Pos}
theorem JG:PA X [] tNil:=fun _ _ _ _ H Q I h=>Calls.spliced_nil ⟨[],H,I,.nil,h⟩
theorem xI(ha:PE X e te)(hr:PA X es t)(hs:starEach (e::es) X.env=(false,eval e X.env)::starEach es X.env:=by rfl):PA X (e::es) (tCons te t):=by
 intro pos pins s σ H Q I h
 rw [hs]
 show wpAny _ _ (spliced ((false,eval e X.env)::backTo pos (starEach es X.env))) _ _ s
 refine Calls.spliced_cons (dg (ha pins s σ H _ I h) fun u s1 ⟨x,H1,I1,r1,q1⟩=>?_)
 exact dg (hr pos pins s1 σ H1 _ I1 q1) fun us s2 ⟨xs,H2,I2,r2,q2⟩=>⟨x::xs,H2,I2,.cons r1 r2,q2⟩
def tTup(t:TA):TE:=fun σ H Q=>t σ H fun xs H1=>xs.length<=sizeLine/\∀ p,H1 p=none->Q (.ref p) (upd H1 p (.tup xs))
def tLst(t:TA):TE:=fun σ H Q=>t σ H fun xs H1=>xs.length<=sizeLine/\∀ p,H1 p=none->Q (.ref p) (upd H1 p (.lst xs))
theorem Ro{x1}(h:PA X es t):PE X (.Tuple es x1 pos) (tTup t):=by
 intro pins s σ H Q I hq
 refine wpAny_Tuple_spliced (dg (h pos pins s σ H _ I hq) fun us s1 ⟨xs,H1,I1,r,z,q⟩=>⟨by rw [<- r.length];exact z,?_⟩)
 have hf:H1 s1.heap.objs.size=none:=I1.hok.fresh (Nat.le_refl _)
 refine⟨.ref s1.heap.objs.size,upd H1 s1.heap.objs.size (.tup xs),I1.laid (t':=s1.toks) (fun b u e=>Heap.get?_push_of_some _ e) (Nat.le_refl _) ?_,rfl,q _ hf⟩
 exact⟨z,us,r,⟨_,Heap.get?_push_size _ rfl,rfl,⟨_,rfl⟩,rfl⟩⟩
theorem Jx(h:PA X es t):PE X (.List es pos) (tLst t):=by
 intro pins s σ H Q I hq
 refine wpAny_List_spliced (dg (h pos pins s σ H _ I hq) fun us s1 ⟨xs,H1,I1,r,z,q⟩=>⟨by rw [<- r.length];exact z,?_⟩)
 have hf:H1 s1.heap.objs.size=none:=I1.hok.fresh (Nat.le_refl _)
 refine⟨.ref s1.heap.objs.size,upd H1 s1.heap.objs.size (.lst xs),I1.laid (t':=s1.toks) (fun b u e=>Heap.get?_push_of_some _ e) (Nat.le_refl _) ?_,rfl,q _ hf⟩
 exact⟨z,us,0,r,Heap.get?_push_size _ rfl⟩
end
abbrev Sp:=List V->Hp->VK->XK->Prop
abbrev Ip:=List Env->Hp->Shared->XK->Value->Shared->Prop
structure Py(P:Program)(w:World)(K:PySem.W.Frag)(mg:Str->Option Value)(base:Heap)(A:Around)(outer:List Env)(s:Shared)(H:Hp):Prop where
 frames:A.frames=some outer
 mod:Mod K mg base
 bs:∀ b o,base.get? b=some o->s.heap.get? b=some o/\H b=none
 bsz:base.objs.size<=s.heap.objs.size
 funs:s.heap.FunFrames base outer
 frf:∀ b∈Io outer,H b=none
 hok:HOk P w H s.heap
 bare:AllBare s.gens
def CE(outer:List Env)(P:Program)(w:World)(H:Hp)(s:Shared)(Q:VK)(u:Value)(s':Shared):Prop:=
 ∃ v H',s'.os=s.os/\AllBare s'.gens/\Un (Io outer) [] H H' s.heap s'.heap/\HOk P w H' s'.heap/\RelV v u/\Q v H'
def CR(CX:Ip)(outer:List Env)(P:Program)(w:World)(H:Hp)(s:Shared)(Q:VK)(E:XK)(r:Result)(s':Shared):Prop:=
 match r with
 | .ok (.ret u)=>CE outer P w H s Q u s'
 | .ok _=>False
 | .error e=>CX outer H s E e s'
structure FnOk(P:Program)(w:World)(K:PySem.W.Frag)(mg:Str->Option Value)(base:Heap)(CX:Ip)(k:Nat)(f:Addr)(fd:FuncData)(ps:List Str)(sp:Sp):Prop where
 len:∀ vs H Q E,sp vs H Q E->vs.length=ps.length
 run:∀ (A:Around) (outer:List Env) (s:Shared) (H:Hp) (args:Args) (us:List Value) (vs:List V) (Q:VK) (E:XK),Room k A->Py P w K mg base A outer s H->BindsTo s fd args (ps.zip us)->Vals vs us->sp vs H Q E ->
  codeAny (model P w) A (.call (.ref f) args) (CR CX outer P w H s Q E) s
theorem FnOk.mono{P:Program}{w:World}{K:PySem.W.Frag}{mg:Str->Option Value}{base:Heap}{CX:Ip}{j k:Nat}{f:Addr}{fd:FuncData}{ps:List Str}{sp:Sp}(F:FnOk P w K mg base CX j f fd ps sp)(h:j<=k) :
  FnOk P w K mg base CX k f fd ps sp:=⟨F.len,fun A outer s H args us vs Q E hr=>F.run A outer s H args us vs Q E (hr.mono h)⟩
section
variable{X:Cx}{pins:List (Addr×Obj)}{σ:St}{H:Hp}{s s':Shared}
theorem Inv.env0(I:Inv X pins σ H s):Py X.prog X.w X.K X.mg X.base X.A X.stack s H:=
 ⟨I.ok.frames,I.ok.mod,I.bs,Nat.le_trans I.ok.bsz I.sz,I.stack,I.stkFree,I.hok,I.bare⟩
theorem Inv.after{Q:VK}{u:Value}(I:Inv X pins σ H s)(h:CE X.stack X.prog X.w H s Q u s'):EP X pins σ Q u s':=by
 obtain⟨v,H',os,bare,un,hok,r,q⟩:=h
 obtain⟨hh,g,d,t,os'⟩:=s'
 obtain rfl:os'=s.os:=os
 exact⟨v,H',I.call (h':=hh) (g':=g) (d':=d) (t':=t) (ch:=[]) un hok bare (fun b z=>absurd z (by simp)),r,q⟩
end
def Ew(sp:Sp)(dvs:List V)(E:XK)(t:TA):TE:=fun σ H Q=>t σ H fun vs H1=>sp (vs++dvs) H1 Q E
def Binds(K:PySem.W.Frag)(fd:FuncData)(ps:List Str)(ds:List Value):Prop:=
 ∀ (s:Shared) (us:List Value),K.In s.heap->(us++ds).length=ps.length->BindsTo s fd ⟨us,[]⟩ (ps.zip (us++ds))
theorem Binds.all{K:PySem.W.Frag}{fd:FuncData}{ps:List Str}(h:∀ us:List Value,us.length=ps.length->bindArgs fd ⟨us,[]⟩=pure (ps.zip us)):Binds K fd ps []:=fun s us _ hl=>by
 rw [List.append_nil] at hl ⊢
 exact .of_eq (h us hl)
def zi(CX:Ip)(X:Cx)(E:XK):Prop:=∀ (pins:List (Addr×Obj)) (σ:St) (H:Hp) (s:Shared) (e:Value) (s':Shared),Inv X pins σ H s->CX X.stack H s E e s'->X.xe e s'
section
variable{X:Cx}{CX:Ip}{k:Nat}{f C:Addr}{fd:FuncData}{ps:List Str}{sp:Sp}{dvs:List V}{ds:List Value}{E:XK}{x m:Str}{p pos apos:Pos}{e o:Expr}{es:List Expr}{ta:TE}{t:TA}
theorem Cr{pins:List (Addr×Obj)}{σ:St}{H:Hp}{s:Shared}{Q:VK}{us:List Value}{vs:List V}(F:FnOk X.prog X.w X.K X.mg X.base CX k f fd ps sp)(hr:Room k X.A)(hb:Binds X.K fd ps ds)(hd:Vals dvs ds)(hx:zi CX X E)
  (I:Inv X pins σ H s) (r:Vals vs us) (h:sp (vs++dvs) H Q E):wpAny (model X.prog X.w) X.A (call (.ref f) us) (EP X pins σ Q) X.xe s:=by
 have r2:Vals (vs++dvs) (us++ds):=r.append hd
 have hl:(us++ds).length=ps.length:=by rw [<- r2.length];exact F.len _ _ _ _ h
 refine wpAny_call (codeAny_mono (F.run X.A X.stack s H ⟨us,[]⟩ (us++ds) (vs++dvs) Q E hr I.env0 (hb s us I.kIn hl) r2 h) fun r s' hq=>?_)
 cases r with
 | error e=>exact hx pins σ H s e s' I hq
 | ok fl=>
  cases fl with
  | ret u=>exact I.after hq
  | next=>exact False.elim hq
  | brk=>exact False.elim hq
  | cont=>exact False.elim hq
theorem Nx(F:FnOk X.prog X.w X.K X.mg X.base CX k f fd ps sp)(hr:Room k X.A)(hg:Gl X x)(hm:X.mg x=some (.ref f))(hk:PySem.W.keepIn X.K (.ref f)=true)(hb:Binds X.K fd ps ds)(hd:Vals dvs ds)(hx:zi CX X E)
  (ha:PA X (e::es) t) (hdb:(x == ("__debug__":Str))=false:=by decide) (he:starEach (e::es) X.env=(false,eval e X.env)::starEach es X.env:=by rfl) (hpl:(backTo pos (starEach es X.env)).any (·.1)=false:=by rfl) :
  PE X (.Call (.Name x p) (e::es) [] pos) (Ew sp dvs E t):=by
 intro pins s σ H Q I h
 refine wpAny_Call_Name_kw (yn I hg hm ?_ hdb)
 refine PySem.W.callWith_K (h₀:=X.base) I.ok.mod.kin hk (dg (ha pos pins s σ H _ I h) fun us s1 ⟨vs,H1,I1,r,q⟩=>⟨I1.kIn,?_⟩) he hpl
 exact Cr F hr hb hd hx I1 r q
theorem JE(F:FnOk X.prog X.w X.K X.mg X.base CX k f fd ps sp)(hr:Room k X.A)(hg:Gl X x)(hm:X.mg x=some (.ref f))(hk:PySem.W.keepIn X.K (.ref f)=true)(hb:Binds X.K fd ps ds)(hd:Vals dvs ds)(hx:zi CX X E)
  (hdb:(x == ("__debug__":Str))=false:=by decide):PE X (.Call (.Name x p) [] [] pos) (Ew sp dvs E tNil):=by
 intro pins s σ H Q I h
 refine wpAny_Call_Name_kw (yn I hg hm ?_ hdb)
 exact PySem.W.callWith_K0 I.kIn hk (Cr (us:=[]) F hr hb hd hx I .nil h)
end
section
variable{X:Cx}{CX:Ip}{k:Nat}{f C:Addr}{fd:FuncData}{ps ks:List Str}{sp:Sp}{E:XK}{x m:Str}{p pos apos kpos:Pos}{e o:Expr}{es:List Expr}{kws:List Keyword}{te ta:TE}{t tk:TA}{nm:Option Str}
variable{g:List Value->List Value->List Value}{gV:List V->List V->List V}
end
structure aS(N P:List Str)(sc:Scope):Prop where
 kind:sc.kind=.function
 co:sc.isCoroutine=false
 gen:sc.isGenerator=false
 nd:N.Nodup
 pre:N.take P.length=P
 par:∀ x∈P,sc.names.lookup x=some .local\/sc.names.lookup x=some .cell
 nofree:∀ y∈sc.names,y.2≠.free
theorem wL{kindOf:Str->Option NameKind}{x:Str}:∀ {binds:List (Str×Value)} {m:Str->Option Value},(∀ v,(x,v) ∉ binds)->bindL kindOf binds m x=m x
 | [],_,_=>rfl
 | (n,v)::r,m,h=>by
  unfold bindL
  rw [wL fun w hw=>h w (List.mem_cons_of_mem _ hw)]
  split
  ·have:x≠n:=by rintro rfl;exact h v List.mem_cons_self
   simp [this]
  ·rfl
theorem wN{kindOf:Str->Option NameKind}{x:Str}:∀ {binds:List (Str×Value)} {m:Str->Option Value},(∀ v,(x,v) ∉ binds)->bindC kindOf binds m x=m x
 | [],_,_=>rfl
 | (n,v)::r,m,h=>by
  unfold bindC
  rw [wN fun w hw=>h w (List.mem_cons_of_mem _ hw)]
  split
  ·rfl
  ·have:x≠n:=by rintro rfl;exact h v List.mem_cons_self
   simp [this]
theorem wM{kindOf:Str->Option NameKind}{x:Str}{v:Value}:∀ {P:List Str} {vs:List Value} {i:Nat} {m:Str->Option Value},P.Nodup->P[i]?=some x->vs[i]?=some v->kindOf x=some .local ->
  bindL kindOf (P.zip vs) m x=some v
 | [],_,_,_,_,h,_,_=>by simp at h
 | _::_,[],_,_,_,_,h,_=>by simp at h
 | p::P,w::vs,0,m,nd,h1,h2,hk=>by
  simp at h1 h2;subst h1;subst h2
  show bindL kindOf ((p,w)::P.zip vs) m p=_
  unfold bindL
  rw [wL fun v hv=>(List.nodup_cons.mp nd).1 (List.of_mem_zip hv).1,if_pos hk]
  simp
 | p::P,w::vs,i+1,m,nd,h1,h2,hk=>by
  show bindL kindOf ((p,w)::P.zip vs) m x=_
  unfold bindL
  exact wM (i:=i) (List.nodup_cons.mp nd).2 (by simpa using h1) (by simpa using h2) hk
theorem wO{kindOf:Str->Option NameKind}{x:Str}{v:Value}:∀ {P:List Str} {vs:List Value} {i:Nat} {m:Str->Option Value},P.Nodup->P[i]?=some x->vs[i]?=some v->kindOf x≠some .local ->
  bindC kindOf (P.zip vs) m x=some v
 | [],_,_,_,_,h,_,_=>by simp at h
 | _::_,[],_,_,_,_,h,_=>by simp at h
 | p::P,w::vs,0,m,nd,h1,h2,hk=>by
  simp at h1 h2;subst h1;subst h2
  show bindC kindOf ((p,w)::P.zip vs) m p=_
  unfold bindC
  rw [wN fun v hv=>(List.nodup_cons.mp nd).1 (List.of_mem_zip hv).1,if_neg hk]
  simp
 | p::P,w::vs,i+1,m,nd,h1,h2,hk=>by
  show bindC kindOf ((p,w)::P.zip vs) m x=_
  unfold bindC
  exact wO (i:=i) (List.nodup_cons.mp nd).2 (by simpa using h1) (by simpa using h2) hk
noncomputable def start(N:List Str)(vs:List V):St:=vs.map some++List.replicate (N.length - vs.length) none
noncomputable def vk(CX:Ip)(P:Program)(w:World)(K:PySem.W.Frag)(mg:Str->Option Value)(base:Heap)(N:List Str)(qual:Str)(scope:Scope)(f:Addr)(cd:Value)(A:Around)(outer:List Env)(s:Shared)(H:Hp)(E:XK):Cx where
 prog:=P
 w:=w
 K:=K
 mg:=mg
 base:=base
 A:=A.deeper (envOfC qual scope s.heap.objs.size f cd)
 N:=N
 s₀:=s
 H₀:=H
 env:=envOfC qual scope s.heap.objs.size f cd
 outer:=outer
 stack:=envOfC qual scope s.heap.objs.size f cd::outer
 ex:=[]
 calm:=true
 fn:=fun _=>true
 pn:=[]
 xe:=fun e s'=>wpAny (model P w) (A.deeper (envOfC qual scope s.heap.objs.size f cd)) (leaving (envOfC qual scope s.heap.objs.size f cd) e) (fun _ s''=>CX outer H s E e s'') (fun e' s''=>CX outer H s E e' s'') s'
theorem BI{sc:Scope}{n:Nat}{x:Str}(h:sc.names.lookup x=some .cell):∃ c,(cellsFrom n sc.names []).lookup x=some c:=by
 have q:=PySem.W.cellsFrom_some sc.names n [] (.inl h)
 exact Option.isSome_iff_exists.mp q
theorem Hg{CX:Ip}{P:Program}{w:World}{K:PySem.W.Frag}{mg:Str->Option Value}{base:Heap}{N ps:List Str}{qual:Str}{scope:Scope}{f:Addr}{cd:Value}{A:Around}{outer:List Env}{s s1:Shared}{H:Hp}{E:XK}{us:List Value}{vs:List V}
  (S:aS N ps scope) (hd:A.handled=none) (e0:Py P w K mg base A outer s H) (hl:vs.length=ps.length) (r:Vals vs us)
  (x:InCallC s s.heap.objs.size (bindL (envOfC qual scope s.heap.objs.size f cd).kindOf (ps.zip us) fun _=>none) (cellsFrom (s.heap.objs.size+1) scope.names []) (bindC (envOfC qual scope s.heap.objs.size f cd).kindOf (ps.zip us) fun _=>none) s1) :
  Inv (vk CX P w K mg base N qual scope f cd A outer s H E) [] (start N vs) H s1:=by
 have hpl:ps.length<=N.length:=by have:=congrArg List.length S.pre;rw [List.length_take] at this;omega
 obtain⟨h1,tk,rfl,hk⟩:=x.done
 have noA:∀ b:Addr,b ∉ (vk CX P w K mg base N qual scope f cd A outer s H E).ex:=fun b z=>absurd (show b∈([]:List Addr) from z) (by simp)
 refine⟨⟨e0.mod,S.kind,rfl,rfl,Nat.le_refl _,fun y z c h1 h2=>?_,fun y hy=>?_,fun y c _ h=>?_,fun _=>hd,Around.frames_deeper e0.frames,.inr ⟨rfl,rfl⟩,fun b z=>absurd z (noA b),e0.bs,e0.bsz,fun b _ _=>noA b,fun b z=>absurd z (noA b),e0.funs,e0.frf⟩,
  rfl,e0.bare,Un.kept hk,⟨_,x.toInCall.ns,fun i y v h1 h2 h3=>?_⟩,fun y c h=>⟨_,x.cell y c h⟩,e0.hok.fresh (Nat.le_refl _),fun y c h=>?_,fun p hp=>absurd (show p∈([]:List (Addr×Obj)) from hp) (by simp),e0.hok.kept hk,?_⟩
 ·exact name_of_addr x.apart (PySem.mem_of_lookup h1) (PySem.mem_of_lookup h2)
 ·have hy:scope.names.lookup y=some .cell\/scope.names.lookup y=some .free:=hy
  rcases hy with hy | hy
  ·exact BI hy
  ·exact absurd rfl (S.nofree _ (PySem.mem_of_lookup hy))
 ·exact Nat.le_of_lt (x.above y c (PySem.mem_of_lookup h))
 ·have hi:i<vs.length:=by
   unfold start at h2
   by_cases hi:i<vs.length
   ·exact hi
   ·rw [List.getElem?_append_right (by simpa using hi)] at h2
    rw [List.getElem?_replicate] at h2
    split at h2 <;> cases h2
  have ha:vs[i]?=some v:=by
   unfold start at h2
   rw [List.getElem?_append_left (by simpa using hi),List.getElem?_map] at h2
   cases e:vs[i]? with
   | none=>rw [e] at h2;cases h2
   | some a=>rw [e] at h2;cases h2;rfl
  obtain⟨u,hu,rv⟩:=r.get ha
  have hp:ps[i]?=some y:=by
   rw [<- S.pre,List.getElem?_take_of_lt (by omega)];exact h1
  have ndP:ps.Nodup:=by rw [<- S.pre];exact S.nd.sublist (List.take_sublist _ _)
  refine⟨u,rv,?_⟩
  rcases S.par y (List.mem_of_getElem? hp) with k | k
  ·exact .inl ⟨k,wM ndP hp hu k⟩
  ·obtain⟨c,e⟩:=BI (n:=s.heap.objs.size+1) k
   refine .inr ⟨.inl k,c,e,?_⟩
   have q:=x.cell y c e
   rw [wO ndP hp hu (by show scope.names.lookup y≠_;rw [k];decide)] at q
   exact q
 ·exact e0.hok.fresh (Nat.le_of_lt (x.above y c (PySem.mem_of_lookup h)))
 ·unfold start
  show _=N.length
  rw [List.length_append,List.length_map,List.length_replicate]
  omega
theorem fn_of{CX:Ip}{P:Program}{w:World}{K:PySem.W.Frag}{mg:Str->Option Value}{base:Heap}{k:Nat}{f:Addr}{name qual:Str}{params:Arguments}{body:List Stmt}{scope:Scope}{dV kV doc pm cdv ct oc:Value}{an od:Option Addr}
  {osl:Array (Option Value)} {N ps:List Str} {sp:Sp} (lk:K.lookup f=some ⟨oc,od,.func (PySem.W.fnOf name qual params body scope dV kV doc pm an cdv ct),osl⟩) (hcd:PySem.W.codeIn K cdv qual=true) (S:aS N ps scope)
  (len:∀ vs H Q E,sp vs H Q E->vs.length=ps.length)
  (hbody:∀ (A:Around) (outer:List Env) (s:Shared) (H:Hp) (vs:List V) (Q:VK) (E:XK),Room k (A.deeper (envOfC qual scope s.heap.objs.size f cdv))->sp vs H Q E ->
   ∃ t,PSs (vk CX P w K mg base N qual scope f cdv A outer s H E) body t/\t { nx:=fun _ H'=>Q .non H',rt:=Q } (start N vs) H) :
  FnOk P w K mg base CX (k+1) f (PySem.W.fnOf name qual params body scope dV kV doc pm an cdv ct) ps sp:=by
 refine⟨len,fun A outer s H args us vs Q E hr e0 hb r hsp=>?_⟩
 have hl:=len _ _ _ _ hsp
 have KX:K.In s.heap:=e0.mod.kin.keeps fun b o e=>(e0.bs b o e).1
 have lim:s.heap.NoLimit:=e0.mod.nolimit.keeps fun b o e=>(e0.bs b o e).1
 have hkind:∀ y∈ps.zip us,scope.names.lookup y.1=some .local\/(scope.names.lookup y.1=some .cell/\((cellsFrom (s.heap.objs.size+1) scope.names []).lookup y.1).isSome=true):=fun⟨n,v⟩ hy=>by
  rcases S.par n (List.of_mem_zip hy).1 with q | q
  ·exact .inl q
  ·exact .inr ⟨q,PySem.W.cellsFrom_some _ _ _ (.inl q)⟩
 refine codeAny_call_function hr.depth (KX _ _ lk) rfl S.co S.gen rfl (PySem.W.codeRec_of KX hcd) (hb _ _ _ _ ?_)
 refine wpAny_newFunctionEnv_cells S.kind hkind fun env he s1 x=>?_
 subst he
 refine⟨lim.keeps x.toInCall.keep,codeAny_func ?_⟩
 obtain⟨t,ht,hq⟩:=hbody A outer s H vs Q E (hr.deeper _) hsp
 have I:Inv (vk CX P w K mg base N qual scope f cdv A outer s H E) [] (start N vs) H s1:=Hg S hr.hd e0 hl r x
 refine wpAny_mono (ht [] s1 (start N vs) H _ I hq) (fun fl s' hs=>?_) fun e s' hs=>hs
 have fin:∀ {σ':St} {H':Hp} {v:V} {u:Value},Inv (vk CX P w K mg base N qual scope f cdv A outer s H E) [] σ' H' s'->RelV v u->Q v H'->CE outer P w H s Q u s':=
  fun {σ' H' v u} J rv q=>⟨v,H',J.os,J.bare,J.base,J.hok,rv,q⟩
 cases fl with
 | ret u=>
  obtain⟨v,σ',H',J,rv,q⟩:=hs
  exact fin J rv q
 | next=>
  obtain⟨σ',H',J,q⟩:=hs
  exact fin (v:=V.non) (u:=Value.none) J rfl q
 | brk=>
  obtain⟨_,_,_,q⟩:=hs
  exact False.elim q
 | cont=>
  obtain⟨_,_,_,q⟩:=hs
  exact False.elim q
end L2
namespace L2
open PySem PySem.Spec PyProof.Rows
section
variable{X:Cx}{x:Str}{p pos:Pos}{e:Expr}{es:List Expr}{t:TA}{id T:String}{r:List V->Hp->VK->Prop}
def tCB(r:List V->Hp->VK->Prop)(t:TA):TE:=fun σ H Q=>t σ H fun vs H1=>r vs H1 Q
theorem zR(hc:CallR X (.builtin id) r)(hg:Gl X x)(hm:X.mg x=none)(hv:bootBuiltins x=some (.builtin id))(ha:PA X (e::es) t)(hn:x ≠ "__name__":=by decide)(hdb:(x == ("__debug__":Str))=false:=by decide)
  (he:starEach (e::es) X.env=(false,eval e X.env)::starEach es X.env:=by rfl) (hpl:(backTo pos (starEach es X.env)).any (·.1)=false:=by rfl):PE X (.Call (.Name x p) (e::es) [] pos) (tCB r t):=by
 intro pins s σ H Q I h
 refine wpAny_Call_Name_kw (lh I hg hm hv ?_ hn hdb)
 exact PyProof.Rows.callWith_builtin1 (dg (ha pos pins s σ H _ I h) fun us s1 ⟨vs,H1,I1,r1,q1⟩=>hc pins s1 σ H1 vs us Q I1 r1 q1) he hpl
theorem Gr(hc:CallR X (.type T) r)(hg:Gl X x)(hm:X.mg x=none)(hv:bootBuiltins x=some (.type T))(ha:PA X (e::es) t)(hn:x ≠ "__name__":=by decide)(hdb:(x == ("__debug__":Str))=false:=by decide)
  (he:starEach (e::es) X.env=(false,eval e X.env)::starEach es X.env:=by rfl) (hpl:(backTo pos (starEach es X.env)).any (·.1)=false:=by rfl):PE X (.Call (.Name x p) (e::es) [] pos) (tCB r t):=by
 intro pins s σ H Q I h
 refine wpAny_Call_Name_kw (lh I hg hm hv ?_ hn hdb)
 exact PyProof.Rows.callWith_type1 (dg (ha pos pins s σ H _ I h) fun us s1 ⟨vs,H1,I1,r1,q1⟩=>hc pins s1 σ H1 vs us Q I1 r1 q1) he hpl
end
end L2
namespace HT
open PySem PyProof.Rows
section
open PySem.SeqAt
open PySem.AutoSeq1 (wpAny_loadPart')
open PySem.MeetsSeq PySem.MeetsSeq2 PySem.MeetsSeq3
end
section
variable{prog:Program}{w:World}{A:Around}{E:Value->Shared->Prop}{s:Shared}
theorem Pf{t b:Addr}{vs ws:List Value}{Q:Value->Shared->Prop}(ht:IsTup s.heap t vs.toArray)(hb:IsTup s.heap b ws.toArray)(hv:vs≠[])
  (h1:ws=[]->Q (.ref t) s) (h2:ws≠[]->Q (.ref s.heap.objs.size) { s with heap:=s.heap.push { cls:=.type "tuple",data:=.seq (vs++ws).toArray } })
  (hsz:vs.length+ws.length<=sizeLine):wpAny (model prog w) A (binaryOp .Add (.ref t) (.ref b)) Q E s:=by
 obtain⟨⟨cls,dd,data,sl⟩,ho,hc,n,hd⟩:=id ht
 obtain⟨⟨cls2,dd2,data2,sl2⟩,ho2,hc2,n2,hd2⟩:=id hb
 simp only at hc hd hc2 hd2
 subst hc hd hc2 hd2
 have e:vs.toArray++ws.toArray=(vs++ws).toArray:=by simp
 by_cases hw:ws=[]
 ·exact concat_meets ⟨_,ho,rfl⟩ ⟨_,ho2,rfl⟩ noFill_tuple_add seq_tuple_add PySem.F.slot_tuple_add PySem.F.entry_tuple_add (PySem.F.args_tuple_add_2 _ _)
   (tuple_addW1 t b vs.toArray ws.toArray n n2 dd dd2 sl sl2 (by simpa using hv) (by simp [hw])) ⟨ho,ho2,h1 hw⟩
 ·refine concat_meets ⟨_,ho,rfl⟩ ⟨_,ho2,rfl⟩ noFill_tuple_add seq_tuple_add PySem.F.slot_tuple_add PySem.F.entry_tuple_add (PySem.F.args_tuple_add_2 _ _)
   (tuple_addW2 t b vs.toArray ws.toArray n n2 dd dd2 sl sl2 (by simpa using hv) (by simpa using hw) (by rw [List.size_toArray,List.size_toArray];exact hsz)) ⟨ho,ho2,?_⟩
  rw [e]
  exact h2 hw
noncomputable def eS(n d:Nat):Option Int->Nat
 | none=>d
 | some v=>if v<0 then (v+(n:Int)).toNat else min v.toNat n
theorem sIx_nat(n d k:Nat):eS n d (some (k:Int))=min k n:=by
 show (if (k:Int)<0 then ((k:Int)+(n:Int)).toNat else min (k:Int).toNat n)=min k n
 rw [if_neg (by omega),Int.toNat_natCast]
theorem QW(n d:Nat)(hd:d<=n)(o:Option Int):eS n d o<=n:=by
 cases o with
 | none=>exact hd
 | some v=>
  show (if v<0 then (v+(n:Int)).toNat else min v.toNat n)<=n
  by_cases hv:v<0
  ·rw [if_pos hv];omega
  ·rw [if_neg hv];exact Nat.min_le_right _ _
theorem FE(v:Int)(n d:Nat):(if v<0 then max (v+(n:Int)) 0 else min v (n:Int))=((eS n d (some v):Nat):Int):=by
 show (if v<0 then max (v+(n:Int)) 0 else min v (n:Int))=(((if v<0 then (v+(n:Int)).toNat else min v.toNat n):Nat):Int)
 by_cases hv:v<0
 ·simp only [if_pos hv];omega
 ·simp only [if_neg hv];omega
theorem Ej(lo hi:Option Int)(n:Nat):Builtin.Slice.sliceAdjust lo hi 1 (n:Int)=(((eS n 0 lo:Nat):Int),((eS n n hi:Nat):Int)):=by
 have h1:¬ ((1:Int)<0):=by omega
 unfold Builtin.Slice.sliceAdjust
 simp only [h1,if_false]
 refine Prod.ext ?_ ?_
 ·cases lo with
  | none=>rfl
  | some v=>exact FE v n 0
 ·cases hi with
  | none=>rfl
  | some v=>exact FE v n n
theorem Cy(i j:Nat):Builtin.Slice.slicePlaces (i:Int) (j:Int) 1=j - i:=by
 unfold Builtin.Slice.slicePlaces
 have h1:(1:Int)>0:=by omega
 simp only [h1,if_true,Int.ediv_one]
 split <;> omega
theorem sa{v:Value}{o:Option Int}{Q:Option Int->Shared->Prop}(p:IsPart v o)(h:Q o s):wpAny (model prog w) A (Builtin.Slice.slicePartIndex v) Q E s:=by
 cases p with
 | none=>exact slicePart_none h
 | int i t=>exact slicePart_int h
theorem jY{sl:Addr}{vl vu:Value}{lo hi:Option Int}{n:Nat}{Q:Int×Int×Nat->Shared->Prop}(hs:s.heap.IsSliceOf sl vl vu .none)(pl:IsPart vl lo)(pu:IsPart vu hi)
  (h:Q (((eS n 0 lo:Nat):Int),1,eS n n hi - eS n 0 lo) s):wpAny (model prog w) A (Builtin.Slice.sliceApplied (.ref sl) (pure (n:Int))) Q E s:=by
 obtain⟨os,hos,hcs,hds⟩:=id hs
 unfold Builtin.Slice.sliceApplied Builtin.Slice.sliceFields
 refine wpAny_bind (wpAny_bind (wpAny_field hos hds (x:=vl) rfl (wpAny_bind (wpAny_field hos hds (x:=vu) rfl (wpAny_bind (wpAny_field hos hds (x:=.none) rfl (wpAny_pure ?_)))))))
 refine wpAny_bind (slicePart_none ?_)
 show wpAny _ _ (if ((1:Int) == 0)=true then _ else _) _ _ s
 rw [if_neg (by decide)]
 refine wpAny_bind (sa pl (wpAny_bind (sa pu (wpAny_bind (wpAny_pure ?_)))))
 show wpAny _ _ (match Builtin.Slice.sliceAdjust lo hi 1 (n:Int) with | (lo,hi)=>pure (lo,(1:Int),Builtin.Slice.slicePlaces lo hi 1)) _ _ s
 rw [Ej lo hi n]
 show wpAny _ _ (pure (((eS n 0 lo:Nat):Int),(1:Int),Builtin.Slice.slicePlaces ((eS n 0 lo:Nat):Int) ((eS n n hi:Nat):Int) 1)) _ _ s
 rw [Cy]
 exact wpAny_pure h
theorem Jt(xs:Array Value)(i k:Nat):((List.range k).filterMap fun(m:Nat)=>xs[((i:Int)+(m:Int) * 1).toNat]?).toArray=((xs.toList.drop i).take k).toArray:=by
 have e:(fun(m:Nat)=>xs[((i:Int)+(m:Int) * 1).toNat]?)=fun m=>xs[i+m]?:=by
  funext m
  have:((i:Int)+(m:Int) * 1).toNat=i+m:=by omega
  rw [this]
 rw [e]
 have:=pick_run xs i k
 rw [List.filterMap_map] at this
 have e2:((fun x=>xs[x]?) ∘ fun x=>i+x)=fun m=>xs[i+m]?:=rfl
 rw [e2] at this
 rw [this]
theorem pk{t sl:Addr}{items:Array Value}{vl vu:Value}{lo hi:Option Int}{Q:Value->Shared->Prop}(ht:IsTup s.heap t items)(hs:s.heap.IsSliceOf sl vl vu .none)(pl:IsPart vl lo)(pu:IsPart vu hi)
  (hw:¬ (eS items.size 0 lo=0/\eS items.size items.size hi=items.size))
  (h:Q (.ref s.heap.objs.size) { s with heap:=s.heap.push { cls:=.type "tuple",data:=.seq ((items.toList.drop (eS items.size 0 lo)).take (eS items.size items.size hi - eS items.size 0 lo)).toArray } })
  (hsz:items.size<=sizeLine):wpAny (model prog w) A (getItem (.ref t) (.ref sl)) Q E s:=by
 have htake:sizeOk (.seq ((items.toList.drop (eS items.size 0 lo)).take (eS items.size items.size hi - eS items.size 0 lo)).toArray):=by
  show ((items.toList.drop (eS items.size 0 lo)).take (eS items.size items.size hi - eS items.size 0 lo)).toArray.size<=sizeLine
  rw [List.size_toArray,List.length_take,List.length_drop,Array.length_toList]
  omega
 have hj:eS items.size items.size hi<=items.size:=QW _ _ (Nat.le_refl _) hi
 obtain⟨os,hos,hcs,hds⟩:=id hs
 have hTs:s.TypeIs (.ref sl) "slice":=⟨os,hos,hcs⟩
 unfold getItem
 try with_reducible refine wpAny_holding ?_
 first | refine wpAny_bind (wpAny_pure ?_) | skip
 refine wpAny_bind (wpAny_sequenceKey ht.typeIs (by decide) ?_)
 refine wpAny_bind (wpAny_callSpecial?_slot (name:=Str.ofString "__getitem__") ht.typeIs PyProof.Rows.slot_tuple_getitem
  (wpAny_call_entry PyProof.Rows.slot_tuple_getitem ht.typeIs entry_tuple_getitem ?_ (args_tuple_getitem _ _)))
 show wpAny _ _ (Builtin.Tuple.tupleItemsOf (.ref t) >>= _) _ _ s
 refine wpAny_bind (tupleItemsOf_ ht ?_)
 refine wpAny_bind (wpAny_typeOf hTs ?_)
 rw [if_pos (by decide)]
 refine wpAny_bind (jY hs pl pu ?_)
 have hno:¬ ((((eS items.size 0 lo:Nat):Int) == 0&&(1:Int) == 1&&(eS items.size items.size hi - eS items.size 0 lo) == items.size)=true):=by
  intro q
  rw [Bool.and_eq_true,Bool.and_eq_true] at q
  have q1:((eS items.size 0 lo:Nat):Int)=0:=eq_of_beq q.1.1
  have q2:eS items.size items.size hi - eS items.size 0 lo=items.size:=eq_of_beq q.2
  exact hw ⟨by omega,by omega⟩
 show wpAny _ _ (if (((eS items.size 0 lo:Nat):Int) == 0&&(1:Int) == 1&&(eS items.size items.size hi - eS items.size 0 lo) == items.size)=true then _ else _) _ _ s
 rw [if_neg hno,Jt]
 first
  | exact wpAny_bind (m:=Builtin.Tuple.tupleExact _) (wpAny_newObj_type (wpAny_pure ⟨_,rfl,wpAny_pure h⟩) htake)
  | exact wpAny_bind (m:=Builtin.Tuple.tupleExact _) (wpAny_newObj_type (wpAny_bind (wpAny_pure (wpAny_pure ⟨_,rfl,wpAny_pure h⟩))) htake)
  | exact wpAny_bind (wpAny_bind (m:=Builtin.Tuple.tupleExact _) (wpAny_newObj_type (wpAny_pure (wpAny_pure ⟨_,rfl,wpAny_pure h⟩)) htake))
  | exact wpAny_bind (wpAny_bind (m:=Builtin.Tuple.tupleExact _) (wpAny_newObj_type (wpAny_pure ⟨_,rfl,wpAny_pure h⟩) htake))
end
end HT
namespace L2
open PySem PySem.Spec PyProof.Rows
abbrev TO:=St->Hp->(Option Int->Hp->Prop)->Prop
def PO(X:Cx)(e:Option Expr)(t:TO):Prop:=
 ∀ (pins:List (Addr×Obj)) (s:Shared) (σ:St) (H:Hp) (Q:Option Int->Hp->Prop),Inv X pins σ H s->t σ H Q ->
  wpAny (model X.prog X.w) X.A (evalPart e X.env) (fun u s'=>∃ o H',Inv X pins σ H' s'/\IsPart u o/\Q o H') X.xe s
noncomputable def MK:TO:=fun _ H Q=>Q none H
noncomputable def tPart(t:TE):TO:=fun σ H Q=>t σ H fun x H1=>∃ i,x=.int i/\Q (some i) H1
section
variable{X:Cx}{e:Expr}{te:TE}{lo hi:Option Expr}{tl th:TO}{pos p2:Pos}
theorem Nq:PO X none MK:=by
 intro pins s σ H Q I h
 rw [evalPart_none]
 exact wpAny_pure ⟨none,H,I,.none,h⟩
theorem Np(h:PE X e te):PO X (some e) (tPart te):=by
 intro pins s σ H Q I hw
 rw [evalPart_some]
 refine dg (h pins s σ H _ I hw) fun u s1 ⟨x,H1,I1,r1,q1⟩=>?_
 obtain⟨i,rfl,q⟩:=q1
 obtain⟨t,rfl⟩:=r1
 exact⟨some i,H1,I1,.int i t,q⟩
def SlR(X:Cx)(r:V->Option Int->Option Int->Hp->VK->Prop):Prop:=
 ∀ (pins:List (Addr×Obj)) (s:Shared) (σ:St) (H:Hp) (x:V) (v vl vu:Value) (lo hi:Option Int) (sl:Addr) (Q:VK),Inv X pins σ H s->RelV x v->s.heap.IsSliceOf sl vl vu .none->IsPart vl lo->IsPart vu hi->r x lo hi H Q ->
  ∃ T id,typeLookup (.type T) "__getitem__" = pure (some (.builtin id))/\s.TypeIs v T/\wpAny (model X.prog X.w) X.A (getItem v (.ref sl)) (EP X pins σ Q) X.xe s
theorem SlR.or{r r':V->Option Int->Option Int->Hp->VK->Prop}(h:SlR X r)(h':SlR X r'):SlR X (fun x lo hi H Q=>r x lo hi H Q\/r' x lo hi H Q):=by
 intro pins s σ H x v vl vu lo hi sl Q I rx hs pl pu q
 rcases q with q | q
 ·exact h pins s σ H x v vl vu lo hi sl Q I rx hs pl pu q
 ·exact h' pins s σ H x v vl vu lo hi sl Q I rx hs pl pu q
def tSl(r:V->Option Int->Option Int->Hp->VK->Prop)(te:TE)(tl th:TO):TE:=fun σ H Q=>te σ H fun x H1=>tl σ H1 fun l H2=>th σ H2 fun u H3=>r x l u H3 Q
theorem Jw{r:V->Option Int->Option Int->Hp->VK->Prop}(hr:SlR X r)(he:PE X e te)(hl:PO X lo tl)(hu:PO X hi th):PE X (.Subscript e (.Slice lo hi none p2) pos) (tSl r te tl th):=by
 intro pins s σ H Q I h
 refine Subscript_ (dg (he pins s σ H _ I h) fun v s1 ⟨x,H1,I1,r1,q1⟩=>?_)
 refine wpAny_Slice (dg (hl pins s1 σ H1 _ I1 q1) fun vl s2 ⟨l,H2,I2,pl,q2⟩=>dg (hu pins s2 σ H2 _ I2 q2) fun vu s3 ⟨u,H3,I3,pu,q3⟩=>?_)
 rw [evalPart_none]
 refine wpAny_pure ?_
 have I4:Inv X pins σ H3 { s3 with heap:=s3.heap.push { cls:=.type "slice",data:=.fields #[vl,vu,.none] } }:=I3.kept (t':=s3.toks) fun b ob q=>Heap.get?_push_of_some _ q
 obtain⟨T,id,hT,ht,hg⟩:=hr pins { s3 with heap:=s3.heap.push { cls:=.type "slice",data:=.fields #[vl,vu,.none] } } σ H3 x v vl vu l u s3.heap.objs.size Q I4 r1 (Heap.IsSliceOf.new ..) pl pu q3
 show wpAny (model X.prog X.w) X.A (subscriptTail e (.Slice lo hi none p2) v (.ref s3.heap.objs.size)) (EP X pins σ Q) X.xe { s3 with heap:=s3.heap.push { cls:=.type "slice",data:=.fields #[vl,vu,.none] } }
 exact tail_any (ops:=[.ref s3.heap.objs.size,v]) ht hT hg (by with_unfolding_all rfl)
noncomputable def BH(xs:List V)(lo hi:Option Int):List V:=(xs.drop (HT.eS xs.length 0 lo)).take (HT.eS xs.length xs.length hi - HT.eS xs.length 0 lo)
theorem qT(xs:List V)(lo hi:Option Int):(BH xs lo hi).length<=xs.length:=by
 unfold BH
 rw [List.length_take,List.length_drop]
 omega
def rSlT(K:PySem.W.Frag):V->Option Int->Option Int->Hp->VK->Prop:=fun x lo hi H Q=>∃ a xs,x=.ref a/\lI K H a xs /\
 ¬ (HT.eS xs.length 0 lo=0/\HT.eS xs.length xs.length hi=xs.length)/\∀ p,H p=none->Q (.ref p) (upd H p (.tup (BH xs lo hi)))
theorem QR:SlR X (rSlT X.K):=by
 intro pins s σ H x v vl vu lo hi sl Q I rx hs pl pu h
 obtain⟨a,xs,rfl,hx,hw,q⟩:=h
 cases rx
 obtain⟨its,r,ht,hz⟩:=I.tuple hx
 have hlen:its.toArray.size=xs.length:=by rw [List.size_toArray];exact r.length.symm
 refine⟨"tuple",_,PyProof.Rows.slot_tuple_getitem.lookup,ht.typeIs,?_⟩
 refine HT.pk ht hs pl pu (by rw [hlen];exact hw) ?_ (by rw [hlen];exact hz)
 rw [hlen]
 refine⟨.ref s.heap.objs.size,_,I.laid (t':=s.toks) (o:=.tup (BH xs lo hi)) (fun b ob q=>Heap.get?_push_of_some _ q) (Nat.le_refl _) ?_,rfl,q _ (I.hok.fresh (Nat.le_refl _))⟩
 exact⟨Nat.le_trans (qT xs lo hi) hz,_,(r.drop (HT.eS xs.length 0 lo)).take (HT.eS xs.length xs.length hi - HT.eS xs.length 0 lo),IsTupN.new _ _⟩
noncomputable def rCatT(K:PySem.W.Frag):R2:=fun x y H Q=>∃ a b xs ys,x=.ref a/\y=.ref b/\lI K H a xs/\lI K H b ys/\xs≠[]/\xs.length+ys.length<=sizeLine /\
 (ys=[]->Q (.ref a) H)/\(ys≠[]->∀ p,H p=none->Q (.ref p) (upd H p (.tup (xs++ys))))
theorem Vals.nil_iff{xs:List V}{us:List Value}(r:Vals xs us):us=[]↔xs=[]:=by
 cases r with
 | nil=>simp
 | cons _ _=>simp
theorem NH:OpR X (binaryOp .Add) (rCatT X.K):=by
 intro pins s σ H x y v u Q I rx ry h
 obtain⟨a,b,xs,ys,rfl,rfl,ha,hb,hx,hz,q1,q2⟩:=h
 cases rx
 cases ry
 obtain⟨its,r1,p1,_⟩:=I.tuple ha
 obtain⟨its2,r2,p2,_⟩:=I.tuple hb
 refine HT.Pf p1 p2 (fun z=>hx (r1.nil_iff.mp z)) (fun z=>⟨.ref a,H,I,rfl,q1 (r2.nil_iff.mp z)⟩) (fun z=>?_) (by rw [<- r1.length,<- r2.length];exact hz)
 refine⟨.ref s.heap.objs.size,_,I.laid (t':=s.toks) (o:=.tup (xs++ys)) (fun b ob q=>Heap.get?_push_of_some _ q) (Nat.le_refl _) ?_,rfl,q2 (fun w=>z (r2.nil_iff.mpr w)) _ (I.hok.fresh (Nat.le_refl _))⟩
 exact⟨by rw [List.length_append];exact hz,_,r1.append r2,IsTupN.new _ _⟩
end
end L2
namespace L2
open PySem PySem.Spec PyProof.Rows
def Fg(n:Nat)(i:Int):Option Nat:=if 0<=i then (if i<n then some i.toNat else none) else if -(n:Int)<=i then some (i+n).toNat else none
noncomputable def lH{α:Type}(xs:List α)(i:Int):Option α:=(Fg xs.length i).bind fun j=>xs[j]?
theorem Ff{n:Nat}{i:Int}{j:Nat}(h:Fg n i=some j):seqIndex? i n=some j/\j<n/\-(n:Int)<=i/\i<n:=by
 unfold Fg at h
 by_cases h0:0<=i
 ·rw [if_pos h0] at h
  by_cases h1:i<n
  ·rw [if_pos h1] at h
   have e:i.toNat=j:=Option.some.inj h
   exact⟨by rw [seqIndex_of h0 h1,e],by omega,by omega,h1⟩
  ·rw [if_neg h1] at h;cases h
 ·rw [if_neg h0] at h
  by_cases h1:-(n:Int)<=i
  ·rw [if_pos h1] at h
   have e:(i+n).toNat=j:=Option.some.inj h
   exact⟨by rw [seqIndex_neg (by omega) h1,e],by omega,h1,by omega⟩
  ·rw [if_neg h1] at h;cases h
theorem FI{α:Type}{xs:List α}{i:Int}{v:α}(h:lH xs i=some v):∃ j,seqIndex? i xs.length=some j/\xs[j]?=some v/\j<xs.length/\-(xs.length:Int)<=i/\i<xs.length:=by
 unfold lH at h
 cases e:Fg xs.length i with
 | none=>rw [e] at h;cases h
 | some j=>
  rw [e] at h
  obtain⟨h1,h2,h3,h4⟩:=Ff e
  exact⟨j,h1,h,h2,h3,h4⟩
def nw(b:Expr):Prop:=∀ o i,subscripted b false o i=operate [o,i] (getItem o i)
def IxR(X:Cx)(r:R2):Prop:=
 ∀ (value slice:Expr) (pins:List (Addr×Obj)) (s:Shared) (σ:St) (H:Hp) (x y:V) (v u:Value) (Q:VK),Inv X pins σ H s->RelV x v->RelV y u->r x y H Q ->
  subscripted slice false v u=operate [v,u] (getItem v u)->wpAny (model X.prog X.w) X.A (subscriptTail value slice v u) (EP X pins σ Q) X.xe s
def MtR(X:Cx)(id:String)(r:V->List V->Hp->VK->Prop):Prop:=
 ∀ (pins:List (Addr×Obj)) (s:Shared) (σ:St) (H:Hp) (x:V) (xs:List V) (v:Value) (us:List Value) (Q:VK),Inv X pins σ H s->RelV x v->Vals xs us->r x xs H Q ->
  wpAny (model X.prog X.w) X.A (call (.builtin id) (v::us)) (EP X pins σ Q) X.xe s
section
variable{X:Cx}{a b:Expr}{ta tb:TE}{pos:Pos}
theorem IxR.or{r r':R2}(h:IxR X r)(h':IxR X r'):IxR X (fun x y H Q=>r x y H Q\/r' x y H Q):=by
 intro value slice pins s σ H x y v u Q I rx ry q hs
 rcases q with q | q
 ·exact h value slice pins s σ H x y v u Q I rx ry q hs
 ·exact h' value slice pins s σ H x y v u Q I rx ry q hs
theorem Jy{r:R2}(hr:IxR X r)(ha:PE X a ta)(hb:PE X b tb)(hs:nw b):PE X (.Subscript a b pos) (tOp r ta tb):=by
 intro pins s σ H Q I h
 exact Subscript_ (Ud ha hb I h fun v u s2 x y H2 I2 rx ry q=>hr a b pins s2 σ H2 x y v u Q I2 rx ry q (hs _ _))
noncomputable def rIxL(K:PySem.W.Frag):R2:=fun x y H Q=>∃ p xs i v,x=.ref p/\y=.int i/\nE K H p xs/\lH xs i=some v/\Q v H
noncomputable def rIxT(K:PySem.W.Frag):R2:=fun x y H Q=>∃ p xs i v,x=.ref p/\y=.int i/\lI K H p xs/\lH xs i=some v/\Q v H
theorem ix_list:IxR X (rIxL X.K):=by
 intro value slice pins s σ H x y v u Q I rx ry h hs
 obtain⟨p,xs,i,z,rfl,rfl,hq,he,q⟩:=h
 cases rx
 obtain⟨t,rfl⟩:=ry
 obtain⟨its,r,pl,hz⟩:=I.list hq
 obtain⟨j,h1,h2,h3,h4,h5⟩:=FI he
 obtain⟨w,ew,rw'⟩:=r.get h2
 have hl:=r.length
 have hn:=qd
 have fin:EP X pins σ Q w s:=⟨z,H,I,rw',q⟩
 by_cases h0:0<=i
 ·have hj:i.toNat=j:=by
   rw [seqIndex_of h0 h5] at h1
   exact Option.some.inj h1
  exact item_listR pl.isList h0 (by omega) (by rw [hj];simpa using ew) fin hs
 ·have hj:(i+(its.toArray.size:Int)).toNat=j:=by
   rw [seqIndex_neg (by omega) h4] at h1
   rw [List.size_toArray,<- hl]
   exact Option.some.inj h1
  exact subscriptTail_builtinR (x:=w) pl.isList.typeIs slot_list_getitem.lookup
   (wpAny_getItem_list_neg (Q:=fun r s'=>r=w/\EP X pins σ Q r s') pl.isList (by omega) (by rw [List.size_toArray] <;> omega) (by omega) (by rw [hj];simpa using ew) ⟨rfl,fin⟩) hs
theorem SE:IxR X (rIxT X.K):=by
 intro value slice pins s σ H x y v u Q I rx ry h hs
 obtain⟨p,xs,i,z,rfl,rfl,hq,he,q⟩:=h
 cases rx
 obtain⟨t,rfl⟩:=ry
 obtain⟨its,r,pl,hz⟩:=I.tuple hq
 obtain⟨j,h1,h2,h3,h4,h5⟩:=FI he
 obtain⟨w,ew,rw'⟩:=r.get h2
 have hl:=r.length
 have hn:=qd
 have fin:EP X pins σ Q w s:=⟨z,H,I,rw',q⟩
 exact subscriptTail_builtinR (x:=w) pl.typeIs slot_tuple_getitem.lookup
  (getItem_tuple (j:=j) (Q:=fun r s'=>r=w/\EP X pins σ Q r s') pl (by omega) (by omega) (by rw [List.size_toArray,<- hl];exact h1) (by simpa using ew) ⟨rfl,fin⟩) hs
theorem CU(its:List Value)(n j:Nat)(u:Value):Obj.mapSeq (·.setIfInBounds j u) { cls:=.type "list",data:=.seq its.toArray n } = { cls:=.type "list",data:=.seq (its.set j u).toArray n }:=by
 simp [Obj.mapSeq]
theorem Inv.lst{pins:List (Addr×Obj)}{σ:St}{H:Hp}{s:Shared}{p:Addr}{xs:List V}(I:Inv X pins σ H s)(h:H p=some (.lst xs)) :
  ∃ (its:List Value) (n:Nat),Vals xs its/\s.heap.get? p=some { cls:=.type "list",data:=.seq its.toArray n }/\xs.length<=sizeLine:=by
 obtain⟨z,its,n,r,e⟩:=I.hok p _ h
 exact⟨its,n,r,e,z⟩
theorem Inv.lstUpd{pins:List (Addr×Obj)}{σ:St}{H:Hp}{s:Shared}{p:Addr}{xs ys:List V}{its its':List Value}{n n':Nat}{f:Obj->Obj}(I:Inv X pins σ H s)(h:H p=some (.lst xs))
  (ho:s.heap.get? p=some { cls:=.type "list",data:=.seq its.toArray n }) (hf:f { cls:=.type "list",data:=.seq its.toArray n } = { cls:=.type "list",data:=.seq its'.toArray n' }) (r:Vals ys its') (hz:ys.length<=sizeLine) (t:Nat) :
  Inv X pins σ (upd H p (.lst ys)) { s with heap:=s.heap.update p f,toks:=t }:=by
 have e:(s.heap.update p f).get? p=some { cls:=.type "list",data:=.seq its'.toArray n' }:=by
  rw [Heap.get?_update_self f ho (by rw [hf] <;> rfl),hf]
 refine I.write (x:=p) (e:=p) (by rw [h];trivial) (.inl rfl) (fun b u hb q=>(Heap.get?_update_other _ _ (Ne.symm hb)).trans q) ⟨_,e⟩ ?_
 exact⟨hz,its',n',r,e⟩
def rSetL:V->V->V->Hp->(Hp->Prop)->Prop:=fun o i v H Q=>∃ p xs k j,o=.ref p/\i=.int k/\H p=some (.lst xs)/\Fg xs.length k=some j/\Q (upd H p (.lst (xs.set j v)))
theorem IS:PSet X rSetL:=by
 intro pins s σ H o i v ov iv u Q I ro ri rv h
 obtain⟨p,xs,k,j,rfl,rfl,hp,hj,q⟩:=h
 cases ro
 obtain⟨t,rfl⟩:=ri
 obtain⟨its,n,r,ho,hz⟩:=I.lst hp
 obtain⟨h1,h2,h3,h4⟩:=Ff hj
 have hl:=r.length
 have hn:=qd
 have I':Inv X pins σ (upd H p (.lst (xs.set j v))) { s with heap:=s.heap.update p (Obj.mapSeq (·.setIfInBounds j u)) }:=
  I.lstUpd hp ho (CU its n j u) (r.set rv j) (by rw [List.length_set];exact hz) s.toks
 by_cases h0:0<=k
 ·have hk:k.toNat=j:=by
   rw [seqIndex_of h0 h4] at h1
   exact Option.some.inj h1
  exact PySem.W.ki_setAt ho h0 (by omega) (by rw [List.size_toArray,<- hl];exact h4) (by rw [hk];exact⟨_,I',q⟩)
 ·have hk:(k+(its.toArray.size:Int)).toNat=j:=by
   rw [seqIndex_neg (by omega) h3] at h1
   rw [List.size_toArray,<- hl]
   exact Option.some.inj h1
  exact PySem.W.ki_setBack ho (by omega) (by rw [List.size_toArray,<- hl];exact h3) (by omega) (by rw [hk];exact⟨_,I',q⟩)
theorem wZ(lo hi:Option Int)(n:Nat):(sliceBounds lo hi none n).1=((HT.eS n 0 lo:Nat):Int)/\(sliceBounds lo hi none n).2.1=((HT.eS n n hi:Nat):Int)/\(sliceBounds lo hi none n).2.2=1:=by
 refine⟨?_,?_,rfl⟩
 ·cases lo with
  | none=>simp [sliceBounds,HT.eS]
  | some i=>
   simp only [sliceBounds,HT.eS,Option.getD_none,show (1:Int)>0 by decide,if_true]
   by_cases h:i<0
   ·simp only [h,if_true] <;> omega
   ·simp only [h,if_false] <;> omega
 ·cases hi with
  | none=>simp [sliceBounds,HT.eS]
  | some i=>
   simp only [sliceBounds,HT.eS,Option.getD_none,show (1:Int)>0 by decide,if_true]
   by_cases h:i<0
   ·simp only [h,if_true] <;> omega
   ·simp only [h,if_false] <;> omega
theorem uE(its:List Value)(lo hi:Option Int):slicePick its.toArray lo hi none=((its.drop (HT.eS its.length 0 lo)).take (HT.eS its.length its.length hi - HT.eS its.length 0 lo)).toArray:=by
 obtain⟨h1,h2,h3⟩:=wZ lo hi its.toArray.size
 unfold slicePick
 rw [h1,h2,h3]
 simp only [sliceRange_one,pick_run,List.size_toArray] <;> rfl
def rSlL(K:PySem.W.Frag):V->Option Int->Option Int->Hp->VK->Prop:=fun x lo hi H Q=>∃ a xs,x=.ref a/\nE K H a xs/\∀ p,H p=none->Q (.ref p) (upd H p (.lst (BH xs lo hi)))
theorem MQ:SlR X (rSlL X.K):=by
 intro pins s σ H x v vl vu lo hi sl Q I rx hs pl pu h
 obtain⟨a,xs,rfl,hx,q⟩:=h
 cases rx
 obtain⟨its,r,ht,hz⟩:=I.list hx
 have hlen:=r.length
 refine⟨"list",_,slot_list_getitem.lookup,ht.isList.typeIs,?_⟩
 refine wpAny_getItem_list_slice ht.isList hs pl pu .none (by simp) ?_ (by rw [List.size_toArray] <;> omega)
 rw [uE,<- hlen]
 refine⟨.ref s.heap.objs.size,_,I.laid (t':=s.toks) (o:=.lst (BH xs lo hi)) (fun b ob q=>Heap.get?_push_of_some _ q) (Nat.le_refl _) ?_,rfl,q _ (I.hok.fresh (Nat.le_refl _))⟩
 exact⟨Nat.le_trans (qT xs lo hi) hz,_,0,(r.drop (HT.eS xs.length 0 lo)).take (HT.eS xs.length xs.length hi - HT.eS xs.length 0 lo),Heap.get?_push_size _ rfl⟩
theorem call_len_seq:CallR X (.builtin "len") (fun xs H Q=>∃ p ys,xs=[.ref p]/\(nE X.K H p ys\/lI X.K H p ys)/\Q (.int ys.length) H):=by
 intro pins s σ H xs us Q I r h
 obtain⟨p,ys,rfl,hq,q⟩:=h
 obtain⟨u,rfl,rx⟩:=qy r
 cases rx
 have hn:=qd
 rcases hq with hq | hq
 ·obtain⟨its,r',pl,hz⟩:=I.list hq
  have hlen:=r'.length
  exact Calls.call_len_list pl.isList (by simp only [List.size_toArray] <;> omega) ⟨.int ys.length,H,I.tok _,⟨s.toks+1,by rw [List.size_toArray,hlen]⟩,q⟩
 ·obtain⟨its,r',pl,hz⟩:=I.tuple hq
  have hlen:=r'.length
  exact len_tuple pl (by simp only [List.size_toArray] <;> omega) ⟨.int ys.length,H,I.tok _,⟨s.toks+1,by rw [List.size_toArray,hlen]⟩,q⟩
theorem yY:CallR X (.builtin "len") (fun xs H Q=>∃ z,xs=[.str z]/\z.length<=sizeLine/\Q (.int z.length) H):=by
 intro pins s σ H xs us Q I r h
 obtain⟨z,rfl,hz,q⟩:=h
 obtain⟨u,rfl,t,rfl⟩:=qy r
 have hn:=qd
 exact len_str (by omega) ⟨.int z.length,H,I.tok _,⟨_,rfl⟩,q⟩
theorem CallR.or{f:Value}{r r':List V->Hp->VK->Prop}(h:CallR X f r)(h':CallR X f r'):CallR X f (fun xs H Q=>r xs H Q\/r' xs H Q):=by
 intro pins s σ H xs us Q I rs q
 rcases q with q | q
 ·exact h pins s σ H xs us Q I rs q
 ·exact h' pins s σ H xs us Q I rs q
theorem yX:CallR X (.type "list") (fun xs H Q=>∃ p ys,xs=[.ref p]/\(nE X.K H p ys\/lI X.K H p ys)/\∀ l,H l=none->Q (.ref l) (upd H l (.lst ys))):=by
 intro pins s σ H xs us Q I r h
 obtain⟨p,ys,rfl,hq,q⟩:=h
 obtain⟨u,rfl,rx⟩:=qy r
 cases rx
 have fin:∀ (its:List Value),Vals ys its->ys.length<=sizeLine->∀ (h':Heap) (c':Nat),(∀ b o',s.heap.get? b=some o'->h'.get? b=some o') ->
   h'.get? s.heap.objs.size=some { cls:=.type "list",dict:=none,data:=.seq its.toArray c',slots:=#[] }->EP X pins σ Q (.ref s.heap.objs.size) { s with heap:=h' }:=fun its r' hz h' c' kp e=>
  ⟨.ref s.heap.objs.size,_,I.laid (t':=s.toks) kp (Nat.le_refl _) (show ObjOk X.prog X.w _ h' _ (.lst ys) from ⟨hz,its,c',r',e⟩),rfl,q _ (I.hok.fresh (Nat.le_refl _))⟩
 rcases hq with hq | hq
 ·obtain⟨its,r',pl,hz⟩:=I.list hq
  have hlen:=r'.length
  obtain⟨o,ho,hc,n,hd⟩:=pl.isList
  exact call_list_seq p (.inl rfl) ho hc hd (fun h' c' kp e=>fin its r' hz h' c' kp e) (by simp only [List.size_toArray] <;> omega)
 ·obtain⟨its,r',pl,hz⟩:=I.tuple hq
  have hlen:=r'.length
  obtain⟨o,ho,hc,n,hd⟩:=pl
  exact call_list_seq p (.inr rfl) ho hc hd (fun h' c' kp e=>fin its r' hz h' c' kp e) (by simp only [List.size_toArray] <;> omega)
theorem vn:CallR X (.type "tuple") (fun xs H Q=>∃ p ys,xs=[.ref p]/\((nE X.K H p ys/\∀ l,H l=none->Q (.ref l) (upd H l (.tup ys)))\/(lI X.K H p ys/\Q (.ref p) H))):=by
 intro pins s σ H xs us Q I r h
 obtain⟨p,ys,rfl,h⟩:=h
 obtain⟨u,rfl,rx⟩:=qy r
 cases rx
 rcases h with ⟨hq,q⟩ | ⟨hq,q⟩
 ·obtain⟨its,r',pl,hz⟩:=I.list hq
  have hlen:=r'.length
  refine call_tuple_list pl.isList (fun h' kp=>?_) (by simp only [List.size_toArray] <;> omega)
  have I1:Inv X pins σ H { s with heap:=h' }:=I.kept (t':=s.toks) kp
  have I2:Inv X pins σ (upd H h'.objs.size (.tup ys)) { s with heap:=h'.push { cls:=.type "tuple",data:=.seq its.toArray } }:=
   I1.laid (t':=s.toks) (fun b o e=>Heap.get?_push_of_some _ e) (Nat.le_refl _) (show ObjOk X.prog X.w _ _ _ (.tup ys) from ⟨hz,its,r',IsTupN.new _ _⟩)
  exact⟨.ref h'.objs.size,_,I2,rfl,q _ (I1.hok.fresh (Nat.le_refl _))⟩
 ·obtain⟨its,r',pl,hz⟩:=I.tuple hq
  exact call_tuple_same pl ⟨.ref p,H,I,rfl,q⟩
def tyV(K:PySem.W.Frag)(T:String)(x:V)(H:Hp):Prop:=match x with
 | .str _=>T = "str"
 | .int _=>T = "int"
 | .ref p=>(T = "list"/\∃ xs,nE K H p xs)\/(T = "tuple"/\∃ o,K.lookup p=some o/\o.cls=.type "tuple"/\o.dict=none) \/
   (T = "dict"/\((∃ kvs,H p=some (.dK kvs))\/∃ kvs,H p=some (.dT kvs)))\/(T = "set"/\∃ S n,H p=some (.set S n))
 | _=>False
theorem QI{pins:List (Addr×Obj)}{σ:St}{H:Hp}{s:Shared}{T:String}{x:V}{v:Value}(I:Inv X pins σ H s)(r:RelV x v)(ty:tyV X.K T x H) :
  s.TypeIs v T/\∀ a,v=.ref a->∃ ob,s.heap.get? a=some ob/\ob.dict=none:=by
 cases x with
 | str z=>
  obtain⟨t,rfl⟩:=r
  cases (show T = "str" from ty)
  exact⟨typeIs_str s z t,fun _ e=>nomatch e⟩
 | int i=>
  obtain⟨t,rfl⟩:=r
  cases (show T = "int" from ty)
  exact⟨typeIs_int s i t,fun _ e=>nomatch e⟩
 | ref p=>
  cases r
  rcases ty with ⟨rfl,xs,hq⟩ | ⟨rfl,o,hk,hc,hd⟩ | ⟨rfl,hk⟩ | ⟨rfl,S,n,hk⟩
  ·obtain⟨its,_,pl,_⟩:=I.list hq
   refine⟨pl.isList.typeIs,fun a e=>?_⟩
   cases e
   obtain⟨o,n,e,c,hd,_⟩:=pl
   exact⟨o,e,hd⟩
  ·refine⟨⟨o,I.kIn p o hk,hc⟩,fun a e=>?_⟩
   cases e
   exact⟨o,I.kIn _ o hk,hd⟩
  ·have z:∃ o,s.heap.get? p=some o/\o.ExactDict:=by
    rcases hk with ⟨kvs,hk⟩ | ⟨kvs,hk⟩
    ·obtain⟨_,_,_,_,o,_,_,e,ex,_⟩:=I.hok p _ hk
     exact⟨o,e,ex⟩
    ·obtain⟨_,_,_,_,o,_,_,e,ex,_⟩:=I.hok p _ hk
     exact⟨o,e,ex⟩
   obtain⟨o,e,ex⟩:=z
   refine⟨⟨o,e,ex.1⟩,fun a e2=>?_⟩
   cases e2
   exact⟨o,e,ex.2.1⟩
  ·obtain⟨o,_,_,_,e,ex,_⟩:=I.hok p _ hk
   refine⟨⟨o,e,ex.1⟩,fun a e2=>?_⟩
   cases e2
   exact⟨o,e,ex.2.1⟩
 | _=>exact False.elim ty
def tBM(K:PySem.W.Frag)(T:String)(r:V->List V->Hp->VK->Prop)(to:TE)(t:TA):TE:=fun σ H Q=>to σ H fun x H1=>tyV K T x H1/\t σ H1 fun xs H2=>r x xs H2 Q
variable{o e:Expr}{es:List Expr}{to:TE}{t:TA}{name:Str}{apos cpos:Pos}{T id:String}{r:V->List V->Hp->VK->Prop}
theorem pe_bm(pa:PlainAttrs T)(slot:Slot T name id)(hty:typeOf (.builtin id)=pure (.type "method_descriptor"))(hm:MtR X id r)(ho:PE X o to)(ha:PA X (e::es) t)
  (hbase:attributeBase o name X.env (eval o X.env)=eval o X.env:=by rfl)
  (hfew:((backTo cpos (starEach (e::es) X.env)).all (fun x=>!x.1)&&(backToKw cpos (keywordEach [] X.env)).all (fun x=>x.1.isSome)
   && decide ((e::es).length+([]:List Keyword).length+(if ([]:List Keyword).isEmpty then 0 else 1)<30))=true:=by rfl)
  (hline:(apos.endLine == cpos.line)=true:=by rfl) (hs:starEach (e::es) X.env=(false,eval e X.env)::starEach es X.env:=by rfl) (hplain:(backTo cpos (starEach es X.env)).any (·.1)=false:=by rfl) :
  PE X (.Call (.Attribute o name apos) (e::es) [] cpos) (tBM X.K T r to t):=by
 intro pins s σ H Q I h
 refine wpAny_Call_method_late hbase hfew hline rfl (dg (ho pins s σ H _ I h) fun v s1 ⟨x,H1,I1,r1,ty,q1⟩=>?_)
 obtain⟨h1,h2⟩:=QI I1 r1 ty
 refine⟨T,id,pa,slot,hty,h1,h2,?_⟩
 have hA:=ha cpos pins s1 σ H1 _ I1 q1
 rw [hs] at hA ⊢
 refine Calls.callWith_builtin (by show (false||(backTo cpos (starEach es X.env)).any (·.1))=false;rw [hplain] <;> rfl) (Calls.evalArgs_plain ?_)
 exact dg hA fun us s2 ⟨vs,H2,I2,r2,q2⟩=>hm pins s2 σ H2 x vs v us Q I2 r1 r2 q2
end
end L2
namespace L2
open PySem PySem.Spec PyProof.Rows
def MtM(X:Cx)(id:String)(r:V->List V->Hp->VK->Prop):Prop:=
 ∀ (pins:List (Addr×Obj)) (s:Shared) (σ:St) (H:Hp) (x:V) (xs:List V) (v:Value) (us:List Value) (Q:VK),Inv X pins σ H s->RelV x v->Vals xs us->r x xs H Q ->
  wpAny (model X.prog X.w) X.A (call (.builtin id) (v::us)) (EP X pins σ Q) X.xe s
theorem Vals.one:∀ {x:V} {us:List Value},Vals [x] us->∃ u,us=[u]/\RelV x u
 | _,_,.cons r .nil=>⟨_,rfl,r⟩
theorem Vals.two:∀ {x y:V} {us:List Value},Vals [x,y] us->∃ u v,us=[u,v]/\RelV x u/\RelV y v
 | _,_,_,.cons r (.cons q .nil)=>⟨_,_,rfl,r,q⟩
theorem Vals.rep{xs:List V}{us:List Value}(h:Vals xs us):∀ k:Nat,Vals (List.replicate k xs).flatten (List.replicate k us).flatten
 | 0=>.nil
 | k+1=>by
  rw [List.replicate_succ,List.replicate_succ,List.flatten_cons,List.flatten_cons]
  exact Vals.append h (Vals.rep h k)
theorem wy(its:List Value):∀ (k:Nat) (acc:List Value),
  List.foldl (fun x1 x2=>x1++x2) acc.toArray (List.replicate k its.toArray)=(acc++(List.replicate k its).flatten).toArray
 | 0,acc=>by simp
 | k+1,acc=>by
  have e:acc.toArray++its.toArray=(acc++its).toArray:=by simp
  have e2:(acc++its)++(List.replicate k its).flatten=acc++(List.replicate (k+1) its).flatten:=by
   rw [List.replicate_succ,List.flatten_cons,List.append_assoc]
  rw [<- e2,<- wy its k (acc++its),<- e,List.replicate_succ,List.foldl_cons]
section
variable{X:Cx}{pins:List (Addr×Obj)}{σ:St}{H:Hp}{s:Shared}{l b:Addr}{xs ys zs:List V}
theorem Inv.lset{its its':List Value}{n:Nat}{f:Array Value->Array Value}{t':Nat}(I:Inv X pins σ H s)(hH:H l=some (.lst xs))
  (e:s.heap.get? l=some { cls:=.type "list",data:=.seq its.toArray n }) (hf:f its.toArray=its'.toArray) (hv:Vals ys its') (hz:ys.length<=sizeLine) :
  Inv X pins σ (upd H l (.lst ys)) { s with heap:=s.heap.update l (Obj.mapSeq f),toks:=t' }:=by
 have q:=PySem.IsL.update e f
 rw [hf] at q
 refine I.write (x:=l) (e:=l) (by rw [hH];exact trivial) (.inl rfl) (fun b' u hb hu=>(Heap.get?_update_other s.heap (Obj.mapSeq f) (Ne.symm hb)).trans hu) ⟨_,q⟩ ?_
 exact⟨hz,its',_,hv,q⟩
theorem Inv.lnew{its:List Value}{t':Nat}(I:Inv X pins σ H s)(hv:Vals ys its)(hz:ys.length<=sizeLine) :
  Inv X pins σ (upd H s.heap.objs.size (.lst ys)) { s with heap:=s.heap.push { cls:=.type "list",data:=.seq its.toArray },toks:=t' }:=
 I.laid (fun _ _ q=>Heap.get?_push_of_some _ q) (Nat.le_refl _) ⟨hz,its,0,hv,Heap.get?_push_size _ rfl⟩
theorem Inv.fresh(I:Inv X pins σ H s):H s.heap.objs.size=none:=I.hok.fresh (Nat.le_refl _)
theorem Inv.lstM(I:Inv X pins σ H s)(hH:H l=some (.lst xs)):xs.length<=sizeLine/\∃ (its:List Value) (n:Nat),Vals xs its/\xs.length=its.length/\s.heap.get? l=some { cls:=.type "list",data:=.seq its.toArray n }:=by
 obtain⟨z,its,n,r,e⟩:=I.hok l _ hH
 exact⟨z,its,n,r,r.length,e⟩
theorem Ae{n:Nat}(h:n<=sizeLine):Builtin.List.listTooLong n=false:=by
 unfold Builtin.List.listTooLong
 exact decide_eq_false (by omega)
end
section
variable{X:Cx}
def Nd:V->List V->Hp->VK->Prop:=fun x vs H Q=>∃ l xs y,x=.ref l/\vs=[y]/\H l=some (.lst xs)/\xs.length<sizeLine/\Q .non (upd H l (.lst (xs++[y])))
theorem vM:MtM X "list.append" Nd:=by
 intro pins s σ H x vs v us Q I rx rv h
 obtain⟨l,xs,y,rfl,rfl,hH,hz,q⟩:=h
 cases rx
 obtain⟨u,rfl,ru⟩:=rv.one
 obtain⟨z,its,n,r,hl,e⟩:=I.lstM hH
 refine call_meets F.slot_list_append ⟨_,e,rfl⟩ F.entry_list_append (F.args_list_append_2 _ _) (PySem.list_append l its.toArray n u (by rw [List.size_toArray];omega)) ⟨e,?_⟩
 refine⟨.non,_,I.lset (its':=its++[u]) hH e (by simp) (r.append (.cons ru .nil)) ?_,rfl,q⟩
 rw [List.length_append,List.length_singleton]
 omega
def Nc:V->List V->Hp->VK->Prop:=fun x vs H Q=>∃ l b xs zs,x=.ref l/\vs=[.ref b]/\H l=some (.lst xs)/\H b=some (.lst zs)/\xs.length+zs.length<=sizeLine/\Q .non (upd H l (.lst (xs++zs)))
theorem mt_extend:MtM X "list.extend" Nc:=by
 intro pins s σ H x vs v us Q I rx rv h
 obtain⟨l,b,xs,zs,rfl,rfl,hH,hB,hz,q⟩:=h
 cases rx
 obtain⟨u,rfl,ru⟩:=rv.one
 cases ru
 obtain⟨z,its,n,r,hl,e⟩:=I.lstM hH
 obtain⟨z2,its2,n2,r2,hl2,e2⟩:=I.lstM hB
 have hsz:its.toArray.size+its2.toArray.size<=sizeLine:=by rw [List.size_toArray,List.size_toArray];omega
 have hlong:¬ (!its.toArray.isEmpty&&Builtin.List.listTooLong (its.toArray.size+its2.toArray.size))=true:=by
  rw [Ae hsz,Bool.and_false]
  exact Bool.false_ne_true
 refine call_meets F.slot_list_extend ⟨_,e,rfl⟩ F.entry_list_extend (F.args_list_extend_2 _ _)
  (AutoSeq1.list_extend_list_list_0 l its.toArray n b its2.toArray n2 hlong (by rw [List.size_toArray];omega) (by omega)) ⟨e,e2,?_⟩
 refine⟨.non,_,I.lset (its':=its++its2) hH e (by simp) (r.append r2) ?_,rfl,q⟩
 rw [List.length_append]
 omega
noncomputable def rCat:R2:=fun x y H Q=>∃ l b xs zs,x=.ref l/\y=.ref b/\H l=some (.lst xs)/\H b=some (.lst zs)/\xs.length+zs.length<=sizeLine/\∀ p,H p=none->Q (.ref p) (upd H p (.lst (xs++zs)))
theorem JH:OpR X (binaryOp .Add) rCat:=by
 intro pins s σ H x y v u Q I rx ry h
 obtain⟨l,b,xs,zs,rfl,rfl,hH,hB,hz,q⟩:=h
 cases rx
 cases ry
 obtain⟨z,its,n,r,hl,e⟩:=I.lstM hH
 obtain⟨z2,its2,n2,r2,hl2,e2⟩:=I.lstM hB
 refine PySem.P.add_list e e2 ?_ (by rw [List.size_toArray,List.size_toArray];omega)
 have ea:its.toArray++its2.toArray=(its++its2).toArray:=by simp
 rw [ea]
 exact⟨.ref _,_,I.lnew (t':=s.toks) (r.append r2) (by rw [List.length_append];omega),rfl,q _ I.fresh⟩
noncomputable def rRep:R2:=fun x y H Q=>∃ l k xs,x=.ref l/\y=.int k/\H l=some (.lst xs)/\-(2 ^ 63)<=k/\k<2 ^ 63/\xs.length * k.toNat<=sizeLine /\
 ∀ p,H p=none->Q (.ref p) (upd H p (.lst (List.replicate k.toNat xs).flatten))
theorem ym{α:Type}(xs:List α)(k:Nat):(List.replicate k xs).flatten.length=k * xs.length:=by
 induction k with
 | zero=>simp
 | succ k ih=>rw [List.replicate_succ,List.flatten_cons,List.length_append,ih,Nat.succ_mul,Nat.add_comm]
theorem RC:OpR X (binaryOp .Mult) rRep:=by
 intro pins s σ H x y v u Q I rx ry h
 obtain⟨l,k,xs,rfl,rfl,hH,h1,h2,hz,q⟩:=h
 cases rx
 obtain⟨t,rfl⟩:=ry
 obtain⟨z,its,n,r,hl,e⟩:=I.lstM hH
 have hlen:its.toArray.size * k.toNat<=sizeLine:=by rw [List.size_toArray,<- hl];exact hz
 have hcap:¬ its.toArray.size * k.toNat>(2 ^ 63 - 1) / 8:=by
  have:(sizeLine:Nat)<=(2 ^ 63 - 1) / 8:=by decide
  omega
 have hfit:¬ (!Builtin.List.listFitsIndex k)=true:=by
  rw [fitsIndex_both h1 h2]
  exact Bool.false_ne_true
 have hlong:¬ Builtin.List.listTooLong (its.toArray.size * k.toNat)=true:=by
  rw [Ae hlen]
  exact Bool.false_ne_true
 have hnew:List.foldl (fun x1 x2=>x1++x2) #[] (List.replicate (if its.toArray.isEmpty=true then 0 else k.toNat) its.toArray)=(List.replicate k.toNat its).flatten.toArray:=by
  have f0:∀ m:Nat,List.foldl (fun x1 x2=>x1++x2) #[] (List.replicate m its.toArray)=(List.replicate m its).flatten.toArray:=fun m=>by
   have:=wy its m []
   rw [List.nil_append] at this
   exact this
  rw [f0]
  cases its with
  | nil=>simp
  | cons a r'=>rw [if_neg (by simp)]
 refine wpAny_binaryOp_repeat_ref (T:="list") (U:="int") (by decide) ⟨_,e,rfl⟩ (fun s'=>typeIs_int s' k t) noFill_list_mul F.fills_int_mul F.slot_int_rmul repeat_list F.slot_int_index.lookup
  (call_meets F.slot_int_rmul (typeIs_int s k t) F.entry_int_rmul (F.args_int_rmul_2 _ _) (int___rmul___int_list k t l its.toArray n)
   ⟨e,rfl,⟨_,e,rfl⟩,call_meets F.slot_list_mul ⟨_,e,rfl⟩ F.entry_list_mul (F.args_list_mul_2 _ _) (AutoListH.list___mul___list_int_3 l its.toArray n k t hfit hcap hlong) ⟨e,?_⟩⟩)
 rw [hnew]
 exact⟨.ref _,_,I.lnew (t':=s.toks) (r.rep k.toNat) (by rw [ym,Nat.mul_comm];exact hz),rfl,q _ I.fresh⟩
end
section
variable{prog:Program}{w:World}{A:Around}{E:Value->Shared->Prop}{s:Shared}
end
section
variable{X:Cx}
end
end L2
namespace L2
open PySem PySem.Spec PyProof.Rows
section
variable{κ:Type}[DecidableEq κ]
noncomputable def rY(kvs:List (κ×V))(k:κ):Option V:=(kvs.find? fun kv=>decide (kv.1=k)).map (·.2)
noncomputable def uN(kvs:List (κ×V))(k:κ)(v:V):List (κ×V):=
 if (kvs.any fun kv=>decide (kv.1=k))=true then kvs.map (fun kv=>if kv.1=k then (kv.1,v) else kv) else kvs++[(k,v)]
theorem rW{p:κ×V}{r:List (κ×V)}{k:κ}(e:p.1=k):rY (p::r) k=some p.2:=by simp [rY,List.find?_cons,e]
theorem rX{p:κ×V}{r:List (κ×V)}{k:κ}(e:¬ p.1=k):rY (p::r) k=rY r k:=by simp [rY,List.find?_cons,e]
theorem AV(kvs:List (κ×V))(k:κ)(v:V):(uN kvs k v).length<=kvs.length+1:=by
 unfold uN
 split
 ·rw [List.length_map];omega
 ·rw [List.length_append,List.length_cons,List.length_nil];omega
theorem KV.val{kvs:List (κ×V)}{vs:List (κ×Value)}(r:KV kvs vs)(k:κ):RelO (rY kvs k) (valueAt vs k):=by
 unfold KV at r
 induction r with
 | nil=>exact True.intro
 | @cons p q ps qs h t ih=>
  obtain⟨h1,h2⟩:=h
  by_cases e:p.1=k
  ·have e':q.1=k:=h1.symm.trans e
   have b:valueAt (q::qs) k=some q.2:=by simp [valueAt,List.find?_cons,e']
   rw [rW e,b];exact h2
  ·have e':¬ q.1=k:=fun z=>e (h1.trans z)
   have b:valueAt (q::qs) k=valueAt qs k:=by simp [valueAt,List.find?_cons,e']
   rw [rX e,b];exact ih
theorem KV.any{kvs:List (κ×V)}{vs:List (κ×Value)}(r:KV kvs vs)(k:κ):(kvs.any fun kv=>decide (kv.1=k))=vs.any fun kv=>decide (kv.1=k):=by
 unfold KV at r
 induction r with
 | nil=>rfl
 | cons h t ih=>rw [List.any_cons,List.any_cons,ih,h.1]
theorem KV.repl{kvs:List (κ×V)}{vs:List (κ×Value)}(r:KV kvs vs)(k:κ){y:V}{u:Value}(ry:RelV y u) :
  KV (kvs.map fun kv=>if kv.1=k then (kv.1,y) else kv) (vs.map fun kv=>if kv.1=k then (kv.1,u) else kv):=by
 unfold KV at r ⊢
 induction r with
 | nil=>exact .nil
 | @cons p q ps qs h t ih=>
  rw [List.map_cons,List.map_cons]
  refine .cons ?_ ih
  obtain⟨h1,h2⟩:=h
  by_cases e:p.1=k
  ·rw [if_pos e,if_pos (h1.symm.trans e)];exact⟨h1,ry⟩
  ·rw [if_neg e,if_neg (fun z=>e (h1.trans z))];exact⟨h1,h2⟩
theorem KV.put{kvs:List (κ×V)}{vs:List (κ×Value)}(r:KV kvs vs)(k:κ){y:V}{u:Value}(ry:RelV y u):KV (uN kvs k y) (stored vs k u):=by
 unfold uN stored
 rw [r.any k]
 by_cases e:(vs.any fun kv=>decide (kv.1=k))=true
 ·rw [if_pos e,if_pos e];exact r.repl k ry
 ·rw [if_neg e,if_neg e];exact Paired.snoc r ⟨rfl,ry⟩
theorem KV.length{kvs:List (κ×V)}{vs:List (κ×Value)}(r:KV kvs vs):kvs.length=vs.length:=Paired.length r
end
theorem vZ{P:Program}{w:World}{k:bC}{u:Value}(r:RelV (kV k) u):(ca P w).is k u=true:=by
 cases k with
 | inl i=>obtain⟨t,e⟩:=(show ∃ t,u=Value.int i t from r);subst e;exact Aj P w i t
 | inr x=>obtain⟨t,e⟩:=(show ∃ t,u=Value.str x t from r);subst e;exact Ai P w x t
theorem we{P:Program}{w:World}:∀ {ks:List bC} {us:List Value},Vals (ks.map kV) us->ItemsAre (ca P w) ks us
 | [],_,r=>by rw [List.map_nil] at r;cases r;exact .nil
 | k::ks,_,r=>by
  rw [List.map_cons] at r
  cases r with
  | cons h t=>exact .cons (vZ h) (we t)
abbrev KT(H:Hp):List (List bC×V)->List (List bC×Addr×Value)->Prop:=Paired fun p q=>p.1=q.1/\H q.2.1=some (.tup (p.1.map kV))/\RelV p.2 q.2.2
theorem KT.val{H:Hp}{kvs:List (List bC×V)}{xs:List (List bC×Addr×Value)}(r:KT H kvs xs)(k:List bC):RelO (rY kvs k) ((atKey xs k).map (·.2)):=by
 induction r with
 | nil=>exact True.intro
 | @cons p q ps qs h t ih=>
  obtain⟨h1,_,h2⟩:=h
  by_cases e:p.1=k
  ·have e':q.1=k:=h1.symm.trans e
   have b:atKey (q::qs) k=some q.2:=by simp [atKey,List.find?_cons,e']
   rw [rW e,b];exact h2
  ·have e':¬ q.1=k:=fun z=>e (h1.trans z)
   have b:atKey (q::qs) k=atKey qs k:=by simp [atKey,List.find?_cons,e']
   rw [rX e,b];exact ih
section
variable{P:Program}{w:World}{H:Hp}{h:Heap}{a:Addr}
theorem PL{u:HO}(ok:HOk P w H h)(e:Rd H a u):ObjOk P w H h a u:=e.ok ok
theorem FA{kvs:List (bC×V)}(ok:HOk P w H h)(e:Rd H a (.dK kvs)):kvs.length<=sizeLine/\(a == sysModules)=false/\∃ vs,KV kvs vs/\h.DictOf (ca P w) a vs:=
 show ObjOk P w H h a (.dK kvs) from PL ok e
theorem LQ{kvs:List (bC×V)}(ok:HOk P w H h)(e:H a=some (.dK kvs)):kvs.length<=sizeLine/\(a == sysModules)=false/\∃ vs,KV kvs vs/\h.DictOf (ca P w) a vs:=FA ok (.inl e)
theorem Ko{ks:List bC}(ok:HOk P w H h)(e:H a=some (.tup (ks.map kV))):(tupleKind (ca P w)).is h ks a:=by
 obtain⟨_,its,r,o,h1,h2,⟨n,h3⟩,_⟩:=(show ObjOk P w H h a (.tup (ks.map kV)) from ok a _ e)
 exact⟨o,its.toArray,n,h1,h2,h3,by simpa using we r⟩
theorem LD{kvs:List (List bC×V)}(ok:HOk P w H h)(e:Rd H a (.dT kvs)):kvs.length<=sizeLine/\(a == sysModules)=false /\
  ∃ xs,KT H kvs xs/\h.DictOfH (tupleKind (ca P w)) a xs:=by
 obtain⟨z,y,xs,r,o,es,ep,h1,h2,h3,h4,h5⟩:=(show ObjOk P w H h a (.dT kvs) from PL ok e)
 refine⟨z,y,xs,r,o,es,ep,h1,h2,h3,h4,fun x hx=>?_,h5⟩
 have all:∀ {l:List (List bC×V)} {m:List (List bC×Addr×Value)},KT H l m->∀ x∈m,(tupleKind (ca P w)).is h x.1 x.2.1:=by
  intro l m q
  induction q with
  | nil=>intro x hx;exact nomatch hx
  | @cons p q ps qs hq t ih=>
   intro x hx
   rcases List.mem_cons.mp hx with e | hx
   ·subst e
    exact Ko ok (by rw [<- hq.1];exact hq.2.1)
   ·exact ih x hx
 exact all r x hx
end
def DGet(H:Hp)(a:Addr)(y:V)(r:Option V):Prop:=
 (∃ kvs k,Rd H a (.dK kvs)/\y=kV k/\r=rY kvs k)\/∃ kvs k b,Rd H a (.dT kvs)/\y=.ref b/\H b=some (.tup (k.map kV))/\r=rY kvs k
theorem DGet.k{H:Hp}{a:Addr}{kvs:List (bC×V)}{k:bC}(e:H a=some (.dK kvs)):DGet H a (kV k) (rY kvs k):=.inl ⟨kvs,k,.inl e,rfl,rfl⟩
section
variable{X:Cx}{pins:List (Addr×Obj)}{σ:St}{H:Hp}{s:Shared}{a:Addr}{y v:V}{u r:Value}{o:Option V}{A:Around}{E:Value->Shared->Prop}
theorem Inv.big(I:Inv X pins σ H s):sysModules<s.heap.objs.size:=by
 have h:mainGlobals<s.heap.objs.size:=(I.mod.glob.keeps I.bk).lt
 exact Nat.lt_trans (by decide) h
theorem HP{Q:Value->Shared->Prop}(hu:A.units+1<cLine)(I:Inv X pins σ H s)(g:DGet H a y (some v))(ry:RelV y u)(h:∀ w' s',Inv X pins σ H s'->RelV v w'->Q w' s') :
  wpAny (model X.prog X.w) A (getItem (.ref a) u) Q E s:=by
 rcases g with ⟨kvs,k,e,ey,l⟩ | ⟨kvs,k,b,e,ey,eb,l⟩
 ·subst ey
  obtain⟨z,hd,vs,rel,dd⟩:=FA I.hok e
  obtain⟨w',hw,rw'⟩:=RelO.some_of (v:=v) (o:=valueAt vs k) (by rw [l];exact rel.val k)
  exact wpAny_getItem_of (vZ ry) dd.mapOf hw (h w' _ (I.tok _) rw')
 ·subst ey
  cases (show u=Value.ref b from ry)
  obtain⟨z,hd,xs,rel,dd⟩:=LD I.hok e
  obtain⟨w',hw,rw'⟩:=RelO.some_of (v:=v) (o:=(atKey xs k).map (·.2)) (by rw [l];exact rel.val k)
  obtain⟨p,hp,hp2⟩:=Option.map_eq_some_iff.mp hw
  refine wpAny_getItem_heap (tupleKind_room_in1 hu) (Ko I.hok eb) dd hp ?_
  rw [hp2]
  exact h w' _ (I.tok _) rw'
theorem FD{h':Heap}{t':Nat}{ob:HO}(I:Inv X pins σ H s)(mu:Mut (H a))(hs:Heap.SameBut a s.heap h')(he:∃ q,h'.get? a=some q)(new:ObjOk X.prog X.w (upd H a ob) h' a ob) :
  Inv X pins σ (upd H a ob) { s with heap:=h',toks:=t' }:=
 I.write (x:=a) (e:=a) mu (.inl rfl) (fun b q hb z=>(hs.2 b hb).trans z) he new
theorem LR{P:Program}{w:World}{H':Hp}{h':Heap}{kvs:List (bC×V)}{vs:List (bC×Value)}(z:kvs.length<=sizeLine)(hd:(a == sysModules)=false)(rel:KV kvs vs)(dd:h'.DictOf (ca P w) a vs) :
  ObjOk P w H' h' a (.dK kvs):=⟨z,hd,vs,rel,dd⟩
end
section
variable{X:Cx}{pins:List (Addr×Obj)}{σ:St}{H:Hp}{s:Shared}{a:Addr}{kvs:List (bC×V)}{k:bC}{u:Value}{A:Around}{E:Value->Shared->Prop}
end
theorem BE{X:Cx}{pins:List (Addr×Obj)}{σ:St}{H:Hp}{s:Shared}{a:Addr}{y:V}{o:Option V}(I:Inv X pins σ H s)(g:DGet H a y o):s.TypeIs (.ref a) "dict":=by
 rcases g with ⟨kvs,k,e,_,_⟩ | ⟨kvs,k,b,e,_,_,_⟩
 ·obtain⟨_,_,vs,_,dd⟩:=FA I.hok e
  exact dd.typeIs
 ·obtain⟨_,_,xs,_,dd⟩:=LD I.hok e
  exact dd.typeIs
section
variable{X:Cx}{o i e value:Expr}{pos pos' tpos:Pos}{td ty tv:TE}
end
theorem BD{P:Program}{w:World}{H:Hp}(h:Heap)(hb:sysModules<h.objs.size):ObjOk P w H (h.push { cls:=.type "dict",data:=.dict #[] }) h.objs.size (.dK []):=
 ⟨Nat.zero_le _,beq_eq_false_iff_ne.mpr (Ne.symm (Nat.ne_of_lt hb)),[],.nil,Heap.DictOf.new h⟩
def QP:TE:=fun _ H Q=>∀ p,H p=none->Q (.ref p) (upd H p (.dK []))
section
variable{X:Cx}{pos:Pos}
theorem JA:PE X (.Dict [] [] pos) QP:=fun pins s σ H Q I h=>
 wpAny_Dict_empty ⟨.ref s.heap.objs.size,_,I.laid (a:=s.heap.objs.size) (o:=.dK []) (t':=s.toks) (fun _ _ q=>Heap.get?_push_of_some _ q) (Nat.le_refl _) (BD s.heap I.big),rfl,h _ (I.hok.fresh (Nat.le_refl _))⟩
end
def wW:List (TE×TE)->St->Hp->(List (V×V)->Hp->Prop)->Prop
 | [],_,H,Q=>Q [] H
 | (tk,tv)::r,σ,H,Q=>tk σ H fun x H1=>tv σ H1 fun y H2=>wW r σ H2 fun ps H3=>Q ((x,y)::ps) H3
abbrev VV:List (V×V)->List (Value×Value)->Prop:=Paired fun p q=>RelV p.1 q.1/\RelV p.2 q.2
def PPs(X:Cx)(pos:Pos)(keys:List (Option Expr))(values:List Expr)(trs:List (TE×TE)):Prop:=
 ∀ (pins:List (Addr×Obj)) (s:Shared) (σ:St) (H:Hp) (Q:List (V×V)->Hp->Prop),Inv X pins σ H s->wW trs σ H Q ->
  wpAny (model X.prog X.w) X.A (evalPairs (pairTrees keys values X.env pos)) (fun vs s'=>∃ ps H',Inv X pins σ H' s'/\VV ps vs/\Q ps H') X.xe s
theorem No{X:Cx}{pos:Pos}:PPs X pos [] [] []:=fun pins s σ H Q I h=>pairTrees_nil_walk ⟨[],H,I,.nil,h⟩
theorem Js{X:Cx}{pos:Pos}{k v:Expr}{ks:List (Option Expr)}{vs:List Expr}{tk tv:TE}{trs:List (TE×TE)}(hk:PE X k tk)(hv:PE X v tv)(hr:PPs X pos ks vs trs) :
  PPs X pos (some k::ks) (v::vs) ((tk,tv)::trs):=fun pins s σ H Q I h=>
 pairTrees_cons_walk (dg (hk pins s σ H _ I h) fun u s1 ⟨x,H1,I1,rx,q1⟩=>dg (hv pins s1 σ H1 _ I1 q1) fun w2 s2 ⟨y,H2,I2,ry,q2⟩=>
  dg (hr pins s2 σ H2 _ I2 q2) fun ws s3 ⟨ps,H3,I3,rel,q3⟩=>⟨(x,y)::ps,H3,I3,.cons ⟨rx,ry⟩ rel,q3⟩)
noncomputable def jc(kvs more:List (bC×V)):List (bC×V):=more.foldl (fun acc kv=>uN acc kv.1 kv.2) kvs
theorem KV.merge:∀ {more:List (bC×V)} {rs:List (bC×Value)} {kvs:List (bC×V)} {vs:List (bC×Value)},KV more rs->KV kvs vs->KV (jc kvs more) (merged vs rs):=by
 intro more rs kvs vs r
 unfold KV at r
 induction r generalizing kvs vs with
 | nil=>intro q;exact q
 | @cons p q ps qs h t ih=>
  intro r0
  have e:KV (uN kvs p.1 p.2) (stored vs q.1 q.2):=by
   have:=r0.put p.1 h.2
   rw [<- h.1];exact this
  exact ih e
theorem jQ:∀ (more kvs:List (bC×V)),(jc kvs more).length<=kvs.length+more.length
 | [],kvs=>by show kvs.length<=kvs.length+0;omega
 | p::r,kvs=>by
  have h1:=jQ r (uN kvs p.1 p.2)
  have h2:=AV kvs p.1 p.2
  show (jc (uN kvs p.1 p.2) r).length<=_
  rw [List.length_cons];omega
theorem ut{P:Program}{w:World}:∀ {kvs:List (bC×V)} {ws:List (Value×Value)},VV (kvs.map fun kv=>(kV kv.1,kv.2)) ws->∃ rs,Carries (ca P w) ws rs/\KV kvs rs
 | [],_,r=>by rw [List.map_nil] at r;cases r;exact⟨[],True.intro,.nil⟩
 | p::kvs,_,r=>by
  rw [List.map_cons] at r
  cases r with
  | @cons a b as bs h t=>
   obtain⟨rs,c,q⟩:=ut (P:=P) (w:=w) t
   obtain⟨b1,b2⟩:=b
   exact⟨(p.1,b2)::rs,⟨vZ h.1,rfl,c⟩,.cons ⟨rfl,h.2⟩ q⟩
def tDisp(trs:List (TE×TE)):TE:=fun σ H Q=>∀ p,H p=none->wW trs σ (upd H p (.dK [])) fun ps H2=>H2 p=some (.dK [])/\∃ kvs:List (bC×V),ps=kvs.map (fun kv=>(kV kv.1,kv.2))/\kvs.length<=15/\Q (.ref p) (upd H2 p (.dK (jc [] kvs)))
theorem EA{X:Cx}{pos:Pos}{keys:List (Option Expr)}{values:List Expr}{trs:List (TE×TE)}(h:PPs X pos keys values trs)(hall:keys.all (·.isSome)=true)(hl:keys.length=values.length)(h0:keys≠[])
  (h15:keys.length<=15):PE X (.Dict keys values pos) (tDisp trs):=by
 intro pins s σ H Q I q
 have hn:=I.hok.fresh (Nat.le_refl s.heap.objs.size)
 have I1:=I.laid (a:=s.heap.objs.size) (o:=.dK []) (h':=s.heap.push { cls:=.type "dict",data:=.dict #[] }) (t':=s.toks) (fun _ _ q=>Heap.get?_push_of_some _ q) (Nat.le_refl _) (BD s.heap I.big)
 refine wpAny_Dict_walk (knd:=ca X.prog X.w) hall hl h0 h15 (dg (h pins _ σ _ _ I1 (q _ hn)) fun ws s2 ⟨ps,H2,I2,rel,e,kvs,ep,lk,q2⟩=>?_)
 subst ep
 obtain⟨rs,c,rk⟩:=ut (P:=X.prog) (w:=X.w) rel
 obtain⟨z,hd,vs0,r0,dd⟩:=LQ I2.hok e
 cases r0
 refine⟨rs,c,dd,fun h' dd' hs=>⟨.ref s.heap.objs.size,_,?_,rfl,q2⟩⟩
 have hz:(jc [] kvs).length<=sizeLine:=by
  have h1:=jQ kvs []
  rw [List.length_nil] at h1
  rw [sizeLine_eq];omega
 have he:∃ q,h'.get? s.heap.objs.size=some q:=let ⟨q,_,_,hq,_⟩:=dd';⟨q,hq⟩
 exact FD I2 (by rw [e];exact True.intro) hs he (LR hz hd (rk.merge .nil) dd')
def IsD(H:Hp)(a:Addr):Prop:=(∃ kvs,Rd H a (.dK kvs))\/∃ kvs,Rd H a (.dT kvs)
theorem SG{X:Cx}{pins:List (Addr×Obj)}{σ:St}{H:Hp}{s:Shared}{a:Addr}(I:Inv X pins σ H s)(d:IsD H a) :
  s.TypeIs (.ref a) "dict"/\(∀ b,Value.ref a=.ref b->∃ ob,s.heap.get? b=some ob/\ob.dict=none)/\(a == sysModules)=false:=by
 rcases d with ⟨kvs,e⟩ | ⟨kvs,e⟩
 ·obtain⟨_,hd,vs,_,dd⟩:=FA I.hok e
  refine⟨dd.typeIs,fun b q=>?_,hd⟩
  cases q
  obtain⟨ob,_,_,h1,h2,_⟩:=dd
  exact⟨ob,h1,h2.2.1⟩
 ·obtain⟨_,hd,xs,_,dd⟩:=LD I.hok e
  refine⟨dd.typeIs,fun b q=>?_,hd⟩
  cases q
  obtain⟨ob,_,_,h1,h2,_⟩:=dd
  exact⟨ob,h1,h2.2.1⟩
section
variable{X:Cx}{pins:List (Addr×Obj)}{σ:St}{H:Hp}{s:Shared}{a:Addr}{y d:V}{u r:Value}{o:Option V}{A:Around}{E:Value->Shared->Prop}
end
section
variable{X:Cx}{o e f:Expr}{apos cpos:Pos}{td ty tx:TE}
end
section
variable{X:Cx}{pins:List (Addr×Obj)}{σ:St}{H:Hp}{s:Shared}{a:Addr}{kvs:List (bC×V)}{A:Around}{E:Value->Shared->Prop}
end
section
variable{X:Cx}{pins:List (Addr×Obj)}{σ:St}{H:Hp}{s:Shared}{a:Addr}{y:V}{u:Value}{A:Around}{E:Value->Shared->Prop}
end
end L2
namespace Att
open PySem PySem.W PySem.Calls PyProof.Rows
theorem rj{P:Params}{h:Heap}:∀ (ns:List Int) (vs:List Value),WellAll P h vs (ns.map WData.int)->IntsAre vs ns:=by
 intro ns
 induction ns with
 | nil=>
  intro vs w
  rw [List.map_nil] at w
  cases w
  exact .nil
 | cons n ns ih=>
  intro vs w
  rw [List.map_cons] at w
  cases w with
  | cons a b=>
   cases a
   exact .cons _ _ (ih _ b)
theorem Gd{l:OpenLaw}{n:Nat}(hn:l.most=some n){P:Params}{h:Heap}{args:List WData}{vals:List Value}
  (hpre:l.row.toRowW.claim.pre args=true) (hwl:WellAll P h vals args) :
  ∃ a vs ns,vals=[Value.ref a]/\args=[WData.list (ns.map WData.int)]/\h.get? a=some { cls:=.type "list",data:=.seq vs.toArray }/\IntsAre vs ns/\ns.length<=n:=by
 have hsh:WShape.hasAll [] args [.list .int]=true:=(pre_splitW hpre).1
 have hc:l.pre.holds [] { args:=args } = true:=(pre_splitW hpre).2
 obtain⟨d,r,rfl,h1,h2⟩:=hasAllW_cons hsh
 obtain rfl:=hasAllW_nil h2
 obtain⟨xs,rfl,h3⟩:=hasW_list h1
 obtain⟨ns,rfl⟩:=items_int h3
 have hlen:ns.length<=n:=by
  unfold OpenLaw.pre at hc
  have h4:(WTm.not (.lt (.lit (.int (n:Int))) (.len (.arg 0)))).holds [] { args:=[.list (ns.map .int)] } = true:=by
   have h4:=(holds_andW hc).1
   rw [hn] at h4
   exact h4
  have h5:=condW_of h4 (w_not (w_lt w_lit (w_len_list (w_arg rfl))))
  rw [List.length_map] at h5
  refine Nat.le_of_not_lt fun q=>?_
  have q':(n:Int)<((ns.length:Nat):Int):=by omega
  first
   | (rw [decide_eq_true q'] at h5;exact absurd h5 (by decide))
   | (simp at h5;omega)
 cases hwl with
 | cons w1 w2=>
  cases w2
  cases w1 with
  | list ho hall=>exact⟨_,_,ns,rfl,rfl,ho,rj ns _ hall,hlen⟩
theorem Gn(l:OpenLaw)(args:List WData):l.row.toRowW.claim.post args (.bool true) args=true:=
 postW_of (r:=l.row.toRowW) (X:=(true == true))
  (show WShape.has [] (.bool true) .bool=true by first | rfl | decide | simp [WShape.has,WShape.arms,WShape.armsAll])
  (show (WTm.eq .res (.lit (.bool true))).value [] { args:=args,res:=some (.bool true),after:=args } = some (.bool (true == true)) from w_eq_bool (w_res rfl) w_lit) rfl
theorem BP{l:OpenLaw}{n:Nat}{q:Program}{loose:List Str}{XP:(Str->Option Value)->Heap->Prop}{YP:World->Heap->Prop}{d:DefRec}
  (hn:l.most=some n) (hdf:d.params.defaults=[])
  (call:∀ (w:World) (s₀ s₁:Shared) (mg mb:Str->Option Value) (fa:Addr) (o:Obj) (pm cd doc:Value) (a:Addr) (vs:List Value) (ns:List Int),
   Ground q loose [] XP w s₀ mg mb s₁.heap->YP w s₁.heap ->
   s₁.heap.get? fa=some o->o.data=.func (docDef d.name d.params d.body d.scope pm cd doc)->s₁.heap.CodeRec cd d.name->mg d.name=some (.ref fa) ->
   s₁.heap.get? a=some { cls:=.type "list",data:=.seq vs.toArray }->IntsAre vs ns->ns.length<=n->s₁.gens = #[] ->
   codeAny (model l.prog w) callerA (.call (.ref fa) ⟨[.ref a],[]⟩) (fun r s'=>r=.ok (.ret (.bool true))/\OldK s₁.heap s'.heap/\s'.os=s₁.os/\AllBare s'.gens) s₁) :
  WalkO q loose XP YP l.row.toRowW d [] (fun f vs=>PySem.call f vs):=by
 intro w s₀ s₁ mg mb G Y fa o pm cd doc dV kV ho hd hcd hD hmg hg args vals as hpre hlay hrd hwl hlo
 obtain rfl:dV=.none:=Dflts.none hD hdf
 obtain rfl:kV=.none:=Dflts.noKw hD
 obtain⟨a,vs,ns,rfl,rfl,hobj,hints,hlen⟩:=Gd hn hpre hwl
 refine enter_call (codeAny_mono (call w s₀ s₁ mg mb fa o pm cd doc a vs ns G Y ho (fd_plain hd) hcd hmg hobj hints hlen hg) fun r s' hq=>?_)
 obtain⟨rfl,h2,h3,h4⟩:=hq
 exact⟨.inl ⟨.bool true,.bool true,[],rfl,fun _=>rfl,.bool true,Gn l _,fun _=>⟨List.Pairwise.nil,fun _ hm=>(nomatch hm)⟩⟩,h2,h3,h4⟩
section
variable{prog:Program}{w:World}{A:Around}{E:Value->Shared->Prop}{s:Shared}{K:Frag}
end
end Att
namespace L2
open PySem PySem.Spec PyProof.Rows
theorem vw:∀ {vs:List Value} {ns:List Int},IntsAre vs ns->Vals (ns.map V.int) vs
 | _,_,.nil=>.nil
 | _,_,.cons n t h=>.cons ⟨t,rfl⟩ (vw h)
def Uq(H:Hp):Prop:=∀ b,H b=none\/∃ o xs,H b=some (.frz o (.lst xs))
theorem Km{P:Program}{w:World}{K:PySem.W.Frag}{mg mb:Str->Option Value}{CX:Ip}{k:Nat}{fa a:Addr}{fd:FuncData}{x:Str}{sp:Sp}{s₁:Shared}{vs:List Value}{ns:List Int}
  (KX:K.In s₁.heap) (hns:s₁.heap.Ns mainGlobals mg) (hb:s₁.heap.Ns builtinsNs mb) (hbb:∀ x:Str,x ≠ "__name__"->mb x=bootBuiltins x) (hlim:s₁.heap.NoLimit) (hg:s₁.gens = #[])
  (ha:s₁.heap.get? a=some { cls:=.type "list",data:=.seq vs.toArray }) (hi:IntsAre vs ns) (hl:ns.length<=sizeLine) (hr:Room k callerA)
  (F:∀ base:Heap,K.In base->base.Ns mainGlobals mg->FnOk P w K mg base CX k fa fd [x] sp) (hbind:∀ (s:Shared) (u:Value),BindsTo s fd ⟨[u],[]⟩ [(x,u)])
  (hsp:∀ H:Hp,Uq H->nE K H a (ns.map V.int)->sp [.ref a] H (fun v _=>v=.bl true) fun _ _ _=>False)
  (hCX:∀ H e s',CX [] H s₁ (fun _ _ _=>False) e s'->False) :
  codeAny (model P w) callerA (.call (.ref fa) ⟨[.ref a],[]⟩) (fun r s'=>r=.ok (.ret (.bool true))/\OldK s₁.heap s'.heap/\s'.os=s₁.os/\AllBare s'.gens) s₁:=by
 have rv:=vw hi
 have lenV:=hi.length
 have core:∀ H:Hp,Uq H->nE K H a (ns.map V.int)->HOk P w H s₁.heap->(∀ b,H b≠none->b=a)->(H a≠none->K.lookup a=none) ->
   codeAny (model P w) callerA (.call (.ref fa) ⟨[.ref a],[]⟩) (fun r s'=>r=.ok (.ret (.bool true))/\OldK s₁.heap s'.heap/\s'.os=s₁.os/\AllBare s'.gens) s₁:=by
  intro H hO hS hok hA hK
  have base_of:∀ {b:Addr} {o:Obj},s₁.heap.get? b=some o->H b=none->(yF s₁.heap H).get? b=some o:=fun e n=>KG e n
  have noA:∀ {b:Addr} {o:Obj} {es:Array DictEntry} {ep:Nat},s₁.heap.get? b=some o->o.data=.dict es ep->H b=none:=fun {b o es ep} e d=>by
   cases q:H b with
   | none=>rfl
   | some u=>
    have e':b=a:=hA b (by rw [q];simp)
    subst e'
    rw [ha] at e;cases e
    have d':Data.seq vs.toArray _=Data.dict es ep:=d
    cases d'
  have nsK:∀ {b:Addr} {m:Str->Option Value},s₁.heap.Ns b m->(yF s₁.heap H).Ns b m:=fun {b m} ⟨o,es,ep,e,d,r⟩=>⟨o,es,ep,base_of e (noA e d),d,r⟩
  have hKb:K.In (yF s₁.heap H):=fun b o e=>base_of (KX b o e) (by
   cases q:H b with
   | none=>rfl
   | some u=>
    have e':b=a:=hA b (by rw [q];simp)
    subst e'
    rw [hK (by rw [q];simp)] at e;cases e)
  have hM:Mod K mg (yF s₁.heap H):=⟨hKb,nsK hns,⟨mb,nsK hb,hbb⟩,let ⟨mc,h1,h2⟩:=hlim;⟨mc,nsK h1,h2⟩⟩
  have e0:Py P w K mg (yF s₁.heap H) callerA [] s₁ H:=⟨rfl,hM,fun b o e=>NN e,Nat.le_of_eq (Hi _ _),trivial,fun b hb=>absurd (show b∈([]:List Addr) from hb) (by simp),hok,.of_eq hg⟩
  refine codeAny_mono ((F _ hKb (nsK hns)).run callerA [] s₁ H ⟨[.ref a],[]⟩ [.ref a] [.ref a] _ _ hr e0 (hbind s₁ (.ref a)) (.cons rfl .nil) (hsp H hO hS)) fun r s' h=>?_
  cases r with
  | error e=>exact(hCX H e s' h).elim
  | ok fl=>
   cases fl with
   | next=>exact False.elim h
   | brk=>exact False.elim h
   | cont=>exact False.elim h
   | ret u=>
    obtain⟨v,H',os,bare,un,hok',r',q⟩:=h
    have q':v=.bl true:=q
    subst q'
    obtain rfl:u=Value.bool true:=r'
    refine⟨rfl,OldK.of_keep fun b o e=>?_,os,bare⟩
    cases q:H b with
    | none=>exact un.keep b o e q (by intro z;exact absurd (show b∈([]:List Addr) from z) (by simp)) (by simp)
    | some u=>
     rcases hO b with z | ⟨ob,xs,z⟩
     ·rw [q] at z;cases z
     ·have z2:=un.frzs b ob _ z
      obtain⟨e1,_⟩:=hok b _ z
      obtain⟨e2,_⟩:=hok' b _ z2
      rw [e] at e1;cases e1
      exact e2
 cases hk:K.lookup a with
 | some o=>
  have e:=KX a o hk
  rw [ha] at e
  cases e
  refine core (fun _=>none) (fun _=>.inl rfl) (.inr ⟨_,vs.toArray,_,hk,rfl,rfl,rfl,by rw [List.size_toArray,lenV];exact hl,by simpa using rv⟩) (fun b u z=>by have z':(none:Option HO)=some u:=z;cases z') (fun b z=>absurd rfl z) fun z=>absurd rfl z
 | none=>
  refine core (fun b=>if b=a then some (.frz { cls:=.type "list",data:=.seq vs.toArray } (.lst (ns.map V.int))) else none) (fun b=>?_) (.inl (.inr ⟨{ cls:=.type "list",data:=.seq vs.toArray },if_pos rfl⟩)) (fun b u z=>?_) (fun b z=>?_) fun _=>hk
  ·by_cases hb:b=a
   ·exact .inr ⟨_,_,if_pos hb⟩
   ·exact .inl (if_neg hb)
  ·by_cases hb:b=a
   ·have z':=(if_pos hb).symm.trans z
    cases z'
    subst hb
    exact⟨ha,by rw [List.length_map];exact hl,vs,_,rv,ha⟩
   ·have z':=(if_neg hb).symm.trans z
    cases z'
  ·by_cases hb:b=a
   ·exact hb
   ·exact absurd (if_neg hb) z
end L2
namespace L2
open PySem PySem.Spec PyProof.Rows
theorem Mz{l:PySem.W.OpenLaw}{n k:Nat}{q:Program}{loose:List Str}{XP:(Str->Option Value)->Heap->Prop}{YP:World->Heap->Prop}{d:DefRec}{K:Params->PySem.W.Frag}{CX:World->Ip}{sp:World->Sp}{x:Str}
  (hn:l.most=some n) (hn2:n<=sizeLine) (hdf:d.params.defaults=[]) (hr:Room k callerA)
  (hY:∀ (w:World) (h:Heap),YP w h->(K w.params).In h)
  (F:∀ (w:World) (mg:Str->Option Value) (fa:Addr) (h:Heap),(K w.params).In h->h.Ns mainGlobals mg->mg d.name=some (.ref fa) ->
   ∃ fd:FuncData,(∀ (s:Shared) (u:Value),BindsTo s fd ⟨[u],[]⟩ [(x,u)]) /\
    ∀ base:Heap,(K w.params).In base->base.Ns mainGlobals mg->FnOk l.prog w (K w.params) mg base (CX w) k fa fd [x] (sp w))
  (hsp:∀ (w:World) (H:Hp) (a:Addr) (ns:List Int),ns.length<=n->Uq H->nE (K w.params) H a (ns.map V.int)->sp w [.ref a] H (fun v _=>v=.bl true) fun _ _ _=>False)
  (hCX:∀ (w:World) (H:Hp) (s:Shared) (e:Value) (s':Shared),CX w [] H s (fun _ _ _=>False) e s'->False) :
  PySem.W.WalkO q loose XP YP l.row.toRowW d [] (fun f vs=>PySem.call f vs):=by
 refine Att.BP hn hdf fun w s₀ s₁ mg mb fa o pm cd doc a vs ns G Y ho hd hcd hmg hobj hints hlen hg=>?_
 have KX:=hY w _ Y
 obtain⟨fd,hb,hF⟩:=F w mg fa _ KX G.T.g hmg
 exact Km KX G.T.g G.T.b G.T.builtins G.T.nolimit hg hobj hints (Nat.le_trans hlen hn2) hr hF hb (fun H hO hS=>hsp w H a ns hlen hO hS) fun H e s'=>hCX w H s₁ e s'
end L2
namespace L2
open PySem PySem.Spec PyProof.Rows
noncomputable def iO(s:Stmt):Arguments:=match s with
 | .FunctionDef _ a _ _ _ _ _ _ _ _=>a
 | _=>{ posonlyargs:=[],args:=[],vararg:=none,kwonlyargs:=[],kw_defaults:=[],kwarg:=none,defaults:=[] }
noncomputable def aK(s:Stmt):List Stmt:=match s with
 | .FunctionDef _ _ b _ _ _ _ _ _ _=>b
 | _=>[]
noncomputable def au(s:Stmt):Scope:=match s with
 | .FunctionDef _ _ _ _ _ _ sc _ _ _=>sc
 | _=>{ kind:=.function,names:=[],isGenerator:=false,isCoroutine:=false }
noncomputable abbrev FL:Ip:=fun _ _ _ _ _ _=>False
noncomputable abbrev E0:XK:=fun _ _ _=>False
theorem JF{X:Cx}:zi FL X E0:=fun _ _ _ _ _ _ _ h=>h.elim
structure Fun(K:PySem.W.Frag)(x qual:Str)(st:Stmt)(f:Addr)(fd:FuncData):Prop where
 ex:∃ (oc:Value) (od:Option Addr) (kV doc pm:Value) (an:Option Addr) (cdv ct:Value) (osl:Array (Option Value)),
  fd=PySem.W.fnOf x qual (iO st) (aK st) (au st) .none kV doc pm an cdv ct/\K.lookup f=some ⟨oc,od,.func fd,osl⟩/\PySem.W.codeIn K cdv qual=true
 kp:PySem.W.keepIn K (.ref f)=true
section
variable{P:Program}{w:World}{K:PySem.W.Frag}{mg:Str->Option Value}{base:Heap}
theorem Fun.ok{x qual:Str}{st:Stmt}{f:Addr}{fd:FuncData}{N ps:List Str}{k:Nat}{sp:Sp}(F:Fun K x qual st f fd)(S:aS N ps (au st))(len:∀ vs H Q E,sp vs H Q E->vs.length=ps.length)
  (hbody:∀ (cdv:Value) (A:Around) (outer:List Env) (s:Shared) (H:Hp) (vs:List V) (Q:VK) (E:XK),Room k (A.deeper (envOfC qual (au st) s.heap.objs.size f cdv))->sp vs H Q E ->
   ∃ t,PSs (vk FL P w K mg base N qual (au st) f cdv A outer s H E).nox (aK st) t/\t { nx:=fun _ H'=>Q .non H',rt:=Q } (start N vs) H):FnOk P w K mg base FL (k+1) f fd ps sp:=by
 obtain⟨oc,od,kV,doc,pm,an,cdv,ct,osl,rfl,lk,hcd⟩:=F.ex
 refine fn_of lk hcd S len fun A outer s H vs Q E hr hsp=>?_
 obtain⟨t,h,q⟩:=hbody cdv A outer s H vs Q E hr hsp
 exact⟨t,h.nox,q⟩
theorem Fun.binds{x qual:Str}{st:Stmt}{f:Addr}{fd:FuncData}{ps:List Str}(F:Fun K x qual st f fd)
  (h:∀ (kV doc pm:Value) (an:Option Addr) (cdv ct:Value) (us:List Value),us.length=ps.length->bindArgs (PySem.W.fnOf x qual (iO st) (aK st) (au st) .none kV doc pm an cdv ct) ⟨us,[]⟩=pure (ps.zip us)):Binds K fd ps []:=by
 obtain⟨oc,od,kV,doc,pm,an,cdv,ct,osl,rfl,lk,hcd⟩:=F.ex
 exact .all (h kV doc pm an cdv ct)
theorem SJ{x qual:Str}{st:Stmt}{f:Addr}{oc:Value}{od an:Option Addr}{osl:Array (Option Value)}{kV doc pm cdv ct:Value}(l:K.lookup f=some ⟨oc,od,.func (PySem.W.fnOf x qual (iO st) (aK st) (au st) .none kV doc pm an cdv ct),osl⟩)
  (c:PySem.W.codeIn K cdv qual=true) (k:PySem.W.keepIn K (.ref f)=true):Fun K x qual st f (PySem.W.fnOf x qual (iO st) (aK st) (au st) .none kV doc pm an cdv ct):=⟨⟨oc,od,kV,doc,pm,an,cdv,ct,osl,rfl,l,c⟩,k⟩
end
section
variable{X:Cx}
end
section
variable{κ:Type}[DecidableEq κ]
end
end L2
namespace L2
open PySem PySem.Spec PyProof.Rows
noncomputable def mH(cells:List (Str×Addr)):List (Str×NameKind)->List (Str×Addr)->List (Str×Addr)
 | [],acc=>acc
 | (n,k)::r,acc=>if k == .free then mH cells r ((n,(cells.lookup n).getD 0)::acc) else mH cells r acc
theorem iB{env:Env}:∀ (names:List (Str×NameKind)) (acc:List (Str×Addr)),(∀ x∈names,x.2=.free->(env.cells.lookup x.1).isSome=true) ->
  (forIn names acc fun(x:Str×NameKind) (r:List (Str×Addr))=>(do
   if x.2 == .free then do let c <- cellOf env x.1;pure (ForInStep.yield ((x.1,c)::r)) else pure (ForInStep.yield r):Sem (ForInStep (List (Str×Addr)))))=pure (mH env.cells names acc)
 | [],acc,_=>rfl
 | (n,k)::r,acc,h=>by
  rw [List.forIn_cons]
  cases hk:k == NameKind.free with
  | true=>
   have e:k=.free:=by simpa using hk
   have hs:=h (n,k) List.mem_cons_self e
   obtain⟨c,hc⟩:=Option.isSome_iff_exists.mp hs
   have hc':env.cells.lookup n=some c:=hc
   have hce:cellOf env n=pure c:=by unfold cellOf;rw [hc']
   simp only [if_true,hce,hc',Option.getD_some,pure_bind,mH,hk]
   rw [iB r _ fun x hx=>h x (List.mem_cons_of_mem _ hx)]
  | false=>
   simp only [Bool.false_eq_true,if_false,pure_bind,mH,hk]
   exact iB r _ fun x hx=>h x (List.mem_cons_of_mem _ hx)
theorem nT{scope:Scope}{env:Env}(h:∀ x∈scope.names,x.2=.free->(env.cells.lookup x.1).isSome=true):closureFor scope env=pure (mH env.cells scope.names []):=by
 have q:=iB (env:=env) scope.names [] h
 unfold closureFor
 refine Eq.trans ?_ (Eq.trans (congrArg (fun(m:Sem (List (Str×Addr)))=>m >>= fun cs=>pure cs) q) ?_)
 ·rfl
 ·rfl
theorem qt(cells:List (Str×Addr)):∀ (names:List (Str×NameKind)) (acc:List (Str×Addr)),(∀ x∈names,x.2=.free->(cells.lookup x.1).isSome=true)->(∀ y c,acc.lookup y=some c->cells.lookup y=some c) ->
  ∀ y c,(mH cells names acc).lookup y=some c->cells.lookup y=some c
 | [],_,_,ha=>ha
 | (n,k)::r,acc,h,ha=>by
  unfold mH
  split
  ·rename_i hk
   refine qt cells r _ (fun x hx=>h x (List.mem_cons_of_mem _ hx)) fun y c e=>?_
   rw [List.lookup_cons] at e
   split at e
   ·rename_i hy
    have hy':y=n:=by simpa using hy
    subst hy'
    obtain⟨c',hc'⟩:=Option.isSome_iff_exists.mp (h (y,k) List.mem_cons_self (by simpa using hk))
    have hc'':cells.lookup y=some c':=hc'
    rw [hc''] at e ⊢
    exact e
   ·exact ha y c e
  ·exact qt cells r _ (fun x hx=>h x (List.mem_cons_of_mem _ hx)) ha
theorem ow(cells:List (Str×Addr)):∀ (names:List (Str×NameKind)) (acc:List (Str×Addr)) (y:Str),(acc.lookup y).isSome=true->((mH cells names acc).lookup y).isSome=true
 | [],_,_,h=>h
 | (n,k)::r,acc,y,h=>by
  unfold mH
  split
  ·refine ow cells r _ y ?_
   rw [List.lookup_cons]
   split
   ·rfl
   ·exact h
  ·exact ow cells r _ y h
theorem pJ(cells:List (Str×Addr)):∀ (names:List (Str×NameKind)) (acc:List (Str×Addr)) (y:Str),(y,NameKind.free)∈names->((mH cells names acc).lookup y).isSome=true
 | [],_,_,h=>by simp at h
 | (n,k)::r,acc,y,h=>by
  unfold mH
  rcases List.mem_cons.mp h with e | h
  ·cases e
   rw [if_pos (by rfl)]
   exact ow cells r _ _ (by rw [List.lookup_cons];simp)
  ·split
   ·exact pJ cells r _ y h
   ·exact pJ cells r _ y h
theorem kT{scope:Scope}{env:Env}{y:Str}:∀ {names:List (Str×NameKind)},
  ((names.map fun(n,k)=>if (k == NameKind.free&&env.scope.kind == .function&&env.kindOf n == some .cell) then (n,NameKind.cell) else (n,k)).lookup y=some .cell \/
  (names.map fun(n,k)=>if (k == NameKind.free&&env.scope.kind == .function&&env.kindOf n == some .cell) then (n,NameKind.cell) else (n,k)).lookup y=some .free) ->
  (∀ x∈names,x.2≠.cell)->(y,NameKind.free)∈names
 | [],h,_=>by simp at h
 | (n,k)::r,h,hc=>by
  have ih:=@kT scope env y r
  have hr:∀ x∈r,x.2≠.cell:=fun x hx=>hc x (List.mem_cons_of_mem _ hx)
  rw [List.map_cons] at h
  by_cases hq:(k == NameKind.free&&env.scope.kind == .function&&env.kindOf n == some .cell)=true
  ·have hk:k=.free:=by
    have:=hq
    simp only [Bool.and_eq_true] at this
    simpa using this.1.1
   simp only [hq,if_true] at h
   simp only [List.lookup_cons] at h
   cases hy:y == n with
   | true=>
    have e:y=n:=by simpa using hy
    rw [e,hk]
    exact List.mem_cons_self
   | false=>
    simp only [hy] at h
    exact List.mem_cons_of_mem _ (ih h hr)
  ·simp only [hq,Bool.false_eq_true,if_false] at h
   simp only [List.lookup_cons] at h
   cases hy:y == n with
   | true=>
    simp only [hy] at h
    have e:y=n:=by simpa using hy
    rcases h with h | h
    ·exact absurd (Option.some.inj h) (hc (n,k) List.mem_cons_self)
    ·rw [e,<- Option.some.inj h]
     exact List.mem_cons_self
   | false=>
    simp only [hy] at h
    exact List.mem_cons_of_mem _ (ih h hr)
noncomputable def nk(X:Cx)(N':List Str)(scope:Scope)(C:Addr)(s:Shared)(H:Hp)(fp:List Addr):Cx:=
 {X with N:=N',s₀:=s,H₀:=H,env:=compEnvC scope (mH X.env.cells scope.names []) C X.env,outer:=X.stack,ex:=fp,fn:=fun _=>false,pn:=[],xe:=fun _ _=>False }
def Pw(X:Cx)(ifs:List Expr)(t:TT):Prop:=
 ∀ (pins:List (Addr×Obj)) (s:Shared) (σ:St) (H:Hp) (Q:Bool->Hp->Prop),Inv X pins σ H s->t σ H Q->wpAny (model X.prog X.w) X.A (forIn ifs true fun c r=>if r=true then do let ok <- isTrue c X.env (eval c X.env);pure (ForInStep.yield ok) else pure (ForInStep.yield r)) (TP X pins σ Q) X.xe s
theorem Ni{X:Cx}:Pw X [] (fun _ H Q=>Q true H):=fun _ _ _ H _ I h=>wpAny_tests_nil ⟨H,I,h⟩
theorem Nh{X:Cx}{c:Expr}{t:TT}(h:PT X c t):Pw X [c] t:=fun pins s σ H Q I q=>wpAny_tests_one (h pins s σ H Q I q)
noncomputable def rZ(e tg:Expr)(p0:Pos)(ifs:List Expr)(d:Nat)(it acc:Value)(env:Env)(bc:Sem Unit):Sem Fin:=do
 standAt p0
 let r <- pyNext it
 match r with
 | none=>pure (Fin.done Flow.next)
 | some v=>do
  letOwnedTupleGo tg it v
  assign tg env v
  let ok <- forIn ifs true fun c r=>if r=true then do let ok <- isTrue c env (eval c env);pure (ForInStep.yield ok) else pure (ForInStep.yield r)
  if ok=true then do bc;again (.compLoop e d it acc env) else again (.compLoop e d it acc env)
noncomputable def Tj(elt:Expr)(acc:Value)(env:Env):Sem Unit:=do
 let x <- eval elt env
 let _ <- call (.builtin "list.append") [acc,x]
 pure ()
section
variable{prog:Program}{w:World}{A:Around}{R:Result->Shared->Prop}{s:Shared}
theorem mF{e elt tg:Expr}{gens:List Comprehension}{scope:Scope}{pos p0:Pos}{ifs:List Expr}{d:Nat}{it acc:Value}{env:Env}{bc:Sem Unit}(he:e=.ListComp elt gens scope pos)(htn:compTurn e d it acc env=rZ e tg p0 ifs d it acc env bc)(I:Nat->Shared->Prop)
  (turn:∀ n s,I n s->wpAny (model prog w) A (pyNext it) (fun r s₁=>match r with
   | none=>R (.ok .next) s₁
   | some v=>wpAny (model prog w) A (letOwnedTupleGo tg it v) (fun _ s₁'=>wpAny (model prog w) A (assign tg env v) (fun _ s₂=>
     wpAny (model prog w) A (forIn ifs true fun c r=>if r=true then do let ok <- isTrue c env (eval c env);pure (ForInStep.yield ok) else pure (ForInStep.yield r)) (fun ok s₃=>
      if ok=true then wpAny (model prog w) A bc (fun _ s₅=>∃ m,m<n/\I m s₅) (fun _ _=>False) s₃
      else ∃ m,m<n/\I m s₃) (fun _ _=>False) s₂) (fun _ _=>False) s₁') (fun _ _=>False) s₁) (fun _ _=>False) s)
  (n:Nat) (h:I n s) :
  codeAny (model prog w) A (.compLoop e d it acc env) R s:=by
 refine codeAny_loop rfl I (fun n s hI=>?_) n h
 subst he
 show wpAny _ A ((compTurn (.ListComp elt gens scope pos) d it acc env).onRaise (fun x=>do noteFrame x env;theTreesLotGoes x)) _ _ s
 refine wpAny_noted ?_
 rw [htn]
 refine wpAny_bind (wpAny_standAt (wpAny_bind (wpAny_mono (turn n s hI) (fun r s₁ h₁=>?_) fun _ _ h'=>h'.elim)))
 cases r with
 | none=>exact wpAny_pure h₁
 | some v=>
  refine wpAny_bind (wpAny_mono h₁ (fun _ s₁' h₁'=>?_) fun _ _ h'=>h'.elim)
  refine wpAny_bind (wpAny_mono h₁' (fun _ s₂ h₂=>wpAny_bind (wpAny_mono h₂ (fun ok s₃ h₃=>?_) fun _ _ h'=>h'.elim)) fun _ _ h'=>h'.elim)
  cases ok with
  | false=>exact wpAny_pure ⟨rfl,h₃⟩
  | true=>exact wpAny_bind (wpAny_mono h₃ (fun _ s₅ h₅=>wpAny_pure ⟨rfl,h₅⟩) fun _ _ h'=>h'.elim)
end
abbrev TB:=St->Hp->(St->Hp->Prop)->Prop
def PB(X:Cx)(m:Sem Unit)(tb:TB):Prop:=
 ∀ (pins:List (Addr×Obj)) (s:Shared) (σ:St) (H:Hp) (Q:St->Hp->Prop),Inv X pins σ H s->tb σ H Q->wpAny (model X.prog X.w) X.A m (fun _ s'=>∃ σ' H',Inv X pins σ' H' s'/\Q σ' H') X.xe s
def tEm(te:TE)(p:Addr):TB:=fun σ H Q=>te σ H fun y H5=>∃ ys,H5 p=some (.lst ys)/\ys.length<sizeLine/\Q σ (upd H5 p (.lst (ys++[y])))
theorem EC{X:Cx}{elt:Expr}{te:TE}{p:Addr}(he:PE X elt te):PB X (Tj elt (.ref p) X.env) (tEm te p):=fun pins s σ H Q I h=>by
 refine wpAny_bind (dg (he pins s σ H _ I h) fun xv s8 ⟨y,H8,J8,r8,q8⟩=>?_)
 obtain⟨ys,hy,hz,q9⟩:=q8
 refine wpAny_bind (dg (vM _ s8 σ H8 (.ref p) [y] (.ref p) [xv] (fun _ H9=>H9=upd H8 p (.lst (ys++[y]))) J8 rfl (.cons r8 .nil) ⟨_,ys,y,rfl,rfl,hy,hz,rfl⟩) fun _ s9 ⟨_,H9,J9,_,e9⟩=>?_)
 subst e9
 exact wpAny_pure ⟨_,_,J9,q9⟩
def IH(J:It)(g:TG)(tt:TT)(tb:TB)(σ:St)(H:Hp)(Q:St->Hp->Prop):Prop:=∃ W:Nat->Nat->St->Hp->Prop,(∃ m,W 0 m σ H)/\∀ i m σ' H',W i m σ' H' ->
 (J.stop i H'/\Q σ' H')\/(J.go i H'/\∀ x H2,J.yld i H' x H2->g x σ' H2 fun σ2 H3=>tt σ2 H3 fun ok H4=>
  if ok=true then tb σ2 H4 fun σ3 H5=>∃ m',m'<m/\W (i+1) m' σ3 H5 else ∃ m',m'<m/\W (i+1) m' σ2 H4)
theorem HU{X:Cx}{e elt tg:Expr}{gens:List Comprehension}{scope:Scope}{pos p0:Pos}{ifs:List Expr}{d:Nat}{acc:Value}{bc:Sem Unit}{g:TG}{tt:TT}{tb:TB}{it:Addr}{fp:List Addr}{tn:Nat->Heap->Prop}{J:It}
  (hc:X.calm=true) (hx:∀ e s,X.xe e s->False) (hl:e=.ListComp elt gens scope pos) (htn:compTurn e d (.ref it) acc X.env=rZ e tg p0 ifs d (.ref it) acc X.env bc) (hg:PG X tg g) (ht:Pw X ifs tt) (hb:PB X bc tb) (T:El X.prog X.w X.K tg J fp it tn)
  {pins:List (Addr×Obj)} {s:Shared} {σ:St} {H:Hp} {Q:St->Hp->Prop} (I:Inv X pins σ H s) (st:tn 0 s.heap) (f2:∀ b∈fp,qx X pins H b) (h:IH J g tt tb σ H Q) :
  codeAny (model X.prog X.w) X.A (.compLoop e d (.ref it) acc X.env) (fun r s'=>∃ σ' H',r=.ok .next/\Inv X pins σ' H' s'/\Q σ' H') s:=by
 obtain⟨W,⟨m0,w0⟩,turn⟩:=h
 have no:∀ e s,X.xe e s->(fun(_:Value) (_:Shared)=>False) e s:=hx
 have stat:∀ {H':Hp},(∀ b∈fp,H' b=none)->∀ b∈fp,qx X pins H' b:=fun hn b hb=>⟨hn b hb,(f2 b hb).2⟩
 refine mF hl htn (fun n s'=>∃ i σ' H',Inv X pins σ' H' s'/\tn i s'.heap/\(∀ b∈fp,H' b=none)/\W i n σ' H') ?_ m0 ⟨0,_,_,I,st,fun b hb=>(f2 b hb).1,w0⟩
 rintro n s3 ⟨i,σ3,H3,J3,st3,fr3,w3⟩
 rcases turn i n σ3 H3 w3 with ⟨stop,qn⟩ | ⟨go,step⟩
 ·refine dg (T.done X rfl rfl rfl hc i pins s3 σ3 H3 _ J3 (stat fr3) st3 stop) fun r s4 ⟨hr,J4⟩=>?_
  subst hr
  exact⟨σ3,H3,rfl,J4,qn⟩
 ·refine dg (T.item X rfl rfl rfl hc i pins s3 σ3 H3 _ J3 (stat fr3) st3 go) fun r s4 ⟨u,hr,h4⟩=>?_
  subst hr
  refine dg h4 fun _ s5 ⟨x,H5,J5,r5,y5,st5,fr5⟩=>?_
  have J5':=J5.pinned (stat fr5) (T.obj _ _ st5)
  refine wpAny_mono (hg _ s5 σ3 H5 x u _ J5' r5 (step x H5 y5)) (fun _ s6 ⟨σ6,H6,J6,q6⟩=>?_) no
  refine wpAny_mono (ht _ s6 σ6 H6 _ J6 q6) (fun ok s7 ⟨H7,J7,q7⟩=>?_) no
  have again:∀ {s':Shared} {σ7:St} {H7:Hp},Inv X (pins++sA fp s5.heap) σ7 H7 s'->(∃ m',m'<n/\W (i+1) m' σ7 H7)->∃ m,m<n/\∃ i σ' H',Inv X pins σ' H' s'/\tn i s'.heap/\(∀ b∈fp,H' b=none)/\W i m σ' H':=fun {s' σ7 H7} J7 n7=>by
   obtain⟨m',hm,w7⟩:=n7
   refine⟨m',hm,i+1,σ7,H7,J7.unpinned,T.keep _ _ _ st5 fun b hb o e=>(J7.pin (b,o) (List.mem_append_right _ (List.mem_append_right _ (lc hb e)))).1,fun b hb=>?_,w7⟩
   obtain⟨o,e,d⟩:=T.obj _ _ st5 b hb
   exact(J7.pin (b,o) (List.mem_append_right _ (List.mem_append_right _ (lc hb e)))).2.1
  cases ok with
  | false=>
   rw [if_neg Bool.false_ne_true] at q7 ⊢
   exact again J7 q7
  | true=>
   rw [if_pos rfl] at q7 ⊢
   exact wpAny_mono (hb _ s7 σ6 H7 _ J7 q7) (fun _ s9 ⟨σ9,H9,J9,q9⟩=>again J9 q9) no
structure BlockOk(X:Cx)(N':List Str)(scope:Scope)(cap:List (Option Nat)):Prop where
 kind:scope.kind=.function
 nocell:∀ x∈scope.names,x.2≠.cell
 names:∀ x∈scope.names,x.2=.local->scope.names.lookup x.1=some .local
 free:∀ x∈scope.names,x.2=.free->(X.env.kindOf x.1=some .cell\/X.env.kindOf x.1=some .free)
 nd:N'.Nodup
 len:cap.length=N'.length
 cap:∀ (j i:Nat),cap[j]?=some (some i)->∃ y,N'[j]?=some y/\X.N[i]?=some y/\Uj X.env.scope y/\(X.env.kindOf y=some .cell\/X.env.kindOf y=some .free)/\((relabel scope X.env).names.lookup y=some .cell\/(relabel scope X.env).names.lookup y=some .free)
noncomputable def σB(cap:List (Option Nat))(σ:St):St:=cap.map fun o=>o.bind fun i=>(σ[i]?).join
section
variable{X:Cx}{pins:List (Addr×Obj)}{σ:St}{H:Hp}{s:Shared}{N':List Str}{scope:Scope}{cap:List (Option Nat)}{C:Addr}{fp:List Addr}
theorem BlockOk.cells(B:BlockOk X N' scope cap)(ok:X.Ok):∀ x∈scope.names,x.2=.free->(X.env.cells.lookup x.1).isSome=true:=fun x hx hf=>by
 obtain⟨c,e⟩:=ok.has x.1 (B.free x hx hf)
 rw [e];rfl
theorem BlockOk.cl(B:BlockOk X N' scope cap)(ok:X.Ok):∀ y c,(mH X.env.cells scope.names []).lookup y=some c->X.env.cells.lookup y=some c:=
 qt _ _ _ (B.cells ok) fun y c e=>by simp at e
theorem Inv.notStk(I:Inv X pins σ H s){b:Addr}(h1:b≠X.env.locals)(h2:b ∉ X.fs):b ∉ Io X.stack:=fun z=>(List.mem_cons.mp (I.stkSub b z)).elim h1 h2
theorem Inv.block{h4:Heap}{tk:Nat}{m0:Str->Option Value}(I:Inv X pins σ H s)(B:BlockOk X N' scope cap)(hfp:∀ b∈fp,qx X pins H b/\b<s.heap.objs.size)(hC:s.heap.objs.size<=C)
  (hk:∀ b o,s.heap.get? b=some o->h4.get? b=some o) (hn:h4.Ns C m0):Inv (nk X N' scope C s H fp) [] (σB cap σ) H { s with heap:=h4,toks:=tk }:=by
 have okX:=I.ok
 have hcl:=B.cl okX
 have cellC:∀ x c,(mH X.env.cells scope.names []).lookup x=some c->∃ v,s.heap.IsCell c v:=fun x c e=>I.cell x c (hcl x c e)
 have neC:∀ b o,s.heap.get? b=some o->b≠C:=fun b o e=>Nat.ne_of_lt (Nat.lt_of_lt_of_le (Heap.lt_size e) hC)
 refine⟨⟨okX.mod,B.kind,okX.glob,okX.blt,hC,fun x y c e1 e2=>okX.inj x y c (hcl x c e1) (hcl y c e2),fun x hx=>?_,fun x c e _=>(by cases e),okX.hd,okX.frames,.inl rfl,fun b hb=>⟨fun z=>?_,fun x c e z=>?_⟩,fun b o e=>I.bs b o e,Nat.le_trans okX.bsz I.sz,fun b o e hb=>?_,fun b hb z=>?_,I.stack,I.stkFree⟩,
  rfl,I.bare,Un.kept hk,⟨m0,hn,fun j y v e1 e2 e3=>?_⟩,fun x c e=>?_,I.hok.fresh hC,fun x c e=>I.freeC x c (hcl x c e),fun p hp=>absurd (show p∈([]:List (Addr×Obj)) from hp) (by simp),I.hok.kept hk,?_⟩
 ·have q:=kT (scope:=scope) (env:=X.env) (y:=x) (names:=scope.names) hx B.nocell
  exact Option.isSome_iff_exists.mp (pJ _ _ _ _ q)
 ·have z':b=C:=z
  exact absurd (hfp b hb).2 (by rw [z'];exact Nat.not_lt.mpr hC)
 ·exact(hfp b hb).1.2.2.2.2.1 x c (hcl x c e) z
 ·obtain⟨h0,h1,h2,h3,h4',h5⟩:=(hfp b hb).1
  rcases h3 with h3 | h3
  ·exact okX.noex b o e h3
  ·have:=(okX.bs b o e).1
   exact absurd (Nat.lt_of_lt_of_le (Heap.lt_size this) h3) (Nat.lt_irrefl _)
 ·obtain⟨h0,h1,h2,h3,h4',h5⟩:=(hfp b hb).1
  exact I.notStk h1 h2 z
 ·have e1':N'[j]?=some y:=e1
  unfold σB at e2
  rw [List.getElem?_map] at e2
  cases ec:cap[j]? with
  | none=>rw [ec] at e2;cases e2
  | some o=>
   rw [ec] at e2
   cases o with
   | none=>cases e2
   | some i=>
    obtain⟨y',n1,n2,vis,kx,kb⟩:=B.cap j i ec
    rw [e1'] at n1;cases n1
    have e2':(σ[i]?).join=some v:=Option.some.inj e2
    have e2'':σ[i]?=some (some v):=by
     cases q:σ[i]? with
     | none=>rw [q] at e2';cases e2'
     | some z=>rw [q] at e2';exact congrArg some e2'
    obtain⟨m,hm,hl⟩:=I.loc
    obtain⟨u,ru,lk⟩:=hl i y v n2 e2'' vis
    refine⟨u,ru,.inr ⟨kb,?_⟩⟩
    rcases lk with ⟨k,_⟩ | ⟨k,c,ec',z⟩
    ·rcases kx with kx | kx
     ·rw [kx] at k;cases k
     ·rw [kx] at k;cases k
    ·have q:=kT (scope:=scope) (env:=X.env) (y:=y) (names:=scope.names) kb B.nocell
     obtain⟨c',hc'⟩:=Option.isSome_iff_exists.mp (pJ X.env.cells scope.names [] y q)
     have:=hcl y c' hc'
     rw [ec'] at this;cases this
     exact⟨c,hc',z.keeps hk⟩
 ·obtain⟨v,z⟩:=cellC x c e
  exact⟨v,z.keeps hk⟩
 ·show (σB cap σ).length=N'.length
  unfold σB
  rw [List.length_map,B.len]
theorem Inv.unblock{Hf:Hp}{s':Shared}{σ':St}{pins':List (Addr×Obj)}(I:Inv X pins σ H s)(hfp:∀ b∈fp,qx X pins H b)(J:Inv (nk X N' scope C s H fp) pins' σ' Hf s'):Inv X pins σ Hf s':=
 I.call' (ch:=fp) J.os J.base J.hok J.bare fun b hb=>by
  obtain⟨h0,h1,h2,h3,h4,h5⟩:=hfp b hb
  exact⟨h3,h1,h4,h5⟩
end
def wY(wi:TI)(g:TG)(tt:TT)(tb:Addr->TB)(cap:List (Option Nat)):TE:=fun σ H Q=>wi σ H fun J H1=>∀ p,H1 p=none->IH J g tt (tb p) (σB cap σ) (upd H1 p (.lst [])) fun _ H'=>Q (.ref p) H'
def Eu(wi:TI)(g:TG)(tt:TT)(te:TE)(cap:List (Option Nat)):TE:=wY wi g tt (tEm te) cap
def Behind(X:Cx)(pins:List (Addr×Obj))(σ:St)(Q:VK)(acc:Value)(C:Addr)(r:Result)(s':Shared):Prop:=
 ∃ p Hf m,r=.ok .next/\acc=.ref p/\Inv X pins σ Hf s'/\Q (.ref p) Hf/\s'.heap.Ns C m/\Hf C=none/\C≠X.env.locals/\X.s₀.heap.objs.size<=C/\(∀ x c,X.env.cells.lookup x=some c->c≠C)/\(∀ q∈X.pn++pins,q.1≠C)
theorem uo{X:Cx}{elt iter tg:Expr}{ifs:List Expr}{rest:List Comprehension}{scope:Scope}{pos:Pos}{N':List Str}{cap:List (Option Nat)}{wi:TI}{g:TG}{tt:TT}{tb:Addr->TB}{bc:Value->Env->Sem Unit}
  (hc:X.calm=true) (B:BlockOk X N' scope cap) (hi:PI X tg iter wi) (hg:∀ C s H fp,PG (nk X N' scope C s H fp) tg g) (ht:∀ C s H fp,Pw (nk X N' scope C s H fp) ifs tt)
  (htn:∀ it acc env,compTurn (.ListComp elt (⟨tg,iter,ifs,0⟩::rest) scope pos) 0 it acc env=rZ (.ListComp elt (⟨tg,iter,ifs,0⟩::rest) scope pos) tg iter.pos ifs 0 it acc env (bc acc env))
  (hb:∀ C s H fp p,PB (nk X N' scope C s H fp) (bc (.ref p) (nk X N' scope C s H fp).env) (tb p))
  {pins:List (Addr×Obj)} {s:Shared} {σ:St} {H:Hp} {Q:VK} (I:Inv X pins σ H s) (h:wY wi g tt tb cap σ H Q) {E:Value->Shared->Prop} (hE:∀ e s,X.xe e s->E e s) :
  wpAny (model X.prog X.w) X.A (eval iter X.env) (fun x s₁=>wpAny (model X.prog X.w) X.A (pyIter x) (fun it s₂=>wpAny (model X.prog X.w) X.A (newList []) (fun acc s₃=>
   wpAny (model X.prog X.w) X.A (newFunctionEnv scope X.env.globals (mH X.env.cells scope.names []) [] X.env.qual none .none (some X.env)) (fun cenv s₄=>
    codeAny (model X.prog X.w) X.A (.compStart (.ListComp elt (⟨tg,iter,ifs,0⟩::rest) scope pos) 0 it acc { cenv with scope:=relabel scope X.env }) (Behind X pins σ Q acc cenv.locals) s₄) E s₃) E s₂) E s₁) E s:=by
 refine wpAny_mono (hi pins s σ H _ I h) (fun v s1 h1=>wpAny_mono h1 (fun itv s2 h2=>?_) hE) hE
 obtain⟨it,fp,tn,J,H1,e,I2,T,st2,f2,hW⟩:=h2
 subst e
 refine wpAny_newObj_type (wpAny_newFunctionEnv B.nocell (by intro y hy;simp at hy) (fun h₁ hns₁ hsb₁=>?_) B.kind)
 dsimp only at hns₁ hsb₁ ⊢
 have hp1:H1 s2.heap.objs.size=none:=I2.hok.fresh (Nat.le_refl _)
 have hL:=hW s2.heap.objs.size hp1
 have I3:Inv X pins σ (upd H1 s2.heap.objs.size (.lst [])) { s2 with heap:=s2.heap.push { cls:=.type "list",dict:=none,data:=.seq ([]:List Value).toArray },toks:=s2.toks }:=
  I2.laid (fun b o e=>Heap.get?_push_of_some _ e) (Nat.le_refl _) ⟨Nat.zero_le _,[],_,.nil,Heap.get?_push_size _ rfl⟩
 generalize hH2:s2.heap.push { cls:=.type "list",dict:=none,data:=.seq ([]:List Value).toArray } = H2 at hns₁ hsb₁ I3 ⊢
 have hC:H2.objs.size=s2.heap.objs.size+1:=by rw [<- hH2,Heap.size_push]
 have ltfp:∀ b∈fp,b<s2.heap.objs.size:=fun b hb=>by
  obtain⟨o,e,_⟩:=T.obj _ _ st2 b hb
  exact Heap.lt_size e
 have hf3:∀ b∈fp,qx X pins (upd H1 s2.heap.objs.size (.lst [])) b/\b<H2.objs.size:=fun b hb=>by
  obtain⟨a0,a⟩:=f2 b hb
  refine⟨⟨?_,a⟩,by rw [hC];exact Nat.lt_succ_of_lt (ltfp b hb)⟩
  rw [bf (Nat.ne_of_lt (ltfp b hb))];exact a0
 have up:∀ b o,H2.get? b=some o->h₁.get? b=some o:=fun b o e=>hsb₁.extBut b o (Nat.ne_of_lt (Heap.lt_size e)) (Heap.get?_push_of_some _ e)
 have I4:=I3.block (C:=H2.objs.size) (fp:=fp) (h4:=h₁) (tk:=s2.toks+([]:List (Str×Value)).length) B hf3 (Nat.le_refl _) up hns₁
 have st4:tn 0 h₁:=T.keep _ _ _ st2 fun b hb o e=>up b o (by rw [<- hH2];exact Heap.get?_push_of_some _ e)
 have loop:codeAny (model X.prog X.w) X.A (.compLoop (.ListComp elt (⟨tg,iter,ifs,0⟩::rest) scope pos) 0 (.ref it) (.ref s2.heap.objs.size) (compEnvC scope (mH X.env.cells scope.names []) H2.objs.size X.env))
    (Behind X pins σ Q (.ref s2.heap.objs.size) H2.objs.size) { s2 with heap:=h₁,toks:=s2.toks+([]:List (Str×Value)).length }:=by
  refine codeAny_mono (HU (X:=nk X N' scope H2.objs.size { s2 with heap:=H2,toks:=s2.toks } (upd H1 s2.heap.objs.size (.lst [])) fp) hc (fun _ _ z=>z) rfl (htn _ _ _) (hg _ _ _ _) (ht _ _ _ _) (hb _ _ _ _ _) T I4 st4 (fun b hb=>?_) hL) fun r s4 ⟨σ4,H4,hr,J4,qn⟩=>?_
  ·obtain⟨h0,h1,h2,h3,h4',h5⟩:=(hf3 b hb).1
   exact⟨h0,Nat.ne_of_lt (hf3 b hb).2,I3.notStk h1 h2,.inl hb,fun x c e=>h4' x c (B.cl I3.ok x c e),fun p hp=>absurd (show p∈([]:List (Addr×Obj)) from hp) (by simp)⟩
  ·obtain⟨m,hm,_⟩:=J4.loc
   have IX:=I3.unblock (fun b hb=>(hf3 b hb).1) J4
   refine⟨_,H4,m,hr,rfl,IX,qn,hm,J4.free,?_,?_,fun x c e z=>?_,fun q hq z=>?_⟩
   ·exact Ne.symm (Nat.ne_of_lt I3.lt)
   ·exact I3.sz
   ·obtain⟨v,q⟩:=I3.cell x c e
    exact absurd q.lt (by rw [z];exact Nat.lt_irrefl _)
   ·exact absurd (Heap.lt_size (I3.pin q hq).1) (by rw [z];exact Nat.lt_irrefl _)
 exact codeAny_compStart_list loop (T.self _ 0 _ _ _ st4 loop)
theorem JB{X:Cx}{elt iter tg:Expr}{ifs:List Expr}{rest:List Comprehension}{scope:Scope}{pos:Pos}{N':List Str}{cap:List (Option Nat)}{wi:TI}{g:TG}{tt:TT}{tb:Addr->TB}{bc:Value->Env->Sem Unit}
  (hc:X.calm=true) (B:BlockOk X N' scope cap) (hi:PI X tg iter wi) (hg:∀ C s H fp,PG (nk X N' scope C s H fp) tg g) (ht:∀ C s H fp,Pw (nk X N' scope C s H fp) ifs tt) (htn:∀ it acc env,compTurn (.ListComp elt (⟨tg,iter,ifs,0⟩::rest) scope pos) 0 it acc env=rZ (.ListComp elt (⟨tg,iter,ifs,0⟩::rest) scope pos) tg iter.pos ifs 0 it acc env (bc acc env))
  (hb:∀ C s H fp p,PB (nk X N' scope C s H fp) (bc (.ref p) (nk X N' scope C s H fp).env) (tb p))
  (hs:∀ x,foldedSetIterable iter X.env x=pure x:=by intro _;rfl):PE X (.ListComp elt (⟨tg,iter,ifs,0⟩::rest) scope pos) (wY wi g tt tb cap):=by
 intro pins s σ H Q I h
 rw [eval_ListComp]
 refine wpAny_comprehension_free (use:=none) rfl hs (nT (B.cells I.ok)) B.kind B.names ?_
 refine wpAny_mono (uo hc B hi hg ht htn hb I h fun _ _ x=>x) (fun x s1 h1=>wpAny_mono h1 (fun it s2 h2=>wpAny_mono h2 (fun acc s3 h3=>wpAny_mono h3 (fun cenv s4 h4=>codeAny_mono h4 fun r s' hr=>?_) fun _ _ x=>x) fun _ _ x=>x) fun _ _ x=>x) fun _ _ x=>x
 obtain⟨p,Hf,m,rfl,rfl,J,q,hn,c1,c2,c3,c4,c5⟩:=hr
 exact⟨m,hn,fun h' sb=>⟨_,Hf,J.turned (t':=s'.toks) (fun b o hb e=>(sb.2 b hb).trans e) c1 c2 (.inr c3) c4 c5,(show RelV (.ref p) (.ref p) from rfl),q⟩⟩
theorem zP{X:Cx}{elt iter tg:Expr}{ifs:List Expr}{rest:List Comprehension}{scope:Scope}{pos spos py:Pos}{N':List Str}{cap:List (Option Nat)}{wi:TI}{g:TG}{tt:TT}{tb:Addr->TB}{bc:Value->Env->Sem Unit}{y:Str}{i:Nat}
  (hN:X.N.Nodup) (hy:X.N[i]?=some y) (hx:Mu X.env.scope y)
  (hc:X.calm=true) (B:BlockOk X N' scope cap) (hi:PI X tg iter wi) (hg:∀ C s H fp,PG (nk X N' scope C s H fp) tg g) (ht:∀ C s H fp,Pw (nk X N' scope C s H fp) ifs tt) (htn:∀ it acc env,compTurn (.ListComp elt (⟨tg,iter,ifs,0⟩::rest) scope pos) 0 it acc env=rZ (.ListComp elt (⟨tg,iter,ifs,0⟩::rest) scope pos) tg iter.pos ifs 0 it acc env (bc acc env))
  (hb:∀ C s H fp p,PB (nk X N' scope C s H fp) (bc (.ref p) (nk X N' scope C s H fp).env) (tb p))
  (hsw:swapsWith (.ListComp elt (⟨tg,iter,ifs,0⟩::rest) scope pos) (some (.Name y py)) spos.line X.env=pure true:=by rfl)
  (hs:∀ x,foldedSetIterable iter X.env x=pure x:=by intro _;rfl) (hf:X.fn y=true\/X.env.scope.names.lookup y=some .local:=by first | exact .inl rfl | exact .inr rfl | assumption) :
  PS X (.Assign [.Name y py] (.ListComp elt (⟨tg,iter,ifs,0⟩::rest) scope pos) spos) (IJ (wY wi g tt tb cap) (Fi i)):=by
 intro pins s σ H D I h
 rw [exec_Assign_Name_used _ _ _ _ hsw]
 refine wpAny_bind (wpAny_standAt (wpAny_bind ?_))
 show wpAny _ _ (do let _ <- comprehension (.ListComp elt (⟨tg,iter,ifs,0⟩::rest) scope pos) scope X.env _ (newList []) false (eval iter X.env) (some (assign (.Name y py) X.env))) _ _ s
 refine wpAny_bind (wpAny_mono (wpAny_comprehension_free (use:=some (assign (.Name y py) X.env)) (Q:=fun _ s'=>SP X pins D .next s') rfl hs (nT (B.cells I.ok)) B.kind B.names
  (wpAny_mono (uo hc B hi hg ht htn hb I h fun _ _ x=>x) (fun x s1 h1=>wpAny_mono h1 (fun it s2 h2=>wpAny_mono h2 (fun acc s3 h3=>wpAny_mono h3 (fun cenv s4 h4=>codeAny_mono h4 fun r s' hr=>?_) fun _ _ x=>x) fun _ _ x=>x) fun _ _ x=>x) fun _ _ x=>x))
  (fun _ s' hq=>wpAny_pure (wpAny_pure hq)) fun _ _ e=>e)
 obtain⟨p,Hf,m,rfl,rfl,J,q,hn,c1,c2,c3,c4,c5⟩:=hr
 refine wpAny_assign_Name (vA J hN hy hx (v:=.ref p) rfl (fun s2 J2 ⟨a,sb,ha⟩=>?_) hf)
 refine⟨m,hn.sameBut sb ?_,fun h' sb2=>⟨_,Hf,J2.turned (t':=s2.toks) (fun b o hb e=>(sb2.2 b hb).trans e) c1 c2 (.inr c3) c4 c5,q⟩⟩
 rcases ha with rfl | ha
 ·exact c2
 ·exact Ne.symm (c4 _ _ ha)
theorem EB{X:Cx}{elt iter tg:Expr}{ifs:List Expr}{scope:Scope}{pos:Pos}{N':List Str}{cap:List (Option Nat)}{wi:TI}{g:TG}{tt:TT}{te:TE}
  (hc:X.calm=true) (B:BlockOk X N' scope cap) (hi:PI X tg iter wi) (hg:∀ C s H fp,PG (nk X N' scope C s H fp) tg g) (ht:∀ C s H fp,Pw (nk X N' scope C s H fp) ifs tt) (he:∀ C s H fp,PE (nk X N' scope C s H fp) elt te)
  (hs:∀ x,foldedSetIterable iter X.env x=pure x:=by intro _;rfl):PE X (.ListComp elt [⟨tg,iter,ifs,0⟩] scope pos) (Eu wi g tt te cap):=
 JB hc B hi hg ht (fun _ _ _=>compTurn_list ..) (fun C s H fp p=>EC (he C s H fp)) hs
theorem su{X:Cx}{elt iter tg:Expr}{ifs:List Expr}{scope:Scope}{pos spos py:Pos}{N':List Str}{cap:List (Option Nat)}{wi:TI}{g:TG}{tt:TT}{te:TE}{y:Str}{i:Nat}
  (hN:X.N.Nodup) (hy:X.N[i]?=some y) (hx:Mu X.env.scope y)
  (hc:X.calm=true) (B:BlockOk X N' scope cap) (hi:PI X tg iter wi) (hg:∀ C s H fp,PG (nk X N' scope C s H fp) tg g) (ht:∀ C s H fp,Pw (nk X N' scope C s H fp) ifs tt) (he:∀ C s H fp,PE (nk X N' scope C s H fp) elt te)
  (hsw:swapsWith (.ListComp elt [⟨tg,iter,ifs,0⟩] scope pos) (some (.Name y py)) spos.line X.env=pure true:=by rfl)
  (hs:∀ x,foldedSetIterable iter X.env x=pure x:=by intro _;rfl) (hf:X.fn y=true\/X.env.scope.names.lookup y=some .local:=by first | exact .inl rfl | exact .inr rfl | assumption) :
  PS X (.Assign [.Name y py] (.ListComp elt [⟨tg,iter,ifs,0⟩] scope pos) spos) (IJ (Eu wi g tt te cap) (Fi i)):=
 zP hN hy hx hc B hi hg ht (fun _ _ _=>compTurn_list ..) (fun C s H fp p=>EC (he C s H fp)) hsw hs hf
end L2
namespace M
open PySem PySem.Spec PyProof.Rows L2
inductive D where
 | non
 | bl (b:Bool)
 | int (i:Int)
 | str (x:Str)
 | tup (xs:List D)
 | lst (xs:List D)
 | rol (xs:List D)
 | dct (ks:List bC) (vs:List D)
 | ref (r:Nat)
inductive uD where
 | lst (xs:List D)
 | dct (ks:List bC) (vs:List D)
abbrev ac:=List uD
structure Fp where
 cs:List Addr
 fb:List Addr
def Fp.no(μ:Fp)(a:Addr):Prop:=a ∉ μ.cs/\a ∉ μ.fb
abbrev bh:=List (Option D)
theorem EH{α:Type}{N:List α}(hN:N.Nodup){i j:Nat}{x:α}(a:N[i]?=some x)(b:N[j]?=some x):i=j:=by
 obtain⟨h1,e1⟩:=List.getElem?_eq_some_iff.mp a
 obtain⟨h2,e2⟩:=List.getElem?_eq_some_iff.mp b
 exact(List.getElem_inj hN).mp (e1.trans e2.symm)
def KList(K:PySem.W.Frag)(a:Addr)(xs:List V):Prop:=∃ (o:Obj) (its:Array Value) (n:Nat),K.lookup a=some o/\o.cls=.type "list"/\o.dict=none/\o.data=.seq its n/\its.size<=sizeLine/\Vals xs its.toList
def KTup(K:PySem.W.Frag)(a:Addr)(xs:List V):Prop:=∃ (o:Obj) (its:Array Value) (n:Nat),K.lookup a=some o/\o.cls=.type "tuple"/\o.dict=none/\o.data=.seq its n/\its.size<=sizeLine/\Vals xs its.toList
mutual
inductive Rep(K:PySem.W.Frag)(μ:Fp)(H:Hp):V->D->Prop
 | non:Rep K μ H .non .non
 | bl (b:Bool):Rep K μ H (.bl b) (.bl b)
 | int (i:Int):Rep K μ H (.int i) (.int i)
 | str (x:Str):Rep K μ H (.str x) (.str x)
 | tup {a:Addr} {vs:List V} {ds:List D} (h:H a=some (.tup vs)) (n:μ.no a) (r:Reps K μ H vs ds):Rep K μ H (.ref a) (.tup ds)
 | ktup {a:Addr} {vs:List V} {ds:List D} (h:KTup K a vs) (r:Reps K μ H vs ds):Rep K μ H (.ref a) (.tup ds)
 | lst {a:Addr} {vs:List V} {ds:List D} (h:H a=some (.lst vs)) (n:μ.no a) (r:Reps K μ H vs ds):Rep K μ H (.ref a) (.lst ds)
 | rol {a:Addr} {vs:List V} {ds:List D} (h:Rd H a (.lst vs)) (n:μ.no a) (r:Reps K μ H vs ds):Rep K μ H (.ref a) (.rol ds)
 | krol {a:Addr} {vs:List V} {ds:List D} (h:KList K a vs) (r:Reps K μ H vs ds):Rep K μ H (.ref a) (.rol ds)
 | dct {a:Addr} {kvs:List (bC×V)} {ds:List D} (h:H a=some (.dK kvs)) (n:μ.no a) (r:Reps K μ H (kvs.map (·.2)) ds):Rep K μ H (.ref a) (.dct (kvs.map (·.1)) ds)
 | ref {a:Addr} {r:Nat} (h:μ.cs[r]?=some a):Rep K μ H (.ref a) (.ref r)
inductive Reps(K:PySem.W.Frag)(μ:Fp)(H:Hp):List V->List D->Prop
 | nil:Reps K μ H [] []
 | cons {v:V} {d:D} {vs:List V} {ds:List D} (h:Rep K μ H v d) (t:Reps K μ H vs ds):Reps K μ H (v::vs) (d::ds)
end
structure Ext(μ:Fp)(H:Hp)(μ':Fp)(H':Hp):Prop where
 fb:μ'.fb = μ.fb
 pre:∃ l,μ'.cs = μ.cs++l/\∀ a∈l,H a=none
 keep:∀ a o,a ∉ μ.cs->H a=some o->H' a=some o
 dom:∀ a ∈ μ'.cs,H' a≠none
section
variable{K:PySem.W.Frag}{μ μ' μ'':Fp}{H H' H'':Hp}
theorem Ext.stays(e:Ext μ H μ' H'){a:Addr}{o:HO}(h:H a=some o)(n:μ.no a):H' a=some o/\μ'.no a:=by
 refine⟨e.keep a o n.1 h,fun z=>?_,by rw [e.fb];exact n.2⟩
 obtain⟨l,q,hl⟩:=e.pre
 rw [q] at z
 rcases List.mem_append.mp z with z | z
 ·exact n.1 z
 ·rw [hl a z] at h;cases h
theorem Ext.keeps(e:Ext μ H μ' H'){a:Addr}{o:HO}(h:H a=some o)(n:a ∉ μ.cs):H' a=some o/\a ∉ μ'.cs:=by
 refine⟨e.keep a o n h,fun z=>?_⟩
 obtain⟨l,q,hl⟩:=e.pre
 rw [q] at z
 rcases List.mem_append.mp z with z | z
 ·exact n z
 ·rw [hl a z] at h;cases h
theorem Ext.trans(e:Ext μ H μ' H')(f:Ext μ' H' μ'' H''):Ext μ H μ'' H'':=by
 obtain⟨l,q,hl⟩:=e.pre
 obtain⟨l',q',hl'⟩:=f.pre
 refine⟨f.fb.trans e.fb,⟨l++l',by rw [q',q,List.append_assoc],fun a ha=>?_⟩,fun a o n h=>?_,f.dom⟩
 ·rcases List.mem_append.mp ha with ha | ha
  ·exact hl a ha
  ·have h1:=hl' a ha
   cases q2:H a with
   | none=>rfl
   | some o=>
    by_cases hm:a ∈ μ.cs
    ·exact absurd h1 (e.dom a (by rw [q];exact List.mem_append_left _ hm))
    ·rw [e.keep a o hm q2] at h1;cases h1
 ·have:=e.keeps h n
  exact f.keep a o this.2 this.1
theorem Ext.refl(h:∀ a ∈ μ.cs,H a≠none):Ext μ H μ H:=⟨rfl,⟨[],by simp,fun _ z=>by simp at z⟩,fun _ _ _ h=>h,h⟩
mutual
theorem Rep.imp(hk:∀ {a:Addr} {o:HO},H a=some o->μ.no a->H' a=some o/\μ'.no a)(hr:∀ {r:Nat} {a:Addr},μ.cs[r]?=some a->μ'.cs[r]?=some a):∀ {v:V} {d:D},Rep K μ H v d->Rep K μ' H' v d
 | _,_,.non=>.non
 | _,_,.bl b=>.bl b
 | _,_,.int i=>.int i
 | _,_,.str x=>.str x
 | _,_,.tup h n r=>.tup (hk h n).1 (hk h n).2 (Reps.imp hk hr r)
 | _,_,.ktup h r=>.ktup h (Reps.imp hk hr r)
 | _,_,.lst h n r=>.lst (hk h n).1 (hk h n).2 (Reps.imp hk hr r)
 | _,_,.rol (.inl h) n r=>.rol (.inl (hk h n).1) (hk h n).2 (Reps.imp hk hr r)
 | _,_,.rol (.inr ⟨o,h⟩) n r=>.rol (.inr ⟨o,(hk h n).1⟩) (hk h n).2 (Reps.imp hk hr r)
 | _,_,.krol h r=>.krol h (Reps.imp hk hr r)
 | _,_,.dct h n r=>.dct (hk h n).1 (hk h n).2 (Reps.imp hk hr r)
 | _,_,.ref h=>.ref (hr h)
theorem Reps.imp(hk:∀ {a:Addr} {o:HO},H a=some o->μ.no a->H' a=some o/\μ'.no a)(hr:∀ {r:Nat} {a:Addr},μ.cs[r]?=some a->μ'.cs[r]?=some a):∀ {vs:List V} {ds:List D},Reps K μ H vs ds->Reps K μ' H' vs ds
 | _,_,.nil=>.nil
 | _,_,.cons h t=>.cons (Rep.imp hk hr h) (Reps.imp hk hr t)
end
theorem ze{l m:List Addr}{k:List Addr}(q:k=l++m){r:Nat}{a:Addr}(h:l[r]?=some a):k[r]?=some a:=by
 rw [q,List.getElem?_append_left (List.getElem?_eq_some_iff.mp h).1];exact h
theorem Ext.ix(e:Ext μ H μ' H'){r:Nat}{a:Addr}(h:μ.cs[r]?=some a):μ'.cs[r]?=some a:=by
 obtain⟨l,q,_⟩:=e.pre
 exact ze q h
theorem Rep.mono(e:Ext μ H μ' H'){v:V}{d:D}(r:Rep K μ H v d):Rep K μ' H' v d:=r.imp e.stays e.ix
theorem Reps.mono(e:Ext μ H μ' H'){vs:List V}{ds:List D}(r:Reps K μ H vs ds):Reps K μ' H' vs ds:=r.imp e.stays e.ix
theorem Reps.length:∀ {vs:List V} {ds:List D},Reps K μ H vs ds->vs.length=ds.length
 | _,_,.nil=>rfl
 | _,_,.cons _ t=>by simp [Reps.length t]
theorem Reps.get:∀ {vs:List V} {ds:List D} {i:Nat} {d:D},Reps K μ H vs ds->ds[i]?=some d->∃ v,vs[i]?=some v/\Rep K μ H v d
 | _,_,_,_,.nil,e=>by simp at e
 | _,_,0,_,.cons h _,e=>by simp at e;subst e;exact⟨_,rfl,h⟩
 | _,_,i+1,d,.cons _ t,e=>by
  obtain⟨u,h1,h2⟩:=Reps.get (i:=i) (d:=d) t (by simpa using e)
  exact⟨u,by simpa using h1,h2⟩
theorem Reps.append:∀ {vs ws:List V} {ds es:List D},Reps K μ H vs ds->Reps K μ H ws es->Reps K μ H (vs++ws) (ds++es)
 | _,_,_,_,.nil,s=>s
 | _,_,_,_,.cons r t,s=>.cons r (Reps.append t s)
theorem Reps.take:∀ {vs:List V} {ds:List D} (n:Nat),Reps K μ H vs ds->Reps K μ H (vs.take n) (ds.take n)
 | _,_,0,_=>.nil
 | _,_,_+1,.nil=>.nil
 | _,_,n+1,.cons r t=>.cons r (Reps.take n t)
theorem Reps.drop:∀ {vs:List V} {ds:List D} (n:Nat),Reps K μ H vs ds->Reps K μ H (vs.drop n) (ds.drop n)
 | _,_,0,r=>r
 | _,_,_+1,.nil=>.nil
 | _,_,n+1,.cons _ t=>Reps.drop n t
theorem Reps.set{x:V}{d:D}(r:Rep K μ H x d):∀ {vs:List V} {ds:List D} (i:Nat),Reps K μ H vs ds->Reps K μ H (vs.set i x) (ds.set i d)
 | _,_,_,.nil=>.nil
 | _,_,0,.cons _ t=>.cons r t
 | _,_,i+1,.cons q t=>.cons q (Reps.set r i t)
theorem Reps.flat{xs:List V}:∀ (k:Nat) {ds:List D},Reps K μ H xs ds->Reps K μ H (List.replicate k xs).flatten (List.replicate k ds).flatten
 | 0,_,_=>.nil
 | k+1,_,r=>by rw [List.replicate_succ,List.replicate_succ,List.flatten_cons,List.flatten_cons];exact r.append (Reps.flat k r)
def CellOk(K:PySem.W.Frag)(μ:Fp)(H:Hp)(a:Addr):uD->Prop
 | .lst ds=>∃ vs,H a=some (.lst vs)/\Reps K μ H vs ds
 | .dct ks ds=>∃ kvs,H a=some (.dK kvs)/\ks=kvs.map (·.1)/\Reps K μ H (kvs.map (·.2)) ds
structure SOk(K:PySem.W.Frag)(μ:Fp)(S:ac)(H:Hp):Prop where
 nd:μ.cs.Nodup
 len:μ.cs.length=S.length
 cell:∀ (r:Nat) (a:Addr) (c:uD),μ.cs[r]?=some a->S[r]?=some c->CellOk K μ H a c
 fdom:∀ a ∈ μ.fb,H a≠none
 disj:∀ a ∈ μ.fb,a ∉ μ.cs
theorem CellOk.ne_none{a:Addr}{c:uD}(h:CellOk K μ H a c):H a≠none:=by
 cases c with
 | lst ds=>obtain⟨vs,h,_⟩:=h;rw [h];simp
 | dct ks ds=>obtain⟨vs,h,_⟩:=h;rw [h];simp
theorem CellOk.mono(e:Ext μ H μ' H'){a:Addr}{c:uD}(he:H' a=H a)(h:CellOk K μ H a c):CellOk K μ' H' a c:=by
 cases c with
 | lst ds=>obtain⟨vs,h,r⟩:=h;exact⟨vs,he.trans h,r.mono e⟩
 | dct ks ds=>obtain⟨vs,h,q,r⟩:=h;exact⟨vs,he.trans h,q,r.mono e⟩
theorem SOk.dom{S:ac}(s:SOk K μ S H):∀ a ∈ μ.cs,H a≠none:=fun a ha=>by
 obtain⟨r,hr⟩:=List.mem_iff_getElem?.mp ha
 have hl:=(List.getElem?_eq_some_iff.mp hr).1
 rw [s.len] at hl
 exact(s.cell r a S[r] hr (by simp [hl])).ne_none
theorem SOk.ext{S:ac}(s:SOk K μ S H):Ext μ H μ H:=.refl s.dom
theorem SOk.notMem{S:ac}(s:SOk K μ S H){p:Addr}(h:H p=none):μ.no p:=⟨fun z=>s.dom p z h,fun z=>s.fdom p z h⟩
theorem SOk.laid{S:ac}(s:SOk K μ S H){p:Addr}{o:HO}(h:H p=none):Ext μ H μ (upd H p o)/\SOk K μ S (upd H p o):=by
 have e:Ext μ H μ (upd H p o):=⟨rfl,⟨[],by simp,fun _ z=>by simp at z⟩,fun a o' _ q=>by rw [bf (cj q h)];exact q,fun a ha=>by
  by_cases z:a=p
  ·subst z;rw [bq];simp
  ·rw [bf z];exact s.dom a ha⟩
 refine⟨e,s.nd,s.len,fun r a c h1 h2=>(s.cell r a c h1 h2).mono e ?_,fun a ha=>?_,s.disj⟩
 case refine_2=>
  by_cases z:a=p
  ·subst z;rw [bq];simp
  ·rw [bf z];exact s.fdom a ha
 have:=(s.cell r a c h1 h2).ne_none
 refine bf fun z=>?_
 rw [z] at this
 exact this h
theorem SOk.alloc{S:ac}(s:SOk K μ S H){p:Addr}{vs:List V}{ds:List D}(h:H p=none)(r:Reps K μ H vs ds):Ext μ H ⟨μ.cs++[p],μ.fb⟩ (upd H p (.lst vs))/\SOk K ⟨μ.cs++[p],μ.fb⟩ (S++[.lst ds]) (upd H p (.lst vs)):=by
 have hp:=s.notMem h
 have e:Ext μ H ⟨μ.cs++[p],μ.fb⟩ (upd H p (.lst vs)):=⟨rfl,⟨[p],rfl,fun a z=>by rw [List.mem_singleton.mp z];exact h⟩,fun a o' _ q=>by rw [bf (cj q h)];exact q,fun a ha=>by
  by_cases z:a=p
  ·subst z;rw [bq];simp
  ·rw [bf z]
   rcases List.mem_append.mp ha with q | q
   ·exact s.dom a q
   ·exact absurd (List.mem_singleton.mp q) z⟩
 refine⟨e,?_,by simp [s.len],fun i a c h1 h2=>?_,fun a ha=>?_,fun a ha z=>?_⟩
 case refine_3=>
  by_cases z:a=p
  ·subst z;rw [bq];simp
  ·rw [bf z];exact s.fdom a ha
 case refine_4=>
  rcases List.mem_append.mp z with q | q
  ·exact s.disj a ha q
  ·rw [List.mem_singleton.mp q] at ha;exact hp.2 ha
 ·show (μ.cs++[p]).Nodup
  rw [List.nodup_append]
  exact⟨s.nd,by simp,fun a ha b hb=>by rw [List.mem_singleton.mp hb];rintro rfl;exact hp.1 ha⟩
 ·have h1:(μ.cs++[p])[i]?=some a:=h1
  by_cases hi:i < μ.cs.length
  ·rw [List.getElem?_append_left hi] at h1
   rw [List.getElem?_append_left (by rw [<- s.len];exact hi)] at h2
   have q:=s.cell i a c h1 h2
   refine q.mono e (bf fun z=>?_)
   exact hp.1 (z ▸ List.mem_of_getElem? h1)
  ·have hl:i = μ.cs.length:=by
    have:=(List.getElem?_eq_some_iff.mp h1).1
    simp at this;omega
   subst hl
   rw [List.getElem?_append_right (Nat.le_refl _)] at h1
   rw [s.len,List.getElem?_append_right (Nat.le_refl _)] at h2
   simp at h1 h2
   subst h1 h2
   exact⟨vs,bq,r.mono e⟩
theorem SOk.write{S:ac}(s:SOk K μ S H){i:Nat}{a:Addr}{vs vs':List V}{ds:List D}(hi:μ.cs[i]?=some a)(h:H a=some (.lst vs))(r:Reps K μ H vs' ds):Ext μ H μ (upd H a (.lst vs'))/\SOk K μ (S.set i (.lst ds)) (upd H a (.lst vs')):=by
 have ha:=List.mem_of_getElem? hi
 have e:Ext μ H μ (upd H a (.lst vs')):=⟨rfl,⟨[],by simp,fun _ z=>by simp at z⟩,fun b o' n q=>by rw [bf (by rintro rfl;exact n ha)];exact q,fun b hb=>by
  by_cases z:b=a
  ·subst z;rw [bq];simp
  ·rw [bf z];exact s.dom b hb⟩
 refine⟨e,s.nd,by simp [s.len],fun j b c h1 h2=>?_,fun b hb=>?_,s.disj⟩
 case refine_2=>
  by_cases z:b=a
  ·subst z;rw [bq];simp
  ·rw [bf z];exact s.fdom b hb
 by_cases hj:j=i
 ·subst hj
  rw [hi] at h1;cases h1
  have hl:j<S.length:=by rw [<- s.len];exact(List.getElem?_eq_some_iff.mp hi).1
  rw [List.getElem?_set_self hl] at h2
  cases h2
  exact⟨vs',bq,r.mono e⟩
 ·rw [List.getElem?_set_ne (Ne.symm hj)] at h2
  refine(s.cell j b c h1 h2).mono e (bf fun z=>hj ?_)
  subst z
  exact EH s.nd h1 hi
inductive EOk(K:PySem.W.Frag)(μ:Fp)(H:Hp):L2.St->bh->Prop
 | nil:EOk K μ H [] []
 | no {x:Option V} {σ:L2.St} {env:bh} (t:EOk K μ H σ env):EOk K μ H (x::σ) (none::env)
 | yes {v:V} {d:D} {σ:L2.St} {env:bh} (h:Rep K μ H v d) (t:EOk K μ H σ env):EOk K μ H (some v::σ) (some d::env)
theorem EOk.mono(e:Ext μ H μ' H'):∀ {σ:L2.St} {env:bh},EOk K μ H σ env->EOk K μ' H' σ env
 | _,_,.nil=>.nil
 | _,_,.no t=>.no (EOk.mono e t)
 | _,_,.yes h t=>.yes (h.mono e) (EOk.mono e t)
theorem EOk.get:∀ {σ:L2.St} {env:bh} {i:Nat} {d:D},EOk K μ H σ env->env[i]?=some (some d)->∃ v,σ[i]?=some (some v)/\Rep K μ H v d
 | _,_,_,_,.nil,h=>by simp at h
 | _,_,0,_,.no _,h=>by simp at h
 | _,_,0,_,.yes h _,q=>by simp at q;subst q;exact⟨_,rfl,h⟩
 | _,_,i+1,d,.no t,h=>by
  obtain⟨v,h1,h2⟩:=EOk.get (i:=i) (d:=d) t (by simpa using h)
  exact⟨v,by simpa using h1,h2⟩
 | _,_,i+1,d,.yes _ t,h=>by
  obtain⟨v,h1,h2⟩:=EOk.get (i:=i) (d:=d) t (by simpa using h)
  exact⟨v,by simpa using h1,h2⟩
theorem EOk.set{v:V}{d:D}(r:Rep K μ H v d):∀ {σ:L2.St} {env:bh} (i:Nat),EOk K μ H σ env->EOk K μ H (σ.set i (Option.some v)) (env.set i (Option.some d))
 | _,_,_,.nil=>.nil
 | _,_,0,.no t=>.yes r t
 | _,_,0,.yes _ t=>.yes r t
 | _,_,i+1,.no t=>.no (EOk.set r i t)
 | _,_,i+1,.yes h t=>.yes h (EOk.set r i t)
theorem EOk.start{N:Nat}:∀ {vs:List V} {ds:List D},Reps K μ H vs ds->EOk K μ H (vs.map Option.some++List.replicate N Option.none) (ds.map Option.some++List.replicate N Option.none)
 | _,_,.nil=>by
  induction N with
  | zero=>exact .nil
  | succ n ih=>exact .no ih
 | _,_,.cons h t=>.yes h (EOk.start t)
theorem EOk.block{σ:L2.St}{env:bh}(h:EOk K μ H σ env):∀ (cap:List (Option Nat)),EOk K μ H (σB cap σ) (cap.map fun o=>o.bind fun i=>(env[i]?).join)
 | []=>.nil
 | Option.none::r=>.no (EOk.block h r)
 | Option.some i::r=>by
  show EOk K μ H ((σ[i]?).join::σB r σ) ((env[i]?).join::_)
  cases q:(env[i]?).join with
  | none=>exact .no (EOk.block h r)
  | some d=>
   have q':env[i]?=Option.some (Option.some d):=by
    cases z:env[i]? with
    | none=>rw [z] at q;cases q
    | some y=>rw [z] at q;exact congrArg Option.some q
   obtain⟨v,h1,h2⟩:=h.get q'
   rw [h1]
   exact .yes h2 (EOk.block h r)
theorem EJ{p a:Addr}{cs fb:List Addr}(n:(⟨cs,p::fb⟩:Fp).no a):(⟨cs,fb⟩:Fp).no a:=⟨n.1,fun z=>n.2 (List.mem_cons_of_mem _ z)⟩
theorem Rep.less{p:Addr}{cs fb:List Addr}{v:V}{d:D}(r:Rep K ⟨cs,p::fb⟩ H v d):Rep K ⟨cs,fb⟩ H v d:=r.imp (fun h n=>⟨h,EJ n⟩) fun h=>h
theorem Reps.less{p:Addr}{cs fb:List Addr}{v:List V}{d:List D}(r:Reps K ⟨cs,p::fb⟩ H v d):Reps K ⟨cs,fb⟩ H v d:=r.imp (fun h n=>⟨h,EJ n⟩) fun h=>h
theorem EI{p:Addr}{o:HO}{cs fb:List Addr}(hp:H p=none){a:Addr}{o':HO}(h:H a=some o')(n:(⟨cs,fb⟩:Fp).no a):upd H p o a=some o'/\(⟨cs,p::fb⟩:Fp).no a:=⟨(bf (cj h hp)).trans h,n.1,fun z=>(List.mem_cons.mp z).elim (cj h hp) n.2⟩
theorem Rep.more{p:Addr}{o:HO}{cs fb:List Addr}(hp:H p=none){v:V}{d:D}(r:Rep K ⟨cs,fb⟩ H v d):Rep K ⟨cs,p::fb⟩ (upd H p o) v d:=r.imp (EI hp) fun h=>h
theorem Reps.more{p:Addr}{o:HO}{cs fb:List Addr}(hp:H p=none){v:List V}{d:List D}(r:Reps K ⟨cs,fb⟩ H v d):Reps K ⟨cs,p::fb⟩ (upd H p o) v d:=r.imp (EI hp) fun h=>h
theorem Fp.no.ne{μ:Fp}{a p:Addr}(n:μ.no a)(hp:p ∈ μ.fb):a≠p:=fun z=>n.2 (by rw [z];exact hp)
theorem Rep.chg{p:Addr}{o:HO}(hp:p ∈ μ.fb){v:V}{d:D}(r:Rep K μ H v d):Rep K μ (upd H p o) v d:=r.imp (fun h n=>⟨(bf (n.ne hp)).trans h,n⟩) fun h=>h
theorem Reps.chg{p:Addr}{o:HO}(hp:p ∈ μ.fb){v:List V}{d:List D}(r:Reps K μ H v d):Reps K μ (upd H p o) v d:=r.imp (fun h n=>⟨(bf (n.ne hp)).trans h,n⟩) fun h=>h
theorem EOk.more{p:Addr}{o:HO}{cs fb:List Addr}(hp:H p=none):∀ {σ:L2.St} {env:bh},EOk K ⟨cs,fb⟩ H σ env->EOk K ⟨cs,p::fb⟩ (upd H p o) σ env
 | _,_,.nil=>.nil
 | _,_,.no t=>.no (EOk.more hp t)
 | _,_,.yes h t=>.yes (h.more hp) (EOk.more hp t)
theorem EOk.chg{p:Addr}{o:HO}(hp:p ∈ μ.fb):∀ {σ:L2.St} {env:bh},EOk K μ H σ env->EOk K μ (upd H p o) σ env
 | _,_,.nil=>.nil
 | _,_,.no t=>.no (EOk.chg hp t)
 | _,_,.yes h t=>.yes (h.chg hp) (EOk.chg hp t)
theorem CellOk.upd{p a:Addr}{o:HO}{c:uD}(μ':Fp)(hpa:a≠p)(h:CellOk K μ H a c)(f:∀ vs ds,Reps K μ H vs ds->Reps K μ' (upd H p o) vs ds):CellOk K μ' (upd H p o) a c:=by
 cases c with
 | lst ds=>obtain⟨vs,h,r⟩:=h;exact⟨vs,(bf hpa).trans h,f _ _ r⟩
 | dct ks ds=>obtain⟨vs,h,q,r⟩:=h;exact⟨vs,(bf hpa).trans h,q,f _ _ r⟩
theorem SOk.less{S:ac}{p:Addr}{cs fb:List Addr}(s:SOk K ⟨cs,p::fb⟩ S H):SOk K ⟨cs,fb⟩ S H:=
 ⟨s.nd,s.len,fun r a c h1 h2=>by
  have:=s.cell r a c h1 h2
  cases c with
  | lst ds=>obtain⟨vs,h,r⟩:=this;exact⟨vs,h,r.less⟩
  | dct ks ds=>obtain⟨vs,h,q,r⟩:=this;exact⟨vs,h,q,r.less⟩,fun a ha=>s.fdom a (List.mem_cons_of_mem _ ha),fun a ha=>s.disj a (List.mem_cons_of_mem _ ha)⟩
theorem SOk.more{S:ac}{p:Addr}{o:HO}{cs fb:List Addr}(s:SOk K ⟨cs,fb⟩ S H)(hp:H p=none):SOk K ⟨cs,p::fb⟩ S (upd H p o):=by
 have hn:=s.notMem hp
 refine⟨s.nd,s.len,fun r a c h1 h2=>(s.cell r a c h1 h2).upd _ (fun z=>?_) fun vs ds r=>r.more hp,fun a ha=>?_,fun a ha z=>?_⟩
 ·exact hn.1 (z ▸ List.mem_of_getElem? h1)
 ·by_cases z:a=p
  ·subst z;rw [bq];simp
  ·rw [bf z];exact s.fdom a ((List.mem_cons.mp ha).resolve_left z)
 ·rcases List.mem_cons.mp ha with rfl | ha
  ·exact hn.1 z
  ·exact s.disj a ha z
theorem SOk.chg{S:ac}{p:Addr}{o:HO}(s:SOk K μ S H)(hp:p ∈ μ.fb):SOk K μ S (upd H p o):=by
 refine⟨s.nd,s.len,fun r a c h1 h2=>(s.cell r a c h1 h2).upd _ (fun z=>?_) fun vs ds r=>r.chg hp,fun a ha=>?_,s.disj⟩
 ·exact s.disj p hp (z ▸ List.mem_of_getElem? h1)
 ·by_cases z:a=p
  ·subst z;rw [bq];simp
  ·rw [bf z];exact s.fdom a ha
end
end M
namespace M
open PySem PySem.Spec PyProof.Rows L2
abbrev ME:=bh->ac->Option (D×ac)
abbrev MT:=bh->ac->Option (Bool×ac)
abbrev MA:=bh->ac->Option (List D×ac)
inductive oC where
 | nx (env:bh) (S:ac)
 | rt (d:D) (S:ac)
 | bk (env:bh) (S:ac)
 | ct (env:bh) (S:ac)
abbrev MS:=bh->ac->Option oC
def Post(K:PySem.W.Frag)(μ:Fp)(H:Hp)(S':ac)(d:D)(Q:VK):Prop:=∀ v H' μ',Ext μ H μ' H'->SOk K μ' S' H'->Rep K μ' H' v d->Q v H'
def PostT(K:PySem.W.Frag)(μ:Fp)(H:Hp)(S':ac)(b:Bool)(Q:Bool->Hp->Prop):Prop:=∀ H' μ',Ext μ H μ' H'->SOk K μ' S' H'->Q b H'
def PostA(K:PySem.W.Frag)(μ:Fp)(H:Hp)(S':ac)(ds:List D)(Q:List V->Hp->Prop):Prop:=∀ vs H' μ',Ext μ H μ' H'->SOk K μ' S' H'->Reps K μ' H' vs ds->Q vs H'
def PostN(K:PySem.W.Frag)(μ:Fp)(H:Hp)(S':ac)(env':bh)(Q:L2.St->Hp->Prop):Prop:=∀ σ' H' μ',Ext μ H μ' H'->SOk K μ' S' H'->EOk K μ' H' σ' env'->Q σ' H'
def PostS(K:PySem.W.Frag)(μ:Fp)(H:Hp)(o:oC)(E:vp):Prop:=match o with
 | .nx env' S'=>PostN K μ H S' env' E.nx
 | .rt d S'=>Post K μ H S' d E.rt
 | .bk env' S'=>PostN K μ H S' env' E.bk
 | .ct env' S'=>PostN K μ H S' env' E.ct
inductive tM(K:PySem.W.Frag)(m:ME)(σ:L2.St)(H:Hp)(Q:VK):Prop
 | mk (μ:Fp) (S:ac) (env:bh) (d:D) (S':ac) (hS:SOk K μ S H) (hE:EOk K μ H σ env) (h:m env S=some (d,S')) (post:Post K μ H S' d Q)
inductive Ca(K:PySem.W.Frag)(m:MT)(σ:L2.St)(H:Hp)(Q:Bool->Hp->Prop):Prop
 | mk (μ:Fp) (S:ac) (env:bh) (b:Bool) (S':ac) (hS:SOk K μ S H) (hE:EOk K μ H σ env) (h:m env S=some (b,S')) (post:PostT K μ H S' b Q)
inductive tMA(K:PySem.W.Frag)(m:MA)(σ:L2.St)(H:Hp)(Q:List V->Hp->Prop):Prop
 | mk (μ:Fp) (S:ac) (env:bh) (ds:List D) (S':ac) (hS:SOk K μ S H) (hE:EOk K μ H σ env) (h:m env S=some (ds,S')) (post:PostA K μ H S' ds Q)
inductive tMS(K:PySem.W.Frag)(m:MS)(E:vp)(σ:L2.St)(H:Hp):Prop
 | mk (μ:Fp) (S:ac) (env:bh) (o:oC) (hS:SOk K μ S H) (hE:EOk K μ H σ env) (h:m env S=some o) (post:PostS K μ H o E)
inductive nz(K:PySem.W.Frag)(f:ac->D->D->Option D)(x y:V)(H:Hp)(Q:VK):Prop
 | mk (μ:Fp) (S:ac) (dx dy dz:D) (hS:SOk K μ S H) (h1:Rep K μ H x dx) (h2:Rep K μ H y dy) (h3:f S dx dy=some dz) (post:Post K μ H S dz Q)
inductive rM1(K:PySem.W.Frag)(f:ac->D->Option D)(x:V)(H:Hp)(Q:VK):Prop
 | mk (μ:Fp) (S:ac) (dx dz:D) (hS:SOk K μ S H) (h1:Rep K μ H x dx) (h3:f S dx=some dz) (post:Post K μ H S dz Q)
inductive Ji(K:PySem.W.Frag)(f:List D->ac->Option (D×ac))(vs:List V)(H:Hp)(Q:VK):Prop
 | mk (μ:Fp) (S:ac) (ds:List D) (d:D) (S':ac) (hS:SOk K μ S H) (h1:Reps K μ H vs ds) (h3:f ds S=some (d,S')) (post:Post K μ H S' d Q)
def DE(X:Cx)(e:Expr)(m:ME):Prop:=PE X e (tM X.K m)
def DT(X:Cx)(e:Expr)(m:MT):Prop:=PT X e (Ca X.K m)
def DW(X:Cx)(e:Expr)(m:MT):Prop:=PW X e (Ca X.K m)
def DA(X:Cx)(es:List Expr)(m:MA):Prop:=PA X es (tMA X.K m)
def DS(X:Cx)(st:Stmt)(m:MS):Prop:=PS X st (tMS X.K m)
def vq(X:Cx)(st:List Stmt)(m:MS):Prop:=PSs X st (tMS X.K m)
section
variable{X:Cx}{K:PySem.W.Frag}{μ μ':Fp}{H H':Hp}{S S':ac}
theorem Post.ext{d:D}{Q:VK}(e:Ext μ H μ' H')(p:Post K μ H S' d Q):Post K μ' H' S' d Q:=fun v H2 μ2 e2 s r=>p v H2 μ2 (e.trans e2) s r
theorem Post.here{d:D}{Q:VK}{v:V}(p:Post K μ H S d Q)(s:SOk K μ S H)(r:Rep K μ H v d):Q v H:=p v H μ s.ext s r
theorem PE.imp{e:Expr}{t t':TE}(h:PE X e t)(i:∀ σ H Q,t' σ H Q->t σ H Q):PE X e t':=fun pins s σ H Q I q=>h pins s σ H Q I (i σ H Q q)
theorem PT.imp{e:Expr}{t t':TT}(h:PT X e t)(i:∀ σ H Q,t' σ H Q->t σ H Q):PT X e t':=fun pins s σ H Q I q=>h pins s σ H Q I (i σ H Q q)
theorem PW.imp{e:Expr}{t t':TT}(h:PW X e t)(i:∀ σ H Q,t' σ H Q->t σ H Q):PW X e t':=fun w pins s σ H Q I q=>h w pins s σ H Q I (i σ H Q q)
theorem PA.imp{e:List Expr}{t t':TA}(h:PA X e t)(i:∀ σ H Q,t' σ H Q->t σ H Q):PA X e t':=fun pos pins s σ H Q I q=>h pos pins s σ H Q I (i σ H Q q)
theorem PS.imp{e:Stmt}{t t':TS}(h:PS X e t)(i:∀ E σ H,t' E σ H->t E σ H):PS X e t':=fun pins s σ H E I q=>h pins s σ H E I (i E σ H q)
theorem PSs.imp{e:List Stmt}{t t':TS}(h:PSs X e t)(i:∀ E σ H,t' E σ H->t E σ H):PSs X e t':=fun pins s σ H E I q=>h pins s σ H E I (i E σ H q)
theorem OpR.imp{f:Value->Value->Sem Value}{r r':R2}(h:OpR X f r)(i:∀ x y H Q,r' x y H Q->r x y H Q):OpR X f r':=fun pins s σ H x y v u Q I rx ry q=>h pins s σ H x y v u Q I rx ry (i x y H Q q)
theorem UnR.imp{f:Value->Sem Value}{r r':V->Hp->VK->Prop}(h:UnR X f r)(i:∀ x H Q,r' x H Q->r x H Q):UnR X f r':=fun pins s σ H x v Q I rx q=>h pins s σ H x v Q I rx (i x H Q q)
theorem CallR.imp{f:Value}{r r':List V->Hp->VK->Prop}(h:CallR X f r)(i:∀ x H Q,r' x H Q->r x H Q):CallR X f r':=fun pins s σ H x v Q I rx q=>h pins s σ H x v Q I rx (i x H Q q)
theorem IxR.imp{r r':R2}(h:IxR X r)(i:∀ x y H Q,r' x y H Q->r x y H Q):IxR X r':=fun va sl pins s σ H x y v u Q I rx ry q=>h va sl pins s σ H x y v u Q I rx ry (i x y H Q q)
noncomputable def ab(i:Nat):ME:=fun env S=>(env[i]?).join.bind fun d=>some (d,S)
noncomputable def mC(d:D):ME:=fun _ S=>some (d,S)
theorem Hb{α:Type}{o:Option (Option α)}{a:α}(h:o.join=some a):o=some (some a):=by
 cases o with
 | none=>cases h
 | some o=>exact congrArg some h
theorem Tx{i:Nat}{x:Str}{pos:Pos}(hN:X.N[i]?=some x)(hv:Uj X.env.scope x)(hd:(x == ("__debug__":Str))=false:=by decide)(hcd:(x == ("__classdict__":Str))=false:=by decide):DE X (.Name x pos) (ab i):=
 PE.imp (Jv hN hv hd hcd) fun σ H Q ⟨μ,S,env,d,S',hS,hE,hm,post⟩=>by
  obtain⟨d',h1,h2⟩:=Option.bind_eq_some_iff.mp hm
  cases h2
  obtain⟨v,e,r⟩:=hE.get (Hb h1)
  exact⟨v,e,post.here hS r⟩
theorem mD{e:Expr}{v:V}{d:D}(h:PE X e (tC v))(r:∀ μ H,Rep X.K μ H v d):DE X e (mC d):=
 PE.imp h fun σ H Q ⟨μ,S,env,d',S',hS,hE,hm,post⟩=>by cases hm;exact post.here hS (r μ H)
theorem TK{i:Int}{j pos}:DE X (.Constant (.int i) j pos) (mC (.int i)):=mD Ru fun _ _=>.int i
theorem de_bl{b j pos}:DE X (.Constant (.bool b) j pos) (mC (.bl b)):=mD pe_bl fun _ _=>.bl b
theorem TF{j pos}:DE X (.Constant .none j pos) (mC .non):=mD Rt fun _ _=>.non
theorem TC{x j pos}:DE X (.Constant (.str x) j pos) (mC (.str x)):=mD Rp fun _ _=>.str x
structure GC(K:PySem.W.Frag)(mg:Str->Option Value)(x:Str)(d:D):Prop where
 ex:∃ u v,mg x=some u/\RelV v u/\∀ μ H,Rep K μ H v d
theorem OX{x:Str}{d:D}{pos:Pos}(g:GC X.K X.mg x d)(hg:Gl X x:=by rfl)(hd:(x == ("__debug__":Str))=false:=by decide):DE X (.Name x pos) (mC d):=by
 obtain⟨u,v,h1,h2,h3⟩:=g.ex
 exact mD (xH hg h1 h2 hd) h3
noncomputable def aq(f:ac->D->D->Option D)(a b:ME):ME:=fun env S=>(a env S).bind fun p=>(b env p.2).bind fun q=>(f q.2 p.1 q.1).bind fun z=>some (z,q.2)
theorem JX{f:ac->D->D->Option D}{a b:ME}{env:bh}{S S':ac}{d:D}(h:aq f a b env S=some (d,S')):∃ x S1 y,a env S=some (x,S1)/\b env S1=some (y,S')/\f S' x y=some d:=by
 obtain⟨⟨x,S1⟩,h1,h⟩:=Option.bind_eq_some_iff.mp h
 obtain⟨⟨y,S2⟩,h2,h⟩:=Option.bind_eq_some_iff.mp h
 obtain⟨z,h3,h⟩:=Option.bind_eq_some_iff.mp h
 cases h
 exact⟨x,S1,y,h1,h2,h3⟩
theorem wX{f:ac->D->D->Option D}{ma mb:ME}{σ:L2.St}{Q:VK}(h:tM K (aq f ma mb) σ H Q):tOp (nz K f) (tM K ma) (tM K mb) σ H Q:=by
 obtain⟨μ,S,env,d,S',hS,hE,hm,post⟩:=h
 obtain⟨x,S1,y,h1,h2,h3⟩:=JX hm
 exact⟨μ,S,env,x,S1,hS,hE,h1,fun v H1 μ1 e1 s1 r1=>⟨μ1,S1,env,y,S',s1,hE.mono e1,h2,fun w H2 μ2 e2 s2 r2=>⟨μ2,S',x,y,d,s2,r1.mono e2,r2,h3,(post.ext e1).ext e2⟩⟩⟩
section
variable{a b c:Expr}{ma mb mc:ME}{pos:Pos}
theorem wG{op:Operator}{f:ac->D->D->Option D}(ho:OpR X (binaryOp op) (nz X.K f))(ha:DE X a ma)(hb:DE X b mb):DE X (.BinOp a op b pos) (aq f ma mb):=
 PE.imp (pe_op ho ha hb) fun _ _ _ h=>wX h
theorem TM{op:CmpOp}{f:ac->D->D->Option D}(ho:OpR X (compareOp op) (nz X.K f))(ha:DE X a ma)(hb:DE X b mb)(hm:behindInMarks op b=false):DE X (.Compare a [op] [b] pos) (aq f ma mb):=
 PE.imp (Nw ho ha hb hm) fun _ _ _ h=>wX h
noncomputable def ay(m:ME):MT:=fun env S=>(m env S).bind fun p=>match p.1 with | .bl k=>some (k,p.2) | _=>none
theorem sZ{m:ME}{env:bh}{S S':ac}{k:Bool}(h:ay m env S=some (k,S')):m env S=some (.bl k,S'):=by
 obtain⟨⟨x,S1⟩,h1,h⟩:=Option.bind_eq_some_iff.mp h
 cases x <;> first | (cases h;exact h1) | cases h
theorem Rep.bl_inv{v:V}{k:Bool}(h:Rep K μ H v (.bl k)):v=.bl k:=by cases h;rfl
theorem Rep.int_inv{v:V}{k:Int}(h:Rep K μ H v (.int k)):v=.int k:=by cases h;rfl
theorem Rep.str_inv{v:V}{k:Str}(h:Rep K μ H v (.str k)):v=.str k:=by cases h;rfl
theorem Tl{op:CmpOp}{f:ac->D->D->Option D}(ho:OpR X (compareOp op) (nz X.K f))(ha:DE X a ma)(hb:DE X b mb)(hm:behindInMarks op b=false):DT X (.Compare a [op] [b] pos) (ay (aq f ma mb)):=
 PT.imp (Nj ho ha hb hm) fun σ H Q ⟨μ,S,env,k,S',hS,hE,hm,post⟩=>by
  have h:=sZ hm
  refine wX ⟨μ,S,env,_,S',hS,hE,h,fun v H' μ' e s r=>?_⟩
  exact⟨k,r.bl_inv,post H' μ' e s⟩
noncomputable def cX(f g:ac->D->D->Option D)(a b c:ME):ME:=fun env S=>(a env S).bind fun p=>(b env p.2).bind fun q=>(f q.2 p.1 q.1).bind fun z=>match z with
 | .bl true=>(c env q.2).bind fun r=>(g r.2 q.1 r.1).bind fun z=>some (z,r.2)
 | .bl false=>some (.bl false,q.2)
 | _=>none
theorem vz{f g:ac->D->D->Option D}{σ:L2.St}{Q:VK}(h:tM K (cX f g ma mb mc) σ H Q):Cb (nz K f) (nz K g) (tM K ma) (tM K mb) (tM K mc) σ H Q:=by
 obtain⟨μ,S,env,d,S',hS,hE,hm,post⟩:=h
 obtain⟨⟨x,S1⟩,h1,hm⟩:=Option.bind_eq_some_iff.mp hm
 obtain⟨⟨y,S2⟩,h2,hm⟩:=Option.bind_eq_some_iff.mp hm
 obtain⟨z,h3,hm⟩:=Option.bind_eq_some_iff.mp hm
 refine⟨μ,S,env,x,S1,hS,hE,h1,fun v H1 μ1 e1 s1 r1=>⟨μ1,S1,env,y,S2,s1,hE.mono e1,h2,fun w H2 μ2 e2 s2 r2=>⟨μ2,S2,x,y,z,s2,r1.mono e2,r2,h3,fun u H3 μ3 e3 s3 r3=>?_⟩⟩⟩
 cases z with
 | bl k=>
  refine⟨k,r3.bl_inv,?_⟩
  cases k with
  | false=>cases hm;rw [if_neg Bool.false_ne_true];exact post _ H3 μ3 ((e1.trans e2).trans e3) s3 (.bl false)
  | true=>
   obtain⟨⟨t,S4⟩,h4,hm⟩:=Option.bind_eq_some_iff.mp hm
   obtain⟨z,h5,hm⟩:=Option.bind_eq_some_iff.mp hm
   cases hm
   rw [if_pos rfl]
   exact⟨μ3,S2,env,t,S4,s3,hE.mono ((e1.trans e2).trans e3),h4,fun u' H4 μ4 e4 s4 r4=>⟨μ4,_,y,t,_,s4,(r2.mono e3).mono e4,r4,h5,post.ext (((e1.trans e2).trans e3).trans e4)⟩⟩
 | _=>cases hm
theorem Mc{op op':CmpOp}{f g:ac->D->D->Option D}(ho:OpR X (compareOp op) (nz X.K f))(ho':OpR X (compareOp op') (nz X.K g))(ha:DE X a ma)(hb:DE X b mb)(hc:DE X c mc)
  (hm:lastMarks [op,op'] [b,c]=false:=by with_unfolding_all rfl):DE X (.Compare a [op,op'] [b,c] pos) (cX f g ma mb mc):=
 PE.imp (JC ho ho' ha hb hc hm) fun _ _ _ h=>vz h
theorem LF{op op':CmpOp}{f g:ac->D->D->Option D}(ho:OpR X (compareOp op) (nz X.K f))(ho':OpR X (compareOp op') (nz X.K g))(ha:DE X a ma)(hb:DE X b mb)(hc:DE X c mc)
  (hm:lastMarks [op,op'] [b,c]=false:=by with_unfolding_all rfl):DT X (.Compare a [op,op'] [b,c] pos) (ay (cX f g ma mb mc)):=
 PT.imp (Jl ho ho' ha hb hc hm) fun σ H Q ⟨μ,S,env,k,S',hS,hE,hm,post⟩=>by
  have h:=sZ hm
  refine vz ⟨μ,S,env,_,S',hS,hE,h,fun v H' μ' e s r=>?_⟩
  exact⟨k,r.bl_inv,post H' μ' e s⟩
noncomputable def oF(S:ac):D->Option Bool
 | .non=>some false
 | .bl b=>some b
 | .int i=>some (i != 0)
 | .str y=>if y.length<=sizeLine then some ((y.length:Int) != 0) else none
 | .tup xs=>some (!xs.isEmpty)
 | .lst xs=>some (!xs.isEmpty)
 | .rol xs=>some (!xs.isEmpty)
 | .dct ks _=>some (!ks.isEmpty)
 | .ref r=>match S[r]? with
  | some (.lst xs)=>some (!xs.isEmpty)
  | some (.dct ks _)=>some (!ks.isEmpty)
  | none=>none
theorem Reps.isEmpty{vs:List V}{ds:List D}(r:Reps K μ H vs ds):(!ds.isEmpty) = !vs.isEmpty:=by cases r <;> rfl
theorem qF{α β:Type}(f:α->β)(l:List α):(!(l.map f).isEmpty) = !l.isEmpty:=by cases l <;> rfl
theorem rB{x:V}{d:D}{k:Bool}(s:SOk K μ S H)(r:Rep K μ H x d)(h:oF S d=some k):Ik K x H k:=by
 cases r with
 | non=>cases h;rfl
 | bl b=>cases h;rfl
 | int i=>cases h;rfl
 | str y=>
  simp only [oF] at h
  split at h
  ·rename_i hy;cases h;exact⟨hy,rfl⟩
  ·cases h
 | @tup a vs ds h' n r=>cases h;exact .inr (.inl ⟨vs,.inl (.inl h'),r.isEmpty⟩)
 | @ktup a vs ds h' r=>cases h;exact .inr (.inl ⟨vs,.inr h',r.isEmpty⟩)
 | @lst a vs ds h' n r=>cases h;exact .inl ⟨vs,.inl (.inl h'),r.isEmpty⟩
 | @rol a vs ds h' n r=>cases h;exact .inl ⟨vs,.inl h',r.isEmpty⟩
 | @krol a vs ds h' r=>cases h;exact .inl ⟨vs,.inr h',r.isEmpty⟩
 | @dct a kvs ds h' n r=>cases h;exact .inr (.inr ⟨kvs,h',qF _ _⟩)
 | @ref a i h'=>
  simp only [oF] at h
  cases q:S[i]? with
  | none=>rw [q] at h;cases h
  | some c=>
   rw [q] at h
   have ck:=s.cell i a c h' q
   cases c with
   | lst xs=>cases h;obtain⟨vs,e,r⟩:=ck;exact .inl ⟨vs,.inl (.inl e),r.isEmpty⟩
   | dct ks xs=>cases h;obtain⟨kvs,e,rfl,r⟩:=ck;exact .inr (.inr ⟨kvs,e,qF _ _⟩)
noncomputable def cW(m:ME):MT:=fun env S=>(m env S).bind fun p=>(oF p.2 p.1).bind fun k=>some (k,p.2)
theorem By(ha:DE X a ma)(he:∀ whole,isTrue a X.env whole=(do let v <- whole;standAt a.pos;holding [v] (truthy v)):=by intro _;rfl):DT X a (cW ma):=
 PT.imp (Jk ha he) fun σ H Q ⟨μ,S,env,k,S',hS,hE,hm,post⟩=>by
  obtain⟨⟨x,S1⟩,h1,hm⟩:=Option.bind_eq_some_iff.mp hm
  obtain⟨k',h2,hm⟩:=Option.bind_eq_some_iff.mp hm
  cases hm
  exact⟨μ,S,env,x,S1,hS,hE,h1,fun v H' μ' e s r=>⟨k,rB s r h2,post H' μ' e s⟩⟩
variable{ta tb tc:MT}{rest:List Expr}
noncomputable def dh(a b:MT):MT:=fun env S=>(a env S).bind fun p=>if p.1=true then b env p.2 else some (false,p.2)
noncomputable def eV(a b:MT):MT:=fun env S=>(a env S).bind fun p=>if p.1=true then some (true,p.2) else b env p.2
noncomputable def dJ(a:MT):MT:=fun env S=>(a env S).bind fun p=>some (!p.1,p.2)
theorem MM{σ:L2.St}{Q:Bool->Hp->Prop}(h:Ca K (dh ta tb) σ H Q):tAnd (Ca K ta) (Ca K tb) σ H Q:=by
 obtain⟨μ,S,env,k,S',hS,hE,hm,post⟩:=h
 obtain⟨⟨x,S1⟩,h1,hm⟩:=Option.bind_eq_some_iff.mp hm
 refine⟨μ,S,env,x,S1,hS,hE,h1,fun H1 μ1 e1 s1=>?_⟩
 cases x with
 | true=>rw [if_pos rfl] at hm ⊢;exact⟨μ1,S1,env,k,S',s1,hE.mono e1,hm,fun H2 μ2 e2 s2=>post H2 μ2 (e1.trans e2) s2⟩
 | false=>rw [if_neg Bool.false_ne_true] at hm ⊢;cases hm;exact post H1 μ1 e1 s1
theorem QO{σ:L2.St}{Q:Bool->Hp->Prop}(h:Ca K (eV ta tb) σ H Q):tOr (Ca K ta) (Ca K tb) σ H Q:=by
 obtain⟨μ,S,env,k,S',hS,hE,hm,post⟩:=h
 obtain⟨⟨x,S1⟩,h1,hm⟩:=Option.bind_eq_some_iff.mp hm
 refine⟨μ,S,env,x,S1,hS,hE,h1,fun H1 μ1 e1 s1=>?_⟩
 cases x with
 | false=>rw [if_neg Bool.false_ne_true] at hm ⊢;exact⟨μ1,S1,env,k,S',s1,hE.mono e1,hm,fun H2 μ2 e2 s2=>post H2 μ2 (e1.trans e2) s2⟩
 | true=>rw [if_pos rfl] at hm ⊢;cases hm;exact post H1 μ1 e1 s1
theorem Fz(ha:DT X a ta):DW X (.BoolOp .And [a] pos) ta:=Nf ha
theorem LA(ha:DT X a ta):DW X (.BoolOp .Or [a] pos) ta:=QZ ha
theorem LB(ha:DT X a ta)(hb:DW X (.BoolOp .And (b::rest) pos) tb):DW X (.BoolOp .And (a::b::rest) pos) (dh ta tb):=PW.imp (Ra ha hb) fun _ _ _ h=>MM h
theorem Qr(ha:DT X a ta)(hb:DW X (.BoolOp .Or (b::rest) pos) tb):DW X (.BoolOp .Or (a::b::rest) pos) (eV ta tb):=PW.imp (pw_or ha hb) fun _ _ _ h=>QO h
theorem OI(h:DW X a ta):DT X a ta:=PW.pt h
theorem Tk(ha:DT X a ta):DT X (.UnaryOp .Not a pos) (dJ ta):=PT.imp (Rb ha) fun σ H Q ⟨μ,S,env,k,S',hS,hE,hm,post⟩=>by
 obtain⟨⟨x,S1⟩,h1,hm⟩:=Option.bind_eq_some_iff.mp hm
 cases hm
 exact⟨μ,S,env,x,S1,hS,hE,h1,fun H1 μ1 e1 s1=>post H1 μ1 e1 s1⟩
noncomputable def du(a b:ME):ME:=fun env S=>(a env S).bind fun p=>match p.1 with | .bl true=>b env p.2 | .bl false=>some (.bl false,p.2) | _=>none
noncomputable def ve(a b:ME):ME:=fun env S=>(a env S).bind fun p=>match p.1 with | .bl false=>b env p.2 | .bl true=>some (.bl true,p.2) | _=>none
theorem LX{op}(h:DE X a ma):DE X (.BoolOp op [a] pos) ma:=Rr h
noncomputable def gH(a:ME):ME:=fun env S=>(a env S).bind fun p=>match p.1 with | .bl k=>some (.bl (!k),p.2) | _=>none
noncomputable def lJ(t:MT)(a b:ME):ME:=fun env S=>(t env S).bind fun p=>if p.1=true then a env p.2 else b env p.2
theorem de_if(hc:DT X c tc)(ha:DE X a ma)(hb:DE X b mb):DE X (.IfExp c a b pos) (lJ tc ma mb):=PE.imp (Jz hc ha hb) fun σ H Q ⟨μ,S,env,d,S',hS,hE,hm,post⟩=>by
 obtain⟨⟨x,S1⟩,h1,hm⟩:=Option.bind_eq_some_iff.mp hm
 refine⟨μ,S,env,x,S1,hS,hE,h1,fun H1 μ1 e1 s1=>?_⟩
 cases x with
 | true=>rw [if_pos rfl] at hm ⊢;exact⟨μ1,S1,env,d,S',s1,hE.mono e1,hm,post.ext e1⟩
 | false=>rw [if_neg Bool.false_ne_true] at hm ⊢;exact⟨μ1,S1,env,d,S',s1,hE.mono e1,hm,post.ext e1⟩
variable{es:List Expr}{ms:MA}
noncomputable def ah:MA:=fun _ S=>some ([],S)
noncomputable def aa(a:ME)(r:MA):MA:=fun env S=>(a env S).bind fun p=>(r env p.2).bind fun q=>some (p.1::q.1,q.2)
theorem TN:DA X [] ah:=PA.imp JG fun σ H Q ⟨μ,S,env,d,S',hS,hE,hm,post⟩=>by cases hm;exact post [] H μ hS.ext hS .nil
theorem Pe(ha:DE X a ma)(hr:DA X es ms)(hs:starEach (a::es) X.env=(false,eval a X.env)::starEach es X.env:=by rfl):DA X (a::es) (aa ma ms):=PA.imp (xI ha hr hs) fun σ H Q ⟨μ,S,env,ds,S',hS,hE,hm,post⟩=>by
 obtain⟨⟨x,S1⟩,h1,hm⟩:=Option.bind_eq_some_iff.mp hm
 obtain⟨⟨xs,S2⟩,h2,hm⟩:=Option.bind_eq_some_iff.mp hm
 cases hm
 exact⟨μ,S,env,x,S1,hS,hE,h1,fun v H1 μ1 e1 s1 r1=>⟨μ1,S1,env,xs,S2,s1,hE.mono e1,h2,fun vs H2 μ2 e2 s2 r2=>post (v::vs) H2 μ2 (e1.trans e2) s2 (.cons (r1.mono e2) r2)⟩⟩
noncomputable def aM(ms:MA):ME:=fun env S=>(ms env S).bind fun p=>if p.1.length<=sizeLine then some (.tup p.1,p.2) else none
noncomputable def ej(ms:MA):ME:=fun env S=>(ms env S).bind fun p=>if p.1.length<=sizeLine then some (.lst p.1,p.2) else none
noncomputable def dZ(ms:MA):ME:=fun env S=>(ms env S).bind fun p=>if p.1.length<=sizeLine then some (.ref p.2.length,p.2++[.lst p.1]) else none
theorem Post.tup{vs:List V}{ds:List D}{Q:VK}{p:Addr}(post:Post K μ H S (.tup ds) Q)(s:SOk K μ S H)(hp:H p=none)(r:Reps K μ H vs ds):Q (.ref p) (upd H p (.tup vs)):=by
 obtain⟨e,s'⟩:=s.laid (o:=.tup vs) hp
 exact post _ _ _ e s' (.tup bq (s.notMem hp) (r.mono e))
theorem Post.lst{vs:List V}{ds:List D}{Q:VK}{p:Addr}(post:Post K μ H S (.lst ds) Q)(s:SOk K μ S H)(hp:H p=none)(r:Reps K μ H vs ds):Q (.ref p) (upd H p (.lst vs)):=by
 obtain⟨e,s'⟩:=s.laid (o:=.lst vs) hp
 exact post _ _ _ e s' (.lst bq (s.notMem hp) (r.mono e))
theorem Post.lstR{vs:List V}{ds:List D}{Q:VK}{p:Addr}(post:Post K μ H (S++[.lst ds]) (.ref S.length) Q)(s:SOk K μ S H)(hp:H p=none)(r:Reps K μ H vs ds):Q (.ref p) (upd H p (.lst vs)):=by
 obtain⟨e,s'⟩:=s.alloc hp r
 exact post _ _ _ e s' (.ref (by rw [<- s.len,List.getElem?_append_right (Nat.le_refl _)];simp))
theorem Tz{k}(h:DA X es ms):DE X (.Tuple es k pos) (aM ms):=PE.imp (Ro h) fun σ H Q ⟨μ,S,env,d,S',hS,hE,hm,post⟩=>by
 obtain⟨⟨xs,S1⟩,h1,hm⟩:=Option.bind_eq_some_iff.mp hm
 dsimp only at hm
 split at hm
 ·rename_i hl
  cases hm
  exact⟨μ,S,env,_,_,hS,hE,h1,fun vs H1 μ1 e1 s1 r1=>⟨by rw [r1.length];exact hl,fun p hp=>(post.ext e1).tup s1 hp r1⟩⟩
 ·cases hm
theorem TH(h:DA X es ms):DE X (.List es pos) (ej ms):=PE.imp (Jx h) fun σ H Q ⟨μ,S,env,d,S',hS,hE,hm,post⟩=>by
 obtain⟨⟨xs,S1⟩,h1,hm⟩:=Option.bind_eq_some_iff.mp hm
 dsimp only at hm
 split at hm
 ·rename_i hl
  cases hm
  exact⟨μ,S,env,_,_,hS,hE,h1,fun vs H1 μ1 e1 s1 r1=>⟨by rw [r1.length];exact hl,fun p hp=>(post.ext e1).lst s1 hp r1⟩⟩
 ·cases hm
theorem OW(h:DA X es ms):DE X (.List es pos) (dZ ms):=PE.imp (Jx h) fun σ H Q ⟨μ,S,env,d,S',hS,hE,hm,post⟩=>by
 obtain⟨⟨xs,S1⟩,h1,hm⟩:=Option.bind_eq_some_iff.mp hm
 dsimp only at hm
 split at hm
 ·rename_i hl
  cases hm
  exact⟨μ,S,env,_,_,hS,hE,h1,fun vs H1 μ1 e1 s1 r1=>⟨by rw [r1.length];exact hl,fun p hp=>(post.ext e1).lstR s1 hp r1⟩⟩
 ·cases hm
theorem OY:DE X (.Dict [] [] pos) (mC (.dct [] [])):=PE.imp JA fun σ H Q ⟨μ,S,env,d,S',hS,hE,hm,post⟩=>by
 cases hm
 intro p hp
 obtain⟨e,s'⟩:=hS.laid (o:=.dK []) hp
 exact post _ _ _ e s' (.dct (kvs:=[]) bq (hS.notMem hp) .nil)
end
end
end M
namespace M
open PySem PySem.Spec PyProof.Rows L2
mutual
noncomputable def jA:D->D->Bool
 | .non,.non=>true
 | .bl a,.bl b=>a == b
 | .bl a,.int b=>(if a then 1 else 0) == b
 | .int a,.bl b=>a == (if b then 1 else 0)
 | .int a,.int b=>a == b
 | .str a,.str b=>a == b
 | .tup xs,.tup ys=>eqDs xs ys
 | .lst xs,.lst ys=>eqDs xs ys
 | _,_=>false
noncomputable def eqDs:List D->List D->Bool
 | [],[]=>true
 | x::xs,y::ys=>jA x y&&eqDs xs ys
 | _,_=>false
end
noncomputable def cI:Nat->D->Bool
 | _,.non=>true
 | _,.bl _=>true
 | _,.int _=>true
 | _,.str _=>true
 | n+1,.tup xs=>xs.all (cI n)
 | n+1,.lst xs=>xs.all (cI n)
 | _,_=>false
theorem sH:∀ {n m:Nat} {d:D},n<=m->cI n d=true->cI m d=true
 | n,m,.non,_,_=>by simp [cI]
 | n,m,.bl _,_,_=>by simp [cI]
 | n,m,.int _,_,_=>by simp [cI]
 | n,m,.str _,_,_=>by simp [cI]
 | 0,m,.tup _,_,h=>by simp [cI] at h
 | 0,m,.lst _,_,h=>by simp [cI] at h
 | n+1,m+1,.tup xs,hl,h=>by
  simp only [cI,List.all_eq_true] at h ⊢
  exact fun d hd=>sH (Nat.le_of_succ_le_succ hl) (h d hd)
 | n+1,m+1,.lst xs,hl,h=>by
  simp only [cI,List.all_eq_true] at h ⊢
  exact fun d hd=>sH (Nat.le_of_succ_le_succ hl) (h d hd)
 | n+1,0,.tup _,hl,_=>absurd hl (by omega)
 | n+1,0,.lst _,hl,_=>absurd hl (by omega)
 | n,m,.rol _,_,h=>by cases n <;> simp [cI] at h
 | n,m,.dct _ _,_,h=>by cases n <;> simp [cI] at h
 | n,m,.ref _,_,h=>by cases n <;> simp [cI] at h
theorem yQ:∀ (xs ys:List D),eqDs xs ys=((List.range (min xs.length ys.length)).all (fun j=>match xs[j]?,ys[j]? with | some a,some b=>jA a b | _,_=>true)&&xs.length == ys.length)
 | [],[]=>rfl
 | [],y::ys=>by simp [eqDs]
 | x::xs,[]=>by simp [eqDs]
 | x::xs,y::ys=>by
  have ih:=yQ xs ys
  rw [eqDs,ih]
  have hm:min (x::xs).length (y::ys).length=min xs.length ys.length+1:=by simp only [List.length_cons];omega
  rw [hm,List.range_succ_eq_map,List.all_cons,List.all_map]
  simp only [List.getElem?_cons_zero,List.length_cons,Bool.and_assoc]
  congr 1
  congr 1
  rw [Bool.eq_iff_iff];simp
section
variable{X:Cx}{pins:List (Addr×Obj)}{σ:L2.St}{H:Hp}{s:Shared}{μ:Fp}{A:Around}
theorem Rep.sqT{K:PySem.W.Frag}{v:V}{ds:List D}(r:Rep K μ H v (.tup ds)):∃ a vs,v=.ref a/\lI K H a vs/\Reps K μ H vs ds:=by
 cases r with
 | tup h n r=>exact⟨_,_,rfl,.inl (.inl h),r⟩
 | ktup h r=>exact⟨_,_,rfl,.inr h,r⟩
theorem Rep.sqL{K:PySem.W.Frag}{v:V}{ds:List D}(r:Rep K μ H v (.lst ds)):∃ a vs,v=.ref a/\H a=some (.lst vs)/\μ.no a/\Reps K μ H vs ds:=by
 cases r with
 | lst h n r=>exact⟨_,_,rfl,h,n,r⟩
theorem Rep.sqR{K:PySem.W.Frag}{v:V}{ds:List D}(r:Rep K μ H v (.rol ds)):∃ a vs,v=.ref a/\nE K H a vs/\Reps K μ H vs ds:=by
 cases r with
 | rol h n r=>exact⟨_,_,rfl,.inl h,r⟩
 | krol h r=>exact⟨_,_,rfl,.inr h,r⟩
theorem ntl(I:Inv X pins σ H s){a:Addr}{xs ys:List V}(h:lI X.K H a xs)(h':nE X.K H a ys):False:=by
 obtain⟨its,_,⟨o,e,c,_⟩,_⟩:=I.tuple h
 obtain⟨its',_,⟨o',n',e',c',_⟩,_⟩:=I.list h'
 rw [e] at e';cases e'
 rw [c] at c'
 exact absurd c' (by simp)
theorem Rep.non_inv{K:PySem.W.Frag}{v:V}(h:Rep K μ H v .non):v=.non:=by cases h;rfl
theorem ED{n:Nat}{xs:List D}:cI n (.rol xs)=false:=by cases n <;> rfl
theorem EF{n:Nat}{ks:List bC}{xs:List D}:cI n (.dct ks xs)=false:=by cases n <;> rfl
theorem EE{n:Nat}{r:Nat}:cI n (.ref r)=false:=by cases n <;> rfl
theorem rG{n:Nat}{xs:List D}(h:cI n (.tup xs)=true):∃ m,m+1=n/\∀ x∈xs,cI m x=true:=by
 cases n with
 | zero=>cases h
 | succ n=>exact⟨n,rfl,List.all_eq_true.mp h⟩
theorem rH{n:Nat}{xs:List D}(h:cI n (.lst xs)=true):∃ m,m+1=n/\∀ x∈xs,cI m x=true:=by
 cases n with
 | zero=>cases h
 | succ n=>exact⟨n,rfl,List.all_eq_true.mp h⟩
inductive Fm(K:PySem.W.Frag)(μ:Fp)(H:Hp):D->V->Prop
 | non:Fm K μ H .non .non
 | bl (b:Bool):Fm K μ H (.bl b) (.bl b)
 | int (i:Int):Fm K μ H (.int i) (.int i)
 | str (x:Str):Fm K μ H (.str x) (.str x)
 | tup {xs:List D} {l:Addr} {vs:List V} (q:lI K H l vs) (r:Reps K μ H vs xs):Fm K μ H (.tup xs) (.ref l)
 | lst {xs:List D} {l:Addr} {vs:List V} (q:nE K H l vs) (r:Reps K μ H vs xs):Fm K μ H (.lst xs) (.ref l)
theorem qR{K:PySem.W.Frag}{n:Nat}{x:D}{a:V}(hx:cI n x=true)(r:Rep K μ H a x):Fm K μ H x a:=by
 cases x with
 | non=>rw [r.non_inv];exact .non
 | bl b=>rw [r.bl_inv];exact .bl b
 | int b=>rw [r.int_inv];exact .int b
 | str b=>rw [r.str_inv];exact .str b
 | tup xs=>obtain⟨l,vs,rfl,q,r⟩:=r.sqT;exact .tup q r
 | lst xs=>obtain⟨l,vs,rfl,q,_,r⟩:=r.sqL;exact .lst (.inl (.inl q)) r
 | rol _=>rw [ED] at hx;cases hx
 | dct _ _=>rw [EF] at hx;cases hx
 | ref _=>rw [EE] at hx;cases hx
theorem Reps.injN{K:PySem.W.Frag}{n:Nat}(ih:∀ {v:V} {x y:D},cI n x=true->cI n y=true->Rep K μ H v x->Rep K μ H v y->x=y):∀ {vs:List V} {xs ys:List D},(∀ x∈xs,cI n x=true)->(∀ y∈ys,cI n y=true)->Reps K μ H vs xs->Reps K μ H vs ys->xs=ys
 | _,_,_,_,_,.nil,.nil=>rfl
 | _,_,_,hx,hy,.cons h t,.cons h' t'=>by
  rw [ih (hx _ List.mem_cons_self) (hy _ List.mem_cons_self) h h',Reps.injN ih (fun x m=>hx x (List.mem_cons_of_mem _ m)) (fun x m=>hy x (List.mem_cons_of_mem _ m)) t t']
theorem Bc(I:Inv X pins σ H s)(n:Nat)(ih:∀ m,m+1=n->∀ {v:V} {x y:D},cI m x=true->cI m y=true->Rep X.K μ H v x->Rep X.K μ H v y->x=y){v:V}{x y:D}(hx:cI n x=true)(hy:cI n y=true)(rx:Rep X.K μ H v x)(ry:Rep X.K μ H v y):x=y:=by
 have fy:=qR hy ry
 cases x with
 | tup xs=>
  obtain⟨a,vs,rfl,q,r⟩:=rx.sqT
  obtain⟨m,hm,ox⟩:=rG hx
  cases fy with
  | tup q' r'=>
   cases I.tuple_inj q' q
   obtain⟨m',hm',oy⟩:=rG hy
   have:m'=m:=by omega
   subst this
   rw [Reps.injN (ih m' hm) ox oy r r']
  | lst q' _=>exact(ntl I q q').elim
 | lst xs=>
  obtain⟨a,vs,rfl,q,_,r⟩:=rx.sqL
  obtain⟨m,hm,ox⟩:=rH hx
  cases y with
  | lst ys=>
   obtain⟨m',hm',oy⟩:=rH hy
   have:m'=m:=by omega
   subst this
   obtain⟨a',vs',e,q',_,r'⟩:=ry.sqL
   cases e
   rw [q] at q';cases q'
   rw [Reps.injN (ih m' hm) ox oy r r']
  | _=>cases fy <;> exact(ntl I (by assumption) (.inl (.inl q))).elim
 | non=>rw [rx.non_inv] at fy;cases fy;rfl
 | bl b=>rw [rx.bl_inv] at fy;cases fy;rfl
 | int b=>rw [rx.int_inv] at fy;cases fy;rfl
 | str b=>rw [rx.str_inv] at fy;cases fy;rfl
 | rol _=>rw [ED] at hx;cases hx
 | dct _ _=>rw [EF] at hx;cases hx
 | ref _=>rw [EE] at hx;cases hx
theorem Rep.inj(I:Inv X pins σ H s)(n:Nat):∀ {v:V} {x y:D},cI n x=true->cI n y=true->Rep X.K μ H v x->Rep X.K μ H v y->x=y:=by
 induction n with
 | zero=>exact fun hx hy rx ry=>Bc I 0 (fun m h=>absurd h (Nat.succ_ne_zero m)) hx hy rx ry
 | succ n ih=>exact fun hx hy rx ry=>Bc I (n+1) (fun m h=>by cases h;exact ih) hx hy rx ry
theorem mB:∀ (n:Nat) (x:D),cI n x=true->jA x x=true
 | n,.non,_=>rfl
 | n,.bl _,_=>by simp [jA]
 | n,.int _,_=>by simp [jA]
 | n,.str _,_=>by simp [jA]
 | 0,.tup _,h=>by simp [cI] at h
 | 0,.lst _,h=>by simp [cI] at h
 | n+1,.tup xs,h=>by
  simp only [cI,List.all_eq_true] at h
  rw [jA]
  induction xs with
  | nil=>rfl
  | cons x xs ih=>rw [eqDs,mB n x (h x List.mem_cons_self),ih fun y m=>h y (List.mem_cons_of_mem _ m)];rfl
 | n+1,.lst xs,h=>by
  simp only [cI,List.all_eq_true] at h
  rw [jA]
  induction xs with
  | nil=>rfl
  | cons x xs ih=>rw [eqDs,mB n x (h x List.mem_cons_self),ih fun y m=>h y (List.mem_cons_of_mem _ m)];rfl
 | n,.rol _,h=>by cases n <;> simp [cI] at h
 | n,.dct _ _,h=>by cases n <;> simp [cI] at h
 | n,.ref _,h=>by cases n <;> simp [cI] at h
open PySem.SeqAt
theorem wl(A:Around):A.in1.units=A.units+1:=rfl
theorem wf{its its2:List Value}{vs ws:List V}{xs ys:List D}{P:Value->Value->Bool->Prop}(r1:Vals vs its)(q1:Reps X.K μ H vs xs)(r2:Vals ws its2)(q2:Reps X.K μ H ws ys)
  (h:∀ (j:Nat) (v w:V) (u u':Value) (x y:D),xs[j]?=some x->ys[j]?=some y->Rep X.K μ H v x->Rep X.K μ H w y->RelV v u->RelV w u'->P u u' (jA x y)) :
  ∀ j (h1:j<its.toArray.size) (h2:j<its2.toArray.size),P its.toArray[j] its2.toArray[j] (match xs[j]?,ys[j]? with | some a,some b=>jA a b | _,_=>true):=fun j h1 h2=>by
 have l1:=r1.length
 have l2:=r2.length
 have m1:=q1.length
 have m2:=q2.length
 have h1':j<its.length:=by simpa using h1
 have h2':j<its2.length:=by simpa using h2
 have hx:xs[j]?=some xs[j]:=List.getElem?_eq_getElem (by omega)
 have hy:ys[j]?=some ys[j]:=List.getElem?_eq_getElem (by omega)
 obtain⟨v,e1,p1⟩:=q1.get hx
 obtain⟨w,e2,p2⟩:=q2.get hy
 obtain⟨u,f1,g1⟩:=r1.get e1
 obtain⟨u',f2,g2⟩:=r2.get e2
 rw [hx,hy]
 have:=h j v w u u' _ _ hx hy p1 p2 g1 g2
 have f1':its.toArray[j]=u:=by simpa [List.getElem?_eq_getElem h1'] using f1
 have f2':its2.toArray[j]=u':=by simpa [List.getElem?_eq_getElem h2'] using f2
 rw [f1',f2']
 exact this
structure Ut(A:Around)(s:Shared)(u v:Value)(b:Bool):Prop where
 eq:EqAt A s u v b
 rc:RcAt A s u v b
 ne:RcNeAt A s u v (!b)
theorem Fx(I:Inv X pins σ H s)(n:Nat)(ih:∀ m,m+1=n->∀ (A:Around) {a b:V} {u v:Value} {x y:D},A.units+m<cLine->cI m x=true->cI m y=true->Rep X.K μ H a x->Rep X.K μ H b y->RelV a u->RelV b v->Ut A s u v (jA x y))
  (A:Around) {a b:V} {u v:Value} {x y:D} (hn:A.units+n<cLine) (hx:cI n x=true) (hy:cI n y=true) (rx:Rep X.K μ H a x) (ry:Rep X.K μ H b y) (ra:RelV a u) (rb:RelV b v):Ut A s u v (jA x y):=by
 have hu:A.units<cLine:=by omega
 cases qR hx rx with
 | non=>
  cases ra
  cases qR hy ry with
  | non=>cases rb;exact⟨EqAt.same _,RcAt.none_none,RcNeAt.none_none⟩
  | bl b=>cases rb;exact⟨EqAt.none_bool b,RcAt.none_bool b,RcNeAt.none_bool b⟩
  | int b=>obtain⟨t,rfl⟩:=rb;exact⟨EqAt.none_int b t,RcAt.none_int b t,RcNeAt.none_int b t⟩
  | str b=>obtain⟨t,rfl⟩:=rb;exact⟨EqAt.none_str b t,RcAt.none_str b t,RcNeAt.none_str b t⟩
  | tup q r=>cases rb;obtain⟨its,rv,p,_⟩:=I.tuple q;exact⟨EqAt.none_tuple p hu,RcAt.none_tuple p hu,RcNeAt.none_tuple p hu⟩
  | lst q r=>cases rb;obtain⟨its,rv,p,_⟩:=I.list q;exact⟨EqAt.none_list p.isList hu,RcAt.none_list p.isList hu,RcNeAt.none_list p.isList hu⟩
 | bl a=>
  cases ra
  cases qR hy ry with
  | non=>cases rb;exact⟨EqAt.bool_none a,RcAt.bool_none a,RcNeAt.bool_none a⟩
  | bl b=>cases rb;exact⟨EqAt.bool_bool a b,RcAt.bool_bool a b,RcNeAt.bool_bool a b⟩
  | int b=>obtain⟨t,rfl⟩:=rb;exact⟨EqAt.bool_int a b t,RcAt.bool_int a b t,RcNeAt.bool_int a b t⟩
  | str b=>obtain⟨t,rfl⟩:=rb;exact⟨EqAt.bool_str a b t,RcAt.bool_str a b t,RcNeAt.bool_str a b t⟩
  | tup q r=>cases rb;obtain⟨its,rv,p,_⟩:=I.tuple q;exact⟨EqAt.bool_tuple a p hu,RcAt.bool_tuple a p hu,RcNeAt.bool_tuple a p hu⟩
  | lst q r=>cases rb;obtain⟨its,rv,p,_⟩:=I.list q;exact⟨EqAt.bool_list a p.isList hu,RcAt.bool_list a p.isList hu,RcNeAt.bool_list a p.isList hu⟩
 | int a=>
  obtain⟨t',rfl⟩:=ra
  cases qR hy ry with
  | non=>cases rb;exact⟨EqAt.int_none a t',RcAt.int_none a t',RcNeAt.int_none a t'⟩
  | bl b=>cases rb;exact⟨EqAt.int_bool a t' b,RcAt.int_bool a t' b,RcNeAt.int_bool a t' b⟩
  | int b=>obtain⟨t,rfl⟩:=rb;exact⟨EqAt.int_int a t' b t,RcAt.int_int a t' b t,RcNeAt.int_int a t' b t⟩
  | str b=>obtain⟨t,rfl⟩:=rb;exact⟨EqAt.int_str a t' b t,RcAt.int_str a t' b t,RcNeAt.int_str a t' b t⟩
  | tup q r=>cases rb;obtain⟨its,rv,p,_⟩:=I.tuple q;exact⟨EqAt.int_tuple a t' p hu,RcAt.int_tuple a t' p hu,RcNeAt.int_tuple a t' p hu⟩
  | lst q r=>cases rb;obtain⟨its,rv,p,_⟩:=I.list q;exact⟨EqAt.int_list a t' p.isList hu,RcAt.int_list a t' p.isList hu,RcNeAt.int_list a t' p.isList hu⟩
 | str a=>
  obtain⟨t',rfl⟩:=ra
  cases qR hy ry with
  | non=>cases rb;exact⟨EqAt.str_none a t',RcAt.str_none a t',RcNeAt.str_none a t'⟩
  | bl b=>cases rb;exact⟨EqAt.str_bool a t' b,RcAt.str_bool a t' b,RcNeAt.str_bool a t' b⟩
  | int b=>obtain⟨t,rfl⟩:=rb;exact⟨EqAt.str_int a t' b t,RcAt.str_int a t' b t,RcNeAt.str_int a t' b t⟩
  | str b=>obtain⟨t,rfl⟩:=rb;exact⟨EqAt.str_str a t' b t,RcAt.str_str a t' b t,RcNeAt.str_str a t' b t⟩
  | tup q r=>cases rb;obtain⟨its,rv,p,_⟩:=I.tuple q;exact⟨EqAt.str_tuple a t' p hu,RcAt.str_tuple a t' p hu,RcNeAt.str_tuple a t' p hu⟩
  | lst q r=>cases rb;obtain⟨its,rv,p,_⟩:=I.list q;exact⟨EqAt.str_list a t' p.isList hu,RcAt.str_list a t' p.isList hu,RcNeAt.str_list a t' p.isList hu⟩
 | @tup xs l vs q r=>
  cases ra
  obtain⟨its,rv,p,_⟩:=I.tuple q
  cases qR hy ry with
  | non=>cases rb;exact⟨EqAt.tuple_none p hu,RcAt.tuple_none p hu,RcNeAt.tuple_none p hu⟩
  | bl b=>cases rb;exact⟨EqAt.tuple_bool b p hu,RcAt.tuple_bool b p hu,RcNeAt.tuple_bool b p hu⟩
  | int b=>obtain⟨t,rfl⟩:=rb;exact⟨EqAt.tuple_int b t p hu,RcAt.tuple_int b t p hu,RcNeAt.tuple_int b t p hu⟩
  | str b=>obtain⟨t,rfl⟩:=rb;exact⟨EqAt.tuple_str b t p hu,RcAt.tuple_str b t p hu,RcNeAt.tuple_str b t p hu⟩
  | @tup ys l' vs' q' r'=>
   cases rb
   obtain⟨its',rv',p',_⟩:=I.tuple q'
   obtain⟨m,hm,ox⟩:=rG hx
   obtain⟨m',hm',oy⟩:=rG hy
   have:m'=m:=by omega
   subst this
   have all:=wf (P:=fun u u' b=>EqAt A.in1 s u u' b) rv r rv' r' fun j v w u u' x y hx' hy' q1 q2 g1 g2=>
    (ih m' hm A.in1 (by rw [wl];omega) (ox x (List.mem_of_getElem? hx')) (oy y (List.mem_of_getElem? hy')) q1 q2 g1 g2).eq
   have e0:its.toArray.size=xs.length:=by rw [List.size_toArray,<- rv.length,r.length]
   have e1:its'.toArray.size=ys.length:=by rw [List.size_toArray,<- rv'.length,r'.length]
   have key:=RcAt.tuples (A:=A) (s:=s) p p' hu all
   have kne:=RcNeAt.tuples (A:=A) (s:=s) p p' hu all
   rw [e0,e1,<- yQ] at key kne
   refine⟨?_,key,kne⟩
   by_cases hl:l=l'
   ·subst hl
    rw [<- Rep.inj I n hx hy rx ry,mB _ _ hx]
    exact EqAt.same _
   ·exact EqAt.of_refs hl key
  | lst q' r'=>cases rb;obtain⟨its',rv',p',_⟩:=I.list q';exact⟨EqAt.tuple_list p p'.isList hu,RcAt.tuple_list p p'.isList hu,RcNeAt.tuple_list p p'.isList hu⟩
 | @lst xs l vs q r=>
  cases ra
  obtain⟨its,rv,p0,_⟩:=I.list q
  have p:=p0.isList
  cases qR hy ry with
  | non=>cases rb;exact⟨EqAt.list_none p hu,RcAt.list_none p hu,RcNeAt.list_none p hu⟩
  | bl b=>cases rb;exact⟨EqAt.list_bool b p hu,RcAt.list_bool b p hu,RcNeAt.list_bool b p hu⟩
  | int b=>obtain⟨t,rfl⟩:=rb;exact⟨EqAt.list_int b t p hu,RcAt.list_int b t p hu,RcNeAt.list_int b t p hu⟩
  | str b=>obtain⟨t,rfl⟩:=rb;exact⟨EqAt.list_str b t p hu,RcAt.list_str b t p hu,RcNeAt.list_str b t p hu⟩
  | tup q' r'=>cases rb;obtain⟨its',rv',p',_⟩:=I.tuple q';exact⟨EqAt.list_tuple p p' hu,RcAt.list_tuple p p' hu,RcNeAt.list_tuple p p' hu⟩
  | @lst ys l' vs' q' r'=>
   cases rb
   obtain⟨its',rv',p0',_⟩:=I.list q'
   have p':=p0'.isList
   obtain⟨m,hm,ox⟩:=rH hx
   obtain⟨m',hm',oy⟩:=rH hy
   have:m'=m:=by omega
   subst this
   have all:=wf (P:=fun u u' b=>EqAt A.in1 s u u' b) rv r rv' r' fun j v w u u' x y hx' hy' q1 q2 g1 g2=>
    (ih m' hm A.in1 (by rw [wl];omega) (ox x (List.mem_of_getElem? hx')) (oy y (List.mem_of_getElem? hy')) q1 q2 g1 g2).eq
   have e0:its.toArray.size=xs.length:=by rw [List.size_toArray,<- rv.length,r.length]
   have e1:its'.toArray.size=ys.length:=by rw [List.size_toArray,<- rv'.length,r'.length]
   have key:RcAt A s (.ref l) (.ref l') (eqDs xs ys)/\RcNeAt A s (.ref l) (.ref l') (!eqDs xs ys):=by
    rw [yQ]
    by_cases hlen:xs.length=ys.length
    ·have k1:=RcAt.lists (A:=A) (s:=s) p p' (by rw [e0,e1,hlen]) hu all
     have k2:=RcNeAt.lists (A:=A) (s:=s) p p' (by rw [e0,e1,hlen]) hu all
     rw [e0] at k1 k2
     rw [<- hlen,Nat.min_self,beq_self_eq_true,Bool.and_true]
     exact⟨k1,k2⟩
    ·rw [show (xs.length == ys.length)=false from beq_eq_false_iff_ne.mpr hlen,Bool.and_false]
     exact⟨RcAt.lists_lengths (A:=A) (s:=s) p p' (by rw [e0,e1];exact bne_iff_ne.mpr hlen) hu,RcNeAt.lists_lengths (A:=A) (s:=s) p p' (by rw [e0,e1];exact bne_iff_ne.mpr hlen) hu⟩
   refine⟨?_,key.1,key.2⟩
   by_cases hl:l=l'
   ·subst hl
    rw [<- Rep.inj I n hx hy rx ry,mB _ _ hx]
    exact EqAt.same _
   ·exact EqAt.of_refs hl key.1
theorem TV(I:Inv X pins σ H s)(n:Nat):∀ (A:Around) {a b:V} {u v:Value} {x y:D},A.units+n<cLine->cI n x=true->cI n y=true->Rep X.K μ H a x->Rep X.K μ H b y->RelV a u->RelV b v->Ut A s u v (jA x y):=by
 induction n with
 | zero=>exact fun A _ _ _ _ _ _ hn hx hy rx ry ra rb=>Fx I 0 (fun m h=>absurd h (Nat.succ_ne_zero m)) A hn hx hy rx ry ra rb
 | succ n ih=>exact fun A _ _ _ _ _ _ hn hx hy rx ry ra rb=>Fx I (n+1) (fun m h=>by cases h;exact ih) A hn hx hy rx ry ra rb
theorem eqRc(I:Inv X pins σ H s)(n:Nat)(A:Around){a b:V}{u v:Value}{x y:D}(hn:A.units+n<cLine)(hx:cI n x=true)(hy:cI n y=true)(rx:Rep X.K μ H a x)(ry:Rep X.K μ H b y)(ra:RelV a u)(rb:RelV b v) :
  EqAt A s u v (jA x y)/\RcAt A s u v (jA x y):=⟨(TV I n A hn hx hy rx ry ra rb).eq,(TV I n A hn hx hy rx ry ra rb).rc⟩
theorem neRc(I:Inv X pins σ H s)(n:Nat)(A:Around){a b:V}{u v:Value}{x y:D}(hn:A.units+n<cLine)(hx:cI n x=true)(hy:cI n y=true)(rx:Rep X.K μ H a x)(ry:Rep X.K μ H b y)(ra:RelV a u)(rb:RelV b v) :
  RcNeAt A s u v (!jA x y):=(TV I n A hn hx hy rx ry ra rb).ne
end
end M
namespace M
open PySem PySem.Spec PyProof.Rows L2
section
variable{X:Cx}{pins:List (Addr×Obj)}{σ:L2.St}{H:Hp}{s:Shared}{μ:Fp}{A:Around}
open PySem.SeqAt
end
noncomputable def iI(S:ac):D->Option (List D)
 | .tup xs=>some xs
 | .lst xs=>some xs
 | .rol xs=>some xs
 | .ref r=>match S[r]? with | some (.lst xs)=>some xs | _=>none
 | _=>none
section
variable{X:Cx}{K:PySem.W.Frag}{μ:Fp}{H:Hp}{S:ac}
theorem jD{x:V}{d:D}{ds:List D}(s:SOk K μ S H)(r:Rep K μ H x d)(h:iI S d=some ds):∃ a vs,x=.ref a/\(nE K H a vs\/lI K H a vs)/\Reps K μ H vs ds:=by
 cases r with
 | tup h' n r=>cases h;exact⟨_,_,rfl,.inr (.inl (.inl h')),r⟩
 | ktup h' r=>cases h;exact⟨_,_,rfl,.inr (.inr h'),r⟩
 | lst h' n r=>cases h;exact⟨_,_,rfl,.inl (.inl (.inl h')),r⟩
 | rol h' n r=>cases h;exact⟨_,_,rfl,.inl (.inl h'),r⟩
 | krol h' r=>cases h;exact⟨_,_,rfl,.inl (.inr h'),r⟩
 | @ref a i h'=>
  simp only [iI] at h
  cases q:S[i]? with
  | none=>rw [q] at h;cases h
  | some c=>
   rw [q] at h
   have ck:=s.cell i a c h' q
   cases c with
   | lst xs=>cases h;obtain⟨vs,e,r⟩:=ck;exact⟨_,vs,rfl,.inl (.inl (.inl e)),r⟩
   | dct ks xs=>cases h
 | _=>cases h
noncomputable def bX(S:ac)(x y:D):Option D:=if cI 40 x=true/\cI 40 y=true then some (.bl (jA x y)) else none
noncomputable def gk(S:ac)(x y:D):Option D:=if cI 40 x=true/\cI 40 y=true then some (.bl (!jA x y)) else none
theorem op_Eq(hu:X.A.units+64<cLine):OpR X (compareOp .Eq) (nz X.K bX):=by
 intro pins s σ H x y v u Q I rx ry h
 obtain⟨μ,S,dx,dy,dz,hS,h1,h2,h3,post⟩:=h
 simp only [bX] at h3
 split at h3
 ·rename_i hk
  cases h3
  exact(eqRc I 40 X.A (by omega) hk.1 hk.2 h1 h2 rx ry).2 X.prog X.w X.xe _ ⟨.bl _,H,I,rfl,post.here hS (.bl _)⟩
 ·cases h3
theorem op_Ne(hu:X.A.units+64<cLine):OpR X (compareOp .NotEq) (nz X.K gk):=by
 intro pins s σ H x y v u Q I rx ry h
 obtain⟨μ,S,dx,dy,dz,hS,h1,h2,h3,post⟩:=h
 simp only [gk] at h3
 split at h3
 ·rename_i hk
  cases h3
  exact neRc I 40 X.A (by omega) hk.1 hk.2 h1 h2 rx ry X.prog X.w X.xe _ ⟨.bl _,H,I,rfl,post.here hS (.bl _)⟩
 ·cases h3
open Classical in
def eG(K:PySem.W.Frag)(μ:Fp)(H:Hp)(x:D)(u:Value):Bool:=decide (∃ v d,RelV v u/\Rep K μ H v d/\cI 39 d=true/\jA d x=true)
open Classical in
theorem pF{pins:List (Addr×Obj)}{σ:L2.St}{s:Shared}(I:Inv X pins σ H s){x d:D}{v:V}{u:Value}(rv:RelV v u)(r:Rep X.K μ H v d)(ok:cI 39 d=true):eG X.K μ H x u=jA d x:=by
 unfold eG
 cases e:jA d x with
 | true=>exact decide_eq_true ⟨v,d,rv,r,ok,e⟩
 | false=>
  refine decide_eq_false ?_
  rintro⟨v',d',rv',r',ok',e'⟩
  cases rv.inj rv'
  rw [Rep.inj I 39 ok ok' r r'] at e
  rw [e] at e';cases e'
theorem kK{pins:List (Addr×Obj)}{σ:L2.St}{s:Shared}(I:Inv X pins σ H s){x:D}:∀ {vs:List V} {us:List Value} {ds:List D},Vals vs us->Reps X.K μ H vs ds->(∀ d∈ds,cI 39 d=true) ->
  us.any (eG X.K μ H x)=ds.any fun d=>jA d x
 | _,_,_,.nil,.nil,_=>rfl
 | _,_,_,.cons rv tv,.cons r t,ok=>by
  rw [List.any_cons,List.any_cons,pF I rv r (ok _ List.mem_cons_self),kK I tv t fun d m=>ok d (List.mem_cons_of_mem _ m)]
theorem ga{pins:List (Addr×Obj)}{σ:L2.St}{s:Shared}(I:Inv X pins σ H s){A:Around}(hu:A.units+40<cLine){x:D}{v:V}{u:Value}(rx:RelV v u)(rD:Rep X.K μ H v x)(okx:cI 40 x=true) :
  ∀ {vs:List V} {us:List Value} {ds:List D},Vals vs us->Reps X.K μ H vs ds->(∀ d∈ds,cI 39 d=true)->∀ w∈us,PySem.SeqAt.EqAt A s w u (eG X.K μ H x w)
 | _,_,_,.nil,.nil,_=>fun w hw=>by cases hw
 | _,_,_,.cons rv tv,.cons r t,ok=>fun w hw=>by
  rcases List.mem_cons.mp hw with rfl | hw
  ·rw [pF I rv r (ok _ List.mem_cons_self)]
   exact(eqRc I 40 A hu (sH (by decide) (ok _ List.mem_cons_self)) okx r rD rv rx).1
  ·exact ga I hu rx rD okx tv t (fun d m=>ok d (List.mem_cons_of_mem _ m)) w hw
noncomputable def oB(S:ac)(x y:D):Option D:=(iI S y).bind fun ds=>if cI 40 x=true/\ds.all (cI 39)=true then some (.bl (ds.any fun d=>jA d x)) else none
noncomputable def qm(S:ac)(x y:D):Option D:=(iI S y).bind fun ds=>if cI 40 x=true/\ds.all (cI 39)=true then some (.bl (!ds.any fun d=>jA d x)) else none
theorem op_In(hu:X.A.units+64<cLine):OpR X (compareOp .In) (nz X.K oB):=by
 intro pins s σ H x y v u Q I rx ry h
 obtain⟨μ,S,dx,dy,dz,hS,h1,h2,h3,post⟩:=h
 obtain⟨ds,e,h3⟩:=Option.bind_eq_some_iff.mp h3
 split at h3
 ·rename_i hk
  cases h3
  obtain⟨a,vs,rfl,hq,r⟩:=jD hS h2 e
  cases ry
  have ok:=List.all_eq_true.mp hk.2
  rcases hq with hq | hq
  ·obtain⟨its,rv,pl,hz⟩:=I.list hq
   refine SeqAt.in_listAt (eG X.K μ H dx) pl.isList (fun w hw=>ga I (by show X.A.units+1+40<cLine;omega) rx h1 hk.1 rv r ok w (by simpa using hw)) ⟨.bl _,H,I,rfl,?_⟩
   rw [show its.toArray.any (eG X.K μ H dx)=its.any (eG X.K μ H dx) by simp,kK I rv r ok]
   exact post.here hS (.bl _)
  ·obtain⟨its,rv,pl,hz⟩:=I.tuple hq
   refine SeqAt.in_tupleAt (eG X.K μ H dx) pl (fun w hw=>ga I (by show X.A.units+1+40<cLine;omega) rx h1 hk.1 rv r ok w (by simpa using hw)) ⟨.bl _,H,I,rfl,?_⟩
   rw [show its.toArray.any (eG X.K μ H dx)=its.any (eG X.K μ H dx) by simp,kK I rv r ok]
   exact post.here hS (.bl _)
 ·cases h3
theorem JI(hu:X.A.units+64<cLine):OpR X (compareOp .NotIn) (nz X.K qm):=by
 intro pins s σ H x y v u Q I rx ry h
 obtain⟨μ,S,dx,dy,dz,hS,h1,h2,h3,post⟩:=h
 obtain⟨ds,e,h3⟩:=Option.bind_eq_some_iff.mp h3
 split at h3
 ·rename_i hk
  cases h3
  obtain⟨a,vs,rfl,hq,r⟩:=jD hS h2 e
  cases ry
  have ok:=List.all_eq_true.mp hk.2
  rcases hq with hq | hq
  ·obtain⟨its,rv,pl,hz⟩:=I.list hq
   refine SeqAt.notIn_listAt (eG X.K μ H dx) pl.isList (fun w hw=>ga I (by show X.A.units+1+40<cLine;omega) rx h1 hk.1 rv r ok w (by simpa using hw)) ⟨.bl _,H,I,rfl,?_⟩
   rw [show its.toArray.any (eG X.K μ H dx)=its.any (eG X.K μ H dx) by simp,kK I rv r ok]
   exact post.here hS (.bl _)
  ·obtain⟨its,rv,pl,hz⟩:=I.tuple hq
   refine SeqAt.notIn_tupleAt (eG X.K μ H dx) pl (fun w hw=>ga I (by show X.A.units+1+40<cLine;omega) rx h1 hk.1 rv r ok w (by simpa using hw)) ⟨.bl _,H,I,rfl,?_⟩
   rw [show its.toArray.any (eG X.K μ H dx)=its.any (eG X.K μ H dx) by simp,kK I rv r ok]
   exact post.here hS (.bl _)
 ·cases h3
noncomputable def lY:D->D->Bool
 | .non,.non=>true
 | .bl a,.bl b=>a == b
 | _,_=>false
noncomputable def vj(S:ac)(x y:D):Option D:=match y with | .non=>some (.bl (lY x y)) | .bl _=>some (.bl (lY x y)) | _=>none
noncomputable def mr(S:ac)(x y:D):Option D:=match y with | .non=>some (.bl (!lY x y)) | .bl _=>some (.bl (!lY x y)) | _=>none
theorem KF{x y:V}{dx dy:D}{v u:Value}(h1:Rep K μ H x dx)(h2:Rep K μ H y dy)(rx:RelV x v)(ry:RelV y u)(hy:dy=.non\/∃ b,dy=.bl b):plainIs v u=true/\(v == u)=lY dx dy:=by
 rcases hy with rfl | ⟨b,rfl⟩
 ·cases h2;cases ry
  cases h1 <;> first | (cases rx;exact⟨rfl,rfl⟩) | (obtain⟨t,rfl⟩:=rx;exact⟨rfl,rfl⟩)
 ·cases h2;cases ry
  cases h1 <;> first | (cases rx;exact⟨rfl,rfl⟩) | (obtain⟨t,rfl⟩:=rx;exact⟨rfl,rfl⟩) | (cases rx;rename_i c;refine⟨rfl,?_⟩;cases b <;> cases c <;> rfl)
theorem op_Is:OpR X (compareOp .Is) (nz X.K vj):=by
 intro pins s σ H x y v u Q I rx ry h
 obtain⟨μ,S,dx,dy,dz,hS,h1,h2,h3,post⟩:=h
 have hy:(dy=.non\/∃ b,dy=.bl b)/\dz=.bl (lY dx dy):=by
  cases dy <;> first | (cases h3;exact⟨.inl rfl,rfl⟩) | (cases h3;exact⟨.inr ⟨_,rfl⟩,rfl⟩) | cases h3
 obtain⟨p,e⟩:=KF h1 h2 rx ry hy.1
 cases hy.2
 exact wpAny_is_plain p ⟨.bl _,H,I,congrArg Value.bool e,post.here hS (.bl _)⟩
theorem JJ:OpR X (compareOp .IsNot) (nz X.K mr):=by
 intro pins s σ H x y v u Q I rx ry h
 obtain⟨μ,S,dx,dy,dz,hS,h1,h2,h3,post⟩:=h
 have hy:(dy=.non\/∃ b,dy=.bl b)/\dz=.bl (!lY dx dy):=by
  cases dy <;> first | (cases h3;exact⟨.inl rfl,rfl⟩) | (cases h3;exact⟨.inr ⟨_,rfl⟩,rfl⟩) | cases h3
 obtain⟨p,e⟩:=KF h1 h2 rx ry hy.1
 cases hy.2
 exact wpAny_isNot_plain p ⟨.bl _,H,I,congrArg (fun b=>Value.bool (!b)) e,post.here hS (.bl _)⟩
end
end M
namespace HT
open PySem PySem.Spec PyProof.Rows
section
variable{prog:Program}{w:World}{A:Around}{E:Value->Shared->Prop}{s:Shared}
theorem Pg{t b:Addr}{ws:List Value}{Q:Value->Shared->Prop}(ht:IsTup s.heap t #[])(hb:IsTup s.heap b ws.toArray)(h:Q (.ref b) s):wpAny (model prog w) A (binaryOp .Add (.ref t) (.ref b)) Q E s:=by
 obtain⟨⟨cls,dd,data,sl⟩,ho,hc,n,hd⟩:=id ht
 obtain⟨⟨cls2,dd2,data2,sl2⟩,ho2,hc2,n2,hd2⟩:=id hb
 simp only at hc hd hc2 hd2
 subst hc hd hc2 hd2
 exact concat_meets ⟨_,ho,rfl⟩ ⟨_,ho2,rfl⟩ noFill_tuple_add seq_tuple_add PySem.F.slot_tuple_add PySem.F.entry_tuple_add (PySem.F.args_tuple_add_2 _ _)
   (tuple_addW0 t b #[] ws.toArray n n2 dd dd2 sl sl2 rfl) ⟨ho,ho2,h⟩
theorem nC{t sl:Addr}{items:Array Value}{vl vu:Value}{lo hi:Option Int}{Q:Value->Shared->Prop}(ht:IsTup s.heap t items)(hs:s.heap.IsSliceOf sl vl vu .none)(pl:IsPart vl lo)(pu:IsPart vu hi)
  (hw:eS items.size 0 lo=0/\eS items.size items.size hi=items.size) (h:Q (.ref t) s):wpAny (model prog w) A (getItem (.ref t) (.ref sl)) Q E s:=by
 obtain⟨os,hos,hcs,hds⟩:=id hs
 have hTs:s.TypeIs (.ref sl) "slice":=⟨os,hos,hcs⟩
 unfold getItem
 try with_reducible refine wpAny_holding ?_
 first | refine wpAny_bind (wpAny_pure ?_) | skip
 refine wpAny_bind (wpAny_sequenceKey ht.typeIs (by decide) ?_)
 refine wpAny_bind (wpAny_callSpecial?_slot (name:=Str.ofString "__getitem__") ht.typeIs PyProof.Rows.slot_tuple_getitem
  (wpAny_call_entry PyProof.Rows.slot_tuple_getitem ht.typeIs entry_tuple_getitem ?_ (args_tuple_getitem _ _)))
 show wpAny _ _ (Builtin.Tuple.tupleItemsOf (.ref t) >>= _) _ _ s
 refine wpAny_bind (tupleItemsOf_ ht ?_)
 refine wpAny_bind (wpAny_typeOf hTs ?_)
 rw [if_pos (by decide)]
 refine wpAny_bind (jY hs pl pu ?_)
 have hyes:(((eS items.size 0 lo:Nat):Int) == 0&&(1:Int) == 1&&(eS items.size items.size hi - eS items.size 0 lo) == items.size)=true:=by
  rw [hw.1,hw.2];simp
 show wpAny _ _ (if (((eS items.size 0 lo:Nat):Int) == 0&&(1:Int) == 1&&(eS items.size items.size hi - eS items.size 0 lo) == items.size)=true then _ else _) _ _ s
 rw [if_pos hyes]
 unfold Builtin.Tuple.tupleIsExact
 refine wpAny_bind (wpAny_bind (wpAny_typeOf ht.typeIs (wpAny_pure ?_)))
 rw [if_pos (by decide)]
 exact wpAny_bind (wpAny_rule (wpAny_bind (wpAny_pure (wpAny_pure ⟨_,rfl,wpAny_pure h⟩))))
end
end HT
namespace M
open PySem PySem.Spec PyProof.Rows L2
section
variable{X:Cx}{K:PySem.W.Frag}{μ μ':Fp}{H H':Hp}{S:ac}
noncomputable def Hq(g:Int->Int->D)(S:ac)(x y:D):Option D:=match x,y with | .int i,.int j=>some (g i j) | _,_=>none
noncomputable def Bx(C:Int->Int->Bool)(g:Int->Int->D)(S:ac)(x y:D):Option D:=match x,y with | .int i,.int j=>if C i j=true then some (g i j) else none | _,_=>none
theorem oO{f:Value->Value->Sem Value}{g:Int->Int->V}{g':Int->Int->D}(h:OpR X f (Nb g))(hg:∀ i j μ H,Rep X.K μ H (g i j) (g' i j)):OpR X f (nz X.K (Hq g')):=
 OpR.imp h fun x y H Q ⟨μ,S,dx,dy,dz,hS,h1,h2,h3,post⟩=>by
  cases dx <;> cases dy <;> first | cases h3 | skip
  exact⟨_,_,h1.int_inv,h2.int_inv,post.here hS (hg _ _ _ _)⟩
theorem xJ{f:Value->Value->Sem Value}{C:Int->Int->Prop}{C':Int->Int->Bool}{g:Int->Int->V}{g':Int->Int->D}(h:OpR X f (rI C g))(hC:∀ i j,C' i j=true->C i j)(hg:∀ i j μ H,Rep X.K μ H (g i j) (g' i j)):OpR X f (nz X.K (Bx C' g')):=
 OpR.imp h fun x y H Q ⟨μ,S,dx,dy,dz,hS,h1,h2,h3,post⟩=>by
  cases dx <;> cases dy <;> first | cases h3 | skip
  simp only [Bx] at h3
  split at h3
  ·rename_i hc
   cases h3
   exact⟨_,_,h1.int_inv,h2.int_inv,hC _ _ hc,post.here hS (hg _ _ _ _)⟩
  ·cases h3
noncomputable def nD:=Hq fun i j=>.int (i - j)
noncomputable def Oy:=Hq fun i j=>.bl (decide (i<j))
noncomputable def Oz:=Hq fun i j=>.bl (decide (i<=j))
noncomputable def fGt:=Hq fun i j=>.bl (decide (j<i))
noncomputable def fGe:=Hq fun i j=>.bl (decide (j<=i))
theorem RG:OpR X (binaryOp .Sub) (nz X.K nD):=oO RB fun _ _ _ _=>.int _
theorem op_Lt:OpR X (compareOp .Lt) (nz X.K Oy):=oO op_lt fun _ _ _ _=>.bl _
theorem op_Le:OpR X (compareOp .LtE) (nz X.K Oz):=oO op_le fun _ _ _ _=>.bl _
theorem op_Gt:OpR X (compareOp .Gt) (nz X.K fGt):=oO op_gt fun _ _ _ _=>.bl _
theorem op_Ge:OpR X (compareOp .GtE) (nz X.K fGe):=oO op_ge fun _ _ _ _=>.bl _
noncomputable def lu:=Bx (fun _ j=>decide (0<j)) fun i j=>.int (i % j)
noncomputable def Hr:=Bx (fun _ j=>decide (0<j)&&decide (j<1073741824)) fun i j=>.int (i / j)
noncomputable def vi:=Bx (fun i j=>decide (0<=j)&&decide (j<=1000000)&&decide (i.natAbs<2 ^ 64)) fun i j=>.int (i ^ j.toNat)
theorem RJ:OpR X (binaryOp .Mod) (nz X.K lu):=xJ RE (fun _ _ h=>of_decide_eq_true h) fun _ _ _ _=>.int _
theorem RK:OpR X (binaryOp .FloorDiv) (nz X.K Hr):=xJ NG (fun _ _ h=>by simpa [CDiv] using h) fun _ _ _ _=>.int _
theorem RH:OpR X (binaryOp .Pow) (nz X.K vi):=xJ RD (fun i j h=>by
 simp only [Bool.and_eq_true,decide_eq_true_eq] at h
 exact⟨h.1.1,h.1.2,h.2⟩) fun _ _ _ _=>.int _
def oR(i j:Int):Bool:=decide (i.natAbs<18446744073709551616)||decide (j.natAbs<18446744073709551616)||(decide (i.natAbs<2 ^ 4000)&&decide (j.natAbs<2 ^ 4000))
theorem NQ{i j:Int}(h:oR i j=true):IntMulOk i j:=by
 unfold oR at h
 simp only [Bool.or_eq_true,Bool.and_eq_true,decide_eq_true_eq] at h
 rcases h with (h | h) | h
 ·exact .of_left (intBits_le (k:=64) (by omega))
 ·exact .of_right (intBits_le (k:=64) (by omega))
 ·exact .of_bits (Nat.le_trans (intBits_le (k:=4000) h.1) (by decide)) (Nat.le_trans (intBits_le (k:=4000) h.2) (by decide))
theorem NF:OpR X (binaryOp .Mult) (rI (fun i j=>oR i j=true) fun i j=>.int (i * j)):=opI fun _ _ _ _ _ _ _ hc q=>mul_int q (NQ hc)
noncomputable def SV(S:ac)(x y:D):Option D:=match x,y with
 | .int i,.int j=>if oR i j=true then some (.int (i * j)) else none
 | _,_=>none
theorem RI:OpR X (binaryOp .Mult) (nz X.K SV):=OpR.imp NF fun x y H Q ⟨μ,S,dx,dy,dz,hS,h1,h2,h3,post⟩=>by
 cases dx <;> cases dy <;> first | cases h3 | skip
 simp only [SV] at h3
 split at h3
 ·rename_i hc
  cases h3
  exact⟨_,_,h1.int_inv,h2.int_inv,hc,post.here hS (.int _)⟩
 ·cases h3
noncomputable def Lg(S:ac)(x y:D):Option D:=match x,y with
 | .int i,.int j=>some (.int (i+j))
 | .str i,.str j=>if i.length+j.length<=sizeLine then some (.str (i++j)) else none
 | .tup xs,.tup ys=>if xs.length+ys.length<=sizeLine then some (.tup (xs++ys)) else none
 | .lst xs,.lst ys=>if xs.length+ys.length<=sizeLine then some (.lst (xs++ys)) else none
 | _,_=>none
theorem RL:OpR X (binaryOp .Add) (nz X.K Lg):=by
 intro pins s σ H x y v u Q I rx ry h
 obtain⟨μ,S,dx,dy,dz,hS,h1,h2,h3,post⟩:=h
 cases dx <;> cases dy <;> first | cases h3 | skip
 case int.int i j=>exact RF pins s σ H x y v u Q I rx ry ⟨_,_,h1.int_inv,h2.int_inv,post.here hS (.int _)⟩
 case str.str i j=>
  simp only [Lg] at h3
  split at h3
  ·rename_i hl;cases h3
   exact Cz pins s σ H x y v u Q I rx ry ⟨_,_,h1.str_inv,h2.str_inv,hl,post.here hS (.str _)⟩
  ·cases h3
 case tup.tup xs ys=>
  simp only [Lg] at h3
  split at h3
  ·rename_i hl;cases h3
   have h2':=h2
   have h1':=h1
   obtain⟨a,vs,rfl,q1,r1⟩:=h1.sqT
   obtain⟨b,ws,rfl,q2,r2⟩:=h2.sqT
   have e1:=r1.length
   have e2:=r2.length
   by_cases hv:vs=[]
   ·subst hv
    have hx:xs=[]:=List.eq_nil_of_length_eq_zero (by simpa using e1.symm)
    subst hx
    cases rx;cases ry
    obtain⟨its,rv,p1,_⟩:=I.tuple q1
    obtain⟨its2,rv2,p2,_⟩:=I.tuple q2
    have:its=[]:=rv.nil_iff.mpr rfl
    subst this
    exact HT.Pg p1 p2 ⟨.ref b,H,I,rfl,post.here hS h2'⟩
   ·refine NH pins s σ H _ _ v u Q I rx ry ⟨a,b,vs,ws,rfl,rfl,q1,q2,hv,by omega,fun hw=>?_,fun hw p hp=>post.tup hS hp (r1.append r2)⟩
    subst hw
    have hy:ys=[]:=List.eq_nil_of_length_eq_zero (by simpa using e2.symm)
    subst hy
    rw [List.append_nil] at post
    exact post.here hS h1'
  ·cases h3
 case lst.lst xs ys=>
  simp only [Lg] at h3
  split at h3
  ·rename_i hl;cases h3
   obtain⟨a,vs,rfl,q1,n1,r1⟩:=h1.sqL
   obtain⟨b,ws,rfl,q2,n2,r2⟩:=h2.sqL
   have e1:=r1.length
   have e2:=r2.length
   exact JH pins s σ H _ _ v u Q I rx ry ⟨a,b,vs,ws,rfl,rfl,q1,q2,by omega,fun p hp=>post.lst hS hp (r1.append r2)⟩
  ·cases h3
theorem QH:UnR X (unaryOp .USub) (rM1 X.K fun _ x=>match x with | .int i=>some (.int (-i)) | _=>none):=UnR.imp QG fun x H Q ⟨μ,S,dx,dz,hS,h1,h3,post⟩=>by
 cases dx <;> first | cases h3 | skip
 exact⟨_,h1.int_inv,post.here hS (.int _)⟩
noncomputable def AG(f:ac->D->Option D)(a:ME):ME:=fun env S=>(a env S).bind fun p=>(f p.2 p.1).bind fun z=>some (z,p.2)
theorem de_un{a:Expr}{ma:ME}{pos:Pos}{op:UnaryOp}{f:ac->D->Option D}(ho:UnR X (unaryOp op) (rM1 X.K f))(ha:DE X a ma):DE X (.UnaryOp op a pos) (AG f ma):=
 PE.imp (pe_un ho ha) fun σ H Q ⟨μ,S,env,d,S',hS,hE,hm,post⟩=>by
  obtain⟨⟨x,S1⟩,h1,hm⟩:=Option.bind_eq_some_iff.mp hm
  obtain⟨z,h2,hm⟩:=Option.bind_eq_some_iff.mp hm
  cases hm
  exact⟨μ,S,env,x,_,hS,hE,h1,fun v H1 μ1 e1 s1 r1=>⟨μ1,_,x,_,s1,r1,h2,post.ext e1⟩⟩
theorem Ps{vs:List V}{ds:List D}{i:Int}{d:D}(r:Reps K μ H vs ds)(h:lH ds i=some d):∃ v,lH vs i=some v/\Rep K μ H v d:=by
 unfold lH at h ⊢
 rw [r.length]
 obtain⟨j,h1,h2⟩:=Option.bind_eq_some_iff.mp h
 obtain⟨v,h3,h4⟩:=r.get h2
 exact⟨v,by rw [h1];exact h3,h4⟩
noncomputable def fIx(S:ac)(x y:D):Option D:=match y with | .int i=>(iI S x).bind fun xs=>lH xs i | _=>none
theorem ix_D:IxR X (nz X.K fIx):=IxR.imp (ix_list.or SE) fun x y H Q ⟨μ,S,dx,dy,dz,hS,h1,h2,h3,post⟩=>by
 cases dy <;> first | cases h3 | skip
 rename_i i
 obtain⟨xs,e,h3⟩:=Option.bind_eq_some_iff.mp h3
 obtain⟨a,vs,rfl,hq,r⟩:=jD hS h1 e
 obtain⟨v,h4,h5⟩:=Ps r h3
 rcases hq with hq | hq
 ·exact .inl ⟨a,vs,i,v,rfl,h2.int_inv,hq,h4,post.here hS h5⟩
 ·exact .inr ⟨a,vs,i,v,rfl,h2.int_inv,hq,h4,post.here hS h5⟩
noncomputable def iA{α:Type}(xs:List α)(lo hi:Option Int):List α:=(xs.drop (HT.eS xs.length 0 lo)).take (HT.eS xs.length xs.length hi - HT.eS xs.length 0 lo)
abbrev MO:=bh->ac->Option (Option Int×ac)
noncomputable def bv:MO:=fun _ S=>some (none,S)
noncomputable def bS(m:ME):MO:=fun env S=>(m env S).bind fun p=>match p.1 with | .int i=>some (some i,p.2) | _=>none
inductive tMO(K:PySem.W.Frag)(m:MO)(σ:L2.St)(H:Hp)(Q:Option Int->Hp->Prop):Prop
 | mk (μ:Fp) (S:ac) (env:bh) (o:Option Int) (S':ac) (hS:SOk K μ S H) (hE:EOk K μ H σ env) (h:m env S=some (o,S')) (post:∀ H' μ',Ext μ H μ' H'->SOk K μ' S' H'->Q o H')
def DO(X:Cx)(e:Option Expr)(m:MO):Prop:=PO X e (tMO X.K m)
theorem PO.imp{e:Option Expr}{t t':TO}(h:PO X e t)(i:∀ σ H Q,t' σ H Q->t σ H Q):PO X e t':=fun pins s σ H Q I q=>h pins s σ H Q I (i σ H Q q)
theorem OS:DO X none bv:=PO.imp Nq fun σ H Q ⟨μ,S,env,d,S',hS,hE,hm,post⟩=>by cases hm;exact post H μ hS.ext hS
theorem OR{e:Expr}{m:ME}(h:DE X e m):DO X (some e) (bS m):=PO.imp (Np h) fun σ H Q ⟨μ,S,env,d,S',hS,hE,hm,post⟩=>by
 obtain⟨⟨x,S1⟩,h1,hm⟩:=Option.bind_eq_some_iff.mp hm
 cases x <;> first | cases hm | skip
 exact⟨μ,S,env,_,_,hS,hE,h1,fun v H1 μ1 e1 s1 r1=>⟨_,r1.int_inv,post H1 μ1 e1 s1⟩⟩
noncomputable def bu(a:ME)(lo hi:MO):ME:=fun env S=>(a env S).bind fun p=>(lo env p.2).bind fun l=>(hi env l.2).bind fun h=>match p.1 with
 | .tup xs=>some (.tup (iA xs l.1 h.1),h.2)
 | .lst xs=>some (.lst (iA xs l.1 h.1),h.2)
 | .rol xs=>some (.lst (iA xs l.1 h.1),h.2)
 | .ref r=>match h.2[r]? with | some (.lst xs)=>some (.lst (iA xs l.1 h.1),h.2) | _=>none
 | _=>none
theorem rS{vs:List V}{ds:List D}{lo hi:Option Int}(r:Reps K μ H vs ds):Reps K μ H (BH vs lo hi) (iA ds lo hi):=by
 unfold BH iA
 rw [r.length]
 exact(r.drop _).take _
theorem MN:SlR X (fun x lo hi H Q=>∃ a xs,x=.ref a/\lI X.K H a xs/\(HT.eS xs.length 0 lo=0/\HT.eS xs.length xs.length hi=xs.length)/\Q (.ref a) H):=by
 intro pins s σ H x v vl vu lo hi sl Q I rx hs pl pu h
 obtain⟨a,xs,rfl,hx,hw,q⟩:=h
 cases rx
 obtain⟨its,r,ht,hz⟩:=I.tuple hx
 have hlen:its.toArray.size=xs.length:=by rw [List.size_toArray];exact r.length.symm
 refine⟨"tuple",_,PyProof.Rows.slot_tuple_getitem.lookup,ht.typeIs,?_⟩
 exact HT.nC ht hs pl pu (by rw [hlen];exact hw) ⟨.ref a,H,I,rfl,q⟩
theorem LW{a:Expr}{lo hi:Option Expr}{ma:ME}{ml mh:MO}{pos p2:Pos}(ha:DE X a ma)(hl:DO X lo ml)(hh:DO X hi mh):DE X (.Subscript a (.Slice lo hi none p2) pos) (bu ma ml mh):=
 PE.imp (Jw (SlR.or MN (SlR.or QR MQ)) ha hl hh) fun σ H Q ⟨μ,S,env,d,S',hS,hE,hm,post⟩=>by
  obtain⟨⟨x,S1⟩,h1,hm⟩:=Option.bind_eq_some_iff.mp hm
  obtain⟨⟨l,S2⟩,h2,hm⟩:=Option.bind_eq_some_iff.mp hm
  obtain⟨⟨h,S3⟩,h3,hm⟩:=Option.bind_eq_some_iff.mp hm
  refine⟨μ,S,env,x,S1,hS,hE,h1,fun v H1 μ1 e1 s1 r1=>⟨μ1,S1,env,l,S2,s1,hE.mono e1,h2,fun H2 μ2 e2 s2=>⟨μ2,S2,env,h,S3,s2,(hE.mono e1).mono e2,h3,fun H3 μ3 e3 s3=>?_⟩⟩⟩
  have r3:=(r1.mono e2).mono e3
  have e:=(e1.trans e2).trans e3
  cases x with
  | tup xs=>
   cases hm
   have r3':=r3
   obtain⟨a,vs,rfl,q1,r⟩:=r3.sqT
   by_cases hw:HT.eS vs.length 0 l=0/\HT.eS vs.length vs.length h=vs.length
   ·refine .inl ⟨a,vs,rfl,q1,hw,?_⟩
    have:iA xs l h=xs:=by unfold iA;rw [<- r.length,hw.1,hw.2];simp [r.length]
    rw [this] at post
    exact post _ H3 μ3 e s3 r3'
   ·exact .inr (.inl ⟨a,vs,rfl,q1,hw,fun p hp=>(post.ext e).tup s3 hp (rS r)⟩)
  | lst xs=>
   cases hm
   obtain⟨a,vs,rfl,q1,n1,r⟩:=r3.sqL
   exact .inr (.inr ⟨a,vs,rfl,.inl (.inl q1),fun p hp=>(post.ext e).lst s3 hp (rS r)⟩)
  | rol xs=>
   cases hm
   obtain⟨a,vs,rfl,q1,r⟩:=r3.sqR
   exact .inr (.inr ⟨a,vs,rfl,q1,fun p hp=>(post.ext e).lst s3 hp (rS r)⟩)
  | ref r=>
   dsimp only at hm
   split at hm
   ·rename_i xs q
    cases hm
    cases r3 with
    | @ref a _ ha=>
     obtain⟨vs,hv,rv⟩:=s3.cell r a _ ha q
     exact .inr (.inr ⟨a,vs,rfl,.inl (.inl hv),fun p hp=>(post.ext e).lst s3 hp (rS rv)⟩)
   ·cases hm
  | _=>cases hm
end
end M
namespace M
open PySem PySem.Spec PyProof.Rows L2
section
variable{X:Cx}{K:PySem.W.Frag}{μ μ':Fp}{H H':Hp}{S:ac}
noncomputable def be(f:List D->ac->Option (D×ac))(ms:MA):ME:=fun env S=>(ms env S).bind fun p=>f p.1 p.2
theorem II{f:List D->ac->Option (D×ac)}{ms:MA}{σ:L2.St}{Q:VK}(h:tM K (be f ms) σ H Q):tCB (Ji K f) (tMA K ms) σ H Q:=by
 obtain⟨μ,S,env,d,S',hS,hE,hm,post⟩:=h
 obtain⟨⟨xs,S1⟩,h1,hm⟩:=Option.bind_eq_some_iff.mp hm
 exact⟨μ,S,env,xs,S1,hS,hE,h1,fun vs H1 μ1 e1 s1 r1=>⟨μ1,S1,xs,d,S',s1,r1,hm,post.ext e1⟩⟩
section
variable{x:Str}{p pos:Pos}{e:Expr}{es:List Expr}{ms:MA}{id T:String}{f:List D->ac->Option (D×ac)}
theorem pI(hc:CallR X (.builtin id) (Ji X.K f))(hm:X.mg x=none)(hv:bootBuiltins x=some (.builtin id))(ha:DA X (e::es) ms)(hg:Gl X x:=by rfl)(hn:x ≠ "__name__":=by decide)(hdb:(x == ("__debug__":Str))=false:=by decide)
  (he:starEach (e::es) X.env=(false,eval e X.env)::starEach es X.env:=by rfl) (hpl:(backTo pos (starEach es X.env)).any (·.1)=false:=by rfl):DE X (.Call (.Name x p) (e::es) [] pos) (be f ms):=
 PE.imp (zR hc hg hm hv ha hn hdb he hpl) fun _ _ _ h=>II h
theorem qr(hc:CallR X (.type T) (Ji X.K f))(hm:X.mg x=none)(hv:bootBuiltins x=some (.type T))(ha:DA X (e::es) ms)(hg:Gl X x:=by rfl)(hn:x ≠ "__name__":=by decide)(hdb:(x == ("__debug__":Str))=false:=by decide)
  (he:starEach (e::es) X.env=(false,eval e X.env)::starEach es X.env:=by rfl) (hpl:(backTo pos (starEach es X.env)).any (·.1)=false:=by rfl):DE X (.Call (.Name x p) (e::es) [] pos) (be f ms):=
 PE.imp (Gr hc hg hm hv ha hn hdb he hpl) fun _ _ _ h=>II h
end
theorem Reps.one{vs:List V}{d:D}(r:Reps K μ H vs [d]):∃ v,vs=[v]/\Rep K μ H v d:=by
 cases r with
 | cons h t=>cases t;exact⟨_,rfl,h⟩
theorem Reps.two{vs:List V}{d e:D}(r:Reps K μ H vs [d,e]):∃ v w,vs=[v,w]/\Rep K μ H v d/\Rep K μ H w e:=by
 cases r with
 | cons h t=>cases t with | cons h' t=>cases t;exact⟨_,_,rfl,h,h'⟩
noncomputable def aP(f:ac->List D->Option D):List D->ac->Option (D×ac):=fun ds S=>(f S ds).bind fun d=>some (d,S)
theorem eE{f:ac->List D->Option D}{ds:List D}{S S':ac}{d:D}(h:aP f ds S=some (d,S')):S'=S/\f S ds=some d:=by
 obtain⟨z,h1,h⟩:=Option.bind_eq_some_iff.mp h
 cases h
 exact⟨rfl,h1⟩
noncomputable def fN(S:ac):List D->Option D
 | [.str z]=>if z.length<=sizeLine then some (.int z.length) else none
 | [d]=>(iI S d).bind fun xs=>some (.int xs.length)
 | _=>none
theorem Ml:CallR X (.builtin "len") (Ji X.K (aP fN)):=CallR.imp (call_len_seq.or yY) fun xs H Q ⟨μ,S,ds,d,S',hS,hr,hm,post⟩=>by
 obtain⟨rfl,hm⟩:=eE hm
 match ds,hr,hm with
 | [D.str z],hr,hm=>
  obtain⟨v,rfl,r⟩:=hr.one
  simp only [fN] at hm
  split at hm
  ·rename_i hl;cases hm;exact .inr ⟨z,by rw [r.str_inv],hl,post.here hS (.int _)⟩
  ·cases hm
 | [D.non],hr,hm=>cases hm
 | [D.bl _],hr,hm=>cases hm
 | [D.int _],hr,hm=>cases hm
 | [D.dct _ _],hr,hm=>cases hm
 | [D.tup xs],hr,hm=>
  obtain⟨v,rfl,r⟩:=hr.one
  cases hm
  obtain⟨a,vs,rfl,hq,r⟩:=jD hS r rfl
  exact .inl ⟨a,vs,rfl,hq,by rw [r.length];exact post.here hS (.int _)⟩
 | [D.lst xs],hr,hm=>
  obtain⟨v,rfl,r⟩:=hr.one
  cases hm
  obtain⟨a,vs,rfl,hq,r⟩:=jD hS r rfl
  exact .inl ⟨a,vs,rfl,hq,by rw [r.length];exact post.here hS (.int _)⟩
 | [D.rol xs],hr,hm=>
  obtain⟨v,rfl,r⟩:=hr.one
  cases hm
  obtain⟨a,vs,rfl,hq,r⟩:=jD hS r rfl
  exact .inl ⟨a,vs,rfl,hq,by rw [r.length];exact post.here hS (.int _)⟩
 | [D.ref i],hr,hm=>
  obtain⟨v,rfl,r⟩:=hr.one
  obtain⟨xs,h1,hm⟩:=Option.bind_eq_some_iff.mp hm
  cases hm
  obtain⟨a,vs,rfl,hq,r⟩:=jD hS r h1
  exact .inl ⟨a,vs,rfl,hq,by rw [r.length];exact post.here hS (.int _)⟩
 | [],hr,hm=>cases hm
 | a::b::c,hr,hm=>simp [fN] at hm
noncomputable def kI(S:ac):List D->Option D
 | [.int i]=>some (.int i)
 | [.bl k]=>some (.int (if k then 1 else 0))
 | _=>none
theorem Mm:CallR X (.type "int") (Ji X.K (aP kI)):=CallR.imp Ic fun xs H Q ⟨μ,S,ds,d,S',hS,hr,hm,post⟩=>by
 obtain⟨rfl,hm⟩:=eE hm
 match ds,hr,hm with
 | [D.int i],hr,hm=>obtain⟨v,rfl,r⟩:=hr.one;cases hm;exact .inl ⟨i,by rw [r.int_inv],post.here hS (.int _)⟩
 | [D.bl k],hr,hm=>obtain⟨v,rfl,r⟩:=hr.one;cases hm;exact .inr ⟨k,by rw [r.bl_inv],post.here hS (.int _)⟩
 | [D.non],hr,hm=>cases hm
 | [D.str _],hr,hm=>cases hm
 | [D.dct _ _],hr,hm=>cases hm
 | [D.tup _],hr,hm=>cases hm
 | [D.lst _],hr,hm=>cases hm
 | [D.rol _],hr,hm=>cases hm
 | [D.ref _],hr,hm=>cases hm
 | [],hr,hm=>cases hm
 | a::b::c,hr,hm=>simp [kI] at hm
noncomputable def Qn(S:ac):List D->Option D
 | [.int i,.int j]=>some (.int (if j>i then j else i))
 | _=>none
noncomputable def Bw(S:ac):List D->Option D
 | [.int i,.int j]=>some (.int (if j<i then j else i))
 | _=>none
theorem Qg{ds:List D}{f:Int->Int->D}{d:D}(h:(match ds with | [.int i,.int j]=>some (f i j) | _=>none)=some d):∃ i j,ds=[.int i,.int j]/\d=f i j:=by
 split at h
 ·cases h;exact⟨_,_,rfl,rfl⟩
 ·cases h
theorem Ih(hc:X.calm=true):CallR X (.builtin "max") (Ji X.K (aP Qn)):=CallR.imp (Ib hc) fun xs H Q ⟨μ,S,ds,d,S',hS,hr,hm,post⟩=>by
 obtain⟨rfl,hm⟩:=eE hm
 obtain⟨i,j,rfl,rfl⟩:=Qg (f:=fun i j=>.int (if j>i then j else i)) hm
 obtain⟨v,w,rfl,r1,r2⟩:=hr.two
 exact⟨i,j,by rw [r1.int_inv,r2.int_inv],post.here hS (.int _)⟩
theorem Ie(hc:X.calm=true):CallR X (.builtin "min") (Ji X.K (aP Bw)):=CallR.imp (HZ hc) fun xs H Q ⟨μ,S,ds,d,S',hS,hr,hm,post⟩=>by
 obtain⟨rfl,hm⟩:=eE hm
 obtain⟨i,j,rfl,rfl⟩:=Qg (f:=fun i j=>.int (if j<i then j else i)) hm
 obtain⟨v,w,rfl,r1,r2⟩:=hr.two
 exact⟨i,j,by rw [r1.int_inv,r2.int_inv],post.here hS (.int _)⟩
noncomputable def cm(c:List D->D)(S:ac):List D->Option D
 | [d]=>(iI S d).bind fun xs=>some (c xs)
 | _=>none
theorem ug{c:List D->D}{S:ac}{ds:List D}{d:D}(h:cm c S ds=some d):∃ x xs,ds=[x]/\iI S x=some xs/\d=c xs:=by
 match ds,h with
 | [x],h=>
  obtain⟨xs,h1,h⟩:=Option.bind_eq_some_iff.mp h
  cases h
  exact⟨x,xs,rfl,h1,rfl⟩
 | [],h=>cases h
 | _::_::_,h=>cases h
theorem Ii:CallR X (.type "list") (Ji X.K (aP (cm .lst))):=CallR.imp yX fun xs H Q ⟨μ,S,ds,d,S',hS,hr,hm,post⟩=>by
 obtain⟨rfl,hm⟩:=eE hm
 obtain⟨x,ys,rfl,h1,rfl⟩:=ug hm
 obtain⟨v,rfl,r⟩:=hr.one
 obtain⟨a,vs,rfl,hq,r⟩:=jD hS r h1
 exact⟨a,vs,rfl,hq,fun l hl=>post.lst hS hl r⟩
theorem Ef:CallR X (.type "tuple") (Ji X.K (aP (cm .tup))):=CallR.imp vn fun xs H Q ⟨μ,S,ds,d,S',hS,hr,hm,post⟩=>by
 obtain⟨rfl,hm⟩:=eE hm
 obtain⟨x,ys,rfl,h1,rfl⟩:=ug hm
 obtain⟨v,rfl,r⟩:=hr.one
 cases x with
 | tup zs=>
  cases h1
  have r':=r
  obtain⟨a,vs,rfl,q,r⟩:=r.sqT
  exact⟨a,vs,rfl,.inr ⟨q,post.here hS r'⟩⟩
 | lst zs=>
  cases h1
  obtain⟨a,vs,rfl,q,n,r⟩:=r.sqL
  exact⟨a,vs,rfl,.inl ⟨.inl (.inl q),fun l hl=>post.tup hS hl r⟩⟩
 | rol zs=>
  cases h1
  obtain⟨a,vs,rfl,q,r⟩:=r.sqR
  exact⟨a,vs,rfl,.inl ⟨q,fun l hl=>post.tup hS hl r⟩⟩
 | ref i=>
  simp only [iI] at h1
  cases r with
  | @ref a _ h'=>
   cases q:S'[i]? with
   | none=>rw [q] at h1;cases h1
   | some c=>
    rw [q] at h1
    have ck:=hS.cell i a c h' q
    cases c with
    | lst xs=>cases h1;obtain⟨vs,e,r⟩:=ck;exact⟨a,vs,rfl,.inl ⟨.inl (.inl e),fun l hl=>post.tup hS hl r⟩⟩
    | dct ks xs=>cases h1
 | _=>cases h1
noncomputable def lz:List D->Option (List Bool)
 | []=>some []
 | .bl b::r=>(lz r).bind fun bs=>some (b::bs)
 | _=>none
noncomputable def yL(S:ac):List D->Option D
 | [.lst xs]=>(lz xs).bind fun bs=>some (.bl (bs.all id))
 | _=>none
theorem qU:∀ {vs:List V} {ds:List D} {us:List Value} {bs:List Bool},Reps K μ H vs ds->Vals vs us->lz ds=some bs->LSm.BoolsAre us bs
 | _,_,_,_,.nil,.nil,h=>by cases h;exact .nil
 | _,_,_,_,.cons (d:=d) r t,.cons rv tv,h=>by
  cases d <;> first | cases h | skip
  obtain⟨cs,h1,h⟩:=Option.bind_eq_some_iff.mp h
  cases h
  cases r;cases rv
  exact .cons _ (qU t tv h1)
theorem Mn(hc:X.calm=true):CallR X (.builtin "all") (Ji X.K (aP yL)):=by
 intro pins s σ H xs us Q I rv h
 obtain⟨μ,S,ds,d,S',hS,hr,hm,post⟩:=h
 obtain⟨rfl,hm⟩:=eE hm
 match ds,hr,hm with
 | [D.lst zs],hr,hm=>
  obtain⟨v,rfl,r⟩:=hr.one
  obtain⟨bs,h1,hm⟩:=Option.bind_eq_some_iff.mp hm
  cases hm
  obtain⟨u,rfl,ru⟩:=qy rv
  obtain⟨a,vs,rfl,q,n,r⟩:=r.sqL
  cases ru
  obtain⟨its,rv',pl,hz⟩:=I.list (.inl (.inl q))
  have hl:=pl.isList
  have hb:=qU r rv' h1
  have hlt:a<s.heap.objs.size:=by obtain⟨_,e,_⟩:=hl;exact Heap.lt_size e
  refine call_all_walk (wpAny_pyIter_list hl ?_)
  refine⟨s.heap.objs.size,[s.heap.objs.size,a],[s.heap.objs.size],its.toArray.size,_,_,fun i=>(bs[i]?).getD true,rfl,Walks.list (A:=X.A.in1) (I.ok.hd hc) _ a (Nat.ne_of_lt hlt) its.toArray,
   ⟨⟨_,Heap.get?_push_size _ rfl,rfl,rfl⟩,hl.push _⟩,fun i v s' Q' E' hP hQ=>?_,fun h' tk hk=>?_⟩
  ·obtain⟨b,e,rfl⟩:=hb.get i v (by simpa using hP)
   simp only [e,Option.getD_some] at hQ
   exact wpAny_truthy_bool hQ
  ·have e:((List.range its.toArray.size).all fun i=>(bs[i]?).getD true)=bs.all id:=by
    rw [List.size_toArray,hb.length];exact LSm.range_all bs
   rw [e]
   exact⟨.bl _,H,I.kept (LSm.kept_iter hk),rfl,post.here hS (.bl _)⟩
 | [D.non],hr,hm=>cases hm
 | [D.bl _],hr,hm=>cases hm
 | [D.int _],hr,hm=>cases hm
 | [D.str _],hr,hm=>cases hm
 | [D.dct _ _],hr,hm=>cases hm
 | [D.tup _],hr,hm=>cases hm
 | [D.rol _],hr,hm=>cases hm
 | [D.ref _],hr,hm=>cases hm
 | [],hr,hm=>cases hm
 | a::b::c,hr,hm=>simp [yL] at hm
noncomputable def tyD(S:ac):D->Option String
 | .non=>some "NoneType"
 | .bl _=>some "bool"
 | .int _=>some "int"
 | .str _=>some "str"
 | .tup _=>some "tuple"
 | .lst _=>some "list"
 | .rol _=>some "list"
 | .dct _ _=>some "dict"
 | .ref r=>match S[r]? with | some (.lst _)=>some "list" | some (.dct _ _)=>some "dict" | none=>none
def KE(T:String)(t:String):Bool:=t == T||(t == "bool" && T == "int")
noncomputable def kH(T:String)(S:ac)(d:D):Option D:=(tyD S d).bind fun t=>some (.bl (KE T t))
noncomputable def dL(T:String)(m:ME):ME:=fun env S=>(m env S).bind fun p=>(kH T p.2 p.1).bind fun d=>some (d,p.2)
theorem FU{S:ac}{d:D}{t:String}(h:tyD S d=some t):t = "NoneType"\/t = "bool"\/t = "int"\/t = "str"\/t = "tuple"\/t = "list"\/t = "dict":=by
 cases d <;> simp only [tyD] at h <;> first | (cases h;simp) | (split at h <;> first | (cases h;simp) | cases h)
theorem NV(K:PySem.W.Frag){T t:String}(hT:T = "int"\/T = "bool"\/T = "str"\/T = "tuple"\/T = "list"\/T = "dict")(ht:t = "NoneType"\/t = "bool"\/t = "int"\/t = "str"\/t = "tuple"\/t = "list"\/t = "dict") :
  PySem.W.kitOne K (.type t) (.type T)=some (KE T t):=by
 rcases hT with rfl | rfl | rfl | rfl | rfl | rfl <;> rcases ht with rfl | rfl | rfl | rfl | rfl | rfl | rfl <;> rfl
theorem kia_D{pins:List (Addr×Obj)}{σ:L2.St}{s:Shared}{v:V}{u:Value}{d:D}{t:String}{b:Bool}{c:Value}{Q:Value->Shared->Prop}{E:Value->Shared->Prop}(I:Inv X pins σ H s)(hS:SOk X.K μ S H)(r:Rep X.K μ H v d)(ru:RelV v u)(ht:tyD S d=some t)
  (e:PySem.W.kitOne X.K (.type t) c=some b) (h:∀ tk,Q (.bool b) { s with toks:=tk }):wpAny (model X.prog X.w) X.A (call (.builtin "isinstance") [u,c]) Q E s:=by
 have tupK:∀ {a:Addr} {vs:List V},lI X.K H a vs->PySem.W.KitAt a "tuple" s.heap:=fun {a vs} q=>by
  obtain⟨its,_,⟨o,h1,h2,_⟩,_⟩:=I.tuple q;exact⟨o,h1,h2⟩
 have lstK:∀ {a:Addr} {vs:List V},nE X.K H a vs->PySem.W.KitAt a "list" s.heap:=fun {a vs} q=>by
  obtain⟨its,_,⟨o,n,h1,h2,_⟩,_⟩:=I.list q;exact⟨o,h1,h2⟩
 have dK:∀ {a:Addr} {kvs:List (bC×V)},H a=some (.dK kvs)->PySem.W.KitAt a "dict" s.heap:=fun {a kvs} q=>by
  obtain⟨_,_,vs,_,p⟩:=(show ObjOk X.prog X.w H s.heap a (.dK kvs) from I.hok a _ q)
  obtain⟨o,es,ep,h1,h2,_⟩:=p
  exact⟨o,h1,h2.1⟩
 cases r with
 | non=>cases ht;cases ru;exact PySem.W.kia_one PySem.W.kitx_none I.kIn True.intro e (fun z=>nomatch z) h
 | bl y=>cases ht;cases ru;exact PySem.W.kia_one PySem.W.kitx_bool I.kIn True.intro e (fun z=>nomatch z) h
 | int i=>cases ht;obtain⟨t,rfl⟩:=ru;exact PySem.W.kia_one PySem.W.kitx_int I.kIn True.intro e (fun z=>nomatch z) h
 | str y=>cases ht;obtain⟨t,rfl⟩:=ru;exact PySem.W.kia_one PySem.W.kitx_str I.kIn True.intro e (fun z=>nomatch z) h
 | tup q n r=>cases ht;cases ru;exact PySem.W.kia_one PySem.W.kitx_tuple I.kIn (tupK (.inl (.inl q))) e (fun z=>nomatch z) h
 | ktup q r=>cases ht;cases ru;exact PySem.W.kia_one PySem.W.kitx_tuple I.kIn (tupK (.inr q)) e (fun z=>nomatch z) h
 | lst q n r=>cases ht;cases ru;exact PySem.W.kia_one PySem.W.kitx_list I.kIn (lstK (.inl (.inl q))) e (fun z=>nomatch z) h
 | rol q n r=>cases ht;cases ru;exact PySem.W.kia_one PySem.W.kitx_list I.kIn (lstK (.inl q)) e (fun z=>nomatch z) h
 | krol q r=>cases ht;cases ru;exact PySem.W.kia_one PySem.W.kitx_list I.kIn (lstK (.inr q)) e (fun z=>nomatch z) h
 | dct q n r=>cases ht;cases ru;exact PySem.W.kia_one PySem.W.kitx_dict I.kIn (dK q) e (fun z=>nomatch z) h
 | @ref a i h'=>
  cases ru
  simp only [tyD] at ht
  cases q:S[i]? with
  | none=>rw [q] at ht;cases ht
  | some c'=>
   rw [q] at ht
   have ck:=hS.cell i a c' h' q
   cases c' with
   | lst xs=>cases ht;obtain⟨vs,q,r⟩:=ck;exact PySem.W.kia_one PySem.W.kitx_list I.kIn (lstK (.inl (.inl q))) e (fun z=>nomatch z) h
   | dct ks xs=>cases ht;obtain⟨kvs,q,r⟩:=ck;exact PySem.W.kia_one PySem.W.kitx_dict I.kIn (dK q) e (fun z=>nomatch z) h
theorem HN{a:Expr}{ma:ME}{T:String}{x:Str}{p p2 pos:Pos}(hm:X.mg "isinstance" = none)(hmT:X.mg x=none)(hb:bootBuiltins x=some (.type T))(ha:DE X a ma)
  (hT:T = "int"\/T = "bool"\/T = "str"\/T = "tuple"\/T = "list"\/T = "dict":=by simp)
  (hg:Gl X "isinstance":=by rfl) (hgT:Gl X x:=by rfl) (hn:x ≠ "__name__":=by decide) (hd:(x == ("__debug__":Str))=false:=by decide)
  (hs1:starEach [a,.Name x p2] X.env=(false,eval a X.env)::starEach [.Name x p2] X.env:=by rfl) (hs2:starEach [.Name x p2] X.env=(false,eval (.Name x p2) X.env)::starEach [] X.env:=by rfl) (hpl:(backTo pos (starEach [.Name x p2] X.env)).any (·.1)=false:=by rfl) :
  DE X (.Call (.Name "isinstance" p) [a,.Name x p2] [] pos) (dL T ma):=by
 have hc:CallR X (.builtin "isinstance") (fun vs H Q=>∃ v μ S d t,vs=[v,.ty T]/\SOk X.K μ S H/\Rep X.K μ H v d/\tyD S d=some t/\Q (.bl (KE T t)) H):=by
  intro pins s σ H xs us Q I rv h
  obtain⟨v,μ,S,d,t,rfl,hS,r,ht,q⟩:=h
  obtain⟨u,w',rfl,r1,r2⟩:=IA rv
  cases r2
  exact kia_D I hS r r1 ht (NV _ hT (FU ht)) fun tk=>⟨.bl _,H,I.tok _,rfl,q⟩
 refine PE.imp (zR hc hg hm boot_isinstance (xI ha (xI (Ny (v:=.ty T) hgT hmT hb rfl hn hd) JG hs2) hs1) (by decide) (by decide) hs1 hpl) fun σ H Q ⟨μ,S,env,d,S',hS,hE,hm,post⟩=>?_
 obtain⟨⟨x,S1⟩,h1,hm⟩:=Option.bind_eq_some_iff.mp hm
 obtain⟨z,h2,hm⟩:=Option.bind_eq_some_iff.mp hm
 cases hm
 obtain⟨t,h3,h2⟩:=Option.bind_eq_some_iff.mp h2
 cases h2
 exact⟨μ,S,env,x,S1,hS,hE,h1,fun v H1 μ1 e1 s1 r1=>⟨v,μ1,S1,x,t,rfl,s1,r1,h3,post _ H1 μ1 e1 s1 (.bl _)⟩⟩
end
end M
namespace M
open PySem PySem.Spec PyProof.Rows L2
section
variable{X:Cx}{K:PySem.W.Frag}{μ μ':Fp}{H H':Hp}{S:ac}
noncomputable def IQ(K:PySem.W.Frag)(n:Nat)(f:List D->ac->Option (D×ac)):Sp:=fun vs H Q _=>∃ μ S ds d S',SOk K μ S H/\Reps K μ H vs ds/\ds.length=n/\f ds S=some (d,S')/\Post K μ H S' d Q
structure Fn(P:Program)(w:World)(K:PySem.W.Frag)(mg:Str->Option Value)(base:Heap)(k:Nat)(x:Str)(n:Nat)(f:List D->ac->Option (D×ac)):Prop where
 ex:∃ (a:Addr) (fd:FuncData) (ps:List Str),ps.length=n/\FnOk P w K mg base FL k a fd ps (IQ K n f)/\mg x=some (.ref a)/\PySem.W.keepIn K (.ref a)=true/\Binds K fd ps []
noncomputable def ak(n:Nat)(f:List D->ac->Option (D×ac))(ms:MA):ME:=fun env S=>(ms env S).bind fun p=>if p.1.length=n then f p.1 p.2 else none
theorem zw{n:Nat}{f:List D->ac->Option (D×ac)}{ms:MA}{σ:L2.St}{Q:VK}(h:tM K (ak n f ms) σ H Q):Ew (IQ K n f) [] E0 (tMA K ms) σ H Q:=by
 obtain⟨μ,S,env,d,S',hS,hE,hm,post⟩:=h
 obtain⟨⟨xs,S1⟩,h1,hm⟩:=Option.bind_eq_some_iff.mp hm
 dsimp only at hm
 split at hm
 ·rename_i hn
  refine⟨μ,S,env,xs,S1,hS,hE,h1,fun vs H1 μ1 e1 s1 r1=>?_⟩
  show IQ K n f (vs++[]) H1 Q E0
  rw [List.append_nil]
  exact⟨μ1,S1,xs,d,S',s1,r1,hn,hm,post.ext e1⟩
 ·cases hm
theorem Pb{k n:Nat}{x:Str}{f:List D->ac->Option (D×ac)}{e:Expr}{es:List Expr}{ms:MA}{p pos:Pos}(F:Fn X.prog X.w X.K X.mg X.base k x n f)(hr:Room k X.A)(ha:DA X (e::es) ms)(hg:Gl X x:=by rfl)
  (hdb:(x == ("__debug__":Str))=false:=by decide) (he:starEach (e::es) X.env=(false,eval e X.env)::starEach es X.env:=by rfl) (hpl:(backTo pos (starEach es X.env)).any (·.1)=false:=by rfl) :
  DE X (.Call (.Name x p) (e::es) [] pos) (ak n f ms):=by
 obtain⟨a,fd,ps,hn,F,hm,hk,hb⟩:=F.ex
 exact PE.imp (Nx F hr hg hm hk hb .nil JF ha hdb he hpl) fun _ _ _ h=>zw h
theorem Md{k:Nat}{x:Str}{f:List D->ac->Option (D×ac)}{p pos:Pos}(F:Fn X.prog X.w X.K X.mg X.base k x 0 f)(hr:Room k X.A)(hg:Gl X x:=by rfl)
  (hdb:(x == ("__debug__":Str))=false:=by decide):DE X (.Call (.Name x p) [] [] pos) (ak 0 f ah):=by
 obtain⟨a,fd,ps,hn,F,hm,hk,hb⟩:=F.ex
 refine PE.imp (JE F hr hg hm hk hb .nil JF hdb) fun σ H Q h=>?_
 obtain⟨μ,S,env,d,S',hS,hE,hm,post⟩:=h
 exact⟨μ,S,[],d,S',hS,.nil,rfl,hm,post⟩
mutual
noncomputable def mG(n:Nat):D->Bool
 | .tup xs=>closDs n xs
 | .lst xs=>closDs n xs
 | .rol xs=>closDs n xs
 | .dct _ xs=>closDs n xs
 | .ref r=>decide (r<n)
 | _=>true
noncomputable def closDs(n:Nat):List D->Bool
 | []=>true
 | d::ds=>mG n d&&closDs n ds
end
noncomputable def wJ(n:Nat):uD->Bool
 | .lst xs=>closDs n xs
 | .dct _ xs=>closDs n xs
mutual
theorem Rep.trunc{cs l fb:List Addr}:∀ {v:V} {d:D},Rep K ⟨cs++l,fb⟩ H v d->mG cs.length d=true->Rep K ⟨cs,fb⟩ H v d
 | _,_,.non,_=>.non
 | _,_,.bl b,_=>.bl b
 | _,_,.int i,_=>.int i
 | _,_,.str x,_=>.str x
 | _,_,.tup h n r,c=>.tup h ⟨fun z=>n.1 (List.mem_append_left _ z),n.2⟩ (Reps.trunc r (by simpa only [mG] using c))
 | _,_,.ktup h r,c=>.ktup h (Reps.trunc r (by simpa only [mG] using c))
 | _,_,.lst h n r,c=>.lst h ⟨fun z=>n.1 (List.mem_append_left _ z),n.2⟩ (Reps.trunc r (by simpa only [mG] using c))
 | _,_,.rol h n r,c=>.rol h ⟨fun z=>n.1 (List.mem_append_left _ z),n.2⟩ (Reps.trunc r (by simpa only [mG] using c))
 | _,_,.krol h r,c=>.krol h (Reps.trunc r (by simpa only [mG] using c))
 | _,_,.dct h n r,c=>.dct h ⟨fun z=>n.1 (List.mem_append_left _ z),n.2⟩ (Reps.trunc r (by simpa only [mG] using c))
 | _,_,.ref h,c=>.ref (by
   have hl:=of_decide_eq_true c
   have h:(cs++l)[_]?=some _:=h
   rw [List.getElem?_append_left hl] at h
   exact h)
theorem Reps.trunc{cs l fb:List Addr}:∀ {vs:List V} {ds:List D},Reps K ⟨cs++l,fb⟩ H vs ds->closDs cs.length ds=true->Reps K ⟨cs,fb⟩ H vs ds
 | _,_,.nil,_=>.nil
 | _,_,.cons h t,c=>by
  rw [closDs,Bool.and_eq_true] at c
  exact .cons (Rep.trunc h c.1) (Reps.trunc t c.2)
end
mutual
theorem Rep.closed:∀ {v:V} {d:D},Rep K μ H v d->mG μ.cs.length d=true
 | _,_,.non=>rfl
 | _,_,.bl b=>rfl
 | _,_,.int i=>rfl
 | _,_,.str x=>rfl
 | _,_,.tup h n r=>Reps.closed r
 | _,_,.ktup h r=>Reps.closed r
 | _,_,.lst h n r=>Reps.closed r
 | _,_,.rol h n r=>Reps.closed r
 | _,_,.krol h r=>Reps.closed r
 | _,_,.dct h n r=>Reps.closed r
 | _,_,.ref h=>decide_eq_true (List.getElem?_eq_some_iff.mp h).1
theorem Reps.closed:∀ {vs:List V} {ds:List D},Reps K μ H vs ds->closDs μ.cs.length ds=true
 | _,_,.nil=>rfl
 | _,_,.cons h t=>by rw [closDs,Rep.closed h,Reps.closed t];rfl
end
theorem SOk.closed(s:SOk K μ S H):∀ c∈S,wJ S.length c=true:=fun c hc=>by
 obtain⟨r,hr⟩:=List.mem_iff_getElem?.mp hc
 have hl:=(List.getElem?_eq_some_iff.mp hr).1
 have hl':r < μ.cs.length:=by rw [s.len];exact hl
 have:=s.cell r _ c (List.getElem?_eq_getElem hl') hr
 cases c with
 | lst ds=>obtain⟨vs,_,q⟩:=this;rw [<- s.len];exact q.closed
 | dct ks ds=>obtain⟨vs,_,_,q⟩:=this;rw [<- s.len];exact q.closed
theorem SOk.trunc{S' g:ac}(s:SOk K μ (S'++g) H)(hc:∀ c∈S',wJ S'.length c=true):∃ cs l,μ.cs=cs++l/\cs.length=S'.length/\SOk K ⟨cs,μ.fb⟩ S' H:=by
 obtain⟨cs0,fb⟩:=μ
 have hlen:cs0.length=S'.length+g.length:=by have:=s.len;simpa using this
 have hcl:(cs0.take S'.length).length=S'.length:=by rw [List.length_take];omega
 refine⟨cs0.take S'.length,cs0.drop S'.length,(List.take_append_drop _ _).symm,hcl,s.nd.sublist (List.take_sublist _ _),hcl,fun r a c h1 h2=>?_,s.fdom,fun a ha z=>s.disj a ha (List.mem_of_mem_take z)⟩
 have hr:=(List.getElem?_eq_some_iff.mp h2).1
 have h1':cs0[r]?=some a:=by
  have h1:(cs0.take S'.length)[r]?=some a:=h1
  rwa [List.getElem?_take_of_lt hr] at h1
 have ck:=s.cell r a c h1' (by rw [List.getElem?_append_left hr];exact h2)
 have cc:=hc c (List.mem_of_getElem? h2)
 have e:cs0=cs0.take S'.length++cs0.drop S'.length:=(List.take_append_drop _ _).symm
 cases c with
 | lst ds=>
  obtain⟨vs,q,r⟩:=ck
  have r':Reps K ⟨cs0.take S'.length++cs0.drop S'.length,fb⟩ H vs ds:=by rw [<- e];exact r
  exact⟨vs,q,r'.trunc (by rw [hcl];exact cc)⟩
 | dct ks ds=>
  obtain⟨vs,q,q2,r⟩:=ck
  have r':Reps K ⟨cs0.take S'.length++cs0.drop S'.length,fb⟩ H (vs.map (·.2)) ds:=by rw [<- e];exact r
  exact⟨vs,q,q2,r'.trunc (by rw [hcl];exact cc)⟩
theorem Post.trunc{S' g:ac}{d:D}{Q:VK}(post:Post K μ H S' d Q)(hd:mG S'.length d=true)(hc:∀ c∈S',wJ S'.length c=true)(hl:μ.cs.length<=S'.length):Post K μ H (S'++g) d Q:=fun v H' μ' e s r=>by
 obtain⟨cs,l,q,hcl,s'⟩:=s.trunc hc
 obtain⟨cs',fb'⟩:=μ'
 have q':cs'=cs++l:=q
 subst q'
 refine post v H' ⟨cs,fb'⟩ ⟨e.fb,?_,e.keep,fun a ha=>e.dom a (List.mem_append_left _ ha)⟩ s' (r.trunc (by rw [hcl];exact hd))
 obtain⟨l0,q0,h0⟩:=e.pre
 have q0:cs++l = μ.cs++l0:=q0
 have hle:μ.cs.length<=cs.length:=by rw [hcl];exact hl
 refine⟨cs.drop μ.cs.length,?_,fun a ha=>h0 a ?_⟩
 ·have t1:(cs++l).take μ.cs.length = μ.cs:=by rw [q0];simp
  rw [List.take_append_of_le_length hle] at t1
  show cs = μ.cs++cs.drop μ.cs.length
  conv=>lhs;rw [<- List.take_append_drop μ.cs.length cs,t1]
 ·have t2:(cs++l).drop μ.cs.length=l0:=by rw [q0];simp
  rw [<- t2,List.drop_append_of_le_length hle]
  exact List.mem_append_left _ ha
def Runs(m:MS)(env:bh)(S:ac)(d:D)(S':ac):Prop:=
 ∃ o g,m env S=some o/\(g=[]\/(mG S'.length d=true/\(∀ c∈S',wJ S'.length c=true)/\S.length<=S'.length))/\(o=.rt d (S'++g)\/(d=.non/\∃ env',o=.nx env' (S'++g)))
theorem Runs.ret{m:MS}{env:bh}{S S':ac}{d:D}(h:m env S=some (.rt d S')):Runs m env S d S':=⟨_,[],h,.inl rfl,.inl (by rw [List.append_nil])⟩
noncomputable def aA(N:List Str)(ds:List D):bh:=ds.map some++List.replicate (N.length - ds.length) none
theorem Ql{P:Program}{w:World}{mg:Str->Option Value}{base:Heap}{k:Nat}{x qual:Str}{st:Stmt}{a:Addr}{fd:FuncData}{N ps:List Str}{f:List D->ac->Option (D×ac)}
  (F:L2.Fun K x qual st a fd) (Sc:aS N ps (au st))
  (hbody:∀ (cdv:Value) (A:Around) (outer:List PySem.Env) (s:Shared) (H:Hp) (E:XK),Room k (A.deeper (envOfC qual (au st) s.heap.objs.size a cdv)) ->
   ∃ m,vq (vk FL P w K mg base N qual (au st) a cdv A outer s H E).nox (aK st) m/\∀ ds S d S',ds.length=ps.length->(∀ c∈S,wJ S.length c=true)->closDs S.length ds=true->f ds S=some (d,S')->Runs m (aA N ds) S d S') :
  FnOk P w K mg base FL (k+1) a fd ps (IQ K ps.length f):=by
 refine F.ok Sc (fun vs H Q E h=>?_) (fun cdv A outer s H vs Q E hr h=>?_)
 ·obtain⟨μ,S,ds,d,S',hS,hr,hn,hf,post⟩:=h
  rw [hr.length,hn]
 ·obtain⟨m,hm,run⟩:=hbody cdv A outer s H E hr
  refine⟨_,hm,?_⟩
  obtain⟨μ,S,ds,d,S',hS,hrp,hn,hf,post⟩:=h
  obtain⟨o,g,ho,hg,hend⟩:=run ds S d S' hn hS.closed (by rw [<- hS.len];exact hrp.closed) hf
  have post':Post K μ H (S'++g) d Q:=by
   rcases hg with rfl | ⟨c1,c2,c3⟩
   ·rw [List.append_nil];exact post
   ·exact post.trunc c1 c2 (by rw [hS.len];exact c3)
  have hEnv:EOk K μ H (L2.start N vs) (aA N ds):=by unfold L2.start aA;rw [hrp.length];exact EOk.start hrp
  rcases hend with rfl | ⟨rfl,env',rfl⟩
  ·exact⟨μ,S,_,_,hS,hEnv,ho,post'⟩
  ·exact⟨μ,S,_,_,hS,hEnv,ho,fun σ' H' μ' e s' _=>post' .non H' μ' e s' .non⟩
theorem Qm{P:Program}{w:World}{mg:Str->Option Value}{base:Heap}{k:Nat}{x qual:Str}{st:Stmt}{a:Addr}{fd:FuncData}{N ps:List Str}{f:List D->ac->Option (D×ac)}
  (F:L2.Fun K x qual st a fd) (Sc:aS N ps (au st)) (hmg:mg x=some (.ref a)) (hb:Binds K fd ps [])
  (hbody:∀ (cdv:Value) (A:Around) (outer:List PySem.Env) (s:Shared) (H:Hp) (E:XK),Room k (A.deeper (envOfC qual (au st) s.heap.objs.size a cdv)) ->
   ∃ m,vq (vk FL P w K mg base N qual (au st) a cdv A outer s H E).nox (aK st) m/\∀ ds S d S',ds.length=ps.length->(∀ c∈S,wJ S.length c=true)->closDs S.length ds=true->f ds S=some (d,S')->Runs m (aA N ds) S d S') :
  Fn P w K mg base (k+1) x ps.length f:=⟨a,fd,ps,rfl,Ql F Sc hbody,hmg,F.kp,hb⟩
end
end M
namespace M
open PySem PySem.Spec PyProof.Rows L2
section
variable{X:Cx}{K:PySem.W.Frag}{μ μ':Fp}{H H':Hp}{S:ac}
theorem PostN.ext{S':ac}{env':bh}{Q:L2.St->Hp->Prop}(e:Ext μ H μ' H')(p:PostN K μ H S' env' Q):PostN K μ' H' S' env' Q:=fun σ2 H2 μ2 e2 s r=>p σ2 H2 μ2 (e.trans e2) s r
theorem PostS.ext{o:oC}{E:vp}(e:Ext μ H μ' H')(p:PostS K μ H o E):PostS K μ' H' o E:=by
 cases o with
 | nx env S=>exact PostN.ext e p
 | rt d S=>exact Post.ext e p
 | bk env S=>exact PostN.ext e p
 | ct env S=>exact PostN.ext e p
noncomputable def aY:MS:=fun env S=>some (.nx env S)
noncomputable def ax(a b:MS):MS:=fun env S=>(a env S).bind fun o=>match o with | .nx env' S'=>b env' S' | o=>some o
theorem OK:vq X [] aY:=PSs.imp Nk fun E σ H ⟨μ,S,env,o,hS,hE,hm,post⟩=>by cases hm;exact post σ H μ hS.ext hS hE
theorem MJ{a b:MS}{E:vp}{σ:L2.St}(h:tMS K (ax a b) E σ H):tSeq (tMS K a) (tMS K b) E σ H:=by
 obtain⟨μ,S,env,o,hS,hE,hm,post⟩:=h
 obtain⟨o1,h1,hm⟩:=Option.bind_eq_some_iff.mp hm
 refine⟨μ,S,env,o1,hS,hE,h1,?_⟩
 cases o1 with
 | nx env' S'=>exact fun σ' H' μ' e s r=>⟨μ',S',env',o,s,r,hm,post.ext e⟩
 | rt d S'=>cases hm;exact post
 | bk env' S'=>cases hm;exact post
 | ct env' S'=>cases hm;exact post
theorem LH{st:Stmt}{rest:List Stmt}{a b:MS}(h1:DS X st a)(h2:vq X rest b):vq X (st::rest) (ax a b):=PSs.imp (zO h1 h2) fun _ _ _ h=>MJ h
theorem OJ{st:Stmt}{a:MS}(h1:DS X st a):vq X [st] a:=Ez h1
variable{pos:Pos}{e c:Expr}{m:ME}{mt:MT}{a b:List Stmt}{ma mb:MS}
theorem OM:DS X (.Pass pos) aY:=PS.imp Nm fun E σ H ⟨μ,S,env,o,hS,hE,hm,post⟩=>by cases hm;exact post σ H μ hS.ext hS hE
theorem LK:DS X (.Break pos) (fun env S=>some (.bk env S)):=PS.imp Jr fun E σ H ⟨μ,S,env,o,hS,hE,hm,post⟩=>by cases hm;exact post σ H μ hS.ext hS hE
theorem BA:DS X (.Continue pos) (fun env S=>some (.ct env S)):=PS.imp zQ fun E σ H ⟨μ,S,env,o,hS,hE,hm,post⟩=>by cases hm;exact post σ H μ hS.ext hS hE
theorem Tr{x j p}:DS X (.Expr (.Constant (.str x) j p) pos) aY:=PS.imp Re fun E σ H ⟨μ,S,env,o,hS,hE,hm,post⟩=>by cases hm;exact post σ H μ hS.ext hS hE
noncomputable def aV(m:ME):MS:=fun env S=>(m env S).bind fun p=>some (.rt p.1 p.2)
theorem Tp(he:DE X e m):DS X (.Return (some e) pos) (aV m):=PS.imp (Jp he) fun E σ H ⟨μ,S,env,o,hS,hE,hm,post⟩=>by
 obtain⟨⟨d,S1⟩,h1,hm⟩:=Option.bind_eq_some_iff.mp hm
 cases hm
 exact⟨μ,S,env,d,S1,hS,hE,h1,post⟩
theorem OL:DS X (.Return none pos) (fun _ S=>some (.rt .non S)):=PS.imp Nl fun E σ H ⟨μ,S,env,o,hS,hE,hm,post⟩=>by cases hm;exact Post.here post hS .non
noncomputable def dM(m:ME):MS:=fun env S=>(m env S).bind fun p=>some (.nx env p.2)
theorem OP(he:DE X e m)(hs:swapsWith e none pos.line X.env=pure false:=by rfl):DS X (.Expr e pos) (dM m):=PS.imp (Nn he hs) fun E σ H ⟨μ,S,env,o,hS,hE,hm,post⟩=>by
 obtain⟨⟨d,S1⟩,h1,hm⟩:=Option.bind_eq_some_iff.mp hm
 cases hm
 exact⟨μ,S,env,d,S1,hS,hE,h1,fun v H' μ' ex s r=>post σ H' μ' ex s (hE.mono ex)⟩
noncomputable def bD(t:MT)(a b:MS):MS:=fun env S=>(t env S).bind fun p=>if p.1=true then a env p.2 else b env p.2
theorem ds_if(hc:DT X c mt)(ha:vq X a ma)(hb:vq X b mb):DS X (.If c a b pos) (bD mt ma mb):=PS.imp (ps_if hc ha hb) fun E σ H ⟨μ,S,env,o,hS,hE,hm,post⟩=>by
 obtain⟨⟨k,S1⟩,h1,hm⟩:=Option.bind_eq_some_iff.mp hm
 refine⟨μ,S,env,k,S1,hS,hE,h1,fun H1 μ1 e1 s1=>?_⟩
 cases k with
 | true=>rw [if_pos rfl] at hm ⊢;exact⟨μ1,S1,env,o,s1,hE.mono e1,hm,post.ext e1⟩
 | false=>rw [if_neg Bool.false_ne_true] at hm ⊢;exact⟨μ1,S1,env,o,s1,hE.mono e1,hm,post.ext e1⟩
abbrev MG:=D->bh->ac->Option (bh×ac)
abbrev uC:=List D->bh->ac->Option (bh×ac)
inductive PC(K:PySem.W.Frag)(g:MG)(v:V)(σ:L2.St)(H:Hp)(Q:L2.St->Hp->Prop):Prop
 | mk (μ:Fp) (S:ac) (env:bh) (d:D) (env':bh) (S':ac) (hS:SOk K μ S H) (hE:EOk K μ H σ env) (h1:Rep K μ H v d) (h:g d env S=some (env',S')) (post:PostN K μ H S' env' Q)
inductive tMGs(K:PySem.W.Frag)(g:uC)(vs:List V)(σ:L2.St)(H:Hp)(Q:L2.St->Hp->Prop):Prop
 | mk (μ:Fp) (S:ac) (env:bh) (ds:List D) (env':bh) (S':ac) (hS:SOk K μ S H) (hE:EOk K μ H σ env) (h1:Reps K μ H vs ds) (h:g ds env S=some (env',S')) (post:PostN K μ H S' env' Q)
def DG(X:Cx)(tg:Expr)(g:MG):Prop:=PG X tg (PC X.K g)
def Us(X:Cx)(tg:List Expr)(g:uC):Prop:=PGs X tg (tMGs X.K g)
theorem PG.imp{tg:Expr}{t t':TG}(h:PG X tg t)(i:∀ v σ H Q,t' v σ H Q->t v σ H Q):PG X tg t':=fun pins s σ H v u Q I r q=>h pins s σ H v u Q I r (i v σ H Q q)
theorem PGs.imp{tg:List Expr}{t t':Qz}(h:PGs X tg t)(i:∀ v σ H Q,t' v σ H Q->t v σ H Q):PGs X tg t':=fun pins s σ H v u Q I r q=>h pins s σ H v u Q I r (i v σ H Q q)
noncomputable def ag(i:Nat):MG:=fun d env S=>some (env.set i (some d),S)
theorem FB{i:Nat}{x:Str}(hN:X.N.Nodup)(hi:X.N[i]?=some x)(hx:Mu X.env.scope x)(hf:X.fn x=true\/X.env.scope.names.lookup x=some .local:=by first | exact .inl rfl | exact .inr rfl | assumption):DG X (.Name x pos) (ag i):=
 PG.imp (Nu hN hi hx hf) fun v σ H Q ⟨μ,S,env,d,env',S',hS,hE,hr,hm,post⟩=>by cases hm;exact post _ H μ hS.ext hS (hE.set hr i)
noncomputable def aB:uC:=fun ds env S=>match ds with | []=>some (env,S) | _=>none
noncomputable def af(g:MG)(gs:uC):uC:=fun ds env S=>match ds with | d::r=>(g d env S).bind fun p=>gs r p.1 p.2 | []=>none
theorem OU:Us X [] aB:=PGs.imp Nt fun v σ H Q ⟨μ,S,env,ds,env',S',hS,hE,hr,hm,post⟩=>by
 cases hr with
 | nil=>cases hm;exact⟨rfl,post σ H μ hS.ext hS hE⟩
 | cons _ _=>cases hm
theorem LS{t:Expr}{ts:List Expr}{g:MG}{gs:uC}(h1:DG X t g)(h2:Us X ts gs)(hs:(assignEach (t::ts) X.env).map (·.2)=assign t X.env::(assignEach ts X.env).map (·.2):=by rfl):Us X (t::ts) (af g gs):=
 PGs.imp (Ju h1 h2 hs) fun v σ H Q ⟨μ,S,env,ds,env',S',hS,hE,hr,hm,post⟩=>by
  cases hr with
  | nil=>cases hm
  | @cons v d vs ds h t=>
   obtain⟨⟨env1,S1⟩,h1,hm⟩:=Option.bind_eq_some_iff.mp hm
   exact⟨v,vs,rfl,μ,S,env,d,env1,S1,hS,hE,h,h1,fun σ1 H1 μ1 e1 s1 r1=>⟨μ1,S1,env1,ds,env',S',s1,r1,t.mono e1,hm,post.ext e1⟩⟩
noncomputable def aJ(n:Nat)(gs:uC):MG:=fun d env S=>match d with | .tup xs=>if xs.length=n then gs xs env S else none | _=>none
theorem Tt{es:List Expr}{k n:Nat}{gs:uC}(hc:X.calm=true)(h:Us X es gs)(hn:(assignEach es X.env).length=n:=by rfl)(hst:(assignEach es X.env).findIdx? (·.1)=none:=by rfl):DG X (.Tuple es k pos) (aJ n gs):=
 PG.imp (Rj hc h hn hst) fun v σ H Q ⟨μ,S,env,d,env',S',hS,hE,hr,hm,post⟩=>by
  cases d with
  | tup xs=>
   simp only [aJ] at hm
   split at hm
   ·rename_i hl
    obtain⟨a,vs,rfl,q,r⟩:=hr.sqT
    exact⟨a,vs,rfl,q,by rw [r.length];exact hl,μ,S,env,xs,env',S',hS,hE,r,hm,post⟩
   ·cases hm
  | _=>cases hm
noncomputable def gc(o i:ME):MG:=fun d env S=>(o env S).bind fun p=>(i env p.2).bind fun q=>match p.1,q.1 with
 | .ref r,.int k=>match q.2[r]? with
  | some (.lst xs)=>(Fg xs.length k).bind fun j=>some (env,q.2.set r (.lst (xs.set j d)))
  | _=>none
 | _,_=>none
theorem Tu{o i:Expr}{mo mi:ME}(ho:DE X o mo)(hi:DE X i mi)(ha:∀ v,assign (.Subscript o i pos) X.env v=(do
   let ov <- holding [v] (eval o X.env)
   let iv <- holding [v,ov] (eval i X.env)
   standAt pos
   holding [v,ov,iv] (setItem ov iv v)
   release [v,ov,iv] []):=by intro _;rfl):DG X (.Subscript o i pos) (gc mo mi):=
 PG.imp (Rn ho hi IS ha) fun v σ H Q ⟨μ,S,env,d,env',S',hS,hE,hr,hm,post⟩=>by
  obtain⟨⟨x,S1⟩,h1,hm⟩:=Option.bind_eq_some_iff.mp hm
  obtain⟨⟨y,S2⟩,h2,hm⟩:=Option.bind_eq_some_iff.mp hm
  refine⟨μ,S,env,x,S1,hS,hE,h1,fun v1 H1 μ1 e1 s1 r1=>⟨μ1,S1,env,y,S2,s1,hE.mono e1,h2,fun v2 H2 μ2 e2 s2 r2=>?_⟩⟩
  cases x with
  | ref r=>
   cases y with
   | int k=>
    dsimp only at hm
    cases q:S2[r]? with
    | none=>rw [q] at hm;cases hm
    | some c=>
     rw [q] at hm
     cases c with
     | lst xs=>
      obtain⟨j,h3,hm⟩:=Option.bind_eq_some_iff.mp hm
      cases hm
      have r1':=r1.mono e2
      cases r1' with
      | @ref a _ h'=>
       obtain⟨vs,hv,rv⟩:=s2.cell r a _ h' q
       have rd:=(hr.mono e1).mono e2
       obtain⟨e3,s3⟩:=s2.write h' hv (rv.set rd j)
       exact⟨a,vs,k,j,rfl,r2.int_inv,hv,by rw [rv.length];exact h3,post σ _ μ2 ((e1.trans e2).trans e3) s3 (hE.mono ((e1.trans e2).trans e3))⟩
     | dct ks xs=>cases hm
   | _=>cases hm
  | _=>cases hm
noncomputable def aD(m:ME)(g:MG):MS:=fun env S=>(m env S).bind fun p=>(g p.1 env p.2).bind fun q=>some (.nx q.1 q.2)
theorem ML{g:MG}{E:vp}{σ:L2.St}(h:tMS K (aD m g) E σ H):IJ (tM K m) (PC K g) E σ H:=by
 obtain⟨μ,S,env,o,hS,hE,hm,post⟩:=h
 obtain⟨⟨d,S1⟩,h1,hm⟩:=Option.bind_eq_some_iff.mp hm
 obtain⟨⟨env2,S2⟩,h2,hm⟩:=Option.bind_eq_some_iff.mp hm
 cases hm
 exact⟨μ,S,env,d,S1,hS,hE,h1,fun v H1 μ1 e1 s1 r1=>⟨μ1,S1,env,d,env2,S2,s1,hE.mono e1,r1,h2,PostN.ext e1 post⟩⟩
theorem LL{tg:Expr}{g:MG}(he:DE X e m)(hg:DG X tg g)(hs:swapsWithSole [tg] e pos.line X.env=pure false:=by rfl)(hw:swappedStores [tg] e X.env=pure none:=by rfl)
  (h1:(assignEach [tg] X.env).map (·.2)=[assign tg X.env]:=by rfl):DS X (.Assign [tg] e pos) (aD m g):=PS.imp (Rf he hg hs hw h1) fun _ _ _ h=>ML h
theorem DN{i:Nat}{x:Str}{pos':Pos}(hN:X.N.Nodup)(hi:X.N[i]?=some x)(hx:Mu X.env.scope x)(he:DE X e m)(hs:swapsWith e (some (.Name x pos')) pos.line X.env=pure false:=by rfl)(hf:X.fn x=true\/X.env.scope.names.lookup x=some .local:=by first | exact .inl rfl | exact .inr rfl | assumption) :
  DS X (.Assign [.Name x pos'] e pos) (aD m (ag i)):=PS.imp (Jo hN hi hx he hs hf) fun E σ H h=>by
 obtain⟨μ,S,env,o,hS,hE,hm,post⟩:=h
 obtain⟨⟨d,S1⟩,h1,hm⟩:=Option.bind_eq_some_iff.mp hm
 cases hm
 exact⟨μ,S,env,d,S1,hS,hE,h1,fun v H1 μ1 e1 s1 r1=>post _ H1 μ1 e1 s1 ((hE.mono e1).set r1 i)⟩
structure ExtP(μ:Fp)(H:Hp)(μ':Fp)(H':Hp):Prop where
 fb:∃ l,μ'.fb=l++μ.fb/\∀ a∈l,H a=none
 pre:∃ l,μ'.cs = μ.cs++l/\∀ a∈l,H a=none
 keep:∀ a o,a ∉ μ.cs->H a=some o->H' a=some o
 dom:∀ a ∈ μ'.cs,H' a≠none
theorem Ext.toP(e:Ext μ H μ' H'):ExtP μ H μ' H':=⟨⟨[],by rw [e.fb];rfl,fun _ z=>by simp at z⟩,e.pre,e.keep,e.dom⟩
theorem ExtP.stays(e:ExtP μ H μ' H'){a:Addr}{o:HO}(h:H a=some o)(n:μ.no a):H' a=some o/\μ'.no a:=by
 refine⟨e.keep a o n.1 h,fun z=>?_,fun z=>?_⟩
 ·obtain⟨l,q,hl⟩:=e.pre
  rw [q] at z
  rcases List.mem_append.mp z with z | z
  ·exact n.1 z
  ·rw [hl a z] at h;cases h
 ·obtain⟨l,q,hl⟩:=e.fb
  rw [q] at z
  rcases List.mem_append.mp z with z | z
  ·rw [hl a z] at h;cases h
  ·exact n.2 z
theorem ExtP.then{μ'':Fp}{H'':Hp}(e:ExtP μ H μ' H')(f:Ext μ' H' μ'' H''):ExtP μ H μ'' H'':=by
 obtain⟨l,q,hl⟩:=e.pre
 obtain⟨l',q',hl'⟩:=f.pre
 refine⟨by rw [f.fb];exact e.fb,⟨l++l',by rw [q',q,List.append_assoc],fun a ha=>?_⟩,fun a o n h=>?_,f.dom⟩
 ·rcases List.mem_append.mp ha with ha | ha
  ·exact hl a ha
  ·have h1:=hl' a ha
   cases q2:H a with
   | none=>rfl
   | some o=>
    by_cases hm:a ∈ μ.cs
    ·exact absurd h1 (e.dom a (by rw [q];exact List.mem_append_left _ hm))
    ·rw [e.keep a o hm q2] at h1;cases h1
 ·have h1:=e.keep a o n h
  refine f.keep a o (fun z=>?_) h1
  rw [q] at z
  rcases List.mem_append.mp z with z | z
  ·exact n z
  ·rw [hl a z] at h;cases h
theorem ExtP.chg{p:Addr}{o:HO}(e:ExtP μ H μ' H')(hp:H p=none):ExtP μ H μ' (upd H' p o):=
 ⟨e.fb,e.pre,fun a o' n h=>by rw [bf (cj h hp)];exact e.keep a o' n h,fun a ha=>by
  by_cases z:a=p
  ·subst z;rw [bq];simp
  ·rw [bf z];exact e.dom a ha⟩
theorem ExtP.ix(e:ExtP μ H μ' H'){r:Nat}{a:Addr}(h:μ.cs[r]?=some a):μ'.cs[r]?=some a:=by
 obtain⟨l,q,_⟩:=e.pre
 exact ze q h
theorem Rep.monoP(e:ExtP μ H μ' H'){v:V}{d:D}(r:Rep K μ H v d):Rep K μ' H' v d:=r.imp e.stays e.ix
def Ep(K:PySem.W.Frag)(μ:Fp)(H:Hp)(J:It)(xs:List D):Prop:=
 ∀ μ' H' S',ExtP μ H μ' H'->SOk K μ' S' H'->∀ i,(∀ d,xs[i]?=some d->J.go i H'/\∀ x H2,J.yld i H' x H2->Ext μ' H' μ' H2/\SOk K μ' S' H2/\Rep K μ' H2 x d)/\(xs.length<=i->J.stop i H')
inductive iM(K:PySem.W.Frag)(m:MA)(σ:L2.St)(H:Hp)(R:It->Hp->Prop):Prop
 | mk (μ:Fp) (S:ac) (env:bh) (xs:List D) (S':ac) (hS:SOk K μ S H) (hE:EOk K μ H σ env) (h:m env S=some (xs,S')) (post:∀ J H' μ',Ext μ H μ' H'->SOk K μ' S' H'->Ep K μ' H' J xs->R J H')
def DI(X:Cx)(tg iter:Expr)(m:MA):Prop:=PI X tg iter (iM X.K m)
theorem PI.imp{tg iter:Expr}{t t':TI}(h:PI X tg iter t)(i:∀ σ H R,t' σ H R->t σ H R):PI X tg iter t':=fun pins s σ H R I q=>h pins s σ H R I (i σ H R q)
theorem wg{v:V}{a:Addr}{d:D}{xs:List D}(hd:d=.lst xs\/d=.rol xs)(r:Rep K μ H v d)(hv:v=.ref a):Ep K μ H (Itl K a) xs:=fun μ' H' S' e s i=>by
 have r':=r.monoP e
 obtain⟨vs,q,rs⟩:∃ vs,nE K H' a vs/\Reps K μ' H' vs xs:=by
  subst hv
  rcases hd with rfl | rfl
  ·obtain⟨a',vs,ea,q,_,rs⟩:=r'.sqL;cases ea;exact⟨vs,.inl (.inl q),rs⟩
  ·obtain⟨a',vs,ea,q,rs⟩:=r'.sqR;cases ea;exact⟨vs,q,rs⟩
 refine⟨fun d hd=>?_,fun hl=>⟨vs,q,by rw [rs.length];exact hl⟩⟩
 obtain⟨v,hv,rv⟩:=rs.get hd
 refine⟨⟨vs,v,q,hv⟩,fun x H2 ⟨e2,hy⟩=>?_⟩
 subst e2
 have:=hy vs q
 rw [hv] at this;cases this
 exact⟨s.ext,s,rv⟩
theorem KD{a:Addr}{xs:List D}(r:Rep K μ H (.ref a) (.tup xs)):Ep K μ H (Itt K a) xs:=fun μ' H' S' e s i=>by
 obtain⟨a',vs,ea,q,rs⟩:=(r.monoP e).sqT
 cases ea
 refine⟨fun d hd=>?_,fun hl=>⟨vs,q,by rw [rs.length];exact hl⟩⟩
 obtain⟨v,hv,rv⟩:=rs.get hd
 refine⟨⟨vs,v,q,hv⟩,fun x H2 ⟨e2,hy⟩=>?_⟩
 subst e2
 have:=hy vs q
 rw [hv] at this;cases this
 exact⟨s.ext,s,rv⟩
variable{tg iter:Expr}
noncomputable def cG(lo:Int)(n:Nat):List D:=(List.range n).map fun(i:Nat)=>D.int (lo+(i:Int))
theorem sn(lo:Int)(n i:Nat)(d:D)(h:(cG lo n)[i]?=some d):i<n/\d=.int (lo+(i:Int)):=by
 unfold cG at h
 rw [List.getElem?_map] at h
 cases q:(List.range n)[i]? with
 | none=>rw [q] at h;cases h
 | some j=>
  rw [q] at h;cases h
  obtain⟨h1,h2⟩:=List.getElem?_eq_some_iff.mp q
  simp at h1 h2
  exact⟨h1,by rw [h2]⟩
theorem tO(lo:Int)(n:Nat):Ep K μ H (Itr lo n) (cG lo n):=fun μ' H' S' e s i=>by
 refine⟨fun d hd=>?_,fun hl=>?_⟩
 ·obtain⟨h1,rfl⟩:=sn lo n i d hd
  refine⟨h1,fun x H2 ⟨e2,hy⟩=>?_⟩
  subst e2 hy
  exact⟨s.ext,s,.int _⟩
 ·have:(cG lo n).length=n:=by simp [cG]
  rw [this] at hl;exact hl
noncomputable def cC(ms:MA):MA:=fun env S=>(ms env S).bind fun p=>match p.1 with | [.int j]=>if -(2 ^ 62)<=j/\j<2 ^ 62 then some (cG 0 j.toNat,p.2) else none | _=>none
noncomputable def dD(ms:MA):MA:=fun env S=>(ms env S).bind fun p=>match p.1 with | [.int i,.int j]=>if -(2 ^ 62)<=i/\i<2 ^ 62/\-(2 ^ 62)<=j/\j<2 ^ 62 then some (cG i (j - i).toNat,p.2) else none | _=>none
theorem HL{a:Expr}{ms:MA}{p:Pos}(hm:X.mg "range" = none)(ha:DA X [a] ms)(hg:Gl X "range":=by rfl)(hs:starEach [a] X.env=[(false,eval a X.env)]:=by rfl):DI X tg (.Call (.Name "range" p) [a] [] pos) (cC ms):=
 PI.imp (Gq hg hm ha hs) fun σ H R ⟨μ,S,env,xs,S',hS,hE,hm,post⟩=>by
  obtain⟨⟨ds,S1⟩,h1,hm⟩:=Option.bind_eq_some_iff.mp hm
  refine⟨μ,S,env,ds,S1,hS,hE,h1,fun vs H1 μ1 e1 s1 r1=>?_⟩
  dsimp only at hm
  split at hm
  ·split at hm
   ·rename_i hb
    cases hm
    obtain⟨v,rfl,r⟩:=r1.one
    exact⟨_,by rw [r.int_inv],hb.1,hb.2,post _ H1 μ1 e1 s1 (tO 0 _)⟩
   ·cases hm
  ·cases hm
theorem HK{a b:Expr}{ms:MA}{p:Pos}(hm:X.mg "range" = none)(ha:DA X [a,b] ms)(hg:Gl X "range":=by rfl)(hs:starEach [a,b] X.env=[(false,eval a X.env),(false,eval b X.env)]:=by rfl)(hs2:starEach [b] X.env=[(false,eval b X.env)]:=by rfl):DI X tg (.Call (.Name "range" p) [a,b] [] pos) (dD ms):=
 PI.imp (Gp hg hm ha hs hs2) fun σ H R ⟨μ,S,env,xs,S',hS,hE,hm,post⟩=>by
  obtain⟨⟨ds,S1⟩,h1,hm⟩:=Option.bind_eq_some_iff.mp hm
  refine⟨μ,S,env,ds,S1,hS,hE,h1,fun vs H1 μ1 e1 s1 r1=>?_⟩
  dsimp only at hm
  split at hm
  ·split at hm
   ·rename_i hb
    cases hm
    obtain⟨v,w,rfl,r,r'⟩:=r1.two
    exact⟨_,_,by rw [r.int_inv,r'.int_inv],hb,post _ H1 μ1 e1 s1 (tO _ _)⟩
   ·cases hm
  ·cases hm
noncomputable def cF(g:MG)(body:MS):List D->bh->ac->Option oC
 | [],env,S=>some (.nx env S)
 | d::ds,env,S=>(g d env S).bind fun p=>(body p.1 p.2).bind fun o=>match o with
  | .nx e s=>cF g body ds e s
  | .ct e s=>cF g body ds e s
  | .bk e s=>some (.nx e s)
  | .rt d s=>some (.rt d s)
noncomputable def jd(mi:MA)(g:MG)(body:MS):MS:=fun env S=>(mi env S).bind fun p=>cF g body p.1 env p.2
theorem LJ{body:List Stmt}{mi:MA}{g:MG}{mb:MS}(hp:PassesOwn (model X.prog X.w) X.A X.env X.xe)(hc:X.calm=true)(hi:DI X tg iter mi)(hg:DG X tg g)(hb:vq X body mb)
  (hs:∀ x,foldedSetIterable iter X.env x=pure x:=by intro _;rfl):DS X (.For tg iter body [] pos) (jd mi g mb):=PS.imp (Jq hp hc hi hg hb hs) fun E σ H ⟨μ,S,env,o,hS,hE,hm,post⟩=>by
 obtain⟨⟨xs,S1⟩,h1,hm⟩:=Option.bind_eq_some_iff.mp hm
 refine⟨μ,S,env,xs,S1,hS,hE,h1,fun J H1 μ1 e1 s1 it=>?_⟩
 refine⟨fun i n σ H=>n=xs.length - i/\i<=xs.length/\∃ μ' S' env' o',Ext μ1 H1 μ' H/\SOk X.K μ' S' H/\EOk X.K μ' H σ env'/\cF g mb (xs.drop i) env' S'=some o'/\PostS X.K μ' H o' E,
  ⟨xs.length,by simp,Nat.zero_le _,μ1,S1,env,o,s1.ext,s1,hE.mono e1,by rw [List.drop_zero];exact hm,post.ext e1⟩,?_⟩
 rintro i n σ' H' ⟨rfl,hi,μ',S',env',o',e',s',r',hl,post'⟩
 have iti:=it μ' H' S' e'.toP s' i
 by_cases hlt:i<xs.length
 ·refine .inr ⟨(iti.1 xs[i] (List.getElem?_eq_getElem hlt)).1,fun σ2 H2=>∃ μ2 S2 env2 o2,Ext μ1 H1 μ2 H2/\SOk X.K μ2 S2 H2/\EOk X.K μ2 H2 σ2 env2/\cF g mb (xs.drop (i+1)) env2 S2=some o2/\PostS X.K μ2 H2 o2 E,
   fun σ2 H2 ⟨μ2,S2,env2,o2,q1,q2,q3,q4,q5⟩=>⟨xs.length - (i+1),by omega,rfl,hlt,μ2,S2,env2,o2,q1,q2,q3,q4,q5⟩,fun x H2 y=>?_⟩
  obtain⟨e2,s2,rx⟩:=(iti.1 xs[i] (List.getElem?_eq_getElem hlt)).2 x H2 y
  rw [List.drop_eq_getElem_cons hlt] at hl
  obtain⟨⟨env3,S3⟩,h3,hl⟩:=Option.bind_eq_some_iff.mp hl
  obtain⟨o4,h4,hl⟩:=Option.bind_eq_some_iff.mp hl
  refine⟨μ',S',env',xs[i],env3,S3,s2,r'.mono e2,rx,h3,fun σ3 H3 μ3 e3 s3 r3=>⟨μ3,S3,env3,o4,s3,r3,h4,?_⟩⟩
  have eT:Ext μ1 H1 μ3 H3:=(e'.trans e2).trans e3
  have pT:PostS X.K μ3 H3 o' E:=(post'.ext e2).ext e3
  cases o4 with
  | nx e5 s5=>exact fun σ6 H6 μ6 e6 s6 r6=>⟨μ6,s5,e5,o',eT.trans e6,s6,r6,hl,pT.ext e6⟩
  | ct e5 s5=>exact fun σ6 H6 μ6 e6 s6 r6=>⟨μ6,s5,e5,o',eT.trans e6,s6,r6,hl,pT.ext e6⟩
  | bk e5 s5=>cases hl;exact pT
  | rt d5 s5=>cases hl;exact pT
 ·have e:i=xs.length:=by omega
  subst e
  refine .inl ⟨iti.2 (Nat.le_refl _),?_⟩
  rw [List.drop_length] at hl
  cases hl
  exact post' σ' H' μ' s'.ext s' r'
noncomputable def oz(cap:List (Option Nat))(env:bh):bh:=cap.map fun o=>o.bind fun i=>(env[i]?).join
def Mx(X:Cx)(ifs:List Expr)(m:MT):Prop:=Pw X ifs (Ca X.K m)
theorem OH:Mx X [] (fun _ S=>some (true,S)):=fun pins s σ H Q I ⟨μ,S,env,b,S',hS,hE,hm,post⟩=>by cases hm;exact Ni pins s σ H Q I (post H μ hS.ext hS)
theorem OG{c:Expr}{t:MT}(h:DT X c t):Mx X [c] t:=Nh h
noncomputable def dF(g:MG)(t:MT)(e:ME):List D->bh->ac->Option (List D×ac)
 | [],_,S=>some ([],S)
 | d::ds,env,S=>(g d env S).bind fun p=>(t p.1 p.2).bind fun b=>if b.1=true then (e p.1 b.2).bind fun q=>(dF g t e ds p.1 q.2).bind fun r=>some (q.1::r.1,r.2) else dF g t e ds p.1 b.2
noncomputable def bJ(mi:MA)(g:MG)(t:MT)(e:ME)(cap:List (Option Nat)):ME:=fun env S=>(mi env S).bind fun p=>if p.1.length<=sizeLine then (dF g t e p.1 (oz cap env) p.2).bind fun q=>some (.lst q.1,q.2) else none
theorem zv{mi:MA}{g:MG}{t:MT}{e:ME}{cap:List (Option Nat)}{σ:L2.St}{Q:VK}(h:tM K (bJ mi g t e cap) σ H Q):Eu (iM K mi) (PC K g) (Ca K t) (tM K e) cap σ H Q:=by
 obtain⟨μ,S,env,d,S',hS,hE,hm,post⟩:=h
 obtain⟨⟨xs,S1⟩,h1,hm⟩:=Option.bind_eq_some_iff.mp hm
 dsimp only at hm
 split at hm
 case isFalse=>cases hm
 rename_i hsz
 obtain⟨⟨ys,S2⟩,h2,hm⟩:=Option.bind_eq_some_iff.mp hm
 cases hm
 refine⟨μ,S,env,xs,S1,hS,hE,h1,fun J H1 μ1 e1 s1 it p hp=>?_⟩
 have hpn:=s1.notMem hp
 refine⟨fun i n σ' H'=>n=xs.length - i/\i<=xs.length/\∃ (cs:List Addr) (S':ac) (env':bh) (vs:List V) (zs rest:List D),ExtP μ1 H1 ⟨cs,p::μ1.fb⟩ H'/\SOk K ⟨cs,p::μ1.fb⟩ S' H'/\EOk K ⟨cs,p::μ1.fb⟩ H' σ' env'/\H' p=some (.lst vs) /\
   Reps K ⟨cs,p::μ1.fb⟩ H' vs zs/\dF g t e (xs.drop i) env' S'=some (rest,S2)/\ys=zs++rest/\vs.length<=i,⟨xs.length,by simp,Nat.zero_le _,μ1.cs,S1,oz cap env,[],[],ys,?_,s1.more hp,?_,bq,.nil,by rw [List.drop_zero];exact h2,rfl,Nat.le_refl _⟩,?_⟩
 ·exact⟨⟨[p],rfl,fun a z=>by rw [List.mem_singleton.mp z];exact hp⟩,⟨[],by simp,fun _ z=>by simp at z⟩,fun a o' n h=>by rw [bf (cj h hp)];exact h,fun a ha=>by
   by_cases z:a=p
   ·subst z;rw [bq];simp
   ·rw [bf z];exact s1.dom a ha⟩
 ·exact((hE.mono e1).block cap).more hp
 rintro i n σ' H' ⟨rfl,hi,cs,S',env',vs,zs,rest,eP,s',r',hpv,rz,hl,rfl,hvl⟩
 have iti:=it _ H' S' eP s' i
 by_cases hlt:i<xs.length
 ·refine .inr ⟨(iti.1 xs[i] (List.getElem?_eq_getElem hlt)).1,fun x H2 y=>?_⟩
  obtain⟨e2,s2,rx⟩:=(iti.1 xs[i] (List.getElem?_eq_getElem hlt)).2 x H2 y
  rw [List.drop_eq_getElem_cons hlt] at hl
  obtain⟨⟨env3,S3⟩,h3,hl⟩:=Option.bind_eq_some_iff.mp hl
  obtain⟨⟨b,S4⟩,h4,hl⟩:=Option.bind_eq_some_iff.mp hl
  refine⟨_,S',env',xs[i],env3,S3,s2,r'.mono e2,rx,h3,fun σ3 H3 μ3 e3 s3 r3=>⟨μ3,S3,env3,b,S4,s3,r3,h4,fun H4 μ4 e4 s4=>?_⟩⟩
  have eA:=(e2.trans e3).trans e4
  have pcs:p ∉ cs:=fun z=>s'.disj p List.mem_cons_self z
  cases b with
  | false=>
   rw [if_neg Bool.false_ne_true] at hl
   dsimp only
   rw [if_neg Bool.false_ne_true]
   obtain⟨cs4,fb4⟩:=μ4
   have hfb:fb4=p::μ1.fb:=eA.fb
   subst hfb
   exact⟨xs.length - (i+1),by omega,rfl,hlt,cs4,S4,env3,vs,zs,rest,eP.then eA,s4,r3.mono e4,(eA.keeps hpv pcs).1,rz.mono eA,hl,rfl,by omega⟩
  | true=>
   rw [if_pos rfl] at hl
   dsimp only
   rw [if_pos rfl]
   obtain⟨⟨dv,S5⟩,h5,hl⟩:=Option.bind_eq_some_iff.mp hl
   obtain⟨⟨rs,S6⟩,h6,hl⟩:=Option.bind_eq_some_iff.mp hl
   cases hl
   refine⟨μ4,S4,env3,dv,S5,s4,r3.mono e4,h5,fun v H5 μ5 e5 s5 r5=>?_⟩
   have eB:=eA.trans e5
   obtain⟨cs5,fb5⟩:=μ5
   have hfb:fb5=p::μ1.fb:=eB.fb
   subst hfb
   refine⟨vs,(eB.keeps hpv pcs).1,by omega,xs.length - (i+1),by omega,rfl,hlt,cs5,S5,env3,vs++[v],zs++[dv],rs,(eP.then eB).chg hp,s5.chg List.mem_cons_self,((r3.mono e4).mono e5).chg List.mem_cons_self,bq,Reps.chg List.mem_cons_self ((rz.mono eB).append (.cons r5 .nil)),h6,by simp,by rw [List.length_append,List.length_singleton];omega⟩
 ·have e:i=xs.length:=by omega
  subst e
  refine .inl ⟨iti.2 (Nat.le_refl _),?_⟩
  rw [List.drop_length] at hl
  cases hl
  have eF:Ext μ1 H1 ⟨cs,μ1.fb⟩ H':=⟨rfl,eP.pre,eP.keep,eP.dom⟩
  dsimp only at post
  rw [List.append_nil] at post
  exact post _ H' ⟨cs,μ1.fb⟩ (e1.trans eF) s'.less (.lst hpv ⟨fun z=>s'.disj p List.mem_cons_self z,hpn.2⟩ rz.less)
theorem Pa{elt:Expr}{ifs:List Expr}{scope:Scope}{N':List Str}{cap:List (Option Nat)}{mi:MA}{g:MG}{t:MT}{me:ME}
  (hc:X.calm=true) (B:BlockOk X N' scope cap) (hi:DI X tg iter mi) (hg:∀ C s H fp,DG (nk X N' scope C s H fp) tg g) (ht:∀ C s H fp,Mx (nk X N' scope C s H fp) ifs t) (he:∀ C s H fp,DE (nk X N' scope C s H fp) elt me)
  (hs:∀ x,foldedSetIterable iter X.env x=pure x:=by intro _;rfl):DE X (.ListComp elt [⟨tg,iter,ifs,0⟩] scope pos) (bJ mi g t me cap):=
 PE.imp (EB (g:=PC X.K g) (tt:=Ca X.K t) (te:=tM X.K me) hc B hi hg ht he hs) fun _ _ _ h=>zv h
theorem DM{elt:Expr}{ifs:List Expr}{scope:Scope}{spos py:Pos}{N':List Str}{cap:List (Option Nat)}{mi:MA}{g:MG}{t:MT}{me:ME}{y:Str}{i:Nat}
  (hN:X.N.Nodup) (hy:X.N[i]?=some y) (hx:Mu X.env.scope y)
  (hc:X.calm=true) (B:BlockOk X N' scope cap) (hi:DI X tg iter mi) (hg:∀ C s H fp,DG (nk X N' scope C s H fp) tg g) (ht:∀ C s H fp,Mx (nk X N' scope C s H fp) ifs t) (he:∀ C s H fp,DE (nk X N' scope C s H fp) elt me)
  (hsw:swapsWith (.ListComp elt [⟨tg,iter,ifs,0⟩] scope pos) (some (.Name y py)) spos.line X.env=pure true:=by rfl)
  (hs:∀ x,foldedSetIterable iter X.env x=pure x:=by intro _;rfl) (hf:X.fn y=true\/X.env.scope.names.lookup y=some .local:=by first | exact .inl rfl | exact .inr rfl | assumption) :
  DS X (.Assign [.Name y py] (.ListComp elt [⟨tg,iter,ifs,0⟩] scope pos) spos) (aD (bJ mi g t me cap) (ag i)):=
 PS.imp (su (g:=PC X.K g) (tt:=Ca X.K t) (te:=tM X.K me) hN hy hx hc B hi hg ht he hsw hs hf) fun E σ H h=>by
  obtain⟨μ,S,env,o,hS,hE,hm,post⟩:=h
  obtain⟨⟨d,S1⟩,h1,hm⟩:=Option.bind_eq_some_iff.mp hm
  cases hm
  exact zv ⟨μ,S,env,d,S1,hS,hE,h1,fun v H1 μ1 e1 s1 r1=>post _ H1 μ1 e1 s1 ((hE.mono e1).set r1 i)⟩
end
end M
namespace M
open PySem PySem.Spec PyProof.Rows L2
section
variable{X:Cx}{K:PySem.W.Frag}{μ μ':Fp}{H H':Hp}{S:ac}{pos p2:Pos}{tg iter:Expr}{m:ME}
noncomputable def vm(N N':List Str)(kX kB:Str->Option NameKind):List (Option Nat)->List Str->Bool
 | [],[]=>true
 | none::r,_::s=>vm N N' kX kB r s
 | some i::r,y::s=>N[i]? == some y&&(kX y == some .cell||kX y == some .free)&&(kB y == some .cell||kB y == some .free)&&vm N N' kX kB r s
 | _,_=>false
theorem yV{N N':List Str}{kX kB:Str->Option NameKind}:∀ {cap:List (Option Nat)} {ys:List Str},vm N N' kX kB cap ys=true->cap.length=ys.length/\∀ (j i:Nat),cap[j]?=some (some i)->∃ y,ys[j]?=some y/\N[i]?=some y/\(kX y=some .cell\/kX y=some .free)/\(kB y=some .cell\/kB y=some .free)
 | [],[],_=>⟨rfl,fun j i e=>by simp at e⟩
 | none::r,y::s,h=>by
  obtain⟨h1,h2⟩:=yV (cap:=r) (ys:=s) h
  refine⟨by simp [h1],fun j i e=>?_⟩
  cases j with
  | zero=>simp at e
  | succ j=>simpa using h2 j i (by simpa using e)
 | some k::r,y::s,h=>by
  rw [vm,Bool.and_eq_true,Bool.and_eq_true,Bool.and_eq_true,Bool.or_eq_true,Bool.or_eq_true] at h
  obtain⟨h1,h2⟩:=yV (cap:=r) (ys:=s) h.2
  refine⟨by simp [h1],fun j i e=>?_⟩
  cases j with
  | zero=>
   simp at e;subst e
   refine⟨y,rfl,by simpa using h.1.1.1,?_,?_⟩
   ·exact h.1.1.2.imp (fun z=>by simpa using z) fun z=>by simpa using z
   ·exact h.1.2.imp (fun z=>by simpa using z) fun z=>by simpa using z
  | succ j=>simpa using h2 j i (by simpa using e)
 | [],_::_,h=>by simp [vm] at h
 | none::_,[],h=>by simp [vm] at h
 | some _::_,[],h=>by simp [vm] at h
theorem blk{N':List Str}{scope:Scope}{cap:List (Option Nat)}(nd:N'.Nodup)(k:scope.kind=.function:=by rfl)(nc:(scope.names.all fun x=>x.2 != .cell)=true:=by rfl)(nm:(scope.names.all fun x=>x.2 != .local||scope.names.lookup x.1 == some .local)=true:=by rfl)
  (fr:(scope.names.all fun x=>x.2 != .free||X.env.kindOf x.1 == some .cell||X.env.kindOf x.1 == some .free)=true:=by rfl)
  (cp:vm X.N N' X.env.kindOf (fun y=>(relabel scope X.env).names.lookup y) cap N'=true:=by rfl):BlockOk X N' scope cap:=by
 obtain⟨h1,h2⟩:=yV cp
 refine⟨k,fun x hx=>?_,fun x hx hl=>?_,fun x hx hf=>?_,nd,h1,fun j i e=>?_⟩
 ·have:=List.all_eq_true.mp nc x hx
  simpa using this
 ·have:=List.all_eq_true.mp nm x hx
  simpa [hl] using this
 ·have:=List.all_eq_true.mp fr x hx
  simpa [hf] using this
 ·obtain⟨y,a,b,c,d⟩:=h2 j i e
  exact⟨y,a,b,.inr c,c,d⟩
theorem Ri{l:Expr}{tl:TE}(hl:PE X l tl):PI X tg l (fun σ H R=>tl σ H fun x H1=>∃ a,x=.ref a/\(((∃ xs,nE X.K H1 a xs)/\R (Itl X.K a) H1)\/((∃ xs,lI X.K H1 a xs)/\R (Itt X.K a) H1))):=by
 intro pins s σ H R I h
 refine dg (hl pins s σ H _ I h) fun v s1 ⟨x,H1,I1,r1,q1⟩=>?_
 obtain⟨a,e,⟨⟨xs,hq⟩,q⟩ | ⟨⟨xs,hq⟩,q⟩⟩:=q1
 ·subst e
  cases r1
  obtain⟨its,rv,p,hz⟩:=I1.list hq
  refine wpAny_pyIter_list p.isList ?_
  refine⟨s1.heap.objs.size,[s1.heap.objs.size],_,_,H1,rfl,I1.kept (t':=s1.toks) fun b o e=>Heap.get?_push_of_some _ e,vx a _,⟨_,Heap.get?_push_size _ rfl,rfl,rfl⟩,fun b hb=>?_,q⟩
  have e:b=s1.heap.objs.size:=by simpa using hb
  subst e
  exact I1.fpOk (Nat.le_refl _) (I1.hok.fresh (Nat.le_refl _))
 ·subst e
  cases r1
  obtain⟨its,rv,p,hz⟩:=I1.tuple hq
  refine wpAny_pyIter_tuple (show s1.heap.IsTuple a its.toArray from p) ?_
  refine⟨s1.heap.objs.size,[s1.heap.objs.size],_,_,H1,rfl,I1.kept (t':=s1.toks) fun b o e=>Heap.get?_push_of_some _ e,BW a _,⟨_,Heap.get?_push_size _ rfl,rfl,rfl⟩,fun b hb=>?_,q⟩
  have e:b=s1.heap.objs.size:=by simpa using hb
  subst e
  exact I1.fpOk (Nat.le_refl _) (I1.hok.fresh (Nat.le_refl _))
noncomputable def da(m:ME):MA:=fun env S=>(m env S).bind fun p=>match p.1 with | .lst xs=>some (xs,p.2) | .rol xs=>some (xs,p.2) | .tup xs=>some (xs,p.2) | _=>none
theorem DZ(h:DE X iter m):DI X tg iter (da m):=PI.imp (Ri h) fun σ H R ⟨μ,S,env,xs,S',hS,hE,hm,post⟩=>by
 obtain⟨⟨d,S1⟩,h1,hm⟩:=Option.bind_eq_some_iff.mp hm
 refine⟨μ,S,env,d,S1,hS,hE,h1,fun v H1 μ1 e1 s1 r1=>?_⟩
 cases d with
 | lst ys=>
  cases hm
  have r1':=r1
  obtain⟨a,vs,rfl,q,_,rs⟩:=r1.sqL
  exact⟨a,rfl,.inl ⟨⟨vs,.inl (.inl q)⟩,post _ H1 μ1 e1 s1 (wg (.inl rfl) r1' rfl)⟩⟩
 | rol ys=>
  cases hm
  have r1':=r1
  obtain⟨a,vs,rfl,q,rs⟩:=r1.sqR
  exact⟨a,rfl,.inl ⟨⟨vs,q⟩,post _ H1 μ1 e1 s1 (wg (.inr rfl) r1' rfl)⟩⟩
 | tup ys=>
  cases hm
  have r1':=r1
  obtain⟨a,vs,rfl,q,rs⟩:=r1.sqT
  exact⟨a,rfl,.inr ⟨⟨vs,q⟩,post _ H1 μ1 e1 s1 (KD r1')⟩⟩
 | _=>cases hm
end
noncomputable def aO(N:List Str)(m:MS)(n:Nat):List D->ac->Option (D×ac):=fun ds S=>if ds.length=n then (m (aA N ds) S).bind fun o=>match o with | .rt d S'=>some (d,S') | .nx _ S'=>some (.non,S') | _=>none else none
theorem vG{N:List Str}{m:MS}{n:Nat}{ds:List D}{S S':ac}{d:D}(h:aO N m n ds S=some (d,S')):Runs m (aA N ds) S d S':=by
 unfold aO at h
 split at h
 ·obtain⟨o,h1,h⟩:=Option.bind_eq_some_iff.mp h
  cases o with
  | rt d' S2=>cases h;exact .ret h1
  | nx e S2=>cases h;exact⟨_,[],h1,.inl rfl,.inr ⟨rfl,e,by rw [List.append_nil]⟩⟩
  | bk _ _=>cases h
  | ct _ _=>cases h
 ·cases h
structure bI(K:PySem.W.Frag)(mg:Str->Option Value)(x:Str)(st:Stmt):Prop where
 ex:∃ (a:Addr) (fd:FuncData),L2.Fun K x x st a fd/\mg x=some (.ref a)
def zk(x:Str)(st:Stmt)(ps:List Str):Prop:=∀ (kV doc pm:Value) (an:Option Addr) (cdv ct:Value) (us:List Value),us.length=ps.length->bindArgs (PySem.W.fnOf x x (iO st) (aK st) (au st) .none kV doc pm an cdv ct) ⟨us,[]⟩=pure (ps.zip us)
theorem Tv{P:Program}{w:World}{K:PySem.W.Frag}{mg:Str->Option Value}{base:Heap}{k:Nat}{x:Str}{st:Stmt}{N ps:List Str}{m:MS}
  (F:bI K mg x st) (Sc:aS N ps (au st)) (hb:zk x st ps)
  (hbody:∀ (a:Addr) (cdv:Value) (A:Around) (outer:List PySem.Env) (s:Shared) (H:Hp) (E:XK),Room k (A.deeper (envOfC x (au st) s.heap.objs.size a cdv)) ->
   vq (vk FL P w K mg base N x (au st) a cdv A outer s H E).nox (aK st) m) :
  Fn P w K mg base (k+1) x ps.length (aO N m ps.length):=by
 obtain⟨a,fd,F,hmg⟩:=F.ex
 exact Qm F Sc hmg (F.binds hb) fun cdv A outer s H E hr=>⟨m,hbody a cdv A outer s H E hr,fun ds S d S' hn hS hd h=>vG h⟩
theorem Fn.up{P:Program}{w:World}{K:PySem.W.Frag}{mg:Str->Option Value}{base:Heap}{k k':Nat}{x:Str}{n:Nat}{f:List D->ac->Option (D×ac)}(F:Fn P w K mg base k x n f)(h:k<=k'):Fn P w K mg base k' x n f:=by
 obtain⟨a,fd,ps,h1,h2,h3⟩:=F.ex
 exact⟨a,fd,ps,h1,h2.mono h,h3⟩
theorem Sd{K:PySem.W.Frag}{f:List D->ac->Option (D×ac)}(h:∀ ns:List Int,ns.length<=63->∃ S',f [.rol (ns.map .int)] []=some (.bl true,S')){H:Hp}{a:Addr}{ns:List Int}{E:XK}(hl:ns.length<=63)(hS:nE K H a (ns.map V.int)) :
  IQ K 1 f [.ref a] H (fun v _=>v=.bl true) E:=by
 obtain⟨S',hf⟩:=h ns hl
 have hr:∀ l:List Int,Reps K ⟨[],[]⟩ H (l.map V.int) (l.map D.int):=fun l=>by
  induction l with
  | nil=>exact .nil
  | cons x l ih=>exact .cons (.int x) ih
 refine⟨⟨[],[]⟩,[],_,_,S',⟨List.nodup_nil,rfl,fun r a c h=>by simp at h,fun a h=>by simp at h,fun a h=>by simp at h⟩,.cons ?_ .nil,rfl,hf,fun v H' μ' e s r=>r.bl_inv⟩
 rcases hS with hS | hS
 ·exact .rol hS ⟨by simp,by simp⟩ (hr ns)
 ·exact .krol hS (hr ns)
end M
namespace M
open PySem PySem.Spec PyProof.Rows L2
noncomputable def Ho(_:ac)(x:D):Option D:=match x with | .int i=>some (.int (-i)) | _=>none
theorem MB{X:Cx}:UnR X (unaryOp .USub) (rM1 X.K Ho):=QH
noncomputable def bU:MT:=fun _ S=>some (true,S)
theorem LC{X:Cx}:Mx X [] bU:=OH
theorem Se{P:Program}{w:World}{K:PySem.W.Frag}{mg:Str->Option Value}{k:Nat}{st:Stmt}{N:List Str}{m:MS}{fa:Addr}(F:bI K mg "law" st)(hfa:mg "law" = some (.ref fa))(Sc:aS N ["_law_script"] (au st))
  (hbt:∀ (kV doc pm:Value) (an:Option Addr) (cdv ct v:Value),bindArgs (PySem.W.fnOf "law" "law" (iO st) (aK st) (au st) .none kV doc pm an cdv ct) ⟨[v],[]⟩=pure [(("_law_script":Str),v)])
  (hbody:∀ (base:Heap) (a:Addr) (cdv:Value) (A:Around) (outer:List PySem.Env) (s:Shared) (H:Hp) (E:XK),Room k (A.deeper (envOfC "law" (au st) s.heap.objs.size a cdv)) ->
   vq (vk FL P w K mg base N "law" (au st) a cdv A outer s H E).nox (aK st) m) :
  ∃ fd:FuncData,(∀ (s:Shared) (v:Value),BindsTo s fd ⟨[v],[]⟩ [("_law_script",v)])/\∀ base:Heap,K.In base->base.Ns mainGlobals mg->FnOk P w K mg base FL (k+1) fa fd ["_law_script"] (IQ K 1 (aO N m 1)):=by
 obtain⟨a,fd,F,hmg⟩:=F.ex
 rw [hfa] at hmg
 have e:fa=a:=by cases hmg;rfl
 subst e
 refine⟨fd,fun s v=>?_,fun base _ _=>Ql F Sc fun cdv A outer s H E hr=>⟨m,hbody base fa cdv A outer s H E hr,fun ds S d S' hn hS hd h=>vG h⟩⟩
 obtain⟨oc,od,kV,doc,pm,an,cdv,ct,osl,rfl,lk,hcd⟩:=F.ex
 exact .of_eq (hbt kV doc pm an cdv ct v)
end M
namespace HT
open PySem PyProof.Rows
open AutoSeq1 (wpAny_loadPart')
theorem CG:fillsNumberSlot (.type "tuple") "mul" = pure false:=
 PySem.fillsNumberSlot_seq (id:="tuple.__mul__") (r:=some (.builtin "tuple.__rmul__"))
  F.slot_tuple_mul.lookup (by decide +kernel) F.slot_tuple_rmul.lookup (by decide +kernel)
theorem QX:seqRepeat? (.type "tuple")=pure (some (.builtin "tuple.__mul__")):=by
 unfold seqRepeat?
 rw [PySem.seqSlot_of (T:="tuple") (name:="__mul__") (id:="tuple.__mul__") F.slot_tuple_mul.lookup (by decide +kernel)]
 rw [PySem.seqSlot_of (T:="tuple") (name:="__rmul__") (id:="tuple.__rmul__") F.slot_tuple_rmul.lookup (by decide +kernel)]
 rfl
theorem Jd(a:Int)(t:Tok)(l:Addr)(items:Array Value)(n:Nat)(dd:Option Addr)(sl:Array (Option Value)) :
  Meets (Builtin.«int.__rmul__» ⟨[.int a t,.ref l],[]⟩) (fun _ R s=>s.heap.get? l=some ⟨.type "tuple",dd,.seq items n,sl⟩/\R (.ok (.ret Value.notImplemented)) s):=
 .of_wp fun prog w A R s h=>by
  obtain⟨hp,g,d,tk,os⟩:=s
  obtain⟨hl,h⟩:=h
  wp_walk
  exact⟨_,rfl,h⟩
theorem mulT0(l:Addr)(items:Array Value)(n:Nat)(k:Int)(t:Tok)(dd:Option Addr)(sl:Array (Option Value))(h1:¬ (decide (k < -(2 ^ 63))||decide (k≥2 ^ 63))=true)(hc:(items.isEmpty||k == 1)=true) :
  Meets (Builtin.«tuple.__mul__» ⟨[.ref l,.int k t],[]⟩) (fun _ R s=>s.heap.get? l=some ⟨.type "tuple",dd,.seq items n,sl⟩/\R (.ok (.ret (.ref l))) s):=
 .of_wp fun prog w A R s h=>by
  obtain⟨hp,g,d,tk,os⟩:=s
  obtain⟨hl,h⟩:=h
  have f1:=AutoSeq1.idx_int
  have f2:=AutoSeq1.sub_tuple_tuple
  wp_walk using wpAny_loadPart' hl
  rw [if_neg h1]
  wp_walk using wpAny_loadPart' hl
  exact⟨_,rfl,h⟩
theorem mulT1(l:Addr)(items:Array Value)(n:Nat)(k:Int)(t:Tok)(dd:Option Addr)(sl:Array (Option Value))(h1:¬ (decide (k < -(2 ^ 63))||decide (k≥2 ^ 63))=true)(hc:¬ (items.isEmpty||k == 1)=true)(hk:(decide (k<=0)||items.isEmpty)=true) :
  Meets (Builtin.«tuple.__mul__» ⟨[.ref l,.int k t],[]⟩) (fun _ R s=>s.heap.get? l=some ⟨.type "tuple",dd,.seq items n,sl⟩/\R (.ok (.ret (.ref s.heap.objs.size))) { s with heap:=s.heap.push { cls:=.type "tuple",data:=.seq #[] },toks:=s.toks }):=
 .of_wp fun prog w A R s h=>by
  obtain⟨hp,g,d,tk,os⟩:=s
  obtain⟨hl,h⟩:=h
  have f1:=AutoSeq1.idx_int
  have f2:=AutoSeq1.sub_tuple_tuple
  wp_walk using wpAny_loadPart' hl
  rw [if_neg h1]
  wp_walk using wpAny_loadPart' hl
  exact⟨_,rfl,h⟩
theorem mulT2(l:Addr)(items:Array Value)(n:Nat)(k:Int)(t:Tok)(dd:Option Addr)(sl:Array (Option Value))(h1:¬ (decide (k < -(2 ^ 63))||decide (k≥2 ^ 63))=true)(hc:¬ (items.isEmpty||k == 1)=true)(hk:¬ (decide (k<=0)||items.isEmpty)=true)
  (hb:¬ ((items.size:Int) * k>(2 ^ 63 - 1) / 8)) (hm:¬ Builtin.Tuple.tupleTooMany ((items.size:Int) * k)=true) (hz:(List.foldl (fun x1 x2=>x1++x2) #[] (List.replicate k.toNat items)).size<=sizeLine) :
  Meets (Builtin.«tuple.__mul__» ⟨[.ref l,.int k t],[]⟩) (fun _ R s=>s.heap.get? l=some ⟨.type "tuple",dd,.seq items n,sl⟩/\R (.ok (.ret (.ref s.heap.objs.size))) { s with heap:=s.heap.push { cls:=.type "tuple",data:=.seq (List.foldl (fun x1 x2=>x1++x2) #[] (List.replicate k.toNat items)) },toks:=s.toks }):=
 .of_wp fun prog w A R s h=>by
  obtain⟨hp,g,d,tk,os⟩:=s
  obtain⟨hl,h⟩:=h
  have f1:=AutoSeq1.idx_int
  have f2:=AutoSeq1.sub_tuple_tuple
  wp_walk using wpAny_loadPart' hl
  rw [if_neg h1]
  wp_walk using wpAny_loadPart' hl
  rw [if_neg hb]
  wp_walk using wpAny_loadPart' hl
  exact⟨_,rfl,h⟩
end HT
namespace L2
open PySem PySem.Spec PyProof.Rows
section
variable{X:Cx}
theorem vrep{xs:List V}{us:List Value}(h:Vals xs us):∀ k:Nat,Vals (List.replicate k xs).flatten (List.replicate k us).flatten
 | 0=>.nil
 | k+1=>by rw [List.replicate_succ,List.replicate_succ,List.flatten_cons,List.flatten_cons];exact h.append (vrep h k)
theorem frep(its:List Value):∀ (m:Nat) (acc:List Value),List.foldl (fun x1 x2=>x1++x2) acc.toArray (List.replicate m its.toArray)=(acc++(List.replicate m its).flatten).toArray
 | 0,acc=>by simp
 | m+1,acc=>by
  rw [List.replicate_succ,List.foldl_cons,List.append_toArray,frep its m (acc++its),List.replicate_succ,List.flatten_cons,List.append_assoc]
noncomputable def rRepT(K:PySem.W.Frag):R2:=fun x y H Q=>∃ a k xs,x=.ref a/\y=.int k/\lI K H a xs/\-(2 ^ 62)<=k/\k<2 ^ 62/\xs.length * k.toNat<=sizeLine /\
 ((xs=[]\/k=1)->Q (.ref a) H)/\((xs≠[]/\k≠1)->∀ p,H p=none->Q (.ref p) (upd H p (.tup (List.replicate k.toNat xs).flatten)))
theorem NE:OpR X (binaryOp .Mult) (rRepT X.K):=by
 intro pins s σ H x y v u Q I rx ry h
 obtain⟨l,k,xs,rfl,rfl,hq,h1,h2,hz,q1,q2⟩:=h
 cases rx
 obtain⟨t,rfl⟩:=ry
 obtain⟨its,r,hT,hzz⟩:=I.tuple hq
 obtain⟨⟨cls,dd,data,sl⟩,e,hc,n,hd⟩:=id hT
 simp only at hc hd
 subst hc hd
 have hlen:xs.length=its.length:=r.length
 have g1:¬ (decide (k < -(2 ^ 63))||decide (k≥2 ^ 63))=true:=by simp;omega
 have road:∀ {S:PySem.Spec},Meets (Builtin.«tuple.__mul__» ⟨[.ref l,.int k t],[]⟩) S->S X.A (wants (EP X pins σ Q) X.xe) s->wpAny (model X.prog X.w) X.A (binaryOp .Mult (.ref l) (.int k t)) (EP X pins σ Q) X.xe s:=fun M hS=>
  wpAny_binaryOp_repeat_ref (T:="tuple") (U:="int") (by decide) ⟨_,e,rfl⟩ (fun s'=>typeIs_int s' k t) HT.CG F.fills_int_mul F.slot_int_rmul HT.QX F.slot_int_index.lookup
   (call_meets F.slot_int_rmul (typeIs_int s k t) F.entry_int_rmul (F.args_int_rmul_2 _ _) (HT.Jd k t l its.toArray n dd sl)
    ⟨e,rfl,⟨_,e,rfl⟩,call_meets F.slot_tuple_mul ⟨_,e,rfl⟩ F.entry_tuple_mul (F.args_tuple_mul_2 _ _) M hS⟩)
 by_cases hs:xs=[]\/k=1
 ·have hcc:(its.toArray.isEmpty||k == 1)=true:=by
   rcases hs with rfl | rfl
   ·cases r;rfl
   ·simp
  exact road (HT.mulT0 l its.toArray n k t dd sl g1 hcc) ⟨e,.ref l,H,I,rfl,q1 hs⟩
 ·have hx:xs≠[]:=fun z=>hs (.inl z)
  have hk1:k≠1:=fun z=>hs (.inr z)
  have hi:its≠[]:=fun z=>by subst z;cases r;exact hx rfl
  have hcc:¬ (its.toArray.isEmpty||k == 1)=true:=by simp [hi,hk1]
  by_cases hk:k<=0
  ·have hk':(decide (k<=0)||its.toArray.isEmpty)=true:=by simp [hk]
   have k0:k.toNat=0:=by omega
   refine road (HT.mulT1 l its.toArray n k t dd sl g1 hcc hk') ⟨e,.ref _,_,I.laid (o:=.tup []) (fun _ _ q=>Heap.get?_push_of_some _ q) (Nat.le_refl _) ⟨by simp,[],.nil,⟨_,Heap.get?_push_size _ rfl,rfl,⟨0,rfl⟩,rfl⟩⟩,rfl,?_⟩
   have:=q2 ⟨hx,hk1⟩ s.heap.objs.size I.fresh
   rw [k0] at this
   exact this
  ·have hk':¬ (decide (k<=0)||its.toArray.isEmpty)=true:=by simp [hi];omega
   have km:(k.toNat:Int)=k:=by omega
   have hpr:((its.length:Int) * k)<=sizeLine:=by rw [<- km,<- hlen];exact_mod_cast hz
   have hsl:((sizeLine:Nat):Int)<=(2 ^ 63 - 1) / 8:=by decide
   have hf:=frep its k.toNat []
   rw [List.nil_append] at hf
   have hf':List.foldl (fun x1 x2=>x1++x2) #[] (List.replicate k.toNat its.toArray)=(List.replicate k.toNat its).flatten.toArray:=hf
   have hl2:(List.replicate k.toNat its).flatten.length<=sizeLine:=by rw [ym,<- hlen,Nat.mul_comm];exact hz
   refine road (HT.mulT2 l its.toArray n k t dd sl g1 hcc hk' (by rw [List.size_toArray];omega) (by unfold Builtin.Tuple.tupleTooMany;rw [List.size_toArray];simp;omega) (by rw [hf',List.size_toArray];exact hl2)) ⟨e,?_⟩
   rw [hf']
   exact⟨.ref _,_,I.laid (o:=.tup (List.replicate k.toNat xs).flatten) (fun _ _ q=>Heap.get?_push_of_some _ q) (Nat.le_refl _) ⟨by rw [ym,Nat.mul_comm];exact hz,(List.replicate k.toNat its).flatten,vrep r _,⟨_,Heap.get?_push_size _ rfl,rfl,⟨0,rfl⟩,rfl⟩⟩,rfl,q2 ⟨hx,hk1⟩ _ I.fresh⟩
end
end L2
namespace L2
open PySem PySem.Spec PyProof.Rows
section
variable{X:Cx}
def insK(n:Nat)(i:Int):Nat:=if i<0 then (i+(n:Int)).toNat else min i.toNat n
noncomputable def insL{α:Type}(xs:List α)(i:Int)(y:α):List α:=xs.take (insK xs.length i)++y::xs.drop (insK xs.length i)
end
end L2
namespace M
open PySem PySem.Spec PyProof.Rows L2
section
variable{X:Cx}{K:PySem.W.Frag}{μ μ':Fp}{H H':Hp}{S:ac}
noncomputable def cw(S:ac)(x y:D):Option D:=match x,y with
 | .tup xs,.int k=>if -(2 ^ 62)<=k/\k<2 ^ 62/\xs.length * k.toNat<=sizeLine then some (.tup (List.replicate k.toNat xs).flatten) else none
 | .lst xs,.int k=>if -(2 ^ 62)<=k/\k<2 ^ 62/\xs.length * k.toNat<=sizeLine then some (.lst (List.replicate k.toNat xs).flatten) else none
 | x,y=>SV S x y
theorem flat1{α:Type}(xs:List α):(List.replicate 1 xs).flatten=xs:=by simp
theorem NI:OpR X (binaryOp .Mult) (nz X.K cw):=OpR.imp (OpR.or RI (OpR.or NE RC)) fun x y H Q ⟨μ,S,dx,dy,dz,hS,h1,h2,h3,post⟩=>by
 unfold cw at h3
 split at h3
 ·rename_i xs k
  split at h3
  ·rename_i hk
   cases h3
   obtain⟨a,vs,rfl,q,r⟩:=h1.sqT
   have h1':=h1
   refine .inr (.inl ⟨a,k,vs,rfl,h2.int_inv,q,hk.1,hk.2.1,by rw [r.length];exact hk.2.2,fun hs=>?_,fun _ p hp=>post.tup hS hp (Reps.flat _ r)⟩)
   have e:(List.replicate k.toNat xs).flatten=xs:=by
    rcases hs with rfl | rfl
    ·cases r;simp
    ·exact flat1 xs
   rw [e] at post
   exact post.here hS h1'
  ·cases h3
 ·rename_i xs k
  split at h3
  ·rename_i hk
   cases h3
   obtain⟨a,vs,rfl,q,n,r⟩:=h1.sqL
   exact .inr (.inr ⟨a,k,vs,rfl,h2.int_inv,q,by omega,by omega,by rw [r.length];exact hk.2.2,fun p hp=>post.lst hS hp (Reps.flat _ r)⟩)
  ·cases h3
 ·exact .inl ⟨μ,S,dx,dy,dz,hS,h1,h2,h3,post⟩
abbrev MF:=D->List D->ac->Option (D×ac)
inductive Na(K:PySem.W.Frag)(f:MF)(x:V)(vs:List V)(H:Hp)(Q:VK):Prop
 | mk (μ:Fp) (S:ac) (dx:D) (ds:List D) (d:D) (S':ac) (hS:SOk K μ S H) (h1:Rep K μ H x dx) (h2:Reps K μ H vs ds) (h3:f dx ds S=some (d,S')) (post:Post K μ H S' d Q)
theorem MtR.imp{id:String}{r r':V->List V->Hp->VK->Prop}(h:MtR X id r)(i:∀ x xs H Q,r' x xs H Q->r x xs H Q):MtR X id r':=fun pins s σ H x xs v us Q I rx rv q=>h pins s σ H x xs v us Q I rx rv (i x xs H Q q)
noncomputable def cO:MF:=fun o ds S=>match o,ds with
 | .ref r,[y]=>match S[r]? with | some (.lst xs)=>if xs.length<sizeLine then some (.non,S.set r (.lst (xs++[y]))) else none | _=>none
 | _,_=>none
noncomputable def fInsert:MF:=fun o ds S=>match o,ds with
 | .ref r,[.int i,y]=>match S[r]? with | some (.lst xs)=>if xs.length<sizeLine/\-(2 ^ 62)<=i/\i<2 ^ 62 then some (.non,S.set r (.lst (insL xs i y))) else none | _=>none
 | _,_=>none
noncomputable def ui:MF:=fun o ds S=>match ds with
 | [x]=>(iI S o).bind fun ys=>if cI 40 x=true/\ys.all (cI 39)=true then some (.int (ys.countP fun d=>jA d x),S) else none
 | _=>none
theorem GD:MtR X "list.append" (Na X.K cO):=MtR.imp vM fun x vs H Q ⟨μ,S,dx,ds,d,S',hS,r1,r2,h,post⟩=>by
 unfold cO at h
 split at h
 ·rename_i r y
  obtain⟨v,rfl,rv⟩:=r2.one
  cases q:S[r]? with
  | none=>rw [q] at h;cases h
  | some c=>
   rw [q] at h
   cases c with
   | dct _ _=>cases h
   | lst xs=>
    dsimp only at h
    split at h
    ·rename_i hz
     cases h
     cases r1 with
     | @ref a _ h'=>
      obtain⟨ws,hw,rw'⟩:=hS.cell r a _ h' q
      obtain⟨e,s'⟩:=hS.write h' hw (rw'.append (.cons rv .nil))
      exact⟨a,ws,v,rfl,rfl,hw,by rw [rw'.length];exact hz,post _ _ μ e s' .non⟩
    ·cases h
 ·cases h
theorem mE{pins:List (Addr×Obj)}{σ:L2.St}{s:Shared}(I:Inv X pins σ H s){x:D}:∀ {vs:List V} {us:List Value} {ds:List D},Vals vs us->Reps X.K μ H vs ds->(∀ d∈ds,cI 39 d=true) ->
  us.countP (eG X.K μ H x)=ds.countP fun d=>jA d x
 | _,_,_,.nil,.nil,_=>rfl
 | _,_,_,.cons rv tv,.cons r t,ok=>by
  rw [List.countP_cons,List.countP_cons,pF I rv r (ok _ List.mem_cons_self),mE I tv t fun d m=>ok d (List.mem_cons_of_mem _ m)]
noncomputable def rh(S:ac):D->Bool
 | .lst _=>true
 | .rol _=>true
 | .ref r=>match S[r]? with | some (.lst _)=>true | _=>false
 | _=>false
theorem pe{v:V}{d:D}(hS:SOk K μ S H)(r:Rep K μ H v d)(h:rh S d=true):∃ a vs ds,v=.ref a/\nE K H a vs/\iI S d=some ds/\Reps K μ H vs ds:=by
 cases r with
 | lst h' n r=>exact⟨_,_,_,rfl,.inl (.inl h'),rfl,r⟩
 | rol h' n r=>exact⟨_,_,_,rfl,.inl h',rfl,r⟩
 | krol h' r=>exact⟨_,_,_,rfl,.inr h',rfl,r⟩
 | @ref a i h'=>
  simp only [rh] at h
  cases q:S[i]? with
  | none=>rw [q] at h;cases h
  | some c=>
   rw [q] at h
   cases c with
   | dct _ _=>cases h
   | lst xs=>
    obtain⟨vs,e,r⟩:=hS.cell i a _ h' q
    exact⟨a,vs,xs,rfl,.inl (.inl e),by simp only [iI,q],r⟩
 | _=>cases h
noncomputable def mY:MF:=fun o ds S=>if rh S o=true then ui o ds S else none
theorem Ah(hu:X.A.units+64<cLine):MtR X "list.count" (Na X.K mY):=by
 intro pins s σ H x vs v us Q I rx rv h
 obtain⟨μ,S,dx,ds,d,S',hS,r1,r2,h,post⟩:=h
 unfold mY at h
 split at h
 ·rename_i hl
  unfold ui at h
  split at h
  ·rename_i y
   obtain⟨a,ws,es,rfl,hq,hse,re⟩:=pe hS r1 hl
   rw [hse] at h
   dsimp only [Option.bind_some] at h
   split at h
   ·rename_i hk
    cases h
    cases rx
    obtain⟨w,rfl,rw0⟩:=r2.one
    obtain⟨u,rfl,ru⟩:=rv.one
    obtain⟨its,rvs,⟨⟨cls,dd,data,sl⟩,n,e,hc,hdd,hd⟩,hz⟩:=I.list hq
    simp only at hc hdd hd
    subst hc hdd hd
    have ok:=List.all_eq_true.mp hk.2
    refine call_meets F.slot_list_count ⟨_,e,rfl⟩ F.entry_list_count (F.args_list_count_2 _ _) (SeqAt.list_countAt a its.toArray n none sl u (eG X.K μ H y)) ⟨e,fun w' hw'=>?_,?_⟩
    ·exact ga I (by show X.A.units+1+40<cLine;omega) ru rw0 hk.1 rvs re ok w' (by simpa using hw')
    ·refine⟨.int _,H,I.tok _,⟨_,rfl⟩,?_⟩
     rw [mE I rvs re ok]
     exact post.here hS (.int _)
   ·cases h
  ·cases h
 ·cases h
noncomputable def dY(f:MF)(o:ME)(ms:MA):ME:=fun env S=>(o env S).bind fun p=>if rh p.2 p.1=true then (ms env p.2).bind fun q=>f p.1 q.1 q.2 else none
theorem FC{o e:Expr}{es:List Expr}{mo:ME}{ms:MA}{f:MF}{name:Str}{id:String}{apos cpos:Pos}(slot:Slot "list" name id)(hty:typeOf (.builtin id)=pure (.type "method_descriptor"))(hm:MtR X id (Na X.K f))(ho:DE X o mo)(ha:DA X (e::es) ms)
  (hbase:attributeBase o name X.env (eval o X.env)=eval o X.env)
  (hfew:((backTo cpos (starEach (e::es) X.env)).all (fun x=>!x.1)&&(backToKw cpos (keywordEach [] X.env)).all (fun x=>x.1.isSome)&&decide ((e::es).length+([]:List Keyword).length+(if ([]:List Keyword).isEmpty then 0 else 1)<30))=true)
  (hline:(apos.endLine == cpos.line)=true) (hs:starEach (e::es) X.env=(false,eval e X.env)::starEach es X.env) (hpl:(backTo cpos (starEach es X.env)).any (·.1)=false) :
  DE X (.Call (.Attribute o name apos) (e::es) [] cpos) (dY f mo ms):=
 PE.imp (pe_bm F.plainAttrs_list slot hty hm ho ha hbase hfew hline hs hpl) fun σ H Q ⟨μ,S,env,d,S',hS,hE,h,post⟩=>by
  obtain⟨⟨x,S1⟩,h1,h⟩:=Option.bind_eq_some_iff.mp h
  dsimp only at h
  split at h
  ·rename_i hl
   obtain⟨⟨xs,S2⟩,h2,h⟩:=Option.bind_eq_some_iff.mp h
   refine⟨μ,S,env,x,S1,hS,hE,h1,fun v H1 μ1 e1 s1 r1=>⟨?_,μ1,S1,env,xs,S2,s1,hE.mono e1,h2,fun vs H2 μ2 e2 s2 r2=>⟨μ2,S2,x,xs,d,S',s2,r1.mono e2,r2,h,(post.ext e1).ext e2⟩⟩⟩
   obtain⟨a,ws,es,rfl,hq,_,_⟩:=pe s1 r1 hl
   exact .inl ⟨rfl,ws,hq⟩
  ·cases h
end
end M
namespace HT
open PySem PyProof.Rows
open AutoSeq1 (wpAny_loadPart')
section
variable{prog:Program}{w:World}{A:Around}{E:Value->Shared->Prop}{s:Shared}
theorem DP{it t:Addr}{i:Nat}{items:Array Value}{x:Value}{Q:Value->Shared->Prop}(hit:s.heap.IsTupleIter it t i)(ht:s.heap.IsTuple t items)(hx:items[i]?=some x)
  (hQ:∀ h',h'.IsTupleIter it t (i+1)->Heap.SameBut it s.heap h'->Q x { s with heap:=h' }):wpAny (model prog w) A (Builtin.SmallTypes.nextOf (.ref it)) Q E s:=by
 obtain⟨o,ho,hc,hd⟩:=id hit;obtain⟨ol,hol,_,nl,hdl⟩:=ht
 unfold Builtin.SmallTypes.nextOf
 refine wpAny_bind (wpAny_callSpecial?_slot (name:=Str.ofString "__next__") hit.typeIs F.slot_tuple_iterator_next (wpAny_call_entry F.slot_tuple_iterator_next hit.typeIs F.entry_tuple_iterator_next ?_ (F.args_tuple_iterator_next_1 _)))
 show wpAny _ _ (field (.ref it) 0 >>= _) _ _ s;refine wpAny_bind (wpAny_field ho hd (x:=.ref t) rfl ?_)
 show wpAny _ _ (if (Value.ref t == Value.none)=true then _ else _) _ _ s;rw [if_neg (show ¬ ((Value.ref t == Value.none)=true) from Bool.false_ne_true)]
 show wpAny _ _ (field (.ref it) 1 >>= _) _ _ s;refine wpAny_bind (wpAny_field ho hd (x:=.int i 0) rfl ?_)
 show wpAny _ _ (seqItems? (.ref t) >>= _) _ _ s;refine wpAny_bind (wpAny_seqItems hol hdl ?_);simp only [Int.toNat_natCast,hx]
 refine wpAny_bind (wpAny_setField ho hd (by simp) (wpAny_pure ⟨x,rfl,wpAny_pure (hQ _ ⟨_,Heap.get?_update_self _ ho (Obj.isFreed_of_fields (Obj.data_mapFields hd _)),(Obj.cls_mapFields ..).trans hc,?_⟩ (Heap.SameBut.update ..))⟩))
 rw [Obj.data_mapFields hd];simp [rawInt]
theorem qq{it t:Addr}{i:Nat}{items:Array Value}{Q:Value->Shared->Prop}(hh:A.handled=none)(hit:s.heap.IsTupleIter it t i)(ht:s.heap.IsTuple t items)(hx:items[i]?=none)
  (hE:∀ h' e,Heap.ExtBut it s.heap h'->(∃ o,h'.get? e=some o/\o.cls=.type "StopIteration")->E (.ref e) { s with heap:=h' }):wpAny (model prog w) A (Builtin.SmallTypes.nextOf (.ref it)) Q E s:=by
 obtain⟨o,ho,hc,hd⟩:=id hit;obtain⟨ol,hol,_,nl,hdl⟩:=ht
 unfold Builtin.SmallTypes.nextOf
 refine wpAny_bind (wpAny_callSpecial?_slot (name:=Str.ofString "__next__") hit.typeIs F.slot_tuple_iterator_next (wpAny_call_entry F.slot_tuple_iterator_next hit.typeIs F.entry_tuple_iterator_next ?_ (F.args_tuple_iterator_next_1 _)))
 show wpAny _ _ (field (.ref it) 0 >>= _) _ _ s;refine wpAny_bind (wpAny_field ho hd (x:=.ref t) rfl ?_)
 show wpAny _ _ (if (Value.ref t == Value.none)=true then _ else _) _ _ s;rw [if_neg (show ¬ ((Value.ref t == Value.none)=true) from Bool.false_ne_true)]
 show wpAny _ _ (field (.ref it) 1 >>= _) _ _ s;refine wpAny_bind (wpAny_field ho hd (x:=.int i 0) rfl ?_)
 show wpAny _ _ (seqItems? (.ref t) >>= _) _ _ s;refine wpAny_bind (wpAny_seqItems hol hdl ?_);simp only [Int.toNat_natCast,hx]
 refine wpAny_bind (wpAny_rule (wpAny_bind (wpAny_setField ho hd (by simp) ?_)));show wpAny _ _ (newExc (.type "StopIteration") [] >>= _) _ _ _
 refine wpAny_bind ?_;simp only [newExc,newTuple];refine wpAny_bind (wpAny_newObj_type ?_ (by size_fits))
 refine wpAny_bind (m:=firstArgMember _ _) (wpAny_of_eq (a:=Value.none) (by first | rfl | (simp only [firstArgMember];rfl)) (wpAny_newObj_type ?_ (by size_fits)))
 simp only [raiseNew];refine wpAny_bind (wpAny_handled ?_);(first | rw [show A.in1.handled=none from hh] | rw [hh])
 refine wpAny_bind (wpAny_pure (wpAny_throw (hE _ _ (((Heap.SameBut.update ..).extBut.push _).push _) ⟨_,Heap.get?_push_size _ rfl,rfl⟩)))
end
theorem uk{prog:Program}{w:World}{A:Around}(hh:A.handled=none)(it t:Addr)(hne:t≠it)(items:Array Value) :
  Draws prog w A it [it,t] items.size (fun i v=>items[i]?=some v) (fun i h=>h.IsTupleIter it t i/\h.IsTuple t items) where
 live:=fun _ _ st=>by obtain⟨o,ho,_⟩:=st.1;exact⟨o,ho⟩
 frame:=fun _ _ _ st hk=>by
  obtain⟨⟨o,ho,r⟩,⟨o2,ho2,r2⟩⟩:=st
  exact⟨⟨o,hk it (by simp) o ho,r⟩,⟨o2,hk t (by simp) o2 ho2,r2⟩⟩
 item:=fun i s Q E hi st hQ=>DP st.1 st.2 (x:=items[i]) (by simp [hi]) fun h' hit' hs'=>hQ _ h' s.toks (by simp [hi]) ⟨hit',st.2.extBut hs'.extBut hne⟩ hs'
 done:=fun s Q E st hE=>qq hh st.1 st.2 (by simp) hE
theorem HC(l:Addr)(items:Array Value)(n:Nat)(dct:Option Addr)(sl:Array (Option Value)) :
  Meets (Builtin.«enumerate.__new__» ⟨[.type "enumerate",.ref l],[]⟩) (fun _ R s=>s.heap.get? l=some ⟨.type "tuple",dct,.seq items n,sl⟩ /\
   R (.ok (.ret (.ref (s.heap.push { cls:=.type "tuple_iterator",data:=.fields #[.ref l,.int 0 0] }).objs.size)))
    {s with heap:=(s.heap.push { cls:=.type "tuple_iterator",data:=.fields #[.ref l,.int 0 0] }).push { cls:=.type "enumerate",data:=.fields #[.none,.bool false,.ref s.heap.objs.size,rawInt 0,.none,.none] } }):=
 .of_wp fun prog w A R s h=>by
  obtain⟨hp,g,d,tk,os⟩:=s
  obtain⟨hl,h⟩:=h
  have hsub:=sub_enumerate
  have hL:Heap.IsTuple (Shared.heap ⟨hp,g,d,tk,os⟩) l items:=⟨_,hl,rfl,n,rfl⟩
  wp_walk using wpAny_loadPart' hl
  refine wpAny_stack_any fun st=>wpAny_pure ?_
  split
  ·rename_i c _ _ _ _ _
   cases (c == Value.type "enumerate") <;> (wp_walk using wpAny_loadPart' hl,wpAny_pyIter_tuple hL;exact⟨_,rfl,h⟩)
  ·wp_walk using wpAny_loadPart' hl,wpAny_pyIter_tuple hL
   exact⟨_,rfl,h⟩
end HT
namespace HT
open PySem PyProof.Rows
section
variable{prog:Program}{w:World}{A:Around}{E:Value->Shared->Prop}{s:Shared}
theorem Ee{l:Addr}{items:Array Value}{Q:Value->Shared->Prop}(hL:s.heap.IsTuple l items)
  (h:∀ h':Heap,IsEnum h' (s.heap.objs.size+1) s.heap.objs.size 0 .none->h'.IsTupleIter s.heap.objs.size l 0->h'.objs.size=s.heap.objs.size+2->(∀ b o,s.heap.get? b=some o->h'.get? b=some o)->Q (.ref (s.heap.objs.size+1)) { s with heap:=h' }) :
  wpAny (model prog w) A (call (.type "enumerate") [.ref l]) Q E s:=by
 obtain⟨⟨c,dct,dt,sl⟩,hl,hc,n,hd⟩:=hL
 simp only at hc hd
 subst hc hd
 refine callType_new F.called_enumerate (by decide) (F.typeCall_enumerate_1 _) (F.newCall_enumerate_1 _) (fun obj=>F.args_object_init_2 obj _) F.entry_enumerate_new (HC l items n dct sl) ⟨hl,?_⟩
 have hz:(s.heap.push { cls:=.type "tuple_iterator",data:=.fields #[.ref l,.int 0 0] }).objs.size=s.heap.objs.size+1:=Heap.size_push ..
 show _/\_
 rw [hz]
 have he:IsEnum ((s.heap.push { cls:=.type "tuple_iterator",data:=.fields #[.ref l,.int 0 0] }).push { cls:=.type "enumerate",data:=.fields #[.none,.bool false,.ref s.heap.objs.size,rawInt 0,.none,.none] }) (s.heap.objs.size+1) s.heap.objs.size 0 .none:=by
  have q:=Heap.get?_push_size (s.heap.push { cls:=.type "tuple_iterator",data:=.fields #[.ref l,.int 0 0] }) (o:={ cls:=.type "enumerate",data:=.fields #[.none,.bool false,.ref s.heap.objs.size,rawInt 0,.none,.none] }) rfl
  rw [hz] at q
  exact q
 exact⟨⟨_,he,rfl⟩,h _ he ⟨_,Heap.get?_push_of_some _ (Heap.get?_push_size _ rfl),rfl,rfl⟩ (by rw [Heap.size_push,hz]) fun b o x=>Heap.get?_push_of_some _ (Heap.get?_push_of_some _ x)⟩
end
end HT
namespace L2
open PySem PySem.Spec PyProof.Rows
section
variable{X:Cx}{pins:List (Addr×Obj)}{σ:St}{H:Hp}{s:Shared}{h':Heap}
theorem Inv.turnLaid{fp:List Addr}{a:Addr}{o:HO}{t':Nat}(I:Inv X pins σ H s)(k:∀ b o,b ∉ fp->s.heap.get? b=some o->h'.get? b=some o)(hf:∀ b∈fp,qx X pins H b)(hp:s.heap.objs.size<=a)
  (new:ObjOk X.prog X.w (upd H a o) h' a o):Inv X pins σ (upd H a o) { s with heap:=h',toks:=t' }:=by
 have hn:H a=none:=I.hok.fresh hp
 have st:∀ b u,H b=some u->upd H a o b=some u:=fun b u e=>(bf (cj e hn)).trans e
 have nfp:∀ b u,H b=some u->b ∉ fp:=fun b u e z=>by rw [(hf b z).1] at e;cases e
 refine I.step (g':=s.gens) (d':=s.drawn) (ch:=fp) (fun b hb=>?_) (fun b o _ _ hc e _=>k b o hc e) (fun b o _ _ hc e _=>⟨o.slots,k b o hc e⟩) (fun b u _ e n=>?_) (fun b o hc e=>⟨o,k b o hc e⟩) (fun b xs e=>st b _ e) (fun b o u e=>st b _ e) (fun b ps e=>⟨#[],by rw [st b _ e];simp⟩) (fun m hm=>?_) (fun b u e=>?_) I.bare
 ·obtain⟨f0,f1,f2,f3,f4,f5⟩:=hf b hb
  exact⟨f3,f1,f4,f5⟩
 ·rw [bf (Nat.ne_of_lt (Nat.lt_of_lt_of_le (Heap.lt_size e) hp))];exact n
 ·obtain⟨o',es,ep,ho,r⟩:=hm
  exact⟨o',es,ep,k _ o' (fun z=>(hf _ z).2.1 rfl) ho,r⟩
 ·by_cases hb:b=a
  ·subst hb
   rw [bq] at e
   cases e
   exact new
  ·rw [bf hb] at e
   refine(I.hok b u e).stay (fun c v hc q=>k c v ?_ q) (fun _ q=>st _ _ q) fun _ _ q=>st _ _ q
   rcases hc with z | z
   ·rw [z];exact nfp b u e
   ·exact nfp c _ z
theorem Inv.turnedL{fp:List Addr}{t':Nat}(I:Inv X pins σ H s)(k:∀ b o,b ∉ fp->s.heap.get? b=some o->h'.get? b=some o)(hf:∀ b∈fp,qx X pins H b):Inv X pins σ H { s with heap:=h',toks:=t' }:=by
 have nfp:∀ b u,H b=some u->b ∉ fp:=fun b u e z=>by rw [(hf b z).1] at e;cases e
 refine I.step (g':=s.gens) (d':=s.drawn) (ch:=fp) (fun b hb=>?_) (fun b o _ _ hc e _=>k b o hc e) (fun b o _ _ hc e _=>⟨o.slots,k b o hc e⟩) (fun b u _ e n=>n) (fun b o hc e=>⟨o,k b o hc e⟩) (fun b xs e=>e) (fun b o u e=>e) (fun b ps e=>⟨#[],by rw [e];simp⟩) (fun m hm=>?_) (fun b u e=>?_) I.bare
 ·obtain⟨f0,f1,f2,f3,f4,f5⟩:=hf b hb
  exact⟨f3,f1,f4,f5⟩
 ·obtain⟨o',es,ep,ho,r⟩:=hm
  exact⟨o',es,ep,k _ o' (fun z=>(hf _ z).2.1 rfl) ho,r⟩
 ·refine(I.hok b u e).stay (fun c v hc q=>k c v ?_ q) (fun _ q=>q) fun _ _ q=>q
  rcases hc with z | z
  ·rw [z];exact nfp b u e
  ·exact nfp c _ z
noncomputable def Ite(K:PySem.W.Frag)(a:Addr):It:=
 ⟨fun i H=>∃ xs x,lI K H a xs/\xs[i]?=some x,fun i H x H'=>∃ p v,x=.ref p/\H p=none/\H'=upd H p (.tup [.int (i:Nat),v])/\∀ xs,lI K H a xs->xs[i]?=some v,fun i H=>∃ xs,lI K H a xs/\xs.length<=i⟩
theorem FV{P:Program}{w:World}{K:PySem.W.Frag}{es:List Expr}{k:Nat}{pos:Pos}(a e it:Addr)(hei:e≠it):El P w K (.Tuple es k pos) (Ite K a) [e,it] e (fun i h=>(∃ old,IsEnum h e it i old)/\h.IsTupleIter it a i) where
 mem:=by simp
 obj:=fun i h st b hb=>by
  obtain⟨⟨old,he⟩,⟨o,ho,hc,hd⟩⟩:=st
  simp only [List.mem_cons,List.not_mem_nil,or_false] at hb
  rcases hb with rfl | rfl
  ·exact⟨_,he,fun v z=>by cases z⟩
  ·exact⟨o,ho,fun v z=>by rw [hd] at z;cases z⟩
 keep:=fun i h h' st kk=>by
  obtain⟨⟨old,he⟩,⟨o,ho,r⟩⟩:=st
  exact⟨⟨old,kk e (by simp) _ he⟩,⟨o,kk it (by simp) _ ho,r⟩⟩
 item:=by
  intro X hP hw hK hc i pins s σ H E I hf st hg
  subst hP hw hK
  obtain⟨xs,x,hq,hx⟩:=hg
  obtain⟨its,rv,p,hz⟩:=I.tuple hq
  have hT:s.heap.IsTuple a its.toArray:=p
  have hh:=I.ok.hd hc
  have ne1:a≠e:=fun z=>by
   obtain⟨⟨old,he⟩,_⟩:=st
   obtain⟨o,ho,hcl,_⟩:=hT
   rw [z,he] at ho;cases ho;exact absurd (show Value.type "enumerate" = Value.type "tuple" from hcl) (by decide)
  have ne2:a≠it:=fun z=>by
   obtain⟨_,⟨o',ho',hc',_⟩⟩:=st
   obtain⟨o,ho,hcl,_⟩:=hT
   rw [z,ho'] at ho;cases ho;rw [hc'] at hcl;exact absurd hcl (by decide)
  have W:=WalksT.enumerateD (HT.uk (prog:=X.prog) (w:=X.w) (A:=X.A.in1) hh it a ne2 its.toArray) e hei (by simp;exact⟨hei,fun z=>ne1 z.symm⟩) (by simp)
  have hi:i<its.toArray.size:=by rw [List.size_toArray,<- rv.length];exact(List.getElem?_eq_some_iff.mp hx).1
  obtain⟨⟨old,he⟩,hit⟩:=st
  have Te:s.heap.objs.size≠e:=Nat.ne_of_gt (Heap.lt_size he)
  have Ti:s.heap.objs.size≠it:=by
   obtain⟨o,ho,_⟩:=hit
   exact Nat.ne_of_gt (Heap.lt_size ho)
  refine wpAny_pyNext_enum_itemD (HT.uk (prog:=X.prog) (w:=X.w) (A:=X.A.in1) hh it a ne2 its.toArray) he ⟨hit,hT⟩ hi hei (by simp;exact⟨hei,fun z=>ne1 z.symm⟩) fun y h1 tk hy ho st1 hT1 hsz kk=>⟨_,rfl,?_⟩
  refine W.go es k pos i s.heap.objs.size _ _ _ ⟨⟨y,ho⟩,st1,Te,Ti⟩ fun h2 st2 kk2=>?_
  generalize hTT:s.heap.objs.size=T at *
  obtain⟨u,hu,ru⟩:=rv.get hx
  have ey:y=u:=by
   rw [show its.toArray[i]?=its[i]? by simp,hu] at hy
   exact(Option.some.inj hy).symm
  subst ey
  have apT:T ∉ [e,it]:=by simp;exact⟨Te,Ti⟩
  have kall:∀ b o,b ∉ [e,it]->s.heap.get? b=some o->h2.get? b=some o:=fun b o hb q=>kk2 b o hb (kk b o (fun z=>hb (by simp [z])) (fun z=>hb (by simp [z])) q)
  have hT2:IsTupN h2 T #[.int i tk,y]:=⟨_,kk2 T _ apT hT1,rfl,⟨_,rfl⟩,rfl⟩
  have hTs:s.heap.objs.size<=T:=Nat.le_of_eq hTT
  refine⟨.ref T,upd H T (.tup [.int (i:Nat),x]),I.turnLaid kall hf hTs ⟨by show 2<=sizeLine;decide,[.int i tk,y],.cons ⟨_,rfl⟩ (.cons ru .nil),hT2⟩,rfl,⟨T,x,rfl,I.hok.fresh hTs,rfl,fun ys hy=>by rw [I.tuple_inj hy hq];exact hx⟩,⟨st2.1,st2.2.1⟩,fun b hb=>?_⟩
  have nb:b≠T:=fun z=>apT (by rw [<- z];exact hb)
  rw [bf nb]
  exact(hf b hb).1
 done:=by
  intro X hP hw hK hc i pins s σ H E I hf st hg
  subst hP hw hK
  obtain⟨xs,hq,hx⟩:=hg
  obtain⟨its,rv,p,hz⟩:=I.tuple hq
  have hT:s.heap.IsTuple a its.toArray:=p
  have hh:=I.ok.hd hc
  have ne1:a≠e:=fun z=>by
   obtain⟨⟨old,he⟩,_⟩:=st
   obtain⟨o,ho,hcl,_⟩:=hT
   rw [z,he] at ho;cases ho;exact absurd (show Value.type "enumerate" = Value.type "tuple" from hcl) (by decide)
  have D':Draws X.prog X.w X.A.in1 it [it,a] i (fun _ _=>True) (fun j h=>j=i/\h.IsTupleIter it a i/\h.IsTuple a its.toArray):=
   {live:=fun _ _ q=>by obtain⟨_,⟨o,ho,_⟩,_⟩:=q;exact⟨o,ho⟩
    frame:=fun _ _ _ q hk=>by
     obtain⟨q0,⟨o,ho,r⟩,⟨o2,ho2,r2⟩⟩:=q
     exact⟨q0,⟨o,hk it (by simp) o ho,r⟩,⟨o2,hk a (by simp) o2 ho2,r2⟩⟩
    item:=fun j _ _ _ hj q _=>absurd q.1 (Nat.ne_of_lt hj)
    done:=fun s Q E q hE=>HT.qq hh q.2.1 q.2.2 (by simp;have:=rv.length;omega) hE }
  have W:=WalksT.enumerateD D' e hei (by simp;exact⟨hei,fun z=>ne1 z.symm⟩) (by simp)
  refine W.done s _ _ ⟨st.1,rfl,st.2,hT⟩ fun h2 tk kk=>⟨rfl,I.turnedL kk hf⟩
 self:=fun A i s Q E st h=>by
  obtain⟨⟨old,he⟩,_⟩:=st
  exact wpAny_pyIter_enum he h
def iEnum(K:PySem.W.Frag)(t:TA):TI:=fun σ H R=>t σ H fun xs H1=>∃ a,xs=[.ref a]/\(∃ ys,lI K H1 a ys)/\R (Ite K a) H1
end
end L2
namespace L2
open PySem PySem.Spec PyProof.Rows
section
variable{X:Cx}
theorem Nr{a:Expr}{ta:TA}{es:List Expr}{k:Nat}{tp p pos:Pos}(hg:Gl X "enumerate")(hm:X.mg "enumerate" = none)(ha:PA X [a] ta)(hs:starEach [a] X.env=[(false,eval a X.env)]) :
  PI X (.Tuple es k tp) (.Call (.Name "enumerate" p) [a] [] pos) (iEnum X.K ta):=by
 intro pins s σ H R I h
 refine Call_ (lh I hg hm boot_enumerate (PyProof.Rows.callWith_type1 (dg (ha pos pins s σ H _ I h) fun us s1 ⟨vs,H1,I1,r1,q1⟩=>?_) hs rfl))
 obtain⟨t,rfl,⟨ys,hq⟩,q⟩:=q1
 obtain⟨u,rfl,ru⟩:=r1.one
 cases ru
 obtain⟨its,rv,pt,hz⟩:=I1.tuple hq
 refine HT.Ee pt fun h' he hi hsz kk=>wpAny_pyIter_enum he ?_
 refine⟨s1.heap.objs.size+1,[s1.heap.objs.size+1,s1.heap.objs.size],_,_,H1,rfl,I1.kept (t':=s1.toks) kk,FV t _ _ (Nat.succ_ne_self _),⟨⟨_,he⟩,hi⟩,fun b hb=>?_,q⟩
 simp only [List.mem_cons,List.not_mem_nil,or_false] at hb
 rcases hb with rfl | rfl
 ·exact I1.fpOk (Nat.le_succ _) (I1.hok.fresh (Nat.le_succ _))
 ·exact I1.fpOk (Nat.le_refl _) (I1.hok.fresh (Nat.le_refl _))
end
end L2
namespace M
open PySem PySem.Spec PyProof.Rows L2
section
variable{X:Cx}{K:PySem.W.Frag}{μ μ':Fp}{H H':Hp}{S:ac}
noncomputable def eh:Nat->List D->List D
 | _,[]=>[]
 | i,x::r=>.tup [.int (i:Nat),x]::eh (i+1) r
theorem nh:∀ (i:Nat) (xs:List D),(eh i xs).length=xs.length
 | _,[]=>rfl
 | i,_::r=>by rw [eh,List.length_cons,List.length_cons,nh (i+1) r]
theorem wF:∀ (k:Nat) (xs:List D) (i:Nat) (d:D),(eh k xs)[i]?=some d->∃ x,xs[i]?=some x/\d=.tup [.int ((k+i:Nat):Int),x]
 | _,[],i,d,h=>by simp [eh] at h
 | k,x::r,0,d,h=>by simp [eh] at h;exact⟨x,rfl,h.symm⟩
 | k,x::r,i+1,d,h=>by
  rw [eh,List.getElem?_cons_succ] at h
  obtain⟨y,h1,h2⟩:=wF (k+1) r i d h
  refine⟨y,by simpa using h1,?_⟩
  rw [h2,show k+1+i=k+(i+1) by omega]
theorem Hd{a:Addr}{xs:List D}(r:Rep K μ H (.ref a) (.tup xs)):Ep K μ H (Ite K a) (eh 0 xs):=fun μ' H' S' e s i=>by
 have r':=r.monoP e
 obtain⟨b,vs,hb,hq,rs⟩:=r'.sqT
 cases hb
 refine⟨fun d hd=>?_,fun hl=>⟨vs,hq,by rw [rs.length];rw [nh] at hl;exact hl⟩⟩
 obtain⟨x,hx,rfl⟩:=wF 0 xs i d hd
 obtain⟨v,hv,rv⟩:=rs.get hx
 refine⟨⟨vs,v,hq,hv⟩,fun y H2 hy=>?_⟩
 obtain⟨p,w,rfl,hp,rfl,hw⟩:=hy
 have ew:w=v:=by have:=hw vs hq;rw [hv] at this;exact(Option.some.inj this).symm
 subst ew
 obtain⟨e2,s2⟩:=s.laid (o:=.tup [.int (i:Nat),w]) hp
 refine⟨e2,s2,?_⟩
 rw [Nat.zero_add]
 exact .tup bq (s.notMem hp) (.cons (.int _) (.cons (rv.mono e2) .nil))
noncomputable def eX(ms:MA):MA:=fun env S=>(ms env S).bind fun p=>match p.1 with | [.tup xs]=>some (eh 0 xs,p.2) | _=>none
theorem OT{a:Expr}{ms:MA}{es:List Expr}{k:Nat}{tp p pos:Pos}(hm:X.mg "enumerate" = none)(ha:DA X [a] ms)(hg:Gl X "enumerate")(hs:starEach [a] X.env=[(false,eval a X.env)]) :
  DI X (.Tuple es k tp) (.Call (.Name "enumerate" p) [a] [] pos) (eX ms):=PI.imp (Nr hg hm ha hs) fun σ H R ⟨μ,S,env,xs,S',hS,hE,h,post⟩=>by
 obtain⟨⟨ds,S1⟩,h1,h⟩:=Option.bind_eq_some_iff.mp h
 refine⟨μ,S,env,ds,S1,hS,hE,h1,fun vs H1 μ1 e1 s1 r1=>?_⟩
 dsimp only at h
 split at h
 ·rename_i ys
  cases h
  obtain⟨v,rfl,rv⟩:=r1.one
  have rv':=rv
  obtain⟨b,ws,rfl,hq,rs⟩:=rv.sqT
  exact⟨b,rfl,⟨ws,hq⟩,post _ H1 μ1 e1 s1 (Hd rv')⟩
 ·cases h
end
end M
namespace HT
open PySem PyProof.Rows
section
variable{prog:Program}{w:World}{A:Around}{E:Value->Shared->Prop}{s:Shared}
end
end HT
namespace L2
open PySem PySem.Spec PyProof.Rows
section
variable{X:Cx}{e st:Expr}{te:TE}{ts:TO}{pos p2:Pos}
end
end L2
namespace M
open PySem PySem.Spec PyProof.Rows L2
section
variable{X:Cx}{K:PySem.W.Frag}{μ:Fp}{H:Hp}{S:ac}
noncomputable def mRev(a:ME)(st:MO):ME:=fun env S=>(a env S).bind fun p=>(st env p.2).bind fun k=>match p.1,k.1 with
 | .tup xs,some j=>if j = -1 then some (.tup xs.reverse,k.2) else none
 | _,_=>none
end
end M
namespace L2
open PySem PySem.Spec PyProof.Rows
section
variable{X:Cx}
def dedN(ns:List Int):Nat:=(firstMet (fun i=>ns.getD i 0) ns.length).length
end
end L2
namespace M
open PySem PySem.Spec PyProof.Rows L2
noncomputable def oo:List D->Option (List Int)
 | []=>some []
 | .int i::r=>(oo r).bind fun ns=>some (i::ns)
 | _::_=>none
theorem qG:∀ {ds:List D} {ns:List Int},oo ds=some ns->ds=ns.map D.int
 | [],ns,h=>by cases h;rfl
 | .int i::r,ns,h=>by
  obtain⟨ms,h1,h2⟩:=Option.bind_eq_some_iff.mp h
  cases h2
  rw [List.map_cons,<- qG h1]
 | .non::_,ns,h=>by cases h
 | .bl _::_,ns,h=>by cases h
 | .str _::_,ns,h=>by cases h
 | .tup _::_,ns,h=>by cases h
 | .lst _::_,ns,h=>by cases h
 | .rol _::_,ns,h=>by cases h
 | .dct _ _::_,ns,h=>by cases h
 | .ref _::_,ns,h=>by cases h
theorem tR:∀ ns:List Int,oo (ns.map D.int)=some ns
 | []=>rfl
 | n::ns=>by rw [List.map_cons,oo,tR ns];rfl
noncomputable def isort(ns:List Int):List Int:=ns.mergeSort fun a b=>decide (a<=b)
section
variable{X:Cx}{K:PySem.W.Frag}{μ:Fp}{H:Hp}{S:ac}
theorem vI:∀ {vs:List V} {ns:List Int},Reps K μ H vs (ns.map D.int)->vs=ns.map V.int
 | _,[],.nil=>rfl
 | _,n::ns,.cons h t=>by rw [h.int_inv,vI t];rfl
noncomputable def qH(S:ac)(d:D):Option (List Int):=if rh S d=true then (iI S d).bind fun ds=>(oo ds).bind fun ns=>if ns.length<64 then some ns else none else none
theorem Dw{v:V}{d:D}{ns:List Int}(hS:SOk K μ S H)(r:Rep K μ H v d)(h:qH S d=some ns):∃ a,v=.ref a/\nE K H a (ns.map V.int)/\ns.length<64:=by
 unfold qH at h
 split at h
 ·rename_i hl
  obtain⟨a,vs,ds,rfl,hq,hs,rs⟩:=pe hS r hl
  rw [hs] at h
  have h:((oo ds).bind fun ns=>if ns.length<64 then some ns else none)=some ns:=h
  obtain⟨ms,h1,h2⟩:=Option.bind_eq_some_iff.mp h
  split at h2
  ·rename_i h3
   cases h2
   have:=qG h1
   subst this
   exact⟨a,rfl,by rw [<- vI rs];exact hq,h3⟩
  ·cases h2
 ·cases h
noncomputable def fSorted(S:ac):List D->Option D
 | [d]=>(qH S d).bind fun ns=>some (.lst ((isort ns).map D.int))
 | _=>none
noncomputable def fLenSet(S:ac):List D->Option D
 | [d]=>(qH S d).bind fun ns=>some (.int (dedN ns:Nat))
 | _=>none
end
end M
namespace M
open PySem PySem.Spec PyProof.Rows L2
section
variable{X:Cx}{K:PySem.W.Frag}{μ:Fp}{H:Hp}{S:ac}
noncomputable def lV(i j:Nat)(ms:MA):MS:=fun env S=>(ms env S).bind fun p=>match p.1 with | [v,w]=>some (.nx ((env.set i (some v)).set j (some w)) p.2) | _=>none
theorem Tq{i j:Nat}{x y:Str}{a b:Expr}{ms:MA}{px py pt pos:Pos}{kt k2:Nat}{pt2:Pos}(hc:X.calm=true)(hN:X.N.Nodup)(hi:X.N[i]?=some x)(hj:X.N[j]?=some y)(hij:i≠j)
  (hx:X.env.scope.names.lookup x=some .local) (hy:X.env.scope.names.lookup y=some .local) (ha:DA X [a,b] ms)
  (hw:swappedStores [.Tuple [.Name x px,.Name y py] kt pt] (.Tuple [a,b] k2 pt2) X.env=pure (some [x,y])) :
  DS X (.Assign [.Tuple [.Name x px,.Name y py] kt pt] (.Tuple [a,b] k2 pt2) pos) (lV i j ms):=
 PS.imp (Rc hc hN hi hj hij hx hy ha hw rfl) fun E σ H ⟨μ,S,env,o,hS,hE,h,post⟩=>by
  obtain⟨⟨ds,S1⟩,h1,h⟩:=Option.bind_eq_some_iff.mp h
  refine⟨μ,S,env,ds,S1,hS,hE,h1,fun vs H1 μ1 e1 s1 r1=>?_⟩
  dsimp only at h
  split at h
  ·rename_i v w
   cases h
   obtain⟨v',w',rfl,rv,rw'⟩:=r1.two
   exact⟨v',w',rfl,post _ H1 μ1 e1 s1 (((hE.mono e1).set rv i).set rw' j)⟩
  ·cases h
noncomputable def sy:Expr->Bool
 | .Starred _ _=>false
 | _=>true
theorem IK{x y:Str}{a b:Expr}{px py pt:Pos}{kt k2:Nat}{pt2:Pos}(hb:X.env.blockKind=.function)(hx:X.env.scope.names.lookup x=some .local)(hy:X.env.scope.names.lookup y=some .local)(hne:(x == y)=false)
  (hl:(py.line == px.line)=true) (ha:sy a=true) (hb':sy b=true) (hf:(foldedForSure 8 a&&foldedForSure 8 b)=false) (hcn:(constantsAlone 8 a&&constantsAlone 8 b)=false) :
  swappedStores [.Tuple [.Name x px,.Name y py] kt pt] (.Tuple [a,b] k2 pt2) X.env=pure (some [x,y]):=by
 have hkx:X.env.kindOf x=some .local:=hx
 have hky:X.env.kindOf y=some .local:=hy
 have hs:([a,b].any fun e=>match e with | .Starred ..=>true | _=>false)=false:=by
  have q:∀ e:Expr,sy e=true->(match e with | .Starred ..=>true | _=>false:Bool)=false:=fun e h=>by cases e <;> first | rfl | cases h
  simp only [List.any_cons,List.any_nil,q a ha,q b hb',Bool.or_self]
 have hxy:(y == x)=false:=by
  rw [Bool.eq_false_iff] at hne ⊢
  intro z;exact hne (by rw [beq_iff_eq] at z ⊢;exact z.symm)
 have hed:([x,y]:List Str).eraseDups=[x,y]:=by simp [List.eraseDups_cons,hxy]
 have hl':py.line=px.line:=by simpa using hl
 unfold swappedStores
 simp only [List.length_cons,List.length_nil,hb]
 simp only [List.all_cons,List.all_nil,Bool.and_true,hf,hcn]
 generalize hg:List.filterMap _ [Expr.Name x px,Expr.Name y py]=L
 have hL:L=[x,y]:=by
  rw [<- hg]
  have e0:(Option.map (fun(x:Expr)=>x.pos.line) [Expr.Name x px,Expr.Name y py].head?).getD 0=px.line:=rfl
  rw [List.filterMap_cons,List.filterMap_cons]
  have e1:(Expr.Name x px).pos=px:=rfl
  simp [hkx,hky,e0,e1,hl']
 subst hL
 rw [if_neg (by decide)]
 rw [if_neg (by
  intro z
  have:([a,b].any fun e=>match e with | .Starred ..=>true | _=>false)=true:=z
  rw [hs] at this;cases this)]
 rw [if_neg (by rw [hed];simp),if_neg Bool.false_ne_true,if_neg Bool.false_ne_true]
end
end M
namespace L2
open PySem PySem.Spec PyProof.Rows
section
variable{X:Cx}{pins:List (Addr×Obj)}{σ:St}{H:Hp}{s:Shared}{a:Addr}{xs:List V}
theorem Inv.tupD(I:Inv X pins σ H s)(h:lI X.K H a xs):∃ ob,s.heap.get? a=some ob/\ob.cls=.type "tuple"/\ob.dict=none:=by
 rcases h with h | ⟨o,its,n,hk,hc,hdn,hs,hz,r⟩
 ·obtain⟨z,its,r,ob,e,c,d,dn⟩:=h.ok I.hok
  exact⟨ob,e,c,dn⟩
 ·exact⟨o,I.kIn a o hk,hc,hdn⟩
variable{o e:Expr}{es:List Expr}{to:TE}{t:TA}{name:Str}{apos cpos:Pos}{id:String}{r:V->List V->Hp->VK->Prop}
def tBT(K:PySem.W.Frag)(r:V->List V->Hp->VK->Prop)(to:TE)(t:TA):TE:=fun σ H Q=>to σ H fun x H1=>(∃ p xs,x=.ref p/\lI K H1 p xs)/\t σ H1 fun xs H2=>r x xs H2 Q
theorem Rv(slot:Slot "tuple" name id)(hty:typeOf (.builtin id)=pure (.type "method_descriptor"))(hm:MtR X id r)(ho:PE X o to)(ha:PA X (e::es) t)
  (hbase:attributeBase o name X.env (eval o X.env)=eval o X.env)
  (hfew:((backTo cpos (starEach (e::es) X.env)).all (fun x=>!x.1)&&(backToKw cpos (keywordEach [] X.env)).all (fun x=>x.1.isSome)&&decide ((e::es).length+([]:List Keyword).length+(if ([]:List Keyword).isEmpty then 0 else 1)<30))=true)
  (hline:(apos.endLine == cpos.line)=true) (hs:starEach (e::es) X.env=(false,eval e X.env)::starEach es X.env) (hplain:(backTo cpos (starEach es X.env)).any (·.1)=false) :
  PE X (.Call (.Attribute o name apos) (e::es) [] cpos) (tBT X.K r to t):=by
 intro pins s σ H Q I h
 refine wpAny_Call_method_late hbase hfew hline rfl (dg (ho pins s σ H _ I h) fun v s1 ⟨x,H1,I1,r1,ty,q1⟩=>?_)
 obtain⟨p,ys,rfl,hq⟩:=ty
 cases r1
 obtain⟨ob,e1,e2,e3⟩:=I1.tupD hq
 refine⟨"tuple",id,F.plainAttrs_tuple,slot,hty,⟨ob,e1,e2⟩,fun a z=>by cases z;exact⟨ob,e1,e3⟩,?_⟩
 have hA:=ha cpos pins s1 σ H1 _ I1 q1
 rw [hs] at hA ⊢
 refine Calls.callWith_builtin (by show (false||(backTo cpos (starEach es X.env)).any (·.1))=false;rw [hplain] <;> rfl) (Calls.evalArgs_plain ?_)
 exact dg hA fun us s2 ⟨vs,H2,I2,r2,q2⟩=>hm pins s2 σ H2 (V.ref p) vs _ us Q I2 (show RelV (V.ref p) (Value.ref p) from rfl) r2 q2
end
end L2
namespace M
open PySem PySem.Spec PyProof.Rows L2
section
variable{X:Cx}{K:PySem.W.Frag}{μ:Fp}{H:Hp}{S:ac}
noncomputable def IC:D->Bool
 | .tup _=>true
 | _=>false
noncomputable def fL:MF:=fun o ds S=>if IC o=true then ui o ds S else none
theorem GB(hu:X.A.units+64<cLine):MtR X "tuple.count" (Na X.K fL):=by
 intro pins s σ H x vs v us Q I rx rv h
 obtain⟨μ,S,dx,ds,d,S',hS,r1,r2,h,post⟩:=h
 unfold fL at h
 split at h
 ·rename_i hl
  cases dx with
  | tup es=>
   unfold ui at h
   split at h
   ·rename_i y
    have h:(if cI 40 y=true/\es.all (cI 39)=true then some (D.int (es.countP fun d=>jA d y),S) else none)=some (d,S'):=h
    split at h
    ·rename_i hk
     cases h
     obtain⟨a,ws,rfl,hq,re⟩:=r1.sqT
     cases rx
     obtain⟨w,rfl,rw0⟩:=r2.one
     obtain⟨u,rfl,ru⟩:=rv.one
     obtain⟨its,rvs,pt,hz⟩:=I.tuple hq
     obtain⟨⟨cls,dd,data,sl⟩,e,hc,n,hd⟩:=id pt
     simp only at hc hd
     subst hc hd
     have ok:=List.all_eq_true.mp hk.2
     refine call_meets F.slot_tuple_count ⟨_,e,rfl⟩ F.entry_tuple_count (F.args_tuple_count_2 _ _) (SeqAt.tuple_countAt a its.toArray n dd sl u (eG X.K μ H y)) ⟨e,fun w' hw'=>?_,?_⟩
     ·exact ga I (by show X.A.units+1+40<cLine;omega) ru rw0 hk.1 rvs re ok w' (by simpa using hw')
     ·refine⟨.int _,H,I.tok _,⟨_,rfl⟩,?_⟩
      rw [mE I rvs re ok]
      exact post.here hS (.int _)
    ·cases h
   ·cases h
  | _=>cases hl
 ·cases h
noncomputable def jP(o:ME)(ms:MA):ME:=fun env S=>(o env S).bind fun p=>if IC p.1=true then (ms env p.2).bind fun q=>fL p.1 q.1 q.2 else if rh p.2 p.1=true then (ms env p.2).bind fun q=>mY p.1 q.1 q.2 else none
theorem TL{o e:Expr}{es:List Expr}{mo:ME}{ms:MA}{apos cpos:Pos}(hu:X.A.units+64<cLine)(ho:DE X o mo)(ha:DA X (e::es) ms)
  (hbase:attributeBase o "count" X.env (eval o X.env)=eval o X.env)
  (hfew:((backTo cpos (starEach (e::es) X.env)).all (fun x=>!x.1)&&(backToKw cpos (keywordEach [] X.env)).all (fun x=>x.1.isSome)&&decide ((e::es).length+([]:List Keyword).length+(if ([]:List Keyword).isEmpty then 0 else 1)<30))=true)
  (hline:(apos.endLine == cpos.line)=true) (hs:starEach (e::es) X.env=(false,eval e X.env)::starEach es X.env) (hpl:(backTo cpos (starEach es X.env)).any (·.1)=false) :
  DE X (.Call (.Attribute o "count" apos) (e::es) [] cpos) (jP mo ms):=by
 have hT:=Rv (X:=X) F.slot_tuple_count F.type_tuple_count (GB hu) ho ha hbase hfew hline hs hpl
 have hL:=FC (X:=X) F.slot_list_count F.type_list_count (Ah hu) ho ha hbase hfew hline hs hpl
 intro pins s σ H Q I ⟨μ,S,env,d,S',hS,hE,h,post⟩
 obtain⟨⟨x,S1⟩,h1,h⟩:=Option.bind_eq_some_iff.mp h
 dsimp only at h
 split at h
 ·rename_i ht
  obtain⟨⟨xs,S2⟩,h2,h⟩:=Option.bind_eq_some_iff.mp h
  refine hT pins s σ H Q I ⟨μ,S,env,x,S1,hS,hE,h1,fun v H1 μ1 e1 s1 r1=>⟨?_,μ1,S1,env,xs,S2,s1,hE.mono e1,h2,fun vs H2 μ2 e2 s2 r2=>⟨μ2,S2,x,xs,d,S',s2,r1.mono e2,r2,h,(post.ext e1).ext e2⟩⟩⟩
  cases x <;> first | cases ht | skip
  obtain⟨a,ws,rfl,hq,_⟩:=r1.sqT
  exact⟨a,ws,rfl,hq⟩
 ·refine hL pins s σ H Q I ⟨μ,S,env,d,S',hS,hE,?_,post⟩
  show (mo env S).bind _=_
  rw [h1];exact h
end
end M
namespace HT
open PySem PyProof.Rows
section
variable{prog:Program}{w:World}{A:Around}{E:Value->Shared->Prop}{s:Shared}
structure zh(z TI TO i1 i2:Addr)(fp1 fp2:List Addr):Prop where
 TIz:TI≠z
 TOz:TO≠z
 TITO:TI≠TO
 z1:z ∉ fp1
 z2:z ∉ fp2
 o1:TO ∉ fp1
 o2:TO ∉ fp2
 i12:i1 ∉ fp2
 i21:i2 ∉ fp1
 t1:TI≠i1
 t2:TI≠i2
 m1:i1∈fp1
 m2:i2∈fp2
theorem FM{z TI TO i1 i2:Addr}{fp1 fp2:List Addr}{n1 n2 k1 k2:Nat}{P1 P2:Nat->Value->Prop}{St1 St2:Nat->Heap->Prop}{a b:Value}{Q:Value->Shared->Prop}
  (Z:zh z TI TO i1 i2 fp1 fp2) (D1:Draws prog w A i1 fp1 n1 P1 St1) (D2:Draws prog w A i2 fp2 n2 P2 St2) (hz:IsZip s.heap z TI TO .none) (hTI:IsPair s.heap TI (.ref i1) (.ref i2)) (hTO:IsPair s.heap TO a b)
  (s1:St1 k1 s.heap) (s2:St2 k2 s.heap) (l1:k1<n1) (l2:k2<n2)
  (hQ:∀ x y h' tk,P1 k1 x->P2 k2 y->IsZip h' z TI TO (rawInt s.heap.objs.size)->IsPair h' TO x y->St1 (k1+1) h'->St2 (k2+1) h'->IsPair h' s.heap.objs.size x y->h'.objs.size=s.heap.objs.size+1 ->
   (∀ c o,c≠z->c≠TO->c≠i1->c≠i2->s.heap.get? c=some o->h'.get? c=some o)->Q (.ref s.heap.objs.size) { s with heap:=h',toks:=tk }) :
  wpAny (model prog w) A (Builtin.«zip.__next__» ⟨[.ref z],[]⟩) (fun fin s'=>∃ v,fin=.done (.ret v)/\Q v s') E s:=by
 unfold Builtin.«zip.__next__»
 show wpAny _ _ (field (.ref z) 2 >>= _) _ _ s
 refine wpAny_bind (wpAny_field hz rfl (x:=.bool false) rfl ?_)
 refine wpAny_bind (wpAny_field hz rfl (x:=.ref TI) rfl ?_)
 refine wpAny_bind (wpAny_seqItems hTI rfl ?_)
 show wpAny _ _ (Builtin.SmallTypes.ownedTupleIsFree (.ref z) >>= _) _ _ s
 refine wpAny_bind ?_
 unfold Builtin.SmallTypes.ownedTupleIsFree
 refine wpAny_bind (wpAny_field hz rfl (x:=.none) rfl (wpAny_pure ?_))
 show wpAny _ _ (rule "zip.__next__.owned-tuple-again" >>= _) _ _ s
 refine wpAny_bind (wpAny_rule ?_)
 refine wpAny_bind (wpAny_field hz rfl (x:=.ref TO) rfl ?_)
 refine wpAny_bind (wpAny_setField hz rfl (by simp) ?_)
 refine wpAny_bind ?_
 show wpAny _ _ (forIn [((Value.ref i1,0):Value×Nat),(Value.ref i2,1)] _ _) _ _ _
 rw [List.forIn_cons]
 refine wpAny_bind ?_
 refine wpAny_bind (wpAny_onRaise ?_)
 refine wpAny_bind ?_
 have ez:(s.heap.update z (Obj.mapFields fun vs=>vs.setIfInBounds 0 .ellipsis)).get? z=some { cls:=.type "zip",data:=.fields #[.ellipsis,.bool false,.bool false,.ref TI,.ref TO] }:=Heap.get?_update_self _ hz rfl
 have ne0:∀ c,c≠z->(s.heap.update z (Obj.mapFields fun vs=>vs.setIfInBounds 0 .ellipsis)).get? c=s.heap.get? c:=fun c hc=>Heap.get?_update_ne _ _ _ _ hc
 have sz0:(s.heap.update z (Obj.mapFields fun vs=>vs.setIfInBounds 0 .ellipsis)).objs.size=s.heap.objs.size:=(Heap.SameBut.update ..).1
 generalize (s.heap.update z (Obj.mapFields fun vs=>vs.setIfInBounds 0 .ellipsis))=h0 at ez ne0 sz0 ⊢
 have zi1:z≠i1:=fun e=>Z.z1 (e ▸ Z.m1)
 have zi2:z≠i2:=fun e=>Z.z2 (e ▸ Z.m2)
 have oi1:TO≠i1:=fun e=>Z.o1 (e ▸ Z.m1)
 have oi2:TO≠i2:=fun e=>Z.o2 (e ▸ Z.m2)
 refine D1.item k1 { s with heap:=h0 } _ _ l1 (D1.frame _ _ _ s1 fun c hc o ho=>(ne0 c (fun e=>Z.z1 (e ▸ hc))).trans ho) fun x h1 tk1 px st1 sb1=>wpAny_pure ?_
 have o1:h1.get? TO=some { cls:=.type "tuple",data:=.seq #[a,b] }:=(sb1.2 TO oi1).trans ((ne0 TO Z.TOz).trans hTO)
 show wpAny _ _ (seqItems? (Value.ref TO) >>= _) _ _ _
 refine wpAny_bind (wpAny_seqItems o1 rfl ?_)
 refine wpAny_bind (wpAny_updateSeq o1 rfl ?_ (by show 2<=sizeLine;decide) (by simp;decide))
 refine wpAny_bind (wpAny_letGo (wpAny_pure ?_))
 have eo:(h1.update TO (Obj.mapSeq fun vs=>vs.setIfInBounds 0 x)).get? TO=some { cls:=.type "tuple",data:=.seq #[x,b] }:=Heap.get?_update_self _ o1 rfl
 have ne1:∀ c,c≠TO->(h1.update TO (Obj.mapSeq fun vs=>vs.setIfInBounds 0 x)).get? c=h1.get? c:=fun c hc=>Heap.get?_update_ne _ _ _ _ hc
 have sz1:(h1.update TO (Obj.mapSeq fun vs=>vs.setIfInBounds 0 x)).objs.size=s.heap.objs.size:=(Heap.SameBut.update ..).1.trans (sb1.1.trans sz0)
 generalize (h1.update TO (Obj.mapSeq fun vs=>vs.setIfInBounds 0 x))=h2 at eo ne1 sz1 ⊢
 show wpAny _ _ (forIn [((Value.ref i2,1):Value×Nat)] _ _) _ _ _
 rw [List.forIn_cons]
 refine wpAny_bind ?_
 refine wpAny_bind (wpAny_onRaise ?_)
 refine wpAny_bind ?_
 refine D2.item k2 { s with heap:=h2,toks:=tk1 } _ _ l2 (D2.frame _ _ _ s2 fun c hc o ho=>(ne1 c (fun e=>Z.o2 (e ▸ hc))).trans ((sb1.2 c (fun e=>Z.i12 (e ▸ hc))).trans ((ne0 c (fun e=>Z.z2 (e ▸ hc))).trans ho))) fun y h3 tk2 py st2 sb2=>wpAny_pure ?_
 have o2:h3.get? TO=some { cls:=.type "tuple",data:=.seq #[x,b] }:=(sb2.2 TO oi2).trans eo
 show wpAny _ _ (seqItems? (Value.ref TO) >>= _) _ _ _
 refine wpAny_bind (wpAny_seqItems o2 rfl ?_)
 refine wpAny_bind (wpAny_updateSeq o2 rfl ?_ (by show 2<=sizeLine;decide) (by simp;decide))
 refine wpAny_bind (wpAny_letGo (wpAny_pure ?_))
 have eo2:(h3.update TO (Obj.mapSeq fun vs=>vs.setIfInBounds 1 y)).get? TO=some { cls:=.type "tuple",data:=.seq #[x,y] }:=Heap.get?_update_self _ o2 rfl
 have ne2:∀ c,c≠TO->(h3.update TO (Obj.mapSeq fun vs=>vs.setIfInBounds 1 y)).get? c=h3.get? c:=fun c hc=>Heap.get?_update_ne _ _ _ _ hc
 have sz2:(h3.update TO (Obj.mapSeq fun vs=>vs.setIfInBounds 1 y)).objs.size=s.heap.objs.size:=(Heap.SameBut.update ..).1.trans (sb2.1.trans sz1)
 generalize (h3.update TO (Obj.mapSeq fun vs=>vs.setIfInBounds 1 y))=h4 at eo2 ne2 sz2 ⊢
 show wpAny _ _ (pure _) _ _ _
 refine wpAny_pure ?_
 show wpAny _ _ (seqItems? (Value.ref TO) >>= _) _ _ _
 refine wpAny_bind (wpAny_seqItems eo2 rfl ?_)
 show wpAny _ _ (newTuple [x,y] >>= _) _ _ _
 refine wpAny_bind ?_
 simp only [newTuple]
 refine wpAny_newObj_type ?_ (by size_fits)
 have ez4:h4.get? z=some { cls:=.type "zip",data:=.fields #[.ellipsis,.bool false,.bool false,.ref TI,.ref TO] }:=(ne2 z Z.TOz.symm).trans ((sb2.2 z zi2).trans ((ne1 z Z.TOz.symm).trans ((sb1.2 z zi1).trans ez)))
 have ez5:=Heap.get?_push_of_some { cls:=.type "tuple",data:=.seq #[x,y] } ez4
 have et5:=Heap.get?_push_size h4 (o:={ cls:=.type "tuple",data:=.seq #[x,y] }) rfl
 have kk5:∀ c o,h4.get? c=some o->(h4.push { cls:=.type "tuple",data:=.seq #[x,y] }).get? c=some o:=fun c o=>Heap.get?_push_of_some _
 have sz5:(h4.push { cls:=.type "tuple",data:=.seq #[x,y] }).objs.size=s.heap.objs.size+1:=by rw [Heap.size_push,sz2]
 dsimp only
 show wpAny _ _ _ _ _ { s with heap:=h4.push { cls:=.type "tuple",data:=.seq #[x,y] },toks:=tk2 }
 generalize (h4.push { cls:=.type "tuple",data:=.seq #[x,y] })=h5 at ez5 et5 kk5 sz5 ⊢
 rw [sz2] at et5 ⊢
 show wpAny _ _ ((setField (.ref z) 0 (rawInt s.heap.objs.size) >>= fun _=>setField (.ref z) 1 (.bool false)) >>= _) _ _ _
 refine wpAny_bind (wpAny_bind (wpAny_setField ez5 rfl (by simp) ?_))
 have ez6:(h5.update z (Obj.mapFields fun vs=>vs.setIfInBounds 0 (rawInt s.heap.objs.size))).get? z=some { cls:=.type "zip",data:=.fields #[rawInt s.heap.objs.size,.bool false,.bool false,.ref TI,.ref TO] }:=Heap.get?_update_self _ ez5 rfl
 have ne6:∀ c,c≠z->(h5.update z (Obj.mapFields fun vs=>vs.setIfInBounds 0 (rawInt s.heap.objs.size))).get? c=h5.get? c:=fun c hc=>Heap.get?_update_ne _ _ _ _ hc
 have sz6:(h5.update z (Obj.mapFields fun vs=>vs.setIfInBounds 0 (rawInt s.heap.objs.size))).objs.size=s.heap.objs.size+1:=(Heap.SameBut.update ..).1.trans sz5
 generalize (h5.update z (Obj.mapFields fun vs=>vs.setIfInBounds 0 (rawInt s.heap.objs.size)))=h6 at ez6 ne6 sz6 ⊢
 refine wpAny_setField ez6 rfl (by simp) ?_
 have ez7:(h6.update z (Obj.mapFields fun vs=>vs.setIfInBounds 1 (.bool false))).get? z=some { cls:=.type "zip",data:=.fields #[rawInt s.heap.objs.size,.bool false,.bool false,.ref TI,.ref TO] }:=Heap.get?_update_self _ ez6 rfl
 have ne7:∀ c,c≠z->(h6.update z (Obj.mapFields fun vs=>vs.setIfInBounds 1 (.bool false))).get? c=h6.get? c:=fun c hc=>Heap.get?_update_ne _ _ _ _ hc
 have sz7:(h6.update z (Obj.mapFields fun vs=>vs.setIfInBounds 1 (.bool false))).objs.size=s.heap.objs.size+1:=(Heap.SameBut.update ..).1.trans sz6
 generalize (h6.update z (Obj.mapFields fun vs=>vs.setIfInBounds 1 (.bool false)))=h7 at ez7 ne7 sz7 ⊢
 have k57:∀ c o,c≠z->h4.get? c=some o->h7.get? c=some o:=fun c o hc ho=>(ne7 c hc).trans ((ne6 c hc).trans (kk5 c o ho))
 have newz:s.heap.objs.size≠z:=Nat.ne_of_gt (Heap.lt_size hz)
 refine wpAny_pure ⟨_,rfl,hQ x y h7 tk2 px py ez7 (k57 TO _ Z.TOz eo2) ?_ ?_ ((ne7 _ newz).trans ((ne6 _ newz).trans et5)) sz7 fun c o c1 c2 c3 c4 ho=>k57 c o c1 ((ne2 c c2).trans ((sb2.2 c c4).trans ((ne1 c c2).trans ((sb1.2 c c3).trans ((ne0 c c1).trans ho)))))⟩
 ·exact D1.frame _ _ _ st1 fun c hc o ho=>k57 c o (fun e=>Z.z1 (e ▸ hc)) ((ne2 c (fun e=>Z.o1 (e ▸ hc))).trans ((sb2.2 c (fun e=>Z.i21 (e ▸ hc))).trans ((ne1 c (fun e=>Z.o1 (e ▸ hc))).trans ho)))
 ·exact D2.frame _ _ _ st2 fun c hc o ho=>k57 c o (fun e=>Z.z2 (e ▸ hc)) ((ne2 c (fun e=>Z.o2 (e ▸ hc))).trans ho)
theorem FO{z TI TO i1 i2:Addr}{fp1 fp2:List Addr}{n1:Nat}{P1:Nat->Value->Prop}{St1:Nat->Heap->Prop}{a b:Value}{Q:Fin->Shared->Prop}
  (Z:zh z TI TO i1 i2 fp1 fp2) (D1:Draws prog w A i1 fp1 n1 P1 St1) (hz:IsZip s.heap z TI TO .none) (hTI:IsPair s.heap TI (.ref i1) (.ref i2)) (hTO:IsPair s.heap TO a b)
  (s1:St1 n1 s.heap)
  (hE:∀ h' e tk,(∀ c o,c≠z->c≠TO->c≠i1->c≠i2->s.heap.get? c=some o->h'.get? c=some o)->(∃ o,h'.get? e=some o/\o.cls=.type "StopIteration")->E (.ref e) { s with heap:=h',toks:=tk }) :
  wpAny (model prog w) A (Builtin.«zip.__next__» ⟨[.ref z],[]⟩) Q E s:=by
 unfold Builtin.«zip.__next__»
 show wpAny _ _ (field (.ref z) 2 >>= _) _ _ s
 refine wpAny_bind (wpAny_field hz rfl (x:=.bool false) rfl ?_)
 refine wpAny_bind (wpAny_field hz rfl (x:=.ref TI) rfl ?_)
 refine wpAny_bind (wpAny_seqItems hTI rfl ?_)
 show wpAny _ _ (Builtin.SmallTypes.ownedTupleIsFree (.ref z) >>= _) _ _ s
 refine wpAny_bind ?_
 unfold Builtin.SmallTypes.ownedTupleIsFree
 refine wpAny_bind (wpAny_field hz rfl (x:=.none) rfl (wpAny_pure ?_))
 show wpAny _ _ (rule "zip.__next__.owned-tuple-again" >>= _) _ _ s
 refine wpAny_bind (wpAny_rule ?_)
 refine wpAny_bind (wpAny_field hz rfl (x:=.ref TO) rfl ?_)
 refine wpAny_bind (wpAny_setField hz rfl (by simp) ?_)
 refine wpAny_bind ?_
 show wpAny _ _ (forIn [((Value.ref i1,0):Value×Nat),(Value.ref i2,1)] _ _) _ _ _
 rw [List.forIn_cons]
 refine wpAny_bind ?_
 refine wpAny_bind (wpAny_onRaise ?_)
 refine wpAny_bind ?_
 have ez:(s.heap.update z (Obj.mapFields fun vs=>vs.setIfInBounds 0 .ellipsis)).get? z=some { cls:=.type "zip",data:=.fields #[.ellipsis,.bool false,.bool false,.ref TI,.ref TO] }:=Heap.get?_update_self _ hz rfl
 have ne0:∀ c,c≠z->(s.heap.update z (Obj.mapFields fun vs=>vs.setIfInBounds 0 .ellipsis)).get? c=s.heap.get? c:=fun c hc=>Heap.get?_update_ne _ _ _ _ hc
 generalize (s.heap.update z (Obj.mapFields fun vs=>vs.setIfInBounds 0 .ellipsis))=h0 at ez ne0 ⊢
 have zi1:z≠i1:=fun e=>Z.z1 (e ▸ Z.m1)
 have zi2:z≠i2:=fun e=>Z.z2 (e ▸ Z.m2)
 have oi1:TO≠i1:=fun e=>Z.o1 (e ▸ Z.m1)
 have oi2:TO≠i2:=fun e=>Z.o2 (e ▸ Z.m2)
 refine D1.done { s with heap:=h0 } _ _ (D1.frame _ _ _ s1 fun c hc o ho=>(ne0 c (fun e=>Z.z1 (e ▸ hc))).trans ho) fun h1 e xb ⟨o,ho,hc⟩=>?_
 have z1:=xb z _ zi1 ez
 refine wpAny_setField z1 rfl (by simp) (hE _ e s.toks (fun c o c1 c2 c3 c4 ho=>(Heap.get?_update_ne _ _ _ _ c1).trans (xb c o c3 ((ne0 c c1).trans ho))) ?_)
 refine⟨o,(Heap.get?_update_ne _ _ _ _ fun h=>?_).trans ho,hc⟩
 rw [h,z1] at ho;cases ho;exact absurd (show Value.type "zip" = Value.type "StopIteration" from hc) (by decide)
theorem FN{z TI TO i1 i2:Addr}{fp1 fp2:List Addr}{n1 n2 k1:Nat}{P1 P2:Nat->Value->Prop}{St1 St2:Nat->Heap->Prop}{a b:Value}{Q:Fin->Shared->Prop}
  (Z:zh z TI TO i1 i2 fp1 fp2) (D1:Draws prog w A i1 fp1 n1 P1 St1) (D2:Draws prog w A i2 fp2 n2 P2 St2) (hz:IsZip s.heap z TI TO .none) (hTI:IsPair s.heap TI (.ref i1) (.ref i2)) (hTO:IsPair s.heap TO a b)
  (s1:St1 k1 s.heap) (l1:k1<n1) (s2:St2 n2 s.heap)
  (hE:∀ h' e tk,(∀ c o,c≠z->c≠TO->c≠i1->c≠i2->s.heap.get? c=some o->h'.get? c=some o)->(∃ o,h'.get? e=some o/\o.cls=.type "StopIteration")->E (.ref e) { s with heap:=h',toks:=tk }) :
  wpAny (model prog w) A (Builtin.«zip.__next__» ⟨[.ref z],[]⟩) Q E s:=by
 unfold Builtin.«zip.__next__»
 show wpAny _ _ (field (.ref z) 2 >>= _) _ _ s
 refine wpAny_bind (wpAny_field hz rfl (x:=.bool false) rfl ?_)
 refine wpAny_bind (wpAny_field hz rfl (x:=.ref TI) rfl ?_)
 refine wpAny_bind (wpAny_seqItems hTI rfl ?_)
 show wpAny _ _ (Builtin.SmallTypes.ownedTupleIsFree (.ref z) >>= _) _ _ s
 refine wpAny_bind ?_
 unfold Builtin.SmallTypes.ownedTupleIsFree
 refine wpAny_bind (wpAny_field hz rfl (x:=.none) rfl (wpAny_pure ?_))
 show wpAny _ _ (rule "zip.__next__.owned-tuple-again" >>= _) _ _ s
 refine wpAny_bind (wpAny_rule ?_)
 refine wpAny_bind (wpAny_field hz rfl (x:=.ref TO) rfl ?_)
 refine wpAny_bind (wpAny_setField hz rfl (by simp) ?_)
 refine wpAny_bind ?_
 show wpAny _ _ (forIn [((Value.ref i1,0):Value×Nat),(Value.ref i2,1)] _ _) _ _ _
 rw [List.forIn_cons]
 refine wpAny_bind ?_
 refine wpAny_bind (wpAny_onRaise ?_)
 refine wpAny_bind ?_
 have ez:(s.heap.update z (Obj.mapFields fun vs=>vs.setIfInBounds 0 .ellipsis)).get? z=some { cls:=.type "zip",data:=.fields #[.ellipsis,.bool false,.bool false,.ref TI,.ref TO] }:=Heap.get?_update_self _ hz rfl
 have ne0:∀ c,c≠z->(s.heap.update z (Obj.mapFields fun vs=>vs.setIfInBounds 0 .ellipsis)).get? c=s.heap.get? c:=fun c hc=>Heap.get?_update_ne _ _ _ _ hc
 generalize (s.heap.update z (Obj.mapFields fun vs=>vs.setIfInBounds 0 .ellipsis))=h0 at ez ne0 ⊢
 have zi1:z≠i1:=fun e=>Z.z1 (e ▸ Z.m1)
 have zi2:z≠i2:=fun e=>Z.z2 (e ▸ Z.m2)
 have oi1:TO≠i1:=fun e=>Z.o1 (e ▸ Z.m1)
 have oi2:TO≠i2:=fun e=>Z.o2 (e ▸ Z.m2)
 refine D1.item k1 { s with heap:=h0 } _ _ l1 (D1.frame _ _ _ s1 fun c hc o ho=>(ne0 c (fun e=>Z.z1 (e ▸ hc))).trans ho) fun x h1 tk1 px st1 sb1=>wpAny_pure ?_
 have o1:h1.get? TO=some { cls:=.type "tuple",data:=.seq #[a,b] }:=(sb1.2 TO oi1).trans ((ne0 TO Z.TOz).trans hTO)
 show wpAny _ _ (seqItems? (Value.ref TO) >>= _) _ _ _
 refine wpAny_bind (wpAny_seqItems o1 rfl ?_)
 refine wpAny_bind (wpAny_updateSeq o1 rfl ?_ (by show 2<=sizeLine;decide) (by simp;decide))
 refine wpAny_bind (wpAny_letGo (wpAny_pure ?_))
 have ne1:∀ c,c≠TO->(h1.update TO (Obj.mapSeq fun vs=>vs.setIfInBounds 0 x)).get? c=h1.get? c:=fun c hc=>Heap.get?_update_ne _ _ _ _ hc
 generalize (h1.update TO (Obj.mapSeq fun vs=>vs.setIfInBounds 0 x))=h2 at ne1 ⊢
 show wpAny _ _ (forIn [((Value.ref i2,1):Value×Nat)] _ _) _ _ _
 rw [List.forIn_cons]
 refine wpAny_bind ?_
 refine wpAny_bind (wpAny_onRaise ?_)
 refine wpAny_bind ?_
 refine D2.done { s with heap:=h2,toks:=tk1 } _ _ (D2.frame _ _ _ s2 fun c hc o ho=>(ne1 c (fun e=>Z.o2 (e ▸ hc))).trans ((sb1.2 c (fun e=>Z.i12 (e ▸ hc))).trans ((ne0 c (fun e=>Z.z2 (e ▸ hc))).trans ho))) fun h3 e xb ⟨o,ho,hc⟩=>?_
 have z1:=xb z _ zi2 ((ne1 z Z.TOz.symm).trans ((sb1.2 z zi1).trans ez))
 refine wpAny_setField z1 rfl (by simp) (hE _ e tk1 (fun c o c1 c2 c3 c4 ho=>(Heap.get?_update_ne _ _ _ _ c1).trans (xb c o c4 ((ne1 c c2).trans ((sb1.2 c c3).trans ((ne0 c c1).trans ho))))) ?_)
 refine⟨o,(Heap.get?_update_ne _ _ _ _ fun h=>?_).trans ho,hc⟩
 rw [h,z1] at ho;cases ho;exact absurd (show Value.type "zip" = Value.type "StopIteration" from hc) (by decide)
theorem zN{z TI TO i1 i2:Addr}{fp1 fp2:List Addr}{n1 n2 k1 k2:Nat}{P1 P2:Nat->Value->Prop}{St1 St2:Nat->Heap->Prop}{a b:Value}{Q:Option Value->Shared->Prop}
  (Z:zh z TI TO i1 i2 fp1 fp2) (D1:Draws prog w A.in1 i1 fp1 n1 P1 St1) (D2:Draws prog w A.in1 i2 fp2 n2 P2 St2) (hz:IsZip s.heap z TI TO .none) (hTI:IsPair s.heap TI (.ref i1) (.ref i2)) (hTO:IsPair s.heap TO a b)
  (s1:St1 k1 s.heap) (s2:St2 k2 s.heap) (l1:k1<n1) (l2:k2<n2)
  (hQ:∀ x y h' tk,P1 k1 x->P2 k2 y->IsZip h' z TI TO (rawInt s.heap.objs.size)->IsPair h' TO x y->St1 (k1+1) h'->St2 (k2+1) h'->IsPair h' s.heap.objs.size x y->h'.objs.size=s.heap.objs.size+1 ->
   (∀ c o,c≠z->c≠TO->c≠i1->c≠i2->s.heap.get? c=some o->h'.get? c=some o)->Q (some (.ref s.heap.objs.size)) { s with heap:=h',toks:=tk }) :
  wpAny (model prog w) A (pyNext (.ref z)) Q E s:=by
 unfold pyNext
 refine wpAny_bind (wpAny_attempt ?_)
 refine wpAny_callSpecial?_slot (name:=Str.ofString "__next__") (T:="zip") ?_ F.slot_zip_next (wpAny_call_entry F.slot_zip_next ?_ F.entry_zip_next (FM Z D1 D2 hz hTI hTO s1 s2 l1 l2 fun x y h' tk a1 a2 a3 a4 a5 a6 a7 a8 a9=>wpAny_pure (hQ x y h' tk a1 a2 a3 a4 a5 a6 a7 a8 a9)) (F.args_zip_next_1 _)) <;> exact⟨_,hz,rfl⟩
end
end HT
namespace HT
open PySem PyProof.Rows
section
variable{prog:Program}{w:World}{A:Around}{E:Value->Shared->Prop}{s:Shared}
theorem xz{z TI TO i1 i2:Addr}{fp1 fp2:List Addr}{n1:Nat}{P1:Nat->Value->Prop}{St1:Nat->Heap->Prop}{a b:Value}{Q:Option Value->Shared->Prop}
  (Z:zh z TI TO i1 i2 fp1 fp2) (D1:Draws prog w A.in1 i1 fp1 n1 P1 St1) (hz:IsZip s.heap z TI TO .none) (hTI:IsPair s.heap TI (.ref i1) (.ref i2)) (hTO:IsPair s.heap TO a b)
  (s1:St1 n1 s.heap) (hQ:∀ h' tk,(∀ c o,c≠z->c≠TO->c≠i1->c≠i2->s.heap.get? c=some o->h'.get? c=some o)->Q none { s with heap:=h',toks:=tk }) :
  wpAny (model prog w) A (pyNext (.ref z)) Q E s:=by
 unfold pyNext
 refine wpAny_bind (wpAny_attempt ?_)
 refine wpAny_callSpecial?_slot (name:=Str.ofString "__next__") (T:="zip") ⟨_,hz,rfl⟩ F.slot_zip_next (wpAny_call_entry F.slot_zip_next ⟨_,hz,rfl⟩ F.entry_zip_next (FO Z D1 hz hTI hTO s1 fun h' e tk kk hc=>?_) (F.args_zip_next_1 _))
 show wpAny _ _ (isInstance (.ref e) (.type "StopIteration") >>= _) _ _ _
 exact wpAny_bind (wpAny_isInstance (T:="StopIteration") (b:=true) hc (by first | exact sub_StopIteration | rfl) (wpAny_pure (hQ h' tk kk)))
theorem xy{z TI TO i1 i2:Addr}{fp1 fp2:List Addr}{n1 n2 k1:Nat}{P1 P2:Nat->Value->Prop}{St1 St2:Nat->Heap->Prop}{a b:Value}{Q:Option Value->Shared->Prop}
  (Z:zh z TI TO i1 i2 fp1 fp2) (D1:Draws prog w A.in1 i1 fp1 n1 P1 St1) (D2:Draws prog w A.in1 i2 fp2 n2 P2 St2) (hz:IsZip s.heap z TI TO .none) (hTI:IsPair s.heap TI (.ref i1) (.ref i2)) (hTO:IsPair s.heap TO a b)
  (s1:St1 k1 s.heap) (l1:k1<n1) (s2:St2 n2 s.heap) (hQ:∀ h' tk,(∀ c o,c≠z->c≠TO->c≠i1->c≠i2->s.heap.get? c=some o->h'.get? c=some o)->Q none { s with heap:=h',toks:=tk }) :
  wpAny (model prog w) A (pyNext (.ref z)) Q E s:=by
 unfold pyNext
 refine wpAny_bind (wpAny_attempt ?_)
 refine wpAny_callSpecial?_slot (name:=Str.ofString "__next__") (T:="zip") ⟨_,hz,rfl⟩ F.slot_zip_next (wpAny_call_entry F.slot_zip_next ⟨_,hz,rfl⟩ F.entry_zip_next (FN Z D1 D2 hz hTI hTO s1 l1 s2 fun h' e tk kk hc=>?_) (F.args_zip_next_1 _))
 show wpAny _ _ (isInstance (.ref e) (.type "StopIteration") >>= _) _ _ _
 exact wpAny_bind (wpAny_isInstance (T:="StopIteration") (b:=true) hc (by first | exact sub_StopIteration | rfl) (wpAny_pure (hQ h' tk kk)))
end
theorem Ir(l1 l2:Addr)(xs ys:Array Value) :
  Meets (Builtin.«zip.__new__» ⟨[.type "zip",.ref l1,.ref l2],[]⟩) (fun _ R s=>s.heap.IsTuple l1 xs/\s.heap.IsTuple l2 ys /\
   ∀ h',IsZip h' (s.heap.objs.size+4) (s.heap.objs.size+2) (s.heap.objs.size+3) .none->IsPair h' (s.heap.objs.size+2) (.ref s.heap.objs.size) (.ref (s.heap.objs.size+1))->IsPair h' (s.heap.objs.size+3) .none .none ->
    h'.IsTupleIter s.heap.objs.size l1 0->h'.IsTupleIter (s.heap.objs.size+1) l2 0->h'.objs.size=s.heap.objs.size+5->(∀ c o,s.heap.get? c=some o->h'.get? c=some o)->R (.ok (.ret (.ref (s.heap.objs.size+4)))) { s with heap:=h' }):=
 .of_wp fun prog w A R s h=>by
  obtain⟨hl,hl2,h⟩:=h
  unfold Builtin.«zip.__new__»
  refine wpAny_bind ?_
  show wpAny _ _ (isType (.type "zip") >>= _) _ _ _
  refine wpAny_bind (wpAny_of_eq (a:=true) (by first | rfl | simp [isType]) ?_)
  show wpAny _ _ (isSubtype (.type "zip") (.type "zip") >>= _) _ _ _
  refine wpAny_bind (wpAny_of_eq sub_zip (wpAny_pure ?_))
  show wpAny _ _ (Builtin.SmallTypes.iterAll [.ref l1,.ref l2] >>= _) _ _ _
  refine wpAny_bind ?_
  unfold Builtin.SmallTypes.iterAll
  refine wpAny_bind ?_
  rw [List.forIn_cons]
  refine wpAny_bind (wpAny_bind (wpAny_holding (wpAny_pyIter_tuple hl (wpAny_pure ?_))))
  have g1:=Heap.get?_push_size s.heap (o:={ cls:=.type "tuple_iterator",data:=.fields #[.ref l1,.int 0 0] }) rfl
  have k1:∀ c o,s.heap.get? c=some o->(s.heap.push { cls:=.type "tuple_iterator",data:=.fields #[.ref l1,.int 0 0] }).get? c=some o:=fun c o=>Heap.get?_push_of_some _
  have z1:(s.heap.push { cls:=.type "tuple_iterator",data:=.fields #[.ref l1,.int 0 0] }).objs.size=s.heap.objs.size+1:=Heap.size_push ..
  generalize s.heap.push { cls:=.type "tuple_iterator",data:=.fields #[.ref l1,.int 0 0] } = h1 at g1 k1 z1 ⊢
  have hl2':h1.IsTuple l2 ys:=by obtain⟨o,ho,r⟩:=hl2;exact⟨o,k1 _ _ ho,r⟩
  show wpAny _ _ (forIn [Value.ref l2] _ _) _ _ _
  rw [List.forIn_cons]
  refine wpAny_bind (wpAny_bind (wpAny_holding (wpAny_pyIter_tuple hl2' (wpAny_pure ?_))))
  dsimp only
  have g2:=Heap.get?_push_size h1 (o:={ cls:=.type "tuple_iterator",data:=.fields #[.ref l2,.int 0 0] }) rfl
  have k2:∀ c o,h1.get? c=some o->(h1.push { cls:=.type "tuple_iterator",data:=.fields #[.ref l2,.int 0 0] }).get? c=some o:=fun c o=>Heap.get?_push_of_some _
  have z2:(h1.push { cls:=.type "tuple_iterator",data:=.fields #[.ref l2,.int 0 0] }).objs.size=s.heap.objs.size+2:=by rw [Heap.size_push,z1]
  generalize h1.push { cls:=.type "tuple_iterator",data:=.fields #[.ref l2,.int 0 0] } = h2 at g2 k2 z2 ⊢
  rw [z1] at g2 ⊢
  show wpAny _ _ (pure _) _ _ _
  refine wpAny_pure (wpAny_pure ?_)
  show wpAny _ _ (newTuple [.ref s.heap.objs.size,.ref (s.heap.objs.size+1)] >>= _) _ _ _
  refine wpAny_bind ?_
  simp only [newTuple]
  refine wpAny_newObj_type ?_ (by size_fits)
  have g3:=Heap.get?_push_size h2 (o:={ cls:=.type "tuple",data:=.seq #[.ref s.heap.objs.size,.ref (s.heap.objs.size+1)] }) rfl
  have k3:∀ c o,h2.get? c=some o->(h2.push { cls:=.type "tuple",data:=.seq #[.ref s.heap.objs.size,.ref (s.heap.objs.size+1)] }).get? c=some o:=fun c o=>Heap.get?_push_of_some _
  have z3:(h2.push { cls:=.type "tuple",data:=.seq #[.ref s.heap.objs.size,.ref (s.heap.objs.size+1)] }).objs.size=s.heap.objs.size+3:=by rw [Heap.size_push,z2]
  dsimp only
  show wpAny _ _ _ _ _ { s with heap:=h2.push { cls:=.type "tuple",data:=.seq #[.ref s.heap.objs.size,.ref (s.heap.objs.size+1)] } }
  generalize h2.push { cls:=.type "tuple",data:=.seq #[.ref s.heap.objs.size,.ref (s.heap.objs.size+1)] } = h3 at g3 k3 z3 ⊢
  rw [z2] at g3 ⊢
  refine wpAny_bind ?_
  show wpAny _ _ (newObj (.type "tuple") (.seq #[.none,.none])) _ _ _
  refine wpAny_newObj_type ?_ (by size_fits)
  have g4:=Heap.get?_push_size h3 (o:={ cls:=.type "tuple",data:=.seq #[.none,.none] }) rfl
  have k4:∀ c o,h3.get? c=some o->(h3.push { cls:=.type "tuple",data:=.seq #[.none,.none] }).get? c=some o:=fun c o=>Heap.get?_push_of_some _
  have z4:(h3.push { cls:=.type "tuple",data:=.seq #[.none,.none] }).objs.size=s.heap.objs.size+4:=by rw [Heap.size_push,z3]
  dsimp only
  generalize h3.push { cls:=.type "tuple",data:=.seq #[.none,.none] } = h4 at g4 k4 z4 ⊢
  rw [z3] at g4 ⊢
  refine wpAny_bind ?_
  show wpAny _ _ (newObj (.type "zip") (.fields #[.none,.bool false,.bool false,.ref (s.heap.objs.size+2),.ref (s.heap.objs.size+3)])) _ _ _
  refine wpAny_newObj_type ?_ (by size_fits)
  have g5:=Heap.get?_push_size h4 (o:={ cls:=.type "zip",data:=.fields #[.none,.bool false,.bool false,.ref (s.heap.objs.size+2),.ref (s.heap.objs.size+3)] }) rfl
  have k5:∀ c o,h4.get? c=some o->(h4.push { cls:=.type "zip",data:=.fields #[.none,.bool false,.bool false,.ref (s.heap.objs.size+2),.ref (s.heap.objs.size+3)] }).get? c=some o:=fun c o=>Heap.get?_push_of_some _
  have z5:(h4.push { cls:=.type "zip",data:=.fields #[.none,.bool false,.bool false,.ref (s.heap.objs.size+2),.ref (s.heap.objs.size+3)] }).objs.size=s.heap.objs.size+5:=by rw [Heap.size_push,z4]
  dsimp only
  generalize h4.push { cls:=.type "zip",data:=.fields #[.none,.bool false,.bool false,.ref (s.heap.objs.size+2),.ref (s.heap.objs.size+3)] } = h5 at g5 k5 z5 ⊢
  rw [z4] at g5 ⊢
  refine wpAny_pure ⟨_,rfl,h h5 g5 (k5 _ _ (k4 _ _ g3)) (k5 _ _ g4) ⟨_,k5 _ _ (k4 _ _ (k3 _ _ (k2 _ _ g1))),rfl,rfl⟩ ⟨_,k5 _ _ (k4 _ _ (k3 _ _ g2)),rfl,rfl⟩ z5 fun c o e=>k5 _ _ (k4 _ _ (k3 _ _ (k2 _ _ (k1 _ _ e))))⟩
section
variable{prog:Program}{w:World}{A:Around}{E:Value->Shared->Prop}{s:Shared}
theorem HY{l1 l2:Addr}{xs ys:Array Value}{Q:Value->Shared->Prop}(hL:s.heap.IsTuple l1 xs)(hL2:s.heap.IsTuple l2 ys)
  (h:∀ h':Heap,IsZip h' (s.heap.objs.size+4) (s.heap.objs.size+2) (s.heap.objs.size+3) .none->IsPair h' (s.heap.objs.size+2) (.ref s.heap.objs.size) (.ref (s.heap.objs.size+1))->IsPair h' (s.heap.objs.size+3) .none .none ->
    h'.IsTupleIter s.heap.objs.size l1 0->h'.IsTupleIter (s.heap.objs.size+1) l2 0->h'.objs.size=s.heap.objs.size+5->(∀ c o,s.heap.get? c=some o->h'.get? c=some o)->Q (.ref (s.heap.objs.size+4)) { s with heap:=h' }) :
  wpAny (model prog w) A (call (.type "zip") [.ref l1,.ref l2]) Q E s:=by
 refine callType_new F.called_zip (by decide) (F.typeCall_zip_2 _ _) (F.newCall_zip_2 _ _) (fun obj=>F.args_object_init_3 obj _ _) F.entry_zip_new (Ir l1 l2 xs ys) ⟨hL,hL2,fun h' a b c d e f g=>?_⟩
 exact⟨⟨_,a,rfl⟩,h h' a b c d e f g⟩
end
end HT
namespace L2
open PySem PySem.Spec PyProof.Rows
section
noncomputable def Itz(K:PySem.W.Frag)(a b:Addr):It:=
 ⟨fun i H=>∃ xs ys x y,lI K H a xs/\lI K H b ys/\xs[i]?=some x/\ys[i]?=some y,
 fun i H x H'=>∃ p v u,x=.ref p/\H p=none/\H'=upd H p (.tup [v,u])/\(∀ xs,lI K H a xs->xs[i]?=some v)/\∀ ys,lI K H b ys->ys[i]?=some u,
 fun i H=>∃ xs ys,lI K H a xs/\lI K H b ys/\(xs.length<=i\/ys.length<=i)⟩
def TnZ(z TI TO i1 i2 a b:Addr)(i:Nat)(h:Heap):Prop:=IsZip h z TI TO .none/\IsPair h TI (.ref i1) (.ref i2)/\(∃ u v,IsPair h TO u v)/\h.IsTupleIter i1 a i/\h.IsTupleIter i2 b i
theorem BB{prog:Program}{w:World}{A:Around}(hh:A.handled=none)(it a:Addr)(items:Array Value)(i:Nat)(hx:items[i]?=none) :
  Draws prog w A it [it,a] i (fun _ _=>True) (fun j h=>j=i/\h.IsTupleIter it a i/\h.IsTuple a items):=
 {live:=fun _ _ q=>by obtain⟨_,⟨o,ho,_⟩,_⟩:=q;exact⟨o,ho⟩
  frame:=fun _ _ _ q hk=>by
   obtain⟨q0,⟨o,ho,r⟩,⟨o2,ho2,r2⟩⟩:=q
   exact⟨q0,⟨o,hk it (by simp) o ho,r⟩,⟨o2,hk a (by simp) o2 ho2,r2⟩⟩
  item:=fun j _ _ _ hj q _=>absurd q.1 (Nat.ne_of_lt hj)
  done:=fun s Q E q hE=>HT.qq hh q.2.1 q.2.2 hx hE }
theorem IB{P:Program}{w:World}{K:PySem.W.Frag}{es:List Expr}{k:Nat}{pos:Pos}(a b z TI TO i1 i2:Addr)(Z:HT.zh z TI TO i1 i2 [i1,a] [i2,b]):El P w K (.Tuple es k pos) (Itz K a b) [z,TI,TO,i1,i2] z (TnZ z TI TO i1 i2 a b) where
 mem:=by simp
 obj:=fun i h st c hc=>by
  obtain⟨hz,hTI,⟨u,v,hTO⟩,⟨o,ho,hc1,hd⟩,⟨o2,ho2,hc2,hd2⟩⟩:=st
  simp only [List.mem_cons,List.not_mem_nil,or_false] at hc
  rcases hc with rfl | rfl | rfl | rfl | rfl
  ·exact⟨_,hz,fun v z=>by cases z⟩
  ·exact⟨_,hTI,fun v z=>by cases z⟩
  ·exact⟨_,hTO,fun v z=>by cases z⟩
  ·exact⟨o,ho,fun v z=>by rw [hd] at z;cases z⟩
  ·exact⟨o2,ho2,fun v z=>by rw [hd2] at z;cases z⟩
 keep:=fun i h h' st kk=>by
  obtain⟨hz,hTI,⟨u,v,hTO⟩,⟨o,ho,r⟩,⟨o2,ho2,r2⟩⟩:=st
  exact⟨kk z (by simp) _ hz,kk TI (by simp) _ hTI,⟨u,v,kk TO (by simp) _ hTO⟩,⟨o,kk i1 (by simp) _ ho,r⟩,⟨o2,kk i2 (by simp) _ ho2,r2⟩⟩
 item:=by
  intro X hP hw hK hc i pins s σ H E I hf st hg
  subst hP hw hK
  obtain⟨xs,ys,x,y,hq,hq2,hx,hy⟩:=hg
  obtain⟨its,rv,p,hz0⟩:=I.tuple hq
  obtain⟨its2,rv2,p2,hz2⟩:=I.tuple hq2
  have hT:s.heap.IsTuple a its.toArray:=p
  have hT2:s.heap.IsTuple b its2.toArray:=p2
  have hh:=I.ok.hd hc
  obtain⟨hz,hTI,⟨u0,v0,hTO⟩,hit1,hit2⟩:=st
  have li:i<its.toArray.size:=by rw [List.size_toArray,<- rv.length];exact(List.getElem?_eq_some_iff.mp hx).1
  have li2:i<its2.toArray.size:=by rw [List.size_toArray,<- rv2.length];exact(List.getElem?_eq_some_iff.mp hy).1
  have nea:a≠i1:=fun e=>by
   obtain⟨o',ho',hc',_⟩:=hit1
   obtain⟨o,ho,hcl,_⟩:=hT
   rw [e,ho'] at ho;cases ho;rw [hc'] at hcl;exact absurd hcl (by decide)
  have neb:b≠i2:=fun e=>by
   obtain⟨o',ho',hc',_⟩:=hit2
   obtain⟨o,ho,hcl,_⟩:=hT2
   rw [e,ho'] at ho;cases ho;rw [hc'] at hcl;exact absurd hcl (by decide)
  have Tn:∀ c,c∈[z,TI,TO,i1,i2]->s.heap.objs.size≠c:=fun c hc=>by
   simp only [List.mem_cons,List.not_mem_nil,or_false] at hc
   rcases hc with rfl | rfl | rfl | rfl | rfl
   ·exact Nat.ne_of_gt (Heap.lt_size hz)
   ·exact Nat.ne_of_gt (Heap.lt_size hTI)
   ·exact Nat.ne_of_gt (Heap.lt_size hTO)
   ·obtain⟨o,ho,_⟩:=hit1;exact Nat.ne_of_gt (Heap.lt_size ho)
   ·obtain⟨o,ho,_⟩:=hit2;exact Nat.ne_of_gt (Heap.lt_size ho)
  refine HT.zN Z (HT.uk (prog:=X.prog) (w:=X.w) (A:=X.A.in1) hh i1 a nea its.toArray) (HT.uk (prog:=X.prog) (w:=X.w) (A:=X.A.in1) hh i2 b neb its2.toArray) hz hTI hTO ⟨hit1,hT⟩ ⟨hit2,hT2⟩ li li2 fun x' y' h1 tk hx' hy' ez eo st1 st2 hT1 hsz kk=>⟨_,rfl,?_⟩
  refine wpAny_letOwnedTupleGo_zip ez fun h2 ez2 sb=>?_
  generalize hTT:s.heap.objs.size=T at *
  obtain⟨u,hu,ru⟩:=rv.get hx
  obtain⟨u2,hu2,ru2⟩:=rv2.get hy
  have ex:x'=u:=by
   rw [show its.toArray[i]?=its[i]? by simp,hu] at hx'
   exact(Option.some.inj hx').symm
  have ey:y'=u2:=by
   rw [show its2.toArray[i]?=its2[i]? by simp,hu2] at hy'
   exact(Option.some.inj hy').symm
  subst ex ey
  have kall:∀ c o,c ∉ [z,TI,TO,i1,i2]->s.heap.get? c=some o->h2.get? c=some o:=fun c o hb q=>by
   simp only [List.mem_cons,List.not_mem_nil,or_false,not_or] at hb
   exact(sb.2 c hb.1).trans (kk c o hb.1 hb.2.2.1 hb.2.2.2.1 hb.2.2.2.2 q)
  have hTp:IsTupN h2 T #[x',y']:=⟨_,(sb.2 T (Tn z (by simp))).trans hT1,rfl,⟨_,rfl⟩,rfl⟩
  have hTs:s.heap.objs.size<=T:=Nat.le_of_eq hTT
  have TIi:TI≠i1/\TI≠i2:=⟨Z.t1,Z.t2⟩
  refine⟨.ref T,upd H T (.tup [x,y]),I.turnLaid kall hf hTs ⟨by show 2<=sizeLine;decide,[x',y'],.cons ru (.cons ru2 .nil),hTp⟩,rfl,⟨T,x,y,rfl,I.hok.fresh hTs,rfl,fun zs hz=>by rw [I.tuple_inj hz hq];exact hx,fun zs hz=>by rw [I.tuple_inj hz hq2];exact hy⟩,⟨ez2,(sb.2 TI Z.TIz).trans (kk TI _ Z.TIz Z.TITO Z.t1 Z.t2 hTI),⟨x',y',(sb.2 TO Z.TOz).trans eo⟩,?_,?_⟩,fun c hc=>?_⟩
  ·obtain⟨⟨o,ho,r⟩,_⟩:=st1
   exact⟨o,(sb.2 i1 (fun e=>Z.z1 (by simp [e]))).trans ho,r⟩
  ·obtain⟨⟨o,ho,r⟩,_⟩:=st2
   exact⟨o,(sb.2 i2 (fun e=>Z.z2 (by simp [e]))).trans ho,r⟩
  ·rw [bf (Tn c hc).symm]
   exact(hf c hc).1
 done:=by
  intro X hP hw hK hc i pins s σ H E I hf st hg
  subst hP hw hK
  obtain⟨xs,ys,hq,hq2,hl⟩:=hg
  obtain⟨its,rv,p,hz0⟩:=I.tuple hq
  obtain⟨its2,rv2,p2,hz2⟩:=I.tuple hq2
  have hT:s.heap.IsTuple a its.toArray:=p
  have hT2:s.heap.IsTuple b its2.toArray:=p2
  have hh:=I.ok.hd hc
  obtain⟨hz,hTI,⟨u0,v0,hTO⟩,hit1,hit2⟩:=st
  have fin:∀ h' tk,(∀ c o,c≠z->c≠TO->c≠i1->c≠i2->s.heap.get? c=some o->h'.get? c=some o)->(none:Option Value)=none/\Inv X pins σ H { s with heap:=h',toks:=tk }:=fun h' tk kk=>⟨rfl,I.turnedL (fp:=[z,TI,TO,i1,i2]) (fun c o hb q=>by
   simp only [List.mem_cons,List.not_mem_nil,or_false,not_or] at hb
   exact kk c o hb.1 hb.2.2.1 hb.2.2.2.1 hb.2.2.2.2 q) hf⟩
  by_cases h1:xs.length<=i
  ·exact HT.xz Z (BB (prog:=X.prog) (w:=X.w) (A:=X.A.in1) hh i1 a its.toArray i (by simp;have:=rv.length;omega)) hz hTI hTO ⟨rfl,hit1,hT⟩ fin
  ·have h2:ys.length<=i:=hl.resolve_left h1
   have nea:a≠i1:=fun e=>by
    obtain⟨o',ho',hc',_⟩:=hit1
    obtain⟨o,ho,hcl,_⟩:=hT
    rw [e,ho'] at ho;cases ho;rw [hc'] at hcl;exact absurd hcl (by decide)
   exact HT.xy Z (HT.uk (prog:=X.prog) (w:=X.w) (A:=X.A.in1) hh i1 a nea its.toArray) (BB (prog:=X.prog) (w:=X.w) (A:=X.A.in1) hh i2 b its2.toArray i (by simp;have:=rv2.length;omega)) hz hTI hTO ⟨hit1,hT⟩ (by simp;have:=rv.length;omega) ⟨rfl,hit2,hT2⟩ fin
 self:=fun A i s Q E st h=>wpAny_pyIter_zip st.1 h
def iZip(K:PySem.W.Frag)(t:TA):TI:=fun σ H R=>t σ H fun xs H1=>∃ a b,xs=[.ref a,.ref b]/\(∃ ys,lI K H1 a ys)/\(∃ ys,lI K H1 b ys)/\R (Itz K a b) H1
variable{X:Cx}
theorem Iq{n t t2:Nat}(h1:t<n)(h2:t2<n):HT.zh (n+4) (n+2) (n+3) n (n+1) [n,t] [n+1,t2]:=by
 constructor <;> simp only [List.mem_cons,List.not_mem_nil,or_false,not_or,ne_eq,true_or] <;> (try (show ¬ ((_:Nat)=_))) <;> (try omega)
 all_goals (refine⟨?_,?_⟩ <;> (show ¬ ((_:Nat)=_)) <;> omega)
theorem My{n b:Nat}(h:b∈[n+4,n+2,n+3,n,n+1]):n<=b:=by
 simp only [List.mem_cons,List.not_mem_nil,or_false] at h
 omega
theorem Rh{a b:Expr}{ta:TA}{es:List Expr}{k:Nat}{tp p pos:Pos}(hg:Gl X "zip")(hm:X.mg "zip" = none)(ha:PA X [a,b] ta)(hs:starEach [a,b] X.env=[(false,eval a X.env),(false,eval b X.env)])(hs2:starEach [b] X.env=[(false,eval b X.env)]) :
  PI X (.Tuple es k tp) (.Call (.Name "zip" p) [a,b] [] pos) (iZip X.K ta):=by
 intro pins s σ H R I h
 refine Call_ (lh I hg hm boot_zip (PyProof.Rows.callWith_type1 (dg (ha pos pins s σ H _ I h) fun us s1 ⟨vs,H1,I1,r1,q1⟩=>?_) (by rw [hs,hs2]) (by rw [hs2];rfl)))
 obtain⟨t,t2,rfl,⟨ys,hq⟩,⟨ys2,hq2⟩,q⟩:=q1
 obtain⟨u,v,rfl,ru,rv⟩:=r1.two
 cases ru
 cases rv
 obtain⟨its,rv,pt,hz⟩:=I1.tuple hq
 obtain⟨its2,rv2,pt2,hz2⟩:=I1.tuple hq2
 have l1:t<s1.heap.objs.size:=by obtain⟨o,ho,_⟩:=pt;exact Heap.lt_size ho
 have l2:t2<s1.heap.objs.size:=by obtain⟨o,ho,_⟩:=pt2;exact Heap.lt_size ho
 refine HT.HY pt pt2 fun h' hz hTI hTO hi1 hi2 hsz kk=>wpAny_pyIter_zip hz ?_
 have Z:HT.zh (s1.heap.objs.size+4) (s1.heap.objs.size+2) (s1.heap.objs.size+3) s1.heap.objs.size (s1.heap.objs.size+1) [s1.heap.objs.size,t] [s1.heap.objs.size+1,t2]:=Iq l1 l2
 refine⟨s1.heap.objs.size+4,[s1.heap.objs.size+4,s1.heap.objs.size+2,s1.heap.objs.size+3,s1.heap.objs.size,s1.heap.objs.size+1],_,_,H1,rfl,I1.kept (t':=s1.toks) kk,IB t t2 _ _ _ _ _ Z,⟨hz,hTI,⟨_,_,hTO⟩,hi1,hi2⟩,fun b hb=>?_,q⟩
 have hb':s1.heap.objs.size<=b:=My hb
 exact I1.fpOk hb' (I1.hok.fresh hb')
end
end L2
namespace M
open PySem PySem.Spec PyProof.Rows L2
section
variable{X:Cx}{K:PySem.W.Frag}{μ μ':Fp}{H H':Hp}{S:ac}
noncomputable def jK:List D->List D->List D
 | x::r,y::q=>.tup [x,y]::jK r q
 | _,_=>[]
theorem zn:∀ (xs ys:List D) (i:Nat),(jK xs ys).length<=i->xs.length<=i\/ys.length<=i
 | [],_,i,_=>.inl (Nat.zero_le _)
 | _::_,[],i,_=>.inr (Nat.zero_le _)
 | x::r,y::q,0,h=>by simp [jK] at h
 | x::r,y::q,i+1,h=>by
  rw [jK,List.length_cons] at h
  rcases zn r q i (by omega) with h | h
  ·exact .inl (by rw [List.length_cons];omega)
  ·exact .inr (by rw [List.length_cons];omega)
theorem zo:∀ (xs ys:List D) (i:Nat) (d:D),(jK xs ys)[i]?=some d->∃ x y,xs[i]?=some x/\ys[i]?=some y/\d=.tup [x,y]
 | [],_,i,d,h=>by simp [jK] at h
 | _::_,[],i,d,h=>by simp [jK] at h
 | x::r,y::q,0,d,h=>by simp [jK] at h;exact⟨x,y,rfl,rfl,h.symm⟩
 | x::r,y::q,i+1,d,h=>by
  rw [jK,List.getElem?_cons_succ] at h
  simpa using zo r q i d h
theorem KC{a b:Addr}{xs ys:List D}(r:Rep K μ H (.ref a) (.tup xs))(q:Rep K μ H (.ref b) (.tup ys)):Ep K μ H (Itz K a b) (jK xs ys):=fun μ' H' S' e s i=>by
 have r':=r.monoP e
 have q':=q.monoP e
 obtain⟨b1,vs,hb,hq,rs⟩:=r'.sqT
 cases hb
 obtain⟨b2,ws,hb,hq2,qs⟩:=q'.sqT
 cases hb
 refine⟨fun d hd=>?_,fun hl=>⟨vs,ws,hq,hq2,by rw [rs.length,qs.length];exact zn _ _ _ hl⟩⟩
 obtain⟨x,y,hx,hy,rfl⟩:=zo xs ys i d hd
 obtain⟨v,hv,rv⟩:=rs.get hx
 obtain⟨u,hu,ru⟩:=qs.get hy
 refine⟨⟨vs,ws,v,u,hq,hq2,hv,hu⟩,fun y H2 hy=>?_⟩
 obtain⟨p,v',u',rfl,hp,rfl,hw,hw2⟩:=hy
 have ev:v'=v:=by have:=hw vs hq;rw [hv] at this;exact(Option.some.inj this).symm
 have eu:u'=u:=by have:=hw2 ws hq2;rw [hu] at this;exact(Option.some.inj this).symm
 subst ev eu
 obtain⟨e2,s2⟩:=s.laid (o:=.tup [v',u']) hp
 refine⟨e2,s2,?_⟩
 exact .tup bq (s.notMem hp) (.cons (rv.mono e2) (.cons (ru.mono e2) .nil))
noncomputable def nB(ms:MA):MA:=fun env S=>(ms env S).bind fun p=>match p.1 with | [.tup xs,.tup ys]=>some (jK xs ys,p.2) | _=>none
theorem Ts{a b:Expr}{ms:MA}{es:List Expr}{k:Nat}{tp p pos:Pos}(hm:X.mg "zip" = none)(ha:DA X [a,b] ms)(hg:Gl X "zip")(hs:starEach [a,b] X.env=[(false,eval a X.env),(false,eval b X.env)])(hs2:starEach [b] X.env=[(false,eval b X.env)]) :
  DI X (.Tuple es k tp) (.Call (.Name "zip" p) [a,b] [] pos) (nB ms):=PI.imp (Rh hg hm ha hs hs2) fun σ H R ⟨μ,S,env,xs,S',hS,hE,h,post⟩=>by
 obtain⟨⟨ds,S1⟩,h1,h⟩:=Option.bind_eq_some_iff.mp h
 refine⟨μ,S,env,ds,S1,hS,hE,h1,fun vs H1 μ1 e1 s1 r1=>?_⟩
 dsimp only at h
 split at h
 ·rename_i xs ys
  cases h
  obtain⟨v,u,rfl,rv,ru⟩:=r1.two
  have rv':=rv
  have ru':=ru
  obtain⟨b,ws,rfl,hq,rs⟩:=rv.sqT
  obtain⟨b2,ws2,rfl,hq2,rs2⟩:=ru.sqT
  exact⟨b,b2,rfl,⟨ws,hq⟩,⟨ws2,hq2⟩,post _ H1 μ1 e1 s1 (KC rv' ru')⟩
 ·cases h
end
end M
namespace M
open PySem PySem.Spec PyProof.Rows L2
section
variable{X:Cx}{K:PySem.W.Frag}{μ μ':Fp}{H H':Hp}{S S':ac}
noncomputable def fB:D->Option bC
 | .int i=>some (.inl i)
 | .str x=>some (.inr x)
 | _=>none
theorem mU{v:V}{d:D}{k:bC}(h:fB d=some k)(r:Rep K μ H v d):v=kV k:=by
 cases d <;> first | cases h | skip
 ·rw [r.int_inv];rfl
 ·rw [r.str_inv];rfl
noncomputable def iY(kvs:List (bC×D))(k:bC):Option D:=match kvs with
 | []=>none
 | p::r=>if p.1=k then some p.2 else iY r k
def Hj(kvs:List (bC×D))(k:bC):Bool:=match kvs with
 | []=>false
 | p::r=>if p.1=k then true else Hj r k
noncomputable def MR(kvs:List (bC×D))(k:bC)(d:D):List (bC×D):=match kvs with
 | []=>[]
 | p::r=>(if p.1=k then (p.1,d) else p)::MR r k d
noncomputable def Jj(kvs:List (bC×D))(k:bC)(d:D):List (bC×D):=if Hj kvs k then MR kvs k d else kvs++[(k,d)]
noncomputable def cK(kvs:List (bC×D)):List (bC×D)->List (bC×D)
 | []=>kvs
 | p::r=>cK (Jj kvs p.1 p.2) r
inductive KR(K:PySem.W.Frag)(μ:Fp)(H:Hp):List (bC×V)->List (bC×D)->Prop
 | nil:KR K μ H [] []
 | cons {k:bC} {v:V} {d:D} {vs:List (bC×V)} {ds:List (bC×D)} (h:Rep K μ H v d) (t:KR K μ H vs ds):KR K μ H ((k,v)::vs) ((k,d)::ds)
theorem KR.keys:∀ {vs ds},KR K μ H vs ds->vs.map (·.1)=ds.map (·.1)
 | _,_,.nil=>rfl
 | _,_,.cons _ t=>by rw [List.map_cons,List.map_cons,KR.keys t]
theorem KR.reps:∀ {vs ds},KR K μ H vs ds->Reps K μ H (vs.map (·.2)) (ds.map (·.2))
 | _,_,.nil=>.nil
 | _,_,.cons h t=>.cons h (KR.reps t)
theorem KR.length:∀ {vs ds},KR K μ H vs ds->vs.length=ds.length
 | _,_,.nil=>rfl
 | _,_,.cons _ t=>by rw [List.length_cons,List.length_cons,KR.length t]
theorem KR.less{p:Addr}{cs fb:List Addr}:∀ {vs ds},KR K ⟨cs,p::fb⟩ H vs ds->KR K ⟨cs,fb⟩ H vs ds
 | _,_,.nil=>.nil
 | _,_,.cons h t=>.cons h.less (KR.less t)
theorem KR.chg{p:Addr}{o:HO}(hp:p ∈ μ.fb):∀ {vs ds},KR K μ H vs ds->KR K μ (upd H p o) vs ds
 | _,_,.nil=>.nil
 | _,_,.cons h t=>.cons (h.chg hp) (KR.chg hp t)
theorem KR.of:∀ {kvs:List (bC×V)} {ks:List bC} {ds:List D},ks=kvs.map (·.1)->Reps K μ H (kvs.map (·.2)) ds->KR K μ H kvs (ks.zip ds)
 | [],_,_,e,r=>by subst e;cases r;exact .nil
 | p::q,_,_,e,r=>by
  subst e
  rw [List.map_cons] at r
  cases r with | cons h t=>exact .cons h (KR.of rfl t)
theorem KR.val{k:bC}:∀ {vs ds},KR K μ H vs ds->∀ {d},iY ds k=some d->∃ v,rY vs k=some v/\Rep K μ H v d
 | _,_,.nil,d,h=>by cases h
 | _,_,.cons (k:=k') h t,d,q=>by
  unfold iY at q
  split at q
  ·rename_i e;cases q;exact⟨_,rW e,h⟩
  ·rename_i e
   obtain⟨v,h1,h2⟩:=KR.val t q
   exact⟨v,(rX e).trans h1,h2⟩
theorem KR.has{k:bC}:∀ {vs ds},KR K μ H vs ds->(vs.any fun kv=>decide (kv.1=k))=Hj ds k
 | _,_,.nil=>rfl
 | _,_,.cons (k:=k') h t=>by
  rw [List.any_cons,KR.has t]
  unfold Hj
  by_cases e:k'=k
  ·simp [e]
  ·simp only [decide_eq_false e,Bool.false_or,if_neg e];cases t <;> rfl
theorem KR.setv{k:bC}{x:V}{d:D}(r:Rep K μ H x d):∀ {vs ds},KR K μ H vs ds->KR K μ H (vs.map fun kv=>if kv.1=k then (kv.1,x) else kv) (MR ds k d)
 | _,_,.nil=>.nil
 | _,_,.cons (k:=k') h t=>by
  rw [List.map_cons]
  unfold MR
  by_cases e:k'=k
  ·simp only [if_pos e];exact .cons r (KR.setv r t)
  ·simp only [if_neg e];exact .cons h (KR.setv r t)
theorem KR.snoc{k:bC}{x:V}{d:D}(r:Rep K μ H x d):∀ {vs ds},KR K μ H vs ds->KR K μ H (vs++[(k,x)]) (ds++[(k,d)])
 | _,_,.nil=>.cons r .nil
 | _,_,.cons h t=>.cons h (KR.snoc r t)
theorem KR.put{k:bC}{x:V}{d:D}{vs ds}(r:Rep K μ H x d)(t:KR K μ H vs ds):KR K μ H (uN vs k x) (Jj ds k d):=by
 unfold uN Jj
 rw [t.has]
 split
 ·exact t.setv r
 ·exact t.snoc r
theorem KR.merge:∀ {ws es vs ds},KR K μ H ws es->KR K μ H vs ds->KR K μ H (jc vs ws) (cK ds es)
 | _,_,_,_,.nil,t=>t
 | _,_,vs,ds,.cons (k:=k) (v:=v) (d:=d) h q,t=>by
  have:=KR.merge q (t.put (k:=k) h)
  exact this
abbrev MP:=bh->ac->Option (List (bC×D)×ac)
noncomputable def jM:List (ME×ME)->MP
 | []=>fun _ S=>some ([],S)
 | (a,b)::r=>fun env S=>(a env S).bind fun p=>(fB p.1).bind fun k=>(b env p.2).bind fun q=>(jM r env q.2).bind fun z=>some ((k,q.1)::z.1,z.2)
def DPs(X:Cx)(pos:Pos)(keys:List (Option Expr))(values:List Expr)(ms:List (ME×ME)):Prop:=PPs X pos keys values (ms.map fun p=>(tM X.K p.1,tM X.K p.2))
theorem OQ{pos:Pos}:DPs X pos [] [] []:=No
theorem LM{pos:Pos}{k v:Expr}{ks:List (Option Expr)}{vs:List Expr}{mk mv:ME}{ms:List (ME×ME)}(hk:DE X k mk)(hv:DE X v mv)(hr:DPs X pos ks vs ms):DPs X pos (some k::ks) (v::vs) ((mk,mv)::ms):=Js hk hv hr
theorem pN{σ:L2.St}{env:bh}:∀ {ms:List (ME×ME)} {μ:Fp} {H:Hp} {S S':ac} {kvs:List (bC×D)} {Q:List (V×V)->Hp->Prop},SOk K μ S H->EOk K μ H σ env->jM ms env S=some (kvs,S') ->
  (∀ vs H' μ',Ext μ H μ' H'->SOk K μ' S' H'->KR K μ' H' vs kvs->Q (vs.map fun kv=>(kV kv.1,kv.2)) H')->wW (ms.map fun p=>(tM K p.1,tM K p.2)) σ H Q
 | [],μ,H,S,S',kvs,Q,s,e,h,q=>by cases h;exact q [] H μ s.ext s .nil
 | (a,b)::r,μ,H,S,S',kvs,Q,s,e,h,q=>by
  obtain⟨⟨x,S1⟩,h1,h⟩:=Option.bind_eq_some_iff.mp h
  obtain⟨k,h2,h⟩:=Option.bind_eq_some_iff.mp h
  obtain⟨⟨y,S2⟩,h3,h⟩:=Option.bind_eq_some_iff.mp h
  obtain⟨⟨zs,S3⟩,h4,h⟩:=Option.bind_eq_some_iff.mp h
  cases h
  refine⟨μ,S,env,x,S1,s,e,h1,fun v H1 μ1 e1 s1 r1=>⟨μ1,S1,env,y,S2,s1,e.mono e1,h3,fun w H2 μ2 e2 s2 r2=>pN s2 ((e.mono e1).mono e2) h4 fun vs H3 μ3 e3 s3 r3=>?_⟩⟩
  have:=q ((k,w)::vs) H3 μ3 ((e1.trans e2).trans e3) s3 (.cons (r2.mono e3) r3)
  rw [List.map_cons] at this
  rw [mU h2 r1]
  exact this
theorem Ext.shut{p:Addr}{o o':HO}{cs fb:List Addr}{μ2:Fp}{H2:Hp}{S2:ac}(hp:H p=none)(hn:p ∉ fb)(e:Ext ⟨cs,p::fb⟩ (upd H p o) μ2 H2)(s:SOk K μ2 S2 H2) :
  Ext ⟨cs,fb⟩ H ⟨μ2.cs,fb⟩ (upd H2 p o')/\SOk K ⟨μ2.cs,fb⟩ S2 (upd H2 p o')/\(⟨μ2.cs,fb⟩:Fp).no p/\(∀ vs ds,KR K μ2 H2 vs ds->KR K ⟨μ2.cs,fb⟩ (upd H2 p o') vs ds)/\H2 p=some o:=by
 have pm:p ∈ μ2.fb:=by rw [e.fb];exact List.mem_cons_self
 have ncs:p ∉ μ2.cs:=s.disj p pm
 have ncs0:p ∉ cs:=fun z=>ncs (by obtain⟨l,q,_⟩:=e.pre;rw [q];exact List.mem_append_left _ z)
 have ef:μ2=⟨μ2.cs,p::fb⟩:=by have:=e.fb;obtain⟨a,b⟩:=μ2;simp only at this;rw [this]
 refine⟨⟨rfl,?_,fun a o2 na ha=>?_,fun a ha=>?_⟩,?_,⟨ncs,?_⟩,fun vs ds r=>?_,e.keep p o ncs0 bq⟩
 ·obtain⟨l,q,hl⟩:=e.pre
  refine⟨l,q,fun a ha=>?_⟩
  have:=hl a ha
  by_cases z:a=p
  ·subst z;exact hp
  ·rwa [bf z] at this
 ·have z:=cj ha hp
  rw [bf z]
  exact e.keep a o2 na ((bf z).trans ha)
 ·have z:a≠p:=fun z=>ncs (z ▸ ha)
  rw [bf z];exact e.dom a ha
 ·have:=(s.chg (o:=o') pm)
  rw [ef] at this
  exact this.less
 ·exact hn
 ·have:=r.chg (o:=o') pm
  rw [ef] at this
  exact this.less
noncomputable def hX(ms:List (ME×ME)):ME:=fun env S=>(jM ms env S).bind fun z=>if z.1.length<=15 then some (.dct ((cK [] z.1).map (·.1)) ((cK [] z.1).map (·.2)),z.2) else none
theorem OZ{pos:Pos}{keys:List (Option Expr)}{values:List Expr}{ms:List (ME×ME)}(h:DPs X pos keys values ms)(hall:keys.all (·.isSome)=true)(hl:keys.length=values.length)(h0:keys≠[])(h15:keys.length<=15) :
  DE X (.Dict keys values pos) (hX ms):=PE.imp (EA h hall hl h0 h15) fun σ H Q ⟨μ,S,env,d,S',hS,hE,hm,post⟩=>by
 obtain⟨⟨kvs,S1⟩,h1,hm⟩:=Option.bind_eq_some_iff.mp hm
 dsimp only at hm
 split at hm
 ·rename_i hl
  cases hm
  intro p hp
  obtain⟨cs,fb⟩:=μ
  refine pN (hS.more hp) (hE.more hp) h1 fun vs H2 μ2 e2 s2 r2=>?_
  obtain⟨eF,sF,nF,rF,hF⟩:=Ext.shut (o':=.dK (jc [] vs)) hp (hS.notMem hp).2 e2 s2
  refine⟨hF,vs,rfl,by rw [r2.length];exact hl,post _ _ _ eF sF ?_⟩
  have rr:=(rF _ _ r2).merge KR.nil
  have:=Rep.dct (K:=X.K) (bq (H:=H2) (o:=.dK (jc [] vs))) nF rr.reps
  rw [rr.keys] at this
  exact this
 ·cases hm
noncomputable def zu(S:ac):D->Option (List (bC×D))
 | .dct ks vs=>some (ks.zip vs)
 | .ref r=>match S[r]? with | some (.dct ks vs)=>some (ks.zip vs) | _=>none
 | _=>none
theorem MH{v:V}{d:D}{kvs:List (bC×D)}(s:SOk K μ S H)(r:Rep K μ H v d)(h:zu S d=some kvs):∃ a vs,v=.ref a/\H a=some (.dK vs)/\KR K μ H vs kvs:=by
 cases r with
 | dct hd n rr=>cases h;exact⟨_,_,rfl,hd,KR.of rfl rr⟩
 | ref hr=>
  rename_i a i
  unfold zu at h
  dsimp only at h
  cases q:S[i]? with
  | none=>rw [q] at h;cases h
  | some c=>
   rw [q] at h
   have ck:=s.cell _ _ _ hr q
   cases c with
   | lst _=>cases h
   | dct ks xs=>cases h;obtain⟨vs,e,hk,rr⟩:=ck;exact⟨a,vs,rfl,e,KR.of hk rr⟩
 | _=>cases h
noncomputable def ar(S:ac)(x y:D):Option D:=match zu S x with
 | some kvs=>(fB y).bind fun k=>iY kvs k
 | none=>fIx S x y
theorem Oh(hu:X.A.units+1<cLine):IxR X (fun x y H Q=>∃ a v,x=.ref a/\DGet H a y (some v)/\Q v H):=by
 intro value slice pins s σ H x y v u Q I rx ry h hs
 obtain⟨a,z,rfl,g,q⟩:=h
 cases rx
 exact tail_any (BE I g) F.slot_dict_getitem.lookup (HP hu I g ry fun w' s' I' rw'=>⟨z,H,I',rw',q⟩) hs
theorem ix_DX(hu:X.A.units+1<cLine):IxR X (nz X.K ar):=IxR.imp ((Oh hu).or ix_D) fun x y H Q ⟨μ,S,dx,dy,dz,hS,h1,h2,h3,post⟩=>by
 unfold ar at h3
 split at h3
 ·rename_i kvs hk
  obtain⟨k,h4,h5⟩:=Option.bind_eq_some_iff.mp h3
  obtain⟨a,vs,rfl,ha,rr⟩:=MH hS h1 hk
  obtain⟨v,h6,h7⟩:=rr.val h5
  refine .inl ⟨a,v,rfl,?_,post.here hS h7⟩
  rw [mU h4 h2,<- h6]
  exact DGet.k ha
 ·exact .inr ⟨μ,S,dx,dy,dz,hS,h1,h2,h3,post⟩
theorem TJ{a b:Expr}{ma mb:ME}{pos:Pos}(hu:X.A.units+1<cLine)(ha:DE X a ma)(hb:DE X b mb)(hs:nw b:=by intro _ _;rfl):DE X (.Subscript a b pos) (aq ar ma mb):=
 PE.imp (Jy (ix_DX hu) ha hb hs) fun _ _ _ h=>wX h
end
end M
namespace L2
open PySem PySem.Spec PyProof.Rows
section
variable{X:Cx}{o e:Expr}{es:List Expr}{to:TE}{t:TA}{name:Str}{apos cpos:Pos}{id:String}{r:V->List V->Hp->VK->Prop}
def tBD(r:V->List V->Hp->VK->Prop)(to:TE)(t:TA):TE:=fun σ H Q=>to σ H fun x H1=>(∃ p,x=.ref p/\IsD H1 p)/\t σ H1 fun xs H2=>r x xs H2 Q
theorem Rx(slot:Slot "dict" name id)(hty:typeOf (.builtin id)=pure (.type "method_descriptor"))(hm:MtR X id r)(ho:PE X o to)(ha:PA X (e::es) t)
  (hbase:attributeBase o name X.env (eval o X.env)=eval o X.env)
  (hfew:((backTo cpos (starEach (e::es) X.env)).all (fun x=>!x.1)&&(backToKw cpos (keywordEach [] X.env)).all (fun x=>x.1.isSome)&&decide ((e::es).length+([]:List Keyword).length+(if ([]:List Keyword).isEmpty then 0 else 1)<30))=true)
  (hline:(apos.endLine == cpos.line)=true) (hs:starEach (e::es) X.env=(false,eval e X.env)::starEach es X.env) (hplain:(backTo cpos (starEach es X.env)).any (·.1)=false) :
  PE X (.Call (.Attribute o name apos) (e::es) [] cpos) (tBD r to t):=by
 intro pins s σ H Q I h
 refine wpAny_Call_method_late hbase hfew hline rfl (dg (ho pins s σ H _ I h) fun v s1 ⟨x,H1,I1,r1,ty,q1⟩=>?_)
 obtain⟨p,rfl,hq⟩:=ty
 cases r1
 obtain⟨t1,t2,_⟩:=SG I1 hq
 refine⟨"dict",id,F.plainAttrs_dict,slot,hty,t1,t2,?_⟩
 have hA:=ha cpos pins s1 σ H1 _ I1 q1
 rw [hs] at hA ⊢
 refine Calls.callWith_builtin (by show (false||(backTo cpos (starEach es X.env)).any (·.1))=false;rw [hplain] <;> rfl) (Calls.evalArgs_plain ?_)
 exact dg hA fun us s2 ⟨vs,H2,I2,r2,q2⟩=>hm pins s2 σ H2 (V.ref p) vs _ us Q I2 (show RelV (V.ref p) (Value.ref p) from rfl) r2 q2
theorem CK:MtR X "dict.update" (fun x xs H Q=>∃ a b kvs more,x=.ref a/\xs=[.ref b]/\a≠b/\H a=some (.dK kvs)/\H b=some (.dK more)/\kvs.length+more.length<=sizeLine/\Q .non (upd H a (.dK (jc kvs more)))):=by
 intro pins s σ H x xs v us Q I rx rv h
 obtain⟨a,b,kvs,more,rfl,rfl,ne,ha,hb,hl,q⟩:=h
 cases rx
 obtain⟨u,rfl,ru⟩:=rv.one
 cases ru
 obtain⟨z,hd,vs,r0,dd⟩:=LQ I.hok ha
 obtain⟨z2,hd2,vs2,r2,dd2⟩:=LQ I.hok hb
 have l1:=r0.length
 have l2:=r2.length
 refine call_meetsIn F.slot_dict_update dd.typeIs F.entry_dict_update (F.args_dict_update_2 _ _) (meets_dict_update (ca X.prog X.w) a b ne hd2) ⟨vs,vs2,dd,dd2,by omega,fun h' dd' _ hs=>?_⟩
 have hz:(jc kvs more).length<=sizeLine:=by
  have h1:=jQ more kvs
  omega
 have he:∃ q,h'.get? a=some q:=let ⟨q,_,_,hq,_⟩:=dd';⟨q,hq⟩
 exact⟨.non,_,FD I (by rw [ha];exact True.intro) hs he (LR hz hd (r2.merge r0) dd'),rfl,q⟩
end
end L2
namespace M
open PySem PySem.Spec PyProof.Rows L2
section
variable{X:Cx}{K:PySem.W.Frag}{μ μ':Fp}{H H':Hp}{S S':ac}
theorem SOk.writeD{S:ac}(s:SOk K μ S H){i:Nat}{a:Addr}{kvs kvs':List (bC×V)}{ks:List bC}{ds:List D}(hi:μ.cs[i]?=some a)(h:H a=some (.dK kvs))(hk:ks=kvs'.map (·.1))(r:Reps K μ H (kvs'.map (·.2)) ds) :
  Ext μ H μ (upd H a (.dK kvs'))/\SOk K μ (S.set i (.dct ks ds)) (upd H a (.dK kvs')):=by
 have ha:=List.mem_of_getElem? hi
 have e:Ext μ H μ (upd H a (.dK kvs')):=⟨rfl,⟨[],by simp,fun _ z=>by simp at z⟩,fun b o' n q=>by rw [bf (by rintro rfl;exact n ha)];exact q,fun b hb=>by
  by_cases z:b=a
  ·subst z;rw [bq];simp
  ·rw [bf z];exact s.dom b hb⟩
 refine⟨e,s.nd,by simp [s.len],fun j b c h1 h2=>?_,fun b hb=>?_,s.disj⟩
 case refine_2=>
  by_cases z:b=a
  ·subst z;rw [bq];simp
  ·rw [bf z];exact s.fdom b hb
 by_cases hj:j=i
 ·subst hj
  rw [hi] at h1;cases h1
  have hl:j<S.length:=by rw [<- s.len];exact(List.getElem?_eq_some_iff.mp hi).1
  rw [List.getElem?_set_self hl] at h2
  cases h2
  exact⟨kvs',bq,hk,r.mono e⟩
 ·rw [List.getElem?_set_ne (Ne.symm hj)] at h2
  refine(s.cell j b c h1 h2).mono e (bf fun z=>hj ?_)
  subst z
  exact EH s.nd h1 hi
theorem Ag{p a:Addr}{cs fb:List Addr}(n:(⟨cs,p::fb⟩:Fp).no a):(⟨cs++[p],fb⟩:Fp).no a:=
 ⟨fun z=>(List.mem_append.mp z).elim n.1 fun z=>n.2 (by rw [List.mem_singleton.mp z];exact List.mem_cons_self),fun z=>n.2 (List.mem_cons_of_mem _ z)⟩
theorem Rep.adopt{p:Addr}{cs fb:List Addr}{v:V}{d:D}(r:Rep K ⟨cs,p::fb⟩ H v d):Rep K ⟨cs++[p],fb⟩ H v d:=r.imp (fun h n=>⟨h,Ag n⟩) fun h=>ze rfl h
theorem Reps.adopt{p:Addr}{cs fb:List Addr}{v:List V}{d:List D}(r:Reps K ⟨cs,p::fb⟩ H v d):Reps K ⟨cs++[p],fb⟩ H v d:=r.imp (fun h n=>⟨h,Ag n⟩) fun h=>ze rfl h
theorem KR.adopt{p:Addr}{cs fb:List Addr}:∀ {vs ds},KR K ⟨cs,p::fb⟩ H vs ds->KR K ⟨cs++[p],fb⟩ H vs ds
 | _,_,.nil=>.nil
 | _,_,.cons h t=>.cons h.adopt (KR.adopt t)
theorem Ext.shutR{p:Addr}{o:HO}{cs fb:List Addr}{μ2:Fp}{H2:Hp}{S2:ac}{vs:List (bC×V)}{kvs:List (bC×D)}(hp:H p=none)(hn:p ∉ fb)(e:Ext ⟨cs,p::fb⟩ (upd H p o) μ2 H2)(s:SOk K μ2 S2 H2)(r:KR K μ2 H2 vs kvs) :
  Ext ⟨cs,fb⟩ H ⟨μ2.cs++[p],fb⟩ (upd H2 p (.dK vs))/\SOk K ⟨μ2.cs++[p],fb⟩ (S2++[.dct (kvs.map (·.1)) (kvs.map (·.2))]) (upd H2 p (.dK vs))/\H2 p=some o:=by
 have pm:p ∈ μ2.fb:=by rw [e.fb];exact List.mem_cons_self
 have ncs:p ∉ μ2.cs:=s.disj p pm
 have ncs0:p ∉ cs:=fun z=>ncs (by obtain⟨l,q,_⟩:=e.pre;rw [q];exact List.mem_append_left _ z)
 have ef:μ2.fb=p::fb:=e.fb
 obtain⟨cs2,fb2⟩:=μ2
 simp only at ef pm ncs
 subst ef
 refine⟨⟨rfl,?_,fun a o2 na ha=>?_,fun a ha=>?_⟩,⟨?_,by simp [s.len],fun i a c h1 h2=>?_,fun a ha=>?_,fun a ha z=>?_⟩,e.keep p o ncs0 bq⟩
 ·obtain⟨l,q,hl⟩:=e.pre
  simp only at q
  refine⟨l++[p],by rw [q,List.append_assoc],fun a ha=>?_⟩
  rcases List.mem_append.mp ha with ha | ha
  ·have:=hl a ha
   by_cases z:a=p
   ·subst z;exact hp
   ·rwa [bf z] at this
  ·rw [List.mem_singleton.mp ha];exact hp
 ·have z:=cj ha hp
  rw [bf z]
  exact e.keep a o2 na ((bf z).trans ha)
 ·by_cases z:a=p
  ·subst z;rw [bq];simp
  ·rw [bf z]
   rcases List.mem_append.mp ha with ha | ha
   ·exact e.dom a ha
   ·exact absurd (List.mem_singleton.mp ha) z
 ·exact List.nodup_append.mpr ⟨s.nd,by simp,fun a ha b hb=>by rw [List.mem_singleton.mp hb];exact fun z=>ncs (z ▸ ha)⟩
 ·have sc:=s.chg (o:=.dK vs) pm
  by_cases hi:i<cs2.length
  ·rw [List.getElem?_append_left hi] at h1
   rw [List.getElem?_append_left (by rw [<- s.len];exact hi)] at h2
   have ck:=sc.cell i a c h1 h2
   cases c with
   | lst ds=>obtain⟨ws,h,r⟩:=ck;exact⟨ws,h,r.adopt⟩
   | dct ks ds=>obtain⟨ws,h,q,r⟩:=ck;exact⟨ws,h,q,r.adopt⟩
  ·have hi':i=cs2.length:=by
    have:=(List.getElem?_eq_some_iff.mp h1).1
    simp at this;omega
   subst hi'
   rw [List.getElem?_append_right (Nat.le_refl _)] at h1
   rw [show cs2.length=S2.length from s.len,List.getElem?_append_right (Nat.le_refl _)] at h2
   simp at h1 h2
   subst h1 h2
   have rc:=(r.chg (o:=.dK vs) pm).adopt
   exact⟨vs,bq,rc.keys.symm,rc.reps⟩
 ·by_cases z:a=p
  ·subst z;rw [bq];simp
  ·rw [bf z];exact s.fdom a (List.mem_cons_of_mem _ ha)
 ·rcases List.mem_append.mp z with z | z
  ·exact s.disj a (List.mem_cons_of_mem _ ha) z
  ·exact hn (List.mem_singleton.mp z ▸ ha)
noncomputable def fq(ms:List (ME×ME)):ME:=fun env S=>(jM ms env S).bind fun z=>if z.1.length<=15 then some (.ref z.2.length,z.2++[.dct ((cK [] z.1).map (·.1)) ((cK [] z.1).map (·.2))]) else none
theorem Ma{pos:Pos}{keys:List (Option Expr)}{values:List Expr}{ms:List (ME×ME)}(h:DPs X pos keys values ms)(hall:keys.all (·.isSome)=true)(hl:keys.length=values.length)(h0:keys≠[])(h15:keys.length<=15) :
  DE X (.Dict keys values pos) (fq ms):=PE.imp (EA h hall hl h0 h15) fun σ H Q ⟨μ,S,env,d,S',hS,hE,hm,post⟩=>by
 obtain⟨⟨kvs,S1⟩,h1,hm⟩:=Option.bind_eq_some_iff.mp hm
 dsimp only at hm
 split at hm
 ·rename_i hl
  cases hm
  intro p hp
  obtain⟨cs,fb⟩:=μ
  refine pN (hS.more hp) (hE.more hp) h1 fun vs H2 μ2 e2 s2 r2=>?_
  obtain⟨eF,sF,hF⟩:=Ext.shutR hp (hS.notMem hp).2 e2 s2 (r2.merge KR.nil)
  exact⟨hF,vs,rfl,by rw [r2.length];exact hl,post _ _ _ eF sF (.ref (by rw [<- s2.len];simp))⟩
 ·cases hm
noncomputable def Me(S:ac):D->Bool
 | .dct _ _=>true
 | .ref r=>match S[r]? with | some (.dct _ _)=>true | _=>false
 | _=>false
theorem Pd{v:V}{d:D}(s:SOk K μ S H)(r:Rep K μ H v d)(h:Me S d=true):∃ a,v=.ref a/\IsD H a:=by
 cases r with
 | dct hd n rr=>exact⟨_,rfl,.inl ⟨_,.inl hd⟩⟩
 | ref hr=>
  rename_i a i
  unfold Me at h
  dsimp only at h
  cases q:S[i]? with
  | none=>rw [q] at h;cases h
  | some c=>
   rw [q] at h
   have ck:=s.cell _ _ _ hr q
   cases c with
   | lst _=>cases h
   | dct ks xs=>obtain⟨vs,e,hk,rr⟩:=ck;exact⟨a,rfl,.inl ⟨_,.inl e⟩⟩
 | _=>cases h
noncomputable def fGetD:MF:=fun o ds S=>(zu S o).bind fun kvs=>match ds with
 | [y]=>(fB y).bind fun k=>some ((iY kvs k).getD .non,S)
 | [y,d]=>(fB y).bind fun k=>some ((iY kvs k).getD d,S)
 | _=>none
noncomputable def uf:MF:=fun o ds S=>match o,ds with
 | .ref r,[.dct ks2 vs2]=>match S[r]? with
  | some (.dct ks vs)=>if ks.length+ks2.length<=sizeLine then some (.non,S.set r (.dct ((cK (ks.zip vs) (ks2.zip vs2)).map (·.1)) ((cK (ks.zip vs) (ks2.zip vs2)).map (·.2)))) else none
  | _=>none
 | _,_=>none
theorem NR:MtR X "dict.update" (Na X.K uf):=MtR.imp CK fun x vs H Q ⟨μ,S,dx,ds,d,S',hS,r1,r2,h,post⟩=>by
 unfold uf at h
 split at h
 ·rename_i r ks2 vs2
  cases q:S[r]? with
  | none=>rw [q] at h;cases h
  | some c=>
   rw [q] at h
   cases c with
   | lst _=>cases h
   | dct ks xs=>
    dsimp only at h
    split at h
    ·rename_i hz
     cases h
     obtain⟨v,rfl,rv⟩:=r2.one
     cases r1 with
     | @ref a _ h'=>
      obtain⟨kvs,hw,hk,rw'⟩:=hS.cell r a _ h' q
      cases rv with
      | @dct b more _ hb nb rb=>
       have k1:=KR.of hk rw'
       have k2:=KR.of rfl rb
       have kk:=k2.merge k1
       obtain⟨e,s'⟩:=hS.writeD h' hw (kvs':=jc kvs more) (ks:=(cK (ks.zip xs) ((more.map (·.1)).zip vs2)).map (·.1)) kk.keys.symm kk.reps
       refine⟨a,b,kvs,more,rfl,rfl,fun z=>nb.1 (z ▸ List.mem_of_getElem? h'),hw,hb,?_,post _ _ μ e s' .non⟩
       rw [hk,List.length_map,List.length_map] at hz
       exact hz
    ·cases h
 ·cases h
noncomputable def fh(f:MF)(o:ME)(ms:MA):ME:=fun env S=>(o env S).bind fun p=>if Me p.2 p.1=true then (ms env p.2).bind fun q=>f p.1 q.1 q.2 else none
theorem LY{o e:Expr}{es:List Expr}{mo:ME}{ms:MA}{f:MF}{name:Str}{id:String}{apos cpos:Pos}(slot:Slot "dict" name id)(hty:typeOf (.builtin id)=pure (.type "method_descriptor"))(hm:MtR X id (Na X.K f))(ho:DE X o mo)(ha:DA X (e::es) ms)
  (hbase:attributeBase o name X.env (eval o X.env)=eval o X.env)
  (hfew:((backTo cpos (starEach (e::es) X.env)).all (fun x=>!x.1)&&(backToKw cpos (keywordEach [] X.env)).all (fun x=>x.1.isSome)&&decide ((e::es).length+([]:List Keyword).length+(if ([]:List Keyword).isEmpty then 0 else 1)<30))=true)
  (hline:(apos.endLine == cpos.line)=true) (hs:starEach (e::es) X.env=(false,eval e X.env)::starEach es X.env) (hpl:(backTo cpos (starEach es X.env)).any (·.1)=false) :
  DE X (.Call (.Attribute o name apos) (e::es) [] cpos) (fh f mo ms):=
 PE.imp (Rx slot hty hm ho ha hbase hfew hline hs hpl) fun σ H Q ⟨μ,S,env,d,S',hS,hE,h,post⟩=>by
  obtain⟨⟨x,S1⟩,h1,h⟩:=Option.bind_eq_some_iff.mp h
  dsimp only at h
  split at h
  ·rename_i hl
   obtain⟨⟨xs,S2⟩,h2,h⟩:=Option.bind_eq_some_iff.mp h
   refine⟨μ,S,env,x,S1,hS,hE,h1,fun v H1 μ1 e1 s1 r1=>⟨?_,μ1,S1,env,xs,S2,s1,hE.mono e1,h2,fun vs H2 μ2 e2 s2 r2=>⟨μ2,S2,x,xs,d,S',s2,r1.mono e2,r2,h,(post.ext e1).ext e2⟩⟩⟩
   exact Pd s1 r1 hl
  ·cases h
end
end M
namespace L2
open PySem PySem.Spec PyProof.Rows
section
variable{X:Cx}{a b:Expr}{rest:List Expr}{ta tb:TE}{pos:Pos}
def tAndX(K:PySem.W.Frag)(ta tb:TE):TE:=fun σ H Q=>ta σ H fun x H1=>∃ c,Ik K x H1 c/\if c=true then tb σ H1 Q else Q x H1
def tOrX(K:PySem.W.Frag)(ta tb:TE):TE:=fun σ H Q=>ta σ H fun x H1=>∃ c,Ik K x H1 c/\if c=true then Q x H1 else tb σ H1 Q
def tNotX(K:PySem.W.Frag)(ta:TE):TE:=fun σ H Q=>ta σ H fun x H1=>∃ c,Ik K x H1 c/\Q (.bl (!c)) H1
theorem Nz(ha:PE X a ta)(hb:PE X (.BoolOp .And (b::rest) pos) tb):PE X (.BoolOp .And (a::b::rest) pos) (tAndX X.K ta tb):=by
 intro pins s σ H Q I h
 refine BoolOp_and (dg (ha pins s σ H _ I h) fun v s1 ⟨x,H1,I1,r1,q1⟩=>?_)
 obtain⟨c,tv,q1⟩:=q1
 refine dg (wU pins s1 σ H1 x v (fun k H'=>k=c/\H'=H1) I1 r1 ⟨c,tv,rfl,rfl⟩) fun k s2 z=>?_
 obtain⟨H2,I2,rfl,rfl⟩:=z
 cases k with
 | true=>exact hb pins s2 σ H2 Q I2 q1
 | false=>exact⟨x,H2,I2,r1,q1⟩
theorem Rq(ha:PE X a ta)(hb:PE X (.BoolOp .Or (b::rest) pos) tb):PE X (.BoolOp .Or (a::b::rest) pos) (tOrX X.K ta tb):=by
 intro pins s σ H Q I h
 refine BoolOp_or (dg (ha pins s σ H _ I h) fun v s1 ⟨x,H1,I1,r1,q1⟩=>?_)
 obtain⟨c,tv,q1⟩:=q1
 refine dg (wU pins s1 σ H1 x v (fun k H'=>k=c/\H'=H1) I1 r1 ⟨c,tv,rfl,rfl⟩) fun k s2 z=>?_
 obtain⟨H2,I2,rfl,rfl⟩:=z
 cases k with
 | false=>exact hb pins s2 σ H2 Q I2 q1
 | true=>exact⟨x,H2,I2,r1,q1⟩
theorem Nv(ha:PE X a ta):PE X (.UnaryOp .Not a pos) (tNotX X.K ta):=by
 intro pins s σ H Q I h
 refine UnaryOp_ (dg (ha pins s σ H _ I h) fun v s1 ⟨x,H1,I1,r1,q1⟩=>?_)
 obtain⟨c,tv,q1⟩:=q1
 refine not_of (dg (wU pins s1 σ H1 x v (fun k H'=>k=c/\H'=H1) I1 r1 ⟨c,tv,rfl,rfl⟩) fun k s2 z=>?_)
 obtain⟨H2,I2,rfl,rfl⟩:=z
 exact⟨.bl (!k),H2,I2,rfl,q1⟩
end
end L2
namespace M
open PySem PySem.Spec PyProof.Rows L2
section
variable{X:Cx}{K:PySem.W.Frag}{μ μ':Fp}{H H':Hp}{S S':ac}{a b:Expr}{ma mb:ME}{rest:List Expr}{pos:Pos}
noncomputable def Kh(a b:ME):ME:=fun env S=>(a env S).bind fun p=>(oF p.2 p.1).bind fun k=>if k=true then b env p.2 else some (p.1,p.2)
noncomputable def RX(a b:ME):ME:=fun env S=>(a env S).bind fun p=>(oF p.2 p.1).bind fun k=>if k=true then some (p.1,p.2) else b env p.2
noncomputable def JY(a:ME):ME:=fun env S=>(a env S).bind fun p=>(oF p.2 p.1).bind fun k=>some (.bl (!k),p.2)
theorem Pc(ha:DE X a ma)(hb:DE X (.BoolOp .And (b::rest) pos) mb):DE X (.BoolOp .And (a::b::rest) pos) (Kh ma mb):=PE.imp (Nz ha hb) fun σ H Q ⟨μ,S,env,d,S',hS,hE,hm,post⟩=>by
 obtain⟨⟨x,S1⟩,h1,hm⟩:=Option.bind_eq_some_iff.mp hm
 obtain⟨k,h2,hm⟩:=Option.bind_eq_some_iff.mp hm
 refine⟨μ,S,env,x,S1,hS,hE,h1,fun v H1 μ1 e1 s1 r1=>⟨k,rB s1 r1 h2,?_⟩⟩
 cases k with
 | true=>rw [if_pos rfl];exact⟨μ1,S1,env,d,S',s1,hE.mono e1,hm,post.ext e1⟩
 | false=>cases hm;rw [if_neg Bool.false_ne_true];exact post _ H1 μ1 e1 s1 r1
theorem TD(ha:DE X a ma)(hb:DE X (.BoolOp .Or (b::rest) pos) mb):DE X (.BoolOp .Or (a::b::rest) pos) (RX ma mb):=PE.imp (Rq ha hb) fun σ H Q ⟨μ,S,env,d,S',hS,hE,hm,post⟩=>by
 obtain⟨⟨x,S1⟩,h1,hm⟩:=Option.bind_eq_some_iff.mp hm
 obtain⟨k,h2,hm⟩:=Option.bind_eq_some_iff.mp hm
 refine⟨μ,S,env,x,S1,hS,hE,h1,fun v H1 μ1 e1 s1 r1=>⟨k,rB s1 r1 h2,?_⟩⟩
 cases k with
 | false=>rw [if_neg Bool.false_ne_true];exact⟨μ1,S1,env,d,S',s1,hE.mono e1,hm,post.ext e1⟩
 | true=>cases hm;rw [if_pos rfl];exact post _ H1 μ1 e1 s1 r1
theorem OV(ha:DE X a ma):DE X (.UnaryOp .Not a pos) (JY ma):=PE.imp (Nv ha) fun σ H Q ⟨μ,S,env,d,S',hS,hE,hm,post⟩=>by
 obtain⟨⟨x,S1⟩,h1,hm⟩:=Option.bind_eq_some_iff.mp hm
 obtain⟨k,h2,hm⟩:=Option.bind_eq_some_iff.mp hm
 cases hm
 exact⟨μ,S,env,x,_,hS,hE,h1,fun v H1 μ1 e1 s1 r1=>⟨k,rB s1 r1 h2,post _ H1 μ1 e1 s1 (.bl _)⟩⟩
end
end M
namespace M
open PySem PySem.Spec PyProof.Rows L2
section
variable{X:Cx}{K:PySem.W.Frag}{μ μ':Fp}{H H':Hp}{S S':ac}{tg iter:Expr}{pos:Pos}
noncomputable def fo(g:MG)(body:MS)(r:Nat):Nat->Nat->bh->ac->Option oC
 | 0,_,_,_=>none
 | f+1,i,env,S=>match S[r]? with
  | some (.lst xs)=>match xs[i]? with
   | none=>some (.nx env S)
   | some d=>(g d env S).bind fun p=>(body p.1 p.2).bind fun o=>match o with
    | .nx e s=>fo g body r f (i+1) e s
    | .ct e s=>fo g body r f (i+1) e s
    | .bk e s=>some (.nx e s)
    | .rt d s=>some (.rt d s)
  | _=>none
noncomputable def ee(m:ME)(g:MG)(body:MS):MS:=fun env S=>(m env S).bind fun p=>match p.1 with
 | .ref r=>fo g body r 2000 0 env p.2
 | .lst xs=>cF g body xs env p.2
 | .rol xs=>cF g body xs env p.2
 | .tup xs=>cF g body xs env p.2
 | _=>none
noncomputable def mForX(m:ME)(g:MG)(body:MS):MS:=fun env S=>(m env S).bind fun p=>match p.1 with
 | .ref r=>fo g body r 2000 0 env p.2
 | _=>none
theorem ON{body:List Stmt}{mi:ME}{g:MG}{mb:MS}(hp:PassesOwn (model X.prog X.w) X.A X.env X.xe)(hc:X.calm=true)(hi:DE X iter mi)(hg:DG X tg g)(hb:vq X body mb)
  (hs:∀ x,foldedSetIterable iter X.env x=pure x):DS X (.For tg iter body [] pos) (mForX mi g mb):=PS.imp (Jq hp hc (xF hi) hg hb hs) fun E σ H ⟨μ,S,env,o,hS,hE,hm,post⟩=>by
 obtain⟨⟨d,S1⟩,h1,hm⟩:=Option.bind_eq_some_iff.mp hm
 dsimp only at hm
 split at hm
 ·rename_i r
  refine⟨μ,S,env,_,S1,hS,hE,h1,fun v H1 μ1 e1 s1 r1=>?_⟩
  cases r1 with
  | @ref a _ ha=>
   have cell:∀ {μ' H' S' xs},Ext μ1 H1 μ' H'->SOk X.K μ' S' H'->S'[r]?=some (.lst xs)->∃ vs,H' a=some (.lst vs)/\Reps X.K μ' H' vs xs:=fun {μ' H' S' xs} e s q=>by
    obtain⟨l,ql,_⟩:=e.pre
    have ha':μ'.cs[r]?=some a:=by rw [ql,List.getElem?_append_left (List.getElem?_eq_some_iff.mp ha).1];exact ha
    exact s.cell r a _ ha' q
   have hq0:∃ vs,nE X.K H1 a vs:=by
    unfold fo at hm
    split at hm
    ·rename_i xs q
     obtain⟨vs,hv,_⟩:=cell s1.ext s1 q
     exact⟨vs,.inl (.inl hv)⟩
    ·cases hm
   refine⟨a,rfl,hq0,?_⟩
   refine⟨fun i n σ H=>∃ μ' S' env' o',Ext μ1 H1 μ' H/\SOk X.K μ' S' H/\EOk X.K μ' H σ env'/\fo g mb r n i env' S'=some o'/\PostS X.K μ' H o' E,
    ⟨2000,μ1,S1,env,o,s1.ext,s1,hE.mono e1,hm,post.ext e1⟩,?_⟩
   rintro i n σ' H' ⟨μ',S',env',o',e',s',r',hl,post'⟩
   cases n with
   | zero=>cases hl
   | succ n=>
    unfold fo at hl
    split at hl
    ·rename_i xs q
     obtain⟨vs,hv,rv⟩:=cell e' s' q
     have hsq:nE X.K H' a vs:=.inl (.inl hv)
     split at hl
     ·rename_i hx
      cases hl
      refine .inl ⟨⟨vs,hsq,?_⟩,post' σ' H' μ' s'.ext s' r'⟩
      rw [rv.length];simpa using hx
     ·rename_i d hx
      obtain⟨w,hw,rw0⟩:=rv.get hx
      refine .inr ⟨⟨vs,w,hsq,hw⟩,fun σ2 H2=>∃ μ2 S2 env2 o2,Ext μ1 H1 μ2 H2/\SOk X.K μ2 S2 H2/\EOk X.K μ2 H2 σ2 env2/\fo g mb r n (i+1) env2 S2=some o2/\PostS X.K μ2 H2 o2 E,
       fun σ2 H2 ⟨μ2,S2,env2,o2,q1,q2,q3,q4,q5⟩=>⟨n,by omega,μ2,S2,env2,o2,q1,q2,q3,q4,q5⟩,fun x H2 y=>?_⟩
      obtain⟨e2,hy⟩:=y
      subst e2
      have ex:x=w:=by have:=hy vs hsq;rw [hw] at this;exact(Option.some.inj this).symm
      subst ex
      obtain⟨⟨env3,S3⟩,h3,hl⟩:=Option.bind_eq_some_iff.mp hl
      obtain⟨o4,h4,hl⟩:=Option.bind_eq_some_iff.mp hl
      refine⟨μ',S',env',d,env3,S3,s',r',rw0,h3,fun σ3 H3 μ3 e3 s3 r3=>⟨μ3,S3,env3,o4,s3,r3,h4,?_⟩⟩
      have eT:Ext μ1 H1 μ3 H3:=e'.trans e3
      have pT:PostS X.K μ3 H3 o' E:=post'.ext e3
      cases o4 with
      | nx e5 s5=>exact fun σ6 H6 μ6 e6 s6 r6=>⟨μ6,s5,e5,o',eT.trans e6,s6,r6,hl,pT.ext e6⟩
      | ct e5 s5=>exact fun σ6 H6 μ6 e6 s6 r6=>⟨μ6,s5,e5,o',eT.trans e6,s6,r6,hl,pT.ext e6⟩
      | bk e5 s5=>cases hl;exact pT
      | rt d5 s5=>cases hl;exact pT
    ·cases hl
 ·cases hm
theorem OO{body:List Stmt}{mi:ME}{g:MG}{mb:MS}(hp:PassesOwn (model X.prog X.w) X.A X.env X.xe)(hc:X.calm=true)(hi:DE X iter mi)(hg:DG X tg g)(hb:vq X body mb)
  (hs:∀ x,foldedSetIterable iter X.env x=pure x):DS X (.For tg iter body [] pos) (ee mi g mb):=by
 have hA:=ON (pos:=pos) hp hc hi hg hb hs
 have hB:=LJ (pos:=pos) hp hc (DZ (tg:=tg) hi) hg hb hs
 intro pins s σ H E I ⟨μ,S,env,o,hS,hE,h,post⟩
 obtain⟨⟨x,S1⟩,h1,h⟩:=Option.bind_eq_some_iff.mp h
 cases x with
 | ref r=>exact hA pins s σ H E I ⟨μ,S,env,o,hS,hE,by show (mi env S).bind _=_;rw [h1];exact h,post⟩
 | lst xs=>exact hB pins s σ H E I ⟨μ,S,env,o,hS,hE,by show ((mi env S).bind _).bind _=_;rw [h1];exact h,post⟩
 | rol xs=>exact hB pins s σ H E I ⟨μ,S,env,o,hS,hE,by show ((mi env S).bind _).bind _=_;rw [h1];exact h,post⟩
 | tup xs=>exact hB pins s σ H E I ⟨μ,S,env,o,hS,hE,by show ((mi env S).bind _).bind _=_;rw [h1];exact h,post⟩
 | _=>cases h
end
end M
namespace L2
open PySem PySem.Spec PyProof.Rows
section
variable{X:Cx}{pos:Pos}
theorem tQ:∀ {ns:List Int} {us:List Value},Vals (ns.map V.int) us->∃ xs:List (Int×Tok),us=xs.map (fun p=>Value.int p.1 p.2)/\xs.map (·.1)=ns
 | [],_,.nil=>⟨[],rfl,rfl⟩
 | n::ns,_,.cons ⟨t,e⟩ r=>by
  subst e
  obtain⟨xs,e1,e2⟩:=tQ r
  exact⟨(n,t)::xs,by rw [e1];rfl,by rw [List.map_cons,e2]⟩
theorem Ia(hc:X.calm=true):CallR X (.builtin "max") (fun xs H Q=>∃ p ns,xs=[.ref p]/\nE X.K H p (ns.map V.int)/\ns≠[]/\∀ m,m∈ns->(∀ a∈ns,a<=m)->Q (.int m) H):=by
 intro pins s σ H xs us Q I r h
 obtain⟨p,ns,rfl,hq,h0,q⟩:=h
 obtain⟨u,rfl,rx⟩:=qy r
 cases rx
 obtain⟨its,rv,pl,hz⟩:=I.list hq
 obtain⟨ps,e1,e2⟩:=tQ rv
 have hl:s.heap.IsList p (intItems ps.toArray):=by
  have:=pl.isList
  rw [e1] at this
  have e:intItems ps.toArray=(ps.map (fun p=>Value.int p.1 p.2)).toArray:=by simp [intItems]
  rw [e];exact this
 have hp:0<ps.toArray.size:=by
  rw [List.size_toArray]
  cases ps with
  | nil=>exact absurd e2.symm h0
  | cons _ _=>simp
 refine max_intList (I.ok.hd hc) hl hp fun v h' tk hv kk=>?_
 obtain⟨g1,g2⟩:=argBest_gt (numAt ps.toArray) (ps.toArray.size - 1)
 generalize argBest (fun i j=>decide (numAt ps.toArray i>numAt ps.toArray j)) (ps.toArray.size - 1)=b at hv g1 g2
 have hb:b<ps.length:=by rw [List.size_toArray] at g1 hp;omega
 have nb:∀ j (hj:j<ps.length),numAt ps.toArray j=ps[j].1:=fun j hj=>by
  simp [numAt,hj]
 have ev:v=Value.int ps[b].1 ps[b].2:=by
  simp [intItems,hb] at hv
  exact hv.symm
 subst ev
 refine⟨.int ps[b].1,H,I.kept kk,⟨_,rfl⟩,q _ ?_ fun a ha=>?_⟩
 ·rw [<- e2];exact List.mem_map.mpr ⟨_,List.getElem_mem hb,rfl⟩
 ·rw [<- e2] at ha
  obtain⟨x,hx,rfl⟩:=List.mem_map.mp ha
  obtain⟨j,hj,rfl⟩:=List.mem_iff_getElem.mp hx
  have:=g2 j (by rw [List.size_toArray];omega)
  rw [nb j hj,nb b hb] at this
  exact this
theorem rV:∀ (l:List Value) (lo:Nat),(∀ (j:Nat) (v:Value),l[j]?=some v->∃ t,v=.int ((lo+j:Nat):Int) t)->Vals ((List.range' lo l.length).map fun(i:Nat)=>V.int (i:Int)) l
 | [],_,_=>.nil
 | v::r,lo,h=>by
  rw [List.length_cons,List.range'_succ,List.map_cons]
  obtain⟨t,e⟩:=h 0 v rfl
  refine .cons ⟨t,by simpa using e⟩ (rV r (lo+1) fun j w hw=>?_)
  obtain⟨t,e⟩:=h (j+1) w (by simpa using hw)
  exact⟨t,by rw [e];congr 2;omega⟩
noncomputable def pQ(n:Nat):List V:=(List.range n).map fun(i:Nat)=>V.int (i:Int)
theorem xG{a:Expr}{ta:TA}{p p2 pos pos2:Pos}(hc:X.calm=true)(hm:X.mg "list" = none)(hm2:X.mg "range" = none)(hg:Gl X "list")(hg2:Gl X "range")(ha:PA X [a] ta)(hs:starEach [a] X.env=[(false,eval a X.env)]) :
  PE X (.Call (.Name "list" p) [.Call (.Name "range" p2) [a] [] pos2] [] pos) (fun σ H Q=>ta σ H fun vs H1=>∃ j:Int,vs=[.int j]/\0<=j/\j<=1000/\∀ q,H1 q=none->Q (.ref q) (upd H1 q (.lst (pQ j.toNat)))):=by
 intro pins s σ H Q I h
 refine Call_ (lh I hg hm boot_list (PyProof.Rows.callWith_type1 (Calls.spliced_cons ?_) rfl rfl))
 refine Call_ (lh I hg2 hm2 boot_range (PyProof.Rows.callWith_type1 (dg (ha pos2 pins s σ H _ I h) fun us s1 ⟨vs,H1,I1,r1,q1⟩=>?_) hs rfl))
 obtain⟨j,rfl,j0,j1,q⟩:=q1
 obtain⟨u,rfl,ru⟩:=r1.one
 obtain⟨t,rfl⟩:=ru
 refine call_range_1 (Calls.spliced_nil ?_)
 have I2:Inv X pins σ H1 { s1 with heap:=s1.heap.push { cls:=.type "range",data:=.fields #[.int 0 s1.toks,.int j t,.int 1 (s1.toks+1)] },toks:=s1.toks+1+1 }:=I1.kept fun b o e=>Heap.get?_push_of_some _ e
 have hz:(s1.heap.push { cls:=.type "range",data:=.fields #[.int 0 s1.toks,.int j t,.int 1 (s1.toks+1)] }).objs.size=s1.heap.objs.size+1:=Heap.size_push ..
 refine call_list_range (n:=j.toNat) (I1.ok.hd hc) (IsRange.new ..) (small_one (by decide) (by decide) (by omega) (by omega)) (by rw [rangeSize_one];split <;> omega) (by omega) fun h' tk acc c' kk hn it=>?_
 obtain⟨i1,i2⟩:=it
 have fr:H1 (s1.heap.objs.size+1)=none:=I1.hok.fresh (Nat.le_succ _)
 dsimp only at hn ⊢
 rw [hz] at hn ⊢
 refine⟨.ref _,_,I2.laid (t':=tk) (a:=s1.heap.objs.size+1) (o:=.lst (pQ j.toNat)) kk (by show _<=s1.heap.objs.size+1;rw [hz];exact Nat.le_refl _) ⟨?_,acc.toList,c',?_,?_⟩,rfl,q _ fr⟩
 ·simp [pQ];rw [sizeLine_eq];omega
 ·have:=rV acc.toList 0 (fun j v hv=>by
   obtain⟨t,e⟩:=i2 j v (by simpa using hv)
   exact⟨t,by rw [e];congr 1;omega⟩)
  rw [Array.length_toList,i1] at this
  rw [pQ,List.range_eq_range']
  exact this
 ·simpa using hn
end
end L2
namespace M
open PySem PySem.Spec PyProof.Rows L2
section
variable{X:Cx}{K:PySem.W.Frag}{μ μ':Fp}{H H':Hp}{S S':ac}{pos:Pos}
noncomputable def qD(S:ac):D->Option (List D)
 | .lst xs=>some xs
 | .ref r=>match S[r]? with | some (.lst xs)=>some xs | _=>none
 | _=>none
theorem vX{v:V}{d:D}{ds:List D}(s:SOk K μ S H)(r:Rep K μ H v d)(h:qD S d=some ds):∃ a vs,v=.ref a/\H a=some (.lst vs)/\Reps K μ H vs ds:=by
 cases r with
 | lst hd n rr=>cases h;exact⟨_,_,rfl,hd,rr⟩
 | ref hr=>
  rename_i a i
  unfold qD at h
  dsimp only at h
  cases q:S[i]? with
  | none=>rw [q] at h;cases h
  | some c=>
   rw [q] at h
   have ck:=s.cell _ _ _ hr q
   cases c with
   | lst xs=>cases h;obtain⟨vs,e,rr⟩:=ck;exact⟨a,vs,rfl,e,rr⟩
   | dct ks xs=>cases h
 | _=>cases h
noncomputable def yD:D->Bool
 | .ref _=>true
 | _=>false
noncomputable def aR(S:ac)(x y:D):Option D:=if yD x||yD y then (qD S x).bind fun xs=>(qD S y).bind fun ys=>if xs.length+ys.length<=sizeLine then some (.lst (xs++ys)) else none else Lg S x y
theorem NJ:OpR X (binaryOp .Add) (nz X.K aR):=OpR.imp (OpR.or JH RL) fun x y H Q ⟨μ,S,dx,dy,dz,hS,h1,h2,h3,post⟩=>by
 unfold aR at h3
 split at h3
 ·obtain⟨xs,e1,h3⟩:=Option.bind_eq_some_iff.mp h3
  obtain⟨ys,e2,h3⟩:=Option.bind_eq_some_iff.mp h3
  split at h3
  ·rename_i hl
   cases h3
   obtain⟨a,vs,rfl,q1,r1⟩:=vX hS h1 e1
   obtain⟨b,ws,rfl,q2,r2⟩:=vX hS h2 e2
   have l1:=r1.length
   have l2:=r2.length
   exact .inl ⟨a,b,vs,ws,rfl,rfl,q1,q2,by omega,fun p hp=>post.lst hS hp (r1.append r2)⟩
  ·cases h3
 ·exact .inr ⟨μ,S,dx,dy,dz,hS,h1,h2,h3,post⟩
noncomputable def jL:List Int->Int
 | []=>0
 | [a]=>a
 | a::r=>max a (jL r)
theorem pY:∀ {ns:List Int},ns≠[]->jL ns∈ns/\∀ a∈ns,a<=jL ns
 | [a],_=>⟨by simp [jL],fun b hb=>by simp at hb;simp [jL,hb]⟩
 | a::b::r,_=>by
  obtain⟨h1,h2⟩:=pY (ns:=b::r) (by simp)
  show max a (jL (b::r))∈_/\∀ c∈_,c<=max a (jL (b::r))
  generalize jL (b::r)=m at h1 h2
  refine⟨?_,fun c hc=>?_⟩
  ·by_cases h:m<=a
   ·rw [Int.max_eq_left h];exact List.mem_cons_self
   ·rw [Int.max_eq_right (by omega)];exact List.mem_cons_of_mem _ h1
  ·rcases List.mem_cons.mp hc with rfl | hc
   ·exact Int.le_max_left _ _
   ·exact Int.le_trans (h2 c hc) (Int.le_max_right _ _)
theorem Au{ns:List Int}{m:Int}(h0:ns≠[])(h1:m∈ns)(h2:∀ a∈ns,a<=m):m=jL ns:=by
 obtain⟨g1,g2⟩:=pY h0
 have:=h2 _ g1
 have:=g2 _ h1
 omega
noncomputable def nR(S:ac):List D->Option D
 | [d]=>(qH S d).bind fun ns=>if ns.isEmpty then none else some (.int (jL ns))
 | ds=>Qn S ds
theorem CallR.or{f:Value}{r r':List V->Hp->VK->Prop}(h:CallR X f r)(h':CallR X f r'):CallR X f (fun xs H Q=>r xs H Q\/r' xs H Q):=by
 intro pins s σ H xs us Q I rv q
 rcases q with q | q
 ·exact h pins s σ H xs us Q I rv q
 ·exact h' pins s σ H xs us Q I rv q
theorem Ig(hc:X.calm=true):CallR X (.builtin "max") (Ji X.K (aP nR)):=CallR.imp (CallR.or (Ia hc) (Ih hc)) fun xs H Q ⟨μ,S,ds,d,S',hS,hr,hm,post⟩=>by
 obtain⟨rfl,hm'⟩:=eE hm
 match ds,hr,hm,hm' with
 | [d0],hr,hm,hm'=>
  obtain⟨ns,h1,h2⟩:=Option.bind_eq_some_iff.mp hm'
  split at h2
  ·cases h2
  ·rename_i h0
   cases h2
   have h0:ns≠[]:=fun z=>h0 (by rw [z];rfl)
   obtain⟨v,rfl,rv⟩:=hr.one
   obtain⟨b,rfl,hq,h64⟩:=Dw hS rv h1
   refine .inl ⟨b,ns,rfl,hq,h0,fun m m1 m2=>?_⟩
   rw [Au h0 m1 m2]
   exact post.here hS (.int _)
 | [],hr,hm,hm'=>cases hm'
 | _::_::_,hr,hm,hm'=>exact .inr ⟨μ,_,_,d,_,hS,hr,hm,post⟩
noncomputable def fj(ms:MA):ME:=fun env S=>(ms env S).bind fun p=>match p.1 with | [.int j]=>if 0<=j/\j<=1000 then some (.lst (cG 0 j.toNat),p.2) else none | _=>none
theorem Cs(n:Nat):Reps K μ H (pQ n) (cG 0 n):=by
 unfold pQ cG
 generalize List.range n=l
 induction l with
 | nil=>exact .nil
 | cons a r ih=>rw [List.map_cons,List.map_cons,Int.zero_add];exact .cons (.int _) ih
theorem LZ{a:Expr}{ms:MA}{p p2 pos2:Pos}(hc:X.calm=true)(hm:X.mg "list" = none)(hm2:X.mg "range" = none)(hg:Gl X "list")(hg2:Gl X "range")(ha:DA X [a] ms)(hs:starEach [a] X.env=[(false,eval a X.env)]) :
  DE X (.Call (.Name "list" p) [.Call (.Name "range" p2) [a] [] pos2] [] pos) (fj ms):=PE.imp (xG hc hm hm2 hg hg2 ha hs) fun σ H Q ⟨μ,S,env,d,S',hS,hE,h,post⟩=>by
 obtain⟨⟨ds,S1⟩,h1,h⟩:=Option.bind_eq_some_iff.mp h
 refine⟨μ,S,env,ds,S1,hS,hE,h1,fun vs H1 μ1 e1 s1 r1=>?_⟩
 dsimp only at h
 split at h
 ·rename_i j
  split at h
  ·rename_i hj
   cases h
   obtain⟨v,rfl,rv⟩:=r1.one
   exact⟨j,by rw [rv.int_inv],hj.1,hj.2,fun q hq=>(post.ext e1).lst s1 hq (Cs _)⟩
  ·cases h
 ·cases h
noncomputable def gn(t:MT)(body:MS):Nat->bh->ac->Option oC
 | 0,_,_=>none
 | f+1,env,S=>(t env S).bind fun p=>if p.1=true then (body env p.2).bind fun o=>match o with
   | .nx e s=>gn t body f e s
   | .ct e s=>gn t body f e s
   | .bk e s=>some (.nx e s)
   | .rt d s=>some (.rt d s)
  else some (.nx env p.2)
noncomputable def fg(t:MT)(body:MS):MS:=gn t body 5000
theorem LI{c:Expr}{body:List Stmt}{t:MT}{mb:MS}(hp:PassesOwn (model X.prog X.w) X.A X.env X.xe)(hc:DT X c t)(hb:vq X body mb):DS X (.While c body [] pos) (fg t mb):=PS.imp (Jn hp hc hb) fun E σ H ⟨μ,S,env,o,hS,hE,hm,post⟩=>by
 refine⟨fun n σ' H'=>∃ μ' S' env' o',Ext μ H μ' H'/\SOk X.K μ' S' H'/\EOk X.K μ' H' σ' env'/\gn t mb n env' S'=some o'/\PostS X.K μ' H' o' E,⟨5000,μ,S,env,o,hS.ext,hS,hE,hm,post⟩,?_⟩
 rintro n σ' H' ⟨μ',S',env',o',e',s',r',hl,post'⟩
 cases n with
 | zero=>cases hl
 | succ n=>
  obtain⟨⟨b,S1⟩,h1,hl⟩:=Option.bind_eq_some_iff.mp hl
  refine⟨μ',S',env',b,S1,s',r',h1,fun H2 μ2 e2 s2=>?_⟩
  have eT:Ext μ H μ2 H2:=e'.trans e2
  have pT:PostS X.K μ2 H2 o' E:=post'.ext e2
  cases b with
  | false=>cases hl;dsimp only;rw [if_neg Bool.false_ne_true];exact pT σ' H2 μ2 s2.ext s2 (r'.mono e2)
  | true=>
   dsimp only
   rw [if_pos rfl]
   obtain⟨o4,h4,hl⟩:=Option.bind_eq_some_iff.mp hl
   refine⟨fun σ2 H2=>∃ μ2 S2 env2 o2,Ext μ H μ2 H2/\SOk X.K μ2 S2 H2/\EOk X.K μ2 H2 σ2 env2/\gn t mb n env2 S2=some o2/\PostS X.K μ2 H2 o2 E,fun σ2 H2 ⟨μ2,S2,env2,o2,q1,q2,q3,q4,q5⟩=>⟨n,by omega,μ2,S2,env2,o2,q1,q2,q3,q4,q5⟩,?_⟩
   refine⟨μ2,S1,env',o4,s2,r'.mono e2,h4,?_⟩
   cases o4 with
   | nx e5 s5=>exact fun σ6 H6 μ6 e6 s6 r6=>⟨μ6,s5,e5,o',eT.trans e6,s6,r6,hl,pT.ext e6⟩
   | ct e5 s5=>exact fun σ6 H6 μ6 e6 s6 r6=>⟨μ6,s5,e5,o',eT.trans e6,s6,r6,hl,pT.ext e6⟩
   | bk e5 s5=>cases hl;exact pT
   | rt d5 s5=>cases hl;exact pT
end
end M
namespace M
open PySem PySem.Spec PyProof.Rows L2
inductive TabRel:List (bC×Value)->List (bC×D)->Prop
 | nil:TabRel [] []
 | cons {k:bC} {v:Value} {d:D} {vs:List (bC×Value)} {ds:List (bC×D)} (x:V) (h:RelV x v) (r:∀ K μ H,Rep K μ H x d) (t:TabRel vs ds):TabRel ((k,v)::vs) ((k,d)::ds)
theorem TabRel.val{k:bC}:∀ {vs ds},TabRel vs ds->∀ {d},iY ds k=some d->∃ v x,valueAt vs k=some v/\RelV x v/\∀ K μ H,Rep K μ H x d
 | _,_,.nil,d,h=>by cases h
 | _,_,.cons (k:=k') (v:=v) x h r t,d,q=>by
  unfold iY at q
  split at q
  ·rename_i e;cases q;refine⟨v,x,?_,h,r⟩;simp only at e;simp [valueAt,e]
  ·rename_i e
   obtain⟨v',x',h1,h2,h3⟩:=TabRel.val t q
   refine⟨v',x',?_,h2,h3⟩
   simp only at e
   rw [<- h1]
   simp [valueAt,e]
structure uA(w:World)(K:PySem.W.Frag)(mg:Str->Option Value)(x:Str)(l:List (bC×D)):Prop where
 ex:∃ (a:Addr) (vs:List (bC×Value)),mg x=some (.ref a)/\(∀ (P:Program) (h:Heap),K.In h->h.DictOf (ca P w) a vs)/\TabRel vs l
section
variable{X:Cx}
theorem KB{a:Addr}{vs:List (bC×Value)}(hd:∀ (P:Program) (h:Heap),X.K.In h->h.DictOf (ca P X.w) a vs):IxR X (fun x y H Q=>∃ k v z,x=.ref a/\y=kV k/\valueAt vs k=some v/\RelV z v/\Q z H):=by
 intro value slice pins s σ H x y v u Q I rx ry h hs
 obtain⟨k,v',z,rfl,rfl,hv,rz,q⟩:=h
 cases rx
 have dd:=hd X.prog s.heap I.kIn
 exact tail_any dd.typeIs F.slot_dict_getitem.lookup (wpAny_getItem_of (vZ ry) dd.mapOf hv ⟨z,H,I.tok _,rz,q⟩) hs
noncomputable def dC(l:List (bC×D))(mi:ME):ME:=fun env S=>(mi env S).bind fun p=>(fB p.1).bind fun k=>(iY l k).bind fun d=>some (d,p.2)
theorem LV{x:Str}{l:List (bC×D)}{i:Expr}{mi:ME}{p pos:Pos}(g:uA X.w X.K X.mg x l)(hg:Gl X x)(hx:(x == ("__debug__":Str))=false)(hi:DE X i mi)(hs:nw i:=by intro _ _;rfl):DE X (.Subscript (.Name x p) i pos) (dC l mi):=by
 obtain⟨a,vs,h1,h2,h3⟩:=g.ex
 refine PE.imp (Jy (KB h2) (xH (v:=.ref a) hg h1 rfl hx) hi hs) fun σ H Q ⟨μ,S,env,d,S',hS,hE,hm,post⟩=>?_
 obtain⟨⟨y,S1⟩,e1,hm⟩:=Option.bind_eq_some_iff.mp hm
 obtain⟨k,e2,hm⟩:=Option.bind_eq_some_iff.mp hm
 obtain⟨d',e3,hm⟩:=Option.bind_eq_some_iff.mp hm
 cases hm
 obtain⟨v,z,v1,v2,v3⟩:=h3.val e3
 exact⟨μ,S,env,y,_,hS,hE,e1,fun u H1 μ1 ex s1 r1=>⟨k,v,z,rfl,mU e2 r1,v1,v2,post _ H1 μ1 ex s1 (v3 _ _ _)⟩⟩
end
theorem zr{w:World}{K:PySem.W.Frag}{a:Addr}{es:Array DictEntry}{n:Nat}(hl:K.lookup a=some ⟨.type "dict",none,.dict es n,#[]⟩){vs:List (bC×Value)}(hp:∀ P,Pairs (ca P w) es.toList vs)(hk:∀ P,KeysOf (ca P w) es)(hn:(vs.map (·.1)).Nodup) :
  ∀ (P:Program) (h:Heap),K.In h->h.DictOf (ca P w) a vs:=fun P h KX=>⟨_,es,n,KX a _ hl,⟨rfl,rfl,rfl⟩,rfl,hk P,hp P,hn⟩
inductive TabLit(w:World):List DictEntry->List (bC×Value)->Prop
 | nil:TabLit w [] []
 | cons {x:Str} {t:Tok} {v:Value} {es:List DictEntry} {vs:List (bC×Value)} (h:TabLit w es vs):TabLit w (⟨PyData.keyHash w.params x,.str x t,v⟩::es) ((.inr x,v)::vs)
theorem TabLit.pairs{w:World}{P:Program}:∀ {es vs},TabLit w es vs->Pairs (ca P w) es vs
 | _,_,.nil=>.nil
 | _,_,.cons (x:=x) (t:=t) h=>.cons (vZ (k:=.inr x) (show RelV (V.str x) (Value.str x t) from ⟨t,rfl⟩)) rfl h.pairs
theorem TabLit.keys{w:World}{P:Program}:∀ {es vs},TabLit w es vs->∀ e∈es,∃ k,(ca P w).is k e.key=true/\e.hash=(ca P w).hash k
 | _,_,.nil,e,h=>by simp at h
 | _,_,.cons (x:=x) (t:=t) h,e,he=>by
  rcases List.mem_cons.mp he with rfl | he
  ·exact⟨.inr x,vZ (k:=.inr x) (show RelV (V.str x) (Value.str x t) from ⟨t,rfl⟩),rfl⟩
  ·exact h.keys e he
theorem IF{w:World}{K:PySem.W.Frag}{mg:Str->Option Value}{x:Str}{a:Addr}{es:List DictEntry}{n:Nat}{vs:List (bC×Value)}{l:List (bC×D)}(hg:mg x=some (.ref a))(hl:K.lookup a=some ⟨.type "dict",none,.dict es.toArray n,#[]⟩)(t:TabLit w es vs)(hn:(vs.map (·.1)).Nodup)(r:TabRel vs l):uA w K mg x l:=
 ⟨a,vs,hg,zr hl (fun P=>by simpa using t.pairs) (fun P e he=>t.keys e (by simpa using he)) hn,r⟩
end M
namespace M
open PySem PySem.Spec PyProof.Rows L2
section
variable{X:Cx}{K:PySem.W.Frag}{μ:Fp}{H:Hp}{S:ac}
noncomputable def mw:MF:=fun o ds S=>match ds with
 | [x]=>if rh S o=true then (iI S o).bind fun ys=>if cI 40 x=true/\ys.all (cI 39)=true/\ys.length<=sizeLine then (ys.findIdx? fun d=>jA d x).bind fun j=>some (.int (j:Nat),S) else none else none
 | _=>none
theorem uj{pins:List (Addr×Obj)}{σ:L2.St}{s:Shared}(I:Inv X pins σ H s){x:D}:∀ {vs:List V} {us:List Value} {ds:List D},Vals vs us->Reps X.K μ H vs ds->(∀ d∈ds,cI 39 d=true) ->
  us.map (eG X.K μ H x)=ds.map fun d=>jA d x
 | _,_,_,.nil,.nil,_=>rfl
 | _,_,_,.cons rv tv,.cons r t,ok=>by
  rw [List.map_cons,List.map_cons,pF I rv r (ok _ List.mem_cons_self),uj I tv t fun d m=>ok d (List.mem_cons_of_mem _ m)]
theorem JM(hu:X.A.units+64<cLine):MtR X "list.index" (Na X.K mw):=by
 intro pins s σ H x vs v us Q I rx rv h
 obtain⟨μ,S,dx,ds,d,S',hS,r1,r2,h,post⟩:=h
 unfold mw at h
 split at h
 ·rename_i y
  split at h
  ·rename_i hl
   obtain⟨a,ws,es,rfl,hq,hse,re⟩:=pe hS r1 hl
   rw [hse] at h
   dsimp only [Option.bind_some] at h
   split at h
   ·rename_i hk
    obtain⟨j,hj,h⟩:=Option.bind_eq_some_iff.mp h
    cases h
    cases rx
    obtain⟨w,rfl,rw0⟩:=r2.one
    obtain⟨u,rfl,ru⟩:=rv.one
    obtain⟨its,rvs,⟨⟨cls,dd,data,sl⟩,n,e,hc,hdd,hd⟩,hz⟩:=I.list hq
    simp only at hc hdd hd
    subst hc hdd hd
    have ok:=List.all_eq_true.mp hk.2.1
    have em:=uj (x:=y) I rvs re ok
    have ln:its.length=es.length:=by rw [<- re.length,rvs.length]
    obtain⟨hj1,hj2,hj3⟩:=List.findIdx?_eq_some_iff_getElem.mp hj
    have at_:∀ (m:Nat) (h1:m<its.length) (h2:m<es.length),eG X.K μ H y its[m]=jA es[m] y:=fun m h1 h2=>by
     have:(its.map (eG X.K μ H y))[m]?=(es.map fun d=>jA d y)[m]?:=by rw [em]
     rw [List.getElem?_map,List.getElem?_map,List.getElem?_eq_getElem h1,List.getElem?_eq_getElem h2] at this
     simpa using this
    have sz:sizeLine<2 ^ 63 - 1:=by decide
    refine call_meets F.slot_list_index ⟨_,e,rfl⟩ F.entry_list_index (F.args_list_index_2 _ _) (SeqAt.list_indexAt a its.toArray n none sl u (eG X.K μ H y) j (by simpa [ln] using hj1) (by have:=hk.2.2;omega) ?_ ?_) ⟨e,fun w' hw'=>?_,?_⟩
    ·rw [List.getElem_toArray,at_ j (by omega) hj1];exact hj2
    ·intro m hm hmj
     rw [List.getElem_toArray,at_ m (by simpa using hm) (by omega)]
     have:=hj3 m hmj
     simpa using this
    ·exact ga I (by show X.A.units+1+40<cLine;omega) ru rw0 hk.1 rvs re ok w' (by simpa using hw')
    ·exact⟨.int _,H,I.tok _,⟨_,rfl⟩,post.here hS (.int _)⟩
   ·cases h
  ·cases h
 ·cases h
theorem uy{o:Expr}{name:Str}{env:Env}{w:Sem Value}(h:(match o with | .Call _ _ _ _=>false | _=>true)=true):attributeBase o name env w=w:=by
 cases o <;> first | rfl | cases h
end
end M
namespace M
open PySem PySem.Spec PyProof.Rows L2
section
variable{X:Cx}{K:PySem.W.Frag}{μ μ':Fp}{H H':Hp}{S S':ac}{tg iter:Expr}{pos:Pos}
noncomputable def gY(g:MG)(t:MT)(e:ME)(r:Nat):Nat->Nat->bh->ac->Option (List D×ac)
 | 0,_,_,_=>none
 | f+1,i,env,S=>match S[r]? with
  | some (.lst xs)=>match xs[i]? with
   | none=>some ([],S)
   | some d=>(g d env S).bind fun p=>(t p.1 p.2).bind fun b=>if b.1=true then (e p.1 b.2).bind fun y=>(gY g t e r f (i+1) p.1 y.2).bind fun z=>some (y.1::z.1,z.2) else gY g t e r f (i+1) p.1 b.2
  | _=>none
noncomputable def df(m:ME)(g:MG)(t:MT)(e:ME)(cap:List (Option Nat)):ME:=fun env S=>(m env S).bind fun p=>match p.1 with
 | .ref r=>(gY g t e r 2000 0 (oz cap env) p.2).bind fun z=>some (.lst z.1,z.2)
 | _=>none
theorem vy{mi:ME}{g:MG}{t:MT}{e:ME}{cap:List (Option Nat)}{σ:L2.St}{Q:VK}(h:tM K (df mi g t e cap) σ H Q):Eu (Qh K (tM K mi)) (PC K g) (Ca K t) (tM K e) cap σ H Q:=by
 obtain⟨μ,S,env,d,S',hS,hE,hm,post⟩:=h
 obtain⟨⟨d0,S1⟩,h1,hm⟩:=Option.bind_eq_some_iff.mp hm
 dsimp only at hm
 split at hm
 case h_2=>cases hm
 rename_i r
 obtain⟨⟨ys,S2⟩,h2,hm⟩:=Option.bind_eq_some_iff.mp hm
 cases hm
 refine⟨μ,S,env,_,S1,hS,hE,h1,fun v H1 μ1 e1 s1 r1=>?_⟩
 cases r1 with
 | @ref a _ ha=>
  have hq0:∃ vs,nE K H1 a vs:=by
   unfold gY at h2
   split at h2
   ·rename_i xs q
    obtain⟨vs,hv,_⟩:=s1.cell r a _ ha q
    exact⟨vs,.inl (.inl hv)⟩
   ·cases h2
  refine⟨a,rfl,hq0,fun p hp=>?_⟩
  have hpn:=s1.notMem hp
  refine⟨fun i n σ' H'=>n+i=2000/\∃ (cs:List Addr) (S':ac) (env':bh) (vs:List V) (zs rest:List D),ExtP μ1 H1 ⟨cs,p::μ1.fb⟩ H'/\SOk K ⟨cs,p::μ1.fb⟩ S' H'/\EOk K ⟨cs,p::μ1.fb⟩ H' σ' env'/\H' p=some (.lst vs) /\
    Reps K ⟨cs,p::μ1.fb⟩ H' vs zs/\gY g t e r n i env' S'=some (rest,S2)/\ys=zs++rest/\vs.length<=i,⟨2000,rfl,μ1.cs,S1,oz cap env,[],[],ys,?_,s1.more hp,?_,bq,.nil,h2,rfl,Nat.le_refl _⟩,?_⟩
  ·exact⟨⟨[p],rfl,fun a z=>by rw [List.mem_singleton.mp z];exact hp⟩,⟨[],by simp,fun _ z=>by simp at z⟩,fun a o' n h=>by rw [bf (cj h hp)];exact h,fun a ha=>by
    by_cases z:a=p
    ·subst z;rw [bq];simp
    ·rw [bf z];exact s1.dom a ha⟩
  ·exact((hE.mono e1).block cap).more hp
  rintro i n σ' H' ⟨hn,cs,S',env',vs,zs,rest,eP,s',r',hpv,rz,hl,rfl,hvl⟩
  have pcs:p ∉ cs:=fun z=>s'.disj p List.mem_cons_self z
  cases n with
  | zero=>cases hl
  | succ n=>
   unfold gY at hl
   split at hl
   ·rename_i xs q
    have ha':(⟨cs,p::μ1.fb⟩:Fp).cs[r]?=some a:=eP.ix ha
    obtain⟨ws,hv,rv⟩:=s'.cell r a _ ha' q
    have hsq:nE K H' a ws:=.inl (.inl hv)
    split at hl
    ·rename_i hx
     cases hl
     have eF:Ext μ1 H1 ⟨cs,μ1.fb⟩ H':=⟨rfl,eP.pre,eP.keep,eP.dom⟩
     rw [List.append_nil] at post
     exact .inl ⟨⟨ws,hsq,by rw [rv.length];simpa using hx⟩,post _ H' ⟨cs,μ1.fb⟩ (e1.trans eF) s'.less (.lst hpv ⟨fun z=>s'.disj p List.mem_cons_self z,hpn.2⟩ rz.less)⟩
    ·rename_i dd hx
     obtain⟨w,hw,rw0⟩:=rv.get hx
     refine .inr ⟨⟨ws,w,hsq,hw⟩,fun x H2 y=>?_⟩
     obtain⟨e2,hy⟩:=y
     subst e2
     have ex:x=w:=by have:=hy ws hsq;rw [hw] at this;exact(Option.some.inj this).symm
     subst ex
     obtain⟨⟨env3,S3⟩,h3,hl⟩:=Option.bind_eq_some_iff.mp hl
     obtain⟨⟨b,S4⟩,h4,hl⟩:=Option.bind_eq_some_iff.mp hl
     refine⟨_,S',env',dd,env3,S3,s',r',rw0,h3,fun σ3 H3 μ3 e3 s3 r3=>⟨μ3,S3,env3,b,S4,s3,r3,h4,fun H4 μ4 e4 s4=>?_⟩⟩
     have eA:=e3.trans e4
     cases b with
     | false=>
      rw [if_neg Bool.false_ne_true] at hl
      dsimp only
      rw [if_neg Bool.false_ne_true]
      obtain⟨cs4,fb4⟩:=μ4
      have hfb:fb4=p::μ1.fb:=eA.fb
      subst hfb
      exact⟨n,Nat.lt_succ_self _,by omega,cs4,S4,env3,vs,zs,rest,eP.then eA,s4,r3.mono e4,(eA.keeps hpv pcs).1,rz.mono eA,hl,rfl,by omega⟩
     | true=>
      rw [if_pos rfl] at hl
      dsimp only
      rw [if_pos rfl]
      obtain⟨⟨dv,S5⟩,h5,hl⟩:=Option.bind_eq_some_iff.mp hl
      obtain⟨⟨rs,S6⟩,h6,hl⟩:=Option.bind_eq_some_iff.mp hl
      cases hl
      refine⟨μ4,S4,env3,dv,S5,s4,r3.mono e4,h5,fun v H5 μ5 e5 s5 r5=>?_⟩
      have eB:=eA.trans e5
      obtain⟨cs5,fb5⟩:=μ5
      have hfb:fb5=p::μ1.fb:=eB.fb
      subst hfb
      have sz:2000<sizeLine:=by decide
      exact⟨vs,(eB.keeps hpv pcs).1,by omega,n,Nat.lt_succ_self _,by omega,cs5,S5,env3,vs++[v],zs++[dv],rs,(eP.then eB).chg hp,s5.chg List.mem_cons_self,((r3.mono e4).mono e5).chg List.mem_cons_self,bq,Reps.chg List.mem_cons_self ((rz.mono eB).append (.cons r5 .nil)),h6,by simp,by rw [List.length_append,List.length_singleton];omega⟩
   ·cases hl
theorem Mb{elt:Expr}{ifs:List Expr}{scope:Scope}{N':List Str}{cap:List (Option Nat)}{mi:ME}{g:MG}{t:MT}{me:ME}
  (hc:X.calm=true) (B:BlockOk X N' scope cap) (hi:DE X iter mi) (hg:∀ C s H fp,DG (nk X N' scope C s H fp) tg g) (ht:∀ C s H fp,Mx (nk X N' scope C s H fp) ifs t) (he:∀ C s H fp,DE (nk X N' scope C s H fp) elt me)
  (hs:∀ x,foldedSetIterable iter X.env x=pure x:=by intro _;rfl):DE X (.ListComp elt [⟨tg,iter,ifs,0⟩] scope pos) (df mi g t me cap):=
 PE.imp (EB (g:=PC X.K g) (tt:=Ca X.K t) (te:=tM X.K me) hc B (xF hi) hg ht he hs) fun _ _ _ h=>vy h
theorem Bz{elt:Expr}{ifs:List Expr}{scope:Scope}{spos py:Pos}{N':List Str}{cap:List (Option Nat)}{mi:ME}{g:MG}{t:MT}{me:ME}{y:Str}{i:Nat}
  (hN:X.N.Nodup) (hy:X.N[i]?=some y) (hx:Mu X.env.scope y)
  (hc:X.calm=true) (B:BlockOk X N' scope cap) (hi:DE X iter mi) (hg:∀ C s H fp,DG (nk X N' scope C s H fp) tg g) (ht:∀ C s H fp,Mx (nk X N' scope C s H fp) ifs t) (he:∀ C s H fp,DE (nk X N' scope C s H fp) elt me)
  (hsw:swapsWith (.ListComp elt [⟨tg,iter,ifs,0⟩] scope pos) (some (.Name y py)) spos.line X.env=pure true:=by rfl)
  (hs:∀ x,foldedSetIterable iter X.env x=pure x:=by intro _;rfl) (hf:X.fn y=true\/X.env.scope.names.lookup y=some .local:=by first | exact .inl rfl | exact .inr rfl | assumption) :
  DS X (.Assign [.Name y py] (.ListComp elt [⟨tg,iter,ifs,0⟩] scope pos) spos) (aD (df mi g t me cap) (ag i)):=
 PS.imp (su (g:=PC X.K g) (tt:=Ca X.K t) (te:=tM X.K me) hN hy hx hc B (xF hi) hg ht he hsw hs hf) fun E σ H h=>by
  obtain⟨μ,S,env,o,hS,hE,hm,post⟩:=h
  obtain⟨⟨d,S1⟩,h1,hm⟩:=Option.bind_eq_some_iff.mp hm
  cases hm
  exact vy ⟨μ,S,env,d,S1,hS,hE,h1,fun v H1 μ1 e1 s1 r1=>post _ H1 μ1 e1 s1 ((hE.mono e1).set r1 i)⟩
end
end M
namespace L2
open PySem PySem.Spec PyProof.Rows
section
variable{X:Cx}
end
end L2
namespace M
open PySem PySem.Spec PyProof.Rows L2
section
variable{X:Cx}{K:PySem.W.Frag}{μ μ':Fp}{H H':Hp}{S:ac}
noncomputable def fAddS(S:ac)(x y:D):Option D:=match x,y with
 | .str a,.str b=>if a.length+b.length<=sizeLine then some (.str (a++b)) else none
 | _,_=>none
noncomputable def fStr1(S:ac)(ds:List D):Option D:=match ds with
 | [.int i]=>if i.natAbs.log2<1920 then some (.str (toString i)) else none
 | [.non]=>some (.str "None")
 | _=>none
noncomputable def fmtD:D->Option Str
 | .str y=>if y.length<=sizeLine then some y else none
 | .int i=>if i.natAbs.log2<1920 then some (toString i) else none
 | _=>none
noncomputable def RY:List ME->Str->ME
 | [],out=>fun _ S=>some (.str out,S)
 | m::r,out=>fun env S=>(m env S).bind fun p=>match p.1 with
  | .str y=>if (out++y).length<=sizeLine then RY r (out++y) env p.2 else none
  | _=>none
inductive DEs(X:Cx):List Expr->List ME->Prop
 | nil:DEs X [] []
 | cons {e:Expr} {m:ME} {es:List Expr} {ms:List ME} (h:DE X e m) (t:DEs X es ms):DEs X (e::es) (m::ms)
noncomputable def Ex:List D->Option (List Str)
 | []=>some []
 | .str x::r=>(Ex r).bind fun xs=>some (x::xs)
 | _::_=>none
noncomputable def fJoin:MF:=fun o ds S=>match o,ds with
 | .str sep,[y]=>(iI S y).bind fun xs=>(Ex xs).bind fun ys=>if (ys.map (·.length)).sum+ys.length * sep.length<=16777216 then some (.str (Str.join sep ys),S) else none
 | _,_=>none
noncomputable def isStrB:D->Bool
 | .str _=>true
 | _=>false
end
end M
namespace HT
open PySem PyProof.Rows
section
variable{prog:Program}{w:World}{A:Around}{E:Value->Shared->Prop}{s:Shared}
end
end HT
namespace L2
open PySem PySem.Spec PyProof.Rows
section
variable{X:Cx}
end
end L2
namespace M
open PySem PySem.Spec PyProof.Rows L2
section
variable{X:Cx}{K:PySem.W.Frag}{μ μ':Fp}{H H':Hp}{S:ac}
end
end M
namespace HT
open PySem PyProof.Rows
section
variable{prog:Program}{w:World}{A:Around}{E:Value->Shared->Prop}{s:Shared}
end
end HT
namespace L2
open PySem PySem.Spec PyProof.Rows
section
variable{X:Cx}
end
end L2
namespace M
open PySem PySem.Spec PyProof.Rows L2
section
variable{X:Cx}{K:PySem.W.Frag}{μ:Fp}{H:Hp}{S:ac}
end
end M
namespace HT
open PySem PyProof.Rows PySem.Spec SeqAt
end HT
namespace M
open PySem PySem.Spec PyProof.Rows L2
section
variable{X:Cx}{K:PySem.W.Frag}{μ:Fp}{H:Hp}{S:ac}
end
end M
namespace L2
open PySem PySem.Spec PyProof.Rows
end L2
namespace M
open PySem L2 PyProof.Rows
section
variable{X:Cx}{K:PySem.W.Frag}{H:Hp}{pos:Pos}
inductive iMs(K:PySem.W.Frag)(m:MA)(σ:L2.St)(H:Hp)(R:It->Hp->Prop):Prop
 | mk (μ:Fp) (S:ac) (env:bh) (xs:List D) (S':ac) (hS:SOk K μ S H) (hE:EOk K μ H σ env) (h:m env S=some (xs,S')) (post:∀ J H' μ',Ext μ H μ' H'->SOk K μ' S' H'->(∀ μ2 H2,Ep K μ2 H2 J xs)->R J H')
noncomputable def De(g:MG)(t:MT)(e:ME):List D->bh->ac->Option (List D×bh×ac)
 | [],env,S=>some ([],env,S)
 | d::ds,env,S=>(g d env S).bind fun p=>(t p.1 p.2).bind fun b=>if b.1=true then (e p.1 b.2).bind fun q=>(De g t e ds p.1 q.2).bind fun r=>some (q.1::r.1,r.2) else De g t e ds p.1 b.2
noncomputable def Kf(g:MG)(t:MT)(mi2:MA)(g2:MG)(t2:MT)(e:ME):List D->bh->ac->Option (List D×ac)
 | [],_,S=>some ([],S)
 | d::ds,env,S=>(g d env S).bind fun p=>(t p.1 p.2).bind fun b=>if b.1=true then (mi2 p.1 b.2).bind fun q=>(De g2 t2 e q.1 p.1 q.2).bind fun r=>(Kf g t mi2 g2 t2 e ds r.2.1 r.2.2).bind fun z=>some (r.1++z.1,z.2) else Kf g t mi2 g2 t2 e ds p.1 b.2
variable{elt tg iter tg2 iter2:Expr}{ifs ifs2:List Expr}{scope:Scope}{spos py:Pos}{N':List Str}{cap:List (Option Nat)}{mi mi2:MA}{g g2:MG}{t t2:MT}{me:ME}{y:Str}{i:Nat}
end
end M
namespace M
open PySem PySem.Spec PyProof.Rows L2
structure Px(P:Program)(w:World)(K:PySem.W.Frag)(mg:Str->Option Value)(base:Heap)(k:Nat)(a:Addr)(n:Nat)(f:List D->ac->Option (D×ac)):Prop where
 ex:∃ (fd:FuncData) (ps:List Str),ps.length=n/\FnOk P w K mg base FL k a fd ps (IQ K n f)/\PySem.W.keepIn K (.ref a)=true/\Binds K fd ps []
theorem Fn.at{P:Program}{w:World}{K:PySem.W.Frag}{mg:Str->Option Value}{base:Heap}{k n:Nat}{x:Str}{a:Addr}{f:List D->ac->Option (D×ac)}(F:Fn P w K mg base k x n f)(h:mg x=some (.ref a)):Px P w K mg base k a n f:=by
 obtain⟨b,fd,ps,h1,h2,h3,h4,h5⟩:=F.ex
 rw [h] at h3;cases h3
 exact⟨fd,ps,h1,h2,h4,h5⟩
inductive FRel(P:Program)(w:World)(K:PySem.W.Frag)(mg:Str->Option Value)(base:Heap)(k:Nat):List (bC×Value)->List (bC×Nat×(List D->ac->Option (D×ac)))->Prop
 | nil:FRel P w K mg base k [] []
 | cons {y:bC} {a:Addr} {n:Nat} {f:List D->ac->Option (D×ac)} {vs:List (bC×Value)} {l:List (bC×Nat×(List D->ac->Option (D×ac)))} (h:Px P w K mg base k a n f) (t:FRel P w K mg base k vs l):FRel P w K mg base k ((y,.ref a)::vs) ((y,n,f)::l)
noncomputable def zp:List (bC×Nat×(List D->ac->Option (D×ac)))->bC->Option (Nat×(List D->ac->Option (D×ac)))
 | [],_=>none
 | (y,p)::l,k=>if y=k then some p else zp l k
section
variable{P:Program}{w:World}{K:PySem.W.Frag}{mg:Str->Option Value}{base:Heap}{k:Nat}
theorem FRel.val{y:bC}{p:Nat×(List D->ac->Option (D×ac))}:∀ {vs l},FRel P w K mg base k vs l->zp l y=some p->∃ a,valueAt vs y=some (.ref a)/\Px P w K mg base k a p.1 p.2
 | _,_,.nil,q=>by cases q
 | _,_,.cons (y:=y') (a:=a) h t,q=>by
  unfold zp at q
  split at q
  ·rename_i e;cases q;exact⟨a,by simp [valueAt,e],h⟩
  ·rename_i e
   obtain⟨b,h1,h2⟩:=FRel.val t q
   refine⟨b,?_,h2⟩
   rw [<- h1]
   simp [valueAt,e]
structure FTab(P:Program)(w:World)(K:PySem.W.Frag)(mg:Str->Option Value)(base:Heap)(k:Nat)(x:Str)(l:List (bC×Nat×(List D->ac->Option (D×ac)))):Prop where
 ex:∃ (a:Addr) (vs:List (bC×Value)),mg x=some (.ref a)/\(∀ (P:Program) (h:Heap),K.In h->h.DictOf (ca P w) a vs)/\FRel P w K mg base k vs l
end
theorem EOk.setN{K:PySem.W.Frag}{μ:Fp}{H:Hp}{x:Option V}:∀ {σ:L2.St} {env:bh} (i:Nat),EOk K μ H σ env->EOk K μ H (σ.set i x) (env.set i none)
 | _,_,_,.nil=>.nil
 | _,_,0,.no t=>.no t
 | _,_,0,.yes _ t=>.no t
 | _,_,i+1,.no t=>.no (EOk.setN i t)
 | _,_,i+1,.yes h t=>.yes h (EOk.setN i t)
section
variable{X:Cx}{k i:Nat}{x b:Str}{e ix:Expr}{es:List Expr}{mi:ME}{ms:MA}{p pb pt ps pa pc pr:Pos}{l:List (bC×Nat×(List D->ac->Option (D×ac)))}
theorem JD{t:TA}(hN:X.N[i]?=some b)(hv:Uj X.env.scope b)(hr:Room k X.A)(ha:PA X (e::es) t)(hd:(b == ("__debug__":Str))=false)(hc:(b == ("__classdict__":Str))=false)
  (he:starEach (e::es) X.env=(false,eval e X.env)::starEach es X.env) (hpl:(backTo pc (starEach es X.env)).any (·.1)=false) :
  PE X (.Call (.Name b p) (e::es) [] pc) (fun σ H Q=>∃ a n f,σ[i]?=some (some (.ref a))/\Px X.prog X.w X.K X.mg X.base k a n f/\Ew (IQ X.K n f) [] E0 t σ H Q):=by
 intro pins s σ H Q I ⟨a,n,f,hσ,F,h⟩
 obtain⟨fd,qs,hn,F,hk,hb⟩:=F.ex
 refine wpAny_Call_Name_kw (dg (Jv hN hv hd hc pins s σ H (fun v H'=>v=.ref a/\H'=H) I ⟨_,hσ,rfl,rfl⟩) fun u s1 ⟨v,H1,I1,r,e1,e2⟩=>?_)
 subst e1 e2
 cases r
 refine PySem.W.callWith_K (h₀:=X.base) I1.ok.mod.kin hk (dg (ha pc pins s1 σ H1 _ I1 h) fun us s2 ⟨vs,H2,I2,r2,q⟩=>⟨I2.kIn,?_⟩) he hpl
 exact Cr F hr hb .nil JF I2 r2 q
noncomputable def iF(l:List (bC×Nat×(List D->ac->Option (D×ac))))(i:Nat)(mi:ME)(ms:MA):MS:=fun env S=>(mi env S).bind fun p=>(fB p.1).bind fun k=>(zp l k).bind fun q=>(ms (env.set i none) p.2).bind fun r=>if r.1.length=q.1 then (q.2 r.1 r.2).bind fun z=>some (.rt z.1 z.2) else none
theorem LG(g:FTab X.prog X.w X.K X.mg X.base k x l)(hg:Gl X x)(hx:(x == ("__debug__":Str))=false)(hi:DE X ix mi)(hs:nw ix)(hr:Room k X.A)(ha:DA X (e::es) ms)(nd:X.N.Nodup)(hN:X.N[i]?=some b)(hl:Mu X.env.scope b)(hv:Uj X.env.scope b)
  (hf:X.fn b=true\/X.env.scope.names.lookup b=some .local) (hd:(b == ("__debug__":Str))=false) (hc:(b == ("__classdict__":Str))=false) (hlen:i<X.N.length)
  (he:starEach (e::es) X.env=(false,eval e X.env)::starEach es X.env) (hpl:(backTo pc (starEach es X.env)).any (·.1)=false) :
  vq X [.Assign [.Name b pb] (.Subscript (.Name x pt) ix ps) pa,.Return (some (.Call (.Name b p) (e::es) [] pc)) pr] (iF l i mi ms):=by
 obtain⟨a,vs,h1,h2,h3⟩:=g.ex
 intro pins s σ H E I h
 have hlσ:i < σ.length:=by
  have:σ.length=X.N.length:=I.len
  omega
 refine zO (Jo (i:=i) nd hN hl (Jy (KB h2) (xH (v:=.ref a) hg h1 rfl hx) hi hs) rfl hf) (Ez (Jp (JD hN hv hr ha hd hc he hpl))) pins s σ H E I ?_
 obtain⟨μ,S,env,o,hS,hE,hm,post⟩:=h
 obtain⟨⟨y,S1⟩,e1,hm⟩:=Option.bind_eq_some_iff.mp hm
 obtain⟨z,e2,hm⟩:=Option.bind_eq_some_iff.mp hm
 obtain⟨q,e3,hm⟩:=Option.bind_eq_some_iff.mp hm
 obtain⟨fa,v1,F⟩:=h3.val e3
 refine⟨μ,S,env,y,S1,hS,hE,e1,fun u H1 μ1 ex s1 r1=>⟨z,.ref fa,.ref fa,rfl,mU e2 r1,v1,rfl,?_⟩⟩
 obtain⟨⟨ws,S2⟩,e4,hm⟩:=Option.bind_eq_some_iff.mp hm
 dsimp only at hm
 split at hm
 ·rename_i hn
  obtain⟨⟨d,S3⟩,e5,hm⟩:=Option.bind_eq_some_iff.mp hm
  cases hm
  refine⟨fa,q.1,q.2,by rw [List.getElem?_set_self hlσ],F,zw ⟨μ1,S1,env.set i none,d,S3,s1,(hE.mono ex).setN i,?_,Post.ext ex post⟩⟩
  show (ms (env.set i none) S1).bind _=_
  rw [e4]
  exact(if_pos hn).trans e5
 ·cases hm
end
inductive FNs(mg:Str->Option Value):List (bC×Value)->List (Str×Str)->Prop
 | nil:FNs mg [] []
 | cons {x y:Str} {a:Addr} {vs:List (bC×Value)} {l:List (Str×Str)} (h:mg y=some (.ref a)) (t:FNs mg vs l):FNs mg ((.inr x,.ref a)::vs) ((x,y)::l)
structure FNm(w:World)(K:PySem.W.Frag)(mg:Str->Option Value)(x:Str)(l:List (Str×Str)):Prop where
 ex:∃ (a:Addr) (vs:List (bC×Value)),mg x=some (.ref a)/\(∀ (P:Program) (h:Heap),K.In h->h.DictOf (ca P w) a vs)/\FNs mg vs l
theorem SO{w:World}{K:PySem.W.Frag}{mg:Str->Option Value}{x:Str}{a:Addr}{es:List DictEntry}{n:Nat}{vs:List (bC×Value)}{l:List (Str×Str)}(hg:mg x=some (.ref a))(hl:K.lookup a=some ⟨.type "dict",none,.dict es.toArray n,#[]⟩)(t:TabLit w es vs)(hn:(vs.map (·.1)).Nodup)(r:FNs mg vs l):FNm w K mg x l:=
 ⟨a,vs,hg,zr hl (fun P=>by simpa using t.pairs) (fun P e he=>t.keys e (by simpa using he)) hn,r⟩
section
variable{P:Program}{w:World}{K:PySem.W.Frag}{mg:Str->Option Value}{base:Heap}{k:Nat}
def FFs(P:Program)(w:World)(K:PySem.W.Frag)(mg:Str->Option Value)(base:Heap)(k:Nat):List (Str×Str)->List (bC×Nat×(List D->ac->Option (D×ac)))->Prop
 | [],[]=>True
 | (x,y)::l,(z,n,f)::r=>z=.inr x/\Fn P w K mg base k y n f/\FFs P w K mg base k l r
 | _,_=>False
theorem FNs.rel:∀ {vs l r},FNs mg vs l->FFs P w K mg base k l r->FRel P w K mg base k vs r
 | _,_,[],.nil,_=>.nil
 | _,_,(z,n,f)::r,.cons h t,q=>by
  obtain⟨q1,q2,q3⟩:=q
  subst q1
  exact .cons (q2.at h) (t.rel q3)
theorem On{x:Str}{l:List (Str×Str)}{r:List (bC×Nat×(List D->ac->Option (D×ac)))}(T:FNm w K mg x l)(h:FFs P w K mg base k l r):FTab P w K mg base k x r:=by
 obtain⟨a,vs,h1,h2,h3⟩:=T.ex
 exact⟨a,vs,h1,h2,h3.rel h⟩
theorem FRel.up{k':Nat}(h:k<=k'):∀ {vs l},FRel P w K mg base k vs l->FRel P w K mg base k' vs l
 | _,_,.nil=>.nil
 | _,_,.cons q t=>.cons (by obtain⟨fd,ps,a,b,c⟩:=q.ex;exact⟨fd,ps,a,b.mono h,c⟩) (t.up h)
theorem FTab.up{k':Nat}{x:Str}{l:List (bC×Nat×(List D->ac->Option (D×ac)))}(T:FTab P w K mg base k x l)(h:k<=k'):FTab P w K mg base k' x l:=by
 obtain⟨a,vs,h1,h2,h3⟩:=T.ex
 exact⟨a,vs,h1,h2,h3.up h⟩
end
end M
namespace MI
open PySem PySem.Spec PyProof.Rows L2 M
@[irreducible] noncomputable def mC(d:D):ME:=M.mC d
theorem tB{d:D}:mC d=M.mC d:=by unfold mC;rfl
@[irreducible] noncomputable def ab(i:Nat):ME:=M.ab i
theorem EM{i:Nat}:ab i=M.ab i:=by unfold ab;rfl
@[irreducible] noncomputable def aq(f:ac->D->D->Option D)(a b:ME):ME:=M.aq f a b
theorem jN{f:ac->D->D->Option D}{a b:ME}:aq f a b=M.aq f a b:=by unfold aq;rfl
@[irreducible] noncomputable def ay(m:ME):MT:=M.ay m
theorem tf{m:ME}:ay m=M.ay m:=by unfold ay;rfl
@[irreducible] noncomputable def cX(f g:ac->D->D->Option D)(a b c:ME):ME:=M.cX f g a b c
theorem qb{f g:ac->D->D->Option D}{a b c:ME}:cX f g a b c=M.cX f g a b c:=by unfold cX;rfl
@[irreducible] noncomputable def cW(m:ME):MT:=M.cW m
theorem yf{m:ME}:cW m=M.cW m:=by unfold cW;rfl
@[irreducible] noncomputable def dh(a b:MT):MT:=M.dh a b
theorem tD{a b:MT}:dh a b=M.dh a b:=by unfold dh;rfl
@[irreducible] noncomputable def eV(a b:MT):MT:=M.eV a b
theorem yg{a b:MT}:eV a b=M.eV a b:=by unfold eV;rfl
@[irreducible] noncomputable def dJ(a:MT):MT:=M.dJ a
theorem AK{a:MT}:dJ a=M.dJ a:=by unfold dJ;rfl
@[irreducible] noncomputable def du(a b:ME):ME:=M.Kh a b
theorem EZ{a b:ME}:du a b=M.Kh a b:=by unfold du;rfl
@[irreducible] noncomputable def ve(a b:ME):ME:=M.RX a b
theorem JW{a b:ME}:ve a b=M.RX a b:=by unfold ve;rfl
@[irreducible] noncomputable def gH(a:ME):ME:=M.JY a
theorem AJ{a:ME}:gH a=M.JY a:=by unfold gH;rfl
@[irreducible] noncomputable def lJ(t:MT)(a b:ME):ME:=M.lJ t a b
theorem Kc{t:MT}{a b:ME}:lJ t a b=M.lJ t a b:=by unfold lJ;rfl
@[irreducible] noncomputable def ah:MA:=M.ah 
theorem yh  : ah  = M.ah  := by unfold ah;rfl
@[irreducible] noncomputable def aa(a:ME)(r:MA):MA:=M.aa a r
theorem AT{a:ME}{r:MA}:aa a r=M.aa a r:=by unfold aa;rfl
@[irreducible] noncomputable def aM(ms:MA):ME:=M.aM ms
theorem EN{ms:MA}:aM ms=M.aM ms:=by unfold aM;rfl
@[irreducible] noncomputable def ej(ms:MA):ME:=M.ej ms
theorem ET{ms:MA}:ej ms=M.ej ms:=by unfold ej;rfl
@[irreducible] noncomputable def dZ(ms:MA):ME:=M.dZ ms
theorem AM{ms:MA}:dZ ms=M.dZ ms:=by unfold dZ;rfl
@[irreducible] noncomputable def AG(f:ac->D->Option D)(a:ME):ME:=M.AG f a
theorem JV{f:ac->D->Option D}{a:ME}:AG f a=M.AG f a:=by unfold AG;rfl
@[irreducible] noncomputable def bv:MO:=M.bv 
theorem vT  : bv  = M.bv  := by unfold bv;rfl
@[irreducible] noncomputable def bS(m:ME):MO:=M.bS m
theorem AI{m:ME}:bS m=M.bS m:=by unfold bS;rfl
@[irreducible] noncomputable def bu(a:ME)(lo hi:MO):ME:=M.bu a lo hi
theorem vS{a:ME}{lo hi:MO}:bu a lo hi=M.bu a lo hi:=by unfold bu;rfl
@[irreducible] noncomputable def be(f:List D->ac->Option (D×ac))(ms:MA):ME:=M.be f ms
theorem ia{f:List D->ac->Option (D×ac)}{ms:MA}:be f ms=M.be f ms:=by unfold be;rfl
@[irreducible] noncomputable def dL(T:String)(m:ME):ME:=M.dL T m
theorem EU{T:String}{m:ME}:dL T m=M.dL T m:=by unfold dL;rfl
@[irreducible] noncomputable def ak(n:Nat)(f:List D->ac->Option (D×ac))(ms:MA):ME:=M.ak n f ms
theorem qc{n:Nat}{f:List D->ac->Option (D×ac)}{ms:MA}:ak n f ms=M.ak n f ms:=by unfold ak;rfl
@[irreducible] noncomputable def aY:MS:=M.aY 
theorem oX  : aY  = M.aY  := by unfold aY;rfl
@[irreducible] noncomputable def ax(a b:MS):MS:=M.ax a b
theorem EO{a b:MS}:ax a b=M.ax a b:=by unfold ax;rfl
@[irreducible] noncomputable def aV(m:ME):MS:=M.aV m
theorem EQ{m:ME}:aV m=M.aV m:=by unfold aV;rfl
@[irreducible] noncomputable def dM(m:ME):MS:=M.dM m
theorem AQ{m:ME}:dM m=M.dM m:=by unfold dM;rfl
@[irreducible] noncomputable def bD(t:MT)(a b:MS):MS:=M.bD t a b
theorem EV{t:MT}{a b:MS}:bD t a b=M.bD t a b:=by unfold bD;rfl
@[irreducible] noncomputable def ag(i:Nat):MG:=M.ag i
theorem mW{i:Nat}:ag i=M.ag i:=by unfold ag;rfl
@[irreducible] noncomputable def aB:uC:=M.aB 
theorem Bm  : aB  = M.aB  := by unfold aB;rfl
@[irreducible] noncomputable def af(g:MG)(gs:uC):uC:=M.af g gs
theorem wv{g:MG}{gs:uC}:af g gs=M.af g gs:=by unfold af;rfl
@[irreducible] noncomputable def aJ(n:Nat)(gs:uC):MG:=M.aJ n gs
theorem mq{n:Nat}{gs:uC}:aJ n gs=M.aJ n gs:=by unfold aJ;rfl
@[irreducible] noncomputable def gc(o i:ME):MG:=M.gc o i
theorem Bl{o i:ME}:gc o i=M.gc o i:=by unfold gc;rfl
@[irreducible] noncomputable def aD(m:ME)(g:MG):MS:=M.aD m g
theorem gZ{m:ME}{g:MG}:aD m g=M.aD m g:=by unfold aD;rfl
@[irreducible] noncomputable def cC(ms:MA):MA:=M.cC ms
theorem tq{ms:MA}:cC ms=M.cC ms:=by unfold cC;rfl
@[irreducible] noncomputable def dD(ms:MA):MA:=M.dD ms
theorem tm{ms:MA}:dD ms=M.dD ms:=by unfold dD;rfl
@[irreducible] noncomputable def jd(mi:MA)(g:MG)(body:MS):MS:=M.jd mi g body
theorem EW{mi:MA}{g:MG}{body:MS}:jd mi g body=M.jd mi g body:=by unfold jd;rfl
@[irreducible] noncomputable def bJ(mi:MA)(g:MG)(t:MT)(e:ME)(cap:List (Option Nat)):ME:=M.bJ mi g t e cap
theorem tz{mi:MA}{g:MG}{t:MT}{e:ME}{cap:List (Option Nat)}:bJ mi g t e cap=M.bJ mi g t e cap:=by unfold bJ;rfl
@[irreducible] noncomputable def da(m:ME):MA:=M.da m
theorem yi{m:ME}:da m=M.da m:=by unfold da;rfl
@[irreducible] noncomputable def bU:MT:=M.bU 
theorem AH  : bU  = M.bU  := by unfold bU;rfl
@[irreducible] noncomputable def dY(f:MF)(o:ME)(ms:MA):ME:=M.dY f o ms
theorem AL{f:MF}{o:ME}{ms:MA}:dY f o ms=M.dY f o ms:=by unfold dY;rfl
@[irreducible] noncomputable def eX(ms:MA):MA:=M.eX ms
theorem AO{ms:MA}:eX ms=M.eX ms:=by unfold eX;rfl
@[irreducible] noncomputable def lV(i j:Nat)(ms:MA):MS:=M.lV i j ms
theorem ER{i j:Nat}{ms:MA}:lV i j ms=M.lV i j ms:=by unfold lV;rfl
@[irreducible] noncomputable def jP(o:ME)(ms:MA):ME:=M.jP o ms
theorem EY{o:ME}{ms:MA}:jP o ms=M.jP o ms:=by unfold jP;rfl
@[irreducible] noncomputable def nB(ms:MA):MA:=M.nB ms
theorem EL{ms:MA}:nB ms=M.nB ms:=by unfold nB;rfl
@[irreducible] noncomputable def hX(ms:List (ME×ME)):ME:=M.hX ms
theorem AS{ms:List (ME×ME)}:hX ms=M.hX ms:=by unfold hX;rfl
@[irreducible] noncomputable def fq(ms:List (ME×ME)):ME:=M.fq ms
theorem vW{ms:List (ME×ME)}:fq ms=M.fq ms:=by unfold fq;rfl
@[irreducible] noncomputable def fh(f:MF)(o:ME)(ms:MA):ME:=M.fh f o ms
theorem vU{f:MF}{o:ME}{ms:MA}:fh f o ms=M.fh f o ms:=by unfold fh;rfl
@[irreducible] noncomputable def ee(m:ME)(g:MG)(body:MS):MS:=M.ee m g body
theorem AN{m:ME}{g:MG}{body:MS}:ee m g body=M.ee m g body:=by unfold ee;rfl
@[irreducible] noncomputable def fj(ms:MA):ME:=M.fj ms
theorem vV{ms:MA}:fj ms=M.fj ms:=by unfold fj;rfl
@[irreducible] noncomputable def fg(t:MT)(body:MS):MS:=M.fg t body
theorem vQ{t:MT}{body:MS}:fg t body=M.fg t body:=by unfold fg;rfl
@[irreducible] noncomputable def dC(l:List (bC×D))(a:ME):ME:=M.dC l a
theorem vR{l:List (bC×D)}{a:ME}:dC l a=M.dC l a:=by unfold dC;rfl
@[irreducible] noncomputable def df(m:ME)(g:MG)(t:MT)(e:ME)(cap:List (Option Nat)):ME:=M.df m g t e cap
theorem qa{m:ME}{g:MG}{t:MT}{e:ME}{cap:List (Option Nat)}:df m g t e cap=M.df m g t e cap:=by unfold df;rfl
@[irreducible] noncomputable def iF(l:List (bC×Nat×(List D->ac->Option (D×ac))))(i:Nat)(mi:ME)(ms:MA):MS:=M.iF l i mi ms
theorem AR{i:Nat}{mi:ME}{ms:MA}:iF l i mi ms=M.iF l i mi ms:=by unfold iF;rfl
theorem Df{f:List D->ac->Option (D×ac)}:ak 0 f ah=M.ak 0 f M.ah:=by rw [qc,yh]
theorem Db{f:ac->D->D->Option D}{a b:ME}:ay (aq f a b)=M.ay (M.aq f a b):=by rw [tf,jN]
theorem Dc{f g:ac->D->D->Option D}{a b c:ME}:ay (cX f g a b c)=M.ay (M.cX f g a b c):=by rw [tf,qb]
theorem og{m:ME}{i:Nat}:aD m (ag i)=M.aD m (M.ag i):=by rw [gZ,mW]
theorem AU{mi:MA}{g:MG}{t:MT}{e:ME}{cap:List (Option Nat)}{i:Nat}:aD (bJ mi g t e cap) (ag i)=M.aD (M.bJ mi g t e cap) (M.ag i):=by rw [gZ,mW,tz]
theorem yj{mi:ME}{g:MG}{t:MT}{e:ME}{cap:List (Option Nat)}{i:Nat}:aD (df mi g t e cap) (ag i)=M.aD (M.df mi g t e cap) (M.ag i):=by rw [gZ,mW,qa]
section
variable{X:Cx}{e:Expr}{es:List Expr}{s:Stmt}{ss:List Stmt}
theorem ce{m m':ME}(h:m=m')(d:DE X e m'):DE X e m:=by rw [h];exact d
theorem BK{m m':MT}(h:m=m')(d:DT X e m'):DT X e m:=by rw [h];exact d
theorem FF{m m':MT}(h:m=m')(d:DW X e m'):DW X e m:=by rw [h];exact d
theorem Qx{m m':MA}(h:m=m')(d:DA X es m'):DA X es m:=by rw [h];exact d
theorem Qw{o:Option Expr}{m m':MO}(h:m=m')(d:DO X o m'):DO X o m:=by rw [h];exact d
theorem FG{m m':MG}(h:m=m')(d:DG X e m'):DG X e m:=by rw [h];exact d
theorem Mk{m m':uC}(h:m=m')(d:Us X es m'):Us X es m:=by rw [h];exact d
theorem wK{tg:Expr}{m m':MA}(h:m=m')(d:DI X tg e m'):DI X tg e m:=by rw [h];exact d
theorem TW{m m':MT}(h:m=m')(d:Mx X es m'):Mx X es m:=by rw [h];exact d
theorem iG{m m':MS}(h:m=m')(d:DS X s m'):DS X s m:=by rw [h];exact d
theorem Ec{m m':MS}(h:m=m')(d:vq X ss m'):vq X ss m:=by rw [h];exact d
end
end MI
namespace MI
open PySem PySem.Spec PyProof.Rows L2 M
inductive GI where
 | fn (n:Nat) (f:List D->ac->Option (D×ac))
 | con (d:D)
 | blt
 | tab (l:List (bC×D))
 | ftab (l:List (bC×Nat×(List D->ac->Option (D×ac))))
structure CI where
 N:List Str
 sc:Scope
 all:Bool
 gs:List (Str×GI)
 mt:List Nat
def GOk(X:Cx)(k:Nat)(x:Str):GI->Prop
 | .fn n f=>Fn X.prog X.w X.K X.mg X.base k x n f
 | .con d=>GC X.K X.mg x d
 | .blt=>X.mg x=none
 | .tab l=>uA X.w X.K X.mg x l
 | .ftab l=>FTab X.prog X.w X.K X.mg X.base k x l
structure jB(k:Nat)(c:CI)(X:Cx):Prop where
 N:X.N=c.N
 nd:c.N.Nodup
 sc:X.env.scope=c.sc
 fk:c.sc.kind=.function
 fn:c.all=true->∀ x,X.fn x=true
 calm:X.calm=true
 room:Room k X.A
 xe:X.xe=fun _ _=>False
 gs:∀ p∈c.gs,GOk X k p.1 p.2
def iE:ME:=fun _ _=>none
def vf:MT:=fun _ _=>none
def jO:MS:=fun _ _=>none
def vg:MA:=fun _ _=>none
def KJ:MG:=fun _ _ _=>none
section
variable{X:Cx}{k:Nat}{c:CI}{e:Expr}{pos:Pos}
theorem cn:DE X e iE:=fun _ _ _ _ _ _ ⟨_,_,_,_,_,_,_,h,_⟩=>by cases h
theorem pG:DT X e vf:=fun _ _ _ _ _ _ ⟨_,_,_,_,_,_,_,h,_⟩=>by cases h
theorem lG{s:Stmt}:DS X s jO:=fun _ _ _ _ _ _ ⟨_,_,_,_,_,_,h,_⟩=>by cases h
theorem ds_asgNo{s:Stmt}{g:MG}:DS X s (aD iE g):=by
 rw [show aD iE g=jO from by rw [gZ];rfl]
 exact lG
theorem To{s:List Stmt}:vq X s jO:=fun _ _ _ _ _ _ ⟨_,_,_,_,_,_,h,_⟩=>by cases h
theorem da_no{es:List Expr}:DA X es vg:=fun _ _ _ _ _ _ _ ⟨_,_,_,_,_,_,_,h,_⟩=>by cases h
theorem um{tg:Expr}:DI X tg e vg:=fun _ _ _ _ _ _ ⟨_,_,_,_,_,_,_,h,_⟩=>by cases h
theorem BF:DG X e KJ:=fun _ _ _ _ _ _ _ _ _ ⟨_,_,_,_,_,_,_,_,_,h,_⟩=>by cases h
def om(x:Str):List Str->Option Nat
 | []=>none
 | y::r=>if x == y then some 0 else (om x r).map (· + 1)
theorem cU{x:Str}:∀ {l:List Str} {i:Nat},om x l=some i->l[i]?=some x
 | y::r,i,h=>by
  unfold om at h
  split at h
  ·rename_i e;cases h;simp at e;simp [e]
  ·cases q:om x r with
   | none=>rw [q] at h;cases h
   | some j=>rw [q] at h;cases h;simpa using cU q
def eZ(x:Str):Bool:=!(x == ("__debug__":Str)) && !(x == ("__classdict__":Str)) && !(x == ("__name__":Str))
theorem cV{x:Str}(h:eZ x=true):(x == ("__debug__":Str))=false:=by
 unfold eZ at h;rw [Bool.and_eq_true,Bool.and_eq_true] at h;simpa only [Bool.not_eq_true'] using h.1.1
theorem Ac{x:Str}(h:eZ x=true):(x == ("__classdict__":Str))=false:=by
 unfold eZ at h;rw [Bool.and_eq_true,Bool.and_eq_true] at h;simpa only [Bool.not_eq_true'] using h.1.2
theorem hV{x:Str}(h:eZ x=true):x ≠ "__name__":=by
 unfold eZ at h;rw [Bool.and_eq_true,Bool.and_eq_true] at h
 have:=h.2
 rw [Bool.not_eq_true'] at this
 intro z;rw [z] at this;simp at this
def Qk(c:CI)(x:Str):Option GI:=match c.sc.names.lookup x with | some .globalImplicit=>if eZ x then c.gs.lookup x else none | _=>none
theorem jf{g:GI}{x:Str}(C:jB k c X)(h:Qk c x=some g):Gl X x/\eZ x=true/\GOk X k x g:=by
 unfold Qk at h
 split at h
 ·rename_i e
  split at h
  ·rename_i o
   refine⟨?_,o,C.gs _ (PySem.mem_of_lookup h)⟩
   show X.env.scope.names.lookup x=_
   rw [C.sc,e]
  ·cases h
 ·cases h
def DF(c:CI)(x:Str):ME:=match c.sc.names.lookup x with
 | some .globalImplicit=>match Qk c x with | some (.con d)=>mC d | _=>iE
 | some .local=>match om x c.N with | some i=>if eZ x then ab i else iE | none=>iE
 | some .cell=>match om x c.N with | some i=>if eZ x then ab i else iE | none=>iE
 | some .free=>match om x c.N with | some i=>if eZ x then ab i else iE | none=>iE
 | _=>iE
theorem ou(C:jB k c X){x:Str}(hv:Uj c.sc x):DE X (.Name x pos) (match om x c.N with | some i=>if eZ x then ab i else iE | none=>iE):=by
 split
 ·rename_i i e
  split
  ·rename_i o
   exact ce EM <| M.Tx (by rw [C.N];exact cU e) (by rw [C.sc];exact hv) (cV o) (Ac o)
  ·exact cn
 ·exact cn
theorem Hu(C:jB k c X)(x:Str):DE X (.Name x pos) (DF c x):=by
 unfold DF
 split
 ·split
  ·rename_i d e
   obtain⟨g,o,G⟩:=jf C e
   exact ce tB <| M.OX G g (cV o)
  ·exact cn
 ·rename_i e;exact ou C (.inl e)
 ·rename_i e;exact ou C (.inr (.inl e))
 ·rename_i e;exact ou C (.inr (.inr e))
 ·exact cn
def Fw:Const->ME
 | .int i=>mC (.int i)
 | .bool b=>mC (.bl b)
 | .none=>mC .non
 | .str x=>mC (.str x)
 | _=>iE
theorem DK(v:Const){j:Nat}:DE X (.Constant v j pos) (Fw v):=by
 cases v <;> first | exact ce tB <| M.TK | exact ce tB <| M.de_bl | exact ce tB <| M.TF | exact ce tB <| M.TC | exact cn
def Lr(z:Bool)(op:Operator)(a b:ME):ME:=match op with
 | .Add=>aq aR a b
 | .Sub=>aq nD a b
 | .Mult=>aq cw a b
 | .Mod=>aq lu a b
 | .FloorDiv=>aq Hr a b
 | .Pow=>aq vi a b
 | _=>iE
theorem Lq{z:Bool}{op:Operator}{a b:Expr}{ma mb:ME}(ha:DE X a ma)(hb:DE X b mb):DE X (.BinOp a op b pos) (Lr z op ma mb):=by
 cases op <;> first | exact cn | skip
 ·exact ce jN <| M.wG NJ ha hb
 ·exact ce jN <| M.wG RG ha hb
 ·exact ce jN <| M.wG NI ha hb
 ·exact ce jN <| M.wG RJ ha hb
 ·exact ce jN <| M.wG RH ha hb
 ·exact ce jN <| M.wG RK ha hb
def evUn(op:UnaryOp)(a:ME):ME:=match op with
 | .Not=>gH a
 | .USub=>AG Ho a
 | _=>iE
theorem OC{op:UnaryOp}{a:Expr}{ma:ME}(ha:DE X a ma):DE X (.UnaryOp op a pos) (evUn op ma):=by
 cases op <;> first | exact cn | skip
 ·exact ce AJ <| M.OV ha
 ·exact ce JV <| M.de_un MB ha
def Eb:CmpOp->Option (ac->D->D->Option D)
 | .Eq=>some bX
 | .NotEq=>some gk
 | .Lt=>some Oy
 | .LtE=>some Oz
 | .Gt=>some fGt
 | .GtE=>some fGe
 | .In=>some oB
 | .NotIn=>some qm
 | .Is=>some vj
 | .IsNot=>some mr
theorem nu{op:CmpOp}{f:ac->D->D->Option D}(r:Room k X.A)(h:Eb op=some f):OpR X (compareOp op) (nz X.K f):=by
 cases op <;> cases h
 ·exact op_Eq r.units
 ·exact op_Ne r.units
 ·exact op_Lt
 ·exact op_Le
 ·exact op_Gt
 ·exact op_Ge
 ·exact op_Is
 ·exact JJ
 ·exact op_In r.units
 ·exact JI r.units
def la:Expr->Bool
 | .Set _ _ _=>false
 | _=>true
theorem iJ{op:CmpOp}(h:la e=true):behindInMarks op e=false:=by cases e <;> first | rfl | cases h
theorem fZ(h:la e=true)(x:Value):foldedSetIterable e X.env x=pure x:=by cases e <;> first | rfl | cases h
def Lp(c:CI)(E:CI->Expr->ME)(a:Expr)(ops:List CmpOp)(bs:List Expr):ME:=match ops,bs with
 | [op],[b]=>if la b then (match Eb op with | some f=>aq f (E c a) (E c b) | none=>iE) else iE
 | [op,op'],[b,d]=>if la d then (match Eb op,Eb op' with | some f,some g=>cX f g (E c a) (E c b) (E c d) | _,_=>iE) else iE
 | _,_=>iE
def DL(c:CI)(E:CI->Expr->ME)(a:Expr)(ops:List CmpOp)(bs:List Expr):MT:=match ops,bs with
 | [op],[b]=>if la b then (match Eb op with | some f=>ay (aq f (E c a) (E c b)) | none=>vf) else vf
 | [op,op'],[b,d]=>if la d then (match Eb op,Eb op' with | some f,some g=>ay (cX f g (E c a) (E c b) (E c d)) | _,_=>vf) else vf
 | _,_=>vf
section
variable{E:CI->Expr->ME}{T:CI->Expr->MT}
theorem Lo(C:jB k c X)(hE:∀ e,DE X e (E c e)){a:Expr}{ops:List CmpOp}{bs:List Expr}:DE X (.Compare a ops bs pos) (Lp c E a ops bs):=by
 unfold Lp
 split
 ·split
  ·rename_i hm
   split
   ·rename_i f h;exact ce jN <| M.TM (nu C.room h) (hE _) (hE _) (iJ hm)
   ·exact cn
  ·exact cn
 ·split
  ·rename_i hm
   split
   ·rename_i f g h1 h2;exact ce qb <| M.Mc (nu C.room h1) (nu C.room h2) (hE _) (hE _) (hE _) (iJ hm)
   ·exact cn
  ·exact cn
 ·exact cn
theorem Hz(C:jB k c X)(hE:∀ e,DE X e (E c e)){a:Expr}{ops:List CmpOp}{bs:List Expr}:DT X (.Compare a ops bs pos) (DL c E a ops bs):=by
 unfold DL
 split
 ·split
  ·rename_i hm
   split
   ·rename_i f h;exact BK Db <| M.Tl (nu C.room h) (hE _) (hE _) (iJ hm)
   ·exact pG
  ·exact pG
 ·split
  ·rename_i hm
   split
   ·rename_i f g h1 h2;exact BK Dc <| M.LF (nu C.room h1) (nu C.room h2) (hE _) (hE _) (hE _) (iJ hm)
   ·exact pG
  ·exact pG
 ·exact pG
def Bq(f:ME->ME->ME):List ME->ME
 | []=>iE
 | [m]=>m
 | m::r=>f m (Bq f r)
def ub(f:MT->MT->MT):List MT->MT
 | []=>vf
 | [m]=>m
 | m::r=>f m (ub f r)
theorem wz{E:Expr->ME}(hE:∀ e,DE X e (E e)):∀ vs:List Expr,DE X (.BoolOp .And vs pos) (Bq du (vs.map E))
 | []=>cn
 | [e]=>LX (hE e)
 | e::e'::r=>ce EZ <| M.Pc (hE e) (wz hE (e'::r))
theorem Bp{E:Expr->ME}(hE:∀ e,DE X e (E e)):∀ vs:List Expr,DE X (.BoolOp .Or vs pos) (Bq ve (vs.map E))
 | []=>cn
 | [e]=>LX (hE e)
 | e::e'::r=>ce JW <| M.TD (hE e) (Bp hE (e'::r))
theorem Hl{E:Expr->MT}(hE:∀ e,DT X e (E e)):∀ vs:List Expr,DT X (.BoolOp .And vs pos) (ub dh (vs.map E))
 | []=>pG
 | [e]=>OI (Fz (hE e))
 | e::e'::r=>OI (FF tD <| M.LB (hE e) (foldT_andW hE (e'::r) (by simp)))
where foldT_andW {E:Expr->MT} (hE:∀ e,DT X e (E e)):∀ vs:List Expr,vs≠[]->DW X (.BoolOp .And vs pos) (ub dh (vs.map E))
 | [],h=>absurd rfl h
 | [e],_=>Fz (hE e)
 | e::e'::r,_=>FF tD <| M.LB (hE e) (foldT_andW hE (e'::r) (by simp))
theorem KM{E:Expr->MT}(hE:∀ e,DT X e (E e)):∀ vs:List Expr,DT X (.BoolOp .Or vs pos) (ub eV (vs.map E))
 | []=>pG
 | [e]=>OI (LA (hE e))
 | e::e'::r=>OI (FF yg <| M.Qr (hE e) (foldT_orW hE (e'::r) (by simp)))
where foldT_orW {E:Expr->MT} (hE:∀ e,DT X e (E e)):∀ vs:List Expr,vs≠[]->DW X (.BoolOp .Or vs pos) (ub eV (vs.map E))
 | [],h=>absurd rfl h
 | [e],_=>LA (hE e)
 | e::e'::r,_=>FF yg <| M.Qr (hE e) (foldT_orW hE (e'::r) (by simp))
def cx:Expr->Bool
 | .Starred _ _=>false
 | _=>true
theorem bL{es:List Expr}(h:cx e=true):starEach (e::es) X.env=(false,eval e X.env)::starEach es X.env:=by cases e <;> first | rfl | cases h
theorem gI:∀ {es:List Expr},es.all cx=true->(backTo pos (starEach es X.env)).any (·.1)=false
 | [],_=>rfl
 | e::es,h=>by
  rw [List.all_cons,Bool.and_eq_true] at h
  rw [bL h.1]
  show (false||(backTo pos (starEach es X.env)).any (·.1))=false
  rw [gI h.2];rfl
def wE(E:Expr->ME):List Expr->MA
 | []=>ah
 | e::r=>if cx e then aa (E e) (wE E r) else vg
theorem fz{E:Expr->ME}(hE:∀ e,DE X e (E e)):∀ es:List Expr,DA X es (wE E es)
 | []=>Qx yh <| M.TN
 | e::r=>by
  unfold wE
  split
  ·rename_i h;exact Qx AT <| M.Pe (hE e) (fz hE r) (bL h)
  ·exact da_no
def evO(E:Expr->ME):Option Expr->MO
 | none=>bv
 | some e=>bS (E e)
theorem Ll{E:Expr->ME}(hE:∀ e,DE X e (E e)):∀ o:Option Expr,DO X o (evO E o)
 | none=>Qw vT <| M.OS
 | some e=>Qw AI <| M.OR (hE e)
def zt(c:CI):Expr->Option (List (bC×D))
 | .Name x _=>match Qk c x with | some (.tab l)=>some l | _=>none
 | _=>none
theorem BZ{a:Expr}{l:List (bC×D)}(C:jB k c X)(h:zt c a=some l):∃ x p,a=.Name x p/\Gl X x/\eZ x=true/\uA X.w X.K X.mg x l:=by
 unfold zt at h
 split at h
 ·split at h
  ·rename_i e
   cases h
   obtain⟨g,o,G⟩:=jf C e
   exact⟨_,_,rfl,g,o,G⟩
  ·cases h
 ·cases h
def Qo(c:CI)(E:Expr->ME)(a i:Expr):ME:=match i with
 | .Slice lo hi st _=>match st with | none=>bu (E a) (evO E lo) (evO E hi) | some st=>(match lo,hi with | none,none=>iE | _,_=>iE)
 | i=>match zt c a with | some l=>dC l (E i) | none=>aq ar (E a) (E i)
theorem Ht(C:jB k c X){E:Expr->ME}(hE:∀ e,DE X e (E e))(a i:Expr)(hs:nw i:=by intro _ _;rfl):DE X (.Subscript a i pos) (match zt c a with | some l=>dC l (E i) | none=>aq ar (E a) (E i)):=by
 cases ht:zt c a with
 | none=>exact ce jN <| M.TJ (by have:=C.room.units;omega) (hE a) (hE _) hs
 | some l=>
  obtain⟨x,p,rfl,g,o,G⟩:=BZ C ht
  exact ce vR (M.LV G g (cV o) (hE _) hs)
theorem Li(C:jB k c X){E:Expr->ME}(hE:∀ e,DE X e (E e))(a i:Expr):DE X (.Subscript a i pos) (Qo c E a i):=by
 cases i with
 | Slice lo hi st p=>
  cases st with
  | none=>exact ce vS <| M.LW (hE a) (Ll hE lo) (Ll hE hi)
  | some st=>
   cases lo with
   | none=>
    cases hi with
    | none=>exact cn
    | some _=>exact cn
   | some _=>exact cn
 | _=>exact Ht C hE a _
def sL:Expr->Option Str
 | .Name x _=>some x
 | _=>none
theorem lT{x:Str}(h:sL e=some x):∃ p,e=.Name x p:=by cases e <;> cases h;exact⟨_,rfl⟩
def uu:Expr->Option (Str×List Expr)
 | .Call f es [] _=>(sL f).map fun x=>(x,es)
 | _=>none
theorem mJ{x:Str}{es:List Expr}(h:uu e=some (x,es)):∃ p p2,e=.Call (.Name x p) es [] p2:=by
 cases e with
 | Call f es' ks p2=>
  cases ks with
  | nil=>
   obtain⟨y,h1,h2⟩:=Option.map_eq_some_iff.mp h
   cases h2
   obtain⟨p,rfl⟩:=lT h1
   exact⟨p,p2,rfl⟩
  | cons _ _=>cases h
 | _=>cases h
def nL(c:CI)(x:Str):Bool:=match Qk c x with | some .blt=>true | _=>false
theorem lZ{x:Str}(C:jB k c X)(h:nL c x=true):X.mg x=none/\Gl X x/\eZ x=true:=by
 unfold nL at h
 split at h
 ·rename_i e;obtain⟨a,b,d⟩:=jf C e;exact⟨d,a,b⟩
 ·cases h
def Ch(c:CI)(es:List Expr):Option Expr:=match es with
 | [e1]=>match uu e1 with
  | some (y,[a])=>if y == "set" && nL c y&&cx a then some a else none
  | _=>none
 | _=>none
theorem zA{es:List Expr}{a:Expr}(h:Ch c es=some a):∃ p p2,es=[.Call (.Name "set" p) [a] [] p2]/\nL c "set" = true/\cx a=true:=by
 unfold Ch at h
 split at h
 ·split at h
  ·rename_i hc
   split at h
   ·rename_i hb
    cases h
    rw [Bool.and_eq_true,Bool.and_eq_true] at hb
    obtain⟨p,p2,rfl⟩:=mJ hc
    have z:=hb.1.1
    rw [beq_iff_eq] at z;subst z
    exact⟨p,p2,rfl,hb.1.2,hb.2⟩
   ·cases h
  ·cases h
 ·cases h
def sr(c:CI)(es:List Expr):Option Expr:=match es with
 | [e1]=>match uu e1 with
  | some (y,[a])=>if y == "range" && nL c y&&cx a then some a else none
  | _=>none
 | _=>none
theorem uM{es:List Expr}{a:Expr}(h:sr c es=some a):∃ p p2,es=[.Call (.Name "range" p) [a] [] p2]/\nL c "range" = true/\cx a=true:=by
 unfold sr at h
 split at h
 ·split at h
  ·rename_i hc
   split at h
   ·rename_i hb
    cases h
    rw [Bool.and_eq_true,Bool.and_eq_true] at hb
    obtain⟨p,p2,rfl⟩:=mJ hc
    have z:=hb.1.1
    rw [beq_iff_eq] at z;subst z
    exact⟨p,p2,rfl,hb.1.2,hb.2⟩
   ·cases h
  ·cases h
 ·cases h
def Ub(z:Bool)(x:Str):Option (List D->ac->Option (D×ac)):=
 if x == "len" then some (aP fN) else if x == "int" then some (aP kI) else if x == "max" then some (aP nR) else if x == "min" then some (aP Bw)
 else if x == "list" then some (aP (cm .lst)) else if x == "tuple" then some (aP (cm .tup)) else if x == "all" then some (aP yL) else none
theorem Pl{zz:Bool}{x:Str}{f:List D->ac->Option (D×ac)}{es:List Expr}{ms:MA}{p:Pos}(C:jB k c X)(h:Ub zz x=some f)(hm:X.mg x=none)(hg:Gl X x)(o:eZ x=true)(hs:(e::es).all cx=true)(ha:DA X (e::es) ms) :
  DE X (.Call (.Name x p) (e::es) [] pos) (be f ms):=by
 rw [List.all_cons,Bool.and_eq_true] at hs
 have q1:=bL (X:=X) (es:=es) hs.1
 have q2:=gI (X:=X) (pos:=pos) hs.2
 unfold Ub at h
 split at h
 ·rename_i z;cases h;rw [beq_iff_eq] at z;subst z;exact ce ia <| M.pI Ml hm boot_len ha hg (hV o) (cV o) q1 q2
 split at h
 ·rename_i z;cases h;rw [beq_iff_eq] at z;subst z;exact ce ia <| M.qr Mm hm boot_int ha hg (hV o) (cV o) q1 q2
 split at h
 ·rename_i z;cases h;rw [beq_iff_eq] at z;subst z;exact ce ia <| M.pI (Ig C.calm) hm boot_max ha hg (hV o) (cV o) q1 q2
 split at h
 ·rename_i z;cases h;rw [beq_iff_eq] at z;subst z;exact ce ia <| M.pI (Ie C.calm) hm boot_min ha hg (hV o) (cV o) q1 q2
 split at h
 ·rename_i z;cases h;rw [beq_iff_eq] at z;subst z;exact ce ia <| M.qr Ii hm boot_list ha hg (hV o) (cV o) q1 q2
 split at h
 ·rename_i z;cases h;rw [beq_iff_eq] at z;subst z;exact ce ia <| M.qr Ef hm boot_tuple ha hg (hV o) (cV o) q1 q2
 split at h
 ·rename_i z;cases h;rw [beq_iff_eq] at z;subst z;exact ce ia <| M.pI (Mn C.calm) hm boot_all ha hg (hV o) (cV o) q1 q2
 cases h
def QJ(x:Str):Option String:=if x == "int" then some "int" else if x == "bool" then some "bool" else if x == "str" then some "str" else if x == "tuple" then some "tuple" else if x == "list" then some "list" else if x == "dict" then some "dict" else none
theorem Et{x:Str}{T:String}(h:QJ x=some T):bootBuiltins x=some (.type T)/\(T = "int"\/T = "bool"\/T = "str"\/T = "tuple"\/T = "list"\/T = "dict"):=by
 unfold QJ at h
 split at h
 ·rename_i z;cases h;rw [beq_iff_eq] at z;subst z;exact⟨boot_int,by simp⟩
 split at h
 ·rename_i z;cases h;rw [beq_iff_eq] at z;subst z;exact⟨boot_bool,by simp⟩
 split at h
 ·rename_i z;cases h;rw [beq_iff_eq] at z;subst z;exact⟨boot_str,by simp⟩
 split at h
 ·rename_i z;cases h;rw [beq_iff_eq] at z;subst z;exact⟨boot_tuple,by simp⟩
 split at h
 ·rename_i z;cases h;rw [beq_iff_eq] at z;subst z;exact⟨boot_list,by simp⟩
 split at h
 ·rename_i z;cases h;rw [beq_iff_eq] at z;subst z;exact⟨boot_dict,by simp⟩
 cases h
def Qp(c:CI)(E:Expr->ME):List Expr->ME
 | [a,t]=>match sL t with
  | some y=>match Qk c y,QJ y with | some .blt,some T=>if cx a then dL T (E a) else iE | _,_=>iE
  | none=>iE
 | _=>iE
def yO(c:CI)(E:Expr->ME)(x:Str)(es:List Expr):ME:=match Qk c x with
 | some (.fn n f)=>match es with
  | []=>if n == 0 then ak 0 f ah else iE
  | e::r=>if (e::r).all cx then ak n f (wE E (e::r)) else iE
 | some .blt=>if x == "isinstance" then Qp c E es else match (if x == "len" then Ch c es else none) with
  | some a=>iE
  | none=>match (if x == "list" then sr c es else none) with
  | some a=>fj (wE E [a])
  | none=>match Ub (c.mt.contains 400000) x,es with
   | some f,e::r=>if (e::r).all cx then be f (wE E (e::r)) else iE
   | _,_=>iE
 | _=>iE
theorem HA(C:jB k c X){E:Expr->ME}(hE:∀ e,DE X e (E e)){x:Str}{es:List Expr}{p:Pos}:DE X (.Call (.Name x p) es [] pos) (yO c E x es):=by
 unfold yO
 split
 ·rename_i n f hg
  obtain⟨g,o,G⟩:=jf C hg
  split
  ·split
   ·rename_i hn
    have:n=0:=by simpa using hn
    subst this
    exact ce Df <| M.Md G C.room g (cV o)
   ·exact cn
  ·split
   ·rename_i hs
    have hs':=hs
    rw [List.all_cons,Bool.and_eq_true] at hs
    exact ce qc <| M.Pb G C.room (fz hE _) g (cV o) (bL hs.1) (gI hs.2)
   ·exact cn
 ·rename_i hg
  obtain⟨g,o,G⟩:=jf C hg
  split
  ·rename_i z
   rw [beq_iff_eq] at z;subst z
   unfold Qp
   split
   ·split
    ·rename_i y hy
     obtain⟨p2,rfl⟩:=lT hy
     split
     ·rename_i T h1 h2
      obtain⟨g',o',G'⟩:=jf C h1
      split
      ·rename_i hs
       exact ce EU <| M.HN G G' (Et h2).1 (hE _) (Et h2).2 g g' (hV o') (cV o') (bL hs) rfl rfl
      ·exact cn
     ·exact cn
    ·exact cn
   ·exact cn
  ·split
   ·rename_i a ha
    split at ha
    ·rename_i z
     rw [beq_iff_eq] at z;subst z
     obtain⟨p3,p4,rfl,hb,hs⟩:=zA ha
     obtain⟨m2,g2,o2⟩:=lZ C hb
     exact cn
    ·cases ha
   ·split
    ·rename_i a ha
     split at ha
     ·rename_i z
      rw [beq_iff_eq] at z;subst z
      obtain⟨p3,p4,rfl,hb,hs⟩:=uM ha
      obtain⟨m2,g2,o2⟩:=lZ C hb
      exact ce vV (M.LZ C.calm G m2 g g2 (fz hE _) (bL hs))
     ·cases ha
    ·split
     ·rename_i _ f e r hf
      split
      ·rename_i hs
       exact Pl C (by assumption) G g o hs (fz hE _)
      ·exact cn
     ·exact cn
 ·exact cn
def Eh:Expr->Option (Expr×Str×Pos)
 | .Attribute o nm ap=>some (o,nm,ap)
 | _=>none
theorem BO{o:Expr}{nm:Str}{ap:Pos}(h:Eh e=some (o,nm,ap)):e=.Attribute o nm ap:=by cases e <;> cases h;rfl
def JO(x:Str):Option MF:=if x == "append" then some cO else if x == "count" then some mY else if x == "index" then some mw else none
theorem JN{x:Str}{f:MF}(C:jB k c X)(h:JO x=some f):∃ id,Slot "list" x id/\typeOf (.builtin id)=pure (.type "method_descriptor")/\MtR X id (Na X.K f):=by
 unfold JO at h
 split at h
 ·rename_i z;cases h;rw [beq_iff_eq] at z;subst z;exact⟨_,F.slot_list_append,F.type_list_append,GD⟩
 split at h
 ·rename_i z;cases h;rw [beq_iff_eq] at z;subst z;exact⟨_,F.slot_list_count,F.type_list_count,Ah C.room.units⟩
 split at h
 ·rename_i z;cases h;rw [beq_iff_eq] at z;subst z;exact⟨_,F.slot_list_index,F.type_list_index,JM C.room.units⟩
 cases h
def CL(x:Str):Option MF:=if x == "update" then some uf else none
theorem GE{x:Str}{f:MF}(C:jB k c X)(h:CL x=some f):∃ id,Slot "dict" x id/\typeOf (.builtin id)=pure (.type "method_descriptor")/\MtR X id (Na X.K f):=by
 unfold CL at h
 split at h
 ·rename_i z;cases h;rw [beq_iff_eq] at z;subst z;exact⟨_,F.slot_dict_update,F.type_dict_update,NR⟩
 cases h
theorem zx:∀ {es:List Expr},es.all cx=true->(backTo pos (starEach es X.env)).all (fun x=>!x.1)=true
 | [],_=>rfl
 | e::es,h=>by
  rw [List.all_cons,Bool.and_eq_true] at h
  rw [bL h.1]
  show (true&&(backTo pos (starEach es X.env)).all (fun x=>!x.1))=true
  rw [zx h.2];rfl
def Rg(o:Expr):Bool:=match o with | .Call _ _ _ _=>false | _=>true
def yN(z:Bool)(E:Expr->ME)(o:Expr)(nm:Str)(ap cp:Pos)(es:List Expr):ME:=match Rg o,es with
 | true,e::r=>if (e::r).all cx&&(decide ((e::r).length<30)&&ap.endLine == cp.line) then
   (if nm == "count" then jP (E o) (wE E (e::r)) else match CL nm with | some f=>fh f (E o) (wE E (e::r)) | none=>match JO nm with | some f=>dY f (E o) (wE E (e::r)) | none=>iE) else iE
 | _,_=>iE
theorem Hv{z:Bool}(C:jB k c X){E:Expr->ME}(hE:∀ e,DE X e (E e)){o:Expr}{nm:Str}{ap:Pos}{es:List Expr}:DE X (.Call (.Attribute o nm ap) es [] pos) (yN z E o nm ap pos es):=by
 unfold yN
 split
 ·rename_i e r hx
  split
  ·rename_i h
   rw [Bool.and_eq_true,Bool.and_eq_true] at h
   have hs:=h.1
   rw [List.all_cons,Bool.and_eq_true] at hs
   have few:((backTo pos (starEach (e::r) X.env)).all (fun x=>!x.1)&&(backToKw pos (keywordEach [] X.env)).all (fun x=>x.1.isSome)&&decide ((e::r).length+([]:List Keyword).length+(if ([]:List Keyword).isEmpty then 0 else 1)<30))=true:=by
    rw [zx h.1]
    show (true&&decide ((e::r).length+0+0<30))=true
    exact h.2.1
   split
   ·rename_i hc
    rw [beq_iff_eq] at hc;subst hc
    exact ce EY (M.TL C.room.units (hE _) (fz hE _) (uy hx) few h.2.2 (bL hs.1) (gI hs.2))
   ·split
    ·rename_i f hf
     obtain⟨id,h1,h2,h3⟩:=GE C hf
     exact ce vU (M.LY h1 h2 h3 (hE _) (fz hE _) (uy hx) few h.2.2 (bL hs.1) (gI hs.2))
    ·split
     ·rename_i f hf
      obtain⟨id,h1,h2,h3⟩:=JN C hf
      exact ce AL (M.FC h1 h2 h3 (hE _) (fz hE _) (uy hx) few h.2.2 (bL hs.1) (gI hs.2))
     ·exact cn
  ·exact cn
 ·exact cn
def Ad:Expr->Bool
 | .Slice _ _ _ _=>false
 | _=>true
def Hx(G:Expr->MG):List Expr->uC
 | []=>aB
 | e::r=>af (if cx e then G e else KJ) (Hx G r)
def rq(c:CI)(x:Str):MG:=match c.sc.names.lookup x,om x c.N with
 | some .local,some i=>ag i
 | some .cell,some i=>if c.all then ag i else KJ
 | _,_=>KJ
def OF(c:CI)(E:Expr->ME):Expr->MG
 | .Name x _=>rq c x
 | .Subscript o i _=>if Ad i then gc (E o) (E i) else KJ
 | _=>KJ
def Mw(c:CI)(E:Expr->ME):Expr->MG
 | .Tuple es _ _=>if es.all cx then aJ es.length (Hx (fun e=>match e with | .Tuple es _ _=>if es.all cx then aJ es.length (Hx (OF c E) es) else KJ | e=>OF c E e) es) else KJ
 | e=>OF c E e
theorem OD(C:jB k c X)(x:Str):DG X (.Name x pos) (rq c x):=by
 unfold rq
 split
 ·rename_i h1 h2
  exact FG mW <| M.FB (by rw [C.N];exact C.nd) (by rw [C.N];exact cU h2) (by rw [C.sc];exact .inl h1) (.inr (by rw [C.sc];exact h1))
 ·rename_i h1 h2
  split
  ·rename_i ha
   exact FG mW <| M.FB (by rw [C.N];exact C.nd) (by rw [C.N];exact cU h2) (by rw [C.sc];exact .inr h1) (.inl (C.fn ha x))
  ·exact BF
 ·exact BF
theorem OE(C:jB k c X){E:Expr->ME}(hE:∀ e,DE X e (E e))(e:Expr):DG X e (OF c E e):=by
 cases e with
 | Name x p=>exact OD C x
 | Subscript o i p=>
  show DG X _ (if Ad i then gc (E o) (E i) else KJ)
  split
  ·rename_i h
   refine FG Bl (M.Tu (hE o) (hE i) ?_)
   cases i <;> first | (intro _;rfl) | cases h
  ·exact BF
 | _=>exact BF
theorem qu{es:List Expr}(h:cx e=true):assignEach (e::es) X.env=(false,assign e X.env)::assignEach es X.env:=by cases e <;> first | rfl | cases h
theorem zd:∀ {es:List Expr},es.all cx=true->(assignEach es X.env).length=es.length/\(assignEach es X.env).findIdx? (·.1)=none
 | [],_=>⟨rfl,rfl⟩
 | e::es,h=>by
  rw [List.all_cons,Bool.and_eq_true] at h
  rw [qu h.1]
  obtain⟨a,b⟩:=zd h.2
  exact⟨by simp [a],by simp [List.findIdx?_cons,b]⟩
theorem Fv{G:Expr->MG}(hG:∀ e,DG X e (G e)):∀ es:List Expr,es.all cx=true->Us X es (Hx G es)
 | [],_=>Mk Bm <| M.OU
 | e::r,h=>by
  rw [List.all_cons,Bool.and_eq_true] at h
  unfold Hx
  rw [if_pos h.1]
  exact Mk wv <| M.LS (hG e) (Fv hG r h.2) (by rw [qu h.1];rfl)
theorem Fu(C:jB k c X){G:Expr->MG}(hG:∀ e,DG X e (G e))(es:List Expr)(j:Nat):DG X (.Tuple es j pos) (if es.all cx then aJ es.length (Hx G es) else KJ):=by
 split
 ·rename_i h
  exact FG mq <| M.Tt C.calm (Fv hG es h) (zd h).1 (zd h).2
 ·exact BF
theorem my(C:jB k c X){E:Expr->ME}(hE:∀ e,DE X e (E e))(e:Expr):DG X e (Mw c E e):=by
 have h1:=OE C hE
 cases e with
 | Tuple es j p=>
  refine Fu C (fun e=>?_) es j
  cases e with
  | Tuple es j p=>exact Fu C h1 es j
  | _=>exact h1 _
 | _=>exact h1 _
def evI(c:CI)(E:Expr->ME)(tg it:Expr):MA:=match uu it with
 | some (x,es)=>if x == "enumerate" && nL c x then (match tg,es with
   | .Tuple _ _ _,[a]=>if cx a then eX (wE E [a]) else vg
   | _,_=>vg) else if x == "zip" && nL c x then (match tg,es with
   | .Tuple _ _ tp,[a,b]=>if cx a&&cx b then (nB (wE E [a,b])) else vg
   | _,_=>vg) else if x == "range" && nL c x then (match es with
   | [a]=>if cx a then cC (wE E [a]) else vg
   | [a,b]=>if cx a&&cx b then dD (wE E [a,b]) else vg
   | _=>vg) else da (E it)
 | none=>da (E it)
theorem DH(C:jB k c X){E:Expr->ME}(hE:∀ e,DE X e (E e)){tg it:Expr}:DI X tg it (evI c E tg it):=by
 unfold evI
 split
 ·rename_i x es he
  obtain⟨p,p2,rfl⟩:=mJ he
  split
  ·rename_i hx
   rw [Bool.and_eq_true] at hx
   obtain⟨m,g,o⟩:=lZ C hx.2
   have z:=hx.1
   rw [beq_iff_eq] at z;subst z
   split
   ·split
    ·rename_i h
     exact wK AO (M.OT m (fz hE _) g (bL h))
    ·exact um
   ·exact um
  split
  ·rename_i hx
   rw [Bool.and_eq_true] at hx
   obtain⟨m,g,o⟩:=lZ C hx.2
   have z:=hx.1
   rw [beq_iff_eq] at z;subst z
   split
   ·split
    ·rename_i h
     rw [Bool.and_eq_true] at h
     exact wK EL (M.Ts m (fz hE _) g (by rw [bL h.1,bL h.2];rfl) (bL h.2))
    ·exact um
   ·exact um
  split
  ·rename_i hx
   rw [Bool.and_eq_true] at hx
   obtain⟨m,g,o⟩:=lZ C hx.2
   have z:=hx.1
   rw [beq_iff_eq] at z;subst z
   split
   ·split
    ·rename_i h
     exact wK tq <| M.HL m (fz hE _) g (bL h)
    ·exact um
   ·split
    ·rename_i h
     rw [Bool.and_eq_true] at h
     exact wK tm <| M.HK m (fz hE _) g (by rw [bL h.1,bL h.2];rfl) (bL h.2)
    ·exact um
   ·exact um
  ·exact wK yi <| M.DZ (hE _)
 ·exact wK yi <| M.DZ (hE _)
def Qf(c:CI)(it:Expr):Bool:=match uu it with | some (x,_)=>(x == "enumerate" || x == "zip" || x == "range")&&nL c x | none=>false
def lN(scope sc:Scope):Scope:={ scope with names:=scope.names.map fun x=>match x with | (n,k)=>if (k == NameKind.free&&sc.kind == .function&&sc.names.lookup n == some .cell)=true then (n,.cell) else (n,k) }
theorem PK(scope:Scope)(env:Env):relabel scope env=lN scope env.scope:=rfl
def BN(scope:Scope):List Str:=(scope.names.filter fun x=>x.2 == .local && !(x.1 == (".0":Str))).map (·.1)++(scope.names.filter fun x=>x.2 == .free).map (·.1)
def ux(c:CI)(scope:Scope):List (Option Nat):=(scope.names.filter fun x=>x.2 == .local && !(x.1 == (".0":Str))).map (fun _=>none)++(scope.names.filter fun x=>x.2 == .free).map (fun x=>om x.1 c.N)
def Uc(c:CI)(scope:Scope):Bool:=
 scope.kind == .function&&(scope.names.all fun x=>x.2 != .cell)&&(scope.names.all fun x=>x.2 != .local||scope.names.lookup x.1 == some .local)
 && (scope.names.all fun x=>x.2 != .free||c.sc.names.lookup x.1 == some .cell||c.sc.names.lookup x.1 == some .free)
 && vm c.N (BN scope) (fun y=>c.sc.names.lookup y) (fun y=>(lN scope c.sc).names.lookup y) (ux c scope) (BN scope)&&decide (BN scope).Nodup
def zb(c:CI)(scope:Scope):CI:=⟨BN scope,lN scope c.sc,false,c.gs,c.mt⟩
theorem FH{scope:Scope}(C:jB k c X)(h:Uc c scope=true):BlockOk X (BN scope) scope (ux c scope)/\∀ A s H fp,jB k (zb c scope) (nk X (BN scope) scope A s H fp):=by
 unfold Uc at h
 simp only [Bool.and_eq_true,decide_eq_true_eq,beq_iff_eq] at h
 obtain⟨⟨⟨⟨⟨h1,h2⟩,h3⟩,h4⟩,h5⟩,h6⟩:=h
 refine⟨blk h6 h1 h2 h3 ?_ ?_,fun A s H fp=>⟨rfl,h6,?_,h1,(fun z=>nomatch z),C.calm,C.room,rfl,C.gs⟩⟩
 ·show (scope.names.all fun x=>x.2 != .free||X.env.scope.names.lookup x.1 == some .cell||X.env.scope.names.lookup x.1 == some .free)=true
  rw [C.sc];exact h4
 ·show vm X.N (BN scope) (fun y=>X.env.scope.names.lookup y) (fun y=>(lN scope X.env.scope).names.lookup y) (ux c scope) (BN scope)=true
  rw [C.sc,C.N];exact h5
 ·show lN scope X.env.scope=_
  rw [C.sc];rfl
def Tf(T:Expr->MT):List Expr->MT
 | []=>bU
 | [e]=>T e
 | _=>vf
theorem rR{T:Expr->MT}(hT:∀ e,DT X e (T e)):∀ es:List Expr,Mx X es (Tf T es)
 | []=>TW AH <| M.LC
 | [e]=>OG (hT e)
 | _::_::_=>fun _ _ _ _ _ _ ⟨_,_,_,_,_,_,_,h,_⟩=>by cases h
def mz(c:CI)(E:CI->Expr->ME)(T:CI->Expr->MT)(elt:Expr)(gens:List Comprehension)(scope:Scope)(line:Nat):ME:=match gens with
 | [⟨tg,it,ifs,a⟩]=>if a == 0&&la it&&Uc c scope then if c.mt.contains (line+100000) then df (E c it) (Mw (zb c scope) (E (zb c scope)) tg) (Tf (T (zb c scope)) ifs) (E (zb c scope) elt) (ux c scope) else bJ (evI c (E c) tg it) (Mw (zb c scope) (E (zb c scope)) tg) (Tf (T (zb c scope)) ifs) (E (zb c scope) elt) (ux c scope) else iE
 | _=>iE
theorem wD(C:jB k c X)(hE:∀ c X,jB k c X->∀ e,DE X e (E c e))(hT:∀ c X,jB k c X->∀ e,DT X e (T c e)){elt:Expr}{gens:List Comprehension}{scope:Scope}{line:Nat}:DE X (.ListComp elt gens scope pos) (mz c E T elt gens scope line):=by
 unfold mz
 split
 ·rename_i tg it ifs a
  split
  ·rename_i h
   simp only [Bool.and_eq_true,beq_iff_eq] at h
   obtain⟨⟨h0,h1⟩,h2⟩:=h
   subst h0
   obtain⟨B,C'⟩:=FH C h2
   split
   ·exact ce qa <| M.Mb C.calm B (hE _ _ C it) (fun A s H fp=>my (C' A s H fp) (hE _ _ (C' A s H fp)) tg) (fun A s H fp=>rR (hT _ _ (C' A s H fp)) ifs) (fun A s H fp=>hE _ _ (C' A s H fp) elt) (fZ h1)
   ·exact ce tz <| M.Pa C.calm B (DH C (hE _ _ C)) (fun A s H fp=>my (C' A s H fp) (hE _ _ (C' A s H fp)) tg) (fun A s H fp=>rR (hT _ _ (C' A s H fp)) ifs) (fun A s H fp=>hE _ _ (C' A s H fp) elt) (fZ h1)
  ·exact cn
 ·exact cn
def Tg(E:Expr->ME):List (Option Expr)->List Expr->Option (List (ME×ME))
 | [],[]=>some []
 | some k::ks,v::vs=>(Tg E ks vs).bind fun r=>some ((E k,E v)::r)
 | _,_=>none
theorem Fs{E:Expr->ME}(hE:∀ e,DE X e (E e)):∀ {ks:List (Option Expr)} {vs:List Expr} {ms:List (ME×ME)},Tg E ks vs=some ms->DPs X pos ks vs ms/\ks.all (·.isSome)=true/\ks.length=vs.length
 | [],[],ms,h=>by cases h;exact⟨OQ,rfl,rfl⟩
 | some k::ks,v::vs,ms,h=>by
  obtain⟨r,h1,h2⟩:=Option.bind_eq_some_iff.mp h
  cases h2
  obtain⟨a,b,d⟩:=Fs hE h1
  exact⟨LM (hE k) (hE v) a,by rw [List.all_cons,b];rfl,by rw [List.length_cons,List.length_cons,d]⟩
 | [],_::_,_,h=>by cases h
 | none::_,_,_,h=>by cases h
 | some _::_,[],_,h=>by cases h
def DJ(c:CI)(E:Expr->ME)(ks:List (Option Expr))(vs:List Expr)(line:Nat):ME:=match ks with
 | []=>if vs.isEmpty && !c.mt.contains line then mC (.dct [] []) else iE
 | k::r=>if (k::r).length<=15 then (match Tg E (k::r) vs with | some ms=>if c.mt.contains line then fq ms else hX ms | none=>iE) else iE
theorem Hy{E:Expr->ME}(hE:∀ e,DE X e (E e))(ks:List (Option Expr))(vs:List Expr)(line:Nat):DE X (.Dict ks vs pos) (DJ c E ks vs line):=by
 unfold DJ
 split
 ·split
  ·rename_i h
   rw [Bool.and_eq_true] at h
   have:vs=[]:=by simpa using h.1
   subst this
   exact ce tB <| M.OY
  ·exact cn
 ·rename_i k r
  split
  ·rename_i hl
   split
   ·rename_i ms h
    obtain⟨a,b,d⟩:=Fs (pos:=pos) hE h
    split
    ·exact ce vW (M.Ma a b d (by simp) hl)
    ·exact ce AS (M.OZ a b d (by simp) hl)
   ·exact cn
  ·exact cn
def Lm(E:Expr->ME):List Expr->ME
 | []=>iE
 | _=>iE
theorem Hw{E:Expr->ME}(hE:∀ e,DE X e (E e)):∀ es:List Expr,DE X (.JoinedStr es pos) (Lm E es)
 | []=>cn
 | _::_=>cn
def Qq(E:Expr->ME)(v:Expr)(cv:Int)(f:Option Expr):ME:=match cv,f with
 | _,_=>iE
theorem Ln{E:Expr->ME}(hE:∀ e,DE X e (E e)){v:Expr}{cv:Int}{f:Option Expr}:DE X (.FormattedValue v cv f pos) (Qq E v cv f):=by
 exact cn
def PJ(E:CI->Expr->ME)(T:CI->Expr->MT)(c:CI):Expr->ME
 | .Constant v _ _=>Fw v
 | .Name x _=>DF c x
 | .BinOp a op b p=>Lr (c.mt.contains (p.line+200000)) op (E c a) (E c b)
 | .UnaryOp op a _=>evUn op (E c a)
 | .Compare a ops bs _=>Lp c E a ops bs
 | .BoolOp op vs _=>match op with | .And=>Bq du (vs.map (E c)) | .Or=>Bq ve (vs.map (E c))
 | .IfExp t a b _=>lJ (T c t) (E c a) (E c b)
 | .Tuple es _ _=>aM (wE (E c) es)
 | .List es pos=>if c.mt.contains pos.line then dZ (wE (E c) es) else ej (wE (E c) es)
 | .Dict ks vs pos=>DJ c (E c) ks vs pos.line
 | .Subscript a i _=>Qo c (E c) a i
 | .Call f es ks p=>match sL f,Eh f,ks with | some x,_,[]=>yO c (E c) x es | none,some (o,nm,ap),[]=>yN (c.mt.contains 500000) (E c) o nm ap p es | _,_,_=>iE
 | .ListComp elt gens scope p=>mz c E T elt gens scope p.line
 | .JoinedStr es _=>Lm (E c) es
 | .FormattedValue v cv f _=>Qq (E c) v cv f
 | _=>iE
def PD(E:CI->Expr->ME)(T:CI->Expr->MT)(c:CI):Expr->MT
 | .UnaryOp op a p=>match op with | .Not=>dJ (T c a) | op=>cW (E c (.UnaryOp op a p))
 | .BoolOp op vs _=>match op with | .And=>ub dh (vs.map (T c)) | .Or=>ub eV (vs.map (T c))
 | .Compare a ops bs _=>DL c E a ops bs
 | .IfExp _ _ _ _=>vf
 | e=>cW (E c e)
theorem IP(hE:∀ c X,jB k c X->∀ e,DE X e (E c e))(hT:∀ c X,jB k c X->∀ e,DT X e (T c e))(C:jB k c X)(e:Expr):DE X e (PJ E T c e):=by
 have h1:=hE c X C
 have h2:=hT c X C
 cases e with
 | Constant v j p=>exact DK v
 | Name x p=>exact Hu C x
 | BinOp a op b p=>
  show DE X _ (Lr (c.mt.contains (p.line+200000)) op (E c a) (E c b))
  exact Lq (z:=c.mt.contains (p.line+200000)) (h1 a) (h1 b)
 | UnaryOp op a p=>exact OC (h1 a)
 | Compare a ops bs p=>exact Lo C h1
 | BoolOp op vs p=>cases op with | And=>exact wz h1 vs | Or=>exact Bp h1 vs
 | IfExp t a b p=>exact ce Kc <| M.de_if (h2 t) (h1 a) (h1 b)
 | Tuple es j p=>exact ce EN <| M.Tz (fz h1 es)
 | List es p=>
  show DE X _ (if c.mt.contains p.line then dZ (wE (E c) es) else ej (wE (E c) es))
  split
  ·exact ce AM <| M.OW (fz h1 es)
  ·exact ce ET <| M.TH (fz h1 es)
 | Dict ks vs p=>exact Hy h1 ks vs p.line
 | Subscript a i p=>exact Li C h1 a i
 | Call f es ks p=>
  show DE X _ (match sL f,Eh f,ks with | some x,_,[]=>yO c (E c) x es | none,some (o,nm,ap),[]=>yN (c.mt.contains 500000) (E c) o nm ap p es | _,_,_=>iE)
  split
  ·rename_i x h
   obtain⟨p2,rfl⟩:=lT h
   exact HA C h1
  ·rename_i o nm ap _ ha
   have:=BO ha
   subst this
   exact Hv C h1
  ·exact cn
 | ListComp elt gens scope p=>exact wD C hE hT
 | JoinedStr es p=>exact Hw h1 es
 | FormattedValue v cv f p=>exact Ln h1
 | _=>exact cn
theorem IM(hE:∀ c X,jB k c X->∀ e,DE X e (E c e))(hT:∀ c X,jB k c X->∀ e,DT X e (T c e))(C:jB k c X)(e:Expr):DT X e (PD E T c e):=by
 have h1:=hE c X C
 have h2:=hT c X C
 cases e with
 | UnaryOp op a p=>cases op <;> first | exact BK AK <| M.Tk (h2 a) | exact BK yf <| M.By (h1 _)
 | BoolOp op vs p=>cases op with | And=>exact Hl h2 vs | Or=>exact KM h2 vs
 | Compare a ops bs p=>exact Hz C h1
 | IfExp t a b p=>exact pG
 | _=>exact BK yf <| M.By (h1 _)
def ev:Nat->(CI->Expr->ME)×(CI->Expr->MT)
 | 0=>(fun _ _=>iE,fun _ _=>vf)
 | n+1=>(PJ (ev n).1 (ev n).2,PD (ev n).1 (ev n).2)
theorem qS:∀ n:Nat,(∀ c X,jB k c X->∀ e,DE X e ((ev n).1 c e))/\(∀ c X,jB k c X->∀ e,DT X e ((ev n).2 c e))
 | 0=>⟨fun _ _ _ _=>cn,fun _ _ _ _=>pG⟩
 | n+1=>⟨fun _ _ C e=>IP (qS n).1 (qS n).2 C e,fun _ _ C e=>IM (qS n).1 (qS n).2 C e⟩
def lb:Expr->Bool
 | .ListComp _ _ _ _=>false
 | .SetComp _ _ _ _=>false
 | .DictComp _ _ _ _ _=>false
 | _=>true
theorem gX{t:Option Expr}{l:Nat}(h:lb e=true):swapsWith e t l X.env=pure false:=by cases e <;> first | rfl | cases h
def wj:Expr->Bool
 | .Tuple _ _ _=>true
 | .List _ _=>true
 | _=>false
theorem CD{t:Expr}(h:wj t=false\/wj e=false):swappedStores [t] e X.env=pure none:=by
 rcases h with h | h
 ·cases t <;> first | rfl | cases h
 ·cases t <;> first | rfl | (cases e <;> first | rfl | cases h)
def Lv(c:CI)(E:CI->Expr->ME)(T:CI->Expr->MT)(x:Str)(px:Pos)(e:Expr):MS:=match e with
 | .ListComp elt gens scope p=>if c.all&&(c.sc.names.lookup x == some .local&&px.line == p.line && !(scope.names.any fun y=>y.1 == x&&(y.2 == .local||y.2 == .cell))) then aD (mz c E T elt gens scope p.line) (rq c x) else if c.all&&c.sc.names.lookup x == some .cell then aD (mz c E T elt gens scope p.line) (rq c x) else jO
 | e=>if lb e then aD (E c e) (rq c x) else jO
def Ry:Expr->Option (Str×Pos×Str×Pos)
 | .Tuple [.Name x px,.Name y py] _ _=>some (x,px,y,py)
 | _=>none
theorem Gu{t:Expr}{x y:Str}{px py:Pos}(h:Ry t=some (x,px,y,py)):∃ k p,t=.Tuple [.Name x px,.Name y py] k p:=by
 unfold Ry at h
 split at h
 ·cases h;exact⟨_,_,rfl⟩
 ·cases h
def QK:Expr->Option (Expr×Expr)
 | .Tuple [a,b] _ _=>some (a,b)
 | _=>none
theorem FW{t a b:Expr}(h:QK t=some (a,b)):∃ k p,t=.Tuple [a,b] k p:=by
 unfold QK at h
 split at h
 ·cases h;exact⟨_,_,rfl⟩
 ·cases h
theorem Cc{x y:Str}{px py p p2:Pos}{k k2:Nat}{a b:Expr}(h:(X.env.kindOf x == some NameKind.local&&X.env.kindOf y == some NameKind.local)=false):swappedStores [.Tuple [.Name x px,.Name y py] k p] (.Tuple [a,b] k2 p2) X.env=pure none:=by
 unfold swappedStores
 simp only
 split
 ·rfl
 split
 ·rfl
 rw [if_pos]
 generalize hg:List.filterMap _ [Expr.Name x px,Expr.Name y py]=L
 have hL:L.length<=1:=by
  rw [<- hg,List.filterMap_cons,List.filterMap_cons]
  cases hx:(X.env.kindOf x == some NameKind.local) with
  | false=>simp only [hx,Bool.false_and,Bool.false_eq_true,if_false];split <;> simp
  | true=>
   have hy:(X.env.kindOf y == some NameKind.local)=false:=by rw [hx,Bool.true_and] at h;exact h
   simp only [hy,Bool.false_and,Bool.false_eq_true,if_false];split <;> simp
 have h2:(L.length != [Expr.Name x px,Expr.Name y py].length)=true:=by
  rw [bne_iff_ne];show L.length≠2;omega
 rw [h2];rfl
def EG(c:CI)(x y:Str):Bool:=!(c.sc.names.lookup x == some .local&&c.sc.names.lookup y == some .local)
def Ft(c:CI)(E:CI->Expr->ME)(t e:Expr):Option MS:=match Ry t,QK e with
 | some (x,px,y,py),some (a,b)=>if EG c x y then some (aD (E c e) (Mw c (E c) t)) else match om x c.N,om y c.N with
  | some i,some j=>if (c.all&&c.sc.names.lookup x == some .local&&c.sc.names.lookup y == some .local && !(x == y)&&py.line == px.line&&sy a&&sy b && !(foldedForSure 8 a&&foldedForSure 8 b) && !(constantsAlone 8 a&&constantsAlone 8 b) && !(i == j))=true then some (lV i j (wE (E c) [a,b])) else none
  | _,_=>none
 | _,_=>none
theorem Lk(C:jB k c X){E:CI->Expr->ME}(hE:∀ e,DE X e (E c e)){t:Expr}{m:MS}(h:Ft c E t e=some m):DS X (.Assign [t] e pos) m:=by
 unfold Ft at h
 split at h
 ·rename_i x px y py a b h1 h2
  obtain⟨k1,p1,rfl⟩:=Gu h1
  obtain⟨k2,p2,rfl⟩:=FW h2
  split at h
  ·rename_i hn
   cases h
   refine iG gZ <| M.LL (hE _) (my C hE _) rfl (Cc ?_) rfl
   unfold EG at hn
   rw [Bool.not_eq_true'] at hn
   show (X.env.scope.names.lookup x == some NameKind.local&&X.env.scope.names.lookup y == some NameKind.local)=false
   rw [C.sc];exact hn
  split at h
  ·rename_i i j hi hj
   split at h
   ·rename_i hc
    cases h
    simp only [Bool.and_eq_true,beq_iff_eq,Bool.not_eq_true'] at hc
    obtain⟨⟨⟨⟨⟨⟨⟨⟨⟨_,hx⟩,hy⟩,hne⟩,hl⟩,ha⟩,hb⟩,hf⟩,hcn⟩,hij⟩:=hc
    have hx':X.env.scope.names.lookup x=some .local:=by rw [C.sc];exact hx
    have hy':X.env.scope.names.lookup y=some .local:=by rw [C.sc];exact hy
    have hbk:X.env.blockKind=.function:=by unfold Env.blockKind;rw [C.sc,C.fk];rfl
    exact iG ER (M.Tq C.calm (by rw [C.N];exact C.nd) (by rw [C.N];exact cU hi) (by rw [C.N];exact cU hj) (by simpa using hij) hx' hy' (fz hE _) (IK hbk hx' hy' hne (by simpa using hl) ha hb hf hcn))
   ·cases h
  ·cases h
 ·cases h
def Lw(c:CI)(E:CI->Expr->ME)(T:CI->Expr->MT)(t e:Expr):MS:=match t with
 | .Name x px=>Lv c E T x px e
 | t=>match Ft c E t e with
 | some m=>m
 | none=>if lb e&&cx t&&(!wj t || !wj e) then aD (E c e) (Mw c (E c) t) else jO
theorem oZ{m:ME}{s:Stmt}:DS X s (aD m KJ):=fun _ _ _ _ _ _ ⟨_,_,_,_,_,_,h,_⟩=>by
 rw [gZ] at h
 obtain⟨_,_,h⟩:=Option.bind_eq_some_iff.mp h
 cases h
theorem HB(C:jB k c X)(hE:∀ c X,jB k c X->∀ e,DE X e (E c e))(hT:∀ c X,jB k c X->∀ e,DT X e (T c e)){x:Str}{px:Pos}:DS X (.Assign [.Name x px] e pos) (Lv c E T x px e):=by
 have h1:=hE c X C
 have gen:∀ e,lb e=true->DS X (.Assign [.Name x px] e pos) (aD (E c e) (rq c x)):=fun e hn=>by
  unfold rq
  split
  ·rename_i h1' h2
   exact iG og <| M.DN (by rw [C.N];exact C.nd) (by rw [C.N];exact cU h2) (by rw [C.sc];exact .inl h1') (h1 e) (gX hn) (.inr (by rw [C.sc];exact h1'))
  ·rename_i h1' h2
   split
   ·rename_i ha
    exact iG og <| M.DN (by rw [C.N];exact C.nd) (by rw [C.N];exact cU h2) (by rw [C.sc];exact .inr h1') (h1 e) (gX hn) (.inl (C.fn ha x))
   ·exact oZ
  ·exact oZ
 cases e with
 | ListComp elt gens scope p=>
  show DS X _ (if c.all&&(c.sc.names.lookup x == some .local&&px.line == p.line && !(scope.names.any fun y=>y.1 == x&&(y.2 == .local||y.2 == .cell))) then aD (mz c E T elt gens scope p.line) (rq c x) else if c.all&&c.sc.names.lookup x == some .cell then aD (mz c E T elt gens scope p.line) (rq c x) else jO)
  split
  ·rename_i hw
   rw [Bool.and_eq_true] at hw
   have hw1:=hw.2
   simp only [Bool.and_eq_true,beq_iff_eq] at hw1
   have hl:=hw1.1.1
   unfold rq
   rw [hl]
   cases hi:om x c.N with
   | none=>exact oZ
   | some i=>
    have sw:(pure (X.env.blockKind == .function&&X.env.scope.names.lookup x == some .local&&px.line == p.line && !(scope.names.any fun y=>y.1 == x&&(y.2 == .local||y.2 == .cell))):Sem Bool)=pure true:=by
     have hb:X.env.blockKind=.function:=by unfold Env.blockKind;rw [C.sc,C.fk];rfl
     rw [hb,C.sc]
     have:=hw.2
     simp only [Bool.and_assoc] at this ⊢
     rw [this];rfl
    unfold mz
    split
    ·rename_i tg it ifs a
     split
     ·rename_i h
      simp only [Bool.and_eq_true,beq_iff_eq] at h
      obtain⟨⟨h0,h1'⟩,h2⟩:=h
      subst h0
      obtain⟨B,C'⟩:=FH C h2
      split
      ·exact iG yj <| M.Bz (by rw [C.N];exact C.nd) (by rw [C.N];exact cU hi) (by rw [C.sc];exact .inl hl) C.calm B (hE _ _ C it) (fun A s H fp=>my (C' A s H fp) (hE _ _ (C' A s H fp)) tg) (fun A s H fp=>rR (hT _ _ (C' A s H fp)) ifs) (fun A s H fp=>hE _ _ (C' A s H fp) elt) sw (fZ h1') (.inr (by rw [C.sc];exact hl))
      ·exact iG AU <| M.DM (by rw [C.N];exact C.nd) (by rw [C.N];exact cU hi) (by rw [C.sc];exact .inl hl) C.calm B (DH C (hE _ _ C)) (fun A s H fp=>my (C' A s H fp) (hE _ _ (C' A s H fp)) tg) (fun A s H fp=>rR (hT _ _ (C' A s H fp)) ifs) (fun A s H fp=>hE _ _ (C' A s H fp) elt) sw (fZ h1') (.inr (by rw [C.sc];exact hl))
     ·intro _ _ _ _ _ _ ⟨_,_,_,_,_,_,h,_⟩
      rw [gZ] at h
      obtain⟨_,z,h⟩:=Option.bind_eq_some_iff.mp h
      cases z
    ·intro _ _ _ _ _ _ ⟨_,_,_,_,_,_,h,_⟩
     rw [gZ] at h
     obtain⟨_,z,h⟩:=Option.bind_eq_some_iff.mp h
     cases z
  ·split
   ·rename_i hw
    rw [Bool.and_eq_true,beq_iff_eq] at hw
    unfold rq
    rw [hw.2]
    cases hi:om x c.N with
    | none=>exact oZ
    | some i=>
     dsimp only
     rw [if_pos hw.1]
     refine iG og <| M.DN (by rw [C.N];exact C.nd) (by rw [C.N];exact cU hi) (by rw [C.sc];exact .inr hw.2) (wD C hE hT) ?_ (.inl (C.fn hw.1 x))
     show (pure (X.env.blockKind == .function&&X.env.scope.names.lookup x == some .local&&px.line == p.line && !(scope.names.any fun y=>y.1 == x&&(y.2 == .local||y.2 == .cell))):Sem Bool)=pure false
     rw [C.sc,hw.2]
     have:((some NameKind.cell:Option NameKind) == some .local)=false:=by decide
     rw [this,Bool.and_false];rfl
   ·exact lG
 | SetComp _ _ _ _=>exact lG
 | DictComp _ _ _ _ _=>exact lG
 | _=>exact gen _ rfl
theorem Lu(C:jB k c X)(hE:∀ c X,jB k c X->∀ e,DE X e (E c e))(hT:∀ c X,jB k c X->∀ e,DT X e (T c e)){t:Expr}:DS X (.Assign [t] e pos) (Lw c E T t e):=by
 have gen:∀ t,DS X (.Assign [t] e pos) (match Ft c E t e with | some m=>m | none=>if lb e&&cx t&&(!wj t || !wj e) then aD (E c e) (Mw c (E c) t) else jO):=fun t=>by
  split
  ·rename_i h
   exact Lk C (hE _ _ C) h
  split
  ·rename_i h
   simp only [Bool.and_eq_true,Bool.or_eq_true,Bool.not_eq_true'] at h
   refine iG gZ <| M.LL (hE _ _ C e) (my C (hE _ _ C) t) (gX h.1.1) (CD h.2) ?_
   rw [qu h.1.2];rfl
  ·exact lG
 cases t with
 | Name x px=>exact HB C hE hT
 | _=>exact gen _
def uF:List MS->MS
 | []=>aY
 | [m]=>m
 | m::r=>ax m (uF r)
theorem kS{F:Stmt->MS}(h:∀ s,DS X s (F s)):∀ ss:List Stmt,vq X ss (uF (ss.map F))
 | []=>Ec oX <| M.OK
 | [s]=>OJ (h s)
 | s::s'::r=>Ec EO <| M.LH (h s) (kS h (s'::r))
def Du:Expr->Bool
 | .Constant (.str _) _ _=>true
 | _=>false
def PH(E:CI->Expr->ME)(T:CI->Expr->MT)(F:CI->Stmt->MS)(c:CI):Stmt->MS
 | .Return o _=>match o with | some e=>aV (E c e) | none=>fun _ S=>some (.rt .non S)
 | .Pass _=>aY
 | .Break _=>fun env S=>some (.bk env S)
 | .Continue _=>fun env S=>some (.ct env S)
 | .Expr e _=>if Du e then aY else if lb e then dM (E c e) else jO
 | .If t a b _=>bD (T c t) (uF (a.map (F c))) (uF (b.map (F c)))
 | .Assign ts e _=>match ts with | [t]=>Lw c E T t e | _=>jO
 | .While tst body els _=>match els with | []=>fg (T c tst) (uF (body.map (F c))) | _=>jO
 | .For tg it body els _=>match els with | []=>if la it then (if Qf c it then jd (evI c (E c) tg it) (Mw c (E c) tg) (uF (body.map (F c))) else ee (E c it) (Mw c (E c) tg) (uF (body.map (F c)))) else jO | _=>jO
 | _=>jO
theorem IN{F:CI->Stmt->MS}(hE:∀ c X,jB k c X->∀ e,DE X e (E c e))(hT:∀ c X,jB k c X->∀ e,DT X e (T c e))(hF:∀ c X,jB k c X->∀ e,DS X e (F c e))(C:jB k c X)(s:Stmt):DS X s (PH E T F c s):=by
 have h1:=hE c X C
 have h2:=hT c X C
 have h3:=hF c X C
 cases s with
 | Return o p=>cases o with | none=>exact OL | some e=>exact iG EQ <| M.Tp (h1 e)
 | Pass p=>exact iG oX <| M.OM
 | Break p=>exact LK
 | Continue p=>exact BA
 | Expr e p=>
  show DS X _ (if Du e then aY else if lb e then dM (E c e) else jO)
  split
  ·rename_i h
   unfold Du at h
   split at h
   ·exact iG oX <| M.Tr
   ·cases h
  ·split
   ·rename_i h;exact iG AQ <| M.OP (h1 e) (gX h)
   ·exact lG
 | If t a b p=>exact iG EV <| M.ds_if (h2 t) (kS h3 a) (kS h3 b)
 | Assign ts e p=>
  show DS X _ (match ts with | [t]=>Lw c E T t e | _=>jO)
  split
  ·exact Lu C hE hT
  ·exact lG
 | While tst body els p=>
  cases els with
  | nil=>exact iG vQ <| M.LI (by rw [C.xe];exact PassesOwn.never) (h2 tst) (kS h3 body)
  | cons _ _=>exact lG
 | For tg it body els p=>
  cases els with
  | nil=>
   show DS X _ (if la it then (if Qf c it then jd (evI c (E c) tg it) (Mw c (E c) tg) (uF (body.map (F c))) else ee (E c it) (Mw c (E c) tg) (uF (body.map (F c)))) else jO)
   split
   ·rename_i h
    split
    ·exact iG EW <| M.LJ (by rw [C.xe];exact PassesOwn.never) C.calm (DH C h1) (my C h1 tg) (kS h3 body) (fZ h)
    ·exact iG AN <| M.OO (by rw [C.xe];exact PassesOwn.never) C.calm (h1 it) (my C h1 tg) (kS h3 body) (fZ h)
   ·exact lG
  | cons _ _=>exact lG
 | _=>exact lG
def evS(n:Nat):Nat->CI->Stmt->MS
 | 0=>fun _ _=>jO
 | m+1=>PH (ev n).1 (ev n).2 (evS n m)
theorem Lj(n:Nat):∀ m:Nat,∀ c X,jB k c X->∀ s,DS X s (evS n m c s)
 | 0=>fun _ _ _ _=>lG
 | m+1=>fun _ _ C s=>IN (qS n).1 (qS n).2 (Lj n m) C s
def TR:Stmt->Option (Str×Str×Expr)
 | .Assign [.Name b _] (.Subscript (.Name x _) (.Subscript o q p) _) _=>some (b,x,.Subscript o q p)
 | _=>none
theorem HR{s:Stmt}{b x:Str}{ix:Expr}(h:TR s=some (b,x,ix)):nw ix/\∃ pb pt ps pa,s=.Assign [.Name b pb] (.Subscript (.Name x pt) ix ps) pa:=by
 unfold TR at h
 split at h
 ·cases h;exact⟨by intro _ _;rfl,_,_,_,_,rfl⟩
 ·cases h
def TQ:Stmt->Option (Str×Expr×List Expr)
 | .Return (some (.Call (.Name b _) (e::es) [] _)) _=>some (b,e,es)
 | _=>none
theorem HQ{s:Stmt}{b:Str}{e:Expr}{es:List Expr}(h:TQ s=some (b,e,es)):∃ p pc pr,s=.Return (some (.Call (.Name b p) (e::es) [] pc)) pr:=by
 unfold TQ at h
 split at h
 ·cases h;exact⟨_,_,_,rfl⟩
 ·cases h
def Qs(c:CI)(b x:Str)(ix:Expr)(e:Expr)(es:List Expr):Option MS:=match om b c.N,Qk c x with
 | some i,some (.ftab l)=>if eZ b&&c.sc.names.lookup b == some .local&&(e::es).all cx then some (iF l i ((ev 40).1 c ix) (wE ((ev 40).1 c) (e::es))) else none
 | _,_=>none
def yU(c:CI):List Stmt->Option MS
 | [s,t]=>match TR s,TQ t with
  | some (b,x,ix),some (b',e,es)=>if b' == b then Qs c b x ix e es else none
  | _,_=>none
 | _=>none
theorem HJ(C:jB k c X){body:List Stmt}{m:MS}(h:yU c body=some m):vq X body m:=by
 unfold yU at h
 split at h
 ·rename_i s t
  split at h
  ·rename_i b x ix b' e es h1 h2
   obtain⟨hs,pb,pt,ps,pa,rfl⟩:=HR h1
   obtain⟨p,pc,pr,rfl⟩:=HQ h2
   split at h
   ·rename_i hb
    rw [beq_iff_eq] at hb;subst hb
    unfold Qs at h
    split at h
    ·rename_i i l hi hg
     obtain⟨g,o,G⟩:=jf C hg
     split at h
     ·rename_i hc
      simp only [Bool.and_eq_true,beq_iff_eq] at hc
      obtain⟨⟨o1,h3⟩,h4⟩:=hc
      cases h
      rw [List.all_cons,Bool.and_eq_true] at h4
      exact Ec AR <| M.LG G g (cV o) ((qS 40).1 _ _ C ix) hs C.room (fz ((qS 40).1 _ _ C) _) (by rw [C.N];exact C.nd) (by rw [C.N];exact cU hi) (by rw [C.sc];exact .inl h3) (by rw [C.sc];exact .inl h3) (.inr (by rw [C.sc];exact h3)) (cV o1) (Ac o1)
       (by rw [C.N];exact(List.getElem?_eq_some_iff.mp (cU hi)).1) (bL h4.1) (gI h4.2)
     ·cases h
    ·cases h
   ·cases h
  ·cases h
 ·cases h
def gG(c:CI)(body:List Stmt):MS:=match yU c body with
 | some m=>m
 | none=>uF (body.map (evS 40 20 c))
theorem Ls(C:jB k c X)(body:List Stmt):vq X body (gG c body):=by
 unfold gG
 cases h:yU c body with
 | some m=>exact HJ C h
 | none=>exact kS (Lj 40 20 c X C) body
end
end
def ig(N:List Str)(st:Stmt)(gs:List (Str×GI))(mt:List Nat):CI:=⟨N,au st,true,gs,mt⟩
def GK(P:Program)(w:World)(K:PySem.W.Frag)(mg:Str->Option Value)(base:Heap)(k:Nat)(p:Str×GI):Prop:=match p.2 with
 | .fn n f=>Fn P w K mg base k p.1 n f
 | .con d=>GC K mg p.1 d
 | .blt=>mg p.1=none
 | .tab l=>uA w K mg p.1 l
 | .ftab l=>FTab P w K mg base k p.1 l
theorem bz{P:Program}{w:World}{K:PySem.W.Frag}{mg:Str->Option Value}{base:Heap}{k:Nat}{x:Str}{st:Stmt}{N ps:List Str}{gs:List (Str×GI)}{mt:List Nat}
  (F:bI K mg x st) (Sc:aS N ps (au st)) (hb:zk x st ps) (hg:∀ p∈gs,GK P w K mg base k p) :
  Fn P w K mg base (k+1) x ps.length (aO N (gG (ig N st gs mt) (aK st)) ps.length):=
 Tv F Sc hb fun a cdv A outer s H E hr=>Ls (k:=k) ⟨rfl,Sc.nd,rfl,Sc.kind,fun _ _=>rfl,rfl,hr,rfl,fun p hp=>by
  have:=hg p hp
  obtain⟨x,g⟩:=p
  cases g <;> exact this⟩ _
end MI
namespace MI
open PySem PySem.Spec PyProof.Rows L2 M
def GKs(P:Program)(w:World)(K:PySem.W.Frag)(mg:Str->Option Value)(base:Heap)(k:Nat):List (Str×GI)->Prop
 | []=>True
 | p::r=>GK P w K mg base k p/\GKs P w K mg base k r
theorem GKs.mem{P:Program}{w:World}{K:PySem.W.Frag}{mg:Str->Option Value}{base:Heap}{k:Nat}:∀ {gs:List (Str×GI)},GKs P w K mg base k gs->∀ p∈gs,GK P w K mg base k p
 | q::r,h,p,hp=>by
  rcases List.mem_cons.mp hp with rfl | hp
  ·exact h.1
  ·exact GKs.mem h.2 p hp
theorem Sf{P:Program}{w:World}{K:PySem.W.Frag}{mg:Str->Option Value}{k:Nat}{st:Stmt}{N:List Str}{gs:List (Str×GI)}{mt:List Nat}{fa:Addr}(F:bI K mg "law" st)(hfa:mg "law" = some (.ref fa))(Sc:aS N ["_law_script"] (au st))
  (hbt:∀ (kV doc pm:Value) (an:Option Addr) (cdv ct v:Value),bindArgs (PySem.W.fnOf "law" "law" (iO st) (aK st) (au st) .none kV doc pm an cdv ct) ⟨[v],[]⟩=pure [(("_law_script":Str),v)])
  (hg:∀ base,GKs P w K mg base k gs) :
  ∃ fd:FuncData,(∀ (s:Shared) (v:Value),BindsTo s fd ⟨[v],[]⟩ [("_law_script",v)])/\∀ base:Heap,K.In base->base.Ns mainGlobals mg->FnOk P w K mg base FL (k+1) fa fd ["_law_script"] (IQ K 1 (aO N (gG (ig N st gs mt) (aK st)) 1)):=
 Se F hfa Sc hbt fun base a cdv A outer s H E hr=>Ls (k:=k) ⟨rfl,Sc.nd,rfl,Sc.kind,fun _ _=>rfl,rfl,hr,rfl,fun p hp=>by
  have:=GKs.mem (hg base) p hp
  obtain⟨x,g⟩:=p
  cases g <;> exact this⟩ _
end MI
namespace MI
open PySem PySem.Spec PyProof.Rows L2 M
section
variable{P:List Value->Prop}
theorem iP(h:P []):∀ us:List Value,us.length=0->P us:=fun us e=>by rw [List.eq_nil_of_length_eq_zero e];exact h
theorem cB{n:Nat}(h:∀ a,∀ us:List Value,us.length=n->P (a::us)):∀ us:List Value,us.length=n+1->P us:=fun us e=>by
 cases us with
 | nil=>cases e
 | cons a us=>exact h a us (Nat.succ.inj e)
end
def Jg(N:List Str)(st:Stmt)(gs:List (Str×GI))(mt:List Nat)(x:Str)(a:Nat):Nat->List D->ac->Option (D×ac)
 | 0=>fun _ _=>none
 | n+1=>aO N (gG (ig N st ((x,.fn a (Jg N st gs mt x a n))::gs) mt) (aK st)) a
section
variable{P:Program}{w:World}{K:PySem.W.Frag}{mg:Str->Option Value}{base:Heap}{k:Nat}{x:Str}{st:Stmt}{N ps:List Str}{gs:List (Str×GI)}{mt:List Nat}
theorem GK.up{k':Nat}(h:k<=k'):∀ {p:Str×GI},GK P w K mg base k p->GK P w K mg base k' p
 | (_,.fn _ _),g=>Fn.up g h
 | (_,.con _),g=>g
 | (_,.blt),g=>g
 | (_,.tab _),g=>g
 | (_,.ftab _),g=>FTab.up g h
theorem Os(F:bI K mg x st)(Sc:aS N ps (au st))(hb:zk x st ps):Fn P w K mg base (k+1) x ps.length (fun _ _=>none):=by
 obtain⟨a,fd,F,hmg⟩:=F.ex
 exact Qm F Sc hmg (F.binds hb) fun cdv A outer s H E hr=>⟨jO,To,fun ds S d S' _ _ _ h=>by cases h⟩
theorem Jf(F:bI K mg x st)(Sc:aS N ps (au st))(hb:zk x st ps)(hg:GKs P w K mg base k gs):∀ n,Fn P w K mg base (k+1+n) x ps.length (Jg N st gs mt x ps.length n)
 | 0=>Os F Sc hb
 | n+1=>bz (k:=k+1+n) F Sc hb fun p hp=>by
  rcases List.mem_cons.mp hp with rfl | hp
  ·exact Jf F Sc hb hg n
  ·exact GK.up (by omega) (GKs.mem hg p hp)
end
def kE(P:Params)(x:Str)(t:Nat)(v:Value):DictEntry:=⟨PyData.keyHash P x,.str x t,v⟩
def kC(x:Str)(t l n a b:Nat)(u v:Value)(c d:Nat):Obj:=⟨.type "code",none,.fields #[.str x t,.str x (t+1),.str "/claim/cut.py" (t+2),.int l 0,.int n 0,.int 0 0,.int 0 0,.int 3 0,.ref a,.bool true,.int 181 0,.ref b,.none,u,v,.ref c,.int d 0,.int l 0,.str "/claim/cut.py" (d+1)],#[]⟩
def kF(x:Str)(st:Stmt)(m:Str)(t c:Nat):Obj:=⟨.type "function",none,.func (PySem.W.fnOf x x (iO st) (aK st) (au st) .none .none .none (.str m t) none (.ref c) .none),#[]⟩
theorem cQ{K:PySem.W.Frag}{h:Heap}{mg:Str->Option Value}(X:K.In h)(G:h.Ns mainGlobals mg){x:Str}{st:Stmt}(m:Str)(f t c:Nat)(e:(PySem.W.nsIn K mainGlobals x,K.lookup f,PySem.W.codeIn K (.ref c) x,PySem.W.keepIn K (.ref f))=(some (some (.ref f)),some (kF x st m t c),true,true)):bI K mg x st:=by
 have e1:=congrArg (·.1) e
 have e2:=congrArg (·.2.1) e
 have e3:=congrArg (·.2.2.1) e
 have e4:=congrArg (·.2.2.2) e
 exact⟨_,_,SJ (st:=st) (show K.lookup f=some ⟨.type "function",none,.func (PySem.W.fnOf x x (iO st) (aK st) (au st) .none .none .none (.str m t) none (.ref c) .none),#[]⟩ from e2) e3 e4,PySem.W.mg_of X G e1⟩
theorem iV{N:List Str}{c:CI}{b:List Stmt}{m:MS}{n:Nat}(h:gG c b=m):aO N (gG c b) n=aO N m n:=by rw [h]
end MI
namespace MI
open PySem PySem.Spec PyProof.Rows L2 M
section
variable{env e:bh}{S S':ac}{x y d:D}{f g:ac->D->D->Option D}{a b c:ME}{ms:MA}{t u:MT}{k l:Bool}{p q:MS}{tg:MG}
@[simp high] theorem ob{α β:Type}{a:α}{f:α->Option β}:(some a).bind f=f a:=id rfl
@[simp high] theorem obn{α β:Type}{f:α->Option β}:(none:Option α).bind f=none:=id rfl
@[simp high] theorem oj{α:Type}{a:Option α}:(some a).join=a:=rfl
@[simp high] theorem bH{α:Type}{a:α}{l:List α}:(a::l)[0]?=some a:=rfl
@[simp high] theorem bN{α:Type}{a b:α}{l:List α}:(a::b::l)[1]?=some b:=rfl
@[simp high] theorem bM{α:Type}{a:α}{l:List α}{i:Nat}:(a::l)[i+1]?=l[i]?:=rfl
@[simp high] theorem eK{α:Type}{a b:α}{l:List α}:(a::l).set 0 b=b::l:=rfl
@[simp high] theorem eY{α:Type}{a b:α}{l:List α}{i:Nat}:(a::l).set (i+1) b=a::l.set i b:=rfl
def vh(S:ac)(z:D):Option (D×ac):=some (z,S)
@[simp] theorem ai:vh S d=some (d,S):=rfl
@[simp] theorem bi:mC d env S=some (d,S):=by rw [tB];rfl
@[simp] theorem aj{i:Nat}:ab i env S=(env[i]?).join.bind (vh S):=by rw [EM];rfl
def Sv(f:ac->D->D->Option D)(x:D)(q:D×ac):Option (D×ac):=(f q.2 x q.1).bind (vh q.2)
def kOp1(f:ac->D->D->Option D)(b:ME)(env:bh)(q:D×ac):Option (D×ac):=(b env q.2).bind (Sv f q.1)
@[simp] theorem aw:kOp1 f b env (x,S)=(b env S).bind (Sv f x):=id rfl
@[simp] theorem av:Sv f x (y,S)=(f S x y).bind (vh S):=id rfl
@[simp] theorem aF:aq f a b env S=(a env S).bind (kOp1 f b env):=by rw [jN];rfl
def PV(q:D×ac):Option (Bool×ac):=match q.1 with | .bl k=>some (k,q.2) | _=>none
@[simp] theorem aE:PV (.bl k,S)=some (k,S):=id rfl
@[simp] theorem aI:ay a env S=(a env S).bind PV:=by rw [tf];rfl
def SA(g:ac->D->D->Option D)(y:D)(q:D×ac):Option (D×ac):=(g q.2 y q.1).bind (vh q.2)
def Ky(g:ac->D->D->Option D)(c:ME)(env:bh)(y:D)(S:ac)(z:D):Option (D×ac):=match z with
 | .bl true=>(c env S).bind (SA g y)
 | .bl false=>some (.bl false,S)
 | _=>none
def Of(f g:ac->D->D->Option D)(c:ME)(env:bh)(x:D)(q:D×ac):Option (D×ac):=(f q.2 x q.1).bind (Ky g c env q.1 q.2)
def SC(f g:ac->D->D->Option D)(b c:ME)(env:bh)(q:D×ac):Option (D×ac):=(b env q.2).bind (Of f g c env q.1)
@[simp] theorem kCh1_s:SC f g b c env (x,S)=(b env S).bind (Of f g c env x):=id rfl
@[simp] theorem kCh2_s:Of f g c env x (y,S)=(f S x y).bind (Ky g c env y S):=id rfl
@[simp] theorem kChz_t:Ky g c env y S (.bl true)=(c env S).bind (SA g y):=id rfl
@[simp] theorem kChz_f:Ky g c env y S (.bl false)=some (.bl false,S):=id rfl
@[simp] theorem kCh3_s:SA g y (x,S)=(g S y x).bind (vh S):=id rfl
@[simp] theorem mChain_s:cX f g a b c env S=(a env S).bind (SC f g b c env):=by
 rw [qb];unfold M.cX SC Of Ky
 congr 1
def yu(q:D×ac):Option (Bool×ac):=(oF q.2 q.1).bind fun k=>some (k,q.2)
@[simp] theorem fv:yu (.bl k,S)=some (k,S):=id rfl
@[simp] theorem kTru_n:yu (.non,S)=some (false,S):=id rfl
@[simp] theorem kTru_i{i:Int}:yu (.int i,S)=some (i != 0,S):=id rfl
@[simp] theorem kTru_t{xs:List D}:yu (.tup xs,S)=some (!xs.isEmpty,S):=id rfl
@[simp] theorem kTru_l{xs:List D}:yu (.lst xs,S)=some (!xs.isEmpty,S):=id rfl
@[simp] theorem dB:cW a env S=(a env S).bind yu:=by rw [yf];rfl
def KA(u:MT)(env:bh)(q:Bool×ac):Option (Bool×ac):=if q.1=true then u env q.2 else some (false,q.2)
def Su(u:MT)(env:bh)(q:Bool×ac):Option (Bool×ac):=if q.1=true then some (true,q.2) else u env q.2
def Qa(q:Bool×ac):Option (Bool×ac):=some (!q.1,q.2)
@[simp] theorem pj:KA u env (true,S)=u env S:=id rfl
@[simp] theorem Fe:KA u env (false,S)=some (false,S):=id rfl
@[simp] theorem yv:Su u env (true,S)=some (true,S):=id rfl
@[simp] theorem ll:Su u env (false,S)=u env S:=id rfl
@[simp] theorem iN:Qa (k,S)=some (!k,S):=id rfl
@[simp] theorem pd:dh t u env S=(t env S).bind (KA u env):=by rw [tD];rfl
@[simp] theorem iy:eV t u env S=(t env S).bind (Su u env):=by rw [yg];rfl
@[simp] theorem iK:dJ t env S=(t env S).bind Qa:=by rw [AK];rfl
@[simp] theorem jE:bU env S=some (true,S):=by rw [AH];rfl
def Og(b:ME)(env:bh)(q:D×ac):Option (D×ac):=(oF q.2 q.1).bind fun k=>if k=true then b env q.2 else some (q.1,q.2)
def PZ(b:ME)(env:bh)(q:D×ac):Option (D×ac):=(oF q.2 q.1).bind fun k=>if k=true then some (q.1,q.2) else b env q.2
@[simp] theorem tN:Og b env (.bl true,S)=b env S:=id rfl
@[simp] theorem SD:Og b env (.bl false,S)=some (.bl false,S):=id rfl
@[simp] theorem kOr_t:PZ b env (.bl true,S)=some (.bl true,S):=id rfl
@[simp] theorem kOr_f:PZ b env (.bl false,S)=b env S:=id rfl
@[simp] theorem oh:du a b env S=(a env S).bind (Og b env):=by rw [EZ];rfl
@[simp] theorem PR:ve a b env S=(a env S).bind (PZ b env):=by rw [JW];rfl
def AX(q:D×ac):Option (D×ac):=(oF q.2 q.1).bind fun k=>some (.bl (!k),q.2)
@[simp] theorem NZ{xs:List D}:AX (.lst xs,S)=some (.bl (!!xs.isEmpty),S):=id rfl
@[simp] theorem kNotV_t{xs:List D}:AX (.tup xs,S)=some (.bl (!!xs.isEmpty),S):=id rfl
@[simp] theorem kOr_c{d:D}{ds:List D}:PZ b env (.lst (d::ds),S)=some (.lst (d::ds),S):=id rfl
@[simp] theorem kOr_e:PZ b env (.lst [],S)=b env S:=id rfl
@[simp] theorem kNotV_s:AX (.bl k,S)=some (.bl (!k),S):=id rfl
@[simp] theorem ES:gH a env S=(a env S).bind AX:=by rw [AJ];rfl
def kIf(a b:ME)(env:bh)(q:Bool×ac):Option (D×ac):=if q.1=true then a env q.2 else b env q.2
@[simp] theorem wa:kIf a b env (true,S)=a env S:=id rfl
@[simp] theorem AY:kIf a b env (false,S)=b env S:=id rfl
@[simp] theorem lE:lJ t a b env S=(t env S).bind (kIf a b env):=by rw [Kc];rfl
@[simp] theorem az:ah env S=some ([],S):=by rw [yh];rfl
def Dp(x:D)(q:List D×ac):Option (List D×ac):=some (x::q.1,q.2)
def Kw(ms:MA)(env:bh)(q:D×ac):Option (List D×ac):=(ms env q.2).bind (Dp q.1)
@[simp] theorem al{xs:List D}:Dp x (xs,S)=some (x::xs,S):=id rfl
@[simp] theorem am:Kw ms env (x,S)=(ms env S).bind (Dp x):=id rfl
@[simp] theorem ao:aa a ms env S=(a env S).bind (Kw ms env):=by rw [AT];rfl
def cr(q:List D×ac):Option (D×ac):=if q.1.length<=sizeLine then some (.tup q.1,q.2) else none
def lX(q:List D×ac):Option (D×ac):=if q.1.length<=sizeLine then some (.lst q.1,q.2) else none
def qE(q:List D×ac):Option (D×ac):=if q.1.length<=sizeLine then some (.ref q.2.length,q.2++[.lst q.1]) else none
theorem sz{n:Nat}(h:n<=1000):n<=sizeLine:=Nat.le_trans h (by decide)
theorem aU{xs:List D}(h:xs.length<=1000):cr (xs,S)=some (.tup xs,S):=if_pos (sz h)
theorem dG{xs:List D}(h:xs.length<=1000):lX (xs,S)=some (.lst xs,S):=if_pos (sz h)
theorem ku{xs:List D}(h:xs.length<=1000):qE (xs,S)=some (.ref S.length,S++[.lst xs]):=if_pos (sz h)
@[simp] theorem bg:aM ms env S=(ms env S).bind cr:=by rw [EN];rfl
@[simp] theorem iz:ej ms env S=(ms env S).bind lX:=by rw [ET];rfl
@[simp] theorem oY:dZ ms env S=(ms env S).bind qE:=by rw [AM];rfl
def Qd(f:List D->ac->Option (D×ac))(q:List D×ac):Option (D×ac):=f q.1 q.2
@[simp] theorem bR{f:List D->ac->Option (D×ac)}{xs:List D}:Qd f (xs,S)=f xs S:=id rfl
@[simp] theorem bP{f:List D->ac->Option (D×ac)}:be f ms env S=(ms env S).bind (Qd f):=by rw [ia];rfl
def qi(n:Nat)(f:List D->ac->Option (D×ac))(q:List D×ac):Option (D×ac):=if q.1.length=n then f q.1 q.2 else none
@[simp] theorem kCallN_0{f:List D->ac->Option (D×ac)}:qi 0 f ([],S)=f [] S:=id rfl
@[simp] theorem pi{f:List D->ac->Option (D×ac)}:qi 1 f ([x],S)=f [x] S:=id rfl
@[simp] theorem bd{f:List D->ac->Option (D×ac)}:qi 2 f ([x,y],S)=f [x,y] S:=id rfl
@[simp] theorem bE{f:List D->ac->Option (D×ac)}{z:D}:qi 3 f ([x,y,z],S)=f [x,y,z] S:=id rfl
@[simp] theorem Kz{f:List D->ac->Option (D×ac)}{z w:D}:qi 4 f ([x,y,z,w],S)=f [x,y,z,w] S:=id rfl
@[simp] theorem aG{n:Nat}{f:List D->ac->Option (D×ac)}:ak n f ms env S=(ms env S).bind (qi n f):=by rw [qc];rfl
def kIsI(T:String)(q:D×ac):Option (D×ac):=(kH T q.2 q.1).bind (vh q.2)
@[simp] theorem Ku{T:String}:kIsI T (x,S)=(kH T S x).bind (vh S):=id rfl
@[simp] theorem Kb{T:String}:dL T a env S=(a env S).bind (kIsI T):=by rw [EU];rfl
def kUn(f:ac->D->Option D)(q:D×ac):Option (D×ac):=(f q.2 q.1).bind (vh q.2)
@[simp] theorem kUn_s{f:ac->D->Option D}:kUn f (x,S)=(f S x).bind (vh S):=id rfl
@[simp] theorem mUn_s{f:ac->D->Option D}:AG f a env S=(a env S).bind (kUn f):=by rw [JV];rfl
@[simp] theorem cE:bv env S=some (none,S):=by rw [vT];rfl
def PY(q:D×ac):Option (Option Int×ac):=match q.1 with | .int i=>some (some i,q.2) | _=>none
@[simp] theorem cZ{i:Int}:PY (.int i,S)=some (some i,S):=id rfl
@[simp] theorem cY:bS a env S=(a env S).bind PY:=by rw [AI];rfl
def iL(x:D)(l:Option Int)(q:Option Int×ac):Option (D×ac):=match x with
 | .tup xs=>some (.tup (iA xs l q.1),q.2)
 | .lst xs=>some (.lst (iA xs l q.1),q.2)
 | .rol xs=>some (.lst (iA xs l q.1),q.2)
 | .ref r=>match q.2[r]? with | some (.lst xs)=>some (.lst (iA xs l q.1),q.2) | _=>none
 | _=>none
def Sn(hi:MO)(env:bh)(x:D)(q:Option Int×ac):Option (D×ac):=(hi env q.2).bind (iL x q.1)
def kSl1(lo hi:MO)(env:bh)(q:D×ac):Option (D×ac):=(lo env q.2).bind (Sn hi env q.1)
@[simp] theorem dU{lo hi:MO}:kSl1 lo hi env (x,S)=(lo env S).bind (Sn hi env x):=id rfl
@[simp] theorem dS{hi:MO}{l:Option Int}:Sn hi env x (l,S)=(hi env S).bind (iL x l):=id rfl
@[simp] theorem jR{xs:List D}{l h:Option Int}:iL (.tup xs) l (h,S)=some (.tup (iA xs l h),S):=id rfl
@[simp] theorem Sm{xs:List D}{l h:Option Int}:iL (.lst xs) l (h,S)=some (.lst (iA xs l h),S):=id rfl
@[simp] theorem kSl3_r{xs:List D}{l h:Option Int}:iL (.rol xs) l (h,S)=some (.lst (iA xs l h),S):=id rfl
@[simp] theorem cy{lo hi:MO}:bu a lo hi env S=(a env S).bind (kSl1 lo hi env):=by rw [vS];rfl
@[simp] theorem bA:aY env S=some (.nx env S):=by rw [oX];rfl
def Kr(q:MS):oC->Option oC
 | .nx e S=>q e S
 | .rt d S=>some (.rt d S)
 | .bk e S=>some (.bk e S)
 | .ct e S=>some (.ct e S)
@[simp] theorem aC:Kr q (.nx e S)=q e S:=id rfl
@[simp] theorem bQ:Kr q (.rt d S)=some (.rt d S):=id rfl
@[simp] theorem kSeq_bk:Kr q (.bk e S)=some (.bk e S):=id rfl
@[simp] theorem kSeq_ct:Kr q (.ct e S)=some (.ct e S):=id rfl
@[simp] theorem aQ:ax p q env S=(p env S).bind (Kr q):=by rw [EO];unfold M.ax;congr 1;funext o;cases o <;> rfl
def kRt(q:D×ac):Option oC:=some (.rt q.1 q.2)
@[simp] theorem bt:kRt (d,S)=some (.rt d S):=id rfl
@[simp] theorem aW:aV a env S=(a env S).bind kRt:=by rw [EQ];rfl
def Qb(env:bh)(q:D×ac):Option oC:=some (.nx env q.2)
@[simp] theorem lq:Qb env (d,S)=some (.nx env S):=id rfl
@[simp] theorem lg:dM a env S=(a env S).bind (Qb env):=by rw [AQ];rfl
def Sx(p q:MS)(env:bh)(r:Bool×ac):Option oC:=if r.1=true then p env r.2 else q env r.2
@[simp] theorem bT:Sx p q env (true,S)=p env S:=id rfl
@[simp] theorem bO:Sx p q env (false,S)=q env S:=id rfl
@[simp] theorem bp:bD t p q env S=(t env S).bind (Sx p q env):=by rw [EV];rfl
def kNx(q:bh×ac):Option oC:=some (.nx q.1 q.2)
@[simp] theorem bK:kNx (e,S)=some (.nx e S):=id rfl
def kAsg(tg:MG)(env:bh)(q:D×ac):Option oC:=(tg q.1 env q.2).bind kNx
@[simp] theorem bm:kAsg tg env (d,S)=(tg d env S).bind kNx:=id rfl
@[simp] theorem bj:aD a tg env S=(a env S).bind (kAsg tg env):=by rw [gZ];rfl
@[simp] theorem aT{i:Nat}:ag i d env S=some (env.set i (some d),S):=by rw [mW];rfl
@[simp] theorem bG:aB [] env S=some (env,S):=by rw [Bm];rfl
def kGs(gs:uC)(r:List D)(q:bh×ac):Option (bh×ac):=gs r q.1 q.2
@[simp] theorem cH{gs:uC}{r:List D}:kGs gs r (e,S)=gs r e S:=id rfl
@[simp] theorem bo{gs:uC}{r:List D}:af tg gs (d::r) env S=(tg d env S).bind (kGs gs r):=by rw [wv];rfl
theorem gTupD_of{n:Nat}{gs:uC}{xs:List D}(h:xs.length=n):aJ n gs (.tup xs) env S=gs xs env S:=by rw [mq];exact if_pos h
@[simp] theorem bV{gs:uC}:aJ 2 gs (.tup [x,y]) env S=gs [x,y] env S:=by rw [mq];rfl
@[simp] theorem rQ{gs:uC}{z:D}:aJ 3 gs (.tup [x,y,z]) env S=gs [x,y,z] env S:=by rw [mq];rfl
@[simp] theorem rP{gs:uC}{z w:D}:aJ 4 gs (.tup [x,y,z,w]) env S=gs [x,y,z,w] env S:=by rw [mq];rfl
def AW(env:bh)(d:D)(r:Nat)(k:Int)(S:ac):Option (bh×ac):=match S[r]? with
 | some (.lst xs)=>(Fg xs.length k).bind fun j=>some (env,S.set r (.lst (xs.set j d)))
 | _=>none
def Fc(env:bh)(d o:D)(q:D×ac):Option (bh×ac):=match o,q.1 with
 | .ref r,.int k=>AW env d r k q.2
 | _,_=>none
def Kq(i:ME)(env:bh)(d:D)(q:D×ac):Option (bh×ac):=(i env q.2).bind (Fc env d q.1)
@[simp] theorem kSub1_s:Kq a env d (x,S)=(a env S).bind (Fc env d x):=id rfl
@[simp] theorem kSub2_s{r:Nat}{i:Int}:Fc env d (.ref r) (.int i,S)=AW env d r i S:=id rfl
theorem tH{r:Nat}{i:Int}{xs:List D}{j:Nat}(h:S[r]?=some (.lst xs))(hj:Fg xs.length i=some j):AW env d r i S=some (env,S.set r (.lst (xs.set j d))):=by
 unfold AW;rw [h];show (Fg xs.length i).bind _=_;rw [hj];rfl
@[simp] theorem gSubD_s:gc a b d env S=(a env S).bind (Kq b env d):=by
 rw [Bl];unfold M.gc Kq Fc AW;congr 1
def kFor(tg:MG)(p:MS)(env:bh)(q:List D×ac):Option oC:=cF tg p q.1 env q.2
@[simp] theorem tJ{xs:List D}:kFor tg p env (xs,S)=cF tg p xs env S:=id rfl
@[simp] theorem tw:jd ms tg p env S=(ms env S).bind (kFor tg p env):=by rw [EW];rfl
def GX(tg:MG)(p:MS)(xs:List D):oC->Option oC
 | .nx e s=>cF tg p xs e s
 | .ct e s=>cF tg p xs e s
 | .bk e s=>some (.nx e s)
 | .rt d s=>some (.rt d s)
def kLp1(tg:MG)(p:MS)(xs:List D)(q:bh×ac):Option oC:=(p q.1 q.2).bind (GX tg p xs)
@[simp] theorem lm{xs:List D}:kLp1 tg p xs (e,S)=(p e S).bind (GX tg p xs):=id rfl
@[simp] theorem jG{xs:List D}:GX tg p xs (.nx e S)=cF tg p xs e S:=id rfl
@[simp] theorem kLp2_ct{xs:List D}:GX tg p xs (.ct e S)=cF tg p xs e S:=id rfl
@[simp] theorem kLp2_bk{xs:List D}:GX tg p xs (.bk e S)=some (.nx e S):=id rfl
@[simp] theorem Fd{xs:List D}:GX tg p xs (.rt d S)=some (.rt d S):=id rfl
@[simp] theorem pZ:cF tg p [] env S=some (.nx env S):=id rfl
theorem dE{xs:List D}:cF tg p (d::xs) env S=(tg d env S).bind (kLp1 tg p xs):=by
 show (tg d env S).bind _=_
 first | rfl | (congr 1;funext q;show (p q.1 q.2).bind _=(p q.1 q.2).bind _;congr 1;funext o;cases o <;> rfl)
def Do(q:D×ac):Option (List D×ac):=match q.1 with | .lst xs=>some (xs,q.2) | .rol xs=>some (xs,q.2) | .tup xs=>some (xs,q.2) | _=>none
@[simp] theorem yw{xs:List D}:Do (.lst xs,S)=some (xs,S):=id rfl
@[simp] theorem kItS_r{xs:List D}:Do (.rol xs,S)=some (xs,S):=id rfl
@[simp] theorem Kt{xs:List D}:Do (.tup xs,S)=some (xs,S):=id rfl
@[simp] theorem dm:da a env S=(a env S).bind Do:=by rw [yi];rfl
def PX(q:List D×ac):Option (List D×ac):=match q.1 with | [.int j]=>if -(2 ^ 62)<=j/\j<2 ^ 62 then some (cG 0 j.toNat,q.2) else none | _=>none
theorem qh{j:Int}(h:-1000000<=j)(h':j<=1000000):PX ([.int j],S)=some (cG 0 j.toNat,S):=if_pos ⟨by omega,by omega⟩
@[simp] theorem iW:cC ms env S=(ms env S).bind PX:=by rw [tq];rfl
def kR2(q:List D×ac):Option (List D×ac):=match q.1 with | [.int i,.int j]=>if -(2 ^ 62)<=i/\i<2 ^ 62/\-(2 ^ 62)<=j/\j<2 ^ 62 then some (cG i (j - i).toNat,q.2) else none | _=>none
@[simp] theorem mRange2_s:dD ms env S=(ms env S).bind kR2:=by rw [tm];rfl
def tL(q:List D×ac):Option (D×ac):=some (.lst q.1,q.2)
def nK(g:MG)(t:MT)(e:ME)(cap:List (Option Nat))(env:bh)(q:List D×ac):Option (D×ac):=if q.1.length<=sizeLine then (dF g t e q.1 (oz cap env) q.2).bind tL else none
theorem kw{cap:List (Option Nat)}{xs:List D}(h:xs.length<=1000):nK tg t a cap env (xs,S)=(dF tg t a xs (oz cap env) S).bind tL:=if_pos (sz h)
@[simp] theorem ky{xs:List D}:tL (xs,S)=some (.lst xs,S):=id rfl
@[simp] theorem bY{cap:List (Option Nat)}:bJ ms tg t a cap env S=(ms env S).bind (nK tg t a cap env):=by rw [tz];rfl
def Sy(x:D)(q:List D×ac):Option (List D×ac):=some (x::q.1,q.2)
def Sz(g:MG)(t:MT)(e:ME)(xs:List D)(env:bh)(q:D×ac):Option (List D×ac):=(dF g t e xs env q.2).bind (Sy q.1)
def Oe(g:MG)(t:MT)(e:ME)(xs:List D)(env:bh)(q:Bool×ac):Option (List D×ac):=if q.1=true then (e env q.2).bind (Sz g t e xs env) else dF g t e xs env q.2
def kCl1(g:MG)(t:MT)(e:ME)(xs:List D)(q:bh×ac):Option (List D×ac):=(t q.1 q.2).bind (Oe g t e xs q.1)
@[simp] theorem yC{xs:List D}:kCl1 tg t a xs (e,S)=(t e S).bind (Oe tg t a xs e):=id rfl
@[simp] theorem yB{xs:List D}:Oe tg t a xs e (true,S)=(a e S).bind (Sz tg t a xs e):=id rfl
@[simp] theorem Dr{xs:List D}:Oe tg t a xs e (false,S)=dF tg t a xs e S:=id rfl
@[simp] theorem yA{xs:List D}:Sz tg t a xs e (d,S)=(dF tg t a xs e S).bind (Sy d):=id rfl
@[simp] theorem yz{xs:List D}:Sy d (xs,S)=some (d::xs,S):=id rfl
@[simp] theorem Sa:dF tg t a [] env S=some ([],S):=id rfl
theorem hZ{xs:List D}:dF tg t a (d::xs) env S=(tg d env S).bind (kCl1 tg t a xs):=id rfl
section
variable{g2:MG}{t2:MT}{xs:List D}{mi2:MA}
end
def yx(n:Nat)(f:List D->ac->Option (D×ac))(q:List D×ac):Option oC:=if q.1.length=n then (f q.1 q.2).bind kRt else none
def Qc(l:List (bC×Nat×(List D->ac->Option (D×ac))))(i:Nat)(ms:MA)(env:bh)(q:D×ac):Option oC:=(fB q.1).bind fun k=>(zp l k).bind fun p=>(ms (env.set i none) q.2).bind (yx p.1 p.2)
theorem Kv{l:List (bC×Nat×(List D->ac->Option (D×ac)))}{i n:Nat}{f:List D->ac->Option (D×ac)}{k:bC}(h:fB d=some k)(h':zp l k=some (n,f)):Qc l i ms env (d,S)=(ms (env.set i none) S).bind (yx n f):=by
 show (fB d).bind _=_
 rw [h];show (zp l k).bind _=_;rw [h'];rfl
theorem GZ{n:Nat}{f:List D->ac->Option (D×ac)}{xs:List D}(h:xs.length=n):yx n f (xs,S)=(f xs S).bind kRt:=if_pos h
theorem NU{l:List (bC×Nat×(List D->ac->Option (D×ac)))}{i:Nat}:iF l i a ms env S=(a env S).bind (Qc l i ms env):=by rw [AR];rfl
@[simp] theorem jV{i j:Int}:aR S (.int i) (.int j)=some (.int (i+j)):=id rfl
theorem gz{xs ys:List D}(h:xs.length+ys.length<=1000):aR S (.tup xs) (.tup ys)=some (.tup (xs++ys)):=if_pos (sz h)
theorem DB{xs ys:List D}(h:xs.length+ys.length<=1000):aR S (.lst xs) (.lst ys)=some (.lst (xs++ys)):=if_pos (sz h)
@[simp] theorem yI{i j:Int}:nD S (.int i) (.int j)=some (.int (i - j)):=id rfl
@[simp] theorem fLt_i{i j:Int}:Oy S (.int i) (.int j)=some (.bl (decide (i<j))):=id rfl
@[simp] theorem fLe_i{i j:Int}:Oz S (.int i) (.int j)=some (.bl (decide (i<=j))):=id rfl
@[simp] theorem fGt_i{i j:Int}:fGt S (.int i) (.int j)=some (.bl (decide (j<i))):=id rfl
@[simp] theorem fGe_i{i j:Int}:fGe S (.int i) (.int j)=some (.bl (decide (j<=i))):=id rfl
@[simp] theorem fNeg_i{i:Int}:Ho S (.int i)=some (.int (-i)):=id rfl
theorem jn{i j:Int}(h:0<j):lu S (.int i) (.int j)=some (.int (i % j)):=if_pos (decide_eq_true h)
theorem Le{i j:Int}(h:0<j)(h':j<1073741824):Hr S (.int i) (.int j)=some (.int (i / j)):=if_pos (by show (decide (0<j)&&decide (j<1073741824))=true;rw [decide_eq_true h,decide_eq_true h'];rfl)
theorem KY{i j:Int}(h:(decide (0<=j)&&decide (j<=1000000)&&decide (i.natAbs<2 ^ 64))=true):vi S (.int i) (.int j)=some (.int (i ^ j.toNat)):=if_pos h
theorem jm{i j:Int}(h:oR i j=true):cw S (.int i) (.int j)=some (.int (i * j)):=if_pos h
theorem pW{i j:Int}(h:-18446744073709551616<i)(h':i<18446744073709551616):oR i j=true:=by
 unfold oR;rw [decide_eq_true (p:=i.natAbs<18446744073709551616) (by omega)];rfl
theorem xS{i j:Int}(h:-18446744073709551616<j)(h':j<18446744073709551616):oR i j=true:=by
 unfold oR;rw [decide_eq_true (p:=j.natAbs<18446744073709551616) (by omega)];simp
@[simp] theorem fIx_t{xs:List D}{i:Int}:ar S (.tup xs) (.int i)=lH xs i:=id rfl
@[simp] theorem fIx_l{xs:List D}{i:Int}:ar S (.lst xs) (.int i)=lH xs i:=id rfl
@[simp] theorem fIx_r{xs:List D}{i:Int}:ar S (.rol xs) (.int i)=lH xs i:=id rfl
theorem mX{r:Nat}{xs:List D}{i:Int}(h:S[r]?=some (.lst xs)):ar S (.ref r) (.int i)=lH xs i:=by
 have:iI S (.ref r)=some xs:=by simp only [iI,h]
 have t:zu S (.ref r)=none:=by simp only [zu,h]
 unfold ar;rw [t]
 show (iI S (.ref r)).bind _=_;rw [this];rfl
theorem Mq{α:Type}{xs:List α}{i:Int}(h0:0<=i)(h:i<xs.length):lH xs i=some (xs[i.toNat]'(by omega)):=by
 unfold lH Fg;rw [if_pos h0,if_pos h];show xs[i.toNat]?=_;rw [List.getElem?_eq_getElem]
@[simp] theorem yJ{xs:List D}:aP fN [.tup xs] S=some (.int xs.length,S):=id rfl
@[simp] theorem SX{xs:List D}:aP fN [.lst xs] S=some (.int xs.length,S):=id rfl
@[simp] theorem SW{xs:List D}:aP fN [.rol xs] S=some (.int xs.length,S):=id rfl
@[simp] theorem fInt1_i{i:Int}:aP kI [.int i] S=some (.int i,S):=id rfl
@[simp] theorem pE:aP kI [.bl k] S=some (.int (if k then 1 else 0),S):=id rfl
@[simp] theorem fMax2_i{i j:Int}:aP nR [.int i,.int j] S=some (.int (if j>i then j else i),S):=id rfl
@[simp] theorem Ow{i j:Int}:aP Bw [.int i,.int j] S=some (.int (if j<i then j else i),S):=id rfl
@[simp] theorem fSeq1_t{g:List D->D}{xs:List D}:aP (cm g) [.tup xs] S=some (g xs,S):=id rfl
@[simp] theorem eW{g:List D->D}{xs:List D}:aP (cm g) [.lst xs] S=some (g xs,S):=id rfl
theorem Lf{xs:List D}{bs:List Bool}(h:lz xs=some bs):aP yL [.lst xs] S=some (.bl (bs.all id),S):=by
 show ((lz xs).bind _).bind _=_;rw [h];rfl
@[simp] theorem lF:vj S x .non=some (.bl (lY x .non)):=id rfl
@[simp] theorem fIs_b:vj S x (.bl k)=some (.bl (lY x (.bl k))):=id rfl
@[simp] theorem pD:mr S x .non=some (.bl (!lY x .non)):=id rfl
@[simp] theorem fIsNot_b:mr S x (.bl k)=some (.bl (!lY x (.bl k))):=id rfl
theorem lv(h:cI 40 x=true)(h':cI 40 y=true):bX S x y=some (.bl (jA x y)):=if_pos ⟨h,h'⟩
theorem qp(h:cI 40 x=true)(h':cI 40 y=true):gk S x y=some (.bl (!jA x y)):=if_pos ⟨h,h'⟩
@[simp] theorem jU{i j:Int}:bX S (.int i) (.int j)=some (.bl (i == j)):=lv (by simp [cI]) (by simp [cI])
@[simp] theorem KZ{i j:Int}:gk S (.int i) (.int j)=some (.bl (!(i == j))):=qp (by simp [cI]) (by simp [cI])
@[simp] theorem fEq_bb:bX S (.bl k) (.bl l)=some (.bl (k == l)):=lv (by simp [cI]) (by simp [cI])
@[simp] theorem cP{i j:Str}:bX S (.str i) (.str j)=some (.bl (i == j)):=lv (by simp [cI]) (by simp [cI])
@[simp] theorem qo{i j:Str}:gk S (.str i) (.str j)=some (.bl (!(i == j))):=qp (by simp [cI]) (by simp [cI])
theorem jT{ys:List D}(hs:iI S y=some ys)(h:cI 40 x=true)(h':ys.all (cI 39)=true):oB S x y=some (.bl (ys.any fun d=>jA d x)):=by
 unfold oB;rw [hs];exact if_pos ⟨h,h'⟩
theorem Hm{ys:List D}(hs:iI S y=some ys)(h:cI 40 x=true)(h':ys.all (cI 39)=true):qm S x y=some (.bl (!ys.any fun d=>jA d x)):=by
 unfold qm;rw [hs];exact if_pos ⟨h,h'⟩
theorem Fk{xs:List D}{k:Int}(h0:0<=k)(h1:k<=100000)(h:xs.length * k.toNat<=1000):cw S (.tup xs) (.int k)=some (.tup (List.replicate k.toNat xs).flatten):=if_pos ⟨by omega,by omega,sz h⟩
def dW(f:MF)(x:D)(q:List D×ac):Option (D×ac):=f x q.1 q.2
def pg(f:MF)(ms:MA)(env:bh)(q:D×ac):Option (D×ac):=if rh q.2 q.1=true then (ms env q.2).bind (dW f q.1) else none
@[simp] theorem lf{f:MF}:dY f a ms env S=(a env S).bind (pg f ms env):=by rw [AL];rfl
@[simp] theorem kMeth_l{f:MF}{xs:List D}:pg f ms env (.lst xs,S)=(ms env S).bind (dW f (.lst xs)):=id rfl
theorem rM{f:MF}{r:Nat}{xs:List D}(h:S[r]?=some (.lst xs)):pg f ms env (.ref r,S)=(ms env S).bind (dW f (.ref r)):=by
 unfold pg;exact if_pos (by simp only [rh,h])
@[simp] theorem fC{f:MF}{xs:List D}:dW f x (xs,S)=f x xs S:=id rfl
theorem mZ{r:Nat}{xs:List D}(h:S[r]?=some (.lst xs))(hz:xs.length<1000):cO (.ref r) [y] S=some (.non,S.set r (.lst (xs++[y]))):=by
 simp only [cO,h];exact if_pos (Nat.lt_of_lt_of_le hz (by decide))
def AZ(q:List D×ac):Option (List D×ac):=match q.1 with | [.tup xs]=>some (eh 0 xs,q.2) | _=>none
@[simp] theorem kEnum_s{xs:List D}:AZ ([.tup xs],S)=some (eh 0 xs,S):=id rfl
@[simp] theorem mS:eX ms env S=(ms env S).bind AZ:=by rw [AO];rfl
theorem Oj{ns:List Int}(h:ns.length<64):qH S (.lst (ns.map .int))=some ns:=by
 unfold qH
 rw [if_pos (show rh S (.lst (ns.map D.int))=true from rfl)]
 show (oo (ns.map D.int)).bind _=_
 rw [tR];exact if_pos h
def kPar(i j:Nat)(env:bh)(q:List D×ac):Option oC:=match q.1 with | [v,w]=>some (.nx ((env.set i (some v)).set j (some w)) q.2) | _=>none
@[simp] theorem RW{i j:Nat}:lV i j ms env S=(ms env S).bind (kPar i j env):=by rw [ER];rfl
@[simp] theorem Sr{i j:Nat}:kPar i j env ([x,y],S)=some (.nx ((env.set i (some x)).set j (some y)) S):=id rfl
def Od(ms:MA)(env:bh)(q:D×ac):Option (D×ac):=if IC q.1=true then (ms env q.2).bind (dW fL q.1) else if rh q.2 q.1=true then (ms env q.2).bind (dW mY q.1) else none
@[simp] theorem Kg:jP a ms env S=(a env S).bind (Od ms env):=by rw [EY];rfl
@[simp] theorem kCnt_t{xs:List D}:Od ms env (.tup xs,S)=(ms env S).bind (dW fL (.tup xs)):=id rfl
@[simp] theorem kCnt_l{xs:List D}:Od ms env (.lst xs,S)=(ms env S).bind (dW mY (.lst xs)):=id rfl
theorem Hs{xs:List D}(h:cI 40 x=true)(h':xs.all (cI 39)=true):fL (.tup xs) [x] S=some (.int (xs.countP fun d=>jA d x),S):=by
 show (if IC (.tup xs)=true then ui (.tup xs) [x] S else none)=_
 rw [if_pos (show IC (.tup xs)=true from rfl)]
 exact if_pos ⟨h,h'⟩
def kZip(q:List D×ac):Option (List D×ac):=match q.1 with | [.tup xs,.tup ys]=>some (jK xs ys,q.2) | _=>none
@[simp] theorem kZip_s{xs ys:List D}:kZip ([.tup xs,.tup ys],S)=some (jK xs ys,S):=id rfl
@[simp] theorem mZip_s:nB ms env S=(ms env S).bind kZip:=by rw [EL];rfl
@[simp] theorem Iu{xs ys:List D}:jK (x::xs) (y::ys)=.tup [x,y]::jK xs ys:=id rfl
@[simp] theorem zipD_nl{xs:List D}:jK [] xs=[]:=by cases xs <;> rfl
@[simp] theorem zipD_nr{xs:List D}:jK xs []=[]:=by cases xs <;> rfl
def So(k:bC)(d:D)(z:List (bC×D)×ac):Option (List (bC×D)×ac):=some ((k,d)::z.1,z.2)
def NY(r:List (ME×ME))(env:bh)(k:bC)(q:D×ac):Option (List (bC×D)×ac):=(jM r env q.2).bind (So k q.1)
def kPr2(b:ME)(r:List (ME×ME))(env:bh)(S:ac)(k:bC):Option (List (bC×D)×ac):=(b env S).bind (NY r env k)
def Sq(b:ME)(r:List (ME×ME))(env:bh)(q:D×ac):Option (List (bC×D)×ac):=(fB q.1).bind (kPr2 b r env q.2)
@[simp] theorem oe:jM [] env S=some ([],S):=id rfl
@[simp] theorem lW{r:List (ME×ME)}:jM ((a,b)::r) env S=(a env S).bind (Sq b r env):=id rfl
@[simp] theorem kPr1_i{i:Int}{r:List (ME×ME)}:Sq b r env (.int i,S)=(b env S).bind (NY r env (.inl i)):=id rfl
@[simp] theorem Dm{i:Str}{r:List (ME×ME)}:Sq b r env (.str i,S)=(b env S).bind (NY r env (.inr i)):=id rfl
@[simp] theorem Dl{k:bC}{r:List (ME×ME)}:NY r env k (d,S)=(jM r env S).bind (So k d):=id rfl
@[simp] theorem Dk{k:bC}{z:List (bC×D)}:So k d (z,S)=some ((k,d)::z,S):=id rfl
def tK(z:List (bC×D)×ac):Option (D×ac):=if z.1.length<=15 then some (.dct ((cK [] z.1).map (·.1)) ((cK [] z.1).map (·.2)),z.2) else none
def yy(z:List (bC×D)×ac):Option (D×ac):=if z.1.length<=15 then some (.ref z.2.length,z.2++[.dct ((cK [] z.1).map (·.1)) ((cK [] z.1).map (·.2))]) else none
@[simp] theorem EX{ps:List (ME×ME)}:hX ps env S=(jM ps env S).bind tK:=by rw [AS];rfl
@[simp] theorem Kd{ps:List (ME×ME)}:fq ps env S=(jM ps env S).bind yy:=by rw [vW];rfl
theorem Be{k:bC}:∀ {l:List (bC×D)},k ∉ l.map (·.1)->Hj l k=false
 | [],_=>rfl
 | p::r,h=>by
  rw [List.map_cons,List.mem_cons,not_or] at h
  unfold Hj;rw [if_neg (fun z=>h.1 z.symm)];exact Be h.2
theorem oa:∀ {l m:List (bC×D)},((m++l).map (·.1)).Nodup->cK m l=m++l
 | [],m,_=>by rw [List.append_nil];rfl
 | p::r,m,h=>by
  show cK (Jj m p.1 p.2) r=_
  have hn:p.1 ∉ m.map (·.1):=by
   rw [List.map_append,List.map_cons,List.nodup_append] at h
   intro z;exact h.2.2 _ z _ List.mem_cons_self rfl
  unfold Jj;rw [Be hn,if_neg Bool.false_ne_true]
  rw [oa (by rw [List.append_assoc];exact h),List.append_assoc];rfl
theorem pX{l:List (bC×D)}(h:(l.map (·.1)).Nodup):cK [] l=l:=oa (m:=[]) h
theorem Ba{l:List (bC×D)}(h:(l.map (·.1)).Nodup)(hl:l.length<=15):tK (l,S)=some (.dct (l.map (·.1)) (l.map (·.2)),S):=by
 unfold tK;rw [if_pos hl];simp only [pX h]
theorem Ha{l:List (bC×D)}(h:(l.map (·.1)).Nodup)(hl:l.length<=15):yy (l,S)=some (.ref S.length,S++[.dct (l.map (·.1)) (l.map (·.2))]):=by
 unfold yy;rw [if_pos hl];simp only [pX h]
theorem wP{α β:Type}:∀ (l:List (α×β)),(l.map (·.1)).zip (l.map (·.2))=l
 | []=>rfl
 | p::r=>by rw [List.map_cons,List.map_cons,List.zip_cons_cons,wP r]
@[simp] theorem fIx_dct{ks:List bC}{vs:List D}:ar S (.dct ks vs) y=(fB y).bind (iY (ks.zip vs)):=id rfl
theorem kDict_nd{l:List (bC×D)}(h:(l.map (·.1)).Nodup)(hl:l.length<=15):tK (l,S)=some (.dct (l.map (·.1)) (l.map (·.2)),S):=by
 unfold tK;rw [if_pos hl];simp only [pX h]
theorem fIx_d{l:List (bC×D)}{k:bC}(h:fB y=some k):ar S (.dct (l.map (·.1)) (l.map (·.2))) y=iY l k:=by
 show (fB y).bind (fun k=>iY ((l.map (·.1)).zip (l.map (·.2))) k)=_
 rw [h,wP];rfl
theorem SY{r:Nat}{l:List (bC×D)}{k:bC}(hr:S[r]?=some (.dct (l.map (·.1)) (l.map (·.2))))(h:fB y=some k):ar S (.ref r) y=iY l k:=by
 have:zu S (.ref r)=some l:=by simp only [zu,hr,wP]
 unfold ar;rw [this];show (fB y).bind _=_;rw [h];rfl
def tI(f:MF)(ms:MA)(env:bh)(q:D×ac):Option (D×ac):=if Me q.2 q.1=true then (ms env q.2).bind (dW f q.1) else none
def Dq(g:MG)(t:MT)(e:ME)(cap:List (Option Nat))(env:bh)(q:D×ac):Option (D×ac):=match q.1 with
 | .ref r=>(gY g t e r 2000 0 (oz cap env) q.2).bind tL
 | _=>none
theorem Ke{g:MG}{t:MT}{e:ME}{cap:List (Option Nat)}:df a g t e cap env S=(a env S).bind (Dq g t e cap env):=by rw [qa];rfl
theorem Kx{g:MG}{t:MT}{e:ME}{cap:List (Option Nat)}{r:Nat}:Dq g t e cap env (.ref r,S)=(gY g t e r 2000 0 (oz cap env) S).bind tL:=id rfl
def tG(l:List (bC×D))(q:D×ac):Option (D×ac):=(fB q.1).bind fun k=>(iY l k).bind fun d=>some (d,q.2)
@[simp] theorem tj{l:List (bC×D)}:dC l a env S=(a env S).bind (tG l):=by rw [vR];rfl
@[simp] theorem JZ{f:MF}:fh f a ms env S=(a env S).bind (tI f ms env):=by rw [vU];rfl
@[simp] theorem kMethD_d{f:MF}{ks:List bC}{vs:List D}:tI f ms env (.dct ks vs,S)=(ms env S).bind (dW f (.dct ks vs)):=id rfl
theorem Ks{f:MF}{r:Nat}{ks:List bC}{vs:List D}(h:S[r]?=some (.dct ks vs)):tI f ms env (.ref r,S)=(ms env S).bind (dW f (.ref r)):=by
 unfold tI;exact if_pos (by simp only [Me,h])
@[simp] theorem valD_nil{k:bC}:iY [] k=none:=id rfl
@[simp] theorem valD_cons{k k':bC}{l:List (bC×D)}:iY ((k',d)::l) k=if k'=k then some d else iY l k:=id rfl
@[simp] theorem keyOf_i{i:Int}:fB (.int i)=some (.inl i):=id rfl
@[simp] theorem yr{i:Str}:fB (.str i)=some (.inr i):=id rfl
theorem Ov{r:Nat}{l m:List (bC×D)}(hr:S[r]?=some (.dct (l.map (·.1)) (l.map (·.2))))(hl:l.length+m.length<=1000) :
  uf (.ref r) [.dct (m.map (·.1)) (m.map (·.2))] S=some (.non,S.set r (.dct ((cK l m).map (·.1)) ((cK l m).map (·.2)))):=by
 simp only [uf,hr,wP]
 exact if_pos (by rw [List.length_map,List.length_map];exact sz hl)
def ph(tg:MG)(p:MS)(env:bh)(q:D×ac):Option oC:=match q.1 with
 | .ref r=>fo tg p r 2000 0 env q.2
 | .lst xs=>cF tg p xs env q.2
 | .rol xs=>cF tg p xs env q.2
 | .tup xs=>cF tg p xs env q.2
 | _=>none
@[simp] theorem mR:ee a tg p env S=(a env S).bind (ph tg p env):=by rw [AN];rfl
@[simp] theorem Oc{xs:List D}:ph tg p env (.lst xs,S)=cF tg p xs env S:=id rfl
@[simp] theorem kForD_o{xs:List D}:ph tg p env (.rol xs,S)=cF tg p xs env S:=id rfl
@[simp] theorem Ob{xs:List D}:ph tg p env (.tup xs,S)=cF tg p xs env S:=id rfl
@[simp] theorem kForD_r{r:Nat}:ph tg p env (.ref r,S)=fo tg p r 2000 0 env S:=id rfl
def GW(tg:MG)(p:MS)(r f i:Nat):oC->Option oC
 | .nx e s=>fo tg p r f i e s
 | .ct e s=>fo tg p r f i e s
 | .bk e s=>some (.nx e s)
 | .rt d s=>some (.rt d s)
def kRl1(tg:MG)(p:MS)(r f i:Nat)(q:bh×ac):Option oC:=(p q.1 q.2).bind (GW tg p r f i)
@[simp] theorem kRl1_s{r f i:Nat}:kRl1 tg p r f i (e,S)=(p e S).bind (GW tg p r f i):=id rfl
@[simp] theorem kRl2_nx{r f i:Nat}:GW tg p r f i (.nx e S)=fo tg p r f i e S:=id rfl
@[simp] theorem kRl2_ct{r f i:Nat}:GW tg p r f i (.ct e S)=fo tg p r f i e S:=id rfl
@[simp] theorem kRl2_bk{r f i:Nat}:GW tg p r f i (.bk e S)=some (.nx e S):=id rfl
@[simp] theorem kRl2_rt{r f i:Nat}:GW tg p r f i (.rt d S)=some (.rt d S):=id rfl
theorem RZ{r f i:Nat}{xs:List D}(h:S[r]?=some (.lst xs))(hx:xs.length<=i):fo tg p r (f+1) i env S=some (.nx env S):=by
 have hx':xs[i]?=none:=by simpa using hx
 unfold fo;rw [h];simp only [hx']
def Dn(q:List D×ac):Option (D×ac):=match q.1 with | [.int j]=>if 0<=j/\j<=1000 then some (.lst (cG 0 j.toNat),q.2) else none | _=>none
@[simp] theorem Ka:fj ms env S=(ms env S).bind Dn:=by rw [vV];rfl
theorem GY{j:Int}(h0:0<=j)(h1:j<=1000):Dn ([.int j],S)=some (.lst (cG 0 j.toNat),S):=if_pos ⟨h0,h1⟩
def Sk(t:MT)(p:MS)(f:Nat):oC->Option oC
 | .nx e s=>gn t p f e s
 | .ct e s=>gn t p f e s
 | .bk e s=>some (.nx e s)
 | .rt d s=>some (.rt d s)
def kWh(t:MT)(p:MS)(f:Nat)(env:bh)(q:Bool×ac):Option oC:=if q.1=true then (p env q.2).bind (Sk t p f) else some (.nx env q.2)
@[simp] theorem JU:fg t p env S=gn t p 5000 env S:=by rw [vQ];rfl
theorem GP{f:Nat}:gn t p (f+1) env S=(t env S).bind (kWh t p f env):=by
 show (t env S).bind _=_
 first | rfl | (congr 1;done)
@[simp] theorem kWh_t{f:Nat}:kWh t p f env (true,S)=(p env S).bind (Sk t p f):=id rfl
@[simp] theorem kWh_f{f:Nat}:kWh t p f env (false,S)=some (.nx env S):=id rfl
@[simp] theorem NX{f:Nat}:Sk t p f (.nx e S)=gn t p f e S:=id rfl
theorem Ox{ns:List Int}(h:ns.length<64)(h0:ns≠[]):aP nR [.lst (ns.map .int)] S=some (.int (jL ns),S):=by
 show ((nR S [.lst (ns.map D.int)]).bind _)=_
 have:nR S [.lst (ns.map D.int)]=some (.int (jL ns)):=by
  show ((qH S (.lst (ns.map D.int))).bind _)=_
  rw [Oj h]
  show (if ns.isEmpty=true then none else some (D.int (jL ns)))=_
  rw [if_neg (by cases ns with | nil=>exact absurd rfl h0 | cons _ _=>simp)]
 rw [this];rfl
theorem Fo{x y:D}{xs ys:List D}(h:(yD x||yD y)=true)(h1:qD S x=some xs)(h2:qD S y=some ys)(hl:xs.length+ys.length<=1000):aR S x y=some (.lst (xs++ys)):=by
 unfold aR;rw [if_pos h,h1,h2];exact if_pos (sz hl)
theorem szM{n:Nat}(h:n<=1000000):n<=sizeLine:=Nat.le_trans h (by decide)
theorem FX:∀ ys:List Str,Ex (ys.map .str)=some ys
 | []=>rfl
 | y::r=>by
  have:=FX r
  show (Ex (r.map .str)).bind _=_
  rw [this];rfl
def NC:oC->Option (D×ac)
 | .rt d S'=>some (d,S')
 | .nx _ S'=>some (.non,S')
 | .bk _ _=>none
 | .ct _ _=>none
@[simp] theorem aH:NC (.rt d S)=some (d,S):=id rfl
@[simp] theorem outM_nx:NC (.nx e S)=some (.non,S):=id rfl
theorem bb{N:List Str}{m:MS}{n:Nat}{ds:List D}{S:ac}(h:ds.length=n):aO N m n ds S=(m (aA N ds) S).bind NC:=by
 unfold aO;rw [if_pos h];first | rfl | (congr 1;funext o;cases o <;> rfl)
@[simp] theorem rep0:List.replicate 0 (none:Option D)=[]:=id rfl
end
end MI
namespace MI
open PySem PySem.Spec PyProof.Rows L2 M
def rK:MS:=
 ax (bD (ay (aq fGt (aq ar (ab 0) (mC (.int 0))) (mC (.int 0)))) (ax (aD (aq lu (aq ar (ab 0) (mC (.int 0))) (ab 1)) (ag 2)) (ax (aD (aq Hr (aq ar (ab 0) (mC (.int 0))) (ab 1)) (gc (ab 0) (mC (.int 0)))) (aV (ab 2)))) (aY)) (ax (aD (aq aR (aq ar (ab 0) (mC (.int 2))) (mC (.int 1))) (gc (ab 0) (mC (.int 2)))) (ax (aD (aq lu (aq aR (aq aR (aq cw (aq ar (ab 0) (mC (.int 1))) (mC (.int 48271))) (mC (.int 12345))) (aq cw (mC (.int 7)) (aq ar (ab 0) (mC (.int 2))))) (mC (.int 2147483647))) (gc (ab 0) (mC (.int 1)))) (aV (aq lu (aq Hr (aq lu (aq cw (aq ar (ab 0) (mC (.int 1))) (aq ar (ab 0) (mC (.int 1)))) (mC (.int 1999999973))) (mC (.int 64))) (ab 1)))))
def Dj:MS:=
 ax (aD (mC (.int 1)) (ag 0)) (ax (jd (cC (aa (mC (.int 10)) (ah))) (ag 1) (aD (aq cw (ab 0) (aq vi (mC (.int 10)) (mC (.int 60)))) (ag 0))) (aV (ab 0)))
def mT:MS:=
 ax (bD (ay (aq Oy (ab 1) (be (aP fN) (aa (ab 0) (ah))))) (aV (aq ar (ab 0) (ab 1))) (aY)) (aV (mC (.int 0)))
def rL(cellAt far:List D->ac->Option (D×ac)):MS:=
 ax (aD (ak 2 cellAt (aa (ab 0) (aa (aq lu (ab 1) (be (aP nR) (aa (mC (.int 1)) (aa (be (aP fN) (aa (ab 0) (ah))) (ah))))) (ah)))) (ag 2)) (ax (aD (aq lu (aq cw (aq aR (aq aR (aq lu (ab 2) (mC (.int 2147483629))) (aq cw (aq cw (mC (.int 7919)) (ab 1)) (ab 1))) (mC (.int 11))) (mC (.int 48271))) (mC (.int 2147483647))) (ag 3)) (ax (aD (aq lu (aq aR (aq aR (aq cw (ab 3) (mC (.int 39373))) (aq cw (mC (.int 7)) (ab 1))) (mC (.int 1))) (mC (.int 2147483629))) (ag 3)) (ax (bD (ay (aq Oy (ab 2) (aq vi (mC (.int 10)) (mC (.int 18))))) (aD (mC (.int 0)) (ag 2)) (aY)) (aV (dZ (aa (aq lu (ab 2) (ak 0 far ah)) (aa (ab 3) (aa (mC (.int 0)) (ah)))))))))
theorem Uf{a b c:D}:lH [a,b,c] 0=some a/\lH [a,b,c] 1=some b/\lH [a,b,c] 2=some c:=⟨rfl,rfl,rfl⟩
def Pk(S:ac)(r:Nat):Prop:=∃ a b c:Int,S[r]?=some (.lst [.int a,.int b,.int c])/\0<=a/\0<=b/\b<2147483647
def p60:Int:=1000000000000000000000000000000000000000000000000000000000000
theorem RA:(10:Int) ^ (60:Int).toNat=p60:=by decide +kernel
theorem Rz:p60.natAbs<=2 ^ (200 * 1):=by decide +kernel
theorem NA:0<p60:=by decide +kernel
theorem NB{i:Int}(h:i.natAbs<2 ^ 4000):oR i p60=true:=by
 unfold oR
 rw [decide_eq_true h,decide_eq_true (p:=p60.natAbs<2 ^ 4000) (by decide +kernel)]
 simp
def KW:MS:=aD (aq cw (ab 0) (aq vi (mC (.int 10)) (mC (.int 60)))) (ag 0)
theorem SS{S:ac}:vi S (.int 10) (.int 60)=some (.int p60):=by
 have h:=KY (S:=S) (i:=10) (j:=60) (by decide +kernel)
 rw [RA] at h
 exact h
theorem KU{S:ac}{a p:Int}{o:Option D}(h1:vi S (.int 10) (.int 60)=some (.int p))(h2:cw S (.int a) (.int p)=some (.int (a * p))):KW [some (.int a),o] S=some (.nx [some (.int (a * p)),o] S):=by
 simp [KW,h1,h2]
theorem Ou{S:ac}{a:Int}{o:Option D}(h:oR a p60=true):KW [some (.int a),o] S=some (.nx [some (.int (a * p60)),o] S):=KU SS (jm h)
theorem farL{S:ac}{B:Nat}(hB:∀ i:Int,i.natAbs<B->oR i p60=true)(l:List D):∀ (a:Int) (o:Option D),0<a->a.natAbs * 2 ^ (200 * l.length)<B->∃ q o',cF (ag 1) KW l [some (.int a),o] S=some (.nx [some (.int q),o'] S)/\0<q:=by
 induction l with
 | nil=>exact fun a o h _=>⟨a,o,rfl,h⟩
 | cons d l ih=>
  intro a o h hb
  have h1:a.natAbs<B:=Nat.lt_of_le_of_lt (Nat.le_mul_of_pos_right _ (Nat.pow_pos (by decide))) hb
  obtain⟨q,o',e,hq⟩:=ih (a * p60) (some d) (Int.mul_pos h NA) (by
   rw [Int.natAbs_mul]
   refine Nat.lt_of_le_of_lt ?_ hb
   rw [List.length_cons,Nat.mul_add,Nat.pow_add,Nat.mul_assoc]
   refine Nat.mul_le_mul_left _ ?_
   rw [Nat.mul_comm]
   exact Nat.mul_le_mul_left _ Rz)
  refine⟨q,o',?_,hq⟩
  rw [dE,aT,ob,lm]
  show (KW [some (.int a),some d] S).bind _=_
  rw [Ou (hB a h1),ob,jG]
  exact e
theorem KS{S:ac}{N:List Str}(hN:N.length=2):∃ q:Int,aO N Dj 0 [] S=some (.int q,S)/\0<q:=by
 obtain⟨q,o',e,hq⟩:=farL (S:=S) (fun i h=>NB h) (cG 0 10) 1 none (by decide) (by decide +kernel)
 refine⟨q,?_,hq⟩
 rw [bb (show ([]:List D).length=0 from rfl)]
 have:aA N []=[none,none]:=by simp [aA,hN,List.replicate]
 rw [this]
 have k1:PX ([.int 10],S)=some (cG 0 10,S):=qh (by decide) (by decide)
 have e':cF (ag 1) (aD (aq cw (ab 0) (aq vi (mC (.int 10)) (mC (.int 60)))) (ag 0)) (cG 0 10) [some (.int 1),none] S=some (.nx [some (.int q),o'] S):=e
 simp only [Dj,aQ,bj,bi,ob,bm,aT,eK,bK,aC,tw,iW,ao,am,az,al,k1,tJ,e',aW,aj,bH,oj,ai,bt,aH]
theorem Go{S:ac}{r:Nat}{m:Int}{N:List Str}(hN:N.length=3)(h:Pk S r)(h0:0<m)(h1:m<1073741824) :
  ∃ q S',aO N rK 2 [.ref r,.int m] S=some (.int q,S')/\0<=q/\q<m/\Pk S' r/\(∀ j,j≠r->S'[j]?=S[j]?)/\S'.length=S.length:=by
 obtain⟨a,b,c,h,ha,hb,hb'⟩:=h
 have hr:r<S.length:=(List.getElem?_eq_some_iff.mp h).1
 have hm:∀ x:Int,0<=x % m/\x % m<m:=fun x=>⟨Int.emod_nonneg _ (by omega),Int.emod_lt_of_pos _ h0⟩
 have hst:aA N [.ref r,.int m]=[some (.ref r),some (.int m),none]:=by simp [aA,hN]
 rw [bb (show [D.ref r,D.int m].length=2 from rfl),hst]
 have hs:∀ c:uD,(S.set r c)[r]?=some c:=fun c=>List.getElem?_set_self hr
 by_cases hp:0<a
 ·refine⟨a % m,S.set r (.lst [.int (a / m),.int b,.int c]),?_,(hm a).1,(hm a).2,⟨a / m,b,c,hs _,Int.ediv_nonneg ha (by omega),hb,hb'⟩,fun j hj=>by rw [List.getElem?_set_ne (Ne.symm hj)],by simp⟩
  have w:=tH (env:=[some (.ref r),some (.int m),some (.int (a % m))]) (d:=.int (a / m)) h (show Fg _ 0=some 0 from rfl)
  simp [rK,mX h,hp,jn h0,Le h0 h1,Uf,w]
 ·have hB:∀ x:Int,0<=x % 2147483647/\x % 2147483647<2147483647:=fun x=>⟨Int.emod_nonneg _ (by decide),Int.emod_lt_of_pos _ (by decide)⟩
  let b':=(b * 48271+12345+7 * (c+1)) % 2147483647
  have hb2:=hB (b * 48271+12345+7 * (c+1))
  have m3:oR b' b'=true:=pW (by omega) (by omega)
  have s1:(S.set r (.lst [.int a,.int b,.int (c+1)]))[r]?=some (.lst [.int a,.int b,.int (c+1)]):=hs _
  have s2:((S.set r (.lst [.int a,.int b,.int (c+1)])).set r (.lst [.int a,.int b',.int (c+1)]))[r]?=some (.lst [.int a,.int b',.int (c+1)]):=List.getElem?_set_self (by simpa using hr)
  refine⟨b' * b' % 1999999973 / 64 % m,(S.set r (.lst [.int a,.int b,.int (c+1)])).set r (.lst [.int a,.int b',.int (c+1)]),?_,(hm _).1,(hm _).2,⟨a,b',c+1,s2,ha,(hB _).1,(hB _).2⟩,fun j hj=>by rw [List.getElem?_set_ne (Ne.symm hj),List.getElem?_set_ne (Ne.symm hj)],by simp⟩
  have e1:cw (S.set r (.lst [.int a,.int b,.int (c+1)])) (.int b) (.int 48271)=some (.int (b * 48271)):=jm (xS (by decide) (by decide))
  have e2:cw (S.set r (.lst [.int a,.int b,.int (c+1)])) (.int 7) (.int (c+1))=some (.int (7 * (c+1))):=jm (pW (by decide) (by decide))
  have e3:∀ S x,lu S (.int x) (.int 2147483647)=some (.int (x % 2147483647)):=fun _ _=>jn (by decide)
  have e4:∀ S x,lu S (.int x) (.int 1999999973)=some (.int (x % 1999999973)):=fun _ _=>jn (by decide)
  have e5:∀ S x,Hr S (.int x) (.int 64)=some (.int (x / 64)):=fun _ _=>Le (by decide) (by decide)
  have w1:=tH (env:=[some (.ref r),some (.int m),none]) (d:=.int (c+1)) h (show Fg _ 2=some 2 from rfl)
  have w2:=tH (env:=[some (.ref r),some (.int m),none]) (d:=.int b') s1 (show Fg _ 1=some 1 from rfl)
  simp [rK,mX h,mX s1,mX s2,hp,jn h0,Uf,e1,e2,e3,e4,e5,w1]
  rw [show (b * 48271+12345+7 * (c+1)) % 2147483647=b' from rfl,w2]
  simp [mX (hs _),Uf,jm m3,e4,e5,jn h0]
theorem BJ{S:ac}{ns:List Int}{k:Int}{N:List Str}(hN:N.length=2)(h0:0<=k):∃ v,aO N mT 2 [.rol (ns.map .int),.int k] S=some (.int v,S):=by
 rw [bb (show [D.rol (ns.map .int),D.int k].length=2 from rfl)]
 have hst:aA N [D.rol (ns.map .int),D.int k]=[some (D.rol (ns.map .int)),some (.int k)]:=by simp [aA,hN]
 rw [hst]
 by_cases h:k<ns.length
 ·have e:lH (ns.map D.int) k=some (.int (ns[k.toNat]'(by omega))):=by
   rw [Mq h0 (by simpa using h)];simp
  exact⟨ns[k.toNat]'(by omega),by simp [mT,h,e]⟩
 ·exact⟨0,by simp [mT,h]⟩
theorem Up{S:ac}{a b c:Int}(ha:0<=a)(hb:0<=b)(hb':b<2147483647):Pk (S++[.lst [.int a,.int b,.int c]]) S.length:=⟨a,b,c,by simp,ha,hb,hb'⟩
theorem GT{S:ac}{ns:List Int}{k:Int}{N:List Str}{cellAt far:List D->ac->Option (D×ac)}(hN:N.length=4)(h0:0<=k)(h1:k<=100000)
  (hc:∀ S k,0<=k->∃ v,cellAt [.rol (ns.map .int),.int k] S=some (.int v,S)) (hf:∀ S,∃ q,far [] S=some (.int q,S)/\0<q) :
  ∃ a b,aO N (rL cellAt far) 2 [.rol (ns.map .int),.int k] S=some (.ref S.length,S++[.lst [.int a,.int b,.int 0]])/\0<=a/\0<=b/\b<2147483647:=by
 rw [bb (show [D.rol (ns.map .int),D.int k].length=2 from rfl)]
 have hst:aA N [D.rol (ns.map .int),D.int k]=[some (D.rol (ns.map .int)),some (.int k),none,none]:=by simp [aA,hN,List.replicate]
 rw [hst]
 have hmx:0<(if (ns.length:Int)>1 then (ns.length:Int) else 1):=by split <;> omega
 obtain⟨v,hv⟩:=hc S (k % (if (ns.length:Int)>1 then (ns.length:Int) else 1)) (Int.emod_nonneg _ (by omega))
 obtain⟨q,hq,q0⟩:=hf S
 have e1:∀ S x,lu S (.int x) (.int 2147483629)=some (.int (x % 2147483629)):=fun _ _=>jn (by decide)
 have e2:∀ S x,lu S (.int x) (.int 2147483647)=some (.int (x % 2147483647)):=fun _ _=>jn (by decide)
 have e3:∀ S x,lu S (.int x) (.int q)=some (.int (x % q)):=fun _ _=>jn q0
 have p1:∀ S,cw S (.int 7919) (.int k)=some (.int (7919 * k)):=fun _=>jm (pW (by decide) (by decide))
 have p2:∀ S,cw S (.int (7919 * k)) (.int k)=some (.int (7919 * k * k)):=fun _=>jm (xS (by omega) (by omega))
 have p3:∀ S x,cw S (.int x) (.int 48271)=some (.int (x * 48271)):=fun _ _=>jm (xS (by decide) (by decide))
 have p4:∀ S x,cw S (.int x) (.int 39373)=some (.int (x * 39373)):=fun _ _=>jm (xS (by decide) (by decide))
 have p5:∀ S,cw S (.int 7) (.int k)=some (.int (7 * k)):=fun _=>jm (pW (by decide) (by decide))
 have pw:∀ S,vi S (.int 10) (.int 18)=some (.int 1000000000000000000):=fun S=>by
  have h:=KY (S:=S) (i:=10) (j:=18) (by decide +kernel)
  rwa [show (10:Int) ^ (18:Int).toNat=1000000000000000000 by decide +kernel] at h
 have hb:∀ x:Int,0<=x % 2147483629/\x % 2147483629<2147483647:=fun x=>⟨Int.emod_nonneg _ (by decide),by have:=Int.emod_lt_of_pos x (show (0:Int)<2147483629 by decide);omega⟩
 have kl:∀ S x y,qE ([.int x,.int y,.int 0],S)=some (.ref S.length,S++[.lst [.int x,.int y,.int 0]]):=fun _ _ _=>ku (by simp)
 by_cases h:v<1000000000000000000
 ·refine⟨0 % q,(((v % 2147483629+7919 * k * k+11) * 48271 % 2147483647) * 39373+7 * k+1) % 2147483629,?_,Int.emod_nonneg _ (by omega),(hb _).1,(hb _).2⟩
  simp [-Int.zero_emod,rL,jn hmx,hv,e1,e2,e3,p1,p2,p3,p4,p5,pw,h,hq,kl]
 ·refine⟨v % q,(((v % 2147483629+7919 * k * k+11) * 48271 % 2147483647) * 39373+7 * k+1) % 2147483629,?_,Int.emod_nonneg _ (by omega),(hb _).1,(hb _).2⟩
  simp [rL,jn hmx,hv,e1,e2,e3,p1,p2,p3,p4,p5,pw,h,hq,kl]
theorem Bo{tg:MG}{p:MS}(I:bh->ac->Prop):∀ (xs:List D),(∀ d∈xs,∀ env S,I env S->∃ env1 S1 env2 S2,tg d env S=some (env1,S1)/\p env1 S1=some (.nx env2 S2)/\I env2 S2) ->
  ∀ env S,I env S->∃ env' S',cF tg p xs env S=some (.nx env' S')/\I env' S'
 | [],_,env,S,h=>⟨env,S,rfl,h⟩
 | d::xs,hs,env,S,h=>by
  obtain⟨env1,S1,env2,S2,e1,e2,h2⟩:=hs d List.mem_cons_self env S h
  obtain⟨env',S',e3,h3⟩:=Bo I xs (fun d hd=>hs d (List.mem_cons_of_mem _ hd)) env2 S2 h2
  exact⟨env',S',by rw [dE,e1,ob,lm,e2,ob,jG,e3],h3⟩
theorem CM{lo:Int}{n:Nat}{d:D}(h:d∈cG lo n):∃ i:Nat,i<n/\d=.int (lo+(i:Int)):=by
 obtain⟨i,hi⟩:=List.mem_iff_getElem?.mp h
 exact⟨i,sn lo n i d hi⟩
def nr:D->Bool
 | .ref _=>false
 | _=>true
end MI
namespace MI
open PySem PySem.Spec PyProof.Rows L2 M
abbrev PF:=List D->ac->Option (D×ac)
def Eo(pick:PF):Prop:=∀ (S:ac) (r:Nat) (m:Int),Pk S r->0<m->m<1073741824->∃ q S',pick [.ref r,.int m] S=some (.int q,S')/\0<=q/\q<m/\Pk S' r/\(∀ j,j≠r->S'[j]?=S[j]?)/\S'.length=S.length
def yo(pick:PF):MS:=
 ax (aD (aq ar (ej (aa (mC (.str "rows")) (aa (mC (.str "readers")) (aa (mC (.str "writers")) (aa (mC (.str "turns")) (aa (mC (.str "passes")) (ah))))))) (ak 2 pick (aa (ab 0) (aa (mC (.int 5)) (ah))))) (ag 1)) (ax (aD (aq ar (ej (aa (mC (.int 0)) (aa (mC (.int 0)) (aa (mC (.int 1)) (aa (mC (.int 2)) (aa (mC (.int 3)) (aa (mC (.int 5)) (ah)))))))) (ak 2 pick (aa (ab 0) (aa (mC (.int 6)) (ah))))) (ag 2)) (ax (aD (aq cw (aq ar (ej (aa (mC (.int 0)) (aa (mC (.int 1)) (aa (mC (.int 2)) (aa (mC (.int 9)) (ah)))))) (ak 2 pick (aa (ab 0) (aa (mC (.int 4)) (ah))))) (be (aP kI) (aa (aq bX (ab 1) (mC (.str "passes"))) (ah)))) (ag 3)) (aV (aM (aa (ab 1) (aa (ab 2) (aa (ab 3) (aa (ak 2 pick (aa (ab 0) (aa (mC (.int 2)) (ah)))) (ah)))))))))
theorem Pp{q:Int}(h0:0<=q)(h1:q<6):∃ i:Int,lH [D.int 0,D.int 0,D.int 1,D.int 2,D.int 3,D.int 5] q=some (.int i)/\0<=i/\i<=5:=by
 obtain rfl | rfl | rfl | rfl | rfl | rfl:q=0\/q=1\/q=2\/q=3\/q=4\/q=5:=by omega
 all_goals exact⟨_,rfl,by decide,by decide⟩
theorem Mo{q:Int}(h0:0<=q)(h1:q<4):∃ i:Int,lH [D.int 0,D.int 1,D.int 2,D.int 9] q=some (.int i)/\0<=i/\i<=9:=by
 obtain rfl | rfl | rfl | rfl:q=0\/q=1\/q=2\/q=3:=by omega
 all_goals exact⟨_,rfl,by decide,by decide⟩
theorem forR{tg:MG}{p:MS}{lo:Int}(I:Nat->bh->ac->Prop)(n:Nat)(step:∀ i,i<n->∀ env S,I i env S->∃ env1 S1 env2 S2,tg (.int (lo+(i:Int))) env S=some (env1,S1)/\p env1 S1=some (.nx env2 S2)/\I (i+1) env2 S2) :
  ∀ env S,I 0 env S->∃ env' S',cF tg p (cG lo n) env S=some (.nx env' S')/\I n env' S':=by
 have gen:∀ (m k:Nat),k+m=n->∀ env S,I k env S->∃ env' S',cF tg p ((List.range' k m).map fun(i:Nat)=>D.int (lo+(i:Int))) env S=some (.nx env' S')/\I n env' S':=by
  intro m
  induction m with
  | zero=>exact fun k hk env S h=>⟨env,S,rfl,by rw [<- hk];exact h⟩
  | succ m ih=>
   intro k hk env S h
   obtain⟨env1,S1,env2,S2,e1,e2,h2⟩:=step k (by omega) env S h
   obtain⟨env',S',e3,h3⟩:=ih (k+1) (by omega) env2 S2 h2
   refine⟨env',S',?_,h3⟩
   rw [List.range'_succ,List.map_cons,dE,e1,ob,lm,e2,ob,jG,e3]
 intro env S h
 have:=gen n 0 (by omega) env S h
 unfold cG
 rw [List.range_eq_range']
 exact this
def EntOk(n:Int)(xs:List D)(d:D):Prop:=∃ (g:Int) (w:Str) (m:Int) (t:D),d=.tup [.int g,.str w,.int m,t]/\0<=g/\g<n/\(w = "read"\/w = "write")/\0<=m/\m<=999/\(t=.non\/∃ k,t=.int k/\1<=k/\k<=9)/\lH xs g=some (.str "out")
theorem EntOk.up{n n':Int}{xs:List D}{d:D}(h:EntOk n xs d)(hn:n<=n'):EntOk n' xs d:=by
 obtain⟨g,w,m,t,e,h0,h1,r⟩:=h
 exact⟨g,w,m,t,e,h0,by omega,r⟩
theorem qk{S:ac}{g:List D->D}{q:Nat}{xs:List D}(h:S[q]?=some (.lst xs)):aP (cm g) [.ref q] S=some (g xs,S):=by
 have e:iI S (.ref q)=some xs:=by simp only [iI,h]
 show ((iI S (.ref q)).bind _).bind _=_
 rw [e];rfl
end MI
namespace MI
open PySem PySem.Spec PyProof.Rows L2 M
def Ds(x:Str):Prop:=x = "rows"\/x = "readers"\/x = "writers"\/x = "turns"\/x = "passes"
theorem Po{q:Int}(h0:0<=q)(h1:q<5):∃ x:Str,lH [D.str "rows",D.str "readers",D.str "writers",D.str "turns",D.str "passes"] q=some (.str x)/\Ds x:=by
 obtain rfl | rfl | rfl | rfl | rfl:q=0\/q=1\/q=2\/q=3\/q=4:=by omega
 ·exact⟨_,rfl,.inl rfl⟩
 ·exact⟨_,rfl,.inr (.inl rfl)⟩
 ·exact⟨_,rfl,.inr (.inr (.inl rfl))⟩
 ·exact⟨_,rfl,.inr (.inr (.inr (.inl rfl)))⟩
 ·exact⟨_,rfl,.inr (.inr (.inr (.inr rfl)))⟩
def Keep(r:Nat)(S S':ac):Prop:=(∀ j,j≠r->S'[j]?=S[j]?)/\S'.length=S.length
theorem Keep.trans{r:Nat}{S S' S'':ac}(h:Keep r S S')(h':Keep r S' S''):Keep r S S'':=⟨fun j z=>(h'.1 j z).trans (h.1 j z),h'.2.trans h.2⟩
structure Um(x:Str)(a b c:Int):Prop where
 w:Ds x
 a0:0<=a
 a5:a<=5
 b0:0<=b
 b9:b<=9
 c0:0<=c
 c1:c<=1
theorem Gk{pick:PF}(hp:Eo pick){S:ac}{r:Nat}{N:List Str}(hN:N.length=4)(h:Pk S r):∃ x a b c S',aO N (yo pick) 1 [.ref r] S=some (.tup [.str x,.int a,.int b,.int c],S')/\Um x a b c/\Pk S' r/\Keep r S S':=by
 have hst:aA N [D.ref r]=[some (.ref r),none,none,none]:=by simp [aA,hN,List.replicate]
 rw [bb (show [D.ref r].length=1 from rfl),hst]
 obtain⟨q1,S1,e1,l1,g1,P1,K1⟩:=hp _ _ 5 h (by decide) (by decide)
 obtain⟨q2,S2,e2,l2,g2,P2,K2⟩:=hp _ _ 6 P1 (by decide) (by decide)
 obtain⟨q3,S3,e3,l3,g3,P3,K3⟩:=hp _ _ 4 P2 (by decide) (by decide)
 obtain⟨q4,S4,e4,l4,g4,P4,K4⟩:=hp _ _ 2 P3 (by decide) (by decide)
 obtain⟨x,i1,wx⟩:=Po l1 g1
 obtain⟨a,i2,a0,a5⟩:=Pp l2 g2
 obtain⟨b,i3,b0,b9⟩:=Mo l3 g3
 have k1:∀ S,lX ([D.str "rows",D.str "readers",D.str "writers",D.str "turns",D.str "passes"],S)=some (.lst [D.str "rows",D.str "readers",D.str "writers",D.str "turns",D.str "passes"],S):=fun S=>dG (by simp)
 have k2:∀ S,lX ([D.int 0,D.int 0,D.int 1,D.int 2,D.int 3,D.int 5],S)=some (.lst [D.int 0,D.int 0,D.int 1,D.int 2,D.int 3,D.int 5],S):=fun S=>dG (by simp)
 have k3:∀ S,lX ([D.int 0,D.int 1,D.int 2,D.int 9],S)=some (.lst [D.int 0,D.int 1,D.int 2,D.int 9],S):=fun S=>dG (by simp)
 have k4:∀ S (a b c d:D),cr ([a,b,c,d],S)=some (.tup [a,b,c,d],S):=fun S a b c d=>aU (by simp)
 have m1:∀ S (z:Bool),cw S (.int b) (.int (if z=true then 1 else 0))=some (.int (b * (if z=true then 1 else 0))):=fun S z=>jm (pW (by omega) (by omega))
 refine⟨x,a,b * (if (x == ("passes":Str))=true then 1 else 0),q4,S4,?_,⟨wx,a0,a5,by split <;> omega,by split <;> omega,l4,by omega⟩,P4,Keep.trans K1 (Keep.trans K2 (Keep.trans K3 K4))⟩
 simp [-beq_iff_eq,yo,k1,k2,k3,k4,e1,e2,e3,e4,i1,i2,i3,m1]
def lj(F:PF):MS:=
 ax (bD (cW (dL "dict" (ab 1))) (ax (bD (eV (dJ (cW (dL "dict" (ab 0)))) (ay (aq gk (be (aP fN) (aa (ab 0) (ah))) (be (aP fN) (aa (ab 1) (ah)))))) (aV (mC (.bl false))) (aY)) (ax (aD (iE) (ag 2)) (aV (be (aP yL) (aa (bJ (da (ab 1)) (ag 0) (bU) (du (aq oB (ab 0) (ab 2)) (du (ak 2 F (aa (aq ar (ab 3) (ab 0)) (aa (ab 0) (ah)))) (ak 2 F (aa (aq ar (ab 2) (ab 0)) (aa (aq ar (ab 1) (ab 0)) (ah)))))) [none,some 1,some 0,some 2]) (ah)))))) (aY)) (ax (bD (eV (cW (dL "list" (ab 1))) (cW (dL "tuple" (ab 1)))) (ax (bD (eV (ay (aq gk (dL "list" (ab 0)) (dL "list" (ab 1)))) (ay (aq gk (dL "tuple" (ab 0)) (dL "tuple" (ab 1))))) (aV (mC (.bl false))) (aY)) (aV (du (aq bX (be (aP fN) (aa (ab 0) (ah))) (be (aP fN) (aa (ab 1) (ah)))) (be (aP yL) (aa (bJ (nB (aa (ab 0) (aa (ab 1) (ah)))) (aJ 2 (af (ag 0) (af (ag 1) (aB)))) (bU) (ak 2 F (aa (ab 0) (aa (ab 1) (ah)))) [none,none]) (ah)))))) (aY)) (ax (bD (ay (aq vj (ab 1) (mC .non))) (aV (aq vj (ab 0) (mC .non))) (aY)) (ax (bD (cW (dL "str" (ab 1))) (aV (du (dL "str" (ab 0)) (aq bX (ab 0) (ab 1)))) (aY)) (ax (bD (eV (cW (dL "bool" (ab 1))) (cW (dL "bool" (ab 0)))) (aV (du (dL "bool" (ab 0)) (du (dL "bool" (ab 1)) (aq bX (ab 0) (ab 1))))) (aY)) (aV (du (dL "int" (ab 0)) (aq bX (ab 0) (ab 1))))))))
def cf:Nat->D->Bool
 | 0,_=>false
 | _+1,.non=>true
 | _+1,.bl _=>true
 | _+1,.int _=>true
 | _+1,.str _=>true
 | j+1,.tup xs=>decide (xs.length<=1000)&&xs.all (cf j)
 | _+1,_=>false
theorem SZ{S:ac}{d:D}{j:Nat}(h:cf j d=true):kH "dict" S d=some (.bl false)/\kH "list" S d=some (.bl false):=by
 cases j with
 | zero=>cases h
 | succ j=>cases d <;> first | exact⟨rfl,rfl⟩ | (exfalso;simp [cf] at h)
theorem nG:∀ xs:List D,(jK xs xs).length=xs.length
 | []=>rfl
 | x::r=>by rw [Iu,List.length_cons,List.length_cons,nG r]
theorem pL:∀ n:Nat,lz (List.replicate n (D.bl true))=some (List.replicate n true)
 | 0=>rfl
 | n+1=>by
  rw [List.replicate_succ,List.replicate_succ]
  have:=pL n
  simp only [lz,this];rfl
theorem SU{S:ac}{k l:Bool}:gk S (.bl k) (.bl l)=some (.bl (!(k == l))):=qp (by simp [cI]) (by simp [cI])
theorem Ja{F:PF}{S:ac}{t1 t2:Option D}:∀ (xs:List D) (a b:Option D),(∀ d∈xs,F [d,d] S=some (.bl true,S))->dF (aJ 2 (af (ag 0) (af (ag 1) (aB)))) (bU) (ak 2 F (aa (ab 0) (aa (ab 1) (ah)))) (jK xs xs) [a,b] S=some (List.replicate xs.length (.bl true),S)
 | [],a,b,_=>by simp
 | x::r,a,b,h=>by
  have h1:=h x (by simp)
  have h2:=Ja (t1:=t1) (t2:=t2) r (some x) (some x) fun d hd=>h d (List.mem_cons_of_mem _ hd)
  rw [Iu,hZ]
  simp [h1,h2,List.replicate_succ]
theorem zL{R:Nat->PF}{N:List Str}(hN:N.length=3)(hR:∀ j,R (j+1)=aO N (lj (R j)) 2){S:ac}:∀ (j:Nat) (d:D),cf j d=true->R j [d,d] S=some (.bl true,S)
 | 0,d,h=>by cases d <;> cases h
 | j+1,d,h=>by
  have hst:aA N [d,d]=[some d,some d,none]:=by simp [aA,hN,List.replicate]
  rw [hR,bb (show [d,d].length=2 from rfl),hst]
  obtain⟨i1,i2⟩:=SZ (S:=S) h
  cases d with
  | tup xs=>
   have hx:xs.length<=1000/\xs.all (cf j)=true:=by simpa [cf] using h
   have it:kH "tuple" S (.tup xs)=some (.bl true):=rfl
   have hl:=Ja (F:=R j) (S:=S) (t1:=none) (t2:=none) xs none none fun d hd=>zL hN hR j d (List.all_eq_true.mp hx.2 d hd)
   have kc:nK (aJ 2 (af (ag 0) (af (ag 1) (aB)))) (bU) (ak 2 (R j) (aa (ab 0) (aa (ab 1) (ah)))) [none,none] [some (.tup xs),some (.tup xs),none] (jK xs xs,S)=some (.lst (List.replicate xs.length (.bl true)),S):=by
    rw [kw (by rw [nG];exact hx.1)]
    show (dF _ _ _ (jK xs xs) [none,none] S).bind _=_
    rw [hl];rfl
   have fa:aP yL [.lst (List.replicate xs.length (D.bl true))] S=some (.bl true,S):=by
    rw [Lf (pL _)];simp
   simp [lj,i1,i2,it,SU,kc,fa]
  | non=>simp [lj,i1,i2,show kH "tuple" S .non=some (.bl false) from rfl,lY]
  | bl k=>simp [lj,i1,i2,show kH "tuple" S (.bl k)=some (.bl false) from rfl,show kH "str" S (.bl k)=some (.bl false) from rfl,show kH "bool" S (.bl k)=some (.bl true) from rfl,lY]
  | int i=>simp [lj,i1,i2,show kH "tuple" S (.int i)=some (.bl false) from rfl,show kH "str" S (.int i)=some (.bl false) from rfl,show kH "bool" S (.int i)=some (.bl false) from rfl,show kH "int" S (.int i)=some (.bl true) from rfl,lY]
  | str x=>simp [lj,i1,i2,show kH "tuple" S (.str x)=some (.bl false) from rfl,show kH "str" S (.str x)=some (.bl true) from rfl,lY]
  | lst _=>simp [cf] at h
  | rol _=>simp [cf] at h
  | dct _ _=>simp [cf] at h
  | ref _=>simp [cf] at h
theorem hU{S:ac}{c:uD}:(S++[c])[S.length]?=some c:=by simp
theorem FJ{S:ac}{c d:uD}:(S++[c]).set S.length d=S++[d]:=by
 rw [List.set_append,if_neg (Nat.lt_irrefl _)];simp
end MI
namespace MI
open PySem PySem.Spec PyProof.Rows L2 M
inductive Wd where | out | reads | rising | writes | raised
deriving DecidableEq
def Wd.s:Wd->Str
 | .out=>"out"
 | .reads=>"reads"
 | .rising=>"rising"
 | .writes=>"writes"
 | .raised=>"raised"
theorem Wd.eq(a b:Wd):(a.s == b.s)=decide (a=b):=by cases a <;> cases b <;> decide +kernel
structure En where
 g:Nat
 wr:Bool
 m:Int
 t:Option Int
def bx(b:Bool):Str:=if b then "write" else "read"
theorem oE(b:Bool):(bx b == ("write":Str))=b:=by cases b <;> decide +kernel
theorem rA(b:Bool):(bx b == ("read":Str)) = !b:=by cases b <;> decide +kernel
def bF:Option Int->D
 | none=>.non
 | some k=>.int k
def En.d(e:En):D:=.tup [.int (e.g:Nat),.str (bx e.wr),.int e.m,bF e.t]
abbrev Rm:=List Wd×List En
def Wd.d(w:Wd):D:=.str w.s
def cA(ws:List Wd):D:=.tup (ws.map Wd.d)
def cb(es:List En):D:=.tup (es.map En.d)
def aN(R:Rm):D:=.tup [cA R.1,cb R.2]
inductive Rw where | rows | readers | writers | turns | passes
deriving DecidableEq
def Rw.s:Rw->Str
 | .rows=>"rows"
 | .readers=>"readers"
 | .writers=>"writers"
 | .turns=>"turns"
 | .passes=>"passes"
theorem Rw.eq(a b:Rw):(a.s == b.s)=decide (a=b):=by cases a <;> cases b <;> decide +kernel
structure Rl where
 w:Rw
 a:Int
 b:Int
 c:Int
def Rl.d(r:Rl):D:=.tup [.str r.w.s,.int r.a,.int r.b,.int r.c]
structure Rl.Ok(r:Rl):Prop where
 a0:0<=r.a
 a5:r.a<=5
 b0:0<=r.b
 b9:r.b<=9
 c0:0<=r.c
 c1:r.c<=1
theorem He{x:Str}(h:Ds x):∃ w:Rw,x=w.s:=by
 rcases h with rfl | rfl | rfl | rfl | rfl
 ·exact⟨.rows,rfl⟩
 ·exact⟨.readers,rfl⟩
 ·exact⟨.writers,rfl⟩
 ·exact⟨.turns,rfl⟩
 ·exact⟨.passes,rfl⟩
section
variable{α:Type}{enc:α->D}{p:α->Bool}{f:α->D}{t:MT}{e:ME}{rest:bh}{S:ac}
theorem Qv:∀ (xs:List α) (a:Option D),(∀ x∈xs,t (some (enc x)::rest) S=some (p x,S))->(∀ x∈xs,p x=true->e (some (enc x)::rest) S=some (f x,S))->dF (ag 0) t e (xs.map enc) (a::rest) S=some ((xs.filter p).map f,S)
 | [],a,_,_=>by simp
 | x::r,a,h,h2=>by
  have ih:=Qv r (some (enc x)) (fun y hy=>h y (List.mem_cons_of_mem _ hy)) fun y hy=>h2 y (List.mem_cons_of_mem _ hy)
  rw [List.map_cons,hZ,aT,ob,eK,yC,h x (by simp),ob]
  cases hp:p x with
  | true=>rw [yB,h2 x (by simp) hp,ob,yA,ih,ob,yz,List.filter_cons_of_pos hp,List.map_cons]
  | false=>rw [Dr,ih,List.filter_cons_of_neg (by simp [hp])]
theorem ft{cap:List (Option Nat)}{env:bh}{a:Option D}{xs:List α}(hc:oz cap env=a::rest)(hl:xs.length<=1000)(h:∀ x∈xs,t (some (enc x)::rest) S=some (p x,S))(h2:∀ x∈xs,p x=true->e (some (enc x)::rest) S=some (f x,S)) :
  nK (ag 0) t e cap env (xs.map enc,S)=some (.lst ((xs.filter p).map f),S):=by
 rw [kw (by rw [List.length_map];exact hl),hc,Qv xs a h h2,ob,ky]
theorem Qu:∀ (xs:List α) (k:Nat) (a b:Option D),(∀ i x,xs[i]?=some x->t (some (.int ((k+i:Nat):Int))::some (enc x)::rest) S=some (p x,S))->dF (aJ 2 (af (ag 0) (af (ag 1) (aB)))) t (ab 0) (eh k (xs.map enc)) (a::b::rest) S=some (((xs.zipIdx k).filter fun q=>p q.1).map fun q=>.int (q.2:Int),S)
 | [],k,a,b,_=>by simp [eh]
 | x::r,k,a,b,h=>by
  have ih:=Qu r (k+1) (some (.int (k:Int))) (some (enc x)) (fun i y hy=>by
   have:=h (i+1) y (by simpa using hy)
   rw [show k+(i+1)=k+1+i by omega] at this
   exact this)
  have h0:=h 0 x rfl
  rw [Nat.add_zero] at h0
  rw [List.map_cons,eh,hZ,bV,bo,aT,ob,eK,cH,bo,aT,ob,eY,eK,cH,bG,ob,yC,h0,ob,List.zipIdx_cons]
  cases hp:p x with
  | true=>
   rw [yB,aj,bH,oj,ob,ai,ob,yA,ih,ob,yz,List.filter_cons_of_pos (p:=fun q:α×Nat=>p q.1) (a:=(x,k)) hp,List.map_cons]
  | false=>rw [Dr,ih,List.filter_cons_of_neg (p:=fun q:α×Nat=>p q.1) (a:=(x,k)) (by simp [hp])]
theorem yt{cap:List (Option Nat)}{env:bh}{a b:Option D}{xs:List α}(hc:oz cap env=a::b::rest)(hl:xs.length<=1000)(h:∀ (i:Nat) x,xs[i]?=some x->t (some (.int (i:Int))::some (enc x)::rest) S=some (p x,S)) :
  nK (aJ 2 (af (ag 0) (af (ag 1) (aB)))) t (ab 0) cap env (eh 0 (xs.map enc),S)=some (.lst ((xs.zipIdx.filter fun q=>p q.1).map fun q=>.int (q.2:Int)),S):=by
 rw [kw (by rw [nh,List.length_map];exact hl),hc,Qu xs 0 a b (fun i x hx=>by rw [Nat.zero_add];exact h i x hx),ob,ky]
end
theorem Mp{α:Type}{xs:List α}{i:Nat}{x:α}(h:xs[i]?=some x):lH xs (i:Int)=some x:=by
 have hl:=(List.getElem?_eq_some_iff.mp h).1
 rw [Mq (by omega) (by omega)]
 rw [List.getElem?_eq_some_iff] at h
 obtain⟨_,h⟩:=h
 simpa using h
theorem at4(x a b c:D):lH [x,a,b,c] 0=some x/\lH [x,a,b,c] 1=some a/\lH [x,a,b,c] 2=some b/\lH [x,a,b,c] 3=some c:=⟨rfl,rfl,rfl,rfl⟩
theorem at2(x a:D):lH [x,a] 0=some x/\lH [x,a] 1=some a:=⟨rfl,rfl⟩
section
variable{S:ac}{e:En}{r:Rl}{R:Rm}
theorem En.ix0:ar S e.d (.int 0)=some (.int (e.g:Nat)):=rfl
theorem En.ix1:ar S e.d (.int 1)=some (.str (bx e.wr)):=rfl
theorem En.ix2:ar S e.d (.int 2)=some (.int e.m):=rfl
theorem En.ix3:ar S e.d (.int 3)=some (bF e.t):=rfl
theorem Rl.ix0:ar S r.d (.int 0)=some (.str r.w.s):=rfl
theorem Rl.ix1:ar S r.d (.int 1)=some (.int r.a):=rfl
theorem Rl.ix2:ar S r.d (.int 2)=some (.int r.b):=rfl
theorem Rl.ix3:ar S r.d (.int 3)=some (.int r.c):=rfl
theorem Rm.ix0:ar S (aN R) (.int 0)=some (cA R.1):=rfl
theorem Rm.ix1:ar S (aN R) (.int 1)=some (cb R.2):=rfl
theorem vt{ws:List Wd}{i:Nat}{w:Wd}(h:ws[i]?=some w):ar S (cA ws) (.int (i:Int))=some w.d:=by
 show lH (ws.map Wd.d) (i:Int)=_
 exact Mp (by rw [List.getElem?_map,h];rfl)
theorem Ly{es:List En}{i:Nat}{e:En}(h:es[i]?=some e):ar S (cb es) (.int (i:Int))=some e.d:=by
 show lH (es.map En.d) (i:Int)=_
 exact Mp (by rw [List.getElem?_map,h];rfl)
end
theorem Jb{n d i:Nat}:HT.eS n d (some (i:Int))=min i n:=by
 show (if (i:Int)<0 then ((i:Int)+(n:Int)).toNat else min (i:Int).toNat n)=_
 rw [if_neg (by omega),Int.toNat_natCast]
theorem Jc{n d:Nat}:HT.eS n d none=d:=rfl
theorem HS{α:Type}(xs:List α)(i:Nat)(h:i<=xs.length):iA xs none (some (i:Int))=xs.take i:=by
 unfold iA
 rw [Jb,Jc,Nat.min_eq_left h];simp
theorem nq{α:Type}(xs:List α)(i:Nat)(h:i<=xs.length):iA xs (some (i:Int)) none=xs.drop i:=by
 unfold iA
 rw [Jb,Jc,Nat.min_eq_left h,List.take_of_length_le (by simp)]
def Di:MS:=aV (aq aR (aq aR (bu (ab 0) (bv) (bS (ab 1))) (aM (aa (ab 2) (ah)))) (bu (ab 0) (bS (aq aR (ab 1) (mC (.int 1)))) (bv)))
theorem IT{α:Type}(xs:List α)(i:Nat)(h:i<xs.length)(x:α):xs.take i++[x]++xs.drop (i+1)=xs.set i x:=by
 rw [List.set_eq_take_append_cons_drop,if_pos h];simp
theorem Ng{N:List Str}(hN:N.length=3){S:ac}{ws:List Wd}{i:Nat}{w:Wd}(h:i<ws.length)(hl:ws.length<=100):aO N Di 3 [cA ws,.int (i:Int),w.d] S=some (cA (ws.set i w),S):=by
 have hst:aA N [cA ws,D.int (i:Int),w.d]=[some (cA ws),some (.int (i:Int)),some w.d]:=by simp [aA,hN]
 rw [bb (show [cA ws,D.int (i:Int),w.d].length=3 from rfl),hst]
 have k1:cr ([w.d],S)=some (.tup [w.d],S):=aU (by simp)
 have c1:iA (ws.map Wd.d) none (some (i:Int))=(ws.take i).map Wd.d:=by rw [HS _ _ (by rw [List.length_map];omega),List.map_take]
 have c2:iA (ws.map Wd.d) (some ((i:Int)+1)) none=(ws.drop (i+1)).map Wd.d:=by
  rw [show ((i:Int)+1)=((i+1:Nat):Int) by omega,nq _ _ (by rw [List.length_map];omega),List.map_drop]
 have a1:aR S (.tup ((ws.take i).map Wd.d)) (.tup [w.d])=some (.tup ((ws.take i).map Wd.d++[w.d])):=gz (by simp;omega)
 have a2:aR S (.tup ((ws.take i).map Wd.d++[w.d])) (.tup ((ws.drop (i+1)).map Wd.d))=some (.tup ((ws.take i).map Wd.d++[w.d]++(ws.drop (i+1)).map Wd.d)):=gz (by simp;omega)
 have e:(ws.take i).map Wd.d++[w.d]++(ws.drop (i+1)).map Wd.d=(ws.set i w).map Wd.d:=by
  rw [<- IT ws i h w];simp
 rw [e] at a2
 simp only [Di,cA,aW,aF,cy,aj,bH,bM,bN,oj,ob,ai,dU,cE,dS,cY,cZ,jR,c1,aw,bg,ao,am,az,al,k1,av,a1,bi,jV,c2,a2,bt,aH]
end MI
namespace MI
open PySem PySem.Spec PyProof.Rows L2 M
section
variable{S:ac}{ws:List Wd}{es:List En}{ms:MA}{env:bh}
theorem Th(a b:Wd):jA a.d b.d=decide (a=b):=Wd.eq a b
theorem NM{n:Nat}:((ws.map Wd.d).all (cI n))=true:=by
 rw [List.all_eq_true];intro d hd;obtain⟨w,_,rfl⟩:=List.mem_map.mp hd;cases n <;> rfl
theorem wR(w:Wd):fL (cA ws) [w.d] S=some (.int (ws.count w:Nat),S):=by
 have h:=Hs (S:=S) (x:=w.d) (xs:=ws.map Wd.d) rfl NM
 rw [show cA ws=.tup (ws.map Wd.d) from rfl,h]
 congr 4
 rw [List.countP_map]
 apply List.countP_congr
 intro a _
 simp [Th]
theorem oD:Od ms env (cA ws,S)=(ms env S).bind (dW fL (cA ws)):=rfl
theorem wQ:aP fN [cA ws] S=some (.int (ws.length:Nat),S):=by
 rw [show cA ws=.tup (ws.map Wd.d) from rfl,yJ,List.length_map]
theorem Lx:aP fN [cb es] S=some (.int (es.length:Nat),S):=by
 rw [show cb es=.tup (es.map En.d) from rfl,yJ,List.length_map]
end
def qe(r:Rl)(ws:List Wd)(wr:Bool):Bool:=
 if ws.count .reads+ws.count .rising+ws.count .out<ws.length then false
 else if wr then decide (ws.count .reads+ws.count .rising=0)
 else decide (ws.count .rising=0)&&(decide (r.a=0)||decide (((ws.count .reads+ws.count .rising:Nat):Int)<r.a))
def yp:MS:=
 ax (aD (aq aR (jP (ab 1) (aa (mC (.str "reads")) (ah))) (jP (ab 1) (aa (mC (.str "rising")) (ah)))) (ag 3)) (ax (bD (ay (aq Oy (aq aR (ab 3) (jP (ab 1) (aa (mC (.str "out")) (ah)))) (be (aP fN) (aa (ab 1) (ah))))) (aV (mC (.bl false))) (aY)) (ax (bD (ay (aq bX (ab 2) (mC (.str "write")))) (aV (aq bX (ab 3) (mC (.int 0)))) (aY)) (aV (du (aq bX (jP (ab 1) (aa (mC (.str "rising")) (ah))) (mC (.int 0))) (ve (aq bX (aq ar (ab 0) (mC (.int 1))) (mC (.int 0))) (aq Oy (ab 3) (aq ar (ab 0) (mC (.int 1)))))))))
theorem Ki{N:List Str}(hN:N.length=4){S:ac}{r:Rl}{ws:List Wd}{wr:Bool}:aO N yp 3 [r.d,cA ws,.str (bx wr)] S=some (.bl (qe r ws wr),S):=by
 have hst:aA N [r.d,cA ws,D.str (bx wr)]=[some r.d,some (cA ws),some (.str (bx wr)),none]:=by simp [aA,hN,List.replicate]
 rw [bb (show [r.d,cA ws,D.str (bx wr)].length=3 from rfl),hst]
 have c1:∀ S,fL (cA ws) [.str "reads"] S=some (.int (ws.count .reads:Nat),S):=fun S=>wR .reads
 have c2:∀ S,fL (cA ws) [.str "rising"] S=some (.int (ws.count .rising:Nat),S):=fun S=>wR .rising
 have c3:∀ S,fL (cA ws) [.str "out"] S=some (.int (ws.count .out:Nat),S):=fun S=>wR .out
 unfold qe
 simp only [yp,aQ,bj,aF,Kg,aj,bH,bN,bM,oj,ob,ai,oD,ao,bi,am,az,al,fC,c1,c2,c3,aw,av,jV,bm,aT,eK,eY,bK,aC,bp,aI,bP,bR,wQ,fLt_i,aE]
 by_cases h1:ws.count .reads+ws.count .rising+ws.count .out<ws.length
 ·have:decide (((ws.count Wd.reads:Nat):Int)+((ws.count Wd.rising:Nat):Int)+((ws.count Wd.out:Nat):Int)<((ws.length:Nat):Int))=true:=decide_eq_true (by omega)
  rw [this,if_pos h1];simp
 ·have:decide (((ws.count Wd.reads:Nat):Int)+((ws.count Wd.rising:Nat):Int)+((ws.count Wd.out:Nat):Int)<((ws.length:Nat):Int))=false:=decide_eq_false (by omega)
  rw [this,if_neg h1]
  cases wr with
  | true=>
   have e:(bx true == ("write":Str))=true:=oE true
   have e2:(((ws.count Wd.reads:Nat):Int)+((ws.count Wd.rising:Nat):Int) == 0)=decide (ws.count Wd.reads+ws.count Wd.rising=0):=by
    rw [Bool.eq_iff_iff];simp;omega
   simp [e,e2]
  | false=>
   have e:(bx false == ("write":Str))=false:=oE false
   have e2:(((ws.count Wd.rising:Nat):Int) == 0)=decide (ws.count Wd.rising=0):=by rw [Bool.eq_iff_iff];simp
   have e3:(r.a == 0)=decide (r.a=0):=rfl
   by_cases h2:ws.count Wd.rising=0
   ·by_cases h3:r.a=0
    ·simp [e,e2,Rl.ix1,h2,h3,oD,c2]
    ·simp [e,e2,Rl.ix1,h2,h3,oD,c2,beq_eq_false_iff_ne.mpr h3]
   ·simp [e,e2,Rl.ix1,h2,oD,c2]
theorem jb{α:Type}(xs:List α)(i:Nat):iA xs none (some (i:Int))=xs.take i:=by
 unfold iA
 rw [Jb,Jc];simp only [List.drop_zero,Nat.sub_zero]
 rcases Nat.le_total i xs.length with h | h
 ·rw [Nat.min_eq_left h]
 ·rw [Nat.min_eq_right h,List.take_of_length_le (Nat.le_refl _),List.take_of_length_le h]
def ni(i:Nat):D:=.int (i:Int)
def nl(l:List Nat):D:=.lst (l.map ni)
def ND(a b:List Nat):List Nat:=if a=[] then b else a
def zl(p:En->Bool)(es:List En):List Nat:=(es.zipIdx.filter fun q=>p q.1).map (·.2)
theorem on{p:En->Bool}{es:List En}{i:Nat}(h:i∈zl p es):i<es.length:=by
 unfold zl at h
 obtain⟨q,hq,rfl⟩:=List.mem_map.mp h
 have:=(List.mem_filter.mp hq).1
 have:=List.snd_lt_of_mem_zipIdx this
 omega
theorem Hc{es:List En}:zl (fun _=>false) es=[]:=by unfold zl;simp
theorem JK{p:En->Bool}{es:List En}:D.lst ((es.zipIdx.filter fun q=>p q.1).map fun q=>.int (q.2:Int))=nl (zl p es):=by
 unfold nl zl ni;rw [List.map_map];rfl
theorem Ss{b:ME}{env:bh}{S:ac}{l:List Nat}:PZ b env (nl l,S)=if l=[] then b env S else some (nl l,S):=by
 cases l with
 | nil=>rfl
 | cons _ _=>rw [if_neg (by simp)];exact kOr_c
theorem Sl{S:ac}{l:List Nat}{n:Nat}:iL (nl l) none (some (n:Int),S)=some (nl (l.take n),S):=by
 unfold nl;rw [Sm,jb,List.map_take]
theorem sK(n:Nat):D.lst (cG 0 n)=nl (List.range n):=by
 unfold cG nl ni;congr 1;apply List.map_congr_left;intro i _;rw [Int.zero_add]
theorem Oa{S:ac}{l:List Nat}:Do (nl l,S)=some (l.map ni,S):=rfl
def Bn(r:Rl)(es:List En):List Nat:=match r.w with
 | .rows=>(List.range es.length).take 1
 | .readers=>(ND (zl (fun e=>!e.wr) es) (zl (fun e=>e.wr) es)).take 1
 | .passes=>(List.range es.length).filter fun i=>decide (jL (0::(es.take i).map fun e=>e.m+1)<=r.b)
 | .turns=>(ND (zl (fun e=>decide (e.m=1)) es) (ND (zl (fun e=>e.wr) es) (zl (fun e=>!e.wr) es))).take 1
 | .writers=>(ND (zl (fun e=>e.wr) es) (zl (fun e=>!e.wr) es)).take 1
theorem qj{r:Rl}{es:List En}{i:Nat}(h:i∈Bn r es):i<es.length:=by
 have ho:∀ {a b:List Nat},i∈ND a b->i∈a\/i∈b:=fun {a b} h=>by unfold ND at h;split at h <;> simp [h]
 unfold Bn at h
 split at h
 ·exact List.mem_range.mp (List.mem_of_mem_take h)
 ·exact(ho (List.mem_of_mem_take h)).elim on on
 ·exact List.mem_range.mp (List.mem_filter.mp h).1
 ·exact(ho (List.mem_of_mem_take h)).elim on fun h=>(ho h).elim on on
 ·exact(ho (List.mem_of_mem_take h)).elim on on
def frR:ME:=bJ (eX (aa (ab 1) (ah))) (aJ 2 (af (ag 0) (af (ag 1) (aB)))) (ay (aq bX (aq ar (ab 1) (mC (.int 1))) (mC (.str "read")))) (ab 0) [none,none]
def frW:ME:=bJ (eX (aa (ab 1) (ah))) (aJ 2 (af (ag 0) (af (ag 1) (aB)))) (ay (aq bX (aq ar (ab 1) (mC (.int 1))) (mC (.str "write")))) (ab 0) [none,none]
def frT:ME:=bJ (eX (aa (ab 1) (ah))) (aJ 2 (af (ag 0) (af (ag 1) (aB)))) (dh (ay (aq bX (aq ar (ab 2) (mC (.int 0))) (mC (.str "turns")))) (ay (aq bX (aq ar (ab 1) (mC (.int 2))) (mC (.int 1))))) (ab 0) [none,none,some 0]
def KL:ME:=bJ (da (bu (ab 2) (bv) (bS (ab 0)))) (ag 0) (bU) (aq aR (aq ar (ab 0) (mC (.int 2))) (mC (.int 1))) [none]
def frP:ME:=bJ (cC (aa (be (aP fN) (aa (ab 1) (ah))) (ah))) (ag 0) (ay (aq Oz (be (aP nR) (aa (aq aR (ej (aa (mC (.int 0)) (ah))) KL) (ah))) (aq ar (ab 1) (mC (.int 2))))) (ab 0) [none,some 0,some 1]
def qg:MS:=
 ax (aD frR (ag 2)) (ax (aD frW (ag 3)) (ax (bD (ay (aq bX (aq ar (ab 0) (mC (.int 0))) (mC (.str "rows")))) (aV (bu (fj (aa (be (aP fN) (aa (ab 1) (ah))) (ah))) (bv) (bS (mC (.int 1))))) (aY)) (ax (bD (ay (aq bX (aq ar (ab 0) (mC (.int 0))) (mC (.str "readers")))) (aV (bu (ve (ab 2) (ab 3)) (bv) (bS (mC (.int 1))))) (aY)) (ax (bD (ay (aq bX (aq ar (ab 0) (mC (.int 0))) (mC (.str "passes")))) (aV frP) (aY)) (ax (aD frT (ag 4)) (aV (bu (ve (ab 4) (ve (ab 3) (ab 2))) (bv) (bS (mC (.int 1))))))))))
section
variable{S:ac}{r:Rl}{es:List En}
theorem yP{ms:MA}{env:bh}:AZ ([cb es],S)=some (eh 0 (es.map En.d),S):=rfl
theorem SM{a c d e:Option D}(hl:es.length<=100):frR [a,some (cb es),c,d,e] S=some (nl (zl (fun e=>!e.wr) es),S):=by
 have k:=yt (S:=S) (t:=ay (aq bX (aq ar (ab 1) (mC (.int 1))) (mC (.str "read")))) (cap:=[none,none]) (env:=[a,some (cb es),c,d,e]) (enc:=En.d) (p:=fun e=>!e.wr) (xs:=es) rfl (by omega) (fun i x _=>by simp [En.ix1,-beq_iff_eq,rA])
 rw [JK (p:=fun e=>!e.wr)] at k
 simp only [frR,bY,mS,ao,aj,bH,bN,bM,oj,ob,ai,am,az,al,yP (ms:=ah) (env:=[]),k]
theorem SK{a c d e:Option D}(hl:es.length<=100):frW [a,some (cb es),c,d,e] S=some (nl (zl (fun e=>e.wr) es),S):=by
 have k:=yt (S:=S) (t:=ay (aq bX (aq ar (ab 1) (mC (.int 1))) (mC (.str "write")))) (cap:=[none,none]) (env:=[a,some (cb es),c,d,e]) (enc:=En.d) (p:=fun e=>e.wr) (xs:=es) rfl (by omega) (fun i x _=>by simp [En.ix1,-beq_iff_eq,oE])
 rw [JK] at k
 simp only [frW,bY,mS,ao,aj,bH,bN,bM,oj,ob,ai,am,az,al,yP (ms:=ah) (env:=[]),k]
theorem SL{c d e:Option D}(hl:es.length<=100):frT [some r.d,some (cb es),c,d,e] S=some (nl (zl (fun e=>decide (r.w=.turns)&&decide (e.m=1)) es),S):=by
 have hw:(r.w.s == ("turns":Str))=decide (r.w=.turns):=Rw.eq r.w .turns
 have k:=yt (S:=S) (t:=dh (ay (aq bX (aq ar (ab 2) (mC (.int 0))) (mC (.str "turns")))) (ay (aq bX (aq ar (ab 1) (mC (.int 2))) (mC (.int 1))))) (cap:=[none,none,some 0]) (env:=[some r.d,some (cb es),c,d,e]) (enc:=En.d) (p:=fun e=>decide (r.w=.turns)&&decide (e.m=1)) (xs:=es) rfl (by omega) (fun i x _=>by
  cases h:decide (r.w=.turns) with
  | true=>simp [En.ix2,Rl.ix0,-beq_iff_eq,hw,h];rfl
  | false=>simp [En.ix2,Rl.ix0,-beq_iff_eq,hw,h])
 rw [JK (p:=fun e=>decide (r.w=.turns)&&decide (e.m=1))] at k
 simp only [frT,bY,mS,ao,aj,bH,bN,bM,oj,ob,ai,am,az,al,yP (ms:=ah) (env:=[]),k]
theorem Oo{i:Nat}{b:Option D}(hl:es.length<=60):KL [some (.int (i:Int)),b,some (cb es)] S=some (.lst (((es.take i).map fun e=>e.m+1).map .int),S):=by
 have k:=ft (S:=S) (t:=bU) (e:=aq aR (aq ar (ab 0) (mC (.int 2))) (mC (.int 1))) (cap:=[none]) (env:=[some (.int (i:Int)),b,some (cb es)]) (rest:=[]) (a:=none) (enc:=En.d) (p:=fun _=>true) (f:=fun e=>.int (e.m+1)) (xs:=es.take i) rfl (by simp;omega) (fun x _=>jE) (fun x _ _=>by simp [En.ix2])
 have e:iL (cb es) none (some (i:Int),S)=some (.tup ((es.take i).map En.d),S):=by
  rw [show cb es=.tup (es.map En.d) from rfl,jR,jb,List.map_take]
 rw [List.filter_eq_self.mpr (fun _ _=>rfl)] at k
 simp only [KL,bY,dm,cy,aj,bH,bN,bM,oj,ob,ai,dU,cE,dS,cY,cZ,e,Kt,k,List.map_map]
 rfl
theorem SN{c d e:Option D}(hl:es.length<=60):frP [some r.d,some (cb es),c,d,e] S=some (nl ((List.range es.length).filter fun i=>decide (jL (0::(es.take i).map fun e=>e.m+1)<=r.b)),S):=by
 have k:=ft (S:=S) (t:=(ay (aq Oz (be (aP nR) (aa (aq aR (ej (aa (mC (.int 0)) (ah))) KL) (ah))) (aq ar (ab 1) (mC (.int 2)))))) (e:=ab 0) (cap:=[none,some 0,some 1]) (env:=[some r.d,some (cb es),c,d,e]) (rest:=[some r.d,some (cb es)]) (a:=none) (enc:=ni) (p:=fun i=>decide (jL (0::(es.take i).map fun e=>e.m+1)<=r.b)) (f:=ni) (xs:=List.range es.length) rfl (by simp;omega) (fun i _=>by
  have h0:KL [some (ni i),some r.d,some (cb es)] S=some (.lst (((es.take i).map fun e=>e.m+1).map .int),S):=Oo hl
  have h1:lX ([.int 0],S)=some (.lst [.int 0],S):=dG (by simp)
  have h2:aR S (.lst [.int 0]) (.lst (((es.take i).map fun e=>e.m+1).map .int))=some (.lst ((0::(es.take i).map fun e=>e.m+1).map .int)):=DB (by simp;omega)
  have h3:aP nR [.lst ((0::(es.take i).map fun e=>e.m+1).map .int)] S=some (.int (jL (0::(es.take i).map fun e=>e.m+1)),S):=Ox (by simp;omega) (by simp)
  simp only [aI,aF,bP,ao,iz,bi,ob,am,az,al,h1,aw,h0,av,h2,ai,bR,h3,aj,bH,bN,bM,oj,Rl.ix2,fLe_i,aE]) (fun i _ _=>by simp)
 have e1:PX ([.int (es.length:Nat)],S)=some ((List.range es.length).map ni,S):=by
  rw [qh (by omega) (by omega)]
  have:=sK es.length
  simp only [nl,D.lst.injEq] at this
  rw [Int.toNat_natCast,this]
 simp only [frP,bY,iW,ao,bP,aj,bH,bN,bM,oj,ob,ai,am,az,al,bR,Lx,e1,k]
 rfl
theorem Dx{N:List Str}(hN:N.length=5)(hl:es.length<=60):aO N qg 2 [r.d,cb es] S=some (nl (Bn r es),S):=by
 have hst:aA N [r.d,cb es]=[some r.d,some (cb es),none,none,none]:=by simp [aA,hN,List.replicate]
 rw [bb (show [r.d,cb es].length=2 from rfl),hst]
 have a:(es.length:Nat)<=100:=by omega
 have w1:(r.w.s == ("rows":Str))=decide (r.w=.rows):=Rw.eq r.w .rows
 have w2:(r.w.s == ("readers":Str))=decide (r.w=.readers):=Rw.eq r.w .readers
 have w3:(r.w.s == ("passes":Str))=decide (r.w=.passes):=Rw.eq r.w .passes
 have lr:Dn ([.int (es.length:Nat)],S)=some (nl (List.range es.length),S):=by rw [GY (by omega) (by omega),Int.toNat_natCast,sK]
 have s1:∀ l:List Nat,iL (nl l) none (some 1,S)=some (nl (l.take 1),S):=fun l=>Sl (n:=1)
 have o1:∀ (b:ME) env (l:List Nat),PZ b env (nl l,S)=if l=[] then b env S else some (nl l,S):=fun b env l=>Ss
 simp only [qg,aQ,bj,SM a,SK a,ob,bm,aT,eK,eY,bK,aC,bp,aI,aF,aj,bH,bN,bM,oj,ai,bi,aw,Rl.ix0,av,cP,aE,w1,w2,w3]
 unfold Bn
 cases hw:r.w <;> rw [hw] at w1 w2 w3 <;> simp [cy,Ka,Lx,lr,s1,o1,SN hl,SL a,hw,ND,Rl.ix0,w1,w2,w3,-beq_iff_eq]
 ·split <;> simp [s1]
 ·rw [Hc,if_pos rfl];split <;> simp [s1]
 ·split
  ·split <;> simp [s1]
  ·simp [s1]
end
end MI
namespace MI
open PySem PySem.Spec PyProof.Rows L2 M
structure ROk(R:Rm):Prop where
 out:∀ e∈R.2,R.1[e.g]?=some .out
 nd:(R.2.map (·.g)).Nodup
theorem CJ:∀ (n:Nat) (l:List Nat),l.Nodup->(∀ x∈l,x<n)->l.length<=n
 | 0,l,_,h=>by cases l with | nil=>exact Nat.le_refl _ | cons x _=>exact absurd (h x (by simp)) (by omega)
 | n+1,l,hn,h=>by
  by_cases hm:n∈l
  ·have:=CJ n (l.erase n) (hn.erase n) fun x hx=>by
    have h1:=h x (List.mem_of_mem_erase hx)
    have h2:x≠n:=fun z=>by rw [z] at hx;exact(List.Nodup.not_mem_erase hn) hx
    omega
   rw [List.length_erase_of_mem hm] at this
   omega
  ·have:=CJ n l hn fun x hx=>by
    have h1:=h x hx
    have h2:x≠n:=fun z=>hm (z ▸ hx)
    omega
   omega
theorem ROk.lt{R:Rm}(h:ROk R){e:En}(he:e∈R.2):e.g<R.1.length:=(List.getElem?_eq_some_iff.mp (h.out e he)).1
theorem ROk.len{R:Rm}(h:ROk R):R.2.length<=R.1.length:=by
 have:=CJ R.1.length (R.2.map (·.g)) h.nd fun x hx=>by obtain⟨e,he,rfl⟩:=List.mem_map.mp hx;exact h.lt he
 rwa [List.length_map] at this
structure Ev where
 w:Str
 g:Nat
def Ev.d(e:Ev):D:=.tup [.str e.w,.int (e.g:Nat)]
def mK(ws:List Wd):List Nat:=(List.range ws.length).filter fun g=>decide (ws[g]?=some .rising)&&decide (ws.count .out+1=ws.length)
def lB(r:Rl)(ws:List Wd)(es:List En):List Nat:=(Bn r es).filter fun i=>match es[i]? with | some e=>qe r ws e.wr | none=>false
def pK(r:Rl)(e:En):En:={ e with m:=e.m+(if r.w=.passes then 1 else 0) }
def rm(r:Rl)(R:Rm)(i:Nat)(e:En):Rm:=(R.1.set e.g (if e.wr then .writes else .reads),(R.2.take i).map (pK r)++R.2.drop (i+1))
def lL(r:Rl)(R:Rm):Rm×List Ev:=match mK R.1 with
 | g::_=>((R.1.set g .raised,R.2),[⟨"steps",g⟩])
 | []=>match lB r R.1 R.2 with
  | i::_=>match R.2[i]? with
   | some e=>(rm r R i e,[⟨"in",e.g⟩])
   | none=>(R,[])
  | []=>(R,[])
def se(r:Rl):Nat->Rm->Rm×List Ev
 | 0,R=>(R,[])
 | n+1,R=>let a:=lL r R;let b:=se r n a.1;(b.1,a.2++b.2)
theorem CT(r:Rl)(es:List En):(es.map (pK r)).map (·.g)=es.map (·.g):=by rw [List.map_map];rfl
theorem Om{r:Rl}{R:Rm}{i:Nat}{e:En}(h:ROk R)(hi:R.2[i]?=some e):ROk (rm r R i e):=by
 obtain⟨ws,es⟩:=R
 have hs:es=es.take i++e::es.drop (i+1):=by
  obtain⟨hl,he⟩:=List.getElem?_eq_some_iff.mp hi
  rw [<- he,List.getElem_cons_drop,List.take_append_drop]
 have hnd:((es.take i).map (·.g)++e.g::(es.drop (i+1)).map (·.g)).Nodup:=by
  have:=h.nd
  dsimp only at this
  rw [hs] at this
  simpa using this
 rw [List.nodup_append,List.nodup_cons] at hnd
 obtain⟨n1,⟨n2,n3⟩,n4⟩:=hnd
 refine⟨fun x hx=>?_,?_⟩
 ·show (ws.set e.g _)[x.g]?=_
  have key:∃ y∈es,y.g=x.g/\x.g≠e.g:=by
   rcases List.mem_append.mp hx with hx | hx
   ·obtain⟨y,hy,rfl⟩:=List.mem_map.mp hx
    refine⟨y,List.mem_of_mem_take hy,rfl,fun z=>?_⟩
    exact n4 _ (List.mem_map.mpr ⟨y,hy,rfl⟩) _ List.mem_cons_self z
   ·refine⟨x,List.mem_of_mem_drop hx,rfl,fun z=>n2 ?_⟩
    rw [<- z];exact List.mem_map.mpr ⟨x,hx,rfl⟩
  obtain⟨y,hy,e1,ne⟩:=key
  rw [List.getElem?_set_ne (Ne.symm ne),<- e1]
  exact h.out y hy
 ·show (((es.take i).map (pK r)++es.drop (i+1)).map (·.g)).Nodup
  rw [List.map_append,CT,List.nodup_append]
  exact⟨n1,n3,fun a ha b hb=>n4 a ha b (List.mem_cons_of_mem _ hb)⟩
theorem oA{ws:List Wd}{g:Nat}(h:g∈mK ws):ws[g]?=some .rising:=by
 have:=(List.mem_filter.mp h).2
 rw [Bool.and_eq_true] at this
 exact of_decide_eq_true this.1
theorem Cf{r:Rl}{R:Rm}(h:ROk R):ROk (lL r R).1/\(lL r R).1.1.length=R.1.length:=by
 unfold lL
 split
 ·rename_i g l hg
  have hr:R.1[g]?=some .rising:=oA (by rw [hg];exact List.mem_cons_self)
  refine⟨⟨fun e he=>?_,h.nd⟩,by simp⟩
  show (R.1.set g .raised)[e.g]?=_
  have h1:=h.out e he
  rw [List.getElem?_set_ne (fun z=>by rw [z,h1] at hr;cases hr)]
  exact h1
 ·split
  ·split
   ·rename_i e he
    exact⟨Om h he,by simp [rm]⟩
   ·exact⟨h,rfl⟩
  ·exact⟨h,rfl⟩
theorem IV{r:Rl}:∀ (n:Nat) {R:Rm},ROk R->ROk (se r n R).1/\(se r n R).1.1.length=R.1.length
 | 0,R,h=>⟨h,rfl⟩
 | n+1,R,h=>by
  obtain⟨h1,h2⟩:=Cf (r:=r) h
  obtain⟨h3,h4⟩:=IV n h1
  exact⟨h3,h4.trans h2⟩
end MI
namespace MI
open PySem PySem.Spec PyProof.Rows L2 M
def rC:ME:=bJ (cC (aa (be (aP fN) (aa (ab 2) (ah))) (ah))) (ag 0) (dh (ay (aq bX (aq ar (ab 1) (ab 0)) (mC (.str "rising")))) (ay (aq bX (jP (ab 1) (aa (mC (.str "out")) (ah))) (aq nD (be (aP fN) (aa (ab 1) (ah))) (mC (.int 1)))))) (ab 0) [none,some 2]
def xc(fronts lets:PF):ME:=bJ (da (ak 2 fronts (aa (ab 0) (aa (ab 3) (ah))))) (ag 0) (cW (ak 3 lets (aa (ab 1) (aa (ab 3) (aa (aq ar (aq ar (ab 2) (ab 0)) (mC (.int 1))) (ah)))))) (ab 0) [none,some 0,some 3,some 2]
def xf:ME:=bJ (da (bu (ab 3) (bv) (bS (aq ar (ab 7) (mC (.int 0)))))) (ag 0) (bU) (aq aR (aq aR (bu (ab 0) (bv) (bS (mC (.int 2)))) (aM (aa (aq aR (aq ar (ab 0) (mC (.int 2))) (be (aP kI) (aa (aq bX (aq ar (ab 1) (mC (.int 0))) (mC (.str "passes"))) (ah)))) (ah)))) (bu (ab 0) (bS (mC (.int 3))) (bv))) [none,some 0]
def Ci(put:PF):MS:=ax (aD (ak 3 put (aa (ab 2) (aa (aq ar (ab 6) (mC (.int 0))) (aa (mC (.str "raised")) (ah))))) (ag 2)) (dM (dY cO (ab 4) (aa (aM (aa (mC (.str "steps")) (aa (aq ar (ab 6) (mC (.int 0))) (ah)))) (ah))))
def QS(put:PF):MS:=ax (aD (aq ar (ab 3) (aq ar (ab 7) (mC (.int 0)))) (aJ 4 (af (ag 8) (af (ag 9) (af (ag 10) (af (ag 11) (aB))))))) (ax (aD (ak 3 put (aa (ab 2) (aa (ab 8) (aa (aq ar (ej (aa (mC (.str "reads")) (aa (mC (.str "writes")) (ah)))) (be (aP kI) (aa (aq bX (ab 9) (mC (.str "write"))) (ah)))) (ah))))) (ag 2)) (ax (aD xf (ag 12)) (ax (aD (aq aR (be (aP (cm .tup)) (aa (ab 12) (ah))) (bu (ab 3) (bS (aq aR (aq ar (ab 7) (mC (.int 0))) (mC (.int 1)))) (bv))) (ag 3)) (dM (dY cO (ab 4) (aa (aM (aa (mC (.str "in")) (aa (ab 8) (ah)))) (ah)))))))
def pO(fronts lets put:PF):MS:=ax (aD rC (ag 6)) (ax (aD (xc fronts lets) (ag 7)) (bD (ay (aq gk (ab 6) (ej (ah)))) (Ci put) (bD (ay (aq gk (ab 7) (ej (ah)))) (QS put) (aY))))
def oi(fronts lets put:PF):MS:=
 ax (aD (ab 1) (aJ 2 (af (ag 2) (af (ag 3) (aB))))) (ax (aD (dZ (ah)) (ag 4)) (ax (jd (cC (aa (aq cw (mC (.int 2)) (be (aP fN) (aa (ab 2) (ah)))) (ah))) (ag 5) (pO fronts lets put)) (aV (aM (aa (aM (aa (ab 2) (aa (ab 3) (ah)))) (aa (ab 4) (ah)))))))
structure Il(fronts lets put:PF):Prop where
 f:∀ (S:ac) (r:Rl) (es:List En),es.length<=60->fronts [r.d,cb es] S=some (nl (Bn r es),S)
 l:∀ (S:ac) (r:Rl) (ws:List Wd) (wr:Bool),lets [r.d,cA ws,.str (bx wr)] S=some (.bl (qe r ws wr),S)
 p:∀ (S:ac) (ws:List Wd) (i:Nat) (w:Wd),i<ws.length->ws.length<=100->put [cA ws,.int (i:Int),w.d] S=some (cA (ws.set i w),S)
section
variable{S:ac}{ws:List Wd}{es:List En}{r:Rl}
theorem Jh{S:ac}{n:Nat}(h:n<=1000):PX ([.int (n:Int)],S)=some ((List.range n).map ni,S):=by
 rw [qh (by omega) (by omega)]
 have:=sK n
 simp only [nl,D.lst.injEq] at this
 rw [Int.toNat_natCast,this]
theorem rJ{S:ac}{i:Nat}{l:List Nat}:ar S (nl (i::l)) (.int 0)=some (.int (i:Int)):=by
 show lH ((i::l).map ni) ((0:Nat):Int)=_
 exact Mp rfl
theorem Cj{a0 a1 a3 a4 a5 a6 a7 a8 a9 b0 b1 b2:Option D}(hl:ws.length<=60):rC [a0,a1,some (cA ws),a3,a4,a5,a6,a7,a8,a9,b0,b1,b2] S=some (nl (mK ws),S):=by
 have k:=ft (S:=S) (t:=dh (ay (aq bX (aq ar (ab 1) (ab 0)) (mC (.str "rising")))) (ay (aq bX (jP (ab 1) (aa (mC (.str "out")) (ah))) (aq nD (be (aP fN) (aa (ab 1) (ah))) (mC (.int 1)))))) (e:=ab 0) (cap:=[none,some 2]) (env:=[a0,a1,some (cA ws),a3,a4,a5,a6,a7,a8,a9,b0,b1,b2]) (rest:=[some (cA ws)]) (a:=none) (enc:=ni) (p:=fun g=>decide (ws[g]?=some .rising)&&decide (ws.count .out+1=ws.length)) (f:=ni) (xs:=List.range ws.length) rfl (by simp;omega) (fun g hg=>by
  have hg:=List.mem_range.mp hg
  have e1:ws[g]?=some ws[g]:=List.getElem?_eq_getElem hg
  have e2:ar S (cA ws) (ni g)=some (ws[g]).d:=vt e1
  have e3:bX S (ws[g]).d (.str "rising")=some (.bl (decide (ws[g]=.rising))):=by
   show bX S (.str (ws[g]).s) (.str "rising")=_
   rw [cP];exact congrArg (fun b=>some (D.bl b)) (Wd.eq ws[g] .rising)
  have e4:∀ S,fL (cA ws) [.str "out"] S=some (.int (ws.count .out:Nat),S):=fun S=>wR .out
  have e5:(((ws.count Wd.out:Nat):Int) == (ws.length:Nat) - 1)=decide (ws.count .out+1=ws.length):=by rw [Bool.eq_iff_iff];simp;omega
  simp only [pd,aI,aF,aj,bH,bN,bM,oj,ob,ai,aw,e2,av,bi,e3,aE,e1,Option.some.injEq]
  cases hd:decide (ws[g]=.rising) with
  | true=>simp only [pj,Kg,aj,bN,bH,bM,oj,ob,ai,oD,ao,bi,am,az,al,fC,e4,aw,aF,bP,bR,wQ,av,yI,jU,aE,e5,aI,Bool.true_and]
  | false=>simp only [Fe,Bool.false_and]) (fun g _ _=>by simp)
 simp only [rC,bY,iW,ao,bP,aj,bH,bN,bM,oj,ob,ai,am,az,al,bR,wQ,Jh (show ws.length<=1000 by omega),k]
 rfl
theorem Gc{fronts lets put:PF}(O:Il fronts lets put){a1 a4 a5 a6 a7 a8 a9 b0 b1 b2:Option D}(hl:es.length<=60):xc fronts lets [some r.d,a1,some (cA ws),some (cb es),a4,a5,a6,a7,a8,a9,b0,b1,b2] S=some (nl (lB r ws es),S):=by
 have hlen:(Bn r es).length<=1000:=by
  have h1:(Bn r es).length<=60\/(Bn r es).length<=es.length:=by
   unfold Bn;split
   ·left;simp;omega
   ·left;simp;omega
   ·right;exact Nat.le_trans (List.length_filter_le _ _) (by simp)
   ·left;simp;omega
   ·left;simp;omega
  omega
 have k:=ft (S:=S) (t:=cW (ak 3 lets (aa (ab 1) (aa (ab 3) (aa (aq ar (aq ar (ab 2) (ab 0)) (mC (.int 1))) (ah)))))) (e:=ab 0) (cap:=[none,some 0,some 3,some 2]) (env:=[some r.d,a1,some (cA ws),some (cb es),a4,a5,a6,a7,a8,a9,b0,b1,b2]) (rest:=[some r.d,some (cb es),some (cA ws)]) (a:=none) (enc:=ni) (p:=fun i=>match es[i]? with | some e=>qe r ws e.wr | none=>false) (f:=ni) (xs:=Bn r es) rfl hlen (fun i hi=>by
  have e1:es[i]?=some (es[i]'(qj hi)):=List.getElem?_eq_getElem (qj hi)
  have e2:ar S (cb es) (ni i)=some (es[i]'(qj hi)).d:=Ly e1
  simp only [dB,aG,ao,aj,bH,bN,bM,oj,ob,ai,am,aF,aw,e2,av,bi,En.ix1,az,al,bE,O.l,fv,e1]) (fun g _ _=>by simp)
 simp only [xc,bY,dm,aG,ao,aj,bH,bN,bM,oj,ob,ai,am,az,al,bd,O.f S r es hl,Oa,k]
 rfl
theorem Ua{e:En}{b:Option D}:(aq aR (aq aR (bu (ab 0) (bv) (bS (mC (.int 2)))) (aM (aa (aq aR (aq ar (ab 0) (mC (.int 2))) (be (aP kI) (aa (aq bX (aq ar (ab 1) (mC (.int 0))) (mC (.str "passes"))) (ah)))) (ah)))) (bu (ab 0) (bS (mC (.int 3))) (bv))) [some e.d,some r.d] S=some ((pK r e).d,S):=by
 have w3:(r.w.s == ("passes":Str))=decide (r.w=.passes):=Rw.eq r.w .passes
 have c1:iL e.d none (some 2,S)=some (.tup [.int (e.g:Nat),.str (bx e.wr)],S):=rfl
 have c2:iL e.d (some 3) (none,S)=some (.tup [bF e.t],S):=rfl
 have k1:∀ x,cr ([x],S)=some (.tup [x],S):=fun x=>aU (by simp)
 have a1:∀ x y z,aR S (.tup [x,y]) (.tup [z])=some (.tup [x,y,z]):=fun x y z=>gz (by simp)
 have a2:∀ x y z w,aR S (.tup [x,y,z]) (.tup [w])=some (.tup [x,y,z,w]):=fun x y z w=>gz (by simp)
 simp only [aF,cy,aj,bH,bN,bM,oj,ob,ai,dU,cE,dS,cY,bi,cZ,c1,aw,bg,ao,am,bP,En.ix2,Rl.ix0,av,cP,w3,az,al,bR,pE,jV,k1,a1,c2,a2]
 unfold pK En.d
 by_cases h:r.w=.passes <;> simp [h]
theorem Ck{i:Nat}{l:List Nat}{a1 a2 a4 a5 a6 a8 a9 b0 b1 b2:Option D}(hl:es.length<=60):xf [some r.d,a1,a2,some (cb es),a4,a5,a6,some (nl (i::l)),a8,a9,b0,b1,b2] S=some (.lst (((es.take i).map (pK r)).map En.d),S):=by
 have k:=ft (S:=S) (t:=bU) (e:=aq aR (aq aR (bu (ab 0) (bv) (bS (mC (.int 2)))) (aM (aa (aq aR (aq ar (ab 0) (mC (.int 2))) (be (aP kI) (aa (aq bX (aq ar (ab 1) (mC (.int 0))) (mC (.str "passes"))) (ah)))) (ah)))) (bu (ab 0) (bS (mC (.int 3))) (bv))) (cap:=[none,some 0]) (env:=[some r.d,a1,a2,some (cb es),a4,a5,a6,some (nl (i::l)),a8,a9,b0,b1,b2]) (rest:=[some r.d]) (a:=none) (enc:=En.d) (p:=fun _=>true) (f:=fun e=>(pK r e).d) (xs:=es.take i) rfl (by simp;omega) (fun x _=>jE) (fun x _ _=>Ua (b:=none))
 rw [List.filter_eq_self.mpr (fun _ _=>rfl)] at k
 have e:iL (cb es) none (some (i:Int),S)=some (.tup ((es.take i).map En.d),S):=by
  rw [show cb es=.tup (es.map En.d) from rfl,jR,jb,List.map_take]
 have e0:ar S (nl (i::l)) (.int 0)=some (.int (i:Int)):=rJ
 simp only [xf,bY,dm,cy,aF,aj,bH,bN,bM,oj,ob,ai,dU,cE,dS,cY,aw,bi,av,e0,cZ,e,Kt,k,List.map_map]
 rfl
theorem Dz{l:List Nat}:gk S (nl l) (.lst [])=some (.bl (!decide (l=[]))):=by
 have ok:cI 40 (nl l)=true:=by
  show (l.map ni).all (cI 39)=true
  rw [List.all_eq_true];intro d hd;obtain⟨i,_,rfl⟩:=List.mem_map.mp hd;rfl
 rw [qp ok rfl]
 cases l with
 | nil=>rfl
 | cons _ _=>rfl
theorem DD{evs:List Ev}{v:Ev}(h:evs.length<500):cO (.ref S.length) [v.d] (S++[.lst (evs.map Ev.d)])=some (.non,S++[.lst ((evs++[v]).map Ev.d)]):=by
 rw [mZ hU (by rw [List.length_map];omega),FJ];simp
theorem yM{evs:List Ev}{f:MF}{ms:MA}{env:bh}:pg f ms env (.ref S.length,S++[.lst (evs.map Ev.d)])=(ms env (S++[.lst (evs.map Ev.d)])).bind (dW f (.ref S.length)):=rM hU
theorem Gb{fronts lets put:PF}(O:Il fronts lets put){g:Nat}{l:List Nat}{evs:List Ev}{a0 a1 a3 a5 a7 a8 a9 b0 b1 b2:Option D}(hg:g<ws.length)(hl:ws.length<=60)(he:evs.length<500) :
  Ci put [a0,a1,some (cA ws),a3,some (.ref S.length),a5,some (nl (g::l)),a7,a8,a9,b0,b1,b2] (S++[.lst (evs.map Ev.d)])=some (.nx [a0,a1,some (cA (ws.set g .raised)),a3,some (.ref S.length),a5,some (nl (g::l)),a7,a8,a9,b0,b1,b2] (S++[.lst ((evs++[Ev.mk "steps" g]).map Ev.d)])):=by
 have p1:∀ S,put [cA ws,.int (g:Int),.str "raised"] S=some (cA (ws.set g .raised),S):=fun S=>O.p S ws g .raised hg (by omega)
 have k2:∀ S (x y:D),cr ([x,y],S)=some (.tup [x,y],S):=fun S x y=>aU (by simp)
 have ap:cO (.ref S.length) [.tup [.str "steps",.int (g:Int)]] (S++[.lst (evs.map Ev.d)])=some (.non,S++[.lst ((evs++[Ev.mk "steps" g]).map Ev.d)]):=DD (v:=⟨"steps",g⟩) he
 simp only [Ci,aQ,bj,aG,ao,aj,bH,bN,bM,oj,ob,ai,am,aF,bi,aw,av,rJ,az,al,bE,p1,bm,aT,eK,eY,bK,aC,lg,lf,yM,bg,k2,fC,ap,lq]
theorem MU{fronts lets put:PF}(O:Il fronts lets put){i:Nat}{l:List Nat}{e:En}{evs:List Ev}{a1 a5 a6 a8 a9 b0 b1 b2:Option D}(hi:es[i]?=some e)(hg:e.g<ws.length)(hl:ws.length<=60)(hl2:es.length<=60)(he:evs.length<500) :
  ∃ c8 c9 d0 d1 d2,QS put [some r.d,a1,some (cA ws),some (cb es),some (.ref S.length),a5,a6,some (nl (i::l)),a8,a9,b0,b1,b2] (S++[.lst (evs.map Ev.d)])=some (.nx [some r.d,a1,some (cA (rm r (ws,es) i e).1),some (cb (rm r (ws,es) i e).2),some (.ref S.length),a5,a6,some (nl (i::l)),c8,c9,d0,d1,d2] (S++[.lst ((evs++[Ev.mk "in" e.g]).map Ev.d)])):=by
 have hlt:=(List.getElem?_eq_some_iff.mp hi).1
 have p1:∀ S,put [cA ws,.int (e.g:Int),(if e.wr then Wd.writes else Wd.reads).d] S=some (cA (ws.set e.g (if e.wr then .writes else .reads)),S):=fun S=>O.p S ws e.g _ hg (by omega)
 have k2:∀ S (x y:D),cr ([x,y],S)=some (.tup [x,y],S):=fun S x y=>aU (by simp)
 have l2:∀ S (x y:D),lX ([x,y],S)=some (.lst [x,y],S):=fun S x y=>dG (by simp)
 have ap:cO (.ref S.length) [.tup [.str "in",.int (e.g:Int)]] (S++[.lst (evs.map Ev.d)])=some (.non,S++[.lst ((evs++[Ev.mk "in" e.g]).map Ev.d)]):=DD (v:=⟨"in",e.g⟩) he
 have x1:∀ S,ar S (cb es) (.int (i:Int))=some e.d:=fun S=>Ly hi
 have wd:∀ S,ar S (.lst [.str "reads",.str "writes"]) (.int (if e.wr=true then 1 else 0))=some (if e.wr then Wd.writes else Wd.reads).d:=fun S=>by cases e.wr <;> rfl
 have g4:∀ env S,aJ 4 (af (ag 8) (af (ag 9) (af (ag 10) (af (ag 11) (aB))))) e.d env S=(af (ag 8) (af (ag 9) (af (ag 10) (af (ag 11) (aB))))) [.int (e.g:Nat),.str (bx e.wr),.int e.m,bF e.t] env S:=fun env S=>rP
 have cd:iA (es.map En.d) (some ((i:Int)+1)) none=(es.drop (i+1)).map En.d:=by
  rw [show ((i:Int)+1)=((i+1:Nat):Int) by omega,nq _ _ (by rw [List.length_map];omega),List.map_drop]
 have sd:∀ S,iL (cb es) (some ((i:Int)+1)) (none,S)=some (.tup ((es.drop (i+1)).map En.d),S):=fun S=>by
  rw [show cb es=.tup (es.map En.d) from rfl,jR,cd]
 have ad:∀ S,aR S (.tup (((es.take i).map (pK r)).map En.d)) (.tup ((es.drop (i+1)).map En.d))=some (cb (rm r (ws,es) i e).2):=fun S=>by
  rw [gz (by simp;omega),<- List.map_append];rfl
 refine⟨some (.int (e.g:Nat)),some (.str (bx e.wr)),some (.int e.m),some (bF e.t),some (.lst (((es.take i).map (pK r)).map En.d)),?_⟩
 ·simp only [QS,aQ,bj,aF,aj,bH,bN,bM,oj,ob,ai,aw,bi,av,rJ,x1,bm,g4,bo,aT,cH,bG,eK,eY,bK,aC,aG,ao,am,iz,az,al,l2,bP,cP,oE,bR,pE,wd,bE,p1,Ck hl2,eW,cy,dU,cY,jV,cZ,dS,cE,sd,ad,lg,lf,yM,bg,k2,fC,ap,lq]
  try rfl
theorem Ga{fronts lets put:PF}(O:Il fronts lets put){R:Rm}(h:ROk R)(hl:R.1.length<=50){evs:List Ev}{a1 a5 a6 a7 a8 a9 b0 b1 b2:Option D}(he:evs.length<500) :
  ∃ c6 c7 c8 c9 d0 d1 d2,pO fronts lets put [some r.d,a1,some (cA R.1),some (cb R.2),some (.ref S.length),a5,a6,a7,a8,a9,b0,b1,b2] (S++[.lst (evs.map Ev.d)])=some (.nx [some r.d,a1,some (cA (lL r R).1.1),some (cb (lL r R).1.2),some (.ref S.length),a5,c6,c7,c8,c9,d0,d1,d2] (S++[.lst ((evs++(lL r R).2).map Ev.d)])):=by
 obtain⟨ws,es⟩:=R
 have hl2:es.length<=60:=by have:=h.len;simp only at this hl;omega
 have hl1:ws.length<=60:=by simp only at hl;omega
 have k0:∀ S,lX ([],S)=some (.lst [],S):=fun S=>dG (by simp)
 have e1:∀ (T:ac) (a6:Option D),rC [some r.d,a1,some (cA ws),some (cb es),some (.ref S.length),a5,a6,a7,a8,a9,b0,b1,b2] T=some (nl (mK ws),T):=fun T a6=>Cj hl1
 have e2:∀ (T:ac) (a6 a7:Option D),xc fronts lets [some r.d,a1,some (cA ws),some (cb es),some (.ref S.length),a5,a6,a7,a8,a9,b0,b1,b2] T=some (nl (lB r ws es),T):=fun T a6 a7=>Gc O hl2
 unfold lL
 dsimp only
 cases hA:mK ws with
 | cons g l=>
  have hr:ws[g]?=some .rising:=oA (by rw [hA];exact List.mem_cons_self)
  have hg:g<ws.length:=(List.getElem?_eq_some_iff.mp hr).1
  rw [hA] at e1
  have e3:=Gb O (S:=S) (ws:=ws) (g:=g) (l:=l) (evs:=evs) (a0:=some r.d) (a1:=a1) (a3:=some (cb es)) (a5:=a5) (a7:=some (nl (lB r ws es))) (a8:=a8) (a9:=a9) (b0:=b0) (b1:=b1) (b2:=b2) hg hl1 he
  refine⟨some (nl (g::l)),some (nl (lB r ws es)),a8,a9,b0,b1,b2,?_⟩
  simp only [pO,aQ,bj,e1,e2,ob,bm,aT,eK,eY,bK,aC,bp,aI,aF,aj,bH,bN,bM,oj,ai,aw,iz,az,k0,av,Dz,aE,reduceCtorEq,decide_false,Bool.not_false,bT,e3]
 | nil=>
  rw [hA] at e1
  cases hB:lB r ws es with
  | nil=>
   rw [hB] at e2
   refine⟨some (nl []),some (nl []),a8,a9,b0,b1,b2,?_⟩
   simp only [pO,aQ,bj,e1,e2,ob,bm,aT,eK,eY,bK,aC,bp,aI,aF,aj,bH,bN,bM,oj,ai,aw,iz,az,k0,av,Dz,aE,decide_true,Bool.not_true,bO,bA,List.append_nil]
  | cons i l=>
   rw [hB] at e2
   have hi:i∈lB r ws es:=by rw [hB];exact List.mem_cons_self
   have hlt:i<es.length:=qj (List.mem_filter.mp hi).1
   have ei:es[i]?=some es[i]:=List.getElem?_eq_getElem hlt
   have hg:(es[i]).g<ws.length:=h.lt (R:=(ws,es)) (List.getElem_mem hlt)
   obtain⟨c8,c9,d0,d1,d2,e3⟩:=MU O (S:=S) (ws:=ws) (es:=es) (r:=r) (i:=i) (l:=l) (evs:=evs) (a1:=a1) (a5:=a5) (a6:=some (nl [])) (a8:=a8) (a9:=a9) (b0:=b0) (b1:=b1) (b2:=b2) ei hg hl1 hl2 he
   dsimp only
   rw [ei]
   refine⟨some (nl []),some (nl (i::l)),c8,c9,d0,d1,d2,?_⟩
   simp only [pO,aQ,bj,e1,e2,ob,bm,aT,eK,eY,bK,aC,bp,aI,aF,aj,bH,bN,bM,oj,ai,aw,iz,az,k0,av,Dz,aE,decide_true,Bool.not_true,bO,reduceCtorEq,decide_false,Bool.not_false,bT,e3]
theorem Ey{R:Rm}:(lL r R).2.length<=1:=by
 unfold lL
 split
 ·simp
 ·split
  ·split <;> simp
  ·simp
theorem zy{fronts lets put:PF}(O:Il fronts lets put){N:List Str}(hN:N.length=13){R:Rm}(h:ROk R)(hl:R.1.length<=50) :
  aO N (oi fronts lets put) 2 [r.d,aN R] S=some (.tup [aN (se r (2 * R.1.length) R).1,.ref S.length],S++[.lst ((se r (2 * R.1.length) R).2.map Ev.d)]):=by
 have hst:aA N [r.d,aN R]=[some r.d,some (aN R),none,none,none,none,none,none,none,none,none,none,none]:=by simp [aA,hN,List.replicate]
 rw [bb (show [r.d,aN R].length=2 from rfl),hst]
 obtain⟨env',S',e,R',evs',c5,c6,c7,c8,c9,d0,d1,d2,o1,o2,o3,o4,rfl,rfl⟩:=forR (tg:=ag 5) (p:=pO fronts lets put) (lo:=0) (fun i env T=>∃ (R':Rm) (evs':List Ev) (c5 c6 c7 c8 c9 d0 d1 d2:Option D),ROk R'/\R'.1.length=R.1.length/\evs'.length<=i/\(i<=2 * R.1.length->se r (2 * R.1.length) R=((se r (2 * R.1.length - i) R').1,evs'++(se r (2 * R.1.length - i) R').2)) /\
   env=[some r.d,some (aN R),some (cA R'.1),some (cb R'.2),some (.ref S.length),c5,c6,c7,c8,c9,d0,d1,d2]/\T=S++[.lst (evs'.map Ev.d)]) (2 * R.1.length) (fun i hi env T hI=>by
  obtain⟨R',evs',c5,c6,c7,c8,c9,d0,d1,d2,o1,o2,o3,o4,rfl,rfl⟩:=hI
  obtain⟨f6,f7,f8,f9,g0,g1,g2,e⟩:=Ga O (r:=r) (S:=S) (R:=R') o1 (by omega) (evs:=evs') (a1:=some (aN R)) (a5:=some (.int (0+(i:Int)))) (a6:=c6) (a7:=c7) (a8:=c8) (a9:=c9) (b0:=d0) (b1:=d1) (b2:=d2) (by omega)
  obtain⟨q1,q2⟩:=Cf (r:=r) o1
  have fw:=Ey (r:=r) (R:=R')
  refine⟨_,_,_,_,aT,e,(lL r R').1,evs'++(lL r R').2,_,f6,f7,f8,f9,g0,g1,g2,q1,q2.trans o2,by rw [List.length_append];omega,fun hn=>?_,rfl,rfl⟩
  rw [o4 (by omega),show 2 * R.1.length - i=(2 * R.1.length - (i+1))+1 by omega]
  simp only [se,List.append_assoc]) [some r.d,some (aN R),some (cA R.1),some (cb R.2),some (.ref S.length),none,none,none,none,none,none,none,none] (S++[.lst []]) ⟨R,[],none,none,none,none,none,none,none,none,h,rfl,Nat.le_refl _,fun _=>by simp,rfl,rfl⟩
 have o5:=o4 (Nat.le_refl _)
 rw [Nat.sub_self] at o5
 simp only [se,List.append_nil] at o5
 have k0:qE ([],S)=some (.ref S.length,S++[.lst []]):=ku (by simp)
 have k2:∀ S (x y:D),cr ([x,y],S)=some (.tup [x,y],S):=fun S x y=>aU (by simp)
 have mu:∀ S,cw S (.int 2) (.int (R.1.length:Nat))=some (.int (2 * (R.1.length:Nat))):=fun S=>jm (pW (by decide) (by decide))
 have kr:∀ S,PX ([.int (2 * (R.1.length:Nat))],S)=some (cG 0 (2 * R.1.length),S):=fun S=>by
  rw [qh (by omega) (by omega)];congr 3
 have g2:∀ env S,aJ 2 (af (ag 2) (af (ag 3) (aB))) (aN R) env S=(af (ag 2) (af (ag 3) (aB))) [cA R.1,cb R.2] env S:=fun env S=>bV
 rw [o5]
 simp only [oi,aQ,bj,aj,bH,bN,bM,oj,ob,ai,bm,g2,bo,aT,cH,bG,eK,eY,bK,aC,oY,az,k0,tw,iW,ao,aF,bi,aw,bP,am,al,bR,wQ,av,mu,kr,tJ,e,aW,bg,k2,bt,aH]
 rfl
end
end MI
namespace MI
open PySem PySem.Spec PyProof.Rows L2 M
inductive Ak where | up | down | leave | stop
deriving DecidableEq
def Ak.s:Ak->Str
 | .up=>"up"
 | .down=>"down"
 | .leave=>"leave"
 | .stop=>"stop"
inductive Dd where
 | ask (wr:Bool) (g:Nat) (t:Option Int)
 | act (k:Ak) (g:Nat)
 | tick
def Dd.d:Dd->D
 | .ask wr g t=>.tup [.str (bx wr),.int (g:Int),bF t]
 | .act k g=>.tup [.str k.s,.int (g:Int)]
 | .tick=>.tup [.str "tick"]
def zj(t:Option Int):Prop:=∀ k,t=some k->0<=k/\k<=9
def Dd.Ok(n:Nat):Dd->Prop
 | .ask _ g t=>g<n/\zj t
 | .act _ g=>g<n
 | .tick=>True
def pf(pick:PF):MS:=
 ax (aD (ak 2 pick (aa (ab 0) (aa (ab 1) (ah)))) (ag 2)) (ax (aD (ak 2 pick (aa (ab 0) (aa (mC (.int 12)) (ah)))) (ag 3)) (ax (bD (ay (aq Oy (ab 3) (mC (.int 6)))) (aV (aM (aa (aq ar (ej (aa (mC (.str "read")) (aa (mC (.str "write")) (ah)))) (aq lu (ab 3) (mC (.int 2)))) (aa (ab 2) (aa (aq ar (ej (aa (mC .non) (aa (mC .non) (aa (mC .non) (aa (mC (.int 0)) (aa (mC (.int 1)) (aa (mC (.int 9)) (ah)))))))) (ak 2 pick (aa (ab 0) (aa (mC (.int 6)) (ah))))) (ah)))))) (aY)) (ax (bD (ay (aq bX (ab 3) (mC (.int 11)))) (aV (aM (aa (mC (.str "tick")) (ah)))) (aY)) (aV (aM (aa (aq ar (ej (aa (mC (.str "up")) (aa (mC (.str "down")) (aa (mC (.str "leave")) (aa (mC (.str "leave")) (aa (mC (.str "stop")) (ah))))))) (aq nD (ab 3) (mC (.int 6)))) (aa (ab 2) (ah))))))))
theorem Pr{q:Int}(h0:0<=q)(h1:q<6):∃ t:Option Int,lH [D.non,D.non,D.non,D.int 0,D.int 1,D.int 9] q=some (bF t)/\zj t:=by
 have n:zj none:=fun k h=>by cases h
 have s:∀ j:Int,0<=j->j<=9->zj (some j):=fun j a b k h=>by cases h;exact⟨a,b⟩
 obtain rfl | rfl | rfl | rfl | rfl | rfl:q=0\/q=1\/q=2\/q=3\/q=4\/q=5:=by omega
 ·exact⟨none,rfl,n⟩
 ·exact⟨none,rfl,n⟩
 ·exact⟨none,rfl,n⟩
 ·exact⟨some 0,rfl,s 0 (by decide) (by decide)⟩
 ·exact⟨some 1,rfl,s 1 (by decide) (by decide)⟩
 ·exact⟨some 9,rfl,s 9 (by decide) (by decide)⟩
theorem Ue{q:Int}(h0:6<=q)(h1:q<11):∃ k:Ak,lH [D.str "up",D.str "down",D.str "leave",D.str "leave",D.str "stop"] (q - 6)=some (.str k.s):=by
 obtain rfl | rfl | rfl | rfl | rfl:q=6\/q=7\/q=8\/q=9\/q=10:=by omega
 ·exact⟨.up,rfl⟩
 ·exact⟨.down,rfl⟩
 ·exact⟨.leave,rfl⟩
 ·exact⟨.leave,rfl⟩
 ·exact⟨.stop,rfl⟩
theorem at_wr{q:Int}:∃ wr:Bool,lH [D.str "read",D.str "write"] (q % 2)=some (.str (bx wr)):=by
 obtain h | h:q % 2=0\/q % 2=1:=by omega
 ·exact⟨false,by rw [h];rfl⟩
 ·exact⟨true,by rw [h];rfl⟩
theorem LU{pick:PF}(hp:Eo pick){S:ac}{r n:Nat}{N:List Str}(hN:N.length=4)(P:Pk S r)(h1:1<=n)(h9:n<=9):∃ (dd:Dd) (S':ac),aO N (pf pick) 2 [.ref r,.int (n:Int)] S=some (dd.d,S')/\dd.Ok n/\Pk S' r/\Keep r S S':=by
 have hst:aA N [D.ref r,.int (n:Int)]=[some (.ref r),some (.int (n:Int)),none,none]:=by simp [aA,hN,List.replicate]
 rw [bb (show [D.ref r,D.int (n:Int)].length=2 from rfl),hst]
 obtain⟨g,S1,e1,g0,g1,P1,K1⟩:=hp _ _ (n:Int) P (by omega) (by omega)
 obtain⟨q,S2,e2,q0,q1,P2,K2⟩:=hp _ _ 12 P1 (by decide) (by decide)
 obtain⟨g',rfl⟩:∃ g':Nat,g=(g':Int):=⟨g.toNat,by omega⟩
 have md:∀ S,lu S (.int q) (.int 2)=some (.int (q % 2)):=fun S=>jn (by decide)
 by_cases h6:q<6
 ·obtain⟨l,S3,e3,l0,l1,P3,K3⟩:=hp _ _ 6 P2 (by decide) (by decide)
  obtain⟨t,et,ot⟩:=Pr l0 l1
  obtain⟨wr,ew⟩:=at_wr (q:=q)
  have k1:∀ S,lX ([D.str "read",D.str "write"],S)=some (.lst [D.str "read",D.str "write"],S):=fun S=>dG (by simp)
  have k2:∀ S,lX ([D.non,D.non,D.non,D.int 0,D.int 1,D.int 9],S)=some (.lst [D.non,D.non,D.non,D.int 0,D.int 1,D.int 9],S):=fun S=>dG (by simp)
  have k3:∀ S (a b c:D),cr ([a,b,c],S)=some (.tup [a,b,c],S):=fun S a b c=>aU (by simp)
  refine⟨.ask wr g' t,S3,?_,⟨by omega,ot⟩,P3,Keep.trans K1 (Keep.trans K2 K3)⟩
  simp [pf,e1,e2,h6,k1,md,ew,e3,k2,et,k3,Dd.d]
 ·by_cases h11:q=11
  ·subst h11
   have k1:∀ S (a:D),cr ([a],S)=some (.tup [a],S):=fun S a=>aU (by simp)
   refine⟨.tick,S2,?_,trivial,P2,Keep.trans K1 K2⟩
   simp [pf,e1,e2,k1,Dd.d]
  ·obtain⟨k,ek⟩:=Ue (q:=q) (by omega) (by omega)
   have k1:∀ S,lX ([D.str "up",D.str "down",D.str "leave",D.str "leave",D.str "stop"],S)=some (.lst [D.str "up",D.str "down",D.str "leave",D.str "leave",D.str "stop"],S):=fun S=>dG (by simp)
   have k2:∀ S (a b:D),cr ([a,b],S)=some (.tup [a,b],S):=fun S a b=>aU (by simp)
   refine⟨.act k g',S2,?_,(by show g'<n;omega),P2,Keep.trans K1 K2⟩
   simp [pf,e1,e2,h6,beq_eq_false_iff_ne.mpr h11,k1,ek,k2,Dd.d]
def bw(es:List En)(g:Nat):Bool:=es.any fun e=>decide (e.g=g)
def gW(R:Rm):Dd->Bool
 | .tick=>true
 | .ask _ g _=>decide (R.1[g]?=some .out) && !bw R.2 g
 | .act .up g=>decide (R.1[g]?=some .reads)
 | .act .down g=>decide (R.1[g]?=some .writes)||decide (R.1[g]?=some .raised)
 | .act .leave g=>decide (R.1[g]?≠some .out)
 | .act .stop g=>bw R.2 g||decide (R.1[g]?=some .rising)
def yZ:ME:=aq oB (aq ar (ab 1) (mC (.int 1))) (bJ (da (ab 3)) (ag 0) (bU) (aq ar (ab 0) (mC (.int 0))) [none])
def TZ:ME:=fq [(mC (.str "read"),du (aq bX (ab 4) (mC (.str "out"))) (gH (ab 5))),(mC (.str "write"),du (aq bX (ab 4) (mC (.str "out"))) (gH (ab 5))),(mC (.str "up"),aq bX (ab 4) (mC (.str "reads")))]
def TY:ME:=hX [(mC (.str "down"),aq oB (ab 4) (aM (aa (mC (.str "writes")) (aa (mC (.str "raised")) (ah))))),(mC (.str "leave"),aq gk (ab 4) (mC (.str "out"))),(mC (.str "stop"),ve (ab 5) (aq bX (ab 4) (mC (.str "rising"))))]
def yq:MS:=
 ax (aD (ab 0) (aJ 2 (af (ag 2) (af (ag 3) (aB))))) (ax (bD (ay (aq bX (ab 1) (aM (aa (mC (.str "tick")) (ah))))) (aV (mC (.bl true))) (aY)) (ax (aD (aq ar (ab 2) (aq ar (ab 1) (mC (.int 1)))) (ag 4)) (ax (aD yZ (ag 5)) (ax (aD TZ (ag 6)) (ax (dM (fh uf (ab 6) (aa TY (ah)))) (aV (aq ar (ab 6) (aq ar (ab 1) (mC (.int 0))))))))))
def sM(r:Rl)(w:Wd)(es:List En):List En:=if r.w=.turns/\w=.writes then es.map (fun e=>if e.wr then e else { e with m:=1 }) else es
def mkC:ME:=bJ (da (ab 2)) (ag 0) (bU) (lJ (ay (aq bX (aq ar (ab 0) (mC (.int 1))) (mC (.str "read")))) (aq aR (aq aR (bu (ab 0) (bv) (bS (mC (.int 2)))) (aM (aa (mC (.int 1)) (ah)))) (bu (ab 0) (bS (mC (.int 3))) (bv))) (ab 0)) [none]
def kq:MS:=
 ax (bD (eV (ay (aq gk (aq ar (ab 0) (mC (.int 0))) (mC (.str "turns")))) (ay (aq gk (ab 1) (mC (.str "writes"))))) (aV (ab 2)) (aY)) (aV (be (aP (cm .tup)) (aa mkC (ah))))
section
variable{S:ac}{ws:List Wd}{es:List En}{r:Rl}
theorem Ld{g:Nat}:oB S (.int (g:Int)) (.lst (es.map fun e=>.int (e.g:Int)))=some (.bl (bw es g)):=by
 rw [jT (ys:=es.map fun e=>D.int (e.g:Int)) rfl rfl (by rw [List.all_eq_true];intro d hd;obtain⟨e,_,rfl⟩:=List.mem_map.mp hd;rfl)]
 unfold bw
 rw [List.any_map]
 congr 2
 induction es with
 | nil=>rfl
 | cons e l ih=>
  rw [List.any_cons,List.any_cons,ih]
  congr 1
  show ((e.g:Int) == (g:Int))=_
  rw [Bool.eq_iff_iff];simp;omega
theorem gsC{b:Option D}{cap:List (Option Nat)}{env:bh}(hc:oz cap env=[b])(hl:es.length<=100):nK (ag 0) bU (aq ar (ab 0) (mC (.int 0))) cap env (es.map En.d,S)=some (.lst (es.map fun e=>.int (e.g:Int)),S):=by
 have k:=ft (S:=S) (t:=bU) (e:=aq ar (ab 0) (mC (.int 0))) (cap:=cap) (env:=env) (rest:=[]) (a:=b) (enc:=En.d) (p:=fun _=>true) (f:=fun e=>.int (e.g:Int)) (xs:=es) hc (by omega) (fun x _=>jE) (fun x _ _=>by simp [En.ix0])
 rw [List.filter_eq_self.mpr (fun _ _=>rfl)] at k
 exact k
theorem eg:Do (cb es,S)=some (es.map En.d,S):=rfl
def Dt:Dd->Bool
 | .tick=>true
 | _=>false
theorem Dd.tick_ne{dd:Dd}:bX S dd.d (.tup [.str "tick"])=some (.bl (Dt dd)):=by
 cases dd with
 | tick=>rw [lv rfl rfl];rfl
 | ask wr g t=>
  rw [lv (by cases t <;> rfl) rfl]
  show some (D.bl (_&&false))=some (D.bl false)
  rw [Bool.and_false]
 | act k g=>
  rw [lv rfl rfl]
  show some (D.bl (_&&false))=some (D.bl false)
  rw [Bool.and_false]
theorem mx{a b:Wd}:bX S a.d (.str b.s)=some (.bl (decide (a=b))):=by
 show bX S (.str a.s) (.str b.s)=_
 rw [cP,Wd.eq]
theorem uh{a b:Wd}:gk S a.d (.str b.s)=some (.bl (!decide (a=b))):=by
 show gk S (.str a.s) (.str b.s)=_
 rw [qo,Wd.eq]
theorem Lb{a:Wd}:oB S a.d (.tup [.str "writes",.str "raised"])=some (.bl (decide (a=.writes)||decide (a=.raised))):=by
 have h:([D.str "writes",D.str "raised"].any fun d=>jA d a.d)=(decide (a=.writes)||decide (a=.raised)):=by cases a <;> decide +kernel
 rw [jT (ys:=[.str "writes",.str "raised"]) rfl rfl rfl,h]
def ly(w:Wd)(s:Bool):List (bC×D):=[(.inr "read",.bl (decide (w=.out) && !s)),(.inr "write",.bl (decide (w=.out) && !s)),(.inr "up",.bl (decide (w=.reads)))]
def lx(w:Wd)(s:Bool):List (bC×D):=[(.inr "down",.bl (decide (w=.writes)||decide (w=.raised))),(.inr "leave",.bl (!decide (w=.out))),(.inr "stop",.bl (s||decide (w=.rising)))]
theorem Pj{w:Wd}{s:Bool}{a0 a1 a2 a3 a6:Option D}:TZ [a0,a1,a2,a3,some w.d,some (.bl s),a6] S=some (.ref S.length,S++[.dct ((ly w s).map (·.1)) ((ly w s).map (·.2))]):=by
 have e1:∀ S,bX S w.d (.str "out")=some (.bl (decide (w=.out))):=fun S=>mx (b:=.out)
 have e2:∀ S,bX S w.d (.str "reads")=some (.bl (decide (w=.reads))):=fun S=>mx (b:=.reads)
 have ka:∀ x:Bool,Og (gH (ab 5)) [a0,a1,a2,a3,some w.d,some (.bl s),a6] (.bl x,S)=some (.bl (x && !s),S):=fun x=>by cases x <;> simp
 have kd:yy ([(.inr "read",.bl (decide (w=.out) && !s)),(.inr "write",.bl (decide (w=.out) && !s)),(.inr "up",.bl (decide (w=.reads)))],S)=some (.ref S.length,S++[.dct ((ly w s).map (·.1)) ((ly w s).map (·.2))]):=Ha (l:=ly w s) (show [(Sum.inr "read":bC),.inr "write",.inr "up"].Nodup by decide +kernel) (by show 3<=15;decide)
 simp only [TZ,Kd,lW,bi,ob,Dm,oh,aF,aj,bH,bN,bM,oj,ai,aw,av,e1,ka,Dl,e2,oe,Dk,kd]
theorem Pi{w:Wd}{s:Bool}{a0 a1 a2 a3 a6:Option D}:TY [a0,a1,a2,a3,some w.d,some (.bl s),a6] S=some (.dct ((lx w s).map (·.1)) ((lx w s).map (·.2)),S):=by
 have e1:∀ S,gk S w.d (.str "out")=some (.bl (!decide (w=.out))):=fun S=>uh (b:=.out)
 have e2:∀ S,bX S w.d (.str "rising")=some (.bl (decide (w=.rising))):=fun S=>mx (b:=.rising)
 have k2:∀ S (x y:D),cr ([x,y],S)=some (.tup [x,y],S):=fun S x y=>aU (by simp)
 have ka:PZ (aq bX (ab 4) (mC (.str "rising"))) [a0,a1,a2,a3,some w.d,some (.bl s),a6] (.bl s,S)=some (.bl (s||decide (w=.rising)),S):=by cases s <;> simp [e2]
 have kd:tK ([(.inr "down",.bl (decide (w=.writes)||decide (w=.raised))),(.inr "leave",.bl (!decide (w=.out))),(.inr "stop",.bl (s||decide (w=.rising)))],S)=some (.dct ((lx w s).map (·.1)) ((lx w s).map (·.2)),S):=Ba (l:=lx w s) (show [(Sum.inr "down":bC),.inr "leave",.inr "stop"].Nodup by decide +kernel) (by show 3<=15;decide)
 simp only [TY,EX,lW,bi,ob,Dm,aF,aj,bH,bN,bM,oj,ai,aw,bg,ao,am,az,al,k2,av,Lb,Dl,e1,PR,ka,oe,Dk,kd]
def fO:Dd->Str
 | .ask wr _ _=>bx wr
 | .act k _=>k.s
 | .tick=>"tick"
def aZ:Dd->Nat
 | .ask _ g _=>g
 | .act _ g=>g
 | .tick=>0
theorem TX{w:Wd}{s:Bool}{R:Rm}{dd:Dd}(hs:s=bw R.2 (aZ dd))(hw:R.1[aZ dd]?=some w)(ht:dd≠.tick):iY (cK (ly w s) (lx w s)) (.inr (fO dd))=some (.bl (gW R dd)):=by
 have hm:cK (ly w s) (lx w s)=ly w s++lx w s:=oa (show [(Sum.inr "read":bC),.inr "write",.inr "up",.inr "down",.inr "leave",.inr "stop"].Nodup by decide +kernel)
 rw [hm]
 cases dd with
 | tick=>exact absurd rfl ht
 | ask wr g t=>
  simp only [aZ] at hw hs
  cases wr
  ·simp (decide:=true) [ly,lx,iY,fO,bx,gW,hw,hs]
  ·simp (decide:=true) [ly,lx,iY,fO,bx,gW,hw,hs]
 | act k g=>
  simp only [aZ] at hw hs
  cases k <;> simp (decide:=true) [ly,lx,iY,fO,Ak.s,gW,hw,hs]
theorem Ph{N:List Str}(hN:N.length=7){R:Rm}{dd:Dd}(hl:R.2.length<=60)(hd:dd.Ok R.1.length):∃ T,aO N yq 2 [aN R,dd.d] S=some (.bl (gW R dd),S++T):=by
 have hst:aA N [aN R,dd.d]=[some (aN R),some dd.d,none,none,none,none,none]:=by simp [aA,hN,List.replicate]
 rw [bb (show [aN R,dd.d].length=2 from rfl),hst]
 obtain⟨ws,es⟩:=R
 have k1:∀ S (x:D),cr ([x],S)=some (.tup [x],S):=fun S x=>aU (by simp)
 have g2:∀ env S,aJ 2 (af (ag 2) (af (ag 3) (aB))) (aN (ws,es)) env S=(af (ag 2) (af (ag 3) (aB))) [cA ws,cb es] env S:=fun env S=>bV
 by_cases ht:dd=.tick
 ·subst ht
  refine⟨[],?_⟩
  simp only [yq,aQ,bj,aj,bH,bN,bM,oj,ob,ai,bm,g2,bo,aT,cH,bG,eK,eY,bK,aC,bp,aI,aF,aw,bg,ao,bi,am,az,al,k1,av,Dd.tick_ne,aE,bT,aW,bt,bQ,aH,List.append_nil,gW,Dt]
 ·have hf:Dt dd=false:=by cases dd <;> first | rfl | exact absurd rfl ht
  have x1:∀ S,ar S dd.d (.int 1)=some (.int (aZ dd:Int)):=fun S=>by cases dd <;> first | rfl | exact absurd rfl ht
  have x0:∀ S,ar S dd.d (.int 0)=some (.str (fO dd)):=fun S=>by cases dd <;> first | rfl | exact absurd rfl ht
  have hg:aZ dd<ws.length:=by cases dd with
   | ask _ _ _=>exact hd.1
   | act _ _=>exact hd
   | tick=>exact absurd rfl ht
  have hw:ws[aZ dd]?=some ws[aZ dd]:=List.getElem?_eq_getElem hg
  have xw:∀ S,ar S (cA ws) (.int (aZ dd:Int))=some (ws[aZ dd]).d:=fun S=>vt hw
  have st:∀ (S:ac) (a4 a5 a6:Option D),yZ [some (aN (ws,es)),some dd.d,some (cA ws),some (cb es),a4,a5,a6] S=some (.bl (bw es (aZ dd)),S):=fun S a4 a5 a6=>by
   simp only [yZ,aF,aj,bH,bN,bM,oj,ob,ai,aw,bi,av,x1,bY,dm,eg,gsC (es:=es) (cap:=[none]) (env:=[some (aN (ws,es)),some dd.d,some (cA ws),some (cb es),a4,a5,a6]) rfl (by simp only at hl;omega),Ld]
  have up:uf (.ref S.length) [.dct ((lx (ws[aZ dd]) (bw es (aZ dd))).map (·.1)) ((lx (ws[aZ dd]) (bw es (aZ dd))).map (·.2))] (S++[.dct ((ly (ws[aZ dd]) (bw es (aZ dd))).map (·.1)) ((ly (ws[aZ dd]) (bw es (aZ dd))).map (·.2))])=some (.non,S++[.dct ((cK (ly (ws[aZ dd]) (bw es (aZ dd))) (lx (ws[aZ dd]) (bw es (aZ dd)))).map (·.1)) ((cK (ly (ws[aZ dd]) (bw es (aZ dd))) (lx (ws[aZ dd]) (bw es (aZ dd)))).map (·.2))]):=by
   rw [Ov hU (by show 3+3<=1000;decide),FJ]
  have md:∀ f ms env (c:List bC) (d:List D),tI f ms env (.ref S.length,S++[.dct c d])=(ms env (S++[.dct c d])).bind (dW f (.ref S.length)):=fun f ms env c d=>Ks hU
  have fin:ar (S++[.dct ((cK (ly (ws[aZ dd]) (bw es (aZ dd))) (lx (ws[aZ dd]) (bw es (aZ dd)))).map (·.1)) ((cK (ly (ws[aZ dd]) (bw es (aZ dd))) (lx (ws[aZ dd]) (bw es (aZ dd)))).map (·.2))]) (.ref S.length) (.str (fO dd))=some (.bl (gW (ws,es) dd)):=by
   rw [SY hU yr];exact TX rfl hw ht
  refine⟨[.dct ((cK (ly (ws[aZ dd]) (bw es (aZ dd))) (lx (ws[aZ dd]) (bw es (aZ dd)))).map (·.1)) ((cK (ly (ws[aZ dd]) (bw es (aZ dd))) (lx (ws[aZ dd]) (bw es (aZ dd)))).map (·.2))],?_⟩
  simp only [yq,aQ,bj,aj,bH,bN,bM,oj,ob,ai,bm,g2,bo,aT,cH,bG,eK,eY,bK,aC,bp,aI,aF,aw,bg,ao,bi,am,az,al,k1,av,Dd.tick_ne,hf,aE,bO,bA,x1,xw,st,Pj,lg,JZ,md,Pi,fC,up,lq,aW,x0,fin,bt,aH]
theorem mk_d{e:En}:(lJ (ay (aq bX (aq ar (ab 0) (mC (.int 1))) (mC (.str "read")))) (aq aR (aq aR (bu (ab 0) (bv) (bS (mC (.int 2)))) (aM (aa (mC (.int 1)) (ah)))) (bu (ab 0) (bS (mC (.int 3))) (bv))) (ab 0)) [some e.d] S=some ((if e.wr then e else { e with m:=1 }:En).d,S):=by
 have c1:iL e.d none (some 2,S)=some (.tup [.int (e.g:Nat),.str (bx e.wr)],S):=rfl
 have c2:iL e.d (some 3) (none,S)=some (.tup [bF e.t],S):=rfl
 have k1:∀ x,cr ([x],S)=some (.tup [x],S):=fun x=>aU (by simp)
 have a1:∀ x y z,aR S (.tup [x,y]) (.tup [z])=some (.tup [x,y,z]):=fun x y z=>gz (by simp)
 have a2:∀ x y z w,aR S (.tup [x,y,z]) (.tup [w])=some (.tup [x,y,z,w]):=fun x y z w=>gz (by simp)
 have wr:(bx e.wr == ("read":Str)) = !e.wr:=rA e.wr
 simp only [lE,aI,aF,aj,bH,oj,ob,ai,aw,bi,av,En.ix1,cP,wr,aE]
 cases h:e.wr with
 | true=>simp
 | false=>
  simp only [Bool.not_false,wa,aF,cy,aj,bH,oj,ob,ai,dU,cE,dS,cY,bi,cZ,c1,aw,bg,ao,am,az,al,k1,av,a1,c2,a2]
  unfold En.d
  simp [h]
theorem CS{N:List Str}(hN:N.length=3){w:Wd}(hl:es.length<=60):aO N kq 3 [r.d,w.d,cb es] S=some (cb (sM r w es),S):=by
 have hst:aA N [r.d,w.d,cb es]=[some r.d,some w.d,some (cb es)]:=by simp [aA,hN]
 rw [bb (show [r.d,w.d,cb es].length=3 from rfl),hst]
 have w1:(r.w.s == ("turns":Str))=decide (r.w=.turns):=Rw.eq r.w .turns
 have e1:gk S (.str r.w.s) (.str "turns")=some (.bl (!decide (r.w=.turns))):=by rw [qo,w1]
 have e2:gk S w.d (.str "writes")=some (.bl (!decide (w=.writes))):=uh (b:=.writes)
 have k:=ft (S:=S) (t:=bU) (e:=lJ (ay (aq bX (aq ar (ab 0) (mC (.int 1))) (mC (.str "read")))) (aq aR (aq aR (bu (ab 0) (bv) (bS (mC (.int 2)))) (aM (aa (mC (.int 1)) (ah)))) (bu (ab 0) (bS (mC (.int 3))) (bv))) (ab 0)) (cap:=[none]) (env:=[some r.d,some w.d,some (cb es)]) (rest:=[]) (a:=none) (enc:=En.d) (p:=fun _=>true) (f:=fun e=>(if e.wr then e else { e with m:=1 }:En).d) (xs:=es) rfl (by omega) (fun x _=>jE) (fun x _ _=>mk_d)
 rw [List.filter_eq_self.mpr (fun _ _=>rfl)] at k
 have kc:mkC [some r.d,some w.d,some (cb es)] S=some (.lst (es.map fun e=>(if e.wr then e else { e with m:=1 }:En).d),S):=by
  simp only [mkC,bY,dm,aj,bH,bN,bM,oj,ob,ai,eg,k]
 unfold sM
 by_cases h1:r.w=.turns
 ·rw [decide_eq_true h1] at e1
  by_cases h2:w=.writes
  ·rw [if_pos ⟨h1,h2⟩]
   rw [decide_eq_true h2] at e2
   simp only [kq,aQ,bp,iy,aI,aF,aj,bH,bN,bM,oj,ob,ai,aw,bi,av,Rl.ix0,e1,Bool.not_true,aE,ll,e2,bO,bA,aC,aW,bP,ao,kc,am,az,al,bR,eW,bt,aH]
   unfold cb;rw [List.map_map];rfl
  ·rw [if_neg (fun z=>h2 z.2)]
   rw [decide_eq_false h2] at e2
   simp only [kq,aQ,bp,iy,aI,aF,aj,bH,bN,bM,oj,ob,ai,aw,bi,av,Rl.ix0,e1,Bool.not_true,Bool.not_false,aE,ll,e2,bT,aW,bt,bQ,aH]
 ·rw [if_neg (fun z=>h1 z.1)]
  rw [decide_eq_false h1] at e1
  simp only [kq,aQ,bp,iy,aI,aF,aj,bH,bN,bM,oj,ob,ai,aw,bi,av,Rl.ix0,e1,Bool.not_false,aE,yv,bT,aW,bt,bQ,aH]
end
end MI
namespace MI
open PySem PySem.Spec PyProof.Rows L2 M
def cM(l:List Ev):D:=.tup (l.map Ev.d)
def aX(r:Rl)(R:Rm):Rm×List Ev:=se r (2 * R.1.length) R
def lA(wr:Bool)(g:Nat)(t:Option Int):En:=⟨g,wr,0,if t=some 0 then some 1 else t⟩
def uz(r:Rl)(R:Rm)(wr:Bool)(g:Nat)(t:Option Int):Rm×List Ev:=
 let a:=aX r (R.1,R.2++[lA wr g t])
 if bw a.1.2 g=false then a
 else if t=some 0 then ((a.1.1,a.1.2.filter fun e=>decide (e.g≠g)),a.2++[⟨"no",g⟩])
 else (a.1,a.2++[⟨"waits",g⟩])
def gj(e:En):En:={ e with t:=e.t.map (· - 1) }
def nH(r:Rl)(R:Rm):Rm×List Ev:=
 let a:=aX r (R.1,(R.2.map gj).filter fun e=>decide (e.t≠some 0))
 (a.1,(((R.2.map gj).filter fun e=>decide (e.t=some 0)).map fun e=>⟨"ends",e.g⟩)++a.2)
def fM(k:Ak)(g:Nat):List Ev:=match k with
 | .up=>[]
 | .stop=>[⟨"ends",g⟩]
 | .down=>[⟨"down",g⟩]
 | .leave=>[⟨"out",g⟩]
def gl(k:Ak)(w:Wd):Wd:=match k with
 | .up=>.rising
 | .down=>.reads
 | .leave=>.out
 | .stop=>if w=.rising then .reads else .out
def qv(r:Rl)(k:Ak)(w:Wd)(g:Nat)(es:List En):List En:=(if k=.down\/k=.leave then sM r w es else es).filter fun e=>decide (e.g≠g)
def lK(r:Rl)(R:Rm)(k:Ak)(g:Nat)(w:Wd):Rm×List Ev:=
 let a:=aX r (R.1.set g (gl k w),qv r k w g R.2)
 (a.1,fM k g++a.2++(if a.1.1[g]?=some .rising then [⟨"waits",g⟩] else []))
def gh(r:Rl)(R:Rm)(dd:Dd):Option (Rm×List Ev):=
 if gW R dd=false then none else match dd with
 | .tick=>some (nH r R)
 | .ask wr g t=>some (uz r R wr g t)
 | .act k g=>if k=.up/\(r.c=0\/Wd.rising∈R.1) then some (R,[⟨"no",g⟩]) else match R.1[g]? with
  | some w=>some (lK r R k g w)
  | none=>none
theorem iH{es:List En}{g:Nat}(h:bw es g=false){e:En}(he:e∈es):e.g≠g:=fun z=>by
 have:bw es g=true:=List.any_eq_true.mpr ⟨e,he,by simp [z]⟩
 rw [h] at this;cases this
theorem ROk.filter{ws:List Wd}{es:List En}(h:ROk (ws,es))(p:En->Bool):ROk (ws,es.filter p):=
 ⟨fun e he=>h.out e (List.mem_filter.mp he).1,List.Sublist.nodup (List.Sublist.map _ (List.filter_sublist)) h.nd⟩
theorem ROk.mapE{ws:List Wd}{es:List En}(h:ROk (ws,es))(f:En->En)(hf:∀ e,(f e).g=e.g):ROk (ws,es.map f):=
 ⟨fun e he=>by obtain⟨x,hx,rfl⟩:=List.mem_map.mp he;rw [hf];exact h.out x hx,by
  show ((es.map f).map (·.g)).Nodup
  rw [List.map_map,show ((·.g) ∘ f)=(fun e:En=>e.g) from funext hf];exact h.nd⟩
theorem ROk.setW{ws:List Wd}{es:List En}(h:ROk (ws,es))(g:Nat)(w:Wd)(hg:∀ e∈es,e.g≠g):ROk (ws.set g w,es):=
 ⟨fun e he=>by show (ws.set g w)[e.g]?=_;rw [List.getElem?_set_ne (Ne.symm (hg e he))];exact h.out e he,h.nd⟩
theorem dw{r:Rl}{R:Rm}(h:ROk R):ROk (aX r R).1/\(aX r R).1.1.length=R.1.length:=IV _ h
theorem zc{R:Rm}{wr:Bool}{g:Nat}{t:Option Int}(h:ROk R)(hw:R.1[g]?=some .out)(hs:bw R.2 g=false):ROk (R.1,R.2++[lA wr g t]):=
 ⟨fun e he=>by
  rcases List.mem_append.mp he with he | he
  ·exact h.out e he
  ·rw [List.mem_singleton.mp he];exact hw,by
  show ((R.2++[lA wr g t]).map (·.g)).Nodup
  rw [List.map_append,List.nodup_append]
  refine⟨h.nd,by simp,fun a ha b hb=>?_⟩
  obtain⟨e,he,rfl⟩:=List.mem_map.mp ha
  simp [lA] at hb
  rw [hb];exact iH hs he⟩
theorem RT{r:Rl}{w:Wd}{ws:List Wd}{es:List En}(h:ROk (ws,es)):ROk (ws,sM r w es):=by
 unfold sM;split
 ·exact h.mapE _ fun e=>by split <;> rfl
 ·exact h
theorem zg{r:Rl}{k:Ak}{w:Wd}{g:Nat}{ws:List Wd}{es:List En}(h:ROk (ws,es))(w':Wd):ROk (ws.set g w',qv r k w g es):=by
 unfold qv
 refine ROk.setW (ROk.filter ?_ _) g w' fun e he=>of_decide_eq_true (List.mem_filter.mp he).2
 split
 ·exact RT h
 ·exact h
theorem ie{r:Rl}{R:Rm}{dd:Dd}{x:Rm×List Ev}(h:ROk R)(hx:gh r R dd=some x):ROk x.1/\x.1.1.length=R.1.length:=by
 unfold gh at hx
 split at hx
 ·cases hx
 ·rename_i hc
  have hc:gW R dd=true:=by simpa using hc
  cases dd with
  | tick=>
   cases hx
   obtain⟨a,b⟩:=dw (r:=r) (R:=(R.1,(R.2.map gj).filter fun e=>decide (e.t≠some 0))) (ROk.filter (ROk.mapE h gj fun e=>rfl) _)
   exact⟨a,b⟩
  | ask wr g t=>
   cases hx
   simp only [gW,Bool.and_eq_true,decide_eq_true_eq,Bool.not_eq_true'] at hc
   obtain⟨a,b⟩:=dw (r:=r) (zc (wr:=wr) (t:=t) h hc.1 hc.2)
   unfold uz
   dsimp only
   split
   ·exact⟨a,b⟩
   ·split
    ·exact⟨ROk.filter a _,b⟩
    ·exact⟨a,b⟩
  | act k g=>
   dsimp only at hx
   split at hx
   ·cases hx;exact⟨h,rfl⟩
   ·split at hx
    ·rename_i w hw
     cases hx
     obtain⟨a,b⟩:=dw (r:=r) (zg (r:=r) (k:=k) (w:=w) (g:=g) h (gl k w))
     exact⟨a,b.trans (by simp)⟩
    ·cases hx
def Ug:ME:=bJ (da (aq ar (ab 1) (mC (.int 1)))) (ag 0) (bU) (aq ar (ab 0) (mC (.int 0))) [none]
def Ei:ME:=bJ (da (aq ar (ab 1) (mC (.int 1)))) (ag 0) (ay (aq gk (aq ar (ab 0) (mC (.int 0))) (ab 1))) (ab 0) [none,some 4]
def tF(settled:PF):MS:=
 ax (aD (ab 2) (aJ 3 (af (ag 3) (af (ag 4) (af (ag 5) (aB)))))) (ax (aD (aM (aa (ab 4) (aa (ab 3) (aa (mC (.int 0)) (aa (lJ (ay (aq bX (ab 5) (mC (.int 0)))) (mC (.int 1)) (ab 5)) (ah)))))) (ag 6)) (ax (aD (ak 2 settled (aa (ab 0) (aa (aM (aa (aq ar (ab 1) (mC (.int 0))) (aa (aq aR (aq ar (ab 1) (mC (.int 1))) (aM (aa (ab 6) (ah)))) (ah)))) (ah)))) (aJ 2 (af (ag 1) (af (ag 7) (aB))))) (ax (bD (ay (aq qm (ab 4) Ug)) (aV (aM (aa (ab 1) (aa (be (aP (cm .tup)) (aa (ab 7) (ah))) (ah))))) (aY)) (ax (bD (ay (aq bX (ab 5) (mC (.int 0)))) (aV (aM (aa (aM (aa (aq ar (ab 1) (mC (.int 0))) (aa (be (aP (cm .tup)) (aa Ei (ah))) (ah)))) (aa (be (aP (cm .tup)) (aa (aq aR (ab 7) (ej (aa (aM (aa (mC (.str "no")) (aa (ab 4) (ah)))) (ah)))) (ah))) (ah))))) (aY)) (aV (aM (aa (ab 1) (aa (be (aP (cm .tup)) (aa (aq aR (ab 7) (ej (aa (aM (aa (mC (.str "waits")) (aa (ab 4) (ah)))) (ah)))) (ah))) (ah)))))))))
def yT:ME:=bJ (da (ab 4)) (ag 0) (bU) (aq aR (bu (ab 0) (bv) (bS (mC (.int 3)))) (aM (aa (lJ (ay (aq vj (aq ar (ab 0) (mC (.int 3))) (mC .non))) (mC .non) (aq nD (aq ar (ab 0) (mC (.int 3))) (mC (.int 1)))) (ah)))) [none]
def DX:ME:=bJ (da (ab 5)) (ag 0) (ay (aq bX (aq ar (ab 0) (mC (.int 3))) (mC (.int 0)))) (aM (aa (mC (.str "ends")) (aa (aq ar (ab 0) (mC (.int 0))) (ah)))) [none]
def DU:ME:=bJ (da (ab 5)) (ag 0) (ay (aq gk (aq ar (ab 0) (mC (.int 3))) (mC (.int 0)))) (ab 0) [none]
def ul(settled:PF):MS:=ax (aD yT (ag 5)) (ax (aD DX (ag 6)) (ax (aD (ak 2 settled (aa (ab 0) (aa (aM (aa (ab 3) (aa (be (aP (cm .tup)) (aa DU (ah))) (ah)))) (ah)))) (aJ 2 (af (ag 1) (af (ag 7) (aB))))) (aV (aM (aa (ab 1) (aa (be (aP (cm .tup)) (aa (aq aR (ab 6) (ab 7)) (ah))) (ah)))))))
def yS:ME:=aq cw (ej (aa (aM (aa (lJ (ay (aq bX (ab 8) (mC (.str "stop")))) (mC (.str "ends")) (lJ (ay (aq bX (ab 8) (mC (.str "down")))) (mC (.str "down")) (mC (.str "out")))) (aa (ab 9) (ah)))) (ah))) (be (aP kI) (aa (aq gk (ab 8) (mC (.str "up"))) (ah)))
def yR:ME:=aq ar (hX [(mC (.str "up"),mC (.str "rising")),(mC (.str "down"),mC (.str "reads")),(mC (.str "leave"),mC (.str "out")),(mC (.str "stop"),aq ar (ej (aa (mC (.str "out")) (aa (mC (.str "reads")) (ah)))) (be (aP kI) (aa (aq bX (ab 10) (mC (.str "rising"))) (ah))))]) (ab 8)
def DR:ME:=aq cw (ej (aa (aM (aa (mC (.str "waits")) (aa (ab 9) (ah)))) (ah))) (be (aP kI) (aa (aq bX (aq ar (aq ar (ab 1) (mC (.int 0))) (ab 9)) (mC (.str "rising"))) (ah)))
def DV:ME:=bJ (da (ab 4)) (ag 0) (ay (aq gk (aq ar (ab 0) (mC (.int 0))) (ab 1))) (ab 0) [none,some 9]
def LP(settled marked put:PF):MS:=ax (aD (aq ar (ab 3) (ab 9)) (ag 10)) (ax (aD yS (ag 11)) (ax (bD (ay (aq oB (ab 8) (aM (aa (mC (.str "down")) (aa (mC (.str "leave")) (ah)))))) (aD (ak 3 marked (aa (ab 0) (aa (ab 10) (aa (ab 4) (ah))))) (ag 4)) (aY)) (ax (aD (be (aP (cm .tup)) (aa DV (ah))) (ag 4)) (ax (aD yR (ag 12)) (ax (aD (ak 2 settled (aa (ab 0) (aa (aM (aa (ak 3 put (aa (ab 3) (aa (ab 9) (aa (ab 12) (ah))))) (aa (ab 4) (ah)))) (ah)))) (aJ 2 (af (ag 1) (af (ag 7) (aB))))) (ax (aD DR (ag 13)) (aV (aM (aa (ab 1) (aa (be (aP (cm .tup)) (aa (aq aR (aq aR (ab 11) (ab 7)) (ab 13)) (ah))) (ah)))))))))))
def jF(can asked settled marked put:PF):MS:=
 ax (bD (dJ (cW (ak 2 can (aa (ab 1) (aa (ab 2) (ah)))))) (aV (mC .non)) (aY)) (ax (aD (ab 1) (aJ 2 (af (ag 3) (af (ag 4) (aB))))) (ax (bD (ay (aq bX (aq ar (ab 2) (mC (.int 0))) (mC (.str "tick")))) (ul settled) (aY)) (ax (aD (bu (ab 2) (bv) (bS (mC (.int 2)))) (aJ 2 (af (ag 8) (af (ag 9) (aB))))) (ax (bD (ay (aq oB (ab 8) (aM (aa (mC (.str "read")) (aa (mC (.str "write")) (ah)))))) (aV (ak 3 asked (aa (ab 0) (aa (ab 1) (aa (ab 2) (ah)))))) (aY)) (ax (bD (dh (ay (aq bX (ab 8) (mC (.str "up")))) (eV (ay (aq bX (aq ar (ab 0) (mC (.int 3))) (mC (.int 0)))) (ay (aq oB (mC (.str "rising")) (ab 3))))) (aV (aM (aa (ab 1) (aa (aM (aa (aM (aa (mC (.str "no")) (aa (ab 9) (ah)))) (ah))) (ah))))) (aY)) (LP settled marked put))))))
end MI
namespace MI
open PySem PySem.Spec PyProof.Rows L2 M
def nv(settled:PF):Prop:=∀ (S:ac) (r:Rl) (R:Rm),ROk R->R.1.length<=50->settled [r.d,aN R] S=some (.tup [aN (aX r R).1,.ref S.length],S++[.lst ((aX r R).2.map Ev.d)])
theorem mP{r:Rl}:∀ (n:Nat) {R:Rm},(se r n R).2.length<=n
 | 0,R=>Nat.le_refl _
 | n+1,R=>by
  have h1:=Ey (r:=r) (R:=R)
  have h2:=mP (r:=r) n (R:=(lL r R).1)
  show ((lL r R).2++(se r n (lL r R).1).2).length<=_
  rw [List.length_append];omega
section
variable{S:ac}{ws:List Wd}{es:List En}{r:Rl}{R:Rm}
theorem jo{t:Option Int}:bX S (bF t) (.int 0)=some (.bl (decide (t=some 0))):=by
 cases t with
 | none=>exact lv rfl rfl
 | some k=>
  show bX S (.int k) (.int 0)=_
  rw [jU];congr 2;rw [Bool.eq_iff_iff];simp
theorem Bv{t:Option Int}:gk S (bF t) (.int 0)=some (.bl (!decide (t=some 0))):=by
 cases t with
 | none=>exact qp rfl rfl
 | some k=>
  show gk S (.int k) (.int 0)=_
  rw [KZ];congr 3;rw [Bool.eq_iff_iff];simp
theorem Je{g:Nat}{b:Option D}{cap:List (Option Nat)}{env:bh}(hc:oz cap env=[b,some (.int (g:Int))])(hl:es.length<=100):nK (ag 0) (ay (aq gk (aq ar (ab 0) (mC (.int 0))) (ab 1))) (ab 0) cap env (es.map En.d,S)=some (.lst ((es.filter fun e=>decide (e.g≠g)).map En.d),S):=by
 exact ft (S:=S) (t:=ay (aq gk (aq ar (ab 0) (mC (.int 0))) (ab 1))) (e:=ab 0) (cap:=cap) (env:=env) (rest:=[some (.int (g:Int))]) (a:=b) (enc:=En.d) (p:=fun e=>decide (e.g≠g)) (f:=En.d) (xs:=es) hc (by omega) (fun x _=>by
  have:(!((x.g:Int) == (g:Int)))=decide (x.g≠g):=by rw [Bool.eq_iff_iff];simp;omega
  simp [En.ix0,-beq_iff_eq,this]) (fun x _ _=>by simp)
theorem Lh{S:ac}{l:List Ev}:aP (cm .tup) [.ref S.length] (S++[.lst (l.map Ev.d)])=some (cM l,S++[.lst (l.map Ev.d)]):=qk hU
theorem Td{S:ac}{l:List Ev}{v:Ev}(h:l.length<=500):aR (S++[.lst (l.map Ev.d)]) (.ref S.length) (.lst [v.d])=some (.lst ((l++[v]).map Ev.d)):=by
 rw [Fo (xs:=l.map Ev.d) (ys:=[v.d]) rfl (by simp only [qD,hU]) rfl (by simp;omega)];simp
theorem Fq{S:ac}{k l:List Ev}(h:l.length<=500)(h':k.length<=400):aR (S++[.lst (l.map Ev.d)]) (.lst (k.map Ev.d)) (.ref S.length)=some (.lst ((k++l).map Ev.d)):=by
 rw [Fo (xs:=k.map Ev.d) (ys:=l.map Ev.d) rfl rfl (by simp only [qD,hU]) (by simp;omega)];simp
theorem Hn{g:Nat}:qm S (.int (g:Int)) (.lst (es.map fun e=>.int (e.g:Int)))=some (.bl (!bw es g)):=by
 have h:=Ld (S:=S) (es:=es) (g:=g)
 have ok:(es.map fun e=>D.int (e.g:Int)).all (cI 39)=true:=by rw [List.all_eq_true];intro d hd;obtain⟨e,_,rfl⟩:=List.mem_map.mp hd;rfl
 rw [jT (ys:=es.map fun e=>D.int (e.g:Int)) rfl rfl ok] at h
 rw [Hm (ys:=es.map fun e=>D.int (e.g:Int)) rfl rfl ok]
 simp only [Option.some.injEq,D.bl.injEq] at h
 rw [h]
theorem Ij{settled:PF}(O:nv settled){N:List Str}(hN:N.length=8){wr:Bool}{g:Nat}{t:Option Int}(h:ROk R)(hl:R.1.length<=50)(hw:R.1[g]?=some .out)(hs:bw R.2 g=false) :
  ∃ T,aO N (tF settled) 3 [r.d,aN R,(Dd.ask wr g t).d] S=some (.tup [aN (uz r R wr g t).1,cM (uz r R wr g t).2],S++T):=by
 have hst:aA N [r.d,aN R,(Dd.ask wr g t).d]=[some r.d,some (aN R),some (Dd.ask wr g t).d,none,none,none,none,none]:=by simp [aA,hN,List.replicate]
 rw [bb (show [r.d,aN R,(Dd.ask wr g t).d].length=3 from rfl),hst]
 have hA:=zc (wr:=wr) (t:=t) h hw hs
 have hO:=O S r (R.1,R.2++[lA wr g t]) hA hl
 obtain⟨q1,q2⟩:=dw (r:=r) hA
 have qf:(aX r (R.1,R.2++[lA wr g t])).2.length<=100:=Nat.le_trans (mP _) (by show 2 * R.1.length<=100;omega)
 have ql:(aX r (R.1,R.2++[lA wr g t])).1.2.length<=50:=Nat.le_trans q1.len (by rw [q2];exact hl)
 unfold uz
 generalize hE:aX r (R.1,R.2++[lA wr g t])=A at *
 obtain⟨R',evs⟩:=A
 dsimp only at *
 have k2:∀ S (x y:D),cr ([x,y],S)=some (.tup [x,y],S):=fun S x y=>aU (by simp)
 have k1:∀ S (x:D),cr ([x],S)=some (.tup [x],S):=fun S x=>aU (by simp)
 have l1:∀ S (x:D),lX ([x],S)=some (.lst [x],S):=fun S x=>dG (by simp)
 have k4:∀ S (x y z w:D),cr ([x,y,z,w],S)=some (.tup [x,y,z,w],S):=fun S x y z w=>aU (by simp)
 have g3:∀ env S,aJ 3 (af (ag 3) (af (ag 4) (af (ag 5) (aB)))) (Dd.ask wr g t).d env S=(af (ag 3) (af (ag 4) (af (ag 5) (aB)))) [.str (bx wr),.int (g:Int),bF t] env S:=fun env S=>rQ
 have kif:∀ env:bh,kIf (mC (.int 1)) (ab 5) [some r.d,some (aN R),some (Dd.ask wr g t).d,some (.str (bx wr)),some (.int (g:Int)),some (bF t),none,none] (decide (t=some 0),S)=some (bF (if t=some 0 then some 1 else t),S):=fun env=>by
  by_cases ht:t=some 0
  ·simp [ht];rfl
  ·simp [ht]
 have ad:∀ S,aR S (cb R.2) (.tup [.tup [.int (g:Int),.str (bx wr),.int 0,bF (if t=some 0 then some 1 else t)]])=some (cb (R.2++[lA wr g t])):=fun S=>by
  have:=h.len
  rw [show cb R.2=.tup (R.2.map En.d) from rfl,gz (by simp;omega)]
  unfold cb;rw [List.map_append];rfl
 have hO':settled [r.d,.tup [cA R.1,cb (R.2++[lA wr g t])]] S=some (.tup [aN R',.ref S.length],S++[.lst (evs.map Ev.d)]):=hO
 have gs:∀ (T:ac) (a6:Option D),Ug [some r.d,some (aN R'),some (Dd.ask wr g t).d,some (.str (bx wr)),some (.int (g:Int)),some (bF t),a6,some (.ref S.length)] T=some (.lst (R'.2.map fun e=>.int (e.g:Int)),T):=fun T a6=>by
  simp only [Ug,bY,dm,aF,aj,bH,bN,bM,oj,ob,ai,aw,bi,av,Rm.ix1,eg,gsC (es:=R'.2) (cap:=[none]) (env:=[some r.d,some (aN R'),some (Dd.ask wr g t).d,some (.str (bx wr)),some (.int (g:Int)),some (bF t),a6,some (.ref S.length)]) rfl (by omega)]
 have rs:∀ (T:ac) (a6:Option D),Ei [some r.d,some (aN R'),some (Dd.ask wr g t).d,some (.str (bx wr)),some (.int (g:Int)),some (bF t),a6,some (.ref S.length)] T=some (.lst ((R'.2.filter fun e=>decide (e.g≠g)).map En.d),T):=fun T a6=>by
  simp only [Ei,bY,dm,aF,aj,bH,bN,bM,oj,ob,ai,aw,bi,av,Rm.ix1,eg,Je (es:=R'.2) (g:=g) (cap:=[none,some 4]) (env:=[some r.d,some (aN R'),some (Dd.ask wr g t).d,some (.str (bx wr)),some (.int (g:Int)),some (bF t),a6,some (.ref S.length)]) rfl (by omega)]
 have no:∀ w:Str,aR (S++[.lst (evs.map Ev.d)]) (.ref S.length) (.lst [.tup [.str w,.int (g:Int)]])=some (.lst ((evs++[Ev.mk w g]).map Ev.d)):=fun w=>Td (v:=⟨w,g⟩) (by omega)
 refine⟨[.lst (evs.map Ev.d)],?_⟩
 simp only [tF,aQ,bj,aj,bH,bN,bM,oj,ob,ai,bm,g3,bo,aT,cH,bG,eK,eY,bK,aC,bg,ao,am,bi,lE,aI,aF,aw,av,jo,aE,kif [],az,al,k4,aG,Rm.ix0,Rm.ix1,k1,ad,k2,bd,hO',bV,bp,gs,Hn]
 cases hb:bw R'.2 g with
 | false=>simp only [Bool.not_false,bT,aW,bg,ao,aj,bH,bN,bM,oj,ob,ai,am,bP,az,al,bR,Lh,k2,bt,bQ,aH,if_pos]
 | true=>
  simp only [Bool.not_true,bO,bA,ob,aC,reduceCtorEq,if_neg,not_false_eq_true]
  by_cases ht:t=some 0
  ·have fe:∀ S,bX S (bF t) (.int 0)=some (.bl true):=fun S=>by rw [jo,decide_eq_true ht]
   simp only [if_pos ht,aQ,bp,aI,fe,aE,bT,aW,bg,ao,aj,bH,bN,bM,oj,ob,ai,am,aF,aw,bi,av,Rm.ix0,bP,rs,az,al,bR,eW,k2,iz,l1,no,bt,bQ,aH]
   rfl
  ·have fe:∀ S,bX S (bF t) (.int 0)=some (.bl false):=fun S=>by rw [jo,decide_eq_false ht]
   simp only [if_neg ht,aQ,bp,aI,fe,aE,bO,bA,ob,aC,aW,bg,ao,aj,bH,bN,bM,oj,ai,am,aF,aw,bi,av,bP,az,al,bR,eW,k2,iz,l1,no,bt,aH]
   rfl
end
end MI
namespace MI
open PySem PySem.Spec PyProof.Rows L2 M
structure Ur(can asked settled marked put:PF):Prop where
 c:∀ (S:ac) (R:Rm) (dd:Dd),R.2.length<=60->dd.Ok R.1.length->∃ T,can [aN R,dd.d] S=some (.bl (gW R dd),S++T)
 a:∀ (S:ac) (r:Rl) (R:Rm) (wr:Bool) (g:Nat) (t:Option Int),ROk R->R.1.length<=50->R.1[g]?=some .out->bw R.2 g=false->∃ T,asked [r.d,aN R,(Dd.ask wr g t).d] S=some (.tup [aN (uz r R wr g t).1,cM (uz r R wr g t).2],S++T)
 s:nv settled
 m:∀ (S:ac) (r:Rl) (w:Wd) (es:List En),es.length<=60->marked [r.d,w.d,cb es] S=some (cb (sM r w es),S)
 p:∀ (S:ac) (ws:List Wd) (i:Nat) (w:Wd),i<ws.length->ws.length<=100->put [cA ws,.int (i:Int),w.d] S=some (cA (ws.set i w),S)
section
variable{S:ac}{ws:List Wd}{es:List En}{r:Rl}{R:Rm}
theorem Tw{e:En}:(aq aR (bu (ab 0) (bv) (bS (mC (.int 3)))) (aM (aa (lJ (ay (aq vj (aq ar (ab 0) (mC (.int 3))) (mC .non))) (mC .non) (aq nD (aq ar (ab 0) (mC (.int 3))) (mC (.int 1)))) (ah)))) [some e.d] S=some ((gj e).d,S):=by
 have c1:iL e.d none (some 3,S)=some (.tup [.int (e.g:Nat),.str (bx e.wr),.int e.m],S):=rfl
 have k1:∀ x,cr ([x],S)=some (.tup [x],S):=fun x=>aU (by simp)
 have a2:∀ x y z w,aR S (.tup [x,y,z]) (.tup [w])=some (.tup [x,y,z,w]):=fun x y z w=>gz (by simp)
 have cu:∀ a b c d:D,iA [a,b,c,d] none (some 3)=[a,b,c]:=fun _ _ _ _=>rfl
 obtain⟨g,wr,m,t⟩:=e
 cases t with
 | none=>simp [at4,cu,bF,lY,k1,a2,gj,En.d]
 | some k=>simp [at4,cu,bF,lY,k1,a2,gj,En.d]
theorem HG{settled:PF}(O:nv settled){a2 a5 a6 a7 a8 a9 b0 b1 b2 b3:Option D}(h:ROk R)(hl:R.1.length<=50) :
  ∃ T,(ul settled [some r.d,some (aN R),a2,some (cA R.1),some (cb R.2),a5,a6,a7,a8,a9,b0,b1,b2,b3] S).bind NC=some (.tup [aN (nH r R).1,cM (nH r R).2],S++T)/\ul settled [some r.d,some (aN R),a2,some (cA R.1),some (cb R.2),a5,a6,a7,a8,a9,b0,b1,b2,b3] S=some (.rt (.tup [aN (nH r R).1,cM (nH r R).2]) (S++T)):=by
 have hle:=h.len
 have f1:yT [some r.d,some (aN R),a2,some (cA R.1),some (cb R.2),a5,a6,a7,a8,a9,b0,b1,b2,b3] S=some (.lst ((R.2.map gj).map En.d),S):=by
  have k:=ft (S:=S) (t:=bU) (e:=aq aR (bu (ab 0) (bv) (bS (mC (.int 3)))) (aM (aa (lJ (ay (aq vj (aq ar (ab 0) (mC (.int 3))) (mC .non))) (mC .non) (aq nD (aq ar (ab 0) (mC (.int 3))) (mC (.int 1)))) (ah)))) (cap:=[none]) (env:=[some r.d,some (aN R),a2,some (cA R.1),some (cb R.2),a5,a6,a7,a8,a9,b0,b1,b2,b3]) (rest:=[]) (a:=none) (enc:=En.d) (p:=fun _=>true) (f:=fun e=>(gj e).d) (xs:=R.2) rfl (by omega) (fun x _=>jE) (fun x _ _=>Tw)
  rw [List.filter_eq_self.mpr (fun _ _=>rfl)] at k
  simp only [yT,bY,dm,aj,bH,bN,bM,oj,ob,ai,eg,k,List.map_map]
  rfl
 generalize hF:R.2.map gj=fs at f1
 have hfl:fs.length<=50:=by rw [<- hF,List.length_map];omega
 have k2:∀ S (x y:D),cr ([x,y],S)=some (.tup [x,y],S):=fun S x y=>aU (by simp)
 have f2:DX [some r.d,some (aN R),a2,some (cA R.1),some (cb R.2),some (.lst (fs.map En.d)),a6,a7,a8,a9,b0,b1,b2,b3] S=some (.lst (((fs.filter fun e=>decide (e.t=some 0)).map fun e=>Ev.mk "ends" e.g).map Ev.d),S):=by
  have k:=ft (S:=S) (t:=ay (aq bX (aq ar (ab 0) (mC (.int 3))) (mC (.int 0)))) (e:=aM (aa (mC (.str "ends")) (aa (aq ar (ab 0) (mC (.int 0))) (ah)))) (cap:=[none]) (env:=[some r.d,some (aN R),a2,some (cA R.1),some (cb R.2),some (.lst (fs.map En.d)),a6,a7,a8,a9,b0,b1,b2,b3]) (rest:=[]) (a:=none) (enc:=En.d) (p:=fun e=>decide (e.t=some 0)) (f:=fun e=>(Ev.mk "ends" e.g).d) (xs:=fs) rfl (by omega) (fun x _=>by simp [En.ix3,jo]) (fun x _ _=>by simp [En.ix0,k2,Ev.d])
  simp only [DX,bY,dm,aj,bH,bN,bM,oj,ob,ai,yw,k,List.map_map]
  rfl
 have f3:∀ a6,DU [some r.d,some (aN R),a2,some (cA R.1),some (cb R.2),some (.lst (fs.map En.d)),a6,a7,a8,a9,b0,b1,b2,b3] S=some (.lst ((fs.filter fun e=>decide (e.t≠some 0)).map En.d),S):=fun a6=>by
  have k:=ft (S:=S) (t:=ay (aq gk (aq ar (ab 0) (mC (.int 3))) (mC (.int 0)))) (e:=ab 0) (cap:=[none]) (env:=[some r.d,some (aN R),a2,some (cA R.1),some (cb R.2),some (.lst (fs.map En.d)),a6,a7,a8,a9,b0,b1,b2,b3]) (rest:=[]) (a:=none) (enc:=En.d) (p:=fun e=>decide (e.t≠some 0)) (f:=En.d) (xs:=fs) rfl (by omega) (fun x _=>by simp [En.ix3,Bv]) (fun x _ _=>by simp)
  simp only [DU,bY,dm,aj,bH,bN,bM,oj,ob,ai,yw,k]
 have hA:ROk (R.1,fs.filter fun e=>decide (e.t≠some 0)):=by rw [<- hF];exact ROk.filter (ROk.mapE h gj fun e=>rfl) _
 have hO:=O S r (R.1,fs.filter fun e=>decide (e.t≠some 0)) hA hl
 have qf:(aX r (R.1,fs.filter fun e=>decide (e.t≠some 0))).2.length<=100:=Nat.le_trans (mP _) (by show 2 * R.1.length<=100;omega)
 unfold nH
 rw [hF]
 generalize hE:aX r (R.1,fs.filter fun e=>decide (e.t≠some 0))=A at *
 obtain⟨R',evs⟩:=A
 dsimp only at *
 have hO':settled [r.d,.tup [cA R.1,.tup ((fs.filter fun e=>decide (e.t≠some 0)).map En.d)]] S=some (.tup [aN R',.ref S.length],S++[.lst (evs.map Ev.d)]):=hO
 have ad:=Fq (S:=S) (k:=(fs.filter fun e=>decide (e.t=some 0)).map fun e=>Ev.mk "ends" e.g) (l:=evs) (by omega) (by rw [List.length_map];exact Nat.le_trans (List.length_filter_le _ _) (by omega))
 have key:ul settled [some r.d,some (aN R),a2,some (cA R.1),some (cb R.2),a5,a6,a7,a8,a9,b0,b1,b2,b3] S=some (.rt (.tup [aN R',cM (((fs.filter fun e=>decide (e.t=some 0)).map fun e=>Ev.mk "ends" e.g)++evs)]) (S++[.lst (evs.map Ev.d)])):=by
  simp only [ul,aQ,bj,f1,ob,bm,aT,eK,eY,bK,aC,f2,aG,ao,aj,bH,bN,bM,oj,ai,am,bg,bP,f3,az,al,bR,eW,k2,bd,hO',bV,bo,cH,bG,aW,aF,aw,av,ad,bt]
  rfl
 exact⟨[.lst (evs.map Ev.d)],by rw [key,ob,aH],key⟩
theorem Fl{xs:List D}{k:Int}(h0:0<=k)(h1:k<=100000)(h:xs.length * k.toNat<=1000):cw S (.lst xs) (.int k)=some (.lst (List.replicate k.toNat xs).flatten):=if_pos ⟨by omega,by omega,sz h⟩
theorem La{x:D}{b:Bool}:cw S (.lst [x]) (.int (if b=true then 1 else 0))=some (.lst (if b=true then [x] else [])):=by
 cases b
 ·exact Fl (by decide) (by decide) (by simp)
 ·exact Fl (by decide) (by decide) (by simp)
theorem akS(k j:Ak):(k.s == j.s)=decide (k=j):=by cases k <;> cases j <;> decide +kernel
theorem yK{k j:Ak}:bX S (.str k.s) (.str j.s)=some (.bl (decide (k=j))):=by rw [cP,akS]
theorem DY{k:Ak}{g:Nat}{a0 a1 a2 a3 a4 a5 a6 a7 b0 b1 b2 b3:Option D}:yS [a0,a1,a2,a3,a4,a5,a6,a7,some (.str k.s),some (.int (g:Int)),b0,b1,b2,b3] S=some (.lst ((fM k g).map Ev.d),S):=by
 have e1:bX S (.str k.s) (.str "stop")=some (.bl (decide (k=.stop))):=yK (j:=.stop)
 have e2:bX S (.str k.s) (.str "down")=some (.bl (decide (k=.down))):=yK (j:=.down)
 have e3:gk S (.str k.s) (.str "up")=some (.bl (!decide (k=.up))):=by rw [qo];exact congrArg (fun b=>some (D.bl (!b))) (akS k .up)
 have k2:∀ S (x y:D),cr ([x,y],S)=some (.tup [x,y],S):=fun S x y=>aU (by simp)
 have l1:∀ S (x:D),lX ([x],S)=some (.lst [x],S):=fun S x=>dG (by simp)
 cases k <;> simp only [yS,aF,iz,ao,bg,lE,aI,aj,bH,bN,bM,oj,ob,ai,aw,bi,av,e1,e2,e3,aE,reduceCtorEq,decide_false,decide_true,wa,AY,am,az,al,k2,l1,bP,bR,pE,La,fM] <;> rfl
theorem DQ{k:Ak}{w:Wd}{a0 a1 a2 a3 a4 a5 a6 a7 a9 b1 b2 b3:Option D}:yR [a0,a1,a2,a3,a4,a5,a6,a7,some (.str k.s),a9,some w.d,b1,b2,b3] S=some ((gl k w).d,S):=by
 have e1:bX S w.d (.str "rising")=some (.bl (decide (w=.rising))):=mx (b:=.rising)
 have l2:∀ S (x y:D),lX ([x,y],S)=some (.lst [x,y],S):=fun S x y=>dG (by simp)
 have ix:ar S (.lst [.str "out",.str "reads"]) (.int (if decide (w=.rising)=true then 1 else 0))=some (if w=.rising then Wd.reads else Wd.out).d:=by by_cases h:w=.rising <;> simp [h] <;> rfl
 have kd:∀ x,tK ([(.inr "up",.str "rising"),(.inr "down",.str "reads"),(.inr "leave",.str "out"),(.inr "stop",x)],S)=some (.dct ([((Sum.inr "up":bC),D.str "rising"),(.inr "down",.str "reads"),(.inr "leave",.str "out"),(.inr "stop",x)].map (·.1)) ([((Sum.inr "up":bC),D.str "rising"),(.inr "down",.str "reads"),(.inr "leave",.str "out"),(.inr "stop",x)].map (·.2)),S):=fun x=>Ba (show [(Sum.inr "up":bC),.inr "down",.inr "leave",.inr "stop"].Nodup by decide +kernel) (by show 4<=15;decide)
 have fx:∀ x,ar S (.dct ([((Sum.inr "up":bC),D.str "rising"),(.inr "down",.str "reads"),(.inr "leave",.str "out"),(.inr "stop",x)].map (·.1)) ([((Sum.inr "up":bC),D.str "rising"),(.inr "down",.str "reads"),(.inr "leave",.str "out"),(.inr "stop",x)].map (·.2))) (.str k.s)=some (match k with | .up=>.str "rising" | .down=>.str "reads" | .leave=>.str "out" | .stop=>x):=fun x=>by
  rw [fIx_d yr];cases k <;> simp (decide:=true) [Ak.s]
 simp only [yR,aF,EX,lW,bi,ob,Dm,Dl,iz,ao,am,az,al,l2,aw,bP,aj,bH,bN,bM,oj,ai,av,e1,bR,pE,ix,oe,Dk,kd,fx]
 cases k <;> rfl
theorem HH{g:Nat}{R':Rm}{w:Wd}{a0 a2 a3 a4 a5 a6 a7 a8 b0 b1 b2 b3:Option D}(hw:R'.1[g]?=some w):DR [a0,some (aN R'),a2,a3,a4,a5,a6,a7,a8,some (.int (g:Int)),b0,b1,b2,b3] S=some (.lst ((if w=.rising then [Ev.mk "waits" g] else []).map Ev.d),S):=by
 have k2:∀ S (x y:D),cr ([x,y],S)=some (.tup [x,y],S):=fun S x y=>aU (by simp)
 have l1:∀ S (x:D),lX ([x],S)=some (.lst [x],S):=fun S x=>dG (by simp)
 have x1:ar S (cA R'.1) (.int (g:Int))=some w.d:=vt hw
 have e1:bX S w.d (.str "rising")=some (.bl (decide (w=.rising))):=mx (b:=.rising)
 simp only [DR,aF,iz,ao,bg,bi,ob,am,aj,bH,bN,bM,oj,ai,az,al,k2,l1,aw,bP,av,Rm.ix0,x1,e1,bR,pE,La]
 by_cases h:w=.rising <;> simp [h] <;> rfl
theorem HI{g:Nat}{a0 a1 a2 a3 a5 a6 a7 a8 b0 b1 b2 b3:Option D}(hl:es.length<=100):DV [a0,a1,a2,a3,some (cb es),a5,a6,a7,a8,some (.int (g:Int)),b0,b1,b2,b3] S=some (.lst ((es.filter fun e=>decide (e.g≠g)).map En.d),S):=by
 simp only [DV,bY,dm,aj,bH,bN,bM,oj,ob,ai,eg,Je (es:=es) (g:=g) (cap:=[none,some 9]) (env:=[a0,a1,a2,a3,some (cb es),a5,a6,a7,a8,some (.int (g:Int)),b0,b1,b2,b3]) rfl hl]
theorem Tc{k:Ak}:oB S (.str k.s) (.tup [.str "down",.str "leave"])=some (.bl (decide (k=.down\/k=.leave))):=by
 have h:([D.str "down",D.str "leave"].any fun d=>jA d (.str k.s))=decide (k=.down\/k=.leave):=by cases k <;> decide +kernel
 rw [jT (ys:=[.str "down",.str "leave"]) rfl rfl rfl,h]
theorem NS{w:Wd}:(sM r w es).length=es.length:=by unfold sM;split <;> simp
theorem LO{can asked settled marked put:PF}(O:Ur can asked settled marked put){k:Ak}{g:Nat}{w:Wd}{a2 a5 a6 a7 b0 b1 b2 b3:Option D}(h:ROk R)(hl:R.1.length<=50)(hw:R.1[g]?=some w) :
  ∃ T,LP settled marked put [some r.d,some (aN R),a2,some (cA R.1),some (cb R.2),a5,a6,a7,some (.str k.s),some (.int (g:Int)),b0,b1,b2,b3] S=some (.rt (.tup [aN (lK r R k g w).1,cM (lK r R k g w).2]) (S++T)):=by
 have hle:=h.len
 have hg:g<R.1.length:=(List.getElem?_eq_some_iff.mp hw).1
 have x1:∀ S,ar S (cA R.1) (.int (g:Int))=some w.d:=fun S=>vt hw
 have k2:∀ S (x y:D),cr ([x,y],S)=some (.tup [x,y],S):=fun S x y=>aU (by simp)
 have mk:∀ env S,env=[some r.d,some (aN R),a2,some (cA R.1),some (cb R.2),a5,a6,a7,some (.str k.s),some (.int (g:Int)),some w.d,some (.lst ((fM k g).map Ev.d)),b2,b3]->bD (ay (aq oB (ab 8) (aM (aa (mC (.str "down")) (aa (mC (.str "leave")) (ah)))))) (aD (ak 3 marked (aa (ab 0) (aa (ab 10) (aa (ab 4) (ah))))) (ag 4)) (aY) env S=some (.nx [some r.d,some (aN R),a2,some (cA R.1),some (cb (if k=.down\/k=.leave then sM r w R.2 else R.2)),a5,a6,a7,some (.str k.s),some (.int (g:Int)),some w.d,some (.lst ((fM k g).map Ev.d)),b2,b3] S):=fun env S he=>by
  subst he
  simp only [bp,aI,aF,aj,bH,bN,bM,oj,ob,ai,aw,bg,ao,bi,am,az,al,k2,av,Tc,aE]
  by_cases hk:k=.down\/k=.leave
  ·rw [decide_eq_true hk,if_pos hk]
   simp only [bT,bj,aG,ao,aj,bH,bN,bM,oj,ob,ai,am,az,al,bE,O.m S r w R.2 (by omega),bm,aT,eK,eY,bK]
  ·rw [decide_eq_false hk,if_neg hk]
   simp only [bO,bA]
 have hel:(if k=.down\/k=.leave then sM r w R.2 else R.2).length<=100:=by split <;> (try rw [NS]) <;> omega
 have hA:=zg (r:=r) (k:=k) (w:=w) (g:=g) h (gl k w)
 have hO:=O.s S r (R.1.set g (gl k w),qv r k w g R.2) hA (by simp;exact hl)
 obtain⟨q1,q2⟩:=dw (r:=r) hA
 have qf:(aX r (R.1.set g (gl k w),qv r k w g R.2)).2.length<=100:=Nat.le_trans (mP _) (by show 2 * (R.1.set g (gl k w)).length<=100;rw [List.length_set];omega)
 have pp:∀ S,put [cA R.1,.int (g:Int),(gl k w).d] S=some (cA (R.1.set g (gl k w)),S):=fun S=>O.p S R.1 g _ hg (by omega)
 unfold lK
 generalize hE:aX r (R.1.set g (gl k w),qv r k w g R.2)=A at *
 obtain⟨R',evs⟩:=A
 dsimp only at *
 have hg':g<R'.1.length:=by rw [q2,List.length_set];exact hg
 have hw':R'.1[g]?=some R'.1[g]:=List.getElem?_eq_getElem hg'
 have hO':settled [r.d,.tup [cA (R.1.set g (gl k w)),.tup (((if k=.down\/k=.leave then sM r w R.2 else R.2).filter fun e=>decide (e.g≠g)).map En.d)]] S=some (.tup [aN R',.ref S.length],S++[.lst (evs.map Ev.d)]):=hO
 have fl:(fM k g).length<=1:=by cases k <;> simp [fM]
 have ad:=Fq (S:=S) (k:=fM k g) (l:=evs) (by omega) (by omega)
 have ad2:aR (S++[.lst (evs.map Ev.d)]) (.lst ((fM k g++evs).map Ev.d)) (.lst ((if R'.1[g]=.rising then [Ev.mk "waits" g] else []).map Ev.d))=some (.lst ((fM k g++evs++(if R'.1[g]=.rising then [Ev.mk "waits" g] else [])).map Ev.d)):=by
  rw [DB (by rw [List.length_map,List.length_map,List.length_append];split <;> simp <;> omega),<- List.map_append]
 refine⟨[.lst (evs.map Ev.d)],?_⟩
 rw [hw']
 simp only [LP,aQ,bj,aF,aj,bH,bN,bM,oj,ob,ai,aw,av,x1,bm,aT,eK,eY,bK,aC,DY,mk _ _ rfl,bP,ao,HI hel,am,az,al,bR,eW,DQ,aG,bg,bE,pp,k2,bd,hO',bV,bo,cH,bG,HH hw',aW,ad,ad2,bt,Option.some.injEq]
 rfl
theorem vH{S:ac}:oB S (.str "rising") (cA ws)=some (.bl (decide (Wd.rising∈ws))):=by
 rw [jT (ys:=ws.map Wd.d) rfl rfl NM]
 congr 2
 rw [List.any_map]
 induction ws with
 | nil=>rfl
 | cons a l ih=>
  rw [List.any_cons,ih]
  show (jA a.d (Wd.rising).d||_)=_
  rw [Th,Bool.eq_iff_iff]
  simp
  constructor
  ·rintro(h | h)
   ·exact .inl h.symm
   ·exact .inr h
  ·rintro(h | h)
   ·exact .inl h.symm
   ·exact .inr h
theorem BG{dd:Dd}(h:dd≠.tick):(fO dd == ("tick":Str))=false:=by
 cases dd with
 | tick=>exact absurd rfl h
 | ask wr g t=>show (bx wr == ("tick":Str))=false;cases wr <;> decide +kernel
 | act k g=>show (k.s == ("tick":Str))=false;cases k <;> decide +kernel
theorem Lc{x:Str}{b:Bool}(hb:([D.str "read",D.str "write"].any fun d=>jA d (.str x))=b):oB S (.str x) (.tup [.str "read",.str "write"])=some (.bl b):=by
 rw [jT (ys:=[.str "read",.str "write"]) rfl rfl rfl,hb]
def pH:Option (Rm×List Ev)->D
 | none=>.non
 | some x=>.tup [aN x.1,cM x.2]
theorem LN{can asked settled marked put:PF}(O:Ur can asked settled marked put){N:List Str}(hN:N.length=14){dd:Dd}(h:ROk R)(hl:R.1.length<=50)(hd:dd.Ok R.1.length) :
  ∃ T,aO N (jF can asked settled marked put) 3 [r.d,aN R,dd.d] S=some (pH (gh r R dd),S++T):=by
 have hst:aA N [r.d,aN R,dd.d]=[some r.d,some (aN R),some dd.d,none,none,none,none,none,none,none,none,none,none,none]:=by simp [aA,hN,List.replicate]
 rw [bb (show [r.d,aN R,dd.d].length=3 from rfl),hst]
 have hle:=h.len
 obtain⟨T0,hc⟩:=O.c S R dd (by omega) hd
 have g2:∀ env S,aJ 2 (af (ag 3) (af (ag 4) (aB))) (aN R) env S=(af (ag 3) (af (ag 4) (aB))) [cA R.1,cb R.2] env S:=fun env S=>bV
 have k2:∀ S (x y:D),cr ([x,y],S)=some (.tup [x,y],S):=fun S x y=>aU (by simp)
 have k1:∀ S (x:D),cr ([x],S)=some (.tup [x],S):=fun S x=>aU (by simp)
 unfold gh
 cases hb:gW R dd with
 | false=>
  rw [hb] at hc
  refine⟨T0,?_⟩
  simp only [jF,aQ,bp,iK,dB,aG,ao,aj,bH,bN,bM,oj,ob,ai,am,az,al,bd,hc,fv,iN,Bool.not_false,bT,aW,bi,bt,bQ,aH,if_pos,pH]
 | true=>
  rw [hb] at hc
  rw [if_neg (by decide)]
  by_cases ht:dd=.tick
  ·subst ht
   have xt:∀ S,ar S (Dd.tick).d (.int 0)=some (.str "tick"):=fun S=>rfl
   have et:∀ S,bX S (.str "tick") (.str "tick")=some (.bl true):=fun S=>by rw [cP,beq_self_eq_true]
   obtain⟨T,_,e⟩:=HG O.s (S:=S++T0) (r:=r) (R:=R) (a2:=some (Dd.tick).d) (a5:=none) (a6:=none) (a7:=none) (a8:=none) (a9:=none) (b0:=none) (b1:=none) (b2:=none) (b3:=none) h hl
   refine⟨T0++T,?_⟩
   simp only [jF,aQ,bp,iK,dB,aG,ao,aj,bH,bN,bM,oj,ob,ai,am,az,al,bd,hc,fv,iN,Bool.not_true,bO,bA,aC,bj,bm,g2,bo,aT,cH,bG,eK,eY,bK,aI,aF,aw,bi,av,xt,et,aE,bT,e,bQ,aH,List.append_assoc,pH]
  ·have et0:=BG ht
   cases dd with
   | tick=>exact absurd rfl ht
   | ask wr g t=>
    have x0:∀ S,ar S (Dd.ask wr g t).d (.int 0)=some (.str (bx wr)):=fun S=>rfl
    have et:∀ S,bX S (.str (bx wr)) (.str "tick")=some (.bl false):=fun S=>by rw [cP];exact congrArg (fun b=>some (D.bl b)) et0
    have sl:∀ S,iL (Dd.ask wr g t).d none (some 2,S)=some (.tup [.str (bx wr),.int (g:Int)],S):=fun S=>rfl
    simp only [gW,Bool.and_eq_true,decide_eq_true_eq,Bool.not_eq_true'] at hb
    obtain⟨T,e⟩:=O.a (S++T0) r R wr g t h hl hb.1 hb.2
    have fi:∀ S,oB S (.str (bx wr)) (.tup [.str "read",.str "write"])=some (.bl true):=fun S=>Lc (by cases wr <;> decide +kernel)
    refine⟨T0++T,?_⟩
    simp only [jF,aQ,bp,iK,dB,aG,ao,aj,bH,bN,bM,oj,ob,ai,am,az,al,bd,hc,fv,iN,Bool.not_true,bO,bA,aC,bj,bm,g2,bo,aT,cH,bG,eK,eY,bK,aI,aF,aw,bi,av,x0,et,aE,cy,dU,cE,dS,cY,cZ,sl,bV,bg,k2,fi,bT,aW,bE,e,bt,bQ,aH,List.append_assoc,pH]
   | act k g=>
    have x0:∀ S,ar S (Dd.act k g).d (.int 0)=some (.str k.s):=fun S=>rfl
    have et:∀ S,bX S (.str k.s) (.str "tick")=some (.bl false):=fun S=>by rw [cP];exact congrArg (fun b=>some (D.bl b)) et0
    have sl:∀ S,iL (Dd.act k g).d none (some 2,S)=some (.tup [.str k.s,.int (g:Int)],S):=fun S=>rfl
    have fi:∀ S,oB S (.str k.s) (.tup [.str "read",.str "write"])=some (.bl false):=fun S=>Lc (by cases k <;> decide +kernel)
    have fu:∀ S,bX S (.str k.s) (.str "up")=some (.bl (decide (k=.up))):=fun S=>yK (j:=.up)
    have fc:(r.c == 0)=decide (r.c=0):=rfl
    have hg:g<R.1.length:=hd
    have hw:R.1[g]?=some R.1[g]:=List.getElem?_eq_getElem hg
    have ev1:D.tup [.tup [.str "no",.int (g:Int)]]=cM [⟨"no",g⟩]:=rfl
    obtain⟨T,e⟩:=LO O (S:=S++T0) (r:=r) (R:=R) (k:=k) (g:=g) (a2:=some (Dd.act k g).d) (a5:=none) (a6:=none) (a7:=none) (b0:=none) (b1:=none) (b2:=none) (b3:=none) h hl hw
    by_cases hu:k=.up/\(r.c=0\/Wd.rising∈R.1)
    ·refine⟨T0,?_⟩
     dsimp only
     rw [if_pos hu]
     have hu1:=decide_eq_true hu.1
     by_cases hz:r.c=0
     ·simp only [jF,aQ,bp,iK,dB,aG,ao,aj,bH,bN,bM,oj,ob,ai,am,az,al,bd,hc,fv,iN,Bool.not_true,bO,bA,aC,bj,bm,g2,bo,aT,cH,bG,eK,eY,bK,aI,aF,aw,bi,av,x0,et,aE,cy,dU,cE,dS,cY,cZ,sl,bV,bg,k2,fi,pd,fu,hu1,pj,iy,Rl.ix3,jU,fc,decide_eq_true hz,yv,bT,aW,k1,bt,bQ,aH,pH,ev1]
     ·have hr:Wd.rising∈R.1:=hu.2.resolve_left hz
      simp only [jF,aQ,bp,iK,dB,aG,ao,aj,bH,bN,bM,oj,ob,ai,am,az,al,bd,hc,fv,iN,Bool.not_true,bO,bA,aC,bj,bm,g2,bo,aT,cH,bG,eK,eY,bK,aI,aF,aw,bi,av,x0,et,aE,cy,dU,cE,dS,cY,cZ,sl,bV,bg,k2,fi,pd,fu,hu1,pj,iy,Rl.ix3,jU,fc,decide_eq_false hz,ll,vH,decide_eq_true hr,bT,aW,k1,bt,bQ,aH,pH,ev1]
    ·refine⟨T0++T,?_⟩
     dsimp only
     rw [if_neg hu,hw]
     dsimp only
     have tst:∀ (T:ac) (a5 a6 a7 b0 b1 b2 b3:Option D),dh (ay (aq bX (ab 8) (mC (.str "up")))) (eV (ay (aq bX (aq ar (ab 0) (mC (.int 3))) (mC (.int 0)))) (ay (aq oB (mC (.str "rising")) (ab 3)))) [some r.d,some (aN R),some (Dd.act k g).d,some (cA R.1),some (cb R.2),a5,a6,a7,some (.str k.s),some (.int (g:Int)),b0,b1,b2,b3] T=some (false,T):=fun T a5 a6 a7 b0 b1 b2 b3=>by
      simp only [pd,aI,aF,aj,bH,bN,bM,oj,ob,ai,aw,bi,av,fu,aE]
      by_cases hk:k=.up
      ·have hz:¬ r.c=0:=fun z=>hu ⟨hk,.inl z⟩
       have hr:¬ Wd.rising∈R.1:=fun z=>hu ⟨hk,.inr z⟩
       rw [decide_eq_true hk]
       simp only [pj,iy,aI,aF,aj,bH,bN,bM,oj,ob,ai,aw,bi,av,Rl.ix3,jU,fc,decide_eq_false hz,aE,ll,vH,decide_eq_false hr]
      ·rw [decide_eq_false hk,Fe]
     simp only [jF,aQ,bp,iK,dB,aG,ao,aj,bH,bN,bM,oj,ob,ai,am,az,al,bd,hc,fv,iN,Bool.not_true,bO,bA,aC,bj,bm,g2,bo,aT,cH,bG,eK,eY,bK,aI,aF,aw,bi,av,x0,et,aE,cy,dU,cE,dS,cY,cZ,sl,bV,bg,k2,fi,tst,e,aH,List.append_assoc,pH]
end
end MI
namespace MI
open PySem PySem.Spec PyProof.Rows L2 M
def Grow(r:Nat)(S S':ac):Prop:=S.length<=S'.length/\∀ j,j<S.length->j≠r->S'[j]?=S[j]?
theorem Grow.of{r:Nat}{S S':ac}(h:Keep r S S'):Grow r S S':=⟨Nat.le_of_eq h.2.symm,fun j _ hj=>h.1 j hj⟩
theorem Grow.trans{r:Nat}{S S' S'':ac}(h:Grow r S S')(h':Grow r S' S''):Grow r S S'':=⟨Nat.le_trans h.1 h'.1,fun j hj hr=>(h'.2 j (Nat.lt_of_lt_of_le hj h.1) hr).trans (h.2 j hj hr)⟩
theorem Pk.appT{S T:ac}{r:Nat}(h:Pk S r):Pk (S++T) r:=by
 obtain⟨a,b,d,h,z⟩:=h
 exact⟨a,b,d,by rw [List.getElem?_append_left (List.getElem?_eq_some_iff.mp h).1];exact h,z⟩
theorem Pk.lt{S:ac}{r:Nat}(h:Pk S r):r<S.length:=by
 obtain⟨a,b,d,h,z⟩:=h
 exact(List.getElem?_eq_some_iff.mp h).1
structure Formed(R:Rm):Prop where
 ok:ROk R
 m0:∀ e∈R.2,0<=e.m/\e.m<=999
 t1:∀ e∈R.2,∀ k,e.t=some k->1<=k/\k<=9
theorem ud{α:Type}{x:α}:∀ n:Nat,(List.replicate n [x]).flatten=List.replicate n x
 | 0=>rfl
 | n+1=>by rw [List.replicate_succ,List.flatten_cons,ud n,List.replicate_succ];rfl
def xx(deed done:PF):MS:=ax (aD (ak 2 deed (aa (ab 0) (aa (ab 2) (ah)))) (ag 7)) (ax (aD (ak 3 done (aa (ab 1) (aa (ab 4) (aa (ab 7) (ah))))) (ag 8)) (bD (ay (aq mr (ab 8) (mC .non))) (ax (dM (dY cO (ab 5) (aa (ab 7) (ah)))) (aD (aq ar (ab 8) (mC (.int 0))) (ag 4))) (aY)))
def Dh(deed done:PF):MS:=
 ax (aD (aM (aa (aq cw (aM (aa (mC (.str "out")) (ah))) (ab 2)) (aa (aM (ah)) (ah)))) (ag 4)) (ax (aD (dZ (ah)) (ag 5)) (ax (jd (cC (aa (ab 3) (ah))) (ag 6) (xx deed done)) (aV (aM (aa (be (aP (cm .tup)) (aa (ab 5) (ah))) (aa (ab 4) (ah)))))))
structure QA(deed done:PF):Prop where
 de:∀ (S:ac) (r n:Nat),Pk S r->1<=n->n<=5->∃ (dd:Dd) (S':ac),deed [.ref r,.int (n:Int)] S=some (dd.d,S')/\dd.Ok n/\Pk S' r/\Keep r S S'
 dn:∀ (S:ac) (rl:Rl) (R:Rm) (dd:Dd),ROk R->R.1.length<=50->dd.Ok R.1.length->∃ T,done [rl.d,aN R,dd.d] S=some (pH (gh rl R dd),S++T)
def ba(n:Nat):Rm:=(List.replicate n .out,[])
theorem nj{n:Nat}:ROk (ba n):=⟨fun e h=>by simp [ba] at h,by simp [ba]⟩
inductive Behind(r:Rl)(n:Nat):List Dd->Rm->Prop
 | nil:Behind r n [] (ba n)
 | snoc {l:List Dd} {R:Rm} {d:Dd} {x:Rm×List Ev} (h:Behind r n l R) (hd:d.Ok n) (e:gh r R d=some x):Behind r n (l++[d]) x.1
theorem Behind.ok{r:Rl}{n:Nat}{l:List Dd}{R:Rm}(h:Behind r n l R):ROk R/\R.1.length=n:=by
 induction h with
 | nil=>exact⟨nj,by simp [ba]⟩
 | snoc h hd e ih=>obtain⟨a,b⟩:=ie ih.1 e;exact⟨a,b.trans ih.2⟩
theorem MY{deed done:PF}(O:QA deed done){S:ac}{r n m:Nat}{rl:Rl}{N:List Str}(hN:N.length=9)(P:Pk S r)(h1:1<=n)(h5:n<=5)(hm:m<=400) :
  ∃ (l:List Dd) (R:Rm) (S':ac),aO N (Dh deed done) 4 [.ref r,rl.d,.int (n:Int),.int (m:Int)] S=some (.tup [.tup (l.map Dd.d),aN R],S')/\Behind rl n l R/\l.length<=m/\Pk S' r/\Grow r S S':=by
 have hst:aA N [D.ref r,rl.d,D.int (n:Int),D.int (m:Int)]=[some (.ref r),some rl.d,some (.int (n:Int)),some (.int (m:Int)),none,none,none,none,none]:=by simp [aA,hN,List.replicate]
 rw [bb (show [D.ref r,rl.d,D.int (n:Int),D.int (m:Int)].length=4 from rfl),hst]
 have hq:S.length≠r:=fun z=>by have:=P.lt;omega
 have k1:∀ S (x:D),cr ([x],S)=some (.tup [x],S):=fun S x=>aU (by simp)
 have k0:∀ S,cr ([],S)=some (.tup [],S):=fun S=>aU (by simp)
 have k2:∀ S (x y:D),cr ([x,y],S)=some (.tup [x,y],S):=fun S x y=>aU (by simp)
 have kl:qE ([],S)=some (.ref S.length,S++[.lst []]):=ku (by simp)
 have mu:∀ S,cw S (.tup [.str "out"]) (.int (n:Int))=some (cA (ba n).1):=fun S=>by
  rw [Fk (by omega) (by omega) (by simp;omega),Int.toNat_natCast]
  show some (D.tup _)=some (D.tup ((List.replicate n Wd.out).map Wd.d))
  congr 2
  rw [List.map_replicate,ud];rfl
 have kr:∀ S,PX ([.int (m:Int)],S)=some (cG 0 m,S):=fun S=>by rw [qh (by omega) (by omega),Int.toNat_natCast]
 obtain⟨env',S',e2,R,l,o6,o7,o8,rfl,P3,hc,B,hle,hz,fr⟩:=forR (tg:=ag 6) (p:=xx deed done) (lo:=0) (fun i env T=>∃ (R:Rm) (l:List Dd) (o6 o7 o8:Option D),env=[some (.ref r),some rl.d,some (.int (n:Int)),some (.int (m:Int)),some (aN R),some (.ref S.length),o6,o7,o8]/\Pk T r/\T[S.length]?=some (.lst (l.map Dd.d))/\Behind rl n l R/\l.length<=i/\S.length<=T.length/\∀ j,j≠r->j<S.length->T[j]?=S[j]?) m
  (fun i hi env T hI=>by
   obtain⟨R,l,o6,o7,o8,rfl,P,hc,B,hle,hz,fr⟩:=hI
   obtain⟨ok,hn⟩:=B.ok
   obtain⟨dd,S1,e1,od,P1,K1⟩:=O.de T r n P h1 h5
   obtain⟨T2,e3⟩:=O.dn S1 rl R dd ok (by omega) (by rw [hn];exact od)
   have hql:S.length<T.length:=(List.getElem?_eq_some_iff.mp hc).1
   have c1:(S1++T2)[S.length]?=some (.lst (l.map Dd.d)):=by
    rw [List.getElem?_append_left (by rw [K1.2];exact hql),K1.1 _ hq,hc]
   have fr1:∀ j,j≠r->j<S.length->(S1++T2)[j]?=S[j]?:=fun j jr jl=>by
    rw [List.getElem?_append_left (by rw [K1.2];omega),K1.1 j jr,fr j jr jl]
   cases hd:gh rl R dd with
   | none=>
    rw [hd] at e3
    have e3':done [rl.d,aN R,dd.d] S1=some (.non,S1++T2):=e3
    refine⟨_,_,_,_,aT,?_,R,l,some (.int (0+(i:Int))),some dd.d,some .non,rfl,P1.appT,c1,B,by omega,by simp;rw [K1.2];omega,fr1⟩
    simp only [xx,aQ,bj,aG,ao,aj,bH,bN,bM,oj,ob,ai,am,az,al,bd,e1,bm,aT,eK,eY,bK,aC,bE,e3',bp,aI,aF,aw,bi,av,pD,lY,Bool.not_true,aE,bO,bA]
   | some x=>
    rw [hd] at e3
    have e3':done [rl.d,aN R,dd.d] S1=some (.tup [aN x.1,cM x.2],S1++T2):=e3
    have ap:cO (.ref S.length) [dd.d] (S1++T2)=some (.non,(S1++T2).set S.length (.lst ((l++[dd]).map Dd.d))):=by
     rw [mZ c1 (by rw [List.length_map];omega)];simp
    have km:∀ f ms env,pg f ms env (.ref S.length,S1++T2)=(ms env (S1++T2)).bind (dW f (.ref S.length)):=fun f ms env=>rM c1
    have hql2:S.length<(S1++T2).length:=(List.getElem?_eq_some_iff.mp c1).1
    refine⟨_,_,_,_,aT,?_,x.1,l++[dd],some (.int (0+(i:Int))),some dd.d,some (.tup [aN x.1,cM x.2]),rfl,?_,List.getElem?_set_self hql2,B.snoc od hd,by simp;omega,by rw [List.length_set];omega,fun j jr jl=>?_⟩
    ·simp only [xx,aQ,bj,aG,ao,aj,bH,bN,bM,oj,ob,ai,am,az,al,bd,e1,bm,aT,eK,eY,bK,aC,bE,e3',bp,aI,aF,aw,bi,av,pD,lY,Bool.not_false,aE,bT,lg,lf,km,fC,ap,lq,fIx_t,at2]
    ·obtain⟨a,b,c,h,z⟩:=P1.appT (T:=T2)
     exact⟨a,b,c,by rw [List.getElem?_set_ne hq];exact h,z⟩
    ·rw [List.getElem?_set_ne (by omega)];exact fr1 j jr jl)
  [some (.ref r),some rl.d,some (.int (n:Int)),some (.int (m:Int)),some (aN (ba n)),some (.ref S.length),none,none,none] (S++[.lst []]) ⟨ba n,[],none,none,none,rfl,P.appT,by simp,.nil,Nat.le_refl _,by simp,fun j _ jl=>List.getElem?_append_left jl⟩
 have fe:aP (cm .tup) [.ref S.length] S'=some (.tup (l.map Dd.d),S'):=qk hc
 refine⟨l,R,S',?_,B,hle,P3,⟨hz,fun j jl jr=>fr j jr jl⟩⟩
 have er:∀ S,cr ([cA (ba n).1,.tup []],S)=some (aN (ba n),S):=fun S=>k2 S _ _
 simp only [Dh,aQ,bj,bg,ao,aF,bi,ob,am,az,al,k1,aw,aj,bH,bN,bM,oj,ai,av,mu,k0,er,bm,aT,eK,eY,bK,aC,oY,kl,tw,iW,kr,tJ,e2,aW,bP,bR,fe,k2,bt,aH]
end MI
namespace MI
open PySem PySem.Spec PyProof.Rows L2 M
section
variable{α:Type}{enc:α->D}{p:Nat->α->Bool}{f:Nat->α->D}{t:MT}{e:ME}{rest:bh}{S:ac}
theorem Mg:∀ (xs:List α) (k:Nat) (a b:Option D),(∀ i x,xs[i]?=some x->t (some (.int ((k+i:Nat):Int))::some (enc x)::rest) S=some (p (k+i) x,S))->(∀ i x,xs[i]?=some x->e (some (.int ((k+i:Nat):Int))::some (enc x)::rest) S=some (f (k+i) x,S))->dF (aJ 2 (af (ag 0) (af (ag 1) (aB)))) t e (eh k (xs.map enc)) (a::b::rest) S=some (((xs.zipIdx k).filter fun q=>p q.2 q.1).map fun q=>f q.2 q.1,S)
 | [],k,a,b,_,_=>by simp [eh]
 | x::r,k,a,b,h,h2=>by
  have ih:=Mg r (k+1) (some (.int (k:Int))) (some (enc x)) (fun i y hy=>by
   have:=h (i+1) y (by simpa using hy)
   rw [show k+(i+1)=k+1+i by omega] at this
   exact this) (fun i y hy=>by
   have:=h2 (i+1) y (by simpa using hy)
   rw [show k+(i+1)=k+1+i by omega] at this
   exact this)
  have h0:=h 0 x rfl
  have h20:=h2 0 x rfl
  rw [Nat.add_zero] at h0 h20
  rw [List.map_cons,eh,hZ,bV,bo,aT,ob,eK,cH,bo,aT,ob,eY,eK,cH,bG,ob,yC,h0,ob,List.zipIdx_cons]
  cases hp:p k x with
  | true=>
   rw [yB,h20,ob,yA,ih,ob,yz,List.filter_cons_of_pos (p:=fun q:α×Nat=>p q.2 q.1) (a:=(x,k)) hp,List.map_cons]
  | false=>rw [Dr,ih,List.filter_cons_of_neg (p:=fun q:α×Nat=>p q.2 q.1) (a:=(x,k)) (by simp [hp])]
theorem NW{cap:List (Option Nat)}{env:bh}{a b:Option D}{xs:List α}(hc:oz cap env=a::b::rest)(hl:xs.length<=1000)(h:∀ (i:Nat) x,xs[i]?=some x->t (some (.int (i:Int))::some (enc x)::rest) S=some (p i x,S))(h2:∀ (i:Nat) x,xs[i]?=some x->e (some (.int (i:Int))::some (enc x)::rest) S=some (f i x,S)) :
  nK (aJ 2 (af (ag 0) (af (ag 1) (aB)))) t e cap env (eh 0 (xs.map enc),S)=some (.lst ((xs.zipIdx.filter fun q=>p q.2 q.1).map fun q=>f q.2 q.1),S):=by
 rw [kw (by rw [nh,List.length_map];exact hl),hc,Mg xs 0 a b (fun i x hx=>by rw [Nat.zero_add];exact h i x hx) (fun i x hx=>by rw [Nat.zero_add];exact h2 i x hx),ob,ky]
end
def rN(p:Wd->Bool)(ws:List Wd):List Nat:=(ws.zipIdx.filter fun q=>p q.1).map (·.2)
theorem mem_zi{α:Type}{xs:List α}{x:α}{i:Nat}:(x,i)∈xs.zipIdx↔xs[i]?=some x:=by
 rw [List.mem_zipIdx_iff_getElem?]
theorem mem_ixW{p:Wd->Bool}{ws:List Wd}{i:Nat}:i∈rN p ws↔∃ w,ws[i]?=some w/\p w=true:=by
 unfold rN
 rw [List.mem_map]
 constructor
 ·rintro⟨⟨w,j⟩,h,rfl⟩
  obtain⟨h1,h2⟩:=List.mem_filter.mp h
  exact⟨w,mem_zi.mp h1,h2⟩
 ·rintro⟨w,h1,h2⟩
  exact⟨(w,i),List.mem_filter.mpr ⟨mem_zi.mpr h1,h2⟩,rfl⟩
def nt(l:List Nat):D:=.tup (l.map ni)
theorem Oi{p:Wd->Bool}{ws:List Wd}:D.lst ((ws.zipIdx.filter fun q=>p q.1).map fun q=>.int (q.2:Int))=nl (rN p ws):=by
 unfold nl rN ni;rw [List.map_map];rfl
def Cw:MS:=aV (be (aP (cm .tup)) (aa (bJ (eX (aa (aq ar (ab 0) (mC (.int 0))) (ah))) (aJ 2 (af (ag 0) (af (ag 1) (aB)))) (ay (aq oB (ab 1) (ab 2))) (ab 0) [none,none,some 1]) (ah)))
theorem Er{ws:List Wd}{S:ac}:AZ ([cA ws],S)=some (eh 0 (ws.map Wd.d),S):=rfl
theorem Ta{S:ac}{w:Wd}{l:List Wd}:oB S w.d (cA l)=some (.bl (decide (w∈l))):=by
 rw [jT (ys:=l.map Wd.d) rfl rfl NM]
 congr 2
 rw [List.any_map]
 induction l with
 | nil=>rfl
 | cons a l ih=>
  rw [List.any_cons,ih]
  show (jA a.d w.d||_)=_
  rw [Th,Bool.eq_iff_iff]
  simp
  constructor
  ·rintro(h | h)
   ·exact .inl h.symm
   ·exact .inr h
  ·rintro(h | h)
   ·exact .inl h.symm
   ·exact .inr h
theorem SH{N:List Str}(hN:N.length=2){S:ac}{R:Rm}{l:List Wd}(hl:R.1.length<=100):aO N Cw 2 [aN R,cA l] S=some (nt (rN (fun w=>decide (w∈l)) R.1),S):=by
 have hst:aA N [aN R,cA l]=[some (aN R),some (cA l)]:=by simp [aA,hN]
 rw [bb (show [aN R,cA l].length=2 from rfl),hst]
 have k:=yt (S:=S) (t:=ay (aq oB (ab 1) (ab 2))) (cap:=[none,none,some 1]) (env:=[some (aN R),some (cA l)]) (rest:=[some (cA l)]) (a:=none) (b:=none) (enc:=Wd.d) (p:=fun w=>decide (w∈l)) (xs:=R.1) rfl (by omega) (fun i x _=>by simp only [aI,aF,aj,bH,bN,bM,oj,ob,ai,aw,av,Ta,aE])
 rw [Oi (p:=fun w=>decide (w∈l))] at k
 have fs:aP (cm .tup) [nl (rN (fun w=>decide (w∈l)) R.1)] S=some (nt (rN (fun w=>decide (w∈l)) R.1),S):=eW
 simp only [Cw,aW,bP,ao,bY,mS,aF,aj,bH,bN,bM,oj,ob,ai,aw,bi,av,Rm.ix0,am,az,al,Er,k,bR,fs,bt,aH]
def jC(R:Rm)(g:Nat):D:=if R.1[g]?=some .rising then .str "up" else match R.2.find? fun e=>decide (e.g=g) with
 | some e=>.str (bx e.wr)
 | none=>.non
def lM:MS:=bD (ay (aq bX (aq ar (ab 2) (mC (.int 0))) (ab 1))) (aV (aq ar (ab 2) (mC (.int 1)))) (aY)
def lO(gw:PF):MS:=ax (bD (ay (aq oB (ab 1) (ak 2 gw (aa (ab 0) (aa (aM (aa (mC (.str "rising")) (ah))) (ah)))))) (aV (mC (.str "up"))) (aY)) (ax (ee (aq ar (ab 0) (mC (.int 1))) (ag 2) lM) (aV (mC .non)))
def Mv(gw:PF):Prop:=∀ (S:ac) (R:Rm) (l:List Wd),R.1.length<=100->gw [aN R,cA l] S=some (nt (rN (fun w=>decide (w∈l)) R.1),S)
theorem Tb{S:ac}{g:Nat}{l:List Nat}:oB S (.int (g:Int)) (nt l)=some (.bl (decide (g∈l))):=by
 rw [jT (ys:=l.map ni) rfl rfl (by rw [List.all_eq_true];intro d hd;obtain⟨i,_,rfl⟩:=List.mem_map.mp hd;rfl)]
 congr 2
 rw [List.any_map]
 induction l with
 | nil=>rfl
 | cons a l ih=>
  rw [List.any_cons,ih]
  show (((a:Int) == (g:Int))||_)=_
  rw [Bool.eq_iff_iff]
  simp
  constructor
  ·rintro(h | h)
   ·exact .inl (by omega)
   ·exact .inr h
  ·rintro(h | h)
   ·exact .inl (by omega)
   ·exact .inr h
theorem vv{S:ac}{R:Rm}{g:Nat}:∀ (es:List En) (a:Option D),cF (ag 2) lM (es.map En.d) [some (aN R),some (.int (g:Int)),a] S=(match es.find? fun e=>decide (e.g=g) with | some e=>some (.rt (.str (bx e.wr)) S) | none=>some (.nx [some (aN R),some (.int (g:Int)),match es.getLast? with | some e=>some e.d | none=>a] S))
 | [],a=>by simp
 | e::l,a=>by
  have ih:=vv (S:=S) (R:=R) (g:=g) l (some e.d)
  have c:((e.g:Int) == (g:Int))=decide (e.g=g):=by rw [Bool.eq_iff_iff];simp;omega
  rw [List.map_cons,dE,aT,ob,eY,eY,eK,lm]
  simp only [lM,bp,aI,aF,aj,bH,bN,bM,oj,ob,ai,aw,bi,av,En.ix0,jU,c,aE,List.find?_cons]
  cases hd:decide (e.g=g) with
  | true=>simp only [bT,aW,aF,aj,bH,bN,bM,oj,ob,ai,aw,bi,av,En.ix1,bt,Fd]
  | false=>
   rw [bO,bA,ob,jG]
   show cF (ag 2) lM _ _ _=_
   rw [ih]
   cases hf:l.find? fun e=>decide (e.g=g) with
   | some x=>rfl
   | none=>
    dsimp only
    congr 4
    cases l with
    | nil=>rfl
    | cons y l=>rw [List.getLast?_cons_cons];cases hh:(y::l).getLast? with
     | none=>simp at hh
     | some z=>rfl
theorem Iz{gw:PF}(O:Mv gw){N:List Str}(hN:N.length=3){S:ac}{R:Rm}{g:Nat}(hl:R.1.length<=100):aO N (lO gw) 2 [aN R,.int (g:Int)] S=some (jC R g,S):=by
 have hst:aA N [aN R,.int (g:Int)]=[some (aN R),some (.int (g:Int)),none]:=by simp [aA,hN,List.replicate]
 rw [bb (show [aN R,D.int (g:Int)].length=2 from rfl),hst]
 have o1:gw [aN R,.tup [.str "rising"]] S=some (nt (rN (fun w=>decide (w∈[Wd.rising])) R.1),S):=O S R [.rising] hl
 have k1:cr ([.str "rising"],S)=some (.tup [.str "rising"],S):=aU (by simp)
 have mm:decide (g∈rN (fun w=>decide (w∈[Wd.rising])) R.1)=decide (R.1[g]?=some .rising):=by
  rw [decide_eq_decide,mem_ixW]
  constructor
  ·rintro⟨w,h1,h2⟩;rw [h1];simpa using h2
  ·intro h;exact⟨.rising,h,by simp⟩
 have ek:ph (ag 2) lM [some (aN R),some (.int (g:Int)),none] (cb R.2,S)=cF (ag 2) lM (R.2.map En.d) [some (aN R),some (.int (g:Int)),none] S:=rfl
 simp only [lO,aQ,bp,aI,aF,aj,bH,bN,bM,oj,ob,ai,aw,aG,ao,am,bg,bi,az,al,k1,bd,o1,av,Tb,mm,aE]
 unfold jC
 by_cases h:R.1[g]?=some .rising
 ·rw [decide_eq_true h,if_pos h];simp
 ·rw [decide_eq_false h,if_neg h]
  simp only [bO,bA,ob,aC,aQ,mR,aF,aj,bH,bN,bM,oj,ai,aw,bi,av,Rm.ix1,ek,vv]
  cases R.2.find? fun e=>decide (e.g=g) with
  | some e=>simp
  | none=>simp
def cD(ws:List Wd)(g:Nat):List Wd:=(ws.zipIdx.filter fun q=>!decide (q.1=.out) && !decide (q.2=g)).map (·.1)
def dI(r:Rl)(R:Rm)(g:Nat):Bool:=
 if R.1[g]?=some .rising then (cD R.1 g).isEmpty else match R.2.find? fun e=>decide (e.g=g) with
 | none=>false
 | some e=>if e.wr then (cD R.1 g).isEmpty else (cD R.1 g).all (fun w=>decide (w=.reads))&&(decide (r.a=0)||decide (((cD R.1 g).length:Int)<r.a))
def ur:ME:=bJ (eX (aa (aq ar (ab 1) (mC (.int 0))) (ah))) (aJ 2 (af (ag 0) (af (ag 1) (aB)))) (dh (ay (aq gk (ab 1) (mC (.str "out")))) (ay (aq gk (ab 0) (ab 2)))) (ab 1) [none,none,some 2]
def Mj:ME:=bJ (da (ab 4)) (ag 0) (bU) (aq bX (ab 0) (mC (.str "reads"))) [none]
def fY(wait:PF):MS:=
 ax (aD (ak 2 wait (aa (ab 1) (aa (ab 2) (ah)))) (ag 3)) (ax (bD (ay (aq vj (ab 3) (mC .non))) (aV (mC (.bl false))) (aY)) (ax (aD ur (ag 4)) (ax (bD (ay (aq gk (ab 3) (mC (.str "read")))) (aV (gH (ab 4))) (aY)) (ax (aD (aq ar (ab 0) (mC (.int 1))) (ag 5)) (aV (du (be (aP yL) (aa Mj (ah))) (ve (aq bX (ab 5) (mC (.int 0))) (aq Oy (be (aP fN) (aa (ab 4) (ah))) (ab 5)))))))))
def qw(wait:PF):Prop:=∀ (S:ac) (R:Rm) (g:Nat),R.1.length<=100->wait [aN R,.int (g:Int)] S=some (jC R g,S)
section
variable{S:ac}{R:Rm}{r:Rl}{g:Nat}
theorem mI{a0 a3 a4 a5:Option D}(hl:R.1.length<=100):ur [a0,some (aN R),some (.int (g:Int)),a3,a4,a5] S=some (.lst ((cD R.1 g).map Wd.d),S):=by
 have k:=NW (S:=S) (t:=dh (ay (aq gk (ab 1) (mC (.str "out")))) (ay (aq gk (ab 0) (ab 2)))) (e:=ab 1) (cap:=[none,none,some 2]) (env:=[a0,some (aN R),some (.int (g:Int)),a3,a4,a5]) (rest:=[some (.int (g:Int))]) (a:=none) (b:=none) (enc:=Wd.d) (p:=fun i w=>!decide (w=.out) && !decide (i=g)) (f:=fun _ w=>w.d) (xs:=R.1) rfl (by omega) (fun i w _=>by
  have e1:gk S w.d (.str "out")=some (.bl (!decide (w=.out))):=uh (b:=.out)
  have c:((i:Int) == (g:Int))=decide (i=g):=by rw [Bool.eq_iff_iff];simp;omega
  simp only [pd,aI,aF,aj,bH,bN,bM,oj,ob,ai,aw,bi,av,e1,aE]
  cases hd:decide (w=.out) with
  | true=>simp
  | false=>simp only [Bool.not_false,pj,aI,aF,aj,bH,bN,bM,oj,ob,ai,aw,av,KZ,c,aE,Bool.true_and]) (fun i w _=>by simp)
 simp only [ur,bY,mS,ao,aF,aj,bH,bN,bM,oj,ob,ai,aw,bi,av,Rm.ix0,am,az,al,Er,k]
 unfold cD
 rw [List.map_map];rfl
theorem uw{α:Type}{p:α->Bool}:∀ l:List α,lz (l.map fun x=>D.bl (p x))=some (l.map p)
 | []=>rfl
 | x::l=>by
  have:=uw (p:=p) l
  rw [List.map_cons,List.map_cons]
  simp only [lz,this];rfl
theorem Mi{l:List Wd}{a0 a1 a2 a3 a5:Option D}(hl:l.length<=100):Mj [a0,a1,a2,a3,some (.lst (l.map Wd.d)),a5] S=some (.lst (l.map fun w=>.bl (decide (w=.reads))),S):=by
 have k:=ft (S:=S) (t:=bU) (e:=aq bX (ab 0) (mC (.str "reads"))) (cap:=[none]) (env:=[a0,a1,a2,a3,some (.lst (l.map Wd.d)),a5]) (rest:=[]) (a:=none) (enc:=Wd.d) (p:=fun _=>true) (f:=fun w=>.bl (decide (w=.reads))) (xs:=l) rfl (by omega) (fun x _=>jE) (fun x _ _=>by
  have e1:bX S x.d (.str "reads")=some (.bl (decide (x=.reads))):=mx (b:=.reads)
  simp only [aF,aj,bH,oj,ob,ai,aw,bi,av,e1])
 rw [List.filter_eq_self.mpr (fun _ _=>rfl)] at k
 simp only [Mj,bY,dm,aj,bH,bN,bM,oj,ob,ai,yw,k]
theorem Pn:(cD R.1 g).length<=R.1.length:=by
 unfold cD;rw [List.length_map];exact Nat.le_trans (List.length_filter_le _ _) (by simp)
theorem HW{wait:PF}(O:qw wait){N:List Str}(hN:N.length=6)(hl:R.1.length<=100):aO N (fY wait) 3 [r.d,aN R,.int (g:Int)] S=some (.bl (dI r R g),S):=by
 have hst:aA N [r.d,aN R,.int (g:Int)]=[some r.d,some (aN R),some (.int (g:Int)),none,none,none]:=by simp [aA,hN,List.replicate]
 rw [bb (show [r.d,aN R,D.int (g:Int)].length=3 from rfl),hst]
 have bl:=Pn (R:=R) (g:=g)
 unfold dI
 have e1:=O S R g hl
 have fa:aP yL [.lst ((cD R.1 g).map fun w=>.bl (decide (w=.reads)))] S=some (.bl ((cD R.1 g).all fun w=>decide (w=.reads)),S):=by
  rw [Lf (uw _)];congr 3;rw [List.all_map];rfl
 have fl:aP fN [.lst ((cD R.1 g).map Wd.d)] S=some (.int ((cD R.1 g).length:Nat),S):=by rw [SX,List.length_map]
 have nb:AX (.lst ((cD R.1 g).map Wd.d),S)=some (.bl (cD R.1 g).isEmpty,S):=by
  rw [NZ];cases cD R.1 g <;> rfl
 unfold jC at e1
 by_cases h:R.1[g]?=some .rising
 ·rw [if_pos h] at e1 ⊢
  have ne:gk S (.str "up") (.str "read")=some (.bl true):=by rw [qo];rfl
  simp only [fY,aQ,bj,aG,ao,aj,bH,bN,bM,oj,ob,ai,am,az,al,bd,e1,bm,aT,eK,eY,bK,aC,bp,aI,aF,aw,bi,av,lF,lY,aE,bO,bA,mI hl,ne,bT,aW,ES,nb,bt,bQ,aH]
 ·rw [if_neg h] at e1 ⊢
  cases hf:R.2.find? fun e=>decide (e.g=g) with
  | none=>
   rw [hf] at e1
   simp only [fY,aQ,bj,aG,ao,aj,bH,bN,bM,oj,ob,ai,am,az,al,bd,e1,bm,aT,eK,eY,bK,aC,bp,aI,aF,aw,bi,av,lF,lY,aE,bT,aW,bt,bQ,aH]
  | some e=>
   rw [hf] at e1
   dsimp only at e1 ⊢
   have ne:gk S (.str (bx e.wr)) (.str "read")=some (.bl e.wr):=by rw [qo,rA,Bool.not_not]
   cases hw:e.wr with
   | true=>
    rw [hw] at e1 ne
    simp only [fY,aQ,bj,aG,ao,aj,bH,bN,bM,oj,ob,ai,am,az,al,bd,e1,bm,aT,eK,eY,bK,aC,bp,aI,aF,aw,bi,av,lF,lY,aE,bO,bA,mI hl,ne,bT,aW,ES,nb,bt,bQ,aH,if_pos]
   | false=>
    rw [hw] at e1 ne
    have e3:(r.a == 0)=decide (r.a=0):=rfl
    simp only [fY,aQ,bj,aG,ao,aj,bH,bN,bM,oj,ob,ai,am,az,al,bd,e1,bm,aT,eK,eY,bK,aC,bp,aI,aF,aw,bi,av,lF,lY,aE,bO,bA,mI hl,ne,aW,oh,bP,Mi (show (cD R.1 g).length<=100 by omega),bR,fa,Rl.ix1,Bool.false_eq_true,if_false]
    cases hA:(cD R.1 g).all fun w=>decide (w=.reads) with
    | false=>simp
    | true=>
     cases hz:decide (r.a=0) with
     | true=>simp [e3,hz]
     | false=>simp [e3,hz,fl,-beq_iff_eq]
end
end MI
namespace MI
open PySem PySem.Spec PyProof.Rows L2 M
def yH:List (bC×D):=[(.inr "rows",.non),(.inr "readers",.str "read"),(.inr "writers",.str "write"),(.inr "turns",.str "write")]
def BU:List (bC×D):=[(.inr "read",.str "reads"),(.inr "write",.str "writes")]
def SR:Rw->D
 | .rows=>.non
 | .readers=>.str "read"
 | _=>.str "write"
def rn(w:Rw)(e:En):Bool:=match w with
 | .rows=>false
 | .readers=>!e.wr
 | _=>e.wr
theorem SQ{S:ac}{w:Rw}(h:w≠.passes):tG yH (.str w.s,S)=some (SR w,S):=by
 cases w <;> first | exact absurd rfl h | simp (decide:=true) [tG,fB,iY,yH,SR,Rw.s]
theorem Iw{S:ac}{b:Bool}:tG BU (.str (bx b),S)=some ((if b then Wd.writes else Wd.reads).d,S):=by
 cases b <;> simp (decide:=true) [tG,fB,iY,BU,bx,Wd.d,Wd.s]
theorem OB{S:ac}{w:Rw}{e:En}:bX S (.str (bx e.wr)) (SR w)=some (.bl (rn w e)):=by
 have h1:bX S (.str (bx e.wr)) (.str "read")=some (.bl (!e.wr)):=by rw [cP,rA]
 have h2:bX S (.str (bx e.wr)) (.str "write")=some (.bl e.wr):=by rw [cP,oE]
 cases w with
 | rows=>exact lv rfl rfl
 | readers=>exact h1
 | _=>exact h2
def jX(w:Rw)(e:En):Bool:=decide (w=.turns)&&decide (e.m=1)
def jH(w:Rw)(es:List En):List Nat:=(es.filter (jX w)).map (·.g)++(es.filter (rn w)).map (·.g)++es.map (·.g)
def nA:Option Nat->D
 | none=>.non
 | some g=>.int (g:Int)
def uc:ME:=bJ (da (ab 1)) (ag 0) (dh (ay (aq bX (ab 1) (mC (.str "turns")))) (ay (aq bX (aq ar (ab 0) (mC (.int 2))) (mC (.int 1))))) (aq ar (ab 0) (mC (.int 0))) [none,some 0]
def KO:ME:=bJ (da (ab 1)) (ag 0) (ay (aq bX (aq ar (ab 0) (mC (.int 1))) (dC yH (ab 1)))) (aq ar (ab 0) (mC (.int 0))) [none,some 0]
def KQ:ME:=bJ (da (ab 1)) (ag 0) (bU) (aq ar (ab 0) (mC (.int 0))) [none]
def kY:MS:=ax (aD uc (ag 2)) (ax (aD KO (ag 3)) (ax (aD (aq aR (aq aR (ab 2) (ab 3)) KQ) (ag 4)) (aV (lJ (cW (ab 4)) (aq ar (ab 4) (mC (.int 0))) (mC .non)))))
section
variable{S:ac}{es:List En}{w:Rw}{r:Rl}{R:Rm}
theorem CF{l:List En}:D.lst (l.map fun e=>.int (e.g:Int))=nl (l.map (·.g)):=by unfold nl;rw [List.map_map];rfl
theorem Br{a2 a3 a4:Option D}(hl:es.length<=100):uc [some (.str w.s),some (cb es),a2,a3,a4] S=some (nl ((es.filter (jX w)).map (·.g)),S):=by
 have hw:(w.s == ("turns":Str))=decide (w=.turns):=Rw.eq w .turns
 have k:=ft (S:=S) (t:=dh (ay (aq bX (ab 1) (mC (.str "turns")))) (ay (aq bX (aq ar (ab 0) (mC (.int 2))) (mC (.int 1))))) (e:=aq ar (ab 0) (mC (.int 0))) (cap:=[none,some 0]) (env:=[some (.str w.s),some (cb es),a2,a3,a4]) (rest:=[some (.str w.s)]) (a:=none) (enc:=En.d) (p:=jX w) (f:=fun e=>.int (e.g:Int)) (xs:=es) rfl (by omega) (fun x _=>by
  unfold jX
  cases h:decide (w=.turns) with
  | true=>simp [En.ix2,-beq_iff_eq,hw,h];rfl
  | false=>simp [-beq_iff_eq,hw,h]) (fun x _ _=>by simp [En.ix0])
 simp only [uc,bY,dm,aj,bH,bN,bM,oj,ob,ai,eg,k,CF]
theorem KN{a2 a3 a4:Option D}(hw:w≠.passes)(hl:es.length<=100):KO [some (.str w.s),some (cb es),a2,a3,a4] S=some (nl ((es.filter (rn w)).map (·.g)),S):=by
 have k:=ft (S:=S) (t:=ay (aq bX (aq ar (ab 0) (mC (.int 1))) (dC yH (ab 1)))) (e:=aq ar (ab 0) (mC (.int 0))) (cap:=[none,some 0]) (env:=[some (.str w.s),some (cb es),a2,a3,a4]) (rest:=[some (.str w.s)]) (a:=none) (enc:=En.d) (p:=rn w) (f:=fun e=>.int (e.g:Int)) (xs:=es) rfl (by omega) (fun x _=>by
  simp only [aI,aF,aj,bH,bN,bM,oj,ob,ai,aw,bi,av,En.ix1,tj,SQ hw,OB,aE]) (fun x _ _=>by simp [En.ix0])
 simp only [KO,bY,dm,aj,bH,bN,bM,oj,ob,ai,eg,k,CF]
theorem KP{a0 a2 a3 a4:Option D}(hl:es.length<=100):KQ [a0,some (cb es),a2,a3,a4] S=some (nl (es.map (·.g)),S):=by
 have k:=gsC (S:=S) (es:=es) (b:=none) (cap:=[none]) (env:=[a0,some (cb es),a2,a3,a4]) rfl hl
 simp only [KQ,bY,dm,aj,bH,bN,bM,oj,ob,ai,eg,k,CF]
theorem JL{a b:List Nat}(h:a.length+b.length<=1000):aR S (nl a) (nl b)=some (nl (a++b)):=by
 unfold nl;rw [DB (by simp;omega),<- List.map_append]
theorem yG{N:List Str}(hN:N.length=5)(hw:w≠.passes)(hl:es.length<=100):aO N kY 2 [.str w.s,cb es] S=some (nA (jH w es).head?,S):=by
 have hst:aA N [.str w.s,cb es]=[some (.str w.s),some (cb es),none,none,none]:=by simp [aA,hN,List.replicate]
 rw [bb (show [D.str w.s,cb es].length=2 from rfl),hst]
 have l1:=List.length_filter_le (jX w) es
 have l2:=List.length_filter_le (rn w) es
 have a1:aR S (nl ((es.filter (jX w)).map (·.g))) (nl ((es.filter (rn w)).map (·.g)))=some (nl ((es.filter (jX w)).map (·.g)++(es.filter (rn w)).map (·.g))):=JL (by simp;omega)
 have a2:aR S (nl ((es.filter (jX w)).map (·.g)++(es.filter (rn w)).map (·.g))) (nl (es.map (·.g)))=some (nl (jH w es)):=JL (by simp;omega)
 have tr:yu (nl (jH w es),S)=some (!decide (jH w es=[]),S):=by
  cases jH w es <;> rfl
 simp only [kY,aQ,bj,Br hl,KN hw hl,ob,bm,aT,eK,eY,bK,aC,aF,aj,bH,bN,bM,oj,ai,aw,av,a1,KP hl,a2,aW,lE,dB,tr]
 cases hf:jH w es with
 | nil=>simp [nA]
 | cons g l=>simp [nA,rJ]
def lS(r:Rl)(R:Rm):List En->Option Nat
 | []=>none
 | e::l=>if dI r R e.g then some e.g else if r.b<=e.m then none else lS r R l
def qA(r:Rl)(R:Rm):Option Nat:=if r.w=.passes then lS r R R.2 else match (jH r.w R.2).head? with
 | none=>none
 | some g=>if dI r R g then some g else none
def ny(cg:PF):Prop:=(∀ (S:ac) (r:Rl) (R:Rm) (g:Nat),R.1.length<=100->cg [r.d,aN R,.int (g:Int)] S=some (.bl (dI r R g),S))/\(∀ (S:ac) (r:Rl) (ws:List Wd),ws.length<=100->cg [r.d,aN (ws,[]),.non] S=some (.bl false,S))
def sI(cg:PF):MS:=ax (bD (cW (ak 3 cg (aa (ab 0) (aa (ab 1) (aa (ab 2) (ah)))))) (aV (ab 2)) (aY)) (bD (ay (aq fGe (ab 4) (aq ar (ab 0) (mC (.int 2))))) (aV (mC .non)) (aY))
def GA:MG:=aJ 4 (af (ag 2) (af (ag 3) (af (ag 4) (af (ag 5) (aB)))))
def kW(cg:PF):MS:=ax (ee (aq ar (ab 1) (mC (.int 1))) GA (sI cg)) (aV (mC .non))
theorem NO{e:En}{a0 a1 a2 a3 a4 a5:Option D}:GA e.d [a0,a1,a2,a3,a4,a5] S=some ([a0,a1,some (.int (e.g:Int)),some (.str (bx e.wr)),some (.int e.m),some (bF e.t)],S):=by
 have g4:GA e.d [a0,a1,a2,a3,a4,a5] S=(af (ag 2) (af (ag 3) (af (ag 4) (af (ag 5) (aB))))) [.int (e.g:Nat),.str (bx e.wr),.int e.m,bF e.t] [a0,a1,a2,a3,a4,a5] S:=rP
 rw [g4]
 simp only [bo,aT,ob,cH,bG,eK,eY]
def npEnd:Option Nat->Option D->Option D->Option D->Option D->Option D->Option D->ac->oC->Prop
 | some g,_,_,_,_,_,_,S,o=>o=.rt (.int (g:Int)) S
 | none,a0,a1,_,_,_,_,S,o=>o=.rt .non S\/∃ b2 b3 b4 b5,o=.nx [a0,a1,b2,b3,b4,b5] S
theorem vL{cg:PF}(O:ny cg)(hl:R.1.length<=100):∀ (es:List En) (a2 a3 a4 a5:Option D),∃ o,cF GA (sI cg) (es.map En.d) [some r.d,some (aN R),a2,a3,a4,a5] S=some o/\npEnd (lS r R es) (some r.d) (some (aN R)) a2 a3 a4 a5 S o
 | [],a2,a3,a4,a5=>⟨.nx [some r.d,some (aN R),a2,a3,a4,a5] S,by simp,.inr ⟨_,_,_,_,rfl⟩⟩
 | e::l,a2,a3,a4,a5=>by
  obtain⟨o,ih,q⟩:=vL O hl l (some (.int (e.g:Int))) (some (.str (bx e.wr))) (some (.int e.m)) (some (bF e.t))
  have c1:=O.1 S r R e.g hl
  rw [List.map_cons,dE,NO,ob,lm]
  simp only [sI,aQ,bp,dB,aG,ao,aj,bH,bN,bM,oj,ob,ai,am,az,al,bE,c1,fv]
  unfold lS
  cases hc:dI r R e.g with
  | true=>exact⟨.rt (.int (e.g:Int)) S,by simp,rfl⟩
  | false=>
   rw [if_neg (by decide)]
   by_cases hb:r.b<=e.m
   ·rw [if_pos hb]
    refine⟨.rt .non S,?_,.inl rfl⟩
    simp [Rl.ix2,hb]
   ·rw [if_neg hb]
    refine⟨o,?_,?_⟩
    ·have:¬ (e.m≥r.b):=hb
     simp [Rl.ix2,this,-ge_iff_le]
     exact ih
    ·cases hp:lS r R l with
     | none=>rw [hp] at q;exact q
     | some g=>rw [hp] at q;exact q
theorem xQ{cg:PF}(O:ny cg){N:List Str}(hN:N.length=6)(hl:R.1.length<=100):aO N (kW cg) 2 [r.d,aN R] S=some (nA (lS r R R.2),S):=by
 have hst:aA N [r.d,aN R]=[some r.d,some (aN R),none,none,none,none]:=by simp [aA,hN,List.replicate]
 rw [bb (show [r.d,aN R].length=2 from rfl),hst]
 obtain⟨o,e,q⟩:=vL (S:=S) (r:=r) O hl R.2 none none none none
 have ek:ph GA (sI cg) [some r.d,some (aN R),none,none,none,none] (cb R.2,S)=cF GA (sI cg) (R.2.map En.d) [some r.d,some (aN R),none,none,none,none] S:=rfl
 simp only [kW,aQ,mR,aF,aj,bH,bN,bM,oj,ob,ai,aw,bi,av,Rm.ix1,ek,e]
 cases hp:lS r R R.2 with
 | none=>
  rw [hp] at q
  rcases q with rfl | ⟨b2,b3,b4,b5,rfl⟩ <;> simp [nA]
 | some g=>
  rw [hp] at q
  have q:o=.rt (.int (g:Int)) S:=q
  subst q;simp [nA]
def nX(np fm cg:PF):MS:=ax (bD (ay (aq bX (aq ar (ab 0) (mC (.int 0))) (mC (.str "passes")))) (aV (ak 2 np (aa (ab 0) (aa (ab 1) (ah))))) (aY)) (ax (aD (ak 2 fm (aa (aq ar (ab 0) (mC (.int 0))) (aa (aq ar (ab 1) (mC (.int 1))) (ah)))) (ag 2)) (aV (lJ (cW (ak 3 cg (aa (ab 0) (aa (ab 1) (aa (ab 2) (ah)))))) (ab 2) (mC .non))))
theorem Hk(h:(jH w es).head?=none):es=[]:=by
 have:jH w es=[]:=by simpa using h
 unfold jH at this
 rw [List.append_eq_nil_iff] at this
 simpa using this.2
theorem CH{np fm cg:PF}(hp:∀ (S:ac) (r:Rl) (R:Rm),R.1.length<=100->np [r.d,aN R] S=some (nA (lS r R R.2),S))(hf:∀ (S:ac) (w:Rw) (es:List En),w≠.passes->es.length<=100->fm [.str w.s,cb es] S=some (nA (jH w es).head?,S))(hc:ny cg)
  {N:List Str} (hN:N.length=3) (hl:R.1.length<=100) (hl2:R.2.length<=100):aO N (nX np fm cg) 2 [r.d,aN R] S=some (nA (qA r R),S):=by
 have hst:aA N [r.d,aN R]=[some r.d,some (aN R),none]:=by simp [aA,hN,List.replicate]
 rw [bb (show [r.d,aN R].length=2 from rfl),hst]
 have w3:(r.w.s == ("passes":Str))=decide (r.w=.passes):=Rw.eq r.w .passes
 unfold qA
 simp only [nX,aQ,bp,aI,aF,aj,bH,bN,bM,oj,ob,ai,aw,bi,av,Rl.ix0,cP,w3,aE]
 by_cases hw:r.w=.passes
 ·rw [decide_eq_true hw,if_pos hw]
  simp only [bT,aW,aG,ao,aj,bH,bN,bM,oj,ob,ai,am,az,al,bd,hp S r R hl,bt,bQ,aH]
 ·rw [decide_eq_false hw,if_neg hw]
  have f1:=hf S r.w R.2 hw hl2
  simp only [bO,bA,ob,aC,aQ,bj,aG,ao,aF,aj,bH,bN,bM,oj,ai,aw,bi,av,Rl.ix0,Rm.ix1,am,az,al,bd,f1,bm,aT,eK,eY,bK,aW,lE,dB,bE]
  cases hh:(jH r.w R.2).head? with
  | none=>
   obtain⟨ws,es⟩:=R
   have:es=[]:=Hk hh
   subst this
   have c2:=hc.2 S r ws hl
   simp only [nA,c2,ob,fv]
   simp
  | some g=>
   have c1:=hc.1 S r R g hl
   simp only [nA,c1,ob,fv]
   cases dI r R g <;> simp [nA]
end
end MI
namespace MI
open PySem PySem.Spec PyProof.Rows L2 M
section
variable{ws:List Wd}{es:List En}{r:Rl}{R:Rm}{g:Nat}
def Im(ws:List Wd):List Wd:=ws.filter fun w=>!decide (w=.out)
theorem BS{α:Type}{p:α->Bool}:∀ (xs:List α) (k:Nat),((xs.zipIdx k).filter fun q=>p q.1).map (·.1)=xs.filter p
 | [],_=>rfl
 | x::l,k=>by
  rw [List.zipIdx_cons,List.filter_cons,List.filter_cons]
  have ih:=BS (p:=p) l (k+1)
  split
  ·rw [List.map_cons,ih]
  ·exact ih
theorem Eg(h:ws[g]?=some .out):cD ws g=Im ws:=by
 unfold cD Im
 rw [<- BS ws 0]
 congr 1
 apply List.filter_congr
 intro q hq
 have hq':ws[q.2]?=some q.1:=mem_zi.mp (show (q.1,q.2)∈ws.zipIdx from hq)
 by_cases hg:q.2=g
 ·rw [hg,h] at hq'
  have:=Option.some.inj hq'
  simp [<- this]
 ·simp [hg]
theorem besK{p:Wd->Bool}:∀ (ws:List Wd) (k g:Nat) (w:Wd),ws[g]?=some w->p w=true->((ws.zipIdx k).filter fun q=>p q.1 && !decide (q.2=k+g)).length+1=(ws.filter p).length
 | [],k,g,w,h,_=>by simp at h
 | x::l,k,0,w,h,hp=>by
  simp at h;subst h
  rw [List.zipIdx_cons,List.filter_cons,List.filter_cons,if_pos hp,List.length_cons,<- BS l (k+1),List.length_map]
  simp only [hp,Nat.add_zero,decide_true,Bool.not_true,Bool.and_false,Bool.false_eq_true,if_false]
  congr 2
  apply List.filter_congr
  intro q hq
  have:k+1<=q.2:=(List.mem_zipIdx hq).1
  have hne:q.2≠k:=by omega
  simp [hne]
 | x::l,k,g+1,w,h,hp=>by
  have ih:=besK (p:=p) l (k+1) g w (by simpa using h) hp
  have e:k+(g+1)=(k+1)+g:=by omega
  rw [e,List.zipIdx_cons,List.filter_cons,List.filter_cons]
  have hne:¬ (k=k+1+g):=by omega
  cases hx:p x with
  | false=>simp only [hx,Bool.false_and,Bool.false_eq_true,if_false];exact ih
  | true=>simp only [hx,hne,decide_false,Bool.not_false,Bool.and_self,if_true,List.length_cons];omega
theorem yE:(Im ws).length+ws.count .out=ws.length:=by
 unfold Im
 have:=List.length_eq_countP_add_countP (fun w:Wd=>w == .out) (l:=ws)
 rw [List.count,this,List.countP_eq_length_filter,Nat.add_comm]
 congr 1
 rw [List.countP_eq_length_filter]
 congr 1
 apply List.filter_congr
 intro w _
 cases w <;> rfl
theorem Mr(h:ws[g]?=some .rising):(cD ws g).isEmpty=decide (ws.count .out+1=ws.length):=by
 have k:=besK (p:=fun w=>!decide (w=.out)) ws 0 g .rising h rfl
 have l:=yE (ws:=ws)
 unfold Im at l
 unfold cD
 simp only [Nat.zero_add] at k
 rw [Bool.eq_iff_iff,decide_eq_true_eq,List.isEmpty_iff,List.map_eq_nil_iff]
 constructor
 ·intro e;rw [e] at k;simp only [List.length_nil] at k;omega
 ·intro e;apply List.eq_nil_of_length_eq_zero;omega
theorem cnt5:∀ ws:List Wd,ws.count .out+ws.count .reads+ws.count .rising+ws.count .writes+ws.count .raised=ws.length
 | []=>rfl
 | w::l=>by
  have:=cnt5 l
  cases w <;> simp [List.count_cons] <;> omega
theorem Hh:(Im ws).all (fun w=>decide (w=.reads))=decide (ws.count .out+ws.count .reads=ws.length):=by
 have l:=yE (ws:=ws)
 have c:(Im ws).countP (fun w=>decide (w=.reads))=ws.count .reads:=by
  unfold Im
  rw [List.countP_filter,List.count]
  congr 1
  funext w;cases w <;> rfl
 have d:=List.countP_le_length (p:=fun w:Wd=>decide (w=.reads)) (l:=Im ws)
 rw [Bool.eq_iff_iff,decide_eq_true_eq,List.all_eq_true]
 have e:=List.countP_eq_length (p:=fun w:Wd=>decide (w=.reads)) (l:=Im ws)
 constructor
 ·intro h;have:=e.mpr h;omega
 ·intro h;exact e.mp (by omega)
theorem Ot(h:ROk R){e:En}(he:e∈R.2):(R.2.find? fun x=>decide (x.g=e.g))=some e:=by
 have hn:=h.nd
 generalize R.2=es at hn he
 induction es with
 | nil=>cases he
 | cons x l ih=>
  rw [List.map_cons,List.nodup_cons] at hn
  rw [List.find?_cons]
  rcases List.mem_cons.mp he with rfl | he
  ·simp
  ·have:x.g≠e.g:=fun z=>hn.1 (by rw [z];exact List.mem_map.mpr ⟨e,he,rfl⟩)
   simp only [this,decide_false]
   exact ih hn.2 he
theorem Sb(h:ROk R){e:En}(he:e∈R.2):dI r R e.g=qe r R.1 e.wr:=by
 have ho:=h.out e he
 unfold dI qe
 rw [ho,if_neg (by simp),Ot h he,Eg ho]
 have c:=cnt5 R.1
 have l:=yE (ws:=R.1)
 dsimp only
 cases hw:e.wr with
 | true=>
  simp only [if_true]
  by_cases h1:R.1.count .reads+R.1.count .rising+R.1.count .out<R.1.length
  ·rw [if_pos h1]
   cases hi:Im R.1 with
   | nil=>rw [hi] at l;simp at l;omega
   | cons _ _=>rfl
  ·rw [if_neg h1]
   rw [Bool.eq_iff_iff,List.isEmpty_iff,decide_eq_true_eq]
   constructor
   ·intro hi;rw [hi] at l;simp at l;omega
   ·intro hi;apply List.eq_nil_of_length_eq_zero;omega
 | false=>
  simp only [Bool.false_eq_true,if_false,Hh]
  by_cases h1:R.1.count .reads+R.1.count .rising+R.1.count .out<R.1.length
  ·rw [if_pos h1,decide_eq_false (by omega)];rfl
  ·rw [if_neg h1]
   by_cases h2:R.1.count .rising=0
   ·have:(Im R.1).length=R.1.count .reads+R.1.count .rising:=by omega
    rw [this,decide_eq_true (by omega),decide_eq_true h2]
   ·rw [decide_eq_false (by omega),decide_eq_false h2];rfl
theorem wc{p:Wd->Bool}:∀ (ws:List Wd) (k:Nat),((ws.zipIdx k).filter fun q=>p q.1).map (·.2)=(List.range' k ws.length).filter fun i=>match ws[i - k]? with | some w=>p w | none=>false
 | [],k=>rfl
 | w::l,k=>by
  have ih:=wc (p:=p) l (k+1)
  rw [List.zipIdx_cons,List.length_cons,List.range'_succ,List.filter_cons,List.filter_cons]
  have e:(List.range' (k+1) l.length).filter (fun i=>match (w::l)[i - k]? with | some w=>p w | none=>false)=(List.range' (k+1) l.length).filter fun i=>match l[i - (k+1)]? with | some w=>p w | none=>false:=by
   apply List.filter_congr
   intro i hi
   have:k+1<=i:=(List.mem_range'_1.mp hi).1
   rw [show i - k=(i - (k+1))+1 by omega,List.getElem?_cons_succ]
  simp only [Nat.sub_self,List.getElem?_cons_zero]
  cases hp:p w with
  | true=>rw [if_pos rfl,if_pos rfl,List.map_cons,ih,e]
  | false=>rw [if_neg (by decide),if_neg (by decide),ih,e]
theorem ue{α:Type}{p q:α->Bool}:∀ {l:List α},(∀ x∈l,p x=q x)->l.find? p=l.find? q
 | [],_=>rfl
 | x::l,h=>by rw [List.find?_cons,List.find?_cons,h x List.mem_cons_self,ue fun y hy=>h y (List.mem_cons_of_mem _ hy)]
theorem Gm:(rN (fun w=>decide (w=.rising)) R.1).find? (dI r R)=(mK R.1).head?:=by
 have e:rN (fun w=>decide (w=.rising)) R.1=(List.range R.1.length).filter fun i=>match R.1[i]? with | some w=>decide (w=.rising) | none=>false:=by
  have k:=wc (p:=fun w=>decide (w=.rising)) R.1 0
  rw [List.range_eq_range']
  exact k
 rw [e,List.find?_filter]
 unfold mK
 rw [List.head?_filter]
 apply ue
 intro i hi
 by_cases h:R.1[i]?=some .rising
 ·rw [h]
  have:dI r R i=(cD R.1 i).isEmpty:=by unfold dI;rw [if_pos h]
  simp only [decide_true,Bool.true_and]
  rw [this,Mr h]
  simp
 ·rw [decide_eq_false h,Bool.false_and]
  cases hw:R.1[i]? with
  | none=>rfl
  | some w=>
   have:¬ (w=.rising):=fun z=>h (by rw [hw,z])
   simp [this]
theorem Bb{p:En->Bool}:∀ (es:List En) (k:Nat),(((es.zipIdx k).filter fun q=>p q.1).map (·.2)).head?=(es.findIdx? p).map (· + k)
 | [],_=>rfl
 | e::l,k=>by
  have ih:=Bb (p:=p) l (k+1)
  rw [List.zipIdx_cons,List.filter_cons,List.findIdx?_cons]
  cases hp:p e with
  | true=>simp
  | false=>
   simp only [Bool.false_eq_true,if_false]
   rw [ih]
   cases l.findIdx? p with
   | none=>rfl
   | some i=>simp;omega
theorem je{p:En->Bool}{es:List En}:(zl p es).head?=es.findIdx? p:=by
 unfold zl;rw [Bb];simp
theorem wA{p:En->Bool}:∀ es:List En,((es.filter p).map (·.g)).head?=(es.findIdx? p).bind fun i=>es[i]?.map (·.g)
 | []=>rfl
 | e::l=>by
  have ih:=wA (p:=p) l
  rw [List.filter_cons,List.findIdx?_cons]
  cases hp:p e with
  | true=>simp
  | false=>
   simp only [Bool.false_eq_true,if_false]
   rw [ih]
   cases l.findIdx? p with
   | none=>rfl
   | some i=>simp
theorem rO{a b:List Nat}:(ND a b).head?=a.head?.or b.head?:=by
 unfold ND;cases a <;> simp
theorem Bd{a b:List Nat}:(a++b).head?=a.head?.or b.head?:=by cases a <;> simp
theorem mV{l:List Nat}:(l.take 1).head?=l.head?:=by cases l <;> simp
theorem jS{p q:En->Bool}(hpq:∀ e,p e = !q e){es:List En}(h:es.findIdx? p=none):es.findIdx? q=(if es=[] then none else some 0):=by
 cases es with
 | nil=>rfl
 | cons e l=>
  rw [List.findIdx?_eq_none_iff] at h
  have:=h e List.mem_cons_self
  rw [hpq] at this
  have hq:q e=true:=by simpa using this
  rw [List.findIdx?_cons,hq];simp
def zm(es:List En)(o:Option Nat):Option Nat:=o.bind fun i=>es[i]?.map (·.g)
theorem Ms:(es.map (·.g)).head?=zm es (if es=[] then none else some 0):=by cases es <;> simp [zm]
theorem Fj{p:En->Bool}{i:Nat}(h:es.findIdx? p=some i):i<es.length:=(List.findIdx?_eq_some_iff_getElem.mp h).1
theorem Oq(hw:r.w≠.passes):(jH r.w es).head?=zm es (Bn r es).head?:=by
 have f0:∀ p,((es.filter p).map (·.g)).head?=zm es (es.findIdx? p):=fun p=>wA es
 have ff:es.findIdx? (fun _=>false)=none:=by rw [List.findIdx?_eq_none_iff];intros;rfl
 unfold jH Bn
 rw [Bd,Bd,f0,f0,Ms]
 cases hr:r.w with
 | passes=>exact absurd hr hw
 | rows=>
  have e1:jX .rows=fun _=>false:=rfl
  have e2:rn .rows=fun _=>false:=rfl
  rw [e1,e2,ff,mV]
  cases es <;> simp [zm,List.range_succ_eq_map]
 | readers=>
  have e1:jX .readers=fun _=>false:=rfl
  have e2:rn .readers=fun e=>!e.wr:=rfl
  dsimp only
  rw [e1,e2,ff,mV,rO,je,je]
  show (zm es _).or _=_
  cases hf:es.findIdx? fun e=>!e.wr with
  | none=>rw [jS (q:=fun e=>e.wr) (fun _=>rfl) hf];rfl
  | some i=>have:=Fj hf;simp [zm,List.getElem?_eq_getElem this]
 | writers=>
  have e1:jX .writers=fun _=>false:=rfl
  have e2:rn .writers=fun e=>e.wr:=rfl
  dsimp only
  rw [e1,e2,ff,mV,rO,je,je]
  show (zm es _).or _=_
  cases hf:es.findIdx? fun e=>e.wr with
  | none=>rw [jS (q:=fun e=>!e.wr) (fun e=>by simp) hf];rfl
  | some i=>have:=Fj hf;simp [zm,List.getElem?_eq_getElem this]
 | turns=>
  have e1:jX .turns=fun e=>decide (e.m=1):=by funext e;simp [jX]
  have e2:rn .turns=fun e=>e.wr:=rfl
  dsimp only
  rw [e1,e2,mV,rO,rO,je,je,je]
  cases hm:es.findIdx? fun e=>decide (e.m=1) with
  | some i=>have:=Fj hm;simp [zm,List.getElem?_eq_getElem this]
  | none=>
   show (zm es _).or _=_
   cases hf:es.findIdx? fun e=>e.wr with
   | none=>rw [jS (q:=fun e=>!e.wr) (fun e=>by simp) hf];rfl
   | some i=>have:=Fj hf;simp [zm,List.getElem?_eq_getElem this]
theorem maxL_le{b:Int}{l:List Int}:jL (0::l)<=b↔0<=b/\∀ x∈l,x<=b:=by
 obtain⟨h1,h2⟩:=pY (ns:=0::l) (by simp)
 constructor
 ·intro h
  exact⟨Int.le_trans (h2 0 List.mem_cons_self) h,fun x hx=>Int.le_trans (h2 x (List.mem_cons_of_mem _ hx)) h⟩
 ·intro⟨h0,h⟩
  rcases List.mem_cons.mp h1 with e | e
  ·rw [e];exact h0
  ·exact h _ e
def zS(r:Rl)(ws:List Wd)(es:List En)(i:Nat):Bool:=(match es[i]? with | some e=>qe r ws e.wr | none=>false)&&decide (jL (0::(es.take i).map fun e=>e.m+1)<=r.b)
theorem vJ(hb:0<=r.b)(hc:∀ e∈es,dI r R e.g=qe r R.1 e.wr):∀ (l p:List En),es=p++l->(∀ e∈p,e.m+1<=r.b)->lS r R l=zm es ((List.range' p.length l.length).find? (zS r R.1 es))
 | [],p,_,_=>by simp [lS,zm]
 | e::l,p,he,hp=>by
  have ei:es[p.length]?=some e:=by rw [he];simp
  have et:es.take p.length=p:=by rw [he];simp
  have hm:e∈es:=by rw [he];simp
  have q0:zS r R.1 es p.length=qe r R.1 e.wr:=by
   unfold zS
   rw [ei,et]
   have:jL (0::p.map fun e=>e.m+1)<=r.b:=maxL_le.mpr ⟨hb,fun x hx=>by obtain⟨y,hy,rfl⟩:=List.mem_map.mp hx;exact hp y hy⟩
   simp [this]
  rw [List.length_cons,List.range'_succ,List.find?_cons,q0]
  unfold lS
  rw [hc e hm]
  cases hl:qe r R.1 e.wr with
  | true=>simp [zm,ei]
  | false=>
   rw [if_neg (by decide)]
   by_cases hbm:r.b<=e.m
   ·rw [if_pos hbm]
    have:(List.range' (p.length+1) l.length).find? (zS r R.1 es)=none:=by
     rw [List.find?_eq_none]
     intro i hi
     have h1:=(List.mem_range'_1.mp hi).1
     have:¬ (jL (0::(es.take i).map fun e=>e.m+1)<=r.b):=fun z=>by
      have:=(maxL_le.mp z).2 (e.m+1) (List.mem_map.mpr ⟨e,?_,rfl⟩)
      ·omega
      ·rw [List.mem_take_iff_getElem]
       refine⟨p.length,?_,?_⟩
       ·have:=(List.getElem?_eq_some_iff.mp ei).1;omega
       ·exact(List.getElem?_eq_some_iff.mp ei).2
     unfold zS;rw [decide_eq_false this,Bool.and_false];decide
    rw [this];rfl
   ·rw [if_neg hbm]
    have ih:=vJ hb hc l (p++[e]) (by rw [he];simp) (fun x hx=>by
     rcases List.mem_append.mp hx with hx | hx
     ·exact hp x hx
     ·have:x=e:=by simpa using hx
      rw [this];omega)
    rw [ih];simp
theorem Op(hw:r.w≠.passes):(Bn r es).length<=1:=by
 unfold Bn
 cases hr:r.w <;> first | exact absurd hr hw | (simp only [List.length_take];omega)
theorem NP(h:ROk R)(hb:0<=r.b):qA r R=zm R.2 (lB r R.1 R.2).head?:=by
 have hc:∀ e∈R.2,dI r R e.g=qe r R.1 e.wr:=fun e he=>Sb h he
 unfold qA
 by_cases hw:r.w=.passes
 ·rw [if_pos hw,vJ hb hc R.2 [] rfl (fun _ z=>by cases z)]
  congr 1
  unfold lB Bn
  rw [hw]
  dsimp only
  rw [List.filter_filter,List.head?_filter,List.length_nil,<- List.range_eq_range']
  rfl
 ·rw [if_neg hw,Oq hw]
  have h1:=Op (es:=R.2) hw
  unfold lB
  cases hf:Bn r R.2 with
  | nil=>rfl
  | cons i l=>
   rw [hf] at h1
   have:l=[]:=by cases l with | nil=>rfl | cons _ _=>simp at h1
   subst this
   have hi:i<R.2.length:=qj (r:=r) (by rw [hf];exact List.mem_cons_self)
   have ei:R.2[i]?=some R.2[i]:=List.getElem?_eq_getElem hi
   have:=hc R.2[i] (List.getElem_mem hi)
   simp only [List.head?_cons,zm,Option.bind_some,ei,Option.map_some,List.filter_cons,this]
   cases qe r R.1 (R.2[i]).wr <;> simp [ei]
def nS(r:Rl)(R:Rm):Option Ev:=match (rN (fun w=>decide (w=.rising)) R.1).find? (dI r R) with
 | some g=>some ⟨"steps",g⟩
 | none=>(qA r R).map fun g=>⟨"in",g⟩
inductive Em(r:Rl)(R:Rm):Option Ev->Rm->List Ev->Prop
 | up (g:Nat) (h:R.1[g]?=some .rising):Em r R (some ⟨"steps",g⟩) (R.1.set g .raised,R.2) [⟨"steps",g⟩]
 | go (i:Nat) (e:En) (h:R.2[i]?=some e):Em r R (some ⟨"in",e.g⟩) (rm r R i e) [⟨"in",e.g⟩]
 | no:Em r R none R []
theorem wH(h:ROk R)(hb:0<=r.b):Em r R (nS r R) (lL r R).1 (lL r R).2:=by
 unfold nS lL
 rw [Gm,NP h hb]
 cases ha:mK R.1 with
 | cons g l=>exact .up g (oA (by rw [ha];exact List.mem_cons_self))
 | nil=>
  dsimp only [List.head?_nil]
  cases hs:lB r R.1 R.2 with
  | nil=>exact .no
  | cons i l=>
   have hi:i<R.2.length:=qj (r:=r) (List.mem_filter.mp (show i∈lB r R.1 R.2 by rw [hs];exact List.mem_cons_self)).1
   have ei:R.2[i]?=some R.2[i]:=List.getElem?_eq_getElem hi
   simp only [List.head?_cons,zm,Option.bind_some,ei,Option.map_some]
   exact .go i _ ei
def RS(R:Rm):Nat:=R.2.length+R.1.count .rising
theorem kJ{a b:Wd}:∀ {ws:List Wd} {i:Nat},ws[i]?=some a->a≠b->∀ c,(ws.set i b).count c+(if a=c then 1 else 0)=ws.count c+(if b=c then 1 else 0)
 | [],i,h,_,c=>by simp at h
 | w::l,0,h,hn,c=>by
  simp at h;subst h
  rw [List.set_cons_zero,List.count_cons,List.count_cons]
  by_cases h1:w=c <;> by_cases h2:b=c <;> simp [h1,h2] <;> omega
 | w::l,i+1,h,hn,c=>by
  have:=kJ (i:=i) (ws:=l) (by simpa using h) hn c
  rw [List.set_cons_succ,List.count_cons,List.count_cons]
  omega
theorem FY{o:Option Ev}{R':Rm}{l:List Ev}(h:ROk R)(s:Em r R o R' l):(o=none/\R'=R/\l=[])\/(∃ v,o=some v/\l=[v]/\RS R'+1=RS R):=by
 cases s with
 | no=>exact .inl ⟨rfl,rfl,rfl⟩
 | up g hg=>
  refine .inr ⟨_,rfl,rfl,?_⟩
  have:=kJ (b:=.raised) hg (by decide) .rising
  simp only [RS]
  simp at this
  omega
 | go i e hi=>
  refine .inr ⟨_,rfl,rfl,?_⟩
  have ho:=h.out e (List.mem_of_getElem? hi)
  have hl:=(List.getElem?_eq_some_iff.mp hi).1
  have hc:(R.1.set e.g (if e.wr then .writes else .reads)).count .rising=R.1.count .rising:=by
   cases e.wr with
   | true=>have:=kJ (b:=.writes) ho (by decide) .rising;simpa using this
   | false=>have:=kJ (b:=.reads) ho (by decide) .rising;simpa using this
  simp only [RS,rm,hc,List.length_append,List.length_map,List.length_take,List.length_drop]
  omega
theorem RR(h:ROk R):RS R<=2 * R.1.length:=by
 have:=h.len
 have:=List.count_le_length (a:=Wd.rising) (l:=R.1)
 unfold RS;omega
theorem zB(h:nS r R=none)(hk:ROk R)(hb:0<=r.b):∀ n,se r n R=(R,[])
 | 0=>rfl
 | n+1=>by
  have s:=wH hk hb
  rw [h] at s
  have e:lL r R=(R,[]):=by
   generalize hq:lL r R=q at s
   obtain⟨a,b⟩:=q
   dsimp only at s
   cases s;rfl
  show ((se r n (lL r R).1).1,(lL r R).2++(se r n (lL r R).1).2)=_
  rw [e,zB h hk hb n];rfl
end
end MI
namespace MI
open PySem PySem.Spec PyProof.Rows L2 M
section
variable{S:ac}{ws:List Wd}{es:List En}{r:Rl}{R:Rm}{g:Nat}
theorem OA{l:List Nat}:oB S .non (nt l)=some (.bl false):=by
 rw [jT (ys:=l.map ni) rfl rfl (by rw [List.all_eq_true];intro d hd;obtain⟨i,_,rfl⟩:=List.mem_map.mp hd;rfl)]
 congr 2
 rw [List.any_eq_false]
 intro d hd;obtain⟨i,_,rfl⟩:=List.mem_map.mp hd
 show ¬ (false=true);decide
theorem Iy{gw:PF}(O:Mv gw){N:List Str}(hN:N.length=3)(hl:ws.length<=100):aO N (lO gw) 2 [aN (ws,[]),.non] S=some (.non,S):=by
 have hst:aA N [aN (ws,[]),.non]=[some (aN (ws,[])),some .non,none]:=by simp [aA,hN,List.replicate]
 rw [bb (show [aN (ws,[]),D.non].length=2 from rfl),hst]
 have o1:gw [aN (ws,[]),.tup [.str "rising"]] S=some (nt (rN (fun w=>decide (w∈[Wd.rising])) ws),S):=O S (ws,[]) [.rising] hl
 have k1:cr ([.str "rising"],S)=some (.tup [.str "rising"],S):=aU (by simp)
 have ek:∀ env,ph (ag 2) lM env (cb [],S)=some (.nx env S):=fun env=>by show cF (ag 2) lM [] env S=_;simp
 simp only [lO,aQ,bp,aI,aF,aj,bH,bN,bM,oj,ob,ai,aw,aG,ao,am,bg,bi,az,al,k1,bd,o1,av,OA,aE,bO,bA,aC,mR,Rm.ix1,ek,aW,bt,aH]
theorem HV{wait:PF}(O:∀ S:ac,wait [aN (ws,[]),.non] S=some (.non,S)){N:List Str}(hN:N.length=6):aO N (fY wait) 3 [r.d,aN (ws,[]),.non] S=some (.bl false,S):=by
 have hst:aA N [r.d,aN (ws,[]),.non]=[some r.d,some (aN (ws,[])),some .non,none,none,none]:=by simp [aA,hN,List.replicate]
 rw [bb (show [r.d,aN (ws,[]),D.non].length=3 from rfl),hst]
 simp only [fY,aQ,bj,aG,ao,aj,bH,bN,bM,oj,ob,ai,am,az,al,bd,O,bm,aT,eK,eY,bK,aC,bp,aI,aF,aw,bi,av,lF,lY,aE,bT,aW,bt,bQ,aH]
def kU:MS:=ax (aD (ab 0) (aJ 2 (af (ag 3) (af (ag 4) (aB))))) (aV (aM (aa (aq aR (aq aR (bu (ab 3) (bv) (bS (ab 1))) (aM (aa (ab 2) (ah)))) (bu (ab 3) (bS (aq aR (ab 1) (mC (.int 1)))) (bv))) (aa (ab 4) (ah)))))
theorem wS{N:List Str}(hN:N.length=5){w:Wd}(h:g<R.1.length)(hl:R.1.length<=100):aO N kU 3 [aN R,.int (g:Int),w.d] S=some (aN (R.1.set g w,R.2),S):=by
 have hst:aA N [aN R,.int (g:Int),w.d]=[some (aN R),some (.int (g:Int)),some w.d,none,none]:=by simp [aA,hN,List.replicate]
 rw [bb (show [aN R,D.int (g:Int),w.d].length=3 from rfl),hst]
 have g2:∀ env S,aJ 2 (af (ag 3) (af (ag 4) (aB))) (aN R) env S=(af (ag 3) (af (ag 4) (aB))) [cA R.1,cb R.2] env S:=fun env S=>bV
 have c1:iL (cA R.1) none (some (g:Int),S)=some (.tup ((R.1.take g).map Wd.d),S):=by
  rw [show cA R.1=.tup (R.1.map Wd.d) from rfl,jR,jb,List.map_take]
 have c2:iL (cA R.1) (some ((g:Int)+1)) (none,S)=some (.tup ((R.1.drop (g+1)).map Wd.d),S):=by
  rw [show cA R.1=.tup (R.1.map Wd.d) from rfl,jR,show ((g:Int)+1)=((g+1:Nat):Int) by omega,nq _ _ (by rw [List.length_map];omega),List.map_drop]
 have k1:∀ x,cr ([x],S)=some (.tup [x],S):=fun x=>aU (by simp)
 have k2:∀ x y,cr ([x,y],S)=some (.tup [x,y],S):=fun x y=>aU (by simp)
 have a1:aR S (.tup ((R.1.take g).map Wd.d)) (.tup [w.d])=some (.tup ((R.1.take g++[w]).map Wd.d)):=by rw [gz (by simp;omega)];simp
 have a2:aR S (.tup ((R.1.take g++[w]).map Wd.d)) (.tup ((R.1.drop (g+1)).map Wd.d))=some (cA (R.1.set g w)):=by
  rw [gz (by simp;omega),<- List.map_append,IT _ _ h];rfl
 simp only [kU,aQ,bj,aj,bH,bN,bM,oj,ob,ai,bm,g2,bo,aT,cH,bG,eK,eY,bK,aC,aW,bg,ao,aF,cy,dU,cE,dS,cY,cZ,c1,aw,am,az,al,k1,av,a1,bi,jV,c2,a2,k2,bt,aH]
 rfl
theorem Qe:∀ {es:List En} {i:Nat} {e:En},(es.map (·.g)).Nodup->es[i]?=some e->(es.map fun x=>D.int (x.g:Int)).findIdx? (fun d=>jA d (.int (e.g:Int)))=some i
 | [],i,e,_,h=>by simp at h
 | x::l,0,e,_,h=>by
  simp at h;subst h
  rw [List.map_cons,List.findIdx?_cons]
  have:jA (.int (x.g:Int)) (.int (x.g:Int))=true:=by show ((x.g:Int) == (x.g:Int))=true;simp
  rw [this];rfl
 | x::l,i+1,e,hn,h=>by
  rw [List.map_cons,List.nodup_cons] at hn
  have h':l[i]?=some e:=by simpa using h
  have ih:=Qe hn.2 h'
  rw [List.map_cons,List.findIdx?_cons]
  have:jA (.int (x.g:Int)) (.int (e.g:Int))=false:=by
   show ((x.g:Int) == (e.g:Int))=false
   rw [beq_eq_false_iff_ne]
   intro z
   have:x.g=e.g:=by omega
   exact hn.1 (by rw [this];exact List.mem_map.mpr ⟨e,List.mem_of_getElem? h',rfl⟩)
  rw [this,ih];rfl
theorem Sw(hn:(es.map (·.g)).Nodup){i:Nat}{e:En}(h:es[i]?=some e)(hl:es.length<=100):mw (.lst (es.map fun x=>D.int (x.g:Int))) [.int (e.g:Int)] S=some (.int (i:Int),S):=by
 unfold mw
 have h1:rh S (.lst (es.map fun x=>D.int (x.g:Int)))=true:=rfl
 have h2:iI S (.lst (es.map fun x=>D.int (x.g:Int)))=some (es.map fun x=>D.int (x.g:Int)):=rfl
 have h3:cI 40 (.int (e.g:Int))=true/\(es.map fun x=>D.int (x.g:Int)).all (cI 39)=true/\(es.map fun x=>D.int (x.g:Int)).length<=sizeLine:=by
  refine⟨rfl,?_,sz (by rw [List.length_map];omega)⟩
  rw [List.all_eq_true];intro d hd;obtain⟨x,_,rfl⟩:=List.mem_map.mp hd;rfl
 dsimp only
 rw [if_pos h1,h2]
 show (if _ then _ else none)=_
 rw [if_pos h3,Qe hn h];rfl
def yl:ME:=bJ (da (ab 6)) (aJ 4 (af (ag 0) (af (ag 1) (af (ag 2) (af (ag 3) (aB)))))) (bU) (aM (aa (ab 0) (aa (ab 1) (aa (aq aR (ab 2) (mC (.int 1))) (aa (ab 3) (ah)))))) [none,none,none,none]
def liGs:ME:=bJ (da (ab 4)) (ag 0) (bU) (aq ar (ab 0) (mC (.int 0))) [none]
def pS(ww:PF):MS:=ax (aD (ab 1) (aJ 2 (af (ag 3) (af (ag 4) (aB))))) (ax (aD (dY mw liGs (aa (ab 2) (ah))) (ag 5)) (ax (aD (bu (ab 4) (bv) (bS (ab 5))) (ag 6)) (ax (bD (ay (aq bX (aq ar (ab 0) (mC (.int 0))) (mC (.str "passes")))) (aD (be (aP (cm .tup)) (aa yl (ah))) (ag 6)) (aY)) (aV (ak 3 ww (aa (aM (aa (ab 3) (aa (aq aR (ab 6) (bu (ab 4) (bS (aq aR (ab 5) (mC (.int 1)))) (bv))) (ah)))) (aa (ab 2) (aa (dC BU (aq ar (aq ar (ab 4) (ab 5)) (mC (.int 1)))) (ah)))))))))
theorem Mf{en:MG}{t:ME}{f:En->D}(he:∀ (e:En) (a b c d:Option D),en e.d [a,b,c,d] S=some ([some (.int (e.g:Int)),some (.str (bx e.wr)),some (.int e.m),some (bF e.t)],S))(ht:∀ e:En,t [some (.int (e.g:Int)),some (.str (bx e.wr)),some (.int e.m),some (bF e.t)] S=some (f e,S)) :
  ∀ (es:List En) (a b c d:Option D),dF en bU t (es.map En.d) [a,b,c,d] S=some (es.map f,S)
 | [],a,b,c,d=>by simp
 | e::l,a,b,c,d=>by
  have ih:=Mf he ht l (some (.int (e.g:Int))) (some (.str (bx e.wr))) (some (.int e.m)) (some (bF e.t))
  rw [List.map_cons,hZ,he,ob,yC,jE,ob,yB,ht,ob,yA,ih,ob,yz,List.map_cons]
def QF(e:En):En:={ e with m:=e.m+1 }
theorem Dg{a0 a1 a2 a3 a4 a5:Option D}(hl:es.length<=100):yl [a0,a1,a2,a3,a4,a5,some (cb es)] S=some (.lst ((es.map QF).map En.d),S):=by
 have k:=Mf (S:=S) (en:=aJ 4 (af (ag 0) (af (ag 1) (af (ag 2) (af (ag 3) (aB)))))) (t:=aM (aa (ab 0) (aa (ab 1) (aa (aq aR (ab 2) (mC (.int 1))) (aa (ab 3) (ah)))))) (f:=fun e=>(QF e).d) (fun e a b c d=>by
  have g4:aJ 4 (af (ag 0) (af (ag 1) (af (ag 2) (af (ag 3) (aB))))) e.d [a,b,c,d] S=(af (ag 0) (af (ag 1) (af (ag 2) (af (ag 3) (aB))))) [.int (e.g:Nat),.str (bx e.wr),.int e.m,bF e.t] [a,b,c,d] S:=rP
  rw [g4];simp only [bo,aT,ob,cH,bG,eK,eY]) (fun e=>by
  have k4:∀ x y z w,cr ([x,y,z,w],S)=some (.tup [x,y,z,w],S):=fun x y z w=>aU (by simp)
  simp only [bg,ao,aj,bH,bN,bM,oj,ob,ai,am,aF,aw,bi,av,jV,az,al,k4]
  rfl) es none none none none
 simp only [yl,bY,dm,aj,bH,bN,bM,oj,ob,ai,eg]
 rw [kw (by rw [List.length_map];omega)]
 show (dF _ bU _ (es.map En.d) [none,none,none,none] S).bind _=_
 rw [k,ob,ky,List.map_map];rfl
theorem GS{ww:PF}(hw:∀ (S:ac) (R:Rm) (g:Nat) (w:Wd),g<R.1.length->R.1.length<=100->ww [aN R,.int (g:Int),w.d] S=some (aN (R.1.set g w,R.2),S)){N:List Str}(hN:N.length=7)(h:ROk R){i:Nat}{e:En}(hi:R.2[i]?=some e)(hl:R.1.length<=50) :
  aO N (pS ww) 3 [r.d,aN R,.int (e.g:Int)] S=some (aN (rm r R i e),S):=by
 have hst:aA N [r.d,aN R,.int (e.g:Int)]=[some r.d,some (aN R),some (.int (e.g:Int)),none,none,none,none]:=by simp [aA,hN,List.replicate]
 rw [bb (show [r.d,aN R,D.int (e.g:Int)].length=3 from rfl),hst]
 have hle:=h.len
 have hil:=(List.getElem?_eq_some_iff.mp hi).1
 have g2:∀ env S,aJ 2 (af (ag 3) (af (ag 4) (aB))) (aN R) env S=(af (ag 3) (af (ag 4) (aB))) [cA R.1,cb R.2] env S:=fun env S=>bV
 have gs:∀ env:bh,nK (ag 0) bU (aq ar (ab 0) (mC (.int 0))) [none] env (R.2.map En.d,S)=some (.lst (R.2.map fun e=>.int (e.g:Int)),S):=fun env=>gsC (b:=none) rfl (by omega)
 have km:∀ (ms:MA) env,pg mw ms env (.lst (R.2.map fun e=>.int (e.g:Int)),S)=(ms env S).bind (dW mw (.lst (R.2.map fun e=>.int (e.g:Int)))):=fun ms env=>rfl
 have ki:=Sw (S:=S) h.nd hi (by omega)
 have c1:iL (cb R.2) none (some (i:Int),S)=some (cb (R.2.take i),S):=by
  rw [show cb R.2=.tup (R.2.map En.d) from rfl,jR,jb];unfold cb;rw [List.map_take]
 have c2:iL (cb R.2) (some ((i:Int)+1)) (none,S)=some (cb (R.2.drop (i+1)),S):=by
  rw [show cb R.2=.tup (R.2.map En.d) from rfl,jR,show ((i:Int)+1)=((i+1:Nat):Int) by omega,nq _ _ (by rw [List.length_map];omega)];unfold cb;rw [List.map_drop]
 have w3:(r.w.s == ("passes":Str))=decide (r.w=.passes):=Rw.eq r.w .passes
 have x1:ar S (cb R.2) (.int (i:Int))=some e.d:=Ly hi
 have k2:∀ x y,cr ([x,y],S)=some (.tup [x,y],S):=fun x y=>aU (by simp)
 have ad:∀ l:List En,l.length<=60->aR S (cb l) (cb (R.2.drop (i+1)))=some (cb (l++R.2.drop (i+1))):=fun l hl'=>by
  unfold cb;rw [gz (by simp;omega),<- List.map_append]
 have wi:=fun l=>hw S (R.1,l) e.g (if e.wr then .writes else .reads) (h.lt (List.mem_of_getElem? hi)) (show R.1.length<=100 by omega)
 have wi':∀ l,ww [.tup [cA R.1,cb l],.int (e.g:Int),(if e.wr then Wd.writes else Wd.reads).d] S=some (aN (R.1.set e.g (if e.wr then .writes else .reads),l),S):=wi
 have sq:aP (cm .tup) [.lst (((R.2.take i).map QF).map En.d)] S=some (cb ((R.2.take i).map QF),S):=by rw [eW];rfl
 simp only [pS,liGs,aQ,bj,aj,bH,bN,bM,oj,ob,ai,bm,g2,bo,aT,cH,bG,eK,eY,bK,aC,lf,bY,dm,eg,gs,km,ao,am,az,al,fC,ki,cy,dU,cE,dS,cY,cZ,c1,bp,aI,aF,aw,bi,av,Rl.ix0,cP,w3,aE]
 by_cases hp:r.w=.passes
 ·rw [decide_eq_true hp]
  have e1:(R.2.take i).map (pK r)=(R.2.take i).map QF:=by
   apply List.map_congr_left;intro x _;simp [pK,QF,hp]
  simp only [bT,bj,bP,ao,Dg (es:=R.2.take i) (by simp;omega),ob,am,az,al,bR,sq,bm,aT,eK,eY,bK,aC,aW,aG,bg,aj,bH,bN,bM,oj,ai,aF,aw,cy,dU,cY,bi,av,jV,cZ,dS,cE,c2,ad _ (show ((R.2.take i).map QF).length<=60 by simp;omega),k2,tj,x1,En.ix1,Iw,bE,wi',bt,aH]
  unfold rm;rw [e1]
 ·rw [decide_eq_false hp]
  have e1:(R.2.take i).map (pK r)=R.2.take i:=by
   have:∀ x:En,pK r x=x:=fun x=>by simp [pK,hp]
   rw [List.map_congr_left (fun x _=>this x),List.map_id']
  simp only [bO,bA,ob,aC,aW,aG,ao,bg,aj,bH,bN,bM,oj,ai,am,aF,aw,cy,dU,cY,bi,av,jV,cZ,dS,cE,c2,ad _ (show (R.2.take i).length<=60 by simp;omega),az,al,k2,tj,x1,En.ix1,Iw,bE,wi',bt,aH]
  unfold rm;rw [e1]
def rp:Option Ev->D
 | none=>.non
 | some v=>v.d
def uq(cg:PF):MS:=bD (cW (ak 3 cg (aa (ab 0) (aa (ab 1) (aa (ab 2) (ah)))))) (aV (aM (aa (mC (.str "steps")) (aa (ab 2) (ah))))) (aY)
def nY(gw cg nx:PF):MS:=ax (ee (ak 2 gw (aa (ab 1) (aa (aM (aa (mC (.str "rising")) (ah))) (ah)))) (ag 2) (uq cg)) (ax (aD (ak 2 nx (aa (ab 0) (aa (ab 1) (ah)))) (ag 2)) (aV (lJ (ay (aq vj (ab 2) (mC .non))) (mC .non) (aM (aa (mC (.str "in")) (aa (ab 2) (ah)))))))
theorem wI{cg:PF}(O:ny cg)(hl:R.1.length<=100):∀ (l:List Nat) (a:Option D),∃ b,cF (ag 2) (uq cg) (l.map ni) [some r.d,some (aN R),a] S=some (match l.find? (dI r R) with | some g=>.rt (Ev.mk "steps" g).d S | none=>.nx [some r.d,some (aN R),b] S)
 | [],a=>⟨a,by simp⟩
 | g::l,a=>by
  obtain⟨b,ih⟩:=wI O hl l (some (ni g))
  refine⟨b,?_⟩
  have c1:cg [r.d,aN R,ni g] S=some (.bl (dI r R g),S):=O.1 S r R g hl
  have k2:∀ x y,cr ([x,y],S)=some (.tup [x,y],S):=fun x y=>aU (by simp)
  rw [List.map_cons,dE,aT,ob,eY,eY,eK,lm]
  simp only [uq,bp,dB,aG,ao,aj,bH,bN,bM,oj,ob,ai,am,az,al,bE,c1,fv,List.find?_cons]
  cases hc:dI r R g with
  | true=>simp only [bT,aW,bg,ao,bi,ob,am,aj,bH,bN,bM,oj,ai,az,al,k2,bt,Fd];rfl
  | false=>
   rw [bO,bA,ob,jG]
   exact ih
theorem Ea{gw cg nx:PF}(hg:Mv gw)(O:ny cg)(hn:∀ (S:ac) (r:Rl) (R:Rm),R.1.length<=100->R.2.length<=100->nx [r.d,aN R] S=some (nA (qA r R),S)){N:List Str}(hN:N.length=3)(hl:R.1.length<=100)(hl2:R.2.length<=100) :
  aO N (nY gw cg nx) 2 [r.d,aN R] S=some (rp (nS r R),S):=by
 have hst:aA N [r.d,aN R]=[some r.d,some (aN R),none]:=by simp [aA,hN,List.replicate]
 rw [bb (show [r.d,aN R].length=2 from rfl),hst]
 have o1:gw [aN R,.tup [.str "rising"]] S=some (nt (rN (fun w=>decide (w∈[Wd.rising])) R.1),S):=hg S R [.rising] hl
 have k1:cr ([.str "rising"],S)=some (.tup [.str "rising"],S):=aU (by simp)
 have k2:∀ x y,cr ([x,y],S)=some (.tup [x,y],S):=fun x y=>aU (by simp)
 obtain⟨b,e⟩:=wI (S:=S) (r:=r) O hl (rN (fun w=>decide (w∈[Wd.rising])) R.1) none
 have ek:ph (ag 2) (uq cg) [some r.d,some (aN R),none] (nt (rN (fun w=>decide (w∈[Wd.rising])) R.1),S)=cF (ag 2) (uq cg) ((rN (fun w=>decide (w∈[Wd.rising])) R.1).map ni) [some r.d,some (aN R),none] S:=rfl
 have ew:(fun w=>decide (w∈[Wd.rising]))=fun w=>decide (w=Wd.rising):=by funext w;simp
 unfold nS
 simp only [nY,aQ,mR,aG,ao,aj,bH,bN,bM,oj,ob,ai,am,bg,bi,az,al,k1,bd,o1,ek,e]
 rw [ew]
 cases hf:(rN (fun w=>decide (w=Wd.rising)) R.1).find? (dI r R) with
 | some g=>simp only [bQ,ob,aH,rp]
 | none=>
  have n1:=hn S r R hl hl2
  simp only [aC,aQ,bj,aG,ao,aj,bH,bN,bM,oj,ob,ai,am,az,al,bd,n1,bm,aT,eK,eY,bK,aW,lE,aI,aF,aw,bi,av,lF]
  cases qA r R with
  | none=>simp [nA,lY,rp]
  | some g=>simp [nA,lY,rp,k2,Ev.d]
def lR(ww li:PF):MS:=ax (aD (ab 2) (aJ 2 (af (ag 3) (af (ag 4) (aB))))) (ax (bD (ay (aq bX (ab 3) (mC (.str "steps")))) (aV (ak 3 ww (aa (ab 1) (aa (ab 4) (aa (mC (.str "raised")) (ah)))))) (aY)) (aV (ak 3 li (aa (ab 0) (aa (ab 1) (aa (ab 4) (ah)))))))
theorem BM{ww li:PF}(hw:∀ (S:ac) (R:Rm) (g:Nat) (w:Wd),g<R.1.length->R.1.length<=100->ww [aN R,.int (g:Int),w.d] S=some (aN (R.1.set g w,R.2),S))
  (hi:∀ (S:ac) (r:Rl) (R:Rm) (i:Nat) (e:En),ROk R->R.2[i]?=some e->R.1.length<=50->li [r.d,aN R,.int (e.g:Int)] S=some (aN (rm r R i e),S)) {N:List Str} (hN:N.length=5) (h:ROk R) (hl:R.1.length<=50) {v:Ev} {R':Rm} {l:List Ev} (s:Em r R (some v) R' l) :
  aO N (lR ww li) 3 [r.d,aN R,v.d] S=some (aN R',S):=by
 have hst:aA N [r.d,aN R,v.d]=[some r.d,some (aN R),some v.d,none,none]:=by simp [aA,hN,List.replicate]
 rw [bb (show [r.d,aN R,v.d].length=3 from rfl),hst]
 have g2:∀ env S,aJ 2 (af (ag 3) (af (ag 4) (aB))) v.d env S=(af (ag 3) (af (ag 4) (aB))) [.str v.w,.int (v.g:Nat)] env S:=fun env S=>bV
 simp only [lR,aQ,bj,aj,bH,bN,bM,oj,ob,ai,bm,g2,bo,aT,cH,bG,eK,eY,bK,aC,bp,aI,aF,aw,bi,av,cP]
 cases s with
 | up g hg=>
  have e1:(("steps":Str) == ("steps":Str))=true:=by decide
  have w1:ww [aN R,.int (g:Int),.str "raised"] S=some (aN (R.1.set g .raised,R.2),S):=hw S R g .raised (List.getElem?_eq_some_iff.mp hg).1 (by omega)
  simp only [e1,aE,bT,aW,aG,ao,aj,bH,bN,bM,oj,ob,ai,am,bi,az,al,bE,w1,bt,bQ,aH]
 | go i e he=>
  have e1:(("in":Str) == ("steps":Str))=false:=by decide
  have w1:=hi S r R i e h he hl
  simp only [e1,aE,bO,bA,aC,aW,aG,ao,aj,bH,bN,bM,oj,ob,ai,am,az,al,bE,w1,bt,aH]
def Cg(br co:PF):MS:=ax (aD (ak 3 br (aa (ab 0) (aa (ab 1) (aa (ab 3) (ah))))) (ag 1)) (ax (dM (dY cO (ab 2) (aa (ab 3) (ah)))) (aD (ak 2 co (aa (ab 0) (aa (ab 1) (ah)))) (ag 3)))
def Cd:MT:=ay (aq mr (ab 3) (mC .non))
def lP(br co:PF):MS:=ax (aD (dZ (ah)) (ag 2)) (ax (aD (ak 2 co (aa (ab 0) (aa (ab 1) (ah)))) (ag 3)) (ax (fg Cd (Cg br co)) (aV (aM (aa (ab 1) (aa (be (aP (cm .tup)) (aa (ab 2) (ah))) (ah)))))))
structure Ul(br co:PF):Prop where
 c:∀ (S:ac) (r:Rl) (R:Rm),R.1.length<=100->R.2.length<=100->co [r.d,aN R] S=some (rp (nS r R),S)
 b:∀ (S:ac) (r:Rl) (R:Rm) (v:Ev) (R':Rm) (l:List Ev),ROk R->R.1.length<=50->Em r R (some v) R' l->br [r.d,aN R,v.d] S=some (aN R',S)
theorem vB{br co:PF}(O:Ul br co)(hb:0<=r.b):∀ (n f:Nat) (R:Rm) (evs:List Ev),ROk R->R.1.length<=50->RS R<=n->n<f->evs.length+n<=400 ->
  gn Cd (Cg br co) f [some r.d,some (aN R),some (.ref S.length),some (rp (nS r R))] (S++[.lst (evs.map Ev.d)])=some (.nx [some r.d,some (aN (se r n R).1),some (.ref S.length),some .non] (S++[.lst ((evs++(se r n R).2).map Ev.d)]))
 | n,0,R,evs,_,_,_,hf,_=>by omega
 | n,f+1,R,evs,h,hl,hm,hf,he=>by
  have s:=wH (r:=r) h hb
  rw [GP]
  simp only [Cd,aI,aF,aj,bH,bN,bM,oj,ob,ai,aw,bi,av,pD]
  rcases FY h s with ⟨h1,h2,h3⟩ | ⟨v,h1,h2,h3⟩
  ·rw [h1,zB h1 h hb n]
   simp only [rp,lY,Bool.not_true,aE,ob,kWh_f,List.append_nil]
  ·cases n with
   | zero=>omega
   | succ n=>
    obtain⟨q1,q2⟩:=Cf (r:=r) h
    have ih:=vB O hb n f (lL r R).1 (evs++[v]) q1 (by omega) (by omega) (by omega) (by simp;omega)
    rw [h1] at s ⊢
    have b1:∀ S,br [r.d,aN R,v.d] S=some (aN (lL r R).1,S):=fun S=>O.b S r R v _ _ h hl s
    have c1:∀ S,co [r.d,aN (lL r R).1] S=some (rp (nS r (lL r R).1),S):=fun S=>O.c S r _ (by omega) (by have:=q1.len;omega)
    have ap:cO (.ref S.length) [v.d] (S++[.lst (evs.map Ev.d)])=some (.non,S++[.lst ((evs++[v]).map Ev.d)]):=DD (by omega)
    have nn:lY (rp (some v)) .non=false:=rfl
    have ev:rp (some v)=v.d:=rfl
    rw [nn]
    simp only [Bool.not_false,aE,ob,kWh_t,Cg,aQ,bj,aG,ao,aj,bH,bN,bM,oj,ai,am,az,al,bE,ev,b1,bm,aT,eK,eY,bK,aC,lg,lf,yM,fC,ap,lq,bd,c1,NX]
    have e2:se r (n+1) R=((se r n (lL r R).1).1,(lL r R).2++(se r n (lL r R).1).2):=rfl
    rw [e2,h2,<- List.append_assoc]
    exact ih
theorem xA{br co:PF}(O:Ul br co)(hb:0<=r.b){N:List Str}(hN:N.length=4)(h:ROk R)(hl:R.1.length<=50) :
  aO N (lP br co) 2 [r.d,aN R] S=some (.tup [aN (aX r R).1,cM (aX r R).2],S++[.lst ((aX r R).2.map Ev.d)]):=by
 have hst:aA N [r.d,aN R]=[some r.d,some (aN R),none,none]:=by simp [aA,hN,List.replicate]
 rw [bb (show [r.d,aN R].length=2 from rfl),hst]
 have k0:qE ([],S)=some (.ref S.length,S++[.lst []]):=ku (by simp)
 have c1:∀ S,co [r.d,aN R] S=some (rp (nS r R),S):=fun S=>O.c S r _ (by omega) (by have:=h.len;omega)
 have lp:=vB (S:=S) O hb (2 * R.1.length) 5000 R [] h hl (RR h) (by omega) (by simp;omega)
 simp only [List.map_nil,List.nil_append] at lp
 have k2:∀ S x y,cr ([x,y],S)=some (.tup [x,y],S):=fun S x y=>aU (by simp)
 unfold aX
 simp only [lP,aQ,bj,oY,az,ob,k0,bm,aT,eK,eY,bK,aC,aG,ao,aj,bH,bN,bM,oj,ai,am,al,bd,c1,JU,lp,aW,bg,bP,bR,Lh,k2,bt,aH]
end
end MI
namespace MI
open PySem PySem.Spec PyProof.Rows L2 M
section
variable{S:ac}{r:Rl}{R:Rm}
theorem RP{n:Nat}(e:En):cI (n+2) e.d=true:=by
 obtain⟨g,wr,m,t⟩:=e
 cases t <;> rfl
theorem RO{n:Nat}:cI (n+4) (aN R)=true:=by
 show ((cA R.1::cb R.2::[]).all (cI (n+3)))=true
 rw [List.all_cons,List.all_cons,List.all_nil,Bool.and_true,Bool.and_eq_true]
 refine⟨NM (n:=n+2),?_⟩
 show ((R.2.map En.d).all (cI (n+2)))=true
 rw [List.all_eq_true];intro d hd;obtain⟨e,_,rfl⟩:=List.mem_map.mp hd;exact RP e
theorem Bu{x:D}(h:cI 40 x=true):gk S x x=some (.bl false):=by
 rw [qp h h,mB 40 x h];rfl
end
end MI
namespace MI
open PySem PySem.Spec PyProof.Rows L2 M
section
variable{r:Rl}
structure Calm(ws:List Wd):Prop where
 only:∀ w∈ws,w=.out\/w=.reads
 one:1<=ws.count .reads
theorem Calm.set{ws:List Wd}(c:Calm ws){g:Nat}(hg:ws[g]?=some .out):Calm (ws.set g .reads)/\(ws.set g .reads).count .reads=ws.count .reads+1:=by
 have h:=kJ (b:=.reads) hg (by decide) .reads
 simp at h
 have:=c.one
 refine⟨⟨fun w hw=>?_,by omega⟩,h⟩
 rcases List.mem_or_eq_of_mem_set hw with z | z
 ·exact c.only w z
 ·exact .inr z
end
end MI
namespace MI
open PySem PySem.Spec PyProof.Rows L2 M
section
variable{α:Type}{enc:α->D}{p:α->Bool}{f:α->D}{t:MT}{e:ME}{rest:bh}{S:ac}{r:Nat}{xs:List α}
end
section
variable{r:Rl}{es:List En}
end
end MI
namespace MI
open PySem PySem.Spec PyProof.Rows L2
open M hiding mC ab aq ay cX cW dh eV dJ du ve gH lJ ah aa aM ej dZ AG bv bS bu be dL ak aY ax aV dM bD ag aB af aJ gc aD cC dD jd bJ da bU dY eX lV jP nB hX fq fh ee fj fg dC df
section
variable{α:Type}{enc:α->D}{f:α->Nat->D}{e:ME}{mi:MA}{S:ac}{n:Nat}{c:Option D}
end
section
variable{S:ac}{n:Nat}{a:Option D}
end
def oN(wait:PF):MS:=
 ax (bD (ay (aq bX (aq ar (ab 1) (mC (.int 0))) (mC (.str "tick")))) (aV (mC (.bl true))) (aY)) (ax (aD (bu (ab 1) (bv) (bS (mC (.int 2)))) (aJ 2 (af (ag 2) (af (ag 3) (aB))))) (ax (aD (aq ar (aq ar (ab 0) (mC (.int 0))) (ab 3)) (ag 4)) (ax (bD (ay (aq bX (ab 2) (mC (.str "up")))) (aV (aq bX (ab 4) (mC (.str "reads")))) (aY)) (ax (bD (ay (aq bX (ab 2) (mC (.str "down")))) (aV (aq oB (ab 4) (mC (.tup [.str "writes",.str "raised"])))) (aY)) (ax (bD (ay (aq bX (ab 2) (mC (.str "leave")))) (aV (aq gk (ab 4) (mC (.str "out")))) (aY)) (ax (bD (ay (aq bX (ab 2) (mC (.str "stop")))) (aV (aq mr (ak 2 wait (aa (ab 0) (aa (ab 3) (ah)))) (mC .non))) (aY)) (aV (du (aq bX (ab 4) (mC (.str "out"))) (aq vj (ak 2 wait (aa (ab 0) (aa (ab 3) (ah)))) (mC .non))))))))))
theorem Dy{es:List En}{g:Nat}:(es.find? fun e=>decide (e.g=g)).isSome=bw es g:=by
 unfold bw;rw [List.isSome_find?]
theorem kR{R:Rm}{g:Nat}:lY (jC R g) .non = !(decide (R.1[g]?=some .rising)||bw R.2 g):=by
 unfold jC
 rw [<- Dy]
 by_cases h:R.1[g]?=some .rising
 ·rw [if_pos h,decide_eq_true h];rfl
 ·rw [if_neg h,decide_eq_false h]
  cases R.2.find? fun e=>decide (e.g=g) with
  | none=>rfl
  | some e=>cases e.wr <;> rfl
theorem HX{wait:PF}(O:qw wait){N:List Str}(hN:N.length=5){S:ac}{R:Rm}{dd:Dd}(hl:R.1.length<=100)(hd:dd.Ok R.1.length)(ht:dd≠.tick):aO N (oN wait) 2 [aN R,dd.d] S=some (.bl (gW R dd),S):=by
 have hst:aA N [aN R,dd.d]=[some (aN R),some dd.d,none,none,none]:=by simp [aA,hN,List.replicate]
 rw [bb (show [aN R,dd.d].length=2 from rfl),hst]
 have x0:∀ S,ar S dd.d (.int 0)=some (.str (fO dd)):=fun S=>by cases dd <;> first | rfl | exact absurd rfl ht
 have tk:bX S (.str (fO dd)) (.str "tick")=some (.bl false):=by rw [cP,BG ht]
 have hg:aZ dd<R.1.length:=by cases dd with
  | ask _ _ _=>exact hd.1
  | act _ _=>exact hd
  | tick=>exact absurd rfl ht
 have hw:R.1[aZ dd]?=some R.1[aZ dd]:=List.getElem?_eq_getElem hg
 have xw:∀ S,ar S (cA R.1) (.int (aZ dd:Int))=some (R.1[aZ dd]).d:=fun S=>vt hw
 have sl:∀ S,iL dd.d none (some 2,S)=some (.tup [.str (fO dd),.int (aZ dd:Int)],S):=fun S=>by cases dd <;> first | rfl | exact absurd rfl ht
 have g2:∀ x y env S,aJ 2 (af (ag 2) (af (ag 3) (aB))) (.tup [x,y]) env S=(af (ag 2) (af (ag 3) (aB))) [x,y] env S:=fun x y env S=>bV
 have rx:∀ S,ar S (aN R) (.int 0)=some (cA R.1):=fun S=>rfl
 have wt:∀ S,wait [aN R,.int (aZ dd:Int)] S=some (jC R (aZ dd),S):=fun S=>O S R _ hl
 simp only [oN,aQ,bp,aI,aF,aj,bH,bN,bM,oj,ob,ai,aw,bi,av,x0,tk,aE,bO,bA,aC,bj,cy,dU,cE,dS,cY,cZ,sl,bm,g2,bo,aT,cH,bG,eK,eY,bK,rx,xw]
 generalize hv:R.1[aZ dd]=w at hw
 have e1:bX S w.d (.str "reads")=some (.bl (decide (w=.reads))):=mx (b:=.reads)
 have e2:gk S w.d (.str "out")=some (.bl (!decide (w=.out))):=uh (b:=.out)
 have e3:bX S w.d (.str "out")=some (.bl (decide (w=.out))):=mx (b:=.out)
 cases dd with
 | tick=>exact absurd rfl ht
 | act k g=>
  simp only [aZ] at hw wt ⊢
  have wk:∀ j:Ak,bX S (.str (fO (.act k g))) (.str j.s)=some (.bl (decide (k=j))):=fun j=>yK
  have w1:=wk .up
  have w2:=wk .down
  have w3:=wk .leave
  have w4:=wk .stop
  simp only [Ak.s] at w1 w2 w3 w4
  cases k with
  | up=>simp only [w1,aE,ob,decide_true,bT,aW,aF,aj,bH,bN,bM,oj,ai,aw,bi,av,e1,bt,bQ,aH,gW,hw,Option.some.injEq]
  | down=>simp (decide:=true) only [w1,w2,aE,ob,decide_true,decide_false,bO,bA,aC,bT,aQ,bp,aI,aW,aF,aj,bH,bN,bM,oj,ai,aw,bi,av,Lb,bt,bQ,aH,gW,hw,Option.some.injEq]
  | leave=>simp (decide:=true) only [w1,w2,w3,aE,ob,decide_true,decide_false,bO,bA,aC,bT,aQ,bp,aI,aW,aF,aj,bH,bN,bM,oj,ai,aw,bi,av,e2,bt,bQ,aH,gW,hw,Option.some.injEq,ne_eq,decide_not]
  | stop=>
   simp (decide:=true) only [w1,w2,w3,w4,aE,ob,decide_true,decide_false,bO,bA,aC,bT,aQ,bp,aI,aW,aF,aj,bH,bN,bM,oj,ai,aw,bi,av,aG,ao,am,az,al,bd,wt,pD,kR,bt,bQ,aH,gW,Bool.not_not,Bool.or_comm]
 | ask wr g t=>
  simp only [aZ] at hw wt ⊢
  have w1:bX S (.str (fO (.ask wr g t))) (.str "up")=some (.bl false):=by rw [cP];cases wr <;> rfl
  have w2:bX S (.str (fO (.ask wr g t))) (.str "down")=some (.bl false):=by rw [cP];cases wr <;> rfl
  have w3:bX S (.str (fO (.ask wr g t))) (.str "leave")=some (.bl false):=by rw [cP];cases wr <;> rfl
  have w4:bX S (.str (fO (.ask wr g t))) (.str "stop")=some (.bl false):=by rw [cP];cases wr <;> rfl
  simp only [w1,w2,w3,w4,aE,ob,bO,bA,aC,aQ,bp,aI,aW,aF,aj,bH,bN,bM,oj,ai,aw,bi,av,oh,e3]
  by_cases hw':w=.out
  ·subst hw'
   simp only [decide_true,tN,aF,aG,ao,aj,bH,bN,bM,oj,ob,ai,am,az,al,bd,wt,aw,bi,av,lF,kR,bt,aH,gW,hw,Option.some.injEq]
   simp
  ·simp only [decide_eq_false hw',SD,ob,bt,aH,gW,hw,Option.some.injEq,Bool.false_and]
end MI
namespace MI
open PySem PySem.Spec PyProof.Rows L2
open M hiding mC ab aq ay cX cW dh eV dJ du ve gH lJ ah aa aM ej dZ AG bv bS bu be dL ak aY ax aV dM bD ag aB af aJ gc aD cC dD jd bJ da bU dY eX lV jP nB hX fq fh ee fj fg dC df iF
section
variable{r:Rl}{R:Rm}{g:Nat}
theorem Ce(h:(lL r R).1.1[g]?=some .rising):R.1[g]?=some .rising:=by
 have key:∀ (i:Nat) (w:Wd),w≠.rising->(R.1.set i w)[g]?=some .rising->R.1[g]?=some .rising:=fun i w hw q=>by
  by_cases e:i=g
  ·subst e
   by_cases hl:i<R.1.length
   ·rw [List.getElem?_set_self hl] at q;exact absurd (Option.some.inj q) hw
   ·rw [List.getElem?_eq_none (by simp;omega)] at q;cases q
  ·rwa [List.getElem?_set_ne e] at q
 unfold lL at h
 split at h
 ·exact key _ _ (by decide) h
 ·split at h
  ·split at h
   ·rename_i e _
    refine key _ _ ?_ h
    cases e.wr <;> decide
   ·exact h
  ·exact h
theorem nV:∀ (n:Nat) {R:Rm},(se r n R).1.1[g]?=some .rising->R.1[g]?=some .rising
 | 0,_,h=>h
 | n+1,R,h=>Ce (nV n (R:=(lL r R).1) h)
theorem FZ(h:bw (lL r R).1.2 g=true):bw R.2 g=true:=by
 obtain⟨e,he,hg⟩:=List.any_eq_true.mp h
 unfold lL at he
 split at he
 ·exact List.any_eq_true.mpr ⟨e,he,hg⟩
 ·split at he
  ·split at he
   ·rcases List.mem_append.mp he with he | he
    ·obtain⟨y,hy,rfl⟩:=List.mem_map.mp he
     exact List.any_eq_true.mpr ⟨y,List.mem_of_mem_take hy,hg⟩
    ·exact List.any_eq_true.mpr ⟨e,List.mem_of_mem_drop he,hg⟩
   ·exact List.any_eq_true.mpr ⟨e,he,hg⟩
  ·exact List.any_eq_true.mpr ⟨e,he,hg⟩
theorem vD:∀ (n:Nat) {R:Rm},bw (se r n R).1.2 g=true->bw R.2 g=true
 | 0,_,h=>h
 | n+1,R,h=>FZ (vD n (R:=(lL r R).1) h)
theorem sJ(h:ROk R){w:Wd}(hw:R.1[g]?=some w)(ho:w≠.out):bw R.2 g=false:=by
 cases z:bw R.2 g with
 | false=>rfl
 | true=>
  obtain⟨e,he,hg⟩:=List.any_eq_true.mp z
  have:=h.out e he
  rw [of_decide_eq_true hg,hw] at this
  exact absurd (Option.some.inj this) ho
theorem Bs{es:List En}(h:bw es g=false):(es.filter fun e=>decide (e.g≠g))=es:=by
 rw [List.filter_eq_self]
 intro e he
 exact decide_eq_true (iH h he)
end
def FK(settled:PF):Prop:=∀ (S:ac) (r:Rl) (R:Rm),0<=r.b->ROk R->R.1.length<=50->settled [r.d,aN R] S=some (.tup [aN (aX r R).1,cM (aX r R).2],S++[.lst ((aX r R).2.map Ev.d)])
structure DeOk(settled wait gw ww:PF):Prop where
 s:FK settled
 w:qw wait
 g:Mv gw
 ww:∀ (S:ac) (R:Rm) (g:Nat) (w:Wd),g<R.1.length->R.1.length<=100->ww [aN R,.int (g:Int),w.d] S=some (aN (R.1.set g w,R.2),S)
theorem DC{S:ac}{k l:List Ev}(h:k.length<=400)(h':l.length<=400):aR S (cM k) (cM l)=some (cM (k++l)):=by
 show aR S (.tup (k.map Ev.d)) (.tup (l.map Ev.d))=_
 rw [gz (by simp;omega),<- List.map_append];rfl
theorem xa{r:Rl}{R:Rm}(hl:R.1.length<=50):(aX r R).2.length<=100:=Nat.le_trans (mP _) (by omega)
def iw(x:Rm×List Ev):D:=.tup [aN x.1,cM x.2]
def Ct:MS:=ax (aD (ab 0) (aJ 2 (af (ag 2) (af (ag 3) (aB))))) (aV (aM (aa (ab 2) (aa (be (aP (cm .tup)) (aa (bJ (da (ab 3)) (ag 0) (ay (aq gk (aq ar (ab 0) (mC (.int 0))) (ab 1))) (ab 0) [none,some 1]) (ah))) (ah)))))
section
variable{S:ac}{r:Rl}{R:Rm}{g:Nat}{N:List Str}{settled wait gw ww wo sb tu ol:PF}
theorem QD(hN:N.length=4)(hl:R.2.length<=100):aO N Ct 2 [aN R,.int (g:Int)] S=some (aN (R.1,R.2.filter fun e=>decide (e.g≠g)),S):=by
 have hst:aA N [aN R,.int (g:Int)]=[some (aN R),some (.int (g:Int)),none,none]:=by simp [aA,hN,List.replicate]
 rw [bb (show [aN R,D.int (g:Int)].length=2 from rfl),hst]
 have g2:∀ env S,aJ 2 (af (ag 2) (af (ag 3) (aB))) (aN R) env S=(af (ag 2) (af (ag 3) (aB))) [cA R.1,cb R.2] env S:=fun env S=>bV
 have k2:∀ x y:D,cr ([x,y],S)=some (.tup [x,y],S):=fun x y=>aU (by simp)
 have k:=Je (S:=S) (es:=R.2) (g:=g) (b:=none) (cap:=[none,some 1]) (env:=[some (aN R),some (.int (g:Int)),some (cA R.1),some (cb R.2)]) rfl hl
 simp only [Ct,aQ,bj,aj,bH,bN,bM,oj,ob,ai,bm,g2,bo,aT,cH,bG,eK,eY,bK,aC,aW,bg,ao,bP,bY,dm,eg,k,am,az,al,bR,eW,k2,bt,aH]
 rfl
def Cv(settled:PF):MS:=ax (aD (ak 2 settled (aa (ab 0) (aa (ab 1) (ah)))) (aJ 2 (af (ag 1) (af (ag 3) (aB))))) (aV (aM (aa (ab 1) (aa (aq aR (ab 2) (ab 3)) (ah)))))
def Pu(sb:PF):Prop:=∀ (S:ac) (r:Rl) (R:Rm) (l:List Ev),0<=r.b->ROk R->R.1.length<=50->l.length<=400->∃ T,sb [r.d,aN R,cM l] S=some (iw ((aX r R).1,l++(aX r R).2),S++T)
theorem QV(O:FK settled)(hN:N.length=4){l:List Ev}(hb:0<=r.b)(h:ROk R)(hl:R.1.length<=50)(h4:l.length<=400):∃ T,aO N (Cv settled) 3 [r.d,aN R,cM l] S=some (iw ((aX r R).1,l++(aX r R).2),S++T):=by
 have hst:aA N [r.d,aN R,cM l]=[some r.d,some (aN R),some (cM l),none]:=by simp [aA,hN,List.replicate]
 rw [bb (show [r.d,aN R,cM l].length=3 from rfl),hst]
 have o:=O S r R hb h hl
 have fw:=xa (r:=r) hl
 have g2:∀ (x y:D) env S,aJ 2 (af (ag 1) (af (ag 3) (aB))) (.tup [x,y]) env S=(af (ag 1) (af (ag 3) (aB))) [x,y] env S:=fun x y env S=>bV
 have k2:∀ S (x y:D),cr ([x,y],S)=some (.tup [x,y],S):=fun S x y=>aU (by simp)
 have ec:∀ S,aR S (cM l) (cM (aX r R).2)=some (cM (l++(aX r R).2)):=fun S=>DC h4 (by omega)
 refine⟨[.lst ((aX r R).2.map Ev.d)],?_⟩
 simp only [Cv,aQ,bj,aG,ao,aj,bH,bN,bM,oj,ob,ai,am,az,al,bd,o,bm,g2,bo,aT,cH,bG,eK,eY,bK,aC,aW,bg,aF,aw,av,ec,k2,bt,aH,iw]
def tuC:ME:=bJ (da (ab 4)) (aJ 4 (af (ag 0) (af (ag 1) (af (ag 2) (af (ag 3) (aB)))))) (bU) (aM (aa (ab 0) (aa (ab 1) (aa (lJ (ay (aq bX (ab 1) (mC (.str "read")))) (mC (.int 1)) (ab 2)) (aa (ab 3) (ah)))))) [none,none,none,none]
def Cu:MS:=ax (aD (ab 1) (aJ 2 (af (ag 3) (af (ag 4) (aB))))) (ax (bD (eV (ay (aq gk (aq ar (ab 0) (mC (.int 0))) (mC (.str "turns")))) (ay (aq gk (aq ar (ab 3) (ab 2)) (mC (.str "writes"))))) (aV (ab 1)) (aY)) (aV (aM (aa (ab 3) (aa (be (aP (cm .tup)) (aa tuC (ah))) (ah))))))
theorem Kp{e:ME}{f:En->D}{cap:List (Option Nat)}{env:bh}{a b c d:Option D}{es:List En}(hc:oz cap env=[a,b,c,d])(hl:es.length<=1000)(he:∀ x:En,e [some (.int (x.g:Nat)),some (.str (bx x.wr)),some (.int x.m),some (bF x.t)] S=some (f x,S)) :
  nK (aJ 4 (af (ag 0) (af (ag 1) (af (ag 2) (af (ag 3) (aB)))))) bU e cap env (es.map En.d,S)=some (.lst (es.map f),S):=by
 rw [kw (by rw [List.length_map];exact hl),hc,Mf (t:=e) (f:=f) (fun x a b c d=>?_) he,ob,ky]
 rw [show x.d=.tup [.int (x.g:Nat),.str (bx x.wr),.int x.m,bF x.t] from rfl,rP]
 simp only [bo,aT,ob,eK,eY,cH,bG]
theorem Ix{b:Bool}:(bx b == ("read":Str)) = !b:=by cases b <;> decide +kernel
def TuOk(tu:PF):Prop:=∀ (S:ac) (r:Rl) (R:Rm) (g:Nat) (w:Wd),R.1[g]?=some w->R.2.length<=100->tu [r.d,aN R,.int (g:Int)] S=some (aN (R.1,sM r w R.2),S)
theorem QL(hN:N.length=5){w:Wd}(hw:R.1[g]?=some w)(hl:R.2.length<=100):aO N Cu 3 [r.d,aN R,.int (g:Int)] S=some (aN (R.1,sM r w R.2),S):=by
 have hst:aA N [r.d,aN R,.int (g:Int)]=[some r.d,some (aN R),some (.int (g:Int)),none,none]:=by simp [aA,hN,List.replicate]
 rw [bb (show [r.d,aN R,D.int (g:Int)].length=3 from rfl),hst]
 have g2:∀ env S,aJ 2 (af (ag 3) (af (ag 4) (aB))) (aN R) env S=(af (ag 3) (af (ag 4) (aB))) [cA R.1,cb R.2] env S:=fun env S=>bV
 have k2:∀ x y:D,cr ([x,y],S)=some (.tup [x,y],S):=fun x y=>aU (by simp)
 have k4:∀ x y z u:D,cr ([x,y,z,u],S)=some (.tup [x,y,z,u],S):=fun x y z u=>aU (by simp)
 have xw:ar S (cA R.1) (.int (g:Int))=some w.d:=vt hw
 have x0:ar S r.d (.int 0)=some (.str r.w.s):=rfl
 have e1:gk S (.str r.w.s) (.str "turns")=some (.bl (!decide (r.w=.turns))):=by
  rw [qo];congr 2;cases r.w <;> decide +kernel
 have e2:gk S w.d (.str "writes")=some (.bl (!decide (w=.writes))):=uh (b:=.writes)
 have k:=Kp (S:=S) (es:=R.2) (cap:=[none,none,none,none]) (env:=[some r.d,some (aN R),some (.int (g:Int)),some (cA R.1),some (cb R.2)]) (a:=none) (b:=none) (c:=none) (d:=none) (e:=aM (aa (ab 0) (aa (ab 1) (aa (lJ (ay (aq bX (ab 1) (mC (.str "read")))) (mC (.int 1)) (ab 2)) (aa (ab 3) (ah)))))) (f:=fun x=>(if x.wr then x else { x with m:=1 }).d) rfl (by omega) fun x=>by
  obtain⟨xg,xwr,xm,xt⟩:=x
  cases xwr with
  | true=>
   have:bX S (.str (bx true)) (.str "read")=some (.bl false):=by rw [cP,Ix];rfl
   simp only [bg,ao,aj,bH,bN,bM,oj,ob,ai,am,lE,aI,aF,aw,bi,av,this,aE,AY,az,al,k4]
   rfl
  | false=>
   have:bX S (.str (bx false)) (.str "read")=some (.bl true):=by rw [cP,Ix];rfl
   simp only [bg,ao,aj,bH,bN,bM,oj,ob,ai,am,lE,aI,aF,aw,bi,av,this,aE,wa,az,al,k4]
   rfl
 simp only [Cu,aQ,bj,aj,bH,bN,bM,oj,ob,ai,bm,g2,bo,aT,cH,bG,eK,eY,bK,aC,bp,iy,aI,aF,aw,bi,av,x0,e1,aE]
 unfold sM
 by_cases h1:r.w=.turns
 ·simp only [decide_eq_true h1,Bool.not_true,ll,aI,aF,aj,bH,bN,bM,oj,ob,ai,aw,bi,av,xw,e2,aE]
  by_cases h2:w=.writes
  ·simp only [decide_eq_true h2,Bool.not_true,bO,bA,ob,aC,aW,bg,ao,aj,bH,bN,bM,oj,ai,am,bP,tuC,bY,dm,eg,k,az,al,bR,eW,k2,bt,aH]
   rw [if_pos ⟨h1,h2⟩]
   simp only [aN,cb,List.map_map]
   rfl
  ·simp only [decide_eq_false h2,Bool.not_false,bT,aW,aj,bH,bN,bM,oj,ob,ai,bt,bQ,aH]
   rw [if_neg (fun z=>h2 z.2)]
 ·simp only [decide_eq_false h1,Bool.not_false,yv,ob,bT,aW,aj,bH,bN,bM,oj,ai,bt,bQ,aH]
  rw [if_neg (fun z=>h1 z.1)]
def xE(settled wait wo:PF):MS:=ax (aD (ab 2) (aJ 3 (af (ag 3) (af (ag 4) (af (ag 5) (aB)))))) (ax (aD (ab 1) (aJ 2 (af (ag 6) (af (ag 7) (aB))))) (ax (aD (aM (aa (ab 4) (aa (ab 3) (aa (mC (.int 0)) (aa (lJ (ay (aq bX (ab 5) (mC (.int 0)))) (mC (.int 1)) (ab 5)) (ah)))))) (ag 8)) (ax (aD (ak 2 settled (aa (ab 0) (aa (aM (aa (ab 6) (aa (aq aR (ab 7) (aM (aa (ab 8) (ah)))) (ah)))) (ah)))) (aJ 2 (af (ag 1) (af (ag 9) (aB))))) (ax (bD (ay (aq vj (ak 2 wait (aa (ab 1) (aa (ab 4) (ah)))) (mC .non))) (aV (aM (aa (ab 1) (aa (ab 9) (ah))))) (aY)) (ax (bD (ay (aq bX (ab 5) (mC (.int 0)))) (aV (aM (aa (ak 2 wo (aa (ab 1) (aa (ab 4) (ah)))) (aa (aq aR (ab 9) (aM (aa (aM (aa (mC (.str "no")) (aa (ab 4) (ah)))) (ah)))) (ah))))) (aY)) (aV (aM (aa (ab 1) (aa (aq aR (ab 9) (aM (aa (aM (aa (mC (.str "waits")) (aa (ab 4) (ah)))) (ah)))) (ah))))))))))
def Ui(wo:PF):Prop:=∀ (S:ac) (R:Rm) (g:Nat),R.2.length<=100->wo [aN R,.int (g:Int)] S=some (aN (R.1,R.2.filter fun e=>decide (e.g≠g)),S)
theorem Pt(O:FK settled)(W:qw wait)(V:Ui wo)(hN:N.length=10){wr:Bool}{t:Option Int}(hb:0<=r.b)(h:ROk R)(hl:R.1.length<=50)(hw:R.1[g]?=some .out)(hs:bw R.2 g=false):∃ T,aO N (xE settled wait wo) 3 [r.d,aN R,(Dd.ask wr g t).d] S=some (iw (uz r R wr g t),S++T):=by
 have hst:aA N [r.d,aN R,(Dd.ask wr g t).d]=[some r.d,some (aN R),some (Dd.ask wr g t).d,none,none,none,none,none,none,none]:=by simp [aA,hN,List.replicate]
 rw [bb (show [r.d,aN R,(Dd.ask wr g t).d].length=3 from rfl),hst]
 have hle:=h.len
 have ok:=zc (wr:=wr) (t:=t) h hw hs
 have g3:∀ env S,aJ 3 (af (ag 3) (af (ag 4) (af (ag 5) (aB)))) (Dd.ask wr g t).d env S=(af (ag 3) (af (ag 4) (af (ag 5) (aB)))) [.str (bx wr),.int (g:Int),bF t] env S:=fun env S=>rQ
 have g2:∀ env S,aJ 2 (af (ag 6) (af (ag 7) (aB))) (aN R) env S=(af (ag 6) (af (ag 7) (aB))) [cA R.1,cb R.2] env S:=fun env S=>bV
 have g2':∀ (x y:D) env S,aJ 2 (af (ag 1) (af (ag 9) (aB))) (.tup [x,y]) env S=(af (ag 1) (af (ag 9) (aB))) [x,y] env S:=fun x y env S=>bV
 have k1:∀ S (x:D),cr ([x],S)=some (.tup [x],S):=fun S x=>aU (by simp)
 have k2:∀ S (x y:D),cr ([x,y],S)=some (.tup [x,y],S):=fun S x y=>aU (by simp)
 have k4:∀ S (x y z u:D),cr ([x,y,z,u],S)=some (.tup [x,y,z,u],S):=fun S x y z u=>aU (by simp)
 have hi:lJ (ay (aq bX (ab 5) (mC (.int 0)))) (mC (.int 1)) (ab 5) [some r.d,some (aN R),some (Dd.ask wr g t).d,some (.str (bx wr)),some (.int (g:Int)),some (bF t),some (cA R.1),some (cb R.2),none,none] S=some (bF (if t=some 0 then some 1 else t),S):=by
  simp only [lE,aI,aF,aj,bH,bN,bM,oj,ob,ai,aw,bi,av,jo,aE]
  by_cases z:t=some 0
  ·rw [decide_eq_true z,if_pos z];simp only [wa,bi];rfl
  ·rw [decide_eq_false z,if_neg z];simp only [AY,aj,bH,bN,bM,oj,ob,ai]
 have ed:D.tup [.int (g:Int),.str (bx wr),.int 0,bF (if t=some 0 then some 1 else t)]=(lA wr g t).d:=rfl
 have ae:aR S (cb R.2) (.tup [(lA wr g t).d])=some (cb (R.2++[lA wr g t])):=by
  show aR S (.tup (R.2.map En.d)) _=_
  rw [gz (by simp;omega)];simp [cb]
 have so:=O S r (R.1,R.2++[lA wr g t]) hb ok hl
 have so':settled [r.d,.tup [cA R.1,cb (R.2++[lA wr g t])]] S=_:=so
 have fw:=xa (r:=r) (R:=(R.1,R.2++[lA wr g t])) hl
 have lnS:(aX r (R.1,R.2++[lA wr g t])).1.1.length=R.1.length:=(dw (r:=r) ok).2
 have okS:=(dw (r:=r) ok).1
 have ln2:=okS.len
 generalize hA:aX r (R.1,R.2++[lA wr g t])=A at so' fw lnS okS ln2
 have nr:¬ A.1.1[g]?=some .rising:=fun z=>by
  rw [<- hA] at z
  have:=nV _ z
  rw [hw] at this;cases this
 have wt:∀ S,wait [aN A.1,.int (g:Int)] S=some (jC A.1 g,S):=fun S=>W S A.1 g (by omega)
 have vo:∀ S,wo [aN A.1,.int (g:Int)] S=some (aN (A.1.1,A.1.2.filter fun e=>decide (e.g≠g)),S):=fun S=>V S A.1 g (by omega)
 have e1:∀ S (w:Str),aR S (cM A.2) (.tup [.tup [.str w,.int (g:Int)]])=some (cM (A.2++[⟨w,g⟩])):=fun S w=>DC (l:=[⟨w,g⟩]) (by omega) (by simp)
 have wb:lY (jC A.1 g) .non = !bw A.1.2 g:=by rw [kR,decide_eq_false nr,Bool.false_or]
 refine⟨[.lst (A.2.map Ev.d)],?_⟩
 simp only [xE,aQ,bj,aj,bH,bN,bM,oj,ob,ai,bm,g3,bo,aT,cH,bG,eK,eY,bK,aC,g2,bg,ao,bi,hi,am,az,al,k4,ed,aG,aF,aw,k1,av,ae,k2,bd,so',g2',bp,aI,wt,lF,wb,aE]
 unfold uz
 rw [hA]
 dsimp only
 cases hst:bw A.1.2 g with
 | false=>
  rw [if_pos rfl]
  simp only [Bool.not_false,bT,aW,bg,ao,aj,bH,bN,bM,oj,ob,ai,am,az,al,k2,bt,bQ,aH,iw]
 | true=>
  rw [if_neg (by decide)]
  simp only [Bool.not_true,bO,bA,ob,aC,aQ,bp,aI,aF,aj,bH,bN,bM,oj,ai,aw,bi,av,jo,aE]
  by_cases z:t=some 0
  ·rw [decide_eq_true z,if_pos z]
   simp only [bT,aW,bg,ao,aG,aj,bH,bN,bM,oj,ob,ai,am,az,al,bd,vo,aF,aw,bi,k2,k1,av,e1,bt,bQ,aH,iw]
  ·rw [decide_eq_false z,if_neg z]
   simp only [bO,bA,ob,aC,aW,bg,ao,aj,bH,bN,bM,oj,ai,am,az,al,aF,aw,bi,k2,k1,av,e1,bt,aH,iw]
theorem Ek(h:ROk R){k:Ak}{w:Wd}(hs:bw R.2 g=false):qv r k w g R.2=if k=.down\/k=.leave then sM r w R.2 else R.2:=by
 unfold qv
 refine Bs ?_
 split
 ·unfold sM
  split
  ·unfold bw
   rw [List.any_map]
   refine Eq.trans ?_ hs
   unfold bw
   congr 1
   funext e
   show decide ((if e.wr=true then e else { e with m:=1 }).g=g)=_
   cases e.wr <;> rfl
  ·exact hs
 ·exact hs
def xB(settled wait gw ww:PF):MS:=ax (aD (aq ar (ab 2) (mC (.int 1))) (ag 3)) (ax (bD (eV (ay (aq bX (aq ar (ab 0) (mC (.int 3))) (mC (.int 0)))) (cW (ak 2 gw (aa (ab 1) (aa (aM (aa (mC (.str "rising")) (ah))) (ah)))))) (aV (aM (aa (ab 1) (aa (aM (aa (aM (aa (mC (.str "no")) (aa (ab 3) (ah)))) (ah))) (ah))))) (aY)) (ax (aD (ak 2 settled (aa (ab 0) (aa (ak 3 ww (aa (ab 1) (aa (ab 3) (aa (mC (.str "rising")) (ah))))) (ah)))) (aJ 2 (af (ag 1) (af (ag 4) (aB))))) (ax (bD (ay (aq vj (ak 2 wait (aa (ab 1) (aa (ab 3) (ah)))) (mC .non))) (aV (aM (aa (ab 1) (aa (ab 4) (ah))))) (aY)) (aV (aM (aa (ab 1) (aa (aq aR (ab 4) (aM (aa (aM (aa (mC (.str "waits")) (aa (ab 3) (ah)))) (ah)))) (ah))))))))
theorem QE(O:DeOk settled wait gw ww)(hN:N.length=5)(hb:0<=r.b)(h:ROk R)(hl:R.1.length<=50)(hw:R.1[g]?=some .reads):∃ T,aO N (xB settled wait gw ww) 3 [r.d,aN R,(Dd.act .up g).d] S=some (iw (if r.c=0\/Wd.rising∈R.1 then (R,[⟨"no",g⟩]) else lK r R .up g .reads),S++T):=by
 have hst:aA N [r.d,aN R,(Dd.act .up g).d]=[some r.d,some (aN R),some (Dd.act .up g).d,none,none]:=by simp [aA,hN,List.replicate]
 rw [bb (show [r.d,aN R,(Dd.act .up g).d].length=3 from rfl),hst]
 have hg:g<R.1.length:=(List.getElem?_eq_some_iff.mp hw).1
 have x1:ar S (Dd.act .up g).d (.int 1)=some (.int (g:Int)):=rfl
 have x3:ar S r.d (.int 3)=some (.int r.c):=rfl
 have k1:∀ S (x:D),cr ([x],S)=some (.tup [x],S):=fun S x=>aU (by simp)
 have k2:∀ S (x y:D),cr ([x,y],S)=some (.tup [x,y],S):=fun S x y=>aU (by simp)
 have gr:gw [aN R,.tup [.str "rising"]] S=some (nt (rN (fun w=>decide (w∈[Wd.rising])) R.1),S):=O.g S R [.rising] (by omega)
 have tr:yu (nt (rN (fun w=>decide (w∈[Wd.rising])) R.1),S)=some (decide (Wd.rising∈R.1),S):=by
  cases hx:rN (fun w=>decide (w∈[Wd.rising])) R.1 with
  | nil=>
   have:¬ Wd.rising∈R.1:=fun z=>by
    obtain⟨i,hi⟩:=List.mem_iff_getElem?.mp z
    have:i∈rN (fun w=>decide (w∈[Wd.rising])) R.1:=mem_ixW.mpr ⟨_,hi,by simp⟩
    rw [hx] at this;cases this
   rw [decide_eq_false this];rfl
  | cons i l=>
   have:i∈rN (fun w=>decide (w∈[Wd.rising])) R.1:=by rw [hx];exact List.mem_cons_self
   obtain⟨w,h1,h2⟩:=mem_ixW.mp this
   have e:w=.rising:=by simpa using h2
   subst e
   rw [decide_eq_true (List.mem_of_getElem? h1)];rfl
 have ref:(r.c=0\/Wd.rising∈R.1)->∀ env,env=[some r.d,some (aN R),some (Dd.act .up g).d,some (.int (g:Int)),none]->eV (ay (aq bX (aq ar (ab 0) (mC (.int 3))) (mC (.int 0)))) (cW (ak 2 gw (aa (ab 1) (aa (aM (aa (mC (.str "rising")) (ah))) (ah))))) env S=some (true,S):=fun z env he=>by
  subst he
  by_cases hc:r.c=0
  ·have:(r.c == 0)=true:=by rw [hc];rfl
   simp only [iy,aI,aF,aj,bH,bN,bM,oj,ob,ai,aw,bi,av,x3,jU,this,aE,yv]
  ·have q:(r.c == 0)=false:=beq_eq_false_iff_ne.mpr hc
   simp only [iy,aI,aF,aj,bH,bN,bM,oj,ob,ai,aw,bi,av,x3,jU,q,aE,ll,dB,aG,ao,am,bg,az,al,k1,bd,gr,tr,decide_eq_true (z.resolve_left hc)]
 by_cases z:r.c=0\/Wd.rising∈R.1
 ·rw [if_pos z]
  refine⟨[],?_⟩
  simp only [xB,aQ,bj,aF,aj,bH,bN,bM,oj,ob,ai,aw,bi,av,x1,bm,aT,eK,eY,bK,aC,bp,ref z _ rfl,bT,aW,bg,ao,am,az,al,k2,k1,bt,bQ,aH,List.append_nil]
  rfl
 ·rw [if_neg z]
  have hc:(r.c == 0)=false:=beq_eq_false_iff_ne.mpr fun q=>z (.inl q)
  have hr:¬ Wd.rising∈R.1:=fun q=>z (.inr q)
  have hs:=sJ h hw (by decide)
  have wwo:ww [aN R,.int (g:Int),.str "rising"] S=some (aN (R.1.set g .rising,R.2),S):=O.ww S R g .rising hg (by omega)
  have ok:ROk (R.1.set g .rising,R.2):=h.setW g .rising fun e he=>iH hs he
  have so:=O.s S r (R.1.set g .rising,R.2) hb ok (by simp;omega)
  have fw:=xa (r:=r) (R:=(R.1.set g .rising,R.2)) (by simp;omega)
  have lnS:(aX r (R.1.set g .rising,R.2)).1.1.length=R.1.length:=(dw (r:=r) ok).2.trans (by simp)
  have ns:bw (aX r (R.1.set g .rising,R.2)).1.2 g=false:=by
   cases q:bw (aX r (R.1.set g .rising,R.2)).1.2 g with
   | false=>rfl
   | true=>have:=vD _ q;rw [hs] at this;cases this
  have aL:lK r R .up g .reads=((aX r (R.1.set g .rising,R.2)).1,(aX r (R.1.set g .rising,R.2)).2++(if (aX r (R.1.set g .rising,R.2)).1.1[g]?=some .rising then [⟨"waits",g⟩] else [])):=by
   unfold lK
   rw [Ek h hs,if_neg (by decide)]
   rfl
  rw [aL]
  generalize aX r (R.1.set g .rising,R.2)=A at so fw lnS ns
  have wt:∀ S,wait [aN A.1,.int (g:Int)] S=some (jC A.1 g,S):=fun S=>O.w S A.1 g (by omega)
  have g2:∀ (x y:D) env S,aJ 2 (af (ag 1) (af (ag 4) (aB))) (.tup [x,y]) env S=(af (ag 1) (af (ag 4) (aB))) [x,y] env S:=fun x y env S=>bV
  have e1:∀ S (w:Str),aR S (cM A.2) (.tup [.tup [.str w,.int (g:Int)]])=some (cM (A.2++[⟨w,g⟩])):=fun S w=>DC (l:=[⟨w,g⟩]) (by omega) (by simp)
  have wb:lY (jC A.1 g) .non = !decide (A.1.1[g]?=some .rising):=by rw [kR,ns,Bool.or_false]
  refine⟨[.lst (A.2.map Ev.d)],?_⟩
  simp only [xB,aQ,bj,aF,aj,bH,bN,bM,oj,ob,ai,aw,bi,av,x1,bm,aT,eK,eY,bK,aC,bp,iy,aI,x3,jU,hc,aE,ll,dB,aG,ao,am,bg,az,al,k1,bd,gr,tr,decide_eq_false hr,bO,bA,bE,wwo,so,g2,bo,cH,bG,wt,lF,wb]
  by_cases q:A.1.1[g]?=some .rising
  ·rw [decide_eq_true q,if_pos q]
   simp only [Bool.not_true,bO,bA,ob,aC,aW,bg,ao,aj,bH,bN,bM,oj,ai,am,az,al,aF,aw,bi,k2,k1,av,e1,bt,aH,iw]
  ·rw [decide_eq_false q,if_neg q,List.append_nil]
   simp only [Bool.not_false,bT,aW,bg,ao,aj,bH,bN,bM,oj,ob,ai,am,az,al,k2,bt,bQ,aH,iw]
def oK(sb ww tu:PF)(x y:Str):MS:=ax (aD (aq ar (ab 2) (mC (.int 1))) (ag 3)) (aV (ak 3 sb (aa (ab 0) (aa (ak 3 ww (aa (ak 3 tu (aa (ab 0) (aa (ab 1) (aa (ab 3) (ah))))) (aa (ab 3) (aa (mC (.str x)) (ah))))) (aa (aM (aa (aM (aa (mC (.str y)) (aa (ab 3) (ah)))) (ah))) (ah))))))
theorem zf{k:Ak}{w w':Wd}{es:List En}(hg:g<R.1.length)(hk:gl k w=w')(hr:w'≠.rising)(he:qv r k w g R.2=es):lK r R k g w=((aX r (R.1.set g w',es)).1,fM k g++(aX r (R.1.set g w',es)).2):=by
 unfold lK
 rw [hk,he]
 dsimp only
 rw [if_neg,List.append_nil]
 intro z
 have:=nV _ z
 rw [List.getElem?_set_self hg] at this
 exact hr (Option.some.inj this)
theorem BC(SB:Pu sb)(WW:∀ (S:ac) (R:Rm) (g:Nat) (w:Wd),g<R.1.length->R.1.length<=100->ww [aN R,.int (g:Int),w.d] S=some (aN (R.1.set g w,R.2),S))(TU:TuOk tu)(hN:N.length=4)(hb:0<=r.b)(h:ROk R)(hl:R.1.length<=50){w w':Wd}{k:Ak}{y:Str}(hw:R.1[g]?=some w)(ho:w≠.out)(hk:k=.down\/k=.leave)(ht:gl k w=w')(hr:w'≠.rising)(hf:fM k g=[⟨y,g⟩]) :
  ∃ T,aO N (oK sb ww tu w'.s y) 3 [r.d,aN R,(Dd.act k g).d] S=some (iw (lK r R k g w),S++T):=by
 have hst:aA N [r.d,aN R,(Dd.act k g).d]=[some r.d,some (aN R),some (Dd.act k g).d,none]:=by simp [aA,hN,List.replicate]
 rw [bb (show [r.d,aN R,(Dd.act k g).d].length=3 from rfl),hst]
 have hg:g<R.1.length:=(List.getElem?_eq_some_iff.mp hw).1
 have hle:=h.len
 have hs:=sJ h hw ho
 have he:qv r k w g R.2=sM r w R.2:=by rw [Ek h hs,if_pos hk]
 rw [zf hg ht hr he,hf]
 have x1:ar S (Dd.act k g).d (.int 1)=some (.int (g:Int)):=rfl
 have k1:∀ S (x:D),cr ([x],S)=some (.tup [x],S):=fun S x=>aU (by simp)
 have k2:∀ S (x y:D),cr ([x,y],S)=some (.tup [x,y],S):=fun S x y=>aU (by simp)
 have t1:=TU S r R g w hw (by omega)
 have w1:ww [aN (R.1,sM r w R.2),.int (g:Int),.str w'.s] S=some (aN (R.1.set g w',sM r w R.2),S):=WW S (R.1,sM r w R.2) g w' hg (by show R.1.length<=100;omega)
 have ok:ROk (R.1.set g w',sM r w R.2):=by rw [<- he];exact zg h _
 obtain⟨T,s1⟩:=SB S r (R.1.set g w',sM r w R.2) [⟨y,g⟩] hb ok (by simp;omega) (by simp)
 refine⟨T,?_⟩
 have s1':sb [r.d,aN (R.1.set g w',sM r w R.2),.tup [.tup [.str y,.int (g:Int)]]] S=_:=s1
 simp only [oK,aQ,bj,aF,aj,bH,bN,bM,oj,ob,ai,aw,bi,av,x1,bm,aT,eK,eY,bK,aC,aW,aG,ao,am,az,al,bE,t1,w1,bg,k2,k1,s1',bt,aH]
def oI(sb ww wo wait:PF):MS:=ax (aD (aq ar (ab 2) (mC (.int 1))) (ag 3)) (ax (bD (ay (aq bX (ak 2 wait (aa (ab 1) (aa (ab 3) (ah)))) (mC (.str "up")))) (aD (ak 3 ww (aa (ab 1) (aa (ab 3) (aa (mC (.str "reads")) (ah))))) (ag 4)) (aD (ak 2 wo (aa (ab 1) (aa (ab 3) (ah)))) (ag 4))) (aV (ak 3 sb (aa (ab 0) (aa (ab 4) (aa (aM (aa (aM (aa (mC (.str "ends")) (aa (ab 3) (ah)))) (ah))) (ah)))))))
theorem Es:bX S (jC R g) (.str "up")=some (.bl (decide (R.1[g]?=some .rising))):=by
 unfold jC
 by_cases h:R.1[g]?=some .rising
 ·rw [if_pos h,decide_eq_true h,cP];rfl
 ·rw [if_neg h,decide_eq_false h]
  cases R.2.find? fun e=>decide (e.g=g) with
  | none=>rw [lv rfl rfl];rfl
  | some e=>
   show bX S (.str (bx e.wr)) (.str "up")=_
   rw [cP];cases e.wr <;> rfl
theorem IL(SB:Pu sb)(WW:∀ (S:ac) (R:Rm) (g:Nat) (w:Wd),g<R.1.length->R.1.length<=100->ww [aN R,.int (g:Int),w.d] S=some (aN (R.1.set g w,R.2),S))(V:Ui wo)(W:qw wait)(hN:N.length=5)(hb:0<=r.b)(h:ROk R)(hl:R.1.length<=50){w:Wd}(hw:R.1[g]?=some w)(hc:gW R (.act .stop g)=true) :
  ∃ T,aO N (oI sb ww wo wait) 3 [r.d,aN R,(Dd.act .stop g).d] S=some (iw (lK r R .stop g w),S++T):=by
 have hst:aA N [r.d,aN R,(Dd.act .stop g).d]=[some r.d,some (aN R),some (Dd.act .stop g).d,none,none]:=by simp [aA,hN,List.replicate]
 rw [bb (show [r.d,aN R,(Dd.act .stop g).d].length=3 from rfl),hst]
 have hg:g<R.1.length:=(List.getElem?_eq_some_iff.mp hw).1
 have hle:=h.len
 have x1:ar S (Dd.act .stop g).d (.int 1)=some (.int (g:Int)):=rfl
 have k1:∀ S (x:D),cr ([x],S)=some (.tup [x],S):=fun S x=>aU (by simp)
 have k2:∀ S (x y:D),cr ([x,y],S)=some (.tup [x,y],S):=fun S x y=>aU (by simp)
 have wt:wait [aN R,.int (g:Int)] S=some (jC R g,S):=W S R g (by omega)
 have fin:∀ R':Rm,ROk R'->R'.1.length=R.1.length->lK r R .stop g w=((aX r R').1,fM .stop g++(aX r R').2)->∃ T,sb [r.d,aN R',.tup [.tup [.str "ends",.int (g:Int)]]] S=some (iw (lK r R .stop g w),S++T):=fun R' ok hl' ha=>by
  obtain⟨T,s1⟩:=SB S r R' [⟨"ends",g⟩] hb ok (by omega) (by simp)
  refine⟨T,?_⟩
  rw [ha];exact s1
 by_cases hr:w=.rising
 ·subst hr
  have hs:=sJ h hw (by decide)
  have he:qv r .stop .rising g R.2=R.2:=by rw [Ek h hs,if_neg (by decide)]
  have w1:ww [aN R,.int (g:Int),.str "reads"] S=some (aN (R.1.set g .reads,R.2),S):=WW S R g .reads hg (by omega)
  obtain⟨T,s1⟩:=fin (R.1.set g .reads,R.2) (h.setW g .reads fun e q=>iH hs q) (by simp) (zf hg rfl (by decide) he)
  refine⟨T,?_⟩
  simp only [oI,aQ,bj,aF,aj,bH,bN,bM,oj,ob,ai,aw,bi,av,x1,bm,aT,eK,eY,bK,aC,bp,aI,aG,ao,am,az,al,bd,wt,Es,decide_eq_true hw,aE,bT,bE,w1,aW,bg,k2,k1,s1,bt,aH]
 ·have ho:w=.out:=by
   unfold gW at hc
   rw [Bool.or_eq_true] at hc
   rcases hc with q | q
   ·obtain⟨e,he,hge⟩:=List.any_eq_true.mp q
    have:=h.out e he
    rw [of_decide_eq_true hge,hw] at this
    exact Option.some.inj this
   ·have:=of_decide_eq_true q;rw [hw] at this;exact absurd (Option.some.inj this) hr
  subst ho
  have hn:¬ R.1[g]?=some .rising:=by rw [hw];intro z;cases z
  have v1:wo [aN R,.int (g:Int)] S=some (aN (R.1,R.2.filter fun e=>decide (e.g≠g)),S):=V S R g (by omega)
  have hset:R.1.set g .out=R.1:=by
   obtain⟨q,e⟩:=List.getElem?_eq_some_iff.mp hw
   rw [<- e];exact List.set_getElem_self q
  have ha:=zf (r:=r) (R:=R) (g:=g) (k:=.stop) (w:=.out) (w':=.out) (es:=R.2.filter fun e=>decide (e.g≠g)) hg rfl (by decide) (by unfold qv;rw [if_neg (by decide)])
  rw [hset] at ha
  obtain⟨T,s1⟩:=fin (R.1,R.2.filter fun e=>decide (e.g≠g)) (ROk.filter h _) rfl ha
  refine⟨T,?_⟩
  simp only [oI,aQ,bj,aF,aj,bH,bN,bM,oj,ob,ai,aw,bi,av,x1,bm,aT,eK,eY,bK,aC,bp,aI,aG,ao,am,az,al,bd,wt,Es,decide_eq_false hn,aE,bO,v1,aW,bg,k2,k1,bE,s1,bt,aH]
def oJ:MS:=aV (lJ (ay (aq vj (ab 0) (mC .non))) (mC .non) (aq nD (ab 0) (mC (.int 1))))
theorem Kj(hN:N.length=1){t:Option Int}:aO N oJ 1 [bF t] S=some (bF (t.map (· - 1)),S):=by
 have hst:aA N [bF t]=[some (bF t)]:=by simp [aA,hN]
 rw [bb (show [bF t].length=1 from rfl),hst]
 cases t with
 | none=>
  have i1:lY (bF none) .non=true:=rfl
  simp only [oJ,aW,lE,aI,aF,aj,bH,oj,ob,ai,aw,bi,av,lF,i1,aE,wa,bt,aH];rfl
 | some t=>
  have i1:lY (bF (some t)) .non=false:=rfl
  have s1:nD S (bF (some t)) (.int 1)=some (bF (some (t - 1))):=yI
  simp only [oJ,aW,lE,aI,aF,aj,bH,oj,ob,ai,aw,bi,av,lF,i1,aE,AY,s1,bt,aH];rfl
def tkA(ol:PF):ME:=bJ (da (ab 4)) (aJ 4 (af (ag 0) (af (ag 1) (af (ag 2) (af (ag 3) (aB)))))) (bU) (aM (aa (ab 0) (aa (ab 1) (aa (ab 2) (aa (ak 1 ol (aa (ab 3) (ah))) (ah)))))) [none,none,none,none]
def tkB:ME:=bJ (da (ab 5)) (ag 0) (ay (aq bX (aq ar (ab 0) (mC (.int 3))) (mC (.int 0)))) (aM (aa (mC (.str "ends")) (aa (aq ar (ab 0) (mC (.int 0))) (ah)))) [none]
def tkC:ME:=bJ (da (ab 5)) (ag 0) (ay (aq gk (aq ar (ab 0) (mC (.int 3))) (mC (.int 0)))) (ab 0) [none]
def sx(sb ol:PF):MS:=ax (aD (ab 1) (aJ 2 (af (ag 3) (af (ag 4) (aB))))) (ax (aD (tkA ol) (ag 5)) (ax (aD (be (aP (cm .tup)) (aa tkB (ah))) (ag 6)) (ax (aD (be (aP (cm .tup)) (aa tkC (ah))) (ag 7)) (aV (ak 3 sb (aa (ab 0) (aa (aM (aa (ab 3) (aa (ab 7) (ah)))) (aa (ab 6) (ah)))))))))
theorem IE(SB:Pu sb)(L:∀ (S:ac) (t:Option Int),ol [bF t] S=some (bF (t.map (· - 1)),S))(hN:N.length=8)(hb:0<=r.b)(h:ROk R)(hl:R.1.length<=50):∃ T,aO N (sx sb ol) 3 [r.d,aN R,Dd.tick.d] S=some (iw (nH r R),S++T):=by
 have hst:aA N [r.d,aN R,Dd.tick.d]=[some r.d,some (aN R),some Dd.tick.d,none,none,none,none,none]:=by simp [aA,hN,List.replicate]
 rw [bb (show [r.d,aN R,Dd.tick.d].length=3 from rfl),hst]
 have hle:=h.len
 have g2:∀ env S,aJ 2 (af (ag 3) (af (ag 4) (aB))) (aN R) env S=(af (ag 3) (af (ag 4) (aB))) [cA R.1,cb R.2] env S:=fun env S=>bV
 have k2:∀ x y:D,cr ([x,y],S)=some (.tup [x,y],S):=fun x y=>aU (by simp)
 have k4:∀ x y z u:D,cr ([x,y,z,u],S)=some (.tup [x,y,z,u],S):=fun x y z u=>aU (by simp)
 have a:=Kp (S:=S) (es:=R.2) (cap:=[none,none,none,none]) (env:=[some r.d,some (aN R),some Dd.tick.d,some (cA R.1),some (cb R.2),none,none,none]) (a:=none) (b:=none) (c:=none) (d:=none) (e:=aM (aa (ab 0) (aa (ab 1) (aa (ab 2) (aa (ak 1 ol (aa (ab 3) (ah))) (ah)))))) (f:=fun x=>(gj x).d) rfl (by omega) fun x=>by
  simp only [bg,ao,aj,bH,bN,bM,oj,ob,ai,am,aG,az,al,pi,L,k4];rfl
 have b:=ft (S:=S) (t:=ay (aq bX (aq ar (ab 0) (mC (.int 3))) (mC (.int 0)))) (e:=aM (aa (mC (.str "ends")) (aa (aq ar (ab 0) (mC (.int 0))) (ah)))) (cap:=[none]) (env:=[some r.d,some (aN R),some Dd.tick.d,some (cA R.1),some (cb R.2),some (.lst ((R.2.map gj).map En.d)),none,none]) (rest:=[]) (a:=none) (enc:=En.d) (p:=fun e=>decide (e.t=some 0)) (f:=fun e=>Ev.d ⟨"ends",e.g⟩) (xs:=R.2.map gj) rfl (by rw [List.length_map];omega) (fun e _=>by
  have x3:ar S e.d (.int 3)=some (bF e.t):=rfl
  simp only [aI,aF,aj,bH,bN,bM,oj,ob,ai,aw,bi,av,x3,jo,aE]) (fun e _ _=>by
  simp only [bg,ao,bi,ob,am,aF,aj,bH,oj,ai,aw,av,En.ix0,az,al,k2];rfl)
 have c:=ft (S:=S) (t:=ay (aq gk (aq ar (ab 0) (mC (.int 3))) (mC (.int 0)))) (e:=ab 0) (cap:=[none]) (env:=[some r.d,some (aN R),some Dd.tick.d,some (cA R.1),some (cb R.2),some (.lst ((R.2.map gj).map En.d)),some (cM (((R.2.map gj).filter fun e=>decide (e.t=some 0)).map fun e=>⟨"ends",e.g⟩)),none]) (rest:=[]) (a:=none) (enc:=En.d) (p:=fun e=>decide (e.t≠some 0)) (f:=En.d) (xs:=R.2.map gj) rfl (by rw [List.length_map];omega) (fun e _=>by
  have x3:ar S e.d (.int 3)=some (bF e.t):=rfl
  simp only [aI,aF,aj,bH,bN,bM,oj,ob,ai,aw,bi,av,x3,Bv,aE,ne_eq,decide_not]) (fun e _ _=>by simp only [aj,bH,oj,ob,ai])
 have ma:(R.2.map fun x=>(gj x).d)=(R.2.map gj).map En.d:=by rw [List.map_map];rfl
 rw [ma] at a
 have it:∀ l:List D,Do (.lst l,S)=some (l,S):=fun l=>yw
 have sb1:aP (cm .tup) [.lst (((R.2.map gj).filter fun e=>decide (e.t=some 0)).map fun e=>Ev.d ⟨"ends",e.g⟩)] S=some (cM (((R.2.map gj).filter fun e=>decide (e.t=some 0)).map fun e=>⟨"ends",e.g⟩),S):=by
  rw [eW];unfold cM;rw [List.map_map];rfl
 have sc1:aP (cm .tup) [.lst (((R.2.map gj).filter fun e=>decide (e.t≠some 0)).map En.d)] S=some (cb ((R.2.map gj).filter fun e=>decide (e.t≠some 0)),S):=eW
 obtain⟨T,s1⟩:=SB S r (R.1,(R.2.map gj).filter fun e=>decide (e.t≠some 0)) (((R.2.map gj).filter fun(e:En)=>decide (e.t=some 0)).map fun(e:En)=>Ev.mk "ends" e.g) hb (ROk.filter (ROk.mapE h gj fun e=>rfl) _) hl (by
  rw [List.length_map];exact Nat.le_trans (List.length_filter_le _ _) (by rw [List.length_map];omega))
 refine⟨T,?_⟩
 have s1':sb [r.d,.tup [cA R.1,cb ((R.2.map gj).filter fun e=>decide (e.t≠some 0))],cM (((R.2.map gj).filter fun e=>decide (e.t=some 0)).map fun e=>⟨"ends",e.g⟩)] S=some (iw (nH r R),S++T):=s1
 simp only [sx,aQ,bj,aj,bH,bN,bM,oj,ob,ai,bm,g2,bo,aT,cH,bG,eK,eY,bK,aC,tkA,bY,dm,eg,a,bP,ao,tkB,it,b,am,az,al,bR,sb1,tkC,c,sc1,aW,aG,bg,k2,bE,s1',bt,aH]
structure BrOk(ask up down leave stop tick:PF):Prop where
 a:∀ (S:ac) (r:Rl) (R:Rm) (wr:Bool) (g:Nat) (t:Option Int),0<=r.b->ROk R->R.1.length<=50->R.1[g]?=some .out->bw R.2 g=false->∃ T,ask [r.d,aN R,(Dd.ask wr g t).d] S=some (iw (uz r R wr g t),S++T)
 u:∀ (S:ac) (r:Rl) (R:Rm) (g:Nat),0<=r.b->ROk R->R.1.length<=50->R.1[g]?=some .reads->∃ T,up [r.d,aN R,(Dd.act .up g).d] S=some (iw (if r.c=0\/Wd.rising∈R.1 then (R,[⟨"no",g⟩]) else lK r R .up g .reads),S++T)
 d:∀ (S:ac) (r:Rl) (R:Rm) (g:Nat) (w:Wd),0<=r.b->ROk R->R.1.length<=50->R.1[g]?=some w->w≠.out->∃ T,down [r.d,aN R,(Dd.act .down g).d] S=some (iw (lK r R .down g w),S++T)
 l:∀ (S:ac) (r:Rl) (R:Rm) (g:Nat) (w:Wd),0<=r.b->ROk R->R.1.length<=50->R.1[g]?=some w->w≠.out->∃ T,leave [r.d,aN R,(Dd.act .leave g).d] S=some (iw (lK r R .leave g w),S++T)
 s:∀ (S:ac) (r:Rl) (R:Rm) (g:Nat) (w:Wd),0<=r.b->ROk R->R.1.length<=50->R.1[g]?=some w->gW R (.act .stop g)=true->∃ T,stop [r.d,aN R,(Dd.act .stop g).d] S=some (iw (lK r R .stop g w),S++T)
 t:∀ (S:ac) (r:Rl) (R:Rm),0<=r.b->ROk R->R.1.length<=50->∃ T,tick [r.d,aN R,Dd.tick.d] S=some (iw (nH r R),S++T)
def brL(ask up down leave stop tick:PF):List (bC×Nat×PF):=[(.inr "read",3,ask),(.inr "write",3,ask),(.inr "up",3,up),(.inr "down",3,down),(.inr "leave",3,leave),(.inr "stop",3,stop),(.inr "tick",3,tick)]
def oM(l:List (bC×Nat×PF)):MS:=iF l 3 (aq ar (ab 2) (mC (.int 0))) (aa (ab 0) (aa (ab 1) (aa (ab 2) (ah))))
theorem jp{l:List (bC×Nat×PF)}{f:PF}{x y z d:D}{w:Str}(hN:N.length=4)(hx:ar S z (.int 0)=some (.str w))(hv:zp l (.inr w)=some (3,f)){S':ac}(hf:f [x,y,z] S=some (d,S')):aO N (oM l) 3 [x,y,z] S=some (d,S'):=by
 have hst:aA N [x,y,z]=[some x,some y,some z,none]:=by simp [aA,hN,List.replicate]
 rw [bb (show [x,y,z].length=3 from rfl),hst]
 have kd:=fun ms env=>Kv (S:=S) (d:=.str w) (ms:=ms) (env:=env) (i:=3) (l:=l) yr hv
 have k3:yx 3 f ([x,y,z],S)=(f [x,y,z] S).bind kRt:=GZ rfl
 simp only [oM,NU,aF,aj,bH,bN,bM,oj,ob,ai,aw,bi,av,hx,kd,eK,eY,ao,am,az,al,k3,hf,bt,aH]
theorem Gs{ask up down leave stop tick:PF}(B:BrOk ask up down leave stop tick)(hN:N.length=4){dd:Dd}{x:Rm×List Ev}(hb:0<=r.b)(h:ROk R)(hl:R.1.length<=50)(hd:dd.Ok R.1.length)(hx:gh r R dd=some x):∃ T,aO N (oM (brL ask up down leave stop tick)) 3 [r.d,aN R,dd.d] S=some (iw x,S++T):=by
 unfold gh at hx
 split at hx
 ·cases hx
 rename_i hcan
 rw [Bool.not_eq_false] at hcan
 split at hx
 ·cases hx
  obtain⟨T,e⟩:=B.t S r R hb h hl
  exact⟨T,jp (w:="tick") hN rfl (by rfl) e⟩
 ·rename_i wr g t
  cases hx
  unfold gW at hcan
  rw [Bool.and_eq_true] at hcan
  obtain⟨T,e⟩:=B.a S r R wr g t hb h hl (of_decide_eq_true hcan.1) (by simpa using hcan.2)
  refine⟨T,?_⟩
  cases wr
  ·exact jp (w:="read") hN rfl (by rfl) e
  ·exact jp (w:="write") hN rfl (by rfl) e
 ·rename_i k g
  have hg:g<R.1.length:=hd
  obtain⟨w,hw⟩:∃ w,R.1[g]?=some w:=⟨_,List.getElem?_eq_getElem hg⟩
  rw [hw] at hx
  dsimp only at hx
  cases k with
  | up=>
   have hr:R.1[g]?=some .reads:=of_decide_eq_true hcan
   rw [hw] at hr;cases hr
   obtain⟨T,e⟩:=B.u S r R g hb h hl hw
   refine⟨T,jp (w:="up") hN rfl (by rfl) ?_⟩
   rw [e]
   by_cases z:r.c=0\/Wd.rising∈R.1
   ·rw [if_pos ⟨rfl,z⟩] at hx;cases hx;rw [if_pos z]
   ·rw [if_neg (fun q=>z q.2)] at hx;cases hx;rw [if_neg z]
  | down=>
   rw [if_neg (fun q=>by cases q.1)] at hx;cases hx
   have ho:w≠.out:=fun z=>by
    subst z
    have hc2:(decide (R.1[g]?=some Wd.writes)||decide (R.1[g]?=some Wd.raised))=true:=hcan
    rw [hw] at hc2;revert hc2;decide
   obtain⟨T,e⟩:=B.d S r R g w hb h hl hw ho
   exact⟨T,jp (w:="down") hN rfl (by rfl) e⟩
  | leave=>
   rw [if_neg (fun q=>by cases q.1)] at hx;cases hx
   have ho:w≠.out:=fun z=>by
    subst z
    exact(of_decide_eq_true hcan) hw
   obtain⟨T,e⟩:=B.l S r R g w hb h hl hw ho
   exact⟨T,jp (w:="leave") hN rfl (by rfl) e⟩
  | stop=>
   rw [if_neg (fun q=>by cases q.1)] at hx;cases hx
   obtain⟨T,e⟩:=B.s S r R g w hb h hl hw hcan
   exact⟨T,jp (w:="stop") hN rfl (by rfl) e⟩
end
end MI
namespace MI
open PySem PySem.Spec PyProof.Rows L2
open M hiding mC ab aq ay cX cW dh eV dJ du ve gH lJ ah aa aM ej dZ AG bv bS bu be dL ak aY ax aV dM bD ag aB af aJ gc aD cC dD jd bJ da bU dY eX lV jP nB hX fq fh ee fj fg dC df iF
section
variable{S:ac}{N:List Str}{r:Rl}{R:Rm}{n:Nat}{dd:Dd}
def xC:MS:=aV (du (dL "tuple" (ab 0)) (aq bX (be (aP fN) (aa (ab 0) (ah))) (ab 1)))
def Qy(f:PF):Prop:=∀ (S:ac) (xs:List D) (k:Int),f [.tup xs,.int k] S=some (.bl (decide ((xs.length:Int)=k)),S)
theorem MD(hN:N.length=2){xs:List D}{k:Int}:aO N xC 2 [.tup xs,.int k] S=some (.bl (decide ((xs.length:Int)=k)),S):=by
 have hst:aA N [D.tup xs,D.int k]=[some (.tup xs),some (.int k)]:=by simp [aA,hN]
 rw [bb (show [D.tup xs,D.int k].length=2 from rfl),hst]
 have it:kH "tuple" S (.tup xs)=some (.bl true):=rfl
 simp only [xC,aW,oh,Kb,aj,bH,bN,bM,oj,ob,ai,Ku,it,tN,aF,bP,ao,am,az,al,bR,yJ,aw,av,jU,bt,aH]
 rfl
def sv:MS:=aV (du (dL "str" (ab 0)) (aq oB (ab 0) (ab 1)))
def Mt(f:PF):Prop:=∀ (S:ac) (x:Str) (ys:List Str),x∈ys->f [.str x,.tup (ys.map .str)] S=some (.bl true,S)
theorem Iv(hN:N.length=2){x:Str}{ys:List Str}(h:x∈ys):aO N sv 2 [.str x,.tup (ys.map .str)] S=some (.bl true,S):=by
 have hst:aA N [D.str x,D.tup (ys.map .str)]=[some (.str x),some (.tup (ys.map .str))]:=by simp [aA,hN]
 rw [bb (show [D.str x,D.tup (ys.map .str)].length=2 from rfl),hst]
 have it:kH "str" S (.str x)=some (.bl true):=rfl
 have fi:oB S (.str x) (.tup (ys.map .str))=some (.bl true):=by
  rw [jT (ys:=ys.map .str) rfl rfl (by rw [List.all_eq_true];intro d hd;obtain⟨y,_,rfl⟩:=List.mem_map.mp hd;rfl)]
  have:((ys.map D.str).any fun d=>jA d (.str x))=true:=List.any_eq_true.mpr ⟨.str x,List.mem_map.mpr ⟨x,h,rfl⟩,by show (x == x)=true;simp⟩
  rw [this]
 simp only [sv,aW,oh,Kb,aj,bH,bN,bM,oj,ob,ai,Ku,it,tN,aF,aw,av,fi,bt,aH]
def pR:MS:=aV (du (dL "int" (ab 0)) (gH (dL "bool" (ab 0))))
def rE(whole:PF):MS:=aV (du (ak 1 whole (aa (ab 0) (ah))) (cX Oz Oz (ab 1) (ab 0) (ab 2)))
def QB(f:PF):Prop:=∀ (S:ac) (i lo hi:Int),f [.int i,.int lo,.int hi] S=some (.bl (decide (lo<=i)&&decide (i<=hi)),S)
theorem FQ(hN:N.length=1){i:Int}:aO N pR 1 [.int i] S=some (.bl true,S):=by
 have hst:aA N [D.int i]=[some (.int i)]:=by simp [aA,hN]
 rw [bb (show [D.int i].length=1 from rfl),hst]
 have i1:kH "int" S (.int i)=some (.bl true):=rfl
 have i2:kH "bool" S (.int i)=some (.bl false):=rfl
 simp [pR,i1,i2]
theorem Pm{whole:PF}(W:∀ (S:ac) (i:Int),whole [.int i] S=some (.bl true,S))(hN:N.length=3){i lo hi:Int}:aO N (rE whole) 3 [.int i,.int lo,.int hi] S=some (.bl (decide (lo<=i)&&decide (i<=hi)),S):=by
 have hst:aA N [D.int i,D.int lo,D.int hi]=[some (.int i),some (.int lo),some (.int hi)]:=by simp [aA,hN]
 rw [bb (show [D.int i,D.int lo,D.int hi].length=3 from rfl),hst]
 by_cases h:lo<=i
 ·simp [rE,W,h]
 ·simp [rE,W,h]
def lQ(tof word bet:PF):MS:=ax (bD (cW (ak 2 tof (aa (ab 1) (aa (mC (.int 1)) (ah))))) (aV (ak 2 word (aa (aq ar (ab 1) (mC (.int 0))) (aa (aM (aa (mC (.str "tick")) (ah))) (ah))))) (aY)) (ax (bD (cW (ak 2 tof (aa (ab 1) (aa (mC (.int 2)) (ah))))) (aV (du (ak 2 word (aa (aq ar (ab 1) (mC (.int 0))) (aa (mC (.tup [.str "up",.str "down",.str "leave",.str "stop"])) (ah)))) (ak 3 bet (aa (aq ar (ab 1) (mC (.int 1))) (aa (mC (.int 0)) (aa (aq nD (ab 0) (mC (.int 1))) (ah))))))) (aY)) (ax (bD (dJ (cW (ak 2 tof (aa (ab 1) (aa (mC (.int 3)) (ah)))))) (aV (mC (.bl false))) (aY)) (ax (aD (ab 1) (aJ 3 (af (ag 2) (af (ag 3) (af (ag 4) (aB)))))) (aV (du (ak 2 word (aa (ab 2) (aa (mC (.tup [.str "read",.str "write"])) (ah)))) (du (ak 3 bet (aa (ab 3) (aa (mC (.int 0)) (aa (aq nD (ab 0) (mC (.int 1))) (ah))))) (ve (aq vj (ab 4) (mC .non)) (ak 3 bet (aa (ab 4) (aa (mC (.int 0)) (aa (mC (.int 9)) (ah))))))))))))
theorem HM{tof word bet:PF}(T:Qy tof)(W:Mt word)(B:QB bet)(hN:N.length=5)(hd:dd.Ok n):aO N (lQ tof word bet) 2 [.int (n:Int),dd.d] S=some (.bl true,S):=by
 have hst:aA N [D.int (n:Int),dd.d]=[some (.int (n:Int)),some dd.d,none,none,none]:=by simp [aA,hN,List.replicate]
 rw [bb (show [D.int (n:Int),dd.d].length=2 from rfl),hst]
 cases dd with
 | tick=>
  have t1:tof [Dd.tick.d,.int 1] S=some (.bl true,S):=T S [.str "tick"] 1
  have x0:ar S Dd.tick.d (.int 0)=some (.str "tick"):=rfl
  have k1:cr ([.str "tick"],S)=some (.tup [.str "tick"],S):=aU (by simp)
  have w1:word [.str "tick",.tup [.str "tick"]] S=some (.bl true,S):=W S "tick" ["tick"] (by simp)
  simp only [lQ,aQ,bp,dB,aG,ao,aj,bH,bN,bM,oj,ob,ai,am,bi,az,al,bd,t1,fv,bT,aW,aF,aw,av,x0,bg,k1,w1,bt,bQ,aH]
 | act k g=>
  have hg:g<n:=hd
  have t1:tof [(Dd.act k g).d,.int 1] S=some (.bl false,S):=T S [.str k.s,.int (g:Int)] 1
  have t2:tof [(Dd.act k g).d,.int 2] S=some (.bl true,S):=T S [.str k.s,.int (g:Int)] 2
  have x0:ar S (Dd.act k g).d (.int 0)=some (.str k.s):=rfl
  have x1:ar S (Dd.act k g).d (.int 1)=some (.int (g:Int)):=rfl
  have w1:word [.str k.s,.tup [.str "up",.str "down",.str "leave",.str "stop"]] S=some (.bl true,S):=W S k.s ["up","down","leave","stop"] (by cases k <;> simp [Ak.s])
  have b1:bet [.int (g:Int),.int 0,.int ((n:Int) - 1)] S=some (.bl true,S):=by
   rw [B];congr 3;rw [decide_eq_true (by omega),decide_eq_true (by omega)];rfl
  simp only [lQ,aQ,bp,dB,aG,ao,aj,bH,bN,bM,oj,ob,ai,am,bi,az,al,bd,t1,fv,bO,bA,aC,t2,bT,aW,oh,aF,aw,av,x0,w1,tN,x1,yI,bE,b1,bt,bQ,aH]
 | ask wr g t=>
  have hg:g<n:=hd.1
  have t1:tof [(Dd.ask wr g t).d,.int 1] S=some (.bl false,S):=T S [.str (bx wr),.int (g:Int),bF t] 1
  have t2:tof [(Dd.ask wr g t).d,.int 2] S=some (.bl false,S):=T S [.str (bx wr),.int (g:Int),bF t] 2
  have t3:tof [(Dd.ask wr g t).d,.int 3] S=some (.bl true,S):=T S [.str (bx wr),.int (g:Int),bF t] 3
  have g3:∀ env S,aJ 3 (af (ag 2) (af (ag 3) (af (ag 4) (aB)))) (Dd.ask wr g t).d env S=(af (ag 2) (af (ag 3) (af (ag 4) (aB)))) [.str (bx wr),.int (g:Int),bF t] env S:=fun env S=>rQ
  have w1:word [.str (bx wr),.tup [.str "read",.str "write"]] S=some (.bl true,S):=W S (bx wr) ["read","write"] (by cases wr <;> simp [bx])
  have b1:bet [.int (g:Int),.int 0,.int ((n:Int) - 1)] S=some (.bl true,S):=by
   rw [B];congr 3;rw [decide_eq_true (by omega),decide_eq_true (by omega)];rfl
  simp only [lQ,aQ,bp,dB,aG,ao,aj,bH,bN,bM,oj,ob,ai,am,bi,az,al,bd,t1,fv,bO,bA,aC,t2,iK,t3,iN,Bool.not_true,bj,bm,g3,bo,aT,cH,bG,eK,eY,bK,aW,oh,w1,tN,aF,aw,av,yI,bE,b1,PR,lF]
  cases t with
  | none=>
   have i1:lY (bF none) .non=true:=rfl
   simp only [i1,kOr_t,ob,bt,aH]
  | some t=>
   have i1:lY (bF (some t)) .non=false:=rfl
   obtain⟨l0,l9⟩:=hd.2 t rfl
   have b2:bet [bF (some t),.int 0,.int 9] S=some (.bl true,S):=by
    rw [show bF (some t)=.int t from rfl,B];congr 3;rw [decide_eq_true l0,decide_eq_true l9];rfl
   simp only [i1,kOr_f,aG,ao,aj,bH,bN,bM,oj,ob,ai,am,bi,az,al,bE,b2,bt,aH]
theorem HF{x:Rm×List Ev}(h:gh r R dd=some x):gW R dd=true:=by
 unfold gh at h
 split at h
 ·cases h
 ·rename_i q;rw [Bool.not_eq_false] at q;exact q
theorem Ed{wait:PF}(hN:N.length=5):aO N (oN wait) 2 [aN R,Dd.tick.d] S=some (.bl true,S):=by
 have hst:aA N [aN R,Dd.tick.d]=[some (aN R),some Dd.tick.d,none,none,none]:=by simp [aA,hN,List.replicate]
 rw [bb (show [aN R,Dd.tick.d].length=2 from rfl),hst]
 have x0:ar S Dd.tick.d (.int 0)=some (.str "tick"):=rfl
 have tk:bX S (.str "tick") (.str "tick")=some (.bl true):=by rw [cP];rfl
 simp only [oN,aQ,bp,aI,aF,aj,bH,bN,bM,oj,ob,ai,aw,bi,av,x0,tk,aE,bT,aW,bt,bQ,aH]
theorem IY{x:Rm×List Ev}(h1:x.1.1.length<=50)(h2:x.1.2.length<=50)(h3:x.2.length<=500):cf 8 (iw x)=true:=by
 obtain⟨R,l⟩:=x
 have a1:((R.1.map Wd.d).all (cf 5))=true:=by rw [List.all_eq_true];intro d hd;obtain⟨w,_,rfl⟩:=List.mem_map.mp hd;rfl
 have a2:((R.2.map En.d).all (cf 5))=true:=by
  rw [List.all_eq_true];intro d hd;obtain⟨e,_,rfl⟩:=List.mem_map.mp hd
  obtain⟨g,wr,m,t⟩:=e
  cases t <;> rfl
 have a3:((l.map Ev.d).all (cf 6))=true:=by rw [List.all_eq_true];intro d hd;obtain⟨e,_,rfl⟩:=List.mem_map.mp hd;rfl
 have b1:cf 6 (cA R.1)=true:=by show (decide ((R.1.map Wd.d).length<=1000)&&_)=true;rw [a1,Bool.and_true];exact decide_eq_true (by simp;simp only at h1;omega)
 have b2:cf 6 (cb R.2)=true:=by show (decide ((R.2.map En.d).length<=1000)&&_)=true;rw [a2,Bool.and_true];exact decide_eq_true (by simp;simp only at h2;omega)
 have b3:cf 7 (cM l)=true:=by show (decide ((l.map Ev.d).length<=1000)&&_)=true;rw [a3,Bool.and_true];exact decide_eq_true (by simp;simp only at h3;omega)
 have c1:cf 7 (aN R)=true:=by show (true&&(cf 6 (cA R.1)&&(cf 6 (cb R.2)&&true)))=true;rw [b1,b2];rfl
 show (true&&(cf 7 (aN R)&&(cf 7 (cM l)&&true)))=true
 rw [c1,b3];rfl
theorem HE{x:Rm×List Ev}(h:ROk R)(hl:R.1.length<=5)(hx:gh r R dd=some x):x.2.length<=100:=by
 have hle:=h.len
 have sf:∀ R':Rm,R'.1.length=R.1.length->(aX r R').2.length<=10:=fun R' q=>Nat.le_trans (mP _) (by omega)
 unfold gh at hx
 split at hx
 ·cases hx
 rename_i hcan
 split at hx
 ·cases hx
  have:=sf (R.1,(R.2.map gj).filter fun e=>decide (e.t≠some 0)) rfl
  have q:((R.2.map gj).filter fun e=>decide (e.t=some 0)).length<=R.2.length:=Nat.le_trans (List.length_filter_le _ _) (by simp)
  unfold nH
  dsimp only
  rw [List.length_append,List.length_map]
  omega
 ·rename_i wr g t
  cases hx
  have:=sf (R.1,R.2++[lA wr g t]) rfl
  unfold uz
  dsimp only
  split
  ·omega
  ·split
   ·rw [List.length_append,List.length_singleton];omega
   ·rw [List.length_append,List.length_singleton];omega
 ·rename_i k g
  split at hx
  ·cases hx;simp
  ·split at hx
   ·rename_i w hw
    cases hx
    have:=sf (R.1.set g (gl k w),qv r k w g R.2) (by simp)
    have f1:(fM k g).length<=1:=by cases k <;> simp [fM]
    unfold lK
    dsimp only
    rw [List.length_append,List.length_append]
    split
    ·rw [List.length_singleton];omega
    ·rw [List.length_nil];omega
   ·cases hx
end
end MI
namespace MI
open PySem PySem.Spec PyProof.Rows L2
open M hiding mC ab aq ay cX cW dh eV dJ du ve gH lJ ah aa aM ej dZ AG bv bS bu be dL ak aY ax aV dM bD ag aB af aJ gc aD cC dD jd bJ da bU dY eX lV jP nB hX fq fh ee fj fg dC df iF
abbrev Rs:=List (Rm×List Ev)
inductive Ws(r:Rl):Rm->List Dd->Rs->Prop
 | nil {R:Rm}:Ws r R [] []
 | cons {R:Rm} {d:Dd} {x:Rm×List Ev} {l:List Dd} {xs:Rs} (h:gh r R d=some x) (t:Ws r x.1 l xs):Ws r R (d::l) (x::xs)
def dq:Rm->Rs->Rm
 | R,[]=>R
 | _,x::xs=>dq x.1 xs
def BY:Rm->Rs->List (Rm×Rm×List Ev)
 | _,[]=>[]
 | R,x::xs=>(R,x.1,x.2)::BY x.1 xs
def FT(z:Rm×Rm×List Ev):D:=.tup [aN z.1,aN z.2.1,cM z.2.2]
def wC(xs:Rs):List D:=xs.map fun x=>cM x.2
def gi(R:Rm)(xs:Rs):D:=.tup [aN (dq R xs),.tup (wC xs)]
section
variable{r:Rl}{R:Rm}{l:List Dd}{xs:Rs}{n:Nat}
theorem Ws.len(h:Ws r R l xs):xs.length=l.length:=by
 induction h with
 | nil=>rfl
 | cons _ _ ih=>rw [List.length_cons,List.length_cons,ih]
theorem Ws.snoc(h:Ws r R l xs){d:Dd}{x:Rm×List Ev}(hx:gh r (dq R xs) d=some x):Ws r R (l++[d]) (xs++[x])/\dq R (xs++[x])=x.1:=by
 induction h with
 | nil=>exact⟨.cons hx .nil,rfl⟩
 | cons q t ih=>exact⟨.cons q (ih hx).1,(ih hx).2⟩
theorem Ws.take(h:Ws r R l xs):∀ c:Nat,Ws r R (l.take c) (xs.take c):=by
 induction h with
 | nil=>intro c;rw [List.take_nil,List.take_nil];exact .nil
 | cons q t ih=>
  intro c
  cases c with
  | zero=>exact .nil
  | succ c=>exact .cons q (ih c)
theorem Behind.ws(h:Behind r n l R):(∃ xs,Ws r (ba n) l xs/\dq (ba n) xs=R)/\∀ d∈l,d.Ok n:=by
 induction h with
 | nil=>exact⟨⟨[],.nil,rfl⟩,fun d z=>by cases z⟩
 | snoc h hd e ih=>
  obtain⟨⟨xs,w,q⟩,o⟩:=ih
  rw [<- q] at e
  obtain⟨w',q'⟩:=w.snoc e
  refine⟨⟨_,w',q'⟩,fun d hd'=>?_⟩
  rcases List.mem_append.mp hd' with z | z
  ·exact o d z
  ·rw [List.mem_singleton.mp z];exact hd
theorem Ws.ok(h:Ws r R l xs):ROk R->ROk (dq R xs)/\(dq R xs).1.length=R.1.length:=by
 induction h with
 | nil=>exact fun h=>⟨h,rfl⟩
 | cons q t ih=>exact fun h=>⟨(ih (ie h q).1).1,(ih (ie h q).1).2.trans (ie h q).2⟩
theorem Ws.few(h:Ws r R l xs):ROk R->R.1.length<=5->∀ x∈xs,x.2.length<=100:=by
 induction h with
 | nil=>exact fun _ _ x z=>by cases z
 | cons q t ih=>
  intro h h5 x hx
  rcases List.mem_cons.mp hx with rfl | hx
  ·exact HE h h5 q
  ·exact ih (ie h q).1 (by rw [(ie h q).2];exact h5) x hx
theorem IZ(h:Ws r R l xs)(ok:ROk R)(h5:R.1.length<=5)(hl:l.length<=100):cf 8 (gi R xs)=true:=by
 have hx:=h.len
 have w:=h.ok ok
 have w3:=w.1.len
 have fw:=h.few ok h5
 have s1:=IY (x:=(dq R xs,[])) (by show (dq R xs).1.length<=50;omega) (by show (dq R xs).2.length<=50;omega) (by simp)
 have c1:cf 7 (aN (dq R xs))=true:=by
  have:(true&&(cf 7 (aN (dq R xs))&&(cf 7 (cM [])&&true)))=true:=s1
  simp only [Bool.true_and,Bool.and_eq_true] at this
  exact this.1
 have c2:((wC xs).all (cf 6))=true:=by
  rw [List.all_eq_true];intro d hd
  obtain⟨x,hm,rfl⟩:=List.mem_map.mp hd
  have a3:((x.2.map Ev.d).all (cf 5))=true:=by rw [List.all_eq_true];intro d hd;obtain⟨e,_,rfl⟩:=List.mem_map.mp hd;rfl
  show (decide ((x.2.map Ev.d).length<=1000)&&_)=true
  have:=fw x hm
  rw [a3,Bool.and_true];exact decide_eq_true (by rw [List.length_map];omega)
 have c3:cf 7 (.tup (wC xs))=true:=by
  show (decide ((wC xs).length<=1000)&&_)=true
  rw [c2,Bool.and_true];exact decide_eq_true (by unfold wC;rw [List.length_map];omega)
 show (true&&(cf 7 (aN (dq R xs))&&(cf 7 (.tup (wC xs))&&true)))=true
 rw [c1,c3];rfl
theorem RN{xs:Rs}:cI 40 (.tup (wC xs))=true:=by
 show ((wC xs).all (cI 39))=true
 rw [List.all_eq_true];intro d hd
 obtain⟨x,hm,rfl⟩:=List.mem_map.mp hd
 show ((x.2.map Ev.d).all (cI 38))=true
 rw [List.all_eq_true];intro d hd;obtain⟨e,_,rfl⟩:=List.mem_map.mp hd;rfl
end
def pU:MS:=aV (aM (aa (aq cw (aM (aa (mC (.str "out")) (ah))) (ab 0)) (aa (aM (ah)) (ah))))
theorem Lz{S:ac}{n i:Nat}{env:bh}(h5:n<=5)(hv:ab i env S=some (.int (n:Int),S)):aM (aa (aq cw (aM (aa (mC (.str "out")) (ah))) (ab i)) (aa (aM (ah)) (ah))) env S=some (aN (ba n),S):=by
 have k1:∀ x:D,cr ([x],S)=some (.tup [x],S):=fun x=>aU (by simp)
 have k0:cr ([],S)=some (.tup [],S):=aU (by simp)
 have k2:∀ x y:D,cr ([x,y],S)=some (.tup [x,y],S):=fun x y=>aU (by simp)
 have m:cw S (.tup [.str "out"]) (.int (n:Int))=some (cA (List.replicate n .out)):=by
  rw [Fk (by omega) (by omega) (by rw [Int.toNat_natCast,List.length_singleton];omega),Int.toNat_natCast,ud]
  simp [cA,Wd.d,Wd.s]
 simp only [bg,ao,aF,bi,ob,am,az,al,k1,aw,hv,av,m,ai,k0,k2]
 rfl
theorem HD{N:List Str}(hN:N.length=1){S:ac}{n:Nat}(h5:n<=5):aO N pU 1 [.int (n:Int)] S=some (aN (ba n),S):=by
 have hst:aA N [D.int (n:Int)]=[some (.int (n:Int))]:=by simp [aA,hN]
 rw [bb (show [D.int (n:Int)].length=1 from rfl),hst]
 have e:=Lz (S:=S) (n:=n) (i:=0) (env:=[some (.int (n:Int))]) h5 (by simp only [aj,bH,oj,ob,ai])
 rw [pU,aW,e]
 simp only [ob,bt,aH]
structure Pv(deed can done emp:PF):Prop where
 d:∀ (S:ac) (n:Nat) (dd:Dd),dd.Ok n->deed [.int (n:Int),dd.d] S=some (.bl true,S)
 c:∀ (S:ac) (R:Rm) (dd:Dd),R.1.length<=100->dd.Ok R.1.length->gW R dd=true->can [aN R,dd.d] S=some (.bl true,S)
 o:∀ (S:ac) (r:Rl) (R:Rm) (dd:Dd) (x:Rm×List Ev),0<=r.b->ROk R->R.1.length<=50->dd.Ok R.1.length->gh r R dd=some x->∃ T,done [r.d,aN R,dd.d] S=some (iw x,S++T)
 e:∀ (S:ac) (n:Nat),n<=5->emp [.int (n:Int)] S=some (aN (ba n),S)
def wT(deed can done:PF):MS:=ax (bD (eV (dJ (cW (ak 2 deed (aa (ab 1) (aa (ab 6) (ah)))))) (dJ (cW (ak 2 can (aa (ab 3) (aa (ab 6) (ah))))))) (jO) (aY)) (ax (aD (ak 3 done (aa (ab 0) (aa (ab 3) (aa (ab 6) (ah))))) (aJ 2 (af (ag 7) (af (ag 8) (aB))))) (ax (dM (dY cO (ab 4) (aa (aM (aa (ab 3) (aa (ab 7) (aa (ab 8) (ah))))) (ah)))) (aD (ab 7) (ag 3))))
def nW(deed can done emp:PF):MS:=ax (aD (ak 1 emp (aa (ab 1) (ah))) (ag 3)) (ax (aD (dZ (ah)) (ag 4)) (ax (jd (eX (aa (ab 2) (ah))) (aJ 2 (af (ag 5) (af (ag 6) (aB)))) (wT deed can done)) (aV (ab 4))))
section
variable{r:Rl}{n q:Nat}{deed can done emp:PF}
theorem FR(O:Pv deed can done emp)(hb:0<=r.b){S:ac}{R:Rm}{dd:Dd}{x:Rm×List Ev}{zs:List D}{a2 a5 a7 a8:Option D}(h:ROk R)(hn:R.1.length=n)(h5:n<=5)(hd:dd.Ok n)(hx:gh r R dd=some x)(hq:S[q]?=some (.lst zs))(hz:zs.length<=500) :
  ∃ b8 S',wT deed can done [some r.d,some (.int (n:Int)),a2,some (aN R),some (.ref q),a5,some dd.d,a7,a8] S=some (.nx [some r.d,some (.int (n:Int)),a2,some (aN x.1),some (.ref q),a5,some dd.d,some (aN x.1),b8] S')/\S'[q]?=some (.lst (zs++[FT (R,x.1,x.2)])):=by
 have d1:=O.d S n dd hd
 have c1:=O.c S R dd (by omega) (by rw [hn];exact hd) (HF hx)
 obtain⟨T,o1⟩:=O.o S r R dd x hb h (by omega) (by rw [hn];exact hd) hx
 have o1':done [r.d,aN R,dd.d] S=some (.tup [aN x.1,cM x.2],S++T):=o1
 have g2:∀ (u v:D) env S,aJ 2 (af (ag 7) (af (ag 8) (aB))) (.tup [u,v]) env S=(af (ag 7) (af (ag 8) (aB))) [u,v] env S:=fun u v env S=>bV
 have k3:∀ S (u v w:D),cr ([u,v,w],S)=some (.tup [u,v,w],S):=fun S u v w=>aU (by simp)
 have cq:(S++T)[q]?=some (.lst zs):=by rw [List.getElem?_append_left (List.getElem?_eq_some_iff.mp hq).1];exact hq
 have ap:cO (.ref q) [.tup [aN R,aN x.1,cM x.2]] (S++T)=some (.non,(S++T).set q (.lst (zs++[FT (R,x.1,x.2)]))):=mZ cq (by omega)
 have km:∀ f ms env,pg f ms env (.ref q,S++T)=(ms env (S++T)).bind (dW f (.ref q)):=fun f ms env=>rM cq
 refine⟨some (cM x.2),(S++T).set q (.lst (zs++[FT (R,x.1,x.2)])),?_,List.getElem?_set_self (List.getElem?_eq_some_iff.mp cq).1⟩
 simp only [wT,aQ,bp,iy,iK,dB,aG,ao,aj,bH,bN,bM,oj,ob,ai,am,az,al,bd,d1,fv,iN,Bool.not_true,ll,c1,bO,bA,aC,bj,bE,o1',bm,g2,bo,aT,cH,bG,eK,eY,bK,lg,lf,km,bg,k3,fC,ap,lq]
theorem FS(O:Pv deed can done emp)(hb:0<=r.b){a2:Option D}(h5:n<=5){R:Rm}{l:List Dd}{xs:Rs}(w:Ws r R l xs):∀ (k:Nat) (S:ac) (zs:List D) (a5 a6 a7 a8:Option D),ROk R->R.1.length=n->(∀ d∈l,d.Ok n)->S[q]?=some (.lst zs)->zs.length+l.length<=400 ->
  ∃ b5 b6 b7 b8 S',cF (aJ 2 (af (ag 5) (af (ag 6) (aB)))) (wT deed can done) (eh k (l.map Dd.d)) [some r.d,some (.int (n:Int)),a2,some (aN R),some (.ref q),a5,a6,a7,a8] S=some (.nx [some r.d,some (.int (n:Int)),a2,some (aN (dq R xs)),some (.ref q),b5,b6,b7,b8] S')/\S'[q]?=some (.lst (zs++(BY R xs).map FT)):=by
 induction w with
 | nil=>
  intro k S zs a5 a6 a7 a8 h hn hd hq hz
  exact⟨a5,a6,a7,a8,S,pZ,by simp only [BY,List.map_nil,List.append_nil];exact hq⟩
 | @cons R d x l xs hx t ih=>
  intro k S zs a5 a6 a7 a8 h hn hd hq hz
  rw [List.length_cons] at hz
  obtain⟨b8,S1,e1,q1⟩:=FR O hb (a2:=a2) (a5:=some (.int (k:Int))) (a7:=a7) (a8:=a8) h hn h5 (hd d List.mem_cons_self) hx hq (by omega)
  obtain⟨h',hl'⟩:=ie h hx
  obtain⟨c5,c6,c7,c8,S2,e2,q2⟩:=ih (k+1) S1 _ (some (.int (k:Int))) (some d.d) (some (aN x.1)) b8 h' (hl'.trans hn) (fun d' z=>hd d' (List.mem_cons_of_mem _ z)) q1 (by rw [List.length_append,List.length_singleton];omega)
  refine⟨c5,c6,c7,c8,S2,?_,?_⟩
  ·rw [List.map_cons,eh,dE,bV]
   simp only [bo,aT,ob,eK,eY,cH,bG,lm,e1,jG,e2,dq]
  ·rw [q2,BY,List.map_cons,List.append_assoc];rfl
theorem BV(O:Pv deed can done emp)(hb:0<=r.b){N:List Str}(hN:N.length=9){S:ac}{l:List Dd}{xs:Rs}(h5:n<=5)(w:Ws r (ba n) l xs)(hd:∀ d∈l,d.Ok n)(hl:l.length<=300) :
  ∃ S',aO N (nW deed can done emp) 3 [r.d,.int (n:Int),.tup (l.map Dd.d)] S=some (.ref S.length,S')/\S'[S.length]?=some (.lst ((BY (ba n) xs).map FT)):=by
 have hst:aA N [r.d,.int (n:Int),.tup (l.map Dd.d)]=[some r.d,some (.int (n:Int)),some (.tup (l.map Dd.d)),none,none,none,none,none,none]:=by simp [aA,hN,List.replicate]
 rw [bb (show [r.d,D.int (n:Int),D.tup (l.map Dd.d)].length=3 from rfl),hst]
 have e0:=O.e S n h5
 have kl:qE ([],S)=some (.ref S.length,S++[.lst []]):=ku (by simp)
 obtain⟨b5,b6,b7,b8,S',e,hq⟩:=FS (q:=S.length) O hb (a2:=some (.tup (l.map Dd.d))) h5 w 0 (S++[.lst []]) [] none none none none nj (by simp [ba]) hd hU (by simp;omega)
 refine⟨S',?_,by simpa using hq⟩
 have ke:∀ S,AZ ([.tup (l.map Dd.d)],S)=some (eh 0 (l.map Dd.d),S):=fun S=>rfl
 simp only [nW,aQ,bj,aG,ao,aj,bH,bN,bM,oj,ob,ai,am,az,al,pi,e0,bm,aT,eK,eY,bK,aC,oY,kl,tw,mS,ke,tJ,e,aW,bt,aH]
def rnC:ME:=df (ab 3) (aJ 3 (af (ag 0) (af (ag 1) (af (ag 2) (aB))))) (bU) (ab 2) [none,none,none]
def rnR(emp:PF):ME:=lJ (cW (ab 3)) (aq ar (aq ar (ab 3) (AG Ho (mC (.int 1)))) (mC (.int 1))) (ak 1 emp (aa (ab 1) (ah)))
def xD(walked emp:PF):MS:=ax (aD (ak 3 walked (aa (ab 0) (aa (ab 1) (aa (ab 2) (ah))))) (ag 3)) (ax (aD (rnR emp) (ag 4)) (aV (aM (aa (ab 4) (aa (be (aP (cm .tup)) (aa rnC (ah))) (ah))))))
theorem Qt{S:ac}{zs:List (Rm×Rm×List Ev)}(hr:S[q]?=some (.lst (zs.map FT))) :
  ∀ (k i:Nat) (a b c:Option D),i<=zs.length->zs.length<k+i->gY (aJ 3 (af (ag 0) (af (ag 1) (af (ag 2) (aB))))) bU (ab 2) q k i [a,b,c] S=some ((zs.drop i).map fun z=>cM z.2.2,S)
 | 0,i,a,b,c,h0,hl=>by omega
 | k+1,i,a,b,c,h0,hl=>by
  unfold gY
  rw [hr]
  dsimp only
  rw [List.getElem?_map]
  cases hx:zs[i]? with
  | none=>
   have:zs.drop i=[]:=by simpa using hx
   rw [this];rfl
  | some z=>
   have hi:=(List.getElem?_eq_some_iff.mp hx).1
   have ih:=Qt hr k (i+1) (some (aN z.1)) (some (aN z.2.1)) (some (cM z.2.2)) hi (by omega)
   have hd:zs.drop i=z::zs.drop (i+1):=by
    rw [List.drop_eq_getElem_cons hi];congr 1;exact(List.getElem?_eq_some_iff.mp hx).2
   show (aJ 3 (af (ag 0) (af (ag 1) (af (ag 2) (aB)))) (.tup [aN z.1,aN z.2.1,cM z.2.2]) [a,b,c] S).bind _=_
   rw [rQ]
   simp only [bo,aT,ob,eK,eY,cH,bG,jE,if_true,aj,bH,bN,bM,oj,ai,ih,hd,List.map_cons]
theorem ID:∀ (R:Rm) (xs:Rs),((BY R xs).map fun z=>cM z.2.2)=wC xs
 | _,[]=>rfl
 | R,x::xs=>by rw [BY,List.map_cons,ID x.1 xs];rfl
theorem wV:∀ (R:Rm) (xs:Rs),(BY R xs).length=xs.length
 | _,[]=>rfl
 | R,x::xs=>by rw [BY,List.length_cons,wV x.1 xs,List.length_cons]
theorem zq:∀ (R:Rm) (xs:Rs),xs≠[]->∃ R0 e,(BY R xs)[xs.length - 1]?=some (R0,dq R xs,e)
 | _,[],h=>absurd rfl h
 | R,[x],_=>⟨R,x.2,rfl⟩
 | R,x::y::xs,_=>by
  obtain⟨R0,e,h⟩:=zq x.1 (y::xs) (by simp)
  exact⟨R0,e,by rw [BY];simpa [dq] using h⟩
theorem QY{S:ac}{xs:Rs}{a0 a2 a4:Option D}(E:∀ (S:ac) (n:Nat),n<=5->emp [.int (n:Int)] S=some (aN (ba n),S))(h5:n<=5)(hq:S[q]?=some (.lst ((BY (ba n) xs).map FT))):rnR emp [a0,some (.int (n:Int)),a2,some (.ref q),a4] S=some (aN (dq (ba n) xs),S):=by
 have tr:yu (.ref q,S)=some (!xs.isEmpty,S):=by
  have:oF S (.ref q)=some (!xs.isEmpty):=by
   simp only [oF,hq]
   cases xs <;> rfl
  show (oF S (.ref q)).bind _=_
  rw [this];rfl
 simp only [rnR,lE,dB,aj,bH,bN,bM,oj,ob,ai,tr]
 cases hx:xs with
 | nil=>
  simp only [List.isEmpty_nil,Bool.not_true,AY,aG,ao,aj,bH,bN,bM,oj,ob,ai,am,az,al,pi,E S n h5,dq]
 | cons x ys=>
  rw [hx] at hq
  obtain⟨R0,e,hl⟩:=zq (ba n) (x::ys) (by simp)
  have at1:lH ((BY (ba n) (x::ys)).map FT) (-1)=some (FT (R0,dq (ba n) (x::ys),e)):=by
   unfold lH Fg
   rw [if_neg (by decide),List.length_map,wV,if_pos (by rw [List.length_cons];omega)]
   show (some _).bind _=_
   rw [ob,List.getElem?_map]
   have:(-1+(((x::ys).length:Nat):Int)).toNat=(x::ys).length - 1:=by rw [List.length_cons];omega
   rw [this,hl];rfl
  have ix1:∀ S,ar S (FT (R0,dq (ba n) (x::ys),e)) (.int 1)=some (aN (dq (ba n) (x::ys))):=fun S=>rfl
  have ng:Ho S (.int 1)=some (.int (-1)):=rfl
  have ir:ar S (.ref q) (.int (-1))=some (FT (R0,dq (ba n) (x::ys),e)):=by rw [mX hq];exact at1
  simp only [List.isEmpty_cons,Bool.not_false,wa,aF,aj,bH,bN,bM,oj,ob,ai,aw,mUn_s,bi,kUn_s,ng,av,ir,ix1]
theorem MZ{walked:PF}(E:∀ (S:ac) (n:Nat),n<=5->emp [.int (n:Int)] S=some (aN (ba n),S)){N:List Str}(hN:N.length=5){S S1:ac}{l:List Dd}{xs:Rs}(h5:n<=5)(hl:xs.length<=300)(hw:walked [r.d,.int (n:Int),.tup (l.map Dd.d)] S=some (.ref q,S1))(hq:S1[q]?=some (.lst ((BY (ba n) xs).map FT))) :
  aO N (xD walked emp) 3 [r.d,.int (n:Int),.tup (l.map Dd.d)] S=some (gi (ba n) xs,S1):=by
 have hst:aA N [r.d,.int (n:Int),.tup (l.map Dd.d)]=[some r.d,some (.int (n:Int)),some (.tup (l.map Dd.d)),none,none]:=by simp [aA,hN,List.replicate]
 rw [bb (show [r.d,D.int (n:Int),D.tup (l.map Dd.d)].length=3 from rfl),hst]
 have rr:=QY (emp:=emp) (a0:=some r.d) (a2:=some (.tup (l.map Dd.d))) (a4:=none) E h5 hq
 have k2:∀ S (x y:D),cr ([x,y],S)=some (.tup [x,y],S):=fun S x y=>aU (by simp)
 have kx:Dq (aJ 3 (af (ag 0) (af (ag 1) (af (ag 2) (aB))))) bU (ab 2) [none,none,none] [some r.d,some (.int (n:Int)),some (.tup (l.map Dd.d)),some (.ref q),some (aN (dq (ba n) xs))] (.ref q,S1)=some (.lst (wC xs),S1):=by
  rw [Kx,show oz [none,none,none] [some r.d,some (.int (n:Int)),some (.tup (l.map Dd.d)),some (.ref q),some (aN (dq (ba n) xs))]=[none,none,none] from rfl,Qt hq 2000 0 none none none (Nat.zero_le _) (by rw [wV];omega),ob,ky,List.drop_zero,ID]
 simp only [xD,aQ,bj,aG,ao,aj,bH,bN,bM,oj,ob,ai,am,az,al,bE,hw,bm,aT,eK,eY,bK,aC,rr,aW,bg,bP,rnC,Ke,kx,bR,eW,k2,bt,aH,gi]
end
end MI
section
set_option maxHeartbeats 4000000
namespace K17
open PySem L2 MI PyProof.Rows
open M hiding mC ab aq ay cX cW dh eV dJ du ve gH lJ ah aa aM ej dZ AG bv bS bu be dL ak aY ax aV dM bD ag aB af aJ gc aD cC dD jd bJ da bU dY eX lV jP nB hX fq fh ee fj fg dC df iF
def fA(i:Nat):Stmt:=PySem.Challenge.pw_manyreaders_k17_rows_walked.main.body.getD i (.Pass ⟨0,0,0,0⟩)
abbrev dk:Stmt:=fA 47
abbrev gQ:Stmt:=fA 49
abbrev fV:Stmt:=fA 48
abbrev fT:Stmt:=fA 50
abbrev fX:Stmt:=fA 52
abbrev gP:Stmt:=fA 56
abbrev dR:Stmt:=fA 54
abbrev fU:Stmt:=fA 55
abbrev dj:Stmt:=fA 57
abbrev gR:Stmt:=fA 58
abbrev eR:Stmt:=fA 61
abbrev dQ:Stmt:=fA 59
abbrev fW:Stmt:=fA 60
abbrev gN:Stmt:=fA 53
abbrev gO:Stmt:=fA 63
abbrev fS:Stmt:=fA 51
abbrev cJ:Stmt:=fA 62
abbrev mQ:Stmt:=fA 9
abbrev dO:Stmt:=fA 10
abbrev gL:Stmt:=fA 19
abbrev iQ:Stmt:=fA 13
abbrev kj:Stmt:=fA 17
abbrev fQ:Stmt:=fA 20
abbrev iS:Stmt:=fA 18
abbrev kh:Stmt:=fA 22
abbrev fP:Stmt:=fA 11
abbrev kg:Stmt:=fA 24
abbrev eM:Stmt:=fA 23
abbrev iR:Stmt:=fA 21
abbrev di:Stmt:=fA 12
abbrev fR:Stmt:=fA 33
abbrev gM:Stmt:=fA 34
abbrev cT:Stmt:=fA 41
abbrev kf:Stmt:=fA 40
abbrev eQ:Stmt:=fA 35
abbrev dP:Stmt:=fA 36
abbrev eO:Stmt:=fA 37
abbrev gJ:Stmt:=fA 39
abbrev eN:Stmt:=fA 38
abbrev pP:Stmt:=fA 32
abbrev dN:Stmt:=fA 4
abbrev iT:Stmt:=fA 3
abbrev gK:Stmt:=fA 1
abbrev eL:Stmt:=fA 2
abbrev iU:Stmt:=fA 30
abbrev kn:Stmt:=fA 31
abbrev jZ:Stmt:=fA 45
abbrev vE:Stmt:=fA 44
abbrev vF:Stmt:=fA 64
def uv:List (bC×D):=[(.inr "rows",.non),(.inr "readers",(.str "read")),(.inr "writers",(.str "write")),(.inr "turns",(.str "write"))]
def iD:D:=(.int 9)
def jW:D:=(.tup [(.str "up"),(.str "down"),(.str "leave"),(.str "stop")])
def za:D:=(.tup [(.str "read"),(.str "write")])
def nU:List (bC×D):=[(.inr "read",(.str "reads")),(.inr "write",(.str "writes"))]
def iC:D:=(.tup [(.str "writes"),(.str "raised")])
structure iu(w:World)(K:PySem.W.Frag)(mg:Str->Option Value):Prop where
 d__law_cell_at:bI K mg "_law_cell_at" dk
 d__law_far:bI K mg "_law_far" gQ
 d__law_left:bI K mg "_law_left" fV
 d__law_pick:bI K mg "_law_pick" fT
 d__law_deed:bI K mg "_law_deed" fX
 d__law_put:bI K mg "_law_put" gP
 d__law_fronts:bI K mg "_law_fronts" dR
 d__law_lets:bI K mg "_law_lets" fU
 d__law_settled:bI K mg "_law_settled" dj
 d__law_can:bI K mg "_law_can" gR
 d__law_asked:bI K mg "_law_asked" eR
 d__law_marked:bI K mg "_law_marked" dQ
 d__law_done:bI K mg "_law_done" fW
 d__law_row:bI K mg "_law_row" gN
 d__law_ran:bI K mg "_law_ran" gO
 d__law_rule:bI K mg "_law_rule" fS
 d__law_same:bI K mg "_law_same" cJ
 d_empty:bI K mg "empty" mQ
 d_guests_with:bI K mg "guests_with" dO
 d_foremost:bI K mg "foremost" gL
 d_waiting:bI K mg "waiting" iQ
 d_can_go:bI K mg "can_go" kj
 d_next_past:bI K mg "next_past" fQ
 d_next_in:bI K mg "next_in" iS
 d_coming:bI K mg "coming" kh
 d_with_word:bI K mg "with_word" fP
 d_let_in:bI K mg "let_in" kg
 d_brought_by:bI K mg "brought_by" eM
 d_settled:bI K mg "settled" iR
 d_without_wait:bI K mg "without_wait" di
 d_bring_ask:bI K mg "bring_ask" fR
 d_bring_up:bI K mg "bring_up" gM
 d_settled_behind:bI K mg "settled_behind" cT
 d_turned:bI K mg "turned" kf
 d_bring_down:bI K mg "bring_down" eQ
 d_bring_leave:bI K mg "bring_leave" dP
 d_bring_stop:bI K mg "bring_stop" eO
 d_one_less:bI K mg "one_less" gJ
 d_bring_tick:bI K mg "bring_tick" eN
 d_done:bI K mg "done" pP
 d_is_tuple_of:bI K mg "is_tuple_of" dN
 d_is_word:bI K mg "is_word" iT
 d_is_whole:bI K mg "is_whole" gK
 d_is_between:bI K mg "is_between" eL
 d_is_deed:bI K mg "is_deed" iU
 d_can_do:bI K mg "can_do" kn
 d_walked:bI K mg "walked" jZ
 d_ran:bI K mg "ran" vE
 d_law:bI K mg "law" vF
 z_all:mg "all" = none
 z_bool:mg "bool" = none
 z_dict:mg "dict" = none
 z_enumerate:mg "enumerate" = none
 z_int:mg "int" = none
 z_isinstance:mg "isinstance" = none
 z_len:mg "len" = none
 z_list:mg "list" = none
 z_max:mg "max" = none
 z_min:mg "min" = none
 z_range:mg "range" = none
 z_str:mg "str" = none
 z_tuple:mg "tuple" = none
 z_zip:mg "zip" = none
 g_BRINGS:FNm w K mg "BRINGS" [("read","bring_ask"),("write","bring_ask"),("up","bring_up"),("down","bring_down"),("leave","bring_leave"),("stop","bring_stop"),("tick","bring_tick")]
 g_FAVOURED:uA w K mg "FAVOURED" uv
 g_GREATEST_LEFT:GC K mg "GREATEST_LEFT" iD
 g_GUEST_WORDS:GC K mg "GUEST_WORDS" jW
 g_WANTS:GC K mg "WANTS" za
 g_WORD_WITHIN:uA w K mg "WORD_WITHIN" nU
 g_WRITING_WORDS:GC K mg "WRITING_WORDS" iC
section
variable{P:Program}{w:World}{K:PySem.W.Frag}{mg:Str->Option Value}{base:Heap}
def eJ:List Str:=["_law_script","_law_k"]
def mn:List (Str×GI):=[("len",.blt)]
def eD:=aO eJ (gG (ig eJ dk mn []) (aK dk)) 2
theorem qX:aS eJ ["_law_script","_law_k"] (au dk):=⟨rfl,rfl,rfl,by decide +kernel,rfl,by decide +kernel,by decide +kernel⟩
theorem qY(T:iu w K mg):Fn P w K mg base 1 "_law_cell_at" 2 eD:=
 bz T.d__law_cell_at qX (fun _ _ _ _ _ _=>cB fun _=>cB fun _=>iP rfl) (GKs.mem (gs:=mn) ⟨T.z_len,trivial⟩)
def jy:List Str:=["_law_far_here","_law_k"]
def tZ:List (Str×GI):=[("range",.blt)]
def jj:=aO jy (gG (ig jy gQ tZ []) (aK gQ)) 0
theorem zJ:aS jy [] (au gQ):=⟨rfl,rfl,rfl,by decide +kernel,rfl,by decide +kernel,by decide +kernel⟩
theorem Aa(T:iu w K mg):Fn P w K mg base 1 "_law_far" 0 jj:=
 bz T.d__law_far zJ (fun _ _ _ _ _ _=>iP rfl) (GKs.mem (gs:=tZ) ⟨T.z_range,trivial⟩)
def io:List Str:=["_law_script","_law_k","_law_cell","_law_seed"]
def qO:List (Str×GI):=[("_law_cell_at",.fn 2 eD),("max",.blt),("_law_far",.fn 0 jj),("len",.blt)]
def gg:=aO io (gG (ig io fV qO [195]) (aK fV)) 2
theorem xq:aS io ["_law_script","_law_k"] (au fV):=⟨rfl,rfl,rfl,by decide +kernel,rfl,by decide +kernel,by decide +kernel⟩
theorem xO(T:iu w K mg):Fn P w K mg base 2 "_law_left" 2 gg:=
 bz T.d__law_left xq (fun _ _ _ _ _ _=>cB fun _=>cB fun _=>iP rfl) (GKs.mem (gs:=qO) ⟨(qY T).up (by decide),T.z_max,(Aa T).up (by decide),T.z_len,trivial⟩)
def jJ:List Str:=["_law_left_here","_law_many","_law_digit"]
def qM:List (Str×GI):=[]
def bW:=aO jJ (gG (ig jJ fT qM []) (aK fT)) 2
theorem xo:aS jJ ["_law_left_here","_law_many"] (au fT):=⟨rfl,rfl,rfl,by decide +kernel,rfl,by decide +kernel,by decide +kernel⟩
theorem kZ(T:iu w K mg):Fn P w K mg base 1 "_law_pick" 2 bW:=
 bz T.d__law_pick xo (fun _ _ _ _ _ _=>cB fun _=>cB fun _=>iP rfl) (GKs.mem (gs:=qM) trivial)
def iq:List Str:=["_law_left_here","_law_n","_law_guest","_law_way"]
def qQ:List (Str×GI):=[("_law_pick",.fn 2 bW)]
def ic:=aO iq (gG (ig iq fX qQ []) (aK fX)) 2
theorem xu:aS iq ["_law_left_here","_law_n"] (au fX):=⟨rfl,rfl,rfl,by decide +kernel,rfl,by decide +kernel,by decide +kernel⟩
theorem xP(T:iu w K mg):Fn P w K mg base 2 "_law_deed" 2 ic:=
 bz T.d__law_deed xu (fun _ _ _ _ _ _=>cB fun _=>cB fun _=>iP rfl) (GKs.mem (gs:=qQ) ⟨(kZ T).up (by decide),trivial⟩)
def jx:List Str:=["_law_within","_law_guest","_law_word"]
def tY:List (Str×GI):=[]
def dH:=aO jx (gG (ig jx gP tY []) (aK gP)) 3
theorem zI:aS jx ["_law_within","_law_guest","_law_word"] (au gP):=⟨rfl,rfl,rfl,by decide +kernel,rfl,by decide +kernel,by decide +kernel⟩
theorem qz(T:iu w K mg):Fn P w K mg base 1 "_law_put" 3 dH:=
 bz T.d__law_put zI (fun _ _ _ _ _ _=>cB fun _=>cB fun _=>cB fun _=>iP rfl) (GKs.mem (gs:=tY) trivial)
def fK:List Str:=["_law_rule_here","_law_waits","_law_reading","_law_writing","_law_tagged"]
def nQ:List (Str×GI):=[("enumerate",.blt),("list",.blt),("range",.blt),("len",.blt),("max",.blt)]
def fF:=aO fK (gG (ig fK dR nQ []) (aK dR)) 2
theorem sk:aS fK ["_law_rule_here","_law_waits"] (au dR):=⟨rfl,rfl,rfl,by decide +kernel,rfl,by decide +kernel,by decide +kernel⟩
theorem sG(T:iu w K mg):Fn P w K mg base 1 "_law_fronts" 2 fF:=
 bz T.d__law_fronts sk (fun _ _ _ _ _ _=>cB fun _=>cB fun _=>iP rfl) (GKs.mem (gs:=nQ) ⟨T.z_enumerate,T.z_list,T.z_range,T.z_len,T.z_max,trivial⟩)
def im:List Str:=["_law_rule_here","_law_within","_law_want","_law_reading"]
def qN:List (Str×GI):=[("len",.blt)]
def ib:=aO im (gG (ig im fU qN []) (aK fU)) 3
theorem xp:aS im ["_law_rule_here","_law_within","_law_want"] (au fU):=⟨rfl,rfl,rfl,by decide +kernel,rfl,by decide +kernel,by decide +kernel⟩
theorem xN(T:iu w K mg):Fn P w K mg base 1 "_law_lets" 3 ib:=
 bz T.d__law_lets xp (fun _ _ _ _ _ _=>cB fun _=>cB fun _=>cB fun _=>iP rfl) (GKs.mem (gs:=qN) ⟨T.z_len,trivial⟩)
def eI:List Str:=["_law_rule_here","_law_room","_law_within","_law_waits","_law_events","_law_turn","_law_alone","_law_some","_law_guest","_law_want","_law_mark","_law_rest","_law_ahead"]
def mj:List (Str×GI):=[("range",.blt),("len",.blt),("_law_put",.fn 3 dH),("_law_fronts",.fn 2 fF),("_law_lets",.fn 3 ib),("tuple",.blt),("int",.blt)]
def cL:=aO eI (gG (ig eI dj mj [254]) (aK dj)) 2
theorem qW:aS eI ["_law_rule_here","_law_room"] (au dj):=⟨rfl,rfl,rfl,by decide +kernel,rfl,by decide +kernel,by decide +kernel⟩
theorem lD(T:iu w K mg):Fn P w K mg base 2 "_law_settled" 2 cL:=
 bz T.d__law_settled qW (fun _ _ _ _ _ _=>cB fun _=>cB fun _=>iP rfl) (GKs.mem (gs:=mj) ⟨T.z_range,T.z_len,(qz T).up (by decide),(sG T).up (by decide),(xN T).up (by decide),T.z_tuple,T.z_int,trivial⟩)
def jz:List Str:=["_law_room","_law_deed_here","_law_within","_law_waits","_law_here","_law_stays","_law_fits"]
def ua:List (Str×GI):=[]
def jk:=aO jz (gG (ig jz gR ua [274]) (aK gR)) 2
theorem zK:aS jz ["_law_room","_law_deed_here"] (au gR):=⟨rfl,rfl,rfl,by decide +kernel,rfl,by decide +kernel,by decide +kernel⟩
theorem Ab(T:iu w K mg):Fn P w K mg base 1 "_law_can" 2 jk:=
 bz T.d__law_can zK (fun _ _ _ _ _ _=>cB fun _=>cB fun _=>iP rfl) (GKs.mem (gs:=ua) trivial)
def gF:List Str:=["_law_rule_here","_law_room","_law_deed_here","_law_word","_law_guest","_law_rest","_law_entry","_law_events"]
def pB:List (Str×GI):=[("_law_settled",.fn 2 cL),("tuple",.blt)]
def gy:=aO gF (gG (ig gF eR pB []) (aK eR)) 3
theorem uL:aS gF ["_law_rule_here","_law_room","_law_deed_here"] (au eR):=⟨rfl,rfl,rfl,by decide +kernel,rfl,by decide +kernel,by decide +kernel⟩
theorem uT(T:iu w K mg):Fn P w K mg base 3 "_law_asked" 3 gy:=
 bz T.d__law_asked uL (fun _ _ _ _ _ _=>cB fun _=>cB fun _=>cB fun _=>iP rfl) (GKs.mem (gs:=pB) ⟨(lD T).up (by decide),T.z_tuple,trivial⟩)
def fJ:List Str:=["_law_rule_here","_law_here","_law_waits"]
def nP:List (Str×GI):=[("tuple",.blt)]
def fE:=aO fJ (gG (ig fJ dQ nP []) (aK dQ)) 3
theorem sj:aS fJ ["_law_rule_here","_law_here","_law_waits"] (au dQ):=⟨rfl,rfl,rfl,by decide +kernel,rfl,by decide +kernel,by decide +kernel⟩
theorem sE(T:iu w K mg):Fn P w K mg base 1 "_law_marked" 3 fE:=
 bz T.d__law_marked sj (fun _ _ _ _ _ _=>cB fun _=>cB fun _=>cB fun _=>iP rfl) (GKs.mem (gs:=nP) ⟨T.z_tuple,trivial⟩)
def ip:List Str:=["_law_rule_here","_law_room","_law_deed_here","_law_within","_law_waits","_law_fewer","_law_gone","_law_events","_law_word","_law_guest","_law_here","_law_first","_law_there","_law_more"]
def qP:List (Str×GI):=[("tuple",.blt),("_law_settled",.fn 2 cL),("_law_can",.fn 2 jk),("_law_asked",.fn 3 gy),("int",.blt),("_law_marked",.fn 3 fE),("_law_put",.fn 3 dH)]
def cS:=aO ip (gG (ig ip fW qP []) (aK fW)) 3
theorem xr:aS ip ["_law_rule_here","_law_room","_law_deed_here"] (au fW):=⟨rfl,rfl,rfl,by decide +kernel,rfl,by decide +kernel,by decide +kernel⟩
theorem oQ(T:iu w K mg):Fn P w K mg base 4 "_law_done" 3 cS:=
 bz T.d__law_done xr (fun _ _ _ _ _ _=>cB fun _=>cB fun _=>cB fun _=>iP rfl) (GKs.mem (gs:=qP) ⟨T.z_tuple,(lD T).up (by decide),(Ab T).up (by decide),(uT T).up (by decide),T.z_int,(sE T).up (by decide),(qz T).up (by decide),trivial⟩)
def jv:List Str:=["_law_left_here","_law_rule_here","_law_n","_law_many","_law_room","_law_row_here","_law_turn","_law_deed_here","_law_found"]
def tW:List (Str×GI):=[("range",.blt),("_law_deed",.fn 2 ic),("_law_done",.fn 3 cS),("tuple",.blt)]
def gU:=aO jv (gG (ig jv gN tW [224]) (aK gN)) 4
theorem zG:aS jv ["_law_left_here","_law_rule_here","_law_n","_law_many"] (au gN):=⟨rfl,rfl,rfl,by decide +kernel,rfl,by decide +kernel,by decide +kernel⟩
theorem zY(T:iu w K mg):Fn P w K mg base 5 "_law_row" 4 gU:=
 bz T.d__law_row zG (fun _ _ _ _ _ _=>cB fun _=>cB fun _=>cB fun _=>cB fun _=>iP rfl) (GKs.mem (gs:=tW) ⟨T.z_range,(xP T).up (by decide),(oQ T).up (by decide),T.z_tuple,trivial⟩)
def jw:List Str:=["_law_rule_here","_law_n","_law_row_here","_law_room","_law_told","_law_deed_here","_law_events"]
def tX:List (Str×GI):=[("_law_done",.fn 3 cS),("tuple",.blt)]
def eC:=aO jw (gG (ig jw gO tX [332]) (aK gO)) 3
theorem zH:aS jw ["_law_rule_here","_law_n","_law_row_here"] (au gO):=⟨rfl,rfl,rfl,by decide +kernel,rfl,by decide +kernel,by decide +kernel⟩
theorem zZ(T:iu w K mg):Fn P w K mg base 5 "_law_ran" 3 eC:=
 bz T.d__law_ran zH (fun _ _ _ _ _ _=>cB fun _=>cB fun _=>cB fun _=>iP rfl) (GKs.mem (gs:=tX) ⟨(oQ T).up (by decide),T.z_tuple,trivial⟩)
def il:List Str:=["_law_left_here","_law_word","_law_most","_law_times"]
def qL:List (Str×GI):=[("_law_pick",.fn 2 bW),("int",.blt)]
def gf:=aO il (gG (ig il fS qL []) (aK fS)) 1
theorem xn:aS il ["_law_left_here"] (au fS):=⟨rfl,rfl,rfl,by decide +kernel,rfl,by decide +kernel,by decide +kernel⟩
theorem xM(T:iu w K mg):Fn P w K mg base 2 "_law_rule" 1 gf:=
 bz T.d__law_rule xn (fun _ _ _ _ _ _=>cB fun _=>iP rfl) (GKs.mem (gs:=qL) ⟨(kZ T).up (by decide),T.z_int,trivial⟩)
def N__law_same:List Str:=["_law_found","_law_due","_law_keys"]
def gb:List (Str×GI):=[("isinstance",.blt),("dict",.blt),("str",.blt),("all",.blt),("list",.blt),("tuple",.blt),("bool",.blt),("int",.blt),("len",.blt),("zip",.blt)]
def gm:=Jg N__law_same cJ gb [] "_law_same" 2
def dA:=gm 8
theorem xR:N__law_same.Nodup:=by decide +kernel
theorem xk:aS N__law_same ["_law_found","_law_due"] (au cJ):=⟨rfl,rfl,rfl,xR,rfl,by decide +kernel,by decide +kernel⟩
theorem xL(T:iu w K mg):Fn P w K mg base 9 "_law_same" 2 dA:=
 Jf (gs:=gb) (k:=0) T.d__law_same xk (fun _ _ _ _ _ _=>cB fun _=>cB fun _=>iP rfl) ⟨T.z_isinstance,T.z_dict,T.z_str,T.z_all,T.z_list,T.z_tuple,T.z_bool,T.z_int,T.z_len,T.z_zip,trivial⟩ 8
def pM:List Str:=["n"]
def Fh:List (Str×GI):=[]
def hJ:=aO pM (gG (ig pM mQ Fh []) (aK mQ)) 1
theorem IW:aS pM ["n"] (au mQ):=⟨rfl,rfl,rfl,by decide +kernel,rfl,by decide +kernel,by decide +kernel⟩
theorem zW(T:iu w K mg):Fn P w K mg base 1 "empty" 1 hJ:=
 bz T.d_empty IW (fun _ _ _ _ _ _=>cB fun _=>iP rfl) (GKs.mem (gs:=Fh) trivial)
def fH:List Str:=["room","words"]
def nN:List (Str×GI):=[("tuple",.blt),("enumerate",.blt)]
def ci:=aO fH (gG (ig fH dO nN []) (aK dO)) 2
theorem sh:aS fH ["room","words"] (au dO):=⟨rfl,rfl,rfl,by decide +kernel,rfl,by decide +kernel,by decide +kernel⟩
theorem ja(T:iu w K mg):Fn P w K mg base 1 "guests_with" 2 ci:=
 bz T.d_guests_with sh (fun _ _ _ _ _ _=>cB fun _=>cB fun _=>iP rfl) (GKs.mem (gs:=nN) ⟨T.z_tuple,T.z_enumerate,trivial⟩)
def jt:List Str:=["word","waits","turned","favoured","ranked"]
def tU:List (Str×GI):=[("FAVOURED",.tab uv)]
def ls:=aO jt (gG (ig jt gL tU []) (aK gL)) 2
theorem zE:aS jt ["word","waits"] (au gL):=⟨rfl,rfl,rfl,by decide +kernel,rfl,by decide +kernel,by decide +kernel⟩
theorem zV(T:iu w K mg):Fn P w K mg base 1 "foremost" 2 ls:=
 bz T.d_foremost zE (fun _ _ _ _ _ _=>cB fun _=>cB fun _=>iP rfl) (GKs.mem (gs:=tU) ⟨T.g_FAVOURED,trivial⟩)
def iX:List Str:=["room","guest","entry"]
def wm:List (Str×GI):=[("guests_with",.fn 2 ci)]
def bZ:=aO iX (gG (ig iX iQ wm []) (aK iQ)) 2
theorem Cm:aS iX ["room","guest"] (au iQ):=⟨rfl,rfl,rfl,by decide +kernel,rfl,by decide +kernel,by decide +kernel⟩
theorem iZ(T:iu w K mg):Fn P w K mg base 2 "waiting" 2 bZ:=
 bz T.d_waiting Cm (fun _ _ _ _ _ _=>cB fun _=>cB fun _=>iP rfl) (GKs.mem (gs:=wm) ⟨(ja T).up (by decide),trivial⟩)
def kP:List Str:=["rule","room","guest","want","beside","most"]
def Bj:List (Str×GI):=[("waiting",.fn 2 bZ),("all",.blt),("enumerate",.blt),("len",.blt)]
def gq:=aO kP (gG (ig kP kj Bj []) (aK kj)) 3
theorem Gi:aS kP ["rule","room","guest"] (au kj):=⟨rfl,rfl,rfl,by decide +kernel,rfl,by decide +kernel,by decide +kernel⟩
theorem pV(T:iu w K mg):Fn P w K mg base 3 "can_go" 3 gq:=
 bz T.d_can_go Gi (fun _ _ _ _ _ _=>cB fun _=>cB fun _=>cB fun _=>iP rfl) (GKs.mem (gs:=Bj) ⟨(iZ T).up (by decide),T.z_all,T.z_enumerate,T.z_len,trivial⟩)
def ij:List Str:=["rule","room","guest","want","mark","left"]
def qJ:List (Str×GI):=[("can_go",.fn 3 gq)]
def jI:=aO ij (gG (ig ij fQ qJ []) (aK fQ)) 2
theorem xi:aS ij ["rule","room"] (au fQ):=⟨rfl,rfl,rfl,by decide +kernel,rfl,by decide +kernel,by decide +kernel⟩
theorem xK(T:iu w K mg):Fn P w K mg base 4 "next_past" 2 jI:=
 bz T.d_next_past xi (fun _ _ _ _ _ _=>cB fun _=>cB fun _=>iP rfl) (GKs.mem (gs:=qJ) ⟨(pV T).up (by decide),trivial⟩)
def kM:List Str:=["rule","room","guest"]
def wp:List (Str×GI):=[("foremost",.fn 2 ls),("next_past",.fn 2 jI),("can_go",.fn 3 gq)]
def kD:=aO kM (gG (ig kM iS wp []) (aK iS)) 2
theorem Co:aS kM ["rule","room"] (au iS):=⟨rfl,rfl,rfl,by decide +kernel,rfl,by decide +kernel,by decide +kernel⟩
theorem CA(T:iu w K mg):Fn P w K mg base 5 "next_in" 2 kD:=
 bz T.d_next_in Co (fun _ _ _ _ _ _=>cB fun _=>cB fun _=>iP rfl) (GKs.mem (gs:=wp) ⟨(zV T).up (by decide),(xK T).up (by decide),(pV T).up (by decide),trivial⟩)
def mO:List Str:=["rule","room","guest"]
def Bi:List (Str×GI):=[("guests_with",.fn 2 ci),("next_in",.fn 2 kD),("can_go",.fn 3 gq)]
def kG:=aO mO (gG (ig mO kh Bi []) (aK kh)) 2
theorem Gh:aS mO ["rule","room"] (au kh):=⟨rfl,rfl,rfl,by decide +kernel,rfl,by decide +kernel,by decide +kernel⟩
theorem Gx(T:iu w K mg):Fn P w K mg base 6 "coming" 2 kG:=
 bz T.d_coming Gh (fun _ _ _ _ _ _=>cB fun _=>cB fun _=>iP rfl) (GKs.mem (gs:=Bi) ⟨(ja T).up (by decide),(CA T).up (by decide),(pV T).up (by decide),trivial⟩)
def ii:List Str:=["room","guest","word","within","waits"]
def qI:List (Str×GI):=[]
def bB:=aO ii (gG (ig ii fP qI []) (aK fP)) 3
theorem xh:aS ii ["room","guest","word"] (au fP):=⟨rfl,rfl,rfl,by decide +kernel,rfl,by decide +kernel,by decide +kernel⟩
theorem eU(T:iu w K mg):Fn P w K mg base 1 "with_word" 3 bB:=
 bz T.d_with_word xh (fun _ _ _ _ _ _=>cB fun _=>cB fun _=>cB fun _=>iP rfl) (GKs.mem (gs:=qI) trivial)
def mN:List Str:=["rule","room","guest","within","waits","place","ahead"]
def Bh:List (Str×GI):=[("with_word",.fn 3 bB),("tuple",.blt),("WORD_WITHIN",.tab nU)]
def pC:=aO mN (gG (ig mN kg Bh []) (aK kg)) 3
theorem Gg:aS mN ["rule","room","guest"] (au kg):=⟨rfl,rfl,rfl,by decide +kernel,rfl,by decide +kernel,by decide +kernel⟩
theorem Gw(T:iu w K mg):Fn P w K mg base 2 "let_in" 3 pC:=
 bz T.d_let_in Gg (fun _ _ _ _ _ _=>cB fun _=>cB fun _=>cB fun _=>iP rfl) (GKs.mem (gs:=Bh) ⟨(eU T).up (by decide),T.z_tuple,T.g_WORD_WITHIN,trivial⟩)
def gB:List Str:=["rule","room","event","word","guest"]
def pq:List (Str×GI):=[("let_in",.fn 3 pC),("with_word",.fn 3 bB)]
def gt:=aO gB (gG (ig gB eM pq []) (aK eM)) 3
theorem uH:aS gB ["rule","room","event"] (au eM):=⟨rfl,rfl,rfl,by decide +kernel,rfl,by decide +kernel,by decide +kernel⟩
theorem uP(T:iu w K mg):Fn P w K mg base 3 "brought_by" 3 gt:=
 bz T.d_brought_by uH (fun _ _ _ _ _ _=>cB fun _=>cB fun _=>cB fun _=>iP rfl) (GKs.mem (gs:=pq) ⟨(Gw T).up (by decide),(eU T).up (by decide),trivial⟩)
def kL:List Str:=["rule","room","events","event"]
def wn:List (Str×GI):=[("coming",.fn 2 kG),("brought_by",.fn 3 gt),("tuple",.blt)]
def cN:=aO kL (gG (ig kL iR wn [61]) (aK iR)) 2
theorem Cn:aS kL ["rule","room"] (au iR):=⟨rfl,rfl,rfl,by decide +kernel,rfl,by decide +kernel,by decide +kernel⟩
theorem nZ(T:iu w K mg):Fn P w K mg base 7 "settled" 2 cN:=
 bz T.d_settled Cn (fun _ _ _ _ _ _=>cB fun _=>cB fun _=>iP rfl) (GKs.mem (gs:=wn) ⟨(Gx T).up (by decide),(uP T).up (by decide),T.z_tuple,trivial⟩)
def eH:List Str:=["room","guest","within","waits"]
def mf:List (Str×GI):=[("tuple",.blt)]
def cz:=aO eH (gG (ig eH di mf []) (aK di)) 2
theorem qV:aS eH ["room","guest"] (au di):=⟨rfl,rfl,rfl,by decide +kernel,rfl,by decide +kernel,by decide +kernel⟩
theorem lC(T:iu w K mg):Fn P w K mg base 1 "without_wait" 2 cz:=
 bz T.d_without_wait qV (fun _ _ _ _ _ _=>cB fun _=>cB fun _=>iP rfl) (GKs.mem (gs:=mf) ⟨T.z_tuple,trivial⟩)
def ik:List Str:=["rule","room","deed","want","guest","left","within","waits","entry","events"]
def qK:List (Str×GI):=[("settled",.fn 2 cN),("waiting",.fn 2 bZ),("without_wait",.fn 2 cz)]
def ge:=aO ik (gG (ig ik fR qK []) (aK fR)) 3
theorem xj:aS ik ["rule","room","deed"] (au fR):=⟨rfl,rfl,rfl,by decide +kernel,rfl,by decide +kernel,by decide +kernel⟩
theorem oP(T:iu w K mg):Fn P w K mg base 8 "bring_ask" 3 ge:=
 bz T.d_bring_ask xj (fun _ _ _ _ _ _=>cB fun _=>cB fun _=>cB fun _=>iP rfl) (GKs.mem (gs:=qK) ⟨(nZ T).up (by decide),(iZ T).up (by decide),(lC T).up (by decide),trivial⟩)
def ju:List Str:=["rule","room","deed","guest","events"]
def tV:List (Str×GI):=[("settled",.fn 2 cN),("guests_with",.fn 2 ci),("with_word",.fn 3 bB),("waiting",.fn 2 bZ)]
def ji:=aO ju (gG (ig ju gM tV []) (aK gM)) 3
theorem zF:aS ju ["rule","room","deed"] (au gM):=⟨rfl,rfl,rfl,by decide +kernel,rfl,by decide +kernel,by decide +kernel⟩
theorem zX(T:iu w K mg):Fn P w K mg base 8 "bring_up" 3 ji:=
 bz T.d_bring_up zF (fun _ _ _ _ _ _=>cB fun _=>cB fun _=>cB fun _=>iP rfl) (GKs.mem (gs:=tV) ⟨(nZ T).up (by decide),(ja T).up (by decide),(eU T).up (by decide),(iZ T).up (by decide),trivial⟩)
def dr:List Str:=["rule","room","first","events"]
def kz:List (Str×GI):=[("settled",.fn 2 cN)]
def bn:=aO dr (gG (ig dr cT kz []) (aK cT)) 3
theorem oH:aS dr ["rule","room","first"] (au cT):=⟨rfl,rfl,rfl,by decide +kernel,rfl,by decide +kernel,by decide +kernel⟩
theorem dX(T:iu w K mg):Fn P w K mg base 8 "settled_behind" 3 bn:=
 bz T.d_settled_behind oH (fun _ _ _ _ _ _=>cB fun _=>cB fun _=>cB fun _=>iP rfl) (GKs.mem (gs:=kz) ⟨(nZ T).up (by decide),trivial⟩)
def mM:List Str:=["rule","room","guest","within","waits"]
def Bg:List (Str×GI):=[("tuple",.blt)]
def gp:=aO mM (gG (ig mM kf Bg []) (aK kf)) 3
theorem Gf:aS mM ["rule","room","guest"] (au kf):=⟨rfl,rfl,rfl,by decide +kernel,rfl,by decide +kernel,by decide +kernel⟩
theorem vK(T:iu w K mg):Fn P w K mg base 1 "turned" 3 gp:=
 bz T.d_turned Gf (fun _ _ _ _ _ _=>cB fun _=>cB fun _=>cB fun _=>iP rfl) (GKs.mem (gs:=Bg) ⟨T.z_tuple,trivial⟩)
def gE:List Str:=["rule","room","deed","guest"]
def pA:List (Str×GI):=[("settled_behind",.fn 3 bn),("with_word",.fn 3 bB),("turned",.fn 3 gp)]
def gx:=aO gE (gG (ig gE eQ pA []) (aK eQ)) 3
theorem uK:aS gE ["rule","room","deed"] (au eQ):=⟨rfl,rfl,rfl,by decide +kernel,rfl,by decide +kernel,by decide +kernel⟩
theorem uS(T:iu w K mg):Fn P w K mg base 9 "bring_down" 3 gx:=
 bz T.d_bring_down uK (fun _ _ _ _ _ _=>cB fun _=>cB fun _=>cB fun _=>iP rfl) (GKs.mem (gs:=pA) ⟨(dX T).up (by decide),(eU T).up (by decide),(vK T).up (by decide),trivial⟩)
def fI:List Str:=["rule","room","deed","guest"]
def nO:List (Str×GI):=[("settled_behind",.fn 3 bn),("with_word",.fn 3 bB),("turned",.fn 3 gp)]
def fD:=aO fI (gG (ig fI dP nO []) (aK dP)) 3
theorem si:aS fI ["rule","room","deed"] (au dP):=⟨rfl,rfl,rfl,by decide +kernel,rfl,by decide +kernel,by decide +kernel⟩
theorem sD(T:iu w K mg):Fn P w K mg base 9 "bring_leave" 3 fD:=
 bz T.d_bring_leave si (fun _ _ _ _ _ _=>cB fun _=>cB fun _=>cB fun _=>iP rfl) (GKs.mem (gs:=nO) ⟨(dX T).up (by decide),(eU T).up (by decide),(vK T).up (by decide),trivial⟩)
def gD:List Str:=["rule","room","deed","guest","calmer"]
def pz:List (Str×GI):=[("settled_behind",.fn 3 bn),("waiting",.fn 2 bZ),("with_word",.fn 3 bB),("without_wait",.fn 2 cz)]
def gv:=aO gD (gG (ig gD eO pz []) (aK eO)) 3
theorem uJ:aS gD ["rule","room","deed"] (au eO):=⟨rfl,rfl,rfl,by decide +kernel,rfl,by decide +kernel,by decide +kernel⟩
theorem uR(T:iu w K mg):Fn P w K mg base 9 "bring_stop" 3 gv:=
 bz T.d_bring_stop uJ (fun _ _ _ _ _ _=>cB fun _=>cB fun _=>cB fun _=>iP rfl) (GKs.mem (gs:=pz) ⟨(dX T).up (by decide),(iZ T).up (by decide),(eU T).up (by decide),(lC T).up (by decide),trivial⟩)
def jq:List Str:=["left"]
def tS:List (Str×GI):=[]
def gS:=aO jq (gG (ig jq gJ tS []) (aK gJ)) 1
theorem zC:aS jq ["left"] (au gJ):=⟨rfl,rfl,rfl,by decide +kernel,rfl,by decide +kernel,by decide +kernel⟩
theorem zT(T:iu w K mg):Fn P w K mg base 1 "one_less" 1 gS:=
 bz T.d_one_less zC (fun _ _ _ _ _ _=>cB fun _=>iP rfl) (GKs.mem (gs:=tS) trivial)
def gC:List Str:=["rule","room","deed","within","waits","shorter","ended","kept"]
def pv:List (Str×GI):=[("tuple",.blt),("settled_behind",.fn 3 bn),("one_less",.fn 1 gS)]
def gu:=aO gC (gG (ig gC eN pv []) (aK eN)) 3
theorem uI:aS gC ["rule","room","deed"] (au eN):=⟨rfl,rfl,rfl,by decide +kernel,rfl,by decide +kernel,by decide +kernel⟩
theorem uQ(T:iu w K mg):Fn P w K mg base 9 "bring_tick" 3 gu:=
 bz T.d_bring_tick uI (fun _ _ _ _ _ _=>cB fun _=>cB fun _=>cB fun _=>iP rfl) (GKs.mem (gs:=pv) ⟨T.z_tuple,(dX T).up (by decide),(zT T).up (by decide),trivial⟩)
def BL:List (bC×Nat×(List D->ac->Option (D×ac))):=[(.inr "read",3,ge),(.inr "write",3,ge),(.inr "up",3,ji),(.inr "down",3,gx),(.inr "leave",3,fD),(.inr "stop",3,gv),(.inr "tick",3,gu)]
def uB:List Str:=["rule","room","deed","bring"]
def KI:List (Str×GI):=[("BRINGS",.ftab BL)]
def oq:=aO uB (gG (ig uB pP KI []) (aK pP)) 3
theorem MV:aS uB ["rule","room","deed"] (au pP):=⟨rfl,rfl,rfl,by decide +kernel,rfl,by decide +kernel,by decide +kernel⟩
theorem NL(T:iu w K mg):Fn P w K mg base 10 "done" 3 oq:=
 bz T.d_done MV (fun _ _ _ _ _ _=>cB fun _=>cB fun _=>cB fun _=>iP rfl) (GKs.mem (gs:=KI) ⟨On T.g_BRINGS ⟨rfl,(oP T).up (by decide),rfl,(oP T).up (by decide),rfl,(zX T).up (by decide),rfl,(uS T).up (by decide),rfl,(sD T).up (by decide),rfl,(uR T).up (by decide),rfl,(uQ T).up (by decide),trivial⟩,trivial⟩)
def fG:List Str:=["thing","many"]
def nM:List (Str×GI):=[("isinstance",.blt),("tuple",.blt),("len",.blt)]
def cR:=aO fG (gG (ig fG dN nM []) (aK dN)) 2
theorem sg:aS fG ["thing","many"] (au dN):=⟨rfl,rfl,rfl,by decide +kernel,rfl,by decide +kernel,by decide +kernel⟩
theorem sC(T:iu w K mg):Fn P w K mg base 1 "is_tuple_of" 2 cR:=
 bz T.d_is_tuple_of sg (fun _ _ _ _ _ _=>cB fun _=>cB fun _=>iP rfl) (GKs.mem (gs:=nM) ⟨T.z_isinstance,T.z_tuple,T.z_len,trivial⟩)
def kN:List Str:=["thing","words"]
def wq:List (Str×GI):=[("isinstance",.blt),("str",.blt)]
def gd:=aO kN (gG (ig kN iT wq []) (aK iT)) 2
theorem Cp:aS kN ["thing","words"] (au iT):=⟨rfl,rfl,rfl,by decide +kernel,rfl,by decide +kernel,by decide +kernel⟩
theorem CB(T:iu w K mg):Fn P w K mg base 1 "is_word" 2 gd:=
 bz T.d_is_word Cp (fun _ _ _ _ _ _=>cB fun _=>cB fun _=>iP rfl) (GKs.mem (gs:=wq) ⟨T.z_isinstance,T.z_str,trivial⟩)
def js:List Str:=["thing"]
def tT:List (Str×GI):=[("isinstance",.blt),("int",.blt),("bool",.blt)]
def jg:=aO js (gG (ig js gK tT []) (aK gK)) 1
theorem zD:aS js ["thing"] (au gK):=⟨rfl,rfl,rfl,by decide +kernel,rfl,by decide +kernel,by decide +kernel⟩
theorem zU(T:iu w K mg):Fn P w K mg base 1 "is_whole" 1 jg:=
 bz T.d_is_whole zD (fun _ _ _ _ _ _=>cB fun _=>iP rfl) (GKs.mem (gs:=tT) ⟨T.z_isinstance,T.z_int,T.z_bool,trivial⟩)
def gA:List Str:=["thing","low","high"]
def po:List (Str×GI):=[("is_whole",.fn 1 jg)]
def dc:=aO gA (gG (ig gA eL po []) (aK eL)) 3
theorem uG:aS gA ["thing","low","high"] (au eL):=⟨rfl,rfl,rfl,by decide +kernel,rfl,by decide +kernel,by decide +kernel⟩
theorem uO(T:iu w K mg):Fn P w K mg base 2 "is_between" 3 dc:=
 bz T.d_is_between uG (fun _ _ _ _ _ _=>cB fun _=>cB fun _=>cB fun _=>iP rfl) (GKs.mem (gs:=po) ⟨(zU T).up (by decide),trivial⟩)
def kO:List Str:=["n","thing","want","guest","left"]
def wu:List (Str×GI):=[("is_tuple_of",.fn 2 cR),("is_word",.fn 2 gd),("WANTS",.con za),("is_between",.fn 3 dc),("GUEST_WORDS",.con jW),("GREATEST_LEFT",.con iD)]
def gT:=aO kO (gG (ig kO iU wu []) (aK iU)) 2
theorem Cq:aS kO ["n","thing"] (au iU):=⟨rfl,rfl,rfl,by decide +kernel,rfl,by decide +kernel,by decide +kernel⟩
theorem CC(T:iu w K mg):Fn P w K mg base 3 "is_deed" 2 gT:=
 bz T.d_is_deed Cq (fun _ _ _ _ _ _=>cB fun _=>cB fun _=>iP rfl) (GKs.mem (gs:=wu) ⟨(sC T).up (by decide),(CB T).up (by decide),T.g_WANTS,(uO T).up (by decide),T.g_GUEST_WORDS,T.g_GREATEST_LEFT,trivial⟩)
def kQ:List Str:=["room","deed","word","guest","within"]
def Bk:List (Str×GI):=[("WRITING_WORDS",.con iC),("waiting",.fn 2 bZ)]
def jh:=aO kQ (gG (ig kQ kn Bk []) (aK kn)) 2
theorem Gj:aS kQ ["room","deed"] (au kn):=⟨rfl,rfl,rfl,by decide +kernel,rfl,by decide +kernel,by decide +kernel⟩
theorem Gy(T:iu w K mg):Fn P w K mg base 3 "can_do" 2 jh:=
 bz T.d_can_do Gj (fun _ _ _ _ _ _=>cB fun _=>cB fun _=>iP rfl) (GKs.mem (gs:=Bk) ⟨T.g_WRITING_WORDS,(iZ T).up (by decide),trivial⟩)
def mL:List Str:=["rule","n","row","room","steps","place","deed","behind","events"]
def Bf:List (Str×GI):=[("empty",.fn 1 hJ),("enumerate",.blt),("done",.fn 3 oq),("is_deed",.fn 2 gT),("can_do",.fn 2 jh)]
def kA:=aO mL (gG (ig mL jZ Bf [176]) (aK jZ)) 3
theorem Ge:aS mL ["rule","n","row"] (au jZ):=⟨rfl,rfl,rfl,by decide +kernel,rfl,by decide +kernel,by decide +kernel⟩
theorem Gv(T:iu w K mg):Fn P w K mg base 11 "walked" 3 kA:=
 bz T.d_walked Ge (fun _ _ _ _ _ _=>cB fun _=>cB fun _=>cB fun _=>iP rfl) (GKs.mem (gs:=Bf) ⟨(zW T).up (by decide),T.z_enumerate,(NL T).up (by decide),(CC T).up (by decide),(Gy T).up (by decide),trivial⟩)
def BQ:List Str:=["rule","n","row","steps","room"]
def Qi:List (Str×GI):=[("walked",.fn 3 kA),("empty",.fn 1 hJ),("tuple",.blt)]
def wB:=aO BQ (gG (ig BQ vE Qi [100173]) (aK vE)) 3
theorem QT:aS BQ ["rule","n","row"] (au vE):=⟨rfl,rfl,rfl,by decide +kernel,rfl,by decide +kernel,by decide +kernel⟩
theorem RM(T:iu w K mg):Fn P w K mg base 12 "ran" 3 wB:=
 bz T.d_ran QT (fun _ _ _ _ _ _=>cB fun _=>cB fun _=>cB fun _=>iP rfl) (GKs.mem (gs:=Qi) ⟨(Gv T).up (by decide),(zW T).up (by decide),T.z_tuple,trivial⟩)
def BR:List Str:=["_law_script","_law_k","_law_left_here","_law_rule_here","_law_n","_law_row_here","_law_room","_law_due","_law_cut","_law_begun","_law_deeds","_law_told"]
def Qj:List (Str×GI):=[("range",.blt),("_law_left",.fn 2 gg),("_law_row",.fn 4 gU),("_law_ran",.fn 3 eC),("_law_pick",.fn 2 bW),("min",.blt),("_law_rule",.fn 1 gf),("len",.blt),("_law_same",.fn 2 dA),("ran",.fn 3 wB)]
def Bt:=aO BR (gG (ig BR vF Qj []) (aK vF)) 1
theorem QU:aS BR ["_law_script"] (au vF):=⟨rfl,rfl,rfl,by decide +kernel,rfl,by decide +kernel,by decide +kernel⟩
theorem SI(T:iu w K mg):GKs P w K mg base 12 Qj:=⟨T.z_range,(xO T).up (by decide),(zY T).up (by decide),(zZ T).up (by decide),(kZ T).up (by decide),T.z_min,(xM T).up (by decide),T.z_len,(xL T).up (by decide),(RM T).up (by decide),trivial⟩
end
theorem Uh{l:PySem.W.OpenLaw}{w:World}{K:PySem.W.Frag}{h:Heap}{mg:Str->Option Value}{fa:Addr}(X:K.In h)(G:h.Ns mainGlobals mg)(hfa:mg "law" = some (.ref fa))(T:iu w K mg) :
  ∃ fd:FuncData,(∀ (s:Shared) (v:Value),BindsTo s fd ⟨[v],[]⟩ [("_law_script",v)])/\∀ base:Heap,K.In base->base.Ns mainGlobals mg->FnOk l.prog w K mg base FL 13 fa fd ["_law_script"] (IQ K 1 Bt):=
 Sf T.d_law hfa QU (fun _ _ _ _ _ _ _=>rfl) fun base=>SI T
theorem walk{l:PySem.W.OpenLaw}{q:Program}{loose:List Str}{XP:(Str->Option Value)->Heap->Prop}{YP:World->Heap->Prop}{d:DefRec}{K:Params->PySem.W.Frag}(hn:l.most=some 63)(hdf:d.params.defaults=[])(hnm:d.name = "law")
  (hY:∀ (w:World) (h:Heap),YP w h->(K w.params).In h) (hlaw:∀ ns:List Int,ns.length<=63->∃ S',Bt [.rol (ns.map .int)] []=some (.bl true,S'))
  (F:∀ (w:World) (mg:Str->Option Value) (h:Heap),(K w.params).In h->h.Ns mainGlobals mg->iu w (K w.params) mg) :
  PySem.W.WalkO q loose XP YP l.row.toRowW d [] (fun f vs=>PySem.call f vs):=
 L2.Mz (n:=63) (k:=13) (x:="_law_script") (CX:=fun _=>FL) (sp:=fun w=>IQ (K w.params) 1 Bt) hn (by decide) hdf ⟨rfl,by decide,by decide⟩ hY
  (fun w mg fa h KX G hmg=>Uh KX G (hnm ▸ hmg) (F w mg h KX G)) (fun _ _ a ns hl _ hS=>Sd hlaw hl hS) fun _ _ _ _ _ z=>z
end K17
end
section
set_option maxHeartbeats 4000000
namespace K17
open PySem L2 MI PyProof.Rows
open M hiding mC ab aq ay cX cW dh eV dJ du ve gH lJ ah aa aM ej dZ AG bv bS bu be dL ak aY ax aV dM bD ag aB af aJ gc aD cC dD jd bJ da bU dY eX lV jP nB hX fq fh ee fj fg dC df iF
def sY:MS:=
 mT
theorem rg:eD=aO eJ sY 2:=iV rfl
def CZ:MS:=
 Dj
theorem As:jj=aO jy CZ 0:=iV rfl
def AD:MS:=
 rL eD jj
theorem ya:gg=aO io AD 2:=iV rfl
def AB:MS:=
 rK
theorem xY:bW=aO jJ AB 2:=iV rfl
def AF:MS:=
 pf bW
theorem yc:ic=aO iq AF 2:=iV rfl
def CY:MS:=
 Di
theorem Ar:dH=aO jx CY 3:=iV rfl
def vd:MS:=
 qg
theorem sS:fF=aO fK vd 2:=iV rfl
def AC:MS:=
 yp
theorem xZ:ib=aO im AC 3:=iV rfl
def sW:MS:=
 oi fF ib dH
theorem rf:cL=aO eI sW 2:=iV rfl
def Da:MS:=
 yq
theorem At:jk=aO jz Da 2:=iV rfl
def ye:MS:=
 tF cL
theorem uZ:gy=aO gF ye 3:=iV rfl
def vc:MS:=
 kq
theorem sR:fE=aO fJ vc 3:=iV rfl
def AE:MS:=
 jF jk gy cL fE dH
theorem yb:cS=aO ip AE 3:=iV rfl
def CW:MS:=
 Dh ic cS
theorem Ap:gU=aO jv CW 4:=iV rfl
def sX:MS:=
 ax (aD (aM (aa (aq cw (aM (aa (mC (.str "out")) (ah))) (ab 1)) (aa (aM (ah)) (ah)))) (ag 3)) (ax (aD (dZ (ah)) (ag 4)) (ax (ee (ab 2) (ag 5) (ax (aD (ak 3 cS (aa (ab 0) (aa (ab 3) (aa (ab 5) (ah))))) (aJ 2 (af (ag 3) (af (ag 6) (aB))))) (dM (dY cO (ab 4) (aa (ab 6) (ah)))))) (aV (aM (aa (ab 3) (aa (be (aP (cm .tup)) (aa (ab 4) (ah))) (ah)))))))
theorem Aq:eC=aO jw sX 3:=iV rfl
def AA:MS:=
 yo bW
theorem xX:gf=aO il AA 1:=iV rfl
def qC(dA:List D->ac->Option (D×ac)):MS:=
 lj dA
theorem xW(j:Nat):gm (j+1)=aO N__law_same (qC (gm j)) 2:=by
 unfold gm
 show aO N__law_same (gG (ig N__law_same cJ (("_law_same",.fn 2 (Jg N__law_same cJ gb [] "_law_same" 2 j))::gb) []) (aK cJ)) 2=_
 generalize Jg N__law_same cJ gb [] "_law_same" 2 j=F
 rw [show gG (ig N__law_same cJ (("_law_same",.fn 2 F)::gb) []) (aK cJ)=qC F from rfl]
def EK:MS:=
 aV (aM (aa (aq cw (aM (aa (mC (.str "out")) (ah))) (ab 0)) (aa (aM (ah)) (ah))))
theorem JP:hJ=aO pM EK 1:=iV rfl
def vb:MS:=
 Cw
theorem sP:ci=aO fH vb 2:=iV rfl
def CV:MS:=
 kY
theorem An:ls=aO jt CV 2:=iV rfl
def GM:MS:=
 lO ci
theorem sN:bZ=aO iX GM 2:=iV rfl
def JT:MS:=
 fY bZ
theorem vN:gq=aO kP JT 3:=iV rfl
def Ay:MS:=
 kW gq
theorem xU:jI=aO ij Ay 2:=iV rfl
def GO:MS:=
 nX jI ls gq
theorem CO:kD=aO kM GO 2:=iV rfl
def JS:MS:=
 nY ci gq kD
theorem GJ:kG=aO mO JS 2:=iV rfl
def Av:MS:=
 kU
theorem xT:bB=aO ii Av 3:=iV rfl
def JQ:MS:=
 pS bB
theorem GH:pC=aO mN JQ 3:=iV rfl
def yd:MS:=
 lR bB pC
theorem uV:gt=aO gB yd 3:=iV rfl
def GN:MS:=
 lP gt kG
theorem CN:cN=aO kL GN 2:=iV rfl
def lU:MS:=
 ax (aD (ab 0) (aJ 2 (af (ag 2) (af (ag 3) (aB))))) (aV (aM (aa (ab 2) (aa (be (aP (cm .tup)) (aa (bJ (da (ab 3)) (ag 0) (ay (aq gk (aq ar (ab 0) (mC (.int 0))) (ab 1))) (ab 0) [none,some 1]) (ah))) (ah)))))
theorem qZ:cz=aO eH lU 2:=iV rfl
def qB:MS:=
 ax (aD (ab 2) (aJ 3 (af (ag 3) (af (ag 4) (af (ag 5) (aB)))))) (ax (aD (ab 1) (aJ 2 (af (ag 6) (af (ag 7) (aB))))) (ax (aD (aM (aa (ab 4) (aa (ab 3) (aa (mC (.int 0)) (aa (lJ (ay (aq bX (ab 5) (mC (.int 0)))) (mC (.int 1)) (ab 5)) (ah)))))) (ag 8)) (ax (aD (ak 2 cN (aa (ab 0) (aa (aM (aa (ab 6) (aa (aq aR (ab 7) (aM (aa (ab 8) (ah)))) (ah)))) (ah)))) (aJ 2 (af (ag 1) (af (ag 9) (aB))))) (ax (bD (ay (aq vj (ak 2 bZ (aa (ab 1) (aa (ab 4) (ah)))) (mC .non))) (aV (aM (aa (ab 1) (aa (ab 9) (ah))))) (aY)) (ax (bD (ay (aq bX (ab 5) (mC (.int 0)))) (aV (aM (aa (ak 2 cz (aa (ab 1) (aa (ab 4) (ah)))) (aa (aq aR (ab 9) (aM (aa (aM (aa (mC (.str "no")) (aa (ab 4) (ah)))) (ah)))) (ah))))) (aY)) (aV (aM (aa (ab 1) (aa (aq aR (ab 9) (aM (aa (aM (aa (mC (.str "waits")) (aa (ab 4) (ah)))) (ah)))) (ah))))))))))
theorem xV:ge=aO ik qB 3:=iV rfl
def sV:MS:=
 ax (aD (aq ar (ab 2) (mC (.int 1))) (ag 3)) (ax (bD (eV (ay (aq bX (aq ar (ab 0) (mC (.int 3))) (mC (.int 0)))) (cW (ak 2 ci (aa (ab 1) (aa (aM (aa (mC (.str "rising")) (ah))) (ah)))))) (aV (aM (aa (ab 1) (aa (aM (aa (aM (aa (mC (.str "no")) (aa (ab 3) (ah)))) (ah))) (ah))))) (aY)) (ax (aD (ak 2 cN (aa (ab 0) (aa (ak 3 bB (aa (ab 1) (aa (ab 3) (aa (mC (.str "rising")) (ah))))) (ah)))) (aJ 2 (af (ag 1) (af (ag 4) (aB))))) (ax (bD (ay (aq vj (ak 2 bZ (aa (ab 1) (aa (ab 3) (ah)))) (mC .non))) (aV (aM (aa (ab 1) (aa (ab 4) (ah))))) (aY)) (aV (aM (aa (ab 1) (aa (aq aR (ab 4) (aM (aa (aM (aa (mC (.str "waits")) (aa (ab 3) (ah)))) (ah)))) (ah))))))))
theorem Ao:ji=aO ju sV 3:=iV rfl
def ko:MS:=
 ax (aD (ak 2 cN (aa (ab 0) (aa (ab 1) (ah)))) (aJ 2 (af (ag 1) (af (ag 3) (aB))))) (aV (aM (aa (ab 1) (aa (aq aR (ab 2) (ab 3)) (ah)))))
theorem oS:bn=aO dr ko 3:=iV rfl
def Ax:MS:=
 ax (aD (ab 1) (aJ 2 (af (ag 3) (af (ag 4) (aB))))) (ax (bD (eV (ay (aq gk (aq ar (ab 0) (mC (.int 0))) (mC (.str "turns")))) (ay (aq gk (aq ar (ab 3) (ab 2)) (mC (.str "writes"))))) (aV (ab 1)) (aY)) (aV (aM (aa (ab 3) (aa (be (aP (cm .tup)) (aa (bJ (da (ab 4)) (aJ 4 (af (ag 0) (af (ag 1) (af (ag 2) (af (ag 3) (aB)))))) (bU) (aM (aa (ab 0) (aa (ab 1) (aa (lJ (ay (aq bX (ab 1) (mC (.str "read")))) (mC (.int 1)) (ab 2)) (aa (ab 3) (ah)))))) [none,none,none,none]) (ah))) (ah))))))
theorem GG:gp=aO mM Ax 3:=iV rfl
def oW:MS:=
 ax (aD (aq ar (ab 2) (mC (.int 1))) (ag 3)) (aV (ak 3 bn (aa (ab 0) (aa (ak 3 bB (aa (ak 3 gp (aa (ab 0) (aa (ab 1) (aa (ab 3) (ah))))) (aa (ab 3) (aa (mC (.str "reads")) (ah))))) (aa (aM (aa (aM (aa (mC (.str "down")) (aa (ab 3) (ah)))) (ah))) (ah))))))
theorem uY:gx=aO gE oW 3:=iV rfl
def nJ:MS:=
 ax (aD (aq ar (ab 2) (mC (.int 1))) (ag 3)) (aV (ak 3 bn (aa (ab 0) (aa (ak 3 bB (aa (ak 3 gp (aa (ab 0) (aa (ab 1) (aa (ab 3) (ah))))) (aa (ab 3) (aa (mC (.str "out")) (ah))))) (aa (aM (aa (aM (aa (mC (.str "out")) (aa (ab 3) (ah)))) (ah))) (ah))))))
theorem sQ:fD=aO fI nJ 3:=iV rfl
def oV:MS:=
 ax (aD (aq ar (ab 2) (mC (.int 1))) (ag 3)) (ax (bD (ay (aq bX (ak 2 bZ (aa (ab 1) (aa (ab 3) (ah)))) (mC (.str "up")))) (aD (ak 3 bB (aa (ab 1) (aa (ab 3) (aa (mC (.str "reads")) (ah))))) (ag 4)) (aD (ak 2 cz (aa (ab 1) (aa (ab 3) (ah)))) (ag 4))) (aV (ak 3 bn (aa (ab 0) (aa (ab 4) (aa (aM (aa (aM (aa (mC (.str "ends")) (aa (ab 3) (ah)))) (ah))) (ah)))))))
theorem uX:gv=aO gD oV 3:=iV rfl
def sT:MS:=
 aV (lJ (ay (aq vj (ab 0) (mC .non))) (mC .non) (aq nD (ab 0) (mC (.int 1))))
theorem Al:gS=aO jq sT 1:=iV rfl
def oU:MS:=
 ax (aD (ab 1) (aJ 2 (af (ag 3) (af (ag 4) (aB))))) (ax (aD (bJ (da (ab 4)) (aJ 4 (af (ag 0) (af (ag 1) (af (ag 2) (af (ag 3) (aB)))))) (bU) (aM (aa (ab 0) (aa (ab 1) (aa (ab 2) (aa (ak 1 gS (aa (ab 3) (ah))) (ah)))))) [none,none,none,none]) (ag 5)) (ax (aD (be (aP (cm .tup)) (aa (bJ (da (ab 5)) (ag 0) (ay (aq bX (aq ar (ab 0) (mC (.int 3))) (mC (.int 0)))) (aM (aa (mC (.str "ends")) (aa (aq ar (ab 0) (mC (.int 0))) (ah)))) [none]) (ah))) (ag 6)) (ax (aD (be (aP (cm .tup)) (aa (bJ (da (ab 5)) (ag 0) (ay (aq gk (aq ar (ab 0) (mC (.int 3))) (mC (.int 0)))) (ab 0) [none]) (ah))) (ag 7)) (aV (ak 3 bn (aa (ab 0) (aa (aM (aa (ab 3) (aa (ab 7) (ah)))) (aa (ab 6) (ah)))))))))
theorem uW:gu=aO gC oU 3:=iV rfl
def JR:MS:=
 iF BL 3 (aq ar (ab 2) (mC (.int 0))) (aa (ab 0) (aa (ab 1) (aa (ab 2) (ah))))
theorem NT:oq=aO uB JR 3:=iV rfl
def nI:MS:=
 aV (du (dL "tuple" (ab 0)) (aq bX (be (aP fN) (aa (ab 0) (ah))) (ab 1)))
theorem sO:cR=aO fG nI 2:=iV rfl
def vO:MS:=
 aV (du (dL "str" (ab 0)) (aq oB (ab 0) (ab 1)))
theorem CP:gd=aO kN vO 2:=iV rfl
def sU:MS:=
 aV (du (dL "int" (ab 0)) (gH (dL "bool" (ab 0))))
theorem Am:jg=aO js sU 1:=iV rfl
def oT:MS:=
 aV (du (ak 1 jg (aa (ab 0) (ah))) (cX Oz Oz (ab 1) (ab 0) (ab 2)))
theorem uU:dc=aO gA oT 3:=iV rfl
def vP:MS:=
 ax (bD (cW (ak 2 cR (aa (ab 1) (aa (mC (.int 1)) (ah))))) (aV (ak 2 gd (aa (aq ar (ab 1) (mC (.int 0))) (aa (aM (aa (mC (.str "tick")) (ah))) (ah))))) (aY)) (ax (bD (cW (ak 2 cR (aa (ab 1) (aa (mC (.int 2)) (ah))))) (aV (du (ak 2 gd (aa (aq ar (ab 1) (mC (.int 0))) (aa (mC jW) (ah)))) (ak 3 dc (aa (aq ar (ab 1) (mC (.int 1))) (aa (mC (.int 0)) (aa (aq nD (ab 0) (mC (.int 1))) (ah))))))) (aY)) (ax (bD (dJ (cW (ak 2 cR (aa (ab 1) (aa (mC (.int 3)) (ah)))))) (aV (mC (.bl false))) (aY)) (ax (aD (ab 1) (aJ 3 (af (ag 2) (af (ag 3) (af (ag 4) (aB)))))) (aV (du (ak 2 gd (aa (ab 2) (aa (mC za) (ah)))) (du (ak 3 dc (aa (ab 3) (aa (mC (.int 0)) (aa (aq nD (ab 0) (mC (.int 1))) (ah))))) (ve (aq vj (ab 4) (mC .non)) (ak 3 dc (aa (ab 4) (aa (mC (.int 0)) (aa (mC iD) (ah))))))))))))
theorem CQ:gT=aO kO vP 2:=iV rfl
def Az:MS:=
 ax (bD (ay (aq bX (aq ar (ab 1) (mC (.int 0))) (mC (.str "tick")))) (aV (mC (.bl true))) (aY)) (ax (aD (bu (ab 1) (bv) (bS (mC (.int 2)))) (aJ 2 (af (ag 2) (af (ag 3) (aB))))) (ax (aD (aq ar (aq ar (ab 0) (mC (.int 0))) (ab 3)) (ag 4)) (ax (bD (ay (aq bX (ab 2) (mC (.str "up")))) (aV (aq bX (ab 4) (mC (.str "reads")))) (aY)) (ax (bD (ay (aq bX (ab 2) (mC (.str "down")))) (aV (aq oB (ab 4) (mC iC))) (aY)) (ax (bD (ay (aq bX (ab 2) (mC (.str "leave")))) (aV (aq gk (ab 4) (mC (.str "out")))) (aY)) (ax (bD (ay (aq bX (ab 2) (mC (.str "stop")))) (aV (aq mr (ak 2 bZ (aa (ab 0) (aa (ab 3) (ah)))) (mC .non))) (aY)) (aV (du (aq bX (ab 4) (mC (.str "out"))) (aq vj (ak 2 bZ (aa (ab 0) (aa (ab 3) (ah)))) (mC .non))))))))))
theorem GL:jh=aO kQ Az 2:=iV rfl
def Aw:MS:=
 ax (aD (ak 1 hJ (aa (ab 1) (ah))) (ag 3)) (ax (aD (dZ (ah)) (ag 4)) (ax (jd (eX (aa (ab 2) (ah))) (aJ 2 (af (ag 5) (af (ag 6) (aB)))) (ax (bD (eV (dJ (cW (ak 2 gT (aa (ab 1) (aa (ab 6) (ah)))))) (dJ (cW (ak 2 jh (aa (ab 3) (aa (ab 6) (ah))))))) (jO) (aY)) (ax (aD (ak 3 oq (aa (ab 0) (aa (ab 3) (aa (ab 6) (ah))))) (aJ 2 (af (ag 7) (af (ag 8) (aB))))) (ax (dM (dY cO (ab 4) (aa (aM (aa (ab 3) (aa (ab 7) (aa (ab 8) (ah))))) (ah)))) (aD (ab 7) (ag 3)))))) (aV (ab 4))))
theorem GF:kA=aO mL Aw 3:=iV rfl
def PP:MS:=
 ax (aD (ak 3 kA (aa (ab 0) (aa (ab 1) (aa (ab 2) (ah))))) (ag 3)) (ax (aD (lJ (cW (ab 3)) (aq ar (aq ar (ab 3) (AG Ho (mC (.int 1)))) (mC (.int 1))) (ak 1 hJ (aa (ab 1) (ah)))) (ag 4)) (aV (aM (aa (ab 4) (aa (be (aP (cm .tup)) (aa (df (ab 3) (aJ 3 (af (ag 0) (af (ag 1) (af (ag 2) (aB))))) (bU) (ab 2) [none,none,none]) (ah))) (ah))))))
theorem RU:wB=aO BQ PP 3:=iV rfl
def PQ:MS:=
 ax (jd (cC (aa (aq aR (mC (.int 1)) (be (aP Bw) (aa (mC (.int 6)) (aa (be (aP fN) (aa (ab 0) (ah))) (ah))))) (ah))) (ag 1) (ax (aD (ak 2 gg (aa (ab 0) (aa (ab 1) (ah)))) (ag 2)) (ax (lV 3 4 (aa (ak 1 gf (aa (ab 2) (ah))) (aa (aq aR (mC (.int 1)) (ak 2 bW (aa (ab 2) (aa (mC (.int 5)) (ah))))) (ah)))) (ax (aD (ak 4 gU (aa (ab 2) (aa (ab 3) (aa (ab 4) (aa (aq ar (ej (aa (mC (.int 0)) (aa (mC (.int 6)) (aa (mC (.int 25)) (aa (mC (.int 60)) (ah)))))) (ak 2 bW (aa (ab 2) (aa (mC (.int 4)) (ah))))) (ah)))))) (aJ 2 (af (ag 5) (af (ag 6) (aB))))) (ax (aD (ak 3 eC (aa (ab 3) (aa (ab 4) (aa (ab 5) (ah))))) (ag 7)) (ax (aD (ak 2 bW (aa (ab 2) (aa (aq aR (be (aP fN) (aa (ab 5) (ah))) (mC (.int 1))) (ah)))) (ag 8)) (ax (aD (ak 3 eC (aa (ab 3) (aa (ab 4) (aa (bu (ab 5) (bv) (bS (ab 8))) (ah))))) (ag 9)) (ax (ee (ej (aa (aM (aa (ab 5) (aa (ab 7) (ah)))) (aa (aM (aa (bu (ab 5) (bv) (bS (ab 8))) (aa (ab 9) (ah)))) (aa (aM (aa (ab 5) (aa (ab 7) (ah)))) (ah))))) (aJ 2 (af (ag 10) (af (ag 11) (aB)))) (bD (dJ (cW (ak 2 dA (aa (ak 3 wB (aa (ab 3) (aa (ab 4) (aa (ab 10) (ah))))) (aa (ab 11) (ah)))))) (aV (mC (.bl false))) (aY))) (bD (eV (ay (aq gk (aq ar (ab 7) (mC (.int 0))) (ab 6))) (ay (aq gk (aq ar (ab 9) (mC (.int 1))) (bu (aq ar (ab 7) (mC (.int 1))) (bv) (bS (ab 8)))))) (aV (mC (.bl false))) (aY)))))))))) (aV (mC (.bl true)))
theorem RV:Bt=aO BR PQ 1:=iV rfl
end K17
end
section
namespace K17
open PySem MI PySem.Spec PyProof.Rows L2
open M hiding mC ab aq ay cX cW dh eV dJ du ve gH lJ ah aa aM ej dZ AG bv bS bu be dL ak aY ax aV dM bD ag aB af aJ gc aD cC dD jd bJ da bU dY eX lV jP nB hX fq fh ee fj fg dC df iF
theorem sB:Eo bW:=fun S r m h h0 h1=>by rw [xY];exact Go rfl h h0 h1
theorem left{S:ac}{ns:List Int}{k:Int}(h0:0<=k)(h1:k<=100000):∃ a b,gg [.rol (ns.map .int),.int k] S=some (.ref S.length,S++[.lst [.int a,.int b,.int 0]])/\0<=a/\0<=b/\b<2147483647:=by
 rw [ya]
 exact GT (N:=io) (cellAt:=eD) (far:=jj) rfl h0 h1 (fun S k h=>by rw [rg];exact BJ (N:=eJ) rfl h) (fun S=>by rw [As];exact KS (N:=jy) rfl)
theorem PM(S:ac)(ws:List Wd)(i:Nat)(w:Wd)(h:i<ws.length)(hl:ws.length<=100):dH [cA ws,.int (i:Int),w.d] S=some (cA (ws.set i w),S):=by
 rw [Ar];exact Ng (N:=jx) rfl h hl
theorem seOk:Il fF ib dH:=
 ⟨fun S r es hl=>by rw [sS];exact Dx (N:=fK) rfl hl,fun S r ws wr=>by rw [xZ];exact Ki (N:=im) rfl,PM⟩
theorem vC:nv cL:=fun S r R h hl=>by
 rw [rf];exact zy seOk (N:=eI) rfl h hl
theorem doOk:Ur jk gy cL fE dH:=
 ⟨fun S R dd hl hd=>by rw [At];exact Ph (N:=jz) rfl hl hd,
 fun S r R wr g t h hl hw hs=>by rw [uZ];exact Ij vC (N:=gF) rfl h hl hw hs,
 vC,fun S r w es hl=>by rw [sR];exact CS (N:=fJ) rfl hl,PM⟩
theorem rowOk:QA ic cS:=
 ⟨fun S r n P h1 h5=>by rw [yc];exact LU sB (N:=iq) rfl P h1 (by omega),
 fun S rl R dd h hl hd=>by rw [yb];exact LN doOk (N:=ip) rfl h hl hd⟩
theorem row{S:ac}{r n m:Nat}{rl:Rl}(P:Pk S r)(h1:1<=n)(h5:n<=5)(hm:m<=400):∃ (l:List Dd) (R:Rm) (S':ac),gU [.ref r,rl.d,.int (n:Int),.int (m:Int)] S=some (.tup [.tup (l.map Dd.d),aN R],S')/\Behind rl n l R/\l.length<=m/\Pk S' r/\Grow r S S':=by
 rw [Ap];exact MY rowOk (N:=jv) rfl P h1 h5 hm
theorem rule{S:ac}{r:Nat}(P:Pk S r):∃ (rl:Rl) (S':ac),gf [.ref r] S=some (rl.d,S')/\rl.Ok/\Pk S' r/\Keep r S S':=by
 rw [xX]
 obtain⟨x,a,b,c,S',e,R,P',K⟩:=Gk (pick:=bW) sB (N:=il) rfl P
 obtain⟨w,rfl⟩:=He R.w
 exact⟨⟨w,a,b,c⟩,S',e,⟨R.a0,R.a5,R.b0,R.b9,R.c0,R.c1⟩,P',K⟩
theorem Ol:Mv ci:=fun S R l hl=>by rw [sP];exact SH (N:=fH) rfl hl
theorem rT:qw bZ:=fun S R g hl=>by rw [sN];exact Iz Ol (N:=iX) rfl hl
theorem yW:ny gq:=⟨fun S r R g hl=>by rw [vN];exact HW rT (N:=kP) rfl hl,fun S r ws hl=>by rw [vN];exact HV (fun S=>by rw [sN];exact Iy Ol (N:=iX) rfl hl) (N:=kP) rfl⟩
theorem RQ(S:ac)(r:Rl)(R:Rm)(hl:R.1.length<=100)(hl2:R.2.length<=100):kD [r.d,aN R] S=some (nA (qA r R),S):=by
 rw [CO]
 exact CH (fun S r R hl=>by rw [xU];exact xQ yW (N:=ij) rfl hl) (fun S w es hw hl=>by rw [An];exact yG (N:=jt) rfl hw hl) yW (N:=kM) rfl hl hl2
theorem Mh(S:ac)(r:Rl)(R:Rm)(hl:R.1.length<=100)(hl2:R.2.length<=100):kG [r.d,aN R] S=some (rp (nS r R),S):=by
 rw [GJ];exact Ea Ol yW RQ (N:=mO) rfl hl hl2
theorem FP(S:ac)(R:Rm)(g:Nat)(w:Wd)(h:g<R.1.length)(hl:R.1.length<=100):bB [aN R,.int (g:Int),w.d] S=some (aN (R.1.set g w,R.2),S):=by
 rw [xT];exact wS (N:=ii) rfl h hl
theorem stOk:Ul gt kG:=⟨Mh,fun S r R v R' l h hl s=>by
 rw [uV]
 exact BM FP (fun S r R i e h hi hl=>by rw [GH];exact GS FP (N:=mN) rfl h hi hl) (N:=gB) rfl h hl s⟩
theorem Jm{S:ac}{r:Rl}{R:Rm}(hb:0<=r.b)(h:ROk R)(hl:R.1.length<=50):cN [r.d,aN R] S=some (.tup [aN (aX r R).1,cM (aX r R).2],S++[.lst ((aX r R).2.map Ev.d)]):=by
 rw [CN];exact xA stOk hb (N:=kL) rfl h hl
theorem MX{S:ac}{d:D}(h:cf 8 d=true):dA [d,d] S=some (.bl true,S):=zL (R:=gm) (N:=N__law_same) rfl xW 8 d h
theorem IU:FK cN:=fun S r R hb h hl=>Jm hb h hl
theorem woOk:Ui cz:=fun S R g hl=>by rw [qZ,show lU=Ct from rfl];exact QD (N:=eH) rfl hl
theorem MW:Pu bn:=fun S r R l hb h hl h4=>by rw [oS,show ko=Cv cN from rfl];exact QV IU (N:=dr) rfl hb h hl h4
theorem tuOk:TuOk gp:=fun S r R g w hw hl=>by rw [GG,show Ax=Cu from rfl];exact QL (N:=mM) rfl hw hl
theorem olOk(S:ac)(t:Option Int):gS [bF t] S=some (bF (t.map (· - 1)),S):=by rw [Al,show sT=oJ from rfl];exact Kj (N:=jq) rfl
theorem deOk:DeOk cN bZ ci bB:=⟨IU,rT,Ol,FP⟩
theorem brOk:BrOk ge ji gx fD gv gu:=
 ⟨fun S r R wr g t hb h hl hw hs=>by rw [xV,show qB=xE cN bZ cz from rfl];exact Pt IU rT woOk (N:=ik) rfl hb h hl hw hs,
 fun S r R g hb h hl hw=>by rw [Ao,show sV=xB cN bZ ci bB from rfl];exact QE deOk (N:=ju) rfl hb h hl hw,
 fun S r R g w hb h hl hw ho=>by rw [uY,show oW=oK bn bB gp Wd.reads.s "down" from rfl];exact BC MW FP tuOk (N:=gE) rfl hb h hl hw ho (.inl rfl) rfl (by decide) rfl,
 fun S r R g w hb h hl hw ho=>by rw [sQ,show nJ=oK bn bB gp Wd.out.s "out" from rfl];exact BC MW FP tuOk (N:=fI) rfl hb h hl hw ho (.inr rfl) rfl (by decide) rfl,
 fun S r R g w hb h hl hw hc=>by rw [uX,show oV=oI bn bB cz bZ from rfl];exact IL MW FP woOk rT (N:=gD) rfl hb h hl hw hc,
 fun S r R hb h hl=>by rw [uW,show oU=sx bn gS from rfl];exact IE MW olOk (N:=gC) rfl hb h hl⟩
theorem pdone{S:ac}{r:Rl}{R:Rm}{dd:Dd}{x:Rm×List Ev}(hb:0<=r.b)(h:ROk R)(hl:R.1.length<=50)(hd:dd.Ok R.1.length)(hx:gh r R dd=some x):∃ T,oq [r.d,aN R,dd.d] S=some (iw x,S++T):=by
 rw [NT,show JR=oM (brL ge ji gx fD gv gu) from rfl];exact Gs brOk (N:=uB) rfl hb h hl hd hx
theorem tofOk:Qy cR:=fun S xs k=>by rw [sO,show nI=xC from rfl];exact MD (N:=fG) rfl
theorem QC:Mt gd:=fun S x ys h=>by rw [CP,show vO=sv from rfl];exact Iv (N:=kN) rfl h
theorem betOk:QB dc:=fun S i lo hi=>by rw [uU,show oT=rE jg from rfl];exact Pm (fun S i=>by rw [Am,show sU=pR from rfl];exact FQ (N:=js) rfl) (N:=gA) rfl
theorem SF{S:ac}{n:Nat}{dd:Dd}(hd:dd.Ok n):gT [.int (n:Int),dd.d] S=some (.bl true,S):=by
 rw [CQ,show vP=lQ cR gd dc from rfl];exact HM tofOk QC betOk (N:=kO) rfl hd
theorem canDo{S:ac}{R:Rm}{dd:Dd}(hl:R.1.length<=100)(hd:dd.Ok R.1.length)(hc:gW R dd=true):jh [aN R,dd.d] S=some (.bl true,S):=by
 rw [GL,show Az=oN bZ from rfl]
 by_cases ht:dd=.tick
 ·subst ht;exact Ed (N:=kQ) rfl
 ·rw [HX rT (N:=kQ) rfl hl hd ht,hc]
theorem Kl{S:ac}{r:Rl}{R:Rm}{dd:Dd}(h:ROk R)(hl:R.1.length<=50)(hd:dd.Ok R.1.length):∃ T,cS [r.d,aN R,dd.d] S=some (pH (gh r R dd),S++T):=rowOk.dn S r R dd h hl hd
theorem Fy(S:ac)(n:Nat)(h5:n<=5):hJ [.int (n:Int)] S=some (aN (ba n),S):=by rw [JP,show EK=pU from rfl];exact HD (N:=pM) rfl h5
theorem rnOk:Pv gT jh oq hJ:=⟨fun S n dd hd=>SF hd,fun S R dd hl hd hc=>canDo hl hd hc,fun S r R dd x hb h hl hd hx=>pdone hb h hl hd hx,Fy⟩
theorem ranOk{S:ac}{r:Rl}{n:Nat}{l:List Dd}{xs:Rs}(hb:0<=r.b)(h5:n<=5)(w:Ws r (ba n) l xs)(hd:∀ d∈l,d.Ok n)(hl:l.length<=100):∃ S',wB [r.d,.int (n:Int),.tup (l.map Dd.d)] S=some (gi (ba n) xs,S'):=by
 obtain⟨S1,e1,q1⟩:∃ S',kA [r.d,.int (n:Int),.tup (l.map Dd.d)] S=some (.ref S.length,S')/\S'[S.length]?=some (.lst ((BY (ba n) xs).map FT)):=by
  rw [GF,show Aw=nW gT jh oq hJ from rfl];exact BV rnOk hb (N:=mL) rfl h5 w hd (by omega)
 refine⟨S1,?_⟩
 rw [RU,show PP=xD kA hJ from rfl]
 exact MZ Fy (N:=BQ) rfl h5 (by rw [w.len];omega) e1 q1
theorem Uo{S:ac}{r q:Nat}{c:uD}(P:Pk S r)(h:q≠r):Pk (S.set q c) r:=by
 obtain⟨a,b,d,e,z⟩:=P
 exact⟨a,b,d,by rw [List.getElem?_set_ne h];exact e,z⟩
def yk:MS:=ax (aD (ak 3 cS (aa (ab 0) (aa (ab 3) (aa (ab 5) (ah))))) (aJ 2 (af (ag 3) (af (ag 6) (aB))))) (dM (dY cO (ab 4) (aa (ab 6) (ah))))
def PU:MS:=ax (aD (aM (aa (aq cw (aM (aa (mC (.str "out")) (ah))) (ab 1)) (aa (aM (ah)) (ah)))) (ag 3)) (ax (aD (dZ (ah)) (ag 4)) (ax (ee (ab 2) (ag 5) yk) (aV (aM (aa (ab 3) (aa (be (aP (cm .tup)) (aa (ab 4) (ah))) (ah)))))))
theorem GQ{S:ac}{p q n:Nat}{r:Rl}{R:Rm}{dd:Dd}{x:Rm×List Ev}{zs:List D}{a2 a6:Option D}(P:Pk S p)(hp:q≠p)(h:ROk R)(hn:R.1.length=n)(h5:n<=5)(hd:dd.Ok n)(hx:gh r R dd=some x)(hq:S[q]?=some (.lst zs))(hz:zs.length<=500):∃ b6 S',yk [some r.d,some (.int (n:Int)),a2,some (aN R),some (.ref q),some dd.d,a6] S=some (.nx [some r.d,some (.int (n:Int)),a2,some (aN x.1),some (.ref q),some dd.d,b6] S')/\Pk S' p/\S'[q]?=some (.lst (zs++[cM x.2])):=by
 obtain⟨T,e2⟩:=Kl (S:=S) (r:=r) (R:=R) (dd:=dd) h (by omega) (by rw [hn];exact hd)
 rw [hx] at e2
 have e2':cS [r.d,aN R,dd.d] S=some (.tup [aN x.1,cM x.2],S++T):=e2
 have g2:∀ (u v:D) env S,aJ 2 (af (ag 3) (af (ag 6) (aB))) (.tup [u,v]) env S=(af (ag 3) (af (ag 6) (aB))) [u,v] env S:=fun u v env S=>bV
 have cq:(S++T)[q]?=some (.lst zs):=by rw [List.getElem?_append_left (List.getElem?_eq_some_iff.mp hq).1];exact hq
 have ap:cO (.ref q) [cM x.2] (S++T)=some (.non,(S++T).set q (.lst (zs++[cM x.2]))):=mZ cq (by omega)
 have km:∀ f ms env,pg f ms env (.ref q,S++T)=(ms env (S++T)).bind (dW f (.ref q)):=fun f ms env=>rM cq
 refine⟨some (cM x.2),(S++T).set q (.lst (zs++[cM x.2])),?_,Uo P.appT hp,List.getElem?_set_self (List.getElem?_eq_some_iff.mp cq).1⟩
 simp only [yk,aQ,bj,aG,ao,aj,bH,bN,bM,oj,ob,ai,am,az,al,bE,e2',bm,g2,bo,aT,cH,bG,eK,eY,bK,aC,lg,lf,km,fC,ap,lq]
theorem GR{p q n:Nat}{r:Rl}{a2:Option D}(hp:q≠p)(h5:n<=5){R:Rm}{l:List Dd}{xs:Rs}(w:Ws r R l xs):∀ (S:ac) (zs:List D) (a5 a6:Option D),Pk S p->ROk R->R.1.length=n->(∀ d∈l,d.Ok n)->S[q]?=some (.lst zs)->zs.length+l.length<=400 ->
  ∃ b5 b6 S',cF (ag 5) yk (l.map Dd.d) [some r.d,some (.int (n:Int)),a2,some (aN R),some (.ref q),a5,a6] S=some (.nx [some r.d,some (.int (n:Int)),a2,some (aN (dq R xs)),some (.ref q),b5,b6] S')/\Pk S' p/\S'[q]?=some (.lst (zs++wC xs)):=by
 induction w with
 | nil=>
  intro S zs a5 a6 P h hn hd hq hz
  exact⟨a5,a6,S,pZ,P,by simp only [wC,List.map_nil,List.append_nil];exact hq⟩
 | @cons R d x l xs hx t ih=>
  intro S zs a5 a6 P h hn hd hq hz
  rw [List.length_cons] at hz
  obtain⟨b6,S1,e1,P1,q1⟩:=GQ (a2:=a2) (a6:=a6) P hp h hn h5 (hd d List.mem_cons_self) hx hq (by omega)
  obtain⟨h',hl'⟩:=ie h hx
  obtain⟨c5,c6,S2,e2,P2,q2⟩:=ih S1 _ (some d.d) b6 P1 h' (hl'.trans hn) (fun d' z=>hd d' (List.mem_cons_of_mem _ z)) q1 (by rw [List.length_append,List.length_singleton];omega)
  refine⟨c5,c6,S2,?_,P2,?_⟩
  ·rw [List.map_cons,dE]
   simp only [aT,ob,eK,eY,lm,e1,jG,e2,dq]
  ·rw [q2,List.append_assoc];rfl
theorem Kn{S:ac}{p n:Nat}{r:Rl}{l:List Dd}{xs:Rs}(P:Pk S p)(h5:n<=5)(w:Ws r (ba n) l xs)(hd:∀ d∈l,d.Ok n)(hl:l.length<=100):∃ S',eC [r.d,.int (n:Int),.tup (l.map Dd.d)] S=some (gi (ba n) xs,S')/\Pk S' p:=by
 rw [Aq,show sX=PU from rfl,bb (show [r.d,D.int (n:Int),D.tup (l.map Dd.d)].length=3 from rfl),show aA jw [r.d,D.int (n:Int),D.tup (l.map Dd.d)]=[some r.d,some (.int (n:Int)),some (.tup (l.map Dd.d)),none,none,none,none] from rfl]
 have e0:=Lz (S:=S) (n:=n) (i:=1) (env:=[some r.d,some (.int (n:Int)),some (.tup (l.map Dd.d)),none,none,none,none]) h5 (by simp only [aj,bH,bN,bM,oj,ob,ai])
 have kl:qE ([],S)=some (.ref S.length,S++[.lst []]):=ku (by simp)
 have hp:S.length≠p:=fun z=>by have:=P.lt;omega
 obtain⟨b5,b6,S',e,P',hq⟩:=GR (a2:=some (.tup (l.map Dd.d))) hp h5 w (S++[.lst []]) [] none none P.appT nj (by simp [ba]) hd hU (by simp;omega)
 rw [List.nil_append] at hq
 have fs:aP (cm .tup) [.ref S.length] S'=some (.tup (wC xs),S'):=qk hq
 have k2:∀ S (x y:D),cr ([x,y],S)=some (.tup [x,y],S):=fun S x y=>aU (by simp)
 refine⟨S',?_,P'⟩
 simp only [PU,aQ,bj,e0,ob,bm,aT,eK,eY,bK,aC,oY,az,kl,mR,aj,bH,bN,bM,oj,ai,Ob,e,aW,bg,ao,am,bP,al,bR,fs,k2,bt,aH,gi]
def PN:ME:=aq ar (ej (aa (mC (.int 0)) (aa (mC (.int 6)) (aa (mC (.int 25)) (aa (mC (.int 60)) (ah)))))) (ak 2 bW (aa (ab 2) (aa (mC (.int 4)) (ah))))
def IR:ME:=bu (ab 5) (bv) (bS (ab 8))
def Fa:MS:=bD (dJ (cW (ak 2 dA (aa (ak 3 wB (aa (ab 3) (aa (ab 4) (aa (ab 10) (ah))))) (aa (ab 11) (ah)))))) (aV (mC (.bl false))) (aY)
def Fb:MS:=bD (eV (ay (aq gk (aq ar (ab 7) (mC (.int 0))) (ab 6))) (ay (aq gk (aq ar (ab 9) (mC (.int 1))) (bu (aq ar (ab 7) (mC (.int 1))) (bv) (bS (ab 8)))))) (aV (mC (.bl false))) (aY)
def QM:ME:=ej (aa (aM (aa (ab 5) (aa (ab 7) (ah)))) (aa (aM (aa IR (aa (ab 9) (ah)))) (aa (aM (aa (ab 5) (aa (ab 7) (ah)))) (ah))))
def turn:MS:=ax (aD (ak 2 gg (aa (ab 0) (aa (ab 1) (ah)))) (ag 2)) (ax (lV 3 4 (aa (ak 1 gf (aa (ab 2) (ah))) (aa (aq aR (mC (.int 1)) (ak 2 bW (aa (ab 2) (aa (mC (.int 5)) (ah))))) (ah)))) (ax (aD (ak 4 gU (aa (ab 2) (aa (ab 3) (aa (ab 4) (aa PN (ah)))))) (aJ 2 (af (ag 5) (af (ag 6) (aB))))) (ax (aD (ak 3 eC (aa (ab 3) (aa (ab 4) (aa (ab 5) (ah))))) (ag 7)) (ax (aD (ak 2 bW (aa (ab 2) (aa (aq aR (be (aP fN) (aa (ab 5) (ah))) (mC (.int 1))) (ah)))) (ag 8)) (ax (aD (ak 3 eC (aa (ab 3) (aa (ab 4) (aa IR (ah))))) (ag 9)) (ax (ee QM (aJ 2 (af (ag 10) (af (ag 11) (aB)))) Fa) Fb))))))
theorem Pq{q:Int}(h0:0<=q)(h1:q<4):∃ k:Nat,lH [D.int 0,D.int 6,D.int 25,D.int 60] q=some (.int (k:Int))/\k<=60:=by
 have:q=0\/q=1\/q=2\/q=3:=by omega
 rcases this with rfl | rfl | rfl | rfl
 ·exact⟨0,rfl,by decide⟩
 ·exact⟨6,rfl,by decide⟩
 ·exact⟨25,rfl,by decide⟩
 ·exact⟨60,rfl,by decide⟩
theorem tE{S:ac}{n:Nat}{r:Rl}{l:List Dd}{xs:Rs}{a0 a1 a2 a5 a6 a7 a8 a9:Option D}(hb:0<=r.b)(h5:n<=5)(w:Ws r (ba n) l xs)(hd:∀ d∈l,d.Ok n)(hl:l.length<=100):∃ S',Fa [a0,a1,a2,some r.d,some (.int (n:Int)),a5,a6,a7,a8,a9,some (.tup (l.map Dd.d)),some (gi (ba n) xs)] S=some (.nx [a0,a1,a2,some r.d,some (.int (n:Int)),a5,a6,a7,a8,a9,some (.tup (l.map Dd.d)),some (gi (ba n) xs)] S'):=by
 obtain⟨S1,e1⟩:=ranOk (S:=S) hb h5 w hd hl
 have sm:dA [gi (ba n) xs,gi (ba n) xs] S1=some (.bl true,S1):=MX (IZ w nj (by simp [ba];exact h5) hl)
 refine⟨S1,?_⟩
 simp only [Fa,bp,iK,dB,aG,ao,aj,bH,bN,bM,oj,ob,ai,am,az,al,bE,e1,bd,sm,fv,iN,Bool.not_true,bO,bA]
theorem MC{S:ac}{ns:List Int}{k:Int}{a2 a3 a4 a5 a6 a7 a8 a9 a10 a11:Option D}(h0:0<=k)(h1:k<=100000) :
  ∃ b2 b3 b4 b5 b6 b7 b8 b9 b10 b11 S',turn [some (.rol (ns.map .int)),some (.int k),a2,a3,a4,a5,a6,a7,a8,a9,a10,a11] S=some (.nx [some (.rol (ns.map .int)),some (.int k),b2,b3,b4,b5,b6,b7,b8,b9,b10,b11] S'):=by
 obtain⟨p,q,e1,p0,q0,q1⟩:=left (S:=S) (ns:=ns) h0 h1
 have P1:=Up (S:=S) (c:=0) p0 q0 q1
 obtain⟨r,S2,e2,Rk,P2,K2⟩:=rule P1
 obtain⟨m,S3,e3,m0,m5,P3,K3⟩:=sB _ _ 5 P2 (by decide) (by decide)
 obtain⟨n,hn⟩:∃ n:Nat,1+m=(n:Int):=⟨(1+m).toNat,by omega⟩
 obtain⟨j,S4,e4,j0,j4,P4,K4⟩:=sB _ _ 4 P3 (by decide) (by decide)
 obtain⟨c,ec,hc⟩:=Pq j0 j4
 have k4:∀ S,lX ([D.int 0,D.int 6,D.int 25,D.int 60],S)=some (.lst [D.int 0,D.int 6,D.int 25,D.int 60],S):=fun S=>dG (by simp)
 have xl:∀ S,ar S (.lst [D.int 0,D.int 6,D.int 25,D.int 60]) (.int j)=some (.int (c:Int)):=fun S=>by rw [fIx_l];exact ec
 obtain⟨l,R,S5,e5,B,hlen,P5,G5⟩:=row (rl:=r) (n:=n) (m:=c) P4 (by omega) (by omega) (by omega)
 obtain⟨⟨xs,w,hR⟩,hd⟩:=B.ws
 have hx:=w.len
 obtain⟨S6,e6,P6⟩:=Kn P5 (by omega) w hd (by omega)
 obtain⟨i,S7,e7,i0,i1,P7,K7⟩:=sB _ _ ((l.length:Int)+1) P6 (by omega) (by omega)
 obtain⟨d,hi⟩:∃ d:Nat,i=(d:Int):=⟨i.toNat,by omega⟩
 subst hi
 have w':=w.take d
 have hd':∀ x∈l.take d,x.Ok n:=fun x z=>hd x (List.mem_of_mem_take z)
 have hl':(l.take d).length<=100:=Nat.le_trans (by rw [List.length_take];omega) (show l.length<=100 by omega)
 obtain⟨S8,e8,P8⟩:=Kn P7 (by omega) w' hd' hl'
 have sl:∀ S,iL (.tup (l.map Dd.d)) none (some (d:Int),S)=some (.tup ((l.take d).map Dd.d),S):=fun S=>by rw [jR,jb,List.map_take]
 have sl2:∀ S,iL (.tup (wC xs)) none (some (d:Int),S)=some (.tup (wC (xs.take d)),S):=fun S=>by rw [jR,jb];unfold wC;rw [List.map_take]
 have g2:∀ (u v:D) env S,aJ 2 (af (ag 5) (af (ag 6) (aB))) (.tup [u,v]) env S=(af (ag 5) (af (ag 6) (aB))) [u,v] env S:=fun u v env S=>bV
 have g2':∀ (u v:D) env S,aJ 2 (af (ag 10) (af (ag 11) (aB))) (.tup [u,v]) env S=(af (ag 10) (af (ag 11) (aB))) [u,v] env S:=fun u v env S=>bV
 have k2:∀ S (x y:D),cr ([x,y],S)=some (.tup [x,y],S):=fun S x y=>aU (by simp)
 have k3:∀ S (x y z:D),lX ([x,y,z],S)=some (.lst [x,y,z],S):=fun S x y z=>dG (by simp)
 have fl:∀ S,aP fN [.tup (l.map Dd.d)] S=some (.int (l.length:Nat),S):=fun S=>by rw [yJ,List.length_map]
 obtain⟨S9,r1⟩:=tE (S:=S8) (a0:=some (.rol (ns.map .int))) (a1:=some (.int k)) (a2:=some (.ref S.length)) (a5:=some (.tup (l.map Dd.d))) (a6:=some (aN R)) (a7:=some (gi (ba n) xs)) (a8:=some (.int (d:Int))) (a9:=some (gi (ba n) (xs.take d))) Rk.b0 (by omega) w hd (by omega)
 obtain⟨S10,r2⟩:=tE (S:=S9) (a0:=some (.rol (ns.map .int))) (a1:=some (.int k)) (a2:=some (.ref S.length)) (a5:=some (.tup (l.map Dd.d))) (a6:=some (aN R)) (a7:=some (gi (ba n) xs)) (a8:=some (.int (d:Int))) (a9:=some (gi (ba n) (xs.take d))) Rk.b0 (by omega) w' hd' hl'
 obtain⟨S11,r3⟩:=tE (S:=S10) (a0:=some (.rol (ns.map .int))) (a1:=some (.int k)) (a2:=some (.ref S.length)) (a5:=some (.tup (l.map Dd.d))) (a6:=some (aN R)) (a7:=some (gi (ba n) xs)) (a8:=some (.int (d:Int))) (a9:=some (gi (ba n) (xs.take d))) Rk.b0 (by omega) w hd (by omega)
 have x0:∀ S,ar S (gi (ba n) xs) (.int 0)=some (aN R):=fun S=>by rw [<- hR];rfl
 have x1:∀ S,ar S (gi (ba n) xs) (.int 1)=some (.tup (wC xs)):=fun S=>rfl
 have x2:∀ S,ar S (gi (ba n) (xs.take d)) (.int 1)=some (.tup (wC (xs.take d))):=fun S=>rfl
 have n1:∀ S,gk S (aN R) (aN R)=some (.bl false):=fun S=>Bu (RO (n:=36))
 have n2:∀ S,gk S (.tup (wC (xs.take d))) (.tup (wC (xs.take d)))=some (.bl false):=fun S=>Bu RN
 have le:∀ env,env=[some (.rol (ns.map .int)),some (.int k),some (.ref S.length),some r.d,some (.int (n:Int)),some (.tup (l.map Dd.d)),some (aN R),some (gi (ba n) xs),some (.int (d:Int)),some (gi (ba n) (xs.take d)),some (.tup (l.map Dd.d)),some (gi (ba n) xs)]->∀ T,Fb env T=some (.nx env T):=fun env he T=>by
  subst he
  simp only [Fb,bp,iy,aI,aF,aj,bH,bN,bM,oj,ob,ai,aw,bi,av,x0,n1,aE,ll,x2,cy,x1,dU,cE,dS,cY,cZ,sl2,n2,bO,bA]
 refine⟨some (.ref S.length),some r.d,some (.int (n:Int)),some (.tup (l.map Dd.d)),some (aN R),some (gi (ba n) xs),some (.int (d:Int)),some (gi (ba n) (xs.take d)),some (.tup (l.map Dd.d)),some (gi (ba n) xs),S11,?_⟩
 have fin:ax (ee QM (aJ 2 (af (ag 10) (af (ag 11) (aB)))) Fa) Fb [some (.rol (ns.map .int)),some (.int k),some (.ref S.length),some r.d,some (.int (n:Int)),some (.tup (l.map Dd.d)),some (aN R),some (gi (ba n) xs),some (.int (d:Int)),some (gi (ba n) (xs.take d)),a10,a11] S8=some (.nx [some (.rol (ns.map .int)),some (.int k),some (.ref S.length),some r.d,some (.int (n:Int)),some (.tup (l.map Dd.d)),some (aN R),some (gi (ba n) xs),some (.int (d:Int)),some (gi (ba n) (xs.take d)),some (.tup (l.map Dd.d)),some (gi (ba n) xs)] S11):=by
  simp only [aQ,mR,QM,IR,iz,ao,bg,aj,bH,bN,bM,oj,ob,ai,am,az,al,k2,cy,dU,cE,dS,cY,cZ,sl,k3,Oc,dE,g2',bo,aT,eK,eY,cH,bG,lm,r1,r2,r3,jG,pZ,aC,le _ rfl]
 simp only [turn,aQ,bj,aG,ao,aj,bH,bN,bM,oj,ob,ai,am,az,al,bd,e1,bm,aT,eK,eY,bK,aC,RW,pi,e2,aF,bi,aw,e3,av,jV,hn,Sr,PN,iz,k4,e4,xl,Kz,e5,g2,bo,cH,bG,bE,e6,bP,bR,fl,e7,IR,cy,dU,cE,dS,cY,cZ,sl,e8]
 simp only [aQ,IR] at fin
 exact fin
theorem Kk:∀ ns:List Int,ns.length<=63->∃ S',Bt [.rol (ns.map .int)] []=some (.bl true,S'):=fun ns hl=>by
 rw [RV,bb (show [D.rol (ns.map .int)].length=1 from rfl),show aA BR [D.rol (ns.map .int)]=[some (.rol (ns.map .int)),none,none,none,none,none,none,none,none,none,none,none] from rfl]
 have hm:PQ=ax (jd (cC (aa (aq aR (mC (.int 1)) (be (aP Bw) (aa (mC (.int 6)) (aa (be (aP fN) (aa (ab 0) (ah))) (ah))))) (ah))) (ag 1) turn) (aV (mC (.bl true))):=rfl
 rw [hm]
 generalize hk:1+(if (ns.length:Int)<6 then (ns.length:Int) else 6)=k
 have hk':0<=k/\k<=26:=by rw [<- hk];split <;> omega
 have k1:PX ([.int k],[])=some (cG 0 k.toNat,[]):=qh (by omega) (by omega)
 obtain⟨env',S',e,a1,a2,a3,a4,a5,a6,a7,a8,a9,a10,a11,rfl⟩:=Bo (tg:=ag 1) (p:=turn) (fun env _=>∃ a1 a2 a3 a4 a5 a6 a7 a8 a9 a10 a11,env=[some (.rol (ns.map .int)),a1,a2,a3,a4,a5,a6,a7,a8,a9,a10,a11]) (cG 0 k.toNat) (fun d hd env S hI=>by
  obtain⟨a1,a2,a3,a4,a5,a6,a7,a8,a9,a10,a11,rfl⟩:=hI
  obtain⟨i,hi,rfl⟩:=CM hd
  obtain⟨b2,b3,b4,b5,b6,b7,b8,b9,b10,b11,S2,e⟩:=MC (S:=S) (ns:=ns) (k:=0+(i:Int)) (a2:=a2) (a3:=a3) (a4:=a4) (a5:=a5) (a6:=a6) (a7:=a7) (a8:=a8) (a9:=a9) (a10:=a10) (a11:=a11) (by omega) (by omega)
  exact⟨_,_,_,_,aT,e,_,_,_,_,_,_,_,_,_,_,_,rfl⟩) [some (.rol (ns.map .int)),none,none,none,none,none,none,none,none,none,none,none] [] ⟨_,_,_,_,_,_,_,_,_,_,_,rfl⟩
 refine⟨S',?_⟩
 simp only [aQ,tw,iW,ao,aF,bi,ob,aw,bP,am,aj,bH,oj,ai,az,al,bR,SW,Ow,av,jV,List.length_map,hk,k1,tJ,e,aC,aW,bt,aH]
end K17
end
def PySem.W.Fast.tw2701369394574660875:=0
def PySem.W.Fast.tw9735837045020638568:=0
def PySem.W.Fast.tw6479950259439476297:=0
def PySem.W.Fast.tw354797372476420698:=0
def PySem.W.Fast.tw3390200747666751441:=0
def PySem.W.Fast.tw2653494160428481156:=0
def PySem.W.Fast.tw9057078831418407503:=0
def PySem.W.Fast.tw12134976475231578545:=0
def PySem.W.Fast.tw7263763163815061320:=0
def PySem.W.Fast.tw11171243336527780788:=0
def PySem.W.Fast.tw11084957880434748319:=0
def PySem.W.Fast.tw7664447025873459589:=0
def PySem.W.Fast.tw11187355760772782356:=0
def PySem.W.Fast.tw17690011593684575159:=0
def PySem.W.Fast.tw9461389515463206179:=0
def PySem.W.Fast.tw6249121576731373706:=0
def PySem.W.Fast.tw9012772996089824886:=0
def PySem.W.Fast.tw9685511105231512059:=0
def PySem.W.Fast.tw7643090366996214899:=0
def PySem.W.Fast.tw16611052302011417815:=0
def PySem.W.Fast.tw7741506438838752440:=0
def PySem.W.Fast.tw3270381518745042063:=0
def PySem.W.Fast.tw16335112830587064005:=0
def PySem.W.Fast.tw6565888585965444954:=0
def PySem.W.Fast.tw13681616270308551681:=0
def PySem.W.Fast.tw10903587455358516513:=0
def PySem.W.Fast.tw13615749175068081771:=0
def PySem.W.Fast.tw11685782431119571459:=0
def PySem.W.Fast.tw10816492089542497384:=0
def PySem.W.Fast.tw401444867815167071:=0
def PySem.W.Fast.tw3709474067398652655:=0
def PySem.W.Fast.tw4624222182135295833:=0
def PySem.W.Fast.tw11388993930820277817:=0
def PySem.W.Fast.tw15994890450303841622:=0
def PySem.W.Fast.tw1084704071256197114:=0
def PySem.W.Fast.tw9713533491391691175:=0
def PySem.W.Fast.tw4384059635194858461:=0
def PySem.W.Fast.tw3970875938763444100:=0
def PySem.W.Fast.tw16563470472623766634:=0
def PySem.W.Fast.tw14071347691357353767:=0
def PySem.W.Fast.tw5029039884473375299:=0
def PySem.W.Fast.tw8247854597643113312:=0
def PySem.W.Fast.tw8346657094433851353:=0
def PySem.W.Fast.tw15814889121252144487:=0
def PySem.W.Fast.tw17329280841320581798:=0
def PySem.W.Fast.tw1364852403576192034:=0
def PySem.W.Fast.tw4775271720128601103:=0
def PySem.W.Fast.tw10509957783032036959:=0
def PySem.W.Fast.tw10898296918059290624:=0
def PySem.W.Fast.tw3596066263072188623:=0
def PySem.W.Fast.tw16414314209938911937:=0
def PySem.W.Fast.tw10404471608143563916:=0
def PySem.W.Fast.tw12234363774633113638:=0
def PySem.W.Fast.tw18343530480524279248:=0
def PySem.W.Fast.tw1805666043351453203:=0
def PySem.W.Fast.tw6867748922376228948:=0
def PySem.W.Fast.tw15330496449022752894:=0
def PySem.W.Fast.tw5249274599312059222:=0
def PySem.W.Fast.tw17933087979046375409:=0
def PySem.W.Fast.tw12575237163585136355:=0
def PySem.W.Fast.tw7217859961131175605:=0
def PySem.W.Fast.tw11301092940776319042:=0
def PySem.W.Fast.tw852885767145249929:=0
def PySem.W.Fast.tw17867326578593977614:=0
def PySem.W.Fast.tw14705210361442104747:=0
def PySem.W.Fast.tw9341607369941044373:=0
def PySem.W.Fast.tw11767051422596103432:=0
def PySem.W.Fast.tw14754047036790536085:=0
def PySem.W.Fast.tw18193139147627018807:=0
def PySem.W.Fast.tw17083291433775338389:=0
def PySem.W.Fast.tw11776311532916639831:=0
def PySem.W.Fast.tw16188672213319256318:=0
def PySem.W.Fast.tw12695069435148353824:=0
def PySem.W.Fast.tw11540706900544429825:=0
def PySem.W.Fast.tw9515214027399368667:=0
def PySem.W.Fast.tw5756921209559670630:=0
def PySem.W.Fast.tw16784137229768833397:=0
def PySem.W.Fast.tw16836874818065664025:=0
def PySem.W.Fast.tw9581731101130223061:=0
def PySem.W.Fast.tw13966841590987515428:=0
def PySem.W.Fast.tw6653042124679845756:=0
def PySem.W.Fast.tw4031857255597134599:=0
def PySem.W.Fast.tw7614373790862725979:=0
def PySem.W.Fast.tw15951669712085387824:=0
def PySem.W.Fast.tw1699714556412095079:=0
def PySem.W.Fast.tw8689617388182500435:=0
def PySem.W.Fast.tw15451687715802385381:=0
def PySem.W.Fast.tw9749351106279699430:=0
def PySem.W.Fast.tw3699042035970708977:=0
def PySem.W.Fast.tw17553606635375931701:=0
def PySem.W.Fast.tw9994868121787960867:=0
def PySem.W.Fast.tw926734158751963331:=0
def PySem.W.Fast.tw5852633982262455795:=0
def PySem.W.Fast.tw8827939088309379788:=0
def PySem.W.Fast.tw10594638717110510092:=0
def PySem.W.Fast.tw13080829733927600147:=0
def PySem.W.Fast.tw4658334154932757915:=0
def PySem.W.Fast.tw7460336036513713206:=0
def PySem.W.Fast.tw17276756335657382181:=0
def PySem.W.Fast.tw18087327156709085374:=0
def PySem.W.Fast.tw14408119509098284106:=0
def PySem.W.Fast.tw7704620546553500586:=0
def PySem.W.Fast.tw14108262161902143632:=0
def PySem.W.Fast.tw11035819578092938166:=0
def PySem.W.Fast.tw15389067083713190398:=0
def PySem.W.Fast.tw7045108553621070692:=0
def PySem.W.Fast.tw18339100689803552490:=0
def PySem.W.Fast.tw18148832080247173882:=0
def PySem.W.Fast.tw8915978169525337332:=0
def PySem.W.Fast.tw15036752979566522790:=0
def PySem.W.Fast.tw18278968948616926999:=0
def PySem.W.Fast.tw1286292540823131633:=0
def PySem.W.Fast.tw5703030090563835343:PySem.Program:=PySem.Challenge.pw_manyreaders_k17_rows_walked
theorem PySem.W.Fast.te5703030090563835343:PySem.Challenge.pw_manyreaders_k17_rows_walked=PySem.W.Fast.tw5703030090563835343:=rfl
namespace K17
open PySem
def c0:Stmt:=fA 0
def c5:Stmt:=fA 5
def c6:Stmt:=fA 6
def c7:Stmt:=fA 7
def c8:Stmt:=fA 8
def c14:Stmt:=fA 14
def c15:Stmt:=fA 15
def c16:Stmt:=fA 16
def c25:Stmt:=fA 25
def c26:Stmt:=fA 26
def c27:Stmt:=fA 27
def c28:Stmt:=fA 28
def c29:Stmt:=fA 29
def c42:Stmt:=fA 42
def c43:Stmt:=fA 43
def c46:Stmt:=fA 46
def pw2:Program:={ PySem.Challenge.pw_manyreaders_k17_rows_walked with main:={ PySem.Challenge.pw_manyreaders_k17_rows_walked.main with body:=[c0,gK,eL,iT,dN,c5,c6,c7,c8,mQ,dO,fP,di,iQ,c14,c15,c16,kj,iS,gL,fQ,iR,kh,eM,kg,c25,c26,c27,c28,c29,iU,kn,pP,fR,gM,eQ,dP,eO,eN,gJ,kf,cT,c42,c43,vE,jZ,c46,dk,fV,gQ,fT,fS,fX,gN,dR,fU,gP,dj,gR,dQ,fW,eR,cJ,gO,vF] } }
def lw:PySem.W.OpenLaw:={ PySem.Challenge.rw_manyreaders_k17_rows_walked with prog:=pw2 }
theorem lw_eq:PySem.Challenge.rw_manyreaders_k17_rows_walked=lw:=by kernel_rfl
end K17
namespace K17
open PySem L2 MI PyProof.Rows M
def kf0(P:Params):PySem.W.Frag:=[(3,⟨.type "dict",none,.dict #[kE P "__name__" 165 (.str "law_manyreaders_k17_rows_walked" 569),kE P "__doc__" 166 .none,kE P "__package__" 167 .none,kE P "__loader__" 168 (.builtin "__main__.__loader__#opaque"),kE P "__spec__" 169 .none,kE P "__annotations__" 170 (.ref 6),kE P "__builtins__" 171 (.ref 4),kE P "__file__" 173 (.str "/claim/cut.py" 172),kE P "__cached__" 174 .none,kE P "is_whole" 195 (.ref 21),kE P "is_between" 204 (.ref 28),kE P "is_word" 212 (.ref 35),kE P "is_tuple_of" 220 (.ref 42),kE P "WRITING_WORDS" 225 (.ref 43),kE P "WANTS" 228 (.ref 44),kE P "GREATEST_LEFT" 230 (.int 9 229),kE P "empty" 237 (.ref 51),kE P "guests_with" 243 (.ref 56),kE P "with_word" 254 (.ref 63),kE P "without_wait" 260 (.ref 68),kE P "waiting" 269 (.ref 75),kE P "FAVOURED" 283 (.ref 76),kE P "WORD_WITHIN" 290 (.ref 77),kE P "can_go" 296 (.ref 82),kE P "next_in" 305 (.ref 89),kE P "foremost" 311 (.ref 94),kE P "next_past" 323 (.ref 101),kE P "settled" 333 (.ref 108),kE P "coming" 342 (.ref 115),kE P "brought_by" 353 (.ref 122),kE P "let_in" 359 (.ref 127),kE P "GuestError" 379 (.ref 137),kE P "NoDeed" 404 (.ref 157),kE P "GUEST_WORDS" 411 (.ref 160),kE P "is_deed" 422 (.ref 167),kE P "can_do" 433 (.ref 174),kE P "done" 443 (.ref 181),kE P "bring_ask" 459 (.ref 188),kE P "bring_up" 470 (.ref 195),kE P "bring_down" 480 (.ref 202),kE P "bring_leave" 490 (.ref 209),kE P "bring_stop" 501 (.ref 216),kE P "bring_tick" 507 (.ref 221),kE P "one_less" 514 (.ref 228),kE P "turned" 520 (.ref 233),kE P "settled_behind" 530 (.ref 240),kE P "BRINGS" 545 (.ref 241),kE P "ran" 553 (.ref 246),kE P "walked" 568 (.ref 253),kE P "_law_cell_at" 578 (.ref 260),kE P "_law_left" 588 (.ref 267),kE P "_law_far" 596 (.ref 274),kE P "_law_pick" 605 (.ref 281),kE P "_law_rule" 615 (.ref 288),kE P "_law_deed" 625 (.ref 295),kE P "_law_row" 640 (.ref 302),kE P "_law_fronts" 646 (.ref 307),kE P "_law_lets" 656 (.ref 314),kE P "_law_put" 665 (.ref 321),kE P "_law_settled" 671 (.ref 326),kE P "_law_can" 677 (.ref 331),kE P "_law_marked" 683 (.ref 336),kE P "_law_done" 689 (.ref 341),kE P "_law_asked" 695 (.ref 346),kE P "_law_same" 701 (.ref 351),kE P "_law_ran" 714 (.ref 358),kE P "law" 732 (.ref 365)] 67,#[]⟩),(20,kC "is_whole" 189 2 1 15 16 (.ref 17) (.ref 18) 19 193),(21,kF "is_whole" gK "manyreaders.kinds" 187 20),(27,kC "is_between" 196 4 3 22 23 (.ref 24) (.ref 25) 26 202),(28,kF "is_between" eL "manyreaders.kinds" 187 27),(34,kC "is_word" 205 6 2 29 30 (.ref 31) (.ref 32) 33 210),(35,kF "is_word" iT "manyreaders.kinds" 187 34),(41,kC "is_tuple_of" 213 8 2 36 37 (.ref 38) (.ref 39) 40 218)]
def kf1(P:Params):PySem.W.Frag:=[(42,kF "is_tuple_of" dN "manyreaders.kinds" 187 41),(43,⟨.type "tuple",none,.seq #[.str "writes" 223,.str "raised" 224] 0,#[]⟩),(44,⟨.type "tuple",none,.seq #[.str "read" 226,.str "write" 227] 0,#[]⟩),(50,kC "empty" 231 14 1 45 46 (.ref 47) (.ref 48) 49 235),(51,kF "empty" mQ "manyreaders.rooms" 221 50),(55,kC "guests_with" 238 16 2 52 53 .none .none 54 241),(56,kF "guests_with" dO "manyreaders.rooms" 221 55),(62,kC "with_word" 244 18 3 57 58 (.ref 59) (.ref 60) 61 252)]
def kf2(P:Params):PySem.W.Frag:=[(63,kF "with_word" fP "manyreaders.rooms" 221 62),(67,kC "without_wait" 255 21 2 64 65 .none .none 66 258),(68,kF "without_wait" di "manyreaders.rooms" 221 67),(74,kC "waiting" 261 24 2 69 70 (.ref 71) (.ref 72) 73 267),(75,kF "waiting" iQ "manyreaders.rooms" 221 74),(76,⟨.type "dict",none,.dict #[kE P "rows" 272 .none,kE P "readers" 273 (.str "read" 274),kE P "writers" 275 (.str "write" 276),kE P "turns" 277 (.str "write" 278)] 4,#[]⟩),(77,⟨.type "dict",none,.dict #[kE P "read" 284 (.str "reads" 285),kE P "write" 286 (.str "writes" 287)] 2,#[]⟩),(81,kC "can_go" 291 34 3 78 79 .none .none 80 294)]
def kf3(P:Params):PySem.W.Frag:=[(82,kF "can_go" kj "manyreaders.doors" 270 81),(88,kC "next_in" 297 43 2 83 84 (.ref 85) (.ref 86) 87 303),(89,kF "next_in" iS "manyreaders.doors" 270 88),(93,kC "foremost" 306 48 2 90 91 .none .none 92 309),(94,kF "foremost" gL "manyreaders.doors" 270 93),(100,kC "next_past" 312 53 2 95 96 (.ref 97) (.ref 98) 99 321),(101,kF "next_past" fQ "manyreaders.doors" 270 100),(107,kC "settled" 324 60 2 102 103 (.ref 104) (.ref 105) 106 331)]
def kf4(P:Params):PySem.W.Frag:=[(108,kF "settled" iR "manyreaders.doors" 270 107),(114,kC "coming" 334 68 2 109 110 (.ref 111) (.ref 112) 113 340),(115,kF "coming" kh "manyreaders.doors" 270 114),(121,kC "brought_by" 343 74 3 116 117 (.ref 118) (.ref 119) 120 351),(122,kF "brought_by" eM "manyreaders.doors" 270 121),(126,kC "let_in" 354 79 3 123 124 .none .none 125 357),(127,kF "let_in" kg "manyreaders.doors" 270 126),(160,⟨.type "tuple",none,.seq #[.str "up" 407,.str "down" 408,.str "leave" 409,.str "stop" 410] 0,#[]⟩)]
def kf5(P:Params):PySem.W.Frag:=[(166,kC "is_deed" 412 95 2 161 162 (.ref 163) (.ref 164) 165 420),(167,kF "is_deed" iU "manyreaders.deeds" 405 166),(173,kC "can_do" 423 104 2 168 169 (.ref 170) (.ref 171) 172 431),(174,kF "can_do" kn "manyreaders.deeds" 405 173),(180,kC "done" 434 118 3 175 176 (.ref 177) (.ref 178) 179 441),(181,kF "done" pP "manyreaders.deeds" 405 180),(187,kC "bring_ask" 444 121 3 182 183 (.ref 184) (.ref 185) 186 457),(188,kF "bring_ask" fR "manyreaders.deeds" 405 187)]
def kf6(P:Params):PySem.W.Frag:=[(194,kC "bring_up" 460 131 3 189 190 (.ref 191) (.ref 192) 193 468),(195,kF "bring_up" gM "manyreaders.deeds" 405 194),(201,kC "bring_down" 471 139 3 196 197 (.ref 198) (.ref 199) 200 478),(202,kF "bring_down" eQ "manyreaders.deeds" 405 201),(208,kC "bring_leave" 481 142 3 203 204 (.ref 205) (.ref 206) 207 488),(209,kF "bring_leave" dP "manyreaders.deeds" 405 208),(215,kC "bring_stop" 491 145 3 210 211 (.ref 212) (.ref 213) 214 499),(216,kF "bring_stop" eO "manyreaders.deeds" 405 215)]
def kf7(P:Params):PySem.W.Frag:=[(220,kC "bring_tick" 502 152 3 217 218 .none .none 219 505),(221,kF "bring_tick" eN "manyreaders.deeds" 405 220),(227,kC "one_less" 508 158 1 222 223 (.ref 224) (.ref 225) 226 512),(228,kF "one_less" gJ "manyreaders.deeds" 405 227),(232,kC "turned" 515 160 3 229 230 .none .none 231 518),(233,kF "turned" kf "manyreaders.deeds" 405 232),(239,kC "settled_behind" 521 165 3 234 235 (.ref 236) (.ref 237) 238 528),(240,kF "settled_behind" cT "manyreaders.deeds" 405 239)]
def kf8(P:Params):PySem.W.Frag:=[(241,⟨.type "dict",none,.dict #[kE P "read" 531 (.ref 188),kE P "write" 532 (.ref 188),kE P "up" 533 (.ref 195),kE P "down" 534 (.ref 202),kE P "leave" 535 (.ref 209),kE P "stop" 536 (.ref 216),kE P "tick" 537 (.ref 221)] 7,#[]⟩),(245,kC "ran" 548 170 3 242 243 .none .none 244 551),(246,kF "ran" vE "manyreaders.runs" 546 245),(252,kC "walked" 554 174 3 247 248 (.ref 249) (.ref 250) 251 566),(253,kF "walked" jZ "manyreaders.runs" 546 252),(259,kC "_law_cell_at" 571 185 2 254 255 (.ref 256) (.ref 257) 258 576),(260,kF "_law_cell_at" dk "law_manyreaders_k17_rows_walked" 569 259),(266,kC "_law_left" 579 189 2 261 262 (.ref 263) (.ref 264) 265 586)]
def kf9(P:Params):PySem.W.Frag:=[(267,kF "_law_left" fV "law_manyreaders_k17_rows_walked" 569 266),(273,kC "_law_far" 589 196 0 268 269 (.ref 270) (.ref 271) 272 594),(274,kF "_law_far" gQ "law_manyreaders_k17_rows_walked" 569 273),(280,kC "_law_pick" 597 201 2 275 276 (.ref 277) (.ref 278) 279 603),(281,kF "_law_pick" fT "law_manyreaders_k17_rows_walked" 569 280),(287,kC "_law_rule" 606 209 1 282 283 (.ref 284) (.ref 285) 286 613),(288,kF "_law_rule" fS "law_manyreaders_k17_rows_walked" 569 287),(294,kC "_law_deed" 616 214 2 289 290 (.ref 291) (.ref 292) 293 623)]
def kf10(P:Params):PySem.W.Frag:=[(295,kF "_law_deed" fX "law_manyreaders_k17_rows_walked" 569 294),(301,kC "_law_row" 626 222 4 296 297 (.ref 298) (.ref 299) 300 638),(302,kF "_law_row" gN "law_manyreaders_k17_rows_walked" 569 301),(306,kC "_law_fronts" 641 232 2 303 304 .none .none 305 644),(307,kF "_law_fronts" dR "law_manyreaders_k17_rows_walked" 569 306),(313,kC "_law_lets" 647 243 3 308 309 (.ref 310) (.ref 311) 312 654),(314,kF "_law_lets" fU "law_manyreaders_k17_rows_walked" 569 313),(320,kC "_law_put" 657 250 3 315 316 (.ref 317) (.ref 318) 319 663)]
def kf11(P:Params):PySem.W.Frag:=[(321,kF "_law_put" gP "law_manyreaders_k17_rows_walked" 569 320),(325,kC "_law_settled" 666 252 2 322 323 .none .none 324 669),(326,kF "_law_settled" dj "law_manyreaders_k17_rows_walked" 569 325),(330,kC "_law_can" 672 268 2 327 328 .none .none 329 675),(331,kF "_law_can" gR "law_manyreaders_k17_rows_walked" 569 330),(335,kC "_law_marked" 678 277 3 332 333 .none .none 334 681),(336,kF "_law_marked" dQ "law_manyreaders_k17_rows_walked" 569 335),(340,kC "_law_done" 684 281 3 337 338 .none .none 339 687)]
def kf12(P:Params):PySem.W.Frag:=[(341,kF "_law_done" fW "law_manyreaders_k17_rows_walked" 569 340),(345,kC "_law_asked" 690 304 3 342 343 .none .none 344 693),(346,kF "_law_asked" eR "law_manyreaders_k17_rows_walked" 569 345),(350,kC "_law_same" 696 313 2 347 348 .none .none 349 699),(351,kF "_law_same" cJ "law_manyreaders_k17_rows_walked" 569 350),(357,kC "_law_ran" 702 330 3 352 353 (.ref 354) (.ref 355) 356 712),(358,kF "_law_ran" gO "law_manyreaders_k17_rows_walked" 569 357),(364,kC "law" 715 337 1 359 360 (.ref 361) (.ref 362) 363 730)]
def kf13(P:Params):PySem.W.Frag:=[(365,kF "law" vF "law_manyreaders_k17_rows_walked" 569 364)]
def el(P:Params):PySem.W.Frag:=(((kf0 P)++((kf1 P)++(kf2 P)))++(((kf3 P)++(kf4 P))++((kf5 P)++(kf6 P))))++(((kf7 P)++((kf8 P)++(kf9 P)))++(((kf10 P)++(kf11 P))++((kf12 P)++(kf13 P))))
def kads:List Addr:=[3,20,21,27,28,34,35,41,42,43,44,50,51,55,56,62,63,67,68,74,75,76,77,81,82,88,89,93,94,100,101,107,108,114,115,121,122,126,127,160,166,167,173,174,180,181,187,188,194,195,201,202,208,209,215,216,220,221,227,228,232,233,239,240,241,245,246,252,253,259,260,266,267,273,274,280,281,287,288,294,295,301,302,306,307,313,314,320,321,325,326,330,331,335,336,340,341,345,346,350,351,357,358,364,365]
theorem txt{w:World}{h:Heap}{mg:Str->Option Value}(X:(el w.params).In h)(G:h.Ns mainGlobals mg):iu w (el w.params) mg:=
 ⟨cQ X G "law_manyreaders_k17_rows_walked" 260 569 259 (by kernel_rfl),cQ X G "law_manyreaders_k17_rows_walked" 274 569 273 (by kernel_rfl),cQ X G "law_manyreaders_k17_rows_walked" 267 569 266 (by kernel_rfl),cQ X G "law_manyreaders_k17_rows_walked" 281 569 280 (by kernel_rfl),cQ X G "law_manyreaders_k17_rows_walked" 295 569 294 (by kernel_rfl),cQ X G "law_manyreaders_k17_rows_walked" 321 569 320 (by kernel_rfl),cQ X G "law_manyreaders_k17_rows_walked" 307 569 306 (by kernel_rfl),cQ X G "law_manyreaders_k17_rows_walked" 314 569 313 (by kernel_rfl),cQ X G "law_manyreaders_k17_rows_walked" 326 569 325 (by kernel_rfl),cQ X G "law_manyreaders_k17_rows_walked" 331 569 330 (by kernel_rfl),cQ X G "law_manyreaders_k17_rows_walked" 346 569 345 (by kernel_rfl),cQ X G "law_manyreaders_k17_rows_walked" 336 569 335 (by kernel_rfl),cQ X G "law_manyreaders_k17_rows_walked" 341 569 340 (by kernel_rfl),cQ X G "law_manyreaders_k17_rows_walked" 302 569 301 (by kernel_rfl),cQ X G "law_manyreaders_k17_rows_walked" 358 569 357 (by kernel_rfl),cQ X G "law_manyreaders_k17_rows_walked" 288 569 287 (by kernel_rfl),cQ X G "law_manyreaders_k17_rows_walked" 351 569 350 (by kernel_rfl),cQ X G "manyreaders.rooms" 51 221 50 (by kernel_rfl),cQ X G "manyreaders.rooms" 56 221 55 (by kernel_rfl),cQ X G "manyreaders.doors" 94 270 93 (by kernel_rfl),cQ X G "manyreaders.rooms" 75 221 74 (by kernel_rfl),cQ X G "manyreaders.doors" 82 270 81 (by kernel_rfl),cQ X G "manyreaders.doors" 101 270 100 (by kernel_rfl),cQ X G "manyreaders.doors" 89 270 88 (by kernel_rfl),cQ X G "manyreaders.doors" 115 270 114 (by kernel_rfl),cQ X G "manyreaders.rooms" 63 221 62 (by kernel_rfl),cQ X G "manyreaders.doors" 127 270 126 (by kernel_rfl),cQ X G "manyreaders.doors" 122 270 121 (by kernel_rfl),cQ X G "manyreaders.doors" 108 270 107 (by kernel_rfl),cQ X G "manyreaders.rooms" 68 221 67 (by kernel_rfl),cQ X G "manyreaders.deeds" 188 405 187 (by kernel_rfl),cQ X G "manyreaders.deeds" 195 405 194 (by kernel_rfl),cQ X G "manyreaders.deeds" 240 405 239 (by kernel_rfl),cQ X G "manyreaders.deeds" 233 405 232 (by kernel_rfl),cQ X G "manyreaders.deeds" 202 405 201 (by kernel_rfl),cQ X G "manyreaders.deeds" 209 405 208 (by kernel_rfl),cQ X G "manyreaders.deeds" 216 405 215 (by kernel_rfl),cQ X G "manyreaders.deeds" 228 405 227 (by kernel_rfl),cQ X G "manyreaders.deeds" 221 405 220 (by kernel_rfl),cQ X G "manyreaders.deeds" 181 405 180 (by kernel_rfl),cQ X G "manyreaders.kinds" 42 187 41 (by kernel_rfl),cQ X G "manyreaders.kinds" 35 187 34 (by kernel_rfl),cQ X G "manyreaders.kinds" 21 187 20 (by kernel_rfl),cQ X G "manyreaders.kinds" 28 187 27 (by kernel_rfl),cQ X G "manyreaders.deeds" 167 405 166 (by kernel_rfl),cQ X G "manyreaders.deeds" 174 405 173 (by kernel_rfl),cQ X G "manyreaders.runs" 253 546 252 (by kernel_rfl),cQ X G "manyreaders.runs" 246 546 245 (by kernel_rfl),cQ X G "law_manyreaders_k17_rows_walked" 365 569 364 (by kernel_rfl),PySem.W.mg_none_of X G (by kernel_rfl),PySem.W.mg_none_of X G (by kernel_rfl),PySem.W.mg_none_of X G (by kernel_rfl),PySem.W.mg_none_of X G (by kernel_rfl),PySem.W.mg_none_of X G (by kernel_rfl),PySem.W.mg_none_of X G (by kernel_rfl),PySem.W.mg_none_of X G (by kernel_rfl),PySem.W.mg_none_of X G (by kernel_rfl),PySem.W.mg_none_of X G (by kernel_rfl),PySem.W.mg_none_of X G (by kernel_rfl),PySem.W.mg_none_of X G (by kernel_rfl),PySem.W.mg_none_of X G (by kernel_rfl),PySem.W.mg_none_of X G (by kernel_rfl),PySem.W.mg_none_of X G (by kernel_rfl),SO (PySem.W.mg_of X G (show PySem.W.nsIn (el w.params) mainGlobals "BRINGS" = some (some (.ref 241)) by kernel_rfl)) (show (el w.params).lookup 241=some ⟨.type "dict",none,.dict #[⟨PyData.keyHash w.params "read",.str "read" 531,.ref 188⟩,⟨PyData.keyHash w.params "write",.str "write" 532,.ref 188⟩,⟨PyData.keyHash w.params "up",.str "up" 533,.ref 195⟩,⟨PyData.keyHash w.params "down",.str "down" 534,.ref 202⟩,⟨PyData.keyHash w.params "leave",.str "leave" 535,.ref 209⟩,⟨PyData.keyHash w.params "stop",.str "stop" 536,.ref 216⟩,⟨PyData.keyHash w.params "tick",.str "tick" 537,.ref 221⟩] 7,#[]⟩ by kernel_rfl) (.cons (.cons (.cons (.cons (.cons (.cons (.cons (.nil)))))))) (show List.Nodup ([.inr "read",.inr "write",.inr "up",.inr "down",.inr "leave",.inr "stop",.inr "tick"]:List bC) by decide +kernel) (.cons (PySem.W.mg_of X G (show PySem.W.nsIn (el w.params) mainGlobals "bring_ask" = some (some (.ref 188)) by kernel_rfl)) (.cons (PySem.W.mg_of X G (show PySem.W.nsIn (el w.params) mainGlobals "bring_ask" = some (some (.ref 188)) by kernel_rfl)) (.cons (PySem.W.mg_of X G (show PySem.W.nsIn (el w.params) mainGlobals "bring_up" = some (some (.ref 195)) by kernel_rfl)) (.cons (PySem.W.mg_of X G (show PySem.W.nsIn (el w.params) mainGlobals "bring_down" = some (some (.ref 202)) by kernel_rfl)) (.cons (PySem.W.mg_of X G (show PySem.W.nsIn (el w.params) mainGlobals "bring_leave" = some (some (.ref 209)) by kernel_rfl)) (.cons (PySem.W.mg_of X G (show PySem.W.nsIn (el w.params) mainGlobals "bring_stop" = some (some (.ref 216)) by kernel_rfl)) (.cons (PySem.W.mg_of X G (show PySem.W.nsIn (el w.params) mainGlobals "bring_tick" = some (some (.ref 221)) by kernel_rfl)) (.nil)))))))),IF (PySem.W.mg_of X G (show PySem.W.nsIn (el w.params) mainGlobals "FAVOURED" = some (some (.ref 76)) by kernel_rfl)) (show (el w.params).lookup 76=some ⟨.type "dict",none,.dict #[⟨PyData.keyHash w.params "rows",.str "rows" 272,.none⟩,⟨PyData.keyHash w.params "readers",.str "readers" 273,.str "read" 274⟩,⟨PyData.keyHash w.params "writers",.str "writers" 275,.str "write" 276⟩,⟨PyData.keyHash w.params "turns",.str "turns" 277,.str "write" 278⟩] 4,#[]⟩ by kernel_rfl) (.cons (.cons (.cons (.cons (.nil))))) (show List.Nodup ([.inr "rows",.inr "readers",.inr "writers",.inr "turns"]:List bC) by decide +kernel) (.cons .non rfl (fun _ _ _=>.non) (.cons (V.str "read") ⟨_,rfl⟩ (fun _ _ _=>.str _) (.cons (V.str "write") ⟨_,rfl⟩ (fun _ _ _=>.str _) (.cons (V.str "write") ⟨_,rfl⟩ (fun _ _ _=>.str _) (.nil))))),⟨_,V.int 9,PySem.W.mg_of X G (show PySem.W.nsIn (el w.params) mainGlobals "GREATEST_LEFT" = some (some (.int 9 229)) by kernel_rfl),⟨_,rfl⟩,fun μ H=>.int _⟩,⟨_,.ref 160,PySem.W.mg_of X G (show PySem.W.nsIn (el w.params) mainGlobals "GUEST_WORDS" = some (some (.ref 160)) by kernel_rfl),rfl,fun μ H=>.ktup (vs:=[V.str "up",V.str "down",V.str "leave",V.str "stop"]) ⟨_,_,_,(show (el w.params).lookup 160=some ⟨.type "tuple",none,.seq #[.str "up" 407,.str "down" 408,.str "leave" 409,.str "stop" 410] 0,#[]⟩ by kernel_rfl),rfl,rfl,rfl,(show 4<=sizeLine by decide),.cons ⟨_,rfl⟩ (.cons ⟨_,rfl⟩ (.cons ⟨_,rfl⟩ (.cons ⟨_,rfl⟩ (.nil))))⟩ (.cons (.str _) (.cons (.str _) (.cons (.str _) (.cons (.str _) (.nil)))))⟩,⟨_,.ref 44,PySem.W.mg_of X G (show PySem.W.nsIn (el w.params) mainGlobals "WANTS" = some (some (.ref 44)) by kernel_rfl),rfl,fun μ H=>.ktup (vs:=[V.str "read",V.str "write"]) ⟨_,_,_,(show (el w.params).lookup 44=some ⟨.type "tuple",none,.seq #[.str "read" 226,.str "write" 227] 0,#[]⟩ by kernel_rfl),rfl,rfl,rfl,(show 2<=sizeLine by decide),.cons ⟨_,rfl⟩ (.cons ⟨_,rfl⟩ (.nil))⟩ (.cons (.str _) (.cons (.str _) (.nil)))⟩,IF (PySem.W.mg_of X G (show PySem.W.nsIn (el w.params) mainGlobals "WORD_WITHIN" = some (some (.ref 77)) by kernel_rfl)) (show (el w.params).lookup 77=some ⟨.type "dict",none,.dict #[⟨PyData.keyHash w.params "read",.str "read" 284,.str "reads" 285⟩,⟨PyData.keyHash w.params "write",.str "write" 286,.str "writes" 287⟩] 2,#[]⟩ by kernel_rfl) (.cons (.cons (.nil))) (show List.Nodup ([.inr "read",.inr "write"]:List bC) by decide +kernel) (.cons (V.str "reads") ⟨_,rfl⟩ (fun _ _ _=>.str _) (.cons (V.str "writes") ⟨_,rfl⟩ (fun _ _ _=>.str _) (.nil))),⟨_,.ref 43,PySem.W.mg_of X G (show PySem.W.nsIn (el w.params) mainGlobals "WRITING_WORDS" = some (some (.ref 43)) by kernel_rfl),rfl,fun μ H=>.ktup (vs:=[V.str "writes",V.str "raised"]) ⟨_,_,_,(show (el w.params).lookup 43=some ⟨.type "tuple",none,.seq #[.str "writes" 223,.str "raised" 224] 0,#[]⟩ by kernel_rfl),rfl,rfl,rfl,(show 2<=sizeLine by decide),.cons ⟨_,rfl⟩ (.cons ⟨_,rfl⟩ (.nil))⟩ (.cons (.str _) (.cons (.str _) (.nil)))⟩⟩
end K17
open PySem PySem.W PyProof.Rows
set_option maxRecDepth 100000 in
set_option maxHeartbeats 0 in
theorem PySem.Challenge.cw_manyreaders_k17_rows_walked_holds : PySem.Challenge.rw_manyreaders_k17_rows_walked.Holds := by
 rw [K17.lw_eq];w_on;o_law;o_head (kHook K17.el K17.kads (fun _=>by kernel_rfl));(case hw=>w_witness2)
 exact K17.walk (l:=K17.lw) rfl rfl rfl (fun w h Y=>PySem.W.kIn_of Y) K17.Kk fun w mg h KX G=>K17.txt KX G

end
