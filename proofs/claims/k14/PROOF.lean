import PyProof.Rows.All
import Wide.All
import OpenK.AllK
import Wide.FinOn
import Lean
import PyProof.EqAt
import PyProof.EqKinds
import PyProof.TupleCall
import PySem.Challenge.RW_manyreaders_k14_up_down_and_leave
noncomputable section
set_option Elab.async false
set_option linter.all false
set_option maxRecDepth 100000
namespace L2
open PySem PySem.Spec PyProof.Rows
noncomputable abbrev bz:=Sum Int Str
noncomputable def vW:bz->Value->Bool
 | .inl k,v=>Value.isInt k v
 | .inr x,v=>Value.isStrOf x v
noncomputable def keyH(w:World):bz->Int
 | .inl k=>hashInt k
 | .inr x=>hashStr w x
theorem cW:∀ {k:bz} {v:Value},vW k v=true->(∃ i t,k=Sum.inl i/\v=Value.int i t)\/(∃ x t,k=Sum.inr x/\v=Value.str x t)
 | .inl i,v,h=>by
  obtain⟨t,e⟩:=Value.isInt_shape (k:=i) (v:=v) h
  exact .inl ⟨i,t,rfl,e⟩
 | .inr x,v,h=>by
  obtain⟨t,e⟩:=Value.isStrOf_shape (x:=x) (v:=v) h
  exact .inr ⟨x,t,rfl,e⟩
theorem Gy(i:Int)(t:Tok):vW (.inl i) (.int i t)=true:=by simp [vW,Value.isInt]
theorem Gx(x:Str)(t:Tok):vW (.inr x) (.str x t)=true:=by simp [vW,Value.isStrOf]
theorem RM(a b:Int):decide ((Sum.inl a:bz)=Sum.inl b)=(a == b):=by
 by_cases e:a=b
 ·subst e;simp
 ·have h:¬ (Sum.inl a:bz)=Sum.inl b:=fun q=>e (Sum.inl.inj q)
  rw [decide_eq_false h]
  exact(beq_eq_false_iff_ne.mpr e).symm
theorem RJ(a b:Str):decide ((Sum.inr a:bz)=Sum.inr b)=decide (a=b):=by
 by_cases e:a=b
 ·subst e;simp
 ·have h:¬ (Sum.inr a:bz)=Sum.inr b:=fun q=>e (Sum.inr.inj q)
  rw [decide_eq_false h,decide_eq_false e]
theorem RL(a:Int)(b:Str):decide ((Sum.inl a:bz)=Sum.inr b)=false:=decide_eq_false (fun q=>nomatch q)
theorem RK(a:Str)(b:Int):decide ((Sum.inr a:bz)=Sum.inl b)=false:=decide_eq_false (fun q=>nomatch q)
noncomputable def ca(prog:Program)(w:World):PySem.KeyKind prog w bz where
 is:=vW
 hash:=keyH w
 inj:=fun v a b ha hb=>by
  rcases cW ha with ⟨i,t,rfl,rfl⟩ | ⟨x,t,rfl,rfl⟩
  ·rcases cW hb with ⟨j,u,rfl,e⟩ | ⟨y,u,rfl,e⟩
   ·injection e with e1 _;rw [e1]
   ·exact nomatch e
  ·rcases cW hb with ⟨j,u,rfl,e⟩ | ⟨y,u,rfl,e⟩
   ·exact nomatch e
   ·injection e with e1 _;rw [e1]
 byValue:=fun k v h=>by
  rcases cW h with ⟨i,t,rfl,rfl⟩ | ⟨x,t,rfl,rfl⟩ <;> rfl
 pyHash:=fun hv h=>by
  rcases cW hv with ⟨i,t,rfl,rfl⟩ | ⟨x,t,rfl,rfl⟩
  ·exact wpAny_pyHash_int h
  ·exact wpAny_pyHash_str h
 eqBool:=fun hu hv h=>by
  rcases cW hu with ⟨i,t,rfl,rfl⟩ | ⟨x,t,rfl,rfl⟩
  ·rcases cW hv with ⟨j,u,rfl,rfl⟩ | ⟨y,u,rfl,rfl⟩
   ·rw [RM] at h;exact wpAny_eqBool_int h
   ·rw [RL] at h;exact SeqAt.EqAt.int_str i t y u _ _ _ _ h
  ·rcases cW hv with ⟨j,u,rfl,rfl⟩ | ⟨y,u,rfl,rfl⟩
   ·rw [RK] at h;exact SeqAt.EqAt.str_int x t j u _ _ _ _ h
   ·rw [RJ] at h;exact wpAny_eqBool_str h
 «strs»:=fun k x t v h=>by
  rcases cW h with ⟨i,u,rfl,e⟩ | ⟨y,u,rfl,e⟩
  ·exact nomatch e
  ·injection e with e1 _
   subst e1
   cases v <;> rfl
theorem zY(prog:Program)(w:World)(i:Int)(t:Tok):(ca prog w).is (.inl i) (.int i t)=true:=Gy i t
theorem zX(prog:Program)(w:World)(x:Str)(t:Tok):(ca prog w).is (.inr x) (.str x t)=true:=Gx x t
end L2
namespace L2
open PySem PySem.Spec PyProof.Rows
inductive V where
 | non | bl (b:Bool) | int (i:Int) | str (x:Str) | byt (b:Array UInt8) | flt (b:UInt64) | ref (a:Addr) | ty (n:String)
 deriving DecidableEq
def RelV:V->Value->Prop
 | .non,u=>u=Value.none
 | .bl b,u=>u=Value.bool b
 | .int i,u=>∃ t,u=Value.int i t
 | .str x,u=>∃ t,u=Value.str x t
 | .byt b,u=>∃ t,u=Value.bytes b t
 | .flt b,u=>∃ t,u=Value.float b t
 | .ref a,u=>u=Value.ref a
 | .ty n,u=>u=Value.type n
abbrev Vals:List V->List Value->Prop:=Paired RelV
theorem Vals.length{xs:List V}{us:List Value}(r:Vals xs us):xs.length=us.length:=Paired.length r
theorem Vals.get:∀ {xs:List V} {us:List Value} {i:Nat} {x:V},Vals xs us->xs[i]?=some x->∃ u,us[i]?=some u/\RelV x u
 | _,_,_,_,.nil,e=>by simp at e
 | _,_,0,_,.cons r _,e=>by simp at e;subst e;exact⟨_,rfl,r⟩
 | _,_,i+1,x,.cons _ t,e=>by
  obtain⟨u,h1,h2⟩:=Vals.get (i:=i) (x:=x) t (by simpa using e)
  exact⟨u,by simpa using h1,h2⟩
theorem Vals.set{x:V}{u:Value}(r:RelV x u):∀ {xs:List V} {us:List Value} (i:Nat),Vals xs us->Vals (xs.set i x) (us.set i u)
 | _,_,_,.nil=>.nil
 | _,_,0,.cons _ t=>.cons r t
 | _,_,i+1,.cons q t=>.cons q (Vals.set r i t)
theorem Vals.append:∀ {xs ys:List V} {us ws:List Value},Vals xs us->Vals ys ws->Vals (xs++ys) (us++ws)
 | _,_,_,_,.nil,s=>s
 | _,_,_,_,.cons r t,s=>.cons r (Vals.append t s)
theorem Vals.take:∀ {xs:List V} {us:List Value} (n:Nat),Vals xs us->Vals (xs.take n) (us.take n)
 | _,_,0,_=>.nil
 | _,_,_+1,.nil=>.nil
 | _,_,n+1,.cons r t=>.cons r (Vals.take n t)
theorem Vals.drop:∀ {xs:List V} {us:List Value} (n:Nat),Vals xs us->Vals (xs.drop n) (us.drop n)
 | _,_,0,r=>r
 | _,_,_+1,.nil=>.nil
 | _,_,n+1,.cons _ t=>Vals.drop n t
def RelO:Option V->Option Value->Prop
 | some v,some u=>RelV v u
 | none,none=>True
 | _,_=>False
def KV{κ:Type}:List (κ×V)->List (κ×Value)->Prop:=Paired fun(p:κ×V) (q:κ×Value)=>p.1=q.1/\RelV p.2 q.2
noncomputable def kV:bz->V
 | .inl i=>.int i
 | .inr x=>.str x
inductive HO where
 | lst (xs:List V)
 | tup (xs:List V)
 | dK (kvs:List (bz×V)) | dT (kvs:List (List bz×V))
 | set (S:Int->Bool) (n:Nat)
 | ins (C dx:Addr) (fs:List (Str×V))
 | own (x:Addr)
 | xd (fs:List (Str×V))
 | met (f x:Addr)
 | rng (lo hi:Int)
 | frz (o:Obj) (u:HO)
 | tbl (ps:Array Value)
 | ext (φ:Heap->Prop)
noncomputable abbrev Hp:=Addr->Option HO
noncomputable def upd(H:Hp)(a:Addr)(o:HO):Hp:=fun b=>if b=a then some o else H b
theorem bv{H:Hp}{a:Addr}{o:HO}:upd H a o a=some o:=by unfold upd;rw [if_pos rfl]
theorem bj{H:Hp}{a b:Addr}{o:HO}(h:b≠a):upd H a o b=H b:=by unfold upd;rw [if_neg h]
theorem cq{H:Hp}{a b:Addr}{o:HO}(h:H a=some o)(h':H b=none):a≠b:=by
 intro e;subst e;rw [h] at h';cases h'
def IsTupN(h:Heap)(a:Addr)(items:Array Value):Prop:=∃ o,h.get? a=some o/\o.cls=.type "tuple"/\(∃ n,o.data=.seq items n)/\o.dict=none
theorem IsTupN.up{h:Heap}{a:Addr}{items:Array Value}(x:IsTupN h a items):IsTup h a items:=by
 obtain⟨o,e,c,d,_⟩:=x
 exact⟨o,e,c,d⟩
theorem IsTupN.lt{h:Heap}{a:Addr}{items:Array Value}(x:IsTupN h a items):a<h.objs.size:=x.up.lt
theorem IsTupN.new(h:Heap)(items:Array Value):IsTupN (h.push { cls:=.type "tuple",data:=.seq items }) h.objs.size items:=⟨_,Heap.get?_push_size _ rfl,rfl,⟨_,rfl⟩,rfl⟩
section
variable(P:Program)(w:World)
def ObjOk(H:Hp)(h:Heap)(a:Addr):HO->Prop
 | .lst xs=>xs.length<=sizeLine/\∃ (its:List Value) (n:Nat),Vals xs its/\h.get? a=some { cls:=.type "list",data:=.seq its.toArray n }
 | .tup xs=>xs.length<=sizeLine/\∃ its:List Value,Vals xs its/\IsTupN h a its.toArray
 | .dK kvs=>kvs.length<=sizeLine/\(a == sysModules)=false/\∃ vs,KV kvs vs/\h.DictOf (ca P w) a vs
 | .dT kvs=>kvs.length<=sizeLine/\(a == sysModules)=false/\∃ xs:List (List bz×Addr×Value),
   Paired (fun(p:List bz×V) (q:List bz×Addr×Value)=>p.1=q.1/\H q.2.1=some (.tup (p.1.map kV))/\RelV p.2 q.2.2) kvs xs /\
   ∃ o es ep,h.get? a=some o/\o.ExactDict/\o.data=.dict es ep/\es.toList=xs.map (entryOfKey (tupleKind (ca P w)))/\(xs.map (·.1)).Nodup
 | .set S n=>h.SetOf (intKind P w) a S n
 | .ins C dx fs=>H dx=some (.own a)/\fs.length<=1000/\dx≠a/\h.get? a=some (PySem.W.instObj C dx) /\
   ∃ mA,h.Ns1 dx mA/\(∀ f,RelO (fs.lookup f) (mA f))/\PySem.Within mA (fs.map (·.1))
 | .own _=>∃ o,h.get? a=some o
 | .xd fs=>∃ mA,h.Ns1 a mA/\∀ f,RelO (fs.lookup f) (mA f)
 | .rng lo hi=>∃ t u v,h.get? a=some { cls:=.type "range",data:=.fields #[.int lo t,.int hi u,.int 1 v] }
 | .frz o u=>h.get? a=some o/\ObjOk H h a u
 | .tbl ps=>h.get? a=some { cls:=.none,data:=.fields ps }
 | .met f x=>h.get? a=some (PySem.W.methodObj (.ref f) (.ref x))
 | .ext φ=>φ h/\(∃ o,h.get? a=some o)/\∀ h1 h2:Heap,φ h1->(∀ o,h1.get? a=some o->h2.get? a=some o)->φ h2
def HOk(H:Hp)(h:Heap):Prop:=∀ a o,H a=some o->ObjOk P w H h a o
end
section
variable{P:Program}{w:World}{H H':Hp}{h h':Heap}{a:Addr}{o:HO}
theorem ObjOk.lt(x:ObjOk P w H h a o):a<h.objs.size:=by
 cases o with
 | lst xs=>obtain⟨_,_,_,_,e⟩:=x;exact Heap.lt_size e
 | tup xs=>obtain⟨_,_,_,p⟩:=x;exact p.lt
 | dK kvs=>obtain⟨_,_,_,_,o,_,_,e,_⟩:=x;exact Heap.lt_size e
 | dT kvs=>obtain⟨_,_,_,_,o,_,_,e,_⟩:=x;exact Heap.lt_size e
 | set S n=>obtain⟨o,_,_,_,e,_⟩:=x;exact Heap.lt_size e
 | ins C dx fs=>obtain⟨_,_,_,e,_⟩:=x;exact Heap.lt_size e
 | own y=>obtain⟨_,e⟩:=x;exact Heap.lt_size e
 | xd fs=>obtain⟨_,⟨_,_,_,e,_⟩,_⟩:=x;exact Heap.lt_size e
 | rng lo hi=>obtain⟨_,_,_,e⟩:=x;exact Heap.lt_size e
 | frz ob u=>obtain⟨e,_⟩:=x;exact Heap.lt_size e
 | tbl ps=>exact Heap.lt_size (show h.get? a=some _ from x)
 | met f y=>exact Heap.lt_size (show h.get? a=some _ from x)
 | ext φ=>obtain⟨_,⟨_,e⟩,_⟩:=x;exact Heap.lt_size e
theorem Paired.mapP{α β:Type}{F G:α->β->Prop}:∀ {l₁:List α} {l₂:List β},Paired F l₁ l₂->(∀ a b,F a b->G a b)->Paired G l₁ l₂
 | _,_,.nil,_=>.nil
 | _,_,.cons r t,f=>.cons (f _ _ r) (Paired.mapP t f)
theorem ObjOk.stay(x:ObjOk P w H h a o)(k:∀ b u,(b=a\/H b=some (.own a))->h.get? b=some u->h'.get? b=some u)
  (ho:∀ b,H b=some (.own a)->H' b=some (.own a)) (ht:∀ b xs,H b=some (.tup xs)->H' b=some (.tup xs)):ObjOk P w H' h' a o:=by
 induction o with
 | lst xs=>obtain⟨z,its,n,r,e⟩:=x;exact⟨z,its,n,r,k _ _ (.inl rfl) e⟩
 | tup xs=>obtain⟨z,its,r,ob,e,c⟩:=x;exact⟨z,its,r,ob,k _ _ (.inl rfl) e,c⟩
 | dK kvs=>obtain⟨z,y,vs,r,ob,es,ep,e,c⟩:=x;exact⟨z,y,vs,r,ob,es,ep,k _ _ (.inl rfl) e,c⟩
 | dT kvs=>
  obtain⟨z,y,xs,r,ob,es,ep,e,c⟩:=x
  exact⟨z,y,xs,Paired.mapP r fun p q z=>⟨z.1,ht _ _ z.2.1,z.2.2⟩,ob,es,ep,k _ _ (.inl rfl) e,c⟩
 | set S n=>obtain⟨ob,es,ep,t,e,c⟩:=x;exact⟨ob,es,ep,t,k _ _ (.inl rfl) e,c⟩
 | ins C dx fs=>
  obtain⟨d,z,ne,e,mA,⟨od,es,ep,e2,c⟩,r⟩:=x
  exact⟨ho _ d,z,ne,k _ _ (.inl rfl) e,mA,⟨od,es,ep,k _ _ (.inr d) e2,c⟩,r⟩
 | own y=>obtain⟨ob,e⟩:=x;exact⟨ob,k _ _ (.inl rfl) e⟩
 | xd fs=>obtain⟨mA,⟨od,es,ep,e,c⟩,r⟩:=x;exact⟨mA,⟨od,es,ep,k _ _ (.inl rfl) e,c⟩,r⟩
 | rng lo hi=>obtain⟨t,u,v,e⟩:=x;exact⟨t,u,v,k _ _ (.inl rfl) e⟩
 | frz ob u ih=>obtain⟨e,q⟩:=x;exact⟨k _ _ (.inl rfl) e,ih q⟩
 | tbl ps=>
  have e:h.get? a=some { cls:=.none,data:=.fields ps }:=x
  show h'.get? a=some { cls:=.none,data:=.fields ps }
  exact k a _ (.inl rfl) e
 | met f y=>
  have e:h.get? a=some (PySem.W.methodObj (.ref f) (.ref y)):=x
  show h'.get? a=some (PySem.W.methodObj (.ref f) (.ref y))
  exact k a _ (.inl rfl) e
 | ext φ=>obtain⟨p,⟨o,e⟩,st⟩:=x;exact⟨st _ _ p fun o q=>k _ _ (.inl rfl) q,⟨o,k _ _ (.inl rfl) e⟩,st⟩
theorem HOk.lt(x:HOk P w H h)(e:H a=some o):a<h.objs.size:=(x a o e).lt
theorem HOk.fresh(x:HOk P w H h)(e:h.objs.size<=a):H a=none:=by
 cases q:H a with
 | none=>rfl
 | some u=>exact absurd (Nat.lt_of_lt_of_le (x.lt q) e) (Nat.lt_irrefl _)
theorem HOk.kept(x:HOk P w H h)(k:∀ b u,h.get? b=some u->h'.get? b=some u):HOk P w H h':=fun a o e=>
 (x a o e).stay (fun b u _ q=>k b u q) (fun _ q=>q) fun _ _ q=>q
theorem HOk.laid(x:HOk P w H h)(k:∀ b u,h.get? b=some u->h'.get? b=some u)(hp:h.objs.size<=a)(new:ObjOk P w (upd H a o) h' a o):HOk P w (upd H a o) h':=fun b u e=>by
 have hn:=x.fresh hp
 by_cases hb:b=a
 ·subst hb;rw [bv] at e;cases e;exact new
 ·rw [bj hb] at e
  exact(x b u e).stay (fun c v _ q=>k c v q) (fun c q=>by rw [bj (cq q hn)];exact q) fun c xs q=>by rw [bj (cq q hn)];exact q
end
def Rd(H:Hp)(a:Addr)(u:HO):Prop:=H a=some u\/∃ o,H a=some (.frz o u)
theorem Rd.ok{P:Program}{w:World}{H:Hp}{h:Heap}{a:Addr}{u:HO}(r:Rd H a u)(x:HOk P w H h):ObjOk P w H h a u:=by
 rcases r with r | ⟨o,r⟩
 ·exact x a u r
 ·obtain⟨_,q⟩:=x a _ r
  exact q
def Mut:Option HO->Prop
 | some (.lst _)=>True
 | some (.dK _)=>True
 | some (.dT _)=>True
 | some (.set _ _)=>True
 | some (.ins _ _ _)=>True
 | some (.ext _)=>True
 | _=>False
section
variable{P:Program}{w:World}{H:Hp}{h h':Heap}{x e:Addr}{o':HO}
theorem HOk.write(ok:HOk P w H h)(mu:Mut (H x))(he:e=x\/H e=some (.own x))(k:∀ b u,b≠e->h.get? b=some u->h'.get? b=some u)(heo:∃ u,h'.get? e=some u)
  (new:ObjOk P w (upd H x o') h' x o'):HOk P w (upd H x o') h':=fun b u q=>by
 have nown:∀ c y,H c=some (.own y)->c≠x:=fun c y r z=>by subst z;rw [r] at mu;exact mu
 have ntup:∀ c xs,H c=some (.tup xs)->c≠x:=fun c xs r z=>by subst z;rw [r] at mu;exact mu
 by_cases hb:b=x
 ·subst hb;rw [bv] at q;cases q;exact new
 ·rw [bj hb] at q
  by_cases hbe:b=e
  ·have q':H b=some (.own x):=by
    rcases he with z | z
    ·exact absurd (hbe.trans z) hb
    ·rw [hbe];exact z
   rw [q] at q';cases q'
   obtain⟨v,hv⟩:=heo
   exact⟨v,by rw [hbe];exact hv⟩
  ·refine(ok b u q).stay (fun c v hc r=>k c v ?_ r) (fun c r=>by rw [bj (nown c b r)];exact r) fun c xs r=>by rw [bj (ntup c xs r)];exact r
   rcases hc with rfl | hc
   ·exact hbe
   ·rintro rfl
    rcases he with z | z
    ·exact nown c b hc z
    ·rw [hc] at z;cases z;exact hb rfl
end
structure Un(fs ex:List Addr)(H H':Hp)(h h':Heap):Prop where
 keep:∀ b o,h.get? b=some o->H b=none->b ∉ fs->b ∉ ex->h'.get? b=some o
 slot:∀ b o,h.get? b=some o->H b=none->b∈fs->b ∉ ex->∃ sl,h'.get? b=some { o with slots:=sl }
 free:∀ b o,h.get? b=some o->H b=none->b ∉ ex->H' b=none
 there:∀ b o,h.get? b=some o->b ∉ ex->∃ o',h'.get? b=some o'
 tups:∀ b xs,H b=some (.tup xs)->H' b=some (.tup xs)
 frzs:∀ b o u,H b=some (.frz o u)->H' b=some (.frz o u)
 tbls:∀ b ps,H b=some (.tbl ps)->∃ more,H' b=some (.tbl (ps++more))
section
variable{fs fs' ex ex':List Addr}{H H1 H2:Hp}{h h1 h2 h':Heap}{a x e:Addr}{o:HO}
theorem Un.any(u:Un fs ex H H1 h h1){b:Addr}{ob:Obj}(q:h.get? b=some ob)(n:H b=none)(hx:b ∉ ex):∃ sl,h1.get? b=some { ob with slots:=sl }:=by
 by_cases hb:b∈fs
 ·exact u.slot b ob q n hb hx
 ·exact⟨ob.slots,u.keep b ob q n hb hx⟩
theorem Un.kept(k:∀ b u,h.get? b=some u->h'.get? b=some u):Un fs ex H H h h':=
 ⟨fun b ob q _ _ _=>k b ob q,fun b ob q _ _ _=>⟨ob.slots,k b ob q⟩,fun _ _ _ n _=>n,fun b ob q _=>⟨ob,k b ob q⟩,fun _ _ q=>q,fun _ _ _ q=>q,fun _ ps q=>⟨#[],by rw [q];simp⟩⟩
theorem Un.refl:Un fs ex H H h h:=Un.kept fun _ _ q=>q
theorem Un.laid(k:∀ b u,h.get? b=some u->h'.get? b=some u)(hp:h.objs.size<=a)(hn:H a=none):Un fs ex H (upd H a o) h h' where
 keep:=fun b u q _ _ _=>k b u q
 slot:=fun b u q _ _ _=>⟨u.slots,k b u q⟩
 free:=fun b u q n _=>by rw [bj (Nat.ne_of_lt (Nat.lt_of_lt_of_le (Heap.lt_size q) hp))];exact n
 there:=fun b u q _=>⟨u,k b u q⟩
 tups:=fun b xs q=>by rw [bj (cq q hn)];exact q
 frzs:=fun b u xs q=>by rw [bj (cq q hn)];exact q
 tbls:=fun b ps q=>⟨#[],by rw [bj (cq q hn),q];simp⟩
theorem Un.write(mu:Mut (H x))(he:e=x\/H e=some (.own x))(k:∀ b u,b≠e->h.get? b=some u->h'.get? b=some u)(heo:∃ u,h'.get? e=some u):Un fs ex H (upd H x o) h h':=by
 have hx:∀ b,H b=none->b≠x:=fun b n z=>by subst z;rw [n] at mu;exact mu
 have hb:∀ b,H b=none->b≠e:=fun b n z=>by
  subst z
  rcases he with r | r
  ·exact hx b n r
  ·rw [n] at r;cases r
 have hm:∀ b u,H b=some u->¬ Mut (some u)->b≠x:=fun b u q nm z=>by subst z;rw [q] at mu;exact nm mu
 refine⟨fun b u q n _ _=>k b u (hb b n) q,fun b u q n _ _=>⟨u.slots,k b u (hb b n) q⟩,fun b u q n _=>by rw [bj (hx b n)];exact n,fun b u q _=>?_,
  fun b xs q=>by rw [bj (hm b _ q fun z=>z)];exact q,fun b u xs q=>by rw [bj (hm b _ q fun z=>z)];exact q,fun b ps q=>⟨#[],by rw [bj (hm b _ q fun z=>z),q];simp⟩⟩
 by_cases hbe:b=e
 ·subst hbe;exact heo
 ·exact⟨u,k b u hbe q⟩
end
def trk(h:Heap)(H:Hp):List Addr:=(List.range h.objs.size).filter fun a=>(H a).isSome
noncomputable def yx(h:Heap)(H:Hp):Heap:=PySem.W.hideAll h (trk h H)
theorem GP(h:Heap)(H:Hp):(yx h H).objs.size=h.objs.size:=PySem.W.hideAll_size _ _
theorem Kq{h:Heap}{H:Hp}{b:Addr}{o:Obj}(e:h.get? b=some o)(n:H b=none):(yx h H).get? b=some o:=
 PySem.W.hideAll_get _ e fun hm=>by
  have q:(H b).isSome=true:=(List.mem_filter.mp hm).2
  rw [n] at q;simp at q
theorem NB{h:Heap}{H:Hp}{b:Addr}{o:Obj}(e:(yx h H).get? b=some o):h.get? b=some o/\H b=none:=by
 have e':h.get? b=some o:=PySem.W.of_hideAll (trk h H) e
 refine⟨e',?_⟩
 cases q:H b with
 | none=>rfl
 | some x=>
  have hm:b∈trk h H:=List.mem_filter.mpr ⟨List.mem_range.mpr (Heap.lt_size e'),by simp [q]⟩
  have z:(yx h H).get? b=none:=PySem.W.hideAll_none (trk h H) hm
  rw [z] at e;cases e
end L2
namespace L2
open PySem PySem.Spec PyProof.Rows
structure Mod(K:PySem.W.Frag)(mg:Str->Option Value)(base:Heap):Prop where
 kin:K.In base
 glob:base.Ns mainGlobals mg
 blt:∃ mb,base.Ns builtinsNs mb/\∀ x:Str,x ≠ "__name__"->mb x=bootBuiltins x
 nolimit:base.NoLimit
structure Cx where
 prog:Program
 w:World
 K:PySem.W.Frag
 mg:Str->Option Value
 base:Heap
 A:Around
 N:List Str
 s₀:Shared
 H₀:Hp
 env:Env
 outer:List Env
 stack:List Env
 ex:List Addr
 fn:Str->Bool
 calm:Bool
 pn:List (Addr×Obj)
 xe:Value->Shared->Prop
def HY(l:List Env):List Addr:=l.filterMap (·.frame)
abbrev Cx.fs(X:Cx):List Addr:=HY X.outer
def TL(sc:Scope)(x:Str):Prop:=sc.names.lookup x=some .local\/sc.names.lookup x=some .cell\/sc.names.lookup x=some .free
def Mh(sc:Scope)(x:Str):Prop:=sc.names.lookup x=some .local\/sc.names.lookup x=some .cell
def Look(env:Env)(h:Heap)(m:Str->Option Value)(x:Str)(u:Value):Prop:=
 (env.kindOf x=some .local/\m x=some u)\/((env.kindOf x=some .cell\/env.kindOf x=some .free)/\∃ c,env.cells.lookup x=some c/\h.IsCell c (some u))
structure Cx.Ok(X:Cx):Prop where
 mod:Mod X.K X.mg X.base
 kind:X.env.scope.kind=.function
 glob:X.env.globals=mainGlobals
 blt:X.env.builtins=builtinsNs
 above:X.s₀.heap.objs.size<=X.env.locals
 inj:∀ x y c,X.env.cells.lookup x=some c->X.env.cells.lookup y=some c->x=y
 has:∀ x,(X.env.kindOf x=some .cell\/X.env.kindOf x=some .free)->∃ c,X.env.cells.lookup x=some c
 cab:∀ x c,X.fn x=true->X.env.cells.lookup x=some c->X.s₀.heap.objs.size<=c
 hd:X.calm=true->X.A.handled=none
 frames:X.A.frames=some X.stack
 stk:X.stack=X.outer\/(X.stack=X.env::X.outer/\X.env.frame=some X.env.locals)
 exf:∀ b∈X.ex,b≠X.env.locals/\∀ x c,X.env.cells.lookup x=some c->c≠b
 bs:∀ b o,X.base.get? b=some o->X.s₀.heap.get? b=some o/\X.H₀ b=none
 bsz:X.base.objs.size<=X.s₀.heap.objs.size
 noex:∀ b o,X.base.get? b=some o->b ∉ X.ex
 exfs:∀ b∈X.ex,b ∉ X.fs
 funs:X.s₀.heap.FunFrames X.base X.outer
 frf:∀ b∈X.fs,X.H₀ b=none
structure Inv(X:Cx)(pins:List (Addr×Obj))(σ:List (Option V))(H:Hp)(s:Shared):Prop where
 ok:X.Ok
 os:s.os=X.s₀.os
 bare:AllBare s.gens
 base:Un X.fs X.ex X.H₀ H X.s₀.heap s.heap
 loc:∃ m,s.heap.Ns X.env.locals m/\∀ (i:Nat) (x:Str) (v:V),X.N[i]?=some x->σ[i]?=some (some v)->TL X.env.scope x->∃ u,RelV v u/\Look X.env s.heap m x u
 cell:∀ x c,X.env.cells.lookup x=some c->∃ v,s.heap.IsCell c v
 free:H X.env.locals=none
 freeC:∀ x c,X.env.cells.lookup x=some c->H c=none
 pin:∀ p∈X.pn++pins,s.heap.get? p.1=some p.2/\H p.1=none/\p.1≠X.env.locals/\p.1 ∉ X.fs/\∀ v,p.2.data≠.cell v
 hok:HOk X.prog X.w H s.heap
 len:σ.length=X.N.length
section
variable{X:Cx}{pins:List (Addr×Obj)}{σ:List (Option V)}{H H':Hp}{s:Shared}{h':Heap}
theorem Cx.Ok.nofr(ok:X.Ok){b:Addr}{o:Obj}(e:X.base.get? b=some o):b ∉ X.fs:=fun hb=>by
 have:=(ok.funs.mem hb).1
 rw [e] at this;cases this
theorem Inv.bs(I:Inv X pins σ H s):∀ b o,X.base.get? b=some o->s.heap.get? b=some o/\H b=none:=fun b o e=>
 ⟨I.base.keep b o (I.ok.bs b o e).1 (I.ok.bs b o e).2 (I.ok.nofr e) (I.ok.noex b o e),I.base.free b o (I.ok.bs b o e).1 (I.ok.bs b o e).2 (I.ok.noex b o e)⟩
theorem Inv.bk(I:Inv X pins σ H s):∀ b o,X.base.get? b=some o->s.heap.get? b=some o:=fun b o e=>(I.bs b o e).1
theorem Inv.mod(I:Inv X pins σ H s):Mod X.K X.mg X.base:=I.ok.mod
theorem Inv.kIn(I:Inv X pins σ H s):X.K.In s.heap:=I.ok.mod.kin.keeps I.bk
theorem Inv.lt(I:Inv X pins σ H s):X.env.locals<s.heap.objs.size:=let ⟨_,hn,_⟩:=I.loc;hn.lt
theorem Inv.sz(I:Inv X pins σ H s):X.s₀.heap.objs.size<=s.heap.objs.size:=Nat.le_trans I.ok.above (Nat.le_of_lt I.lt)
theorem Inv.nofs(I:Inv X pins σ H s){a:Addr}(h:s.heap.objs.size<=a):a ∉ X.fs:=fun hb=>by
 obtain⟨_,o,ho,_⟩:=I.ok.funs.mem hb
 exact absurd (Nat.lt_of_lt_of_le (Heap.lt_size ho) (Nat.le_trans I.sz h)) (Nat.lt_irrefl _)
theorem Inv.cne(I:Inv X pins σ H s):∀ x c,X.env.cells.lookup x=some c->c≠X.env.locals:=fun x c e z=>by
 obtain⟨v,o,ho,hd⟩:=I.cell x c e
 obtain⟨m,⟨o',es,ep,ho',hd',_⟩,_⟩:=I.loc
 rw [z,ho'] at ho;cases ho;rw [hd'] at hd;cases hd
theorem Inv.funs(I:Inv X pins σ H s):s.heap.FunFrames X.base X.outer:=by
 have all:∀ (l:List Env),(∀ b∈HY l,b∈X.fs)->X.s₀.heap.FunFrames X.base l->s.heap.FunFrames X.base l:=by
  intro l
  induction l with
  | nil=>intro _ _;trivial
  | cons env r ih=>
   intro hs hl
   obtain⟨hk,⟨L,o,hf,hn,ho,hd⟩,hr⟩:=hl
   have hL:L∈X.fs:=hs L (by unfold HY;rw [List.filterMap_cons,hf];exact List.mem_cons_self)
   obtain⟨sl,e⟩:=I.base.slot L o ho (I.ok.frf L hL) hL fun z=>I.ok.exfs L z hL
   exact⟨hk,⟨L,_,hf,hn,e,hd⟩,ih (fun b hb=>hs b (by unfold HY;rw [List.filterMap_cons,hf];exact List.mem_cons_of_mem _ hb)) hr⟩
 exact all X.outer (fun _ hb=>hb) I.ok.funs
theorem Inv.stack(I:Inv X pins σ H s):s.heap.FunFrames X.base X.stack:=by
 rcases I.ok.stk with e | ⟨e,hf⟩
 ·rw [e];exact I.funs
 ·rw [e]
  obtain⟨m,hn,_⟩:=I.loc
  refine .cons (by rw [I.ok.kind];decide) hf hn ?_ I.funs
  exact Heap.get?_none_of_le (Nat.le_trans I.ok.bsz I.ok.above)
theorem Inv.stkSub(I:Inv X pins σ H s):∀ b∈HY X.stack,b∈X.env.locals::X.fs:=fun b hb=>by
 rcases I.ok.stk with e | ⟨e,hf⟩
 ·rw [e] at hb;exact List.mem_cons_of_mem _ hb
 ·rw [e] at hb
  unfold HY at hb
  rw [List.filterMap_cons,hf] at hb
  exact hb
theorem Inv.stkFree(I:Inv X pins σ H s):∀ b∈HY X.stack,H b=none:=fun b hb=>by
 rcases List.mem_cons.mp (I.stkSub b hb) with e | hb
 ·rw [e];exact I.free
 ·obtain⟨_,o,ho,_⟩:=I.ok.funs.mem hb
  exact I.base.free b o ho (I.ok.frf b hb) fun z=>I.ok.exfs b z hb
theorem Inv.step{g':Array GenState}{t':Nat}{d':Drawn}{ch:List Addr}(I:Inv X pins σ H s)
  (hch:∀ b∈ch,(b∈X.ex\/X.s₀.heap.objs.size<=b)/\b≠X.env.locals/\(∀ x c,X.env.cells.lookup x=some c->c≠b)/\∀ p∈X.pn++pins,p.1≠b)
  (keep:∀ b o,b≠X.env.locals->b ∉ X.fs->b ∉ ch->s.heap.get? b=some o->H b=none->h'.get? b=some o)
  (slot:∀ b o,b≠X.env.locals->b∈X.fs->b ∉ ch->s.heap.get? b=some o->H b=none->∃ sl,h'.get? b=some { o with slots:=sl }) (free:∀ b o,b ∉ ch->s.heap.get? b=some o->H b=none->H' b=none)
  (there:∀ b o,b ∉ ch->s.heap.get? b=some o->∃ o',h'.get? b=some o')
  (tups:∀ b xs,H b=some (.tup xs)->H' b=some (.tup xs)) (frzs:∀ b o u,H b=some (.frz o u)->H' b=some (.frz o u)) (tbls:∀ b ps,H b=some (.tbl ps)->∃ more,H' b=some (.tbl (ps++more)))
  (ns:∀ m,s.heap.Ns X.env.locals m->h'.Ns X.env.locals m) (hok:HOk X.prog X.w H' h') (hg:AllBare g') :
  Inv X pins σ H' { s with heap:=h',gens:=g',drawn:=d',toks:=t' }:=by
 have neL:∀ b o,X.s₀.heap.get? b=some o->b≠X.env.locals:=fun b o e=>Nat.ne_of_lt (Nat.lt_of_lt_of_le (Heap.lt_size e) I.ok.above)
 have neC:∀ b o,X.s₀.heap.get? b=some o->b ∉ X.ex->b ∉ ch:=fun b o e hx hb=>by
  rcases(hch b hb).1 with z | z
  ·exact hx z
  ·exact absurd (Nat.lt_of_lt_of_le (Heap.lt_size e) z) (Nat.lt_irrefl _)
 have cellK:∀ x c,X.env.cells.lookup x=some c->∀ v,s.heap.IsCell c v->h'.IsCell c v:=fun x c e v ⟨o,ho,hd⟩=>by
  have nch:c ∉ ch:=fun z=>(hch c z).2.2.1 x c e rfl
  by_cases hc:c∈X.fs
  ·obtain⟨sl,q⟩:=slot c o (I.cne x c e) hc nch ho (I.freeC x c e)
   exact⟨_,q,hd⟩
  ·exact⟨o,keep c o (I.cne x c e) hc nch ho (I.freeC x c e),hd⟩
 refine⟨I.ok,I.os,hg,⟨fun b o e n hb hx=>?_,fun b o e n hb hx=>?_,fun b o e n hx=>?_,fun b o e hx=>?_,fun b xs e=>tups b xs (I.base.tups b xs e),fun b o xs e=>frzs b o xs (I.base.frzs b o xs e),fun b ps e=>?_⟩,?_,fun x c e=>?_,?_,fun x c e=>?_,fun p hp=>?_,hok,I.len⟩
 ·exact keep b o (neL b o e) hb (neC b o e hx) (I.base.keep b o e n hb hx) (I.base.free b o e n hx)
 ·obtain⟨sl,e1⟩:=I.base.slot b o e n hb hx
  obtain⟨sl',e2⟩:=slot b _ (neL b o e) hb (neC b o e hx) e1 (I.base.free b o e n hx)
  exact⟨sl',e2⟩
 ·obtain⟨o',e1⟩:=I.base.there b o e hx
  exact free b o' (neC b o e hx) e1 (I.base.free b o e n hx)
 ·obtain⟨o',e1⟩:=I.base.there b o e hx
  exact there b o' (neC b o e hx) e1
 ·obtain⟨m1,e1⟩:=I.base.tbls b ps e
  obtain⟨m2,e2⟩:=tbls b _ e1
  exact⟨m1++m2,by rw [e2,Array.append_assoc]⟩
 ·obtain⟨m,hn,hl⟩:=I.loc
  refine⟨m,ns m hn,fun i x v e1 e2 e3=>?_⟩
  obtain⟨u,r,l⟩:=hl i x v e1 e2 e3
  refine⟨u,r,?_⟩
  rcases l with l | ⟨k,c,e,z⟩
  ·exact .inl l
  ·exact .inr ⟨k,c,e,cellK x c e _ z⟩
 ·obtain⟨v,z⟩:=I.cell x c e
  exact⟨v,cellK x c e v z⟩
 ·obtain⟨m,⟨o,_,_,ho,_⟩,_⟩:=I.loc
  exact free _ o (fun z=>(hch _ z).2.1 rfl) ho I.free
 ·obtain⟨v,o,ho,hd⟩:=I.cell x c e
  exact free c o (fun z=>(hch c z).2.2.1 x c e rfl) ho (I.freeC x c e)
 ·obtain⟨e,n,ne,nf,d⟩:=I.pin p hp
  have nch:p.1 ∉ ch:=fun z=>(hch p.1 z).2.2.2 p hp rfl
  exact⟨keep p.1 p.2 ne nf nch e n,free p.1 p.2 nch e n,ne,nf,d⟩
theorem Inv.un{t':Nat}(I:Inv X pins σ H s)(u:Un X.fs [] H H' s.heap h')(hok:HOk X.prog X.w H' h'):Inv X pins σ H' { s with heap:=h',toks:=t' }:=by
 obtain⟨m,⟨o,es,ep,ho,r⟩,_⟩:=id I.loc
 obtain⟨sl,hL⟩:=u.any ho I.free (by simp)
 exact I.step (g':=s.gens) (d':=s.drawn) (ch:=[]) (fun _ z=>nomatch z) (fun b o _ hb _ e n=>u.keep b o e n hb (by simp)) (fun b o _ hb _ e n=>u.slot b o e n hb (by simp)) (fun b o _ e n=>u.free b o e n (by simp)) (fun b o _ e=>u.there b o e (by simp)) u.tups u.frzs u.tbls (fun m' hm=>by
  obtain⟨o',es',ep',ho',r'⟩:=hm
  rw [ho] at ho';cases ho'
  exact⟨_,es',ep',hL,r'⟩) hok I.bare
theorem Inv.call{g':Array GenState}{t':Nat}{d':Drawn}{ch:List Addr}(I:Inv X pins σ H s)(u:Un (HY X.stack) ch H H' s.heap h')(hok:HOk X.prog X.w H' h')(hg:AllBare g')
  (hch:∀ b∈ch,(b∈X.ex\/X.s₀.heap.objs.size<=b)/\b≠X.env.locals/\(∀ x c,X.env.cells.lookup x=some c->c≠b)/\∀ p∈X.pn++pins,p.1≠b) :
  Inv X pins σ H' { s with heap:=h',gens:=g',drawn:=d',toks:=t' }:=by
 obtain⟨m,⟨o,es,ep,ho,r⟩,_⟩:=id I.loc
 obtain⟨sl,hL⟩:=u.any ho I.free fun z=>(hch _ z).2.1 rfl
 exact I.step (ch:=ch) hch (fun b o hL hb hc e n=>u.keep b o e n (fun z=>(List.mem_cons.mp (I.stkSub b z)).elim hL hb) hc) (fun b o _ _ hc e n=>u.any e n hc) (fun b o hc e n=>u.free b o e n hc) (fun b o hc e=>u.there b o e hc) u.tups u.frzs u.tbls (fun m' hm=>by
  obtain⟨o',es',ep',ho',r'⟩:=hm
  rw [ho] at ho';cases ho'
  exact⟨_,es',ep',hL,r'⟩) hok hg
theorem Inv.turned{t':Nat}{it:Addr}(I:Inv X pins σ H s)(k:∀ b o,b≠it->s.heap.get? b=some o->h'.get? b=some o)(hn:H it=none)(hL:it≠X.env.locals)
  (h1:it∈X.ex\/X.s₀.heap.objs.size<=it) (h2:∀ x c,X.env.cells.lookup x=some c->c≠it) (h3:∀ p∈X.pn++pins,p.1≠it):Inv X pins σ H { s with heap:=h',toks:=t' }:=by
 have nit:∀ b u,H b=some u->b≠it:=fun b u e z=>by rw [z,hn] at e;cases e
 refine I.step (g':=s.gens) (d':=s.drawn) (ch:=[it]) (fun b hb=>?_) (fun b o _ _ hc e _=>k b o (fun z=>hc (by simp [z])) e) (fun b o _ _ hc e _=>⟨o.slots,k b o (fun z=>hc (by simp [z])) e⟩) (fun _ _ _ _ n=>n)
  (fun b o hc e=>⟨o,k b o (fun z=>hc (by simp [z])) e⟩) (fun _ _ e=>e) (fun _ _ _ e=>e) (fun b ps e=>⟨#[],by rw [e];simp⟩) (fun m hm=>?_) (fun b u e=>?_) I.bare
 ·have e:b=it:=by simpa using hb
  subst e
  exact⟨h1,hL,h2,h3⟩
 ·obtain⟨o,es,ep,ho,r⟩:=hm
  exact⟨o,es,ep,k _ o (Ne.symm hL) ho,r⟩
 ·refine(I.hok b u e).stay (fun c v hc q=>k c v ?_ q) (fun _ q=>q) fun _ _ q=>q
  rcases hc with z | z
  ·rw [z];exact nit b u e
  ·exact nit c _ z
theorem Inv.tok(I:Inv X pins σ H s)(t:Nat):Inv X pins σ H { s with toks:=t }:=I.un (h':=s.heap) (t':=t) Un.refl I.hok
theorem Inv.kept{t':Nat}(I:Inv X pins σ H s)(k:∀ b u,s.heap.get? b=some u->h'.get? b=some u):Inv X pins σ H { s with heap:=h',toks:=t' }:=I.un (Un.kept k) (I.hok.kept k)
theorem Inv.laid{a:Addr}{o:HO}{t':Nat}(I:Inv X pins σ H s)(k:∀ b u,s.heap.get? b=some u->h'.get? b=some u)(hp:s.heap.objs.size<=a)(new:ObjOk X.prog X.w (upd H a o) h' a o) :
  Inv X pins σ (upd H a o) { s with heap:=h',toks:=t' }:=I.un (Un.laid k hp (I.hok.fresh hp)) (I.hok.laid k hp new)
theorem Inv.write{x e:Addr}{o:HO}{t':Nat}(I:Inv X pins σ H s)(mu:Mut (H x))(he:e=x\/H e=some (.own x))(k:∀ b u,b≠e->s.heap.get? b=some u->h'.get? b=some u)(heo:∃ u,h'.get? e=some u)
  (new:ObjOk X.prog X.w (upd H x o) h' x o):Inv X pins σ (upd H x o) { s with heap:=h',toks:=t' }:=I.un (Un.write mu he k heo) (I.hok.write mu he k heo new)
theorem Inv.pins_of{pins':List (Addr×Obj)}(I:Inv X pins σ H s)(h:∀ p∈pins',s.heap.get? p.1=some p.2/\H p.1=none/\p.1≠X.env.locals/\p.1 ∉ X.fs/\∀ v,p.2.data≠.cell v):Inv X pins' σ H s:=
 ⟨I.ok,I.os,I.bare,I.base,I.loc,I.cell,I.free,I.freeC,fun p hp=>(List.mem_append.mp hp).elim (fun z=>I.pin p (List.mem_append_left _ z)) (h p),I.hok,I.len⟩
theorem zU{N:List Str}(hN:N.Nodup){i j:Nat}{x:Str}(a:N[i]?=some x)(b:N[j]?=some x):i=j:=by
 obtain⟨h1,e1⟩:=List.getElem?_eq_some_iff.mp a
 obtain⟨h2,e2⟩:=List.getElem?_eq_some_iff.mp b
 exact(List.getElem_inj hN).mp (e1.trans e2.symm)
theorem vx{M:Model}{A:Around}{E:Value->Shared->Prop}{i:Nat}{x:Str}{v:V}{u:Value}{Q:Unit->Shared->Prop}(I:Inv X pins σ H s)(hN:X.N.Nodup)(hi:X.N[i]?=some x)(hx:Mh X.env.scope x)(r:RelV v u)
  (h:∀ s',Inv X pins (σ.set i (some v)) H s'->(∃ a,Heap.SameBut a s.heap s'.heap/\(a=X.env.locals\/X.env.cells.lookup x=some a))->Q () s') (hf:X.fn x=true\/X.env.scope.names.lookup x=some .local:=by first | exact .inl rfl | exact .inr rfl | assumption):wpAny M A (storeName X.env x u) Q E s:=by
 obtain⟨m,hn,hl⟩:=id I.loc
 have hcls:(X.env.scope.kind == .class||(X.env.scope.kind == .module&&X.env.locals != X.env.globals))=false:=by rw [I.ok.kind];rfl
 have hiσ:i < σ.length:=by rw [I.len];exact(List.getElem?_eq_some_iff.mp hi).1
 have cne:=I.cne
 have tracked:∀ {a:Addr} {h':Heap},(∃ o,s.heap.get? a=some o/\H a=none)->Heap.SameBut a s.heap h'->HOk X.prog X.w H h':=fun {a h'} ha hs b ob e=>by
  obtain⟨_,_,hfree⟩:=ha
  refine(I.hok b ob e).stay (fun c w' hc q=>(hs.2 c ?_).trans q) (fun _ q=>q) fun _ _ q=>q
  rintro rfl
  rcases hc with rfl | hc
  ·rw [hfree] at e;cases e
  ·rw [hfree] at hc;cases hc
 rcases hx with hk | hk
 ·refine wpAny_storeName_local hk hn (fun h' hn' hs=>?_) hcls
  obtain⟨oL,_,_,hoL,_⟩:=id hn
  refine h _ ⟨I.ok,I.os,I.bare,⟨fun b o e n hb hx=>?_,fun b o e n hb hx=>?_,I.base.free,fun b o e hx=>?_,I.base.tups,I.base.frzs,I.base.tbls⟩,⟨_,hn',fun j y v' e1 e2 e3=>?_⟩,fun y c e=>?_,I.free,I.freeC,fun p hp=>?_,tracked ⟨oL,hoL,I.free⟩ hs,by simpa using I.len⟩ ⟨_,hs,.inl rfl⟩
  ·exact(hs.2 b (Nat.ne_of_lt (Nat.lt_of_lt_of_le (Heap.lt_size e) I.ok.above))).trans (I.base.keep b o e n hb hx)
  ·obtain⟨sl,e1⟩:=I.base.slot b o e n hb hx
   exact⟨sl,(hs.2 b (Nat.ne_of_lt (Nat.lt_of_lt_of_le (Heap.lt_size e) I.ok.above))).trans e1⟩
  ·obtain⟨o',e1⟩:=I.base.there b o e hx
   exact⟨o',(hs.2 b (Nat.ne_of_lt (Nat.lt_of_lt_of_le (Heap.lt_size e) I.ok.above))).trans e1⟩
  ·by_cases hj:j=i
   ·subst hj
    rw [hi] at e1;cases e1
    rw [List.getElem?_set_self hiσ] at e2
    cases e2
    exact⟨u,r,.inl ⟨hk,by simp⟩⟩
   ·rw [List.getElem?_set_ne (Ne.symm hj)] at e2
    obtain⟨u',r',q⟩:=hl j y v' e1 e2 e3
    refine⟨u',r',?_⟩
    rcases q with ⟨k,e⟩ | ⟨k,c,e,z⟩
    ·refine .inl ⟨k,?_⟩
     have:y≠x:=fun e=>hj (zU hN e1 (e ▸ hi))
     simp [this,e]
    ·exact .inr ⟨k,c,e,z.sameBut hs (cne y c e)⟩
  ·obtain⟨w',z⟩:=I.cell y c e
   exact⟨w',z.sameBut hs (cne y c e)⟩
  ·obtain⟨e,n,ne,nf,d⟩:=I.pin p hp
   exact⟨(hs.2 p.1 ne).trans e,n,ne,nf,d⟩
 ·have hfn:X.fn x=true:=by
   rcases hf with z | z
   ·exact z
   ·rw [z] at hk;cases hk
  obtain⟨c,hc⟩:=I.ok.has x (.inl hk)
  obtain⟨w',z⟩:=I.cell x c hc
  refine wpAny_storeName_cell I.ok.kind hk hc z (fun h' hc' hs=>?_)
  obtain⟨oc,hoc,hocd⟩:=id z
  refine h { s with heap:=h' } ⟨I.ok,I.os,I.bare,⟨fun b o e n hb hx=>?_,fun b o e n hb hx=>?_,I.base.free,fun b o e hx=>?_,I.base.tups,I.base.frzs,I.base.tbls⟩,⟨m,hn.sameBut hs (Ne.symm (cne x c hc)),fun j y v' e1 e2 e3=>?_⟩,fun y c' e=>?_,I.free,I.freeC,fun p hp=>?_,tracked ⟨oc,hoc,I.freeC x c hc⟩ hs,by simpa using I.len⟩ ⟨c,hs,.inr hc⟩
  ·exact(hs.2 b (Nat.ne_of_lt (Nat.lt_of_lt_of_le (Heap.lt_size e) (I.ok.cab x c hfn hc)))).trans (I.base.keep b o e n hb hx)
  ·obtain⟨sl,e1⟩:=I.base.slot b o e n hb hx
   exact⟨sl,(hs.2 b (Nat.ne_of_lt (Nat.lt_of_lt_of_le (Heap.lt_size e) (I.ok.cab x c hfn hc)))).trans e1⟩
  ·obtain⟨o',e1⟩:=I.base.there b o e hx
   exact⟨o',(hs.2 b (Nat.ne_of_lt (Nat.lt_of_lt_of_le (Heap.lt_size e) (I.ok.cab x c hfn hc)))).trans e1⟩
  ·by_cases hj:j=i
   ·subst hj
    rw [hi] at e1;cases e1
    rw [List.getElem?_set_self hiσ] at e2
    cases e2
    exact⟨u,r,.inr ⟨.inl hk,c,hc,hc'⟩⟩
   ·rw [List.getElem?_set_ne (Ne.symm hj)] at e2
    obtain⟨u',r',q⟩:=hl j y v' e1 e2 e3
    refine⟨u',r',?_⟩
    rcases q with q | ⟨k,c',e,z'⟩
    ·exact .inl q
    ·refine .inr ⟨k,c',e,z'.sameBut hs ?_⟩
     rintro rfl
     exact hj (zU hN e1 (I.ok.inj _ _ _ e hc ▸ hi))
  ·by_cases hcc:c'=c
   ·subst hcc;exact⟨_,hc'⟩
   ·obtain⟨w2,z2⟩:=I.cell y c' e
    exact⟨w2,z2.sameBut hs hcc⟩
  ·obtain⟨e,n,ne,nf,d⟩:=I.pin p hp
   refine⟨(hs.2 p.1 ?_).trans e,n,ne,nf,d⟩
   intro q
   rw [q,hoc] at e
   have q':oc=p.2:=Option.some.inj e
   exact d w' (by rw [<- q'];exact hocd)
theorem ow{M:Model}{A:Around}{E:Value->Shared->Prop}{i:Nat}{x:Str}{v:V}{u:Value}{Q:Unit->Shared->Prop}(I:Inv X pins σ H s)(hN:X.N.Nodup)(hi:X.N[i]?=some x)(hx:Mh X.env.scope x)(r:RelV v u)
  (h:∀ s',Inv X pins (σ.set i (some v)) H s'->Q () s') (hf:X.fn x=true\/X.env.scope.names.lookup x=some .local:=by first | exact .inl rfl | exact .inr rfl | assumption):wpAny M A (storeName X.env x u) Q E s:=
 vx I hN hi hx r (fun s' I' _=>h s' I') hf
theorem Inv.call'{s':Shared}{ch:List Addr}(I:Inv X pins σ H s)(ho:s'.os=s.os)(u:Un (HY X.stack) ch H H' s.heap s'.heap)(hok:HOk X.prog X.w H' s'.heap)(hg:AllBare s'.gens)
  (hch:∀ b∈ch,(b∈X.ex\/X.s₀.heap.objs.size<=b)/\b≠X.env.locals/\(∀ x c,X.env.cells.lookup x=some c->c≠b)/\∀ p∈X.pn++pins,p.1≠b):Inv X pins σ H' s':=by
 obtain⟨h',g',d',t',o'⟩:=s'
 have e:o'=s.os:=ho
 subst e
 exact I.call (g':=g') (t':=t') (d':=d') u hok hg hch
end
abbrev XK:=Value->Option Addr->Hp->Prop
noncomputable abbrev St:=List (Option V)
abbrev VK:=V->Hp->Prop
abbrev TE:=St->Hp->VK->Prop
abbrev TT:=St->Hp->(Bool->Hp->Prop)->Prop
abbrev TA:=St->Hp->(List V->Hp->Prop)->Prop
structure vm where
 nx:St->Hp->Prop
 rt:VK
 bk:St->Hp->Prop:=fun _ _=>False
 ct:St->Hp->Prop:=fun _ _=>False
abbrev TS:=vm->St->Hp->Prop
def EP(X:Cx)(pins:List (Addr×Obj))(σ:St)(Q:VK)(u:Value)(s':Shared):Prop:=∃ v H',Inv X pins σ H' s'/\RelV v u/\Q v H'
def TP(X:Cx)(pins:List (Addr×Obj))(σ:St)(Q:Bool->Hp->Prop)(b:Bool)(s':Shared):Prop:=∃ H',Inv X pins σ H' s'/\Q b H'
def AP(X:Cx)(pins:List (Addr×Obj))(σ:St)(Q:List V->Hp->Prop)(us:List Value)(s':Shared):Prop:=∃ vs H',Inv X pins σ H' s'/\Vals vs us/\Q vs H'
def SP(X:Cx)(pins:List (Addr×Obj))(D:vm)(f:Flow)(s':Shared):Prop:=
 match f with
 | .next=>∃ σ' H',Inv X pins σ' H' s'/\D.nx σ' H'
 | .brk=>∃ σ' H',Inv X pins σ' H' s'/\D.bk σ' H'
 | .cont=>∃ σ' H',Inv X pins σ' H' s'/\D.ct σ' H'
 | .ret u=>∃ v σ' H',Inv X pins σ' H' s'/\RelV v u/\D.rt v H'
def PE(X:Cx)(e:Expr)(t:TE):Prop:=
 ∀ (pins:List (Addr×Obj)) (s:Shared) (σ:St) (H:Hp) (Q:VK),Inv X pins σ H s->t σ H Q->wpAny (model X.prog X.w) X.A (eval e X.env) (EP X pins σ Q) X.xe s
def PT(X:Cx)(e:Expr)(t:TT):Prop:=
 ∀ (pins:List (Addr×Obj)) (s:Shared) (σ:St) (H:Hp) (Q:Bool->Hp->Prop),Inv X pins σ H s->t σ H Q->wpAny (model X.prog X.w) X.A (isTrue e X.env (eval e X.env)) (TP X pins σ Q) X.xe s
def PW(X:Cx)(e:Expr)(t:TT):Prop:=
 ∀ (whole:Sem Value) (pins:List (Addr×Obj)) (s:Shared) (σ:St) (H:Hp) (Q:Bool->Hp->Prop),Inv X pins σ H s->t σ H Q->wpAny (model X.prog X.w) X.A (isTrue e X.env whole) (TP X pins σ Q) X.xe s
theorem PW.pt{X:Cx}{e:Expr}{t:TT}(h:PW X e t):PT X e t:=h _
def PA(X:Cx)(es:List Expr)(t:TA):Prop:=
 ∀ (pos:Pos) (pins:List (Addr×Obj)) (s:Shared) (σ:St) (H:Hp) (Q:List V->Hp->Prop),Inv X pins σ H s->t σ H Q->wpAny (model X.prog X.w) X.A (spliced (backTo pos (starEach es X.env))) (AP X pins σ Q) X.xe s
def PS(X:Cx)(st:Stmt)(t:TS):Prop:=
 ∀ (pins:List (Addr×Obj)) (s:Shared) (σ:St) (H:Hp) (D:vm),Inv X pins σ H s->t D σ H->wpAny (model X.prog X.w) X.A (exec st X.env) (SP X pins D) X.xe s
def PSs(X:Cx)(st:List Stmt)(t:TS):Prop:=
 ∀ (pins:List (Addr×Obj)) (s:Shared) (σ:St) (H:Hp) (D:vm),Inv X pins σ H s->t D σ H->wpAny (model X.prog X.w) X.A (execs st X.env) (SP X pins D) X.xe s
theorem cZ{α:Type}{t:Sem α}{Q Q':α->Shared->Prop}{M:Model}{A:Around}{E:Value->Shared->Prop}{s:Shared}(h:wpAny M A t Q E s)(hQ:∀ a s,Q a s->Q' a s):wpAny M A t Q' E s:=wpAny_mono h hQ fun _ _ x=>x
end L2
namespace L2
open PySem PySem.Spec PyProof.Rows
section
variable{X:Cx}
theorem bin{a b:Expr}{ta tb:TE}(ha:PE X a ta)(hb:PE X b tb){pins:List (Addr×Obj)}{s:Shared}{σ:St}{H:Hp}{R:V->V->Hp->Prop}(I:Inv X pins σ H s)(h:ta σ H fun x H1=>tb σ H1 fun y H2=>R x y H2)
  {α:Type} {Q:α->Shared->Prop} {f:Value->Value->Sem α}
  (hf:∀ v u s2 x y H2,Inv X pins σ H2 s2->RelV x v->RelV y u->R x y H2->wpAny (model X.prog X.w) X.A (f v u) Q X.xe s2) :
  wpAny (model X.prog X.w) X.A (eval a X.env) (fun v s₁=>wpAny (model X.prog X.w) X.A (eval b X.env) (fun u s₂=>wpAny (model X.prog X.w) X.A (f v u) Q X.xe s₂) X.xe s₁) X.xe s:=by
 refine cZ (ha pins s σ H _ I h) fun v s1 ⟨x,H1,I1,r1,q1⟩=>?_
 refine cZ (hb pins s1 σ H1 _ I1 q1) fun u s2 ⟨y,H2,I2,r2,q2⟩=>?_
 exact hf v u s2 x y H2 I2 r1 r2 q2
def tVar(i:Nat):TE:=fun σ H Q=>∃ v,σ[i]?=some (some v)/\Q v H
def tC(v:V):TE:=fun _ H Q=>Q v H
theorem Ji{i:Nat}{x:Str}{pos:Pos}(hN:X.N[i]?=some x)(hv:TL X.env.scope x)(hd:(x == ("__debug__":Str))=false:=by decide)(hcd:(x == ("__classdict__":Str))=false:=by decide):PE X (.Name x pos) (tVar i):=by
 intro pins s σ H Q I h
 obtain⟨v,e,h⟩:=h
 obtain⟨m,hn,hl⟩:=I.loc
 obtain⟨u,r,l⟩:=hl i x v hN e hv
 have fin:EP X pins σ Q u s:=⟨v,H,I,r,h⟩
 rcases l with ⟨hk,hm⟩ | ⟨hk,c,hc,hcell⟩
 ·exact wpAny_Name (wpAny_loadName_local I.ok.kind hk hn hm fin) hd
 ·rcases hk with hk | hk
  ·exact wpAny_Name (wpAny_loadName_cell I.ok.kind hk hc hcell fin) hd
  ·exact wpAny_Name (wpAny_loadName_free I.ok.kind hk hc hcell fin hcd) hd
theorem QX{i j pos}:PE X (.Constant (.int i) j pos) (tC (.int i)):=fun _ _ _ H _ I h=>wpAny_Constant_int ⟨.int i,H,I.tok _,⟨_,rfl⟩,h⟩
theorem pe_bl{b j pos}:PE X (.Constant (.bool b) j pos) (tC (.bl b)):=fun _ _ _ H _ I h=>Constant_bool ⟨.bl b,H,I,rfl,h⟩
theorem QW{j pos}:PE X (.Constant .none j pos) (tC .non):=fun _ _ _ H _ I h=>Constant_none ⟨.non,H,I,rfl,h⟩
theorem QT{x j pos}:PE X (.Constant (.str x) j pos) (tC (.str x)):=fun _ _ _ H _ I h=>Calls.Constant_str ⟨.str x,H,I.tok _,⟨_,rfl⟩,h⟩
def Gl(X:Cx)(x:Str):Prop:=X.env.kindOf x=some .globalImplicit
theorem yj{E:Value->Shared->Prop}{pins:List (Addr×Obj)}{s:Shared}{σ:St}{H:Hp}{x:Str}{u:Value}{pos:Pos}{Q:Value->Shared->Prop}(I:Inv X pins σ H s)(hg:Gl X x)(hm:X.mg x=some u)(h:Q u s)
  (hd:(x == ("__debug__":Str))=false:=by decide):wpAny (model X.prog X.w) X.A (eval (.Name x pos) X.env) Q E s:=
 Calls.Name_function_global I.ok.kind hg (Calls.loadGlobal_global (by rw [I.ok.glob];exact I.mod.glob.keeps I.bk) hm h) hd
theorem lj{E:Value->Shared->Prop}{pins:List (Addr×Obj)}{s:Shared}{σ:St}{H:Hp}{x:Str}{u:Value}{pos:Pos}{Q:Value->Shared->Prop}(I:Inv X pins σ H s)(hg:Gl X x)(hm:X.mg x=none)(hv:bootBuiltins x=some u)(h:Q u s)
  (hn:x ≠ "__name__":=by decide) (hd:(x == ("__debug__":Str))=false:=by decide):wpAny (model X.prog X.w) X.A (eval (.Name x pos) X.env) Q E s:=by
 obtain⟨mb,h1,h2⟩:=I.mod.blt
 exact Calls.Name_function_global I.ok.kind hg (Calls.loadGlobal_builtin (by rw [I.ok.glob];exact I.mod.glob.keeps I.bk) hm (by rw [I.ok.blt];exact h1.keeps I.bk) ((h2 x hn).trans hv) h) hd
theorem xD{x:Str}{v:V}{u:Value}{pos:Pos}(hg:Gl X x)(hm:X.mg x=some u)(r:RelV v u)(hd:(x == ("__debug__":Str))=false:=by decide):PE X (.Name x pos) (tC v):=
 fun _ _ _ H _ I h=>yj I hg hm ⟨v,H,I,r,h⟩ hd
theorem Nj{x:Str}{v:V}{u:Value}{pos:Pos}(hg:Gl X x)(hm:X.mg x=none)(hv:bootBuiltins x=some u)(r:RelV v u)(hn:x ≠ "__name__":=by decide)(hd:(x == ("__debug__":Str))=false:=by decide):PE X (.Name x pos) (tC v):=
 fun _ _ _ H _ I h=>lj I hg hm hv ⟨v,H,I,r,h⟩ hn hd
variable{a b:Expr}{ta tb:TE}{pos:Pos}
variable{tA tB':TT}{rest:List Expr}
def tAnd(t u:TT):TT:=fun σ H Q=>t σ H fun c H1=>if c=true then u σ H1 Q else Q false H1
def tOr(t u:TT):TT:=fun σ H Q=>t σ H fun c H1=>if c=true then Q true H1 else u σ H1 Q
def tNot(t:TT):TT:=fun σ H Q=>t σ H fun c H1=>Q (!c) H1
theorem MK(ha:PT X a tA):PW X (.BoolOp .And [a] pos) tA:=by
 intro wh pins s σ H Q I h
 refine isTrue_and (cZ (ha pins s σ H Q I h) fun c s1 e=>?_)
 cases c with
 | true=>exact isTrue_and_nil e
 | false=>exact e
theorem QH(ha:PT X a tA):PW X (.BoolOp .Or [a] pos) tA:=by
 intro wh pins s σ H Q I h
 refine isTrue_or (cZ (ha pins s σ H Q I h) fun c s1 e=>?_)
 cases c with
 | false=>exact isTrue_or_nil e
 | true=>exact e
theorem QI(ha:PT X a tA)(hb:PW X (.BoolOp .And (b::rest) pos) tB'):PW X (.BoolOp .And (a::b::rest) pos) (tAnd tA tB'):=by
 intro wh pins s σ H Q I h
 refine isTrue_and (cZ (ha pins s σ H _ I h) fun c s1 ⟨H1,I1,q1⟩=>?_)
 cases c with
 | true=>exact hb wh pins s1 σ H1 Q I1 q1
 | false=>exact⟨H1,I1,q1⟩
theorem pw_or(ha:PT X a tA)(hb:PW X (.BoolOp .Or (b::rest) pos) tB'):PW X (.BoolOp .Or (a::b::rest) pos) (tOr tA tB'):=by
 intro wh pins s σ H Q I h
 refine isTrue_or (cZ (ha pins s σ H _ I h) fun c s1 ⟨H1,I1,q1⟩=>?_)
 cases c with
 | true=>exact⟨H1,I1,q1⟩
 | false=>exact hb wh pins s1 σ H1 Q I1 q1
theorem QJ(ha:PT X a tA):PT X (.UnaryOp .Not a pos) (tNot tA):=by
 intro pins s σ H Q I h
 exact isTrue_not (ha pins s σ H (fun c H1=>Q (!c) H1) I h)
theorem QV{op}{t:TE}(h:PE X a t):PE X (.BoolOp op [a] pos) t:=fun pins s σ H Q I hw=>BoolOp_one (h pins s σ H Q I hw)
def tIf(t:TT)(ta tb:TE):TE:=fun σ H Q=>t σ H fun c H1=>if c=true then ta σ H1 Q else tb σ H1 Q
theorem Jm{c:Expr}(hc:PT X c tA)(ha:PE X a ta)(hb:PE X b tb):PE X (.IfExp c a b pos) (tIf tA ta tb):=by
 intro pins s σ H Q I h
 refine wpAny_IfExp (cZ (hc pins s σ H _ I h) fun d s1 ⟨H1,I1,q1⟩=>?_)
 cases d with
 | true=>exact ha pins s1 σ H1 Q I1 q1
 | false=>exact hb pins s1 σ H1 Q I1 q1
end
end L2
namespace L2
open PySem PySem.Spec PyProof.Rows
def om(K:PySem.W.Frag)(H:Hp)(a:Addr)(xs:List V):Prop:=
 Rd H a (.lst xs) \/
  ∃ (o:Obj) (its:Array Value) (n:Nat),K.lookup a=some o/\o.cls=.type "list"/\o.dict=none/\o.data=.seq its n/\its.size<=sizeLine/\Vals xs its.toList
def lI(K:PySem.W.Frag)(H:Hp)(a:Addr)(xs:List V):Prop:=
 Rd H a (.tup xs) \/
  ∃ (o:Obj) (its:Array Value) (n:Nat),K.lookup a=some o/\o.cls=.type "tuple"/\o.dict=none/\o.data=.seq its n/\its.size<=sizeLine/\Vals xs its.toList
noncomputable def absV:Value->Option V
 | .none=>some .non
 | .bool b=>some (.bl b)
 | .int i _=>some (.int i)
 | .str x _=>some (.str x)
 | .bytes b _=>some (.byt b)
 | .float b _=>some (.flt b)
 | .ref a=>some (.ref a)
 | .type n=>some (.ty n)
 | _=>none
theorem RelV.abs{x:V}{u:Value}(r:RelV x u):absV u=some x:=by
 cases x with
 | non=>cases r;rfl
 | bl _=>cases r;rfl
 | int _=>obtain⟨t,rfl⟩:=r;rfl
 | str _=>obtain⟨t,rfl⟩:=r;rfl
 | byt _=>obtain⟨t,rfl⟩:=r;rfl
 | flt _=>obtain⟨t,rfl⟩:=r;rfl
 | ref _=>cases r;rfl
 | ty _=>cases r;rfl
theorem RelV.inj{x y:V}{u:Value}(r:RelV x u)(q:RelV y u):x=y:=Option.some.inj (r.abs.symm.trans q.abs)
theorem Vals.inj:∀ {xs ys:List V} {us:List Value},Vals xs us->Vals ys us->xs=ys
 | _,_,_,.nil,.nil=>rfl
 | _,_,_,.cons r t,.cons r' t'=>by rw [r.inj r',Vals.inj t t']
section
variable{X:Cx}{pins:List (Addr×Obj)}{σ:St}{H:Hp}{s:Shared}{a:Addr}{xs ys:List V}
theorem Inv.list(I:Inv X pins σ H s)(h:om X.K H a xs):∃ its:List Value,Vals xs its/\PlainL s.heap a its.toArray/\xs.length<=sizeLine:=by
 rcases h with h | ⟨o,its,n,hk,hc,hd,hs,hz,r⟩
 ·obtain⟨z,its,n,r,e⟩:=h.ok I.hok
  exact⟨its,r,⟨_,n,e,rfl,rfl,rfl⟩,z⟩
 ·refine⟨its.toList,r,⟨o,n,I.kIn a o hk,hc,hd,by simpa using hs⟩,?_⟩
  have e:=r.length
  simp only [Array.length_toList] at e
  omega
theorem Inv.tuple(I:Inv X pins σ H s)(h:lI X.K H a xs):∃ its:List Value,Vals xs its/\IsTup s.heap a its.toArray/\xs.length<=sizeLine:=by
 rcases h with h | ⟨o,its,n,hk,hc,hdn,hs,hz,r⟩
 ·obtain⟨z,its,r,p⟩:=h.ok I.hok
  exact⟨its,r,p.up,z⟩
 ·refine⟨its.toList,r,⟨o,I.kIn a o hk,hc,n,by simpa using hs⟩,?_⟩
  have e:=r.length
  simp only [Array.length_toList] at e
  omega
theorem Inv.list_inj(I:Inv X pins σ H s)(h:om X.K H a xs)(h':om X.K H a ys):xs=ys:=by
 obtain⟨its,r,⟨o,n,e,_,_,d⟩,_⟩:=I.list h
 obtain⟨its',r',⟨o',n',e',_,_,d'⟩,_⟩:=I.list h'
 rw [e] at e';cases e'
 rw [d] at d'
 injection d' with d1 _
 have:its=its':=by simpa using congrArg Array.toList d1
 subst this
 exact r.inj r'
theorem Inv.tuple_inj(I:Inv X pins σ H s)(h:lI X.K H a xs)(h':lI X.K H a ys):xs=ys:=by
 obtain⟨its,r,⟨o,e,_,n,d⟩,_⟩:=I.tuple h
 obtain⟨its',r',⟨o',e',_,n',d'⟩,_⟩:=I.tuple h'
 rw [e] at e';cases e'
 rw [d] at d'
 injection d' with d1 _
 have:its=its':=by simpa using congrArg Array.toList d1
 subst this
 exact r.inj r'
end
noncomputable abbrev Cx.wish(X:Cx)(E:Value->Shared->Prop):Cx:={ X with xe:=E }
noncomputable abbrev Cx.nox(X:Cx):Cx:=X.wish fun _ _=>False
theorem Cx.Ok.wish{X:Cx}(ok:X.Ok)(E:Value->Shared->Prop):(X.wish E).Ok:=
 ⟨ok.mod,ok.kind,ok.glob,ok.blt,ok.above,ok.inj,ok.has,ok.cab,ok.hd,ok.frames,ok.stk,ok.exf,ok.bs,ok.bsz,ok.noex,ok.exfs,ok.funs,ok.frf⟩
theorem Cx.Ok.unwish{X:Cx}{E:Value->Shared->Prop}(ok:(X.wish E).Ok):X.Ok:=
 ⟨ok.mod,ok.kind,ok.glob,ok.blt,ok.above,ok.inj,ok.has,ok.cab,ok.hd,ok.frames,ok.stk,ok.exf,ok.bs,ok.bsz,ok.noex,ok.exfs,ok.funs,ok.frf⟩
section
variable{X:Cx}{pins:List (Addr×Obj)}{σ:St}{H:Hp}{s:Shared}{E:Value->Shared->Prop}
theorem Inv.wish(I:Inv X pins σ H s)(E:Value->Shared->Prop):Inv (X.wish E) pins σ H s:=⟨I.ok.wish E,I.os,I.bare,I.base,I.loc,I.cell,I.free,I.freeC,I.pin,I.hok,I.len⟩
theorem Inv.unwish(I:Inv (X.wish E) pins σ H s):Inv X pins σ H s:=⟨I.ok.unwish,I.os,I.bare,I.base,I.loc,I.cell,I.free,I.freeC,I.pin,I.hok,I.len⟩
theorem SP.unwish{D:vm}{f:Flow}{s':Shared}(h:SP (X.wish E) pins D f s'):SP X pins D f s':=by
 cases f with
 | next=>obtain⟨σ',H',I,q⟩:=h;exact⟨σ',H',I.unwish,q⟩
 | brk=>obtain⟨σ',H',I,q⟩:=h;exact⟨σ',H',I.unwish,q⟩
 | cont=>obtain⟨σ',H',I,q⟩:=h;exact⟨σ',H',I.unwish,q⟩
 | ret u=>obtain⟨v,σ',H',I,r,q⟩:=h;exact⟨v,σ',H',I.unwish,r,q⟩
theorem PSs.nox{st:List Stmt}{t:TS}(h:PSs X.nox st t):PSs X st t:=fun pins s σ H D I hw=>
 wpAny_mono (h pins s σ H D (I.wish _) hw) (fun _ _ q=>q.unwish) fun _ _ z=>False.elim z
end
section
variable{X:Cx}{st:Stmt}{rest:List Stmt}{t u:TS}{e:Expr}{te:TE}{pos:Pos}
def Iu:TS:=fun D σ H=>D.nx σ H
def tSeq(t u:TS):TS:=fun D σ H=>t { D with nx:=u D } σ H
theorem MR:PSs X [] Iu:=fun _ _ σ H _ I h=>wpAny_execs_nil ⟨σ,H,I,h⟩
theorem zF(h1:PS X st t)(h2:PSs X rest u):PSs X (st::rest) (tSeq t u):=by
 intro pins s σ H D I h
 refine wpAny_execs_cons (cZ (h1 pins s σ H { D with nx:=u D } I h) fun f s1 q=>?_)
 cases f with
 | next=>
  obtain⟨σ',H',I',q⟩:=q
  exact h2 pins s1 σ' H' D I' q
 | ret v=>exact q
 | brk=>exact q
 | cont=>exact q
theorem Em(h1:PS X st t):PSs X [st] t:=by
 intro pins s σ H D I h
 refine wpAny_execs_cons (cZ (h1 pins s σ H D I h) fun f s1 q=>?_)
 cases f with
 | next=>exact wpAny_execs_nil q
 | ret v=>exact q
 | brk=>exact q
 | cont=>exact q
def Qy:TS:=fun D σ H=>D.bk σ H
def tCont:TS:=fun D σ H=>D.ct σ H
theorem MV:PS X (.Pass pos) Iu:=fun _ _ σ H _ I h=>wpAny_Pass ⟨σ,H,I,h⟩
theorem Je:PS X (.Break pos) Qy:=fun _ _ σ H _ I h=>wpAny_Break ⟨σ,H,I,h⟩
theorem zH:PS X (.Continue pos) tCont:=fun _ _ σ H _ I h=>wpAny_Continue ⟨σ,H,I,h⟩
theorem Inv.quiet{pins:List (Addr×Obj)}{σ:St}{H:Hp}{s:Shared}(I:Inv X pins σ H s):interactive X.env=false:=by simp [interactive,I.ok.kind]
theorem QL{x j pos pos'}:PS X (.Expr (.Constant (.str x) j pos) pos') Iu:=fun _ s σ H _ I h=>wpAny_Expr (Calls.Constant_str (show SP X _ _ .next { s with toks:=s.toks+1 } from ⟨σ,H,I.tok _,h⟩)) I.quiet
def tDrop(te:TE):TS:=fun D σ H=>te σ H fun _ H1=>D.nx σ H1
theorem MW(he:PE X e te)(hs:swapsWith e none pos.line X.env=pure false:=by rfl):PS X (.Expr e pos) (tDrop te):=by
 intro pins s σ H D I h
 exact wpAny_Expr_any (cZ (he pins s σ H _ I h) fun v s1 ⟨x,H1,I1,r1,q1⟩=>⟨σ,H1,I1,q1⟩) I.quiet hs
def tRet(te:TE):TS:=fun D σ H=>te σ H D.rt
theorem Jc(he:PE X e te):PS X (.Return (some e) pos) (tRet te):=by
 intro pins s σ H D I h
 exact wpAny_Return_some (cZ (he pins s σ H _ I h) fun v s1 ⟨x,H1,I1,r1,q1⟩=>⟨x,σ,H1,I1,r1,q1⟩)
def tRetN:TS:=fun D _ H=>D.rt .non H
theorem MU:PS X (.Return none pos) tRetN:=fun _ _ σ H _ I h=>wpAny_Return_none ⟨.non,σ,H,I,rfl,h⟩
def tIfS(c:TT)(t u:TS):TS:=fun D σ H=>c σ H fun b H1=>if b=true then t D σ H1 else u D σ H1
theorem ps_if{c:Expr}{a b:List Stmt}{tc:TT}(hc:PT X c tc)(ha:PSs X a t)(hb:PSs X b u):PS X (.If c a b pos) (tIfS tc t u):=by
 intro pins s σ H D I h
 refine wpAny_If (cZ (hc pins s σ H _ I h) fun d s1 ⟨H1,I1,q1⟩=>?_)
 cases d with
 | true=>exact ha pins s1 σ H1 D I1 q1
 | false=>exact hb pins s1 σ H1 D I1 q1
end
abbrev TG:=V->St->Hp->(St->Hp->Prop)->Prop
abbrev Qh:=List V->St->Hp->(St->Hp->Prop)->Prop
def PG(X:Cx)(target:Expr)(t:TG):Prop:=
 ∀ (pins:List (Addr×Obj)) (s:Shared) (σ:St) (H:Hp) (v:V) (u:Value) (Q:St->Hp->Prop),Inv X pins σ H s->RelV v u->t v σ H Q ->
  wpAny (model X.prog X.w) X.A (assign target X.env u) (fun _ s'=>∃ σ' H',Inv X pins σ' H' s'/\Q σ' H') X.xe s
def PGs(X:Cx)(ts:List Expr)(t:Qh):Prop:=
 ∀ (pins:List (Addr×Obj)) (s:Shared) (σ:St) (H:Hp) (vs:List V) (us:List Value) (Q:St->Hp->Prop),Inv X pins σ H s->Vals vs us->t vs σ H Q ->
  wpAny (model X.prog X.w) X.A (assignInOrder ((assignEach ts X.env).map (·.2)) us) (fun _ s'=>∃ σ' H',Inv X pins σ' H' s'/\Q σ' H') X.xe s
abbrev TM:=V->V->V->Hp->(Hp->Prop)->Prop
def PSet(X:Cx)(t:TM):Prop:=
 ∀ (pins:List (Addr×Obj)) (s:Shared) (σ:St) (H:Hp) (o i v:V) (ov iv u:Value) (Q:Hp->Prop),Inv X pins σ H s->RelV o ov->RelV i iv->RelV v u->t o i v H Q ->
  wpAny (model X.prog X.w) X.A (setItem ov iv u) (fun _ s'=>∃ H',Inv X pins σ H' s'/\Q H') X.xe s
section
variable{X:Cx}{pos:Pos}
def EV(i:Nat):TG:=fun v σ H Q=>Q (σ.set i (some v)) H
theorem Nd{i:Nat}{x:Str}(hN:X.N.Nodup)(hi:X.N[i]?=some x)(hx:Mh X.env.scope x)(hf:X.fn x=true\/X.env.scope.names.lookup x=some .local:=by first | exact .inl rfl | exact .inr rfl | assumption):PG X (.Name x pos) (EV i):=by
 intro pins s σ H v u Q I r h
 exact wpAny_assign_Name (ow I hN hi hx r (fun s' I'=>⟨_,H,I',h⟩) hf)
noncomputable def gNil:Qh:=fun vs σ H Q=>vs=[]/\Q σ H
noncomputable def gCons(t:TG)(u:Qh):Qh:=fun vs σ H Q=>∃ v r,vs=v::r/\t v σ H fun σ' H'=>u r σ' H' Q
theorem Nc:PGs X [] gNil:=by
 intro pins s σ H vs us Q I r h
 obtain⟨e,h⟩:=h
 subst e
 cases r
 exact assignInOrder_nil ⟨σ,H,I,h⟩
theorem Jh{e:Expr}{es:List Expr}{t:TG}{u:Qh}(h1:PG X e t)(h2:PGs X es u)
  (hs:(assignEach (e::es) X.env).map (·.2)=assign e X.env::(assignEach es X.env).map (·.2):=by rfl):PGs X (e::es) (gCons t u):=by
 intro pins s σ H vs us Q I r h
 obtain⟨v,vr,e1,h⟩:=h
 subst e1
 cases r with
 | cons r rr=>
  rw [hs]
  refine assignInOrder_cons (cZ (h1 pins s σ H _ _ _ I r h) fun _ s1 ⟨σ1,H1,I1,q1⟩=>?_)
  exact h2 pins s1 σ1 H1 _ _ Q I1 rr q1
def gTup(K:PySem.W.Frag)(n:Nat)(t:Qh):TG:=fun v σ H Q=>∃ a xs,v=.ref a/\lI K H a xs/\xs.length=n/\t xs σ H Q
theorem QQ{es:List Expr}{k:Nat}{t:Qh}{n:Nat}(hc:X.calm=true)(h:PGs X es t)
  (hn:(assignEach es X.env).length=n:=by rfl) (hst:(assignEach es X.env).findIdx? (·.1)=none:=by rfl):PG X (.Tuple es k pos) (gTup X.K n t):=by
 intro pins s σ H v u Q I r hw
 obtain⟨a,xs,e1,hq,hl,hw⟩:=hw
 subst e1
 cases r
 obtain⟨its,rv,ht,hz⟩:=I.tuple hq
 refine assign_Tuple_tuple (I.ok.hd hc) ht (by simp [hn,<- hl,rv.length]) hst fun h' hx=>?_
 have I1:Inv X pins σ H { s with heap:=h' }:=I.kept (t':=s.toks) fun b o e=>hx b o (Nat.ne_of_lt (Heap.lt_size e)) e
 exact h pins _ σ H xs _ Q I1 (by simpa using rv) hw
def gSub(to ti:TE)(t:TM):TG:=fun v σ H Q=>to σ H fun o H1=>ti σ H1 fun i H2=>t o i v H2 fun H3=>Q σ H3
theorem QR{o i:Expr}{to ti:TE}{t:TM}(ho:PE X o to)(hi:PE X i ti)(hs:PSet X t)
  (ha:∀ v,assign (.Subscript o i pos) X.env v=(do
   let ov <- holding [v] (eval o X.env)
   let iv <- holding [v,ov] (eval i X.env)
   standAt pos
   holding [v,ov,iv] (setItem ov iv v)
   release [v,ov,iv] []):=by intro _;rfl):PG X (.Subscript o i pos) (gSub to ti t):=by
 intro pins s σ H v u Q I r h
 rw [ha]
 refine wpAny_bind (wpAny_holding (cZ (ho pins s σ H _ I h) fun ov s1 ⟨x,H1,I1,r1,q1⟩=>?_))
 refine wpAny_bind (wpAny_holding (cZ (hi pins s1 σ H1 _ I1 q1) fun iv s2 ⟨y,H2,I2,r2,q2⟩=>?_))
 refine wpAny_bind (wpAny_standAt (wpAny_bind (wpAny_holding (cZ (hs pins s2 σ H2 x y v ov iv u _ I2 r1 r2 r q2) fun _ s3 ⟨H3,I3,q3⟩=>?_))))
 exact wpAny_release ⟨σ,H3,I3,q3⟩
def Iy(te:TE)(g:TG):TS:=fun D σ H=>te σ H fun x H1=>g x σ H1 D.nx
theorem QM{tg e:Expr}{te:TE}{g:TG}(he:PE X e te)(hg:PG X tg g)(hs:swapsWithSole [tg] e pos.line X.env=pure false:=by rfl)(hw:swappedStores [tg] e X.env=pure none:=by rfl)
  (h1:(assignEach [tg] X.env).map (·.2)=[assign tg X.env]:=by rfl):PS X (.Assign [tg] e pos) (Iy te g):=by
 intro pins s σ H D I h
 refine wpAny_Assign_stores (cZ (he pins s σ H _ I h) fun v s1 ⟨x,H1,I1,r1,q1⟩=>?_) hs hw
 rw [h1]
 exact cZ (hg pins s1 σ H1 x v _ I1 r1 q1) fun _ s2 q=>q
theorem Jb{i:Nat}{x:Str}{e:Expr}{te:TE}{pos':Pos}(hN:X.N.Nodup)(hi:X.N[i]?=some x)(hx:Mh X.env.scope x)(he:PE X e te)(hs:swapsWith e (some (.Name x pos')) pos.line X.env=pure false:=by rfl)(hf:X.fn x=true\/X.env.scope.names.lookup x=some .local:=by first | exact .inl rfl | exact .inr rfl | assumption) :
  PS X (.Assign [.Name x pos'] e pos) (Iy te (EV i)):=by
 intro pins s σ H D I h
 refine wpAny_Assign_Name (cZ (he pins s σ H _ I h) fun v s1 ⟨y,H1,I1,r1,q1⟩=>?_) hs
 exact ow I1 hN hi hx r1 (fun s2 I2=>⟨_,H1,I2,q1⟩) hf
def tPar(i j:Nat)(ta:TA):TS:=fun D σ H=>ta σ H fun vs H1=>∃ v w,vs=[v,w]/\D.nx ((σ.set i (some v)).set j (some w)) H1
theorem QK{i j:Nat}{x y:Str}{a b:Expr}{ta:TA}{px py pt:Pos}{kt k2 pt2}(hc:X.calm=true)(hN:X.N.Nodup)(hi:X.N[i]?=some x)(hj:X.N[j]?=some y)(hij:i≠j)
  (hx:X.env.scope.names.lookup x=some .local) (hy:X.env.scope.names.lookup y=some .local) (ha:PA X [a,b] ta)
  (hw:swappedStores [.Tuple [.Name x px,.Name y py] kt pt] (.Tuple [a,b] k2 pt2) X.env=pure (some [x,y]))
  (hs:swapsWithSole [.Tuple [.Name x px,.Name y py] kt pt] (.Tuple [a,b] k2 pt2) pos.line X.env=pure false:=by rfl) :
  PS X (.Assign [.Tuple [.Name x px,.Name y py] kt pt] (.Tuple [a,b] k2 pt2) pos) (tPar i j ta):=by
 intro pins s σ H D I h
 rw [exec_Assign_arm]
 refine wpAny_bind (wpAny_standAt ?_)
 rw [hs]
 refine wpAny_bind (wpAny_pure ?_)
 rw [if_neg (by decide)]
 refine wpAny_bind (Tuple_ (cZ (ha _ pins s σ H _ I h) fun us s1 ⟨vs,H1,I1,r1,q1⟩=>?_))
 obtain⟨v,w,e1,q1⟩:=q1
 subst e1
 obtain⟨u1,u2,rfl,rv,rw'⟩:∃ u1 u2,us=[u1,u2]/\RelV v u1/\RelV w u2:=by
  cases r1 with
  | cons p q=>
   cases q with
   | cons p' q'=>
    cases q'
    exact⟨_,_,rfl,p,p'⟩
 refine wpAny_newObj_type ?_ (by show 2<=sizeLine;decide)
 have I2:Inv X pins σ H1 { s1 with heap:=s1.heap.push { cls:=.type "tuple",data:=.seq [u1,u2].toArray } }:=I1.kept (t':=s1.toks) fun b o e=>Heap.get?_push_of_some _ e
 rw [hw]
 refine wpAny_bind (wpAny_pure ?_)
 show wpAny (model X.prog X.w) X.A (do rule "assign.swapped-stores";let items <- unpackItems (.ref s1.heap.objs.size) 2 none;assignInOrder [fun v=>bindName X.env y v,fun v=>bindName X.env x v] items.reverse;pure Flow.next) _ _ _
 refine wpAny_bind (wpAny_rule (wpAny_bind (unpackItems_tuple (items:=#[u1,u2]) (I.ok.hd hc) (IsTup.new s1.heap _) fun h' hx'=>?_)))
 have I3:=I2.kept (h':=h') (t':=s1.toks) fun b o e=>hx' b o (Nat.ne_of_lt (Heap.lt_size e)) e
 show wpAny _ _ (assignInOrder [fun v=>bindName X.env y v,fun v=>bindName X.env x v] [u2,u1] >>= fun _=>pure Flow.next) _ _ _
 refine wpAny_bind (assignInOrder_cons (wpAny_bindName (ow I3 hN hj (.inl hy) rw' (fun s2 I4=>?_) (.inr hy))))
 refine assignInOrder_cons (wpAny_bindName (ow I4 hN hi (.inl hx) rv (fun s3 I5=>assignInOrder_nil (wpAny_pure ?_)) (.inr hx)))
 rw [List.set_comm _ _ (Ne.symm hij)] at I5
 exact⟨_,H1,I5,q1⟩
end
section
variable{X:Cx}{pos:Pos}
def Qv(c:TT)(tb:TS):TS:=fun D σ H=>∃ W:Nat->St->Hp->Prop,(∃ m,W m σ H)/\∀ m σ H,W m σ H ->
 c σ H fun b H1=>if b=true then ∃ N:St->Hp->Prop,(∀ σ' H',N σ' H'->∃ m',m'<m/\W m' σ' H')/\tb { D with nx:=N,ct:=N,bk:=D.nx } σ H1 else D.nx σ H1
theorem Ja{c:Expr}{body:List Stmt}{tc:TT}{tb:TS}(hp:PassesOwn (model X.prog X.w) X.A X.env X.xe)(hc:PT X c tc)(hb:PSs X body tb):PS X (.While c body [] pos) (Qv tc tb):=by
 intro pins s σ H D I h
 obtain⟨W,⟨m0,w0⟩,turn⟩:=h
 refine wpAny_While (codeAny_whileLoop (fun n s'=>∃ σ' H',Inv X pins σ' H' s'/\W n σ' H') ?_ m0 ⟨σ,H,I,w0⟩)
 rintro n s1 ⟨σ1,H1,I1,w1⟩
 refine wpAny_passesOwn hp (cZ (hc pins s1 σ1 H1 _ I1 (turn n σ1 H1 w1)) fun b s2 ⟨H2,I2,q2⟩=>?_)
 cases b with
 | true=>
  obtain⟨N,hN,q2⟩:=q2
  rw [if_pos rfl]
  refine wpAny_passesOwn hp (cZ (hb pins s2 σ1 H2 _ I2 q2) fun f s3 q3=>?_)
  cases f with
  | next=>
   obtain⟨σ3,H3,I3,n3⟩:=q3
   obtain⟨m',hm,w3⟩:=hN σ3 H3 n3
   exact⟨m',hm,σ3,H3,I3,w3⟩
  | cont=>
   obtain⟨σ3,H3,I3,n3⟩:=q3
   obtain⟨m',hm,w3⟩:=hN σ3 H3 n3
   exact⟨m',hm,σ3,H3,I3,w3⟩
  | brk=>exact q3
  | ret v=>exact q3
 | false=>
  rw [if_neg Bool.false_ne_true]
  exact wpAny_execs_nil ⟨σ1,H2,I2,q2⟩
end
structure It where
 go:Nat->Hp->Prop
 yld:Nat->Hp->V->Hp->Prop
 stop:Nat->Hp->Prop
def qk(X:Cx)(pins:List (Addr×Obj))(H:Hp)(b:Addr):Prop:=
 H b=none/\b≠X.env.locals/\b ∉ X.fs/\(b∈X.ex\/X.s₀.heap.objs.size<=b)/\(∀ x c,X.env.cells.lookup x=some c->c≠b)/\∀ p∈X.pn++pins,p.1≠b
theorem Inv.fpOk{X:Cx}{pins:List (Addr×Obj)}{σ:St}{H H':Hp}{s:Shared}{b:Addr}(I:Inv X pins σ H s)(hb:s.heap.objs.size<=b)(hn:H' b=none):qk X pins H' b:=by
 refine⟨hn,Nat.ne_of_gt (Nat.lt_of_lt_of_le I.lt hb),I.nofs hb,.inr (Nat.le_trans I.sz hb),fun x c e z=>?_,fun p hp z=>?_⟩
 ·obtain⟨v,q⟩:=I.cell x c e
  exact absurd (Nat.lt_of_lt_of_le q.lt (by rw [z];exact hb)) (Nat.lt_irrefl _)
 ·exact absurd (Nat.lt_of_lt_of_le (Heap.lt_size (I.pin p hp).1) (by rw [z];exact hb)) (Nat.lt_irrefl _)
structure DX(P:Program)(w:World)(K:PySem.W.Frag)(tg:Expr)(J:It)(fp:List Addr)(it:Addr)(tn:Nat->Heap->Prop):Prop where
 mem:it∈fp
 obj:∀ i h,tn i h->∀ b∈fp,∃ o,h.get? b=some o/\∀ v,o.data≠.cell v
 keep:∀ i h h',tn i h->(∀ b∈fp,∀ o,h.get? b=some o->h'.get? b=some o)->tn i h'
 item:∀ (X:Cx),X.prog=P->X.w=w->X.K=K->X.calm=true->∀ (i:Nat) (pins:List (Addr×Obj)) (s:Shared) (σ:St) (H:Hp) (E:Value->Shared->Prop),Inv X pins σ H s->(∀ b∈fp,qk X pins H b)->tn i s.heap->J.go i H ->
  wpAny (model P w) X.A (pyNext (.ref it)) (fun r s1=>∃ u,r=some u /\
   wpAny (model P w) X.A (letOwnedTupleGo tg (.ref it) u) (fun _ s2=>∃ x H',Inv X pins σ H' s2/\RelV x u/\J.yld i H x H'/\tn (i+1) s2.heap/\∀ b∈fp,H' b=none) E s1) E s
 done:∀ (X:Cx),X.prog=P->X.w=w->X.K=K->X.calm=true->∀ (i:Nat) (pins:List (Addr×Obj)) (s:Shared) (σ:St) (H:Hp) (E:Value->Shared->Prop),Inv X pins σ H s->(∀ b∈fp,qk X pins H b)->tn i s.heap->J.stop i H ->
  wpAny (model P w) X.A (pyNext (.ref it)) (fun r s1=>r=none/\Inv X pins σ H s1) E s
 self:∀ (A:Around) (i:Nat) (s:Shared) (Q:Value->Shared->Prop) (E:Value->Shared->Prop),tn i s.heap->Q (.ref it) s->wpAny (model P w) A (pyIter (.ref it)) Q E s
abbrev TI:=St->Hp->(It->Hp->Prop)->Prop
def PIE(X:Cx)(pins:List (Addr×Obj))(σ:St)(tg:Expr)(R:It->Hp->Prop)(itv:Value)(s2:Shared):Prop:=
 ∃ (it:Addr) (fp:List Addr) (tn:Nat->Heap->Prop) (J:It) (H':Hp),itv=.ref it/\Inv X pins σ H' s2/\DX X.prog X.w X.K tg J fp it tn/\tn 0 s2.heap/\(∀ b∈fp,qk X pins H' b)/\R J H'
def PI(X:Cx)(tg iter:Expr)(wi:TI):Prop:=
 ∀ (pins:List (Addr×Obj)) (s:Shared) (σ:St) (H:Hp) (R:It->Hp->Prop),Inv X pins σ H s->wi σ H R ->
  wpAny (model X.prog X.w) X.A (eval iter X.env) (fun v s1=>wpAny (model X.prog X.w) X.A (pyIter v) (PIE X pins σ tg R) X.xe s1) X.xe s
theorem Kr{M:Model}{A:Around}{E:Value->Shared->Prop}{s:Shared}{tg:Expr}{it:Addr}{u:Value}{o:Obj}{n:String}{vs:Array Value}{Q:Unit->Shared->Prop}(ho:s.heap.get? it=some o)(hc:o.cls=.type n)(hd:o.data=.fields vs)
  (hn:["enumerate","zip","dict_itemiterator","dict_reverseitemiterator","odict_iterator","itertools.zip_longest","itertools.pairwise"].contains n=false) (hQ:Q () s):wpAny M A (letOwnedTupleGo tg (.ref it) u) Q E s:=by
 unfold letOwnedTupleGo
 cases tg <;> first
  | exact wpAny_pure hQ
  | (cases u <;> first
    | exact wpAny_pure hQ
    | (refine wpAny_bind (wpAny_load ho ?_); rw [hc,hd]; show wpAny M A (if (["enumerate","zip","dict_itemiterator","dict_reverseitemiterator","odict_iterator","itertools.zip_longest","itertools.pairwise"].contains n&&vs[0]? == some (rawInt _))=true then _ else _) Q E s; rw [if_neg (by intro h;rw [hn,Bool.false_and] at h;cases h)]; exact wpAny_pure hQ))
noncomputable def Itl(K:PySem.W.Frag)(a:Addr):It:=
 ⟨fun i H=>∃ xs x,om K H a xs/\xs[i]?=some x,fun i H x H'=>H'=H/\∀ xs,om K H a xs->xs[i]?=some x,fun i H=>∃ xs,om K H a xs/\xs.length<=i⟩
noncomputable def Itt(K:PySem.W.Frag)(a:Addr):It:=
 ⟨fun i H=>∃ xs x,lI K H a xs/\xs[i]?=some x,fun i H x H'=>H'=H/\∀ xs,lI K H a xs->xs[i]?=some x,fun i H=>∃ xs,lI K H a xs/\xs.length<=i⟩
noncomputable def Itr(lo:Int)(n:Nat):It:=⟨fun i _=>i<n,fun i H x H'=>H'=H/\x=.int (lo+i),fun i _=>n<=i⟩
theorem vv{P:Program}{w:World}{K:PySem.W.Frag}{tg:Expr}(a it:Addr):DX P w K tg (Itl K a) [it] it (fun i h=>h.IsListIter it a i) where
 mem:=by simp
 obj:=fun i h st b hb=>by
  have e:b=it:=by simpa using hb
  subst e
  obtain⟨o,e,c,d⟩:=st
  exact⟨o,e,fun v z=>by rw [d] at z;cases z⟩
 keep:=fun i h h' st k=>st.at fun o e=>k it (by simp) o e
 item:=by
  intro X hP hw hK hc i pins s σ H E I hf st hg
  subst hP hw hK
  obtain⟨xs,x,hq,hx⟩:=hg
  obtain⟨its,rv,p,hz⟩:=I.list hq
  obtain⟨u,hu,ru⟩:=rv.get hx
  obtain⟨f0,f1,f2,f3,f4,f5⟩:=hf it (by simp)
  refine wpAny_pyNext_list_item st p.isList (x:=u) (by simpa using hu) fun h' st' sb=>?_
  have I1:Inv X pins σ H { s with heap:=h' }:=I.turned (t':=s.toks) (fun b o hb e=>(sb.2 b hb).trans e) f0 f1 f3 f4 f5
  obtain⟨o,e,c,d⟩:=id st'
  exact⟨u,rfl,Kr (s:={ s with heap:=h' }) e c d (by decide) ⟨x,H,I1,ru,⟨rfl,fun ys hy=>by rw [I.list_inj hy hq];exact hx⟩,st',fun b hb=>(hf b hb).1⟩⟩
 done:=by
  intro X hP hw hK hc i pins s σ H E I hf st hg
  subst hP hw hK
  obtain⟨xs,hq,hx⟩:=hg
  obtain⟨its,rv,p,hz⟩:=I.list hq
  obtain⟨f0,f1,f2,f3,f4,f5⟩:=hf it (by simp)
  have hl:=rv.length
  exact wpAny_pyNext_list_end (I.ok.hd hc) st p.isList (by simp;omega) fun h' eb=>⟨rfl,I.turned (t':=s.toks) (fun b o hb e=>eb b o hb e) f0 f1 f3 f4 f5⟩
 self:=fun _ _ _ _ _ st h=>wpAny_pyIter_listiter st h
theorem BF{P:Program}{w:World}{K:PySem.W.Frag}{tg:Expr}(a it:Addr):DX P w K tg (Itt K a) [it] it (fun i h=>h.IsTupleIter it a i) where
 mem:=by simp
 obj:=fun i h st b hb=>by
  have e:b=it:=by simpa using hb
  subst e
  obtain⟨o,e,c,d⟩:=st
  exact⟨o,e,fun v z=>by rw [d] at z;cases z⟩
 keep:=fun i h h' st k=>st.at fun o e=>k it (by simp) o e
 item:=by
  intro X hP hw hK hc i pins s σ H E I hf st hg
  subst hP hw hK
  obtain⟨xs,x,hq,hx⟩:=hg
  obtain⟨its,rv,p,hz⟩:=I.tuple hq
  obtain⟨u,hu,ru⟩:=rv.get hx
  obtain⟨f0,f1,f2,f3,f4,f5⟩:=hf it (by simp)
  refine wpAny_pyNext_tuple_item st (show s.heap.IsTuple a its.toArray from p) (x:=u) (by simpa using hu) fun h' st' sb=>?_
  have I1:Inv X pins σ H { s with heap:=h' }:=I.turned (t':=s.toks) (fun b o hb e=>(sb.2 b hb).trans e) f0 f1 f3 f4 f5
  obtain⟨o,e,c,d⟩:=id st'
  exact⟨u,rfl,Kr (s:={ s with heap:=h' }) e c d (by decide) ⟨x,H,I1,ru,⟨rfl,fun ys hy=>by rw [I.tuple_inj hy hq];exact hx⟩,st',fun b hb=>(hf b hb).1⟩⟩
 done:=by
  intro X hP hw hK hc i pins s σ H E I hf st hg
  subst hP hw hK
  obtain⟨xs,hq,hx⟩:=hg
  obtain⟨its,rv,p,hz⟩:=I.tuple hq
  obtain⟨f0,f1,f2,f3,f4,f5⟩:=hf it (by simp)
  have hl:=rv.length
  exact wpAny_pyNext_tuple_end (I.ok.hd hc) st (show s.heap.IsTuple a its.toArray from p) (by simp;omega) fun h' eb=>⟨rfl,I.turned (t':=s.toks) (fun b o hb e=>eb b o hb e) f0 f1 f3 f4 f5⟩
 self:=fun _ _ _ _ _ st h=>wpAny_pyIter_tupleiter st h
theorem BG{P:Program}{w:World}{K:PySem.W.Frag}{tg:Expr}(it:Addr)(lo:Int)(n:Nat):DX P w K tg (Itr lo n) [it] it (fun i h=>IsRangeIter h it (lo+(i:Nat) * 1) ((n:Int) - (i:Nat)) 1) where
 mem:=by simp
 obj:=fun i h st b hb=>by
  have e:b=it:=by simpa using hb
  subst e
  exact⟨_,st,fun v z=>by
   have z':Data.fields _=Data.cell v:=z
   cases z'⟩
 keep:=fun i h h' st k=>k it (by simp) _ st
 item:=by
  intro X hP hw hK hc i pins s σ H E I hf st hg
  subst hP hw hK
  obtain⟨f0,f1,f2,f3,f4,f5⟩:=hf it (by simp)
  have W:=Walks.range (prog:=X.prog) (w:=X.w) (I.ok.hd hc) it lo 1 n
  refine W.item i s _ _ hg st fun v h' tk hv st' kk=>?_
  obtain⟨t,rfl⟩:=hv
  have I1:Inv X pins σ H { s with heap:=h',toks:=tk }:=I.turned (fun b o hb e=>kk b o (by simpa using hb) e) f0 f1 f3 f4 f5
  refine⟨_,rfl,Kr (s:={ s with heap:=h',toks:=tk }) (n:="range_iterator") st' rfl rfl (by decide) ⟨.int (lo+i),H,I1,⟨t,?_⟩,⟨rfl,rfl⟩,st',fun b hb=>(hf b hb).1⟩⟩
  rw [Int.mul_one]
 done:=by
  intro X hP hw hK hc i pins s σ H E I hf st hg
  subst hP hw hK
  obtain⟨f0,f1,f2,f3,f4,f5⟩:=hf it (by simp)
  exact wpAny_pyNext_range_end (I.ok.hd hc) st (by have:n<=i:=hg;omega) fun h' eb=>⟨rfl,I.turned (t':=s.toks) (fun b o hb e=>eb b o hb e) f0 f1 f3 f4 f5⟩
 self:=fun _ _ _ _ _ st h=>wpAny_pyIter_rangeiter st h
end L2
namespace L2
open PySem PySem.Spec PyProof.Rows
section
variable{X:Cx}{tg:Expr}
def iList(K:PySem.W.Frag)(tl:TE):TI:=fun σ H R=>tl σ H fun x H1=>∃ a,x=.ref a/\(∃ xs,om K H1 a xs)/\R (Itl K a) H1
theorem Na{l:Expr}{tl:TE}(hl:PE X l tl):PI X tg l (iList X.K tl):=by
 intro pins s σ H R I h
 refine cZ (hl pins s σ H _ I h) fun v s1 ⟨x,H1,I1,r1,q1⟩=>?_
 obtain⟨a,e,⟨xs,hq⟩,q⟩:=q1
 subst e
 cases r1
 obtain⟨its,rv,p,hz⟩:=I1.list hq
 refine wpAny_pyIter_list p.isList ?_
 refine⟨s1.heap.objs.size,[s1.heap.objs.size],_,_,H1,rfl,I1.kept (t':=s1.toks) fun b o e=>Heap.get?_push_of_some _ e,vv a _,⟨_,Heap.get?_push_size _ rfl,rfl,rfl⟩,fun b hb=>?_,q⟩
 have e:b=s1.heap.objs.size:=by simpa using hb
 subst e
 exact I1.fpOk (Nat.le_refl _) (I1.hok.fresh (Nat.le_refl _))
theorem zD{pins:List (Addr×Obj)}{σ:St}{H:Hp}{s:Shared}{R:It->Hp->Prop}{E:Value->Shared->Prop}{lo hi:Int}{t u v:Tok}{tk:Nat}(I:Inv X pins σ H s)(h1:-(2 ^ 62)<=lo)(h2:lo<2 ^ 62)(h3:-(2 ^ 62)<=hi)(h4:hi<2 ^ 62)
  (q:R (Itr lo (hi - lo).toNat) H):wpAny (model X.prog X.w) X.A (pyIter (.ref s.heap.objs.size)) (PIE X pins σ tg R) E { s with heap:=s.heap.push { cls:=.type "range",data:=.fields #[.int lo t,.int hi u,.int 1 v] },toks:=tk }:=by
 refine wpAny_pyIter_range (IsRange.new ..) (small_one h1 h2 h3 h4) ?_
 have I1:Inv X pins σ H { s with heap:=s.heap.push { cls:=.type "range",data:=.fields #[.int lo t,.int hi u,.int 1 v] },toks:=tk }:=I.kept fun b o e=>Heap.get?_push_of_some _ e
 refine⟨(s.heap.push { cls:=.type "range",data:=.fields #[.int lo t,.int hi u,.int 1 v] }).objs.size,[(s.heap.push { cls:=.type "range",data:=.fields #[.int lo t,.int hi u,.int 1 v] }).objs.size],_,_,H,rfl,
  I1.kept (t':=tk) fun b o e=>Heap.get?_push_of_some _ e,BG _ lo (hi - lo).toNat,?_,fun b hb=>?_,q⟩
 ·have e1:lo+((0:Nat):Int) * 1=lo:=by simp
  have e2:(((hi - lo).toNat:Nat):Int) - ((0:Nat):Int)=Builtin.Range.rangeSize lo hi 1:=by rw [rangeSize_one];split <;> omega
  show IsRangeIter _ _ (lo+((0:Nat):Int) * 1) ((((hi - lo).toNat:Nat):Int) - ((0:Nat):Int)) 1
  rw [e1,e2]
  exact Heap.get?_push_size _ rfl
 ·have e:b=(s.heap.push { cls:=.type "range",data:=.fields #[.int lo t,.int hi u,.int 1 v] }).objs.size:=by simpa using hb
  subst e
  exact I1.fpOk (Nat.le_refl _) (I1.hok.fresh (Nat.le_refl _))
def iRng1(ta:TA):TI:=fun σ H R=>ta σ H fun vs H1=>∃ j:Int,vs=[.int j]/\-(2 ^ 62)<=j/\j<2 ^ 62/\R (Itr 0 j.toNat) H1
def iRng2(ta:TA):TI:=fun σ H R=>ta σ H fun vs H1=>∃ i j:Int,vs=[.int i,.int j]/\(-(2 ^ 62)<=i/\i<2 ^ 62/\-(2 ^ 62)<=j/\j<2 ^ 62)/\R (Itr i (j - i).toNat) H1
theorem FW{a:Expr}{ta:TA}{p pos:Pos}(hg:Gl X "range")(hm:X.mg "range" = none)(ha:PA X [a] ta)(hs:starEach [a] X.env=[(false,eval a X.env)]:=by rfl):PI X tg (.Call (.Name "range" p) [a] [] pos) (iRng1 ta):=by
 intro pins s σ H R I h
 refine Call_ (lj I hg hm boot_range (PyProof.Rows.callWith_type1 (cZ (ha pos pins s σ H _ I h) fun us s1 ⟨vs,H1,I1,r1,q1⟩=>?_) hs rfl))
 obtain⟨j,e,q1,q2,q⟩:=q1
 subst e
 cases r1 with
 | cons r rr=>
  cases rr
  obtain⟨t,rfl⟩:=r
  exact call_range_1 (zD I1 (by omega) (by omega) q1 q2 (by simpa using q))
theorem FV{a b:Expr}{ta:TA}{p pos:Pos}(hg:Gl X "range")(hm:X.mg "range" = none)(ha:PA X [a,b] ta)(hs:starEach [a,b] X.env=[(false,eval a X.env),(false,eval b X.env)]:=by rfl)(hs2:starEach [b] X.env=[(false,eval b X.env)]:=by rfl) :
  PI X tg (.Call (.Name "range" p) [a,b] [] pos) (iRng2 ta):=by
 intro pins s σ H R I h
 refine Call_ (lj I hg hm boot_range (PyProof.Rows.callWith_type1 (cZ (ha pos pins s σ H _ I h) fun us s1 ⟨vs,H1,I1,r1,q1⟩=>?_) (by rw [hs,hs2]) (by rw [hs2];rfl)))
 obtain⟨i,j,e,⟨q1,q2,q3,q4⟩,q⟩:=q1
 subst e
 cases r1 with
 | cons r rr=>
  cases rr with
  | cons r' rr=>
   cases rr
   obtain⟨t,rfl⟩:=r
   obtain⟨t',rfl⟩:=r'
   exact call_range_2 (zD I1 q1 q2 q3 q4 q)
def tFor(wi:TI)(g:TG)(tb:TS):TS:=fun D σ H=>wi σ H fun J H1=>∃ W:Nat->Nat->St->Hp->Prop,(∃ m,W 0 m σ H1)/\∀ i m σ H,W i m σ H ->
 (J.stop i H/\D.nx σ H)\/(J.go i H/\∃ N:St->Hp->Prop,(∀ σ' H',N σ' H'->∃ m',m'<m/\W (i+1) m' σ' H')/\∀ x H',J.yld i H x H'->g x σ H' fun σ2 H2=>tb { D with nx:=N,ct:=N,bk:=D.nx } σ2 H2)
noncomputable def sx(fp:List Addr)(h:Heap):List (Addr×Obj):=fp.filterMap fun b=>(h.get? b).map fun o=>(b,o)
theorem lh{fp:List Addr}{h:Heap}{b:Addr}{o:Obj}(hb:b∈fp)(e:h.get? b=some o):(b,o)∈sx fp h:=List.mem_filterMap.mpr ⟨b,hb,by rw [e];rfl⟩
theorem Gd{fp:List Addr}{h:Heap}{p:Addr×Obj}(hp:p∈sx fp h):p.1∈fp/\h.get? p.1=some p.2:=by
 obtain⟨b,hb,e⟩:=List.mem_filterMap.mp hp
 cases q:h.get? b with
 | none=>rw [q] at e;cases e
 | some o=>
  rw [q] at e
  have e':(b,o)=p:=Option.some.inj e
  subst e'
  exact⟨hb,q⟩
theorem Inv.pinned{pins:List (Addr×Obj)}{σ:St}{H:Hp}{s:Shared}{fp:List Addr}(I:Inv X pins σ H s)(hf:∀ b∈fp,qk X pins H b)(ho:∀ b∈fp,∃ o,s.heap.get? b=some o/\∀ v,o.data≠.cell v):Inv X (pins++sx fp s.heap) σ H s:=
 I.pins_of fun p hp=>(List.mem_append.mp hp).elim (fun z=>I.pin p (List.mem_append_right _ z)) fun z=>by
  obtain⟨hb,e⟩:=Gd z
  obtain⟨f0,f1,f2,_⟩:=hf p.1 hb
  obtain⟨o,e',d⟩:=ho p.1 hb
  rw [e] at e';cases e'
  exact⟨e,f0,f1,f2,d⟩
theorem Inv.unpinned{pins pl:List (Addr×Obj)}{σ:St}{H:Hp}{s:Shared}(I:Inv X (pins++pl) σ H s):Inv X pins σ H s:=I.pins_of fun p hp=>I.pin p (List.mem_append_right _ (List.mem_append_left _ hp))
theorem Jd{iter:Expr}{body:List Stmt}{wi:TI}{g:TG}{tb:TS}{pos:Pos}(hp:PassesOwn (model X.prog X.w) X.A X.env X.xe)(hc:X.calm=true)(hi:PI X tg iter wi)(hg:PG X tg g)(hb:PSs X body tb)
  (hs:∀ x,foldedSetIterable iter X.env x=pure x:=by intro _;rfl):PS X (.For tg iter body [] pos) (tFor wi g tb):=by
 intro pins s σ H D I h
 refine wpAny_For (cZ (hi pins s σ H _ I h) fun v s1 h1=>cZ h1 fun itv s2 h2=>?_) hs
 obtain⟨it,fp,tn,J,H2,e,I2,T,st2,f2,W,⟨m0,w0⟩,turn⟩:=h2
 subst e
 have stat:∀ {H':Hp},(∀ b∈fp,H' b=none)->∀ b∈fp,qk X pins H' b:=fun hn b hb=>⟨hn b hb,(f2 b hb).2⟩
 refine codeAny_forLoop_any (fun n s'=>∃ i σ' H',Inv X pins σ' H' s'/\tn i s'.heap/\(∀ b∈fp,H' b=none)/\W i n σ' H') ?_ m0 ⟨0,σ,H2,I2,st2,fun b hb=>(f2 b hb).1,w0⟩
 rintro n s3 ⟨i,σ3,H3,I3,st3,fr3,w3⟩
 rcases turn i n σ3 H3 w3 with ⟨stop,qn⟩ | ⟨go,N,hN,step⟩
 ·refine wpAny_passesOwn hp (cZ (T.done X rfl rfl rfl hc i pins s3 σ3 H3 X.xe I3 (stat fr3) st3 stop) fun r s4 ⟨hr,I4⟩=>?_)
  subst hr
  exact wpAny_execs_nil ⟨σ3,H3,I4,qn⟩
 ·refine wpAny_passesOwn hp (cZ (T.item X rfl rfl rfl hc i pins s3 σ3 H3 X.xe I3 (stat fr3) st3 go) fun r s4 ⟨u,hr,h4⟩=>?_)
  subst hr
  refine wpAny_passesOwn hp (cZ h4 fun _ s5 ⟨x,H5,I5,r5,y5,st5,fr5⟩=>?_)
  have I5':=I5.pinned (stat fr5) (T.obj _ _ st5)
  refine wpAny_passesOwn hp (cZ (hg _ s5 σ3 H5 x u _ I5' r5 (step x H5 y5)) fun _ s6 ⟨σ6,H6,I6,q6⟩=>?_)
  refine wpAny_passesOwn hp (cZ (hb _ s6 σ6 H6 _ I6 q6) fun f s7 q7=>?_)
  have again:∀ {σ7:St} {H7:Hp},Inv X (pins++sx fp s5.heap) σ7 H7 s7->N σ7 H7->∃ m,m<n/\∃ i σ' H',Inv X pins σ' H' s7/\tn i s7.heap/\(∀ b∈fp,H' b=none)/\W i m σ' H':=fun {σ7 H7} I7 n7=>by
   obtain⟨m',hm,w7⟩:=hN σ7 H7 n7
   refine⟨m',hm,i+1,σ7,H7,I7.unpinned,T.keep _ _ _ st5 fun b hb o e=>(I7.pin (b,o) (List.mem_append_right _ (List.mem_append_right _ (lh hb e)))).1,fun b hb=>?_,w7⟩
   obtain⟨o,e,d⟩:=T.obj _ _ st5 b hb
   exact(I7.pin (b,o) (List.mem_append_right _ (List.mem_append_right _ (lh hb e)))).2.1
  cases f with
  | next=>obtain⟨σ7,H7,I7,n7⟩:=q7;exact again I7 n7
  | cont=>obtain⟨σ7,H7,I7,n7⟩:=q7;exact again I7 n7
  | brk=>obtain⟨σ7,H7,I7,q7⟩:=q7;exact⟨σ7,H7,I7.unpinned,q7⟩
  | ret v=>obtain⟨x7,σ7,H7,I7,r7,q7⟩:=q7;exact⟨x7,σ7,H7,I7.unpinned,r7,q7⟩
end
end L2
namespace L2
open PySem PySem.Spec PyProof.Rows
abbrev R2:=V->V->Hp->VK->Prop
def OpR(X:Cx)(f:Value->Value->Sem Value)(r:R2):Prop:=
 ∀ (pins:List (Addr×Obj)) (s:Shared) (σ:St) (H:Hp) (x y:V) (v u:Value) (Q:VK),Inv X pins σ H s->RelV x v->RelV y u->r x y H Q ->
  wpAny (model X.prog X.w) X.A (f v u) (EP X pins σ Q) X.xe s
def UnR(X:Cx)(f:Value->Sem Value)(r:V->Hp->VK->Prop):Prop:=
 ∀ (pins:List (Addr×Obj)) (s:Shared) (σ:St) (H:Hp) (x:V) (v:Value) (Q:VK),Inv X pins σ H s->RelV x v->r x H Q ->
  wpAny (model X.prog X.w) X.A (f v) (EP X pins σ Q) X.xe s
def CallR(X:Cx)(f:Value)(r:List V->Hp->VK->Prop):Prop:=
 ∀ (pins:List (Addr×Obj)) (s:Shared) (σ:St) (H:Hp) (xs:List V) (us:List Value) (Q:VK),Inv X pins σ H s->Vals xs us->r xs H Q ->
  wpAny (model X.prog X.w) X.A (call f us) (EP X pins σ Q) X.xe s
def TruR(X:Cx)(r:V->Hp->(Bool->Hp->Prop)->Prop):Prop:=
 ∀ (pins:List (Addr×Obj)) (s:Shared) (σ:St) (H:Hp) (x:V) (v:Value) (Q:Bool->Hp->Prop),Inv X pins σ H s->RelV x v->r x H Q ->
  wpAny (model X.prog X.w) X.A (truthy v) (TP X pins σ Q) X.xe s
def tOp(r:R2)(ta tb:TE):TE:=fun σ H Q=>ta σ H fun x H1=>tb σ H1 fun y H2=>r x y H2 Q
def tUn(r:V->Hp->VK->Prop)(ta:TE):TE:=fun σ H Q=>ta σ H fun x H1=>r x H1 Q
noncomputable def rI(C:Int->Int->Prop)(g:Int->Int->V):R2:=fun x y H Q=>∃ i j,x=.int i/\y=.int j/\C i j/\Q (g i j) H
noncomputable def MD(g:Int->Int->V):R2:=fun x y H Q=>∃ i j,x=.int i/\y=.int j/\Q (g i j) H
def rU(g:Int->V):V->Hp->VK->Prop:=fun x H Q=>∃ i,x=.int i/\Q (g i) H
section
variable{X:Cx}{a b c:Expr}{ta tb tc:TE}{pos:Pos}
theorem Tx(ha:PE X a ta)(hb:PE X b tb){pins:List (Addr×Obj)}{s:Shared}{σ:St}{H:Hp}{R:V->V->Hp->Prop}(I:Inv X pins σ H s)
  (h:ta σ H fun x H1=>tb σ H1 fun y H2=>R x y H2) {Q:Value->Shared->Prop} {f:Value->Value->Sem Value}
  (hf:∀ v u s2 x y H2,Inv X pins σ H2 s2->RelV x v->RelV y u->R x y H2->wpAny (model X.prog X.w) X.A (f v u) Q X.xe s2) :
  wpAny (model X.prog X.w) X.A (eval a X.env) (fun v s₁=>wpAny (model X.prog X.w) X.A (eval b X.env) (fun u s₂=>wpAny (model X.prog X.w) X.A (f v u) Q X.xe s₂) X.xe s₁) X.xe s:=by
 refine cZ (ha pins s σ H _ I h) fun v s1 ⟨x,H1,I1,r1,q1⟩=>?_
 refine cZ (hb pins s1 σ H1 _ I1 q1) fun u s2 ⟨y,H2,I2,r2,q2⟩=>?_
 exact hf v u s2 x y H2 I2 r1 r2 q2
theorem pe_op{op:Operator}{r:R2}(ho:OpR X (binaryOp op) r)(ha:PE X a ta)(hb:PE X b tb):PE X (.BinOp a op b pos) (tOp r ta tb):=by
 intro pins s σ H Q I h
 exact wpAny_BinOp (Tx ha hb I h fun v u s2 x y H2 I2 rx ry q=>ho pins s2 σ H2 x y v u Q I2 rx ry q)
theorem pe_un{op:UnaryOp}{r:V->Hp->VK->Prop}(ho:UnR X (unaryOp op) r)(ha:PE X a ta):PE X (.UnaryOp op a pos) (tUn r ta):=by
 intro pins s σ H Q I h
 exact UnaryOp_ (cZ (ha pins s σ H _ I h) fun v s1 ⟨x,H1,I1,r1,q1⟩=>ho pins s1 σ H1 x v Q I1 r1 q1)
theorem opI{f:Value->Value->Sem Value}{C:Int->Int->Prop}{g:Int->Int->Int}
  (rule:∀ (i j:Int) (t u:Tok) (s:Shared) (Q:Value->Shared->Prop) (E:Value->Shared->Prop),C i j->Q (.int (g i j) s.toks) { s with toks:=s.toks+1 }->wpAny (model X.prog X.w) X.A (f (.int i t) (.int j u)) Q E s) :
  OpR X f (rI C fun i j=>.int (g i j)):=by
 intro pins s σ H x y v u Q I rx ry h
 obtain⟨i,j,rfl,rfl,hc,q⟩:=h
 obtain⟨t,rfl⟩:=rx
 obtain⟨t',rfl⟩:=ry
 exact rule i j t t' s _ _ hc ⟨.int (g i j),H,I.tok _,⟨_,rfl⟩,q⟩
theorem opI0{f:Value->Value->Sem Value}{g:Int->Int->Int}
  (rule:∀ (i j:Int) (t u:Tok) (s:Shared) (Q:Value->Shared->Prop) (E:Value->Shared->Prop),Q (.int (g i j) s.toks) { s with toks:=s.toks+1 }->wpAny (model X.prog X.w) X.A (f (.int i t) (.int j u)) Q E s) :
  OpR X f (MD fun i j=>.int (g i j)):=by
 intro pins s σ H x y v u Q I rx ry h
 obtain⟨i,j,rfl,rfl,q⟩:=h
 obtain⟨t,rfl⟩:=rx
 obtain⟨t',rfl⟩:=ry
 exact rule i j t t' s _ _ ⟨.int (g i j),H,I.tok _,⟨_,rfl⟩,q⟩
theorem Nw{f:Value->Value->Sem Value}{g:Int->Int->Bool}
  (rule:∀ (i j:Int) (t u:Tok) (s:Shared) (Q:Value->Shared->Prop) (E:Value->Shared->Prop),Q (.bool (g i j)) s->wpAny (model X.prog X.w) X.A (f (.int i t) (.int j u)) Q E s) :
  OpR X f (MD fun i j=>.bl (g i j)):=by
 intro pins s σ H x y v u Q I rx ry h
 obtain⟨i,j,rfl,rfl,q⟩:=h
 obtain⟨t,rfl⟩:=rx
 obtain⟨t',rfl⟩:=ry
 exact rule i j t t' s _ _ ⟨.bl (g i j),H,I,rfl,q⟩
def CDiv(i j:Int):Prop:=0<j/\j<1073741824
def CPow(i j:Int):Prop:=0<=j/\j<=1000000/\i.natAbs<2 ^ 64
theorem Ri:OpR X (binaryOp .Add) (MD fun i j=>.int (i+j)):=opI0 fun _ _ _ _ _ _ _ q=>add_int q
theorem Re:OpR X (binaryOp .Sub) (MD fun i j=>.int (i - j)):=opI0 fun _ _ _ _ _ _ _ q=>sub_int q
theorem Nr:OpR X (binaryOp .FloorDiv) (rI CDiv fun i j=>.int (i / j)):=opI fun i j _ _ _ _ _ hc q=>by
 have h1:(0:Int)<j:=hc.1
 have h2:j<1073741824:=hc.2
 exact floordiv_int (by omega) (by rw [Int.fdiv_eq_ediv_of_nonneg i (by omega)];exact q) (.inl (PyProof.noPylong_small (by omega)))
theorem Rh:OpR X (binaryOp .Mod) (rI (fun _ j=>0<j) fun i j=>.int (i % j)):=opI fun i j _ _ _ _ _ hc q=>by
 have h1:(0:Int)<j:=hc
 exact mod_int' (by omega) (by rw [Int.fmod_eq_emod_of_nonneg i (by omega)];exact q)
theorem Rg:OpR X (binaryOp .Pow) (rI CPow fun i j=>.int (i ^ j.toNat)):=opI fun _ _ _ _ _ _ _ hc q=>pow_int_small hc.1 hc.2.1 hc.2.2 q
theorem unI{f:Value->Sem Value}{g:Int->Int}
  (rule:∀ (i:Int) (t:Tok) (s:Shared) (Q:Value->Shared->Prop) (E:Value->Shared->Prop),Q (.int (g i) s.toks) { s with toks:=s.toks+1 }->wpAny (model X.prog X.w) X.A (f (.int i t)) Q E s) :
  UnR X f (rU fun i=>.int (g i)):=by
 intro pins s σ H x v Q I rx h
 obtain⟨i,rfl,q⟩:=h
 obtain⟨t,rfl⟩:=rx
 exact rule i t s _ _ ⟨.int (g i),H,I.tok _,⟨_,rfl⟩,q⟩
theorem Qp:UnR X (unaryOp .USub) (rU fun i=>.int (-i)):=unI fun _ _ _ _ _ q=>neg_int q
end
section
variable{X:Cx}{a b c:Expr}{ta tb tc:TE}{pos:Pos}
theorem op_lt:OpR X (compareOp .Lt) (MD fun i j=>.bl (decide (i<j))):=Nw fun _ _ _ _ _ _ _ q=>lt_int q
theorem op_le:OpR X (compareOp .LtE) (MD fun i j=>.bl (decide (i<=j))):=Nw fun _ _ _ _ _ _ _ q=>le_int q
theorem op_gt:OpR X (compareOp .Gt) (MD fun i j=>.bl (decide (j<i))):=Nw fun _ _ _ _ _ _ _ q=>gt_int q
theorem op_ge:OpR X (compareOp .GtE) (MD fun i j=>.bl (decide (j<=i))):=Nw fun _ _ _ _ _ _ _ q=>ge_int q
theorem OpR.or{f:Value->Value->Sem Value}{r r':R2}(h:OpR X f r)(h':OpR X f r'):OpR X f (fun x y H Q=>r x y H Q\/r' x y H Q):=by
 intro pins s σ H x y v u Q I rx ry q
 rcases q with q | q
 ·exact h pins s σ H x y v u Q I rx ry q
 ·exact h' pins s σ H x y v u Q I rx ry q
theorem Nh{op:CmpOp}{r:R2}(ho:OpR X (compareOp op) r)(ha:PE X a ta)(hb:PE X b tb)(hm:behindInMarks op b=false):PE X (.Compare a [op] [b] pos) (tOp r ta tb):=by
 intro pins s σ H Q I h
 exact wpAny_Compare1 (Tx ha hb I h fun v u s2 x y H2 I2 rx ry q=>ho pins s2 σ H2 x y v u Q I2 rx ry q) hm
def Pn(t:TE):TT:=fun σ H Q=>t σ H fun x H'=>∃ k,x=.bl k/\Q k H'
theorem MQ{op:CmpOp}{r:R2}(ho:OpR X (compareOp op) r)(ha:PE X a ta)(hb:PE X b tb)(hm:behindInMarks op b=false):PT X (.Compare a [op] [b] pos) (Pn (tOp r ta tb)):=by
 intro pins s σ H Q I h
 refine wpAny_isTrue_Compare1 (cZ (ha pins s σ H _ I h) fun v s1 ⟨x,H1,I1,r1,q1⟩=>cZ (hb pins s1 σ H1 _ I1 q1) fun u s2 ⟨y,H2,I2,r2,q2⟩=>
  cZ (ho pins s2 σ H2 x y v u _ I2 r1 r2 q2) fun c s3 ⟨z,H3,I3,r3,k,e,q3⟩=>?_) hm
 subst e
 cases r3
 exact wpAny_truthy_bool ⟨H3,I3,q3⟩
def BI(r r':R2)(ta tb tc:TE):TE:=fun σ H Q=>ta σ H fun x H1=>tb σ H1 fun y H2=>r x y H2 fun z H3=>∃ k,z=.bl k /\
 (if k=true then tc σ H3 fun w' H4=>r' y w' H4 Q else Q (.bl false) H3)
theorem Jp{op op':CmpOp}{r r':R2}(ho:OpR X (compareOp op) r)(ho':OpR X (compareOp op') r')(ha:PE X a ta)(hb:PE X b tb)(hc:PE X c tc)
  (hm:lastMarks [op,op'] [b,c]=false:=by with_unfolding_all rfl):PE X (.Compare a [op,op'] [b,c] pos) (BI r r' ta tb tc):=by
 intro pins s σ H Q I h
 refine Compare_chain (cZ (ha pins s σ H _ I h) fun v s1 ⟨x,H1,I1,r1,q1⟩=>chain_link (cZ (hb pins s1 σ H1 _ I1 q1) fun u s2 ⟨y,H2,I2,r2,q2⟩=>
  cZ (ho pins s2 σ H2 x y v u _ I2 r1 r2 q2) fun d s3 ⟨z,H3,I3,r3,k,e,q3⟩=>?_)) hm
 subst e
 cases r3
 refine wpAny_truthy_bool ?_
 cases k with
 | false=>exact ite_ff ⟨.bl false,H3,I3,rfl,q3⟩
 | true=>exact ite_tt (chain_last (cZ (hc pins s3 σ H3 _ I3 q3) fun w' s4 ⟨z',H4,I4,r4,q4⟩=>ho' pins s4 σ H4 y z' u w' Q I4 r2 r4 q4))
theorem IY{op op':CmpOp}{r r':R2}(ho:OpR X (compareOp op) r)(ho':OpR X (compareOp op') r')(ha:PE X a ta)(hb:PE X b tb)(hc:PE X c tc)
  (hm:lastMarks [op,op'] [b,c]=false:=by with_unfolding_all rfl):PT X (.Compare a [op,op'] [b,c] pos) (Pn (BI r r' ta tb tc)):=by
 intro pins s σ H Q I h
 refine isTrue_chain (cZ (ha pins s σ H _ I h) fun v s1 ⟨x,H1,I1,r1,q1⟩=>test_link (cZ (hb pins s1 σ H1 _ I1 q1) fun u s2 ⟨y,H2,I2,r2,q2⟩=>
  cZ (ho pins s2 σ H2 x y v u _ I2 r1 r2 q2) fun d s3 ⟨z,H3,I3,r3,k,e,q3⟩=>?_)) hm
 subst e
 cases r3
 refine wpAny_truthy_bool ?_
 cases k with
 | false=>
  obtain⟨k',e',q'⟩:=q3
  cases e'
  exact ite_ff ⟨H3,I3,q'⟩
 | true=>
  refine ite_tt (test_last (cZ (hc pins s3 σ H3 _ I3 q3) fun w' s4 ⟨z',H4,I4,r4,q4⟩=>cZ (ho' pins s4 σ H4 y z' u w' _ I4 r2 r4 q4) fun d' s5 ⟨z2,H5,I5,r5,k2,e2,q5⟩=>?_))
  subst e2
  cases r5
  exact wpAny_truthy_bool ⟨H5,I5,q5⟩
def HS(K:PySem.W.Frag)(x:V)(H:Hp)(k:Bool):Prop:=
 match x with
 | .non=>k=false
 | .bl b=>k=b
 | .int i=>k=(i != 0)
 | .str y=>y.length<=sizeLine/\k=((y.length:Int) != 0)
 | .byt y=>y.size<=sizeLine/\k=((y.size:Int) != 0)
 | .ref p=>(∃ xs,om K H p xs/\k = !xs.isEmpty)\/(∃ xs,lI K H p xs/\k = !xs.isEmpty)\/∃ kvs,H p=some (.dK kvs)/\k = !kvs.isEmpty
 | _=>False
theorem Df{κ:Type}{kvs:List (κ×V)}{vs:List (κ×Value)}(r:KV kvs vs):(!vs.isEmpty) = !kvs.isEmpty:=by
 cases r <;> rfl
theorem tP{xs:List V}{its:List Value}(r:Vals xs its):(!its.toArray.isEmpty) = !xs.isEmpty:=by
 cases r <;> simp
theorem pO:(sizeLine:Nat)<2 ^ 63:=by rw [sizeLine_eq];decide
theorem wR:TruR X (fun x H Q=>∃ k,HS X.K x H k/\Q k H):=by
 intro pins s σ H x v Q I rx h
 obtain⟨k,e,q⟩:=h
 have hl:=pO
 have hs:sizeLine=16777216:=sizeLine_eq
 cases x with
 | non=>
  cases rx
  have e':k=false:=e
  subst e'
  exact truthy_none ⟨H,I,q⟩
 | bl b=>
  cases rx
  have e':k=b:=e
  subst e'
  exact wpAny_truthy_bool ⟨H,I,q⟩
 | int i=>
  obtain⟨t,rfl⟩:=rx
  have e':k=(i != 0):=e
  subst e'
  exact PySem.P.truthy_int ⟨H,I,q⟩
 | str y=>
  obtain⟨t,rfl⟩:=rx
  obtain⟨hy,e'⟩:y.length<=sizeLine/\k=((y.length:Int) != 0):=e
  subst e'
  exact PySem.P.truthy_str (by omega) ⟨H,I.tok _,q⟩
 | byt y=>
  obtain⟨t,rfl⟩:=rx
  obtain⟨hy,e'⟩:y.size<=sizeLine/\k=((y.size:Int) != 0):=e
  subst e'
  exact PySem.W.truthy_bytes (by omega) ⟨H,I.tok _,q⟩
 | ref p=>
  cases rx
  have e':(∃ xs,om X.K H p xs/\k = !xs.isEmpty)\/(∃ xs,lI X.K H p xs/\k = !xs.isEmpty)\/∃ kvs,H p=some (.dK kvs)/\k = !kvs.isEmpty:=e
  rcases e' with ⟨xs,hx,e'⟩ | ⟨xs,hx,e'⟩ | ⟨kvs,hx,e'⟩
  ·subst e'
   obtain⟨its,r,pl,hz⟩:=I.list hx
   have hlen:=r.length
   exact wpAny_truthy_list pl.isList (by simp only [List.size_toArray];omega) ⟨H,I.tok _,by rw [tP r];exact q⟩
  ·subst e'
   obtain⟨its,r,pl,hz⟩:=I.tuple hx
   have hlen:=r.length
   exact truthy_tuple pl (by simp only [List.size_toArray];omega) ⟨H,I.tok _,by rw [tP r];exact q⟩
  ·subst e'
   obtain⟨hz,hS,vs,r,m⟩:kvs.length<=sizeLine/\(p == sysModules)=false/\∃ vs,KV kvs vs/\s.heap.DictOf (ca X.prog X.w) p vs:=I.hok p _ hx
   have hlen:kvs.length=vs.length:=Paired.length r
   exact wpAny_truthy_dict hS m (by omega) ⟨H,I.tok _,by rw [Df r];exact q⟩
 | _=>exact(show False from e).elim
theorem IW(ha:PE X a ta)(he:∀ whole,isTrue a X.env whole=(do let v <- whole;standAt a.pos;holding [v] (truthy v))) :
  PT X a (fun σ H Q=>ta σ H fun x H'=>∃ k,HS X.K x H' k/\Q k H'):=by
 intro pins s σ H Q I h
 exact isTrue_plain (cZ (ha pins s σ H _ I h) fun v s1 ⟨x,H1,I1,r1,q1⟩=>wR pins s1 σ H1 x v Q I1 r1 q1) (he _)
theorem Cg:OpR X (binaryOp .Add) (fun x y H Q=>∃ i j,x=.str i/\y=.str j/\i.length+j.length<=sizeLine/\Q (.str (i++j)) H):=by
 intro pins s σ H x y v u Q I rx ry h
 obtain⟨i,j,rfl,rfl,hz,q⟩:=h
 obtain⟨t,rfl⟩:=rx
 obtain⟨t',rfl⟩:=ry
 exact add_str (fun t' tk=>⟨.str (i++j),H,I.tok _,⟨_,rfl⟩,q⟩) hz
theorem qm{x:V}{us:List Value}(r:Vals [x] us):∃ u,us=[u]/\RelV x u:=by
 cases r with
 | cons r1 r2=>cases r2;exact⟨_,rfl,r1⟩
theorem Ij{x y:V}{us:List Value}(r:Vals [x,y] us):∃ u w',us=[u,w']/\RelV x u/\RelV y w':=by
 cases r with
 | cons r1 r2=>
  cases r2 with
  | cons r3 r4=>cases r4;exact⟨_,_,rfl,r1,r3⟩
theorem HK(hc:X.calm=true):CallR X (.builtin "max") (fun xs H Q=>∃ i j,xs=[.int i,.int j]/\Q (.int (if j>i then j else i)) H):=by
 intro pins s σ H xs us Q I r h
 obtain⟨i,j,rfl,q⟩:=h
 obtain⟨u,w',rfl,⟨t,rfl⟩,⟨t',rfl⟩⟩:=Ij r
 refine max_two_ints (I.ok.hd hc) fun h' tk k=>⟨_,H,I.kept k,?_,q⟩
 by_cases hj:j>i
 ·rw [if_pos hj,if_pos hj];exact⟨_,rfl⟩
 ·rw [if_neg hj,if_neg hj];exact⟨_,rfl⟩
theorem HI(hc:X.calm=true):CallR X (.builtin "min") (fun xs H Q=>∃ i j,xs=[.int i,.int j]/\Q (.int (if j<i then j else i)) H):=by
 intro pins s σ H xs us Q I r h
 obtain⟨i,j,rfl,q⟩:=h
 obtain⟨u,w',rfl,⟨t,rfl⟩,⟨t',rfl⟩⟩:=Ij r
 refine min_two_ints (I.ok.hd hc) fun h' tk k=>⟨_,H,I.kept k,?_,q⟩
 by_cases hj:j<i
 ·rw [if_pos hj,if_pos hj];exact⟨_,rfl⟩
 ·rw [if_neg hj,if_neg hj];exact⟨_,rfl⟩
theorem HL:CallR X (.type "int") (fun xs H Q=>(∃ i,xs=[.int i]/\Q (.int i) H)\/∃ k,xs=[.bl k]/\Q (.int (if k then 1 else 0)) H):=by
 intro pins s σ H xs us Q I r h
 rcases h with ⟨i,rfl,q⟩ | ⟨k,rfl,q⟩
 ·obtain⟨u,rfl,t,rfl⟩:=qm r
  exact call_int_int ⟨.int i,H,I,⟨_,rfl⟩,q⟩
 ·obtain⟨u,rfl,r1⟩:=qm r
  cases r1
  exact call_int_bool ⟨.int (if k then 1 else 0),H,I.tok _,⟨_,rfl⟩,q⟩
end
end L2
namespace L2
open PySem PySem.Spec PyProof.Rows
section
variable{prog:Program}{w:World}{A:Around}{E:Value->Shared->Prop}{s:Shared}{K:PySem.W.Frag}{x dx C f:Addr}{mA:Str->Option Value}{name:Str}{v:Value}
end
theorem RelO.some_of{v:V}{o:Option Value}(r:RelO (some v) o):∃ u,o=some u/\RelV v u:=by
 cases o with
 | none=>exact(show False from r).elim
 | some u=>exact⟨u,rfl,r⟩
section
variable{P:Program}{w:World}{H H':Hp}{h h':Heap}{a C dx:Addr}{fs fs':List (Str×V)}
end
section
variable{X:Cx}{pins:List (Addr×Obj)}{σ:St}{H:Hp}{s:Shared}{a C dx:Addr}{fs:List (Str×V)}{f:Str}{v:V}{A:Around}{E:Value->Shared->Prop}
end
section
variable{X:Cx}{o e value:Expr}{f:Str}{pos pos' tpos:Pos}{ta tv:TE}
end
section
variable{X:Cx}{pins:List (Addr×Obj)}{σ:St}{H:Hp}{s:Shared}{A:Around}{E:Value->Shared->Prop}{Q:Value->Shared->Prop}{c:Value}{b:Bool}
end
end L2
namespace L2
open PySem PySem.Spec PyProof.Rows
structure Room(k:Nat)(A:Around):Prop where
 hd:A.handled=none
 dp:A.depth+3 * k+5<recursionLimit
 un:A.units+16 * k+200<cLine
theorem Room.mono{j k:Nat}{A:Around}(r:Room k A)(h:j<=k):Room j A:=⟨r.hd,by have:=r.dp;omega,by have:=r.un;omega⟩
theorem Room.deeper{k:Nat}{A:Around}(r:Room (k+1) A)(env:Env):Room k (A.deeper env):=
 ⟨r.hd,by have:=r.dp;show A.depth+1+3 * k+5<_;omega,by have:=r.un;show A.units+3+16 * k+200<_;omega⟩
theorem Room.depth{k:Nat}{A:Around}(r:Room k A):A.depth<recursionLimit:=by have:=r.dp;omega
theorem Room.units{k:Nat}{A:Around}(r:Room k A):A.units+64<cLine:=by have:=r.un;omega
def tNil:TA:=fun _ H Q=>Q [] H
def tCons(ta:TE)(tr:TA):TA:=fun σ H Q=>ta σ H fun x H1=>tr σ H1 fun xs H2=>Q (x::xs) H2
section
variable{X:Cx}{e:Expr}{es:List Expr}{te:TE}{t:TA}{pos:Pos}
theorem Jt:PA X [] tNil:=fun _ _ _ _ H Q I h=>Calls.spliced_nil ⟨[],H,I,.nil,h⟩
theorem xE(ha:PE X e te)(hr:PA X es t)(hs:starEach (e::es) X.env=(false,eval e X.env)::starEach es X.env:=by rfl):PA X (e::es) (tCons te t):=by
 intro pos pins s σ H Q I h
 rw [hs]
 show wpAny _ _ (spliced ((false,eval e X.env)::backTo pos (starEach es X.env))) _ _ s
 refine Calls.spliced_cons (cZ (ha pins s σ H _ I h) fun u s1 ⟨x,H1,I1,r1,q1⟩=>?_)
 exact cZ (hr pos pins s1 σ H1 _ I1 q1) fun us s2 ⟨xs,H2,I2,r2,q2⟩=>⟨x::xs,H2,I2,.cons r1 r2,q2⟩
def tTup(t:TA):TE:=fun σ H Q=>t σ H fun xs H1=>xs.length<=sizeLine/\∀ p,H1 p=none->Q (.ref p) (upd H1 p (.tup xs))
def tLst(t:TA):TE:=fun σ H Q=>t σ H fun xs H1=>xs.length<=sizeLine/\∀ p,H1 p=none->Q (.ref p) (upd H1 p (.lst xs))
theorem QS{x1}(h:PA X es t):PE X (.Tuple es x1 pos) (tTup t):=by
 intro pins s σ H Q I hq
 refine wpAny_Tuple_spliced (cZ (h pos pins s σ H _ I hq) fun us s1 ⟨xs,H1,I1,r,z,q⟩=>⟨by rw [<- r.length];exact z,?_⟩)
 have hf:H1 s1.heap.objs.size=none:=I1.hok.fresh (Nat.le_refl _)
 refine⟨.ref s1.heap.objs.size,upd H1 s1.heap.objs.size (.tup xs),I1.laid (t':=s1.toks) (fun b u e=>Heap.get?_push_of_some _ e) (Nat.le_refl _) ?_,rfl,q _ hf⟩
 exact⟨z,us,r,⟨_,Heap.get?_push_size _ rfl,rfl,⟨_,rfl⟩,rfl⟩⟩
theorem Jk(h:PA X es t):PE X (.List es pos) (tLst t):=by
 intro pins s σ H Q I hq
 refine wpAny_List_spliced (cZ (h pos pins s σ H _ I hq) fun us s1 ⟨xs,H1,I1,r,z,q⟩=>⟨by rw [<- r.length];exact z,?_⟩)
 have hf:H1 s1.heap.objs.size=none:=I1.hok.fresh (Nat.le_refl _)
 refine⟨.ref s1.heap.objs.size,upd H1 s1.heap.objs.size (.lst xs),I1.laid (t':=s1.toks) (fun b u e=>Heap.get?_push_of_some _ e) (Nat.le_refl _) ?_,rfl,q _ hf⟩
 exact⟨z,us,0,r,Heap.get?_push_size _ rfl⟩
end
abbrev Sp:=List V->Hp->VK->XK->Prop
abbrev HZ:=List Env->Hp->Shared->XK->Value->Shared->Prop
structure Pm(P:Program)(w:World)(K:PySem.W.Frag)(mg:Str->Option Value)(base:Heap)(A:Around)(outer:List Env)(s:Shared)(H:Hp):Prop where
 frames:A.frames=some outer
 mod:Mod K mg base
 bs:∀ b o,base.get? b=some o->s.heap.get? b=some o/\H b=none
 bsz:base.objs.size<=s.heap.objs.size
 funs:s.heap.FunFrames base outer
 frf:∀ b∈HY outer,H b=none
 hok:HOk P w H s.heap
 bare:AllBare s.gens
def CE(outer:List Env)(P:Program)(w:World)(H:Hp)(s:Shared)(Q:VK)(u:Value)(s':Shared):Prop:=
 ∃ v H',s'.os=s.os/\AllBare s'.gens/\Un (HY outer) [] H H' s.heap s'.heap/\HOk P w H' s'.heap/\RelV v u/\Q v H'
def CR(CX:HZ)(outer:List Env)(P:Program)(w:World)(H:Hp)(s:Shared)(Q:VK)(E:XK)(r:Result)(s':Shared):Prop:=
 match r with
 | .ok (.ret u)=>CE outer P w H s Q u s'
 | .ok _=>False
 | .error e=>CX outer H s E e s'
structure FnOk(P:Program)(w:World)(K:PySem.W.Frag)(mg:Str->Option Value)(base:Heap)(CX:HZ)(k:Nat)(f:Addr)(fd:FuncData)(ps:List Str)(sp:Sp):Prop where
 len:∀ vs H Q E,sp vs H Q E->vs.length=ps.length
 run:∀ (A:Around) (outer:List Env) (s:Shared) (H:Hp) (args:Args) (us:List Value) (vs:List V) (Q:VK) (E:XK),Room k A->Pm P w K mg base A outer s H->BindsTo s fd args (ps.zip us)->Vals vs us->sp vs H Q E ->
  codeAny (model P w) A (.call (.ref f) args) (CR CX outer P w H s Q E) s
theorem FnOk.mono{P:Program}{w:World}{K:PySem.W.Frag}{mg:Str->Option Value}{base:Heap}{CX:HZ}{j k:Nat}{f:Addr}{fd:FuncData}{ps:List Str}{sp:Sp}(F:FnOk P w K mg base CX j f fd ps sp)(h:j<=k) :
  FnOk P w K mg base CX k f fd ps sp:=⟨F.len,fun A outer s H args us vs Q E hr=>F.run A outer s H args us vs Q E (hr.mono h)⟩
section
variable{X:Cx}{pins:List (Addr×Obj)}{σ:St}{H:Hp}{s s':Shared}
theorem Inv.env0(I:Inv X pins σ H s):Pm X.prog X.w X.K X.mg X.base X.A X.stack s H:=
 ⟨I.ok.frames,I.ok.mod,I.bs,Nat.le_trans I.ok.bsz I.sz,I.stack,I.stkFree,I.hok,I.bare⟩
theorem Inv.after{Q:VK}{u:Value}(I:Inv X pins σ H s)(h:CE X.stack X.prog X.w H s Q u s'):EP X pins σ Q u s':=by
 obtain⟨v,H',os,bare,un,hok,r,q⟩:=h
 obtain⟨hh,g,d,t,os'⟩:=s'
 obtain rfl:os'=s.os:=os
 exact⟨v,H',I.call (h':=hh) (g':=g) (d':=d) (t':=t) (ch:=[]) un hok bare (fun b z=>absurd z (by simp)),r,q⟩
end
def Eh(sp:Sp)(dvs:List V)(E:XK)(t:TA):TE:=fun σ H Q=>t σ H fun vs H1=>sp (vs++dvs) H1 Q E
def Binds(K:PySem.W.Frag)(fd:FuncData)(ps:List Str)(ds:List Value):Prop:=
 ∀ (s:Shared) (us:List Value),K.In s.heap->(us++ds).length=ps.length->BindsTo s fd ⟨us,[]⟩ (ps.zip (us++ds))
theorem Binds.all{K:PySem.W.Frag}{fd:FuncData}{ps:List Str}(h:∀ us:List Value,us.length=ps.length->bindArgs fd ⟨us,[]⟩=pure (ps.zip us)):Binds K fd ps []:=fun s us _ hl=>by
 rw [List.append_nil] at hl ⊢
 exact .of_eq (h us hl)
def zb(CX:HZ)(X:Cx)(E:XK):Prop:=∀ (pins:List (Addr×Obj)) (σ:St) (H:Hp) (s:Shared) (e:Value) (s':Shared),Inv X pins σ H s->CX X.stack H s E e s'->X.xe e s'
section
variable{X:Cx}{CX:HZ}{k:Nat}{f C:Addr}{fd:FuncData}{ps:List Str}{sp:Sp}{dvs:List V}{ds:List Value}{E:XK}{x m:Str}{p pos apos:Pos}{e o:Expr}{es:List Expr}{ta:TE}{t:TA}
theorem BY{pins:List (Addr×Obj)}{σ:St}{H:Hp}{s:Shared}{Q:VK}{us:List Value}{vs:List V}(F:FnOk X.prog X.w X.K X.mg X.base CX k f fd ps sp)(hr:Room k X.A)(hb:Binds X.K fd ps ds)(hd:Vals dvs ds)(hx:zb CX X E)
  (I:Inv X pins σ H s) (r:Vals vs us) (h:sp (vs++dvs) H Q E):wpAny (model X.prog X.w) X.A (call (.ref f) us) (EP X pins σ Q) X.xe s:=by
 have r2:Vals (vs++dvs) (us++ds):=r.append hd
 have hl:(us++ds).length=ps.length:=by rw [<- r2.length];exact F.len _ _ _ _ h
 refine wpAny_call (codeAny_mono (F.run X.A X.stack s H ⟨us,[]⟩ (us++ds) (vs++dvs) Q E hr I.env0 (hb s us I.kIn hl) r2 h) fun r s' hq=>?_)
 cases r with
 | error e=>exact hx pins σ H s e s' I hq
 | ok fl=>
  cases fl with
  | ret u=>exact I.after hq
  | next=>exact False.elim hq
  | brk=>exact False.elim hq
  | cont=>exact False.elim hq
theorem Ni(F:FnOk X.prog X.w X.K X.mg X.base CX k f fd ps sp)(hr:Room k X.A)(hg:Gl X x)(hm:X.mg x=some (.ref f))(hk:PySem.W.keepIn X.K (.ref f)=true)(hb:Binds X.K fd ps ds)(hd:Vals dvs ds)(hx:zb CX X E)
  (ha:PA X (e::es) t) (hdb:(x == ("__debug__":Str))=false:=by decide) (he:starEach (e::es) X.env=(false,eval e X.env)::starEach es X.env:=by rfl) (hpl:(backTo pos (starEach es X.env)).any (·.1)=false:=by rfl) :
  PE X (.Call (.Name x p) (e::es) [] pos) (Eh sp dvs E t):=by
 intro pins s σ H Q I h
 refine wpAny_Call_Name_kw (yj I hg hm ?_ hdb)
 refine PySem.W.callWith_K (h₀:=X.base) I.ok.mod.kin hk (cZ (ha pos pins s σ H _ I h) fun us s1 ⟨vs,H1,I1,r,q⟩=>⟨I1.kIn,?_⟩) he hpl
 exact BY F hr hb hd hx I1 r q
theorem Jr(F:FnOk X.prog X.w X.K X.mg X.base CX k f fd ps sp)(hr:Room k X.A)(hg:Gl X x)(hm:X.mg x=some (.ref f))(hk:PySem.W.keepIn X.K (.ref f)=true)(hb:Binds X.K fd ps ds)(hd:Vals dvs ds)(hx:zb CX X E)
  (hdb:(x == ("__debug__":Str))=false:=by decide):PE X (.Call (.Name x p) [] [] pos) (Eh sp dvs E tNil):=by
 intro pins s σ H Q I h
 refine wpAny_Call_Name_kw (yj I hg hm ?_ hdb)
 exact PySem.W.callWith_K0 I.kIn hk (BY (us:=[]) F hr hb hd hx I .nil h)
end
section
variable{X:Cx}{CX:HZ}{k:Nat}{f C:Addr}{fd:FuncData}{ps ks:List Str}{sp:Sp}{E:XK}{x m:Str}{p pos apos kpos:Pos}{e o:Expr}{es:List Expr}{kws:List Keyword}{te ta:TE}{t tk:TA}{nm:Option Str}
variable{g:List Value->List Value->List Value}{gV:List V->List V->List V}
end
structure aS(N P:List Str)(sc:Scope):Prop where
 kind:sc.kind=.function
 co:sc.isCoroutine=false
 gen:sc.isGenerator=false
 nd:N.Nodup
 pre:N.take P.length=P
 par:∀ x∈P,sc.names.lookup x=some .local\/sc.names.lookup x=some .cell
 nofree:∀ y∈sc.names,y.2≠.free
theorem wJ{kindOf:Str->Option NameKind}{x:Str}:∀ {binds:List (Str×Value)} {m:Str->Option Value},(∀ v,(x,v) ∉ binds)->bindL kindOf binds m x=m x
 | [],_,_=>rfl
 | (n,v)::r,m,h=>by
  unfold bindL
  rw [wJ fun w hw=>h w (List.mem_cons_of_mem _ hw)]
  split
  ·have:x≠n:=by rintro rfl;exact h v List.mem_cons_self
   simp [this]
  ·rfl
theorem wL{kindOf:Str->Option NameKind}{x:Str}:∀ {binds:List (Str×Value)} {m:Str->Option Value},(∀ v,(x,v) ∉ binds)->bindC kindOf binds m x=m x
 | [],_,_=>rfl
 | (n,v)::r,m,h=>by
  unfold bindC
  rw [wL fun w hw=>h w (List.mem_cons_of_mem _ hw)]
  split
  ·rfl
  ·have:x≠n:=by rintro rfl;exact h v List.mem_cons_self
   simp [this]
theorem wK{kindOf:Str->Option NameKind}{x:Str}{v:Value}:∀ {P:List Str} {vs:List Value} {i:Nat} {m:Str->Option Value},P.Nodup->P[i]?=some x->vs[i]?=some v->kindOf x=some .local ->
  bindL kindOf (P.zip vs) m x=some v
 | [],_,_,_,_,h,_,_=>by simp at h
 | _::_,[],_,_,_,_,h,_=>by simp at h
 | p::P,w::vs,0,m,nd,h1,h2,hk=>by
  simp at h1 h2;subst h1;subst h2
  show bindL kindOf ((p,w)::P.zip vs) m p=_
  unfold bindL
  rw [wJ fun v hv=>(List.nodup_cons.mp nd).1 (List.of_mem_zip hv).1,if_pos hk]
  simp
 | p::P,w::vs,i+1,m,nd,h1,h2,hk=>by
  show bindL kindOf ((p,w)::P.zip vs) m x=_
  unfold bindL
  exact wK (i:=i) (List.nodup_cons.mp nd).2 (by simpa using h1) (by simpa using h2) hk
theorem wM{kindOf:Str->Option NameKind}{x:Str}{v:Value}:∀ {P:List Str} {vs:List Value} {i:Nat} {m:Str->Option Value},P.Nodup->P[i]?=some x->vs[i]?=some v->kindOf x≠some .local ->
  bindC kindOf (P.zip vs) m x=some v
 | [],_,_,_,_,h,_,_=>by simp at h
 | _::_,[],_,_,_,_,h,_=>by simp at h
 | p::P,w::vs,0,m,nd,h1,h2,hk=>by
  simp at h1 h2;subst h1;subst h2
  show bindC kindOf ((p,w)::P.zip vs) m p=_
  unfold bindC
  rw [wL fun v hv=>(List.nodup_cons.mp nd).1 (List.of_mem_zip hv).1,if_neg hk]
  simp
 | p::P,w::vs,i+1,m,nd,h1,h2,hk=>by
  show bindC kindOf ((p,w)::P.zip vs) m x=_
  unfold bindC
  exact wM (i:=i) (List.nodup_cons.mp nd).2 (by simpa using h1) (by simpa using h2) hk
noncomputable def start(N:List Str)(vs:List V):St:=vs.map some++List.replicate (N.length - vs.length) none
noncomputable def vi(CX:HZ)(P:Program)(w:World)(K:PySem.W.Frag)(mg:Str->Option Value)(base:Heap)(N:List Str)(qual:Str)(scope:Scope)(f:Addr)(cd:Value)(A:Around)(outer:List Env)(s:Shared)(H:Hp)(E:XK):Cx where
 prog:=P
 w:=w
 K:=K
 mg:=mg
 base:=base
 A:=A.deeper (envOfC qual scope s.heap.objs.size f cd)
 N:=N
 s₀:=s
 H₀:=H
 env:=envOfC qual scope s.heap.objs.size f cd
 outer:=outer
 stack:=envOfC qual scope s.heap.objs.size f cd::outer
 ex:=[]
 calm:=true
 fn:=fun _=>true
 pn:=[]
 xe:=fun e s'=>wpAny (model P w) (A.deeper (envOfC qual scope s.heap.objs.size f cd)) (leaving (envOfC qual scope s.heap.objs.size f cd) e) (fun _ s''=>CX outer H s E e s'') (fun e' s''=>CX outer H s E e' s'') s'
theorem Bu{sc:Scope}{n:Nat}{x:Str}(h:sc.names.lookup x=some .cell):∃ c,(cellsFrom n sc.names []).lookup x=some c:=by
 have q:=PySem.W.cellsFrom_some sc.names n [] (.inl h)
 exact Option.isSome_iff_exists.mp q
theorem GM{CX:HZ}{P:Program}{w:World}{K:PySem.W.Frag}{mg:Str->Option Value}{base:Heap}{N ps:List Str}{qual:Str}{scope:Scope}{f:Addr}{cd:Value}{A:Around}{outer:List Env}{s s1:Shared}{H:Hp}{E:XK}{us:List Value}{vs:List V}
  (S:aS N ps scope) (hd:A.handled=none) (e0:Pm P w K mg base A outer s H) (hl:vs.length=ps.length) (r:Vals vs us)
  (x:InCallC s s.heap.objs.size (bindL (envOfC qual scope s.heap.objs.size f cd).kindOf (ps.zip us) fun _=>none) (cellsFrom (s.heap.objs.size+1) scope.names []) (bindC (envOfC qual scope s.heap.objs.size f cd).kindOf (ps.zip us) fun _=>none) s1) :
  Inv (vi CX P w K mg base N qual scope f cd A outer s H E) [] (start N vs) H s1:=by
 have hpl:ps.length<=N.length:=by have:=congrArg List.length S.pre;rw [List.length_take] at this;omega
 obtain⟨h1,tk,rfl,hk⟩:=x.done
 have noA:∀ b:Addr,b ∉ (vi CX P w K mg base N qual scope f cd A outer s H E).ex:=fun b z=>absurd (show b∈([]:List Addr) from z) (by simp)
 refine⟨⟨e0.mod,S.kind,rfl,rfl,Nat.le_refl _,fun y z c h1 h2=>?_,fun y hy=>?_,fun y c _ h=>?_,fun _=>hd,Around.frames_deeper e0.frames,.inr ⟨rfl,rfl⟩,fun b z=>absurd z (noA b),e0.bs,e0.bsz,fun b _ _=>noA b,fun b z=>absurd z (noA b),e0.funs,e0.frf⟩,
  rfl,e0.bare,Un.kept hk,⟨_,x.toInCall.ns,fun i y v h1 h2 h3=>?_⟩,fun y c h=>⟨_,x.cell y c h⟩,e0.hok.fresh (Nat.le_refl _),fun y c h=>?_,fun p hp=>absurd (show p∈([]:List (Addr×Obj)) from hp) (by simp),e0.hok.kept hk,?_⟩
 ·exact name_of_addr x.apart (PySem.mem_of_lookup h1) (PySem.mem_of_lookup h2)
 ·have hy:scope.names.lookup y=some .cell\/scope.names.lookup y=some .free:=hy
  rcases hy with hy | hy
  ·exact Bu hy
  ·exact absurd rfl (S.nofree _ (PySem.mem_of_lookup hy))
 ·exact Nat.le_of_lt (x.above y c (PySem.mem_of_lookup h))
 ·have hi:i<vs.length:=by
   unfold start at h2
   by_cases hi:i<vs.length
   ·exact hi
   ·rw [List.getElem?_append_right (by simpa using hi)] at h2
    rw [List.getElem?_replicate] at h2
    split at h2 <;> cases h2
  have ha:vs[i]?=some v:=by
   unfold start at h2
   rw [List.getElem?_append_left (by simpa using hi),List.getElem?_map] at h2
   cases e:vs[i]? with
   | none=>rw [e] at h2;cases h2
   | some a=>rw [e] at h2;cases h2;rfl
  obtain⟨u,hu,rv⟩:=r.get ha
  have hp:ps[i]?=some y:=by
   rw [<- S.pre,List.getElem?_take_of_lt (by omega)];exact h1
  have ndP:ps.Nodup:=by rw [<- S.pre];exact S.nd.sublist (List.take_sublist _ _)
  refine⟨u,rv,?_⟩
  rcases S.par y (List.mem_of_getElem? hp) with k | k
  ·exact .inl ⟨k,wK ndP hp hu k⟩
  ·obtain⟨c,e⟩:=Bu (n:=s.heap.objs.size+1) k
   refine .inr ⟨.inl k,c,e,?_⟩
   have q:=x.cell y c e
   rw [wM ndP hp hu (by show scope.names.lookup y≠_;rw [k];decide)] at q
   exact q
 ·exact e0.hok.fresh (Nat.le_of_lt (x.above y c (PySem.mem_of_lookup h)))
 ·unfold start
  show _=N.length
  rw [List.length_append,List.length_map,List.length_replicate]
  omega
theorem fn_of{CX:HZ}{P:Program}{w:World}{K:PySem.W.Frag}{mg:Str->Option Value}{base:Heap}{k:Nat}{f:Addr}{name qual:Str}{params:Arguments}{body:List Stmt}{scope:Scope}{dV kV doc pm cdv ct oc:Value}{an od:Option Addr}
  {osl:Array (Option Value)} {N ps:List Str} {sp:Sp} (lk:K.lookup f=some ⟨oc,od,.func (PySem.W.fnOf name qual params body scope dV kV doc pm an cdv ct),osl⟩) (hcd:PySem.W.codeIn K cdv qual=true) (S:aS N ps scope)
  (len:∀ vs H Q E,sp vs H Q E->vs.length=ps.length)
  (hbody:∀ (A:Around) (outer:List Env) (s:Shared) (H:Hp) (vs:List V) (Q:VK) (E:XK),Room k (A.deeper (envOfC qual scope s.heap.objs.size f cdv))->sp vs H Q E ->
   ∃ t,PSs (vi CX P w K mg base N qual scope f cdv A outer s H E) body t/\t { nx:=fun _ H'=>Q .non H',rt:=Q } (start N vs) H) :
  FnOk P w K mg base CX (k+1) f (PySem.W.fnOf name qual params body scope dV kV doc pm an cdv ct) ps sp:=by
 refine⟨len,fun A outer s H args us vs Q E hr e0 hb r hsp=>?_⟩
 have hl:=len _ _ _ _ hsp
 have KX:K.In s.heap:=e0.mod.kin.keeps fun b o e=>(e0.bs b o e).1
 have lim:s.heap.NoLimit:=e0.mod.nolimit.keeps fun b o e=>(e0.bs b o e).1
 have hkind:∀ y∈ps.zip us,scope.names.lookup y.1=some .local\/(scope.names.lookup y.1=some .cell/\((cellsFrom (s.heap.objs.size+1) scope.names []).lookup y.1).isSome=true):=fun⟨n,v⟩ hy=>by
  rcases S.par n (List.of_mem_zip hy).1 with q | q
  ·exact .inl q
  ·exact .inr ⟨q,PySem.W.cellsFrom_some _ _ _ (.inl q)⟩
 refine codeAny_call_function hr.depth (KX _ _ lk) rfl S.co S.gen rfl (PySem.W.codeRec_of KX hcd) (hb _ _ _ _ ?_)
 refine wpAny_newFunctionEnv_cells S.kind hkind fun env he s1 x=>?_
 subst he
 refine⟨lim.keeps x.toInCall.keep,codeAny_func ?_⟩
 obtain⟨t,ht,hq⟩:=hbody A outer s H vs Q E (hr.deeper _) hsp
 have I:Inv (vi CX P w K mg base N qual scope f cdv A outer s H E) [] (start N vs) H s1:=GM S hr.hd e0 hl r x
 refine wpAny_mono (ht [] s1 (start N vs) H _ I hq) (fun fl s' hs=>?_) fun e s' hs=>hs
 have fin:∀ {σ':St} {H':Hp} {v:V} {u:Value},Inv (vi CX P w K mg base N qual scope f cdv A outer s H E) [] σ' H' s'->RelV v u->Q v H'->CE outer P w H s Q u s':=
  fun {σ' H' v u} J rv q=>⟨v,H',J.os,J.bare,J.base,J.hok,rv,q⟩
 cases fl with
 | ret u=>
  obtain⟨v,σ',H',J,rv,q⟩:=hs
  exact fin J rv q
 | next=>
  obtain⟨σ',H',J,q⟩:=hs
  exact fin (v:=V.non) (u:=Value.none) J rfl q
 | brk=>
  obtain⟨_,_,_,q⟩:=hs
  exact False.elim q
 | cont=>
  obtain⟨_,_,_,q⟩:=hs
  exact False.elim q
end L2
namespace L2
open PySem PySem.Spec PyProof.Rows
section
variable{X:Cx}{x:Str}{p pos:Pos}{e:Expr}{es:List Expr}{t:TA}{id T:String}{r:List V->Hp->VK->Prop}
def tCB(r:List V->Hp->VK->Prop)(t:TA):TE:=fun σ H Q=>t σ H fun vs H1=>r vs H1 Q
theorem zI(hc:CallR X (.builtin id) r)(hg:Gl X x)(hm:X.mg x=none)(hv:bootBuiltins x=some (.builtin id))(ha:PA X (e::es) t)(hn:x ≠ "__name__":=by decide)(hdb:(x == ("__debug__":Str))=false:=by decide)
  (he:starEach (e::es) X.env=(false,eval e X.env)::starEach es X.env:=by rfl) (hpl:(backTo pos (starEach es X.env)).any (·.1)=false:=by rfl):PE X (.Call (.Name x p) (e::es) [] pos) (tCB r t):=by
 intro pins s σ H Q I h
 refine wpAny_Call_Name_kw (lj I hg hm hv ?_ hn hdb)
 exact PyProof.Rows.callWith_builtin1 (cZ (ha pos pins s σ H _ I h) fun us s1 ⟨vs,H1,I1,r1,q1⟩=>hc pins s1 σ H1 vs us Q I1 r1 q1) he hpl
theorem FX(hc:CallR X (.type T) r)(hg:Gl X x)(hm:X.mg x=none)(hv:bootBuiltins x=some (.type T))(ha:PA X (e::es) t)(hn:x ≠ "__name__":=by decide)(hdb:(x == ("__debug__":Str))=false:=by decide)
  (he:starEach (e::es) X.env=(false,eval e X.env)::starEach es X.env:=by rfl) (hpl:(backTo pos (starEach es X.env)).any (·.1)=false:=by rfl):PE X (.Call (.Name x p) (e::es) [] pos) (tCB r t):=by
 intro pins s σ H Q I h
 refine wpAny_Call_Name_kw (lj I hg hm hv ?_ hn hdb)
 exact PyProof.Rows.callWith_type1 (cZ (ha pos pins s σ H _ I h) fun us s1 ⟨vs,H1,I1,r1,q1⟩=>hc pins s1 σ H1 vs us Q I1 r1 q1) he hpl
end
end L2
namespace HT
open PySem PyProof.Rows
section
open PySem.SeqAt
open PySem.AutoSeq1 (wpAny_loadPart')
open PySem.MeetsSeq PySem.MeetsSeq2 PySem.MeetsSeq3
end
section
variable{prog:Program}{w:World}{A:Around}{E:Value->Shared->Prop}{s:Shared}
theorem OV{t b:Addr}{vs ws:List Value}{Q:Value->Shared->Prop}(ht:IsTup s.heap t vs.toArray)(hb:IsTup s.heap b ws.toArray)(hv:vs≠[])
  (h1:ws=[]->Q (.ref t) s) (h2:ws≠[]->Q (.ref s.heap.objs.size) { s with heap:=s.heap.push { cls:=.type "tuple",data:=.seq (vs++ws).toArray } })
  (hsz:vs.length+ws.length<=sizeLine):wpAny (model prog w) A (binaryOp .Add (.ref t) (.ref b)) Q E s:=by
 obtain⟨⟨cls,dd,data,sl⟩,ho,hc,n,hd⟩:=id ht
 obtain⟨⟨cls2,dd2,data2,sl2⟩,ho2,hc2,n2,hd2⟩:=id hb
 simp only at hc hd hc2 hd2
 subst hc hd hc2 hd2
 have e:vs.toArray++ws.toArray=(vs++ws).toArray:=by simp
 by_cases hw:ws=[]
 ·exact concat_meets ⟨_,ho,rfl⟩ ⟨_,ho2,rfl⟩ noFill_tuple_add seq_tuple_add PySem.F.slot_tuple_add PySem.F.entry_tuple_add (PySem.F.args_tuple_add_2 _ _)
   (tuple_addW1 t b vs.toArray ws.toArray n n2 dd dd2 sl sl2 (by simpa using hv) (by simp [hw])) ⟨ho,ho2,h1 hw⟩
 ·refine concat_meets ⟨_,ho,rfl⟩ ⟨_,ho2,rfl⟩ noFill_tuple_add seq_tuple_add PySem.F.slot_tuple_add PySem.F.entry_tuple_add (PySem.F.args_tuple_add_2 _ _)
   (tuple_addW2 t b vs.toArray ws.toArray n n2 dd dd2 sl sl2 (by simpa using hv) (by simpa using hw) (by rw [List.size_toArray,List.size_toArray];exact hsz)) ⟨ho,ho2,?_⟩
  rw [e]
  exact h2 hw
noncomputable def eJ(n d:Nat):Option Int->Nat
 | none=>d
 | some v=>if v<0 then (v+(n:Int)).toNat else min v.toNat n
theorem sIx_nat(n d k:Nat):eJ n d (some (k:Int))=min k n:=by
 show (if (k:Int)<0 then ((k:Int)+(n:Int)).toNat else min (k:Int).toNat n)=min k n
 rw [if_neg (by omega),Int.toNat_natCast]
theorem QE(n d:Nat)(hd:d<=n)(o:Option Int):eJ n d o<=n:=by
 cases o with
 | none=>exact hd
 | some v=>
  show (if v<0 then (v+(n:Int)).toNat else min v.toNat n)<=n
  by_cases hv:v<0
  ·rw [if_pos hv];omega
  ·rw [if_neg hv];exact Nat.min_le_right _ _
theorem Fo(v:Int)(n d:Nat):(if v<0 then max (v+(n:Int)) 0 else min v (n:Int))=((eJ n d (some v):Nat):Int):=by
 show (if v<0 then max (v+(n:Int)) 0 else min v (n:Int))=(((if v<0 then (v+(n:Int)).toNat else min v.toNat n):Nat):Int)
 by_cases hv:v<0
 ·simp only [if_pos hv];omega
 ·simp only [if_neg hv];omega
theorem DU(lo hi:Option Int)(n:Nat):Builtin.Slice.sliceAdjust lo hi 1 (n:Int)=(((eJ n 0 lo:Nat):Int),((eJ n n hi:Nat):Int)):=by
 have h1:¬ ((1:Int)<0):=by omega
 unfold Builtin.Slice.sliceAdjust
 simp only [h1,if_false]
 refine Prod.ext ?_ ?_
 ·cases lo with
  | none=>rfl
  | some v=>exact Fo v n 0
 ·cases hi with
  | none=>rfl
  | some v=>exact Fo v n n
theorem Cf(i j:Nat):Builtin.Slice.slicePlaces (i:Int) (j:Int) 1=j - i:=by
 unfold Builtin.Slice.slicePlaces
 have h1:(1:Int)>0:=by omega
 simp only [h1,if_true,Int.ediv_one]
 split <;> omega
theorem rW{v:Value}{o:Option Int}{Q:Option Int->Shared->Prop}(p:IsPart v o)(h:Q o s):wpAny (model prog w) A (Builtin.Slice.slicePartIndex v) Q E s:=by
 cases p with
 | none=>exact slicePart_none h
 | int i t=>exact slicePart_int h
theorem kh{sl:Addr}{vl vu:Value}{lo hi:Option Int}{n:Nat}{Q:Int×Int×Nat->Shared->Prop}(hs:s.heap.IsSliceOf sl vl vu .none)(pl:IsPart vl lo)(pu:IsPart vu hi)
  (h:Q (((eJ n 0 lo:Nat):Int),1,eJ n n hi - eJ n 0 lo) s):wpAny (model prog w) A (Builtin.Slice.sliceApplied (.ref sl) (pure (n:Int))) Q E s:=by
 obtain⟨os,hos,hcs,hds⟩:=id hs
 unfold Builtin.Slice.sliceApplied Builtin.Slice.sliceFields
 refine wpAny_bind (wpAny_bind (wpAny_field hos hds (x:=vl) rfl (wpAny_bind (wpAny_field hos hds (x:=vu) rfl (wpAny_bind (wpAny_field hos hds (x:=.none) rfl (wpAny_pure ?_)))))))
 refine wpAny_bind (slicePart_none ?_)
 show wpAny _ _ (if ((1:Int) == 0)=true then _ else _) _ _ s
 rw [if_neg (by decide)]
 refine wpAny_bind (rW pl (wpAny_bind (rW pu (wpAny_bind (wpAny_pure ?_)))))
 show wpAny _ _ (match Builtin.Slice.sliceAdjust lo hi 1 (n:Int) with | (lo,hi)=>pure (lo,(1:Int),Builtin.Slice.slicePlaces lo hi 1)) _ _ s
 rw [DU lo hi n]
 show wpAny _ _ (pure (((eJ n 0 lo:Nat):Int),(1:Int),Builtin.Slice.slicePlaces ((eJ n 0 lo:Nat):Int) ((eJ n n hi:Nat):Int) 1)) _ _ s
 rw [Cf]
 exact wpAny_pure h
theorem Jg(xs:Array Value)(i k:Nat):((List.range k).filterMap fun(m:Nat)=>xs[((i:Int)+(m:Int) * 1).toNat]?).toArray=((xs.toList.drop i).take k).toArray:=by
 have e:(fun(m:Nat)=>xs[((i:Int)+(m:Int) * 1).toNat]?)=fun m=>xs[i+m]?:=by
  funext m
  have:((i:Int)+(m:Int) * 1).toNat=i+m:=by omega
  rw [this]
 rw [e]
 have:=pick_run xs i k
 rw [List.filterMap_map] at this
 have e2:((fun x=>xs[x]?) ∘ fun x=>i+x)=fun m=>xs[i+m]?:=rfl
 rw [e2] at this
 rw [this]
theorem oV{t sl:Addr}{items:Array Value}{vl vu:Value}{lo hi:Option Int}{Q:Value->Shared->Prop}(ht:IsTup s.heap t items)(hs:s.heap.IsSliceOf sl vl vu .none)(pl:IsPart vl lo)(pu:IsPart vu hi)
  (hw:¬ (eJ items.size 0 lo=0/\eJ items.size items.size hi=items.size))
  (h:Q (.ref s.heap.objs.size) { s with heap:=s.heap.push { cls:=.type "tuple",data:=.seq ((items.toList.drop (eJ items.size 0 lo)).take (eJ items.size items.size hi - eJ items.size 0 lo)).toArray } })
  (hsz:items.size<=sizeLine):wpAny (model prog w) A (getItem (.ref t) (.ref sl)) Q E s:=by
 have htake:sizeOk (.seq ((items.toList.drop (eJ items.size 0 lo)).take (eJ items.size items.size hi - eJ items.size 0 lo)).toArray):=by
  show ((items.toList.drop (eJ items.size 0 lo)).take (eJ items.size items.size hi - eJ items.size 0 lo)).toArray.size<=sizeLine
  rw [List.size_toArray,List.length_take,List.length_drop,Array.length_toList]
  omega
 have hj:eJ items.size items.size hi<=items.size:=QE _ _ (Nat.le_refl _) hi
 obtain⟨os,hos,hcs,hds⟩:=id hs
 have hTs:s.TypeIs (.ref sl) "slice":=⟨os,hos,hcs⟩
 unfold getItem
 try with_reducible refine wpAny_holding ?_
 first | refine wpAny_bind (wpAny_pure ?_) | skip
 refine wpAny_bind (wpAny_sequenceKey ht.typeIs (by decide) ?_)
 refine wpAny_bind (wpAny_callSpecial?_slot (name:=Str.ofString "__getitem__") ht.typeIs PyProof.Rows.slot_tuple_getitem
  (wpAny_call_entry PyProof.Rows.slot_tuple_getitem ht.typeIs entry_tuple_getitem ?_ (args_tuple_getitem _ _)))
 show wpAny _ _ (Builtin.Tuple.tupleItemsOf (.ref t) >>= _) _ _ s
 refine wpAny_bind (tupleItemsOf_ ht ?_)
 refine wpAny_bind (wpAny_typeOf hTs ?_)
 rw [if_pos (by decide)]
 refine wpAny_bind (kh hs pl pu ?_)
 have hno:¬ ((((eJ items.size 0 lo:Nat):Int) == 0&&(1:Int) == 1&&(eJ items.size items.size hi - eJ items.size 0 lo) == items.size)=true):=by
  intro q
  rw [Bool.and_eq_true,Bool.and_eq_true] at q
  have q1:((eJ items.size 0 lo:Nat):Int)=0:=eq_of_beq q.1.1
  have q2:eJ items.size items.size hi - eJ items.size 0 lo=items.size:=eq_of_beq q.2
  exact hw ⟨by omega,by omega⟩
 show wpAny _ _ (if (((eJ items.size 0 lo:Nat):Int) == 0&&(1:Int) == 1&&(eJ items.size items.size hi - eJ items.size 0 lo) == items.size)=true then _ else _) _ _ s
 rw [if_neg hno,Jg]
 first
  | exact wpAny_bind (m:=Builtin.Tuple.tupleExact _) (wpAny_newObj_type (wpAny_pure ⟨_,rfl,wpAny_pure h⟩) htake)
  | exact wpAny_bind (m:=Builtin.Tuple.tupleExact _) (wpAny_newObj_type (wpAny_bind (wpAny_pure (wpAny_pure ⟨_,rfl,wpAny_pure h⟩))) htake)
  | exact wpAny_bind (wpAny_bind (m:=Builtin.Tuple.tupleExact _) (wpAny_newObj_type (wpAny_pure (wpAny_pure ⟨_,rfl,wpAny_pure h⟩)) htake))
  | exact wpAny_bind (wpAny_bind (m:=Builtin.Tuple.tupleExact _) (wpAny_newObj_type (wpAny_pure ⟨_,rfl,wpAny_pure h⟩) htake))
end
end HT
namespace L2
open PySem PySem.Spec PyProof.Rows
abbrev TO:=St->Hp->(Option Int->Hp->Prop)->Prop
def PO(X:Cx)(e:Option Expr)(t:TO):Prop:=
 ∀ (pins:List (Addr×Obj)) (s:Shared) (σ:St) (H:Hp) (Q:Option Int->Hp->Prop),Inv X pins σ H s->t σ H Q ->
  wpAny (model X.prog X.w) X.A (evalPart e X.env) (fun u s'=>∃ o H',Inv X pins σ H' s'/\IsPart u o/\Q o H') X.xe s
noncomputable def Mq:TO:=fun _ H Q=>Q none H
noncomputable def tPart(t:TE):TO:=fun σ H Q=>t σ H fun x H1=>∃ i,x=.int i/\Q (some i) H1
section
variable{X:Cx}{e:Expr}{te:TE}{lo hi:Option Expr}{tl th:TO}{pos p2:Pos}
theorem MZ:PO X none Mq:=by
 intro pins s σ H Q I h
 rw [evalPart_none]
 exact wpAny_pure ⟨none,H,I,.none,h⟩
theorem MY(h:PE X e te):PO X (some e) (tPart te):=by
 intro pins s σ H Q I hw
 rw [evalPart_some]
 refine cZ (h pins s σ H _ I hw) fun u s1 ⟨x,H1,I1,r1,q1⟩=>?_
 obtain⟨i,rfl,q⟩:=q1
 obtain⟨t,rfl⟩:=r1
 exact⟨some i,H1,I1,.int i t,q⟩
def SlR(X:Cx)(r:V->Option Int->Option Int->Hp->VK->Prop):Prop:=
 ∀ (pins:List (Addr×Obj)) (s:Shared) (σ:St) (H:Hp) (x:V) (v vl vu:Value) (lo hi:Option Int) (sl:Addr) (Q:VK),Inv X pins σ H s->RelV x v->s.heap.IsSliceOf sl vl vu .none->IsPart vl lo->IsPart vu hi->r x lo hi H Q ->
  ∃ T id,typeLookup (.type T) "__getitem__" = pure (some (.builtin id))/\s.TypeIs v T/\wpAny (model X.prog X.w) X.A (getItem v (.ref sl)) (EP X pins σ Q) X.xe s
theorem SlR.or{r r':V->Option Int->Option Int->Hp->VK->Prop}(h:SlR X r)(h':SlR X r'):SlR X (fun x lo hi H Q=>r x lo hi H Q\/r' x lo hi H Q):=by
 intro pins s σ H x v vl vu lo hi sl Q I rx hs pl pu q
 rcases q with q | q
 ·exact h pins s σ H x v vl vu lo hi sl Q I rx hs pl pu q
 ·exact h' pins s σ H x v vl vu lo hi sl Q I rx hs pl pu q
def tSl(r:V->Option Int->Option Int->Hp->VK->Prop)(te:TE)(tl th:TO):TE:=fun σ H Q=>te σ H fun x H1=>tl σ H1 fun l H2=>th σ H2 fun u H3=>r x l u H3 Q
theorem Jj{r:V->Option Int->Option Int->Hp->VK->Prop}(hr:SlR X r)(he:PE X e te)(hl:PO X lo tl)(hu:PO X hi th):PE X (.Subscript e (.Slice lo hi none p2) pos) (tSl r te tl th):=by
 intro pins s σ H Q I h
 refine Subscript_ (cZ (he pins s σ H _ I h) fun v s1 ⟨x,H1,I1,r1,q1⟩=>?_)
 refine wpAny_Slice (cZ (hl pins s1 σ H1 _ I1 q1) fun vl s2 ⟨l,H2,I2,pl,q2⟩=>cZ (hu pins s2 σ H2 _ I2 q2) fun vu s3 ⟨u,H3,I3,pu,q3⟩=>?_)
 rw [evalPart_none]
 refine wpAny_pure ?_
 have I4:Inv X pins σ H3 { s3 with heap:=s3.heap.push { cls:=.type "slice",data:=.fields #[vl,vu,.none] } }:=I3.kept (t':=s3.toks) fun b ob q=>Heap.get?_push_of_some _ q
 obtain⟨T,id,hT,ht,hg⟩:=hr pins { s3 with heap:=s3.heap.push { cls:=.type "slice",data:=.fields #[vl,vu,.none] } } σ H3 x v vl vu l u s3.heap.objs.size Q I4 r1 (Heap.IsSliceOf.new ..) pl pu q3
 show wpAny (model X.prog X.w) X.A (subscriptTail e (.Slice lo hi none p2) v (.ref s3.heap.objs.size)) (EP X pins σ Q) X.xe { s3 with heap:=s3.heap.push { cls:=.type "slice",data:=.fields #[vl,vu,.none] } }
 exact tail_any (ops:=[.ref s3.heap.objs.size,v]) ht hT hg (by with_unfolding_all rfl)
noncomputable def Bt(xs:List V)(lo hi:Option Int):List V:=(xs.drop (HT.eJ xs.length 0 lo)).take (HT.eJ xs.length xs.length hi - HT.eJ xs.length 0 lo)
theorem qL(xs:List V)(lo hi:Option Int):(Bt xs lo hi).length<=xs.length:=by
 unfold Bt
 rw [List.length_take,List.length_drop]
 omega
def rSlT(K:PySem.W.Frag):V->Option Int->Option Int->Hp->VK->Prop:=fun x lo hi H Q=>∃ a xs,x=.ref a/\lI K H a xs /\
 ¬ (HT.eJ xs.length 0 lo=0/\HT.eJ xs.length xs.length hi=xs.length)/\∀ p,H p=none->Q (.ref p) (upd H p (.tup (Bt xs lo hi)))
theorem Qz:SlR X (rSlT X.K):=by
 intro pins s σ H x v vl vu lo hi sl Q I rx hs pl pu h
 obtain⟨a,xs,rfl,hx,hw,q⟩:=h
 cases rx
 obtain⟨its,r,ht,hz⟩:=I.tuple hx
 have hlen:its.toArray.size=xs.length:=by rw [List.size_toArray];exact r.length.symm
 refine⟨"tuple",_,PyProof.Rows.slot_tuple_getitem.lookup,ht.typeIs,?_⟩
 refine HT.oV ht hs pl pu (by rw [hlen];exact hw) ?_ (by rw [hlen];exact hz)
 rw [hlen]
 refine⟨.ref s.heap.objs.size,_,I.laid (t':=s.toks) (o:=.tup (Bt xs lo hi)) (fun b ob q=>Heap.get?_push_of_some _ q) (Nat.le_refl _) ?_,rfl,q _ (I.hok.fresh (Nat.le_refl _))⟩
 exact⟨Nat.le_trans (qL xs lo hi) hz,_,(r.drop (HT.eJ xs.length 0 lo)).take (HT.eJ xs.length xs.length hi - HT.eJ xs.length 0 lo),IsTupN.new _ _⟩
noncomputable def rCatT(K:PySem.W.Frag):R2:=fun x y H Q=>∃ a b xs ys,x=.ref a/\y=.ref b/\lI K H a xs/\lI K H b ys/\xs≠[]/\xs.length+ys.length<=sizeLine /\
 (ys=[]->Q (.ref a) H)/\(ys≠[]->∀ p,H p=none->Q (.ref p) (upd H p (.tup (xs++ys))))
theorem Vals.nil_iff{xs:List V}{us:List Value}(r:Vals xs us):us=[]↔xs=[]:=by
 cases r with
 | nil=>simp
 | cons _ _=>simp
theorem Nt:OpR X (binaryOp .Add) (rCatT X.K):=by
 intro pins s σ H x y v u Q I rx ry h
 obtain⟨a,b,xs,ys,rfl,rfl,ha,hb,hx,hz,q1,q2⟩:=h
 cases rx
 cases ry
 obtain⟨its,r1,p1,_⟩:=I.tuple ha
 obtain⟨its2,r2,p2,_⟩:=I.tuple hb
 refine HT.OV p1 p2 (fun z=>hx (r1.nil_iff.mp z)) (fun z=>⟨.ref a,H,I,rfl,q1 (r2.nil_iff.mp z)⟩) (fun z=>?_) (by rw [<- r1.length,<- r2.length];exact hz)
 refine⟨.ref s.heap.objs.size,_,I.laid (t':=s.toks) (o:=.tup (xs++ys)) (fun b ob q=>Heap.get?_push_of_some _ q) (Nat.le_refl _) ?_,rfl,q2 (fun w=>z (r2.nil_iff.mpr w)) _ (I.hok.fresh (Nat.le_refl _))⟩
 exact⟨by rw [List.length_append];exact hz,_,r1.append r2,IsTupN.new _ _⟩
end
end L2
namespace L2
open PySem PySem.Spec PyProof.Rows
def GG(n:Nat)(i:Int):Option Nat:=if 0<=i then (if i<n then some i.toNat else none) else if -(n:Int)<=i then some (i+n).toNat else none
noncomputable def lA{α:Type}(xs:List α)(i:Int):Option α:=(GG xs.length i).bind fun j=>xs[j]?
theorem EU{n:Nat}{i:Int}{j:Nat}(h:GG n i=some j):seqIndex? i n=some j/\j<n/\-(n:Int)<=i/\i<n:=by
 unfold GG at h
 by_cases h0:0<=i
 ·rw [if_pos h0] at h
  by_cases h1:i<n
  ·rw [if_pos h1] at h
   have e:i.toNat=j:=Option.some.inj h
   exact⟨by rw [seqIndex_of h0 h1,e],by omega,by omega,h1⟩
  ·rw [if_neg h1] at h;cases h
 ·rw [if_neg h0] at h
  by_cases h1:-(n:Int)<=i
  ·rw [if_pos h1] at h
   have e:(i+n).toNat=j:=Option.some.inj h
   exact⟨by rw [seqIndex_neg (by omega) h1,e],by omega,h1,by omega⟩
  ·rw [if_neg h1] at h;cases h
theorem Ft{α:Type}{xs:List α}{i:Int}{v:α}(h:lA xs i=some v):∃ j,seqIndex? i xs.length=some j/\xs[j]?=some v/\j<xs.length/\-(xs.length:Int)<=i/\i<xs.length:=by
 unfold lA at h
 cases e:GG xs.length i with
 | none=>rw [e] at h;cases h
 | some j=>
  rw [e] at h
  obtain⟨h1,h2,h3,h4⟩:=EU e
  exact⟨j,h1,h,h2,h3,h4⟩
def nj(b:Expr):Prop:=∀ o i,subscripted b false o i=operate [o,i] (getItem o i)
def IxR(X:Cx)(r:R2):Prop:=
 ∀ (value slice:Expr) (pins:List (Addr×Obj)) (s:Shared) (σ:St) (H:Hp) (x y:V) (v u:Value) (Q:VK),Inv X pins σ H s->RelV x v->RelV y u->r x y H Q ->
  subscripted slice false v u=operate [v,u] (getItem v u)->wpAny (model X.prog X.w) X.A (subscriptTail value slice v u) (EP X pins σ Q) X.xe s
def MtR(X:Cx)(id:String)(r:V->List V->Hp->VK->Prop):Prop:=
 ∀ (pins:List (Addr×Obj)) (s:Shared) (σ:St) (H:Hp) (x:V) (xs:List V) (v:Value) (us:List Value) (Q:VK),Inv X pins σ H s->RelV x v->Vals xs us->r x xs H Q ->
  wpAny (model X.prog X.w) X.A (call (.builtin id) (v::us)) (EP X pins σ Q) X.xe s
section
variable{X:Cx}{a b:Expr}{ta tb:TE}{pos:Pos}
theorem IxR.or{r r':R2}(h:IxR X r)(h':IxR X r'):IxR X (fun x y H Q=>r x y H Q\/r' x y H Q):=by
 intro value slice pins s σ H x y v u Q I rx ry q hs
 rcases q with q | q
 ·exact h value slice pins s σ H x y v u Q I rx ry q hs
 ·exact h' value slice pins s σ H x y v u Q I rx ry q hs
theorem Jl{r:R2}(hr:IxR X r)(ha:PE X a ta)(hb:PE X b tb)(hs:nj b):PE X (.Subscript a b pos) (tOp r ta tb):=by
 intro pins s σ H Q I h
 exact Subscript_ (Tx ha hb I h fun v u s2 x y H2 I2 rx ry q=>hr a b pins s2 σ H2 x y v u Q I2 rx ry q (hs _ _))
noncomputable def rIxL(K:PySem.W.Frag):R2:=fun x y H Q=>∃ p xs i v,x=.ref p/\y=.int i/\om K H p xs/\lA xs i=some v/\Q v H
noncomputable def rIxT(K:PySem.W.Frag):R2:=fun x y H Q=>∃ p xs i v,x=.ref p/\y=.int i/\lI K H p xs/\lA xs i=some v/\Q v H
theorem ix_list:IxR X (rIxL X.K):=by
 intro value slice pins s σ H x y v u Q I rx ry h hs
 obtain⟨p,xs,i,z,rfl,rfl,hq,he,q⟩:=h
 cases rx
 obtain⟨t,rfl⟩:=ry
 obtain⟨its,r,pl,hz⟩:=I.list hq
 obtain⟨j,h1,h2,h3,h4,h5⟩:=Ft he
 obtain⟨w,ew,rw'⟩:=r.get h2
 have hl:=r.length
 have hn:=pO
 have fin:EP X pins σ Q w s:=⟨z,H,I,rw',q⟩
 by_cases h0:0<=i
 ·have hj:i.toNat=j:=by
   rw [seqIndex_of h0 h5] at h1
   exact Option.some.inj h1
  exact item_listR pl.isList h0 (by omega) (by rw [hj];simpa using ew) fin hs
 ·have hj:(i+(its.toArray.size:Int)).toNat=j:=by
   rw [seqIndex_neg (by omega) h4] at h1
   rw [List.size_toArray,<- hl]
   exact Option.some.inj h1
  exact subscriptTail_builtinR (x:=w) pl.isList.typeIs slot_list_getitem.lookup
   (wpAny_getItem_list_neg (Q:=fun r s'=>r=w/\EP X pins σ Q r s') pl.isList (by omega) (by rw [List.size_toArray] <;> omega) (by omega) (by rw [hj];simpa using ew) ⟨rfl,fin⟩) hs
theorem Sf:IxR X (rIxT X.K):=by
 intro value slice pins s σ H x y v u Q I rx ry h hs
 obtain⟨p,xs,i,z,rfl,rfl,hq,he,q⟩:=h
 cases rx
 obtain⟨t,rfl⟩:=ry
 obtain⟨its,r,pl,hz⟩:=I.tuple hq
 obtain⟨j,h1,h2,h3,h4,h5⟩:=Ft he
 obtain⟨w,ew,rw'⟩:=r.get h2
 have hl:=r.length
 have hn:=pO
 have fin:EP X pins σ Q w s:=⟨z,H,I,rw',q⟩
 exact subscriptTail_builtinR (x:=w) pl.typeIs slot_tuple_getitem.lookup
  (getItem_tuple (j:=j) (Q:=fun r s'=>r=w/\EP X pins σ Q r s') pl (by omega) (by omega) (by rw [List.size_toArray,<- hl];exact h1) (by simpa using ew) ⟨rfl,fin⟩) hs
theorem CB(its:List Value)(n j:Nat)(u:Value):Obj.mapSeq (·.setIfInBounds j u) { cls:=.type "list",data:=.seq its.toArray n } = { cls:=.type "list",data:=.seq (its.set j u).toArray n }:=by
 simp [Obj.mapSeq]
theorem Inv.lst{pins:List (Addr×Obj)}{σ:St}{H:Hp}{s:Shared}{p:Addr}{xs:List V}(I:Inv X pins σ H s)(h:H p=some (.lst xs)) :
  ∃ (its:List Value) (n:Nat),Vals xs its/\s.heap.get? p=some { cls:=.type "list",data:=.seq its.toArray n }/\xs.length<=sizeLine:=by
 obtain⟨z,its,n,r,e⟩:=I.hok p _ h
 exact⟨its,n,r,e,z⟩
theorem Inv.lstUpd{pins:List (Addr×Obj)}{σ:St}{H:Hp}{s:Shared}{p:Addr}{xs ys:List V}{its its':List Value}{n n':Nat}{f:Obj->Obj}(I:Inv X pins σ H s)(h:H p=some (.lst xs))
  (ho:s.heap.get? p=some { cls:=.type "list",data:=.seq its.toArray n }) (hf:f { cls:=.type "list",data:=.seq its.toArray n } = { cls:=.type "list",data:=.seq its'.toArray n' }) (r:Vals ys its') (hz:ys.length<=sizeLine) (t:Nat) :
  Inv X pins σ (upd H p (.lst ys)) { s with heap:=s.heap.update p f,toks:=t }:=by
 have e:(s.heap.update p f).get? p=some { cls:=.type "list",data:=.seq its'.toArray n' }:=by
  rw [Heap.get?_update_self f ho (by rw [hf] <;> rfl),hf]
 refine I.write (x:=p) (e:=p) (by rw [h];trivial) (.inl rfl) (fun b u hb q=>(Heap.get?_update_other _ _ (Ne.symm hb)).trans q) ⟨_,e⟩ ?_
 exact⟨hz,its',n',r,e⟩
def rSetL:V->V->V->Hp->(Hp->Prop)->Prop:=fun o i v H Q=>∃ p xs k j,o=.ref p/\i=.int k/\H p=some (.lst xs)/\GG xs.length k=some j/\Q (upd H p (.lst (xs.set j v)))
theorem IH:PSet X rSetL:=by
 intro pins s σ H o i v ov iv u Q I ro ri rv h
 obtain⟨p,xs,k,j,rfl,rfl,hp,hj,q⟩:=h
 cases ro
 obtain⟨t,rfl⟩:=ri
 obtain⟨its,n,r,ho,hz⟩:=I.lst hp
 obtain⟨h1,h2,h3,h4⟩:=EU hj
 have hl:=r.length
 have hn:=pO
 have I':Inv X pins σ (upd H p (.lst (xs.set j v))) { s with heap:=s.heap.update p (Obj.mapSeq (·.setIfInBounds j u)) }:=
  I.lstUpd hp ho (CB its n j u) (r.set rv j) (by rw [List.length_set];exact hz) s.toks
 by_cases h0:0<=k
 ·have hk:k.toNat=j:=by
   rw [seqIndex_of h0 h4] at h1
   exact Option.some.inj h1
  exact PySem.W.ki_setAt ho h0 (by omega) (by rw [List.size_toArray,<- hl];exact h4) (by rw [hk];exact⟨_,I',q⟩)
 ·have hk:(k+(its.toArray.size:Int)).toNat=j:=by
   rw [seqIndex_neg (by omega) h3] at h1
   rw [List.size_toArray,<- hl]
   exact Option.some.inj h1
  exact PySem.W.ki_setBack ho (by omega) (by rw [List.size_toArray,<- hl];exact h3) (by omega) (by rw [hk];exact⟨_,I',q⟩)
theorem wV(lo hi:Option Int)(n:Nat):(sliceBounds lo hi none n).1=((HT.eJ n 0 lo:Nat):Int)/\(sliceBounds lo hi none n).2.1=((HT.eJ n n hi:Nat):Int)/\(sliceBounds lo hi none n).2.2=1:=by
 refine⟨?_,?_,rfl⟩
 ·cases lo with
  | none=>simp [sliceBounds,HT.eJ]
  | some i=>
   simp only [sliceBounds,HT.eJ,Option.getD_none,show (1:Int)>0 by decide,if_true]
   by_cases h:i<0
   ·simp only [h,if_true] <;> omega
   ·simp only [h,if_false] <;> omega
 ·cases hi with
  | none=>simp [sliceBounds,HT.eJ]
  | some i=>
   simp only [sliceBounds,HT.eJ,Option.getD_none,show (1:Int)>0 by decide,if_true]
   by_cases h:i<0
   ·simp only [h,if_true] <;> omega
   ·simp only [h,if_false] <;> omega
theorem uD(its:List Value)(lo hi:Option Int):slicePick its.toArray lo hi none=((its.drop (HT.eJ its.length 0 lo)).take (HT.eJ its.length its.length hi - HT.eJ its.length 0 lo)).toArray:=by
 obtain⟨h1,h2,h3⟩:=wV lo hi its.toArray.size
 unfold slicePick
 rw [h1,h2,h3]
 simp only [sliceRange_one,pick_run,List.size_toArray] <;> rfl
def rSlL(K:PySem.W.Frag):V->Option Int->Option Int->Hp->VK->Prop:=fun x lo hi H Q=>∃ a xs,x=.ref a/\om K H a xs/\∀ p,H p=none->Q (.ref p) (upd H p (.lst (Bt xs lo hi)))
theorem Mu:SlR X (rSlL X.K):=by
 intro pins s σ H x v vl vu lo hi sl Q I rx hs pl pu h
 obtain⟨a,xs,rfl,hx,q⟩:=h
 cases rx
 obtain⟨its,r,ht,hz⟩:=I.list hx
 have hlen:=r.length
 refine⟨"list",_,slot_list_getitem.lookup,ht.isList.typeIs,?_⟩
 refine wpAny_getItem_list_slice ht.isList hs pl pu .none (by simp) ?_ (by rw [List.size_toArray] <;> omega)
 rw [uD,<- hlen]
 refine⟨.ref s.heap.objs.size,_,I.laid (t':=s.toks) (o:=.lst (Bt xs lo hi)) (fun b ob q=>Heap.get?_push_of_some _ q) (Nat.le_refl _) ?_,rfl,q _ (I.hok.fresh (Nat.le_refl _))⟩
 exact⟨Nat.le_trans (qL xs lo hi) hz,_,0,(r.drop (HT.eJ xs.length 0 lo)).take (HT.eJ xs.length xs.length hi - HT.eJ xs.length 0 lo),Heap.get?_push_size _ rfl⟩
theorem call_len_seq:CallR X (.builtin "len") (fun xs H Q=>∃ p ys,xs=[.ref p]/\(om X.K H p ys\/lI X.K H p ys)/\Q (.int ys.length) H):=by
 intro pins s σ H xs us Q I r h
 obtain⟨p,ys,rfl,hq,q⟩:=h
 obtain⟨u,rfl,rx⟩:=qm r
 cases rx
 have hn:=pO
 rcases hq with hq | hq
 ·obtain⟨its,r',pl,hz⟩:=I.list hq
  have hlen:=r'.length
  exact Calls.call_len_list pl.isList (by simp only [List.size_toArray] <;> omega) ⟨.int ys.length,H,I.tok _,⟨s.toks+1,by rw [List.size_toArray,hlen]⟩,q⟩
 ·obtain⟨its,r',pl,hz⟩:=I.tuple hq
  have hlen:=r'.length
  exact len_tuple pl (by simp only [List.size_toArray] <;> omega) ⟨.int ys.length,H,I.tok _,⟨s.toks+1,by rw [List.size_toArray,hlen]⟩,q⟩
theorem yR:CallR X (.builtin "len") (fun xs H Q=>∃ z,xs=[.str z]/\z.length<=sizeLine/\Q (.int z.length) H):=by
 intro pins s σ H xs us Q I r h
 obtain⟨z,rfl,hz,q⟩:=h
 obtain⟨u,rfl,t,rfl⟩:=qm r
 have hn:=pO
 exact len_str (by omega) ⟨.int z.length,H,I.tok _,⟨_,rfl⟩,q⟩
theorem CallR.or{f:Value}{r r':List V->Hp->VK->Prop}(h:CallR X f r)(h':CallR X f r'):CallR X f (fun xs H Q=>r xs H Q\/r' xs H Q):=by
 intro pins s σ H xs us Q I rs q
 rcases q with q | q
 ·exact h pins s σ H xs us Q I rs q
 ·exact h' pins s σ H xs us Q I rs q
theorem yQ:CallR X (.type "list") (fun xs H Q=>∃ p ys,xs=[.ref p]/\(om X.K H p ys\/lI X.K H p ys)/\∀ l,H l=none->Q (.ref l) (upd H l (.lst ys))):=by
 intro pins s σ H xs us Q I r h
 obtain⟨p,ys,rfl,hq,q⟩:=h
 obtain⟨u,rfl,rx⟩:=qm r
 cases rx
 have fin:∀ (its:List Value),Vals ys its->ys.length<=sizeLine->∀ (h':Heap) (c':Nat),(∀ b o',s.heap.get? b=some o'->h'.get? b=some o') ->
   h'.get? s.heap.objs.size=some { cls:=.type "list",dict:=none,data:=.seq its.toArray c',slots:=#[] }->EP X pins σ Q (.ref s.heap.objs.size) { s with heap:=h' }:=fun its r' hz h' c' kp e=>
  ⟨.ref s.heap.objs.size,_,I.laid (t':=s.toks) kp (Nat.le_refl _) (show ObjOk X.prog X.w _ h' _ (.lst ys) from ⟨hz,its,c',r',e⟩),rfl,q _ (I.hok.fresh (Nat.le_refl _))⟩
 rcases hq with hq | hq
 ·obtain⟨its,r',pl,hz⟩:=I.list hq
  have hlen:=r'.length
  obtain⟨o,ho,hc,n,hd⟩:=pl.isList
  exact call_list_seq p (.inl rfl) ho hc hd (fun h' c' kp e=>fin its r' hz h' c' kp e) (by simp only [List.size_toArray] <;> omega)
 ·obtain⟨its,r',pl,hz⟩:=I.tuple hq
  have hlen:=r'.length
  obtain⟨o,ho,hc,n,hd⟩:=pl
  exact call_list_seq p (.inr rfl) ho hc hd (fun h' c' kp e=>fin its r' hz h' c' kp e) (by simp only [List.size_toArray] <;> omega)
theorem vk:CallR X (.type "tuple") (fun xs H Q=>∃ p ys,xs=[.ref p]/\((om X.K H p ys/\∀ l,H l=none->Q (.ref l) (upd H l (.tup ys)))\/(lI X.K H p ys/\Q (.ref p) H))):=by
 intro pins s σ H xs us Q I r h
 obtain⟨p,ys,rfl,h⟩:=h
 obtain⟨u,rfl,rx⟩:=qm r
 cases rx
 rcases h with ⟨hq,q⟩ | ⟨hq,q⟩
 ·obtain⟨its,r',pl,hz⟩:=I.list hq
  have hlen:=r'.length
  refine call_tuple_list pl.isList (fun h' kp=>?_) (by simp only [List.size_toArray] <;> omega)
  have I1:Inv X pins σ H { s with heap:=h' }:=I.kept (t':=s.toks) kp
  have I2:Inv X pins σ (upd H h'.objs.size (.tup ys)) { s with heap:=h'.push { cls:=.type "tuple",data:=.seq its.toArray } }:=
   I1.laid (t':=s.toks) (fun b o e=>Heap.get?_push_of_some _ e) (Nat.le_refl _) (show ObjOk X.prog X.w _ _ _ (.tup ys) from ⟨hz,its,r',IsTupN.new _ _⟩)
  exact⟨.ref h'.objs.size,_,I2,rfl,q _ (I1.hok.fresh (Nat.le_refl _))⟩
 ·obtain⟨its,r',pl,hz⟩:=I.tuple hq
  exact call_tuple_same pl ⟨.ref p,H,I,rfl,q⟩
def tyV(K:PySem.W.Frag)(T:String)(x:V)(H:Hp):Prop:=match x with
 | .str _=>T = "str"
 | .int _=>T = "int"
 | .ref p=>(T = "list"/\∃ xs,om K H p xs)\/(T = "tuple"/\∃ o,K.lookup p=some o/\o.cls=.type "tuple"/\o.dict=none) \/
   (T = "dict"/\((∃ kvs,H p=some (.dK kvs))\/∃ kvs,H p=some (.dT kvs)))\/(T = "set"/\∃ S n,H p=some (.set S n))
 | _=>False
theorem Qr{pins:List (Addr×Obj)}{σ:St}{H:Hp}{s:Shared}{T:String}{x:V}{v:Value}(I:Inv X pins σ H s)(r:RelV x v)(ty:tyV X.K T x H) :
  s.TypeIs v T/\∀ a,v=.ref a->∃ ob,s.heap.get? a=some ob/\ob.dict=none:=by
 cases x with
 | str z=>
  obtain⟨t,rfl⟩:=r
  cases (show T = "str" from ty)
  exact⟨typeIs_str s z t,fun _ e=>nomatch e⟩
 | int i=>
  obtain⟨t,rfl⟩:=r
  cases (show T = "int" from ty)
  exact⟨typeIs_int s i t,fun _ e=>nomatch e⟩
 | ref p=>
  cases r
  rcases ty with ⟨rfl,xs,hq⟩ | ⟨rfl,o,hk,hc,hd⟩ | ⟨rfl,hk⟩ | ⟨rfl,S,n,hk⟩
  ·obtain⟨its,_,pl,_⟩:=I.list hq
   refine⟨pl.isList.typeIs,fun a e=>?_⟩
   cases e
   obtain⟨o,n,e,c,hd,_⟩:=pl
   exact⟨o,e,hd⟩
  ·refine⟨⟨o,I.kIn p o hk,hc⟩,fun a e=>?_⟩
   cases e
   exact⟨o,I.kIn _ o hk,hd⟩
  ·have z:∃ o,s.heap.get? p=some o/\o.ExactDict:=by
    rcases hk with ⟨kvs,hk⟩ | ⟨kvs,hk⟩
    ·obtain⟨_,_,_,_,o,_,_,e,ex,_⟩:=I.hok p _ hk
     exact⟨o,e,ex⟩
    ·obtain⟨_,_,_,_,o,_,_,e,ex,_⟩:=I.hok p _ hk
     exact⟨o,e,ex⟩
   obtain⟨o,e,ex⟩:=z
   refine⟨⟨o,e,ex.1⟩,fun a e2=>?_⟩
   cases e2
   exact⟨o,e,ex.2.1⟩
  ·obtain⟨o,_,_,_,e,ex,_⟩:=I.hok p _ hk
   refine⟨⟨o,e,ex.1⟩,fun a e2=>?_⟩
   cases e2
   exact⟨o,e,ex.2.1⟩
 | _=>exact False.elim ty
def tBM(K:PySem.W.Frag)(T:String)(r:V->List V->Hp->VK->Prop)(to:TE)(t:TA):TE:=fun σ H Q=>to σ H fun x H1=>tyV K T x H1/\t σ H1 fun xs H2=>r x xs H2 Q
variable{o e:Expr}{es:List Expr}{to:TE}{t:TA}{name:Str}{apos cpos:Pos}{T id:String}{r:V->List V->Hp->VK->Prop}
theorem pe_bm(pa:PlainAttrs T)(slot:Slot T name id)(hty:typeOf (.builtin id)=pure (.type "method_descriptor"))(hm:MtR X id r)(ho:PE X o to)(ha:PA X (e::es) t)
  (hbase:attributeBase o name X.env (eval o X.env)=eval o X.env:=by rfl)
  (hfew:((backTo cpos (starEach (e::es) X.env)).all (fun x=>!x.1)&&(backToKw cpos (keywordEach [] X.env)).all (fun x=>x.1.isSome)
   && decide ((e::es).length+([]:List Keyword).length+(if ([]:List Keyword).isEmpty then 0 else 1)<30))=true:=by rfl)
  (hline:(apos.endLine == cpos.line)=true:=by rfl) (hs:starEach (e::es) X.env=(false,eval e X.env)::starEach es X.env:=by rfl) (hplain:(backTo cpos (starEach es X.env)).any (·.1)=false:=by rfl) :
  PE X (.Call (.Attribute o name apos) (e::es) [] cpos) (tBM X.K T r to t):=by
 intro pins s σ H Q I h
 refine wpAny_Call_method_late hbase hfew hline rfl (cZ (ho pins s σ H _ I h) fun v s1 ⟨x,H1,I1,r1,ty,q1⟩=>?_)
 obtain⟨h1,h2⟩:=Qr I1 r1 ty
 refine⟨T,id,pa,slot,hty,h1,h2,?_⟩
 have hA:=ha cpos pins s1 σ H1 _ I1 q1
 rw [hs] at hA ⊢
 refine Calls.callWith_builtin (by show (false||(backTo cpos (starEach es X.env)).any (·.1))=false;rw [hplain] <;> rfl) (Calls.evalArgs_plain ?_)
 exact cZ hA fun us s2 ⟨vs,H2,I2,r2,q2⟩=>hm pins s2 σ H2 x vs v us Q I2 r1 r2 q2
end
end L2
namespace L2
open PySem PySem.Spec PyProof.Rows
def MtM(X:Cx)(id:String)(r:V->List V->Hp->VK->Prop):Prop:=
 ∀ (pins:List (Addr×Obj)) (s:Shared) (σ:St) (H:Hp) (x:V) (xs:List V) (v:Value) (us:List Value) (Q:VK),Inv X pins σ H s->RelV x v->Vals xs us->r x xs H Q ->
  wpAny (model X.prog X.w) X.A (call (.builtin id) (v::us)) (EP X pins σ Q) X.xe s
theorem Vals.one:∀ {x:V} {us:List Value},Vals [x] us->∃ u,us=[u]/\RelV x u
 | _,_,.cons r .nil=>⟨_,rfl,r⟩
theorem Vals.two:∀ {x y:V} {us:List Value},Vals [x,y] us->∃ u v,us=[u,v]/\RelV x u/\RelV y v
 | _,_,_,.cons r (.cons q .nil)=>⟨_,_,rfl,r,q⟩
theorem Vals.rep{xs:List V}{us:List Value}(h:Vals xs us):∀ k:Nat,Vals (List.replicate k xs).flatten (List.replicate k us).flatten
 | 0=>.nil
 | k+1=>by
  rw [List.replicate_succ,List.replicate_succ,List.flatten_cons,List.flatten_cons]
  exact Vals.append h (Vals.rep h k)
theorem wv(its:List Value):∀ (k:Nat) (acc:List Value),
  List.foldl (fun x1 x2=>x1++x2) acc.toArray (List.replicate k its.toArray)=(acc++(List.replicate k its).flatten).toArray
 | 0,acc=>by simp
 | k+1,acc=>by
  have e:acc.toArray++its.toArray=(acc++its).toArray:=by simp
  have e2:(acc++its)++(List.replicate k its).flatten=acc++(List.replicate (k+1) its).flatten:=by
   rw [List.replicate_succ,List.flatten_cons,List.append_assoc]
  rw [<- e2,<- wv its k (acc++its),<- e,List.replicate_succ,List.foldl_cons]
section
variable{X:Cx}{pins:List (Addr×Obj)}{σ:St}{H:Hp}{s:Shared}{l b:Addr}{xs ys zs:List V}
theorem Inv.lset{its its':List Value}{n:Nat}{f:Array Value->Array Value}{t':Nat}(I:Inv X pins σ H s)(hH:H l=some (.lst xs))
  (e:s.heap.get? l=some { cls:=.type "list",data:=.seq its.toArray n }) (hf:f its.toArray=its'.toArray) (hv:Vals ys its') (hz:ys.length<=sizeLine) :
  Inv X pins σ (upd H l (.lst ys)) { s with heap:=s.heap.update l (Obj.mapSeq f),toks:=t' }:=by
 have q:=PySem.IsL.update e f
 rw [hf] at q
 refine I.write (x:=l) (e:=l) (by rw [hH];exact trivial) (.inl rfl) (fun b' u hb hu=>(Heap.get?_update_other s.heap (Obj.mapSeq f) (Ne.symm hb)).trans hu) ⟨_,q⟩ ?_
 exact⟨hz,its',_,hv,q⟩
theorem Inv.lnew{its:List Value}{t':Nat}(I:Inv X pins σ H s)(hv:Vals ys its)(hz:ys.length<=sizeLine) :
  Inv X pins σ (upd H s.heap.objs.size (.lst ys)) { s with heap:=s.heap.push { cls:=.type "list",data:=.seq its.toArray },toks:=t' }:=
 I.laid (fun _ _ q=>Heap.get?_push_of_some _ q) (Nat.le_refl _) ⟨hz,its,0,hv,Heap.get?_push_size _ rfl⟩
theorem Inv.fresh(I:Inv X pins σ H s):H s.heap.objs.size=none:=I.hok.fresh (Nat.le_refl _)
theorem Inv.lstM(I:Inv X pins σ H s)(hH:H l=some (.lst xs)):xs.length<=sizeLine/\∃ (its:List Value) (n:Nat),Vals xs its/\xs.length=its.length/\s.heap.get? l=some { cls:=.type "list",data:=.seq its.toArray n }:=by
 obtain⟨z,its,n,r,e⟩:=I.hok l _ hH
 exact⟨z,its,n,r,r.length,e⟩
theorem zT{n:Nat}(h:n<=sizeLine):Builtin.List.listTooLong n=false:=by
 unfold Builtin.List.listTooLong
 exact decide_eq_false (by omega)
end
section
variable{X:Cx}
def MJ:V->List V->Hp->VK->Prop:=fun x vs H Q=>∃ l xs y,x=.ref l/\vs=[y]/\H l=some (.lst xs)/\xs.length<sizeLine/\Q .non (upd H l (.lst (xs++[y])))
theorem vI:MtM X "list.append" MJ:=by
 intro pins s σ H x vs v us Q I rx rv h
 obtain⟨l,xs,y,rfl,rfl,hH,hz,q⟩:=h
 cases rx
 obtain⟨u,rfl,ru⟩:=rv.one
 obtain⟨z,its,n,r,hl,e⟩:=I.lstM hH
 refine call_meets F.slot_list_append ⟨_,e,rfl⟩ F.entry_list_append (F.args_list_append_2 _ _) (PySem.list_append l its.toArray n u (by rw [List.size_toArray];omega)) ⟨e,?_⟩
 refine⟨.non,_,I.lset (its':=its++[u]) hH e (by simp) (r.append (.cons ru .nil)) ?_,rfl,q⟩
 rw [List.length_append,List.length_singleton]
 omega
def MH:V->List V->Hp->VK->Prop:=fun x vs H Q=>∃ l b xs zs,x=.ref l/\vs=[.ref b]/\H l=some (.lst xs)/\H b=some (.lst zs)/\xs.length+zs.length<=sizeLine/\Q .non (upd H l (.lst (xs++zs)))
theorem mt_extend:MtM X "list.extend" MH:=by
 intro pins s σ H x vs v us Q I rx rv h
 obtain⟨l,b,xs,zs,rfl,rfl,hH,hB,hz,q⟩:=h
 cases rx
 obtain⟨u,rfl,ru⟩:=rv.one
 cases ru
 obtain⟨z,its,n,r,hl,e⟩:=I.lstM hH
 obtain⟨z2,its2,n2,r2,hl2,e2⟩:=I.lstM hB
 have hsz:its.toArray.size+its2.toArray.size<=sizeLine:=by rw [List.size_toArray,List.size_toArray];omega
 have hlong:¬ (!its.toArray.isEmpty&&Builtin.List.listTooLong (its.toArray.size+its2.toArray.size))=true:=by
  rw [zT hsz,Bool.and_false]
  exact Bool.false_ne_true
 refine call_meets F.slot_list_extend ⟨_,e,rfl⟩ F.entry_list_extend (F.args_list_extend_2 _ _)
  (AutoSeq1.list_extend_list_list_0 l its.toArray n b its2.toArray n2 hlong (by rw [List.size_toArray];omega) (by omega)) ⟨e,e2,?_⟩
 refine⟨.non,_,I.lset (its':=its++its2) hH e (by simp) (r.append r2) ?_,rfl,q⟩
 rw [List.length_append]
 omega
noncomputable def rCat:R2:=fun x y H Q=>∃ l b xs zs,x=.ref l/\y=.ref b/\H l=some (.lst xs)/\H b=some (.lst zs)/\xs.length+zs.length<=sizeLine/\∀ p,H p=none->Q (.ref p) (upd H p (.lst (xs++zs)))
theorem Ju:OpR X (binaryOp .Add) rCat:=by
 intro pins s σ H x y v u Q I rx ry h
 obtain⟨l,b,xs,zs,rfl,rfl,hH,hB,hz,q⟩:=h
 cases rx
 cases ry
 obtain⟨z,its,n,r,hl,e⟩:=I.lstM hH
 obtain⟨z2,its2,n2,r2,hl2,e2⟩:=I.lstM hB
 refine PySem.P.add_list e e2 ?_ (by rw [List.size_toArray,List.size_toArray];omega)
 have ea:its.toArray++its2.toArray=(its++its2).toArray:=by simp
 rw [ea]
 exact⟨.ref _,_,I.lnew (t':=s.toks) (r.append r2) (by rw [List.length_append];omega),rfl,q _ I.fresh⟩
noncomputable def rRep:R2:=fun x y H Q=>∃ l k xs,x=.ref l/\y=.int k/\H l=some (.lst xs)/\-(2 ^ 63)<=k/\k<2 ^ 63/\xs.length * k.toNat<=sizeLine /\
 ∀ p,H p=none->Q (.ref p) (upd H p (.lst (List.replicate k.toNat xs).flatten))
theorem yi{α:Type}(xs:List α)(k:Nat):(List.replicate k xs).flatten.length=k * xs.length:=by
 induction k with
 | zero=>simp
 | succ k ih=>rw [List.replicate_succ,List.flatten_cons,List.length_append,ih,Nat.succ_mul,Nat.add_comm]
theorem Rf:OpR X (binaryOp .Mult) rRep:=by
 intro pins s σ H x y v u Q I rx ry h
 obtain⟨l,k,xs,rfl,rfl,hH,h1,h2,hz,q⟩:=h
 cases rx
 obtain⟨t,rfl⟩:=ry
 obtain⟨z,its,n,r,hl,e⟩:=I.lstM hH
 have hlen:its.toArray.size * k.toNat<=sizeLine:=by rw [List.size_toArray,<- hl];exact hz
 have hcap:¬ its.toArray.size * k.toNat>(2 ^ 63 - 1) / 8:=by
  have:(sizeLine:Nat)<=(2 ^ 63 - 1) / 8:=by decide
  omega
 have hfit:¬ (!Builtin.List.listFitsIndex k)=true:=by
  rw [fitsIndex_both h1 h2]
  exact Bool.false_ne_true
 have hlong:¬ Builtin.List.listTooLong (its.toArray.size * k.toNat)=true:=by
  rw [zT hlen]
  exact Bool.false_ne_true
 have hnew:List.foldl (fun x1 x2=>x1++x2) #[] (List.replicate (if its.toArray.isEmpty=true then 0 else k.toNat) its.toArray)=(List.replicate k.toNat its).flatten.toArray:=by
  have f0:∀ m:Nat,List.foldl (fun x1 x2=>x1++x2) #[] (List.replicate m its.toArray)=(List.replicate m its).flatten.toArray:=fun m=>by
   have:=wv its m []
   rw [List.nil_append] at this
   exact this
  rw [f0]
  cases its with
  | nil=>simp
  | cons a r'=>rw [if_neg (by simp)]
 refine wpAny_binaryOp_repeat_ref (T:="list") (U:="int") (by decide) ⟨_,e,rfl⟩ (fun s'=>typeIs_int s' k t) noFill_list_mul F.fills_int_mul F.slot_int_rmul repeat_list F.slot_int_index.lookup
  (call_meets F.slot_int_rmul (typeIs_int s k t) F.entry_int_rmul (F.args_int_rmul_2 _ _) (int___rmul___int_list k t l its.toArray n)
   ⟨e,rfl,⟨_,e,rfl⟩,call_meets F.slot_list_mul ⟨_,e,rfl⟩ F.entry_list_mul (F.args_list_mul_2 _ _) (AutoListH.list___mul___list_int_3 l its.toArray n k t hfit hcap hlong) ⟨e,?_⟩⟩)
 rw [hnew]
 exact⟨.ref _,_,I.lnew (t':=s.toks) (r.rep k.toNat) (by rw [yi,Nat.mul_comm];exact hz),rfl,q _ I.fresh⟩
end
section
variable{prog:Program}{w:World}{A:Around}{E:Value->Shared->Prop}{s:Shared}
end
section
variable{X:Cx}
end
end L2
namespace L2
open PySem PySem.Spec PyProof.Rows
section
variable{κ:Type}[DecidableEq κ]
noncomputable def rR(kvs:List (κ×V))(k:κ):Option V:=(kvs.find? fun kv=>decide (kv.1=k)).map (·.2)
noncomputable def uM(kvs:List (κ×V))(k:κ)(v:V):List (κ×V):=
 if (kvs.any fun kv=>decide (kv.1=k))=true then kvs.map (fun kv=>if kv.1=k then (kv.1,v) else kv) else kvs++[(k,v)]
theorem rP{p:κ×V}{r:List (κ×V)}{k:κ}(e:p.1=k):rR (p::r) k=some p.2:=by simp [rR,List.find?_cons,e]
theorem rQ{p:κ×V}{r:List (κ×V)}{k:κ}(e:¬ p.1=k):rR (p::r) k=rR r k:=by simp [rR,List.find?_cons,e]
theorem AG(kvs:List (κ×V))(k:κ)(v:V):(uM kvs k v).length<=kvs.length+1:=by
 unfold uM
 split
 ·rw [List.length_map];omega
 ·rw [List.length_append,List.length_cons,List.length_nil];omega
theorem KV.val{kvs:List (κ×V)}{vs:List (κ×Value)}(r:KV kvs vs)(k:κ):RelO (rR kvs k) (valueAt vs k):=by
 unfold KV at r
 induction r with
 | nil=>exact True.intro
 | @cons p q ps qs h t ih=>
  obtain⟨h1,h2⟩:=h
  by_cases e:p.1=k
  ·have e':q.1=k:=h1.symm.trans e
   have b:valueAt (q::qs) k=some q.2:=by simp [valueAt,List.find?_cons,e']
   rw [rP e,b];exact h2
  ·have e':¬ q.1=k:=fun z=>e (h1.trans z)
   have b:valueAt (q::qs) k=valueAt qs k:=by simp [valueAt,List.find?_cons,e']
   rw [rQ e,b];exact ih
theorem KV.any{kvs:List (κ×V)}{vs:List (κ×Value)}(r:KV kvs vs)(k:κ):(kvs.any fun kv=>decide (kv.1=k))=vs.any fun kv=>decide (kv.1=k):=by
 unfold KV at r
 induction r with
 | nil=>rfl
 | cons h t ih=>rw [List.any_cons,List.any_cons,ih,h.1]
theorem KV.repl{kvs:List (κ×V)}{vs:List (κ×Value)}(r:KV kvs vs)(k:κ){y:V}{u:Value}(ry:RelV y u) :
  KV (kvs.map fun kv=>if kv.1=k then (kv.1,y) else kv) (vs.map fun kv=>if kv.1=k then (kv.1,u) else kv):=by
 unfold KV at r ⊢
 induction r with
 | nil=>exact .nil
 | @cons p q ps qs h t ih=>
  rw [List.map_cons,List.map_cons]
  refine .cons ?_ ih
  obtain⟨h1,h2⟩:=h
  by_cases e:p.1=k
  ·rw [if_pos e,if_pos (h1.symm.trans e)];exact⟨h1,ry⟩
  ·rw [if_neg e,if_neg (fun z=>e (h1.trans z))];exact⟨h1,h2⟩
theorem KV.put{kvs:List (κ×V)}{vs:List (κ×Value)}(r:KV kvs vs)(k:κ){y:V}{u:Value}(ry:RelV y u):KV (uM kvs k y) (stored vs k u):=by
 unfold uM stored
 rw [r.any k]
 by_cases e:(vs.any fun kv=>decide (kv.1=k))=true
 ·rw [if_pos e,if_pos e];exact r.repl k ry
 ·rw [if_neg e,if_neg e];exact Paired.snoc r ⟨rfl,ry⟩
theorem KV.length{kvs:List (κ×V)}{vs:List (κ×Value)}(r:KV kvs vs):kvs.length=vs.length:=Paired.length r
end
theorem vX{P:Program}{w:World}{k:bz}{u:Value}(r:RelV (kV k) u):(ca P w).is k u=true:=by
 cases k with
 | inl i=>obtain⟨t,e⟩:=(show ∃ t,u=Value.int i t from r);subst e;exact zY P w i t
 | inr x=>obtain⟨t,e⟩:=(show ∃ t,u=Value.str x t from r);subst e;exact zX P w x t
theorem wa{P:Program}{w:World}:∀ {ks:List bz} {us:List Value},Vals (ks.map kV) us->ItemsAre (ca P w) ks us
 | [],_,r=>by rw [List.map_nil] at r;cases r;exact .nil
 | k::ks,_,r=>by
  rw [List.map_cons] at r
  cases r with
  | cons h t=>exact .cons (vX h) (wa t)
abbrev KT(H:Hp):List (List bz×V)->List (List bz×Addr×Value)->Prop:=Paired fun p q=>p.1=q.1/\H q.2.1=some (.tup (p.1.map kV))/\RelV p.2 q.2.2
theorem KT.val{H:Hp}{kvs:List (List bz×V)}{xs:List (List bz×Addr×Value)}(r:KT H kvs xs)(k:List bz):RelO (rR kvs k) ((atKey xs k).map (·.2)):=by
 induction r with
 | nil=>exact True.intro
 | @cons p q ps qs h t ih=>
  obtain⟨h1,_,h2⟩:=h
  by_cases e:p.1=k
  ·have e':q.1=k:=h1.symm.trans e
   have b:atKey (q::qs) k=some q.2:=by simp [atKey,List.find?_cons,e']
   rw [rP e,b];exact h2
  ·have e':¬ q.1=k:=fun z=>e (h1.trans z)
   have b:atKey (q::qs) k=atKey qs k:=by simp [atKey,List.find?_cons,e']
   rw [rQ e,b];exact ih
section
variable{P:Program}{w:World}{H:Hp}{h:Heap}{a:Addr}
theorem Ps{u:HO}(ok:HOk P w H h)(e:Rd H a u):ObjOk P w H h a u:=e.ok ok
theorem Fi{kvs:List (bz×V)}(ok:HOk P w H h)(e:Rd H a (.dK kvs)):kvs.length<=sizeLine/\(a == sysModules)=false/\∃ vs,KV kvs vs/\h.DictOf (ca P w) a vs:=
 show ObjOk P w H h a (.dK kvs) from Ps ok e
theorem LC{kvs:List (bz×V)}(ok:HOk P w H h)(e:H a=some (.dK kvs)):kvs.length<=sizeLine/\(a == sysModules)=false/\∃ vs,KV kvs vs/\h.DictOf (ca P w) a vs:=Fi ok (.inl e)
theorem JZ{ks:List bz}(ok:HOk P w H h)(e:H a=some (.tup (ks.map kV))):(tupleKind (ca P w)).is h ks a:=by
 obtain⟨_,its,r,o,h1,h2,⟨n,h3⟩,_⟩:=(show ObjOk P w H h a (.tup (ks.map kV)) from ok a _ e)
 exact⟨o,its.toArray,n,h1,h2,h3,by simpa using wa r⟩
theorem Lo{kvs:List (List bz×V)}(ok:HOk P w H h)(e:Rd H a (.dT kvs)):kvs.length<=sizeLine/\(a == sysModules)=false /\
  ∃ xs,KT H kvs xs/\h.DictOfH (tupleKind (ca P w)) a xs:=by
 obtain⟨z,y,xs,r,o,es,ep,h1,h2,h3,h4,h5⟩:=(show ObjOk P w H h a (.dT kvs) from Ps ok e)
 refine⟨z,y,xs,r,o,es,ep,h1,h2,h3,h4,fun x hx=>?_,h5⟩
 have all:∀ {l:List (List bz×V)} {m:List (List bz×Addr×Value)},KT H l m->∀ x∈m,(tupleKind (ca P w)).is h x.1 x.2.1:=by
  intro l m q
  induction q with
  | nil=>intro x hx;exact nomatch hx
  | @cons p q ps qs hq t ih=>
   intro x hx
   rcases List.mem_cons.mp hx with e | hx
   ·subst e
    exact JZ ok (by rw [<- hq.1];exact hq.2.1)
   ·exact ih x hx
 exact all r x hx
end
def DGet(H:Hp)(a:Addr)(y:V)(r:Option V):Prop:=
 (∃ kvs k,Rd H a (.dK kvs)/\y=kV k/\r=rR kvs k)\/∃ kvs k b,Rd H a (.dT kvs)/\y=.ref b/\H b=some (.tup (k.map kV))/\r=rR kvs k
theorem DGet.k{H:Hp}{a:Addr}{kvs:List (bz×V)}{k:bz}(e:H a=some (.dK kvs)):DGet H a (kV k) (rR kvs k):=.inl ⟨kvs,k,.inl e,rfl,rfl⟩
section
variable{X:Cx}{pins:List (Addr×Obj)}{σ:St}{H:Hp}{s:Shared}{a:Addr}{y v:V}{u r:Value}{o:Option V}{A:Around}{E:Value->Shared->Prop}
theorem Inv.big(I:Inv X pins σ H s):sysModules<s.heap.objs.size:=by
 have h:mainGlobals<s.heap.objs.size:=(I.mod.glob.keeps I.bk).lt
 exact Nat.lt_trans (by decide) h
theorem Hz{Q:Value->Shared->Prop}(hu:A.units+1<cLine)(I:Inv X pins σ H s)(g:DGet H a y (some v))(ry:RelV y u)(h:∀ w' s',Inv X pins σ H s'->RelV v w'->Q w' s') :
  wpAny (model X.prog X.w) A (getItem (.ref a) u) Q E s:=by
 rcases g with ⟨kvs,k,e,ey,l⟩ | ⟨kvs,k,b,e,ey,eb,l⟩
 ·subst ey
  obtain⟨z,hd,vs,rel,dd⟩:=Fi I.hok e
  obtain⟨w',hw,rw'⟩:=RelO.some_of (v:=v) (o:=valueAt vs k) (by rw [l];exact rel.val k)
  exact wpAny_getItem_of (vX ry) dd.mapOf hw (h w' _ (I.tok _) rw')
 ·subst ey
  cases (show u=Value.ref b from ry)
  obtain⟨z,hd,xs,rel,dd⟩:=Lo I.hok e
  obtain⟨w',hw,rw'⟩:=RelO.some_of (v:=v) (o:=(atKey xs k).map (·.2)) (by rw [l];exact rel.val k)
  obtain⟨p,hp,hp2⟩:=Option.map_eq_some_iff.mp hw
  refine wpAny_getItem_heap (tupleKind_room_in1 hu) (JZ I.hok eb) dd hp ?_
  rw [hp2]
  exact h w' _ (I.tok _) rw'
theorem Fl{h':Heap}{t':Nat}{ob:HO}(I:Inv X pins σ H s)(mu:Mut (H a))(hs:Heap.SameBut a s.heap h')(he:∃ q,h'.get? a=some q)(new:ObjOk X.prog X.w (upd H a ob) h' a ob) :
  Inv X pins σ (upd H a ob) { s with heap:=h',toks:=t' }:=
 I.write (x:=a) (e:=a) mu (.inl rfl) (fun b q hb z=>(hs.2 b hb).trans z) he new
theorem LD{P:Program}{w:World}{H':Hp}{h':Heap}{kvs:List (bz×V)}{vs:List (bz×Value)}(z:kvs.length<=sizeLine)(hd:(a == sysModules)=false)(rel:KV kvs vs)(dd:h'.DictOf (ca P w) a vs) :
  ObjOk P w H' h' a (.dK kvs):=⟨z,hd,vs,rel,dd⟩
end
section
variable{X:Cx}{pins:List (Addr×Obj)}{σ:St}{H:Hp}{s:Shared}{a:Addr}{kvs:List (bz×V)}{k:bz}{u:Value}{A:Around}{E:Value->Shared->Prop}
end
theorem Bq{X:Cx}{pins:List (Addr×Obj)}{σ:St}{H:Hp}{s:Shared}{a:Addr}{y:V}{o:Option V}(I:Inv X pins σ H s)(g:DGet H a y o):s.TypeIs (.ref a) "dict":=by
 rcases g with ⟨kvs,k,e,_,_⟩ | ⟨kvs,k,b,e,_,_,_⟩
 ·obtain⟨_,_,vs,_,dd⟩:=Fi I.hok e
  exact dd.typeIs
 ·obtain⟨_,_,xs,_,dd⟩:=Lo I.hok e
  exact dd.typeIs
section
variable{X:Cx}{o i e value:Expr}{pos pos' tpos:Pos}{td ty tv:TE}
end
theorem Bp{P:Program}{w:World}{H:Hp}(h:Heap)(hb:sysModules<h.objs.size):ObjOk P w H (h.push { cls:=.type "dict",data:=.dict #[] }) h.objs.size (.dK []):=
 ⟨Nat.zero_le _,beq_eq_false_iff_ne.mpr (Ne.symm (Nat.ne_of_lt hb)),[],.nil,Heap.DictOf.new h⟩
def Qx:TE:=fun _ H Q=>∀ p,H p=none->Q (.ref p) (upd H p (.dK []))
section
variable{X:Cx}{pos:Pos}
theorem Jn:PE X (.Dict [] [] pos) Qx:=fun pins s σ H Q I h=>
 wpAny_Dict_empty ⟨.ref s.heap.objs.size,_,I.laid (a:=s.heap.objs.size) (o:=.dK []) (t':=s.toks) (fun _ _ q=>Heap.get?_push_of_some _ q) (Nat.le_refl _) (Bp s.heap I.big),rfl,h _ (I.hok.fresh (Nat.le_refl _))⟩
end
def wS:List (TE×TE)->St->Hp->(List (V×V)->Hp->Prop)->Prop
 | [],_,H,Q=>Q [] H
 | (tk,tv)::r,σ,H,Q=>tk σ H fun x H1=>tv σ H1 fun y H2=>wS r σ H2 fun ps H3=>Q ((x,y)::ps) H3
abbrev VV:List (V×V)->List (Value×Value)->Prop:=Paired fun p q=>RelV p.1 q.1/\RelV p.2 q.2
def PPs(X:Cx)(pos:Pos)(keys:List (Option Expr))(values:List Expr)(trs:List (TE×TE)):Prop:=
 ∀ (pins:List (Addr×Obj)) (s:Shared) (σ:St) (H:Hp) (Q:List (V×V)->Hp->Prop),Inv X pins σ H s->wS trs σ H Q ->
  wpAny (model X.prog X.w) X.A (evalPairs (pairTrees keys values X.env pos)) (fun vs s'=>∃ ps H',Inv X pins σ H' s'/\VV ps vs/\Q ps H') X.xe s
theorem MX{X:Cx}{pos:Pos}:PPs X pos [] [] []:=fun pins s σ H Q I h=>pairTrees_nil_walk ⟨[],H,I,.nil,h⟩
theorem Jf{X:Cx}{pos:Pos}{k v:Expr}{ks:List (Option Expr)}{vs:List Expr}{tk tv:TE}{trs:List (TE×TE)}(hk:PE X k tk)(hv:PE X v tv)(hr:PPs X pos ks vs trs) :
  PPs X pos (some k::ks) (v::vs) ((tk,tv)::trs):=fun pins s σ H Q I h=>
 pairTrees_cons_walk (cZ (hk pins s σ H _ I h) fun u s1 ⟨x,H1,I1,rx,q1⟩=>cZ (hv pins s1 σ H1 _ I1 q1) fun w2 s2 ⟨y,H2,I2,ry,q2⟩=>
  cZ (hr pins s2 σ H2 _ I2 q2) fun ws s3 ⟨ps,H3,I3,rel,q3⟩=>⟨(x,y)::ps,H3,I3,.cons ⟨rx,ry⟩ rel,q3⟩)
noncomputable def iZ(kvs more:List (bz×V)):List (bz×V):=more.foldl (fun acc kv=>uM acc kv.1 kv.2) kvs
theorem KV.merge:∀ {more:List (bz×V)} {rs:List (bz×Value)} {kvs:List (bz×V)} {vs:List (bz×Value)},KV more rs->KV kvs vs->KV (iZ kvs more) (merged vs rs):=by
 intro more rs kvs vs r
 unfold KV at r
 induction r generalizing kvs vs with
 | nil=>intro q;exact q
 | @cons p q ps qs h t ih=>
  intro r0
  have e:KV (uM kvs p.1 p.2) (stored vs q.1 q.2):=by
   have:=r0.put p.1 h.2
   rw [<- h.1];exact this
  exact ih e
theorem jV:∀ (more kvs:List (bz×V)),(iZ kvs more).length<=kvs.length+more.length
 | [],kvs=>by show kvs.length<=kvs.length+0;omega
 | p::r,kvs=>by
  have h1:=jV r (uM kvs p.1 p.2)
  have h2:=AG kvs p.1 p.2
  show (iZ (uM kvs p.1 p.2) r).length<=_
  rw [List.length_cons];omega
theorem ur{P:Program}{w:World}:∀ {kvs:List (bz×V)} {ws:List (Value×Value)},VV (kvs.map fun kv=>(kV kv.1,kv.2)) ws->∃ rs,Carries (ca P w) ws rs/\KV kvs rs
 | [],_,r=>by rw [List.map_nil] at r;cases r;exact⟨[],True.intro,.nil⟩
 | p::kvs,_,r=>by
  rw [List.map_cons] at r
  cases r with
  | @cons a b as bs h t=>
   obtain⟨rs,c,q⟩:=ur (P:=P) (w:=w) t
   obtain⟨b1,b2⟩:=b
   exact⟨(p.1,b2)::rs,⟨vX h.1,rfl,c⟩,.cons ⟨rfl,h.2⟩ q⟩
def tDisp(trs:List (TE×TE)):TE:=fun σ H Q=>∀ p,H p=none->wS trs σ (upd H p (.dK [])) fun ps H2=>H2 p=some (.dK [])/\∃ kvs:List (bz×V),ps=kvs.map (fun kv=>(kV kv.1,kv.2))/\kvs.length<=15/\Q (.ref p) (upd H2 p (.dK (iZ [] kvs)))
theorem Eo{X:Cx}{pos:Pos}{keys:List (Option Expr)}{values:List Expr}{trs:List (TE×TE)}(h:PPs X pos keys values trs)(hall:keys.all (·.isSome)=true)(hl:keys.length=values.length)(h0:keys≠[])
  (h15:keys.length<=15):PE X (.Dict keys values pos) (tDisp trs):=by
 intro pins s σ H Q I q
 have hn:=I.hok.fresh (Nat.le_refl s.heap.objs.size)
 have I1:=I.laid (a:=s.heap.objs.size) (o:=.dK []) (h':=s.heap.push { cls:=.type "dict",data:=.dict #[] }) (t':=s.toks) (fun _ _ q=>Heap.get?_push_of_some _ q) (Nat.le_refl _) (Bp s.heap I.big)
 refine wpAny_Dict_walk (knd:=ca X.prog X.w) hall hl h0 h15 (cZ (h pins _ σ _ _ I1 (q _ hn)) fun ws s2 ⟨ps,H2,I2,rel,e,kvs,ep,lk,q2⟩=>?_)
 subst ep
 obtain⟨rs,c,rk⟩:=ur (P:=X.prog) (w:=X.w) rel
 obtain⟨z,hd,vs0,r0,dd⟩:=LC I2.hok e
 cases r0
 refine⟨rs,c,dd,fun h' dd' hs=>⟨.ref s.heap.objs.size,_,?_,rfl,q2⟩⟩
 have hz:(iZ [] kvs).length<=sizeLine:=by
  have h1:=jV kvs []
  rw [List.length_nil] at h1
  rw [sizeLine_eq];omega
 have he:∃ q,h'.get? s.heap.objs.size=some q:=let ⟨q,_,_,hq,_⟩:=dd';⟨q,hq⟩
 exact Fl I2 (by rw [e];exact True.intro) hs he (LD hz hd (rk.merge .nil) dd')
def IsD(H:Hp)(a:Addr):Prop:=(∃ kvs,Rd H a (.dK kvs))\/∃ kvs,Rd H a (.dT kvs)
theorem Sh{X:Cx}{pins:List (Addr×Obj)}{σ:St}{H:Hp}{s:Shared}{a:Addr}(I:Inv X pins σ H s)(d:IsD H a) :
  s.TypeIs (.ref a) "dict"/\(∀ b,Value.ref a=.ref b->∃ ob,s.heap.get? b=some ob/\ob.dict=none)/\(a == sysModules)=false:=by
 rcases d with ⟨kvs,e⟩ | ⟨kvs,e⟩
 ·obtain⟨_,hd,vs,_,dd⟩:=Fi I.hok e
  refine⟨dd.typeIs,fun b q=>?_,hd⟩
  cases q
  obtain⟨ob,_,_,h1,h2,_⟩:=dd
  exact⟨ob,h1,h2.2.1⟩
 ·obtain⟨_,hd,xs,_,dd⟩:=Lo I.hok e
  refine⟨dd.typeIs,fun b q=>?_,hd⟩
  cases q
  obtain⟨ob,_,_,h1,h2,_⟩:=dd
  exact⟨ob,h1,h2.2.1⟩
section
variable{X:Cx}{pins:List (Addr×Obj)}{σ:St}{H:Hp}{s:Shared}{a:Addr}{y d:V}{u r:Value}{o:Option V}{A:Around}{E:Value->Shared->Prop}
end
section
variable{X:Cx}{o e f:Expr}{apos cpos:Pos}{td ty tx:TE}
end
section
variable{X:Cx}{pins:List (Addr×Obj)}{σ:St}{H:Hp}{s:Shared}{a:Addr}{kvs:List (bz×V)}{A:Around}{E:Value->Shared->Prop}
end
section
variable{X:Cx}{pins:List (Addr×Obj)}{σ:St}{H:Hp}{s:Shared}{a:Addr}{y:V}{u:Value}{A:Around}{E:Value->Shared->Prop}
end
end L2
namespace Att
open PySem PySem.W PySem.Calls PyProof.Rows
theorem qV{P:Params}{h:Heap}:∀ (ns:List Int) (vs:List Value),WellAll P h vs (ns.map WData.int)->IntsAre vs ns:=by
 intro ns
 induction ns with
 | nil=>
  intro vs w
  rw [List.map_nil] at w
  cases w
  exact .nil
 | cons n ns ih=>
  intro vs w
  rw [List.map_cons] at w
  cases w with
  | cons a b=>
   cases a
   exact .cons _ _ (ih _ b)
theorem FL{l:OpenLaw}{n:Nat}(hn:l.most=some n){P:Params}{h:Heap}{args:List WData}{vals:List Value}
  (hpre:l.row.toRowW.claim.pre args=true) (hwl:WellAll P h vals args) :
  ∃ a vs ns,vals=[Value.ref a]/\args=[WData.list (ns.map WData.int)]/\h.get? a=some { cls:=.type "list",data:=.seq vs.toArray }/\IntsAre vs ns/\ns.length<=n:=by
 have hsh:WShape.hasAll [] args [.list .int]=true:=(pre_splitW hpre).1
 have hc:l.pre.holds [] { args:=args } = true:=(pre_splitW hpre).2
 obtain⟨d,r,rfl,h1,h2⟩:=hasAllW_cons hsh
 obtain rfl:=hasAllW_nil h2
 obtain⟨xs,rfl,h3⟩:=hasW_list h1
 obtain⟨ns,rfl⟩:=items_int h3
 have hlen:ns.length<=n:=by
  unfold OpenLaw.pre at hc
  have h4:(WTm.not (.lt (.lit (.int (n:Int))) (.len (.arg 0)))).holds [] { args:=[.list (ns.map .int)] } = true:=by
   have h4:=(holds_andW hc).1
   rw [hn] at h4
   exact h4
  have h5:=condW_of h4 (w_not (w_lt w_lit (w_len_list (w_arg rfl))))
  rw [List.length_map] at h5
  refine Nat.le_of_not_lt fun q=>?_
  have q':(n:Int)<((ns.length:Nat):Int):=by omega
  first
   | (rw [decide_eq_true q'] at h5;exact absurd h5 (by decide))
   | (simp at h5;omega)
 cases hwl with
 | cons w1 w2=>
  cases w2
  cases w1 with
  | list ho hall=>exact⟨_,_,ns,rfl,rfl,ho,qV ns _ hall,hlen⟩
theorem FT(l:OpenLaw)(args:List WData):l.row.toRowW.claim.post args (.bool true) args=true:=
 postW_of (r:=l.row.toRowW) (X:=(true == true))
  (show WShape.has [] (.bool true) .bool=true by first | rfl | decide | simp [WShape.has,WShape.arms,WShape.armsAll])
  (show (WTm.eq .res (.lit (.bool true))).value [] { args:=args,res:=some (.bool true),after:=args } = some (.bool (true == true)) from w_eq_bool (w_res rfl) w_lit) rfl
theorem BB{l:OpenLaw}{n:Nat}{q:Program}{loose:List Str}{XP:(Str->Option Value)->Heap->Prop}{YP:World->Heap->Prop}{d:DefRec}
  (hn:l.most=some n) (hdf:d.params.defaults=[])
  (call:∀ (w:World) (s₀ s₁:Shared) (mg mb:Str->Option Value) (fa:Addr) (o:Obj) (pm cd doc:Value) (a:Addr) (vs:List Value) (ns:List Int),
   Ground q loose [] XP w s₀ mg mb s₁.heap->YP w s₁.heap ->
   s₁.heap.get? fa=some o->o.data=.func (docDef d.name d.params d.body d.scope pm cd doc)->s₁.heap.CodeRec cd d.name->mg d.name=some (.ref fa) ->
   s₁.heap.get? a=some { cls:=.type "list",data:=.seq vs.toArray }->IntsAre vs ns->ns.length<=n->s₁.gens = #[] ->
   codeAny (model l.prog w) callerA (.call (.ref fa) ⟨[.ref a],[]⟩) (fun r s'=>r=.ok (.ret (.bool true))/\OldK s₁.heap s'.heap/\s'.os=s₁.os/\AllBare s'.gens) s₁) :
  WalkO q loose XP YP l.row.toRowW d [] (fun f vs=>PySem.call f vs):=by
 intro w s₀ s₁ mg mb G Y fa o pm cd doc dV kV ho hd hcd hD hmg hg args vals as hpre hlay hrd hwl hlo
 obtain rfl:dV=.none:=Dflts.none hD hdf
 obtain rfl:kV=.none:=Dflts.noKw hD
 obtain⟨a,vs,ns,rfl,rfl,hobj,hints,hlen⟩:=FL hn hpre hwl
 refine enter_call (codeAny_mono (call w s₀ s₁ mg mb fa o pm cd doc a vs ns G Y ho (fd_plain hd) hcd hmg hobj hints hlen hg) fun r s' hq=>?_)
 obtain⟨rfl,h2,h3,h4⟩:=hq
 exact⟨.inl ⟨.bool true,.bool true,[],rfl,fun _=>rfl,.bool true,FT l _,fun _=>⟨List.Pairwise.nil,fun _ hm=>(nomatch hm)⟩⟩,h2,h3,h4⟩
section
variable{prog:Program}{w:World}{A:Around}{E:Value->Shared->Prop}{s:Shared}{K:Frag}
end
end Att
namespace L2
open PySem PySem.Spec PyProof.Rows
theorem vt:∀ {vs:List Value} {ns:List Int},IntsAre vs ns->Vals (ns.map V.int) vs
 | _,_,.nil=>.nil
 | _,_,.cons n t h=>.cons ⟨t,rfl⟩ (vt h)
def TV(H:Hp):Prop:=∀ b,H b=none\/∃ o xs,H b=some (.frz o (.lst xs))
theorem JY{P:Program}{w:World}{K:PySem.W.Frag}{mg mb:Str->Option Value}{CX:HZ}{k:Nat}{fa a:Addr}{fd:FuncData}{x:Str}{sp:Sp}{s₁:Shared}{vs:List Value}{ns:List Int}
  (KX:K.In s₁.heap) (hns:s₁.heap.Ns mainGlobals mg) (hb:s₁.heap.Ns builtinsNs mb) (hbb:∀ x:Str,x ≠ "__name__"->mb x=bootBuiltins x) (hlim:s₁.heap.NoLimit) (hg:s₁.gens = #[])
  (ha:s₁.heap.get? a=some { cls:=.type "list",data:=.seq vs.toArray }) (hi:IntsAre vs ns) (hl:ns.length<=sizeLine) (hr:Room k callerA)
  (F:∀ base:Heap,K.In base->base.Ns mainGlobals mg->FnOk P w K mg base CX k fa fd [x] sp) (hbind:∀ (s:Shared) (u:Value),BindsTo s fd ⟨[u],[]⟩ [(x,u)])
  (hsp:∀ H:Hp,TV H->om K H a (ns.map V.int)->sp [.ref a] H (fun v _=>v=.bl true) fun _ _ _=>False)
  (hCX:∀ H e s',CX [] H s₁ (fun _ _ _=>False) e s'->False) :
  codeAny (model P w) callerA (.call (.ref fa) ⟨[.ref a],[]⟩) (fun r s'=>r=.ok (.ret (.bool true))/\OldK s₁.heap s'.heap/\s'.os=s₁.os/\AllBare s'.gens) s₁:=by
 have rv:=vt hi
 have lenV:=hi.length
 have core:∀ H:Hp,TV H->om K H a (ns.map V.int)->HOk P w H s₁.heap->(∀ b,H b≠none->b=a)->(H a≠none->K.lookup a=none) ->
   codeAny (model P w) callerA (.call (.ref fa) ⟨[.ref a],[]⟩) (fun r s'=>r=.ok (.ret (.bool true))/\OldK s₁.heap s'.heap/\s'.os=s₁.os/\AllBare s'.gens) s₁:=by
  intro H hO hS hok hA hK
  have base_of:∀ {b:Addr} {o:Obj},s₁.heap.get? b=some o->H b=none->(yx s₁.heap H).get? b=some o:=fun e n=>Kq e n
  have noA:∀ {b:Addr} {o:Obj} {es:Array DictEntry} {ep:Nat},s₁.heap.get? b=some o->o.data=.dict es ep->H b=none:=fun {b o es ep} e d=>by
   cases q:H b with
   | none=>rfl
   | some u=>
    have e':b=a:=hA b (by rw [q];simp)
    subst e'
    rw [ha] at e;cases e
    have d':Data.seq vs.toArray _=Data.dict es ep:=d
    cases d'
  have nsK:∀ {b:Addr} {m:Str->Option Value},s₁.heap.Ns b m->(yx s₁.heap H).Ns b m:=fun {b m} ⟨o,es,ep,e,d,r⟩=>⟨o,es,ep,base_of e (noA e d),d,r⟩
  have hKb:K.In (yx s₁.heap H):=fun b o e=>base_of (KX b o e) (by
   cases q:H b with
   | none=>rfl
   | some u=>
    have e':b=a:=hA b (by rw [q];simp)
    subst e'
    rw [hK (by rw [q];simp)] at e;cases e)
  have hM:Mod K mg (yx s₁.heap H):=⟨hKb,nsK hns,⟨mb,nsK hb,hbb⟩,let ⟨mc,h1,h2⟩:=hlim;⟨mc,nsK h1,h2⟩⟩
  have e0:Pm P w K mg (yx s₁.heap H) callerA [] s₁ H:=⟨rfl,hM,fun b o e=>NB e,Nat.le_of_eq (GP _ _),trivial,fun b hb=>absurd (show b∈([]:List Addr) from hb) (by simp),hok,.of_eq hg⟩
  refine codeAny_mono ((F _ hKb (nsK hns)).run callerA [] s₁ H ⟨[.ref a],[]⟩ [.ref a] [.ref a] _ _ hr e0 (hbind s₁ (.ref a)) (.cons rfl .nil) (hsp H hO hS)) fun r s' h=>?_
  cases r with
  | error e=>exact(hCX H e s' h).elim
  | ok fl=>
   cases fl with
   | next=>exact False.elim h
   | brk=>exact False.elim h
   | cont=>exact False.elim h
   | ret u=>
    obtain⟨v,H',os,bare,un,hok',r',q⟩:=h
    have q':v=.bl true:=q
    subst q'
    obtain rfl:u=Value.bool true:=r'
    refine⟨rfl,OldK.of_keep fun b o e=>?_,os,bare⟩
    cases q:H b with
    | none=>exact un.keep b o e q (by intro z;exact absurd (show b∈([]:List Addr) from z) (by simp)) (by simp)
    | some u=>
     rcases hO b with z | ⟨ob,xs,z⟩
     ·rw [q] at z;cases z
     ·have z2:=un.frzs b ob _ z
      obtain⟨e1,_⟩:=hok b _ z
      obtain⟨e2,_⟩:=hok' b _ z2
      rw [e] at e1;cases e1
      exact e2
 cases hk:K.lookup a with
 | some o=>
  have e:=KX a o hk
  rw [ha] at e
  cases e
  refine core (fun _=>none) (fun _=>.inl rfl) (.inr ⟨_,vs.toArray,_,hk,rfl,rfl,rfl,by rw [List.size_toArray,lenV];exact hl,by simpa using rv⟩) (fun b u z=>by have z':(none:Option HO)=some u:=z;cases z') (fun b z=>absurd rfl z) fun z=>absurd rfl z
 | none=>
  refine core (fun b=>if b=a then some (.frz { cls:=.type "list",data:=.seq vs.toArray } (.lst (ns.map V.int))) else none) (fun b=>?_) (.inl (.inr ⟨{ cls:=.type "list",data:=.seq vs.toArray },if_pos rfl⟩)) (fun b u z=>?_) (fun b z=>?_) fun _=>hk
  ·by_cases hb:b=a
   ·exact .inr ⟨_,_,if_pos hb⟩
   ·exact .inl (if_neg hb)
  ·by_cases hb:b=a
   ·have z':=(if_pos hb).symm.trans z
    cases z'
    subst hb
    exact⟨ha,by rw [List.length_map];exact hl,vs,_,rv,ha⟩
   ·have z':=(if_neg hb).symm.trans z
    cases z'
  ·by_cases hb:b=a
   ·exact hb
   ·exact absurd (if_neg hb) z
end L2
namespace L2
open PySem PySem.Spec PyProof.Rows
theorem Mj{l:PySem.W.OpenLaw}{n k:Nat}{q:Program}{loose:List Str}{XP:(Str->Option Value)->Heap->Prop}{YP:World->Heap->Prop}{d:DefRec}{K:Params->PySem.W.Frag}{CX:World->HZ}{sp:World->Sp}{x:Str}
  (hn:l.most=some n) (hn2:n<=sizeLine) (hdf:d.params.defaults=[]) (hr:Room k callerA)
  (hY:∀ (w:World) (h:Heap),YP w h->(K w.params).In h)
  (F:∀ (w:World) (mg:Str->Option Value) (fa:Addr) (h:Heap),(K w.params).In h->h.Ns mainGlobals mg->mg d.name=some (.ref fa) ->
   ∃ fd:FuncData,(∀ (s:Shared) (u:Value),BindsTo s fd ⟨[u],[]⟩ [(x,u)]) /\
    ∀ base:Heap,(K w.params).In base->base.Ns mainGlobals mg->FnOk l.prog w (K w.params) mg base (CX w) k fa fd [x] (sp w))
  (hsp:∀ (w:World) (H:Hp) (a:Addr) (ns:List Int),ns.length<=n->TV H->om (K w.params) H a (ns.map V.int)->sp w [.ref a] H (fun v _=>v=.bl true) fun _ _ _=>False)
  (hCX:∀ (w:World) (H:Hp) (s:Shared) (e:Value) (s':Shared),CX w [] H s (fun _ _ _=>False) e s'->False) :
  PySem.W.WalkO q loose XP YP l.row.toRowW d [] (fun f vs=>PySem.call f vs):=by
 refine Att.BB hn hdf fun w s₀ s₁ mg mb fa o pm cd doc a vs ns G Y ho hd hcd hmg hobj hints hlen hg=>?_
 have KX:=hY w _ Y
 obtain⟨fd,hb,hF⟩:=F w mg fa _ KX G.T.g hmg
 exact JY KX G.T.g G.T.b G.T.builtins G.T.nolimit hg hobj hints (Nat.le_trans hlen hn2) hr hF hb (fun H hO hS=>hsp w H a ns hlen hO hS) fun H e s'=>hCX w H s₁ e s'
end L2
namespace L2
open PySem PySem.Spec PyProof.Rows
noncomputable def iL(s:Stmt):Arguments:=match s with
 | .FunctionDef _ a _ _ _ _ _ _ _ _=>a
 | _=>{ posonlyargs:=[],args:=[],vararg:=none,kwonlyargs:=[],kw_defaults:=[],kwarg:=none,defaults:=[] }
noncomputable def aI(s:Stmt):List Stmt:=match s with
 | .FunctionDef _ _ b _ _ _ _ _ _ _=>b
 | _=>[]
noncomputable def ax(s:Stmt):Scope:=match s with
 | .FunctionDef _ _ _ _ _ _ sc _ _ _=>sc
 | _=>{ kind:=.function,names:=[],isGenerator:=false,isCoroutine:=false }
noncomputable abbrev Fw:HZ:=fun _ _ _ _ _ _=>False
noncomputable abbrev E0:XK:=fun _ _ _=>False
theorem Js{X:Cx}:zb Fw X E0:=fun _ _ _ _ _ _ _ h=>h.elim
structure Fun(K:PySem.W.Frag)(x qual:Str)(st:Stmt)(f:Addr)(fd:FuncData):Prop where
 ex:∃ (oc:Value) (od:Option Addr) (kV doc pm:Value) (an:Option Addr) (cdv ct:Value) (osl:Array (Option Value)),
  fd=PySem.W.fnOf x qual (iL st) (aI st) (ax st) .none kV doc pm an cdv ct/\K.lookup f=some ⟨oc,od,.func fd,osl⟩/\PySem.W.codeIn K cdv qual=true
 kp:PySem.W.keepIn K (.ref f)=true
section
variable{P:Program}{w:World}{K:PySem.W.Frag}{mg:Str->Option Value}{base:Heap}
theorem Fun.ok{x qual:Str}{st:Stmt}{f:Addr}{fd:FuncData}{N ps:List Str}{k:Nat}{sp:Sp}(F:Fun K x qual st f fd)(S:aS N ps (ax st))(len:∀ vs H Q E,sp vs H Q E->vs.length=ps.length)
  (hbody:∀ (cdv:Value) (A:Around) (outer:List Env) (s:Shared) (H:Hp) (vs:List V) (Q:VK) (E:XK),Room k (A.deeper (envOfC qual (ax st) s.heap.objs.size f cdv))->sp vs H Q E ->
   ∃ t,PSs (vi Fw P w K mg base N qual (ax st) f cdv A outer s H E).nox (aI st) t/\t { nx:=fun _ H'=>Q .non H',rt:=Q } (start N vs) H):FnOk P w K mg base Fw (k+1) f fd ps sp:=by
 obtain⟨oc,od,kV,doc,pm,an,cdv,ct,osl,rfl,lk,hcd⟩:=F.ex
 refine fn_of lk hcd S len fun A outer s H vs Q E hr hsp=>?_
 obtain⟨t,h,q⟩:=hbody cdv A outer s H vs Q E hr hsp
 exact⟨t,h.nox,q⟩
theorem Fun.binds{x qual:Str}{st:Stmt}{f:Addr}{fd:FuncData}{ps:List Str}(F:Fun K x qual st f fd)
  (h:∀ (kV doc pm:Value) (an:Option Addr) (cdv ct:Value) (us:List Value),us.length=ps.length->bindArgs (PySem.W.fnOf x qual (iL st) (aI st) (ax st) .none kV doc pm an cdv ct) ⟨us,[]⟩=pure (ps.zip us)):Binds K fd ps []:=by
 obtain⟨oc,od,kV,doc,pm,an,cdv,ct,osl,rfl,lk,hcd⟩:=F.ex
 exact .all (h kV doc pm an cdv ct)
theorem Sl{x qual:Str}{st:Stmt}{f:Addr}{oc:Value}{od an:Option Addr}{osl:Array (Option Value)}{kV doc pm cdv ct:Value}(l:K.lookup f=some ⟨oc,od,.func (PySem.W.fnOf x qual (iL st) (aI st) (ax st) .none kV doc pm an cdv ct),osl⟩)
  (c:PySem.W.codeIn K cdv qual=true) (k:PySem.W.keepIn K (.ref f)=true):Fun K x qual st f (PySem.W.fnOf x qual (iL st) (aI st) (ax st) .none kV doc pm an cdv ct):=⟨⟨oc,od,kV,doc,pm,an,cdv,ct,osl,rfl,l,c⟩,k⟩
end
section
variable{X:Cx}
end
section
variable{κ:Type}[DecidableEq κ]
end
end L2
namespace L2
open PySem PySem.Spec PyProof.Rows
noncomputable def mI(cells:List (Str×Addr)):List (Str×NameKind)->List (Str×Addr)->List (Str×Addr)
 | [],acc=>acc
 | (n,k)::r,acc=>if k == .free then mI cells r ((n,(cells.lookup n).getD 0)::acc) else mI cells r acc
theorem iA{env:Env}:∀ (names:List (Str×NameKind)) (acc:List (Str×Addr)),(∀ x∈names,x.2=.free->(env.cells.lookup x.1).isSome=true) ->
  (forIn names acc fun(x:Str×NameKind) (r:List (Str×Addr))=>(do
   if x.2 == .free then do let c <- cellOf env x.1;pure (ForInStep.yield ((x.1,c)::r)) else pure (ForInStep.yield r):Sem (ForInStep (List (Str×Addr)))))=pure (mI env.cells names acc)
 | [],acc,_=>rfl
 | (n,k)::r,acc,h=>by
  rw [List.forIn_cons]
  cases hk:k == NameKind.free with
  | true=>
   have e:k=.free:=by simpa using hk
   have hs:=h (n,k) List.mem_cons_self e
   obtain⟨c,hc⟩:=Option.isSome_iff_exists.mp hs
   have hc':env.cells.lookup n=some c:=hc
   have hce:cellOf env n=pure c:=by unfold cellOf;rw [hc']
   simp only [if_true,hce,hc',Option.getD_some,pure_bind,mI,hk]
   rw [iA r _ fun x hx=>h x (List.mem_cons_of_mem _ hx)]
  | false=>
   simp only [Bool.false_eq_true,if_false,pure_bind,mI,hk]
   exact iA r _ fun x hx=>h x (List.mem_cons_of_mem _ hx)
theorem nM{scope:Scope}{env:Env}(h:∀ x∈scope.names,x.2=.free->(env.cells.lookup x.1).isSome=true):closureFor scope env=pure (mI env.cells scope.names []):=by
 have q:=iA (env:=env) scope.names [] h
 unfold closureFor
 refine Eq.trans ?_ (Eq.trans (congrArg (fun(m:Sem (List (Str×Addr)))=>m >>= fun cs=>pure cs) q) ?_)
 ·rfl
 ·rfl
theorem qe(cells:List (Str×Addr)):∀ (names:List (Str×NameKind)) (acc:List (Str×Addr)),(∀ x∈names,x.2=.free->(cells.lookup x.1).isSome=true)->(∀ y c,acc.lookup y=some c->cells.lookup y=some c) ->
  ∀ y c,(mI cells names acc).lookup y=some c->cells.lookup y=some c
 | [],_,_,ha=>ha
 | (n,k)::r,acc,h,ha=>by
  unfold mI
  split
  ·rename_i hk
   refine qe cells r _ (fun x hx=>h x (List.mem_cons_of_mem _ hx)) fun y c e=>?_
   rw [List.lookup_cons] at e
   split at e
   ·rename_i hy
    have hy':y=n:=by simpa using hy
    subst hy'
    obtain⟨c',hc'⟩:=Option.isSome_iff_exists.mp (h (y,k) List.mem_cons_self (by simpa using hk))
    have hc'':cells.lookup y=some c':=hc'
    rw [hc''] at e ⊢
    exact e
   ·exact ha y c e
  ·exact qe cells r _ (fun x hx=>h x (List.mem_cons_of_mem _ hx)) ha
theorem oh(cells:List (Str×Addr)):∀ (names:List (Str×NameKind)) (acc:List (Str×Addr)) (y:Str),(acc.lookup y).isSome=true->((mI cells names acc).lookup y).isSome=true
 | [],_,_,h=>h
 | (n,k)::r,acc,y,h=>by
  unfold mI
  split
  ·refine oh cells r _ y ?_
   rw [List.lookup_cons]
   split
   ·rfl
   ·exact h
  ·exact oh cells r _ y h
theorem pv(cells:List (Str×Addr)):∀ (names:List (Str×NameKind)) (acc:List (Str×Addr)) (y:Str),(y,NameKind.free)∈names->((mI cells names acc).lookup y).isSome=true
 | [],_,_,h=>by simp at h
 | (n,k)::r,acc,y,h=>by
  unfold mI
  rcases List.mem_cons.mp h with e | h
  ·cases e
   rw [if_pos (by rfl)]
   exact oh cells r _ _ (by rw [List.lookup_cons];simp)
  ·split
   ·exact pv cells r _ y h
   ·exact pv cells r _ y h
theorem la{scope:Scope}{env:Env}{y:Str}:∀ {names:List (Str×NameKind)},
  ((names.map fun(n,k)=>if (k == NameKind.free&&env.scope.kind == .function&&env.kindOf n == some .cell) then (n,NameKind.cell) else (n,k)).lookup y=some .cell \/
  (names.map fun(n,k)=>if (k == NameKind.free&&env.scope.kind == .function&&env.kindOf n == some .cell) then (n,NameKind.cell) else (n,k)).lookup y=some .free) ->
  (∀ x∈names,x.2≠.cell)->(y,NameKind.free)∈names
 | [],h,_=>by simp at h
 | (n,k)::r,h,hc=>by
  have ih:=@la scope env y r
  have hr:∀ x∈r,x.2≠.cell:=fun x hx=>hc x (List.mem_cons_of_mem _ hx)
  rw [List.map_cons] at h
  by_cases hq:(k == NameKind.free&&env.scope.kind == .function&&env.kindOf n == some .cell)=true
  ·have hk:k=.free:=by
    have:=hq
    simp only [Bool.and_eq_true] at this
    simpa using this.1.1
   simp only [hq,if_true] at h
   simp only [List.lookup_cons] at h
   cases hy:y == n with
   | true=>
    have e:y=n:=by simpa using hy
    rw [e,hk]
    exact List.mem_cons_self
   | false=>
    simp only [hy] at h
    exact List.mem_cons_of_mem _ (ih h hr)
  ·simp only [hq,Bool.false_eq_true,if_false] at h
   simp only [List.lookup_cons] at h
   cases hy:y == n with
   | true=>
    simp only [hy] at h
    have e:y=n:=by simpa using hy
    rcases h with h | h
    ·exact absurd (Option.some.inj h) (hc (n,k) List.mem_cons_self)
    ·rw [e,<- Option.some.inj h]
     exact List.mem_cons_self
   | false=>
    simp only [hy] at h
    exact List.mem_cons_of_mem _ (ih h hr)
noncomputable def pB(X:Cx)(N':List Str)(scope:Scope)(C:Addr)(s:Shared)(H:Hp)(fp:List Addr):Cx:=
 {X with N:=N',s₀:=s,H₀:=H,env:=compEnvC scope (mI X.env.cells scope.names []) C X.env,outer:=X.stack,ex:=fp,fn:=fun _=>false,pn:=[],xe:=fun _ _=>False }
def Pj(X:Cx)(ifs:List Expr)(t:TT):Prop:=
 ∀ (pins:List (Addr×Obj)) (s:Shared) (σ:St) (H:Hp) (Q:Bool->Hp->Prop),Inv X pins σ H s->t σ H Q->wpAny (model X.prog X.w) X.A (forIn ifs true fun c r=>if r=true then do let ok <- isTrue c X.env (eval c X.env);pure (ForInStep.yield ok) else pure (ForInStep.yield r)) (TP X pins σ Q) X.xe s
theorem MN{X:Cx}:Pj X [] (fun _ H Q=>Q true H):=fun _ _ _ H _ I h=>wpAny_tests_nil ⟨H,I,h⟩
theorem MM{X:Cx}{c:Expr}{t:TT}(h:PT X c t):Pj X [c] t:=fun pins s σ H Q I q=>wpAny_tests_one (h pins s σ H Q I q)
noncomputable def rT(e tg:Expr)(p0:Pos)(ifs:List Expr)(d:Nat)(it acc:Value)(env:Env)(bc:Sem Unit):Sem Fin:=do
 standAt p0
 let r <- pyNext it
 match r with
 | none=>pure (Fin.done Flow.next)
 | some v=>do
  letOwnedTupleGo tg it v
  assign tg env v
  let ok <- forIn ifs true fun c r=>if r=true then do let ok <- isTrue c env (eval c env);pure (ForInStep.yield ok) else pure (ForInStep.yield r)
  if ok=true then do bc;again (.compLoop e d it acc env) else again (.compLoop e d it acc env)
noncomputable def SM(elt:Expr)(acc:Value)(env:Env):Sem Unit:=do
 let x <- eval elt env
 let _ <- call (.builtin "list.append") [acc,x]
 pure ()
section
variable{prog:Program}{w:World}{A:Around}{R:Result->Shared->Prop}{s:Shared}
theorem mG{e elt tg:Expr}{gens:List Comprehension}{scope:Scope}{pos p0:Pos}{ifs:List Expr}{d:Nat}{it acc:Value}{env:Env}{bc:Sem Unit}(he:e=.ListComp elt gens scope pos)(htn:compTurn e d it acc env=rT e tg p0 ifs d it acc env bc)(I:Nat->Shared->Prop)
  (turn:∀ n s,I n s->wpAny (model prog w) A (pyNext it) (fun r s₁=>match r with
   | none=>R (.ok .next) s₁
   | some v=>wpAny (model prog w) A (letOwnedTupleGo tg it v) (fun _ s₁'=>wpAny (model prog w) A (assign tg env v) (fun _ s₂=>
     wpAny (model prog w) A (forIn ifs true fun c r=>if r=true then do let ok <- isTrue c env (eval c env);pure (ForInStep.yield ok) else pure (ForInStep.yield r)) (fun ok s₃=>
      if ok=true then wpAny (model prog w) A bc (fun _ s₅=>∃ m,m<n/\I m s₅) (fun _ _=>False) s₃
      else ∃ m,m<n/\I m s₃) (fun _ _=>False) s₂) (fun _ _=>False) s₁') (fun _ _=>False) s₁) (fun _ _=>False) s)
  (n:Nat) (h:I n s) :
  codeAny (model prog w) A (.compLoop e d it acc env) R s:=by
 refine codeAny_loop rfl I (fun n s hI=>?_) n h
 subst he
 show wpAny _ A ((compTurn (.ListComp elt gens scope pos) d it acc env).onRaise (fun x=>do noteFrame x env;theTreesLotGoes x)) _ _ s
 refine wpAny_noted ?_
 rw [htn]
 refine wpAny_bind (wpAny_standAt (wpAny_bind (wpAny_mono (turn n s hI) (fun r s₁ h₁=>?_) fun _ _ h'=>h'.elim)))
 cases r with
 | none=>exact wpAny_pure h₁
 | some v=>
  refine wpAny_bind (wpAny_mono h₁ (fun _ s₁' h₁'=>?_) fun _ _ h'=>h'.elim)
  refine wpAny_bind (wpAny_mono h₁' (fun _ s₂ h₂=>wpAny_bind (wpAny_mono h₂ (fun ok s₃ h₃=>?_) fun _ _ h'=>h'.elim)) fun _ _ h'=>h'.elim)
  cases ok with
  | false=>exact wpAny_pure ⟨rfl,h₃⟩
  | true=>exact wpAny_bind (wpAny_mono h₃ (fun _ s₅ h₅=>wpAny_pure ⟨rfl,h₅⟩) fun _ _ h'=>h'.elim)
end
abbrev TB:=St->Hp->(St->Hp->Prop)->Prop
def PB(X:Cx)(m:Sem Unit)(tb:TB):Prop:=
 ∀ (pins:List (Addr×Obj)) (s:Shared) (σ:St) (H:Hp) (Q:St->Hp->Prop),Inv X pins σ H s->tb σ H Q->wpAny (model X.prog X.w) X.A m (fun _ s'=>∃ σ' H',Inv X pins σ' H' s'/\Q σ' H') X.xe s
def tEm(te:TE)(p:Addr):TB:=fun σ H Q=>te σ H fun y H5=>∃ ys,H5 p=some (.lst ys)/\ys.length<sizeLine/\Q σ (upd H5 p (.lst (ys++[y])))
theorem Ep{X:Cx}{elt:Expr}{te:TE}{p:Addr}(he:PE X elt te):PB X (SM elt (.ref p) X.env) (tEm te p):=fun pins s σ H Q I h=>by
 refine wpAny_bind (cZ (he pins s σ H _ I h) fun xv s8 ⟨y,H8,J8,r8,q8⟩=>?_)
 obtain⟨ys,hy,hz,q9⟩:=q8
 refine wpAny_bind (cZ (vI _ s8 σ H8 (.ref p) [y] (.ref p) [xv] (fun _ H9=>H9=upd H8 p (.lst (ys++[y]))) J8 rfl (.cons r8 .nil) ⟨_,ys,y,rfl,rfl,hy,hz,rfl⟩) fun _ s9 ⟨_,H9,J9,_,e9⟩=>?_)
 subst e9
 exact wpAny_pure ⟨_,_,J9,q9⟩
def Iv(J:It)(g:TG)(tt:TT)(tb:TB)(σ:St)(H:Hp)(Q:St->Hp->Prop):Prop:=∃ W:Nat->Nat->St->Hp->Prop,(∃ m,W 0 m σ H)/\∀ i m σ' H',W i m σ' H' ->
 (J.stop i H'/\Q σ' H')\/(J.go i H'/\∀ x H2,J.yld i H' x H2->g x σ' H2 fun σ2 H3=>tt σ2 H3 fun ok H4=>
  if ok=true then tb σ2 H4 fun σ3 H5=>∃ m',m'<m/\W (i+1) m' σ3 H5 else ∃ m',m'<m/\W (i+1) m' σ2 H4)
theorem HD{X:Cx}{e elt tg:Expr}{gens:List Comprehension}{scope:Scope}{pos p0:Pos}{ifs:List Expr}{d:Nat}{acc:Value}{bc:Sem Unit}{g:TG}{tt:TT}{tb:TB}{it:Addr}{fp:List Addr}{tn:Nat->Heap->Prop}{J:It}
  (hc:X.calm=true) (hx:∀ e s,X.xe e s->False) (hl:e=.ListComp elt gens scope pos) (htn:compTurn e d (.ref it) acc X.env=rT e tg p0 ifs d (.ref it) acc X.env bc) (hg:PG X tg g) (ht:Pj X ifs tt) (hb:PB X bc tb) (T:DX X.prog X.w X.K tg J fp it tn)
  {pins:List (Addr×Obj)} {s:Shared} {σ:St} {H:Hp} {Q:St->Hp->Prop} (I:Inv X pins σ H s) (st:tn 0 s.heap) (f2:∀ b∈fp,qk X pins H b) (h:Iv J g tt tb σ H Q) :
  codeAny (model X.prog X.w) X.A (.compLoop e d (.ref it) acc X.env) (fun r s'=>∃ σ' H',r=.ok .next/\Inv X pins σ' H' s'/\Q σ' H') s:=by
 obtain⟨W,⟨m0,w0⟩,turn⟩:=h
 have no:∀ e s,X.xe e s->(fun(_:Value) (_:Shared)=>False) e s:=hx
 have stat:∀ {H':Hp},(∀ b∈fp,H' b=none)->∀ b∈fp,qk X pins H' b:=fun hn b hb=>⟨hn b hb,(f2 b hb).2⟩
 refine mG hl htn (fun n s'=>∃ i σ' H',Inv X pins σ' H' s'/\tn i s'.heap/\(∀ b∈fp,H' b=none)/\W i n σ' H') ?_ m0 ⟨0,_,_,I,st,fun b hb=>(f2 b hb).1,w0⟩
 rintro n s3 ⟨i,σ3,H3,J3,st3,fr3,w3⟩
 rcases turn i n σ3 H3 w3 with ⟨stop,qn⟩ | ⟨go,step⟩
 ·refine cZ (T.done X rfl rfl rfl hc i pins s3 σ3 H3 _ J3 (stat fr3) st3 stop) fun r s4 ⟨hr,J4⟩=>?_
  subst hr
  exact⟨σ3,H3,rfl,J4,qn⟩
 ·refine cZ (T.item X rfl rfl rfl hc i pins s3 σ3 H3 _ J3 (stat fr3) st3 go) fun r s4 ⟨u,hr,h4⟩=>?_
  subst hr
  refine cZ h4 fun _ s5 ⟨x,H5,J5,r5,y5,st5,fr5⟩=>?_
  have J5':=J5.pinned (stat fr5) (T.obj _ _ st5)
  refine wpAny_mono (hg _ s5 σ3 H5 x u _ J5' r5 (step x H5 y5)) (fun _ s6 ⟨σ6,H6,J6,q6⟩=>?_) no
  refine wpAny_mono (ht _ s6 σ6 H6 _ J6 q6) (fun ok s7 ⟨H7,J7,q7⟩=>?_) no
  have again:∀ {s':Shared} {σ7:St} {H7:Hp},Inv X (pins++sx fp s5.heap) σ7 H7 s'->(∃ m',m'<n/\W (i+1) m' σ7 H7)->∃ m,m<n/\∃ i σ' H',Inv X pins σ' H' s'/\tn i s'.heap/\(∀ b∈fp,H' b=none)/\W i m σ' H':=fun {s' σ7 H7} J7 n7=>by
   obtain⟨m',hm,w7⟩:=n7
   refine⟨m',hm,i+1,σ7,H7,J7.unpinned,T.keep _ _ _ st5 fun b hb o e=>(J7.pin (b,o) (List.mem_append_right _ (List.mem_append_right _ (lh hb e)))).1,fun b hb=>?_,w7⟩
   obtain⟨o,e,d⟩:=T.obj _ _ st5 b hb
   exact(J7.pin (b,o) (List.mem_append_right _ (List.mem_append_right _ (lh hb e)))).2.1
  cases ok with
  | false=>
   rw [if_neg Bool.false_ne_true] at q7 ⊢
   exact again J7 q7
  | true=>
   rw [if_pos rfl] at q7 ⊢
   exact wpAny_mono (hb _ s7 σ6 H7 _ J7 q7) (fun _ s9 ⟨σ9,H9,J9,q9⟩=>again J9 q9) no
structure BlockOk(X:Cx)(N':List Str)(scope:Scope)(cap:List (Option Nat)):Prop where
 kind:scope.kind=.function
 nocell:∀ x∈scope.names,x.2≠.cell
 names:∀ x∈scope.names,x.2=.local->scope.names.lookup x.1=some .local
 free:∀ x∈scope.names,x.2=.free->(X.env.kindOf x.1=some .cell\/X.env.kindOf x.1=some .free)
 nd:N'.Nodup
 len:cap.length=N'.length
 cap:∀ (j i:Nat),cap[j]?=some (some i)->∃ y,N'[j]?=some y/\X.N[i]?=some y/\TL X.env.scope y/\(X.env.kindOf y=some .cell\/X.env.kindOf y=some .free)/\((relabel scope X.env).names.lookup y=some .cell\/(relabel scope X.env).names.lookup y=some .free)
noncomputable def σB(cap:List (Option Nat))(σ:St):St:=cap.map fun o=>o.bind fun i=>(σ[i]?).join
section
variable{X:Cx}{pins:List (Addr×Obj)}{σ:St}{H:Hp}{s:Shared}{N':List Str}{scope:Scope}{cap:List (Option Nat)}{C:Addr}{fp:List Addr}
theorem BlockOk.cells(B:BlockOk X N' scope cap)(ok:X.Ok):∀ x∈scope.names,x.2=.free->(X.env.cells.lookup x.1).isSome=true:=fun x hx hf=>by
 obtain⟨c,e⟩:=ok.has x.1 (B.free x hx hf)
 rw [e];rfl
theorem BlockOk.cl(B:BlockOk X N' scope cap)(ok:X.Ok):∀ y c,(mI X.env.cells scope.names []).lookup y=some c->X.env.cells.lookup y=some c:=
 qe _ _ _ (B.cells ok) fun y c e=>by simp at e
theorem Inv.notStk(I:Inv X pins σ H s){b:Addr}(h1:b≠X.env.locals)(h2:b ∉ X.fs):b ∉ HY X.stack:=fun z=>(List.mem_cons.mp (I.stkSub b z)).elim h1 h2
theorem Inv.block{h4:Heap}{tk:Nat}{m0:Str->Option Value}(I:Inv X pins σ H s)(B:BlockOk X N' scope cap)(hfp:∀ b∈fp,qk X pins H b/\b<s.heap.objs.size)(hC:s.heap.objs.size<=C)
  (hk:∀ b o,s.heap.get? b=some o->h4.get? b=some o) (hn:h4.Ns C m0):Inv (pB X N' scope C s H fp) [] (σB cap σ) H { s with heap:=h4,toks:=tk }:=by
 have okX:=I.ok
 have hcl:=B.cl okX
 have cellC:∀ x c,(mI X.env.cells scope.names []).lookup x=some c->∃ v,s.heap.IsCell c v:=fun x c e=>I.cell x c (hcl x c e)
 have neC:∀ b o,s.heap.get? b=some o->b≠C:=fun b o e=>Nat.ne_of_lt (Nat.lt_of_lt_of_le (Heap.lt_size e) hC)
 refine⟨⟨okX.mod,B.kind,okX.glob,okX.blt,hC,fun x y c e1 e2=>okX.inj x y c (hcl x c e1) (hcl y c e2),fun x hx=>?_,fun x c e _=>(by cases e),okX.hd,okX.frames,.inl rfl,fun b hb=>⟨fun z=>?_,fun x c e z=>?_⟩,fun b o e=>I.bs b o e,Nat.le_trans okX.bsz I.sz,fun b o e hb=>?_,fun b hb z=>?_,I.stack,I.stkFree⟩,
  rfl,I.bare,Un.kept hk,⟨m0,hn,fun j y v e1 e2 e3=>?_⟩,fun x c e=>?_,I.hok.fresh hC,fun x c e=>I.freeC x c (hcl x c e),fun p hp=>absurd (show p∈([]:List (Addr×Obj)) from hp) (by simp),I.hok.kept hk,?_⟩
 ·have q:=la (scope:=scope) (env:=X.env) (y:=x) (names:=scope.names) hx B.nocell
  exact Option.isSome_iff_exists.mp (pv _ _ _ _ q)
 ·have z':b=C:=z
  exact absurd (hfp b hb).2 (by rw [z'];exact Nat.not_lt.mpr hC)
 ·exact(hfp b hb).1.2.2.2.2.1 x c (hcl x c e) z
 ·obtain⟨h0,h1,h2,h3,h4',h5⟩:=(hfp b hb).1
  rcases h3 with h3 | h3
  ·exact okX.noex b o e h3
  ·have:=(okX.bs b o e).1
   exact absurd (Nat.lt_of_lt_of_le (Heap.lt_size this) h3) (Nat.lt_irrefl _)
 ·obtain⟨h0,h1,h2,h3,h4',h5⟩:=(hfp b hb).1
  exact I.notStk h1 h2 z
 ·have e1':N'[j]?=some y:=e1
  unfold σB at e2
  rw [List.getElem?_map] at e2
  cases ec:cap[j]? with
  | none=>rw [ec] at e2;cases e2
  | some o=>
   rw [ec] at e2
   cases o with
   | none=>cases e2
   | some i=>
    obtain⟨y',n1,n2,vis,kx,kb⟩:=B.cap j i ec
    rw [e1'] at n1;cases n1
    have e2':(σ[i]?).join=some v:=Option.some.inj e2
    have e2'':σ[i]?=some (some v):=by
     cases q:σ[i]? with
     | none=>rw [q] at e2';cases e2'
     | some z=>rw [q] at e2';exact congrArg some e2'
    obtain⟨m,hm,hl⟩:=I.loc
    obtain⟨u,ru,lk⟩:=hl i y v n2 e2'' vis
    refine⟨u,ru,.inr ⟨kb,?_⟩⟩
    rcases lk with ⟨k,_⟩ | ⟨k,c,ec',z⟩
    ·rcases kx with kx | kx
     ·rw [kx] at k;cases k
     ·rw [kx] at k;cases k
    ·have q:=la (scope:=scope) (env:=X.env) (y:=y) (names:=scope.names) kb B.nocell
     obtain⟨c',hc'⟩:=Option.isSome_iff_exists.mp (pv X.env.cells scope.names [] y q)
     have:=hcl y c' hc'
     rw [ec'] at this;cases this
     exact⟨c,hc',z.keeps hk⟩
 ·obtain⟨v,z⟩:=cellC x c e
  exact⟨v,z.keeps hk⟩
 ·show (σB cap σ).length=N'.length
  unfold σB
  rw [List.length_map,B.len]
theorem Inv.unblock{Hf:Hp}{s':Shared}{σ':St}{pins':List (Addr×Obj)}(I:Inv X pins σ H s)(hfp:∀ b∈fp,qk X pins H b)(J:Inv (pB X N' scope C s H fp) pins' σ' Hf s'):Inv X pins σ Hf s':=
 I.call' (ch:=fp) J.os J.base J.hok J.bare fun b hb=>by
  obtain⟨h0,h1,h2,h3,h4,h5⟩:=hfp b hb
  exact⟨h3,h1,h4,h5⟩
end
def wU(wi:TI)(g:TG)(tt:TT)(tb:Addr->TB)(cap:List (Option Nat)):TE:=fun σ H Q=>wi σ H fun J H1=>∀ p,H1 p=none->Iv J g tt (tb p) (σB cap σ) (upd H1 p (.lst [])) fun _ H'=>Q (.ref p) H'
def Iw(wi:TI)(g:TG)(tt:TT)(te:TE)(cap:List (Option Nat)):TE:=wU wi g tt (tEm te) cap
def Behind(X:Cx)(pins:List (Addr×Obj))(σ:St)(Q:VK)(acc:Value)(C:Addr)(r:Result)(s':Shared):Prop:=
 ∃ p Hf m,r=.ok .next/\acc=.ref p/\Inv X pins σ Hf s'/\Q (.ref p) Hf/\s'.heap.Ns C m/\Hf C=none/\C≠X.env.locals/\X.s₀.heap.objs.size<=C/\(∀ x c,X.env.cells.lookup x=some c->c≠C)/\(∀ q∈X.pn++pins,q.1≠C)
theorem um{X:Cx}{elt iter tg:Expr}{ifs:List Expr}{rest:List Comprehension}{scope:Scope}{pos:Pos}{N':List Str}{cap:List (Option Nat)}{wi:TI}{g:TG}{tt:TT}{tb:Addr->TB}{bc:Value->Env->Sem Unit}
  (hc:X.calm=true) (B:BlockOk X N' scope cap) (hi:PI X tg iter wi) (hg:∀ C s H fp,PG (pB X N' scope C s H fp) tg g) (ht:∀ C s H fp,Pj (pB X N' scope C s H fp) ifs tt)
  (htn:∀ it acc env,compTurn (.ListComp elt (⟨tg,iter,ifs,0⟩::rest) scope pos) 0 it acc env=rT (.ListComp elt (⟨tg,iter,ifs,0⟩::rest) scope pos) tg iter.pos ifs 0 it acc env (bc acc env))
  (hb:∀ C s H fp p,PB (pB X N' scope C s H fp) (bc (.ref p) (pB X N' scope C s H fp).env) (tb p))
  {pins:List (Addr×Obj)} {s:Shared} {σ:St} {H:Hp} {Q:VK} (I:Inv X pins σ H s) (h:wU wi g tt tb cap σ H Q) {E:Value->Shared->Prop} (hE:∀ e s,X.xe e s->E e s) :
  wpAny (model X.prog X.w) X.A (eval iter X.env) (fun x s₁=>wpAny (model X.prog X.w) X.A (pyIter x) (fun it s₂=>wpAny (model X.prog X.w) X.A (newList []) (fun acc s₃=>
   wpAny (model X.prog X.w) X.A (newFunctionEnv scope X.env.globals (mI X.env.cells scope.names []) [] X.env.qual none .none (some X.env)) (fun cenv s₄=>
    codeAny (model X.prog X.w) X.A (.compStart (.ListComp elt (⟨tg,iter,ifs,0⟩::rest) scope pos) 0 it acc { cenv with scope:=relabel scope X.env }) (Behind X pins σ Q acc cenv.locals) s₄) E s₃) E s₂) E s₁) E s:=by
 refine wpAny_mono (hi pins s σ H _ I h) (fun v s1 h1=>wpAny_mono h1 (fun itv s2 h2=>?_) hE) hE
 obtain⟨it,fp,tn,J,H1,e,I2,T,st2,f2,hW⟩:=h2
 subst e
 refine wpAny_newObj_type (wpAny_newFunctionEnv B.nocell (by intro y hy;simp at hy) (fun h₁ hns₁ hsb₁=>?_) B.kind)
 dsimp only at hns₁ hsb₁ ⊢
 have hp1:H1 s2.heap.objs.size=none:=I2.hok.fresh (Nat.le_refl _)
 have hL:=hW s2.heap.objs.size hp1
 have I3:Inv X pins σ (upd H1 s2.heap.objs.size (.lst [])) { s2 with heap:=s2.heap.push { cls:=.type "list",dict:=none,data:=.seq ([]:List Value).toArray },toks:=s2.toks }:=
  I2.laid (fun b o e=>Heap.get?_push_of_some _ e) (Nat.le_refl _) ⟨Nat.zero_le _,[],_,.nil,Heap.get?_push_size _ rfl⟩
 generalize hH2:s2.heap.push { cls:=.type "list",dict:=none,data:=.seq ([]:List Value).toArray } = H2 at hns₁ hsb₁ I3 ⊢
 have hC:H2.objs.size=s2.heap.objs.size+1:=by rw [<- hH2,Heap.size_push]
 have ltfp:∀ b∈fp,b<s2.heap.objs.size:=fun b hb=>by
  obtain⟨o,e,_⟩:=T.obj _ _ st2 b hb
  exact Heap.lt_size e
 have hf3:∀ b∈fp,qk X pins (upd H1 s2.heap.objs.size (.lst [])) b/\b<H2.objs.size:=fun b hb=>by
  obtain⟨a0,a⟩:=f2 b hb
  refine⟨⟨?_,a⟩,by rw [hC];exact Nat.lt_succ_of_lt (ltfp b hb)⟩
  rw [bj (Nat.ne_of_lt (ltfp b hb))];exact a0
 have up:∀ b o,H2.get? b=some o->h₁.get? b=some o:=fun b o e=>hsb₁.extBut b o (Nat.ne_of_lt (Heap.lt_size e)) (Heap.get?_push_of_some _ e)
 have I4:=I3.block (C:=H2.objs.size) (fp:=fp) (h4:=h₁) (tk:=s2.toks+([]:List (Str×Value)).length) B hf3 (Nat.le_refl _) up hns₁
 have st4:tn 0 h₁:=T.keep _ _ _ st2 fun b hb o e=>up b o (by rw [<- hH2];exact Heap.get?_push_of_some _ e)
 have loop:codeAny (model X.prog X.w) X.A (.compLoop (.ListComp elt (⟨tg,iter,ifs,0⟩::rest) scope pos) 0 (.ref it) (.ref s2.heap.objs.size) (compEnvC scope (mI X.env.cells scope.names []) H2.objs.size X.env))
    (Behind X pins σ Q (.ref s2.heap.objs.size) H2.objs.size) { s2 with heap:=h₁,toks:=s2.toks+([]:List (Str×Value)).length }:=by
  refine codeAny_mono (HD (X:=pB X N' scope H2.objs.size { s2 with heap:=H2,toks:=s2.toks } (upd H1 s2.heap.objs.size (.lst [])) fp) hc (fun _ _ z=>z) rfl (htn _ _ _) (hg _ _ _ _) (ht _ _ _ _) (hb _ _ _ _ _) T I4 st4 (fun b hb=>?_) hL) fun r s4 ⟨σ4,H4,hr,J4,qn⟩=>?_
  ·obtain⟨h0,h1,h2,h3,h4',h5⟩:=(hf3 b hb).1
   exact⟨h0,Nat.ne_of_lt (hf3 b hb).2,I3.notStk h1 h2,.inl hb,fun x c e=>h4' x c (B.cl I3.ok x c e),fun p hp=>absurd (show p∈([]:List (Addr×Obj)) from hp) (by simp)⟩
  ·obtain⟨m,hm,_⟩:=J4.loc
   have IX:=I3.unblock (fun b hb=>(hf3 b hb).1) J4
   refine⟨_,H4,m,hr,rfl,IX,qn,hm,J4.free,?_,?_,fun x c e z=>?_,fun q hq z=>?_⟩
   ·exact Ne.symm (Nat.ne_of_lt I3.lt)
   ·exact I3.sz
   ·obtain⟨v,q⟩:=I3.cell x c e
    exact absurd q.lt (by rw [z];exact Nat.lt_irrefl _)
   ·exact absurd (Heap.lt_size (I3.pin q hq).1) (by rw [z];exact Nat.lt_irrefl _)
 exact codeAny_compStart_list loop (T.self _ 0 _ _ _ st4 loop)
theorem Jo{X:Cx}{elt iter tg:Expr}{ifs:List Expr}{rest:List Comprehension}{scope:Scope}{pos:Pos}{N':List Str}{cap:List (Option Nat)}{wi:TI}{g:TG}{tt:TT}{tb:Addr->TB}{bc:Value->Env->Sem Unit}
  (hc:X.calm=true) (B:BlockOk X N' scope cap) (hi:PI X tg iter wi) (hg:∀ C s H fp,PG (pB X N' scope C s H fp) tg g) (ht:∀ C s H fp,Pj (pB X N' scope C s H fp) ifs tt) (htn:∀ it acc env,compTurn (.ListComp elt (⟨tg,iter,ifs,0⟩::rest) scope pos) 0 it acc env=rT (.ListComp elt (⟨tg,iter,ifs,0⟩::rest) scope pos) tg iter.pos ifs 0 it acc env (bc acc env))
  (hb:∀ C s H fp p,PB (pB X N' scope C s H fp) (bc (.ref p) (pB X N' scope C s H fp).env) (tb p))
  (hs:∀ x,foldedSetIterable iter X.env x=pure x:=by intro _;rfl):PE X (.ListComp elt (⟨tg,iter,ifs,0⟩::rest) scope pos) (wU wi g tt tb cap):=by
 intro pins s σ H Q I h
 rw [eval_ListComp]
 refine wpAny_comprehension_free (use:=none) rfl hs (nM (B.cells I.ok)) B.kind B.names ?_
 refine wpAny_mono (um hc B hi hg ht htn hb I h fun _ _ x=>x) (fun x s1 h1=>wpAny_mono h1 (fun it s2 h2=>wpAny_mono h2 (fun acc s3 h3=>wpAny_mono h3 (fun cenv s4 h4=>codeAny_mono h4 fun r s' hr=>?_) fun _ _ x=>x) fun _ _ x=>x) fun _ _ x=>x) fun _ _ x=>x
 obtain⟨p,Hf,m,rfl,rfl,J,q,hn,c1,c2,c3,c4,c5⟩:=hr
 exact⟨m,hn,fun h' sb=>⟨_,Hf,J.turned (t':=s'.toks) (fun b o hb e=>(sb.2 b hb).trans e) c1 c2 (.inr c3) c4 c5,(show RelV (.ref p) (.ref p) from rfl),q⟩⟩
theorem zG{X:Cx}{elt iter tg:Expr}{ifs:List Expr}{rest:List Comprehension}{scope:Scope}{pos spos py:Pos}{N':List Str}{cap:List (Option Nat)}{wi:TI}{g:TG}{tt:TT}{tb:Addr->TB}{bc:Value->Env->Sem Unit}{y:Str}{i:Nat}
  (hN:X.N.Nodup) (hy:X.N[i]?=some y) (hx:Mh X.env.scope y)
  (hc:X.calm=true) (B:BlockOk X N' scope cap) (hi:PI X tg iter wi) (hg:∀ C s H fp,PG (pB X N' scope C s H fp) tg g) (ht:∀ C s H fp,Pj (pB X N' scope C s H fp) ifs tt) (htn:∀ it acc env,compTurn (.ListComp elt (⟨tg,iter,ifs,0⟩::rest) scope pos) 0 it acc env=rT (.ListComp elt (⟨tg,iter,ifs,0⟩::rest) scope pos) tg iter.pos ifs 0 it acc env (bc acc env))
  (hb:∀ C s H fp p,PB (pB X N' scope C s H fp) (bc (.ref p) (pB X N' scope C s H fp).env) (tb p))
  (hsw:swapsWith (.ListComp elt (⟨tg,iter,ifs,0⟩::rest) scope pos) (some (.Name y py)) spos.line X.env=pure true:=by rfl)
  (hs:∀ x,foldedSetIterable iter X.env x=pure x:=by intro _;rfl) (hf:X.fn y=true\/X.env.scope.names.lookup y=some .local:=by first | exact .inl rfl | exact .inr rfl | assumption) :
  PS X (.Assign [.Name y py] (.ListComp elt (⟨tg,iter,ifs,0⟩::rest) scope pos) spos) (Iy (wU wi g tt tb cap) (EV i)):=by
 intro pins s σ H D I h
 rw [exec_Assign_Name_used _ _ _ _ hsw]
 refine wpAny_bind (wpAny_standAt (wpAny_bind ?_))
 show wpAny _ _ (do let _ <- comprehension (.ListComp elt (⟨tg,iter,ifs,0⟩::rest) scope pos) scope X.env _ (newList []) false (eval iter X.env) (some (assign (.Name y py) X.env))) _ _ s
 refine wpAny_bind (wpAny_mono (wpAny_comprehension_free (use:=some (assign (.Name y py) X.env)) (Q:=fun _ s'=>SP X pins D .next s') rfl hs (nM (B.cells I.ok)) B.kind B.names
  (wpAny_mono (um hc B hi hg ht htn hb I h fun _ _ x=>x) (fun x s1 h1=>wpAny_mono h1 (fun it s2 h2=>wpAny_mono h2 (fun acc s3 h3=>wpAny_mono h3 (fun cenv s4 h4=>codeAny_mono h4 fun r s' hr=>?_) fun _ _ x=>x) fun _ _ x=>x) fun _ _ x=>x) fun _ _ x=>x))
  (fun _ s' hq=>wpAny_pure (wpAny_pure hq)) fun _ _ e=>e)
 obtain⟨p,Hf,m,rfl,rfl,J,q,hn,c1,c2,c3,c4,c5⟩:=hr
 refine wpAny_assign_Name (vx J hN hy hx (v:=.ref p) rfl (fun s2 J2 ⟨a,sb,ha⟩=>?_) hf)
 refine⟨m,hn.sameBut sb ?_,fun h' sb2=>⟨_,Hf,J2.turned (t':=s2.toks) (fun b o hb e=>(sb2.2 b hb).trans e) c1 c2 (.inr c3) c4 c5,q⟩⟩
 rcases ha with rfl | ha
 ·exact c2
 ·exact Ne.symm (c4 _ _ ha)
theorem Ng{X:Cx}{elt iter tg:Expr}{ifs:List Expr}{scope:Scope}{pos:Pos}{N':List Str}{cap:List (Option Nat)}{wi:TI}{g:TG}{tt:TT}{te:TE}
  (hc:X.calm=true) (B:BlockOk X N' scope cap) (hi:PI X tg iter wi) (hg:∀ C s H fp,PG (pB X N' scope C s H fp) tg g) (ht:∀ C s H fp,Pj (pB X N' scope C s H fp) ifs tt) (he:∀ C s H fp,PE (pB X N' scope C s H fp) elt te)
  (hs:∀ x,foldedSetIterable iter X.env x=pure x:=by intro _;rfl):PE X (.ListComp elt [⟨tg,iter,ifs,0⟩] scope pos) (Iw wi g tt te cap):=
 Jo hc B hi hg ht (fun _ _ _=>compTurn_list ..) (fun C s H fp p=>Ep (he C s H fp)) hs
theorem Ca{X:Cx}{elt iter tg:Expr}{ifs:List Expr}{scope:Scope}{pos spos py:Pos}{N':List Str}{cap:List (Option Nat)}{wi:TI}{g:TG}{tt:TT}{te:TE}{y:Str}{i:Nat}
  (hN:X.N.Nodup) (hy:X.N[i]?=some y) (hx:Mh X.env.scope y)
  (hc:X.calm=true) (B:BlockOk X N' scope cap) (hi:PI X tg iter wi) (hg:∀ C s H fp,PG (pB X N' scope C s H fp) tg g) (ht:∀ C s H fp,Pj (pB X N' scope C s H fp) ifs tt) (he:∀ C s H fp,PE (pB X N' scope C s H fp) elt te)
  (hsw:swapsWith (.ListComp elt [⟨tg,iter,ifs,0⟩] scope pos) (some (.Name y py)) spos.line X.env=pure true:=by rfl)
  (hs:∀ x,foldedSetIterable iter X.env x=pure x:=by intro _;rfl) (hf:X.fn y=true\/X.env.scope.names.lookup y=some .local:=by first | exact .inl rfl | exact .inr rfl | assumption) :
  PS X (.Assign [.Name y py] (.ListComp elt [⟨tg,iter,ifs,0⟩] scope pos) spos) (Iy (Iw wi g tt te cap) (EV i)):=
 zG hN hy hx hc B hi hg ht (fun _ _ _=>compTurn_list ..) (fun C s H fp p=>Ep (he C s H fp)) hsw hs hf
end L2
namespace M
open PySem PySem.Spec PyProof.Rows L2
inductive D where
 | non
 | bl (b:Bool)
 | int (i:Int)
 | str (x:Str)
 | tup (xs:List D)
 | lst (xs:List D)
 | rol (xs:List D)
 | dct (ks:List bz) (vs:List D)
 | ref (r:Nat)
inductive vp where
 | lst (xs:List D)
 | dct (ks:List bz) (vs:List D)
noncomputable abbrev ac:=List vp
structure Fp where
 cs:List Addr
 fb:List Addr
def Fp.no(μ:Fp)(a:Addr):Prop:=a ∉ μ.cs/\a ∉ μ.fb
noncomputable abbrev bm:=List (Option D)
theorem Ew{α:Type}{N:List α}(hN:N.Nodup){i j:Nat}{x:α}(a:N[i]?=some x)(b:N[j]?=some x):i=j:=by
 obtain⟨h1,e1⟩:=List.getElem?_eq_some_iff.mp a
 obtain⟨h2,e2⟩:=List.getElem?_eq_some_iff.mp b
 exact(List.getElem_inj hN).mp (e1.trans e2.symm)
def KList(K:PySem.W.Frag)(a:Addr)(xs:List V):Prop:=∃ (o:Obj) (its:Array Value) (n:Nat),K.lookup a=some o/\o.cls=.type "list"/\o.dict=none/\o.data=.seq its n/\its.size<=sizeLine/\Vals xs its.toList
def KTup(K:PySem.W.Frag)(a:Addr)(xs:List V):Prop:=∃ (o:Obj) (its:Array Value) (n:Nat),K.lookup a=some o/\o.cls=.type "tuple"/\o.dict=none/\o.data=.seq its n/\its.size<=sizeLine/\Vals xs its.toList
mutual
inductive Rep(K:PySem.W.Frag)(μ:Fp)(H:Hp):V->D->Prop
 | non:Rep K μ H .non .non
 | bl (b:Bool):Rep K μ H (.bl b) (.bl b)
 | int (i:Int):Rep K μ H (.int i) (.int i)
 | str (x:Str):Rep K μ H (.str x) (.str x)
 | tup {a:Addr} {vs:List V} {ds:List D} (h:H a=some (.tup vs)) (n:μ.no a) (r:Reps K μ H vs ds):Rep K μ H (.ref a) (.tup ds)
 | ktup {a:Addr} {vs:List V} {ds:List D} (h:KTup K a vs) (r:Reps K μ H vs ds):Rep K μ H (.ref a) (.tup ds)
 | lst {a:Addr} {vs:List V} {ds:List D} (h:H a=some (.lst vs)) (n:μ.no a) (r:Reps K μ H vs ds):Rep K μ H (.ref a) (.lst ds)
 | rol {a:Addr} {vs:List V} {ds:List D} (h:Rd H a (.lst vs)) (n:μ.no a) (r:Reps K μ H vs ds):Rep K μ H (.ref a) (.rol ds)
 | krol {a:Addr} {vs:List V} {ds:List D} (h:KList K a vs) (r:Reps K μ H vs ds):Rep K μ H (.ref a) (.rol ds)
 | dct {a:Addr} {kvs:List (bz×V)} {ds:List D} (h:H a=some (.dK kvs)) (n:μ.no a) (r:Reps K μ H (kvs.map (·.2)) ds):Rep K μ H (.ref a) (.dct (kvs.map (·.1)) ds)
 | ref {a:Addr} {r:Nat} (h:μ.cs[r]?=some a):Rep K μ H (.ref a) (.ref r)
inductive Reps(K:PySem.W.Frag)(μ:Fp)(H:Hp):List V->List D->Prop
 | nil:Reps K μ H [] []
 | cons {v:V} {d:D} {vs:List V} {ds:List D} (h:Rep K μ H v d) (t:Reps K μ H vs ds):Reps K μ H (v::vs) (d::ds)
end
structure Ext(μ:Fp)(H:Hp)(μ':Fp)(H':Hp):Prop where
 fb:μ'.fb = μ.fb
 pre:∃ l,μ'.cs = μ.cs++l/\∀ a∈l,H a=none
 keep:∀ a o,a ∉ μ.cs->H a=some o->H' a=some o
 dom:∀ a ∈ μ'.cs,H' a≠none
section
variable{K:PySem.W.Frag}{μ μ' μ'':Fp}{H H' H'':Hp}
theorem Ext.stays(e:Ext μ H μ' H'){a:Addr}{o:HO}(h:H a=some o)(n:μ.no a):H' a=some o/\μ'.no a:=by
 refine⟨e.keep a o n.1 h,fun z=>?_,by rw [e.fb];exact n.2⟩
 obtain⟨l,q,hl⟩:=e.pre
 rw [q] at z
 rcases List.mem_append.mp z with z | z
 ·exact n.1 z
 ·rw [hl a z] at h;cases h
theorem Ext.keeps(e:Ext μ H μ' H'){a:Addr}{o:HO}(h:H a=some o)(n:a ∉ μ.cs):H' a=some o/\a ∉ μ'.cs:=by
 refine⟨e.keep a o n h,fun z=>?_⟩
 obtain⟨l,q,hl⟩:=e.pre
 rw [q] at z
 rcases List.mem_append.mp z with z | z
 ·exact n z
 ·rw [hl a z] at h;cases h
theorem Ext.trans(e:Ext μ H μ' H')(f:Ext μ' H' μ'' H''):Ext μ H μ'' H'':=by
 obtain⟨l,q,hl⟩:=e.pre
 obtain⟨l',q',hl'⟩:=f.pre
 refine⟨f.fb.trans e.fb,⟨l++l',by rw [q',q,List.append_assoc],fun a ha=>?_⟩,fun a o n h=>?_,f.dom⟩
 ·rcases List.mem_append.mp ha with ha | ha
  ·exact hl a ha
  ·have h1:=hl' a ha
   cases q2:H a with
   | none=>rfl
   | some o=>
    by_cases hm:a ∈ μ.cs
    ·exact absurd h1 (e.dom a (by rw [q];exact List.mem_append_left _ hm))
    ·rw [e.keep a o hm q2] at h1;cases h1
 ·have:=e.keeps h n
  exact f.keep a o this.2 this.1
theorem Ext.refl(h:∀ a ∈ μ.cs,H a≠none):Ext μ H μ H:=⟨rfl,⟨[],by simp,fun _ z=>by simp at z⟩,fun _ _ _ h=>h,h⟩
mutual
theorem Rep.imp(hk:∀ {a:Addr} {o:HO},H a=some o->μ.no a->H' a=some o/\μ'.no a)(hr:∀ {r:Nat} {a:Addr},μ.cs[r]?=some a->μ'.cs[r]?=some a):∀ {v:V} {d:D},Rep K μ H v d->Rep K μ' H' v d
 | _,_,.non=>.non
 | _,_,.bl b=>.bl b
 | _,_,.int i=>.int i
 | _,_,.str x=>.str x
 | _,_,.tup h n r=>.tup (hk h n).1 (hk h n).2 (Reps.imp hk hr r)
 | _,_,.ktup h r=>.ktup h (Reps.imp hk hr r)
 | _,_,.lst h n r=>.lst (hk h n).1 (hk h n).2 (Reps.imp hk hr r)
 | _,_,.rol (.inl h) n r=>.rol (.inl (hk h n).1) (hk h n).2 (Reps.imp hk hr r)
 | _,_,.rol (.inr ⟨o,h⟩) n r=>.rol (.inr ⟨o,(hk h n).1⟩) (hk h n).2 (Reps.imp hk hr r)
 | _,_,.krol h r=>.krol h (Reps.imp hk hr r)
 | _,_,.dct h n r=>.dct (hk h n).1 (hk h n).2 (Reps.imp hk hr r)
 | _,_,.ref h=>.ref (hr h)
theorem Reps.imp(hk:∀ {a:Addr} {o:HO},H a=some o->μ.no a->H' a=some o/\μ'.no a)(hr:∀ {r:Nat} {a:Addr},μ.cs[r]?=some a->μ'.cs[r]?=some a):∀ {vs:List V} {ds:List D},Reps K μ H vs ds->Reps K μ' H' vs ds
 | _,_,.nil=>.nil
 | _,_,.cons h t=>.cons (Rep.imp hk hr h) (Reps.imp hk hr t)
end
theorem yX{l m:List Addr}{k:List Addr}(q:k=l++m){r:Nat}{a:Addr}(h:l[r]?=some a):k[r]?=some a:=by
 rw [q,List.getElem?_append_left (List.getElem?_eq_some_iff.mp h).1];exact h
theorem Ext.ix(e:Ext μ H μ' H'){r:Nat}{a:Addr}(h:μ.cs[r]?=some a):μ'.cs[r]?=some a:=by
 obtain⟨l,q,_⟩:=e.pre
 exact yX q h
theorem Rep.mono(e:Ext μ H μ' H'){v:V}{d:D}(r:Rep K μ H v d):Rep K μ' H' v d:=r.imp e.stays e.ix
theorem Reps.mono(e:Ext μ H μ' H'){vs:List V}{ds:List D}(r:Reps K μ H vs ds):Reps K μ' H' vs ds:=r.imp e.stays e.ix
theorem Reps.length:∀ {vs:List V} {ds:List D},Reps K μ H vs ds->vs.length=ds.length
 | _,_,.nil=>rfl
 | _,_,.cons _ t=>by simp [Reps.length t]
theorem Reps.get:∀ {vs:List V} {ds:List D} {i:Nat} {d:D},Reps K μ H vs ds->ds[i]?=some d->∃ v,vs[i]?=some v/\Rep K μ H v d
 | _,_,_,_,.nil,e=>by simp at e
 | _,_,0,_,.cons h _,e=>by simp at e;subst e;exact⟨_,rfl,h⟩
 | _,_,i+1,d,.cons _ t,e=>by
  obtain⟨u,h1,h2⟩:=Reps.get (i:=i) (d:=d) t (by simpa using e)
  exact⟨u,by simpa using h1,h2⟩
theorem Reps.append:∀ {vs ws:List V} {ds es:List D},Reps K μ H vs ds->Reps K μ H ws es->Reps K μ H (vs++ws) (ds++es)
 | _,_,_,_,.nil,s=>s
 | _,_,_,_,.cons r t,s=>.cons r (Reps.append t s)
theorem Reps.take:∀ {vs:List V} {ds:List D} (n:Nat),Reps K μ H vs ds->Reps K μ H (vs.take n) (ds.take n)
 | _,_,0,_=>.nil
 | _,_,_+1,.nil=>.nil
 | _,_,n+1,.cons r t=>.cons r (Reps.take n t)
theorem Reps.drop:∀ {vs:List V} {ds:List D} (n:Nat),Reps K μ H vs ds->Reps K μ H (vs.drop n) (ds.drop n)
 | _,_,0,r=>r
 | _,_,_+1,.nil=>.nil
 | _,_,n+1,.cons _ t=>Reps.drop n t
theorem Reps.set{x:V}{d:D}(r:Rep K μ H x d):∀ {vs:List V} {ds:List D} (i:Nat),Reps K μ H vs ds->Reps K μ H (vs.set i x) (ds.set i d)
 | _,_,_,.nil=>.nil
 | _,_,0,.cons _ t=>.cons r t
 | _,_,i+1,.cons q t=>.cons q (Reps.set r i t)
theorem Reps.flat{xs:List V}:∀ (k:Nat) {ds:List D},Reps K μ H xs ds->Reps K μ H (List.replicate k xs).flatten (List.replicate k ds).flatten
 | 0,_,_=>.nil
 | k+1,_,r=>by rw [List.replicate_succ,List.replicate_succ,List.flatten_cons,List.flatten_cons];exact r.append (Reps.flat k r)
def CellOk(K:PySem.W.Frag)(μ:Fp)(H:Hp)(a:Addr):vp->Prop
 | .lst ds=>∃ vs,H a=some (.lst vs)/\Reps K μ H vs ds
 | .dct ks ds=>∃ kvs,H a=some (.dK kvs)/\ks=kvs.map (·.1)/\Reps K μ H (kvs.map (·.2)) ds
structure SOk(K:PySem.W.Frag)(μ:Fp)(S:ac)(H:Hp):Prop where
 nd:μ.cs.Nodup
 len:μ.cs.length=S.length
 cell:∀ (r:Nat) (a:Addr) (c:vp),μ.cs[r]?=some a->S[r]?=some c->CellOk K μ H a c
 fdom:∀ a ∈ μ.fb,H a≠none
 disj:∀ a ∈ μ.fb,a ∉ μ.cs
theorem CellOk.ne_none{a:Addr}{c:vp}(h:CellOk K μ H a c):H a≠none:=by
 cases c with
 | lst ds=>obtain⟨vs,h,_⟩:=h;rw [h];simp
 | dct ks ds=>obtain⟨vs,h,_⟩:=h;rw [h];simp
theorem CellOk.mono(e:Ext μ H μ' H'){a:Addr}{c:vp}(he:H' a=H a)(h:CellOk K μ H a c):CellOk K μ' H' a c:=by
 cases c with
 | lst ds=>obtain⟨vs,h,r⟩:=h;exact⟨vs,he.trans h,r.mono e⟩
 | dct ks ds=>obtain⟨vs,h,q,r⟩:=h;exact⟨vs,he.trans h,q,r.mono e⟩
theorem SOk.dom{S:ac}(s:SOk K μ S H):∀ a ∈ μ.cs,H a≠none:=fun a ha=>by
 obtain⟨r,hr⟩:=List.mem_iff_getElem?.mp ha
 have hl:=(List.getElem?_eq_some_iff.mp hr).1
 rw [s.len] at hl
 exact(s.cell r a S[r] hr (by simp [hl])).ne_none
theorem SOk.ext{S:ac}(s:SOk K μ S H):Ext μ H μ H:=.refl s.dom
theorem SOk.notMem{S:ac}(s:SOk K μ S H){p:Addr}(h:H p=none):μ.no p:=⟨fun z=>s.dom p z h,fun z=>s.fdom p z h⟩
theorem SOk.laid{S:ac}(s:SOk K μ S H){p:Addr}{o:HO}(h:H p=none):Ext μ H μ (upd H p o)/\SOk K μ S (upd H p o):=by
 have e:Ext μ H μ (upd H p o):=⟨rfl,⟨[],by simp,fun _ z=>by simp at z⟩,fun a o' _ q=>by rw [bj (cq q h)];exact q,fun a ha=>by
  by_cases z:a=p
  ·subst z;rw [bv];simp
  ·rw [bj z];exact s.dom a ha⟩
 refine⟨e,s.nd,s.len,fun r a c h1 h2=>(s.cell r a c h1 h2).mono e ?_,fun a ha=>?_,s.disj⟩
 case refine_2=>
  by_cases z:a=p
  ·subst z;rw [bv];simp
  ·rw [bj z];exact s.fdom a ha
 have:=(s.cell r a c h1 h2).ne_none
 refine bj fun z=>?_
 rw [z] at this
 exact this h
theorem SOk.alloc{S:ac}(s:SOk K μ S H){p:Addr}{vs:List V}{ds:List D}(h:H p=none)(r:Reps K μ H vs ds):Ext μ H ⟨μ.cs++[p],μ.fb⟩ (upd H p (.lst vs))/\SOk K ⟨μ.cs++[p],μ.fb⟩ (S++[.lst ds]) (upd H p (.lst vs)):=by
 have hp:=s.notMem h
 have e:Ext μ H ⟨μ.cs++[p],μ.fb⟩ (upd H p (.lst vs)):=⟨rfl,⟨[p],rfl,fun a z=>by rw [List.mem_singleton.mp z];exact h⟩,fun a o' _ q=>by rw [bj (cq q h)];exact q,fun a ha=>by
  by_cases z:a=p
  ·subst z;rw [bv];simp
  ·rw [bj z]
   rcases List.mem_append.mp ha with q | q
   ·exact s.dom a q
   ·exact absurd (List.mem_singleton.mp q) z⟩
 refine⟨e,?_,by simp [s.len],fun i a c h1 h2=>?_,fun a ha=>?_,fun a ha z=>?_⟩
 case refine_3=>
  by_cases z:a=p
  ·subst z;rw [bv];simp
  ·rw [bj z];exact s.fdom a ha
 case refine_4=>
  rcases List.mem_append.mp z with q | q
  ·exact s.disj a ha q
  ·rw [List.mem_singleton.mp q] at ha;exact hp.2 ha
 ·show (μ.cs++[p]).Nodup
  rw [List.nodup_append]
  exact⟨s.nd,by simp,fun a ha b hb=>by rw [List.mem_singleton.mp hb];rintro rfl;exact hp.1 ha⟩
 ·have h1:(μ.cs++[p])[i]?=some a:=h1
  by_cases hi:i < μ.cs.length
  ·rw [List.getElem?_append_left hi] at h1
   rw [List.getElem?_append_left (by rw [<- s.len];exact hi)] at h2
   have q:=s.cell i a c h1 h2
   refine q.mono e (bj fun z=>?_)
   exact hp.1 (z ▸ List.mem_of_getElem? h1)
  ·have hl:i = μ.cs.length:=by
    have:=(List.getElem?_eq_some_iff.mp h1).1
    simp at this;omega
   subst hl
   rw [List.getElem?_append_right (Nat.le_refl _)] at h1
   rw [s.len,List.getElem?_append_right (Nat.le_refl _)] at h2
   simp at h1 h2
   subst h1 h2
   exact⟨vs,bv,r.mono e⟩
theorem SOk.write{S:ac}(s:SOk K μ S H){i:Nat}{a:Addr}{vs vs':List V}{ds:List D}(hi:μ.cs[i]?=some a)(h:H a=some (.lst vs))(r:Reps K μ H vs' ds):Ext μ H μ (upd H a (.lst vs'))/\SOk K μ (S.set i (.lst ds)) (upd H a (.lst vs')):=by
 have ha:=List.mem_of_getElem? hi
 have e:Ext μ H μ (upd H a (.lst vs')):=⟨rfl,⟨[],by simp,fun _ z=>by simp at z⟩,fun b o' n q=>by rw [bj (by rintro rfl;exact n ha)];exact q,fun b hb=>by
  by_cases z:b=a
  ·subst z;rw [bv];simp
  ·rw [bj z];exact s.dom b hb⟩
 refine⟨e,s.nd,by simp [s.len],fun j b c h1 h2=>?_,fun b hb=>?_,s.disj⟩
 case refine_2=>
  by_cases z:b=a
  ·subst z;rw [bv];simp
  ·rw [bj z];exact s.fdom b hb
 by_cases hj:j=i
 ·subst hj
  rw [hi] at h1;cases h1
  have hl:j<S.length:=by rw [<- s.len];exact(List.getElem?_eq_some_iff.mp hi).1
  rw [List.getElem?_set_self hl] at h2
  cases h2
  exact⟨vs',bv,r.mono e⟩
 ·rw [List.getElem?_set_ne (Ne.symm hj)] at h2
  refine(s.cell j b c h1 h2).mono e (bj fun z=>hj ?_)
  subst z
  exact Ew s.nd h1 hi
inductive EOk(K:PySem.W.Frag)(μ:Fp)(H:Hp):L2.St->bm->Prop
 | nil:EOk K μ H [] []
 | no {x:Option V} {σ:L2.St} {env:bm} (t:EOk K μ H σ env):EOk K μ H (x::σ) (none::env)
 | yes {v:V} {d:D} {σ:L2.St} {env:bm} (h:Rep K μ H v d) (t:EOk K μ H σ env):EOk K μ H (some v::σ) (some d::env)
theorem EOk.mono(e:Ext μ H μ' H'):∀ {σ:L2.St} {env:bm},EOk K μ H σ env->EOk K μ' H' σ env
 | _,_,.nil=>.nil
 | _,_,.no t=>.no (EOk.mono e t)
 | _,_,.yes h t=>.yes (h.mono e) (EOk.mono e t)
theorem EOk.get:∀ {σ:L2.St} {env:bm} {i:Nat} {d:D},EOk K μ H σ env->env[i]?=some (some d)->∃ v,σ[i]?=some (some v)/\Rep K μ H v d
 | _,_,_,_,.nil,h=>by simp at h
 | _,_,0,_,.no _,h=>by simp at h
 | _,_,0,_,.yes h _,q=>by simp at q;subst q;exact⟨_,rfl,h⟩
 | _,_,i+1,d,.no t,h=>by
  obtain⟨v,h1,h2⟩:=EOk.get (i:=i) (d:=d) t (by simpa using h)
  exact⟨v,by simpa using h1,h2⟩
 | _,_,i+1,d,.yes _ t,h=>by
  obtain⟨v,h1,h2⟩:=EOk.get (i:=i) (d:=d) t (by simpa using h)
  exact⟨v,by simpa using h1,h2⟩
theorem EOk.set{v:V}{d:D}(r:Rep K μ H v d):∀ {σ:L2.St} {env:bm} (i:Nat),EOk K μ H σ env->EOk K μ H (σ.set i (Option.some v)) (env.set i (Option.some d))
 | _,_,_,.nil=>.nil
 | _,_,0,.no t=>.yes r t
 | _,_,0,.yes _ t=>.yes r t
 | _,_,i+1,.no t=>.no (EOk.set r i t)
 | _,_,i+1,.yes h t=>.yes h (EOk.set r i t)
theorem EOk.start{N:Nat}:∀ {vs:List V} {ds:List D},Reps K μ H vs ds->EOk K μ H (vs.map Option.some++List.replicate N Option.none) (ds.map Option.some++List.replicate N Option.none)
 | _,_,.nil=>by
  induction N with
  | zero=>exact .nil
  | succ n ih=>exact .no ih
 | _,_,.cons h t=>.yes h (EOk.start t)
theorem EOk.block{σ:L2.St}{env:bm}(h:EOk K μ H σ env):∀ (cap:List (Option Nat)),EOk K μ H (σB cap σ) (cap.map fun o=>o.bind fun i=>(env[i]?).join)
 | []=>.nil
 | Option.none::r=>.no (EOk.block h r)
 | Option.some i::r=>by
  show EOk K μ H ((σ[i]?).join::σB r σ) ((env[i]?).join::_)
  cases q:(env[i]?).join with
  | none=>exact .no (EOk.block h r)
  | some d=>
   have q':env[i]?=Option.some (Option.some d):=by
    cases z:env[i]? with
    | none=>rw [z] at q;cases q
    | some y=>rw [z] at q;exact congrArg Option.some q
   obtain⟨v,h1,h2⟩:=h.get q'
   rw [h1]
   exact .yes h2 (EOk.block h r)
theorem Ey{p a:Addr}{cs fb:List Addr}(n:(⟨cs,p::fb⟩:Fp).no a):(⟨cs,fb⟩:Fp).no a:=⟨n.1,fun z=>n.2 (List.mem_cons_of_mem _ z)⟩
theorem Rep.less{p:Addr}{cs fb:List Addr}{v:V}{d:D}(r:Rep K ⟨cs,p::fb⟩ H v d):Rep K ⟨cs,fb⟩ H v d:=r.imp (fun h n=>⟨h,Ey n⟩) fun h=>h
theorem Reps.less{p:Addr}{cs fb:List Addr}{v:List V}{d:List D}(r:Reps K ⟨cs,p::fb⟩ H v d):Reps K ⟨cs,fb⟩ H v d:=r.imp (fun h n=>⟨h,Ey n⟩) fun h=>h
theorem Ex{p:Addr}{o:HO}{cs fb:List Addr}(hp:H p=none){a:Addr}{o':HO}(h:H a=some o')(n:(⟨cs,fb⟩:Fp).no a):upd H p o a=some o'/\(⟨cs,p::fb⟩:Fp).no a:=⟨(bj (cq h hp)).trans h,n.1,fun z=>(List.mem_cons.mp z).elim (cq h hp) n.2⟩
theorem Rep.more{p:Addr}{o:HO}{cs fb:List Addr}(hp:H p=none){v:V}{d:D}(r:Rep K ⟨cs,fb⟩ H v d):Rep K ⟨cs,p::fb⟩ (upd H p o) v d:=r.imp (Ex hp) fun h=>h
theorem Reps.more{p:Addr}{o:HO}{cs fb:List Addr}(hp:H p=none){v:List V}{d:List D}(r:Reps K ⟨cs,fb⟩ H v d):Reps K ⟨cs,p::fb⟩ (upd H p o) v d:=r.imp (Ex hp) fun h=>h
theorem Fp.no.ne{μ:Fp}{a p:Addr}(n:μ.no a)(hp:p ∈ μ.fb):a≠p:=fun z=>n.2 (by rw [z];exact hp)
theorem Rep.chg{p:Addr}{o:HO}(hp:p ∈ μ.fb){v:V}{d:D}(r:Rep K μ H v d):Rep K μ (upd H p o) v d:=r.imp (fun h n=>⟨(bj (n.ne hp)).trans h,n⟩) fun h=>h
theorem Reps.chg{p:Addr}{o:HO}(hp:p ∈ μ.fb){v:List V}{d:List D}(r:Reps K μ H v d):Reps K μ (upd H p o) v d:=r.imp (fun h n=>⟨(bj (n.ne hp)).trans h,n⟩) fun h=>h
theorem EOk.more{p:Addr}{o:HO}{cs fb:List Addr}(hp:H p=none):∀ {σ:L2.St} {env:bm},EOk K ⟨cs,fb⟩ H σ env->EOk K ⟨cs,p::fb⟩ (upd H p o) σ env
 | _,_,.nil=>.nil
 | _,_,.no t=>.no (EOk.more hp t)
 | _,_,.yes h t=>.yes (h.more hp) (EOk.more hp t)
theorem EOk.chg{p:Addr}{o:HO}(hp:p ∈ μ.fb):∀ {σ:L2.St} {env:bm},EOk K μ H σ env->EOk K μ (upd H p o) σ env
 | _,_,.nil=>.nil
 | _,_,.no t=>.no (EOk.chg hp t)
 | _,_,.yes h t=>.yes (h.chg hp) (EOk.chg hp t)
theorem CellOk.upd{p a:Addr}{o:HO}{c:vp}(μ':Fp)(hpa:a≠p)(h:CellOk K μ H a c)(f:∀ vs ds,Reps K μ H vs ds->Reps K μ' (upd H p o) vs ds):CellOk K μ' (upd H p o) a c:=by
 cases c with
 | lst ds=>obtain⟨vs,h,r⟩:=h;exact⟨vs,(bj hpa).trans h,f _ _ r⟩
 | dct ks ds=>obtain⟨vs,h,q,r⟩:=h;exact⟨vs,(bj hpa).trans h,q,f _ _ r⟩
theorem SOk.less{S:ac}{p:Addr}{cs fb:List Addr}(s:SOk K ⟨cs,p::fb⟩ S H):SOk K ⟨cs,fb⟩ S H:=
 ⟨s.nd,s.len,fun r a c h1 h2=>by
  have:=s.cell r a c h1 h2
  cases c with
  | lst ds=>obtain⟨vs,h,r⟩:=this;exact⟨vs,h,r.less⟩
  | dct ks ds=>obtain⟨vs,h,q,r⟩:=this;exact⟨vs,h,q,r.less⟩,fun a ha=>s.fdom a (List.mem_cons_of_mem _ ha),fun a ha=>s.disj a (List.mem_cons_of_mem _ ha)⟩
theorem SOk.more{S:ac}{p:Addr}{o:HO}{cs fb:List Addr}(s:SOk K ⟨cs,fb⟩ S H)(hp:H p=none):SOk K ⟨cs,p::fb⟩ S (upd H p o):=by
 have hn:=s.notMem hp
 refine⟨s.nd,s.len,fun r a c h1 h2=>(s.cell r a c h1 h2).upd _ (fun z=>?_) fun vs ds r=>r.more hp,fun a ha=>?_,fun a ha z=>?_⟩
 ·exact hn.1 (z ▸ List.mem_of_getElem? h1)
 ·by_cases z:a=p
  ·subst z;rw [bv];simp
  ·rw [bj z];exact s.fdom a ((List.mem_cons.mp ha).resolve_left z)
 ·rcases List.mem_cons.mp ha with rfl | ha
  ·exact hn.1 z
  ·exact s.disj a ha z
theorem SOk.chg{S:ac}{p:Addr}{o:HO}(s:SOk K μ S H)(hp:p ∈ μ.fb):SOk K μ S (upd H p o):=by
 refine⟨s.nd,s.len,fun r a c h1 h2=>(s.cell r a c h1 h2).upd _ (fun z=>?_) fun vs ds r=>r.chg hp,fun a ha=>?_,s.disj⟩
 ·exact s.disj p hp (z ▸ List.mem_of_getElem? h1)
 ·by_cases z:a=p
  ·subst z;rw [bv];simp
  ·rw [bj z];exact s.fdom a ha
end
end M
namespace M
open PySem PySem.Spec PyProof.Rows L2
noncomputable abbrev ME:=bm->ac->Option (D×ac)
noncomputable abbrev MT:=bm->ac->Option (Bool×ac)
noncomputable abbrev MA:=bm->ac->Option (List D×ac)
inductive oo where
 | nx (env:bm) (S:ac)
 | rt (d:D) (S:ac)
 | bk (env:bm) (S:ac)
 | ct (env:bm) (S:ac)
noncomputable abbrev MS:=bm->ac->Option oo
def Post(K:PySem.W.Frag)(μ:Fp)(H:Hp)(S':ac)(d:D)(Q:VK):Prop:=∀ v H' μ',Ext μ H μ' H'->SOk K μ' S' H'->Rep K μ' H' v d->Q v H'
def PostT(K:PySem.W.Frag)(μ:Fp)(H:Hp)(S':ac)(b:Bool)(Q:Bool->Hp->Prop):Prop:=∀ H' μ',Ext μ H μ' H'->SOk K μ' S' H'->Q b H'
def PostA(K:PySem.W.Frag)(μ:Fp)(H:Hp)(S':ac)(ds:List D)(Q:List V->Hp->Prop):Prop:=∀ vs H' μ',Ext μ H μ' H'->SOk K μ' S' H'->Reps K μ' H' vs ds->Q vs H'
def PostN(K:PySem.W.Frag)(μ:Fp)(H:Hp)(S':ac)(env':bm)(Q:L2.St->Hp->Prop):Prop:=∀ σ' H' μ',Ext μ H μ' H'->SOk K μ' S' H'->EOk K μ' H' σ' env'->Q σ' H'
def PostS(K:PySem.W.Frag)(μ:Fp)(H:Hp)(o:oo)(E:vm):Prop:=match o with
 | .nx env' S'=>PostN K μ H S' env' E.nx
 | .rt d S'=>Post K μ H S' d E.rt
 | .bk env' S'=>PostN K μ H S' env' E.bk
 | .ct env' S'=>PostN K μ H S' env' E.ct
inductive tM(K:PySem.W.Frag)(m:ME)(σ:L2.St)(H:Hp)(Q:VK):Prop
 | mk (μ:Fp) (S:ac) (env:bm) (d:D) (S':ac) (hS:SOk K μ S H) (hE:EOk K μ H σ env) (h:m env S=some (d,S')) (post:Post K μ H S' d Q)
inductive HV(K:PySem.W.Frag)(m:MT)(σ:L2.St)(H:Hp)(Q:Bool->Hp->Prop):Prop
 | mk (μ:Fp) (S:ac) (env:bm) (b:Bool) (S':ac) (hS:SOk K μ S H) (hE:EOk K μ H σ env) (h:m env S=some (b,S')) (post:PostT K μ H S' b Q)
inductive tMA(K:PySem.W.Frag)(m:MA)(σ:L2.St)(H:Hp)(Q:List V->Hp->Prop):Prop
 | mk (μ:Fp) (S:ac) (env:bm) (ds:List D) (S':ac) (hS:SOk K μ S H) (hE:EOk K μ H σ env) (h:m env S=some (ds,S')) (post:PostA K μ H S' ds Q)
inductive tMS(K:PySem.W.Frag)(m:MS)(E:vm)(σ:L2.St)(H:Hp):Prop
 | mk (μ:Fp) (S:ac) (env:bm) (o:oo) (hS:SOk K μ S H) (hE:EOk K μ H σ env) (h:m env S=some o) (post:PostS K μ H o E)
inductive nq(K:PySem.W.Frag)(f:ac->D->D->Option D)(x y:V)(H:Hp)(Q:VK):Prop
 | mk (μ:Fp) (S:ac) (dx dy dz:D) (hS:SOk K μ S H) (h1:Rep K μ H x dx) (h2:Rep K μ H y dy) (h3:f S dx dy=some dz) (post:Post K μ H S dz Q)
inductive rM1(K:PySem.W.Frag)(f:ac->D->Option D)(x:V)(H:Hp)(Q:VK):Prop
 | mk (μ:Fp) (S:ac) (dx dz:D) (hS:SOk K μ S H) (h1:Rep K μ H x dx) (h3:f S dx=some dz) (post:Post K μ H S dz Q)
inductive IU(K:PySem.W.Frag)(f:List D->ac->Option (D×ac))(vs:List V)(H:Hp)(Q:VK):Prop
 | mk (μ:Fp) (S:ac) (ds:List D) (d:D) (S':ac) (hS:SOk K μ S H) (h1:Reps K μ H vs ds) (h3:f ds S=some (d,S')) (post:Post K μ H S' d Q)
def DE(X:Cx)(e:Expr)(m:ME):Prop:=PE X e (tM X.K m)
def DT(X:Cx)(e:Expr)(m:MT):Prop:=PT X e (HV X.K m)
def DW(X:Cx)(e:Expr)(m:MT):Prop:=PW X e (HV X.K m)
def DA(X:Cx)(es:List Expr)(m:MA):Prop:=PA X es (tMA X.K m)
def DS(X:Cx)(st:Stmt)(m:MS):Prop:=PS X st (tMS X.K m)
def vn(X:Cx)(st:List Stmt)(m:MS):Prop:=PSs X st (tMS X.K m)
section
variable{X:Cx}{K:PySem.W.Frag}{μ μ':Fp}{H H':Hp}{S S':ac}
theorem Post.ext{d:D}{Q:VK}(e:Ext μ H μ' H')(p:Post K μ H S' d Q):Post K μ' H' S' d Q:=fun v H2 μ2 e2 s r=>p v H2 μ2 (e.trans e2) s r
theorem Post.here{d:D}{Q:VK}{v:V}(p:Post K μ H S d Q)(s:SOk K μ S H)(r:Rep K μ H v d):Q v H:=p v H μ s.ext s r
theorem PE.imp{e:Expr}{t t':TE}(h:PE X e t)(i:∀ σ H Q,t' σ H Q->t σ H Q):PE X e t':=fun pins s σ H Q I q=>h pins s σ H Q I (i σ H Q q)
theorem PT.imp{e:Expr}{t t':TT}(h:PT X e t)(i:∀ σ H Q,t' σ H Q->t σ H Q):PT X e t':=fun pins s σ H Q I q=>h pins s σ H Q I (i σ H Q q)
theorem PW.imp{e:Expr}{t t':TT}(h:PW X e t)(i:∀ σ H Q,t' σ H Q->t σ H Q):PW X e t':=fun w pins s σ H Q I q=>h w pins s σ H Q I (i σ H Q q)
theorem PA.imp{e:List Expr}{t t':TA}(h:PA X e t)(i:∀ σ H Q,t' σ H Q->t σ H Q):PA X e t':=fun pos pins s σ H Q I q=>h pos pins s σ H Q I (i σ H Q q)
theorem PS.imp{e:Stmt}{t t':TS}(h:PS X e t)(i:∀ E σ H,t' E σ H->t E σ H):PS X e t':=fun pins s σ H E I q=>h pins s σ H E I (i E σ H q)
theorem PSs.imp{e:List Stmt}{t t':TS}(h:PSs X e t)(i:∀ E σ H,t' E σ H->t E σ H):PSs X e t':=fun pins s σ H E I q=>h pins s σ H E I (i E σ H q)
theorem OpR.imp{f:Value->Value->Sem Value}{r r':R2}(h:OpR X f r)(i:∀ x y H Q,r' x y H Q->r x y H Q):OpR X f r':=fun pins s σ H x y v u Q I rx ry q=>h pins s σ H x y v u Q I rx ry (i x y H Q q)
theorem UnR.imp{f:Value->Sem Value}{r r':V->Hp->VK->Prop}(h:UnR X f r)(i:∀ x H Q,r' x H Q->r x H Q):UnR X f r':=fun pins s σ H x v Q I rx q=>h pins s σ H x v Q I rx (i x H Q q)
theorem CallR.imp{f:Value}{r r':List V->Hp->VK->Prop}(h:CallR X f r)(i:∀ x H Q,r' x H Q->r x H Q):CallR X f r':=fun pins s σ H x v Q I rx q=>h pins s σ H x v Q I rx (i x H Q q)
theorem IxR.imp{r r':R2}(h:IxR X r)(i:∀ x y H Q,r' x y H Q->r x y H Q):IxR X r':=fun va sl pins s σ H x y v u Q I rx ry q=>h va sl pins s σ H x y v u Q I rx ry (i x y H Q q)
noncomputable def ab(i:Nat):ME:=fun env S=>(env[i]?).join.bind fun d=>some (d,S)
noncomputable def mC(d:D):ME:=fun _ S=>some (d,S)
theorem GF{α:Type}{o:Option (Option α)}{a:α}(h:o.join=some a):o=some (some a):=by
 cases o with
 | none=>cases h
 | some o=>exact congrArg some h
theorem SZ{i:Nat}{x:Str}{pos:Pos}(hN:X.N[i]?=some x)(hv:TL X.env.scope x)(hd:(x == ("__debug__":Str))=false:=by decide)(hcd:(x == ("__classdict__":Str))=false:=by decide):DE X (.Name x pos) (ab i):=
 PE.imp (Ji hN hv hd hcd) fun σ H Q ⟨μ,S,env,d,S',hS,hE,hm,post⟩=>by
  obtain⟨d',h1,h2⟩:=Option.bind_eq_some_iff.mp hm
  cases h2
  obtain⟨v,e,r⟩:=hE.get (GF h1)
  exact⟨v,e,post.here hS r⟩
theorem mE{e:Expr}{v:V}{d:D}(h:PE X e (tC v))(r:∀ μ H,Rep X.K μ H v d):DE X e (mC d):=
 PE.imp h fun σ H Q ⟨μ,S,env,d',S',hS,hE,hm,post⟩=>by cases hm;exact post.here hS (r μ H)
theorem Th{i:Int}{j pos}:DE X (.Constant (.int i) j pos) (mC (.int i)):=mE QX fun _ _=>.int i
theorem de_bl{b j pos}:DE X (.Constant (.bool b) j pos) (mC (.bl b)):=mE pe_bl fun _ _=>.bl b
theorem Td{j pos}:DE X (.Constant .none j pos) (mC .non):=mE QW fun _ _=>.non
theorem Tb{x j pos}:DE X (.Constant (.str x) j pos) (mC (.str x)):=mE QT fun _ _=>.str x
structure GC(K:PySem.W.Frag)(mg:Str->Option Value)(x:Str)(d:D):Prop where
 ex:∃ u v,mg x=some u/\RelV v u/\∀ μ H,Rep K μ H v d
theorem ON{x:Str}{d:D}{pos:Pos}(g:GC X.K X.mg x d)(hg:Gl X x:=by rfl)(hd:(x == ("__debug__":Str))=false:=by decide):DE X (.Name x pos) (mC d):=by
 obtain⟨u,v,h1,h2,h3⟩:=g.ex
 exact mE (xD hg h1 h2 hd) h3
noncomputable def au(f:ac->D->D->Option D)(a b:ME):ME:=fun env S=>(a env S).bind fun p=>(b env p.2).bind fun q=>(f q.2 p.1 q.1).bind fun z=>some (z,q.2)
theorem JK{f:ac->D->D->Option D}{a b:ME}{env:bm}{S S':ac}{d:D}(h:au f a b env S=some (d,S')):∃ x S1 y,a env S=some (x,S1)/\b env S1=some (y,S')/\f S' x y=some d:=by
 obtain⟨⟨x,S1⟩,h1,h⟩:=Option.bind_eq_some_iff.mp h
 obtain⟨⟨y,S2⟩,h2,h⟩:=Option.bind_eq_some_iff.mp h
 obtain⟨z,h3,h⟩:=Option.bind_eq_some_iff.mp h
 cases h
 exact⟨x,S1,y,h1,h2,h3⟩
theorem wT{f:ac->D->D->Option D}{ma mb:ME}{σ:L2.St}{Q:VK}(h:tM K (au f ma mb) σ H Q):tOp (nq K f) (tM K ma) (tM K mb) σ H Q:=by
 obtain⟨μ,S,env,d,S',hS,hE,hm,post⟩:=h
 obtain⟨x,S1,y,h1,h2,h3⟩:=JK hm
 exact⟨μ,S,env,x,S1,hS,hE,h1,fun v H1 μ1 e1 s1 r1=>⟨μ1,S1,env,y,S',s1,hE.mono e1,h2,fun w H2 μ2 e2 s2 r2=>⟨μ2,S',x,y,d,s2,r1.mono e2,r2,h3,(post.ext e1).ext e2⟩⟩⟩
section
variable{a b c:Expr}{ma mb mc:ME}{pos:Pos}
theorem wE{op:Operator}{f:ac->D->D->Option D}(ho:OpR X (binaryOp op) (nq X.K f))(ha:DE X a ma)(hb:DE X b mb):DE X (.BinOp a op b pos) (au f ma mb):=
 PE.imp (pe_op ho ha hb) fun _ _ _ h=>wT h
theorem Tk{op:CmpOp}{f:ac->D->D->Option D}(ho:OpR X (compareOp op) (nq X.K f))(ha:DE X a ma)(hb:DE X b mb)(hm:behindInMarks op b=false):DE X (.Compare a [op] [b] pos) (au f ma mb):=
 PE.imp (Nh ho ha hb hm) fun _ _ _ h=>wT h
noncomputable def av(m:ME):MT:=fun env S=>(m env S).bind fun p=>match p.1 with | .bl k=>some (k,p.2) | _=>none
theorem sX{m:ME}{env:bm}{S S':ac}{k:Bool}(h:av m env S=some (k,S')):m env S=some (.bl k,S'):=by
 obtain⟨⟨x,S1⟩,h1,h⟩:=Option.bind_eq_some_iff.mp h
 cases x <;> first | (cases h;exact h1) | cases h
theorem Rep.bl_inv{v:V}{k:Bool}(h:Rep K μ H v (.bl k)):v=.bl k:=by cases h;rfl
theorem Rep.int_inv{v:V}{k:Int}(h:Rep K μ H v (.int k)):v=.int k:=by cases h;rfl
theorem Rep.str_inv{v:V}{k:Str}(h:Rep K μ H v (.str k)):v=.str k:=by cases h;rfl
theorem SO{op:CmpOp}{f:ac->D->D->Option D}(ho:OpR X (compareOp op) (nq X.K f))(ha:DE X a ma)(hb:DE X b mb)(hm:behindInMarks op b=false):DT X (.Compare a [op] [b] pos) (av (au f ma mb)):=
 PT.imp (MQ ho ha hb hm) fun σ H Q ⟨μ,S,env,k,S',hS,hE,hm,post⟩=>by
  have h:=sX hm
  refine wT ⟨μ,S,env,_,S',hS,hE,h,fun v H' μ' e s r=>?_⟩
  exact⟨k,r.bl_inv,post H' μ' e s⟩
noncomputable def cT(f g:ac->D->D->Option D)(a b c:ME):ME:=fun env S=>(a env S).bind fun p=>(b env p.2).bind fun q=>(f q.2 p.1 q.1).bind fun z=>match z with
 | .bl true=>(c env q.2).bind fun r=>(g r.2 q.1 r.1).bind fun z=>some (z,r.2)
 | .bl false=>some (.bl false,q.2)
 | _=>none
theorem vw{f g:ac->D->D->Option D}{σ:L2.St}{Q:VK}(h:tM K (cT f g ma mb mc) σ H Q):BI (nq K f) (nq K g) (tM K ma) (tM K mb) (tM K mc) σ H Q:=by
 obtain⟨μ,S,env,d,S',hS,hE,hm,post⟩:=h
 obtain⟨⟨x,S1⟩,h1,hm⟩:=Option.bind_eq_some_iff.mp hm
 obtain⟨⟨y,S2⟩,h2,hm⟩:=Option.bind_eq_some_iff.mp hm
 obtain⟨z,h3,hm⟩:=Option.bind_eq_some_iff.mp hm
 refine⟨μ,S,env,x,S1,hS,hE,h1,fun v H1 μ1 e1 s1 r1=>⟨μ1,S1,env,y,S2,s1,hE.mono e1,h2,fun w H2 μ2 e2 s2 r2=>⟨μ2,S2,x,y,z,s2,r1.mono e2,r2,h3,fun u H3 μ3 e3 s3 r3=>?_⟩⟩⟩
 cases z with
 | bl k=>
  refine⟨k,r3.bl_inv,?_⟩
  cases k with
  | false=>cases hm;rw [if_neg Bool.false_ne_true];exact post _ H3 μ3 ((e1.trans e2).trans e3) s3 (.bl false)
  | true=>
   obtain⟨⟨t,S4⟩,h4,hm⟩:=Option.bind_eq_some_iff.mp hm
   obtain⟨z,h5,hm⟩:=Option.bind_eq_some_iff.mp hm
   cases hm
   rw [if_pos rfl]
   exact⟨μ3,S2,env,t,S4,s3,hE.mono ((e1.trans e2).trans e3),h4,fun u' H4 μ4 e4 s4 r4=>⟨μ4,_,y,t,_,s4,(r2.mono e3).mono e4,r4,h5,post.ext (((e1.trans e2).trans e3).trans e4)⟩⟩
 | _=>cases hm
theorem LM{op op':CmpOp}{f g:ac->D->D->Option D}(ho:OpR X (compareOp op) (nq X.K f))(ho':OpR X (compareOp op') (nq X.K g))(ha:DE X a ma)(hb:DE X b mb)(hc:DE X c mc)
  (hm:lastMarks [op,op'] [b,c]=false:=by with_unfolding_all rfl):DE X (.Compare a [op,op'] [b,c] pos) (cT f g ma mb mc):=
 PE.imp (Jp ho ho' ha hb hc hm) fun _ _ _ h=>vw h
theorem Lp{op op':CmpOp}{f g:ac->D->D->Option D}(ho:OpR X (compareOp op) (nq X.K f))(ho':OpR X (compareOp op') (nq X.K g))(ha:DE X a ma)(hb:DE X b mb)(hc:DE X c mc)
  (hm:lastMarks [op,op'] [b,c]=false:=by with_unfolding_all rfl):DT X (.Compare a [op,op'] [b,c] pos) (av (cT f g ma mb mc)):=
 PT.imp (IY ho ho' ha hb hc hm) fun σ H Q ⟨μ,S,env,k,S',hS,hE,hm,post⟩=>by
  have h:=sX hm
  refine vw ⟨μ,S,env,_,S',hS,hE,h,fun v H' μ' e s r=>?_⟩
  exact⟨k,r.bl_inv,post H' μ' e s⟩
noncomputable def rV(S:ac):D->Option Bool
 | .non=>some false
 | .bl b=>some b
 | .int i=>some (i != 0)
 | .str y=>if y.length<=sizeLine then some ((y.length:Int) != 0) else none
 | .tup xs=>some (!xs.isEmpty)
 | .lst xs=>some (!xs.isEmpty)
 | .rol xs=>some (!xs.isEmpty)
 | .dct ks _=>some (!ks.isEmpty)
 | .ref r=>match S[r]? with
  | some (.lst xs)=>some (!xs.isEmpty)
  | some (.dct ks _)=>some (!ks.isEmpty)
  | none=>none
theorem Reps.isEmpty{vs:List V}{ds:List D}(r:Reps K μ H vs ds):(!ds.isEmpty) = !vs.isEmpty:=by cases r <;> rfl
theorem qw{α β:Type}(f:α->β)(l:List α):(!(l.map f).isEmpty) = !l.isEmpty:=by cases l <;> rfl
theorem rh{x:V}{d:D}{k:Bool}(s:SOk K μ S H)(r:Rep K μ H x d)(h:rV S d=some k):HS K x H k:=by
 cases r with
 | non=>cases h;rfl
 | bl b=>cases h;rfl
 | int i=>cases h;rfl
 | str y=>
  simp only [rV] at h
  split at h
  ·rename_i hy;cases h;exact⟨hy,rfl⟩
  ·cases h
 | @tup a vs ds h' n r=>cases h;exact .inr (.inl ⟨vs,.inl (.inl h'),r.isEmpty⟩)
 | @ktup a vs ds h' r=>cases h;exact .inr (.inl ⟨vs,.inr h',r.isEmpty⟩)
 | @lst a vs ds h' n r=>cases h;exact .inl ⟨vs,.inl (.inl h'),r.isEmpty⟩
 | @rol a vs ds h' n r=>cases h;exact .inl ⟨vs,.inl h',r.isEmpty⟩
 | @krol a vs ds h' r=>cases h;exact .inl ⟨vs,.inr h',r.isEmpty⟩
 | @dct a kvs ds h' n r=>cases h;exact .inr (.inr ⟨kvs,h',qw _ _⟩)
 | @ref a i h'=>
  simp only [rV] at h
  cases q:S[i]? with
  | none=>rw [q] at h;cases h
  | some c=>
   rw [q] at h
   have ck:=s.cell i a c h' q
   cases c with
   | lst xs=>cases h;obtain⟨vs,e,r⟩:=ck;exact .inl ⟨vs,.inl (.inl e),r.isEmpty⟩
   | dct ks xs=>cases h;obtain⟨kvs,e,rfl,r⟩:=ck;exact .inr (.inr ⟨kvs,e,qw _ _⟩)
noncomputable def cV(m:ME):MT:=fun env S=>(m env S).bind fun p=>(rV p.2 p.1).bind fun k=>some (k,p.2)
theorem Bl(ha:DE X a ma)(he:∀ whole,isTrue a X.env whole=(do let v <- whole;standAt a.pos;holding [v] (truthy v)):=by intro _;rfl):DT X a (cV ma):=
 PT.imp (IW ha he) fun σ H Q ⟨μ,S,env,k,S',hS,hE,hm,post⟩=>by
  obtain⟨⟨x,S1⟩,h1,hm⟩:=Option.bind_eq_some_iff.mp hm
  obtain⟨k',h2,hm⟩:=Option.bind_eq_some_iff.mp hm
  cases hm
  exact⟨μ,S,env,x,S1,hS,hE,h1,fun v H' μ' e s r=>⟨k,rh s r h2,post H' μ' e s⟩⟩
variable{ta tb tc:MT}{rest:List Expr}
noncomputable def cK(a b:MT):MT:=fun env S=>(a env S).bind fun p=>if p.1=true then b env p.2 else some (false,p.2)
noncomputable def fC(a b:MT):MT:=fun env S=>(a env S).bind fun p=>if p.1=true then some (true,p.2) else b env p.2
noncomputable def dQ(a:MT):MT:=fun env S=>(a env S).bind fun p=>some (!p.1,p.2)
theorem Ms{σ:L2.St}{Q:Bool->Hp->Prop}(h:HV K (cK ta tb) σ H Q):tAnd (HV K ta) (HV K tb) σ H Q:=by
 obtain⟨μ,S,env,k,S',hS,hE,hm,post⟩:=h
 obtain⟨⟨x,S1⟩,h1,hm⟩:=Option.bind_eq_some_iff.mp hm
 refine⟨μ,S,env,x,S1,hS,hE,h1,fun H1 μ1 e1 s1=>?_⟩
 cases x with
 | true=>rw [if_pos rfl] at hm ⊢;exact⟨μ1,S1,env,k,S',s1,hE.mono e1,hm,fun H2 μ2 e2 s2=>post H2 μ2 (e1.trans e2) s2⟩
 | false=>rw [if_neg Bool.false_ne_true] at hm ⊢;cases hm;exact post H1 μ1 e1 s1
theorem Qw{σ:L2.St}{Q:Bool->Hp->Prop}(h:HV K (fC ta tb) σ H Q):tOr (HV K ta) (HV K tb) σ H Q:=by
 obtain⟨μ,S,env,k,S',hS,hE,hm,post⟩:=h
 obtain⟨⟨x,S1⟩,h1,hm⟩:=Option.bind_eq_some_iff.mp hm
 refine⟨μ,S,env,x,S1,hS,hE,h1,fun H1 μ1 e1 s1=>?_⟩
 cases x with
 | false=>rw [if_neg Bool.false_ne_true] at hm ⊢;exact⟨μ1,S1,env,k,S',s1,hE.mono e1,hm,fun H2 μ2 e2 s2=>post H2 μ2 (e1.trans e2) s2⟩
 | true=>rw [if_pos rfl] at hm ⊢;cases hm;exact post H1 μ1 e1 s1
theorem Fh(ha:DT X a ta):DW X (.BoolOp .And [a] pos) ta:=MK ha
theorem Ll(ha:DT X a ta):DW X (.BoolOp .Or [a] pos) ta:=QH ha
theorem Lm(ha:DT X a ta)(hb:DW X (.BoolOp .And (b::rest) pos) tb):DW X (.BoolOp .And (a::b::rest) pos) (cK ta tb):=PW.imp (QI ha hb) fun _ _ _ h=>Ms h
theorem PZ(ha:DT X a ta)(hb:DW X (.BoolOp .Or (b::rest) pos) tb):DW X (.BoolOp .Or (a::b::rest) pos) (fC ta tb):=PW.imp (pw_or ha hb) fun _ _ _ h=>Qw h
theorem Oy(h:DW X a ta):DT X a ta:=PW.pt h
theorem SN(ha:DT X a ta):DT X (.UnaryOp .Not a pos) (dQ ta):=PT.imp (QJ ha) fun σ H Q ⟨μ,S,env,k,S',hS,hE,hm,post⟩=>by
 obtain⟨⟨x,S1⟩,h1,hm⟩:=Option.bind_eq_some_iff.mp hm
 cases hm
 exact⟨μ,S,env,x,S1,hS,hE,h1,fun H1 μ1 e1 s1=>post H1 μ1 e1 s1⟩
noncomputable def dm(a b:ME):ME:=fun env S=>(a env S).bind fun p=>match p.1 with | .bl true=>b env p.2 | .bl false=>some (.bl false,p.2) | _=>none
noncomputable def vR(a b:ME):ME:=fun env S=>(a env S).bind fun p=>match p.1 with | .bl false=>b env p.2 | .bl true=>some (.bl true,p.2) | _=>none
theorem LI{op}(h:DE X a ma):DE X (.BoolOp op [a] pos) ma:=QV h
noncomputable def ia(a:ME):ME:=fun env S=>(a env S).bind fun p=>match p.1 with | .bl k=>some (.bl (!k),p.2) | _=>none
noncomputable def lF(t:MT)(a b:ME):ME:=fun env S=>(t env S).bind fun p=>if p.1=true then a env p.2 else b env p.2
theorem de_if(hc:DT X c tc)(ha:DE X a ma)(hb:DE X b mb):DE X (.IfExp c a b pos) (lF tc ma mb):=PE.imp (Jm hc ha hb) fun σ H Q ⟨μ,S,env,d,S',hS,hE,hm,post⟩=>by
 obtain⟨⟨x,S1⟩,h1,hm⟩:=Option.bind_eq_some_iff.mp hm
 refine⟨μ,S,env,x,S1,hS,hE,h1,fun H1 μ1 e1 s1=>?_⟩
 cases x with
 | true=>rw [if_pos rfl] at hm ⊢;exact⟨μ1,S1,env,d,S',s1,hE.mono e1,hm,post.ext e1⟩
 | false=>rw [if_neg Bool.false_ne_true] at hm ⊢;exact⟨μ1,S1,env,d,S',s1,hE.mono e1,hm,post.ext e1⟩
variable{es:List Expr}{ms:MA}
noncomputable def ag:MA:=fun _ S=>some ([],S)
noncomputable def aa(a:ME)(r:MA):MA:=fun env S=>(a env S).bind fun p=>(r env p.2).bind fun q=>some (p.1::q.1,q.2)
theorem Tl:DA X [] ag:=PA.imp Jt fun σ H Q ⟨μ,S,env,d,S',hS,hE,hm,post⟩=>by cases hm;exact post [] H μ hS.ext hS .nil
theorem OU(ha:DE X a ma)(hr:DA X es ms)(hs:starEach (a::es) X.env=(false,eval a X.env)::starEach es X.env:=by rfl):DA X (a::es) (aa ma ms):=PA.imp (xE ha hr hs) fun σ H Q ⟨μ,S,env,ds,S',hS,hE,hm,post⟩=>by
 obtain⟨⟨x,S1⟩,h1,hm⟩:=Option.bind_eq_some_iff.mp hm
 obtain⟨⟨xs,S2⟩,h2,hm⟩:=Option.bind_eq_some_iff.mp hm
 cases hm
 exact⟨μ,S,env,x,S1,hS,hE,h1,fun v H1 μ1 e1 s1 r1=>⟨μ1,S1,env,xs,S2,s1,hE.mono e1,h2,fun vs H2 μ2 e2 s2 r2=>post (v::vs) H2 μ2 (e1.trans e2) s2 (.cons (r1.mono e2) r2)⟩⟩
noncomputable def aT(ms:MA):ME:=fun env S=>(ms env S).bind fun p=>if p.1.length<=sizeLine then some (.tup p.1,p.2) else none
noncomputable def dM(ms:MA):ME:=fun env S=>(ms env S).bind fun p=>if p.1.length<=sizeLine then some (.lst p.1,p.2) else none
noncomputable def fZ(ms:MA):ME:=fun env S=>(ms env S).bind fun p=>if p.1.length<=sizeLine then some (.ref p.2.length,p.2++[.lst p.1]) else none
theorem Post.tup{vs:List V}{ds:List D}{Q:VK}{p:Addr}(post:Post K μ H S (.tup ds) Q)(s:SOk K μ S H)(hp:H p=none)(r:Reps K μ H vs ds):Q (.ref p) (upd H p (.tup vs)):=by
 obtain⟨e,s'⟩:=s.laid (o:=.tup vs) hp
 exact post _ _ _ e s' (.tup bv (s.notMem hp) (r.mono e))
theorem Post.lst{vs:List V}{ds:List D}{Q:VK}{p:Addr}(post:Post K μ H S (.lst ds) Q)(s:SOk K μ S H)(hp:H p=none)(r:Reps K μ H vs ds):Q (.ref p) (upd H p (.lst vs)):=by
 obtain⟨e,s'⟩:=s.laid (o:=.lst vs) hp
 exact post _ _ _ e s' (.lst bv (s.notMem hp) (r.mono e))
theorem Post.lstR{vs:List V}{ds:List D}{Q:VK}{p:Addr}(post:Post K μ H (S++[.lst ds]) (.ref S.length) Q)(s:SOk K μ S H)(hp:H p=none)(r:Reps K μ H vs ds):Q (.ref p) (upd H p (.lst vs)):=by
 obtain⟨e,s'⟩:=s.alloc hp r
 exact post _ _ _ e s' (.ref (by rw [<- s.len,List.getElem?_append_right (Nat.le_refl _)];simp))
theorem Ta{k}(h:DA X es ms):DE X (.Tuple es k pos) (aT ms):=PE.imp (QS h) fun σ H Q ⟨μ,S,env,d,S',hS,hE,hm,post⟩=>by
 obtain⟨⟨xs,S1⟩,h1,hm⟩:=Option.bind_eq_some_iff.mp hm
 dsimp only at hm
 split at hm
 ·rename_i hl
  cases hm
  exact⟨μ,S,env,_,_,hS,hE,h1,fun vs H1 μ1 e1 s1 r1=>⟨by rw [r1.length];exact hl,fun p hp=>(post.ext e1).tup s1 hp r1⟩⟩
 ·cases hm
theorem Tf(h:DA X es ms):DE X (.List es pos) (dM ms):=PE.imp (Jk h) fun σ H Q ⟨μ,S,env,d,S',hS,hE,hm,post⟩=>by
 obtain⟨⟨xs,S1⟩,h1,hm⟩:=Option.bind_eq_some_iff.mp hm
 dsimp only at hm
 split at hm
 ·rename_i hl
  cases hm
  exact⟨μ,S,env,_,_,hS,hE,h1,fun vs H1 μ1 e1 s1 r1=>⟨by rw [r1.length];exact hl,fun p hp=>(post.ext e1).lst s1 hp r1⟩⟩
 ·cases hm
theorem OM(h:DA X es ms):DE X (.List es pos) (fZ ms):=PE.imp (Jk h) fun σ H Q ⟨μ,S,env,d,S',hS,hE,hm,post⟩=>by
 obtain⟨⟨xs,S1⟩,h1,hm⟩:=Option.bind_eq_some_iff.mp hm
 dsimp only at hm
 split at hm
 ·rename_i hl
  cases hm
  exact⟨μ,S,env,_,_,hS,hE,h1,fun vs H1 μ1 e1 s1 r1=>⟨by rw [r1.length];exact hl,fun p hp=>(post.ext e1).lstR s1 hp r1⟩⟩
 ·cases hm
theorem OO:DE X (.Dict [] [] pos) (mC (.dct [] [])):=PE.imp Jn fun σ H Q ⟨μ,S,env,d,S',hS,hE,hm,post⟩=>by
 cases hm
 intro p hp
 obtain⟨e,s'⟩:=hS.laid (o:=.dK []) hp
 exact post _ _ _ e s' (.dct (kvs:=[]) bv (hS.notMem hp) .nil)
end
end
end M
namespace M
open PySem PySem.Spec PyProof.Rows L2
mutual
noncomputable def jC:D->D->Bool
 | .non,.non=>true
 | .bl a,.bl b=>a == b
 | .bl a,.int b=>(if a then 1 else 0) == b
 | .int a,.bl b=>a == (if b then 1 else 0)
 | .int a,.int b=>a == b
 | .str a,.str b=>a == b
 | .tup xs,.tup ys=>eqDs xs ys
 | .lst xs,.lst ys=>eqDs xs ys
 | _,_=>false
noncomputable def eqDs:List D->List D->Bool
 | [],[]=>true
 | x::xs,y::ys=>jC x y&&eqDs xs ys
 | _,_=>false
end
noncomputable def cB:Nat->D->Bool
 | _,.non=>true
 | _,.bl _=>true
 | _,.int _=>true
 | _,.str _=>true
 | n+1,.tup xs=>xs.all (cB n)
 | n+1,.lst xs=>xs.all (cB n)
 | _,_=>false
theorem sE:∀ {n m:Nat} {d:D},n<=m->cB n d=true->cB m d=true
 | n,m,.non,_,_=>by simp [cB]
 | n,m,.bl _,_,_=>by simp [cB]
 | n,m,.int _,_,_=>by simp [cB]
 | n,m,.str _,_,_=>by simp [cB]
 | 0,m,.tup _,_,h=>by simp [cB] at h
 | 0,m,.lst _,_,h=>by simp [cB] at h
 | n+1,m+1,.tup xs,hl,h=>by
  simp only [cB,List.all_eq_true] at h ⊢
  exact fun d hd=>sE (Nat.le_of_succ_le_succ hl) (h d hd)
 | n+1,m+1,.lst xs,hl,h=>by
  simp only [cB,List.all_eq_true] at h ⊢
  exact fun d hd=>sE (Nat.le_of_succ_le_succ hl) (h d hd)
 | n+1,0,.tup _,hl,_=>absurd hl (by omega)
 | n+1,0,.lst _,hl,_=>absurd hl (by omega)
 | n,m,.rol _,_,h=>by cases n <;> simp [cB] at h
 | n,m,.dct _ _,_,h=>by cases n <;> simp [cB] at h
 | n,m,.ref _,_,h=>by cases n <;> simp [cB] at h
theorem yJ:∀ (xs ys:List D),eqDs xs ys=((List.range (min xs.length ys.length)).all (fun j=>match xs[j]?,ys[j]? with | some a,some b=>jC a b | _,_=>true)&&xs.length == ys.length)
 | [],[]=>rfl
 | [],y::ys=>by simp [eqDs]
 | x::xs,[]=>by simp [eqDs]
 | x::xs,y::ys=>by
  have ih:=yJ xs ys
  rw [eqDs,ih]
  have hm:min (x::xs).length (y::ys).length=min xs.length ys.length+1:=by simp only [List.length_cons];omega
  rw [hm,List.range_succ_eq_map,List.all_cons,List.all_map]
  simp only [List.getElem?_cons_zero,List.length_cons,Bool.and_assoc]
  congr 1
  congr 1
  rw [Bool.eq_iff_iff];simp
section
variable{X:Cx}{pins:List (Addr×Obj)}{σ:L2.St}{H:Hp}{s:Shared}{μ:Fp}{A:Around}
theorem Rep.sqT{K:PySem.W.Frag}{v:V}{ds:List D}(r:Rep K μ H v (.tup ds)):∃ a vs,v=.ref a/\lI K H a vs/\Reps K μ H vs ds:=by
 cases r with
 | tup h n r=>exact⟨_,_,rfl,.inl (.inl h),r⟩
 | ktup h r=>exact⟨_,_,rfl,.inr h,r⟩
theorem Rep.sqL{K:PySem.W.Frag}{v:V}{ds:List D}(r:Rep K μ H v (.lst ds)):∃ a vs,v=.ref a/\H a=some (.lst vs)/\μ.no a/\Reps K μ H vs ds:=by
 cases r with
 | lst h n r=>exact⟨_,_,rfl,h,n,r⟩
theorem Rep.sqR{K:PySem.W.Frag}{v:V}{ds:List D}(r:Rep K μ H v (.rol ds)):∃ a vs,v=.ref a/\om K H a vs/\Reps K μ H vs ds:=by
 cases r with
 | rol h n r=>exact⟨_,_,rfl,.inl h,r⟩
 | krol h r=>exact⟨_,_,rfl,.inr h,r⟩
theorem ntl(I:Inv X pins σ H s){a:Addr}{xs ys:List V}(h:lI X.K H a xs)(h':om X.K H a ys):False:=by
 obtain⟨its,_,⟨o,e,c,_⟩,_⟩:=I.tuple h
 obtain⟨its',_,⟨o',n',e',c',_⟩,_⟩:=I.list h'
 rw [e] at e';cases e'
 rw [c] at c'
 exact absurd c' (by simp)
theorem Rep.non_inv{K:PySem.W.Frag}{v:V}(h:Rep K μ H v .non):v=.non:=by cases h;rfl
theorem Er{n:Nat}{xs:List D}:cB n (.rol xs)=false:=by cases n <;> rfl
theorem Et{n:Nat}{ks:List bz}{xs:List D}:cB n (.dct ks xs)=false:=by cases n <;> rfl
theorem Es{n:Nat}{r:Nat}:cB n (.ref r)=false:=by cases n <;> rfl
theorem rp{n:Nat}{xs:List D}(h:cB n (.tup xs)=true):∃ m,m+1=n/\∀ x∈xs,cB m x=true:=by
 cases n with
 | zero=>cases h
 | succ n=>exact⟨n,rfl,List.all_eq_true.mp h⟩
theorem rq{n:Nat}{xs:List D}(h:cB n (.lst xs)=true):∃ m,m+1=n/\∀ x∈xs,cB m x=true:=by
 cases n with
 | zero=>cases h
 | succ n=>exact⟨n,rfl,List.all_eq_true.mp h⟩
inductive Fm(K:PySem.W.Frag)(μ:Fp)(H:Hp):D->V->Prop
 | non:Fm K μ H .non .non
 | bl (b:Bool):Fm K μ H (.bl b) (.bl b)
 | int (i:Int):Fm K μ H (.int i) (.int i)
 | str (x:Str):Fm K μ H (.str x) (.str x)
 | tup {xs:List D} {l:Addr} {vs:List V} (q:lI K H l vs) (r:Reps K μ H vs xs):Fm K μ H (.tup xs) (.ref l)
 | lst {xs:List D} {l:Addr} {vs:List V} (q:om K H l vs) (r:Reps K μ H vs xs):Fm K μ H (.lst xs) (.ref l)
theorem qJ{K:PySem.W.Frag}{n:Nat}{x:D}{a:V}(hx:cB n x=true)(r:Rep K μ H a x):Fm K μ H x a:=by
 cases x with
 | non=>rw [r.non_inv];exact .non
 | bl b=>rw [r.bl_inv];exact .bl b
 | int b=>rw [r.int_inv];exact .int b
 | str b=>rw [r.str_inv];exact .str b
 | tup xs=>obtain⟨l,vs,rfl,q,r⟩:=r.sqT;exact .tup q r
 | lst xs=>obtain⟨l,vs,rfl,q,_,r⟩:=r.sqL;exact .lst (.inl (.inl q)) r
 | rol _=>rw [Er] at hx;cases hx
 | dct _ _=>rw [Et] at hx;cases hx
 | ref _=>rw [Es] at hx;cases hx
theorem Reps.injN{K:PySem.W.Frag}{n:Nat}(ih:∀ {v:V} {x y:D},cB n x=true->cB n y=true->Rep K μ H v x->Rep K μ H v y->x=y):∀ {vs:List V} {xs ys:List D},(∀ x∈xs,cB n x=true)->(∀ y∈ys,cB n y=true)->Reps K μ H vs xs->Reps K μ H vs ys->xs=ys
 | _,_,_,_,_,.nil,.nil=>rfl
 | _,_,_,hx,hy,.cons h t,.cons h' t'=>by
  rw [ih (hx _ List.mem_cons_self) (hy _ List.mem_cons_self) h h',Reps.injN ih (fun x m=>hx x (List.mem_cons_of_mem _ m)) (fun x m=>hy x (List.mem_cons_of_mem _ m)) t t']
theorem AQ(I:Inv X pins σ H s)(n:Nat)(ih:∀ m,m+1=n->∀ {v:V} {x y:D},cB m x=true->cB m y=true->Rep X.K μ H v x->Rep X.K μ H v y->x=y){v:V}{x y:D}(hx:cB n x=true)(hy:cB n y=true)(rx:Rep X.K μ H v x)(ry:Rep X.K μ H v y):x=y:=by
 have fy:=qJ hy ry
 cases x with
 | tup xs=>
  obtain⟨a,vs,rfl,q,r⟩:=rx.sqT
  obtain⟨m,hm,ox⟩:=rp hx
  cases fy with
  | tup q' r'=>
   cases I.tuple_inj q' q
   obtain⟨m',hm',oy⟩:=rp hy
   have:m'=m:=by omega
   subst this
   rw [Reps.injN (ih m' hm) ox oy r r']
  | lst q' _=>exact(ntl I q q').elim
 | lst xs=>
  obtain⟨a,vs,rfl,q,_,r⟩:=rx.sqL
  obtain⟨m,hm,ox⟩:=rq hx
  cases y with
  | lst ys=>
   obtain⟨m',hm',oy⟩:=rq hy
   have:m'=m:=by omega
   subst this
   obtain⟨a',vs',e,q',_,r'⟩:=ry.sqL
   cases e
   rw [q] at q';cases q'
   rw [Reps.injN (ih m' hm) ox oy r r']
  | _=>cases fy <;> exact(ntl I (by assumption) (.inl (.inl q))).elim
 | non=>rw [rx.non_inv] at fy;cases fy;rfl
 | bl b=>rw [rx.bl_inv] at fy;cases fy;rfl
 | int b=>rw [rx.int_inv] at fy;cases fy;rfl
 | str b=>rw [rx.str_inv] at fy;cases fy;rfl
 | rol _=>rw [Er] at hx;cases hx
 | dct _ _=>rw [Et] at hx;cases hx
 | ref _=>rw [Es] at hx;cases hx
theorem Rep.inj(I:Inv X pins σ H s)(n:Nat):∀ {v:V} {x y:D},cB n x=true->cB n y=true->Rep X.K μ H v x->Rep X.K μ H v y->x=y:=by
 induction n with
 | zero=>exact fun hx hy rx ry=>AQ I 0 (fun m h=>absurd h (Nat.succ_ne_zero m)) hx hy rx ry
 | succ n ih=>exact fun hx hy rx ry=>AQ I (n+1) (fun m h=>by cases h;exact ih) hx hy rx ry
theorem mD:∀ (n:Nat) (x:D),cB n x=true->jC x x=true
 | n,.non,_=>rfl
 | n,.bl _,_=>by simp [jC]
 | n,.int _,_=>by simp [jC]
 | n,.str _,_=>by simp [jC]
 | 0,.tup _,h=>by simp [cB] at h
 | 0,.lst _,h=>by simp [cB] at h
 | n+1,.tup xs,h=>by
  simp only [cB,List.all_eq_true] at h
  rw [jC]
  induction xs with
  | nil=>rfl
  | cons x xs ih=>rw [eqDs,mD n x (h x List.mem_cons_self),ih fun y m=>h y (List.mem_cons_of_mem _ m)];rfl
 | n+1,.lst xs,h=>by
  simp only [cB,List.all_eq_true] at h
  rw [jC]
  induction xs with
  | nil=>rfl
  | cons x xs ih=>rw [eqDs,mD n x (h x List.mem_cons_self),ih fun y m=>h y (List.mem_cons_of_mem _ m)];rfl
 | n,.rol _,h=>by cases n <;> simp [cB] at h
 | n,.dct _ _,h=>by cases n <;> simp [cB] at h
 | n,.ref _,h=>by cases n <;> simp [cB] at h
open PySem.SeqAt
theorem wg(A:Around):A.in1.units=A.units+1:=rfl
theorem wc{its its2:List Value}{vs ws:List V}{xs ys:List D}{P:Value->Value->Bool->Prop}(r1:Vals vs its)(q1:Reps X.K μ H vs xs)(r2:Vals ws its2)(q2:Reps X.K μ H ws ys)
  (h:∀ (j:Nat) (v w:V) (u u':Value) (x y:D),xs[j]?=some x->ys[j]?=some y->Rep X.K μ H v x->Rep X.K μ H w y->RelV v u->RelV w u'->P u u' (jC x y)) :
  ∀ j (h1:j<its.toArray.size) (h2:j<its2.toArray.size),P its.toArray[j] its2.toArray[j] (match xs[j]?,ys[j]? with | some a,some b=>jC a b | _,_=>true):=fun j h1 h2=>by
 have l1:=r1.length
 have l2:=r2.length
 have m1:=q1.length
 have m2:=q2.length
 have h1':j<its.length:=by simpa using h1
 have h2':j<its2.length:=by simpa using h2
 have hx:xs[j]?=some xs[j]:=List.getElem?_eq_getElem (by omega)
 have hy:ys[j]?=some ys[j]:=List.getElem?_eq_getElem (by omega)
 obtain⟨v,e1,p1⟩:=q1.get hx
 obtain⟨w,e2,p2⟩:=q2.get hy
 obtain⟨u,f1,g1⟩:=r1.get e1
 obtain⟨u',f2,g2⟩:=r2.get e2
 rw [hx,hy]
 have:=h j v w u u' _ _ hx hy p1 p2 g1 g2
 have f1':its.toArray[j]=u:=by simpa [List.getElem?_eq_getElem h1'] using f1
 have f2':its2.toArray[j]=u':=by simpa [List.getElem?_eq_getElem h2'] using f2
 rw [f1',f2']
 exact this
structure TY(A:Around)(s:Shared)(u v:Value)(b:Bool):Prop where
 eq:EqAt A s u v b
 rc:RcAt A s u v b
 ne:RcNeAt A s u v (!b)
theorem Fg(I:Inv X pins σ H s)(n:Nat)(ih:∀ m,m+1=n->∀ (A:Around) {a b:V} {u v:Value} {x y:D},A.units+m<cLine->cB m x=true->cB m y=true->Rep X.K μ H a x->Rep X.K μ H b y->RelV a u->RelV b v->TY A s u v (jC x y))
  (A:Around) {a b:V} {u v:Value} {x y:D} (hn:A.units+n<cLine) (hx:cB n x=true) (hy:cB n y=true) (rx:Rep X.K μ H a x) (ry:Rep X.K μ H b y) (ra:RelV a u) (rb:RelV b v):TY A s u v (jC x y):=by
 have hu:A.units<cLine:=by omega
 cases qJ hx rx with
 | non=>
  cases ra
  cases qJ hy ry with
  | non=>cases rb;exact⟨EqAt.same _,RcAt.none_none,RcNeAt.none_none⟩
  | bl b=>cases rb;exact⟨EqAt.none_bool b,RcAt.none_bool b,RcNeAt.none_bool b⟩
  | int b=>obtain⟨t,rfl⟩:=rb;exact⟨EqAt.none_int b t,RcAt.none_int b t,RcNeAt.none_int b t⟩
  | str b=>obtain⟨t,rfl⟩:=rb;exact⟨EqAt.none_str b t,RcAt.none_str b t,RcNeAt.none_str b t⟩
  | tup q r=>cases rb;obtain⟨its,rv,p,_⟩:=I.tuple q;exact⟨EqAt.none_tuple p hu,RcAt.none_tuple p hu,RcNeAt.none_tuple p hu⟩
  | lst q r=>cases rb;obtain⟨its,rv,p,_⟩:=I.list q;exact⟨EqAt.none_list p.isList hu,RcAt.none_list p.isList hu,RcNeAt.none_list p.isList hu⟩
 | bl a=>
  cases ra
  cases qJ hy ry with
  | non=>cases rb;exact⟨EqAt.bool_none a,RcAt.bool_none a,RcNeAt.bool_none a⟩
  | bl b=>cases rb;exact⟨EqAt.bool_bool a b,RcAt.bool_bool a b,RcNeAt.bool_bool a b⟩
  | int b=>obtain⟨t,rfl⟩:=rb;exact⟨EqAt.bool_int a b t,RcAt.bool_int a b t,RcNeAt.bool_int a b t⟩
  | str b=>obtain⟨t,rfl⟩:=rb;exact⟨EqAt.bool_str a b t,RcAt.bool_str a b t,RcNeAt.bool_str a b t⟩
  | tup q r=>cases rb;obtain⟨its,rv,p,_⟩:=I.tuple q;exact⟨EqAt.bool_tuple a p hu,RcAt.bool_tuple a p hu,RcNeAt.bool_tuple a p hu⟩
  | lst q r=>cases rb;obtain⟨its,rv,p,_⟩:=I.list q;exact⟨EqAt.bool_list a p.isList hu,RcAt.bool_list a p.isList hu,RcNeAt.bool_list a p.isList hu⟩
 | int a=>
  obtain⟨t',rfl⟩:=ra
  cases qJ hy ry with
  | non=>cases rb;exact⟨EqAt.int_none a t',RcAt.int_none a t',RcNeAt.int_none a t'⟩
  | bl b=>cases rb;exact⟨EqAt.int_bool a t' b,RcAt.int_bool a t' b,RcNeAt.int_bool a t' b⟩
  | int b=>obtain⟨t,rfl⟩:=rb;exact⟨EqAt.int_int a t' b t,RcAt.int_int a t' b t,RcNeAt.int_int a t' b t⟩
  | str b=>obtain⟨t,rfl⟩:=rb;exact⟨EqAt.int_str a t' b t,RcAt.int_str a t' b t,RcNeAt.int_str a t' b t⟩
  | tup q r=>cases rb;obtain⟨its,rv,p,_⟩:=I.tuple q;exact⟨EqAt.int_tuple a t' p hu,RcAt.int_tuple a t' p hu,RcNeAt.int_tuple a t' p hu⟩
  | lst q r=>cases rb;obtain⟨its,rv,p,_⟩:=I.list q;exact⟨EqAt.int_list a t' p.isList hu,RcAt.int_list a t' p.isList hu,RcNeAt.int_list a t' p.isList hu⟩
 | str a=>
  obtain⟨t',rfl⟩:=ra
  cases qJ hy ry with
  | non=>cases rb;exact⟨EqAt.str_none a t',RcAt.str_none a t',RcNeAt.str_none a t'⟩
  | bl b=>cases rb;exact⟨EqAt.str_bool a t' b,RcAt.str_bool a t' b,RcNeAt.str_bool a t' b⟩
  | int b=>obtain⟨t,rfl⟩:=rb;exact⟨EqAt.str_int a t' b t,RcAt.str_int a t' b t,RcNeAt.str_int a t' b t⟩
  | str b=>obtain⟨t,rfl⟩:=rb;exact⟨EqAt.str_str a t' b t,RcAt.str_str a t' b t,RcNeAt.str_str a t' b t⟩
  | tup q r=>cases rb;obtain⟨its,rv,p,_⟩:=I.tuple q;exact⟨EqAt.str_tuple a t' p hu,RcAt.str_tuple a t' p hu,RcNeAt.str_tuple a t' p hu⟩
  | lst q r=>cases rb;obtain⟨its,rv,p,_⟩:=I.list q;exact⟨EqAt.str_list a t' p.isList hu,RcAt.str_list a t' p.isList hu,RcNeAt.str_list a t' p.isList hu⟩
 | @tup xs l vs q r=>
  cases ra
  obtain⟨its,rv,p,_⟩:=I.tuple q
  cases qJ hy ry with
  | non=>cases rb;exact⟨EqAt.tuple_none p hu,RcAt.tuple_none p hu,RcNeAt.tuple_none p hu⟩
  | bl b=>cases rb;exact⟨EqAt.tuple_bool b p hu,RcAt.tuple_bool b p hu,RcNeAt.tuple_bool b p hu⟩
  | int b=>obtain⟨t,rfl⟩:=rb;exact⟨EqAt.tuple_int b t p hu,RcAt.tuple_int b t p hu,RcNeAt.tuple_int b t p hu⟩
  | str b=>obtain⟨t,rfl⟩:=rb;exact⟨EqAt.tuple_str b t p hu,RcAt.tuple_str b t p hu,RcNeAt.tuple_str b t p hu⟩
  | @tup ys l' vs' q' r'=>
   cases rb
   obtain⟨its',rv',p',_⟩:=I.tuple q'
   obtain⟨m,hm,ox⟩:=rp hx
   obtain⟨m',hm',oy⟩:=rp hy
   have:m'=m:=by omega
   subst this
   have all:=wc (P:=fun u u' b=>EqAt A.in1 s u u' b) rv r rv' r' fun j v w u u' x y hx' hy' q1 q2 g1 g2=>
    (ih m' hm A.in1 (by rw [wg];omega) (ox x (List.mem_of_getElem? hx')) (oy y (List.mem_of_getElem? hy')) q1 q2 g1 g2).eq
   have e0:its.toArray.size=xs.length:=by rw [List.size_toArray,<- rv.length,r.length]
   have e1:its'.toArray.size=ys.length:=by rw [List.size_toArray,<- rv'.length,r'.length]
   have key:=RcAt.tuples (A:=A) (s:=s) p p' hu all
   have kne:=RcNeAt.tuples (A:=A) (s:=s) p p' hu all
   rw [e0,e1,<- yJ] at key kne
   refine⟨?_,key,kne⟩
   by_cases hl:l=l'
   ·subst hl
    rw [<- Rep.inj I n hx hy rx ry,mD _ _ hx]
    exact EqAt.same _
   ·exact EqAt.of_refs hl key
  | lst q' r'=>cases rb;obtain⟨its',rv',p',_⟩:=I.list q';exact⟨EqAt.tuple_list p p'.isList hu,RcAt.tuple_list p p'.isList hu,RcNeAt.tuple_list p p'.isList hu⟩
 | @lst xs l vs q r=>
  cases ra
  obtain⟨its,rv,p0,_⟩:=I.list q
  have p:=p0.isList
  cases qJ hy ry with
  | non=>cases rb;exact⟨EqAt.list_none p hu,RcAt.list_none p hu,RcNeAt.list_none p hu⟩
  | bl b=>cases rb;exact⟨EqAt.list_bool b p hu,RcAt.list_bool b p hu,RcNeAt.list_bool b p hu⟩
  | int b=>obtain⟨t,rfl⟩:=rb;exact⟨EqAt.list_int b t p hu,RcAt.list_int b t p hu,RcNeAt.list_int b t p hu⟩
  | str b=>obtain⟨t,rfl⟩:=rb;exact⟨EqAt.list_str b t p hu,RcAt.list_str b t p hu,RcNeAt.list_str b t p hu⟩
  | tup q' r'=>cases rb;obtain⟨its',rv',p',_⟩:=I.tuple q';exact⟨EqAt.list_tuple p p' hu,RcAt.list_tuple p p' hu,RcNeAt.list_tuple p p' hu⟩
  | @lst ys l' vs' q' r'=>
   cases rb
   obtain⟨its',rv',p0',_⟩:=I.list q'
   have p':=p0'.isList
   obtain⟨m,hm,ox⟩:=rq hx
   obtain⟨m',hm',oy⟩:=rq hy
   have:m'=m:=by omega
   subst this
   have all:=wc (P:=fun u u' b=>EqAt A.in1 s u u' b) rv r rv' r' fun j v w u u' x y hx' hy' q1 q2 g1 g2=>
    (ih m' hm A.in1 (by rw [wg];omega) (ox x (List.mem_of_getElem? hx')) (oy y (List.mem_of_getElem? hy')) q1 q2 g1 g2).eq
   have e0:its.toArray.size=xs.length:=by rw [List.size_toArray,<- rv.length,r.length]
   have e1:its'.toArray.size=ys.length:=by rw [List.size_toArray,<- rv'.length,r'.length]
   have key:RcAt A s (.ref l) (.ref l') (eqDs xs ys)/\RcNeAt A s (.ref l) (.ref l') (!eqDs xs ys):=by
    rw [yJ]
    by_cases hlen:xs.length=ys.length
    ·have k1:=RcAt.lists (A:=A) (s:=s) p p' (by rw [e0,e1,hlen]) hu all
     have k2:=RcNeAt.lists (A:=A) (s:=s) p p' (by rw [e0,e1,hlen]) hu all
     rw [e0] at k1 k2
     rw [<- hlen,Nat.min_self,beq_self_eq_true,Bool.and_true]
     exact⟨k1,k2⟩
    ·rw [show (xs.length == ys.length)=false from beq_eq_false_iff_ne.mpr hlen,Bool.and_false]
     exact⟨RcAt.lists_lengths (A:=A) (s:=s) p p' (by rw [e0,e1];exact bne_iff_ne.mpr hlen) hu,RcNeAt.lists_lengths (A:=A) (s:=s) p p' (by rw [e0,e1];exact bne_iff_ne.mpr hlen) hu⟩
   refine⟨?_,key.1,key.2⟩
   by_cases hl:l=l'
   ·subst hl
    rw [<- Rep.inj I n hx hy rx ry,mD _ _ hx]
    exact EqAt.same _
   ·exact EqAt.of_refs hl key.1
theorem Tp(I:Inv X pins σ H s)(n:Nat):∀ (A:Around) {a b:V} {u v:Value} {x y:D},A.units+n<cLine->cB n x=true->cB n y=true->Rep X.K μ H a x->Rep X.K μ H b y->RelV a u->RelV b v->TY A s u v (jC x y):=by
 induction n with
 | zero=>exact fun A _ _ _ _ _ _ hn hx hy rx ry ra rb=>Fg I 0 (fun m h=>absurd h (Nat.succ_ne_zero m)) A hn hx hy rx ry ra rb
 | succ n ih=>exact fun A _ _ _ _ _ _ hn hx hy rx ry ra rb=>Fg I (n+1) (fun m h=>by cases h;exact ih) A hn hx hy rx ry ra rb
theorem eqRc(I:Inv X pins σ H s)(n:Nat)(A:Around){a b:V}{u v:Value}{x y:D}(hn:A.units+n<cLine)(hx:cB n x=true)(hy:cB n y=true)(rx:Rep X.K μ H a x)(ry:Rep X.K μ H b y)(ra:RelV a u)(rb:RelV b v) :
  EqAt A s u v (jC x y)/\RcAt A s u v (jC x y):=⟨(Tp I n A hn hx hy rx ry ra rb).eq,(Tp I n A hn hx hy rx ry ra rb).rc⟩
theorem neRc(I:Inv X pins σ H s)(n:Nat)(A:Around){a b:V}{u v:Value}{x y:D}(hn:A.units+n<cLine)(hx:cB n x=true)(hy:cB n y=true)(rx:Rep X.K μ H a x)(ry:Rep X.K μ H b y)(ra:RelV a u)(rb:RelV b v) :
  RcNeAt A s u v (!jC x y):=(Tp I n A hn hx hy rx ry ra rb).ne
end
end M
namespace M
open PySem PySem.Spec PyProof.Rows L2
section
variable{X:Cx}{pins:List (Addr×Obj)}{σ:L2.St}{H:Hp}{s:Shared}{μ:Fp}{A:Around}
open PySem.SeqAt
end
noncomputable def gN(S:ac):D->Option (List D)
 | .tup xs=>some xs
 | .lst xs=>some xs
 | .rol xs=>some xs
 | .ref r=>match S[r]? with | some (.lst xs)=>some xs | _=>none
 | _=>none
section
variable{X:Cx}{K:PySem.W.Frag}{μ:Fp}{H:Hp}{S:ac}
theorem jG{x:V}{d:D}{ds:List D}(s:SOk K μ S H)(r:Rep K μ H x d)(h:gN S d=some ds):∃ a vs,x=.ref a/\(om K H a vs\/lI K H a vs)/\Reps K μ H vs ds:=by
 cases r with
 | tup h' n r=>cases h;exact⟨_,_,rfl,.inr (.inl (.inl h')),r⟩
 | ktup h' r=>cases h;exact⟨_,_,rfl,.inr (.inr h'),r⟩
 | lst h' n r=>cases h;exact⟨_,_,rfl,.inl (.inl (.inl h')),r⟩
 | rol h' n r=>cases h;exact⟨_,_,rfl,.inl (.inl h'),r⟩
 | krol h' r=>cases h;exact⟨_,_,rfl,.inl (.inr h'),r⟩
 | @ref a i h'=>
  simp only [gN] at h
  cases q:S[i]? with
  | none=>rw [q] at h;cases h
  | some c=>
   rw [q] at h
   have ck:=s.cell i a c h' q
   cases c with
   | lst xs=>cases h;obtain⟨vs,e,r⟩:=ck;exact⟨_,vs,rfl,.inl (.inl (.inl e)),r⟩
   | dct ks xs=>cases h
 | _=>cases h
noncomputable def bT(S:ac)(x y:D):Option D:=if cB 40 x=true/\cB 40 y=true then some (.bl (jC x y)) else none
noncomputable def gK(S:ac)(x y:D):Option D:=if cB 40 x=true/\cB 40 y=true then some (.bl (!jC x y)) else none
theorem op_Eq(hu:X.A.units+64<cLine):OpR X (compareOp .Eq) (nq X.K bT):=by
 intro pins s σ H x y v u Q I rx ry h
 obtain⟨μ,S,dx,dy,dz,hS,h1,h2,h3,post⟩:=h
 simp only [bT] at h3
 split at h3
 ·rename_i hk
  cases h3
  exact(eqRc I 40 X.A (by omega) hk.1 hk.2 h1 h2 rx ry).2 X.prog X.w X.xe _ ⟨.bl _,H,I,rfl,post.here hS (.bl _)⟩
 ·cases h3
theorem op_Ne(hu:X.A.units+64<cLine):OpR X (compareOp .NotEq) (nq X.K gK):=by
 intro pins s σ H x y v u Q I rx ry h
 obtain⟨μ,S,dx,dy,dz,hS,h1,h2,h3,post⟩:=h
 simp only [gK] at h3
 split at h3
 ·rename_i hk
  cases h3
  exact neRc I 40 X.A (by omega) hk.1 hk.2 h1 h2 rx ry X.prog X.w X.xe _ ⟨.bl _,H,I,rfl,post.here hS (.bl _)⟩
 ·cases h3
open Classical in
def ee(K:PySem.W.Frag)(μ:Fp)(H:Hp)(x:D)(u:Value):Bool:=decide (∃ v d,RelV v u/\Rep K μ H v d/\cB 39 d=true/\jC d x=true)
open Classical in
theorem pj{pins:List (Addr×Obj)}{σ:L2.St}{s:Shared}(I:Inv X pins σ H s){x d:D}{v:V}{u:Value}(rv:RelV v u)(r:Rep X.K μ H v d)(ok:cB 39 d=true):ee X.K μ H x u=jC d x:=by
 unfold ee
 cases e:jC d x with
 | true=>exact decide_eq_true ⟨v,d,rv,r,ok,e⟩
 | false=>
  refine decide_eq_false ?_
  rintro⟨v',d',rv',r',ok',e'⟩
  cases rv.inj rv'
  rw [Rep.inj I 39 ok ok' r r'] at e
  rw [e] at e';cases e'
theorem kO{pins:List (Addr×Obj)}{σ:L2.St}{s:Shared}(I:Inv X pins σ H s){x:D}:∀ {vs:List V} {us:List Value} {ds:List D},Vals vs us->Reps X.K μ H vs ds->(∀ d∈ds,cB 39 d=true) ->
  us.any (ee X.K μ H x)=ds.any fun d=>jC d x
 | _,_,_,.nil,.nil,_=>rfl
 | _,_,_,.cons rv tv,.cons r t,ok=>by
  rw [List.any_cons,List.any_cons,pj I rv r (ok _ List.mem_cons_self),kO I tv t fun d m=>ok d (List.mem_cons_of_mem _ m)]
theorem fX{pins:List (Addr×Obj)}{σ:L2.St}{s:Shared}(I:Inv X pins σ H s){A:Around}(hu:A.units+40<cLine){x:D}{v:V}{u:Value}(rx:RelV v u)(rD:Rep X.K μ H v x)(okx:cB 40 x=true) :
  ∀ {vs:List V} {us:List Value} {ds:List D},Vals vs us->Reps X.K μ H vs ds->(∀ d∈ds,cB 39 d=true)->∀ w∈us,PySem.SeqAt.EqAt A s w u (ee X.K μ H x w)
 | _,_,_,.nil,.nil,_=>fun w hw=>by cases hw
 | _,_,_,.cons rv tv,.cons r t,ok=>fun w hw=>by
  rcases List.mem_cons.mp hw with rfl | hw
  ·rw [pj I rv r (ok _ List.mem_cons_self)]
   exact(eqRc I 40 A hu (sE (by decide) (ok _ List.mem_cons_self)) okx r rD rv rx).1
  ·exact fX I hu rx rD okx tv t (fun d m=>ok d (List.mem_cons_of_mem _ m)) w hw
noncomputable def on(S:ac)(x y:D):Option D:=(gN S y).bind fun ds=>if cB 40 x=true/\ds.all (cB 39)=true then some (.bl (ds.any fun d=>jC d x)) else none
noncomputable def pY(S:ac)(x y:D):Option D:=(gN S y).bind fun ds=>if cB 40 x=true/\ds.all (cB 39)=true then some (.bl (!ds.any fun d=>jC d x)) else none
theorem op_In(hu:X.A.units+64<cLine):OpR X (compareOp .In) (nq X.K on):=by
 intro pins s σ H x y v u Q I rx ry h
 obtain⟨μ,S,dx,dy,dz,hS,h1,h2,h3,post⟩:=h
 obtain⟨ds,e,h3⟩:=Option.bind_eq_some_iff.mp h3
 split at h3
 ·rename_i hk
  cases h3
  obtain⟨a,vs,rfl,hq,r⟩:=jG hS h2 e
  cases ry
  have ok:=List.all_eq_true.mp hk.2
  rcases hq with hq | hq
  ·obtain⟨its,rv,pl,hz⟩:=I.list hq
   refine SeqAt.in_listAt (ee X.K μ H dx) pl.isList (fun w hw=>fX I (by show X.A.units+1+40<cLine;omega) rx h1 hk.1 rv r ok w (by simpa using hw)) ⟨.bl _,H,I,rfl,?_⟩
   rw [show its.toArray.any (ee X.K μ H dx)=its.any (ee X.K μ H dx) by simp,kO I rv r ok]
   exact post.here hS (.bl _)
  ·obtain⟨its,rv,pl,hz⟩:=I.tuple hq
   refine SeqAt.in_tupleAt (ee X.K μ H dx) pl (fun w hw=>fX I (by show X.A.units+1+40<cLine;omega) rx h1 hk.1 rv r ok w (by simpa using hw)) ⟨.bl _,H,I,rfl,?_⟩
   rw [show its.toArray.any (ee X.K μ H dx)=its.any (ee X.K μ H dx) by simp,kO I rv r ok]
   exact post.here hS (.bl _)
 ·cases h3
theorem Jv(hu:X.A.units+64<cLine):OpR X (compareOp .NotIn) (nq X.K pY):=by
 intro pins s σ H x y v u Q I rx ry h
 obtain⟨μ,S,dx,dy,dz,hS,h1,h2,h3,post⟩:=h
 obtain⟨ds,e,h3⟩:=Option.bind_eq_some_iff.mp h3
 split at h3
 ·rename_i hk
  cases h3
  obtain⟨a,vs,rfl,hq,r⟩:=jG hS h2 e
  cases ry
  have ok:=List.all_eq_true.mp hk.2
  rcases hq with hq | hq
  ·obtain⟨its,rv,pl,hz⟩:=I.list hq
   refine SeqAt.notIn_listAt (ee X.K μ H dx) pl.isList (fun w hw=>fX I (by show X.A.units+1+40<cLine;omega) rx h1 hk.1 rv r ok w (by simpa using hw)) ⟨.bl _,H,I,rfl,?_⟩
   rw [show its.toArray.any (ee X.K μ H dx)=its.any (ee X.K μ H dx) by simp,kO I rv r ok]
   exact post.here hS (.bl _)
  ·obtain⟨its,rv,pl,hz⟩:=I.tuple hq
   refine SeqAt.notIn_tupleAt (ee X.K μ H dx) pl (fun w hw=>fX I (by show X.A.units+1+40<cLine;omega) rx h1 hk.1 rv r ok w (by simpa using hw)) ⟨.bl _,H,I,rfl,?_⟩
   rw [show its.toArray.any (ee X.K μ H dx)=its.any (ee X.K μ H dx) by simp,kO I rv r ok]
   exact post.here hS (.bl _)
 ·cases h3
noncomputable def lm:D->D->Bool
 | .non,.non=>true
 | .bl a,.bl b=>a == b
 | _,_=>false
noncomputable def ug(S:ac)(x y:D):Option D:=match y with | .non=>some (.bl (lm x y)) | .bl _=>some (.bl (lm x y)) | _=>none
noncomputable def iy(S:ac)(x y:D):Option D:=match y with | .non=>some (.bl (!lm x y)) | .bl _=>some (.bl (!lm x y)) | _=>none
theorem Ko{x y:V}{dx dy:D}{v u:Value}(h1:Rep K μ H x dx)(h2:Rep K μ H y dy)(rx:RelV x v)(ry:RelV y u)(hy:dy=.non\/∃ b,dy=.bl b):plainIs v u=true/\(v == u)=lm dx dy:=by
 rcases hy with rfl | ⟨b,rfl⟩
 ·cases h2;cases ry
  cases h1 <;> first | (cases rx;exact⟨rfl,rfl⟩) | (obtain⟨t,rfl⟩:=rx;exact⟨rfl,rfl⟩)
 ·cases h2;cases ry
  cases h1 <;> first | (cases rx;exact⟨rfl,rfl⟩) | (obtain⟨t,rfl⟩:=rx;exact⟨rfl,rfl⟩) | (cases rx;rename_i c;refine⟨rfl,?_⟩;cases b <;> cases c <;> rfl)
theorem op_Is:OpR X (compareOp .Is) (nq X.K ug):=by
 intro pins s σ H x y v u Q I rx ry h
 obtain⟨μ,S,dx,dy,dz,hS,h1,h2,h3,post⟩:=h
 have hy:(dy=.non\/∃ b,dy=.bl b)/\dz=.bl (lm dx dy):=by
  cases dy <;> first | (cases h3;exact⟨.inl rfl,rfl⟩) | (cases h3;exact⟨.inr ⟨_,rfl⟩,rfl⟩) | cases h3
 obtain⟨p,e⟩:=Ko h1 h2 rx ry hy.1
 cases hy.2
 exact wpAny_is_plain p ⟨.bl _,H,I,congrArg Value.bool e,post.here hS (.bl _)⟩
theorem Jw:OpR X (compareOp .IsNot) (nq X.K iy):=by
 intro pins s σ H x y v u Q I rx ry h
 obtain⟨μ,S,dx,dy,dz,hS,h1,h2,h3,post⟩:=h
 have hy:(dy=.non\/∃ b,dy=.bl b)/\dz=.bl (!lm dx dy):=by
  cases dy <;> first | (cases h3;exact⟨.inl rfl,rfl⟩) | (cases h3;exact⟨.inr ⟨_,rfl⟩,rfl⟩) | cases h3
 obtain⟨p,e⟩:=Ko h1 h2 rx ry hy.1
 cases hy.2
 exact wpAny_isNot_plain p ⟨.bl _,H,I,congrArg (fun b=>Value.bool (!b)) e,post.here hS (.bl _)⟩
end
end M
namespace HT
open PySem PySem.Spec PyProof.Rows
section
variable{prog:Program}{w:World}{A:Around}{E:Value->Shared->Prop}{s:Shared}
theorem OW{t b:Addr}{ws:List Value}{Q:Value->Shared->Prop}(ht:IsTup s.heap t #[])(hb:IsTup s.heap b ws.toArray)(h:Q (.ref b) s):wpAny (model prog w) A (binaryOp .Add (.ref t) (.ref b)) Q E s:=by
 obtain⟨⟨cls,dd,data,sl⟩,ho,hc,n,hd⟩:=id ht
 obtain⟨⟨cls2,dd2,data2,sl2⟩,ho2,hc2,n2,hd2⟩:=id hb
 simp only at hc hd hc2 hd2
 subst hc hd hc2 hd2
 exact concat_meets ⟨_,ho,rfl⟩ ⟨_,ho2,rfl⟩ noFill_tuple_add seq_tuple_add PySem.F.slot_tuple_add PySem.F.entry_tuple_add (PySem.F.args_tuple_add_2 _ _)
   (tuple_addW0 t b #[] ws.toArray n n2 dd dd2 sl sl2 rfl) ⟨ho,ho2,h⟩
theorem nw{t sl:Addr}{items:Array Value}{vl vu:Value}{lo hi:Option Int}{Q:Value->Shared->Prop}(ht:IsTup s.heap t items)(hs:s.heap.IsSliceOf sl vl vu .none)(pl:IsPart vl lo)(pu:IsPart vu hi)
  (hw:eJ items.size 0 lo=0/\eJ items.size items.size hi=items.size) (h:Q (.ref t) s):wpAny (model prog w) A (getItem (.ref t) (.ref sl)) Q E s:=by
 obtain⟨os,hos,hcs,hds⟩:=id hs
 have hTs:s.TypeIs (.ref sl) "slice":=⟨os,hos,hcs⟩
 unfold getItem
 try with_reducible refine wpAny_holding ?_
 first | refine wpAny_bind (wpAny_pure ?_) | skip
 refine wpAny_bind (wpAny_sequenceKey ht.typeIs (by decide) ?_)
 refine wpAny_bind (wpAny_callSpecial?_slot (name:=Str.ofString "__getitem__") ht.typeIs PyProof.Rows.slot_tuple_getitem
  (wpAny_call_entry PyProof.Rows.slot_tuple_getitem ht.typeIs entry_tuple_getitem ?_ (args_tuple_getitem _ _)))
 show wpAny _ _ (Builtin.Tuple.tupleItemsOf (.ref t) >>= _) _ _ s
 refine wpAny_bind (tupleItemsOf_ ht ?_)
 refine wpAny_bind (wpAny_typeOf hTs ?_)
 rw [if_pos (by decide)]
 refine wpAny_bind (kh hs pl pu ?_)
 have hyes:(((eJ items.size 0 lo:Nat):Int) == 0&&(1:Int) == 1&&(eJ items.size items.size hi - eJ items.size 0 lo) == items.size)=true:=by
  rw [hw.1,hw.2];simp
 show wpAny _ _ (if (((eJ items.size 0 lo:Nat):Int) == 0&&(1:Int) == 1&&(eJ items.size items.size hi - eJ items.size 0 lo) == items.size)=true then _ else _) _ _ s
 rw [if_pos hyes]
 unfold Builtin.Tuple.tupleIsExact
 refine wpAny_bind (wpAny_bind (wpAny_typeOf ht.typeIs (wpAny_pure ?_)))
 rw [if_pos (by decide)]
 exact wpAny_bind (wpAny_rule (wpAny_bind (wpAny_pure (wpAny_pure ⟨_,rfl,wpAny_pure h⟩))))
end
end HT
namespace M
open PySem PySem.Spec PyProof.Rows L2
section
variable{X:Cx}{K:PySem.W.Frag}{μ μ':Fp}{H H':Hp}{S:ac}
noncomputable def GY(g:Int->Int->D)(S:ac)(x y:D):Option D:=match x,y with | .int i,.int j=>some (g i j) | _,_=>none
noncomputable def Bk(C:Int->Int->Bool)(g:Int->Int->D)(S:ac)(x y:D):Option D:=match x,y with | .int i,.int j=>if C i j=true then some (g i j) else none | _,_=>none
theorem oF{f:Value->Value->Sem Value}{g:Int->Int->V}{g':Int->Int->D}(h:OpR X f (MD g))(hg:∀ i j μ H,Rep X.K μ H (g i j) (g' i j)):OpR X f (nq X.K (GY g')):=
 OpR.imp h fun x y H Q ⟨μ,S,dx,dy,dz,hS,h1,h2,h3,post⟩=>by
  cases dx <;> cases dy <;> first | cases h3 | skip
  exact⟨_,_,h1.int_inv,h2.int_inv,post.here hS (hg _ _ _ _)⟩
theorem xF{f:Value->Value->Sem Value}{C:Int->Int->Prop}{C':Int->Int->Bool}{g:Int->Int->V}{g':Int->Int->D}(h:OpR X f (rI C g))(hC:∀ i j,C' i j=true->C i j)(hg:∀ i j μ H,Rep X.K μ H (g i j) (g' i j)):OpR X f (nq X.K (Bk C' g')):=
 OpR.imp h fun x y H Q ⟨μ,S,dx,dy,dz,hS,h1,h2,h3,post⟩=>by
  cases dx <;> cases dy <;> first | cases h3 | skip
  simp only [Bk] at h3
  split at h3
  ·rename_i hc
   cases h3
   exact⟨_,_,h1.int_inv,h2.int_inv,hC _ _ hc,post.here hS (hg _ _ _ _)⟩
  ·cases h3
noncomputable def ny:=GY fun i j=>.int (i - j)
noncomputable def Om:=GY fun i j=>.bl (decide (i<j))
noncomputable def On:=GY fun i j=>.bl (decide (i<=j))
noncomputable def fGt:=GY fun i j=>.bl (decide (j<i))
noncomputable def fGe:=GY fun i j=>.bl (decide (j<=i))
theorem Rj:OpR X (binaryOp .Sub) (nq X.K ny):=oF Re fun _ _ _ _=>.int _
theorem op_Lt:OpR X (compareOp .Lt) (nq X.K Om):=oF op_lt fun _ _ _ _=>.bl _
theorem op_Le:OpR X (compareOp .LtE) (nq X.K On):=oF op_le fun _ _ _ _=>.bl _
theorem op_Gt:OpR X (compareOp .Gt) (nq X.K fGt):=oF op_gt fun _ _ _ _=>.bl _
theorem op_Ge:OpR X (compareOp .GtE) (nq X.K fGe):=oF op_ge fun _ _ _ _=>.bl _
noncomputable def ls:=Bk (fun _ j=>decide (0<j)) fun i j=>.int (i % j)
noncomputable def Ha:=Bk (fun _ j=>decide (0<j)&&decide (j<1073741824)) fun i j=>.int (i / j)
noncomputable def vh:=Bk (fun i j=>decide (0<=j)&&decide (j<=1000000)&&decide (i.natAbs<2 ^ 64)) fun i j=>.int (i ^ j.toNat)
theorem Rp:OpR X (binaryOp .Mod) (nq X.K ls):=xF Rh (fun _ _ h=>of_decide_eq_true h) fun _ _ _ _=>.int _
theorem Rq:OpR X (binaryOp .FloorDiv) (nq X.K Ha):=xF Nr (fun _ _ h=>by simpa [CDiv] using h) fun _ _ _ _=>.int _
theorem Rn:OpR X (binaryOp .Pow) (nq X.K vh):=xF Rg (fun i j h=>by
 simp only [Bool.and_eq_true,decide_eq_true_eq] at h
 exact⟨h.1.1,h.1.2,h.2⟩) fun _ _ _ _=>.int _
def oH(i j:Int):Bool:=decide (i.natAbs<18446744073709551616)||decide (j.natAbs<18446744073709551616)||(decide (i.natAbs<2 ^ 4000)&&decide (j.natAbs<2 ^ 4000))
theorem NE{i j:Int}(h:oH i j=true):IntMulOk i j:=by
 unfold oH at h
 simp only [Bool.or_eq_true,Bool.and_eq_true,decide_eq_true_eq] at h
 rcases h with (h | h) | h
 ·exact .of_left (intBits_le (k:=64) (by omega))
 ·exact .of_right (intBits_le (k:=64) (by omega))
 ·exact .of_bits (Nat.le_trans (intBits_le (k:=4000) h.1) (by decide)) (Nat.le_trans (intBits_le (k:=4000) h.2) (by decide))
theorem Nq:OpR X (binaryOp .Mult) (rI (fun i j=>oH i j=true) fun i j=>.int (i * j)):=opI fun _ _ _ _ _ _ _ hc q=>mul_int q (NE hc)
noncomputable def SA(S:ac)(x y:D):Option D:=match x,y with
 | .int i,.int j=>if oH i j=true then some (.int (i * j)) else none
 | _,_=>none
theorem Ro:OpR X (binaryOp .Mult) (nq X.K SA):=OpR.imp Nq fun x y H Q ⟨μ,S,dx,dy,dz,hS,h1,h2,h3,post⟩=>by
 cases dx <;> cases dy <;> first | cases h3 | skip
 simp only [SA] at h3
 split at h3
 ·rename_i hc
  cases h3
  exact⟨_,_,h1.int_inv,h2.int_inv,hc,post.here hS (.int _)⟩
 ·cases h3
noncomputable def KP(S:ac)(x y:D):Option D:=match x,y with
 | .int i,.int j=>some (.int (i+j))
 | .str i,.str j=>if i.length+j.length<=sizeLine then some (.str (i++j)) else none
 | .tup xs,.tup ys=>if xs.length+ys.length<=sizeLine then some (.tup (xs++ys)) else none
 | .lst xs,.lst ys=>if xs.length+ys.length<=sizeLine then some (.lst (xs++ys)) else none
 | _,_=>none
theorem Rr:OpR X (binaryOp .Add) (nq X.K KP):=by
 intro pins s σ H x y v u Q I rx ry h
 obtain⟨μ,S,dx,dy,dz,hS,h1,h2,h3,post⟩:=h
 cases dx <;> cases dy <;> first | cases h3 | skip
 case int.int i j=>exact Ri pins s σ H x y v u Q I rx ry ⟨_,_,h1.int_inv,h2.int_inv,post.here hS (.int _)⟩
 case str.str i j=>
  simp only [KP] at h3
  split at h3
  ·rename_i hl;cases h3
   exact Cg pins s σ H x y v u Q I rx ry ⟨_,_,h1.str_inv,h2.str_inv,hl,post.here hS (.str _)⟩
  ·cases h3
 case tup.tup xs ys=>
  simp only [KP] at h3
  split at h3
  ·rename_i hl;cases h3
   have h2':=h2
   have h1':=h1
   obtain⟨a,vs,rfl,q1,r1⟩:=h1.sqT
   obtain⟨b,ws,rfl,q2,r2⟩:=h2.sqT
   have e1:=r1.length
   have e2:=r2.length
   by_cases hv:vs=[]
   ·subst hv
    have hx:xs=[]:=List.eq_nil_of_length_eq_zero (by simpa using e1.symm)
    subst hx
    cases rx;cases ry
    obtain⟨its,rv,p1,_⟩:=I.tuple q1
    obtain⟨its2,rv2,p2,_⟩:=I.tuple q2
    have:its=[]:=rv.nil_iff.mpr rfl
    subst this
    exact HT.OW p1 p2 ⟨.ref b,H,I,rfl,post.here hS h2'⟩
   ·refine Nt pins s σ H _ _ v u Q I rx ry ⟨a,b,vs,ws,rfl,rfl,q1,q2,hv,by omega,fun hw=>?_,fun hw p hp=>post.tup hS hp (r1.append r2)⟩
    subst hw
    have hy:ys=[]:=List.eq_nil_of_length_eq_zero (by simpa using e2.symm)
    subst hy
    rw [List.append_nil] at post
    exact post.here hS h1'
  ·cases h3
 case lst.lst xs ys=>
  simp only [KP] at h3
  split at h3
  ·rename_i hl;cases h3
   obtain⟨a,vs,rfl,q1,n1,r1⟩:=h1.sqL
   obtain⟨b,ws,rfl,q2,n2,r2⟩:=h2.sqL
   have e1:=r1.length
   have e2:=r2.length
   exact Ju pins s σ H _ _ v u Q I rx ry ⟨a,b,vs,ws,rfl,rfl,q1,q2,by omega,fun p hp=>post.lst hS hp (r1.append r2)⟩
  ·cases h3
theorem Qq:UnR X (unaryOp .USub) (rM1 X.K fun _ x=>match x with | .int i=>some (.int (-i)) | _=>none):=UnR.imp Qp fun x H Q ⟨μ,S,dx,dz,hS,h1,h3,post⟩=>by
 cases dx <;> first | cases h3 | skip
 exact⟨_,h1.int_inv,post.here hS (.int _)⟩
noncomputable def EB(f:ac->D->Option D)(a:ME):ME:=fun env S=>(a env S).bind fun p=>(f p.2 p.1).bind fun z=>some (z,p.2)
theorem de_un{a:Expr}{ma:ME}{pos:Pos}{op:UnaryOp}{f:ac->D->Option D}(ho:UnR X (unaryOp op) (rM1 X.K f))(ha:DE X a ma):DE X (.UnaryOp op a pos) (EB f ma):=
 PE.imp (pe_un ho ha) fun σ H Q ⟨μ,S,env,d,S',hS,hE,hm,post⟩=>by
  obtain⟨⟨x,S1⟩,h1,hm⟩:=Option.bind_eq_some_iff.mp hm
  obtain⟨z,h2,hm⟩:=Option.bind_eq_some_iff.mp hm
  cases hm
  exact⟨μ,S,env,x,_,hS,hE,h1,fun v H1 μ1 e1 s1 r1=>⟨μ1,_,x,_,s1,r1,h2,post.ext e1⟩⟩
theorem Pg{vs:List V}{ds:List D}{i:Int}{d:D}(r:Reps K μ H vs ds)(h:lA ds i=some d):∃ v,lA vs i=some v/\Rep K μ H v d:=by
 unfold lA at h ⊢
 rw [r.length]
 obtain⟨j,h1,h2⟩:=Option.bind_eq_some_iff.mp h
 obtain⟨v,h3,h4⟩:=r.get h2
 exact⟨v,by rw [h1];exact h3,h4⟩
noncomputable def fIx(S:ac)(x y:D):Option D:=match y with | .int i=>(gN S x).bind fun xs=>lA xs i | _=>none
theorem ix_D:IxR X (nq X.K fIx):=IxR.imp (ix_list.or Sf) fun x y H Q ⟨μ,S,dx,dy,dz,hS,h1,h2,h3,post⟩=>by
 cases dy <;> first | cases h3 | skip
 rename_i i
 obtain⟨xs,e,h3⟩:=Option.bind_eq_some_iff.mp h3
 obtain⟨a,vs,rfl,hq,r⟩:=jG hS h1 e
 obtain⟨v,h4,h5⟩:=Pg r h3
 rcases hq with hq | hq
 ·exact .inl ⟨a,vs,i,v,rfl,h2.int_inv,hq,h4,post.here hS h5⟩
 ·exact .inr ⟨a,vs,i,v,rfl,h2.int_inv,hq,h4,post.here hS h5⟩
noncomputable def iz{α:Type}(xs:List α)(lo hi:Option Int):List α:=(xs.drop (HT.eJ xs.length 0 lo)).take (HT.eJ xs.length xs.length hi - HT.eJ xs.length 0 lo)
noncomputable abbrev MO:=bm->ac->Option (Option Int×ac)
noncomputable def bE:MO:=fun _ S=>some (none,S)
noncomputable def cb(m:ME):MO:=fun env S=>(m env S).bind fun p=>match p.1 with | .int i=>some (some i,p.2) | _=>none
inductive tMO(K:PySem.W.Frag)(m:MO)(σ:L2.St)(H:Hp)(Q:Option Int->Hp->Prop):Prop
 | mk (μ:Fp) (S:ac) (env:bm) (o:Option Int) (S':ac) (hS:SOk K μ S H) (hE:EOk K μ H σ env) (h:m env S=some (o,S')) (post:∀ H' μ',Ext μ H μ' H'->SOk K μ' S' H'->Q o H')
def DO(X:Cx)(e:Option Expr)(m:MO):Prop:=PO X e (tMO X.K m)
theorem PO.imp{e:Option Expr}{t t':TO}(h:PO X e t)(i:∀ σ H Q,t' σ H Q->t σ H Q):PO X e t':=fun pins s σ H Q I q=>h pins s σ H Q I (i σ H Q q)
theorem OI:DO X none bE:=PO.imp MZ fun σ H Q ⟨μ,S,env,d,S',hS,hE,hm,post⟩=>by cases hm;exact post H μ hS.ext hS
theorem OH{e:Expr}{m:ME}(h:DE X e m):DO X (some e) (cb m):=PO.imp (MY h) fun σ H Q ⟨μ,S,env,d,S',hS,hE,hm,post⟩=>by
 obtain⟨⟨x,S1⟩,h1,hm⟩:=Option.bind_eq_some_iff.mp hm
 cases x <;> first | cases hm | skip
 exact⟨μ,S,env,_,_,hS,hE,h1,fun v H1 μ1 e1 s1 r1=>⟨_,r1.int_inv,post H1 μ1 e1 s1⟩⟩
noncomputable def bD(a:ME)(lo hi:MO):ME:=fun env S=>(a env S).bind fun p=>(lo env p.2).bind fun l=>(hi env l.2).bind fun h=>match p.1 with
 | .tup xs=>some (.tup (iz xs l.1 h.1),h.2)
 | .lst xs=>some (.lst (iz xs l.1 h.1),h.2)
 | .rol xs=>some (.lst (iz xs l.1 h.1),h.2)
 | .ref r=>match h.2[r]? with | some (.lst xs)=>some (.lst (iz xs l.1 h.1),h.2) | _=>none
 | _=>none
theorem rL{vs:List V}{ds:List D}{lo hi:Option Int}(r:Reps K μ H vs ds):Reps K μ H (Bt vs lo hi) (iz ds lo hi):=by
 unfold Bt iz
 rw [r.length]
 exact(r.drop _).take _
theorem Mt:SlR X (fun x lo hi H Q=>∃ a xs,x=.ref a/\lI X.K H a xs/\(HT.eJ xs.length 0 lo=0/\HT.eJ xs.length xs.length hi=xs.length)/\Q (.ref a) H):=by
 intro pins s σ H x v vl vu lo hi sl Q I rx hs pl pu h
 obtain⟨a,xs,rfl,hx,hw,q⟩:=h
 cases rx
 obtain⟨its,r,ht,hz⟩:=I.tuple hx
 have hlen:its.toArray.size=xs.length:=by rw [List.size_toArray];exact r.length.symm
 refine⟨"tuple",_,PyProof.Rows.slot_tuple_getitem.lookup,ht.typeIs,?_⟩
 exact HT.nw ht hs pl pu (by rw [hlen];exact hw) ⟨.ref a,H,I,rfl,q⟩
theorem LH{a:Expr}{lo hi:Option Expr}{ma:ME}{ml mh:MO}{pos p2:Pos}(ha:DE X a ma)(hl:DO X lo ml)(hh:DO X hi mh):DE X (.Subscript a (.Slice lo hi none p2) pos) (bD ma ml mh):=
 PE.imp (Jj (SlR.or Mt (SlR.or Qz Mu)) ha hl hh) fun σ H Q ⟨μ,S,env,d,S',hS,hE,hm,post⟩=>by
  obtain⟨⟨x,S1⟩,h1,hm⟩:=Option.bind_eq_some_iff.mp hm
  obtain⟨⟨l,S2⟩,h2,hm⟩:=Option.bind_eq_some_iff.mp hm
  obtain⟨⟨h,S3⟩,h3,hm⟩:=Option.bind_eq_some_iff.mp hm
  refine⟨μ,S,env,x,S1,hS,hE,h1,fun v H1 μ1 e1 s1 r1=>⟨μ1,S1,env,l,S2,s1,hE.mono e1,h2,fun H2 μ2 e2 s2=>⟨μ2,S2,env,h,S3,s2,(hE.mono e1).mono e2,h3,fun H3 μ3 e3 s3=>?_⟩⟩⟩
  have r3:=(r1.mono e2).mono e3
  have e:=(e1.trans e2).trans e3
  cases x with
  | tup xs=>
   cases hm
   have r3':=r3
   obtain⟨a,vs,rfl,q1,r⟩:=r3.sqT
   by_cases hw:HT.eJ vs.length 0 l=0/\HT.eJ vs.length vs.length h=vs.length
   ·refine .inl ⟨a,vs,rfl,q1,hw,?_⟩
    have:iz xs l h=xs:=by unfold iz;rw [<- r.length,hw.1,hw.2];simp [r.length]
    rw [this] at post
    exact post _ H3 μ3 e s3 r3'
   ·exact .inr (.inl ⟨a,vs,rfl,q1,hw,fun p hp=>(post.ext e).tup s3 hp (rL r)⟩)
  | lst xs=>
   cases hm
   obtain⟨a,vs,rfl,q1,n1,r⟩:=r3.sqL
   exact .inr (.inr ⟨a,vs,rfl,.inl (.inl q1),fun p hp=>(post.ext e).lst s3 hp (rL r)⟩)
  | rol xs=>
   cases hm
   obtain⟨a,vs,rfl,q1,r⟩:=r3.sqR
   exact .inr (.inr ⟨a,vs,rfl,q1,fun p hp=>(post.ext e).lst s3 hp (rL r)⟩)
  | ref r=>
   dsimp only at hm
   split at hm
   ·rename_i xs q
    cases hm
    cases r3 with
    | @ref a _ ha=>
     obtain⟨vs,hv,rv⟩:=s3.cell r a _ ha q
     exact .inr (.inr ⟨a,vs,rfl,.inl (.inl hv),fun p hp=>(post.ext e).lst s3 hp (rL rv)⟩)
   ·cases hm
  | _=>cases hm
end
end M
namespace M
open PySem PySem.Spec PyProof.Rows L2
section
variable{X:Cx}{K:PySem.W.Frag}{μ μ':Fp}{H H':Hp}{S:ac}
noncomputable def bf(f:List D->ac->Option (D×ac))(ms:MA):ME:=fun env S=>(ms env S).bind fun p=>f p.1 p.2
theorem Ix{f:List D->ac->Option (D×ac)}{ms:MA}{σ:L2.St}{Q:VK}(h:tM K (bf f ms) σ H Q):tCB (IU K f) (tMA K ms) σ H Q:=by
 obtain⟨μ,S,env,d,S',hS,hE,hm,post⟩:=h
 obtain⟨⟨xs,S1⟩,h1,hm⟩:=Option.bind_eq_some_iff.mp hm
 exact⟨μ,S,env,xs,S1,hS,hE,h1,fun vs H1 μ1 e1 s1 r1=>⟨μ1,S1,xs,d,S',s1,r1,hm,post.ext e1⟩⟩
section
variable{x:Str}{p pos:Pos}{e:Expr}{es:List Expr}{ms:MA}{id T:String}{f:List D->ac->Option (D×ac)}
theorem pq(hc:CallR X (.builtin id) (IU X.K f))(hm:X.mg x=none)(hv:bootBuiltins x=some (.builtin id))(ha:DA X (e::es) ms)(hg:Gl X x:=by rfl)(hn:x ≠ "__name__":=by decide)(hdb:(x == ("__debug__":Str))=false:=by decide)
  (he:starEach (e::es) X.env=(false,eval e X.env)::starEach es X.env:=by rfl) (hpl:(backTo pos (starEach es X.env)).any (·.1)=false:=by rfl):DE X (.Call (.Name x p) (e::es) [] pos) (bf f ms):=
 PE.imp (zI hc hg hm hv ha hn hdb he hpl) fun _ _ _ h=>Ix h
theorem qd(hc:CallR X (.type T) (IU X.K f))(hm:X.mg x=none)(hv:bootBuiltins x=some (.type T))(ha:DA X (e::es) ms)(hg:Gl X x:=by rfl)(hn:x ≠ "__name__":=by decide)(hdb:(x == ("__debug__":Str))=false:=by decide)
  (he:starEach (e::es) X.env=(false,eval e X.env)::starEach es X.env:=by rfl) (hpl:(backTo pos (starEach es X.env)).any (·.1)=false:=by rfl):DE X (.Call (.Name x p) (e::es) [] pos) (bf f ms):=
 PE.imp (FX hc hg hm hv ha hn hdb he hpl) fun _ _ _ h=>Ix h
end
theorem Reps.one{vs:List V}{d:D}(r:Reps K μ H vs [d]):∃ v,vs=[v]/\Rep K μ H v d:=by
 cases r with
 | cons h t=>cases t;exact⟨_,rfl,h⟩
theorem Reps.two{vs:List V}{d e:D}(r:Reps K μ H vs [d,e]):∃ v w,vs=[v,w]/\Rep K μ H v d/\Rep K μ H w e:=by
 cases r with
 | cons h t=>cases t with | cons h' t=>cases t;exact⟨_,_,rfl,h,h'⟩
noncomputable def aM(f:ac->List D->Option D):List D->ac->Option (D×ac):=fun ds S=>(f S ds).bind fun d=>some (d,S)
theorem dZ{f:ac->List D->Option D}{ds:List D}{S S':ac}{d:D}(h:aM f ds S=some (d,S')):S'=S/\f S ds=some d:=by
 obtain⟨z,h1,h⟩:=Option.bind_eq_some_iff.mp h
 cases h
 exact⟨rfl,h1⟩
noncomputable def fK(S:ac):List D->Option D
 | [.str z]=>if z.length<=sizeLine then some (.int z.length) else none
 | [d]=>(gN S d).bind fun xs=>some (.int xs.length)
 | _=>none
theorem LV:CallR X (.builtin "len") (IU X.K (aM fK)):=CallR.imp (call_len_seq.or yR) fun xs H Q ⟨μ,S,ds,d,S',hS,hr,hm,post⟩=>by
 obtain⟨rfl,hm⟩:=dZ hm
 match ds,hr,hm with
 | [D.str z],hr,hm=>
  obtain⟨v,rfl,r⟩:=hr.one
  simp only [fK] at hm
  split at hm
  ·rename_i hl;cases hm;exact .inr ⟨z,by rw [r.str_inv],hl,post.here hS (.int _)⟩
  ·cases hm
 | [D.non],hr,hm=>cases hm
 | [D.bl _],hr,hm=>cases hm
 | [D.int _],hr,hm=>cases hm
 | [D.dct _ _],hr,hm=>cases hm
 | [D.tup xs],hr,hm=>
  obtain⟨v,rfl,r⟩:=hr.one
  cases hm
  obtain⟨a,vs,rfl,hq,r⟩:=jG hS r rfl
  exact .inl ⟨a,vs,rfl,hq,by rw [r.length];exact post.here hS (.int _)⟩
 | [D.lst xs],hr,hm=>
  obtain⟨v,rfl,r⟩:=hr.one
  cases hm
  obtain⟨a,vs,rfl,hq,r⟩:=jG hS r rfl
  exact .inl ⟨a,vs,rfl,hq,by rw [r.length];exact post.here hS (.int _)⟩
 | [D.rol xs],hr,hm=>
  obtain⟨v,rfl,r⟩:=hr.one
  cases hm
  obtain⟨a,vs,rfl,hq,r⟩:=jG hS r rfl
  exact .inl ⟨a,vs,rfl,hq,by rw [r.length];exact post.here hS (.int _)⟩
 | [D.ref i],hr,hm=>
  obtain⟨v,rfl,r⟩:=hr.one
  obtain⟨xs,h1,hm⟩:=Option.bind_eq_some_iff.mp hm
  cases hm
  obtain⟨a,vs,rfl,hq,r⟩:=jG hS r h1
  exact .inl ⟨a,vs,rfl,hq,by rw [r.length];exact post.here hS (.int _)⟩
 | [],hr,hm=>cases hm
 | a::b::c,hr,hm=>simp [fK] at hm
noncomputable def kM(S:ac):List D->Option D
 | [.int i]=>some (.int i)
 | [.bl k]=>some (.int (if k then 1 else 0))
 | _=>none
theorem LW:CallR X (.type "int") (IU X.K (aM kM)):=CallR.imp HL fun xs H Q ⟨μ,S,ds,d,S',hS,hr,hm,post⟩=>by
 obtain⟨rfl,hm⟩:=dZ hm
 match ds,hr,hm with
 | [D.int i],hr,hm=>obtain⟨v,rfl,r⟩:=hr.one;cases hm;exact .inl ⟨i,by rw [r.int_inv],post.here hS (.int _)⟩
 | [D.bl k],hr,hm=>obtain⟨v,rfl,r⟩:=hr.one;cases hm;exact .inr ⟨k,by rw [r.bl_inv],post.here hS (.int _)⟩
 | [D.non],hr,hm=>cases hm
 | [D.str _],hr,hm=>cases hm
 | [D.dct _ _],hr,hm=>cases hm
 | [D.tup _],hr,hm=>cases hm
 | [D.lst _],hr,hm=>cases hm
 | [D.rol _],hr,hm=>cases hm
 | [D.ref _],hr,hm=>cases hm
 | [],hr,hm=>cases hm
 | a::b::c,hr,hm=>simp [kM] at hm
noncomputable def PR(S:ac):List D->Option D
 | [.int i,.int j]=>some (.int (if j>i then j else i))
 | _=>none
noncomputable def Bj(S:ac):List D->Option D
 | [.int i,.int j]=>some (.int (if j<i then j else i))
 | _=>none
theorem PL{ds:List D}{f:Int->Int->D}{d:D}(h:(match ds with | [.int i,.int j]=>some (f i j) | _=>none)=some d):∃ i j,ds=[.int i,.int j]/\d=f i j:=by
 split at h
 ·cases h;exact⟨_,_,rfl,rfl⟩
 ·cases h
theorem HP(hc:X.calm=true):CallR X (.builtin "max") (IU X.K (aM PR)):=CallR.imp (HK hc) fun xs H Q ⟨μ,S,ds,d,S',hS,hr,hm,post⟩=>by
 obtain⟨rfl,hm⟩:=dZ hm
 obtain⟨i,j,rfl,rfl⟩:=PL (f:=fun i j=>.int (if j>i then j else i)) hm
 obtain⟨v,w,rfl,r1,r2⟩:=hr.two
 exact⟨i,j,by rw [r1.int_inv,r2.int_inv],post.here hS (.int _)⟩
theorem HM(hc:X.calm=true):CallR X (.builtin "min") (IU X.K (aM Bj)):=CallR.imp (HI hc) fun xs H Q ⟨μ,S,ds,d,S',hS,hr,hm,post⟩=>by
 obtain⟨rfl,hm⟩:=dZ hm
 obtain⟨i,j,rfl,rfl⟩:=PL (f:=fun i j=>.int (if j<i then j else i)) hm
 obtain⟨v,w,rfl,r1,r2⟩:=hr.two
 exact⟨i,j,by rw [r1.int_inv,r2.int_inv],post.here hS (.int _)⟩
noncomputable def cj(c:List D->D)(S:ac):List D->Option D
 | [d]=>(gN S d).bind fun xs=>some (c xs)
 | _=>none
theorem ue{c:List D->D}{S:ac}{ds:List D}{d:D}(h:cj c S ds=some d):∃ x xs,ds=[x]/\gN S x=some xs/\d=c xs:=by
 match ds,h with
 | [x],h=>
  obtain⟨xs,h1,h⟩:=Option.bind_eq_some_iff.mp h
  cases h
  exact⟨x,xs,rfl,h1,rfl⟩
 | [],h=>cases h
 | _::_::_,h=>cases h
theorem HQ:CallR X (.type "list") (IU X.K (aM (cj .lst))):=CallR.imp yQ fun xs H Q ⟨μ,S,ds,d,S',hS,hr,hm,post⟩=>by
 obtain⟨rfl,hm⟩:=dZ hm
 obtain⟨x,ys,rfl,h1,rfl⟩:=ue hm
 obtain⟨v,rfl,r⟩:=hr.one
 obtain⟨a,vs,rfl,hq,r⟩:=jG hS r h1
 exact⟨a,vs,rfl,hq,fun l hl=>post.lst hS hl r⟩
theorem DN:CallR X (.type "tuple") (IU X.K (aM (cj .tup))):=CallR.imp vk fun xs H Q ⟨μ,S,ds,d,S',hS,hr,hm,post⟩=>by
 obtain⟨rfl,hm⟩:=dZ hm
 obtain⟨x,ys,rfl,h1,rfl⟩:=ue hm
 obtain⟨v,rfl,r⟩:=hr.one
 cases x with
 | tup zs=>
  cases h1
  have r':=r
  obtain⟨a,vs,rfl,q,r⟩:=r.sqT
  exact⟨a,vs,rfl,.inr ⟨q,post.here hS r'⟩⟩
 | lst zs=>
  cases h1
  obtain⟨a,vs,rfl,q,n,r⟩:=r.sqL
  exact⟨a,vs,rfl,.inl ⟨.inl (.inl q),fun l hl=>post.tup hS hl r⟩⟩
 | rol zs=>
  cases h1
  obtain⟨a,vs,rfl,q,r⟩:=r.sqR
  exact⟨a,vs,rfl,.inl ⟨q,fun l hl=>post.tup hS hl r⟩⟩
 | ref i=>
  simp only [gN] at h1
  cases r with
  | @ref a _ h'=>
   cases q:S'[i]? with
   | none=>rw [q] at h1;cases h1
   | some c=>
    rw [q] at h1
    have ck:=hS.cell i a c h' q
    cases c with
    | lst xs=>cases h1;obtain⟨vs,e,r⟩:=ck;exact⟨a,vs,rfl,.inl ⟨.inl (.inl e),fun l hl=>post.tup hS hl r⟩⟩
    | dct ks xs=>cases h1
 | _=>cases h1
noncomputable def lz:List D->Option (List Bool)
 | []=>some []
 | .bl b::r=>(lz r).bind fun bs=>some (b::bs)
 | _=>none
noncomputable def yE(S:ac):List D->Option D
 | [.lst xs]=>(lz xs).bind fun bs=>some (.bl (bs.all id))
 | _=>none
theorem qM:∀ {vs:List V} {ds:List D} {us:List Value} {bs:List Bool},Reps K μ H vs ds->Vals vs us->lz ds=some bs->LSm.BoolsAre us bs
 | _,_,_,_,.nil,.nil,h=>by cases h;exact .nil
 | _,_,_,_,.cons (d:=d) r t,.cons rv tv,h=>by
  cases d <;> first | cases h | skip
  obtain⟨cs,h1,h⟩:=Option.bind_eq_some_iff.mp h
  cases h
  cases r;cases rv
  exact .cons _ (qM t tv h1)
theorem LX(hc:X.calm=true):CallR X (.builtin "all") (IU X.K (aM yE)):=by
 intro pins s σ H xs us Q I rv h
 obtain⟨μ,S,ds,d,S',hS,hr,hm,post⟩:=h
 obtain⟨rfl,hm⟩:=dZ hm
 match ds,hr,hm with
 | [D.lst zs],hr,hm=>
  obtain⟨v,rfl,r⟩:=hr.one
  obtain⟨bs,h1,hm⟩:=Option.bind_eq_some_iff.mp hm
  cases hm
  obtain⟨u,rfl,ru⟩:=qm rv
  obtain⟨a,vs,rfl,q,n,r⟩:=r.sqL
  cases ru
  obtain⟨its,rv',pl,hz⟩:=I.list (.inl (.inl q))
  have hl:=pl.isList
  have hb:=qM r rv' h1
  have hlt:a<s.heap.objs.size:=by obtain⟨_,e,_⟩:=hl;exact Heap.lt_size e
  refine call_all_walk (wpAny_pyIter_list hl ?_)
  refine⟨s.heap.objs.size,[s.heap.objs.size,a],[s.heap.objs.size],its.toArray.size,_,_,fun i=>(bs[i]?).getD true,rfl,Walks.list (A:=X.A.in1) (I.ok.hd hc) _ a (Nat.ne_of_lt hlt) its.toArray,
   ⟨⟨_,Heap.get?_push_size _ rfl,rfl,rfl⟩,hl.push _⟩,fun i v s' Q' E' hP hQ=>?_,fun h' tk hk=>?_⟩
  ·obtain⟨b,e,rfl⟩:=hb.get i v (by simpa using hP)
   simp only [e,Option.getD_some] at hQ
   exact wpAny_truthy_bool hQ
  ·have e:((List.range its.toArray.size).all fun i=>(bs[i]?).getD true)=bs.all id:=by
    rw [List.size_toArray,hb.length];exact LSm.range_all bs
   rw [e]
   exact⟨.bl _,H,I.kept (LSm.kept_iter hk),rfl,post.here hS (.bl _)⟩
 | [D.non],hr,hm=>cases hm
 | [D.bl _],hr,hm=>cases hm
 | [D.int _],hr,hm=>cases hm
 | [D.str _],hr,hm=>cases hm
 | [D.dct _ _],hr,hm=>cases hm
 | [D.tup _],hr,hm=>cases hm
 | [D.rol _],hr,hm=>cases hm
 | [D.ref _],hr,hm=>cases hm
 | [],hr,hm=>cases hm
 | a::b::c,hr,hm=>simp [yE] at hm
noncomputable def tyD(S:ac):D->Option String
 | .non=>some "NoneType"
 | .bl _=>some "bool"
 | .int _=>some "int"
 | .str _=>some "str"
 | .tup _=>some "tuple"
 | .lst _=>some "list"
 | .rol _=>some "list"
 | .dct _ _=>some "dict"
 | .ref r=>match S[r]? with | some (.lst _)=>some "list" | some (.dct _ _)=>some "dict" | none=>none
def Kn(T:String)(t:String):Bool:=t == T||(t == "bool" && T == "int")
noncomputable def kL(T:String)(S:ac)(d:D):Option D:=(tyD S d).bind fun t=>some (.bl (Kn T t))
noncomputable def dN(T:String)(m:ME):ME:=fun env S=>(m env S).bind fun p=>(kL T p.2 p.1).bind fun d=>some (d,p.2)
theorem FC{S:ac}{d:D}{t:String}(h:tyD S d=some t):t = "NoneType"\/t = "bool"\/t = "int"\/t = "str"\/t = "tuple"\/t = "list"\/t = "dict":=by
 cases d <;> simp only [tyD] at h <;> first | (cases h;simp) | (split at h <;> first | (cases h;simp) | cases h)
theorem NJ(K:PySem.W.Frag){T t:String}(hT:T = "int"\/T = "bool"\/T = "str"\/T = "tuple"\/T = "list"\/T = "dict")(ht:t = "NoneType"\/t = "bool"\/t = "int"\/t = "str"\/t = "tuple"\/t = "list"\/t = "dict") :
  PySem.W.kitOne K (.type t) (.type T)=some (Kn T t):=by
 rcases hT with rfl | rfl | rfl | rfl | rfl | rfl <;> rcases ht with rfl | rfl | rfl | rfl | rfl | rfl | rfl <;> rfl
theorem kia_D{pins:List (Addr×Obj)}{σ:L2.St}{s:Shared}{v:V}{u:Value}{d:D}{t:String}{b:Bool}{c:Value}{Q:Value->Shared->Prop}{E:Value->Shared->Prop}(I:Inv X pins σ H s)(hS:SOk X.K μ S H)(r:Rep X.K μ H v d)(ru:RelV v u)(ht:tyD S d=some t)
  (e:PySem.W.kitOne X.K (.type t) c=some b) (h:∀ tk,Q (.bool b) { s with toks:=tk }):wpAny (model X.prog X.w) X.A (call (.builtin "isinstance") [u,c]) Q E s:=by
 have tupK:∀ {a:Addr} {vs:List V},lI X.K H a vs->PySem.W.KitAt a "tuple" s.heap:=fun {a vs} q=>by
  obtain⟨its,_,⟨o,h1,h2,_⟩,_⟩:=I.tuple q;exact⟨o,h1,h2⟩
 have lstK:∀ {a:Addr} {vs:List V},om X.K H a vs->PySem.W.KitAt a "list" s.heap:=fun {a vs} q=>by
  obtain⟨its,_,⟨o,n,h1,h2,_⟩,_⟩:=I.list q;exact⟨o,h1,h2⟩
 have dK:∀ {a:Addr} {kvs:List (bz×V)},H a=some (.dK kvs)->PySem.W.KitAt a "dict" s.heap:=fun {a kvs} q=>by
  obtain⟨_,_,vs,_,p⟩:=(show ObjOk X.prog X.w H s.heap a (.dK kvs) from I.hok a _ q)
  obtain⟨o,es,ep,h1,h2,_⟩:=p
  exact⟨o,h1,h2.1⟩
 cases r with
 | non=>cases ht;cases ru;exact PySem.W.kia_one PySem.W.kitx_none I.kIn True.intro e (fun z=>nomatch z) h
 | bl y=>cases ht;cases ru;exact PySem.W.kia_one PySem.W.kitx_bool I.kIn True.intro e (fun z=>nomatch z) h
 | int i=>cases ht;obtain⟨t,rfl⟩:=ru;exact PySem.W.kia_one PySem.W.kitx_int I.kIn True.intro e (fun z=>nomatch z) h
 | str y=>cases ht;obtain⟨t,rfl⟩:=ru;exact PySem.W.kia_one PySem.W.kitx_str I.kIn True.intro e (fun z=>nomatch z) h
 | tup q n r=>cases ht;cases ru;exact PySem.W.kia_one PySem.W.kitx_tuple I.kIn (tupK (.inl (.inl q))) e (fun z=>nomatch z) h
 | ktup q r=>cases ht;cases ru;exact PySem.W.kia_one PySem.W.kitx_tuple I.kIn (tupK (.inr q)) e (fun z=>nomatch z) h
 | lst q n r=>cases ht;cases ru;exact PySem.W.kia_one PySem.W.kitx_list I.kIn (lstK (.inl (.inl q))) e (fun z=>nomatch z) h
 | rol q n r=>cases ht;cases ru;exact PySem.W.kia_one PySem.W.kitx_list I.kIn (lstK (.inl q)) e (fun z=>nomatch z) h
 | krol q r=>cases ht;cases ru;exact PySem.W.kia_one PySem.W.kitx_list I.kIn (lstK (.inr q)) e (fun z=>nomatch z) h
 | dct q n r=>cases ht;cases ru;exact PySem.W.kia_one PySem.W.kitx_dict I.kIn (dK q) e (fun z=>nomatch z) h
 | @ref a i h'=>
  cases ru
  simp only [tyD] at ht
  cases q:S[i]? with
  | none=>rw [q] at ht;cases ht
  | some c'=>
   rw [q] at ht
   have ck:=hS.cell i a c' h' q
   cases c' with
   | lst xs=>cases ht;obtain⟨vs,q,r⟩:=ck;exact PySem.W.kia_one PySem.W.kitx_list I.kIn (lstK (.inl (.inl q))) e (fun z=>nomatch z) h
   | dct ks xs=>cases ht;obtain⟨kvs,q,r⟩:=ck;exact PySem.W.kia_one PySem.W.kitx_dict I.kIn (dK q) e (fun z=>nomatch z) h
theorem Hy{a:Expr}{ma:ME}{T:String}{x:Str}{p p2 pos:Pos}(hm:X.mg "isinstance" = none)(hmT:X.mg x=none)(hb:bootBuiltins x=some (.type T))(ha:DE X a ma)
  (hT:T = "int"\/T = "bool"\/T = "str"\/T = "tuple"\/T = "list"\/T = "dict":=by simp)
  (hg:Gl X "isinstance":=by rfl) (hgT:Gl X x:=by rfl) (hn:x ≠ "__name__":=by decide) (hd:(x == ("__debug__":Str))=false:=by decide)
  (hs1:starEach [a,.Name x p2] X.env=(false,eval a X.env)::starEach [.Name x p2] X.env:=by rfl) (hs2:starEach [.Name x p2] X.env=(false,eval (.Name x p2) X.env)::starEach [] X.env:=by rfl) (hpl:(backTo pos (starEach [.Name x p2] X.env)).any (·.1)=false:=by rfl) :
  DE X (.Call (.Name "isinstance" p) [a,.Name x p2] [] pos) (dN T ma):=by
 have hc:CallR X (.builtin "isinstance") (fun vs H Q=>∃ v μ S d t,vs=[v,.ty T]/\SOk X.K μ S H/\Rep X.K μ H v d/\tyD S d=some t/\Q (.bl (Kn T t)) H):=by
  intro pins s σ H xs us Q I rv h
  obtain⟨v,μ,S,d,t,rfl,hS,r,ht,q⟩:=h
  obtain⟨u,w',rfl,r1,r2⟩:=Ij rv
  cases r2
  exact kia_D I hS r r1 ht (NJ _ hT (FC ht)) fun tk=>⟨.bl _,H,I.tok _,rfl,q⟩
 refine PE.imp (zI hc hg hm boot_isinstance (xE ha (xE (Nj (v:=.ty T) hgT hmT hb rfl hn hd) Jt hs2) hs1) (by decide) (by decide) hs1 hpl) fun σ H Q ⟨μ,S,env,d,S',hS,hE,hm,post⟩=>?_
 obtain⟨⟨x,S1⟩,h1,hm⟩:=Option.bind_eq_some_iff.mp hm
 obtain⟨z,h2,hm⟩:=Option.bind_eq_some_iff.mp hm
 cases hm
 obtain⟨t,h3,h2⟩:=Option.bind_eq_some_iff.mp h2
 cases h2
 exact⟨μ,S,env,x,S1,hS,hE,h1,fun v H1 μ1 e1 s1 r1=>⟨v,μ1,S1,x,t,rfl,s1,r1,h3,post _ H1 μ1 e1 s1 (.bl _)⟩⟩
end
end M
namespace M
open PySem PySem.Spec PyProof.Rows L2
section
variable{X:Cx}{K:PySem.W.Frag}{μ μ':Fp}{H H':Hp}{S:ac}
noncomputable def IG(K:PySem.W.Frag)(n:Nat)(f:List D->ac->Option (D×ac)):Sp:=fun vs H Q _=>∃ μ S ds d S',SOk K μ S H/\Reps K μ H vs ds/\ds.length=n/\f ds S=some (d,S')/\Post K μ H S' d Q
structure Fn(P:Program)(w:World)(K:PySem.W.Frag)(mg:Str->Option Value)(base:Heap)(k:Nat)(x:Str)(n:Nat)(f:List D->ac->Option (D×ac)):Prop where
 ex:∃ (a:Addr) (fd:FuncData) (ps:List Str),ps.length=n/\FnOk P w K mg base Fw k a fd ps (IG K n f)/\mg x=some (.ref a)/\PySem.W.keepIn K (.ref a)=true/\Binds K fd ps []
noncomputable def ak(n:Nat)(f:List D->ac->Option (D×ac))(ms:MA):ME:=fun env S=>(ms env S).bind fun p=>if p.1.length=n then f p.1 p.2 else none
theorem zn{n:Nat}{f:List D->ac->Option (D×ac)}{ms:MA}{σ:L2.St}{Q:VK}(h:tM K (ak n f ms) σ H Q):Eh (IG K n f) [] E0 (tMA K ms) σ H Q:=by
 obtain⟨μ,S,env,d,S',hS,hE,hm,post⟩:=h
 obtain⟨⟨xs,S1⟩,h1,hm⟩:=Option.bind_eq_some_iff.mp hm
 dsimp only at hm
 split at hm
 ·rename_i hn
  refine⟨μ,S,env,xs,S1,hS,hE,h1,fun vs H1 μ1 e1 s1 r1=>?_⟩
  show IG K n f (vs++[]) H1 Q E0
  rw [List.append_nil]
  exact⟨μ1,S1,xs,d,S',s1,r1,hn,hm,post.ext e1⟩
 ·cases hm
theorem OR{k n:Nat}{x:Str}{f:List D->ac->Option (D×ac)}{e:Expr}{es:List Expr}{ms:MA}{p pos:Pos}(F:Fn X.prog X.w X.K X.mg X.base k x n f)(hr:Room k X.A)(ha:DA X (e::es) ms)(hg:Gl X x:=by rfl)
  (hdb:(x == ("__debug__":Str))=false:=by decide) (he:starEach (e::es) X.env=(false,eval e X.env)::starEach es X.env:=by rfl) (hpl:(backTo pos (starEach es X.env)).any (·.1)=false:=by rfl) :
  DE X (.Call (.Name x p) (e::es) [] pos) (ak n f ms):=by
 obtain⟨a,fd,ps,hn,F,hm,hk,hb⟩:=F.ex
 exact PE.imp (Ni F hr hg hm hk hb .nil Js ha hdb he hpl) fun _ _ _ h=>zn h
theorem LN{k:Nat}{x:Str}{f:List D->ac->Option (D×ac)}{p pos:Pos}(F:Fn X.prog X.w X.K X.mg X.base k x 0 f)(hr:Room k X.A)(hg:Gl X x:=by rfl)
  (hdb:(x == ("__debug__":Str))=false:=by decide):DE X (.Call (.Name x p) [] [] pos) (ak 0 f ag):=by
 obtain⟨a,fd,ps,hn,F,hm,hk,hb⟩:=F.ex
 refine PE.imp (Jr F hr hg hm hk hb .nil Js hdb) fun σ H Q h=>?_
 obtain⟨μ,S,env,d,S',hS,hE,hm,post⟩:=h
 exact⟨μ,S,[],d,S',hS,.nil,rfl,hm,post⟩
mutual
noncomputable def mH(n:Nat):D->Bool
 | .tup xs=>closDs n xs
 | .lst xs=>closDs n xs
 | .rol xs=>closDs n xs
 | .dct _ xs=>closDs n xs
 | .ref r=>decide (r<n)
 | _=>true
noncomputable def closDs(n:Nat):List D->Bool
 | []=>true
 | d::ds=>mH n d&&closDs n ds
end
noncomputable def wH(n:Nat):vp->Bool
 | .lst xs=>closDs n xs
 | .dct _ xs=>closDs n xs
mutual
theorem Rep.trunc{cs l fb:List Addr}:∀ {v:V} {d:D},Rep K ⟨cs++l,fb⟩ H v d->mH cs.length d=true->Rep K ⟨cs,fb⟩ H v d
 | _,_,.non,_=>.non
 | _,_,.bl b,_=>.bl b
 | _,_,.int i,_=>.int i
 | _,_,.str x,_=>.str x
 | _,_,.tup h n r,c=>.tup h ⟨fun z=>n.1 (List.mem_append_left _ z),n.2⟩ (Reps.trunc r (by simpa only [mH] using c))
 | _,_,.ktup h r,c=>.ktup h (Reps.trunc r (by simpa only [mH] using c))
 | _,_,.lst h n r,c=>.lst h ⟨fun z=>n.1 (List.mem_append_left _ z),n.2⟩ (Reps.trunc r (by simpa only [mH] using c))
 | _,_,.rol h n r,c=>.rol h ⟨fun z=>n.1 (List.mem_append_left _ z),n.2⟩ (Reps.trunc r (by simpa only [mH] using c))
 | _,_,.krol h r,c=>.krol h (Reps.trunc r (by simpa only [mH] using c))
 | _,_,.dct h n r,c=>.dct h ⟨fun z=>n.1 (List.mem_append_left _ z),n.2⟩ (Reps.trunc r (by simpa only [mH] using c))
 | _,_,.ref h,c=>.ref (by
   have hl:=of_decide_eq_true c
   have h:(cs++l)[_]?=some _:=h
   rw [List.getElem?_append_left hl] at h
   exact h)
theorem Reps.trunc{cs l fb:List Addr}:∀ {vs:List V} {ds:List D},Reps K ⟨cs++l,fb⟩ H vs ds->closDs cs.length ds=true->Reps K ⟨cs,fb⟩ H vs ds
 | _,_,.nil,_=>.nil
 | _,_,.cons h t,c=>by
  rw [closDs,Bool.and_eq_true] at c
  exact .cons (Rep.trunc h c.1) (Reps.trunc t c.2)
end
mutual
theorem Rep.closed:∀ {v:V} {d:D},Rep K μ H v d->mH μ.cs.length d=true
 | _,_,.non=>rfl
 | _,_,.bl b=>rfl
 | _,_,.int i=>rfl
 | _,_,.str x=>rfl
 | _,_,.tup h n r=>Reps.closed r
 | _,_,.ktup h r=>Reps.closed r
 | _,_,.lst h n r=>Reps.closed r
 | _,_,.rol h n r=>Reps.closed r
 | _,_,.krol h r=>Reps.closed r
 | _,_,.dct h n r=>Reps.closed r
 | _,_,.ref h=>decide_eq_true (List.getElem?_eq_some_iff.mp h).1
theorem Reps.closed:∀ {vs:List V} {ds:List D},Reps K μ H vs ds->closDs μ.cs.length ds=true
 | _,_,.nil=>rfl
 | _,_,.cons h t=>by rw [closDs,Rep.closed h,Reps.closed t];rfl
end
theorem SOk.closed(s:SOk K μ S H):∀ c∈S,wH S.length c=true:=fun c hc=>by
 obtain⟨r,hr⟩:=List.mem_iff_getElem?.mp hc
 have hl:=(List.getElem?_eq_some_iff.mp hr).1
 have hl':r < μ.cs.length:=by rw [s.len];exact hl
 have:=s.cell r _ c (List.getElem?_eq_getElem hl') hr
 cases c with
 | lst ds=>obtain⟨vs,_,q⟩:=this;rw [<- s.len];exact q.closed
 | dct ks ds=>obtain⟨vs,_,_,q⟩:=this;rw [<- s.len];exact q.closed
theorem SOk.trunc{S' g:ac}(s:SOk K μ (S'++g) H)(hc:∀ c∈S',wH S'.length c=true):∃ cs l,μ.cs=cs++l/\cs.length=S'.length/\SOk K ⟨cs,μ.fb⟩ S' H:=by
 obtain⟨cs0,fb⟩:=μ
 have hlen:cs0.length=S'.length+g.length:=by have:=s.len;simpa using this
 have hcl:(cs0.take S'.length).length=S'.length:=by rw [List.length_take];omega
 refine⟨cs0.take S'.length,cs0.drop S'.length,(List.take_append_drop _ _).symm,hcl,s.nd.sublist (List.take_sublist _ _),hcl,fun r a c h1 h2=>?_,s.fdom,fun a ha z=>s.disj a ha (List.mem_of_mem_take z)⟩
 have hr:=(List.getElem?_eq_some_iff.mp h2).1
 have h1':cs0[r]?=some a:=by
  have h1:(cs0.take S'.length)[r]?=some a:=h1
  rwa [List.getElem?_take_of_lt hr] at h1
 have ck:=s.cell r a c h1' (by rw [List.getElem?_append_left hr];exact h2)
 have cc:=hc c (List.mem_of_getElem? h2)
 have e:cs0=cs0.take S'.length++cs0.drop S'.length:=(List.take_append_drop _ _).symm
 cases c with
 | lst ds=>
  obtain⟨vs,q,r⟩:=ck
  have r':Reps K ⟨cs0.take S'.length++cs0.drop S'.length,fb⟩ H vs ds:=by rw [<- e];exact r
  exact⟨vs,q,r'.trunc (by rw [hcl];exact cc)⟩
 | dct ks ds=>
  obtain⟨vs,q,q2,r⟩:=ck
  have r':Reps K ⟨cs0.take S'.length++cs0.drop S'.length,fb⟩ H (vs.map (·.2)) ds:=by rw [<- e];exact r
  exact⟨vs,q,q2,r'.trunc (by rw [hcl];exact cc)⟩
theorem Post.trunc{S' g:ac}{d:D}{Q:VK}(post:Post K μ H S' d Q)(hd:mH S'.length d=true)(hc:∀ c∈S',wH S'.length c=true)(hl:μ.cs.length<=S'.length):Post K μ H (S'++g) d Q:=fun v H' μ' e s r=>by
 obtain⟨cs,l,q,hcl,s'⟩:=s.trunc hc
 obtain⟨cs',fb'⟩:=μ'
 have q':cs'=cs++l:=q
 subst q'
 refine post v H' ⟨cs,fb'⟩ ⟨e.fb,?_,e.keep,fun a ha=>e.dom a (List.mem_append_left _ ha)⟩ s' (r.trunc (by rw [hcl];exact hd))
 obtain⟨l0,q0,h0⟩:=e.pre
 have q0:cs++l = μ.cs++l0:=q0
 have hle:μ.cs.length<=cs.length:=by rw [hcl];exact hl
 refine⟨cs.drop μ.cs.length,?_,fun a ha=>h0 a ?_⟩
 ·have t1:(cs++l).take μ.cs.length = μ.cs:=by rw [q0];simp
  rw [List.take_append_of_le_length hle] at t1
  show cs = μ.cs++cs.drop μ.cs.length
  conv=>lhs;rw [<- List.take_append_drop μ.cs.length cs,t1]
 ·have t2:(cs++l).drop μ.cs.length=l0:=by rw [q0];simp
  rw [<- t2,List.drop_append_of_le_length hle]
  exact List.mem_append_left _ ha
def Runs(m:MS)(env:bm)(S:ac)(d:D)(S':ac):Prop:=
 ∃ o g,m env S=some o/\(g=[]\/(mH S'.length d=true/\(∀ c∈S',wH S'.length c=true)/\S.length<=S'.length))/\(o=.rt d (S'++g)\/(d=.non/\∃ env',o=.nx env' (S'++g)))
theorem Runs.ret{m:MS}{env:bm}{S S':ac}{d:D}(h:m env S=some (.rt d S')):Runs m env S d S':=⟨_,[],h,.inl rfl,.inl (by rw [List.append_nil])⟩
noncomputable def aA(N:List Str)(ds:List D):bm:=ds.map some++List.replicate (N.length - ds.length) none
theorem PP{P:Program}{w:World}{mg:Str->Option Value}{base:Heap}{k:Nat}{x qual:Str}{st:Stmt}{a:Addr}{fd:FuncData}{N ps:List Str}{f:List D->ac->Option (D×ac)}
  (F:L2.Fun K x qual st a fd) (Sc:aS N ps (ax st))
  (hbody:∀ (cdv:Value) (A:Around) (outer:List PySem.Env) (s:Shared) (H:Hp) (E:XK),Room k (A.deeper (envOfC qual (ax st) s.heap.objs.size a cdv)) ->
   ∃ m,vn (vi Fw P w K mg base N qual (ax st) a cdv A outer s H E).nox (aI st) m/\∀ ds S d S',ds.length=ps.length->(∀ c∈S,wH S.length c=true)->closDs S.length ds=true->f ds S=some (d,S')->Runs m (aA N ds) S d S') :
  FnOk P w K mg base Fw (k+1) a fd ps (IG K ps.length f):=by
 refine F.ok Sc (fun vs H Q E h=>?_) (fun cdv A outer s H vs Q E hr h=>?_)
 ·obtain⟨μ,S,ds,d,S',hS,hr,hn,hf,post⟩:=h
  rw [hr.length,hn]
 ·obtain⟨m,hm,run⟩:=hbody cdv A outer s H E hr
  refine⟨_,hm,?_⟩
  obtain⟨μ,S,ds,d,S',hS,hrp,hn,hf,post⟩:=h
  obtain⟨o,g,ho,hg,hend⟩:=run ds S d S' hn hS.closed (by rw [<- hS.len];exact hrp.closed) hf
  have post':Post K μ H (S'++g) d Q:=by
   rcases hg with rfl | ⟨c1,c2,c3⟩
   ·rw [List.append_nil];exact post
   ·exact post.trunc c1 c2 (by rw [hS.len];exact c3)
  have hEnv:EOk K μ H (L2.start N vs) (aA N ds):=by unfold L2.start aA;rw [hrp.length];exact EOk.start hrp
  rcases hend with rfl | ⟨rfl,env',rfl⟩
  ·exact⟨μ,S,_,_,hS,hEnv,ho,post'⟩
  ·exact⟨μ,S,_,_,hS,hEnv,ho,fun σ' H' μ' e s' _=>post' .non H' μ' e s' .non⟩
theorem PQ{P:Program}{w:World}{mg:Str->Option Value}{base:Heap}{k:Nat}{x qual:Str}{st:Stmt}{a:Addr}{fd:FuncData}{N ps:List Str}{f:List D->ac->Option (D×ac)}
  (F:L2.Fun K x qual st a fd) (Sc:aS N ps (ax st)) (hmg:mg x=some (.ref a)) (hb:Binds K fd ps [])
  (hbody:∀ (cdv:Value) (A:Around) (outer:List PySem.Env) (s:Shared) (H:Hp) (E:XK),Room k (A.deeper (envOfC qual (ax st) s.heap.objs.size a cdv)) ->
   ∃ m,vn (vi Fw P w K mg base N qual (ax st) a cdv A outer s H E).nox (aI st) m/\∀ ds S d S',ds.length=ps.length->(∀ c∈S,wH S.length c=true)->closDs S.length ds=true->f ds S=some (d,S')->Runs m (aA N ds) S d S') :
  Fn P w K mg base (k+1) x ps.length f:=⟨a,fd,ps,rfl,PP F Sc hbody,hmg,F.kp,hb⟩
end
end M
namespace M
open PySem PySem.Spec PyProof.Rows L2
section
variable{X:Cx}{K:PySem.W.Frag}{μ μ':Fp}{H H':Hp}{S:ac}
theorem PostN.ext{S':ac}{env':bm}{Q:L2.St->Hp->Prop}(e:Ext μ H μ' H')(p:PostN K μ H S' env' Q):PostN K μ' H' S' env' Q:=fun σ2 H2 μ2 e2 s r=>p σ2 H2 μ2 (e.trans e2) s r
theorem PostS.ext{o:oo}{E:vm}(e:Ext μ H μ' H')(p:PostS K μ H o E):PostS K μ' H' o E:=by
 cases o with
 | nx env S=>exact PostN.ext e p
 | rt d S=>exact Post.ext e p
 | bk env S=>exact PostN.ext e p
 | ct env S=>exact PostN.ext e p
noncomputable def aY:MS:=fun env S=>some (.nx env S)
noncomputable def az(a b:MS):MS:=fun env S=>(a env S).bind fun o=>match o with | .nx env' S'=>b env' S' | o=>some o
theorem OA:vn X [] aY:=PSs.imp MR fun E σ H ⟨μ,S,env,o,hS,hE,hm,post⟩=>by cases hm;exact post σ H μ hS.ext hS hE
theorem Mp{a b:MS}{E:vm}{σ:L2.St}(h:tMS K (az a b) E σ H):tSeq (tMS K a) (tMS K b) E σ H:=by
 obtain⟨μ,S,env,o,hS,hE,hm,post⟩:=h
 obtain⟨o1,h1,hm⟩:=Option.bind_eq_some_iff.mp hm
 refine⟨μ,S,env,o1,hS,hE,h1,?_⟩
 cases o1 with
 | nx env' S'=>exact fun σ' H' μ' e s r=>⟨μ',S',env',o,s,r,hm,post.ext e⟩
 | rt d S'=>cases hm;exact post
 | bk env' S'=>cases hm;exact post
 | ct env' S'=>cases hm;exact post
theorem Lr{st:Stmt}{rest:List Stmt}{a b:MS}(h1:DS X st a)(h2:vn X rest b):vn X (st::rest) (az a b):=PSs.imp (zF h1 h2) fun _ _ _ h=>Mp h
theorem Oz{st:Stmt}{a:MS}(h1:DS X st a):vn X [st] a:=Em h1
variable{pos:Pos}{e c:Expr}{m:ME}{mt:MT}{a b:List Stmt}{ma mb:MS}
theorem OC:DS X (.Pass pos) aY:=PS.imp MV fun E σ H ⟨μ,S,env,o,hS,hE,hm,post⟩=>by cases hm;exact post σ H μ hS.ext hS hE
theorem Lv:DS X (.Break pos) (fun env S=>some (.bk env S)):=PS.imp Je fun E σ H ⟨μ,S,env,o,hS,hE,hm,post⟩=>by cases hm;exact post σ H μ hS.ext hS hE
theorem Bm:DS X (.Continue pos) (fun env S=>some (.ct env S)):=PS.imp zH fun E σ H ⟨μ,S,env,o,hS,hE,hm,post⟩=>by cases hm;exact post σ H μ hS.ext hS hE
theorem ST{x j p}:DS X (.Expr (.Constant (.str x) j p) pos) aY:=PS.imp QL fun E σ H ⟨μ,S,env,o,hS,hE,hm,post⟩=>by cases hm;exact post σ H μ hS.ext hS hE
noncomputable def aU(m:ME):MS:=fun env S=>(m env S).bind fun p=>some (.rt p.1 p.2)
theorem SR(he:DE X e m):DS X (.Return (some e) pos) (aU m):=PS.imp (Jc he) fun E σ H ⟨μ,S,env,o,hS,hE,hm,post⟩=>by
 obtain⟨⟨d,S1⟩,h1,hm⟩:=Option.bind_eq_some_iff.mp hm
 cases hm
 exact⟨μ,S,env,d,S1,hS,hE,h1,post⟩
theorem OB:DS X (.Return none pos) (fun _ S=>some (.rt .non S)):=PS.imp MU fun E σ H ⟨μ,S,env,o,hS,hE,hm,post⟩=>by cases hm;exact Post.here post hS .non
noncomputable def eV(m:ME):MS:=fun env S=>(m env S).bind fun p=>some (.nx env p.2)
theorem OF(he:DE X e m)(hs:swapsWith e none pos.line X.env=pure false:=by rfl):DS X (.Expr e pos) (eV m):=PS.imp (MW he hs) fun E σ H ⟨μ,S,env,o,hS,hE,hm,post⟩=>by
 obtain⟨⟨d,S1⟩,h1,hm⟩:=Option.bind_eq_some_iff.mp hm
 cases hm
 exact⟨μ,S,env,d,S1,hS,hE,h1,fun v H' μ' ex s r=>post σ H' μ' ex s (hE.mono ex)⟩
noncomputable def bC(t:MT)(a b:MS):MS:=fun env S=>(t env S).bind fun p=>if p.1=true then a env p.2 else b env p.2
theorem ds_if(hc:DT X c mt)(ha:vn X a ma)(hb:vn X b mb):DS X (.If c a b pos) (bC mt ma mb):=PS.imp (ps_if hc ha hb) fun E σ H ⟨μ,S,env,o,hS,hE,hm,post⟩=>by
 obtain⟨⟨k,S1⟩,h1,hm⟩:=Option.bind_eq_some_iff.mp hm
 refine⟨μ,S,env,k,S1,hS,hE,h1,fun H1 μ1 e1 s1=>?_⟩
 cases k with
 | true=>rw [if_pos rfl] at hm ⊢;exact⟨μ1,S1,env,o,s1,hE.mono e1,hm,post.ext e1⟩
 | false=>rw [if_neg Bool.false_ne_true] at hm ⊢;exact⟨μ1,S1,env,o,s1,hE.mono e1,hm,post.ext e1⟩
noncomputable abbrev MG:=D->bm->ac->Option (bm×ac)
noncomputable abbrev uB:=List D->bm->ac->Option (bm×ac)
inductive tMG(K:PySem.W.Frag)(g:MG)(v:V)(σ:L2.St)(H:Hp)(Q:L2.St->Hp->Prop):Prop
 | mk (μ:Fp) (S:ac) (env:bm) (d:D) (env':bm) (S':ac) (hS:SOk K μ S H) (hE:EOk K μ H σ env) (h1:Rep K μ H v d) (h:g d env S=some (env',S')) (post:PostN K μ H S' env' Q)
inductive tMGs(K:PySem.W.Frag)(g:uB)(vs:List V)(σ:L2.St)(H:Hp)(Q:L2.St->Hp->Prop):Prop
 | mk (μ:Fp) (S:ac) (env:bm) (ds:List D) (env':bm) (S':ac) (hS:SOk K μ S H) (hE:EOk K μ H σ env) (h1:Reps K μ H vs ds) (h:g ds env S=some (env',S')) (post:PostN K μ H S' env' Q)
def DG(X:Cx)(tg:Expr)(g:MG):Prop:=PG X tg (tMG X.K g)
def TX(X:Cx)(tg:List Expr)(g:uB):Prop:=PGs X tg (tMGs X.K g)
theorem PG.imp{tg:Expr}{t t':TG}(h:PG X tg t)(i:∀ v σ H Q,t' v σ H Q->t v σ H Q):PG X tg t':=fun pins s σ H v u Q I r q=>h pins s σ H v u Q I r (i v σ H Q q)
theorem PGs.imp{tg:List Expr}{t t':Qh}(h:PGs X tg t)(i:∀ v σ H Q,t' v σ H Q->t v σ H Q):PGs X tg t':=fun pins s σ H v u Q I r q=>h pins s σ H v u Q I r (i v σ H Q q)
noncomputable def ah(i:Nat):MG:=fun d env S=>some (env.set i (some d),S)
theorem Fj{i:Nat}{x:Str}(hN:X.N.Nodup)(hi:X.N[i]?=some x)(hx:Mh X.env.scope x)(hf:X.fn x=true\/X.env.scope.names.lookup x=some .local:=by first | exact .inl rfl | exact .inr rfl | assumption):DG X (.Name x pos) (ah i):=
 PG.imp (Nd hN hi hx hf) fun v σ H Q ⟨μ,S,env,d,env',S',hS,hE,hr,hm,post⟩=>by cases hm;exact post _ H μ hS.ext hS (hE.set hr i)
noncomputable def aK:uB:=fun ds env S=>match ds with | []=>some (env,S) | _=>none
noncomputable def af(g:MG)(gs:uB):uB:=fun ds env S=>match ds with | d::r=>(g d env S).bind fun p=>gs r p.1 p.2 | []=>none
theorem OK:TX X [] aK:=PGs.imp Nc fun v σ H Q ⟨μ,S,env,ds,env',S',hS,hE,hr,hm,post⟩=>by
 cases hr with
 | nil=>cases hm;exact⟨rfl,post σ H μ hS.ext hS hE⟩
 | cons _ _=>cases hm
theorem LE{t:Expr}{ts:List Expr}{g:MG}{gs:uB}(h1:DG X t g)(h2:TX X ts gs)(hs:(assignEach (t::ts) X.env).map (·.2)=assign t X.env::(assignEach ts X.env).map (·.2):=by rfl):TX X (t::ts) (af g gs):=
 PGs.imp (Jh h1 h2 hs) fun v σ H Q ⟨μ,S,env,ds,env',S',hS,hE,hr,hm,post⟩=>by
  cases hr with
  | nil=>cases hm
  | @cons v d vs ds h t=>
   obtain⟨⟨env1,S1⟩,h1,hm⟩:=Option.bind_eq_some_iff.mp hm
   exact⟨v,vs,rfl,μ,S,env,d,env1,S1,hS,hE,h,h1,fun σ1 H1 μ1 e1 s1 r1=>⟨μ1,S1,env1,ds,env',S',s1,r1,t.mono e1,hm,post.ext e1⟩⟩
noncomputable def aZ(n:Nat)(gs:uB):MG:=fun d env S=>match d with | .tup xs=>if xs.length=n then gs xs env S else none | _=>none
theorem SV{es:List Expr}{k n:Nat}{gs:uB}(hc:X.calm=true)(h:TX X es gs)(hn:(assignEach es X.env).length=n:=by rfl)(hst:(assignEach es X.env).findIdx? (·.1)=none:=by rfl):DG X (.Tuple es k pos) (aZ n gs):=
 PG.imp (QQ hc h hn hst) fun v σ H Q ⟨μ,S,env,d,env',S',hS,hE,hr,hm,post⟩=>by
  cases d with
  | tup xs=>
   simp only [aZ] at hm
   split at hm
   ·rename_i hl
    obtain⟨a,vs,rfl,q,r⟩:=hr.sqT
    exact⟨a,vs,rfl,q,by rw [r.length];exact hl,μ,S,env,xs,env',S',hS,hE,r,hm,post⟩
   ·cases hm
  | _=>cases hm
noncomputable def gq(o i:ME):MG:=fun d env S=>(o env S).bind fun p=>(i env p.2).bind fun q=>match p.1,q.1 with
 | .ref r,.int k=>match q.2[r]? with
  | some (.lst xs)=>(GG xs.length k).bind fun j=>some (env,q.2.set r (.lst (xs.set j d)))
  | _=>none
 | _,_=>none
theorem SW{o i:Expr}{mo mi:ME}(ho:DE X o mo)(hi:DE X i mi)(ha:∀ v,assign (.Subscript o i pos) X.env v=(do
   let ov <- holding [v] (eval o X.env)
   let iv <- holding [v,ov] (eval i X.env)
   standAt pos
   holding [v,ov,iv] (setItem ov iv v)
   release [v,ov,iv] []):=by intro _;rfl):DG X (.Subscript o i pos) (gq mo mi):=
 PG.imp (QR ho hi IH ha) fun v σ H Q ⟨μ,S,env,d,env',S',hS,hE,hr,hm,post⟩=>by
  obtain⟨⟨x,S1⟩,h1,hm⟩:=Option.bind_eq_some_iff.mp hm
  obtain⟨⟨y,S2⟩,h2,hm⟩:=Option.bind_eq_some_iff.mp hm
  refine⟨μ,S,env,x,S1,hS,hE,h1,fun v1 H1 μ1 e1 s1 r1=>⟨μ1,S1,env,y,S2,s1,hE.mono e1,h2,fun v2 H2 μ2 e2 s2 r2=>?_⟩⟩
  cases x with
  | ref r=>
   cases y with
   | int k=>
    dsimp only at hm
    cases q:S2[r]? with
    | none=>rw [q] at hm;cases hm
    | some c=>
     rw [q] at hm
     cases c with
     | lst xs=>
      obtain⟨j,h3,hm⟩:=Option.bind_eq_some_iff.mp hm
      cases hm
      have r1':=r1.mono e2
      cases r1' with
      | @ref a _ h'=>
       obtain⟨vs,hv,rv⟩:=s2.cell r a _ h' q
       have rd:=(hr.mono e1).mono e2
       obtain⟨e3,s3⟩:=s2.write h' hv (rv.set rd j)
       exact⟨a,vs,k,j,rfl,r2.int_inv,hv,by rw [rv.length];exact h3,post σ _ μ2 ((e1.trans e2).trans e3) s3 (hE.mono ((e1.trans e2).trans e3))⟩
     | dct ks xs=>cases hm
   | _=>cases hm
  | _=>cases hm
noncomputable def aH(m:ME)(g:MG):MS:=fun env S=>(m env S).bind fun p=>(g p.1 env p.2).bind fun q=>some (.nx q.1 q.2)
theorem Mr{g:MG}{E:vm}{σ:L2.St}(h:tMS K (aH m g) E σ H):Iy (tM K m) (tMG K g) E σ H:=by
 obtain⟨μ,S,env,o,hS,hE,hm,post⟩:=h
 obtain⟨⟨d,S1⟩,h1,hm⟩:=Option.bind_eq_some_iff.mp hm
 obtain⟨⟨env2,S2⟩,h2,hm⟩:=Option.bind_eq_some_iff.mp hm
 cases hm
 exact⟨μ,S,env,d,S1,hS,hE,h1,fun v H1 μ1 e1 s1 r1=>⟨μ1,S1,env,d,env2,S2,s1,hE.mono e1,r1,h2,PostN.ext e1 post⟩⟩
theorem Lx{tg:Expr}{g:MG}(he:DE X e m)(hg:DG X tg g)(hs:swapsWithSole [tg] e pos.line X.env=pure false:=by rfl)(hw:swappedStores [tg] e X.env=pure none:=by rfl)
  (h1:(assignEach [tg] X.env).map (·.2)=[assign tg X.env]:=by rfl):DS X (.Assign [tg] e pos) (aH m g):=PS.imp (QM he hg hs hw h1) fun _ _ _ h=>Mr h
theorem Dv{i:Nat}{x:Str}{pos':Pos}(hN:X.N.Nodup)(hi:X.N[i]?=some x)(hx:Mh X.env.scope x)(he:DE X e m)(hs:swapsWith e (some (.Name x pos')) pos.line X.env=pure false:=by rfl)(hf:X.fn x=true\/X.env.scope.names.lookup x=some .local:=by first | exact .inl rfl | exact .inr rfl | assumption) :
  DS X (.Assign [.Name x pos'] e pos) (aH m (ah i)):=PS.imp (Jb hN hi hx he hs hf) fun E σ H h=>by
 obtain⟨μ,S,env,o,hS,hE,hm,post⟩:=h
 obtain⟨⟨d,S1⟩,h1,hm⟩:=Option.bind_eq_some_iff.mp hm
 cases hm
 exact⟨μ,S,env,d,S1,hS,hE,h1,fun v H1 μ1 e1 s1 r1=>post _ H1 μ1 e1 s1 ((hE.mono e1).set r1 i)⟩
structure ExtP(μ:Fp)(H:Hp)(μ':Fp)(H':Hp):Prop where
 fb:∃ l,μ'.fb=l++μ.fb/\∀ a∈l,H a=none
 pre:∃ l,μ'.cs = μ.cs++l/\∀ a∈l,H a=none
 keep:∀ a o,a ∉ μ.cs->H a=some o->H' a=some o
 dom:∀ a ∈ μ'.cs,H' a≠none
theorem Ext.toP(e:Ext μ H μ' H'):ExtP μ H μ' H':=⟨⟨[],by rw [e.fb];rfl,fun _ z=>by simp at z⟩,e.pre,e.keep,e.dom⟩
theorem ExtP.stays(e:ExtP μ H μ' H'){a:Addr}{o:HO}(h:H a=some o)(n:μ.no a):H' a=some o/\μ'.no a:=by
 refine⟨e.keep a o n.1 h,fun z=>?_,fun z=>?_⟩
 ·obtain⟨l,q,hl⟩:=e.pre
  rw [q] at z
  rcases List.mem_append.mp z with z | z
  ·exact n.1 z
  ·rw [hl a z] at h;cases h
 ·obtain⟨l,q,hl⟩:=e.fb
  rw [q] at z
  rcases List.mem_append.mp z with z | z
  ·rw [hl a z] at h;cases h
  ·exact n.2 z
theorem ExtP.then{μ'':Fp}{H'':Hp}(e:ExtP μ H μ' H')(f:Ext μ' H' μ'' H''):ExtP μ H μ'' H'':=by
 obtain⟨l,q,hl⟩:=e.pre
 obtain⟨l',q',hl'⟩:=f.pre
 refine⟨by rw [f.fb];exact e.fb,⟨l++l',by rw [q',q,List.append_assoc],fun a ha=>?_⟩,fun a o n h=>?_,f.dom⟩
 ·rcases List.mem_append.mp ha with ha | ha
  ·exact hl a ha
  ·have h1:=hl' a ha
   cases q2:H a with
   | none=>rfl
   | some o=>
    by_cases hm:a ∈ μ.cs
    ·exact absurd h1 (e.dom a (by rw [q];exact List.mem_append_left _ hm))
    ·rw [e.keep a o hm q2] at h1;cases h1
 ·have h1:=e.keep a o n h
  refine f.keep a o (fun z=>?_) h1
  rw [q] at z
  rcases List.mem_append.mp z with z | z
  ·exact n z
  ·rw [hl a z] at h;cases h
theorem ExtP.chg{p:Addr}{o:HO}(e:ExtP μ H μ' H')(hp:H p=none):ExtP μ H μ' (upd H' p o):=
 ⟨e.fb,e.pre,fun a o' n h=>by rw [bj (cq h hp)];exact e.keep a o' n h,fun a ha=>by
  by_cases z:a=p
  ·subst z;rw [bv];simp
  ·rw [bj z];exact e.dom a ha⟩
theorem ExtP.ix(e:ExtP μ H μ' H'){r:Nat}{a:Addr}(h:μ.cs[r]?=some a):μ'.cs[r]?=some a:=by
 obtain⟨l,q,_⟩:=e.pre
 exact yX q h
theorem Rep.monoP(e:ExtP μ H μ' H'){v:V}{d:D}(r:Rep K μ H v d):Rep K μ' H' v d:=r.imp e.stays e.ix
def DZ(K:PySem.W.Frag)(μ:Fp)(H:Hp)(J:It)(xs:List D):Prop:=
 ∀ μ' H' S',ExtP μ H μ' H'->SOk K μ' S' H'->∀ i,(∀ d,xs[i]?=some d->J.go i H'/\∀ x H2,J.yld i H' x H2->Ext μ' H' μ' H2/\SOk K μ' S' H2/\Rep K μ' H2 x d)/\(xs.length<=i->J.stop i H')
inductive iM(K:PySem.W.Frag)(m:MA)(σ:L2.St)(H:Hp)(R:It->Hp->Prop):Prop
 | mk (μ:Fp) (S:ac) (env:bm) (xs:List D) (S':ac) (hS:SOk K μ S H) (hE:EOk K μ H σ env) (h:m env S=some (xs,S')) (post:∀ J H' μ',Ext μ H μ' H'->SOk K μ' S' H'->DZ K μ' H' J xs->R J H')
def DI(X:Cx)(tg iter:Expr)(m:MA):Prop:=PI X tg iter (iM X.K m)
theorem PI.imp{tg iter:Expr}{t t':TI}(h:PI X tg iter t)(i:∀ σ H R,t' σ H R->t σ H R):PI X tg iter t':=fun pins s σ H R I q=>h pins s σ H R I (i σ H R q)
theorem we{v:V}{a:Addr}{d:D}{xs:List D}(hd:d=.lst xs\/d=.rol xs)(r:Rep K μ H v d)(hv:v=.ref a):DZ K μ H (Itl K a) xs:=fun μ' H' S' e s i=>by
 have r':=r.monoP e
 obtain⟨vs,q,rs⟩:∃ vs,om K H' a vs/\Reps K μ' H' vs xs:=by
  subst hv
  rcases hd with rfl | rfl
  ·obtain⟨a',vs,ea,q,_,rs⟩:=r'.sqL;cases ea;exact⟨vs,.inl (.inl q),rs⟩
  ·obtain⟨a',vs,ea,q,rs⟩:=r'.sqR;cases ea;exact⟨vs,q,rs⟩
 refine⟨fun d hd=>?_,fun hl=>⟨vs,q,by rw [rs.length];exact hl⟩⟩
 obtain⟨v,hv,rv⟩:=rs.get hd
 refine⟨⟨vs,v,q,hv⟩,fun x H2 ⟨e2,hy⟩=>?_⟩
 subst e2
 have:=hy vs q
 rw [hv] at this;cases this
 exact⟨s.ext,s,rv⟩
theorem Km{a:Addr}{xs:List D}(r:Rep K μ H (.ref a) (.tup xs)):DZ K μ H (Itt K a) xs:=fun μ' H' S' e s i=>by
 obtain⟨a',vs,ea,q,rs⟩:=(r.monoP e).sqT
 cases ea
 refine⟨fun d hd=>?_,fun hl=>⟨vs,q,by rw [rs.length];exact hl⟩⟩
 obtain⟨v,hv,rv⟩:=rs.get hd
 refine⟨⟨vs,v,q,hv⟩,fun x H2 ⟨e2,hy⟩=>?_⟩
 subst e2
 have:=hy vs q
 rw [hv] at this;cases this
 exact⟨s.ext,s,rv⟩
variable{tg iter:Expr}
noncomputable def bW(lo:Int)(n:Nat):List D:=(List.range n).map fun(i:Nat)=>D.int (lo+(i:Int))
theorem sj(lo:Int)(n i:Nat)(d:D)(h:(bW lo n)[i]?=some d):i<n/\d=.int (lo+(i:Int)):=by
 unfold bW at h
 rw [List.getElem?_map] at h
 cases q:(List.range n)[i]? with
 | none=>rw [q] at h;cases h
 | some j=>
  rw [q] at h;cases h
  obtain⟨h1,h2⟩:=List.getElem?_eq_some_iff.mp q
  simp at h1 h2
  exact⟨h1,by rw [h2]⟩
theorem tO(lo:Int)(n:Nat):DZ K μ H (Itr lo n) (bW lo n):=fun μ' H' S' e s i=>by
 refine⟨fun d hd=>?_,fun hl=>?_⟩
 ·obtain⟨h1,rfl⟩:=sj lo n i d hd
  refine⟨h1,fun x H2 ⟨e2,hy⟩=>?_⟩
  subst e2 hy
  exact⟨s.ext,s,.int _⟩
 ·have:(bW lo n).length=n:=by simp [bW]
  rw [this] at hl;exact hl
noncomputable def bQ(ms:MA):MA:=fun env S=>(ms env S).bind fun p=>match p.1 with | [.int j]=>if -(2 ^ 62)<=j/\j<2 ^ 62 then some (bW 0 j.toNat,p.2) else none | _=>none
noncomputable def dP(ms:MA):MA:=fun env S=>(ms env S).bind fun p=>match p.1 with | [.int i,.int j]=>if -(2 ^ 62)<=i/\i<2 ^ 62/\-(2 ^ 62)<=j/\j<2 ^ 62 then some (bW i (j - i).toNat,p.2) else none | _=>none
theorem Hw{a:Expr}{ms:MA}{p:Pos}(hm:X.mg "range" = none)(ha:DA X [a] ms)(hg:Gl X "range":=by rfl)(hs:starEach [a] X.env=[(false,eval a X.env)]:=by rfl):DI X tg (.Call (.Name "range" p) [a] [] pos) (bQ ms):=
 PI.imp (FW hg hm ha hs) fun σ H R ⟨μ,S,env,xs,S',hS,hE,hm,post⟩=>by
  obtain⟨⟨ds,S1⟩,h1,hm⟩:=Option.bind_eq_some_iff.mp hm
  refine⟨μ,S,env,ds,S1,hS,hE,h1,fun vs H1 μ1 e1 s1 r1=>?_⟩
  dsimp only at hm
  split at hm
  ·split at hm
   ·rename_i hb
    cases hm
    obtain⟨v,rfl,r⟩:=r1.one
    exact⟨_,by rw [r.int_inv],hb.1,hb.2,post _ H1 μ1 e1 s1 (tO 0 _)⟩
   ·cases hm
  ·cases hm
theorem Hv{a b:Expr}{ms:MA}{p:Pos}(hm:X.mg "range" = none)(ha:DA X [a,b] ms)(hg:Gl X "range":=by rfl)(hs:starEach [a,b] X.env=[(false,eval a X.env),(false,eval b X.env)]:=by rfl)(hs2:starEach [b] X.env=[(false,eval b X.env)]:=by rfl):DI X tg (.Call (.Name "range" p) [a,b] [] pos) (dP ms):=
 PI.imp (FV hg hm ha hs hs2) fun σ H R ⟨μ,S,env,xs,S',hS,hE,hm,post⟩=>by
  obtain⟨⟨ds,S1⟩,h1,hm⟩:=Option.bind_eq_some_iff.mp hm
  refine⟨μ,S,env,ds,S1,hS,hE,h1,fun vs H1 μ1 e1 s1 r1=>?_⟩
  dsimp only at hm
  split at hm
  ·split at hm
   ·rename_i hb
    cases hm
    obtain⟨v,w,rfl,r,r'⟩:=r1.two
    exact⟨_,_,by rw [r.int_inv,r'.int_inv],hb,post _ H1 μ1 e1 s1 (tO _ _)⟩
   ·cases hm
  ·cases hm
noncomputable def cE(g:MG)(body:MS):List D->bm->ac->Option oo
 | [],env,S=>some (.nx env S)
 | d::ds,env,S=>(g d env S).bind fun p=>(body p.1 p.2).bind fun o=>match o with
  | .nx e s=>cE g body ds e s
  | .ct e s=>cE g body ds e s
  | .bk e s=>some (.nx e s)
  | .rt d s=>some (.rt d s)
noncomputable def gY(mi:MA)(g:MG)(body:MS):MS:=fun env S=>(mi env S).bind fun p=>cE g body p.1 env p.2
theorem Lu{body:List Stmt}{mi:MA}{g:MG}{mb:MS}(hp:PassesOwn (model X.prog X.w) X.A X.env X.xe)(hc:X.calm=true)(hi:DI X tg iter mi)(hg:DG X tg g)(hb:vn X body mb)
  (hs:∀ x,foldedSetIterable iter X.env x=pure x:=by intro _;rfl):DS X (.For tg iter body [] pos) (gY mi g mb):=PS.imp (Jd hp hc hi hg hb hs) fun E σ H ⟨μ,S,env,o,hS,hE,hm,post⟩=>by
 obtain⟨⟨xs,S1⟩,h1,hm⟩:=Option.bind_eq_some_iff.mp hm
 refine⟨μ,S,env,xs,S1,hS,hE,h1,fun J H1 μ1 e1 s1 it=>?_⟩
 refine⟨fun i n σ H=>n=xs.length - i/\i<=xs.length/\∃ μ' S' env' o',Ext μ1 H1 μ' H/\SOk X.K μ' S' H/\EOk X.K μ' H σ env'/\cE g mb (xs.drop i) env' S'=some o'/\PostS X.K μ' H o' E,
  ⟨xs.length,by simp,Nat.zero_le _,μ1,S1,env,o,s1.ext,s1,hE.mono e1,by rw [List.drop_zero];exact hm,post.ext e1⟩,?_⟩
 rintro i n σ' H' ⟨rfl,hi,μ',S',env',o',e',s',r',hl,post'⟩
 have iti:=it μ' H' S' e'.toP s' i
 by_cases hlt:i<xs.length
 ·refine .inr ⟨(iti.1 xs[i] (List.getElem?_eq_getElem hlt)).1,fun σ2 H2=>∃ μ2 S2 env2 o2,Ext μ1 H1 μ2 H2/\SOk X.K μ2 S2 H2/\EOk X.K μ2 H2 σ2 env2/\cE g mb (xs.drop (i+1)) env2 S2=some o2/\PostS X.K μ2 H2 o2 E,
   fun σ2 H2 ⟨μ2,S2,env2,o2,q1,q2,q3,q4,q5⟩=>⟨xs.length - (i+1),by omega,rfl,hlt,μ2,S2,env2,o2,q1,q2,q3,q4,q5⟩,fun x H2 y=>?_⟩
  obtain⟨e2,s2,rx⟩:=(iti.1 xs[i] (List.getElem?_eq_getElem hlt)).2 x H2 y
  rw [List.drop_eq_getElem_cons hlt] at hl
  obtain⟨⟨env3,S3⟩,h3,hl⟩:=Option.bind_eq_some_iff.mp hl
  obtain⟨o4,h4,hl⟩:=Option.bind_eq_some_iff.mp hl
  refine⟨μ',S',env',xs[i],env3,S3,s2,r'.mono e2,rx,h3,fun σ3 H3 μ3 e3 s3 r3=>⟨μ3,S3,env3,o4,s3,r3,h4,?_⟩⟩
  have eT:Ext μ1 H1 μ3 H3:=(e'.trans e2).trans e3
  have pT:PostS X.K μ3 H3 o' E:=(post'.ext e2).ext e3
  cases o4 with
  | nx e5 s5=>exact fun σ6 H6 μ6 e6 s6 r6=>⟨μ6,s5,e5,o',eT.trans e6,s6,r6,hl,pT.ext e6⟩
  | ct e5 s5=>exact fun σ6 H6 μ6 e6 s6 r6=>⟨μ6,s5,e5,o',eT.trans e6,s6,r6,hl,pT.ext e6⟩
  | bk e5 s5=>cases hl;exact pT
  | rt d5 s5=>cases hl;exact pT
 ·have e:i=xs.length:=by omega
  subst e
  refine .inl ⟨iti.2 (Nat.le_refl _),?_⟩
  rw [List.drop_length] at hl
  cases hl
  exact post' σ' H' μ' s'.ext s' r'
noncomputable def ut(cap:List (Option Nat))(env:bm):bm:=cap.map fun o=>o.bind fun i=>(env[i]?).join
def Qj(X:Cx)(ifs:List Expr)(m:MT):Prop:=Pj X ifs (HV X.K m)
theorem Ox:Qj X [] (fun _ S=>some (true,S)):=fun pins s σ H Q I ⟨μ,S,env,b,S',hS,hE,hm,post⟩=>by cases hm;exact MN pins s σ H Q I (post H μ hS.ext hS)
theorem Ow{c:Expr}{t:MT}(h:DT X c t):Qj X [c] t:=MM h
noncomputable def dh(g:MG)(t:MT)(e:ME):List D->bm->ac->Option (List D×ac)
 | [],_,S=>some ([],S)
 | d::ds,env,S=>(g d env S).bind fun p=>(t p.1 p.2).bind fun b=>if b.1=true then (e p.1 b.2).bind fun q=>(dh g t e ds p.1 q.2).bind fun r=>some (q.1::r.1,r.2) else dh g t e ds p.1 b.2
noncomputable def bJ(mi:MA)(g:MG)(t:MT)(e:ME)(cap:List (Option Nat)):ME:=fun env S=>(mi env S).bind fun p=>if p.1.length<=sizeLine then (dh g t e p.1 (ut cap env) p.2).bind fun q=>some (.lst q.1,q.2) else none
theorem zm{mi:MA}{g:MG}{t:MT}{e:ME}{cap:List (Option Nat)}{σ:L2.St}{Q:VK}(h:tM K (bJ mi g t e cap) σ H Q):Iw (iM K mi) (tMG K g) (HV K t) (tM K e) cap σ H Q:=by
 obtain⟨μ,S,env,d,S',hS,hE,hm,post⟩:=h
 obtain⟨⟨xs,S1⟩,h1,hm⟩:=Option.bind_eq_some_iff.mp hm
 dsimp only at hm
 split at hm
 case isFalse=>cases hm
 rename_i hsz
 obtain⟨⟨ys,S2⟩,h2,hm⟩:=Option.bind_eq_some_iff.mp hm
 cases hm
 refine⟨μ,S,env,xs,S1,hS,hE,h1,fun J H1 μ1 e1 s1 it p hp=>?_⟩
 have hpn:=s1.notMem hp
 refine⟨fun i n σ' H'=>n=xs.length - i/\i<=xs.length/\∃ (cs:List Addr) (S':ac) (env':bm) (vs:List V) (zs rest:List D),ExtP μ1 H1 ⟨cs,p::μ1.fb⟩ H'/\SOk K ⟨cs,p::μ1.fb⟩ S' H'/\EOk K ⟨cs,p::μ1.fb⟩ H' σ' env'/\H' p=some (.lst vs) /\
   Reps K ⟨cs,p::μ1.fb⟩ H' vs zs/\dh g t e (xs.drop i) env' S'=some (rest,S2)/\ys=zs++rest/\vs.length<=i,⟨xs.length,by simp,Nat.zero_le _,μ1.cs,S1,ut cap env,[],[],ys,?_,s1.more hp,?_,bv,.nil,by rw [List.drop_zero];exact h2,rfl,Nat.le_refl _⟩,?_⟩
 ·exact⟨⟨[p],rfl,fun a z=>by rw [List.mem_singleton.mp z];exact hp⟩,⟨[],by simp,fun _ z=>by simp at z⟩,fun a o' n h=>by rw [bj (cq h hp)];exact h,fun a ha=>by
   by_cases z:a=p
   ·subst z;rw [bv];simp
   ·rw [bj z];exact s1.dom a ha⟩
 ·exact((hE.mono e1).block cap).more hp
 rintro i n σ' H' ⟨rfl,hi,cs,S',env',vs,zs,rest,eP,s',r',hpv,rz,hl,rfl,hvl⟩
 have iti:=it _ H' S' eP s' i
 by_cases hlt:i<xs.length
 ·refine .inr ⟨(iti.1 xs[i] (List.getElem?_eq_getElem hlt)).1,fun x H2 y=>?_⟩
  obtain⟨e2,s2,rx⟩:=(iti.1 xs[i] (List.getElem?_eq_getElem hlt)).2 x H2 y
  rw [List.drop_eq_getElem_cons hlt] at hl
  obtain⟨⟨env3,S3⟩,h3,hl⟩:=Option.bind_eq_some_iff.mp hl
  obtain⟨⟨b,S4⟩,h4,hl⟩:=Option.bind_eq_some_iff.mp hl
  refine⟨_,S',env',xs[i],env3,S3,s2,r'.mono e2,rx,h3,fun σ3 H3 μ3 e3 s3 r3=>⟨μ3,S3,env3,b,S4,s3,r3,h4,fun H4 μ4 e4 s4=>?_⟩⟩
  have eA:=(e2.trans e3).trans e4
  have pcs:p ∉ cs:=fun z=>s'.disj p List.mem_cons_self z
  cases b with
  | false=>
   rw [if_neg Bool.false_ne_true] at hl
   dsimp only
   rw [if_neg Bool.false_ne_true]
   obtain⟨cs4,fb4⟩:=μ4
   have hfb:fb4=p::μ1.fb:=eA.fb
   subst hfb
   exact⟨xs.length - (i+1),by omega,rfl,hlt,cs4,S4,env3,vs,zs,rest,eP.then eA,s4,r3.mono e4,(eA.keeps hpv pcs).1,rz.mono eA,hl,rfl,by omega⟩
  | true=>
   rw [if_pos rfl] at hl
   dsimp only
   rw [if_pos rfl]
   obtain⟨⟨dv,S5⟩,h5,hl⟩:=Option.bind_eq_some_iff.mp hl
   obtain⟨⟨rs,S6⟩,h6,hl⟩:=Option.bind_eq_some_iff.mp hl
   cases hl
   refine⟨μ4,S4,env3,dv,S5,s4,r3.mono e4,h5,fun v H5 μ5 e5 s5 r5=>?_⟩
   have eB:=eA.trans e5
   obtain⟨cs5,fb5⟩:=μ5
   have hfb:fb5=p::μ1.fb:=eB.fb
   subst hfb
   refine⟨vs,(eB.keeps hpv pcs).1,by omega,xs.length - (i+1),by omega,rfl,hlt,cs5,S5,env3,vs++[v],zs++[dv],rs,(eP.then eB).chg hp,s5.chg List.mem_cons_self,((r3.mono e4).mono e5).chg List.mem_cons_self,bv,Reps.chg List.mem_cons_self ((rz.mono eB).append (.cons r5 .nil)),h6,by simp,by rw [List.length_append,List.length_singleton];omega⟩
 ·have e:i=xs.length:=by omega
  subst e
  refine .inl ⟨iti.2 (Nat.le_refl _),?_⟩
  rw [List.drop_length] at hl
  cases hl
  have eF:Ext μ1 H1 ⟨cs,μ1.fb⟩ H':=⟨rfl,eP.pre,eP.keep,eP.dom⟩
  dsimp only at post
  rw [List.append_nil] at post
  exact post _ H' ⟨cs,μ1.fb⟩ (e1.trans eF) s'.less (.lst hpv ⟨fun z=>s'.disj p List.mem_cons_self z,hpn.2⟩ rz.less)
theorem OQ{elt:Expr}{ifs:List Expr}{scope:Scope}{N':List Str}{cap:List (Option Nat)}{mi:MA}{g:MG}{t:MT}{me:ME}
  (hc:X.calm=true) (B:BlockOk X N' scope cap) (hi:DI X tg iter mi) (hg:∀ C s H fp,DG (pB X N' scope C s H fp) tg g) (ht:∀ C s H fp,Qj (pB X N' scope C s H fp) ifs t) (he:∀ C s H fp,DE (pB X N' scope C s H fp) elt me)
  (hs:∀ x,foldedSetIterable iter X.env x=pure x:=by intro _;rfl):DE X (.ListComp elt [⟨tg,iter,ifs,0⟩] scope pos) (bJ mi g t me cap):=
 PE.imp (Ng (g:=tMG X.K g) (tt:=HV X.K t) (te:=tM X.K me) hc B hi hg ht he hs) fun _ _ _ h=>zm h
theorem Du{elt:Expr}{ifs:List Expr}{scope:Scope}{spos py:Pos}{N':List Str}{cap:List (Option Nat)}{mi:MA}{g:MG}{t:MT}{me:ME}{y:Str}{i:Nat}
  (hN:X.N.Nodup) (hy:X.N[i]?=some y) (hx:Mh X.env.scope y)
  (hc:X.calm=true) (B:BlockOk X N' scope cap) (hi:DI X tg iter mi) (hg:∀ C s H fp,DG (pB X N' scope C s H fp) tg g) (ht:∀ C s H fp,Qj (pB X N' scope C s H fp) ifs t) (he:∀ C s H fp,DE (pB X N' scope C s H fp) elt me)
  (hsw:swapsWith (.ListComp elt [⟨tg,iter,ifs,0⟩] scope pos) (some (.Name y py)) spos.line X.env=pure true:=by rfl)
  (hs:∀ x,foldedSetIterable iter X.env x=pure x:=by intro _;rfl) (hf:X.fn y=true\/X.env.scope.names.lookup y=some .local:=by first | exact .inl rfl | exact .inr rfl | assumption) :
  DS X (.Assign [.Name y py] (.ListComp elt [⟨tg,iter,ifs,0⟩] scope pos) spos) (aH (bJ mi g t me cap) (ah i)):=
 PS.imp (Ca (g:=tMG X.K g) (tt:=HV X.K t) (te:=tM X.K me) hN hy hx hc B hi hg ht he hsw hs hf) fun E σ H h=>by
  obtain⟨μ,S,env,o,hS,hE,hm,post⟩:=h
  obtain⟨⟨d,S1⟩,h1,hm⟩:=Option.bind_eq_some_iff.mp hm
  cases hm
  exact zm ⟨μ,S,env,d,S1,hS,hE,h1,fun v H1 μ1 e1 s1 r1=>post _ H1 μ1 e1 s1 ((hE.mono e1).set r1 i)⟩
end
end M
namespace M
open PySem PySem.Spec PyProof.Rows L2
section
variable{X:Cx}{K:PySem.W.Frag}{μ μ':Fp}{H H':Hp}{S:ac}{pos p2:Pos}{tg iter:Expr}{m:ME}
noncomputable def vj(N N':List Str)(kX kB:Str->Option NameKind):List (Option Nat)->List Str->Bool
 | [],[]=>true
 | none::r,_::s=>vj N N' kX kB r s
 | some i::r,y::s=>N[i]? == some y&&(kX y == some .cell||kX y == some .free)&&(kB y == some .cell||kB y == some .free)&&vj N N' kX kB r s
 | _,_=>false
theorem yO{N N':List Str}{kX kB:Str->Option NameKind}:∀ {cap:List (Option Nat)} {ys:List Str},vj N N' kX kB cap ys=true->cap.length=ys.length/\∀ (j i:Nat),cap[j]?=some (some i)->∃ y,ys[j]?=some y/\N[i]?=some y/\(kX y=some .cell\/kX y=some .free)/\(kB y=some .cell\/kB y=some .free)
 | [],[],_=>⟨rfl,fun j i e=>by simp at e⟩
 | none::r,y::s,h=>by
  obtain⟨h1,h2⟩:=yO (cap:=r) (ys:=s) h
  refine⟨by simp [h1],fun j i e=>?_⟩
  cases j with
  | zero=>simp at e
  | succ j=>simpa using h2 j i (by simpa using e)
 | some k::r,y::s,h=>by
  rw [vj,Bool.and_eq_true,Bool.and_eq_true,Bool.and_eq_true,Bool.or_eq_true,Bool.or_eq_true] at h
  obtain⟨h1,h2⟩:=yO (cap:=r) (ys:=s) h.2
  refine⟨by simp [h1],fun j i e=>?_⟩
  cases j with
  | zero=>
   simp at e;subst e
   refine⟨y,rfl,by simpa using h.1.1.1,?_,?_⟩
   ·exact h.1.1.2.imp (fun z=>by simpa using z) fun z=>by simpa using z
   ·exact h.1.2.imp (fun z=>by simpa using z) fun z=>by simpa using z
  | succ j=>simpa using h2 j i (by simpa using e)
 | [],_::_,h=>by simp [vj] at h
 | none::_,[],h=>by simp [vj] at h
 | some _::_,[],h=>by simp [vj] at h
theorem blk{N':List Str}{scope:Scope}{cap:List (Option Nat)}(nd:N'.Nodup)(k:scope.kind=.function:=by rfl)(nc:(scope.names.all fun x=>x.2 != .cell)=true:=by rfl)(nm:(scope.names.all fun x=>x.2 != .local||scope.names.lookup x.1 == some .local)=true:=by rfl)
  (fr:(scope.names.all fun x=>x.2 != .free||X.env.kindOf x.1 == some .cell||X.env.kindOf x.1 == some .free)=true:=by rfl)
  (cp:vj X.N N' X.env.kindOf (fun y=>(relabel scope X.env).names.lookup y) cap N'=true:=by rfl):BlockOk X N' scope cap:=by
 obtain⟨h1,h2⟩:=yO cp
 refine⟨k,fun x hx=>?_,fun x hx hl=>?_,fun x hx hf=>?_,nd,h1,fun j i e=>?_⟩
 ·have:=List.all_eq_true.mp nc x hx
  simpa using this
 ·have:=List.all_eq_true.mp nm x hx
  simpa [hl] using this
 ·have:=List.all_eq_true.mp fr x hx
  simpa [hf] using this
 ·obtain⟨y,a,b,c,d⟩:=h2 j i e
  exact⟨y,a,b,.inr c,c,d⟩
theorem QP{l:Expr}{tl:TE}(hl:PE X l tl):PI X tg l (fun σ H R=>tl σ H fun x H1=>∃ a,x=.ref a/\(((∃ xs,om X.K H1 a xs)/\R (Itl X.K a) H1)\/((∃ xs,lI X.K H1 a xs)/\R (Itt X.K a) H1))):=by
 intro pins s σ H R I h
 refine cZ (hl pins s σ H _ I h) fun v s1 ⟨x,H1,I1,r1,q1⟩=>?_
 obtain⟨a,e,⟨⟨xs,hq⟩,q⟩ | ⟨⟨xs,hq⟩,q⟩⟩:=q1
 ·subst e
  cases r1
  obtain⟨its,rv,p,hz⟩:=I1.list hq
  refine wpAny_pyIter_list p.isList ?_
  refine⟨s1.heap.objs.size,[s1.heap.objs.size],_,_,H1,rfl,I1.kept (t':=s1.toks) fun b o e=>Heap.get?_push_of_some _ e,vv a _,⟨_,Heap.get?_push_size _ rfl,rfl,rfl⟩,fun b hb=>?_,q⟩
  have e:b=s1.heap.objs.size:=by simpa using hb
  subst e
  exact I1.fpOk (Nat.le_refl _) (I1.hok.fresh (Nat.le_refl _))
 ·subst e
  cases r1
  obtain⟨its,rv,p,hz⟩:=I1.tuple hq
  refine wpAny_pyIter_tuple (show s1.heap.IsTuple a its.toArray from p) ?_
  refine⟨s1.heap.objs.size,[s1.heap.objs.size],_,_,H1,rfl,I1.kept (t':=s1.toks) fun b o e=>Heap.get?_push_of_some _ e,BF a _,⟨_,Heap.get?_push_size _ rfl,rfl,rfl⟩,fun b hb=>?_,q⟩
  have e:b=s1.heap.objs.size:=by simpa using hb
  subst e
  exact I1.fpOk (Nat.le_refl _) (I1.hok.fresh (Nat.le_refl _))
noncomputable def cY(m:ME):MA:=fun env S=>(m env S).bind fun p=>match p.1 with | .lst xs=>some (xs,p.2) | .rol xs=>some (xs,p.2) | .tup xs=>some (xs,p.2) | _=>none
theorem DF(h:DE X iter m):DI X tg iter (cY m):=PI.imp (QP h) fun σ H R ⟨μ,S,env,xs,S',hS,hE,hm,post⟩=>by
 obtain⟨⟨d,S1⟩,h1,hm⟩:=Option.bind_eq_some_iff.mp hm
 refine⟨μ,S,env,d,S1,hS,hE,h1,fun v H1 μ1 e1 s1 r1=>?_⟩
 cases d with
 | lst ys=>
  cases hm
  have r1':=r1
  obtain⟨a,vs,rfl,q,_,rs⟩:=r1.sqL
  exact⟨a,rfl,.inl ⟨⟨vs,.inl (.inl q)⟩,post _ H1 μ1 e1 s1 (we (.inl rfl) r1' rfl)⟩⟩
 | rol ys=>
  cases hm
  have r1':=r1
  obtain⟨a,vs,rfl,q,rs⟩:=r1.sqR
  exact⟨a,rfl,.inl ⟨⟨vs,q⟩,post _ H1 μ1 e1 s1 (we (.inr rfl) r1' rfl)⟩⟩
 | tup ys=>
  cases hm
  have r1':=r1
  obtain⟨a,vs,rfl,q,rs⟩:=r1.sqT
  exact⟨a,rfl,.inr ⟨⟨vs,q⟩,post _ H1 μ1 e1 s1 (Km r1')⟩⟩
 | _=>cases hm
end
noncomputable def aO(N:List Str)(m:MS)(n:Nat):List D->ac->Option (D×ac):=fun ds S=>if ds.length=n then (m (aA N ds) S).bind fun o=>match o with | .rt d S'=>some (d,S') | .nx _ S'=>some (.non,S') | _=>none else none
theorem vC{N:List Str}{m:MS}{n:Nat}{ds:List D}{S S':ac}{d:D}(h:aO N m n ds S=some (d,S')):Runs m (aA N ds) S d S':=by
 unfold aO at h
 split at h
 ·obtain⟨o,h1,h⟩:=Option.bind_eq_some_iff.mp h
  cases o with
  | rt d' S2=>cases h;exact .ret h1
  | nx e S2=>cases h;exact⟨_,[],h1,.inl rfl,.inr ⟨rfl,e,by rw [List.append_nil]⟩⟩
  | bk _ _=>cases h
  | ct _ _=>cases h
 ·cases h
structure bK(K:PySem.W.Frag)(mg:Str->Option Value)(x:Str)(st:Stmt):Prop where
 ex:∃ (a:Addr) (fd:FuncData),L2.Fun K x x st a fd/\mg x=some (.ref a)
def zd(x:Str)(st:Stmt)(ps:List Str):Prop:=∀ (kV doc pm:Value) (an:Option Addr) (cdv ct:Value) (us:List Value),us.length=ps.length->bindArgs (PySem.W.fnOf x x (iL st) (aI st) (ax st) .none kV doc pm an cdv ct) ⟨us,[]⟩=pure (ps.zip us)
theorem SX{P:Program}{w:World}{K:PySem.W.Frag}{mg:Str->Option Value}{base:Heap}{k:Nat}{x:Str}{st:Stmt}{N ps:List Str}{m:MS}
  (F:bK K mg x st) (Sc:aS N ps (ax st)) (hb:zd x st ps)
  (hbody:∀ (a:Addr) (cdv:Value) (A:Around) (outer:List PySem.Env) (s:Shared) (H:Hp) (E:XK),Room k (A.deeper (envOfC x (ax st) s.heap.objs.size a cdv)) ->
   vn (vi Fw P w K mg base N x (ax st) a cdv A outer s H E).nox (aI st) m) :
  Fn P w K mg base (k+1) x ps.length (aO N m ps.length):=by
 obtain⟨a,fd,F,hmg⟩:=F.ex
 exact PQ F Sc hmg (F.binds hb) fun cdv A outer s H E hr=>⟨m,hbody a cdv A outer s H E hr,fun ds S d S' hn hS hd h=>vC h⟩
theorem Fn.up{P:Program}{w:World}{K:PySem.W.Frag}{mg:Str->Option Value}{base:Heap}{k k':Nat}{x:Str}{n:Nat}{f:List D->ac->Option (D×ac)}(F:Fn P w K mg base k x n f)(h:k<=k'):Fn P w K mg base k' x n f:=by
 obtain⟨a,fd,ps,h1,h2,h3⟩:=F.ex
 exact⟨a,fd,ps,h1,h2.mono h,h3⟩
theorem RG{K:PySem.W.Frag}{f:List D->ac->Option (D×ac)}(h:∀ ns:List Int,ns.length<=63->∃ S',f [.rol (ns.map .int)] []=some (.bl true,S')){H:Hp}{a:Addr}{ns:List Int}{E:XK}(hl:ns.length<=63)(hS:om K H a (ns.map V.int)) :
  IG K 1 f [.ref a] H (fun v _=>v=.bl true) E:=by
 obtain⟨S',hf⟩:=h ns hl
 have hr:∀ l:List Int,Reps K ⟨[],[]⟩ H (l.map V.int) (l.map D.int):=fun l=>by
  induction l with
  | nil=>exact .nil
  | cons x l ih=>exact .cons (.int x) ih
 refine⟨⟨[],[]⟩,[],_,_,S',⟨List.nodup_nil,rfl,fun r a c h=>by simp at h,fun a h=>by simp at h,fun a h=>by simp at h⟩,.cons ?_ .nil,rfl,hf,fun v H' μ' e s r=>r.bl_inv⟩
 rcases hS with hS | hS
 ·exact .rol hS ⟨by simp,by simp⟩ (hr ns)
 ·exact .krol hS (hr ns)
end M
namespace M
open PySem PySem.Spec PyProof.Rows L2
noncomputable def Sy(_:ac)(x:D):Option D:=match x with | .int i=>some (.int (-i)) | _=>none
theorem Mk{X:Cx}:UnR X (unaryOp .USub) (rM1 X.K Sy):=Qq
noncomputable def bX:MT:=fun _ S=>some (true,S)
theorem Ln{X:Cx}:Qj X [] bX:=Ox
theorem RH{P:Program}{w:World}{K:PySem.W.Frag}{mg:Str->Option Value}{k:Nat}{st:Stmt}{N:List Str}{m:MS}{fa:Addr}(F:bK K mg "law" st)(hfa:mg "law" = some (.ref fa))(Sc:aS N ["_law_script"] (ax st))
  (hbt:∀ (kV doc pm:Value) (an:Option Addr) (cdv ct v:Value),bindArgs (PySem.W.fnOf "law" "law" (iL st) (aI st) (ax st) .none kV doc pm an cdv ct) ⟨[v],[]⟩=pure [(("_law_script":Str),v)])
  (hbody:∀ (base:Heap) (a:Addr) (cdv:Value) (A:Around) (outer:List PySem.Env) (s:Shared) (H:Hp) (E:XK),Room k (A.deeper (envOfC "law" (ax st) s.heap.objs.size a cdv)) ->
   vn (vi Fw P w K mg base N "law" (ax st) a cdv A outer s H E).nox (aI st) m) :
  ∃ fd:FuncData,(∀ (s:Shared) (v:Value),BindsTo s fd ⟨[v],[]⟩ [("_law_script",v)])/\∀ base:Heap,K.In base->base.Ns mainGlobals mg->FnOk P w K mg base Fw (k+1) fa fd ["_law_script"] (IG K 1 (aO N m 1)):=by
 obtain⟨a,fd,F,hmg⟩:=F.ex
 rw [hfa] at hmg
 have e:fa=a:=by cases hmg;rfl
 subst e
 refine⟨fd,fun s v=>?_,fun base _ _=>PP F Sc fun cdv A outer s H E hr=>⟨m,hbody base fa cdv A outer s H E hr,fun ds S d S' hn hS hd h=>vC h⟩⟩
 obtain⟨oc,od,kV,doc,pm,an,cdv,ct,osl,rfl,lk,hcd⟩:=F.ex
 exact .of_eq (hbt kV doc pm an cdv ct v)
end M
namespace HT
open PySem PyProof.Rows
open AutoSeq1 (wpAny_loadPart')
theorem Cn:fillsNumberSlot (.type "tuple") "mul" = pure false:=
 PySem.fillsNumberSlot_seq (id:="tuple.__mul__") (r:=some (.builtin "tuple.__rmul__"))
  F.slot_tuple_mul.lookup (by decide +kernel) F.slot_tuple_rmul.lookup (by decide +kernel)
theorem QF:seqRepeat? (.type "tuple")=pure (some (.builtin "tuple.__mul__")):=by
 unfold seqRepeat?
 rw [PySem.seqSlot_of (T:="tuple") (name:="__mul__") (id:="tuple.__mul__") F.slot_tuple_mul.lookup (by decide +kernel)]
 rw [PySem.seqSlot_of (T:="tuple") (name:="__rmul__") (id:="tuple.__rmul__") F.slot_tuple_rmul.lookup (by decide +kernel)]
 rfl
theorem IP(a:Int)(t:Tok)(l:Addr)(items:Array Value)(n:Nat)(dd:Option Addr)(sl:Array (Option Value)) :
  Meets (Builtin.«int.__rmul__» ⟨[.int a t,.ref l],[]⟩) (fun _ R s=>s.heap.get? l=some ⟨.type "tuple",dd,.seq items n,sl⟩/\R (.ok (.ret Value.notImplemented)) s):=
 .of_wp fun prog w A R s h=>by
  obtain⟨hp,g,d,tk,os⟩:=s
  obtain⟨hl,h⟩:=h
  wp_walk
  exact⟨_,rfl,h⟩
theorem mulT0(l:Addr)(items:Array Value)(n:Nat)(k:Int)(t:Tok)(dd:Option Addr)(sl:Array (Option Value))(h1:¬ (decide (k < -(2 ^ 63))||decide (k≥2 ^ 63))=true)(hc:(items.isEmpty||k == 1)=true) :
  Meets (Builtin.«tuple.__mul__» ⟨[.ref l,.int k t],[]⟩) (fun _ R s=>s.heap.get? l=some ⟨.type "tuple",dd,.seq items n,sl⟩/\R (.ok (.ret (.ref l))) s):=
 .of_wp fun prog w A R s h=>by
  obtain⟨hp,g,d,tk,os⟩:=s
  obtain⟨hl,h⟩:=h
  have f1:=AutoSeq1.idx_int
  have f2:=AutoSeq1.sub_tuple_tuple
  wp_walk using wpAny_loadPart' hl
  rw [if_neg h1]
  wp_walk using wpAny_loadPart' hl
  exact⟨_,rfl,h⟩
theorem mulT1(l:Addr)(items:Array Value)(n:Nat)(k:Int)(t:Tok)(dd:Option Addr)(sl:Array (Option Value))(h1:¬ (decide (k < -(2 ^ 63))||decide (k≥2 ^ 63))=true)(hc:¬ (items.isEmpty||k == 1)=true)(hk:(decide (k<=0)||items.isEmpty)=true) :
  Meets (Builtin.«tuple.__mul__» ⟨[.ref l,.int k t],[]⟩) (fun _ R s=>s.heap.get? l=some ⟨.type "tuple",dd,.seq items n,sl⟩/\R (.ok (.ret (.ref s.heap.objs.size))) { s with heap:=s.heap.push { cls:=.type "tuple",data:=.seq #[] },toks:=s.toks }):=
 .of_wp fun prog w A R s h=>by
  obtain⟨hp,g,d,tk,os⟩:=s
  obtain⟨hl,h⟩:=h
  have f1:=AutoSeq1.idx_int
  have f2:=AutoSeq1.sub_tuple_tuple
  wp_walk using wpAny_loadPart' hl
  rw [if_neg h1]
  wp_walk using wpAny_loadPart' hl
  exact⟨_,rfl,h⟩
theorem mulT2(l:Addr)(items:Array Value)(n:Nat)(k:Int)(t:Tok)(dd:Option Addr)(sl:Array (Option Value))(h1:¬ (decide (k < -(2 ^ 63))||decide (k≥2 ^ 63))=true)(hc:¬ (items.isEmpty||k == 1)=true)(hk:¬ (decide (k<=0)||items.isEmpty)=true)
  (hb:¬ ((items.size:Int) * k>(2 ^ 63 - 1) / 8)) (hm:¬ Builtin.Tuple.tupleTooMany ((items.size:Int) * k)=true) (hz:(List.foldl (fun x1 x2=>x1++x2) #[] (List.replicate k.toNat items)).size<=sizeLine) :
  Meets (Builtin.«tuple.__mul__» ⟨[.ref l,.int k t],[]⟩) (fun _ R s=>s.heap.get? l=some ⟨.type "tuple",dd,.seq items n,sl⟩/\R (.ok (.ret (.ref s.heap.objs.size))) { s with heap:=s.heap.push { cls:=.type "tuple",data:=.seq (List.foldl (fun x1 x2=>x1++x2) #[] (List.replicate k.toNat items)) },toks:=s.toks }):=
 .of_wp fun prog w A R s h=>by
  obtain⟨hp,g,d,tk,os⟩:=s
  obtain⟨hl,h⟩:=h
  have f1:=AutoSeq1.idx_int
  have f2:=AutoSeq1.sub_tuple_tuple
  wp_walk using wpAny_loadPart' hl
  rw [if_neg h1]
  wp_walk using wpAny_loadPart' hl
  rw [if_neg hb]
  wp_walk using wpAny_loadPart' hl
  exact⟨_,rfl,h⟩
end HT
namespace L2
open PySem PySem.Spec PyProof.Rows
section
variable{X:Cx}
theorem vrep{xs:List V}{us:List Value}(h:Vals xs us):∀ k:Nat,Vals (List.replicate k xs).flatten (List.replicate k us).flatten
 | 0=>.nil
 | k+1=>by rw [List.replicate_succ,List.replicate_succ,List.flatten_cons,List.flatten_cons];exact h.append (vrep h k)
theorem frep(its:List Value):∀ (m:Nat) (acc:List Value),List.foldl (fun x1 x2=>x1++x2) acc.toArray (List.replicate m its.toArray)=(acc++(List.replicate m its).flatten).toArray
 | 0,acc=>by simp
 | m+1,acc=>by
  rw [List.replicate_succ,List.foldl_cons,List.append_toArray,frep its m (acc++its),List.replicate_succ,List.flatten_cons,List.append_assoc]
noncomputable def rRepT(K:PySem.W.Frag):R2:=fun x y H Q=>∃ a k xs,x=.ref a/\y=.int k/\lI K H a xs/\-(2 ^ 62)<=k/\k<2 ^ 62/\xs.length * k.toNat<=sizeLine /\
 ((xs=[]\/k=1)->Q (.ref a) H)/\((xs≠[]/\k≠1)->∀ p,H p=none->Q (.ref p) (upd H p (.tup (List.replicate k.toNat xs).flatten)))
theorem Np:OpR X (binaryOp .Mult) (rRepT X.K):=by
 intro pins s σ H x y v u Q I rx ry h
 obtain⟨l,k,xs,rfl,rfl,hq,h1,h2,hz,q1,q2⟩:=h
 cases rx
 obtain⟨t,rfl⟩:=ry
 obtain⟨its,r,hT,hzz⟩:=I.tuple hq
 obtain⟨⟨cls,dd,data,sl⟩,e,hc,n,hd⟩:=id hT
 simp only at hc hd
 subst hc hd
 have hlen:xs.length=its.length:=r.length
 have g1:¬ (decide (k < -(2 ^ 63))||decide (k≥2 ^ 63))=true:=by simp;omega
 have road:∀ {S:PySem.Spec},Meets (Builtin.«tuple.__mul__» ⟨[.ref l,.int k t],[]⟩) S->S X.A (wants (EP X pins σ Q) X.xe) s->wpAny (model X.prog X.w) X.A (binaryOp .Mult (.ref l) (.int k t)) (EP X pins σ Q) X.xe s:=fun M hS=>
  wpAny_binaryOp_repeat_ref (T:="tuple") (U:="int") (by decide) ⟨_,e,rfl⟩ (fun s'=>typeIs_int s' k t) HT.Cn F.fills_int_mul F.slot_int_rmul HT.QF F.slot_int_index.lookup
   (call_meets F.slot_int_rmul (typeIs_int s k t) F.entry_int_rmul (F.args_int_rmul_2 _ _) (HT.IP k t l its.toArray n dd sl)
    ⟨e,rfl,⟨_,e,rfl⟩,call_meets F.slot_tuple_mul ⟨_,e,rfl⟩ F.entry_tuple_mul (F.args_tuple_mul_2 _ _) M hS⟩)
 by_cases hs:xs=[]\/k=1
 ·have hcc:(its.toArray.isEmpty||k == 1)=true:=by
   rcases hs with rfl | rfl
   ·cases r;rfl
   ·simp
  exact road (HT.mulT0 l its.toArray n k t dd sl g1 hcc) ⟨e,.ref l,H,I,rfl,q1 hs⟩
 ·have hx:xs≠[]:=fun z=>hs (.inl z)
  have hk1:k≠1:=fun z=>hs (.inr z)
  have hi:its≠[]:=fun z=>by subst z;cases r;exact hx rfl
  have hcc:¬ (its.toArray.isEmpty||k == 1)=true:=by simp [hi,hk1]
  by_cases hk:k<=0
  ·have hk':(decide (k<=0)||its.toArray.isEmpty)=true:=by simp [hk]
   have k0:k.toNat=0:=by omega
   refine road (HT.mulT1 l its.toArray n k t dd sl g1 hcc hk') ⟨e,.ref _,_,I.laid (o:=.tup []) (fun _ _ q=>Heap.get?_push_of_some _ q) (Nat.le_refl _) ⟨by simp,[],.nil,⟨_,Heap.get?_push_size _ rfl,rfl,⟨0,rfl⟩,rfl⟩⟩,rfl,?_⟩
   have:=q2 ⟨hx,hk1⟩ s.heap.objs.size I.fresh
   rw [k0] at this
   exact this
  ·have hk':¬ (decide (k<=0)||its.toArray.isEmpty)=true:=by simp [hi];omega
   have km:(k.toNat:Int)=k:=by omega
   have hpr:((its.length:Int) * k)<=sizeLine:=by rw [<- km,<- hlen];exact_mod_cast hz
   have hsl:((sizeLine:Nat):Int)<=(2 ^ 63 - 1) / 8:=by decide
   have hf:=frep its k.toNat []
   rw [List.nil_append] at hf
   have hf':List.foldl (fun x1 x2=>x1++x2) #[] (List.replicate k.toNat its.toArray)=(List.replicate k.toNat its).flatten.toArray:=hf
   have hl2:(List.replicate k.toNat its).flatten.length<=sizeLine:=by rw [yi,<- hlen,Nat.mul_comm];exact hz
   refine road (HT.mulT2 l its.toArray n k t dd sl g1 hcc hk' (by rw [List.size_toArray];omega) (by unfold Builtin.Tuple.tupleTooMany;rw [List.size_toArray];simp;omega) (by rw [hf',List.size_toArray];exact hl2)) ⟨e,?_⟩
   rw [hf']
   exact⟨.ref _,_,I.laid (o:=.tup (List.replicate k.toNat xs).flatten) (fun _ _ q=>Heap.get?_push_of_some _ q) (Nat.le_refl _) ⟨by rw [yi,Nat.mul_comm];exact hz,(List.replicate k.toNat its).flatten,vrep r _,⟨_,Heap.get?_push_size _ rfl,rfl,⟨0,rfl⟩,rfl⟩⟩,rfl,q2 ⟨hx,hk1⟩ _ I.fresh⟩
end
end L2
namespace L2
open PySem PySem.Spec PyProof.Rows
section
variable{X:Cx}
def Si(n:Nat)(i:Int):Nat:=if i<0 then (i+(n:Int)).toNat else min i.toNat n
noncomputable def jX{α:Type}(xs:List α)(i:Int)(y:α):List α:=xs.take (Si xs.length i)++y::xs.drop (Si xs.length i)
def MC:V->List V->Hp->VK->Prop:=fun x vs H Q=>∃ l xs i y,x=.ref l/\vs=[.int i,y]/\H l=some (.lst xs)/\xs.length<sizeLine/\-(2 ^ 62)<=i/\i<2 ^ 62/\Q .non (upd H l (.lst (jX xs i y)))
theorem Gf:MtM X "list.insert" MC:=by
 intro pins s σ H x vs v us Q I rx rv h
 obtain⟨l,xs,i,y,rfl,rfl,hH,hz,h1,h2,q⟩:=h
 cases rx
 obtain⟨u1,u,rfl,⟨t,rfl⟩,ru⟩:=rv.two
 obtain⟨z,its,n,r,hl,e⟩:=I.lstM hH
 have hfit:¬ (!Builtin.List.listFitsIndex i)=true:=by
  rw [fitsIndex_both (by omega) (by omega)];exact Bool.false_ne_true
 refine call_meets F.slot_list_insert ⟨_,e,rfl⟩ F.entry_list_insert (F.args_list_insert_3 _ _ _) (AutoListH.list_insert_list_int_val_1 l its.toArray n i t u hfit (by rw [List.size_toArray];omega)) ⟨e,?_⟩
 refine⟨.non,_,I.lset (its':=jX its i u) hH e ?_ (ys:=jX xs i y) ?_ ?_,rfl,q⟩
 ·unfold jX Si
  simp
  rw [List.take_of_length_le (by rw [List.length_drop];exact Nat.le_refl _)]
 ·unfold jX
  rw [hl]
  exact(r.take _).append (.cons ru (r.drop _))
 ·unfold jX
  rw [List.length_append,List.length_cons,List.length_take,List.length_drop]
  omega
end
end L2
namespace M
open PySem PySem.Spec PyProof.Rows L2
section
variable{X:Cx}{K:PySem.W.Frag}{μ μ':Fp}{H H':Hp}{S:ac}
noncomputable def cH(S:ac)(x y:D):Option D:=match x,y with
 | .tup xs,.int k=>if -(2 ^ 62)<=k/\k<2 ^ 62/\xs.length * k.toNat<=sizeLine then some (.tup (List.replicate k.toNat xs).flatten) else none
 | .lst xs,.int k=>if -(2 ^ 62)<=k/\k<2 ^ 62/\xs.length * k.toNat<=sizeLine then some (.lst (List.replicate k.toNat xs).flatten) else none
 | x,y=>SA S x y
theorem flat1{α:Type}(xs:List α):(List.replicate 1 xs).flatten=xs:=by simp
theorem Nu:OpR X (binaryOp .Mult) (nq X.K cH):=OpR.imp (OpR.or Ro (OpR.or Np Rf)) fun x y H Q ⟨μ,S,dx,dy,dz,hS,h1,h2,h3,post⟩=>by
 unfold cH at h3
 split at h3
 ·rename_i xs k
  split at h3
  ·rename_i hk
   cases h3
   obtain⟨a,vs,rfl,q,r⟩:=h1.sqT
   have h1':=h1
   refine .inr (.inl ⟨a,k,vs,rfl,h2.int_inv,q,hk.1,hk.2.1,by rw [r.length];exact hk.2.2,fun hs=>?_,fun _ p hp=>post.tup hS hp (Reps.flat _ r)⟩)
   have e:(List.replicate k.toNat xs).flatten=xs:=by
    rcases hs with rfl | rfl
    ·cases r;simp
    ·exact flat1 xs
   rw [e] at post
   exact post.here hS h1'
  ·cases h3
 ·rename_i xs k
  split at h3
  ·rename_i hk
   cases h3
   obtain⟨a,vs,rfl,q,n,r⟩:=h1.sqL
   exact .inr (.inr ⟨a,k,vs,rfl,h2.int_inv,q,by omega,by omega,by rw [r.length];exact hk.2.2,fun p hp=>post.lst hS hp (Reps.flat _ r)⟩)
  ·cases h3
 ·exact .inl ⟨μ,S,dx,dy,dz,hS,h1,h2,h3,post⟩
noncomputable abbrev MF:=D->List D->ac->Option (D×ac)
inductive Mg(K:PySem.W.Frag)(f:MF)(x:V)(vs:List V)(H:Hp)(Q:VK):Prop
 | mk (μ:Fp) (S:ac) (dx:D) (ds:List D) (d:D) (S':ac) (hS:SOk K μ S H) (h1:Rep K μ H x dx) (h2:Reps K μ H vs ds) (h3:f dx ds S=some (d,S')) (post:Post K μ H S' d Q)
theorem MtR.imp{id:String}{r r':V->List V->Hp->VK->Prop}(h:MtR X id r)(i:∀ x xs H Q,r' x xs H Q->r x xs H Q):MtR X id r':=fun pins s σ H x xs v us Q I rx rv q=>h pins s σ H x xs v us Q I rx rv (i x xs H Q q)
noncomputable def dR:MF:=fun o ds S=>match o,ds with
 | .ref r,[y]=>match S[r]? with | some (.lst xs)=>if xs.length<sizeLine then some (.non,S.set r (.lst (xs++[y]))) else none | _=>none
 | _,_=>none
noncomputable def iK:MF:=fun o ds S=>match o,ds with
 | .ref r,[.int i,y]=>match S[r]? with | some (.lst xs)=>if xs.length<sizeLine/\-(2 ^ 62)<=i/\i<2 ^ 62 then some (.non,S.set r (.lst (jX xs i y))) else none | _=>none
 | _,_=>none
noncomputable def uh:MF:=fun o ds S=>match ds with
 | [x]=>(gN S o).bind fun ys=>if cB 40 x=true/\ys.all (cB 39)=true then some (.int (ys.countP fun d=>jC d x),S) else none
 | _=>none
theorem Gi:MtR X "list.append" (Mg X.K dR):=MtR.imp vI fun x vs H Q ⟨μ,S,dx,ds,d,S',hS,r1,r2,h,post⟩=>by
 unfold dR at h
 split at h
 ·rename_i r y
  obtain⟨v,rfl,rv⟩:=r2.one
  cases q:S[r]? with
  | none=>rw [q] at h;cases h
  | some c=>
   rw [q] at h
   cases c with
   | dct _ _=>cases h
   | lst xs=>
    dsimp only at h
    split at h
    ·rename_i hz
     cases h
     cases r1 with
     | @ref a _ h'=>
      obtain⟨ws,hw,rw'⟩:=hS.cell r a _ h' q
      obtain⟨e,s'⟩:=hS.write h' hw (rw'.append (.cons rv .nil))
      exact⟨a,ws,v,rfl,rfl,hw,by rw [rw'.length];exact hz,post _ _ μ e s' .non⟩
    ·cases h
 ·cases h
theorem Kp{vs:List V}{ds:List D}{v:V}{d:D}{i:Int}(r:Reps K μ H vs ds)(q:Rep K μ H v d):Reps K μ H (jX vs i v) (jX ds i d):=by
 unfold jX;rw [r.length]
 exact(r.take _).append (.cons q (r.drop _))
theorem Gg:MtR X "list.insert" (Mg X.K iK):=MtR.imp Gf fun x vs H Q ⟨μ,S,dx,ds,d,S',hS,r1,r2,h,post⟩=>by
 unfold iK at h
 split at h
 ·rename_i r i y
  obtain⟨v,w,rfl,rv,rw0⟩:=r2.two
  cases q:S[r]? with
  | none=>rw [q] at h;cases h
  | some c=>
   rw [q] at h
   cases c with
   | dct _ _=>cases h
   | lst xs=>
    dsimp only at h
    split at h
    ·rename_i hz
     cases h
     cases r1 with
     | @ref a _ h'=>
      obtain⟨ws,hw,rw'⟩:=hS.cell r a _ h' q
      obtain⟨e,s'⟩:=hS.write h' hw (Kp (i:=i) rw' rw0)
      exact⟨a,ws,i,w,rfl,by rw [rv.int_inv],hw,by rw [rw'.length];exact hz.1,hz.2.1,hz.2.2,post _ _ μ e s' .non⟩
    ·cases h
 ·cases h
theorem mF{pins:List (Addr×Obj)}{σ:L2.St}{s:Shared}(I:Inv X pins σ H s){x:D}:∀ {vs:List V} {us:List Value} {ds:List D},Vals vs us->Reps X.K μ H vs ds->(∀ d∈ds,cB 39 d=true) ->
  us.countP (ee X.K μ H x)=ds.countP fun d=>jC d x
 | _,_,_,.nil,.nil,_=>rfl
 | _,_,_,.cons rv tv,.cons r t,ok=>by
  rw [List.countP_cons,List.countP_cons,pj I rv r (ok _ List.mem_cons_self),mF I tv t fun d m=>ok d (List.mem_cons_of_mem _ m)]
noncomputable def qU(S:ac):D->Bool
 | .lst _=>true
 | .rol _=>true
 | .ref r=>match S[r]? with | some (.lst _)=>true | _=>false
 | _=>false
theorem oS{v:V}{d:D}(hS:SOk K μ S H)(r:Rep K μ H v d)(h:qU S d=true):∃ a vs ds,v=.ref a/\om K H a vs/\gN S d=some ds/\Reps K μ H vs ds:=by
 cases r with
 | lst h' n r=>exact⟨_,_,_,rfl,.inl (.inl h'),rfl,r⟩
 | rol h' n r=>exact⟨_,_,_,rfl,.inl h',rfl,r⟩
 | krol h' r=>exact⟨_,_,_,rfl,.inr h',rfl,r⟩
 | @ref a i h'=>
  simp only [qU] at h
  cases q:S[i]? with
  | none=>rw [q] at h;cases h
  | some c=>
   rw [q] at h
   cases c with
   | dct _ _=>cases h
   | lst xs=>
    obtain⟨vs,e,r⟩:=hS.cell i a _ h' q
    exact⟨a,vs,xs,rfl,.inl (.inl e),by simp only [gN,q],r⟩
 | _=>cases h
noncomputable def mX:MF:=fun o ds S=>if qU S o=true then uh o ds S else none
theorem zW(hu:X.A.units+64<cLine):MtR X "list.count" (Mg X.K mX):=by
 intro pins s σ H x vs v us Q I rx rv h
 obtain⟨μ,S,dx,ds,d,S',hS,r1,r2,h,post⟩:=h
 unfold mX at h
 split at h
 ·rename_i hl
  unfold uh at h
  split at h
  ·rename_i y
   obtain⟨a,ws,es,rfl,hq,hse,re⟩:=oS hS r1 hl
   rw [hse] at h
   dsimp only [Option.bind_some] at h
   split at h
   ·rename_i hk
    cases h
    cases rx
    obtain⟨w,rfl,rw0⟩:=r2.one
    obtain⟨u,rfl,ru⟩:=rv.one
    obtain⟨its,rvs,⟨⟨cls,dd,data,sl⟩,n,e,hc,hdd,hd⟩,hz⟩:=I.list hq
    simp only at hc hdd hd
    subst hc hdd hd
    have ok:=List.all_eq_true.mp hk.2
    refine call_meets F.slot_list_count ⟨_,e,rfl⟩ F.entry_list_count (F.args_list_count_2 _ _) (SeqAt.list_countAt a its.toArray n none sl u (ee X.K μ H y)) ⟨e,fun w' hw'=>?_,?_⟩
    ·exact fX I (by show X.A.units+1+40<cLine;omega) ru rw0 hk.1 rvs re ok w' (by simpa using hw')
    ·refine⟨.int _,H,I.tok _,⟨_,rfl⟩,?_⟩
     rw [mF I rvs re ok]
     exact post.here hS (.int _)
   ·cases h
  ·cases h
 ·cases h
noncomputable def fY(f:MF)(o:ME)(ms:MA):ME:=fun env S=>(o env S).bind fun p=>if qU p.2 p.1=true then (ms env p.2).bind fun q=>f p.1 q.1 q.2 else none
theorem Fk{o e:Expr}{es:List Expr}{mo:ME}{ms:MA}{f:MF}{name:Str}{id:String}{apos cpos:Pos}(slot:Slot "list" name id)(hty:typeOf (.builtin id)=pure (.type "method_descriptor"))(hm:MtR X id (Mg X.K f))(ho:DE X o mo)(ha:DA X (e::es) ms)
  (hbase:attributeBase o name X.env (eval o X.env)=eval o X.env)
  (hfew:((backTo cpos (starEach (e::es) X.env)).all (fun x=>!x.1)&&(backToKw cpos (keywordEach [] X.env)).all (fun x=>x.1.isSome)&&decide ((e::es).length+([]:List Keyword).length+(if ([]:List Keyword).isEmpty then 0 else 1)<30))=true)
  (hline:(apos.endLine == cpos.line)=true) (hs:starEach (e::es) X.env=(false,eval e X.env)::starEach es X.env) (hpl:(backTo cpos (starEach es X.env)).any (·.1)=false) :
  DE X (.Call (.Attribute o name apos) (e::es) [] cpos) (fY f mo ms):=
 PE.imp (pe_bm F.plainAttrs_list slot hty hm ho ha hbase hfew hline hs hpl) fun σ H Q ⟨μ,S,env,d,S',hS,hE,h,post⟩=>by
  obtain⟨⟨x,S1⟩,h1,h⟩:=Option.bind_eq_some_iff.mp h
  dsimp only at h
  split at h
  ·rename_i hl
   obtain⟨⟨xs,S2⟩,h2,h⟩:=Option.bind_eq_some_iff.mp h
   refine⟨μ,S,env,x,S1,hS,hE,h1,fun v H1 μ1 e1 s1 r1=>⟨?_,μ1,S1,env,xs,S2,s1,hE.mono e1,h2,fun vs H2 μ2 e2 s2 r2=>⟨μ2,S2,x,xs,d,S',s2,r1.mono e2,r2,h,(post.ext e1).ext e2⟩⟩⟩
   obtain⟨a,ws,es,rfl,hq,_,_⟩:=oS s1 r1 hl
   exact .inl ⟨rfl,ws,hq⟩
  ·cases h
end
end M
namespace HT
open PySem PyProof.Rows
open AutoSeq1 (wpAny_loadPart')
section
variable{prog:Program}{w:World}{A:Around}{E:Value->Shared->Prop}{s:Shared}
theorem Dw{it t:Addr}{i:Nat}{items:Array Value}{x:Value}{Q:Value->Shared->Prop}(hit:s.heap.IsTupleIter it t i)(ht:s.heap.IsTuple t items)(hx:items[i]?=some x)
  (hQ:∀ h',h'.IsTupleIter it t (i+1)->Heap.SameBut it s.heap h'->Q x { s with heap:=h' }):wpAny (model prog w) A (Builtin.SmallTypes.nextOf (.ref it)) Q E s:=by
 obtain⟨o,ho,hc,hd⟩:=id hit;obtain⟨ol,hol,_,nl,hdl⟩:=ht
 unfold Builtin.SmallTypes.nextOf
 refine wpAny_bind (wpAny_callSpecial?_slot (name:=Str.ofString "__next__") hit.typeIs F.slot_tuple_iterator_next (wpAny_call_entry F.slot_tuple_iterator_next hit.typeIs F.entry_tuple_iterator_next ?_ (F.args_tuple_iterator_next_1 _)))
 show wpAny _ _ (field (.ref it) 0 >>= _) _ _ s;refine wpAny_bind (wpAny_field ho hd (x:=.ref t) rfl ?_)
 show wpAny _ _ (if (Value.ref t == Value.none)=true then _ else _) _ _ s;rw [if_neg (show ¬ ((Value.ref t == Value.none)=true) from Bool.false_ne_true)]
 show wpAny _ _ (field (.ref it) 1 >>= _) _ _ s;refine wpAny_bind (wpAny_field ho hd (x:=.int i 0) rfl ?_)
 show wpAny _ _ (seqItems? (.ref t) >>= _) _ _ s;refine wpAny_bind (wpAny_seqItems hol hdl ?_);simp only [Int.toNat_natCast,hx]
 refine wpAny_bind (wpAny_setField ho hd (by simp) (wpAny_pure ⟨x,rfl,wpAny_pure (hQ _ ⟨_,Heap.get?_update_self _ ho (Obj.isFreed_of_fields (Obj.data_mapFields hd _)),(Obj.cls_mapFields ..).trans hc,?_⟩ (Heap.SameBut.update ..))⟩))
 rw [Obj.data_mapFields hd];simp [rawInt]
theorem qc{it t:Addr}{i:Nat}{items:Array Value}{Q:Value->Shared->Prop}(hh:A.handled=none)(hit:s.heap.IsTupleIter it t i)(ht:s.heap.IsTuple t items)(hx:items[i]?=none)
  (hE:∀ h' e,Heap.ExtBut it s.heap h'->(∃ o,h'.get? e=some o/\o.cls=.type "StopIteration")->E (.ref e) { s with heap:=h' }):wpAny (model prog w) A (Builtin.SmallTypes.nextOf (.ref it)) Q E s:=by
 obtain⟨o,ho,hc,hd⟩:=id hit;obtain⟨ol,hol,_,nl,hdl⟩:=ht
 unfold Builtin.SmallTypes.nextOf
 refine wpAny_bind (wpAny_callSpecial?_slot (name:=Str.ofString "__next__") hit.typeIs F.slot_tuple_iterator_next (wpAny_call_entry F.slot_tuple_iterator_next hit.typeIs F.entry_tuple_iterator_next ?_ (F.args_tuple_iterator_next_1 _)))
 show wpAny _ _ (field (.ref it) 0 >>= _) _ _ s;refine wpAny_bind (wpAny_field ho hd (x:=.ref t) rfl ?_)
 show wpAny _ _ (if (Value.ref t == Value.none)=true then _ else _) _ _ s;rw [if_neg (show ¬ ((Value.ref t == Value.none)=true) from Bool.false_ne_true)]
 show wpAny _ _ (field (.ref it) 1 >>= _) _ _ s;refine wpAny_bind (wpAny_field ho hd (x:=.int i 0) rfl ?_)
 show wpAny _ _ (seqItems? (.ref t) >>= _) _ _ s;refine wpAny_bind (wpAny_seqItems hol hdl ?_);simp only [Int.toNat_natCast,hx]
 refine wpAny_bind (wpAny_rule (wpAny_bind (wpAny_setField ho hd (by simp) ?_)));show wpAny _ _ (newExc (.type "StopIteration") [] >>= _) _ _ _
 refine wpAny_bind ?_;simp only [newExc,newTuple];refine wpAny_bind (wpAny_newObj_type ?_ (by size_fits))
 refine wpAny_bind (m:=firstArgMember _ _) (wpAny_of_eq (a:=Value.none) (by first | rfl | (simp only [firstArgMember];rfl)) (wpAny_newObj_type ?_ (by size_fits)))
 simp only [raiseNew];refine wpAny_bind (wpAny_handled ?_);(first | rw [show A.in1.handled=none from hh] | rw [hh])
 refine wpAny_bind (wpAny_pure (wpAny_throw (hE _ _ (((Heap.SameBut.update ..).extBut.push _).push _) ⟨_,Heap.get?_push_size _ rfl,rfl⟩)))
end
theorem uj{prog:Program}{w:World}{A:Around}(hh:A.handled=none)(it t:Addr)(hne:t≠it)(items:Array Value) :
  Draws prog w A it [it,t] items.size (fun i v=>items[i]?=some v) (fun i h=>h.IsTupleIter it t i/\h.IsTuple t items) where
 live:=fun _ _ st=>by obtain⟨o,ho,_⟩:=st.1;exact⟨o,ho⟩
 frame:=fun _ _ _ st hk=>by
  obtain⟨⟨o,ho,r⟩,⟨o2,ho2,r2⟩⟩:=st
  exact⟨⟨o,hk it (by simp) o ho,r⟩,⟨o2,hk t (by simp) o2 ho2,r2⟩⟩
 item:=fun i s Q E hi st hQ=>Dw st.1 st.2 (x:=items[i]) (by simp [hi]) fun h' hit' hs'=>hQ _ h' s.toks (by simp [hi]) ⟨hit',st.2.extBut hs'.extBut hne⟩ hs'
 done:=fun s Q E st hE=>qc hh st.1 st.2 (by simp) hE
theorem Hm(l:Addr)(items:Array Value)(n:Nat)(dct:Option Addr)(sl:Array (Option Value)) :
  Meets (Builtin.«enumerate.__new__» ⟨[.type "enumerate",.ref l],[]⟩) (fun _ R s=>s.heap.get? l=some ⟨.type "tuple",dct,.seq items n,sl⟩ /\
   R (.ok (.ret (.ref (s.heap.push { cls:=.type "tuple_iterator",data:=.fields #[.ref l,.int 0 0] }).objs.size)))
    {s with heap:=(s.heap.push { cls:=.type "tuple_iterator",data:=.fields #[.ref l,.int 0 0] }).push { cls:=.type "enumerate",data:=.fields #[.none,.bool false,.ref s.heap.objs.size,rawInt 0,.none,.none] } }):=
 .of_wp fun prog w A R s h=>by
  obtain⟨hp,g,d,tk,os⟩:=s
  obtain⟨hl,h⟩:=h
  have hsub:=sub_enumerate
  have hL:Heap.IsTuple (Shared.heap ⟨hp,g,d,tk,os⟩) l items:=⟨_,hl,rfl,n,rfl⟩
  wp_walk using wpAny_loadPart' hl
  refine wpAny_stack_any fun st=>wpAny_pure ?_
  split
  ·rename_i c _ _ _ _ _
   cases (c == Value.type "enumerate") <;> (wp_walk using wpAny_loadPart' hl,wpAny_pyIter_tuple hL;exact⟨_,rfl,h⟩)
  ·wp_walk using wpAny_loadPart' hl,wpAny_pyIter_tuple hL
   exact⟨_,rfl,h⟩
end HT
namespace HT
open PySem PyProof.Rows
section
variable{prog:Program}{w:World}{A:Around}{E:Value->Shared->Prop}{s:Shared}
theorem DM{l:Addr}{items:Array Value}{Q:Value->Shared->Prop}(hL:s.heap.IsTuple l items)
  (h:∀ h':Heap,IsEnum h' (s.heap.objs.size+1) s.heap.objs.size 0 .none->h'.IsTupleIter s.heap.objs.size l 0->h'.objs.size=s.heap.objs.size+2->(∀ b o,s.heap.get? b=some o->h'.get? b=some o)->Q (.ref (s.heap.objs.size+1)) { s with heap:=h' }) :
  wpAny (model prog w) A (call (.type "enumerate") [.ref l]) Q E s:=by
 obtain⟨⟨c,dct,dt,sl⟩,hl,hc,n,hd⟩:=hL
 simp only at hc hd
 subst hc hd
 refine callType_new F.called_enumerate (by decide) (F.typeCall_enumerate_1 _) (F.newCall_enumerate_1 _) (fun obj=>F.args_object_init_2 obj _) F.entry_enumerate_new (Hm l items n dct sl) ⟨hl,?_⟩
 have hz:(s.heap.push { cls:=.type "tuple_iterator",data:=.fields #[.ref l,.int 0 0] }).objs.size=s.heap.objs.size+1:=Heap.size_push ..
 show _/\_
 rw [hz]
 have he:IsEnum ((s.heap.push { cls:=.type "tuple_iterator",data:=.fields #[.ref l,.int 0 0] }).push { cls:=.type "enumerate",data:=.fields #[.none,.bool false,.ref s.heap.objs.size,rawInt 0,.none,.none] }) (s.heap.objs.size+1) s.heap.objs.size 0 .none:=by
  have q:=Heap.get?_push_size (s.heap.push { cls:=.type "tuple_iterator",data:=.fields #[.ref l,.int 0 0] }) (o:={ cls:=.type "enumerate",data:=.fields #[.none,.bool false,.ref s.heap.objs.size,rawInt 0,.none,.none] }) rfl
  rw [hz] at q
  exact q
 exact⟨⟨_,he,rfl⟩,h _ he ⟨_,Heap.get?_push_of_some _ (Heap.get?_push_size _ rfl),rfl,rfl⟩ (by rw [Heap.size_push,hz]) fun b o x=>Heap.get?_push_of_some _ (Heap.get?_push_of_some _ x)⟩
end
end HT
namespace L2
open PySem PySem.Spec PyProof.Rows
section
variable{X:Cx}{pins:List (Addr×Obj)}{σ:St}{H:Hp}{s:Shared}{h':Heap}
theorem Inv.turnLaid{fp:List Addr}{a:Addr}{o:HO}{t':Nat}(I:Inv X pins σ H s)(k:∀ b o,b ∉ fp->s.heap.get? b=some o->h'.get? b=some o)(hf:∀ b∈fp,qk X pins H b)(hp:s.heap.objs.size<=a)
  (new:ObjOk X.prog X.w (upd H a o) h' a o):Inv X pins σ (upd H a o) { s with heap:=h',toks:=t' }:=by
 have hn:H a=none:=I.hok.fresh hp
 have st:∀ b u,H b=some u->upd H a o b=some u:=fun b u e=>(bj (cq e hn)).trans e
 have nfp:∀ b u,H b=some u->b ∉ fp:=fun b u e z=>by rw [(hf b z).1] at e;cases e
 refine I.step (g':=s.gens) (d':=s.drawn) (ch:=fp) (fun b hb=>?_) (fun b o _ _ hc e _=>k b o hc e) (fun b o _ _ hc e _=>⟨o.slots,k b o hc e⟩) (fun b u _ e n=>?_) (fun b o hc e=>⟨o,k b o hc e⟩) (fun b xs e=>st b _ e) (fun b o u e=>st b _ e) (fun b ps e=>⟨#[],by rw [st b _ e];simp⟩) (fun m hm=>?_) (fun b u e=>?_) I.bare
 ·obtain⟨f0,f1,f2,f3,f4,f5⟩:=hf b hb
  exact⟨f3,f1,f4,f5⟩
 ·rw [bj (Nat.ne_of_lt (Nat.lt_of_lt_of_le (Heap.lt_size e) hp))];exact n
 ·obtain⟨o',es,ep,ho,r⟩:=hm
  exact⟨o',es,ep,k _ o' (fun z=>(hf _ z).2.1 rfl) ho,r⟩
 ·by_cases hb:b=a
  ·subst hb
   rw [bv] at e
   cases e
   exact new
  ·rw [bj hb] at e
   refine(I.hok b u e).stay (fun c v hc q=>k c v ?_ q) (fun _ q=>st _ _ q) fun _ _ q=>st _ _ q
   rcases hc with z | z
   ·rw [z];exact nfp b u e
   ·exact nfp c _ z
theorem Inv.turnedL{fp:List Addr}{t':Nat}(I:Inv X pins σ H s)(k:∀ b o,b ∉ fp->s.heap.get? b=some o->h'.get? b=some o)(hf:∀ b∈fp,qk X pins H b):Inv X pins σ H { s with heap:=h',toks:=t' }:=by
 have nfp:∀ b u,H b=some u->b ∉ fp:=fun b u e z=>by rw [(hf b z).1] at e;cases e
 refine I.step (g':=s.gens) (d':=s.drawn) (ch:=fp) (fun b hb=>?_) (fun b o _ _ hc e _=>k b o hc e) (fun b o _ _ hc e _=>⟨o.slots,k b o hc e⟩) (fun b u _ e n=>n) (fun b o hc e=>⟨o,k b o hc e⟩) (fun b xs e=>e) (fun b o u e=>e) (fun b ps e=>⟨#[],by rw [e];simp⟩) (fun m hm=>?_) (fun b u e=>?_) I.bare
 ·obtain⟨f0,f1,f2,f3,f4,f5⟩:=hf b hb
  exact⟨f3,f1,f4,f5⟩
 ·obtain⟨o',es,ep,ho,r⟩:=hm
  exact⟨o',es,ep,k _ o' (fun z=>(hf _ z).2.1 rfl) ho,r⟩
 ·refine(I.hok b u e).stay (fun c v hc q=>k c v ?_ q) (fun _ q=>q) fun _ _ q=>q
  rcases hc with z | z
  ·rw [z];exact nfp b u e
  ·exact nfp c _ z
noncomputable def Ite(K:PySem.W.Frag)(a:Addr):It:=
 ⟨fun i H=>∃ xs x,lI K H a xs/\xs[i]?=some x,fun i H x H'=>∃ p v,x=.ref p/\H p=none/\H'=upd H p (.tup [.int (i:Nat),v])/\∀ xs,lI K H a xs->xs[i]?=some v,fun i H=>∃ xs,lI K H a xs/\xs.length<=i⟩
theorem FD{P:Program}{w:World}{K:PySem.W.Frag}{es:List Expr}{k:Nat}{pos:Pos}(a e it:Addr)(hei:e≠it):DX P w K (.Tuple es k pos) (Ite K a) [e,it] e (fun i h=>(∃ old,IsEnum h e it i old)/\h.IsTupleIter it a i) where
 mem:=by simp
 obj:=fun i h st b hb=>by
  obtain⟨⟨old,he⟩,⟨o,ho,hc,hd⟩⟩:=st
  simp only [List.mem_cons,List.not_mem_nil,or_false] at hb
  rcases hb with rfl | rfl
  ·exact⟨_,he,fun v z=>by cases z⟩
  ·exact⟨o,ho,fun v z=>by rw [hd] at z;cases z⟩
 keep:=fun i h h' st kk=>by
  obtain⟨⟨old,he⟩,⟨o,ho,r⟩⟩:=st
  exact⟨⟨old,kk e (by simp) _ he⟩,⟨o,kk it (by simp) _ ho,r⟩⟩
 item:=by
  intro X hP hw hK hc i pins s σ H E I hf st hg
  subst hP hw hK
  obtain⟨xs,x,hq,hx⟩:=hg
  obtain⟨its,rv,p,hz⟩:=I.tuple hq
  have hT:s.heap.IsTuple a its.toArray:=p
  have hh:=I.ok.hd hc
  have ne1:a≠e:=fun z=>by
   obtain⟨⟨old,he⟩,_⟩:=st
   obtain⟨o,ho,hcl,_⟩:=hT
   rw [z,he] at ho;cases ho;exact absurd (show Value.type "enumerate" = Value.type "tuple" from hcl) (by decide)
  have ne2:a≠it:=fun z=>by
   obtain⟨_,⟨o',ho',hc',_⟩⟩:=st
   obtain⟨o,ho,hcl,_⟩:=hT
   rw [z,ho'] at ho;cases ho;rw [hc'] at hcl;exact absurd hcl (by decide)
  have W:=WalksT.enumerateD (HT.uj (prog:=X.prog) (w:=X.w) (A:=X.A.in1) hh it a ne2 its.toArray) e hei (by simp;exact⟨hei,fun z=>ne1 z.symm⟩) (by simp)
  have hi:i<its.toArray.size:=by rw [List.size_toArray,<- rv.length];exact(List.getElem?_eq_some_iff.mp hx).1
  obtain⟨⟨old,he⟩,hit⟩:=st
  have Te:s.heap.objs.size≠e:=Nat.ne_of_gt (Heap.lt_size he)
  have Ti:s.heap.objs.size≠it:=by
   obtain⟨o,ho,_⟩:=hit
   exact Nat.ne_of_gt (Heap.lt_size ho)
  refine wpAny_pyNext_enum_itemD (HT.uj (prog:=X.prog) (w:=X.w) (A:=X.A.in1) hh it a ne2 its.toArray) he ⟨hit,hT⟩ hi hei (by simp;exact⟨hei,fun z=>ne1 z.symm⟩) fun y h1 tk hy ho st1 hT1 hsz kk=>⟨_,rfl,?_⟩
  refine W.go es k pos i s.heap.objs.size _ _ _ ⟨⟨y,ho⟩,st1,Te,Ti⟩ fun h2 st2 kk2=>?_
  generalize hTT:s.heap.objs.size=T at *
  obtain⟨u,hu,ru⟩:=rv.get hx
  have ey:y=u:=by
   rw [show its.toArray[i]?=its[i]? by simp,hu] at hy
   exact(Option.some.inj hy).symm
  subst ey
  have apT:T ∉ [e,it]:=by simp;exact⟨Te,Ti⟩
  have kall:∀ b o,b ∉ [e,it]->s.heap.get? b=some o->h2.get? b=some o:=fun b o hb q=>kk2 b o hb (kk b o (fun z=>hb (by simp [z])) (fun z=>hb (by simp [z])) q)
  have hT2:IsTupN h2 T #[.int i tk,y]:=⟨_,kk2 T _ apT hT1,rfl,⟨_,rfl⟩,rfl⟩
  have hTs:s.heap.objs.size<=T:=Nat.le_of_eq hTT
  refine⟨.ref T,upd H T (.tup [.int (i:Nat),x]),I.turnLaid kall hf hTs ⟨by show 2<=sizeLine;decide,[.int i tk,y],.cons ⟨_,rfl⟩ (.cons ru .nil),hT2⟩,rfl,⟨T,x,rfl,I.hok.fresh hTs,rfl,fun ys hy=>by rw [I.tuple_inj hy hq];exact hx⟩,⟨st2.1,st2.2.1⟩,fun b hb=>?_⟩
  have nb:b≠T:=fun z=>apT (by rw [<- z];exact hb)
  rw [bj nb]
  exact(hf b hb).1
 done:=by
  intro X hP hw hK hc i pins s σ H E I hf st hg
  subst hP hw hK
  obtain⟨xs,hq,hx⟩:=hg
  obtain⟨its,rv,p,hz⟩:=I.tuple hq
  have hT:s.heap.IsTuple a its.toArray:=p
  have hh:=I.ok.hd hc
  have ne1:a≠e:=fun z=>by
   obtain⟨⟨old,he⟩,_⟩:=st
   obtain⟨o,ho,hcl,_⟩:=hT
   rw [z,he] at ho;cases ho;exact absurd (show Value.type "enumerate" = Value.type "tuple" from hcl) (by decide)
  have D':Draws X.prog X.w X.A.in1 it [it,a] i (fun _ _=>True) (fun j h=>j=i/\h.IsTupleIter it a i/\h.IsTuple a its.toArray):=
   {live:=fun _ _ q=>by obtain⟨_,⟨o,ho,_⟩,_⟩:=q;exact⟨o,ho⟩
    frame:=fun _ _ _ q hk=>by
     obtain⟨q0,⟨o,ho,r⟩,⟨o2,ho2,r2⟩⟩:=q
     exact⟨q0,⟨o,hk it (by simp) o ho,r⟩,⟨o2,hk a (by simp) o2 ho2,r2⟩⟩
    item:=fun j _ _ _ hj q _=>absurd q.1 (Nat.ne_of_lt hj)
    done:=fun s Q E q hE=>HT.qc hh q.2.1 q.2.2 (by simp;have:=rv.length;omega) hE }
  have W:=WalksT.enumerateD D' e hei (by simp;exact⟨hei,fun z=>ne1 z.symm⟩) (by simp)
  refine W.done s _ _ ⟨st.1,rfl,st.2,hT⟩ fun h2 tk kk=>⟨rfl,I.turnedL kk hf⟩
 self:=fun A i s Q E st h=>by
  obtain⟨⟨old,he⟩,_⟩:=st
  exact wpAny_pyIter_enum he h
def iEnum(K:PySem.W.Frag)(t:TA):TI:=fun σ H R=>t σ H fun xs H1=>∃ a,xs=[.ref a]/\(∃ ys,lI K H1 a ys)/\R (Ite K a) H1
end
end L2
namespace L2
open PySem PySem.Spec PyProof.Rows
section
variable{X:Cx}
theorem Nb{a:Expr}{ta:TA}{es:List Expr}{k:Nat}{tp p pos:Pos}(hg:Gl X "enumerate")(hm:X.mg "enumerate" = none)(ha:PA X [a] ta)(hs:starEach [a] X.env=[(false,eval a X.env)]) :
  PI X (.Tuple es k tp) (.Call (.Name "enumerate" p) [a] [] pos) (iEnum X.K ta):=by
 intro pins s σ H R I h
 refine Call_ (lj I hg hm boot_enumerate (PyProof.Rows.callWith_type1 (cZ (ha pos pins s σ H _ I h) fun us s1 ⟨vs,H1,I1,r1,q1⟩=>?_) hs rfl))
 obtain⟨t,rfl,⟨ys,hq⟩,q⟩:=q1
 obtain⟨u,rfl,ru⟩:=r1.one
 cases ru
 obtain⟨its,rv,pt,hz⟩:=I1.tuple hq
 refine HT.DM pt fun h' he hi hsz kk=>wpAny_pyIter_enum he ?_
 refine⟨s1.heap.objs.size+1,[s1.heap.objs.size+1,s1.heap.objs.size],_,_,H1,rfl,I1.kept (t':=s1.toks) kk,FD t _ _ (Nat.succ_ne_self _),⟨⟨_,he⟩,hi⟩,fun b hb=>?_,q⟩
 simp only [List.mem_cons,List.not_mem_nil,or_false] at hb
 rcases hb with rfl | rfl
 ·exact I1.fpOk (Nat.le_succ _) (I1.hok.fresh (Nat.le_succ _))
 ·exact I1.fpOk (Nat.le_refl _) (I1.hok.fresh (Nat.le_refl _))
end
end L2
namespace M
open PySem PySem.Spec PyProof.Rows L2
section
variable{X:Cx}{K:PySem.W.Frag}{μ μ':Fp}{H H':Hp}{S:ac}
noncomputable def fg:Nat->List D->List D
 | _,[]=>[]
 | i,x::r=>.tup [.int (i:Nat),x]::fg (i+1) r
theorem mY:∀ (i:Nat) (xs:List D),(fg i xs).length=xs.length
 | _,[]=>rfl
 | i,_::r=>by rw [fg,List.length_cons,List.length_cons,mY (i+1) r]
theorem wD:∀ (k:Nat) (xs:List D) (i:Nat) (d:D),(fg k xs)[i]?=some d->∃ x,xs[i]?=some x/\d=.tup [.int ((k+i:Nat):Int),x]
 | _,[],i,d,h=>by simp [fg] at h
 | k,x::r,0,d,h=>by simp [fg] at h;exact⟨x,rfl,h.symm⟩
 | k,x::r,i+1,d,h=>by
  rw [fg,List.getElem?_cons_succ] at h
  obtain⟨y,h1,h2⟩:=wD (k+1) r i d h
  refine⟨y,by simpa using h1,?_⟩
  rw [h2,show k+1+i=k+(i+1) by omega]
theorem GJ{a:Addr}{xs:List D}(r:Rep K μ H (.ref a) (.tup xs)):DZ K μ H (Ite K a) (fg 0 xs):=fun μ' H' S' e s i=>by
 have r':=r.monoP e
 obtain⟨b,vs,hb,hq,rs⟩:=r'.sqT
 cases hb
 refine⟨fun d hd=>?_,fun hl=>⟨vs,hq,by rw [rs.length];rw [mY] at hl;exact hl⟩⟩
 obtain⟨x,hx,rfl⟩:=wD 0 xs i d hd
 obtain⟨v,hv,rv⟩:=rs.get hx
 refine⟨⟨vs,v,hq,hv⟩,fun y H2 hy=>?_⟩
 obtain⟨p,w,rfl,hp,rfl,hw⟩:=hy
 have ew:w=v:=by have:=hw vs hq;rw [hv] at this;exact(Option.some.inj this).symm
 subst ew
 obtain⟨e2,s2⟩:=s.laid (o:=.tup [.int (i:Nat),w]) hp
 refine⟨e2,s2,?_⟩
 rw [Nat.zero_add]
 exact .tup bv (s.notMem hp) (.cons (.int _) (.cons (rv.mono e2) .nil))
noncomputable def gn(ms:MA):MA:=fun env S=>(ms env S).bind fun p=>match p.1 with | [.tup xs]=>some (fg 0 xs,p.2) | _=>none
theorem OJ{a:Expr}{ms:MA}{es:List Expr}{k:Nat}{tp p pos:Pos}(hm:X.mg "enumerate" = none)(ha:DA X [a] ms)(hg:Gl X "enumerate")(hs:starEach [a] X.env=[(false,eval a X.env)]) :
  DI X (.Tuple es k tp) (.Call (.Name "enumerate" p) [a] [] pos) (gn ms):=PI.imp (Nb hg hm ha hs) fun σ H R ⟨μ,S,env,xs,S',hS,hE,h,post⟩=>by
 obtain⟨⟨ds,S1⟩,h1,h⟩:=Option.bind_eq_some_iff.mp h
 refine⟨μ,S,env,ds,S1,hS,hE,h1,fun vs H1 μ1 e1 s1 r1=>?_⟩
 dsimp only at h
 split at h
 ·rename_i ys
  cases h
  obtain⟨v,rfl,rv⟩:=r1.one
  have rv':=rv
  obtain⟨b,ws,rfl,hq,rs⟩:=rv.sqT
  exact⟨b,rfl,⟨ws,hq⟩,post _ H1 μ1 e1 s1 (GJ rv')⟩
 ·cases h
end
end M
namespace HT
open PySem PyProof.Rows
section
variable{prog:Program}{w:World}{A:Around}{E:Value->Shared->Prop}{s:Shared}
end
end HT
namespace L2
open PySem PySem.Spec PyProof.Rows
section
variable{X:Cx}{e st:Expr}{te:TE}{ts:TO}{pos p2:Pos}
end
end L2
namespace M
open PySem PySem.Spec PyProof.Rows L2
section
variable{X:Cx}{K:PySem.W.Frag}{μ:Fp}{H:Hp}{S:ac}
noncomputable def mRev(a:ME)(st:MO):ME:=fun env S=>(a env S).bind fun p=>(st env p.2).bind fun k=>match p.1,k.1 with
 | .tup xs,some j=>if j = -1 then some (.tup xs.reverse,k.2) else none
 | _,_=>none
end
end M
namespace L2
open PySem PySem.Spec PyProof.Rows
section
variable{X:Cx}
def dedN(ns:List Int):Nat:=(firstMet (fun i=>ns.getD i 0) ns.length).length
end
end L2
namespace M
open PySem PySem.Spec PyProof.Rows L2
noncomputable def oe:List D->Option (List Int)
 | []=>some []
 | .int i::r=>(oe r).bind fun ns=>some (i::ns)
 | _::_=>none
theorem qx:∀ {ds:List D} {ns:List Int},oe ds=some ns->ds=ns.map D.int
 | [],ns,h=>by cases h;rfl
 | .int i::r,ns,h=>by
  obtain⟨ms,h1,h2⟩:=Option.bind_eq_some_iff.mp h
  cases h2
  rw [List.map_cons,<- qx h1]
 | .non::_,ns,h=>by cases h
 | .bl _::_,ns,h=>by cases h
 | .str _::_,ns,h=>by cases h
 | .tup _::_,ns,h=>by cases h
 | .lst _::_,ns,h=>by cases h
 | .rol _::_,ns,h=>by cases h
 | .dct _ _::_,ns,h=>by cases h
 | .ref _::_,ns,h=>by cases h
theorem tR:∀ ns:List Int,oe (ns.map D.int)=some ns
 | []=>rfl
 | n::ns=>by rw [List.map_cons,oe,tR ns];rfl
noncomputable def isort(ns:List Int):List Int:=ns.mergeSort fun a b=>decide (a<=b)
section
variable{X:Cx}{K:PySem.W.Frag}{μ:Fp}{H:Hp}{S:ac}
theorem vE:∀ {vs:List V} {ns:List Int},Reps K μ H vs (ns.map D.int)->vs=ns.map V.int
 | _,[],.nil=>rfl
 | _,n::ns,.cons h t=>by rw [h.int_inv,vE t];rfl
noncomputable def qy(S:ac)(d:D):Option (List Int):=if qU S d=true then (gN S d).bind fun ds=>(oe ds).bind fun ns=>if ns.length<64 then some ns else none else none
theorem Dg{v:V}{d:D}{ns:List Int}(hS:SOk K μ S H)(r:Rep K μ H v d)(h:qy S d=some ns):∃ a,v=.ref a/\om K H a (ns.map V.int)/\ns.length<64:=by
 unfold qy at h
 split at h
 ·rename_i hl
  obtain⟨a,vs,ds,rfl,hq,hs,rs⟩:=oS hS r hl
  rw [hs] at h
  have h:((oe ds).bind fun ns=>if ns.length<64 then some ns else none)=some ns:=h
  obtain⟨ms,h1,h2⟩:=Option.bind_eq_some_iff.mp h
  split at h2
  ·rename_i h3
   cases h2
   have:=qx h1
   subst this
   exact⟨a,rfl,by rw [<- vE rs];exact hq,h3⟩
  ·cases h2
 ·cases h
noncomputable def fSorted(S:ac):List D->Option D
 | [d]=>(qy S d).bind fun ns=>some (.lst ((isort ns).map D.int))
 | _=>none
noncomputable def fLenSet(S:ac):List D->Option D
 | [d]=>(qy S d).bind fun ns=>some (.int (dedN ns:Nat))
 | _=>none
end
end M
namespace M
open PySem PySem.Spec PyProof.Rows L2
section
variable{X:Cx}{K:PySem.W.Frag}{μ:Fp}{H:Hp}{S:ac}
noncomputable def nv(i j:Nat)(ms:MA):MS:=fun env S=>(ms env S).bind fun p=>match p.1 with | [v,w]=>some (.nx ((env.set i (some v)).set j (some w)) p.2) | _=>none
theorem SS{i j:Nat}{x y:Str}{a b:Expr}{ms:MA}{px py pt pos:Pos}{kt k2:Nat}{pt2:Pos}(hc:X.calm=true)(hN:X.N.Nodup)(hi:X.N[i]?=some x)(hj:X.N[j]?=some y)(hij:i≠j)
  (hx:X.env.scope.names.lookup x=some .local) (hy:X.env.scope.names.lookup y=some .local) (ha:DA X [a,b] ms)
  (hw:swappedStores [.Tuple [.Name x px,.Name y py] kt pt] (.Tuple [a,b] k2 pt2) X.env=pure (some [x,y])) :
  DS X (.Assign [.Tuple [.Name x px,.Name y py] kt pt] (.Tuple [a,b] k2 pt2) pos) (nv i j ms):=
 PS.imp (QK hc hN hi hj hij hx hy ha hw rfl) fun E σ H ⟨μ,S,env,o,hS,hE,h,post⟩=>by
  obtain⟨⟨ds,S1⟩,h1,h⟩:=Option.bind_eq_some_iff.mp h
  refine⟨μ,S,env,ds,S1,hS,hE,h1,fun vs H1 μ1 e1 s1 r1=>?_⟩
  dsimp only at h
  split at h
  ·rename_i v w
   cases h
   obtain⟨v',w',rfl,rv,rw'⟩:=r1.two
   exact⟨v',w',rfl,post _ H1 μ1 e1 s1 (((hE.mono e1).set rv i).set rw' j)⟩
  ·cases h
noncomputable def sv:Expr->Bool
 | .Starred _ _=>false
 | _=>true
theorem Iz{x y:Str}{a b:Expr}{px py pt:Pos}{kt k2:Nat}{pt2:Pos}(hb:X.env.blockKind=.function)(hx:X.env.scope.names.lookup x=some .local)(hy:X.env.scope.names.lookup y=some .local)(hne:(x == y)=false)
  (hl:(py.line == px.line)=true) (ha:sv a=true) (hb':sv b=true) (hf:(foldedForSure 8 a&&foldedForSure 8 b)=false) (hcn:(constantsAlone 8 a&&constantsAlone 8 b)=false) :
  swappedStores [.Tuple [.Name x px,.Name y py] kt pt] (.Tuple [a,b] k2 pt2) X.env=pure (some [x,y]):=by
 have hkx:X.env.kindOf x=some .local:=hx
 have hky:X.env.kindOf y=some .local:=hy
 have hs:([a,b].any fun e=>match e with | .Starred ..=>true | _=>false)=false:=by
  have q:∀ e:Expr,sv e=true->(match e with | .Starred ..=>true | _=>false:Bool)=false:=fun e h=>by cases e <;> first | rfl | cases h
  simp only [List.any_cons,List.any_nil,q a ha,q b hb',Bool.or_self]
 have hxy:(y == x)=false:=by
  rw [Bool.eq_false_iff] at hne ⊢
  intro z;exact hne (by rw [beq_iff_eq] at z ⊢;exact z.symm)
 have hed:([x,y]:List Str).eraseDups=[x,y]:=by simp [List.eraseDups_cons,hxy]
 have hl':py.line=px.line:=by simpa using hl
 unfold swappedStores
 simp only [List.length_cons,List.length_nil,hb]
 simp only [List.all_cons,List.all_nil,Bool.and_true,hf,hcn]
 generalize hg:List.filterMap _ [Expr.Name x px,Expr.Name y py]=L
 have hL:L=[x,y]:=by
  rw [<- hg]
  have e0:(Option.map (fun(x:Expr)=>x.pos.line) [Expr.Name x px,Expr.Name y py].head?).getD 0=px.line:=rfl
  rw [List.filterMap_cons,List.filterMap_cons]
  have e1:(Expr.Name x px).pos=px:=rfl
  simp [hkx,hky,e0,e1,hl']
 subst hL
 rw [if_neg (by decide)]
 rw [if_neg (by
  intro z
  have:([a,b].any fun e=>match e with | .Starred ..=>true | _=>false)=true:=z
  rw [hs] at this;cases this)]
 rw [if_neg (by rw [hed];simp),if_neg Bool.false_ne_true,if_neg Bool.false_ne_true]
end
end M
namespace L2
open PySem PySem.Spec PyProof.Rows
section
variable{X:Cx}{pins:List (Addr×Obj)}{σ:St}{H:Hp}{s:Shared}{a:Addr}{xs:List V}
theorem Inv.tupD(I:Inv X pins σ H s)(h:lI X.K H a xs):∃ ob,s.heap.get? a=some ob/\ob.cls=.type "tuple"/\ob.dict=none:=by
 rcases h with h | ⟨o,its,n,hk,hc,hdn,hs,hz,r⟩
 ·obtain⟨z,its,r,ob,e,c,d,dn⟩:=h.ok I.hok
  exact⟨ob,e,c,dn⟩
 ·exact⟨o,I.kIn a o hk,hc,hdn⟩
variable{o e:Expr}{es:List Expr}{to:TE}{t:TA}{name:Str}{apos cpos:Pos}{id:String}{r:V->List V->Hp->VK->Prop}
def tBT(K:PySem.W.Frag)(r:V->List V->Hp->VK->Prop)(to:TE)(t:TA):TE:=fun σ H Q=>to σ H fun x H1=>(∃ p xs,x=.ref p/\lI K H1 p xs)/\t σ H1 fun xs H2=>r x xs H2 Q
theorem QY(slot:Slot "tuple" name id)(hty:typeOf (.builtin id)=pure (.type "method_descriptor"))(hm:MtR X id r)(ho:PE X o to)(ha:PA X (e::es) t)
  (hbase:attributeBase o name X.env (eval o X.env)=eval o X.env)
  (hfew:((backTo cpos (starEach (e::es) X.env)).all (fun x=>!x.1)&&(backToKw cpos (keywordEach [] X.env)).all (fun x=>x.1.isSome)&&decide ((e::es).length+([]:List Keyword).length+(if ([]:List Keyword).isEmpty then 0 else 1)<30))=true)
  (hline:(apos.endLine == cpos.line)=true) (hs:starEach (e::es) X.env=(false,eval e X.env)::starEach es X.env) (hplain:(backTo cpos (starEach es X.env)).any (·.1)=false) :
  PE X (.Call (.Attribute o name apos) (e::es) [] cpos) (tBT X.K r to t):=by
 intro pins s σ H Q I h
 refine wpAny_Call_method_late hbase hfew hline rfl (cZ (ho pins s σ H _ I h) fun v s1 ⟨x,H1,I1,r1,ty,q1⟩=>?_)
 obtain⟨p,ys,rfl,hq⟩:=ty
 cases r1
 obtain⟨ob,e1,e2,e3⟩:=I1.tupD hq
 refine⟨"tuple",id,F.plainAttrs_tuple,slot,hty,⟨ob,e1,e2⟩,fun a z=>by cases z;exact⟨ob,e1,e3⟩,?_⟩
 have hA:=ha cpos pins s1 σ H1 _ I1 q1
 rw [hs] at hA ⊢
 refine Calls.callWith_builtin (by show (false||(backTo cpos (starEach es X.env)).any (·.1))=false;rw [hplain] <;> rfl) (Calls.evalArgs_plain ?_)
 exact cZ hA fun us s2 ⟨vs,H2,I2,r2,q2⟩=>hm pins s2 σ H2 (V.ref p) vs _ us Q I2 (show RelV (V.ref p) (Value.ref p) from rfl) r2 q2
end
end L2
namespace M
open PySem PySem.Spec PyProof.Rows L2
section
variable{X:Cx}{K:PySem.W.Frag}{μ:Fp}{H:Hp}{S:ac}
noncomputable def Ip:D->Bool
 | .tup _=>true
 | _=>false
noncomputable def fz:MF:=fun o ds S=>if Ip o=true then uh o ds S else none
theorem Gh(hu:X.A.units+64<cLine):MtR X "tuple.count" (Mg X.K fz):=by
 intro pins s σ H x vs v us Q I rx rv h
 obtain⟨μ,S,dx,ds,d,S',hS,r1,r2,h,post⟩:=h
 unfold fz at h
 split at h
 ·rename_i hl
  cases dx with
  | tup es=>
   unfold uh at h
   split at h
   ·rename_i y
    have h:(if cB 40 y=true/\es.all (cB 39)=true then some (D.int (es.countP fun d=>jC d y),S) else none)=some (d,S'):=h
    split at h
    ·rename_i hk
     cases h
     obtain⟨a,ws,rfl,hq,re⟩:=r1.sqT
     cases rx
     obtain⟨w,rfl,rw0⟩:=r2.one
     obtain⟨u,rfl,ru⟩:=rv.one
     obtain⟨its,rvs,pt,hz⟩:=I.tuple hq
     obtain⟨⟨cls,dd,data,sl⟩,e,hc,n,hd⟩:=id pt
     simp only at hc hd
     subst hc hd
     have ok:=List.all_eq_true.mp hk.2
     refine call_meets F.slot_tuple_count ⟨_,e,rfl⟩ F.entry_tuple_count (F.args_tuple_count_2 _ _) (SeqAt.tuple_countAt a its.toArray n dd sl u (ee X.K μ H y)) ⟨e,fun w' hw'=>?_,?_⟩
     ·exact fX I (by show X.A.units+1+40<cLine;omega) ru rw0 hk.1 rvs re ok w' (by simpa using hw')
     ·refine⟨.int _,H,I.tok _,⟨_,rfl⟩,?_⟩
      rw [mF I rvs re ok]
      exact post.here hS (.int _)
    ·cases h
   ·cases h
  | _=>cases hl
 ·cases h
noncomputable def ky(o:ME)(ms:MA):ME:=fun env S=>(o env S).bind fun p=>if Ip p.1=true then (ms env p.2).bind fun q=>fz p.1 q.1 q.2 else if qU p.2 p.1=true then (ms env p.2).bind fun q=>mX p.1 q.1 q.2 else none
theorem Tj{o e:Expr}{es:List Expr}{mo:ME}{ms:MA}{apos cpos:Pos}(hu:X.A.units+64<cLine)(ho:DE X o mo)(ha:DA X (e::es) ms)
  (hbase:attributeBase o "count" X.env (eval o X.env)=eval o X.env)
  (hfew:((backTo cpos (starEach (e::es) X.env)).all (fun x=>!x.1)&&(backToKw cpos (keywordEach [] X.env)).all (fun x=>x.1.isSome)&&decide ((e::es).length+([]:List Keyword).length+(if ([]:List Keyword).isEmpty then 0 else 1)<30))=true)
  (hline:(apos.endLine == cpos.line)=true) (hs:starEach (e::es) X.env=(false,eval e X.env)::starEach es X.env) (hpl:(backTo cpos (starEach es X.env)).any (·.1)=false) :
  DE X (.Call (.Attribute o "count" apos) (e::es) [] cpos) (ky mo ms):=by
 have hT:=QY (X:=X) F.slot_tuple_count F.type_tuple_count (Gh hu) ho ha hbase hfew hline hs hpl
 have hL:=Fk (X:=X) F.slot_list_count F.type_list_count (zW hu) ho ha hbase hfew hline hs hpl
 intro pins s σ H Q I ⟨μ,S,env,d,S',hS,hE,h,post⟩
 obtain⟨⟨x,S1⟩,h1,h⟩:=Option.bind_eq_some_iff.mp h
 dsimp only at h
 split at h
 ·rename_i ht
  obtain⟨⟨xs,S2⟩,h2,h⟩:=Option.bind_eq_some_iff.mp h
  refine hT pins s σ H Q I ⟨μ,S,env,x,S1,hS,hE,h1,fun v H1 μ1 e1 s1 r1=>⟨?_,μ1,S1,env,xs,S2,s1,hE.mono e1,h2,fun vs H2 μ2 e2 s2 r2=>⟨μ2,S2,x,xs,d,S',s2,r1.mono e2,r2,h,(post.ext e1).ext e2⟩⟩⟩
  cases x <;> first | cases ht | skip
  obtain⟨a,ws,rfl,hq,_⟩:=r1.sqT
  exact⟨a,ws,rfl,hq⟩
 ·refine hL pins s σ H Q I ⟨μ,S,env,d,S',hS,hE,?_,post⟩
  show (mo env S).bind _=_
  rw [h1];exact h
end
end M
namespace HT
open PySem PyProof.Rows
section
variable{prog:Program}{w:World}{A:Around}{E:Value->Shared->Prop}{s:Shared}
structure za(z TI TO i1 i2:Addr)(fp1 fp2:List Addr):Prop where
 TIz:TI≠z
 TOz:TO≠z
 TITO:TI≠TO
 z1:z ∉ fp1
 z2:z ∉ fp2
 o1:TO ∉ fp1
 o2:TO ∉ fp2
 i12:i1 ∉ fp2
 i21:i2 ∉ fp1
 t1:TI≠i1
 t2:TI≠i2
 m1:i1∈fp1
 m2:i2∈fp2
theorem Fx{z TI TO i1 i2:Addr}{fp1 fp2:List Addr}{n1 n2 k1 k2:Nat}{P1 P2:Nat->Value->Prop}{St1 St2:Nat->Heap->Prop}{a b:Value}{Q:Value->Shared->Prop}
  (Z:za z TI TO i1 i2 fp1 fp2) (D1:Draws prog w A i1 fp1 n1 P1 St1) (D2:Draws prog w A i2 fp2 n2 P2 St2) (hz:IsZip s.heap z TI TO .none) (hTI:IsPair s.heap TI (.ref i1) (.ref i2)) (hTO:IsPair s.heap TO a b)
  (s1:St1 k1 s.heap) (s2:St2 k2 s.heap) (l1:k1<n1) (l2:k2<n2)
  (hQ:∀ x y h' tk,P1 k1 x->P2 k2 y->IsZip h' z TI TO (rawInt s.heap.objs.size)->IsPair h' TO x y->St1 (k1+1) h'->St2 (k2+1) h'->IsPair h' s.heap.objs.size x y->h'.objs.size=s.heap.objs.size+1 ->
   (∀ c o,c≠z->c≠TO->c≠i1->c≠i2->s.heap.get? c=some o->h'.get? c=some o)->Q (.ref s.heap.objs.size) { s with heap:=h',toks:=tk }) :
  wpAny (model prog w) A (Builtin.«zip.__next__» ⟨[.ref z],[]⟩) (fun fin s'=>∃ v,fin=.done (.ret v)/\Q v s') E s:=by
 unfold Builtin.«zip.__next__»
 show wpAny _ _ (field (.ref z) 2 >>= _) _ _ s
 refine wpAny_bind (wpAny_field hz rfl (x:=.bool false) rfl ?_)
 refine wpAny_bind (wpAny_field hz rfl (x:=.ref TI) rfl ?_)
 refine wpAny_bind (wpAny_seqItems hTI rfl ?_)
 show wpAny _ _ (Builtin.SmallTypes.ownedTupleIsFree (.ref z) >>= _) _ _ s
 refine wpAny_bind ?_
 unfold Builtin.SmallTypes.ownedTupleIsFree
 refine wpAny_bind (wpAny_field hz rfl (x:=.none) rfl (wpAny_pure ?_))
 show wpAny _ _ (rule "zip.__next__.owned-tuple-again" >>= _) _ _ s
 refine wpAny_bind (wpAny_rule ?_)
 refine wpAny_bind (wpAny_field hz rfl (x:=.ref TO) rfl ?_)
 refine wpAny_bind (wpAny_setField hz rfl (by simp) ?_)
 refine wpAny_bind ?_
 show wpAny _ _ (forIn [((Value.ref i1,0):Value×Nat),(Value.ref i2,1)] _ _) _ _ _
 rw [List.forIn_cons]
 refine wpAny_bind ?_
 refine wpAny_bind (wpAny_onRaise ?_)
 refine wpAny_bind ?_
 have ez:(s.heap.update z (Obj.mapFields fun vs=>vs.setIfInBounds 0 .ellipsis)).get? z=some { cls:=.type "zip",data:=.fields #[.ellipsis,.bool false,.bool false,.ref TI,.ref TO] }:=Heap.get?_update_self _ hz rfl
 have ne0:∀ c,c≠z->(s.heap.update z (Obj.mapFields fun vs=>vs.setIfInBounds 0 .ellipsis)).get? c=s.heap.get? c:=fun c hc=>Heap.get?_update_ne _ _ _ _ hc
 have sz0:(s.heap.update z (Obj.mapFields fun vs=>vs.setIfInBounds 0 .ellipsis)).objs.size=s.heap.objs.size:=(Heap.SameBut.update ..).1
 generalize (s.heap.update z (Obj.mapFields fun vs=>vs.setIfInBounds 0 .ellipsis))=h0 at ez ne0 sz0 ⊢
 have zi1:z≠i1:=fun e=>Z.z1 (e ▸ Z.m1)
 have zi2:z≠i2:=fun e=>Z.z2 (e ▸ Z.m2)
 have oi1:TO≠i1:=fun e=>Z.o1 (e ▸ Z.m1)
 have oi2:TO≠i2:=fun e=>Z.o2 (e ▸ Z.m2)
 refine D1.item k1 { s with heap:=h0 } _ _ l1 (D1.frame _ _ _ s1 fun c hc o ho=>(ne0 c (fun e=>Z.z1 (e ▸ hc))).trans ho) fun x h1 tk1 px st1 sb1=>wpAny_pure ?_
 have o1:h1.get? TO=some { cls:=.type "tuple",data:=.seq #[a,b] }:=(sb1.2 TO oi1).trans ((ne0 TO Z.TOz).trans hTO)
 show wpAny _ _ (seqItems? (Value.ref TO) >>= _) _ _ _
 refine wpAny_bind (wpAny_seqItems o1 rfl ?_)
 refine wpAny_bind (wpAny_updateSeq o1 rfl ?_ (by show 2<=sizeLine;decide) (by simp;decide))
 refine wpAny_bind (wpAny_letGo (wpAny_pure ?_))
 have eo:(h1.update TO (Obj.mapSeq fun vs=>vs.setIfInBounds 0 x)).get? TO=some { cls:=.type "tuple",data:=.seq #[x,b] }:=Heap.get?_update_self _ o1 rfl
 have ne1:∀ c,c≠TO->(h1.update TO (Obj.mapSeq fun vs=>vs.setIfInBounds 0 x)).get? c=h1.get? c:=fun c hc=>Heap.get?_update_ne _ _ _ _ hc
 have sz1:(h1.update TO (Obj.mapSeq fun vs=>vs.setIfInBounds 0 x)).objs.size=s.heap.objs.size:=(Heap.SameBut.update ..).1.trans (sb1.1.trans sz0)
 generalize (h1.update TO (Obj.mapSeq fun vs=>vs.setIfInBounds 0 x))=h2 at eo ne1 sz1 ⊢
 show wpAny _ _ (forIn [((Value.ref i2,1):Value×Nat)] _ _) _ _ _
 rw [List.forIn_cons]
 refine wpAny_bind ?_
 refine wpAny_bind (wpAny_onRaise ?_)
 refine wpAny_bind ?_
 refine D2.item k2 { s with heap:=h2,toks:=tk1 } _ _ l2 (D2.frame _ _ _ s2 fun c hc o ho=>(ne1 c (fun e=>Z.o2 (e ▸ hc))).trans ((sb1.2 c (fun e=>Z.i12 (e ▸ hc))).trans ((ne0 c (fun e=>Z.z2 (e ▸ hc))).trans ho))) fun y h3 tk2 py st2 sb2=>wpAny_pure ?_
 have o2:h3.get? TO=some { cls:=.type "tuple",data:=.seq #[x,b] }:=(sb2.2 TO oi2).trans eo
 show wpAny _ _ (seqItems? (Value.ref TO) >>= _) _ _ _
 refine wpAny_bind (wpAny_seqItems o2 rfl ?_)
 refine wpAny_bind (wpAny_updateSeq o2 rfl ?_ (by show 2<=sizeLine;decide) (by simp;decide))
 refine wpAny_bind (wpAny_letGo (wpAny_pure ?_))
 have eo2:(h3.update TO (Obj.mapSeq fun vs=>vs.setIfInBounds 1 y)).get? TO=some { cls:=.type "tuple",data:=.seq #[x,y] }:=Heap.get?_update_self _ o2 rfl
 have ne2:∀ c,c≠TO->(h3.update TO (Obj.mapSeq fun vs=>vs.setIfInBounds 1 y)).get? c=h3.get? c:=fun c hc=>Heap.get?_update_ne _ _ _ _ hc
 have sz2:(h3.update TO (Obj.mapSeq fun vs=>vs.setIfInBounds 1 y)).objs.size=s.heap.objs.size:=(Heap.SameBut.update ..).1.trans (sb2.1.trans sz1)
 generalize (h3.update TO (Obj.mapSeq fun vs=>vs.setIfInBounds 1 y))=h4 at eo2 ne2 sz2 ⊢
 show wpAny _ _ (pure _) _ _ _
 refine wpAny_pure ?_
 show wpAny _ _ (seqItems? (Value.ref TO) >>= _) _ _ _
 refine wpAny_bind (wpAny_seqItems eo2 rfl ?_)
 show wpAny _ _ (newTuple [x,y] >>= _) _ _ _
 refine wpAny_bind ?_
 simp only [newTuple]
 refine wpAny_newObj_type ?_ (by size_fits)
 have ez4:h4.get? z=some { cls:=.type "zip",data:=.fields #[.ellipsis,.bool false,.bool false,.ref TI,.ref TO] }:=(ne2 z Z.TOz.symm).trans ((sb2.2 z zi2).trans ((ne1 z Z.TOz.symm).trans ((sb1.2 z zi1).trans ez)))
 have ez5:=Heap.get?_push_of_some { cls:=.type "tuple",data:=.seq #[x,y] } ez4
 have et5:=Heap.get?_push_size h4 (o:={ cls:=.type "tuple",data:=.seq #[x,y] }) rfl
 have kk5:∀ c o,h4.get? c=some o->(h4.push { cls:=.type "tuple",data:=.seq #[x,y] }).get? c=some o:=fun c o=>Heap.get?_push_of_some _
 have sz5:(h4.push { cls:=.type "tuple",data:=.seq #[x,y] }).objs.size=s.heap.objs.size+1:=by rw [Heap.size_push,sz2]
 dsimp only
 show wpAny _ _ _ _ _ { s with heap:=h4.push { cls:=.type "tuple",data:=.seq #[x,y] },toks:=tk2 }
 generalize (h4.push { cls:=.type "tuple",data:=.seq #[x,y] })=h5 at ez5 et5 kk5 sz5 ⊢
 rw [sz2] at et5 ⊢
 show wpAny _ _ ((setField (.ref z) 0 (rawInt s.heap.objs.size) >>= fun _=>setField (.ref z) 1 (.bool false)) >>= _) _ _ _
 refine wpAny_bind (wpAny_bind (wpAny_setField ez5 rfl (by simp) ?_))
 have ez6:(h5.update z (Obj.mapFields fun vs=>vs.setIfInBounds 0 (rawInt s.heap.objs.size))).get? z=some { cls:=.type "zip",data:=.fields #[rawInt s.heap.objs.size,.bool false,.bool false,.ref TI,.ref TO] }:=Heap.get?_update_self _ ez5 rfl
 have ne6:∀ c,c≠z->(h5.update z (Obj.mapFields fun vs=>vs.setIfInBounds 0 (rawInt s.heap.objs.size))).get? c=h5.get? c:=fun c hc=>Heap.get?_update_ne _ _ _ _ hc
 have sz6:(h5.update z (Obj.mapFields fun vs=>vs.setIfInBounds 0 (rawInt s.heap.objs.size))).objs.size=s.heap.objs.size+1:=(Heap.SameBut.update ..).1.trans sz5
 generalize (h5.update z (Obj.mapFields fun vs=>vs.setIfInBounds 0 (rawInt s.heap.objs.size)))=h6 at ez6 ne6 sz6 ⊢
 refine wpAny_setField ez6 rfl (by simp) ?_
 have ez7:(h6.update z (Obj.mapFields fun vs=>vs.setIfInBounds 1 (.bool false))).get? z=some { cls:=.type "zip",data:=.fields #[rawInt s.heap.objs.size,.bool false,.bool false,.ref TI,.ref TO] }:=Heap.get?_update_self _ ez6 rfl
 have ne7:∀ c,c≠z->(h6.update z (Obj.mapFields fun vs=>vs.setIfInBounds 1 (.bool false))).get? c=h6.get? c:=fun c hc=>Heap.get?_update_ne _ _ _ _ hc
 have sz7:(h6.update z (Obj.mapFields fun vs=>vs.setIfInBounds 1 (.bool false))).objs.size=s.heap.objs.size+1:=(Heap.SameBut.update ..).1.trans sz6
 generalize (h6.update z (Obj.mapFields fun vs=>vs.setIfInBounds 1 (.bool false)))=h7 at ez7 ne7 sz7 ⊢
 have k57:∀ c o,c≠z->h4.get? c=some o->h7.get? c=some o:=fun c o hc ho=>(ne7 c hc).trans ((ne6 c hc).trans (kk5 c o ho))
 have newz:s.heap.objs.size≠z:=Nat.ne_of_gt (Heap.lt_size hz)
 refine wpAny_pure ⟨_,rfl,hQ x y h7 tk2 px py ez7 (k57 TO _ Z.TOz eo2) ?_ ?_ ((ne7 _ newz).trans ((ne6 _ newz).trans et5)) sz7 fun c o c1 c2 c3 c4 ho=>k57 c o c1 ((ne2 c c2).trans ((sb2.2 c c4).trans ((ne1 c c2).trans ((sb1.2 c c3).trans ((ne0 c c1).trans ho)))))⟩
 ·exact D1.frame _ _ _ st1 fun c hc o ho=>k57 c o (fun e=>Z.z1 (e ▸ hc)) ((ne2 c (fun e=>Z.o1 (e ▸ hc))).trans ((sb2.2 c (fun e=>Z.i21 (e ▸ hc))).trans ((ne1 c (fun e=>Z.o1 (e ▸ hc))).trans ho)))
 ·exact D2.frame _ _ _ st2 fun c hc o ho=>k57 c o (fun e=>Z.z2 (e ▸ hc)) ((ne2 c (fun e=>Z.o2 (e ▸ hc))).trans ho)
theorem Fz{z TI TO i1 i2:Addr}{fp1 fp2:List Addr}{n1:Nat}{P1:Nat->Value->Prop}{St1:Nat->Heap->Prop}{a b:Value}{Q:Fin->Shared->Prop}
  (Z:za z TI TO i1 i2 fp1 fp2) (D1:Draws prog w A i1 fp1 n1 P1 St1) (hz:IsZip s.heap z TI TO .none) (hTI:IsPair s.heap TI (.ref i1) (.ref i2)) (hTO:IsPair s.heap TO a b)
  (s1:St1 n1 s.heap)
  (hE:∀ h' e tk,(∀ c o,c≠z->c≠TO->c≠i1->c≠i2->s.heap.get? c=some o->h'.get? c=some o)->(∃ o,h'.get? e=some o/\o.cls=.type "StopIteration")->E (.ref e) { s with heap:=h',toks:=tk }) :
  wpAny (model prog w) A (Builtin.«zip.__next__» ⟨[.ref z],[]⟩) Q E s:=by
 unfold Builtin.«zip.__next__»
 show wpAny _ _ (field (.ref z) 2 >>= _) _ _ s
 refine wpAny_bind (wpAny_field hz rfl (x:=.bool false) rfl ?_)
 refine wpAny_bind (wpAny_field hz rfl (x:=.ref TI) rfl ?_)
 refine wpAny_bind (wpAny_seqItems hTI rfl ?_)
 show wpAny _ _ (Builtin.SmallTypes.ownedTupleIsFree (.ref z) >>= _) _ _ s
 refine wpAny_bind ?_
 unfold Builtin.SmallTypes.ownedTupleIsFree
 refine wpAny_bind (wpAny_field hz rfl (x:=.none) rfl (wpAny_pure ?_))
 show wpAny _ _ (rule "zip.__next__.owned-tuple-again" >>= _) _ _ s
 refine wpAny_bind (wpAny_rule ?_)
 refine wpAny_bind (wpAny_field hz rfl (x:=.ref TO) rfl ?_)
 refine wpAny_bind (wpAny_setField hz rfl (by simp) ?_)
 refine wpAny_bind ?_
 show wpAny _ _ (forIn [((Value.ref i1,0):Value×Nat),(Value.ref i2,1)] _ _) _ _ _
 rw [List.forIn_cons]
 refine wpAny_bind ?_
 refine wpAny_bind (wpAny_onRaise ?_)
 refine wpAny_bind ?_
 have ez:(s.heap.update z (Obj.mapFields fun vs=>vs.setIfInBounds 0 .ellipsis)).get? z=some { cls:=.type "zip",data:=.fields #[.ellipsis,.bool false,.bool false,.ref TI,.ref TO] }:=Heap.get?_update_self _ hz rfl
 have ne0:∀ c,c≠z->(s.heap.update z (Obj.mapFields fun vs=>vs.setIfInBounds 0 .ellipsis)).get? c=s.heap.get? c:=fun c hc=>Heap.get?_update_ne _ _ _ _ hc
 generalize (s.heap.update z (Obj.mapFields fun vs=>vs.setIfInBounds 0 .ellipsis))=h0 at ez ne0 ⊢
 have zi1:z≠i1:=fun e=>Z.z1 (e ▸ Z.m1)
 have zi2:z≠i2:=fun e=>Z.z2 (e ▸ Z.m2)
 have oi1:TO≠i1:=fun e=>Z.o1 (e ▸ Z.m1)
 have oi2:TO≠i2:=fun e=>Z.o2 (e ▸ Z.m2)
 refine D1.done { s with heap:=h0 } _ _ (D1.frame _ _ _ s1 fun c hc o ho=>(ne0 c (fun e=>Z.z1 (e ▸ hc))).trans ho) fun h1 e xb ⟨o,ho,hc⟩=>?_
 have z1:=xb z _ zi1 ez
 refine wpAny_setField z1 rfl (by simp) (hE _ e s.toks (fun c o c1 c2 c3 c4 ho=>(Heap.get?_update_ne _ _ _ _ c1).trans (xb c o c3 ((ne0 c c1).trans ho))) ?_)
 refine⟨o,(Heap.get?_update_ne _ _ _ _ fun h=>?_).trans ho,hc⟩
 rw [h,z1] at ho;cases ho;exact absurd (show Value.type "zip" = Value.type "StopIteration" from hc) (by decide)
theorem Fy{z TI TO i1 i2:Addr}{fp1 fp2:List Addr}{n1 n2 k1:Nat}{P1 P2:Nat->Value->Prop}{St1 St2:Nat->Heap->Prop}{a b:Value}{Q:Fin->Shared->Prop}
  (Z:za z TI TO i1 i2 fp1 fp2) (D1:Draws prog w A i1 fp1 n1 P1 St1) (D2:Draws prog w A i2 fp2 n2 P2 St2) (hz:IsZip s.heap z TI TO .none) (hTI:IsPair s.heap TI (.ref i1) (.ref i2)) (hTO:IsPair s.heap TO a b)
  (s1:St1 k1 s.heap) (l1:k1<n1) (s2:St2 n2 s.heap)
  (hE:∀ h' e tk,(∀ c o,c≠z->c≠TO->c≠i1->c≠i2->s.heap.get? c=some o->h'.get? c=some o)->(∃ o,h'.get? e=some o/\o.cls=.type "StopIteration")->E (.ref e) { s with heap:=h',toks:=tk }) :
  wpAny (model prog w) A (Builtin.«zip.__next__» ⟨[.ref z],[]⟩) Q E s:=by
 unfold Builtin.«zip.__next__»
 show wpAny _ _ (field (.ref z) 2 >>= _) _ _ s
 refine wpAny_bind (wpAny_field hz rfl (x:=.bool false) rfl ?_)
 refine wpAny_bind (wpAny_field hz rfl (x:=.ref TI) rfl ?_)
 refine wpAny_bind (wpAny_seqItems hTI rfl ?_)
 show wpAny _ _ (Builtin.SmallTypes.ownedTupleIsFree (.ref z) >>= _) _ _ s
 refine wpAny_bind ?_
 unfold Builtin.SmallTypes.ownedTupleIsFree
 refine wpAny_bind (wpAny_field hz rfl (x:=.none) rfl (wpAny_pure ?_))
 show wpAny _ _ (rule "zip.__next__.owned-tuple-again" >>= _) _ _ s
 refine wpAny_bind (wpAny_rule ?_)
 refine wpAny_bind (wpAny_field hz rfl (x:=.ref TO) rfl ?_)
 refine wpAny_bind (wpAny_setField hz rfl (by simp) ?_)
 refine wpAny_bind ?_
 show wpAny _ _ (forIn [((Value.ref i1,0):Value×Nat),(Value.ref i2,1)] _ _) _ _ _
 rw [List.forIn_cons]
 refine wpAny_bind ?_
 refine wpAny_bind (wpAny_onRaise ?_)
 refine wpAny_bind ?_
 have ez:(s.heap.update z (Obj.mapFields fun vs=>vs.setIfInBounds 0 .ellipsis)).get? z=some { cls:=.type "zip",data:=.fields #[.ellipsis,.bool false,.bool false,.ref TI,.ref TO] }:=Heap.get?_update_self _ hz rfl
 have ne0:∀ c,c≠z->(s.heap.update z (Obj.mapFields fun vs=>vs.setIfInBounds 0 .ellipsis)).get? c=s.heap.get? c:=fun c hc=>Heap.get?_update_ne _ _ _ _ hc
 generalize (s.heap.update z (Obj.mapFields fun vs=>vs.setIfInBounds 0 .ellipsis))=h0 at ez ne0 ⊢
 have zi1:z≠i1:=fun e=>Z.z1 (e ▸ Z.m1)
 have zi2:z≠i2:=fun e=>Z.z2 (e ▸ Z.m2)
 have oi1:TO≠i1:=fun e=>Z.o1 (e ▸ Z.m1)
 have oi2:TO≠i2:=fun e=>Z.o2 (e ▸ Z.m2)
 refine D1.item k1 { s with heap:=h0 } _ _ l1 (D1.frame _ _ _ s1 fun c hc o ho=>(ne0 c (fun e=>Z.z1 (e ▸ hc))).trans ho) fun x h1 tk1 px st1 sb1=>wpAny_pure ?_
 have o1:h1.get? TO=some { cls:=.type "tuple",data:=.seq #[a,b] }:=(sb1.2 TO oi1).trans ((ne0 TO Z.TOz).trans hTO)
 show wpAny _ _ (seqItems? (Value.ref TO) >>= _) _ _ _
 refine wpAny_bind (wpAny_seqItems o1 rfl ?_)
 refine wpAny_bind (wpAny_updateSeq o1 rfl ?_ (by show 2<=sizeLine;decide) (by simp;decide))
 refine wpAny_bind (wpAny_letGo (wpAny_pure ?_))
 have ne1:∀ c,c≠TO->(h1.update TO (Obj.mapSeq fun vs=>vs.setIfInBounds 0 x)).get? c=h1.get? c:=fun c hc=>Heap.get?_update_ne _ _ _ _ hc
 generalize (h1.update TO (Obj.mapSeq fun vs=>vs.setIfInBounds 0 x))=h2 at ne1 ⊢
 show wpAny _ _ (forIn [((Value.ref i2,1):Value×Nat)] _ _) _ _ _
 rw [List.forIn_cons]
 refine wpAny_bind ?_
 refine wpAny_bind (wpAny_onRaise ?_)
 refine wpAny_bind ?_
 refine D2.done { s with heap:=h2,toks:=tk1 } _ _ (D2.frame _ _ _ s2 fun c hc o ho=>(ne1 c (fun e=>Z.o2 (e ▸ hc))).trans ((sb1.2 c (fun e=>Z.i12 (e ▸ hc))).trans ((ne0 c (fun e=>Z.z2 (e ▸ hc))).trans ho))) fun h3 e xb ⟨o,ho,hc⟩=>?_
 have z1:=xb z _ zi2 ((ne1 z Z.TOz.symm).trans ((sb1.2 z zi1).trans ez))
 refine wpAny_setField z1 rfl (by simp) (hE _ e tk1 (fun c o c1 c2 c3 c4 ho=>(Heap.get?_update_ne _ _ _ _ c1).trans (xb c o c4 ((ne1 c c2).trans ((sb1.2 c c3).trans ((ne0 c c1).trans ho))))) ?_)
 refine⟨o,(Heap.get?_update_ne _ _ _ _ fun h=>?_).trans ho,hc⟩
 rw [h,z1] at ho;cases ho;exact absurd (show Value.type "zip" = Value.type "StopIteration" from hc) (by decide)
theorem zE{z TI TO i1 i2:Addr}{fp1 fp2:List Addr}{n1 n2 k1 k2:Nat}{P1 P2:Nat->Value->Prop}{St1 St2:Nat->Heap->Prop}{a b:Value}{Q:Option Value->Shared->Prop}
  (Z:za z TI TO i1 i2 fp1 fp2) (D1:Draws prog w A.in1 i1 fp1 n1 P1 St1) (D2:Draws prog w A.in1 i2 fp2 n2 P2 St2) (hz:IsZip s.heap z TI TO .none) (hTI:IsPair s.heap TI (.ref i1) (.ref i2)) (hTO:IsPair s.heap TO a b)
  (s1:St1 k1 s.heap) (s2:St2 k2 s.heap) (l1:k1<n1) (l2:k2<n2)
  (hQ:∀ x y h' tk,P1 k1 x->P2 k2 y->IsZip h' z TI TO (rawInt s.heap.objs.size)->IsPair h' TO x y->St1 (k1+1) h'->St2 (k2+1) h'->IsPair h' s.heap.objs.size x y->h'.objs.size=s.heap.objs.size+1 ->
   (∀ c o,c≠z->c≠TO->c≠i1->c≠i2->s.heap.get? c=some o->h'.get? c=some o)->Q (some (.ref s.heap.objs.size)) { s with heap:=h',toks:=tk }) :
  wpAny (model prog w) A (pyNext (.ref z)) Q E s:=by
 unfold pyNext
 refine wpAny_bind (wpAny_attempt ?_)
 refine wpAny_callSpecial?_slot (name:=Str.ofString "__next__") (T:="zip") ?_ F.slot_zip_next (wpAny_call_entry F.slot_zip_next ?_ F.entry_zip_next (Fx Z D1 D2 hz hTI hTO s1 s2 l1 l2 fun x y h' tk a1 a2 a3 a4 a5 a6 a7 a8 a9=>wpAny_pure (hQ x y h' tk a1 a2 a3 a4 a5 a6 a7 a8 a9)) (F.args_zip_next_1 _)) <;> exact⟨_,hz,rfl⟩
end
end HT
namespace HT
open PySem PyProof.Rows
section
variable{prog:Program}{w:World}{A:Around}{E:Value->Shared->Prop}{s:Shared}
theorem xx{z TI TO i1 i2:Addr}{fp1 fp2:List Addr}{n1:Nat}{P1:Nat->Value->Prop}{St1:Nat->Heap->Prop}{a b:Value}{Q:Option Value->Shared->Prop}
  (Z:za z TI TO i1 i2 fp1 fp2) (D1:Draws prog w A.in1 i1 fp1 n1 P1 St1) (hz:IsZip s.heap z TI TO .none) (hTI:IsPair s.heap TI (.ref i1) (.ref i2)) (hTO:IsPair s.heap TO a b)
  (s1:St1 n1 s.heap) (hQ:∀ h' tk,(∀ c o,c≠z->c≠TO->c≠i1->c≠i2->s.heap.get? c=some o->h'.get? c=some o)->Q none { s with heap:=h',toks:=tk }) :
  wpAny (model prog w) A (pyNext (.ref z)) Q E s:=by
 unfold pyNext
 refine wpAny_bind (wpAny_attempt ?_)
 refine wpAny_callSpecial?_slot (name:=Str.ofString "__next__") (T:="zip") ⟨_,hz,rfl⟩ F.slot_zip_next (wpAny_call_entry F.slot_zip_next ⟨_,hz,rfl⟩ F.entry_zip_next (Fz Z D1 hz hTI hTO s1 fun h' e tk kk hc=>?_) (F.args_zip_next_1 _))
 show wpAny _ _ (isInstance (.ref e) (.type "StopIteration") >>= _) _ _ _
 exact wpAny_bind (wpAny_isInstance (T:="StopIteration") (b:=true) hc (by first | exact sub_StopIteration | rfl) (wpAny_pure (hQ h' tk kk)))
theorem xu{z TI TO i1 i2:Addr}{fp1 fp2:List Addr}{n1 n2 k1:Nat}{P1 P2:Nat->Value->Prop}{St1 St2:Nat->Heap->Prop}{a b:Value}{Q:Option Value->Shared->Prop}
  (Z:za z TI TO i1 i2 fp1 fp2) (D1:Draws prog w A.in1 i1 fp1 n1 P1 St1) (D2:Draws prog w A.in1 i2 fp2 n2 P2 St2) (hz:IsZip s.heap z TI TO .none) (hTI:IsPair s.heap TI (.ref i1) (.ref i2)) (hTO:IsPair s.heap TO a b)
  (s1:St1 k1 s.heap) (l1:k1<n1) (s2:St2 n2 s.heap) (hQ:∀ h' tk,(∀ c o,c≠z->c≠TO->c≠i1->c≠i2->s.heap.get? c=some o->h'.get? c=some o)->Q none { s with heap:=h',toks:=tk }) :
  wpAny (model prog w) A (pyNext (.ref z)) Q E s:=by
 unfold pyNext
 refine wpAny_bind (wpAny_attempt ?_)
 refine wpAny_callSpecial?_slot (name:=Str.ofString "__next__") (T:="zip") ⟨_,hz,rfl⟩ F.slot_zip_next (wpAny_call_entry F.slot_zip_next ⟨_,hz,rfl⟩ F.entry_zip_next (Fy Z D1 D2 hz hTI hTO s1 l1 s2 fun h' e tk kk hc=>?_) (F.args_zip_next_1 _))
 show wpAny _ _ (isInstance (.ref e) (.type "StopIteration") >>= _) _ _ _
 exact wpAny_bind (wpAny_isInstance (T:="StopIteration") (b:=true) hc (by first | exact sub_StopIteration | rfl) (wpAny_pure (hQ h' tk kk)))
end
theorem Ib(l1 l2:Addr)(xs ys:Array Value) :
  Meets (Builtin.«zip.__new__» ⟨[.type "zip",.ref l1,.ref l2],[]⟩) (fun _ R s=>s.heap.IsTuple l1 xs/\s.heap.IsTuple l2 ys /\
   ∀ h',IsZip h' (s.heap.objs.size+4) (s.heap.objs.size+2) (s.heap.objs.size+3) .none->IsPair h' (s.heap.objs.size+2) (.ref s.heap.objs.size) (.ref (s.heap.objs.size+1))->IsPair h' (s.heap.objs.size+3) .none .none ->
    h'.IsTupleIter s.heap.objs.size l1 0->h'.IsTupleIter (s.heap.objs.size+1) l2 0->h'.objs.size=s.heap.objs.size+5->(∀ c o,s.heap.get? c=some o->h'.get? c=some o)->R (.ok (.ret (.ref (s.heap.objs.size+4)))) { s with heap:=h' }):=
 .of_wp fun prog w A R s h=>by
  obtain⟨hl,hl2,h⟩:=h
  unfold Builtin.«zip.__new__»
  refine wpAny_bind ?_
  show wpAny _ _ (isType (.type "zip") >>= _) _ _ _
  refine wpAny_bind (wpAny_of_eq (a:=true) (by first | rfl | simp [isType]) ?_)
  show wpAny _ _ (isSubtype (.type "zip") (.type "zip") >>= _) _ _ _
  refine wpAny_bind (wpAny_of_eq sub_zip (wpAny_pure ?_))
  show wpAny _ _ (Builtin.SmallTypes.iterAll [.ref l1,.ref l2] >>= _) _ _ _
  refine wpAny_bind ?_
  unfold Builtin.SmallTypes.iterAll
  refine wpAny_bind ?_
  rw [List.forIn_cons]
  refine wpAny_bind (wpAny_bind (wpAny_holding (wpAny_pyIter_tuple hl (wpAny_pure ?_))))
  have g1:=Heap.get?_push_size s.heap (o:={ cls:=.type "tuple_iterator",data:=.fields #[.ref l1,.int 0 0] }) rfl
  have k1:∀ c o,s.heap.get? c=some o->(s.heap.push { cls:=.type "tuple_iterator",data:=.fields #[.ref l1,.int 0 0] }).get? c=some o:=fun c o=>Heap.get?_push_of_some _
  have z1:(s.heap.push { cls:=.type "tuple_iterator",data:=.fields #[.ref l1,.int 0 0] }).objs.size=s.heap.objs.size+1:=Heap.size_push ..
  generalize s.heap.push { cls:=.type "tuple_iterator",data:=.fields #[.ref l1,.int 0 0] } = h1 at g1 k1 z1 ⊢
  have hl2':h1.IsTuple l2 ys:=by obtain⟨o,ho,r⟩:=hl2;exact⟨o,k1 _ _ ho,r⟩
  show wpAny _ _ (forIn [Value.ref l2] _ _) _ _ _
  rw [List.forIn_cons]
  refine wpAny_bind (wpAny_bind (wpAny_holding (wpAny_pyIter_tuple hl2' (wpAny_pure ?_))))
  dsimp only
  have g2:=Heap.get?_push_size h1 (o:={ cls:=.type "tuple_iterator",data:=.fields #[.ref l2,.int 0 0] }) rfl
  have k2:∀ c o,h1.get? c=some o->(h1.push { cls:=.type "tuple_iterator",data:=.fields #[.ref l2,.int 0 0] }).get? c=some o:=fun c o=>Heap.get?_push_of_some _
  have z2:(h1.push { cls:=.type "tuple_iterator",data:=.fields #[.ref l2,.int 0 0] }).objs.size=s.heap.objs.size+2:=by rw [Heap.size_push,z1]
  generalize h1.push { cls:=.type "tuple_iterator",data:=.fields #[.ref l2,.int 0 0] } = h2 at g2 k2 z2 ⊢
  rw [z1] at g2 ⊢
  show wpAny _ _ (pure _) _ _ _
  refine wpAny_pure (wpAny_pure ?_)
  show wpAny _ _ (newTuple [.ref s.heap.objs.size,.ref (s.heap.objs.size+1)] >>= _) _ _ _
  refine wpAny_bind ?_
  simp only [newTuple]
  refine wpAny_newObj_type ?_ (by size_fits)
  have g3:=Heap.get?_push_size h2 (o:={ cls:=.type "tuple",data:=.seq #[.ref s.heap.objs.size,.ref (s.heap.objs.size+1)] }) rfl
  have k3:∀ c o,h2.get? c=some o->(h2.push { cls:=.type "tuple",data:=.seq #[.ref s.heap.objs.size,.ref (s.heap.objs.size+1)] }).get? c=some o:=fun c o=>Heap.get?_push_of_some _
  have z3:(h2.push { cls:=.type "tuple",data:=.seq #[.ref s.heap.objs.size,.ref (s.heap.objs.size+1)] }).objs.size=s.heap.objs.size+3:=by rw [Heap.size_push,z2]
  dsimp only
  show wpAny _ _ _ _ _ { s with heap:=h2.push { cls:=.type "tuple",data:=.seq #[.ref s.heap.objs.size,.ref (s.heap.objs.size+1)] } }
  generalize h2.push { cls:=.type "tuple",data:=.seq #[.ref s.heap.objs.size,.ref (s.heap.objs.size+1)] } = h3 at g3 k3 z3 ⊢
  rw [z2] at g3 ⊢
  refine wpAny_bind ?_
  show wpAny _ _ (newObj (.type "tuple") (.seq #[.none,.none])) _ _ _
  refine wpAny_newObj_type ?_ (by size_fits)
  have g4:=Heap.get?_push_size h3 (o:={ cls:=.type "tuple",data:=.seq #[.none,.none] }) rfl
  have k4:∀ c o,h3.get? c=some o->(h3.push { cls:=.type "tuple",data:=.seq #[.none,.none] }).get? c=some o:=fun c o=>Heap.get?_push_of_some _
  have z4:(h3.push { cls:=.type "tuple",data:=.seq #[.none,.none] }).objs.size=s.heap.objs.size+4:=by rw [Heap.size_push,z3]
  dsimp only
  generalize h3.push { cls:=.type "tuple",data:=.seq #[.none,.none] } = h4 at g4 k4 z4 ⊢
  rw [z3] at g4 ⊢
  refine wpAny_bind ?_
  show wpAny _ _ (newObj (.type "zip") (.fields #[.none,.bool false,.bool false,.ref (s.heap.objs.size+2),.ref (s.heap.objs.size+3)])) _ _ _
  refine wpAny_newObj_type ?_ (by size_fits)
  have g5:=Heap.get?_push_size h4 (o:={ cls:=.type "zip",data:=.fields #[.none,.bool false,.bool false,.ref (s.heap.objs.size+2),.ref (s.heap.objs.size+3)] }) rfl
  have k5:∀ c o,h4.get? c=some o->(h4.push { cls:=.type "zip",data:=.fields #[.none,.bool false,.bool false,.ref (s.heap.objs.size+2),.ref (s.heap.objs.size+3)] }).get? c=some o:=fun c o=>Heap.get?_push_of_some _
  have z5:(h4.push { cls:=.type "zip",data:=.fields #[.none,.bool false,.bool false,.ref (s.heap.objs.size+2),.ref (s.heap.objs.size+3)] }).objs.size=s.heap.objs.size+5:=by rw [Heap.size_push,z4]
  dsimp only
  generalize h4.push { cls:=.type "zip",data:=.fields #[.none,.bool false,.bool false,.ref (s.heap.objs.size+2),.ref (s.heap.objs.size+3)] } = h5 at g5 k5 z5 ⊢
  rw [z4] at g5 ⊢
  refine wpAny_pure ⟨_,rfl,h h5 g5 (k5 _ _ (k4 _ _ g3)) (k5 _ _ g4) ⟨_,k5 _ _ (k4 _ _ (k3 _ _ (k2 _ _ g1))),rfl,rfl⟩ ⟨_,k5 _ _ (k4 _ _ (k3 _ _ g2)),rfl,rfl⟩ z5 fun c o e=>k5 _ _ (k4 _ _ (k3 _ _ (k2 _ _ (k1 _ _ e))))⟩
section
variable{prog:Program}{w:World}{A:Around}{E:Value->Shared->Prop}{s:Shared}
theorem HH{l1 l2:Addr}{xs ys:Array Value}{Q:Value->Shared->Prop}(hL:s.heap.IsTuple l1 xs)(hL2:s.heap.IsTuple l2 ys)
  (h:∀ h':Heap,IsZip h' (s.heap.objs.size+4) (s.heap.objs.size+2) (s.heap.objs.size+3) .none->IsPair h' (s.heap.objs.size+2) (.ref s.heap.objs.size) (.ref (s.heap.objs.size+1))->IsPair h' (s.heap.objs.size+3) .none .none ->
    h'.IsTupleIter s.heap.objs.size l1 0->h'.IsTupleIter (s.heap.objs.size+1) l2 0->h'.objs.size=s.heap.objs.size+5->(∀ c o,s.heap.get? c=some o->h'.get? c=some o)->Q (.ref (s.heap.objs.size+4)) { s with heap:=h' }) :
  wpAny (model prog w) A (call (.type "zip") [.ref l1,.ref l2]) Q E s:=by
 refine callType_new F.called_zip (by decide) (F.typeCall_zip_2 _ _) (F.newCall_zip_2 _ _) (fun obj=>F.args_object_init_3 obj _ _) F.entry_zip_new (Ib l1 l2 xs ys) ⟨hL,hL2,fun h' a b c d e f g=>?_⟩
 exact⟨⟨_,a,rfl⟩,h h' a b c d e f g⟩
end
end HT
namespace L2
open PySem PySem.Spec PyProof.Rows
section
noncomputable def Itz(K:PySem.W.Frag)(a b:Addr):It:=
 ⟨fun i H=>∃ xs ys x y,lI K H a xs/\lI K H b ys/\xs[i]?=some x/\ys[i]?=some y,
 fun i H x H'=>∃ p v u,x=.ref p/\H p=none/\H'=upd H p (.tup [v,u])/\(∀ xs,lI K H a xs->xs[i]?=some v)/\∀ ys,lI K H b ys->ys[i]?=some u,
 fun i H=>∃ xs ys,lI K H a xs/\lI K H b ys/\(xs.length<=i\/ys.length<=i)⟩
def TnZ(z TI TO i1 i2 a b:Addr)(i:Nat)(h:Heap):Prop:=IsZip h z TI TO .none/\IsPair h TI (.ref i1) (.ref i2)/\(∃ u v,IsPair h TO u v)/\h.IsTupleIter i1 a i/\h.IsTupleIter i2 b i
theorem Bn{prog:Program}{w:World}{A:Around}(hh:A.handled=none)(it a:Addr)(items:Array Value)(i:Nat)(hx:items[i]?=none) :
  Draws prog w A it [it,a] i (fun _ _=>True) (fun j h=>j=i/\h.IsTupleIter it a i/\h.IsTuple a items):=
 {live:=fun _ _ q=>by obtain⟨_,⟨o,ho,_⟩,_⟩:=q;exact⟨o,ho⟩
  frame:=fun _ _ _ q hk=>by
   obtain⟨q0,⟨o,ho,r⟩,⟨o2,ho2,r2⟩⟩:=q
   exact⟨q0,⟨o,hk it (by simp) o ho,r⟩,⟨o2,hk a (by simp) o2 ho2,r2⟩⟩
  item:=fun j _ _ _ hj q _=>absurd q.1 (Nat.ne_of_lt hj)
  done:=fun s Q E q hE=>HT.qc hh q.2.1 q.2.2 hx hE }
theorem Ik{P:Program}{w:World}{K:PySem.W.Frag}{es:List Expr}{k:Nat}{pos:Pos}(a b z TI TO i1 i2:Addr)(Z:HT.za z TI TO i1 i2 [i1,a] [i2,b]):DX P w K (.Tuple es k pos) (Itz K a b) [z,TI,TO,i1,i2] z (TnZ z TI TO i1 i2 a b) where
 mem:=by simp
 obj:=fun i h st c hc=>by
  obtain⟨hz,hTI,⟨u,v,hTO⟩,⟨o,ho,hc1,hd⟩,⟨o2,ho2,hc2,hd2⟩⟩:=st
  simp only [List.mem_cons,List.not_mem_nil,or_false] at hc
  rcases hc with rfl | rfl | rfl | rfl | rfl
  ·exact⟨_,hz,fun v z=>by cases z⟩
  ·exact⟨_,hTI,fun v z=>by cases z⟩
  ·exact⟨_,hTO,fun v z=>by cases z⟩
  ·exact⟨o,ho,fun v z=>by rw [hd] at z;cases z⟩
  ·exact⟨o2,ho2,fun v z=>by rw [hd2] at z;cases z⟩
 keep:=fun i h h' st kk=>by
  obtain⟨hz,hTI,⟨u,v,hTO⟩,⟨o,ho,r⟩,⟨o2,ho2,r2⟩⟩:=st
  exact⟨kk z (by simp) _ hz,kk TI (by simp) _ hTI,⟨u,v,kk TO (by simp) _ hTO⟩,⟨o,kk i1 (by simp) _ ho,r⟩,⟨o2,kk i2 (by simp) _ ho2,r2⟩⟩
 item:=by
  intro X hP hw hK hc i pins s σ H E I hf st hg
  subst hP hw hK
  obtain⟨xs,ys,x,y,hq,hq2,hx,hy⟩:=hg
  obtain⟨its,rv,p,hz0⟩:=I.tuple hq
  obtain⟨its2,rv2,p2,hz2⟩:=I.tuple hq2
  have hT:s.heap.IsTuple a its.toArray:=p
  have hT2:s.heap.IsTuple b its2.toArray:=p2
  have hh:=I.ok.hd hc
  obtain⟨hz,hTI,⟨u0,v0,hTO⟩,hit1,hit2⟩:=st
  have li:i<its.toArray.size:=by rw [List.size_toArray,<- rv.length];exact(List.getElem?_eq_some_iff.mp hx).1
  have li2:i<its2.toArray.size:=by rw [List.size_toArray,<- rv2.length];exact(List.getElem?_eq_some_iff.mp hy).1
  have nea:a≠i1:=fun e=>by
   obtain⟨o',ho',hc',_⟩:=hit1
   obtain⟨o,ho,hcl,_⟩:=hT
   rw [e,ho'] at ho;cases ho;rw [hc'] at hcl;exact absurd hcl (by decide)
  have neb:b≠i2:=fun e=>by
   obtain⟨o',ho',hc',_⟩:=hit2
   obtain⟨o,ho,hcl,_⟩:=hT2
   rw [e,ho'] at ho;cases ho;rw [hc'] at hcl;exact absurd hcl (by decide)
  have Tn:∀ c,c∈[z,TI,TO,i1,i2]->s.heap.objs.size≠c:=fun c hc=>by
   simp only [List.mem_cons,List.not_mem_nil,or_false] at hc
   rcases hc with rfl | rfl | rfl | rfl | rfl
   ·exact Nat.ne_of_gt (Heap.lt_size hz)
   ·exact Nat.ne_of_gt (Heap.lt_size hTI)
   ·exact Nat.ne_of_gt (Heap.lt_size hTO)
   ·obtain⟨o,ho,_⟩:=hit1;exact Nat.ne_of_gt (Heap.lt_size ho)
   ·obtain⟨o,ho,_⟩:=hit2;exact Nat.ne_of_gt (Heap.lt_size ho)
  refine HT.zE Z (HT.uj (prog:=X.prog) (w:=X.w) (A:=X.A.in1) hh i1 a nea its.toArray) (HT.uj (prog:=X.prog) (w:=X.w) (A:=X.A.in1) hh i2 b neb its2.toArray) hz hTI hTO ⟨hit1,hT⟩ ⟨hit2,hT2⟩ li li2 fun x' y' h1 tk hx' hy' ez eo st1 st2 hT1 hsz kk=>⟨_,rfl,?_⟩
  refine wpAny_letOwnedTupleGo_zip ez fun h2 ez2 sb=>?_
  generalize hTT:s.heap.objs.size=T at *
  obtain⟨u,hu,ru⟩:=rv.get hx
  obtain⟨u2,hu2,ru2⟩:=rv2.get hy
  have ex:x'=u:=by
   rw [show its.toArray[i]?=its[i]? by simp,hu] at hx'
   exact(Option.some.inj hx').symm
  have ey:y'=u2:=by
   rw [show its2.toArray[i]?=its2[i]? by simp,hu2] at hy'
   exact(Option.some.inj hy').symm
  subst ex ey
  have kall:∀ c o,c ∉ [z,TI,TO,i1,i2]->s.heap.get? c=some o->h2.get? c=some o:=fun c o hb q=>by
   simp only [List.mem_cons,List.not_mem_nil,or_false,not_or] at hb
   exact(sb.2 c hb.1).trans (kk c o hb.1 hb.2.2.1 hb.2.2.2.1 hb.2.2.2.2 q)
  have hTp:IsTupN h2 T #[x',y']:=⟨_,(sb.2 T (Tn z (by simp))).trans hT1,rfl,⟨_,rfl⟩,rfl⟩
  have hTs:s.heap.objs.size<=T:=Nat.le_of_eq hTT
  have TIi:TI≠i1/\TI≠i2:=⟨Z.t1,Z.t2⟩
  refine⟨.ref T,upd H T (.tup [x,y]),I.turnLaid kall hf hTs ⟨by show 2<=sizeLine;decide,[x',y'],.cons ru (.cons ru2 .nil),hTp⟩,rfl,⟨T,x,y,rfl,I.hok.fresh hTs,rfl,fun zs hz=>by rw [I.tuple_inj hz hq];exact hx,fun zs hz=>by rw [I.tuple_inj hz hq2];exact hy⟩,⟨ez2,(sb.2 TI Z.TIz).trans (kk TI _ Z.TIz Z.TITO Z.t1 Z.t2 hTI),⟨x',y',(sb.2 TO Z.TOz).trans eo⟩,?_,?_⟩,fun c hc=>?_⟩
  ·obtain⟨⟨o,ho,r⟩,_⟩:=st1
   exact⟨o,(sb.2 i1 (fun e=>Z.z1 (by simp [e]))).trans ho,r⟩
  ·obtain⟨⟨o,ho,r⟩,_⟩:=st2
   exact⟨o,(sb.2 i2 (fun e=>Z.z2 (by simp [e]))).trans ho,r⟩
  ·rw [bj (Tn c hc).symm]
   exact(hf c hc).1
 done:=by
  intro X hP hw hK hc i pins s σ H E I hf st hg
  subst hP hw hK
  obtain⟨xs,ys,hq,hq2,hl⟩:=hg
  obtain⟨its,rv,p,hz0⟩:=I.tuple hq
  obtain⟨its2,rv2,p2,hz2⟩:=I.tuple hq2
  have hT:s.heap.IsTuple a its.toArray:=p
  have hT2:s.heap.IsTuple b its2.toArray:=p2
  have hh:=I.ok.hd hc
  obtain⟨hz,hTI,⟨u0,v0,hTO⟩,hit1,hit2⟩:=st
  have fin:∀ h' tk,(∀ c o,c≠z->c≠TO->c≠i1->c≠i2->s.heap.get? c=some o->h'.get? c=some o)->(none:Option Value)=none/\Inv X pins σ H { s with heap:=h',toks:=tk }:=fun h' tk kk=>⟨rfl,I.turnedL (fp:=[z,TI,TO,i1,i2]) (fun c o hb q=>by
   simp only [List.mem_cons,List.not_mem_nil,or_false,not_or] at hb
   exact kk c o hb.1 hb.2.2.1 hb.2.2.2.1 hb.2.2.2.2 q) hf⟩
  by_cases h1:xs.length<=i
  ·exact HT.xx Z (Bn (prog:=X.prog) (w:=X.w) (A:=X.A.in1) hh i1 a its.toArray i (by simp;have:=rv.length;omega)) hz hTI hTO ⟨rfl,hit1,hT⟩ fin
  ·have h2:ys.length<=i:=hl.resolve_left h1
   have nea:a≠i1:=fun e=>by
    obtain⟨o',ho',hc',_⟩:=hit1
    obtain⟨o,ho,hcl,_⟩:=hT
    rw [e,ho'] at ho;cases ho;rw [hc'] at hcl;exact absurd hcl (by decide)
   exact HT.xu Z (HT.uj (prog:=X.prog) (w:=X.w) (A:=X.A.in1) hh i1 a nea its.toArray) (Bn (prog:=X.prog) (w:=X.w) (A:=X.A.in1) hh i2 b its2.toArray i (by simp;have:=rv2.length;omega)) hz hTI hTO ⟨hit1,hT⟩ (by simp;have:=rv.length;omega) ⟨rfl,hit2,hT2⟩ fin
 self:=fun A i s Q E st h=>wpAny_pyIter_zip st.1 h
def iZip(K:PySem.W.Frag)(t:TA):TI:=fun σ H R=>t σ H fun xs H1=>∃ a b,xs=[.ref a,.ref b]/\(∃ ys,lI K H1 a ys)/\(∃ ys,lI K H1 b ys)/\R (Itz K a b) H1
variable{X:Cx}
theorem Ia{n t t2:Nat}(h1:t<n)(h2:t2<n):HT.za (n+4) (n+2) (n+3) n (n+1) [n,t] [n+1,t2]:=by
 constructor <;> simp only [List.mem_cons,List.not_mem_nil,or_false,not_or,ne_eq,true_or] <;> (try (show ¬ ((_:Nat)=_))) <;> (try omega)
 all_goals (refine⟨?_,?_⟩ <;> (show ¬ ((_:Nat)=_)) <;> omega)
theorem Mi{n b:Nat}(h:b∈[n+4,n+2,n+3,n,n+1]):n<=b:=by
 simp only [List.mem_cons,List.not_mem_nil,or_false] at h
 omega
theorem QO{a b:Expr}{ta:TA}{es:List Expr}{k:Nat}{tp p pos:Pos}(hg:Gl X "zip")(hm:X.mg "zip" = none)(ha:PA X [a,b] ta)(hs:starEach [a,b] X.env=[(false,eval a X.env),(false,eval b X.env)])(hs2:starEach [b] X.env=[(false,eval b X.env)]) :
  PI X (.Tuple es k tp) (.Call (.Name "zip" p) [a,b] [] pos) (iZip X.K ta):=by
 intro pins s σ H R I h
 refine Call_ (lj I hg hm boot_zip (PyProof.Rows.callWith_type1 (cZ (ha pos pins s σ H _ I h) fun us s1 ⟨vs,H1,I1,r1,q1⟩=>?_) (by rw [hs,hs2]) (by rw [hs2];rfl)))
 obtain⟨t,t2,rfl,⟨ys,hq⟩,⟨ys2,hq2⟩,q⟩:=q1
 obtain⟨u,v,rfl,ru,rv⟩:=r1.two
 cases ru
 cases rv
 obtain⟨its,rv,pt,hz⟩:=I1.tuple hq
 obtain⟨its2,rv2,pt2,hz2⟩:=I1.tuple hq2
 have l1:t<s1.heap.objs.size:=by obtain⟨o,ho,_⟩:=pt;exact Heap.lt_size ho
 have l2:t2<s1.heap.objs.size:=by obtain⟨o,ho,_⟩:=pt2;exact Heap.lt_size ho
 refine HT.HH pt pt2 fun h' hz hTI hTO hi1 hi2 hsz kk=>wpAny_pyIter_zip hz ?_
 have Z:HT.za (s1.heap.objs.size+4) (s1.heap.objs.size+2) (s1.heap.objs.size+3) s1.heap.objs.size (s1.heap.objs.size+1) [s1.heap.objs.size,t] [s1.heap.objs.size+1,t2]:=Ia l1 l2
 refine⟨s1.heap.objs.size+4,[s1.heap.objs.size+4,s1.heap.objs.size+2,s1.heap.objs.size+3,s1.heap.objs.size,s1.heap.objs.size+1],_,_,H1,rfl,I1.kept (t':=s1.toks) kk,Ik t t2 _ _ _ _ _ Z,⟨hz,hTI,⟨_,_,hTO⟩,hi1,hi2⟩,fun b hb=>?_,q⟩
 have hb':s1.heap.objs.size<=b:=Mi hb
 exact I1.fpOk hb' (I1.hok.fresh hb')
end
end L2
namespace M
open PySem PySem.Spec PyProof.Rows L2
section
variable{X:Cx}{K:PySem.W.Frag}{μ μ':Fp}{H H':Hp}{S:ac}
noncomputable def jQ:List D->List D->List D
 | x::r,y::q=>.tup [x,y]::jQ r q
 | _,_=>[]
theorem zg:∀ (xs ys:List D) (i:Nat),(jQ xs ys).length<=i->xs.length<=i\/ys.length<=i
 | [],_,i,_=>.inl (Nat.zero_le _)
 | _::_,[],i,_=>.inr (Nat.zero_le _)
 | x::r,y::q,0,h=>by simp [jQ] at h
 | x::r,y::q,i+1,h=>by
  rw [jQ,List.length_cons] at h
  rcases zg r q i (by omega) with h | h
  ·exact .inl (by rw [List.length_cons];omega)
  ·exact .inr (by rw [List.length_cons];omega)
theorem zh:∀ (xs ys:List D) (i:Nat) (d:D),(jQ xs ys)[i]?=some d->∃ x y,xs[i]?=some x/\ys[i]?=some y/\d=.tup [x,y]
 | [],_,i,d,h=>by simp [jQ] at h
 | _::_,[],i,d,h=>by simp [jQ] at h
 | x::r,y::q,0,d,h=>by simp [jQ] at h;exact⟨x,y,rfl,rfl,h.symm⟩
 | x::r,y::q,i+1,d,h=>by
  rw [jQ,List.getElem?_cons_succ] at h
  simpa using zh r q i d h
theorem Kl{a b:Addr}{xs ys:List D}(r:Rep K μ H (.ref a) (.tup xs))(q:Rep K μ H (.ref b) (.tup ys)):DZ K μ H (Itz K a b) (jQ xs ys):=fun μ' H' S' e s i=>by
 have r':=r.monoP e
 have q':=q.monoP e
 obtain⟨b1,vs,hb,hq,rs⟩:=r'.sqT
 cases hb
 obtain⟨b2,ws,hb,hq2,qs⟩:=q'.sqT
 cases hb
 refine⟨fun d hd=>?_,fun hl=>⟨vs,ws,hq,hq2,by rw [rs.length,qs.length];exact zg _ _ _ hl⟩⟩
 obtain⟨x,y,hx,hy,rfl⟩:=zh xs ys i d hd
 obtain⟨v,hv,rv⟩:=rs.get hx
 obtain⟨u,hu,ru⟩:=qs.get hy
 refine⟨⟨vs,ws,v,u,hq,hq2,hv,hu⟩,fun y H2 hy=>?_⟩
 obtain⟨p,v',u',rfl,hp,rfl,hw,hw2⟩:=hy
 have ev:v'=v:=by have:=hw vs hq;rw [hv] at this;exact(Option.some.inj this).symm
 have eu:u'=u:=by have:=hw2 ws hq2;rw [hu] at this;exact(Option.some.inj this).symm
 subst ev eu
 obtain⟨e2,s2⟩:=s.laid (o:=.tup [v',u']) hp
 refine⟨e2,s2,?_⟩
 exact .tup bv (s.notMem hp) (.cons (rv.mono e2) (.cons (ru.mono e2) .nil))
noncomputable def nT(ms:MA):MA:=fun env S=>(ms env S).bind fun p=>match p.1 with | [.tup xs,.tup ys]=>some (jQ xs ys,p.2) | _=>none
theorem SU{a b:Expr}{ms:MA}{es:List Expr}{k:Nat}{tp p pos:Pos}(hm:X.mg "zip" = none)(ha:DA X [a,b] ms)(hg:Gl X "zip")(hs:starEach [a,b] X.env=[(false,eval a X.env),(false,eval b X.env)])(hs2:starEach [b] X.env=[(false,eval b X.env)]) :
  DI X (.Tuple es k tp) (.Call (.Name "zip" p) [a,b] [] pos) (nT ms):=PI.imp (QO hg hm ha hs hs2) fun σ H R ⟨μ,S,env,xs,S',hS,hE,h,post⟩=>by
 obtain⟨⟨ds,S1⟩,h1,h⟩:=Option.bind_eq_some_iff.mp h
 refine⟨μ,S,env,ds,S1,hS,hE,h1,fun vs H1 μ1 e1 s1 r1=>?_⟩
 dsimp only at h
 split at h
 ·rename_i xs ys
  cases h
  obtain⟨v,u,rfl,rv,ru⟩:=r1.two
  have rv':=rv
  have ru':=ru
  obtain⟨b,ws,rfl,hq,rs⟩:=rv.sqT
  obtain⟨b2,ws2,rfl,hq2,rs2⟩:=ru.sqT
  exact⟨b,b2,rfl,⟨ws,hq⟩,⟨ws2,hq2⟩,post _ H1 μ1 e1 s1 (Kl rv' ru')⟩
 ·cases h
end
end M
namespace M
open PySem PySem.Spec PyProof.Rows L2
section
variable{X:Cx}{K:PySem.W.Frag}{μ μ':Fp}{H H':Hp}{S S':ac}
noncomputable def eW:D->Option bz
 | .int i=>some (.inl i)
 | .str x=>some (.inr x)
 | _=>none
theorem mT{v:V}{d:D}{k:bz}(h:eW d=some k)(r:Rep K μ H v d):v=kV k:=by
 cases d <;> first | cases h | skip
 ·rw [r.int_inv];rfl
 ·rw [r.str_inv];rfl
noncomputable def iV(kvs:List (bz×D))(k:bz):Option D:=match kvs with
 | []=>none
 | p::r=>if p.1=k then some p.2 else iV r k
def GQ(kvs:List (bz×D))(k:bz):Bool:=match kvs with
 | []=>false
 | p::r=>if p.1=k then true else GQ r k
noncomputable def Mv(kvs:List (bz×D))(k:bz)(d:D):List (bz×D):=match kvs with
 | []=>[]
 | p::r=>(if p.1=k then (p.1,d) else p)::Mv r k d
noncomputable def IV(kvs:List (bz×D))(k:bz)(d:D):List (bz×D):=if GQ kvs k then Mv kvs k d else kvs++[(k,d)]
noncomputable def cD(kvs:List (bz×D)):List (bz×D)->List (bz×D)
 | []=>kvs
 | p::r=>cD (IV kvs p.1 p.2) r
inductive KR(K:PySem.W.Frag)(μ:Fp)(H:Hp):List (bz×V)->List (bz×D)->Prop
 | nil:KR K μ H [] []
 | cons {k:bz} {v:V} {d:D} {vs:List (bz×V)} {ds:List (bz×D)} (h:Rep K μ H v d) (t:KR K μ H vs ds):KR K μ H ((k,v)::vs) ((k,d)::ds)
theorem KR.keys:∀ {vs ds},KR K μ H vs ds->vs.map (·.1)=ds.map (·.1)
 | _,_,.nil=>rfl
 | _,_,.cons _ t=>by rw [List.map_cons,List.map_cons,KR.keys t]
theorem KR.reps:∀ {vs ds},KR K μ H vs ds->Reps K μ H (vs.map (·.2)) (ds.map (·.2))
 | _,_,.nil=>.nil
 | _,_,.cons h t=>.cons h (KR.reps t)
theorem KR.length:∀ {vs ds},KR K μ H vs ds->vs.length=ds.length
 | _,_,.nil=>rfl
 | _,_,.cons _ t=>by rw [List.length_cons,List.length_cons,KR.length t]
theorem KR.less{p:Addr}{cs fb:List Addr}:∀ {vs ds},KR K ⟨cs,p::fb⟩ H vs ds->KR K ⟨cs,fb⟩ H vs ds
 | _,_,.nil=>.nil
 | _,_,.cons h t=>.cons h.less (KR.less t)
theorem KR.chg{p:Addr}{o:HO}(hp:p ∈ μ.fb):∀ {vs ds},KR K μ H vs ds->KR K μ (upd H p o) vs ds
 | _,_,.nil=>.nil
 | _,_,.cons h t=>.cons (h.chg hp) (KR.chg hp t)
theorem KR.of:∀ {kvs:List (bz×V)} {ks:List bz} {ds:List D},ks=kvs.map (·.1)->Reps K μ H (kvs.map (·.2)) ds->KR K μ H kvs (ks.zip ds)
 | [],_,_,e,r=>by subst e;cases r;exact .nil
 | p::q,_,_,e,r=>by
  subst e
  rw [List.map_cons] at r
  cases r with | cons h t=>exact .cons h (KR.of rfl t)
theorem KR.val{k:bz}:∀ {vs ds},KR K μ H vs ds->∀ {d},iV ds k=some d->∃ v,rR vs k=some v/\Rep K μ H v d
 | _,_,.nil,d,h=>by cases h
 | _,_,.cons (k:=k') h t,d,q=>by
  unfold iV at q
  split at q
  ·rename_i e;cases q;exact⟨_,rP e,h⟩
  ·rename_i e
   obtain⟨v,h1,h2⟩:=KR.val t q
   exact⟨v,(rQ e).trans h1,h2⟩
theorem KR.has{k:bz}:∀ {vs ds},KR K μ H vs ds->(vs.any fun kv=>decide (kv.1=k))=GQ ds k
 | _,_,.nil=>rfl
 | _,_,.cons (k:=k') h t=>by
  rw [List.any_cons,KR.has t]
  unfold GQ
  by_cases e:k'=k
  ·simp [e]
  ·simp only [decide_eq_false e,Bool.false_or,if_neg e];cases t <;> rfl
theorem KR.setv{k:bz}{x:V}{d:D}(r:Rep K μ H x d):∀ {vs ds},KR K μ H vs ds->KR K μ H (vs.map fun kv=>if kv.1=k then (kv.1,x) else kv) (Mv ds k d)
 | _,_,.nil=>.nil
 | _,_,.cons (k:=k') h t=>by
  rw [List.map_cons]
  unfold Mv
  by_cases e:k'=k
  ·simp only [if_pos e];exact .cons r (KR.setv r t)
  ·simp only [if_neg e];exact .cons h (KR.setv r t)
theorem KR.snoc{k:bz}{x:V}{d:D}(r:Rep K μ H x d):∀ {vs ds},KR K μ H vs ds->KR K μ H (vs++[(k,x)]) (ds++[(k,d)])
 | _,_,.nil=>.cons r .nil
 | _,_,.cons h t=>.cons h (KR.snoc r t)
theorem KR.put{k:bz}{x:V}{d:D}{vs ds}(r:Rep K μ H x d)(t:KR K μ H vs ds):KR K μ H (uM vs k x) (IV ds k d):=by
 unfold uM IV
 rw [t.has]
 split
 ·exact t.setv r
 ·exact t.snoc r
theorem KR.merge:∀ {ws es vs ds},KR K μ H ws es->KR K μ H vs ds->KR K μ H (iZ vs ws) (cD ds es)
 | _,_,_,_,.nil,t=>t
 | _,_,vs,ds,.cons (k:=k) (v:=v) (d:=d) h q,t=>by
  have:=KR.merge q (t.put (k:=k) h)
  exact this
noncomputable abbrev MP:=bm->ac->Option (List (bz×D)×ac)
noncomputable def jS:List (ME×ME)->MP
 | []=>fun _ S=>some ([],S)
 | (a,b)::r=>fun env S=>(a env S).bind fun p=>(eW p.1).bind fun k=>(b env p.2).bind fun q=>(jS r env q.2).bind fun z=>some ((k,q.1)::z.1,z.2)
def DPs(X:Cx)(pos:Pos)(keys:List (Option Expr))(values:List Expr)(ms:List (ME×ME)):Prop:=PPs X pos keys values (ms.map fun p=>(tM X.K p.1,tM X.K p.2))
theorem OG{pos:Pos}:DPs X pos [] [] []:=MX
theorem Ly{pos:Pos}{k v:Expr}{ks:List (Option Expr)}{vs:List Expr}{mk mv:ME}{ms:List (ME×ME)}(hk:DE X k mk)(hv:DE X v mv)(hr:DPs X pos ks vs ms):DPs X pos (some k::ks) (v::vs) ((mk,mv)::ms):=Jf hk hv hr
theorem pC{σ:L2.St}{env:bm}:∀ {ms:List (ME×ME)} {μ:Fp} {H:Hp} {S S':ac} {kvs:List (bz×D)} {Q:List (V×V)->Hp->Prop},SOk K μ S H->EOk K μ H σ env->jS ms env S=some (kvs,S') ->
  (∀ vs H' μ',Ext μ H μ' H'->SOk K μ' S' H'->KR K μ' H' vs kvs->Q (vs.map fun kv=>(kV kv.1,kv.2)) H')->wS (ms.map fun p=>(tM K p.1,tM K p.2)) σ H Q
 | [],μ,H,S,S',kvs,Q,s,e,h,q=>by cases h;exact q [] H μ s.ext s .nil
 | (a,b)::r,μ,H,S,S',kvs,Q,s,e,h,q=>by
  obtain⟨⟨x,S1⟩,h1,h⟩:=Option.bind_eq_some_iff.mp h
  obtain⟨k,h2,h⟩:=Option.bind_eq_some_iff.mp h
  obtain⟨⟨y,S2⟩,h3,h⟩:=Option.bind_eq_some_iff.mp h
  obtain⟨⟨zs,S3⟩,h4,h⟩:=Option.bind_eq_some_iff.mp h
  cases h
  refine⟨μ,S,env,x,S1,s,e,h1,fun v H1 μ1 e1 s1 r1=>⟨μ1,S1,env,y,S2,s1,e.mono e1,h3,fun w H2 μ2 e2 s2 r2=>pC s2 ((e.mono e1).mono e2) h4 fun vs H3 μ3 e3 s3 r3=>?_⟩⟩
  have:=q ((k,w)::vs) H3 μ3 ((e1.trans e2).trans e3) s3 (.cons (r2.mono e3) r3)
  rw [List.map_cons] at this
  rw [mT h2 r1]
  exact this
theorem Ext.shut{p:Addr}{o o':HO}{cs fb:List Addr}{μ2:Fp}{H2:Hp}{S2:ac}(hp:H p=none)(hn:p ∉ fb)(e:Ext ⟨cs,p::fb⟩ (upd H p o) μ2 H2)(s:SOk K μ2 S2 H2) :
  Ext ⟨cs,fb⟩ H ⟨μ2.cs,fb⟩ (upd H2 p o')/\SOk K ⟨μ2.cs,fb⟩ S2 (upd H2 p o')/\(⟨μ2.cs,fb⟩:Fp).no p/\(∀ vs ds,KR K μ2 H2 vs ds->KR K ⟨μ2.cs,fb⟩ (upd H2 p o') vs ds)/\H2 p=some o:=by
 have pm:p ∈ μ2.fb:=by rw [e.fb];exact List.mem_cons_self
 have ncs:p ∉ μ2.cs:=s.disj p pm
 have ncs0:p ∉ cs:=fun z=>ncs (by obtain⟨l,q,_⟩:=e.pre;rw [q];exact List.mem_append_left _ z)
 have ef:μ2=⟨μ2.cs,p::fb⟩:=by have:=e.fb;obtain⟨a,b⟩:=μ2;simp only at this;rw [this]
 refine⟨⟨rfl,?_,fun a o2 na ha=>?_,fun a ha=>?_⟩,?_,⟨ncs,?_⟩,fun vs ds r=>?_,e.keep p o ncs0 bv⟩
 ·obtain⟨l,q,hl⟩:=e.pre
  refine⟨l,q,fun a ha=>?_⟩
  have:=hl a ha
  by_cases z:a=p
  ·subst z;exact hp
  ·rwa [bj z] at this
 ·have z:=cq ha hp
  rw [bj z]
  exact e.keep a o2 na ((bj z).trans ha)
 ·have z:a≠p:=fun z=>ncs (z ▸ ha)
  rw [bj z];exact e.dom a ha
 ·have:=(s.chg (o:=o') pm)
  rw [ef] at this
  exact this.less
 ·exact hn
 ·have:=r.chg (o:=o') pm
  rw [ef] at this
  exact this.less
noncomputable def iE(ms:List (ME×ME)):ME:=fun env S=>(jS ms env S).bind fun z=>if z.1.length<=15 then some (.dct ((cD [] z.1).map (·.1)) ((cD [] z.1).map (·.2)),z.2) else none
theorem OP{pos:Pos}{keys:List (Option Expr)}{values:List Expr}{ms:List (ME×ME)}(h:DPs X pos keys values ms)(hall:keys.all (·.isSome)=true)(hl:keys.length=values.length)(h0:keys≠[])(h15:keys.length<=15) :
  DE X (.Dict keys values pos) (iE ms):=PE.imp (Eo h hall hl h0 h15) fun σ H Q ⟨μ,S,env,d,S',hS,hE,hm,post⟩=>by
 obtain⟨⟨kvs,S1⟩,h1,hm⟩:=Option.bind_eq_some_iff.mp hm
 dsimp only at hm
 split at hm
 ·rename_i hl
  cases hm
  intro p hp
  obtain⟨cs,fb⟩:=μ
  refine pC (hS.more hp) (hE.more hp) h1 fun vs H2 μ2 e2 s2 r2=>?_
  obtain⟨eF,sF,nF,rF,hF⟩:=Ext.shut (o':=.dK (iZ [] vs)) hp (hS.notMem hp).2 e2 s2
  refine⟨hF,vs,rfl,by rw [r2.length];exact hl,post _ _ _ eF sF ?_⟩
  have rr:=(rF _ _ r2).merge KR.nil
  have:=Rep.dct (K:=X.K) (bv (H:=H2) (o:=.dK (iZ [] vs))) nF rr.reps
  rw [rr.keys] at this
  exact this
 ·cases hm
noncomputable def zl(S:ac):D->Option (List (bz×D))
 | .dct ks vs=>some (ks.zip vs)
 | .ref r=>match S[r]? with | some (.dct ks vs)=>some (ks.zip vs) | _=>none
 | _=>none
theorem Mo{v:V}{d:D}{kvs:List (bz×D)}(s:SOk K μ S H)(r:Rep K μ H v d)(h:zl S d=some kvs):∃ a vs,v=.ref a/\H a=some (.dK vs)/\KR K μ H vs kvs:=by
 cases r with
 | dct hd n rr=>cases h;exact⟨_,_,rfl,hd,KR.of rfl rr⟩
 | ref hr=>
  rename_i a i
  unfold zl at h
  dsimp only at h
  cases q:S[i]? with
  | none=>rw [q] at h;cases h
  | some c=>
   rw [q] at h
   have ck:=s.cell _ _ _ hr q
   cases c with
   | lst _=>cases h
   | dct ks xs=>cases h;obtain⟨vs,e,hk,rr⟩:=ck;exact⟨a,vs,rfl,e,KR.of hk rr⟩
 | _=>cases h
noncomputable def aw(S:ac)(x y:D):Option D:=match zl S x with
 | some kvs=>(eW y).bind fun k=>iV kvs k
 | none=>fIx S x y
theorem NU(hu:X.A.units+1<cLine):IxR X (fun x y H Q=>∃ a v,x=.ref a/\DGet H a y (some v)/\Q v H):=by
 intro value slice pins s σ H x y v u Q I rx ry h hs
 obtain⟨a,z,rfl,g,q⟩:=h
 cases rx
 exact tail_any (Bq I g) F.slot_dict_getitem.lookup (Hz hu I g ry fun w' s' I' rw'=>⟨z,H,I',rw',q⟩) hs
theorem ix_DX(hu:X.A.units+1<cLine):IxR X (nq X.K aw):=IxR.imp ((NU hu).or ix_D) fun x y H Q ⟨μ,S,dx,dy,dz,hS,h1,h2,h3,post⟩=>by
 unfold aw at h3
 split at h3
 ·rename_i kvs hk
  obtain⟨k,h4,h5⟩:=Option.bind_eq_some_iff.mp h3
  obtain⟨a,vs,rfl,ha,rr⟩:=Mo hS h1 hk
  obtain⟨v,h6,h7⟩:=rr.val h5
  refine .inl ⟨a,v,rfl,?_,post.here hS h7⟩
  rw [mT h4 h2,<- h6]
  exact DGet.k ha
 ·exact .inr ⟨μ,S,dx,dy,dz,hS,h1,h2,h3,post⟩
theorem Tg{a b:Expr}{ma mb:ME}{pos:Pos}(hu:X.A.units+1<cLine)(ha:DE X a ma)(hb:DE X b mb)(hs:nj b:=by intro _ _;rfl):DE X (.Subscript a b pos) (au aw ma mb):=
 PE.imp (Jl (ix_DX hu) ha hb hs) fun _ _ _ h=>wT h
end
end M
namespace L2
open PySem PySem.Spec PyProof.Rows
section
variable{X:Cx}{o e:Expr}{es:List Expr}{to:TE}{t:TA}{name:Str}{apos cpos:Pos}{id:String}{r:V->List V->Hp->VK->Prop}
def tBD(r:V->List V->Hp->VK->Prop)(to:TE)(t:TA):TE:=fun σ H Q=>to σ H fun x H1=>(∃ p,x=.ref p/\IsD H1 p)/\t σ H1 fun xs H2=>r x xs H2 Q
theorem QZ(slot:Slot "dict" name id)(hty:typeOf (.builtin id)=pure (.type "method_descriptor"))(hm:MtR X id r)(ho:PE X o to)(ha:PA X (e::es) t)
  (hbase:attributeBase o name X.env (eval o X.env)=eval o X.env)
  (hfew:((backTo cpos (starEach (e::es) X.env)).all (fun x=>!x.1)&&(backToKw cpos (keywordEach [] X.env)).all (fun x=>x.1.isSome)&&decide ((e::es).length+([]:List Keyword).length+(if ([]:List Keyword).isEmpty then 0 else 1)<30))=true)
  (hline:(apos.endLine == cpos.line)=true) (hs:starEach (e::es) X.env=(false,eval e X.env)::starEach es X.env) (hplain:(backTo cpos (starEach es X.env)).any (·.1)=false) :
  PE X (.Call (.Attribute o name apos) (e::es) [] cpos) (tBD r to t):=by
 intro pins s σ H Q I h
 refine wpAny_Call_method_late hbase hfew hline rfl (cZ (ho pins s σ H _ I h) fun v s1 ⟨x,H1,I1,r1,ty,q1⟩=>?_)
 obtain⟨p,rfl,hq⟩:=ty
 cases r1
 obtain⟨t1,t2,_⟩:=Sh I1 hq
 refine⟨"dict",id,F.plainAttrs_dict,slot,hty,t1,t2,?_⟩
 have hA:=ha cpos pins s1 σ H1 _ I1 q1
 rw [hs] at hA ⊢
 refine Calls.callWith_builtin (by show (false||(backTo cpos (starEach es X.env)).any (·.1))=false;rw [hplain] <;> rfl) (Calls.evalArgs_plain ?_)
 exact cZ hA fun us s2 ⟨vs,H2,I2,r2,q2⟩=>hm pins s2 σ H2 (V.ref p) vs _ us Q I2 (show RelV (V.ref p) (Value.ref p) from rfl) r2 q2
theorem Cq:MtR X "dict.update" (fun x xs H Q=>∃ a b kvs more,x=.ref a/\xs=[.ref b]/\a≠b/\H a=some (.dK kvs)/\H b=some (.dK more)/\kvs.length+more.length<=sizeLine/\Q .non (upd H a (.dK (iZ kvs more)))):=by
 intro pins s σ H x xs v us Q I rx rv h
 obtain⟨a,b,kvs,more,rfl,rfl,ne,ha,hb,hl,q⟩:=h
 cases rx
 obtain⟨u,rfl,ru⟩:=rv.one
 cases ru
 obtain⟨z,hd,vs,r0,dd⟩:=LC I.hok ha
 obtain⟨z2,hd2,vs2,r2,dd2⟩:=LC I.hok hb
 have l1:=r0.length
 have l2:=r2.length
 refine call_meetsIn F.slot_dict_update dd.typeIs F.entry_dict_update (F.args_dict_update_2 _ _) (meets_dict_update (ca X.prog X.w) a b ne hd2) ⟨vs,vs2,dd,dd2,by omega,fun h' dd' _ hs=>?_⟩
 have hz:(iZ kvs more).length<=sizeLine:=by
  have h1:=jV more kvs
  omega
 have he:∃ q,h'.get? a=some q:=let ⟨q,_,_,hq,_⟩:=dd';⟨q,hq⟩
 exact⟨.non,_,Fl I (by rw [ha];exact True.intro) hs he (LD hz hd (r2.merge r0) dd'),rfl,q⟩
end
end L2
namespace M
open PySem PySem.Spec PyProof.Rows L2
section
variable{X:Cx}{K:PySem.W.Frag}{μ μ':Fp}{H H':Hp}{S S':ac}
theorem SOk.writeD{S:ac}(s:SOk K μ S H){i:Nat}{a:Addr}{kvs kvs':List (bz×V)}{ks:List bz}{ds:List D}(hi:μ.cs[i]?=some a)(h:H a=some (.dK kvs))(hk:ks=kvs'.map (·.1))(r:Reps K μ H (kvs'.map (·.2)) ds) :
  Ext μ H μ (upd H a (.dK kvs'))/\SOk K μ (S.set i (.dct ks ds)) (upd H a (.dK kvs')):=by
 have ha:=List.mem_of_getElem? hi
 have e:Ext μ H μ (upd H a (.dK kvs')):=⟨rfl,⟨[],by simp,fun _ z=>by simp at z⟩,fun b o' n q=>by rw [bj (by rintro rfl;exact n ha)];exact q,fun b hb=>by
  by_cases z:b=a
  ·subst z;rw [bv];simp
  ·rw [bj z];exact s.dom b hb⟩
 refine⟨e,s.nd,by simp [s.len],fun j b c h1 h2=>?_,fun b hb=>?_,s.disj⟩
 case refine_2=>
  by_cases z:b=a
  ·subst z;rw [bv];simp
  ·rw [bj z];exact s.fdom b hb
 by_cases hj:j=i
 ·subst hj
  rw [hi] at h1;cases h1
  have hl:j<S.length:=by rw [<- s.len];exact(List.getElem?_eq_some_iff.mp hi).1
  rw [List.getElem?_set_self hl] at h2
  cases h2
  exact⟨kvs',bv,hk,r.mono e⟩
 ·rw [List.getElem?_set_ne (Ne.symm hj)] at h2
  refine(s.cell j b c h1 h2).mono e (bj fun z=>hj ?_)
  subst z
  exact Ew s.nd h1 hi
theorem zV{p a:Addr}{cs fb:List Addr}(n:(⟨cs,p::fb⟩:Fp).no a):(⟨cs++[p],fb⟩:Fp).no a:=
 ⟨fun z=>(List.mem_append.mp z).elim n.1 fun z=>n.2 (by rw [List.mem_singleton.mp z];exact List.mem_cons_self),fun z=>n.2 (List.mem_cons_of_mem _ z)⟩
theorem Rep.adopt{p:Addr}{cs fb:List Addr}{v:V}{d:D}(r:Rep K ⟨cs,p::fb⟩ H v d):Rep K ⟨cs++[p],fb⟩ H v d:=r.imp (fun h n=>⟨h,zV n⟩) fun h=>yX rfl h
theorem Reps.adopt{p:Addr}{cs fb:List Addr}{v:List V}{d:List D}(r:Reps K ⟨cs,p::fb⟩ H v d):Reps K ⟨cs++[p],fb⟩ H v d:=r.imp (fun h n=>⟨h,zV n⟩) fun h=>yX rfl h
theorem KR.adopt{p:Addr}{cs fb:List Addr}:∀ {vs ds},KR K ⟨cs,p::fb⟩ H vs ds->KR K ⟨cs++[p],fb⟩ H vs ds
 | _,_,.nil=>.nil
 | _,_,.cons h t=>.cons h.adopt (KR.adopt t)
theorem Ext.shutR{p:Addr}{o:HO}{cs fb:List Addr}{μ2:Fp}{H2:Hp}{S2:ac}{vs:List (bz×V)}{kvs:List (bz×D)}(hp:H p=none)(hn:p ∉ fb)(e:Ext ⟨cs,p::fb⟩ (upd H p o) μ2 H2)(s:SOk K μ2 S2 H2)(r:KR K μ2 H2 vs kvs) :
  Ext ⟨cs,fb⟩ H ⟨μ2.cs++[p],fb⟩ (upd H2 p (.dK vs))/\SOk K ⟨μ2.cs++[p],fb⟩ (S2++[.dct (kvs.map (·.1)) (kvs.map (·.2))]) (upd H2 p (.dK vs))/\H2 p=some o:=by
 have pm:p ∈ μ2.fb:=by rw [e.fb];exact List.mem_cons_self
 have ncs:p ∉ μ2.cs:=s.disj p pm
 have ncs0:p ∉ cs:=fun z=>ncs (by obtain⟨l,q,_⟩:=e.pre;rw [q];exact List.mem_append_left _ z)
 have ef:μ2.fb=p::fb:=e.fb
 obtain⟨cs2,fb2⟩:=μ2
 simp only at ef pm ncs
 subst ef
 refine⟨⟨rfl,?_,fun a o2 na ha=>?_,fun a ha=>?_⟩,⟨?_,by simp [s.len],fun i a c h1 h2=>?_,fun a ha=>?_,fun a ha z=>?_⟩,e.keep p o ncs0 bv⟩
 ·obtain⟨l,q,hl⟩:=e.pre
  simp only at q
  refine⟨l++[p],by rw [q,List.append_assoc],fun a ha=>?_⟩
  rcases List.mem_append.mp ha with ha | ha
  ·have:=hl a ha
   by_cases z:a=p
   ·subst z;exact hp
   ·rwa [bj z] at this
  ·rw [List.mem_singleton.mp ha];exact hp
 ·have z:=cq ha hp
  rw [bj z]
  exact e.keep a o2 na ((bj z).trans ha)
 ·by_cases z:a=p
  ·subst z;rw [bv];simp
  ·rw [bj z]
   rcases List.mem_append.mp ha with ha | ha
   ·exact e.dom a ha
   ·exact absurd (List.mem_singleton.mp ha) z
 ·exact List.nodup_append.mpr ⟨s.nd,by simp,fun a ha b hb=>by rw [List.mem_singleton.mp hb];exact fun z=>ncs (z ▸ ha)⟩
 ·have sc:=s.chg (o:=.dK vs) pm
  by_cases hi:i<cs2.length
  ·rw [List.getElem?_append_left hi] at h1
   rw [List.getElem?_append_left (by rw [<- s.len];exact hi)] at h2
   have ck:=sc.cell i a c h1 h2
   cases c with
   | lst ds=>obtain⟨ws,h,r⟩:=ck;exact⟨ws,h,r.adopt⟩
   | dct ks ds=>obtain⟨ws,h,q,r⟩:=ck;exact⟨ws,h,q,r.adopt⟩
  ·have hi':i=cs2.length:=by
    have:=(List.getElem?_eq_some_iff.mp h1).1
    simp at this;omega
   subst hi'
   rw [List.getElem?_append_right (Nat.le_refl _)] at h1
   rw [show cs2.length=S2.length from s.len,List.getElem?_append_right (Nat.le_refl _)] at h2
   simp at h1 h2
   subst h1 h2
   have rc:=(r.chg (o:=.dK vs) pm).adopt
   exact⟨vs,bv,rc.keys.symm,rc.reps⟩
 ·by_cases z:a=p
  ·subst z;rw [bv];simp
  ·rw [bj z];exact s.fdom a (List.mem_cons_of_mem _ ha)
 ·rcases List.mem_append.mp z with z | z
  ·exact s.disj a (List.mem_cons_of_mem _ ha) z
  ·exact hn (List.mem_singleton.mp z ▸ ha)
noncomputable def fG(ms:List (ME×ME)):ME:=fun env S=>(jS ms env S).bind fun z=>if z.1.length<=15 then some (.ref z.2.length,z.2++[.dct ((cD [] z.1).map (·.1)) ((cD [] z.1).map (·.2))]) else none
theorem LL{pos:Pos}{keys:List (Option Expr)}{values:List Expr}{ms:List (ME×ME)}(h:DPs X pos keys values ms)(hall:keys.all (·.isSome)=true)(hl:keys.length=values.length)(h0:keys≠[])(h15:keys.length<=15) :
  DE X (.Dict keys values pos) (fG ms):=PE.imp (Eo h hall hl h0 h15) fun σ H Q ⟨μ,S,env,d,S',hS,hE,hm,post⟩=>by
 obtain⟨⟨kvs,S1⟩,h1,hm⟩:=Option.bind_eq_some_iff.mp hm
 dsimp only at hm
 split at hm
 ·rename_i hl
  cases hm
  intro p hp
  obtain⟨cs,fb⟩:=μ
  refine pC (hS.more hp) (hE.more hp) h1 fun vs H2 μ2 e2 s2 r2=>?_
  obtain⟨eF,sF,hF⟩:=Ext.shutR hp (hS.notMem hp).2 e2 s2 (r2.merge KR.nil)
  exact⟨hF,vs,rfl,by rw [r2.length];exact hl,post _ _ _ eF sF (.ref (by rw [<- s2.len];simp))⟩
 ·cases hm
noncomputable def LO(S:ac):D->Bool
 | .dct _ _=>true
 | .ref r=>match S[r]? with | some (.dct _ _)=>true | _=>false
 | _=>false
theorem OT{v:V}{d:D}(s:SOk K μ S H)(r:Rep K μ H v d)(h:LO S d=true):∃ a,v=.ref a/\IsD H a:=by
 cases r with
 | dct hd n rr=>exact⟨_,rfl,.inl ⟨_,.inl hd⟩⟩
 | ref hr=>
  rename_i a i
  unfold LO at h
  dsimp only at h
  cases q:S[i]? with
  | none=>rw [q] at h;cases h
  | some c=>
   rw [q] at h
   have ck:=s.cell _ _ _ hr q
   cases c with
   | lst _=>cases h
   | dct ks xs=>obtain⟨vs,e,hk,rr⟩:=ck;exact⟨a,rfl,.inl ⟨_,.inl e⟩⟩
 | _=>cases h
noncomputable def fGetD:MF:=fun o ds S=>(zl S o).bind fun kvs=>match ds with
 | [y]=>(eW y).bind fun k=>some ((iV kvs k).getD .non,S)
 | [y,d]=>(eW y).bind fun k=>some ((iV kvs k).getD d,S)
 | _=>none
noncomputable def ud:MF:=fun o ds S=>match o,ds with
 | .ref r,[.dct ks2 vs2]=>match S[r]? with
  | some (.dct ks vs)=>if ks.length+ks2.length<=sizeLine then some (.non,S.set r (.dct ((cD (ks.zip vs) (ks2.zip vs2)).map (·.1)) ((cD (ks.zip vs) (ks2.zip vs2)).map (·.2)))) else none
  | _=>none
 | _,_=>none
theorem NF:MtR X "dict.update" (Mg X.K ud):=MtR.imp Cq fun x vs H Q ⟨μ,S,dx,ds,d,S',hS,r1,r2,h,post⟩=>by
 unfold ud at h
 split at h
 ·rename_i r ks2 vs2
  cases q:S[r]? with
  | none=>rw [q] at h;cases h
  | some c=>
   rw [q] at h
   cases c with
   | lst _=>cases h
   | dct ks xs=>
    dsimp only at h
    split at h
    ·rename_i hz
     cases h
     obtain⟨v,rfl,rv⟩:=r2.one
     cases r1 with
     | @ref a _ h'=>
      obtain⟨kvs,hw,hk,rw'⟩:=hS.cell r a _ h' q
      cases rv with
      | @dct b more _ hb nb rb=>
       have k1:=KR.of hk rw'
       have k2:=KR.of rfl rb
       have kk:=k2.merge k1
       obtain⟨e,s'⟩:=hS.writeD h' hw (kvs':=iZ kvs more) (ks:=(cD (ks.zip xs) ((more.map (·.1)).zip vs2)).map (·.1)) kk.keys.symm kk.reps
       refine⟨a,b,kvs,more,rfl,rfl,fun z=>nb.1 (z ▸ List.mem_of_getElem? h'),hw,hb,?_,post _ _ μ e s' .non⟩
       rw [hk,List.length_map,List.length_map] at hz
       exact hz
    ·cases h
 ·cases h
noncomputable def fD(f:MF)(o:ME)(ms:MA):ME:=fun env S=>(o env S).bind fun p=>if LO p.2 p.1=true then (ms env p.2).bind fun q=>f p.1 q.1 q.2 else none
theorem LJ{o e:Expr}{es:List Expr}{mo:ME}{ms:MA}{f:MF}{name:Str}{id:String}{apos cpos:Pos}(slot:Slot "dict" name id)(hty:typeOf (.builtin id)=pure (.type "method_descriptor"))(hm:MtR X id (Mg X.K f))(ho:DE X o mo)(ha:DA X (e::es) ms)
  (hbase:attributeBase o name X.env (eval o X.env)=eval o X.env)
  (hfew:((backTo cpos (starEach (e::es) X.env)).all (fun x=>!x.1)&&(backToKw cpos (keywordEach [] X.env)).all (fun x=>x.1.isSome)&&decide ((e::es).length+([]:List Keyword).length+(if ([]:List Keyword).isEmpty then 0 else 1)<30))=true)
  (hline:(apos.endLine == cpos.line)=true) (hs:starEach (e::es) X.env=(false,eval e X.env)::starEach es X.env) (hpl:(backTo cpos (starEach es X.env)).any (·.1)=false) :
  DE X (.Call (.Attribute o name apos) (e::es) [] cpos) (fD f mo ms):=
 PE.imp (QZ slot hty hm ho ha hbase hfew hline hs hpl) fun σ H Q ⟨μ,S,env,d,S',hS,hE,h,post⟩=>by
  obtain⟨⟨x,S1⟩,h1,h⟩:=Option.bind_eq_some_iff.mp h
  dsimp only at h
  split at h
  ·rename_i hl
   obtain⟨⟨xs,S2⟩,h2,h⟩:=Option.bind_eq_some_iff.mp h
   refine⟨μ,S,env,x,S1,hS,hE,h1,fun v H1 μ1 e1 s1 r1=>⟨?_,μ1,S1,env,xs,S2,s1,hE.mono e1,h2,fun vs H2 μ2 e2 s2 r2=>⟨μ2,S2,x,xs,d,S',s2,r1.mono e2,r2,h,(post.ext e1).ext e2⟩⟩⟩
   exact OT s1 r1 hl
  ·cases h
end
end M
namespace L2
open PySem PySem.Spec PyProof.Rows
section
variable{X:Cx}{a b:Expr}{rest:List Expr}{ta tb:TE}{pos:Pos}
def tAndX(K:PySem.W.Frag)(ta tb:TE):TE:=fun σ H Q=>ta σ H fun x H1=>∃ c,HS K x H1 c/\if c=true then tb σ H1 Q else Q x H1
def tOrX(K:PySem.W.Frag)(ta tb:TE):TE:=fun σ H Q=>ta σ H fun x H1=>∃ c,HS K x H1 c/\if c=true then Q x H1 else tb σ H1 Q
def tNotX(K:PySem.W.Frag)(ta:TE):TE:=fun σ H Q=>ta σ H fun x H1=>∃ c,HS K x H1 c/\Q (.bl (!c)) H1
theorem Nk(ha:PE X a ta)(hb:PE X (.BoolOp .And (b::rest) pos) tb):PE X (.BoolOp .And (a::b::rest) pos) (tAndX X.K ta tb):=by
 intro pins s σ H Q I h
 refine BoolOp_and (cZ (ha pins s σ H _ I h) fun v s1 ⟨x,H1,I1,r1,q1⟩=>?_)
 obtain⟨c,tv,q1⟩:=q1
 refine cZ (wR pins s1 σ H1 x v (fun k H'=>k=c/\H'=H1) I1 r1 ⟨c,tv,rfl,rfl⟩) fun k s2 z=>?_
 obtain⟨H2,I2,rfl,rfl⟩:=z
 cases k with
 | true=>exact hb pins s2 σ H2 Q I2 q1
 | false=>exact⟨x,H2,I2,r1,q1⟩
theorem QU(ha:PE X a ta)(hb:PE X (.BoolOp .Or (b::rest) pos) tb):PE X (.BoolOp .Or (a::b::rest) pos) (tOrX X.K ta tb):=by
 intro pins s σ H Q I h
 refine BoolOp_or (cZ (ha pins s σ H _ I h) fun v s1 ⟨x,H1,I1,r1,q1⟩=>?_)
 obtain⟨c,tv,q1⟩:=q1
 refine cZ (wR pins s1 σ H1 x v (fun k H'=>k=c/\H'=H1) I1 r1 ⟨c,tv,rfl,rfl⟩) fun k s2 z=>?_
 obtain⟨H2,I2,rfl,rfl⟩:=z
 cases k with
 | false=>exact hb pins s2 σ H2 Q I2 q1
 | true=>exact⟨x,H2,I2,r1,q1⟩
theorem Nf(ha:PE X a ta):PE X (.UnaryOp .Not a pos) (tNotX X.K ta):=by
 intro pins s σ H Q I h
 refine UnaryOp_ (cZ (ha pins s σ H _ I h) fun v s1 ⟨x,H1,I1,r1,q1⟩=>?_)
 obtain⟨c,tv,q1⟩:=q1
 refine not_of (cZ (wR pins s1 σ H1 x v (fun k H'=>k=c/\H'=H1) I1 r1 ⟨c,tv,rfl,rfl⟩) fun k s2 z=>?_)
 obtain⟨H2,I2,rfl,rfl⟩:=z
 exact⟨.bl (!k),H2,I2,rfl,q1⟩
end
end L2
namespace M
open PySem PySem.Spec PyProof.Rows L2
section
variable{X:Cx}{K:PySem.W.Frag}{μ μ':Fp}{H H':Hp}{S S':ac}{a b:Expr}{ma mb:ME}{rest:List Expr}{pos:Pos}
noncomputable def JT(a b:ME):ME:=fun env S=>(a env S).bind fun p=>(rV p.2 p.1).bind fun k=>if k=true then b env p.2 else some (p.1,p.2)
noncomputable def RB(a b:ME):ME:=fun env S=>(a env S).bind fun p=>(rV p.2 p.1).bind fun k=>if k=true then some (p.1,p.2) else b env p.2
noncomputable def JL(a:ME):ME:=fun env S=>(a env S).bind fun p=>(rV p.2 p.1).bind fun k=>some (.bl (!k),p.2)
theorem OS(ha:DE X a ma)(hb:DE X (.BoolOp .And (b::rest) pos) mb):DE X (.BoolOp .And (a::b::rest) pos) (JT ma mb):=PE.imp (Nk ha hb) fun σ H Q ⟨μ,S,env,d,S',hS,hE,hm,post⟩=>by
 obtain⟨⟨x,S1⟩,h1,hm⟩:=Option.bind_eq_some_iff.mp hm
 obtain⟨k,h2,hm⟩:=Option.bind_eq_some_iff.mp hm
 refine⟨μ,S,env,x,S1,hS,hE,h1,fun v H1 μ1 e1 s1 r1=>⟨k,rh s1 r1 h2,?_⟩⟩
 cases k with
 | true=>rw [if_pos rfl];exact⟨μ1,S1,env,d,S',s1,hE.mono e1,hm,post.ext e1⟩
 | false=>cases hm;rw [if_neg Bool.false_ne_true];exact post _ H1 μ1 e1 s1 r1
theorem Tc(ha:DE X a ma)(hb:DE X (.BoolOp .Or (b::rest) pos) mb):DE X (.BoolOp .Or (a::b::rest) pos) (RB ma mb):=PE.imp (QU ha hb) fun σ H Q ⟨μ,S,env,d,S',hS,hE,hm,post⟩=>by
 obtain⟨⟨x,S1⟩,h1,hm⟩:=Option.bind_eq_some_iff.mp hm
 obtain⟨k,h2,hm⟩:=Option.bind_eq_some_iff.mp hm
 refine⟨μ,S,env,x,S1,hS,hE,h1,fun v H1 μ1 e1 s1 r1=>⟨k,rh s1 r1 h2,?_⟩⟩
 cases k with
 | false=>rw [if_neg Bool.false_ne_true];exact⟨μ1,S1,env,d,S',s1,hE.mono e1,hm,post.ext e1⟩
 | true=>cases hm;rw [if_pos rfl];exact post _ H1 μ1 e1 s1 r1
theorem OL(ha:DE X a ma):DE X (.UnaryOp .Not a pos) (JL ma):=PE.imp (Nf ha) fun σ H Q ⟨μ,S,env,d,S',hS,hE,hm,post⟩=>by
 obtain⟨⟨x,S1⟩,h1,hm⟩:=Option.bind_eq_some_iff.mp hm
 obtain⟨k,h2,hm⟩:=Option.bind_eq_some_iff.mp hm
 cases hm
 exact⟨μ,S,env,x,_,hS,hE,h1,fun v H1 μ1 e1 s1 r1=>⟨k,rh s1 r1 h2,post _ H1 μ1 e1 s1 (.bl _)⟩⟩
end
end M
namespace M
open PySem PySem.Spec PyProof.Rows L2
section
variable{X:Cx}{K:PySem.W.Frag}{μ μ':Fp}{H H':Hp}{S S':ac}{tg iter:Expr}{pos:Pos}
noncomputable def eO(g:MG)(body:MS)(r:Nat):Nat->Nat->bm->ac->Option oo
 | 0,_,_,_=>none
 | f+1,i,env,S=>match S[r]? with
  | some (.lst xs)=>match xs[i]? with
   | none=>some (.nx env S)
   | some d=>(g d env S).bind fun p=>(body p.1 p.2).bind fun o=>match o with
    | .nx e s=>eO g body r f (i+1) e s
    | .ct e s=>eO g body r f (i+1) e s
    | .bk e s=>some (.nx e s)
    | .rt d s=>some (.rt d s)
  | _=>none
noncomputable def ga(m:ME)(g:MG)(body:MS):MS:=fun env S=>(m env S).bind fun p=>match p.1 with
 | .ref r=>eO g body r 2000 0 env p.2
 | .lst xs=>cE g body xs env p.2
 | .rol xs=>cE g body xs env p.2
 | .tup xs=>cE g body xs env p.2
 | _=>none
noncomputable def mForX(m:ME)(g:MG)(body:MS):MS:=fun env S=>(m env S).bind fun p=>match p.1 with
 | .ref r=>eO g body r 2000 0 env p.2
 | _=>none
theorem OD{body:List Stmt}{mi:ME}{g:MG}{mb:MS}(hp:PassesOwn (model X.prog X.w) X.A X.env X.xe)(hc:X.calm=true)(hi:DE X iter mi)(hg:DG X tg g)(hb:vn X body mb)
  (hs:∀ x,foldedSetIterable iter X.env x=pure x):DS X (.For tg iter body [] pos) (mForX mi g mb):=PS.imp (Jd hp hc (Na hi) hg hb hs) fun E σ H ⟨μ,S,env,o,hS,hE,hm,post⟩=>by
 obtain⟨⟨d,S1⟩,h1,hm⟩:=Option.bind_eq_some_iff.mp hm
 dsimp only at hm
 split at hm
 ·rename_i r
  refine⟨μ,S,env,_,S1,hS,hE,h1,fun v H1 μ1 e1 s1 r1=>?_⟩
  cases r1 with
  | @ref a _ ha=>
   have cell:∀ {μ' H' S' xs},Ext μ1 H1 μ' H'->SOk X.K μ' S' H'->S'[r]?=some (.lst xs)->∃ vs,H' a=some (.lst vs)/\Reps X.K μ' H' vs xs:=fun {μ' H' S' xs} e s q=>by
    obtain⟨l,ql,_⟩:=e.pre
    have ha':μ'.cs[r]?=some a:=by rw [ql,List.getElem?_append_left (List.getElem?_eq_some_iff.mp ha).1];exact ha
    exact s.cell r a _ ha' q
   have hq0:∃ vs,om X.K H1 a vs:=by
    unfold eO at hm
    split at hm
    ·rename_i xs q
     obtain⟨vs,hv,_⟩:=cell s1.ext s1 q
     exact⟨vs,.inl (.inl hv)⟩
    ·cases hm
   refine⟨a,rfl,hq0,?_⟩
   refine⟨fun i n σ H=>∃ μ' S' env' o',Ext μ1 H1 μ' H/\SOk X.K μ' S' H/\EOk X.K μ' H σ env'/\eO g mb r n i env' S'=some o'/\PostS X.K μ' H o' E,
    ⟨2000,μ1,S1,env,o,s1.ext,s1,hE.mono e1,hm,post.ext e1⟩,?_⟩
   rintro i n σ' H' ⟨μ',S',env',o',e',s',r',hl,post'⟩
   cases n with
   | zero=>cases hl
   | succ n=>
    unfold eO at hl
    split at hl
    ·rename_i xs q
     obtain⟨vs,hv,rv⟩:=cell e' s' q
     have hsq:om X.K H' a vs:=.inl (.inl hv)
     split at hl
     ·rename_i hx
      cases hl
      refine .inl ⟨⟨vs,hsq,?_⟩,post' σ' H' μ' s'.ext s' r'⟩
      rw [rv.length];simpa using hx
     ·rename_i d hx
      obtain⟨w,hw,rw0⟩:=rv.get hx
      refine .inr ⟨⟨vs,w,hsq,hw⟩,fun σ2 H2=>∃ μ2 S2 env2 o2,Ext μ1 H1 μ2 H2/\SOk X.K μ2 S2 H2/\EOk X.K μ2 H2 σ2 env2/\eO g mb r n (i+1) env2 S2=some o2/\PostS X.K μ2 H2 o2 E,
       fun σ2 H2 ⟨μ2,S2,env2,o2,q1,q2,q3,q4,q5⟩=>⟨n,by omega,μ2,S2,env2,o2,q1,q2,q3,q4,q5⟩,fun x H2 y=>?_⟩
      obtain⟨e2,hy⟩:=y
      subst e2
      have ex:x=w:=by have:=hy vs hsq;rw [hw] at this;exact(Option.some.inj this).symm
      subst ex
      obtain⟨⟨env3,S3⟩,h3,hl⟩:=Option.bind_eq_some_iff.mp hl
      obtain⟨o4,h4,hl⟩:=Option.bind_eq_some_iff.mp hl
      refine⟨μ',S',env',d,env3,S3,s',r',rw0,h3,fun σ3 H3 μ3 e3 s3 r3=>⟨μ3,S3,env3,o4,s3,r3,h4,?_⟩⟩
      have eT:Ext μ1 H1 μ3 H3:=e'.trans e3
      have pT:PostS X.K μ3 H3 o' E:=post'.ext e3
      cases o4 with
      | nx e5 s5=>exact fun σ6 H6 μ6 e6 s6 r6=>⟨μ6,s5,e5,o',eT.trans e6,s6,r6,hl,pT.ext e6⟩
      | ct e5 s5=>exact fun σ6 H6 μ6 e6 s6 r6=>⟨μ6,s5,e5,o',eT.trans e6,s6,r6,hl,pT.ext e6⟩
      | bk e5 s5=>cases hl;exact pT
      | rt d5 s5=>cases hl;exact pT
    ·cases hl
 ·cases hm
theorem OE{body:List Stmt}{mi:ME}{g:MG}{mb:MS}(hp:PassesOwn (model X.prog X.w) X.A X.env X.xe)(hc:X.calm=true)(hi:DE X iter mi)(hg:DG X tg g)(hb:vn X body mb)
  (hs:∀ x,foldedSetIterable iter X.env x=pure x):DS X (.For tg iter body [] pos) (ga mi g mb):=by
 have hA:=OD (pos:=pos) hp hc hi hg hb hs
 have hB:=Lu (pos:=pos) hp hc (DF (tg:=tg) hi) hg hb hs
 intro pins s σ H E I ⟨μ,S,env,o,hS,hE,h,post⟩
 obtain⟨⟨x,S1⟩,h1,h⟩:=Option.bind_eq_some_iff.mp h
 cases x with
 | ref r=>exact hA pins s σ H E I ⟨μ,S,env,o,hS,hE,by show (mi env S).bind _=_;rw [h1];exact h,post⟩
 | lst xs=>exact hB pins s σ H E I ⟨μ,S,env,o,hS,hE,by show ((mi env S).bind _).bind _=_;rw [h1];exact h,post⟩
 | rol xs=>exact hB pins s σ H E I ⟨μ,S,env,o,hS,hE,by show ((mi env S).bind _).bind _=_;rw [h1];exact h,post⟩
 | tup xs=>exact hB pins s σ H E I ⟨μ,S,env,o,hS,hE,by show ((mi env S).bind _).bind _=_;rw [h1];exact h,post⟩
 | _=>cases h
end
end M
namespace L2
open PySem PySem.Spec PyProof.Rows
section
variable{X:Cx}{pos:Pos}
theorem tQ:∀ {ns:List Int} {us:List Value},Vals (ns.map V.int) us->∃ xs:List (Int×Tok),us=xs.map (fun p=>Value.int p.1 p.2)/\xs.map (·.1)=ns
 | [],_,.nil=>⟨[],rfl,rfl⟩
 | n::ns,_,.cons ⟨t,e⟩ r=>by
  subst e
  obtain⟨xs,e1,e2⟩:=tQ r
  exact⟨(n,t)::xs,by rw [e1];rfl,by rw [List.map_cons,e2]⟩
theorem HJ(hc:X.calm=true):CallR X (.builtin "max") (fun xs H Q=>∃ p ns,xs=[.ref p]/\om X.K H p (ns.map V.int)/\ns≠[]/\∀ m,m∈ns->(∀ a∈ns,a<=m)->Q (.int m) H):=by
 intro pins s σ H xs us Q I r h
 obtain⟨p,ns,rfl,hq,h0,q⟩:=h
 obtain⟨u,rfl,rx⟩:=qm r
 cases rx
 obtain⟨its,rv,pl,hz⟩:=I.list hq
 obtain⟨ps,e1,e2⟩:=tQ rv
 have hl:s.heap.IsList p (intItems ps.toArray):=by
  have:=pl.isList
  rw [e1] at this
  have e:intItems ps.toArray=(ps.map (fun p=>Value.int p.1 p.2)).toArray:=by simp [intItems]
  rw [e];exact this
 have hp:0<ps.toArray.size:=by
  rw [List.size_toArray]
  cases ps with
  | nil=>exact absurd e2.symm h0
  | cons _ _=>simp
 refine max_intList (I.ok.hd hc) hl hp fun v h' tk hv kk=>?_
 obtain⟨g1,g2⟩:=argBest_gt (numAt ps.toArray) (ps.toArray.size - 1)
 generalize argBest (fun i j=>decide (numAt ps.toArray i>numAt ps.toArray j)) (ps.toArray.size - 1)=b at hv g1 g2
 have hb:b<ps.length:=by rw [List.size_toArray] at g1 hp;omega
 have nb:∀ j (hj:j<ps.length),numAt ps.toArray j=ps[j].1:=fun j hj=>by
  simp [numAt,hj]
 have ev:v=Value.int ps[b].1 ps[b].2:=by
  simp [intItems,hb] at hv
  exact hv.symm
 subst ev
 refine⟨.int ps[b].1,H,I.kept kk,⟨_,rfl⟩,q _ ?_ fun a ha=>?_⟩
 ·rw [<- e2];exact List.mem_map.mpr ⟨_,List.getElem_mem hb,rfl⟩
 ·rw [<- e2] at ha
  obtain⟨x,hx,rfl⟩:=List.mem_map.mp ha
  obtain⟨j,hj,rfl⟩:=List.mem_iff_getElem.mp hx
  have:=g2 j (by rw [List.size_toArray];omega)
  rw [nb j hj,nb b hb] at this
  exact this
theorem rO:∀ (l:List Value) (lo:Nat),(∀ (j:Nat) (v:Value),l[j]?=some v->∃ t,v=.int ((lo+j:Nat):Int) t)->Vals ((List.range' lo l.length).map fun(i:Nat)=>V.int (i:Int)) l
 | [],_,_=>.nil
 | v::r,lo,h=>by
  rw [List.length_cons,List.range'_succ,List.map_cons]
  obtain⟨t,e⟩:=h 0 v rfl
  refine .cons ⟨t,by simpa using e⟩ (rO r (lo+1) fun j w hw=>?_)
  obtain⟨t,e⟩:=h (j+1) w (by simpa using hw)
  exact⟨t,by rw [e];congr 2;omega⟩
noncomputable def pF(n:Nat):List V:=(List.range n).map fun(i:Nat)=>V.int (i:Int)
theorem xC{a:Expr}{ta:TA}{p p2 pos pos2:Pos}(hc:X.calm=true)(hm:X.mg "list" = none)(hm2:X.mg "range" = none)(hg:Gl X "list")(hg2:Gl X "range")(ha:PA X [a] ta)(hs:starEach [a] X.env=[(false,eval a X.env)]) :
  PE X (.Call (.Name "list" p) [.Call (.Name "range" p2) [a] [] pos2] [] pos) (fun σ H Q=>ta σ H fun vs H1=>∃ j:Int,vs=[.int j]/\0<=j/\j<=1000/\∀ q,H1 q=none->Q (.ref q) (upd H1 q (.lst (pF j.toNat)))):=by
 intro pins s σ H Q I h
 refine Call_ (lj I hg hm boot_list (PyProof.Rows.callWith_type1 (Calls.spliced_cons ?_) rfl rfl))
 refine Call_ (lj I hg2 hm2 boot_range (PyProof.Rows.callWith_type1 (cZ (ha pos2 pins s σ H _ I h) fun us s1 ⟨vs,H1,I1,r1,q1⟩=>?_) hs rfl))
 obtain⟨j,rfl,j0,j1,q⟩:=q1
 obtain⟨u,rfl,ru⟩:=r1.one
 obtain⟨t,rfl⟩:=ru
 refine call_range_1 (Calls.spliced_nil ?_)
 have I2:Inv X pins σ H1 { s1 with heap:=s1.heap.push { cls:=.type "range",data:=.fields #[.int 0 s1.toks,.int j t,.int 1 (s1.toks+1)] },toks:=s1.toks+1+1 }:=I1.kept fun b o e=>Heap.get?_push_of_some _ e
 have hz:(s1.heap.push { cls:=.type "range",data:=.fields #[.int 0 s1.toks,.int j t,.int 1 (s1.toks+1)] }).objs.size=s1.heap.objs.size+1:=Heap.size_push ..
 refine call_list_range (n:=j.toNat) (I1.ok.hd hc) (IsRange.new ..) (small_one (by decide) (by decide) (by omega) (by omega)) (by rw [rangeSize_one];split <;> omega) (by omega) fun h' tk acc c' kk hn it=>?_
 obtain⟨i1,i2⟩:=it
 have fr:H1 (s1.heap.objs.size+1)=none:=I1.hok.fresh (Nat.le_succ _)
 dsimp only at hn ⊢
 rw [hz] at hn ⊢
 refine⟨.ref _,_,I2.laid (t':=tk) (a:=s1.heap.objs.size+1) (o:=.lst (pF j.toNat)) kk (by show _<=s1.heap.objs.size+1;rw [hz];exact Nat.le_refl _) ⟨?_,acc.toList,c',?_,?_⟩,rfl,q _ fr⟩
 ·simp [pF];rw [sizeLine_eq];omega
 ·have:=rO acc.toList 0 (fun j v hv=>by
   obtain⟨t,e⟩:=i2 j v (by simpa using hv)
   exact⟨t,by rw [e];congr 1;omega⟩)
  rw [Array.length_toList,i1] at this
  rw [pF,List.range_eq_range']
  exact this
 ·simpa using hn
end
end L2
namespace M
open PySem PySem.Spec PyProof.Rows L2
section
variable{X:Cx}{K:PySem.W.Frag}{μ μ':Fp}{H H':Hp}{S S':ac}{pos:Pos}
noncomputable def qu(S:ac):D->Option (List D)
 | .lst xs=>some xs
 | .ref r=>match S[r]? with | some (.lst xs)=>some xs | _=>none
 | _=>none
theorem vV{v:V}{d:D}{ds:List D}(s:SOk K μ S H)(r:Rep K μ H v d)(h:qu S d=some ds):∃ a vs,v=.ref a/\H a=some (.lst vs)/\Reps K μ H vs ds:=by
 cases r with
 | lst hd n rr=>cases h;exact⟨_,_,rfl,hd,rr⟩
 | ref hr=>
  rename_i a i
  unfold qu at h
  dsimp only at h
  cases q:S[i]? with
  | none=>rw [q] at h;cases h
  | some c=>
   rw [q] at h
   have ck:=s.cell _ _ _ hr q
   cases c with
   | lst xs=>cases h;obtain⟨vs,e,rr⟩:=ck;exact⟨a,vs,rfl,e,rr⟩
   | dct ks xs=>cases h
 | _=>cases h
noncomputable def yv:D->Bool
 | .ref _=>true
 | _=>false
noncomputable def aR(S:ac)(x y:D):Option D:=if yv x||yv y then (qu S x).bind fun xs=>(qu S y).bind fun ys=>if xs.length+ys.length<=sizeLine then some (.lst (xs++ys)) else none else KP S x y
theorem Nv:OpR X (binaryOp .Add) (nq X.K aR):=OpR.imp (OpR.or Ju Rr) fun x y H Q ⟨μ,S,dx,dy,dz,hS,h1,h2,h3,post⟩=>by
 unfold aR at h3
 split at h3
 ·obtain⟨xs,e1,h3⟩:=Option.bind_eq_some_iff.mp h3
  obtain⟨ys,e2,h3⟩:=Option.bind_eq_some_iff.mp h3
  split at h3
  ·rename_i hl
   cases h3
   obtain⟨a,vs,rfl,q1,r1⟩:=vV hS h1 e1
   obtain⟨b,ws,rfl,q2,r2⟩:=vV hS h2 e2
   have l1:=r1.length
   have l2:=r2.length
   exact .inl ⟨a,b,vs,ws,rfl,rfl,q1,q2,by omega,fun p hp=>post.lst hS hp (r1.append r2)⟩
  ·cases h3
 ·exact .inr ⟨μ,S,dx,dy,dz,hS,h1,h2,h3,post⟩
noncomputable def jR:List Int->Int
 | []=>0
 | [a]=>a
 | a::r=>max a (jR r)
theorem pL:∀ {ns:List Int},ns≠[]->jR ns∈ns/\∀ a∈ns,a<=jR ns
 | [a],_=>⟨by simp [jR],fun b hb=>by simp at hb;simp [jR,hb]⟩
 | a::b::r,_=>by
  obtain⟨h1,h2⟩:=pL (ns:=b::r) (by simp)
  show max a (jR (b::r))∈_/\∀ c∈_,c<=max a (jR (b::r))
  generalize jR (b::r)=m at h1 h2
  refine⟨?_,fun c hc=>?_⟩
  ·by_cases h:m<=a
   ·rw [Int.max_eq_left h];exact List.mem_cons_self
   ·rw [Int.max_eq_right (by omega)];exact List.mem_cons_of_mem _ h1
  ·rcases List.mem_cons.mp hc with rfl | hc
   ·exact Int.le_max_left _ _
   ·exact Int.le_trans (h2 c hc) (Int.le_max_right _ _)
theorem Ah{ns:List Int}{m:Int}(h0:ns≠[])(h1:m∈ns)(h2:∀ a∈ns,a<=m):m=jR ns:=by
 obtain⟨g1,g2⟩:=pL h0
 have:=h2 _ g1
 have:=g2 _ h1
 omega
noncomputable def lG(S:ac):List D->Option D
 | [d]=>(qy S d).bind fun ns=>if ns.isEmpty then none else some (.int (jR ns))
 | ds=>PR S ds
theorem CallR.or{f:Value}{r r':List V->Hp->VK->Prop}(h:CallR X f r)(h':CallR X f r'):CallR X f (fun xs H Q=>r xs H Q\/r' xs H Q):=by
 intro pins s σ H xs us Q I rv q
 rcases q with q | q
 ·exact h pins s σ H xs us Q I rv q
 ·exact h' pins s σ H xs us Q I rv q
theorem HN(hc:X.calm=true):CallR X (.builtin "max") (IU X.K (aM lG)):=CallR.imp (CallR.or (HJ hc) (HP hc)) fun xs H Q ⟨μ,S,ds,d,S',hS,hr,hm,post⟩=>by
 obtain⟨rfl,hm'⟩:=dZ hm
 match ds,hr,hm,hm' with
 | [d0],hr,hm,hm'=>
  obtain⟨ns,h1,h2⟩:=Option.bind_eq_some_iff.mp hm'
  split at h2
  ·cases h2
  ·rename_i h0
   cases h2
   have h0:ns≠[]:=fun z=>h0 (by rw [z];rfl)
   obtain⟨v,rfl,rv⟩:=hr.one
   obtain⟨b,rfl,hq,h64⟩:=Dg hS rv h1
   refine .inl ⟨b,ns,rfl,hq,h0,fun m m1 m2=>?_⟩
   rw [Ah h0 m1 m2]
   exact post.here hS (.int _)
 | [],hr,hm,hm'=>cases hm'
 | _::_::_,hr,hm,hm'=>exact .inr ⟨μ,_,_,d,_,hS,hr,hm,post⟩
noncomputable def fE(ms:MA):ME:=fun env S=>(ms env S).bind fun p=>match p.1 with | [.int j]=>if 0<=j/\j<=1000 then some (.lst (bW 0 j.toNat),p.2) else none | _=>none
theorem BZ(n:Nat):Reps K μ H (pF n) (bW 0 n):=by
 unfold pF bW
 generalize List.range n=l
 induction l with
 | nil=>exact .nil
 | cons a r ih=>rw [List.map_cons,List.map_cons,Int.zero_add];exact .cons (.int _) ih
theorem LK{a:Expr}{ms:MA}{p p2 pos2:Pos}(hc:X.calm=true)(hm:X.mg "list" = none)(hm2:X.mg "range" = none)(hg:Gl X "list")(hg2:Gl X "range")(ha:DA X [a] ms)(hs:starEach [a] X.env=[(false,eval a X.env)]) :
  DE X (.Call (.Name "list" p) [.Call (.Name "range" p2) [a] [] pos2] [] pos) (fE ms):=PE.imp (xC hc hm hm2 hg hg2 ha hs) fun σ H Q ⟨μ,S,env,d,S',hS,hE,h,post⟩=>by
 obtain⟨⟨ds,S1⟩,h1,h⟩:=Option.bind_eq_some_iff.mp h
 refine⟨μ,S,env,ds,S1,hS,hE,h1,fun vs H1 μ1 e1 s1 r1=>?_⟩
 dsimp only at h
 split at h
 ·rename_i j
  split at h
  ·rename_i hj
   cases h
   obtain⟨v,rfl,rv⟩:=r1.one
   exact⟨j,by rw [rv.int_inv],hj.1,hj.2,fun q hq=>(post.ext e1).lst s1 hq (BZ _)⟩
  ·cases h
 ·cases h
noncomputable def gm(t:MT)(body:MS):Nat->bm->ac->Option oo
 | 0,_,_=>none
 | f+1,env,S=>(t env S).bind fun p=>if p.1=true then (body env p.2).bind fun o=>match o with
   | .nx e s=>gm t body f e s
   | .ct e s=>gm t body f e s
   | .bk e s=>some (.nx e s)
   | .rt d s=>some (.rt d s)
  else some (.nx env p.2)
noncomputable def fB(t:MT)(body:MS):MS:=gm t body 5000
theorem Ls{c:Expr}{body:List Stmt}{t:MT}{mb:MS}(hp:PassesOwn (model X.prog X.w) X.A X.env X.xe)(hc:DT X c t)(hb:vn X body mb):DS X (.While c body [] pos) (fB t mb):=PS.imp (Ja hp hc hb) fun E σ H ⟨μ,S,env,o,hS,hE,hm,post⟩=>by
 refine⟨fun n σ' H'=>∃ μ' S' env' o',Ext μ H μ' H'/\SOk X.K μ' S' H'/\EOk X.K μ' H' σ' env'/\gm t mb n env' S'=some o'/\PostS X.K μ' H' o' E,⟨5000,μ,S,env,o,hS.ext,hS,hE,hm,post⟩,?_⟩
 rintro n σ' H' ⟨μ',S',env',o',e',s',r',hl,post'⟩
 cases n with
 | zero=>cases hl
 | succ n=>
  obtain⟨⟨b,S1⟩,h1,hl⟩:=Option.bind_eq_some_iff.mp hl
  refine⟨μ',S',env',b,S1,s',r',h1,fun H2 μ2 e2 s2=>?_⟩
  have eT:Ext μ H μ2 H2:=e'.trans e2
  have pT:PostS X.K μ2 H2 o' E:=post'.ext e2
  cases b with
  | false=>cases hl;dsimp only;rw [if_neg Bool.false_ne_true];exact pT σ' H2 μ2 s2.ext s2 (r'.mono e2)
  | true=>
   dsimp only
   rw [if_pos rfl]
   obtain⟨o4,h4,hl⟩:=Option.bind_eq_some_iff.mp hl
   refine⟨fun σ2 H2=>∃ μ2 S2 env2 o2,Ext μ H μ2 H2/\SOk X.K μ2 S2 H2/\EOk X.K μ2 H2 σ2 env2/\gm t mb n env2 S2=some o2/\PostS X.K μ2 H2 o2 E,fun σ2 H2 ⟨μ2,S2,env2,o2,q1,q2,q3,q4,q5⟩=>⟨n,by omega,μ2,S2,env2,o2,q1,q2,q3,q4,q5⟩,?_⟩
   refine⟨μ2,S1,env',o4,s2,r'.mono e2,h4,?_⟩
   cases o4 with
   | nx e5 s5=>exact fun σ6 H6 μ6 e6 s6 r6=>⟨μ6,s5,e5,o',eT.trans e6,s6,r6,hl,pT.ext e6⟩
   | ct e5 s5=>exact fun σ6 H6 μ6 e6 s6 r6=>⟨μ6,s5,e5,o',eT.trans e6,s6,r6,hl,pT.ext e6⟩
   | bk e5 s5=>cases hl;exact pT
   | rt d5 s5=>cases hl;exact pT
end
end M
namespace M
open PySem PySem.Spec PyProof.Rows L2
inductive TabRel:List (bz×Value)->List (bz×D)->Prop
 | nil:TabRel [] []
 | cons {k:bz} {v:Value} {d:D} {vs:List (bz×Value)} {ds:List (bz×D)} (x:V) (h:RelV x v) (r:∀ K μ H,Rep K μ H x d) (t:TabRel vs ds):TabRel ((k,v)::vs) ((k,d)::ds)
theorem TabRel.val{k:bz}:∀ {vs ds},TabRel vs ds->∀ {d},iV ds k=some d->∃ v x,valueAt vs k=some v/\RelV x v/\∀ K μ H,Rep K μ H x d
 | _,_,.nil,d,h=>by cases h
 | _,_,.cons (k:=k') (v:=v) x h r t,d,q=>by
  unfold iV at q
  split at q
  ·rename_i e;cases q;refine⟨v,x,?_,h,r⟩;simp only at e;simp [valueAt,e]
  ·rename_i e
   obtain⟨v',x',h1,h2,h3⟩:=TabRel.val t q
   refine⟨v',x',?_,h2,h3⟩
   simp only at e
   rw [<- h1]
   simp [valueAt,e]
structure uz(w:World)(K:PySem.W.Frag)(mg:Str->Option Value)(x:Str)(l:List (bz×D)):Prop where
 ex:∃ (a:Addr) (vs:List (bz×Value)),mg x=some (.ref a)/\(∀ (P:Program) (h:Heap),K.In h->h.DictOf (ca P w) a vs)/\TabRel vs l
section
variable{X:Cx}
theorem Kk{a:Addr}{vs:List (bz×Value)}(hd:∀ (P:Program) (h:Heap),X.K.In h->h.DictOf (ca P X.w) a vs):IxR X (fun x y H Q=>∃ k v z,x=.ref a/\y=kV k/\valueAt vs k=some v/\RelV z v/\Q z H):=by
 intro value slice pins s σ H x y v u Q I rx ry h hs
 obtain⟨k,v',z,rfl,rfl,hv,rz,q⟩:=h
 cases rx
 have dd:=hd X.prog s.heap I.kIn
 exact tail_any dd.typeIs F.slot_dict_getitem.lookup (wpAny_getItem_of (vX ry) dd.mapOf hv ⟨z,H,I.tok _,rz,q⟩) hs
noncomputable def dL(l:List (bz×D))(mi:ME):ME:=fun env S=>(mi env S).bind fun p=>(eW p.1).bind fun k=>(iV l k).bind fun d=>some (d,p.2)
theorem LG{x:Str}{l:List (bz×D)}{i:Expr}{mi:ME}{p pos:Pos}(g:uz X.w X.K X.mg x l)(hg:Gl X x)(hx:(x == ("__debug__":Str))=false)(hi:DE X i mi)(hs:nj i:=by intro _ _;rfl):DE X (.Subscript (.Name x p) i pos) (dL l mi):=by
 obtain⟨a,vs,h1,h2,h3⟩:=g.ex
 refine PE.imp (Jl (Kk h2) (xD (v:=.ref a) hg h1 rfl hx) hi hs) fun σ H Q ⟨μ,S,env,d,S',hS,hE,hm,post⟩=>?_
 obtain⟨⟨y,S1⟩,e1,hm⟩:=Option.bind_eq_some_iff.mp hm
 obtain⟨k,e2,hm⟩:=Option.bind_eq_some_iff.mp hm
 obtain⟨d',e3,hm⟩:=Option.bind_eq_some_iff.mp hm
 cases hm
 obtain⟨v,z,v1,v2,v3⟩:=h3.val e3
 exact⟨μ,S,env,y,_,hS,hE,e1,fun u H1 μ1 ex s1 r1=>⟨k,v,z,rfl,mT e2 r1,v1,v2,post _ H1 μ1 ex s1 (v3 _ _ _)⟩⟩
end
theorem zj{w:World}{K:PySem.W.Frag}{a:Addr}{es:Array DictEntry}{n:Nat}(hl:K.lookup a=some ⟨.type "dict",none,.dict es n,#[]⟩){vs:List (bz×Value)}(hp:∀ P,Pairs (ca P w) es.toList vs)(hk:∀ P,KeysOf (ca P w) es)(hn:(vs.map (·.1)).Nodup) :
  ∀ (P:Program) (h:Heap),K.In h->h.DictOf (ca P w) a vs:=fun P h KX=>⟨_,es,n,KX a _ hl,⟨rfl,rfl,rfl⟩,rfl,hk P,hp P,hn⟩
inductive TabLit(w:World):List DictEntry->List (bz×Value)->Prop
 | nil:TabLit w [] []
 | cons {x:Str} {t:Tok} {v:Value} {es:List DictEntry} {vs:List (bz×Value)} (h:TabLit w es vs):TabLit w (⟨PyData.keyHash w.params x,.str x t,v⟩::es) ((.inr x,v)::vs)
theorem TabLit.pairs{w:World}{P:Program}:∀ {es vs},TabLit w es vs->Pairs (ca P w) es vs
 | _,_,.nil=>.nil
 | _,_,.cons (x:=x) (t:=t) h=>.cons (vX (k:=.inr x) (show RelV (V.str x) (Value.str x t) from ⟨t,rfl⟩)) rfl h.pairs
theorem TabLit.keys{w:World}{P:Program}:∀ {es vs},TabLit w es vs->∀ e∈es,∃ k,(ca P w).is k e.key=true/\e.hash=(ca P w).hash k
 | _,_,.nil,e,h=>by simp at h
 | _,_,.cons (x:=x) (t:=t) h,e,he=>by
  rcases List.mem_cons.mp he with rfl | he
  ·exact⟨.inr x,vX (k:=.inr x) (show RelV (V.str x) (Value.str x t) from ⟨t,rfl⟩),rfl⟩
  ·exact h.keys e he
theorem Ir{w:World}{K:PySem.W.Frag}{mg:Str->Option Value}{x:Str}{a:Addr}{es:List DictEntry}{n:Nat}{vs:List (bz×Value)}{l:List (bz×D)}(hg:mg x=some (.ref a))(hl:K.lookup a=some ⟨.type "dict",none,.dict es.toArray n,#[]⟩)(t:TabLit w es vs)(hn:(vs.map (·.1)).Nodup)(r:TabRel vs l):uz w K mg x l:=
 ⟨a,vs,hg,zj hl (fun P=>by simpa using t.pairs) (fun P e he=>t.keys e (by simpa using he)) hn,r⟩
end M
namespace M
open PySem PySem.Spec PyProof.Rows L2
section
variable{X:Cx}{K:PySem.W.Frag}{μ:Fp}{H:Hp}{S:ac}
noncomputable def mz:MF:=fun o ds S=>match ds with
 | [x]=>if qU S o=true then (gN S o).bind fun ys=>if cB 40 x=true/\ys.all (cB 39)=true/\ys.length<=sizeLine then (ys.findIdx? fun d=>jC d x).bind fun j=>some (.int (j:Nat),S) else none else none
 | _=>none
theorem ui{pins:List (Addr×Obj)}{σ:L2.St}{s:Shared}(I:Inv X pins σ H s){x:D}:∀ {vs:List V} {us:List Value} {ds:List D},Vals vs us->Reps X.K μ H vs ds->(∀ d∈ds,cB 39 d=true) ->
  us.map (ee X.K μ H x)=ds.map fun d=>jC d x
 | _,_,_,.nil,.nil,_=>rfl
 | _,_,_,.cons rv tv,.cons r t,ok=>by
  rw [List.map_cons,List.map_cons,pj I rv r (ok _ List.mem_cons_self),ui I tv t fun d m=>ok d (List.mem_cons_of_mem _ m)]
theorem Jz(hu:X.A.units+64<cLine):MtR X "list.index" (Mg X.K mz):=by
 intro pins s σ H x vs v us Q I rx rv h
 obtain⟨μ,S,dx,ds,d,S',hS,r1,r2,h,post⟩:=h
 unfold mz at h
 split at h
 ·rename_i y
  split at h
  ·rename_i hl
   obtain⟨a,ws,es,rfl,hq,hse,re⟩:=oS hS r1 hl
   rw [hse] at h
   dsimp only [Option.bind_some] at h
   split at h
   ·rename_i hk
    obtain⟨j,hj,h⟩:=Option.bind_eq_some_iff.mp h
    cases h
    cases rx
    obtain⟨w,rfl,rw0⟩:=r2.one
    obtain⟨u,rfl,ru⟩:=rv.one
    obtain⟨its,rvs,⟨⟨cls,dd,data,sl⟩,n,e,hc,hdd,hd⟩,hz⟩:=I.list hq
    simp only at hc hdd hd
    subst hc hdd hd
    have ok:=List.all_eq_true.mp hk.2.1
    have em:=ui (x:=y) I rvs re ok
    have ln:its.length=es.length:=by rw [<- re.length,rvs.length]
    obtain⟨hj1,hj2,hj3⟩:=List.findIdx?_eq_some_iff_getElem.mp hj
    have at_:∀ (m:Nat) (h1:m<its.length) (h2:m<es.length),ee X.K μ H y its[m]=jC es[m] y:=fun m h1 h2=>by
     have:(its.map (ee X.K μ H y))[m]?=(es.map fun d=>jC d y)[m]?:=by rw [em]
     rw [List.getElem?_map,List.getElem?_map,List.getElem?_eq_getElem h1,List.getElem?_eq_getElem h2] at this
     simpa using this
    have sz:sizeLine<2 ^ 63 - 1:=by decide
    refine call_meets F.slot_list_index ⟨_,e,rfl⟩ F.entry_list_index (F.args_list_index_2 _ _) (SeqAt.list_indexAt a its.toArray n none sl u (ee X.K μ H y) j (by simpa [ln] using hj1) (by have:=hk.2.2;omega) ?_ ?_) ⟨e,fun w' hw'=>?_,?_⟩
    ·rw [List.getElem_toArray,at_ j (by omega) hj1];exact hj2
    ·intro m hm hmj
     rw [List.getElem_toArray,at_ m (by simpa using hm) (by omega)]
     have:=hj3 m hmj
     simpa using this
    ·exact fX I (by show X.A.units+1+40<cLine;omega) ru rw0 hk.1 rvs re ok w' (by simpa using hw')
    ·exact⟨.int _,H,I.tok _,⟨_,rfl⟩,post.here hS (.int _)⟩
   ·cases h
  ·cases h
 ·cases h
theorem ux{o:Expr}{name:Str}{env:Env}{w:Sem Value}(h:(match o with | .Call _ _ _ _=>false | _=>true)=true):attributeBase o name env w=w:=by
 cases o <;> first | rfl | cases h
end
end M
namespace M
open PySem PySem.Spec PyProof.Rows L2
section
variable{X:Cx}{K:PySem.W.Frag}{μ μ':Fp}{H H':Hp}{S S':ac}{tg iter:Expr}{pos:Pos}
noncomputable def EM(g:MG)(t:MT)(e:ME)(r:Nat):Nat->Nat->bm->ac->Option (List D×ac)
 | 0,_,_,_=>none
 | f+1,i,env,S=>match S[r]? with
  | some (.lst xs)=>match xs[i]? with
   | none=>some ([],S)
   | some d=>(g d env S).bind fun p=>(t p.1 p.2).bind fun b=>if b.1=true then (e p.1 b.2).bind fun y=>(EM g t e r f (i+1) p.1 y.2).bind fun z=>some (y.1::z.1,z.2) else EM g t e r f (i+1) p.1 b.2
  | _=>none
end
end M
namespace L2
open PySem PySem.Spec PyProof.Rows
section
variable{X:Cx}
end
end L2
namespace M
open PySem PySem.Spec PyProof.Rows L2
section
variable{X:Cx}{K:PySem.W.Frag}{μ μ':Fp}{H H':Hp}{S:ac}
noncomputable def fAddS(S:ac)(x y:D):Option D:=match x,y with
 | .str a,.str b=>if a.length+b.length<=sizeLine then some (.str (a++b)) else none
 | _,_=>none
noncomputable def fStr1(S:ac)(ds:List D):Option D:=match ds with
 | [.int i]=>if i.natAbs.log2<1920 then some (.str (toString i)) else none
 | [.non]=>some (.str "None")
 | _=>none
noncomputable def fmtD:D->Option Str
 | .str y=>if y.length<=sizeLine then some y else none
 | .int i=>if i.natAbs.log2<1920 then some (toString i) else none
 | _=>none
noncomputable def RC:List ME->Str->ME
 | [],out=>fun _ S=>some (.str out,S)
 | m::r,out=>fun env S=>(m env S).bind fun p=>match p.1 with
  | .str y=>if (out++y).length<=sizeLine then RC r (out++y) env p.2 else none
  | _=>none
inductive DEs(X:Cx):List Expr->List ME->Prop
 | nil:DEs X [] []
 | cons {e:Expr} {m:ME} {es:List Expr} {ms:List ME} (h:DE X e m) (t:DEs X es ms):DEs X (e::es) (m::ms)
noncomputable def Ei:List D->Option (List Str)
 | []=>some []
 | .str x::r=>(Ei r).bind fun xs=>some (x::xs)
 | _::_=>none
noncomputable def fJoin:MF:=fun o ds S=>match o,ds with
 | .str sep,[y]=>(gN S y).bind fun xs=>(Ei xs).bind fun ys=>if (ys.map (·.length)).sum+ys.length * sep.length<=16777216 then some (.str (Str.join sep ys),S) else none
 | _,_=>none
noncomputable def isStrB:D->Bool
 | .str _=>true
 | _=>false
end
end M
namespace HT
open PySem PyProof.Rows
section
variable{prog:Program}{w:World}{A:Around}{E:Value->Shared->Prop}{s:Shared}
end
end HT
namespace L2
open PySem PySem.Spec PyProof.Rows
section
variable{X:Cx}
end
end L2
namespace M
open PySem PySem.Spec PyProof.Rows L2
section
variable{X:Cx}{K:PySem.W.Frag}{μ μ':Fp}{H H':Hp}{S:ac}
end
end M
namespace HT
open PySem PyProof.Rows
section
variable{prog:Program}{w:World}{A:Around}{E:Value->Shared->Prop}{s:Shared}
end
end HT
namespace L2
open PySem PySem.Spec PyProof.Rows
section
variable{X:Cx}
end
end L2
namespace M
open PySem PySem.Spec PyProof.Rows L2
section
variable{X:Cx}{K:PySem.W.Frag}{μ:Fp}{H:Hp}{S:ac}
end
end M
namespace HT
open PySem PyProof.Rows PySem.Spec SeqAt
end HT
namespace M
open PySem PySem.Spec PyProof.Rows L2
section
variable{X:Cx}{K:PySem.W.Frag}{μ:Fp}{H:Hp}{S:ac}
end
end M
namespace L2
open PySem PySem.Spec PyProof.Rows
end L2
namespace M
open PySem L2 PyProof.Rows
section
variable{X:Cx}{K:PySem.W.Frag}{H:Hp}{pos:Pos}
inductive iMs(K:PySem.W.Frag)(m:MA)(σ:L2.St)(H:Hp)(R:It->Hp->Prop):Prop
 | mk (μ:Fp) (S:ac) (env:bm) (xs:List D) (S':ac) (hS:SOk K μ S H) (hE:EOk K μ H σ env) (h:m env S=some (xs,S')) (post:∀ J H' μ',Ext μ H μ' H'->SOk K μ' S' H'->(∀ μ2 H2,DZ K μ2 H2 J xs)->R J H')
noncomputable def CL(g:MG)(t:MT)(e:ME):List D->bm->ac->Option (List D×bm×ac)
 | [],env,S=>some ([],env,S)
 | d::ds,env,S=>(g d env S).bind fun p=>(t p.1 p.2).bind fun b=>if b.1=true then (e p.1 b.2).bind fun q=>(CL g t e ds p.1 q.2).bind fun r=>some (q.1::r.1,r.2) else CL g t e ds p.1 b.2
noncomputable def JR(g:MG)(t:MT)(mi2:MA)(g2:MG)(t2:MT)(e:ME):List D->bm->ac->Option (List D×ac)
 | [],_,S=>some ([],S)
 | d::ds,env,S=>(g d env S).bind fun p=>(t p.1 p.2).bind fun b=>if b.1=true then (mi2 p.1 b.2).bind fun q=>(CL g2 t2 e q.1 p.1 q.2).bind fun r=>(JR g t mi2 g2 t2 e ds r.2.1 r.2.2).bind fun z=>some (r.1++z.1,z.2) else JR g t mi2 g2 t2 e ds p.1 b.2
variable{elt tg iter tg2 iter2:Expr}{ifs ifs2:List Expr}{scope:Scope}{spos py:Pos}{N':List Str}{cap:List (Option Nat)}{mi mi2:MA}{g g2:MG}{t t2:MT}{me:ME}{y:Str}{i:Nat}
end
end M
namespace M
open PySem PySem.Spec PyProof.Rows L2
structure Pl(P:Program)(w:World)(K:PySem.W.Frag)(mg:Str->Option Value)(base:Heap)(k:Nat)(a:Addr)(n:Nat)(f:List D->ac->Option (D×ac)):Prop where
 ex:∃ (fd:FuncData) (ps:List Str),ps.length=n/\FnOk P w K mg base Fw k a fd ps (IG K n f)/\PySem.W.keepIn K (.ref a)=true/\Binds K fd ps []
theorem Fn.at{P:Program}{w:World}{K:PySem.W.Frag}{mg:Str->Option Value}{base:Heap}{k n:Nat}{x:Str}{a:Addr}{f:List D->ac->Option (D×ac)}(F:Fn P w K mg base k x n f)(h:mg x=some (.ref a)):Pl P w K mg base k a n f:=by
 obtain⟨b,fd,ps,h1,h2,h3,h4,h5⟩:=F.ex
 rw [h] at h3;cases h3
 exact⟨fd,ps,h1,h2,h4,h5⟩
inductive FRel(P:Program)(w:World)(K:PySem.W.Frag)(mg:Str->Option Value)(base:Heap)(k:Nat):List (bz×Value)->List (bz×Nat×(List D->ac->Option (D×ac)))->Prop
 | nil:FRel P w K mg base k [] []
 | cons {y:bz} {a:Addr} {n:Nat} {f:List D->ac->Option (D×ac)} {vs:List (bz×Value)} {l:List (bz×Nat×(List D->ac->Option (D×ac)))} (h:Pl P w K mg base k a n f) (t:FRel P w K mg base k vs l):FRel P w K mg base k ((y,.ref a)::vs) ((y,n,f)::l)
noncomputable def zi:List (bz×Nat×(List D->ac->Option (D×ac)))->bz->Option (Nat×(List D->ac->Option (D×ac)))
 | [],_=>none
 | (y,p)::l,k=>if y=k then some p else zi l k
section
variable{P:Program}{w:World}{K:PySem.W.Frag}{mg:Str->Option Value}{base:Heap}{k:Nat}
theorem FRel.val{y:bz}{p:Nat×(List D->ac->Option (D×ac))}:∀ {vs l},FRel P w K mg base k vs l->zi l y=some p->∃ a,valueAt vs y=some (.ref a)/\Pl P w K mg base k a p.1 p.2
 | _,_,.nil,q=>by cases q
 | _,_,.cons (y:=y') (a:=a) h t,q=>by
  unfold zi at q
  split at q
  ·rename_i e;cases q;exact⟨a,by simp [valueAt,e],h⟩
  ·rename_i e
   obtain⟨b,h1,h2⟩:=FRel.val t q
   refine⟨b,?_,h2⟩
   rw [<- h1]
   simp [valueAt,e]
structure FTab(P:Program)(w:World)(K:PySem.W.Frag)(mg:Str->Option Value)(base:Heap)(k:Nat)(x:Str)(l:List (bz×Nat×(List D->ac->Option (D×ac)))):Prop where
 ex:∃ (a:Addr) (vs:List (bz×Value)),mg x=some (.ref a)/\(∀ (P:Program) (h:Heap),K.In h->h.DictOf (ca P w) a vs)/\FRel P w K mg base k vs l
end
theorem EOk.setN{K:PySem.W.Frag}{μ:Fp}{H:Hp}{x:Option V}:∀ {σ:L2.St} {env:bm} (i:Nat),EOk K μ H σ env->EOk K μ H (σ.set i x) (env.set i none)
 | _,_,_,.nil=>.nil
 | _,_,0,.no t=>.no t
 | _,_,0,.yes _ t=>.no t
 | _,_,i+1,.no t=>.no (EOk.setN i t)
 | _,_,i+1,.yes h t=>.yes h (EOk.setN i t)
section
variable{X:Cx}{k i:Nat}{x b:Str}{e ix:Expr}{es:List Expr}{mi:ME}{ms:MA}{p pb pt ps pa pc pr:Pos}{l:List (bz×Nat×(List D->ac->Option (D×ac)))}
theorem Jq{t:TA}(hN:X.N[i]?=some b)(hv:TL X.env.scope b)(hr:Room k X.A)(ha:PA X (e::es) t)(hd:(b == ("__debug__":Str))=false)(hc:(b == ("__classdict__":Str))=false)
  (he:starEach (e::es) X.env=(false,eval e X.env)::starEach es X.env) (hpl:(backTo pc (starEach es X.env)).any (·.1)=false) :
  PE X (.Call (.Name b p) (e::es) [] pc) (fun σ H Q=>∃ a n f,σ[i]?=some (some (.ref a))/\Pl X.prog X.w X.K X.mg X.base k a n f/\Eh (IG X.K n f) [] E0 t σ H Q):=by
 intro pins s σ H Q I ⟨a,n,f,hσ,F,h⟩
 obtain⟨fd,qs,hn,F,hk,hb⟩:=F.ex
 refine wpAny_Call_Name_kw (cZ (Ji hN hv hd hc pins s σ H (fun v H'=>v=.ref a/\H'=H) I ⟨_,hσ,rfl,rfl⟩) fun u s1 ⟨v,H1,I1,r,e1,e2⟩=>?_)
 subst e1 e2
 cases r
 refine PySem.W.callWith_K (h₀:=X.base) I1.ok.mod.kin hk (cZ (ha pc pins s1 σ H1 _ I1 h) fun us s2 ⟨vs,H2,I2,r2,q⟩=>⟨I2.kIn,?_⟩) he hpl
 exact BY F hr hb .nil Js I2 r2 q
noncomputable def jd(l:List (bz×Nat×(List D->ac->Option (D×ac))))(i:Nat)(mi:ME)(ms:MA):MS:=fun env S=>(mi env S).bind fun p=>(eW p.1).bind fun k=>(zi l k).bind fun q=>(ms (env.set i none) p.2).bind fun r=>if r.1.length=q.1 then (q.2 r.1 r.2).bind fun z=>some (.rt z.1 z.2) else none
theorem Lq(g:FTab X.prog X.w X.K X.mg X.base k x l)(hg:Gl X x)(hx:(x == ("__debug__":Str))=false)(hi:DE X ix mi)(hs:nj ix)(hr:Room k X.A)(ha:DA X (e::es) ms)(nd:X.N.Nodup)(hN:X.N[i]?=some b)(hl:Mh X.env.scope b)(hv:TL X.env.scope b)
  (hf:X.fn b=true\/X.env.scope.names.lookup b=some .local) (hd:(b == ("__debug__":Str))=false) (hc:(b == ("__classdict__":Str))=false) (hlen:i<X.N.length)
  (he:starEach (e::es) X.env=(false,eval e X.env)::starEach es X.env) (hpl:(backTo pc (starEach es X.env)).any (·.1)=false) :
  vn X [.Assign [.Name b pb] (.Subscript (.Name x pt) ix ps) pa,.Return (some (.Call (.Name b p) (e::es) [] pc)) pr] (jd l i mi ms):=by
 obtain⟨a,vs,h1,h2,h3⟩:=g.ex
 intro pins s σ H E I h
 have hlσ:i < σ.length:=by
  have:σ.length=X.N.length:=I.len
  omega
 refine zF (Jb (i:=i) nd hN hl (Jl (Kk h2) (xD (v:=.ref a) hg h1 rfl hx) hi hs) rfl hf) (Em (Jc (Jq hN hv hr ha hd hc he hpl))) pins s σ H E I ?_
 obtain⟨μ,S,env,o,hS,hE,hm,post⟩:=h
 obtain⟨⟨y,S1⟩,e1,hm⟩:=Option.bind_eq_some_iff.mp hm
 obtain⟨z,e2,hm⟩:=Option.bind_eq_some_iff.mp hm
 obtain⟨q,e3,hm⟩:=Option.bind_eq_some_iff.mp hm
 obtain⟨fa,v1,F⟩:=h3.val e3
 refine⟨μ,S,env,y,S1,hS,hE,e1,fun u H1 μ1 ex s1 r1=>⟨z,.ref fa,.ref fa,rfl,mT e2 r1,v1,rfl,?_⟩⟩
 obtain⟨⟨ws,S2⟩,e4,hm⟩:=Option.bind_eq_some_iff.mp hm
 dsimp only at hm
 split at hm
 ·rename_i hn
  obtain⟨⟨d,S3⟩,e5,hm⟩:=Option.bind_eq_some_iff.mp hm
  cases hm
  refine⟨fa,q.1,q.2,by rw [List.getElem?_set_self hlσ],F,zn ⟨μ1,S1,env.set i none,d,S3,s1,(hE.mono ex).setN i,?_,Post.ext ex post⟩⟩
  show (ms (env.set i none) S1).bind _=_
  rw [e4]
  exact(if_pos hn).trans e5
 ·cases hm
end
inductive FNs(mg:Str->Option Value):List (bz×Value)->List (Str×Str)->Prop
 | nil:FNs mg [] []
 | cons {x y:Str} {a:Addr} {vs:List (bz×Value)} {l:List (Str×Str)} (h:mg y=some (.ref a)) (t:FNs mg vs l):FNs mg ((.inr x,.ref a)::vs) ((x,y)::l)
structure FNm(w:World)(K:PySem.W.Frag)(mg:Str->Option Value)(x:Str)(l:List (Str×Str)):Prop where
 ex:∃ (a:Addr) (vs:List (bz×Value)),mg x=some (.ref a)/\(∀ (P:Program) (h:Heap),K.In h->h.DictOf (ca P w) a vs)/\FNs mg vs l
theorem Su{w:World}{K:PySem.W.Frag}{mg:Str->Option Value}{x:Str}{a:Addr}{es:List DictEntry}{n:Nat}{vs:List (bz×Value)}{l:List (Str×Str)}(hg:mg x=some (.ref a))(hl:K.lookup a=some ⟨.type "dict",none,.dict es.toArray n,#[]⟩)(t:TabLit w es vs)(hn:(vs.map (·.1)).Nodup)(r:FNs mg vs l):FNm w K mg x l:=
 ⟨a,vs,hg,zj hl (fun P=>by simpa using t.pairs) (fun P e he=>t.keys e (by simpa using he)) hn,r⟩
section
variable{P:Program}{w:World}{K:PySem.W.Frag}{mg:Str->Option Value}{base:Heap}{k:Nat}
def FFs(P:Program)(w:World)(K:PySem.W.Frag)(mg:Str->Option Value)(base:Heap)(k:Nat):List (Str×Str)->List (bz×Nat×(List D->ac->Option (D×ac)))->Prop
 | [],[]=>True
 | (x,y)::l,(z,n,f)::r=>z=.inr x/\Fn P w K mg base k y n f/\FFs P w K mg base k l r
 | _,_=>False
theorem FNs.rel:∀ {vs l r},FNs mg vs l->FFs P w K mg base k l r->FRel P w K mg base k vs r
 | _,_,[],.nil,_=>.nil
 | _,_,(z,n,f)::r,.cons h t,q=>by
  obtain⟨q1,q2,q3⟩:=q
  subst q1
  exact .cons (q2.at h) (t.rel q3)
theorem NZ{x:Str}{l:List (Str×Str)}{r:List (bz×Nat×(List D->ac->Option (D×ac)))}(T:FNm w K mg x l)(h:FFs P w K mg base k l r):FTab P w K mg base k x r:=by
 obtain⟨a,vs,h1,h2,h3⟩:=T.ex
 exact⟨a,vs,h1,h2,h3.rel h⟩
theorem FRel.up{k':Nat}(h:k<=k'):∀ {vs l},FRel P w K mg base k vs l->FRel P w K mg base k' vs l
 | _,_,.nil=>.nil
 | _,_,.cons q t=>.cons (by obtain⟨fd,ps,a,b,c⟩:=q.ex;exact⟨fd,ps,a,b.mono h,c⟩) (t.up h)
theorem FTab.up{k':Nat}{x:Str}{l:List (bz×Nat×(List D->ac->Option (D×ac)))}(T:FTab P w K mg base k x l)(h:k<=k'):FTab P w K mg base k' x l:=by
 obtain⟨a,vs,h1,h2,h3⟩:=T.ex
 exact⟨a,vs,h1,h2,h3.up h⟩
end
end M
namespace MI
open PySem PySem.Spec PyProof.Rows L2 M
@[irreducible] noncomputable def mC(d:D):ME:=M.mC d
theorem tq{d:D}:mC d=M.mC d:=by unfold mC;rfl
@[irreducible] noncomputable def ab(i:Nat):ME:=M.ab i
theorem EA{i:Nat}:ab i=M.ab i:=by unfold ab;rfl
@[irreducible] noncomputable def au(f:ac->D->D->Option D)(a b:ME):ME:=M.au f a b
theorem jT{f:ac->D->D->Option D}{a b:ME}:au f a b=M.au f a b:=by unfold au;rfl
@[irreducible] noncomputable def av(m:ME):MT:=M.av m
theorem sY{m:ME}:av m=M.av m:=by unfold av;rfl
@[irreducible] noncomputable def cT(f g:ac->D->D->Option D)(a b c:ME):ME:=M.cT f g a b c
theorem pM{f g:ac->D->D->Option D}{a b c:ME}:cT f g a b c=M.cT f g a b c:=by unfold cT;rfl
@[irreducible] noncomputable def cV(m:ME):MT:=M.cV m
theorem yd{m:ME}:cV m=M.cV m:=by unfold cV;rfl
@[irreducible] noncomputable def cK(a b:MT):MT:=M.cK a b
theorem tw{a b:MT}:cK a b=M.cK a b:=by unfold cK;rfl
@[irreducible] noncomputable def fC(a b:MT):MT:=M.fC a b
theorem ye{a b:MT}:fC a b=M.fC a b:=by unfold fC;rfl
@[irreducible] noncomputable def dQ(a:MT):MT:=M.dQ a
theorem Aw{a:MT}:dQ a=M.dQ a:=by unfold dQ;rfl
@[irreducible] noncomputable def dm(a b:ME):ME:=M.JT a b
theorem EO{a b:ME}:dm a b=M.JT a b:=by unfold dm;rfl
@[irreducible] noncomputable def vR(a b:ME):ME:=M.RB a b
theorem JJ{a b:ME}:vR a b=M.RB a b:=by unfold vR;rfl
@[irreducible] noncomputable def ia(a:ME):ME:=M.JL a
theorem Av{a:ME}:ia a=M.JL a:=by unfold ia;rfl
@[irreducible] noncomputable def lF(t:MT)(a b:ME):ME:=M.lF t a b
theorem JP{t:MT}{a b:ME}:lF t a b=M.lF t a b:=by unfold lF;rfl
@[irreducible] noncomputable def ag:MA:=M.ag 
theorem yf  : ag  = M.ag  := by unfold ag;rfl
@[irreducible] noncomputable def aa(a:ME)(r:MA):MA:=M.aa a r
theorem AE{a:ME}{r:MA}:aa a r=M.aa a r:=by unfold aa;rfl
@[irreducible] noncomputable def aT(ms:MA):ME:=M.aT ms
theorem EC{ms:MA}:aT ms=M.aT ms:=by unfold aT;rfl
@[irreducible] noncomputable def dM(ms:MA):ME:=M.dM ms
theorem EH{ms:MA}:dM ms=M.dM ms:=by unfold dM;rfl
@[irreducible] noncomputable def fZ(ms:MA):ME:=M.fZ ms
theorem Ay{ms:MA}:fZ ms=M.fZ ms:=by unfold fZ;rfl
@[irreducible] noncomputable def EB(f:ac->D->Option D)(a:ME):ME:=M.EB f a
theorem JI{f:ac->D->Option D}{a:ME}:EB f a=M.EB f a:=by unfold EB;rfl
@[irreducible] noncomputable def bE:MO:=M.bE 
theorem vQ  : bE  = M.bE  := by unfold bE;rfl
@[irreducible] noncomputable def cb(m:ME):MO:=M.cb m
theorem Au{m:ME}:cb m=M.cb m:=by unfold cb;rfl
@[irreducible] noncomputable def bD(a:ME)(lo hi:MO):ME:=M.bD a lo hi
theorem vP{a:ME}{lo hi:MO}:bD a lo hi=M.bD a lo hi:=by unfold bD;rfl
@[irreducible] noncomputable def bf(f:List D->ac->Option (D×ac))(ms:MA):ME:=M.bf f ms
theorem ib{f:List D->ac->Option (D×ac)}{ms:MA}:bf f ms=M.bf f ms:=by unfold bf;rfl
@[irreducible] noncomputable def dN(T:String)(m:ME):ME:=M.dN T m
theorem EI{T:String}{m:ME}:dN T m=M.dN T m:=by unfold dN;rfl
@[irreducible] noncomputable def ak(n:Nat)(f:List D->ac->Option (D×ac))(ms:MA):ME:=M.ak n f ms
theorem pN{n:Nat}{f:List D->ac->Option (D×ac)}{ms:MA}:ak n f ms=M.ak n f ms:=by unfold ak;rfl
@[irreducible] noncomputable def aY:MS:=M.aY 
theorem oO  : aY  = M.aY  := by unfold aY;rfl
@[irreducible] noncomputable def az(a b:MS):MS:=M.az a b
theorem ED{a b:MS}:az a b=M.az a b:=by unfold az;rfl
@[irreducible] noncomputable def aU(m:ME):MS:=M.aU m
theorem EE{m:ME}:aU m=M.aU m:=by unfold aU;rfl
@[irreducible] noncomputable def eV(m:ME):MS:=M.eV m
theorem AB{m:ME}:eV m=M.eV m:=by unfold eV;rfl
@[irreducible] noncomputable def bC(t:MT)(a b:MS):MS:=M.bC t a b
theorem EJ{t:MT}{a b:MS}:bC t a b=M.bC t a b:=by unfold bC;rfl
@[irreducible] noncomputable def ah(i:Nat):MG:=M.ah i
theorem pf{i:Nat}:ah i=M.ah i:=by unfold ah;rfl
@[irreducible] noncomputable def aK:uB:=M.aK 
theorem AZ  : aK  = M.aK  := by unfold aK;rfl
@[irreducible] noncomputable def af(g:MG)(gs:uB):uB:=M.af g gs
theorem wu{g:MG}{gs:uB}:af g gs=M.af g gs:=by unfold af;rfl
@[irreducible] noncomputable def aZ(n:Nat)(gs:uB):MG:=M.aZ n gs
theorem my{n:Nat}{gs:uB}:aZ n gs=M.aZ n gs:=by unfold aZ;rfl
@[irreducible] noncomputable def gq(o i:ME):MG:=M.gq o i
theorem AY{o i:ME}:gq o i=M.gq o i:=by unfold gq;rfl
@[irreducible] noncomputable def aH(m:ME)(g:MG):MS:=M.aH m g
theorem iI{m:ME}{g:MG}:aH m g=M.aH m g:=by unfold aH;rfl
@[irreducible] noncomputable def bQ(ms:MA):MA:=M.bQ ms
theorem tj{ms:MA}:bQ ms=M.bQ ms:=by unfold bQ;rfl
@[irreducible] noncomputable def dP(ms:MA):MA:=M.dP ms
theorem tf{ms:MA}:dP ms=M.dP ms:=by unfold dP;rfl
@[irreducible] noncomputable def gY(mi:MA)(g:MG)(body:MS):MS:=M.gY mi g body
theorem EK{mi:MA}{g:MG}{body:MS}:gY mi g body=M.gY mi g body:=by unfold gY;rfl
@[irreducible] noncomputable def bJ(mi:MA)(g:MG)(t:MT)(e:ME)(cap:List (Option Nat)):ME:=M.bJ mi g t e cap
theorem tm{mi:MA}{g:MG}{t:MT}{e:ME}{cap:List (Option Nat)}:bJ mi g t e cap=M.bJ mi g t e cap:=by unfold bJ;rfl
@[irreducible] noncomputable def cY(m:ME):MA:=M.cY m
theorem yg{m:ME}:cY m=M.cY m:=by unfold cY;rfl
@[irreducible] noncomputable def bX:MT:=M.bX 
theorem At  : bX  = M.bX  := by unfold bX;rfl
@[irreducible] noncomputable def fY(f:MF)(o:ME)(ms:MA):ME:=M.fY f o ms
theorem Ax{f:MF}{o:ME}{ms:MA}:fY f o ms=M.fY f o ms:=by unfold fY;rfl
@[irreducible] noncomputable def gn(ms:MA):MA:=M.gn ms
theorem AA{ms:MA}:gn ms=M.gn ms:=by unfold gn;rfl
@[irreducible] noncomputable def nv(i j:Nat)(ms:MA):MS:=M.nv i j ms
theorem EF{i j:Nat}{ms:MA}:nv i j ms=M.nv i j ms:=by unfold nv;rfl
@[irreducible] noncomputable def ky(o:ME)(ms:MA):ME:=M.ky o ms
theorem EN{o:ME}{ms:MA}:ky o ms=M.ky o ms:=by unfold ky;rfl
@[irreducible] noncomputable def nT(ms:MA):MA:=M.nT ms
theorem Ez{ms:MA}:nT ms=M.nT ms:=by unfold nT;rfl
@[irreducible] noncomputable def iE(ms:List (ME×ME)):ME:=M.iE ms
theorem AD{ms:List (ME×ME)}:iE ms=M.iE ms:=by unfold iE;rfl
@[irreducible] noncomputable def fG(ms:List (ME×ME)):ME:=M.fG ms
theorem vU{ms:List (ME×ME)}:fG ms=M.fG ms:=by unfold fG;rfl
@[irreducible] noncomputable def fD(f:MF)(o:ME)(ms:MA):ME:=M.fD f o ms
theorem vS{f:MF}{o:ME}{ms:MA}:fD f o ms=M.fD f o ms:=by unfold fD;rfl
@[irreducible] noncomputable def ga(m:ME)(g:MG)(body:MS):MS:=M.ga m g body
theorem Az{m:ME}{g:MG}{body:MS}:ga m g body=M.ga m g body:=by unfold ga;rfl
@[irreducible] noncomputable def fE(ms:MA):ME:=M.fE ms
theorem vT{ms:MA}:fE ms=M.fE ms:=by unfold fE;rfl
@[irreducible] noncomputable def fB(t:MT)(body:MS):MS:=M.fB t body
theorem vN{t:MT}{body:MS}:fB t body=M.fB t body:=by unfold fB;rfl
@[irreducible] noncomputable def dL(l:List (bz×D))(a:ME):ME:=M.dL l a
theorem vO{l:List (bz×D)}{a:ME}:dL l a=M.dL l a:=by unfold dL;rfl
@[irreducible] noncomputable def jd(l:List (bz×Nat×(List D->ac->Option (D×ac))))(i:Nat)(mi:ME)(ms:MA):MS:=M.jd l i mi ms
theorem AC{i:Nat}{mi:ME}{ms:MA}:jd l i mi ms=M.jd l i mi ms:=by unfold jd;rfl
theorem CM{f:List D->ac->Option (D×ac)}:ak 0 f ag=M.ak 0 f M.ag:=by rw [pN,yf]
theorem CJ{f:ac->D->D->Option D}{a b:ME}:av (au f a b)=M.av (M.au f a b):=by rw [sY,jT]
theorem CK{f g:ac->D->D->Option D}{a b c:ME}:av (cT f g a b c)=M.av (M.cT f g a b c):=by rw [sY,pM]
theorem nV{m:ME}{i:Nat}:aH m (ah i)=M.aH m (M.ah i):=by rw [iI,pf]
theorem AF{mi:MA}{g:MG}{t:MT}{e:ME}{cap:List (Option Nat)}{i:Nat}:aH (bJ mi g t e cap) (ah i)=M.aH (M.bJ mi g t e cap) (M.ah i):=by rw [iI,pf,tm]
section
variable{X:Cx}{e:Expr}{es:List Expr}{s:Stmt}{ss:List Stmt}
theorem cf{m m':ME}(h:m=m')(d:DE X e m'):DE X e m:=by rw [h];exact d
theorem Bw{m m':MT}(h:m=m')(d:DT X e m'):DT X e m:=by rw [h];exact d
theorem Fq{m m':MT}(h:m=m')(d:DW X e m'):DW X e m:=by rw [h];exact d
theorem Qe{m m':MA}(h:m=m')(d:DA X es m'):DA X es m:=by rw [h];exact d
theorem Qd{o:Option Expr}{m m':MO}(h:m=m')(d:DO X o m'):DO X o m:=by rw [h];exact d
theorem Fr{m m':MG}(h:m=m')(d:DG X e m'):DG X e m:=by rw [h];exact d
theorem LU{m m':uB}(h:m=m')(d:TX X es m'):TX X es m:=by rw [h];exact d
theorem wI{tg:Expr}{m m':MA}(h:m=m')(d:DI X tg e m'):DI X tg e m:=by rw [h];exact d
theorem Tq{m m':MT}(h:m=m')(d:Qj X es m'):Qj X es m:=by rw [h];exact d
theorem jt{m m':MS}(h:m=m')(d:DS X s m'):DS X s m:=by rw [h];exact d
theorem DK{m m':MS}(h:m=m')(d:vn X ss m'):vn X ss m:=by rw [h];exact d
end
end MI
namespace MI
open PySem PySem.Spec PyProof.Rows L2 M
inductive GI where
 | fn (n:Nat) (f:List D->ac->Option (D×ac))
 | con (d:D)
 | blt
 | tab (l:List (bz×D))
 | ftab (l:List (bz×Nat×(List D->ac->Option (D×ac))))
structure CI where
 N:List Str
 sc:Scope
 all:Bool
 gs:List (Str×GI)
 mt:List Nat
def GOk(X:Cx)(k:Nat)(x:Str):GI->Prop
 | .fn n f=>Fn X.prog X.w X.K X.mg X.base k x n f
 | .con d=>GC X.K X.mg x d
 | .blt=>X.mg x=none
 | .tab l=>uz X.w X.K X.mg x l
 | .ftab l=>FTab X.prog X.w X.K X.mg X.base k x l
structure jD(k:Nat)(c:CI)(X:Cx):Prop where
 N:X.N=c.N
 nd:c.N.Nodup
 sc:X.env.scope=c.sc
 fk:c.sc.kind=.function
 fn:c.all=true->∀ x,X.fn x=true
 calm:X.calm=true
 room:Room k X.A
 xe:X.xe=fun _ _=>False
 gs:∀ p∈c.gs,GOk X k p.1 p.2
def iw:ME:=fun _ _=>none
def ve:MT:=fun _ _=>none
def jU:MS:=fun _ _=>none
def vf:MA:=fun _ _=>none
def Kt:MG:=fun _ _ _=>none
section
variable{X:Cx}{k:Nat}{c:CI}{e:Expr}{pos:Pos}
theorem ci:DE X e iw:=fun _ _ _ _ _ _ ⟨_,_,_,_,_,_,_,h,_⟩=>by cases h
theorem pk:DT X e ve:=fun _ _ _ _ _ _ ⟨_,_,_,_,_,_,_,h,_⟩=>by cases h
theorem lH{s:Stmt}:DS X s jU:=fun _ _ _ _ _ _ ⟨_,_,_,_,_,_,h,_⟩=>by cases h
theorem Lw{s:Stmt}{g:MG}:DS X s (aH iw g):=by
 rw [show aH iw g=jU from by rw [iI];rfl]
 exact lH
theorem SQ{s:List Stmt}:vn X s jU:=fun _ _ _ _ _ _ ⟨_,_,_,_,_,_,h,_⟩=>by cases h
theorem da_no{es:List Expr}:DA X es vf:=fun _ _ _ _ _ _ _ ⟨_,_,_,_,_,_,_,h,_⟩=>by cases h
theorem ul{tg:Expr}:DI X tg e vf:=fun _ _ _ _ _ _ ⟨_,_,_,_,_,_,_,h,_⟩=>by cases h
theorem Br:DG X e Kt:=fun _ _ _ _ _ _ _ _ _ ⟨_,_,_,_,_,_,_,_,_,h,_⟩=>by cases h
noncomputable def nZ(x:Str):List Str->Option Nat
 | []=>none
 | y::r=>if x == y then some 0 else (nZ x r).map (· + 1)
theorem cU{x:Str}:∀ {l:List Str} {i:Nat},nZ x l=some i->l[i]?=some x
 | y::r,i,h=>by
  unfold nZ at h
  split at h
  ·rename_i e;cases h;simp at e;simp [e]
  ·cases q:nZ x r with
   | none=>rw [q] at h;cases h
   | some j=>rw [q] at h;cases h;simpa using cU q
def eN(x:Str):Bool:=!(x == ("__debug__":Str)) && !(x == ("__classdict__":Str)) && !(x == ("__name__":Str))
theorem cP{x:Str}(h:eN x=true):(x == ("__debug__":Str))=false:=by
 unfold eN at h;rw [Bool.and_eq_true,Bool.and_eq_true] at h;simpa only [Bool.not_eq_true'] using h.1.1
theorem zR{x:Str}(h:eN x=true):(x == ("__classdict__":Str))=false:=by
 unfold eN at h;rw [Bool.and_eq_true,Bool.and_eq_true] at h;simpa only [Bool.not_eq_true'] using h.1.2
theorem hZ{x:Str}(h:eN x=true):x ≠ "__name__":=by
 unfold eN at h;rw [Bool.and_eq_true,Bool.and_eq_true] at h
 have:=h.2
 rw [Bool.not_eq_true'] at this
 intro z;rw [z] at this;simp at this
noncomputable def PN(c:CI)(x:Str):Option GI:=match c.sc.names.lookup x with | some .globalImplicit=>if eN x then c.gs.lookup x else none | _=>none
theorem jg{g:GI}{x:Str}(C:jD k c X)(h:PN c x=some g):Gl X x/\eN x=true/\GOk X k x g:=by
 unfold PN at h
 split at h
 ·rename_i e
  split at h
  ·rename_i o
   refine⟨?_,o,C.gs _ (PySem.mem_of_lookup h)⟩
   show X.env.scope.names.lookup x=_
   rw [C.sc,e]
  ·cases h
 ·cases h
def Dp(c:CI)(x:Str):ME:=match c.sc.names.lookup x with
 | some .globalImplicit=>match PN c x with | some (.con d)=>mC d | _=>iw
 | some .local=>match nZ x c.N with | some i=>if eN x then ab i else iw | none=>iw
 | some .cell=>match nZ x c.N with | some i=>if eN x then ab i else iw | none=>iw
 | some .free=>match nZ x c.N with | some i=>if eN x then ab i else iw | none=>iw
 | _=>iw
theorem og(C:jD k c X){x:Str}(hv:TL c.sc x):DE X (.Name x pos) (match nZ x c.N with | some i=>if eN x then ab i else iw | none=>iw):=by
 split
 ·rename_i i e
  split
  ·rename_i o
   exact cf EA <| M.SZ (by rw [C.N];exact cU e) (by rw [C.sc];exact hv) (cP o) (zR o)
  ·exact ci
 ·exact ci
theorem Hd(C:jD k c X)(x:Str):DE X (.Name x pos) (Dp c x):=by
 unfold Dp
 split
 ·split
  ·rename_i d e
   obtain⟨g,o,G⟩:=jg C e
   exact cf tq <| M.ON G g (cP o)
  ·exact ci
 ·rename_i e;exact og C (.inl e)
 ·rename_i e;exact og C (.inr (.inl e))
 ·rename_i e;exact og C (.inr (.inr e))
 ·exact ci
noncomputable def Ff:Const->ME
 | .int i=>mC (.int i)
 | .bool b=>mC (.bl b)
 | .none=>mC .non
 | .str x=>mC (.str x)
 | _=>iw
theorem Ds(v:Const){j:Nat}:DE X (.Constant v j pos) (Ff v):=by
 cases v <;> first | exact cf tq <| M.Th | exact cf tq <| M.de_bl | exact cf tq <| M.Td | exact cf tq <| M.Tb | exact ci
def Le(z:Bool)(op:Operator)(a b:ME):ME:=match op with
 | .Add=>au aR a b
 | .Sub=>au ny a b
 | .Mult=>au cH a b
 | .Mod=>au ls a b
 | .FloorDiv=>au Ha a b
 | .Pow=>au vh a b
 | _=>iw
theorem Ld{z:Bool}{op:Operator}{a b:Expr}{ma mb:ME}(ha:DE X a ma)(hb:DE X b mb):DE X (.BinOp a op b pos) (Le z op ma mb):=by
 cases op <;> first | exact ci | skip
 ·exact cf jT <| M.wE Nv ha hb
 ·exact cf jT <| M.wE Rj ha hb
 ·exact cf jT <| M.wE Nu ha hb
 ·exact cf jT <| M.wE Rp ha hb
 ·exact cf jT <| M.wE Rn ha hb
 ·exact cf jT <| M.wE Rq ha hb
def evUn(op:UnaryOp)(a:ME):ME:=match op with
 | .Not=>ia a
 | .USub=>EB Sy a
 | _=>iw
theorem Oq{op:UnaryOp}{a:Expr}{ma:ME}(ha:DE X a ma):DE X (.UnaryOp op a pos) (evUn op ma):=by
 cases op <;> first | exact ci | skip
 ·exact cf Av <| M.OL ha
 ·exact cf JI <| M.de_un Mk ha
noncomputable def DJ:CmpOp->Option (ac->D->D->Option D)
 | .Eq=>some bT
 | .NotEq=>some gK
 | .Lt=>some Om
 | .LtE=>some On
 | .Gt=>some fGt
 | .GtE=>some fGe
 | .In=>some on
 | .NotIn=>some pY
 | .Is=>some ug
 | .IsNot=>some iy
theorem ng{op:CmpOp}{f:ac->D->D->Option D}(r:Room k X.A)(h:DJ op=some f):OpR X (compareOp op) (nq X.K f):=by
 cases op <;> cases h
 ·exact op_Eq r.units
 ·exact op_Ne r.units
 ·exact op_Lt
 ·exact op_Le
 ·exact op_Gt
 ·exact op_Ge
 ·exact op_Is
 ·exact Jw
 ·exact op_In r.units
 ·exact Jv r.units
noncomputable def lf:Expr->Bool
 | .Set _ _ _=>false
 | _=>true
theorem iG{op:CmpOp}(h:lf e=true):behindInMarks op e=false:=by cases e <;> first | rfl | cases h
theorem jH(h:lf e=true)(x:Value):foldedSetIterable e X.env x=pure x:=by cases e <;> first | rfl | cases h
def Lc(c:CI)(E:CI->Expr->ME)(a:Expr)(ops:List CmpOp)(bs:List Expr):ME:=match ops,bs with
 | [op],[b]=>if lf b then (match DJ op with | some f=>au f (E c a) (E c b) | none=>iw) else iw
 | [op,op'],[b,d]=>if lf d then (match DJ op,DJ op' with | some f,some g=>cT f g (E c a) (E c b) (E c d) | _,_=>iw) else iw
 | _,_=>iw
def Dt(c:CI)(E:CI->Expr->ME)(a:Expr)(ops:List CmpOp)(bs:List Expr):MT:=match ops,bs with
 | [op],[b]=>if lf b then (match DJ op with | some f=>av (au f (E c a) (E c b)) | none=>ve) else ve
 | [op,op'],[b,d]=>if lf d then (match DJ op,DJ op' with | some f,some g=>av (cT f g (E c a) (E c b) (E c d)) | _,_=>ve) else ve
 | _,_=>ve
section
variable{E:CI->Expr->ME}{T:CI->Expr->MT}
theorem Lb(C:jD k c X)(hE:∀ e,DE X e (E c e)){a:Expr}{ops:List CmpOp}{bs:List Expr}:DE X (.Compare a ops bs pos) (Lc c E a ops bs):=by
 unfold Lc
 split
 ·split
  ·rename_i hm
   split
   ·rename_i f h;exact cf jT <| M.Tk (ng C.room h) (hE _) (hE _) (iG hm)
   ·exact ci
  ·exact ci
 ·split
  ·rename_i hm
   split
   ·rename_i f g h1 h2;exact cf pM <| M.LM (ng C.room h1) (ng C.room h2) (hE _) (hE _) (hE _) (iG hm)
   ·exact ci
  ·exact ci
 ·exact ci
theorem Hj(C:jD k c X)(hE:∀ e,DE X e (E c e)){a:Expr}{ops:List CmpOp}{bs:List Expr}:DT X (.Compare a ops bs pos) (Dt c E a ops bs):=by
 unfold Dt
 split
 ·split
  ·rename_i hm
   split
   ·rename_i f h;exact Bw CJ <| M.SO (ng C.room h) (hE _) (hE _) (iG hm)
   ·exact pk
  ·exact pk
 ·split
  ·rename_i hm
   split
   ·rename_i f g h1 h2;exact Bw CK <| M.Lp (ng C.room h1) (ng C.room h2) (hE _) (hE _) (hE _) (iG hm)
   ·exact pk
  ·exact pk
 ·exact pk
noncomputable def Bd(f:ME->ME->ME):List ME->ME
 | []=>iw
 | [m]=>m
 | m::r=>f m (Bd f r)
noncomputable def ua(f:MT->MT->MT):List MT->MT
 | []=>ve
 | [m]=>m
 | m::r=>f m (ua f r)
theorem wy{E:Expr->ME}(hE:∀ e,DE X e (E e)):∀ vs:List Expr,DE X (.BoolOp .And vs pos) (Bd dm (vs.map E))
 | []=>ci
 | [e]=>LI (hE e)
 | e::e'::r=>cf EO <| M.OS (hE e) (wy hE (e'::r))
theorem Bc{E:Expr->ME}(hE:∀ e,DE X e (E e)):∀ vs:List Expr,DE X (.BoolOp .Or vs pos) (Bd vR (vs.map E))
 | []=>ci
 | [e]=>LI (hE e)
 | e::e'::r=>cf JJ <| M.Tc (hE e) (Bc hE (e'::r))
theorem GU{E:Expr->MT}(hE:∀ e,DT X e (E e)):∀ vs:List Expr,DT X (.BoolOp .And vs pos) (ua cK (vs.map E))
 | []=>pk
 | [e]=>Oy (Fh (hE e))
 | e::e'::r=>Oy (Fq tw <| M.Lm (hE e) (foldT_andW hE (e'::r) (by simp)))
where foldT_andW {E:Expr->MT} (hE:∀ e,DT X e (E e)):∀ vs:List Expr,vs≠[]->DW X (.BoolOp .And vs pos) (ua cK (vs.map E))
 | [],h=>absurd rfl h
 | [e],_=>Fh (hE e)
 | e::e'::r,_=>Fq tw <| M.Lm (hE e) (foldT_andW hE (e'::r) (by simp))
theorem Kw{E:Expr->MT}(hE:∀ e,DT X e (E e)):∀ vs:List Expr,DT X (.BoolOp .Or vs pos) (ua fC (vs.map E))
 | []=>pk
 | [e]=>Oy (Ll (hE e))
 | e::e'::r=>Oy (Fq ye <| M.PZ (hE e) (foldT_orW hE (e'::r) (by simp)))
where foldT_orW {E:Expr->MT} (hE:∀ e,DT X e (E e)):∀ vs:List Expr,vs≠[]->DW X (.BoolOp .Or vs pos) (ua fC (vs.map E))
 | [],h=>absurd rfl h
 | [e],_=>Ll (hE e)
 | e::e'::r,_=>Fq ye <| M.PZ (hE e) (foldT_orW hE (e'::r) (by simp))
noncomputable def cn:Expr->Bool
 | .Starred _ _=>false
 | _=>true
theorem bN{es:List Expr}(h:cn e=true):starEach (e::es) X.env=(false,eval e X.env)::starEach es X.env:=by cases e <;> first | rfl | cases h
theorem gM:∀ {es:List Expr},es.all cn=true->(backTo pos (starEach es X.env)).any (·.1)=false
 | [],_=>rfl
 | e::es,h=>by
  rw [List.all_cons,Bool.and_eq_true] at h
  rw [bN h.1]
  show (false||(backTo pos (starEach es X.env)).any (·.1))=false
  rw [gM h.2];rfl
noncomputable def wC(E:Expr->ME):List Expr->MA
 | []=>ag
 | e::r=>if cn e then aa (E e) (wC E r) else vf
theorem eU{E:Expr->ME}(hE:∀ e,DE X e (E e)):∀ es:List Expr,DA X es (wC E es)
 | []=>Qe yf <| M.Tl
 | e::r=>by
  unfold wC
  split
  ·rename_i h;exact Qe AE <| M.OU (hE e) (eU hE r) (bN h)
  ·exact da_no
noncomputable def evO(E:Expr->ME):Option Expr->MO
 | none=>bE
 | some e=>cb (E e)
theorem KY{E:Expr->ME}(hE:∀ e,DE X e (E e)):∀ o:Option Expr,DO X o (evO E o)
 | none=>Qd vQ <| M.OI
 | some e=>Qd Au <| M.OH (hE e)
noncomputable def zk(c:CI):Expr->Option (List (bz×D))
 | .Name x _=>match PN c x with | some (.tab l)=>some l | _=>none
 | _=>none
theorem BH{a:Expr}{l:List (bz×D)}(C:jD k c X)(h:zk c a=some l):∃ x p,a=.Name x p/\Gl X x/\eN x=true/\uz X.w X.K X.mg x l:=by
 unfold zk at h
 split at h
 ·split at h
  ·rename_i e
   cases h
   obtain⟨g,o,G⟩:=jg C e
   exact⟨_,_,rfl,g,o,G⟩
  ·cases h
 ·cases h
def PV(c:CI)(E:Expr->ME)(a i:Expr):ME:=match i with
 | .Slice lo hi st _=>match st with | none=>bD (E a) (evO E lo) (evO E hi) | some st=>(match lo,hi with | none,none=>iw | _,_=>iw)
 | i=>match zk c a with | some l=>dL l (E i) | none=>au aw (E a) (E i)
theorem Hc(C:jD k c X){E:Expr->ME}(hE:∀ e,DE X e (E e))(a i:Expr)(hs:nj i:=by intro _ _;rfl):DE X (.Subscript a i pos) (match zk c a with | some l=>dL l (E i) | none=>au aw (E a) (E i)):=by
 cases ht:zk c a with
 | none=>exact cf jT <| M.Tg (by have:=C.room.units;omega) (hE a) (hE _) hs
 | some l=>
  obtain⟨x,p,rfl,g,o,G⟩:=BH C ht
  exact cf vO (M.LG G g (cP o) (hE _) hs)
theorem KS(C:jD k c X){E:Expr->ME}(hE:∀ e,DE X e (E e))(a i:Expr):DE X (.Subscript a i pos) (PV c E a i):=by
 cases i with
 | Slice lo hi st p=>
  cases st with
  | none=>exact cf vP <| M.LH (hE a) (KY hE lo) (KY hE hi)
  | some st=>
   cases lo with
   | none=>
    cases hi with
    | none=>exact ci
    | some _=>exact ci
   | some _=>exact ci
 | _=>exact Hc C hE a _
noncomputable def sJ:Expr->Option Str
 | .Name x _=>some x
 | _=>none
theorem lU{x:Str}(h:sJ e=some x):∃ p,e=.Name x p:=by cases e <;> cases h;exact⟨_,rfl⟩
noncomputable def uu:Expr->Option (Str×List Expr)
 | .Call f es [] _=>(sJ f).map fun x=>(x,es)
 | _=>none
theorem mK{x:Str}{es:List Expr}(h:uu e=some (x,es)):∃ p p2,e=.Call (.Name x p) es [] p2:=by
 cases e with
 | Call f es' ks p2=>
  cases ks with
  | nil=>
   obtain⟨y,h1,h2⟩:=Option.map_eq_some_iff.mp h
   cases h2
   obtain⟨p,rfl⟩:=lU h1
   exact⟨p,p2,rfl⟩
  | cons _ _=>cases h
 | _=>cases h
def nD(c:CI)(x:Str):Bool:=match PN c x with | some .blt=>true | _=>false
theorem mq{x:Str}(C:jD k c X)(h:nD c x=true):X.mg x=none/\Gl X x/\eN x=true:=by
 unfold nD at h
 split at h
 ·rename_i e;obtain⟨a,b,d⟩:=jg C e;exact⟨d,a,b⟩
 ·cases h
noncomputable def BO(c:CI)(es:List Expr):Option Expr:=match es with
 | [e1]=>match uu e1 with
  | some (y,[a])=>if y == "set" && nD c y&&cn a then some a else none
  | _=>none
 | _=>none
theorem zq{es:List Expr}{a:Expr}(h:BO c es=some a):∃ p p2,es=[.Call (.Name "set" p) [a] [] p2]/\nD c "set" = true/\cn a=true:=by
 unfold BO at h
 split at h
 ·split at h
  ·rename_i hc
   split at h
   ·rename_i hb
    cases h
    rw [Bool.and_eq_true,Bool.and_eq_true] at hb
    obtain⟨p,p2,rfl⟩:=mK hc
    have z:=hb.1.1
    rw [beq_iff_eq] at z;subst z
    exact⟨p,p2,rfl,hb.1.2,hb.2⟩
   ·cases h
  ·cases h
 ·cases h
noncomputable def sk(c:CI)(es:List Expr):Option Expr:=match es with
 | [e1]=>match uu e1 with
  | some (y,[a])=>if y == "range" && nD c y&&cn a then some a else none
  | _=>none
 | _=>none
theorem uL{es:List Expr}{a:Expr}(h:sk c es=some a):∃ p p2,es=[.Call (.Name "range" p) [a] [] p2]/\nD c "range" = true/\cn a=true:=by
 unfold sk at h
 split at h
 ·split at h
  ·rename_i hc
   split at h
   ·rename_i hb
    cases h
    rw [Bool.and_eq_true,Bool.and_eq_true] at hb
    obtain⟨p,p2,rfl⟩:=mK hc
    have z:=hb.1.1
    rw [beq_iff_eq] at z;subst z
    exact⟨p,p2,rfl,hb.1.2,hb.2⟩
   ·cases h
  ·cases h
 ·cases h
noncomputable def Tv(z:Bool)(x:Str):Option (List D->ac->Option (D×ac)):=
 if x == "len" then some (aM fK) else if x == "int" then some (aM kM) else if x == "max" then some (aM lG) else if x == "min" then some (aM Bj)
 else if x == "list" then some (aM (cj .lst)) else if x == "tuple" then some (aM (cj .tup)) else if x == "all" then some (aM yE) else none
theorem Pa{zz:Bool}{x:Str}{f:List D->ac->Option (D×ac)}{es:List Expr}{ms:MA}{p:Pos}(C:jD k c X)(h:Tv zz x=some f)(hm:X.mg x=none)(hg:Gl X x)(o:eN x=true)(hs:(e::es).all cn=true)(ha:DA X (e::es) ms) :
  DE X (.Call (.Name x p) (e::es) [] pos) (bf f ms):=by
 rw [List.all_cons,Bool.and_eq_true] at hs
 have q1:=bN (X:=X) (es:=es) hs.1
 have q2:=gM (X:=X) (pos:=pos) hs.2
 unfold Tv at h
 split at h
 ·rename_i z;cases h;rw [beq_iff_eq] at z;subst z;exact cf ib <| M.pq LV hm boot_len ha hg (hZ o) (cP o) q1 q2
 split at h
 ·rename_i z;cases h;rw [beq_iff_eq] at z;subst z;exact cf ib <| M.qd LW hm boot_int ha hg (hZ o) (cP o) q1 q2
 split at h
 ·rename_i z;cases h;rw [beq_iff_eq] at z;subst z;exact cf ib <| M.pq (HN C.calm) hm boot_max ha hg (hZ o) (cP o) q1 q2
 split at h
 ·rename_i z;cases h;rw [beq_iff_eq] at z;subst z;exact cf ib <| M.pq (HM C.calm) hm boot_min ha hg (hZ o) (cP o) q1 q2
 split at h
 ·rename_i z;cases h;rw [beq_iff_eq] at z;subst z;exact cf ib <| M.qd HQ hm boot_list ha hg (hZ o) (cP o) q1 q2
 split at h
 ·rename_i z;cases h;rw [beq_iff_eq] at z;subst z;exact cf ib <| M.qd DN hm boot_tuple ha hg (hZ o) (cP o) q1 q2
 split at h
 ·rename_i z;cases h;rw [beq_iff_eq] at z;subst z;exact cf ib <| M.pq (LX C.calm) hm boot_all ha hg (hZ o) (cP o) q1 q2
 cases h
noncomputable def Qs(x:Str):Option String:=if x == "int" then some "int" else if x == "bool" then some "bool" else if x == "str" then some "str" else if x == "tuple" then some "tuple" else if x == "list" then some "list" else if x == "dict" then some "dict" else none
theorem Ed{x:Str}{T:String}(h:Qs x=some T):bootBuiltins x=some (.type T)/\(T = "int"\/T = "bool"\/T = "str"\/T = "tuple"\/T = "list"\/T = "dict"):=by
 unfold Qs at h
 split at h
 ·rename_i z;cases h;rw [beq_iff_eq] at z;subst z;exact⟨boot_int,by simp⟩
 split at h
 ·rename_i z;cases h;rw [beq_iff_eq] at z;subst z;exact⟨boot_bool,by simp⟩
 split at h
 ·rename_i z;cases h;rw [beq_iff_eq] at z;subst z;exact⟨boot_str,by simp⟩
 split at h
 ·rename_i z;cases h;rw [beq_iff_eq] at z;subst z;exact⟨boot_tuple,by simp⟩
 split at h
 ·rename_i z;cases h;rw [beq_iff_eq] at z;subst z;exact⟨boot_list,by simp⟩
 split at h
 ·rename_i z;cases h;rw [beq_iff_eq] at z;subst z;exact⟨boot_dict,by simp⟩
 cases h
noncomputable def PX(c:CI)(E:Expr->ME):List Expr->ME
 | [a,t]=>match sJ t with
  | some y=>match PN c y,Qs y with | some .blt,some T=>if cn a then dN T (E a) else iw | _,_=>iw
  | none=>iw
 | _=>iw
def yH(c:CI)(E:Expr->ME)(x:Str)(es:List Expr):ME:=match PN c x with
 | some (.fn n f)=>match es with
  | []=>if n == 0 then ak 0 f ag else iw
  | e::r=>if (e::r).all cn then ak n f (wC E (e::r)) else iw
 | some .blt=>if x == "isinstance" then PX c E es else match (if x == "len" then BO c es else none) with
  | some a=>iw
  | none=>match (if x == "list" then sk c es else none) with
  | some a=>fE (wC E [a])
  | none=>match Tv (c.mt.contains 400000) x,es with
   | some f,e::r=>if (e::r).all cn then bf f (wC E (e::r)) else iw
   | _,_=>iw
 | _=>iw
theorem Hk(C:jD k c X){E:Expr->ME}(hE:∀ e,DE X e (E e)){x:Str}{es:List Expr}{p:Pos}:DE X (.Call (.Name x p) es [] pos) (yH c E x es):=by
 unfold yH
 split
 ·rename_i n f hg
  obtain⟨g,o,G⟩:=jg C hg
  split
  ·split
   ·rename_i hn
    have:n=0:=by simpa using hn
    subst this
    exact cf CM <| M.LN G C.room g (cP o)
   ·exact ci
  ·split
   ·rename_i hs
    have hs':=hs
    rw [List.all_cons,Bool.and_eq_true] at hs
    exact cf pN <| M.OR G C.room (eU hE _) g (cP o) (bN hs.1) (gM hs.2)
   ·exact ci
 ·rename_i hg
  obtain⟨g,o,G⟩:=jg C hg
  split
  ·rename_i z
   rw [beq_iff_eq] at z;subst z
   unfold PX
   split
   ·split
    ·rename_i y hy
     obtain⟨p2,rfl⟩:=lU hy
     split
     ·rename_i T h1 h2
      obtain⟨g',o',G'⟩:=jg C h1
      split
      ·rename_i hs
       exact cf EI <| M.Hy G G' (Ed h2).1 (hE _) (Ed h2).2 g g' (hZ o') (cP o') (bN hs) rfl rfl
      ·exact ci
     ·exact ci
    ·exact ci
   ·exact ci
  ·split
   ·rename_i a ha
    split at ha
    ·rename_i z
     rw [beq_iff_eq] at z;subst z
     obtain⟨p3,p4,rfl,hb,hs⟩:=zq ha
     obtain⟨m2,g2,o2⟩:=mq C hb
     exact ci
    ·cases ha
   ·split
    ·rename_i a ha
     split at ha
     ·rename_i z
      rw [beq_iff_eq] at z;subst z
      obtain⟨p3,p4,rfl,hb,hs⟩:=uL ha
      obtain⟨m2,g2,o2⟩:=mq C hb
      exact cf vT (M.LK C.calm G m2 g g2 (eU hE _) (bN hs))
     ·cases ha
    ·split
     ·rename_i _ f e r hf
      split
      ·rename_i hs
       exact Pa C (by assumption) G g o hs (eU hE _)
      ·exact ci
     ·exact ci
 ·exact ci
noncomputable def DQ:Expr->Option (Expr×Str×Pos)
 | .Attribute o nm ap=>some (o,nm,ap)
 | _=>none
theorem BA{o:Expr}{nm:Str}{ap:Pos}(h:DQ e=some (o,nm,ap)):e=.Attribute o nm ap:=by cases e <;> cases h;rfl
noncomputable def JB(x:Str):Option MF:=if x == "append" then some dR else if x == "insert" then some iK else if x == "count" then some mX else if x == "index" then some mz else none
theorem JA{x:Str}{f:MF}(C:jD k c X)(h:JB x=some f):∃ id,Slot "list" x id/\typeOf (.builtin id)=pure (.type "method_descriptor")/\MtR X id (Mg X.K f):=by
 unfold JB at h
 split at h
 ·rename_i z;cases h;rw [beq_iff_eq] at z;subst z;exact⟨_,F.slot_list_append,F.type_list_append,Gi⟩
 split at h
 ·rename_i z;cases h;rw [beq_iff_eq] at z;subst z;exact⟨_,F.slot_list_insert,F.type_list_insert,Gg⟩
 split at h
 ·rename_i z;cases h;rw [beq_iff_eq] at z;subst z;exact⟨_,F.slot_list_count,F.type_list_count,zW C.room.units⟩
 split at h
 ·rename_i z;cases h;rw [beq_iff_eq] at z;subst z;exact⟨_,F.slot_list_index,F.type_list_index,Jz C.room.units⟩
 cases h
noncomputable def Cr(x:Str):Option MF:=if x == "update" then some ud else none
theorem Gj{x:Str}{f:MF}(C:jD k c X)(h:Cr x=some f):∃ id,Slot "dict" x id/\typeOf (.builtin id)=pure (.type "method_descriptor")/\MtR X id (Mg X.K f):=by
 unfold Cr at h
 split at h
 ·rename_i z;cases h;rw [beq_iff_eq] at z;subst z;exact⟨_,F.slot_dict_update,F.type_dict_update,NF⟩
 cases h
theorem zo:∀ {es:List Expr},es.all cn=true->(backTo pos (starEach es X.env)).all (fun x=>!x.1)=true
 | [],_=>rfl
 | e::es,h=>by
  rw [List.all_cons,Bool.and_eq_true] at h
  rw [bN h.1]
  show (true&&(backTo pos (starEach es X.env)).all (fun x=>!x.1))=true
  rw [zo h.2];rfl
def QN(o:Expr):Bool:=match o with | .Call _ _ _ _=>false | _=>true
def yG(z:Bool)(E:Expr->ME)(o:Expr)(nm:Str)(ap cp:Pos)(es:List Expr):ME:=match QN o,es with
 | true,e::r=>if (e::r).all cn&&(decide ((e::r).length<30)&&ap.endLine == cp.line) then
   (if nm == "count" then ky (E o) (wC E (e::r)) else match Cr nm with | some f=>fD f (E o) (wC E (e::r)) | none=>match JB nm with | some f=>fY f (E o) (wC E (e::r)) | none=>iw) else iw
 | _,_=>iw
theorem He{z:Bool}(C:jD k c X){E:Expr->ME}(hE:∀ e,DE X e (E e)){o:Expr}{nm:Str}{ap:Pos}{es:List Expr}:DE X (.Call (.Attribute o nm ap) es [] pos) (yG z E o nm ap pos es):=by
 unfold yG
 split
 ·rename_i e r hx
  split
  ·rename_i h
   rw [Bool.and_eq_true,Bool.and_eq_true] at h
   have hs:=h.1
   rw [List.all_cons,Bool.and_eq_true] at hs
   have few:((backTo pos (starEach (e::r) X.env)).all (fun x=>!x.1)&&(backToKw pos (keywordEach [] X.env)).all (fun x=>x.1.isSome)&&decide ((e::r).length+([]:List Keyword).length+(if ([]:List Keyword).isEmpty then 0 else 1)<30))=true:=by
    rw [zo h.1]
    show (true&&decide ((e::r).length+0+0<30))=true
    exact h.2.1
   split
   ·rename_i hc
    rw [beq_iff_eq] at hc;subst hc
    exact cf EN (M.Tj C.room.units (hE _) (eU hE _) (ux hx) few h.2.2 (bN hs.1) (gM hs.2))
   ·split
    ·rename_i f hf
     obtain⟨id,h1,h2,h3⟩:=Gj C hf
     exact cf vS (M.LJ h1 h2 h3 (hE _) (eU hE _) (ux hx) few h.2.2 (bN hs.1) (gM hs.2))
    ·split
     ·rename_i f hf
      obtain⟨id,h1,h2,h3⟩:=JA C hf
      exact cf Ax (M.Fk h1 h2 h3 (hE _) (eU hE _) (ux hx) few h.2.2 (bN hs.1) (gM hs.2))
     ·exact ci
  ·exact ci
 ·exact ci
noncomputable def zS:Expr->Bool
 | .Slice _ _ _ _=>false
 | _=>true
noncomputable def Hh(G:Expr->MG):List Expr->uB
 | []=>aK
 | e::r=>af (if cn e then G e else Kt) (Hh G r)
def qZ(c:CI)(x:Str):MG:=match c.sc.names.lookup x,nZ x c.N with
 | some .local,some i=>ah i
 | some .cell,some i=>if c.all then ah i else Kt
 | _,_=>Kt
noncomputable def Ou(c:CI)(E:Expr->ME):Expr->MG
 | .Name x _=>qZ c x
 | .Subscript o i _=>if zS i then gq (E o) (E i) else Kt
 | _=>Kt
noncomputable def Ov(c:CI)(E:Expr->ME):Expr->MG
 | .Tuple es _ _=>if es.all cn then aZ es.length (Hh (fun e=>match e with | .Tuple es _ _=>if es.all cn then aZ es.length (Hh (Ou c E) es) else Kt | e=>Ou c E e) es) else Kt
 | e=>Ou c E e
theorem Os(C:jD k c X)(x:Str):DG X (.Name x pos) (qZ c x):=by
 unfold qZ
 split
 ·rename_i h1 h2
  exact Fr pf <| M.Fj (by rw [C.N];exact C.nd) (by rw [C.N];exact cU h2) (by rw [C.sc];exact .inl h1) (.inr (by rw [C.sc];exact h1))
 ·rename_i h1 h2
  split
  ·rename_i ha
   exact Fr pf <| M.Fj (by rw [C.N];exact C.nd) (by rw [C.N];exact cU h2) (by rw [C.sc];exact .inr h1) (.inl (C.fn ha x))
  ·exact Br
 ·exact Br
theorem Ot(C:jD k c X){E:Expr->ME}(hE:∀ e,DE X e (E e))(e:Expr):DG X e (Ou c E e):=by
 cases e with
 | Name x p=>exact Os C x
 | Subscript o i p=>
  show DG X _ (if zS i then gq (E o) (E i) else Kt)
  split
  ·rename_i h
   refine Fr AY (M.SW (hE o) (hE i) ?_)
   cases i <;> first | (intro _;rfl) | cases h
  ·exact Br
 | _=>exact Br
theorem qg{es:List Expr}(h:cn e=true):assignEach (e::es) X.env=(false,assign e X.env)::assignEach es X.env:=by cases e <;> first | rfl | cases h
theorem yW:∀ {es:List Expr},es.all cn=true->(assignEach es X.env).length=es.length/\(assignEach es X.env).findIdx? (·.1)=none
 | [],_=>⟨rfl,rfl⟩
 | e::es,h=>by
  rw [List.all_cons,Bool.and_eq_true] at h
  rw [qg h.1]
  obtain⟨a,b⟩:=yW h.2
  exact⟨by simp [a],by simp [List.findIdx?_cons,b]⟩
theorem Fe{G:Expr->MG}(hG:∀ e,DG X e (G e)):∀ es:List Expr,es.all cn=true->TX X es (Hh G es)
 | [],_=>LU AZ <| M.OK
 | e::r,h=>by
  rw [List.all_cons,Bool.and_eq_true] at h
  unfold Hh
  rw [if_pos h.1]
  exact LU wu <| M.LE (hG e) (Fe hG r h.2) (by rw [qg h.1];rfl)
theorem Fd(C:jD k c X){G:Expr->MG}(hG:∀ e,DG X e (G e))(es:List Expr)(j:Nat):DG X (.Tuple es j pos) (if es.all cn then aZ es.length (Hh G es) else Kt):=by
 split
 ·rename_i h
  exact Fr my <| M.SV C.calm (Fe hG es h) (yW h).1 (yW h).2
 ·exact Br
theorem qb(C:jD k c X){E:Expr->ME}(hE:∀ e,DE X e (E e))(e:Expr):DG X e (Ov c E e):=by
 have h1:=Ot C hE
 cases e with
 | Tuple es j p=>
  refine Fd C (fun e=>?_) es j
  cases e with
  | Tuple es j p=>exact Fd C h1 es j
  | _=>exact h1 _
 | _=>exact h1 _
def evI(c:CI)(E:Expr->ME)(tg it:Expr):MA:=match uu it with
 | some (x,es)=>if x == "enumerate" && nD c x then (match tg,es with
   | .Tuple _ _ _,[a]=>if cn a then gn (wC E [a]) else vf
   | _,_=>vf) else if x == "zip" && nD c x then (match tg,es with
   | .Tuple _ _ tp,[a,b]=>if cn a&&cn b then (nT (wC E [a,b])) else vf
   | _,_=>vf) else if x == "range" && nD c x then (match es with
   | [a]=>if cn a then bQ (wC E [a]) else vf
   | [a,b]=>if cn a&&cn b then dP (wC E [a,b]) else vf
   | _=>vf) else cY (E it)
 | none=>cY (E it)
theorem Dq(C:jD k c X){E:Expr->ME}(hE:∀ e,DE X e (E e)){tg it:Expr}:DI X tg it (evI c E tg it):=by
 unfold evI
 split
 ·rename_i x es he
  obtain⟨p,p2,rfl⟩:=mK he
  split
  ·rename_i hx
   rw [Bool.and_eq_true] at hx
   obtain⟨m,g,o⟩:=mq C hx.2
   have z:=hx.1
   rw [beq_iff_eq] at z;subst z
   split
   ·split
    ·rename_i h
     exact wI AA (M.OJ m (eU hE _) g (bN h))
    ·exact ul
   ·exact ul
  split
  ·rename_i hx
   rw [Bool.and_eq_true] at hx
   obtain⟨m,g,o⟩:=mq C hx.2
   have z:=hx.1
   rw [beq_iff_eq] at z;subst z
   split
   ·split
    ·rename_i h
     rw [Bool.and_eq_true] at h
     exact wI Ez (M.SU m (eU hE _) g (by rw [bN h.1,bN h.2];rfl) (bN h.2))
    ·exact ul
   ·exact ul
  split
  ·rename_i hx
   rw [Bool.and_eq_true] at hx
   obtain⟨m,g,o⟩:=mq C hx.2
   have z:=hx.1
   rw [beq_iff_eq] at z;subst z
   split
   ·split
    ·rename_i h
     exact wI tj <| M.Hw m (eU hE _) g (bN h)
    ·exact ul
   ·split
    ·rename_i h
     rw [Bool.and_eq_true] at h
     exact wI tf <| M.Hv m (eU hE _) g (by rw [bN h.1,bN h.2];rfl) (bN h.2)
    ·exact ul
   ·exact ul
  ·exact wI yg <| M.DF (hE _)
 ·exact wI yg <| M.DF (hE _)
def PK(c:CI)(it:Expr):Bool:=match uu it with | some (x,_)=>(x == "enumerate" || x == "zip" || x == "range")&&nD c x | none=>false
noncomputable def lM(scope sc:Scope):Scope:={ scope with names:=scope.names.map fun x=>match x with | (n,k)=>if (k == NameKind.free&&sc.kind == .function&&sc.names.lookup n == some .cell)=true then (n,.cell) else (n,k) }
theorem Pr(scope:Scope)(env:Env):relabel scope env=lM scope env.scope:=rfl
def Bz(scope:Scope):List Str:=(scope.names.filter fun x=>x.2 == .local && !(x.1 == (".0":Str))).map (·.1)++(scope.names.filter fun x=>x.2 == .free).map (·.1)
noncomputable def yU(c:CI)(scope:Scope):List (Option Nat):=(scope.names.filter fun x=>x.2 == .local && !(x.1 == (".0":Str))).map (fun _=>none)++(scope.names.filter fun x=>x.2 == .free).map (fun x=>nZ x.1 c.N)
def Tw(c:CI)(scope:Scope):Bool:=
 scope.kind == .function&&(scope.names.all fun x=>x.2 != .cell)&&(scope.names.all fun x=>x.2 != .local||scope.names.lookup x.1 == some .local)
 && (scope.names.all fun x=>x.2 != .free||c.sc.names.lookup x.1 == some .cell||c.sc.names.lookup x.1 == some .free)
 && vj c.N (Bz scope) (fun y=>c.sc.names.lookup y) (fun y=>(lM scope c.sc).names.lookup y) (yU c scope) (Bz scope)&&decide (Bz scope).Nodup
noncomputable def LY(c:CI)(scope:Scope):CI:=⟨Bz scope,lM scope c.sc,false,c.gs,c.mt⟩
theorem Fs{scope:Scope}(C:jD k c X)(h:Tw c scope=true):BlockOk X (Bz scope) scope (yU c scope)/\∀ A s H fp,jD k (LY c scope) (pB X (Bz scope) scope A s H fp):=by
 unfold Tw at h
 simp only [Bool.and_eq_true,decide_eq_true_eq,beq_iff_eq] at h
 obtain⟨⟨⟨⟨⟨h1,h2⟩,h3⟩,h4⟩,h5⟩,h6⟩:=h
 refine⟨blk h6 h1 h2 h3 ?_ ?_,fun A s H fp=>⟨rfl,h6,?_,h1,(fun z=>nomatch z),C.calm,C.room,rfl,C.gs⟩⟩
 ·show (scope.names.all fun x=>x.2 != .free||X.env.scope.names.lookup x.1 == some .cell||X.env.scope.names.lookup x.1 == some .free)=true
  rw [C.sc];exact h4
 ·show vj X.N (Bz scope) (fun y=>X.env.scope.names.lookup y) (fun y=>(lM scope X.env.scope).names.lookup y) (yU c scope) (Bz scope)=true
  rw [C.sc,C.N];exact h5
 ·show lM scope X.env.scope=_
  rw [C.sc];rfl
noncomputable def evTs(T:Expr->MT):List Expr->MT
 | []=>bX
 | [e]=>T e
 | _=>ve
theorem Fa{T:Expr->MT}(hT:∀ e,DT X e (T e)):∀ es:List Expr,Qj X es (evTs T es)
 | []=>Tq At <| M.Ln
 | [e]=>Ow (hT e)
 | _::_::_=>fun _ _ _ _ _ _ ⟨_,_,_,_,_,_,_,h,_⟩=>by cases h
def mB(c:CI)(E:CI->Expr->ME)(T:CI->Expr->MT)(elt:Expr)(gens:List Comprehension)(scope:Scope)(line:Nat):ME:=match gens with
 | [⟨tg,it,ifs,a⟩]=>if a == 0&&lf it&&Tw c scope then if c.mt.contains (line+100000) then iw else bJ (evI c (E c) tg it) (Ov (LY c scope) (E (LY c scope)) tg) (evTs (T (LY c scope)) ifs) (E (LY c scope) elt) (yU c scope) else iw
 | _=>iw
theorem wB(C:jD k c X)(hE:∀ c X,jD k c X->∀ e,DE X e (E c e))(hT:∀ c X,jD k c X->∀ e,DT X e (T c e)){elt:Expr}{gens:List Comprehension}{scope:Scope}{line:Nat}:DE X (.ListComp elt gens scope pos) (mB c E T elt gens scope line):=by
 unfold mB
 split
 ·rename_i tg it ifs a
  split
  ·rename_i h
   simp only [Bool.and_eq_true,beq_iff_eq] at h
   obtain⟨⟨h0,h1⟩,h2⟩:=h
   subst h0
   obtain⟨B,C'⟩:=Fs C h2
   split
   ·exact ci
   ·exact cf tm <| M.OQ C.calm B (Dq C (hE _ _ C)) (fun A s H fp=>qb (C' A s H fp) (hE _ _ (C' A s H fp)) tg) (fun A s H fp=>Fa (hT _ _ (C' A s H fp)) ifs) (fun A s H fp=>hE _ _ (C' A s H fp) elt) (jH h1)
  ·exact ci
 ·exact ci
noncomputable def SK(E:Expr->ME):List (Option Expr)->List Expr->Option (List (ME×ME))
 | [],[]=>some []
 | some k::ks,v::vs=>(SK E ks vs).bind fun r=>some ((E k,E v)::r)
 | _,_=>none
theorem Fb{E:Expr->ME}(hE:∀ e,DE X e (E e)):∀ {ks:List (Option Expr)} {vs:List Expr} {ms:List (ME×ME)},SK E ks vs=some ms->DPs X pos ks vs ms/\ks.all (·.isSome)=true/\ks.length=vs.length
 | [],[],ms,h=>by cases h;exact⟨OG,rfl,rfl⟩
 | some k::ks,v::vs,ms,h=>by
  obtain⟨r,h1,h2⟩:=Option.bind_eq_some_iff.mp h
  cases h2
  obtain⟨a,b,d⟩:=Fb hE h1
  exact⟨Ly (hE k) (hE v) a,by rw [List.all_cons,b];rfl,by rw [List.length_cons,List.length_cons,d]⟩
 | [],_::_,_,h=>by cases h
 | none::_,_,_,h=>by cases h
 | some _::_,[],_,h=>by cases h
def Dr(c:CI)(E:Expr->ME)(ks:List (Option Expr))(vs:List Expr)(line:Nat):ME:=match ks with
 | []=>if vs.isEmpty && !c.mt.contains line then mC (.dct [] []) else iw
 | k::r=>if (k::r).length<=15 then (match SK E (k::r) vs with | some ms=>if c.mt.contains line then fG ms else iE ms | none=>iw) else iw
theorem Hi{E:Expr->ME}(hE:∀ e,DE X e (E e))(ks:List (Option Expr))(vs:List Expr)(line:Nat):DE X (.Dict ks vs pos) (Dr c E ks vs line):=by
 unfold Dr
 split
 ·split
  ·rename_i h
   rw [Bool.and_eq_true] at h
   have:vs=[]:=by simpa using h.1
   subst this
   exact cf tq <| M.OO
  ·exact ci
 ·rename_i k r
  split
  ·rename_i hl
   split
   ·rename_i ms h
    obtain⟨a,b,d⟩:=Fb (pos:=pos) hE h
    split
    ·exact cf vU (M.LL a b d (by simp) hl)
    ·exact cf AD (M.OP a b d (by simp) hl)
   ·exact ci
  ·exact ci
noncomputable def KZ(E:Expr->ME):List Expr->ME
 | []=>iw
 | _=>iw
theorem Hg{E:Expr->ME}(hE:∀ e,DE X e (E e)):∀ es:List Expr,DE X (.JoinedStr es pos) (KZ E es)
 | []=>ci
 | _::_=>ci
def PY(E:Expr->ME)(v:Expr)(cv:Int)(f:Option Expr):ME:=match cv,f with
 | _,_=>iw
theorem La{E:Expr->ME}(hE:∀ e,DE X e (E e)){v:Expr}{cv:Int}{f:Option Expr}:DE X (.FormattedValue v cv f pos) (PY E v cv f):=by
 exact ci
noncomputable def Pq(E:CI->Expr->ME)(T:CI->Expr->MT)(c:CI):Expr->ME
 | .Constant v _ _=>Ff v
 | .Name x _=>Dp c x
 | .BinOp a op b p=>Le (c.mt.contains (p.line+200000)) op (E c a) (E c b)
 | .UnaryOp op a _=>evUn op (E c a)
 | .Compare a ops bs _=>Lc c E a ops bs
 | .BoolOp op vs _=>match op with | .And=>Bd dm (vs.map (E c)) | .Or=>Bd vR (vs.map (E c))
 | .IfExp t a b _=>lF (T c t) (E c a) (E c b)
 | .Tuple es _ _=>aT (wC (E c) es)
 | .List es pos=>if c.mt.contains pos.line then fZ (wC (E c) es) else dM (wC (E c) es)
 | .Dict ks vs pos=>Dr c (E c) ks vs pos.line
 | .Subscript a i _=>PV c (E c) a i
 | .Call f es ks p=>match sJ f,DQ f,ks with | some x,_,[]=>yH c (E c) x es | none,some (o,nm,ap),[]=>yG (c.mt.contains 500000) (E c) o nm ap p es | _,_,_=>iw
 | .ListComp elt gens scope p=>mB c E T elt gens scope p.line
 | .JoinedStr es _=>KZ (E c) es
 | .FormattedValue v cv f _=>PY (E c) v cv f
 | _=>iw
noncomputable def Po(E:CI->Expr->ME)(T:CI->Expr->MT)(c:CI):Expr->MT
 | .UnaryOp op a p=>match op with | .Not=>dQ (T c a) | op=>cV (E c (.UnaryOp op a p))
 | .BoolOp op vs _=>match op with | .And=>ua cK (vs.map (T c)) | .Or=>ua fC (vs.map (T c))
 | .Compare a ops bs _=>Dt c E a ops bs
 | .IfExp _ _ _ _=>ve
 | e=>cV (E c e)
theorem IE(hE:∀ c X,jD k c X->∀ e,DE X e (E c e))(hT:∀ c X,jD k c X->∀ e,DT X e (T c e))(C:jD k c X)(e:Expr):DE X e (Pq E T c e):=by
 have h1:=hE c X C
 have h2:=hT c X C
 cases e with
 | Constant v j p=>exact Ds v
 | Name x p=>exact Hd C x
 | BinOp a op b p=>
  show DE X _ (Le (c.mt.contains (p.line+200000)) op (E c a) (E c b))
  exact Ld (z:=c.mt.contains (p.line+200000)) (h1 a) (h1 b)
 | UnaryOp op a p=>exact Oq (h1 a)
 | Compare a ops bs p=>exact Lb C h1
 | BoolOp op vs p=>cases op with | And=>exact wy h1 vs | Or=>exact Bc h1 vs
 | IfExp t a b p=>exact cf JP <| M.de_if (h2 t) (h1 a) (h1 b)
 | Tuple es j p=>exact cf EC <| M.Ta (eU h1 es)
 | List es p=>
  show DE X _ (if c.mt.contains p.line then fZ (wC (E c) es) else dM (wC (E c) es))
  split
  ·exact cf Ay <| M.OM (eU h1 es)
  ·exact cf EH <| M.Tf (eU h1 es)
 | Dict ks vs p=>exact Hi h1 ks vs p.line
 | Subscript a i p=>exact KS C h1 a i
 | Call f es ks p=>
  show DE X _ (match sJ f,DQ f,ks with | some x,_,[]=>yH c (E c) x es | none,some (o,nm,ap),[]=>yG (c.mt.contains 500000) (E c) o nm ap p es | _,_,_=>iw)
  split
  ·rename_i x h
   obtain⟨p2,rfl⟩:=lU h
   exact Hk C h1
  ·rename_i o nm ap _ ha
   have:=BA ha
   subst this
   exact He C h1
  ·exact ci
 | ListComp elt gens scope p=>exact wB C hE hT
 | JoinedStr es p=>exact Hg h1 es
 | FormattedValue v cv f p=>exact La h1
 | _=>exact ci
theorem IC(hE:∀ c X,jD k c X->∀ e,DE X e (E c e))(hT:∀ c X,jD k c X->∀ e,DT X e (T c e))(C:jD k c X)(e:Expr):DT X e (Po E T c e):=by
 have h1:=hE c X C
 have h2:=hT c X C
 cases e with
 | UnaryOp op a p=>cases op <;> first | exact Bw Aw <| M.SN (h2 a) | exact Bw yd <| M.Bl (h1 _)
 | BoolOp op vs p=>cases op with | And=>exact GU h2 vs | Or=>exact Kw h2 vs
 | Compare a ops bs p=>exact Hj C h1
 | IfExp t a b p=>exact pk
 | _=>exact Bw yd <| M.Bl (h1 _)
noncomputable def ev:Nat->(CI->Expr->ME)×(CI->Expr->MT)
 | 0=>(fun _ _=>iw,fun _ _=>ve)
 | n+1=>(Pq (ev n).1 (ev n).2,Po (ev n).1 (ev n).2)
theorem qK:∀ n:Nat,(∀ c X,jD k c X->∀ e,DE X e ((ev n).1 c e))/\(∀ c X,jD k c X->∀ e,DT X e ((ev n).2 c e))
 | 0=>⟨fun _ _ _ _=>ci,fun _ _ _ _=>pk⟩
 | n+1=>⟨fun _ _ C e=>IE (qK n).1 (qK n).2 C e,fun _ _ C e=>IC (qK n).1 (qK n).2 C e⟩
noncomputable def lg:Expr->Bool
 | .ListComp _ _ _ _=>false
 | .SetComp _ _ _ _=>false
 | .DictComp _ _ _ _ _=>false
 | _=>true
theorem hV{t:Option Expr}{l:Nat}(h:lg e=true):swapsWith e t l X.env=pure false:=by cases e <;> first | rfl | cases h
noncomputable def wf:Expr->Bool
 | .Tuple _ _ _=>true
 | .List _ _=>true
 | _=>false
theorem Cl{t:Expr}(h:wf t=false\/wf e=false):swappedStores [t] e X.env=pure none:=by
 rcases h with h | h
 ·cases t <;> first | rfl | cases h
 ·cases t <;> first | rfl | (cases e <;> first | rfl | cases h)
def Lh(c:CI)(E:CI->Expr->ME)(T:CI->Expr->MT)(x:Str)(px:Pos)(e:Expr):MS:=match e with
 | .ListComp elt gens scope p=>if c.all&&(c.sc.names.lookup x == some .local&&px.line == p.line && !(scope.names.any fun y=>y.1 == x&&(y.2 == .local||y.2 == .cell))) then aH (mB c E T elt gens scope p.line) (qZ c x) else if c.all&&c.sc.names.lookup x == some .cell then aH (mB c E T elt gens scope p.line) (qZ c x) else jU
 | e=>if lg e then aH (E c e) (qZ c x) else jU
noncomputable def Ra:Expr->Option (Str×Pos×Str×Pos)
 | .Tuple [.Name x px,.Name y py] _ _=>some (x,px,y,py)
 | _=>none
theorem FZ{t:Expr}{x y:Str}{px py:Pos}(h:Ra t=some (x,px,y,py)):∃ k p,t=.Tuple [.Name x px,.Name y py] k p:=by
 unfold Ra at h
 split at h
 ·cases h;exact⟨_,_,rfl⟩
 ·cases h
noncomputable def Qt:Expr->Option (Expr×Expr)
 | .Tuple [a,b] _ _=>some (a,b)
 | _=>none
theorem FE{t a b:Expr}(h:Qt t=some (a,b)):∃ k p,t=.Tuple [a,b] k p:=by
 unfold Qt at h
 split at h
 ·cases h;exact⟨_,_,rfl⟩
 ·cases h
theorem BJ{x y:Str}{px py p p2:Pos}{k k2:Nat}{a b:Expr}(h:(X.env.kindOf x == some NameKind.local&&X.env.kindOf y == some NameKind.local)=false):swappedStores [.Tuple [.Name x px,.Name y py] k p] (.Tuple [a,b] k2 p2) X.env=pure none:=by
 unfold swappedStores
 simp only
 split
 ·rfl
 split
 ·rfl
 rw [if_pos]
 generalize hg:List.filterMap _ [Expr.Name x px,Expr.Name y py]=L
 have hL:L.length<=1:=by
  rw [<- hg,List.filterMap_cons,List.filterMap_cons]
  cases hx:(X.env.kindOf x == some NameKind.local) with
  | false=>simp only [hx,Bool.false_and,Bool.false_eq_true,if_false];split <;> simp
  | true=>
   have hy:(X.env.kindOf y == some NameKind.local)=false:=by rw [hx,Bool.true_and] at h;exact h
   simp only [hy,Bool.false_and,Bool.false_eq_true,if_false];split <;> simp
 have h2:(L.length != [Expr.Name x px,Expr.Name y py].length)=true:=by
  rw [bne_iff_ne];show L.length≠2;omega
 rw [h2];rfl
def Eu(c:CI)(x y:Str):Bool:=!(c.sc.names.lookup x == some .local&&c.sc.names.lookup y == some .local)
noncomputable def Fc(c:CI)(E:CI->Expr->ME)(t e:Expr):Option MS:=match Ra t,Qt e with
 | some (x,px,y,py),some (a,b)=>if Eu c x y then some (aH (E c e) (Ov c (E c) t)) else match nZ x c.N,nZ y c.N with
  | some i,some j=>if (c.all&&c.sc.names.lookup x == some .local&&c.sc.names.lookup y == some .local && !(x == y)&&py.line == px.line&&sv a&&sv b && !(foldedForSure 8 a&&foldedForSure 8 b) && !(constantsAlone 8 a&&constantsAlone 8 b) && !(i == j))=true then some (nv i j (wC (E c) [a,b])) else none
  | _,_=>none
 | _,_=>none
theorem KW(C:jD k c X){E:CI->Expr->ME}(hE:∀ e,DE X e (E c e)){t:Expr}{m:MS}(h:Fc c E t e=some m):DS X (.Assign [t] e pos) m:=by
 unfold Fc at h
 split at h
 ·rename_i x px y py a b h1 h2
  obtain⟨k1,p1,rfl⟩:=FZ h1
  obtain⟨k2,p2,rfl⟩:=FE h2
  split at h
  ·rename_i hn
   cases h
   refine jt iI <| M.Lx (hE _) (qb C hE _) rfl (BJ ?_) rfl
   unfold Eu at hn
   rw [Bool.not_eq_true'] at hn
   show (X.env.scope.names.lookup x == some NameKind.local&&X.env.scope.names.lookup y == some NameKind.local)=false
   rw [C.sc];exact hn
  split at h
  ·rename_i i j hi hj
   split at h
   ·rename_i hc
    cases h
    simp only [Bool.and_eq_true,beq_iff_eq,Bool.not_eq_true'] at hc
    obtain⟨⟨⟨⟨⟨⟨⟨⟨⟨_,hx⟩,hy⟩,hne⟩,hl⟩,ha⟩,hb⟩,hf⟩,hcn⟩,hij⟩:=hc
    have hx':X.env.scope.names.lookup x=some .local:=by rw [C.sc];exact hx
    have hy':X.env.scope.names.lookup y=some .local:=by rw [C.sc];exact hy
    have hbk:X.env.blockKind=.function:=by unfold Env.blockKind;rw [C.sc,C.fk];rfl
    exact jt EF (M.SS C.calm (by rw [C.N];exact C.nd) (by rw [C.N];exact cU hi) (by rw [C.N];exact cU hj) (by simpa using hij) hx' hy' (eU hE _) (Iz hbk hx' hy' hne (by simpa using hl) ha hb hf hcn))
   ·cases h
  ·cases h
 ·cases h
def Li(c:CI)(E:CI->Expr->ME)(T:CI->Expr->MT)(t e:Expr):MS:=match t with
 | .Name x px=>Lh c E T x px e
 | t=>match Fc c E t e with
 | some m=>m
 | none=>if lg e&&cn t&&(!wf t || !wf e) then aH (E c e) (Ov c (E c) t) else jU
theorem oR{m:ME}{s:Stmt}:DS X s (aH m Kt):=fun _ _ _ _ _ _ ⟨_,_,_,_,_,_,h,_⟩=>by
 rw [iI] at h
 obtain⟨_,_,h⟩:=Option.bind_eq_some_iff.mp h
 cases h
theorem Hl(C:jD k c X)(hE:∀ c X,jD k c X->∀ e,DE X e (E c e))(hT:∀ c X,jD k c X->∀ e,DT X e (T c e)){x:Str}{px:Pos}:DS X (.Assign [.Name x px] e pos) (Lh c E T x px e):=by
 have h1:=hE c X C
 have gen:∀ e,lg e=true->DS X (.Assign [.Name x px] e pos) (aH (E c e) (qZ c x)):=fun e hn=>by
  unfold qZ
  split
  ·rename_i h1' h2
   exact jt nV <| M.Dv (by rw [C.N];exact C.nd) (by rw [C.N];exact cU h2) (by rw [C.sc];exact .inl h1') (h1 e) (hV hn) (.inr (by rw [C.sc];exact h1'))
  ·rename_i h1' h2
   split
   ·rename_i ha
    exact jt nV <| M.Dv (by rw [C.N];exact C.nd) (by rw [C.N];exact cU h2) (by rw [C.sc];exact .inr h1') (h1 e) (hV hn) (.inl (C.fn ha x))
   ·exact oR
  ·exact oR
 cases e with
 | ListComp elt gens scope p=>
  show DS X _ (if c.all&&(c.sc.names.lookup x == some .local&&px.line == p.line && !(scope.names.any fun y=>y.1 == x&&(y.2 == .local||y.2 == .cell))) then aH (mB c E T elt gens scope p.line) (qZ c x) else if c.all&&c.sc.names.lookup x == some .cell then aH (mB c E T elt gens scope p.line) (qZ c x) else jU)
  split
  ·rename_i hw
   rw [Bool.and_eq_true] at hw
   have hw1:=hw.2
   simp only [Bool.and_eq_true,beq_iff_eq] at hw1
   have hl:=hw1.1.1
   unfold qZ
   rw [hl]
   cases hi:nZ x c.N with
   | none=>exact oR
   | some i=>
    have sw:(pure (X.env.blockKind == .function&&X.env.scope.names.lookup x == some .local&&px.line == p.line && !(scope.names.any fun y=>y.1 == x&&(y.2 == .local||y.2 == .cell))):Sem Bool)=pure true:=by
     have hb:X.env.blockKind=.function:=by unfold Env.blockKind;rw [C.sc,C.fk];rfl
     rw [hb,C.sc]
     have:=hw.2
     simp only [Bool.and_assoc] at this ⊢
     rw [this];rfl
    unfold mB
    split
    ·rename_i tg it ifs a
     split
     ·rename_i h
      simp only [Bool.and_eq_true,beq_iff_eq] at h
      obtain⟨⟨h0,h1'⟩,h2⟩:=h
      subst h0
      obtain⟨B,C'⟩:=Fs C h2
      split
      ·exact Lw
      ·exact jt AF <| M.Du (by rw [C.N];exact C.nd) (by rw [C.N];exact cU hi) (by rw [C.sc];exact .inl hl) C.calm B (Dq C (hE _ _ C)) (fun A s H fp=>qb (C' A s H fp) (hE _ _ (C' A s H fp)) tg) (fun A s H fp=>Fa (hT _ _ (C' A s H fp)) ifs) (fun A s H fp=>hE _ _ (C' A s H fp) elt) sw (jH h1') (.inr (by rw [C.sc];exact hl))
     ·intro _ _ _ _ _ _ ⟨_,_,_,_,_,_,h,_⟩
      rw [iI] at h
      obtain⟨_,z,h⟩:=Option.bind_eq_some_iff.mp h
      cases z
    ·intro _ _ _ _ _ _ ⟨_,_,_,_,_,_,h,_⟩
     rw [iI] at h
     obtain⟨_,z,h⟩:=Option.bind_eq_some_iff.mp h
     cases z
  ·split
   ·rename_i hw
    rw [Bool.and_eq_true,beq_iff_eq] at hw
    unfold qZ
    rw [hw.2]
    cases hi:nZ x c.N with
    | none=>exact oR
    | some i=>
     dsimp only
     rw [if_pos hw.1]
     refine jt nV <| M.Dv (by rw [C.N];exact C.nd) (by rw [C.N];exact cU hi) (by rw [C.sc];exact .inr hw.2) (wB C hE hT) ?_ (.inl (C.fn hw.1 x))
     show (pure (X.env.blockKind == .function&&X.env.scope.names.lookup x == some .local&&px.line == p.line && !(scope.names.any fun y=>y.1 == x&&(y.2 == .local||y.2 == .cell))):Sem Bool)=pure false
     rw [C.sc,hw.2]
     have:((some NameKind.cell:Option NameKind) == some .local)=false:=by decide
     rw [this,Bool.and_false];rfl
   ·exact lH
 | SetComp _ _ _ _=>exact lH
 | DictComp _ _ _ _ _=>exact lH
 | _=>exact gen _ rfl
theorem Lg(C:jD k c X)(hE:∀ c X,jD k c X->∀ e,DE X e (E c e))(hT:∀ c X,jD k c X->∀ e,DT X e (T c e)){t:Expr}:DS X (.Assign [t] e pos) (Li c E T t e):=by
 have gen:∀ t,DS X (.Assign [t] e pos) (match Fc c E t e with | some m=>m | none=>if lg e&&cn t&&(!wf t || !wf e) then aH (E c e) (Ov c (E c) t) else jU):=fun t=>by
  split
  ·rename_i h
   exact KW C (hE _ _ C) h
  split
  ·rename_i h
   simp only [Bool.and_eq_true,Bool.or_eq_true,Bool.not_eq_true'] at h
   refine jt iI <| M.Lx (hE _ _ C e) (qb C (hE _ _ C) t) (hV h.1.1) (Cl h.2) ?_
   rw [qg h.1.2];rfl
  ·exact lH
 cases t with
 | Name x px=>exact Hl C hE hT
 | _=>exact gen _
noncomputable def uE:List MS->MS
 | []=>aY
 | [m]=>m
 | m::r=>az m (uE r)
theorem kZ{F:Stmt->MS}(h:∀ s,DS X s (F s)):∀ ss:List Stmt,vn X ss (uE (ss.map F))
 | []=>DK oO <| M.OA
 | [s]=>Oz (h s)
 | s::s'::r=>DK ED <| M.Lr (h s) (kZ h (s'::r))
noncomputable def De:Expr->Bool
 | .Constant (.str _) _ _=>true
 | _=>false
noncomputable def Pp(E:CI->Expr->ME)(T:CI->Expr->MT)(F:CI->Stmt->MS)(c:CI):Stmt->MS
 | .Return o _=>match o with | some e=>aU (E c e) | none=>fun _ S=>some (.rt .non S)
 | .Pass _=>aY
 | .Break _=>fun env S=>some (.bk env S)
 | .Continue _=>fun env S=>some (.ct env S)
 | .Expr e _=>if De e then aY else if lg e then eV (E c e) else jU
 | .If t a b _=>bC (T c t) (uE (a.map (F c))) (uE (b.map (F c)))
 | .Assign ts e _=>match ts with | [t]=>Li c E T t e | _=>jU
 | .While tst body els _=>match els with | []=>fB (T c tst) (uE (body.map (F c))) | _=>jU
 | .For tg it body els _=>match els with | []=>if lf it then (if PK c it then gY (evI c (E c) tg it) (Ov c (E c) tg) (uE (body.map (F c))) else ga (E c it) (Ov c (E c) tg) (uE (body.map (F c)))) else jU | _=>jU
 | _=>jU
theorem ID{F:CI->Stmt->MS}(hE:∀ c X,jD k c X->∀ e,DE X e (E c e))(hT:∀ c X,jD k c X->∀ e,DT X e (T c e))(hF:∀ c X,jD k c X->∀ e,DS X e (F c e))(C:jD k c X)(s:Stmt):DS X s (Pp E T F c s):=by
 have h1:=hE c X C
 have h2:=hT c X C
 have h3:=hF c X C
 cases s with
 | Return o p=>cases o with | none=>exact OB | some e=>exact jt EE <| M.SR (h1 e)
 | Pass p=>exact jt oO <| M.OC
 | Break p=>exact Lv
 | Continue p=>exact Bm
 | Expr e p=>
  show DS X _ (if De e then aY else if lg e then eV (E c e) else jU)
  split
  ·rename_i h
   unfold De at h
   split at h
   ·exact jt oO <| M.ST
   ·cases h
  ·split
   ·rename_i h;exact jt AB <| M.OF (h1 e) (hV h)
   ·exact lH
 | If t a b p=>exact jt EJ <| M.ds_if (h2 t) (kZ h3 a) (kZ h3 b)
 | Assign ts e p=>
  show DS X _ (match ts with | [t]=>Li c E T t e | _=>jU)
  split
  ·exact Lg C hE hT
  ·exact lH
 | While tst body els p=>
  cases els with
  | nil=>exact jt vN <| M.Ls (by rw [C.xe];exact PassesOwn.never) (h2 tst) (kZ h3 body)
  | cons _ _=>exact lH
 | For tg it body els p=>
  cases els with
  | nil=>
   show DS X _ (if lf it then (if PK c it then gY (evI c (E c) tg it) (Ov c (E c) tg) (uE (body.map (F c))) else ga (E c it) (Ov c (E c) tg) (uE (body.map (F c)))) else jU)
   split
   ·rename_i h
    split
    ·exact jt EK <| M.Lu (by rw [C.xe];exact PassesOwn.never) C.calm (Dq C h1) (qb C h1 tg) (kZ h3 body) (jH h)
    ·exact jt Az <| M.OE (by rw [C.xe];exact PassesOwn.never) C.calm (h1 it) (qb C h1 tg) (kZ h3 body) (jH h)
   ·exact lH
  | cons _ _=>exact lH
 | _=>exact lH
noncomputable def evS(n:Nat):Nat->CI->Stmt->MS
 | 0=>fun _ _=>jU
 | m+1=>Pp (ev n).1 (ev n).2 (evS n m)
theorem KU(n:Nat):∀ m:Nat,∀ c X,jD k c X->∀ s,DS X s (evS n m c s)
 | 0=>fun _ _ _ _=>lH
 | m+1=>fun _ _ C s=>ID (qK n).1 (qK n).2 (KU n m) C s
noncomputable def To:Stmt->Option (Str×Str×Expr)
 | .Assign [.Name b _] (.Subscript (.Name x _) (.Subscript o q p) _) _=>some (b,x,.Subscript o q p)
 | _=>none
theorem HB{s:Stmt}{b x:Str}{ix:Expr}(h:To s=some (b,x,ix)):nj ix/\∃ pb pt ps pa,s=.Assign [.Name b pb] (.Subscript (.Name x pt) ix ps) pa:=by
 unfold To at h
 split at h
 ·cases h;exact⟨by intro _ _;rfl,_,_,_,_,rfl⟩
 ·cases h
noncomputable def Tm:Stmt->Option (Str×Expr×List Expr)
 | .Return (some (.Call (.Name b _) (e::es) [] _)) _=>some (b,e,es)
 | _=>none
theorem HA{s:Stmt}{b:Str}{e:Expr}{es:List Expr}(h:Tm s=some (b,e,es)):∃ p pc pr,s=.Return (some (.Call (.Name b p) (e::es) [] pc)) pr:=by
 unfold Tm at h
 split at h
 ·cases h;exact⟨_,_,_,rfl⟩
 ·cases h
noncomputable def Qa(c:CI)(b x:Str)(ix:Expr)(e:Expr)(es:List Expr):Option MS:=match nZ b c.N,PN c x with
 | some i,some (.ftab l)=>if eN b&&c.sc.names.lookup b == some .local&&(e::es).all cn then some (jd l i ((ev 40).1 c ix) (wC ((ev 40).1 c) (e::es))) else none
 | _,_=>none
noncomputable def yN(c:CI):List Stmt->Option MS
 | [s,t]=>match To s,Tm t with
  | some (b,x,ix),some (b',e,es)=>if b' == b then Qa c b x ix e es else none
  | _,_=>none
 | _=>none
theorem Hu(C:jD k c X){body:List Stmt}{m:MS}(h:yN c body=some m):vn X body m:=by
 unfold yN at h
 split at h
 ·rename_i s t
  split at h
  ·rename_i b x ix b' e es h1 h2
   obtain⟨hs,pb,pt,ps,pa,rfl⟩:=HB h1
   obtain⟨p,pc,pr,rfl⟩:=HA h2
   split at h
   ·rename_i hb
    rw [beq_iff_eq] at hb;subst hb
    unfold Qa at h
    split at h
    ·rename_i i l hi hg
     obtain⟨g,o,G⟩:=jg C hg
     split at h
     ·rename_i hc
      simp only [Bool.and_eq_true,beq_iff_eq] at hc
      obtain⟨⟨o1,h3⟩,h4⟩:=hc
      cases h
      rw [List.all_cons,Bool.and_eq_true] at h4
      exact DK AC <| M.Lq G g (cP o) ((qK 40).1 _ _ C ix) hs C.room (eU ((qK 40).1 _ _ C) _) (by rw [C.N];exact C.nd) (by rw [C.N];exact cU hi) (by rw [C.sc];exact .inl h3) (by rw [C.sc];exact .inl h3) (.inr (by rw [C.sc];exact h3)) (cP o1) (zR o1)
       (by rw [C.N];exact(List.getElem?_eq_some_iff.mp (cU hi)).1) (bN h4.1) (gM h4.2)
     ·cases h
    ·cases h
   ·cases h
  ·cases h
 ·cases h
def gL(c:CI)(body:List Stmt):MS:=match yN c body with
 | some m=>m
 | none=>uE (body.map (evS 40 20 c))
theorem Lf(C:jD k c X)(body:List Stmt):vn X body (gL c body):=by
 unfold gL
 cases h:yN c body with
 | some m=>exact Hu C h
 | none=>exact kZ (KU 40 20 c X C) body
end
end
noncomputable def iu(N:List Str)(st:Stmt)(gs:List (Str×GI))(mt:List Nat):CI:=⟨N,ax st,true,gs,mt⟩
def GK(P:Program)(w:World)(K:PySem.W.Frag)(mg:Str->Option Value)(base:Heap)(k:Nat)(p:Str×GI):Prop:=match p.2 with
 | .fn n f=>Fn P w K mg base k p.1 n f
 | .con d=>GC K mg p.1 d
 | .blt=>mg p.1=none
 | .tab l=>uz w K mg p.1 l
 | .ftab l=>FTab P w K mg base k p.1 l
theorem bw{P:Program}{w:World}{K:PySem.W.Frag}{mg:Str->Option Value}{base:Heap}{k:Nat}{x:Str}{st:Stmt}{N ps:List Str}{gs:List (Str×GI)}{mt:List Nat}
  (F:bK K mg x st) (Sc:aS N ps (ax st)) (hb:zd x st ps) (hg:∀ p∈gs,GK P w K mg base k p) :
  Fn P w K mg base (k+1) x ps.length (aO N (gL (iu N st gs mt) (aI st)) ps.length):=
 SX F Sc hb fun a cdv A outer s H E hr=>Lf (k:=k) ⟨rfl,Sc.nd,rfl,Sc.kind,fun _ _=>rfl,rfl,hr,rfl,fun p hp=>by
  have:=hg p hp
  obtain⟨x,g⟩:=p
  cases g <;> exact this⟩ _
end MI
namespace MI
open PySem PySem.Spec PyProof.Rows L2 M
def GKs(P:Program)(w:World)(K:PySem.W.Frag)(mg:Str->Option Value)(base:Heap)(k:Nat):List (Str×GI)->Prop
 | []=>True
 | p::r=>GK P w K mg base k p/\GKs P w K mg base k r
theorem GKs.mem{P:Program}{w:World}{K:PySem.W.Frag}{mg:Str->Option Value}{base:Heap}{k:Nat}:∀ {gs:List (Str×GI)},GKs P w K mg base k gs->∀ p∈gs,GK P w K mg base k p
 | q::r,h,p,hp=>by
  rcases List.mem_cons.mp hp with rfl | hp
  ·exact h.1
  ·exact GKs.mem h.2 p hp
theorem RI{P:Program}{w:World}{K:PySem.W.Frag}{mg:Str->Option Value}{k:Nat}{st:Stmt}{N:List Str}{gs:List (Str×GI)}{mt:List Nat}{fa:Addr}(F:bK K mg "law" st)(hfa:mg "law" = some (.ref fa))(Sc:aS N ["_law_script"] (ax st))
  (hbt:∀ (kV doc pm:Value) (an:Option Addr) (cdv ct v:Value),bindArgs (PySem.W.fnOf "law" "law" (iL st) (aI st) (ax st) .none kV doc pm an cdv ct) ⟨[v],[]⟩=pure [(("_law_script":Str),v)])
  (hg:∀ base,GKs P w K mg base k gs) :
  ∃ fd:FuncData,(∀ (s:Shared) (v:Value),BindsTo s fd ⟨[v],[]⟩ [("_law_script",v)])/\∀ base:Heap,K.In base->base.Ns mainGlobals mg->FnOk P w K mg base Fw (k+1) fa fd ["_law_script"] (IG K 1 (aO N (gL (iu N st gs mt) (aI st)) 1)):=
 RH F hfa Sc hbt fun base a cdv A outer s H E hr=>Lf (k:=k) ⟨rfl,Sc.nd,rfl,Sc.kind,fun _ _=>rfl,rfl,hr,rfl,fun p hp=>by
  have:=GKs.mem (hg base) p hp
  obtain⟨x,g⟩:=p
  cases g <;> exact this⟩ _
end MI
namespace MI
open PySem PySem.Spec PyProof.Rows L2 M
section
variable{P:List Value->Prop}
theorem iW(h:P []):∀ us:List Value,us.length=0->P us:=fun us e=>by rw [List.eq_nil_of_length_eq_zero e];exact h
theorem cA{n:Nat}(h:∀ a,∀ us:List Value,us.length=n->P (a::us)):∀ us:List Value,us.length=n+1->P us:=fun us e=>by
 cases us with
 | nil=>cases e
 | cons a us=>exact h a us (Nat.succ.inj e)
end
noncomputable def IS(N:List Str)(st:Stmt)(gs:List (Str×GI))(mt:List Nat)(x:Str)(a:Nat):Nat->List D->ac->Option (D×ac)
 | 0=>fun _ _=>none
 | n+1=>aO N (gL (iu N st ((x,.fn a (IS N st gs mt x a n))::gs) mt) (aI st)) a
section
variable{P:Program}{w:World}{K:PySem.W.Frag}{mg:Str->Option Value}{base:Heap}{k:Nat}{x:Str}{st:Stmt}{N ps:List Str}{gs:List (Str×GI)}{mt:List Nat}
theorem GK.up{k':Nat}(h:k<=k'):∀ {p:Str×GI},GK P w K mg base k p->GK P w K mg base k' p
 | (_,.fn _ _),g=>Fn.up g h
 | (_,.con _),g=>g
 | (_,.blt),g=>g
 | (_,.tab _),g=>g
 | (_,.ftab _),g=>FTab.up g h
theorem Od(F:bK K mg x st)(Sc:aS N ps (ax st))(hb:zd x st ps):Fn P w K mg base (k+1) x ps.length (fun _ _=>none):=by
 obtain⟨a,fd,F,hmg⟩:=F.ex
 exact PQ F Sc hmg (F.binds hb) fun cdv A outer s H E hr=>⟨jU,SQ,fun ds S d S' _ _ _ h=>by cases h⟩
theorem IR(F:bK K mg x st)(Sc:aS N ps (ax st))(hb:zd x st ps)(hg:GKs P w K mg base k gs):∀ n,Fn P w K mg base (k+1+n) x ps.length (IS N st gs mt x ps.length n)
 | 0=>Od F Sc hb
 | n+1=>bw (k:=k+1+n) F Sc hb fun p hp=>by
  rcases List.mem_cons.mp hp with rfl | hp
  ·exact IR F Sc hb hg n
  ·exact GK.up (by omega) (GKs.mem hg p hp)
end
noncomputable def kE(P:Params)(x:Str)(t:Nat)(v:Value):DictEntry:=⟨PyData.keyHash P x,.str x t,v⟩
noncomputable def kC(x:Str)(t l n a b:Nat)(u v:Value)(c d:Nat):Obj:=⟨.type "code",none,.fields #[.str x t,.str x (t+1),.str "/claim/cut.py" (t+2),.int l 0,.int n 0,.int 0 0,.int 0 0,.int 3 0,.ref a,.bool true,.int 181 0,.ref b,.none,u,v,.ref c,.int d 0,.int l 0,.str "/claim/cut.py" (d+1)],#[]⟩
noncomputable def kF(x:Str)(st:Stmt)(m:Str)(t c:Nat):Obj:=⟨.type "function",none,.func (PySem.W.fnOf x x (iL st) (aI st) (ax st) .none .none .none (.str m t) none (.ref c) .none),#[]⟩
theorem cN{K:PySem.W.Frag}{h:Heap}{mg:Str->Option Value}(X:K.In h)(G:h.Ns mainGlobals mg){x:Str}{st:Stmt}(m:Str)(f t c:Nat)(e:(PySem.W.nsIn K mainGlobals x,K.lookup f,PySem.W.codeIn K (.ref c) x,PySem.W.keepIn K (.ref f))=(some (some (.ref f)),some (kF x st m t c),true,true)):bK K mg x st:=by
 have e1:=congrArg (·.1) e
 have e2:=congrArg (·.2.1) e
 have e3:=congrArg (·.2.2.1) e
 have e4:=congrArg (·.2.2.2) e
 exact⟨_,_,Sl (st:=st) (show K.lookup f=some ⟨.type "function",none,.func (PySem.W.fnOf x x (iL st) (aI st) (ax st) .none .none .none (.str m t) none (.ref c) .none),#[]⟩ from e2) e3 e4,PySem.W.mg_of X G e1⟩
theorem ja{N:List Str}{c:CI}{b:List Stmt}{m:MS}{n:Nat}(h:gL c b=m):aO N (gL c b) n=aO N m n:=by rw [h]
end MI
namespace MI
open PySem PySem.Spec PyProof.Rows L2 M
section
variable{env e:bm}{S S':ac}{x y d:D}{f g:ac->D->D->Option D}{a b c:ME}{ms:MA}{t u:MT}{k l:Bool}{p q:MS}{tg:MG}
@[simp high] theorem ob{α β:Type}{a:α}{f:α->Option β}:(some a).bind f=f a:=id rfl
@[simp high] theorem obn{α β:Type}{f:α->Option β}:(none:Option α).bind f=none:=id rfl
@[simp high] theorem oj{α:Type}{a:Option α}:(some a).join=a:=rfl
@[simp high] theorem bF{α:Type}{a:α}{l:List α}:(a::l)[0]?=some a:=rfl
@[simp high] theorem bM{α:Type}{a b:α}{l:List α}:(a::b::l)[1]?=some b:=rfl
@[simp high] theorem bL{α:Type}{a:α}{l:List α}{i:Nat}:(a::l)[i+1]?=l[i]?:=rfl
@[simp high] theorem el{α:Type}{a b:α}{l:List α}:(a::l).set 0 b=b::l:=rfl
@[simp high] theorem eQ{α:Type}{a b:α}{l:List α}{i:Nat}:(a::l).set (i+1) b=a::l.set i b:=rfl
noncomputable def vg(S:ac)(z:D):Option (D×ac):=some (z,S)
@[simp] theorem aj:vg S d=some (d,S):=rfl
@[simp] theorem bb:mC d env S=some (d,S):=by rw [tq];rfl
@[simp] theorem ai{i:Nat}:ab i env S=(env[i]?).join.bind (vg S):=by rw [EA];rfl
noncomputable def RW(f:ac->D->D->Option D)(x:D)(q:D×ac):Option (D×ac):=(f q.2 x q.1).bind (vg q.2)
noncomputable def kOp1(f:ac->D->D->Option D)(b:ME)(env:bm)(q:D×ac):Option (D×ac):=(b env q.2).bind (RW f q.1)
@[simp] theorem aq:kOp1 f b env (x,S)=(b env S).bind (RW f x):=id rfl
@[simp] theorem ar:RW f x (y,S)=(f S x y).bind (vg S):=id rfl
@[simp] theorem aE:au f a b env S=(a env S).bind (kOp1 f b env):=by rw [jT];rfl
noncomputable def Pw(q:D×ac):Option (Bool×ac):=match q.1 with | .bl k=>some (k,q.2) | _=>none
@[simp] theorem aB:Pw (.bl k,S)=some (k,S):=id rfl
@[simp] theorem aD:av a env S=(a env S).bind Pw:=by rw [sY];rfl
noncomputable def Sb(g:ac->D->D->Option D)(y:D)(q:D×ac):Option (D×ac):=(g q.2 y q.1).bind (vg q.2)
noncomputable def Ki(g:ac->D->D->Option D)(c:ME)(env:bm)(y:D)(S:ac)(z:D):Option (D×ac):=match z with
 | .bl true=>(c env S).bind (Sb g y)
 | .bl false=>some (.bl false,S)
 | _=>none
noncomputable def NS(f g:ac->D->D->Option D)(c:ME)(env:bm)(x:D)(q:D×ac):Option (D×ac):=(f q.2 x q.1).bind (Ki g c env q.1 q.2)
noncomputable def Sd(f g:ac->D->D->Option D)(b c:ME)(env:bm)(q:D×ac):Option (D×ac):=(b env q.2).bind (NS f g c env q.1)
@[simp] theorem kCh1_s:Sd f g b c env (x,S)=(b env S).bind (NS f g c env x):=id rfl
@[simp] theorem kCh2_s:NS f g c env x (y,S)=(f S x y).bind (Ki g c env y S):=id rfl
@[simp] theorem kChz_t:Ki g c env y S (.bl true)=(c env S).bind (Sb g y):=id rfl
@[simp] theorem kChz_f:Ki g c env y S (.bl false)=some (.bl false,S):=id rfl
@[simp] theorem kCh3_s:Sb g y (x,S)=(g S y x).bind (vg S):=id rfl
@[simp] theorem mChain_s:cT f g a b c env S=(a env S).bind (Sd f g b c env):=by
 rw [pM];unfold M.cT Sd NS Ki
 congr 1
noncomputable def AI(q:D×ac):Option (Bool×ac):=(rV q.2 q.1).bind fun k=>some (k,q.2)
@[simp] theorem eS:AI (.bl k,S)=some (k,S):=id rfl
@[simp] theorem kTru_n:AI (.non,S)=some (false,S):=id rfl
@[simp] theorem kTru_i{i:Int}:AI (.int i,S)=some (i != 0,S):=id rfl
@[simp] theorem kTru_t{xs:List D}:AI (.tup xs,S)=some (!xs.isEmpty,S):=id rfl
@[simp] theorem kTru_l{xs:List D}:AI (.lst xs,S)=some (!xs.isEmpty,S):=id rfl
@[simp] theorem dJ:cV a env S=(a env S).bind AI:=by rw [yd];rfl
noncomputable def Kj(u:MT)(env:bm)(q:Bool×ac):Option (Bool×ac):=if q.1=true then u env q.2 else some (false,q.2)
noncomputable def RV(u:MT)(env:bm)(q:Bool×ac):Option (Bool×ac):=if q.1=true then some (true,q.2) else u env q.2
noncomputable def Pz(q:Bool×ac):Option (Bool×ac):=some (!q.1,q.2)
@[simp] theorem jK:Kj u env (true,S)=u env S:=id rfl
@[simp] theorem rG:Kj u env (false,S)=some (false,S):=id rfl
@[simp] theorem yp:RV u env (true,S)=some (true,S):=id rfl
@[simp] theorem lZ:RV u env (false,S)=u env S:=id rfl
@[simp] theorem iJ:Pz (k,S)=some (!k,S):=id rfl
@[simp] theorem hX:cK t u env S=(t env S).bind (Kj u env):=by rw [tw];rfl
@[simp] theorem jb:fC t u env S=(t env S).bind (RV u env):=by rw [ye];rfl
@[simp] theorem iH:dQ t env S=(t env S).bind Pz:=by rw [Aw];rfl
@[simp] theorem jI:bX env S=some (true,S):=by rw [At];rfl
noncomputable def NT(b:ME)(env:bm)(q:D×ac):Option (D×ac):=(rV q.2 q.1).bind fun k=>if k=true then b env q.2 else some (q.1,q.2)
noncomputable def Py(b:ME)(env:bm)(q:D×ac):Option (D×ac):=(rV q.2 q.1).bind fun k=>if k=true then some (q.1,q.2) else b env q.2
@[simp] theorem tN:NT b env (.bl true,S)=b env S:=id rfl
@[simp] theorem Se:NT b env (.bl false,S)=some (.bl false,S):=id rfl
@[simp] theorem kOr_t:Py b env (.bl true,S)=some (.bl true,S):=id rfl
@[simp] theorem kOr_f:Py b env (.bl false,S)=b env S:=id rfl
@[simp] theorem nW:dm a b env S=(a env S).bind (NT b env):=by rw [EO];rfl
@[simp] theorem Pv:vR a b env S=(a env S).bind (Py b env):=by rw [JJ];rfl
noncomputable def AK(q:D×ac):Option (D×ac):=(rV q.2 q.1).bind fun k=>some (.bl (!k),q.2)
@[simp] theorem NN{xs:List D}:AK (.lst xs,S)=some (.bl (!!xs.isEmpty),S):=id rfl
@[simp] theorem kNotV_t{xs:List D}:AK (.tup xs,S)=some (.bl (!!xs.isEmpty),S):=id rfl
@[simp] theorem kOr_c{d:D}{ds:List D}:Py b env (.lst (d::ds),S)=some (.lst (d::ds),S):=id rfl
@[simp] theorem kOr_e:Py b env (.lst [],S)=b env S:=id rfl
@[simp] theorem kNotV_s:AK (.bl k,S)=some (.bl (!k),S):=id rfl
@[simp] theorem EG:ia a env S=(a env S).bind AK:=by rw [Av];rfl
noncomputable def kIf(a b:ME)(env:bm)(q:Bool×ac):Option (D×ac):=if q.1=true then a env q.2 else b env q.2
@[simp] theorem tG:kIf a b env (true,S)=a env S:=id rfl
@[simp] theorem vY:kIf a b env (false,S)=b env S:=id rfl
@[simp] theorem jc:lF t a b env S=(t env S).bind (kIf a b env):=by rw [JP];rfl
@[simp] theorem ay:ag env S=some ([],S):=by rw [yf];rfl
noncomputable def CY(x:D)(q:List D×ac):Option (List D×ac):=some (x::q.1,q.2)
noncomputable def Kh(ms:MA)(env:bm)(q:D×ac):Option (List D×ac):=(ms env q.2).bind (CY q.1)
@[simp] theorem al{xs:List D}:CY x (xs,S)=some (x::xs,S):=id rfl
@[simp] theorem am:Kh ms env (x,S)=(ms env S).bind (CY x):=id rfl
@[simp] theorem ao:aa a ms env S=(a env S).bind (Kh ms env):=by rw [AE];rfl
noncomputable def cr(q:List D×ac):Option (D×ac):=if q.1.length<=sizeLine then some (.tup q.1,q.2) else none
noncomputable def kA(q:List D×ac):Option (D×ac):=if q.1.length<=sizeLine then some (.lst q.1,q.2) else none
noncomputable def tF(q:List D×ac):Option (D×ac):=if q.1.length<=sizeLine then some (.ref q.2.length,q.2++[.lst q.1]) else none
theorem sz{n:Nat}(h:n<=1000):n<=sizeLine:=Nat.le_trans h (by decide)
theorem aV{xs:List D}(h:xs.length<=1000):cr (xs,S)=some (.tup xs,S):=if_pos (sz h)
theorem cR{xs:List D}(h:xs.length<=1000):kA (xs,S)=some (.lst xs,S):=if_pos (sz h)
theorem mf{xs:List D}(h:xs.length<=1000):tF (xs,S)=some (.ref S.length,S++[.lst xs]):=if_pos (sz h)
@[simp] theorem bg:aT ms env S=(ms env S).bind cr:=by rw [EC];rfl
@[simp] theorem gX:dM ms env S=(ms env S).bind kA:=by rw [EH];rfl
@[simp] theorem rB:fZ ms env S=(ms env S).bind tF:=by rw [Ay];rfl
noncomputable def PH(f:List D->ac->Option (D×ac))(q:List D×ac):Option (D×ac):=f q.1 q.2
@[simp] theorem bS{f:List D->ac->Option (D×ac)}{xs:List D}:PH f (xs,S)=f xs S:=id rfl
@[simp] theorem bR{f:List D->ac->Option (D×ac)}:bf f ms env S=(ms env S).bind (PH f):=by rw [ib];rfl
noncomputable def pS(n:Nat)(f:List D->ac->Option (D×ac))(q:List D×ac):Option (D×ac):=if q.1.length=n then f q.1 q.2 else none
@[simp] theorem kCallN_0{f:List D->ac->Option (D×ac)}:pS 0 f ([],S)=f [] S:=id rfl
@[simp] theorem AN{f:List D->ac->Option (D×ac)}:pS 1 f ([x],S)=f [x] S:=id rfl
@[simp] theorem aQ{f:List D->ac->Option (D×ac)}:pS 2 f ([x,y],S)=f [x,y] S:=id rfl
@[simp] theorem bH{f:List D->ac->Option (D×ac)}{z:D}:pS 3 f ([x,y,z],S)=f [x,y,z] S:=id rfl
@[simp] theorem AM{f:List D->ac->Option (D×ac)}{z w:D}:pS 4 f ([x,y,z,w],S)=f [x,y,z,w] S:=id rfl
@[simp] theorem aC{n:Nat}{f:List D->ac->Option (D×ac)}:ak n f ms env S=(ms env S).bind (pS n f):=by rw [pN];rfl
noncomputable def kIsI(T:String)(q:D×ac):Option (D×ac):=(kL T q.2 q.1).bind (vg q.2)
@[simp] theorem Kf{T:String}:kIsI T (x,S)=(kL T S x).bind (vg S):=id rfl
@[simp] theorem JO{T:String}:dN T a env S=(a env S).bind (kIsI T):=by rw [EI];rfl
noncomputable def kUn(f:ac->D->Option D)(q:D×ac):Option (D×ac):=(f q.2 q.1).bind (vg q.2)
@[simp] theorem kUn_s{f:ac->D->Option D}:kUn f (x,S)=(f S x).bind (vg S):=id rfl
@[simp] theorem mUn_s{f:ac->D->Option D}:EB f a env S=(a env S).bind (kUn f):=by rw [JI];rfl
@[simp] theorem cQ:bE env S=some (none,S):=by rw [vQ];rfl
noncomputable def Px(q:D×ac):Option (Option Int×ac):=match q.1 with | .int i=>some (some i,q.2) | _=>none
@[simp] theorem dq{i:Int}:Px (.int i,S)=some (some i,S):=id rfl
@[simp] theorem dl:cb a env S=(a env S).bind Px:=by rw [Au];rfl
noncomputable def jE(x:D)(l:Option Int)(q:Option Int×ac):Option (D×ac):=match x with
 | .tup xs=>some (.tup (iz xs l q.1),q.2)
 | .lst xs=>some (.lst (iz xs l q.1),q.2)
 | .rol xs=>some (.lst (iz xs l q.1),q.2)
 | .ref r=>match q.2[r]? with | some (.lst xs)=>some (.lst (iz xs l q.1),q.2) | _=>none
 | _=>none
noncomputable def RQ(hi:MO)(env:bm)(x:D)(q:Option Int×ac):Option (D×ac):=(hi env q.2).bind (jE x q.1)
noncomputable def kSl1(lo hi:MO)(env:bm)(q:D×ac):Option (D×ac):=(lo env q.2).bind (RQ hi env q.1)
@[simp] theorem fI{lo hi:MO}:kSl1 lo hi env (x,S)=(lo env S).bind (RQ hi env x):=id rfl
@[simp] theorem fH{hi:MO}{l:Option Int}:RQ hi env x (l,S)=(hi env S).bind (jE x l):=id rfl
@[simp] theorem lY{xs:List D}{l h:Option Int}:jE (.tup xs) l (h,S)=some (.tup (iz xs l h),S):=id rfl
@[simp] theorem RP{xs:List D}{l h:Option Int}:jE (.lst xs) l (h,S)=some (.lst (iz xs l h),S):=id rfl
@[simp] theorem kSl3_r{xs:List D}{l h:Option Int}:jE (.rol xs) l (h,S)=some (.lst (iz xs l h),S):=id rfl
@[simp] theorem cJ{lo hi:MO}:bD a lo hi env S=(a env S).bind (kSl1 lo hi env):=by rw [vP];rfl
@[simp] theorem bt:aY env S=some (.nx env S):=by rw [oO];rfl
noncomputable def Kc(q:MS):oo->Option oo
 | .nx e S=>q e S
 | .rt d S=>some (.rt d S)
 | .bk e S=>some (.bk e S)
 | .ct e S=>some (.ct e S)
@[simp] theorem aF:Kc q (.nx e S)=q e S:=id rfl
@[simp] theorem bP:Kc q (.rt d S)=some (.rt d S):=id rfl
@[simp] theorem kSeq_bk:Kc q (.bk e S)=some (.bk e S):=id rfl
@[simp] theorem kSeq_ct:Kc q (.ct e S)=some (.ct e S):=id rfl
@[simp] theorem aJ:az p q env S=(p env S).bind (Kc q):=by rw [ED];unfold M.az;congr 1;funext o;cases o <;> rfl
noncomputable def kRt(q:D×ac):Option oo:=some (.rt q.1 q.2)
@[simp] theorem bp:kRt (d,S)=some (.rt d S):=id rfl
@[simp] theorem aW:aU a env S=(a env S).bind kRt:=by rw [EE];rfl
noncomputable def PC(env:bm)(q:D×ac):Option oo:=some (.nx env q.2)
@[simp] theorem mV:PC env (d,S)=some (.nx env S):=id rfl
@[simp] theorem mR:eV a env S=(a env S).bind (PC env):=by rw [AB];rfl
noncomputable def RY(p q:MS)(env:bm)(r:Bool×ac):Option oo:=if r.1=true then p env r.2 else q env r.2
@[simp] theorem bO:RY p q env (true,S)=p env S:=id rfl
@[simp] theorem bI:RY p q env (false,S)=q env S:=id rfl
@[simp] theorem be:bC t p q env S=(t env S).bind (RY p q env):=by rw [EJ];rfl
noncomputable def kNx(q:bm×ac):Option oo:=some (.nx q.1 q.2)
@[simp] theorem bG:kNx (e,S)=some (.nx e S):=id rfl
noncomputable def kAsg(tg:MG)(env:bm)(q:D×ac):Option oo:=(tg q.1 env q.2).bind kNx
@[simp] theorem bi:kAsg tg env (d,S)=(tg d env S).bind kNx:=id rfl
@[simp] theorem bh:aH a tg env S=(a env S).bind (kAsg tg env):=by rw [iI];rfl
@[simp] theorem aN{i:Nat}:ah i d env S=some (env.set i (some d),S):=by rw [pf];rfl
@[simp] theorem bV:aK [] env S=some (env,S):=by rw [AZ];rfl
noncomputable def kGs(gs:uB)(r:List D)(q:bm×ac):Option (bm×ac):=gs r q.1 q.2
@[simp] theorem cS{gs:uB}{r:List D}:kGs gs r (e,S)=gs r e S:=id rfl
@[simp] theorem bB{gs:uB}{r:List D}:af tg gs (d::r) env S=(tg d env S).bind (kGs gs r):=by rw [wu];rfl
theorem gTupD_of{n:Nat}{gs:uB}{xs:List D}(h:xs.length=n):aZ n gs (.tup xs) env S=gs xs env S:=by rw [my];exact if_pos h
@[simp] theorem cw{gs:uB}:aZ 2 gs (.tup [x,y]) env S=gs [x,y] env S:=by rw [my];rfl
@[simp] theorem yy{gs:uB}{z:D}:aZ 3 gs (.tup [x,y,z]) env S=gs [x,y,z] env S:=by rw [my];rfl
@[simp] theorem rK{gs:uB}{z w:D}:aZ 4 gs (.tup [x,y,z,w]) env S=gs [x,y,z,w] env S:=by rw [my];rfl
noncomputable def AJ(env:bm)(d:D)(r:Nat)(k:Int)(S:ac):Option (bm×ac):=match S[r]? with
 | some (.lst xs)=>(GG xs.length k).bind fun j=>some (env,S.set r (.lst (xs.set j d)))
 | _=>none
noncomputable def ER(env:bm)(d o:D)(q:D×ac):Option (bm×ac):=match o,q.1 with
 | .ref r,.int k=>AJ env d r k q.2
 | _,_=>none
noncomputable def Kb(i:ME)(env:bm)(d:D)(q:D×ac):Option (bm×ac):=(i env q.2).bind (ER env d q.1)
@[simp] theorem kSub1_s:Kb a env d (x,S)=(a env S).bind (ER env d x):=id rfl
@[simp] theorem kSub2_s{r:Nat}{i:Int}:ER env d (.ref r) (.int i,S)=AJ env d r i S:=id rfl
theorem tD{r:Nat}{i:Int}{xs:List D}{j:Nat}(h:S[r]?=some (.lst xs))(hj:GG xs.length i=some j):AJ env d r i S=some (env,S.set r (.lst (xs.set j d))):=by
 unfold AJ;rw [h];show (GG xs.length i).bind _=_;rw [hj];rfl
@[simp] theorem gSubD_s:gq a b d env S=(a env S).bind (Kb b env d):=by
 rw [AY];unfold M.gq Kb ER AJ;congr 1
noncomputable def kFor(tg:MG)(p:MS)(env:bm)(q:List D×ac):Option oo:=cE tg p q.1 env q.2
@[simp] theorem mj{xs:List D}:kFor tg p env (xs,S)=cE tg p xs env S:=id rfl
@[simp] theorem lX:gY ms tg p env S=(ms env S).bind (kFor tg p env):=by rw [EK];rfl
noncomputable def GA(tg:MG)(p:MS)(xs:List D):oo->Option oo
 | .nx e s=>cE tg p xs e s
 | .ct e s=>cE tg p xs e s
 | .bk e s=>some (.nx e s)
 | .rt d s=>some (.rt d s)
noncomputable def kLp1(tg:MG)(p:MS)(xs:List D)(q:bm×ac):Option oo:=(p q.1 q.2).bind (GA tg p xs)
@[simp] theorem nY{xs:List D}:kLp1 tg p xs (e,S)=(p e S).bind (GA tg p xs):=id rfl
@[simp] theorem mU{xs:List D}:GA tg p xs (.nx e S)=cE tg p xs e S:=id rfl
@[simp] theorem kLp2_ct{xs:List D}:GA tg p xs (.ct e S)=cE tg p xs e S:=id rfl
@[simp] theorem kLp2_bk{xs:List D}:GA tg p xs (.bk e S)=some (.nx e S):=id rfl
@[simp] theorem ES{xs:List D}:GA tg p xs (.rt d S)=some (.rt d S):=id rfl
@[simp] theorem Gu:cE tg p [] env S=some (.nx env S):=id rfl
theorem fF{xs:List D}:cE tg p (d::xs) env S=(tg d env S).bind (kLp1 tg p xs):=by
 show (tg d env S).bind _=_
 first | rfl | (congr 1;funext q;show (p q.1 q.2).bind _=(p q.1 q.2).bind _;congr 1;funext o;cases o <;> rfl)
noncomputable def CW(q:D×ac):Option (List D×ac):=match q.1 with | .lst xs=>some (xs,q.2) | .rol xs=>some (xs,q.2) | .tup xs=>some (xs,q.2) | _=>none
@[simp] theorem yr{xs:List D}:CW (.lst xs,S)=some (xs,S):=id rfl
@[simp] theorem kItS_r{xs:List D}:CW (.rol xs,S)=some (xs,S):=id rfl
@[simp] theorem Ke{xs:List D}:CW (.tup xs,S)=some (xs,S):=id rfl
@[simp] theorem dg:cY a env S=(a env S).bind CW:=by rw [yg];rfl
noncomputable def HW(q:List D×ac):Option (List D×ac):=match q.1 with | [.int j]=>if -(2 ^ 62)<=j/\j<2 ^ 62 then some (bW 0 j.toNat,q.2) else none | _=>none
theorem jW{j:Int}(h:-1000000<=j)(h':j<=1000000):HW ([.int j],S)=some (bW 0 j.toNat,S):=if_pos ⟨by omega,by omega⟩
@[simp] theorem dH:bQ ms env S=(ms env S).bind HW:=by rw [tj];rfl
noncomputable def kR2(q:List D×ac):Option (List D×ac):=match q.1 with | [.int i,.int j]=>if -(2 ^ 62)<=i/\i<2 ^ 62/\-(2 ^ 62)<=j/\j<2 ^ 62 then some (bW i (j - i).toNat,q.2) else none | _=>none
@[simp] theorem mRange2_s:dP ms env S=(ms env S).bind kR2:=by rw [tf];rfl
noncomputable def CZ(q:List D×ac):Option (D×ac):=some (.lst q.1,q.2)
noncomputable def mn(g:MG)(t:MT)(e:ME)(cap:List (Option Nat))(env:bm)(q:List D×ac):Option (D×ac):=if q.1.length<=sizeLine then (dh g t e q.1 (ut cap env) q.2).bind CZ else none
theorem je{cap:List (Option Nat)}{xs:List D}(h:xs.length<=1000):mn tg t a cap env (xs,S)=(dh tg t a xs (ut cap env) S).bind CZ:=if_pos (sz h)
@[simp] theorem kD{xs:List D}:CZ (xs,S)=some (.lst xs,S):=id rfl
@[simp] theorem bU{cap:List (Option Nat)}:bJ ms tg t a cap env S=(ms env S).bind (mn tg t a cap env):=by rw [tm];rfl
noncomputable def RZ(x:D)(q:List D×ac):Option (List D×ac):=some (x::q.1,q.2)
noncomputable def Sa(g:MG)(t:MT)(e:ME)(xs:List D)(env:bm)(q:D×ac):Option (List D×ac):=(dh g t e xs env q.2).bind (RZ q.1)
noncomputable def NR(g:MG)(t:MT)(e:ME)(xs:List D)(env:bm)(q:Bool×ac):Option (List D×ac):=if q.1=true then (e env q.2).bind (Sa g t e xs env) else dh g t e xs env q.2
noncomputable def kCl1(g:MG)(t:MT)(e:ME)(xs:List D)(q:bm×ac):Option (List D×ac):=(t q.1 q.2).bind (NR g t e xs q.1)
@[simp] theorem tL{xs:List D}:kCl1 tg t a xs (e,S)=(t e S).bind (NR tg t a xs e):=id rfl
@[simp] theorem tK{xs:List D}:NR tg t a xs e (true,S)=(a e S).bind (Sa tg t a xs e):=id rfl
@[simp] theorem Da{xs:List D}:NR tg t a xs e (false,S)=dh tg t a xs e S:=id rfl
@[simp] theorem tJ{xs:List D}:Sa tg t a xs e (d,S)=(dh tg t a xs e S).bind (RZ d):=id rfl
@[simp] theorem tI{xs:List D}:RZ d (xs,S)=some (d::xs,S):=id rfl
@[simp] theorem RE:dh tg t a [] env S=some ([],S):=id rfl
theorem gb{xs:List D}:dh tg t a (d::xs) env S=(tg d env S).bind (kCl1 tg t a xs):=id rfl
section
variable{g2:MG}{t2:MT}{xs:List D}{mi2:MA}
end
noncomputable def yt(n:Nat)(f:List D->ac->Option (D×ac))(q:List D×ac):Option oo:=if q.1.length=n then (f q.1 q.2).bind kRt else none
noncomputable def PD(l:List (bz×Nat×(List D->ac->Option (D×ac))))(i:Nat)(ms:MA)(env:bm)(q:D×ac):Option oo:=(eW q.1).bind fun k=>(zi l k).bind fun p=>(ms (env.set i none) q.2).bind (yt p.1 p.2)
theorem Kg{l:List (bz×Nat×(List D->ac->Option (D×ac)))}{i n:Nat}{f:List D->ac->Option (D×ac)}{k:bz}(h:eW d=some k)(h':zi l k=some (n,f)):PD l i ms env (d,S)=(ms (env.set i none) S).bind (yt n f):=by
 show (eW d).bind _=_
 rw [h];show (zi l k).bind _=_;rw [h'];rfl
theorem GD{n:Nat}{f:List D->ac->Option (D×ac)}{xs:List D}(h:xs.length=n):yt n f (xs,S)=(f xs S).bind kRt:=if_pos h
theorem NI{l:List (bz×Nat×(List D->ac->Option (D×ac)))}{i:Nat}:jd l i a ms env S=(a env S).bind (PD l i ms env):=by rw [AC];rfl
@[simp] theorem jp{i j:Int}:aR S (.int i) (.int j)=some (.int (i+j)):=id rfl
theorem gC{xs ys:List D}(h:xs.length+ys.length<=1000):aR S (.tup xs) (.tup ys)=some (.tup (xs++ys)):=if_pos (sz h)
theorem Dm{xs ys:List D}(h:xs.length+ys.length<=1000):aR S (.lst xs) (.lst ys)=some (.lst (xs++ys)):=if_pos (sz h)
@[simp] theorem yC{i j:Int}:ny S (.int i) (.int j)=some (.int (i - j)):=id rfl
@[simp] theorem fLt_i{i j:Int}:Om S (.int i) (.int j)=some (.bl (decide (i<j))):=id rfl
@[simp] theorem fLe_i{i j:Int}:On S (.int i) (.int j)=some (.bl (decide (i<=j))):=id rfl
@[simp] theorem PU{i j:Int}:fGt S (.int i) (.int j)=some (.bl (decide (j<i))):=id rfl
@[simp] theorem fGe_i{i j:Int}:fGe S (.int i) (.int j)=some (.bl (decide (j<=i))):=id rfl
@[simp] theorem fNeg_i{i:Int}:Sy S (.int i)=some (.int (-i)):=id rfl
theorem jn{i j:Int}(h:0<j):ls S (.int i) (.int j)=some (.int (i % j)):=if_pos (decide_eq_true h)
theorem KN{i j:Int}(h:0<j)(h':j<1073741824):Ha S (.int i) (.int j)=some (.int (i / j)):=if_pos (by show (decide (0<j)&&decide (j<1073741824))=true;rw [decide_eq_true h,decide_eq_true h'];rfl)
theorem KE{i j:Int}(h:(decide (0<=j)&&decide (j<=1000000)&&decide (i.natAbs<2 ^ 64))=true):vh S (.int i) (.int j)=some (.int (i ^ j.toNat)):=if_pos h
theorem jm{i j:Int}(h:oH i j=true):cH S (.int i) (.int j)=some (.int (i * j)):=if_pos h
theorem pJ{i j:Int}(h:-18446744073709551616<i)(h':i<18446744073709551616):oH i j=true:=by
 unfold oH;rw [decide_eq_true (p:=i.natAbs<18446744073709551616) (by omega)];rfl
theorem xP{i j:Int}(h:-18446744073709551616<j)(h':j<18446744073709551616):oH i j=true:=by
 unfold oH;rw [decide_eq_true (p:=j.natAbs<18446744073709551616) (by omega)];simp
@[simp] theorem fIx_t{xs:List D}{i:Int}:aw S (.tup xs) (.int i)=lA xs i:=id rfl
@[simp] theorem KJ{xs:List D}{i:Int}:aw S (.lst xs) (.int i)=lA xs i:=id rfl
@[simp] theorem fIx_r{xs:List D}{i:Int}:aw S (.rol xs) (.int i)=lA xs i:=id rfl
theorem ph{r:Nat}{xs:List D}{i:Int}(h:S[r]?=some (.lst xs)):aw S (.ref r) (.int i)=lA xs i:=by
 have:gN S (.ref r)=some xs:=by simp only [gN,h]
 have t:zl S (.ref r)=none:=by simp only [zl,h]
 unfold aw;rw [t]
 show (gN S (.ref r)).bind _=_;rw [this];rfl
theorem Mb{α:Type}{xs:List α}{i:Int}(h0:0<=i)(h:i<xs.length):lA xs i=some (xs[i.toNat]'(by omega)):=by
 unfold lA GG;rw [if_pos h0,if_pos h];show xs[i.toNat]?=_;rw [List.getElem?_eq_getElem]
@[simp] theorem Dl{xs:List D}:aM fK [.tup xs] S=some (.int xs.length,S):=id rfl
@[simp] theorem SD{xs:List D}:aM fK [.lst xs] S=some (.int xs.length,S):=id rfl
@[simp] theorem SC{xs:List D}:aM fK [.rol xs] S=some (.int xs.length,S):=id rfl
@[simp] theorem fInt1_i{i:Int}:aM kM [.int i] S=some (.int i,S):=id rfl
@[simp] theorem pi:aM kM [.bl k] S=some (.int (if k then 1 else 0),S):=id rfl
@[simp] theorem Ol{i j:Int}:aM lG [.int i,.int j] S=some (.int (if j>i then j else i),S):=id rfl
@[simp] theorem Oi{i j:Int}:aM Bj [.int i,.int j] S=some (.int (if j<i then j else i),S):=id rfl
@[simp] theorem fSeq1_t{g:List D->D}{xs:List D}:aM (cj g) [.tup xs] S=some (g xs,S):=id rfl
@[simp] theorem eL{g:List D->D}{xs:List D}:aM (cj g) [.lst xs] S=some (g xs,S):=id rfl
theorem KO{xs:List D}{bs:List Bool}(h:lz xs=some bs):aM yE [.lst xs] S=some (.bl (bs.all id),S):=by
 show ((lz xs).bind _).bind _=_;rw [h];rfl
@[simp] theorem jN:ug S x .non=some (.bl (lm x .non)):=id rfl
@[simp] theorem fIs_b:ug S x (.bl k)=some (.bl (lm x (.bl k))):=id rfl
@[simp] theorem kK:iy S x .non=some (.bl (!lm x .non)):=id rfl
@[simp] theorem fIsNot_b:iy S x (.bl k)=some (.bl (!lm x (.bl k))):=id rfl
theorem lv(h:cB 40 x=true)(h':cB 40 y=true):bT S x y=some (.bl (jC x y)):=if_pos ⟨h,h'⟩
theorem qa(h:cB 40 x=true)(h':cB 40 y=true):gK S x y=some (.bl (!jC x y)):=if_pos ⟨h,h'⟩
@[simp] theorem gB{i j:Int}:bT S (.int i) (.int j)=some (.bl (i == j)):=lv (by simp [cB]) (by simp [cB])
@[simp] theorem KG{i j:Int}:gK S (.int i) (.int j)=some (.bl (!(i == j))):=qa (by simp [cB]) (by simp [cB])
@[simp] theorem fEq_bb:bT S (.bl k) (.bl l)=some (.bl (k == l)):=lv (by simp [cB]) (by simp [cB])
@[simp] theorem cI{i j:Str}:bT S (.str i) (.str j)=some (.bl (i == j)):=lv (by simp [cB]) (by simp [cB])
@[simp] theorem pZ{i j:Str}:gK S (.str i) (.str j)=some (.bl (!(i == j))):=qa (by simp [cB]) (by simp [cB])
theorem jZ{ys:List D}(hs:gN S y=some ys)(h:cB 40 x=true)(h':ys.all (cB 39)=true):on S x y=some (.bl (ys.any fun d=>jC d x)):=by
 unfold on;rw [hs];exact if_pos ⟨h,h'⟩
theorem GW{ys:List D}(hs:gN S y=some ys)(h:cB 40 x=true)(h':ys.all (cB 39)=true):pY S x y=some (.bl (!ys.any fun d=>jC d x)):=by
 unfold pY;rw [hs];exact if_pos ⟨h,h'⟩
theorem Oh{xs:List D}{k:Int}(h0:0<=k)(h1:k<=100000)(h:xs.length * k.toNat<=1000):cH S (.tup xs) (.int k)=some (.tup (List.replicate k.toNat xs).flatten):=if_pos ⟨by omega,by omega,sz h⟩
noncomputable def dX(f:MF)(x:D)(q:List D×ac):Option (D×ac):=f x q.1 q.2
noncomputable def qv(f:MF)(ms:MA)(env:bm)(q:D×ac):Option (D×ac):=if qU q.2 q.1=true then (ms env q.2).bind (dX f q.1) else none
@[simp] theorem mQ{f:MF}:fY f a ms env S=(a env S).bind (qv f ms env):=by rw [Ax];rfl
@[simp] theorem kMeth_l{f:MF}{xs:List D}:qv f ms env (.lst xs,S)=(ms env S).bind (dX f (.lst xs)):=id rfl
theorem yq{f:MF}{r:Nat}{xs:List D}(h:S[r]?=some (.lst xs)):qv f ms env (.ref r,S)=(ms env S).bind (dX f (.ref r)):=by
 unfold qv;exact if_pos (by simp only [qU,h])
@[simp] theorem gp{f:MF}{xs:List D}:dX f x (xs,S)=f x xs S:=id rfl
theorem wA{r:Nat}{xs:List D}(h:S[r]?=some (.lst xs))(hz:xs.length<1000):dR (.ref r) [y] S=some (.non,S.set r (.lst (xs++[y]))):=by
 simp only [dR,h];exact if_pos (Nat.lt_of_lt_of_le hz (by decide))
theorem GZ{r:Nat}{xs:List D}{i:Int}(h:S[r]?=some (.lst xs))(hz:xs.length<1000)(h0:0<=i)(h1:i<=100000):iK (.ref r) [.int i,y] S=some (.non,S.set r (.lst (jX xs i y))):=by
 simp only [iK,h];exact if_pos ⟨Nat.lt_of_lt_of_le hz (by decide),by omega,by omega⟩
noncomputable def ET(q:List D×ac):Option (List D×ac):=match q.1 with | [.tup xs]=>some (fg 0 xs,q.2) | _=>none
@[simp] theorem kEnum_s{xs:List D}:ET ([.tup xs],S)=some (fg 0 xs,S):=id rfl
@[simp] theorem oQ:gn ms env S=(ms env S).bind ET:=by rw [AA];rfl
theorem NW{ns:List Int}(h:ns.length<64):qy S (.lst (ns.map .int))=some ns:=by
 unfold qy
 rw [if_pos (show qU S (.lst (ns.map D.int))=true from rfl)]
 show (oe (ns.map D.int)).bind _=_
 rw [tR];exact if_pos h
noncomputable def kPar(i j:Nat)(env:bm)(q:List D×ac):Option oo:=match q.1 with | [v,w]=>some (.nx ((env.set i (some v)).set j (some w)) q.2) | _=>none
@[simp] theorem RA{i j:Nat}:nv i j ms env S=(ms env S).bind (kPar i j env):=by rw [EF];rfl
@[simp] theorem RT{i j:Nat}:kPar i j env ([x,y],S)=some (.nx ((env.set i (some x)).set j (some y)) S):=id rfl
noncomputable def NQ(ms:MA)(env:bm)(q:D×ac):Option (D×ac):=if Ip q.1=true then (ms env q.2).bind (dX fz q.1) else if qU q.2 q.1=true then (ms env q.2).bind (dX mX q.1) else none
@[simp] theorem JS:ky a ms env S=(a env S).bind (NQ ms env):=by rw [EN];rfl
@[simp] theorem kCnt_t{xs:List D}:NQ ms env (.tup xs,S)=(ms env S).bind (dX fz (.tup xs)):=id rfl
@[simp] theorem kCnt_l{xs:List D}:NQ ms env (.lst xs,S)=(ms env S).bind (dX mX (.lst xs)):=id rfl
theorem Hb{xs:List D}(h:cB 40 x=true)(h':xs.all (cB 39)=true):fz (.tup xs) [x] S=some (.int (xs.countP fun d=>jC d x),S):=by
 show (if Ip (.tup xs)=true then uh (.tup xs) [x] S else none)=_
 rw [if_pos (show Ip (.tup xs)=true from rfl)]
 exact if_pos ⟨h,h'⟩
noncomputable def kZip(q:List D×ac):Option (List D×ac):=match q.1 with | [.tup xs,.tup ys]=>some (jQ xs ys,q.2) | _=>none
@[simp] theorem kZip_s{xs ys:List D}:kZip ([.tup xs,.tup ys],S)=some (jQ xs ys,S):=id rfl
@[simp] theorem mZip_s:nT ms env S=(ms env S).bind kZip:=by rw [Ez];rfl
@[simp] theorem Ic{xs ys:List D}:jQ (x::xs) (y::ys)=.tup [x,y]::jQ xs ys:=id rfl
@[simp] theorem zipD_nl{xs:List D}:jQ [] xs=[]:=by cases xs <;> rfl
@[simp] theorem zipD_nr{xs:List D}:jQ xs []=[]:=by cases xs <;> rfl
noncomputable def RR(k:bz)(d:D)(z:List (bz×D)×ac):Option (List (bz×D)×ac):=some ((k,d)::z.1,z.2)
noncomputable def NM(r:List (ME×ME))(env:bm)(k:bz)(q:D×ac):Option (List (bz×D)×ac):=(jS r env q.2).bind (RR k q.1)
noncomputable def kPr2(b:ME)(r:List (ME×ME))(env:bm)(S:ac)(k:bz):Option (List (bz×D)×ac):=(b env S).bind (NM r env k)
noncomputable def RS(b:ME)(r:List (ME×ME))(env:bm)(q:D×ac):Option (List (bz×D)×ac):=(eW q.1).bind (kPr2 b r env q.2)
@[simp] theorem nU:jS [] env S=some ([],S):=id rfl
@[simp] theorem lW{r:List (ME×ME)}:jS ((a,b)::r) env S=(a env S).bind (RS b r env):=id rfl
@[simp] theorem kPr1_i{i:Int}{r:List (ME×ME)}:RS b r env (.int i,S)=(b env S).bind (NM r env (.inl i)):=id rfl
@[simp] theorem CU{i:Str}{r:List (ME×ME)}:RS b r env (.str i,S)=(b env S).bind (NM r env (.inr i)):=id rfl
@[simp] theorem CT{k:bz}{r:List (ME×ME)}:NM r env k (d,S)=(jS r env S).bind (RR k d):=id rfl
@[simp] theorem CS{k:bz}{z:List (bz×D)}:RR k d (z,S)=some ((k,d)::z,S):=id rfl
noncomputable def tH(z:List (bz×D)×ac):Option (D×ac):=if z.1.length<=15 then some (.dct ((cD [] z.1).map (·.1)) ((cD [] z.1).map (·.2)),z.2) else none
noncomputable def yu(z:List (bz×D)×ac):Option (D×ac):=if z.1.length<=15 then some (.ref z.2.length,z.2++[.dct ((cD [] z.1).map (·.1)) ((cD [] z.1).map (·.2))]) else none
@[simp] theorem EL{ps:List (ME×ME)}:iE ps env S=(jS ps env S).bind tH:=by rw [AD];rfl
@[simp] theorem JQ{ps:List (ME×ME)}:fG ps env S=(jS ps env S).bind yu:=by rw [vU];rfl
theorem AS{k:bz}:∀ {l:List (bz×D)},k ∉ l.map (·.1)->GQ l k=false
 | [],_=>rfl
 | p::r,h=>by
  rw [List.map_cons,List.mem_cons,not_or] at h
  unfold GQ;rw [if_neg (fun z=>h.1 z.symm)];exact AS h.2
theorem nS:∀ {l m:List (bz×D)},((m++l).map (·.1)).Nodup->cD m l=m++l
 | [],m,_=>by rw [List.append_nil];rfl
 | p::r,m,h=>by
  show cD (IV m p.1 p.2) r=_
  have hn:p.1 ∉ m.map (·.1):=by
   rw [List.map_append,List.map_cons,List.nodup_append] at h
   intro z;exact h.2.2 _ z _ List.mem_cons_self rfl
  unfold IV;rw [AS hn,if_neg Bool.false_ne_true]
  rw [nS (by rw [List.append_assoc];exact h),List.append_assoc];rfl
theorem pK{l:List (bz×D)}(h:(l.map (·.1)).Nodup):cD [] l=l:=nS (m:=[]) h
theorem AL{l:List (bz×D)}(h:(l.map (·.1)).Nodup)(hl:l.length<=15):tH (l,S)=some (.dct (l.map (·.1)) (l.map (·.2)),S):=by
 unfold tH;rw [if_pos hl];simp only [pK h]
theorem GE{l:List (bz×D)}(h:(l.map (·.1)).Nodup)(hl:l.length<=15):yu (l,S)=some (.ref S.length,S++[.dct (l.map (·.1)) (l.map (·.2))]):=by
 unfold yu;rw [if_pos hl];simp only [pK h]
theorem wN{α β:Type}:∀ (l:List (α×β)),(l.map (·.1)).zip (l.map (·.2))=l
 | []=>rfl
 | p::r=>by rw [List.map_cons,List.map_cons,List.zip_cons_cons,wN r]
@[simp] theorem fIx_dct{ks:List bz}{vs:List D}:aw S (.dct ks vs) y=(eW y).bind (iV (ks.zip vs)):=id rfl
theorem kDict_nd{l:List (bz×D)}(h:(l.map (·.1)).Nodup)(hl:l.length<=15):tH (l,S)=some (.dct (l.map (·.1)) (l.map (·.2)),S):=by
 unfold tH;rw [if_pos hl];simp only [pK h]
theorem fIx_d{l:List (bz×D)}{k:bz}(h:eW y=some k):aw S (.dct (l.map (·.1)) (l.map (·.2))) y=iV l k:=by
 show (eW y).bind (fun k=>iV ((l.map (·.1)).zip (l.map (·.2))) k)=_
 rw [h,wN];rfl
theorem SE{r:Nat}{l:List (bz×D)}{k:bz}(hr:S[r]?=some (.dct (l.map (·.1)) (l.map (·.2))))(h:eW y=some k):aw S (.ref r) y=iV l k:=by
 have:zl S (.ref r)=some l:=by simp only [zl,hr,wN]
 unfold aw;rw [this];show (eW y).bind _=_;rw [h];rfl
noncomputable def tE(f:MF)(ms:MA)(env:bm)(q:D×ac):Option (D×ac):=if LO q.2 q.1=true then (ms env q.2).bind (dX f q.1) else none
noncomputable def tB(l:List (bz×D))(q:D×ac):Option (D×ac):=(eW q.1).bind fun k=>(iV l k).bind fun d=>some (d,q.2)
@[simp] theorem sZ{l:List (bz×D)}:dL l a env S=(a env S).bind (tB l):=by rw [vO];rfl
@[simp] theorem JM{f:MF}:fD f a ms env S=(a env S).bind (tE f ms env):=by rw [vS];rfl
@[simp] theorem kMethD_d{f:MF}{ks:List bz}{vs:List D}:tE f ms env (.dct ks vs,S)=(ms env S).bind (dX f (.dct ks vs)):=id rfl
theorem Kd{f:MF}{r:Nat}{ks:List bz}{vs:List D}(h:S[r]?=some (.dct ks vs)):tE f ms env (.ref r,S)=(ms env S).bind (dX f (.ref r)):=by
 unfold tE;exact if_pos (by simp only [LO,h])
@[simp] theorem valD_nil{k:bz}:iV [] k=none:=id rfl
@[simp] theorem valD_cons{k k':bz}{l:List (bz×D)}:iV ((k',d)::l) k=if k'=k then some d else iV l k:=id rfl
@[simp] theorem keyOf_i{i:Int}:eW (.int i)=some (.inl i):=id rfl
@[simp] theorem yn{i:Str}:eW (.str i)=some (.inr i):=id rfl
theorem Og{r:Nat}{l m:List (bz×D)}(hr:S[r]?=some (.dct (l.map (·.1)) (l.map (·.2))))(hl:l.length+m.length<=1000) :
  ud (.ref r) [.dct (m.map (·.1)) (m.map (·.2))] S=some (.non,S.set r (.dct ((cD l m).map (·.1)) ((cD l m).map (·.2)))):=by
 simp only [ud,hr,wN]
 exact if_pos (by rw [List.length_map,List.length_map];exact sz hl)
noncomputable def oU(tg:MG)(p:MS)(env:bm)(q:D×ac):Option oo:=match q.1 with
 | .ref r=>eO tg p r 2000 0 env q.2
 | .lst xs=>cE tg p xs env q.2
 | .rol xs=>cE tg p xs env q.2
 | .tup xs=>cE tg p xs env q.2
 | _=>none
@[simp] theorem oP:ga a tg p env S=(a env S).bind (oU tg p env):=by rw [Az];rfl
@[simp] theorem kForD_l{xs:List D}:oU tg p env (.lst xs,S)=cE tg p xs env S:=id rfl
@[simp] theorem kForD_o{xs:List D}:oU tg p env (.rol xs,S)=cE tg p xs env S:=id rfl
@[simp] theorem NP{xs:List D}:oU tg p env (.tup xs,S)=cE tg p xs env S:=id rfl
@[simp] theorem kForD_r{r:Nat}:oU tg p env (.ref r,S)=eO tg p r 2000 0 env S:=id rfl
noncomputable def Gz(tg:MG)(p:MS)(r f i:Nat):oo->Option oo
 | .nx e s=>eO tg p r f i e s
 | .ct e s=>eO tg p r f i e s
 | .bk e s=>some (.nx e s)
 | .rt d s=>some (.rt d s)
noncomputable def kRl1(tg:MG)(p:MS)(r f i:Nat)(q:bm×ac):Option oo:=(p q.1 q.2).bind (Gz tg p r f i)
@[simp] theorem kRl1_s{r f i:Nat}:kRl1 tg p r f i (e,S)=(p e S).bind (Gz tg p r f i):=id rfl
@[simp] theorem kRl2_nx{r f i:Nat}:Gz tg p r f i (.nx e S)=eO tg p r f i e S:=id rfl
@[simp] theorem kRl2_ct{r f i:Nat}:Gz tg p r f i (.ct e S)=eO tg p r f i e S:=id rfl
@[simp] theorem kRl2_bk{r f i:Nat}:Gz tg p r f i (.bk e S)=some (.nx e S):=id rfl
@[simp] theorem kRl2_rt{r f i:Nat}:Gz tg p r f i (.rt d S)=some (.rt d S):=id rfl
theorem RD{r f i:Nat}{xs:List D}(h:S[r]?=some (.lst xs))(hx:xs.length<=i):eO tg p r (f+1) i env S=some (.nx env S):=by
 have hx':xs[i]?=none:=by simpa using hx
 unfold eO;rw [h];simp only [hx']
noncomputable def CV(q:List D×ac):Option (D×ac):=match q.1 with | [.int j]=>if 0<=j/\j<=1000 then some (.lst (bW 0 j.toNat),q.2) else none | _=>none
@[simp] theorem JN:fE ms env S=(ms env S).bind CV:=by rw [vT];rfl
theorem GB{j:Int}(h0:0<=j)(h1:j<=1000):CV ([.int j],S)=some (.lst (bW 0 j.toNat),S):=if_pos ⟨h0,h1⟩
noncomputable def RN(t:MT)(p:MS)(f:Nat):oo->Option oo
 | .nx e s=>gm t p f e s
 | .ct e s=>gm t p f e s
 | .bk e s=>some (.nx e s)
 | .rt d s=>some (.rt d s)
noncomputable def kWh(t:MT)(p:MS)(f:Nat)(env:bm)(q:Bool×ac):Option oo:=if q.1=true then (p env q.2).bind (RN t p f) else some (.nx env q.2)
@[simp] theorem JH:fB t p env S=gm t p 5000 env S:=by rw [vN];rfl
theorem Gs{f:Nat}:gm t p (f+1) env S=(t env S).bind (kWh t p f env):=by
 show (t env S).bind _=_
 first | rfl | (congr 1;done)
@[simp] theorem kWh_t{f:Nat}:kWh t p f env (true,S)=(p env S).bind (RN t p f):=id rfl
@[simp] theorem kWh_f{f:Nat}:kWh t p f env (false,S)=some (.nx env S):=id rfl
@[simp] theorem NL{f:Nat}:RN t p f (.nx e S)=gm t p f e S:=id rfl
theorem Oj{ns:List Int}(h:ns.length<64)(h0:ns≠[]):aM lG [.lst (ns.map .int)] S=some (.int (jR ns),S):=by
 show ((lG S [.lst (ns.map D.int)]).bind _)=_
 have:lG S [.lst (ns.map D.int)]=some (.int (jR ns)):=by
  show ((qy S (.lst (ns.map D.int))).bind _)=_
  rw [NW h]
  show (if ns.isEmpty=true then none else some (D.int (jR ns)))=_
  rw [if_neg (by cases ns with | nil=>exact absurd rfl h0 | cons _ _=>simp)]
 rw [this];rfl
theorem EY{x y:D}{xs ys:List D}(h:(yv x||yv y)=true)(h1:qu S x=some xs)(h2:qu S y=some ys)(hl:xs.length+ys.length<=1000):aR S x y=some (.lst (xs++ys)):=by
 unfold aR;rw [if_pos h,h1,h2];exact if_pos (sz hl)
theorem szM{n:Nat}(h:n<=1000000):n<=sizeLine:=Nat.le_trans h (by decide)
theorem FF:∀ ys:List Str,Ei (ys.map .str)=some ys
 | []=>rfl
 | y::r=>by
  have:=FF r
  show (Ei (r.map .str)).bind _=_
  rw [this];rfl
noncomputable def Nn:oo->Option (D×ac)
 | .rt d S'=>some (d,S')
 | .nx _ S'=>some (.non,S')
 | .bk _ _=>none
 | .ct _ _=>none
@[simp] theorem aG:Nn (.rt d S)=some (d,S):=id rfl
@[simp] theorem outM_nx:Nn (.nx e S)=some (.non,S):=id rfl
theorem bd{N:List Str}{m:MS}{n:Nat}{ds:List D}{S:ac}(h:ds.length=n):aO N m n ds S=(m (aA N ds) S).bind Nn:=by
 unfold aO;rw [if_pos h];first | rfl | (congr 1;funext o;cases o <;> rfl)
@[simp] theorem rep0:List.replicate 0 (none:Option D)=[]:=id rfl
end
end MI
namespace MI
open PySem PySem.Spec PyProof.Rows L2 M
def rC:MS:=
 az (bC (av (au fGt (au aw (ab 0) (mC (.int 0))) (mC (.int 0)))) (az (aH (au ls (au aw (ab 0) (mC (.int 0))) (ab 1)) (ah 2)) (az (aH (au Ha (au aw (ab 0) (mC (.int 0))) (ab 1)) (gq (ab 0) (mC (.int 0)))) (aU (ab 2)))) (aY)) (az (aH (au aR (au aw (ab 0) (mC (.int 2))) (mC (.int 1))) (gq (ab 0) (mC (.int 2)))) (az (aH (au ls (au aR (au aR (au cH (au aw (ab 0) (mC (.int 1))) (mC (.int 48271))) (mC (.int 12345))) (au cH (mC (.int 7)) (au aw (ab 0) (mC (.int 2))))) (mC (.int 2147483647))) (gq (ab 0) (mC (.int 1)))) (aU (au ls (au Ha (au ls (au cH (au aw (ab 0) (mC (.int 1))) (au aw (ab 0) (mC (.int 1)))) (mC (.int 1999999973))) (mC (.int 64))) (ab 1)))))
def CQ:MS:=
 az (aH (mC (.int 1)) (ah 0)) (az (gY (bQ (aa (mC (.int 10)) (ag))) (ah 1) (aH (au cH (ab 0) (au vh (mC (.int 10)) (mC (.int 60)))) (ah 0))) (aU (ab 0)))
def mS:MS:=
 az (bC (av (au Om (ab 1) (bf (aM fK) (aa (ab 0) (ag))))) (aU (au aw (ab 0) (ab 1))) (aY)) (aU (mC (.int 0)))
def rE(cellAt far:List D->ac->Option (D×ac)):MS:=
 az (aH (ak 2 cellAt (aa (ab 0) (aa (au ls (ab 1) (bf (aM lG) (aa (mC (.int 1)) (aa (bf (aM fK) (aa (ab 0) (ag))) (ag))))) (ag)))) (ah 2)) (az (aH (au ls (au cH (au aR (au aR (au ls (ab 2) (mC (.int 2147483629))) (au cH (au cH (mC (.int 7919)) (ab 1)) (ab 1))) (mC (.int 11))) (mC (.int 48271))) (mC (.int 2147483647))) (ah 3)) (az (aH (au ls (au aR (au aR (au cH (ab 3) (mC (.int 39373))) (au cH (mC (.int 7)) (ab 1))) (mC (.int 1))) (mC (.int 2147483629))) (ah 3)) (az (bC (av (au Om (ab 2) (au vh (mC (.int 10)) (mC (.int 18))))) (aH (mC (.int 0)) (ah 2)) (aY)) (aU (fZ (aa (au ls (ab 2) (ak 0 far ag)) (aa (ab 3) (aa (mC (.int 0)) (ag)))))))))
theorem TD{a b c:D}:lA [a,b,c] 0=some a/\lA [a,b,c] 1=some b/\lA [a,b,c] 2=some c:=⟨rfl,rfl,rfl⟩
def Pk(S:ac)(r:Nat):Prop:=∃ a b c:Int,S[r]?=some (.lst [.int a,.int b,.int c])/\0<=a/\0<=b/\b<2147483647
noncomputable def p60:Int:=1000000000000000000000000000000000000000000000000000000000000
theorem Rc:(10:Int) ^ (60:Int).toNat=p60:=by decide +kernel
theorem Rb:p60.natAbs<=2 ^ (200 * 1):=by decide +kernel
theorem Nl:0<p60:=by decide +kernel
theorem Nm{i:Int}(h:i.natAbs<2 ^ 4000):oH i p60=true:=by
 unfold oH
 rw [decide_eq_true h,decide_eq_true (p:=p60.natAbs<2 ^ 4000) (by decide +kernel)]
 simp
def KD:MS:=aH (au cH (ab 0) (au vh (mC (.int 10)) (mC (.int 60)))) (ah 0)
theorem Sx{S:ac}:vh S (.int 10) (.int 60)=some (.int p60):=by
 have h:=KE (S:=S) (i:=10) (j:=60) (by decide +kernel)
 rw [Rc] at h
 exact h
theorem KC{S:ac}{a p:Int}{o:Option D}(h1:vh S (.int 10) (.int 60)=some (.int p))(h2:cH S (.int a) (.int p)=some (.int (a * p))):KD [some (.int a),o] S=some (.nx [some (.int (a * p)),o] S):=by
 simp [KD,h1,h2]
theorem Of{S:ac}{a:Int}{o:Option D}(h:oH a p60=true):KD [some (.int a),o] S=some (.nx [some (.int (a * p60)),o] S):=KC Sx (jm h)
theorem farL{S:ac}{B:Nat}(hB:∀ i:Int,i.natAbs<B->oH i p60=true)(l:List D):∀ (a:Int) (o:Option D),0<a->a.natAbs * 2 ^ (200 * l.length)<B->∃ q o',cE (ah 1) KD l [some (.int a),o] S=some (.nx [some (.int q),o'] S)/\0<q:=by
 induction l with
 | nil=>exact fun a o h _=>⟨a,o,rfl,h⟩
 | cons d l ih=>
  intro a o h hb
  have h1:a.natAbs<B:=Nat.lt_of_le_of_lt (Nat.le_mul_of_pos_right _ (Nat.pow_pos (by decide))) hb
  obtain⟨q,o',e,hq⟩:=ih (a * p60) (some d) (Int.mul_pos h Nl) (by
   rw [Int.natAbs_mul]
   refine Nat.lt_of_le_of_lt ?_ hb
   rw [List.length_cons,Nat.mul_add,Nat.pow_add,Nat.mul_assoc]
   refine Nat.mul_le_mul_left _ ?_
   rw [Nat.mul_comm]
   exact Nat.mul_le_mul_left _ Rb)
  refine⟨q,o',?_,hq⟩
  rw [fF,aN,ob,nY]
  show (KD [some (.int a),some d] S).bind _=_
  rw [Of (hB a h1),ob,mU]
  exact e
theorem KB{S:ac}{N:List Str}(hN:N.length=2):∃ q:Int,aO N CQ 0 [] S=some (.int q,S)/\0<q:=by
 obtain⟨q,o',e,hq⟩:=farL (S:=S) (fun i h=>Nm h) (bW 0 10) 1 none (by decide) (by decide +kernel)
 refine⟨q,?_,hq⟩
 rw [bd (show ([]:List D).length=0 from rfl)]
 have:aA N []=[none,none]:=by simp [aA,hN,List.replicate]
 rw [this]
 have k1:HW ([.int 10],S)=some (bW 0 10,S):=jW (by decide) (by decide)
 have e':cE (ah 1) (aH (au cH (ab 0) (au vh (mC (.int 10)) (mC (.int 60)))) (ah 0)) (bW 0 10) [some (.int 1),none] S=some (.nx [some (.int q),o'] S):=e
 simp only [CQ,aJ,bh,bb,ob,bi,aN,el,bG,aF,lX,dH,ao,am,ay,al,k1,mj,e',aW,ai,bF,oj,aj,bp,aG]
theorem FU{S:ac}{r:Nat}{m:Int}{N:List Str}(hN:N.length=3)(h:Pk S r)(h0:0<m)(h1:m<1073741824) :
  ∃ q S',aO N rC 2 [.ref r,.int m] S=some (.int q,S')/\0<=q/\q<m/\Pk S' r/\(∀ j,j≠r->S'[j]?=S[j]?)/\S'.length=S.length:=by
 obtain⟨a,b,c,h,ha,hb,hb'⟩:=h
 have hr:r<S.length:=(List.getElem?_eq_some_iff.mp h).1
 have hm:∀ x:Int,0<=x % m/\x % m<m:=fun x=>⟨Int.emod_nonneg _ (by omega),Int.emod_lt_of_pos _ h0⟩
 have hst:aA N [.ref r,.int m]=[some (.ref r),some (.int m),none]:=by simp [aA,hN]
 rw [bd (show [D.ref r,D.int m].length=2 from rfl),hst]
 have hs:∀ c:vp,(S.set r c)[r]?=some c:=fun c=>List.getElem?_set_self hr
 by_cases hp:0<a
 ·refine⟨a % m,S.set r (.lst [.int (a / m),.int b,.int c]),?_,(hm a).1,(hm a).2,⟨a / m,b,c,hs _,Int.ediv_nonneg ha (by omega),hb,hb'⟩,fun j hj=>by rw [List.getElem?_set_ne (Ne.symm hj)],by simp⟩
  have w:=tD (env:=[some (.ref r),some (.int m),some (.int (a % m))]) (d:=.int (a / m)) h (show GG _ 0=some 0 from rfl)
  simp [rC,ph h,hp,jn h0,KN h0 h1,TD,w]
 ·have hB:∀ x:Int,0<=x % 2147483647/\x % 2147483647<2147483647:=fun x=>⟨Int.emod_nonneg _ (by decide),Int.emod_lt_of_pos _ (by decide)⟩
  let b':=(b * 48271+12345+7 * (c+1)) % 2147483647
  have hb2:=hB (b * 48271+12345+7 * (c+1))
  have m3:oH b' b'=true:=pJ (by omega) (by omega)
  have s1:(S.set r (.lst [.int a,.int b,.int (c+1)]))[r]?=some (.lst [.int a,.int b,.int (c+1)]):=hs _
  have s2:((S.set r (.lst [.int a,.int b,.int (c+1)])).set r (.lst [.int a,.int b',.int (c+1)]))[r]?=some (.lst [.int a,.int b',.int (c+1)]):=List.getElem?_set_self (by simpa using hr)
  refine⟨b' * b' % 1999999973 / 64 % m,(S.set r (.lst [.int a,.int b,.int (c+1)])).set r (.lst [.int a,.int b',.int (c+1)]),?_,(hm _).1,(hm _).2,⟨a,b',c+1,s2,ha,(hB _).1,(hB _).2⟩,fun j hj=>by rw [List.getElem?_set_ne (Ne.symm hj),List.getElem?_set_ne (Ne.symm hj)],by simp⟩
  have e1:cH (S.set r (.lst [.int a,.int b,.int (c+1)])) (.int b) (.int 48271)=some (.int (b * 48271)):=jm (xP (by decide) (by decide))
  have e2:cH (S.set r (.lst [.int a,.int b,.int (c+1)])) (.int 7) (.int (c+1))=some (.int (7 * (c+1))):=jm (pJ (by decide) (by decide))
  have e3:∀ S x,ls S (.int x) (.int 2147483647)=some (.int (x % 2147483647)):=fun _ _=>jn (by decide)
  have e4:∀ S x,ls S (.int x) (.int 1999999973)=some (.int (x % 1999999973)):=fun _ _=>jn (by decide)
  have e5:∀ S x,Ha S (.int x) (.int 64)=some (.int (x / 64)):=fun _ _=>KN (by decide) (by decide)
  have w1:=tD (env:=[some (.ref r),some (.int m),none]) (d:=.int (c+1)) h (show GG _ 2=some 2 from rfl)
  have w2:=tD (env:=[some (.ref r),some (.int m),none]) (d:=.int b') s1 (show GG _ 1=some 1 from rfl)
  simp [rC,ph h,ph s1,ph s2,hp,jn h0,TD,e1,e2,e3,e4,e5,w1]
  rw [show (b * 48271+12345+7 * (c+1)) % 2147483647=b' from rfl,w2]
  simp [ph (hs _),TD,jm m3,e4,e5,jn h0]
theorem Bv{S:ac}{ns:List Int}{k:Int}{N:List Str}(hN:N.length=2)(h0:0<=k):∃ v,aO N mS 2 [.rol (ns.map .int),.int k] S=some (.int v,S):=by
 rw [bd (show [D.rol (ns.map .int),D.int k].length=2 from rfl)]
 have hst:aA N [D.rol (ns.map .int),D.int k]=[some (D.rol (ns.map .int)),some (.int k)]:=by simp [aA,hN]
 rw [hst]
 by_cases h:k<ns.length
 ·have e:lA (ns.map D.int) k=some (.int (ns[k.toNat]'(by omega))):=by
   rw [Mb h0 (by simpa using h)];simp
  exact⟨ns[k.toNat]'(by omega),by simp [mS,h,e]⟩
 ·exact⟨0,by simp [mS,h]⟩
theorem TR{S:ac}{a b c:Int}(ha:0<=a)(hb:0<=b)(hb':b<2147483647):Pk (S++[.lst [.int a,.int b,.int c]]) S.length:=⟨a,b,c,by simp,ha,hb,hb'⟩
theorem Gw{S:ac}{ns:List Int}{k:Int}{N:List Str}{cellAt far:List D->ac->Option (D×ac)}(hN:N.length=4)(h0:0<=k)(h1:k<=100000)
  (hc:∀ S k,0<=k->∃ v,cellAt [.rol (ns.map .int),.int k] S=some (.int v,S)) (hf:∀ S,∃ q,far [] S=some (.int q,S)/\0<q) :
  ∃ a b,aO N (rE cellAt far) 2 [.rol (ns.map .int),.int k] S=some (.ref S.length,S++[.lst [.int a,.int b,.int 0]])/\0<=a/\0<=b/\b<2147483647:=by
 rw [bd (show [D.rol (ns.map .int),D.int k].length=2 from rfl)]
 have hst:aA N [D.rol (ns.map .int),D.int k]=[some (D.rol (ns.map .int)),some (.int k),none,none]:=by simp [aA,hN,List.replicate]
 rw [hst]
 have hmx:0<(if (ns.length:Int)>1 then (ns.length:Int) else 1):=by split <;> omega
 obtain⟨v,hv⟩:=hc S (k % (if (ns.length:Int)>1 then (ns.length:Int) else 1)) (Int.emod_nonneg _ (by omega))
 obtain⟨q,hq,q0⟩:=hf S
 have e1:∀ S x,ls S (.int x) (.int 2147483629)=some (.int (x % 2147483629)):=fun _ _=>jn (by decide)
 have e2:∀ S x,ls S (.int x) (.int 2147483647)=some (.int (x % 2147483647)):=fun _ _=>jn (by decide)
 have e3:∀ S x,ls S (.int x) (.int q)=some (.int (x % q)):=fun _ _=>jn q0
 have p1:∀ S,cH S (.int 7919) (.int k)=some (.int (7919 * k)):=fun _=>jm (pJ (by decide) (by decide))
 have p2:∀ S,cH S (.int (7919 * k)) (.int k)=some (.int (7919 * k * k)):=fun _=>jm (xP (by omega) (by omega))
 have p3:∀ S x,cH S (.int x) (.int 48271)=some (.int (x * 48271)):=fun _ _=>jm (xP (by decide) (by decide))
 have p4:∀ S x,cH S (.int x) (.int 39373)=some (.int (x * 39373)):=fun _ _=>jm (xP (by decide) (by decide))
 have p5:∀ S,cH S (.int 7) (.int k)=some (.int (7 * k)):=fun _=>jm (pJ (by decide) (by decide))
 have pw:∀ S,vh S (.int 10) (.int 18)=some (.int 1000000000000000000):=fun S=>by
  have h:=KE (S:=S) (i:=10) (j:=18) (by decide +kernel)
  rwa [show (10:Int) ^ (18:Int).toNat=1000000000000000000 by decide +kernel] at h
 have hb:∀ x:Int,0<=x % 2147483629/\x % 2147483629<2147483647:=fun x=>⟨Int.emod_nonneg _ (by decide),by have:=Int.emod_lt_of_pos x (show (0:Int)<2147483629 by decide);omega⟩
 have kl:∀ S x y,tF ([.int x,.int y,.int 0],S)=some (.ref S.length,S++[.lst [.int x,.int y,.int 0]]):=fun _ _ _=>mf (by simp)
 by_cases h:v<1000000000000000000
 ·refine⟨0 % q,(((v % 2147483629+7919 * k * k+11) * 48271 % 2147483647) * 39373+7 * k+1) % 2147483629,?_,Int.emod_nonneg _ (by omega),(hb _).1,(hb _).2⟩
  simp [-Int.zero_emod,rE,jn hmx,hv,e1,e2,e3,p1,p2,p3,p4,p5,pw,h,hq,kl]
 ·refine⟨v % q,(((v % 2147483629+7919 * k * k+11) * 48271 % 2147483647) * 39373+7 * k+1) % 2147483629,?_,Int.emod_nonneg _ (by omega),(hb _).1,(hb _).2⟩
  simp [rE,jn hmx,hv,e1,e2,e3,p1,p2,p3,p4,p5,pw,h,hq,kl]
theorem Bb{tg:MG}{p:MS}(I:bm->ac->Prop):∀ (xs:List D),(∀ d∈xs,∀ env S,I env S->∃ env1 S1 env2 S2,tg d env S=some (env1,S1)/\p env1 S1=some (.nx env2 S2)/\I env2 S2) ->
  ∀ env S,I env S->∃ env' S',cE tg p xs env S=some (.nx env' S')/\I env' S'
 | [],_,env,S,h=>⟨env,S,rfl,h⟩
 | d::xs,hs,env,S,h=>by
  obtain⟨env1,S1,env2,S2,e1,e2,h2⟩:=hs d List.mem_cons_self env S h
  obtain⟨env',S',e3,h3⟩:=Bb I xs (fun d hd=>hs d (List.mem_cons_of_mem _ hd)) env2 S2 h2
  exact⟨env',S',by rw [fF,e1,ob,nY,e2,ob,mU,e3],h3⟩
theorem Cs{lo:Int}{n:Nat}{d:D}(h:d∈bW lo n):∃ i:Nat,i<n/\d=.int (lo+(i:Int)):=by
 obtain⟨i,hi⟩:=List.mem_iff_getElem?.mp h
 exact⟨i,sj lo n i d hi⟩
noncomputable def nr:D->Bool
 | .ref _=>false
 | _=>true
end MI
namespace MI
open PySem PySem.Spec PyProof.Rows L2 M
noncomputable abbrev PF:=List D->ac->Option (D×ac)
def qj(pick:PF):Prop:=∀ (S:ac) (r:Nat) (m:Int),Pk S r->0<m->m<1073741824->∃ q S',pick [.ref r,.int m] S=some (.int q,S')/\0<=q/\q<m/\Pk S' r/\(∀ j,j≠r->S'[j]?=S[j]?)/\S'.length=S.length
def yk(pick:PF):MS:=
 az (aH (au aw (dM (aa (mC (.str "rows")) (aa (mC (.str "readers")) (aa (mC (.str "writers")) (aa (mC (.str "turns")) (aa (mC (.str "passes")) (ag))))))) (ak 2 pick (aa (ab 0) (aa (mC (.int 5)) (ag))))) (ah 1)) (az (aH (au aw (dM (aa (mC (.int 0)) (aa (mC (.int 0)) (aa (mC (.int 1)) (aa (mC (.int 2)) (aa (mC (.int 3)) (aa (mC (.int 5)) (ag)))))))) (ak 2 pick (aa (ab 0) (aa (mC (.int 6)) (ag))))) (ah 2)) (az (aH (au cH (au aw (dM (aa (mC (.int 0)) (aa (mC (.int 1)) (aa (mC (.int 2)) (aa (mC (.int 9)) (ag)))))) (ak 2 pick (aa (ab 0) (aa (mC (.int 4)) (ag))))) (bf (aM kM) (aa (au bT (ab 1) (mC (.str "passes"))) (ag)))) (ah 3)) (aU (aT (aa (ab 1) (aa (ab 2) (aa (ab 3) (aa (ak 2 pick (aa (ab 0) (aa (mC (.int 2)) (ag)))) (ag)))))))))
theorem Pe{q:Int}(h0:0<=q)(h1:q<6):∃ i:Int,lA [D.int 0,D.int 0,D.int 1,D.int 2,D.int 3,D.int 5] q=some (.int i)/\0<=i/\i<=5:=by
 obtain rfl | rfl | rfl | rfl | rfl | rfl:q=0\/q=1\/q=2\/q=3\/q=4\/q=5:=by omega
 all_goals exact⟨_,rfl,by decide,by decide⟩
theorem LZ{q:Int}(h0:0<=q)(h1:q<4):∃ i:Int,lA [D.int 0,D.int 1,D.int 2,D.int 9] q=some (.int i)/\0<=i/\i<=9:=by
 obtain rfl | rfl | rfl | rfl:q=0\/q=1\/q=2\/q=3:=by omega
 all_goals exact⟨_,rfl,by decide,by decide⟩
noncomputable def dG:List D:=[.str "out",.str "out",.str "out",.str "reads",.str "reads",.str "rising",.str "writes",.str "raised"]
theorem GT{tg:MG}{p:MS}{lo:Int}(I:Nat->bm->ac->Prop)(n:Nat)(step:∀ i,i<n->∀ env S,I i env S->∃ env1 S1 env2 S2,tg (.int (lo+(i:Int))) env S=some (env1,S1)/\p env1 S1=some (.nx env2 S2)/\I (i+1) env2 S2) :
  ∀ env S,I 0 env S->∃ env' S',cE tg p (bW lo n) env S=some (.nx env' S')/\I n env' S':=by
 have gen:∀ (m k:Nat),k+m=n->∀ env S,I k env S->∃ env' S',cE tg p ((List.range' k m).map fun(i:Nat)=>D.int (lo+(i:Int))) env S=some (.nx env' S')/\I n env' S':=by
  intro m
  induction m with
  | zero=>exact fun k hk env S h=>⟨env,S,rfl,by rw [<- hk];exact h⟩
  | succ m ih=>
   intro k hk env S h
   obtain⟨env1,S1,env2,S2,e1,e2,h2⟩:=step k (by omega) env S h
   obtain⟨env',S',e3,h3⟩:=ih (k+1) (by omega) env2 S2 h2
   refine⟨env',S',?_,h3⟩
   rw [List.range'_succ,List.map_cons,fF,e1,ob,nY,e2,ob,mU,e3]
 intro env S h
 have:=gen n 0 (by omega) env S h
 unfold bW
 rw [List.range_eq_range']
 exact this
def EntOk(n:Int)(xs:List D)(d:D):Prop:=∃ (g:Int) (w:Str) (m:Int) (t:D),d=.tup [.int g,.str w,.int m,t]/\0<=g/\g<n/\(w = "read"\/w = "write")/\0<=m/\m<=999/\(t=.non\/∃ k,t=.int k/\1<=k/\k<=9)/\lA xs g=some (.str "out")
theorem EntOk.up{n n':Int}{xs:List D}{d:D}(h:EntOk n xs d)(hn:n<=n'):EntOk n' xs d:=by
 obtain⟨g,w,m,t,e,h0,h1,r⟩:=h
 exact⟨g,w,m,t,e,h0,by omega,r⟩
theorem GN{α:Type}(xs:List α)(i:Int)(y:α):(jX xs i y).Perm (y::xs):=by
 unfold jX
 refine List.perm_middle.trans ?_
 rw [List.take_append_drop]
theorem KI{S:ac}{q:Nat}{xs:List D}(h:S[q]?=some (.lst xs)):aM fK [.ref q] S=some (.int xs.length,S):=by
 have e:gN S (.ref q)=some xs:=by simp only [gN,h]
 show ((gN S (.ref q)).bind _).bind _=_
 rw [e];rfl
theorem pX{S:ac}{g:List D->D}{q:Nat}{xs:List D}(h:S[q]?=some (.lst xs)):aM (cj g) [.ref q] S=some (g xs,S):=by
 have e:gN S (.ref q)=some xs:=by simp only [gN,h]
 show ((gN S (.ref q)).bind _).bind _=_
 rw [e];rfl
theorem si(lo:Int)(n:Nat):(bW lo n).length=n:=by unfold bW;simp
end MI
namespace MI
open PySem PySem.Spec PyProof.Rows L2 M
def Db(x:Str):Prop:=x = "rows"\/x = "readers"\/x = "writers"\/x = "turns"\/x = "passes"
theorem Pd{q:Int}(h0:0<=q)(h1:q<5):∃ x:Str,lA [D.str "rows",D.str "readers",D.str "writers",D.str "turns",D.str "passes"] q=some (.str x)/\Db x:=by
 obtain rfl | rfl | rfl | rfl | rfl:q=0\/q=1\/q=2\/q=3\/q=4:=by omega
 ·exact⟨_,rfl,.inl rfl⟩
 ·exact⟨_,rfl,.inr (.inl rfl)⟩
 ·exact⟨_,rfl,.inr (.inr (.inl rfl))⟩
 ·exact⟨_,rfl,.inr (.inr (.inr (.inl rfl)))⟩
 ·exact⟨_,rfl,.inr (.inr (.inr (.inr rfl)))⟩
def Keep(r:Nat)(S S':ac):Prop:=(∀ j,j≠r->S'[j]?=S[j]?)/\S'.length=S.length
theorem Keep.trans{r:Nat}{S S' S'':ac}(h:Keep r S S')(h':Keep r S' S''):Keep r S S'':=⟨fun j z=>(h'.1 j z).trans (h.1 j z),h'.2.trans h.2⟩
theorem Keep.refl{r:Nat}{S:ac}:Keep r S S:=⟨fun _ _=>rfl,rfl⟩
structure TQ(x:Str)(a b c:Int):Prop where
 w:Db x
 a0:0<=a
 a5:a<=5
 b0:0<=b
 b9:b<=9
 c0:0<=c
 c1:c<=1
theorem FR{pick:PF}(hp:qj pick){S:ac}{r:Nat}{N:List Str}(hN:N.length=4)(h:Pk S r):∃ x a b c S',aO N (yk pick) 1 [.ref r] S=some (.tup [.str x,.int a,.int b,.int c],S')/\TQ x a b c/\Pk S' r/\Keep r S S':=by
 have hst:aA N [D.ref r]=[some (.ref r),none,none,none]:=by simp [aA,hN,List.replicate]
 rw [bd (show [D.ref r].length=1 from rfl),hst]
 obtain⟨q1,S1,e1,l1,g1,P1,K1⟩:=hp _ _ 5 h (by decide) (by decide)
 obtain⟨q2,S2,e2,l2,g2,P2,K2⟩:=hp _ _ 6 P1 (by decide) (by decide)
 obtain⟨q3,S3,e3,l3,g3,P3,K3⟩:=hp _ _ 4 P2 (by decide) (by decide)
 obtain⟨q4,S4,e4,l4,g4,P4,K4⟩:=hp _ _ 2 P3 (by decide) (by decide)
 obtain⟨x,i1,wx⟩:=Pd l1 g1
 obtain⟨a,i2,a0,a5⟩:=Pe l2 g2
 obtain⟨b,i3,b0,b9⟩:=LZ l3 g3
 have k1:∀ S,kA ([D.str "rows",D.str "readers",D.str "writers",D.str "turns",D.str "passes"],S)=some (.lst [D.str "rows",D.str "readers",D.str "writers",D.str "turns",D.str "passes"],S):=fun S=>cR (by simp)
 have k2:∀ S,kA ([D.int 0,D.int 0,D.int 1,D.int 2,D.int 3,D.int 5],S)=some (.lst [D.int 0,D.int 0,D.int 1,D.int 2,D.int 3,D.int 5],S):=fun S=>cR (by simp)
 have k3:∀ S,kA ([D.int 0,D.int 1,D.int 2,D.int 9],S)=some (.lst [D.int 0,D.int 1,D.int 2,D.int 9],S):=fun S=>cR (by simp)
 have k4:∀ S (a b c d:D),cr ([a,b,c,d],S)=some (.tup [a,b,c,d],S):=fun S a b c d=>aV (by simp)
 have m1:∀ S (z:Bool),cH S (.int b) (.int (if z=true then 1 else 0))=some (.int (b * (if z=true then 1 else 0))):=fun S z=>jm (pJ (by omega) (by omega))
 refine⟨x,a,b * (if (x == ("passes":Str))=true then 1 else 0),q4,S4,?_,⟨wx,a0,a5,by split <;> omega,by split <;> omega,l4,by omega⟩,P4,Keep.trans K1 (Keep.trans K2 (Keep.trans K3 K4))⟩
 simp [-beq_iff_eq,yk,k1,k2,k3,k4,e1,e2,e3,e4,i1,i2,i3,m1]
def ll(F:PF):MS:=
 az (bC (cV (dN "dict" (ab 1))) (az (bC (fC (dQ (cV (dN "dict" (ab 0)))) (av (au gK (bf (aM fK) (aa (ab 0) (ag))) (bf (aM fK) (aa (ab 1) (ag)))))) (aU (mC (.bl false))) (aY)) (az (aH (iw) (ah 2)) (aU (bf (aM yE) (aa (bJ (cY (ab 1)) (ah 0) (bX) (dm (au on (ab 0) (ab 2)) (dm (ak 2 F (aa (au aw (ab 3) (ab 0)) (aa (ab 0) (ag)))) (ak 2 F (aa (au aw (ab 2) (ab 0)) (aa (au aw (ab 1) (ab 0)) (ag)))))) [none,some 1,some 0,some 2]) (ag)))))) (aY)) (az (bC (fC (cV (dN "list" (ab 1))) (cV (dN "tuple" (ab 1)))) (az (bC (fC (av (au gK (dN "list" (ab 0)) (dN "list" (ab 1)))) (av (au gK (dN "tuple" (ab 0)) (dN "tuple" (ab 1))))) (aU (mC (.bl false))) (aY)) (aU (dm (au bT (bf (aM fK) (aa (ab 0) (ag))) (bf (aM fK) (aa (ab 1) (ag)))) (bf (aM yE) (aa (bJ (nT (aa (ab 0) (aa (ab 1) (ag)))) (aZ 2 (af (ah 0) (af (ah 1) (aK)))) (bX) (ak 2 F (aa (ab 0) (aa (ab 1) (ag)))) [none,none]) (ag)))))) (aY)) (az (bC (av (au ug (ab 1) (mC .non))) (aU (au ug (ab 0) (mC .non))) (aY)) (az (bC (cV (dN "str" (ab 1))) (aU (dm (dN "str" (ab 0)) (au bT (ab 0) (ab 1)))) (aY)) (az (bC (fC (cV (dN "bool" (ab 1))) (cV (dN "bool" (ab 0)))) (aU (dm (dN "bool" (ab 0)) (dm (dN "bool" (ab 1)) (au bT (ab 0) (ab 1))))) (aY)) (aU (dm (dN "int" (ab 0)) (au bT (ab 0) (ab 1))))))))
noncomputable def cO:Nat->D->Bool
 | 0,_=>false
 | _+1,.non=>true
 | _+1,.bl _=>true
 | _+1,.int _=>true
 | _+1,.str _=>true
 | j+1,.tup xs=>decide (xs.length<=1000)&&xs.all (cO j)
 | _+1,_=>false
theorem SF{S:ac}{d:D}{j:Nat}(h:cO j d=true):kL "dict" S d=some (.bl false)/\kL "list" S d=some (.bl false):=by
 cases j with
 | zero=>cases h
 | succ j=>cases d <;> first | exact⟨rfl,rfl⟩ | (exfalso;simp [cO] at h)
theorem nz:∀ xs:List D,(jQ xs xs).length=xs.length
 | []=>rfl
 | x::r=>by rw [Ic,List.length_cons,List.length_cons,nz r]
theorem pA:∀ n:Nat,lz (List.replicate n (D.bl true))=some (List.replicate n true)
 | 0=>rfl
 | n+1=>by
  rw [List.replicate_succ,List.replicate_succ]
  have:=pA n
  simp only [lz,this];rfl
theorem Sz{S:ac}{k l:Bool}:gK S (.bl k) (.bl l)=some (.bl (!(k == l))):=qa (by simp [cB]) (by simp [cB])
theorem IM{F:PF}{S:ac}{t1 t2:Option D}:∀ (xs:List D) (a b:Option D),(∀ d∈xs,F [d,d] S=some (.bl true,S))->dh (aZ 2 (af (ah 0) (af (ah 1) (aK)))) (bX) (ak 2 F (aa (ab 0) (aa (ab 1) (ag)))) (jQ xs xs) [a,b] S=some (List.replicate xs.length (.bl true),S)
 | [],a,b,_=>by simp
 | x::r,a,b,h=>by
  have h1:=h x (by simp)
  have h2:=IM (t1:=t1) (t2:=t2) r (some x) (some x) fun d hd=>h d (List.mem_cons_of_mem _ hd)
  rw [Ic,gb]
  simp [h1,h2,List.replicate_succ]
theorem zC{R:Nat->PF}{N:List Str}(hN:N.length=3)(hR:∀ j,R (j+1)=aO N (ll (R j)) 2){S:ac}:∀ (j:Nat) (d:D),cO j d=true->R j [d,d] S=some (.bl true,S)
 | 0,d,h=>by cases d <;> cases h
 | j+1,d,h=>by
  have hst:aA N [d,d]=[some d,some d,none]:=by simp [aA,hN,List.replicate]
  rw [hR,bd (show [d,d].length=2 from rfl),hst]
  obtain⟨i1,i2⟩:=SF (S:=S) h
  cases d with
  | tup xs=>
   have hx:xs.length<=1000/\xs.all (cO j)=true:=by simpa [cO] using h
   have it:kL "tuple" S (.tup xs)=some (.bl true):=rfl
   have hl:=IM (F:=R j) (S:=S) (t1:=none) (t2:=none) xs none none fun d hd=>zC hN hR j d (List.all_eq_true.mp hx.2 d hd)
   have kc:mn (aZ 2 (af (ah 0) (af (ah 1) (aK)))) (bX) (ak 2 (R j) (aa (ab 0) (aa (ab 1) (ag)))) [none,none] [some (.tup xs),some (.tup xs),none] (jQ xs xs,S)=some (.lst (List.replicate xs.length (.bl true)),S):=by
    rw [je (by rw [nz];exact hx.1)]
    show (dh _ _ _ (jQ xs xs) [none,none] S).bind _=_
    rw [hl];rfl
   have fa:aM yE [.lst (List.replicate xs.length (D.bl true))] S=some (.bl true,S):=by
    rw [KO (pA _)];simp
   simp [ll,i1,i2,it,Sz,kc,fa]
  | non=>simp [ll,i1,i2,show kL "tuple" S .non=some (.bl false) from rfl,lm]
  | bl k=>simp [ll,i1,i2,show kL "tuple" S (.bl k)=some (.bl false) from rfl,show kL "str" S (.bl k)=some (.bl false) from rfl,show kL "bool" S (.bl k)=some (.bl true) from rfl,lm]
  | int i=>simp [ll,i1,i2,show kL "tuple" S (.int i)=some (.bl false) from rfl,show kL "str" S (.int i)=some (.bl false) from rfl,show kL "bool" S (.int i)=some (.bl false) from rfl,show kL "int" S (.int i)=some (.bl true) from rfl,lm]
  | str x=>simp [ll,i1,i2,show kL "tuple" S (.str x)=some (.bl false) from rfl,show kL "str" S (.str x)=some (.bl true) from rfl,lm]
  | lst _=>simp [cO] at h
  | rol _=>simp [cO] at h
  | dct _ _=>simp [cO] at h
  | ref _=>simp [cO] at h
theorem jO{S:ac}{c:vp}:(S++[c])[S.length]?=some c:=by simp
theorem Fu{S:ac}{c d:vp}:(S++[c]).set S.length d=S++[d]:=by
 rw [List.set_append,if_neg (Nat.lt_irrefl _)];simp
end MI
namespace MI
open PySem PySem.Spec PyProof.Rows L2 M
inductive Wd where | out | reads | rising | writes | raised
deriving DecidableEq
noncomputable def Wd.s:Wd->Str
 | .out=>"out"
 | .reads=>"reads"
 | .rising=>"rising"
 | .writes=>"writes"
 | .raised=>"raised"
theorem Wd.eq(a b:Wd):(a.s == b.s)=decide (a=b):=by cases a <;> cases b <;> decide +kernel
structure En where
 g:Nat
 wr:Bool
 m:Int
 t:Option Int
noncomputable def bo(b:Bool):Str:=if b then "write" else "read"
theorem ou(b:Bool):(bo b == ("write":Str))=b:=by cases b <;> decide +kernel
theorem rg(b:Bool):(bo b == ("read":Str)) = !b:=by cases b <;> decide +kernel
noncomputable def bA:Option Int->D
 | none=>.non
 | some k=>.int k
def En.d(e:En):D:=.tup [.int (e.g:Nat),.str (bo e.wr),.int e.m,bA e.t]
noncomputable abbrev Rm:=List Wd×List En
def Wd.d(w:Wd):D:=.str w.s
def cm(ws:List Wd):D:=.tup (ws.map Wd.d)
def bZ(es:List En):D:=.tup (es.map En.d)
def aP(R:Rm):D:=.tup [cm R.1,bZ R.2]
inductive Rw where | rows | readers | writers | turns | passes
deriving DecidableEq
noncomputable def Rw.s:Rw->Str
 | .rows=>"rows"
 | .readers=>"readers"
 | .writers=>"writers"
 | .turns=>"turns"
 | .passes=>"passes"
theorem Rw.eq(a b:Rw):(a.s == b.s)=decide (a=b):=by cases a <;> cases b <;> decide +kernel
structure Rl where
 w:Rw
 a:Int
 b:Int
 c:Int
def Rl.d(r:Rl):D:=.tup [.str r.w.s,.int r.a,.int r.b,.int r.c]
structure Rl.Ok(r:Rl):Prop where
 a0:0<=r.a
 a5:r.a<=5
 b0:0<=r.b
 b9:r.b<=9
 c0:0<=r.c
 c1:r.c<=1
theorem GL{x:Str}(h:Db x):∃ w:Rw,x=w.s:=by
 rcases h with rfl | rfl | rfl | rfl | rfl
 ·exact⟨.rows,rfl⟩
 ·exact⟨.readers,rfl⟩
 ·exact⟨.writers,rfl⟩
 ·exact⟨.turns,rfl⟩
 ·exact⟨.passes,rfl⟩
section
variable{α:Type}{enc:α->D}{p:α->Bool}{f:α->D}{t:MT}{e:ME}{rest:bm}{S:ac}
theorem Qc:∀ (xs:List α) (a:Option D),(∀ x∈xs,t (some (enc x)::rest) S=some (p x,S))->(∀ x∈xs,p x=true->e (some (enc x)::rest) S=some (f x,S))->dh (ah 0) t e (xs.map enc) (a::rest) S=some ((xs.filter p).map f,S)
 | [],a,_,_=>by simp
 | x::r,a,h,h2=>by
  have ih:=Qc r (some (enc x)) (fun y hy=>h y (List.mem_cons_of_mem _ hy)) fun y hy=>h2 y (List.mem_cons_of_mem _ hy)
  rw [List.map_cons,gb,aN,ob,el,tL,h x (by simp),ob]
  cases hp:p x with
  | true=>rw [tK,h2 x (by simp) hp,ob,tJ,ih,ob,tI,List.filter_cons_of_pos hp,List.map_cons]
  | false=>rw [Da,ih,List.filter_cons_of_neg (by simp [hp])]
theorem eR{cap:List (Option Nat)}{env:bm}{a:Option D}{xs:List α}(hc:ut cap env=a::rest)(hl:xs.length<=1000)(h:∀ x∈xs,t (some (enc x)::rest) S=some (p x,S))(h2:∀ x∈xs,p x=true->e (some (enc x)::rest) S=some (f x,S)) :
  mn (ah 0) t e cap env (xs.map enc,S)=some (.lst ((xs.filter p).map f),S):=by
 rw [je (by rw [List.length_map];exact hl),hc,Qc xs a h h2,ob,kD]
theorem Qb:∀ (xs:List α) (k:Nat) (a b:Option D),(∀ i x,xs[i]?=some x->t (some (.int ((k+i:Nat):Int))::some (enc x)::rest) S=some (p x,S))->dh (aZ 2 (af (ah 0) (af (ah 1) (aK)))) t (ab 0) (fg k (xs.map enc)) (a::b::rest) S=some (((xs.zipIdx k).filter fun q=>p q.1).map fun q=>.int (q.2:Int),S)
 | [],k,a,b,_=>by simp [fg]
 | x::r,k,a,b,h=>by
  have ih:=Qb r (k+1) (some (.int (k:Int))) (some (enc x)) (fun i y hy=>by
   have:=h (i+1) y (by simpa using hy)
   rw [show k+(i+1)=k+1+i by omega] at this
   exact this)
  have h0:=h 0 x rfl
  rw [Nat.add_zero] at h0
  rw [List.map_cons,fg,gb,cw,bB,aN,ob,el,cS,bB,aN,ob,eQ,el,cS,bV,ob,tL,h0,ob,List.zipIdx_cons]
  cases hp:p x with
  | true=>
   rw [tK,ai,bF,oj,ob,aj,ob,tJ,ih,ob,tI,List.filter_cons_of_pos (p:=fun q:α×Nat=>p q.1) (a:=(x,k)) hp,List.map_cons]
  | false=>rw [Da,ih,List.filter_cons_of_neg (p:=fun q:α×Nat=>p q.1) (a:=(x,k)) (by simp [hp])]
theorem yo{cap:List (Option Nat)}{env:bm}{a b:Option D}{xs:List α}(hc:ut cap env=a::b::rest)(hl:xs.length<=1000)(h:∀ (i:Nat) x,xs[i]?=some x->t (some (.int (i:Int))::some (enc x)::rest) S=some (p x,S)) :
  mn (aZ 2 (af (ah 0) (af (ah 1) (aK)))) t (ab 0) cap env (fg 0 (xs.map enc),S)=some (.lst ((xs.zipIdx.filter fun q=>p q.1).map fun q=>.int (q.2:Int)),S):=by
 rw [je (by rw [mY,List.length_map];exact hl),hc,Qb xs 0 a b (fun i x hx=>by rw [Nat.zero_add];exact h i x hx),ob,kD]
end
theorem Ma{α:Type}{xs:List α}{i:Nat}{x:α}(h:xs[i]?=some x):lA xs (i:Int)=some x:=by
 have hl:=(List.getElem?_eq_some_iff.mp h).1
 rw [Mb (by omega) (by omega)]
 rw [List.getElem?_eq_some_iff] at h
 obtain⟨_,h⟩:=h
 simpa using h
theorem at4(x a b c:D):lA [x,a,b,c] 0=some x/\lA [x,a,b,c] 1=some a/\lA [x,a,b,c] 2=some b/\lA [x,a,b,c] 3=some c:=⟨rfl,rfl,rfl,rfl⟩
theorem at2(x a:D):lA [x,a] 0=some x/\lA [x,a] 1=some a:=⟨rfl,rfl⟩
section
variable{S:ac}{e:En}{r:Rl}{R:Rm}
theorem En.ix0:aw S e.d (.int 0)=some (.int (e.g:Nat)):=rfl
theorem En.ix1:aw S e.d (.int 1)=some (.str (bo e.wr)):=rfl
theorem En.ix2:aw S e.d (.int 2)=some (.int e.m):=rfl
theorem En.ix3:aw S e.d (.int 3)=some (bA e.t):=rfl
theorem Rl.ix0:aw S r.d (.int 0)=some (.str r.w.s):=rfl
theorem Rl.ix1:aw S r.d (.int 1)=some (.int r.a):=rfl
theorem Rl.ix2:aw S r.d (.int 2)=some (.int r.b):=rfl
theorem Rl.ix3:aw S r.d (.int 3)=some (.int r.c):=rfl
theorem Rm.ix0:aw S (aP R) (.int 0)=some (cm R.1):=rfl
theorem Rm.ix1:aw S (aP R) (.int 1)=some (bZ R.2):=rfl
theorem rM{ws:List Wd}{i:Nat}{w:Wd}(h:ws[i]?=some w):aw S (cm ws) (.int (i:Int))=some w.d:=by
 show lA (ws.map Wd.d) (i:Int)=_
 exact Ma (by rw [List.getElem?_map,h];rfl)
theorem Lk{es:List En}{i:Nat}{e:En}(h:es[i]?=some e):aw S (bZ es) (.int (i:Int))=some e.d:=by
 show lA (es.map En.d) (i:Int)=_
 exact Ma (by rw [List.getElem?_map,h];rfl)
end
theorem IN{n d i:Nat}:HT.eJ n d (some (i:Int))=min i n:=by
 show (if (i:Int)<0 then ((i:Int)+(n:Int)).toNat else min (i:Int).toNat n)=_
 rw [if_neg (by omega),Int.toNat_natCast]
theorem IO{n d:Nat}:HT.eJ n d none=d:=rfl
theorem HC{α:Type}(xs:List α)(i:Nat)(h:i<=xs.length):iz xs none (some (i:Int))=xs.take i:=by
 unfold iz
 rw [IN,IO,Nat.min_eq_left h];simp
theorem mZ{α:Type}(xs:List α)(i:Nat)(h:i<=xs.length):iz xs (some (i:Int)) none=xs.drop i:=by
 unfold iz
 rw [IN,IO,Nat.min_eq_left h,List.take_of_length_le (by simp)]
def CP:MS:=aU (au aR (au aR (bD (ab 0) (bE) (cb (ab 1))) (aT (aa (ab 2) (ag)))) (bD (ab 0) (cb (au aR (ab 1) (mC (.int 1)))) (bE)))
theorem II{α:Type}(xs:List α)(i:Nat)(h:i<xs.length)(x:α):xs.take i++[x]++xs.drop (i+1)=xs.set i x:=by
 rw [List.set_eq_take_append_cons_drop,if_pos h];simp
theorem ML{N:List Str}(hN:N.length=3){S:ac}{ws:List Wd}{i:Nat}{w:Wd}(h:i<ws.length)(hl:ws.length<=100):aO N CP 3 [cm ws,.int (i:Int),w.d] S=some (cm (ws.set i w),S):=by
 have hst:aA N [cm ws,D.int (i:Int),w.d]=[some (cm ws),some (.int (i:Int)),some w.d]:=by simp [aA,hN]
 rw [bd (show [cm ws,D.int (i:Int),w.d].length=3 from rfl),hst]
 have k1:cr ([w.d],S)=some (.tup [w.d],S):=aV (by simp)
 have c1:iz (ws.map Wd.d) none (some (i:Int))=(ws.take i).map Wd.d:=by rw [HC _ _ (by rw [List.length_map];omega),List.map_take]
 have c2:iz (ws.map Wd.d) (some ((i:Int)+1)) none=(ws.drop (i+1)).map Wd.d:=by
  rw [show ((i:Int)+1)=((i+1:Nat):Int) by omega,mZ _ _ (by rw [List.length_map];omega),List.map_drop]
 have a1:aR S (.tup ((ws.take i).map Wd.d)) (.tup [w.d])=some (.tup ((ws.take i).map Wd.d++[w.d])):=gC (by simp;omega)
 have a2:aR S (.tup ((ws.take i).map Wd.d++[w.d])) (.tup ((ws.drop (i+1)).map Wd.d))=some (.tup ((ws.take i).map Wd.d++[w.d]++(ws.drop (i+1)).map Wd.d)):=gC (by simp;omega)
 have e:(ws.take i).map Wd.d++[w.d]++(ws.drop (i+1)).map Wd.d=(ws.set i w).map Wd.d:=by
  rw [<- II ws i h w];simp
 rw [e] at a2
 simp only [CP,cm,aW,aE,cJ,ai,bF,bL,bM,oj,ob,aj,fI,cQ,fH,dl,dq,lY,c1,aq,bg,ao,am,ay,al,k1,ar,a1,bb,jp,c2,a2,bp,aG]
end MI
namespace MI
open PySem PySem.Spec PyProof.Rows L2 M
section
variable{S:ac}{ws:List Wd}{es:List En}{ms:MA}{env:bm}
theorem SL(a b:Wd):jC a.d b.d=decide (a=b):=Wd.eq a b
theorem Ny{n:Nat}:((ws.map Wd.d).all (cB n))=true:=by
 rw [List.all_eq_true];intro d hd;obtain⟨w,_,rfl⟩:=List.mem_map.mp hd;cases n <;> rfl
theorem wP(w:Wd):fz (cm ws) [w.d] S=some (.int (ws.count w:Nat),S):=by
 have h:=Hb (S:=S) (x:=w.d) (xs:=ws.map Wd.d) rfl Ny
 rw [show cm ws=.tup (ws.map Wd.d) from rfl,h]
 congr 4
 rw [List.countP_map]
 apply List.countP_congr
 intro a _
 simp [SL]
theorem oq:NQ ms env (cm ws,S)=(ms env S).bind (dX fz (cm ws)):=rfl
theorem wO:aM fK [cm ws] S=some (.int (ws.length:Nat),S):=by
 rw [show cm ws=.tup (ws.map Wd.d) from rfl,Dl,List.length_map]
theorem Lj:aM fK [bZ es] S=some (.int (es.length:Nat),S):=by
 rw [show bZ es=.tup (es.map En.d) from rfl,Dl,List.length_map]
end
def pP(r:Rl)(ws:List Wd)(wr:Bool):Bool:=
 if ws.count .reads+ws.count .rising+ws.count .out<ws.length then false
 else if wr then decide (ws.count .reads+ws.count .rising=0)
 else decide (ws.count .rising=0)&&(decide (r.a=0)||decide (((ws.count .reads+ws.count .rising:Nat):Int)<r.a))
def yl:MS:=
 az (aH (au aR (ky (ab 1) (aa (mC (.str "reads")) (ag))) (ky (ab 1) (aa (mC (.str "rising")) (ag)))) (ah 3)) (az (bC (av (au Om (au aR (ab 3) (ky (ab 1) (aa (mC (.str "out")) (ag)))) (bf (aM fK) (aa (ab 1) (ag))))) (aU (mC (.bl false))) (aY)) (az (bC (av (au bT (ab 2) (mC (.str "write")))) (aU (au bT (ab 3) (mC (.int 0)))) (aY)) (aU (dm (au bT (ky (ab 1) (aa (mC (.str "rising")) (ag))) (mC (.int 0))) (vR (au bT (au aw (ab 0) (mC (.int 1))) (mC (.int 0))) (au Om (ab 3) (au aw (ab 0) (mC (.int 1)))))))))
theorem JV{N:List Str}(hN:N.length=4){S:ac}{r:Rl}{ws:List Wd}{wr:Bool}:aO N yl 3 [r.d,cm ws,.str (bo wr)] S=some (.bl (pP r ws wr),S):=by
 have hst:aA N [r.d,cm ws,D.str (bo wr)]=[some r.d,some (cm ws),some (.str (bo wr)),none]:=by simp [aA,hN,List.replicate]
 rw [bd (show [r.d,cm ws,D.str (bo wr)].length=3 from rfl),hst]
 have c1:∀ S,fz (cm ws) [.str "reads"] S=some (.int (ws.count .reads:Nat),S):=fun S=>wP .reads
 have c2:∀ S,fz (cm ws) [.str "rising"] S=some (.int (ws.count .rising:Nat),S):=fun S=>wP .rising
 have c3:∀ S,fz (cm ws) [.str "out"] S=some (.int (ws.count .out:Nat),S):=fun S=>wP .out
 unfold pP
 simp only [yl,aJ,bh,aE,JS,ai,bF,bM,bL,oj,ob,aj,oq,ao,bb,am,ay,al,gp,c1,c2,c3,aq,ar,jp,bi,aN,el,eQ,bG,aF,be,aD,bR,bS,wO,fLt_i,aB]
 by_cases h1:ws.count .reads+ws.count .rising+ws.count .out<ws.length
 ·have:decide (((ws.count Wd.reads:Nat):Int)+((ws.count Wd.rising:Nat):Int)+((ws.count Wd.out:Nat):Int)<((ws.length:Nat):Int))=true:=decide_eq_true (by omega)
  rw [this,if_pos h1];simp
 ·have:decide (((ws.count Wd.reads:Nat):Int)+((ws.count Wd.rising:Nat):Int)+((ws.count Wd.out:Nat):Int)<((ws.length:Nat):Int))=false:=decide_eq_false (by omega)
  rw [this,if_neg h1]
  cases wr with
  | true=>
   have e:(bo true == ("write":Str))=true:=ou true
   have e2:(((ws.count Wd.reads:Nat):Int)+((ws.count Wd.rising:Nat):Int) == 0)=decide (ws.count Wd.reads+ws.count Wd.rising=0):=by
    rw [Bool.eq_iff_iff];simp;omega
   simp [e,e2]
  | false=>
   have e:(bo false == ("write":Str))=false:=ou false
   have e2:(((ws.count Wd.rising:Nat):Int) == 0)=decide (ws.count Wd.rising=0):=by rw [Bool.eq_iff_iff];simp
   have e3:(r.a == 0)=decide (r.a=0):=rfl
   by_cases h2:ws.count Wd.rising=0
   ·by_cases h3:r.a=0
    ·simp [e,e2,Rl.ix1,h2,h3,oq,c2]
    ·simp [e,e2,Rl.ix1,h2,h3,oq,c2,beq_eq_false_iff_ne.mpr h3]
   ·simp [e,e2,Rl.ix1,h2,oq,c2]
theorem lT{α:Type}(xs:List α)(i:Nat):iz xs none (some (i:Int))=xs.take i:=by
 unfold iz
 rw [IN,IO];simp only [List.drop_zero,Nat.sub_zero]
 rcases Nat.le_total i xs.length with h | h
 ·rw [Nat.min_eq_left h]
 ·rw [Nat.min_eq_right h,List.take_of_length_le (Nat.le_refl _),List.take_of_length_le h]
def ni(i:Nat):D:=.int (i:Int)
def nl(l:List Nat):D:=.lst (l.map ni)
def No(a b:List Nat):List Nat:=if a=[] then b else a
def ze(p:En->Bool)(es:List En):List Nat:=(es.zipIdx.filter fun q=>p q.1).map (·.2)
theorem oa{p:En->Bool}{es:List En}{i:Nat}(h:i∈ze p es):i<es.length:=by
 unfold ze at h
 obtain⟨q,hq,rfl⟩:=List.mem_map.mp h
 have:=(List.mem_filter.mp hq).1
 have:=List.snd_lt_of_mem_zipIdx this
 omega
theorem GH{es:List En}:ze (fun _=>false) es=[]:=by unfold ze;simp
theorem Jx{p:En->Bool}{es:List En}:D.lst ((es.zipIdx.filter fun q=>p q.1).map fun q=>.int (q.2:Int))=nl (ze p es):=by
 unfold nl ze ni;rw [List.map_map];rfl
theorem RU{b:ME}{env:bm}{S:ac}{l:List Nat}:Py b env (nl l,S)=if l=[] then b env S else some (nl l,S):=by
 cases l with
 | nil=>rfl
 | cons _ _=>rw [if_neg (by simp)];exact kOr_c
theorem RO{S:ac}{l:List Nat}{n:Nat}:jE (nl l) none (some (n:Int),S)=some (nl (l.take n),S):=by
 unfold nl;rw [RP,lT,List.map_take]
theorem sI(n:Nat):D.lst (bW 0 n)=nl (List.range n):=by
 unfold bW nl ni;congr 1;apply List.map_congr_left;intro i _;rw [Int.zero_add]
theorem NO{S:ac}{l:List Nat}:CW (nl l,S)=some (l.map ni,S):=rfl
def Ba(r:Rl)(es:List En):List Nat:=match r.w with
 | .rows=>(List.range es.length).take 1
 | .readers=>(No (ze (fun e=>!e.wr) es) (ze (fun e=>e.wr) es)).take 1
 | .passes=>(List.range es.length).filter fun i=>decide (jR (0::(es.take i).map fun e=>e.m+1)<=r.b)
 | .turns=>(No (ze (fun e=>decide (e.m=1)) es) (No (ze (fun e=>e.wr) es) (ze (fun e=>!e.wr) es))).take 1
 | .writers=>(No (ze (fun e=>e.wr) es) (ze (fun e=>!e.wr) es)).take 1
theorem pU{r:Rl}{es:List En}{i:Nat}(h:i∈Ba r es):i<es.length:=by
 have ho:∀ {a b:List Nat},i∈No a b->i∈a\/i∈b:=fun {a b} h=>by unfold No at h;split at h <;> simp [h]
 unfold Ba at h
 split at h
 ·exact List.mem_range.mp (List.mem_of_mem_take h)
 ·exact(ho (List.mem_of_mem_take h)).elim oa oa
 ·exact List.mem_range.mp (List.mem_filter.mp h).1
 ·exact(ho (List.mem_of_mem_take h)).elim oa fun h=>(ho h).elim oa oa
 ·exact(ho (List.mem_of_mem_take h)).elim oa oa
def frR:ME:=bJ (gn (aa (ab 1) (ag))) (aZ 2 (af (ah 0) (af (ah 1) (aK)))) (av (au bT (au aw (ab 1) (mC (.int 1))) (mC (.str "read")))) (ab 0) [none,none]
def frW:ME:=bJ (gn (aa (ab 1) (ag))) (aZ 2 (af (ah 0) (af (ah 1) (aK)))) (av (au bT (au aw (ab 1) (mC (.int 1))) (mC (.str "write")))) (ab 0) [none,none]
def frT:ME:=bJ (gn (aa (ab 1) (ag))) (aZ 2 (af (ah 0) (af (ah 1) (aK)))) (cK (av (au bT (au aw (ab 2) (mC (.int 0))) (mC (.str "turns")))) (av (au bT (au aw (ab 1) (mC (.int 2))) (mC (.int 1))))) (ab 0) [none,none,some 0]
def Kv:ME:=bJ (cY (bD (ab 2) (bE) (cb (ab 0)))) (ah 0) (bX) (au aR (au aw (ab 0) (mC (.int 2))) (mC (.int 1))) [none]
def frP:ME:=bJ (bQ (aa (bf (aM fK) (aa (ab 1) (ag))) (ag))) (ah 0) (av (au On (bf (aM lG) (aa (au aR (dM (aa (mC (.int 0)) (ag))) Kv) (ag))) (au aw (ab 1) (mC (.int 2))))) (ab 0) [none,some 0,some 1]
def pQ:MS:=
 az (aH frR (ah 2)) (az (aH frW (ah 3)) (az (bC (av (au bT (au aw (ab 0) (mC (.int 0))) (mC (.str "rows")))) (aU (bD (fE (aa (bf (aM fK) (aa (ab 1) (ag))) (ag))) (bE) (cb (mC (.int 1))))) (aY)) (az (bC (av (au bT (au aw (ab 0) (mC (.int 0))) (mC (.str "readers")))) (aU (bD (vR (ab 2) (ab 3)) (bE) (cb (mC (.int 1))))) (aY)) (az (bC (av (au bT (au aw (ab 0) (mC (.int 0))) (mC (.str "passes")))) (aU frP) (aY)) (az (aH frT (ah 4)) (aU (bD (vR (ab 4) (vR (ab 3) (ab 2))) (bE) (cb (mC (.int 1))))))))))
section
variable{S:ac}{r:Rl}{es:List En}
theorem yI{ms:MA}{env:bm}:ET ([bZ es],S)=some (fg 0 (es.map En.d),S):=rfl
theorem Sq{a c d e:Option D}(hl:es.length<=100):frR [a,some (bZ es),c,d,e] S=some (nl (ze (fun e=>!e.wr) es),S):=by
 have k:=yo (S:=S) (t:=av (au bT (au aw (ab 1) (mC (.int 1))) (mC (.str "read")))) (cap:=[none,none]) (env:=[a,some (bZ es),c,d,e]) (enc:=En.d) (p:=fun e=>!e.wr) (xs:=es) rfl (by omega) (fun i x _=>by simp [En.ix1,-beq_iff_eq,rg])
 rw [Jx (p:=fun e=>!e.wr)] at k
 simp only [frR,bU,oQ,ao,ai,bF,bM,bL,oj,ob,aj,am,ay,al,yI (ms:=ag) (env:=[]),k]
theorem Sn{a c d e:Option D}(hl:es.length<=100):frW [a,some (bZ es),c,d,e] S=some (nl (ze (fun e=>e.wr) es),S):=by
 have k:=yo (S:=S) (t:=av (au bT (au aw (ab 1) (mC (.int 1))) (mC (.str "write")))) (cap:=[none,none]) (env:=[a,some (bZ es),c,d,e]) (enc:=En.d) (p:=fun e=>e.wr) (xs:=es) rfl (by omega) (fun i x _=>by simp [En.ix1,-beq_iff_eq,ou])
 rw [Jx] at k
 simp only [frW,bU,oQ,ao,ai,bF,bM,bL,oj,ob,aj,am,ay,al,yI (ms:=ag) (env:=[]),k]
theorem So{c d e:Option D}(hl:es.length<=100):frT [some r.d,some (bZ es),c,d,e] S=some (nl (ze (fun e=>decide (r.w=.turns)&&decide (e.m=1)) es),S):=by
 have hw:(r.w.s == ("turns":Str))=decide (r.w=.turns):=Rw.eq r.w .turns
 have k:=yo (S:=S) (t:=cK (av (au bT (au aw (ab 2) (mC (.int 0))) (mC (.str "turns")))) (av (au bT (au aw (ab 1) (mC (.int 2))) (mC (.int 1))))) (cap:=[none,none,some 0]) (env:=[some r.d,some (bZ es),c,d,e]) (enc:=En.d) (p:=fun e=>decide (r.w=.turns)&&decide (e.m=1)) (xs:=es) rfl (by omega) (fun i x _=>by
  cases h:decide (r.w=.turns) with
  | true=>simp [En.ix2,Rl.ix0,-beq_iff_eq,hw,h];rfl
  | false=>simp [En.ix2,Rl.ix0,-beq_iff_eq,hw,h])
 rw [Jx (p:=fun e=>decide (r.w=.turns)&&decide (e.m=1))] at k
 simp only [frT,bU,oQ,ao,ai,bF,bM,bL,oj,ob,aj,am,ay,al,yI (ms:=ag) (env:=[]),k]
theorem Oa{i:Nat}{b:Option D}(hl:es.length<=60):Kv [some (.int (i:Int)),b,some (bZ es)] S=some (.lst (((es.take i).map fun e=>e.m+1).map .int),S):=by
 have k:=eR (S:=S) (t:=bX) (e:=au aR (au aw (ab 0) (mC (.int 2))) (mC (.int 1))) (cap:=[none]) (env:=[some (.int (i:Int)),b,some (bZ es)]) (rest:=[]) (a:=none) (enc:=En.d) (p:=fun _=>true) (f:=fun e=>.int (e.m+1)) (xs:=es.take i) rfl (by simp;omega) (fun x _=>jI) (fun x _ _=>by simp [En.ix2])
 have e:jE (bZ es) none (some (i:Int),S)=some (.tup ((es.take i).map En.d),S):=by
  rw [show bZ es=.tup (es.map En.d) from rfl,lY,lT,List.map_take]
 rw [List.filter_eq_self.mpr (fun _ _=>rfl)] at k
 simp only [Kv,bU,dg,cJ,ai,bF,bM,bL,oj,ob,aj,fI,cQ,fH,dl,dq,e,Ke,k,List.map_map]
 rfl
theorem Sr{c d e:Option D}(hl:es.length<=60):frP [some r.d,some (bZ es),c,d,e] S=some (nl ((List.range es.length).filter fun i=>decide (jR (0::(es.take i).map fun e=>e.m+1)<=r.b)),S):=by
 have k:=eR (S:=S) (t:=(av (au On (bf (aM lG) (aa (au aR (dM (aa (mC (.int 0)) (ag))) Kv) (ag))) (au aw (ab 1) (mC (.int 2)))))) (e:=ab 0) (cap:=[none,some 0,some 1]) (env:=[some r.d,some (bZ es),c,d,e]) (rest:=[some r.d,some (bZ es)]) (a:=none) (enc:=ni) (p:=fun i=>decide (jR (0::(es.take i).map fun e=>e.m+1)<=r.b)) (f:=ni) (xs:=List.range es.length) rfl (by simp;omega) (fun i _=>by
  have h0:Kv [some (ni i),some r.d,some (bZ es)] S=some (.lst (((es.take i).map fun e=>e.m+1).map .int),S):=Oa hl
  have h1:kA ([.int 0],S)=some (.lst [.int 0],S):=cR (by simp)
  have h2:aR S (.lst [.int 0]) (.lst (((es.take i).map fun e=>e.m+1).map .int))=some (.lst ((0::(es.take i).map fun e=>e.m+1).map .int)):=Dm (by simp;omega)
  have h3:aM lG [.lst ((0::(es.take i).map fun e=>e.m+1).map .int)] S=some (.int (jR (0::(es.take i).map fun e=>e.m+1)),S):=Oj (by simp;omega) (by simp)
  simp only [aD,aE,bR,ao,gX,bb,ob,am,ay,al,h1,aq,h0,ar,h2,aj,bS,h3,ai,bF,bM,bL,oj,Rl.ix2,fLe_i,aB]) (fun i _ _=>by simp)
 have e1:HW ([.int (es.length:Nat)],S)=some ((List.range es.length).map ni,S):=by
  rw [jW (by omega) (by omega)]
  have:=sI es.length
  simp only [nl,D.lst.injEq] at this
  rw [Int.toNat_natCast,this]
 simp only [frP,bU,dH,ao,bR,ai,bF,bM,bL,oj,ob,aj,am,ay,al,bS,Lj,e1,k]
 rfl
theorem Dh{N:List Str}(hN:N.length=5)(hl:es.length<=60):aO N pQ 2 [r.d,bZ es] S=some (nl (Ba r es),S):=by
 have hst:aA N [r.d,bZ es]=[some r.d,some (bZ es),none,none,none]:=by simp [aA,hN,List.replicate]
 rw [bd (show [r.d,bZ es].length=2 from rfl),hst]
 have a:(es.length:Nat)<=100:=by omega
 have w1:(r.w.s == ("rows":Str))=decide (r.w=.rows):=Rw.eq r.w .rows
 have w2:(r.w.s == ("readers":Str))=decide (r.w=.readers):=Rw.eq r.w .readers
 have w3:(r.w.s == ("passes":Str))=decide (r.w=.passes):=Rw.eq r.w .passes
 have lr:CV ([.int (es.length:Nat)],S)=some (nl (List.range es.length),S):=by rw [GB (by omega) (by omega),Int.toNat_natCast,sI]
 have s1:∀ l:List Nat,jE (nl l) none (some 1,S)=some (nl (l.take 1),S):=fun l=>RO (n:=1)
 have o1:∀ (b:ME) env (l:List Nat),Py b env (nl l,S)=if l=[] then b env S else some (nl l,S):=fun b env l=>RU
 simp only [pQ,aJ,bh,Sq a,Sn a,ob,bi,aN,el,eQ,bG,aF,be,aD,aE,ai,bF,bM,bL,oj,aj,bb,aq,Rl.ix0,ar,cI,aB,w1,w2,w3]
 unfold Ba
 cases hw:r.w <;> rw [hw] at w1 w2 w3 <;> simp [cJ,JN,Lj,lr,s1,o1,Sr hl,So a,hw,No,Rl.ix0,w1,w2,w3,-beq_iff_eq]
 ·split <;> simp [s1]
 ·rw [GH,if_pos rfl];split <;> simp [s1]
 ·split
  ·split <;> simp [s1]
  ·simp [s1]
end
end MI
namespace MI
open PySem PySem.Spec PyProof.Rows L2 M
structure ROk(R:Rm):Prop where
 out:∀ e∈R.2,R.1[e.g]?=some .out
 nd:(R.2.map (·.g)).Nodup
theorem Cp:∀ (n:Nat) (l:List Nat),l.Nodup->(∀ x∈l,x<n)->l.length<=n
 | 0,l,_,h=>by cases l with | nil=>exact Nat.le_refl _ | cons x _=>exact absurd (h x (by simp)) (by omega)
 | n+1,l,hn,h=>by
  by_cases hm:n∈l
  ·have:=Cp n (l.erase n) (hn.erase n) fun x hx=>by
    have h1:=h x (List.mem_of_mem_erase hx)
    have h2:x≠n:=fun z=>by rw [z] at hx;exact(List.Nodup.not_mem_erase hn) hx
    omega
   rw [List.length_erase_of_mem hm] at this
   omega
  ·have:=Cp n l hn fun x hx=>by
    have h1:=h x hx
    have h2:x≠n:=fun z=>hm (z ▸ hx)
    omega
   omega
theorem ROk.lt{R:Rm}(h:ROk R){e:En}(he:e∈R.2):e.g<R.1.length:=(List.getElem?_eq_some_iff.mp (h.out e he)).1
theorem ROk.len{R:Rm}(h:ROk R):R.2.length<=R.1.length:=by
 have:=Cp R.1.length (R.2.map (·.g)) h.nd fun x hx=>by obtain⟨e,he,rfl⟩:=List.mem_map.mp hx;exact h.lt he
 rwa [List.length_map] at this
structure Ev where
 w:Str
 g:Nat
def Ev.d(e:Ev):D:=.tup [.str e.w,.int (e.g:Nat)]
def mL(ws:List Wd):List Nat:=(List.range ws.length).filter fun g=>decide (ws[g]?=some .rising)&&decide (ws.count .out+1=ws.length)
def lC(r:Rl)(ws:List Wd)(es:List En):List Nat:=(Ba r es).filter fun i=>match es[i]? with | some e=>pP r ws e.wr | none=>false
def pz(r:Rl)(e:En):En:={ e with m:=e.m+(if r.w=.passes then 1 else 0) }
noncomputable def qW(r:Rl)(R:Rm)(i:Nat)(e:En):Rm:=(R.1.set e.g (if e.wr then .writes else .reads),(R.2.take i).map (pz r)++R.2.drop (i+1))
noncomputable def lK(r:Rl)(R:Rm):Rm×List Ev:=match mL R.1 with
 | g::_=>((R.1.set g .raised,R.2),[⟨"steps",g⟩])
 | []=>match lC r R.1 R.2 with
  | i::_=>match R.2[i]? with
   | some e=>(qW r R i e,[⟨"in",e.g⟩])
   | none=>(R,[])
  | []=>(R,[])
noncomputable def rX(r:Rl):Nat->Rm->Rm×List Ev
 | 0,R=>(R,[])
 | n+1,R=>let a:=lK r R;let b:=rX r n a.1;(b.1,a.2++b.2)
theorem CA(r:Rl)(es:List En):(es.map (pz r)).map (·.g)=es.map (·.g):=by rw [List.map_map];rfl
theorem NY{r:Rl}{R:Rm}{i:Nat}{e:En}(h:ROk R)(hi:R.2[i]?=some e):ROk (qW r R i e):=by
 obtain⟨ws,es⟩:=R
 have hs:es=es.take i++e::es.drop (i+1):=by
  obtain⟨hl,he⟩:=List.getElem?_eq_some_iff.mp hi
  rw [<- he,List.getElem_cons_drop,List.take_append_drop]
 have hnd:((es.take i).map (·.g)++e.g::(es.drop (i+1)).map (·.g)).Nodup:=by
  have:=h.nd
  dsimp only at this
  rw [hs] at this
  simpa using this
 rw [List.nodup_append,List.nodup_cons] at hnd
 obtain⟨n1,⟨n2,n3⟩,n4⟩:=hnd
 refine⟨fun x hx=>?_,?_⟩
 ·show (ws.set e.g _)[x.g]?=_
  have key:∃ y∈es,y.g=x.g/\x.g≠e.g:=by
   rcases List.mem_append.mp hx with hx | hx
   ·obtain⟨y,hy,rfl⟩:=List.mem_map.mp hx
    refine⟨y,List.mem_of_mem_take hy,rfl,fun z=>?_⟩
    exact n4 _ (List.mem_map.mpr ⟨y,hy,rfl⟩) _ List.mem_cons_self z
   ·refine⟨x,List.mem_of_mem_drop hx,rfl,fun z=>n2 ?_⟩
    rw [<- z];exact List.mem_map.mpr ⟨x,hx,rfl⟩
  obtain⟨y,hy,e1,ne⟩:=key
  rw [List.getElem?_set_ne (Ne.symm ne),<- e1]
  exact h.out y hy
 ·show (((es.take i).map (pz r)++es.drop (i+1)).map (·.g)).Nodup
  rw [List.map_append,CA,List.nodup_append]
  exact⟨n1,n3,fun a ha b hb=>n4 a ha b (List.mem_cons_of_mem _ hb)⟩
theorem oi{ws:List Wd}{g:Nat}(h:g∈mL ws):ws[g]?=some .rising:=by
 have:=(List.mem_filter.mp h).2
 rw [Bool.and_eq_true] at this
 exact of_decide_eq_true this.1
theorem BM{r:Rl}{R:Rm}(h:ROk R):ROk (lK r R).1/\(lK r R).1.1.length=R.1.length:=by
 unfold lK
 split
 ·rename_i g l hg
  have hr:R.1[g]?=some .rising:=oi (by rw [hg];exact List.mem_cons_self)
  refine⟨⟨fun e he=>?_,h.nd⟩,by simp⟩
  show (R.1.set g .raised)[e.g]?=_
  have h1:=h.out e he
  rw [List.getElem?_set_ne (fun z=>by rw [z,h1] at hr;cases hr)]
  exact h1
 ·split
  ·split
   ·rename_i e he
    exact⟨NY h he,by simp [qW]⟩
   ·exact⟨h,rfl⟩
  ·exact⟨h,rfl⟩
theorem IK{r:Rl}:∀ (n:Nat) {R:Rm},ROk R->ROk (rX r n R).1/\(rX r n R).1.1.length=R.1.length
 | 0,R,h=>⟨h,rfl⟩
 | n+1,R,h=>by
  obtain⟨h1,h2⟩:=BM (r:=r) h
  obtain⟨h3,h4⟩:=IK n h1
  exact⟨h3,h4.trans h2⟩
end MI
namespace MI
open PySem PySem.Spec PyProof.Rows L2 M
def rj:ME:=bJ (bQ (aa (bf (aM fK) (aa (ab 2) (ag))) (ag))) (ah 0) (cK (av (au bT (au aw (ab 1) (ab 0)) (mC (.str "rising")))) (av (au bT (ky (ab 1) (aa (mC (.str "out")) (ag))) (au ny (bf (aM fK) (aa (ab 1) (ag))) (mC (.int 1)))))) (ab 0) [none,some 2]
def wX(fronts lets:PF):ME:=bJ (cY (ak 2 fronts (aa (ab 0) (aa (ab 3) (ag))))) (ah 0) (cV (ak 3 lets (aa (ab 1) (aa (ab 3) (aa (au aw (au aw (ab 2) (ab 0)) (mC (.int 1))) (ag)))))) (ab 0) [none,some 0,some 3,some 2]
def wY:ME:=bJ (cY (bD (ab 3) (bE) (cb (au aw (ab 7) (mC (.int 0)))))) (ah 0) (bX) (au aR (au aR (bD (ab 0) (bE) (cb (mC (.int 2)))) (aT (aa (au aR (au aw (ab 0) (mC (.int 2))) (bf (aM kM) (aa (au bT (au aw (ab 1) (mC (.int 0))) (mC (.str "passes"))) (ag)))) (ag)))) (bD (ab 0) (cb (mC (.int 3))) (bE))) [none,some 0]
def BP(put:PF):MS:=az (aH (ak 3 put (aa (ab 2) (aa (au aw (ab 6) (mC (.int 0))) (aa (mC (.str "raised")) (ag))))) (ah 2)) (eV (fY dR (ab 4) (aa (aT (aa (mC (.str "steps")) (aa (au aw (ab 6) (mC (.int 0))) (ag)))) (ag))))
def QA(put:PF):MS:=az (aH (au aw (ab 3) (au aw (ab 7) (mC (.int 0)))) (aZ 4 (af (ah 8) (af (ah 9) (af (ah 10) (af (ah 11) (aK))))))) (az (aH (ak 3 put (aa (ab 2) (aa (ab 8) (aa (au aw (dM (aa (mC (.str "reads")) (aa (mC (.str "writes")) (ag)))) (bf (aM kM) (aa (au bT (ab 9) (mC (.str "write"))) (ag)))) (ag))))) (ah 2)) (az (aH wY (ah 12)) (az (aH (au aR (bf (aM (cj .tup)) (aa (ab 12) (ag))) (bD (ab 3) (cb (au aR (au aw (ab 7) (mC (.int 0))) (mC (.int 1)))) (bE))) (ah 3)) (eV (fY dR (ab 4) (aa (aT (aa (mC (.str "in")) (aa (ab 8) (ag)))) (ag)))))))
def pD(fronts lets put:PF):MS:=az (aH rj (ah 6)) (az (aH (wX fronts lets) (ah 7)) (bC (av (au gK (ab 6) (dM (ag)))) (BP put) (bC (av (au gK (ab 7) (dM (ag)))) (QA put) (aY))))
def nX(fronts lets put:PF):MS:=
 az (aH (ab 1) (aZ 2 (af (ah 2) (af (ah 3) (aK))))) (az (aH (fZ (ag)) (ah 4)) (az (gY (bQ (aa (au cH (mC (.int 2)) (bf (aM fK) (aa (ab 2) (ag)))) (ag))) (ah 5) (pD fronts lets put)) (aU (aT (aa (aT (aa (ab 2) (aa (ab 3) (ag)))) (aa (ab 4) (ag)))))))
structure HU(fronts lets put:PF):Prop where
 f:∀ (S:ac) (r:Rl) (es:List En),es.length<=60->fronts [r.d,bZ es] S=some (nl (Ba r es),S)
 l:∀ (S:ac) (r:Rl) (ws:List Wd) (wr:Bool),lets [r.d,cm ws,.str (bo wr)] S=some (.bl (pP r ws wr),S)
 p:∀ (S:ac) (ws:List Wd) (i:Nat) (w:Wd),i<ws.length->ws.length<=100->put [cm ws,.int (i:Int),w.d] S=some (cm (ws.set i w),S)
section
variable{S:ac}{ws:List Wd}{es:List En}{r:Rl}
theorem IT{S:ac}{n:Nat}(h:n<=1000):HW ([.int (n:Int)],S)=some ((List.range n).map ni,S):=by
 rw [jW (by omega) (by omega)]
 have:=sI n
 simp only [nl,D.lst.injEq] at this
 rw [Int.toNat_natCast,this]
theorem rA{S:ac}{i:Nat}{l:List Nat}:aw S (nl (i::l)) (.int 0)=some (.int (i:Int)):=by
 show lA ((i::l).map ni) ((0:Nat):Int)=_
 exact Ma rfl
theorem BQ{a0 a1 a3 a4 a5 a6 a7 a8 a9 b0 b1 b2:Option D}(hl:ws.length<=60):rj [a0,a1,some (cm ws),a3,a4,a5,a6,a7,a8,a9,b0,b1,b2] S=some (nl (mL ws),S):=by
 have k:=eR (S:=S) (t:=cK (av (au bT (au aw (ab 1) (ab 0)) (mC (.str "rising")))) (av (au bT (ky (ab 1) (aa (mC (.str "out")) (ag))) (au ny (bf (aM fK) (aa (ab 1) (ag))) (mC (.int 1)))))) (e:=ab 0) (cap:=[none,some 2]) (env:=[a0,a1,some (cm ws),a3,a4,a5,a6,a7,a8,a9,b0,b1,b2]) (rest:=[some (cm ws)]) (a:=none) (enc:=ni) (p:=fun g=>decide (ws[g]?=some .rising)&&decide (ws.count .out+1=ws.length)) (f:=ni) (xs:=List.range ws.length) rfl (by simp;omega) (fun g hg=>by
  have hg:=List.mem_range.mp hg
  have e1:ws[g]?=some ws[g]:=List.getElem?_eq_getElem hg
  have e2:aw S (cm ws) (ni g)=some (ws[g]).d:=rM e1
  have e3:bT S (ws[g]).d (.str "rising")=some (.bl (decide (ws[g]=.rising))):=by
   show bT S (.str (ws[g]).s) (.str "rising")=_
   rw [cI];exact congrArg (fun b=>some (D.bl b)) (Wd.eq ws[g] .rising)
  have e4:∀ S,fz (cm ws) [.str "out"] S=some (.int (ws.count .out:Nat),S):=fun S=>wP .out
  have e5:(((ws.count Wd.out:Nat):Int) == (ws.length:Nat) - 1)=decide (ws.count .out+1=ws.length):=by rw [Bool.eq_iff_iff];simp;omega
  simp only [hX,aD,aE,ai,bF,bM,bL,oj,ob,aj,aq,e2,ar,bb,e3,aB,e1,Option.some.injEq]
  cases hd:decide (ws[g]=.rising) with
  | true=>simp only [jK,JS,ai,bM,bF,bL,oj,ob,aj,oq,ao,bb,am,ay,al,gp,e4,aq,aE,bR,bS,wO,ar,yC,gB,aB,e5,aD,Bool.true_and]
  | false=>simp only [rG,Bool.false_and]) (fun g _ _=>by simp)
 simp only [rj,bU,dH,ao,bR,ai,bF,bM,bL,oj,ob,aj,am,ay,al,bS,wO,IT (show ws.length<=1000 by omega),k]
 rfl
theorem FK{fronts lets put:PF}(O:HU fronts lets put){a1 a4 a5 a6 a7 a8 a9 b0 b1 b2:Option D}(hl:es.length<=60):wX fronts lets [some r.d,a1,some (cm ws),some (bZ es),a4,a5,a6,a7,a8,a9,b0,b1,b2] S=some (nl (lC r ws es),S):=by
 have hlen:(Ba r es).length<=1000:=by
  have h1:(Ba r es).length<=60\/(Ba r es).length<=es.length:=by
   unfold Ba;split
   ·left;simp;omega
   ·left;simp;omega
   ·right;exact Nat.le_trans (List.length_filter_le _ _) (by simp)
   ·left;simp;omega
   ·left;simp;omega
  omega
 have k:=eR (S:=S) (t:=cV (ak 3 lets (aa (ab 1) (aa (ab 3) (aa (au aw (au aw (ab 2) (ab 0)) (mC (.int 1))) (ag)))))) (e:=ab 0) (cap:=[none,some 0,some 3,some 2]) (env:=[some r.d,a1,some (cm ws),some (bZ es),a4,a5,a6,a7,a8,a9,b0,b1,b2]) (rest:=[some r.d,some (bZ es),some (cm ws)]) (a:=none) (enc:=ni) (p:=fun i=>match es[i]? with | some e=>pP r ws e.wr | none=>false) (f:=ni) (xs:=Ba r es) rfl hlen (fun i hi=>by
  have e1:es[i]?=some (es[i]'(pU hi)):=List.getElem?_eq_getElem (pU hi)
  have e2:aw S (bZ es) (ni i)=some (es[i]'(pU hi)).d:=Lk e1
  simp only [dJ,aC,ao,ai,bF,bM,bL,oj,ob,aj,am,aE,aq,e2,ar,bb,En.ix1,ay,al,bH,O.l,eS,e1]) (fun g _ _=>by simp)
 simp only [wX,bU,dg,aC,ao,ai,bF,bM,bL,oj,ob,aj,am,ay,al,aQ,O.f S r es hl,NO,k]
 rfl
theorem Tu{e:En}{b:Option D}:(au aR (au aR (bD (ab 0) (bE) (cb (mC (.int 2)))) (aT (aa (au aR (au aw (ab 0) (mC (.int 2))) (bf (aM kM) (aa (au bT (au aw (ab 1) (mC (.int 0))) (mC (.str "passes"))) (ag)))) (ag)))) (bD (ab 0) (cb (mC (.int 3))) (bE))) [some e.d,some r.d] S=some ((pz r e).d,S):=by
 have w3:(r.w.s == ("passes":Str))=decide (r.w=.passes):=Rw.eq r.w .passes
 have c1:jE e.d none (some 2,S)=some (.tup [.int (e.g:Nat),.str (bo e.wr)],S):=rfl
 have c2:jE e.d (some 3) (none,S)=some (.tup [bA e.t],S):=rfl
 have k1:∀ x,cr ([x],S)=some (.tup [x],S):=fun x=>aV (by simp)
 have a1:∀ x y z,aR S (.tup [x,y]) (.tup [z])=some (.tup [x,y,z]):=fun x y z=>gC (by simp)
 have a2:∀ x y z w,aR S (.tup [x,y,z]) (.tup [w])=some (.tup [x,y,z,w]):=fun x y z w=>gC (by simp)
 simp only [aE,cJ,ai,bF,bM,bL,oj,ob,aj,fI,cQ,fH,dl,bb,dq,c1,aq,bg,ao,am,bR,En.ix2,Rl.ix0,ar,cI,w3,ay,al,bS,pi,jp,k1,a1,c2,a2]
 unfold pz En.d
 by_cases h:r.w=.passes <;> simp [h]
theorem BR{i:Nat}{l:List Nat}{a1 a2 a4 a5 a6 a8 a9 b0 b1 b2:Option D}(hl:es.length<=60):wY [some r.d,a1,a2,some (bZ es),a4,a5,a6,some (nl (i::l)),a8,a9,b0,b1,b2] S=some (.lst (((es.take i).map (pz r)).map En.d),S):=by
 have k:=eR (S:=S) (t:=bX) (e:=au aR (au aR (bD (ab 0) (bE) (cb (mC (.int 2)))) (aT (aa (au aR (au aw (ab 0) (mC (.int 2))) (bf (aM kM) (aa (au bT (au aw (ab 1) (mC (.int 0))) (mC (.str "passes"))) (ag)))) (ag)))) (bD (ab 0) (cb (mC (.int 3))) (bE))) (cap:=[none,some 0]) (env:=[some r.d,a1,a2,some (bZ es),a4,a5,a6,some (nl (i::l)),a8,a9,b0,b1,b2]) (rest:=[some r.d]) (a:=none) (enc:=En.d) (p:=fun _=>true) (f:=fun e=>(pz r e).d) (xs:=es.take i) rfl (by simp;omega) (fun x _=>jI) (fun x _ _=>Tu (b:=none))
 rw [List.filter_eq_self.mpr (fun _ _=>rfl)] at k
 have e:jE (bZ es) none (some (i:Int),S)=some (.tup ((es.take i).map En.d),S):=by
  rw [show bZ es=.tup (es.map En.d) from rfl,lY,lT,List.map_take]
 have e0:aw S (nl (i::l)) (.int 0)=some (.int (i:Int)):=rA
 simp only [wY,bU,dg,cJ,aE,ai,bF,bM,bL,oj,ob,aj,fI,cQ,fH,dl,aq,bb,ar,e0,dq,e,Ke,k,List.map_map]
 rfl
theorem Dk{l:List Nat}:gK S (nl l) (.lst [])=some (.bl (!decide (l=[]))):=by
 have ok:cB 40 (nl l)=true:=by
  show (l.map ni).all (cB 39)=true
  rw [List.all_eq_true];intro d hd;obtain⟨i,_,rfl⟩:=List.mem_map.mp hd;rfl
 rw [qa ok rfl]
 cases l with
 | nil=>rfl
 | cons _ _=>rfl
theorem Do{evs:List Ev}{v:Ev}(h:evs.length<500):dR (.ref S.length) [v.d] (S++[.lst (evs.map Ev.d)])=some (.non,S++[.lst ((evs++[v]).map Ev.d)]):=by
 rw [wA jO (by rw [List.length_map];omega),Fu];simp
theorem yF{evs:List Ev}{f:MF}{ms:MA}{env:bm}:qv f ms env (.ref S.length,S++[.lst (evs.map Ev.d)])=(ms env (S++[.lst (evs.map Ev.d)])).bind (dX f (.ref S.length)):=yq jO
theorem FJ{fronts lets put:PF}(O:HU fronts lets put){g:Nat}{l:List Nat}{evs:List Ev}{a0 a1 a3 a5 a7 a8 a9 b0 b1 b2:Option D}(hg:g<ws.length)(hl:ws.length<=60)(he:evs.length<500) :
  BP put [a0,a1,some (cm ws),a3,some (.ref S.length),a5,some (nl (g::l)),a7,a8,a9,b0,b1,b2] (S++[.lst (evs.map Ev.d)])=some (.nx [a0,a1,some (cm (ws.set g .raised)),a3,some (.ref S.length),a5,some (nl (g::l)),a7,a8,a9,b0,b1,b2] (S++[.lst ((evs++[Ev.mk "steps" g]).map Ev.d)])):=by
 have p1:∀ S,put [cm ws,.int (g:Int),.str "raised"] S=some (cm (ws.set g .raised),S):=fun S=>O.p S ws g .raised hg (by omega)
 have k2:∀ S (x y:D),cr ([x,y],S)=some (.tup [x,y],S):=fun S x y=>aV (by simp)
 have ap:dR (.ref S.length) [.tup [.str "steps",.int (g:Int)]] (S++[.lst (evs.map Ev.d)])=some (.non,S++[.lst ((evs++[Ev.mk "steps" g]).map Ev.d)]):=Do (v:=⟨"steps",g⟩) he
 simp only [BP,aJ,bh,aC,ao,ai,bF,bM,bL,oj,ob,aj,am,aE,bb,aq,ar,rA,ay,al,bH,p1,bi,aN,el,eQ,bG,aF,mR,mQ,yF,bg,k2,gp,ap,mV]
theorem Mw{fronts lets put:PF}(O:HU fronts lets put){i:Nat}{l:List Nat}{e:En}{evs:List Ev}{a1 a5 a6 a8 a9 b0 b1 b2:Option D}(hi:es[i]?=some e)(hg:e.g<ws.length)(hl:ws.length<=60)(hl2:es.length<=60)(he:evs.length<500) :
  ∃ c8 c9 d0 d1 d2,QA put [some r.d,a1,some (cm ws),some (bZ es),some (.ref S.length),a5,a6,some (nl (i::l)),a8,a9,b0,b1,b2] (S++[.lst (evs.map Ev.d)])=some (.nx [some r.d,a1,some (cm (qW r (ws,es) i e).1),some (bZ (qW r (ws,es) i e).2),some (.ref S.length),a5,a6,some (nl (i::l)),c8,c9,d0,d1,d2] (S++[.lst ((evs++[Ev.mk "in" e.g]).map Ev.d)])):=by
 have hlt:=(List.getElem?_eq_some_iff.mp hi).1
 have p1:∀ S,put [cm ws,.int (e.g:Int),(if e.wr then Wd.writes else Wd.reads).d] S=some (cm (ws.set e.g (if e.wr then .writes else .reads)),S):=fun S=>O.p S ws e.g _ hg (by omega)
 have k2:∀ S (x y:D),cr ([x,y],S)=some (.tup [x,y],S):=fun S x y=>aV (by simp)
 have l2:∀ S (x y:D),kA ([x,y],S)=some (.lst [x,y],S):=fun S x y=>cR (by simp)
 have ap:dR (.ref S.length) [.tup [.str "in",.int (e.g:Int)]] (S++[.lst (evs.map Ev.d)])=some (.non,S++[.lst ((evs++[Ev.mk "in" e.g]).map Ev.d)]):=Do (v:=⟨"in",e.g⟩) he
 have x1:∀ S,aw S (bZ es) (.int (i:Int))=some e.d:=fun S=>Lk hi
 have wd:∀ S,aw S (.lst [.str "reads",.str "writes"]) (.int (if e.wr=true then 1 else 0))=some (if e.wr then Wd.writes else Wd.reads).d:=fun S=>by cases e.wr <;> rfl
 have g4:∀ env S,aZ 4 (af (ah 8) (af (ah 9) (af (ah 10) (af (ah 11) (aK))))) e.d env S=(af (ah 8) (af (ah 9) (af (ah 10) (af (ah 11) (aK))))) [.int (e.g:Nat),.str (bo e.wr),.int e.m,bA e.t] env S:=fun env S=>rK
 have cd:iz (es.map En.d) (some ((i:Int)+1)) none=(es.drop (i+1)).map En.d:=by
  rw [show ((i:Int)+1)=((i+1:Nat):Int) by omega,mZ _ _ (by rw [List.length_map];omega),List.map_drop]
 have sd:∀ S,jE (bZ es) (some ((i:Int)+1)) (none,S)=some (.tup ((es.drop (i+1)).map En.d),S):=fun S=>by
  rw [show bZ es=.tup (es.map En.d) from rfl,lY,cd]
 have ad:∀ S,aR S (.tup (((es.take i).map (pz r)).map En.d)) (.tup ((es.drop (i+1)).map En.d))=some (bZ (qW r (ws,es) i e).2):=fun S=>by
  rw [gC (by simp;omega),<- List.map_append];rfl
 refine⟨some (.int (e.g:Nat)),some (.str (bo e.wr)),some (.int e.m),some (bA e.t),some (.lst (((es.take i).map (pz r)).map En.d)),?_⟩
 ·simp only [QA,aJ,bh,aE,ai,bF,bM,bL,oj,ob,aj,aq,bb,ar,rA,x1,bi,g4,bB,aN,cS,bV,el,eQ,bG,aF,aC,ao,am,gX,ay,al,l2,bR,cI,ou,bS,pi,wd,bH,p1,BR hl2,eL,cJ,fI,dl,jp,dq,fH,cQ,sd,ad,mR,mQ,yF,bg,k2,gp,ap,mV]
  try rfl
theorem FI{fronts lets put:PF}(O:HU fronts lets put){R:Rm}(h:ROk R)(hl:R.1.length<=50){evs:List Ev}{a1 a5 a6 a7 a8 a9 b0 b1 b2:Option D}(he:evs.length<500) :
  ∃ c6 c7 c8 c9 d0 d1 d2,pD fronts lets put [some r.d,a1,some (cm R.1),some (bZ R.2),some (.ref S.length),a5,a6,a7,a8,a9,b0,b1,b2] (S++[.lst (evs.map Ev.d)])=some (.nx [some r.d,a1,some (cm (lK r R).1.1),some (bZ (lK r R).1.2),some (.ref S.length),a5,c6,c7,c8,c9,d0,d1,d2] (S++[.lst ((evs++(lK r R).2).map Ev.d)])):=by
 obtain⟨ws,es⟩:=R
 have hl2:es.length<=60:=by have:=h.len;simp only at this hl;omega
 have hl1:ws.length<=60:=by simp only at hl;omega
 have k0:∀ S,kA ([],S)=some (.lst [],S):=fun S=>cR (by simp)
 have e1:∀ (T:ac) (a6:Option D),rj [some r.d,a1,some (cm ws),some (bZ es),some (.ref S.length),a5,a6,a7,a8,a9,b0,b1,b2] T=some (nl (mL ws),T):=fun T a6=>BQ hl1
 have e2:∀ (T:ac) (a6 a7:Option D),wX fronts lets [some r.d,a1,some (cm ws),some (bZ es),some (.ref S.length),a5,a6,a7,a8,a9,b0,b1,b2] T=some (nl (lC r ws es),T):=fun T a6 a7=>FK O hl2
 unfold lK
 dsimp only
 cases hA:mL ws with
 | cons g l=>
  have hr:ws[g]?=some .rising:=oi (by rw [hA];exact List.mem_cons_self)
  have hg:g<ws.length:=(List.getElem?_eq_some_iff.mp hr).1
  rw [hA] at e1
  have e3:=FJ O (S:=S) (ws:=ws) (g:=g) (l:=l) (evs:=evs) (a0:=some r.d) (a1:=a1) (a3:=some (bZ es)) (a5:=a5) (a7:=some (nl (lC r ws es))) (a8:=a8) (a9:=a9) (b0:=b0) (b1:=b1) (b2:=b2) hg hl1 he
  refine⟨some (nl (g::l)),some (nl (lC r ws es)),a8,a9,b0,b1,b2,?_⟩
  simp only [pD,aJ,bh,e1,e2,ob,bi,aN,el,eQ,bG,aF,be,aD,aE,ai,bF,bM,bL,oj,aj,aq,gX,ay,k0,ar,Dk,aB,reduceCtorEq,decide_false,Bool.not_false,bO,e3]
 | nil=>
  rw [hA] at e1
  cases hB:lC r ws es with
  | nil=>
   rw [hB] at e2
   refine⟨some (nl []),some (nl []),a8,a9,b0,b1,b2,?_⟩
   simp only [pD,aJ,bh,e1,e2,ob,bi,aN,el,eQ,bG,aF,be,aD,aE,ai,bF,bM,bL,oj,aj,aq,gX,ay,k0,ar,Dk,aB,decide_true,Bool.not_true,bI,bt,List.append_nil]
  | cons i l=>
   rw [hB] at e2
   have hi:i∈lC r ws es:=by rw [hB];exact List.mem_cons_self
   have hlt:i<es.length:=pU (List.mem_filter.mp hi).1
   have ei:es[i]?=some es[i]:=List.getElem?_eq_getElem hlt
   have hg:(es[i]).g<ws.length:=h.lt (R:=(ws,es)) (List.getElem_mem hlt)
   obtain⟨c8,c9,d0,d1,d2,e3⟩:=Mw O (S:=S) (ws:=ws) (es:=es) (r:=r) (i:=i) (l:=l) (evs:=evs) (a1:=a1) (a5:=a5) (a6:=some (nl [])) (a8:=a8) (a9:=a9) (b0:=b0) (b1:=b1) (b2:=b2) ei hg hl1 hl2 he
   dsimp only
   rw [ei]
   refine⟨some (nl []),some (nl (i::l)),c8,c9,d0,d1,d2,?_⟩
   simp only [pD,aJ,bh,e1,e2,ob,bi,aN,el,eQ,bG,aF,be,aD,aE,ai,bF,bM,bL,oj,aj,aq,gX,ay,k0,ar,Dk,aB,decide_true,Bool.not_true,bI,reduceCtorEq,decide_false,Bool.not_false,bO,e3]
theorem Ek{R:Rm}:(lK r R).2.length<=1:=by
 unfold lK
 split
 ·simp
 ·split
  ·split <;> simp
  ·simp
theorem zp{fronts lets put:PF}(O:HU fronts lets put){N:List Str}(hN:N.length=13){R:Rm}(h:ROk R)(hl:R.1.length<=50) :
  aO N (nX fronts lets put) 2 [r.d,aP R] S=some (.tup [aP (rX r (2 * R.1.length) R).1,.ref S.length],S++[.lst ((rX r (2 * R.1.length) R).2.map Ev.d)]):=by
 have hst:aA N [r.d,aP R]=[some r.d,some (aP R),none,none,none,none,none,none,none,none,none,none,none]:=by simp [aA,hN,List.replicate]
 rw [bd (show [r.d,aP R].length=2 from rfl),hst]
 obtain⟨env',S',e,R',evs',c5,c6,c7,c8,c9,d0,d1,d2,o1,o2,o3,o4,rfl,rfl⟩:=GT (tg:=ah 5) (p:=pD fronts lets put) (lo:=0) (fun i env T=>∃ (R':Rm) (evs':List Ev) (c5 c6 c7 c8 c9 d0 d1 d2:Option D),ROk R'/\R'.1.length=R.1.length/\evs'.length<=i/\(i<=2 * R.1.length->rX r (2 * R.1.length) R=((rX r (2 * R.1.length - i) R').1,evs'++(rX r (2 * R.1.length - i) R').2)) /\
   env=[some r.d,some (aP R),some (cm R'.1),some (bZ R'.2),some (.ref S.length),c5,c6,c7,c8,c9,d0,d1,d2]/\T=S++[.lst (evs'.map Ev.d)]) (2 * R.1.length) (fun i hi env T hI=>by
  obtain⟨R',evs',c5,c6,c7,c8,c9,d0,d1,d2,o1,o2,o3,o4,rfl,rfl⟩:=hI
  obtain⟨f6,f7,f8,f9,g0,g1,g2,e⟩:=FI O (r:=r) (S:=S) (R:=R') o1 (by omega) (evs:=evs') (a1:=some (aP R)) (a5:=some (.int (0+(i:Int)))) (a6:=c6) (a7:=c7) (a8:=c8) (a9:=c9) (b0:=d0) (b1:=d1) (b2:=d2) (by omega)
  obtain⟨q1,q2⟩:=BM (r:=r) o1
  have fw:=Ek (r:=r) (R:=R')
  refine⟨_,_,_,_,aN,e,(lK r R').1,evs'++(lK r R').2,_,f6,f7,f8,f9,g0,g1,g2,q1,q2.trans o2,by rw [List.length_append];omega,fun hn=>?_,rfl,rfl⟩
  rw [o4 (by omega),show 2 * R.1.length - i=(2 * R.1.length - (i+1))+1 by omega]
  simp only [rX,List.append_assoc]) [some r.d,some (aP R),some (cm R.1),some (bZ R.2),some (.ref S.length),none,none,none,none,none,none,none,none] (S++[.lst []]) ⟨R,[],none,none,none,none,none,none,none,none,h,rfl,Nat.le_refl _,fun _=>by simp,rfl,rfl⟩
 have o5:=o4 (Nat.le_refl _)
 rw [Nat.sub_self] at o5
 simp only [rX,List.append_nil] at o5
 have k0:tF ([],S)=some (.ref S.length,S++[.lst []]):=mf (by simp)
 have k2:∀ S (x y:D),cr ([x,y],S)=some (.tup [x,y],S):=fun S x y=>aV (by simp)
 have mu:∀ S,cH S (.int 2) (.int (R.1.length:Nat))=some (.int (2 * (R.1.length:Nat))):=fun S=>jm (pJ (by decide) (by decide))
 have kr:∀ S,HW ([.int (2 * (R.1.length:Nat))],S)=some (bW 0 (2 * R.1.length),S):=fun S=>by
  rw [jW (by omega) (by omega)];congr 3
 have g2:∀ env S,aZ 2 (af (ah 2) (af (ah 3) (aK))) (aP R) env S=(af (ah 2) (af (ah 3) (aK))) [cm R.1,bZ R.2] env S:=fun env S=>cw
 rw [o5]
 simp only [nX,aJ,bh,ai,bF,bM,bL,oj,ob,aj,bi,g2,bB,aN,cS,bV,el,eQ,bG,aF,rB,ay,k0,lX,dH,ao,aE,bb,aq,bR,am,al,bS,wO,ar,mu,kr,mj,e,aW,bg,k2,bp,aG]
 rfl
end
end MI
namespace MI
open PySem PySem.Spec PyProof.Rows L2 M
inductive Ak where | up | down | leave | stop
deriving DecidableEq
noncomputable def Ak.s:Ak->Str
 | .up=>"up"
 | .down=>"down"
 | .leave=>"leave"
 | .stop=>"stop"
inductive Dd where
 | ask (wr:Bool) (g:Nat) (t:Option Int)
 | act (k:Ak) (g:Nat)
 | tick
noncomputable def Dd.d:Dd->D
 | .ask wr g t=>.tup [.str (bo wr),.int (g:Int),bA t]
 | .act k g=>.tup [.str k.s,.int (g:Int)]
 | .tick=>.tup [.str "tick"]
def zc(t:Option Int):Prop:=∀ k,t=some k->0<=k/\k<=9
def Dd.Ok(n:Nat):Dd->Prop
 | .ask _ g t=>g<n/\zc t
 | .act _ g=>g<n
 | .tick=>True
def oT(pick:PF):MS:=
 az (aH (ak 2 pick (aa (ab 0) (aa (ab 1) (ag)))) (ah 2)) (az (aH (ak 2 pick (aa (ab 0) (aa (mC (.int 12)) (ag)))) (ah 3)) (az (bC (av (au Om (ab 3) (mC (.int 6)))) (aU (aT (aa (au aw (dM (aa (mC (.str "read")) (aa (mC (.str "write")) (ag)))) (au ls (ab 3) (mC (.int 2)))) (aa (ab 2) (aa (au aw (dM (aa (mC .non) (aa (mC .non) (aa (mC .non) (aa (mC (.int 0)) (aa (mC (.int 1)) (aa (mC (.int 9)) (ag)))))))) (ak 2 pick (aa (ab 0) (aa (mC (.int 6)) (ag))))) (ag)))))) (aY)) (az (bC (av (au bT (ab 3) (mC (.int 11)))) (aU (aT (aa (mC (.str "tick")) (ag)))) (aY)) (aU (aT (aa (au aw (dM (aa (mC (.str "up")) (aa (mC (.str "down")) (aa (mC (.str "leave")) (aa (mC (.str "leave")) (aa (mC (.str "stop")) (ag))))))) (au ny (ab 3) (mC (.int 6)))) (aa (ab 2) (ag))))))))
theorem Pf{q:Int}(h0:0<=q)(h1:q<6):∃ t:Option Int,lA [D.non,D.non,D.non,D.int 0,D.int 1,D.int 9] q=some (bA t)/\zc t:=by
 have n:zc none:=fun k h=>by cases h
 have s:∀ j:Int,0<=j->j<=9->zc (some j):=fun j a b k h=>by cases h;exact⟨a,b⟩
 obtain rfl | rfl | rfl | rfl | rfl | rfl:q=0\/q=1\/q=2\/q=3\/q=4\/q=5:=by omega
 ·exact⟨none,rfl,n⟩
 ·exact⟨none,rfl,n⟩
 ·exact⟨none,rfl,n⟩
 ·exact⟨some 0,rfl,s 0 (by decide) (by decide)⟩
 ·exact⟨some 1,rfl,s 1 (by decide) (by decide)⟩
 ·exact⟨some 9,rfl,s 9 (by decide) (by decide)⟩
theorem TC{q:Int}(h0:6<=q)(h1:q<11):∃ k:Ak,lA [D.str "up",D.str "down",D.str "leave",D.str "leave",D.str "stop"] (q - 6)=some (.str k.s):=by
 obtain rfl | rfl | rfl | rfl | rfl:q=6\/q=7\/q=8\/q=9\/q=10:=by omega
 ·exact⟨.up,rfl⟩
 ·exact⟨.down,rfl⟩
 ·exact⟨.leave,rfl⟩
 ·exact⟨.leave,rfl⟩
 ·exact⟨.stop,rfl⟩
theorem at_wr{q:Int}:∃ wr:Bool,lA [D.str "read",D.str "write"] (q % 2)=some (.str (bo wr)):=by
 obtain h | h:q % 2=0\/q % 2=1:=by omega
 ·exact⟨false,by rw [h];rfl⟩
 ·exact⟨true,by rw [h];rfl⟩
theorem LF{pick:PF}(hp:qj pick){S:ac}{r n:Nat}{N:List Str}(hN:N.length=4)(P:Pk S r)(h1:1<=n)(h9:n<=9):∃ (dd:Dd) (S':ac),aO N (oT pick) 2 [.ref r,.int (n:Int)] S=some (dd.d,S')/\dd.Ok n/\Pk S' r/\Keep r S S':=by
 have hst:aA N [D.ref r,.int (n:Int)]=[some (.ref r),some (.int (n:Int)),none,none]:=by simp [aA,hN,List.replicate]
 rw [bd (show [D.ref r,D.int (n:Int)].length=2 from rfl),hst]
 obtain⟨g,S1,e1,g0,g1,P1,K1⟩:=hp _ _ (n:Int) P (by omega) (by omega)
 obtain⟨q,S2,e2,q0,q1,P2,K2⟩:=hp _ _ 12 P1 (by decide) (by decide)
 obtain⟨g',rfl⟩:∃ g':Nat,g=(g':Int):=⟨g.toNat,by omega⟩
 have md:∀ S,ls S (.int q) (.int 2)=some (.int (q % 2)):=fun S=>jn (by decide)
 by_cases h6:q<6
 ·obtain⟨l,S3,e3,l0,l1,P3,K3⟩:=hp _ _ 6 P2 (by decide) (by decide)
  obtain⟨t,et,ot⟩:=Pf l0 l1
  obtain⟨wr,ew⟩:=at_wr (q:=q)
  have k1:∀ S,kA ([D.str "read",D.str "write"],S)=some (.lst [D.str "read",D.str "write"],S):=fun S=>cR (by simp)
  have k2:∀ S,kA ([D.non,D.non,D.non,D.int 0,D.int 1,D.int 9],S)=some (.lst [D.non,D.non,D.non,D.int 0,D.int 1,D.int 9],S):=fun S=>cR (by simp)
  have k3:∀ S (a b c:D),cr ([a,b,c],S)=some (.tup [a,b,c],S):=fun S a b c=>aV (by simp)
  refine⟨.ask wr g' t,S3,?_,⟨by omega,ot⟩,P3,Keep.trans K1 (Keep.trans K2 K3)⟩
  simp [oT,e1,e2,h6,k1,md,ew,e3,k2,et,k3,Dd.d]
 ·by_cases h11:q=11
  ·subst h11
   have k1:∀ S (a:D),cr ([a],S)=some (.tup [a],S):=fun S a=>aV (by simp)
   refine⟨.tick,S2,?_,trivial,P2,Keep.trans K1 K2⟩
   simp [oT,e1,e2,k1,Dd.d]
  ·obtain⟨k,ek⟩:=TC (q:=q) (by omega) (by omega)
   have k1:∀ S,kA ([D.str "up",D.str "down",D.str "leave",D.str "leave",D.str "stop"],S)=some (.lst [D.str "up",D.str "down",D.str "leave",D.str "leave",D.str "stop"],S):=fun S=>cR (by simp)
   have k2:∀ S (a b:D),cr ([a,b],S)=some (.tup [a,b],S):=fun S a b=>aV (by simp)
   refine⟨.act k g',S2,?_,(by show g'<n;omega),P2,Keep.trans K1 K2⟩
   simp [oT,e1,e2,h6,beq_eq_false_iff_ne.mpr h11,k1,ek,k2,Dd.d]
def bu(es:List En)(g:Nat):Bool:=es.any fun e=>decide (e.g=g)
noncomputable def ig(R:Rm):Dd->Bool
 | .tick=>true
 | .ask _ g _=>decide (R.1[g]?=some .out) && !bu R.2 g
 | .act .up g=>decide (R.1[g]?=some .reads)
 | .act .down g=>decide (R.1[g]?=some .writes)||decide (R.1[g]?=some .raised)
 | .act .leave g=>decide (R.1[g]?≠some .out)
 | .act .stop g=>bu R.2 g||decide (R.1[g]?=some .rising)
def yS:ME:=au on (au aw (ab 1) (mC (.int 1))) (bJ (cY (ab 3)) (ah 0) (bX) (au aw (ab 0) (mC (.int 0))) [none])
def Tt:ME:=fG [(mC (.str "read"),dm (au bT (ab 4) (mC (.str "out"))) (ia (ab 5))),(mC (.str "write"),dm (au bT (ab 4) (mC (.str "out"))) (ia (ab 5))),(mC (.str "up"),au bT (ab 4) (mC (.str "reads")))]
def Ts:ME:=iE [(mC (.str "down"),au on (ab 4) (aT (aa (mC (.str "writes")) (aa (mC (.str "raised")) (ag))))),(mC (.str "leave"),au gK (ab 4) (mC (.str "out"))),(mC (.str "stop"),vR (ab 5) (au bT (ab 4) (mC (.str "rising"))))]
def ym:MS:=
 az (aH (ab 0) (aZ 2 (af (ah 2) (af (ah 3) (aK))))) (az (bC (av (au bT (ab 1) (aT (aa (mC (.str "tick")) (ag))))) (aU (mC (.bl true))) (aY)) (az (aH (au aw (ab 2) (au aw (ab 1) (mC (.int 1)))) (ah 4)) (az (aH yS (ah 5)) (az (aH Tt (ah 6)) (az (eV (fD ud (ab 6) (aa Ts (ag)))) (aU (au aw (ab 6) (au aw (ab 1) (mC (.int 0))))))))))
noncomputable def sK(r:Rl)(w:Wd)(es:List En):List En:=if r.w=.turns/\w=.writes then es.map (fun e=>if e.wr then e else { e with m:=1 }) else es
def mkC:ME:=bJ (cY (ab 2)) (ah 0) (bX) (lF (av (au bT (au aw (ab 0) (mC (.int 1))) (mC (.str "read")))) (au aR (au aR (bD (ab 0) (bE) (cb (mC (.int 2)))) (aT (aa (mC (.int 1)) (ag)))) (bD (ab 0) (cb (mC (.int 3))) (bE))) (ab 0)) [none]
def kz:MS:=
 az (bC (fC (av (au gK (au aw (ab 0) (mC (.int 0))) (mC (.str "turns")))) (av (au gK (ab 1) (mC (.str "writes"))))) (aU (ab 2)) (aY)) (aU (bf (aM (cj .tup)) (aa mkC (ag))))
section
variable{S:ac}{ws:List Wd}{es:List En}{r:Rl}
theorem KM{g:Nat}:on S (.int (g:Int)) (.lst (es.map fun e=>.int (e.g:Int)))=some (.bl (bu es g)):=by
 rw [jZ (ys:=es.map fun e=>D.int (e.g:Int)) rfl rfl (by rw [List.all_eq_true];intro d hd;obtain⟨e,_,rfl⟩:=List.mem_map.mp hd;rfl)]
 unfold bu
 rw [List.any_map]
 congr 2
 induction es with
 | nil=>rfl
 | cons e l ih=>
  rw [List.any_cons,List.any_cons,ih]
  congr 1
  show ((e.g:Int) == (g:Int))=_
  rw [Bool.eq_iff_iff];simp;omega
theorem gsC{b:Option D}{cap:List (Option Nat)}{env:bm}(hc:ut cap env=[b])(hl:es.length<=100):mn (ah 0) bX (au aw (ab 0) (mC (.int 0))) cap env (es.map En.d,S)=some (.lst (es.map fun e=>.int (e.g:Int)),S):=by
 have k:=eR (S:=S) (t:=bX) (e:=au aw (ab 0) (mC (.int 0))) (cap:=cap) (env:=env) (rest:=[]) (a:=b) (enc:=En.d) (p:=fun _=>true) (f:=fun e=>.int (e.g:Int)) (xs:=es) hc (by omega) (fun x _=>jI) (fun x _ _=>by simp [En.ix0])
 rw [List.filter_eq_self.mpr (fun _ _=>rfl)] at k
 exact k
theorem dS:CW (bZ es,S)=some (es.map En.d,S):=rfl
noncomputable def Dc:Dd->Bool
 | .tick=>true
 | _=>false
theorem Dd.tick_ne{dd:Dd}:bT S dd.d (.tup [.str "tick"])=some (.bl (Dc dd)):=by
 cases dd with
 | tick=>rw [lv rfl rfl];rfl
 | ask wr g t=>
  rw [lv (by cases t <;> rfl) rfl]
  show some (D.bl (_&&false))=some (D.bl false)
  rw [Bool.and_false]
 | act k g=>
  rw [lv rfl rfl]
  show some (D.bl (_&&false))=some (D.bl false)
  rw [Bool.and_false]
theorem lu{a b:Wd}:bT S a.d (.str b.s)=some (.bl (decide (a=b))):=by
 show bT S (.str a.s) (.str b.s)=_
 rw [cI,Wd.eq]
theorem uf{a b:Wd}:gK S a.d (.str b.s)=some (.bl (!decide (a=b))):=by
 show gK S (.str a.s) (.str b.s)=_
 rw [pZ,Wd.eq]
theorem KK{a:Wd}:on S a.d (.tup [.str "writes",.str "raised"])=some (.bl (decide (a=.writes)||decide (a=.raised))):=by
 have h:([D.str "writes",D.str "raised"].any fun d=>jC d a.d)=(decide (a=.writes)||decide (a=.raised)):=by cases a <;> decide +kernel
 rw [jZ (ys:=[.str "writes",.str "raised"]) rfl rfl rfl,h]
noncomputable def ly(w:Wd)(s:Bool):List (bz×D):=[(.inr "read",.bl (decide (w=.out) && !s)),(.inr "write",.bl (decide (w=.out) && !s)),(.inr "up",.bl (decide (w=.reads)))]
noncomputable def lx(w:Wd)(s:Bool):List (bz×D):=[(.inr "down",.bl (decide (w=.writes)||decide (w=.raised))),(.inr "leave",.bl (!decide (w=.out))),(.inr "stop",.bl (s||decide (w=.rising)))]
theorem OZ{w:Wd}{s:Bool}{a0 a1 a2 a3 a6:Option D}:Tt [a0,a1,a2,a3,some w.d,some (.bl s),a6] S=some (.ref S.length,S++[.dct ((ly w s).map (·.1)) ((ly w s).map (·.2))]):=by
 have e1:∀ S,bT S w.d (.str "out")=some (.bl (decide (w=.out))):=fun S=>lu (b:=.out)
 have e2:∀ S,bT S w.d (.str "reads")=some (.bl (decide (w=.reads))):=fun S=>lu (b:=.reads)
 have ka:∀ x:Bool,NT (ia (ab 5)) [a0,a1,a2,a3,some w.d,some (.bl s),a6] (.bl x,S)=some (.bl (x && !s),S):=fun x=>by cases x <;> simp
 have kd:yu ([(.inr "read",.bl (decide (w=.out) && !s)),(.inr "write",.bl (decide (w=.out) && !s)),(.inr "up",.bl (decide (w=.reads)))],S)=some (.ref S.length,S++[.dct ((ly w s).map (·.1)) ((ly w s).map (·.2))]):=GE (l:=ly w s) (show [(Sum.inr "read":bz),.inr "write",.inr "up"].Nodup by decide +kernel) (by show 3<=15;decide)
 simp only [Tt,JQ,lW,bb,ob,CU,nW,aE,ai,bF,bM,bL,oj,aj,aq,ar,e1,ka,CT,e2,nU,CS,kd]
theorem OY{w:Wd}{s:Bool}{a0 a1 a2 a3 a6:Option D}:Ts [a0,a1,a2,a3,some w.d,some (.bl s),a6] S=some (.dct ((lx w s).map (·.1)) ((lx w s).map (·.2)),S):=by
 have e1:∀ S,gK S w.d (.str "out")=some (.bl (!decide (w=.out))):=fun S=>uf (b:=.out)
 have e2:∀ S,bT S w.d (.str "rising")=some (.bl (decide (w=.rising))):=fun S=>lu (b:=.rising)
 have k2:∀ S (x y:D),cr ([x,y],S)=some (.tup [x,y],S):=fun S x y=>aV (by simp)
 have ka:Py (au bT (ab 4) (mC (.str "rising"))) [a0,a1,a2,a3,some w.d,some (.bl s),a6] (.bl s,S)=some (.bl (s||decide (w=.rising)),S):=by cases s <;> simp [e2]
 have kd:tH ([(.inr "down",.bl (decide (w=.writes)||decide (w=.raised))),(.inr "leave",.bl (!decide (w=.out))),(.inr "stop",.bl (s||decide (w=.rising)))],S)=some (.dct ((lx w s).map (·.1)) ((lx w s).map (·.2)),S):=AL (l:=lx w s) (show [(Sum.inr "down":bz),.inr "leave",.inr "stop"].Nodup by decide +kernel) (by show 3<=15;decide)
 simp only [Ts,EL,lW,bb,ob,CU,aE,ai,bF,bM,bL,oj,aj,aq,bg,ao,am,ay,al,k2,ar,KK,CT,e1,Pv,ka,nU,CS,kd]
noncomputable def fL:Dd->Str
 | .ask wr _ _=>bo wr
 | .act k _=>k.s
 | .tick=>"tick"
noncomputable def ba:Dd->Nat
 | .ask _ g _=>g
 | .act _ g=>g
 | .tick=>0
theorem Tr{w:Wd}{s:Bool}{R:Rm}{dd:Dd}(hs:s=bu R.2 (ba dd))(hw:R.1[ba dd]?=some w)(ht:dd≠.tick):iV (cD (ly w s) (lx w s)) (.inr (fL dd))=some (.bl (ig R dd)):=by
 have hm:cD (ly w s) (lx w s)=ly w s++lx w s:=nS (show [(Sum.inr "read":bz),.inr "write",.inr "up",.inr "down",.inr "leave",.inr "stop"].Nodup by decide +kernel)
 rw [hm]
 cases dd with
 | tick=>exact absurd rfl ht
 | ask wr g t=>
  simp only [ba] at hw hs
  cases wr
  ·simp (decide:=true) [ly,lx,iV,fL,bo,ig,hw,hs]
  ·simp (decide:=true) [ly,lx,iV,fL,bo,ig,hw,hs]
 | act k g=>
  simp only [ba] at hw hs
  cases k <;> simp (decide:=true) [ly,lx,iV,fL,Ak.s,ig,hw,hs]
theorem OX{N:List Str}(hN:N.length=7){R:Rm}{dd:Dd}(hl:R.2.length<=60)(hd:dd.Ok R.1.length):∃ T,aO N ym 2 [aP R,dd.d] S=some (.bl (ig R dd),S++T):=by
 have hst:aA N [aP R,dd.d]=[some (aP R),some dd.d,none,none,none,none,none]:=by simp [aA,hN,List.replicate]
 rw [bd (show [aP R,dd.d].length=2 from rfl),hst]
 obtain⟨ws,es⟩:=R
 have k1:∀ S (x:D),cr ([x],S)=some (.tup [x],S):=fun S x=>aV (by simp)
 have g2:∀ env S,aZ 2 (af (ah 2) (af (ah 3) (aK))) (aP (ws,es)) env S=(af (ah 2) (af (ah 3) (aK))) [cm ws,bZ es] env S:=fun env S=>cw
 by_cases ht:dd=.tick
 ·subst ht
  refine⟨[],?_⟩
  simp only [ym,aJ,bh,ai,bF,bM,bL,oj,ob,aj,bi,g2,bB,aN,cS,bV,el,eQ,bG,aF,be,aD,aE,aq,bg,ao,bb,am,ay,al,k1,ar,Dd.tick_ne,aB,bO,aW,bp,bP,aG,List.append_nil,ig,Dc]
 ·have hf:Dc dd=false:=by cases dd <;> first | rfl | exact absurd rfl ht
  have x1:∀ S,aw S dd.d (.int 1)=some (.int (ba dd:Int)):=fun S=>by cases dd <;> first | rfl | exact absurd rfl ht
  have x0:∀ S,aw S dd.d (.int 0)=some (.str (fL dd)):=fun S=>by cases dd <;> first | rfl | exact absurd rfl ht
  have hg:ba dd<ws.length:=by cases dd with
   | ask _ _ _=>exact hd.1
   | act _ _=>exact hd
   | tick=>exact absurd rfl ht
  have hw:ws[ba dd]?=some ws[ba dd]:=List.getElem?_eq_getElem hg
  have xw:∀ S,aw S (cm ws) (.int (ba dd:Int))=some (ws[ba dd]).d:=fun S=>rM hw
  have st:∀ (S:ac) (a4 a5 a6:Option D),yS [some (aP (ws,es)),some dd.d,some (cm ws),some (bZ es),a4,a5,a6] S=some (.bl (bu es (ba dd)),S):=fun S a4 a5 a6=>by
   simp only [yS,aE,ai,bF,bM,bL,oj,ob,aj,aq,bb,ar,x1,bU,dg,dS,gsC (es:=es) (cap:=[none]) (env:=[some (aP (ws,es)),some dd.d,some (cm ws),some (bZ es),a4,a5,a6]) rfl (by simp only at hl;omega),KM]
  have up:ud (.ref S.length) [.dct ((lx (ws[ba dd]) (bu es (ba dd))).map (·.1)) ((lx (ws[ba dd]) (bu es (ba dd))).map (·.2))] (S++[.dct ((ly (ws[ba dd]) (bu es (ba dd))).map (·.1)) ((ly (ws[ba dd]) (bu es (ba dd))).map (·.2))])=some (.non,S++[.dct ((cD (ly (ws[ba dd]) (bu es (ba dd))) (lx (ws[ba dd]) (bu es (ba dd)))).map (·.1)) ((cD (ly (ws[ba dd]) (bu es (ba dd))) (lx (ws[ba dd]) (bu es (ba dd)))).map (·.2))]):=by
   rw [Og jO (by show 3+3<=1000;decide),Fu]
  have md:∀ f ms env (c:List bz) (d:List D),tE f ms env (.ref S.length,S++[.dct c d])=(ms env (S++[.dct c d])).bind (dX f (.ref S.length)):=fun f ms env c d=>Kd jO
  have fin:aw (S++[.dct ((cD (ly (ws[ba dd]) (bu es (ba dd))) (lx (ws[ba dd]) (bu es (ba dd)))).map (·.1)) ((cD (ly (ws[ba dd]) (bu es (ba dd))) (lx (ws[ba dd]) (bu es (ba dd)))).map (·.2))]) (.ref S.length) (.str (fL dd))=some (.bl (ig (ws,es) dd)):=by
   rw [SE jO yn];exact Tr rfl hw ht
  refine⟨[.dct ((cD (ly (ws[ba dd]) (bu es (ba dd))) (lx (ws[ba dd]) (bu es (ba dd)))).map (·.1)) ((cD (ly (ws[ba dd]) (bu es (ba dd))) (lx (ws[ba dd]) (bu es (ba dd)))).map (·.2))],?_⟩
  simp only [ym,aJ,bh,ai,bF,bM,bL,oj,ob,aj,bi,g2,bB,aN,cS,bV,el,eQ,bG,aF,be,aD,aE,aq,bg,ao,bb,am,ay,al,k1,ar,Dd.tick_ne,hf,aB,bI,bt,x1,xw,st,OZ,mR,JM,md,OY,gp,up,mV,aW,x0,fin,bp,aG]
theorem mk_d{e:En}:(lF (av (au bT (au aw (ab 0) (mC (.int 1))) (mC (.str "read")))) (au aR (au aR (bD (ab 0) (bE) (cb (mC (.int 2)))) (aT (aa (mC (.int 1)) (ag)))) (bD (ab 0) (cb (mC (.int 3))) (bE))) (ab 0)) [some e.d] S=some ((if e.wr then e else { e with m:=1 }:En).d,S):=by
 have c1:jE e.d none (some 2,S)=some (.tup [.int (e.g:Nat),.str (bo e.wr)],S):=rfl
 have c2:jE e.d (some 3) (none,S)=some (.tup [bA e.t],S):=rfl
 have k1:∀ x,cr ([x],S)=some (.tup [x],S):=fun x=>aV (by simp)
 have a1:∀ x y z,aR S (.tup [x,y]) (.tup [z])=some (.tup [x,y,z]):=fun x y z=>gC (by simp)
 have a2:∀ x y z w,aR S (.tup [x,y,z]) (.tup [w])=some (.tup [x,y,z,w]):=fun x y z w=>gC (by simp)
 have wr:(bo e.wr == ("read":Str)) = !e.wr:=rg e.wr
 simp only [jc,aD,aE,ai,bF,oj,ob,aj,aq,bb,ar,En.ix1,cI,wr,aB]
 cases h:e.wr with
 | true=>simp
 | false=>
  simp only [Bool.not_false,tG,aE,cJ,ai,bF,oj,ob,aj,fI,cQ,fH,dl,bb,dq,c1,aq,bg,ao,am,ay,al,k1,ar,a1,c2,a2]
  unfold En.d
  simp [h]
theorem Cz{N:List Str}(hN:N.length=3){w:Wd}(hl:es.length<=60):aO N kz 3 [r.d,w.d,bZ es] S=some (bZ (sK r w es),S):=by
 have hst:aA N [r.d,w.d,bZ es]=[some r.d,some w.d,some (bZ es)]:=by simp [aA,hN]
 rw [bd (show [r.d,w.d,bZ es].length=3 from rfl),hst]
 have w1:(r.w.s == ("turns":Str))=decide (r.w=.turns):=Rw.eq r.w .turns
 have e1:gK S (.str r.w.s) (.str "turns")=some (.bl (!decide (r.w=.turns))):=by rw [pZ,w1]
 have e2:gK S w.d (.str "writes")=some (.bl (!decide (w=.writes))):=uf (b:=.writes)
 have k:=eR (S:=S) (t:=bX) (e:=lF (av (au bT (au aw (ab 0) (mC (.int 1))) (mC (.str "read")))) (au aR (au aR (bD (ab 0) (bE) (cb (mC (.int 2)))) (aT (aa (mC (.int 1)) (ag)))) (bD (ab 0) (cb (mC (.int 3))) (bE))) (ab 0)) (cap:=[none]) (env:=[some r.d,some w.d,some (bZ es)]) (rest:=[]) (a:=none) (enc:=En.d) (p:=fun _=>true) (f:=fun e=>(if e.wr then e else { e with m:=1 }:En).d) (xs:=es) rfl (by omega) (fun x _=>jI) (fun x _ _=>mk_d)
 rw [List.filter_eq_self.mpr (fun _ _=>rfl)] at k
 have kc:mkC [some r.d,some w.d,some (bZ es)] S=some (.lst (es.map fun e=>(if e.wr then e else { e with m:=1 }:En).d),S):=by
  simp only [mkC,bU,dg,ai,bF,bM,bL,oj,ob,aj,dS,k]
 unfold sK
 by_cases h1:r.w=.turns
 ·rw [decide_eq_true h1] at e1
  by_cases h2:w=.writes
  ·rw [if_pos ⟨h1,h2⟩]
   rw [decide_eq_true h2] at e2
   simp only [kz,aJ,be,jb,aD,aE,ai,bF,bM,bL,oj,ob,aj,aq,bb,ar,Rl.ix0,e1,Bool.not_true,aB,lZ,e2,bI,bt,aF,aW,bR,ao,kc,am,ay,al,bS,eL,bp,aG]
   unfold bZ;rw [List.map_map];rfl
  ·rw [if_neg (fun z=>h2 z.2)]
   rw [decide_eq_false h2] at e2
   simp only [kz,aJ,be,jb,aD,aE,ai,bF,bM,bL,oj,ob,aj,aq,bb,ar,Rl.ix0,e1,Bool.not_true,Bool.not_false,aB,lZ,e2,bO,aW,bp,bP,aG]
 ·rw [if_neg (fun z=>h1 z.1)]
  rw [decide_eq_false h1] at e1
  simp only [kz,aJ,be,jb,aD,aE,ai,bF,bM,bL,oj,ob,aj,aq,bb,ar,Rl.ix0,e1,Bool.not_false,aB,yp,bO,aW,bp,bP,aG]
end
end MI
namespace MI
open PySem PySem.Spec PyProof.Rows L2 M
def du(l:List Ev):D:=.tup (l.map Ev.d)
noncomputable def aX(r:Rl)(R:Rm):Rm×List Ev:=rX r (2 * R.1.length) R
def lB(wr:Bool)(g:Nat)(t:Option Int):En:=⟨g,wr,0,if t=some 0 then some 1 else t⟩
noncomputable def uy(r:Rl)(R:Rm)(wr:Bool)(g:Nat)(t:Option Int):Rm×List Ev:=
 let a:=aX r (R.1,R.2++[lB wr g t])
 if bu a.1.2 g=false then a
 else if t=some 0 then ((a.1.1,a.1.2.filter fun e=>decide (e.g≠g)),a.2++[⟨"no",g⟩])
 else (a.1,a.2++[⟨"waits",g⟩])
def gi(e:En):En:={ e with t:=e.t.map (· - 1) }
noncomputable def nA(r:Rl)(R:Rm):Rm×List Ev:=
 let a:=aX r (R.1,(R.2.map gi).filter fun e=>decide (e.t≠some 0))
 (a.1,(((R.2.map gi).filter fun e=>decide (e.t=some 0)).map fun e=>⟨"ends",e.g⟩)++a.2)
noncomputable def fJ(k:Ak)(g:Nat):List Ev:=match k with
 | .up=>[]
 | .stop=>[⟨"ends",g⟩]
 | .down=>[⟨"down",g⟩]
 | .leave=>[⟨"out",g⟩]
noncomputable def gj(k:Ak)(w:Wd):Wd:=match k with
 | .up=>.rising
 | .down=>.reads
 | .leave=>.out
 | .stop=>if w=.rising then .reads else .out
noncomputable def qh(r:Rl)(k:Ak)(w:Wd)(g:Nat)(es:List En):List En:=(if k=.down\/k=.leave then sK r w es else es).filter fun e=>decide (e.g≠g)
noncomputable def lJ(r:Rl)(R:Rm)(k:Ak)(g:Nat)(w:Wd):Rm×List Ev:=
 let a:=aX r (R.1.set g (gj k w),qh r k w g R.2)
 (a.1,fJ k g++a.2++(if a.1.1[g]?=some .rising then [⟨"waits",g⟩] else []))
noncomputable def dU(r:Rl)(R:Rm)(dd:Dd):Option (Rm×List Ev):=
 if ig R dd=false then none else match dd with
 | .tick=>some (nA r R)
 | .ask wr g t=>some (uy r R wr g t)
 | .act k g=>if k=.up/\(r.c=0\/Wd.rising∈R.1) then some (R,[⟨"no",g⟩]) else match R.1[g]? with
  | some w=>some (lJ r R k g w)
  | none=>none
theorem iF{es:List En}{g:Nat}(h:bu es g=false){e:En}(he:e∈es):e.g≠g:=fun z=>by
 have:bu es g=true:=List.any_eq_true.mpr ⟨e,he,by simp [z]⟩
 rw [h] at this;cases this
theorem ROk.filter{ws:List Wd}{es:List En}(h:ROk (ws,es))(p:En->Bool):ROk (ws,es.filter p):=
 ⟨fun e he=>h.out e (List.mem_filter.mp he).1,List.Sublist.nodup (List.Sublist.map _ (List.filter_sublist)) h.nd⟩
theorem ROk.mapE{ws:List Wd}{es:List En}(h:ROk (ws,es))(f:En->En)(hf:∀ e,(f e).g=e.g):ROk (ws,es.map f):=
 ⟨fun e he=>by obtain⟨x,hx,rfl⟩:=List.mem_map.mp he;rw [hf];exact h.out x hx,by
  show ((es.map f).map (·.g)).Nodup
  rw [List.map_map,show ((·.g) ∘ f)=(fun e:En=>e.g) from funext hf];exact h.nd⟩
theorem ROk.setW{ws:List Wd}{es:List En}(h:ROk (ws,es))(g:Nat)(w:Wd)(hg:∀ e∈es,e.g≠g):ROk (ws.set g w,es):=
 ⟨fun e he=>by show (ws.set g w)[e.g]?=_;rw [List.getElem?_set_ne (Ne.symm (hg e he))];exact h.out e he,h.nd⟩
theorem dj{r:Rl}{R:Rm}(h:ROk R):ROk (aX r R).1/\(aX r R).1.1.length=R.1.length:=IK _ h
theorem yV{R:Rm}{wr:Bool}{g:Nat}{t:Option Int}(h:ROk R)(hw:R.1[g]?=some .out)(hs:bu R.2 g=false):ROk (R.1,R.2++[lB wr g t]):=
 ⟨fun e he=>by
  rcases List.mem_append.mp he with he | he
  ·exact h.out e he
  ·rw [List.mem_singleton.mp he];exact hw,by
  show ((R.2++[lB wr g t]).map (·.g)).Nodup
  rw [List.map_append,List.nodup_append]
  refine⟨h.nd,by simp,fun a ha b hb=>?_⟩
  obtain⟨e,he,rfl⟩:=List.mem_map.mp ha
  simp [lB] at hb
  rw [hb];exact iF hs he⟩
theorem Ry{r:Rl}{w:Wd}{ws:List Wd}{es:List En}(h:ROk (ws,es)):ROk (ws,sK r w es):=by
 unfold sK;split
 ·exact h.mapE _ fun e=>by split <;> rfl
 ·exact h
theorem yZ{r:Rl}{k:Ak}{w:Wd}{g:Nat}{ws:List Wd}{es:List En}(h:ROk (ws,es))(w':Wd):ROk (ws.set g w',qh r k w g es):=by
 unfold qh
 refine ROk.setW (ROk.filter ?_ _) g w' fun e he=>of_decide_eq_true (List.mem_filter.mp he).2
 split
 ·exact Ry h
 ·exact h
theorem po{r:Rl}{R:Rm}{dd:Dd}{x:Rm×List Ev}(h:ROk R)(hx:dU r R dd=some x):ROk x.1/\x.1.1.length=R.1.length:=by
 unfold dU at hx
 split at hx
 ·cases hx
 ·rename_i hc
  have hc:ig R dd=true:=by simpa using hc
  cases dd with
  | tick=>
   cases hx
   obtain⟨a,b⟩:=dj (r:=r) (R:=(R.1,(R.2.map gi).filter fun e=>decide (e.t≠some 0))) (ROk.filter (ROk.mapE h gi fun e=>rfl) _)
   exact⟨a,b⟩
  | ask wr g t=>
   cases hx
   simp only [ig,Bool.and_eq_true,decide_eq_true_eq,Bool.not_eq_true'] at hc
   obtain⟨a,b⟩:=dj (r:=r) (yV (wr:=wr) (t:=t) h hc.1 hc.2)
   unfold uy
   dsimp only
   split
   ·exact⟨a,b⟩
   ·split
    ·exact⟨ROk.filter a _,b⟩
    ·exact⟨a,b⟩
  | act k g=>
   dsimp only at hx
   split at hx
   ·cases hx;exact⟨h,rfl⟩
   ·split at hx
    ·rename_i w hw
     cases hx
     obtain⟨a,b⟩:=dj (r:=r) (yZ (r:=r) (k:=k) (w:=w) (g:=g) h (gj k w))
     exact⟨a,b.trans (by simp)⟩
    ·cases hx
def TH:ME:=bJ (cY (au aw (ab 1) (mC (.int 1)))) (ah 0) (bX) (au aw (ab 0) (mC (.int 0))) [none]
def DR:ME:=bJ (cY (au aw (ab 1) (mC (.int 1)))) (ah 0) (av (au gK (au aw (ab 0) (mC (.int 0))) (ab 1))) (ab 0) [none,some 4]
def tz(settled:PF):MS:=
 az (aH (ab 2) (aZ 3 (af (ah 3) (af (ah 4) (af (ah 5) (aK)))))) (az (aH (aT (aa (ab 4) (aa (ab 3) (aa (mC (.int 0)) (aa (lF (av (au bT (ab 5) (mC (.int 0)))) (mC (.int 1)) (ab 5)) (ag)))))) (ah 6)) (az (aH (ak 2 settled (aa (ab 0) (aa (aT (aa (au aw (ab 1) (mC (.int 0))) (aa (au aR (au aw (ab 1) (mC (.int 1))) (aT (aa (ab 6) (ag)))) (ag)))) (ag)))) (aZ 2 (af (ah 1) (af (ah 7) (aK))))) (az (bC (av (au pY (ab 4) TH)) (aU (aT (aa (ab 1) (aa (bf (aM (cj .tup)) (aa (ab 7) (ag))) (ag))))) (aY)) (az (bC (av (au bT (ab 5) (mC (.int 0)))) (aU (aT (aa (aT (aa (au aw (ab 1) (mC (.int 0))) (aa (bf (aM (cj .tup)) (aa DR (ag))) (ag)))) (aa (bf (aM (cj .tup)) (aa (au aR (ab 7) (dM (aa (aT (aa (mC (.str "no")) (aa (ab 4) (ag)))) (ag)))) (ag))) (ag))))) (aY)) (aU (aT (aa (ab 1) (aa (bf (aM (cj .tup)) (aa (au aR (ab 7) (dM (aa (aT (aa (mC (.str "waits")) (aa (ab 4) (ag)))) (ag)))) (ag))) (ag)))))))))
def yM:ME:=bJ (cY (ab 4)) (ah 0) (bX) (au aR (bD (ab 0) (bE) (cb (mC (.int 3)))) (aT (aa (lF (av (au ug (au aw (ab 0) (mC (.int 3))) (mC .non))) (mC .non) (au ny (au aw (ab 0) (mC (.int 3))) (mC (.int 1)))) (ag)))) [none]
def DC:ME:=bJ (cY (ab 5)) (ah 0) (av (au bT (au aw (ab 0) (mC (.int 3))) (mC (.int 0)))) (aT (aa (mC (.str "ends")) (aa (au aw (ab 0) (mC (.int 0))) (ag)))) [none]
def Dz:ME:=bJ (cY (ab 5)) (ah 0) (av (au gK (au aw (ab 0) (mC (.int 3))) (mC (.int 0)))) (ab 0) [none]
def uk(settled:PF):MS:=az (aH yM (ah 5)) (az (aH DC (ah 6)) (az (aH (ak 2 settled (aa (ab 0) (aa (aT (aa (ab 3) (aa (bf (aM (cj .tup)) (aa Dz (ag))) (ag)))) (ag)))) (aZ 2 (af (ah 1) (af (ah 7) (aK))))) (aU (aT (aa (ab 1) (aa (bf (aM (cj .tup)) (aa (au aR (ab 6) (ab 7)) (ag))) (ag)))))))
def yL:ME:=au cH (dM (aa (aT (aa (lF (av (au bT (ab 8) (mC (.str "stop")))) (mC (.str "ends")) (lF (av (au bT (ab 8) (mC (.str "down")))) (mC (.str "down")) (mC (.str "out")))) (aa (ab 9) (ag)))) (ag))) (bf (aM kM) (aa (au gK (ab 8) (mC (.str "up"))) (ag)))
def yK:ME:=au aw (iE [(mC (.str "up"),mC (.str "rising")),(mC (.str "down"),mC (.str "reads")),(mC (.str "leave"),mC (.str "out")),(mC (.str "stop"),au aw (dM (aa (mC (.str "out")) (aa (mC (.str "reads")) (ag)))) (bf (aM kM) (aa (au bT (ab 10) (mC (.str "rising"))) (ag))))]) (ab 8)
def Dy:ME:=au cH (dM (aa (aT (aa (mC (.str "waits")) (aa (ab 9) (ag)))) (ag))) (bf (aM kM) (aa (au bT (au aw (au aw (ab 1) (mC (.int 0))) (ab 9)) (mC (.str "rising"))) (ag)))
def DB:ME:=bJ (cY (ab 4)) (ah 0) (av (au gK (au aw (ab 0) (mC (.int 0))) (ab 1))) (ab 0) [none,some 9]
def LB(settled marked put:PF):MS:=az (aH (au aw (ab 3) (ab 9)) (ah 10)) (az (aH yL (ah 11)) (az (bC (av (au on (ab 8) (aT (aa (mC (.str "down")) (aa (mC (.str "leave")) (ag)))))) (aH (ak 3 marked (aa (ab 0) (aa (ab 10) (aa (ab 4) (ag))))) (ah 4)) (aY)) (az (aH (bf (aM (cj .tup)) (aa DB (ag))) (ah 4)) (az (aH yK (ah 12)) (az (aH (ak 2 settled (aa (ab 0) (aa (aT (aa (ak 3 put (aa (ab 3) (aa (ab 9) (aa (ab 12) (ag))))) (aa (ab 4) (ag)))) (ag)))) (aZ 2 (af (ah 1) (af (ah 7) (aK))))) (az (aH Dy (ah 13)) (aU (aT (aa (ab 1) (aa (bf (aM (cj .tup)) (aa (au aR (au aR (ab 11) (ab 7)) (ab 13)) (ag))) (ag)))))))))))
def jJ(can asked settled marked put:PF):MS:=
 az (bC (dQ (cV (ak 2 can (aa (ab 1) (aa (ab 2) (ag)))))) (aU (mC .non)) (aY)) (az (aH (ab 1) (aZ 2 (af (ah 3) (af (ah 4) (aK))))) (az (bC (av (au bT (au aw (ab 2) (mC (.int 0))) (mC (.str "tick")))) (uk settled) (aY)) (az (aH (bD (ab 2) (bE) (cb (mC (.int 2)))) (aZ 2 (af (ah 8) (af (ah 9) (aK))))) (az (bC (av (au on (ab 8) (aT (aa (mC (.str "read")) (aa (mC (.str "write")) (ag)))))) (aU (ak 3 asked (aa (ab 0) (aa (ab 1) (aa (ab 2) (ag)))))) (aY)) (az (bC (cK (av (au bT (ab 8) (mC (.str "up")))) (fC (av (au bT (au aw (ab 0) (mC (.int 3))) (mC (.int 0)))) (av (au on (mC (.str "rising")) (ab 3))))) (aU (aT (aa (ab 1) (aa (aT (aa (aT (aa (mC (.str "no")) (aa (ab 9) (ag)))) (ag))) (ag))))) (aY)) (LB settled marked put))))))
end MI
namespace MI
open PySem PySem.Spec PyProof.Rows L2 M
def nh(settled:PF):Prop:=∀ (S:ac) (r:Rl) (R:Rm),ROk R->R.1.length<=50->settled [r.d,aP R] S=some (.tup [aP (aX r R).1,.ref S.length],S++[.lst ((aX r R).2.map Ev.d)])
theorem mP{r:Rl}:∀ (n:Nat) {R:Rm},(rX r n R).2.length<=n
 | 0,R=>Nat.le_refl _
 | n+1,R=>by
  have h1:=Ek (r:=r) (R:=R)
  have h2:=mP (r:=r) n (R:=(lK r R).1)
  show ((lK r R).2++(rX r n (lK r R).1).2).length<=_
  rw [List.length_append];omega
section
variable{S:ac}{ws:List Wd}{es:List En}{r:Rl}{R:Rm}
theorem jo{t:Option Int}:bT S (bA t) (.int 0)=some (.bl (decide (t=some 0))):=by
 cases t with
 | none=>exact lv rfl rfl
 | some k=>
  show bT S (.int k) (.int 0)=_
  rw [gB];congr 2;rw [Bool.eq_iff_iff];simp
theorem Bi{t:Option Int}:gK S (bA t) (.int 0)=some (.bl (!decide (t=some 0))):=by
 cases t with
 | none=>exact qa rfl rfl
 | some k=>
  show gK S (.int k) (.int 0)=_
  rw [KG];congr 3;rw [Bool.eq_iff_iff];simp
theorem IQ{g:Nat}{b:Option D}{cap:List (Option Nat)}{env:bm}(hc:ut cap env=[b,some (.int (g:Int))])(hl:es.length<=100):mn (ah 0) (av (au gK (au aw (ab 0) (mC (.int 0))) (ab 1))) (ab 0) cap env (es.map En.d,S)=some (.lst ((es.filter fun e=>decide (e.g≠g)).map En.d),S):=by
 exact eR (S:=S) (t:=av (au gK (au aw (ab 0) (mC (.int 0))) (ab 1))) (e:=ab 0) (cap:=cap) (env:=env) (rest:=[some (.int (g:Int))]) (a:=b) (enc:=En.d) (p:=fun e=>decide (e.g≠g)) (f:=En.d) (xs:=es) hc (by omega) (fun x _=>by
  have:(!((x.g:Int) == (g:Int)))=decide (x.g≠g):=by rw [Bool.eq_iff_iff];simp;omega
  simp [En.ix0,-beq_iff_eq,this]) (fun x _ _=>by simp)
theorem KQ{S:ac}{l:List Ev}:aM (cj .tup) [.ref S.length] (S++[.lst (l.map Ev.d)])=some (du l,S++[.lst (l.map Ev.d)]):=pX jO
theorem SJ{S:ac}{l:List Ev}{v:Ev}(h:l.length<=500):aR (S++[.lst (l.map Ev.d)]) (.ref S.length) (.lst [v.d])=some (.lst ((l++[v]).map Ev.d)):=by
 rw [EY (xs:=l.map Ev.d) (ys:=[v.d]) rfl (by simp only [qu,jO]) rfl (by simp;omega)];simp
theorem EZ{S:ac}{k l:List Ev}(h:l.length<=500)(h':k.length<=400):aR (S++[.lst (l.map Ev.d)]) (.lst (k.map Ev.d)) (.ref S.length)=some (.lst ((k++l).map Ev.d)):=by
 rw [EY (xs:=k.map Ev.d) (ys:=l.map Ev.d) rfl rfl (by simp only [qu,jO]) (by simp;omega)];simp
theorem GX{g:Nat}:pY S (.int (g:Int)) (.lst (es.map fun e=>.int (e.g:Int)))=some (.bl (!bu es g)):=by
 have h:=KM (S:=S) (es:=es) (g:=g)
 have ok:(es.map fun e=>D.int (e.g:Int)).all (cB 39)=true:=by rw [List.all_eq_true];intro d hd;obtain⟨e,_,rfl⟩:=List.mem_map.mp hd;rfl
 rw [jZ (ys:=es.map fun e=>D.int (e.g:Int)) rfl rfl ok] at h
 rw [GW (ys:=es.map fun e=>D.int (e.g:Int)) rfl rfl ok]
 simp only [Option.some.injEq,D.bl.injEq] at h
 rw [h]
theorem HR{settled:PF}(O:nh settled){N:List Str}(hN:N.length=8){wr:Bool}{g:Nat}{t:Option Int}(h:ROk R)(hl:R.1.length<=50)(hw:R.1[g]?=some .out)(hs:bu R.2 g=false) :
  ∃ T,aO N (tz settled) 3 [r.d,aP R,(Dd.ask wr g t).d] S=some (.tup [aP (uy r R wr g t).1,du (uy r R wr g t).2],S++T):=by
 have hst:aA N [r.d,aP R,(Dd.ask wr g t).d]=[some r.d,some (aP R),some (Dd.ask wr g t).d,none,none,none,none,none]:=by simp [aA,hN,List.replicate]
 rw [bd (show [r.d,aP R,(Dd.ask wr g t).d].length=3 from rfl),hst]
 have hA:=yV (wr:=wr) (t:=t) h hw hs
 have hO:=O S r (R.1,R.2++[lB wr g t]) hA hl
 obtain⟨q1,q2⟩:=dj (r:=r) hA
 have qf:(aX r (R.1,R.2++[lB wr g t])).2.length<=100:=Nat.le_trans (mP _) (by show 2 * R.1.length<=100;omega)
 have ql:(aX r (R.1,R.2++[lB wr g t])).1.2.length<=50:=Nat.le_trans q1.len (by rw [q2];exact hl)
 unfold uy
 generalize hE:aX r (R.1,R.2++[lB wr g t])=A at *
 obtain⟨R',evs⟩:=A
 dsimp only at *
 have k2:∀ S (x y:D),cr ([x,y],S)=some (.tup [x,y],S):=fun S x y=>aV (by simp)
 have k1:∀ S (x:D),cr ([x],S)=some (.tup [x],S):=fun S x=>aV (by simp)
 have l1:∀ S (x:D),kA ([x],S)=some (.lst [x],S):=fun S x=>cR (by simp)
 have k4:∀ S (x y z w:D),cr ([x,y,z,w],S)=some (.tup [x,y,z,w],S):=fun S x y z w=>aV (by simp)
 have g3:∀ env S,aZ 3 (af (ah 3) (af (ah 4) (af (ah 5) (aK)))) (Dd.ask wr g t).d env S=(af (ah 3) (af (ah 4) (af (ah 5) (aK)))) [.str (bo wr),.int (g:Int),bA t] env S:=fun env S=>yy
 have kif:∀ env:bm,kIf (mC (.int 1)) (ab 5) [some r.d,some (aP R),some (Dd.ask wr g t).d,some (.str (bo wr)),some (.int (g:Int)),some (bA t),none,none] (decide (t=some 0),S)=some (bA (if t=some 0 then some 1 else t),S):=fun env=>by
  by_cases ht:t=some 0
  ·simp [ht];rfl
  ·simp [ht]
 have ad:∀ S,aR S (bZ R.2) (.tup [.tup [.int (g:Int),.str (bo wr),.int 0,bA (if t=some 0 then some 1 else t)]])=some (bZ (R.2++[lB wr g t])):=fun S=>by
  have:=h.len
  rw [show bZ R.2=.tup (R.2.map En.d) from rfl,gC (by simp;omega)]
  unfold bZ;rw [List.map_append];rfl
 have hO':settled [r.d,.tup [cm R.1,bZ (R.2++[lB wr g t])]] S=some (.tup [aP R',.ref S.length],S++[.lst (evs.map Ev.d)]):=hO
 have gs:∀ (T:ac) (a6:Option D),TH [some r.d,some (aP R'),some (Dd.ask wr g t).d,some (.str (bo wr)),some (.int (g:Int)),some (bA t),a6,some (.ref S.length)] T=some (.lst (R'.2.map fun e=>.int (e.g:Int)),T):=fun T a6=>by
  simp only [TH,bU,dg,aE,ai,bF,bM,bL,oj,ob,aj,aq,bb,ar,Rm.ix1,dS,gsC (es:=R'.2) (cap:=[none]) (env:=[some r.d,some (aP R'),some (Dd.ask wr g t).d,some (.str (bo wr)),some (.int (g:Int)),some (bA t),a6,some (.ref S.length)]) rfl (by omega)]
 have rs:∀ (T:ac) (a6:Option D),DR [some r.d,some (aP R'),some (Dd.ask wr g t).d,some (.str (bo wr)),some (.int (g:Int)),some (bA t),a6,some (.ref S.length)] T=some (.lst ((R'.2.filter fun e=>decide (e.g≠g)).map En.d),T):=fun T a6=>by
  simp only [DR,bU,dg,aE,ai,bF,bM,bL,oj,ob,aj,aq,bb,ar,Rm.ix1,dS,IQ (es:=R'.2) (g:=g) (cap:=[none,some 4]) (env:=[some r.d,some (aP R'),some (Dd.ask wr g t).d,some (.str (bo wr)),some (.int (g:Int)),some (bA t),a6,some (.ref S.length)]) rfl (by omega)]
 have no:∀ w:Str,aR (S++[.lst (evs.map Ev.d)]) (.ref S.length) (.lst [.tup [.str w,.int (g:Int)]])=some (.lst ((evs++[Ev.mk w g]).map Ev.d)):=fun w=>SJ (v:=⟨w,g⟩) (by omega)
 refine⟨[.lst (evs.map Ev.d)],?_⟩
 simp only [tz,aJ,bh,ai,bF,bM,bL,oj,ob,aj,bi,g3,bB,aN,cS,bV,el,eQ,bG,aF,bg,ao,am,bb,jc,aD,aE,aq,ar,jo,aB,kif [],ay,al,k4,aC,Rm.ix0,Rm.ix1,k1,ad,k2,aQ,hO',cw,be,gs,GX]
 cases hb:bu R'.2 g with
 | false=>simp only [Bool.not_false,bO,aW,bg,ao,ai,bF,bM,bL,oj,ob,aj,am,bR,ay,al,bS,KQ,k2,bp,bP,aG,if_pos]
 | true=>
  simp only [Bool.not_true,bI,bt,ob,aF,reduceCtorEq,if_neg,not_false_eq_true]
  by_cases ht:t=some 0
  ·have fe:∀ S,bT S (bA t) (.int 0)=some (.bl true):=fun S=>by rw [jo,decide_eq_true ht]
   simp only [if_pos ht,aJ,be,aD,fe,aB,bO,aW,bg,ao,ai,bF,bM,bL,oj,ob,aj,am,aE,aq,bb,ar,Rm.ix0,bR,rs,ay,al,bS,eL,k2,gX,l1,no,bp,bP,aG]
   rfl
  ·have fe:∀ S,bT S (bA t) (.int 0)=some (.bl false):=fun S=>by rw [jo,decide_eq_false ht]
   simp only [if_neg ht,aJ,be,aD,fe,aB,bI,bt,ob,aF,aW,bg,ao,ai,bF,bM,bL,oj,aj,am,aE,aq,bb,ar,bR,ay,al,bS,eL,k2,gX,l1,no,bp,aG]
   rfl
end
end MI
namespace MI
open PySem PySem.Spec PyProof.Rows L2 M
structure TW(can asked settled marked put:PF):Prop where
 c:∀ (S:ac) (R:Rm) (dd:Dd),R.2.length<=60->dd.Ok R.1.length->∃ T,can [aP R,dd.d] S=some (.bl (ig R dd),S++T)
 a:∀ (S:ac) (r:Rl) (R:Rm) (wr:Bool) (g:Nat) (t:Option Int),ROk R->R.1.length<=50->R.1[g]?=some .out->bu R.2 g=false->∃ T,asked [r.d,aP R,(Dd.ask wr g t).d] S=some (.tup [aP (uy r R wr g t).1,du (uy r R wr g t).2],S++T)
 s:nh settled
 m:∀ (S:ac) (r:Rl) (w:Wd) (es:List En),es.length<=60->marked [r.d,w.d,bZ es] S=some (bZ (sK r w es),S)
 p:∀ (S:ac) (ws:List Wd) (i:Nat) (w:Wd),i<ws.length->ws.length<=100->put [cm ws,.int (i:Int),w.d] S=some (cm (ws.set i w),S)
section
variable{S:ac}{ws:List Wd}{es:List En}{r:Rl}{R:Rm}
theorem SY{e:En}:(au aR (bD (ab 0) (bE) (cb (mC (.int 3)))) (aT (aa (lF (av (au ug (au aw (ab 0) (mC (.int 3))) (mC .non))) (mC .non) (au ny (au aw (ab 0) (mC (.int 3))) (mC (.int 1)))) (ag)))) [some e.d] S=some ((gi e).d,S):=by
 have c1:jE e.d none (some 3,S)=some (.tup [.int (e.g:Nat),.str (bo e.wr),.int e.m],S):=rfl
 have k1:∀ x,cr ([x],S)=some (.tup [x],S):=fun x=>aV (by simp)
 have a2:∀ x y z w,aR S (.tup [x,y,z]) (.tup [w])=some (.tup [x,y,z,w]):=fun x y z w=>gC (by simp)
 have cu:∀ a b c d:D,iz [a,b,c,d] none (some 3)=[a,b,c]:=fun _ _ _ _=>rfl
 obtain⟨g,wr,m,t⟩:=e
 cases t with
 | none=>simp [at4,cu,bA,lm,k1,a2,gi,En.d]
 | some k=>simp [at4,cu,bA,lm,k1,a2,gi,En.d]
theorem Hr{settled:PF}(O:nh settled){a2 a5 a6 a7 a8 a9 b0 b1 b2 b3:Option D}(h:ROk R)(hl:R.1.length<=50) :
  ∃ T,(uk settled [some r.d,some (aP R),a2,some (cm R.1),some (bZ R.2),a5,a6,a7,a8,a9,b0,b1,b2,b3] S).bind Nn=some (.tup [aP (nA r R).1,du (nA r R).2],S++T)/\uk settled [some r.d,some (aP R),a2,some (cm R.1),some (bZ R.2),a5,a6,a7,a8,a9,b0,b1,b2,b3] S=some (.rt (.tup [aP (nA r R).1,du (nA r R).2]) (S++T)):=by
 have hle:=h.len
 have f1:yM [some r.d,some (aP R),a2,some (cm R.1),some (bZ R.2),a5,a6,a7,a8,a9,b0,b1,b2,b3] S=some (.lst ((R.2.map gi).map En.d),S):=by
  have k:=eR (S:=S) (t:=bX) (e:=au aR (bD (ab 0) (bE) (cb (mC (.int 3)))) (aT (aa (lF (av (au ug (au aw (ab 0) (mC (.int 3))) (mC .non))) (mC .non) (au ny (au aw (ab 0) (mC (.int 3))) (mC (.int 1)))) (ag)))) (cap:=[none]) (env:=[some r.d,some (aP R),a2,some (cm R.1),some (bZ R.2),a5,a6,a7,a8,a9,b0,b1,b2,b3]) (rest:=[]) (a:=none) (enc:=En.d) (p:=fun _=>true) (f:=fun e=>(gi e).d) (xs:=R.2) rfl (by omega) (fun x _=>jI) (fun x _ _=>SY)
  rw [List.filter_eq_self.mpr (fun _ _=>rfl)] at k
  simp only [yM,bU,dg,ai,bF,bM,bL,oj,ob,aj,dS,k,List.map_map]
  rfl
 generalize hF:R.2.map gi=fs at f1
 have hfl:fs.length<=50:=by rw [<- hF,List.length_map];omega
 have k2:∀ S (x y:D),cr ([x,y],S)=some (.tup [x,y],S):=fun S x y=>aV (by simp)
 have f2:DC [some r.d,some (aP R),a2,some (cm R.1),some (bZ R.2),some (.lst (fs.map En.d)),a6,a7,a8,a9,b0,b1,b2,b3] S=some (.lst (((fs.filter fun e=>decide (e.t=some 0)).map fun e=>Ev.mk "ends" e.g).map Ev.d),S):=by
  have k:=eR (S:=S) (t:=av (au bT (au aw (ab 0) (mC (.int 3))) (mC (.int 0)))) (e:=aT (aa (mC (.str "ends")) (aa (au aw (ab 0) (mC (.int 0))) (ag)))) (cap:=[none]) (env:=[some r.d,some (aP R),a2,some (cm R.1),some (bZ R.2),some (.lst (fs.map En.d)),a6,a7,a8,a9,b0,b1,b2,b3]) (rest:=[]) (a:=none) (enc:=En.d) (p:=fun e=>decide (e.t=some 0)) (f:=fun e=>(Ev.mk "ends" e.g).d) (xs:=fs) rfl (by omega) (fun x _=>by simp [En.ix3,jo]) (fun x _ _=>by simp [En.ix0,k2,Ev.d])
  simp only [DC,bU,dg,ai,bF,bM,bL,oj,ob,aj,yr,k,List.map_map]
  rfl
 have f3:∀ a6,Dz [some r.d,some (aP R),a2,some (cm R.1),some (bZ R.2),some (.lst (fs.map En.d)),a6,a7,a8,a9,b0,b1,b2,b3] S=some (.lst ((fs.filter fun e=>decide (e.t≠some 0)).map En.d),S):=fun a6=>by
  have k:=eR (S:=S) (t:=av (au gK (au aw (ab 0) (mC (.int 3))) (mC (.int 0)))) (e:=ab 0) (cap:=[none]) (env:=[some r.d,some (aP R),a2,some (cm R.1),some (bZ R.2),some (.lst (fs.map En.d)),a6,a7,a8,a9,b0,b1,b2,b3]) (rest:=[]) (a:=none) (enc:=En.d) (p:=fun e=>decide (e.t≠some 0)) (f:=En.d) (xs:=fs) rfl (by omega) (fun x _=>by simp [En.ix3,Bi]) (fun x _ _=>by simp)
  simp only [Dz,bU,dg,ai,bF,bM,bL,oj,ob,aj,yr,k]
 have hA:ROk (R.1,fs.filter fun e=>decide (e.t≠some 0)):=by rw [<- hF];exact ROk.filter (ROk.mapE h gi fun e=>rfl) _
 have hO:=O S r (R.1,fs.filter fun e=>decide (e.t≠some 0)) hA hl
 have qf:(aX r (R.1,fs.filter fun e=>decide (e.t≠some 0))).2.length<=100:=Nat.le_trans (mP _) (by show 2 * R.1.length<=100;omega)
 unfold nA
 rw [hF]
 generalize hE:aX r (R.1,fs.filter fun e=>decide (e.t≠some 0))=A at *
 obtain⟨R',evs⟩:=A
 dsimp only at *
 have hO':settled [r.d,.tup [cm R.1,.tup ((fs.filter fun e=>decide (e.t≠some 0)).map En.d)]] S=some (.tup [aP R',.ref S.length],S++[.lst (evs.map Ev.d)]):=hO
 have ad:=EZ (S:=S) (k:=(fs.filter fun e=>decide (e.t=some 0)).map fun e=>Ev.mk "ends" e.g) (l:=evs) (by omega) (by rw [List.length_map];exact Nat.le_trans (List.length_filter_le _ _) (by omega))
 have key:uk settled [some r.d,some (aP R),a2,some (cm R.1),some (bZ R.2),a5,a6,a7,a8,a9,b0,b1,b2,b3] S=some (.rt (.tup [aP R',du (((fs.filter fun e=>decide (e.t=some 0)).map fun e=>Ev.mk "ends" e.g)++evs)]) (S++[.lst (evs.map Ev.d)])):=by
  simp only [uk,aJ,bh,f1,ob,bi,aN,el,eQ,bG,aF,f2,aC,ao,ai,bF,bM,bL,oj,aj,am,bg,bR,f3,ay,al,bS,eL,k2,aQ,hO',cw,bB,cS,bV,aW,aE,aq,ar,ad,bp]
  rfl
 exact⟨[.lst (evs.map Ev.d)],by rw [key,ob,aG],key⟩
theorem EX{xs:List D}{k:Int}(h0:0<=k)(h1:k<=100000)(h:xs.length * k.toNat<=1000):cH S (.lst xs) (.int k)=some (.lst (List.replicate k.toNat xs).flatten):=if_pos ⟨by omega,by omega,sz h⟩
theorem KH{x:D}{b:Bool}:cH S (.lst [x]) (.int (if b=true then 1 else 0))=some (.lst (if b=true then [x] else [])):=by
 cases b
 ·exact EX (by decide) (by decide) (by simp)
 ·exact EX (by decide) (by decide) (by simp)
theorem akS(k j:Ak):(k.s == j.s)=decide (k=j):=by cases k <;> cases j <;> decide +kernel
theorem yD{k j:Ak}:bT S (.str k.s) (.str j.s)=some (.bl (decide (k=j))):=by rw [cI,akS]
theorem DD{k:Ak}{g:Nat}{a0 a1 a2 a3 a4 a5 a6 a7 b0 b1 b2 b3:Option D}:yL [a0,a1,a2,a3,a4,a5,a6,a7,some (.str k.s),some (.int (g:Int)),b0,b1,b2,b3] S=some (.lst ((fJ k g).map Ev.d),S):=by
 have e1:bT S (.str k.s) (.str "stop")=some (.bl (decide (k=.stop))):=yD (j:=.stop)
 have e2:bT S (.str k.s) (.str "down")=some (.bl (decide (k=.down))):=yD (j:=.down)
 have e3:gK S (.str k.s) (.str "up")=some (.bl (!decide (k=.up))):=by rw [pZ];exact congrArg (fun b=>some (D.bl (!b))) (akS k .up)
 have k2:∀ S (x y:D),cr ([x,y],S)=some (.tup [x,y],S):=fun S x y=>aV (by simp)
 have l1:∀ S (x:D),kA ([x],S)=some (.lst [x],S):=fun S x=>cR (by simp)
 cases k <;> simp only [yL,aE,gX,ao,bg,jc,aD,ai,bF,bM,bL,oj,ob,aj,aq,bb,ar,e1,e2,e3,aB,reduceCtorEq,decide_false,decide_true,tG,vY,am,ay,al,k2,l1,bR,bS,pi,KH,fJ] <;> rfl
theorem Dx{k:Ak}{w:Wd}{a0 a1 a2 a3 a4 a5 a6 a7 a9 b1 b2 b3:Option D}:yK [a0,a1,a2,a3,a4,a5,a6,a7,some (.str k.s),a9,some w.d,b1,b2,b3] S=some ((gj k w).d,S):=by
 have e1:bT S w.d (.str "rising")=some (.bl (decide (w=.rising))):=lu (b:=.rising)
 have l2:∀ S (x y:D),kA ([x,y],S)=some (.lst [x,y],S):=fun S x y=>cR (by simp)
 have ix:aw S (.lst [.str "out",.str "reads"]) (.int (if decide (w=.rising)=true then 1 else 0))=some (if w=.rising then Wd.reads else Wd.out).d:=by by_cases h:w=.rising <;> simp [h] <;> rfl
 have kd:∀ x,tH ([(.inr "up",.str "rising"),(.inr "down",.str "reads"),(.inr "leave",.str "out"),(.inr "stop",x)],S)=some (.dct ([((Sum.inr "up":bz),D.str "rising"),(.inr "down",.str "reads"),(.inr "leave",.str "out"),(.inr "stop",x)].map (·.1)) ([((Sum.inr "up":bz),D.str "rising"),(.inr "down",.str "reads"),(.inr "leave",.str "out"),(.inr "stop",x)].map (·.2)),S):=fun x=>AL (show [(Sum.inr "up":bz),.inr "down",.inr "leave",.inr "stop"].Nodup by decide +kernel) (by show 4<=15;decide)
 have fx:∀ x,aw S (.dct ([((Sum.inr "up":bz),D.str "rising"),(.inr "down",.str "reads"),(.inr "leave",.str "out"),(.inr "stop",x)].map (·.1)) ([((Sum.inr "up":bz),D.str "rising"),(.inr "down",.str "reads"),(.inr "leave",.str "out"),(.inr "stop",x)].map (·.2))) (.str k.s)=some (match k with | .up=>.str "rising" | .down=>.str "reads" | .leave=>.str "out" | .stop=>x):=fun x=>by
  rw [fIx_d yn];cases k <;> simp (decide:=true) [Ak.s]
 simp only [yK,aE,EL,lW,bb,ob,CU,CT,gX,ao,am,ay,al,l2,aq,bR,ai,bF,bM,bL,oj,aj,ar,e1,bS,pi,ix,nU,CS,kd,fx]
 cases k <;> rfl
theorem Hs{g:Nat}{R':Rm}{w:Wd}{a0 a2 a3 a4 a5 a6 a7 a8 b0 b1 b2 b3:Option D}(hw:R'.1[g]?=some w):Dy [a0,some (aP R'),a2,a3,a4,a5,a6,a7,a8,some (.int (g:Int)),b0,b1,b2,b3] S=some (.lst ((if w=.rising then [Ev.mk "waits" g] else []).map Ev.d),S):=by
 have k2:∀ S (x y:D),cr ([x,y],S)=some (.tup [x,y],S):=fun S x y=>aV (by simp)
 have l1:∀ S (x:D),kA ([x],S)=some (.lst [x],S):=fun S x=>cR (by simp)
 have x1:aw S (cm R'.1) (.int (g:Int))=some w.d:=rM hw
 have e1:bT S w.d (.str "rising")=some (.bl (decide (w=.rising))):=lu (b:=.rising)
 simp only [Dy,aE,gX,ao,bg,bb,ob,am,ai,bF,bM,bL,oj,aj,ay,al,k2,l1,aq,bR,ar,Rm.ix0,x1,e1,bS,pi,KH]
 by_cases h:w=.rising <;> simp [h] <;> rfl
theorem Ht{g:Nat}{a0 a1 a2 a3 a5 a6 a7 a8 b0 b1 b2 b3:Option D}(hl:es.length<=100):DB [a0,a1,a2,a3,some (bZ es),a5,a6,a7,a8,some (.int (g:Int)),b0,b1,b2,b3] S=some (.lst ((es.filter fun e=>decide (e.g≠g)).map En.d),S):=by
 simp only [DB,bU,dg,ai,bF,bM,bL,oj,ob,aj,dS,IQ (es:=es) (g:=g) (cap:=[none,some 9]) (env:=[a0,a1,a2,a3,some (bZ es),a5,a6,a7,a8,some (.int (g:Int)),b0,b1,b2,b3]) rfl hl]
theorem SI{k:Ak}:on S (.str k.s) (.tup [.str "down",.str "leave"])=some (.bl (decide (k=.down\/k=.leave))):=by
 have h:([D.str "down",D.str "leave"].any fun d=>jC d (.str k.s))=decide (k=.down\/k=.leave):=by cases k <;> decide +kernel
 rw [jZ (ys:=[.str "down",.str "leave"]) rfl rfl rfl,h]
theorem NG{w:Wd}:(sK r w es).length=es.length:=by unfold sK;split <;> simp
theorem LA{can asked settled marked put:PF}(O:TW can asked settled marked put){k:Ak}{g:Nat}{w:Wd}{a2 a5 a6 a7 b0 b1 b2 b3:Option D}(h:ROk R)(hl:R.1.length<=50)(hw:R.1[g]?=some w) :
  ∃ T,LB settled marked put [some r.d,some (aP R),a2,some (cm R.1),some (bZ R.2),a5,a6,a7,some (.str k.s),some (.int (g:Int)),b0,b1,b2,b3] S=some (.rt (.tup [aP (lJ r R k g w).1,du (lJ r R k g w).2]) (S++T)):=by
 have hle:=h.len
 have hg:g<R.1.length:=(List.getElem?_eq_some_iff.mp hw).1
 have x1:∀ S,aw S (cm R.1) (.int (g:Int))=some w.d:=fun S=>rM hw
 have k2:∀ S (x y:D),cr ([x,y],S)=some (.tup [x,y],S):=fun S x y=>aV (by simp)
 have mk:∀ env S,env=[some r.d,some (aP R),a2,some (cm R.1),some (bZ R.2),a5,a6,a7,some (.str k.s),some (.int (g:Int)),some w.d,some (.lst ((fJ k g).map Ev.d)),b2,b3]->bC (av (au on (ab 8) (aT (aa (mC (.str "down")) (aa (mC (.str "leave")) (ag)))))) (aH (ak 3 marked (aa (ab 0) (aa (ab 10) (aa (ab 4) (ag))))) (ah 4)) (aY) env S=some (.nx [some r.d,some (aP R),a2,some (cm R.1),some (bZ (if k=.down\/k=.leave then sK r w R.2 else R.2)),a5,a6,a7,some (.str k.s),some (.int (g:Int)),some w.d,some (.lst ((fJ k g).map Ev.d)),b2,b3] S):=fun env S he=>by
  subst he
  simp only [be,aD,aE,ai,bF,bM,bL,oj,ob,aj,aq,bg,ao,bb,am,ay,al,k2,ar,SI,aB]
  by_cases hk:k=.down\/k=.leave
  ·rw [decide_eq_true hk,if_pos hk]
   simp only [bO,bh,aC,ao,ai,bF,bM,bL,oj,ob,aj,am,ay,al,bH,O.m S r w R.2 (by omega),bi,aN,el,eQ,bG]
  ·rw [decide_eq_false hk,if_neg hk]
   simp only [bI,bt]
 have hel:(if k=.down\/k=.leave then sK r w R.2 else R.2).length<=100:=by split <;> (try rw [NG]) <;> omega
 have hA:=yZ (r:=r) (k:=k) (w:=w) (g:=g) h (gj k w)
 have hO:=O.s S r (R.1.set g (gj k w),qh r k w g R.2) hA (by simp;exact hl)
 obtain⟨q1,q2⟩:=dj (r:=r) hA
 have qf:(aX r (R.1.set g (gj k w),qh r k w g R.2)).2.length<=100:=Nat.le_trans (mP _) (by show 2 * (R.1.set g (gj k w)).length<=100;rw [List.length_set];omega)
 have pp:∀ S,put [cm R.1,.int (g:Int),(gj k w).d] S=some (cm (R.1.set g (gj k w)),S):=fun S=>O.p S R.1 g _ hg (by omega)
 unfold lJ
 generalize hE:aX r (R.1.set g (gj k w),qh r k w g R.2)=A at *
 obtain⟨R',evs⟩:=A
 dsimp only at *
 have hg':g<R'.1.length:=by rw [q2,List.length_set];exact hg
 have hw':R'.1[g]?=some R'.1[g]:=List.getElem?_eq_getElem hg'
 have hO':settled [r.d,.tup [cm (R.1.set g (gj k w)),.tup (((if k=.down\/k=.leave then sK r w R.2 else R.2).filter fun e=>decide (e.g≠g)).map En.d)]] S=some (.tup [aP R',.ref S.length],S++[.lst (evs.map Ev.d)]):=hO
 have fl:(fJ k g).length<=1:=by cases k <;> simp [fJ]
 have ad:=EZ (S:=S) (k:=fJ k g) (l:=evs) (by omega) (by omega)
 have ad2:aR (S++[.lst (evs.map Ev.d)]) (.lst ((fJ k g++evs).map Ev.d)) (.lst ((if R'.1[g]=.rising then [Ev.mk "waits" g] else []).map Ev.d))=some (.lst ((fJ k g++evs++(if R'.1[g]=.rising then [Ev.mk "waits" g] else [])).map Ev.d)):=by
  rw [Dm (by rw [List.length_map,List.length_map,List.length_append];split <;> simp <;> omega),<- List.map_append]
 refine⟨[.lst (evs.map Ev.d)],?_⟩
 rw [hw']
 simp only [LB,aJ,bh,aE,ai,bF,bM,bL,oj,ob,aj,aq,ar,x1,bi,aN,el,eQ,bG,aF,DD,mk _ _ rfl,bR,ao,Ht hel,am,ay,al,bS,eL,Dx,aC,bg,bH,pp,k2,aQ,hO',cw,bB,cS,bV,Hs hw',aW,ad,ad2,bp,Option.some.injEq]
 rfl
theorem vD{S:ac}:on S (.str "rising") (cm ws)=some (.bl (decide (Wd.rising∈ws))):=by
 rw [jZ (ys:=ws.map Wd.d) rfl rfl Ny]
 congr 2
 rw [List.any_map]
 induction ws with
 | nil=>rfl
 | cons a l ih=>
  rw [List.any_cons,ih]
  show (jC a.d (Wd.rising).d||_)=_
  rw [SL,Bool.eq_iff_iff]
  simp
  constructor
  ·rintro(h | h)
   ·exact .inl h.symm
   ·exact .inr h
  ·rintro(h | h)
   ·exact .inl h.symm
   ·exact .inr h
theorem Bs{dd:Dd}(h:dd≠.tick):(fL dd == ("tick":Str))=false:=by
 cases dd with
 | tick=>exact absurd rfl h
 | ask wr g t=>show (bo wr == ("tick":Str))=false;cases wr <;> decide +kernel
 | act k g=>show (k.s == ("tick":Str))=false;cases k <;> decide +kernel
theorem KL{x:Str}{b:Bool}(hb:([D.str "read",D.str "write"].any fun d=>jC d (.str x))=b):on S (.str x) (.tup [.str "read",.str "write"])=some (.bl b):=by
 rw [jZ (ys:=[.str "read",.str "write"]) rfl rfl rfl,hb]
noncomputable def gD:Option (Rm×List Ev)->D
 | none=>.non
 | some x=>.tup [aP x.1,du x.2]
theorem Lz{can asked settled marked put:PF}(O:TW can asked settled marked put){N:List Str}(hN:N.length=14){dd:Dd}(h:ROk R)(hl:R.1.length<=50)(hd:dd.Ok R.1.length) :
  ∃ T,aO N (jJ can asked settled marked put) 3 [r.d,aP R,dd.d] S=some (gD (dU r R dd),S++T):=by
 have hst:aA N [r.d,aP R,dd.d]=[some r.d,some (aP R),some dd.d,none,none,none,none,none,none,none,none,none,none,none]:=by simp [aA,hN,List.replicate]
 rw [bd (show [r.d,aP R,dd.d].length=3 from rfl),hst]
 have hle:=h.len
 obtain⟨T0,hc⟩:=O.c S R dd (by omega) hd
 have g2:∀ env S,aZ 2 (af (ah 3) (af (ah 4) (aK))) (aP R) env S=(af (ah 3) (af (ah 4) (aK))) [cm R.1,bZ R.2] env S:=fun env S=>cw
 have k2:∀ S (x y:D),cr ([x,y],S)=some (.tup [x,y],S):=fun S x y=>aV (by simp)
 have k1:∀ S (x:D),cr ([x],S)=some (.tup [x],S):=fun S x=>aV (by simp)
 unfold dU
 cases hb:ig R dd with
 | false=>
  rw [hb] at hc
  refine⟨T0,?_⟩
  simp only [jJ,aJ,be,iH,dJ,aC,ao,ai,bF,bM,bL,oj,ob,aj,am,ay,al,aQ,hc,eS,iJ,Bool.not_false,bO,aW,bb,bp,bP,aG,if_pos,gD]
 | true=>
  rw [hb] at hc
  rw [if_neg (by decide)]
  by_cases ht:dd=.tick
  ·subst ht
   have xt:∀ S,aw S (Dd.tick).d (.int 0)=some (.str "tick"):=fun S=>rfl
   have et:∀ S,bT S (.str "tick") (.str "tick")=some (.bl true):=fun S=>by rw [cI,beq_self_eq_true]
   obtain⟨T,_,e⟩:=Hr O.s (S:=S++T0) (r:=r) (R:=R) (a2:=some (Dd.tick).d) (a5:=none) (a6:=none) (a7:=none) (a8:=none) (a9:=none) (b0:=none) (b1:=none) (b2:=none) (b3:=none) h hl
   refine⟨T0++T,?_⟩
   simp only [jJ,aJ,be,iH,dJ,aC,ao,ai,bF,bM,bL,oj,ob,aj,am,ay,al,aQ,hc,eS,iJ,Bool.not_true,bI,bt,aF,bh,bi,g2,bB,aN,cS,bV,el,eQ,bG,aD,aE,aq,bb,ar,xt,et,aB,bO,e,bP,aG,List.append_assoc,gD]
  ·have et0:=Bs ht
   cases dd with
   | tick=>exact absurd rfl ht
   | ask wr g t=>
    have x0:∀ S,aw S (Dd.ask wr g t).d (.int 0)=some (.str (bo wr)):=fun S=>rfl
    have et:∀ S,bT S (.str (bo wr)) (.str "tick")=some (.bl false):=fun S=>by rw [cI];exact congrArg (fun b=>some (D.bl b)) et0
    have sl:∀ S,jE (Dd.ask wr g t).d none (some 2,S)=some (.tup [.str (bo wr),.int (g:Int)],S):=fun S=>rfl
    simp only [ig,Bool.and_eq_true,decide_eq_true_eq,Bool.not_eq_true'] at hb
    obtain⟨T,e⟩:=O.a (S++T0) r R wr g t h hl hb.1 hb.2
    have fi:∀ S,on S (.str (bo wr)) (.tup [.str "read",.str "write"])=some (.bl true):=fun S=>KL (by cases wr <;> decide +kernel)
    refine⟨T0++T,?_⟩
    simp only [jJ,aJ,be,iH,dJ,aC,ao,ai,bF,bM,bL,oj,ob,aj,am,ay,al,aQ,hc,eS,iJ,Bool.not_true,bI,bt,aF,bh,bi,g2,bB,aN,cS,bV,el,eQ,bG,aD,aE,aq,bb,ar,x0,et,aB,cJ,fI,cQ,fH,dl,dq,sl,cw,bg,k2,fi,bO,aW,bH,e,bp,bP,aG,List.append_assoc,gD]
   | act k g=>
    have x0:∀ S,aw S (Dd.act k g).d (.int 0)=some (.str k.s):=fun S=>rfl
    have et:∀ S,bT S (.str k.s) (.str "tick")=some (.bl false):=fun S=>by rw [cI];exact congrArg (fun b=>some (D.bl b)) et0
    have sl:∀ S,jE (Dd.act k g).d none (some 2,S)=some (.tup [.str k.s,.int (g:Int)],S):=fun S=>rfl
    have fi:∀ S,on S (.str k.s) (.tup [.str "read",.str "write"])=some (.bl false):=fun S=>KL (by cases k <;> decide +kernel)
    have fu:∀ S,bT S (.str k.s) (.str "up")=some (.bl (decide (k=.up))):=fun S=>yD (j:=.up)
    have fc:(r.c == 0)=decide (r.c=0):=rfl
    have hg:g<R.1.length:=hd
    have hw:R.1[g]?=some R.1[g]:=List.getElem?_eq_getElem hg
    have ev1:D.tup [.tup [.str "no",.int (g:Int)]]=du [⟨"no",g⟩]:=rfl
    obtain⟨T,e⟩:=LA O (S:=S++T0) (r:=r) (R:=R) (k:=k) (g:=g) (a2:=some (Dd.act k g).d) (a5:=none) (a6:=none) (a7:=none) (b0:=none) (b1:=none) (b2:=none) (b3:=none) h hl hw
    by_cases hu:k=.up/\(r.c=0\/Wd.rising∈R.1)
    ·refine⟨T0,?_⟩
     dsimp only
     rw [if_pos hu]
     have hu1:=decide_eq_true hu.1
     by_cases hz:r.c=0
     ·simp only [jJ,aJ,be,iH,dJ,aC,ao,ai,bF,bM,bL,oj,ob,aj,am,ay,al,aQ,hc,eS,iJ,Bool.not_true,bI,bt,aF,bh,bi,g2,bB,aN,cS,bV,el,eQ,bG,aD,aE,aq,bb,ar,x0,et,aB,cJ,fI,cQ,fH,dl,dq,sl,cw,bg,k2,fi,hX,fu,hu1,jK,jb,Rl.ix3,gB,fc,decide_eq_true hz,yp,bO,aW,k1,bp,bP,aG,gD,ev1]
     ·have hr:Wd.rising∈R.1:=hu.2.resolve_left hz
      simp only [jJ,aJ,be,iH,dJ,aC,ao,ai,bF,bM,bL,oj,ob,aj,am,ay,al,aQ,hc,eS,iJ,Bool.not_true,bI,bt,aF,bh,bi,g2,bB,aN,cS,bV,el,eQ,bG,aD,aE,aq,bb,ar,x0,et,aB,cJ,fI,cQ,fH,dl,dq,sl,cw,bg,k2,fi,hX,fu,hu1,jK,jb,Rl.ix3,gB,fc,decide_eq_false hz,lZ,vD,decide_eq_true hr,bO,aW,k1,bp,bP,aG,gD,ev1]
    ·refine⟨T0++T,?_⟩
     dsimp only
     rw [if_neg hu,hw]
     dsimp only
     have tst:∀ (T:ac) (a5 a6 a7 b0 b1 b2 b3:Option D),cK (av (au bT (ab 8) (mC (.str "up")))) (fC (av (au bT (au aw (ab 0) (mC (.int 3))) (mC (.int 0)))) (av (au on (mC (.str "rising")) (ab 3)))) [some r.d,some (aP R),some (Dd.act k g).d,some (cm R.1),some (bZ R.2),a5,a6,a7,some (.str k.s),some (.int (g:Int)),b0,b1,b2,b3] T=some (false,T):=fun T a5 a6 a7 b0 b1 b2 b3=>by
      simp only [hX,aD,aE,ai,bF,bM,bL,oj,ob,aj,aq,bb,ar,fu,aB]
      by_cases hk:k=.up
      ·have hz:¬ r.c=0:=fun z=>hu ⟨hk,.inl z⟩
       have hr:¬ Wd.rising∈R.1:=fun z=>hu ⟨hk,.inr z⟩
       rw [decide_eq_true hk]
       simp only [jK,jb,aD,aE,ai,bF,bM,bL,oj,ob,aj,aq,bb,ar,Rl.ix3,gB,fc,decide_eq_false hz,aB,lZ,vD,decide_eq_false hr]
      ·rw [decide_eq_false hk,rG]
     simp only [jJ,aJ,be,iH,dJ,aC,ao,ai,bF,bM,bL,oj,ob,aj,am,ay,al,aQ,hc,eS,iJ,Bool.not_true,bI,bt,aF,bh,bi,g2,bB,aN,cS,bV,el,eQ,bG,aD,aE,aq,bb,ar,x0,et,aB,cJ,fI,cQ,fH,dl,dq,sl,cw,bg,k2,fi,tst,e,aG,List.append_assoc,gD]
end
end MI
namespace MI
open PySem PySem.Spec PyProof.Rows L2 M
def Grow(r:Nat)(S S':ac):Prop:=S.length<=S'.length/\∀ j,j<S.length->j≠r->S'[j]?=S[j]?
theorem Grow.of{r:Nat}{S S':ac}(h:Keep r S S'):Grow r S S':=⟨Nat.le_of_eq h.2.symm,fun j _ hj=>h.1 j hj⟩
theorem Grow.trans{r:Nat}{S S' S'':ac}(h:Grow r S S')(h':Grow r S' S''):Grow r S S'':=⟨Nat.le_trans h.1 h'.1,fun j hj hr=>(h'.2 j (Nat.lt_of_lt_of_le hj h.1) hr).trans (h.2 j hj hr)⟩
theorem Pk.appT{S T:ac}{r:Nat}(h:Pk S r):Pk (S++T) r:=by
 obtain⟨a,b,d,h,z⟩:=h
 exact⟨a,b,d,by rw [List.getElem?_append_left (List.getElem?_eq_some_iff.mp h).1];exact h,z⟩
theorem Pk.lt{S:ac}{r:Nat}(h:Pk S r):r<S.length:=by
 obtain⟨a,b,d,h,z⟩:=h
 exact(List.getElem?_eq_some_iff.mp h).1
theorem at_rw{q:Int}(h0:0<=q)(h1:q<8):∃ w:Wd,lA dG q=some w.d:=by
 obtain rfl | rfl | rfl | rfl | rfl | rfl | rfl | rfl:q=0\/q=1\/q=2\/q=3\/q=4\/q=5\/q=6\/q=7:=by omega
 ·exact⟨.out,rfl⟩
 ·exact⟨.out,rfl⟩
 ·exact⟨.out,rfl⟩
 ·exact⟨.reads,rfl⟩
 ·exact⟨.reads,rfl⟩
 ·exact⟨.rising,rfl⟩
 ·exact⟨.writes,rfl⟩
 ·exact⟨.raised,rfl⟩
theorem Eb{pick:PF}(hp:qj pick){r:Nat}:∀ (l:List D) (a:Option D) (S:ac),Pk S r->∃ (ws:List Wd) (S':ac),dh (ah 0) bX (au aw (ab 2) (ak 2 pick (aa (ab 1) (aa (mC (.int 8)) (ag))))) l [a,some (.ref r),some (.lst dG)] S=some (ws.map Wd.d,S')/\ws.length=l.length/\Pk S' r/\Keep r S S'
 | [],a,S,h=>⟨[],S,rfl,rfl,h,Keep.refl⟩
 | d::l,a,S,h=>by
  obtain⟨q,S1,e1,l1,g1,P1,K1⟩:=hp _ _ 8 h (by decide) (by decide)
  obtain⟨w,i1⟩:=at_rw l1 g1
  obtain⟨ws,S',e,hl,P',K'⟩:=Eb hp l (some d) S1 P1
  refine⟨w::ws,S',?_,by simp [hl],P',Keep.trans K1 K'⟩
  rw [gb]
  simp only [aN,el,ob,tL,jI,tK,aE,ai,bF,bM,bL,oj,aj,aq,aC,ao,am,bb,ay,al,aQ,e1,ar,KJ,i1,tJ,e,tI,List.map_cons]
def pV(pick:PF):MS:=bC (cK (av (au bT (au aw (ab 3) (ab 5)) (mC (.str "out")))) (av (au fGt (ak 2 pick (aa (ab 0) (aa (mC (.int 4)) (ag)))) (mC (.int 0))))) (az (aH (au aw (dM (aa (mC (.str "read")) (aa (mC (.str "write")) (ag)))) (ak 2 pick (aa (ab 0) (aa (mC (.int 2)) (ag))))) (ah 6)) (az (aH (au aw (dM (aa (mC (.int 0)) (aa (mC (.int 0)) (aa (mC (.int 1)) (aa (mC (.int 1)) (aa (mC (.int 2)) (aa (mC (.int 8)) (aa (mC (.int 9)) (aa (mC (.int 999)) (ag)))))))))) (ak 2 pick (aa (ab 0) (aa (mC (.int 8)) (ag))))) (ah 7)) (az (aH (aT (aa (ab 5) (aa (ab 6) (aa (ab 7) (aa (au aw (dM (aa (mC .non) (aa (mC .non) (aa (mC (.int 1)) (aa (mC (.int 9)) (ag)))))) (ak 2 pick (aa (ab 0) (aa (mC (.int 4)) (ag))))) (ag)))))) (ah 8)) (eV (fY iK (ab 4) (aa (ak 2 pick (aa (ab 0) (aa (au aR (bf (aM fK) (aa (ab 4) (ag))) (mC (.int 1))) (ag)))) (aa (ab 8) (ag)))))))) (aY)
def pR(pick:PF):MS:=
 az (aH (dM (aa (mC (.str "out")) (aa (mC (.str "out")) (aa (mC (.str "out")) (aa (mC (.str "reads")) (aa (mC (.str "reads")) (aa (mC (.str "rising")) (aa (mC (.str "writes")) (aa (mC (.str "raised")) (ag)))))))))) (ah 2)) (az (aH (bf (aM (cj .tup)) (aa (bJ (bQ (aa (ab 1) (ag))) (ah 0) (bX) (au aw (ab 2) (ak 2 pick (aa (ab 1) (aa (mC (.int 8)) (ag))))) [none,some 0,some 2]) (ag))) (ah 3)) (az (aH (fZ (ag)) (ah 4)) (az (gY (bQ (aa (ab 1) (ag))) (ah 5) (pV pick)) (aU (aT (aa (ab 3) (aa (bf (aM (cj .tup)) (aa (ab 4) (ag))) (ag))))))))
theorem Ty{q:Int}(h0:0<=q)(h1:q<8):∃ i:Int,lA [D.int 0,D.int 0,D.int 1,D.int 1,D.int 2,D.int 8,D.int 9,D.int 999] q=some (.int i)/\0<=i/\i<=999:=by
 obtain rfl | rfl | rfl | rfl | rfl | rfl | rfl | rfl:q=0\/q=1\/q=2\/q=3\/q=4\/q=5\/q=6\/q=7:=by omega
 all_goals exact⟨_,rfl,by decide,by decide⟩
theorem Tz{q:Int}(h0:0<=q)(h1:q<4):∃ t:Option Int,lA [D.non,D.non,D.int 1,D.int 9] q=some (bA t)/\∀ k,t=some k->1<=k/\k<=9:=by
 obtain rfl | rfl | rfl | rfl:q=0\/q=1\/q=2\/q=3:=by omega
 ·exact⟨none,rfl,fun k h=>by cases h⟩
 ·exact⟨none,rfl,fun k h=>by cases h⟩
 ·exact⟨some 1,rfl,fun k h=>by cases h;decide⟩
 ·exact⟨some 9,rfl,fun k h=>by cases h;decide⟩
theorem Qf{q:Int}(h0:0<=q)(h1:q<2):∃ wr:Bool,lA [D.str "read",D.str "write"] q=some (.str (bo wr)):=by
 obtain rfl | rfl:q=0\/q=1:=by omega
 ·exact⟨false,rfl⟩
 ·exact⟨true,rfl⟩
structure uC(R:Rm):Prop where
 ok:ROk R
 m0:∀ e∈R.2,0<=e.m/\e.m<=999
 t1:∀ e∈R.2,∀ k,e.t=some k->1<=k/\k<=9
theorem JC{es:List En}{i:Int}{e:En}:jX (es.map En.d) i e.d=(jX es i e).map En.d:=by
 unfold jX;simp
theorem GV{pick:PF}(hp:qj pick){S:ac}{r q i:Nat}{n:Int}{ws:List Wd}{es:List En}{o6 o7 o8:Option D}(hq:q≠r)(P:Pk S r)(hc:S[q]?=some (.lst (es.map En.d)))(hi:i<ws.length)
  (F:uC (ws,es)) (hg:∀ e∈es,e.g<i) (hl:es.length<=i) (hi5:i<=500) :
  ∃ p6 p7 p8 es' S',pV pick [some (.ref r),some (.int n),some (.lst dG),some (cm ws),some (.ref q),some (.int (i:Int)),o6,o7,o8] S=some (.nx [some (.ref r),some (.int n),some (.lst dG),some (cm ws),some (.ref q),some (.int (i:Int)),p6,p7,p8] S') /\
   Pk S' r/\S'[q]?=some (.lst (es'.map En.d))/\uC (ws,es')/\(∀ e∈es',e.g<i+1)/\es'.length<=i+1/\S'.length=S.length/\∀ j,j≠r->j≠q->S'[j]?=S[j]?:=by
 have up:∀ e∈es,e.g<i+1:=fun e h=>by have:=hg e h;omega
 have hw:ws[i]?=some ws[i]:=List.getElem?_eq_getElem hi
 have x1:∀ S,aw S (cm ws) (.int (i:Int))=some (ws[i]).d:=fun S=>rM hw
 have fe:∀ S,bT S (ws[i]).d (.str "out")=some (.bl (decide (ws[i]=.out))):=fun S=>lu (b:=.out)
 by_cases hb:ws[i]=.out
 ·obtain⟨q1,S1,e1,l1,g1,P1,K1⟩:=hp _ _ 4 P (by decide) (by decide)
  by_cases h0:0<q1
  ·obtain⟨q2,S2,e2,l2,g2,P2,K2⟩:=hp _ _ 2 P1 (by decide) (by decide)
   obtain⟨q3,S3,e3,l3,g3,P3,K3⟩:=hp _ _ 8 P2 (by decide) (by decide)
   obtain⟨q4,S4,e4,l4,g4,P4,K4⟩:=hp _ _ 4 P3 (by decide) (by decide)
   obtain⟨q5,S5,e5,l5,g5,P5,K5⟩:=hp _ _ ((es.length:Int)+1) P4 (by omega) (by omega)
   have c4:S4[q]?=some (.lst (es.map En.d)):=by rw [K4.1 q hq,K3.1 q hq,K2.1 q hq,K1.1 q hq,hc]
   have c5:S5[q]?=some (.lst (es.map En.d)):=by rw [K5.1 q hq,c4]
   obtain⟨wr,i2⟩:=Qf l2 g2
   obtain⟨m,i3,m0,m9⟩:=Ty l3 g3
   obtain⟨t,i4,ht⟩:=Tz l4 g4
   have k1:∀ S,kA ([D.int 0,D.int 0,D.int 1,D.int 1,D.int 2,D.int 8,D.int 9,D.int 999],S)=some (.lst [D.int 0,D.int 0,D.int 1,D.int 1,D.int 2,D.int 8,D.int 9,D.int 999],S):=fun S=>cR (by simp)
   have k2:∀ S,kA ([D.non,D.non,D.int 1,D.int 9],S)=some (.lst [D.non,D.non,D.int 1,D.int 9],S):=fun S=>cR (by simp)
   have k3:∀ S,kA ([D.str "read",D.str "write"],S)=some (.lst [D.str "read",D.str "write"],S):=fun S=>cR (by simp)
   have k4:∀ S (a b c d:D),cr ([a,b,c,d],S)=some (.tup [a,b,c,d],S):=fun S a b c d=>aV (by simp)
   have ql:q<S5.length:=(List.getElem?_eq_some_iff.mp c5).1
   have hpm:=GN es q5 ⟨i,wr,m,t⟩
   have ins:iK (.ref q) [.int q5,.tup [.int (i:Int),.str (bo wr),.int m,bA t]] S5=some (.non,S5.set q (.lst ((jX es q5 ⟨i,wr,m,t⟩).map En.d))):=by
    rw [<- JC];exact GZ c5 (by rw [List.length_map];omega) l5 (by omega)
   have km:∀ ms env,qv iK ms env (.ref q,S4)=(ms env S4).bind (dX iK (.ref q)):=fun ms env=>yq c4
   have fl:aM fK [.ref q] S4=some (.int (es.length:Nat),S4):=by rw [KI c4,List.length_map]
   refine⟨some (.str (bo wr)),some (.int m),some (.tup [.int (i:Int),.str (bo wr),.int m,bA t]),jX es q5 ⟨i,wr,m,t⟩,S5.set q (.lst ((jX es q5 ⟨i,wr,m,t⟩).map En.d)),?_,?_,List.getElem?_set_self ql,?_,fun e h=>?_,?_,?_,fun j jr jq=>?_⟩
   ·simp only [pV,be,hX,aD,aE,ai,bF,bM,bL,oj,ob,aj,aq,ar,x1,bb,fe,decide_eq_true hb,aB,jK,aC,ao,am,ay,al,aQ,e1,PU,decide_eq_true h0,bO,aJ,bh,gX,k1,e2,KJ,i2,bi,aN,el,eQ,bG,aF,k2,e3,i3,bg,k3,e4,i4,k4,mR,mQ,km,bR,bS,fl,jp,e5,gp,ins,mV]
   ·obtain⟨a,b,c,h,z⟩:=P5
    exact⟨a,b,c,by rw [List.getElem?_set_ne hq];exact h,z⟩
   ·have hmem:∀ {x:En},x∈jX es q5 ⟨i,wr,m,t⟩->x=⟨i,wr,m,t⟩\/x∈es:=fun h=>List.mem_cons.mp (hpm.mem_iff.mp h)
    refine⟨⟨fun e h=>?_,?_⟩,fun e h=>?_,fun e h=>?_⟩
    ·rcases hmem h with rfl | h
     ·show ws[i]?=_;rw [hw,hb]
     ·exact F.ok.out e h
    ·show ((jX es q5 ⟨i,wr,m,t⟩).map (·.g)).Nodup
     rw [(hpm.map (·.g)).nodup_iff,List.map_cons,List.nodup_cons]
     refine⟨fun z=>?_,F.ok.nd⟩
     obtain⟨e,h1,h2⟩:=List.mem_map.mp z
     have:=hg e h1
     simp only at h2
     omega
    ·rcases hmem h with rfl | h
     ·exact⟨m0,m9⟩
     ·exact F.m0 e h
    ·rcases hmem h with rfl | h
     ·exact ht
     ·exact F.t1 e h
   ·rcases List.mem_cons.mp (hpm.mem_iff.mp h) with rfl | h
    ·exact Nat.lt_succ_self _
    ·exact up e h
   ·rw [hpm.length_eq,List.length_cons];omega
   ·rw [List.length_set,K5.2,K4.2,K3.2,K2.2,K1.2]
   ·rw [List.getElem?_set_ne (Ne.symm jq),K5.1 j jr,K4.1 j jr,K3.1 j jr,K2.1 j jr,K1.1 j jr]
  ·refine⟨o6,o7,o8,es,S1,?_,P1,by rw [K1.1 q hq];exact hc,F,up,by omega,K1.2,fun j jr _=>K1.1 j jr⟩
   simp only [pV,be,hX,aD,aE,ai,bF,bM,bL,oj,ob,aj,aq,ar,x1,bb,fe,decide_eq_true hb,aB,jK,aC,ao,am,ay,al,aQ,e1,PU,decide_eq_false h0,bI,bt]
 ·refine⟨o6,o7,o8,es,S,?_,P,hc,F,up,by omega,rfl,fun j _ _=>rfl⟩
  simp only [pV,be,hX,aD,aE,ai,bF,bM,bL,oj,ob,aj,aq,ar,x1,bb,fe,decide_eq_false hb,aB,rG,bI,bt]
theorem Di{pick:PF}(hp:qj pick){S:ac}{r n:Nat}{N:List Str}(hN:N.length=9)(P:Pk S r)(h1:1<=n)(h5:n<=5) :
  ∃ (R:Rm) (S':ac),aO N (pR pick) 2 [.ref r,.int (n:Int)] S=some (aP R,S')/\R.1.length=n/\uC R/\Pk S' r/\Grow r S S':=by
 have hst:aA N [D.ref r,D.int (n:Int)]=[some (.ref r),some (.int (n:Int)),none,none,none,none,none,none,none]:=by simp [aA,hN,List.replicate]
 rw [bd (show [D.ref r,D.int (n:Int)].length=2 from rfl),hst]
 obtain⟨ws,S1,e1,hl,P1,K1⟩:=Eb hp (bW 0 n) none S P
 rw [si] at hl
 have hq:S1.length≠r:=fun z=>by have:=P1.lt;omega
 have P2:Pk (S1++[.lst []]) r:=P1.appT
 have k1:∀ S,kA ([.str "out",.str "out",.str "out",.str "reads",.str "reads",.str "rising",.str "writes",.str "raised"],S)=some (.lst dG,S):=fun S=>cR (by simp)
 have kr:∀ S,HW ([.int (n:Int)],S)=some (bW 0 n,S):=fun S=>by rw [jW (by omega) (by omega),Int.toNat_natCast]
 have kc:∀ b1 b2 b3 b4 b5 b6,mn (ah 0) bX (au aw (ab 2) (ak 2 pick (aa (ab 1) (aa (mC (.int 8)) (ag))))) [none,some 0,some 2] [some (.ref r),some (.int (n:Int)),some (.lst dG),b1,b2,b3,b4,b5,b6] (bW 0 n,S)=some (.lst (ws.map Wd.d),S1):=fun b1 b2 b3 b4 b5 b6=>by
  rw [je (by rw [si];omega),show ut [none,some 0,some 2] [some (D.ref r),some (D.int (n:Int)),some (D.lst dG),b1,b2,b3,b4,b5,b6]=[none,some (.ref r),some (.lst dG)] from rfl,e1,ob,kD]
 have kl:tF ([],S1)=some (.ref S1.length,S1++[.lst []]):=mf (by simp)
 obtain⟨env',S',e2,o5,o6,o7,o8,es,rfl,P3,hc,F,hg,hle,hz,fr⟩:=GT (tg:=ah 5) (p:=pV pick) (lo:=0) (fun i env S=>∃ o5 o6 o7 o8 es,env=[some (.ref r),some (.int (n:Int)),some (.lst dG),some (cm ws),some (.ref S1.length),o5,o6,o7,o8]/\Pk S r/\S[S1.length]?=some (.lst (es.map En.d))/\uC (ws,es)/\(∀ e∈es,e.g<i)/\es.length<=i/\S.length=S1.length+1/\∀ j,j≠r->j<S1.length->S[j]?=S1[j]?) n
  (fun i hi env S hI=>by
   obtain⟨o5,o6,o7,o8,es,rfl,P,hc,F,hg,hle,hz,fr⟩:=hI
   obtain⟨p6,p7,p8,es',S',e,P',hc',F',hg',hle',hz',fr'⟩:=GV hp (n:=(n:Int)) (o6:=o6) (o7:=o7) (o8:=o8) hq P hc (show i<ws.length by omega) F hg hle (by omega)
   refine⟨_,_,_,_,aN,?_,some (.int (i:Int)),p6,p7,p8,es',rfl,P',hc',F',hg',hle',by omega,fun j jr jl=>(fr' j jr (by omega)).trans (fr j jr jl)⟩
   rw [show (0:Int)+(i:Int)=i by omega]
   exact e)
  [some (.ref r),some (.int (n:Int)),some (.lst dG),some (cm ws),some (.ref S1.length),none,none,none,none] (S1++[.lst []]) ⟨none,none,none,none,[],rfl,P2,by simp,⟨⟨fun e h=>by simp at h,by simp⟩,fun e h=>by simp at h,fun e h=>by simp at h⟩,fun e h=>by simp at h,by simp,by simp,fun j _ jl=>List.getElem?_append_left jl⟩
 have kt:∀ S (a b:D),cr ([a,b],S)=some (.tup [a,b],S):=fun S a b=>aV (by simp)
 have fs:aM (cj .tup) [.lst (ws.map Wd.d)] S1=some (cm ws,S1):=eL
 have fe:aM (cj .tup) [.ref S1.length] S'=some (bZ es,S'):=pX hc
 refine⟨(ws,es),S',?_,hl,F,P3,⟨by rw [hz,K1.2];omega,fun j jl jr=>(fr j jr (by rw [K1.2];exact jl)).trans (K1.1 j jr)⟩⟩
 simp only [pR,aJ,bh,gX,ao,bb,ob,am,ay,al,k1,bi,aN,el,eQ,bG,aF,bR,bU,dH,ai,bF,bM,bL,oj,aj,kr,kc,bS,fs,rB,kl,lX,mj,e2,aW,bg,fe,kt,bp,aG]
 rfl
theorem Bf{α:Type}{x:α}:∀ n:Nat,(List.replicate n [x]).flatten=List.replicate n x
 | 0=>rfl
 | n+1=>by rw [List.replicate_succ,List.flatten_cons,Bf n,List.replicate_succ];rfl
def xr(deed done:PF):MS:=az (aH (ak 2 deed (aa (ab 0) (aa (ab 2) (ag)))) (ah 7)) (az (aH (ak 3 done (aa (ab 1) (aa (ab 4) (aa (ab 7) (ag))))) (ah 8)) (bC (av (au iy (ab 8) (mC .non))) (az (eV (fY dR (ab 5) (aa (ab 7) (ag)))) (aH (au aw (ab 8) (mC (.int 0))) (ah 4))) (aY)))
def CO(deed done:PF):MS:=
 az (aH (aT (aa (au cH (aT (aa (mC (.str "out")) (ag))) (ab 2)) (aa (aT (ag)) (ag)))) (ah 4)) (az (aH (fZ (ag)) (ah 5)) (az (gY (bQ (aa (ab 3) (ag))) (ah 6) (xr deed done)) (aU (aT (aa (bf (aM (cj .tup)) (aa (ab 5) (ag))) (aa (ab 4) (ag)))))))
structure Qi(deed done:PF):Prop where
 de:∀ (S:ac) (r n:Nat),Pk S r->1<=n->n<=5->∃ (dd:Dd) (S':ac),deed [.ref r,.int (n:Int)] S=some (dd.d,S')/\dd.Ok n/\Pk S' r/\Keep r S S'
 dn:∀ (S:ac) (rl:Rl) (R:Rm) (dd:Dd),ROk R->R.1.length<=50->dd.Ok R.1.length->∃ T,done [rl.d,aP R,dd.d] S=some (gD (dU rl R dd),S++T)
noncomputable def ke(n:Nat):Rm:=(List.replicate n .out,[])
theorem Hn{n:Nat}:ROk (ke n):=⟨fun e h=>by simp [ke] at h,by simp [ke]⟩
inductive Behind(r:Rl)(n:Nat):List Dd->Rm->Prop
 | nil:Behind r n [] (ke n)
 | snoc {l:List Dd} {R:Rm} {d:Dd} {x:Rm×List Ev} (h:Behind r n l R) (hd:d.Ok n) (e:dU r R d=some x):Behind r n (l++[d]) x.1
theorem Behind.ok{r:Rl}{n:Nat}{l:List Dd}{R:Rm}(h:Behind r n l R):ROk R/\R.1.length=n:=by
 induction h with
 | nil=>exact⟨Hn,by simp [ke]⟩
 | snoc h hd e ih=>obtain⟨a,b⟩:=po ih.1 e;exact⟨a,b.trans ih.2⟩
theorem MB{deed done:PF}(O:Qi deed done){S:ac}{r n m:Nat}{rl:Rl}{N:List Str}(hN:N.length=9)(P:Pk S r)(h1:1<=n)(h5:n<=5)(hm:m<=400) :
  ∃ (l:List Dd) (R:Rm) (S':ac),aO N (CO deed done) 4 [.ref r,rl.d,.int (n:Int),.int (m:Int)] S=some (.tup [.tup (l.map Dd.d),aP R],S')/\Behind rl n l R/\l.length<=m/\Pk S' r/\Grow r S S':=by
 have hst:aA N [D.ref r,rl.d,D.int (n:Int),D.int (m:Int)]=[some (.ref r),some rl.d,some (.int (n:Int)),some (.int (m:Int)),none,none,none,none,none]:=by simp [aA,hN,List.replicate]
 rw [bd (show [D.ref r,rl.d,D.int (n:Int),D.int (m:Int)].length=4 from rfl),hst]
 have hq:S.length≠r:=fun z=>by have:=P.lt;omega
 have k1:∀ S (x:D),cr ([x],S)=some (.tup [x],S):=fun S x=>aV (by simp)
 have k0:∀ S,cr ([],S)=some (.tup [],S):=fun S=>aV (by simp)
 have k2:∀ S (x y:D),cr ([x,y],S)=some (.tup [x,y],S):=fun S x y=>aV (by simp)
 have kl:tF ([],S)=some (.ref S.length,S++[.lst []]):=mf (by simp)
 have mu:∀ S,cH S (.tup [.str "out"]) (.int (n:Int))=some (cm (ke n).1):=fun S=>by
  rw [Oh (by omega) (by omega) (by simp;omega),Int.toNat_natCast]
  show some (D.tup _)=some (D.tup ((List.replicate n Wd.out).map Wd.d))
  congr 2
  rw [List.map_replicate,Bf];rfl
 have kr:∀ S,HW ([.int (m:Int)],S)=some (bW 0 m,S):=fun S=>by rw [jW (by omega) (by omega),Int.toNat_natCast]
 obtain⟨env',S',e2,R,l,o6,o7,o8,rfl,P3,hc,B,hle,hz,fr⟩:=GT (tg:=ah 6) (p:=xr deed done) (lo:=0) (fun i env T=>∃ (R:Rm) (l:List Dd) (o6 o7 o8:Option D),env=[some (.ref r),some rl.d,some (.int (n:Int)),some (.int (m:Int)),some (aP R),some (.ref S.length),o6,o7,o8]/\Pk T r/\T[S.length]?=some (.lst (l.map Dd.d))/\Behind rl n l R/\l.length<=i/\S.length<=T.length/\∀ j,j≠r->j<S.length->T[j]?=S[j]?) m
  (fun i hi env T hI=>by
   obtain⟨R,l,o6,o7,o8,rfl,P,hc,B,hle,hz,fr⟩:=hI
   obtain⟨ok,hn⟩:=B.ok
   obtain⟨dd,S1,e1,od,P1,K1⟩:=O.de T r n P h1 h5
   obtain⟨T2,e3⟩:=O.dn S1 rl R dd ok (by omega) (by rw [hn];exact od)
   have hql:S.length<T.length:=(List.getElem?_eq_some_iff.mp hc).1
   have c1:(S1++T2)[S.length]?=some (.lst (l.map Dd.d)):=by
    rw [List.getElem?_append_left (by rw [K1.2];exact hql),K1.1 _ hq,hc]
   have fr1:∀ j,j≠r->j<S.length->(S1++T2)[j]?=S[j]?:=fun j jr jl=>by
    rw [List.getElem?_append_left (by rw [K1.2];omega),K1.1 j jr,fr j jr jl]
   cases hd:dU rl R dd with
   | none=>
    rw [hd] at e3
    have e3':done [rl.d,aP R,dd.d] S1=some (.non,S1++T2):=e3
    refine⟨_,_,_,_,aN,?_,R,l,some (.int (0+(i:Int))),some dd.d,some .non,rfl,P1.appT,c1,B,by omega,by simp;rw [K1.2];omega,fr1⟩
    simp only [xr,aJ,bh,aC,ao,ai,bF,bM,bL,oj,ob,aj,am,ay,al,aQ,e1,bi,aN,el,eQ,bG,aF,bH,e3',be,aD,aE,aq,bb,ar,kK,lm,Bool.not_true,aB,bI,bt]
   | some x=>
    rw [hd] at e3
    have e3':done [rl.d,aP R,dd.d] S1=some (.tup [aP x.1,du x.2],S1++T2):=e3
    have ap:dR (.ref S.length) [dd.d] (S1++T2)=some (.non,(S1++T2).set S.length (.lst ((l++[dd]).map Dd.d))):=by
     rw [wA c1 (by rw [List.length_map];omega)];simp
    have km:∀ f ms env,qv f ms env (.ref S.length,S1++T2)=(ms env (S1++T2)).bind (dX f (.ref S.length)):=fun f ms env=>yq c1
    have hql2:S.length<(S1++T2).length:=(List.getElem?_eq_some_iff.mp c1).1
    refine⟨_,_,_,_,aN,?_,x.1,l++[dd],some (.int (0+(i:Int))),some dd.d,some (.tup [aP x.1,du x.2]),rfl,?_,List.getElem?_set_self hql2,B.snoc od hd,by simp;omega,by rw [List.length_set];omega,fun j jr jl=>?_⟩
    ·simp only [xr,aJ,bh,aC,ao,ai,bF,bM,bL,oj,ob,aj,am,ay,al,aQ,e1,bi,aN,el,eQ,bG,aF,bH,e3',be,aD,aE,aq,bb,ar,kK,lm,Bool.not_false,aB,bO,mR,mQ,km,gp,ap,mV,fIx_t,at2]
    ·obtain⟨a,b,c,h,z⟩:=P1.appT (T:=T2)
     exact⟨a,b,c,by rw [List.getElem?_set_ne hq];exact h,z⟩
    ·rw [List.getElem?_set_ne (by omega)];exact fr1 j jr jl)
  [some (.ref r),some rl.d,some (.int (n:Int)),some (.int (m:Int)),some (aP (ke n)),some (.ref S.length),none,none,none] (S++[.lst []]) ⟨ke n,[],none,none,none,rfl,P.appT,by simp,.nil,Nat.le_refl _,by simp,fun j _ jl=>List.getElem?_append_left jl⟩
 have fe:aM (cj .tup) [.ref S.length] S'=some (.tup (l.map Dd.d),S'):=pX hc
 refine⟨l,R,S',?_,B,hle,P3,⟨hz,fun j jl jr=>fr j jr jl⟩⟩
 have er:∀ S,cr ([cm (ke n).1,.tup []],S)=some (aP (ke n),S):=fun S=>k2 S _ _
 simp only [CO,aJ,bh,bg,ao,aE,bb,ob,am,ay,al,k1,aq,ai,bF,bM,bL,oj,aj,ar,mu,k0,er,bi,aN,el,eQ,bG,aF,rB,kl,lX,dH,kr,mj,e2,aW,bR,bS,fe,k2,bp,aG]
end MI
namespace MI
open PySem PySem.Spec PyProof.Rows L2 M
section
variable{α:Type}{enc:α->D}{p:Nat->α->Bool}{f:Nat->α->D}{t:MT}{e:ME}{rest:bm}{S:ac}
theorem LQ:∀ (xs:List α) (k:Nat) (a b:Option D),(∀ i x,xs[i]?=some x->t (some (.int ((k+i:Nat):Int))::some (enc x)::rest) S=some (p (k+i) x,S))->(∀ i x,xs[i]?=some x->e (some (.int ((k+i:Nat):Int))::some (enc x)::rest) S=some (f (k+i) x,S))->dh (aZ 2 (af (ah 0) (af (ah 1) (aK)))) t e (fg k (xs.map enc)) (a::b::rest) S=some (((xs.zipIdx k).filter fun q=>p q.2 q.1).map fun q=>f q.2 q.1,S)
 | [],k,a,b,_,_=>by simp [fg]
 | x::r,k,a,b,h,h2=>by
  have ih:=LQ r (k+1) (some (.int (k:Int))) (some (enc x)) (fun i y hy=>by
   have:=h (i+1) y (by simpa using hy)
   rw [show k+(i+1)=k+1+i by omega] at this
   exact this) (fun i y hy=>by
   have:=h2 (i+1) y (by simpa using hy)
   rw [show k+(i+1)=k+1+i by omega] at this
   exact this)
  have h0:=h 0 x rfl
  have h20:=h2 0 x rfl
  rw [Nat.add_zero] at h0 h20
  rw [List.map_cons,fg,gb,cw,bB,aN,ob,el,cS,bB,aN,ob,eQ,el,cS,bV,ob,tL,h0,ob,List.zipIdx_cons]
  cases hp:p k x with
  | true=>
   rw [tK,h20,ob,tJ,ih,ob,tI,List.filter_cons_of_pos (p:=fun q:α×Nat=>p q.2 q.1) (a:=(x,k)) hp,List.map_cons]
  | false=>rw [Da,ih,List.filter_cons_of_neg (p:=fun q:α×Nat=>p q.2 q.1) (a:=(x,k)) (by simp [hp])]
theorem NK{cap:List (Option Nat)}{env:bm}{a b:Option D}{xs:List α}(hc:ut cap env=a::b::rest)(hl:xs.length<=1000)(h:∀ (i:Nat) x,xs[i]?=some x->t (some (.int (i:Int))::some (enc x)::rest) S=some (p i x,S))(h2:∀ (i:Nat) x,xs[i]?=some x->e (some (.int (i:Int))::some (enc x)::rest) S=some (f i x,S)) :
  mn (aZ 2 (af (ah 0) (af (ah 1) (aK)))) t e cap env (fg 0 (xs.map enc),S)=some (.lst ((xs.zipIdx.filter fun q=>p q.2 q.1).map fun q=>f q.2 q.1),S):=by
 rw [je (by rw [mY,List.length_map];exact hl),hc,LQ xs 0 a b (fun i x hx=>by rw [Nat.zero_add];exact h i x hx) (fun i x hx=>by rw [Nat.zero_add];exact h2 i x hx),ob,kD]
end
def rH(p:Wd->Bool)(ws:List Wd):List Nat:=(ws.zipIdx.filter fun q=>p q.1).map (·.2)
theorem mem_zi{α:Type}{xs:List α}{x:α}{i:Nat}:(x,i)∈xs.zipIdx↔xs[i]?=some x:=by
 rw [List.mem_zipIdx_iff_getElem?]
theorem mem_ixW{p:Wd->Bool}{ws:List Wd}{i:Nat}:i∈rH p ws↔∃ w,ws[i]?=some w/\p w=true:=by
 unfold rH
 rw [List.mem_map]
 constructor
 ·rintro⟨⟨w,j⟩,h,rfl⟩
  obtain⟨h1,h2⟩:=List.mem_filter.mp h
  exact⟨w,mem_zi.mp h1,h2⟩
 ·rintro⟨w,h1,h2⟩
  exact⟨(w,i),List.mem_filter.mpr ⟨mem_zi.mpr h1,h2⟩,rfl⟩
def nt(l:List Nat):D:=.tup (l.map ni)
theorem NV{p:Wd->Bool}{ws:List Wd}:D.lst ((ws.zipIdx.filter fun q=>p q.1).map fun q=>.int (q.2:Int))=nl (rH p ws):=by
 unfold nl rH ni;rw [List.map_map];rfl
def Ce:MS:=aU (bf (aM (cj .tup)) (aa (bJ (gn (aa (au aw (ab 0) (mC (.int 0))) (ag))) (aZ 2 (af (ah 0) (af (ah 1) (aK)))) (av (au on (ab 1) (ab 2))) (ab 0) [none,none,some 1]) (ag)))
theorem Ea{ws:List Wd}{S:ac}:ET ([cm ws],S)=some (fg 0 (ws.map Wd.d),S):=rfl
theorem SG{S:ac}{w:Wd}{l:List Wd}:on S w.d (cm l)=some (.bl (decide (w∈l))):=by
 rw [jZ (ys:=l.map Wd.d) rfl rfl Ny]
 congr 2
 rw [List.any_map]
 induction l with
 | nil=>rfl
 | cons a l ih=>
  rw [List.any_cons,ih]
  show (jC a.d w.d||_)=_
  rw [SL,Bool.eq_iff_iff]
  simp
  constructor
  ·rintro(h | h)
   ·exact .inl h.symm
   ·exact .inr h
  ·rintro(h | h)
   ·exact .inl h.symm
   ·exact .inr h
theorem Sj{N:List Str}(hN:N.length=2){S:ac}{R:Rm}{l:List Wd}(hl:R.1.length<=100):aO N Ce 2 [aP R,cm l] S=some (nt (rH (fun w=>decide (w∈l)) R.1),S):=by
 have hst:aA N [aP R,cm l]=[some (aP R),some (cm l)]:=by simp [aA,hN]
 rw [bd (show [aP R,cm l].length=2 from rfl),hst]
 have k:=yo (S:=S) (t:=av (au on (ab 1) (ab 2))) (cap:=[none,none,some 1]) (env:=[some (aP R),some (cm l)]) (rest:=[some (cm l)]) (a:=none) (b:=none) (enc:=Wd.d) (p:=fun w=>decide (w∈l)) (xs:=R.1) rfl (by omega) (fun i x _=>by simp only [aD,aE,ai,bF,bM,bL,oj,ob,aj,aq,ar,SG,aB])
 rw [NV (p:=fun w=>decide (w∈l))] at k
 have fs:aM (cj .tup) [nl (rH (fun w=>decide (w∈l)) R.1)] S=some (nt (rH (fun w=>decide (w∈l)) R.1),S):=eL
 simp only [Ce,aW,bR,ao,bU,oQ,aE,ai,bF,bM,bL,oj,ob,aj,aq,bb,ar,Rm.ix0,am,ay,al,Ea,k,bS,fs,bp,aG]
def jF(R:Rm)(g:Nat):D:=if R.1[g]?=some .rising then .str "up" else match R.2.find? fun e=>decide (e.g=g) with
 | some e=>.str (bo e.wr)
 | none=>.non
def lL:MS:=bC (av (au bT (au aw (ab 2) (mC (.int 0))) (ab 1))) (aU (au aw (ab 2) (mC (.int 1)))) (aY)
def lN(gw:PF):MS:=az (bC (av (au on (ab 1) (ak 2 gw (aa (ab 0) (aa (aT (aa (mC (.str "rising")) (ag))) (ag)))))) (aU (mC (.str "up"))) (aY)) (az (ga (au aw (ab 0) (mC (.int 1))) (ah 2) lL) (aU (mC .non)))
def Mf(gw:PF):Prop:=∀ (S:ac) (R:Rm) (l:List Wd),R.1.length<=100->gw [aP R,cm l] S=some (nt (rH (fun w=>decide (w∈l)) R.1),S)
theorem SH{S:ac}{g:Nat}{l:List Nat}:on S (.int (g:Int)) (nt l)=some (.bl (decide (g∈l))):=by
 rw [jZ (ys:=l.map ni) rfl rfl (by rw [List.all_eq_true];intro d hd;obtain⟨i,_,rfl⟩:=List.mem_map.mp hd;rfl)]
 congr 2
 rw [List.any_map]
 induction l with
 | nil=>rfl
 | cons a l ih=>
  rw [List.any_cons,ih]
  show (((a:Int) == (g:Int))||_)=_
  rw [Bool.eq_iff_iff]
  simp
  constructor
  ·rintro(h | h)
   ·exact .inl (by omega)
   ·exact .inr h
  ·rintro(h | h)
   ·exact .inl (by omega)
   ·exact .inr h
theorem vq{S:ac}{R:Rm}{g:Nat}:∀ (es:List En) (a:Option D),cE (ah 2) lL (es.map En.d) [some (aP R),some (.int (g:Int)),a] S=(match es.find? fun e=>decide (e.g=g) with | some e=>some (.rt (.str (bo e.wr)) S) | none=>some (.nx [some (aP R),some (.int (g:Int)),match es.getLast? with | some e=>some e.d | none=>a] S))
 | [],a=>by simp
 | e::l,a=>by
  have ih:=vq (S:=S) (R:=R) (g:=g) l (some e.d)
  have c:((e.g:Int) == (g:Int))=decide (e.g=g):=by rw [Bool.eq_iff_iff];simp;omega
  rw [List.map_cons,fF,aN,ob,eQ,eQ,el,nY]
  simp only [lL,be,aD,aE,ai,bF,bM,bL,oj,ob,aj,aq,bb,ar,En.ix0,gB,c,aB,List.find?_cons]
  cases hd:decide (e.g=g) with
  | true=>simp only [bO,aW,aE,ai,bF,bM,bL,oj,ob,aj,aq,bb,ar,En.ix1,bp,ES]
  | false=>
   rw [bI,bt,ob,mU]
   show cE (ah 2) lL _ _ _=_
   rw [ih]
   cases hf:l.find? fun e=>decide (e.g=g) with
   | some x=>rfl
   | none=>
    dsimp only
    congr 4
    cases l with
    | nil=>rfl
    | cons y l=>rw [List.getLast?_cons_cons];cases hh:(y::l).getLast? with
     | none=>simp at hh
     | some z=>rfl
theorem Ii{gw:PF}(O:Mf gw){N:List Str}(hN:N.length=3){S:ac}{R:Rm}{g:Nat}(hl:R.1.length<=100):aO N (lN gw) 2 [aP R,.int (g:Int)] S=some (jF R g,S):=by
 have hst:aA N [aP R,.int (g:Int)]=[some (aP R),some (.int (g:Int)),none]:=by simp [aA,hN,List.replicate]
 rw [bd (show [aP R,D.int (g:Int)].length=2 from rfl),hst]
 have o1:gw [aP R,.tup [.str "rising"]] S=some (nt (rH (fun w=>decide (w∈[Wd.rising])) R.1),S):=O S R [.rising] hl
 have k1:cr ([.str "rising"],S)=some (.tup [.str "rising"],S):=aV (by simp)
 have mm:decide (g∈rH (fun w=>decide (w∈[Wd.rising])) R.1)=decide (R.1[g]?=some .rising):=by
  rw [decide_eq_decide,mem_ixW]
  constructor
  ·rintro⟨w,h1,h2⟩;rw [h1];simpa using h2
  ·intro h;exact⟨.rising,h,by simp⟩
 have ek:oU (ah 2) lL [some (aP R),some (.int (g:Int)),none] (bZ R.2,S)=cE (ah 2) lL (R.2.map En.d) [some (aP R),some (.int (g:Int)),none] S:=rfl
 simp only [lN,aJ,be,aD,aE,ai,bF,bM,bL,oj,ob,aj,aq,aC,ao,am,bg,bb,ay,al,k1,aQ,o1,ar,SH,mm,aB]
 unfold jF
 by_cases h:R.1[g]?=some .rising
 ·rw [decide_eq_true h,if_pos h];simp
 ·rw [decide_eq_false h,if_neg h]
  simp only [bI,bt,ob,aF,aJ,oP,aE,ai,bF,bM,bL,oj,aj,aq,bb,ar,Rm.ix1,ek,vq]
  cases R.2.find? fun e=>decide (e.g=g) with
  | some e=>simp
  | none=>simp
noncomputable def cz(ws:List Wd)(g:Nat):List Wd:=(ws.zipIdx.filter fun q=>!decide (q.1=.out) && !decide (q.2=g)).map (·.1)
def dw(r:Rl)(R:Rm)(g:Nat):Bool:=
 if R.1[g]?=some .rising then (cz R.1 g).isEmpty else match R.2.find? fun e=>decide (e.g=g) with
 | none=>false
 | some e=>if e.wr then (cz R.1 g).isEmpty else (cz R.1 g).all (fun w=>decide (w=.reads))&&(decide (r.a=0)||decide (((cz R.1 g).length:Int)<r.a))
def uq:ME:=bJ (gn (aa (au aw (ab 1) (mC (.int 0))) (ag))) (aZ 2 (af (ah 0) (af (ah 1) (aK)))) (cK (av (au gK (ab 1) (mC (.str "out")))) (av (au gK (ab 0) (ab 2)))) (ab 1) [none,none,some 2]
def LT:ME:=bJ (cY (ab 4)) (ah 0) (bX) (au bT (ab 0) (mC (.str "reads"))) [none]
def fW(wait:PF):MS:=
 az (aH (ak 2 wait (aa (ab 1) (aa (ab 2) (ag)))) (ah 3)) (az (bC (av (au ug (ab 3) (mC .non))) (aU (mC (.bl false))) (aY)) (az (aH uq (ah 4)) (az (bC (av (au gK (ab 3) (mC (.str "read")))) (aU (ia (ab 4))) (aY)) (az (aH (au aw (ab 0) (mC (.int 1))) (ah 5)) (aU (dm (bf (aM yE) (aa LT (ag))) (vR (au bT (ab 5) (mC (.int 0))) (au Om (bf (aM fK) (aa (ab 4) (ag))) (ab 5)))))))))
def qi(wait:PF):Prop:=∀ (S:ac) (R:Rm) (g:Nat),R.1.length<=100->wait [aP R,.int (g:Int)] S=some (jF R g,S)
section
variable{S:ac}{R:Rm}{r:Rl}{g:Nat}
theorem mJ{a0 a3 a4 a5:Option D}(hl:R.1.length<=100):uq [a0,some (aP R),some (.int (g:Int)),a3,a4,a5] S=some (.lst ((cz R.1 g).map Wd.d),S):=by
 have k:=NK (S:=S) (t:=cK (av (au gK (ab 1) (mC (.str "out")))) (av (au gK (ab 0) (ab 2)))) (e:=ab 1) (cap:=[none,none,some 2]) (env:=[a0,some (aP R),some (.int (g:Int)),a3,a4,a5]) (rest:=[some (.int (g:Int))]) (a:=none) (b:=none) (enc:=Wd.d) (p:=fun i w=>!decide (w=.out) && !decide (i=g)) (f:=fun _ w=>w.d) (xs:=R.1) rfl (by omega) (fun i w _=>by
  have e1:gK S w.d (.str "out")=some (.bl (!decide (w=.out))):=uf (b:=.out)
  have c:((i:Int) == (g:Int))=decide (i=g):=by rw [Bool.eq_iff_iff];simp;omega
  simp only [hX,aD,aE,ai,bF,bM,bL,oj,ob,aj,aq,bb,ar,e1,aB]
  cases hd:decide (w=.out) with
  | true=>simp
  | false=>simp only [Bool.not_false,jK,aD,aE,ai,bF,bM,bL,oj,ob,aj,aq,ar,KG,c,aB,Bool.true_and]) (fun i w _=>by simp)
 simp only [uq,bU,oQ,ao,aE,ai,bF,bM,bL,oj,ob,aj,aq,bb,ar,Rm.ix0,am,ay,al,Ea,k]
 unfold cz
 rw [List.map_map];rfl
theorem uw{α:Type}{p:α->Bool}:∀ l:List α,lz (l.map fun x=>D.bl (p x))=some (l.map p)
 | []=>rfl
 | x::l=>by
  have:=uw (p:=p) l
  rw [List.map_cons,List.map_cons]
  simp only [lz,this];rfl
theorem LS{l:List Wd}{a0 a1 a2 a3 a5:Option D}(hl:l.length<=100):LT [a0,a1,a2,a3,some (.lst (l.map Wd.d)),a5] S=some (.lst (l.map fun w=>.bl (decide (w=.reads))),S):=by
 have k:=eR (S:=S) (t:=bX) (e:=au bT (ab 0) (mC (.str "reads"))) (cap:=[none]) (env:=[a0,a1,a2,a3,some (.lst (l.map Wd.d)),a5]) (rest:=[]) (a:=none) (enc:=Wd.d) (p:=fun _=>true) (f:=fun w=>.bl (decide (w=.reads))) (xs:=l) rfl (by omega) (fun x _=>jI) (fun x _ _=>by
  have e1:bT S x.d (.str "reads")=some (.bl (decide (x=.reads))):=lu (b:=.reads)
  simp only [aE,ai,bF,oj,ob,aj,aq,bb,ar,e1])
 rw [List.filter_eq_self.mpr (fun _ _=>rfl)] at k
 simp only [LT,bU,dg,ai,bF,bM,bL,oj,ob,aj,yr,k]
theorem Pc:(cz R.1 g).length<=R.1.length:=by
 unfold cz;rw [List.length_map];exact Nat.le_trans (List.length_filter_le _ _) (by simp)
theorem HF{wait:PF}(O:qi wait){N:List Str}(hN:N.length=6)(hl:R.1.length<=100):aO N (fW wait) 3 [r.d,aP R,.int (g:Int)] S=some (.bl (dw r R g),S):=by
 have hst:aA N [r.d,aP R,.int (g:Int)]=[some r.d,some (aP R),some (.int (g:Int)),none,none,none]:=by simp [aA,hN,List.replicate]
 rw [bd (show [r.d,aP R,D.int (g:Int)].length=3 from rfl),hst]
 have bl:=Pc (R:=R) (g:=g)
 unfold dw
 have e1:=O S R g hl
 have fa:aM yE [.lst ((cz R.1 g).map fun w=>.bl (decide (w=.reads)))] S=some (.bl ((cz R.1 g).all fun w=>decide (w=.reads)),S):=by
  rw [KO (uw _)];congr 3;rw [List.all_map];rfl
 have fl:aM fK [.lst ((cz R.1 g).map Wd.d)] S=some (.int ((cz R.1 g).length:Nat),S):=by rw [SD,List.length_map]
 have nb:AK (.lst ((cz R.1 g).map Wd.d),S)=some (.bl (cz R.1 g).isEmpty,S):=by
  rw [NN];cases cz R.1 g <;> rfl
 unfold jF at e1
 by_cases h:R.1[g]?=some .rising
 ·rw [if_pos h] at e1 ⊢
  have ne:gK S (.str "up") (.str "read")=some (.bl true):=by rw [pZ];rfl
  simp only [fW,aJ,bh,aC,ao,ai,bF,bM,bL,oj,ob,aj,am,ay,al,aQ,e1,bi,aN,el,eQ,bG,aF,be,aD,aE,aq,bb,ar,jN,lm,aB,bI,bt,mJ hl,ne,bO,aW,EG,nb,bp,bP,aG]
 ·rw [if_neg h] at e1 ⊢
  cases hf:R.2.find? fun e=>decide (e.g=g) with
  | none=>
   rw [hf] at e1
   simp only [fW,aJ,bh,aC,ao,ai,bF,bM,bL,oj,ob,aj,am,ay,al,aQ,e1,bi,aN,el,eQ,bG,aF,be,aD,aE,aq,bb,ar,jN,lm,aB,bO,aW,bp,bP,aG]
  | some e=>
   rw [hf] at e1
   dsimp only at e1 ⊢
   have ne:gK S (.str (bo e.wr)) (.str "read")=some (.bl e.wr):=by rw [pZ,rg,Bool.not_not]
   cases hw:e.wr with
   | true=>
    rw [hw] at e1 ne
    simp only [fW,aJ,bh,aC,ao,ai,bF,bM,bL,oj,ob,aj,am,ay,al,aQ,e1,bi,aN,el,eQ,bG,aF,be,aD,aE,aq,bb,ar,jN,lm,aB,bI,bt,mJ hl,ne,bO,aW,EG,nb,bp,bP,aG,if_pos]
   | false=>
    rw [hw] at e1 ne
    have e3:(r.a == 0)=decide (r.a=0):=rfl
    simp only [fW,aJ,bh,aC,ao,ai,bF,bM,bL,oj,ob,aj,am,ay,al,aQ,e1,bi,aN,el,eQ,bG,aF,be,aD,aE,aq,bb,ar,jN,lm,aB,bI,bt,mJ hl,ne,aW,nW,bR,LS (show (cz R.1 g).length<=100 by omega),bS,fa,Rl.ix1,Bool.false_eq_true,if_false]
    cases hA:(cz R.1 g).all fun w=>decide (w=.reads) with
    | false=>simp
    | true=>
     cases hz:decide (r.a=0) with
     | true=>simp [e3,hz]
     | false=>simp [e3,hz,fl,-beq_iff_eq]
end
end MI
namespace MI
open PySem PySem.Spec PyProof.Rows L2 M
noncomputable def yB:List (bz×D):=[(.inr "rows",.non),(.inr "readers",.str "read"),(.inr "writers",.str "write"),(.inr "turns",.str "write")]
noncomputable def BE:List (bz×D):=[(.inr "read",.str "reads"),(.inr "write",.str "writes")]
noncomputable def Sw:Rw->D
 | .rows=>.non
 | .readers=>.str "read"
 | _=>.str "write"
def qX(w:Rw)(e:En):Bool:=match w with
 | .rows=>false
 | .readers=>!e.wr
 | _=>e.wr
theorem Sv{S:ac}{w:Rw}(h:w≠.passes):tB yB (.str w.s,S)=some (Sw w,S):=by
 cases w <;> first | exact absurd rfl h | simp (decide:=true) [tB,eW,iV,yB,Sw,Rw.s]
theorem Ie{S:ac}{b:Bool}:tB BE (.str (bo b),S)=some ((if b then Wd.writes else Wd.reads).d,S):=by
 cases b <;> simp (decide:=true) [tB,eW,iV,BE,bo,Wd.d,Wd.s]
theorem Op{S:ac}{w:Rw}{e:En}:bT S (.str (bo e.wr)) (Sw w)=some (.bl (qX w e)):=by
 have h1:bT S (.str (bo e.wr)) (.str "read")=some (.bl (!e.wr)):=by rw [cI,rg]
 have h2:bT S (.str (bo e.wr)) (.str "write")=some (.bl e.wr):=by rw [cI,ou]
 cases w with
 | rows=>exact lv rfl rfl
 | readers=>exact h1
 | _=>exact h2
def kg(w:Rw)(e:En):Bool:=decide (w=.turns)&&decide (e.m=1)
def jL(w:Rw)(es:List En):List Nat:=(es.filter (kg w)).map (·.g)++(es.filter (qX w)).map (·.g)++es.map (·.g)
noncomputable def nu:Option Nat->D
 | none=>.non
 | some g=>.int (g:Int)
def ub:ME:=bJ (cY (ab 1)) (ah 0) (cK (av (au bT (ab 1) (mC (.str "turns")))) (av (au bT (au aw (ab 0) (mC (.int 2))) (mC (.int 1))))) (au aw (ab 0) (mC (.int 0))) [none,some 0]
def Ky:ME:=bJ (cY (ab 1)) (ah 0) (av (au bT (au aw (ab 0) (mC (.int 1))) (dL yB (ab 1)))) (au aw (ab 0) (mC (.int 0))) [none,some 0]
def KA:ME:=bJ (cY (ab 1)) (ah 0) (bX) (au aw (ab 0) (mC (.int 0))) [none]
def ld:MS:=az (aH ub (ah 2)) (az (aH Ky (ah 3)) (az (aH (au aR (au aR (ab 2) (ab 3)) KA) (ah 4)) (aU (lF (cV (ab 4)) (au aw (ab 4) (mC (.int 0))) (mC .non)))))
section
variable{S:ac}{es:List En}{w:Rw}{r:Rl}{R:Rm}
theorem Cm{l:List En}:D.lst (l.map fun e=>.int (e.g:Int))=nl (l.map (·.g)):=by unfold nl;rw [List.map_map];rfl
theorem Be{a2 a3 a4:Option D}(hl:es.length<=100):ub [some (.str w.s),some (bZ es),a2,a3,a4] S=some (nl ((es.filter (kg w)).map (·.g)),S):=by
 have hw:(w.s == ("turns":Str))=decide (w=.turns):=Rw.eq w .turns
 have k:=eR (S:=S) (t:=cK (av (au bT (ab 1) (mC (.str "turns")))) (av (au bT (au aw (ab 0) (mC (.int 2))) (mC (.int 1))))) (e:=au aw (ab 0) (mC (.int 0))) (cap:=[none,some 0]) (env:=[some (.str w.s),some (bZ es),a2,a3,a4]) (rest:=[some (.str w.s)]) (a:=none) (enc:=En.d) (p:=kg w) (f:=fun e=>.int (e.g:Int)) (xs:=es) rfl (by omega) (fun x _=>by
  unfold kg
  cases h:decide (w=.turns) with
  | true=>simp [En.ix2,-beq_iff_eq,hw,h];rfl
  | false=>simp [-beq_iff_eq,hw,h]) (fun x _ _=>by simp [En.ix0])
 simp only [ub,bU,dg,ai,bF,bM,bL,oj,ob,aj,dS,k,Cm]
theorem Kx{a2 a3 a4:Option D}(hw:w≠.passes)(hl:es.length<=100):Ky [some (.str w.s),some (bZ es),a2,a3,a4] S=some (nl ((es.filter (qX w)).map (·.g)),S):=by
 have k:=eR (S:=S) (t:=av (au bT (au aw (ab 0) (mC (.int 1))) (dL yB (ab 1)))) (e:=au aw (ab 0) (mC (.int 0))) (cap:=[none,some 0]) (env:=[some (.str w.s),some (bZ es),a2,a3,a4]) (rest:=[some (.str w.s)]) (a:=none) (enc:=En.d) (p:=qX w) (f:=fun e=>.int (e.g:Int)) (xs:=es) rfl (by omega) (fun x _=>by
  simp only [aD,aE,ai,bF,bM,bL,oj,ob,aj,aq,bb,ar,En.ix1,sZ,Sv hw,Op,aB]) (fun x _ _=>by simp [En.ix0])
 simp only [Ky,bU,dg,ai,bF,bM,bL,oj,ob,aj,dS,k,Cm]
theorem Kz{a0 a2 a3 a4:Option D}(hl:es.length<=100):KA [a0,some (bZ es),a2,a3,a4] S=some (nl (es.map (·.g)),S):=by
 have k:=gsC (S:=S) (es:=es) (b:=none) (cap:=[none]) (env:=[a0,some (bZ es),a2,a3,a4]) rfl hl
 simp only [KA,bU,dg,ai,bF,bM,bL,oj,ob,aj,dS,k,Cm]
theorem Jy{a b:List Nat}(h:a.length+b.length<=1000):aR S (nl a) (nl b)=some (nl (a++b)):=by
 unfold nl;rw [Dm (by simp;omega),<- List.map_append]
theorem yA{N:List Str}(hN:N.length=5)(hw:w≠.passes)(hl:es.length<=100):aO N ld 2 [.str w.s,bZ es] S=some (nu (jL w es).head?,S):=by
 have hst:aA N [.str w.s,bZ es]=[some (.str w.s),some (bZ es),none,none,none]:=by simp [aA,hN,List.replicate]
 rw [bd (show [D.str w.s,bZ es].length=2 from rfl),hst]
 have l1:=List.length_filter_le (kg w) es
 have l2:=List.length_filter_le (qX w) es
 have a1:aR S (nl ((es.filter (kg w)).map (·.g))) (nl ((es.filter (qX w)).map (·.g)))=some (nl ((es.filter (kg w)).map (·.g)++(es.filter (qX w)).map (·.g))):=Jy (by simp;omega)
 have a2:aR S (nl ((es.filter (kg w)).map (·.g)++(es.filter (qX w)).map (·.g))) (nl (es.map (·.g)))=some (nl (jL w es)):=Jy (by simp;omega)
 have tr:AI (nl (jL w es),S)=some (!decide (jL w es=[]),S):=by
  cases jL w es <;> rfl
 simp only [ld,aJ,bh,Be hl,Kx hw hl,ob,bi,aN,el,eQ,bG,aF,aE,ai,bF,bM,bL,oj,aj,aq,ar,a1,Kz hl,a2,aW,jc,dJ,tr]
 cases hf:jL w es with
 | nil=>simp [nu]
 | cons g l=>simp [nu,rA]
noncomputable def lS(r:Rl)(R:Rm):List En->Option Nat
 | []=>none
 | e::l=>if dw r R e.g then some e.g else if r.b<=e.m then none else lS r R l
def qp(r:Rl)(R:Rm):Option Nat:=if r.w=.passes then lS r R R.2 else match (jL r.w R.2).head? with
 | none=>none
 | some g=>if dw r R g then some g else none
def nk(cg:PF):Prop:=(∀ (S:ac) (r:Rl) (R:Rm) (g:Nat),R.1.length<=100->cg [r.d,aP R,.int (g:Int)] S=some (.bl (dw r R g),S))/\(∀ (S:ac) (r:Rl) (ws:List Wd),ws.length<=100->cg [r.d,aP (ws,[]),.non] S=some (.bl false,S))
def sG(cg:PF):MS:=az (bC (cV (ak 3 cg (aa (ab 0) (aa (ab 1) (aa (ab 2) (ag)))))) (aU (ab 2)) (aY)) (bC (av (au fGe (ab 4) (au aw (ab 0) (mC (.int 2))))) (aU (mC .non)) (aY))
def Ge:MG:=aZ 4 (af (ah 2) (af (ah 3) (af (ah 4) (af (ah 5) (aK)))))
def lc(cg:PF):MS:=az (ga (au aw (ab 1) (mC (.int 1))) Ge (sG cg)) (aU (mC .non))
theorem NC{e:En}{a0 a1 a2 a3 a4 a5:Option D}:Ge e.d [a0,a1,a2,a3,a4,a5] S=some ([a0,a1,some (.int (e.g:Int)),some (.str (bo e.wr)),some (.int e.m),some (bA e.t)],S):=by
 have g4:Ge e.d [a0,a1,a2,a3,a4,a5] S=(af (ah 2) (af (ah 3) (af (ah 4) (af (ah 5) (aK))))) [.int (e.g:Nat),.str (bo e.wr),.int e.m,bA e.t] [a0,a1,a2,a3,a4,a5] S:=rK
 rw [g4]
 simp only [bB,aN,ob,cS,bV,el,eQ]
def npEnd:Option Nat->Option D->Option D->Option D->Option D->Option D->Option D->ac->oo->Prop
 | some g,_,_,_,_,_,_,S,o=>o=.rt (.int (g:Int)) S
 | none,a0,a1,_,_,_,_,S,o=>o=.rt .non S\/∃ b2 b3 b4 b5,o=.nx [a0,a1,b2,b3,b4,b5] S
theorem vH{cg:PF}(O:nk cg)(hl:R.1.length<=100):∀ (es:List En) (a2 a3 a4 a5:Option D),∃ o,cE Ge (sG cg) (es.map En.d) [some r.d,some (aP R),a2,a3,a4,a5] S=some o/\npEnd (lS r R es) (some r.d) (some (aP R)) a2 a3 a4 a5 S o
 | [],a2,a3,a4,a5=>⟨.nx [some r.d,some (aP R),a2,a3,a4,a5] S,by simp,.inr ⟨_,_,_,_,rfl⟩⟩
 | e::l,a2,a3,a4,a5=>by
  obtain⟨o,ih,q⟩:=vH O hl l (some (.int (e.g:Int))) (some (.str (bo e.wr))) (some (.int e.m)) (some (bA e.t))
  have c1:=O.1 S r R e.g hl
  rw [List.map_cons,fF,NC,ob,nY]
  simp only [sG,aJ,be,dJ,aC,ao,ai,bF,bM,bL,oj,ob,aj,am,ay,al,bH,c1,eS]
  unfold lS
  cases hc:dw r R e.g with
  | true=>exact⟨.rt (.int (e.g:Int)) S,by simp,rfl⟩
  | false=>
   rw [if_neg (by decide)]
   by_cases hb:r.b<=e.m
   ·rw [if_pos hb]
    refine⟨.rt .non S,?_,.inl rfl⟩
    simp [Rl.ix2,hb]
   ·rw [if_neg hb]
    refine⟨o,?_,?_⟩
    ·have:¬ (e.m≥r.b):=hb
     simp [Rl.ix2,this,-ge_iff_le]
     exact ih
    ·cases hp:lS r R l with
     | none=>rw [hp] at q;exact q
     | some g=>rw [hp] at q;exact q
theorem xN{cg:PF}(O:nk cg){N:List Str}(hN:N.length=6)(hl:R.1.length<=100):aO N (lc cg) 2 [r.d,aP R] S=some (nu (lS r R R.2),S):=by
 have hst:aA N [r.d,aP R]=[some r.d,some (aP R),none,none,none,none]:=by simp [aA,hN,List.replicate]
 rw [bd (show [r.d,aP R].length=2 from rfl),hst]
 obtain⟨o,e,q⟩:=vH (S:=S) (r:=r) O hl R.2 none none none none
 have ek:oU Ge (sG cg) [some r.d,some (aP R),none,none,none,none] (bZ R.2,S)=cE Ge (sG cg) (R.2.map En.d) [some r.d,some (aP R),none,none,none,none] S:=rfl
 simp only [lc,aJ,oP,aE,ai,bF,bM,bL,oj,ob,aj,aq,bb,ar,Rm.ix1,ek,e]
 cases hp:lS r R R.2 with
 | none=>
  rw [hp] at q
  rcases q with rfl | ⟨b2,b3,b4,b5,rfl⟩ <;> simp [nu]
 | some g=>
  rw [hp] at q
  have q:o=.rt (.int (g:Int)) S:=q
  subst q;simp [nu]
def nP(np fm cg:PF):MS:=az (bC (av (au bT (au aw (ab 0) (mC (.int 0))) (mC (.str "passes")))) (aU (ak 2 np (aa (ab 0) (aa (ab 1) (ag))))) (aY)) (az (aH (ak 2 fm (aa (au aw (ab 0) (mC (.int 0))) (aa (au aw (ab 1) (mC (.int 1))) (ag)))) (ah 2)) (aU (lF (cV (ak 3 cg (aa (ab 0) (aa (ab 1) (aa (ab 2) (ag)))))) (ab 2) (mC .non))))
theorem GS(h:(jL w es).head?=none):es=[]:=by
 have:jL w es=[]:=by simpa using h
 unfold jL at this
 rw [List.append_eq_nil_iff] at this
 simpa using this.2
theorem Co{np fm cg:PF}(hp:∀ (S:ac) (r:Rl) (R:Rm),R.1.length<=100->np [r.d,aP R] S=some (nu (lS r R R.2),S))(hf:∀ (S:ac) (w:Rw) (es:List En),w≠.passes->es.length<=100->fm [.str w.s,bZ es] S=some (nu (jL w es).head?,S))(hc:nk cg)
  {N:List Str} (hN:N.length=3) (hl:R.1.length<=100) (hl2:R.2.length<=100):aO N (nP np fm cg) 2 [r.d,aP R] S=some (nu (qp r R),S):=by
 have hst:aA N [r.d,aP R]=[some r.d,some (aP R),none]:=by simp [aA,hN,List.replicate]
 rw [bd (show [r.d,aP R].length=2 from rfl),hst]
 have w3:(r.w.s == ("passes":Str))=decide (r.w=.passes):=Rw.eq r.w .passes
 unfold qp
 simp only [nP,aJ,be,aD,aE,ai,bF,bM,bL,oj,ob,aj,aq,bb,ar,Rl.ix0,cI,w3,aB]
 by_cases hw:r.w=.passes
 ·rw [decide_eq_true hw,if_pos hw]
  simp only [bO,aW,aC,ao,ai,bF,bM,bL,oj,ob,aj,am,ay,al,aQ,hp S r R hl,bp,bP,aG]
 ·rw [decide_eq_false hw,if_neg hw]
  have f1:=hf S r.w R.2 hw hl2
  simp only [bI,bt,ob,aF,aJ,bh,aC,ao,aE,ai,bF,bM,bL,oj,aj,aq,bb,ar,Rl.ix0,Rm.ix1,am,ay,al,aQ,f1,bi,aN,el,eQ,bG,aW,jc,dJ,bH]
  cases hh:(jL r.w R.2).head? with
  | none=>
   obtain⟨ws,es⟩:=R
   have:es=[]:=GS hh
   subst this
   have c2:=hc.2 S r ws hl
   simp only [nu,c2,ob,eS]
   simp
  | some g=>
   have c1:=hc.1 S r R g hl
   simp only [nu,c1,ob,eS]
   cases dw r R g <;> simp [nu]
end
end MI
namespace MI
open PySem PySem.Spec PyProof.Rows L2 M
section
variable{ws:List Wd}{es:List En}{r:Rl}{R:Rm}{g:Nat}
noncomputable def HX(ws:List Wd):List Wd:=ws.filter fun w=>!decide (w=.out)
theorem BD{α:Type}{p:α->Bool}:∀ (xs:List α) (k:Nat),((xs.zipIdx k).filter fun q=>p q.1).map (·.1)=xs.filter p
 | [],_=>rfl
 | x::l,k=>by
  rw [List.zipIdx_cons,List.filter_cons,List.filter_cons]
  have ih:=BD (p:=p) l (k+1)
  split
  ·rw [List.map_cons,ih]
  ·exact ih
theorem DP(h:ws[g]?=some .out):cz ws g=HX ws:=by
 unfold cz HX
 rw [<- BD ws 0]
 congr 1
 apply List.filter_congr
 intro q hq
 have hq':ws[q.2]?=some q.1:=mem_zi.mp (show (q.1,q.2)∈ws.zipIdx from hq)
 by_cases hg:q.2=g
 ·rw [hg,h] at hq'
  have:=Option.some.inj hq'
  simp [<- this]
 ·simp [hg]
theorem besK{p:Wd->Bool}:∀ (ws:List Wd) (k g:Nat) (w:Wd),ws[g]?=some w->p w=true->((ws.zipIdx k).filter fun q=>p q.1 && !decide (q.2=k+g)).length+1=(ws.filter p).length
 | [],k,g,w,h,_=>by simp at h
 | x::l,k,0,w,h,hp=>by
  simp at h;subst h
  rw [List.zipIdx_cons,List.filter_cons,List.filter_cons,if_pos hp,List.length_cons,<- BD l (k+1),List.length_map]
  simp only [hp,Nat.add_zero,decide_true,Bool.not_true,Bool.and_false,Bool.false_eq_true,if_false]
  congr 2
  apply List.filter_congr
  intro q hq
  have:k+1<=q.2:=(List.mem_zipIdx hq).1
  have hne:q.2≠k:=by omega
  simp [hne]
 | x::l,k,g+1,w,h,hp=>by
  have ih:=besK (p:=p) l (k+1) g w (by simpa using h) hp
  have e:k+(g+1)=(k+1)+g:=by omega
  rw [e,List.zipIdx_cons,List.filter_cons,List.filter_cons]
  have hne:¬ (k=k+1+g):=by omega
  cases hx:p x with
  | false=>simp only [hx,Bool.false_and,Bool.false_eq_true,if_false];exact ih
  | true=>simp only [hx,hne,decide_false,Bool.not_false,Bool.and_self,if_true,List.length_cons];omega
theorem yw:(HX ws).length+ws.count .out=ws.length:=by
 unfold HX
 have:=List.length_eq_countP_add_countP (fun w:Wd=>w == .out) (l:=ws)
 rw [List.count,this,List.countP_eq_length_filter,Nat.add_comm]
 congr 1
 rw [List.countP_eq_length_filter]
 congr 1
 apply List.filter_congr
 intro w _
 cases w <;> rfl
theorem Mc(h:ws[g]?=some .rising):(cz ws g).isEmpty=decide (ws.count .out+1=ws.length):=by
 have k:=besK (p:=fun w=>!decide (w=.out)) ws 0 g .rising h rfl
 have l:=yw (ws:=ws)
 unfold HX at l
 unfold cz
 simp only [Nat.zero_add] at k
 rw [Bool.eq_iff_iff,decide_eq_true_eq,List.isEmpty_iff,List.map_eq_nil_iff]
 constructor
 ·intro e;rw [e] at k;simp only [List.length_nil] at k;omega
 ·intro e;apply List.eq_nil_of_length_eq_zero;omega
theorem cnt5:∀ ws:List Wd,ws.count .out+ws.count .reads+ws.count .rising+ws.count .writes+ws.count .raised=ws.length
 | []=>rfl
 | w::l=>by
  have:=cnt5 l
  cases w <;> simp [List.count_cons] <;> omega
theorem GO:(HX ws).all (fun w=>decide (w=.reads))=decide (ws.count .out+ws.count .reads=ws.length):=by
 have l:=yw (ws:=ws)
 have c:(HX ws).countP (fun w=>decide (w=.reads))=ws.count .reads:=by
  unfold HX
  rw [List.countP_filter,List.count]
  congr 1
  funext w;cases w <;> rfl
 have d:=List.countP_le_length (p:=fun w:Wd=>decide (w=.reads)) (l:=HX ws)
 rw [Bool.eq_iff_iff,decide_eq_true_eq,List.all_eq_true]
 have e:=List.countP_eq_length (p:=fun w:Wd=>decide (w=.reads)) (l:=HX ws)
 constructor
 ·intro h;have:=e.mpr h;omega
 ·intro h;exact e.mp (by omega)
theorem Oe(h:ROk R){e:En}(he:e∈R.2):(R.2.find? fun x=>decide (x.g=e.g))=some e:=by
 have hn:=h.nd
 generalize R.2=es at hn he
 induction es with
 | nil=>cases he
 | cons x l ih=>
  rw [List.map_cons,List.nodup_cons] at hn
  rw [List.find?_cons]
  rcases List.mem_cons.mp he with rfl | he
  ·simp
  ·have:x.g≠e.g:=fun z=>hn.1 (by rw [z];exact List.mem_map.mpr ⟨e,he,rfl⟩)
   simp only [this,decide_false]
   exact ih hn.2 he
theorem RF(h:ROk R){e:En}(he:e∈R.2):dw r R e.g=pP r R.1 e.wr:=by
 have ho:=h.out e he
 unfold dw pP
 rw [ho,if_neg (by simp),Oe h he,DP ho]
 have c:=cnt5 R.1
 have l:=yw (ws:=R.1)
 dsimp only
 cases hw:e.wr with
 | true=>
  simp only [if_true]
  by_cases h1:R.1.count .reads+R.1.count .rising+R.1.count .out<R.1.length
  ·rw [if_pos h1]
   cases hi:HX R.1 with
   | nil=>rw [hi] at l;simp at l;omega
   | cons _ _=>rfl
  ·rw [if_neg h1]
   rw [Bool.eq_iff_iff,List.isEmpty_iff,decide_eq_true_eq]
   constructor
   ·intro hi;rw [hi] at l;simp at l;omega
   ·intro hi;apply List.eq_nil_of_length_eq_zero;omega
 | false=>
  simp only [Bool.false_eq_true,if_false,GO]
  by_cases h1:R.1.count .reads+R.1.count .rising+R.1.count .out<R.1.length
  ·rw [if_pos h1,decide_eq_false (by omega)];rfl
  ·rw [if_neg h1]
   by_cases h2:R.1.count .rising=0
   ·have:(HX R.1).length=R.1.count .reads+R.1.count .rising:=by omega
    rw [this,decide_eq_true (by omega),decide_eq_true h2]
   ·rw [decide_eq_false (by omega),decide_eq_false h2];rfl
theorem vZ{p:Wd->Bool}:∀ (ws:List Wd) (k:Nat),((ws.zipIdx k).filter fun q=>p q.1).map (·.2)=(List.range' k ws.length).filter fun i=>match ws[i - k]? with | some w=>p w | none=>false
 | [],k=>rfl
 | w::l,k=>by
  have ih:=vZ (p:=p) l (k+1)
  rw [List.zipIdx_cons,List.length_cons,List.range'_succ,List.filter_cons,List.filter_cons]
  have e:(List.range' (k+1) l.length).filter (fun i=>match (w::l)[i - k]? with | some w=>p w | none=>false)=(List.range' (k+1) l.length).filter fun i=>match l[i - (k+1)]? with | some w=>p w | none=>false:=by
   apply List.filter_congr
   intro i hi
   have:k+1<=i:=(List.mem_range'_1.mp hi).1
   rw [show i - k=(i - (k+1))+1 by omega,List.getElem?_cons_succ]
  simp only [Nat.sub_self,List.getElem?_cons_zero]
  cases hp:p w with
  | true=>rw [if_pos rfl,if_pos rfl,List.map_cons,ih,e]
  | false=>rw [if_neg (by decide),if_neg (by decide),ih,e]
theorem uc{α:Type}{p q:α->Bool}:∀ {l:List α},(∀ x∈l,p x=q x)->l.find? p=l.find? q
 | [],_=>rfl
 | x::l,h=>by rw [List.find?_cons,List.find?_cons,h x List.mem_cons_self,uc fun y hy=>h y (List.mem_cons_of_mem _ hy)]
theorem FS:(rH (fun w=>decide (w=.rising)) R.1).find? (dw r R)=(mL R.1).head?:=by
 have e:rH (fun w=>decide (w=.rising)) R.1=(List.range R.1.length).filter fun i=>match R.1[i]? with | some w=>decide (w=.rising) | none=>false:=by
  have k:=vZ (p:=fun w=>decide (w=.rising)) R.1 0
  rw [List.range_eq_range']
  exact k
 rw [e,List.find?_filter]
 unfold mL
 rw [List.head?_filter]
 apply uc
 intro i hi
 by_cases h:R.1[i]?=some .rising
 ·rw [h]
  have:dw r R i=(cz R.1 i).isEmpty:=by unfold dw;rw [if_pos h]
  simp only [decide_true,Bool.true_and]
  rw [this,Mc h]
  simp
 ·rw [decide_eq_false h,Bool.false_and]
  cases hw:R.1[i]? with
  | none=>rfl
  | some w=>
   have:¬ (w=.rising):=fun z=>h (by rw [hw,z])
   simp [this]
theorem AO{p:En->Bool}:∀ (es:List En) (k:Nat),(((es.zipIdx k).filter fun q=>p q.1).map (·.2)).head?=(es.findIdx? p).map (· + k)
 | [],_=>rfl
 | e::l,k=>by
  have ih:=AO (p:=p) l (k+1)
  rw [List.zipIdx_cons,List.filter_cons,List.findIdx?_cons]
  cases hp:p e with
  | true=>simp
  | false=>
   simp only [Bool.false_eq_true,if_false]
   rw [ih]
   cases l.findIdx? p with
   | none=>rfl
   | some i=>simp;omega
theorem jf{p:En->Bool}{es:List En}:(ze p es).head?=es.findIdx? p:=by
 unfold ze;rw [AO];simp
theorem wz{p:En->Bool}:∀ es:List En,((es.filter p).map (·.g)).head?=(es.findIdx? p).bind fun i=>es[i]?.map (·.g)
 | []=>rfl
 | e::l=>by
  have ih:=wz (p:=p) l
  rw [List.filter_cons,List.findIdx?_cons]
  cases hp:p e with
  | true=>simp
  | false=>
   simp only [Bool.false_eq_true,if_false]
   rw [ih]
   cases l.findIdx? p with
   | none=>rfl
   | some i=>simp
theorem rJ{a b:List Nat}:(No a b).head?=a.head?.or b.head?:=by
 unfold No;cases a <;> simp
theorem AR{a b:List Nat}:(a++b).head?=a.head?.or b.head?:=by cases a <;> simp
theorem mW{l:List Nat}:(l.take 1).head?=l.head?:=by cases l <;> simp
theorem jY{p q:En->Bool}(hpq:∀ e,p e = !q e){es:List En}(h:es.findIdx? p=none):es.findIdx? q=(if es=[] then none else some 0):=by
 cases es with
 | nil=>rfl
 | cons e l=>
  rw [List.findIdx?_eq_none_iff] at h
  have:=h e List.mem_cons_self
  rw [hpq] at this
  have hq:q e=true:=by simpa using this
  rw [List.findIdx?_cons,hq];simp
def zf(es:List En)(o:Option Nat):Option Nat:=o.bind fun i=>es[i]?.map (·.g)
theorem Md:(es.map (·.g)).head?=zf es (if es=[] then none else some 0):=by cases es <;> simp [zf]
theorem EW{p:En->Bool}{i:Nat}(h:es.findIdx? p=some i):i<es.length:=(List.findIdx?_eq_some_iff_getElem.mp h).1
theorem Oc(hw:r.w≠.passes):(jL r.w es).head?=zf es (Ba r es).head?:=by
 have f0:∀ p,((es.filter p).map (·.g)).head?=zf es (es.findIdx? p):=fun p=>wz es
 have ff:es.findIdx? (fun _=>false)=none:=by rw [List.findIdx?_eq_none_iff];intros;rfl
 unfold jL Ba
 rw [AR,AR,f0,f0,Md]
 cases hr:r.w with
 | passes=>exact absurd hr hw
 | rows=>
  have e1:kg .rows=fun _=>false:=rfl
  have e2:qX .rows=fun _=>false:=rfl
  rw [e1,e2,ff,mW]
  cases es <;> simp [zf,List.range_succ_eq_map]
 | readers=>
  have e1:kg .readers=fun _=>false:=rfl
  have e2:qX .readers=fun e=>!e.wr:=rfl
  dsimp only
  rw [e1,e2,ff,mW,rJ,jf,jf]
  show (zf es _).or _=_
  cases hf:es.findIdx? fun e=>!e.wr with
  | none=>rw [jY (q:=fun e=>e.wr) (fun _=>rfl) hf];rfl
  | some i=>have:=EW hf;simp [zf,List.getElem?_eq_getElem this]
 | writers=>
  have e1:kg .writers=fun _=>false:=rfl
  have e2:qX .writers=fun e=>e.wr:=rfl
  dsimp only
  rw [e1,e2,ff,mW,rJ,jf,jf]
  show (zf es _).or _=_
  cases hf:es.findIdx? fun e=>e.wr with
  | none=>rw [jY (q:=fun e=>!e.wr) (fun e=>by simp) hf];rfl
  | some i=>have:=EW hf;simp [zf,List.getElem?_eq_getElem this]
 | turns=>
  have e1:kg .turns=fun e=>decide (e.m=1):=by funext e;simp [kg]
  have e2:qX .turns=fun e=>e.wr:=rfl
  dsimp only
  rw [e1,e2,mW,rJ,rJ,jf,jf,jf]
  cases hm:es.findIdx? fun e=>decide (e.m=1) with
  | some i=>have:=EW hm;simp [zf,List.getElem?_eq_getElem this]
  | none=>
   show (zf es _).or _=_
   cases hf:es.findIdx? fun e=>e.wr with
   | none=>rw [jY (q:=fun e=>!e.wr) (fun e=>by simp) hf];rfl
   | some i=>have:=EW hf;simp [zf,List.getElem?_eq_getElem this]
theorem maxL_le{b:Int}{l:List Int}:jR (0::l)<=b↔0<=b/\∀ x∈l,x<=b:=by
 obtain⟨h1,h2⟩:=pL (ns:=0::l) (by simp)
 constructor
 ·intro h
  exact⟨Int.le_trans (h2 0 List.mem_cons_self) h,fun x hx=>Int.le_trans (h2 x (List.mem_cons_of_mem _ hx)) h⟩
 ·intro⟨h0,h⟩
  rcases List.mem_cons.mp h1 with e | e
  ·rw [e];exact h0
  ·exact h _ e
def zJ(r:Rl)(ws:List Wd)(es:List En)(i:Nat):Bool:=(match es[i]? with | some e=>pP r ws e.wr | none=>false)&&decide (jR (0::(es.take i).map fun e=>e.m+1)<=r.b)
theorem vF(hb:0<=r.b)(hc:∀ e∈es,dw r R e.g=pP r R.1 e.wr):∀ (l p:List En),es=p++l->(∀ e∈p,e.m+1<=r.b)->lS r R l=zf es ((List.range' p.length l.length).find? (zJ r R.1 es))
 | [],p,_,_=>by simp [lS,zf]
 | e::l,p,he,hp=>by
  have ei:es[p.length]?=some e:=by rw [he];simp
  have et:es.take p.length=p:=by rw [he];simp
  have hm:e∈es:=by rw [he];simp
  have q0:zJ r R.1 es p.length=pP r R.1 e.wr:=by
   unfold zJ
   rw [ei,et]
   have:jR (0::p.map fun e=>e.m+1)<=r.b:=maxL_le.mpr ⟨hb,fun x hx=>by obtain⟨y,hy,rfl⟩:=List.mem_map.mp hx;exact hp y hy⟩
   simp [this]
  rw [List.length_cons,List.range'_succ,List.find?_cons,q0]
  unfold lS
  rw [hc e hm]
  cases hl:pP r R.1 e.wr with
  | true=>simp [zf,ei]
  | false=>
   rw [if_neg (by decide)]
   by_cases hbm:r.b<=e.m
   ·rw [if_pos hbm]
    have:(List.range' (p.length+1) l.length).find? (zJ r R.1 es)=none:=by
     rw [List.find?_eq_none]
     intro i hi
     have h1:=(List.mem_range'_1.mp hi).1
     have:¬ (jR (0::(es.take i).map fun e=>e.m+1)<=r.b):=fun z=>by
      have:=(maxL_le.mp z).2 (e.m+1) (List.mem_map.mpr ⟨e,?_,rfl⟩)
      ·omega
      ·rw [List.mem_take_iff_getElem]
       refine⟨p.length,?_,?_⟩
       ·have:=(List.getElem?_eq_some_iff.mp ei).1;omega
       ·exact(List.getElem?_eq_some_iff.mp ei).2
     unfold zJ;rw [decide_eq_false this,Bool.and_false];decide
    rw [this];rfl
   ·rw [if_neg hbm]
    have ih:=vF hb hc l (p++[e]) (by rw [he];simp) (fun x hx=>by
     rcases List.mem_append.mp hx with hx | hx
     ·exact hp x hx
     ·have:x=e:=by simpa using hx
      rw [this];omega)
    rw [ih];simp
theorem Ob(hw:r.w≠.passes):(Ba r es).length<=1:=by
 unfold Ba
 cases hr:r.w <;> first | exact absurd hr hw | (simp only [List.length_take];omega)
theorem ND(h:ROk R)(hb:0<=r.b):qp r R=zf R.2 (lC r R.1 R.2).head?:=by
 have hc:∀ e∈R.2,dw r R e.g=pP r R.1 e.wr:=fun e he=>RF h he
 unfold qp
 by_cases hw:r.w=.passes
 ·rw [if_pos hw,vF hb hc R.2 [] rfl (fun _ z=>by cases z)]
  congr 1
  unfold lC Ba
  rw [hw]
  dsimp only
  rw [List.filter_filter,List.head?_filter,List.length_nil,<- List.range_eq_range']
  rfl
 ·rw [if_neg hw,Oc hw]
  have h1:=Ob (es:=R.2) hw
  unfold lC
  cases hf:Ba r R.2 with
  | nil=>rfl
  | cons i l=>
   rw [hf] at h1
   have:l=[]:=by cases l with | nil=>rfl | cons _ _=>simp at h1
   subst this
   have hi:i<R.2.length:=pU (r:=r) (by rw [hf];exact List.mem_cons_self)
   have ei:R.2[i]?=some R.2[i]:=List.getElem?_eq_getElem hi
   have:=hc R.2[i] (List.getElem_mem hi)
   simp only [List.head?_cons,zf,Option.bind_some,ei,Option.map_some,List.filter_cons,this]
   cases pP r R.1 (R.2[i]).wr <;> simp [ei]
noncomputable def nL(r:Rl)(R:Rm):Option Ev:=match (rH (fun w=>decide (w=.rising)) R.1).find? (dw r R) with
 | some g=>some ⟨"steps",g⟩
 | none=>(qp r R).map fun g=>⟨"in",g⟩
inductive DY(r:Rl)(R:Rm):Option Ev->Rm->List Ev->Prop
 | up (g:Nat) (h:R.1[g]?=some .rising):DY r R (some ⟨"steps",g⟩) (R.1.set g .raised,R.2) [⟨"steps",g⟩]
 | go (i:Nat) (e:En) (h:R.2[i]?=some e):DY r R (some ⟨"in",e.g⟩) (qW r R i e) [⟨"in",e.g⟩]
 | no:DY r R none R []
theorem wF(h:ROk R)(hb:0<=r.b):DY r R (nL r R) (lK r R).1 (lK r R).2:=by
 unfold nL lK
 rw [FS,ND h hb]
 cases ha:mL R.1 with
 | cons g l=>exact .up g (oi (by rw [ha];exact List.mem_cons_self))
 | nil=>
  dsimp only [List.head?_nil]
  cases hs:lC r R.1 R.2 with
  | nil=>exact .no
  | cons i l=>
   have hi:i<R.2.length:=pU (r:=r) (List.mem_filter.mp (show i∈lC r R.1 R.2 by rw [hs];exact List.mem_cons_self)).1
   have ei:R.2[i]?=some R.2[i]:=List.getElem?_eq_getElem hi
   simp only [List.head?_cons,zf,Option.bind_some,ei,Option.map_some]
   exact .go i _ ei
def Rx(R:Rm):Nat:=R.2.length+R.1.count .rising
theorem kN{a b:Wd}:∀ {ws:List Wd} {i:Nat},ws[i]?=some a->a≠b->∀ c,(ws.set i b).count c+(if a=c then 1 else 0)=ws.count c+(if b=c then 1 else 0)
 | [],i,h,_,c=>by simp at h
 | w::l,0,h,hn,c=>by
  simp at h;subst h
  rw [List.set_cons_zero,List.count_cons,List.count_cons]
  by_cases h1:w=c <;> by_cases h2:b=c <;> simp [h1,h2] <;> omega
 | w::l,i+1,h,hn,c=>by
  have:=kN (i:=i) (ws:=l) (by simpa using h) hn c
  rw [List.set_cons_succ,List.count_cons,List.count_cons]
  omega
theorem FG{o:Option Ev}{R':Rm}{l:List Ev}(h:ROk R)(s:DY r R o R' l):(o=none/\R'=R/\l=[])\/(∃ v,o=some v/\l=[v]/\Rx R'+1=Rx R):=by
 cases s with
 | no=>exact .inl ⟨rfl,rfl,rfl⟩
 | up g hg=>
  refine .inr ⟨_,rfl,rfl,?_⟩
  have:=kN (b:=.raised) hg (by decide) .rising
  simp only [Rx]
  simp at this
  omega
 | go i e hi=>
  refine .inr ⟨_,rfl,rfl,?_⟩
  have ho:=h.out e (List.mem_of_getElem? hi)
  have hl:=(List.getElem?_eq_some_iff.mp hi).1
  have hc:(R.1.set e.g (if e.wr then .writes else .reads)).count .rising=R.1.count .rising:=by
   cases e.wr with
   | true=>have:=kN (b:=.writes) ho (by decide) .rising;simpa using this
   | false=>have:=kN (b:=.reads) ho (by decide) .rising;simpa using this
  simp only [Rx,qW,hc,List.length_append,List.length_map,List.length_take,List.length_drop]
  omega
theorem Rv(h:ROk R):Rx R<=2 * R.1.length:=by
 have:=h.len
 have:=List.count_le_length (a:=Wd.rising) (l:=R.1)
 unfold Rx;omega
theorem zr(h:nL r R=none)(hk:ROk R)(hb:0<=r.b):∀ n,rX r n R=(R,[])
 | 0=>rfl
 | n+1=>by
  have s:=wF hk hb
  rw [h] at s
  have e:lK r R=(R,[]):=by
   generalize hq:lK r R=q at s
   obtain⟨a,b⟩:=q
   dsimp only at s
   cases s;rfl
  show ((rX r n (lK r R).1).1,(lK r R).2++(rX r n (lK r R).1).2)=_
  rw [e,zr h hk hb n];rfl
end
end MI
namespace MI
open PySem PySem.Spec PyProof.Rows L2 M
section
variable{S:ac}{ws:List Wd}{es:List En}{r:Rl}{R:Rm}{g:Nat}
theorem Oo{l:List Nat}:on S .non (nt l)=some (.bl false):=by
 rw [jZ (ys:=l.map ni) rfl rfl (by rw [List.all_eq_true];intro d hd;obtain⟨i,_,rfl⟩:=List.mem_map.mp hd;rfl)]
 congr 2
 rw [List.any_eq_false]
 intro d hd;obtain⟨i,_,rfl⟩:=List.mem_map.mp hd
 show ¬ (false=true);decide
theorem Ih{gw:PF}(O:Mf gw){N:List Str}(hN:N.length=3)(hl:ws.length<=100):aO N (lN gw) 2 [aP (ws,[]),.non] S=some (.non,S):=by
 have hst:aA N [aP (ws,[]),.non]=[some (aP (ws,[])),some .non,none]:=by simp [aA,hN,List.replicate]
 rw [bd (show [aP (ws,[]),D.non].length=2 from rfl),hst]
 have o1:gw [aP (ws,[]),.tup [.str "rising"]] S=some (nt (rH (fun w=>decide (w∈[Wd.rising])) ws),S):=O S (ws,[]) [.rising] hl
 have k1:cr ([.str "rising"],S)=some (.tup [.str "rising"],S):=aV (by simp)
 have ek:∀ env,oU (ah 2) lL env (bZ [],S)=some (.nx env S):=fun env=>by show cE (ah 2) lL [] env S=_;simp
 simp only [lN,aJ,be,aD,aE,ai,bF,bM,bL,oj,ob,aj,aq,aC,ao,am,bg,bb,ay,al,k1,aQ,o1,ar,Oo,aB,bI,bt,aF,oP,Rm.ix1,ek,aW,bp,aG]
theorem HE{wait:PF}(O:∀ S:ac,wait [aP (ws,[]),.non] S=some (.non,S)){N:List Str}(hN:N.length=6):aO N (fW wait) 3 [r.d,aP (ws,[]),.non] S=some (.bl false,S):=by
 have hst:aA N [r.d,aP (ws,[]),.non]=[some r.d,some (aP (ws,[])),some .non,none,none,none]:=by simp [aA,hN,List.replicate]
 rw [bd (show [r.d,aP (ws,[]),D.non].length=3 from rfl),hst]
 simp only [fW,aJ,bh,aC,ao,ai,bF,bM,bL,oj,ob,aj,am,ay,al,aQ,O,bi,aN,el,eQ,bG,aF,be,aD,aE,aq,bb,ar,jN,lm,aB,bO,aW,bp,bP,aG]
def lb:MS:=az (aH (ab 0) (aZ 2 (af (ah 3) (af (ah 4) (aK))))) (aU (aT (aa (au aR (au aR (bD (ab 3) (bE) (cb (ab 1))) (aT (aa (ab 2) (ag)))) (bD (ab 3) (cb (au aR (ab 1) (mC (.int 1)))) (bE))) (aa (ab 4) (ag)))))
theorem wQ{N:List Str}(hN:N.length=5){w:Wd}(h:g<R.1.length)(hl:R.1.length<=100):aO N lb 3 [aP R,.int (g:Int),w.d] S=some (aP (R.1.set g w,R.2),S):=by
 have hst:aA N [aP R,.int (g:Int),w.d]=[some (aP R),some (.int (g:Int)),some w.d,none,none]:=by simp [aA,hN,List.replicate]
 rw [bd (show [aP R,D.int (g:Int),w.d].length=3 from rfl),hst]
 have g2:∀ env S,aZ 2 (af (ah 3) (af (ah 4) (aK))) (aP R) env S=(af (ah 3) (af (ah 4) (aK))) [cm R.1,bZ R.2] env S:=fun env S=>cw
 have c1:jE (cm R.1) none (some (g:Int),S)=some (.tup ((R.1.take g).map Wd.d),S):=by
  rw [show cm R.1=.tup (R.1.map Wd.d) from rfl,lY,lT,List.map_take]
 have c2:jE (cm R.1) (some ((g:Int)+1)) (none,S)=some (.tup ((R.1.drop (g+1)).map Wd.d),S):=by
  rw [show cm R.1=.tup (R.1.map Wd.d) from rfl,lY,show ((g:Int)+1)=((g+1:Nat):Int) by omega,mZ _ _ (by rw [List.length_map];omega),List.map_drop]
 have k1:∀ x,cr ([x],S)=some (.tup [x],S):=fun x=>aV (by simp)
 have k2:∀ x y,cr ([x,y],S)=some (.tup [x,y],S):=fun x y=>aV (by simp)
 have a1:aR S (.tup ((R.1.take g).map Wd.d)) (.tup [w.d])=some (.tup ((R.1.take g++[w]).map Wd.d)):=by rw [gC (by simp;omega)];simp
 have a2:aR S (.tup ((R.1.take g++[w]).map Wd.d)) (.tup ((R.1.drop (g+1)).map Wd.d))=some (cm (R.1.set g w)):=by
  rw [gC (by simp;omega),<- List.map_append,II _ _ h];rfl
 simp only [lb,aJ,bh,ai,bF,bM,bL,oj,ob,aj,bi,g2,bB,aN,cS,bV,el,eQ,bG,aF,aW,bg,ao,aE,cJ,fI,cQ,fH,dl,dq,c1,aq,am,ay,al,k1,ar,a1,bb,jp,c2,a2,k2,bp,aG]
 rfl
theorem PJ:∀ {es:List En} {i:Nat} {e:En},(es.map (·.g)).Nodup->es[i]?=some e->(es.map fun x=>D.int (x.g:Int)).findIdx? (fun d=>jC d (.int (e.g:Int)))=some i
 | [],i,e,_,h=>by simp at h
 | x::l,0,e,_,h=>by
  simp at h;subst h
  rw [List.map_cons,List.findIdx?_cons]
  have:jC (.int (x.g:Int)) (.int (x.g:Int))=true:=by show ((x.g:Int) == (x.g:Int))=true;simp
  rw [this];rfl
 | x::l,i+1,e,hn,h=>by
  rw [List.map_cons,List.nodup_cons] at hn
  have h':l[i]?=some e:=by simpa using h
  have ih:=PJ hn.2 h'
  rw [List.map_cons,List.findIdx?_cons]
  have:jC (.int (x.g:Int)) (.int (e.g:Int))=false:=by
   show ((x.g:Int) == (e.g:Int))=false
   rw [beq_eq_false_iff_ne]
   intro z
   have:x.g=e.g:=by omega
   exact hn.1 (by rw [this];exact List.mem_map.mpr ⟨e,List.mem_of_getElem? h',rfl⟩)
  rw [this,ih];rfl
theorem RX(hn:(es.map (·.g)).Nodup){i:Nat}{e:En}(h:es[i]?=some e)(hl:es.length<=100):mz (.lst (es.map fun x=>D.int (x.g:Int))) [.int (e.g:Int)] S=some (.int (i:Int),S):=by
 unfold mz
 have h1:qU S (.lst (es.map fun x=>D.int (x.g:Int)))=true:=rfl
 have h2:gN S (.lst (es.map fun x=>D.int (x.g:Int)))=some (es.map fun x=>D.int (x.g:Int)):=rfl
 have h3:cB 40 (.int (e.g:Int))=true/\(es.map fun x=>D.int (x.g:Int)).all (cB 39)=true/\(es.map fun x=>D.int (x.g:Int)).length<=sizeLine:=by
  refine⟨rfl,?_,sz (by rw [List.length_map];omega)⟩
  rw [List.all_eq_true];intro d hd;obtain⟨x,_,rfl⟩:=List.mem_map.mp hd;rfl
 dsimp only
 rw [if_pos h1,h2]
 show (if _ then _ else none)=_
 rw [if_pos h3,PJ hn h];rfl
def yh:ME:=bJ (cY (ab 6)) (aZ 4 (af (ah 0) (af (ah 1) (af (ah 2) (af (ah 3) (aK)))))) (bX) (aT (aa (ab 0) (aa (ab 1) (aa (au aR (ab 2) (mC (.int 1))) (aa (ab 3) (ag)))))) [none,none,none,none]
def liGs:ME:=bJ (cY (ab 4)) (ah 0) (bX) (au aw (ab 0) (mC (.int 0))) [none]
def pH(ww:PF):MS:=az (aH (ab 1) (aZ 2 (af (ah 3) (af (ah 4) (aK))))) (az (aH (fY mz liGs (aa (ab 2) (ag))) (ah 5)) (az (aH (bD (ab 4) (bE) (cb (ab 5))) (ah 6)) (az (bC (av (au bT (au aw (ab 0) (mC (.int 0))) (mC (.str "passes")))) (aH (bf (aM (cj .tup)) (aa yh (ag))) (ah 6)) (aY)) (aU (ak 3 ww (aa (aT (aa (ab 3) (aa (au aR (ab 6) (bD (ab 4) (cb (au aR (ab 5) (mC (.int 1)))) (bE))) (ag)))) (aa (ab 2) (aa (dL BE (au aw (au aw (ab 4) (ab 5)) (mC (.int 1)))) (ag)))))))))
theorem LP{en:MG}{t:ME}{f:En->D}(he:∀ (e:En) (a b c d:Option D),en e.d [a,b,c,d] S=some ([some (.int (e.g:Int)),some (.str (bo e.wr)),some (.int e.m),some (bA e.t)],S))(ht:∀ e:En,t [some (.int (e.g:Int)),some (.str (bo e.wr)),some (.int e.m),some (bA e.t)] S=some (f e,S)) :
  ∀ (es:List En) (a b c d:Option D),dh en bX t (es.map En.d) [a,b,c,d] S=some (es.map f,S)
 | [],a,b,c,d=>by simp
 | e::l,a,b,c,d=>by
  have ih:=LP he ht l (some (.int (e.g:Int))) (some (.str (bo e.wr))) (some (.int e.m)) (some (bA e.t))
  rw [List.map_cons,gb,he,ob,tL,jI,ob,tK,ht,ob,tJ,ih,ob,tI,List.map_cons]
def Qo(e:En):En:={ e with m:=e.m+1 }
theorem CN{a0 a1 a2 a3 a4 a5:Option D}(hl:es.length<=100):yh [a0,a1,a2,a3,a4,a5,some (bZ es)] S=some (.lst ((es.map Qo).map En.d),S):=by
 have k:=LP (S:=S) (en:=aZ 4 (af (ah 0) (af (ah 1) (af (ah 2) (af (ah 3) (aK)))))) (t:=aT (aa (ab 0) (aa (ab 1) (aa (au aR (ab 2) (mC (.int 1))) (aa (ab 3) (ag)))))) (f:=fun e=>(Qo e).d) (fun e a b c d=>by
  have g4:aZ 4 (af (ah 0) (af (ah 1) (af (ah 2) (af (ah 3) (aK))))) e.d [a,b,c,d] S=(af (ah 0) (af (ah 1) (af (ah 2) (af (ah 3) (aK))))) [.int (e.g:Nat),.str (bo e.wr),.int e.m,bA e.t] [a,b,c,d] S:=rK
  rw [g4];simp only [bB,aN,ob,cS,bV,el,eQ]) (fun e=>by
  have k4:∀ x y z w,cr ([x,y,z,w],S)=some (.tup [x,y,z,w],S):=fun x y z w=>aV (by simp)
  simp only [bg,ao,ai,bF,bM,bL,oj,ob,aj,am,aE,aq,bb,ar,jp,ay,al,k4]
  rfl) es none none none none
 simp only [yh,bU,dg,ai,bF,bM,bL,oj,ob,aj,dS]
 rw [je (by rw [List.length_map];omega)]
 show (dh _ bX _ (es.map En.d) [none,none,none,none] S).bind _=_
 rw [k,ob,kD,List.map_map];rfl
theorem Gv{ww:PF}(hw:∀ (S:ac) (R:Rm) (g:Nat) (w:Wd),g<R.1.length->R.1.length<=100->ww [aP R,.int (g:Int),w.d] S=some (aP (R.1.set g w,R.2),S)){N:List Str}(hN:N.length=7)(h:ROk R){i:Nat}{e:En}(hi:R.2[i]?=some e)(hl:R.1.length<=50) :
  aO N (pH ww) 3 [r.d,aP R,.int (e.g:Int)] S=some (aP (qW r R i e),S):=by
 have hst:aA N [r.d,aP R,.int (e.g:Int)]=[some r.d,some (aP R),some (.int (e.g:Int)),none,none,none,none]:=by simp [aA,hN,List.replicate]
 rw [bd (show [r.d,aP R,D.int (e.g:Int)].length=3 from rfl),hst]
 have hle:=h.len
 have hil:=(List.getElem?_eq_some_iff.mp hi).1
 have g2:∀ env S,aZ 2 (af (ah 3) (af (ah 4) (aK))) (aP R) env S=(af (ah 3) (af (ah 4) (aK))) [cm R.1,bZ R.2] env S:=fun env S=>cw
 have gs:∀ env:bm,mn (ah 0) bX (au aw (ab 0) (mC (.int 0))) [none] env (R.2.map En.d,S)=some (.lst (R.2.map fun e=>.int (e.g:Int)),S):=fun env=>gsC (b:=none) rfl (by omega)
 have km:∀ (ms:MA) env,qv mz ms env (.lst (R.2.map fun e=>.int (e.g:Int)),S)=(ms env S).bind (dX mz (.lst (R.2.map fun e=>.int (e.g:Int)))):=fun ms env=>rfl
 have ki:=RX (S:=S) h.nd hi (by omega)
 have c1:jE (bZ R.2) none (some (i:Int),S)=some (bZ (R.2.take i),S):=by
  rw [show bZ R.2=.tup (R.2.map En.d) from rfl,lY,lT];unfold bZ;rw [List.map_take]
 have c2:jE (bZ R.2) (some ((i:Int)+1)) (none,S)=some (bZ (R.2.drop (i+1)),S):=by
  rw [show bZ R.2=.tup (R.2.map En.d) from rfl,lY,show ((i:Int)+1)=((i+1:Nat):Int) by omega,mZ _ _ (by rw [List.length_map];omega)];unfold bZ;rw [List.map_drop]
 have w3:(r.w.s == ("passes":Str))=decide (r.w=.passes):=Rw.eq r.w .passes
 have x1:aw S (bZ R.2) (.int (i:Int))=some e.d:=Lk hi
 have k2:∀ x y,cr ([x,y],S)=some (.tup [x,y],S):=fun x y=>aV (by simp)
 have ad:∀ l:List En,l.length<=60->aR S (bZ l) (bZ (R.2.drop (i+1)))=some (bZ (l++R.2.drop (i+1))):=fun l hl'=>by
  unfold bZ;rw [gC (by simp;omega),<- List.map_append]
 have wi:=fun l=>hw S (R.1,l) e.g (if e.wr then .writes else .reads) (h.lt (List.mem_of_getElem? hi)) (show R.1.length<=100 by omega)
 have wi':∀ l,ww [.tup [cm R.1,bZ l],.int (e.g:Int),(if e.wr then Wd.writes else Wd.reads).d] S=some (aP (R.1.set e.g (if e.wr then .writes else .reads),l),S):=wi
 have sq:aM (cj .tup) [.lst (((R.2.take i).map Qo).map En.d)] S=some (bZ ((R.2.take i).map Qo),S):=by rw [eL];rfl
 simp only [pH,liGs,aJ,bh,ai,bF,bM,bL,oj,ob,aj,bi,g2,bB,aN,cS,bV,el,eQ,bG,aF,mQ,bU,dg,dS,gs,km,ao,am,ay,al,gp,ki,cJ,fI,cQ,fH,dl,dq,c1,be,aD,aE,aq,bb,ar,Rl.ix0,cI,w3,aB]
 by_cases hp:r.w=.passes
 ·rw [decide_eq_true hp]
  have e1:(R.2.take i).map (pz r)=(R.2.take i).map Qo:=by
   apply List.map_congr_left;intro x _;simp [pz,Qo,hp]
  simp only [bO,bh,bR,ao,CN (es:=R.2.take i) (by simp;omega),ob,am,ay,al,bS,sq,bi,aN,el,eQ,bG,aF,aW,aC,bg,ai,bF,bM,bL,oj,aj,aE,aq,cJ,fI,dl,bb,ar,jp,dq,fH,cQ,c2,ad _ (show ((R.2.take i).map Qo).length<=60 by simp;omega),k2,sZ,x1,En.ix1,Ie,bH,wi',bp,aG]
  unfold qW;rw [e1]
 ·rw [decide_eq_false hp]
  have e1:(R.2.take i).map (pz r)=R.2.take i:=by
   have:∀ x:En,pz r x=x:=fun x=>by simp [pz,hp]
   rw [List.map_congr_left (fun x _=>this x),List.map_id']
  simp only [bI,bt,ob,aF,aW,aC,ao,bg,ai,bF,bM,bL,oj,aj,am,aE,aq,cJ,fI,dl,bb,ar,jp,dq,fH,cQ,c2,ad _ (show (R.2.take i).length<=60 by simp;omega),ay,al,k2,sZ,x1,En.ix1,Ie,bH,wi',bp,aG]
  unfold qW;rw [e1]
noncomputable def qY:Option Ev->D
 | none=>.non
 | some v=>v.d
def uo(cg:PF):MS:=bC (cV (ak 3 cg (aa (ab 0) (aa (ab 1) (aa (ab 2) (ag)))))) (aU (aT (aa (mC (.str "steps")) (aa (ab 2) (ag))))) (aY)
def nQ(gw cg nx:PF):MS:=az (ga (ak 2 gw (aa (ab 1) (aa (aT (aa (mC (.str "rising")) (ag))) (ag)))) (ah 2) (uo cg)) (az (aH (ak 2 nx (aa (ab 0) (aa (ab 1) (ag)))) (ah 2)) (aU (lF (av (au ug (ab 2) (mC .non))) (mC .non) (aT (aa (mC (.str "in")) (aa (ab 2) (ag)))))))
theorem wG{cg:PF}(O:nk cg)(hl:R.1.length<=100):∀ (l:List Nat) (a:Option D),∃ b,cE (ah 2) (uo cg) (l.map ni) [some r.d,some (aP R),a] S=some (match l.find? (dw r R) with | some g=>.rt (Ev.mk "steps" g).d S | none=>.nx [some r.d,some (aP R),b] S)
 | [],a=>⟨a,by simp⟩
 | g::l,a=>by
  obtain⟨b,ih⟩:=wG O hl l (some (ni g))
  refine⟨b,?_⟩
  have c1:cg [r.d,aP R,ni g] S=some (.bl (dw r R g),S):=O.1 S r R g hl
  have k2:∀ x y,cr ([x,y],S)=some (.tup [x,y],S):=fun x y=>aV (by simp)
  rw [List.map_cons,fF,aN,ob,eQ,eQ,el,nY]
  simp only [uo,be,dJ,aC,ao,ai,bF,bM,bL,oj,ob,aj,am,ay,al,bH,c1,eS,List.find?_cons]
  cases hc:dw r R g with
  | true=>simp only [bO,aW,bg,ao,bb,ob,am,ai,bF,bM,bL,oj,aj,ay,al,k2,bp,ES];rfl
  | false=>
   rw [bI,bt,ob,mU]
   exact ih
theorem DH{gw cg nx:PF}(hg:Mf gw)(O:nk cg)(hn:∀ (S:ac) (r:Rl) (R:Rm),R.1.length<=100->R.2.length<=100->nx [r.d,aP R] S=some (nu (qp r R),S)){N:List Str}(hN:N.length=3)(hl:R.1.length<=100)(hl2:R.2.length<=100) :
  aO N (nQ gw cg nx) 2 [r.d,aP R] S=some (qY (nL r R),S):=by
 have hst:aA N [r.d,aP R]=[some r.d,some (aP R),none]:=by simp [aA,hN,List.replicate]
 rw [bd (show [r.d,aP R].length=2 from rfl),hst]
 have o1:gw [aP R,.tup [.str "rising"]] S=some (nt (rH (fun w=>decide (w∈[Wd.rising])) R.1),S):=hg S R [.rising] hl
 have k1:cr ([.str "rising"],S)=some (.tup [.str "rising"],S):=aV (by simp)
 have k2:∀ x y,cr ([x,y],S)=some (.tup [x,y],S):=fun x y=>aV (by simp)
 obtain⟨b,e⟩:=wG (S:=S) (r:=r) O hl (rH (fun w=>decide (w∈[Wd.rising])) R.1) none
 have ek:oU (ah 2) (uo cg) [some r.d,some (aP R),none] (nt (rH (fun w=>decide (w∈[Wd.rising])) R.1),S)=cE (ah 2) (uo cg) ((rH (fun w=>decide (w∈[Wd.rising])) R.1).map ni) [some r.d,some (aP R),none] S:=rfl
 have ew:(fun w=>decide (w∈[Wd.rising]))=fun w=>decide (w=Wd.rising):=by funext w;simp
 unfold nL
 simp only [nQ,aJ,oP,aC,ao,ai,bF,bM,bL,oj,ob,aj,am,bg,bb,ay,al,k1,aQ,o1,ek,e]
 rw [ew]
 cases hf:(rH (fun w=>decide (w=Wd.rising)) R.1).find? (dw r R) with
 | some g=>simp only [bP,ob,aG,qY]
 | none=>
  have n1:=hn S r R hl hl2
  simp only [aF,aJ,bh,aC,ao,ai,bF,bM,bL,oj,ob,aj,am,ay,al,aQ,n1,bi,aN,el,eQ,bG,aW,jc,aD,aE,aq,bb,ar,jN]
  cases qp r R with
  | none=>simp [nu,lm,qY]
  | some g=>simp [nu,lm,qY,k2,Ev.d]
def lQ(ww li:PF):MS:=az (aH (ab 2) (aZ 2 (af (ah 3) (af (ah 4) (aK))))) (az (bC (av (au bT (ab 3) (mC (.str "steps")))) (aU (ak 3 ww (aa (ab 1) (aa (ab 4) (aa (mC (.str "raised")) (ag)))))) (aY)) (aU (ak 3 li (aa (ab 0) (aa (ab 1) (aa (ab 4) (ag)))))))
theorem By{ww li:PF}(hw:∀ (S:ac) (R:Rm) (g:Nat) (w:Wd),g<R.1.length->R.1.length<=100->ww [aP R,.int (g:Int),w.d] S=some (aP (R.1.set g w,R.2),S))
  (hi:∀ (S:ac) (r:Rl) (R:Rm) (i:Nat) (e:En),ROk R->R.2[i]?=some e->R.1.length<=50->li [r.d,aP R,.int (e.g:Int)] S=some (aP (qW r R i e),S)) {N:List Str} (hN:N.length=5) (h:ROk R) (hl:R.1.length<=50) {v:Ev} {R':Rm} {l:List Ev} (s:DY r R (some v) R' l) :
  aO N (lQ ww li) 3 [r.d,aP R,v.d] S=some (aP R',S):=by
 have hst:aA N [r.d,aP R,v.d]=[some r.d,some (aP R),some v.d,none,none]:=by simp [aA,hN,List.replicate]
 rw [bd (show [r.d,aP R,v.d].length=3 from rfl),hst]
 have g2:∀ env S,aZ 2 (af (ah 3) (af (ah 4) (aK))) v.d env S=(af (ah 3) (af (ah 4) (aK))) [.str v.w,.int (v.g:Nat)] env S:=fun env S=>cw
 simp only [lQ,aJ,bh,ai,bF,bM,bL,oj,ob,aj,bi,g2,bB,aN,cS,bV,el,eQ,bG,aF,be,aD,aE,aq,bb,ar,cI]
 cases s with
 | up g hg=>
  have e1:(("steps":Str) == ("steps":Str))=true:=by decide
  have w1:ww [aP R,.int (g:Int),.str "raised"] S=some (aP (R.1.set g .raised,R.2),S):=hw S R g .raised (List.getElem?_eq_some_iff.mp hg).1 (by omega)
  simp only [e1,aB,bO,aW,aC,ao,ai,bF,bM,bL,oj,ob,aj,am,bb,ay,al,bH,w1,bp,bP,aG]
 | go i e he=>
  have e1:(("in":Str) == ("steps":Str))=false:=by decide
  have w1:=hi S r R i e h he hl
  simp only [e1,aB,bI,bt,aF,aW,aC,ao,ai,bF,bM,bL,oj,ob,aj,am,ay,al,bH,w1,bp,aG]
def BN(br co:PF):MS:=az (aH (ak 3 br (aa (ab 0) (aa (ab 1) (aa (ab 3) (ag))))) (ah 1)) (az (eV (fY dR (ab 2) (aa (ab 3) (ag)))) (aH (ak 2 co (aa (ab 0) (aa (ab 1) (ag)))) (ah 3)))
def BK:MT:=av (au iy (ab 3) (mC .non))
def lO(br co:PF):MS:=az (aH (fZ (ag)) (ah 2)) (az (aH (ak 2 co (aa (ab 0) (aa (ab 1) (ag)))) (ah 3)) (az (fB BK (BN br co)) (aU (aT (aa (ab 1) (aa (bf (aM (cj .tup)) (aa (ab 2) (ag))) (ag)))))))
structure TN(br co:PF):Prop where
 c:∀ (S:ac) (r:Rl) (R:Rm),R.1.length<=100->R.2.length<=100->co [r.d,aP R] S=some (qY (nL r R),S)
 b:∀ (S:ac) (r:Rl) (R:Rm) (v:Ev) (R':Rm) (l:List Ev),ROk R->R.1.length<=50->DY r R (some v) R' l->br [r.d,aP R,v.d] S=some (aP R',S)
theorem vy{br co:PF}(O:TN br co)(hb:0<=r.b):∀ (n f:Nat) (R:Rm) (evs:List Ev),ROk R->R.1.length<=50->Rx R<=n->n<f->evs.length+n<=400 ->
  gm BK (BN br co) f [some r.d,some (aP R),some (.ref S.length),some (qY (nL r R))] (S++[.lst (evs.map Ev.d)])=some (.nx [some r.d,some (aP (rX r n R).1),some (.ref S.length),some .non] (S++[.lst ((evs++(rX r n R).2).map Ev.d)]))
 | n,0,R,evs,_,_,_,hf,_=>by omega
 | n,f+1,R,evs,h,hl,hm,hf,he=>by
  have s:=wF (r:=r) h hb
  rw [Gs]
  simp only [BK,aD,aE,ai,bF,bM,bL,oj,ob,aj,aq,bb,ar,kK]
  rcases FG h s with ⟨h1,h2,h3⟩ | ⟨v,h1,h2,h3⟩
  ·rw [h1,zr h1 h hb n]
   simp only [qY,lm,Bool.not_true,aB,ob,kWh_f,List.append_nil]
  ·cases n with
   | zero=>omega
   | succ n=>
    obtain⟨q1,q2⟩:=BM (r:=r) h
    have ih:=vy O hb n f (lK r R).1 (evs++[v]) q1 (by omega) (by omega) (by omega) (by simp;omega)
    rw [h1] at s ⊢
    have b1:∀ S,br [r.d,aP R,v.d] S=some (aP (lK r R).1,S):=fun S=>O.b S r R v _ _ h hl s
    have c1:∀ S,co [r.d,aP (lK r R).1] S=some (qY (nL r (lK r R).1),S):=fun S=>O.c S r _ (by omega) (by have:=q1.len;omega)
    have ap:dR (.ref S.length) [v.d] (S++[.lst (evs.map Ev.d)])=some (.non,S++[.lst ((evs++[v]).map Ev.d)]):=Do (by omega)
    have nn:lm (qY (some v)) .non=false:=rfl
    have ev:qY (some v)=v.d:=rfl
    rw [nn]
    simp only [Bool.not_false,aB,ob,kWh_t,BN,aJ,bh,aC,ao,ai,bF,bM,bL,oj,aj,am,ay,al,bH,ev,b1,bi,aN,el,eQ,bG,aF,mR,mQ,yF,gp,ap,mV,aQ,c1,NL]
    have e2:rX r (n+1) R=((rX r n (lK r R).1).1,(lK r R).2++(rX r n (lK r R).1).2):=rfl
    rw [e2,h2,<- List.append_assoc]
    exact ih
theorem xy{br co:PF}(O:TN br co)(hb:0<=r.b){N:List Str}(hN:N.length=4)(h:ROk R)(hl:R.1.length<=50) :
  aO N (lO br co) 2 [r.d,aP R] S=some (.tup [aP (aX r R).1,du (aX r R).2],S++[.lst ((aX r R).2.map Ev.d)]):=by
 have hst:aA N [r.d,aP R]=[some r.d,some (aP R),none,none]:=by simp [aA,hN,List.replicate]
 rw [bd (show [r.d,aP R].length=2 from rfl),hst]
 have k0:tF ([],S)=some (.ref S.length,S++[.lst []]):=mf (by simp)
 have c1:∀ S,co [r.d,aP R] S=some (qY (nL r R),S):=fun S=>O.c S r _ (by omega) (by have:=h.len;omega)
 have lp:=vy (S:=S) O hb (2 * R.1.length) 5000 R [] h hl (Rv h) (by omega) (by simp;omega)
 simp only [List.map_nil,List.nil_append] at lp
 have k2:∀ S x y,cr ([x,y],S)=some (.tup [x,y],S):=fun S x y=>aV (by simp)
 unfold aX
 simp only [lO,aJ,bh,rB,ay,ob,k0,bi,aN,el,eQ,bG,aF,aC,ao,ai,bF,bM,bL,oj,aj,am,al,aQ,c1,JH,lp,aW,bg,bR,bS,KQ,k2,bp,aG]
end
end MI
namespace MI
open PySem PySem.Spec PyProof.Rows L2 M
section
variable{S:ac}{r:Rl}{R:Rm}
theorem Rt{n:Nat}(e:En):cB (n+2) e.d=true:=by
 obtain⟨g,wr,m,t⟩:=e
 cases t <;> rfl
theorem Rs{n:Nat}:cB (n+4) (aP R)=true:=by
 show ((cm R.1::bZ R.2::[]).all (cB (n+3)))=true
 rw [List.all_cons,List.all_cons,List.all_nil,Bool.and_true,Bool.and_eq_true]
 refine⟨Ny (n:=n+2),?_⟩
 show ((R.2.map En.d).all (cB (n+2)))=true
 rw [List.all_eq_true];intro d hd;obtain⟨e,_,rfl⟩:=List.mem_map.mp hd;exact Rt e
theorem Nz{n:Nat}{l:List Ev}:cB (n+3) (du l)=true:=by
 show ((l.map Ev.d).all (cB (n+2)))=true
 rw [List.all_eq_true];intro d hd;obtain⟨e,_,rfl⟩:=List.mem_map.mp hd;rfl
theorem NA{n:Nat}{l:List Ev}:cB (n+5) (.tup [aP R,du l])=true:=by
 show ((aP R::du l::[]).all (cB (n+4)))=true
 rw [List.all_cons,List.all_cons,List.all_nil,Bool.and_true,Bool.and_eq_true]
 exact⟨Rs,Nz (n:=n+1)⟩
theorem KF{x:D}(h:cB 40 x=true):gK S x x=some (.bl false):=by
 rw [qa h h,mD 40 x h];rfl
end
end MI
namespace MI
open PySem PySem.Spec PyProof.Rows L2 M
section
variable{r:Rl}
structure Calm(ws:List Wd):Prop where
 only:∀ w∈ws,w=.out\/w=.reads
 one:1<=ws.count .reads
theorem Calm.set{ws:List Wd}(c:Calm ws){g:Nat}(hg:ws[g]?=some .out):Calm (ws.set g .reads)/\(ws.set g .reads).count .reads=ws.count .reads+1:=by
 have h:=kN (b:=.reads) hg (by decide) .reads
 simp at h
 have:=c.one
 refine⟨⟨fun w hw=>?_,by omega⟩,h⟩
 rcases List.mem_or_eq_of_mem_set hw with z | z
 ·exact c.only w z
 ·exact .inr z
end
end MI
namespace MI
open PySem PySem.Spec PyProof.Rows L2 M
section
variable{α:Type}{enc:α->D}{p:α->Bool}{f:α->D}{t:MT}{e:ME}{rest:bm}{S:ac}{r:Nat}{xs:List α}
end
section
variable{r:Rl}{es:List En}
end
end MI
namespace MI
open PySem PySem.Spec PyProof.Rows L2
open M hiding mC ab au av cT cV cK fC dQ dm vR ia lF ag aa aT dM fZ EB bE cb bD bf dN ak aY az aU eV bC ah aK af aZ gq aH bQ dP gY bJ cY bX fY gn nv ky nT iE fG fD ga fE fB dL
section
variable{α:Type}{enc:α->D}{f:α->Nat->D}{e:ME}{mi:MA}{S:ac}{n:Nat}{c:Option D}
end
section
variable{S:ac}{n:Nat}{a:Option D}
end
def oE(wait:PF):MS:=
 az (bC (av (au bT (au aw (ab 1) (mC (.int 0))) (mC (.str "tick")))) (aU (mC (.bl true))) (aY)) (az (aH (bD (ab 1) (bE) (cb (mC (.int 2)))) (aZ 2 (af (ah 2) (af (ah 3) (aK))))) (az (aH (au aw (au aw (ab 0) (mC (.int 0))) (ab 3)) (ah 4)) (az (bC (av (au bT (ab 2) (mC (.str "up")))) (aU (au bT (ab 4) (mC (.str "reads")))) (aY)) (az (bC (av (au bT (ab 2) (mC (.str "down")))) (aU (au on (ab 4) (mC (.tup [.str "writes",.str "raised"])))) (aY)) (az (bC (av (au bT (ab 2) (mC (.str "leave")))) (aU (au gK (ab 4) (mC (.str "out")))) (aY)) (az (bC (av (au bT (ab 2) (mC (.str "stop")))) (aU (au iy (ak 2 wait (aa (ab 0) (aa (ab 3) (ag)))) (mC .non))) (aY)) (aU (dm (au bT (ab 4) (mC (.str "out"))) (au ug (ak 2 wait (aa (ab 0) (aa (ab 3) (ag)))) (mC .non))))))))))
theorem Dj{es:List En}{g:Nat}:(es.find? fun e=>decide (e.g=g)).isSome=bu es g:=by
 unfold bu;rw [List.isSome_find?]
theorem kY{R:Rm}{g:Nat}:lm (jF R g) .non = !(decide (R.1[g]?=some .rising)||bu R.2 g):=by
 unfold jF
 rw [<- Dj]
 by_cases h:R.1[g]?=some .rising
 ·rw [if_pos h,decide_eq_true h];rfl
 ·rw [if_neg h,decide_eq_false h]
  cases R.2.find? fun e=>decide (e.g=g) with
  | none=>rfl
  | some e=>cases e.wr <;> rfl
theorem HG{wait:PF}(O:qi wait){N:List Str}(hN:N.length=5){S:ac}{R:Rm}{dd:Dd}(hl:R.1.length<=100)(hd:dd.Ok R.1.length)(ht:dd≠.tick):aO N (oE wait) 2 [aP R,dd.d] S=some (.bl (ig R dd),S):=by
 have hst:aA N [aP R,dd.d]=[some (aP R),some dd.d,none,none,none]:=by simp [aA,hN,List.replicate]
 rw [bd (show [aP R,dd.d].length=2 from rfl),hst]
 have x0:∀ S,aw S dd.d (.int 0)=some (.str (fL dd)):=fun S=>by cases dd <;> first | rfl | exact absurd rfl ht
 have tk:bT S (.str (fL dd)) (.str "tick")=some (.bl false):=by rw [cI,Bs ht]
 have hg:ba dd<R.1.length:=by cases dd with
  | ask _ _ _=>exact hd.1
  | act _ _=>exact hd
  | tick=>exact absurd rfl ht
 have hw:R.1[ba dd]?=some R.1[ba dd]:=List.getElem?_eq_getElem hg
 have xw:∀ S,aw S (cm R.1) (.int (ba dd:Int))=some (R.1[ba dd]).d:=fun S=>rM hw
 have sl:∀ S,jE dd.d none (some 2,S)=some (.tup [.str (fL dd),.int (ba dd:Int)],S):=fun S=>by cases dd <;> first | rfl | exact absurd rfl ht
 have g2:∀ x y env S,aZ 2 (af (ah 2) (af (ah 3) (aK))) (.tup [x,y]) env S=(af (ah 2) (af (ah 3) (aK))) [x,y] env S:=fun x y env S=>cw
 have rx:∀ S,aw S (aP R) (.int 0)=some (cm R.1):=fun S=>rfl
 have wt:∀ S,wait [aP R,.int (ba dd:Int)] S=some (jF R (ba dd),S):=fun S=>O S R _ hl
 simp only [oE,aJ,be,aD,aE,ai,bF,bM,bL,oj,ob,aj,aq,bb,ar,x0,tk,aB,bI,bt,aF,bh,cJ,fI,cQ,fH,dl,dq,sl,bi,g2,bB,aN,cS,bV,el,eQ,bG,rx,xw]
 generalize hv:R.1[ba dd]=w at hw
 have e1:bT S w.d (.str "reads")=some (.bl (decide (w=.reads))):=lu (b:=.reads)
 have e2:gK S w.d (.str "out")=some (.bl (!decide (w=.out))):=uf (b:=.out)
 have e3:bT S w.d (.str "out")=some (.bl (decide (w=.out))):=lu (b:=.out)
 cases dd with
 | tick=>exact absurd rfl ht
 | act k g=>
  simp only [ba] at hw wt ⊢
  have wk:∀ j:Ak,bT S (.str (fL (.act k g))) (.str j.s)=some (.bl (decide (k=j))):=fun j=>yD
  have w1:=wk .up
  have w2:=wk .down
  have w3:=wk .leave
  have w4:=wk .stop
  simp only [Ak.s] at w1 w2 w3 w4
  cases k with
  | up=>simp only [w1,aB,ob,decide_true,bO,aW,aE,ai,bF,bM,bL,oj,aj,aq,bb,ar,e1,bp,bP,aG,ig,hw,Option.some.injEq]
  | down=>simp (decide:=true) only [w1,w2,aB,ob,decide_true,decide_false,bI,bt,aF,bO,aJ,be,aD,aW,aE,ai,bF,bM,bL,oj,aj,aq,bb,ar,KK,bp,bP,aG,ig,hw,Option.some.injEq]
  | leave=>simp (decide:=true) only [w1,w2,w3,aB,ob,decide_true,decide_false,bI,bt,aF,bO,aJ,be,aD,aW,aE,ai,bF,bM,bL,oj,aj,aq,bb,ar,e2,bp,bP,aG,ig,hw,Option.some.injEq,ne_eq,decide_not]
  | stop=>
   simp (decide:=true) only [w1,w2,w3,w4,aB,ob,decide_true,decide_false,bI,bt,aF,bO,aJ,be,aD,aW,aE,ai,bF,bM,bL,oj,aj,aq,bb,ar,aC,ao,am,ay,al,aQ,wt,kK,kY,bp,bP,aG,ig,Bool.not_not,Bool.or_comm]
 | ask wr g t=>
  simp only [ba] at hw wt ⊢
  have w1:bT S (.str (fL (.ask wr g t))) (.str "up")=some (.bl false):=by rw [cI];cases wr <;> rfl
  have w2:bT S (.str (fL (.ask wr g t))) (.str "down")=some (.bl false):=by rw [cI];cases wr <;> rfl
  have w3:bT S (.str (fL (.ask wr g t))) (.str "leave")=some (.bl false):=by rw [cI];cases wr <;> rfl
  have w4:bT S (.str (fL (.ask wr g t))) (.str "stop")=some (.bl false):=by rw [cI];cases wr <;> rfl
  simp only [w1,w2,w3,w4,aB,ob,bI,bt,aF,aJ,be,aD,aW,aE,ai,bF,bM,bL,oj,aj,aq,bb,ar,nW,e3]
  by_cases hw':w=.out
  ·subst hw'
   simp only [decide_true,tN,aE,aC,ao,ai,bF,bM,bL,oj,ob,aj,am,ay,al,aQ,wt,aq,bb,ar,jN,kY,bp,aG,ig,hw,Option.some.injEq]
   simp
  ·simp only [decide_eq_false hw',Se,ob,bp,aG,ig,hw,Option.some.injEq,Bool.false_and]
end MI
namespace MI
open PySem PySem.Spec PyProof.Rows L2
open M hiding mC ab au av cT cV cK fC dQ dm vR ia lF ag aa aT dM fZ EB bE cb bD bf dN ak aY az aU eV bC ah aK af aZ gq aH bQ dP gY bJ cY bX fY gn nv ky nT iE fG fD ga fE fB dL jd
section
variable{r:Rl}{R:Rm}{g:Nat}
theorem BL(h:(lK r R).1.1[g]?=some .rising):R.1[g]?=some .rising:=by
 have key:∀ (i:Nat) (w:Wd),w≠.rising->(R.1.set i w)[g]?=some .rising->R.1[g]?=some .rising:=fun i w hw q=>by
  by_cases e:i=g
  ·subst e
   by_cases hl:i<R.1.length
   ·rw [List.getElem?_set_self hl] at q;exact absurd (Option.some.inj q) hw
   ·rw [List.getElem?_eq_none (by simp;omega)] at q;cases q
  ·rwa [List.getElem?_set_ne e] at q
 unfold lK at h
 split at h
 ·exact key _ _ (by decide) h
 ·split at h
  ·split at h
   ·rename_i e _
    refine key _ _ ?_ h
    cases e.wr <;> decide
   ·exact h
  ·exact h
theorem nO:∀ (n:Nat) {R:Rm},(rX r n R).1.1[g]?=some .rising->R.1[g]?=some .rising
 | 0,_,h=>h
 | n+1,R,h=>BL (nO n (R:=(lK r R).1) h)
theorem FH(h:bu (lK r R).1.2 g=true):bu R.2 g=true:=by
 obtain⟨e,he,hg⟩:=List.any_eq_true.mp h
 unfold lK at he
 split at he
 ·exact List.any_eq_true.mpr ⟨e,he,hg⟩
 ·split at he
  ·split at he
   ·rcases List.mem_append.mp he with he | he
    ·obtain⟨y,hy,rfl⟩:=List.mem_map.mp he
     exact List.any_eq_true.mpr ⟨y,List.mem_of_mem_take hy,hg⟩
    ·exact List.any_eq_true.mpr ⟨e,List.mem_of_mem_drop he,hg⟩
   ·exact List.any_eq_true.mpr ⟨e,he,hg⟩
  ·exact List.any_eq_true.mpr ⟨e,he,hg⟩
theorem vA:∀ (n:Nat) {R:Rm},bu (rX r n R).1.2 g=true->bu R.2 g=true
 | 0,_,h=>h
 | n+1,R,h=>FH (vA n (R:=(lK r R).1) h)
theorem sH(h:ROk R){w:Wd}(hw:R.1[g]?=some w)(ho:w≠.out):bu R.2 g=false:=by
 cases z:bu R.2 g with
 | false=>rfl
 | true=>
  obtain⟨e,he,hg⟩:=List.any_eq_true.mp z
  have:=h.out e he
  rw [of_decide_eq_true hg,hw] at this
  exact absurd (Option.some.inj this) ho
theorem Bg{es:List En}(h:bu es g=false):(es.filter fun e=>decide (e.g≠g))=es:=by
 rw [List.filter_eq_self]
 intro e he
 exact decide_eq_true (iF h he)
end
def Fv(settled:PF):Prop:=∀ (S:ac) (r:Rl) (R:Rm),0<=r.b->ROk R->R.1.length<=50->settled [r.d,aP R] S=some (.tup [aP (aX r R).1,du (aX r R).2],S++[.lst ((aX r R).2.map Ev.d)])
structure DeOk(settled wait gw ww:PF):Prop where
 s:Fv settled
 w:qi wait
 g:Mf gw
 ww:∀ (S:ac) (R:Rm) (g:Nat) (w:Wd),g<R.1.length->R.1.length<=100->ww [aP R,.int (g:Int),w.d] S=some (aP (R.1.set g w,R.2),S)
theorem Dn{S:ac}{k l:List Ev}(h:k.length<=400)(h':l.length<=400):aR S (du k) (du l)=some (du (k++l)):=by
 show aR S (.tup (k.map Ev.d)) (.tup (l.map Ev.d))=_
 rw [gC (by simp;omega),<- List.map_append];rfl
theorem wW{r:Rl}{R:Rm}(hl:R.1.length<=50):(aX r R).2.length<=100:=Nat.le_trans (mP _) (by omega)
def eM(x:Rm×List Ev):D:=.tup [aP x.1,du x.2]
def Cb:MS:=az (aH (ab 0) (aZ 2 (af (ah 2) (af (ah 3) (aK))))) (aU (aT (aa (ab 2) (aa (bf (aM (cj .tup)) (aa (bJ (cY (ab 3)) (ah 0) (av (au gK (au aw (ab 0) (mC (.int 0))) (ab 1))) (ab 0) [none,some 1]) (ag))) (ag)))))
section
variable{S:ac}{r:Rl}{R:Rm}{g:Nat}{N:List Str}{settled wait gw ww wo sb tu ol:PF}
theorem Qm(hN:N.length=4)(hl:R.2.length<=100):aO N Cb 2 [aP R,.int (g:Int)] S=some (aP (R.1,R.2.filter fun e=>decide (e.g≠g)),S):=by
 have hst:aA N [aP R,.int (g:Int)]=[some (aP R),some (.int (g:Int)),none,none]:=by simp [aA,hN,List.replicate]
 rw [bd (show [aP R,D.int (g:Int)].length=2 from rfl),hst]
 have g2:∀ env S,aZ 2 (af (ah 2) (af (ah 3) (aK))) (aP R) env S=(af (ah 2) (af (ah 3) (aK))) [cm R.1,bZ R.2] env S:=fun env S=>cw
 have k2:∀ x y:D,cr ([x,y],S)=some (.tup [x,y],S):=fun x y=>aV (by simp)
 have k:=IQ (S:=S) (es:=R.2) (g:=g) (b:=none) (cap:=[none,some 1]) (env:=[some (aP R),some (.int (g:Int)),some (cm R.1),some (bZ R.2)]) rfl hl
 simp only [Cb,aJ,bh,ai,bF,bM,bL,oj,ob,aj,bi,g2,bB,aN,cS,bV,el,eQ,bG,aF,aW,bg,ao,bR,bU,dg,dS,k,am,ay,al,bS,eL,k2,bp,aG]
 rfl
def Cd(settled:PF):MS:=az (aH (ak 2 settled (aa (ab 0) (aa (ab 1) (ag)))) (aZ 2 (af (ah 1) (af (ah 3) (aK))))) (aU (aT (aa (ab 1) (aa (au aR (ab 2) (ab 3)) (ag)))))
def Pi(sb:PF):Prop:=∀ (S:ac) (r:Rl) (R:Rm) (l:List Ev),0<=r.b->ROk R->R.1.length<=50->l.length<=400->∃ T,sb [r.d,aP R,du l] S=some (eM ((aX r R).1,l++(aX r R).2),S++T)
theorem QC(O:Fv settled)(hN:N.length=4){l:List Ev}(hb:0<=r.b)(h:ROk R)(hl:R.1.length<=50)(h4:l.length<=400):∃ T,aO N (Cd settled) 3 [r.d,aP R,du l] S=some (eM ((aX r R).1,l++(aX r R).2),S++T):=by
 have hst:aA N [r.d,aP R,du l]=[some r.d,some (aP R),some (du l),none]:=by simp [aA,hN,List.replicate]
 rw [bd (show [r.d,aP R,du l].length=3 from rfl),hst]
 have o:=O S r R hb h hl
 have fw:=wW (r:=r) hl
 have g2:∀ (x y:D) env S,aZ 2 (af (ah 1) (af (ah 3) (aK))) (.tup [x,y]) env S=(af (ah 1) (af (ah 3) (aK))) [x,y] env S:=fun x y env S=>cw
 have k2:∀ S (x y:D),cr ([x,y],S)=some (.tup [x,y],S):=fun S x y=>aV (by simp)
 have ec:∀ S,aR S (du l) (du (aX r R).2)=some (du (l++(aX r R).2)):=fun S=>Dn h4 (by omega)
 refine⟨[.lst ((aX r R).2.map Ev.d)],?_⟩
 simp only [Cd,aJ,bh,aC,ao,ai,bF,bM,bL,oj,ob,aj,am,ay,al,aQ,o,bi,g2,bB,aN,cS,bV,el,eQ,bG,aF,aW,bg,aE,aq,ar,ec,k2,bp,aG,eM]
def tuC:ME:=bJ (cY (ab 4)) (aZ 4 (af (ah 0) (af (ah 1) (af (ah 2) (af (ah 3) (aK)))))) (bX) (aT (aa (ab 0) (aa (ab 1) (aa (lF (av (au bT (ab 1) (mC (.str "read")))) (mC (.int 1)) (ab 2)) (aa (ab 3) (ag)))))) [none,none,none,none]
def Cc:MS:=az (aH (ab 1) (aZ 2 (af (ah 3) (af (ah 4) (aK))))) (az (bC (fC (av (au gK (au aw (ab 0) (mC (.int 0))) (mC (.str "turns")))) (av (au gK (au aw (ab 3) (ab 2)) (mC (.str "writes"))))) (aU (ab 1)) (aY)) (aU (aT (aa (ab 3) (aa (bf (aM (cj .tup)) (aa tuC (ag))) (ag))))))
theorem Ka{e:ME}{f:En->D}{cap:List (Option Nat)}{env:bm}{a b c d:Option D}{es:List En}(hc:ut cap env=[a,b,c,d])(hl:es.length<=1000)(he:∀ x:En,e [some (.int (x.g:Nat)),some (.str (bo x.wr)),some (.int x.m),some (bA x.t)] S=some (f x,S)) :
  mn (aZ 4 (af (ah 0) (af (ah 1) (af (ah 2) (af (ah 3) (aK)))))) bX e cap env (es.map En.d,S)=some (.lst (es.map f),S):=by
 rw [je (by rw [List.length_map];exact hl),hc,LP (t:=e) (f:=f) (fun x a b c d=>?_) he,ob,kD]
 rw [show x.d=.tup [.int (x.g:Nat),.str (bo x.wr),.int x.m,bA x.t] from rfl,rK]
 simp only [bB,aN,ob,el,eQ,cS,bV]
theorem Ig{b:Bool}:(bo b == ("read":Str)) = !b:=by cases b <;> decide +kernel
def TuOk(tu:PF):Prop:=∀ (S:ac) (r:Rl) (R:Rm) (g:Nat) (w:Wd),R.1[g]?=some w->R.2.length<=100->tu [r.d,aP R,.int (g:Int)] S=some (aP (R.1,sK r w R.2),S)
theorem Qu(hN:N.length=5){w:Wd}(hw:R.1[g]?=some w)(hl:R.2.length<=100):aO N Cc 3 [r.d,aP R,.int (g:Int)] S=some (aP (R.1,sK r w R.2),S):=by
 have hst:aA N [r.d,aP R,.int (g:Int)]=[some r.d,some (aP R),some (.int (g:Int)),none,none]:=by simp [aA,hN,List.replicate]
 rw [bd (show [r.d,aP R,D.int (g:Int)].length=3 from rfl),hst]
 have g2:∀ env S,aZ 2 (af (ah 3) (af (ah 4) (aK))) (aP R) env S=(af (ah 3) (af (ah 4) (aK))) [cm R.1,bZ R.2] env S:=fun env S=>cw
 have k2:∀ x y:D,cr ([x,y],S)=some (.tup [x,y],S):=fun x y=>aV (by simp)
 have k4:∀ x y z u:D,cr ([x,y,z,u],S)=some (.tup [x,y,z,u],S):=fun x y z u=>aV (by simp)
 have xw:aw S (cm R.1) (.int (g:Int))=some w.d:=rM hw
 have x0:aw S r.d (.int 0)=some (.str r.w.s):=rfl
 have e1:gK S (.str r.w.s) (.str "turns")=some (.bl (!decide (r.w=.turns))):=by
  rw [pZ];congr 2;cases r.w <;> decide +kernel
 have e2:gK S w.d (.str "writes")=some (.bl (!decide (w=.writes))):=uf (b:=.writes)
 have k:=Ka (S:=S) (es:=R.2) (cap:=[none,none,none,none]) (env:=[some r.d,some (aP R),some (.int (g:Int)),some (cm R.1),some (bZ R.2)]) (a:=none) (b:=none) (c:=none) (d:=none) (e:=aT (aa (ab 0) (aa (ab 1) (aa (lF (av (au bT (ab 1) (mC (.str "read")))) (mC (.int 1)) (ab 2)) (aa (ab 3) (ag)))))) (f:=fun x=>(if x.wr then x else { x with m:=1 }).d) rfl (by omega) fun x=>by
  obtain⟨xg,xwr,xm,xt⟩:=x
  cases xwr with
  | true=>
   have:bT S (.str (bo true)) (.str "read")=some (.bl false):=by rw [cI,Ig];rfl
   simp only [bg,ao,ai,bF,bM,bL,oj,ob,aj,am,jc,aD,aE,aq,bb,ar,this,aB,vY,ay,al,k4]
   rfl
  | false=>
   have:bT S (.str (bo false)) (.str "read")=some (.bl true):=by rw [cI,Ig];rfl
   simp only [bg,ao,ai,bF,bM,bL,oj,ob,aj,am,jc,aD,aE,aq,bb,ar,this,aB,tG,ay,al,k4]
   rfl
 simp only [Cc,aJ,bh,ai,bF,bM,bL,oj,ob,aj,bi,g2,bB,aN,cS,bV,el,eQ,bG,aF,be,jb,aD,aE,aq,bb,ar,x0,e1,aB]
 unfold sK
 by_cases h1:r.w=.turns
 ·simp only [decide_eq_true h1,Bool.not_true,lZ,aD,aE,ai,bF,bM,bL,oj,ob,aj,aq,bb,ar,xw,e2,aB]
  by_cases h2:w=.writes
  ·simp only [decide_eq_true h2,Bool.not_true,bI,bt,ob,aF,aW,bg,ao,ai,bF,bM,bL,oj,aj,am,bR,tuC,bU,dg,dS,k,ay,al,bS,eL,k2,bp,aG]
   rw [if_pos ⟨h1,h2⟩]
   simp only [aP,bZ,List.map_map]
   rfl
  ·simp only [decide_eq_false h2,Bool.not_false,bO,aW,ai,bF,bM,bL,oj,ob,aj,bp,bP,aG]
   rw [if_neg (fun z=>h2 z.2)]
 ·simp only [decide_eq_false h1,Bool.not_false,yp,ob,bO,aW,ai,bF,bM,bL,oj,aj,bp,bP,aG]
  rw [if_neg (fun z=>h1 z.1)]
def xB(settled wait wo:PF):MS:=az (aH (ab 2) (aZ 3 (af (ah 3) (af (ah 4) (af (ah 5) (aK)))))) (az (aH (ab 1) (aZ 2 (af (ah 6) (af (ah 7) (aK))))) (az (aH (aT (aa (ab 4) (aa (ab 3) (aa (mC (.int 0)) (aa (lF (av (au bT (ab 5) (mC (.int 0)))) (mC (.int 1)) (ab 5)) (ag)))))) (ah 8)) (az (aH (ak 2 settled (aa (ab 0) (aa (aT (aa (ab 6) (aa (au aR (ab 7) (aT (aa (ab 8) (ag)))) (ag)))) (ag)))) (aZ 2 (af (ah 1) (af (ah 9) (aK))))) (az (bC (av (au ug (ak 2 wait (aa (ab 1) (aa (ab 4) (ag)))) (mC .non))) (aU (aT (aa (ab 1) (aa (ab 9) (ag))))) (aY)) (az (bC (av (au bT (ab 5) (mC (.int 0)))) (aU (aT (aa (ak 2 wo (aa (ab 1) (aa (ab 4) (ag)))) (aa (au aR (ab 9) (aT (aa (aT (aa (mC (.str "no")) (aa (ab 4) (ag)))) (ag)))) (ag))))) (aY)) (aU (aT (aa (ab 1) (aa (au aR (ab 9) (aT (aa (aT (aa (mC (.str "waits")) (aa (ab 4) (ag)))) (ag)))) (ag))))))))))
def TK(wo:PF):Prop:=∀ (S:ac) (R:Rm) (g:Nat),R.2.length<=100->wo [aP R,.int (g:Int)] S=some (aP (R.1,R.2.filter fun e=>decide (e.g≠g)),S)
theorem Ph(O:Fv settled)(W:qi wait)(V:TK wo)(hN:N.length=10){wr:Bool}{t:Option Int}(hb:0<=r.b)(h:ROk R)(hl:R.1.length<=50)(hw:R.1[g]?=some .out)(hs:bu R.2 g=false):∃ T,aO N (xB settled wait wo) 3 [r.d,aP R,(Dd.ask wr g t).d] S=some (eM (uy r R wr g t),S++T):=by
 have hst:aA N [r.d,aP R,(Dd.ask wr g t).d]=[some r.d,some (aP R),some (Dd.ask wr g t).d,none,none,none,none,none,none,none]:=by simp [aA,hN,List.replicate]
 rw [bd (show [r.d,aP R,(Dd.ask wr g t).d].length=3 from rfl),hst]
 have hle:=h.len
 have ok:=yV (wr:=wr) (t:=t) h hw hs
 have g3:∀ env S,aZ 3 (af (ah 3) (af (ah 4) (af (ah 5) (aK)))) (Dd.ask wr g t).d env S=(af (ah 3) (af (ah 4) (af (ah 5) (aK)))) [.str (bo wr),.int (g:Int),bA t] env S:=fun env S=>yy
 have g2:∀ env S,aZ 2 (af (ah 6) (af (ah 7) (aK))) (aP R) env S=(af (ah 6) (af (ah 7) (aK))) [cm R.1,bZ R.2] env S:=fun env S=>cw
 have g2':∀ (x y:D) env S,aZ 2 (af (ah 1) (af (ah 9) (aK))) (.tup [x,y]) env S=(af (ah 1) (af (ah 9) (aK))) [x,y] env S:=fun x y env S=>cw
 have k1:∀ S (x:D),cr ([x],S)=some (.tup [x],S):=fun S x=>aV (by simp)
 have k2:∀ S (x y:D),cr ([x,y],S)=some (.tup [x,y],S):=fun S x y=>aV (by simp)
 have k4:∀ S (x y z u:D),cr ([x,y,z,u],S)=some (.tup [x,y,z,u],S):=fun S x y z u=>aV (by simp)
 have hi:lF (av (au bT (ab 5) (mC (.int 0)))) (mC (.int 1)) (ab 5) [some r.d,some (aP R),some (Dd.ask wr g t).d,some (.str (bo wr)),some (.int (g:Int)),some (bA t),some (cm R.1),some (bZ R.2),none,none] S=some (bA (if t=some 0 then some 1 else t),S):=by
  simp only [jc,aD,aE,ai,bF,bM,bL,oj,ob,aj,aq,bb,ar,jo,aB]
  by_cases z:t=some 0
  ·rw [decide_eq_true z,if_pos z];simp only [tG,bb];rfl
  ·rw [decide_eq_false z,if_neg z];simp only [vY,ai,bF,bM,bL,oj,ob,aj]
 have ed:D.tup [.int (g:Int),.str (bo wr),.int 0,bA (if t=some 0 then some 1 else t)]=(lB wr g t).d:=rfl
 have ae:aR S (bZ R.2) (.tup [(lB wr g t).d])=some (bZ (R.2++[lB wr g t])):=by
  show aR S (.tup (R.2.map En.d)) _=_
  rw [gC (by simp;omega)];simp [bZ]
 have so:=O S r (R.1,R.2++[lB wr g t]) hb ok hl
 have so':settled [r.d,.tup [cm R.1,bZ (R.2++[lB wr g t])]] S=_:=so
 have fw:=wW (r:=r) (R:=(R.1,R.2++[lB wr g t])) hl
 have lnS:(aX r (R.1,R.2++[lB wr g t])).1.1.length=R.1.length:=(dj (r:=r) ok).2
 have okS:=(dj (r:=r) ok).1
 have ln2:=okS.len
 generalize hA:aX r (R.1,R.2++[lB wr g t])=A at so' fw lnS okS ln2
 have nr:¬ A.1.1[g]?=some .rising:=fun z=>by
  rw [<- hA] at z
  have:=nO _ z
  rw [hw] at this;cases this
 have wt:∀ S,wait [aP A.1,.int (g:Int)] S=some (jF A.1 g,S):=fun S=>W S A.1 g (by omega)
 have vo:∀ S,wo [aP A.1,.int (g:Int)] S=some (aP (A.1.1,A.1.2.filter fun e=>decide (e.g≠g)),S):=fun S=>V S A.1 g (by omega)
 have e1:∀ S (w:Str),aR S (du A.2) (.tup [.tup [.str w,.int (g:Int)]])=some (du (A.2++[⟨w,g⟩])):=fun S w=>Dn (l:=[⟨w,g⟩]) (by omega) (by simp)
 have wb:lm (jF A.1 g) .non = !bu A.1.2 g:=by rw [kY,decide_eq_false nr,Bool.false_or]
 refine⟨[.lst (A.2.map Ev.d)],?_⟩
 simp only [xB,aJ,bh,ai,bF,bM,bL,oj,ob,aj,bi,g3,bB,aN,cS,bV,el,eQ,bG,aF,g2,bg,ao,bb,hi,am,ay,al,k4,ed,aC,aE,aq,k1,ar,ae,k2,aQ,so',g2',be,aD,wt,jN,wb,aB]
 unfold uy
 rw [hA]
 dsimp only
 cases hst:bu A.1.2 g with
 | false=>
  rw [if_pos rfl]
  simp only [Bool.not_false,bO,aW,bg,ao,ai,bF,bM,bL,oj,ob,aj,am,ay,al,k2,bp,bP,aG,eM]
 | true=>
  rw [if_neg (by decide)]
  simp only [Bool.not_true,bI,bt,ob,aF,aJ,be,aD,aE,ai,bF,bM,bL,oj,aj,aq,bb,ar,jo,aB]
  by_cases z:t=some 0
  ·rw [decide_eq_true z,if_pos z]
   simp only [bO,aW,bg,ao,aC,ai,bF,bM,bL,oj,ob,aj,am,ay,al,aQ,vo,aE,aq,bb,k2,k1,ar,e1,bp,bP,aG,eM]
  ·rw [decide_eq_false z,if_neg z]
   simp only [bI,bt,ob,aF,aW,bg,ao,ai,bF,bM,bL,oj,aj,am,ay,al,aE,aq,bb,k2,k1,ar,e1,bp,aG,eM]
theorem DV(h:ROk R){k:Ak}{w:Wd}(hs:bu R.2 g=false):qh r k w g R.2=if k=.down\/k=.leave then sK r w R.2 else R.2:=by
 unfold qh
 refine Bg ?_
 split
 ·unfold sK
  split
  ·unfold bu
   rw [List.any_map]
   refine Eq.trans ?_ hs
   unfold bu
   congr 1
   funext e
   show decide ((if e.wr=true then e else { e with m:=1 }).g=g)=_
   cases e.wr <;> rfl
  ·exact hs
 ·exact hs
def xz(settled wait gw ww:PF):MS:=az (aH (au aw (ab 2) (mC (.int 1))) (ah 3)) (az (bC (fC (av (au bT (au aw (ab 0) (mC (.int 3))) (mC (.int 0)))) (cV (ak 2 gw (aa (ab 1) (aa (aT (aa (mC (.str "rising")) (ag))) (ag)))))) (aU (aT (aa (ab 1) (aa (aT (aa (aT (aa (mC (.str "no")) (aa (ab 3) (ag)))) (ag))) (ag))))) (aY)) (az (aH (ak 2 settled (aa (ab 0) (aa (ak 3 ww (aa (ab 1) (aa (ab 3) (aa (mC (.str "rising")) (ag))))) (ag)))) (aZ 2 (af (ah 1) (af (ah 4) (aK))))) (az (bC (av (au ug (ak 2 wait (aa (ab 1) (aa (ab 3) (ag)))) (mC .non))) (aU (aT (aa (ab 1) (aa (ab 4) (ag))))) (aY)) (aU (aT (aa (ab 1) (aa (au aR (ab 4) (aT (aa (aT (aa (mC (.str "waits")) (aa (ab 3) (ag)))) (ag)))) (ag))))))))
theorem Qn(O:DeOk settled wait gw ww)(hN:N.length=5)(hb:0<=r.b)(h:ROk R)(hl:R.1.length<=50)(hw:R.1[g]?=some .reads):∃ T,aO N (xz settled wait gw ww) 3 [r.d,aP R,(Dd.act .up g).d] S=some (eM (if r.c=0\/Wd.rising∈R.1 then (R,[⟨"no",g⟩]) else lJ r R .up g .reads),S++T):=by
 have hst:aA N [r.d,aP R,(Dd.act .up g).d]=[some r.d,some (aP R),some (Dd.act .up g).d,none,none]:=by simp [aA,hN,List.replicate]
 rw [bd (show [r.d,aP R,(Dd.act .up g).d].length=3 from rfl),hst]
 have hg:g<R.1.length:=(List.getElem?_eq_some_iff.mp hw).1
 have x1:aw S (Dd.act .up g).d (.int 1)=some (.int (g:Int)):=rfl
 have x3:aw S r.d (.int 3)=some (.int r.c):=rfl
 have k1:∀ S (x:D),cr ([x],S)=some (.tup [x],S):=fun S x=>aV (by simp)
 have k2:∀ S (x y:D),cr ([x,y],S)=some (.tup [x,y],S):=fun S x y=>aV (by simp)
 have gr:gw [aP R,.tup [.str "rising"]] S=some (nt (rH (fun w=>decide (w∈[Wd.rising])) R.1),S):=O.g S R [.rising] (by omega)
 have tr:AI (nt (rH (fun w=>decide (w∈[Wd.rising])) R.1),S)=some (decide (Wd.rising∈R.1),S):=by
  cases hx:rH (fun w=>decide (w∈[Wd.rising])) R.1 with
  | nil=>
   have:¬ Wd.rising∈R.1:=fun z=>by
    obtain⟨i,hi⟩:=List.mem_iff_getElem?.mp z
    have:i∈rH (fun w=>decide (w∈[Wd.rising])) R.1:=mem_ixW.mpr ⟨_,hi,by simp⟩
    rw [hx] at this;cases this
   rw [decide_eq_false this];rfl
  | cons i l=>
   have:i∈rH (fun w=>decide (w∈[Wd.rising])) R.1:=by rw [hx];exact List.mem_cons_self
   obtain⟨w,h1,h2⟩:=mem_ixW.mp this
   have e:w=.rising:=by simpa using h2
   subst e
   rw [decide_eq_true (List.mem_of_getElem? h1)];rfl
 have ref:(r.c=0\/Wd.rising∈R.1)->∀ env,env=[some r.d,some (aP R),some (Dd.act .up g).d,some (.int (g:Int)),none]->fC (av (au bT (au aw (ab 0) (mC (.int 3))) (mC (.int 0)))) (cV (ak 2 gw (aa (ab 1) (aa (aT (aa (mC (.str "rising")) (ag))) (ag))))) env S=some (true,S):=fun z env he=>by
  subst he
  by_cases hc:r.c=0
  ·have:(r.c == 0)=true:=by rw [hc];rfl
   simp only [jb,aD,aE,ai,bF,bM,bL,oj,ob,aj,aq,bb,ar,x3,gB,this,aB,yp]
  ·have q:(r.c == 0)=false:=beq_eq_false_iff_ne.mpr hc
   simp only [jb,aD,aE,ai,bF,bM,bL,oj,ob,aj,aq,bb,ar,x3,gB,q,aB,lZ,dJ,aC,ao,am,bg,ay,al,k1,aQ,gr,tr,decide_eq_true (z.resolve_left hc)]
 by_cases z:r.c=0\/Wd.rising∈R.1
 ·rw [if_pos z]
  refine⟨[],?_⟩
  simp only [xz,aJ,bh,aE,ai,bF,bM,bL,oj,ob,aj,aq,bb,ar,x1,bi,aN,el,eQ,bG,aF,be,ref z _ rfl,bO,aW,bg,ao,am,ay,al,k2,k1,bp,bP,aG,List.append_nil]
  rfl
 ·rw [if_neg z]
  have hc:(r.c == 0)=false:=beq_eq_false_iff_ne.mpr fun q=>z (.inl q)
  have hr:¬ Wd.rising∈R.1:=fun q=>z (.inr q)
  have hs:=sH h hw (by decide)
  have wwo:ww [aP R,.int (g:Int),.str "rising"] S=some (aP (R.1.set g .rising,R.2),S):=O.ww S R g .rising hg (by omega)
  have ok:ROk (R.1.set g .rising,R.2):=h.setW g .rising fun e he=>iF hs he
  have so:=O.s S r (R.1.set g .rising,R.2) hb ok (by simp;omega)
  have fw:=wW (r:=r) (R:=(R.1.set g .rising,R.2)) (by simp;omega)
  have lnS:(aX r (R.1.set g .rising,R.2)).1.1.length=R.1.length:=(dj (r:=r) ok).2.trans (by simp)
  have ns:bu (aX r (R.1.set g .rising,R.2)).1.2 g=false:=by
   cases q:bu (aX r (R.1.set g .rising,R.2)).1.2 g with
   | false=>rfl
   | true=>have:=vA _ q;rw [hs] at this;cases this
  have aL:lJ r R .up g .reads=((aX r (R.1.set g .rising,R.2)).1,(aX r (R.1.set g .rising,R.2)).2++(if (aX r (R.1.set g .rising,R.2)).1.1[g]?=some .rising then [⟨"waits",g⟩] else [])):=by
   unfold lJ
   rw [DV h hs,if_neg (by decide)]
   rfl
  rw [aL]
  generalize aX r (R.1.set g .rising,R.2)=A at so fw lnS ns
  have wt:∀ S,wait [aP A.1,.int (g:Int)] S=some (jF A.1 g,S):=fun S=>O.w S A.1 g (by omega)
  have g2:∀ (x y:D) env S,aZ 2 (af (ah 1) (af (ah 4) (aK))) (.tup [x,y]) env S=(af (ah 1) (af (ah 4) (aK))) [x,y] env S:=fun x y env S=>cw
  have e1:∀ S (w:Str),aR S (du A.2) (.tup [.tup [.str w,.int (g:Int)]])=some (du (A.2++[⟨w,g⟩])):=fun S w=>Dn (l:=[⟨w,g⟩]) (by omega) (by simp)
  have wb:lm (jF A.1 g) .non = !decide (A.1.1[g]?=some .rising):=by rw [kY,ns,Bool.or_false]
  refine⟨[.lst (A.2.map Ev.d)],?_⟩
  simp only [xz,aJ,bh,aE,ai,bF,bM,bL,oj,ob,aj,aq,bb,ar,x1,bi,aN,el,eQ,bG,aF,be,jb,aD,x3,gB,hc,aB,lZ,dJ,aC,ao,am,bg,ay,al,k1,aQ,gr,tr,decide_eq_false hr,bI,bt,bH,wwo,so,g2,bB,cS,bV,wt,jN,wb]
  by_cases q:A.1.1[g]?=some .rising
  ·rw [decide_eq_true q,if_pos q]
   simp only [Bool.not_true,bI,bt,ob,aF,aW,bg,ao,ai,bF,bM,bL,oj,aj,am,ay,al,aE,aq,bb,k2,k1,ar,e1,bp,aG,eM]
  ·rw [decide_eq_false q,if_neg q,List.append_nil]
   simp only [Bool.not_false,bO,aW,bg,ao,ai,bF,bM,bL,oj,ob,aj,am,ay,al,k2,bp,bP,aG,eM]
def oC(sb ww tu:PF)(x y:Str):MS:=az (aH (au aw (ab 2) (mC (.int 1))) (ah 3)) (aU (ak 3 sb (aa (ab 0) (aa (ak 3 ww (aa (ak 3 tu (aa (ab 0) (aa (ab 1) (aa (ab 3) (ag))))) (aa (ab 3) (aa (mC (.str x)) (ag))))) (aa (aT (aa (aT (aa (mC (.str y)) (aa (ab 3) (ag)))) (ag))) (ag))))))
theorem yY{k:Ak}{w w':Wd}{es:List En}(hg:g<R.1.length)(hk:gj k w=w')(hr:w'≠.rising)(he:qh r k w g R.2=es):lJ r R k g w=((aX r (R.1.set g w',es)).1,fJ k g++(aX r (R.1.set g w',es)).2):=by
 unfold lJ
 rw [hk,he]
 dsimp only
 rw [if_neg,List.append_nil]
 intro z
 have:=nO _ z
 rw [List.getElem?_set_self hg] at this
 exact hr (Option.some.inj this)
theorem Bo(SB:Pi sb)(WW:∀ (S:ac) (R:Rm) (g:Nat) (w:Wd),g<R.1.length->R.1.length<=100->ww [aP R,.int (g:Int),w.d] S=some (aP (R.1.set g w,R.2),S))(TU:TuOk tu)(hN:N.length=4)(hb:0<=r.b)(h:ROk R)(hl:R.1.length<=50){w w':Wd}{k:Ak}{y:Str}(hw:R.1[g]?=some w)(ho:w≠.out)(hk:k=.down\/k=.leave)(ht:gj k w=w')(hr:w'≠.rising)(hf:fJ k g=[⟨y,g⟩]) :
  ∃ T,aO N (oC sb ww tu w'.s y) 3 [r.d,aP R,(Dd.act k g).d] S=some (eM (lJ r R k g w),S++T):=by
 have hst:aA N [r.d,aP R,(Dd.act k g).d]=[some r.d,some (aP R),some (Dd.act k g).d,none]:=by simp [aA,hN,List.replicate]
 rw [bd (show [r.d,aP R,(Dd.act k g).d].length=3 from rfl),hst]
 have hg:g<R.1.length:=(List.getElem?_eq_some_iff.mp hw).1
 have hle:=h.len
 have hs:=sH h hw ho
 have he:qh r k w g R.2=sK r w R.2:=by rw [DV h hs,if_pos hk]
 rw [yY hg ht hr he,hf]
 have x1:aw S (Dd.act k g).d (.int 1)=some (.int (g:Int)):=rfl
 have k1:∀ S (x:D),cr ([x],S)=some (.tup [x],S):=fun S x=>aV (by simp)
 have k2:∀ S (x y:D),cr ([x,y],S)=some (.tup [x,y],S):=fun S x y=>aV (by simp)
 have t1:=TU S r R g w hw (by omega)
 have w1:ww [aP (R.1,sK r w R.2),.int (g:Int),.str w'.s] S=some (aP (R.1.set g w',sK r w R.2),S):=WW S (R.1,sK r w R.2) g w' hg (by show R.1.length<=100;omega)
 have ok:ROk (R.1.set g w',sK r w R.2):=by rw [<- he];exact yZ h _
 obtain⟨T,s1⟩:=SB S r (R.1.set g w',sK r w R.2) [⟨y,g⟩] hb ok (by simp;omega) (by simp)
 refine⟨T,?_⟩
 have s1':sb [r.d,aP (R.1.set g w',sK r w R.2),.tup [.tup [.str y,.int (g:Int)]]] S=_:=s1
 simp only [oC,aJ,bh,aE,ai,bF,bM,bL,oj,ob,aj,aq,bb,ar,x1,bi,aN,el,eQ,bG,aF,aW,aC,ao,am,ay,al,bH,t1,w1,bg,k2,k1,s1',bp,aG]
def oA(sb ww wo wait:PF):MS:=az (aH (au aw (ab 2) (mC (.int 1))) (ah 3)) (az (bC (av (au bT (ak 2 wait (aa (ab 1) (aa (ab 3) (ag)))) (mC (.str "up")))) (aH (ak 3 ww (aa (ab 1) (aa (ab 3) (aa (mC (.str "reads")) (ag))))) (ah 4)) (aH (ak 2 wo (aa (ab 1) (aa (ab 3) (ag)))) (ah 4))) (aU (ak 3 sb (aa (ab 0) (aa (ab 4) (aa (aT (aa (aT (aa (mC (.str "ends")) (aa (ab 3) (ag)))) (ag))) (ag)))))))
theorem Ec:bT S (jF R g) (.str "up")=some (.bl (decide (R.1[g]?=some .rising))):=by
 unfold jF
 by_cases h:R.1[g]?=some .rising
 ·rw [if_pos h,decide_eq_true h,cI];rfl
 ·rw [if_neg h,decide_eq_false h]
  cases R.2.find? fun e=>decide (e.g=g) with
  | none=>rw [lv rfl rfl];rfl
  | some e=>
   show bT S (.str (bo e.wr)) (.str "up")=_
   rw [cI];cases e.wr <;> rfl
theorem IA(SB:Pi sb)(WW:∀ (S:ac) (R:Rm) (g:Nat) (w:Wd),g<R.1.length->R.1.length<=100->ww [aP R,.int (g:Int),w.d] S=some (aP (R.1.set g w,R.2),S))(V:TK wo)(W:qi wait)(hN:N.length=5)(hb:0<=r.b)(h:ROk R)(hl:R.1.length<=50){w:Wd}(hw:R.1[g]?=some w)(hc:ig R (.act .stop g)=true) :
  ∃ T,aO N (oA sb ww wo wait) 3 [r.d,aP R,(Dd.act .stop g).d] S=some (eM (lJ r R .stop g w),S++T):=by
 have hst:aA N [r.d,aP R,(Dd.act .stop g).d]=[some r.d,some (aP R),some (Dd.act .stop g).d,none,none]:=by simp [aA,hN,List.replicate]
 rw [bd (show [r.d,aP R,(Dd.act .stop g).d].length=3 from rfl),hst]
 have hg:g<R.1.length:=(List.getElem?_eq_some_iff.mp hw).1
 have hle:=h.len
 have x1:aw S (Dd.act .stop g).d (.int 1)=some (.int (g:Int)):=rfl
 have k1:∀ S (x:D),cr ([x],S)=some (.tup [x],S):=fun S x=>aV (by simp)
 have k2:∀ S (x y:D),cr ([x,y],S)=some (.tup [x,y],S):=fun S x y=>aV (by simp)
 have wt:wait [aP R,.int (g:Int)] S=some (jF R g,S):=W S R g (by omega)
 have fin:∀ R':Rm,ROk R'->R'.1.length=R.1.length->lJ r R .stop g w=((aX r R').1,fJ .stop g++(aX r R').2)->∃ T,sb [r.d,aP R',.tup [.tup [.str "ends",.int (g:Int)]]] S=some (eM (lJ r R .stop g w),S++T):=fun R' ok hl' ha=>by
  obtain⟨T,s1⟩:=SB S r R' [⟨"ends",g⟩] hb ok (by omega) (by simp)
  refine⟨T,?_⟩
  rw [ha];exact s1
 by_cases hr:w=.rising
 ·subst hr
  have hs:=sH h hw (by decide)
  have he:qh r .stop .rising g R.2=R.2:=by rw [DV h hs,if_neg (by decide)]
  have w1:ww [aP R,.int (g:Int),.str "reads"] S=some (aP (R.1.set g .reads,R.2),S):=WW S R g .reads hg (by omega)
  obtain⟨T,s1⟩:=fin (R.1.set g .reads,R.2) (h.setW g .reads fun e q=>iF hs q) (by simp) (yY hg rfl (by decide) he)
  refine⟨T,?_⟩
  simp only [oA,aJ,bh,aE,ai,bF,bM,bL,oj,ob,aj,aq,bb,ar,x1,bi,aN,el,eQ,bG,aF,be,aD,aC,ao,am,ay,al,aQ,wt,Ec,decide_eq_true hw,aB,bO,bH,w1,aW,bg,k2,k1,s1,bp,aG]
 ·have ho:w=.out:=by
   unfold ig at hc
   rw [Bool.or_eq_true] at hc
   rcases hc with q | q
   ·obtain⟨e,he,hge⟩:=List.any_eq_true.mp q
    have:=h.out e he
    rw [of_decide_eq_true hge,hw] at this
    exact Option.some.inj this
   ·have:=of_decide_eq_true q;rw [hw] at this;exact absurd (Option.some.inj this) hr
  subst ho
  have hn:¬ R.1[g]?=some .rising:=by rw [hw];intro z;cases z
  have v1:wo [aP R,.int (g:Int)] S=some (aP (R.1,R.2.filter fun e=>decide (e.g≠g)),S):=V S R g (by omega)
  have hset:R.1.set g .out=R.1:=by
   obtain⟨q,e⟩:=List.getElem?_eq_some_iff.mp hw
   rw [<- e];exact List.set_getElem_self q
  have ha:=yY (r:=r) (R:=R) (g:=g) (k:=.stop) (w:=.out) (w':=.out) (es:=R.2.filter fun e=>decide (e.g≠g)) hg rfl (by decide) (by unfold qh;rw [if_neg (by decide)])
  rw [hset] at ha
  obtain⟨T,s1⟩:=fin (R.1,R.2.filter fun e=>decide (e.g≠g)) (ROk.filter h _) rfl ha
  refine⟨T,?_⟩
  simp only [oA,aJ,bh,aE,ai,bF,bM,bL,oj,ob,aj,aq,bb,ar,x1,bi,aN,el,eQ,bG,aF,be,aD,aC,ao,am,ay,al,aQ,wt,Ec,decide_eq_false hn,aB,bI,v1,aW,bg,k2,k1,bH,s1,bp,aG]
def oB:MS:=aU (lF (av (au ug (ab 0) (mC .non))) (mC .non) (au ny (ab 0) (mC (.int 1))))
theorem JW(hN:N.length=1){t:Option Int}:aO N oB 1 [bA t] S=some (bA (t.map (· - 1)),S):=by
 have hst:aA N [bA t]=[some (bA t)]:=by simp [aA,hN]
 rw [bd (show [bA t].length=1 from rfl),hst]
 cases t with
 | none=>
  have i1:lm (bA none) .non=true:=rfl
  simp only [oB,aW,jc,aD,aE,ai,bF,oj,ob,aj,aq,bb,ar,jN,i1,aB,tG,bp,aG];rfl
 | some t=>
  have i1:lm (bA (some t)) .non=false:=rfl
  have s1:ny S (bA (some t)) (.int 1)=some (bA (some (t - 1))):=yC
  simp only [oB,aW,jc,aD,aE,ai,bF,oj,ob,aj,aq,bb,ar,jN,i1,aB,vY,s1,bp,aG];rfl
def tkA(ol:PF):ME:=bJ (cY (ab 4)) (aZ 4 (af (ah 0) (af (ah 1) (af (ah 2) (af (ah 3) (aK)))))) (bX) (aT (aa (ab 0) (aa (ab 1) (aa (ab 2) (aa (ak 1 ol (aa (ab 3) (ag))) (ag)))))) [none,none,none,none]
def tkB:ME:=bJ (cY (ab 5)) (ah 0) (av (au bT (au aw (ab 0) (mC (.int 3))) (mC (.int 0)))) (aT (aa (mC (.str "ends")) (aa (au aw (ab 0) (mC (.int 0))) (ag)))) [none]
def tkC:ME:=bJ (cY (ab 5)) (ah 0) (av (au gK (au aw (ab 0) (mC (.int 3))) (mC (.int 0)))) (ab 0) [none]
def sr(sb ol:PF):MS:=az (aH (ab 1) (aZ 2 (af (ah 3) (af (ah 4) (aK))))) (az (aH (tkA ol) (ah 5)) (az (aH (bf (aM (cj .tup)) (aa tkB (ag))) (ah 6)) (az (aH (bf (aM (cj .tup)) (aa tkC (ag))) (ah 7)) (aU (ak 3 sb (aa (ab 0) (aa (aT (aa (ab 3) (aa (ab 7) (ag)))) (aa (ab 6) (ag)))))))))
theorem Iq(SB:Pi sb)(L:∀ (S:ac) (t:Option Int),ol [bA t] S=some (bA (t.map (· - 1)),S))(hN:N.length=8)(hb:0<=r.b)(h:ROk R)(hl:R.1.length<=50):∃ T,aO N (sr sb ol) 3 [r.d,aP R,Dd.tick.d] S=some (eM (nA r R),S++T):=by
 have hst:aA N [r.d,aP R,Dd.tick.d]=[some r.d,some (aP R),some Dd.tick.d,none,none,none,none,none]:=by simp [aA,hN,List.replicate]
 rw [bd (show [r.d,aP R,Dd.tick.d].length=3 from rfl),hst]
 have hle:=h.len
 have g2:∀ env S,aZ 2 (af (ah 3) (af (ah 4) (aK))) (aP R) env S=(af (ah 3) (af (ah 4) (aK))) [cm R.1,bZ R.2] env S:=fun env S=>cw
 have k2:∀ x y:D,cr ([x,y],S)=some (.tup [x,y],S):=fun x y=>aV (by simp)
 have k4:∀ x y z u:D,cr ([x,y,z,u],S)=some (.tup [x,y,z,u],S):=fun x y z u=>aV (by simp)
 have a:=Ka (S:=S) (es:=R.2) (cap:=[none,none,none,none]) (env:=[some r.d,some (aP R),some Dd.tick.d,some (cm R.1),some (bZ R.2),none,none,none]) (a:=none) (b:=none) (c:=none) (d:=none) (e:=aT (aa (ab 0) (aa (ab 1) (aa (ab 2) (aa (ak 1 ol (aa (ab 3) (ag))) (ag)))))) (f:=fun x=>(gi x).d) rfl (by omega) fun x=>by
  simp only [bg,ao,ai,bF,bM,bL,oj,ob,aj,am,aC,ay,al,AN,L,k4];rfl
 have b:=eR (S:=S) (t:=av (au bT (au aw (ab 0) (mC (.int 3))) (mC (.int 0)))) (e:=aT (aa (mC (.str "ends")) (aa (au aw (ab 0) (mC (.int 0))) (ag)))) (cap:=[none]) (env:=[some r.d,some (aP R),some Dd.tick.d,some (cm R.1),some (bZ R.2),some (.lst ((R.2.map gi).map En.d)),none,none]) (rest:=[]) (a:=none) (enc:=En.d) (p:=fun e=>decide (e.t=some 0)) (f:=fun e=>Ev.d ⟨"ends",e.g⟩) (xs:=R.2.map gi) rfl (by rw [List.length_map];omega) (fun e _=>by
  have x3:aw S e.d (.int 3)=some (bA e.t):=rfl
  simp only [aD,aE,ai,bF,bM,bL,oj,ob,aj,aq,bb,ar,x3,jo,aB]) (fun e _ _=>by
  simp only [bg,ao,bb,ob,am,aE,ai,bF,oj,aj,aq,ar,En.ix0,ay,al,k2];rfl)
 have c:=eR (S:=S) (t:=av (au gK (au aw (ab 0) (mC (.int 3))) (mC (.int 0)))) (e:=ab 0) (cap:=[none]) (env:=[some r.d,some (aP R),some Dd.tick.d,some (cm R.1),some (bZ R.2),some (.lst ((R.2.map gi).map En.d)),some (du (((R.2.map gi).filter fun e=>decide (e.t=some 0)).map fun e=>⟨"ends",e.g⟩)),none]) (rest:=[]) (a:=none) (enc:=En.d) (p:=fun e=>decide (e.t≠some 0)) (f:=En.d) (xs:=R.2.map gi) rfl (by rw [List.length_map];omega) (fun e _=>by
  have x3:aw S e.d (.int 3)=some (bA e.t):=rfl
  simp only [aD,aE,ai,bF,bM,bL,oj,ob,aj,aq,bb,ar,x3,Bi,aB,ne_eq,decide_not]) (fun e _ _=>by simp only [ai,bF,oj,ob,aj])
 have ma:(R.2.map fun x=>(gi x).d)=(R.2.map gi).map En.d:=by rw [List.map_map];rfl
 rw [ma] at a
 have it:∀ l:List D,CW (.lst l,S)=some (l,S):=fun l=>yr
 have sb1:aM (cj .tup) [.lst (((R.2.map gi).filter fun e=>decide (e.t=some 0)).map fun e=>Ev.d ⟨"ends",e.g⟩)] S=some (du (((R.2.map gi).filter fun e=>decide (e.t=some 0)).map fun e=>⟨"ends",e.g⟩),S):=by
  rw [eL];unfold du;rw [List.map_map];rfl
 have sc1:aM (cj .tup) [.lst (((R.2.map gi).filter fun e=>decide (e.t≠some 0)).map En.d)] S=some (bZ ((R.2.map gi).filter fun e=>decide (e.t≠some 0)),S):=eL
 obtain⟨T,s1⟩:=SB S r (R.1,(R.2.map gi).filter fun e=>decide (e.t≠some 0)) (((R.2.map gi).filter fun(e:En)=>decide (e.t=some 0)).map fun(e:En)=>Ev.mk "ends" e.g) hb (ROk.filter (ROk.mapE h gi fun e=>rfl) _) hl (by
  rw [List.length_map];exact Nat.le_trans (List.length_filter_le _ _) (by rw [List.length_map];omega))
 refine⟨T,?_⟩
 have s1':sb [r.d,.tup [cm R.1,bZ ((R.2.map gi).filter fun e=>decide (e.t≠some 0))],du (((R.2.map gi).filter fun e=>decide (e.t=some 0)).map fun e=>⟨"ends",e.g⟩)] S=some (eM (nA r R),S++T):=s1
 simp only [sr,aJ,bh,ai,bF,bM,bL,oj,ob,aj,bi,g2,bB,aN,cS,bV,el,eQ,bG,aF,tkA,bU,dg,dS,a,bR,ao,tkB,it,b,am,ay,al,bS,sb1,tkC,c,sc1,aW,aC,bg,k2,bH,s1',bp,aG]
structure BrOk(ask up down leave stop tick:PF):Prop where
 a:∀ (S:ac) (r:Rl) (R:Rm) (wr:Bool) (g:Nat) (t:Option Int),0<=r.b->ROk R->R.1.length<=50->R.1[g]?=some .out->bu R.2 g=false->∃ T,ask [r.d,aP R,(Dd.ask wr g t).d] S=some (eM (uy r R wr g t),S++T)
 u:∀ (S:ac) (r:Rl) (R:Rm) (g:Nat),0<=r.b->ROk R->R.1.length<=50->R.1[g]?=some .reads->∃ T,up [r.d,aP R,(Dd.act .up g).d] S=some (eM (if r.c=0\/Wd.rising∈R.1 then (R,[⟨"no",g⟩]) else lJ r R .up g .reads),S++T)
 d:∀ (S:ac) (r:Rl) (R:Rm) (g:Nat) (w:Wd),0<=r.b->ROk R->R.1.length<=50->R.1[g]?=some w->w≠.out->∃ T,down [r.d,aP R,(Dd.act .down g).d] S=some (eM (lJ r R .down g w),S++T)
 l:∀ (S:ac) (r:Rl) (R:Rm) (g:Nat) (w:Wd),0<=r.b->ROk R->R.1.length<=50->R.1[g]?=some w->w≠.out->∃ T,leave [r.d,aP R,(Dd.act .leave g).d] S=some (eM (lJ r R .leave g w),S++T)
 s:∀ (S:ac) (r:Rl) (R:Rm) (g:Nat) (w:Wd),0<=r.b->ROk R->R.1.length<=50->R.1[g]?=some w->ig R (.act .stop g)=true->∃ T,stop [r.d,aP R,(Dd.act .stop g).d] S=some (eM (lJ r R .stop g w),S++T)
 t:∀ (S:ac) (r:Rl) (R:Rm),0<=r.b->ROk R->R.1.length<=50->∃ T,tick [r.d,aP R,Dd.tick.d] S=some (eM (nA r R),S++T)
noncomputable def brL(ask up down leave stop tick:PF):List (bz×Nat×PF):=[(.inr "read",3,ask),(.inr "write",3,ask),(.inr "up",3,up),(.inr "down",3,down),(.inr "leave",3,leave),(.inr "stop",3,stop),(.inr "tick",3,tick)]
def oD(l:List (bz×Nat×PF)):MS:=jd l 3 (au aw (ab 2) (mC (.int 0))) (aa (ab 0) (aa (ab 1) (aa (ab 2) (ag))))
theorem js{l:List (bz×Nat×PF)}{f:PF}{x y z d:D}{w:Str}(hN:N.length=4)(hx:aw S z (.int 0)=some (.str w))(hv:zi l (.inr w)=some (3,f)){S':ac}(hf:f [x,y,z] S=some (d,S')):aO N (oD l) 3 [x,y,z] S=some (d,S'):=by
 have hst:aA N [x,y,z]=[some x,some y,some z,none]:=by simp [aA,hN,List.replicate]
 rw [bd (show [x,y,z].length=3 from rfl),hst]
 have kd:=fun ms env=>Kg (S:=S) (d:=.str w) (ms:=ms) (env:=env) (i:=3) (l:=l) yn hv
 have k3:yt 3 f ([x,y,z],S)=(f [x,y,z] S).bind kRt:=GD rfl
 simp only [oD,NI,aE,ai,bF,bM,bL,oj,ob,aj,aq,bb,ar,hx,kd,el,eQ,ao,am,ay,al,k3,hf,bp,aG]
theorem FY{ask up down leave stop tick:PF}(B:BrOk ask up down leave stop tick)(hN:N.length=4){dd:Dd}{x:Rm×List Ev}(hb:0<=r.b)(h:ROk R)(hl:R.1.length<=50)(hd:dd.Ok R.1.length)(hx:dU r R dd=some x):∃ T,aO N (oD (brL ask up down leave stop tick)) 3 [r.d,aP R,dd.d] S=some (eM x,S++T):=by
 unfold dU at hx
 split at hx
 ·cases hx
 rename_i hcan
 rw [Bool.not_eq_false] at hcan
 split at hx
 ·cases hx
  obtain⟨T,e⟩:=B.t S r R hb h hl
  exact⟨T,js (w:="tick") hN rfl (by rfl) e⟩
 ·rename_i wr g t
  cases hx
  unfold ig at hcan
  rw [Bool.and_eq_true] at hcan
  obtain⟨T,e⟩:=B.a S r R wr g t hb h hl (of_decide_eq_true hcan.1) (by simpa using hcan.2)
  refine⟨T,?_⟩
  cases wr
  ·exact js (w:="read") hN rfl (by rfl) e
  ·exact js (w:="write") hN rfl (by rfl) e
 ·rename_i k g
  have hg:g<R.1.length:=hd
  obtain⟨w,hw⟩:∃ w,R.1[g]?=some w:=⟨_,List.getElem?_eq_getElem hg⟩
  rw [hw] at hx
  dsimp only at hx
  cases k with
  | up=>
   have hr:R.1[g]?=some .reads:=of_decide_eq_true hcan
   rw [hw] at hr;cases hr
   obtain⟨T,e⟩:=B.u S r R g hb h hl hw
   refine⟨T,js (w:="up") hN rfl (by rfl) ?_⟩
   rw [e]
   by_cases z:r.c=0\/Wd.rising∈R.1
   ·rw [if_pos ⟨rfl,z⟩] at hx;cases hx;rw [if_pos z]
   ·rw [if_neg (fun q=>z q.2)] at hx;cases hx;rw [if_neg z]
  | down=>
   rw [if_neg (fun q=>by cases q.1)] at hx;cases hx
   have ho:w≠.out:=fun z=>by
    subst z
    have hc2:(decide (R.1[g]?=some Wd.writes)||decide (R.1[g]?=some Wd.raised))=true:=hcan
    rw [hw] at hc2;revert hc2;decide
   obtain⟨T,e⟩:=B.d S r R g w hb h hl hw ho
   exact⟨T,js (w:="down") hN rfl (by rfl) e⟩
  | leave=>
   rw [if_neg (fun q=>by cases q.1)] at hx;cases hx
   have ho:w≠.out:=fun z=>by
    subst z
    exact(of_decide_eq_true hcan) hw
   obtain⟨T,e⟩:=B.l S r R g w hb h hl hw ho
   exact⟨T,js (w:="leave") hN rfl (by rfl) e⟩
  | stop=>
   rw [if_neg (fun q=>by cases q.1)] at hx;cases hx
   obtain⟨T,e⟩:=B.s S r R g w hb h hl hw hcan
   exact⟨T,js (w:="stop") hN rfl (by rfl) e⟩
end
end MI
namespace MI
open PySem PySem.Spec PyProof.Rows L2
open M hiding mC ab au av cT cV cK fC dQ dm vR ia lF ag aa aT dM fZ EB bE cb bD bf dN ak aY az aU eV bC ah aK af aZ gq aH bQ dP gY bJ cY bX fY gn nv ky nT iE fG fD ga fE fB dL jd
section
variable{S:ac}{N:List Str}{r:Rl}{R:Rm}{n:Nat}{dd:Dd}
def xA:MS:=aU (dm (dN "tuple" (ab 0)) (au bT (bf (aM fK) (aa (ab 0) (ag))) (ab 1)))
def Qg(f:PF):Prop:=∀ (S:ac) (xs:List D) (k:Int),f [.tup xs,.int k] S=some (.bl (decide ((xs.length:Int)=k)),S)
theorem Mm(hN:N.length=2){xs:List D}{k:Int}:aO N xA 2 [.tup xs,.int k] S=some (.bl (decide ((xs.length:Int)=k)),S):=by
 have hst:aA N [D.tup xs,D.int k]=[some (.tup xs),some (.int k)]:=by simp [aA,hN]
 rw [bd (show [D.tup xs,D.int k].length=2 from rfl),hst]
 have it:kL "tuple" S (.tup xs)=some (.bl true):=rfl
 simp only [xA,aW,nW,JO,ai,bF,bM,bL,oj,ob,aj,Kf,it,tN,aE,bR,ao,am,ay,al,bS,Dl,aq,ar,gB,bp,aG]
 rfl
def sn:MS:=aU (dm (dN "str" (ab 0)) (au on (ab 0) (ab 1)))
def Me(f:PF):Prop:=∀ (S:ac) (x:Str) (ys:List Str),x∈ys->f [.str x,.tup (ys.map .str)] S=some (.bl true,S)
theorem Id(hN:N.length=2){x:Str}{ys:List Str}(h:x∈ys):aO N sn 2 [.str x,.tup (ys.map .str)] S=some (.bl true,S):=by
 have hst:aA N [D.str x,D.tup (ys.map .str)]=[some (.str x),some (.tup (ys.map .str))]:=by simp [aA,hN]
 rw [bd (show [D.str x,D.tup (ys.map .str)].length=2 from rfl),hst]
 have it:kL "str" S (.str x)=some (.bl true):=rfl
 have fi:on S (.str x) (.tup (ys.map .str))=some (.bl true):=by
  rw [jZ (ys:=ys.map .str) rfl rfl (by rw [List.all_eq_true];intro d hd;obtain⟨y,_,rfl⟩:=List.mem_map.mp hd;rfl)]
  have:((ys.map D.str).any fun d=>jC d (.str x))=true:=List.any_eq_true.mpr ⟨.str x,List.mem_map.mpr ⟨x,h,rfl⟩,by show (x == x)=true;simp⟩
  rw [this]
 simp only [sn,aW,nW,JO,ai,bF,bM,bL,oj,ob,aj,Kf,it,tN,aE,aq,ar,fi,bp,aG]
def pG:MS:=aU (dm (dN "int" (ab 0)) (ia (dN "bool" (ab 0))))
def rn(whole:PF):MS:=aU (dm (ak 1 whole (aa (ab 0) (ag))) (cT On On (ab 1) (ab 0) (ab 2)))
def Qk(f:PF):Prop:=∀ (S:ac) (i lo hi:Int),f [.int i,.int lo,.int hi] S=some (.bl (decide (lo<=i)&&decide (i<=hi)),S)
theorem FB(hN:N.length=1){i:Int}:aO N pG 1 [.int i] S=some (.bl true,S):=by
 have hst:aA N [D.int i]=[some (.int i)]:=by simp [aA,hN]
 rw [bd (show [D.int i].length=1 from rfl),hst]
 have i1:kL "int" S (.int i)=some (.bl true):=rfl
 have i2:kL "bool" S (.int i)=some (.bl false):=rfl
 simp [pG,i1,i2]
theorem Pb{whole:PF}(W:∀ (S:ac) (i:Int),whole [.int i] S=some (.bl true,S))(hN:N.length=3){i lo hi:Int}:aO N (rn whole) 3 [.int i,.int lo,.int hi] S=some (.bl (decide (lo<=i)&&decide (i<=hi)),S):=by
 have hst:aA N [D.int i,D.int lo,D.int hi]=[some (.int i),some (.int lo),some (.int hi)]:=by simp [aA,hN]
 rw [bd (show [D.int i,D.int lo,D.int hi].length=3 from rfl),hst]
 by_cases h:lo<=i
 ·simp [rn,W,h]
 ·simp [rn,W,h]
def lP(tof word bet:PF):MS:=az (bC (cV (ak 2 tof (aa (ab 1) (aa (mC (.int 1)) (ag))))) (aU (ak 2 word (aa (au aw (ab 1) (mC (.int 0))) (aa (aT (aa (mC (.str "tick")) (ag))) (ag))))) (aY)) (az (bC (cV (ak 2 tof (aa (ab 1) (aa (mC (.int 2)) (ag))))) (aU (dm (ak 2 word (aa (au aw (ab 1) (mC (.int 0))) (aa (mC (.tup [.str "up",.str "down",.str "leave",.str "stop"])) (ag)))) (ak 3 bet (aa (au aw (ab 1) (mC (.int 1))) (aa (mC (.int 0)) (aa (au ny (ab 0) (mC (.int 1))) (ag))))))) (aY)) (az (bC (dQ (cV (ak 2 tof (aa (ab 1) (aa (mC (.int 3)) (ag)))))) (aU (mC (.bl false))) (aY)) (az (aH (ab 1) (aZ 3 (af (ah 2) (af (ah 3) (af (ah 4) (aK)))))) (aU (dm (ak 2 word (aa (ab 2) (aa (mC (.tup [.str "read",.str "write"])) (ag)))) (dm (ak 3 bet (aa (ab 3) (aa (mC (.int 0)) (aa (au ny (ab 0) (mC (.int 1))) (ag))))) (vR (au ug (ab 4) (mC .non)) (ak 3 bet (aa (ab 4) (aa (mC (.int 0)) (aa (mC (.int 9)) (ag))))))))))))
theorem Hx{tof word bet:PF}(T:Qg tof)(W:Me word)(B:Qk bet)(hN:N.length=5)(hd:dd.Ok n):aO N (lP tof word bet) 2 [.int (n:Int),dd.d] S=some (.bl true,S):=by
 have hst:aA N [D.int (n:Int),dd.d]=[some (.int (n:Int)),some dd.d,none,none,none]:=by simp [aA,hN,List.replicate]
 rw [bd (show [D.int (n:Int),dd.d].length=2 from rfl),hst]
 cases dd with
 | tick=>
  have t1:tof [Dd.tick.d,.int 1] S=some (.bl true,S):=T S [.str "tick"] 1
  have x0:aw S Dd.tick.d (.int 0)=some (.str "tick"):=rfl
  have k1:cr ([.str "tick"],S)=some (.tup [.str "tick"],S):=aV (by simp)
  have w1:word [.str "tick",.tup [.str "tick"]] S=some (.bl true,S):=W S "tick" ["tick"] (by simp)
  simp only [lP,aJ,be,dJ,aC,ao,ai,bF,bM,bL,oj,ob,aj,am,bb,ay,al,aQ,t1,eS,bO,aW,aE,aq,ar,x0,bg,k1,w1,bp,bP,aG]
 | act k g=>
  have hg:g<n:=hd
  have t1:tof [(Dd.act k g).d,.int 1] S=some (.bl false,S):=T S [.str k.s,.int (g:Int)] 1
  have t2:tof [(Dd.act k g).d,.int 2] S=some (.bl true,S):=T S [.str k.s,.int (g:Int)] 2
  have x0:aw S (Dd.act k g).d (.int 0)=some (.str k.s):=rfl
  have x1:aw S (Dd.act k g).d (.int 1)=some (.int (g:Int)):=rfl
  have w1:word [.str k.s,.tup [.str "up",.str "down",.str "leave",.str "stop"]] S=some (.bl true,S):=W S k.s ["up","down","leave","stop"] (by cases k <;> simp [Ak.s])
  have b1:bet [.int (g:Int),.int 0,.int ((n:Int) - 1)] S=some (.bl true,S):=by
   rw [B];congr 3;rw [decide_eq_true (by omega),decide_eq_true (by omega)];rfl
  simp only [lP,aJ,be,dJ,aC,ao,ai,bF,bM,bL,oj,ob,aj,am,bb,ay,al,aQ,t1,eS,bI,bt,aF,t2,bO,aW,nW,aE,aq,ar,x0,w1,tN,x1,yC,bH,b1,bp,bP,aG]
 | ask wr g t=>
  have hg:g<n:=hd.1
  have t1:tof [(Dd.ask wr g t).d,.int 1] S=some (.bl false,S):=T S [.str (bo wr),.int (g:Int),bA t] 1
  have t2:tof [(Dd.ask wr g t).d,.int 2] S=some (.bl false,S):=T S [.str (bo wr),.int (g:Int),bA t] 2
  have t3:tof [(Dd.ask wr g t).d,.int 3] S=some (.bl true,S):=T S [.str (bo wr),.int (g:Int),bA t] 3
  have g3:∀ env S,aZ 3 (af (ah 2) (af (ah 3) (af (ah 4) (aK)))) (Dd.ask wr g t).d env S=(af (ah 2) (af (ah 3) (af (ah 4) (aK)))) [.str (bo wr),.int (g:Int),bA t] env S:=fun env S=>yy
  have w1:word [.str (bo wr),.tup [.str "read",.str "write"]] S=some (.bl true,S):=W S (bo wr) ["read","write"] (by cases wr <;> simp [bo])
  have b1:bet [.int (g:Int),.int 0,.int ((n:Int) - 1)] S=some (.bl true,S):=by
   rw [B];congr 3;rw [decide_eq_true (by omega),decide_eq_true (by omega)];rfl
  simp only [lP,aJ,be,dJ,aC,ao,ai,bF,bM,bL,oj,ob,aj,am,bb,ay,al,aQ,t1,eS,bI,bt,aF,t2,iH,t3,iJ,Bool.not_true,bh,bi,g3,bB,aN,cS,bV,el,eQ,bG,aW,nW,w1,tN,aE,aq,ar,yC,bH,b1,Pv,jN]
  cases t with
  | none=>
   have i1:lm (bA none) .non=true:=rfl
   simp only [i1,kOr_t,ob,bp,aG]
  | some t=>
   have i1:lm (bA (some t)) .non=false:=rfl
   obtain⟨l0,l9⟩:=hd.2 t rfl
   have b2:bet [bA (some t),.int 0,.int 9] S=some (.bl true,S):=by
    rw [show bA (some t)=.int t from rfl,B];congr 3;rw [decide_eq_true l0,decide_eq_true l9];rfl
   simp only [i1,kOr_f,aC,ao,ai,bF,bM,bL,oj,ob,aj,am,bb,ay,al,bH,b2,bp,aG]
def su(deed can done:PF):MS:=az (bC (fC (dQ (cV (ak 2 deed (aa (ab 1) (aa (ab 3) (ag)))))) (dQ (cV (ak 2 can (aa (ab 2) (aa (ab 3) (ag))))))) (jU) (aY)) (aU (ak 3 done (aa (ab 0) (aa (ab 2) (aa (ab 3) (ag))))))
theorem Hq{x:Rm×List Ev}(h:dU r R dd=some x):ig R dd=true:=by
 unfold dU at h
 split at h
 ·cases h
 ·rename_i q;rw [Bool.not_eq_false] at q;exact q
theorem IB{deed can done:PF}{x:Rm×List Ev}{T:ac}(hN:N.length=4)(h1:deed [.int (n:Int),dd.d] S=some (.bl true,S))(h2:can [aP R,dd.d] S=some (.bl true,S))(h3:done [r.d,aP R,dd.d] S=some (eM x,S++T)):aO N (su deed can done) 4 [r.d,.int (n:Int),aP R,dd.d] S=some (eM x,S++T):=by
 have hst:aA N [r.d,.int (n:Int),aP R,dd.d]=[some r.d,some (.int (n:Int)),some (aP R),some dd.d]:=by simp [aA,hN]
 rw [bd (show [r.d,D.int (n:Int),aP R,dd.d].length=4 from rfl),hst]
 simp only [su,aJ,be,jb,iH,dJ,aC,ao,ai,bF,bM,bL,oj,ob,aj,am,ay,al,aQ,h1,eS,iJ,Bool.not_true,lZ,h2,bI,bt,aF,aW,bH,h3,bp,aG]
theorem DL{wait:PF}(hN:N.length=5):aO N (oE wait) 2 [aP R,Dd.tick.d] S=some (.bl true,S):=by
 have hst:aA N [aP R,Dd.tick.d]=[some (aP R),some Dd.tick.d,none,none,none]:=by simp [aA,hN,List.replicate]
 rw [bd (show [aP R,Dd.tick.d].length=2 from rfl),hst]
 have x0:aw S Dd.tick.d (.int 0)=some (.str "tick"):=rfl
 have tk:bT S (.str "tick") (.str "tick")=some (.bl true):=by rw [cI];rfl
 simp only [oE,aJ,be,aD,aE,ai,bF,bM,bL,oj,ob,aj,aq,bb,ar,x0,tk,aB,bO,aW,bp,bP,aG]
theorem IL{x:Rm×List Ev}(h1:x.1.1.length<=50)(h2:x.1.2.length<=50)(h3:x.2.length<=500):cO 8 (eM x)=true:=by
 obtain⟨R,l⟩:=x
 have a1:((R.1.map Wd.d).all (cO 5))=true:=by rw [List.all_eq_true];intro d hd;obtain⟨w,_,rfl⟩:=List.mem_map.mp hd;rfl
 have a2:((R.2.map En.d).all (cO 5))=true:=by
  rw [List.all_eq_true];intro d hd;obtain⟨e,_,rfl⟩:=List.mem_map.mp hd
  obtain⟨g,wr,m,t⟩:=e
  cases t <;> rfl
 have a3:((l.map Ev.d).all (cO 6))=true:=by rw [List.all_eq_true];intro d hd;obtain⟨e,_,rfl⟩:=List.mem_map.mp hd;rfl
 have b1:cO 6 (cm R.1)=true:=by show (decide ((R.1.map Wd.d).length<=1000)&&_)=true;rw [a1,Bool.and_true];exact decide_eq_true (by simp;simp only at h1;omega)
 have b2:cO 6 (bZ R.2)=true:=by show (decide ((R.2.map En.d).length<=1000)&&_)=true;rw [a2,Bool.and_true];exact decide_eq_true (by simp;simp only at h2;omega)
 have b3:cO 7 (du l)=true:=by show (decide ((l.map Ev.d).length<=1000)&&_)=true;rw [a3,Bool.and_true];exact decide_eq_true (by simp;simp only at h3;omega)
 have c1:cO 7 (aP R)=true:=by show (true&&(cO 6 (cm R.1)&&(cO 6 (bZ R.2)&&true)))=true;rw [b1,b2];rfl
 show (true&&(cO 7 (aP R)&&(cO 7 (du l)&&true)))=true
 rw [c1,b3];rfl
theorem Ho{x:Rm×List Ev}(h:ROk R)(hl:R.1.length<=5)(hx:dU r R dd=some x):x.2.length<=100:=by
 have hle:=h.len
 have sf:∀ R':Rm,R'.1.length=R.1.length->(aX r R').2.length<=10:=fun R' q=>Nat.le_trans (mP _) (by omega)
 unfold dU at hx
 split at hx
 ·cases hx
 rename_i hcan
 split at hx
 ·cases hx
  have:=sf (R.1,(R.2.map gi).filter fun e=>decide (e.t≠some 0)) rfl
  have q:((R.2.map gi).filter fun e=>decide (e.t=some 0)).length<=R.2.length:=Nat.le_trans (List.length_filter_le _ _) (by simp)
  unfold nA
  dsimp only
  rw [List.length_append,List.length_map]
  omega
 ·rename_i wr g t
  cases hx
  have:=sf (R.1,R.2++[lB wr g t]) rfl
  unfold uy
  dsimp only
  split
  ·omega
  ·split
   ·rw [List.length_append,List.length_singleton];omega
   ·rw [List.length_append,List.length_singleton];omega
 ·rename_i k g
  split at hx
  ·cases hx;simp
  ·split at hx
   ·rename_i w hw
    cases hx
    have:=sf (R.1.set g (gj k w),qh r k w g R.2) (by simp)
    have f1:(fJ k g).length<=1:=by cases k <;> simp [fJ]
    unfold lJ
    dsimp only
    rw [List.length_append,List.length_append]
    split
    ·rw [List.length_singleton];omega
    ·rw [List.length_nil];omega
   ·cases hx
end
end MI
section
set_option maxHeartbeats 4000000
namespace K14
open PySem L2 MI PyProof.Rows
open M hiding mC ab au av cT cV cK fC dQ dm vR ia lF ag aa aT dM fZ EB bE cb bD bf dN ak aY az aU eV bC ah aK af aZ gq aH bQ dP gY bJ cY bX fY gn nv ky nT iE fG fD ga fE fB dL jd
def fA(i:Nat):Stmt:=PySem.Challenge.pw_manyreaders_k14_up_down_and_leave.main.body.getD i (.Pass ⟨0,0,0,0⟩)
abbrev df:Stmt:=fA 44
abbrev gU:Stmt:=fA 46
abbrev fS:Stmt:=fA 45
abbrev fQ:Stmt:=fA 47
abbrev fP:Stmt:=fA 48
abbrev dF:Stmt:=fA 59
abbrev fV:Stmt:=fA 49
abbrev gT:Stmt:=fA 53
abbrev dE:Stmt:=fA 51
abbrev fR:Stmt:=fA 52
abbrev db:Stmt:=fA 54
abbrev gW:Stmt:=fA 55
abbrev eI:Stmt:=fA 58
abbrev dD:Stmt:=fA 56
abbrev fU:Stmt:=fA 57
abbrev gS:Stmt:=fA 50
abbrev fT:Stmt:=fA 61
abbrev cC:Stmt:=fA 60
abbrev dB:Stmt:=fA 9
abbrev gQ:Stmt:=fA 18
abbrev iN:Stmt:=fA 12
abbrev kq:Stmt:=fA 16
abbrev fN:Stmt:=fA 19
abbrev iQ:Stmt:=fA 17
abbrev ko:Stmt:=fA 21
abbrev fM:Stmt:=fA 10
abbrev kn:Stmt:=fA 23
abbrev eD:Stmt:=fA 22
abbrev iP:Stmt:=fA 20
abbrev da:Stmt:=fA 11
abbrev fO:Stmt:=fA 33
abbrev gR:Stmt:=fA 34
abbrev cM:Stmt:=fA 41
abbrev kj:Stmt:=fA 40
abbrev eH:Stmt:=fA 35
abbrev dC:Stmt:=fA 36
abbrev eG:Stmt:=fA 37
abbrev gO:Stmt:=fA 39
abbrev eE:Stmt:=fA 38
abbrev pE:Stmt:=fA 32
abbrev dA:Stmt:=fA 4
abbrev iR:Stmt:=fA 3
abbrev gP:Stmt:=fA 1
abbrev eC:Stmt:=fA 2
abbrev iS:Stmt:=fA 29
abbrev ku:Stmt:=fA 30
abbrev iO:Stmt:=fA 31
abbrev vB:Stmt:=fA 62
noncomputable def uv:List (bz×D):=[(.inr "rows",.non),(.inr "readers",(.str "read")),(.inr "writers",(.str "write")),(.inr "turns",(.str "write"))]
def iC:D:=(.int 9)
def kf:D:=(.tup [(.str "up"),(.str "down"),(.str "leave"),(.str "stop")])
def yT:D:=(.tup [(.str "read"),(.str "write")])
noncomputable def nN:List (bz×D):=[(.inr "read",(.str "reads")),(.inr "write",(.str "writes"))]
def iB:D:=(.tup [(.str "writes"),(.str "raised")])
structure iD(w:World)(K:PySem.W.Frag)(mg:Str->Option Value):Prop where
 d__law_cell_at:bK K mg "_law_cell_at" df
 d__law_far:bK K mg "_law_far" gU
 d__law_left:bK K mg "_law_left" fS
 d__law_pick:bK K mg "_law_pick" fQ
 d__law_rule:bK K mg "_law_rule" fP
 d__law_formed:bK K mg "_law_formed" dF
 d__law_deed:bK K mg "_law_deed" fV
 d__law_put:bK K mg "_law_put" gT
 d__law_fronts:bK K mg "_law_fronts" dE
 d__law_lets:bK K mg "_law_lets" fR
 d__law_settled:bK K mg "_law_settled" db
 d__law_can:bK K mg "_law_can" gW
 d__law_asked:bK K mg "_law_asked" eI
 d__law_marked:bK K mg "_law_marked" dD
 d__law_done:bK K mg "_law_done" fU
 d__law_row:bK K mg "_law_row" gS
 d__law_full:bK K mg "_law_full" fT
 d__law_same:bK K mg "_law_same" cC
 d_guests_with:bK K mg "guests_with" dB
 d_foremost:bK K mg "foremost" gQ
 d_waiting:bK K mg "waiting" iN
 d_can_go:bK K mg "can_go" kq
 d_next_past:bK K mg "next_past" fN
 d_next_in:bK K mg "next_in" iQ
 d_coming:bK K mg "coming" ko
 d_with_word:bK K mg "with_word" fM
 d_let_in:bK K mg "let_in" kn
 d_brought_by:bK K mg "brought_by" eD
 d_settled:bK K mg "settled" iP
 d_without_wait:bK K mg "without_wait" da
 d_bring_ask:bK K mg "bring_ask" fO
 d_bring_up:bK K mg "bring_up" gR
 d_settled_behind:bK K mg "settled_behind" cM
 d_turned:bK K mg "turned" kj
 d_bring_down:bK K mg "bring_down" eH
 d_bring_leave:bK K mg "bring_leave" dC
 d_bring_stop:bK K mg "bring_stop" eG
 d_one_less:bK K mg "one_less" gO
 d_bring_tick:bK K mg "bring_tick" eE
 d_done:bK K mg "done" pE
 d_is_tuple_of:bK K mg "is_tuple_of" dA
 d_is_word:bK K mg "is_word" iR
 d_is_whole:bK K mg "is_whole" gP
 d_is_between:bK K mg "is_between" eC
 d_is_deed:bK K mg "is_deed" iS
 d_can_do:bK K mg "can_do" ku
 d_stepped:bK K mg "stepped" iO
 d_law:bK K mg "law" vB
 z_all:mg "all" = none
 z_bool:mg "bool" = none
 z_dict:mg "dict" = none
 z_enumerate:mg "enumerate" = none
 z_int:mg "int" = none
 z_isinstance:mg "isinstance" = none
 z_len:mg "len" = none
 z_list:mg "list" = none
 z_max:mg "max" = none
 z_min:mg "min" = none
 z_range:mg "range" = none
 z_str:mg "str" = none
 z_tuple:mg "tuple" = none
 z_zip:mg "zip" = none
 g_BRINGS:FNm w K mg "BRINGS" [("read","bring_ask"),("write","bring_ask"),("up","bring_up"),("down","bring_down"),("leave","bring_leave"),("stop","bring_stop"),("tick","bring_tick")]
 g_FAVOURED:uz w K mg "FAVOURED" uv
 g_GREATEST_LEFT:GC K mg "GREATEST_LEFT" iC
 g_GUEST_WORDS:GC K mg "GUEST_WORDS" kf
 g_WANTS:GC K mg "WANTS" yT
 g_WORD_WITHIN:uz w K mg "WORD_WITHIN" nN
 g_WRITING_WORDS:GC K mg "WRITING_WORDS" iB
section
variable{P:Program}{w:World}{K:PySem.W.Frag}{mg:Str->Option Value}{base:Heap}
def ej:List Str:=["_law_script","_law_k"]
noncomputable def mx:List (Str×GI):=[("len",.blt)]
noncomputable def dY:=aO ej (gL (iu ej df mx []) (aI df)) 2
theorem qP:aS ej ["_law_script","_law_k"] (ax df):=⟨rfl,rfl,rfl,by decide +kernel,rfl,by decide +kernel,by decide +kernel⟩
theorem qQ(T:iD w K mg):Fn P w K mg base 1 "_law_cell_at" 2 dY:=
 bw T.d__law_cell_at qP (fun _ _ _ _ _ _=>cA fun _=>cA fun _=>iW rfl) (GKs.mem (gs:=mx) ⟨T.z_len,trivial⟩)
def jA:List Str:=["_law_far_here","_law_k"]
noncomputable def tY:List (Str×GI):=[("range",.blt)]
noncomputable def jj:=aO jA (gL (iu jA gU tY []) (aI gU)) 0
theorem zA:aS jA [] (ax gU):=⟨rfl,rfl,rfl,by decide +kernel,rfl,by decide +kernel,by decide +kernel⟩
theorem zP(T:iD w K mg):Fn P w K mg base 1 "_law_far" 0 jj:=
 bw T.d__law_far zA (fun _ _ _ _ _ _=>iW rfl) (GKs.mem (gs:=tY) ⟨T.z_range,trivial⟩)
def io:List Str:=["_law_script","_law_k","_law_cell","_law_seed"]
noncomputable def qF:List (Str×GI):=[("_law_cell_at",.fn 2 dY),("max",.blt),("_law_far",.fn 0 jj),("len",.blt)]
noncomputable def gg:=aO io (gL (iu io fS qF [182]) (aI fS)) 2
theorem xn:aS io ["_law_script","_law_k"] (ax fS):=⟨rfl,rfl,rfl,by decide +kernel,rfl,by decide +kernel,by decide +kernel⟩
theorem xK(T:iD w K mg):Fn P w K mg base 2 "_law_left" 2 gg:=
 bw T.d__law_left xn (fun _ _ _ _ _ _=>cA fun _=>cA fun _=>iW rfl) (GKs.mem (gs:=qF) ⟨(qQ T).up (by decide),T.z_max,(zP T).up (by decide),T.z_len,trivial⟩)
def jP:List Str:=["_law_left_here","_law_many","_law_digit"]
noncomputable def qD:List (Str×GI):=[]
noncomputable def bq:=aO jP (gL (iu jP fQ qD []) (aI fQ)) 2
theorem xj:aS jP ["_law_left_here","_law_many"] (ax fQ):=⟨rfl,rfl,rfl,by decide +kernel,rfl,by decide +kernel,by decide +kernel⟩
theorem gl(T:iD w K mg):Fn P w K mg base 1 "_law_pick" 2 bq:=
 bw T.d__law_pick xj (fun _ _ _ _ _ _=>cA fun _=>cA fun _=>iW rfl) (GKs.mem (gs:=qD) trivial)
def il:List Str:=["_law_left_here","_law_word","_law_most","_law_times"]
noncomputable def qC:List (Str×GI):=[("_law_pick",.fn 2 bq),("int",.blt)]
noncomputable def gf:=aO il (gL (iu il fP qC []) (aI fP)) 1
theorem xh:aS il ["_law_left_here"] (ax fP):=⟨rfl,rfl,rfl,by decide +kernel,rfl,by decide +kernel,by decide +kernel⟩
theorem xI(T:iD w K mg):Fn P w K mg base 2 "_law_rule" 1 gf:=
 bw T.d__law_rule xh (fun _ _ _ _ _ _=>cA fun _=>iW rfl) (GKs.mem (gs:=qC) ⟨(gl T).up (by decide),T.z_int,trivial⟩)
def fv:List Str:=["_law_left_here","_law_n","_law_words","_law_within","_law_waits","_law_g","_law_want","_law_mark","_law_entry"]
noncomputable def nK:List (Str×GI):=[("tuple",.blt),("range",.blt),("_law_pick",.fn 2 bq),("len",.blt)]
noncomputable def dI:=aO fv (gL (iu fv dF nK [303]) (aI dF)) 2
theorem sh:aS fv ["_law_left_here","_law_n"] (ax dF):=⟨rfl,rfl,rfl,by decide +kernel,rfl,by decide +kernel,by decide +kernel⟩
theorem sD(T:iD w K mg):Fn P w K mg base 2 "_law_formed" 2 dI:=
 bw T.d__law_formed sh (fun _ _ _ _ _ _=>cA fun _=>cA fun _=>iW rfl) (GKs.mem (gs:=nK) ⟨T.z_tuple,T.z_range,(gl T).up (by decide),T.z_len,trivial⟩)
def ir:List Str:=["_law_left_here","_law_n","_law_guest","_law_way"]
noncomputable def qI:List (Str×GI):=[("_law_pick",.fn 2 bq)]
noncomputable def ie:=aO ir (gL (iu ir fV qI []) (aI fV)) 2
theorem xq:aS ir ["_law_left_here","_law_n"] (ax fV):=⟨rfl,rfl,rfl,by decide +kernel,rfl,by decide +kernel,by decide +kernel⟩
theorem xM(T:iD w K mg):Fn P w K mg base 2 "_law_deed" 2 ie:=
 bw T.d__law_deed xq (fun _ _ _ _ _ _=>cA fun _=>cA fun _=>iW rfl) (GKs.mem (gs:=qI) ⟨(gl T).up (by decide),trivial⟩)
def jz:List Str:=["_law_within","_law_guest","_law_word"]
noncomputable def tX:List (Str×GI):=[]
noncomputable def dr:=aO jz (gL (iu jz gT tX []) (aI gT)) 3
theorem zy:aS jz ["_law_within","_law_guest","_law_word"] (ax gT):=⟨rfl,rfl,rfl,by decide +kernel,rfl,by decide +kernel,by decide +kernel⟩
theorem qo(T:iD w K mg):Fn P w K mg base 1 "_law_put" 3 dr:=
 bw T.d__law_put zy (fun _ _ _ _ _ _=>cA fun _=>cA fun _=>cA fun _=>iW rfl) (GKs.mem (gs:=tX) trivial)
def ft:List Str:=["_law_rule_here","_law_waits","_law_reading","_law_writing","_law_tagged"]
noncomputable def nJ:List (Str×GI):=[("enumerate",.blt),("list",.blt),("range",.blt),("len",.blt),("max",.blt)]
noncomputable def eZ:=aO ft (gL (iu ft dE nJ []) (aI dE)) 2
theorem sg:aS ft ["_law_rule_here","_law_waits"] (ax dE):=⟨rfl,rfl,rfl,by decide +kernel,rfl,by decide +kernel,by decide +kernel⟩
theorem sC(T:iD w K mg):Fn P w K mg base 1 "_law_fronts" 2 eZ:=
 bw T.d__law_fronts sg (fun _ _ _ _ _ _=>cA fun _=>cA fun _=>iW rfl) (GKs.mem (gs:=nJ) ⟨T.z_enumerate,T.z_list,T.z_range,T.z_len,T.z_max,trivial⟩)
def im:List Str:=["_law_rule_here","_law_within","_law_want","_law_reading"]
noncomputable def qE:List (Str×GI):=[("len",.blt)]
noncomputable def ic:=aO im (gL (iu im fR qE []) (aI fR)) 3
theorem xk:aS im ["_law_rule_here","_law_within","_law_want"] (ax fR):=⟨rfl,rfl,rfl,by decide +kernel,rfl,by decide +kernel,by decide +kernel⟩
theorem xJ(T:iD w K mg):Fn P w K mg base 1 "_law_lets" 3 ic:=
 bw T.d__law_lets xk (fun _ _ _ _ _ _=>cA fun _=>cA fun _=>cA fun _=>iW rfl) (GKs.mem (gs:=qE) ⟨T.z_len,trivial⟩)
def eh:List Str:=["_law_rule_here","_law_room","_law_within","_law_waits","_law_events","_law_turn","_law_alone","_law_some","_law_guest","_law_want","_law_mark","_law_rest","_law_ahead"]
noncomputable def mw:List (Str×GI):=[("range",.blt),("len",.blt),("_law_put",.fn 3 dr),("_law_fronts",.fn 2 eZ),("_law_lets",.fn 3 ic),("tuple",.blt),("int",.blt)]
noncomputable def cF:=aO eh (gL (iu eh db mw [241]) (aI db)) 2
theorem qO:aS eh ["_law_rule_here","_law_room"] (ax db):=⟨rfl,rfl,rfl,by decide +kernel,rfl,by decide +kernel,by decide +kernel⟩
theorem lE(T:iD w K mg):Fn P w K mg base 2 "_law_settled" 2 cF:=
 bw T.d__law_settled qO (fun _ _ _ _ _ _=>cA fun _=>cA fun _=>iW rfl) (GKs.mem (gs:=mw) ⟨T.z_range,T.z_len,(qo T).up (by decide),(sC T).up (by decide),(xJ T).up (by decide),T.z_tuple,T.z_int,trivial⟩)
def jB:List Str:=["_law_room","_law_deed_here","_law_within","_law_waits","_law_here","_law_stays","_law_fits"]
noncomputable def tZ:List (Str×GI):=[]
noncomputable def jk:=aO jB (gL (iu jB gW tZ [261]) (aI gW)) 2
theorem zB:aS jB ["_law_room","_law_deed_here"] (ax gW):=⟨rfl,rfl,rfl,by decide +kernel,rfl,by decide +kernel,by decide +kernel⟩
theorem zQ(T:iD w K mg):Fn P w K mg base 1 "_law_can" 2 jk:=
 bw T.d__law_can zB (fun _ _ _ _ _ _=>cA fun _=>cA fun _=>iW rfl) (GKs.mem (gs:=tZ) trivial)
def gJ:List Str:=["_law_rule_here","_law_room","_law_deed_here","_law_word","_law_guest","_law_rest","_law_entry","_law_events"]
noncomputable def pe:List (Str×GI):=[("_law_settled",.fn 2 cF),("tuple",.blt)]
noncomputable def gA:=aO gJ (gL (iu gJ eI pe []) (aI eI)) 3
theorem uK:aS gJ ["_law_rule_here","_law_room","_law_deed_here"] (ax eI):=⟨rfl,rfl,rfl,by decide +kernel,rfl,by decide +kernel,by decide +kernel⟩
theorem uS(T:iD w K mg):Fn P w K mg base 3 "_law_asked" 3 gA:=
 bw T.d__law_asked uK (fun _ _ _ _ _ _=>cA fun _=>cA fun _=>cA fun _=>iW rfl) (GKs.mem (gs:=pe) ⟨(lE T).up (by decide),T.z_tuple,trivial⟩)
def fq:List Str:=["_law_rule_here","_law_here","_law_waits"]
noncomputable def nI:List (Str×GI):=[("tuple",.blt)]
noncomputable def eY:=aO fq (gL (iu fq dD nI []) (aI dD)) 3
theorem se:aS fq ["_law_rule_here","_law_here","_law_waits"] (ax dD):=⟨rfl,rfl,rfl,by decide +kernel,rfl,by decide +kernel,by decide +kernel⟩
theorem sB(T:iD w K mg):Fn P w K mg base 1 "_law_marked" 3 eY:=
 bw T.d__law_marked se (fun _ _ _ _ _ _=>cA fun _=>cA fun _=>cA fun _=>iW rfl) (GKs.mem (gs:=nI) ⟨T.z_tuple,trivial⟩)
def iq:List Str:=["_law_rule_here","_law_room","_law_deed_here","_law_within","_law_waits","_law_fewer","_law_gone","_law_events","_law_word","_law_guest","_law_here","_law_first","_law_there","_law_more"]
noncomputable def qH:List (Str×GI):=[("tuple",.blt),("_law_settled",.fn 2 cF),("_law_can",.fn 2 jk),("_law_asked",.fn 3 gA),("int",.blt),("_law_marked",.fn 3 eY),("_law_put",.fn 3 dr)]
noncomputable def cy:=aO iq (gL (iu iq fU qH []) (aI fU)) 3
theorem xp:aS iq ["_law_rule_here","_law_room","_law_deed_here"] (ax fU):=⟨rfl,rfl,rfl,by decide +kernel,rfl,by decide +kernel,by decide +kernel⟩
theorem le(T:iD w K mg):Fn P w K mg base 4 "_law_done" 3 cy:=
 bw T.d__law_done xp (fun _ _ _ _ _ _=>cA fun _=>cA fun _=>cA fun _=>iW rfl) (GKs.mem (gs:=qH) ⟨T.z_tuple,(lE T).up (by decide),(zQ T).up (by decide),(uS T).up (by decide),T.z_int,(sB T).up (by decide),(qo T).up (by decide),trivial⟩)
def jy:List Str:=["_law_left_here","_law_rule_here","_law_n","_law_many","_law_room","_law_row_here","_law_turn","_law_deed_here","_law_found"]
noncomputable def tW:List (Str×GI):=[("range",.blt),("_law_deed",.fn 2 ie),("_law_done",.fn 3 cy),("tuple",.blt)]
noncomputable def hU:=aO jy (gL (iu jy gS tW [211]) (aI gS)) 4
theorem zx:aS jy ["_law_left_here","_law_rule_here","_law_n","_law_many"] (ax gS):=⟨rfl,rfl,rfl,by decide +kernel,rfl,by decide +kernel,by decide +kernel⟩
theorem zO(T:iD w K mg):Fn P w K mg base 5 "_law_row" 4 hU:=
 bw T.d__law_row zx (fun _ _ _ _ _ _=>cA fun _=>cA fun _=>cA fun _=>cA fun _=>iW rfl) (GKs.mem (gs:=tW) ⟨T.z_range,(xM T).up (by decide),(le T).up (by decide),T.z_tuple,trivial⟩)
def ip:List Str:=["_law_left_here","_law_rule_here","_law_n","_law_room","_law_guest","_law_found"]
noncomputable def qG:List (Str×GI):=[("_law_row",.fn 4 hU),("_law_pick",.fn 2 bq),("range",.blt),("_law_done",.fn 3 cy)]
noncomputable def gh:=aO ip (gL (iu ip fT qG []) (aI fT)) 3
theorem xo:aS ip ["_law_left_here","_law_rule_here","_law_n"] (ax fT):=⟨rfl,rfl,rfl,by decide +kernel,rfl,by decide +kernel,by decide +kernel⟩
theorem xL(T:iD w K mg):Fn P w K mg base 6 "_law_full" 3 gh:=
 bw T.d__law_full xo (fun _ _ _ _ _ _=>cA fun _=>cA fun _=>cA fun _=>iW rfl) (GKs.mem (gs:=qG) ⟨(zO T).up (by decide),(gl T).up (by decide),T.z_range,(le T).up (by decide),trivial⟩)
def N__law_same:List Str:=["_law_found","_law_due","_law_keys"]
noncomputable def gc:List (Str×GI):=[("isinstance",.blt),("dict",.blt),("str",.blt),("all",.blt),("list",.blt),("tuple",.blt),("bool",.blt),("int",.blt),("len",.blt),("zip",.blt)]
noncomputable def gk:=IS N__law_same cC gc [] "_law_same" 2
noncomputable def dk:=gk 8
theorem xO:N__law_same.Nodup:=by decide +kernel
theorem xf:aS N__law_same ["_law_found","_law_due"] (ax cC):=⟨rfl,rfl,rfl,xO,rfl,by decide +kernel,by decide +kernel⟩
theorem xH(T:iD w K mg):Fn P w K mg base 9 "_law_same" 2 dk:=
 IR (gs:=gc) (k:=0) T.d__law_same xf (fun _ _ _ _ _ _=>cA fun _=>cA fun _=>iW rfl) ⟨T.z_isinstance,T.z_dict,T.z_str,T.z_all,T.z_list,T.z_tuple,T.z_bool,T.z_int,T.z_len,T.z_zip,trivial⟩ 8
def fj:List Str:=["room","words"]
noncomputable def nG:List (Str×GI):=[("tuple",.blt),("enumerate",.blt)]
noncomputable def ce:=aO fj (gL (iu fj dB nG []) (aI dB)) 2
theorem rZ:aS fj ["room","words"] (ax dB):=⟨rfl,rfl,rfl,by decide +kernel,rfl,by decide +kernel,by decide +kernel⟩
theorem iY(T:iD w K mg):Fn P w K mg base 1 "guests_with" 2 ce:=
 bw T.d_guests_with rZ (fun _ _ _ _ _ _=>cA fun _=>cA fun _=>iW rfl) (GKs.mem (gs:=nG) ⟨T.z_tuple,T.z_enumerate,trivial⟩)
def jw:List Str:=["word","waits","turned","favoured","ranked"]
noncomputable def tU:List (Str×GI):=[("FAVOURED",.tab uv)]
noncomputable def lq:=aO jw (gL (iu jw gQ tU []) (aI gQ)) 2
theorem zv:aS jw ["word","waits"] (ax gQ):=⟨rfl,rfl,rfl,by decide +kernel,rfl,by decide +kernel,by decide +kernel⟩
theorem zM(T:iD w K mg):Fn P w K mg base 1 "foremost" 2 lq:=
 bw T.d_foremost zv (fun _ _ _ _ _ _=>cA fun _=>cA fun _=>iW rfl) (GKs.mem (gs:=tU) ⟨T.g_FAVOURED,trivial⟩)
def iU:List Str:=["room","guest","entry"]
noncomputable def wj:List (Str×GI):=[("guests_with",.fn 2 ce)]
noncomputable def bY:=aO iU (gL (iu iU iN wj []) (aI iN)) 2
theorem BS:aS iU ["room","guest"] (ax iN):=⟨rfl,rfl,rfl,by decide +kernel,rfl,by decide +kernel,by decide +kernel⟩
theorem iX(T:iD w K mg):Fn P w K mg base 2 "waiting" 2 bY:=
 bw T.d_waiting BS (fun _ _ _ _ _ _=>cA fun _=>cA fun _=>iW rfl) (GKs.mem (gs:=wj) ⟨(iY T).up (by decide),trivial⟩)
def kU:List Str:=["rule","room","guest","want","beside","most"]
noncomputable def AW:List (Str×GI):=[("waiting",.fn 2 bY),("all",.blt),("enumerate",.blt),("len",.blt)]
noncomputable def gu:=aO kU (gL (iu kU kq AW []) (aI kq)) 3
theorem FP:aS kU ["rule","room","guest"] (ax kq):=⟨rfl,rfl,rfl,by decide +kernel,rfl,by decide +kernel,by decide +kernel⟩
theorem pI(T:iD w K mg):Fn P w K mg base 3 "can_go" 3 gu:=
 bw T.d_can_go FP (fun _ _ _ _ _ _=>cA fun _=>cA fun _=>cA fun _=>iW rfl) (GKs.mem (gs:=AW) ⟨(iX T).up (by decide),T.z_all,T.z_enumerate,T.z_len,trivial⟩)
def ij:List Str:=["rule","room","guest","want","mark","left"]
noncomputable def qA:List (Str×GI):=[("can_go",.fn 3 gu)]
noncomputable def jM:=aO ij (gL (iu ij fN qA []) (aI fN)) 2
theorem xa:aS ij ["rule","room"] (ax fN):=⟨rfl,rfl,rfl,by decide +kernel,rfl,by decide +kernel,by decide +kernel⟩
theorem xG(T:iD w K mg):Fn P w K mg base 4 "next_past" 2 jM:=
 bw T.d_next_past xa (fun _ _ _ _ _ _=>cA fun _=>cA fun _=>iW rfl) (GKs.mem (gs:=qA) ⟨(pI T).up (by decide),trivial⟩)
def kR:List Str:=["rule","room","guest"]
noncomputable def wn:List (Str×GI):=[("foremost",.fn 2 lq),("next_past",.fn 2 jM),("can_go",.fn 3 gu)]
noncomputable def kH:=aO kR (gL (iu kR iQ wn []) (aI iQ)) 2
theorem BV:aS kR ["rule","room"] (ax iQ):=⟨rfl,rfl,rfl,by decide +kernel,rfl,by decide +kernel,by decide +kernel⟩
theorem Ci(T:iD w K mg):Fn P w K mg base 5 "next_in" 2 kH:=
 bw T.d_next_in BV (fun _ _ _ _ _ _=>cA fun _=>cA fun _=>iW rfl) (GKs.mem (gs:=wn) ⟨(zM T).up (by decide),(xG T).up (by decide),(pI T).up (by decide),trivial⟩)
def mO:List Str:=["rule","room","guest"]
noncomputable def AV:List (Str×GI):=[("guests_with",.fn 2 ce),("next_in",.fn 2 kH),("can_go",.fn 3 gu)]
noncomputable def kI:=aO mO (gL (iu mO ko AV []) (aI ko)) 2
theorem FO:aS mO ["rule","room"] (ax ko):=⟨rfl,rfl,rfl,by decide +kernel,rfl,by decide +kernel,by decide +kernel⟩
theorem Gb(T:iD w K mg):Fn P w K mg base 6 "coming" 2 kI:=
 bw T.d_coming FO (fun _ _ _ _ _ _=>cA fun _=>cA fun _=>iW rfl) (GKs.mem (gs:=AV) ⟨(iY T).up (by decide),(Ci T).up (by decide),(pI T).up (by decide),trivial⟩)
def ii:List Str:=["room","guest","word","within","waits"]
noncomputable def qz:List (Str×GI):=[]
noncomputable def bx:=aO ii (gL (iu ii fM qz []) (aI fM)) 3
theorem wZ:aS ii ["room","guest","word"] (ax fM):=⟨rfl,rfl,rfl,by decide +kernel,rfl,by decide +kernel,by decide +kernel⟩
theorem eK(T:iD w K mg):Fn P w K mg base 1 "with_word" 3 bx:=
 bw T.d_with_word wZ (fun _ _ _ _ _ _=>cA fun _=>cA fun _=>cA fun _=>iW rfl) (GKs.mem (gs:=qz) trivial)
def mN:List Str:=["rule","room","guest","within","waits","place","ahead"]
noncomputable def AU:List (Str×GI):=[("with_word",.fn 3 bx),("tuple",.blt),("WORD_WITHIN",.tab nN)]
noncomputable def pg:=aO mN (gL (iu mN kn AU []) (aI kn)) 3
theorem FN:aS mN ["rule","room","guest"] (ax kn):=⟨rfl,rfl,rfl,by decide +kernel,rfl,by decide +kernel,by decide +kernel⟩
theorem Ga(T:iD w K mg):Fn P w K mg base 2 "let_in" 3 pg:=
 bw T.d_let_in FN (fun _ _ _ _ _ _=>cA fun _=>cA fun _=>cA fun _=>iW rfl) (GKs.mem (gs:=AU) ⟨(eK T).up (by decide),T.z_tuple,T.g_WORD_WITHIN,trivial⟩)
def gF:List Str:=["rule","room","event","word","guest"]
noncomputable def oX:List (Str×GI):=[("let_in",.fn 3 pg),("with_word",.fn 3 bx)]
noncomputable def gv:=aO gF (gL (iu gF eD oX []) (aI eD)) 3
theorem uG:aS gF ["rule","room","event"] (ax eD):=⟨rfl,rfl,rfl,by decide +kernel,rfl,by decide +kernel,by decide +kernel⟩
theorem uO(T:iD w K mg):Fn P w K mg base 3 "brought_by" 3 gv:=
 bw T.d_brought_by uG (fun _ _ _ _ _ _=>cA fun _=>cA fun _=>cA fun _=>iW rfl) (GKs.mem (gs:=oX) ⟨(Ga T).up (by decide),(eK T).up (by decide),trivial⟩)
def kQ:List Str:=["rule","room","events","event"]
noncomputable def wm:List (Str×GI):=[("coming",.fn 2 kI),("brought_by",.fn 3 gv),("tuple",.blt)]
noncomputable def cG:=aO kQ (gL (iu kQ iP wm [59]) (aI iP)) 2
theorem BU:aS kQ ["rule","room"] (ax iP):=⟨rfl,rfl,rfl,by decide +kernel,rfl,by decide +kernel,by decide +kernel⟩
theorem nR(T:iD w K mg):Fn P w K mg base 7 "settled" 2 cG:=
 bw T.d_settled BU (fun _ _ _ _ _ _=>cA fun _=>cA fun _=>iW rfl) (GKs.mem (gs:=wm) ⟨(Gb T).up (by decide),(uO T).up (by decide),T.z_tuple,trivial⟩)
def eg:List Str:=["room","guest","within","waits"]
noncomputable def mr:List (Str×GI):=[("tuple",.blt)]
noncomputable def cx:=aO eg (gL (iu eg da mr []) (aI da)) 2
theorem qN:aS eg ["room","guest"] (ax da):=⟨rfl,rfl,rfl,by decide +kernel,rfl,by decide +kernel,by decide +kernel⟩
theorem lD(T:iD w K mg):Fn P w K mg base 1 "without_wait" 2 cx:=
 bw T.d_without_wait qN (fun _ _ _ _ _ _=>cA fun _=>cA fun _=>iW rfl) (GKs.mem (gs:=mr) ⟨T.z_tuple,trivial⟩)
def ik:List Str:=["rule","room","deed","want","guest","left","within","waits","entry","events"]
noncomputable def qB:List (Str×GI):=[("settled",.fn 2 cG),("waiting",.fn 2 bY),("without_wait",.fn 2 cx)]
noncomputable def ge:=aO ik (gL (iu ik fO qB []) (aI fO)) 3
theorem xc:aS ik ["rule","room","deed"] (ax fO):=⟨rfl,rfl,rfl,by decide +kernel,rfl,by decide +kernel,by decide +kernel⟩
theorem oG(T:iD w K mg):Fn P w K mg base 8 "bring_ask" 3 ge:=
 bw T.d_bring_ask xc (fun _ _ _ _ _ _=>cA fun _=>cA fun _=>cA fun _=>iW rfl) (GKs.mem (gs:=qB) ⟨(nR T).up (by decide),(iX T).up (by decide),(lD T).up (by decide),trivial⟩)
def jx:List Str:=["rule","room","deed","guest","events"]
noncomputable def tV:List (Str×GI):=[("settled",.fn 2 cG),("guests_with",.fn 2 ce),("with_word",.fn 3 bx),("waiting",.fn 2 bY)]
noncomputable def ji:=aO jx (gL (iu jx gR tV []) (aI gR)) 3
theorem zw:aS jx ["rule","room","deed"] (ax gR):=⟨rfl,rfl,rfl,by decide +kernel,rfl,by decide +kernel,by decide +kernel⟩
theorem zN(T:iD w K mg):Fn P w K mg base 8 "bring_up" 3 ji:=
 bw T.d_bring_up zw (fun _ _ _ _ _ _=>cA fun _=>cA fun _=>cA fun _=>iW rfl) (GKs.mem (gs:=tV) ⟨(nR T).up (by decide),(iY T).up (by decide),(eK T).up (by decide),(iX T).up (by decide),trivial⟩)
def di:List Str:=["rule","room","first","events"]
noncomputable def kG:List (Str×GI):=[("settled",.fn 2 cG)]
noncomputable def bn:=aO di (gL (iu di cM kG []) (aI cM)) 3
theorem oz:aS di ["rule","room","first"] (ax cM):=⟨rfl,rfl,rfl,by decide +kernel,rfl,by decide +kernel,by decide +kernel⟩
theorem dO(T:iD w K mg):Fn P w K mg base 8 "settled_behind" 3 bn:=
 bw T.d_settled_behind oz (fun _ _ _ _ _ _=>cA fun _=>cA fun _=>cA fun _=>iW rfl) (GKs.mem (gs:=kG) ⟨(nR T).up (by decide),trivial⟩)
def mM:List Str:=["rule","room","guest","within","waits"]
noncomputable def AT:List (Str×GI):=[("tuple",.blt)]
noncomputable def gt:=aO mM (gL (iu mM kj AT []) (aI kj)) 3
theorem FM:aS mM ["rule","room","guest"] (ax kj):=⟨rfl,rfl,rfl,by decide +kernel,rfl,by decide +kernel,by decide +kernel⟩
theorem vG(T:iD w K mg):Fn P w K mg base 1 "turned" 3 gt:=
 bw T.d_turned FM (fun _ _ _ _ _ _=>cA fun _=>cA fun _=>cA fun _=>iW rfl) (GKs.mem (gs:=AT) ⟨T.z_tuple,trivial⟩)
def gI:List Str:=["rule","room","deed","guest"]
noncomputable def pd:List (Str×GI):=[("settled_behind",.fn 3 bn),("with_word",.fn 3 bx),("turned",.fn 3 gt)]
noncomputable def gz:=aO gI (gL (iu gI eH pd []) (aI eH)) 3
theorem uJ:aS gI ["rule","room","deed"] (ax eH):=⟨rfl,rfl,rfl,by decide +kernel,rfl,by decide +kernel,by decide +kernel⟩
theorem uR(T:iD w K mg):Fn P w K mg base 9 "bring_down" 3 gz:=
 bw T.d_bring_down uJ (fun _ _ _ _ _ _=>cA fun _=>cA fun _=>cA fun _=>iW rfl) (GKs.mem (gs:=pd) ⟨(dO T).up (by decide),(eK T).up (by decide),(vG T).up (by decide),trivial⟩)
def fo:List Str:=["rule","room","deed","guest"]
noncomputable def nH:List (Str×GI):=[("settled_behind",.fn 3 bn),("with_word",.fn 3 bx),("turned",.fn 3 gt)]
noncomputable def eX:=aO fo (gL (iu fo dC nH []) (aI dC)) 3
theorem sa:aS fo ["rule","room","deed"] (ax dC):=⟨rfl,rfl,rfl,by decide +kernel,rfl,by decide +kernel,by decide +kernel⟩
theorem sA(T:iD w K mg):Fn P w K mg base 9 "bring_leave" 3 eX:=
 bw T.d_bring_leave sa (fun _ _ _ _ _ _=>cA fun _=>cA fun _=>cA fun _=>iW rfl) (GKs.mem (gs:=nH) ⟨(dO T).up (by decide),(eK T).up (by decide),(vG T).up (by decide),trivial⟩)
def gH:List Str:=["rule","room","deed","guest","calmer"]
noncomputable def oZ:List (Str×GI):=[("settled_behind",.fn 3 bn),("waiting",.fn 2 bY),("with_word",.fn 3 bx),("without_wait",.fn 2 cx)]
noncomputable def gy:=aO gH (gL (iu gH eG oZ []) (aI eG)) 3
theorem uI:aS gH ["rule","room","deed"] (ax eG):=⟨rfl,rfl,rfl,by decide +kernel,rfl,by decide +kernel,by decide +kernel⟩
theorem uQ(T:iD w K mg):Fn P w K mg base 9 "bring_stop" 3 gy:=
 bw T.d_bring_stop uI (fun _ _ _ _ _ _=>cA fun _=>cA fun _=>cA fun _=>iW rfl) (GKs.mem (gs:=oZ) ⟨(dO T).up (by decide),(iX T).up (by decide),(eK T).up (by decide),(lD T).up (by decide),trivial⟩)
def ju:List Str:=["left"]
noncomputable def tS:List (Str×GI):=[]
noncomputable def hJ:=aO ju (gL (iu ju gO tS []) (aI gO)) 1
theorem zt:aS ju ["left"] (ax gO):=⟨rfl,rfl,rfl,by decide +kernel,rfl,by decide +kernel,by decide +kernel⟩
theorem zK(T:iD w K mg):Fn P w K mg base 1 "one_less" 1 hJ:=
 bw T.d_one_less zt (fun _ _ _ _ _ _=>cA fun _=>iW rfl) (GKs.mem (gs:=tS) trivial)
def gG:List Str:=["rule","room","deed","within","waits","shorter","ended","kept"]
noncomputable def oY:List (Str×GI):=[("tuple",.blt),("settled_behind",.fn 3 bn),("one_less",.fn 1 hJ)]
noncomputable def gx:=aO gG (gL (iu gG eE oY []) (aI eE)) 3
theorem uH:aS gG ["rule","room","deed"] (ax eE):=⟨rfl,rfl,rfl,by decide +kernel,rfl,by decide +kernel,by decide +kernel⟩
theorem uP(T:iD w K mg):Fn P w K mg base 9 "bring_tick" 3 gx:=
 bw T.d_bring_tick uH (fun _ _ _ _ _ _=>cA fun _=>cA fun _=>cA fun _=>iW rfl) (GKs.mem (gs:=oY) ⟨T.z_tuple,(dO T).up (by decide),(zK T).up (by decide),trivial⟩)
noncomputable def Bx:List (bz×Nat×(List D->ac->Option (D×ac))):=[(.inr "read",3,ge),(.inr "write",3,ge),(.inr "up",3,ji),(.inr "down",3,gz),(.inr "leave",3,eX),(.inr "stop",3,gy),(.inr "tick",3,gx)]
def uA:List Str:=["rule","room","deed","bring"]
noncomputable def Ks:List (Str×GI):=[("BRINGS",.ftab Bx)]
noncomputable def pW:=aO uA (gL (iu uA pE Ks []) (aI pE)) 3
theorem Mx:aS uA ["rule","room","deed"] (ax pE):=⟨rfl,rfl,rfl,by decide +kernel,rfl,by decide +kernel,by decide +kernel⟩
theorem Nx(T:iD w K mg):Fn P w K mg base 10 "done" 3 pW:=
 bw T.d_done Mx (fun _ _ _ _ _ _=>cA fun _=>cA fun _=>cA fun _=>iW rfl) (GKs.mem (gs:=Ks) ⟨NZ T.g_BRINGS ⟨rfl,(oG T).up (by decide),rfl,(oG T).up (by decide),rfl,(zN T).up (by decide),rfl,(uR T).up (by decide),rfl,(sA T).up (by decide),rfl,(uQ T).up (by decide),rfl,(uP T).up (by decide),trivial⟩,trivial⟩)
def fh:List Str:=["thing","many"]
noncomputable def nE:List (Str×GI):=[("isinstance",.blt),("tuple",.blt),("len",.blt)]
noncomputable def cL:=aO fh (gL (iu fh dA nE []) (aI dA)) 2
theorem rY:aS fh ["thing","many"] (ax dA):=⟨rfl,rfl,rfl,by decide +kernel,rfl,by decide +kernel,by decide +kernel⟩
theorem sy(T:iD w K mg):Fn P w K mg base 1 "is_tuple_of" 2 cL:=
 bw T.d_is_tuple_of rY (fun _ _ _ _ _ _=>cA fun _=>cA fun _=>iW rfl) (GKs.mem (gs:=nE) ⟨T.z_isinstance,T.z_tuple,T.z_len,trivial⟩)
def kS:List Str:=["thing","words"]
noncomputable def wp:List (Str×GI):=[("isinstance",.blt),("str",.blt)]
noncomputable def gd:=aO kS (gL (iu kS iR wp []) (aI iR)) 2
theorem BW:aS kS ["thing","words"] (ax iR):=⟨rfl,rfl,rfl,by decide +kernel,rfl,by decide +kernel,by decide +kernel⟩
theorem Cj(T:iD w K mg):Fn P w K mg base 1 "is_word" 2 gd:=
 bw T.d_is_word BW (fun _ _ _ _ _ _=>cA fun _=>cA fun _=>iW rfl) (GKs.mem (gs:=wp) ⟨T.z_isinstance,T.z_str,trivial⟩)
def jv:List Str:=["thing"]
noncomputable def tT:List (Str×GI):=[("isinstance",.blt),("int",.blt),("bool",.blt)]
noncomputable def jh:=aO jv (gL (iu jv gP tT []) (aI gP)) 1
theorem zu:aS jv ["thing"] (ax gP):=⟨rfl,rfl,rfl,by decide +kernel,rfl,by decide +kernel,by decide +kernel⟩
theorem zL(T:iD w K mg):Fn P w K mg base 1 "is_whole" 1 jh:=
 bw T.d_is_whole zu (fun _ _ _ _ _ _=>cA fun _=>iW rfl) (GKs.mem (gs:=tT) ⟨T.z_isinstance,T.z_int,T.z_bool,trivial⟩)
def gE:List Str:=["thing","low","high"]
noncomputable def oW:List (Str×GI):=[("is_whole",.fn 1 jh)]
noncomputable def cX:=aO gE (gL (iu gE eC oW []) (aI eC)) 3
theorem uF:aS gE ["thing","low","high"] (ax eC):=⟨rfl,rfl,rfl,by decide +kernel,rfl,by decide +kernel,by decide +kernel⟩
theorem uN(T:iD w K mg):Fn P w K mg base 2 "is_between" 3 cX:=
 bw T.d_is_between uF (fun _ _ _ _ _ _=>cA fun _=>cA fun _=>cA fun _=>iW rfl) (GKs.mem (gs:=oW) ⟨(zL T).up (by decide),trivial⟩)
def kT:List Str:=["n","thing","want","guest","left"]
noncomputable def wq:List (Str×GI):=[("is_tuple_of",.fn 2 cL),("is_word",.fn 2 gd),("WANTS",.con yT),("is_between",.fn 3 cX),("GUEST_WORDS",.con kf),("GREATEST_LEFT",.con iC)]
noncomputable def iT:=aO kT (gL (iu kT iS wq []) (aI iS)) 2
theorem BX:aS kT ["n","thing"] (ax iS):=⟨rfl,rfl,rfl,by decide +kernel,rfl,by decide +kernel,by decide +kernel⟩
theorem Ck(T:iD w K mg):Fn P w K mg base 3 "is_deed" 2 iT:=
 bw T.d_is_deed BX (fun _ _ _ _ _ _=>cA fun _=>cA fun _=>iW rfl) (GKs.mem (gs:=wq) ⟨(sy T).up (by decide),(Cj T).up (by decide),T.g_WANTS,(uN T).up (by decide),T.g_GUEST_WORDS,T.g_GREATEST_LEFT,trivial⟩)
def kW:List Str:=["room","deed","word","guest","within"]
noncomputable def AX:List (Str×GI):=[("WRITING_WORDS",.con iB),("waiting",.fn 2 bY)]
noncomputable def kJ:=aO kW (gL (iu kW ku AX []) (aI ku)) 2
theorem FQ:aS kW ["room","deed"] (ax ku):=⟨rfl,rfl,rfl,by decide +kernel,rfl,by decide +kernel,by decide +kernel⟩
theorem Gc(T:iD w K mg):Fn P w K mg base 3 "can_do" 2 kJ:=
 bw T.d_can_do FQ (fun _ _ _ _ _ _=>cA fun _=>cA fun _=>iW rfl) (GKs.mem (gs:=AX) ⟨T.g_WRITING_WORDS,(iX T).up (by decide),trivial⟩)
def kP:List Str:=["rule","n","room","deed"]
noncomputable def wl:List (Str×GI):=[("done",.fn 3 pW),("is_deed",.fn 2 iT),("can_do",.fn 2 kJ)]
noncomputable def gZ:=aO kP (gL (iu kP iO wl []) (aI iO)) 4
theorem BT:aS kP ["rule","n","room","deed"] (ax iO):=⟨rfl,rfl,rfl,by decide +kernel,rfl,by decide +kernel,by decide +kernel⟩
theorem Ch(T:iD w K mg):Fn P w K mg base 11 "stepped" 4 gZ:=
 bw T.d_stepped BT (fun _ _ _ _ _ _=>cA fun _=>cA fun _=>cA fun _=>cA fun _=>iW rfl) (GKs.mem (gs:=wl) ⟨(Nx T).up (by decide),(Ck T).up (by decide),(Gc T).up (by decide),trivial⟩)
def BC:List Str:=["_law_script","_law_k","_law_left_here","_law_turn","_law_rule_here","_law_n","_law_room","_law_guest","_law_word","_law_deed_here","_law_due"]
noncomputable def PM:List (Str×GI):=[("range",.blt),("max",.blt),("_law_left",.fn 2 gg),("min",.blt),("len",.blt),("_law_rule",.fn 1 gf),("_law_formed",.fn 2 dI),("_law_full",.fn 3 gh),("_law_pick",.fn 2 bq),("_law_done",.fn 3 cy),("_law_same",.fn 2 dk),("stepped",.fn 4 gZ)]
noncomputable def Bh:=aO BC (gL (iu BC vB PM []) (aI vB)) 1
theorem QB:aS BC ["_law_script"] (ax vB):=⟨rfl,rfl,rfl,by decide +kernel,rfl,by decide +kernel,by decide +kernel⟩
theorem Sk(T:iD w K mg):GKs P w K mg base 11 PM:=⟨T.z_range,T.z_max,(xK T).up (by decide),T.z_min,T.z_len,(xI T).up (by decide),(sD T).up (by decide),(xL T).up (by decide),(gl T).up (by decide),(le T).up (by decide),(xH T).up (by decide),(Ch T).up (by decide),trivial⟩
end
theorem TJ{l:PySem.W.OpenLaw}{w:World}{K:PySem.W.Frag}{h:Heap}{mg:Str->Option Value}{fa:Addr}(X:K.In h)(G:h.Ns mainGlobals mg)(hfa:mg "law" = some (.ref fa))(T:iD w K mg) :
  ∃ fd:FuncData,(∀ (s:Shared) (v:Value),BindsTo s fd ⟨[v],[]⟩ [("_law_script",v)])/\∀ base:Heap,K.In base->base.Ns mainGlobals mg->FnOk l.prog w K mg base Fw 12 fa fd ["_law_script"] (IG K 1 Bh):=
 RI T.d_law hfa QB (fun _ _ _ _ _ _ _=>rfl) fun base=>Sk T
theorem walk{l:PySem.W.OpenLaw}{q:Program}{loose:List Str}{XP:(Str->Option Value)->Heap->Prop}{YP:World->Heap->Prop}{d:DefRec}{K:Params->PySem.W.Frag}(hn:l.most=some 63)(hdf:d.params.defaults=[])(hnm:d.name = "law")
  (hY:∀ (w:World) (h:Heap),YP w h->(K w.params).In h) (hlaw:∀ ns:List Int,ns.length<=63->∃ S',Bh [.rol (ns.map .int)] []=some (.bl true,S'))
  (F:∀ (w:World) (mg:Str->Option Value) (h:Heap),(K w.params).In h->h.Ns mainGlobals mg->iD w (K w.params) mg) :
  PySem.W.WalkO q loose XP YP l.row.toRowW d [] (fun f vs=>PySem.call f vs):=
 L2.Mj (n:=63) (k:=12) (x:="_law_script") (CX:=fun _=>Fw) (sp:=fun w=>IG (K w.params) 1 Bh) hn (by decide) hdf ⟨rfl,by decide,by decide⟩ hY
  (fun w mg fa h KX G hmg=>TJ KX G (hnm ▸ hmg) (F w mg h KX G)) (fun _ _ a ns hl _ hS=>RG hlaw hl hS) fun _ _ _ _ _ z=>z
end K14
end
section
set_option maxHeartbeats 4000000
namespace K14
open PySem L2 MI PyProof.Rows
open M hiding mC ab au av cT cV cK fC dQ dm vR ia lF ag aa aT dM fZ EB bE cb bD bf dN ak aY az aU eV bC ah aK af aZ gq aH bQ dP gY bJ cY bX fY gn nv ky nT iE fG fD ga fE fB dL jd
def sW:MS:=
 mS
theorem qT:dY=aO ej sW 2:=ja rfl
def CG:MS:=
 CQ
theorem Af:jj=aO jA CG 0:=ja rfl
def Aq:MS:=
 rE dY jj
theorem xX:gg=aO io Aq 2:=ja rfl
def Ao:MS:=
 rC
theorem xV:bq=aO jP Ao 2:=ja rfl
def An:MS:=
 yk bq
theorem xU:gf=aO il An 1:=ja rfl
def vd:MS:=
 pR bq
theorem sR:dI=aO fv vd 2:=ja rfl
def As:MS:=
 oT bq
theorem ya:ie=aO ir As 2:=ja rfl
def CF:MS:=
 CP
theorem Ae:dr=aO jz CF 3:=ja rfl
def vc:MS:=
 pQ
theorem sQ:eZ=aO ft vc 2:=ja rfl
def Ap:MS:=
 yl
theorem xW:ic=aO im Ap 3:=ja rfl
def sV:MS:=
 nX eZ ic dr
theorem qS:cF=aO eh sV 2:=ja rfl
def CH:MS:=
 ym
theorem Ag:jk=aO jB CH 2:=ja rfl
def yc:MS:=
 tz cF
theorem uY:gA=aO gJ yc 3:=ja rfl
def vb:MS:=
 kz
theorem sP:eY=aO fq vb 3:=ja rfl
def Ar:MS:=
 jJ jk gA cF eY dr
theorem xZ:cy=aO iq Ar 3:=ja rfl
def CD:MS:=
 CO ie cy
theorem Ad:hU=aO jy CD 4:=ja rfl
def qt:MS:=
 az (aH (au aw (ak 4 hU (aa (ab 0) (aa (ab 1) (aa (ab 2) (aa (au aR (mC (.int 2)) (ak 2 bq (aa (ab 0) (aa (mC (.int 16)) (ag))))) (ag)))))) (mC (.int 1))) (ah 3)) (az (bC (av (au bT (ak 2 bq (aa (ab 0) (aa (mC (.int 2)) (ag)))) (mC (.int 0)))) (gY (bQ (aa (ab 2) (ag))) (ah 4) (az (aH (ak 3 cy (aa (ab 1) (aa (ab 3) (aa (aT (aa (au aw (dM (aa (mC (.str "read")) (aa (mC (.str "write")) (ag)))) (ak 2 bq (aa (ab 0) (aa (mC (.int 2)) (ag))))) (aa (ab 4) (aa (mC .non) (ag))))) (ag))))) (ah 5)) (aH (lF (av (au ug (ab 5) (mC .non))) (ab 3) (au aw (ab 5) (mC (.int 0)))) (ah 3)))) (aY)) (aU (ab 3)))
theorem xY:gh=aO ip qt 3:=ja rfl
def qr(dk:List D->ac->Option (D×ac)):MS:=
 ll dk
theorem xT(j:Nat):gk (j+1)=aO N__law_same (qr (gk j)) 2:=by
 unfold gk
 show aO N__law_same (gL (iu N__law_same cC (("_law_same",.fn 2 (IS N__law_same cC gc [] "_law_same" 2 j))::gc) []) (aI cC)) 2=_
 generalize IS N__law_same cC gc [] "_law_same" 2 j=F
 rw [show gL (iu N__law_same cC (("_law_same",.fn 2 F)::gc) []) (aI cC)=qr F from rfl]
def uZ:MS:=
 Ce
theorem sN:ce=aO fj uZ 2:=ja rfl
def CC:MS:=
 ld
theorem Ab:lq=aO jw CC 2:=ja rfl
def Gp:MS:=
 lN ce
theorem sL:bY=aO iU Gp 2:=ja rfl
def JG:MS:=
 fW bY
theorem vJ:gu=aO kU JG 3:=ja rfl
def Al:MS:=
 lc gu
theorem xR:jM=aO ij Al 2:=ja rfl
def Gr:MS:=
 nP jM lq gu
theorem Cv:kH=aO kR Gr 2:=ja rfl
def JF:MS:=
 nQ ce gu kH
theorem Gn:kI=aO mO JF 2:=ja rfl
def Ai:MS:=
 lb
theorem xQ:bx=aO ii Ai 3:=ja rfl
def JD:MS:=
 pH bx
theorem Gm:pg=aO mN JD 3:=ja rfl
def yb:MS:=
 lQ bx pg
theorem uU:gv=aO gF yb 3:=ja rfl
def Gq:MS:=
 lO gv kI
theorem Cu:cG=aO kQ Gq 2:=ja rfl
def lV:MS:=
 az (aH (ab 0) (aZ 2 (af (ah 2) (af (ah 3) (aK))))) (aU (aT (aa (ab 2) (aa (bf (aM (cj .tup)) (aa (bJ (cY (ab 3)) (ah 0) (av (au gK (au aw (ab 0) (mC (.int 0))) (ab 1))) (ab 0) [none,some 1]) (ag))) (ag)))))
theorem qR:cx=aO eg lV 2:=ja rfl
def qq:MS:=
 az (aH (ab 2) (aZ 3 (af (ah 3) (af (ah 4) (af (ah 5) (aK)))))) (az (aH (ab 1) (aZ 2 (af (ah 6) (af (ah 7) (aK))))) (az (aH (aT (aa (ab 4) (aa (ab 3) (aa (mC (.int 0)) (aa (lF (av (au bT (ab 5) (mC (.int 0)))) (mC (.int 1)) (ab 5)) (ag)))))) (ah 8)) (az (aH (ak 2 cG (aa (ab 0) (aa (aT (aa (ab 6) (aa (au aR (ab 7) (aT (aa (ab 8) (ag)))) (ag)))) (ag)))) (aZ 2 (af (ah 1) (af (ah 9) (aK))))) (az (bC (av (au ug (ak 2 bY (aa (ab 1) (aa (ab 4) (ag)))) (mC .non))) (aU (aT (aa (ab 1) (aa (ab 9) (ag))))) (aY)) (az (bC (av (au bT (ab 5) (mC (.int 0)))) (aU (aT (aa (ak 2 cx (aa (ab 1) (aa (ab 4) (ag)))) (aa (au aR (ab 9) (aT (aa (aT (aa (mC (.str "no")) (aa (ab 4) (ag)))) (ag)))) (ag))))) (aY)) (aU (aT (aa (ab 1) (aa (au aR (ab 9) (aT (aa (aT (aa (mC (.str "waits")) (aa (ab 4) (ag)))) (ag)))) (ag))))))))))
theorem xS:ge=aO ik qq 3:=ja rfl
def sU:MS:=
 az (aH (au aw (ab 2) (mC (.int 1))) (ah 3)) (az (bC (fC (av (au bT (au aw (ab 0) (mC (.int 3))) (mC (.int 0)))) (cV (ak 2 ce (aa (ab 1) (aa (aT (aa (mC (.str "rising")) (ag))) (ag)))))) (aU (aT (aa (ab 1) (aa (aT (aa (aT (aa (mC (.str "no")) (aa (ab 3) (ag)))) (ag))) (ag))))) (aY)) (az (aH (ak 2 cG (aa (ab 0) (aa (ak 3 bx (aa (ab 1) (aa (ab 3) (aa (mC (.str "rising")) (ag))))) (ag)))) (aZ 2 (af (ah 1) (af (ah 4) (aK))))) (az (bC (av (au ug (ak 2 bY (aa (ab 1) (aa (ab 3) (ag)))) (mC .non))) (aU (aT (aa (ab 1) (aa (ab 4) (ag))))) (aY)) (aU (aT (aa (ab 1) (aa (au aR (ab 4) (aT (aa (aT (aa (mC (.str "waits")) (aa (ab 3) (ag)))) (ag)))) (ag))))))))
theorem Ac:ji=aO jx sU 3:=ja rfl
def kw:MS:=
 az (aH (ak 2 cG (aa (ab 0) (aa (ab 1) (ag)))) (aZ 2 (af (ah 1) (af (ah 3) (aK))))) (aU (aT (aa (ab 1) (aa (au aR (ab 2) (ab 3)) (ag)))))
theorem oI:bn=aO di kw 3:=ja rfl
def Aj:MS:=
 az (aH (ab 1) (aZ 2 (af (ah 3) (af (ah 4) (aK))))) (az (bC (fC (av (au gK (au aw (ab 0) (mC (.int 0))) (mC (.str "turns")))) (av (au gK (au aw (ab 3) (ab 2)) (mC (.str "writes"))))) (aU (ab 1)) (aY)) (aU (aT (aa (ab 3) (aa (bf (aM (cj .tup)) (aa (bJ (cY (ab 4)) (aZ 4 (af (ah 0) (af (ah 1) (af (ah 2) (af (ah 3) (aK)))))) (bX) (aT (aa (ab 0) (aa (ab 1) (aa (lF (av (au bT (ab 1) (mC (.str "read")))) (mC (.int 1)) (ab 2)) (aa (ab 3) (ag)))))) [none,none,none,none]) (ag))) (ag))))))
theorem Gk:gt=aO mM Aj 3:=ja rfl
def oN:MS:=
 az (aH (au aw (ab 2) (mC (.int 1))) (ah 3)) (aU (ak 3 bn (aa (ab 0) (aa (ak 3 bx (aa (ak 3 gt (aa (ab 0) (aa (ab 1) (aa (ab 3) (ag))))) (aa (ab 3) (aa (mC (.str "reads")) (ag))))) (aa (aT (aa (aT (aa (mC (.str "down")) (aa (ab 3) (ag)))) (ag))) (ag))))))
theorem uX:gz=aO gI oN 3:=ja rfl
def nC:MS:=
 az (aH (au aw (ab 2) (mC (.int 1))) (ah 3)) (aU (ak 3 bn (aa (ab 0) (aa (ak 3 bx (aa (ak 3 gt (aa (ab 0) (aa (ab 1) (aa (ab 3) (ag))))) (aa (ab 3) (aa (mC (.str "out")) (ag))))) (aa (aT (aa (aT (aa (mC (.str "out")) (aa (ab 3) (ag)))) (ag))) (ag))))))
theorem sO:eX=aO fo nC 3:=ja rfl
def oM:MS:=
 az (aH (au aw (ab 2) (mC (.int 1))) (ah 3)) (az (bC (av (au bT (ak 2 bY (aa (ab 1) (aa (ab 3) (ag)))) (mC (.str "up")))) (aH (ak 3 bx (aa (ab 1) (aa (ab 3) (aa (mC (.str "reads")) (ag))))) (ah 4)) (aH (ak 2 cx (aa (ab 1) (aa (ab 3) (ag)))) (ah 4))) (aU (ak 3 bn (aa (ab 0) (aa (ab 4) (aa (aT (aa (aT (aa (mC (.str "ends")) (aa (ab 3) (ag)))) (ag))) (ag)))))))
theorem uW:gy=aO gH oM 3:=ja rfl
def sS:MS:=
 aU (lF (av (au ug (ab 0) (mC .non))) (mC .non) (au ny (ab 0) (mC (.int 1))))
theorem zZ:hJ=aO ju sS 1:=ja rfl
def oK:MS:=
 az (aH (ab 1) (aZ 2 (af (ah 3) (af (ah 4) (aK))))) (az (aH (bJ (cY (ab 4)) (aZ 4 (af (ah 0) (af (ah 1) (af (ah 2) (af (ah 3) (aK)))))) (bX) (aT (aa (ab 0) (aa (ab 1) (aa (ab 2) (aa (ak 1 hJ (aa (ab 3) (ag))) (ag)))))) [none,none,none,none]) (ah 5)) (az (aH (bf (aM (cj .tup)) (aa (bJ (cY (ab 5)) (ah 0) (av (au bT (au aw (ab 0) (mC (.int 3))) (mC (.int 0)))) (aT (aa (mC (.str "ends")) (aa (au aw (ab 0) (mC (.int 0))) (ag)))) [none]) (ag))) (ah 6)) (az (aH (bf (aM (cj .tup)) (aa (bJ (cY (ab 5)) (ah 0) (av (au gK (au aw (ab 0) (mC (.int 3))) (mC (.int 0)))) (ab 0) [none]) (ag))) (ah 7)) (aU (ak 3 bn (aa (ab 0) (aa (aT (aa (ab 3) (aa (ab 7) (ag)))) (aa (ab 6) (ag)))))))))
theorem uV:gx=aO gG oK 3:=ja rfl
def JE:MS:=
 jd Bx 3 (au aw (ab 2) (mC (.int 0))) (aa (ab 0) (aa (ab 1) (aa (ab 2) (ag))))
theorem NH:pW=aO uA JE 3:=ja rfl
def nB:MS:=
 aU (dm (dN "tuple" (ab 0)) (au bT (bf (aM fK) (aa (ab 0) (ag))) (ab 1)))
theorem sM:cL=aO fh nB 2:=ja rfl
def vL:MS:=
 aU (dm (dN "str" (ab 0)) (au on (ab 0) (ab 1)))
theorem Cw:gd=aO kS vL 2:=ja rfl
def sT:MS:=
 aU (dm (dN "int" (ab 0)) (ia (dN "bool" (ab 0))))
theorem Aa:jh=aO jv sT 1:=ja rfl
def oJ:MS:=
 aU (dm (ak 1 jh (aa (ab 0) (ag))) (cT On On (ab 1) (ab 0) (ab 2)))
theorem uT:cX=aO gE oJ 3:=ja rfl
def vM:MS:=
 az (bC (cV (ak 2 cL (aa (ab 1) (aa (mC (.int 1)) (ag))))) (aU (ak 2 gd (aa (au aw (ab 1) (mC (.int 0))) (aa (aT (aa (mC (.str "tick")) (ag))) (ag))))) (aY)) (az (bC (cV (ak 2 cL (aa (ab 1) (aa (mC (.int 2)) (ag))))) (aU (dm (ak 2 gd (aa (au aw (ab 1) (mC (.int 0))) (aa (mC kf) (ag)))) (ak 3 cX (aa (au aw (ab 1) (mC (.int 1))) (aa (mC (.int 0)) (aa (au ny (ab 0) (mC (.int 1))) (ag))))))) (aY)) (az (bC (dQ (cV (ak 2 cL (aa (ab 1) (aa (mC (.int 3)) (ag)))))) (aU (mC (.bl false))) (aY)) (az (aH (ab 1) (aZ 3 (af (ah 2) (af (ah 3) (af (ah 4) (aK)))))) (aU (dm (ak 2 gd (aa (ab 2) (aa (mC yT) (ag)))) (dm (ak 3 cX (aa (ab 3) (aa (mC (.int 0)) (aa (au ny (ab 0) (mC (.int 1))) (ag))))) (vR (au ug (ab 4) (mC .non)) (ak 3 cX (aa (ab 4) (aa (mC (.int 0)) (aa (mC iC) (ag))))))))))))
theorem Cy:iT=aO kT vM 2:=ja rfl
def Am:MS:=
 az (bC (av (au bT (au aw (ab 1) (mC (.int 0))) (mC (.str "tick")))) (aU (mC (.bl true))) (aY)) (az (aH (bD (ab 1) (bE) (cb (mC (.int 2)))) (aZ 2 (af (ah 2) (af (ah 3) (aK))))) (az (aH (au aw (au aw (ab 0) (mC (.int 0))) (ab 3)) (ah 4)) (az (bC (av (au bT (ab 2) (mC (.str "up")))) (aU (au bT (ab 4) (mC (.str "reads")))) (aY)) (az (bC (av (au bT (ab 2) (mC (.str "down")))) (aU (au on (ab 4) (mC iB))) (aY)) (az (bC (av (au bT (ab 2) (mC (.str "leave")))) (aU (au gK (ab 4) (mC (.str "out")))) (aY)) (az (bC (av (au bT (ab 2) (mC (.str "stop")))) (aU (au iy (ak 2 bY (aa (ab 0) (aa (ab 3) (ag)))) (mC .non))) (aY)) (aU (dm (au bT (ab 4) (mC (.str "out"))) (au ug (ak 2 bY (aa (ab 0) (aa (ab 3) (ag)))) (mC .non))))))))))
theorem Go:kJ=aO kW Am 2:=ja rfl
def vK:MS:=
 az (bC (fC (dQ (cV (ak 2 iT (aa (ab 1) (aa (ab 3) (ag)))))) (dQ (cV (ak 2 kJ (aa (ab 2) (aa (ab 3) (ag))))))) (jU) (aY)) (aU (ak 3 pW (aa (ab 0) (aa (ab 2) (aa (ab 3) (ag))))))
theorem Ct:gZ=aO kP vK 4:=ja rfl
def Pu:MS:=
 az (gY (bQ (aa (bf (aM lG) (aa (mC (.int 3)) (aa (bf (aM Bj) (aa (bf (aM fK) (aa (ab 0) (ag))) (aa (mC (.int 8)) (ag)))) (ag)))) (ag))) (ah 1) (az (aH (ak 2 gg (aa (ab 0) (aa (ab 1) (ag)))) (ah 2)) (gY (bQ (aa (mC (.int 6)) (ag))) (ah 3) (az (nv 4 5 (aa (ak 1 gf (aa (ab 2) (ag))) (aa (au aR (mC (.int 1)) (ak 2 bq (aa (ab 2) (aa (mC (.int 5)) (ag))))) (ag)))) (az (aH (lF (av (au bT (ak 2 bq (aa (ab 2) (aa (mC (.int 3)) (ag)))) (mC (.int 0)))) (ak 2 dI (aa (ab 2) (aa (ab 5) (ag)))) (ak 3 gh (aa (ab 2) (aa (ab 4) (aa (ab 5) (ag)))))) (ah 6)) (gY (bQ (aa (ab 5) (ag))) (ah 7) (ga (aT (aa (mC (.str "up")) (aa (mC (.str "down")) (aa (mC (.str "leave")) (ag))))) (ah 8) (az (aH (aT (aa (ab 8) (aa (ab 7) (ag)))) (ah 9)) (az (aH (ak 3 cy (aa (ab 4) (aa (ab 6) (aa (ab 9) (ag))))) (ah 10)) (az (bC (cK (av (au iy (ab 10) (mC .non))) (dQ (cV (ak 2 dk (aa (ak 4 gZ (aa (ab 4) (aa (ab 5) (aa (ab 6) (aa (ab 9) (ag)))))) (aa (ab 10) (ag))))))) (aU (mC (.bl false))) (aY)) (bC (cK (av (au iy (ab 10) (mC .non))) (av (au gK (ak 4 gZ (aa (ab 4) (aa (ab 5) (aa (ab 6) (aa (ab 9) (ag)))))) (ab 10)))) (aU (mC (.bl false))) (aY)))))))))))) (aU (mC (.bl true)))
theorem Rz:Bh=aO BC Pu 1:=ja rfl
end K14
end
section
namespace K14
open PySem MI PySem.Spec PyProof.Rows L2
open M hiding mC ab au av cT cV cK fC dQ dm vR ia lF ag aa aT dM fZ EB bE cb bD bf dN ak aY az aU eV bC ah aK af aZ gq aH bQ dP gY bJ cY bX fY gn nv ky nT iE fG fD ga fE fB dL jd
theorem lR:qj bq:=fun S r m h h0 h1=>by rw [xV];exact FU rfl h h0 h1
theorem left{S:ac}{ns:List Int}{k:Int}(h0:0<=k)(h1:k<=100000):∃ a b,gg [.rol (ns.map .int),.int k] S=some (.ref S.length,S++[.lst [.int a,.int b,.int 0]])/\0<=a/\0<=b/\b<2147483647:=by
 rw [xX]
 exact Gw (N:=io) (cellAt:=dY) (far:=jj) rfl h0 h1 (fun S k h=>by rw [qT];exact Bv (N:=ej) rfl h) (fun S=>by rw [Af];exact KB (N:=jA) rfl)
theorem Pt(S:ac)(ws:List Wd)(i:Nat)(w:Wd)(h:i<ws.length)(hl:ws.length<=100):dr [cm ws,.int (i:Int),w.d] S=some (cm (ws.set i w),S):=by
 rw [Ae];exact ML (N:=jz) rfl h hl
theorem seOk:HU eZ ic dr:=
 ⟨fun S r es hl=>by rw [sQ];exact Dh (N:=ft) rfl hl,fun S r ws wr=>by rw [xW];exact JV (N:=im) rfl,Pt⟩
theorem vz:nh cF:=fun S r R h hl=>by
 rw [qS];exact zp seOk (N:=eh) rfl h hl
theorem doOk:TW jk gA cF eY dr:=
 ⟨fun S R dd hl hd=>by rw [Ag];exact OX (N:=jB) rfl hl hd,
 fun S r R wr g t h hl hw hs=>by rw [uY];exact HR vz (N:=gJ) rfl h hl hw hs,
 vz,fun S r w es hl=>by rw [sP];exact Cz (N:=fq) rfl hl,Pt⟩
theorem rowOk:Qi ie cy:=
 ⟨fun S r n P h1 h5=>by rw [ya];exact LF lR (N:=ir) rfl P h1 (by omega),
 fun S rl R dd h hl hd=>by rw [xZ];exact Lz doOk (N:=iq) rfl h hl hd⟩
theorem row{S:ac}{r n m:Nat}{rl:Rl}(P:Pk S r)(h1:1<=n)(h5:n<=5)(hm:m<=400):∃ (l:List Dd) (R:Rm) (S':ac),hU [.ref r,rl.d,.int (n:Int),.int (m:Int)] S=some (.tup [.tup (l.map Dd.d),aP R],S')/\Behind rl n l R/\l.length<=m/\Pk S' r/\Grow r S S':=by
 rw [Ad];exact MB rowOk (N:=jy) rfl P h1 h5 hm
theorem Ss{S:ac}{r n:Nat}(P:Pk S r)(h1:1<=n)(h5:n<=5):∃ (R:Rm) (S':ac),dI [.ref r,.int (n:Int)] S=some (aP R,S')/\R.1.length=n/\uC R/\Pk S' r/\Grow r S S':=by
 rw [sR];exact Di lR (N:=fv) rfl P h1 h5
theorem rule{S:ac}{r:Nat}(P:Pk S r):∃ (rl:Rl) (S':ac),gf [.ref r] S=some (rl.d,S')/\rl.Ok/\Pk S' r/\Keep r S S':=by
 rw [xU]
 obtain⟨x,a,b,c,S',e,R,P',K⟩:=FR (pick:=bq) lR (N:=il) rfl P
 obtain⟨w,rfl⟩:=GL R.w
 exact⟨⟨w,a,b,c⟩,S',e,⟨R.a0,R.a5,R.b0,R.b9,R.c0,R.c1⟩,P',K⟩
theorem NX:Mf ce:=fun S R l hl=>by rw [sN];exact Sj (N:=fj) rfl hl
theorem rN:qi bY:=fun S R g hl=>by rw [sL];exact Ii NX (N:=iU) rfl hl
theorem yP:nk gu:=⟨fun S r R g hl=>by rw [vJ];exact HF rN (N:=kU) rfl hl,fun S r ws hl=>by rw [vJ];exact HE (fun S=>by rw [sL];exact Ih NX (N:=iU) rfl hl) (N:=kU) rfl⟩
theorem Ru(S:ac)(r:Rl)(R:Rm)(hl:R.1.length<=100)(hl2:R.2.length<=100):kH [r.d,aP R] S=some (nu (qp r R),S):=by
 rw [Cv]
 exact Co (fun S r R hl=>by rw [xR];exact xN yP (N:=ij) rfl hl) (fun S w es hw hl=>by rw [Ab];exact yA (N:=jw) rfl hw hl) yP (N:=kR) rfl hl hl2
theorem LR(S:ac)(r:Rl)(R:Rm)(hl:R.1.length<=100)(hl2:R.2.length<=100):kI [r.d,aP R] S=some (qY (nL r R),S):=by
 rw [Gn];exact DH NX yP Ru (N:=mO) rfl hl hl2
theorem FA(S:ac)(R:Rm)(g:Nat)(w:Wd)(h:g<R.1.length)(hl:R.1.length<=100):bx [aP R,.int (g:Int),w.d] S=some (aP (R.1.set g w,R.2),S):=by
 rw [xQ];exact wQ (N:=ii) rfl h hl
theorem stOk:TN gv kI:=⟨LR,fun S r R v R' l h hl s=>by
 rw [uU]
 exact By FA (fun S r R i e h hi hl=>by rw [Gm];exact Gv FA (N:=mN) rfl h hi hl) (N:=gF) rfl h hl s⟩
theorem IZ{S:ac}{r:Rl}{R:Rm}(hb:0<=r.b)(h:ROk R)(hl:R.1.length<=50):cG [r.d,aP R] S=some (.tup [aP (aX r R).1,du (aX r R).2],S++[.lst ((aX r R).2.map Ev.d)]):=by
 rw [Cu];exact xy stOk hb (N:=kQ) rfl h hl
theorem Mz{S:ac}{d:D}(h:cO 8 d=true):dk [d,d] S=some (.bl true,S):=zC (R:=gk) (N:=N__law_same) rfl xT 8 d h
theorem IJ:Fv cG:=fun S r R hb h hl=>IZ hb h hl
theorem woOk:TK cx:=fun S R g hl=>by rw [qR,show lV=Cb from rfl];exact Qm (N:=eg) rfl hl
theorem My:Pi bn:=fun S r R l hb h hl h4=>by rw [oI,show kw=Cd cG from rfl];exact QC IJ (N:=di) rfl hb h hl h4
theorem tuOk:TuOk gt:=fun S r R g w hw hl=>by rw [Gk,show Aj=Cc from rfl];exact Qu (N:=mM) rfl hw hl
theorem olOk(S:ac)(t:Option Int):hJ [bA t] S=some (bA (t.map (· - 1)),S):=by rw [zZ,show sS=oB from rfl];exact JW (N:=ju) rfl
theorem deOk:DeOk cG bY ce bx:=⟨IJ,rN,NX,FA⟩
theorem brOk:BrOk ge ji gz eX gy gx:=
 ⟨fun S r R wr g t hb h hl hw hs=>by rw [xS,show qq=xB cG bY cx from rfl];exact Ph IJ rN woOk (N:=ik) rfl hb h hl hw hs,
 fun S r R g hb h hl hw=>by rw [Ac,show sU=xz cG bY ce bx from rfl];exact Qn deOk (N:=jx) rfl hb h hl hw,
 fun S r R g w hb h hl hw ho=>by rw [uX,show oN=oC bn bx gt Wd.reads.s "down" from rfl];exact Bo My FA tuOk (N:=gI) rfl hb h hl hw ho (.inl rfl) rfl (by decide) rfl,
 fun S r R g w hb h hl hw ho=>by rw [sO,show nC=oC bn bx gt Wd.out.s "out" from rfl];exact Bo My FA tuOk (N:=fo) rfl hb h hl hw ho (.inr rfl) rfl (by decide) rfl,
 fun S r R g w hb h hl hw hc=>by rw [uW,show oM=oA bn bx cx bY from rfl];exact IA My FA woOk rN (N:=gH) rfl hb h hl hw hc,
 fun S r R hb h hl=>by rw [uV,show oK=sr bn hJ from rfl];exact Iq My olOk (N:=gG) rfl hb h hl⟩
theorem pdone{S:ac}{r:Rl}{R:Rm}{dd:Dd}{x:Rm×List Ev}(hb:0<=r.b)(h:ROk R)(hl:R.1.length<=50)(hd:dd.Ok R.1.length)(hx:dU r R dd=some x):∃ T,pW [r.d,aP R,dd.d] S=some (eM x,S++T):=by
 rw [NH,show JE=oD (brL ge ji gz eX gy gx) from rfl];exact FY brOk (N:=uA) rfl hb h hl hd hx
theorem tofOk:Qg cL:=fun S xs k=>by rw [sM,show nB=xA from rfl];exact Mm (N:=fh) rfl
theorem Ql:Me gd:=fun S x ys h=>by rw [Cw,show vL=sn from rfl];exact Id (N:=kS) rfl h
theorem betOk:Qk cX:=fun S i lo hi=>by rw [uT,show oJ=rn jh from rfl];exact Pb (fun S i=>by rw [Aa,show sT=pG from rfl];exact FB (N:=jv) rfl) (N:=gE) rfl
theorem Sg{S:ac}{n:Nat}{dd:Dd}(hd:dd.Ok n):iT [.int (n:Int),dd.d] S=some (.bl true,S):=by
 rw [Cy,show vM=lP cL gd cX from rfl];exact Hx tofOk Ql betOk (N:=kT) rfl hd
theorem canDo{S:ac}{R:Rm}{dd:Dd}(hl:R.1.length<=100)(hd:dd.Ok R.1.length)(hc:ig R dd=true):kJ [aP R,dd.d] S=some (.bl true,S):=by
 rw [Go,show Am=oE bY from rfl]
 by_cases ht:dd=.tick
 ·subst ht;exact DL (N:=kW) rfl
 ·rw [HG rN (N:=kW) rfl hl hd ht,hc]
theorem Ej{S:ac}{r:Rl}{R:Rm}{n:Nat}{dd:Dd}{x:Rm×List Ev}(hb:0<=r.b)(h:ROk R)(hn:R.1.length=n)(h5:n<=5)(hd:dd.Ok n)(hx:dU r R dd=some x):∃ T,gZ [r.d,.int (n:Int),aP R,dd.d] S=some (eM x,S++T):=by
 subst hn
 obtain⟨T,e⟩:=pdone (S:=S) hb h (by omega) hd hx
 refine⟨T,?_⟩
 rw [Ct,show vK=su iT kJ pW from rfl]
 exact IB (N:=kP) rfl (Sg hd) (canDo (by omega) hd (Hq hx)) e
theorem QD{S:ac}{r:Rl}{R:Rm}{dd:Dd}{x:Rm×List Ev}(h:ROk R)(hl:R.1.length<=5)(hx:dU r R dd=some x):dk [eM x,eM x] S=some (.bl true,S):=by
 obtain⟨h1,h2⟩:=po h hx
 have h3:=h1.len
 have h4:=Ho h hl hx
 exact Mz (IL (by omega) (by omega) (by omega))
theorem AH{S:ac}{r:Rl}{R:Rm}{dd:Dd}(h:ROk R)(hl:R.1.length<=50)(hd:dd.Ok R.1.length):∃ T,cy [r.d,aP R,dd.d] S=some (gD (dU r R dd),S++T):=rowOk.dn S r R dd h hl hd
def TF:ME:=aT (aa (au aw (dM (aa (mC (.str "read")) (aa (mC (.str "write")) (ag)))) (ak 2 bq (aa (ab 0) (aa (mC (.int 2)) (ag))))) (aa (ab 4) (aa (mC .non) (ag))))
def Eg:ME:=lF (av (au ug (ab 5) (mC .non))) (ab 3) (au aw (ab 5) (mC (.int 0)))
def yz:MS:=az (aH (ak 3 cy (aa (ab 1) (aa (ab 3) (aa TF (ag))))) (ah 5)) (aH Eg (ah 3))
def QG:ME:=au aw (ak 4 hU (aa (ab 0) (aa (ab 1) (aa (ab 2) (aa (au aR (mC (.int 2)) (ak 2 bq (aa (ab 0) (aa (mC (.int 16)) (ag))))) (ag)))))) (mC (.int 1))
def Ku:MS:=az (aH QG (ah 3)) (az (bC (av (au bT (ak 2 bq (aa (ab 0) (aa (mC (.int 2)) (ag)))) (mC (.int 0)))) (gY (bQ (aa (ab 2) (ag))) (ah 4) yz) (aY)) (aU (ab 3)))
theorem Mn{S:ac}{r:Rl}{R:Rm}{dd:Dd}{a0 a1 a2 a4:Option D}(h:ROk R):∃ R',Eg [a0,a1,a2,some (aP R),a4,some (gD (dU r R dd))] S=some (aP R',S)/\R'.1.length=R.1.length/\ROk R':=by
 cases hx:dU r R dd with
 | none=>
  have i1:lm (gD none) .non=true:=rfl
  refine⟨R,?_,rfl,h⟩
  simp only [Eg,jc,aD,aE,ai,bF,bM,bL,oj,ob,aj,aq,bb,ar,jN,i1,aB,tG]
 | some x=>
  have i1:lm (gD (some x)) .non=false:=rfl
  have x0:aw S (gD (some x)) (.int 0)=some (aP x.1):=rfl
  refine⟨x.1,?_,(po h hx).2,(po h hx).1⟩
  simp only [Eg,jc,aD,aE,ai,bF,bM,bL,oj,ob,aj,aq,bb,ar,jN,i1,aB,vY,x0]
theorem GR{S:ac}{q n g:Nat}{r:Rl}{R:Rm}{a2 a5:Option D}(P:Pk S q)(h:ROk R)(hn:R.1.length=n)(h5:n<=5)(hg:g<n):∃ R' b5 S',yz [some (.ref q),some r.d,a2,some (aP R),some (.int (g:Int)),a5] S=some (.nx [some (.ref q),some r.d,a2,some (aP R'),some (.int (g:Int)),b5] S')/\R'.1.length=n/\ROk R'/\Pk S' q:=by
 obtain⟨m,S1,e1,m0,m1,P1,K1⟩:=lR _ _ 2 P (by decide) (by decide)
 obtain⟨wr,hwr⟩:=Qf m0 m1
 have k2:∀ S,kA ([.str "read",.str "write"],S)=some (.lst [.str "read",.str "write"],S):=fun S=>cR (by simp)
 have k3:∀ S (x y z:D),cr ([x,y,z],S)=some (.tup [x,y,z],S):=fun S x y z=>aV (by simp)
 have xl:∀ S,aw S (.lst [.str "read",.str "write"]) (.int m)=some (.str (bo wr)):=fun S=>by rw [KJ];exact hwr
 have hd:(Dd.ask wr g none).Ok R.1.length:=⟨by omega,fun k z=>by cases z⟩
 have dc:TF [some (.ref q),some r.d,a2,some (aP R),some (.int (g:Int)),a5] S=some ((Dd.ask wr g none).d,S1):=by
  simp only [TF,bg,ao,aE,gX,bb,ob,am,ay,al,k2,aq,aC,ai,bF,bM,bL,oj,aj,aQ,e1,ar,xl,k3];rfl
 obtain⟨T,e2⟩:=AH (S:=S1) (r:=r) (R:=R) (dd:=.ask wr g none) h (by omega) hd
 obtain⟨R',e3,hl',ok'⟩:=Mn (S:=S1++T) (r:=r) (R:=R) (dd:=.ask wr g none) (a0:=some (.ref q)) (a1:=some r.d) (a2:=a2) (a4:=some (.int (g:Int))) h
 refine⟨R',some (gD (dU r R (.ask wr g none))),S1++T,?_,hl'.trans hn,ok',P1.appT⟩
 simp only [yz,aJ,bh,aC,ao,ai,bF,bM,bL,oj,ob,aj,am,dc,ay,al,bH,e2,bi,aN,el,eQ,bG,aF,e3]
theorem Sm{S:ac}{q n:Nat}{r:Rl}(P:Pk S q)(h1:1<=n)(h5:n<=5):∃ (R:Rm) (S':ac),gh [.ref q,r.d,.int (n:Int)] S=some (aP R,S')/\R.1.length=n/\ROk R/\Pk S' q:=by
 rw [xY,show qt=Ku from rfl,bd (show [D.ref q,r.d,D.int (n:Int)].length=3 from rfl),show aA ip [D.ref q,r.d,D.int (n:Int)]=[some (.ref q),some r.d,some (.int (n:Int)),none,none,none] from rfl]
 obtain⟨j,S1,e1,j0,j1,P1,K1⟩:=lR _ _ 16 P (by decide) (by decide)
 obtain⟨k,hk⟩:∃ k:Nat,2+j=(k:Int):=⟨(2+j).toNat,by omega⟩
 obtain⟨l,R0,S2,e2,B,_,P2,G2⟩:=row (rl:=r) (n:=n) (m:=k) P1 h1 h5 (by omega)
 have xi:∀ S,aw S (.tup [.tup (l.map Dd.d),aP R0]) (.int 1)=some (aP R0):=fun S=>rfl
 have rf:QG [some (.ref q),some r.d,some (.int (n:Int)),none,none,none] S=some (aP R0,S2):=by
  simp only [QG,aE,aC,ao,ai,bF,bM,bL,oj,ob,aj,am,bb,aq,ay,al,aQ,e1,ar,jp,hk,AM,e2,xi]
 obtain⟨i,S3,e3,i0,i1,P3,K3⟩:=lR _ _ 2 P2 (by decide) (by decide)
 by_cases z:i=0
 ·have hz:(i == 0)=true:=by rw [z];rfl
  have kr:∀ S,HW ([.int (n:Int)],S)=some (bW 0 n,S):=fun S=>by rw [jW (by omega) (by omega)];rfl
  obtain⟨env',S7,e7,R,b4,b5,rfl,hl,ok,P7⟩:=GT (tg:=ah 4) (p:=yz) (lo:=0) (fun _ env T=>∃ (R:Rm) (b4 b5:Option D),env=[some (.ref q),some r.d,some (.int (n:Int)),some (aP R),b4,b5]/\R.1.length=n/\ROk R/\Pk T q) n (fun g hg env T hI=>by
   obtain⟨R,b4,b5,rfl,hl,ok,P⟩:=hI
   obtain⟨R',c5,S',e,hl',ok',P'⟩:=GR (g:=g) (a2:=some (.int (n:Int))) (a5:=b5) P ok hl h5 hg
   rw [show ((g:Nat):Int)=0+(g:Int) by omega] at e
   exact⟨_,_,_,_,aN,e,_,_,_,rfl,hl',ok',P'⟩) [some (.ref q),some r.d,some (.int (n:Int)),some (aP R0),none,none] S3 ⟨R0,_,_,rfl,B.ok.2,B.ok.1,P3⟩
  refine⟨R,S7,?_,hl,ok,P7⟩
  simp only [Ku,aJ,bh,rf,ob,bi,aN,el,eQ,bG,aF,be,aD,aE,aC,ao,ai,bF,bM,bL,oj,aj,am,bb,ay,al,aQ,e3,aq,ar,gB,hz,aB,bO,lX,dH,kr,mj,e7,aW,bp,aG]
 ·have hz:(i == 0)=false:=beq_eq_false_iff_ne.mpr z
  refine⟨R0,S3,?_,B.ok.2,B.ok.1,P3⟩
  simp only [Ku,aJ,bh,rf,ob,bi,aN,el,eQ,bG,aF,be,aD,aE,aC,ao,ai,bF,bM,bL,oj,aj,am,bb,ay,al,aQ,e3,aq,ar,gB,hz,aB,bI,bt,aW,bp,aG]
def IF:ME:=ak 4 gZ (aa (ab 4) (aa (ab 5) (aa (ab 6) (aa (ab 9) (ag)))))
def EQ:MS:=az (bC (cK (av (au iy (ab 10) (mC .non))) (dQ (cV (ak 2 dk (aa IF (aa (ab 10) (ag))))))) (aU (mC (.bl false))) (aY)) (bC (cK (av (au iy (ab 10) (mC .non))) (av (au gK IF (ab 10)))) (aU (mC (.bl false))) (aY))
def Il:MS:=az (aH (aT (aa (ab 8) (aa (ab 7) (ag)))) (ah 9)) (az (aH (ak 3 cy (aa (ab 4) (aa (ab 6) (aa (ab 9) (ag))))) (ah 10)) EQ)
def Ee:MS:=ga (aT (aa (mC (.str "up")) (aa (mC (.str "down")) (aa (mC (.str "leave")) (ag))))) (ah 8) Il
def El:ME:=lF (av (au bT (ak 2 bq (aa (ab 2) (aa (mC (.int 3)) (ag)))) (mC (.int 0)))) (ak 2 dI (aa (ab 2) (aa (ab 5) (ag)))) (ak 3 gh (aa (ab 2) (aa (ab 4) (aa (ab 5) (ag)))))
def Ef:MS:=az (nv 4 5 (aa (ak 1 gf (aa (ab 2) (ag))) (aa (au aR (mC (.int 1)) (ak 2 bq (aa (ab 2) (aa (mC (.int 5)) (ag))))) (ag)))) (az (aH El (ah 6)) (gY (bQ (aa (ab 5) (ag))) (ah 7) Ee))
def turn:MS:=az (aH (ak 2 gg (aa (ab 0) (aa (ab 1) (ag)))) (ah 2)) (gY (bQ (aa (mC (.int 6)) (ag))) (ah 3) Ef)
theorem JU{S:ac}{r:Rl}{R:Rm}{n:Nat}{dd:Dd}{a0 a1 a2 a3 a7 a8:Option D}(hb:0<=r.b)(h:ROk R)(hn:R.1.length=n)(h5:n<=5)(hd:dd.Ok n):∃ T,EQ [a0,a1,a2,a3,some r.d,some (.int (n:Int)),some (aP R),a7,a8,some dd.d,some (gD (dU r R dd))] S=some (.nx [a0,a1,a2,a3,some r.d,some (.int (n:Int)),some (aP R),a7,a8,some dd.d,some (gD (dU r R dd))] (S++T)):=by
 cases hx:dU r R dd with
 | none=>
  have i1:lm (gD none) .non=true:=rfl
  refine⟨[],?_⟩
  simp only [EQ,aJ,be,hX,aD,aE,ai,bF,bM,bL,oj,ob,aj,aq,bb,ar,kK,i1,Bool.not_true,aB,rG,bI,bt,aF,List.append_nil]
 | some x=>
  have dn:gD (some x)=eM x:=rfl
  rw [dn]
  have i1:lm (eM x) .non=false:=rfl
  obtain⟨T1,e1⟩:=Ej (S:=S) hb h hn h5 hd hx
  obtain⟨T2,e2⟩:=Ej (S:=S++T1) hb h hn h5 hd hx
  have sm:=fun S=>QD (S:=S) h (by omega) hx
  have ne:∀ S,gK S (eM x) (eM x)=some (.bl false):=fun S=>KF (NA (n:=35))
  refine⟨T1++T2,?_⟩
  simp only [EQ,IF,aJ,be,hX,aD,aE,ai,bF,bM,bL,oj,ob,aj,aq,bb,ar,kK,i1,Bool.not_false,aB,jK,iH,dJ,aC,ao,am,ay,al,AM,e1,aQ,sm,eS,iJ,Bool.not_true,bI,bt,aF,e2,ne,List.append_assoc]
theorem rS{S:ac}{q n g:Nat}{r:Rl}{R:Rm}{k:Ak}{a0 a1 a3 a9 a10:Option D}(P:Pk S q)(hb:0<=r.b)(h:ROk R)(hn:R.1.length=n)(h5:n<=5)(hg:g<n):∃ b9 b10 S',Il [a0,a1,some (.ref q),a3,some r.d,some (.int (n:Int)),some (aP R),some (.int (g:Int)),some (.str k.s),a9,a10] S=some (.nx [a0,a1,some (.ref q),a3,some r.d,some (.int (n:Int)),some (aP R),some (.int (g:Int)),some (.str k.s),b9,b10] S')/\Pk S' q:=by
 have k2:∀ S (x y:D),cr ([x,y],S)=some (.tup [x,y],S):=fun S x y=>aV (by simp)
 have hd:(Dd.act k g).Ok n:=hg
 have ed:D.tup [.str k.s,.int (g:Int)]=(Dd.act k g).d:=rfl
 obtain⟨T,e2⟩:=AH (S:=S) (r:=r) (R:=R) (dd:=.act k g) h (by omega) (by rw [hn];exact hd)
 obtain⟨T2,e3⟩:=JU (S:=S++T) (a0:=a0) (a1:=a1) (a2:=some (.ref q)) (a3:=a3) (a7:=some (.int (g:Int))) (a8:=some (.str k.s)) hb h hn h5 hd
 refine⟨some (Dd.act k g).d,some (gD (dU r R (.act k g))),(S++T)++T2,?_,P.appT.appT⟩
 simp only [Il,aJ,bh,bg,ao,ai,bF,bM,bL,oj,ob,aj,am,ay,al,k2,ed,bi,aN,el,eQ,bG,aF,aC,bH,e2,e3]
theorem Im{S:ac}{q n g:Nat}{r:Rl}{R:Rm}{a0 a1 a3 a8 a9 a10:Option D}(P:Pk S q)(hb:0<=r.b)(h:ROk R)(hn:R.1.length=n)(h5:n<=5)(hg:g<n):∃ b8 b9 b10 S',Ee [a0,a1,some (.ref q),a3,some r.d,some (.int (n:Int)),some (aP R),some (.int (g:Int)),a8,a9,a10] S=some (.nx [a0,a1,some (.ref q),a3,some r.d,some (.int (n:Int)),some (aP R),some (.int (g:Int)),b8,b9,b10] S')/\Pk S' q:=by
 have k3:∀ S (x y z:D),cr ([x,y,z],S)=some (.tup [x,y,z],S):=fun S x y z=>aV (by simp)
 obtain⟨b9,b10,S2,r1,P2⟩:=rS (k:=.up) (a0:=a0) (a1:=a1) (a3:=a3) (a9:=a9) (a10:=a10) P hb h hn h5 hg
 obtain⟨c9,c10,S3,r2,P3⟩:=rS (k:=.down) (a0:=a0) (a1:=a1) (a3:=a3) (a9:=b9) (a10:=b10) P2 hb h hn h5 hg
 obtain⟨d9,d10,S4,r3,P4⟩:=rS (k:=.leave) (a0:=a0) (a1:=a1) (a3:=a3) (a9:=c9) (a10:=c10) P3 hb h hn h5 hg
 refine⟨some (.str "leave"),d9,d10,S4,?_,P4⟩
 simp only [Ak.s] at r1 r2 r3
 simp only [Ee,oP,bg,ao,bb,ob,am,ay,al,k3,NP,fF,aN,el,eQ,nY,r1,r2,r3,mU,Gu]
theorem Io{S:ac}{q:Nat}{a0 a1 a3 a4 a5 a6 a7 a8 a9 a10:Option D}(P:Pk S q):∃ b4 b5 b6 b7 b8 b9 b10 S',Ef [a0,a1,some (.ref q),a3,a4,a5,a6,a7,a8,a9,a10] S=some (.nx [a0,a1,some (.ref q),a3,b4,b5,b6,b7,b8,b9,b10] S')/\Pk S' q:=by
 obtain⟨r,S1,e1,Rk,P1,K1⟩:=rule P
 obtain⟨m,S2,e2,m0,m5,P2,K2⟩:=lR _ _ 5 P1 (by decide) (by decide)
 obtain⟨n,hn⟩:∃ n:Nat,1+m=(n:Int):=⟨(1+m).toNat,by omega⟩
 obtain⟨i,S5,e5,i0,i1,P5,K5⟩:=lR _ _ 3 P2 (by decide) (by decide)
 have rm:∃ (R:Rm) (S6:ac),El [a0,a1,some (.ref q),a3,some r.d,some (.int (n:Int)),a6,a7,a8,a9,a10] S2=some (aP R,S6)/\R.1.length=n/\ROk R/\Pk S6 q:=by
  by_cases z:i=0
  ·obtain⟨R,S6,e6,hl,F,P6,_⟩:=Ss (n:=n) P5 (by omega) (by omega)
   refine⟨R,S6,?_,hl,F.ok,P6⟩
   have hz:(i == 0)=true:=by rw [z];rfl
   simp only [El,jc,aD,aE,aC,ao,ai,bF,bM,bL,oj,ob,aj,am,bb,ay,al,aQ,e5,aq,ar,gB,hz,aB,tG,e6]
  ·obtain⟨R,S6,e6,hl,ok,P6⟩:=Sm (n:=n) (r:=r) P5 (by omega) (by omega)
   refine⟨R,S6,?_,hl,ok,P6⟩
   have hz:(i == 0)=false:=beq_eq_false_iff_ne.mpr z
   simp only [El,jc,aD,aE,aC,ao,ai,bF,bM,bL,oj,ob,aj,am,bb,ay,al,aQ,e5,aq,ar,gB,hz,aB,vY,bH,e6]
 obtain⟨R,S6,e6,hl,ok,P6⟩:=rm
 have kr:∀ S,HW ([.int (n:Int)],S)=some (bW 0 n,S):=fun S=>by rw [jW (by omega) (by omega)];rfl
 obtain⟨env',S7,e7,b7,b8,b9,b10,rfl,P7⟩:=GT (tg:=ah 7) (p:=Ee) (lo:=0) (fun _ env T=>∃ b7 b8 b9 b10,env=[a0,a1,some (.ref q),a3,some r.d,some (.int (n:Int)),some (aP R),b7,b8,b9,b10]/\Pk T q) n (fun g hg env T hI=>by
  obtain⟨b7,b8,b9,b10,rfl,P⟩:=hI
  obtain⟨c8,c9,c10,S',e,P'⟩:=Im (g:=g) (a0:=a0) (a1:=a1) (a3:=a3) (a8:=b8) (a9:=b9) (a10:=b10) P Rk.b0 ok hl (by omega) hg
  rw [show ((g:Nat):Int)=0+(g:Int) by omega] at e
  exact⟨_,_,_,_,aN,e,_,_,_,_,rfl,P'⟩) [a0,a1,some (.ref q),a3,some r.d,some (.int (n:Int)),some (aP R),a7,a8,a9,a10] S6 ⟨_,_,_,_,rfl,P6⟩
 refine⟨some r.d,some (.int (n:Int)),some (aP R),b7,b8,b9,b10,S7,?_,P7⟩
 simp only [Ef,aJ,RA,ao,aC,ai,bF,bM,bL,oj,ob,aj,am,ay,al,AN,e1,aE,bb,aq,aQ,e2,ar,jp,hn,RT,el,eQ,aF,bh,e6,bi,aN,bG,lX,dH,kr,mj,e7]
theorem Ml{S:ac}{ns:List Int}{k:Int}{a2 a3 a4 a5 a6 a7 a8 a9 a10:Option D}(h0:0<=k)(h1:k<=100000) :
  ∃ b2 b3 b4 b5 b6 b7 b8 b9 b10 S',turn [some (.rol (ns.map .int)),some (.int k),a2,a3,a4,a5,a6,a7,a8,a9,a10] S=some (.nx [some (.rol (ns.map .int)),some (.int k),b2,b3,b4,b5,b6,b7,b8,b9,b10] S'):=by
 obtain⟨p,q,e1,p0,q0,q1⟩:=left (S:=S) (ns:=ns) h0 h1
 have P1:=TR (S:=S) (c:=0) p0 q0 q1
 have kr:∀ S,HW ([.int 6],S)=some (bW 0 6,S):=fun S=>jW (by decide) (by decide)
 obtain⟨env',S5,e5,b3,b4,b5,b6,b7,b8,b9,b10,rfl,P5⟩:=GT (tg:=ah 3) (p:=Ef) (lo:=0) (fun _ env T=>∃ b3 b4 b5 b6 b7 b8 b9 b10,env=[some (.rol (ns.map .int)),some (.int k),some (.ref S.length),b3,b4,b5,b6,b7,b8,b9,b10]/\Pk T S.length) 6 (fun j hj env T hI=>by
  obtain⟨b3,b4,b5,b6,b7,b8,b9,b10,rfl,P⟩:=hI
  obtain⟨c4,c5,c6,c7,c8,c9,c10,S',e,P'⟩:=Io (S:=T) (q:=S.length) (a0:=some (.rol (ns.map .int))) (a1:=some (.int k)) (a3:=some (.int (0+(j:Int)))) (a4:=b4) (a5:=b5) (a6:=b6) (a7:=b7) (a8:=b8) (a9:=b9) (a10:=b10) P
  exact⟨_,_,_,_,aN,e,_,_,_,_,_,_,_,_,rfl,P'⟩) [some (.rol (ns.map .int)),some (.int k),some (.ref S.length),a3,a4,a5,a6,a7,a8,a9,a10] (S++[.lst [.int p,.int q,.int 0]]) ⟨_,_,_,_,_,_,_,_,rfl,P1⟩
 refine⟨some (.ref S.length),b3,b4,b5,b6,b7,b8,b9,b10,S5,?_⟩
 simp only [turn,aJ,bh,aC,ao,ai,bF,bM,bL,oj,ob,aj,am,ay,al,aQ,e1,bi,aN,el,eQ,bG,aF,lX,dH,bb,kr,mj,e5]
theorem JX:∀ ns:List Int,ns.length<=63->∃ S',Bh [.rol (ns.map .int)] []=some (.bl true,S'):=fun ns hl=>by
 rw [Rz,bd (show [D.rol (ns.map .int)].length=1 from rfl),show aA BC [D.rol (ns.map .int)]=[some (.rol (ns.map .int)),none,none,none,none,none,none,none,none,none,none] from rfl]
 have hm:Pu=az (gY (bQ (aa (bf (aM lG) (aa (mC (.int 3)) (aa (bf (aM Bj) (aa (bf (aM fK) (aa (ab 0) (ag))) (aa (mC (.int 8)) (ag)))) (ag)))) (ag))) (ah 1) turn) (aU (mC (.bl true))):=rfl
 rw [hm]
 generalize hk:(if (if (8:Int)<(ns.length:Int) then 8 else (ns.length:Int))>3 then (if (8:Int)<(ns.length:Int) then 8 else (ns.length:Int)) else 3)=k
 have hk':0<=k/\k<=26:=by rw [<- hk];split <;> (try split) <;> omega
 have k1:HW ([.int k],[])=some (bW 0 k.toNat,[]):=jW (by omega) (by omega)
 obtain⟨env',S',e,a1,a2,a3,a4,a5,a6,a7,a8,a9,a10,rfl⟩:=Bb (tg:=ah 1) (p:=turn) (fun env _=>∃ a1 a2 a3 a4 a5 a6 a7 a8 a9 a10,env=[some (.rol (ns.map .int)),a1,a2,a3,a4,a5,a6,a7,a8,a9,a10]) (bW 0 k.toNat) (fun d hd env S hI=>by
  obtain⟨a1,a2,a3,a4,a5,a6,a7,a8,a9,a10,rfl⟩:=hI
  obtain⟨i,hi,rfl⟩:=Cs hd
  obtain⟨b2,b3,b4,b5,b6,b7,b8,b9,b10,S2,e⟩:=Ml (S:=S) (ns:=ns) (k:=0+(i:Int)) (a2:=a2) (a3:=a3) (a4:=a4) (a5:=a5) (a6:=a6) (a7:=a7) (a8:=a8) (a9:=a9) (a10:=a10) (by omega) (by omega)
  exact⟨_,_,_,_,aN,e,_,_,_,_,_,_,_,_,_,_,rfl⟩) [some (.rol (ns.map .int)),none,none,none,none,none,none,none,none,none,none] [] ⟨_,_,_,_,_,_,_,_,_,_,rfl⟩
 refine⟨S',?_⟩
 simp only [aJ,lX,dH,ao,aE,bb,ob,aq,bR,am,ai,bF,oj,aj,ay,al,bS,SC,Oi,Ol,List.length_map,hk,k1,mj,e,aF,aW,bp,aG]
end K14
end
def PySem.W.Fast.tw1266986010294205452:=0
def PySem.W.Fast.tw15141115875003623951:=0
def PySem.W.Fast.tw3098074173579913822:=0
def PySem.W.Fast.tw1779913032804618309:=0
def PySem.W.Fast.tw1484230627534565606:=0
def PySem.W.Fast.tw1144231575224902456:=0
def PySem.W.Fast.tw13657541571729414928:=0
def PySem.W.Fast.tw2731972695681164517:=0
def PySem.W.Fast.tw1774664793938266668:=0
def PySem.W.Fast.tw9494664659742864887:=0
def PySem.W.Fast.tw9400954797317221773:=0
def PySem.W.Fast.tw6621814150309694106:=0
def PySem.W.Fast.tw10875568745275803969:=0
def PySem.W.Fast.tw6409401284223842553:=0
def PySem.W.Fast.tw3649107537468223716:=0
def PySem.W.Fast.tw1047372817068569094:=0
def PySem.W.Fast.tw13593651593164247984:=0
def PySem.W.Fast.tw572490593897796522:=0
def PySem.W.Fast.tw16413802678539919631:=0
def PySem.W.Fast.tw6843787258862337120:=0
def PySem.W.Fast.tw6658849781254548439:=0
def PySem.W.Fast.tw13197422838304961680:=0
def PySem.W.Fast.tw12238241342629298013:=0
def PySem.W.Fast.tw18297783748319259919:=0
def PySem.W.Fast.tw15150728155401046144:=0
def PySem.W.Fast.tw2029439352731773098:=0
def PySem.W.Fast.tw6005024185413899288:=0
def PySem.W.Fast.tw13810158663061768506:=0
def PySem.W.Fast.tw6961410053045183516:=0
def PySem.W.Fast.tw16373951439457506832:=0
def PySem.W.Fast.tw5355945436624411913:=0
def PySem.W.Fast.tw14323542943783531808:=0
def PySem.W.Fast.tw17344740910912971181:=0
def PySem.W.Fast.tw12944500167042710522:=0
def PySem.W.Fast.tw3561189300541590862:=0
def PySem.W.Fast.tw10723899293591046852:=0
def PySem.W.Fast.tw14642428283823363813:=0
def PySem.W.Fast.tw17447827551604386816:=0
def PySem.W.Fast.tw10670699768113349571:=0
def PySem.W.Fast.tw14634898622371863125:=0
def PySem.W.Fast.tw533569620816556440:=0
def PySem.W.Fast.tw18026459052425609034:=0
def PySem.W.Fast.tw7320021673745189023:=0
def PySem.W.Fast.tw6613474454522347381:=0
def PySem.W.Fast.tw17349432102274117672:=0
def PySem.W.Fast.tw5668525694978580180:=0
def PySem.W.Fast.tw12171128319420273674:=0
def PySem.W.Fast.tw10342198615911980832:=0
def PySem.W.Fast.tw12460327741998985229:=0
def PySem.W.Fast.tw1859625489736772193:=0
def PySem.W.Fast.tw11325354782139826474:=0
def PySem.W.Fast.tw2649936123934119632:=0
def PySem.W.Fast.tw17717133973962053323:=0
def PySem.W.Fast.tw11175103013300963003:=0
def PySem.W.Fast.tw7098603076680989905:=0
def PySem.W.Fast.tw958116916674916118:=0
def PySem.W.Fast.tw14258635437151104232:=0
def PySem.W.Fast.tw6153712731240606825:=0
def PySem.W.Fast.tw6104541515037079660:=0
def PySem.W.Fast.tw7651649306788495564:=0
def PySem.W.Fast.tw2341339975929233715:=0
def PySem.W.Fast.tw5040274049093668254:=0
def PySem.W.Fast.tw13813443256617727096:=0
def PySem.W.Fast.tw10413148987221644177:=0
def PySem.W.Fast.tw1521498691740275442:=0
def PySem.W.Fast.tw563497017150829163:=0
def PySem.W.Fast.tw11375360256622200163:=0
def PySem.W.Fast.tw10790363379421853176:=0
def PySem.W.Fast.tw16316938980060653848:=0
def PySem.W.Fast.tw10923779552412542953:=0
def PySem.W.Fast.tw15083385160241136810:=0
def PySem.W.Fast.tw4383281349099838241:=0
def PySem.W.Fast.tw17240702343463381230:=0
def PySem.W.Fast.tw4433401936473536518:=0
def PySem.W.Fast.tw14060777097514245020:=0
def PySem.W.Fast.tw2314381381958610661:=0
def PySem.W.Fast.tw5050690460542058286:=0
def PySem.W.Fast.tw7249619896824976193:=0
def PySem.W.Fast.tw2953395597406864913:=0
def PySem.W.Fast.tw7096929837171275296:=0
def PySem.W.Fast.tw14860688358218670095:=0
def PySem.W.Fast.tw4519955001590431057:=0
def PySem.W.Fast.tw11991754494957249647:=0
def PySem.W.Fast.tw5468186549985466178:=0
def PySem.W.Fast.tw4841069398241121343:=0
def PySem.W.Fast.tw2668136983079519194:=0
def PySem.W.Fast.tw17292367474707794536:=0
def PySem.W.Fast.tw153803096652799140:=0
def PySem.W.Fast.tw10710851605102438748:=0
def PySem.W.Fast.tw10810543556868926230:=0
def PySem.W.Fast.tw18233346937026075338:=0
def PySem.W.Fast.tw16007522601500744330:=0
def PySem.W.Fast.tw13944119132645002932:=0
def PySem.W.Fast.tw2676545830289630152:=0
def PySem.W.Fast.tw14121762095867646164:=0
def PySem.W.Fast.tw14052782665503670603:=0
def PySem.W.Fast.tw5061537302559081500:=0
def PySem.W.Fast.tw11109728818129275386:=0
def PySem.W.Fast.tw2154944668223142696:=0
def PySem.W.Fast.tw8209500176420645980:=0
def PySem.W.Fast.tw15472585112796351637:=0
def PySem.W.Fast.tw1937049882969607375:=0
def PySem.W.Fast.tw533803713622939553:=0
def PySem.W.Fast.tw17606688237636260585:=0
def PySem.W.Fast.tw3250598546459682416:=0
def PySem.W.Fast.tw1547178761957003945:=0
def PySem.W.Fast.tw9496283806374195157:=0
def PySem.W.Fast.tw13184189006829923301:=0
def PySem.W.Fast.tw9035405849931539767:=0
def PySem.W.Fast.tw5298851496748997103:=0
def PySem.W.Fast.tw1536759193076809854:=0
def PySem.W.Fast.tw12000218571224381446:=0
def PySem.W.Fast.tw11235163398671637015:=0
noncomputable def PySem.W.Fast.tw11219598370811602626:PySem.Program:=PySem.Challenge.pw_manyreaders_k14_up_down_and_leave
theorem PySem.W.Fast.te11219598370811602626:PySem.Challenge.pw_manyreaders_k14_up_down_and_leave=PySem.W.Fast.tw11219598370811602626:=rfl
namespace K14
open PySem
def c0:Stmt:=fA 0
def c5:Stmt:=fA 5
def c6:Stmt:=fA 6
def c7:Stmt:=fA 7
def c8:Stmt:=fA 8
def c13:Stmt:=fA 13
def c14:Stmt:=fA 14
def c15:Stmt:=fA 15
def c24:Stmt:=fA 24
def c25:Stmt:=fA 25
def c26:Stmt:=fA 26
def c27:Stmt:=fA 27
def c28:Stmt:=fA 28
def c42:Stmt:=fA 42
def c43:Stmt:=fA 43
def pw2:Program:={ PySem.Challenge.pw_manyreaders_k14_up_down_and_leave with main:={ PySem.Challenge.pw_manyreaders_k14_up_down_and_leave.main with body:=[c0,gP,eC,iR,dA,c5,c6,c7,c8,dB,fM,da,iN,c13,c14,c15,kq,iQ,gQ,fN,iP,ko,eD,kn,c24,c25,c26,c27,c28,iS,ku,iO,pE,fO,gR,eH,dC,eG,eE,gO,kj,cM,c42,c43,df,fS,gU,fQ,fP,fV,gS,dE,fR,gT,db,gW,dD,fU,eI,dF,cC,fT,vB] } }
def lw:PySem.W.OpenLaw:={ PySem.Challenge.rw_manyreaders_k14_up_down_and_leave with prog:=pw2 }
theorem lw_eq:PySem.Challenge.rw_manyreaders_k14_up_down_and_leave=lw:=by kernel_rfl
end K14
namespace K14
open PySem L2 MI PyProof.Rows M
noncomputable def kf0(P:Params):PySem.W.Frag:=[(3,⟨.type "dict",none,.dict #[kE P "__name__" 165 (.str "law_manyreaders_k14_up_down_and_leave" 549),kE P "__doc__" 166 .none,kE P "__package__" 167 .none,kE P "__loader__" 168 (.builtin "__main__.__loader__#opaque"),kE P "__spec__" 169 .none,kE P "__annotations__" 170 (.ref 6),kE P "__builtins__" 171 (.ref 4),kE P "__file__" 173 (.str "/claim/cut.py" 172),kE P "__cached__" 174 .none,kE P "is_whole" 195 (.ref 21),kE P "is_between" 204 (.ref 28),kE P "is_word" 212 (.ref 35),kE P "is_tuple_of" 220 (.ref 42),kE P "WRITING_WORDS" 225 (.ref 43),kE P "WANTS" 228 (.ref 44),kE P "GREATEST_LEFT" 230 (.int 9 229),kE P "guests_with" 236 (.ref 49),kE P "with_word" 247 (.ref 56),kE P "without_wait" 253 (.ref 61),kE P "waiting" 262 (.ref 68),kE P "FAVOURED" 276 (.ref 69),kE P "WORD_WITHIN" 283 (.ref 70),kE P "can_go" 289 (.ref 75),kE P "next_in" 298 (.ref 82),kE P "foremost" 304 (.ref 87),kE P "next_past" 316 (.ref 94),kE P "settled" 326 (.ref 101),kE P "coming" 335 (.ref 108),kE P "brought_by" 346 (.ref 115),kE P "let_in" 352 (.ref 120),kE P "GuestError" 372 (.ref 130),kE P "NoDeed" 397 (.ref 150),kE P "GUEST_WORDS" 404 (.ref 153),kE P "is_deed" 415 (.ref 160),kE P "can_do" 426 (.ref 167),kE P "stepped" 436 (.ref 174),kE P "done" 446 (.ref 181),kE P "bring_ask" 462 (.ref 188),kE P "bring_up" 473 (.ref 195),kE P "bring_down" 483 (.ref 202),kE P "bring_leave" 493 (.ref 209),kE P "bring_stop" 504 (.ref 216),kE P "bring_tick" 510 (.ref 221),kE P "one_less" 517 (.ref 228),kE P "turned" 523 (.ref 233),kE P "settled_behind" 533 (.ref 240),kE P "BRINGS" 548 (.ref 241),kE P "_law_cell_at" 558 (.ref 248),kE P "_law_left" 568 (.ref 255),kE P "_law_far" 576 (.ref 262),kE P "_law_pick" 585 (.ref 269),kE P "_law_rule" 595 (.ref 276),kE P "_law_deed" 605 (.ref 283),kE P "_law_row" 620 (.ref 290),kE P "_law_fronts" 626 (.ref 295),kE P "_law_lets" 636 (.ref 302),kE P "_law_put" 645 (.ref 309),kE P "_law_settled" 651 (.ref 314),kE P "_law_can" 657 (.ref 319),kE P "_law_marked" 663 (.ref 324),kE P "_law_done" 669 (.ref 329),kE P "_law_asked" 675 (.ref 334),kE P "_law_formed" 681 (.ref 339),kE P "_law_same" 687 (.ref 344),kE P "_law_full" 699 (.ref 351),kE P "law" 716 (.ref 358)] 66,#[]⟩),(20,kC "is_whole" 189 2 1 15 16 (.ref 17) (.ref 18) 19 193),(21,kF "is_whole" gP "manyreaders.kinds" 187 20),(27,kC "is_between" 196 4 3 22 23 (.ref 24) (.ref 25) 26 202),(28,kF "is_between" eC "manyreaders.kinds" 187 27),(34,kC "is_word" 205 6 2 29 30 (.ref 31) (.ref 32) 33 210),(35,kF "is_word" iR "manyreaders.kinds" 187 34),(41,kC "is_tuple_of" 213 8 2 36 37 (.ref 38) (.ref 39) 40 218)]
noncomputable def kf1(P:Params):PySem.W.Frag:=[(42,kF "is_tuple_of" dA "manyreaders.kinds" 187 41),(43,⟨.type "tuple",none,.seq #[.str "writes" 223,.str "raised" 224] 0,#[]⟩),(44,⟨.type "tuple",none,.seq #[.str "read" 226,.str "write" 227] 0,#[]⟩),(48,kC "guests_with" 231 14 2 45 46 .none .none 47 234),(49,kF "guests_with" dB "manyreaders.rooms" 221 48),(55,kC "with_word" 237 16 3 50 51 (.ref 52) (.ref 53) 54 245),(56,kF "with_word" fM "manyreaders.rooms" 221 55),(60,kC "without_wait" 248 19 2 57 58 .none .none 59 251)]
noncomputable def kf2(P:Params):PySem.W.Frag:=[(61,kF "without_wait" da "manyreaders.rooms" 221 60),(67,kC "waiting" 254 22 2 62 63 (.ref 64) (.ref 65) 66 260),(68,kF "waiting" iN "manyreaders.rooms" 221 67),(69,⟨.type "dict",none,.dict #[kE P "rows" 265 .none,kE P "readers" 266 (.str "read" 267),kE P "writers" 268 (.str "write" 269),kE P "turns" 270 (.str "write" 271)] 4,#[]⟩),(70,⟨.type "dict",none,.dict #[kE P "read" 277 (.str "reads" 278),kE P "write" 279 (.str "writes" 280)] 2,#[]⟩),(74,kC "can_go" 284 32 3 71 72 .none .none 73 287),(75,kF "can_go" kq "manyreaders.doors" 263 74),(81,kC "next_in" 290 41 2 76 77 (.ref 78) (.ref 79) 80 296)]
noncomputable def kf3(P:Params):PySem.W.Frag:=[(82,kF "next_in" iQ "manyreaders.doors" 263 81),(86,kC "foremost" 299 46 2 83 84 .none .none 85 302),(87,kF "foremost" gQ "manyreaders.doors" 263 86),(93,kC "next_past" 305 51 2 88 89 (.ref 90) (.ref 91) 92 314),(94,kF "next_past" fN "manyreaders.doors" 263 93),(100,kC "settled" 317 58 2 95 96 (.ref 97) (.ref 98) 99 324),(101,kF "settled" iP "manyreaders.doors" 263 100),(107,kC "coming" 327 66 2 102 103 (.ref 104) (.ref 105) 106 333)]
noncomputable def kf4(P:Params):PySem.W.Frag:=[(108,kF "coming" ko "manyreaders.doors" 263 107),(114,kC "brought_by" 336 72 3 109 110 (.ref 111) (.ref 112) 113 344),(115,kF "brought_by" eD "manyreaders.doors" 263 114),(119,kC "let_in" 347 77 3 116 117 .none .none 118 350),(120,kF "let_in" kn "manyreaders.doors" 263 119),(153,⟨.type "tuple",none,.seq #[.str "up" 400,.str "down" 401,.str "leave" 402,.str "stop" 403] 0,#[]⟩),(159,kC "is_deed" 405 93 2 154 155 (.ref 156) (.ref 157) 158 413),(160,kF "is_deed" iS "manyreaders.deeds" 398 159)]
noncomputable def kf5(P:Params):PySem.W.Frag:=[(166,kC "can_do" 416 102 2 161 162 (.ref 163) (.ref 164) 165 424),(167,kF "can_do" ku "manyreaders.deeds" 398 166),(173,kC "stepped" 427 116 4 168 169 (.ref 170) (.ref 171) 172 434),(174,kF "stepped" iO "manyreaders.deeds" 398 173),(180,kC "done" 437 120 3 175 176 (.ref 177) (.ref 178) 179 444),(181,kF "done" pE "manyreaders.deeds" 398 180),(187,kC "bring_ask" 447 123 3 182 183 (.ref 184) (.ref 185) 186 460),(188,kF "bring_ask" fO "manyreaders.deeds" 398 187)]
noncomputable def kf6(P:Params):PySem.W.Frag:=[(194,kC "bring_up" 463 133 3 189 190 (.ref 191) (.ref 192) 193 471),(195,kF "bring_up" gR "manyreaders.deeds" 398 194),(201,kC "bring_down" 474 141 3 196 197 (.ref 198) (.ref 199) 200 481),(202,kF "bring_down" eH "manyreaders.deeds" 398 201),(208,kC "bring_leave" 484 144 3 203 204 (.ref 205) (.ref 206) 207 491),(209,kF "bring_leave" dC "manyreaders.deeds" 398 208),(215,kC "bring_stop" 494 147 3 210 211 (.ref 212) (.ref 213) 214 502),(216,kF "bring_stop" eG "manyreaders.deeds" 398 215)]
noncomputable def kf7(P:Params):PySem.W.Frag:=[(220,kC "bring_tick" 505 154 3 217 218 .none .none 219 508),(221,kF "bring_tick" eE "manyreaders.deeds" 398 220),(227,kC "one_less" 511 160 1 222 223 (.ref 224) (.ref 225) 226 515),(228,kF "one_less" gO "manyreaders.deeds" 398 227),(232,kC "turned" 518 162 3 229 230 .none .none 231 521),(233,kF "turned" kj "manyreaders.deeds" 398 232),(239,kC "settled_behind" 524 167 3 234 235 (.ref 236) (.ref 237) 238 531),(240,kF "settled_behind" cM "manyreaders.deeds" 398 239)]
noncomputable def kf8(P:Params):PySem.W.Frag:=[(241,⟨.type "dict",none,.dict #[kE P "read" 534 (.ref 188),kE P "write" 535 (.ref 188),kE P "up" 536 (.ref 195),kE P "down" 537 (.ref 202),kE P "leave" 538 (.ref 209),kE P "stop" 539 (.ref 216),kE P "tick" 540 (.ref 221)] 7,#[]⟩),(247,kC "_law_cell_at" 551 172 2 242 243 (.ref 244) (.ref 245) 246 556),(248,kF "_law_cell_at" df "law_manyreaders_k14_up_down_and_leave" 549 247),(254,kC "_law_left" 559 176 2 249 250 (.ref 251) (.ref 252) 253 566),(255,kF "_law_left" fS "law_manyreaders_k14_up_down_and_leave" 549 254),(261,kC "_law_far" 569 183 0 256 257 (.ref 258) (.ref 259) 260 574),(262,kF "_law_far" gU "law_manyreaders_k14_up_down_and_leave" 549 261),(268,kC "_law_pick" 577 188 2 263 264 (.ref 265) (.ref 266) 267 583)]
noncomputable def kf9(P:Params):PySem.W.Frag:=[(269,kF "_law_pick" fQ "law_manyreaders_k14_up_down_and_leave" 549 268),(275,kC "_law_rule" 586 196 1 270 271 (.ref 272) (.ref 273) 274 593),(276,kF "_law_rule" fP "law_manyreaders_k14_up_down_and_leave" 549 275),(282,kC "_law_deed" 596 201 2 277 278 (.ref 279) (.ref 280) 281 603),(283,kF "_law_deed" fV "law_manyreaders_k14_up_down_and_leave" 549 282),(289,kC "_law_row" 606 209 4 284 285 (.ref 286) (.ref 287) 288 618),(290,kF "_law_row" gS "law_manyreaders_k14_up_down_and_leave" 549 289),(294,kC "_law_fronts" 621 219 2 291 292 .none .none 293 624)]
noncomputable def kf10(P:Params):PySem.W.Frag:=[(295,kF "_law_fronts" dE "law_manyreaders_k14_up_down_and_leave" 549 294),(301,kC "_law_lets" 627 230 3 296 297 (.ref 298) (.ref 299) 300 634),(302,kF "_law_lets" fR "law_manyreaders_k14_up_down_and_leave" 549 301),(308,kC "_law_put" 637 237 3 303 304 (.ref 305) (.ref 306) 307 643),(309,kF "_law_put" gT "law_manyreaders_k14_up_down_and_leave" 549 308),(313,kC "_law_settled" 646 239 2 310 311 .none .none 312 649),(314,kF "_law_settled" db "law_manyreaders_k14_up_down_and_leave" 549 313),(318,kC "_law_can" 652 255 2 315 316 .none .none 317 655)]
noncomputable def kf11(P:Params):PySem.W.Frag:=[(319,kF "_law_can" gW "law_manyreaders_k14_up_down_and_leave" 549 318),(323,kC "_law_marked" 658 264 3 320 321 .none .none 322 661),(324,kF "_law_marked" dD "law_manyreaders_k14_up_down_and_leave" 549 323),(328,kC "_law_done" 664 268 3 325 326 .none .none 327 667),(329,kF "_law_done" fU "law_manyreaders_k14_up_down_and_leave" 549 328),(333,kC "_law_asked" 670 291 3 330 331 .none .none 332 673),(334,kF "_law_asked" eI "law_manyreaders_k14_up_down_and_leave" 549 333),(338,kC "_law_formed" 676 300 2 335 336 .none .none 337 679)]
noncomputable def kf12(P:Params):PySem.W.Frag:=[(339,kF "_law_formed" dF "law_manyreaders_k14_up_down_and_leave" 549 338),(343,kC "_law_same" 682 311 2 340 341 .none .none 342 685),(344,kF "_law_same" cC "law_manyreaders_k14_up_down_and_leave" 549 343),(350,kC "_law_full" 688 328 3 345 346 (.ref 347) (.ref 348) 349 697),(351,kF "_law_full" fT "law_manyreaders_k14_up_down_and_leave" 549 350),(357,kC "law" 700 335 1 352 353 (.ref 354) (.ref 355) 356 714),(358,kF "law" vB "law_manyreaders_k14_up_down_and_leave" 549 357)]
noncomputable def dW(P:Params):PySem.W.Frag:=(((kf0 P)++((kf1 P)++(kf2 P)))++((kf3 P)++((kf4 P)++(kf5 P))))++(((kf6 P)++((kf7 P)++(kf8 P)))++(((kf9 P)++(kf10 P))++((kf11 P)++(kf12 P))))
def kads:List Addr:=[3,20,21,27,28,34,35,41,42,43,44,48,49,55,56,60,61,67,68,69,70,74,75,81,82,86,87,93,94,100,101,107,108,114,115,119,120,153,159,160,166,167,173,174,180,181,187,188,194,195,201,202,208,209,215,216,220,221,227,228,232,233,239,240,241,247,248,254,255,261,262,268,269,275,276,282,283,289,290,294,295,301,302,308,309,313,314,318,319,323,324,328,329,333,334,338,339,343,344,350,351,357,358]
theorem txt{w:World}{h:Heap}{mg:Str->Option Value}(X:(dW w.params).In h)(G:h.Ns mainGlobals mg):iD w (dW w.params) mg:=
 ⟨cN X G "law_manyreaders_k14_up_down_and_leave" 248 549 247 (by kernel_rfl),cN X G "law_manyreaders_k14_up_down_and_leave" 262 549 261 (by kernel_rfl),cN X G "law_manyreaders_k14_up_down_and_leave" 255 549 254 (by kernel_rfl),cN X G "law_manyreaders_k14_up_down_and_leave" 269 549 268 (by kernel_rfl),cN X G "law_manyreaders_k14_up_down_and_leave" 276 549 275 (by kernel_rfl),cN X G "law_manyreaders_k14_up_down_and_leave" 339 549 338 (by kernel_rfl),cN X G "law_manyreaders_k14_up_down_and_leave" 283 549 282 (by kernel_rfl),cN X G "law_manyreaders_k14_up_down_and_leave" 309 549 308 (by kernel_rfl),cN X G "law_manyreaders_k14_up_down_and_leave" 295 549 294 (by kernel_rfl),cN X G "law_manyreaders_k14_up_down_and_leave" 302 549 301 (by kernel_rfl),cN X G "law_manyreaders_k14_up_down_and_leave" 314 549 313 (by kernel_rfl),cN X G "law_manyreaders_k14_up_down_and_leave" 319 549 318 (by kernel_rfl),cN X G "law_manyreaders_k14_up_down_and_leave" 334 549 333 (by kernel_rfl),cN X G "law_manyreaders_k14_up_down_and_leave" 324 549 323 (by kernel_rfl),cN X G "law_manyreaders_k14_up_down_and_leave" 329 549 328 (by kernel_rfl),cN X G "law_manyreaders_k14_up_down_and_leave" 290 549 289 (by kernel_rfl),cN X G "law_manyreaders_k14_up_down_and_leave" 351 549 350 (by kernel_rfl),cN X G "law_manyreaders_k14_up_down_and_leave" 344 549 343 (by kernel_rfl),cN X G "manyreaders.rooms" 49 221 48 (by kernel_rfl),cN X G "manyreaders.doors" 87 263 86 (by kernel_rfl),cN X G "manyreaders.rooms" 68 221 67 (by kernel_rfl),cN X G "manyreaders.doors" 75 263 74 (by kernel_rfl),cN X G "manyreaders.doors" 94 263 93 (by kernel_rfl),cN X G "manyreaders.doors" 82 263 81 (by kernel_rfl),cN X G "manyreaders.doors" 108 263 107 (by kernel_rfl),cN X G "manyreaders.rooms" 56 221 55 (by kernel_rfl),cN X G "manyreaders.doors" 120 263 119 (by kernel_rfl),cN X G "manyreaders.doors" 115 263 114 (by kernel_rfl),cN X G "manyreaders.doors" 101 263 100 (by kernel_rfl),cN X G "manyreaders.rooms" 61 221 60 (by kernel_rfl),cN X G "manyreaders.deeds" 188 398 187 (by kernel_rfl),cN X G "manyreaders.deeds" 195 398 194 (by kernel_rfl),cN X G "manyreaders.deeds" 240 398 239 (by kernel_rfl),cN X G "manyreaders.deeds" 233 398 232 (by kernel_rfl),cN X G "manyreaders.deeds" 202 398 201 (by kernel_rfl),cN X G "manyreaders.deeds" 209 398 208 (by kernel_rfl),cN X G "manyreaders.deeds" 216 398 215 (by kernel_rfl),cN X G "manyreaders.deeds" 228 398 227 (by kernel_rfl),cN X G "manyreaders.deeds" 221 398 220 (by kernel_rfl),cN X G "manyreaders.deeds" 181 398 180 (by kernel_rfl),cN X G "manyreaders.kinds" 42 187 41 (by kernel_rfl),cN X G "manyreaders.kinds" 35 187 34 (by kernel_rfl),cN X G "manyreaders.kinds" 21 187 20 (by kernel_rfl),cN X G "manyreaders.kinds" 28 187 27 (by kernel_rfl),cN X G "manyreaders.deeds" 160 398 159 (by kernel_rfl),cN X G "manyreaders.deeds" 167 398 166 (by kernel_rfl),cN X G "manyreaders.deeds" 174 398 173 (by kernel_rfl),cN X G "law_manyreaders_k14_up_down_and_leave" 358 549 357 (by kernel_rfl),PySem.W.mg_none_of X G (by kernel_rfl),PySem.W.mg_none_of X G (by kernel_rfl),PySem.W.mg_none_of X G (by kernel_rfl),PySem.W.mg_none_of X G (by kernel_rfl),PySem.W.mg_none_of X G (by kernel_rfl),PySem.W.mg_none_of X G (by kernel_rfl),PySem.W.mg_none_of X G (by kernel_rfl),PySem.W.mg_none_of X G (by kernel_rfl),PySem.W.mg_none_of X G (by kernel_rfl),PySem.W.mg_none_of X G (by kernel_rfl),PySem.W.mg_none_of X G (by kernel_rfl),PySem.W.mg_none_of X G (by kernel_rfl),PySem.W.mg_none_of X G (by kernel_rfl),PySem.W.mg_none_of X G (by kernel_rfl),Su (PySem.W.mg_of X G (show PySem.W.nsIn (dW w.params) mainGlobals "BRINGS" = some (some (.ref 241)) by kernel_rfl)) (show (dW w.params).lookup 241=some ⟨.type "dict",none,.dict #[⟨PyData.keyHash w.params "read",.str "read" 534,.ref 188⟩,⟨PyData.keyHash w.params "write",.str "write" 535,.ref 188⟩,⟨PyData.keyHash w.params "up",.str "up" 536,.ref 195⟩,⟨PyData.keyHash w.params "down",.str "down" 537,.ref 202⟩,⟨PyData.keyHash w.params "leave",.str "leave" 538,.ref 209⟩,⟨PyData.keyHash w.params "stop",.str "stop" 539,.ref 216⟩,⟨PyData.keyHash w.params "tick",.str "tick" 540,.ref 221⟩] 7,#[]⟩ by kernel_rfl) (.cons (.cons (.cons (.cons (.cons (.cons (.cons (.nil)))))))) (show List.Nodup ([.inr "read",.inr "write",.inr "up",.inr "down",.inr "leave",.inr "stop",.inr "tick"]:List bz) by decide +kernel) (.cons (PySem.W.mg_of X G (show PySem.W.nsIn (dW w.params) mainGlobals "bring_ask" = some (some (.ref 188)) by kernel_rfl)) (.cons (PySem.W.mg_of X G (show PySem.W.nsIn (dW w.params) mainGlobals "bring_ask" = some (some (.ref 188)) by kernel_rfl)) (.cons (PySem.W.mg_of X G (show PySem.W.nsIn (dW w.params) mainGlobals "bring_up" = some (some (.ref 195)) by kernel_rfl)) (.cons (PySem.W.mg_of X G (show PySem.W.nsIn (dW w.params) mainGlobals "bring_down" = some (some (.ref 202)) by kernel_rfl)) (.cons (PySem.W.mg_of X G (show PySem.W.nsIn (dW w.params) mainGlobals "bring_leave" = some (some (.ref 209)) by kernel_rfl)) (.cons (PySem.W.mg_of X G (show PySem.W.nsIn (dW w.params) mainGlobals "bring_stop" = some (some (.ref 216)) by kernel_rfl)) (.cons (PySem.W.mg_of X G (show PySem.W.nsIn (dW w.params) mainGlobals "bring_tick" = some (some (.ref 221)) by kernel_rfl)) (.nil)))))))),Ir (PySem.W.mg_of X G (show PySem.W.nsIn (dW w.params) mainGlobals "FAVOURED" = some (some (.ref 69)) by kernel_rfl)) (show (dW w.params).lookup 69=some ⟨.type "dict",none,.dict #[⟨PyData.keyHash w.params "rows",.str "rows" 265,.none⟩,⟨PyData.keyHash w.params "readers",.str "readers" 266,.str "read" 267⟩,⟨PyData.keyHash w.params "writers",.str "writers" 268,.str "write" 269⟩,⟨PyData.keyHash w.params "turns",.str "turns" 270,.str "write" 271⟩] 4,#[]⟩ by kernel_rfl) (.cons (.cons (.cons (.cons (.nil))))) (show List.Nodup ([.inr "rows",.inr "readers",.inr "writers",.inr "turns"]:List bz) by decide +kernel) (.cons .non rfl (fun _ _ _=>.non) (.cons (V.str "read") ⟨_,rfl⟩ (fun _ _ _=>.str _) (.cons (V.str "write") ⟨_,rfl⟩ (fun _ _ _=>.str _) (.cons (V.str "write") ⟨_,rfl⟩ (fun _ _ _=>.str _) (.nil))))),⟨_,V.int 9,PySem.W.mg_of X G (show PySem.W.nsIn (dW w.params) mainGlobals "GREATEST_LEFT" = some (some (.int 9 229)) by kernel_rfl),⟨_,rfl⟩,fun μ H=>.int _⟩,⟨_,.ref 153,PySem.W.mg_of X G (show PySem.W.nsIn (dW w.params) mainGlobals "GUEST_WORDS" = some (some (.ref 153)) by kernel_rfl),rfl,fun μ H=>.ktup (vs:=[V.str "up",V.str "down",V.str "leave",V.str "stop"]) ⟨_,_,_,(show (dW w.params).lookup 153=some ⟨.type "tuple",none,.seq #[.str "up" 400,.str "down" 401,.str "leave" 402,.str "stop" 403] 0,#[]⟩ by kernel_rfl),rfl,rfl,rfl,(show 4<=sizeLine by decide),.cons ⟨_,rfl⟩ (.cons ⟨_,rfl⟩ (.cons ⟨_,rfl⟩ (.cons ⟨_,rfl⟩ (.nil))))⟩ (.cons (.str _) (.cons (.str _) (.cons (.str _) (.cons (.str _) (.nil)))))⟩,⟨_,.ref 44,PySem.W.mg_of X G (show PySem.W.nsIn (dW w.params) mainGlobals "WANTS" = some (some (.ref 44)) by kernel_rfl),rfl,fun μ H=>.ktup (vs:=[V.str "read",V.str "write"]) ⟨_,_,_,(show (dW w.params).lookup 44=some ⟨.type "tuple",none,.seq #[.str "read" 226,.str "write" 227] 0,#[]⟩ by kernel_rfl),rfl,rfl,rfl,(show 2<=sizeLine by decide),.cons ⟨_,rfl⟩ (.cons ⟨_,rfl⟩ (.nil))⟩ (.cons (.str _) (.cons (.str _) (.nil)))⟩,Ir (PySem.W.mg_of X G (show PySem.W.nsIn (dW w.params) mainGlobals "WORD_WITHIN" = some (some (.ref 70)) by kernel_rfl)) (show (dW w.params).lookup 70=some ⟨.type "dict",none,.dict #[⟨PyData.keyHash w.params "read",.str "read" 277,.str "reads" 278⟩,⟨PyData.keyHash w.params "write",.str "write" 279,.str "writes" 280⟩] 2,#[]⟩ by kernel_rfl) (.cons (.cons (.nil))) (show List.Nodup ([.inr "read",.inr "write"]:List bz) by decide +kernel) (.cons (V.str "reads") ⟨_,rfl⟩ (fun _ _ _=>.str _) (.cons (V.str "writes") ⟨_,rfl⟩ (fun _ _ _=>.str _) (.nil))),⟨_,.ref 43,PySem.W.mg_of X G (show PySem.W.nsIn (dW w.params) mainGlobals "WRITING_WORDS" = some (some (.ref 43)) by kernel_rfl),rfl,fun μ H=>.ktup (vs:=[V.str "writes",V.str "raised"]) ⟨_,_,_,(show (dW w.params).lookup 43=some ⟨.type "tuple",none,.seq #[.str "writes" 223,.str "raised" 224] 0,#[]⟩ by kernel_rfl),rfl,rfl,rfl,(show 2<=sizeLine by decide),.cons ⟨_,rfl⟩ (.cons ⟨_,rfl⟩ (.nil))⟩ (.cons (.str _) (.cons (.str _) (.nil)))⟩⟩
end K14
open PySem PySem.W PyProof.Rows
set_option maxRecDepth 100000 in
set_option maxHeartbeats 0 in
theorem PySem.Challenge.cw_manyreaders_k14_up_down_and_leave_holds : PySem.Challenge.rw_manyreaders_k14_up_down_and_leave.Holds := by
 rw [K14.lw_eq];w_on;o_law;o_head (kHook K14.dW K14.kads (fun _=>by kernel_rfl));(case hw=>w_witness2)
 exact K14.walk (l:=K14.lw) rfl rfl rfl (fun w h Y=>PySem.W.kIn_of Y) K14.JX fun w mg h KX G=>K14.txt KX G

end
