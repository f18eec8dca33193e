import PyProof.Rows.All
import Wide.All
import OpenK.AllK
import Wide.FinOn
import Lean
import PyProof.EqAt
import PyProof.EqKinds
import PyProof.TupleCall
import PySem.Challenge.RW_manyreaders_k15_stops_and_ticks
noncomputable section
set_option Elab.async false
set_option linter.all false
set_option maxRecDepth 100000
namespace L2
open PySem PySem.Spec PyProof.Rows
abbrev bB:=Sum Int Str
noncomputable def wm:bB->Value->Bool
 | .inl k,v=>Value.isInt k v
 | .inr x,v=>Value.isStrOf x v
noncomputable def keyH(w:World):bB->Int
 | .inl k=>hashInt k
 | .inr x=>hashStr w x
theorem cX:∀ {k:bB} {v:Value},wm k v=true->(∃ i t,k=Sum.inl i/\v=Value.int i t)\/(∃ x t,k=Sum.inr x/\v=Value.str x t)
 | .inl i,v,h=>by
  obtain⟨t,e⟩:=Value.isInt_shape (k:=i) (v:=v) h
  exact .inl ⟨i,t,rfl,e⟩
 | .inr x,v,h=>by
  obtain⟨t,e⟩:=Value.isStrOf_shape (x:=x) (v:=v) h
  exact .inr ⟨x,t,rfl,e⟩
theorem GF(i:Int)(t:Tok):wm (.inl i) (.int i t)=true:=by simp [wm,Value.isInt]
theorem GE(x:Str)(t:Tok):wm (.inr x) (.str x t)=true:=by simp [wm,Value.isStrOf]
theorem RT(a b:Int):decide ((Sum.inl a:bB)=Sum.inl b)=(a == b):=by
 by_cases e:a=b
 ·subst e;simp
 ·have h:¬ (Sum.inl a:bB)=Sum.inl b:=fun q=>e (Sum.inl.inj q)
  rw [decide_eq_false h]
  exact(beq_eq_false_iff_ne.mpr e).symm
theorem RQ(a b:Str):decide ((Sum.inr a:bB)=Sum.inr b)=decide (a=b):=by
 by_cases e:a=b
 ·subst e;simp
 ·have h:¬ (Sum.inr a:bB)=Sum.inr b:=fun q=>e (Sum.inr.inj q)
  rw [decide_eq_false h,decide_eq_false e]
theorem RS(a:Int)(b:Str):decide ((Sum.inl a:bB)=Sum.inr b)=false:=decide_eq_false (fun q=>nomatch q)
theorem RR(a:Str)(b:Int):decide ((Sum.inr a:bB)=Sum.inl b)=false:=decide_eq_false (fun q=>nomatch q)
noncomputable def bZ(prog:Program)(w:World):PySem.KeyKind prog w bB where
 is:=wm
 hash:=keyH w
 inj:=fun v a b ha hb=>by
  rcases cX ha with ⟨i,t,rfl,rfl⟩ | ⟨x,t,rfl,rfl⟩
  ·rcases cX hb with ⟨j,u,rfl,e⟩ | ⟨y,u,rfl,e⟩
   ·injection e with e1 _;rw [e1]
   ·exact nomatch e
  ·rcases cX hb with ⟨j,u,rfl,e⟩ | ⟨y,u,rfl,e⟩
   ·exact nomatch e
   ·injection e with e1 _;rw [e1]
 byValue:=fun k v h=>by
  rcases cX h with ⟨i,t,rfl,rfl⟩ | ⟨x,t,rfl,rfl⟩ <;> rfl
 pyHash:=fun hv h=>by
  rcases cX hv with ⟨i,t,rfl,rfl⟩ | ⟨x,t,rfl,rfl⟩
  ·exact wpAny_pyHash_int h
  ·exact wpAny_pyHash_str h
 eqBool:=fun hu hv h=>by
  rcases cX hu with ⟨i,t,rfl,rfl⟩ | ⟨x,t,rfl,rfl⟩
  ·rcases cX hv with ⟨j,u,rfl,rfl⟩ | ⟨y,u,rfl,rfl⟩
   ·rw [RT] at h;exact wpAny_eqBool_int h
   ·rw [RS] at h;exact SeqAt.EqAt.int_str i t y u _ _ _ _ h
  ·rcases cX hv with ⟨j,u,rfl,rfl⟩ | ⟨y,u,rfl,rfl⟩
   ·rw [RR] at h;exact SeqAt.EqAt.str_int x t j u _ _ _ _ h
   ·rw [RQ] at h;exact wpAny_eqBool_str h
 «strs»:=fun k x t v h=>by
  rcases cX h with ⟨i,u,rfl,e⟩ | ⟨y,u,rfl,e⟩
  ·exact nomatch e
  ·injection e with e1 _
   subst e1
   cases v <;> rfl
theorem Ae(prog:Program)(w:World)(i:Int)(t:Tok):(bZ prog w).is (.inl i) (.int i t)=true:=GF i t
theorem Ad(prog:Program)(w:World)(x:Str)(t:Tok):(bZ prog w).is (.inr x) (.str x t)=true:=GE x t
end L2
namespace L2
open PySem PySem.Spec PyProof.Rows
inductive V where
 | non | bl (b:Bool) | int (i:Int) | str (x:Str) | byt (b:Array UInt8) | flt (b:UInt64) | ref (a:Addr) | ty (n:String)
 deriving DecidableEq
def RelV:V->Value->Prop
 | .non,u=>u=Value.none
 | .bl b,u=>u=Value.bool b
 | .int i,u=>∃ t,u=Value.int i t
 | .str x,u=>∃ t,u=Value.str x t
 | .byt b,u=>∃ t,u=Value.bytes b t
 | .flt b,u=>∃ t,u=Value.float b t
 | .ref a,u=>u=Value.ref a
 | .ty n,u=>u=Value.type n
abbrev Vals:List V->List Value->Prop:=Paired RelV
theorem Vals.length{xs:List V}{us:List Value}(r:Vals xs us):xs.length=us.length:=Paired.length r
theorem Vals.get:∀ {xs:List V} {us:List Value} {i:Nat} {x:V},Vals xs us->xs[i]?=some x->∃ u,us[i]?=some u/\RelV x u
 | _,_,_,_,.nil,e=>by simp at e
 | _,_,0,_,.cons r _,e=>by simp at e;subst e;exact⟨_,rfl,r⟩
 | _,_,i+1,x,.cons _ t,e=>by
  obtain⟨u,h1,h2⟩:=Vals.get (i:=i) (x:=x) t (by simpa using e)
  exact⟨u,by simpa using h1,h2⟩
theorem Vals.set{x:V}{u:Value}(r:RelV x u):∀ {xs:List V} {us:List Value} (i:Nat),Vals xs us->Vals (xs.set i x) (us.set i u)
 | _,_,_,.nil=>.nil
 | _,_,0,.cons _ t=>.cons r t
 | _,_,i+1,.cons q t=>.cons q (Vals.set r i t)
theorem Vals.append:∀ {xs ys:List V} {us ws:List Value},Vals xs us->Vals ys ws->Vals (xs++ys) (us++ws)
 | _,_,_,_,.nil,s=>s
 | _,_,_,_,.cons r t,s=>.cons r (Vals.append t s)
theorem Vals.take:∀ {xs:List V} {us:List Value} (n:Nat),Vals xs us->Vals (xs.take n) (us.take n)
 | _,_,0,_=>.nil
 | _,_,_+1,.nil=>.nil
 | _,_,n+1,.cons r t=>.cons r (Vals.take n t)
theorem Vals.drop:∀ {xs:List V} {us:List Value} (n:Nat),Vals xs us->Vals (xs.drop n) (us.drop n)
 | _,_,0,r=>r
 | _,_,_+1,.nil=>.nil
 | _,_,n+1,.cons _ t=>Vals.drop n t
def RelO:Option V->Option Value->Prop
 | some v,some u=>RelV v u
 | none,none=>True
 | _,_=>False
def KV{κ:Type}:List (κ×V)->List (κ×Value)->Prop:=Paired fun(p:κ×V) (q:κ×Value)=>p.1=q.1/\RelV p.2 q.2
noncomputable def kV:bB->V
 | .inl i=>.int i
 | .inr x=>.str x
inductive HO where
 | lst (xs:List V)
 | tup (xs:List V)
 | dK (kvs:List (bB×V)) | dT (kvs:List (List bB×V))
 | set (S:Int->Bool) (n:Nat)
 | ins (C dx:Addr) (fs:List (Str×V))
 | own (x:Addr)
 | xd (fs:List (Str×V))
 | met (f x:Addr)
 | rng (lo hi:Int)
 | frz (o:Obj) (u:HO)
 | tbl (ps:Array Value)
 | ext (φ:Heap->Prop)
abbrev Hp:=Addr->Option HO
noncomputable def upd(H:Hp)(a:Addr)(o:HO):Hp:=fun b=>if b=a then some o else H b
theorem bw{H:Hp}{a:Addr}{o:HO}:upd H a o a=some o:=by unfold upd;rw [if_pos rfl]
theorem bm{H:Hp}{a b:Addr}{o:HO}(h:b≠a):upd H a o b=H b:=by unfold upd;rw [if_neg h]
theorem cw{H:Hp}{a b:Addr}{o:HO}(h:H a=some o)(h':H b=none):a≠b:=by
 intro e;subst e;rw [h] at h';cases h'
def IsTupN(h:Heap)(a:Addr)(items:Array Value):Prop:=∃ o,h.get? a=some o/\o.cls=.type "tuple"/\(∃ n,o.data=.seq items n)/\o.dict=none
theorem IsTupN.up{h:Heap}{a:Addr}{items:Array Value}(x:IsTupN h a items):IsTup h a items:=by
 obtain⟨o,e,c,d,_⟩:=x
 exact⟨o,e,c,d⟩
theorem IsTupN.lt{h:Heap}{a:Addr}{items:Array Value}(x:IsTupN h a items):a<h.objs.size:=x.up.lt
theorem IsTupN.new(h:Heap)(items:Array Value):IsTupN (h.push { cls:=.type "tuple",data:=.seq items }) h.objs.size items:=⟨_,Heap.get?_push_size _ rfl,rfl,⟨_,rfl⟩,rfl⟩
section
variable(P:Program)(w:World)
def ObjOk(H:Hp)(h:Heap)(a:Addr):HO->Prop
 | .lst xs=>xs.length<=sizeLine/\∃ (its:List Value) (n:Nat),Vals xs its/\h.get? a=some { cls:=.type "list",data:=.seq its.toArray n }
 | .tup xs=>xs.length<=sizeLine/\∃ its:List Value,Vals xs its/\IsTupN h a its.toArray
 | .dK kvs=>kvs.length<=sizeLine/\(a == sysModules)=false/\∃ vs,KV kvs vs/\h.DictOf (bZ P w) a vs
 | .dT kvs=>kvs.length<=sizeLine/\(a == sysModules)=false/\∃ xs:List (List bB×Addr×Value),
   Paired (fun(p:List bB×V) (q:List bB×Addr×Value)=>p.1=q.1/\H q.2.1=some (.tup (p.1.map kV))/\RelV p.2 q.2.2) kvs xs /\
   ∃ o es ep,h.get? a=some o/\o.ExactDict/\o.data=.dict es ep/\es.toList=xs.map (entryOfKey (tupleKind (bZ P w)))/\(xs.map (·.1)).Nodup
 | .set S n=>h.SetOf (intKind P w) a S n
 | .ins C dx fs=>H dx=some (.own a)/\fs.length<=1000/\dx≠a/\h.get? a=some (PySem.W.instObj C dx) /\
   ∃ mA,h.Ns1 dx mA/\(∀ f,RelO (fs.lookup f) (mA f))/\PySem.Within mA (fs.map (·.1))
 | .own _=>∃ o,h.get? a=some o
 | .xd fs=>∃ mA,h.Ns1 a mA/\∀ f,RelO (fs.lookup f) (mA f)
 | .rng lo hi=>∃ t u v,h.get? a=some { cls:=.type "range",data:=.fields #[.int lo t,.int hi u,.int 1 v] }
 | .frz o u=>h.get? a=some o/\ObjOk H h a u
 | .tbl ps=>h.get? a=some { cls:=.none,data:=.fields ps }
 | .met f x=>h.get? a=some (PySem.W.methodObj (.ref f) (.ref x))
 | .ext φ=>φ h/\(∃ o,h.get? a=some o)/\∀ h1 h2:Heap,φ h1->(∀ o,h1.get? a=some o->h2.get? a=some o)->φ h2
def HOk(H:Hp)(h:Heap):Prop:=∀ a o,H a=some o->ObjOk P w H h a o
end
section
variable{P:Program}{w:World}{H H':Hp}{h h':Heap}{a:Addr}{o:HO}
theorem ObjOk.lt(x:ObjOk P w H h a o):a<h.objs.size:=by
 cases o with
 | lst xs=>obtain⟨_,_,_,_,e⟩:=x;exact Heap.lt_size e
 | tup xs=>obtain⟨_,_,_,p⟩:=x;exact p.lt
 | dK kvs=>obtain⟨_,_,_,_,o,_,_,e,_⟩:=x;exact Heap.lt_size e
 | dT kvs=>obtain⟨_,_,_,_,o,_,_,e,_⟩:=x;exact Heap.lt_size e
 | set S n=>obtain⟨o,_,_,_,e,_⟩:=x;exact Heap.lt_size e
 | ins C dx fs=>obtain⟨_,_,_,e,_⟩:=x;exact Heap.lt_size e
 | own y=>obtain⟨_,e⟩:=x;exact Heap.lt_size e
 | xd fs=>obtain⟨_,⟨_,_,_,e,_⟩,_⟩:=x;exact Heap.lt_size e
 | rng lo hi=>obtain⟨_,_,_,e⟩:=x;exact Heap.lt_size e
 | frz ob u=>obtain⟨e,_⟩:=x;exact Heap.lt_size e
 | tbl ps=>exact Heap.lt_size (show h.get? a=some _ from x)
 | met f y=>exact Heap.lt_size (show h.get? a=some _ from x)
 | ext φ=>obtain⟨_,⟨_,e⟩,_⟩:=x;exact Heap.lt_size e
theorem Paired.mapP{α β:Type}{F G:α->β->Prop}:∀ {l₁:List α} {l₂:List β},Paired F l₁ l₂->(∀ a b,F a b->G a b)->Paired G l₁ l₂
 | _,_,.nil,_=>.nil
 | _,_,.cons r t,f=>.cons (f _ _ r) (Paired.mapP t f)
theorem ObjOk.stay(x:ObjOk P w H h a o)(k:∀ b u,(b=a\/H b=some (.own a))->h.get? b=some u->h'.get? b=some u)
  (ho:∀ b,H b=some (.own a)->H' b=some (.own a)) (ht:∀ b xs,H b=some (.tup xs)->H' b=some (.tup xs)):ObjOk P w H' h' a o:=by
 induction o with
 | lst xs=>obtain⟨z,its,n,r,e⟩:=x;exact⟨z,its,n,r,k _ _ (.inl rfl) e⟩
 | tup xs=>obtain⟨z,its,r,ob,e,c⟩:=x;exact⟨z,its,r,ob,k _ _ (.inl rfl) e,c⟩
 | dK kvs=>obtain⟨z,y,vs,r,ob,es,ep,e,c⟩:=x;exact⟨z,y,vs,r,ob,es,ep,k _ _ (.inl rfl) e,c⟩
 | dT kvs=>
  obtain⟨z,y,xs,r,ob,es,ep,e,c⟩:=x
  exact⟨z,y,xs,Paired.mapP r fun p q z=>⟨z.1,ht _ _ z.2.1,z.2.2⟩,ob,es,ep,k _ _ (.inl rfl) e,c⟩
 | set S n=>obtain⟨ob,es,ep,t,e,c⟩:=x;exact⟨ob,es,ep,t,k _ _ (.inl rfl) e,c⟩
 | ins C dx fs=>
  obtain⟨d,z,ne,e,mA,⟨od,es,ep,e2,c⟩,r⟩:=x
  exact⟨ho _ d,z,ne,k _ _ (.inl rfl) e,mA,⟨od,es,ep,k _ _ (.inr d) e2,c⟩,r⟩
 | own y=>obtain⟨ob,e⟩:=x;exact⟨ob,k _ _ (.inl rfl) e⟩
 | xd fs=>obtain⟨mA,⟨od,es,ep,e,c⟩,r⟩:=x;exact⟨mA,⟨od,es,ep,k _ _ (.inl rfl) e,c⟩,r⟩
 | rng lo hi=>obtain⟨t,u,v,e⟩:=x;exact⟨t,u,v,k _ _ (.inl rfl) e⟩
 | frz ob u ih=>obtain⟨e,q⟩:=x;exact⟨k _ _ (.inl rfl) e,ih q⟩
 | tbl ps=>
  have e:h.get? a=some { cls:=.none,data:=.fields ps }:=x
  show h'.get? a=some { cls:=.none,data:=.fields ps }
  exact k a _ (.inl rfl) e
 | met f y=>
  have e:h.get? a=some (PySem.W.methodObj (.ref f) (.ref y)):=x
  show h'.get? a=some (PySem.W.methodObj (.ref f) (.ref y))
  exact k a _ (.inl rfl) e
 | ext φ=>obtain⟨p,⟨o,e⟩,st⟩:=x;exact⟨st _ _ p fun o q=>k _ _ (.inl rfl) q,⟨o,k _ _ (.inl rfl) e⟩,st⟩
theorem HOk.lt(x:HOk P w H h)(e:H a=some o):a<h.objs.size:=(x a o e).lt
theorem HOk.fresh(x:HOk P w H h)(e:h.objs.size<=a):H a=none:=by
 cases q:H a with
 | none=>rfl
 | some u=>exact absurd (Nat.lt_of_lt_of_le (x.lt q) e) (Nat.lt_irrefl _)
theorem HOk.kept(x:HOk P w H h)(k:∀ b u,h.get? b=some u->h'.get? b=some u):HOk P w H h':=fun a o e=>
 (x a o e).stay (fun b u _ q=>k b u q) (fun _ q=>q) fun _ _ q=>q
theorem HOk.laid(x:HOk P w H h)(k:∀ b u,h.get? b=some u->h'.get? b=some u)(hp:h.objs.size<=a)(new:ObjOk P w (upd H a o) h' a o):HOk P w (upd H a o) h':=fun b u e=>by
 have hn:=x.fresh hp
 by_cases hb:b=a
 ·subst hb;rw [bw] at e;cases e;exact new
 ·rw [bm hb] at e
  exact(x b u e).stay (fun c v _ q=>k c v q) (fun c q=>by rw [bm (cw q hn)];exact q) fun c xs q=>by rw [bm (cw q hn)];exact q
end
def Rd(H:Hp)(a:Addr)(u:HO):Prop:=H a=some u\/∃ o,H a=some (.frz o u)
theorem Rd.ok{P:Program}{w:World}{H:Hp}{h:Heap}{a:Addr}{u:HO}(r:Rd H a u)(x:HOk P w H h):ObjOk P w H h a u:=by
 rcases r with r | ⟨o,r⟩
 ·exact x a u r
 ·obtain⟨_,q⟩:=x a _ r
  exact q
def Mut:Option HO->Prop
 | some (.lst _)=>True
 | some (.dK _)=>True
 | some (.dT _)=>True
 | some (.set _ _)=>True
 | some (.ins _ _ _)=>True
 | some (.ext _)=>True
 | _=>False
section
variable{P:Program}{w:World}{H:Hp}{h h':Heap}{x e:Addr}{o':HO}
theorem HOk.write(ok:HOk P w H h)(mu:Mut (H x))(he:e=x\/H e=some (.own x))(k:∀ b u,b≠e->h.get? b=some u->h'.get? b=some u)(heo:∃ u,h'.get? e=some u)
  (new:ObjOk P w (upd H x o') h' x o'):HOk P w (upd H x o') h':=fun b u q=>by
 have nown:∀ c y,H c=some (.own y)->c≠x:=fun c y r z=>by subst z;rw [r] at mu;exact mu
 have ntup:∀ c xs,H c=some (.tup xs)->c≠x:=fun c xs r z=>by subst z;rw [r] at mu;exact mu
 by_cases hb:b=x
 ·subst hb;rw [bw] at q;cases q;exact new
 ·rw [bm hb] at q
  by_cases hbe:b=e
  ·have q':H b=some (.own x):=by
    rcases he with z | z
    ·exact absurd (hbe.trans z) hb
    ·rw [hbe];exact z
   rw [q] at q';cases q'
   obtain⟨v,hv⟩:=heo
   exact⟨v,by rw [hbe];exact hv⟩
  ·refine(ok b u q).stay (fun c v hc r=>k c v ?_ r) (fun c r=>by rw [bm (nown c b r)];exact r) fun c xs r=>by rw [bm (ntup c xs r)];exact r
   rcases hc with rfl | hc
   ·exact hbe
   ·rintro rfl
    rcases he with z | z
    ·exact nown c b hc z
    ·rw [hc] at z;cases z;exact hb rfl
end
structure Un(fs ex:List Addr)(H H':Hp)(h h':Heap):Prop where
 keep:∀ b o,h.get? b=some o->H b=none->b ∉ fs->b ∉ ex->h'.get? b=some o
 slot:∀ b o,h.get? b=some o->H b=none->b∈fs->b ∉ ex->∃ sl,h'.get? b=some { o with slots:=sl }
 free:∀ b o,h.get? b=some o->H b=none->b ∉ ex->H' b=none
 there:∀ b o,h.get? b=some o->b ∉ ex->∃ o',h'.get? b=some o'
 tups:∀ b xs,H b=some (.tup xs)->H' b=some (.tup xs)
 frzs:∀ b o u,H b=some (.frz o u)->H' b=some (.frz o u)
 tbls:∀ b ps,H b=some (.tbl ps)->∃ more,H' b=some (.tbl (ps++more))
section
variable{fs fs' ex ex':List Addr}{H H1 H2:Hp}{h h1 h2 h':Heap}{a x e:Addr}{o:HO}
theorem Un.any(u:Un fs ex H H1 h h1){b:Addr}{ob:Obj}(q:h.get? b=some ob)(n:H b=none)(hx:b ∉ ex):∃ sl,h1.get? b=some { ob with slots:=sl }:=by
 by_cases hb:b∈fs
 ·exact u.slot b ob q n hb hx
 ·exact⟨ob.slots,u.keep b ob q n hb hx⟩
theorem Un.kept(k:∀ b u,h.get? b=some u->h'.get? b=some u):Un fs ex H H h h':=
 ⟨fun b ob q _ _ _=>k b ob q,fun b ob q _ _ _=>⟨ob.slots,k b ob q⟩,fun _ _ _ n _=>n,fun b ob q _=>⟨ob,k b ob q⟩,fun _ _ q=>q,fun _ _ _ q=>q,fun _ ps q=>⟨#[],by rw [q];simp⟩⟩
theorem Un.refl:Un fs ex H H h h:=Un.kept fun _ _ q=>q
theorem Un.laid(k:∀ b u,h.get? b=some u->h'.get? b=some u)(hp:h.objs.size<=a)(hn:H a=none):Un fs ex H (upd H a o) h h' where
 keep:=fun b u q _ _ _=>k b u q
 slot:=fun b u q _ _ _=>⟨u.slots,k b u q⟩
 free:=fun b u q n _=>by rw [bm (Nat.ne_of_lt (Nat.lt_of_lt_of_le (Heap.lt_size q) hp))];exact n
 there:=fun b u q _=>⟨u,k b u q⟩
 tups:=fun b xs q=>by rw [bm (cw q hn)];exact q
 frzs:=fun b u xs q=>by rw [bm (cw q hn)];exact q
 tbls:=fun b ps q=>⟨#[],by rw [bm (cw q hn),q];simp⟩
theorem Un.write(mu:Mut (H x))(he:e=x\/H e=some (.own x))(k:∀ b u,b≠e->h.get? b=some u->h'.get? b=some u)(heo:∃ u,h'.get? e=some u):Un fs ex H (upd H x o) h h':=by
 have hx:∀ b,H b=none->b≠x:=fun b n z=>by subst z;rw [n] at mu;exact mu
 have hb:∀ b,H b=none->b≠e:=fun b n z=>by
  subst z
  rcases he with r | r
  ·exact hx b n r
  ·rw [n] at r;cases r
 have hm:∀ b u,H b=some u->¬ Mut (some u)->b≠x:=fun b u q nm z=>by subst z;rw [q] at mu;exact nm mu
 refine⟨fun b u q n _ _=>k b u (hb b n) q,fun b u q n _ _=>⟨u.slots,k b u (hb b n) q⟩,fun b u q n _=>by rw [bm (hx b n)];exact n,fun b u q _=>?_,
  fun b xs q=>by rw [bm (hm b _ q fun z=>z)];exact q,fun b u xs q=>by rw [bm (hm b _ q fun z=>z)];exact q,fun b ps q=>⟨#[],by rw [bm (hm b _ q fun z=>z),q];simp⟩⟩
 by_cases hbe:b=e
 ·subst hbe;exact heo
 ·exact⟨u,k b u hbe q⟩
end
def trk(h:Heap)(H:Hp):List Addr:=(List.range h.objs.size).filter fun a=>(H a).isSome
noncomputable def yC(h:Heap)(H:Hp):Heap:=PySem.W.hideAll h (trk h H)
theorem GW(h:Heap)(H:Hp):(yC h H).objs.size=h.objs.size:=PySem.W.hideAll_size _ _
theorem Ky{h:Heap}{H:Hp}{b:Addr}{o:Obj}(e:h.get? b=some o)(n:H b=none):(yC h H).get? b=some o:=
 PySem.W.hideAll_get _ e fun hm=>by
  have q:(H b).isSome=true:=(List.mem_filter.mp hm).2
  rw [n] at q;simp at q
theorem NJ{h:Heap}{H:Hp}{b:Addr}{o:Obj}(e:(yC h H).get? b=some o):h.get? b=some o/\H b=none:=by
 have e':h.get? b=some o:=PySem.W.of_hideAll (trk h H) e
 refine⟨e',?_⟩
 cases q:H b with
 | none=>rfl
 | some x=>
  have hm:b∈trk h H:=List.mem_filter.mpr ⟨List.mem_range.mpr (Heap.lt_size e'),by simp [q]⟩
  have z:(yC h H).get? b=none:=PySem.W.hideAll_none (trk h H) hm
  rw [z] at e;cases e
end L2
namespace L2
open PySem PySem.Spec PyProof.Rows
structure Mod(K:PySem.W.Frag)(mg:Str->Option Value)(base:Heap):Prop where
 kin:K.In base
 glob:base.Ns mainGlobals mg
 blt:∃ mb,base.Ns builtinsNs mb/\∀ x:Str,x ≠ "__name__"->mb x=bootBuiltins x
 nolimit:base.NoLimit
structure Cx where
 prog:Program
 w:World
 K:PySem.W.Frag
 mg:Str->Option Value
 base:Heap
 A:Around
 N:List Str
 s₀:Shared
 H₀:Hp
 env:Env
 outer:List Env
 stack:List Env
 ex:List Addr
 fn:Str->Bool
 calm:Bool
 pn:List (Addr×Obj)
 xe:Value->Shared->Prop
def Ig(l:List Env):List Addr:=l.filterMap (·.frame)
abbrev Cx.fs(X:Cx):List Addr:=Ig X.outer
def TY(sc:Scope)(x:Str):Prop:=sc.names.lookup x=some .local\/sc.names.lookup x=some .cell\/sc.names.lookup x=some .free
def Mt(sc:Scope)(x:Str):Prop:=sc.names.lookup x=some .local\/sc.names.lookup x=some .cell
def Look(env:Env)(h:Heap)(m:Str->Option Value)(x:Str)(u:Value):Prop:=
 (env.kindOf x=some .local/\m x=some u)\/((env.kindOf x=some .cell\/env.kindOf x=some .free)/\∃ c,env.cells.lookup x=some c/\h.IsCell c (some u))
structure Cx.Ok(X:Cx):Prop where
 mod:Mod X.K X.mg X.base
 kind:X.env.scope.kind=.function
 glob:X.env.globals=mainGlobals
 blt:X.env.builtins=builtinsNs
 above:X.s₀.heap.objs.size<=X.env.locals
 inj:∀ x y c,X.env.cells.lookup x=some c->X.env.cells.lookup y=some c->x=y
 has:∀ x,(X.env.kindOf x=some .cell\/X.env.kindOf x=some .free)->∃ c,X.env.cells.lookup x=some c
 cab:∀ x c,X.fn x=true->X.env.cells.lookup x=some c->X.s₀.heap.objs.size<=c
 hd:X.calm=true->X.A.handled=none
 frames:X.A.frames=some X.stack
 stk:X.stack=X.outer\/(X.stack=X.env::X.outer/\X.env.frame=some X.env.locals)
 exf:∀ b∈X.ex,b≠X.env.locals/\∀ x c,X.env.cells.lookup x=some c->c≠b
 bs:∀ b o,X.base.get? b=some o->X.s₀.heap.get? b=some o/\X.H₀ b=none
 bsz:X.base.objs.size<=X.s₀.heap.objs.size
 noex:∀ b o,X.base.get? b=some o->b ∉ X.ex
 exfs:∀ b∈X.ex,b ∉ X.fs
 funs:X.s₀.heap.FunFrames X.base X.outer
 frf:∀ b∈X.fs,X.H₀ b=none
structure Inv(X:Cx)(pins:List (Addr×Obj))(σ:List (Option V))(H:Hp)(s:Shared):Prop where
 ok:X.Ok
 os:s.os=X.s₀.os
 bare:AllBare s.gens
 base:Un X.fs X.ex X.H₀ H X.s₀.heap s.heap
 loc:∃ m,s.heap.Ns X.env.locals m/\∀ (i:Nat) (x:Str) (v:V),X.N[i]?=some x->σ[i]?=some (some v)->TY X.env.scope x->∃ u,RelV v u/\Look X.env s.heap m x u
 cell:∀ x c,X.env.cells.lookup x=some c->∃ v,s.heap.IsCell c v
 free:H X.env.locals=none
 freeC:∀ x c,X.env.cells.lookup x=some c->H c=none
 pin:∀ p∈X.pn++pins,s.heap.get? p.1=some p.2/\H p.1=none/\p.1≠X.env.locals/\p.1 ∉ X.fs/\∀ v,p.2.data≠.cell v
 hok:HOk X.prog X.w H s.heap
 len:σ.length=X.N.length
section
variable{X:Cx}{pins:List (Addr×Obj)}{σ:List (Option V)}{H H':Hp}{s:Shared}{h':Heap}
theorem Cx.Ok.nofr(ok:X.Ok){b:Addr}{o:Obj}(e:X.base.get? b=some o):b ∉ X.fs:=fun hb=>by
 have:=(ok.funs.mem hb).1
 rw [e] at this;cases this
theorem Inv.bs(I:Inv X pins σ H s):∀ b o,X.base.get? b=some o->s.heap.get? b=some o/\H b=none:=fun b o e=>
 ⟨I.base.keep b o (I.ok.bs b o e).1 (I.ok.bs b o e).2 (I.ok.nofr e) (I.ok.noex b o e),I.base.free b o (I.ok.bs b o e).1 (I.ok.bs b o e).2 (I.ok.noex b o e)⟩
theorem Inv.bk(I:Inv X pins σ H s):∀ b o,X.base.get? b=some o->s.heap.get? b=some o:=fun b o e=>(I.bs b o e).1
theorem Inv.mod(I:Inv X pins σ H s):Mod X.K X.mg X.base:=I.ok.mod
theorem Inv.kIn(I:Inv X pins σ H s):X.K.In s.heap:=I.ok.mod.kin.keeps I.bk
theorem Inv.lt(I:Inv X pins σ H s):X.env.locals<s.heap.objs.size:=let ⟨_,hn,_⟩:=I.loc;hn.lt
theorem Inv.sz(I:Inv X pins σ H s):X.s₀.heap.objs.size<=s.heap.objs.size:=Nat.le_trans I.ok.above (Nat.le_of_lt I.lt)
theorem Inv.nofs(I:Inv X pins σ H s){a:Addr}(h:s.heap.objs.size<=a):a ∉ X.fs:=fun hb=>by
 obtain⟨_,o,ho,_⟩:=I.ok.funs.mem hb
 exact absurd (Nat.lt_of_lt_of_le (Heap.lt_size ho) (Nat.le_trans I.sz h)) (Nat.lt_irrefl _)
theorem Inv.cne(I:Inv X pins σ H s):∀ x c,X.env.cells.lookup x=some c->c≠X.env.locals:=fun x c e z=>by
 obtain⟨v,o,ho,hd⟩:=I.cell x c e
 obtain⟨m,⟨o',es,ep,ho',hd',_⟩,_⟩:=I.loc
 rw [z,ho'] at ho;cases ho;rw [hd'] at hd;cases hd
theorem Inv.funs(I:Inv X pins σ H s):s.heap.FunFrames X.base X.outer:=by
 have all:∀ (l:List Env),(∀ b∈Ig l,b∈X.fs)->X.s₀.heap.FunFrames X.base l->s.heap.FunFrames X.base l:=by
  intro l
  induction l with
  | nil=>intro _ _;trivial
  | cons env r ih=>
   intro hs hl
   obtain⟨hk,⟨L,o,hf,hn,ho,hd⟩,hr⟩:=hl
   have hL:L∈X.fs:=hs L (by unfold Ig;rw [List.filterMap_cons,hf];exact List.mem_cons_self)
   obtain⟨sl,e⟩:=I.base.slot L o ho (I.ok.frf L hL) hL fun z=>I.ok.exfs L z hL
   exact⟨hk,⟨L,_,hf,hn,e,hd⟩,ih (fun b hb=>hs b (by unfold Ig;rw [List.filterMap_cons,hf];exact List.mem_cons_of_mem _ hb)) hr⟩
 exact all X.outer (fun _ hb=>hb) I.ok.funs
theorem Inv.stack(I:Inv X pins σ H s):s.heap.FunFrames X.base X.stack:=by
 rcases I.ok.stk with e | ⟨e,hf⟩
 ·rw [e];exact I.funs
 ·rw [e]
  obtain⟨m,hn,_⟩:=I.loc
  refine .cons (by rw [I.ok.kind];decide) hf hn ?_ I.funs
  exact Heap.get?_none_of_le (Nat.le_trans I.ok.bsz I.ok.above)
theorem Inv.stkSub(I:Inv X pins σ H s):∀ b∈Ig X.stack,b∈X.env.locals::X.fs:=fun b hb=>by
 rcases I.ok.stk with e | ⟨e,hf⟩
 ·rw [e] at hb;exact List.mem_cons_of_mem _ hb
 ·rw [e] at hb
  unfold Ig at hb
  rw [List.filterMap_cons,hf] at hb
  exact hb
theorem Inv.stkFree(I:Inv X pins σ H s):∀ b∈Ig X.stack,H b=none:=fun b hb=>by
 rcases List.mem_cons.mp (I.stkSub b hb) with e | hb
 ·rw [e];exact I.free
 ·obtain⟨_,o,ho,_⟩:=I.ok.funs.mem hb
  exact I.base.free b o ho (I.ok.frf b hb) fun z=>I.ok.exfs b z hb
theorem Inv.step{g':Array GenState}{t':Nat}{d':Drawn}{ch:List Addr}(I:Inv X pins σ H s)
  (hch:∀ b∈ch,(b∈X.ex\/X.s₀.heap.objs.size<=b)/\b≠X.env.locals/\(∀ x c,X.env.cells.lookup x=some c->c≠b)/\∀ p∈X.pn++pins,p.1≠b)
  (keep:∀ b o,b≠X.env.locals->b ∉ X.fs->b ∉ ch->s.heap.get? b=some o->H b=none->h'.get? b=some o)
  (slot:∀ b o,b≠X.env.locals->b∈X.fs->b ∉ ch->s.heap.get? b=some o->H b=none->∃ sl,h'.get? b=some { o with slots:=sl }) (free:∀ b o,b ∉ ch->s.heap.get? b=some o->H b=none->H' b=none)
  (there:∀ b o,b ∉ ch->s.heap.get? b=some o->∃ o',h'.get? b=some o')
  (tups:∀ b xs,H b=some (.tup xs)->H' b=some (.tup xs)) (frzs:∀ b o u,H b=some (.frz o u)->H' b=some (.frz o u)) (tbls:∀ b ps,H b=some (.tbl ps)->∃ more,H' b=some (.tbl (ps++more)))
  (ns:∀ m,s.heap.Ns X.env.locals m->h'.Ns X.env.locals m) (hok:HOk X.prog X.w H' h') (hg:AllBare g') :
  Inv X pins σ H' { s with heap:=h',gens:=g',drawn:=d',toks:=t' }:=by
 have neL:∀ b o,X.s₀.heap.get? b=some o->b≠X.env.locals:=fun b o e=>Nat.ne_of_lt (Nat.lt_of_lt_of_le (Heap.lt_size e) I.ok.above)
 have neC:∀ b o,X.s₀.heap.get? b=some o->b ∉ X.ex->b ∉ ch:=fun b o e hx hb=>by
  rcases(hch b hb).1 with z | z
  ·exact hx z
  ·exact absurd (Nat.lt_of_lt_of_le (Heap.lt_size e) z) (Nat.lt_irrefl _)
 have cellK:∀ x c,X.env.cells.lookup x=some c->∀ v,s.heap.IsCell c v->h'.IsCell c v:=fun x c e v ⟨o,ho,hd⟩=>by
  have nch:c ∉ ch:=fun z=>(hch c z).2.2.1 x c e rfl
  by_cases hc:c∈X.fs
  ·obtain⟨sl,q⟩:=slot c o (I.cne x c e) hc nch ho (I.freeC x c e)
   exact⟨_,q,hd⟩
  ·exact⟨o,keep c o (I.cne x c e) hc nch ho (I.freeC x c e),hd⟩
 refine⟨I.ok,I.os,hg,⟨fun b o e n hb hx=>?_,fun b o e n hb hx=>?_,fun b o e n hx=>?_,fun b o e hx=>?_,fun b xs e=>tups b xs (I.base.tups b xs e),fun b o xs e=>frzs b o xs (I.base.frzs b o xs e),fun b ps e=>?_⟩,?_,fun x c e=>?_,?_,fun x c e=>?_,fun p hp=>?_,hok,I.len⟩
 ·exact keep b o (neL b o e) hb (neC b o e hx) (I.base.keep b o e n hb hx) (I.base.free b o e n hx)
 ·obtain⟨sl,e1⟩:=I.base.slot b o e n hb hx
  obtain⟨sl',e2⟩:=slot b _ (neL b o e) hb (neC b o e hx) e1 (I.base.free b o e n hx)
  exact⟨sl',e2⟩
 ·obtain⟨o',e1⟩:=I.base.there b o e hx
  exact free b o' (neC b o e hx) e1 (I.base.free b o e n hx)
 ·obtain⟨o',e1⟩:=I.base.there b o e hx
  exact there b o' (neC b o e hx) e1
 ·obtain⟨m1,e1⟩:=I.base.tbls b ps e
  obtain⟨m2,e2⟩:=tbls b _ e1
  exact⟨m1++m2,by rw [e2,Array.append_assoc]⟩
 ·obtain⟨m,hn,hl⟩:=I.loc
  refine⟨m,ns m hn,fun i x v e1 e2 e3=>?_⟩
  obtain⟨u,r,l⟩:=hl i x v e1 e2 e3
  refine⟨u,r,?_⟩
  rcases l with l | ⟨k,c,e,z⟩
  ·exact .inl l
  ·exact .inr ⟨k,c,e,cellK x c e _ z⟩
 ·obtain⟨v,z⟩:=I.cell x c e
  exact⟨v,cellK x c e v z⟩
 ·obtain⟨m,⟨o,_,_,ho,_⟩,_⟩:=I.loc
  exact free _ o (fun z=>(hch _ z).2.1 rfl) ho I.free
 ·obtain⟨v,o,ho,hd⟩:=I.cell x c e
  exact free c o (fun z=>(hch c z).2.2.1 x c e rfl) ho (I.freeC x c e)
 ·obtain⟨e,n,ne,nf,d⟩:=I.pin p hp
  have nch:p.1 ∉ ch:=fun z=>(hch p.1 z).2.2.2 p hp rfl
  exact⟨keep p.1 p.2 ne nf nch e n,free p.1 p.2 nch e n,ne,nf,d⟩
theorem Inv.un{t':Nat}(I:Inv X pins σ H s)(u:Un X.fs [] H H' s.heap h')(hok:HOk X.prog X.w H' h'):Inv X pins σ H' { s with heap:=h',toks:=t' }:=by
 obtain⟨m,⟨o,es,ep,ho,r⟩,_⟩:=id I.loc
 obtain⟨sl,hL⟩:=u.any ho I.free (by simp)
 exact I.step (g':=s.gens) (d':=s.drawn) (ch:=[]) (fun _ z=>nomatch z) (fun b o _ hb _ e n=>u.keep b o e n hb (by simp)) (fun b o _ hb _ e n=>u.slot b o e n hb (by simp)) (fun b o _ e n=>u.free b o e n (by simp)) (fun b o _ e=>u.there b o e (by simp)) u.tups u.frzs u.tbls (fun m' hm=>by
  obtain⟨o',es',ep',ho',r'⟩:=hm
  rw [ho] at ho';cases ho'
  exact⟨_,es',ep',hL,r'⟩) hok I.bare
theorem Inv.call{g':Array GenState}{t':Nat}{d':Drawn}{ch:List Addr}(I:Inv X pins σ H s)(u:Un (Ig X.stack) ch H H' s.heap h')(hok:HOk X.prog X.w H' h')(hg:AllBare g')
  (hch:∀ b∈ch,(b∈X.ex\/X.s₀.heap.objs.size<=b)/\b≠X.env.locals/\(∀ x c,X.env.cells.lookup x=some c->c≠b)/\∀ p∈X.pn++pins,p.1≠b) :
  Inv X pins σ H' { s with heap:=h',gens:=g',drawn:=d',toks:=t' }:=by
 obtain⟨m,⟨o,es,ep,ho,r⟩,_⟩:=id I.loc
 obtain⟨sl,hL⟩:=u.any ho I.free fun z=>(hch _ z).2.1 rfl
 exact I.step (ch:=ch) hch (fun b o hL hb hc e n=>u.keep b o e n (fun z=>(List.mem_cons.mp (I.stkSub b z)).elim hL hb) hc) (fun b o _ _ hc e n=>u.any e n hc) (fun b o hc e n=>u.free b o e n hc) (fun b o hc e=>u.there b o e hc) u.tups u.frzs u.tbls (fun m' hm=>by
  obtain⟨o',es',ep',ho',r'⟩:=hm
  rw [ho] at ho';cases ho'
  exact⟨_,es',ep',hL,r'⟩) hok hg
theorem Inv.turned{t':Nat}{it:Addr}(I:Inv X pins σ H s)(k:∀ b o,b≠it->s.heap.get? b=some o->h'.get? b=some o)(hn:H it=none)(hL:it≠X.env.locals)
  (h1:it∈X.ex\/X.s₀.heap.objs.size<=it) (h2:∀ x c,X.env.cells.lookup x=some c->c≠it) (h3:∀ p∈X.pn++pins,p.1≠it):Inv X pins σ H { s with heap:=h',toks:=t' }:=by
 have nit:∀ b u,H b=some u->b≠it:=fun b u e z=>by rw [z,hn] at e;cases e
 refine I.step (g':=s.gens) (d':=s.drawn) (ch:=[it]) (fun b hb=>?_) (fun b o _ _ hc e _=>k b o (fun z=>hc (by simp [z])) e) (fun b o _ _ hc e _=>⟨o.slots,k b o (fun z=>hc (by simp [z])) e⟩) (fun _ _ _ _ n=>n)
  (fun b o hc e=>⟨o,k b o (fun z=>hc (by simp [z])) e⟩) (fun _ _ e=>e) (fun _ _ _ e=>e) (fun b ps e=>⟨#[],by rw [e];simp⟩) (fun m hm=>?_) (fun b u e=>?_) I.bare
 ·have e:b=it:=by simpa using hb
  subst e
  exact⟨h1,hL,h2,h3⟩
 ·obtain⟨o,es,ep,ho,r⟩:=hm
  exact⟨o,es,ep,k _ o (Ne.symm hL) ho,r⟩
 ·refine(I.hok b u e).stay (fun c v hc q=>k c v ?_ q) (fun _ q=>q) fun _ _ q=>q
  rcases hc with z | z
  ·rw [z];exact nit b u e
  ·exact nit c _ z
theorem Inv.tok(I:Inv X pins σ H s)(t:Nat):Inv X pins σ H { s with toks:=t }:=I.un (h':=s.heap) (t':=t) Un.refl I.hok
theorem Inv.kept{t':Nat}(I:Inv X pins σ H s)(k:∀ b u,s.heap.get? b=some u->h'.get? b=some u):Inv X pins σ H { s with heap:=h',toks:=t' }:=I.un (Un.kept k) (I.hok.kept k)
theorem Inv.laid{a:Addr}{o:HO}{t':Nat}(I:Inv X pins σ H s)(k:∀ b u,s.heap.get? b=some u->h'.get? b=some u)(hp:s.heap.objs.size<=a)(new:ObjOk X.prog X.w (upd H a o) h' a o) :
  Inv X pins σ (upd H a o) { s with heap:=h',toks:=t' }:=I.un (Un.laid k hp (I.hok.fresh hp)) (I.hok.laid k hp new)
theorem Inv.write{x e:Addr}{o:HO}{t':Nat}(I:Inv X pins σ H s)(mu:Mut (H x))(he:e=x\/H e=some (.own x))(k:∀ b u,b≠e->s.heap.get? b=some u->h'.get? b=some u)(heo:∃ u,h'.get? e=some u)
  (new:ObjOk X.prog X.w (upd H x o) h' x o):Inv X pins σ (upd H x o) { s with heap:=h',toks:=t' }:=I.un (Un.write mu he k heo) (I.hok.write mu he k heo new)
theorem Inv.pins_of{pins':List (Addr×Obj)}(I:Inv X pins σ H s)(h:∀ p∈pins',s.heap.get? p.1=some p.2/\H p.1=none/\p.1≠X.env.locals/\p.1 ∉ X.fs/\∀ v,p.2.data≠.cell v):Inv X pins' σ H s:=
 ⟨I.ok,I.os,I.bare,I.base,I.loc,I.cell,I.free,I.freeC,fun p hp=>(List.mem_append.mp hp).elim (fun z=>I.pin p (List.mem_append_left _ z)) (h p),I.hok,I.len⟩
theorem Aa{N:List Str}(hN:N.Nodup){i j:Nat}{x:Str}(a:N[i]?=some x)(b:N[j]?=some x):i=j:=by
 obtain⟨h1,e1⟩:=List.getElem?_eq_some_iff.mp a
 obtain⟨h2,e2⟩:=List.getElem?_eq_some_iff.mp b
 exact(List.getElem_inj hN).mp (e1.trans e2.symm)
theorem vI{M:Model}{A:Around}{E:Value->Shared->Prop}{i:Nat}{x:Str}{v:V}{u:Value}{Q:Unit->Shared->Prop}(I:Inv X pins σ H s)(hN:X.N.Nodup)(hi:X.N[i]?=some x)(hx:Mt X.env.scope x)(r:RelV v u)
  (h:∀ s',Inv X pins (σ.set i (some v)) H s'->(∃ a,Heap.SameBut a s.heap s'.heap/\(a=X.env.locals\/X.env.cells.lookup x=some a))->Q () s') (hf:X.fn x=true\/X.env.scope.names.lookup x=some .local:=by first | exact .inl rfl | exact .inr rfl | assumption):wpAny M A (storeName X.env x u) Q E s:=by
 obtain⟨m,hn,hl⟩:=id I.loc
 have hcls:(X.env.scope.kind == .class||(X.env.scope.kind == .module&&X.env.locals != X.env.globals))=false:=by rw [I.ok.kind];rfl
 have hiσ:i < σ.length:=by rw [I.len];exact(List.getElem?_eq_some_iff.mp hi).1
 have cne:=I.cne
 have tracked:∀ {a:Addr} {h':Heap},(∃ o,s.heap.get? a=some o/\H a=none)->Heap.SameBut a s.heap h'->HOk X.prog X.w H h':=fun {a h'} ha hs b ob e=>by
  obtain⟨_,_,hfree⟩:=ha
  refine(I.hok b ob e).stay (fun c w' hc q=>(hs.2 c ?_).trans q) (fun _ q=>q) fun _ _ q=>q
  rintro rfl
  rcases hc with rfl | hc
  ·rw [hfree] at e;cases e
  ·rw [hfree] at hc;cases hc
 rcases hx with hk | hk
 ·refine wpAny_storeName_local hk hn (fun h' hn' hs=>?_) hcls
  obtain⟨oL,_,_,hoL,_⟩:=id hn
  refine h _ ⟨I.ok,I.os,I.bare,⟨fun b o e n hb hx=>?_,fun b o e n hb hx=>?_,I.base.free,fun b o e hx=>?_,I.base.tups,I.base.frzs,I.base.tbls⟩,⟨_,hn',fun j y v' e1 e2 e3=>?_⟩,fun y c e=>?_,I.free,I.freeC,fun p hp=>?_,tracked ⟨oL,hoL,I.free⟩ hs,by simpa using I.len⟩ ⟨_,hs,.inl rfl⟩
  ·exact(hs.2 b (Nat.ne_of_lt (Nat.lt_of_lt_of_le (Heap.lt_size e) I.ok.above))).trans (I.base.keep b o e n hb hx)
  ·obtain⟨sl,e1⟩:=I.base.slot b o e n hb hx
   exact⟨sl,(hs.2 b (Nat.ne_of_lt (Nat.lt_of_lt_of_le (Heap.lt_size e) I.ok.above))).trans e1⟩
  ·obtain⟨o',e1⟩:=I.base.there b o e hx
   exact⟨o',(hs.2 b (Nat.ne_of_lt (Nat.lt_of_lt_of_le (Heap.lt_size e) I.ok.above))).trans e1⟩
  ·by_cases hj:j=i
   ·subst hj
    rw [hi] at e1;cases e1
    rw [List.getElem?_set_self hiσ] at e2
    cases e2
    exact⟨u,r,.inl ⟨hk,by simp⟩⟩
   ·rw [List.getElem?_set_ne (Ne.symm hj)] at e2
    obtain⟨u',r',q⟩:=hl j y v' e1 e2 e3
    refine⟨u',r',?_⟩
    rcases q with ⟨k,e⟩ | ⟨k,c,e,z⟩
    ·refine .inl ⟨k,?_⟩
     have:y≠x:=fun e=>hj (Aa hN e1 (e ▸ hi))
     simp [this,e]
    ·exact .inr ⟨k,c,e,z.sameBut hs (cne y c e)⟩
  ·obtain⟨w',z⟩:=I.cell y c e
   exact⟨w',z.sameBut hs (cne y c e)⟩
  ·obtain⟨e,n,ne,nf,d⟩:=I.pin p hp
   exact⟨(hs.2 p.1 ne).trans e,n,ne,nf,d⟩
 ·have hfn:X.fn x=true:=by
   rcases hf with z | z
   ·exact z
   ·rw [z] at hk;cases hk
  obtain⟨c,hc⟩:=I.ok.has x (.inl hk)
  obtain⟨w',z⟩:=I.cell x c hc
  refine wpAny_storeName_cell I.ok.kind hk hc z (fun h' hc' hs=>?_)
  obtain⟨oc,hoc,hocd⟩:=id z
  refine h { s with heap:=h' } ⟨I.ok,I.os,I.bare,⟨fun b o e n hb hx=>?_,fun b o e n hb hx=>?_,I.base.free,fun b o e hx=>?_,I.base.tups,I.base.frzs,I.base.tbls⟩,⟨m,hn.sameBut hs (Ne.symm (cne x c hc)),fun j y v' e1 e2 e3=>?_⟩,fun y c' e=>?_,I.free,I.freeC,fun p hp=>?_,tracked ⟨oc,hoc,I.freeC x c hc⟩ hs,by simpa using I.len⟩ ⟨c,hs,.inr hc⟩
  ·exact(hs.2 b (Nat.ne_of_lt (Nat.lt_of_lt_of_le (Heap.lt_size e) (I.ok.cab x c hfn hc)))).trans (I.base.keep b o e n hb hx)
  ·obtain⟨sl,e1⟩:=I.base.slot b o e n hb hx
   exact⟨sl,(hs.2 b (Nat.ne_of_lt (Nat.lt_of_lt_of_le (Heap.lt_size e) (I.ok.cab x c hfn hc)))).trans e1⟩
  ·obtain⟨o',e1⟩:=I.base.there b o e hx
   exact⟨o',(hs.2 b (Nat.ne_of_lt (Nat.lt_of_lt_of_le (Heap.lt_size e) (I.ok.cab x c hfn hc)))).trans e1⟩
  ·by_cases hj:j=i
   ·subst hj
    rw [hi] at e1;cases e1
    rw [List.getElem?_set_self hiσ] at e2
    cases e2
    exact⟨u,r,.inr ⟨.inl hk,c,hc,hc'⟩⟩
   ·rw [List.getElem?_set_ne (Ne.symm hj)] at e2
    obtain⟨u',r',q⟩:=hl j y v' e1 e2 e3
    refine⟨u',r',?_⟩
    rcases q with q | ⟨k,c',e,z'⟩
    ·exact .inl q
    ·refine .inr ⟨k,c',e,z'.sameBut hs ?_⟩
     rintro rfl
     exact hj (Aa hN e1 (I.ok.inj _ _ _ e hc ▸ hi))
  ·by_cases hcc:c'=c
   ·subst hcc;exact⟨_,hc'⟩
   ·obtain⟨w2,z2⟩:=I.cell y c' e
    exact⟨w2,z2.sameBut hs hcc⟩
  ·obtain⟨e,n,ne,nf,d⟩:=I.pin p hp
   refine⟨(hs.2 p.1 ?_).trans e,n,ne,nf,d⟩
   intro q
   rw [q,hoc] at e
   have q':oc=p.2:=Option.some.inj e
   exact d w' (by rw [<- q'];exact hocd)
theorem oz{M:Model}{A:Around}{E:Value->Shared->Prop}{i:Nat}{x:Str}{v:V}{u:Value}{Q:Unit->Shared->Prop}(I:Inv X pins σ H s)(hN:X.N.Nodup)(hi:X.N[i]?=some x)(hx:Mt X.env.scope x)(r:RelV v u)
  (h:∀ s',Inv X pins (σ.set i (some v)) H s'->Q () s') (hf:X.fn x=true\/X.env.scope.names.lookup x=some .local:=by first | exact .inl rfl | exact .inr rfl | assumption):wpAny M A (storeName X.env x u) Q E s:=
 vI I hN hi hx r (fun s' I' _=>h s' I') hf
theorem Inv.call'{s':Shared}{ch:List Addr}(I:Inv X pins σ H s)(ho:s'.os=s.os)(u:Un (Ig X.stack) ch H H' s.heap s'.heap)(hok:HOk X.prog X.w H' s'.heap)(hg:AllBare s'.gens)
  (hch:∀ b∈ch,(b∈X.ex\/X.s₀.heap.objs.size<=b)/\b≠X.env.locals/\(∀ x c,X.env.cells.lookup x=some c->c≠b)/\∀ p∈X.pn++pins,p.1≠b):Inv X pins σ H' s':=by
 obtain⟨h',g',d',t',o'⟩:=s'
 have e:o'=s.os:=ho
 subst e
 exact I.call (g':=g') (t':=t') (d':=d') u hok hg hch
end
abbrev XK:=Value->Option Addr->Hp->Prop
abbrev St:=List (Option V)
abbrev VK:=V->Hp->Prop
abbrev TE:=St->Hp->VK->Prop
abbrev TT:=St->Hp->(Bool->Hp->Prop)->Prop
abbrev TA:=St->Hp->(List V->Hp->Prop)->Prop
structure vC where
 nx:St->Hp->Prop
 rt:VK
 bk:St->Hp->Prop:=fun _ _=>False
 ct:St->Hp->Prop:=fun _ _=>False
abbrev TS:=vC->St->Hp->Prop
def EP(X:Cx)(pins:List (Addr×Obj))(σ:St)(Q:VK)(u:Value)(s':Shared):Prop:=∃ v H',Inv X pins σ H' s'/\RelV v u/\Q v H'
def TP(X:Cx)(pins:List (Addr×Obj))(σ:St)(Q:Bool->Hp->Prop)(b:Bool)(s':Shared):Prop:=∃ H',Inv X pins σ H' s'/\Q b H'
def AP(X:Cx)(pins:List (Addr×Obj))(σ:St)(Q:List V->Hp->Prop)(us:List Value)(s':Shared):Prop:=∃ vs H',Inv X pins σ H' s'/\Vals vs us/\Q vs H'
def SP(X:Cx)(pins:List (Addr×Obj))(D:vC)(f:Flow)(s':Shared):Prop:=
 match f with
 | .next=>∃ σ' H',Inv X pins σ' H' s'/\D.nx σ' H'
 | .brk=>∃ σ' H',Inv X pins σ' H' s'/\D.bk σ' H'
 | .cont=>∃ σ' H',Inv X pins σ' H' s'/\D.ct σ' H'
 | .ret u=>∃ v σ' H',Inv X pins σ' H' s'/\RelV v u/\D.rt v H'
def PE(X:Cx)(e:Expr)(t:TE):Prop:=
 ∀ (pins:List (Addr×Obj)) (s:Shared) (σ:St) (H:Hp) (Q:VK),Inv X pins σ H s->t σ H Q->wpAny (model X.prog X.w) X.A (eval e X.env) (EP X pins σ Q) X.xe s
def PT(X:Cx)(e:Expr)(t:TT):Prop:=
 ∀ (pins:List (Addr×Obj)) (s:Shared) (σ:St) (H:Hp) (Q:Bool->Hp->Prop),Inv X pins σ H s->t σ H Q->wpAny (model X.prog X.w) X.A (isTrue e X.env (eval e X.env)) (TP X pins σ Q) X.xe s
def PW(X:Cx)(e:Expr)(t:TT):Prop:=
 ∀ (whole:Sem Value) (pins:List (Addr×Obj)) (s:Shared) (σ:St) (H:Hp) (Q:Bool->Hp->Prop),Inv X pins σ H s->t σ H Q->wpAny (model X.prog X.w) X.A (isTrue e X.env whole) (TP X pins σ Q) X.xe s
theorem PW.pt{X:Cx}{e:Expr}{t:TT}(h:PW X e t):PT X e t:=h _
def PA(X:Cx)(es:List Expr)(t:TA):Prop:=
 ∀ (pos:Pos) (pins:List (Addr×Obj)) (s:Shared) (σ:St) (H:Hp) (Q:List V->Hp->Prop),Inv X pins σ H s->t σ H Q->wpAny (model X.prog X.w) X.A (spliced (backTo pos (starEach es X.env))) (AP X pins σ Q) X.xe s
def PS(X:Cx)(st:Stmt)(t:TS):Prop:=
 ∀ (pins:List (Addr×Obj)) (s:Shared) (σ:St) (H:Hp) (D:vC),Inv X pins σ H s->t D σ H->wpAny (model X.prog X.w) X.A (exec st X.env) (SP X pins D) X.xe s
def PSs(X:Cx)(st:List Stmt)(t:TS):Prop:=
 ∀ (pins:List (Addr×Obj)) (s:Shared) (σ:St) (H:Hp) (D:vC),Inv X pins σ H s->t D σ H->wpAny (model X.prog X.w) X.A (execs st X.env) (SP X pins D) X.xe s
theorem db{α:Type}{t:Sem α}{Q Q':α->Shared->Prop}{M:Model}{A:Around}{E:Value->Shared->Prop}{s:Shared}(h:wpAny M A t Q E s)(hQ:∀ a s,Q a s->Q' a s):wpAny M A t Q' E s:=wpAny_mono h hQ fun _ _ x=>x
end L2
namespace L2
open PySem PySem.Spec PyProof.Rows
section
variable{X:Cx}
theorem bin{a b:Expr}{ta tb:TE}(ha:PE X a ta)(hb:PE X b tb){pins:List (Addr×Obj)}{s:Shared}{σ:St}{H:Hp}{R:V->V->Hp->Prop}(I:Inv X pins σ H s)(h:ta σ H fun x H1=>tb σ H1 fun y H2=>R x y H2)
  {α:Type} {Q:α->Shared->Prop} {f:Value->Value->Sem α}
  (hf:∀ v u s2 x y H2,Inv X pins σ H2 s2->RelV x v->RelV y u->R x y H2->wpAny (model X.prog X.w) X.A (f v u) Q X.xe s2) :
  wpAny (model X.prog X.w) X.A (eval a X.env) (fun v s₁=>wpAny (model X.prog X.w) X.A (eval b X.env) (fun u s₂=>wpAny (model X.prog X.w) X.A (f v u) Q X.xe s₂) X.xe s₁) X.xe s:=by
 refine db (ha pins s σ H _ I h) fun v s1 ⟨x,H1,I1,r1,q1⟩=>?_
 refine db (hb pins s1 σ H1 _ I1 q1) fun u s2 ⟨y,H2,I2,r2,q2⟩=>?_
 exact hf v u s2 x y H2 I2 r1 r2 q2
def tVar(i:Nat):TE:=fun σ H Q=>∃ v,σ[i]?=some (some v)/\Q v H
def tC(v:V):TE:=fun _ H Q=>Q v H
theorem Jr{i:Nat}{x:Str}{pos:Pos}(hN:X.N[i]?=some x)(hv:TY X.env.scope x)(hd:(x == ("__debug__":Str))=false:=by decide)(hcd:(x == ("__classdict__":Str))=false:=by decide):PE X (.Name x pos) (tVar i):=by
 intro pins s σ H Q I h
 obtain⟨v,e,h⟩:=h
 obtain⟨m,hn,hl⟩:=I.loc
 obtain⟨u,r,l⟩:=hl i x v hN e hv
 have fin:EP X pins σ Q u s:=⟨v,H,I,r,h⟩
 rcases l with ⟨hk,hm⟩ | ⟨hk,c,hc,hcell⟩
 ·exact wpAny_Name (wpAny_loadName_local I.ok.kind hk hn hm fin) hd
 ·rcases hk with hk | hk
  ·exact wpAny_Name (wpAny_loadName_cell I.ok.kind hk hc hcell fin) hd
  ·exact wpAny_Name (wpAny_loadName_free I.ok.kind hk hc hcell fin hcd) hd
theorem Rg{i j pos}:PE X (.Constant (.int i) j pos) (tC (.int i)):=fun _ _ _ H _ I h=>wpAny_Constant_int ⟨.int i,H,I.tok _,⟨_,rfl⟩,h⟩
theorem pe_bl{b j pos}:PE X (.Constant (.bool b) j pos) (tC (.bl b)):=fun _ _ _ H _ I h=>Constant_bool ⟨.bl b,H,I,rfl,h⟩
theorem Rf{j pos}:PE X (.Constant .none j pos) (tC .non):=fun _ _ _ H _ I h=>Constant_none ⟨.non,H,I,rfl,h⟩
theorem Rb{x j pos}:PE X (.Constant (.str x) j pos) (tC (.str x)):=fun _ _ _ H _ I h=>Calls.Constant_str ⟨.str x,H,I.tok _,⟨_,rfl⟩,h⟩
def Gl(X:Cx)(x:Str):Prop:=X.env.kindOf x=some .globalImplicit
theorem yq{E:Value->Shared->Prop}{pins:List (Addr×Obj)}{s:Shared}{σ:St}{H:Hp}{x:Str}{u:Value}{pos:Pos}{Q:Value->Shared->Prop}(I:Inv X pins σ H s)(hg:Gl X x)(hm:X.mg x=some u)(h:Q u s)
  (hd:(x == ("__debug__":Str))=false:=by decide):wpAny (model X.prog X.w) X.A (eval (.Name x pos) X.env) Q E s:=
 Calls.Name_function_global I.ok.kind hg (Calls.loadGlobal_global (by rw [I.ok.glob];exact I.mod.glob.keeps I.bk) hm h) hd
theorem ly{E:Value->Shared->Prop}{pins:List (Addr×Obj)}{s:Shared}{σ:St}{H:Hp}{x:Str}{u:Value}{pos:Pos}{Q:Value->Shared->Prop}(I:Inv X pins σ H s)(hg:Gl X x)(hm:X.mg x=none)(hv:bootBuiltins x=some u)(h:Q u s)
  (hn:x ≠ "__name__":=by decide) (hd:(x == ("__debug__":Str))=false:=by decide):wpAny (model X.prog X.w) X.A (eval (.Name x pos) X.env) Q E s:=by
 obtain⟨mb,h1,h2⟩:=I.mod.blt
 exact Calls.Name_function_global I.ok.kind hg (Calls.loadGlobal_builtin (by rw [I.ok.glob];exact I.mod.glob.keeps I.bk) hm (by rw [I.ok.blt];exact h1.keeps I.bk) ((h2 x hn).trans hv) h) hd
theorem xM{x:Str}{v:V}{u:Value}{pos:Pos}(hg:Gl X x)(hm:X.mg x=some u)(r:RelV v u)(hd:(x == ("__debug__":Str))=false:=by decide):PE X (.Name x pos) (tC v):=
 fun _ _ _ H _ I h=>yq I hg hm ⟨v,H,I,r,h⟩ hd
theorem Nv{x:Str}{v:V}{u:Value}{pos:Pos}(hg:Gl X x)(hm:X.mg x=none)(hv:bootBuiltins x=some u)(r:RelV v u)(hn:x ≠ "__name__":=by decide)(hd:(x == ("__debug__":Str))=false:=by decide):PE X (.Name x pos) (tC v):=
 fun _ _ _ H _ I h=>ly I hg hm hv ⟨v,H,I,r,h⟩ hn hd
variable{a b:Expr}{ta tb:TE}{pos:Pos}
variable{tA tB':TT}{rest:List Expr}
def tAnd(t u:TT):TT:=fun σ H Q=>t σ H fun c H1=>if c=true then u σ H1 Q else Q false H1
def tOr(t u:TT):TT:=fun σ H Q=>t σ H fun c H1=>if c=true then Q true H1 else u σ H1 Q
def tNot(t:TT):TT:=fun σ H Q=>t σ H fun c H1=>Q (!c) H1
theorem MZ(ha:PT X a tA):PW X (.BoolOp .And [a] pos) tA:=by
 intro wh pins s σ H Q I h
 refine isTrue_and (db (ha pins s σ H Q I h) fun c s1 e=>?_)
 cases c with
 | true=>exact isTrue_and_nil e
 | false=>exact e
theorem QP(ha:PT X a tA):PW X (.BoolOp .Or [a] pos) tA:=by
 intro wh pins s σ H Q I h
 refine isTrue_or (db (ha pins s σ H Q I h) fun c s1 e=>?_)
 cases c with
 | false=>exact isTrue_or_nil e
 | true=>exact e
theorem QQ(ha:PT X a tA)(hb:PW X (.BoolOp .And (b::rest) pos) tB'):PW X (.BoolOp .And (a::b::rest) pos) (tAnd tA tB'):=by
 intro wh pins s σ H Q I h
 refine isTrue_and (db (ha pins s σ H _ I h) fun c s1 ⟨H1,I1,q1⟩=>?_)
 cases c with
 | true=>exact hb wh pins s1 σ H1 Q I1 q1
 | false=>exact⟨H1,I1,q1⟩
theorem pw_or(ha:PT X a tA)(hb:PW X (.BoolOp .Or (b::rest) pos) tB'):PW X (.BoolOp .Or (a::b::rest) pos) (tOr tA tB'):=by
 intro wh pins s σ H Q I h
 refine isTrue_or (db (ha pins s σ H _ I h) fun c s1 ⟨H1,I1,q1⟩=>?_)
 cases c with
 | true=>exact⟨H1,I1,q1⟩
 | false=>exact hb wh pins s1 σ H1 Q I1 q1
theorem QR(ha:PT X a tA):PT X (.UnaryOp .Not a pos) (tNot tA):=by
 intro pins s σ H Q I h
 exact isTrue_not (ha pins s σ H (fun c H1=>Q (!c) H1) I h)
theorem Re{op}{t:TE}(h:PE X a t):PE X (.BoolOp op [a] pos) t:=fun pins s σ H Q I hw=>BoolOp_one (h pins s σ H Q I hw)
def tIf(t:TT)(ta tb:TE):TE:=fun σ H Q=>t σ H fun c H1=>if c=true then ta σ H1 Q else tb σ H1 Q
theorem Jv{c:Expr}(hc:PT X c tA)(ha:PE X a ta)(hb:PE X b tb):PE X (.IfExp c a b pos) (tIf tA ta tb):=by
 intro pins s σ H Q I h
 refine wpAny_IfExp (db (hc pins s σ H _ I h) fun d s1 ⟨H1,I1,q1⟩=>?_)
 cases d with
 | true=>exact ha pins s1 σ H1 Q I1 q1
 | false=>exact hb pins s1 σ H1 Q I1 q1
end
end L2
namespace L2
open PySem PySem.Spec PyProof.Rows
def on(K:PySem.W.Frag)(H:Hp)(a:Addr)(xs:List V):Prop:=
 Rd H a (.lst xs) \/
  ∃ (o:Obj) (its:Array Value) (n:Nat),K.lookup a=some o/\o.cls=.type "list"/\o.dict=none/\o.data=.seq its n/\its.size<=sizeLine/\Vals xs its.toList
def lQ(K:PySem.W.Frag)(H:Hp)(a:Addr)(xs:List V):Prop:=
 Rd H a (.tup xs) \/
  ∃ (o:Obj) (its:Array Value) (n:Nat),K.lookup a=some o/\o.cls=.type "tuple"/\o.dict=none/\o.data=.seq its n/\its.size<=sizeLine/\Vals xs its.toList
noncomputable def absV:Value->Option V
 | .none=>some .non
 | .bool b=>some (.bl b)
 | .int i _=>some (.int i)
 | .str x _=>some (.str x)
 | .bytes b _=>some (.byt b)
 | .float b _=>some (.flt b)
 | .ref a=>some (.ref a)
 | .type n=>some (.ty n)
 | _=>none
theorem RelV.abs{x:V}{u:Value}(r:RelV x u):absV u=some x:=by
 cases x with
 | non=>cases r;rfl
 | bl _=>cases r;rfl
 | int _=>obtain⟨t,rfl⟩:=r;rfl
 | str _=>obtain⟨t,rfl⟩:=r;rfl
 | byt _=>obtain⟨t,rfl⟩:=r;rfl
 | flt _=>obtain⟨t,rfl⟩:=r;rfl
 | ref _=>cases r;rfl
 | ty _=>cases r;rfl
theorem RelV.inj{x y:V}{u:Value}(r:RelV x u)(q:RelV y u):x=y:=Option.some.inj (r.abs.symm.trans q.abs)
theorem Vals.inj:∀ {xs ys:List V} {us:List Value},Vals xs us->Vals ys us->xs=ys
 | _,_,_,.nil,.nil=>rfl
 | _,_,_,.cons r t,.cons r' t'=>by rw [r.inj r',Vals.inj t t']
section
variable{X:Cx}{pins:List (Addr×Obj)}{σ:St}{H:Hp}{s:Shared}{a:Addr}{xs ys:List V}
theorem Inv.list(I:Inv X pins σ H s)(h:on X.K H a xs):∃ its:List Value,Vals xs its/\PlainL s.heap a its.toArray/\xs.length<=sizeLine:=by
 rcases h with h | ⟨o,its,n,hk,hc,hd,hs,hz,r⟩
 ·obtain⟨z,its,n,r,e⟩:=h.ok I.hok
  exact⟨its,r,⟨_,n,e,rfl,rfl,rfl⟩,z⟩
 ·refine⟨its.toList,r,⟨o,n,I.kIn a o hk,hc,hd,by simpa using hs⟩,?_⟩
  have e:=r.length
  simp only [Array.length_toList] at e
  omega
theorem Inv.tuple(I:Inv X pins σ H s)(h:lQ X.K H a xs):∃ its:List Value,Vals xs its/\IsTup s.heap a its.toArray/\xs.length<=sizeLine:=by
 rcases h with h | ⟨o,its,n,hk,hc,hdn,hs,hz,r⟩
 ·obtain⟨z,its,r,p⟩:=h.ok I.hok
  exact⟨its,r,p.up,z⟩
 ·refine⟨its.toList,r,⟨o,I.kIn a o hk,hc,n,by simpa using hs⟩,?_⟩
  have e:=r.length
  simp only [Array.length_toList] at e
  omega
theorem Inv.list_inj(I:Inv X pins σ H s)(h:on X.K H a xs)(h':on X.K H a ys):xs=ys:=by
 obtain⟨its,r,⟨o,n,e,_,_,d⟩,_⟩:=I.list h
 obtain⟨its',r',⟨o',n',e',_,_,d'⟩,_⟩:=I.list h'
 rw [e] at e';cases e'
 rw [d] at d'
 injection d' with d1 _
 have:its=its':=by simpa using congrArg Array.toList d1
 subst this
 exact r.inj r'
theorem Inv.tuple_inj(I:Inv X pins σ H s)(h:lQ X.K H a xs)(h':lQ X.K H a ys):xs=ys:=by
 obtain⟨its,r,⟨o,e,_,n,d⟩,_⟩:=I.tuple h
 obtain⟨its',r',⟨o',e',_,n',d'⟩,_⟩:=I.tuple h'
 rw [e] at e';cases e'
 rw [d] at d'
 injection d' with d1 _
 have:its=its':=by simpa using congrArg Array.toList d1
 subst this
 exact r.inj r'
end
noncomputable abbrev Cx.wish(X:Cx)(E:Value->Shared->Prop):Cx:={ X with xe:=E }
noncomputable abbrev Cx.nox(X:Cx):Cx:=X.wish fun _ _=>False
theorem Cx.Ok.wish{X:Cx}(ok:X.Ok)(E:Value->Shared->Prop):(X.wish E).Ok:=
 ⟨ok.mod,ok.kind,ok.glob,ok.blt,ok.above,ok.inj,ok.has,ok.cab,ok.hd,ok.frames,ok.stk,ok.exf,ok.bs,ok.bsz,ok.noex,ok.exfs,ok.funs,ok.frf⟩
theorem Cx.Ok.unwish{X:Cx}{E:Value->Shared->Prop}(ok:(X.wish E).Ok):X.Ok:=
 ⟨ok.mod,ok.kind,ok.glob,ok.blt,ok.above,ok.inj,ok.has,ok.cab,ok.hd,ok.frames,ok.stk,ok.exf,ok.bs,ok.bsz,ok.noex,ok.exfs,ok.funs,ok.frf⟩
section
variable{X:Cx}{pins:List (Addr×Obj)}{σ:St}{H:Hp}{s:Shared}{E:Value->Shared->Prop}
theorem Inv.wish(I:Inv X pins σ H s)(E:Value->Shared->Prop):Inv (X.wish E) pins σ H s:=⟨I.ok.wish E,I.os,I.bare,I.base,I.loc,I.cell,I.free,I.freeC,I.pin,I.hok,I.len⟩
theorem Inv.unwish(I:Inv (X.wish E) pins σ H s):Inv X pins σ H s:=⟨I.ok.unwish,I.os,I.bare,I.base,I.loc,I.cell,I.free,I.freeC,I.pin,I.hok,I.len⟩
theorem SP.unwish{D:vC}{f:Flow}{s':Shared}(h:SP (X.wish E) pins D f s'):SP X pins D f s':=by
 cases f with
 | next=>obtain⟨σ',H',I,q⟩:=h;exact⟨σ',H',I.unwish,q⟩
 | brk=>obtain⟨σ',H',I,q⟩:=h;exact⟨σ',H',I.unwish,q⟩
 | cont=>obtain⟨σ',H',I,q⟩:=h;exact⟨σ',H',I.unwish,q⟩
 | ret u=>obtain⟨v,σ',H',I,r,q⟩:=h;exact⟨v,σ',H',I.unwish,r,q⟩
theorem PSs.nox{st:List Stmt}{t:TS}(h:PSs X.nox st t):PSs X st t:=fun pins s σ H D I hw=>
 wpAny_mono (h pins s σ H D (I.wish _) hw) (fun _ _ q=>q.unwish) fun _ _ z=>False.elim z
end
section
variable{X:Cx}{st:Stmt}{rest:List Stmt}{t u:TS}{e:Expr}{te:TE}{pos:Pos}
def IC:TS:=fun D σ H=>D.nx σ H
def tSeq(t u:TS):TS:=fun D σ H=>t { D with nx:=u D } σ H
theorem Nf:PSs X [] IC:=fun _ _ σ H _ I h=>wpAny_execs_nil ⟨σ,H,I,h⟩
theorem zL(h1:PS X st t)(h2:PSs X rest u):PSs X (st::rest) (tSeq t u):=by
 intro pins s σ H D I h
 refine wpAny_execs_cons (db (h1 pins s σ H { D with nx:=u D } I h) fun f s1 q=>?_)
 cases f with
 | next=>
  obtain⟨σ',H',I',q⟩:=q
  exact h2 pins s1 σ' H' D I' q
 | ret v=>exact q
 | brk=>exact q
 | cont=>exact q
theorem Ew(h1:PS X st t):PSs X [st] t:=by
 intro pins s σ H D I h
 refine wpAny_execs_cons (db (h1 pins s σ H D I h) fun f s1 q=>?_)
 cases f with
 | next=>exact wpAny_execs_nil q
 | ret v=>exact q
 | brk=>exact q
 | cont=>exact q
def QI:TS:=fun D σ H=>D.bk σ H
def tCont:TS:=fun D σ H=>D.ct σ H
theorem Nh:PS X (.Pass pos) IC:=fun _ _ σ H _ I h=>wpAny_Pass ⟨σ,H,I,h⟩
theorem Jn:PS X (.Break pos) QI:=fun _ _ σ H _ I h=>wpAny_Break ⟨σ,H,I,h⟩
theorem zN:PS X (.Continue pos) tCont:=fun _ _ σ H _ I h=>wpAny_Continue ⟨σ,H,I,h⟩
theorem Inv.quiet{pins:List (Addr×Obj)}{σ:St}{H:Hp}{s:Shared}(I:Inv X pins σ H s):interactive X.env=false:=by simp [interactive,I.ok.kind]
theorem QT{x j pos pos'}:PS X (.Expr (.Constant (.str x) j pos) pos') IC:=fun _ s σ H _ I h=>wpAny_Expr (Calls.Constant_str (show SP X _ _ .next { s with toks:=s.toks+1 } from ⟨σ,H,I.tok _,h⟩)) I.quiet
def tDrop(te:TE):TS:=fun D σ H=>te σ H fun _ H1=>D.nx σ H1
theorem Ni(he:PE X e te)(hs:swapsWith e none pos.line X.env=pure false:=by rfl):PS X (.Expr e pos) (tDrop te):=by
 intro pins s σ H D I h
 exact wpAny_Expr_any (db (he pins s σ H _ I h) fun v s1 ⟨x,H1,I1,r1,q1⟩=>⟨σ,H1,I1,q1⟩) I.quiet hs
def tRet(te:TE):TS:=fun D σ H=>te σ H D.rt
theorem Jl(he:PE X e te):PS X (.Return (some e) pos) (tRet te):=by
 intro pins s σ H D I h
 exact wpAny_Return_some (db (he pins s σ H _ I h) fun v s1 ⟨x,H1,I1,r1,q1⟩=>⟨x,σ,H1,I1,r1,q1⟩)
def tRetN:TS:=fun D _ H=>D.rt .non H
theorem Ng:PS X (.Return none pos) tRetN:=fun _ _ σ H _ I h=>wpAny_Return_none ⟨.non,σ,H,I,rfl,h⟩
def tIfS(c:TT)(t u:TS):TS:=fun D σ H=>c σ H fun b H1=>if b=true then t D σ H1 else u D σ H1
theorem ps_if{c:Expr}{a b:List Stmt}{tc:TT}(hc:PT X c tc)(ha:PSs X a t)(hb:PSs X b u):PS X (.If c a b pos) (tIfS tc t u):=by
 intro pins s σ H D I h
 refine wpAny_If (db (hc pins s σ H _ I h) fun d s1 ⟨H1,I1,q1⟩=>?_)
 cases d with
 | true=>exact ha pins s1 σ H1 D I1 q1
 | false=>exact hb pins s1 σ H1 D I1 q1
end
abbrev TG:=V->St->Hp->(St->Hp->Prop)->Prop
abbrev Qr:=List V->St->Hp->(St->Hp->Prop)->Prop
def PG(X:Cx)(target:Expr)(t:TG):Prop:=
 ∀ (pins:List (Addr×Obj)) (s:Shared) (σ:St) (H:Hp) (v:V) (u:Value) (Q:St->Hp->Prop),Inv X pins σ H s->RelV v u->t v σ H Q ->
  wpAny (model X.prog X.w) X.A (assign target X.env u) (fun _ s'=>∃ σ' H',Inv X pins σ' H' s'/\Q σ' H') X.xe s
def PGs(X:Cx)(ts:List Expr)(t:Qr):Prop:=
 ∀ (pins:List (Addr×Obj)) (s:Shared) (σ:St) (H:Hp) (vs:List V) (us:List Value) (Q:St->Hp->Prop),Inv X pins σ H s->Vals vs us->t vs σ H Q ->
  wpAny (model X.prog X.w) X.A (assignInOrder ((assignEach ts X.env).map (·.2)) us) (fun _ s'=>∃ σ' H',Inv X pins σ' H' s'/\Q σ' H') X.xe s
abbrev TZ:=V->V->V->Hp->(Hp->Prop)->Prop
def PSet(X:Cx)(t:TZ):Prop:=
 ∀ (pins:List (Addr×Obj)) (s:Shared) (σ:St) (H:Hp) (o i v:V) (ov iv u:Value) (Q:Hp->Prop),Inv X pins σ H s->RelV o ov->RelV i iv->RelV v u->t o i v H Q ->
  wpAny (model X.prog X.w) X.A (setItem ov iv u) (fun _ s'=>∃ H',Inv X pins σ H' s'/\Q H') X.xe s
section
variable{X:Cx}{pos:Pos}
def Fb(i:Nat):TG:=fun v σ H Q=>Q (σ.set i (some v)) H
theorem Np{i:Nat}{x:Str}(hN:X.N.Nodup)(hi:X.N[i]?=some x)(hx:Mt X.env.scope x)(hf:X.fn x=true\/X.env.scope.names.lookup x=some .local:=by first | exact .inl rfl | exact .inr rfl | assumption):PG X (.Name x pos) (Fb i):=by
 intro pins s σ H v u Q I r h
 exact wpAny_assign_Name (oz I hN hi hx r (fun s' I'=>⟨_,H,I',h⟩) hf)
noncomputable def gNil:Qr:=fun vs σ H Q=>vs=[]/\Q σ H
noncomputable def gCons(t:TG)(u:Qr):Qr:=fun vs σ H Q=>∃ v r,vs=v::r/\t v σ H fun σ' H'=>u r σ' H' Q
theorem No:PGs X [] gNil:=by
 intro pins s σ H vs us Q I r h
 obtain⟨e,h⟩:=h
 subst e
 cases r
 exact assignInOrder_nil ⟨σ,H,I,h⟩
theorem Jq{e:Expr}{es:List Expr}{t:TG}{u:Qr}(h1:PG X e t)(h2:PGs X es u)
  (hs:(assignEach (e::es) X.env).map (·.2)=assign e X.env::(assignEach es X.env).map (·.2):=by rfl):PGs X (e::es) (gCons t u):=by
 intro pins s σ H vs us Q I r h
 obtain⟨v,vr,e1,h⟩:=h
 subst e1
 cases r with
 | cons r rr=>
  rw [hs]
  refine assignInOrder_cons (db (h1 pins s σ H _ _ _ I r h) fun _ s1 ⟨σ1,H1,I1,q1⟩=>?_)
  exact h2 pins s1 σ1 H1 _ _ Q I1 rr q1
def gTup(K:PySem.W.Frag)(n:Nat)(t:Qr):TG:=fun v σ H Q=>∃ a xs,v=.ref a/\lQ K H a xs/\xs.length=n/\t xs σ H Q
theorem QY{es:List Expr}{k:Nat}{t:Qr}{n:Nat}(hc:X.calm=true)(h:PGs X es t)
  (hn:(assignEach es X.env).length=n:=by rfl) (hst:(assignEach es X.env).findIdx? (·.1)=none:=by rfl):PG X (.Tuple es k pos) (gTup X.K n t):=by
 intro pins s σ H v u Q I r hw
 obtain⟨a,xs,e1,hq,hl,hw⟩:=hw
 subst e1
 cases r
 obtain⟨its,rv,ht,hz⟩:=I.tuple hq
 refine assign_Tuple_tuple (I.ok.hd hc) ht (by simp [hn,<- hl,rv.length]) hst fun h' hx=>?_
 have I1:Inv X pins σ H { s with heap:=h' }:=I.kept (t':=s.toks) fun b o e=>hx b o (Nat.ne_of_lt (Heap.lt_size e)) e
 exact h pins _ σ H xs _ Q I1 (by simpa using rv) hw
def gSub(to ti:TE)(t:TZ):TG:=fun v σ H Q=>to σ H fun o H1=>ti σ H1 fun i H2=>t o i v H2 fun H3=>Q σ H3
theorem QZ{o i:Expr}{to ti:TE}{t:TZ}(ho:PE X o to)(hi:PE X i ti)(hs:PSet X t)
  (ha:∀ v,assign (.Subscript o i pos) X.env v=(do
   let ov <- holding [v] (eval o X.env)
   let iv <- holding [v,ov] (eval i X.env)
   standAt pos
   holding [v,ov,iv] (setItem ov iv v)
   release [v,ov,iv] []):=by intro _;rfl):PG X (.Subscript o i pos) (gSub to ti t):=by
 intro pins s σ H v u Q I r h
 rw [ha]
 refine wpAny_bind (wpAny_holding (db (ho pins s σ H _ I h) fun ov s1 ⟨x,H1,I1,r1,q1⟩=>?_))
 refine wpAny_bind (wpAny_holding (db (hi pins s1 σ H1 _ I1 q1) fun iv s2 ⟨y,H2,I2,r2,q2⟩=>?_))
 refine wpAny_bind (wpAny_standAt (wpAny_bind (wpAny_holding (db (hs pins s2 σ H2 x y v ov iv u _ I2 r1 r2 r q2) fun _ s3 ⟨H3,I3,q3⟩=>?_))))
 exact wpAny_release ⟨σ,H3,I3,q3⟩
def IG(te:TE)(g:TG):TS:=fun D σ H=>te σ H fun x H1=>g x σ H1 D.nx
theorem QU{tg e:Expr}{te:TE}{g:TG}(he:PE X e te)(hg:PG X tg g)(hs:swapsWithSole [tg] e pos.line X.env=pure false:=by rfl)(hw:swappedStores [tg] e X.env=pure none:=by rfl)
  (h1:(assignEach [tg] X.env).map (·.2)=[assign tg X.env]:=by rfl):PS X (.Assign [tg] e pos) (IG te g):=by
 intro pins s σ H D I h
 refine wpAny_Assign_stores (db (he pins s σ H _ I h) fun v s1 ⟨x,H1,I1,r1,q1⟩=>?_) hs hw
 rw [h1]
 exact db (hg pins s1 σ H1 x v _ I1 r1 q1) fun _ s2 q=>q
theorem Jk{i:Nat}{x:Str}{e:Expr}{te:TE}{pos':Pos}(hN:X.N.Nodup)(hi:X.N[i]?=some x)(hx:Mt X.env.scope x)(he:PE X e te)(hs:swapsWith e (some (.Name x pos')) pos.line X.env=pure false:=by rfl)(hf:X.fn x=true\/X.env.scope.names.lookup x=some .local:=by first | exact .inl rfl | exact .inr rfl | assumption) :
  PS X (.Assign [.Name x pos'] e pos) (IG te (Fb i)):=by
 intro pins s σ H D I h
 refine wpAny_Assign_Name (db (he pins s σ H _ I h) fun v s1 ⟨y,H1,I1,r1,q1⟩=>?_) hs
 exact oz I1 hN hi hx r1 (fun s2 I2=>⟨_,H1,I2,q1⟩) hf
def tPar(i j:Nat)(ta:TA):TS:=fun D σ H=>ta σ H fun vs H1=>∃ v w,vs=[v,w]/\D.nx ((σ.set i (some v)).set j (some w)) H1
theorem QS{i j:Nat}{x y:Str}{a b:Expr}{ta:TA}{px py pt:Pos}{kt k2 pt2}(hc:X.calm=true)(hN:X.N.Nodup)(hi:X.N[i]?=some x)(hj:X.N[j]?=some y)(hij:i≠j)
  (hx:X.env.scope.names.lookup x=some .local) (hy:X.env.scope.names.lookup y=some .local) (ha:PA X [a,b] ta)
  (hw:swappedStores [.Tuple [.Name x px,.Name y py] kt pt] (.Tuple [a,b] k2 pt2) X.env=pure (some [x,y]))
  (hs:swapsWithSole [.Tuple [.Name x px,.Name y py] kt pt] (.Tuple [a,b] k2 pt2) pos.line X.env=pure false:=by rfl) :
  PS X (.Assign [.Tuple [.Name x px,.Name y py] kt pt] (.Tuple [a,b] k2 pt2) pos) (tPar i j ta):=by
 intro pins s σ H D I h
 rw [exec_Assign_arm]
 refine wpAny_bind (wpAny_standAt ?_)
 rw [hs]
 refine wpAny_bind (wpAny_pure ?_)
 rw [if_neg (by decide)]
 refine wpAny_bind (Tuple_ (db (ha _ pins s σ H _ I h) fun us s1 ⟨vs,H1,I1,r1,q1⟩=>?_))
 obtain⟨v,w,e1,q1⟩:=q1
 subst e1
 obtain⟨u1,u2,rfl,rv,rw'⟩:∃ u1 u2,us=[u1,u2]/\RelV v u1/\RelV w u2:=by
  cases r1 with
  | cons p q=>
   cases q with
   | cons p' q'=>
    cases q'
    exact⟨_,_,rfl,p,p'⟩
 refine wpAny_newObj_type ?_ (by show 2<=sizeLine;decide)
 have I2:Inv X pins σ H1 { s1 with heap:=s1.heap.push { cls:=.type "tuple",data:=.seq [u1,u2].toArray } }:=I1.kept (t':=s1.toks) fun b o e=>Heap.get?_push_of_some _ e
 rw [hw]
 refine wpAny_bind (wpAny_pure ?_)
 show wpAny (model X.prog X.w) X.A (do rule "assign.swapped-stores";let items <- unpackItems (.ref s1.heap.objs.size) 2 none;assignInOrder [fun v=>bindName X.env y v,fun v=>bindName X.env x v] items.reverse;pure Flow.next) _ _ _
 refine wpAny_bind (wpAny_rule (wpAny_bind (unpackItems_tuple (items:=#[u1,u2]) (I.ok.hd hc) (IsTup.new s1.heap _) fun h' hx'=>?_)))
 have I3:=I2.kept (h':=h') (t':=s1.toks) fun b o e=>hx' b o (Nat.ne_of_lt (Heap.lt_size e)) e
 show wpAny _ _ (assignInOrder [fun v=>bindName X.env y v,fun v=>bindName X.env x v] [u2,u1] >>= fun _=>pure Flow.next) _ _ _
 refine wpAny_bind (assignInOrder_cons (wpAny_bindName (oz I3 hN hj (.inl hy) rw' (fun s2 I4=>?_) (.inr hy))))
 refine assignInOrder_cons (wpAny_bindName (oz I4 hN hi (.inl hx) rv (fun s3 I5=>assignInOrder_nil (wpAny_pure ?_)) (.inr hx)))
 rw [List.set_comm _ _ (Ne.symm hij)] at I5
 exact⟨_,H1,I5,q1⟩
end
section
variable{X:Cx}{pos:Pos}
def QF(c:TT)(tb:TS):TS:=fun D σ H=>∃ W:Nat->St->Hp->Prop,(∃ m,W m σ H)/\∀ m σ H,W m σ H ->
 c σ H fun b H1=>if b=true then ∃ N:St->Hp->Prop,(∀ σ' H',N σ' H'->∃ m',m'<m/\W m' σ' H')/\tb { D with nx:=N,ct:=N,bk:=D.nx } σ H1 else D.nx σ H1
theorem Jj{c:Expr}{body:List Stmt}{tc:TT}{tb:TS}(hp:PassesOwn (model X.prog X.w) X.A X.env X.xe)(hc:PT X c tc)(hb:PSs X body tb):PS X (.While c body [] pos) (QF tc tb):=by
 intro pins s σ H D I h
 obtain⟨W,⟨m0,w0⟩,turn⟩:=h
 refine wpAny_While (codeAny_whileLoop (fun n s'=>∃ σ' H',Inv X pins σ' H' s'/\W n σ' H') ?_ m0 ⟨σ,H,I,w0⟩)
 rintro n s1 ⟨σ1,H1,I1,w1⟩
 refine wpAny_passesOwn hp (db (hc pins s1 σ1 H1 _ I1 (turn n σ1 H1 w1)) fun b s2 ⟨H2,I2,q2⟩=>?_)
 cases b with
 | true=>
  obtain⟨N,hN,q2⟩:=q2
  rw [if_pos rfl]
  refine wpAny_passesOwn hp (db (hb pins s2 σ1 H2 _ I2 q2) fun f s3 q3=>?_)
  cases f with
  | next=>
   obtain⟨σ3,H3,I3,n3⟩:=q3
   obtain⟨m',hm,w3⟩:=hN σ3 H3 n3
   exact⟨m',hm,σ3,H3,I3,w3⟩
  | cont=>
   obtain⟨σ3,H3,I3,n3⟩:=q3
   obtain⟨m',hm,w3⟩:=hN σ3 H3 n3
   exact⟨m',hm,σ3,H3,I3,w3⟩
  | brk=>exact q3
  | ret v=>exact q3
 | false=>
  rw [if_neg Bool.false_ne_true]
  exact wpAny_execs_nil ⟨σ1,H2,I2,q2⟩
end
structure It where
 go:Nat->Hp->Prop
 yld:Nat->Hp->V->Hp->Prop
 stop:Nat->Hp->Prop
def qu(X:Cx)(pins:List (Addr×Obj))(H:Hp)(b:Addr):Prop:=
 H b=none/\b≠X.env.locals/\b ∉ X.fs/\(b∈X.ex\/X.s₀.heap.objs.size<=b)/\(∀ x c,X.env.cells.lookup x=some c->c≠b)/\∀ p∈X.pn++pins,p.1≠b
theorem Inv.fpOk{X:Cx}{pins:List (Addr×Obj)}{σ:St}{H H':Hp}{s:Shared}{b:Addr}(I:Inv X pins σ H s)(hb:s.heap.objs.size<=b)(hn:H' b=none):qu X pins H' b:=by
 refine⟨hn,Nat.ne_of_gt (Nat.lt_of_lt_of_le I.lt hb),I.nofs hb,.inr (Nat.le_trans I.sz hb),fun x c e z=>?_,fun p hp z=>?_⟩
 ·obtain⟨v,q⟩:=I.cell x c e
  exact absurd (Nat.lt_of_lt_of_le q.lt (by rw [z];exact hb)) (Nat.lt_irrefl _)
 ·exact absurd (Nat.lt_of_lt_of_le (Heap.lt_size (I.pin p hp).1) (by rw [z];exact hb)) (Nat.lt_irrefl _)
structure Ee(P:Program)(w:World)(K:PySem.W.Frag)(tg:Expr)(J:It)(fp:List Addr)(it:Addr)(tn:Nat->Heap->Prop):Prop where
 mem:it∈fp
 obj:∀ i h,tn i h->∀ b∈fp,∃ o,h.get? b=some o/\∀ v,o.data≠.cell v
 keep:∀ i h h',tn i h->(∀ b∈fp,∀ o,h.get? b=some o->h'.get? b=some o)->tn i h'
 item:∀ (X:Cx),X.prog=P->X.w=w->X.K=K->X.calm=true->∀ (i:Nat) (pins:List (Addr×Obj)) (s:Shared) (σ:St) (H:Hp) (E:Value->Shared->Prop),Inv X pins σ H s->(∀ b∈fp,qu X pins H b)->tn i s.heap->J.go i H ->
  wpAny (model P w) X.A (pyNext (.ref it)) (fun r s1=>∃ u,r=some u /\
   wpAny (model P w) X.A (letOwnedTupleGo tg (.ref it) u) (fun _ s2=>∃ x H',Inv X pins σ H' s2/\RelV x u/\J.yld i H x H'/\tn (i+1) s2.heap/\∀ b∈fp,H' b=none) E s1) E s
 done:∀ (X:Cx),X.prog=P->X.w=w->X.K=K->X.calm=true->∀ (i:Nat) (pins:List (Addr×Obj)) (s:Shared) (σ:St) (H:Hp) (E:Value->Shared->Prop),Inv X pins σ H s->(∀ b∈fp,qu X pins H b)->tn i s.heap->J.stop i H ->
  wpAny (model P w) X.A (pyNext (.ref it)) (fun r s1=>r=none/\Inv X pins σ H s1) E s
 self:∀ (A:Around) (i:Nat) (s:Shared) (Q:Value->Shared->Prop) (E:Value->Shared->Prop),tn i s.heap->Q (.ref it) s->wpAny (model P w) A (pyIter (.ref it)) Q E s
abbrev TI:=St->Hp->(It->Hp->Prop)->Prop
def PIE(X:Cx)(pins:List (Addr×Obj))(σ:St)(tg:Expr)(R:It->Hp->Prop)(itv:Value)(s2:Shared):Prop:=
 ∃ (it:Addr) (fp:List Addr) (tn:Nat->Heap->Prop) (J:It) (H':Hp),itv=.ref it/\Inv X pins σ H' s2/\Ee X.prog X.w X.K tg J fp it tn/\tn 0 s2.heap/\(∀ b∈fp,qu X pins H' b)/\R J H'
def PI(X:Cx)(tg iter:Expr)(wi:TI):Prop:=
 ∀ (pins:List (Addr×Obj)) (s:Shared) (σ:St) (H:Hp) (R:It->Hp->Prop),Inv X pins σ H s->wi σ H R ->
  wpAny (model X.prog X.w) X.A (eval iter X.env) (fun v s1=>wpAny (model X.prog X.w) X.A (pyIter v) (PIE X pins σ tg R) X.xe s1) X.xe s
theorem Kz{M:Model}{A:Around}{E:Value->Shared->Prop}{s:Shared}{tg:Expr}{it:Addr}{u:Value}{o:Obj}{n:String}{vs:Array Value}{Q:Unit->Shared->Prop}(ho:s.heap.get? it=some o)(hc:o.cls=.type n)(hd:o.data=.fields vs)
  (hn:["enumerate","zip","dict_itemiterator","dict_reverseitemiterator","odict_iterator","itertools.zip_longest","itertools.pairwise"].contains n=false) (hQ:Q () s):wpAny M A (letOwnedTupleGo tg (.ref it) u) Q E s:=by
 unfold letOwnedTupleGo
 cases tg <;> first
  | exact wpAny_pure hQ
  | (cases u <;> first
    | exact wpAny_pure hQ
    | (refine wpAny_bind (wpAny_load ho ?_); rw [hc,hd]; show wpAny M A (if (["enumerate","zip","dict_itemiterator","dict_reverseitemiterator","odict_iterator","itertools.zip_longest","itertools.pairwise"].contains n&&vs[0]? == some (rawInt _))=true then _ else _) Q E s; rw [if_neg (by intro h;rw [hn,Bool.false_and] at h;cases h)]; exact wpAny_pure hQ))
noncomputable def Itl(K:PySem.W.Frag)(a:Addr):It:=
 ⟨fun i H=>∃ xs x,on K H a xs/\xs[i]?=some x,fun i H x H'=>H'=H/\∀ xs,on K H a xs->xs[i]?=some x,fun i H=>∃ xs,on K H a xs/\xs.length<=i⟩
noncomputable def Itt(K:PySem.W.Frag)(a:Addr):It:=
 ⟨fun i H=>∃ xs x,lQ K H a xs/\xs[i]?=some x,fun i H x H'=>H'=H/\∀ xs,lQ K H a xs->xs[i]?=some x,fun i H=>∃ xs,lQ K H a xs/\xs.length<=i⟩
noncomputable def Itr(lo:Int)(n:Nat):It:=⟨fun i _=>i<n,fun i H x H'=>H'=H/\x=.int (lo+i),fun i _=>n<=i⟩
theorem vG{P:Program}{w:World}{K:PySem.W.Frag}{tg:Expr}(a it:Addr):Ee P w K tg (Itl K a) [it] it (fun i h=>h.IsListIter it a i) where
 mem:=by simp
 obj:=fun i h st b hb=>by
  have e:b=it:=by simpa using hb
  subst e
  obtain⟨o,e,c,d⟩:=st
  exact⟨o,e,fun v z=>by rw [d] at z;cases z⟩
 keep:=fun i h h' st k=>st.at fun o e=>k it (by simp) o e
 item:=by
  intro X hP hw hK hc i pins s σ H E I hf st hg
  subst hP hw hK
  obtain⟨xs,x,hq,hx⟩:=hg
  obtain⟨its,rv,p,hz⟩:=I.list hq
  obtain⟨u,hu,ru⟩:=rv.get hx
  obtain⟨f0,f1,f2,f3,f4,f5⟩:=hf it (by simp)
  refine wpAny_pyNext_list_item st p.isList (x:=u) (by simpa using hu) fun h' st' sb=>?_
  have I1:Inv X pins σ H { s with heap:=h' }:=I.turned (t':=s.toks) (fun b o hb e=>(sb.2 b hb).trans e) f0 f1 f3 f4 f5
  obtain⟨o,e,c,d⟩:=id st'
  exact⟨u,rfl,Kz (s:={ s with heap:=h' }) e c d (by decide) ⟨x,H,I1,ru,⟨rfl,fun ys hy=>by rw [I.list_inj hy hq];exact hx⟩,st',fun b hb=>(hf b hb).1⟩⟩
 done:=by
  intro X hP hw hK hc i pins s σ H E I hf st hg
  subst hP hw hK
  obtain⟨xs,hq,hx⟩:=hg
  obtain⟨its,rv,p,hz⟩:=I.list hq
  obtain⟨f0,f1,f2,f3,f4,f5⟩:=hf it (by simp)
  have hl:=rv.length
  exact wpAny_pyNext_list_end (I.ok.hd hc) st p.isList (by simp;omega) fun h' eb=>⟨rfl,I.turned (t':=s.toks) (fun b o hb e=>eb b o hb e) f0 f1 f3 f4 f5⟩
 self:=fun _ _ _ _ _ st h=>wpAny_pyIter_listiter st h
theorem BH{P:Program}{w:World}{K:PySem.W.Frag}{tg:Expr}(a it:Addr):Ee P w K tg (Itt K a) [it] it (fun i h=>h.IsTupleIter it a i) where
 mem:=by simp
 obj:=fun i h st b hb=>by
  have e:b=it:=by simpa using hb
  subst e
  obtain⟨o,e,c,d⟩:=st
  exact⟨o,e,fun v z=>by rw [d] at z;cases z⟩
 keep:=fun i h h' st k=>st.at fun o e=>k it (by simp) o e
 item:=by
  intro X hP hw hK hc i pins s σ H E I hf st hg
  subst hP hw hK
  obtain⟨xs,x,hq,hx⟩:=hg
  obtain⟨its,rv,p,hz⟩:=I.tuple hq
  obtain⟨u,hu,ru⟩:=rv.get hx
  obtain⟨f0,f1,f2,f3,f4,f5⟩:=hf it (by simp)
  refine wpAny_pyNext_tuple_item st (show s.heap.IsTuple a its.toArray from p) (x:=u) (by simpa using hu) fun h' st' sb=>?_
  have I1:Inv X pins σ H { s with heap:=h' }:=I.turned (t':=s.toks) (fun b o hb e=>(sb.2 b hb).trans e) f0 f1 f3 f4 f5
  obtain⟨o,e,c,d⟩:=id st'
  exact⟨u,rfl,Kz (s:={ s with heap:=h' }) e c d (by decide) ⟨x,H,I1,ru,⟨rfl,fun ys hy=>by rw [I.tuple_inj hy hq];exact hx⟩,st',fun b hb=>(hf b hb).1⟩⟩
 done:=by
  intro X hP hw hK hc i pins s σ H E I hf st hg
  subst hP hw hK
  obtain⟨xs,hq,hx⟩:=hg
  obtain⟨its,rv,p,hz⟩:=I.tuple hq
  obtain⟨f0,f1,f2,f3,f4,f5⟩:=hf it (by simp)
  have hl:=rv.length
  exact wpAny_pyNext_tuple_end (I.ok.hd hc) st (show s.heap.IsTuple a its.toArray from p) (by simp;omega) fun h' eb=>⟨rfl,I.turned (t':=s.toks) (fun b o hb e=>eb b o hb e) f0 f1 f3 f4 f5⟩
 self:=fun _ _ _ _ _ st h=>wpAny_pyIter_tupleiter st h
theorem BI{P:Program}{w:World}{K:PySem.W.Frag}{tg:Expr}(it:Addr)(lo:Int)(n:Nat):Ee P w K tg (Itr lo n) [it] it (fun i h=>IsRangeIter h it (lo+(i:Nat) * 1) ((n:Int) - (i:Nat)) 1) where
 mem:=by simp
 obj:=fun i h st b hb=>by
  have e:b=it:=by simpa using hb
  subst e
  exact⟨_,st,fun v z=>by
   have z':Data.fields _=Data.cell v:=z
   cases z'⟩
 keep:=fun i h h' st k=>k it (by simp) _ st
 item:=by
  intro X hP hw hK hc i pins s σ H E I hf st hg
  subst hP hw hK
  obtain⟨f0,f1,f2,f3,f4,f5⟩:=hf it (by simp)
  have W:=Walks.range (prog:=X.prog) (w:=X.w) (I.ok.hd hc) it lo 1 n
  refine W.item i s _ _ hg st fun v h' tk hv st' kk=>?_
  obtain⟨t,rfl⟩:=hv
  have I1:Inv X pins σ H { s with heap:=h',toks:=tk }:=I.turned (fun b o hb e=>kk b o (by simpa using hb) e) f0 f1 f3 f4 f5
  refine⟨_,rfl,Kz (s:={ s with heap:=h',toks:=tk }) (n:="range_iterator") st' rfl rfl (by decide) ⟨.int (lo+i),H,I1,⟨t,?_⟩,⟨rfl,rfl⟩,st',fun b hb=>(hf b hb).1⟩⟩
  rw [Int.mul_one]
 done:=by
  intro X hP hw hK hc i pins s σ H E I hf st hg
  subst hP hw hK
  obtain⟨f0,f1,f2,f3,f4,f5⟩:=hf it (by simp)
  exact wpAny_pyNext_range_end (I.ok.hd hc) st (by have:n<=i:=hg;omega) fun h' eb=>⟨rfl,I.turned (t':=s.toks) (fun b o hb e=>eb b o hb e) f0 f1 f3 f4 f5⟩
 self:=fun _ _ _ _ _ st h=>wpAny_pyIter_rangeiter st h
end L2
namespace L2
open PySem PySem.Spec PyProof.Rows
section
variable{X:Cx}{tg:Expr}
def iList(K:PySem.W.Frag)(tl:TE):TI:=fun σ H R=>tl σ H fun x H1=>∃ a,x=.ref a/\(∃ xs,on K H1 a xs)/\R (Itl K a) H1
theorem Nm{l:Expr}{tl:TE}(hl:PE X l tl):PI X tg l (iList X.K tl):=by
 intro pins s σ H R I h
 refine db (hl pins s σ H _ I h) fun v s1 ⟨x,H1,I1,r1,q1⟩=>?_
 obtain⟨a,e,⟨xs,hq⟩,q⟩:=q1
 subst e
 cases r1
 obtain⟨its,rv,p,hz⟩:=I1.list hq
 refine wpAny_pyIter_list p.isList ?_
 refine⟨s1.heap.objs.size,[s1.heap.objs.size],_,_,H1,rfl,I1.kept (t':=s1.toks) fun b o e=>Heap.get?_push_of_some _ e,vG a _,⟨_,Heap.get?_push_size _ rfl,rfl,rfl⟩,fun b hb=>?_,q⟩
 have e:b=s1.heap.objs.size:=by simpa using hb
 subst e
 exact I1.fpOk (Nat.le_refl _) (I1.hok.fresh (Nat.le_refl _))
theorem zJ{pins:List (Addr×Obj)}{σ:St}{H:Hp}{s:Shared}{R:It->Hp->Prop}{E:Value->Shared->Prop}{lo hi:Int}{t u v:Tok}{tk:Nat}(I:Inv X pins σ H s)(h1:-(2 ^ 62)<=lo)(h2:lo<2 ^ 62)(h3:-(2 ^ 62)<=hi)(h4:hi<2 ^ 62)
  (q:R (Itr lo (hi - lo).toNat) H):wpAny (model X.prog X.w) X.A (pyIter (.ref s.heap.objs.size)) (PIE X pins σ tg R) E { s with heap:=s.heap.push { cls:=.type "range",data:=.fields #[.int lo t,.int hi u,.int 1 v] },toks:=tk }:=by
 refine wpAny_pyIter_range (IsRange.new ..) (small_one h1 h2 h3 h4) ?_
 have I1:Inv X pins σ H { s with heap:=s.heap.push { cls:=.type "range",data:=.fields #[.int lo t,.int hi u,.int 1 v] },toks:=tk }:=I.kept fun b o e=>Heap.get?_push_of_some _ e
 refine⟨(s.heap.push { cls:=.type "range",data:=.fields #[.int lo t,.int hi u,.int 1 v] }).objs.size,[(s.heap.push { cls:=.type "range",data:=.fields #[.int lo t,.int hi u,.int 1 v] }).objs.size],_,_,H,rfl,
  I1.kept (t':=tk) fun b o e=>Heap.get?_push_of_some _ e,BI _ lo (hi - lo).toNat,?_,fun b hb=>?_,q⟩
 ·have e1:lo+((0:Nat):Int) * 1=lo:=by simp
  have e2:(((hi - lo).toNat:Nat):Int) - ((0:Nat):Int)=Builtin.Range.rangeSize lo hi 1:=by rw [rangeSize_one];split <;> omega
  show IsRangeIter _ _ (lo+((0:Nat):Int) * 1) ((((hi - lo).toNat:Nat):Int) - ((0:Nat):Int)) 1
  rw [e1,e2]
  exact Heap.get?_push_size _ rfl
 ·have e:b=(s.heap.push { cls:=.type "range",data:=.fields #[.int lo t,.int hi u,.int 1 v] }).objs.size:=by simpa using hb
  subst e
  exact I1.fpOk (Nat.le_refl _) (I1.hok.fresh (Nat.le_refl _))
def iRng1(ta:TA):TI:=fun σ H R=>ta σ H fun vs H1=>∃ j:Int,vs=[.int j]/\-(2 ^ 62)<=j/\j<2 ^ 62/\R (Itr 0 j.toNat) H1
def iRng2(ta:TA):TI:=fun σ H R=>ta σ H fun vs H1=>∃ i j:Int,vs=[.int i,.int j]/\(-(2 ^ 62)<=i/\i<2 ^ 62/\-(2 ^ 62)<=j/\j<2 ^ 62)/\R (Itr i (j - i).toNat) H1
theorem Gd{a:Expr}{ta:TA}{p pos:Pos}(hg:Gl X "range")(hm:X.mg "range" = none)(ha:PA X [a] ta)(hs:starEach [a] X.env=[(false,eval a X.env)]:=by rfl):PI X tg (.Call (.Name "range" p) [a] [] pos) (iRng1 ta):=by
 intro pins s σ H R I h
 refine Call_ (ly I hg hm boot_range (PyProof.Rows.callWith_type1 (db (ha pos pins s σ H _ I h) fun us s1 ⟨vs,H1,I1,r1,q1⟩=>?_) hs rfl))
 obtain⟨j,e,q1,q2,q⟩:=q1
 subst e
 cases r1 with
 | cons r rr=>
  cases rr
  obtain⟨t,rfl⟩:=r
  exact call_range_1 (zJ I1 (by omega) (by omega) q1 q2 (by simpa using q))
theorem Gc{a b:Expr}{ta:TA}{p pos:Pos}(hg:Gl X "range")(hm:X.mg "range" = none)(ha:PA X [a,b] ta)(hs:starEach [a,b] X.env=[(false,eval a X.env),(false,eval b X.env)]:=by rfl)(hs2:starEach [b] X.env=[(false,eval b X.env)]:=by rfl) :
  PI X tg (.Call (.Name "range" p) [a,b] [] pos) (iRng2 ta):=by
 intro pins s σ H R I h
 refine Call_ (ly I hg hm boot_range (PyProof.Rows.callWith_type1 (db (ha pos pins s σ H _ I h) fun us s1 ⟨vs,H1,I1,r1,q1⟩=>?_) (by rw [hs,hs2]) (by rw [hs2];rfl)))
 obtain⟨i,j,e,⟨q1,q2,q3,q4⟩,q⟩:=q1
 subst e
 cases r1 with
 | cons r rr=>
  cases rr with
  | cons r' rr=>
   cases rr
   obtain⟨t,rfl⟩:=r
   obtain⟨t',rfl⟩:=r'
   exact call_range_2 (zJ I1 q1 q2 q3 q4 q)
def tFor(wi:TI)(g:TG)(tb:TS):TS:=fun D σ H=>wi σ H fun J H1=>∃ W:Nat->Nat->St->Hp->Prop,(∃ m,W 0 m σ H1)/\∀ i m σ H,W i m σ H ->
 (J.stop i H/\D.nx σ H)\/(J.go i H/\∃ N:St->Hp->Prop,(∀ σ' H',N σ' H'->∃ m',m'<m/\W (i+1) m' σ' H')/\∀ x H',J.yld i H x H'->g x σ H' fun σ2 H2=>tb { D with nx:=N,ct:=N,bk:=D.nx } σ2 H2)
noncomputable def sE(fp:List Addr)(h:Heap):List (Addr×Obj):=fp.filterMap fun b=>(h.get? b).map fun o=>(b,o)
theorem lu{fp:List Addr}{h:Heap}{b:Addr}{o:Obj}(hb:b∈fp)(e:h.get? b=some o):(b,o)∈sE fp h:=List.mem_filterMap.mpr ⟨b,hb,by rw [e];rfl⟩
theorem Gk{fp:List Addr}{h:Heap}{p:Addr×Obj}(hp:p∈sE fp h):p.1∈fp/\h.get? p.1=some p.2:=by
 obtain⟨b,hb,e⟩:=List.mem_filterMap.mp hp
 cases q:h.get? b with
 | none=>rw [q] at e;cases e
 | some o=>
  rw [q] at e
  have e':(b,o)=p:=Option.some.inj e
  subst e'
  exact⟨hb,q⟩
theorem Inv.pinned{pins:List (Addr×Obj)}{σ:St}{H:Hp}{s:Shared}{fp:List Addr}(I:Inv X pins σ H s)(hf:∀ b∈fp,qu X pins H b)(ho:∀ b∈fp,∃ o,s.heap.get? b=some o/\∀ v,o.data≠.cell v):Inv X (pins++sE fp s.heap) σ H s:=
 I.pins_of fun p hp=>(List.mem_append.mp hp).elim (fun z=>I.pin p (List.mem_append_right _ z)) fun z=>by
  obtain⟨hb,e⟩:=Gk z
  obtain⟨f0,f1,f2,_⟩:=hf p.1 hb
  obtain⟨o,e',d⟩:=ho p.1 hb
  rw [e] at e';cases e'
  exact⟨e,f0,f1,f2,d⟩
theorem Inv.unpinned{pins pl:List (Addr×Obj)}{σ:St}{H:Hp}{s:Shared}(I:Inv X (pins++pl) σ H s):Inv X pins σ H s:=I.pins_of fun p hp=>I.pin p (List.mem_append_right _ (List.mem_append_left _ hp))
theorem Jm{iter:Expr}{body:List Stmt}{wi:TI}{g:TG}{tb:TS}{pos:Pos}(hp:PassesOwn (model X.prog X.w) X.A X.env X.xe)(hc:X.calm=true)(hi:PI X tg iter wi)(hg:PG X tg g)(hb:PSs X body tb)
  (hs:∀ x,foldedSetIterable iter X.env x=pure x:=by intro _;rfl):PS X (.For tg iter body [] pos) (tFor wi g tb):=by
 intro pins s σ H D I h
 refine wpAny_For (db (hi pins s σ H _ I h) fun v s1 h1=>db h1 fun itv s2 h2=>?_) hs
 obtain⟨it,fp,tn,J,H2,e,I2,T,st2,f2,W,⟨m0,w0⟩,turn⟩:=h2
 subst e
 have stat:∀ {H':Hp},(∀ b∈fp,H' b=none)->∀ b∈fp,qu X pins H' b:=fun hn b hb=>⟨hn b hb,(f2 b hb).2⟩
 refine codeAny_forLoop_any (fun n s'=>∃ i σ' H',Inv X pins σ' H' s'/\tn i s'.heap/\(∀ b∈fp,H' b=none)/\W i n σ' H') ?_ m0 ⟨0,σ,H2,I2,st2,fun b hb=>(f2 b hb).1,w0⟩
 rintro n s3 ⟨i,σ3,H3,I3,st3,fr3,w3⟩
 rcases turn i n σ3 H3 w3 with ⟨stop,qn⟩ | ⟨go,N,hN,step⟩
 ·refine wpAny_passesOwn hp (db (T.done X rfl rfl rfl hc i pins s3 σ3 H3 X.xe I3 (stat fr3) st3 stop) fun r s4 ⟨hr,I4⟩=>?_)
  subst hr
  exact wpAny_execs_nil ⟨σ3,H3,I4,qn⟩
 ·refine wpAny_passesOwn hp (db (T.item X rfl rfl rfl hc i pins s3 σ3 H3 X.xe I3 (stat fr3) st3 go) fun r s4 ⟨u,hr,h4⟩=>?_)
  subst hr
  refine wpAny_passesOwn hp (db h4 fun _ s5 ⟨x,H5,I5,r5,y5,st5,fr5⟩=>?_)
  have I5':=I5.pinned (stat fr5) (T.obj _ _ st5)
  refine wpAny_passesOwn hp (db (hg _ s5 σ3 H5 x u _ I5' r5 (step x H5 y5)) fun _ s6 ⟨σ6,H6,I6,q6⟩=>?_)
  refine wpAny_passesOwn hp (db (hb _ s6 σ6 H6 _ I6 q6) fun f s7 q7=>?_)
  have again:∀ {σ7:St} {H7:Hp},Inv X (pins++sE fp s5.heap) σ7 H7 s7->N σ7 H7->∃ m,m<n/\∃ i σ' H',Inv X pins σ' H' s7/\tn i s7.heap/\(∀ b∈fp,H' b=none)/\W i m σ' H':=fun {σ7 H7} I7 n7=>by
   obtain⟨m',hm,w7⟩:=hN σ7 H7 n7
   refine⟨m',hm,i+1,σ7,H7,I7.unpinned,T.keep _ _ _ st5 fun b hb o e=>(I7.pin (b,o) (List.mem_append_right _ (List.mem_append_right _ (lu hb e)))).1,fun b hb=>?_,w7⟩
   obtain⟨o,e,d⟩:=T.obj _ _ st5 b hb
   exact(I7.pin (b,o) (List.mem_append_right _ (List.mem_append_right _ (lu hb e)))).2.1
  cases f with
  | next=>obtain⟨σ7,H7,I7,n7⟩:=q7;exact again I7 n7
  | cont=>obtain⟨σ7,H7,I7,n7⟩:=q7;exact again I7 n7
  | brk=>obtain⟨σ7,H7,I7,q7⟩:=q7;exact⟨σ7,H7,I7.unpinned,q7⟩
  | ret v=>obtain⟨x7,σ7,H7,I7,r7,q7⟩:=q7;exact⟨x7,σ7,H7,I7.unpinned,r7,q7⟩
end
end L2
namespace L2
open PySem PySem.Spec PyProof.Rows
abbrev R2:=V->V->Hp->VK->Prop
def OpR(X:Cx)(f:Value->Value->Sem Value)(r:R2):Prop:=
 ∀ (pins:List (Addr×Obj)) (s:Shared) (σ:St) (H:Hp) (x y:V) (v u:Value) (Q:VK),Inv X pins σ H s->RelV x v->RelV y u->r x y H Q ->
  wpAny (model X.prog X.w) X.A (f v u) (EP X pins σ Q) X.xe s
def UnR(X:Cx)(f:Value->Sem Value)(r:V->Hp->VK->Prop):Prop:=
 ∀ (pins:List (Addr×Obj)) (s:Shared) (σ:St) (H:Hp) (x:V) (v:Value) (Q:VK),Inv X pins σ H s->RelV x v->r x H Q ->
  wpAny (model X.prog X.w) X.A (f v) (EP X pins σ Q) X.xe s
def CallR(X:Cx)(f:Value)(r:List V->Hp->VK->Prop):Prop:=
 ∀ (pins:List (Addr×Obj)) (s:Shared) (σ:St) (H:Hp) (xs:List V) (us:List Value) (Q:VK),Inv X pins σ H s->Vals xs us->r xs H Q ->
  wpAny (model X.prog X.w) X.A (call f us) (EP X pins σ Q) X.xe s
def TruR(X:Cx)(r:V->Hp->(Bool->Hp->Prop)->Prop):Prop:=
 ∀ (pins:List (Addr×Obj)) (s:Shared) (σ:St) (H:Hp) (x:V) (v:Value) (Q:Bool->Hp->Prop),Inv X pins σ H s->RelV x v->r x H Q ->
  wpAny (model X.prog X.w) X.A (truthy v) (TP X pins σ Q) X.xe s
def tOp(r:R2)(ta tb:TE):TE:=fun σ H Q=>ta σ H fun x H1=>tb σ H1 fun y H2=>r x y H2 Q
def tUn(r:V->Hp->VK->Prop)(ta:TE):TE:=fun σ H Q=>ta σ H fun x H1=>r x H1 Q
noncomputable def rI(C:Int->Int->Prop)(g:Int->Int->V):R2:=fun x y H Q=>∃ i j,x=.int i/\y=.int j/\C i j/\Q (g i j) H
noncomputable def MW(g:Int->Int->V):R2:=fun x y H Q=>∃ i j,x=.int i/\y=.int j/\Q (g i j) H
def rU(g:Int->V):V->Hp->VK->Prop:=fun x H Q=>∃ i,x=.int i/\Q (g i) H
section
variable{X:Cx}{a b c:Expr}{ta tb tc:TE}{pos:Pos}
theorem TL(ha:PE X a ta)(hb:PE X b tb){pins:List (Addr×Obj)}{s:Shared}{σ:St}{H:Hp}{R:V->V->Hp->Prop}(I:Inv X pins σ H s)
  (h:ta σ H fun x H1=>tb σ H1 fun y H2=>R x y H2) {Q:Value->Shared->Prop} {f:Value->Value->Sem Value}
  (hf:∀ v u s2 x y H2,Inv X pins σ H2 s2->RelV x v->RelV y u->R x y H2->wpAny (model X.prog X.w) X.A (f v u) Q X.xe s2) :
  wpAny (model X.prog X.w) X.A (eval a X.env) (fun v s₁=>wpAny (model X.prog X.w) X.A (eval b X.env) (fun u s₂=>wpAny (model X.prog X.w) X.A (f v u) Q X.xe s₂) X.xe s₁) X.xe s:=by
 refine db (ha pins s σ H _ I h) fun v s1 ⟨x,H1,I1,r1,q1⟩=>?_
 refine db (hb pins s1 σ H1 _ I1 q1) fun u s2 ⟨y,H2,I2,r2,q2⟩=>?_
 exact hf v u s2 x y H2 I2 r1 r2 q2
theorem pe_op{op:Operator}{r:R2}(ho:OpR X (binaryOp op) r)(ha:PE X a ta)(hb:PE X b tb):PE X (.BinOp a op b pos) (tOp r ta tb):=by
 intro pins s σ H Q I h
 exact wpAny_BinOp (TL ha hb I h fun v u s2 x y H2 I2 rx ry q=>ho pins s2 σ H2 x y v u Q I2 rx ry q)
theorem pe_un{op:UnaryOp}{r:V->Hp->VK->Prop}(ho:UnR X (unaryOp op) r)(ha:PE X a ta):PE X (.UnaryOp op a pos) (tUn r ta):=by
 intro pins s σ H Q I h
 exact UnaryOp_ (db (ha pins s σ H _ I h) fun v s1 ⟨x,H1,I1,r1,q1⟩=>ho pins s1 σ H1 x v Q I1 r1 q1)
theorem opI{f:Value->Value->Sem Value}{C:Int->Int->Prop}{g:Int->Int->Int}
  (rule:∀ (i j:Int) (t u:Tok) (s:Shared) (Q:Value->Shared->Prop) (E:Value->Shared->Prop),C i j->Q (.int (g i j) s.toks) { s with toks:=s.toks+1 }->wpAny (model X.prog X.w) X.A (f (.int i t) (.int j u)) Q E s) :
  OpR X f (rI C fun i j=>.int (g i j)):=by
 intro pins s σ H x y v u Q I rx ry h
 obtain⟨i,j,rfl,rfl,hc,q⟩:=h
 obtain⟨t,rfl⟩:=rx
 obtain⟨t',rfl⟩:=ry
 exact rule i j t t' s _ _ hc ⟨.int (g i j),H,I.tok _,⟨_,rfl⟩,q⟩
theorem opI0{f:Value->Value->Sem Value}{g:Int->Int->Int}
  (rule:∀ (i j:Int) (t u:Tok) (s:Shared) (Q:Value->Shared->Prop) (E:Value->Shared->Prop),Q (.int (g i j) s.toks) { s with toks:=s.toks+1 }->wpAny (model X.prog X.w) X.A (f (.int i t) (.int j u)) Q E s) :
  OpR X f (MW fun i j=>.int (g i j)):=by
 intro pins s σ H x y v u Q I rx ry h
 obtain⟨i,j,rfl,rfl,q⟩:=h
 obtain⟨t,rfl⟩:=rx
 obtain⟨t',rfl⟩:=ry
 exact rule i j t t' s _ _ ⟨.int (g i j),H,I.tok _,⟨_,rfl⟩,q⟩
theorem NH{f:Value->Value->Sem Value}{g:Int->Int->Bool}
  (rule:∀ (i j:Int) (t u:Tok) (s:Shared) (Q:Value->Shared->Prop) (E:Value->Shared->Prop),Q (.bool (g i j)) s->wpAny (model X.prog X.w) X.A (f (.int i t) (.int j u)) Q E s) :
  OpR X f (MW fun i j=>.bl (g i j)):=by
 intro pins s σ H x y v u Q I rx ry h
 obtain⟨i,j,rfl,rfl,q⟩:=h
 obtain⟨t,rfl⟩:=rx
 obtain⟨t',rfl⟩:=ry
 exact rule i j t t' s _ _ ⟨.bl (g i j),H,I,rfl,q⟩
def CDiv(i j:Int):Prop:=0<j/\j<1073741824
def CPow(i j:Int):Prop:=0<=j/\j<=1000000/\i.natAbs<2 ^ 64
theorem Rt:OpR X (binaryOp .Add) (MW fun i j=>.int (i+j)):=opI0 fun _ _ _ _ _ _ _ q=>add_int q
theorem Rp:OpR X (binaryOp .Sub) (MW fun i j=>.int (i - j)):=opI0 fun _ _ _ _ _ _ _ q=>sub_int q
theorem ND:OpR X (binaryOp .FloorDiv) (rI CDiv fun i j=>.int (i / j)):=opI fun i j _ _ _ _ _ hc q=>by
 have h1:(0:Int)<j:=hc.1
 have h2:j<1073741824:=hc.2
 exact floordiv_int (by omega) (by rw [Int.fdiv_eq_ediv_of_nonneg i (by omega)];exact q) (.inl (PyProof.noPylong_small (by omega)))
theorem Rs:OpR X (binaryOp .Mod) (rI (fun _ j=>0<j) fun i j=>.int (i % j)):=opI fun i j _ _ _ _ _ hc q=>by
 have h1:(0:Int)<j:=hc
 exact mod_int' (by omega) (by rw [Int.fmod_eq_emod_of_nonneg i (by omega)];exact q)
theorem Rr:OpR X (binaryOp .Pow) (rI CPow fun i j=>.int (i ^ j.toNat)):=opI fun _ _ _ _ _ _ _ hc q=>pow_int_small hc.1 hc.2.1 hc.2.2 q
theorem unI{f:Value->Sem Value}{g:Int->Int}
  (rule:∀ (i:Int) (t:Tok) (s:Shared) (Q:Value->Shared->Prop) (E:Value->Shared->Prop),Q (.int (g i) s.toks) { s with toks:=s.toks+1 }->wpAny (model X.prog X.w) X.A (f (.int i t)) Q E s) :
  UnR X f (rU fun i=>.int (g i)):=by
 intro pins s σ H x v Q I rx h
 obtain⟨i,rfl,q⟩:=h
 obtain⟨t,rfl⟩:=rx
 exact rule i t s _ _ ⟨.int (g i),H,I.tok _,⟨_,rfl⟩,q⟩
theorem Qz:UnR X (unaryOp .USub) (rU fun i=>.int (-i)):=unI fun _ _ _ _ _ q=>neg_int q
end
section
variable{X:Cx}{a b c:Expr}{ta tb tc:TE}{pos:Pos}
theorem op_lt:OpR X (compareOp .Lt) (MW fun i j=>.bl (decide (i<j))):=NH fun _ _ _ _ _ _ _ q=>lt_int q
theorem op_le:OpR X (compareOp .LtE) (MW fun i j=>.bl (decide (i<=j))):=NH fun _ _ _ _ _ _ _ q=>le_int q
theorem op_gt:OpR X (compareOp .Gt) (MW fun i j=>.bl (decide (j<i))):=NH fun _ _ _ _ _ _ _ q=>gt_int q
theorem op_ge:OpR X (compareOp .GtE) (MW fun i j=>.bl (decide (j<=i))):=NH fun _ _ _ _ _ _ _ q=>ge_int q
theorem OpR.or{f:Value->Value->Sem Value}{r r':R2}(h:OpR X f r)(h':OpR X f r'):OpR X f (fun x y H Q=>r x y H Q\/r' x y H Q):=by
 intro pins s σ H x y v u Q I rx ry q
 rcases q with q | q
 ·exact h pins s σ H x y v u Q I rx ry q
 ·exact h' pins s σ H x y v u Q I rx ry q
theorem Nt{op:CmpOp}{r:R2}(ho:OpR X (compareOp op) r)(ha:PE X a ta)(hb:PE X b tb)(hm:behindInMarks op b=false):PE X (.Compare a [op] [b] pos) (tOp r ta tb):=by
 intro pins s σ H Q I h
 exact wpAny_Compare1 (TL ha hb I h fun v u s2 x y H2 I2 rx ry q=>ho pins s2 σ H2 x y v u Q I2 rx ry q) hm
def Pw(t:TE):TT:=fun σ H Q=>t σ H fun x H'=>∃ k,x=.bl k/\Q k H'
theorem Nd{op:CmpOp}{r:R2}(ho:OpR X (compareOp op) r)(ha:PE X a ta)(hb:PE X b tb)(hm:behindInMarks op b=false):PT X (.Compare a [op] [b] pos) (Pw (tOp r ta tb)):=by
 intro pins s σ H Q I h
 refine wpAny_isTrue_Compare1 (db (ha pins s σ H _ I h) fun v s1 ⟨x,H1,I1,r1,q1⟩=>db (hb pins s1 σ H1 _ I1 q1) fun u s2 ⟨y,H2,I2,r2,q2⟩=>
  db (ho pins s2 σ H2 x y v u _ I2 r1 r2 q2) fun c s3 ⟨z,H3,I3,r3,k,e,q3⟩=>?_) hm
 subst e
 cases r3
 exact wpAny_truthy_bool ⟨H3,I3,q3⟩
def BK(r r':R2)(ta tb tc:TE):TE:=fun σ H Q=>ta σ H fun x H1=>tb σ H1 fun y H2=>r x y H2 fun z H3=>∃ k,z=.bl k /\
 (if k=true then tc σ H3 fun w' H4=>r' y w' H4 Q else Q (.bl false) H3)
theorem Jy{op op':CmpOp}{r r':R2}(ho:OpR X (compareOp op) r)(ho':OpR X (compareOp op') r')(ha:PE X a ta)(hb:PE X b tb)(hc:PE X c tc)
  (hm:lastMarks [op,op'] [b,c]=false:=by with_unfolding_all rfl):PE X (.Compare a [op,op'] [b,c] pos) (BK r r' ta tb tc):=by
 intro pins s σ H Q I h
 refine Compare_chain (db (ha pins s σ H _ I h) fun v s1 ⟨x,H1,I1,r1,q1⟩=>chain_link (db (hb pins s1 σ H1 _ I1 q1) fun u s2 ⟨y,H2,I2,r2,q2⟩=>
  db (ho pins s2 σ H2 x y v u _ I2 r1 r2 q2) fun d s3 ⟨z,H3,I3,r3,k,e,q3⟩=>?_)) hm
 subst e
 cases r3
 refine wpAny_truthy_bool ?_
 cases k with
 | false=>exact ite_ff ⟨.bl false,H3,I3,rfl,q3⟩
 | true=>exact ite_tt (chain_last (db (hc pins s3 σ H3 _ I3 q3) fun w' s4 ⟨z',H4,I4,r4,q4⟩=>ho' pins s4 σ H4 y z' u w' Q I4 r2 r4 q4))
theorem Jh{op op':CmpOp}{r r':R2}(ho:OpR X (compareOp op) r)(ho':OpR X (compareOp op') r')(ha:PE X a ta)(hb:PE X b tb)(hc:PE X c tc)
  (hm:lastMarks [op,op'] [b,c]=false:=by with_unfolding_all rfl):PT X (.Compare a [op,op'] [b,c] pos) (Pw (BK r r' ta tb tc)):=by
 intro pins s σ H Q I h
 refine isTrue_chain (db (ha pins s σ H _ I h) fun v s1 ⟨x,H1,I1,r1,q1⟩=>test_link (db (hb pins s1 σ H1 _ I1 q1) fun u s2 ⟨y,H2,I2,r2,q2⟩=>
  db (ho pins s2 σ H2 x y v u _ I2 r1 r2 q2) fun d s3 ⟨z,H3,I3,r3,k,e,q3⟩=>?_)) hm
 subst e
 cases r3
 refine wpAny_truthy_bool ?_
 cases k with
 | false=>
  obtain⟨k',e',q'⟩:=q3
  cases e'
  exact ite_ff ⟨H3,I3,q'⟩
 | true=>
  refine ite_tt (test_last (db (hc pins s3 σ H3 _ I3 q3) fun w' s4 ⟨z',H4,I4,r4,q4⟩=>db (ho' pins s4 σ H4 y z' u w' _ I4 r2 r4 q4) fun d' s5 ⟨z2,H5,I5,r5,k2,e2,q5⟩=>?_))
  subst e2
  cases r5
  exact wpAny_truthy_bool ⟨H5,I5,q5⟩
def Ia(K:PySem.W.Frag)(x:V)(H:Hp)(k:Bool):Prop:=
 match x with
 | .non=>k=false
 | .bl b=>k=b
 | .int i=>k=(i != 0)
 | .str y=>y.length<=sizeLine/\k=((y.length:Int) != 0)
 | .byt y=>y.size<=sizeLine/\k=((y.size:Int) != 0)
 | .ref p=>(∃ xs,on K H p xs/\k = !xs.isEmpty)\/(∃ xs,lQ K H p xs/\k = !xs.isEmpty)\/∃ kvs,H p=some (.dK kvs)/\k = !kvs.isEmpty
 | _=>False
theorem Dj{κ:Type}{kvs:List (κ×V)}{vs:List (κ×Value)}(r:KV kvs vs):(!vs.isEmpty) = !kvs.isEmpty:=by
 cases r <;> rfl
theorem tW{xs:List V}{its:List Value}(r:Vals xs its):(!its.toArray.isEmpty) = !xs.isEmpty:=by
 cases r <;> simp
theorem pU:(sizeLine:Nat)<2 ^ 63:=by rw [sizeLine_eq];decide
theorem xc:TruR X (fun x H Q=>∃ k,Ia X.K x H k/\Q k H):=by
 intro pins s σ H x v Q I rx h
 obtain⟨k,e,q⟩:=h
 have hl:=pU
 have hs:sizeLine=16777216:=sizeLine_eq
 cases x with
 | non=>
  cases rx
  have e':k=false:=e
  subst e'
  exact truthy_none ⟨H,I,q⟩
 | bl b=>
  cases rx
  have e':k=b:=e
  subst e'
  exact wpAny_truthy_bool ⟨H,I,q⟩
 | int i=>
  obtain⟨t,rfl⟩:=rx
  have e':k=(i != 0):=e
  subst e'
  exact PySem.P.truthy_int ⟨H,I,q⟩
 | str y=>
  obtain⟨t,rfl⟩:=rx
  obtain⟨hy,e'⟩:y.length<=sizeLine/\k=((y.length:Int) != 0):=e
  subst e'
  exact PySem.P.truthy_str (by omega) ⟨H,I.tok _,q⟩
 | byt y=>
  obtain⟨t,rfl⟩:=rx
  obtain⟨hy,e'⟩:y.size<=sizeLine/\k=((y.size:Int) != 0):=e
  subst e'
  exact PySem.W.truthy_bytes (by omega) ⟨H,I.tok _,q⟩
 | ref p=>
  cases rx
  have e':(∃ xs,on X.K H p xs/\k = !xs.isEmpty)\/(∃ xs,lQ X.K H p xs/\k = !xs.isEmpty)\/∃ kvs,H p=some (.dK kvs)/\k = !kvs.isEmpty:=e
  rcases e' with ⟨xs,hx,e'⟩ | ⟨xs,hx,e'⟩ | ⟨kvs,hx,e'⟩
  ·subst e'
   obtain⟨its,r,pl,hz⟩:=I.list hx
   have hlen:=r.length
   exact wpAny_truthy_list pl.isList (by simp only [List.size_toArray];omega) ⟨H,I.tok _,by rw [tW r];exact q⟩
  ·subst e'
   obtain⟨its,r,pl,hz⟩:=I.tuple hx
   have hlen:=r.length
   exact truthy_tuple pl (by simp only [List.size_toArray];omega) ⟨H,I.tok _,by rw [tW r];exact q⟩
  ·subst e'
   obtain⟨hz,hS,vs,r,m⟩:kvs.length<=sizeLine/\(p == sysModules)=false/\∃ vs,KV kvs vs/\s.heap.DictOf (bZ X.prog X.w) p vs:=I.hok p _ hx
   have hlen:kvs.length=vs.length:=Paired.length r
   exact wpAny_truthy_dict hS m (by omega) ⟨H,I.tok _,by rw [Dj r];exact q⟩
 | _=>exact(show False from e).elim
theorem Jg(ha:PE X a ta)(he:∀ whole,isTrue a X.env whole=(do let v <- whole;standAt a.pos;holding [v] (truthy v))) :
  PT X a (fun σ H Q=>ta σ H fun x H'=>∃ k,Ia X.K x H' k/\Q k H'):=by
 intro pins s σ H Q I h
 exact isTrue_plain (db (ha pins s σ H _ I h) fun v s1 ⟨x,H1,I1,r1,q1⟩=>xc pins s1 σ H1 x v Q I1 r1 q1) (he _)
theorem Cj:OpR X (binaryOp .Add) (fun x y H Q=>∃ i j,x=.str i/\y=.str j/\i.length+j.length<=sizeLine/\Q (.str (i++j)) H):=by
 intro pins s σ H x y v u Q I rx ry h
 obtain⟨i,j,rfl,rfl,hz,q⟩:=h
 obtain⟨t,rfl⟩:=rx
 obtain⟨t',rfl⟩:=ry
 exact add_str (fun t' tk=>⟨.str (i++j),H,I.tok _,⟨_,rfl⟩,q⟩) hz
theorem qv{x:V}{us:List Value}(r:Vals [x] us):∃ u,us=[u]/\RelV x u:=by
 cases r with
 | cons r1 r2=>cases r2;exact⟨_,rfl,r1⟩
theorem Ir{x y:V}{us:List Value}(r:Vals [x,y] us):∃ u w',us=[u,w']/\RelV x u/\RelV y w':=by
 cases r with
 | cons r1 r2=>
  cases r2 with
  | cons r3 r4=>cases r4;exact⟨_,_,rfl,r1,r3⟩
theorem HQ(hc:X.calm=true):CallR X (.builtin "max") (fun xs H Q=>∃ i j,xs=[.int i,.int j]/\Q (.int (if j>i then j else i)) H):=by
 intro pins s σ H xs us Q I r h
 obtain⟨i,j,rfl,q⟩:=h
 obtain⟨u,w',rfl,⟨t,rfl⟩,⟨t',rfl⟩⟩:=Ir r
 refine max_two_ints (I.ok.hd hc) fun h' tk k=>⟨_,H,I.kept k,?_,q⟩
 by_cases hj:j>i
 ·rw [if_pos hj,if_pos hj];exact⟨_,rfl⟩
 ·rw [if_neg hj,if_neg hj];exact⟨_,rfl⟩
theorem HN(hc:X.calm=true):CallR X (.builtin "min") (fun xs H Q=>∃ i j,xs=[.int i,.int j]/\Q (.int (if j<i then j else i)) H):=by
 intro pins s σ H xs us Q I r h
 obtain⟨i,j,rfl,q⟩:=h
 obtain⟨u,w',rfl,⟨t,rfl⟩,⟨t',rfl⟩⟩:=Ir r
 refine min_two_ints (I.ok.hd hc) fun h' tk k=>⟨_,H,I.kept k,?_,q⟩
 by_cases hj:j<i
 ·rw [if_pos hj,if_pos hj];exact⟨_,rfl⟩
 ·rw [if_neg hj,if_neg hj];exact⟨_,rfl⟩
theorem HR:CallR X (.type "int") (fun xs H Q=>(∃ i,xs=[.int i]/\Q (.int i) H)\/∃ k,xs=[.bl k]/\Q (.int (if k then 1 else 0)) H):=by
 intro pins s σ H xs us Q I r h
 rcases h with ⟨i,rfl,q⟩ | ⟨k,rfl,q⟩
 ·obtain⟨u,rfl,t,rfl⟩:=qv r
  exact call_int_int ⟨.int i,H,I,⟨_,rfl⟩,q⟩
 ·obtain⟨u,rfl,r1⟩:=qv r
  cases r1
  exact call_int_bool ⟨.int (if k then 1 else 0),H,I.tok _,⟨_,rfl⟩,q⟩
end
end L2
namespace L2
open PySem PySem.Spec PyProof.Rows
section
variable{prog:Program}{w:World}{A:Around}{E:Value->Shared->Prop}{s:Shared}{K:PySem.W.Frag}{x dx C f:Addr}{mA:Str->Option Value}{name:Str}{v:Value}
end
theorem RelO.some_of{v:V}{o:Option Value}(r:RelO (some v) o):∃ u,o=some u/\RelV v u:=by
 cases o with
 | none=>exact(show False from r).elim
 | some u=>exact⟨u,rfl,r⟩
section
variable{P:Program}{w:World}{H H':Hp}{h h':Heap}{a C dx:Addr}{fs fs':List (Str×V)}
end
section
variable{X:Cx}{pins:List (Addr×Obj)}{σ:St}{H:Hp}{s:Shared}{a C dx:Addr}{fs:List (Str×V)}{f:Str}{v:V}{A:Around}{E:Value->Shared->Prop}
end
section
variable{X:Cx}{o e value:Expr}{f:Str}{pos pos' tpos:Pos}{ta tv:TE}
end
section
variable{X:Cx}{pins:List (Addr×Obj)}{σ:St}{H:Hp}{s:Shared}{A:Around}{E:Value->Shared->Prop}{Q:Value->Shared->Prop}{c:Value}{b:Bool}
end
end L2
namespace L2
open PySem PySem.Spec PyProof.Rows
structure Room(k:Nat)(A:Around):Prop where
 hd:A.handled=none
 dp:A.depth+3 * k+5<recursionLimit
 un:A.units+16 * k+200<cLine
theorem Room.mono{j k:Nat}{A:Around}(r:Room k A)(h:j<=k):Room j A:=⟨r.hd,by have:=r.dp;omega,by have:=r.un;omega⟩
theorem Room.deeper{k:Nat}{A:Around}(r:Room (k+1) A)(env:Env):Room k (A.deeper env):=
 ⟨r.hd,by have:=r.dp;show A.depth+1+3 * k+5<_;omega,by have:=r.un;show A.units+3+16 * k+200<_;omega⟩
theorem Room.depth{k:Nat}{A:Around}(r:Room k A):A.depth<recursionLimit:=by have:=r.dp;omega
theorem Room.units{k:Nat}{A:Around}(r:Room k A):A.units+64<cLine:=by have:=r.un;omega
def tNil:TA:=fun _ H Q=>Q [] H
def tCons(ta:TE)(tr:TA):TA:=fun σ H Q=>ta σ H fun x H1=>tr σ H1 fun xs H2=>Q (x::xs) H2
section
variable{X:Cx}{e:Expr}{es:List Expr}{te:TE}{t:TA}{pos:Pos}
theorem JC:PA X [] tNil:=fun _ _ _ _ H Q I h=>Calls.spliced_nil ⟨[],H,I,.nil,h⟩
theorem xN(ha:PE X e te)(hr:PA X es t)(hs:starEach (e::es) X.env=(false,eval e X.env)::starEach es X.env:=by rfl):PA X (e::es) (tCons te t):=by
 intro pos pins s σ H Q I h
 rw [hs]
 show wpAny _ _ (spliced ((false,eval e X.env)::backTo pos (starEach es X.env))) _ _ s
 refine Calls.spliced_cons (db (ha pins s σ H _ I h) fun u s1 ⟨x,H1,I1,r1,q1⟩=>?_)
 exact db (hr pos pins s1 σ H1 _ I1 q1) fun us s2 ⟨xs,H2,I2,r2,q2⟩=>⟨x::xs,H2,I2,.cons r1 r2,q2⟩
def tTup(t:TA):TE:=fun σ H Q=>t σ H fun xs H1=>xs.length<=sizeLine/\∀ p,H1 p=none->Q (.ref p) (upd H1 p (.tup xs))
def tLst(t:TA):TE:=fun σ H Q=>t σ H fun xs H1=>xs.length<=sizeLine/\∀ p,H1 p=none->Q (.ref p) (upd H1 p (.lst xs))
theorem Ra{x1}(h:PA X es t):PE X (.Tuple es x1 pos) (tTup t):=by
 intro pins s σ H Q I hq
 refine wpAny_Tuple_spliced (db (h pos pins s σ H _ I hq) fun us s1 ⟨xs,H1,I1,r,z,q⟩=>⟨by rw [<- r.length];exact z,?_⟩)
 have hf:H1 s1.heap.objs.size=none:=I1.hok.fresh (Nat.le_refl _)
 refine⟨.ref s1.heap.objs.size,upd H1 s1.heap.objs.size (.tup xs),I1.laid (t':=s1.toks) (fun b u e=>Heap.get?_push_of_some _ e) (Nat.le_refl _) ?_,rfl,q _ hf⟩
 exact⟨z,us,r,⟨_,Heap.get?_push_size _ rfl,rfl,⟨_,rfl⟩,rfl⟩⟩
theorem Jt(h:PA X es t):PE X (.List es pos) (tLst t):=by
 intro pins s σ H Q I hq
 refine wpAny_List_spliced (db (h pos pins s σ H _ I hq) fun us s1 ⟨xs,H1,I1,r,z,q⟩=>⟨by rw [<- r.length];exact z,?_⟩)
 have hf:H1 s1.heap.objs.size=none:=I1.hok.fresh (Nat.le_refl _)
 refine⟨.ref s1.heap.objs.size,upd H1 s1.heap.objs.size (.lst xs),I1.laid (t':=s1.toks) (fun b u e=>Heap.get?_push_of_some _ e) (Nat.le_refl _) ?_,rfl,q _ hf⟩
 exact⟨z,us,0,r,Heap.get?_push_size _ rfl⟩
end
abbrev Sp:=List V->Hp->VK->XK->Prop
abbrev Ih:=List Env->Hp->Shared->XK->Value->Shared->Prop
structure Pv(P:Program)(w:World)(K:PySem.W.Frag)(mg:Str->Option Value)(base:Heap)(A:Around)(outer:List Env)(s:Shared)(H:Hp):Prop where
 frames:A.frames=some outer
 mod:Mod K mg base
 bs:∀ b o,base.get? b=some o->s.heap.get? b=some o/\H b=none
 bsz:base.objs.size<=s.heap.objs.size
 funs:s.heap.FunFrames base outer
 frf:∀ b∈Ig outer,H b=none
 hok:HOk P w H s.heap
 bare:AllBare s.gens
def CE(outer:List Env)(P:Program)(w:World)(H:Hp)(s:Shared)(Q:VK)(u:Value)(s':Shared):Prop:=
 ∃ v H',s'.os=s.os/\AllBare s'.gens/\Un (Ig outer) [] H H' s.heap s'.heap/\HOk P w H' s'.heap/\RelV v u/\Q v H'
def CR(CX:Ih)(outer:List Env)(P:Program)(w:World)(H:Hp)(s:Shared)(Q:VK)(E:XK)(r:Result)(s':Shared):Prop:=
 match r with
 | .ok (.ret u)=>CE outer P w H s Q u s'
 | .ok _=>False
 | .error e=>CX outer H s E e s'
structure FnOk(P:Program)(w:World)(K:PySem.W.Frag)(mg:Str->Option Value)(base:Heap)(CX:Ih)(k:Nat)(f:Addr)(fd:FuncData)(ps:List Str)(sp:Sp):Prop where
 len:∀ vs H Q E,sp vs H Q E->vs.length=ps.length
 run:∀ (A:Around) (outer:List Env) (s:Shared) (H:Hp) (args:Args) (us:List Value) (vs:List V) (Q:VK) (E:XK),Room k A->Pv P w K mg base A outer s H->BindsTo s fd args (ps.zip us)->Vals vs us->sp vs H Q E ->
  codeAny (model P w) A (.call (.ref f) args) (CR CX outer P w H s Q E) s
theorem FnOk.mono{P:Program}{w:World}{K:PySem.W.Frag}{mg:Str->Option Value}{base:Heap}{CX:Ih}{j k:Nat}{f:Addr}{fd:FuncData}{ps:List Str}{sp:Sp}(F:FnOk P w K mg base CX j f fd ps sp)(h:j<=k) :
  FnOk P w K mg base CX k f fd ps sp:=⟨F.len,fun A outer s H args us vs Q E hr=>F.run A outer s H args us vs Q E (hr.mono h)⟩
section
variable{X:Cx}{pins:List (Addr×Obj)}{σ:St}{H:Hp}{s s':Shared}
theorem Inv.env0(I:Inv X pins σ H s):Pv X.prog X.w X.K X.mg X.base X.A X.stack s H:=
 ⟨I.ok.frames,I.ok.mod,I.bs,Nat.le_trans I.ok.bsz I.sz,I.stack,I.stkFree,I.hok,I.bare⟩
theorem Inv.after{Q:VK}{u:Value}(I:Inv X pins σ H s)(h:CE X.stack X.prog X.w H s Q u s'):EP X pins σ Q u s':=by
 obtain⟨v,H',os,bare,un,hok,r,q⟩:=h
 obtain⟨hh,g,d,t,os'⟩:=s'
 obtain rfl:os'=s.os:=os
 exact⟨v,H',I.call (h':=hh) (g':=g) (d':=d) (t':=t) (ch:=[]) un hok bare (fun b z=>absurd z (by simp)),r,q⟩
end
def Eo(sp:Sp)(dvs:List V)(E:XK)(t:TA):TE:=fun σ H Q=>t σ H fun vs H1=>sp (vs++dvs) H1 Q E
def Binds(K:PySem.W.Frag)(fd:FuncData)(ps:List Str)(ds:List Value):Prop:=
 ∀ (s:Shared) (us:List Value),K.In s.heap->(us++ds).length=ps.length->BindsTo s fd ⟨us,[]⟩ (ps.zip (us++ds))
theorem Binds.all{K:PySem.W.Frag}{fd:FuncData}{ps:List Str}(h:∀ us:List Value,us.length=ps.length->bindArgs fd ⟨us,[]⟩=pure (ps.zip us)):Binds K fd ps []:=fun s us _ hl=>by
 rw [List.append_nil] at hl ⊢
 exact .of_eq (h us hl)
def zh(CX:Ih)(X:Cx)(E:XK):Prop:=∀ (pins:List (Addr×Obj)) (σ:St) (H:Hp) (s:Shared) (e:Value) (s':Shared),Inv X pins σ H s->CX X.stack H s E e s'->X.xe e s'
section
variable{X:Cx}{CX:Ih}{k:Nat}{f C:Addr}{fd:FuncData}{ps:List Str}{sp:Sp}{dvs:List V}{ds:List Value}{E:XK}{x m:Str}{p pos apos:Pos}{e o:Expr}{es:List Expr}{ta:TE}{t:TA}
theorem Cb{pins:List (Addr×Obj)}{σ:St}{H:Hp}{s:Shared}{Q:VK}{us:List Value}{vs:List V}(F:FnOk X.prog X.w X.K X.mg X.base CX k f fd ps sp)(hr:Room k X.A)(hb:Binds X.K fd ps ds)(hd:Vals dvs ds)(hx:zh CX X E)
  (I:Inv X pins σ H s) (r:Vals vs us) (h:sp (vs++dvs) H Q E):wpAny (model X.prog X.w) X.A (call (.ref f) us) (EP X pins σ Q) X.xe s:=by
 have r2:Vals (vs++dvs) (us++ds):=r.append hd
 have hl:(us++ds).length=ps.length:=by rw [<- r2.length];exact F.len _ _ _ _ h
 refine wpAny_call (codeAny_mono (F.run X.A X.stack s H ⟨us,[]⟩ (us++ds) (vs++dvs) Q E hr I.env0 (hb s us I.kIn hl) r2 h) fun r s' hq=>?_)
 cases r with
 | error e=>exact hx pins σ H s e s' I hq
 | ok fl=>
  cases fl with
  | ret u=>exact I.after hq
  | next=>exact False.elim hq
  | brk=>exact False.elim hq
  | cont=>exact False.elim hq
theorem Nu(F:FnOk X.prog X.w X.K X.mg X.base CX k f fd ps sp)(hr:Room k X.A)(hg:Gl X x)(hm:X.mg x=some (.ref f))(hk:PySem.W.keepIn X.K (.ref f)=true)(hb:Binds X.K fd ps ds)(hd:Vals dvs ds)(hx:zh CX X E)
  (ha:PA X (e::es) t) (hdb:(x == ("__debug__":Str))=false:=by decide) (he:starEach (e::es) X.env=(false,eval e X.env)::starEach es X.env:=by rfl) (hpl:(backTo pos (starEach es X.env)).any (·.1)=false:=by rfl) :
  PE X (.Call (.Name x p) (e::es) [] pos) (Eo sp dvs E t):=by
 intro pins s σ H Q I h
 refine wpAny_Call_Name_kw (yq I hg hm ?_ hdb)
 refine PySem.W.callWith_K (h₀:=X.base) I.ok.mod.kin hk (db (ha pos pins s σ H _ I h) fun us s1 ⟨vs,H1,I1,r,q⟩=>⟨I1.kIn,?_⟩) he hpl
 exact Cb F hr hb hd hx I1 r q
theorem JA(F:FnOk X.prog X.w X.K X.mg X.base CX k f fd ps sp)(hr:Room k X.A)(hg:Gl X x)(hm:X.mg x=some (.ref f))(hk:PySem.W.keepIn X.K (.ref f)=true)(hb:Binds X.K fd ps ds)(hd:Vals dvs ds)(hx:zh CX X E)
  (hdb:(x == ("__debug__":Str))=false:=by decide):PE X (.Call (.Name x p) [] [] pos) (Eo sp dvs E tNil):=by
 intro pins s σ H Q I h
 refine wpAny_Call_Name_kw (yq I hg hm ?_ hdb)
 exact PySem.W.callWith_K0 I.kIn hk (Cb (us:=[]) F hr hb hd hx I .nil h)
end
section
variable{X:Cx}{CX:Ih}{k:Nat}{f C:Addr}{fd:FuncData}{ps ks:List Str}{sp:Sp}{E:XK}{x m:Str}{p pos apos kpos:Pos}{e o:Expr}{es:List Expr}{kws:List Keyword}{te ta:TE}{t tk:TA}{nm:Option Str}
variable{g:List Value->List Value->List Value}{gV:List V->List V->List V}
end
structure aT(N P:List Str)(sc:Scope):Prop where
 kind:sc.kind=.function
 co:sc.isCoroutine=false
 gen:sc.isGenerator=false
 nd:N.Nodup
 pre:N.take P.length=P
 par:∀ x∈P,sc.names.lookup x=some .local\/sc.names.lookup x=some .cell
 nofree:∀ y∈sc.names,y.2≠.free
theorem wT{kindOf:Str->Option NameKind}{x:Str}:∀ {binds:List (Str×Value)} {m:Str->Option Value},(∀ v,(x,v) ∉ binds)->bindL kindOf binds m x=m x
 | [],_,_=>rfl
 | (n,v)::r,m,h=>by
  unfold bindL
  rw [wT fun w hw=>h w (List.mem_cons_of_mem _ hw)]
  split
  ·have:x≠n:=by rintro rfl;exact h v List.mem_cons_self
   simp [this]
  ·rfl
theorem wV{kindOf:Str->Option NameKind}{x:Str}:∀ {binds:List (Str×Value)} {m:Str->Option Value},(∀ v,(x,v) ∉ binds)->bindC kindOf binds m x=m x
 | [],_,_=>rfl
 | (n,v)::r,m,h=>by
  unfold bindC
  rw [wV fun w hw=>h w (List.mem_cons_of_mem _ hw)]
  split
  ·rfl
  ·have:x≠n:=by rintro rfl;exact h v List.mem_cons_self
   simp [this]
theorem wU{kindOf:Str->Option NameKind}{x:Str}{v:Value}:∀ {P:List Str} {vs:List Value} {i:Nat} {m:Str->Option Value},P.Nodup->P[i]?=some x->vs[i]?=some v->kindOf x=some .local ->
  bindL kindOf (P.zip vs) m x=some v
 | [],_,_,_,_,h,_,_=>by simp at h
 | _::_,[],_,_,_,_,h,_=>by simp at h
 | p::P,w::vs,0,m,nd,h1,h2,hk=>by
  simp at h1 h2;subst h1;subst h2
  show bindL kindOf ((p,w)::P.zip vs) m p=_
  unfold bindL
  rw [wT fun v hv=>(List.nodup_cons.mp nd).1 (List.of_mem_zip hv).1,if_pos hk]
  simp
 | p::P,w::vs,i+1,m,nd,h1,h2,hk=>by
  show bindL kindOf ((p,w)::P.zip vs) m x=_
  unfold bindL
  exact wU (i:=i) (List.nodup_cons.mp nd).2 (by simpa using h1) (by simpa using h2) hk
theorem wW{kindOf:Str->Option NameKind}{x:Str}{v:Value}:∀ {P:List Str} {vs:List Value} {i:Nat} {m:Str->Option Value},P.Nodup->P[i]?=some x->vs[i]?=some v->kindOf x≠some .local ->
  bindC kindOf (P.zip vs) m x=some v
 | [],_,_,_,_,h,_,_=>by simp at h
 | _::_,[],_,_,_,_,h,_=>by simp at h
 | p::P,w::vs,0,m,nd,h1,h2,hk=>by
  simp at h1 h2;subst h1;subst h2
  show bindC kindOf ((p,w)::P.zip vs) m p=_
  unfold bindC
  rw [wV fun v hv=>(List.nodup_cons.mp nd).1 (List.of_mem_zip hv).1,if_neg hk]
  simp
 | p::P,w::vs,i+1,m,nd,h1,h2,hk=>by
  show bindC kindOf ((p,w)::P.zip vs) m x=_
  unfold bindC
  exact wW (i:=i) (List.nodup_cons.mp nd).2 (by simpa using h1) (by simpa using h2) hk
noncomputable def start(N:List Str)(vs:List V):St:=vs.map some++List.replicate (N.length - vs.length) none
noncomputable def vz(CX:Ih)(P:Program)(w:World)(K:PySem.W.Frag)(mg:Str->Option Value)(base:Heap)(N:List Str)(qual:Str)(scope:Scope)(f:Addr)(cd:Value)(A:Around)(outer:List Env)(s:Shared)(H:Hp)(E:XK):Cx where
 prog:=P
 w:=w
 K:=K
 mg:=mg
 base:=base
 A:=A.deeper (envOfC qual scope s.heap.objs.size f cd)
 N:=N
 s₀:=s
 H₀:=H
 env:=envOfC qual scope s.heap.objs.size f cd
 outer:=outer
 stack:=envOfC qual scope s.heap.objs.size f cd::outer
 ex:=[]
 calm:=true
 fn:=fun _=>true
 pn:=[]
 xe:=fun e s'=>wpAny (model P w) (A.deeper (envOfC qual scope s.heap.objs.size f cd)) (leaving (envOfC qual scope s.heap.objs.size f cd) e) (fun _ s''=>CX outer H s E e s'') (fun e' s''=>CX outer H s E e' s'') s'
theorem Bw{sc:Scope}{n:Nat}{x:Str}(h:sc.names.lookup x=some .cell):∃ c,(cellsFrom n sc.names []).lookup x=some c:=by
 have q:=PySem.W.cellsFrom_some sc.names n [] (.inl h)
 exact Option.isSome_iff_exists.mp q
theorem GT{CX:Ih}{P:Program}{w:World}{K:PySem.W.Frag}{mg:Str->Option Value}{base:Heap}{N ps:List Str}{qual:Str}{scope:Scope}{f:Addr}{cd:Value}{A:Around}{outer:List Env}{s s1:Shared}{H:Hp}{E:XK}{us:List Value}{vs:List V}
  (S:aT N ps scope) (hd:A.handled=none) (e0:Pv P w K mg base A outer s H) (hl:vs.length=ps.length) (r:Vals vs us)
  (x:InCallC s s.heap.objs.size (bindL (envOfC qual scope s.heap.objs.size f cd).kindOf (ps.zip us) fun _=>none) (cellsFrom (s.heap.objs.size+1) scope.names []) (bindC (envOfC qual scope s.heap.objs.size f cd).kindOf (ps.zip us) fun _=>none) s1) :
  Inv (vz CX P w K mg base N qual scope f cd A outer s H E) [] (start N vs) H s1:=by
 have hpl:ps.length<=N.length:=by have:=congrArg List.length S.pre;rw [List.length_take] at this;omega
 obtain⟨h1,tk,rfl,hk⟩:=x.done
 have noA:∀ b:Addr,b ∉ (vz CX P w K mg base N qual scope f cd A outer s H E).ex:=fun b z=>absurd (show b∈([]:List Addr) from z) (by simp)
 refine⟨⟨e0.mod,S.kind,rfl,rfl,Nat.le_refl _,fun y z c h1 h2=>?_,fun y hy=>?_,fun y c _ h=>?_,fun _=>hd,Around.frames_deeper e0.frames,.inr ⟨rfl,rfl⟩,fun b z=>absurd z (noA b),e0.bs,e0.bsz,fun b _ _=>noA b,fun b z=>absurd z (noA b),e0.funs,e0.frf⟩,
  rfl,e0.bare,Un.kept hk,⟨_,x.toInCall.ns,fun i y v h1 h2 h3=>?_⟩,fun y c h=>⟨_,x.cell y c h⟩,e0.hok.fresh (Nat.le_refl _),fun y c h=>?_,fun p hp=>absurd (show p∈([]:List (Addr×Obj)) from hp) (by simp),e0.hok.kept hk,?_⟩
 ·exact name_of_addr x.apart (PySem.mem_of_lookup h1) (PySem.mem_of_lookup h2)
 ·have hy:scope.names.lookup y=some .cell\/scope.names.lookup y=some .free:=hy
  rcases hy with hy | hy
  ·exact Bw hy
  ·exact absurd rfl (S.nofree _ (PySem.mem_of_lookup hy))
 ·exact Nat.le_of_lt (x.above y c (PySem.mem_of_lookup h))
 ·have hi:i<vs.length:=by
   unfold start at h2
   by_cases hi:i<vs.length
   ·exact hi
   ·rw [List.getElem?_append_right (by simpa using hi)] at h2
    rw [List.getElem?_replicate] at h2
    split at h2 <;> cases h2
  have ha:vs[i]?=some v:=by
   unfold start at h2
   rw [List.getElem?_append_left (by simpa using hi),List.getElem?_map] at h2
   cases e:vs[i]? with
   | none=>rw [e] at h2;cases h2
   | some a=>rw [e] at h2;cases h2;rfl
  obtain⟨u,hu,rv⟩:=r.get ha
  have hp:ps[i]?=some y:=by
   rw [<- S.pre,List.getElem?_take_of_lt (by omega)];exact h1
  have ndP:ps.Nodup:=by rw [<- S.pre];exact S.nd.sublist (List.take_sublist _ _)
  refine⟨u,rv,?_⟩
  rcases S.par y (List.mem_of_getElem? hp) with k | k
  ·exact .inl ⟨k,wU ndP hp hu k⟩
  ·obtain⟨c,e⟩:=Bw (n:=s.heap.objs.size+1) k
   refine .inr ⟨.inl k,c,e,?_⟩
   have q:=x.cell y c e
   rw [wW ndP hp hu (by show scope.names.lookup y≠_;rw [k];decide)] at q
   exact q
 ·exact e0.hok.fresh (Nat.le_of_lt (x.above y c (PySem.mem_of_lookup h)))
 ·unfold start
  show _=N.length
  rw [List.length_append,List.length_map,List.length_replicate]
  omega
theorem fn_of{CX:Ih}{P:Program}{w:World}{K:PySem.W.Frag}{mg:Str->Option Value}{base:Heap}{k:Nat}{f:Addr}{name qual:Str}{params:Arguments}{body:List Stmt}{scope:Scope}{dV kV doc pm cdv ct oc:Value}{an od:Option Addr}
  {osl:Array (Option Value)} {N ps:List Str} {sp:Sp} (lk:K.lookup f=some ⟨oc,od,.func (PySem.W.fnOf name qual params body scope dV kV doc pm an cdv ct),osl⟩) (hcd:PySem.W.codeIn K cdv qual=true) (S:aT N ps scope)
  (len:∀ vs H Q E,sp vs H Q E->vs.length=ps.length)
  (hbody:∀ (A:Around) (outer:List Env) (s:Shared) (H:Hp) (vs:List V) (Q:VK) (E:XK),Room k (A.deeper (envOfC qual scope s.heap.objs.size f cdv))->sp vs H Q E ->
   ∃ t,PSs (vz CX P w K mg base N qual scope f cdv A outer s H E) body t/\t { nx:=fun _ H'=>Q .non H',rt:=Q } (start N vs) H) :
  FnOk P w K mg base CX (k+1) f (PySem.W.fnOf name qual params body scope dV kV doc pm an cdv ct) ps sp:=by
 refine⟨len,fun A outer s H args us vs Q E hr e0 hb r hsp=>?_⟩
 have hl:=len _ _ _ _ hsp
 have KX:K.In s.heap:=e0.mod.kin.keeps fun b o e=>(e0.bs b o e).1
 have lim:s.heap.NoLimit:=e0.mod.nolimit.keeps fun b o e=>(e0.bs b o e).1
 have hkind:∀ y∈ps.zip us,scope.names.lookup y.1=some .local\/(scope.names.lookup y.1=some .cell/\((cellsFrom (s.heap.objs.size+1) scope.names []).lookup y.1).isSome=true):=fun⟨n,v⟩ hy=>by
  rcases S.par n (List.of_mem_zip hy).1 with q | q
  ·exact .inl q
  ·exact .inr ⟨q,PySem.W.cellsFrom_some _ _ _ (.inl q)⟩
 refine codeAny_call_function hr.depth (KX _ _ lk) rfl S.co S.gen rfl (PySem.W.codeRec_of KX hcd) (hb _ _ _ _ ?_)
 refine wpAny_newFunctionEnv_cells S.kind hkind fun env he s1 x=>?_
 subst he
 refine⟨lim.keeps x.toInCall.keep,codeAny_func ?_⟩
 obtain⟨t,ht,hq⟩:=hbody A outer s H vs Q E (hr.deeper _) hsp
 have I:Inv (vz CX P w K mg base N qual scope f cdv A outer s H E) [] (start N vs) H s1:=GT S hr.hd e0 hl r x
 refine wpAny_mono (ht [] s1 (start N vs) H _ I hq) (fun fl s' hs=>?_) fun e s' hs=>hs
 have fin:∀ {σ':St} {H':Hp} {v:V} {u:Value},Inv (vz CX P w K mg base N qual scope f cdv A outer s H E) [] σ' H' s'->RelV v u->Q v H'->CE outer P w H s Q u s':=
  fun {σ' H' v u} J rv q=>⟨v,H',J.os,J.bare,J.base,J.hok,rv,q⟩
 cases fl with
 | ret u=>
  obtain⟨v,σ',H',J,rv,q⟩:=hs
  exact fin J rv q
 | next=>
  obtain⟨σ',H',J,q⟩:=hs
  exact fin (v:=V.non) (u:=Value.none) J rfl q
 | brk=>
  obtain⟨_,_,_,q⟩:=hs
  exact False.elim q
 | cont=>
  obtain⟨_,_,_,q⟩:=hs
  exact False.elim q
end L2
namespace L2
open PySem PySem.Spec PyProof.Rows
section
variable{X:Cx}{x:Str}{p pos:Pos}{e:Expr}{es:List Expr}{t:TA}{id T:String}{r:List V->Hp->VK->Prop}
def tCB(r:List V->Hp->VK->Prop)(t:TA):TE:=fun σ H Q=>t σ H fun vs H1=>r vs H1 Q
theorem zO(hc:CallR X (.builtin id) r)(hg:Gl X x)(hm:X.mg x=none)(hv:bootBuiltins x=some (.builtin id))(ha:PA X (e::es) t)(hn:x ≠ "__name__":=by decide)(hdb:(x == ("__debug__":Str))=false:=by decide)
  (he:starEach (e::es) X.env=(false,eval e X.env)::starEach es X.env:=by rfl) (hpl:(backTo pos (starEach es X.env)).any (·.1)=false:=by rfl):PE X (.Call (.Name x p) (e::es) [] pos) (tCB r t):=by
 intro pins s σ H Q I h
 refine wpAny_Call_Name_kw (ly I hg hm hv ?_ hn hdb)
 exact PyProof.Rows.callWith_builtin1 (db (ha pos pins s σ H _ I h) fun us s1 ⟨vs,H1,I1,r1,q1⟩=>hc pins s1 σ H1 vs us Q I1 r1 q1) he hpl
theorem Ge(hc:CallR X (.type T) r)(hg:Gl X x)(hm:X.mg x=none)(hv:bootBuiltins x=some (.type T))(ha:PA X (e::es) t)(hn:x ≠ "__name__":=by decide)(hdb:(x == ("__debug__":Str))=false:=by decide)
  (he:starEach (e::es) X.env=(false,eval e X.env)::starEach es X.env:=by rfl) (hpl:(backTo pos (starEach es X.env)).any (·.1)=false:=by rfl):PE X (.Call (.Name x p) (e::es) [] pos) (tCB r t):=by
 intro pins s σ H Q I h
 refine wpAny_Call_Name_kw (ly I hg hm hv ?_ hn hdb)
 exact PyProof.Rows.callWith_type1 (db (ha pos pins s σ H _ I h) fun us s1 ⟨vs,H1,I1,r1,q1⟩=>hc pins s1 σ H1 vs us Q I1 r1 q1) he hpl
end
end L2
namespace HT
open PySem PyProof.Rows
section
open PySem.SeqAt
open PySem.AutoSeq1 (wpAny_loadPart')
open PySem.MeetsSeq PySem.MeetsSeq2 PySem.MeetsSeq3
end
section
variable{prog:Program}{w:World}{A:Around}{E:Value->Shared->Prop}{s:Shared}
theorem Pd{t b:Addr}{vs ws:List Value}{Q:Value->Shared->Prop}(ht:IsTup s.heap t vs.toArray)(hb:IsTup s.heap b ws.toArray)(hv:vs≠[])
  (h1:ws=[]->Q (.ref t) s) (h2:ws≠[]->Q (.ref s.heap.objs.size) { s with heap:=s.heap.push { cls:=.type "tuple",data:=.seq (vs++ws).toArray } })
  (hsz:vs.length+ws.length<=sizeLine):wpAny (model prog w) A (binaryOp .Add (.ref t) (.ref b)) Q E s:=by
 obtain⟨⟨cls,dd,data,sl⟩,ho,hc,n,hd⟩:=id ht
 obtain⟨⟨cls2,dd2,data2,sl2⟩,ho2,hc2,n2,hd2⟩:=id hb
 simp only at hc hd hc2 hd2
 subst hc hd hc2 hd2
 have e:vs.toArray++ws.toArray=(vs++ws).toArray:=by simp
 by_cases hw:ws=[]
 ·exact concat_meets ⟨_,ho,rfl⟩ ⟨_,ho2,rfl⟩ noFill_tuple_add seq_tuple_add PySem.F.slot_tuple_add PySem.F.entry_tuple_add (PySem.F.args_tuple_add_2 _ _)
   (tuple_addW1 t b vs.toArray ws.toArray n n2 dd dd2 sl sl2 (by simpa using hv) (by simp [hw])) ⟨ho,ho2,h1 hw⟩
 ·refine concat_meets ⟨_,ho,rfl⟩ ⟨_,ho2,rfl⟩ noFill_tuple_add seq_tuple_add PySem.F.slot_tuple_add PySem.F.entry_tuple_add (PySem.F.args_tuple_add_2 _ _)
   (tuple_addW2 t b vs.toArray ws.toArray n n2 dd dd2 sl sl2 (by simpa using hv) (by simpa using hw) (by rw [List.size_toArray,List.size_toArray];exact hsz)) ⟨ho,ho2,?_⟩
  rw [e]
  exact h2 hw
noncomputable def eO(n d:Nat):Option Int->Nat
 | none=>d
 | some v=>if v<0 then (v+(n:Int)).toNat else min v.toNat n
theorem sIx_nat(n d k:Nat):eO n d (some (k:Int))=min k n:=by
 show (if (k:Int)<0 then ((k:Int)+(n:Int)).toNat else min (k:Int).toNat n)=min k n
 rw [if_neg (by omega),Int.toNat_natCast]
theorem QN(n d:Nat)(hd:d<=n)(o:Option Int):eO n d o<=n:=by
 cases o with
 | none=>exact hd
 | some v=>
  show (if v<0 then (v+(n:Int)).toNat else min v.toNat n)<=n
  by_cases hv:v<0
  ·rw [if_pos hv];omega
  ·rw [if_neg hv];exact Nat.min_le_right _ _
theorem Fw(v:Int)(n d:Nat):(if v<0 then max (v+(n:Int)) 0 else min v (n:Int))=((eO n d (some v):Nat):Int):=by
 show (if v<0 then max (v+(n:Int)) 0 else min v (n:Int))=(((if v<0 then (v+(n:Int)).toNat else min v.toNat n):Nat):Int)
 by_cases hv:v<0
 ·simp only [if_pos hv];omega
 ·simp only [if_neg hv];omega
theorem Ec(lo hi:Option Int)(n:Nat):Builtin.Slice.sliceAdjust lo hi 1 (n:Int)=(((eO n 0 lo:Nat):Int),((eO n n hi:Nat):Int)):=by
 have h1:¬ ((1:Int)<0):=by omega
 unfold Builtin.Slice.sliceAdjust
 simp only [h1,if_false]
 refine Prod.ext ?_ ?_
 ·cases lo with
  | none=>rfl
  | some v=>exact Fw v n 0
 ·cases hi with
  | none=>rfl
  | some v=>exact Fw v n n
theorem Ci(i j:Nat):Builtin.Slice.slicePlaces (i:Int) (j:Int) 1=j - i:=by
 unfold Builtin.Slice.slicePlaces
 have h1:(1:Int)>0:=by omega
 simp only [h1,if_true,Int.ediv_one]
 split <;> omega
theorem sg{v:Value}{o:Option Int}{Q:Option Int->Shared->Prop}(p:IsPart v o)(h:Q o s):wpAny (model prog w) A (Builtin.Slice.slicePartIndex v) Q E s:=by
 cases p with
 | none=>exact slicePart_none h
 | int i t=>exact slicePart_int h
theorem ko{sl:Addr}{vl vu:Value}{lo hi:Option Int}{n:Nat}{Q:Int×Int×Nat->Shared->Prop}(hs:s.heap.IsSliceOf sl vl vu .none)(pl:IsPart vl lo)(pu:IsPart vu hi)
  (h:Q (((eO n 0 lo:Nat):Int),1,eO n n hi - eO n 0 lo) s):wpAny (model prog w) A (Builtin.Slice.sliceApplied (.ref sl) (pure (n:Int))) Q E s:=by
 obtain⟨os,hos,hcs,hds⟩:=id hs
 unfold Builtin.Slice.sliceApplied Builtin.Slice.sliceFields
 refine wpAny_bind (wpAny_bind (wpAny_field hos hds (x:=vl) rfl (wpAny_bind (wpAny_field hos hds (x:=vu) rfl (wpAny_bind (wpAny_field hos hds (x:=.none) rfl (wpAny_pure ?_)))))))
 refine wpAny_bind (slicePart_none ?_)
 show wpAny _ _ (if ((1:Int) == 0)=true then _ else _) _ _ s
 rw [if_neg (by decide)]
 refine wpAny_bind (sg pl (wpAny_bind (sg pu (wpAny_bind (wpAny_pure ?_)))))
 show wpAny _ _ (match Builtin.Slice.sliceAdjust lo hi 1 (n:Int) with | (lo,hi)=>pure (lo,(1:Int),Builtin.Slice.slicePlaces lo hi 1)) _ _ s
 rw [Ec lo hi n]
 show wpAny _ _ (pure (((eO n 0 lo:Nat):Int),(1:Int),Builtin.Slice.slicePlaces ((eO n 0 lo:Nat):Int) ((eO n n hi:Nat):Int) 1)) _ _ s
 rw [Ci]
 exact wpAny_pure h
theorem Jp(xs:Array Value)(i k:Nat):((List.range k).filterMap fun(m:Nat)=>xs[((i:Int)+(m:Int) * 1).toNat]?).toArray=((xs.toList.drop i).take k).toArray:=by
 have e:(fun(m:Nat)=>xs[((i:Int)+(m:Int) * 1).toNat]?)=fun m=>xs[i+m]?:=by
  funext m
  have:((i:Int)+(m:Int) * 1).toNat=i+m:=by omega
  rw [this]
 rw [e]
 have:=pick_run xs i k
 rw [List.filterMap_map] at this
 have e2:((fun x=>xs[x]?) ∘ fun x=>i+x)=fun m=>xs[i+m]?:=rfl
 rw [e2] at this
 rw [this]
theorem pd{t sl:Addr}{items:Array Value}{vl vu:Value}{lo hi:Option Int}{Q:Value->Shared->Prop}(ht:IsTup s.heap t items)(hs:s.heap.IsSliceOf sl vl vu .none)(pl:IsPart vl lo)(pu:IsPart vu hi)
  (hw:¬ (eO items.size 0 lo=0/\eO items.size items.size hi=items.size))
  (h:Q (.ref s.heap.objs.size) { s with heap:=s.heap.push { cls:=.type "tuple",data:=.seq ((items.toList.drop (eO items.size 0 lo)).take (eO items.size items.size hi - eO items.size 0 lo)).toArray } })
  (hsz:items.size<=sizeLine):wpAny (model prog w) A (getItem (.ref t) (.ref sl)) Q E s:=by
 have htake:sizeOk (.seq ((items.toList.drop (eO items.size 0 lo)).take (eO items.size items.size hi - eO items.size 0 lo)).toArray):=by
  show ((items.toList.drop (eO items.size 0 lo)).take (eO items.size items.size hi - eO items.size 0 lo)).toArray.size<=sizeLine
  rw [List.size_toArray,List.length_take,List.length_drop,Array.length_toList]
  omega
 have hj:eO items.size items.size hi<=items.size:=QN _ _ (Nat.le_refl _) hi
 obtain⟨os,hos,hcs,hds⟩:=id hs
 have hTs:s.TypeIs (.ref sl) "slice":=⟨os,hos,hcs⟩
 unfold getItem
 try with_reducible refine wpAny_holding ?_
 first | refine wpAny_bind (wpAny_pure ?_) | skip
 refine wpAny_bind (wpAny_sequenceKey ht.typeIs (by decide) ?_)
 refine wpAny_bind (wpAny_callSpecial?_slot (name:=Str.ofString "__getitem__") ht.typeIs PyProof.Rows.slot_tuple_getitem
  (wpAny_call_entry PyProof.Rows.slot_tuple_getitem ht.typeIs entry_tuple_getitem ?_ (args_tuple_getitem _ _)))
 show wpAny _ _ (Builtin.Tuple.tupleItemsOf (.ref t) >>= _) _ _ s
 refine wpAny_bind (tupleItemsOf_ ht ?_)
 refine wpAny_bind (wpAny_typeOf hTs ?_)
 rw [if_pos (by decide)]
 refine wpAny_bind (ko hs pl pu ?_)
 have hno:¬ ((((eO items.size 0 lo:Nat):Int) == 0&&(1:Int) == 1&&(eO items.size items.size hi - eO items.size 0 lo) == items.size)=true):=by
  intro q
  rw [Bool.and_eq_true,Bool.and_eq_true] at q
  have q1:((eO items.size 0 lo:Nat):Int)=0:=eq_of_beq q.1.1
  have q2:eO items.size items.size hi - eO items.size 0 lo=items.size:=eq_of_beq q.2
  exact hw ⟨by omega,by omega⟩
 show wpAny _ _ (if (((eO items.size 0 lo:Nat):Int) == 0&&(1:Int) == 1&&(eO items.size items.size hi - eO items.size 0 lo) == items.size)=true then _ else _) _ _ s
 rw [if_neg hno,Jp]
 first
  | exact wpAny_bind (m:=Builtin.Tuple.tupleExact _) (wpAny_newObj_type (wpAny_pure ⟨_,rfl,wpAny_pure h⟩) htake)
  | exact wpAny_bind (m:=Builtin.Tuple.tupleExact _) (wpAny_newObj_type (wpAny_bind (wpAny_pure (wpAny_pure ⟨_,rfl,wpAny_pure h⟩))) htake)
  | exact wpAny_bind (wpAny_bind (m:=Builtin.Tuple.tupleExact _) (wpAny_newObj_type (wpAny_pure (wpAny_pure ⟨_,rfl,wpAny_pure h⟩)) htake))
  | exact wpAny_bind (wpAny_bind (m:=Builtin.Tuple.tupleExact _) (wpAny_newObj_type (wpAny_pure ⟨_,rfl,wpAny_pure h⟩) htake))
end
end HT
namespace L2
open PySem PySem.Spec PyProof.Rows
abbrev TO:=St->Hp->(Option Int->Hp->Prop)->Prop
def PO(X:Cx)(e:Option Expr)(t:TO):Prop:=
 ∀ (pins:List (Addr×Obj)) (s:Shared) (σ:St) (H:Hp) (Q:Option Int->Hp->Prop),Inv X pins σ H s->t σ H Q ->
  wpAny (model X.prog X.w) X.A (evalPart e X.env) (fun u s'=>∃ o H',Inv X pins σ H' s'/\IsPart u o/\Q o H') X.xe s
noncomputable def MC:TO:=fun _ H Q=>Q none H
noncomputable def tPart(t:TE):TO:=fun σ H Q=>t σ H fun x H1=>∃ i,x=.int i/\Q (some i) H1
section
variable{X:Cx}{e:Expr}{te:TE}{lo hi:Option Expr}{tl th:TO}{pos p2:Pos}
theorem Nl:PO X none MC:=by
 intro pins s σ H Q I h
 rw [evalPart_none]
 exact wpAny_pure ⟨none,H,I,.none,h⟩
theorem Nk(h:PE X e te):PO X (some e) (tPart te):=by
 intro pins s σ H Q I hw
 rw [evalPart_some]
 refine db (h pins s σ H _ I hw) fun u s1 ⟨x,H1,I1,r1,q1⟩=>?_
 obtain⟨i,rfl,q⟩:=q1
 obtain⟨t,rfl⟩:=r1
 exact⟨some i,H1,I1,.int i t,q⟩
def SlR(X:Cx)(r:V->Option Int->Option Int->Hp->VK->Prop):Prop:=
 ∀ (pins:List (Addr×Obj)) (s:Shared) (σ:St) (H:Hp) (x:V) (v vl vu:Value) (lo hi:Option Int) (sl:Addr) (Q:VK),Inv X pins σ H s->RelV x v->s.heap.IsSliceOf sl vl vu .none->IsPart vl lo->IsPart vu hi->r x lo hi H Q ->
  ∃ T id,typeLookup (.type T) "__getitem__" = pure (some (.builtin id))/\s.TypeIs v T/\wpAny (model X.prog X.w) X.A (getItem v (.ref sl)) (EP X pins σ Q) X.xe s
theorem SlR.or{r r':V->Option Int->Option Int->Hp->VK->Prop}(h:SlR X r)(h':SlR X r'):SlR X (fun x lo hi H Q=>r x lo hi H Q\/r' x lo hi H Q):=by
 intro pins s σ H x v vl vu lo hi sl Q I rx hs pl pu q
 rcases q with q | q
 ·exact h pins s σ H x v vl vu lo hi sl Q I rx hs pl pu q
 ·exact h' pins s σ H x v vl vu lo hi sl Q I rx hs pl pu q
def tSl(r:V->Option Int->Option Int->Hp->VK->Prop)(te:TE)(tl th:TO):TE:=fun σ H Q=>te σ H fun x H1=>tl σ H1 fun l H2=>th σ H2 fun u H3=>r x l u H3 Q
theorem Js{r:V->Option Int->Option Int->Hp->VK->Prop}(hr:SlR X r)(he:PE X e te)(hl:PO X lo tl)(hu:PO X hi th):PE X (.Subscript e (.Slice lo hi none p2) pos) (tSl r te tl th):=by
 intro pins s σ H Q I h
 refine Subscript_ (db (he pins s σ H _ I h) fun v s1 ⟨x,H1,I1,r1,q1⟩=>?_)
 refine wpAny_Slice (db (hl pins s1 σ H1 _ I1 q1) fun vl s2 ⟨l,H2,I2,pl,q2⟩=>db (hu pins s2 σ H2 _ I2 q2) fun vu s3 ⟨u,H3,I3,pu,q3⟩=>?_)
 rw [evalPart_none]
 refine wpAny_pure ?_
 have I4:Inv X pins σ H3 { s3 with heap:=s3.heap.push { cls:=.type "slice",data:=.fields #[vl,vu,.none] } }:=I3.kept (t':=s3.toks) fun b ob q=>Heap.get?_push_of_some _ q
 obtain⟨T,id,hT,ht,hg⟩:=hr pins { s3 with heap:=s3.heap.push { cls:=.type "slice",data:=.fields #[vl,vu,.none] } } σ H3 x v vl vu l u s3.heap.objs.size Q I4 r1 (Heap.IsSliceOf.new ..) pl pu q3
 show wpAny (model X.prog X.w) X.A (subscriptTail e (.Slice lo hi none p2) v (.ref s3.heap.objs.size)) (EP X pins σ Q) X.xe { s3 with heap:=s3.heap.push { cls:=.type "slice",data:=.fields #[vl,vu,.none] } }
 exact tail_any (ops:=[.ref s3.heap.objs.size,v]) ht hT hg (by with_unfolding_all rfl)
noncomputable def Bv(xs:List V)(lo hi:Option Int):List V:=(xs.drop (HT.eO xs.length 0 lo)).take (HT.eO xs.length xs.length hi - HT.eO xs.length 0 lo)
theorem qP(xs:List V)(lo hi:Option Int):(Bv xs lo hi).length<=xs.length:=by
 unfold Bv
 rw [List.length_take,List.length_drop]
 omega
def rSlT(K:PySem.W.Frag):V->Option Int->Option Int->Hp->VK->Prop:=fun x lo hi H Q=>∃ a xs,x=.ref a/\lQ K H a xs /\
 ¬ (HT.eO xs.length 0 lo=0/\HT.eO xs.length xs.length hi=xs.length)/\∀ p,H p=none->Q (.ref p) (upd H p (.tup (Bv xs lo hi)))
theorem QJ:SlR X (rSlT X.K):=by
 intro pins s σ H x v vl vu lo hi sl Q I rx hs pl pu h
 obtain⟨a,xs,rfl,hx,hw,q⟩:=h
 cases rx
 obtain⟨its,r,ht,hz⟩:=I.tuple hx
 have hlen:its.toArray.size=xs.length:=by rw [List.size_toArray];exact r.length.symm
 refine⟨"tuple",_,PyProof.Rows.slot_tuple_getitem.lookup,ht.typeIs,?_⟩
 refine HT.pd ht hs pl pu (by rw [hlen];exact hw) ?_ (by rw [hlen];exact hz)
 rw [hlen]
 refine⟨.ref s.heap.objs.size,_,I.laid (t':=s.toks) (o:=.tup (Bv xs lo hi)) (fun b ob q=>Heap.get?_push_of_some _ q) (Nat.le_refl _) ?_,rfl,q _ (I.hok.fresh (Nat.le_refl _))⟩
 exact⟨Nat.le_trans (qP xs lo hi) hz,_,(r.drop (HT.eO xs.length 0 lo)).take (HT.eO xs.length xs.length hi - HT.eO xs.length 0 lo),IsTupN.new _ _⟩
noncomputable def rCatT(K:PySem.W.Frag):R2:=fun x y H Q=>∃ a b xs ys,x=.ref a/\y=.ref b/\lQ K H a xs/\lQ K H b ys/\xs≠[]/\xs.length+ys.length<=sizeLine /\
 (ys=[]->Q (.ref a) H)/\(ys≠[]->∀ p,H p=none->Q (.ref p) (upd H p (.tup (xs++ys))))
theorem Vals.nil_iff{xs:List V}{us:List Value}(r:Vals xs us):us=[]↔xs=[]:=by
 cases r with
 | nil=>simp
 | cons _ _=>simp
theorem NE:OpR X (binaryOp .Add) (rCatT X.K):=by
 intro pins s σ H x y v u Q I rx ry h
 obtain⟨a,b,xs,ys,rfl,rfl,ha,hb,hx,hz,q1,q2⟩:=h
 cases rx
 cases ry
 obtain⟨its,r1,p1,_⟩:=I.tuple ha
 obtain⟨its2,r2,p2,_⟩:=I.tuple hb
 refine HT.Pd p1 p2 (fun z=>hx (r1.nil_iff.mp z)) (fun z=>⟨.ref a,H,I,rfl,q1 (r2.nil_iff.mp z)⟩) (fun z=>?_) (by rw [<- r1.length,<- r2.length];exact hz)
 refine⟨.ref s.heap.objs.size,_,I.laid (t':=s.toks) (o:=.tup (xs++ys)) (fun b ob q=>Heap.get?_push_of_some _ q) (Nat.le_refl _) ?_,rfl,q2 (fun w=>z (r2.nil_iff.mpr w)) _ (I.hok.fresh (Nat.le_refl _))⟩
 exact⟨by rw [List.length_append];exact hz,_,r1.append r2,IsTupN.new _ _⟩
end
end L2
namespace L2
open PySem PySem.Spec PyProof.Rows
def GP(n:Nat)(i:Int):Option Nat:=if 0<=i then (if i<n then some i.toNat else none) else if -(n:Int)<=i then some (i+n).toNat else none
noncomputable def lc{α:Type}(xs:List α)(i:Int):Option α:=(GP xs.length i).bind fun j=>xs[j]?
theorem Fa{n:Nat}{i:Int}{j:Nat}(h:GP n i=some j):seqIndex? i n=some j/\j<n/\-(n:Int)<=i/\i<n:=by
 unfold GP at h
 by_cases h0:0<=i
 ·rw [if_pos h0] at h
  by_cases h1:i<n
  ·rw [if_pos h1] at h
   have e:i.toNat=j:=Option.some.inj h
   exact⟨by rw [seqIndex_of h0 h1,e],by omega,by omega,h1⟩
  ·rw [if_neg h1] at h;cases h
 ·rw [if_neg h0] at h
  by_cases h1:-(n:Int)<=i
  ·rw [if_pos h1] at h
   have e:(i+n).toNat=j:=Option.some.inj h
   exact⟨by rw [seqIndex_neg (by omega) h1,e],by omega,h1,by omega⟩
  ·rw [if_neg h1] at h;cases h
theorem FA{α:Type}{xs:List α}{i:Int}{v:α}(h:lc xs i=some v):∃ j,seqIndex? i xs.length=some j/\xs[j]?=some v/\j<xs.length/\-(xs.length:Int)<=i/\i<xs.length:=by
 unfold lc at h
 cases e:GP xs.length i with
 | none=>rw [e] at h;cases h
 | some j=>
  rw [e] at h
  obtain⟨h1,h2,h3,h4⟩:=Fa e
  exact⟨j,h1,h,h2,h3,h4⟩
def nu(b:Expr):Prop:=∀ o i,subscripted b false o i=operate [o,i] (getItem o i)
def IxR(X:Cx)(r:R2):Prop:=
 ∀ (value slice:Expr) (pins:List (Addr×Obj)) (s:Shared) (σ:St) (H:Hp) (x y:V) (v u:Value) (Q:VK),Inv X pins σ H s->RelV x v->RelV y u->r x y H Q ->
  subscripted slice false v u=operate [v,u] (getItem v u)->wpAny (model X.prog X.w) X.A (subscriptTail value slice v u) (EP X pins σ Q) X.xe s
def MtR(X:Cx)(id:String)(r:V->List V->Hp->VK->Prop):Prop:=
 ∀ (pins:List (Addr×Obj)) (s:Shared) (σ:St) (H:Hp) (x:V) (xs:List V) (v:Value) (us:List Value) (Q:VK),Inv X pins σ H s->RelV x v->Vals xs us->r x xs H Q ->
  wpAny (model X.prog X.w) X.A (call (.builtin id) (v::us)) (EP X pins σ Q) X.xe s
section
variable{X:Cx}{a b:Expr}{ta tb:TE}{pos:Pos}
theorem IxR.or{r r':R2}(h:IxR X r)(h':IxR X r'):IxR X (fun x y H Q=>r x y H Q\/r' x y H Q):=by
 intro value slice pins s σ H x y v u Q I rx ry q hs
 rcases q with q | q
 ·exact h value slice pins s σ H x y v u Q I rx ry q hs
 ·exact h' value slice pins s σ H x y v u Q I rx ry q hs
theorem Ju{r:R2}(hr:IxR X r)(ha:PE X a ta)(hb:PE X b tb)(hs:nu b):PE X (.Subscript a b pos) (tOp r ta tb):=by
 intro pins s σ H Q I h
 exact Subscript_ (TL ha hb I h fun v u s2 x y H2 I2 rx ry q=>hr a b pins s2 σ H2 x y v u Q I2 rx ry q (hs _ _))
noncomputable def rIxL(K:PySem.W.Frag):R2:=fun x y H Q=>∃ p xs i v,x=.ref p/\y=.int i/\on K H p xs/\lc xs i=some v/\Q v H
noncomputable def rIxT(K:PySem.W.Frag):R2:=fun x y H Q=>∃ p xs i v,x=.ref p/\y=.int i/\lQ K H p xs/\lc xs i=some v/\Q v H
theorem ix_list:IxR X (rIxL X.K):=by
 intro value slice pins s σ H x y v u Q I rx ry h hs
 obtain⟨p,xs,i,z,rfl,rfl,hq,he,q⟩:=h
 cases rx
 obtain⟨t,rfl⟩:=ry
 obtain⟨its,r,pl,hz⟩:=I.list hq
 obtain⟨j,h1,h2,h3,h4,h5⟩:=FA he
 obtain⟨w,ew,rw'⟩:=r.get h2
 have hl:=r.length
 have hn:=pU
 have fin:EP X pins σ Q w s:=⟨z,H,I,rw',q⟩
 by_cases h0:0<=i
 ·have hj:i.toNat=j:=by
   rw [seqIndex_of h0 h5] at h1
   exact Option.some.inj h1
  exact item_listR pl.isList h0 (by omega) (by rw [hj];simpa using ew) fin hs
 ·have hj:(i+(its.toArray.size:Int)).toNat=j:=by
   rw [seqIndex_neg (by omega) h4] at h1
   rw [List.size_toArray,<- hl]
   exact Option.some.inj h1
  exact subscriptTail_builtinR (x:=w) pl.isList.typeIs slot_list_getitem.lookup
   (wpAny_getItem_list_neg (Q:=fun r s'=>r=w/\EP X pins σ Q r s') pl.isList (by omega) (by rw [List.size_toArray] <;> omega) (by omega) (by rw [hj];simpa using ew) ⟨rfl,fin⟩) hs
theorem Sm:IxR X (rIxT X.K):=by
 intro value slice pins s σ H x y v u Q I rx ry h hs
 obtain⟨p,xs,i,z,rfl,rfl,hq,he,q⟩:=h
 cases rx
 obtain⟨t,rfl⟩:=ry
 obtain⟨its,r,pl,hz⟩:=I.tuple hq
 obtain⟨j,h1,h2,h3,h4,h5⟩:=FA he
 obtain⟨w,ew,rw'⟩:=r.get h2
 have hl:=r.length
 have hn:=pU
 have fin:EP X pins σ Q w s:=⟨z,H,I,rw',q⟩
 exact subscriptTail_builtinR (x:=w) pl.typeIs slot_tuple_getitem.lookup
  (getItem_tuple (j:=j) (Q:=fun r s'=>r=w/\EP X pins σ Q r s') pl (by omega) (by omega) (by rw [List.size_toArray,<- hl];exact h1) (by simpa using ew) ⟨rfl,fin⟩) hs
theorem CG(its:List Value)(n j:Nat)(u:Value):Obj.mapSeq (·.setIfInBounds j u) { cls:=.type "list",data:=.seq its.toArray n } = { cls:=.type "list",data:=.seq (its.set j u).toArray n }:=by
 simp [Obj.mapSeq]
theorem Inv.lst{pins:List (Addr×Obj)}{σ:St}{H:Hp}{s:Shared}{p:Addr}{xs:List V}(I:Inv X pins σ H s)(h:H p=some (.lst xs)) :
  ∃ (its:List Value) (n:Nat),Vals xs its/\s.heap.get? p=some { cls:=.type "list",data:=.seq its.toArray n }/\xs.length<=sizeLine:=by
 obtain⟨z,its,n,r,e⟩:=I.hok p _ h
 exact⟨its,n,r,e,z⟩
theorem Inv.lstUpd{pins:List (Addr×Obj)}{σ:St}{H:Hp}{s:Shared}{p:Addr}{xs ys:List V}{its its':List Value}{n n':Nat}{f:Obj->Obj}(I:Inv X pins σ H s)(h:H p=some (.lst xs))
  (ho:s.heap.get? p=some { cls:=.type "list",data:=.seq its.toArray n }) (hf:f { cls:=.type "list",data:=.seq its.toArray n } = { cls:=.type "list",data:=.seq its'.toArray n' }) (r:Vals ys its') (hz:ys.length<=sizeLine) (t:Nat) :
  Inv X pins σ (upd H p (.lst ys)) { s with heap:=s.heap.update p f,toks:=t }:=by
 have e:(s.heap.update p f).get? p=some { cls:=.type "list",data:=.seq its'.toArray n' }:=by
  rw [Heap.get?_update_self f ho (by rw [hf] <;> rfl),hf]
 refine I.write (x:=p) (e:=p) (by rw [h];trivial) (.inl rfl) (fun b u hb q=>(Heap.get?_update_other _ _ (Ne.symm hb)).trans q) ⟨_,e⟩ ?_
 exact⟨hz,its',n',r,e⟩
def rSetL:V->V->V->Hp->(Hp->Prop)->Prop:=fun o i v H Q=>∃ p xs k j,o=.ref p/\i=.int k/\H p=some (.lst xs)/\GP xs.length k=some j/\Q (upd H p (.lst (xs.set j v)))
theorem IP:PSet X rSetL:=by
 intro pins s σ H o i v ov iv u Q I ro ri rv h
 obtain⟨p,xs,k,j,rfl,rfl,hp,hj,q⟩:=h
 cases ro
 obtain⟨t,rfl⟩:=ri
 obtain⟨its,n,r,ho,hz⟩:=I.lst hp
 obtain⟨h1,h2,h3,h4⟩:=Fa hj
 have hl:=r.length
 have hn:=pU
 have I':Inv X pins σ (upd H p (.lst (xs.set j v))) { s with heap:=s.heap.update p (Obj.mapSeq (·.setIfInBounds j u)) }:=
  I.lstUpd hp ho (CG its n j u) (r.set rv j) (by rw [List.length_set];exact hz) s.toks
 by_cases h0:0<=k
 ·have hk:k.toNat=j:=by
   rw [seqIndex_of h0 h4] at h1
   exact Option.some.inj h1
  exact PySem.W.ki_setAt ho h0 (by omega) (by rw [List.size_toArray,<- hl];exact h4) (by rw [hk];exact⟨_,I',q⟩)
 ·have hk:(k+(its.toArray.size:Int)).toNat=j:=by
   rw [seqIndex_neg (by omega) h3] at h1
   rw [List.size_toArray,<- hl]
   exact Option.some.inj h1
  exact PySem.W.ki_setBack ho (by omega) (by rw [List.size_toArray,<- hl];exact h3) (by omega) (by rw [hk];exact⟨_,I',q⟩)
theorem xk(lo hi:Option Int)(n:Nat):(sliceBounds lo hi none n).1=((HT.eO n 0 lo:Nat):Int)/\(sliceBounds lo hi none n).2.1=((HT.eO n n hi:Nat):Int)/\(sliceBounds lo hi none n).2.2=1:=by
 refine⟨?_,?_,rfl⟩
 ·cases lo with
  | none=>simp [sliceBounds,HT.eO]
  | some i=>
   simp only [sliceBounds,HT.eO,Option.getD_none,show (1:Int)>0 by decide,if_true]
   by_cases h:i<0
   ·simp only [h,if_true] <;> omega
   ·simp only [h,if_false] <;> omega
 ·cases hi with
  | none=>simp [sliceBounds,HT.eO]
  | some i=>
   simp only [sliceBounds,HT.eO,Option.getD_none,show (1:Int)>0 by decide,if_true]
   by_cases h:i<0
   ·simp only [h,if_true] <;> omega
   ·simp only [h,if_false] <;> omega
theorem uP(its:List Value)(lo hi:Option Int):slicePick its.toArray lo hi none=((its.drop (HT.eO its.length 0 lo)).take (HT.eO its.length its.length hi - HT.eO its.length 0 lo)).toArray:=by
 obtain⟨h1,h2,h3⟩:=xk lo hi its.toArray.size
 unfold slicePick
 rw [h1,h2,h3]
 simp only [sliceRange_one,pick_run,List.size_toArray] <;> rfl
def rSlL(K:PySem.W.Frag):V->Option Int->Option Int->Hp->VK->Prop:=fun x lo hi H Q=>∃ a xs,x=.ref a/\on K H a xs/\∀ p,H p=none->Q (.ref p) (upd H p (.lst (Bv xs lo hi)))
theorem MK:SlR X (rSlL X.K):=by
 intro pins s σ H x v vl vu lo hi sl Q I rx hs pl pu h
 obtain⟨a,xs,rfl,hx,q⟩:=h
 cases rx
 obtain⟨its,r,ht,hz⟩:=I.list hx
 have hlen:=r.length
 refine⟨"list",_,slot_list_getitem.lookup,ht.isList.typeIs,?_⟩
 refine wpAny_getItem_list_slice ht.isList hs pl pu .none (by simp) ?_ (by rw [List.size_toArray] <;> omega)
 rw [uP,<- hlen]
 refine⟨.ref s.heap.objs.size,_,I.laid (t':=s.toks) (o:=.lst (Bv xs lo hi)) (fun b ob q=>Heap.get?_push_of_some _ q) (Nat.le_refl _) ?_,rfl,q _ (I.hok.fresh (Nat.le_refl _))⟩
 exact⟨Nat.le_trans (qP xs lo hi) hz,_,0,(r.drop (HT.eO xs.length 0 lo)).take (HT.eO xs.length xs.length hi - HT.eO xs.length 0 lo),Heap.get?_push_size _ rfl⟩
theorem call_len_seq:CallR X (.builtin "len") (fun xs H Q=>∃ p ys,xs=[.ref p]/\(on X.K H p ys\/lQ X.K H p ys)/\Q (.int ys.length) H):=by
 intro pins s σ H xs us Q I r h
 obtain⟨p,ys,rfl,hq,q⟩:=h
 obtain⟨u,rfl,rx⟩:=qv r
 cases rx
 have hn:=pU
 rcases hq with hq | hq
 ·obtain⟨its,r',pl,hz⟩:=I.list hq
  have hlen:=r'.length
  exact Calls.call_len_list pl.isList (by simp only [List.size_toArray] <;> omega) ⟨.int ys.length,H,I.tok _,⟨s.toks+1,by rw [List.size_toArray,hlen]⟩,q⟩
 ·obtain⟨its,r',pl,hz⟩:=I.tuple hq
  have hlen:=r'.length
  exact len_tuple pl (by simp only [List.size_toArray] <;> omega) ⟨.int ys.length,H,I.tok _,⟨s.toks+1,by rw [List.size_toArray,hlen]⟩,q⟩
theorem yW:CallR X (.builtin "len") (fun xs H Q=>∃ z,xs=[.str z]/\z.length<=sizeLine/\Q (.int z.length) H):=by
 intro pins s σ H xs us Q I r h
 obtain⟨z,rfl,hz,q⟩:=h
 obtain⟨u,rfl,t,rfl⟩:=qv r
 have hn:=pU
 exact len_str (by omega) ⟨.int z.length,H,I.tok _,⟨_,rfl⟩,q⟩
theorem CallR.or{f:Value}{r r':List V->Hp->VK->Prop}(h:CallR X f r)(h':CallR X f r'):CallR X f (fun xs H Q=>r xs H Q\/r' xs H Q):=by
 intro pins s σ H xs us Q I rs q
 rcases q with q | q
 ·exact h pins s σ H xs us Q I rs q
 ·exact h' pins s σ H xs us Q I rs q
theorem yV:CallR X (.type "list") (fun xs H Q=>∃ p ys,xs=[.ref p]/\(on X.K H p ys\/lQ X.K H p ys)/\∀ l,H l=none->Q (.ref l) (upd H l (.lst ys))):=by
 intro pins s σ H xs us Q I r h
 obtain⟨p,ys,rfl,hq,q⟩:=h
 obtain⟨u,rfl,rx⟩:=qv r
 cases rx
 have fin:∀ (its:List Value),Vals ys its->ys.length<=sizeLine->∀ (h':Heap) (c':Nat),(∀ b o',s.heap.get? b=some o'->h'.get? b=some o') ->
   h'.get? s.heap.objs.size=some { cls:=.type "list",dict:=none,data:=.seq its.toArray c',slots:=#[] }->EP X pins σ Q (.ref s.heap.objs.size) { s with heap:=h' }:=fun its r' hz h' c' kp e=>
  ⟨.ref s.heap.objs.size,_,I.laid (t':=s.toks) kp (Nat.le_refl _) (show ObjOk X.prog X.w _ h' _ (.lst ys) from ⟨hz,its,c',r',e⟩),rfl,q _ (I.hok.fresh (Nat.le_refl _))⟩
 rcases hq with hq | hq
 ·obtain⟨its,r',pl,hz⟩:=I.list hq
  have hlen:=r'.length
  obtain⟨o,ho,hc,n,hd⟩:=pl.isList
  exact call_list_seq p (.inl rfl) ho hc hd (fun h' c' kp e=>fin its r' hz h' c' kp e) (by simp only [List.size_toArray] <;> omega)
 ·obtain⟨its,r',pl,hz⟩:=I.tuple hq
  have hlen:=r'.length
  obtain⟨o,ho,hc,n,hd⟩:=pl
  exact call_list_seq p (.inr rfl) ho hc hd (fun h' c' kp e=>fin its r' hz h' c' kp e) (by simp only [List.size_toArray] <;> omega)
theorem vB:CallR X (.type "tuple") (fun xs H Q=>∃ p ys,xs=[.ref p]/\((on X.K H p ys/\∀ l,H l=none->Q (.ref l) (upd H l (.tup ys)))\/(lQ X.K H p ys/\Q (.ref p) H))):=by
 intro pins s σ H xs us Q I r h
 obtain⟨p,ys,rfl,h⟩:=h
 obtain⟨u,rfl,rx⟩:=qv r
 cases rx
 rcases h with ⟨hq,q⟩ | ⟨hq,q⟩
 ·obtain⟨its,r',pl,hz⟩:=I.list hq
  have hlen:=r'.length
  refine call_tuple_list pl.isList (fun h' kp=>?_) (by simp only [List.size_toArray] <;> omega)
  have I1:Inv X pins σ H { s with heap:=h' }:=I.kept (t':=s.toks) kp
  have I2:Inv X pins σ (upd H h'.objs.size (.tup ys)) { s with heap:=h'.push { cls:=.type "tuple",data:=.seq its.toArray } }:=
   I1.laid (t':=s.toks) (fun b o e=>Heap.get?_push_of_some _ e) (Nat.le_refl _) (show ObjOk X.prog X.w _ _ _ (.tup ys) from ⟨hz,its,r',IsTupN.new _ _⟩)
  exact⟨.ref h'.objs.size,_,I2,rfl,q _ (I1.hok.fresh (Nat.le_refl _))⟩
 ·obtain⟨its,r',pl,hz⟩:=I.tuple hq
  exact call_tuple_same pl ⟨.ref p,H,I,rfl,q⟩
def tyV(K:PySem.W.Frag)(T:String)(x:V)(H:Hp):Prop:=match x with
 | .str _=>T = "str"
 | .int _=>T = "int"
 | .ref p=>(T = "list"/\∃ xs,on K H p xs)\/(T = "tuple"/\∃ o,K.lookup p=some o/\o.cls=.type "tuple"/\o.dict=none) \/
   (T = "dict"/\((∃ kvs,H p=some (.dK kvs))\/∃ kvs,H p=some (.dT kvs)))\/(T = "set"/\∃ S n,H p=some (.set S n))
 | _=>False
theorem QB{pins:List (Addr×Obj)}{σ:St}{H:Hp}{s:Shared}{T:String}{x:V}{v:Value}(I:Inv X pins σ H s)(r:RelV x v)(ty:tyV X.K T x H) :
  s.TypeIs v T/\∀ a,v=.ref a->∃ ob,s.heap.get? a=some ob/\ob.dict=none:=by
 cases x with
 | str z=>
  obtain⟨t,rfl⟩:=r
  cases (show T = "str" from ty)
  exact⟨typeIs_str s z t,fun _ e=>nomatch e⟩
 | int i=>
  obtain⟨t,rfl⟩:=r
  cases (show T = "int" from ty)
  exact⟨typeIs_int s i t,fun _ e=>nomatch e⟩
 | ref p=>
  cases r
  rcases ty with ⟨rfl,xs,hq⟩ | ⟨rfl,o,hk,hc,hd⟩ | ⟨rfl,hk⟩ | ⟨rfl,S,n,hk⟩
  ·obtain⟨its,_,pl,_⟩:=I.list hq
   refine⟨pl.isList.typeIs,fun a e=>?_⟩
   cases e
   obtain⟨o,n,e,c,hd,_⟩:=pl
   exact⟨o,e,hd⟩
  ·refine⟨⟨o,I.kIn p o hk,hc⟩,fun a e=>?_⟩
   cases e
   exact⟨o,I.kIn _ o hk,hd⟩
  ·have z:∃ o,s.heap.get? p=some o/\o.ExactDict:=by
    rcases hk with ⟨kvs,hk⟩ | ⟨kvs,hk⟩
    ·obtain⟨_,_,_,_,o,_,_,e,ex,_⟩:=I.hok p _ hk
     exact⟨o,e,ex⟩
    ·obtain⟨_,_,_,_,o,_,_,e,ex,_⟩:=I.hok p _ hk
     exact⟨o,e,ex⟩
   obtain⟨o,e,ex⟩:=z
   refine⟨⟨o,e,ex.1⟩,fun a e2=>?_⟩
   cases e2
   exact⟨o,e,ex.2.1⟩
  ·obtain⟨o,_,_,_,e,ex,_⟩:=I.hok p _ hk
   refine⟨⟨o,e,ex.1⟩,fun a e2=>?_⟩
   cases e2
   exact⟨o,e,ex.2.1⟩
 | _=>exact False.elim ty
def tBM(K:PySem.W.Frag)(T:String)(r:V->List V->Hp->VK->Prop)(to:TE)(t:TA):TE:=fun σ H Q=>to σ H fun x H1=>tyV K T x H1/\t σ H1 fun xs H2=>r x xs H2 Q
variable{o e:Expr}{es:List Expr}{to:TE}{t:TA}{name:Str}{apos cpos:Pos}{T id:String}{r:V->List V->Hp->VK->Prop}
theorem pe_bm(pa:PlainAttrs T)(slot:Slot T name id)(hty:typeOf (.builtin id)=pure (.type "method_descriptor"))(hm:MtR X id r)(ho:PE X o to)(ha:PA X (e::es) t)
  (hbase:attributeBase o name X.env (eval o X.env)=eval o X.env:=by rfl)
  (hfew:((backTo cpos (starEach (e::es) X.env)).all (fun x=>!x.1)&&(backToKw cpos (keywordEach [] X.env)).all (fun x=>x.1.isSome)
   && decide ((e::es).length+([]:List Keyword).length+(if ([]:List Keyword).isEmpty then 0 else 1)<30))=true:=by rfl)
  (hline:(apos.endLine == cpos.line)=true:=by rfl) (hs:starEach (e::es) X.env=(false,eval e X.env)::starEach es X.env:=by rfl) (hplain:(backTo cpos (starEach es X.env)).any (·.1)=false:=by rfl) :
  PE X (.Call (.Attribute o name apos) (e::es) [] cpos) (tBM X.K T r to t):=by
 intro pins s σ H Q I h
 refine wpAny_Call_method_late hbase hfew hline rfl (db (ho pins s σ H _ I h) fun v s1 ⟨x,H1,I1,r1,ty,q1⟩=>?_)
 obtain⟨h1,h2⟩:=QB I1 r1 ty
 refine⟨T,id,pa,slot,hty,h1,h2,?_⟩
 have hA:=ha cpos pins s1 σ H1 _ I1 q1
 rw [hs] at hA ⊢
 refine Calls.callWith_builtin (by show (false||(backTo cpos (starEach es X.env)).any (·.1))=false;rw [hplain] <;> rfl) (Calls.evalArgs_plain ?_)
 exact db hA fun us s2 ⟨vs,H2,I2,r2,q2⟩=>hm pins s2 σ H2 x vs v us Q I2 r1 r2 q2
end
end L2
namespace L2
open PySem PySem.Spec PyProof.Rows
def MtM(X:Cx)(id:String)(r:V->List V->Hp->VK->Prop):Prop:=
 ∀ (pins:List (Addr×Obj)) (s:Shared) (σ:St) (H:Hp) (x:V) (xs:List V) (v:Value) (us:List Value) (Q:VK),Inv X pins σ H s->RelV x v->Vals xs us->r x xs H Q ->
  wpAny (model X.prog X.w) X.A (call (.builtin id) (v::us)) (EP X pins σ Q) X.xe s
theorem Vals.one:∀ {x:V} {us:List Value},Vals [x] us->∃ u,us=[u]/\RelV x u
 | _,_,.cons r .nil=>⟨_,rfl,r⟩
theorem Vals.two:∀ {x y:V} {us:List Value},Vals [x,y] us->∃ u v,us=[u,v]/\RelV x u/\RelV y v
 | _,_,_,.cons r (.cons q .nil)=>⟨_,_,rfl,r,q⟩
theorem Vals.rep{xs:List V}{us:List Value}(h:Vals xs us):∀ k:Nat,Vals (List.replicate k xs).flatten (List.replicate k us).flatten
 | 0=>.nil
 | k+1=>by
  rw [List.replicate_succ,List.replicate_succ,List.flatten_cons,List.flatten_cons]
  exact Vals.append h (Vals.rep h k)
theorem wI(its:List Value):∀ (k:Nat) (acc:List Value),
  List.foldl (fun x1 x2=>x1++x2) acc.toArray (List.replicate k its.toArray)=(acc++(List.replicate k its).flatten).toArray
 | 0,acc=>by simp
 | k+1,acc=>by
  have e:acc.toArray++its.toArray=(acc++its).toArray:=by simp
  have e2:(acc++its)++(List.replicate k its).flatten=acc++(List.replicate (k+1) its).flatten:=by
   rw [List.replicate_succ,List.flatten_cons,List.append_assoc]
  rw [<- e2,<- wI its k (acc++its),<- e,List.replicate_succ,List.foldl_cons]
section
variable{X:Cx}{pins:List (Addr×Obj)}{σ:St}{H:Hp}{s:Shared}{l b:Addr}{xs ys zs:List V}
theorem Inv.lset{its its':List Value}{n:Nat}{f:Array Value->Array Value}{t':Nat}(I:Inv X pins σ H s)(hH:H l=some (.lst xs))
  (e:s.heap.get? l=some { cls:=.type "list",data:=.seq its.toArray n }) (hf:f its.toArray=its'.toArray) (hv:Vals ys its') (hz:ys.length<=sizeLine) :
  Inv X pins σ (upd H l (.lst ys)) { s with heap:=s.heap.update l (Obj.mapSeq f),toks:=t' }:=by
 have q:=PySem.IsL.update e f
 rw [hf] at q
 refine I.write (x:=l) (e:=l) (by rw [hH];exact trivial) (.inl rfl) (fun b' u hb hu=>(Heap.get?_update_other s.heap (Obj.mapSeq f) (Ne.symm hb)).trans hu) ⟨_,q⟩ ?_
 exact⟨hz,its',_,hv,q⟩
theorem Inv.lnew{its:List Value}{t':Nat}(I:Inv X pins σ H s)(hv:Vals ys its)(hz:ys.length<=sizeLine) :
  Inv X pins σ (upd H s.heap.objs.size (.lst ys)) { s with heap:=s.heap.push { cls:=.type "list",data:=.seq its.toArray },toks:=t' }:=
 I.laid (fun _ _ q=>Heap.get?_push_of_some _ q) (Nat.le_refl _) ⟨hz,its,0,hv,Heap.get?_push_size _ rfl⟩
theorem Inv.fresh(I:Inv X pins σ H s):H s.heap.objs.size=none:=I.hok.fresh (Nat.le_refl _)
theorem Inv.lstM(I:Inv X pins σ H s)(hH:H l=some (.lst xs)):xs.length<=sizeLine/\∃ (its:List Value) (n:Nat),Vals xs its/\xs.length=its.length/\s.heap.get? l=some { cls:=.type "list",data:=.seq its.toArray n }:=by
 obtain⟨z,its,n,r,e⟩:=I.hok l _ hH
 exact⟨z,its,n,r,r.length,e⟩
theorem zZ{n:Nat}(h:n<=sizeLine):Builtin.List.listTooLong n=false:=by
 unfold Builtin.List.listTooLong
 exact decide_eq_false (by omega)
end
section
variable{X:Cx}
def MY:V->List V->Hp->VK->Prop:=fun x vs H Q=>∃ l xs y,x=.ref l/\vs=[y]/\H l=some (.lst xs)/\xs.length<sizeLine/\Q .non (upd H l (.lst (xs++[y])))
theorem vT:MtM X "list.append" MY:=by
 intro pins s σ H x vs v us Q I rx rv h
 obtain⟨l,xs,y,rfl,rfl,hH,hz,q⟩:=h
 cases rx
 obtain⟨u,rfl,ru⟩:=rv.one
 obtain⟨z,its,n,r,hl,e⟩:=I.lstM hH
 refine call_meets F.slot_list_append ⟨_,e,rfl⟩ F.entry_list_append (F.args_list_append_2 _ _) (PySem.list_append l its.toArray n u (by rw [List.size_toArray];omega)) ⟨e,?_⟩
 refine⟨.non,_,I.lset (its':=its++[u]) hH e (by simp) (r.append (.cons ru .nil)) ?_,rfl,q⟩
 rw [List.length_append,List.length_singleton]
 omega
def MX:V->List V->Hp->VK->Prop:=fun x vs H Q=>∃ l b xs zs,x=.ref l/\vs=[.ref b]/\H l=some (.lst xs)/\H b=some (.lst zs)/\xs.length+zs.length<=sizeLine/\Q .non (upd H l (.lst (xs++zs)))
theorem mt_extend:MtM X "list.extend" MX:=by
 intro pins s σ H x vs v us Q I rx rv h
 obtain⟨l,b,xs,zs,rfl,rfl,hH,hB,hz,q⟩:=h
 cases rx
 obtain⟨u,rfl,ru⟩:=rv.one
 cases ru
 obtain⟨z,its,n,r,hl,e⟩:=I.lstM hH
 obtain⟨z2,its2,n2,r2,hl2,e2⟩:=I.lstM hB
 have hsz:its.toArray.size+its2.toArray.size<=sizeLine:=by rw [List.size_toArray,List.size_toArray];omega
 have hlong:¬ (!its.toArray.isEmpty&&Builtin.List.listTooLong (its.toArray.size+its2.toArray.size))=true:=by
  rw [zZ hsz,Bool.and_false]
  exact Bool.false_ne_true
 refine call_meets F.slot_list_extend ⟨_,e,rfl⟩ F.entry_list_extend (F.args_list_extend_2 _ _)
  (AutoSeq1.list_extend_list_list_0 l its.toArray n b its2.toArray n2 hlong (by rw [List.size_toArray];omega) (by omega)) ⟨e,e2,?_⟩
 refine⟨.non,_,I.lset (its':=its++its2) hH e (by simp) (r.append r2) ?_,rfl,q⟩
 rw [List.length_append]
 omega
noncomputable def rCat:R2:=fun x y H Q=>∃ l b xs zs,x=.ref l/\y=.ref b/\H l=some (.lst xs)/\H b=some (.lst zs)/\xs.length+zs.length<=sizeLine/\∀ p,H p=none->Q (.ref p) (upd H p (.lst (xs++zs)))
theorem JD:OpR X (binaryOp .Add) rCat:=by
 intro pins s σ H x y v u Q I rx ry h
 obtain⟨l,b,xs,zs,rfl,rfl,hH,hB,hz,q⟩:=h
 cases rx
 cases ry
 obtain⟨z,its,n,r,hl,e⟩:=I.lstM hH
 obtain⟨z2,its2,n2,r2,hl2,e2⟩:=I.lstM hB
 refine PySem.P.add_list e e2 ?_ (by rw [List.size_toArray,List.size_toArray];omega)
 have ea:its.toArray++its2.toArray=(its++its2).toArray:=by simp
 rw [ea]
 exact⟨.ref _,_,I.lnew (t':=s.toks) (r.append r2) (by rw [List.length_append];omega),rfl,q _ I.fresh⟩
noncomputable def rRep:R2:=fun x y H Q=>∃ l k xs,x=.ref l/\y=.int k/\H l=some (.lst xs)/\-(2 ^ 63)<=k/\k<2 ^ 63/\xs.length * k.toNat<=sizeLine /\
 ∀ p,H p=none->Q (.ref p) (upd H p (.lst (List.replicate k.toNat xs).flatten))
theorem yp{α:Type}(xs:List α)(k:Nat):(List.replicate k xs).flatten.length=k * xs.length:=by
 induction k with
 | zero=>simp
 | succ k ih=>rw [List.replicate_succ,List.flatten_cons,List.length_append,ih,Nat.succ_mul,Nat.add_comm]
theorem Rq:OpR X (binaryOp .Mult) rRep:=by
 intro pins s σ H x y v u Q I rx ry h
 obtain⟨l,k,xs,rfl,rfl,hH,h1,h2,hz,q⟩:=h
 cases rx
 obtain⟨t,rfl⟩:=ry
 obtain⟨z,its,n,r,hl,e⟩:=I.lstM hH
 have hlen:its.toArray.size * k.toNat<=sizeLine:=by rw [List.size_toArray,<- hl];exact hz
 have hcap:¬ its.toArray.size * k.toNat>(2 ^ 63 - 1) / 8:=by
  have:(sizeLine:Nat)<=(2 ^ 63 - 1) / 8:=by decide
  omega
 have hfit:¬ (!Builtin.List.listFitsIndex k)=true:=by
  rw [fitsIndex_both h1 h2]
  exact Bool.false_ne_true
 have hlong:¬ Builtin.List.listTooLong (its.toArray.size * k.toNat)=true:=by
  rw [zZ hlen]
  exact Bool.false_ne_true
 have hnew:List.foldl (fun x1 x2=>x1++x2) #[] (List.replicate (if its.toArray.isEmpty=true then 0 else k.toNat) its.toArray)=(List.replicate k.toNat its).flatten.toArray:=by
  have f0:∀ m:Nat,List.foldl (fun x1 x2=>x1++x2) #[] (List.replicate m its.toArray)=(List.replicate m its).flatten.toArray:=fun m=>by
   have:=wI its m []
   rw [List.nil_append] at this
   exact this
  rw [f0]
  cases its with
  | nil=>simp
  | cons a r'=>rw [if_neg (by simp)]
 refine wpAny_binaryOp_repeat_ref (T:="list") (U:="int") (by decide) ⟨_,e,rfl⟩ (fun s'=>typeIs_int s' k t) noFill_list_mul F.fills_int_mul F.slot_int_rmul repeat_list F.slot_int_index.lookup
  (call_meets F.slot_int_rmul (typeIs_int s k t) F.entry_int_rmul (F.args_int_rmul_2 _ _) (int___rmul___int_list k t l its.toArray n)
   ⟨e,rfl,⟨_,e,rfl⟩,call_meets F.slot_list_mul ⟨_,e,rfl⟩ F.entry_list_mul (F.args_list_mul_2 _ _) (AutoListH.list___mul___list_int_3 l its.toArray n k t hfit hcap hlong) ⟨e,?_⟩⟩)
 rw [hnew]
 exact⟨.ref _,_,I.lnew (t':=s.toks) (r.rep k.toNat) (by rw [yp,Nat.mul_comm];exact hz),rfl,q _ I.fresh⟩
end
section
variable{prog:Program}{w:World}{A:Around}{E:Value->Shared->Prop}{s:Shared}
end
section
variable{X:Cx}
end
end L2
namespace L2
open PySem PySem.Spec PyProof.Rows
section
variable{κ:Type}[DecidableEq κ]
noncomputable def rZ(kvs:List (κ×V))(k:κ):Option V:=(kvs.find? fun kv=>decide (kv.1=k)).map (·.2)
noncomputable def uY(kvs:List (κ×V))(k:κ)(v:V):List (κ×V):=
 if (kvs.any fun kv=>decide (kv.1=k))=true then kvs.map (fun kv=>if kv.1=k then (kv.1,v) else kv) else kvs++[(k,v)]
theorem rX{p:κ×V}{r:List (κ×V)}{k:κ}(e:p.1=k):rZ (p::r) k=some p.2:=by simp [rZ,List.find?_cons,e]
theorem rY{p:κ×V}{r:List (κ×V)}{k:κ}(e:¬ p.1=k):rZ (p::r) k=rZ r k:=by simp [rZ,List.find?_cons,e]
theorem AM(kvs:List (κ×V))(k:κ)(v:V):(uY kvs k v).length<=kvs.length+1:=by
 unfold uY
 split
 ·rw [List.length_map];omega
 ·rw [List.length_append,List.length_cons,List.length_nil];omega
theorem KV.val{kvs:List (κ×V)}{vs:List (κ×Value)}(r:KV kvs vs)(k:κ):RelO (rZ kvs k) (valueAt vs k):=by
 unfold KV at r
 induction r with
 | nil=>exact True.intro
 | @cons p q ps qs h t ih=>
  obtain⟨h1,h2⟩:=h
  by_cases e:p.1=k
  ·have e':q.1=k:=h1.symm.trans e
   have b:valueAt (q::qs) k=some q.2:=by simp [valueAt,List.find?_cons,e']
   rw [rX e,b];exact h2
  ·have e':¬ q.1=k:=fun z=>e (h1.trans z)
   have b:valueAt (q::qs) k=valueAt qs k:=by simp [valueAt,List.find?_cons,e']
   rw [rY e,b];exact ih
theorem KV.any{kvs:List (κ×V)}{vs:List (κ×Value)}(r:KV kvs vs)(k:κ):(kvs.any fun kv=>decide (kv.1=k))=vs.any fun kv=>decide (kv.1=k):=by
 unfold KV at r
 induction r with
 | nil=>rfl
 | cons h t ih=>rw [List.any_cons,List.any_cons,ih,h.1]
theorem KV.repl{kvs:List (κ×V)}{vs:List (κ×Value)}(r:KV kvs vs)(k:κ){y:V}{u:Value}(ry:RelV y u) :
  KV (kvs.map fun kv=>if kv.1=k then (kv.1,y) else kv) (vs.map fun kv=>if kv.1=k then (kv.1,u) else kv):=by
 unfold KV at r ⊢
 induction r with
 | nil=>exact .nil
 | @cons p q ps qs h t ih=>
  rw [List.map_cons,List.map_cons]
  refine .cons ?_ ih
  obtain⟨h1,h2⟩:=h
  by_cases e:p.1=k
  ·rw [if_pos e,if_pos (h1.symm.trans e)];exact⟨h1,ry⟩
  ·rw [if_neg e,if_neg (fun z=>e (h1.trans z))];exact⟨h1,h2⟩
theorem KV.put{kvs:List (κ×V)}{vs:List (κ×Value)}(r:KV kvs vs)(k:κ){y:V}{u:Value}(ry:RelV y u):KV (uY kvs k y) (stored vs k u):=by
 unfold uY stored
 rw [r.any k]
 by_cases e:(vs.any fun kv=>decide (kv.1=k))=true
 ·rw [if_pos e,if_pos e];exact r.repl k ry
 ·rw [if_neg e,if_neg e];exact Paired.snoc r ⟨rfl,ry⟩
theorem KV.length{kvs:List (κ×V)}{vs:List (κ×Value)}(r:KV kvs vs):kvs.length=vs.length:=Paired.length r
end
theorem wn{P:Program}{w:World}{k:bB}{u:Value}(r:RelV (kV k) u):(bZ P w).is k u=true:=by
 cases k with
 | inl i=>obtain⟨t,e⟩:=(show ∃ t,u=Value.int i t from r);subst e;exact Ae P w i t
 | inr x=>obtain⟨t,e⟩:=(show ∃ t,u=Value.str x t from r);subst e;exact Ad P w x t
theorem wu{P:Program}{w:World}:∀ {ks:List bB} {us:List Value},Vals (ks.map kV) us->ItemsAre (bZ P w) ks us
 | [],_,r=>by rw [List.map_nil] at r;cases r;exact .nil
 | k::ks,_,r=>by
  rw [List.map_cons] at r
  cases r with
  | cons h t=>exact .cons (wn h) (wu t)
abbrev KT(H:Hp):List (List bB×V)->List (List bB×Addr×Value)->Prop:=Paired fun p q=>p.1=q.1/\H q.2.1=some (.tup (p.1.map kV))/\RelV p.2 q.2.2
theorem KT.val{H:Hp}{kvs:List (List bB×V)}{xs:List (List bB×Addr×Value)}(r:KT H kvs xs)(k:List bB):RelO (rZ kvs k) ((atKey xs k).map (·.2)):=by
 induction r with
 | nil=>exact True.intro
 | @cons p q ps qs h t ih=>
  obtain⟨h1,_,h2⟩:=h
  by_cases e:p.1=k
  ·have e':q.1=k:=h1.symm.trans e
   have b:atKey (q::qs) k=some q.2:=by simp [atKey,List.find?_cons,e']
   rw [rX e,b];exact h2
  ·have e':¬ q.1=k:=fun z=>e (h1.trans z)
   have b:atKey (q::qs) k=atKey qs k:=by simp [atKey,List.find?_cons,e']
   rw [rY e,b];exact ih
section
variable{P:Program}{w:World}{H:Hp}{h:Heap}{a:Addr}
theorem PD{u:HO}(ok:HOk P w H h)(e:Rd H a u):ObjOk P w H h a u:=e.ok ok
theorem Fs{kvs:List (bB×V)}(ok:HOk P w H h)(e:Rd H a (.dK kvs)):kvs.length<=sizeLine/\(a == sysModules)=false/\∃ vs,KV kvs vs/\h.DictOf (bZ P w) a vs:=
 show ObjOk P w H h a (.dK kvs) from PD ok e
theorem LJ{kvs:List (bB×V)}(ok:HOk P w H h)(e:H a=some (.dK kvs)):kvs.length<=sizeLine/\(a == sysModules)=false/\∃ vs,KV kvs vs/\h.DictOf (bZ P w) a vs:=Fs ok (.inl e)
theorem Kh{ks:List bB}(ok:HOk P w H h)(e:H a=some (.tup (ks.map kV))):(tupleKind (bZ P w)).is h ks a:=by
 obtain⟨_,its,r,o,h1,h2,⟨n,h3⟩,_⟩:=(show ObjOk P w H h a (.tup (ks.map kV)) from ok a _ e)
 exact⟨o,its.toArray,n,h1,h2,h3,by simpa using wu r⟩
theorem Lv{kvs:List (List bB×V)}(ok:HOk P w H h)(e:Rd H a (.dT kvs)):kvs.length<=sizeLine/\(a == sysModules)=false /\
  ∃ xs,KT H kvs xs/\h.DictOfH (tupleKind (bZ P w)) a xs:=by
 obtain⟨z,y,xs,r,o,es,ep,h1,h2,h3,h4,h5⟩:=(show ObjOk P w H h a (.dT kvs) from PD ok e)
 refine⟨z,y,xs,r,o,es,ep,h1,h2,h3,h4,fun x hx=>?_,h5⟩
 have all:∀ {l:List (List bB×V)} {m:List (List bB×Addr×Value)},KT H l m->∀ x∈m,(tupleKind (bZ P w)).is h x.1 x.2.1:=by
  intro l m q
  induction q with
  | nil=>intro x hx;exact nomatch hx
  | @cons p q ps qs hq t ih=>
   intro x hx
   rcases List.mem_cons.mp hx with e | hx
   ·subst e
    exact Kh ok (by rw [<- hq.1];exact hq.2.1)
   ·exact ih x hx
 exact all r x hx
end
def DGet(H:Hp)(a:Addr)(y:V)(r:Option V):Prop:=
 (∃ kvs k,Rd H a (.dK kvs)/\y=kV k/\r=rZ kvs k)\/∃ kvs k b,Rd H a (.dT kvs)/\y=.ref b/\H b=some (.tup (k.map kV))/\r=rZ kvs k
theorem DGet.k{H:Hp}{a:Addr}{kvs:List (bB×V)}{k:bB}(e:H a=some (.dK kvs)):DGet H a (kV k) (rZ kvs k):=.inl ⟨kvs,k,.inl e,rfl,rfl⟩
section
variable{X:Cx}{pins:List (Addr×Obj)}{σ:St}{H:Hp}{s:Shared}{a:Addr}{y v:V}{u r:Value}{o:Option V}{A:Around}{E:Value->Shared->Prop}
theorem Inv.big(I:Inv X pins σ H s):sysModules<s.heap.objs.size:=by
 have h:mainGlobals<s.heap.objs.size:=(I.mod.glob.keeps I.bk).lt
 exact Nat.lt_trans (by decide) h
theorem HE{Q:Value->Shared->Prop}(hu:A.units+1<cLine)(I:Inv X pins σ H s)(g:DGet H a y (some v))(ry:RelV y u)(h:∀ w' s',Inv X pins σ H s'->RelV v w'->Q w' s') :
  wpAny (model X.prog X.w) A (getItem (.ref a) u) Q E s:=by
 rcases g with ⟨kvs,k,e,ey,l⟩ | ⟨kvs,k,b,e,ey,eb,l⟩
 ·subst ey
  obtain⟨z,hd,vs,rel,dd⟩:=Fs I.hok e
  obtain⟨w',hw,rw'⟩:=RelO.some_of (v:=v) (o:=valueAt vs k) (by rw [l];exact rel.val k)
  exact wpAny_getItem_of (wn ry) dd.mapOf hw (h w' _ (I.tok _) rw')
 ·subst ey
  cases (show u=Value.ref b from ry)
  obtain⟨z,hd,xs,rel,dd⟩:=Lv I.hok e
  obtain⟨w',hw,rw'⟩:=RelO.some_of (v:=v) (o:=(atKey xs k).map (·.2)) (by rw [l];exact rel.val k)
  obtain⟨p,hp,hp2⟩:=Option.map_eq_some_iff.mp hw
  refine wpAny_getItem_heap (tupleKind_room_in1 hu) (Kh I.hok eb) dd hp ?_
  rw [hp2]
  exact h w' _ (I.tok _) rw'
theorem Fv{h':Heap}{t':Nat}{ob:HO}(I:Inv X pins σ H s)(mu:Mut (H a))(hs:Heap.SameBut a s.heap h')(he:∃ q,h'.get? a=some q)(new:ObjOk X.prog X.w (upd H a ob) h' a ob) :
  Inv X pins σ (upd H a ob) { s with heap:=h',toks:=t' }:=
 I.write (x:=a) (e:=a) mu (.inl rfl) (fun b q hb z=>(hs.2 b hb).trans z) he new
theorem LK{P:Program}{w:World}{H':Hp}{h':Heap}{kvs:List (bB×V)}{vs:List (bB×Value)}(z:kvs.length<=sizeLine)(hd:(a == sysModules)=false)(rel:KV kvs vs)(dd:h'.DictOf (bZ P w) a vs) :
  ObjOk P w H' h' a (.dK kvs):=⟨z,hd,vs,rel,dd⟩
end
section
variable{X:Cx}{pins:List (Addr×Obj)}{σ:St}{H:Hp}{s:Shared}{a:Addr}{kvs:List (bB×V)}{k:bB}{u:Value}{A:Around}{E:Value->Shared->Prop}
end
theorem Bs{X:Cx}{pins:List (Addr×Obj)}{σ:St}{H:Hp}{s:Shared}{a:Addr}{y:V}{o:Option V}(I:Inv X pins σ H s)(g:DGet H a y o):s.TypeIs (.ref a) "dict":=by
 rcases g with ⟨kvs,k,e,_,_⟩ | ⟨kvs,k,b,e,_,_,_⟩
 ·obtain⟨_,_,vs,_,dd⟩:=Fs I.hok e
  exact dd.typeIs
 ·obtain⟨_,_,xs,_,dd⟩:=Lv I.hok e
  exact dd.typeIs
section
variable{X:Cx}{o i e value:Expr}{pos pos' tpos:Pos}{td ty tv:TE}
end
theorem Br{P:Program}{w:World}{H:Hp}(h:Heap)(hb:sysModules<h.objs.size):ObjOk P w H (h.push { cls:=.type "dict",data:=.dict #[] }) h.objs.size (.dK []):=
 ⟨Nat.zero_le _,beq_eq_false_iff_ne.mpr (Ne.symm (Nat.ne_of_lt hb)),[],.nil,Heap.DictOf.new h⟩
def QH:TE:=fun _ H Q=>∀ p,H p=none->Q (.ref p) (upd H p (.dK []))
section
variable{X:Cx}{pos:Pos}
theorem Jw:PE X (.Dict [] [] pos) QH:=fun pins s σ H Q I h=>
 wpAny_Dict_empty ⟨.ref s.heap.objs.size,_,I.laid (a:=s.heap.objs.size) (o:=.dK []) (t':=s.toks) (fun _ _ q=>Heap.get?_push_of_some _ q) (Nat.le_refl _) (Br s.heap I.big),rfl,h _ (I.hok.fresh (Nat.le_refl _))⟩
end
def xf:List (TE×TE)->St->Hp->(List (V×V)->Hp->Prop)->Prop
 | [],_,H,Q=>Q [] H
 | (tk,tv)::r,σ,H,Q=>tk σ H fun x H1=>tv σ H1 fun y H2=>xf r σ H2 fun ps H3=>Q ((x,y)::ps) H3
abbrev VV:List (V×V)->List (Value×Value)->Prop:=Paired fun p q=>RelV p.1 q.1/\RelV p.2 q.2
def PPs(X:Cx)(pos:Pos)(keys:List (Option Expr))(values:List Expr)(trs:List (TE×TE)):Prop:=
 ∀ (pins:List (Addr×Obj)) (s:Shared) (σ:St) (H:Hp) (Q:List (V×V)->Hp->Prop),Inv X pins σ H s->xf trs σ H Q ->
  wpAny (model X.prog X.w) X.A (evalPairs (pairTrees keys values X.env pos)) (fun vs s'=>∃ ps H',Inv X pins σ H' s'/\VV ps vs/\Q ps H') X.xe s
theorem Nj{X:Cx}{pos:Pos}:PPs X pos [] [] []:=fun pins s σ H Q I h=>pairTrees_nil_walk ⟨[],H,I,.nil,h⟩
theorem Jo{X:Cx}{pos:Pos}{k v:Expr}{ks:List (Option Expr)}{vs:List Expr}{tk tv:TE}{trs:List (TE×TE)}(hk:PE X k tk)(hv:PE X v tv)(hr:PPs X pos ks vs trs) :
  PPs X pos (some k::ks) (v::vs) ((tk,tv)::trs):=fun pins s σ H Q I h=>
 pairTrees_cons_walk (db (hk pins s σ H _ I h) fun u s1 ⟨x,H1,I1,rx,q1⟩=>db (hv pins s1 σ H1 _ I1 q1) fun w2 s2 ⟨y,H2,I2,ry,q2⟩=>
  db (hr pins s2 σ H2 _ I2 q2) fun ws s3 ⟨ps,H3,I3,rel,q3⟩=>⟨(x,y)::ps,H3,I3,.cons ⟨rx,ry⟩ rel,q3⟩)
noncomputable def iZ(kvs more:List (bB×V)):List (bB×V):=more.foldl (fun acc kv=>uY acc kv.1 kv.2) kvs
theorem KV.merge:∀ {more:List (bB×V)} {rs:List (bB×Value)} {kvs:List (bB×V)} {vs:List (bB×Value)},KV more rs->KV kvs vs->KV (iZ kvs more) (merged vs rs):=by
 intro more rs kvs vs r
 unfold KV at r
 induction r generalizing kvs vs with
 | nil=>intro q;exact q
 | @cons p q ps qs h t ih=>
  intro r0
  have e:KV (uY kvs p.1 p.2) (stored vs q.1 q.2):=by
   have:=r0.put p.1 h.2
   rw [<- h.1];exact this
  exact ih e
theorem jY:∀ (more kvs:List (bB×V)),(iZ kvs more).length<=kvs.length+more.length
 | [],kvs=>by show kvs.length<=kvs.length+0;omega
 | p::r,kvs=>by
  have h1:=jY r (uY kvs p.1 p.2)
  have h2:=AM kvs p.1 p.2
  show (iZ (uY kvs p.1 p.2) r).length<=_
  rw [List.length_cons];omega
theorem uC{P:Program}{w:World}:∀ {kvs:List (bB×V)} {ws:List (Value×Value)},VV (kvs.map fun kv=>(kV kv.1,kv.2)) ws->∃ rs,Carries (bZ P w) ws rs/\KV kvs rs
 | [],_,r=>by rw [List.map_nil] at r;cases r;exact⟨[],True.intro,.nil⟩
 | p::kvs,_,r=>by
  rw [List.map_cons] at r
  cases r with
  | @cons a b as bs h t=>
   obtain⟨rs,c,q⟩:=uC (P:=P) (w:=w) t
   obtain⟨b1,b2⟩:=b
   exact⟨(p.1,b2)::rs,⟨wn h.1,rfl,c⟩,.cons ⟨rfl,h.2⟩ q⟩
def tDisp(trs:List (TE×TE)):TE:=fun σ H Q=>∀ p,H p=none->xf trs σ (upd H p (.dK [])) fun ps H2=>H2 p=some (.dK [])/\∃ kvs:List (bB×V),ps=kvs.map (fun kv=>(kV kv.1,kv.2))/\kvs.length<=15/\Q (.ref p) (upd H2 p (.dK (iZ [] kvs)))
theorem Ex{X:Cx}{pos:Pos}{keys:List (Option Expr)}{values:List Expr}{trs:List (TE×TE)}(h:PPs X pos keys values trs)(hall:keys.all (·.isSome)=true)(hl:keys.length=values.length)(h0:keys≠[])
  (h15:keys.length<=15):PE X (.Dict keys values pos) (tDisp trs):=by
 intro pins s σ H Q I q
 have hn:=I.hok.fresh (Nat.le_refl s.heap.objs.size)
 have I1:=I.laid (a:=s.heap.objs.size) (o:=.dK []) (h':=s.heap.push { cls:=.type "dict",data:=.dict #[] }) (t':=s.toks) (fun _ _ q=>Heap.get?_push_of_some _ q) (Nat.le_refl _) (Br s.heap I.big)
 refine wpAny_Dict_walk (knd:=bZ X.prog X.w) hall hl h0 h15 (db (h pins _ σ _ _ I1 (q _ hn)) fun ws s2 ⟨ps,H2,I2,rel,e,kvs,ep,lk,q2⟩=>?_)
 subst ep
 obtain⟨rs,c,rk⟩:=uC (P:=X.prog) (w:=X.w) rel
 obtain⟨z,hd,vs0,r0,dd⟩:=LJ I2.hok e
 cases r0
 refine⟨rs,c,dd,fun h' dd' hs=>⟨.ref s.heap.objs.size,_,?_,rfl,q2⟩⟩
 have hz:(iZ [] kvs).length<=sizeLine:=by
  have h1:=jY kvs []
  rw [List.length_nil] at h1
  rw [sizeLine_eq];omega
 have he:∃ q,h'.get? s.heap.objs.size=some q:=let ⟨q,_,_,hq,_⟩:=dd';⟨q,hq⟩
 exact Fv I2 (by rw [e];exact True.intro) hs he (LK hz hd (rk.merge .nil) dd')
def IsD(H:Hp)(a:Addr):Prop:=(∃ kvs,Rd H a (.dK kvs))\/∃ kvs,Rd H a (.dT kvs)
theorem So{X:Cx}{pins:List (Addr×Obj)}{σ:St}{H:Hp}{s:Shared}{a:Addr}(I:Inv X pins σ H s)(d:IsD H a) :
  s.TypeIs (.ref a) "dict"/\(∀ b,Value.ref a=.ref b->∃ ob,s.heap.get? b=some ob/\ob.dict=none)/\(a == sysModules)=false:=by
 rcases d with ⟨kvs,e⟩ | ⟨kvs,e⟩
 ·obtain⟨_,hd,vs,_,dd⟩:=Fs I.hok e
  refine⟨dd.typeIs,fun b q=>?_,hd⟩
  cases q
  obtain⟨ob,_,_,h1,h2,_⟩:=dd
  exact⟨ob,h1,h2.2.1⟩
 ·obtain⟨_,hd,xs,_,dd⟩:=Lv I.hok e
  refine⟨dd.typeIs,fun b q=>?_,hd⟩
  cases q
  obtain⟨ob,_,_,h1,h2,_⟩:=dd
  exact⟨ob,h1,h2.2.1⟩
section
variable{X:Cx}{pins:List (Addr×Obj)}{σ:St}{H:Hp}{s:Shared}{a:Addr}{y d:V}{u r:Value}{o:Option V}{A:Around}{E:Value->Shared->Prop}
end
section
variable{X:Cx}{o e f:Expr}{apos cpos:Pos}{td ty tx:TE}
end
section
variable{X:Cx}{pins:List (Addr×Obj)}{σ:St}{H:Hp}{s:Shared}{a:Addr}{kvs:List (bB×V)}{A:Around}{E:Value->Shared->Prop}
end
section
variable{X:Cx}{pins:List (Addr×Obj)}{σ:St}{H:Hp}{s:Shared}{a:Addr}{y:V}{u:Value}{A:Around}{E:Value->Shared->Prop}
end
end L2
namespace Att
open PySem PySem.W PySem.Calls PyProof.Rows
theorem rj{P:Params}{h:Heap}:∀ (ns:List Int) (vs:List Value),WellAll P h vs (ns.map WData.int)->IntsAre vs ns:=by
 intro ns
 induction ns with
 | nil=>
  intro vs w
  rw [List.map_nil] at w
  cases w
  exact .nil
 | cons n ns ih=>
  intro vs w
  rw [List.map_cons] at w
  cases w with
  | cons a b=>
   cases a
   exact .cons _ _ (ih _ b)
theorem FS{l:OpenLaw}{n:Nat}(hn:l.most=some n){P:Params}{h:Heap}{args:List WData}{vals:List Value}
  (hpre:l.row.toRowW.claim.pre args=true) (hwl:WellAll P h vals args) :
  ∃ a vs ns,vals=[Value.ref a]/\args=[WData.list (ns.map WData.int)]/\h.get? a=some { cls:=.type "list",data:=.seq vs.toArray }/\IntsAre vs ns/\ns.length<=n:=by
 have hsh:WShape.hasAll [] args [.list .int]=true:=(pre_splitW hpre).1
 have hc:l.pre.holds [] { args:=args } = true:=(pre_splitW hpre).2
 obtain⟨d,r,rfl,h1,h2⟩:=hasAllW_cons hsh
 obtain rfl:=hasAllW_nil h2
 obtain⟨xs,rfl,h3⟩:=hasW_list h1
 obtain⟨ns,rfl⟩:=items_int h3
 have hlen:ns.length<=n:=by
  unfold OpenLaw.pre at hc
  have h4:(WTm.not (.lt (.lit (.int (n:Int))) (.len (.arg 0)))).holds [] { args:=[.list (ns.map .int)] } = true:=by
   have h4:=(holds_andW hc).1
   rw [hn] at h4
   exact h4
  have h5:=condW_of h4 (w_not (w_lt w_lit (w_len_list (w_arg rfl))))
  rw [List.length_map] at h5
  refine Nat.le_of_not_lt fun q=>?_
  have q':(n:Int)<((ns.length:Nat):Int):=by omega
  first
   | (rw [decide_eq_true q'] at h5;exact absurd h5 (by decide))
   | (simp at h5;omega)
 cases hwl with
 | cons w1 w2=>
  cases w2
  cases w1 with
  | list ho hall=>exact⟨_,_,ns,rfl,rfl,ho,rj ns _ hall,hlen⟩
theorem Ga(l:OpenLaw)(args:List WData):l.row.toRowW.claim.post args (.bool true) args=true:=
 postW_of (r:=l.row.toRowW) (X:=(true == true))
  (show WShape.has [] (.bool true) .bool=true by first | rfl | decide | simp [WShape.has,WShape.arms,WShape.armsAll])
  (show (WTm.eq .res (.lit (.bool true))).value [] { args:=args,res:=some (.bool true),after:=args } = some (.bool (true == true)) from w_eq_bool (w_res rfl) w_lit) rfl
theorem BD{l:OpenLaw}{n:Nat}{q:Program}{loose:List Str}{XP:(Str->Option Value)->Heap->Prop}{YP:World->Heap->Prop}{d:DefRec}
  (hn:l.most=some n) (hdf:d.params.defaults=[])
  (call:∀ (w:World) (s₀ s₁:Shared) (mg mb:Str->Option Value) (fa:Addr) (o:Obj) (pm cd doc:Value) (a:Addr) (vs:List Value) (ns:List Int),
   Ground q loose [] XP w s₀ mg mb s₁.heap->YP w s₁.heap ->
   s₁.heap.get? fa=some o->o.data=.func (docDef d.name d.params d.body d.scope pm cd doc)->s₁.heap.CodeRec cd d.name->mg d.name=some (.ref fa) ->
   s₁.heap.get? a=some { cls:=.type "list",data:=.seq vs.toArray }->IntsAre vs ns->ns.length<=n->s₁.gens = #[] ->
   codeAny (model l.prog w) callerA (.call (.ref fa) ⟨[.ref a],[]⟩) (fun r s'=>r=.ok (.ret (.bool true))/\OldK s₁.heap s'.heap/\s'.os=s₁.os/\AllBare s'.gens) s₁) :
  WalkO q loose XP YP l.row.toRowW d [] (fun f vs=>PySem.call f vs):=by
 intro w s₀ s₁ mg mb G Y fa o pm cd doc dV kV ho hd hcd hD hmg hg args vals as hpre hlay hrd hwl hlo
 obtain rfl:dV=.none:=Dflts.none hD hdf
 obtain rfl:kV=.none:=Dflts.noKw hD
 obtain⟨a,vs,ns,rfl,rfl,hobj,hints,hlen⟩:=FS hn hpre hwl
 refine enter_call (codeAny_mono (call w s₀ s₁ mg mb fa o pm cd doc a vs ns G Y ho (fd_plain hd) hcd hmg hobj hints hlen hg) fun r s' hq=>?_)
 obtain⟨rfl,h2,h3,h4⟩:=hq
 exact⟨.inl ⟨.bool true,.bool true,[],rfl,fun _=>rfl,.bool true,Ga l _,fun _=>⟨List.Pairwise.nil,fun _ hm=>(nomatch hm)⟩⟩,h2,h3,h4⟩
section
variable{prog:Program}{w:World}{A:Around}{E:Value->Shared->Prop}{s:Shared}{K:Frag}
end
end Att
namespace L2
open PySem PySem.Spec PyProof.Rows
theorem vF:∀ {vs:List Value} {ns:List Int},IntsAre vs ns->Vals (ns.map V.int) vs
 | _,_,.nil=>.nil
 | _,_,.cons n t h=>.cons ⟨t,rfl⟩ (vF h)
def Ue(H:Hp):Prop:=∀ b,H b=none\/∃ o xs,H b=some (.frz o (.lst xs))
theorem Kg{P:Program}{w:World}{K:PySem.W.Frag}{mg mb:Str->Option Value}{CX:Ih}{k:Nat}{fa a:Addr}{fd:FuncData}{x:Str}{sp:Sp}{s₁:Shared}{vs:List Value}{ns:List Int}
  (KX:K.In s₁.heap) (hns:s₁.heap.Ns mainGlobals mg) (hb:s₁.heap.Ns builtinsNs mb) (hbb:∀ x:Str,x ≠ "__name__"->mb x=bootBuiltins x) (hlim:s₁.heap.NoLimit) (hg:s₁.gens = #[])
  (ha:s₁.heap.get? a=some { cls:=.type "list",data:=.seq vs.toArray }) (hi:IntsAre vs ns) (hl:ns.length<=sizeLine) (hr:Room k callerA)
  (F:∀ base:Heap,K.In base->base.Ns mainGlobals mg->FnOk P w K mg base CX k fa fd [x] sp) (hbind:∀ (s:Shared) (u:Value),BindsTo s fd ⟨[u],[]⟩ [(x,u)])
  (hsp:∀ H:Hp,Ue H->on K H a (ns.map V.int)->sp [.ref a] H (fun v _=>v=.bl true) fun _ _ _=>False)
  (hCX:∀ H e s',CX [] H s₁ (fun _ _ _=>False) e s'->False) :
  codeAny (model P w) callerA (.call (.ref fa) ⟨[.ref a],[]⟩) (fun r s'=>r=.ok (.ret (.bool true))/\OldK s₁.heap s'.heap/\s'.os=s₁.os/\AllBare s'.gens) s₁:=by
 have rv:=vF hi
 have lenV:=hi.length
 have core:∀ H:Hp,Ue H->on K H a (ns.map V.int)->HOk P w H s₁.heap->(∀ b,H b≠none->b=a)->(H a≠none->K.lookup a=none) ->
   codeAny (model P w) callerA (.call (.ref fa) ⟨[.ref a],[]⟩) (fun r s'=>r=.ok (.ret (.bool true))/\OldK s₁.heap s'.heap/\s'.os=s₁.os/\AllBare s'.gens) s₁:=by
  intro H hO hS hok hA hK
  have base_of:∀ {b:Addr} {o:Obj},s₁.heap.get? b=some o->H b=none->(yC s₁.heap H).get? b=some o:=fun e n=>Ky e n
  have noA:∀ {b:Addr} {o:Obj} {es:Array DictEntry} {ep:Nat},s₁.heap.get? b=some o->o.data=.dict es ep->H b=none:=fun {b o es ep} e d=>by
   cases q:H b with
   | none=>rfl
   | some u=>
    have e':b=a:=hA b (by rw [q];simp)
    subst e'
    rw [ha] at e;cases e
    have d':Data.seq vs.toArray _=Data.dict es ep:=d
    cases d'
  have nsK:∀ {b:Addr} {m:Str->Option Value},s₁.heap.Ns b m->(yC s₁.heap H).Ns b m:=fun {b m} ⟨o,es,ep,e,d,r⟩=>⟨o,es,ep,base_of e (noA e d),d,r⟩
  have hKb:K.In (yC s₁.heap H):=fun b o e=>base_of (KX b o e) (by
   cases q:H b with
   | none=>rfl
   | some u=>
    have e':b=a:=hA b (by rw [q];simp)
    subst e'
    rw [hK (by rw [q];simp)] at e;cases e)
  have hM:Mod K mg (yC s₁.heap H):=⟨hKb,nsK hns,⟨mb,nsK hb,hbb⟩,let ⟨mc,h1,h2⟩:=hlim;⟨mc,nsK h1,h2⟩⟩
  have e0:Pv P w K mg (yC s₁.heap H) callerA [] s₁ H:=⟨rfl,hM,fun b o e=>NJ e,Nat.le_of_eq (GW _ _),trivial,fun b hb=>absurd (show b∈([]:List Addr) from hb) (by simp),hok,.of_eq hg⟩
  refine codeAny_mono ((F _ hKb (nsK hns)).run callerA [] s₁ H ⟨[.ref a],[]⟩ [.ref a] [.ref a] _ _ hr e0 (hbind s₁ (.ref a)) (.cons rfl .nil) (hsp H hO hS)) fun r s' h=>?_
  cases r with
  | error e=>exact(hCX H e s' h).elim
  | ok fl=>
   cases fl with
   | next=>exact False.elim h
   | brk=>exact False.elim h
   | cont=>exact False.elim h
   | ret u=>
    obtain⟨v,H',os,bare,un,hok',r',q⟩:=h
    have q':v=.bl true:=q
    subst q'
    obtain rfl:u=Value.bool true:=r'
    refine⟨rfl,OldK.of_keep fun b o e=>?_,os,bare⟩
    cases q:H b with
    | none=>exact un.keep b o e q (by intro z;exact absurd (show b∈([]:List Addr) from z) (by simp)) (by simp)
    | some u=>
     rcases hO b with z | ⟨ob,xs,z⟩
     ·rw [q] at z;cases z
     ·have z2:=un.frzs b ob _ z
      obtain⟨e1,_⟩:=hok b _ z
      obtain⟨e2,_⟩:=hok' b _ z2
      rw [e] at e1;cases e1
      exact e2
 cases hk:K.lookup a with
 | some o=>
  have e:=KX a o hk
  rw [ha] at e
  cases e
  refine core (fun _=>none) (fun _=>.inl rfl) (.inr ⟨_,vs.toArray,_,hk,rfl,rfl,rfl,by rw [List.size_toArray,lenV];exact hl,by simpa using rv⟩) (fun b u z=>by have z':(none:Option HO)=some u:=z;cases z') (fun b z=>absurd rfl z) fun z=>absurd rfl z
 | none=>
  refine core (fun b=>if b=a then some (.frz { cls:=.type "list",data:=.seq vs.toArray } (.lst (ns.map V.int))) else none) (fun b=>?_) (.inl (.inr ⟨{ cls:=.type "list",data:=.seq vs.toArray },if_pos rfl⟩)) (fun b u z=>?_) (fun b z=>?_) fun _=>hk
  ·by_cases hb:b=a
   ·exact .inr ⟨_,_,if_pos hb⟩
   ·exact .inl (if_neg hb)
  ·by_cases hb:b=a
   ·have z':=(if_pos hb).symm.trans z
    cases z'
    subst hb
    exact⟨ha,by rw [List.length_map];exact hl,vs,_,rv,ha⟩
   ·have z':=(if_neg hb).symm.trans z
    cases z'
  ·by_cases hb:b=a
   ·exact hb
   ·exact absurd (if_neg hb) z
end L2
namespace L2
open PySem PySem.Spec PyProof.Rows
theorem Mv{l:PySem.W.OpenLaw}{n k:Nat}{q:Program}{loose:List Str}{XP:(Str->Option Value)->Heap->Prop}{YP:World->Heap->Prop}{d:DefRec}{K:Params->PySem.W.Frag}{CX:World->Ih}{sp:World->Sp}{x:Str}
  (hn:l.most=some n) (hn2:n<=sizeLine) (hdf:d.params.defaults=[]) (hr:Room k callerA)
  (hY:∀ (w:World) (h:Heap),YP w h->(K w.params).In h)
  (F:∀ (w:World) (mg:Str->Option Value) (fa:Addr) (h:Heap),(K w.params).In h->h.Ns mainGlobals mg->mg d.name=some (.ref fa) ->
   ∃ fd:FuncData,(∀ (s:Shared) (u:Value),BindsTo s fd ⟨[u],[]⟩ [(x,u)]) /\
    ∀ base:Heap,(K w.params).In base->base.Ns mainGlobals mg->FnOk l.prog w (K w.params) mg base (CX w) k fa fd [x] (sp w))
  (hsp:∀ (w:World) (H:Hp) (a:Addr) (ns:List Int),ns.length<=n->Ue H->on (K w.params) H a (ns.map V.int)->sp w [.ref a] H (fun v _=>v=.bl true) fun _ _ _=>False)
  (hCX:∀ (w:World) (H:Hp) (s:Shared) (e:Value) (s':Shared),CX w [] H s (fun _ _ _=>False) e s'->False) :
  PySem.W.WalkO q loose XP YP l.row.toRowW d [] (fun f vs=>PySem.call f vs):=by
 refine Att.BD hn hdf fun w s₀ s₁ mg mb fa o pm cd doc a vs ns G Y ho hd hcd hmg hobj hints hlen hg=>?_
 have KX:=hY w _ Y
 obtain⟨fd,hb,hF⟩:=F w mg fa _ KX G.T.g hmg
 exact Kg KX G.T.g G.T.b G.T.builtins G.T.nolimit hg hobj hints (Nat.le_trans hlen hn2) hr hF hb (fun H hO hS=>hsp w H a ns hlen hO hS) fun H e s'=>hCX w H s₁ e s'
end L2
namespace L2
open PySem PySem.Spec PyProof.Rows
noncomputable def iL(s:Stmt):Arguments:=match s with
 | .FunctionDef _ a _ _ _ _ _ _ _ _=>a
 | _=>{ posonlyargs:=[],args:=[],vararg:=none,kwonlyargs:=[],kw_defaults:=[],kwarg:=none,defaults:=[] }
noncomputable def aI(s:Stmt):List Stmt:=match s with
 | .FunctionDef _ _ b _ _ _ _ _ _ _=>b
 | _=>[]
noncomputable def ay(s:Stmt):Scope:=match s with
 | .FunctionDef _ _ _ _ _ _ sc _ _ _=>sc
 | _=>{ kind:=.function,names:=[],isGenerator:=false,isCoroutine:=false }
noncomputable abbrev FD:Ih:=fun _ _ _ _ _ _=>False
noncomputable abbrev E0:XK:=fun _ _ _=>False
theorem JB{X:Cx}:zh FD X E0:=fun _ _ _ _ _ _ _ h=>h.elim
structure Fun(K:PySem.W.Frag)(x qual:Str)(st:Stmt)(f:Addr)(fd:FuncData):Prop where
 ex:∃ (oc:Value) (od:Option Addr) (kV doc pm:Value) (an:Option Addr) (cdv ct:Value) (osl:Array (Option Value)),
  fd=PySem.W.fnOf x qual (iL st) (aI st) (ay st) .none kV doc pm an cdv ct/\K.lookup f=some ⟨oc,od,.func fd,osl⟩/\PySem.W.codeIn K cdv qual=true
 kp:PySem.W.keepIn K (.ref f)=true
section
variable{P:Program}{w:World}{K:PySem.W.Frag}{mg:Str->Option Value}{base:Heap}
theorem Fun.ok{x qual:Str}{st:Stmt}{f:Addr}{fd:FuncData}{N ps:List Str}{k:Nat}{sp:Sp}(F:Fun K x qual st f fd)(S:aT N ps (ay st))(len:∀ vs H Q E,sp vs H Q E->vs.length=ps.length)
  (hbody:∀ (cdv:Value) (A:Around) (outer:List Env) (s:Shared) (H:Hp) (vs:List V) (Q:VK) (E:XK),Room k (A.deeper (envOfC qual (ay st) s.heap.objs.size f cdv))->sp vs H Q E ->
   ∃ t,PSs (vz FD P w K mg base N qual (ay st) f cdv A outer s H E).nox (aI st) t/\t { nx:=fun _ H'=>Q .non H',rt:=Q } (start N vs) H):FnOk P w K mg base FD (k+1) f fd ps sp:=by
 obtain⟨oc,od,kV,doc,pm,an,cdv,ct,osl,rfl,lk,hcd⟩:=F.ex
 refine fn_of lk hcd S len fun A outer s H vs Q E hr hsp=>?_
 obtain⟨t,h,q⟩:=hbody cdv A outer s H vs Q E hr hsp
 exact⟨t,h.nox,q⟩
theorem Fun.binds{x qual:Str}{st:Stmt}{f:Addr}{fd:FuncData}{ps:List Str}(F:Fun K x qual st f fd)
  (h:∀ (kV doc pm:Value) (an:Option Addr) (cdv ct:Value) (us:List Value),us.length=ps.length->bindArgs (PySem.W.fnOf x qual (iL st) (aI st) (ay st) .none kV doc pm an cdv ct) ⟨us,[]⟩=pure (ps.zip us)):Binds K fd ps []:=by
 obtain⟨oc,od,kV,doc,pm,an,cdv,ct,osl,rfl,lk,hcd⟩:=F.ex
 exact .all (h kV doc pm an cdv ct)
theorem Su{x qual:Str}{st:Stmt}{f:Addr}{oc:Value}{od an:Option Addr}{osl:Array (Option Value)}{kV doc pm cdv ct:Value}(l:K.lookup f=some ⟨oc,od,.func (PySem.W.fnOf x qual (iL st) (aI st) (ay st) .none kV doc pm an cdv ct),osl⟩)
  (c:PySem.W.codeIn K cdv qual=true) (k:PySem.W.keepIn K (.ref f)=true):Fun K x qual st f (PySem.W.fnOf x qual (iL st) (aI st) (ay st) .none kV doc pm an cdv ct):=⟨⟨oc,od,kV,doc,pm,an,cdv,ct,osl,rfl,l,c⟩,k⟩
end
section
variable{X:Cx}
end
section
variable{κ:Type}[DecidableEq κ]
end
end L2
namespace L2
open PySem PySem.Spec PyProof.Rows
noncomputable def mP(cells:List (Str×Addr)):List (Str×NameKind)->List (Str×Addr)->List (Str×Addr)
 | [],acc=>acc
 | (n,k)::r,acc=>if k == .free then mP cells r ((n,(cells.lookup n).getD 0)::acc) else mP cells r acc
theorem iC{env:Env}:∀ (names:List (Str×NameKind)) (acc:List (Str×Addr)),(∀ x∈names,x.2=.free->(env.cells.lookup x.1).isSome=true) ->
  (forIn names acc fun(x:Str×NameKind) (r:List (Str×Addr))=>(do
   if x.2 == .free then do let c <- cellOf env x.1;pure (ForInStep.yield ((x.1,c)::r)) else pure (ForInStep.yield r):Sem (ForInStep (List (Str×Addr)))))=pure (mP env.cells names acc)
 | [],acc,_=>rfl
 | (n,k)::r,acc,h=>by
  rw [List.forIn_cons]
  cases hk:k == NameKind.free with
  | true=>
   have e:k=.free:=by simpa using hk
   have hs:=h (n,k) List.mem_cons_self e
   obtain⟨c,hc⟩:=Option.isSome_iff_exists.mp hs
   have hc':env.cells.lookup n=some c:=hc
   have hce:cellOf env n=pure c:=by unfold cellOf;rw [hc']
   simp only [if_true,hce,hc',Option.getD_some,pure_bind,mP,hk]
   rw [iC r _ fun x hx=>h x (List.mem_cons_of_mem _ hx)]
  | false=>
   simp only [Bool.false_eq_true,if_false,pure_bind,mP,hk]
   exact iC r _ fun x hx=>h x (List.mem_cons_of_mem _ hx)
theorem nO{scope:Scope}{env:Env}(h:∀ x∈scope.names,x.2=.free->(env.cells.lookup x.1).isSome=true):closureFor scope env=pure (mP env.cells scope.names []):=by
 have q:=iC (env:=env) scope.names [] h
 unfold closureFor
 refine Eq.trans ?_ (Eq.trans (congrArg (fun(m:Sem (List (Str×Addr)))=>m >>= fun cs=>pure cs) q) ?_)
 ·rfl
 ·rfl
theorem qo(cells:List (Str×Addr)):∀ (names:List (Str×NameKind)) (acc:List (Str×Addr)),(∀ x∈names,x.2=.free->(cells.lookup x.1).isSome=true)->(∀ y c,acc.lookup y=some c->cells.lookup y=some c) ->
  ∀ y c,(mP cells names acc).lookup y=some c->cells.lookup y=some c
 | [],_,_,ha=>ha
 | (n,k)::r,acc,h,ha=>by
  unfold mP
  split
  ·rename_i hk
   refine qo cells r _ (fun x hx=>h x (List.mem_cons_of_mem _ hx)) fun y c e=>?_
   rw [List.lookup_cons] at e
   split at e
   ·rename_i hy
    have hy':y=n:=by simpa using hy
    subst hy'
    obtain⟨c',hc'⟩:=Option.isSome_iff_exists.mp (h (y,k) List.mem_cons_self (by simpa using hk))
    have hc'':cells.lookup y=some c':=hc'
    rw [hc''] at e ⊢
    exact e
   ·exact ha y c e
  ·exact qo cells r _ (fun x hx=>h x (List.mem_cons_of_mem _ hx)) ha
theorem oi(cells:List (Str×Addr)):∀ (names:List (Str×NameKind)) (acc:List (Str×Addr)) (y:Str),(acc.lookup y).isSome=true->((mP cells names acc).lookup y).isSome=true
 | [],_,_,h=>h
 | (n,k)::r,acc,y,h=>by
  unfold mP
  split
  ·refine oi cells r _ y ?_
   rw [List.lookup_cons]
   split
   ·rfl
   ·exact h
  ·exact oi cells r _ y h
theorem pD(cells:List (Str×Addr)):∀ (names:List (Str×NameKind)) (acc:List (Str×Addr)) (y:Str),(y,NameKind.free)∈names->((mP cells names acc).lookup y).isSome=true
 | [],_,_,h=>by simp at h
 | (n,k)::r,acc,y,h=>by
  unfold mP
  rcases List.mem_cons.mp h with e | h
  ·cases e
   rw [if_pos (by rfl)]
   exact oi cells r _ _ (by rw [List.lookup_cons];simp)
  ·split
   ·exact pD cells r _ y h
   ·exact pD cells r _ y h
theorem lg{scope:Scope}{env:Env}{y:Str}:∀ {names:List (Str×NameKind)},
  ((names.map fun(n,k)=>if (k == NameKind.free&&env.scope.kind == .function&&env.kindOf n == some .cell) then (n,NameKind.cell) else (n,k)).lookup y=some .cell \/
  (names.map fun(n,k)=>if (k == NameKind.free&&env.scope.kind == .function&&env.kindOf n == some .cell) then (n,NameKind.cell) else (n,k)).lookup y=some .free) ->
  (∀ x∈names,x.2≠.cell)->(y,NameKind.free)∈names
 | [],h,_=>by simp at h
 | (n,k)::r,h,hc=>by
  have ih:=@lg scope env y r
  have hr:∀ x∈r,x.2≠.cell:=fun x hx=>hc x (List.mem_cons_of_mem _ hx)
  rw [List.map_cons] at h
  by_cases hq:(k == NameKind.free&&env.scope.kind == .function&&env.kindOf n == some .cell)=true
  ·have hk:k=.free:=by
    have:=hq
    simp only [Bool.and_eq_true] at this
    simpa using this.1.1
   simp only [hq,if_true] at h
   simp only [List.lookup_cons] at h
   cases hy:y == n with
   | true=>
    have e:y=n:=by simpa using hy
    rw [e,hk]
    exact List.mem_cons_self
   | false=>
    simp only [hy] at h
    exact List.mem_cons_of_mem _ (ih h hr)
  ·simp only [hq,Bool.false_eq_true,if_false] at h
   simp only [List.lookup_cons] at h
   cases hy:y == n with
   | true=>
    simp only [hy] at h
    have e:y=n:=by simpa using hy
    rcases h with h | h
    ·exact absurd (Option.some.inj h) (hc (n,k) List.mem_cons_self)
    ·rw [e,<- Option.some.inj h]
     exact List.mem_cons_self
   | false=>
    simp only [hy] at h
    exact List.mem_cons_of_mem _ (ih h hr)
noncomputable def pG(X:Cx)(N':List Str)(scope:Scope)(C:Addr)(s:Shared)(H:Hp)(fp:List Addr):Cx:=
 {X with N:=N',s₀:=s,H₀:=H,env:=compEnvC scope (mP X.env.cells scope.names []) C X.env,outer:=X.stack,ex:=fp,fn:=fun _=>false,pn:=[],xe:=fun _ _=>False }
def Pt(X:Cx)(ifs:List Expr)(t:TT):Prop:=
 ∀ (pins:List (Addr×Obj)) (s:Shared) (σ:St) (H:Hp) (Q:Bool->Hp->Prop),Inv X pins σ H s->t σ H Q->wpAny (model X.prog X.w) X.A (forIn ifs true fun c r=>if r=true then do let ok <- isTrue c X.env (eval c X.env);pure (ForInStep.yield ok) else pure (ForInStep.yield r)) (TP X pins σ Q) X.xe s
theorem Nc{X:Cx}:Pt X [] (fun _ H Q=>Q true H):=fun _ _ _ H _ I h=>wpAny_tests_nil ⟨H,I,h⟩
theorem Nb{X:Cx}{c:Expr}{t:TT}(h:PT X c t):Pt X [c] t:=fun pins s σ H Q I q=>wpAny_tests_one (h pins s σ H Q I q)
noncomputable def sa(e tg:Expr)(p0:Pos)(ifs:List Expr)(d:Nat)(it acc:Value)(env:Env)(bc:Sem Unit):Sem Fin:=do
 standAt p0
 let r <- pyNext it
 match r with
 | none=>pure (Fin.done Flow.next)
 | some v=>do
  letOwnedTupleGo tg it v
  assign tg env v
  let ok <- forIn ifs true fun c r=>if r=true then do let ok <- isTrue c env (eval c env);pure (ForInStep.yield ok) else pure (ForInStep.yield r)
  if ok=true then do bc;again (.compLoop e d it acc env) else again (.compLoop e d it acc env)
noncomputable def SU(elt:Expr)(acc:Value)(env:Env):Sem Unit:=do
 let x <- eval elt env
 let _ <- call (.builtin "list.append") [acc,x]
 pure ()
section
variable{prog:Program}{w:World}{A:Around}{R:Result->Shared->Prop}{s:Shared}
theorem mN{e elt tg:Expr}{gens:List Comprehension}{scope:Scope}{pos p0:Pos}{ifs:List Expr}{d:Nat}{it acc:Value}{env:Env}{bc:Sem Unit}(he:e=.ListComp elt gens scope pos)(htn:compTurn e d it acc env=sa e tg p0 ifs d it acc env bc)(I:Nat->Shared->Prop)
  (turn:∀ n s,I n s->wpAny (model prog w) A (pyNext it) (fun r s₁=>match r with
   | none=>R (.ok .next) s₁
   | some v=>wpAny (model prog w) A (letOwnedTupleGo tg it v) (fun _ s₁'=>wpAny (model prog w) A (assign tg env v) (fun _ s₂=>
     wpAny (model prog w) A (forIn ifs true fun c r=>if r=true then do let ok <- isTrue c env (eval c env);pure (ForInStep.yield ok) else pure (ForInStep.yield r)) (fun ok s₃=>
      if ok=true then wpAny (model prog w) A bc (fun _ s₅=>∃ m,m<n/\I m s₅) (fun _ _=>False) s₃
      else ∃ m,m<n/\I m s₃) (fun _ _=>False) s₂) (fun _ _=>False) s₁') (fun _ _=>False) s₁) (fun _ _=>False) s)
  (n:Nat) (h:I n s) :
  codeAny (model prog w) A (.compLoop e d it acc env) R s:=by
 refine codeAny_loop rfl I (fun n s hI=>?_) n h
 subst he
 show wpAny _ A ((compTurn (.ListComp elt gens scope pos) d it acc env).onRaise (fun x=>do noteFrame x env;theTreesLotGoes x)) _ _ s
 refine wpAny_noted ?_
 rw [htn]
 refine wpAny_bind (wpAny_standAt (wpAny_bind (wpAny_mono (turn n s hI) (fun r s₁ h₁=>?_) fun _ _ h'=>h'.elim)))
 cases r with
 | none=>exact wpAny_pure h₁
 | some v=>
  refine wpAny_bind (wpAny_mono h₁ (fun _ s₁' h₁'=>?_) fun _ _ h'=>h'.elim)
  refine wpAny_bind (wpAny_mono h₁' (fun _ s₂ h₂=>wpAny_bind (wpAny_mono h₂ (fun ok s₃ h₃=>?_) fun _ _ h'=>h'.elim)) fun _ _ h'=>h'.elim)
  cases ok with
  | false=>exact wpAny_pure ⟨rfl,h₃⟩
  | true=>exact wpAny_bind (wpAny_mono h₃ (fun _ s₅ h₅=>wpAny_pure ⟨rfl,h₅⟩) fun _ _ h'=>h'.elim)
end
abbrev TB:=St->Hp->(St->Hp->Prop)->Prop
def PB(X:Cx)(m:Sem Unit)(tb:TB):Prop:=
 ∀ (pins:List (Addr×Obj)) (s:Shared) (σ:St) (H:Hp) (Q:St->Hp->Prop),Inv X pins σ H s->tb σ H Q->wpAny (model X.prog X.w) X.A m (fun _ s'=>∃ σ' H',Inv X pins σ' H' s'/\Q σ' H') X.xe s
def tEm(te:TE)(p:Addr):TB:=fun σ H Q=>te σ H fun y H5=>∃ ys,H5 p=some (.lst ys)/\ys.length<sizeLine/\Q σ (upd H5 p (.lst (ys++[y])))
theorem Ey{X:Cx}{elt:Expr}{te:TE}{p:Addr}(he:PE X elt te):PB X (SU elt (.ref p) X.env) (tEm te p):=fun pins s σ H Q I h=>by
 refine wpAny_bind (db (he pins s σ H _ I h) fun xv s8 ⟨y,H8,J8,r8,q8⟩=>?_)
 obtain⟨ys,hy,hz,q9⟩:=q8
 refine wpAny_bind (db (vT _ s8 σ H8 (.ref p) [y] (.ref p) [xv] (fun _ H9=>H9=upd H8 p (.lst (ys++[y]))) J8 rfl (.cons r8 .nil) ⟨_,ys,y,rfl,rfl,hy,hz,rfl⟩) fun _ s9 ⟨_,H9,J9,_,e9⟩=>?_)
 subst e9
 exact wpAny_pure ⟨_,_,J9,q9⟩
def ID(J:It)(g:TG)(tt:TT)(tb:TB)(σ:St)(H:Hp)(Q:St->Hp->Prop):Prop:=∃ W:Nat->Nat->St->Hp->Prop,(∃ m,W 0 m σ H)/\∀ i m σ' H',W i m σ' H' ->
 (J.stop i H'/\Q σ' H')\/(J.go i H'/\∀ x H2,J.yld i H' x H2->g x σ' H2 fun σ2 H3=>tt σ2 H3 fun ok H4=>
  if ok=true then tb σ2 H4 fun σ3 H5=>∃ m',m'<m/\W (i+1) m' σ3 H5 else ∃ m',m'<m/\W (i+1) m' σ2 H4)
theorem HI{X:Cx}{e elt tg:Expr}{gens:List Comprehension}{scope:Scope}{pos p0:Pos}{ifs:List Expr}{d:Nat}{acc:Value}{bc:Sem Unit}{g:TG}{tt:TT}{tb:TB}{it:Addr}{fp:List Addr}{tn:Nat->Heap->Prop}{J:It}
  (hc:X.calm=true) (hx:∀ e s,X.xe e s->False) (hl:e=.ListComp elt gens scope pos) (htn:compTurn e d (.ref it) acc X.env=sa e tg p0 ifs d (.ref it) acc X.env bc) (hg:PG X tg g) (ht:Pt X ifs tt) (hb:PB X bc tb) (T:Ee X.prog X.w X.K tg J fp it tn)
  {pins:List (Addr×Obj)} {s:Shared} {σ:St} {H:Hp} {Q:St->Hp->Prop} (I:Inv X pins σ H s) (st:tn 0 s.heap) (f2:∀ b∈fp,qu X pins H b) (h:ID J g tt tb σ H Q) :
  codeAny (model X.prog X.w) X.A (.compLoop e d (.ref it) acc X.env) (fun r s'=>∃ σ' H',r=.ok .next/\Inv X pins σ' H' s'/\Q σ' H') s:=by
 obtain⟨W,⟨m0,w0⟩,turn⟩:=h
 have no:∀ e s,X.xe e s->(fun(_:Value) (_:Shared)=>False) e s:=hx
 have stat:∀ {H':Hp},(∀ b∈fp,H' b=none)->∀ b∈fp,qu X pins H' b:=fun hn b hb=>⟨hn b hb,(f2 b hb).2⟩
 refine mN hl htn (fun n s'=>∃ i σ' H',Inv X pins σ' H' s'/\tn i s'.heap/\(∀ b∈fp,H' b=none)/\W i n σ' H') ?_ m0 ⟨0,_,_,I,st,fun b hb=>(f2 b hb).1,w0⟩
 rintro n s3 ⟨i,σ3,H3,J3,st3,fr3,w3⟩
 rcases turn i n σ3 H3 w3 with ⟨stop,qn⟩ | ⟨go,step⟩
 ·refine db (T.done X rfl rfl rfl hc i pins s3 σ3 H3 _ J3 (stat fr3) st3 stop) fun r s4 ⟨hr,J4⟩=>?_
  subst hr
  exact⟨σ3,H3,rfl,J4,qn⟩
 ·refine db (T.item X rfl rfl rfl hc i pins s3 σ3 H3 _ J3 (stat fr3) st3 go) fun r s4 ⟨u,hr,h4⟩=>?_
  subst hr
  refine db h4 fun _ s5 ⟨x,H5,J5,r5,y5,st5,fr5⟩=>?_
  have J5':=J5.pinned (stat fr5) (T.obj _ _ st5)
  refine wpAny_mono (hg _ s5 σ3 H5 x u _ J5' r5 (step x H5 y5)) (fun _ s6 ⟨σ6,H6,J6,q6⟩=>?_) no
  refine wpAny_mono (ht _ s6 σ6 H6 _ J6 q6) (fun ok s7 ⟨H7,J7,q7⟩=>?_) no
  have again:∀ {s':Shared} {σ7:St} {H7:Hp},Inv X (pins++sE fp s5.heap) σ7 H7 s'->(∃ m',m'<n/\W (i+1) m' σ7 H7)->∃ m,m<n/\∃ i σ' H',Inv X pins σ' H' s'/\tn i s'.heap/\(∀ b∈fp,H' b=none)/\W i m σ' H':=fun {s' σ7 H7} J7 n7=>by
   obtain⟨m',hm,w7⟩:=n7
   refine⟨m',hm,i+1,σ7,H7,J7.unpinned,T.keep _ _ _ st5 fun b hb o e=>(J7.pin (b,o) (List.mem_append_right _ (List.mem_append_right _ (lu hb e)))).1,fun b hb=>?_,w7⟩
   obtain⟨o,e,d⟩:=T.obj _ _ st5 b hb
   exact(J7.pin (b,o) (List.mem_append_right _ (List.mem_append_right _ (lu hb e)))).2.1
  cases ok with
  | false=>
   rw [if_neg Bool.false_ne_true] at q7 ⊢
   exact again J7 q7
  | true=>
   rw [if_pos rfl] at q7 ⊢
   exact wpAny_mono (hb _ s7 σ6 H7 _ J7 q7) (fun _ s9 ⟨σ9,H9,J9,q9⟩=>again J9 q9) no
structure BlockOk(X:Cx)(N':List Str)(scope:Scope)(cap:List (Option Nat)):Prop where
 kind:scope.kind=.function
 nocell:∀ x∈scope.names,x.2≠.cell
 names:∀ x∈scope.names,x.2=.local->scope.names.lookup x.1=some .local
 free:∀ x∈scope.names,x.2=.free->(X.env.kindOf x.1=some .cell\/X.env.kindOf x.1=some .free)
 nd:N'.Nodup
 len:cap.length=N'.length
 cap:∀ (j i:Nat),cap[j]?=some (some i)->∃ y,N'[j]?=some y/\X.N[i]?=some y/\TY X.env.scope y/\(X.env.kindOf y=some .cell\/X.env.kindOf y=some .free)/\((relabel scope X.env).names.lookup y=some .cell\/(relabel scope X.env).names.lookup y=some .free)
noncomputable def σB(cap:List (Option Nat))(σ:St):St:=cap.map fun o=>o.bind fun i=>(σ[i]?).join
section
variable{X:Cx}{pins:List (Addr×Obj)}{σ:St}{H:Hp}{s:Shared}{N':List Str}{scope:Scope}{cap:List (Option Nat)}{C:Addr}{fp:List Addr}
theorem BlockOk.cells(B:BlockOk X N' scope cap)(ok:X.Ok):∀ x∈scope.names,x.2=.free->(X.env.cells.lookup x.1).isSome=true:=fun x hx hf=>by
 obtain⟨c,e⟩:=ok.has x.1 (B.free x hx hf)
 rw [e];rfl
theorem BlockOk.cl(B:BlockOk X N' scope cap)(ok:X.Ok):∀ y c,(mP X.env.cells scope.names []).lookup y=some c->X.env.cells.lookup y=some c:=
 qo _ _ _ (B.cells ok) fun y c e=>by simp at e
theorem Inv.notStk(I:Inv X pins σ H s){b:Addr}(h1:b≠X.env.locals)(h2:b ∉ X.fs):b ∉ Ig X.stack:=fun z=>(List.mem_cons.mp (I.stkSub b z)).elim h1 h2
theorem Inv.block{h4:Heap}{tk:Nat}{m0:Str->Option Value}(I:Inv X pins σ H s)(B:BlockOk X N' scope cap)(hfp:∀ b∈fp,qu X pins H b/\b<s.heap.objs.size)(hC:s.heap.objs.size<=C)
  (hk:∀ b o,s.heap.get? b=some o->h4.get? b=some o) (hn:h4.Ns C m0):Inv (pG X N' scope C s H fp) [] (σB cap σ) H { s with heap:=h4,toks:=tk }:=by
 have okX:=I.ok
 have hcl:=B.cl okX
 have cellC:∀ x c,(mP X.env.cells scope.names []).lookup x=some c->∃ v,s.heap.IsCell c v:=fun x c e=>I.cell x c (hcl x c e)
 have neC:∀ b o,s.heap.get? b=some o->b≠C:=fun b o e=>Nat.ne_of_lt (Nat.lt_of_lt_of_le (Heap.lt_size e) hC)
 refine⟨⟨okX.mod,B.kind,okX.glob,okX.blt,hC,fun x y c e1 e2=>okX.inj x y c (hcl x c e1) (hcl y c e2),fun x hx=>?_,fun x c e _=>(by cases e),okX.hd,okX.frames,.inl rfl,fun b hb=>⟨fun z=>?_,fun x c e z=>?_⟩,fun b o e=>I.bs b o e,Nat.le_trans okX.bsz I.sz,fun b o e hb=>?_,fun b hb z=>?_,I.stack,I.stkFree⟩,
  rfl,I.bare,Un.kept hk,⟨m0,hn,fun j y v e1 e2 e3=>?_⟩,fun x c e=>?_,I.hok.fresh hC,fun x c e=>I.freeC x c (hcl x c e),fun p hp=>absurd (show p∈([]:List (Addr×Obj)) from hp) (by simp),I.hok.kept hk,?_⟩
 ·have q:=lg (scope:=scope) (env:=X.env) (y:=x) (names:=scope.names) hx B.nocell
  exact Option.isSome_iff_exists.mp (pD _ _ _ _ q)
 ·have z':b=C:=z
  exact absurd (hfp b hb).2 (by rw [z'];exact Nat.not_lt.mpr hC)
 ·exact(hfp b hb).1.2.2.2.2.1 x c (hcl x c e) z
 ·obtain⟨h0,h1,h2,h3,h4',h5⟩:=(hfp b hb).1
  rcases h3 with h3 | h3
  ·exact okX.noex b o e h3
  ·have:=(okX.bs b o e).1
   exact absurd (Nat.lt_of_lt_of_le (Heap.lt_size this) h3) (Nat.lt_irrefl _)
 ·obtain⟨h0,h1,h2,h3,h4',h5⟩:=(hfp b hb).1
  exact I.notStk h1 h2 z
 ·have e1':N'[j]?=some y:=e1
  unfold σB at e2
  rw [List.getElem?_map] at e2
  cases ec:cap[j]? with
  | none=>rw [ec] at e2;cases e2
  | some o=>
   rw [ec] at e2
   cases o with
   | none=>cases e2
   | some i=>
    obtain⟨y',n1,n2,vis,kx,kb⟩:=B.cap j i ec
    rw [e1'] at n1;cases n1
    have e2':(σ[i]?).join=some v:=Option.some.inj e2
    have e2'':σ[i]?=some (some v):=by
     cases q:σ[i]? with
     | none=>rw [q] at e2';cases e2'
     | some z=>rw [q] at e2';exact congrArg some e2'
    obtain⟨m,hm,hl⟩:=I.loc
    obtain⟨u,ru,lk⟩:=hl i y v n2 e2'' vis
    refine⟨u,ru,.inr ⟨kb,?_⟩⟩
    rcases lk with ⟨k,_⟩ | ⟨k,c,ec',z⟩
    ·rcases kx with kx | kx
     ·rw [kx] at k;cases k
     ·rw [kx] at k;cases k
    ·have q:=lg (scope:=scope) (env:=X.env) (y:=y) (names:=scope.names) kb B.nocell
     obtain⟨c',hc'⟩:=Option.isSome_iff_exists.mp (pD X.env.cells scope.names [] y q)
     have:=hcl y c' hc'
     rw [ec'] at this;cases this
     exact⟨c,hc',z.keeps hk⟩
 ·obtain⟨v,z⟩:=cellC x c e
  exact⟨v,z.keeps hk⟩
 ·show (σB cap σ).length=N'.length
  unfold σB
  rw [List.length_map,B.len]
theorem Inv.unblock{Hf:Hp}{s':Shared}{σ':St}{pins':List (Addr×Obj)}(I:Inv X pins σ H s)(hfp:∀ b∈fp,qu X pins H b)(J:Inv (pG X N' scope C s H fp) pins' σ' Hf s'):Inv X pins σ Hf s':=
 I.call' (ch:=fp) J.os J.base J.hok J.bare fun b hb=>by
  obtain⟨h0,h1,h2,h3,h4,h5⟩:=hfp b hb
  exact⟨h3,h1,h4,h5⟩
end
def xj(wi:TI)(g:TG)(tt:TT)(tb:Addr->TB)(cap:List (Option Nat)):TE:=fun σ H Q=>wi σ H fun J H1=>∀ p,H1 p=none->ID J g tt (tb p) (σB cap σ) (upd H1 p (.lst [])) fun _ H'=>Q (.ref p) H'
def IE(wi:TI)(g:TG)(tt:TT)(te:TE)(cap:List (Option Nat)):TE:=xj wi g tt (tEm te) cap
def Behind(X:Cx)(pins:List (Addr×Obj))(σ:St)(Q:VK)(acc:Value)(C:Addr)(r:Result)(s':Shared):Prop:=
 ∃ p Hf m,r=.ok .next/\acc=.ref p/\Inv X pins σ Hf s'/\Q (.ref p) Hf/\s'.heap.Ns C m/\Hf C=none/\C≠X.env.locals/\X.s₀.heap.objs.size<=C/\(∀ x c,X.env.cells.lookup x=some c->c≠C)/\(∀ q∈X.pn++pins,q.1≠C)
theorem uz{X:Cx}{elt iter tg:Expr}{ifs:List Expr}{rest:List Comprehension}{scope:Scope}{pos:Pos}{N':List Str}{cap:List (Option Nat)}{wi:TI}{g:TG}{tt:TT}{tb:Addr->TB}{bc:Value->Env->Sem Unit}
  (hc:X.calm=true) (B:BlockOk X N' scope cap) (hi:PI X tg iter wi) (hg:∀ C s H fp,PG (pG X N' scope C s H fp) tg g) (ht:∀ C s H fp,Pt (pG X N' scope C s H fp) ifs tt)
  (htn:∀ it acc env,compTurn (.ListComp elt (⟨tg,iter,ifs,0⟩::rest) scope pos) 0 it acc env=sa (.ListComp elt (⟨tg,iter,ifs,0⟩::rest) scope pos) tg iter.pos ifs 0 it acc env (bc acc env))
  (hb:∀ C s H fp p,PB (pG X N' scope C s H fp) (bc (.ref p) (pG X N' scope C s H fp).env) (tb p))
  {pins:List (Addr×Obj)} {s:Shared} {σ:St} {H:Hp} {Q:VK} (I:Inv X pins σ H s) (h:xj wi g tt tb cap σ H Q) {E:Value->Shared->Prop} (hE:∀ e s,X.xe e s->E e s) :
  wpAny (model X.prog X.w) X.A (eval iter X.env) (fun x s₁=>wpAny (model X.prog X.w) X.A (pyIter x) (fun it s₂=>wpAny (model X.prog X.w) X.A (newList []) (fun acc s₃=>
   wpAny (model X.prog X.w) X.A (newFunctionEnv scope X.env.globals (mP X.env.cells scope.names []) [] X.env.qual none .none (some X.env)) (fun cenv s₄=>
    codeAny (model X.prog X.w) X.A (.compStart (.ListComp elt (⟨tg,iter,ifs,0⟩::rest) scope pos) 0 it acc { cenv with scope:=relabel scope X.env }) (Behind X pins σ Q acc cenv.locals) s₄) E s₃) E s₂) E s₁) E s:=by
 refine wpAny_mono (hi pins s σ H _ I h) (fun v s1 h1=>wpAny_mono h1 (fun itv s2 h2=>?_) hE) hE
 obtain⟨it,fp,tn,J,H1,e,I2,T,st2,f2,hW⟩:=h2
 subst e
 refine wpAny_newObj_type (wpAny_newFunctionEnv B.nocell (by intro y hy;simp at hy) (fun h₁ hns₁ hsb₁=>?_) B.kind)
 dsimp only at hns₁ hsb₁ ⊢
 have hp1:H1 s2.heap.objs.size=none:=I2.hok.fresh (Nat.le_refl _)
 have hL:=hW s2.heap.objs.size hp1
 have I3:Inv X pins σ (upd H1 s2.heap.objs.size (.lst [])) { s2 with heap:=s2.heap.push { cls:=.type "list",dict:=none,data:=.seq ([]:List Value).toArray },toks:=s2.toks }:=
  I2.laid (fun b o e=>Heap.get?_push_of_some _ e) (Nat.le_refl _) ⟨Nat.zero_le _,[],_,.nil,Heap.get?_push_size _ rfl⟩
 generalize hH2:s2.heap.push { cls:=.type "list",dict:=none,data:=.seq ([]:List Value).toArray } = H2 at hns₁ hsb₁ I3 ⊢
 have hC:H2.objs.size=s2.heap.objs.size+1:=by rw [<- hH2,Heap.size_push]
 have ltfp:∀ b∈fp,b<s2.heap.objs.size:=fun b hb=>by
  obtain⟨o,e,_⟩:=T.obj _ _ st2 b hb
  exact Heap.lt_size e
 have hf3:∀ b∈fp,qu X pins (upd H1 s2.heap.objs.size (.lst [])) b/\b<H2.objs.size:=fun b hb=>by
  obtain⟨a0,a⟩:=f2 b hb
  refine⟨⟨?_,a⟩,by rw [hC];exact Nat.lt_succ_of_lt (ltfp b hb)⟩
  rw [bm (Nat.ne_of_lt (ltfp b hb))];exact a0
 have up:∀ b o,H2.get? b=some o->h₁.get? b=some o:=fun b o e=>hsb₁.extBut b o (Nat.ne_of_lt (Heap.lt_size e)) (Heap.get?_push_of_some _ e)
 have I4:=I3.block (C:=H2.objs.size) (fp:=fp) (h4:=h₁) (tk:=s2.toks+([]:List (Str×Value)).length) B hf3 (Nat.le_refl _) up hns₁
 have st4:tn 0 h₁:=T.keep _ _ _ st2 fun b hb o e=>up b o (by rw [<- hH2];exact Heap.get?_push_of_some _ e)
 have loop:codeAny (model X.prog X.w) X.A (.compLoop (.ListComp elt (⟨tg,iter,ifs,0⟩::rest) scope pos) 0 (.ref it) (.ref s2.heap.objs.size) (compEnvC scope (mP X.env.cells scope.names []) H2.objs.size X.env))
    (Behind X pins σ Q (.ref s2.heap.objs.size) H2.objs.size) { s2 with heap:=h₁,toks:=s2.toks+([]:List (Str×Value)).length }:=by
  refine codeAny_mono (HI (X:=pG X N' scope H2.objs.size { s2 with heap:=H2,toks:=s2.toks } (upd H1 s2.heap.objs.size (.lst [])) fp) hc (fun _ _ z=>z) rfl (htn _ _ _) (hg _ _ _ _) (ht _ _ _ _) (hb _ _ _ _ _) T I4 st4 (fun b hb=>?_) hL) fun r s4 ⟨σ4,H4,hr,J4,qn⟩=>?_
  ·obtain⟨h0,h1,h2,h3,h4',h5⟩:=(hf3 b hb).1
   exact⟨h0,Nat.ne_of_lt (hf3 b hb).2,I3.notStk h1 h2,.inl hb,fun x c e=>h4' x c (B.cl I3.ok x c e),fun p hp=>absurd (show p∈([]:List (Addr×Obj)) from hp) (by simp)⟩
  ·obtain⟨m,hm,_⟩:=J4.loc
   have IX:=I3.unblock (fun b hb=>(hf3 b hb).1) J4
   refine⟨_,H4,m,hr,rfl,IX,qn,hm,J4.free,?_,?_,fun x c e z=>?_,fun q hq z=>?_⟩
   ·exact Ne.symm (Nat.ne_of_lt I3.lt)
   ·exact I3.sz
   ·obtain⟨v,q⟩:=I3.cell x c e
    exact absurd q.lt (by rw [z];exact Nat.lt_irrefl _)
   ·exact absurd (Heap.lt_size (I3.pin q hq).1) (by rw [z];exact Nat.lt_irrefl _)
 exact codeAny_compStart_list loop (T.self _ 0 _ _ _ st4 loop)
theorem Jx{X:Cx}{elt iter tg:Expr}{ifs:List Expr}{rest:List Comprehension}{scope:Scope}{pos:Pos}{N':List Str}{cap:List (Option Nat)}{wi:TI}{g:TG}{tt:TT}{tb:Addr->TB}{bc:Value->Env->Sem Unit}
  (hc:X.calm=true) (B:BlockOk X N' scope cap) (hi:PI X tg iter wi) (hg:∀ C s H fp,PG (pG X N' scope C s H fp) tg g) (ht:∀ C s H fp,Pt (pG X N' scope C s H fp) ifs tt) (htn:∀ it acc env,compTurn (.ListComp elt (⟨tg,iter,ifs,0⟩::rest) scope pos) 0 it acc env=sa (.ListComp elt (⟨tg,iter,ifs,0⟩::rest) scope pos) tg iter.pos ifs 0 it acc env (bc acc env))
  (hb:∀ C s H fp p,PB (pG X N' scope C s H fp) (bc (.ref p) (pG X N' scope C s H fp).env) (tb p))
  (hs:∀ x,foldedSetIterable iter X.env x=pure x:=by intro _;rfl):PE X (.ListComp elt (⟨tg,iter,ifs,0⟩::rest) scope pos) (xj wi g tt tb cap):=by
 intro pins s σ H Q I h
 rw [eval_ListComp]
 refine wpAny_comprehension_free (use:=none) rfl hs (nO (B.cells I.ok)) B.kind B.names ?_
 refine wpAny_mono (uz hc B hi hg ht htn hb I h fun _ _ x=>x) (fun x s1 h1=>wpAny_mono h1 (fun it s2 h2=>wpAny_mono h2 (fun acc s3 h3=>wpAny_mono h3 (fun cenv s4 h4=>codeAny_mono h4 fun r s' hr=>?_) fun _ _ x=>x) fun _ _ x=>x) fun _ _ x=>x) fun _ _ x=>x
 obtain⟨p,Hf,m,rfl,rfl,J,q,hn,c1,c2,c3,c4,c5⟩:=hr
 exact⟨m,hn,fun h' sb=>⟨_,Hf,J.turned (t':=s'.toks) (fun b o hb e=>(sb.2 b hb).trans e) c1 c2 (.inr c3) c4 c5,(show RelV (.ref p) (.ref p) from rfl),q⟩⟩
theorem zM{X:Cx}{elt iter tg:Expr}{ifs:List Expr}{rest:List Comprehension}{scope:Scope}{pos spos py:Pos}{N':List Str}{cap:List (Option Nat)}{wi:TI}{g:TG}{tt:TT}{tb:Addr->TB}{bc:Value->Env->Sem Unit}{y:Str}{i:Nat}
  (hN:X.N.Nodup) (hy:X.N[i]?=some y) (hx:Mt X.env.scope y)
  (hc:X.calm=true) (B:BlockOk X N' scope cap) (hi:PI X tg iter wi) (hg:∀ C s H fp,PG (pG X N' scope C s H fp) tg g) (ht:∀ C s H fp,Pt (pG X N' scope C s H fp) ifs tt) (htn:∀ it acc env,compTurn (.ListComp elt (⟨tg,iter,ifs,0⟩::rest) scope pos) 0 it acc env=sa (.ListComp elt (⟨tg,iter,ifs,0⟩::rest) scope pos) tg iter.pos ifs 0 it acc env (bc acc env))
  (hb:∀ C s H fp p,PB (pG X N' scope C s H fp) (bc (.ref p) (pG X N' scope C s H fp).env) (tb p))
  (hsw:swapsWith (.ListComp elt (⟨tg,iter,ifs,0⟩::rest) scope pos) (some (.Name y py)) spos.line X.env=pure true:=by rfl)
  (hs:∀ x,foldedSetIterable iter X.env x=pure x:=by intro _;rfl) (hf:X.fn y=true\/X.env.scope.names.lookup y=some .local:=by first | exact .inl rfl | exact .inr rfl | assumption) :
  PS X (.Assign [.Name y py] (.ListComp elt (⟨tg,iter,ifs,0⟩::rest) scope pos) spos) (IG (xj wi g tt tb cap) (Fb i)):=by
 intro pins s σ H D I h
 rw [exec_Assign_Name_used _ _ _ _ hsw]
 refine wpAny_bind (wpAny_standAt (wpAny_bind ?_))
 show wpAny _ _ (do let _ <- comprehension (.ListComp elt (⟨tg,iter,ifs,0⟩::rest) scope pos) scope X.env _ (newList []) false (eval iter X.env) (some (assign (.Name y py) X.env))) _ _ s
 refine wpAny_bind (wpAny_mono (wpAny_comprehension_free (use:=some (assign (.Name y py) X.env)) (Q:=fun _ s'=>SP X pins D .next s') rfl hs (nO (B.cells I.ok)) B.kind B.names
  (wpAny_mono (uz hc B hi hg ht htn hb I h fun _ _ x=>x) (fun x s1 h1=>wpAny_mono h1 (fun it s2 h2=>wpAny_mono h2 (fun acc s3 h3=>wpAny_mono h3 (fun cenv s4 h4=>codeAny_mono h4 fun r s' hr=>?_) fun _ _ x=>x) fun _ _ x=>x) fun _ _ x=>x) fun _ _ x=>x))
  (fun _ s' hq=>wpAny_pure (wpAny_pure hq)) fun _ _ e=>e)
 obtain⟨p,Hf,m,rfl,rfl,J,q,hn,c1,c2,c3,c4,c5⟩:=hr
 refine wpAny_assign_Name (vI J hN hy hx (v:=.ref p) rfl (fun s2 J2 ⟨a,sb,ha⟩=>?_) hf)
 refine⟨m,hn.sameBut sb ?_,fun h' sb2=>⟨_,Hf,J2.turned (t':=s2.toks) (fun b o hb e=>(sb2.2 b hb).trans e) c1 c2 (.inr c3) c4 c5,q⟩⟩
 rcases ha with rfl | ha
 ·exact c2
 ·exact Ne.symm (c4 _ _ ha)
theorem Nr{X:Cx}{elt iter tg:Expr}{ifs:List Expr}{scope:Scope}{pos:Pos}{N':List Str}{cap:List (Option Nat)}{wi:TI}{g:TG}{tt:TT}{te:TE}
  (hc:X.calm=true) (B:BlockOk X N' scope cap) (hi:PI X tg iter wi) (hg:∀ C s H fp,PG (pG X N' scope C s H fp) tg g) (ht:∀ C s H fp,Pt (pG X N' scope C s H fp) ifs tt) (he:∀ C s H fp,PE (pG X N' scope C s H fp) elt te)
  (hs:∀ x,foldedSetIterable iter X.env x=pure x:=by intro _;rfl):PE X (.ListComp elt [⟨tg,iter,ifs,0⟩] scope pos) (IE wi g tt te cap):=
 Jx hc B hi hg ht (fun _ _ _=>compTurn_list ..) (fun C s H fp p=>Ey (he C s H fp)) hs
theorem Cd{X:Cx}{elt iter tg:Expr}{ifs:List Expr}{scope:Scope}{pos spos py:Pos}{N':List Str}{cap:List (Option Nat)}{wi:TI}{g:TG}{tt:TT}{te:TE}{y:Str}{i:Nat}
  (hN:X.N.Nodup) (hy:X.N[i]?=some y) (hx:Mt X.env.scope y)
  (hc:X.calm=true) (B:BlockOk X N' scope cap) (hi:PI X tg iter wi) (hg:∀ C s H fp,PG (pG X N' scope C s H fp) tg g) (ht:∀ C s H fp,Pt (pG X N' scope C s H fp) ifs tt) (he:∀ C s H fp,PE (pG X N' scope C s H fp) elt te)
  (hsw:swapsWith (.ListComp elt [⟨tg,iter,ifs,0⟩] scope pos) (some (.Name y py)) spos.line X.env=pure true:=by rfl)
  (hs:∀ x,foldedSetIterable iter X.env x=pure x:=by intro _;rfl) (hf:X.fn y=true\/X.env.scope.names.lookup y=some .local:=by first | exact .inl rfl | exact .inr rfl | assumption) :
  PS X (.Assign [.Name y py] (.ListComp elt [⟨tg,iter,ifs,0⟩] scope pos) spos) (IG (IE wi g tt te cap) (Fb i)):=
 zM hN hy hx hc B hi hg ht (fun _ _ _=>compTurn_list ..) (fun C s H fp p=>Ey (he C s H fp)) hsw hs hf
end L2
namespace M
open PySem PySem.Spec PyProof.Rows L2
inductive D where
 | non
 | bl (b:Bool)
 | int (i:Int)
 | str (x:Str)
 | tup (xs:List D)
 | lst (xs:List D)
 | rol (xs:List D)
 | dct (ks:List bB) (vs:List D)
 | ref (r:Nat)
inductive uO where
 | lst (xs:List D)
 | dct (ks:List bB) (vs:List D)
abbrev ac:=List uO
structure Fp where
 cs:List Addr
 fb:List Addr
def Fp.no(μ:Fp)(a:Addr):Prop:=a ∉ μ.cs/\a ∉ μ.fb
abbrev bn:=List (Option D)
theorem ED{α:Type}{N:List α}(hN:N.Nodup){i j:Nat}{x:α}(a:N[i]?=some x)(b:N[j]?=some x):i=j:=by
 obtain⟨h1,e1⟩:=List.getElem?_eq_some_iff.mp a
 obtain⟨h2,e2⟩:=List.getElem?_eq_some_iff.mp b
 exact(List.getElem_inj hN).mp (e1.trans e2.symm)
def KList(K:PySem.W.Frag)(a:Addr)(xs:List V):Prop:=∃ (o:Obj) (its:Array Value) (n:Nat),K.lookup a=some o/\o.cls=.type "list"/\o.dict=none/\o.data=.seq its n/\its.size<=sizeLine/\Vals xs its.toList
def KTup(K:PySem.W.Frag)(a:Addr)(xs:List V):Prop:=∃ (o:Obj) (its:Array Value) (n:Nat),K.lookup a=some o/\o.cls=.type "tuple"/\o.dict=none/\o.data=.seq its n/\its.size<=sizeLine/\Vals xs its.toList
mutual
inductive Rep(K:PySem.W.Frag)(μ:Fp)(H:Hp):V->D->Prop
 | non:Rep K μ H .non .non
 | bl (b:Bool):Rep K μ H (.bl b) (.bl b)
 | int (i:Int):Rep K μ H (.int i) (.int i)
 | str (x:Str):Rep K μ H (.str x) (.str x)
 | tup {a:Addr} {vs:List V} {ds:List D} (h:H a=some (.tup vs)) (n:μ.no a) (r:Reps K μ H vs ds):Rep K μ H (.ref a) (.tup ds)
 | ktup {a:Addr} {vs:List V} {ds:List D} (h:KTup K a vs) (r:Reps K μ H vs ds):Rep K μ H (.ref a) (.tup ds)
 | lst {a:Addr} {vs:List V} {ds:List D} (h:H a=some (.lst vs)) (n:μ.no a) (r:Reps K μ H vs ds):Rep K μ H (.ref a) (.lst ds)
 | rol {a:Addr} {vs:List V} {ds:List D} (h:Rd H a (.lst vs)) (n:μ.no a) (r:Reps K μ H vs ds):Rep K μ H (.ref a) (.rol ds)
 | krol {a:Addr} {vs:List V} {ds:List D} (h:KList K a vs) (r:Reps K μ H vs ds):Rep K μ H (.ref a) (.rol ds)
 | dct {a:Addr} {kvs:List (bB×V)} {ds:List D} (h:H a=some (.dK kvs)) (n:μ.no a) (r:Reps K μ H (kvs.map (·.2)) ds):Rep K μ H (.ref a) (.dct (kvs.map (·.1)) ds)
 | ref {a:Addr} {r:Nat} (h:μ.cs[r]?=some a):Rep K μ H (.ref a) (.ref r)
inductive Reps(K:PySem.W.Frag)(μ:Fp)(H:Hp):List V->List D->Prop
 | nil:Reps K μ H [] []
 | cons {v:V} {d:D} {vs:List V} {ds:List D} (h:Rep K μ H v d) (t:Reps K μ H vs ds):Reps K μ H (v::vs) (d::ds)
end
structure Ext(μ:Fp)(H:Hp)(μ':Fp)(H':Hp):Prop where
 fb:μ'.fb = μ.fb
 pre:∃ l,μ'.cs = μ.cs++l/\∀ a∈l,H a=none
 keep:∀ a o,a ∉ μ.cs->H a=some o->H' a=some o
 dom:∀ a ∈ μ'.cs,H' a≠none
section
variable{K:PySem.W.Frag}{μ μ' μ'':Fp}{H H' H'':Hp}
theorem Ext.stays(e:Ext μ H μ' H'){a:Addr}{o:HO}(h:H a=some o)(n:μ.no a):H' a=some o/\μ'.no a:=by
 refine⟨e.keep a o n.1 h,fun z=>?_,by rw [e.fb];exact n.2⟩
 obtain⟨l,q,hl⟩:=e.pre
 rw [q] at z
 rcases List.mem_append.mp z with z | z
 ·exact n.1 z
 ·rw [hl a z] at h;cases h
theorem Ext.keeps(e:Ext μ H μ' H'){a:Addr}{o:HO}(h:H a=some o)(n:a ∉ μ.cs):H' a=some o/\a ∉ μ'.cs:=by
 refine⟨e.keep a o n h,fun z=>?_⟩
 obtain⟨l,q,hl⟩:=e.pre
 rw [q] at z
 rcases List.mem_append.mp z with z | z
 ·exact n z
 ·rw [hl a z] at h;cases h
theorem Ext.trans(e:Ext μ H μ' H')(f:Ext μ' H' μ'' H''):Ext μ H μ'' H'':=by
 obtain⟨l,q,hl⟩:=e.pre
 obtain⟨l',q',hl'⟩:=f.pre
 refine⟨f.fb.trans e.fb,⟨l++l',by rw [q',q,List.append_assoc],fun a ha=>?_⟩,fun a o n h=>?_,f.dom⟩
 ·rcases List.mem_append.mp ha with ha | ha
  ·exact hl a ha
  ·have h1:=hl' a ha
   cases q2:H a with
   | none=>rfl
   | some o=>
    by_cases hm:a ∈ μ.cs
    ·exact absurd h1 (e.dom a (by rw [q];exact List.mem_append_left _ hm))
    ·rw [e.keep a o hm q2] at h1;cases h1
 ·have:=e.keeps h n
  exact f.keep a o this.2 this.1
theorem Ext.refl(h:∀ a ∈ μ.cs,H a≠none):Ext μ H μ H:=⟨rfl,⟨[],by simp,fun _ z=>by simp at z⟩,fun _ _ _ h=>h,h⟩
mutual
theorem Rep.imp(hk:∀ {a:Addr} {o:HO},H a=some o->μ.no a->H' a=some o/\μ'.no a)(hr:∀ {r:Nat} {a:Addr},μ.cs[r]?=some a->μ'.cs[r]?=some a):∀ {v:V} {d:D},Rep K μ H v d->Rep K μ' H' v d
 | _,_,.non=>.non
 | _,_,.bl b=>.bl b
 | _,_,.int i=>.int i
 | _,_,.str x=>.str x
 | _,_,.tup h n r=>.tup (hk h n).1 (hk h n).2 (Reps.imp hk hr r)
 | _,_,.ktup h r=>.ktup h (Reps.imp hk hr r)
 | _,_,.lst h n r=>.lst (hk h n).1 (hk h n).2 (Reps.imp hk hr r)
 | _,_,.rol (.inl h) n r=>.rol (.inl (hk h n).1) (hk h n).2 (Reps.imp hk hr r)
 | _,_,.rol (.inr ⟨o,h⟩) n r=>.rol (.inr ⟨o,(hk h n).1⟩) (hk h n).2 (Reps.imp hk hr r)
 | _,_,.krol h r=>.krol h (Reps.imp hk hr r)
 | _,_,.dct h n r=>.dct (hk h n).1 (hk h n).2 (Reps.imp hk hr r)
 | _,_,.ref h=>.ref (hr h)
theorem Reps.imp(hk:∀ {a:Addr} {o:HO},H a=some o->μ.no a->H' a=some o/\μ'.no a)(hr:∀ {r:Nat} {a:Addr},μ.cs[r]?=some a->μ'.cs[r]?=some a):∀ {vs:List V} {ds:List D},Reps K μ H vs ds->Reps K μ' H' vs ds
 | _,_,.nil=>.nil
 | _,_,.cons h t=>.cons (Rep.imp hk hr h) (Reps.imp hk hr t)
end
theorem zd{l m:List Addr}{k:List Addr}(q:k=l++m){r:Nat}{a:Addr}(h:l[r]?=some a):k[r]?=some a:=by
 rw [q,List.getElem?_append_left (List.getElem?_eq_some_iff.mp h).1];exact h
theorem Ext.ix(e:Ext μ H μ' H'){r:Nat}{a:Addr}(h:μ.cs[r]?=some a):μ'.cs[r]?=some a:=by
 obtain⟨l,q,_⟩:=e.pre
 exact zd q h
theorem Rep.mono(e:Ext μ H μ' H'){v:V}{d:D}(r:Rep K μ H v d):Rep K μ' H' v d:=r.imp e.stays e.ix
theorem Reps.mono(e:Ext μ H μ' H'){vs:List V}{ds:List D}(r:Reps K μ H vs ds):Reps K μ' H' vs ds:=r.imp e.stays e.ix
theorem Reps.length:∀ {vs:List V} {ds:List D},Reps K μ H vs ds->vs.length=ds.length
 | _,_,.nil=>rfl
 | _,_,.cons _ t=>by simp [Reps.length t]
theorem Reps.get:∀ {vs:List V} {ds:List D} {i:Nat} {d:D},Reps K μ H vs ds->ds[i]?=some d->∃ v,vs[i]?=some v/\Rep K μ H v d
 | _,_,_,_,.nil,e=>by simp at e
 | _,_,0,_,.cons h _,e=>by simp at e;subst e;exact⟨_,rfl,h⟩
 | _,_,i+1,d,.cons _ t,e=>by
  obtain⟨u,h1,h2⟩:=Reps.get (i:=i) (d:=d) t (by simpa using e)
  exact⟨u,by simpa using h1,h2⟩
theorem Reps.append:∀ {vs ws:List V} {ds es:List D},Reps K μ H vs ds->Reps K μ H ws es->Reps K μ H (vs++ws) (ds++es)
 | _,_,_,_,.nil,s=>s
 | _,_,_,_,.cons r t,s=>.cons r (Reps.append t s)
theorem Reps.take:∀ {vs:List V} {ds:List D} (n:Nat),Reps K μ H vs ds->Reps K μ H (vs.take n) (ds.take n)
 | _,_,0,_=>.nil
 | _,_,_+1,.nil=>.nil
 | _,_,n+1,.cons r t=>.cons r (Reps.take n t)
theorem Reps.drop:∀ {vs:List V} {ds:List D} (n:Nat),Reps K μ H vs ds->Reps K μ H (vs.drop n) (ds.drop n)
 | _,_,0,r=>r
 | _,_,_+1,.nil=>.nil
 | _,_,n+1,.cons _ t=>Reps.drop n t
theorem Reps.set{x:V}{d:D}(r:Rep K μ H x d):∀ {vs:List V} {ds:List D} (i:Nat),Reps K μ H vs ds->Reps K μ H (vs.set i x) (ds.set i d)
 | _,_,_,.nil=>.nil
 | _,_,0,.cons _ t=>.cons r t
 | _,_,i+1,.cons q t=>.cons q (Reps.set r i t)
theorem Reps.flat{xs:List V}:∀ (k:Nat) {ds:List D},Reps K μ H xs ds->Reps K μ H (List.replicate k xs).flatten (List.replicate k ds).flatten
 | 0,_,_=>.nil
 | k+1,_,r=>by rw [List.replicate_succ,List.replicate_succ,List.flatten_cons,List.flatten_cons];exact r.append (Reps.flat k r)
def CellOk(K:PySem.W.Frag)(μ:Fp)(H:Hp)(a:Addr):uO->Prop
 | .lst ds=>∃ vs,H a=some (.lst vs)/\Reps K μ H vs ds
 | .dct ks ds=>∃ kvs,H a=some (.dK kvs)/\ks=kvs.map (·.1)/\Reps K μ H (kvs.map (·.2)) ds
structure SOk(K:PySem.W.Frag)(μ:Fp)(S:ac)(H:Hp):Prop where
 nd:μ.cs.Nodup
 len:μ.cs.length=S.length
 cell:∀ (r:Nat) (a:Addr) (c:uO),μ.cs[r]?=some a->S[r]?=some c->CellOk K μ H a c
 fdom:∀ a ∈ μ.fb,H a≠none
 disj:∀ a ∈ μ.fb,a ∉ μ.cs
theorem CellOk.ne_none{a:Addr}{c:uO}(h:CellOk K μ H a c):H a≠none:=by
 cases c with
 | lst ds=>obtain⟨vs,h,_⟩:=h;rw [h];simp
 | dct ks ds=>obtain⟨vs,h,_⟩:=h;rw [h];simp
theorem CellOk.mono(e:Ext μ H μ' H'){a:Addr}{c:uO}(he:H' a=H a)(h:CellOk K μ H a c):CellOk K μ' H' a c:=by
 cases c with
 | lst ds=>obtain⟨vs,h,r⟩:=h;exact⟨vs,he.trans h,r.mono e⟩
 | dct ks ds=>obtain⟨vs,h,q,r⟩:=h;exact⟨vs,he.trans h,q,r.mono e⟩
theorem SOk.dom{S:ac}(s:SOk K μ S H):∀ a ∈ μ.cs,H a≠none:=fun a ha=>by
 obtain⟨r,hr⟩:=List.mem_iff_getElem?.mp ha
 have hl:=(List.getElem?_eq_some_iff.mp hr).1
 rw [s.len] at hl
 exact(s.cell r a S[r] hr (by simp [hl])).ne_none
theorem SOk.ext{S:ac}(s:SOk K μ S H):Ext μ H μ H:=.refl s.dom
theorem SOk.notMem{S:ac}(s:SOk K μ S H){p:Addr}(h:H p=none):μ.no p:=⟨fun z=>s.dom p z h,fun z=>s.fdom p z h⟩
theorem SOk.laid{S:ac}(s:SOk K μ S H){p:Addr}{o:HO}(h:H p=none):Ext μ H μ (upd H p o)/\SOk K μ S (upd H p o):=by
 have e:Ext μ H μ (upd H p o):=⟨rfl,⟨[],by simp,fun _ z=>by simp at z⟩,fun a o' _ q=>by rw [bm (cw q h)];exact q,fun a ha=>by
  by_cases z:a=p
  ·subst z;rw [bw];simp
  ·rw [bm z];exact s.dom a ha⟩
 refine⟨e,s.nd,s.len,fun r a c h1 h2=>(s.cell r a c h1 h2).mono e ?_,fun a ha=>?_,s.disj⟩
 case refine_2=>
  by_cases z:a=p
  ·subst z;rw [bw];simp
  ·rw [bm z];exact s.fdom a ha
 have:=(s.cell r a c h1 h2).ne_none
 refine bm fun z=>?_
 rw [z] at this
 exact this h
theorem SOk.alloc{S:ac}(s:SOk K μ S H){p:Addr}{vs:List V}{ds:List D}(h:H p=none)(r:Reps K μ H vs ds):Ext μ H ⟨μ.cs++[p],μ.fb⟩ (upd H p (.lst vs))/\SOk K ⟨μ.cs++[p],μ.fb⟩ (S++[.lst ds]) (upd H p (.lst vs)):=by
 have hp:=s.notMem h
 have e:Ext μ H ⟨μ.cs++[p],μ.fb⟩ (upd H p (.lst vs)):=⟨rfl,⟨[p],rfl,fun a z=>by rw [List.mem_singleton.mp z];exact h⟩,fun a o' _ q=>by rw [bm (cw q h)];exact q,fun a ha=>by
  by_cases z:a=p
  ·subst z;rw [bw];simp
  ·rw [bm z]
   rcases List.mem_append.mp ha with q | q
   ·exact s.dom a q
   ·exact absurd (List.mem_singleton.mp q) z⟩
 refine⟨e,?_,by simp [s.len],fun i a c h1 h2=>?_,fun a ha=>?_,fun a ha z=>?_⟩
 case refine_3=>
  by_cases z:a=p
  ·subst z;rw [bw];simp
  ·rw [bm z];exact s.fdom a ha
 case refine_4=>
  rcases List.mem_append.mp z with q | q
  ·exact s.disj a ha q
  ·rw [List.mem_singleton.mp q] at ha;exact hp.2 ha
 ·show (μ.cs++[p]).Nodup
  rw [List.nodup_append]
  exact⟨s.nd,by simp,fun a ha b hb=>by rw [List.mem_singleton.mp hb];rintro rfl;exact hp.1 ha⟩
 ·have h1:(μ.cs++[p])[i]?=some a:=h1
  by_cases hi:i < μ.cs.length
  ·rw [List.getElem?_append_left hi] at h1
   rw [List.getElem?_append_left (by rw [<- s.len];exact hi)] at h2
   have q:=s.cell i a c h1 h2
   refine q.mono e (bm fun z=>?_)
   exact hp.1 (z ▸ List.mem_of_getElem? h1)
  ·have hl:i = μ.cs.length:=by
    have:=(List.getElem?_eq_some_iff.mp h1).1
    simp at this;omega
   subst hl
   rw [List.getElem?_append_right (Nat.le_refl _)] at h1
   rw [s.len,List.getElem?_append_right (Nat.le_refl _)] at h2
   simp at h1 h2
   subst h1 h2
   exact⟨vs,bw,r.mono e⟩
theorem SOk.write{S:ac}(s:SOk K μ S H){i:Nat}{a:Addr}{vs vs':List V}{ds:List D}(hi:μ.cs[i]?=some a)(h:H a=some (.lst vs))(r:Reps K μ H vs' ds):Ext μ H μ (upd H a (.lst vs'))/\SOk K μ (S.set i (.lst ds)) (upd H a (.lst vs')):=by
 have ha:=List.mem_of_getElem? hi
 have e:Ext μ H μ (upd H a (.lst vs')):=⟨rfl,⟨[],by simp,fun _ z=>by simp at z⟩,fun b o' n q=>by rw [bm (by rintro rfl;exact n ha)];exact q,fun b hb=>by
  by_cases z:b=a
  ·subst z;rw [bw];simp
  ·rw [bm z];exact s.dom b hb⟩
 refine⟨e,s.nd,by simp [s.len],fun j b c h1 h2=>?_,fun b hb=>?_,s.disj⟩
 case refine_2=>
  by_cases z:b=a
  ·subst z;rw [bw];simp
  ·rw [bm z];exact s.fdom b hb
 by_cases hj:j=i
 ·subst hj
  rw [hi] at h1;cases h1
  have hl:j<S.length:=by rw [<- s.len];exact(List.getElem?_eq_some_iff.mp hi).1
  rw [List.getElem?_set_self hl] at h2
  cases h2
  exact⟨vs',bw,r.mono e⟩
 ·rw [List.getElem?_set_ne (Ne.symm hj)] at h2
  refine(s.cell j b c h1 h2).mono e (bm fun z=>hj ?_)
  subst z
  exact ED s.nd h1 hi
inductive EOk(K:PySem.W.Frag)(μ:Fp)(H:Hp):L2.St->bn->Prop
 | nil:EOk K μ H [] []
 | no {x:Option V} {σ:L2.St} {env:bn} (t:EOk K μ H σ env):EOk K μ H (x::σ) (none::env)
 | yes {v:V} {d:D} {σ:L2.St} {env:bn} (h:Rep K μ H v d) (t:EOk K μ H σ env):EOk K μ H (some v::σ) (some d::env)
theorem EOk.mono(e:Ext μ H μ' H'):∀ {σ:L2.St} {env:bn},EOk K μ H σ env->EOk K μ' H' σ env
 | _,_,.nil=>.nil
 | _,_,.no t=>.no (EOk.mono e t)
 | _,_,.yes h t=>.yes (h.mono e) (EOk.mono e t)
theorem EOk.get:∀ {σ:L2.St} {env:bn} {i:Nat} {d:D},EOk K μ H σ env->env[i]?=some (some d)->∃ v,σ[i]?=some (some v)/\Rep K μ H v d
 | _,_,_,_,.nil,h=>by simp at h
 | _,_,0,_,.no _,h=>by simp at h
 | _,_,0,_,.yes h _,q=>by simp at q;subst q;exact⟨_,rfl,h⟩
 | _,_,i+1,d,.no t,h=>by
  obtain⟨v,h1,h2⟩:=EOk.get (i:=i) (d:=d) t (by simpa using h)
  exact⟨v,by simpa using h1,h2⟩
 | _,_,i+1,d,.yes _ t,h=>by
  obtain⟨v,h1,h2⟩:=EOk.get (i:=i) (d:=d) t (by simpa using h)
  exact⟨v,by simpa using h1,h2⟩
theorem EOk.set{v:V}{d:D}(r:Rep K μ H v d):∀ {σ:L2.St} {env:bn} (i:Nat),EOk K μ H σ env->EOk K μ H (σ.set i (Option.some v)) (env.set i (Option.some d))
 | _,_,_,.nil=>.nil
 | _,_,0,.no t=>.yes r t
 | _,_,0,.yes _ t=>.yes r t
 | _,_,i+1,.no t=>.no (EOk.set r i t)
 | _,_,i+1,.yes h t=>.yes h (EOk.set r i t)
theorem EOk.start{N:Nat}:∀ {vs:List V} {ds:List D},Reps K μ H vs ds->EOk K μ H (vs.map Option.some++List.replicate N Option.none) (ds.map Option.some++List.replicate N Option.none)
 | _,_,.nil=>by
  induction N with
  | zero=>exact .nil
  | succ n ih=>exact .no ih
 | _,_,.cons h t=>.yes h (EOk.start t)
theorem EOk.block{σ:L2.St}{env:bn}(h:EOk K μ H σ env):∀ (cap:List (Option Nat)),EOk K μ H (σB cap σ) (cap.map fun o=>o.bind fun i=>(env[i]?).join)
 | []=>.nil
 | Option.none::r=>.no (EOk.block h r)
 | Option.some i::r=>by
  show EOk K μ H ((σ[i]?).join::σB r σ) ((env[i]?).join::_)
  cases q:(env[i]?).join with
  | none=>exact .no (EOk.block h r)
  | some d=>
   have q':env[i]?=Option.some (Option.some d):=by
    cases z:env[i]? with
    | none=>rw [z] at q;cases q
    | some y=>rw [z] at q;exact congrArg Option.some q
   obtain⟨v,h1,h2⟩:=h.get q'
   rw [h1]
   exact .yes h2 (EOk.block h r)
theorem EF{p a:Addr}{cs fb:List Addr}(n:(⟨cs,p::fb⟩:Fp).no a):(⟨cs,fb⟩:Fp).no a:=⟨n.1,fun z=>n.2 (List.mem_cons_of_mem _ z)⟩
theorem Rep.less{p:Addr}{cs fb:List Addr}{v:V}{d:D}(r:Rep K ⟨cs,p::fb⟩ H v d):Rep K ⟨cs,fb⟩ H v d:=r.imp (fun h n=>⟨h,EF n⟩) fun h=>h
theorem Reps.less{p:Addr}{cs fb:List Addr}{v:List V}{d:List D}(r:Reps K ⟨cs,p::fb⟩ H v d):Reps K ⟨cs,fb⟩ H v d:=r.imp (fun h n=>⟨h,EF n⟩) fun h=>h
theorem EE{p:Addr}{o:HO}{cs fb:List Addr}(hp:H p=none){a:Addr}{o':HO}(h:H a=some o')(n:(⟨cs,fb⟩:Fp).no a):upd H p o a=some o'/\(⟨cs,p::fb⟩:Fp).no a:=⟨(bm (cw h hp)).trans h,n.1,fun z=>(List.mem_cons.mp z).elim (cw h hp) n.2⟩
theorem Rep.more{p:Addr}{o:HO}{cs fb:List Addr}(hp:H p=none){v:V}{d:D}(r:Rep K ⟨cs,fb⟩ H v d):Rep K ⟨cs,p::fb⟩ (upd H p o) v d:=r.imp (EE hp) fun h=>h
theorem Reps.more{p:Addr}{o:HO}{cs fb:List Addr}(hp:H p=none){v:List V}{d:List D}(r:Reps K ⟨cs,fb⟩ H v d):Reps K ⟨cs,p::fb⟩ (upd H p o) v d:=r.imp (EE hp) fun h=>h
theorem Fp.no.ne{μ:Fp}{a p:Addr}(n:μ.no a)(hp:p ∈ μ.fb):a≠p:=fun z=>n.2 (by rw [z];exact hp)
theorem Rep.chg{p:Addr}{o:HO}(hp:p ∈ μ.fb){v:V}{d:D}(r:Rep K μ H v d):Rep K μ (upd H p o) v d:=r.imp (fun h n=>⟨(bm (n.ne hp)).trans h,n⟩) fun h=>h
theorem Reps.chg{p:Addr}{o:HO}(hp:p ∈ μ.fb){v:List V}{d:List D}(r:Reps K μ H v d):Reps K μ (upd H p o) v d:=r.imp (fun h n=>⟨(bm (n.ne hp)).trans h,n⟩) fun h=>h
theorem EOk.more{p:Addr}{o:HO}{cs fb:List Addr}(hp:H p=none):∀ {σ:L2.St} {env:bn},EOk K ⟨cs,fb⟩ H σ env->EOk K ⟨cs,p::fb⟩ (upd H p o) σ env
 | _,_,.nil=>.nil
 | _,_,.no t=>.no (EOk.more hp t)
 | _,_,.yes h t=>.yes (h.more hp) (EOk.more hp t)
theorem EOk.chg{p:Addr}{o:HO}(hp:p ∈ μ.fb):∀ {σ:L2.St} {env:bn},EOk K μ H σ env->EOk K μ (upd H p o) σ env
 | _,_,.nil=>.nil
 | _,_,.no t=>.no (EOk.chg hp t)
 | _,_,.yes h t=>.yes (h.chg hp) (EOk.chg hp t)
theorem CellOk.upd{p a:Addr}{o:HO}{c:uO}(μ':Fp)(hpa:a≠p)(h:CellOk K μ H a c)(f:∀ vs ds,Reps K μ H vs ds->Reps K μ' (upd H p o) vs ds):CellOk K μ' (upd H p o) a c:=by
 cases c with
 | lst ds=>obtain⟨vs,h,r⟩:=h;exact⟨vs,(bm hpa).trans h,f _ _ r⟩
 | dct ks ds=>obtain⟨vs,h,q,r⟩:=h;exact⟨vs,(bm hpa).trans h,q,f _ _ r⟩
theorem SOk.less{S:ac}{p:Addr}{cs fb:List Addr}(s:SOk K ⟨cs,p::fb⟩ S H):SOk K ⟨cs,fb⟩ S H:=
 ⟨s.nd,s.len,fun r a c h1 h2=>by
  have:=s.cell r a c h1 h2
  cases c with
  | lst ds=>obtain⟨vs,h,r⟩:=this;exact⟨vs,h,r.less⟩
  | dct ks ds=>obtain⟨vs,h,q,r⟩:=this;exact⟨vs,h,q,r.less⟩,fun a ha=>s.fdom a (List.mem_cons_of_mem _ ha),fun a ha=>s.disj a (List.mem_cons_of_mem _ ha)⟩
theorem SOk.more{S:ac}{p:Addr}{o:HO}{cs fb:List Addr}(s:SOk K ⟨cs,fb⟩ S H)(hp:H p=none):SOk K ⟨cs,p::fb⟩ S (upd H p o):=by
 have hn:=s.notMem hp
 refine⟨s.nd,s.len,fun r a c h1 h2=>(s.cell r a c h1 h2).upd _ (fun z=>?_) fun vs ds r=>r.more hp,fun a ha=>?_,fun a ha z=>?_⟩
 ·exact hn.1 (z ▸ List.mem_of_getElem? h1)
 ·by_cases z:a=p
  ·subst z;rw [bw];simp
  ·rw [bm z];exact s.fdom a ((List.mem_cons.mp ha).resolve_left z)
 ·rcases List.mem_cons.mp ha with rfl | ha
  ·exact hn.1 z
  ·exact s.disj a ha z
theorem SOk.chg{S:ac}{p:Addr}{o:HO}(s:SOk K μ S H)(hp:p ∈ μ.fb):SOk K μ S (upd H p o):=by
 refine⟨s.nd,s.len,fun r a c h1 h2=>(s.cell r a c h1 h2).upd _ (fun z=>?_) fun vs ds r=>r.chg hp,fun a ha=>?_,s.disj⟩
 ·exact s.disj p hp (z ▸ List.mem_of_getElem? h1)
 ·by_cases z:a=p
  ·subst z;rw [bw];simp
  ·rw [bm z];exact s.fdom a ha
end
end M
namespace M
open PySem PySem.Spec PyProof.Rows L2
abbrev ME:=bn->ac->Option (D×ac)
abbrev MT:=bn->ac->Option (Bool×ac)
abbrev MA:=bn->ac->Option (List D×ac)
inductive oq where
 | nx (env:bn) (S:ac)
 | rt (d:D) (S:ac)
 | bk (env:bn) (S:ac)
 | ct (env:bn) (S:ac)
abbrev MS:=bn->ac->Option oq
def Post(K:PySem.W.Frag)(μ:Fp)(H:Hp)(S':ac)(d:D)(Q:VK):Prop:=∀ v H' μ',Ext μ H μ' H'->SOk K μ' S' H'->Rep K μ' H' v d->Q v H'
def PostT(K:PySem.W.Frag)(μ:Fp)(H:Hp)(S':ac)(b:Bool)(Q:Bool->Hp->Prop):Prop:=∀ H' μ',Ext μ H μ' H'->SOk K μ' S' H'->Q b H'
def PostA(K:PySem.W.Frag)(μ:Fp)(H:Hp)(S':ac)(ds:List D)(Q:List V->Hp->Prop):Prop:=∀ vs H' μ',Ext μ H μ' H'->SOk K μ' S' H'->Reps K μ' H' vs ds->Q vs H'
def PostN(K:PySem.W.Frag)(μ:Fp)(H:Hp)(S':ac)(env':bn)(Q:L2.St->Hp->Prop):Prop:=∀ σ' H' μ',Ext μ H μ' H'->SOk K μ' S' H'->EOk K μ' H' σ' env'->Q σ' H'
def PostS(K:PySem.W.Frag)(μ:Fp)(H:Hp)(o:oq)(E:vC):Prop:=match o with
 | .nx env' S'=>PostN K μ H S' env' E.nx
 | .rt d S'=>Post K μ H S' d E.rt
 | .bk env' S'=>PostN K μ H S' env' E.bk
 | .ct env' S'=>PostN K μ H S' env' E.ct
inductive tM(K:PySem.W.Frag)(m:ME)(σ:L2.St)(H:Hp)(Q:VK):Prop
 | mk (μ:Fp) (S:ac) (env:bn) (d:D) (S':ac) (hS:SOk K μ S H) (hE:EOk K μ H σ env) (h:m env S=some (d,S')) (post:Post K μ H S' d Q)
inductive Ic(K:PySem.W.Frag)(m:MT)(σ:L2.St)(H:Hp)(Q:Bool->Hp->Prop):Prop
 | mk (μ:Fp) (S:ac) (env:bn) (b:Bool) (S':ac) (hS:SOk K μ S H) (hE:EOk K μ H σ env) (h:m env S=some (b,S')) (post:PostT K μ H S' b Q)
inductive tMA(K:PySem.W.Frag)(m:MA)(σ:L2.St)(H:Hp)(Q:List V->Hp->Prop):Prop
 | mk (μ:Fp) (S:ac) (env:bn) (ds:List D) (S':ac) (hS:SOk K μ S H) (hE:EOk K μ H σ env) (h:m env S=some (ds,S')) (post:PostA K μ H S' ds Q)
inductive tMS(K:PySem.W.Frag)(m:MS)(E:vC)(σ:L2.St)(H:Hp):Prop
 | mk (μ:Fp) (S:ac) (env:bn) (o:oq) (hS:SOk K μ S H) (hE:EOk K μ H σ env) (h:m env S=some o) (post:PostS K μ H o E)
inductive nw(K:PySem.W.Frag)(f:ac->D->D->Option D)(x y:V)(H:Hp)(Q:VK):Prop
 | mk (μ:Fp) (S:ac) (dx dy dz:D) (hS:SOk K μ S H) (h1:Rep K μ H x dx) (h2:Rep K μ H y dy) (h3:f S dx dy=some dz) (post:Post K μ H S dz Q)
inductive rM1(K:PySem.W.Frag)(f:ac->D->Option D)(x:V)(H:Hp)(Q:VK):Prop
 | mk (μ:Fp) (S:ac) (dx dz:D) (hS:SOk K μ S H) (h1:Rep K μ H x dx) (h3:f S dx=some dz) (post:Post K μ H S dz Q)
inductive Je(K:PySem.W.Frag)(f:List D->ac->Option (D×ac))(vs:List V)(H:Hp)(Q:VK):Prop
 | mk (μ:Fp) (S:ac) (ds:List D) (d:D) (S':ac) (hS:SOk K μ S H) (h1:Reps K μ H vs ds) (h3:f ds S=some (d,S')) (post:Post K μ H S' d Q)
def DE(X:Cx)(e:Expr)(m:ME):Prop:=PE X e (tM X.K m)
def DT(X:Cx)(e:Expr)(m:MT):Prop:=PT X e (Ic X.K m)
def DW(X:Cx)(e:Expr)(m:MT):Prop:=PW X e (Ic X.K m)
def DA(X:Cx)(es:List Expr)(m:MA):Prop:=PA X es (tMA X.K m)
def DS(X:Cx)(st:Stmt)(m:MS):Prop:=PS X st (tMS X.K m)
def vD(X:Cx)(st:List Stmt)(m:MS):Prop:=PSs X st (tMS X.K m)
section
variable{X:Cx}{K:PySem.W.Frag}{μ μ':Fp}{H H':Hp}{S S':ac}
theorem Post.ext{d:D}{Q:VK}(e:Ext μ H μ' H')(p:Post K μ H S' d Q):Post K μ' H' S' d Q:=fun v H2 μ2 e2 s r=>p v H2 μ2 (e.trans e2) s r
theorem Post.here{d:D}{Q:VK}{v:V}(p:Post K μ H S d Q)(s:SOk K μ S H)(r:Rep K μ H v d):Q v H:=p v H μ s.ext s r
theorem PE.imp{e:Expr}{t t':TE}(h:PE X e t)(i:∀ σ H Q,t' σ H Q->t σ H Q):PE X e t':=fun pins s σ H Q I q=>h pins s σ H Q I (i σ H Q q)
theorem PT.imp{e:Expr}{t t':TT}(h:PT X e t)(i:∀ σ H Q,t' σ H Q->t σ H Q):PT X e t':=fun pins s σ H Q I q=>h pins s σ H Q I (i σ H Q q)
theorem PW.imp{e:Expr}{t t':TT}(h:PW X e t)(i:∀ σ H Q,t' σ H Q->t σ H Q):PW X e t':=fun w pins s σ H Q I q=>h w pins s σ H Q I (i σ H Q q)
theorem PA.imp{e:List Expr}{t t':TA}(h:PA X e t)(i:∀ σ H Q,t' σ H Q->t σ H Q):PA X e t':=fun pos pins s σ H Q I q=>h pos pins s σ H Q I (i σ H Q q)
theorem PS.imp{e:Stmt}{t t':TS}(h:PS X e t)(i:∀ E σ H,t' E σ H->t E σ H):PS X e t':=fun pins s σ H E I q=>h pins s σ H E I (i E σ H q)
theorem PSs.imp{e:List Stmt}{t t':TS}(h:PSs X e t)(i:∀ E σ H,t' E σ H->t E σ H):PSs X e t':=fun pins s σ H E I q=>h pins s σ H E I (i E σ H q)
theorem OpR.imp{f:Value->Value->Sem Value}{r r':R2}(h:OpR X f r)(i:∀ x y H Q,r' x y H Q->r x y H Q):OpR X f r':=fun pins s σ H x y v u Q I rx ry q=>h pins s σ H x y v u Q I rx ry (i x y H Q q)
theorem UnR.imp{f:Value->Sem Value}{r r':V->Hp->VK->Prop}(h:UnR X f r)(i:∀ x H Q,r' x H Q->r x H Q):UnR X f r':=fun pins s σ H x v Q I rx q=>h pins s σ H x v Q I rx (i x H Q q)
theorem CallR.imp{f:Value}{r r':List V->Hp->VK->Prop}(h:CallR X f r)(i:∀ x H Q,r' x H Q->r x H Q):CallR X f r':=fun pins s σ H x v Q I rx q=>h pins s σ H x v Q I rx (i x H Q q)
theorem IxR.imp{r r':R2}(h:IxR X r)(i:∀ x y H Q,r' x y H Q->r x y H Q):IxR X r':=fun va sl pins s σ H x y v u Q I rx ry q=>h va sl pins s σ H x y v u Q I rx ry (i x y H Q q)
noncomputable def ab(i:Nat):ME:=fun env S=>(env[i]?).join.bind fun d=>some (d,S)
noncomputable def mC(d:D):ME:=fun _ S=>some (d,S)
theorem GO{α:Type}{o:Option (Option α)}{a:α}(h:o.join=some a):o=some (some a):=by
 cases o with
 | none=>cases h
 | some o=>exact congrArg some h
theorem Th{i:Nat}{x:Str}{pos:Pos}(hN:X.N[i]?=some x)(hv:TY X.env.scope x)(hd:(x == ("__debug__":Str))=false:=by decide)(hcd:(x == ("__classdict__":Str))=false:=by decide):DE X (.Name x pos) (ab i):=
 PE.imp (Jr hN hv hd hcd) fun σ H Q ⟨μ,S,env,d,S',hS,hE,hm,post⟩=>by
  obtain⟨d',h1,h2⟩:=Option.bind_eq_some_iff.mp hm
  cases h2
  obtain⟨v,e,r⟩:=hE.get (GO h1)
  exact⟨v,e,post.here hS r⟩
theorem mL{e:Expr}{v:V}{d:D}(h:PE X e (tC v))(r:∀ μ H,Rep X.K μ H v d):DE X e (mC d):=
 PE.imp h fun σ H Q ⟨μ,S,env,d',S',hS,hE,hm,post⟩=>by cases hm;exact post.here hS (r μ H)
theorem Tr{i:Int}{j pos}:DE X (.Constant (.int i) j pos) (mC (.int i)):=mL Rg fun _ _=>.int i
theorem de_bl{b j pos}:DE X (.Constant (.bool b) j pos) (mC (.bl b)):=mL pe_bl fun _ _=>.bl b
theorem To{j pos}:DE X (.Constant .none j pos) (mC .non):=mL Rf fun _ _=>.non
theorem Tk{x j pos}:DE X (.Constant (.str x) j pos) (mC (.str x)):=mL Rb fun _ _=>.str x
structure GC(K:PySem.W.Frag)(mg:Str->Option Value)(x:Str)(d:D):Prop where
 ex:∃ u v,mg x=some u/\RelV v u/\∀ μ H,Rep K μ H v d
theorem OV{x:Str}{d:D}{pos:Pos}(g:GC X.K X.mg x d)(hg:Gl X x:=by rfl)(hd:(x == ("__debug__":Str))=false:=by decide):DE X (.Name x pos) (mC d):=by
 obtain⟨u,v,h1,h2,h3⟩:=g.ex
 exact mL (xM hg h1 h2 hd) h3
noncomputable def au(f:ac->D->D->Option D)(a b:ME):ME:=fun env S=>(a env S).bind fun p=>(b env p.2).bind fun q=>(f q.2 p.1 q.1).bind fun z=>some (z,q.2)
theorem JT{f:ac->D->D->Option D}{a b:ME}{env:bn}{S S':ac}{d:D}(h:au f a b env S=some (d,S')):∃ x S1 y,a env S=some (x,S1)/\b env S1=some (y,S')/\f S' x y=some d:=by
 obtain⟨⟨x,S1⟩,h1,h⟩:=Option.bind_eq_some_iff.mp h
 obtain⟨⟨y,S2⟩,h2,h⟩:=Option.bind_eq_some_iff.mp h
 obtain⟨z,h3,h⟩:=Option.bind_eq_some_iff.mp h
 cases h
 exact⟨x,S1,y,h1,h2,h3⟩
theorem xh{f:ac->D->D->Option D}{ma mb:ME}{σ:L2.St}{Q:VK}(h:tM K (au f ma mb) σ H Q):tOp (nw K f) (tM K ma) (tM K mb) σ H Q:=by
 obtain⟨μ,S,env,d,S',hS,hE,hm,post⟩:=h
 obtain⟨x,S1,y,h1,h2,h3⟩:=JT hm
 exact⟨μ,S,env,x,S1,hS,hE,h1,fun v H1 μ1 e1 s1 r1=>⟨μ1,S1,env,y,S',s1,hE.mono e1,h2,fun w H2 μ2 e2 s2 r2=>⟨μ2,S',x,y,d,s2,r1.mono e2,r2,h3,(post.ext e1).ext e2⟩⟩⟩
section
variable{a b c:Expr}{ma mb mc:ME}{pos:Pos}
theorem wO{op:Operator}{f:ac->D->D->Option D}(ho:OpR X (binaryOp op) (nw X.K f))(ha:DE X a ma)(hb:DE X b mb):DE X (.BinOp a op b pos) (au f ma mb):=
 PE.imp (pe_op ho ha hb) fun _ _ _ h=>xh h
theorem Tt{op:CmpOp}{f:ac->D->D->Option D}(ho:OpR X (compareOp op) (nw X.K f))(ha:DE X a ma)(hb:DE X b mb)(hm:behindInMarks op b=false):DE X (.Compare a [op] [b] pos) (au f ma mb):=
 PE.imp (Nt ho ha hb hm) fun _ _ _ h=>xh h
noncomputable def aw(m:ME):MT:=fun env S=>(m env S).bind fun p=>match p.1 with | .bl k=>some (k,p.2) | _=>none
theorem tq{m:ME}{env:bn}{S S':ac}{k:Bool}(h:aw m env S=some (k,S')):m env S=some (.bl k,S'):=by
 obtain⟨⟨x,S1⟩,h1,h⟩:=Option.bind_eq_some_iff.mp h
 cases x <;> first | (cases h;exact h1) | cases h
theorem Rep.bl_inv{v:V}{k:Bool}(h:Rep K μ H v (.bl k)):v=.bl k:=by cases h;rfl
theorem Rep.int_inv{v:V}{k:Int}(h:Rep K μ H v (.int k)):v=.int k:=by cases h;rfl
theorem Rep.str_inv{v:V}{k:Str}(h:Rep K μ H v (.str k)):v=.str k:=by cases h;rfl
theorem SW{op:CmpOp}{f:ac->D->D->Option D}(ho:OpR X (compareOp op) (nw X.K f))(ha:DE X a ma)(hb:DE X b mb)(hm:behindInMarks op b=false):DT X (.Compare a [op] [b] pos) (aw (au f ma mb)):=
 PT.imp (Nd ho ha hb hm) fun σ H Q ⟨μ,S,env,k,S',hS,hE,hm,post⟩=>by
  have h:=tq hm
  refine xh ⟨μ,S,env,_,S',hS,hE,h,fun v H' μ' e s r=>?_⟩
  exact⟨k,r.bl_inv,post H' μ' e s⟩
noncomputable def cV(f g:ac->D->D->Option D)(a b c:ME):ME:=fun env S=>(a env S).bind fun p=>(b env p.2).bind fun q=>(f q.2 p.1 q.1).bind fun z=>match z with
 | .bl true=>(c env q.2).bind fun r=>(g r.2 q.1 r.1).bind fun z=>some (z,r.2)
 | .bl false=>some (.bl false,q.2)
 | _=>none
theorem vH{f g:ac->D->D->Option D}{σ:L2.St}{Q:VK}(h:tM K (cV f g ma mb mc) σ H Q):BK (nw K f) (nw K g) (tM K ma) (tM K mb) (tM K mc) σ H Q:=by
 obtain⟨μ,S,env,d,S',hS,hE,hm,post⟩:=h
 obtain⟨⟨x,S1⟩,h1,hm⟩:=Option.bind_eq_some_iff.mp hm
 obtain⟨⟨y,S2⟩,h2,hm⟩:=Option.bind_eq_some_iff.mp hm
 obtain⟨z,h3,hm⟩:=Option.bind_eq_some_iff.mp hm
 refine⟨μ,S,env,x,S1,hS,hE,h1,fun v H1 μ1 e1 s1 r1=>⟨μ1,S1,env,y,S2,s1,hE.mono e1,h2,fun w H2 μ2 e2 s2 r2=>⟨μ2,S2,x,y,z,s2,r1.mono e2,r2,h3,fun u H3 μ3 e3 s3 r3=>?_⟩⟩⟩
 cases z with
 | bl k=>
  refine⟨k,r3.bl_inv,?_⟩
  cases k with
  | false=>cases hm;rw [if_neg Bool.false_ne_true];exact post _ H3 μ3 ((e1.trans e2).trans e3) s3 (.bl false)
  | true=>
   obtain⟨⟨t,S4⟩,h4,hm⟩:=Option.bind_eq_some_iff.mp hm
   obtain⟨z,h5,hm⟩:=Option.bind_eq_some_iff.mp hm
   cases hm
   rw [if_pos rfl]
   exact⟨μ3,S2,env,t,S4,s3,hE.mono ((e1.trans e2).trans e3),h4,fun u' H4 μ4 e4 s4 r4=>⟨μ4,_,y,t,_,s4,(r2.mono e3).mono e4,r4,h5,post.ext (((e1.trans e2).trans e3).trans e4)⟩⟩
 | _=>cases hm
theorem LU{op op':CmpOp}{f g:ac->D->D->Option D}(ho:OpR X (compareOp op) (nw X.K f))(ho':OpR X (compareOp op') (nw X.K g))(ha:DE X a ma)(hb:DE X b mb)(hc:DE X c mc)
  (hm:lastMarks [op,op'] [b,c]=false:=by with_unfolding_all rfl):DE X (.Compare a [op,op'] [b,c] pos) (cV f g ma mb mc):=
 PE.imp (Jy ho ho' ha hb hc hm) fun _ _ _ h=>vH h
theorem Lw{op op':CmpOp}{f g:ac->D->D->Option D}(ho:OpR X (compareOp op) (nw X.K f))(ho':OpR X (compareOp op') (nw X.K g))(ha:DE X a ma)(hb:DE X b mb)(hc:DE X c mc)
  (hm:lastMarks [op,op'] [b,c]=false:=by with_unfolding_all rfl):DT X (.Compare a [op,op'] [b,c] pos) (aw (cV f g ma mb mc)):=
 PT.imp (Jh ho ho' ha hb hc hm) fun σ H Q ⟨μ,S,env,k,S',hS,hE,hm,post⟩=>by
  have h:=tq hm
  refine vH ⟨μ,S,env,_,S',hS,hE,h,fun v H' μ' e s r=>?_⟩
  exact⟨k,r.bl_inv,post H' μ' e s⟩
noncomputable def se(S:ac):D->Option Bool
 | .non=>some false
 | .bl b=>some b
 | .int i=>some (i != 0)
 | .str y=>if y.length<=sizeLine then some ((y.length:Int) != 0) else none
 | .tup xs=>some (!xs.isEmpty)
 | .lst xs=>some (!xs.isEmpty)
 | .rol xs=>some (!xs.isEmpty)
 | .dct ks _=>some (!ks.isEmpty)
 | .ref r=>match S[r]? with
  | some (.lst xs)=>some (!xs.isEmpty)
  | some (.dct ks _)=>some (!ks.isEmpty)
  | none=>none
theorem Reps.isEmpty{vs:List V}{ds:List D}(r:Reps K μ H vs ds):(!ds.isEmpty) = !vs.isEmpty:=by cases r <;> rfl
theorem qB{α β:Type}(f:α->β)(l:List α):(!(l.map f).isEmpty) = !l.isEmpty:=by cases l <;> rfl
theorem rC{x:V}{d:D}{k:Bool}(s:SOk K μ S H)(r:Rep K μ H x d)(h:se S d=some k):Ia K x H k:=by
 cases r with
 | non=>cases h;rfl
 | bl b=>cases h;rfl
 | int i=>cases h;rfl
 | str y=>
  simp only [se] at h
  split at h
  ·rename_i hy;cases h;exact⟨hy,rfl⟩
  ·cases h
 | @tup a vs ds h' n r=>cases h;exact .inr (.inl ⟨vs,.inl (.inl h'),r.isEmpty⟩)
 | @ktup a vs ds h' r=>cases h;exact .inr (.inl ⟨vs,.inr h',r.isEmpty⟩)
 | @lst a vs ds h' n r=>cases h;exact .inl ⟨vs,.inl (.inl h'),r.isEmpty⟩
 | @rol a vs ds h' n r=>cases h;exact .inl ⟨vs,.inl h',r.isEmpty⟩
 | @krol a vs ds h' r=>cases h;exact .inl ⟨vs,.inr h',r.isEmpty⟩
 | @dct a kvs ds h' n r=>cases h;exact .inr (.inr ⟨kvs,h',qB _ _⟩)
 | @ref a i h'=>
  simp only [se] at h
  cases q:S[i]? with
  | none=>rw [q] at h;cases h
  | some c=>
   rw [q] at h
   have ck:=s.cell i a c h' q
   cases c with
   | lst xs=>cases h;obtain⟨vs,e,r⟩:=ck;exact .inl ⟨vs,.inl (.inl e),r.isEmpty⟩
   | dct ks xs=>cases h;obtain⟨kvs,e,rfl,r⟩:=ck;exact .inr (.inr ⟨kvs,e,qB _ _⟩)
noncomputable def cS(m:ME):MT:=fun env S=>(m env S).bind fun p=>(se p.2 p.1).bind fun k=>some (k,p.2)
theorem Bn(ha:DE X a ma)(he:∀ whole,isTrue a X.env whole=(do let v <- whole;standAt a.pos;holding [v] (truthy v)):=by intro _;rfl):DT X a (cS ma):=
 PT.imp (Jg ha he) fun σ H Q ⟨μ,S,env,k,S',hS,hE,hm,post⟩=>by
  obtain⟨⟨x,S1⟩,h1,hm⟩:=Option.bind_eq_some_iff.mp hm
  obtain⟨k',h2,hm⟩:=Option.bind_eq_some_iff.mp hm
  cases hm
  exact⟨μ,S,env,x,S1,hS,hE,h1,fun v H' μ' e s r=>⟨k,rC s r h2,post H' μ' e s⟩⟩
variable{ta tb tc:MT}{rest:List Expr}
noncomputable def cT(a b:MT):MT:=fun env S=>(a env S).bind fun p=>if p.1=true then b env p.2 else some (false,p.2)
noncomputable def fH(a b:MT):MT:=fun env S=>(a env S).bind fun p=>if p.1=true then some (true,p.2) else b env p.2
noncomputable def du(a:MT):MT:=fun env S=>(a env S).bind fun p=>some (!p.1,p.2)
theorem MH{σ:L2.St}{Q:Bool->Hp->Prop}(h:Ic K (cT ta tb) σ H Q):tAnd (Ic K ta) (Ic K tb) σ H Q:=by
 obtain⟨μ,S,env,k,S',hS,hE,hm,post⟩:=h
 obtain⟨⟨x,S1⟩,h1,hm⟩:=Option.bind_eq_some_iff.mp hm
 refine⟨μ,S,env,x,S1,hS,hE,h1,fun H1 μ1 e1 s1=>?_⟩
 cases x with
 | true=>rw [if_pos rfl] at hm ⊢;exact⟨μ1,S1,env,k,S',s1,hE.mono e1,hm,fun H2 μ2 e2 s2=>post H2 μ2 (e1.trans e2) s2⟩
 | false=>rw [if_neg Bool.false_ne_true] at hm ⊢;cases hm;exact post H1 μ1 e1 s1
theorem QG{σ:L2.St}{Q:Bool->Hp->Prop}(h:Ic K (fH ta tb) σ H Q):tOr (Ic K ta) (Ic K tb) σ H Q:=by
 obtain⟨μ,S,env,k,S',hS,hE,hm,post⟩:=h
 obtain⟨⟨x,S1⟩,h1,hm⟩:=Option.bind_eq_some_iff.mp hm
 refine⟨μ,S,env,x,S1,hS,hE,h1,fun H1 μ1 e1 s1=>?_⟩
 cases x with
 | false=>rw [if_neg Bool.false_ne_true] at hm ⊢;exact⟨μ1,S1,env,k,S',s1,hE.mono e1,hm,fun H2 μ2 e2 s2=>post H2 μ2 (e1.trans e2) s2⟩
 | true=>rw [if_pos rfl] at hm ⊢;cases hm;exact post H1 μ1 e1 s1
theorem Fq(ha:DT X a ta):DW X (.BoolOp .And [a] pos) ta:=MZ ha
theorem Lr(ha:DT X a ta):DW X (.BoolOp .Or [a] pos) ta:=QP ha
theorem Ls(ha:DT X a ta)(hb:DW X (.BoolOp .And (b::rest) pos) tb):DW X (.BoolOp .And (a::b::rest) pos) (cT ta tb):=PW.imp (QQ ha hb) fun _ _ _ h=>MH h
theorem Qi(ha:DT X a ta)(hb:DW X (.BoolOp .Or (b::rest) pos) tb):DW X (.BoolOp .Or (a::b::rest) pos) (fH ta tb):=PW.imp (pw_or ha hb) fun _ _ _ h=>QG h
theorem OG(h:DW X a ta):DT X a ta:=PW.pt h
theorem SV(ha:DT X a ta):DT X (.UnaryOp .Not a pos) (du ta):=PT.imp (QR ha) fun σ H Q ⟨μ,S,env,k,S',hS,hE,hm,post⟩=>by
 obtain⟨⟨x,S1⟩,h1,hm⟩:=Option.bind_eq_some_iff.mp hm
 cases hm
 exact⟨μ,S,env,x,S1,hS,hE,h1,fun H1 μ1 e1 s1=>post H1 μ1 e1 s1⟩
noncomputable def dB(a b:ME):ME:=fun env S=>(a env S).bind fun p=>match p.1 with | .bl true=>b env p.2 | .bl false=>some (.bl false,p.2) | _=>none
noncomputable def we(a b:ME):ME:=fun env S=>(a env S).bind fun p=>match p.1 with | .bl false=>b env p.2 | .bl true=>some (.bl true,p.2) | _=>none
theorem LP{op}(h:DE X a ma):DE X (.BoolOp op [a] pos) ma:=Re h
noncomputable def ic(a:ME):ME:=fun env S=>(a env S).bind fun p=>match p.1 with | .bl k=>some (.bl (!k),p.2) | _=>none
noncomputable def lN(t:MT)(a b:ME):ME:=fun env S=>(t env S).bind fun p=>if p.1=true then a env p.2 else b env p.2
theorem de_if(hc:DT X c tc)(ha:DE X a ma)(hb:DE X b mb):DE X (.IfExp c a b pos) (lN tc ma mb):=PE.imp (Jv hc ha hb) fun σ H Q ⟨μ,S,env,d,S',hS,hE,hm,post⟩=>by
 obtain⟨⟨x,S1⟩,h1,hm⟩:=Option.bind_eq_some_iff.mp hm
 refine⟨μ,S,env,x,S1,hS,hE,h1,fun H1 μ1 e1 s1=>?_⟩
 cases x with
 | true=>rw [if_pos rfl] at hm ⊢;exact⟨μ1,S1,env,d,S',s1,hE.mono e1,hm,post.ext e1⟩
 | false=>rw [if_neg Bool.false_ne_true] at hm ⊢;exact⟨μ1,S1,env,d,S',s1,hE.mono e1,hm,post.ext e1⟩
variable{es:List Expr}{ms:MA}
noncomputable def ag:MA:=fun _ S=>some ([],S)
noncomputable def aa(a:ME)(r:MA):MA:=fun env S=>(a env S).bind fun p=>(r env p.2).bind fun q=>some (p.1::q.1,q.2)
theorem Tu:DA X [] ag:=PA.imp JC fun σ H Q ⟨μ,S,env,d,S',hS,hE,hm,post⟩=>by cases hm;exact post [] H μ hS.ext hS .nil
theorem Pc(ha:DE X a ma)(hr:DA X es ms)(hs:starEach (a::es) X.env=(false,eval a X.env)::starEach es X.env:=by rfl):DA X (a::es) (aa ma ms):=PA.imp (xN ha hr hs) fun σ H Q ⟨μ,S,env,ds,S',hS,hE,hm,post⟩=>by
 obtain⟨⟨x,S1⟩,h1,hm⟩:=Option.bind_eq_some_iff.mp hm
 obtain⟨⟨xs,S2⟩,h2,hm⟩:=Option.bind_eq_some_iff.mp hm
 cases hm
 exact⟨μ,S,env,x,S1,hS,hE,h1,fun v H1 μ1 e1 s1 r1=>⟨μ1,S1,env,xs,S2,s1,hE.mono e1,h2,fun vs H2 μ2 e2 s2 r2=>post (v::vs) H2 μ2 (e1.trans e2) s2 (.cons (r1.mono e2) r2)⟩⟩
noncomputable def aS(ms:MA):ME:=fun env S=>(ms env S).bind fun p=>if p.1.length<=sizeLine then some (.tup p.1,p.2) else none
noncomputable def di(ms:MA):ME:=fun env S=>(ms env S).bind fun p=>if p.1.length<=sizeLine then some (.lst p.1,p.2) else none
noncomputable def eV(ms:MA):ME:=fun env S=>(ms env S).bind fun p=>if p.1.length<=sizeLine then some (.ref p.2.length,p.2++[.lst p.1]) else none
theorem Post.tup{vs:List V}{ds:List D}{Q:VK}{p:Addr}(post:Post K μ H S (.tup ds) Q)(s:SOk K μ S H)(hp:H p=none)(r:Reps K μ H vs ds):Q (.ref p) (upd H p (.tup vs)):=by
 obtain⟨e,s'⟩:=s.laid (o:=.tup vs) hp
 exact post _ _ _ e s' (.tup bw (s.notMem hp) (r.mono e))
theorem Post.lst{vs:List V}{ds:List D}{Q:VK}{p:Addr}(post:Post K μ H S (.lst ds) Q)(s:SOk K μ S H)(hp:H p=none)(r:Reps K μ H vs ds):Q (.ref p) (upd H p (.lst vs)):=by
 obtain⟨e,s'⟩:=s.laid (o:=.lst vs) hp
 exact post _ _ _ e s' (.lst bw (s.notMem hp) (r.mono e))
theorem Post.lstR{vs:List V}{ds:List D}{Q:VK}{p:Addr}(post:Post K μ H (S++[.lst ds]) (.ref S.length) Q)(s:SOk K μ S H)(hp:H p=none)(r:Reps K μ H vs ds):Q (.ref p) (upd H p (.lst vs)):=by
 obtain⟨e,s'⟩:=s.alloc hp r
 exact post _ _ _ e s' (.ref (by rw [<- s.len,List.getElem?_append_right (Nat.le_refl _)];simp))
theorem Tj{k}(h:DA X es ms):DE X (.Tuple es k pos) (aS ms):=PE.imp (Ra h) fun σ H Q ⟨μ,S,env,d,S',hS,hE,hm,post⟩=>by
 obtain⟨⟨xs,S1⟩,h1,hm⟩:=Option.bind_eq_some_iff.mp hm
 dsimp only at hm
 split at hm
 ·rename_i hl
  cases hm
  exact⟨μ,S,env,_,_,hS,hE,h1,fun vs H1 μ1 e1 s1 r1=>⟨by rw [r1.length];exact hl,fun p hp=>(post.ext e1).tup s1 hp r1⟩⟩
 ·cases hm
theorem Tp(h:DA X es ms):DE X (.List es pos) (di ms):=PE.imp (Jt h) fun σ H Q ⟨μ,S,env,d,S',hS,hE,hm,post⟩=>by
 obtain⟨⟨xs,S1⟩,h1,hm⟩:=Option.bind_eq_some_iff.mp hm
 dsimp only at hm
 split at hm
 ·rename_i hl
  cases hm
  exact⟨μ,S,env,_,_,hS,hE,h1,fun vs H1 μ1 e1 s1 r1=>⟨by rw [r1.length];exact hl,fun p hp=>(post.ext e1).lst s1 hp r1⟩⟩
 ·cases hm
theorem OU(h:DA X es ms):DE X (.List es pos) (eV ms):=PE.imp (Jt h) fun σ H Q ⟨μ,S,env,d,S',hS,hE,hm,post⟩=>by
 obtain⟨⟨xs,S1⟩,h1,hm⟩:=Option.bind_eq_some_iff.mp hm
 dsimp only at hm
 split at hm
 ·rename_i hl
  cases hm
  exact⟨μ,S,env,_,_,hS,hE,h1,fun vs H1 μ1 e1 s1 r1=>⟨by rw [r1.length];exact hl,fun p hp=>(post.ext e1).lstR s1 hp r1⟩⟩
 ·cases hm
theorem OW:DE X (.Dict [] [] pos) (mC (.dct [] [])):=PE.imp Jw fun σ H Q ⟨μ,S,env,d,S',hS,hE,hm,post⟩=>by
 cases hm
 intro p hp
 obtain⟨e,s'⟩:=hS.laid (o:=.dK []) hp
 exact post _ _ _ e s' (.dct (kvs:=[]) bw (hS.notMem hp) .nil)
end
end
end M
namespace M
open PySem PySem.Spec PyProof.Rows L2
mutual
noncomputable def jD:D->D->Bool
 | .non,.non=>true
 | .bl a,.bl b=>a == b
 | .bl a,.int b=>(if a then 1 else 0) == b
 | .int a,.bl b=>a == (if b then 1 else 0)
 | .int a,.int b=>a == b
 | .str a,.str b=>a == b
 | .tup xs,.tup ys=>eqDs xs ys
 | .lst xs,.lst ys=>eqDs xs ys
 | _,_=>false
noncomputable def eqDs:List D->List D->Bool
 | [],[]=>true
 | x::xs,y::ys=>jD x y&&eqDs xs ys
 | _,_=>false
end
noncomputable def cK:Nat->D->Bool
 | _,.non=>true
 | _,.bl _=>true
 | _,.int _=>true
 | _,.str _=>true
 | n+1,.tup xs=>xs.all (cK n)
 | n+1,.lst xs=>xs.all (cK n)
 | _,_=>false
theorem sL:∀ {n m:Nat} {d:D},n<=m->cK n d=true->cK m d=true
 | n,m,.non,_,_=>by simp [cK]
 | n,m,.bl _,_,_=>by simp [cK]
 | n,m,.int _,_,_=>by simp [cK]
 | n,m,.str _,_,_=>by simp [cK]
 | 0,m,.tup _,_,h=>by simp [cK] at h
 | 0,m,.lst _,_,h=>by simp [cK] at h
 | n+1,m+1,.tup xs,hl,h=>by
  simp only [cK,List.all_eq_true] at h ⊢
  exact fun d hd=>sL (Nat.le_of_succ_le_succ hl) (h d hd)
 | n+1,m+1,.lst xs,hl,h=>by
  simp only [cK,List.all_eq_true] at h ⊢
  exact fun d hd=>sL (Nat.le_of_succ_le_succ hl) (h d hd)
 | n+1,0,.tup _,hl,_=>absurd hl (by omega)
 | n+1,0,.lst _,hl,_=>absurd hl (by omega)
 | n,m,.rol _,_,h=>by cases n <;> simp [cK] at h
 | n,m,.dct _ _,_,h=>by cases n <;> simp [cK] at h
 | n,m,.ref _,_,h=>by cases n <;> simp [cK] at h
theorem yO:∀ (xs ys:List D),eqDs xs ys=((List.range (min xs.length ys.length)).all (fun j=>match xs[j]?,ys[j]? with | some a,some b=>jD a b | _,_=>true)&&xs.length == ys.length)
 | [],[]=>rfl
 | [],y::ys=>by simp [eqDs]
 | x::xs,[]=>by simp [eqDs]
 | x::xs,y::ys=>by
  have ih:=yO xs ys
  rw [eqDs,ih]
  have hm:min (x::xs).length (y::ys).length=min xs.length ys.length+1:=by simp only [List.length_cons];omega
  rw [hm,List.range_succ_eq_map,List.all_cons,List.all_map]
  simp only [List.getElem?_cons_zero,List.length_cons,Bool.and_assoc]
  congr 1
  congr 1
  rw [Bool.eq_iff_iff];simp
section
variable{X:Cx}{pins:List (Addr×Obj)}{σ:L2.St}{H:Hp}{s:Shared}{μ:Fp}{A:Around}
theorem Rep.sqT{K:PySem.W.Frag}{v:V}{ds:List D}(r:Rep K μ H v (.tup ds)):∃ a vs,v=.ref a/\lQ K H a vs/\Reps K μ H vs ds:=by
 cases r with
 | tup h n r=>exact⟨_,_,rfl,.inl (.inl h),r⟩
 | ktup h r=>exact⟨_,_,rfl,.inr h,r⟩
theorem Rep.sqL{K:PySem.W.Frag}{v:V}{ds:List D}(r:Rep K μ H v (.lst ds)):∃ a vs,v=.ref a/\H a=some (.lst vs)/\μ.no a/\Reps K μ H vs ds:=by
 cases r with
 | lst h n r=>exact⟨_,_,rfl,h,n,r⟩
theorem Rep.sqR{K:PySem.W.Frag}{v:V}{ds:List D}(r:Rep K μ H v (.rol ds)):∃ a vs,v=.ref a/\on K H a vs/\Reps K μ H vs ds:=by
 cases r with
 | rol h n r=>exact⟨_,_,rfl,.inl h,r⟩
 | krol h r=>exact⟨_,_,rfl,.inr h,r⟩
theorem ntl(I:Inv X pins σ H s){a:Addr}{xs ys:List V}(h:lQ X.K H a xs)(h':on X.K H a ys):False:=by
 obtain⟨its,_,⟨o,e,c,_⟩,_⟩:=I.tuple h
 obtain⟨its',_,⟨o',n',e',c',_⟩,_⟩:=I.list h'
 rw [e] at e';cases e'
 rw [c] at c'
 exact absurd c' (by simp)
theorem Rep.non_inv{K:PySem.W.Frag}{v:V}(h:Rep K μ H v .non):v=.non:=by cases h;rfl
theorem Ez{n:Nat}{xs:List D}:cK n (.rol xs)=false:=by cases n <;> rfl
theorem EB{n:Nat}{ks:List bB}{xs:List D}:cK n (.dct ks xs)=false:=by cases n <;> rfl
theorem EA{n:Nat}{r:Nat}:cK n (.ref r)=false:=by cases n <;> rfl
theorem rH{n:Nat}{xs:List D}(h:cK n (.tup xs)=true):∃ m,m+1=n/\∀ x∈xs,cK m x=true:=by
 cases n with
 | zero=>cases h
 | succ n=>exact⟨n,rfl,List.all_eq_true.mp h⟩
theorem rJ{n:Nat}{xs:List D}(h:cK n (.lst xs)=true):∃ m,m+1=n/\∀ x∈xs,cK m x=true:=by
 cases n with
 | zero=>cases h
 | succ n=>exact⟨n,rfl,List.all_eq_true.mp h⟩
inductive Fm(K:PySem.W.Frag)(μ:Fp)(H:Hp):D->V->Prop
 | non:Fm K μ H .non .non
 | bl (b:Bool):Fm K μ H (.bl b) (.bl b)
 | int (i:Int):Fm K μ H (.int i) (.int i)
 | str (x:Str):Fm K μ H (.str x) (.str x)
 | tup {xs:List D} {l:Addr} {vs:List V} (q:lQ K H l vs) (r:Reps K μ H vs xs):Fm K μ H (.tup xs) (.ref l)
 | lst {xs:List D} {l:Addr} {vs:List V} (q:on K H l vs) (r:Reps K μ H vs xs):Fm K μ H (.lst xs) (.ref l)
theorem qN{K:PySem.W.Frag}{n:Nat}{x:D}{a:V}(hx:cK n x=true)(r:Rep K μ H a x):Fm K μ H x a:=by
 cases x with
 | non=>rw [r.non_inv];exact .non
 | bl b=>rw [r.bl_inv];exact .bl b
 | int b=>rw [r.int_inv];exact .int b
 | str b=>rw [r.str_inv];exact .str b
 | tup xs=>obtain⟨l,vs,rfl,q,r⟩:=r.sqT;exact .tup q r
 | lst xs=>obtain⟨l,vs,rfl,q,_,r⟩:=r.sqL;exact .lst (.inl (.inl q)) r
 | rol _=>rw [Ez] at hx;cases hx
 | dct _ _=>rw [EB] at hx;cases hx
 | ref _=>rw [EA] at hx;cases hx
theorem Reps.injN{K:PySem.W.Frag}{n:Nat}(ih:∀ {v:V} {x y:D},cK n x=true->cK n y=true->Rep K μ H v x->Rep K μ H v y->x=y):∀ {vs:List V} {xs ys:List D},(∀ x∈xs,cK n x=true)->(∀ y∈ys,cK n y=true)->Reps K μ H vs xs->Reps K μ H vs ys->xs=ys
 | _,_,_,_,_,.nil,.nil=>rfl
 | _,_,_,hx,hy,.cons h t,.cons h' t'=>by
  rw [ih (hx _ List.mem_cons_self) (hy _ List.mem_cons_self) h h',Reps.injN ih (fun x m=>hx x (List.mem_cons_of_mem _ m)) (fun x m=>hy x (List.mem_cons_of_mem _ m)) t t']
theorem AU(I:Inv X pins σ H s)(n:Nat)(ih:∀ m,m+1=n->∀ {v:V} {x y:D},cK m x=true->cK m y=true->Rep X.K μ H v x->Rep X.K μ H v y->x=y){v:V}{x y:D}(hx:cK n x=true)(hy:cK n y=true)(rx:Rep X.K μ H v x)(ry:Rep X.K μ H v y):x=y:=by
 have fy:=qN hy ry
 cases x with
 | tup xs=>
  obtain⟨a,vs,rfl,q,r⟩:=rx.sqT
  obtain⟨m,hm,ox⟩:=rH hx
  cases fy with
  | tup q' r'=>
   cases I.tuple_inj q' q
   obtain⟨m',hm',oy⟩:=rH hy
   have:m'=m:=by omega
   subst this
   rw [Reps.injN (ih m' hm) ox oy r r']
  | lst q' _=>exact(ntl I q q').elim
 | lst xs=>
  obtain⟨a,vs,rfl,q,_,r⟩:=rx.sqL
  obtain⟨m,hm,ox⟩:=rJ hx
  cases y with
  | lst ys=>
   obtain⟨m',hm',oy⟩:=rJ hy
   have:m'=m:=by omega
   subst this
   obtain⟨a',vs',e,q',_,r'⟩:=ry.sqL
   cases e
   rw [q] at q';cases q'
   rw [Reps.injN (ih m' hm) ox oy r r']
  | _=>cases fy <;> exact(ntl I (by assumption) (.inl (.inl q))).elim
 | non=>rw [rx.non_inv] at fy;cases fy;rfl
 | bl b=>rw [rx.bl_inv] at fy;cases fy;rfl
 | int b=>rw [rx.int_inv] at fy;cases fy;rfl
 | str b=>rw [rx.str_inv] at fy;cases fy;rfl
 | rol _=>rw [Ez] at hx;cases hx
 | dct _ _=>rw [EB] at hx;cases hx
 | ref _=>rw [EA] at hx;cases hx
theorem Rep.inj(I:Inv X pins σ H s)(n:Nat):∀ {v:V} {x y:D},cK n x=true->cK n y=true->Rep X.K μ H v x->Rep X.K μ H v y->x=y:=by
 induction n with
 | zero=>exact fun hx hy rx ry=>AU I 0 (fun m h=>absurd h (Nat.succ_ne_zero m)) hx hy rx ry
 | succ n ih=>exact fun hx hy rx ry=>AU I (n+1) (fun m h=>by cases h;exact ih) hx hy rx ry
theorem pA:∀ (n:Nat) (x:D),cK n x=true->jD x x=true
 | n,.non,_=>rfl
 | n,.bl _,_=>by simp [jD]
 | n,.int _,_=>by simp [jD]
 | n,.str _,_=>by simp [jD]
 | 0,.tup _,h=>by simp [cK] at h
 | 0,.lst _,h=>by simp [cK] at h
 | n+1,.tup xs,h=>by
  simp only [cK,List.all_eq_true] at h
  rw [jD]
  induction xs with
  | nil=>rfl
  | cons x xs ih=>rw [eqDs,pA n x (h x List.mem_cons_self),ih fun y m=>h y (List.mem_cons_of_mem _ m)];rfl
 | n+1,.lst xs,h=>by
  simp only [cK,List.all_eq_true] at h
  rw [jD]
  induction xs with
  | nil=>rfl
  | cons x xs ih=>rw [eqDs,pA n x (h x List.mem_cons_self),ih fun y m=>h y (List.mem_cons_of_mem _ m)];rfl
 | n,.rol _,h=>by cases n <;> simp [cK] at h
 | n,.dct _ _,h=>by cases n <;> simp [cK] at h
 | n,.ref _,h=>by cases n <;> simp [cK] at h
open PySem.SeqAt
theorem wA(A:Around):A.in1.units=A.units+1:=rfl
theorem wv{its its2:List Value}{vs ws:List V}{xs ys:List D}{P:Value->Value->Bool->Prop}(r1:Vals vs its)(q1:Reps X.K μ H vs xs)(r2:Vals ws its2)(q2:Reps X.K μ H ws ys)
  (h:∀ (j:Nat) (v w:V) (u u':Value) (x y:D),xs[j]?=some x->ys[j]?=some y->Rep X.K μ H v x->Rep X.K μ H w y->RelV v u->RelV w u'->P u u' (jD x y)) :
  ∀ j (h1:j<its.toArray.size) (h2:j<its2.toArray.size),P its.toArray[j] its2.toArray[j] (match xs[j]?,ys[j]? with | some a,some b=>jD a b | _,_=>true):=fun j h1 h2=>by
 have l1:=r1.length
 have l2:=r2.length
 have m1:=q1.length
 have m2:=q2.length
 have h1':j<its.length:=by simpa using h1
 have h2':j<its2.length:=by simpa using h2
 have hx:xs[j]?=some xs[j]:=List.getElem?_eq_getElem (by omega)
 have hy:ys[j]?=some ys[j]:=List.getElem?_eq_getElem (by omega)
 obtain⟨v,e1,p1⟩:=q1.get hx
 obtain⟨w,e2,p2⟩:=q2.get hy
 obtain⟨u,f1,g1⟩:=r1.get e1
 obtain⟨u',f2,g2⟩:=r2.get e2
 rw [hx,hy]
 have:=h j v w u u' _ _ hx hy p1 p2 g1 g2
 have f1':its.toArray[j]=u:=by simpa [List.getElem?_eq_getElem h1'] using f1
 have f2':its2.toArray[j]=u':=by simpa [List.getElem?_eq_getElem h2'] using f2
 rw [f1',f2']
 exact this
structure Uh(A:Around)(s:Shared)(u v:Value)(b:Bool):Prop where
 eq:EqAt A s u v b
 rc:RcAt A s u v b
 ne:RcNeAt A s u v (!b)
theorem Fo(I:Inv X pins σ H s)(n:Nat)(ih:∀ m,m+1=n->∀ (A:Around) {a b:V} {u v:Value} {x y:D},A.units+m<cLine->cK m x=true->cK m y=true->Rep X.K μ H a x->Rep X.K μ H b y->RelV a u->RelV b v->Uh A s u v (jD x y))
  (A:Around) {a b:V} {u v:Value} {x y:D} (hn:A.units+n<cLine) (hx:cK n x=true) (hy:cK n y=true) (rx:Rep X.K μ H a x) (ry:Rep X.K μ H b y) (ra:RelV a u) (rb:RelV b v):Uh A s u v (jD x y):=by
 have hu:A.units<cLine:=by omega
 cases qN hx rx with
 | non=>
  cases ra
  cases qN hy ry with
  | non=>cases rb;exact⟨EqAt.same _,RcAt.none_none,RcNeAt.none_none⟩
  | bl b=>cases rb;exact⟨EqAt.none_bool b,RcAt.none_bool b,RcNeAt.none_bool b⟩
  | int b=>obtain⟨t,rfl⟩:=rb;exact⟨EqAt.none_int b t,RcAt.none_int b t,RcNeAt.none_int b t⟩
  | str b=>obtain⟨t,rfl⟩:=rb;exact⟨EqAt.none_str b t,RcAt.none_str b t,RcNeAt.none_str b t⟩
  | tup q r=>cases rb;obtain⟨its,rv,p,_⟩:=I.tuple q;exact⟨EqAt.none_tuple p hu,RcAt.none_tuple p hu,RcNeAt.none_tuple p hu⟩
  | lst q r=>cases rb;obtain⟨its,rv,p,_⟩:=I.list q;exact⟨EqAt.none_list p.isList hu,RcAt.none_list p.isList hu,RcNeAt.none_list p.isList hu⟩
 | bl a=>
  cases ra
  cases qN hy ry with
  | non=>cases rb;exact⟨EqAt.bool_none a,RcAt.bool_none a,RcNeAt.bool_none a⟩
  | bl b=>cases rb;exact⟨EqAt.bool_bool a b,RcAt.bool_bool a b,RcNeAt.bool_bool a b⟩
  | int b=>obtain⟨t,rfl⟩:=rb;exact⟨EqAt.bool_int a b t,RcAt.bool_int a b t,RcNeAt.bool_int a b t⟩
  | str b=>obtain⟨t,rfl⟩:=rb;exact⟨EqAt.bool_str a b t,RcAt.bool_str a b t,RcNeAt.bool_str a b t⟩
  | tup q r=>cases rb;obtain⟨its,rv,p,_⟩:=I.tuple q;exact⟨EqAt.bool_tuple a p hu,RcAt.bool_tuple a p hu,RcNeAt.bool_tuple a p hu⟩
  | lst q r=>cases rb;obtain⟨its,rv,p,_⟩:=I.list q;exact⟨EqAt.bool_list a p.isList hu,RcAt.bool_list a p.isList hu,RcNeAt.bool_list a p.isList hu⟩
 | int a=>
  obtain⟨t',rfl⟩:=ra
  cases qN hy ry with
  | non=>cases rb;exact⟨EqAt.int_none a t',RcAt.int_none a t',RcNeAt.int_none a t'⟩
  | bl b=>cases rb;exact⟨EqAt.int_bool a t' b,RcAt.int_bool a t' b,RcNeAt.int_bool a t' b⟩
  | int b=>obtain⟨t,rfl⟩:=rb;exact⟨EqAt.int_int a t' b t,RcAt.int_int a t' b t,RcNeAt.int_int a t' b t⟩
  | str b=>obtain⟨t,rfl⟩:=rb;exact⟨EqAt.int_str a t' b t,RcAt.int_str a t' b t,RcNeAt.int_str a t' b t⟩
  | tup q r=>cases rb;obtain⟨its,rv,p,_⟩:=I.tuple q;exact⟨EqAt.int_tuple a t' p hu,RcAt.int_tuple a t' p hu,RcNeAt.int_tuple a t' p hu⟩
  | lst q r=>cases rb;obtain⟨its,rv,p,_⟩:=I.list q;exact⟨EqAt.int_list a t' p.isList hu,RcAt.int_list a t' p.isList hu,RcNeAt.int_list a t' p.isList hu⟩
 | str a=>
  obtain⟨t',rfl⟩:=ra
  cases qN hy ry with
  | non=>cases rb;exact⟨EqAt.str_none a t',RcAt.str_none a t',RcNeAt.str_none a t'⟩
  | bl b=>cases rb;exact⟨EqAt.str_bool a t' b,RcAt.str_bool a t' b,RcNeAt.str_bool a t' b⟩
  | int b=>obtain⟨t,rfl⟩:=rb;exact⟨EqAt.str_int a t' b t,RcAt.str_int a t' b t,RcNeAt.str_int a t' b t⟩
  | str b=>obtain⟨t,rfl⟩:=rb;exact⟨EqAt.str_str a t' b t,RcAt.str_str a t' b t,RcNeAt.str_str a t' b t⟩
  | tup q r=>cases rb;obtain⟨its,rv,p,_⟩:=I.tuple q;exact⟨EqAt.str_tuple a t' p hu,RcAt.str_tuple a t' p hu,RcNeAt.str_tuple a t' p hu⟩
  | lst q r=>cases rb;obtain⟨its,rv,p,_⟩:=I.list q;exact⟨EqAt.str_list a t' p.isList hu,RcAt.str_list a t' p.isList hu,RcNeAt.str_list a t' p.isList hu⟩
 | @tup xs l vs q r=>
  cases ra
  obtain⟨its,rv,p,_⟩:=I.tuple q
  cases qN hy ry with
  | non=>cases rb;exact⟨EqAt.tuple_none p hu,RcAt.tuple_none p hu,RcNeAt.tuple_none p hu⟩
  | bl b=>cases rb;exact⟨EqAt.tuple_bool b p hu,RcAt.tuple_bool b p hu,RcNeAt.tuple_bool b p hu⟩
  | int b=>obtain⟨t,rfl⟩:=rb;exact⟨EqAt.tuple_int b t p hu,RcAt.tuple_int b t p hu,RcNeAt.tuple_int b t p hu⟩
  | str b=>obtain⟨t,rfl⟩:=rb;exact⟨EqAt.tuple_str b t p hu,RcAt.tuple_str b t p hu,RcNeAt.tuple_str b t p hu⟩
  | @tup ys l' vs' q' r'=>
   cases rb
   obtain⟨its',rv',p',_⟩:=I.tuple q'
   obtain⟨m,hm,ox⟩:=rH hx
   obtain⟨m',hm',oy⟩:=rH hy
   have:m'=m:=by omega
   subst this
   have all:=wv (P:=fun u u' b=>EqAt A.in1 s u u' b) rv r rv' r' fun j v w u u' x y hx' hy' q1 q2 g1 g2=>
    (ih m' hm A.in1 (by rw [wA];omega) (ox x (List.mem_of_getElem? hx')) (oy y (List.mem_of_getElem? hy')) q1 q2 g1 g2).eq
   have e0:its.toArray.size=xs.length:=by rw [List.size_toArray,<- rv.length,r.length]
   have e1:its'.toArray.size=ys.length:=by rw [List.size_toArray,<- rv'.length,r'.length]
   have key:=RcAt.tuples (A:=A) (s:=s) p p' hu all
   have kne:=RcNeAt.tuples (A:=A) (s:=s) p p' hu all
   rw [e0,e1,<- yO] at key kne
   refine⟨?_,key,kne⟩
   by_cases hl:l=l'
   ·subst hl
    rw [<- Rep.inj I n hx hy rx ry,pA _ _ hx]
    exact EqAt.same _
   ·exact EqAt.of_refs hl key
  | lst q' r'=>cases rb;obtain⟨its',rv',p',_⟩:=I.list q';exact⟨EqAt.tuple_list p p'.isList hu,RcAt.tuple_list p p'.isList hu,RcNeAt.tuple_list p p'.isList hu⟩
 | @lst xs l vs q r=>
  cases ra
  obtain⟨its,rv,p0,_⟩:=I.list q
  have p:=p0.isList
  cases qN hy ry with
  | non=>cases rb;exact⟨EqAt.list_none p hu,RcAt.list_none p hu,RcNeAt.list_none p hu⟩
  | bl b=>cases rb;exact⟨EqAt.list_bool b p hu,RcAt.list_bool b p hu,RcNeAt.list_bool b p hu⟩
  | int b=>obtain⟨t,rfl⟩:=rb;exact⟨EqAt.list_int b t p hu,RcAt.list_int b t p hu,RcNeAt.list_int b t p hu⟩
  | str b=>obtain⟨t,rfl⟩:=rb;exact⟨EqAt.list_str b t p hu,RcAt.list_str b t p hu,RcNeAt.list_str b t p hu⟩
  | tup q' r'=>cases rb;obtain⟨its',rv',p',_⟩:=I.tuple q';exact⟨EqAt.list_tuple p p' hu,RcAt.list_tuple p p' hu,RcNeAt.list_tuple p p' hu⟩
  | @lst ys l' vs' q' r'=>
   cases rb
   obtain⟨its',rv',p0',_⟩:=I.list q'
   have p':=p0'.isList
   obtain⟨m,hm,ox⟩:=rJ hx
   obtain⟨m',hm',oy⟩:=rJ hy
   have:m'=m:=by omega
   subst this
   have all:=wv (P:=fun u u' b=>EqAt A.in1 s u u' b) rv r rv' r' fun j v w u u' x y hx' hy' q1 q2 g1 g2=>
    (ih m' hm A.in1 (by rw [wA];omega) (ox x (List.mem_of_getElem? hx')) (oy y (List.mem_of_getElem? hy')) q1 q2 g1 g2).eq
   have e0:its.toArray.size=xs.length:=by rw [List.size_toArray,<- rv.length,r.length]
   have e1:its'.toArray.size=ys.length:=by rw [List.size_toArray,<- rv'.length,r'.length]
   have key:RcAt A s (.ref l) (.ref l') (eqDs xs ys)/\RcNeAt A s (.ref l) (.ref l') (!eqDs xs ys):=by
    rw [yO]
    by_cases hlen:xs.length=ys.length
    ·have k1:=RcAt.lists (A:=A) (s:=s) p p' (by rw [e0,e1,hlen]) hu all
     have k2:=RcNeAt.lists (A:=A) (s:=s) p p' (by rw [e0,e1,hlen]) hu all
     rw [e0] at k1 k2
     rw [<- hlen,Nat.min_self,beq_self_eq_true,Bool.and_true]
     exact⟨k1,k2⟩
    ·rw [show (xs.length == ys.length)=false from beq_eq_false_iff_ne.mpr hlen,Bool.and_false]
     exact⟨RcAt.lists_lengths (A:=A) (s:=s) p p' (by rw [e0,e1];exact bne_iff_ne.mpr hlen) hu,RcNeAt.lists_lengths (A:=A) (s:=s) p p' (by rw [e0,e1];exact bne_iff_ne.mpr hlen) hu⟩
   refine⟨?_,key.1,key.2⟩
   by_cases hl:l=l'
   ·subst hl
    rw [<- Rep.inj I n hx hy rx ry,pA _ _ hx]
    exact EqAt.same _
   ·exact EqAt.of_refs hl key.1
theorem Tx(I:Inv X pins σ H s)(n:Nat):∀ (A:Around) {a b:V} {u v:Value} {x y:D},A.units+n<cLine->cK n x=true->cK n y=true->Rep X.K μ H a x->Rep X.K μ H b y->RelV a u->RelV b v->Uh A s u v (jD x y):=by
 induction n with
 | zero=>exact fun A _ _ _ _ _ _ hn hx hy rx ry ra rb=>Fo I 0 (fun m h=>absurd h (Nat.succ_ne_zero m)) A hn hx hy rx ry ra rb
 | succ n ih=>exact fun A _ _ _ _ _ _ hn hx hy rx ry ra rb=>Fo I (n+1) (fun m h=>by cases h;exact ih) A hn hx hy rx ry ra rb
theorem eqRc(I:Inv X pins σ H s)(n:Nat)(A:Around){a b:V}{u v:Value}{x y:D}(hn:A.units+n<cLine)(hx:cK n x=true)(hy:cK n y=true)(rx:Rep X.K μ H a x)(ry:Rep X.K μ H b y)(ra:RelV a u)(rb:RelV b v) :
  EqAt A s u v (jD x y)/\RcAt A s u v (jD x y):=⟨(Tx I n A hn hx hy rx ry ra rb).eq,(Tx I n A hn hx hy rx ry ra rb).rc⟩
theorem neRc(I:Inv X pins σ H s)(n:Nat)(A:Around){a b:V}{u v:Value}{x y:D}(hn:A.units+n<cLine)(hx:cK n x=true)(hy:cK n y=true)(rx:Rep X.K μ H a x)(ry:Rep X.K μ H b y)(ra:RelV a u)(rb:RelV b v) :
  RcNeAt A s u v (!jD x y):=(Tx I n A hn hx hy rx ry ra rb).ne
end
end M
namespace M
open PySem PySem.Spec PyProof.Rows L2
section
variable{X:Cx}{pins:List (Addr×Obj)}{σ:L2.St}{H:Hp}{s:Shared}{μ:Fp}{A:Around}
open PySem.SeqAt
end
noncomputable def gO(S:ac):D->Option (List D)
 | .tup xs=>some xs
 | .lst xs=>some xs
 | .rol xs=>some xs
 | .ref r=>match S[r]? with | some (.lst xs)=>some xs | _=>none
 | _=>none
section
variable{X:Cx}{K:PySem.W.Frag}{μ:Fp}{H:Hp}{S:ac}
theorem jI{x:V}{d:D}{ds:List D}(s:SOk K μ S H)(r:Rep K μ H x d)(h:gO S d=some ds):∃ a vs,x=.ref a/\(on K H a vs\/lQ K H a vs)/\Reps K μ H vs ds:=by
 cases r with
 | tup h' n r=>cases h;exact⟨_,_,rfl,.inr (.inl (.inl h')),r⟩
 | ktup h' r=>cases h;exact⟨_,_,rfl,.inr (.inr h'),r⟩
 | lst h' n r=>cases h;exact⟨_,_,rfl,.inl (.inl (.inl h')),r⟩
 | rol h' n r=>cases h;exact⟨_,_,rfl,.inl (.inl h'),r⟩
 | krol h' r=>cases h;exact⟨_,_,rfl,.inl (.inr h'),r⟩
 | @ref a i h'=>
  simp only [gO] at h
  cases q:S[i]? with
  | none=>rw [q] at h;cases h
  | some c=>
   rw [q] at h
   have ck:=s.cell i a c h' q
   cases c with
   | lst xs=>cases h;obtain⟨vs,e,r⟩:=ck;exact⟨_,vs,rfl,.inl (.inl (.inl e)),r⟩
   | dct ks xs=>cases h
 | _=>cases h
noncomputable def bU(S:ac)(x y:D):Option D:=if cK 40 x=true/\cK 40 y=true then some (.bl (jD x y)) else none
noncomputable def ij(S:ac)(x y:D):Option D:=if cK 40 x=true/\cK 40 y=true then some (.bl (!jD x y)) else none
theorem op_Eq(hu:X.A.units+64<cLine):OpR X (compareOp .Eq) (nw X.K bU):=by
 intro pins s σ H x y v u Q I rx ry h
 obtain⟨μ,S,dx,dy,dz,hS,h1,h2,h3,post⟩:=h
 simp only [bU] at h3
 split at h3
 ·rename_i hk
  cases h3
  exact(eqRc I 40 X.A (by omega) hk.1 hk.2 h1 h2 rx ry).2 X.prog X.w X.xe _ ⟨.bl _,H,I,rfl,post.here hS (.bl _)⟩
 ·cases h3
theorem op_Ne(hu:X.A.units+64<cLine):OpR X (compareOp .NotEq) (nw X.K ij):=by
 intro pins s σ H x y v u Q I rx ry h
 obtain⟨μ,S,dx,dy,dz,hS,h1,h2,h3,post⟩:=h
 simp only [ij] at h3
 split at h3
 ·rename_i hk
  cases h3
  exact neRc I 40 X.A (by omega) hk.1 hk.2 h1 h2 rx ry X.prog X.w X.xe _ ⟨.bl _,H,I,rfl,post.here hS (.bl _)⟩
 ·cases h3
open Classical in
def eC(K:PySem.W.Frag)(μ:Fp)(H:Hp)(x:D)(u:Value):Bool:=decide (∃ v d,RelV v u/\Rep K μ H v d/\cK 39 d=true/\jD d x=true)
open Classical in
theorem pz{pins:List (Addr×Obj)}{σ:L2.St}{s:Shared}(I:Inv X pins σ H s){x d:D}{v:V}{u:Value}(rv:RelV v u)(r:Rep X.K μ H v d)(ok:cK 39 d=true):eC X.K μ H x u=jD d x:=by
 unfold eC
 cases e:jD d x with
 | true=>exact decide_eq_true ⟨v,d,rv,r,ok,e⟩
 | false=>
  refine decide_eq_false ?_
  rintro⟨v',d',rv',r',ok',e'⟩
  cases rv.inj rv'
  rw [Rep.inj I 39 ok ok' r r'] at e
  rw [e] at e';cases e'
theorem kS{pins:List (Addr×Obj)}{σ:L2.St}{s:Shared}(I:Inv X pins σ H s){x:D}:∀ {vs:List V} {us:List Value} {ds:List D},Vals vs us->Reps X.K μ H vs ds->(∀ d∈ds,cK 39 d=true) ->
  us.any (eC X.K μ H x)=ds.any fun d=>jD d x
 | _,_,_,.nil,.nil,_=>rfl
 | _,_,_,.cons rv tv,.cons r t,ok=>by
  rw [List.any_cons,List.any_cons,pz I rv r (ok _ List.mem_cons_self),kS I tv t fun d m=>ok d (List.mem_cons_of_mem _ m)]
theorem ga{pins:List (Addr×Obj)}{σ:L2.St}{s:Shared}(I:Inv X pins σ H s){A:Around}(hu:A.units+40<cLine){x:D}{v:V}{u:Value}(rx:RelV v u)(rD:Rep X.K μ H v x)(okx:cK 40 x=true) :
  ∀ {vs:List V} {us:List Value} {ds:List D},Vals vs us->Reps X.K μ H vs ds->(∀ d∈ds,cK 39 d=true)->∀ w∈us,PySem.SeqAt.EqAt A s w u (eC X.K μ H x w)
 | _,_,_,.nil,.nil,_=>fun w hw=>by cases hw
 | _,_,_,.cons rv tv,.cons r t,ok=>fun w hw=>by
  rcases List.mem_cons.mp hw with rfl | hw
  ·rw [pz I rv r (ok _ List.mem_cons_self)]
   exact(eqRc I 40 A hu (sL (by decide) (ok _ List.mem_cons_self)) okx r rD rv rx).1
  ·exact ga I hu rx rD okx tv t (fun d m=>ok d (List.mem_cons_of_mem _ m)) w hw
noncomputable def oo(S:ac)(x y:D):Option D:=(gO S y).bind fun ds=>if cK 40 x=true/\ds.all (cK 39)=true then some (.bl (ds.any fun d=>jD d x)) else none
noncomputable def qg(S:ac)(x y:D):Option D:=(gO S y).bind fun ds=>if cK 40 x=true/\ds.all (cK 39)=true then some (.bl (!ds.any fun d=>jD d x)) else none
theorem op_In(hu:X.A.units+64<cLine):OpR X (compareOp .In) (nw X.K oo):=by
 intro pins s σ H x y v u Q I rx ry h
 obtain⟨μ,S,dx,dy,dz,hS,h1,h2,h3,post⟩:=h
 obtain⟨ds,e,h3⟩:=Option.bind_eq_some_iff.mp h3
 split at h3
 ·rename_i hk
  cases h3
  obtain⟨a,vs,rfl,hq,r⟩:=jI hS h2 e
  cases ry
  have ok:=List.all_eq_true.mp hk.2
  rcases hq with hq | hq
  ·obtain⟨its,rv,pl,hz⟩:=I.list hq
   refine SeqAt.in_listAt (eC X.K μ H dx) pl.isList (fun w hw=>ga I (by show X.A.units+1+40<cLine;omega) rx h1 hk.1 rv r ok w (by simpa using hw)) ⟨.bl _,H,I,rfl,?_⟩
   rw [show its.toArray.any (eC X.K μ H dx)=its.any (eC X.K μ H dx) by simp,kS I rv r ok]
   exact post.here hS (.bl _)
  ·obtain⟨its,rv,pl,hz⟩:=I.tuple hq
   refine SeqAt.in_tupleAt (eC X.K μ H dx) pl (fun w hw=>ga I (by show X.A.units+1+40<cLine;omega) rx h1 hk.1 rv r ok w (by simpa using hw)) ⟨.bl _,H,I,rfl,?_⟩
   rw [show its.toArray.any (eC X.K μ H dx)=its.any (eC X.K μ H dx) by simp,kS I rv r ok]
   exact post.here hS (.bl _)
 ·cases h3
theorem JE(hu:X.A.units+64<cLine):OpR X (compareOp .NotIn) (nw X.K qg):=by
 intro pins s σ H x y v u Q I rx ry h
 obtain⟨μ,S,dx,dy,dz,hS,h1,h2,h3,post⟩:=h
 obtain⟨ds,e,h3⟩:=Option.bind_eq_some_iff.mp h3
 split at h3
 ·rename_i hk
  cases h3
  obtain⟨a,vs,rfl,hq,r⟩:=jI hS h2 e
  cases ry
  have ok:=List.all_eq_true.mp hk.2
  rcases hq with hq | hq
  ·obtain⟨its,rv,pl,hz⟩:=I.list hq
   refine SeqAt.notIn_listAt (eC X.K μ H dx) pl.isList (fun w hw=>ga I (by show X.A.units+1+40<cLine;omega) rx h1 hk.1 rv r ok w (by simpa using hw)) ⟨.bl _,H,I,rfl,?_⟩
   rw [show its.toArray.any (eC X.K μ H dx)=its.any (eC X.K μ H dx) by simp,kS I rv r ok]
   exact post.here hS (.bl _)
  ·obtain⟨its,rv,pl,hz⟩:=I.tuple hq
   refine SeqAt.notIn_tupleAt (eC X.K μ H dx) pl (fun w hw=>ga I (by show X.A.units+1+40<cLine;omega) rx h1 hk.1 rv r ok w (by simpa using hw)) ⟨.bl _,H,I,rfl,?_⟩
   rw [show its.toArray.any (eC X.K μ H dx)=its.any (eC X.K μ H dx) by simp,kS I rv r ok]
   exact post.here hS (.bl _)
 ·cases h3
noncomputable def lB:D->D->Bool
 | .non,.non=>true
 | .bl a,.bl b=>a == b
 | _,_=>false
noncomputable def ut(S:ac)(x y:D):Option D:=match y with | .non=>some (.bl (lB x y)) | .bl _=>some (.bl (lB x y)) | _=>none
noncomputable def kf(S:ac)(x y:D):Option D:=match y with | .non=>some (.bl (!lB x y)) | .bl _=>some (.bl (!lB x y)) | _=>none
theorem Kw{x y:V}{dx dy:D}{v u:Value}(h1:Rep K μ H x dx)(h2:Rep K μ H y dy)(rx:RelV x v)(ry:RelV y u)(hy:dy=.non\/∃ b,dy=.bl b):plainIs v u=true/\(v == u)=lB dx dy:=by
 rcases hy with rfl | ⟨b,rfl⟩
 ·cases h2;cases ry
  cases h1 <;> first | (cases rx;exact⟨rfl,rfl⟩) | (obtain⟨t,rfl⟩:=rx;exact⟨rfl,rfl⟩)
 ·cases h2;cases ry
  cases h1 <;> first | (cases rx;exact⟨rfl,rfl⟩) | (obtain⟨t,rfl⟩:=rx;exact⟨rfl,rfl⟩) | (cases rx;rename_i c;refine⟨rfl,?_⟩;cases b <;> cases c <;> rfl)
theorem op_Is:OpR X (compareOp .Is) (nw X.K ut):=by
 intro pins s σ H x y v u Q I rx ry h
 obtain⟨μ,S,dx,dy,dz,hS,h1,h2,h3,post⟩:=h
 have hy:(dy=.non\/∃ b,dy=.bl b)/\dz=.bl (lB dx dy):=by
  cases dy <;> first | (cases h3;exact⟨.inl rfl,rfl⟩) | (cases h3;exact⟨.inr ⟨_,rfl⟩,rfl⟩) | cases h3
 obtain⟨p,e⟩:=Kw h1 h2 rx ry hy.1
 cases hy.2
 exact wpAny_is_plain p ⟨.bl _,H,I,congrArg Value.bool e,post.here hS (.bl _)⟩
theorem JF:OpR X (compareOp .IsNot) (nw X.K kf):=by
 intro pins s σ H x y v u Q I rx ry h
 obtain⟨μ,S,dx,dy,dz,hS,h1,h2,h3,post⟩:=h
 have hy:(dy=.non\/∃ b,dy=.bl b)/\dz=.bl (!lB dx dy):=by
  cases dy <;> first | (cases h3;exact⟨.inl rfl,rfl⟩) | (cases h3;exact⟨.inr ⟨_,rfl⟩,rfl⟩) | cases h3
 obtain⟨p,e⟩:=Kw h1 h2 rx ry hy.1
 cases hy.2
 exact wpAny_isNot_plain p ⟨.bl _,H,I,congrArg (fun b=>Value.bool (!b)) e,post.here hS (.bl _)⟩
end
end M
namespace HT
open PySem PySem.Spec PyProof.Rows
section
variable{prog:Program}{w:World}{A:Around}{E:Value->Shared->Prop}{s:Shared}
theorem Pe{t b:Addr}{ws:List Value}{Q:Value->Shared->Prop}(ht:IsTup s.heap t #[])(hb:IsTup s.heap b ws.toArray)(h:Q (.ref b) s):wpAny (model prog w) A (binaryOp .Add (.ref t) (.ref b)) Q E s:=by
 obtain⟨⟨cls,dd,data,sl⟩,ho,hc,n,hd⟩:=id ht
 obtain⟨⟨cls2,dd2,data2,sl2⟩,ho2,hc2,n2,hd2⟩:=id hb
 simp only at hc hd hc2 hd2
 subst hc hd hc2 hd2
 exact concat_meets ⟨_,ho,rfl⟩ ⟨_,ho2,rfl⟩ noFill_tuple_add seq_tuple_add PySem.F.slot_tuple_add PySem.F.entry_tuple_add (PySem.F.args_tuple_add_2 _ _)
   (tuple_addW0 t b #[] ws.toArray n n2 dd dd2 sl sl2 rfl) ⟨ho,ho2,h⟩
theorem nA{t sl:Addr}{items:Array Value}{vl vu:Value}{lo hi:Option Int}{Q:Value->Shared->Prop}(ht:IsTup s.heap t items)(hs:s.heap.IsSliceOf sl vl vu .none)(pl:IsPart vl lo)(pu:IsPart vu hi)
  (hw:eO items.size 0 lo=0/\eO items.size items.size hi=items.size) (h:Q (.ref t) s):wpAny (model prog w) A (getItem (.ref t) (.ref sl)) Q E s:=by
 obtain⟨os,hos,hcs,hds⟩:=id hs
 have hTs:s.TypeIs (.ref sl) "slice":=⟨os,hos,hcs⟩
 unfold getItem
 try with_reducible refine wpAny_holding ?_
 first | refine wpAny_bind (wpAny_pure ?_) | skip
 refine wpAny_bind (wpAny_sequenceKey ht.typeIs (by decide) ?_)
 refine wpAny_bind (wpAny_callSpecial?_slot (name:=Str.ofString "__getitem__") ht.typeIs PyProof.Rows.slot_tuple_getitem
  (wpAny_call_entry PyProof.Rows.slot_tuple_getitem ht.typeIs entry_tuple_getitem ?_ (args_tuple_getitem _ _)))
 show wpAny _ _ (Builtin.Tuple.tupleItemsOf (.ref t) >>= _) _ _ s
 refine wpAny_bind (tupleItemsOf_ ht ?_)
 refine wpAny_bind (wpAny_typeOf hTs ?_)
 rw [if_pos (by decide)]
 refine wpAny_bind (ko hs pl pu ?_)
 have hyes:(((eO items.size 0 lo:Nat):Int) == 0&&(1:Int) == 1&&(eO items.size items.size hi - eO items.size 0 lo) == items.size)=true:=by
  rw [hw.1,hw.2];simp
 show wpAny _ _ (if (((eO items.size 0 lo:Nat):Int) == 0&&(1:Int) == 1&&(eO items.size items.size hi - eO items.size 0 lo) == items.size)=true then _ else _) _ _ s
 rw [if_pos hyes]
 unfold Builtin.Tuple.tupleIsExact
 refine wpAny_bind (wpAny_bind (wpAny_typeOf ht.typeIs (wpAny_pure ?_)))
 rw [if_pos (by decide)]
 exact wpAny_bind (wpAny_rule (wpAny_bind (wpAny_pure (wpAny_pure ⟨_,rfl,wpAny_pure h⟩))))
end
end HT
namespace M
open PySem PySem.Spec PyProof.Rows L2
section
variable{X:Cx}{K:PySem.W.Frag}{μ μ':Fp}{H H':Hp}{S:ac}
noncomputable def Hd(g:Int->Int->D)(S:ac)(x y:D):Option D:=match x,y with | .int i,.int j=>some (g i j) | _,_=>none
noncomputable def Bm(C:Int->Int->Bool)(g:Int->Int->D)(S:ac)(x y:D):Option D:=match x,y with | .int i,.int j=>if C i j=true then some (g i j) else none | _,_=>none
theorem oG{f:Value->Value->Sem Value}{g:Int->Int->V}{g':Int->Int->D}(h:OpR X f (MW g))(hg:∀ i j μ H,Rep X.K μ H (g i j) (g' i j)):OpR X f (nw X.K (Hd g')):=
 OpR.imp h fun x y H Q ⟨μ,S,dx,dy,dz,hS,h1,h2,h3,post⟩=>by
  cases dx <;> cases dy <;> first | cases h3 | skip
  exact⟨_,_,h1.int_inv,h2.int_inv,post.here hS (hg _ _ _ _)⟩
theorem xO{f:Value->Value->Sem Value}{C:Int->Int->Prop}{C':Int->Int->Bool}{g:Int->Int->V}{g':Int->Int->D}(h:OpR X f (rI C g))(hC:∀ i j,C' i j=true->C i j)(hg:∀ i j μ H,Rep X.K μ H (g i j) (g' i j)):OpR X f (nw X.K (Bm C' g')):=
 OpR.imp h fun x y H Q ⟨μ,S,dx,dy,dz,hS,h1,h2,h3,post⟩=>by
  cases dx <;> cases dy <;> first | cases h3 | skip
  simp only [Bm] at h3
  split at h3
  ·rename_i hc
   cases h3
   exact⟨_,_,h1.int_inv,h2.int_inv,hC _ _ hc,post.here hS (hg _ _ _ _)⟩
  ·cases h3
noncomputable def nB:=Hd fun i j=>.int (i - j)
noncomputable def Ov:=Hd fun i j=>.bl (decide (i<j))
noncomputable def Ow:=Hd fun i j=>.bl (decide (i<=j))
noncomputable def fGt:=Hd fun i j=>.bl (decide (j<i))
noncomputable def fGe:=Hd fun i j=>.bl (decide (j<=i))
theorem Ru:OpR X (binaryOp .Sub) (nw X.K nB):=oG Rp fun _ _ _ _=>.int _
theorem op_Lt:OpR X (compareOp .Lt) (nw X.K Ov):=oG op_lt fun _ _ _ _=>.bl _
theorem op_Le:OpR X (compareOp .LtE) (nw X.K Ow):=oG op_le fun _ _ _ _=>.bl _
theorem op_Gt:OpR X (compareOp .Gt) (nw X.K fGt):=oG op_gt fun _ _ _ _=>.bl _
theorem op_Ge:OpR X (compareOp .GtE) (nw X.K fGe):=oG op_ge fun _ _ _ _=>.bl _
noncomputable def lD:=Bm (fun _ j=>decide (0<j)) fun i j=>.int (i % j)
noncomputable def Hg:=Bm (fun _ j=>decide (0<j)&&decide (j<1073741824)) fun i j=>.int (i / j)
noncomputable def vy:=Bm (fun i j=>decide (0<=j)&&decide (j<=1000000)&&decide (i.natAbs<2 ^ 64)) fun i j=>.int (i ^ j.toNat)
theorem Ry:OpR X (binaryOp .Mod) (nw X.K lD):=xO Rs (fun _ _ h=>of_decide_eq_true h) fun _ _ _ _=>.int _
theorem Rz:OpR X (binaryOp .FloorDiv) (nw X.K Hg):=xO ND (fun _ _ h=>by simpa [CDiv] using h) fun _ _ _ _=>.int _
theorem Rv:OpR X (binaryOp .Pow) (nw X.K vy):=xO Rr (fun i j h=>by
 simp only [Bool.and_eq_true,decide_eq_true_eq] at h
 exact⟨h.1.1,h.1.2,h.2⟩) fun _ _ _ _=>.int _
def oI(i j:Int):Bool:=decide (i.natAbs<18446744073709551616)||decide (j.natAbs<18446744073709551616)||(decide (i.natAbs<2 ^ 4000)&&decide (j.natAbs<2 ^ 4000))
theorem NM{i j:Int}(h:oI i j=true):IntMulOk i j:=by
 unfold oI at h
 simp only [Bool.or_eq_true,Bool.and_eq_true,decide_eq_true_eq] at h
 rcases h with (h | h) | h
 ·exact .of_left (intBits_le (k:=64) (by omega))
 ·exact .of_right (intBits_le (k:=64) (by omega))
 ·exact .of_bits (Nat.le_trans (intBits_le (k:=4000) h.1) (by decide)) (Nat.le_trans (intBits_le (k:=4000) h.2) (by decide))
theorem NC:OpR X (binaryOp .Mult) (rI (fun i j=>oI i j=true) fun i j=>.int (i * j)):=opI fun _ _ _ _ _ _ _ hc q=>mul_int q (NM hc)
noncomputable def SH(S:ac)(x y:D):Option D:=match x,y with
 | .int i,.int j=>if oI i j=true then some (.int (i * j)) else none
 | _,_=>none
theorem Rx:OpR X (binaryOp .Mult) (nw X.K SH):=OpR.imp NC fun x y H Q ⟨μ,S,dx,dy,dz,hS,h1,h2,h3,post⟩=>by
 cases dx <;> cases dy <;> first | cases h3 | skip
 simp only [SH] at h3
 split at h3
 ·rename_i hc
  cases h3
  exact⟨_,_,h1.int_inv,h2.int_inv,hc,post.here hS (.int _)⟩
 ·cases h3
noncomputable def KZ(S:ac)(x y:D):Option D:=match x,y with
 | .int i,.int j=>some (.int (i+j))
 | .str i,.str j=>if i.length+j.length<=sizeLine then some (.str (i++j)) else none
 | .tup xs,.tup ys=>if xs.length+ys.length<=sizeLine then some (.tup (xs++ys)) else none
 | .lst xs,.lst ys=>if xs.length+ys.length<=sizeLine then some (.lst (xs++ys)) else none
 | _,_=>none
theorem RA:OpR X (binaryOp .Add) (nw X.K KZ):=by
 intro pins s σ H x y v u Q I rx ry h
 obtain⟨μ,S,dx,dy,dz,hS,h1,h2,h3,post⟩:=h
 cases dx <;> cases dy <;> first | cases h3 | skip
 case int.int i j=>exact Rt pins s σ H x y v u Q I rx ry ⟨_,_,h1.int_inv,h2.int_inv,post.here hS (.int _)⟩
 case str.str i j=>
  simp only [KZ] at h3
  split at h3
  ·rename_i hl;cases h3
   exact Cj pins s σ H x y v u Q I rx ry ⟨_,_,h1.str_inv,h2.str_inv,hl,post.here hS (.str _)⟩
  ·cases h3
 case tup.tup xs ys=>
  simp only [KZ] at h3
  split at h3
  ·rename_i hl;cases h3
   have h2':=h2
   have h1':=h1
   obtain⟨a,vs,rfl,q1,r1⟩:=h1.sqT
   obtain⟨b,ws,rfl,q2,r2⟩:=h2.sqT
   have e1:=r1.length
   have e2:=r2.length
   by_cases hv:vs=[]
   ·subst hv
    have hx:xs=[]:=List.eq_nil_of_length_eq_zero (by simpa using e1.symm)
    subst hx
    cases rx;cases ry
    obtain⟨its,rv,p1,_⟩:=I.tuple q1
    obtain⟨its2,rv2,p2,_⟩:=I.tuple q2
    have:its=[]:=rv.nil_iff.mpr rfl
    subst this
    exact HT.Pe p1 p2 ⟨.ref b,H,I,rfl,post.here hS h2'⟩
   ·refine NE pins s σ H _ _ v u Q I rx ry ⟨a,b,vs,ws,rfl,rfl,q1,q2,hv,by omega,fun hw=>?_,fun hw p hp=>post.tup hS hp (r1.append r2)⟩
    subst hw
    have hy:ys=[]:=List.eq_nil_of_length_eq_zero (by simpa using e2.symm)
    subst hy
    rw [List.append_nil] at post
    exact post.here hS h1'
  ·cases h3
 case lst.lst xs ys=>
  simp only [KZ] at h3
  split at h3
  ·rename_i hl;cases h3
   obtain⟨a,vs,rfl,q1,n1,r1⟩:=h1.sqL
   obtain⟨b,ws,rfl,q2,n2,r2⟩:=h2.sqL
   have e1:=r1.length
   have e2:=r2.length
   exact JD pins s σ H _ _ v u Q I rx ry ⟨a,b,vs,ws,rfl,rfl,q1,q2,by omega,fun p hp=>post.lst hS hp (r1.append r2)⟩
  ·cases h3
theorem QA:UnR X (unaryOp .USub) (rM1 X.K fun _ x=>match x with | .int i=>some (.int (-i)) | _=>none):=UnR.imp Qz fun x H Q ⟨μ,S,dx,dz,hS,h1,h3,post⟩=>by
 cases dx <;> first | cases h3 | skip
 exact⟨_,h1.int_inv,post.here hS (.int _)⟩
noncomputable def EI(f:ac->D->Option D)(a:ME):ME:=fun env S=>(a env S).bind fun p=>(f p.2 p.1).bind fun z=>some (z,p.2)
theorem de_un{a:Expr}{ma:ME}{pos:Pos}{op:UnaryOp}{f:ac->D->Option D}(ho:UnR X (unaryOp op) (rM1 X.K f))(ha:DE X a ma):DE X (.UnaryOp op a pos) (EI f ma):=
 PE.imp (pe_un ho ha) fun σ H Q ⟨μ,S,env,d,S',hS,hE,hm,post⟩=>by
  obtain⟨⟨x,S1⟩,h1,hm⟩:=Option.bind_eq_some_iff.mp hm
  obtain⟨z,h2,hm⟩:=Option.bind_eq_some_iff.mp hm
  cases hm
  exact⟨μ,S,env,x,_,hS,hE,h1,fun v H1 μ1 e1 s1 r1=>⟨μ1,_,x,_,s1,r1,h2,post.ext e1⟩⟩
theorem Pq{vs:List V}{ds:List D}{i:Int}{d:D}(r:Reps K μ H vs ds)(h:lc ds i=some d):∃ v,lc vs i=some v/\Rep K μ H v d:=by
 unfold lc at h ⊢
 rw [r.length]
 obtain⟨j,h1,h2⟩:=Option.bind_eq_some_iff.mp h
 obtain⟨v,h3,h4⟩:=r.get h2
 exact⟨v,by rw [h1];exact h3,h4⟩
noncomputable def fIx(S:ac)(x y:D):Option D:=match y with | .int i=>(gO S x).bind fun xs=>lc xs i | _=>none
theorem ix_D:IxR X (nw X.K fIx):=IxR.imp (ix_list.or Sm) fun x y H Q ⟨μ,S,dx,dy,dz,hS,h1,h2,h3,post⟩=>by
 cases dy <;> first | cases h3 | skip
 rename_i i
 obtain⟨xs,e,h3⟩:=Option.bind_eq_some_iff.mp h3
 obtain⟨a,vs,rfl,hq,r⟩:=jI hS h1 e
 obtain⟨v,h4,h5⟩:=Pq r h3
 rcases hq with hq | hq
 ·exact .inl ⟨a,vs,i,v,rfl,h2.int_inv,hq,h4,post.here hS h5⟩
 ·exact .inr ⟨a,vs,i,v,rfl,h2.int_inv,hq,h4,post.here hS h5⟩
noncomputable def iB{α:Type}(xs:List α)(lo hi:Option Int):List α:=(xs.drop (HT.eO xs.length 0 lo)).take (HT.eO xs.length xs.length hi - HT.eO xs.length 0 lo)
abbrev MO:=bn->ac->Option (Option Int×ac)
noncomputable def bF:MO:=fun _ S=>some (none,S)
noncomputable def ca(m:ME):MO:=fun env S=>(m env S).bind fun p=>match p.1 with | .int i=>some (some i,p.2) | _=>none
inductive tMO(K:PySem.W.Frag)(m:MO)(σ:L2.St)(H:Hp)(Q:Option Int->Hp->Prop):Prop
 | mk (μ:Fp) (S:ac) (env:bn) (o:Option Int) (S':ac) (hS:SOk K μ S H) (hE:EOk K μ H σ env) (h:m env S=some (o,S')) (post:∀ H' μ',Ext μ H μ' H'->SOk K μ' S' H'->Q o H')
def DO(X:Cx)(e:Option Expr)(m:MO):Prop:=PO X e (tMO X.K m)
theorem PO.imp{e:Option Expr}{t t':TO}(h:PO X e t)(i:∀ σ H Q,t' σ H Q->t σ H Q):PO X e t':=fun pins s σ H Q I q=>h pins s σ H Q I (i σ H Q q)
theorem OQ:DO X none bF:=PO.imp Nl fun σ H Q ⟨μ,S,env,d,S',hS,hE,hm,post⟩=>by cases hm;exact post H μ hS.ext hS
theorem OP{e:Expr}{m:ME}(h:DE X e m):DO X (some e) (ca m):=PO.imp (Nk h) fun σ H Q ⟨μ,S,env,d,S',hS,hE,hm,post⟩=>by
 obtain⟨⟨x,S1⟩,h1,hm⟩:=Option.bind_eq_some_iff.mp hm
 cases x <;> first | cases hm | skip
 exact⟨μ,S,env,_,_,hS,hE,h1,fun v H1 μ1 e1 s1 r1=>⟨_,r1.int_inv,post H1 μ1 e1 s1⟩⟩
noncomputable def bE(a:ME)(lo hi:MO):ME:=fun env S=>(a env S).bind fun p=>(lo env p.2).bind fun l=>(hi env l.2).bind fun h=>match p.1 with
 | .tup xs=>some (.tup (iB xs l.1 h.1),h.2)
 | .lst xs=>some (.lst (iB xs l.1 h.1),h.2)
 | .rol xs=>some (.lst (iB xs l.1 h.1),h.2)
 | .ref r=>match h.2[r]? with | some (.lst xs)=>some (.lst (iB xs l.1 h.1),h.2) | _=>none
 | _=>none
theorem rS{vs:List V}{ds:List D}{lo hi:Option Int}(r:Reps K μ H vs ds):Reps K μ H (Bv vs lo hi) (iB ds lo hi):=by
 unfold Bv iB
 rw [r.length]
 exact(r.drop _).take _
theorem MJ:SlR X (fun x lo hi H Q=>∃ a xs,x=.ref a/\lQ X.K H a xs/\(HT.eO xs.length 0 lo=0/\HT.eO xs.length xs.length hi=xs.length)/\Q (.ref a) H):=by
 intro pins s σ H x v vl vu lo hi sl Q I rx hs pl pu h
 obtain⟨a,xs,rfl,hx,hw,q⟩:=h
 cases rx
 obtain⟨its,r,ht,hz⟩:=I.tuple hx
 have hlen:its.toArray.size=xs.length:=by rw [List.size_toArray];exact r.length.symm
 refine⟨"tuple",_,PyProof.Rows.slot_tuple_getitem.lookup,ht.typeIs,?_⟩
 exact HT.nA ht hs pl pu (by rw [hlen];exact hw) ⟨.ref a,H,I,rfl,q⟩
theorem LO{a:Expr}{lo hi:Option Expr}{ma:ME}{ml mh:MO}{pos p2:Pos}(ha:DE X a ma)(hl:DO X lo ml)(hh:DO X hi mh):DE X (.Subscript a (.Slice lo hi none p2) pos) (bE ma ml mh):=
 PE.imp (Js (SlR.or MJ (SlR.or QJ MK)) ha hl hh) fun σ H Q ⟨μ,S,env,d,S',hS,hE,hm,post⟩=>by
  obtain⟨⟨x,S1⟩,h1,hm⟩:=Option.bind_eq_some_iff.mp hm
  obtain⟨⟨l,S2⟩,h2,hm⟩:=Option.bind_eq_some_iff.mp hm
  obtain⟨⟨h,S3⟩,h3,hm⟩:=Option.bind_eq_some_iff.mp hm
  refine⟨μ,S,env,x,S1,hS,hE,h1,fun v H1 μ1 e1 s1 r1=>⟨μ1,S1,env,l,S2,s1,hE.mono e1,h2,fun H2 μ2 e2 s2=>⟨μ2,S2,env,h,S3,s2,(hE.mono e1).mono e2,h3,fun H3 μ3 e3 s3=>?_⟩⟩⟩
  have r3:=(r1.mono e2).mono e3
  have e:=(e1.trans e2).trans e3
  cases x with
  | tup xs=>
   cases hm
   have r3':=r3
   obtain⟨a,vs,rfl,q1,r⟩:=r3.sqT
   by_cases hw:HT.eO vs.length 0 l=0/\HT.eO vs.length vs.length h=vs.length
   ·refine .inl ⟨a,vs,rfl,q1,hw,?_⟩
    have:iB xs l h=xs:=by unfold iB;rw [<- r.length,hw.1,hw.2];simp [r.length]
    rw [this] at post
    exact post _ H3 μ3 e s3 r3'
   ·exact .inr (.inl ⟨a,vs,rfl,q1,hw,fun p hp=>(post.ext e).tup s3 hp (rS r)⟩)
  | lst xs=>
   cases hm
   obtain⟨a,vs,rfl,q1,n1,r⟩:=r3.sqL
   exact .inr (.inr ⟨a,vs,rfl,.inl (.inl q1),fun p hp=>(post.ext e).lst s3 hp (rS r)⟩)
  | rol xs=>
   cases hm
   obtain⟨a,vs,rfl,q1,r⟩:=r3.sqR
   exact .inr (.inr ⟨a,vs,rfl,q1,fun p hp=>(post.ext e).lst s3 hp (rS r)⟩)
  | ref r=>
   dsimp only at hm
   split at hm
   ·rename_i xs q
    cases hm
    cases r3 with
    | @ref a _ ha=>
     obtain⟨vs,hv,rv⟩:=s3.cell r a _ ha q
     exact .inr (.inr ⟨a,vs,rfl,.inl (.inl hv),fun p hp=>(post.ext e).lst s3 hp (rS rv)⟩)
   ·cases hm
  | _=>cases hm
end
end M
namespace M
open PySem PySem.Spec PyProof.Rows L2
section
variable{X:Cx}{K:PySem.W.Frag}{μ μ':Fp}{H H':Hp}{S:ac}
noncomputable def bi(f:List D->ac->Option (D×ac))(ms:MA):ME:=fun env S=>(ms env S).bind fun p=>f p.1 p.2
theorem IF{f:List D->ac->Option (D×ac)}{ms:MA}{σ:L2.St}{Q:VK}(h:tM K (bi f ms) σ H Q):tCB (Je K f) (tMA K ms) σ H Q:=by
 obtain⟨μ,S,env,d,S',hS,hE,hm,post⟩:=h
 obtain⟨⟨xs,S1⟩,h1,hm⟩:=Option.bind_eq_some_iff.mp hm
 exact⟨μ,S,env,xs,S1,hS,hE,h1,fun vs H1 μ1 e1 s1 r1=>⟨μ1,S1,xs,d,S',s1,r1,hm,post.ext e1⟩⟩
section
variable{x:Str}{p pos:Pos}{e:Expr}{es:List Expr}{ms:MA}{id T:String}{f:List D->ac->Option (D×ac)}
theorem pC(hc:CallR X (.builtin id) (Je X.K f))(hm:X.mg x=none)(hv:bootBuiltins x=some (.builtin id))(ha:DA X (e::es) ms)(hg:Gl X x:=by rfl)(hn:x ≠ "__name__":=by decide)(hdb:(x == ("__debug__":Str))=false:=by decide)
  (he:starEach (e::es) X.env=(false,eval e X.env)::starEach es X.env:=by rfl) (hpl:(backTo pos (starEach es X.env)).any (·.1)=false:=by rfl):DE X (.Call (.Name x p) (e::es) [] pos) (bi f ms):=
 PE.imp (zO hc hg hm hv ha hn hdb he hpl) fun _ _ _ h=>IF h
theorem qm(hc:CallR X (.type T) (Je X.K f))(hm:X.mg x=none)(hv:bootBuiltins x=some (.type T))(ha:DA X (e::es) ms)(hg:Gl X x:=by rfl)(hn:x ≠ "__name__":=by decide)(hdb:(x == ("__debug__":Str))=false:=by decide)
  (he:starEach (e::es) X.env=(false,eval e X.env)::starEach es X.env:=by rfl) (hpl:(backTo pos (starEach es X.env)).any (·.1)=false:=by rfl):DE X (.Call (.Name x p) (e::es) [] pos) (bi f ms):=
 PE.imp (Ge hc hg hm hv ha hn hdb he hpl) fun _ _ _ h=>IF h
end
theorem Reps.one{vs:List V}{d:D}(r:Reps K μ H vs [d]):∃ v,vs=[v]/\Rep K μ H v d:=by
 cases r with
 | cons h t=>cases t;exact⟨_,rfl,h⟩
theorem Reps.two{vs:List V}{d e:D}(r:Reps K μ H vs [d,e]):∃ v w,vs=[v,w]/\Rep K μ H v d/\Rep K μ H w e:=by
 cases r with
 | cons h t=>cases t with | cons h' t=>cases t;exact⟨_,_,rfl,h,h'⟩
noncomputable def aN(f:ac->List D->Option D):List D->ac->Option (D×ac):=fun ds S=>(f S ds).bind fun d=>some (d,S)
theorem el{f:ac->List D->Option D}{ds:List D}{S S':ac}{d:D}(h:aN f ds S=some (d,S')):S'=S/\f S ds=some d:=by
 obtain⟨z,h1,h⟩:=Option.bind_eq_some_iff.mp h
 cases h
 exact⟨rfl,h1⟩
noncomputable def fO(S:ac):List D->Option D
 | [.str z]=>if z.length<=sizeLine then some (.int z.length) else none
 | [d]=>(gO S d).bind fun xs=>some (.int xs.length)
 | _=>none
theorem Md:CallR X (.builtin "len") (Je X.K (aN fO)):=CallR.imp (call_len_seq.or yW) fun xs H Q ⟨μ,S,ds,d,S',hS,hr,hm,post⟩=>by
 obtain⟨rfl,hm⟩:=el hm
 match ds,hr,hm with
 | [D.str z],hr,hm=>
  obtain⟨v,rfl,r⟩:=hr.one
  simp only [fO] at hm
  split at hm
  ·rename_i hl;cases hm;exact .inr ⟨z,by rw [r.str_inv],hl,post.here hS (.int _)⟩
  ·cases hm
 | [D.non],hr,hm=>cases hm
 | [D.bl _],hr,hm=>cases hm
 | [D.int _],hr,hm=>cases hm
 | [D.dct _ _],hr,hm=>cases hm
 | [D.tup xs],hr,hm=>
  obtain⟨v,rfl,r⟩:=hr.one
  cases hm
  obtain⟨a,vs,rfl,hq,r⟩:=jI hS r rfl
  exact .inl ⟨a,vs,rfl,hq,by rw [r.length];exact post.here hS (.int _)⟩
 | [D.lst xs],hr,hm=>
  obtain⟨v,rfl,r⟩:=hr.one
  cases hm
  obtain⟨a,vs,rfl,hq,r⟩:=jI hS r rfl
  exact .inl ⟨a,vs,rfl,hq,by rw [r.length];exact post.here hS (.int _)⟩
 | [D.rol xs],hr,hm=>
  obtain⟨v,rfl,r⟩:=hr.one
  cases hm
  obtain⟨a,vs,rfl,hq,r⟩:=jI hS r rfl
  exact .inl ⟨a,vs,rfl,hq,by rw [r.length];exact post.here hS (.int _)⟩
 | [D.ref i],hr,hm=>
  obtain⟨v,rfl,r⟩:=hr.one
  obtain⟨xs,h1,hm⟩:=Option.bind_eq_some_iff.mp hm
  cases hm
  obtain⟨a,vs,rfl,hq,r⟩:=jI hS r h1
  exact .inl ⟨a,vs,rfl,hq,by rw [r.length];exact post.here hS (.int _)⟩
 | [],hr,hm=>cases hm
 | a::b::c,hr,hm=>simp [fO] at hm
noncomputable def kP(S:ac):List D->Option D
 | [.int i]=>some (.int i)
 | [.bl k]=>some (.int (if k then 1 else 0))
 | _=>none
theorem Me:CallR X (.type "int") (Je X.K (aN kP)):=CallR.imp HR fun xs H Q ⟨μ,S,ds,d,S',hS,hr,hm,post⟩=>by
 obtain⟨rfl,hm⟩:=el hm
 match ds,hr,hm with
 | [D.int i],hr,hm=>obtain⟨v,rfl,r⟩:=hr.one;cases hm;exact .inl ⟨i,by rw [r.int_inv],post.here hS (.int _)⟩
 | [D.bl k],hr,hm=>obtain⟨v,rfl,r⟩:=hr.one;cases hm;exact .inr ⟨k,by rw [r.bl_inv],post.here hS (.int _)⟩
 | [D.non],hr,hm=>cases hm
 | [D.str _],hr,hm=>cases hm
 | [D.dct _ _],hr,hm=>cases hm
 | [D.tup _],hr,hm=>cases hm
 | [D.lst _],hr,hm=>cases hm
 | [D.rol _],hr,hm=>cases hm
 | [D.ref _],hr,hm=>cases hm
 | [],hr,hm=>cases hm
 | a::b::c,hr,hm=>simp [kP] at hm
noncomputable def Qd(S:ac):List D->Option D
 | [.int i,.int j]=>some (.int (if j>i then j else i))
 | _=>none
noncomputable def Bl(S:ac):List D->Option D
 | [.int i,.int j]=>some (.int (if j<i then j else i))
 | _=>none
theorem PY{ds:List D}{f:Int->Int->D}{d:D}(h:(match ds with | [.int i,.int j]=>some (f i j) | _=>none)=some d):∃ i j,ds=[.int i,.int j]/\d=f i j:=by
 split at h
 ·cases h;exact⟨_,_,rfl,rfl⟩
 ·cases h
theorem HV(hc:X.calm=true):CallR X (.builtin "max") (Je X.K (aN Qd)):=CallR.imp (HQ hc) fun xs H Q ⟨μ,S,ds,d,S',hS,hr,hm,post⟩=>by
 obtain⟨rfl,hm⟩:=el hm
 obtain⟨i,j,rfl,rfl⟩:=PY (f:=fun i j=>.int (if j>i then j else i)) hm
 obtain⟨v,w,rfl,r1,r2⟩:=hr.two
 exact⟨i,j,by rw [r1.int_inv,r2.int_inv],post.here hS (.int _)⟩
theorem HS(hc:X.calm=true):CallR X (.builtin "min") (Je X.K (aN Bl)):=CallR.imp (HN hc) fun xs H Q ⟨μ,S,ds,d,S',hS,hr,hm,post⟩=>by
 obtain⟨rfl,hm⟩:=el hm
 obtain⟨i,j,rfl,rfl⟩:=PY (f:=fun i j=>.int (if j<i then j else i)) hm
 obtain⟨v,w,rfl,r1,r2⟩:=hr.two
 exact⟨i,j,by rw [r1.int_inv,r2.int_inv],post.here hS (.int _)⟩
noncomputable def cm(c:List D->D)(S:ac):List D->Option D
 | [d]=>(gO S d).bind fun xs=>some (c xs)
 | _=>none
theorem uo{c:List D->D}{S:ac}{ds:List D}{d:D}(h:cm c S ds=some d):∃ x xs,ds=[x]/\gO S x=some xs/\d=c xs:=by
 match ds,h with
 | [x],h=>
  obtain⟨xs,h1,h⟩:=Option.bind_eq_some_iff.mp h
  cases h
  exact⟨x,xs,rfl,h1,rfl⟩
 | [],h=>cases h
 | _::_::_,h=>cases h
theorem HW:CallR X (.type "list") (Je X.K (aN (cm .lst))):=CallR.imp yV fun xs H Q ⟨μ,S,ds,d,S',hS,hr,hm,post⟩=>by
 obtain⟨rfl,hm⟩:=el hm
 obtain⟨x,ys,rfl,h1,rfl⟩:=uo hm
 obtain⟨v,rfl,r⟩:=hr.one
 obtain⟨a,vs,rfl,hq,r⟩:=jI hS r h1
 exact⟨a,vs,rfl,hq,fun l hl=>post.lst hS hl r⟩
theorem DV:CallR X (.type "tuple") (Je X.K (aN (cm .tup))):=CallR.imp vB fun xs H Q ⟨μ,S,ds,d,S',hS,hr,hm,post⟩=>by
 obtain⟨rfl,hm⟩:=el hm
 obtain⟨x,ys,rfl,h1,rfl⟩:=uo hm
 obtain⟨v,rfl,r⟩:=hr.one
 cases x with
 | tup zs=>
  cases h1
  have r':=r
  obtain⟨a,vs,rfl,q,r⟩:=r.sqT
  exact⟨a,vs,rfl,.inr ⟨q,post.here hS r'⟩⟩
 | lst zs=>
  cases h1
  obtain⟨a,vs,rfl,q,n,r⟩:=r.sqL
  exact⟨a,vs,rfl,.inl ⟨.inl (.inl q),fun l hl=>post.tup hS hl r⟩⟩
 | rol zs=>
  cases h1
  obtain⟨a,vs,rfl,q,r⟩:=r.sqR
  exact⟨a,vs,rfl,.inl ⟨q,fun l hl=>post.tup hS hl r⟩⟩
 | ref i=>
  simp only [gO] at h1
  cases r with
  | @ref a _ h'=>
   cases q:S'[i]? with
   | none=>rw [q] at h1;cases h1
   | some c=>
    rw [q] at h1
    have ck:=hS.cell i a c h' q
    cases c with
    | lst xs=>cases h1;obtain⟨vs,e,r⟩:=ck;exact⟨a,vs,rfl,.inl ⟨.inl (.inl e),fun l hl=>post.tup hS hl r⟩⟩
    | dct ks xs=>cases h1
 | _=>cases h1
noncomputable def lI:List D->Option (List Bool)
 | []=>some []
 | .bl b::r=>(lI r).bind fun bs=>some (b::bs)
 | _=>none
noncomputable def yJ(S:ac):List D->Option D
 | [.lst xs]=>(lI xs).bind fun bs=>some (.bl (bs.all id))
 | _=>none
theorem qQ:∀ {vs:List V} {ds:List D} {us:List Value} {bs:List Bool},Reps K μ H vs ds->Vals vs us->lI ds=some bs->LSm.BoolsAre us bs
 | _,_,_,_,.nil,.nil,h=>by cases h;exact .nil
 | _,_,_,_,.cons (d:=d) r t,.cons rv tv,h=>by
  cases d <;> first | cases h | skip
  obtain⟨cs,h1,h⟩:=Option.bind_eq_some_iff.mp h
  cases h
  cases r;cases rv
  exact .cons _ (qQ t tv h1)
theorem Mf(hc:X.calm=true):CallR X (.builtin "all") (Je X.K (aN yJ)):=by
 intro pins s σ H xs us Q I rv h
 obtain⟨μ,S,ds,d,S',hS,hr,hm,post⟩:=h
 obtain⟨rfl,hm⟩:=el hm
 match ds,hr,hm with
 | [D.lst zs],hr,hm=>
  obtain⟨v,rfl,r⟩:=hr.one
  obtain⟨bs,h1,hm⟩:=Option.bind_eq_some_iff.mp hm
  cases hm
  obtain⟨u,rfl,ru⟩:=qv rv
  obtain⟨a,vs,rfl,q,n,r⟩:=r.sqL
  cases ru
  obtain⟨its,rv',pl,hz⟩:=I.list (.inl (.inl q))
  have hl:=pl.isList
  have hb:=qQ r rv' h1
  have hlt:a<s.heap.objs.size:=by obtain⟨_,e,_⟩:=hl;exact Heap.lt_size e
  refine call_all_walk (wpAny_pyIter_list hl ?_)
  refine⟨s.heap.objs.size,[s.heap.objs.size,a],[s.heap.objs.size],its.toArray.size,_,_,fun i=>(bs[i]?).getD true,rfl,Walks.list (A:=X.A.in1) (I.ok.hd hc) _ a (Nat.ne_of_lt hlt) its.toArray,
   ⟨⟨_,Heap.get?_push_size _ rfl,rfl,rfl⟩,hl.push _⟩,fun i v s' Q' E' hP hQ=>?_,fun h' tk hk=>?_⟩
  ·obtain⟨b,e,rfl⟩:=hb.get i v (by simpa using hP)
   simp only [e,Option.getD_some] at hQ
   exact wpAny_truthy_bool hQ
  ·have e:((List.range its.toArray.size).all fun i=>(bs[i]?).getD true)=bs.all id:=by
    rw [List.size_toArray,hb.length];exact LSm.range_all bs
   rw [e]
   exact⟨.bl _,H,I.kept (LSm.kept_iter hk),rfl,post.here hS (.bl _)⟩
 | [D.non],hr,hm=>cases hm
 | [D.bl _],hr,hm=>cases hm
 | [D.int _],hr,hm=>cases hm
 | [D.str _],hr,hm=>cases hm
 | [D.dct _ _],hr,hm=>cases hm
 | [D.tup _],hr,hm=>cases hm
 | [D.rol _],hr,hm=>cases hm
 | [D.ref _],hr,hm=>cases hm
 | [],hr,hm=>cases hm
 | a::b::c,hr,hm=>simp [yJ] at hm
noncomputable def tyD(S:ac):D->Option String
 | .non=>some "NoneType"
 | .bl _=>some "bool"
 | .int _=>some "int"
 | .str _=>some "str"
 | .tup _=>some "tuple"
 | .lst _=>some "list"
 | .rol _=>some "list"
 | .dct _ _=>some "dict"
 | .ref r=>match S[r]? with | some (.lst _)=>some "list" | some (.dct _ _)=>some "dict" | none=>none
def Kv(T:String)(t:String):Bool:=t == T||(t == "bool" && T == "int")
noncomputable def kO(T:String)(S:ac)(d:D):Option D:=(tyD S d).bind fun t=>some (.bl (Kv T t))
noncomputable def dQ(T:String)(m:ME):ME:=fun env S=>(m env S).bind fun p=>(kO T p.2 p.1).bind fun d=>some (d,p.2)
theorem FJ{S:ac}{d:D}{t:String}(h:tyD S d=some t):t = "NoneType"\/t = "bool"\/t = "int"\/t = "str"\/t = "tuple"\/t = "list"\/t = "dict":=by
 cases d <;> simp only [tyD] at h <;> first | (cases h;simp) | (split at h <;> first | (cases h;simp) | cases h)
theorem NR(K:PySem.W.Frag){T t:String}(hT:T = "int"\/T = "bool"\/T = "str"\/T = "tuple"\/T = "list"\/T = "dict")(ht:t = "NoneType"\/t = "bool"\/t = "int"\/t = "str"\/t = "tuple"\/t = "list"\/t = "dict") :
  PySem.W.kitOne K (.type t) (.type T)=some (Kv T t):=by
 rcases hT with rfl | rfl | rfl | rfl | rfl | rfl <;> rcases ht with rfl | rfl | rfl | rfl | rfl | rfl | rfl <;> rfl
theorem kia_D{pins:List (Addr×Obj)}{σ:L2.St}{s:Shared}{v:V}{u:Value}{d:D}{t:String}{b:Bool}{c:Value}{Q:Value->Shared->Prop}{E:Value->Shared->Prop}(I:Inv X pins σ H s)(hS:SOk X.K μ S H)(r:Rep X.K μ H v d)(ru:RelV v u)(ht:tyD S d=some t)
  (e:PySem.W.kitOne X.K (.type t) c=some b) (h:∀ tk,Q (.bool b) { s with toks:=tk }):wpAny (model X.prog X.w) X.A (call (.builtin "isinstance") [u,c]) Q E s:=by
 have tupK:∀ {a:Addr} {vs:List V},lQ X.K H a vs->PySem.W.KitAt a "tuple" s.heap:=fun {a vs} q=>by
  obtain⟨its,_,⟨o,h1,h2,_⟩,_⟩:=I.tuple q;exact⟨o,h1,h2⟩
 have lstK:∀ {a:Addr} {vs:List V},on X.K H a vs->PySem.W.KitAt a "list" s.heap:=fun {a vs} q=>by
  obtain⟨its,_,⟨o,n,h1,h2,_⟩,_⟩:=I.list q;exact⟨o,h1,h2⟩
 have dK:∀ {a:Addr} {kvs:List (bB×V)},H a=some (.dK kvs)->PySem.W.KitAt a "dict" s.heap:=fun {a kvs} q=>by
  obtain⟨_,_,vs,_,p⟩:=(show ObjOk X.prog X.w H s.heap a (.dK kvs) from I.hok a _ q)
  obtain⟨o,es,ep,h1,h2,_⟩:=p
  exact⟨o,h1,h2.1⟩
 cases r with
 | non=>cases ht;cases ru;exact PySem.W.kia_one PySem.W.kitx_none I.kIn True.intro e (fun z=>nomatch z) h
 | bl y=>cases ht;cases ru;exact PySem.W.kia_one PySem.W.kitx_bool I.kIn True.intro e (fun z=>nomatch z) h
 | int i=>cases ht;obtain⟨t,rfl⟩:=ru;exact PySem.W.kia_one PySem.W.kitx_int I.kIn True.intro e (fun z=>nomatch z) h
 | str y=>cases ht;obtain⟨t,rfl⟩:=ru;exact PySem.W.kia_one PySem.W.kitx_str I.kIn True.intro e (fun z=>nomatch z) h
 | tup q n r=>cases ht;cases ru;exact PySem.W.kia_one PySem.W.kitx_tuple I.kIn (tupK (.inl (.inl q))) e (fun z=>nomatch z) h
 | ktup q r=>cases ht;cases ru;exact PySem.W.kia_one PySem.W.kitx_tuple I.kIn (tupK (.inr q)) e (fun z=>nomatch z) h
 | lst q n r=>cases ht;cases ru;exact PySem.W.kia_one PySem.W.kitx_list I.kIn (lstK (.inl (.inl q))) e (fun z=>nomatch z) h
 | rol q n r=>cases ht;cases ru;exact PySem.W.kia_one PySem.W.kitx_list I.kIn (lstK (.inl q)) e (fun z=>nomatch z) h
 | krol q r=>cases ht;cases ru;exact PySem.W.kia_one PySem.W.kitx_list I.kIn (lstK (.inr q)) e (fun z=>nomatch z) h
 | dct q n r=>cases ht;cases ru;exact PySem.W.kia_one PySem.W.kitx_dict I.kIn (dK q) e (fun z=>nomatch z) h
 | @ref a i h'=>
  cases ru
  simp only [tyD] at ht
  cases q:S[i]? with
  | none=>rw [q] at ht;cases ht
  | some c'=>
   rw [q] at ht
   have ck:=hS.cell i a c' h' q
   cases c' with
   | lst xs=>cases ht;obtain⟨vs,q,r⟩:=ck;exact PySem.W.kia_one PySem.W.kitx_list I.kIn (lstK (.inl (.inl q))) e (fun z=>nomatch z) h
   | dct ks xs=>cases ht;obtain⟨kvs,q,r⟩:=ck;exact PySem.W.kia_one PySem.W.kitx_dict I.kIn (dK q) e (fun z=>nomatch z) h
theorem HD{a:Expr}{ma:ME}{T:String}{x:Str}{p p2 pos:Pos}(hm:X.mg "isinstance" = none)(hmT:X.mg x=none)(hb:bootBuiltins x=some (.type T))(ha:DE X a ma)
  (hT:T = "int"\/T = "bool"\/T = "str"\/T = "tuple"\/T = "list"\/T = "dict":=by simp)
  (hg:Gl X "isinstance":=by rfl) (hgT:Gl X x:=by rfl) (hn:x ≠ "__name__":=by decide) (hd:(x == ("__debug__":Str))=false:=by decide)
  (hs1:starEach [a,.Name x p2] X.env=(false,eval a X.env)::starEach [.Name x p2] X.env:=by rfl) (hs2:starEach [.Name x p2] X.env=(false,eval (.Name x p2) X.env)::starEach [] X.env:=by rfl) (hpl:(backTo pos (starEach [.Name x p2] X.env)).any (·.1)=false:=by rfl) :
  DE X (.Call (.Name "isinstance" p) [a,.Name x p2] [] pos) (dQ T ma):=by
 have hc:CallR X (.builtin "isinstance") (fun vs H Q=>∃ v μ S d t,vs=[v,.ty T]/\SOk X.K μ S H/\Rep X.K μ H v d/\tyD S d=some t/\Q (.bl (Kv T t)) H):=by
  intro pins s σ H xs us Q I rv h
  obtain⟨v,μ,S,d,t,rfl,hS,r,ht,q⟩:=h
  obtain⟨u,w',rfl,r1,r2⟩:=Ir rv
  cases r2
  exact kia_D I hS r r1 ht (NR _ hT (FJ ht)) fun tk=>⟨.bl _,H,I.tok _,rfl,q⟩
 refine PE.imp (zO hc hg hm boot_isinstance (xN ha (xN (Nv (v:=.ty T) hgT hmT hb rfl hn hd) JC hs2) hs1) (by decide) (by decide) hs1 hpl) fun σ H Q ⟨μ,S,env,d,S',hS,hE,hm,post⟩=>?_
 obtain⟨⟨x,S1⟩,h1,hm⟩:=Option.bind_eq_some_iff.mp hm
 obtain⟨z,h2,hm⟩:=Option.bind_eq_some_iff.mp hm
 cases hm
 obtain⟨t,h3,h2⟩:=Option.bind_eq_some_iff.mp h2
 cases h2
 exact⟨μ,S,env,x,S1,hS,hE,h1,fun v H1 μ1 e1 s1 r1=>⟨v,μ1,S1,x,t,rfl,s1,r1,h3,post _ H1 μ1 e1 s1 (.bl _)⟩⟩
end
end M
namespace M
open PySem PySem.Spec PyProof.Rows L2
section
variable{X:Cx}{K:PySem.W.Frag}{μ μ':Fp}{H H':Hp}{S:ac}
noncomputable def IN(K:PySem.W.Frag)(n:Nat)(f:List D->ac->Option (D×ac)):Sp:=fun vs H Q _=>∃ μ S ds d S',SOk K μ S H/\Reps K μ H vs ds/\ds.length=n/\f ds S=some (d,S')/\Post K μ H S' d Q
structure Fn(P:Program)(w:World)(K:PySem.W.Frag)(mg:Str->Option Value)(base:Heap)(k:Nat)(x:Str)(n:Nat)(f:List D->ac->Option (D×ac)):Prop where
 ex:∃ (a:Addr) (fd:FuncData) (ps:List Str),ps.length=n/\FnOk P w K mg base FD k a fd ps (IN K n f)/\mg x=some (.ref a)/\PySem.W.keepIn K (.ref a)=true/\Binds K fd ps []
noncomputable def ai(n:Nat)(f:List D->ac->Option (D×ac))(ms:MA):ME:=fun env S=>(ms env S).bind fun p=>if p.1.length=n then f p.1 p.2 else none
theorem zu{n:Nat}{f:List D->ac->Option (D×ac)}{ms:MA}{σ:L2.St}{Q:VK}(h:tM K (ai n f ms) σ H Q):Eo (IN K n f) [] E0 (tMA K ms) σ H Q:=by
 obtain⟨μ,S,env,d,S',hS,hE,hm,post⟩:=h
 obtain⟨⟨xs,S1⟩,h1,hm⟩:=Option.bind_eq_some_iff.mp hm
 dsimp only at hm
 split at hm
 ·rename_i hn
  refine⟨μ,S,env,xs,S1,hS,hE,h1,fun vs H1 μ1 e1 s1 r1=>?_⟩
  show IN K n f (vs++[]) H1 Q E0
  rw [List.append_nil]
  exact⟨μ1,S1,xs,d,S',s1,r1,hn,hm,post.ext e1⟩
 ·cases hm
theorem OZ{k n:Nat}{x:Str}{f:List D->ac->Option (D×ac)}{e:Expr}{es:List Expr}{ms:MA}{p pos:Pos}(F:Fn X.prog X.w X.K X.mg X.base k x n f)(hr:Room k X.A)(ha:DA X (e::es) ms)(hg:Gl X x:=by rfl)
  (hdb:(x == ("__debug__":Str))=false:=by decide) (he:starEach (e::es) X.env=(false,eval e X.env)::starEach es X.env:=by rfl) (hpl:(backTo pos (starEach es X.env)).any (·.1)=false:=by rfl) :
  DE X (.Call (.Name x p) (e::es) [] pos) (ai n f ms):=by
 obtain⟨a,fd,ps,hn,F,hm,hk,hb⟩:=F.ex
 exact PE.imp (Nu F hr hg hm hk hb .nil JB ha hdb he hpl) fun _ _ _ h=>zu h
theorem LV{k:Nat}{x:Str}{f:List D->ac->Option (D×ac)}{p pos:Pos}(F:Fn X.prog X.w X.K X.mg X.base k x 0 f)(hr:Room k X.A)(hg:Gl X x:=by rfl)
  (hdb:(x == ("__debug__":Str))=false:=by decide):DE X (.Call (.Name x p) [] [] pos) (ai 0 f ag):=by
 obtain⟨a,fd,ps,hn,F,hm,hk,hb⟩:=F.ex
 refine PE.imp (JA F hr hg hm hk hb .nil JB hdb) fun σ H Q h=>?_
 obtain⟨μ,S,env,d,S',hS,hE,hm,post⟩:=h
 exact⟨μ,S,[],d,S',hS,.nil,rfl,hm,post⟩
mutual
noncomputable def mO(n:Nat):D->Bool
 | .tup xs=>closDs n xs
 | .lst xs=>closDs n xs
 | .rol xs=>closDs n xs
 | .dct _ xs=>closDs n xs
 | .ref r=>decide (r<n)
 | _=>true
noncomputable def closDs(n:Nat):List D->Bool
 | []=>true
 | d::ds=>mO n d&&closDs n ds
end
noncomputable def wR(n:Nat):uO->Bool
 | .lst xs=>closDs n xs
 | .dct _ xs=>closDs n xs
mutual
theorem Rep.trunc{cs l fb:List Addr}:∀ {v:V} {d:D},Rep K ⟨cs++l,fb⟩ H v d->mO cs.length d=true->Rep K ⟨cs,fb⟩ H v d
 | _,_,.non,_=>.non
 | _,_,.bl b,_=>.bl b
 | _,_,.int i,_=>.int i
 | _,_,.str x,_=>.str x
 | _,_,.tup h n r,c=>.tup h ⟨fun z=>n.1 (List.mem_append_left _ z),n.2⟩ (Reps.trunc r (by simpa only [mO] using c))
 | _,_,.ktup h r,c=>.ktup h (Reps.trunc r (by simpa only [mO] using c))
 | _,_,.lst h n r,c=>.lst h ⟨fun z=>n.1 (List.mem_append_left _ z),n.2⟩ (Reps.trunc r (by simpa only [mO] using c))
 | _,_,.rol h n r,c=>.rol h ⟨fun z=>n.1 (List.mem_append_left _ z),n.2⟩ (Reps.trunc r (by simpa only [mO] using c))
 | _,_,.krol h r,c=>.krol h (Reps.trunc r (by simpa only [mO] using c))
 | _,_,.dct h n r,c=>.dct h ⟨fun z=>n.1 (List.mem_append_left _ z),n.2⟩ (Reps.trunc r (by simpa only [mO] using c))
 | _,_,.ref h,c=>.ref (by
   have hl:=of_decide_eq_true c
   have h:(cs++l)[_]?=some _:=h
   rw [List.getElem?_append_left hl] at h
   exact h)
theorem Reps.trunc{cs l fb:List Addr}:∀ {vs:List V} {ds:List D},Reps K ⟨cs++l,fb⟩ H vs ds->closDs cs.length ds=true->Reps K ⟨cs,fb⟩ H vs ds
 | _,_,.nil,_=>.nil
 | _,_,.cons h t,c=>by
  rw [closDs,Bool.and_eq_true] at c
  exact .cons (Rep.trunc h c.1) (Reps.trunc t c.2)
end
mutual
theorem Rep.closed:∀ {v:V} {d:D},Rep K μ H v d->mO μ.cs.length d=true
 | _,_,.non=>rfl
 | _,_,.bl b=>rfl
 | _,_,.int i=>rfl
 | _,_,.str x=>rfl
 | _,_,.tup h n r=>Reps.closed r
 | _,_,.ktup h r=>Reps.closed r
 | _,_,.lst h n r=>Reps.closed r
 | _,_,.rol h n r=>Reps.closed r
 | _,_,.krol h r=>Reps.closed r
 | _,_,.dct h n r=>Reps.closed r
 | _,_,.ref h=>decide_eq_true (List.getElem?_eq_some_iff.mp h).1
theorem Reps.closed:∀ {vs:List V} {ds:List D},Reps K μ H vs ds->closDs μ.cs.length ds=true
 | _,_,.nil=>rfl
 | _,_,.cons h t=>by rw [closDs,Rep.closed h,Reps.closed t];rfl
end
theorem SOk.closed(s:SOk K μ S H):∀ c∈S,wR S.length c=true:=fun c hc=>by
 obtain⟨r,hr⟩:=List.mem_iff_getElem?.mp hc
 have hl:=(List.getElem?_eq_some_iff.mp hr).1
 have hl':r < μ.cs.length:=by rw [s.len];exact hl
 have:=s.cell r _ c (List.getElem?_eq_getElem hl') hr
 cases c with
 | lst ds=>obtain⟨vs,_,q⟩:=this;rw [<- s.len];exact q.closed
 | dct ks ds=>obtain⟨vs,_,_,q⟩:=this;rw [<- s.len];exact q.closed
theorem SOk.trunc{S' g:ac}(s:SOk K μ (S'++g) H)(hc:∀ c∈S',wR S'.length c=true):∃ cs l,μ.cs=cs++l/\cs.length=S'.length/\SOk K ⟨cs,μ.fb⟩ S' H:=by
 obtain⟨cs0,fb⟩:=μ
 have hlen:cs0.length=S'.length+g.length:=by have:=s.len;simpa using this
 have hcl:(cs0.take S'.length).length=S'.length:=by rw [List.length_take];omega
 refine⟨cs0.take S'.length,cs0.drop S'.length,(List.take_append_drop _ _).symm,hcl,s.nd.sublist (List.take_sublist _ _),hcl,fun r a c h1 h2=>?_,s.fdom,fun a ha z=>s.disj a ha (List.mem_of_mem_take z)⟩
 have hr:=(List.getElem?_eq_some_iff.mp h2).1
 have h1':cs0[r]?=some a:=by
  have h1:(cs0.take S'.length)[r]?=some a:=h1
  rwa [List.getElem?_take_of_lt hr] at h1
 have ck:=s.cell r a c h1' (by rw [List.getElem?_append_left hr];exact h2)
 have cc:=hc c (List.mem_of_getElem? h2)
 have e:cs0=cs0.take S'.length++cs0.drop S'.length:=(List.take_append_drop _ _).symm
 cases c with
 | lst ds=>
  obtain⟨vs,q,r⟩:=ck
  have r':Reps K ⟨cs0.take S'.length++cs0.drop S'.length,fb⟩ H vs ds:=by rw [<- e];exact r
  exact⟨vs,q,r'.trunc (by rw [hcl];exact cc)⟩
 | dct ks ds=>
  obtain⟨vs,q,q2,r⟩:=ck
  have r':Reps K ⟨cs0.take S'.length++cs0.drop S'.length,fb⟩ H (vs.map (·.2)) ds:=by rw [<- e];exact r
  exact⟨vs,q,q2,r'.trunc (by rw [hcl];exact cc)⟩
theorem Post.trunc{S' g:ac}{d:D}{Q:VK}(post:Post K μ H S' d Q)(hd:mO S'.length d=true)(hc:∀ c∈S',wR S'.length c=true)(hl:μ.cs.length<=S'.length):Post K μ H (S'++g) d Q:=fun v H' μ' e s r=>by
 obtain⟨cs,l,q,hcl,s'⟩:=s.trunc hc
 obtain⟨cs',fb'⟩:=μ'
 have q':cs'=cs++l:=q
 subst q'
 refine post v H' ⟨cs,fb'⟩ ⟨e.fb,?_,e.keep,fun a ha=>e.dom a (List.mem_append_left _ ha)⟩ s' (r.trunc (by rw [hcl];exact hd))
 obtain⟨l0,q0,h0⟩:=e.pre
 have q0:cs++l = μ.cs++l0:=q0
 have hle:μ.cs.length<=cs.length:=by rw [hcl];exact hl
 refine⟨cs.drop μ.cs.length,?_,fun a ha=>h0 a ?_⟩
 ·have t1:(cs++l).take μ.cs.length = μ.cs:=by rw [q0];simp
  rw [List.take_append_of_le_length hle] at t1
  show cs = μ.cs++cs.drop μ.cs.length
  conv=>lhs;rw [<- List.take_append_drop μ.cs.length cs,t1]
 ·have t2:(cs++l).drop μ.cs.length=l0:=by rw [q0];simp
  rw [<- t2,List.drop_append_of_le_length hle]
  exact List.mem_append_left _ ha
def Runs(m:MS)(env:bn)(S:ac)(d:D)(S':ac):Prop:=
 ∃ o g,m env S=some o/\(g=[]\/(mO S'.length d=true/\(∀ c∈S',wR S'.length c=true)/\S.length<=S'.length))/\(o=.rt d (S'++g)\/(d=.non/\∃ env',o=.nx env' (S'++g)))
theorem Runs.ret{m:MS}{env:bn}{S S':ac}{d:D}(h:m env S=some (.rt d S')):Runs m env S d S':=⟨_,[],h,.inl rfl,.inl (by rw [List.append_nil])⟩
noncomputable def aA(N:List Str)(ds:List D):bn:=ds.map some++List.replicate (N.length - ds.length) none
theorem Qb{P:Program}{w:World}{mg:Str->Option Value}{base:Heap}{k:Nat}{x qual:Str}{st:Stmt}{a:Addr}{fd:FuncData}{N ps:List Str}{f:List D->ac->Option (D×ac)}
  (F:L2.Fun K x qual st a fd) (Sc:aT N ps (ay st))
  (hbody:∀ (cdv:Value) (A:Around) (outer:List PySem.Env) (s:Shared) (H:Hp) (E:XK),Room k (A.deeper (envOfC qual (ay st) s.heap.objs.size a cdv)) ->
   ∃ m,vD (vz FD P w K mg base N qual (ay st) a cdv A outer s H E).nox (aI st) m/\∀ ds S d S',ds.length=ps.length->(∀ c∈S,wR S.length c=true)->closDs S.length ds=true->f ds S=some (d,S')->Runs m (aA N ds) S d S') :
  FnOk P w K mg base FD (k+1) a fd ps (IN K ps.length f):=by
 refine F.ok Sc (fun vs H Q E h=>?_) (fun cdv A outer s H vs Q E hr h=>?_)
 ·obtain⟨μ,S,ds,d,S',hS,hr,hn,hf,post⟩:=h
  rw [hr.length,hn]
 ·obtain⟨m,hm,run⟩:=hbody cdv A outer s H E hr
  refine⟨_,hm,?_⟩
  obtain⟨μ,S,ds,d,S',hS,hrp,hn,hf,post⟩:=h
  obtain⟨o,g,ho,hg,hend⟩:=run ds S d S' hn hS.closed (by rw [<- hS.len];exact hrp.closed) hf
  have post':Post K μ H (S'++g) d Q:=by
   rcases hg with rfl | ⟨c1,c2,c3⟩
   ·rw [List.append_nil];exact post
   ·exact post.trunc c1 c2 (by rw [hS.len];exact c3)
  have hEnv:EOk K μ H (L2.start N vs) (aA N ds):=by unfold L2.start aA;rw [hrp.length];exact EOk.start hrp
  rcases hend with rfl | ⟨rfl,env',rfl⟩
  ·exact⟨μ,S,_,_,hS,hEnv,ho,post'⟩
  ·exact⟨μ,S,_,_,hS,hEnv,ho,fun σ' H' μ' e s' _=>post' .non H' μ' e s' .non⟩
theorem Qc{P:Program}{w:World}{mg:Str->Option Value}{base:Heap}{k:Nat}{x qual:Str}{st:Stmt}{a:Addr}{fd:FuncData}{N ps:List Str}{f:List D->ac->Option (D×ac)}
  (F:L2.Fun K x qual st a fd) (Sc:aT N ps (ay st)) (hmg:mg x=some (.ref a)) (hb:Binds K fd ps [])
  (hbody:∀ (cdv:Value) (A:Around) (outer:List PySem.Env) (s:Shared) (H:Hp) (E:XK),Room k (A.deeper (envOfC qual (ay st) s.heap.objs.size a cdv)) ->
   ∃ m,vD (vz FD P w K mg base N qual (ay st) a cdv A outer s H E).nox (aI st) m/\∀ ds S d S',ds.length=ps.length->(∀ c∈S,wR S.length c=true)->closDs S.length ds=true->f ds S=some (d,S')->Runs m (aA N ds) S d S') :
  Fn P w K mg base (k+1) x ps.length f:=⟨a,fd,ps,rfl,Qb F Sc hbody,hmg,F.kp,hb⟩
end
end M
namespace M
open PySem PySem.Spec PyProof.Rows L2
section
variable{X:Cx}{K:PySem.W.Frag}{μ μ':Fp}{H H':Hp}{S:ac}
theorem PostN.ext{S':ac}{env':bn}{Q:L2.St->Hp->Prop}(e:Ext μ H μ' H')(p:PostN K μ H S' env' Q):PostN K μ' H' S' env' Q:=fun σ2 H2 μ2 e2 s r=>p σ2 H2 μ2 (e.trans e2) s r
theorem PostS.ext{o:oq}{E:vC}(e:Ext μ H μ' H')(p:PostS K μ H o E):PostS K μ' H' o E:=by
 cases o with
 | nx env S=>exact PostN.ext e p
 | rt d S=>exact Post.ext e p
 | bk env S=>exact PostN.ext e p
 | ct env S=>exact PostN.ext e p
noncomputable def aY:MS:=fun env S=>some (.nx env S)
noncomputable def az(a b:MS):MS:=fun env S=>(a env S).bind fun o=>match o with | .nx env' S'=>b env' S' | o=>some o
theorem OI:vD X [] aY:=PSs.imp Nf fun E σ H ⟨μ,S,env,o,hS,hE,hm,post⟩=>by cases hm;exact post σ H μ hS.ext hS hE
theorem MB{a b:MS}{E:vC}{σ:L2.St}(h:tMS K (az a b) E σ H):tSeq (tMS K a) (tMS K b) E σ H:=by
 obtain⟨μ,S,env,o,hS,hE,hm,post⟩:=h
 obtain⟨o1,h1,hm⟩:=Option.bind_eq_some_iff.mp hm
 refine⟨μ,S,env,o1,hS,hE,h1,?_⟩
 cases o1 with
 | nx env' S'=>exact fun σ' H' μ' e s r=>⟨μ',S',env',o,s,r,hm,post.ext e⟩
 | rt d S'=>cases hm;exact post
 | bk env' S'=>cases hm;exact post
 | ct env' S'=>cases hm;exact post
theorem Ly{st:Stmt}{rest:List Stmt}{a b:MS}(h1:DS X st a)(h2:vD X rest b):vD X (st::rest) (az a b):=PSs.imp (zL h1 h2) fun _ _ _ h=>MB h
theorem OH{st:Stmt}{a:MS}(h1:DS X st a):vD X [st] a:=Ew h1
variable{pos:Pos}{e c:Expr}{m:ME}{mt:MT}{a b:List Stmt}{ma mb:MS}
theorem OK:DS X (.Pass pos) aY:=PS.imp Nh fun E σ H ⟨μ,S,env,o,hS,hE,hm,post⟩=>by cases hm;exact post σ H μ hS.ext hS hE
theorem LB:DS X (.Break pos) (fun env S=>some (.bk env S)):=PS.imp Jn fun E σ H ⟨μ,S,env,o,hS,hE,hm,post⟩=>by cases hm;exact post σ H μ hS.ext hS hE
theorem Bo:DS X (.Continue pos) (fun env S=>some (.ct env S)):=PS.imp zN fun E σ H ⟨μ,S,env,o,hS,hE,hm,post⟩=>by cases hm;exact post σ H μ hS.ext hS hE
theorem Ta{x j p}:DS X (.Expr (.Constant (.str x) j p) pos) aY:=PS.imp QT fun E σ H ⟨μ,S,env,o,hS,hE,hm,post⟩=>by cases hm;exact post σ H μ hS.ext hS hE
noncomputable def aV(m:ME):MS:=fun env S=>(m env S).bind fun p=>some (.rt p.1 p.2)
theorem SY(he:DE X e m):DS X (.Return (some e) pos) (aV m):=PS.imp (Jl he) fun E σ H ⟨μ,S,env,o,hS,hE,hm,post⟩=>by
 obtain⟨⟨d,S1⟩,h1,hm⟩:=Option.bind_eq_some_iff.mp hm
 cases hm
 exact⟨μ,S,env,d,S1,hS,hE,h1,post⟩
theorem OJ:DS X (.Return none pos) (fun _ S=>some (.rt .non S)):=PS.imp Ng fun E σ H ⟨μ,S,env,o,hS,hE,hm,post⟩=>by cases hm;exact Post.here post hS .non
noncomputable def ee(m:ME):MS:=fun env S=>(m env S).bind fun p=>some (.nx env p.2)
theorem ON(he:DE X e m)(hs:swapsWith e none pos.line X.env=pure false:=by rfl):DS X (.Expr e pos) (ee m):=PS.imp (Ni he hs) fun E σ H ⟨μ,S,env,o,hS,hE,hm,post⟩=>by
 obtain⟨⟨d,S1⟩,h1,hm⟩:=Option.bind_eq_some_iff.mp hm
 cases hm
 exact⟨μ,S,env,d,S1,hS,hE,h1,fun v H' μ' ex s r=>post σ H' μ' ex s (hE.mono ex)⟩
noncomputable def bG(t:MT)(a b:MS):MS:=fun env S=>(t env S).bind fun p=>if p.1=true then a env p.2 else b env p.2
theorem ds_if(hc:DT X c mt)(ha:vD X a ma)(hb:vD X b mb):DS X (.If c a b pos) (bG mt ma mb):=PS.imp (ps_if hc ha hb) fun E σ H ⟨μ,S,env,o,hS,hE,hm,post⟩=>by
 obtain⟨⟨k,S1⟩,h1,hm⟩:=Option.bind_eq_some_iff.mp hm
 refine⟨μ,S,env,k,S1,hS,hE,h1,fun H1 μ1 e1 s1=>?_⟩
 cases k with
 | true=>rw [if_pos rfl] at hm ⊢;exact⟨μ1,S1,env,o,s1,hE.mono e1,hm,post.ext e1⟩
 | false=>rw [if_neg Bool.false_ne_true] at hm ⊢;exact⟨μ1,S1,env,o,s1,hE.mono e1,hm,post.ext e1⟩
abbrev MG:=D->bn->ac->Option (bn×ac)
abbrev uL:=List D->bn->ac->Option (bn×ac)
inductive tMG(K:PySem.W.Frag)(g:MG)(v:V)(σ:L2.St)(H:Hp)(Q:L2.St->Hp->Prop):Prop
 | mk (μ:Fp) (S:ac) (env:bn) (d:D) (env':bn) (S':ac) (hS:SOk K μ S H) (hE:EOk K μ H σ env) (h1:Rep K μ H v d) (h:g d env S=some (env',S')) (post:PostN K μ H S' env' Q)
inductive tMGs(K:PySem.W.Frag)(g:uL)(vs:List V)(σ:L2.St)(H:Hp)(Q:L2.St->Hp->Prop):Prop
 | mk (μ:Fp) (S:ac) (env:bn) (ds:List D) (env':bn) (S':ac) (hS:SOk K μ S H) (hE:EOk K μ H σ env) (h1:Reps K μ H vs ds) (h:g ds env S=some (env',S')) (post:PostN K μ H S' env' Q)
def DG(X:Cx)(tg:Expr)(g:MG):Prop:=PG X tg (tMG X.K g)
def Ug(X:Cx)(tg:List Expr)(g:uL):Prop:=PGs X tg (tMGs X.K g)
theorem PG.imp{tg:Expr}{t t':TG}(h:PG X tg t)(i:∀ v σ H Q,t' v σ H Q->t v σ H Q):PG X tg t':=fun pins s σ H v u Q I r q=>h pins s σ H v u Q I r (i v σ H Q q)
theorem PGs.imp{tg:List Expr}{t t':Qr}(h:PGs X tg t)(i:∀ v σ H Q,t' v σ H Q->t v σ H Q):PGs X tg t':=fun pins s σ H v u Q I r q=>h pins s σ H v u Q I r (i v σ H Q q)
noncomputable def ah(i:Nat):MG:=fun d env S=>some (env.set i (some d),S)
theorem Ft{i:Nat}{x:Str}(hN:X.N.Nodup)(hi:X.N[i]?=some x)(hx:Mt X.env.scope x)(hf:X.fn x=true\/X.env.scope.names.lookup x=some .local:=by first | exact .inl rfl | exact .inr rfl | assumption):DG X (.Name x pos) (ah i):=
 PG.imp (Np hN hi hx hf) fun v σ H Q ⟨μ,S,env,d,env',S',hS,hE,hr,hm,post⟩=>by cases hm;exact post _ H μ hS.ext hS (hE.set hr i)
noncomputable def aM:uL:=fun ds env S=>match ds with | []=>some (env,S) | _=>none
noncomputable def af(g:MG)(gs:uL):uL:=fun ds env S=>match ds with | d::r=>(g d env S).bind fun p=>gs r p.1 p.2 | []=>none
theorem OS:Ug X [] aM:=PGs.imp No fun v σ H Q ⟨μ,S,env,ds,env',S',hS,hE,hr,hm,post⟩=>by
 cases hr with
 | nil=>cases hm;exact⟨rfl,post σ H μ hS.ext hS hE⟩
 | cons _ _=>cases hm
theorem LL{t:Expr}{ts:List Expr}{g:MG}{gs:uL}(h1:DG X t g)(h2:Ug X ts gs)(hs:(assignEach (t::ts) X.env).map (·.2)=assign t X.env::(assignEach ts X.env).map (·.2):=by rfl):Ug X (t::ts) (af g gs):=
 PGs.imp (Jq h1 h2 hs) fun v σ H Q ⟨μ,S,env,ds,env',S',hS,hE,hr,hm,post⟩=>by
  cases hr with
  | nil=>cases hm
  | @cons v d vs ds h t=>
   obtain⟨⟨env1,S1⟩,h1,hm⟩:=Option.bind_eq_some_iff.mp hm
   exact⟨v,vs,rfl,μ,S,env,d,env1,S1,hS,hE,h,h1,fun σ1 H1 μ1 e1 s1 r1=>⟨μ1,S1,env1,ds,env',S',s1,r1,t.mono e1,hm,post.ext e1⟩⟩
noncomputable def aZ(n:Nat)(gs:uL):MG:=fun d env S=>match d with | .tup xs=>if xs.length=n then gs xs env S else none | _=>none
theorem Tc{es:List Expr}{k n:Nat}{gs:uL}(hc:X.calm=true)(h:Ug X es gs)(hn:(assignEach es X.env).length=n:=by rfl)(hst:(assignEach es X.env).findIdx? (·.1)=none:=by rfl):DG X (.Tuple es k pos) (aZ n gs):=
 PG.imp (QY hc h hn hst) fun v σ H Q ⟨μ,S,env,d,env',S',hS,hE,hr,hm,post⟩=>by
  cases d with
  | tup xs=>
   simp only [aZ] at hm
   split at hm
   ·rename_i hl
    obtain⟨a,vs,rfl,q,r⟩:=hr.sqT
    exact⟨a,vs,rfl,q,by rw [r.length];exact hl,μ,S,env,xs,env',S',hS,hE,r,hm,post⟩
   ·cases hm
  | _=>cases hm
noncomputable def gv(o i:ME):MG:=fun d env S=>(o env S).bind fun p=>(i env p.2).bind fun q=>match p.1,q.1 with
 | .ref r,.int k=>match q.2[r]? with
  | some (.lst xs)=>(GP xs.length k).bind fun j=>some (env,q.2.set r (.lst (xs.set j d)))
  | _=>none
 | _,_=>none
theorem Td{o i:Expr}{mo mi:ME}(ho:DE X o mo)(hi:DE X i mi)(ha:∀ v,assign (.Subscript o i pos) X.env v=(do
   let ov <- holding [v] (eval o X.env)
   let iv <- holding [v,ov] (eval i X.env)
   standAt pos
   holding [v,ov,iv] (setItem ov iv v)
   release [v,ov,iv] []):=by intro _;rfl):DG X (.Subscript o i pos) (gv mo mi):=
 PG.imp (QZ ho hi IP ha) fun v σ H Q ⟨μ,S,env,d,env',S',hS,hE,hr,hm,post⟩=>by
  obtain⟨⟨x,S1⟩,h1,hm⟩:=Option.bind_eq_some_iff.mp hm
  obtain⟨⟨y,S2⟩,h2,hm⟩:=Option.bind_eq_some_iff.mp hm
  refine⟨μ,S,env,x,S1,hS,hE,h1,fun v1 H1 μ1 e1 s1 r1=>⟨μ1,S1,env,y,S2,s1,hE.mono e1,h2,fun v2 H2 μ2 e2 s2 r2=>?_⟩⟩
  cases x with
  | ref r=>
   cases y with
   | int k=>
    dsimp only at hm
    cases q:S2[r]? with
    | none=>rw [q] at hm;cases hm
    | some c=>
     rw [q] at hm
     cases c with
     | lst xs=>
      obtain⟨j,h3,hm⟩:=Option.bind_eq_some_iff.mp hm
      cases hm
      have r1':=r1.mono e2
      cases r1' with
      | @ref a _ h'=>
       obtain⟨vs,hv,rv⟩:=s2.cell r a _ h' q
       have rd:=(hr.mono e1).mono e2
       obtain⟨e3,s3⟩:=s2.write h' hv (rv.set rd j)
       exact⟨a,vs,k,j,rfl,r2.int_inv,hv,by rw [rv.length];exact h3,post σ _ μ2 ((e1.trans e2).trans e3) s3 (hE.mono ((e1.trans e2).trans e3))⟩
     | dct ks xs=>cases hm
   | _=>cases hm
  | _=>cases hm
noncomputable def aG(m:ME)(g:MG):MS:=fun env S=>(m env S).bind fun p=>(g p.1 env p.2).bind fun q=>some (.nx q.1 q.2)
theorem MD{g:MG}{E:vC}{σ:L2.St}(h:tMS K (aG m g) E σ H):IG (tM K m) (tMG K g) E σ H:=by
 obtain⟨μ,S,env,o,hS,hE,hm,post⟩:=h
 obtain⟨⟨d,S1⟩,h1,hm⟩:=Option.bind_eq_some_iff.mp hm
 obtain⟨⟨env2,S2⟩,h2,hm⟩:=Option.bind_eq_some_iff.mp hm
 cases hm
 exact⟨μ,S,env,d,S1,hS,hE,h1,fun v H1 μ1 e1 s1 r1=>⟨μ1,S1,env,d,env2,S2,s1,hE.mono e1,r1,h2,PostN.ext e1 post⟩⟩
theorem LD{tg:Expr}{g:MG}(he:DE X e m)(hg:DG X tg g)(hs:swapsWithSole [tg] e pos.line X.env=pure false:=by rfl)(hw:swappedStores [tg] e X.env=pure none:=by rfl)
  (h1:(assignEach [tg] X.env).map (·.2)=[assign tg X.env]:=by rfl):DS X (.Assign [tg] e pos) (aG m g):=PS.imp (QU he hg hs hw h1) fun _ _ _ h=>MD h
theorem DB{i:Nat}{x:Str}{pos':Pos}(hN:X.N.Nodup)(hi:X.N[i]?=some x)(hx:Mt X.env.scope x)(he:DE X e m)(hs:swapsWith e (some (.Name x pos')) pos.line X.env=pure false:=by rfl)(hf:X.fn x=true\/X.env.scope.names.lookup x=some .local:=by first | exact .inl rfl | exact .inr rfl | assumption) :
  DS X (.Assign [.Name x pos'] e pos) (aG m (ah i)):=PS.imp (Jk hN hi hx he hs hf) fun E σ H h=>by
 obtain⟨μ,S,env,o,hS,hE,hm,post⟩:=h
 obtain⟨⟨d,S1⟩,h1,hm⟩:=Option.bind_eq_some_iff.mp hm
 cases hm
 exact⟨μ,S,env,d,S1,hS,hE,h1,fun v H1 μ1 e1 s1 r1=>post _ H1 μ1 e1 s1 ((hE.mono e1).set r1 i)⟩
structure ExtP(μ:Fp)(H:Hp)(μ':Fp)(H':Hp):Prop where
 fb:∃ l,μ'.fb=l++μ.fb/\∀ a∈l,H a=none
 pre:∃ l,μ'.cs = μ.cs++l/\∀ a∈l,H a=none
 keep:∀ a o,a ∉ μ.cs->H a=some o->H' a=some o
 dom:∀ a ∈ μ'.cs,H' a≠none
theorem Ext.toP(e:Ext μ H μ' H'):ExtP μ H μ' H':=⟨⟨[],by rw [e.fb];rfl,fun _ z=>by simp at z⟩,e.pre,e.keep,e.dom⟩
theorem ExtP.stays(e:ExtP μ H μ' H'){a:Addr}{o:HO}(h:H a=some o)(n:μ.no a):H' a=some o/\μ'.no a:=by
 refine⟨e.keep a o n.1 h,fun z=>?_,fun z=>?_⟩
 ·obtain⟨l,q,hl⟩:=e.pre
  rw [q] at z
  rcases List.mem_append.mp z with z | z
  ·exact n.1 z
  ·rw [hl a z] at h;cases h
 ·obtain⟨l,q,hl⟩:=e.fb
  rw [q] at z
  rcases List.mem_append.mp z with z | z
  ·rw [hl a z] at h;cases h
  ·exact n.2 z
theorem ExtP.then{μ'':Fp}{H'':Hp}(e:ExtP μ H μ' H')(f:Ext μ' H' μ'' H''):ExtP μ H μ'' H'':=by
 obtain⟨l,q,hl⟩:=e.pre
 obtain⟨l',q',hl'⟩:=f.pre
 refine⟨by rw [f.fb];exact e.fb,⟨l++l',by rw [q',q,List.append_assoc],fun a ha=>?_⟩,fun a o n h=>?_,f.dom⟩
 ·rcases List.mem_append.mp ha with ha | ha
  ·exact hl a ha
  ·have h1:=hl' a ha
   cases q2:H a with
   | none=>rfl
   | some o=>
    by_cases hm:a ∈ μ.cs
    ·exact absurd h1 (e.dom a (by rw [q];exact List.mem_append_left _ hm))
    ·rw [e.keep a o hm q2] at h1;cases h1
 ·have h1:=e.keep a o n h
  refine f.keep a o (fun z=>?_) h1
  rw [q] at z
  rcases List.mem_append.mp z with z | z
  ·exact n z
  ·rw [hl a z] at h;cases h
theorem ExtP.chg{p:Addr}{o:HO}(e:ExtP μ H μ' H')(hp:H p=none):ExtP μ H μ' (upd H' p o):=
 ⟨e.fb,e.pre,fun a o' n h=>by rw [bm (cw h hp)];exact e.keep a o' n h,fun a ha=>by
  by_cases z:a=p
  ·subst z;rw [bw];simp
  ·rw [bm z];exact e.dom a ha⟩
theorem ExtP.ix(e:ExtP μ H μ' H'){r:Nat}{a:Addr}(h:μ.cs[r]?=some a):μ'.cs[r]?=some a:=by
 obtain⟨l,q,_⟩:=e.pre
 exact zd q h
theorem Rep.monoP(e:ExtP μ H μ' H'){v:V}{d:D}(r:Rep K μ H v d):Rep K μ' H' v d:=r.imp e.stays e.ix
def Eg(K:PySem.W.Frag)(μ:Fp)(H:Hp)(J:It)(xs:List D):Prop:=
 ∀ μ' H' S',ExtP μ H μ' H'->SOk K μ' S' H'->∀ i,(∀ d,xs[i]?=some d->J.go i H'/\∀ x H2,J.yld i H' x H2->Ext μ' H' μ' H2/\SOk K μ' S' H2/\Rep K μ' H2 x d)/\(xs.length<=i->J.stop i H')
inductive iM(K:PySem.W.Frag)(m:MA)(σ:L2.St)(H:Hp)(R:It->Hp->Prop):Prop
 | mk (μ:Fp) (S:ac) (env:bn) (xs:List D) (S':ac) (hS:SOk K μ S H) (hE:EOk K μ H σ env) (h:m env S=some (xs,S')) (post:∀ J H' μ',Ext μ H μ' H'->SOk K μ' S' H'->Eg K μ' H' J xs->R J H')
def DI(X:Cx)(tg iter:Expr)(m:MA):Prop:=PI X tg iter (iM X.K m)
theorem PI.imp{tg iter:Expr}{t t':TI}(h:PI X tg iter t)(i:∀ σ H R,t' σ H R->t σ H R):PI X tg iter t':=fun pins s σ H R I q=>h pins s σ H R I (i σ H R q)
theorem wy{v:V}{a:Addr}{d:D}{xs:List D}(hd:d=.lst xs\/d=.rol xs)(r:Rep K μ H v d)(hv:v=.ref a):Eg K μ H (Itl K a) xs:=fun μ' H' S' e s i=>by
 have r':=r.monoP e
 obtain⟨vs,q,rs⟩:∃ vs,on K H' a vs/\Reps K μ' H' vs xs:=by
  subst hv
  rcases hd with rfl | rfl
  ·obtain⟨a',vs,ea,q,_,rs⟩:=r'.sqL;cases ea;exact⟨vs,.inl (.inl q),rs⟩
  ·obtain⟨a',vs,ea,q,rs⟩:=r'.sqR;cases ea;exact⟨vs,q,rs⟩
 refine⟨fun d hd=>?_,fun hl=>⟨vs,q,by rw [rs.length];exact hl⟩⟩
 obtain⟨v,hv,rv⟩:=rs.get hd
 refine⟨⟨vs,v,q,hv⟩,fun x H2 ⟨e2,hy⟩=>?_⟩
 subst e2
 have:=hy vs q
 rw [hv] at this;cases this
 exact⟨s.ext,s,rv⟩
theorem Ku{a:Addr}{xs:List D}(r:Rep K μ H (.ref a) (.tup xs)):Eg K μ H (Itt K a) xs:=fun μ' H' S' e s i=>by
 obtain⟨a',vs,ea,q,rs⟩:=(r.monoP e).sqT
 cases ea
 refine⟨fun d hd=>?_,fun hl=>⟨vs,q,by rw [rs.length];exact hl⟩⟩
 obtain⟨v,hv,rv⟩:=rs.get hd
 refine⟨⟨vs,v,q,hv⟩,fun x H2 ⟨e2,hy⟩=>?_⟩
 subst e2
 have:=hy vs q
 rw [hv] at this;cases this
 exact⟨s.ext,s,rv⟩
variable{tg iter:Expr}
noncomputable def bT(lo:Int)(n:Nat):List D:=(List.range n).map fun(i:Nat)=>D.int (lo+(i:Int))
theorem sx(lo:Int)(n i:Nat)(d:D)(h:(bT lo n)[i]?=some d):i<n/\d=.int (lo+(i:Int)):=by
 unfold bT at h
 rw [List.getElem?_map] at h
 cases q:(List.range n)[i]? with
 | none=>rw [q] at h;cases h
 | some j=>
  rw [q] at h;cases h
  obtain⟨h1,h2⟩:=List.getElem?_eq_some_iff.mp q
  simp at h1 h2
  exact⟨h1,by rw [h2]⟩
theorem tV(lo:Int)(n:Nat):Eg K μ H (Itr lo n) (bT lo n):=fun μ' H' S' e s i=>by
 refine⟨fun d hd=>?_,fun hl=>?_⟩
 ·obtain⟨h1,rfl⟩:=sx lo n i d hd
  refine⟨h1,fun x H2 ⟨e2,hy⟩=>?_⟩
  subst e2 hy
  exact⟨s.ext,s,.int _⟩
 ·have:(bT lo n).length=n:=by simp [bT]
  rw [this] at hl;exact hl
noncomputable def bO(ms:MA):MA:=fun env S=>(ms env S).bind fun p=>match p.1 with | [.int j]=>if -(2 ^ 62)<=j/\j<2 ^ 62 then some (bT 0 j.toNat,p.2) else none | _=>none
noncomputable def dU(ms:MA):MA:=fun env S=>(ms env S).bind fun p=>match p.1 with | [.int i,.int j]=>if -(2 ^ 62)<=i/\i<2 ^ 62/\-(2 ^ 62)<=j/\j<2 ^ 62 then some (bT i (j - i).toNat,p.2) else none | _=>none
theorem HB{a:Expr}{ms:MA}{p:Pos}(hm:X.mg "range" = none)(ha:DA X [a] ms)(hg:Gl X "range":=by rfl)(hs:starEach [a] X.env=[(false,eval a X.env)]:=by rfl):DI X tg (.Call (.Name "range" p) [a] [] pos) (bO ms):=
 PI.imp (Gd hg hm ha hs) fun σ H R ⟨μ,S,env,xs,S',hS,hE,hm,post⟩=>by
  obtain⟨⟨ds,S1⟩,h1,hm⟩:=Option.bind_eq_some_iff.mp hm
  refine⟨μ,S,env,ds,S1,hS,hE,h1,fun vs H1 μ1 e1 s1 r1=>?_⟩
  dsimp only at hm
  split at hm
  ·split at hm
   ·rename_i hb
    cases hm
    obtain⟨v,rfl,r⟩:=r1.one
    exact⟨_,by rw [r.int_inv],hb.1,hb.2,post _ H1 μ1 e1 s1 (tV 0 _)⟩
   ·cases hm
  ·cases hm
theorem HA{a b:Expr}{ms:MA}{p:Pos}(hm:X.mg "range" = none)(ha:DA X [a,b] ms)(hg:Gl X "range":=by rfl)(hs:starEach [a,b] X.env=[(false,eval a X.env),(false,eval b X.env)]:=by rfl)(hs2:starEach [b] X.env=[(false,eval b X.env)]:=by rfl):DI X tg (.Call (.Name "range" p) [a,b] [] pos) (dU ms):=
 PI.imp (Gc hg hm ha hs hs2) fun σ H R ⟨μ,S,env,xs,S',hS,hE,hm,post⟩=>by
  obtain⟨⟨ds,S1⟩,h1,hm⟩:=Option.bind_eq_some_iff.mp hm
  refine⟨μ,S,env,ds,S1,hS,hE,h1,fun vs H1 μ1 e1 s1 r1=>?_⟩
  dsimp only at hm
  split at hm
  ·split at hm
   ·rename_i hb
    cases hm
    obtain⟨v,w,rfl,r,r'⟩:=r1.two
    exact⟨_,_,by rw [r.int_inv,r'.int_inv],hb,post _ H1 μ1 e1 s1 (tV _ _)⟩
   ·cases hm
  ·cases hm
noncomputable def cE(g:MG)(body:MS):List D->bn->ac->Option oq
 | [],env,S=>some (.nx env S)
 | d::ds,env,S=>(g d env S).bind fun p=>(body p.1 p.2).bind fun o=>match o with
  | .nx e s=>cE g body ds e s
  | .ct e s=>cE g body ds e s
  | .bk e s=>some (.nx e s)
  | .rt d s=>some (.rt d s)
noncomputable def gt(mi:MA)(g:MG)(body:MS):MS:=fun env S=>(mi env S).bind fun p=>cE g body p.1 env p.2
theorem LA{body:List Stmt}{mi:MA}{g:MG}{mb:MS}(hp:PassesOwn (model X.prog X.w) X.A X.env X.xe)(hc:X.calm=true)(hi:DI X tg iter mi)(hg:DG X tg g)(hb:vD X body mb)
  (hs:∀ x,foldedSetIterable iter X.env x=pure x:=by intro _;rfl):DS X (.For tg iter body [] pos) (gt mi g mb):=PS.imp (Jm hp hc hi hg hb hs) fun E σ H ⟨μ,S,env,o,hS,hE,hm,post⟩=>by
 obtain⟨⟨xs,S1⟩,h1,hm⟩:=Option.bind_eq_some_iff.mp hm
 refine⟨μ,S,env,xs,S1,hS,hE,h1,fun J H1 μ1 e1 s1 it=>?_⟩
 refine⟨fun i n σ H=>n=xs.length - i/\i<=xs.length/\∃ μ' S' env' o',Ext μ1 H1 μ' H/\SOk X.K μ' S' H/\EOk X.K μ' H σ env'/\cE g mb (xs.drop i) env' S'=some o'/\PostS X.K μ' H o' E,
  ⟨xs.length,by simp,Nat.zero_le _,μ1,S1,env,o,s1.ext,s1,hE.mono e1,by rw [List.drop_zero];exact hm,post.ext e1⟩,?_⟩
 rintro i n σ' H' ⟨rfl,hi,μ',S',env',o',e',s',r',hl,post'⟩
 have iti:=it μ' H' S' e'.toP s' i
 by_cases hlt:i<xs.length
 ·refine .inr ⟨(iti.1 xs[i] (List.getElem?_eq_getElem hlt)).1,fun σ2 H2=>∃ μ2 S2 env2 o2,Ext μ1 H1 μ2 H2/\SOk X.K μ2 S2 H2/\EOk X.K μ2 H2 σ2 env2/\cE g mb (xs.drop (i+1)) env2 S2=some o2/\PostS X.K μ2 H2 o2 E,
   fun σ2 H2 ⟨μ2,S2,env2,o2,q1,q2,q3,q4,q5⟩=>⟨xs.length - (i+1),by omega,rfl,hlt,μ2,S2,env2,o2,q1,q2,q3,q4,q5⟩,fun x H2 y=>?_⟩
  obtain⟨e2,s2,rx⟩:=(iti.1 xs[i] (List.getElem?_eq_getElem hlt)).2 x H2 y
  rw [List.drop_eq_getElem_cons hlt] at hl
  obtain⟨⟨env3,S3⟩,h3,hl⟩:=Option.bind_eq_some_iff.mp hl
  obtain⟨o4,h4,hl⟩:=Option.bind_eq_some_iff.mp hl
  refine⟨μ',S',env',xs[i],env3,S3,s2,r'.mono e2,rx,h3,fun σ3 H3 μ3 e3 s3 r3=>⟨μ3,S3,env3,o4,s3,r3,h4,?_⟩⟩
  have eT:Ext μ1 H1 μ3 H3:=(e'.trans e2).trans e3
  have pT:PostS X.K μ3 H3 o' E:=(post'.ext e2).ext e3
  cases o4 with
  | nx e5 s5=>exact fun σ6 H6 μ6 e6 s6 r6=>⟨μ6,s5,e5,o',eT.trans e6,s6,r6,hl,pT.ext e6⟩
  | ct e5 s5=>exact fun σ6 H6 μ6 e6 s6 r6=>⟨μ6,s5,e5,o',eT.trans e6,s6,r6,hl,pT.ext e6⟩
  | bk e5 s5=>cases hl;exact pT
  | rt d5 s5=>cases hl;exact pT
 ·have e:i=xs.length:=by omega
  subst e
  refine .inl ⟨iti.2 (Nat.le_refl _),?_⟩
  rw [List.drop_length] at hl
  cases hl
  exact post' σ' H' μ' s'.ext s' r'
noncomputable def uD(cap:List (Option Nat))(env:bn):bn:=cap.map fun o=>o.bind fun i=>(env[i]?).join
def Qt(X:Cx)(ifs:List Expr)(m:MT):Prop:=Pt X ifs (Ic X.K m)
theorem OF:Qt X [] (fun _ S=>some (true,S)):=fun pins s σ H Q I ⟨μ,S,env,b,S',hS,hE,hm,post⟩=>by cases hm;exact Nc pins s σ H Q I (post H μ hS.ext hS)
theorem OE{c:Expr}{t:MT}(h:DT X c t):Qt X [c] t:=Nb h
noncomputable def dk(g:MG)(t:MT)(e:ME):List D->bn->ac->Option (List D×ac)
 | [],_,S=>some ([],S)
 | d::ds,env,S=>(g d env S).bind fun p=>(t p.1 p.2).bind fun b=>if b.1=true then (e p.1 b.2).bind fun q=>(dk g t e ds p.1 q.2).bind fun r=>some (q.1::r.1,r.2) else dk g t e ds p.1 b.2
noncomputable def bJ(mi:MA)(g:MG)(t:MT)(e:ME)(cap:List (Option Nat)):ME:=fun env S=>(mi env S).bind fun p=>if p.1.length<=sizeLine then (dk g t e p.1 (uD cap env) p.2).bind fun q=>some (.lst q.1,q.2) else none
theorem zt{mi:MA}{g:MG}{t:MT}{e:ME}{cap:List (Option Nat)}{σ:L2.St}{Q:VK}(h:tM K (bJ mi g t e cap) σ H Q):IE (iM K mi) (tMG K g) (Ic K t) (tM K e) cap σ H Q:=by
 obtain⟨μ,S,env,d,S',hS,hE,hm,post⟩:=h
 obtain⟨⟨xs,S1⟩,h1,hm⟩:=Option.bind_eq_some_iff.mp hm
 dsimp only at hm
 split at hm
 case isFalse=>cases hm
 rename_i hsz
 obtain⟨⟨ys,S2⟩,h2,hm⟩:=Option.bind_eq_some_iff.mp hm
 cases hm
 refine⟨μ,S,env,xs,S1,hS,hE,h1,fun J H1 μ1 e1 s1 it p hp=>?_⟩
 have hpn:=s1.notMem hp
 refine⟨fun i n σ' H'=>n=xs.length - i/\i<=xs.length/\∃ (cs:List Addr) (S':ac) (env':bn) (vs:List V) (zs rest:List D),ExtP μ1 H1 ⟨cs,p::μ1.fb⟩ H'/\SOk K ⟨cs,p::μ1.fb⟩ S' H'/\EOk K ⟨cs,p::μ1.fb⟩ H' σ' env'/\H' p=some (.lst vs) /\
   Reps K ⟨cs,p::μ1.fb⟩ H' vs zs/\dk g t e (xs.drop i) env' S'=some (rest,S2)/\ys=zs++rest/\vs.length<=i,⟨xs.length,by simp,Nat.zero_le _,μ1.cs,S1,uD cap env,[],[],ys,?_,s1.more hp,?_,bw,.nil,by rw [List.drop_zero];exact h2,rfl,Nat.le_refl _⟩,?_⟩
 ·exact⟨⟨[p],rfl,fun a z=>by rw [List.mem_singleton.mp z];exact hp⟩,⟨[],by simp,fun _ z=>by simp at z⟩,fun a o' n h=>by rw [bm (cw h hp)];exact h,fun a ha=>by
   by_cases z:a=p
   ·subst z;rw [bw];simp
   ·rw [bm z];exact s1.dom a ha⟩
 ·exact((hE.mono e1).block cap).more hp
 rintro i n σ' H' ⟨rfl,hi,cs,S',env',vs,zs,rest,eP,s',r',hpv,rz,hl,rfl,hvl⟩
 have iti:=it _ H' S' eP s' i
 by_cases hlt:i<xs.length
 ·refine .inr ⟨(iti.1 xs[i] (List.getElem?_eq_getElem hlt)).1,fun x H2 y=>?_⟩
  obtain⟨e2,s2,rx⟩:=(iti.1 xs[i] (List.getElem?_eq_getElem hlt)).2 x H2 y
  rw [List.drop_eq_getElem_cons hlt] at hl
  obtain⟨⟨env3,S3⟩,h3,hl⟩:=Option.bind_eq_some_iff.mp hl
  obtain⟨⟨b,S4⟩,h4,hl⟩:=Option.bind_eq_some_iff.mp hl
  refine⟨_,S',env',xs[i],env3,S3,s2,r'.mono e2,rx,h3,fun σ3 H3 μ3 e3 s3 r3=>⟨μ3,S3,env3,b,S4,s3,r3,h4,fun H4 μ4 e4 s4=>?_⟩⟩
  have eA:=(e2.trans e3).trans e4
  have pcs:p ∉ cs:=fun z=>s'.disj p List.mem_cons_self z
  cases b with
  | false=>
   rw [if_neg Bool.false_ne_true] at hl
   dsimp only
   rw [if_neg Bool.false_ne_true]
   obtain⟨cs4,fb4⟩:=μ4
   have hfb:fb4=p::μ1.fb:=eA.fb
   subst hfb
   exact⟨xs.length - (i+1),by omega,rfl,hlt,cs4,S4,env3,vs,zs,rest,eP.then eA,s4,r3.mono e4,(eA.keeps hpv pcs).1,rz.mono eA,hl,rfl,by omega⟩
  | true=>
   rw [if_pos rfl] at hl
   dsimp only
   rw [if_pos rfl]
   obtain⟨⟨dv,S5⟩,h5,hl⟩:=Option.bind_eq_some_iff.mp hl
   obtain⟨⟨rs,S6⟩,h6,hl⟩:=Option.bind_eq_some_iff.mp hl
   cases hl
   refine⟨μ4,S4,env3,dv,S5,s4,r3.mono e4,h5,fun v H5 μ5 e5 s5 r5=>?_⟩
   have eB:=eA.trans e5
   obtain⟨cs5,fb5⟩:=μ5
   have hfb:fb5=p::μ1.fb:=eB.fb
   subst hfb
   refine⟨vs,(eB.keeps hpv pcs).1,by omega,xs.length - (i+1),by omega,rfl,hlt,cs5,S5,env3,vs++[v],zs++[dv],rs,(eP.then eB).chg hp,s5.chg List.mem_cons_self,((r3.mono e4).mono e5).chg List.mem_cons_self,bw,Reps.chg List.mem_cons_self ((rz.mono eB).append (.cons r5 .nil)),h6,by simp,by rw [List.length_append,List.length_singleton];omega⟩
 ·have e:i=xs.length:=by omega
  subst e
  refine .inl ⟨iti.2 (Nat.le_refl _),?_⟩
  rw [List.drop_length] at hl
  cases hl
  have eF:Ext μ1 H1 ⟨cs,μ1.fb⟩ H':=⟨rfl,eP.pre,eP.keep,eP.dom⟩
  dsimp only at post
  rw [List.append_nil] at post
  exact post _ H' ⟨cs,μ1.fb⟩ (e1.trans eF) s'.less (.lst hpv ⟨fun z=>s'.disj p List.mem_cons_self z,hpn.2⟩ rz.less)
theorem OY{elt:Expr}{ifs:List Expr}{scope:Scope}{N':List Str}{cap:List (Option Nat)}{mi:MA}{g:MG}{t:MT}{me:ME}
  (hc:X.calm=true) (B:BlockOk X N' scope cap) (hi:DI X tg iter mi) (hg:∀ C s H fp,DG (pG X N' scope C s H fp) tg g) (ht:∀ C s H fp,Qt (pG X N' scope C s H fp) ifs t) (he:∀ C s H fp,DE (pG X N' scope C s H fp) elt me)
  (hs:∀ x,foldedSetIterable iter X.env x=pure x:=by intro _;rfl):DE X (.ListComp elt [⟨tg,iter,ifs,0⟩] scope pos) (bJ mi g t me cap):=
 PE.imp (Nr (g:=tMG X.K g) (tt:=Ic X.K t) (te:=tM X.K me) hc B hi hg ht he hs) fun _ _ _ h=>zt h
theorem Dz{elt:Expr}{ifs:List Expr}{scope:Scope}{spos py:Pos}{N':List Str}{cap:List (Option Nat)}{mi:MA}{g:MG}{t:MT}{me:ME}{y:Str}{i:Nat}
  (hN:X.N.Nodup) (hy:X.N[i]?=some y) (hx:Mt X.env.scope y)
  (hc:X.calm=true) (B:BlockOk X N' scope cap) (hi:DI X tg iter mi) (hg:∀ C s H fp,DG (pG X N' scope C s H fp) tg g) (ht:∀ C s H fp,Qt (pG X N' scope C s H fp) ifs t) (he:∀ C s H fp,DE (pG X N' scope C s H fp) elt me)
  (hsw:swapsWith (.ListComp elt [⟨tg,iter,ifs,0⟩] scope pos) (some (.Name y py)) spos.line X.env=pure true:=by rfl)
  (hs:∀ x,foldedSetIterable iter X.env x=pure x:=by intro _;rfl) (hf:X.fn y=true\/X.env.scope.names.lookup y=some .local:=by first | exact .inl rfl | exact .inr rfl | assumption) :
  DS X (.Assign [.Name y py] (.ListComp elt [⟨tg,iter,ifs,0⟩] scope pos) spos) (aG (bJ mi g t me cap) (ah i)):=
 PS.imp (Cd (g:=tMG X.K g) (tt:=Ic X.K t) (te:=tM X.K me) hN hy hx hc B hi hg ht he hsw hs hf) fun E σ H h=>by
  obtain⟨μ,S,env,o,hS,hE,hm,post⟩:=h
  obtain⟨⟨d,S1⟩,h1,hm⟩:=Option.bind_eq_some_iff.mp hm
  cases hm
  exact zt ⟨μ,S,env,d,S1,hS,hE,h1,fun v H1 μ1 e1 s1 r1=>post _ H1 μ1 e1 s1 ((hE.mono e1).set r1 i)⟩
end
end M
namespace M
open PySem PySem.Spec PyProof.Rows L2
section
variable{X:Cx}{K:PySem.W.Frag}{μ μ':Fp}{H H':Hp}{S:ac}{pos p2:Pos}{tg iter:Expr}{m:ME}
noncomputable def vA(N N':List Str)(kX kB:Str->Option NameKind):List (Option Nat)->List Str->Bool
 | [],[]=>true
 | none::r,_::s=>vA N N' kX kB r s
 | some i::r,y::s=>N[i]? == some y&&(kX y == some .cell||kX y == some .free)&&(kB y == some .cell||kB y == some .free)&&vA N N' kX kB r s
 | _,_=>false
theorem yT{N N':List Str}{kX kB:Str->Option NameKind}:∀ {cap:List (Option Nat)} {ys:List Str},vA N N' kX kB cap ys=true->cap.length=ys.length/\∀ (j i:Nat),cap[j]?=some (some i)->∃ y,ys[j]?=some y/\N[i]?=some y/\(kX y=some .cell\/kX y=some .free)/\(kB y=some .cell\/kB y=some .free)
 | [],[],_=>⟨rfl,fun j i e=>by simp at e⟩
 | none::r,y::s,h=>by
  obtain⟨h1,h2⟩:=yT (cap:=r) (ys:=s) h
  refine⟨by simp [h1],fun j i e=>?_⟩
  cases j with
  | zero=>simp at e
  | succ j=>simpa using h2 j i (by simpa using e)
 | some k::r,y::s,h=>by
  rw [vA,Bool.and_eq_true,Bool.and_eq_true,Bool.and_eq_true,Bool.or_eq_true,Bool.or_eq_true] at h
  obtain⟨h1,h2⟩:=yT (cap:=r) (ys:=s) h.2
  refine⟨by simp [h1],fun j i e=>?_⟩
  cases j with
  | zero=>
   simp at e;subst e
   refine⟨y,rfl,by simpa using h.1.1.1,?_,?_⟩
   ·exact h.1.1.2.imp (fun z=>by simpa using z) fun z=>by simpa using z
   ·exact h.1.2.imp (fun z=>by simpa using z) fun z=>by simpa using z
  | succ j=>simpa using h2 j i (by simpa using e)
 | [],_::_,h=>by simp [vA] at h
 | none::_,[],h=>by simp [vA] at h
 | some _::_,[],h=>by simp [vA] at h
theorem blk{N':List Str}{scope:Scope}{cap:List (Option Nat)}(nd:N'.Nodup)(k:scope.kind=.function:=by rfl)(nc:(scope.names.all fun x=>x.2 != .cell)=true:=by rfl)(nm:(scope.names.all fun x=>x.2 != .local||scope.names.lookup x.1 == some .local)=true:=by rfl)
  (fr:(scope.names.all fun x=>x.2 != .free||X.env.kindOf x.1 == some .cell||X.env.kindOf x.1 == some .free)=true:=by rfl)
  (cp:vA X.N N' X.env.kindOf (fun y=>(relabel scope X.env).names.lookup y) cap N'=true:=by rfl):BlockOk X N' scope cap:=by
 obtain⟨h1,h2⟩:=yT cp
 refine⟨k,fun x hx=>?_,fun x hx hl=>?_,fun x hx hf=>?_,nd,h1,fun j i e=>?_⟩
 ·have:=List.all_eq_true.mp nc x hx
  simpa using this
 ·have:=List.all_eq_true.mp nm x hx
  simpa [hl] using this
 ·have:=List.all_eq_true.mp fr x hx
  simpa [hf] using this
 ·obtain⟨y,a,b,c,d⟩:=h2 j i e
  exact⟨y,a,b,.inr c,c,d⟩
theorem QX{l:Expr}{tl:TE}(hl:PE X l tl):PI X tg l (fun σ H R=>tl σ H fun x H1=>∃ a,x=.ref a/\(((∃ xs,on X.K H1 a xs)/\R (Itl X.K a) H1)\/((∃ xs,lQ X.K H1 a xs)/\R (Itt X.K a) H1))):=by
 intro pins s σ H R I h
 refine db (hl pins s σ H _ I h) fun v s1 ⟨x,H1,I1,r1,q1⟩=>?_
 obtain⟨a,e,⟨⟨xs,hq⟩,q⟩ | ⟨⟨xs,hq⟩,q⟩⟩:=q1
 ·subst e
  cases r1
  obtain⟨its,rv,p,hz⟩:=I1.list hq
  refine wpAny_pyIter_list p.isList ?_
  refine⟨s1.heap.objs.size,[s1.heap.objs.size],_,_,H1,rfl,I1.kept (t':=s1.toks) fun b o e=>Heap.get?_push_of_some _ e,vG a _,⟨_,Heap.get?_push_size _ rfl,rfl,rfl⟩,fun b hb=>?_,q⟩
  have e:b=s1.heap.objs.size:=by simpa using hb
  subst e
  exact I1.fpOk (Nat.le_refl _) (I1.hok.fresh (Nat.le_refl _))
 ·subst e
  cases r1
  obtain⟨its,rv,p,hz⟩:=I1.tuple hq
  refine wpAny_pyIter_tuple (show s1.heap.IsTuple a its.toArray from p) ?_
  refine⟨s1.heap.objs.size,[s1.heap.objs.size],_,_,H1,rfl,I1.kept (t':=s1.toks) fun b o e=>Heap.get?_push_of_some _ e,BH a _,⟨_,Heap.get?_push_size _ rfl,rfl,rfl⟩,fun b hb=>?_,q⟩
  have e:b=s1.heap.objs.size:=by simpa using hb
  subst e
  exact I1.fpOk (Nat.le_refl _) (I1.hok.fresh (Nat.le_refl _))
noncomputable def da(m:ME):MA:=fun env S=>(m env S).bind fun p=>match p.1 with | .lst xs=>some (xs,p.2) | .rol xs=>some (xs,p.2) | .tup xs=>some (xs,p.2) | _=>none
theorem DM(h:DE X iter m):DI X tg iter (da m):=PI.imp (QX h) fun σ H R ⟨μ,S,env,xs,S',hS,hE,hm,post⟩=>by
 obtain⟨⟨d,S1⟩,h1,hm⟩:=Option.bind_eq_some_iff.mp hm
 refine⟨μ,S,env,d,S1,hS,hE,h1,fun v H1 μ1 e1 s1 r1=>?_⟩
 cases d with
 | lst ys=>
  cases hm
  have r1':=r1
  obtain⟨a,vs,rfl,q,_,rs⟩:=r1.sqL
  exact⟨a,rfl,.inl ⟨⟨vs,.inl (.inl q)⟩,post _ H1 μ1 e1 s1 (wy (.inl rfl) r1' rfl)⟩⟩
 | rol ys=>
  cases hm
  have r1':=r1
  obtain⟨a,vs,rfl,q,rs⟩:=r1.sqR
  exact⟨a,rfl,.inl ⟨⟨vs,q⟩,post _ H1 μ1 e1 s1 (wy (.inr rfl) r1' rfl)⟩⟩
 | tup ys=>
  cases hm
  have r1':=r1
  obtain⟨a,vs,rfl,q,rs⟩:=r1.sqT
  exact⟨a,rfl,.inr ⟨⟨vs,q⟩,post _ H1 μ1 e1 s1 (Ku r1')⟩⟩
 | _=>cases hm
end
noncomputable def aP(N:List Str)(m:MS)(n:Nat):List D->ac->Option (D×ac):=fun ds S=>if ds.length=n then (m (aA N ds) S).bind fun o=>match o with | .rt d S'=>some (d,S') | .nx _ S'=>some (.non,S') | _=>none else none
theorem vN{N:List Str}{m:MS}{n:Nat}{ds:List D}{S S':ac}{d:D}(h:aP N m n ds S=some (d,S')):Runs m (aA N ds) S d S':=by
 unfold aP at h
 split at h
 ·obtain⟨o,h1,h⟩:=Option.bind_eq_some_iff.mp h
  cases o with
  | rt d' S2=>cases h;exact .ret h1
  | nx e S2=>cases h;exact⟨_,[],h1,.inl rfl,.inr ⟨rfl,e,by rw [List.append_nil]⟩⟩
  | bk _ _=>cases h
  | ct _ _=>cases h
 ·cases h
structure bK(K:PySem.W.Frag)(mg:Str->Option Value)(x:Str)(st:Stmt):Prop where
 ex:∃ (a:Addr) (fd:FuncData),L2.Fun K x x st a fd/\mg x=some (.ref a)
def zi(x:Str)(st:Stmt)(ps:List Str):Prop:=∀ (kV doc pm:Value) (an:Option Addr) (cdv ct:Value) (us:List Value),us.length=ps.length->bindArgs (PySem.W.fnOf x x (iL st) (aI st) (ay st) .none kV doc pm an cdv ct) ⟨us,[]⟩=pure (ps.zip us)
theorem Tf{P:Program}{w:World}{K:PySem.W.Frag}{mg:Str->Option Value}{base:Heap}{k:Nat}{x:Str}{st:Stmt}{N ps:List Str}{m:MS}
  (F:bK K mg x st) (Sc:aT N ps (ay st)) (hb:zi x st ps)
  (hbody:∀ (a:Addr) (cdv:Value) (A:Around) (outer:List PySem.Env) (s:Shared) (H:Hp) (E:XK),Room k (A.deeper (envOfC x (ay st) s.heap.objs.size a cdv)) ->
   vD (vz FD P w K mg base N x (ay st) a cdv A outer s H E).nox (aI st) m) :
  Fn P w K mg base (k+1) x ps.length (aP N m ps.length):=by
 obtain⟨a,fd,F,hmg⟩:=F.ex
 exact Qc F Sc hmg (F.binds hb) fun cdv A outer s H E hr=>⟨m,hbody a cdv A outer s H E hr,fun ds S d S' hn hS hd h=>vN h⟩
theorem Fn.up{P:Program}{w:World}{K:PySem.W.Frag}{mg:Str->Option Value}{base:Heap}{k k':Nat}{x:Str}{n:Nat}{f:List D->ac->Option (D×ac)}(F:Fn P w K mg base k x n f)(h:k<=k'):Fn P w K mg base k' x n f:=by
 obtain⟨a,fd,ps,h1,h2,h3⟩:=F.ex
 exact⟨a,fd,ps,h1,h2.mono h,h3⟩
theorem RN{K:PySem.W.Frag}{f:List D->ac->Option (D×ac)}(h:∀ ns:List Int,ns.length<=63->∃ S',f [.rol (ns.map .int)] []=some (.bl true,S')){H:Hp}{a:Addr}{ns:List Int}{E:XK}(hl:ns.length<=63)(hS:on K H a (ns.map V.int)) :
  IN K 1 f [.ref a] H (fun v _=>v=.bl true) E:=by
 obtain⟨S',hf⟩:=h ns hl
 have hr:∀ l:List Int,Reps K ⟨[],[]⟩ H (l.map V.int) (l.map D.int):=fun l=>by
  induction l with
  | nil=>exact .nil
  | cons x l ih=>exact .cons (.int x) ih
 refine⟨⟨[],[]⟩,[],_,_,S',⟨List.nodup_nil,rfl,fun r a c h=>by simp at h,fun a h=>by simp at h,fun a h=>by simp at h⟩,.cons ?_ .nil,rfl,hf,fun v H' μ' e s r=>r.bl_inv⟩
 rcases hS with hS | hS
 ·exact .rol hS ⟨by simp,by simp⟩ (hr ns)
 ·exact .krol hS (hr ns)
end M
namespace M
open PySem PySem.Spec PyProof.Rows L2
noncomputable def SF(_:ac)(x:D):Option D:=match x with | .int i=>some (.int (-i)) | _=>none
theorem Mw{X:Cx}:UnR X (unaryOp .USub) (rM1 X.K SF):=QA
noncomputable def bX:MT:=fun _ S=>some (true,S)
theorem Lu{X:Cx}:Qt X [] bX:=OF
theorem RO{P:Program}{w:World}{K:PySem.W.Frag}{mg:Str->Option Value}{k:Nat}{st:Stmt}{N:List Str}{m:MS}{fa:Addr}(F:bK K mg "law" st)(hfa:mg "law" = some (.ref fa))(Sc:aT N ["_law_script"] (ay st))
  (hbt:∀ (kV doc pm:Value) (an:Option Addr) (cdv ct v:Value),bindArgs (PySem.W.fnOf "law" "law" (iL st) (aI st) (ay st) .none kV doc pm an cdv ct) ⟨[v],[]⟩=pure [(("_law_script":Str),v)])
  (hbody:∀ (base:Heap) (a:Addr) (cdv:Value) (A:Around) (outer:List PySem.Env) (s:Shared) (H:Hp) (E:XK),Room k (A.deeper (envOfC "law" (ay st) s.heap.objs.size a cdv)) ->
   vD (vz FD P w K mg base N "law" (ay st) a cdv A outer s H E).nox (aI st) m) :
  ∃ fd:FuncData,(∀ (s:Shared) (v:Value),BindsTo s fd ⟨[v],[]⟩ [("_law_script",v)])/\∀ base:Heap,K.In base->base.Ns mainGlobals mg->FnOk P w K mg base FD (k+1) fa fd ["_law_script"] (IN K 1 (aP N m 1)):=by
 obtain⟨a,fd,F,hmg⟩:=F.ex
 rw [hfa] at hmg
 have e:fa=a:=by cases hmg;rfl
 subst e
 refine⟨fd,fun s v=>?_,fun base _ _=>Qb F Sc fun cdv A outer s H E hr=>⟨m,hbody base fa cdv A outer s H E hr,fun ds S d S' hn hS hd h=>vN h⟩⟩
 obtain⟨oc,od,kV,doc,pm,an,cdv,ct,osl,rfl,lk,hcd⟩:=F.ex
 exact .of_eq (hbt kV doc pm an cdv ct v)
end M
namespace HT
open PySem PyProof.Rows
open AutoSeq1 (wpAny_loadPart')
theorem Cr:fillsNumberSlot (.type "tuple") "mul" = pure false:=
 PySem.fillsNumberSlot_seq (id:="tuple.__mul__") (r:=some (.builtin "tuple.__rmul__"))
  F.slot_tuple_mul.lookup (by decide +kernel) F.slot_tuple_rmul.lookup (by decide +kernel)
theorem QO:seqRepeat? (.type "tuple")=pure (some (.builtin "tuple.__mul__")):=by
 unfold seqRepeat?
 rw [PySem.seqSlot_of (T:="tuple") (name:="__mul__") (id:="tuple.__mul__") F.slot_tuple_mul.lookup (by decide +kernel)]
 rw [PySem.seqSlot_of (T:="tuple") (name:="__rmul__") (id:="tuple.__rmul__") F.slot_tuple_rmul.lookup (by decide +kernel)]
 rfl
theorem IZ(a:Int)(t:Tok)(l:Addr)(items:Array Value)(n:Nat)(dd:Option Addr)(sl:Array (Option Value)) :
  Meets (Builtin.«int.__rmul__» ⟨[.int a t,.ref l],[]⟩) (fun _ R s=>s.heap.get? l=some ⟨.type "tuple",dd,.seq items n,sl⟩/\R (.ok (.ret Value.notImplemented)) s):=
 .of_wp fun prog w A R s h=>by
  obtain⟨hp,g,d,tk,os⟩:=s
  obtain⟨hl,h⟩:=h
  wp_walk
  exact⟨_,rfl,h⟩
theorem mulT0(l:Addr)(items:Array Value)(n:Nat)(k:Int)(t:Tok)(dd:Option Addr)(sl:Array (Option Value))(h1:¬ (decide (k < -(2 ^ 63))||decide (k≥2 ^ 63))=true)(hc:(items.isEmpty||k == 1)=true) :
  Meets (Builtin.«tuple.__mul__» ⟨[.ref l,.int k t],[]⟩) (fun _ R s=>s.heap.get? l=some ⟨.type "tuple",dd,.seq items n,sl⟩/\R (.ok (.ret (.ref l))) s):=
 .of_wp fun prog w A R s h=>by
  obtain⟨hp,g,d,tk,os⟩:=s
  obtain⟨hl,h⟩:=h
  have f1:=AutoSeq1.idx_int
  have f2:=AutoSeq1.sub_tuple_tuple
  wp_walk using wpAny_loadPart' hl
  rw [if_neg h1]
  wp_walk using wpAny_loadPart' hl
  exact⟨_,rfl,h⟩
theorem mulT1(l:Addr)(items:Array Value)(n:Nat)(k:Int)(t:Tok)(dd:Option Addr)(sl:Array (Option Value))(h1:¬ (decide (k < -(2 ^ 63))||decide (k≥2 ^ 63))=true)(hc:¬ (items.isEmpty||k == 1)=true)(hk:(decide (k<=0)||items.isEmpty)=true) :
  Meets (Builtin.«tuple.__mul__» ⟨[.ref l,.int k t],[]⟩) (fun _ R s=>s.heap.get? l=some ⟨.type "tuple",dd,.seq items n,sl⟩/\R (.ok (.ret (.ref s.heap.objs.size))) { s with heap:=s.heap.push { cls:=.type "tuple",data:=.seq #[] },toks:=s.toks }):=
 .of_wp fun prog w A R s h=>by
  obtain⟨hp,g,d,tk,os⟩:=s
  obtain⟨hl,h⟩:=h
  have f1:=AutoSeq1.idx_int
  have f2:=AutoSeq1.sub_tuple_tuple
  wp_walk using wpAny_loadPart' hl
  rw [if_neg h1]
  wp_walk using wpAny_loadPart' hl
  exact⟨_,rfl,h⟩
theorem mulT2(l:Addr)(items:Array Value)(n:Nat)(k:Int)(t:Tok)(dd:Option Addr)(sl:Array (Option Value))(h1:¬ (decide (k < -(2 ^ 63))||decide (k≥2 ^ 63))=true)(hc:¬ (items.isEmpty||k == 1)=true)(hk:¬ (decide (k<=0)||items.isEmpty)=true)
  (hb:¬ ((items.size:Int) * k>(2 ^ 63 - 1) / 8)) (hm:¬ Builtin.Tuple.tupleTooMany ((items.size:Int) * k)=true) (hz:(List.foldl (fun x1 x2=>x1++x2) #[] (List.replicate k.toNat items)).size<=sizeLine) :
  Meets (Builtin.«tuple.__mul__» ⟨[.ref l,.int k t],[]⟩) (fun _ R s=>s.heap.get? l=some ⟨.type "tuple",dd,.seq items n,sl⟩/\R (.ok (.ret (.ref s.heap.objs.size))) { s with heap:=s.heap.push { cls:=.type "tuple",data:=.seq (List.foldl (fun x1 x2=>x1++x2) #[] (List.replicate k.toNat items)) },toks:=s.toks }):=
 .of_wp fun prog w A R s h=>by
  obtain⟨hp,g,d,tk,os⟩:=s
  obtain⟨hl,h⟩:=h
  have f1:=AutoSeq1.idx_int
  have f2:=AutoSeq1.sub_tuple_tuple
  wp_walk using wpAny_loadPart' hl
  rw [if_neg h1]
  wp_walk using wpAny_loadPart' hl
  rw [if_neg hb]
  wp_walk using wpAny_loadPart' hl
  exact⟨_,rfl,h⟩
end HT
namespace L2
open PySem PySem.Spec PyProof.Rows
section
variable{X:Cx}
theorem vrep{xs:List V}{us:List Value}(h:Vals xs us):∀ k:Nat,Vals (List.replicate k xs).flatten (List.replicate k us).flatten
 | 0=>.nil
 | k+1=>by rw [List.replicate_succ,List.replicate_succ,List.flatten_cons,List.flatten_cons];exact h.append (vrep h k)
theorem frep(its:List Value):∀ (m:Nat) (acc:List Value),List.foldl (fun x1 x2=>x1++x2) acc.toArray (List.replicate m its.toArray)=(acc++(List.replicate m its).flatten).toArray
 | 0,acc=>by simp
 | m+1,acc=>by
  rw [List.replicate_succ,List.foldl_cons,List.append_toArray,frep its m (acc++its),List.replicate_succ,List.flatten_cons,List.append_assoc]
noncomputable def rRepT(K:PySem.W.Frag):R2:=fun x y H Q=>∃ a k xs,x=.ref a/\y=.int k/\lQ K H a xs/\-(2 ^ 62)<=k/\k<2 ^ 62/\xs.length * k.toNat<=sizeLine /\
 ((xs=[]\/k=1)->Q (.ref a) H)/\((xs≠[]/\k≠1)->∀ p,H p=none->Q (.ref p) (upd H p (.tup (List.replicate k.toNat xs).flatten)))
theorem NB:OpR X (binaryOp .Mult) (rRepT X.K):=by
 intro pins s σ H x y v u Q I rx ry h
 obtain⟨l,k,xs,rfl,rfl,hq,h1,h2,hz,q1,q2⟩:=h
 cases rx
 obtain⟨t,rfl⟩:=ry
 obtain⟨its,r,hT,hzz⟩:=I.tuple hq
 obtain⟨⟨cls,dd,data,sl⟩,e,hc,n,hd⟩:=id hT
 simp only at hc hd
 subst hc hd
 have hlen:xs.length=its.length:=r.length
 have g1:¬ (decide (k < -(2 ^ 63))||decide (k≥2 ^ 63))=true:=by simp;omega
 have road:∀ {S:PySem.Spec},Meets (Builtin.«tuple.__mul__» ⟨[.ref l,.int k t],[]⟩) S->S X.A (wants (EP X pins σ Q) X.xe) s->wpAny (model X.prog X.w) X.A (binaryOp .Mult (.ref l) (.int k t)) (EP X pins σ Q) X.xe s:=fun M hS=>
  wpAny_binaryOp_repeat_ref (T:="tuple") (U:="int") (by decide) ⟨_,e,rfl⟩ (fun s'=>typeIs_int s' k t) HT.Cr F.fills_int_mul F.slot_int_rmul HT.QO F.slot_int_index.lookup
   (call_meets F.slot_int_rmul (typeIs_int s k t) F.entry_int_rmul (F.args_int_rmul_2 _ _) (HT.IZ k t l its.toArray n dd sl)
    ⟨e,rfl,⟨_,e,rfl⟩,call_meets F.slot_tuple_mul ⟨_,e,rfl⟩ F.entry_tuple_mul (F.args_tuple_mul_2 _ _) M hS⟩)
 by_cases hs:xs=[]\/k=1
 ·have hcc:(its.toArray.isEmpty||k == 1)=true:=by
   rcases hs with rfl | rfl
   ·cases r;rfl
   ·simp
  exact road (HT.mulT0 l its.toArray n k t dd sl g1 hcc) ⟨e,.ref l,H,I,rfl,q1 hs⟩
 ·have hx:xs≠[]:=fun z=>hs (.inl z)
  have hk1:k≠1:=fun z=>hs (.inr z)
  have hi:its≠[]:=fun z=>by subst z;cases r;exact hx rfl
  have hcc:¬ (its.toArray.isEmpty||k == 1)=true:=by simp [hi,hk1]
  by_cases hk:k<=0
  ·have hk':(decide (k<=0)||its.toArray.isEmpty)=true:=by simp [hk]
   have k0:k.toNat=0:=by omega
   refine road (HT.mulT1 l its.toArray n k t dd sl g1 hcc hk') ⟨e,.ref _,_,I.laid (o:=.tup []) (fun _ _ q=>Heap.get?_push_of_some _ q) (Nat.le_refl _) ⟨by simp,[],.nil,⟨_,Heap.get?_push_size _ rfl,rfl,⟨0,rfl⟩,rfl⟩⟩,rfl,?_⟩
   have:=q2 ⟨hx,hk1⟩ s.heap.objs.size I.fresh
   rw [k0] at this
   exact this
  ·have hk':¬ (decide (k<=0)||its.toArray.isEmpty)=true:=by simp [hi];omega
   have km:(k.toNat:Int)=k:=by omega
   have hpr:((its.length:Int) * k)<=sizeLine:=by rw [<- km,<- hlen];exact_mod_cast hz
   have hsl:((sizeLine:Nat):Int)<=(2 ^ 63 - 1) / 8:=by decide
   have hf:=frep its k.toNat []
   rw [List.nil_append] at hf
   have hf':List.foldl (fun x1 x2=>x1++x2) #[] (List.replicate k.toNat its.toArray)=(List.replicate k.toNat its).flatten.toArray:=hf
   have hl2:(List.replicate k.toNat its).flatten.length<=sizeLine:=by rw [yp,<- hlen,Nat.mul_comm];exact hz
   refine road (HT.mulT2 l its.toArray n k t dd sl g1 hcc hk' (by rw [List.size_toArray];omega) (by unfold Builtin.Tuple.tupleTooMany;rw [List.size_toArray];simp;omega) (by rw [hf',List.size_toArray];exact hl2)) ⟨e,?_⟩
   rw [hf']
   exact⟨.ref _,_,I.laid (o:=.tup (List.replicate k.toNat xs).flatten) (fun _ _ q=>Heap.get?_push_of_some _ q) (Nat.le_refl _) ⟨by rw [yp,Nat.mul_comm];exact hz,(List.replicate k.toNat its).flatten,vrep r _,⟨_,Heap.get?_push_size _ rfl,rfl,⟨0,rfl⟩,rfl⟩⟩,rfl,q2 ⟨hx,hk1⟩ _ I.fresh⟩
end
end L2
namespace L2
open PySem PySem.Spec PyProof.Rows
section
variable{X:Cx}
def Sq(n:Nat)(i:Int):Nat:=if i<0 then (i+(n:Int)).toNat else min i.toNat n
noncomputable def jZ{α:Type}(xs:List α)(i:Int)(y:α):List α:=xs.take (Sq xs.length i)++y::xs.drop (Sq xs.length i)
def MV:V->List V->Hp->VK->Prop:=fun x vs H Q=>∃ l xs i y,x=.ref l/\vs=[.int i,y]/\H l=some (.lst xs)/\xs.length<sizeLine/\-(2 ^ 62)<=i/\i<2 ^ 62/\Q .non (upd H l (.lst (jZ xs i y)))
theorem Gn:MtM X "list.insert" MV:=by
 intro pins s σ H x vs v us Q I rx rv h
 obtain⟨l,xs,i,y,rfl,rfl,hH,hz,h1,h2,q⟩:=h
 cases rx
 obtain⟨u1,u,rfl,⟨t,rfl⟩,ru⟩:=rv.two
 obtain⟨z,its,n,r,hl,e⟩:=I.lstM hH
 have hfit:¬ (!Builtin.List.listFitsIndex i)=true:=by
  rw [fitsIndex_both (by omega) (by omega)];exact Bool.false_ne_true
 refine call_meets F.slot_list_insert ⟨_,e,rfl⟩ F.entry_list_insert (F.args_list_insert_3 _ _ _) (AutoListH.list_insert_list_int_val_1 l its.toArray n i t u hfit (by rw [List.size_toArray];omega)) ⟨e,?_⟩
 refine⟨.non,_,I.lset (its':=jZ its i u) hH e ?_ (ys:=jZ xs i y) ?_ ?_,rfl,q⟩
 ·unfold jZ Sq
  simp
  rw [List.take_of_length_le (by rw [List.length_drop];exact Nat.le_refl _)]
 ·unfold jZ
  rw [hl]
  exact(r.take _).append (.cons ru (r.drop _))
 ·unfold jZ
  rw [List.length_append,List.length_cons,List.length_take,List.length_drop]
  omega
end
end L2
namespace M
open PySem PySem.Spec PyProof.Rows L2
section
variable{X:Cx}{K:PySem.W.Frag}{μ μ':Fp}{H H':Hp}{S:ac}
noncomputable def cB(S:ac)(x y:D):Option D:=match x,y with
 | .tup xs,.int k=>if -(2 ^ 62)<=k/\k<2 ^ 62/\xs.length * k.toNat<=sizeLine then some (.tup (List.replicate k.toNat xs).flatten) else none
 | .lst xs,.int k=>if -(2 ^ 62)<=k/\k<2 ^ 62/\xs.length * k.toNat<=sizeLine then some (.lst (List.replicate k.toNat xs).flatten) else none
 | x,y=>SH S x y
theorem flat1{α:Type}(xs:List α):(List.replicate 1 xs).flatten=xs:=by simp
theorem NF:OpR X (binaryOp .Mult) (nw X.K cB):=OpR.imp (OpR.or Rx (OpR.or NB Rq)) fun x y H Q ⟨μ,S,dx,dy,dz,hS,h1,h2,h3,post⟩=>by
 unfold cB at h3
 split at h3
 ·rename_i xs k
  split at h3
  ·rename_i hk
   cases h3
   obtain⟨a,vs,rfl,q,r⟩:=h1.sqT
   have h1':=h1
   refine .inr (.inl ⟨a,k,vs,rfl,h2.int_inv,q,hk.1,hk.2.1,by rw [r.length];exact hk.2.2,fun hs=>?_,fun _ p hp=>post.tup hS hp (Reps.flat _ r)⟩)
   have e:(List.replicate k.toNat xs).flatten=xs:=by
    rcases hs with rfl | rfl
    ·cases r;simp
    ·exact flat1 xs
   rw [e] at post
   exact post.here hS h1'
  ·cases h3
 ·rename_i xs k
  split at h3
  ·rename_i hk
   cases h3
   obtain⟨a,vs,rfl,q,n,r⟩:=h1.sqL
   exact .inr (.inr ⟨a,k,vs,rfl,h2.int_inv,q,by omega,by omega,by rw [r.length];exact hk.2.2,fun p hp=>post.lst hS hp (Reps.flat _ r)⟩)
  ·cases h3
 ·exact .inl ⟨μ,S,dx,dy,dz,hS,h1,h2,h3,post⟩
abbrev MF:=D->List D->ac->Option (D×ac)
inductive Ms(K:PySem.W.Frag)(f:MF)(x:V)(vs:List V)(H:Hp)(Q:VK):Prop
 | mk (μ:Fp) (S:ac) (dx:D) (ds:List D) (d:D) (S':ac) (hS:SOk K μ S H) (h1:Rep K μ H x dx) (h2:Reps K μ H vs ds) (h3:f dx ds S=some (d,S')) (post:Post K μ H S' d Q)
theorem MtR.imp{id:String}{r r':V->List V->Hp->VK->Prop}(h:MtR X id r)(i:∀ x xs H Q,r' x xs H Q->r x xs H Q):MtR X id r':=fun pins s σ H x xs v us Q I rx rv q=>h pins s σ H x xs v us Q I rx rv (i x xs H Q q)
noncomputable def cZ:MF:=fun o ds S=>match o,ds with
 | .ref r,[y]=>match S[r]? with | some (.lst xs)=>if xs.length<sizeLine then some (.non,S.set r (.lst (xs++[y]))) else none | _=>none
 | _,_=>none
noncomputable def iK:MF:=fun o ds S=>match o,ds with
 | .ref r,[.int i,y]=>match S[r]? with | some (.lst xs)=>if xs.length<sizeLine/\-(2 ^ 62)<=i/\i<2 ^ 62 then some (.non,S.set r (.lst (jZ xs i y))) else none | _=>none
 | _,_=>none
noncomputable def uu:MF:=fun o ds S=>match ds with
 | [x]=>(gO S o).bind fun ys=>if cK 40 x=true/\ys.all (cK 39)=true then some (.int (ys.countP fun d=>jD d x),S) else none
 | _=>none
theorem Gq:MtR X "list.append" (Ms X.K cZ):=MtR.imp vT fun x vs H Q ⟨μ,S,dx,ds,d,S',hS,r1,r2,h,post⟩=>by
 unfold cZ at h
 split at h
 ·rename_i r y
  obtain⟨v,rfl,rv⟩:=r2.one
  cases q:S[r]? with
  | none=>rw [q] at h;cases h
  | some c=>
   rw [q] at h
   cases c with
   | dct _ _=>cases h
   | lst xs=>
    dsimp only at h
    split at h
    ·rename_i hz
     cases h
     cases r1 with
     | @ref a _ h'=>
      obtain⟨ws,hw,rw'⟩:=hS.cell r a _ h' q
      obtain⟨e,s'⟩:=hS.write h' hw (rw'.append (.cons rv .nil))
      exact⟨a,ws,v,rfl,rfl,hw,by rw [rw'.length];exact hz,post _ _ μ e s' .non⟩
    ·cases h
 ·cases h
theorem Kx{vs:List V}{ds:List D}{v:V}{d:D}{i:Int}(r:Reps K μ H vs ds)(q:Rep K μ H v d):Reps K μ H (jZ vs i v) (jZ ds i d):=by
 unfold jZ;rw [r.length]
 exact(r.take _).append (.cons q (r.drop _))
theorem Go:MtR X "list.insert" (Ms X.K iK):=MtR.imp Gn fun x vs H Q ⟨μ,S,dx,ds,d,S',hS,r1,r2,h,post⟩=>by
 unfold iK at h
 split at h
 ·rename_i r i y
  obtain⟨v,w,rfl,rv,rw0⟩:=r2.two
  cases q:S[r]? with
  | none=>rw [q] at h;cases h
  | some c=>
   rw [q] at h
   cases c with
   | dct _ _=>cases h
   | lst xs=>
    dsimp only at h
    split at h
    ·rename_i hz
     cases h
     cases r1 with
     | @ref a _ h'=>
      obtain⟨ws,hw,rw'⟩:=hS.cell r a _ h' q
      obtain⟨e,s'⟩:=hS.write h' hw (Kx (i:=i) rw' rw0)
      exact⟨a,ws,i,w,rfl,by rw [rv.int_inv],hw,by rw [rw'.length];exact hz.1,hz.2.1,hz.2.2,post _ _ μ e s' .non⟩
    ·cases h
 ·cases h
theorem mM{pins:List (Addr×Obj)}{σ:L2.St}{s:Shared}(I:Inv X pins σ H s){x:D}:∀ {vs:List V} {us:List Value} {ds:List D},Vals vs us->Reps X.K μ H vs ds->(∀ d∈ds,cK 39 d=true) ->
  us.countP (eC X.K μ H x)=ds.countP fun d=>jD d x
 | _,_,_,.nil,.nil,_=>rfl
 | _,_,_,.cons rv tv,.cons r t,ok=>by
  rw [List.countP_cons,List.countP_cons,pz I rv r (ok _ List.mem_cons_self),mM I tv t fun d m=>ok d (List.mem_cons_of_mem _ m)]
noncomputable def rh(S:ac):D->Bool
 | .lst _=>true
 | .rol _=>true
 | .ref r=>match S[r]? with | some (.lst _)=>true | _=>false
 | _=>false
theorem oV{v:V}{d:D}(hS:SOk K μ S H)(r:Rep K μ H v d)(h:rh S d=true):∃ a vs ds,v=.ref a/\on K H a vs/\gO S d=some ds/\Reps K μ H vs ds:=by
 cases r with
 | lst h' n r=>exact⟨_,_,_,rfl,.inl (.inl h'),rfl,r⟩
 | rol h' n r=>exact⟨_,_,_,rfl,.inl h',rfl,r⟩
 | krol h' r=>exact⟨_,_,_,rfl,.inr h',rfl,r⟩
 | @ref a i h'=>
  simp only [rh] at h
  cases q:S[i]? with
  | none=>rw [q] at h;cases h
  | some c=>
   rw [q] at h
   cases c with
   | dct _ _=>cases h
   | lst xs=>
    obtain⟨vs,e,r⟩:=hS.cell i a _ h' q
    exact⟨a,vs,xs,rfl,.inl (.inl e),by simp only [gO,q],r⟩
 | _=>cases h
noncomputable def ng:MF:=fun o ds S=>if rh S o=true then uu o ds S else none
theorem Ac(hu:X.A.units+64<cLine):MtR X "list.count" (Ms X.K ng):=by
 intro pins s σ H x vs v us Q I rx rv h
 obtain⟨μ,S,dx,ds,d,S',hS,r1,r2,h,post⟩:=h
 unfold ng at h
 split at h
 ·rename_i hl
  unfold uu at h
  split at h
  ·rename_i y
   obtain⟨a,ws,es,rfl,hq,hse,re⟩:=oV hS r1 hl
   rw [hse] at h
   dsimp only [Option.bind_some] at h
   split at h
   ·rename_i hk
    cases h
    cases rx
    obtain⟨w,rfl,rw0⟩:=r2.one
    obtain⟨u,rfl,ru⟩:=rv.one
    obtain⟨its,rvs,⟨⟨cls,dd,data,sl⟩,n,e,hc,hdd,hd⟩,hz⟩:=I.list hq
    simp only at hc hdd hd
    subst hc hdd hd
    have ok:=List.all_eq_true.mp hk.2
    refine call_meets F.slot_list_count ⟨_,e,rfl⟩ F.entry_list_count (F.args_list_count_2 _ _) (SeqAt.list_countAt a its.toArray n none sl u (eC X.K μ H y)) ⟨e,fun w' hw'=>?_,?_⟩
    ·exact ga I (by show X.A.units+1+40<cLine;omega) ru rw0 hk.1 rvs re ok w' (by simpa using hw')
    ·refine⟨.int _,H,I.tok _,⟨_,rfl⟩,?_⟩
     rw [mM I rvs re ok]
     exact post.here hS (.int _)
   ·cases h
  ·cases h
 ·cases h
noncomputable def eU(f:MF)(o:ME)(ms:MA):ME:=fun env S=>(o env S).bind fun p=>if rh p.2 p.1=true then (ms env p.2).bind fun q=>f p.1 q.1 q.2 else none
theorem Fu{o e:Expr}{es:List Expr}{mo:ME}{ms:MA}{f:MF}{name:Str}{id:String}{apos cpos:Pos}(slot:Slot "list" name id)(hty:typeOf (.builtin id)=pure (.type "method_descriptor"))(hm:MtR X id (Ms X.K f))(ho:DE X o mo)(ha:DA X (e::es) ms)
  (hbase:attributeBase o name X.env (eval o X.env)=eval o X.env)
  (hfew:((backTo cpos (starEach (e::es) X.env)).all (fun x=>!x.1)&&(backToKw cpos (keywordEach [] X.env)).all (fun x=>x.1.isSome)&&decide ((e::es).length+([]:List Keyword).length+(if ([]:List Keyword).isEmpty then 0 else 1)<30))=true)
  (hline:(apos.endLine == cpos.line)=true) (hs:starEach (e::es) X.env=(false,eval e X.env)::starEach es X.env) (hpl:(backTo cpos (starEach es X.env)).any (·.1)=false) :
  DE X (.Call (.Attribute o name apos) (e::es) [] cpos) (eU f mo ms):=
 PE.imp (pe_bm F.plainAttrs_list slot hty hm ho ha hbase hfew hline hs hpl) fun σ H Q ⟨μ,S,env,d,S',hS,hE,h,post⟩=>by
  obtain⟨⟨x,S1⟩,h1,h⟩:=Option.bind_eq_some_iff.mp h
  dsimp only at h
  split at h
  ·rename_i hl
   obtain⟨⟨xs,S2⟩,h2,h⟩:=Option.bind_eq_some_iff.mp h
   refine⟨μ,S,env,x,S1,hS,hE,h1,fun v H1 μ1 e1 s1 r1=>⟨?_,μ1,S1,env,xs,S2,s1,hE.mono e1,h2,fun vs H2 μ2 e2 s2 r2=>⟨μ2,S2,x,xs,d,S',s2,r1.mono e2,r2,h,(post.ext e1).ext e2⟩⟩⟩
   obtain⟨a,ws,es,rfl,hq,_,_⟩:=oV s1 r1 hl
   exact .inl ⟨rfl,ws,hq⟩
  ·cases h
end
end M
namespace HT
open PySem PyProof.Rows
open AutoSeq1 (wpAny_loadPart')
section
variable{prog:Program}{w:World}{A:Around}{E:Value->Shared->Prop}{s:Shared}
theorem DC{it t:Addr}{i:Nat}{items:Array Value}{x:Value}{Q:Value->Shared->Prop}(hit:s.heap.IsTupleIter it t i)(ht:s.heap.IsTuple t items)(hx:items[i]?=some x)
  (hQ:∀ h',h'.IsTupleIter it t (i+1)->Heap.SameBut it s.heap h'->Q x { s with heap:=h' }):wpAny (model prog w) A (Builtin.SmallTypes.nextOf (.ref it)) Q E s:=by
 obtain⟨o,ho,hc,hd⟩:=id hit;obtain⟨ol,hol,_,nl,hdl⟩:=ht
 unfold Builtin.SmallTypes.nextOf
 refine wpAny_bind (wpAny_callSpecial?_slot (name:=Str.ofString "__next__") hit.typeIs F.slot_tuple_iterator_next (wpAny_call_entry F.slot_tuple_iterator_next hit.typeIs F.entry_tuple_iterator_next ?_ (F.args_tuple_iterator_next_1 _)))
 show wpAny _ _ (field (.ref it) 0 >>= _) _ _ s;refine wpAny_bind (wpAny_field ho hd (x:=.ref t) rfl ?_)
 show wpAny _ _ (if (Value.ref t == Value.none)=true then _ else _) _ _ s;rw [if_neg (show ¬ ((Value.ref t == Value.none)=true) from Bool.false_ne_true)]
 show wpAny _ _ (field (.ref it) 1 >>= _) _ _ s;refine wpAny_bind (wpAny_field ho hd (x:=.int i 0) rfl ?_)
 show wpAny _ _ (seqItems? (.ref t) >>= _) _ _ s;refine wpAny_bind (wpAny_seqItems hol hdl ?_);simp only [Int.toNat_natCast,hx]
 refine wpAny_bind (wpAny_setField ho hd (by simp) (wpAny_pure ⟨x,rfl,wpAny_pure (hQ _ ⟨_,Heap.get?_update_self _ ho (Obj.isFreed_of_fields (Obj.data_mapFields hd _)),(Obj.cls_mapFields ..).trans hc,?_⟩ (Heap.SameBut.update ..))⟩))
 rw [Obj.data_mapFields hd];simp [rawInt]
theorem qk{it t:Addr}{i:Nat}{items:Array Value}{Q:Value->Shared->Prop}(hh:A.handled=none)(hit:s.heap.IsTupleIter it t i)(ht:s.heap.IsTuple t items)(hx:items[i]?=none)
  (hE:∀ h' e,Heap.ExtBut it s.heap h'->(∃ o,h'.get? e=some o/\o.cls=.type "StopIteration")->E (.ref e) { s with heap:=h' }):wpAny (model prog w) A (Builtin.SmallTypes.nextOf (.ref it)) Q E s:=by
 obtain⟨o,ho,hc,hd⟩:=id hit;obtain⟨ol,hol,_,nl,hdl⟩:=ht
 unfold Builtin.SmallTypes.nextOf
 refine wpAny_bind (wpAny_callSpecial?_slot (name:=Str.ofString "__next__") hit.typeIs F.slot_tuple_iterator_next (wpAny_call_entry F.slot_tuple_iterator_next hit.typeIs F.entry_tuple_iterator_next ?_ (F.args_tuple_iterator_next_1 _)))
 show wpAny _ _ (field (.ref it) 0 >>= _) _ _ s;refine wpAny_bind (wpAny_field ho hd (x:=.ref t) rfl ?_)
 show wpAny _ _ (if (Value.ref t == Value.none)=true then _ else _) _ _ s;rw [if_neg (show ¬ ((Value.ref t == Value.none)=true) from Bool.false_ne_true)]
 show wpAny _ _ (field (.ref it) 1 >>= _) _ _ s;refine wpAny_bind (wpAny_field ho hd (x:=.int i 0) rfl ?_)
 show wpAny _ _ (seqItems? (.ref t) >>= _) _ _ s;refine wpAny_bind (wpAny_seqItems hol hdl ?_);simp only [Int.toNat_natCast,hx]
 refine wpAny_bind (wpAny_rule (wpAny_bind (wpAny_setField ho hd (by simp) ?_)));show wpAny _ _ (newExc (.type "StopIteration") [] >>= _) _ _ _
 refine wpAny_bind ?_;simp only [newExc,newTuple];refine wpAny_bind (wpAny_newObj_type ?_ (by size_fits))
 refine wpAny_bind (m:=firstArgMember _ _) (wpAny_of_eq (a:=Value.none) (by first | rfl | (simp only [firstArgMember];rfl)) (wpAny_newObj_type ?_ (by size_fits)))
 simp only [raiseNew];refine wpAny_bind (wpAny_handled ?_);(first | rw [show A.in1.handled=none from hh] | rw [hh])
 refine wpAny_bind (wpAny_pure (wpAny_throw (hE _ _ (((Heap.SameBut.update ..).extBut.push _).push _) ⟨_,Heap.get?_push_size _ rfl,rfl⟩)))
end
theorem uw{prog:Program}{w:World}{A:Around}(hh:A.handled=none)(it t:Addr)(hne:t≠it)(items:Array Value) :
  Draws prog w A it [it,t] items.size (fun i v=>items[i]?=some v) (fun i h=>h.IsTupleIter it t i/\h.IsTuple t items) where
 live:=fun _ _ st=>by obtain⟨o,ho,_⟩:=st.1;exact⟨o,ho⟩
 frame:=fun _ _ _ st hk=>by
  obtain⟨⟨o,ho,r⟩,⟨o2,ho2,r2⟩⟩:=st
  exact⟨⟨o,hk it (by simp) o ho,r⟩,⟨o2,hk t (by simp) o2 ho2,r2⟩⟩
 item:=fun i s Q E hi st hQ=>DC st.1 st.2 (x:=items[i]) (by simp [hi]) fun h' hit' hs'=>hQ _ h' s.toks (by simp [hi]) ⟨hit',st.2.extBut hs'.extBut hne⟩ hs'
 done:=fun s Q E st hE=>qk hh st.1 st.2 (by simp) hE
theorem Hs(l:Addr)(items:Array Value)(n:Nat)(dct:Option Addr)(sl:Array (Option Value)) :
  Meets (Builtin.«enumerate.__new__» ⟨[.type "enumerate",.ref l],[]⟩) (fun _ R s=>s.heap.get? l=some ⟨.type "tuple",dct,.seq items n,sl⟩ /\
   R (.ok (.ret (.ref (s.heap.push { cls:=.type "tuple_iterator",data:=.fields #[.ref l,.int 0 0] }).objs.size)))
    {s with heap:=(s.heap.push { cls:=.type "tuple_iterator",data:=.fields #[.ref l,.int 0 0] }).push { cls:=.type "enumerate",data:=.fields #[.none,.bool false,.ref s.heap.objs.size,rawInt 0,.none,.none] } }):=
 .of_wp fun prog w A R s h=>by
  obtain⟨hp,g,d,tk,os⟩:=s
  obtain⟨hl,h⟩:=h
  have hsub:=sub_enumerate
  have hL:Heap.IsTuple (Shared.heap ⟨hp,g,d,tk,os⟩) l items:=⟨_,hl,rfl,n,rfl⟩
  wp_walk using wpAny_loadPart' hl
  refine wpAny_stack_any fun st=>wpAny_pure ?_
  split
  ·rename_i c _ _ _ _ _
   cases (c == Value.type "enumerate") <;> (wp_walk using wpAny_loadPart' hl,wpAny_pyIter_tuple hL;exact⟨_,rfl,h⟩)
  ·wp_walk using wpAny_loadPart' hl,wpAny_pyIter_tuple hL
   exact⟨_,rfl,h⟩
end HT
namespace HT
open PySem PyProof.Rows
section
variable{prog:Program}{w:World}{A:Around}{E:Value->Shared->Prop}{s:Shared}
theorem DU{l:Addr}{items:Array Value}{Q:Value->Shared->Prop}(hL:s.heap.IsTuple l items)
  (h:∀ h':Heap,IsEnum h' (s.heap.objs.size+1) s.heap.objs.size 0 .none->h'.IsTupleIter s.heap.objs.size l 0->h'.objs.size=s.heap.objs.size+2->(∀ b o,s.heap.get? b=some o->h'.get? b=some o)->Q (.ref (s.heap.objs.size+1)) { s with heap:=h' }) :
  wpAny (model prog w) A (call (.type "enumerate") [.ref l]) Q E s:=by
 obtain⟨⟨c,dct,dt,sl⟩,hl,hc,n,hd⟩:=hL
 simp only at hc hd
 subst hc hd
 refine callType_new F.called_enumerate (by decide) (F.typeCall_enumerate_1 _) (F.newCall_enumerate_1 _) (fun obj=>F.args_object_init_2 obj _) F.entry_enumerate_new (Hs l items n dct sl) ⟨hl,?_⟩
 have hz:(s.heap.push { cls:=.type "tuple_iterator",data:=.fields #[.ref l,.int 0 0] }).objs.size=s.heap.objs.size+1:=Heap.size_push ..
 show _/\_
 rw [hz]
 have he:IsEnum ((s.heap.push { cls:=.type "tuple_iterator",data:=.fields #[.ref l,.int 0 0] }).push { cls:=.type "enumerate",data:=.fields #[.none,.bool false,.ref s.heap.objs.size,rawInt 0,.none,.none] }) (s.heap.objs.size+1) s.heap.objs.size 0 .none:=by
  have q:=Heap.get?_push_size (s.heap.push { cls:=.type "tuple_iterator",data:=.fields #[.ref l,.int 0 0] }) (o:={ cls:=.type "enumerate",data:=.fields #[.none,.bool false,.ref s.heap.objs.size,rawInt 0,.none,.none] }) rfl
  rw [hz] at q
  exact q
 exact⟨⟨_,he,rfl⟩,h _ he ⟨_,Heap.get?_push_of_some _ (Heap.get?_push_size _ rfl),rfl,rfl⟩ (by rw [Heap.size_push,hz]) fun b o x=>Heap.get?_push_of_some _ (Heap.get?_push_of_some _ x)⟩
end
end HT
namespace L2
open PySem PySem.Spec PyProof.Rows
section
variable{X:Cx}{pins:List (Addr×Obj)}{σ:St}{H:Hp}{s:Shared}{h':Heap}
theorem Inv.turnLaid{fp:List Addr}{a:Addr}{o:HO}{t':Nat}(I:Inv X pins σ H s)(k:∀ b o,b ∉ fp->s.heap.get? b=some o->h'.get? b=some o)(hf:∀ b∈fp,qu X pins H b)(hp:s.heap.objs.size<=a)
  (new:ObjOk X.prog X.w (upd H a o) h' a o):Inv X pins σ (upd H a o) { s with heap:=h',toks:=t' }:=by
 have hn:H a=none:=I.hok.fresh hp
 have st:∀ b u,H b=some u->upd H a o b=some u:=fun b u e=>(bm (cw e hn)).trans e
 have nfp:∀ b u,H b=some u->b ∉ fp:=fun b u e z=>by rw [(hf b z).1] at e;cases e
 refine I.step (g':=s.gens) (d':=s.drawn) (ch:=fp) (fun b hb=>?_) (fun b o _ _ hc e _=>k b o hc e) (fun b o _ _ hc e _=>⟨o.slots,k b o hc e⟩) (fun b u _ e n=>?_) (fun b o hc e=>⟨o,k b o hc e⟩) (fun b xs e=>st b _ e) (fun b o u e=>st b _ e) (fun b ps e=>⟨#[],by rw [st b _ e];simp⟩) (fun m hm=>?_) (fun b u e=>?_) I.bare
 ·obtain⟨f0,f1,f2,f3,f4,f5⟩:=hf b hb
  exact⟨f3,f1,f4,f5⟩
 ·rw [bm (Nat.ne_of_lt (Nat.lt_of_lt_of_le (Heap.lt_size e) hp))];exact n
 ·obtain⟨o',es,ep,ho,r⟩:=hm
  exact⟨o',es,ep,k _ o' (fun z=>(hf _ z).2.1 rfl) ho,r⟩
 ·by_cases hb:b=a
  ·subst hb
   rw [bw] at e
   cases e
   exact new
  ·rw [bm hb] at e
   refine(I.hok b u e).stay (fun c v hc q=>k c v ?_ q) (fun _ q=>st _ _ q) fun _ _ q=>st _ _ q
   rcases hc with z | z
   ·rw [z];exact nfp b u e
   ·exact nfp c _ z
theorem Inv.turnedL{fp:List Addr}{t':Nat}(I:Inv X pins σ H s)(k:∀ b o,b ∉ fp->s.heap.get? b=some o->h'.get? b=some o)(hf:∀ b∈fp,qu X pins H b):Inv X pins σ H { s with heap:=h',toks:=t' }:=by
 have nfp:∀ b u,H b=some u->b ∉ fp:=fun b u e z=>by rw [(hf b z).1] at e;cases e
 refine I.step (g':=s.gens) (d':=s.drawn) (ch:=fp) (fun b hb=>?_) (fun b o _ _ hc e _=>k b o hc e) (fun b o _ _ hc e _=>⟨o.slots,k b o hc e⟩) (fun b u _ e n=>n) (fun b o hc e=>⟨o,k b o hc e⟩) (fun b xs e=>e) (fun b o u e=>e) (fun b ps e=>⟨#[],by rw [e];simp⟩) (fun m hm=>?_) (fun b u e=>?_) I.bare
 ·obtain⟨f0,f1,f2,f3,f4,f5⟩:=hf b hb
  exact⟨f3,f1,f4,f5⟩
 ·obtain⟨o',es,ep,ho,r⟩:=hm
  exact⟨o',es,ep,k _ o' (fun z=>(hf _ z).2.1 rfl) ho,r⟩
 ·refine(I.hok b u e).stay (fun c v hc q=>k c v ?_ q) (fun _ q=>q) fun _ _ q=>q
  rcases hc with z | z
  ·rw [z];exact nfp b u e
  ·exact nfp c _ z
noncomputable def Ite(K:PySem.W.Frag)(a:Addr):It:=
 ⟨fun i H=>∃ xs x,lQ K H a xs/\xs[i]?=some x,fun i H x H'=>∃ p v,x=.ref p/\H p=none/\H'=upd H p (.tup [.int (i:Nat),v])/\∀ xs,lQ K H a xs->xs[i]?=some v,fun i H=>∃ xs,lQ K H a xs/\xs.length<=i⟩
theorem FK{P:Program}{w:World}{K:PySem.W.Frag}{es:List Expr}{k:Nat}{pos:Pos}(a e it:Addr)(hei:e≠it):Ee P w K (.Tuple es k pos) (Ite K a) [e,it] e (fun i h=>(∃ old,IsEnum h e it i old)/\h.IsTupleIter it a i) where
 mem:=by simp
 obj:=fun i h st b hb=>by
  obtain⟨⟨old,he⟩,⟨o,ho,hc,hd⟩⟩:=st
  simp only [List.mem_cons,List.not_mem_nil,or_false] at hb
  rcases hb with rfl | rfl
  ·exact⟨_,he,fun v z=>by cases z⟩
  ·exact⟨o,ho,fun v z=>by rw [hd] at z;cases z⟩
 keep:=fun i h h' st kk=>by
  obtain⟨⟨old,he⟩,⟨o,ho,r⟩⟩:=st
  exact⟨⟨old,kk e (by simp) _ he⟩,⟨o,kk it (by simp) _ ho,r⟩⟩
 item:=by
  intro X hP hw hK hc i pins s σ H E I hf st hg
  subst hP hw hK
  obtain⟨xs,x,hq,hx⟩:=hg
  obtain⟨its,rv,p,hz⟩:=I.tuple hq
  have hT:s.heap.IsTuple a its.toArray:=p
  have hh:=I.ok.hd hc
  have ne1:a≠e:=fun z=>by
   obtain⟨⟨old,he⟩,_⟩:=st
   obtain⟨o,ho,hcl,_⟩:=hT
   rw [z,he] at ho;cases ho;exact absurd (show Value.type "enumerate" = Value.type "tuple" from hcl) (by decide)
  have ne2:a≠it:=fun z=>by
   obtain⟨_,⟨o',ho',hc',_⟩⟩:=st
   obtain⟨o,ho,hcl,_⟩:=hT
   rw [z,ho'] at ho;cases ho;rw [hc'] at hcl;exact absurd hcl (by decide)
  have W:=WalksT.enumerateD (HT.uw (prog:=X.prog) (w:=X.w) (A:=X.A.in1) hh it a ne2 its.toArray) e hei (by simp;exact⟨hei,fun z=>ne1 z.symm⟩) (by simp)
  have hi:i<its.toArray.size:=by rw [List.size_toArray,<- rv.length];exact(List.getElem?_eq_some_iff.mp hx).1
  obtain⟨⟨old,he⟩,hit⟩:=st
  have Te:s.heap.objs.size≠e:=Nat.ne_of_gt (Heap.lt_size he)
  have Ti:s.heap.objs.size≠it:=by
   obtain⟨o,ho,_⟩:=hit
   exact Nat.ne_of_gt (Heap.lt_size ho)
  refine wpAny_pyNext_enum_itemD (HT.uw (prog:=X.prog) (w:=X.w) (A:=X.A.in1) hh it a ne2 its.toArray) he ⟨hit,hT⟩ hi hei (by simp;exact⟨hei,fun z=>ne1 z.symm⟩) fun y h1 tk hy ho st1 hT1 hsz kk=>⟨_,rfl,?_⟩
  refine W.go es k pos i s.heap.objs.size _ _ _ ⟨⟨y,ho⟩,st1,Te,Ti⟩ fun h2 st2 kk2=>?_
  generalize hTT:s.heap.objs.size=T at *
  obtain⟨u,hu,ru⟩:=rv.get hx
  have ey:y=u:=by
   rw [show its.toArray[i]?=its[i]? by simp,hu] at hy
   exact(Option.some.inj hy).symm
  subst ey
  have apT:T ∉ [e,it]:=by simp;exact⟨Te,Ti⟩
  have kall:∀ b o,b ∉ [e,it]->s.heap.get? b=some o->h2.get? b=some o:=fun b o hb q=>kk2 b o hb (kk b o (fun z=>hb (by simp [z])) (fun z=>hb (by simp [z])) q)
  have hT2:IsTupN h2 T #[.int i tk,y]:=⟨_,kk2 T _ apT hT1,rfl,⟨_,rfl⟩,rfl⟩
  have hTs:s.heap.objs.size<=T:=Nat.le_of_eq hTT
  refine⟨.ref T,upd H T (.tup [.int (i:Nat),x]),I.turnLaid kall hf hTs ⟨by show 2<=sizeLine;decide,[.int i tk,y],.cons ⟨_,rfl⟩ (.cons ru .nil),hT2⟩,rfl,⟨T,x,rfl,I.hok.fresh hTs,rfl,fun ys hy=>by rw [I.tuple_inj hy hq];exact hx⟩,⟨st2.1,st2.2.1⟩,fun b hb=>?_⟩
  have nb:b≠T:=fun z=>apT (by rw [<- z];exact hb)
  rw [bm nb]
  exact(hf b hb).1
 done:=by
  intro X hP hw hK hc i pins s σ H E I hf st hg
  subst hP hw hK
  obtain⟨xs,hq,hx⟩:=hg
  obtain⟨its,rv,p,hz⟩:=I.tuple hq
  have hT:s.heap.IsTuple a its.toArray:=p
  have hh:=I.ok.hd hc
  have ne1:a≠e:=fun z=>by
   obtain⟨⟨old,he⟩,_⟩:=st
   obtain⟨o,ho,hcl,_⟩:=hT
   rw [z,he] at ho;cases ho;exact absurd (show Value.type "enumerate" = Value.type "tuple" from hcl) (by decide)
  have D':Draws X.prog X.w X.A.in1 it [it,a] i (fun _ _=>True) (fun j h=>j=i/\h.IsTupleIter it a i/\h.IsTuple a its.toArray):=
   {live:=fun _ _ q=>by obtain⟨_,⟨o,ho,_⟩,_⟩:=q;exact⟨o,ho⟩
    frame:=fun _ _ _ q hk=>by
     obtain⟨q0,⟨o,ho,r⟩,⟨o2,ho2,r2⟩⟩:=q
     exact⟨q0,⟨o,hk it (by simp) o ho,r⟩,⟨o2,hk a (by simp) o2 ho2,r2⟩⟩
    item:=fun j _ _ _ hj q _=>absurd q.1 (Nat.ne_of_lt hj)
    done:=fun s Q E q hE=>HT.qk hh q.2.1 q.2.2 (by simp;have:=rv.length;omega) hE }
  have W:=WalksT.enumerateD D' e hei (by simp;exact⟨hei,fun z=>ne1 z.symm⟩) (by simp)
  refine W.done s _ _ ⟨st.1,rfl,st.2,hT⟩ fun h2 tk kk=>⟨rfl,I.turnedL kk hf⟩
 self:=fun A i s Q E st h=>by
  obtain⟨⟨old,he⟩,_⟩:=st
  exact wpAny_pyIter_enum he h
def iEnum(K:PySem.W.Frag)(t:TA):TI:=fun σ H R=>t σ H fun xs H1=>∃ a,xs=[.ref a]/\(∃ ys,lQ K H1 a ys)/\R (Ite K a) H1
end
end L2
namespace L2
open PySem PySem.Spec PyProof.Rows
section
variable{X:Cx}
theorem Nn{a:Expr}{ta:TA}{es:List Expr}{k:Nat}{tp p pos:Pos}(hg:Gl X "enumerate")(hm:X.mg "enumerate" = none)(ha:PA X [a] ta)(hs:starEach [a] X.env=[(false,eval a X.env)]) :
  PI X (.Tuple es k tp) (.Call (.Name "enumerate" p) [a] [] pos) (iEnum X.K ta):=by
 intro pins s σ H R I h
 refine Call_ (ly I hg hm boot_enumerate (PyProof.Rows.callWith_type1 (db (ha pos pins s σ H _ I h) fun us s1 ⟨vs,H1,I1,r1,q1⟩=>?_) hs rfl))
 obtain⟨t,rfl,⟨ys,hq⟩,q⟩:=q1
 obtain⟨u,rfl,ru⟩:=r1.one
 cases ru
 obtain⟨its,rv,pt,hz⟩:=I1.tuple hq
 refine HT.DU pt fun h' he hi hsz kk=>wpAny_pyIter_enum he ?_
 refine⟨s1.heap.objs.size+1,[s1.heap.objs.size+1,s1.heap.objs.size],_,_,H1,rfl,I1.kept (t':=s1.toks) kk,FK t _ _ (Nat.succ_ne_self _),⟨⟨_,he⟩,hi⟩,fun b hb=>?_,q⟩
 simp only [List.mem_cons,List.not_mem_nil,or_false] at hb
 rcases hb with rfl | rfl
 ·exact I1.fpOk (Nat.le_succ _) (I1.hok.fresh (Nat.le_succ _))
 ·exact I1.fpOk (Nat.le_refl _) (I1.hok.fresh (Nat.le_refl _))
end
end L2
namespace M
open PySem PySem.Spec PyProof.Rows L2
section
variable{X:Cx}{K:PySem.W.Frag}{μ μ':Fp}{H H':Hp}{S:ac}
noncomputable def ft:Nat->List D->List D
 | _,[]=>[]
 | i,x::r=>.tup [.int (i:Nat),x]::ft (i+1) r
theorem nh:∀ (i:Nat) (xs:List D),(ft i xs).length=xs.length
 | _,[]=>rfl
 | i,_::r=>by rw [ft,List.length_cons,List.length_cons,nh (i+1) r]
theorem wN:∀ (k:Nat) (xs:List D) (i:Nat) (d:D),(ft k xs)[i]?=some d->∃ x,xs[i]?=some x/\d=.tup [.int ((k+i:Nat):Int),x]
 | _,[],i,d,h=>by simp [ft] at h
 | k,x::r,0,d,h=>by simp [ft] at h;exact⟨x,rfl,h.symm⟩
 | k,x::r,i+1,d,h=>by
  rw [ft,List.getElem?_cons_succ] at h
  obtain⟨y,h1,h2⟩:=wN (k+1) r i d h
  refine⟨y,by simpa using h1,?_⟩
  rw [h2,show k+1+i=k+(i+1) by omega]
theorem GR{a:Addr}{xs:List D}(r:Rep K μ H (.ref a) (.tup xs)):Eg K μ H (Ite K a) (ft 0 xs):=fun μ' H' S' e s i=>by
 have r':=r.monoP e
 obtain⟨b,vs,hb,hq,rs⟩:=r'.sqT
 cases hb
 refine⟨fun d hd=>?_,fun hl=>⟨vs,hq,by rw [rs.length];rw [nh] at hl;exact hl⟩⟩
 obtain⟨x,hx,rfl⟩:=wN 0 xs i d hd
 obtain⟨v,hv,rv⟩:=rs.get hx
 refine⟨⟨vs,v,hq,hv⟩,fun y H2 hy=>?_⟩
 obtain⟨p,w,rfl,hp,rfl,hw⟩:=hy
 have ew:w=v:=by have:=hw vs hq;rw [hv] at this;exact(Option.some.inj this).symm
 subst ew
 obtain⟨e2,s2⟩:=s.laid (o:=.tup [.int (i:Nat),w]) hp
 refine⟨e2,s2,?_⟩
 rw [Nat.zero_add]
 exact .tup bw (s.notMem hp) (.cons (.int _) (.cons (rv.mono e2) .nil))
noncomputable def gu(ms:MA):MA:=fun env S=>(ms env S).bind fun p=>match p.1 with | [.tup xs]=>some (ft 0 xs,p.2) | _=>none
theorem OR{a:Expr}{ms:MA}{es:List Expr}{k:Nat}{tp p pos:Pos}(hm:X.mg "enumerate" = none)(ha:DA X [a] ms)(hg:Gl X "enumerate")(hs:starEach [a] X.env=[(false,eval a X.env)]) :
  DI X (.Tuple es k tp) (.Call (.Name "enumerate" p) [a] [] pos) (gu ms):=PI.imp (Nn hg hm ha hs) fun σ H R ⟨μ,S,env,xs,S',hS,hE,h,post⟩=>by
 obtain⟨⟨ds,S1⟩,h1,h⟩:=Option.bind_eq_some_iff.mp h
 refine⟨μ,S,env,ds,S1,hS,hE,h1,fun vs H1 μ1 e1 s1 r1=>?_⟩
 dsimp only at h
 split at h
 ·rename_i ys
  cases h
  obtain⟨v,rfl,rv⟩:=r1.one
  have rv':=rv
  obtain⟨b,ws,rfl,hq,rs⟩:=rv.sqT
  exact⟨b,rfl,⟨ws,hq⟩,post _ H1 μ1 e1 s1 (GR rv')⟩
 ·cases h
end
end M
namespace HT
open PySem PyProof.Rows
section
variable{prog:Program}{w:World}{A:Around}{E:Value->Shared->Prop}{s:Shared}
end
end HT
namespace L2
open PySem PySem.Spec PyProof.Rows
section
variable{X:Cx}{e st:Expr}{te:TE}{ts:TO}{pos p2:Pos}
end
end L2
namespace M
open PySem PySem.Spec PyProof.Rows L2
section
variable{X:Cx}{K:PySem.W.Frag}{μ:Fp}{H:Hp}{S:ac}
noncomputable def mRev(a:ME)(st:MO):ME:=fun env S=>(a env S).bind fun p=>(st env p.2).bind fun k=>match p.1,k.1 with
 | .tup xs,some j=>if j = -1 then some (.tup xs.reverse,k.2) else none
 | _,_=>none
end
end M
namespace L2
open PySem PySem.Spec PyProof.Rows
section
variable{X:Cx}
def dedN(ns:List Int):Nat:=(firstMet (fun i=>ns.getD i 0) ns.length).length
end
end L2
namespace M
open PySem PySem.Spec PyProof.Rows L2
noncomputable def og:List D->Option (List Int)
 | []=>some []
 | .int i::r=>(og r).bind fun ns=>some (i::ns)
 | _::_=>none
theorem qC:∀ {ds:List D} {ns:List Int},og ds=some ns->ds=ns.map D.int
 | [],ns,h=>by cases h;rfl
 | .int i::r,ns,h=>by
  obtain⟨ms,h1,h2⟩:=Option.bind_eq_some_iff.mp h
  cases h2
  rw [List.map_cons,<- qC h1]
 | .non::_,ns,h=>by cases h
 | .bl _::_,ns,h=>by cases h
 | .str _::_,ns,h=>by cases h
 | .tup _::_,ns,h=>by cases h
 | .lst _::_,ns,h=>by cases h
 | .rol _::_,ns,h=>by cases h
 | .dct _ _::_,ns,h=>by cases h
 | .ref _::_,ns,h=>by cases h
theorem tY:∀ ns:List Int,og (ns.map D.int)=some ns
 | []=>rfl
 | n::ns=>by rw [List.map_cons,og,tY ns];rfl
noncomputable def isort(ns:List Int):List Int:=ns.mergeSort fun a b=>decide (a<=b)
section
variable{X:Cx}{K:PySem.W.Frag}{μ:Fp}{H:Hp}{S:ac}
theorem vP:∀ {vs:List V} {ns:List Int},Reps K μ H vs (ns.map D.int)->vs=ns.map V.int
 | _,[],.nil=>rfl
 | _,n::ns,.cons h t=>by rw [h.int_inv,vP t];rfl
noncomputable def qD(S:ac)(d:D):Option (List Int):=if rh S d=true then (gO S d).bind fun ds=>(og ds).bind fun ns=>if ns.length<64 then some ns else none else none
theorem Dk{v:V}{d:D}{ns:List Int}(hS:SOk K μ S H)(r:Rep K μ H v d)(h:qD S d=some ns):∃ a,v=.ref a/\on K H a (ns.map V.int)/\ns.length<64:=by
 unfold qD at h
 split at h
 ·rename_i hl
  obtain⟨a,vs,ds,rfl,hq,hs,rs⟩:=oV hS r hl
  rw [hs] at h
  have h:((og ds).bind fun ns=>if ns.length<64 then some ns else none)=some ns:=h
  obtain⟨ms,h1,h2⟩:=Option.bind_eq_some_iff.mp h
  split at h2
  ·rename_i h3
   cases h2
   have:=qC h1
   subst this
   exact⟨a,rfl,by rw [<- vP rs];exact hq,h3⟩
  ·cases h2
 ·cases h
noncomputable def fSorted(S:ac):List D->Option D
 | [d]=>(qD S d).bind fun ns=>some (.lst ((isort ns).map D.int))
 | _=>none
noncomputable def fLenSet(S:ac):List D->Option D
 | [d]=>(qD S d).bind fun ns=>some (.int (dedN ns:Nat))
 | _=>none
end
end M
namespace M
open PySem PySem.Spec PyProof.Rows L2
section
variable{X:Cx}{K:PySem.W.Frag}{μ:Fp}{H:Hp}{S:ac}
noncomputable def nz(i j:Nat)(ms:MA):MS:=fun env S=>(ms env S).bind fun p=>match p.1 with | [v,w]=>some (.nx ((env.set i (some v)).set j (some w)) p.2) | _=>none
theorem SZ{i j:Nat}{x y:Str}{a b:Expr}{ms:MA}{px py pt pos:Pos}{kt k2:Nat}{pt2:Pos}(hc:X.calm=true)(hN:X.N.Nodup)(hi:X.N[i]?=some x)(hj:X.N[j]?=some y)(hij:i≠j)
  (hx:X.env.scope.names.lookup x=some .local) (hy:X.env.scope.names.lookup y=some .local) (ha:DA X [a,b] ms)
  (hw:swappedStores [.Tuple [.Name x px,.Name y py] kt pt] (.Tuple [a,b] k2 pt2) X.env=pure (some [x,y])) :
  DS X (.Assign [.Tuple [.Name x px,.Name y py] kt pt] (.Tuple [a,b] k2 pt2) pos) (nz i j ms):=
 PS.imp (QS hc hN hi hj hij hx hy ha hw rfl) fun E σ H ⟨μ,S,env,o,hS,hE,h,post⟩=>by
  obtain⟨⟨ds,S1⟩,h1,h⟩:=Option.bind_eq_some_iff.mp h
  refine⟨μ,S,env,ds,S1,hS,hE,h1,fun vs H1 μ1 e1 s1 r1=>?_⟩
  dsimp only at h
  split at h
  ·rename_i v w
   cases h
   obtain⟨v',w',rfl,rv,rw'⟩:=r1.two
   exact⟨v',w',rfl,post _ H1 μ1 e1 s1 (((hE.mono e1).set rv i).set rw' j)⟩
  ·cases h
noncomputable def sD:Expr->Bool
 | .Starred _ _=>false
 | _=>true
theorem IH{x y:Str}{a b:Expr}{px py pt:Pos}{kt k2:Nat}{pt2:Pos}(hb:X.env.blockKind=.function)(hx:X.env.scope.names.lookup x=some .local)(hy:X.env.scope.names.lookup y=some .local)(hne:(x == y)=false)
  (hl:(py.line == px.line)=true) (ha:sD a=true) (hb':sD b=true) (hf:(foldedForSure 8 a&&foldedForSure 8 b)=false) (hcn:(constantsAlone 8 a&&constantsAlone 8 b)=false) :
  swappedStores [.Tuple [.Name x px,.Name y py] kt pt] (.Tuple [a,b] k2 pt2) X.env=pure (some [x,y]):=by
 have hkx:X.env.kindOf x=some .local:=hx
 have hky:X.env.kindOf y=some .local:=hy
 have hs:([a,b].any fun e=>match e with | .Starred ..=>true | _=>false)=false:=by
  have q:∀ e:Expr,sD e=true->(match e with | .Starred ..=>true | _=>false:Bool)=false:=fun e h=>by cases e <;> first | rfl | cases h
  simp only [List.any_cons,List.any_nil,q a ha,q b hb',Bool.or_self]
 have hxy:(y == x)=false:=by
  rw [Bool.eq_false_iff] at hne ⊢
  intro z;exact hne (by rw [beq_iff_eq] at z ⊢;exact z.symm)
 have hed:([x,y]:List Str).eraseDups=[x,y]:=by simp [List.eraseDups_cons,hxy]
 have hl':py.line=px.line:=by simpa using hl
 unfold swappedStores
 simp only [List.length_cons,List.length_nil,hb]
 simp only [List.all_cons,List.all_nil,Bool.and_true,hf,hcn]
 generalize hg:List.filterMap _ [Expr.Name x px,Expr.Name y py]=L
 have hL:L=[x,y]:=by
  rw [<- hg]
  have e0:(Option.map (fun(x:Expr)=>x.pos.line) [Expr.Name x px,Expr.Name y py].head?).getD 0=px.line:=rfl
  rw [List.filterMap_cons,List.filterMap_cons]
  have e1:(Expr.Name x px).pos=px:=rfl
  simp [hkx,hky,e0,e1,hl']
 subst hL
 rw [if_neg (by decide)]
 rw [if_neg (by
  intro z
  have:([a,b].any fun e=>match e with | .Starred ..=>true | _=>false)=true:=z
  rw [hs] at this;cases this)]
 rw [if_neg (by rw [hed];simp),if_neg Bool.false_ne_true,if_neg Bool.false_ne_true]
end
end M
namespace L2
open PySem PySem.Spec PyProof.Rows
section
variable{X:Cx}{pins:List (Addr×Obj)}{σ:St}{H:Hp}{s:Shared}{a:Addr}{xs:List V}
theorem Inv.tupD(I:Inv X pins σ H s)(h:lQ X.K H a xs):∃ ob,s.heap.get? a=some ob/\ob.cls=.type "tuple"/\ob.dict=none:=by
 rcases h with h | ⟨o,its,n,hk,hc,hdn,hs,hz,r⟩
 ·obtain⟨z,its,r,ob,e,c,d,dn⟩:=h.ok I.hok
  exact⟨ob,e,c,dn⟩
 ·exact⟨o,I.kIn a o hk,hc,hdn⟩
variable{o e:Expr}{es:List Expr}{to:TE}{t:TA}{name:Str}{apos cpos:Pos}{id:String}{r:V->List V->Hp->VK->Prop}
def tBT(K:PySem.W.Frag)(r:V->List V->Hp->VK->Prop)(to:TE)(t:TA):TE:=fun σ H Q=>to σ H fun x H1=>(∃ p xs,x=.ref p/\lQ K H1 p xs)/\t σ H1 fun xs H2=>r x xs H2 Q
theorem Rh(slot:Slot "tuple" name id)(hty:typeOf (.builtin id)=pure (.type "method_descriptor"))(hm:MtR X id r)(ho:PE X o to)(ha:PA X (e::es) t)
  (hbase:attributeBase o name X.env (eval o X.env)=eval o X.env)
  (hfew:((backTo cpos (starEach (e::es) X.env)).all (fun x=>!x.1)&&(backToKw cpos (keywordEach [] X.env)).all (fun x=>x.1.isSome)&&decide ((e::es).length+([]:List Keyword).length+(if ([]:List Keyword).isEmpty then 0 else 1)<30))=true)
  (hline:(apos.endLine == cpos.line)=true) (hs:starEach (e::es) X.env=(false,eval e X.env)::starEach es X.env) (hplain:(backTo cpos (starEach es X.env)).any (·.1)=false) :
  PE X (.Call (.Attribute o name apos) (e::es) [] cpos) (tBT X.K r to t):=by
 intro pins s σ H Q I h
 refine wpAny_Call_method_late hbase hfew hline rfl (db (ho pins s σ H _ I h) fun v s1 ⟨x,H1,I1,r1,ty,q1⟩=>?_)
 obtain⟨p,ys,rfl,hq⟩:=ty
 cases r1
 obtain⟨ob,e1,e2,e3⟩:=I1.tupD hq
 refine⟨"tuple",id,F.plainAttrs_tuple,slot,hty,⟨ob,e1,e2⟩,fun a z=>by cases z;exact⟨ob,e1,e3⟩,?_⟩
 have hA:=ha cpos pins s1 σ H1 _ I1 q1
 rw [hs] at hA ⊢
 refine Calls.callWith_builtin (by show (false||(backTo cpos (starEach es X.env)).any (·.1))=false;rw [hplain] <;> rfl) (Calls.evalArgs_plain ?_)
 exact db hA fun us s2 ⟨vs,H2,I2,r2,q2⟩=>hm pins s2 σ H2 (V.ref p) vs _ us Q I2 (show RelV (V.ref p) (Value.ref p) from rfl) r2 q2
end
end L2
namespace M
open PySem PySem.Spec PyProof.Rows L2
section
variable{X:Cx}{K:PySem.W.Frag}{μ:Fp}{H:Hp}{S:ac}
noncomputable def Iy:D->Bool
 | .tup _=>true
 | _=>false
noncomputable def fE:MF:=fun o ds S=>if Iy o=true then uu o ds S else none
theorem Gp(hu:X.A.units+64<cLine):MtR X "tuple.count" (Ms X.K fE):=by
 intro pins s σ H x vs v us Q I rx rv h
 obtain⟨μ,S,dx,ds,d,S',hS,r1,r2,h,post⟩:=h
 unfold fE at h
 split at h
 ·rename_i hl
  cases dx with
  | tup es=>
   unfold uu at h
   split at h
   ·rename_i y
    have h:(if cK 40 y=true/\es.all (cK 39)=true then some (D.int (es.countP fun d=>jD d y),S) else none)=some (d,S'):=h
    split at h
    ·rename_i hk
     cases h
     obtain⟨a,ws,rfl,hq,re⟩:=r1.sqT
     cases rx
     obtain⟨w,rfl,rw0⟩:=r2.one
     obtain⟨u,rfl,ru⟩:=rv.one
     obtain⟨its,rvs,pt,hz⟩:=I.tuple hq
     obtain⟨⟨cls,dd,data,sl⟩,e,hc,n,hd⟩:=id pt
     simp only at hc hd
     subst hc hd
     have ok:=List.all_eq_true.mp hk.2
     refine call_meets F.slot_tuple_count ⟨_,e,rfl⟩ F.entry_tuple_count (F.args_tuple_count_2 _ _) (SeqAt.tuple_countAt a its.toArray n dd sl u (eC X.K μ H y)) ⟨e,fun w' hw'=>?_,?_⟩
     ·exact ga I (by show X.A.units+1+40<cLine;omega) ru rw0 hk.1 rvs re ok w' (by simpa using hw')
     ·refine⟨.int _,H,I.tok _,⟨_,rfl⟩,?_⟩
      rw [mM I rvs re ok]
      exact post.here hS (.int _)
    ·cases h
   ·cases h
  | _=>cases hl
 ·cases h
noncomputable def kD(o:ME)(ms:MA):ME:=fun env S=>(o env S).bind fun p=>if Iy p.1=true then (ms env p.2).bind fun q=>fE p.1 q.1 q.2 else if rh p.2 p.1=true then (ms env p.2).bind fun q=>ng p.1 q.1 q.2 else none
theorem Ts{o e:Expr}{es:List Expr}{mo:ME}{ms:MA}{apos cpos:Pos}(hu:X.A.units+64<cLine)(ho:DE X o mo)(ha:DA X (e::es) ms)
  (hbase:attributeBase o "count" X.env (eval o X.env)=eval o X.env)
  (hfew:((backTo cpos (starEach (e::es) X.env)).all (fun x=>!x.1)&&(backToKw cpos (keywordEach [] X.env)).all (fun x=>x.1.isSome)&&decide ((e::es).length+([]:List Keyword).length+(if ([]:List Keyword).isEmpty then 0 else 1)<30))=true)
  (hline:(apos.endLine == cpos.line)=true) (hs:starEach (e::es) X.env=(false,eval e X.env)::starEach es X.env) (hpl:(backTo cpos (starEach es X.env)).any (·.1)=false) :
  DE X (.Call (.Attribute o "count" apos) (e::es) [] cpos) (kD mo ms):=by
 have hT:=Rh (X:=X) F.slot_tuple_count F.type_tuple_count (Gp hu) ho ha hbase hfew hline hs hpl
 have hL:=Fu (X:=X) F.slot_list_count F.type_list_count (Ac hu) ho ha hbase hfew hline hs hpl
 intro pins s σ H Q I ⟨μ,S,env,d,S',hS,hE,h,post⟩
 obtain⟨⟨x,S1⟩,h1,h⟩:=Option.bind_eq_some_iff.mp h
 dsimp only at h
 split at h
 ·rename_i ht
  obtain⟨⟨xs,S2⟩,h2,h⟩:=Option.bind_eq_some_iff.mp h
  refine hT pins s σ H Q I ⟨μ,S,env,x,S1,hS,hE,h1,fun v H1 μ1 e1 s1 r1=>⟨?_,μ1,S1,env,xs,S2,s1,hE.mono e1,h2,fun vs H2 μ2 e2 s2 r2=>⟨μ2,S2,x,xs,d,S',s2,r1.mono e2,r2,h,(post.ext e1).ext e2⟩⟩⟩
  cases x <;> first | cases ht | skip
  obtain⟨a,ws,rfl,hq,_⟩:=r1.sqT
  exact⟨a,ws,rfl,hq⟩
 ·refine hL pins s σ H Q I ⟨μ,S,env,d,S',hS,hE,?_,post⟩
  show (mo env S).bind _=_
  rw [h1];exact h
end
end M
namespace HT
open PySem PyProof.Rows
section
variable{prog:Program}{w:World}{A:Around}{E:Value->Shared->Prop}{s:Shared}
structure zg(z TI TO i1 i2:Addr)(fp1 fp2:List Addr):Prop where
 TIz:TI≠z
 TOz:TO≠z
 TITO:TI≠TO
 z1:z ∉ fp1
 z2:z ∉ fp2
 o1:TO ∉ fp1
 o2:TO ∉ fp2
 i12:i1 ∉ fp2
 i21:i2 ∉ fp1
 t1:TI≠i1
 t2:TI≠i2
 m1:i1∈fp1
 m2:i2∈fp2
theorem FE{z TI TO i1 i2:Addr}{fp1 fp2:List Addr}{n1 n2 k1 k2:Nat}{P1 P2:Nat->Value->Prop}{St1 St2:Nat->Heap->Prop}{a b:Value}{Q:Value->Shared->Prop}
  (Z:zg z TI TO i1 i2 fp1 fp2) (D1:Draws prog w A i1 fp1 n1 P1 St1) (D2:Draws prog w A i2 fp2 n2 P2 St2) (hz:IsZip s.heap z TI TO .none) (hTI:IsPair s.heap TI (.ref i1) (.ref i2)) (hTO:IsPair s.heap TO a b)
  (s1:St1 k1 s.heap) (s2:St2 k2 s.heap) (l1:k1<n1) (l2:k2<n2)
  (hQ:∀ x y h' tk,P1 k1 x->P2 k2 y->IsZip h' z TI TO (rawInt s.heap.objs.size)->IsPair h' TO x y->St1 (k1+1) h'->St2 (k2+1) h'->IsPair h' s.heap.objs.size x y->h'.objs.size=s.heap.objs.size+1 ->
   (∀ c o,c≠z->c≠TO->c≠i1->c≠i2->s.heap.get? c=some o->h'.get? c=some o)->Q (.ref s.heap.objs.size) { s with heap:=h',toks:=tk }) :
  wpAny (model prog w) A (Builtin.«zip.__next__» ⟨[.ref z],[]⟩) (fun fin s'=>∃ v,fin=.done (.ret v)/\Q v s') E s:=by
 unfold Builtin.«zip.__next__»
 show wpAny _ _ (field (.ref z) 2 >>= _) _ _ s
 refine wpAny_bind (wpAny_field hz rfl (x:=.bool false) rfl ?_)
 refine wpAny_bind (wpAny_field hz rfl (x:=.ref TI) rfl ?_)
 refine wpAny_bind (wpAny_seqItems hTI rfl ?_)
 show wpAny _ _ (Builtin.SmallTypes.ownedTupleIsFree (.ref z) >>= _) _ _ s
 refine wpAny_bind ?_
 unfold Builtin.SmallTypes.ownedTupleIsFree
 refine wpAny_bind (wpAny_field hz rfl (x:=.none) rfl (wpAny_pure ?_))
 show wpAny _ _ (rule "zip.__next__.owned-tuple-again" >>= _) _ _ s
 refine wpAny_bind (wpAny_rule ?_)
 refine wpAny_bind (wpAny_field hz rfl (x:=.ref TO) rfl ?_)
 refine wpAny_bind (wpAny_setField hz rfl (by simp) ?_)
 refine wpAny_bind ?_
 show wpAny _ _ (forIn [((Value.ref i1,0):Value×Nat),(Value.ref i2,1)] _ _) _ _ _
 rw [List.forIn_cons]
 refine wpAny_bind ?_
 refine wpAny_bind (wpAny_onRaise ?_)
 refine wpAny_bind ?_
 have ez:(s.heap.update z (Obj.mapFields fun vs=>vs.setIfInBounds 0 .ellipsis)).get? z=some { cls:=.type "zip",data:=.fields #[.ellipsis,.bool false,.bool false,.ref TI,.ref TO] }:=Heap.get?_update_self _ hz rfl
 have ne0:∀ c,c≠z->(s.heap.update z (Obj.mapFields fun vs=>vs.setIfInBounds 0 .ellipsis)).get? c=s.heap.get? c:=fun c hc=>Heap.get?_update_ne _ _ _ _ hc
 have sz0:(s.heap.update z (Obj.mapFields fun vs=>vs.setIfInBounds 0 .ellipsis)).objs.size=s.heap.objs.size:=(Heap.SameBut.update ..).1
 generalize (s.heap.update z (Obj.mapFields fun vs=>vs.setIfInBounds 0 .ellipsis))=h0 at ez ne0 sz0 ⊢
 have zi1:z≠i1:=fun e=>Z.z1 (e ▸ Z.m1)
 have zi2:z≠i2:=fun e=>Z.z2 (e ▸ Z.m2)
 have oi1:TO≠i1:=fun e=>Z.o1 (e ▸ Z.m1)
 have oi2:TO≠i2:=fun e=>Z.o2 (e ▸ Z.m2)
 refine D1.item k1 { s with heap:=h0 } _ _ l1 (D1.frame _ _ _ s1 fun c hc o ho=>(ne0 c (fun e=>Z.z1 (e ▸ hc))).trans ho) fun x h1 tk1 px st1 sb1=>wpAny_pure ?_
 have o1:h1.get? TO=some { cls:=.type "tuple",data:=.seq #[a,b] }:=(sb1.2 TO oi1).trans ((ne0 TO Z.TOz).trans hTO)
 show wpAny _ _ (seqItems? (Value.ref TO) >>= _) _ _ _
 refine wpAny_bind (wpAny_seqItems o1 rfl ?_)
 refine wpAny_bind (wpAny_updateSeq o1 rfl ?_ (by show 2<=sizeLine;decide) (by simp;decide))
 refine wpAny_bind (wpAny_letGo (wpAny_pure ?_))
 have eo:(h1.update TO (Obj.mapSeq fun vs=>vs.setIfInBounds 0 x)).get? TO=some { cls:=.type "tuple",data:=.seq #[x,b] }:=Heap.get?_update_self _ o1 rfl
 have ne1:∀ c,c≠TO->(h1.update TO (Obj.mapSeq fun vs=>vs.setIfInBounds 0 x)).get? c=h1.get? c:=fun c hc=>Heap.get?_update_ne _ _ _ _ hc
 have sz1:(h1.update TO (Obj.mapSeq fun vs=>vs.setIfInBounds 0 x)).objs.size=s.heap.objs.size:=(Heap.SameBut.update ..).1.trans (sb1.1.trans sz0)
 generalize (h1.update TO (Obj.mapSeq fun vs=>vs.setIfInBounds 0 x))=h2 at eo ne1 sz1 ⊢
 show wpAny _ _ (forIn [((Value.ref i2,1):Value×Nat)] _ _) _ _ _
 rw [List.forIn_cons]
 refine wpAny_bind ?_
 refine wpAny_bind (wpAny_onRaise ?_)
 refine wpAny_bind ?_
 refine D2.item k2 { s with heap:=h2,toks:=tk1 } _ _ l2 (D2.frame _ _ _ s2 fun c hc o ho=>(ne1 c (fun e=>Z.o2 (e ▸ hc))).trans ((sb1.2 c (fun e=>Z.i12 (e ▸ hc))).trans ((ne0 c (fun e=>Z.z2 (e ▸ hc))).trans ho))) fun y h3 tk2 py st2 sb2=>wpAny_pure ?_
 have o2:h3.get? TO=some { cls:=.type "tuple",data:=.seq #[x,b] }:=(sb2.2 TO oi2).trans eo
 show wpAny _ _ (seqItems? (Value.ref TO) >>= _) _ _ _
 refine wpAny_bind (wpAny_seqItems o2 rfl ?_)
 refine wpAny_bind (wpAny_updateSeq o2 rfl ?_ (by show 2<=sizeLine;decide) (by simp;decide))
 refine wpAny_bind (wpAny_letGo (wpAny_pure ?_))
 have eo2:(h3.update TO (Obj.mapSeq fun vs=>vs.setIfInBounds 1 y)).get? TO=some { cls:=.type "tuple",data:=.seq #[x,y] }:=Heap.get?_update_self _ o2 rfl
 have ne2:∀ c,c≠TO->(h3.update TO (Obj.mapSeq fun vs=>vs.setIfInBounds 1 y)).get? c=h3.get? c:=fun c hc=>Heap.get?_update_ne _ _ _ _ hc
 have sz2:(h3.update TO (Obj.mapSeq fun vs=>vs.setIfInBounds 1 y)).objs.size=s.heap.objs.size:=(Heap.SameBut.update ..).1.trans (sb2.1.trans sz1)
 generalize (h3.update TO (Obj.mapSeq fun vs=>vs.setIfInBounds 1 y))=h4 at eo2 ne2 sz2 ⊢
 show wpAny _ _ (pure _) _ _ _
 refine wpAny_pure ?_
 show wpAny _ _ (seqItems? (Value.ref TO) >>= _) _ _ _
 refine wpAny_bind (wpAny_seqItems eo2 rfl ?_)
 show wpAny _ _ (newTuple [x,y] >>= _) _ _ _
 refine wpAny_bind ?_
 simp only [newTuple]
 refine wpAny_newObj_type ?_ (by size_fits)
 have ez4:h4.get? z=some { cls:=.type "zip",data:=.fields #[.ellipsis,.bool false,.bool false,.ref TI,.ref TO] }:=(ne2 z Z.TOz.symm).trans ((sb2.2 z zi2).trans ((ne1 z Z.TOz.symm).trans ((sb1.2 z zi1).trans ez)))
 have ez5:=Heap.get?_push_of_some { cls:=.type "tuple",data:=.seq #[x,y] } ez4
 have et5:=Heap.get?_push_size h4 (o:={ cls:=.type "tuple",data:=.seq #[x,y] }) rfl
 have kk5:∀ c o,h4.get? c=some o->(h4.push { cls:=.type "tuple",data:=.seq #[x,y] }).get? c=some o:=fun c o=>Heap.get?_push_of_some _
 have sz5:(h4.push { cls:=.type "tuple",data:=.seq #[x,y] }).objs.size=s.heap.objs.size+1:=by rw [Heap.size_push,sz2]
 dsimp only
 show wpAny _ _ _ _ _ { s with heap:=h4.push { cls:=.type "tuple",data:=.seq #[x,y] },toks:=tk2 }
 generalize (h4.push { cls:=.type "tuple",data:=.seq #[x,y] })=h5 at ez5 et5 kk5 sz5 ⊢
 rw [sz2] at et5 ⊢
 show wpAny _ _ ((setField (.ref z) 0 (rawInt s.heap.objs.size) >>= fun _=>setField (.ref z) 1 (.bool false)) >>= _) _ _ _
 refine wpAny_bind (wpAny_bind (wpAny_setField ez5 rfl (by simp) ?_))
 have ez6:(h5.update z (Obj.mapFields fun vs=>vs.setIfInBounds 0 (rawInt s.heap.objs.size))).get? z=some { cls:=.type "zip",data:=.fields #[rawInt s.heap.objs.size,.bool false,.bool false,.ref TI,.ref TO] }:=Heap.get?_update_self _ ez5 rfl
 have ne6:∀ c,c≠z->(h5.update z (Obj.mapFields fun vs=>vs.setIfInBounds 0 (rawInt s.heap.objs.size))).get? c=h5.get? c:=fun c hc=>Heap.get?_update_ne _ _ _ _ hc
 have sz6:(h5.update z (Obj.mapFields fun vs=>vs.setIfInBounds 0 (rawInt s.heap.objs.size))).objs.size=s.heap.objs.size+1:=(Heap.SameBut.update ..).1.trans sz5
 generalize (h5.update z (Obj.mapFields fun vs=>vs.setIfInBounds 0 (rawInt s.heap.objs.size)))=h6 at ez6 ne6 sz6 ⊢
 refine wpAny_setField ez6 rfl (by simp) ?_
 have ez7:(h6.update z (Obj.mapFields fun vs=>vs.setIfInBounds 1 (.bool false))).get? z=some { cls:=.type "zip",data:=.fields #[rawInt s.heap.objs.size,.bool false,.bool false,.ref TI,.ref TO] }:=Heap.get?_update_self _ ez6 rfl
 have ne7:∀ c,c≠z->(h6.update z (Obj.mapFields fun vs=>vs.setIfInBounds 1 (.bool false))).get? c=h6.get? c:=fun c hc=>Heap.get?_update_ne _ _ _ _ hc
 have sz7:(h6.update z (Obj.mapFields fun vs=>vs.setIfInBounds 1 (.bool false))).objs.size=s.heap.objs.size+1:=(Heap.SameBut.update ..).1.trans sz6
 generalize (h6.update z (Obj.mapFields fun vs=>vs.setIfInBounds 1 (.bool false)))=h7 at ez7 ne7 sz7 ⊢
 have k57:∀ c o,c≠z->h4.get? c=some o->h7.get? c=some o:=fun c o hc ho=>(ne7 c hc).trans ((ne6 c hc).trans (kk5 c o ho))
 have newz:s.heap.objs.size≠z:=Nat.ne_of_gt (Heap.lt_size hz)
 refine wpAny_pure ⟨_,rfl,hQ x y h7 tk2 px py ez7 (k57 TO _ Z.TOz eo2) ?_ ?_ ((ne7 _ newz).trans ((ne6 _ newz).trans et5)) sz7 fun c o c1 c2 c3 c4 ho=>k57 c o c1 ((ne2 c c2).trans ((sb2.2 c c4).trans ((ne1 c c2).trans ((sb1.2 c c3).trans ((ne0 c c1).trans ho)))))⟩
 ·exact D1.frame _ _ _ st1 fun c hc o ho=>k57 c o (fun e=>Z.z1 (e ▸ hc)) ((ne2 c (fun e=>Z.o1 (e ▸ hc))).trans ((sb2.2 c (fun e=>Z.i21 (e ▸ hc))).trans ((ne1 c (fun e=>Z.o1 (e ▸ hc))).trans ho)))
 ·exact D2.frame _ _ _ st2 fun c hc o ho=>k57 c o (fun e=>Z.z2 (e ▸ hc)) ((ne2 c (fun e=>Z.o2 (e ▸ hc))).trans ho)
theorem FG{z TI TO i1 i2:Addr}{fp1 fp2:List Addr}{n1:Nat}{P1:Nat->Value->Prop}{St1:Nat->Heap->Prop}{a b:Value}{Q:Fin->Shared->Prop}
  (Z:zg z TI TO i1 i2 fp1 fp2) (D1:Draws prog w A i1 fp1 n1 P1 St1) (hz:IsZip s.heap z TI TO .none) (hTI:IsPair s.heap TI (.ref i1) (.ref i2)) (hTO:IsPair s.heap TO a b)
  (s1:St1 n1 s.heap)
  (hE:∀ h' e tk,(∀ c o,c≠z->c≠TO->c≠i1->c≠i2->s.heap.get? c=some o->h'.get? c=some o)->(∃ o,h'.get? e=some o/\o.cls=.type "StopIteration")->E (.ref e) { s with heap:=h',toks:=tk }) :
  wpAny (model prog w) A (Builtin.«zip.__next__» ⟨[.ref z],[]⟩) Q E s:=by
 unfold Builtin.«zip.__next__»
 show wpAny _ _ (field (.ref z) 2 >>= _) _ _ s
 refine wpAny_bind (wpAny_field hz rfl (x:=.bool false) rfl ?_)
 refine wpAny_bind (wpAny_field hz rfl (x:=.ref TI) rfl ?_)
 refine wpAny_bind (wpAny_seqItems hTI rfl ?_)
 show wpAny _ _ (Builtin.SmallTypes.ownedTupleIsFree (.ref z) >>= _) _ _ s
 refine wpAny_bind ?_
 unfold Builtin.SmallTypes.ownedTupleIsFree
 refine wpAny_bind (wpAny_field hz rfl (x:=.none) rfl (wpAny_pure ?_))
 show wpAny _ _ (rule "zip.__next__.owned-tuple-again" >>= _) _ _ s
 refine wpAny_bind (wpAny_rule ?_)
 refine wpAny_bind (wpAny_field hz rfl (x:=.ref TO) rfl ?_)
 refine wpAny_bind (wpAny_setField hz rfl (by simp) ?_)
 refine wpAny_bind ?_
 show wpAny _ _ (forIn [((Value.ref i1,0):Value×Nat),(Value.ref i2,1)] _ _) _ _ _
 rw [List.forIn_cons]
 refine wpAny_bind ?_
 refine wpAny_bind (wpAny_onRaise ?_)
 refine wpAny_bind ?_
 have ez:(s.heap.update z (Obj.mapFields fun vs=>vs.setIfInBounds 0 .ellipsis)).get? z=some { cls:=.type "zip",data:=.fields #[.ellipsis,.bool false,.bool false,.ref TI,.ref TO] }:=Heap.get?_update_self _ hz rfl
 have ne0:∀ c,c≠z->(s.heap.update z (Obj.mapFields fun vs=>vs.setIfInBounds 0 .ellipsis)).get? c=s.heap.get? c:=fun c hc=>Heap.get?_update_ne _ _ _ _ hc
 generalize (s.heap.update z (Obj.mapFields fun vs=>vs.setIfInBounds 0 .ellipsis))=h0 at ez ne0 ⊢
 have zi1:z≠i1:=fun e=>Z.z1 (e ▸ Z.m1)
 have zi2:z≠i2:=fun e=>Z.z2 (e ▸ Z.m2)
 have oi1:TO≠i1:=fun e=>Z.o1 (e ▸ Z.m1)
 have oi2:TO≠i2:=fun e=>Z.o2 (e ▸ Z.m2)
 refine D1.done { s with heap:=h0 } _ _ (D1.frame _ _ _ s1 fun c hc o ho=>(ne0 c (fun e=>Z.z1 (e ▸ hc))).trans ho) fun h1 e xb ⟨o,ho,hc⟩=>?_
 have z1:=xb z _ zi1 ez
 refine wpAny_setField z1 rfl (by simp) (hE _ e s.toks (fun c o c1 c2 c3 c4 ho=>(Heap.get?_update_ne _ _ _ _ c1).trans (xb c o c3 ((ne0 c c1).trans ho))) ?_)
 refine⟨o,(Heap.get?_update_ne _ _ _ _ fun h=>?_).trans ho,hc⟩
 rw [h,z1] at ho;cases ho;exact absurd (show Value.type "zip" = Value.type "StopIteration" from hc) (by decide)
theorem FF{z TI TO i1 i2:Addr}{fp1 fp2:List Addr}{n1 n2 k1:Nat}{P1 P2:Nat->Value->Prop}{St1 St2:Nat->Heap->Prop}{a b:Value}{Q:Fin->Shared->Prop}
  (Z:zg z TI TO i1 i2 fp1 fp2) (D1:Draws prog w A i1 fp1 n1 P1 St1) (D2:Draws prog w A i2 fp2 n2 P2 St2) (hz:IsZip s.heap z TI TO .none) (hTI:IsPair s.heap TI (.ref i1) (.ref i2)) (hTO:IsPair s.heap TO a b)
  (s1:St1 k1 s.heap) (l1:k1<n1) (s2:St2 n2 s.heap)
  (hE:∀ h' e tk,(∀ c o,c≠z->c≠TO->c≠i1->c≠i2->s.heap.get? c=some o->h'.get? c=some o)->(∃ o,h'.get? e=some o/\o.cls=.type "StopIteration")->E (.ref e) { s with heap:=h',toks:=tk }) :
  wpAny (model prog w) A (Builtin.«zip.__next__» ⟨[.ref z],[]⟩) Q E s:=by
 unfold Builtin.«zip.__next__»
 show wpAny _ _ (field (.ref z) 2 >>= _) _ _ s
 refine wpAny_bind (wpAny_field hz rfl (x:=.bool false) rfl ?_)
 refine wpAny_bind (wpAny_field hz rfl (x:=.ref TI) rfl ?_)
 refine wpAny_bind (wpAny_seqItems hTI rfl ?_)
 show wpAny _ _ (Builtin.SmallTypes.ownedTupleIsFree (.ref z) >>= _) _ _ s
 refine wpAny_bind ?_
 unfold Builtin.SmallTypes.ownedTupleIsFree
 refine wpAny_bind (wpAny_field hz rfl (x:=.none) rfl (wpAny_pure ?_))
 show wpAny _ _ (rule "zip.__next__.owned-tuple-again" >>= _) _ _ s
 refine wpAny_bind (wpAny_rule ?_)
 refine wpAny_bind (wpAny_field hz rfl (x:=.ref TO) rfl ?_)
 refine wpAny_bind (wpAny_setField hz rfl (by simp) ?_)
 refine wpAny_bind ?_
 show wpAny _ _ (forIn [((Value.ref i1,0):Value×Nat),(Value.ref i2,1)] _ _) _ _ _
 rw [List.forIn_cons]
 refine wpAny_bind ?_
 refine wpAny_bind (wpAny_onRaise ?_)
 refine wpAny_bind ?_
 have ez:(s.heap.update z (Obj.mapFields fun vs=>vs.setIfInBounds 0 .ellipsis)).get? z=some { cls:=.type "zip",data:=.fields #[.ellipsis,.bool false,.bool false,.ref TI,.ref TO] }:=Heap.get?_update_self _ hz rfl
 have ne0:∀ c,c≠z->(s.heap.update z (Obj.mapFields fun vs=>vs.setIfInBounds 0 .ellipsis)).get? c=s.heap.get? c:=fun c hc=>Heap.get?_update_ne _ _ _ _ hc
 generalize (s.heap.update z (Obj.mapFields fun vs=>vs.setIfInBounds 0 .ellipsis))=h0 at ez ne0 ⊢
 have zi1:z≠i1:=fun e=>Z.z1 (e ▸ Z.m1)
 have zi2:z≠i2:=fun e=>Z.z2 (e ▸ Z.m2)
 have oi1:TO≠i1:=fun e=>Z.o1 (e ▸ Z.m1)
 have oi2:TO≠i2:=fun e=>Z.o2 (e ▸ Z.m2)
 refine D1.item k1 { s with heap:=h0 } _ _ l1 (D1.frame _ _ _ s1 fun c hc o ho=>(ne0 c (fun e=>Z.z1 (e ▸ hc))).trans ho) fun x h1 tk1 px st1 sb1=>wpAny_pure ?_
 have o1:h1.get? TO=some { cls:=.type "tuple",data:=.seq #[a,b] }:=(sb1.2 TO oi1).trans ((ne0 TO Z.TOz).trans hTO)
 show wpAny _ _ (seqItems? (Value.ref TO) >>= _) _ _ _
 refine wpAny_bind (wpAny_seqItems o1 rfl ?_)
 refine wpAny_bind (wpAny_updateSeq o1 rfl ?_ (by show 2<=sizeLine;decide) (by simp;decide))
 refine wpAny_bind (wpAny_letGo (wpAny_pure ?_))
 have ne1:∀ c,c≠TO->(h1.update TO (Obj.mapSeq fun vs=>vs.setIfInBounds 0 x)).get? c=h1.get? c:=fun c hc=>Heap.get?_update_ne _ _ _ _ hc
 generalize (h1.update TO (Obj.mapSeq fun vs=>vs.setIfInBounds 0 x))=h2 at ne1 ⊢
 show wpAny _ _ (forIn [((Value.ref i2,1):Value×Nat)] _ _) _ _ _
 rw [List.forIn_cons]
 refine wpAny_bind ?_
 refine wpAny_bind (wpAny_onRaise ?_)
 refine wpAny_bind ?_
 refine D2.done { s with heap:=h2,toks:=tk1 } _ _ (D2.frame _ _ _ s2 fun c hc o ho=>(ne1 c (fun e=>Z.o2 (e ▸ hc))).trans ((sb1.2 c (fun e=>Z.i12 (e ▸ hc))).trans ((ne0 c (fun e=>Z.z2 (e ▸ hc))).trans ho))) fun h3 e xb ⟨o,ho,hc⟩=>?_
 have z1:=xb z _ zi2 ((ne1 z Z.TOz.symm).trans ((sb1.2 z zi1).trans ez))
 refine wpAny_setField z1 rfl (by simp) (hE _ e tk1 (fun c o c1 c2 c3 c4 ho=>(Heap.get?_update_ne _ _ _ _ c1).trans (xb c o c4 ((ne1 c c2).trans ((sb1.2 c c3).trans ((ne0 c c1).trans ho))))) ?_)
 refine⟨o,(Heap.get?_update_ne _ _ _ _ fun h=>?_).trans ho,hc⟩
 rw [h,z1] at ho;cases ho;exact absurd (show Value.type "zip" = Value.type "StopIteration" from hc) (by decide)
theorem zK{z TI TO i1 i2:Addr}{fp1 fp2:List Addr}{n1 n2 k1 k2:Nat}{P1 P2:Nat->Value->Prop}{St1 St2:Nat->Heap->Prop}{a b:Value}{Q:Option Value->Shared->Prop}
  (Z:zg z TI TO i1 i2 fp1 fp2) (D1:Draws prog w A.in1 i1 fp1 n1 P1 St1) (D2:Draws prog w A.in1 i2 fp2 n2 P2 St2) (hz:IsZip s.heap z TI TO .none) (hTI:IsPair s.heap TI (.ref i1) (.ref i2)) (hTO:IsPair s.heap TO a b)
  (s1:St1 k1 s.heap) (s2:St2 k2 s.heap) (l1:k1<n1) (l2:k2<n2)
  (hQ:∀ x y h' tk,P1 k1 x->P2 k2 y->IsZip h' z TI TO (rawInt s.heap.objs.size)->IsPair h' TO x y->St1 (k1+1) h'->St2 (k2+1) h'->IsPair h' s.heap.objs.size x y->h'.objs.size=s.heap.objs.size+1 ->
   (∀ c o,c≠z->c≠TO->c≠i1->c≠i2->s.heap.get? c=some o->h'.get? c=some o)->Q (some (.ref s.heap.objs.size)) { s with heap:=h',toks:=tk }) :
  wpAny (model prog w) A (pyNext (.ref z)) Q E s:=by
 unfold pyNext
 refine wpAny_bind (wpAny_attempt ?_)
 refine wpAny_callSpecial?_slot (name:=Str.ofString "__next__") (T:="zip") ?_ F.slot_zip_next (wpAny_call_entry F.slot_zip_next ?_ F.entry_zip_next (FE Z D1 D2 hz hTI hTO s1 s2 l1 l2 fun x y h' tk a1 a2 a3 a4 a5 a6 a7 a8 a9=>wpAny_pure (hQ x y h' tk a1 a2 a3 a4 a5 a6 a7 a8 a9)) (F.args_zip_next_1 _)) <;> exact⟨_,hz,rfl⟩
end
end HT
namespace HT
open PySem PyProof.Rows
section
variable{prog:Program}{w:World}{A:Around}{E:Value->Shared->Prop}{s:Shared}
theorem xG{z TI TO i1 i2:Addr}{fp1 fp2:List Addr}{n1:Nat}{P1:Nat->Value->Prop}{St1:Nat->Heap->Prop}{a b:Value}{Q:Option Value->Shared->Prop}
  (Z:zg z TI TO i1 i2 fp1 fp2) (D1:Draws prog w A.in1 i1 fp1 n1 P1 St1) (hz:IsZip s.heap z TI TO .none) (hTI:IsPair s.heap TI (.ref i1) (.ref i2)) (hTO:IsPair s.heap TO a b)
  (s1:St1 n1 s.heap) (hQ:∀ h' tk,(∀ c o,c≠z->c≠TO->c≠i1->c≠i2->s.heap.get? c=some o->h'.get? c=some o)->Q none { s with heap:=h',toks:=tk }) :
  wpAny (model prog w) A (pyNext (.ref z)) Q E s:=by
 unfold pyNext
 refine wpAny_bind (wpAny_attempt ?_)
 refine wpAny_callSpecial?_slot (name:=Str.ofString "__next__") (T:="zip") ⟨_,hz,rfl⟩ F.slot_zip_next (wpAny_call_entry F.slot_zip_next ⟨_,hz,rfl⟩ F.entry_zip_next (FG Z D1 hz hTI hTO s1 fun h' e tk kk hc=>?_) (F.args_zip_next_1 _))
 show wpAny _ _ (isInstance (.ref e) (.type "StopIteration") >>= _) _ _ _
 exact wpAny_bind (wpAny_isInstance (T:="StopIteration") (b:=true) hc (by first | exact sub_StopIteration | rfl) (wpAny_pure (hQ h' tk kk)))
theorem xF{z TI TO i1 i2:Addr}{fp1 fp2:List Addr}{n1 n2 k1:Nat}{P1 P2:Nat->Value->Prop}{St1 St2:Nat->Heap->Prop}{a b:Value}{Q:Option Value->Shared->Prop}
  (Z:zg z TI TO i1 i2 fp1 fp2) (D1:Draws prog w A.in1 i1 fp1 n1 P1 St1) (D2:Draws prog w A.in1 i2 fp2 n2 P2 St2) (hz:IsZip s.heap z TI TO .none) (hTI:IsPair s.heap TI (.ref i1) (.ref i2)) (hTO:IsPair s.heap TO a b)
  (s1:St1 k1 s.heap) (l1:k1<n1) (s2:St2 n2 s.heap) (hQ:∀ h' tk,(∀ c o,c≠z->c≠TO->c≠i1->c≠i2->s.heap.get? c=some o->h'.get? c=some o)->Q none { s with heap:=h',toks:=tk }) :
  wpAny (model prog w) A (pyNext (.ref z)) Q E s:=by
 unfold pyNext
 refine wpAny_bind (wpAny_attempt ?_)
 refine wpAny_callSpecial?_slot (name:=Str.ofString "__next__") (T:="zip") ⟨_,hz,rfl⟩ F.slot_zip_next (wpAny_call_entry F.slot_zip_next ⟨_,hz,rfl⟩ F.entry_zip_next (FF Z D1 D2 hz hTI hTO s1 l1 s2 fun h' e tk kk hc=>?_) (F.args_zip_next_1 _))
 show wpAny _ _ (isInstance (.ref e) (.type "StopIteration") >>= _) _ _ _
 exact wpAny_bind (wpAny_isInstance (T:="StopIteration") (b:=true) hc (by first | exact sub_StopIteration | rfl) (wpAny_pure (hQ h' tk kk)))
end
theorem Ij(l1 l2:Addr)(xs ys:Array Value) :
  Meets (Builtin.«zip.__new__» ⟨[.type "zip",.ref l1,.ref l2],[]⟩) (fun _ R s=>s.heap.IsTuple l1 xs/\s.heap.IsTuple l2 ys /\
   ∀ h',IsZip h' (s.heap.objs.size+4) (s.heap.objs.size+2) (s.heap.objs.size+3) .none->IsPair h' (s.heap.objs.size+2) (.ref s.heap.objs.size) (.ref (s.heap.objs.size+1))->IsPair h' (s.heap.objs.size+3) .none .none ->
    h'.IsTupleIter s.heap.objs.size l1 0->h'.IsTupleIter (s.heap.objs.size+1) l2 0->h'.objs.size=s.heap.objs.size+5->(∀ c o,s.heap.get? c=some o->h'.get? c=some o)->R (.ok (.ret (.ref (s.heap.objs.size+4)))) { s with heap:=h' }):=
 .of_wp fun prog w A R s h=>by
  obtain⟨hl,hl2,h⟩:=h
  unfold Builtin.«zip.__new__»
  refine wpAny_bind ?_
  show wpAny _ _ (isType (.type "zip") >>= _) _ _ _
  refine wpAny_bind (wpAny_of_eq (a:=true) (by first | rfl | simp [isType]) ?_)
  show wpAny _ _ (isSubtype (.type "zip") (.type "zip") >>= _) _ _ _
  refine wpAny_bind (wpAny_of_eq sub_zip (wpAny_pure ?_))
  show wpAny _ _ (Builtin.SmallTypes.iterAll [.ref l1,.ref l2] >>= _) _ _ _
  refine wpAny_bind ?_
  unfold Builtin.SmallTypes.iterAll
  refine wpAny_bind ?_
  rw [List.forIn_cons]
  refine wpAny_bind (wpAny_bind (wpAny_holding (wpAny_pyIter_tuple hl (wpAny_pure ?_))))
  have g1:=Heap.get?_push_size s.heap (o:={ cls:=.type "tuple_iterator",data:=.fields #[.ref l1,.int 0 0] }) rfl
  have k1:∀ c o,s.heap.get? c=some o->(s.heap.push { cls:=.type "tuple_iterator",data:=.fields #[.ref l1,.int 0 0] }).get? c=some o:=fun c o=>Heap.get?_push_of_some _
  have z1:(s.heap.push { cls:=.type "tuple_iterator",data:=.fields #[.ref l1,.int 0 0] }).objs.size=s.heap.objs.size+1:=Heap.size_push ..
  generalize s.heap.push { cls:=.type "tuple_iterator",data:=.fields #[.ref l1,.int 0 0] } = h1 at g1 k1 z1 ⊢
  have hl2':h1.IsTuple l2 ys:=by obtain⟨o,ho,r⟩:=hl2;exact⟨o,k1 _ _ ho,r⟩
  show wpAny _ _ (forIn [Value.ref l2] _ _) _ _ _
  rw [List.forIn_cons]
  refine wpAny_bind (wpAny_bind (wpAny_holding (wpAny_pyIter_tuple hl2' (wpAny_pure ?_))))
  dsimp only
  have g2:=Heap.get?_push_size h1 (o:={ cls:=.type "tuple_iterator",data:=.fields #[.ref l2,.int 0 0] }) rfl
  have k2:∀ c o,h1.get? c=some o->(h1.push { cls:=.type "tuple_iterator",data:=.fields #[.ref l2,.int 0 0] }).get? c=some o:=fun c o=>Heap.get?_push_of_some _
  have z2:(h1.push { cls:=.type "tuple_iterator",data:=.fields #[.ref l2,.int 0 0] }).objs.size=s.heap.objs.size+2:=by rw [Heap.size_push,z1]
  generalize h1.push { cls:=.type "tuple_iterator",data:=.fields #[.ref l2,.int 0 0] } = h2 at g2 k2 z2 ⊢
  rw [z1] at g2 ⊢
  show wpAny _ _ (pure _) _ _ _
  refine wpAny_pure (wpAny_pure ?_)
  show wpAny _ _ (newTuple [.ref s.heap.objs.size,.ref (s.heap.objs.size+1)] >>= _) _ _ _
  refine wpAny_bind ?_
  simp only [newTuple]
  refine wpAny_newObj_type ?_ (by size_fits)
  have g3:=Heap.get?_push_size h2 (o:={ cls:=.type "tuple",data:=.seq #[.ref s.heap.objs.size,.ref (s.heap.objs.size+1)] }) rfl
  have k3:∀ c o,h2.get? c=some o->(h2.push { cls:=.type "tuple",data:=.seq #[.ref s.heap.objs.size,.ref (s.heap.objs.size+1)] }).get? c=some o:=fun c o=>Heap.get?_push_of_some _
  have z3:(h2.push { cls:=.type "tuple",data:=.seq #[.ref s.heap.objs.size,.ref (s.heap.objs.size+1)] }).objs.size=s.heap.objs.size+3:=by rw [Heap.size_push,z2]
  dsimp only
  show wpAny _ _ _ _ _ { s with heap:=h2.push { cls:=.type "tuple",data:=.seq #[.ref s.heap.objs.size,.ref (s.heap.objs.size+1)] } }
  generalize h2.push { cls:=.type "tuple",data:=.seq #[.ref s.heap.objs.size,.ref (s.heap.objs.size+1)] } = h3 at g3 k3 z3 ⊢
  rw [z2] at g3 ⊢
  refine wpAny_bind ?_
  show wpAny _ _ (newObj (.type "tuple") (.seq #[.none,.none])) _ _ _
  refine wpAny_newObj_type ?_ (by size_fits)
  have g4:=Heap.get?_push_size h3 (o:={ cls:=.type "tuple",data:=.seq #[.none,.none] }) rfl
  have k4:∀ c o,h3.get? c=some o->(h3.push { cls:=.type "tuple",data:=.seq #[.none,.none] }).get? c=some o:=fun c o=>Heap.get?_push_of_some _
  have z4:(h3.push { cls:=.type "tuple",data:=.seq #[.none,.none] }).objs.size=s.heap.objs.size+4:=by rw [Heap.size_push,z3]
  dsimp only
  generalize h3.push { cls:=.type "tuple",data:=.seq #[.none,.none] } = h4 at g4 k4 z4 ⊢
  rw [z3] at g4 ⊢
  refine wpAny_bind ?_
  show wpAny _ _ (newObj (.type "zip") (.fields #[.none,.bool false,.bool false,.ref (s.heap.objs.size+2),.ref (s.heap.objs.size+3)])) _ _ _
  refine wpAny_newObj_type ?_ (by size_fits)
  have g5:=Heap.get?_push_size h4 (o:={ cls:=.type "zip",data:=.fields #[.none,.bool false,.bool false,.ref (s.heap.objs.size+2),.ref (s.heap.objs.size+3)] }) rfl
  have k5:∀ c o,h4.get? c=some o->(h4.push { cls:=.type "zip",data:=.fields #[.none,.bool false,.bool false,.ref (s.heap.objs.size+2),.ref (s.heap.objs.size+3)] }).get? c=some o:=fun c o=>Heap.get?_push_of_some _
  have z5:(h4.push { cls:=.type "zip",data:=.fields #[.none,.bool false,.bool false,.ref (s.heap.objs.size+2),.ref (s.heap.objs.size+3)] }).objs.size=s.heap.objs.size+5:=by rw [Heap.size_push,z4]
  dsimp only
  generalize h4.push { cls:=.type "zip",data:=.fields #[.none,.bool false,.bool false,.ref (s.heap.objs.size+2),.ref (s.heap.objs.size+3)] } = h5 at g5 k5 z5 ⊢
  rw [z4] at g5 ⊢
  refine wpAny_pure ⟨_,rfl,h h5 g5 (k5 _ _ (k4 _ _ g3)) (k5 _ _ g4) ⟨_,k5 _ _ (k4 _ _ (k3 _ _ (k2 _ _ g1))),rfl,rfl⟩ ⟨_,k5 _ _ (k4 _ _ (k3 _ _ g2)),rfl,rfl⟩ z5 fun c o e=>k5 _ _ (k4 _ _ (k3 _ _ (k2 _ _ (k1 _ _ e))))⟩
section
variable{prog:Program}{w:World}{A:Around}{E:Value->Shared->Prop}{s:Shared}
theorem HM{l1 l2:Addr}{xs ys:Array Value}{Q:Value->Shared->Prop}(hL:s.heap.IsTuple l1 xs)(hL2:s.heap.IsTuple l2 ys)
  (h:∀ h':Heap,IsZip h' (s.heap.objs.size+4) (s.heap.objs.size+2) (s.heap.objs.size+3) .none->IsPair h' (s.heap.objs.size+2) (.ref s.heap.objs.size) (.ref (s.heap.objs.size+1))->IsPair h' (s.heap.objs.size+3) .none .none ->
    h'.IsTupleIter s.heap.objs.size l1 0->h'.IsTupleIter (s.heap.objs.size+1) l2 0->h'.objs.size=s.heap.objs.size+5->(∀ c o,s.heap.get? c=some o->h'.get? c=some o)->Q (.ref (s.heap.objs.size+4)) { s with heap:=h' }) :
  wpAny (model prog w) A (call (.type "zip") [.ref l1,.ref l2]) Q E s:=by
 refine callType_new F.called_zip (by decide) (F.typeCall_zip_2 _ _) (F.newCall_zip_2 _ _) (fun obj=>F.args_object_init_3 obj _ _) F.entry_zip_new (Ij l1 l2 xs ys) ⟨hL,hL2,fun h' a b c d e f g=>?_⟩
 exact⟨⟨_,a,rfl⟩,h h' a b c d e f g⟩
end
end HT
namespace L2
open PySem PySem.Spec PyProof.Rows
section
noncomputable def Itz(K:PySem.W.Frag)(a b:Addr):It:=
 ⟨fun i H=>∃ xs ys x y,lQ K H a xs/\lQ K H b ys/\xs[i]?=some x/\ys[i]?=some y,
 fun i H x H'=>∃ p v u,x=.ref p/\H p=none/\H'=upd H p (.tup [v,u])/\(∀ xs,lQ K H a xs->xs[i]?=some v)/\∀ ys,lQ K H b ys->ys[i]?=some u,
 fun i H=>∃ xs ys,lQ K H a xs/\lQ K H b ys/\(xs.length<=i\/ys.length<=i)⟩
def TnZ(z TI TO i1 i2 a b:Addr)(i:Nat)(h:Heap):Prop:=IsZip h z TI TO .none/\IsPair h TI (.ref i1) (.ref i2)/\(∃ u v,IsPair h TO u v)/\h.IsTupleIter i1 a i/\h.IsTupleIter i2 b i
theorem Bp{prog:Program}{w:World}{A:Around}(hh:A.handled=none)(it a:Addr)(items:Array Value)(i:Nat)(hx:items[i]?=none) :
  Draws prog w A it [it,a] i (fun _ _=>True) (fun j h=>j=i/\h.IsTupleIter it a i/\h.IsTuple a items):=
 {live:=fun _ _ q=>by obtain⟨_,⟨o,ho,_⟩,_⟩:=q;exact⟨o,ho⟩
  frame:=fun _ _ _ q hk=>by
   obtain⟨q0,⟨o,ho,r⟩,⟨o2,ho2,r2⟩⟩:=q
   exact⟨q0,⟨o,hk it (by simp) o ho,r⟩,⟨o2,hk a (by simp) o2 ho2,r2⟩⟩
  item:=fun j _ _ _ hj q _=>absurd q.1 (Nat.ne_of_lt hj)
  done:=fun s Q E q hE=>HT.qk hh q.2.1 q.2.2 hx hE }
theorem Iu{P:Program}{w:World}{K:PySem.W.Frag}{es:List Expr}{k:Nat}{pos:Pos}(a b z TI TO i1 i2:Addr)(Z:HT.zg z TI TO i1 i2 [i1,a] [i2,b]):Ee P w K (.Tuple es k pos) (Itz K a b) [z,TI,TO,i1,i2] z (TnZ z TI TO i1 i2 a b) where
 mem:=by simp
 obj:=fun i h st c hc=>by
  obtain⟨hz,hTI,⟨u,v,hTO⟩,⟨o,ho,hc1,hd⟩,⟨o2,ho2,hc2,hd2⟩⟩:=st
  simp only [List.mem_cons,List.not_mem_nil,or_false] at hc
  rcases hc with rfl | rfl | rfl | rfl | rfl
  ·exact⟨_,hz,fun v z=>by cases z⟩
  ·exact⟨_,hTI,fun v z=>by cases z⟩
  ·exact⟨_,hTO,fun v z=>by cases z⟩
  ·exact⟨o,ho,fun v z=>by rw [hd] at z;cases z⟩
  ·exact⟨o2,ho2,fun v z=>by rw [hd2] at z;cases z⟩
 keep:=fun i h h' st kk=>by
  obtain⟨hz,hTI,⟨u,v,hTO⟩,⟨o,ho,r⟩,⟨o2,ho2,r2⟩⟩:=st
  exact⟨kk z (by simp) _ hz,kk TI (by simp) _ hTI,⟨u,v,kk TO (by simp) _ hTO⟩,⟨o,kk i1 (by simp) _ ho,r⟩,⟨o2,kk i2 (by simp) _ ho2,r2⟩⟩
 item:=by
  intro X hP hw hK hc i pins s σ H E I hf st hg
  subst hP hw hK
  obtain⟨xs,ys,x,y,hq,hq2,hx,hy⟩:=hg
  obtain⟨its,rv,p,hz0⟩:=I.tuple hq
  obtain⟨its2,rv2,p2,hz2⟩:=I.tuple hq2
  have hT:s.heap.IsTuple a its.toArray:=p
  have hT2:s.heap.IsTuple b its2.toArray:=p2
  have hh:=I.ok.hd hc
  obtain⟨hz,hTI,⟨u0,v0,hTO⟩,hit1,hit2⟩:=st
  have li:i<its.toArray.size:=by rw [List.size_toArray,<- rv.length];exact(List.getElem?_eq_some_iff.mp hx).1
  have li2:i<its2.toArray.size:=by rw [List.size_toArray,<- rv2.length];exact(List.getElem?_eq_some_iff.mp hy).1
  have nea:a≠i1:=fun e=>by
   obtain⟨o',ho',hc',_⟩:=hit1
   obtain⟨o,ho,hcl,_⟩:=hT
   rw [e,ho'] at ho;cases ho;rw [hc'] at hcl;exact absurd hcl (by decide)
  have neb:b≠i2:=fun e=>by
   obtain⟨o',ho',hc',_⟩:=hit2
   obtain⟨o,ho,hcl,_⟩:=hT2
   rw [e,ho'] at ho;cases ho;rw [hc'] at hcl;exact absurd hcl (by decide)
  have Tn:∀ c,c∈[z,TI,TO,i1,i2]->s.heap.objs.size≠c:=fun c hc=>by
   simp only [List.mem_cons,List.not_mem_nil,or_false] at hc
   rcases hc with rfl | rfl | rfl | rfl | rfl
   ·exact Nat.ne_of_gt (Heap.lt_size hz)
   ·exact Nat.ne_of_gt (Heap.lt_size hTI)
   ·exact Nat.ne_of_gt (Heap.lt_size hTO)
   ·obtain⟨o,ho,_⟩:=hit1;exact Nat.ne_of_gt (Heap.lt_size ho)
   ·obtain⟨o,ho,_⟩:=hit2;exact Nat.ne_of_gt (Heap.lt_size ho)
  refine HT.zK Z (HT.uw (prog:=X.prog) (w:=X.w) (A:=X.A.in1) hh i1 a nea its.toArray) (HT.uw (prog:=X.prog) (w:=X.w) (A:=X.A.in1) hh i2 b neb its2.toArray) hz hTI hTO ⟨hit1,hT⟩ ⟨hit2,hT2⟩ li li2 fun x' y' h1 tk hx' hy' ez eo st1 st2 hT1 hsz kk=>⟨_,rfl,?_⟩
  refine wpAny_letOwnedTupleGo_zip ez fun h2 ez2 sb=>?_
  generalize hTT:s.heap.objs.size=T at *
  obtain⟨u,hu,ru⟩:=rv.get hx
  obtain⟨u2,hu2,ru2⟩:=rv2.get hy
  have ex:x'=u:=by
   rw [show its.toArray[i]?=its[i]? by simp,hu] at hx'
   exact(Option.some.inj hx').symm
  have ey:y'=u2:=by
   rw [show its2.toArray[i]?=its2[i]? by simp,hu2] at hy'
   exact(Option.some.inj hy').symm
  subst ex ey
  have kall:∀ c o,c ∉ [z,TI,TO,i1,i2]->s.heap.get? c=some o->h2.get? c=some o:=fun c o hb q=>by
   simp only [List.mem_cons,List.not_mem_nil,or_false,not_or] at hb
   exact(sb.2 c hb.1).trans (kk c o hb.1 hb.2.2.1 hb.2.2.2.1 hb.2.2.2.2 q)
  have hTp:IsTupN h2 T #[x',y']:=⟨_,(sb.2 T (Tn z (by simp))).trans hT1,rfl,⟨_,rfl⟩,rfl⟩
  have hTs:s.heap.objs.size<=T:=Nat.le_of_eq hTT
  have TIi:TI≠i1/\TI≠i2:=⟨Z.t1,Z.t2⟩
  refine⟨.ref T,upd H T (.tup [x,y]),I.turnLaid kall hf hTs ⟨by show 2<=sizeLine;decide,[x',y'],.cons ru (.cons ru2 .nil),hTp⟩,rfl,⟨T,x,y,rfl,I.hok.fresh hTs,rfl,fun zs hz=>by rw [I.tuple_inj hz hq];exact hx,fun zs hz=>by rw [I.tuple_inj hz hq2];exact hy⟩,⟨ez2,(sb.2 TI Z.TIz).trans (kk TI _ Z.TIz Z.TITO Z.t1 Z.t2 hTI),⟨x',y',(sb.2 TO Z.TOz).trans eo⟩,?_,?_⟩,fun c hc=>?_⟩
  ·obtain⟨⟨o,ho,r⟩,_⟩:=st1
   exact⟨o,(sb.2 i1 (fun e=>Z.z1 (by simp [e]))).trans ho,r⟩
  ·obtain⟨⟨o,ho,r⟩,_⟩:=st2
   exact⟨o,(sb.2 i2 (fun e=>Z.z2 (by simp [e]))).trans ho,r⟩
  ·rw [bm (Tn c hc).symm]
   exact(hf c hc).1
 done:=by
  intro X hP hw hK hc i pins s σ H E I hf st hg
  subst hP hw hK
  obtain⟨xs,ys,hq,hq2,hl⟩:=hg
  obtain⟨its,rv,p,hz0⟩:=I.tuple hq
  obtain⟨its2,rv2,p2,hz2⟩:=I.tuple hq2
  have hT:s.heap.IsTuple a its.toArray:=p
  have hT2:s.heap.IsTuple b its2.toArray:=p2
  have hh:=I.ok.hd hc
  obtain⟨hz,hTI,⟨u0,v0,hTO⟩,hit1,hit2⟩:=st
  have fin:∀ h' tk,(∀ c o,c≠z->c≠TO->c≠i1->c≠i2->s.heap.get? c=some o->h'.get? c=some o)->(none:Option Value)=none/\Inv X pins σ H { s with heap:=h',toks:=tk }:=fun h' tk kk=>⟨rfl,I.turnedL (fp:=[z,TI,TO,i1,i2]) (fun c o hb q=>by
   simp only [List.mem_cons,List.not_mem_nil,or_false,not_or] at hb
   exact kk c o hb.1 hb.2.2.1 hb.2.2.2.1 hb.2.2.2.2 q) hf⟩
  by_cases h1:xs.length<=i
  ·exact HT.xG Z (Bp (prog:=X.prog) (w:=X.w) (A:=X.A.in1) hh i1 a its.toArray i (by simp;have:=rv.length;omega)) hz hTI hTO ⟨rfl,hit1,hT⟩ fin
  ·have h2:ys.length<=i:=hl.resolve_left h1
   have nea:a≠i1:=fun e=>by
    obtain⟨o',ho',hc',_⟩:=hit1
    obtain⟨o,ho,hcl,_⟩:=hT
    rw [e,ho'] at ho;cases ho;rw [hc'] at hcl;exact absurd hcl (by decide)
   exact HT.xF Z (HT.uw (prog:=X.prog) (w:=X.w) (A:=X.A.in1) hh i1 a nea its.toArray) (Bp (prog:=X.prog) (w:=X.w) (A:=X.A.in1) hh i2 b its2.toArray i (by simp;have:=rv2.length;omega)) hz hTI hTO ⟨hit1,hT⟩ (by simp;have:=rv.length;omega) ⟨rfl,hit2,hT2⟩ fin
 self:=fun A i s Q E st h=>wpAny_pyIter_zip st.1 h
def iZip(K:PySem.W.Frag)(t:TA):TI:=fun σ H R=>t σ H fun xs H1=>∃ a b,xs=[.ref a,.ref b]/\(∃ ys,lQ K H1 a ys)/\(∃ ys,lQ K H1 b ys)/\R (Itz K a b) H1
variable{X:Cx}
theorem Ii{n t t2:Nat}(h1:t<n)(h2:t2<n):HT.zg (n+4) (n+2) (n+3) n (n+1) [n,t] [n+1,t2]:=by
 constructor <;> simp only [List.mem_cons,List.not_mem_nil,or_false,not_or,ne_eq,true_or] <;> (try (show ¬ ((_:Nat)=_))) <;> (try omega)
 all_goals (refine⟨?_,?_⟩ <;> (show ¬ ((_:Nat)=_)) <;> omega)
theorem Mu{n b:Nat}(h:b∈[n+4,n+2,n+3,n,n+1]):n<=b:=by
 simp only [List.mem_cons,List.not_mem_nil,or_false] at h
 omega
theorem QW{a b:Expr}{ta:TA}{es:List Expr}{k:Nat}{tp p pos:Pos}(hg:Gl X "zip")(hm:X.mg "zip" = none)(ha:PA X [a,b] ta)(hs:starEach [a,b] X.env=[(false,eval a X.env),(false,eval b X.env)])(hs2:starEach [b] X.env=[(false,eval b X.env)]) :
  PI X (.Tuple es k tp) (.Call (.Name "zip" p) [a,b] [] pos) (iZip X.K ta):=by
 intro pins s σ H R I h
 refine Call_ (ly I hg hm boot_zip (PyProof.Rows.callWith_type1 (db (ha pos pins s σ H _ I h) fun us s1 ⟨vs,H1,I1,r1,q1⟩=>?_) (by rw [hs,hs2]) (by rw [hs2];rfl)))
 obtain⟨t,t2,rfl,⟨ys,hq⟩,⟨ys2,hq2⟩,q⟩:=q1
 obtain⟨u,v,rfl,ru,rv⟩:=r1.two
 cases ru
 cases rv
 obtain⟨its,rv,pt,hz⟩:=I1.tuple hq
 obtain⟨its2,rv2,pt2,hz2⟩:=I1.tuple hq2
 have l1:t<s1.heap.objs.size:=by obtain⟨o,ho,_⟩:=pt;exact Heap.lt_size ho
 have l2:t2<s1.heap.objs.size:=by obtain⟨o,ho,_⟩:=pt2;exact Heap.lt_size ho
 refine HT.HM pt pt2 fun h' hz hTI hTO hi1 hi2 hsz kk=>wpAny_pyIter_zip hz ?_
 have Z:HT.zg (s1.heap.objs.size+4) (s1.heap.objs.size+2) (s1.heap.objs.size+3) s1.heap.objs.size (s1.heap.objs.size+1) [s1.heap.objs.size,t] [s1.heap.objs.size+1,t2]:=Ii l1 l2
 refine⟨s1.heap.objs.size+4,[s1.heap.objs.size+4,s1.heap.objs.size+2,s1.heap.objs.size+3,s1.heap.objs.size,s1.heap.objs.size+1],_,_,H1,rfl,I1.kept (t':=s1.toks) kk,Iu t t2 _ _ _ _ _ Z,⟨hz,hTI,⟨_,_,hTO⟩,hi1,hi2⟩,fun b hb=>?_,q⟩
 have hb':s1.heap.objs.size<=b:=Mu hb
 exact I1.fpOk hb' (I1.hok.fresh hb')
end
end L2
namespace M
open PySem PySem.Spec PyProof.Rows L2
section
variable{X:Cx}{K:PySem.W.Frag}{μ μ':Fp}{H H':Hp}{S:ac}
noncomputable def jS:List D->List D->List D
 | x::r,y::q=>.tup [x,y]::jS r q
 | _,_=>[]
theorem zl:∀ (xs ys:List D) (i:Nat),(jS xs ys).length<=i->xs.length<=i\/ys.length<=i
 | [],_,i,_=>.inl (Nat.zero_le _)
 | _::_,[],i,_=>.inr (Nat.zero_le _)
 | x::r,y::q,0,h=>by simp [jS] at h
 | x::r,y::q,i+1,h=>by
  rw [jS,List.length_cons] at h
  rcases zl r q i (by omega) with h | h
  ·exact .inl (by rw [List.length_cons];omega)
  ·exact .inr (by rw [List.length_cons];omega)
theorem zm:∀ (xs ys:List D) (i:Nat) (d:D),(jS xs ys)[i]?=some d->∃ x y,xs[i]?=some x/\ys[i]?=some y/\d=.tup [x,y]
 | [],_,i,d,h=>by simp [jS] at h
 | _::_,[],i,d,h=>by simp [jS] at h
 | x::r,y::q,0,d,h=>by simp [jS] at h;exact⟨x,y,rfl,rfl,h.symm⟩
 | x::r,y::q,i+1,d,h=>by
  rw [jS,List.getElem?_cons_succ] at h
  simpa using zm r q i d h
theorem Kt{a b:Addr}{xs ys:List D}(r:Rep K μ H (.ref a) (.tup xs))(q:Rep K μ H (.ref b) (.tup ys)):Eg K μ H (Itz K a b) (jS xs ys):=fun μ' H' S' e s i=>by
 have r':=r.monoP e
 have q':=q.monoP e
 obtain⟨b1,vs,hb,hq,rs⟩:=r'.sqT
 cases hb
 obtain⟨b2,ws,hb,hq2,qs⟩:=q'.sqT
 cases hb
 refine⟨fun d hd=>?_,fun hl=>⟨vs,ws,hq,hq2,by rw [rs.length,qs.length];exact zl _ _ _ hl⟩⟩
 obtain⟨x,y,hx,hy,rfl⟩:=zm xs ys i d hd
 obtain⟨v,hv,rv⟩:=rs.get hx
 obtain⟨u,hu,ru⟩:=qs.get hy
 refine⟨⟨vs,ws,v,u,hq,hq2,hv,hu⟩,fun y H2 hy=>?_⟩
 obtain⟨p,v',u',rfl,hp,rfl,hw,hw2⟩:=hy
 have ev:v'=v:=by have:=hw vs hq;rw [hv] at this;exact(Option.some.inj this).symm
 have eu:u'=u:=by have:=hw2 ws hq2;rw [hu] at this;exact(Option.some.inj this).symm
 subst ev eu
 obtain⟨e2,s2⟩:=s.laid (o:=.tup [v',u']) hp
 refine⟨e2,s2,?_⟩
 exact .tup bw (s.notMem hp) (.cons (rv.mono e2) (.cons (ru.mono e2) .nil))
noncomputable def nV(ms:MA):MA:=fun env S=>(ms env S).bind fun p=>match p.1 with | [.tup xs,.tup ys]=>some (jS xs ys,p.2) | _=>none
theorem Tb{a b:Expr}{ms:MA}{es:List Expr}{k:Nat}{tp p pos:Pos}(hm:X.mg "zip" = none)(ha:DA X [a,b] ms)(hg:Gl X "zip")(hs:starEach [a,b] X.env=[(false,eval a X.env),(false,eval b X.env)])(hs2:starEach [b] X.env=[(false,eval b X.env)]) :
  DI X (.Tuple es k tp) (.Call (.Name "zip" p) [a,b] [] pos) (nV ms):=PI.imp (QW hg hm ha hs hs2) fun σ H R ⟨μ,S,env,xs,S',hS,hE,h,post⟩=>by
 obtain⟨⟨ds,S1⟩,h1,h⟩:=Option.bind_eq_some_iff.mp h
 refine⟨μ,S,env,ds,S1,hS,hE,h1,fun vs H1 μ1 e1 s1 r1=>?_⟩
 dsimp only at h
 split at h
 ·rename_i xs ys
  cases h
  obtain⟨v,u,rfl,rv,ru⟩:=r1.two
  have rv':=rv
  have ru':=ru
  obtain⟨b,ws,rfl,hq,rs⟩:=rv.sqT
  obtain⟨b2,ws2,rfl,hq2,rs2⟩:=ru.sqT
  exact⟨b,b2,rfl,⟨ws,hq⟩,⟨ws2,hq2⟩,post _ H1 μ1 e1 s1 (Kt rv' ru')⟩
 ·cases h
end
end M
namespace M
open PySem PySem.Spec PyProof.Rows L2
section
variable{X:Cx}{K:PySem.W.Frag}{μ μ':Fp}{H H':Hp}{S S':ac}
noncomputable def fg:D->Option bB
 | .int i=>some (.inl i)
 | .str x=>some (.inr x)
 | _=>none
theorem mY{v:V}{d:D}{k:bB}(h:fg d=some k)(r:Rep K μ H v d):v=kV k:=by
 cases d <;> first | cases h | skip
 ·rw [r.int_inv];rfl
 ·rw [r.str_inv];rfl
noncomputable def iV(kvs:List (bB×D))(k:bB):Option D:=match kvs with
 | []=>none
 | p::r=>if p.1=k then some p.2 else iV r k
def GX(kvs:List (bB×D))(k:bB):Bool:=match kvs with
 | []=>false
 | p::r=>if p.1=k then true else GX r k
noncomputable def ML(kvs:List (bB×D))(k:bB)(d:D):List (bB×D):=match kvs with
 | []=>[]
 | p::r=>(if p.1=k then (p.1,d) else p)::ML r k d
noncomputable def Jf(kvs:List (bB×D))(k:bB)(d:D):List (bB×D):=if GX kvs k then ML kvs k d else kvs++[(k,d)]
noncomputable def cD(kvs:List (bB×D)):List (bB×D)->List (bB×D)
 | []=>kvs
 | p::r=>cD (Jf kvs p.1 p.2) r
inductive KR(K:PySem.W.Frag)(μ:Fp)(H:Hp):List (bB×V)->List (bB×D)->Prop
 | nil:KR K μ H [] []
 | cons {k:bB} {v:V} {d:D} {vs:List (bB×V)} {ds:List (bB×D)} (h:Rep K μ H v d) (t:KR K μ H vs ds):KR K μ H ((k,v)::vs) ((k,d)::ds)
theorem KR.keys:∀ {vs ds},KR K μ H vs ds->vs.map (·.1)=ds.map (·.1)
 | _,_,.nil=>rfl
 | _,_,.cons _ t=>by rw [List.map_cons,List.map_cons,KR.keys t]
theorem KR.reps:∀ {vs ds},KR K μ H vs ds->Reps K μ H (vs.map (·.2)) (ds.map (·.2))
 | _,_,.nil=>.nil
 | _,_,.cons h t=>.cons h (KR.reps t)
theorem KR.length:∀ {vs ds},KR K μ H vs ds->vs.length=ds.length
 | _,_,.nil=>rfl
 | _,_,.cons _ t=>by rw [List.length_cons,List.length_cons,KR.length t]
theorem KR.less{p:Addr}{cs fb:List Addr}:∀ {vs ds},KR K ⟨cs,p::fb⟩ H vs ds->KR K ⟨cs,fb⟩ H vs ds
 | _,_,.nil=>.nil
 | _,_,.cons h t=>.cons h.less (KR.less t)
theorem KR.chg{p:Addr}{o:HO}(hp:p ∈ μ.fb):∀ {vs ds},KR K μ H vs ds->KR K μ (upd H p o) vs ds
 | _,_,.nil=>.nil
 | _,_,.cons h t=>.cons (h.chg hp) (KR.chg hp t)
theorem KR.of:∀ {kvs:List (bB×V)} {ks:List bB} {ds:List D},ks=kvs.map (·.1)->Reps K μ H (kvs.map (·.2)) ds->KR K μ H kvs (ks.zip ds)
 | [],_,_,e,r=>by subst e;cases r;exact .nil
 | p::q,_,_,e,r=>by
  subst e
  rw [List.map_cons] at r
  cases r with | cons h t=>exact .cons h (KR.of rfl t)
theorem KR.val{k:bB}:∀ {vs ds},KR K μ H vs ds->∀ {d},iV ds k=some d->∃ v,rZ vs k=some v/\Rep K μ H v d
 | _,_,.nil,d,h=>by cases h
 | _,_,.cons (k:=k') h t,d,q=>by
  unfold iV at q
  split at q
  ·rename_i e;cases q;exact⟨_,rX e,h⟩
  ·rename_i e
   obtain⟨v,h1,h2⟩:=KR.val t q
   exact⟨v,(rY e).trans h1,h2⟩
theorem KR.has{k:bB}:∀ {vs ds},KR K μ H vs ds->(vs.any fun kv=>decide (kv.1=k))=GX ds k
 | _,_,.nil=>rfl
 | _,_,.cons (k:=k') h t=>by
  rw [List.any_cons,KR.has t]
  unfold GX
  by_cases e:k'=k
  ·simp [e]
  ·simp only [decide_eq_false e,Bool.false_or,if_neg e];cases t <;> rfl
theorem KR.setv{k:bB}{x:V}{d:D}(r:Rep K μ H x d):∀ {vs ds},KR K μ H vs ds->KR K μ H (vs.map fun kv=>if kv.1=k then (kv.1,x) else kv) (ML ds k d)
 | _,_,.nil=>.nil
 | _,_,.cons (k:=k') h t=>by
  rw [List.map_cons]
  unfold ML
  by_cases e:k'=k
  ·simp only [if_pos e];exact .cons r (KR.setv r t)
  ·simp only [if_neg e];exact .cons h (KR.setv r t)
theorem KR.snoc{k:bB}{x:V}{d:D}(r:Rep K μ H x d):∀ {vs ds},KR K μ H vs ds->KR K μ H (vs++[(k,x)]) (ds++[(k,d)])
 | _,_,.nil=>.cons r .nil
 | _,_,.cons h t=>.cons h (KR.snoc r t)
theorem KR.put{k:bB}{x:V}{d:D}{vs ds}(r:Rep K μ H x d)(t:KR K μ H vs ds):KR K μ H (uY vs k x) (Jf ds k d):=by
 unfold uY Jf
 rw [t.has]
 split
 ·exact t.setv r
 ·exact t.snoc r
theorem KR.merge:∀ {ws es vs ds},KR K μ H ws es->KR K μ H vs ds->KR K μ H (iZ vs ws) (cD ds es)
 | _,_,_,_,.nil,t=>t
 | _,_,vs,ds,.cons (k:=k) (v:=v) (d:=d) h q,t=>by
  have:=KR.merge q (t.put (k:=k) h)
  exact this
abbrev MP:=bn->ac->Option (List (bB×D)×ac)
noncomputable def jV:List (ME×ME)->MP
 | []=>fun _ S=>some ([],S)
 | (a,b)::r=>fun env S=>(a env S).bind fun p=>(fg p.1).bind fun k=>(b env p.2).bind fun q=>(jV r env q.2).bind fun z=>some ((k,q.1)::z.1,z.2)
def DPs(X:Cx)(pos:Pos)(keys:List (Option Expr))(values:List Expr)(ms:List (ME×ME)):Prop:=PPs X pos keys values (ms.map fun p=>(tM X.K p.1,tM X.K p.2))
theorem OO{pos:Pos}:DPs X pos [] [] []:=Nj
theorem LF{pos:Pos}{k v:Expr}{ks:List (Option Expr)}{vs:List Expr}{mk mv:ME}{ms:List (ME×ME)}(hk:DE X k mk)(hv:DE X v mv)(hr:DPs X pos ks vs ms):DPs X pos (some k::ks) (v::vs) ((mk,mv)::ms):=Jo hk hv hr
theorem pH{σ:L2.St}{env:bn}:∀ {ms:List (ME×ME)} {μ:Fp} {H:Hp} {S S':ac} {kvs:List (bB×D)} {Q:List (V×V)->Hp->Prop},SOk K μ S H->EOk K μ H σ env->jV ms env S=some (kvs,S') ->
  (∀ vs H' μ',Ext μ H μ' H'->SOk K μ' S' H'->KR K μ' H' vs kvs->Q (vs.map fun kv=>(kV kv.1,kv.2)) H')->xf (ms.map fun p=>(tM K p.1,tM K p.2)) σ H Q
 | [],μ,H,S,S',kvs,Q,s,e,h,q=>by cases h;exact q [] H μ s.ext s .nil
 | (a,b)::r,μ,H,S,S',kvs,Q,s,e,h,q=>by
  obtain⟨⟨x,S1⟩,h1,h⟩:=Option.bind_eq_some_iff.mp h
  obtain⟨k,h2,h⟩:=Option.bind_eq_some_iff.mp h
  obtain⟨⟨y,S2⟩,h3,h⟩:=Option.bind_eq_some_iff.mp h
  obtain⟨⟨zs,S3⟩,h4,h⟩:=Option.bind_eq_some_iff.mp h
  cases h
  refine⟨μ,S,env,x,S1,s,e,h1,fun v H1 μ1 e1 s1 r1=>⟨μ1,S1,env,y,S2,s1,e.mono e1,h3,fun w H2 μ2 e2 s2 r2=>pH s2 ((e.mono e1).mono e2) h4 fun vs H3 μ3 e3 s3 r3=>?_⟩⟩
  have:=q ((k,w)::vs) H3 μ3 ((e1.trans e2).trans e3) s3 (.cons (r2.mono e3) r3)
  rw [List.map_cons] at this
  rw [mY h2 r1]
  exact this
theorem Ext.shut{p:Addr}{o o':HO}{cs fb:List Addr}{μ2:Fp}{H2:Hp}{S2:ac}(hp:H p=none)(hn:p ∉ fb)(e:Ext ⟨cs,p::fb⟩ (upd H p o) μ2 H2)(s:SOk K μ2 S2 H2) :
  Ext ⟨cs,fb⟩ H ⟨μ2.cs,fb⟩ (upd H2 p o')/\SOk K ⟨μ2.cs,fb⟩ S2 (upd H2 p o')/\(⟨μ2.cs,fb⟩:Fp).no p/\(∀ vs ds,KR K μ2 H2 vs ds->KR K ⟨μ2.cs,fb⟩ (upd H2 p o') vs ds)/\H2 p=some o:=by
 have pm:p ∈ μ2.fb:=by rw [e.fb];exact List.mem_cons_self
 have ncs:p ∉ μ2.cs:=s.disj p pm
 have ncs0:p ∉ cs:=fun z=>ncs (by obtain⟨l,q,_⟩:=e.pre;rw [q];exact List.mem_append_left _ z)
 have ef:μ2=⟨μ2.cs,p::fb⟩:=by have:=e.fb;obtain⟨a,b⟩:=μ2;simp only at this;rw [this]
 refine⟨⟨rfl,?_,fun a o2 na ha=>?_,fun a ha=>?_⟩,?_,⟨ncs,?_⟩,fun vs ds r=>?_,e.keep p o ncs0 bw⟩
 ·obtain⟨l,q,hl⟩:=e.pre
  refine⟨l,q,fun a ha=>?_⟩
  have:=hl a ha
  by_cases z:a=p
  ·subst z;exact hp
  ·rwa [bm z] at this
 ·have z:=cw ha hp
  rw [bm z]
  exact e.keep a o2 na ((bm z).trans ha)
 ·have z:a≠p:=fun z=>ncs (z ▸ ha)
  rw [bm z];exact e.dom a ha
 ·have:=(s.chg (o:=o') pm)
  rw [ef] at this
  exact this.less
 ·exact hn
 ·have:=r.chg (o:=o') pm
  rw [ef] at this
  exact this.less
noncomputable def iG(ms:List (ME×ME)):ME:=fun env S=>(jV ms env S).bind fun z=>if z.1.length<=15 then some (.dct ((cD [] z.1).map (·.1)) ((cD [] z.1).map (·.2)),z.2) else none
theorem OX{pos:Pos}{keys:List (Option Expr)}{values:List Expr}{ms:List (ME×ME)}(h:DPs X pos keys values ms)(hall:keys.all (·.isSome)=true)(hl:keys.length=values.length)(h0:keys≠[])(h15:keys.length<=15) :
  DE X (.Dict keys values pos) (iG ms):=PE.imp (Ex h hall hl h0 h15) fun σ H Q ⟨μ,S,env,d,S',hS,hE,hm,post⟩=>by
 obtain⟨⟨kvs,S1⟩,h1,hm⟩:=Option.bind_eq_some_iff.mp hm
 dsimp only at hm
 split at hm
 ·rename_i hl
  cases hm
  intro p hp
  obtain⟨cs,fb⟩:=μ
  refine pH (hS.more hp) (hE.more hp) h1 fun vs H2 μ2 e2 s2 r2=>?_
  obtain⟨eF,sF,nF,rF,hF⟩:=Ext.shut (o':=.dK (iZ [] vs)) hp (hS.notMem hp).2 e2 s2
  refine⟨hF,vs,rfl,by rw [r2.length];exact hl,post _ _ _ eF sF ?_⟩
  have rr:=(rF _ _ r2).merge KR.nil
  have:=Rep.dct (K:=X.K) (bw (H:=H2) (o:=.dK (iZ [] vs))) nF rr.reps
  rw [rr.keys] at this
  exact this
 ·cases hm
noncomputable def zr(S:ac):D->Option (List (bB×D))
 | .dct ks vs=>some (ks.zip vs)
 | .ref r=>match S[r]? with | some (.dct ks vs)=>some (ks.zip vs) | _=>none
 | _=>none
theorem Mz{v:V}{d:D}{kvs:List (bB×D)}(s:SOk K μ S H)(r:Rep K μ H v d)(h:zr S d=some kvs):∃ a vs,v=.ref a/\H a=some (.dK vs)/\KR K μ H vs kvs:=by
 cases r with
 | dct hd n rr=>cases h;exact⟨_,_,rfl,hd,KR.of rfl rr⟩
 | ref hr=>
  rename_i a i
  unfold zr at h
  dsimp only at h
  cases q:S[i]? with
  | none=>rw [q] at h;cases h
  | some c=>
   rw [q] at h
   have ck:=s.cell _ _ _ hr q
   cases c with
   | lst _=>cases h
   | dct ks xs=>cases h;obtain⟨vs,e,hk,rr⟩:=ck;exact⟨a,vs,rfl,e,KR.of hk rr⟩
 | _=>cases h
noncomputable def av(S:ac)(x y:D):Option D:=match zr S x with
 | some kvs=>(fg y).bind fun k=>iV kvs k
 | none=>fIx S x y
theorem Oc(hu:X.A.units+1<cLine):IxR X (fun x y H Q=>∃ a v,x=.ref a/\DGet H a y (some v)/\Q v H):=by
 intro value slice pins s σ H x y v u Q I rx ry h hs
 obtain⟨a,z,rfl,g,q⟩:=h
 cases rx
 exact tail_any (Bs I g) F.slot_dict_getitem.lookup (HE hu I g ry fun w' s' I' rw'=>⟨z,H,I',rw',q⟩) hs
theorem ix_DX(hu:X.A.units+1<cLine):IxR X (nw X.K av):=IxR.imp ((Oc hu).or ix_D) fun x y H Q ⟨μ,S,dx,dy,dz,hS,h1,h2,h3,post⟩=>by
 unfold av at h3
 split at h3
 ·rename_i kvs hk
  obtain⟨k,h4,h5⟩:=Option.bind_eq_some_iff.mp h3
  obtain⟨a,vs,rfl,ha,rr⟩:=Mz hS h1 hk
  obtain⟨v,h6,h7⟩:=rr.val h5
  refine .inl ⟨a,v,rfl,?_,post.here hS h7⟩
  rw [mY h4 h2,<- h6]
  exact DGet.k ha
 ·exact .inr ⟨μ,S,dx,dy,dz,hS,h1,h2,h3,post⟩
theorem Tq{a b:Expr}{ma mb:ME}{pos:Pos}(hu:X.A.units+1<cLine)(ha:DE X a ma)(hb:DE X b mb)(hs:nu b:=by intro _ _;rfl):DE X (.Subscript a b pos) (au av ma mb):=
 PE.imp (Ju (ix_DX hu) ha hb hs) fun _ _ _ h=>xh h
end
end M
namespace L2
open PySem PySem.Spec PyProof.Rows
section
variable{X:Cx}{o e:Expr}{es:List Expr}{to:TE}{t:TA}{name:Str}{apos cpos:Pos}{id:String}{r:V->List V->Hp->VK->Prop}
def tBD(r:V->List V->Hp->VK->Prop)(to:TE)(t:TA):TE:=fun σ H Q=>to σ H fun x H1=>(∃ p,x=.ref p/\IsD H1 p)/\t σ H1 fun xs H2=>r x xs H2 Q
theorem Ri(slot:Slot "dict" name id)(hty:typeOf (.builtin id)=pure (.type "method_descriptor"))(hm:MtR X id r)(ho:PE X o to)(ha:PA X (e::es) t)
  (hbase:attributeBase o name X.env (eval o X.env)=eval o X.env)
  (hfew:((backTo cpos (starEach (e::es) X.env)).all (fun x=>!x.1)&&(backToKw cpos (keywordEach [] X.env)).all (fun x=>x.1.isSome)&&decide ((e::es).length+([]:List Keyword).length+(if ([]:List Keyword).isEmpty then 0 else 1)<30))=true)
  (hline:(apos.endLine == cpos.line)=true) (hs:starEach (e::es) X.env=(false,eval e X.env)::starEach es X.env) (hplain:(backTo cpos (starEach es X.env)).any (·.1)=false) :
  PE X (.Call (.Attribute o name apos) (e::es) [] cpos) (tBD r to t):=by
 intro pins s σ H Q I h
 refine wpAny_Call_method_late hbase hfew hline rfl (db (ho pins s σ H _ I h) fun v s1 ⟨x,H1,I1,r1,ty,q1⟩=>?_)
 obtain⟨p,rfl,hq⟩:=ty
 cases r1
 obtain⟨t1,t2,_⟩:=So I1 hq
 refine⟨"dict",id,F.plainAttrs_dict,slot,hty,t1,t2,?_⟩
 have hA:=ha cpos pins s1 σ H1 _ I1 q1
 rw [hs] at hA ⊢
 refine Calls.callWith_builtin (by show (false||(backTo cpos (starEach es X.env)).any (·.1))=false;rw [hplain] <;> rfl) (Calls.evalArgs_plain ?_)
 exact db hA fun us s2 ⟨vs,H2,I2,r2,q2⟩=>hm pins s2 σ H2 (V.ref p) vs _ us Q I2 (show RelV (V.ref p) (Value.ref p) from rfl) r2 q2
theorem Cu:MtR X "dict.update" (fun x xs H Q=>∃ a b kvs more,x=.ref a/\xs=[.ref b]/\a≠b/\H a=some (.dK kvs)/\H b=some (.dK more)/\kvs.length+more.length<=sizeLine/\Q .non (upd H a (.dK (iZ kvs more)))):=by
 intro pins s σ H x xs v us Q I rx rv h
 obtain⟨a,b,kvs,more,rfl,rfl,ne,ha,hb,hl,q⟩:=h
 cases rx
 obtain⟨u,rfl,ru⟩:=rv.one
 cases ru
 obtain⟨z,hd,vs,r0,dd⟩:=LJ I.hok ha
 obtain⟨z2,hd2,vs2,r2,dd2⟩:=LJ I.hok hb
 have l1:=r0.length
 have l2:=r2.length
 refine call_meetsIn F.slot_dict_update dd.typeIs F.entry_dict_update (F.args_dict_update_2 _ _) (meets_dict_update (bZ X.prog X.w) a b ne hd2) ⟨vs,vs2,dd,dd2,by omega,fun h' dd' _ hs=>?_⟩
 have hz:(iZ kvs more).length<=sizeLine:=by
  have h1:=jY more kvs
  omega
 have he:∃ q,h'.get? a=some q:=let ⟨q,_,_,hq,_⟩:=dd';⟨q,hq⟩
 exact⟨.non,_,Fv I (by rw [ha];exact True.intro) hs he (LK hz hd (r2.merge r0) dd'),rfl,q⟩
end
end L2
namespace M
open PySem PySem.Spec PyProof.Rows L2
section
variable{X:Cx}{K:PySem.W.Frag}{μ μ':Fp}{H H':Hp}{S S':ac}
theorem SOk.writeD{S:ac}(s:SOk K μ S H){i:Nat}{a:Addr}{kvs kvs':List (bB×V)}{ks:List bB}{ds:List D}(hi:μ.cs[i]?=some a)(h:H a=some (.dK kvs))(hk:ks=kvs'.map (·.1))(r:Reps K μ H (kvs'.map (·.2)) ds) :
  Ext μ H μ (upd H a (.dK kvs'))/\SOk K μ (S.set i (.dct ks ds)) (upd H a (.dK kvs')):=by
 have ha:=List.mem_of_getElem? hi
 have e:Ext μ H μ (upd H a (.dK kvs')):=⟨rfl,⟨[],by simp,fun _ z=>by simp at z⟩,fun b o' n q=>by rw [bm (by rintro rfl;exact n ha)];exact q,fun b hb=>by
  by_cases z:b=a
  ·subst z;rw [bw];simp
  ·rw [bm z];exact s.dom b hb⟩
 refine⟨e,s.nd,by simp [s.len],fun j b c h1 h2=>?_,fun b hb=>?_,s.disj⟩
 case refine_2=>
  by_cases z:b=a
  ·subst z;rw [bw];simp
  ·rw [bm z];exact s.fdom b hb
 by_cases hj:j=i
 ·subst hj
  rw [hi] at h1;cases h1
  have hl:j<S.length:=by rw [<- s.len];exact(List.getElem?_eq_some_iff.mp hi).1
  rw [List.getElem?_set_self hl] at h2
  cases h2
  exact⟨kvs',bw,hk,r.mono e⟩
 ·rw [List.getElem?_set_ne (Ne.symm hj)] at h2
  refine(s.cell j b c h1 h2).mono e (bm fun z=>hj ?_)
  subst z
  exact ED s.nd h1 hi
theorem Ab{p a:Addr}{cs fb:List Addr}(n:(⟨cs,p::fb⟩:Fp).no a):(⟨cs++[p],fb⟩:Fp).no a:=
 ⟨fun z=>(List.mem_append.mp z).elim n.1 fun z=>n.2 (by rw [List.mem_singleton.mp z];exact List.mem_cons_self),fun z=>n.2 (List.mem_cons_of_mem _ z)⟩
theorem Rep.adopt{p:Addr}{cs fb:List Addr}{v:V}{d:D}(r:Rep K ⟨cs,p::fb⟩ H v d):Rep K ⟨cs++[p],fb⟩ H v d:=r.imp (fun h n=>⟨h,Ab n⟩) fun h=>zd rfl h
theorem Reps.adopt{p:Addr}{cs fb:List Addr}{v:List V}{d:List D}(r:Reps K ⟨cs,p::fb⟩ H v d):Reps K ⟨cs++[p],fb⟩ H v d:=r.imp (fun h n=>⟨h,Ab n⟩) fun h=>zd rfl h
theorem KR.adopt{p:Addr}{cs fb:List Addr}:∀ {vs ds},KR K ⟨cs,p::fb⟩ H vs ds->KR K ⟨cs++[p],fb⟩ H vs ds
 | _,_,.nil=>.nil
 | _,_,.cons h t=>.cons h.adopt (KR.adopt t)
theorem Ext.shutR{p:Addr}{o:HO}{cs fb:List Addr}{μ2:Fp}{H2:Hp}{S2:ac}{vs:List (bB×V)}{kvs:List (bB×D)}(hp:H p=none)(hn:p ∉ fb)(e:Ext ⟨cs,p::fb⟩ (upd H p o) μ2 H2)(s:SOk K μ2 S2 H2)(r:KR K μ2 H2 vs kvs) :
  Ext ⟨cs,fb⟩ H ⟨μ2.cs++[p],fb⟩ (upd H2 p (.dK vs))/\SOk K ⟨μ2.cs++[p],fb⟩ (S2++[.dct (kvs.map (·.1)) (kvs.map (·.2))]) (upd H2 p (.dK vs))/\H2 p=some o:=by
 have pm:p ∈ μ2.fb:=by rw [e.fb];exact List.mem_cons_self
 have ncs:p ∉ μ2.cs:=s.disj p pm
 have ncs0:p ∉ cs:=fun z=>ncs (by obtain⟨l,q,_⟩:=e.pre;rw [q];exact List.mem_append_left _ z)
 have ef:μ2.fb=p::fb:=e.fb
 obtain⟨cs2,fb2⟩:=μ2
 simp only at ef pm ncs
 subst ef
 refine⟨⟨rfl,?_,fun a o2 na ha=>?_,fun a ha=>?_⟩,⟨?_,by simp [s.len],fun i a c h1 h2=>?_,fun a ha=>?_,fun a ha z=>?_⟩,e.keep p o ncs0 bw⟩
 ·obtain⟨l,q,hl⟩:=e.pre
  simp only at q
  refine⟨l++[p],by rw [q,List.append_assoc],fun a ha=>?_⟩
  rcases List.mem_append.mp ha with ha | ha
  ·have:=hl a ha
   by_cases z:a=p
   ·subst z;exact hp
   ·rwa [bm z] at this
  ·rw [List.mem_singleton.mp ha];exact hp
 ·have z:=cw ha hp
  rw [bm z]
  exact e.keep a o2 na ((bm z).trans ha)
 ·by_cases z:a=p
  ·subst z;rw [bw];simp
  ·rw [bm z]
   rcases List.mem_append.mp ha with ha | ha
   ·exact e.dom a ha
   ·exact absurd (List.mem_singleton.mp ha) z
 ·exact List.nodup_append.mpr ⟨s.nd,by simp,fun a ha b hb=>by rw [List.mem_singleton.mp hb];exact fun z=>ncs (z ▸ ha)⟩
 ·have sc:=s.chg (o:=.dK vs) pm
  by_cases hi:i<cs2.length
  ·rw [List.getElem?_append_left hi] at h1
   rw [List.getElem?_append_left (by rw [<- s.len];exact hi)] at h2
   have ck:=sc.cell i a c h1 h2
   cases c with
   | lst ds=>obtain⟨ws,h,r⟩:=ck;exact⟨ws,h,r.adopt⟩
   | dct ks ds=>obtain⟨ws,h,q,r⟩:=ck;exact⟨ws,h,q,r.adopt⟩
  ·have hi':i=cs2.length:=by
    have:=(List.getElem?_eq_some_iff.mp h1).1
    simp at this;omega
   subst hi'
   rw [List.getElem?_append_right (Nat.le_refl _)] at h1
   rw [show cs2.length=S2.length from s.len,List.getElem?_append_right (Nat.le_refl _)] at h2
   simp at h1 h2
   subst h1 h2
   have rc:=(r.chg (o:=.dK vs) pm).adopt
   exact⟨vs,bw,rc.keys.symm,rc.reps⟩
 ·by_cases z:a=p
  ·subst z;rw [bw];simp
  ·rw [bm z];exact s.fdom a (List.mem_cons_of_mem _ ha)
 ·rcases List.mem_append.mp z with z | z
  ·exact s.disj a (List.mem_cons_of_mem _ ha) z
  ·exact hn (List.mem_singleton.mp z ▸ ha)
noncomputable def fK(ms:List (ME×ME)):ME:=fun env S=>(jV ms env S).bind fun z=>if z.1.length<=15 then some (.ref z.2.length,z.2++[.dct ((cD [] z.1).map (·.1)) ((cD [] z.1).map (·.2))]) else none
theorem LS{pos:Pos}{keys:List (Option Expr)}{values:List Expr}{ms:List (ME×ME)}(h:DPs X pos keys values ms)(hall:keys.all (·.isSome)=true)(hl:keys.length=values.length)(h0:keys≠[])(h15:keys.length<=15) :
  DE X (.Dict keys values pos) (fK ms):=PE.imp (Ex h hall hl h0 h15) fun σ H Q ⟨μ,S,env,d,S',hS,hE,hm,post⟩=>by
 obtain⟨⟨kvs,S1⟩,h1,hm⟩:=Option.bind_eq_some_iff.mp hm
 dsimp only at hm
 split at hm
 ·rename_i hl
  cases hm
  intro p hp
  obtain⟨cs,fb⟩:=μ
  refine pH (hS.more hp) (hE.more hp) h1 fun vs H2 μ2 e2 s2 r2=>?_
  obtain⟨eF,sF,hF⟩:=Ext.shutR hp (hS.notMem hp).2 e2 s2 (r2.merge KR.nil)
  exact⟨hF,vs,rfl,by rw [r2.length];exact hl,post _ _ _ eF sF (.ref (by rw [<- s2.len];simp))⟩
 ·cases hm
noncomputable def LW(S:ac):D->Bool
 | .dct _ _=>true
 | .ref r=>match S[r]? with | some (.dct _ _)=>true | _=>false
 | _=>false
theorem Pb{v:V}{d:D}(s:SOk K μ S H)(r:Rep K μ H v d)(h:LW S d=true):∃ a,v=.ref a/\IsD H a:=by
 cases r with
 | dct hd n rr=>exact⟨_,rfl,.inl ⟨_,.inl hd⟩⟩
 | ref hr=>
  rename_i a i
  unfold LW at h
  dsimp only at h
  cases q:S[i]? with
  | none=>rw [q] at h;cases h
  | some c=>
   rw [q] at h
   have ck:=s.cell _ _ _ hr q
   cases c with
   | lst _=>cases h
   | dct ks xs=>obtain⟨vs,e,hk,rr⟩:=ck;exact⟨a,rfl,.inl ⟨_,.inl e⟩⟩
 | _=>cases h
noncomputable def fGetD:MF:=fun o ds S=>(zr S o).bind fun kvs=>match ds with
 | [y]=>(fg y).bind fun k=>some ((iV kvs k).getD .non,S)
 | [y,d]=>(fg y).bind fun k=>some ((iV kvs k).getD d,S)
 | _=>none
noncomputable def um:MF:=fun o ds S=>match o,ds with
 | .ref r,[.dct ks2 vs2]=>match S[r]? with
  | some (.dct ks vs)=>if ks.length+ks2.length<=sizeLine then some (.non,S.set r (.dct ((cD (ks.zip vs) (ks2.zip vs2)).map (·.1)) ((cD (ks.zip vs) (ks2.zip vs2)).map (·.2)))) else none
  | _=>none
 | _,_=>none
theorem NN:MtR X "dict.update" (Ms X.K um):=MtR.imp Cu fun x vs H Q ⟨μ,S,dx,ds,d,S',hS,r1,r2,h,post⟩=>by
 unfold um at h
 split at h
 ·rename_i r ks2 vs2
  cases q:S[r]? with
  | none=>rw [q] at h;cases h
  | some c=>
   rw [q] at h
   cases c with
   | lst _=>cases h
   | dct ks xs=>
    dsimp only at h
    split at h
    ·rename_i hz
     cases h
     obtain⟨v,rfl,rv⟩:=r2.one
     cases r1 with
     | @ref a _ h'=>
      obtain⟨kvs,hw,hk,rw'⟩:=hS.cell r a _ h' q
      cases rv with
      | @dct b more _ hb nb rb=>
       have k1:=KR.of hk rw'
       have k2:=KR.of rfl rb
       have kk:=k2.merge k1
       obtain⟨e,s'⟩:=hS.writeD h' hw (kvs':=iZ kvs more) (ks:=(cD (ks.zip xs) ((more.map (·.1)).zip vs2)).map (·.1)) kk.keys.symm kk.reps
       refine⟨a,b,kvs,more,rfl,rfl,fun z=>nb.1 (z ▸ List.mem_of_getElem? h'),hw,hb,?_,post _ _ μ e s' .non⟩
       rw [hk,List.length_map,List.length_map] at hz
       exact hz
    ·cases h
 ·cases h
noncomputable def fI(f:MF)(o:ME)(ms:MA):ME:=fun env S=>(o env S).bind fun p=>if LW p.2 p.1=true then (ms env p.2).bind fun q=>f p.1 q.1 q.2 else none
theorem LQ{o e:Expr}{es:List Expr}{mo:ME}{ms:MA}{f:MF}{name:Str}{id:String}{apos cpos:Pos}(slot:Slot "dict" name id)(hty:typeOf (.builtin id)=pure (.type "method_descriptor"))(hm:MtR X id (Ms X.K f))(ho:DE X o mo)(ha:DA X (e::es) ms)
  (hbase:attributeBase o name X.env (eval o X.env)=eval o X.env)
  (hfew:((backTo cpos (starEach (e::es) X.env)).all (fun x=>!x.1)&&(backToKw cpos (keywordEach [] X.env)).all (fun x=>x.1.isSome)&&decide ((e::es).length+([]:List Keyword).length+(if ([]:List Keyword).isEmpty then 0 else 1)<30))=true)
  (hline:(apos.endLine == cpos.line)=true) (hs:starEach (e::es) X.env=(false,eval e X.env)::starEach es X.env) (hpl:(backTo cpos (starEach es X.env)).any (·.1)=false) :
  DE X (.Call (.Attribute o name apos) (e::es) [] cpos) (fI f mo ms):=
 PE.imp (Ri slot hty hm ho ha hbase hfew hline hs hpl) fun σ H Q ⟨μ,S,env,d,S',hS,hE,h,post⟩=>by
  obtain⟨⟨x,S1⟩,h1,h⟩:=Option.bind_eq_some_iff.mp h
  dsimp only at h
  split at h
  ·rename_i hl
   obtain⟨⟨xs,S2⟩,h2,h⟩:=Option.bind_eq_some_iff.mp h
   refine⟨μ,S,env,x,S1,hS,hE,h1,fun v H1 μ1 e1 s1 r1=>⟨?_,μ1,S1,env,xs,S2,s1,hE.mono e1,h2,fun vs H2 μ2 e2 s2 r2=>⟨μ2,S2,x,xs,d,S',s2,r1.mono e2,r2,h,(post.ext e1).ext e2⟩⟩⟩
   exact Pb s1 r1 hl
  ·cases h
end
end M
namespace L2
open PySem PySem.Spec PyProof.Rows
section
variable{X:Cx}{a b:Expr}{rest:List Expr}{ta tb:TE}{pos:Pos}
def tAndX(K:PySem.W.Frag)(ta tb:TE):TE:=fun σ H Q=>ta σ H fun x H1=>∃ c,Ia K x H1 c/\if c=true then tb σ H1 Q else Q x H1
def tOrX(K:PySem.W.Frag)(ta tb:TE):TE:=fun σ H Q=>ta σ H fun x H1=>∃ c,Ia K x H1 c/\if c=true then Q x H1 else tb σ H1 Q
def tNotX(K:PySem.W.Frag)(ta:TE):TE:=fun σ H Q=>ta σ H fun x H1=>∃ c,Ia K x H1 c/\Q (.bl (!c)) H1
theorem Nw(ha:PE X a ta)(hb:PE X (.BoolOp .And (b::rest) pos) tb):PE X (.BoolOp .And (a::b::rest) pos) (tAndX X.K ta tb):=by
 intro pins s σ H Q I h
 refine BoolOp_and (db (ha pins s σ H _ I h) fun v s1 ⟨x,H1,I1,r1,q1⟩=>?_)
 obtain⟨c,tv,q1⟩:=q1
 refine db (xc pins s1 σ H1 x v (fun k H'=>k=c/\H'=H1) I1 r1 ⟨c,tv,rfl,rfl⟩) fun k s2 z=>?_
 obtain⟨H2,I2,rfl,rfl⟩:=z
 cases k with
 | true=>exact hb pins s2 σ H2 Q I2 q1
 | false=>exact⟨x,H2,I2,r1,q1⟩
theorem Rc(ha:PE X a ta)(hb:PE X (.BoolOp .Or (b::rest) pos) tb):PE X (.BoolOp .Or (a::b::rest) pos) (tOrX X.K ta tb):=by
 intro pins s σ H Q I h
 refine BoolOp_or (db (ha pins s σ H _ I h) fun v s1 ⟨x,H1,I1,r1,q1⟩=>?_)
 obtain⟨c,tv,q1⟩:=q1
 refine db (xc pins s1 σ H1 x v (fun k H'=>k=c/\H'=H1) I1 r1 ⟨c,tv,rfl,rfl⟩) fun k s2 z=>?_
 obtain⟨H2,I2,rfl,rfl⟩:=z
 cases k with
 | false=>exact hb pins s2 σ H2 Q I2 q1
 | true=>exact⟨x,H2,I2,r1,q1⟩
theorem Nq(ha:PE X a ta):PE X (.UnaryOp .Not a pos) (tNotX X.K ta):=by
 intro pins s σ H Q I h
 refine UnaryOp_ (db (ha pins s σ H _ I h) fun v s1 ⟨x,H1,I1,r1,q1⟩=>?_)
 obtain⟨c,tv,q1⟩:=q1
 refine not_of (db (xc pins s1 σ H1 x v (fun k H'=>k=c/\H'=H1) I1 r1 ⟨c,tv,rfl,rfl⟩) fun k s2 z=>?_)
 obtain⟨H2,I2,rfl,rfl⟩:=z
 exact⟨.bl (!k),H2,I2,rfl,q1⟩
end
end L2
namespace M
open PySem PySem.Spec PyProof.Rows L2
section
variable{X:Cx}{K:PySem.W.Frag}{μ μ':Fp}{H H':Hp}{S S':ac}{a b:Expr}{ma mb:ME}{rest:List Expr}{pos:Pos}
noncomputable def Kc(a b:ME):ME:=fun env S=>(a env S).bind fun p=>(se p.2 p.1).bind fun k=>if k=true then b env p.2 else some (p.1,p.2)
noncomputable def RI(a b:ME):ME:=fun env S=>(a env S).bind fun p=>(se p.2 p.1).bind fun k=>if k=true then some (p.1,p.2) else b env p.2
noncomputable def JU(a:ME):ME:=fun env S=>(a env S).bind fun p=>(se p.2 p.1).bind fun k=>some (.bl (!k),p.2)
theorem Pa(ha:DE X a ma)(hb:DE X (.BoolOp .And (b::rest) pos) mb):DE X (.BoolOp .And (a::b::rest) pos) (Kc ma mb):=PE.imp (Nw ha hb) fun σ H Q ⟨μ,S,env,d,S',hS,hE,hm,post⟩=>by
 obtain⟨⟨x,S1⟩,h1,hm⟩:=Option.bind_eq_some_iff.mp hm
 obtain⟨k,h2,hm⟩:=Option.bind_eq_some_iff.mp hm
 refine⟨μ,S,env,x,S1,hS,hE,h1,fun v H1 μ1 e1 s1 r1=>⟨k,rC s1 r1 h2,?_⟩⟩
 cases k with
 | true=>rw [if_pos rfl];exact⟨μ1,S1,env,d,S',s1,hE.mono e1,hm,post.ext e1⟩
 | false=>cases hm;rw [if_neg Bool.false_ne_true];exact post _ H1 μ1 e1 s1 r1
theorem Tl(ha:DE X a ma)(hb:DE X (.BoolOp .Or (b::rest) pos) mb):DE X (.BoolOp .Or (a::b::rest) pos) (RI ma mb):=PE.imp (Rc ha hb) fun σ H Q ⟨μ,S,env,d,S',hS,hE,hm,post⟩=>by
 obtain⟨⟨x,S1⟩,h1,hm⟩:=Option.bind_eq_some_iff.mp hm
 obtain⟨k,h2,hm⟩:=Option.bind_eq_some_iff.mp hm
 refine⟨μ,S,env,x,S1,hS,hE,h1,fun v H1 μ1 e1 s1 r1=>⟨k,rC s1 r1 h2,?_⟩⟩
 cases k with
 | false=>rw [if_neg Bool.false_ne_true];exact⟨μ1,S1,env,d,S',s1,hE.mono e1,hm,post.ext e1⟩
 | true=>cases hm;rw [if_pos rfl];exact post _ H1 μ1 e1 s1 r1
theorem OT(ha:DE X a ma):DE X (.UnaryOp .Not a pos) (JU ma):=PE.imp (Nq ha) fun σ H Q ⟨μ,S,env,d,S',hS,hE,hm,post⟩=>by
 obtain⟨⟨x,S1⟩,h1,hm⟩:=Option.bind_eq_some_iff.mp hm
 obtain⟨k,h2,hm⟩:=Option.bind_eq_some_iff.mp hm
 cases hm
 exact⟨μ,S,env,x,_,hS,hE,h1,fun v H1 μ1 e1 s1 r1=>⟨k,rC s1 r1 h2,post _ H1 μ1 e1 s1 (.bl _)⟩⟩
end
end M
namespace M
open PySem PySem.Spec PyProof.Rows L2
section
variable{X:Cx}{K:PySem.W.Frag}{μ μ':Fp}{H H':Hp}{S S':ac}{tg iter:Expr}{pos:Pos}
noncomputable def eX(g:MG)(body:MS)(r:Nat):Nat->Nat->bn->ac->Option oq
 | 0,_,_,_=>none
 | f+1,i,env,S=>match S[r]? with
  | some (.lst xs)=>match xs[i]? with
   | none=>some (.nx env S)
   | some d=>(g d env S).bind fun p=>(body p.1 p.2).bind fun o=>match o with
    | .nx e s=>eX g body r f (i+1) e s
    | .ct e s=>eX g body r f (i+1) e s
    | .bk e s=>some (.nx e s)
    | .rt d s=>some (.rt d s)
  | _=>none
noncomputable def gb(m:ME)(g:MG)(body:MS):MS:=fun env S=>(m env S).bind fun p=>match p.1 with
 | .ref r=>eX g body r 2000 0 env p.2
 | .lst xs=>cE g body xs env p.2
 | .rol xs=>cE g body xs env p.2
 | .tup xs=>cE g body xs env p.2
 | _=>none
noncomputable def mForX(m:ME)(g:MG)(body:MS):MS:=fun env S=>(m env S).bind fun p=>match p.1 with
 | .ref r=>eX g body r 2000 0 env p.2
 | _=>none
theorem OL{body:List Stmt}{mi:ME}{g:MG}{mb:MS}(hp:PassesOwn (model X.prog X.w) X.A X.env X.xe)(hc:X.calm=true)(hi:DE X iter mi)(hg:DG X tg g)(hb:vD X body mb)
  (hs:∀ x,foldedSetIterable iter X.env x=pure x):DS X (.For tg iter body [] pos) (mForX mi g mb):=PS.imp (Jm hp hc (Nm hi) hg hb hs) fun E σ H ⟨μ,S,env,o,hS,hE,hm,post⟩=>by
 obtain⟨⟨d,S1⟩,h1,hm⟩:=Option.bind_eq_some_iff.mp hm
 dsimp only at hm
 split at hm
 ·rename_i r
  refine⟨μ,S,env,_,S1,hS,hE,h1,fun v H1 μ1 e1 s1 r1=>?_⟩
  cases r1 with
  | @ref a _ ha=>
   have cell:∀ {μ' H' S' xs},Ext μ1 H1 μ' H'->SOk X.K μ' S' H'->S'[r]?=some (.lst xs)->∃ vs,H' a=some (.lst vs)/\Reps X.K μ' H' vs xs:=fun {μ' H' S' xs} e s q=>by
    obtain⟨l,ql,_⟩:=e.pre
    have ha':μ'.cs[r]?=some a:=by rw [ql,List.getElem?_append_left (List.getElem?_eq_some_iff.mp ha).1];exact ha
    exact s.cell r a _ ha' q
   have hq0:∃ vs,on X.K H1 a vs:=by
    unfold eX at hm
    split at hm
    ·rename_i xs q
     obtain⟨vs,hv,_⟩:=cell s1.ext s1 q
     exact⟨vs,.inl (.inl hv)⟩
    ·cases hm
   refine⟨a,rfl,hq0,?_⟩
   refine⟨fun i n σ H=>∃ μ' S' env' o',Ext μ1 H1 μ' H/\SOk X.K μ' S' H/\EOk X.K μ' H σ env'/\eX g mb r n i env' S'=some o'/\PostS X.K μ' H o' E,
    ⟨2000,μ1,S1,env,o,s1.ext,s1,hE.mono e1,hm,post.ext e1⟩,?_⟩
   rintro i n σ' H' ⟨μ',S',env',o',e',s',r',hl,post'⟩
   cases n with
   | zero=>cases hl
   | succ n=>
    unfold eX at hl
    split at hl
    ·rename_i xs q
     obtain⟨vs,hv,rv⟩:=cell e' s' q
     have hsq:on X.K H' a vs:=.inl (.inl hv)
     split at hl
     ·rename_i hx
      cases hl
      refine .inl ⟨⟨vs,hsq,?_⟩,post' σ' H' μ' s'.ext s' r'⟩
      rw [rv.length];simpa using hx
     ·rename_i d hx
      obtain⟨w,hw,rw0⟩:=rv.get hx
      refine .inr ⟨⟨vs,w,hsq,hw⟩,fun σ2 H2=>∃ μ2 S2 env2 o2,Ext μ1 H1 μ2 H2/\SOk X.K μ2 S2 H2/\EOk X.K μ2 H2 σ2 env2/\eX g mb r n (i+1) env2 S2=some o2/\PostS X.K μ2 H2 o2 E,
       fun σ2 H2 ⟨μ2,S2,env2,o2,q1,q2,q3,q4,q5⟩=>⟨n,by omega,μ2,S2,env2,o2,q1,q2,q3,q4,q5⟩,fun x H2 y=>?_⟩
      obtain⟨e2,hy⟩:=y
      subst e2
      have ex:x=w:=by have:=hy vs hsq;rw [hw] at this;exact(Option.some.inj this).symm
      subst ex
      obtain⟨⟨env3,S3⟩,h3,hl⟩:=Option.bind_eq_some_iff.mp hl
      obtain⟨o4,h4,hl⟩:=Option.bind_eq_some_iff.mp hl
      refine⟨μ',S',env',d,env3,S3,s',r',rw0,h3,fun σ3 H3 μ3 e3 s3 r3=>⟨μ3,S3,env3,o4,s3,r3,h4,?_⟩⟩
      have eT:Ext μ1 H1 μ3 H3:=e'.trans e3
      have pT:PostS X.K μ3 H3 o' E:=post'.ext e3
      cases o4 with
      | nx e5 s5=>exact fun σ6 H6 μ6 e6 s6 r6=>⟨μ6,s5,e5,o',eT.trans e6,s6,r6,hl,pT.ext e6⟩
      | ct e5 s5=>exact fun σ6 H6 μ6 e6 s6 r6=>⟨μ6,s5,e5,o',eT.trans e6,s6,r6,hl,pT.ext e6⟩
      | bk e5 s5=>cases hl;exact pT
      | rt d5 s5=>cases hl;exact pT
    ·cases hl
 ·cases hm
theorem OM{body:List Stmt}{mi:ME}{g:MG}{mb:MS}(hp:PassesOwn (model X.prog X.w) X.A X.env X.xe)(hc:X.calm=true)(hi:DE X iter mi)(hg:DG X tg g)(hb:vD X body mb)
  (hs:∀ x,foldedSetIterable iter X.env x=pure x):DS X (.For tg iter body [] pos) (gb mi g mb):=by
 have hA:=OL (pos:=pos) hp hc hi hg hb hs
 have hB:=LA (pos:=pos) hp hc (DM (tg:=tg) hi) hg hb hs
 intro pins s σ H E I ⟨μ,S,env,o,hS,hE,h,post⟩
 obtain⟨⟨x,S1⟩,h1,h⟩:=Option.bind_eq_some_iff.mp h
 cases x with
 | ref r=>exact hA pins s σ H E I ⟨μ,S,env,o,hS,hE,by show (mi env S).bind _=_;rw [h1];exact h,post⟩
 | lst xs=>exact hB pins s σ H E I ⟨μ,S,env,o,hS,hE,by show ((mi env S).bind _).bind _=_;rw [h1];exact h,post⟩
 | rol xs=>exact hB pins s σ H E I ⟨μ,S,env,o,hS,hE,by show ((mi env S).bind _).bind _=_;rw [h1];exact h,post⟩
 | tup xs=>exact hB pins s σ H E I ⟨μ,S,env,o,hS,hE,by show ((mi env S).bind _).bind _=_;rw [h1];exact h,post⟩
 | _=>cases h
end
end M
namespace L2
open PySem PySem.Spec PyProof.Rows
section
variable{X:Cx}{pos:Pos}
theorem tX:∀ {ns:List Int} {us:List Value},Vals (ns.map V.int) us->∃ xs:List (Int×Tok),us=xs.map (fun p=>Value.int p.1 p.2)/\xs.map (·.1)=ns
 | [],_,.nil=>⟨[],rfl,rfl⟩
 | n::ns,_,.cons ⟨t,e⟩ r=>by
  subst e
  obtain⟨xs,e1,e2⟩:=tX r
  exact⟨(n,t)::xs,by rw [e1];rfl,by rw [List.map_cons,e2]⟩
theorem HP(hc:X.calm=true):CallR X (.builtin "max") (fun xs H Q=>∃ p ns,xs=[.ref p]/\on X.K H p (ns.map V.int)/\ns≠[]/\∀ m,m∈ns->(∀ a∈ns,a<=m)->Q (.int m) H):=by
 intro pins s σ H xs us Q I r h
 obtain⟨p,ns,rfl,hq,h0,q⟩:=h
 obtain⟨u,rfl,rx⟩:=qv r
 cases rx
 obtain⟨its,rv,pl,hz⟩:=I.list hq
 obtain⟨ps,e1,e2⟩:=tX rv
 have hl:s.heap.IsList p (intItems ps.toArray):=by
  have:=pl.isList
  rw [e1] at this
  have e:intItems ps.toArray=(ps.map (fun p=>Value.int p.1 p.2)).toArray:=by simp [intItems]
  rw [e];exact this
 have hp:0<ps.toArray.size:=by
  rw [List.size_toArray]
  cases ps with
  | nil=>exact absurd e2.symm h0
  | cons _ _=>simp
 refine max_intList (I.ok.hd hc) hl hp fun v h' tk hv kk=>?_
 obtain⟨g1,g2⟩:=argBest_gt (numAt ps.toArray) (ps.toArray.size - 1)
 generalize argBest (fun i j=>decide (numAt ps.toArray i>numAt ps.toArray j)) (ps.toArray.size - 1)=b at hv g1 g2
 have hb:b<ps.length:=by rw [List.size_toArray] at g1 hp;omega
 have nb:∀ j (hj:j<ps.length),numAt ps.toArray j=ps[j].1:=fun j hj=>by
  simp [numAt,hj]
 have ev:v=Value.int ps[b].1 ps[b].2:=by
  simp [intItems,hb] at hv
  exact hv.symm
 subst ev
 refine⟨.int ps[b].1,H,I.kept kk,⟨_,rfl⟩,q _ ?_ fun a ha=>?_⟩
 ·rw [<- e2];exact List.mem_map.mpr ⟨_,List.getElem_mem hb,rfl⟩
 ·rw [<- e2] at ha
  obtain⟨x,hx,rfl⟩:=List.mem_map.mp ha
  obtain⟨j,hj,rfl⟩:=List.mem_iff_getElem.mp hx
  have:=g2 j (by rw [List.size_toArray];omega)
  rw [nb j hj,nb b hb] at this
  exact this
theorem rW:∀ (l:List Value) (lo:Nat),(∀ (j:Nat) (v:Value),l[j]?=some v->∃ t,v=.int ((lo+j:Nat):Int) t)->Vals ((List.range' lo l.length).map fun(i:Nat)=>V.int (i:Int)) l
 | [],_,_=>.nil
 | v::r,lo,h=>by
  rw [List.length_cons,List.range'_succ,List.map_cons]
  obtain⟨t,e⟩:=h 0 v rfl
  refine .cons ⟨t,by simpa using e⟩ (rW r (lo+1) fun j w hw=>?_)
  obtain⟨t,e⟩:=h (j+1) w (by simpa using hw)
  exact⟨t,by rw [e];congr 2;omega⟩
noncomputable def pK(n:Nat):List V:=(List.range n).map fun(i:Nat)=>V.int (i:Int)
theorem xL{a:Expr}{ta:TA}{p p2 pos pos2:Pos}(hc:X.calm=true)(hm:X.mg "list" = none)(hm2:X.mg "range" = none)(hg:Gl X "list")(hg2:Gl X "range")(ha:PA X [a] ta)(hs:starEach [a] X.env=[(false,eval a X.env)]) :
  PE X (.Call (.Name "list" p) [.Call (.Name "range" p2) [a] [] pos2] [] pos) (fun σ H Q=>ta σ H fun vs H1=>∃ j:Int,vs=[.int j]/\0<=j/\j<=1000/\∀ q,H1 q=none->Q (.ref q) (upd H1 q (.lst (pK j.toNat)))):=by
 intro pins s σ H Q I h
 refine Call_ (ly I hg hm boot_list (PyProof.Rows.callWith_type1 (Calls.spliced_cons ?_) rfl rfl))
 refine Call_ (ly I hg2 hm2 boot_range (PyProof.Rows.callWith_type1 (db (ha pos2 pins s σ H _ I h) fun us s1 ⟨vs,H1,I1,r1,q1⟩=>?_) hs rfl))
 obtain⟨j,rfl,j0,j1,q⟩:=q1
 obtain⟨u,rfl,ru⟩:=r1.one
 obtain⟨t,rfl⟩:=ru
 refine call_range_1 (Calls.spliced_nil ?_)
 have I2:Inv X pins σ H1 { s1 with heap:=s1.heap.push { cls:=.type "range",data:=.fields #[.int 0 s1.toks,.int j t,.int 1 (s1.toks+1)] },toks:=s1.toks+1+1 }:=I1.kept fun b o e=>Heap.get?_push_of_some _ e
 have hz:(s1.heap.push { cls:=.type "range",data:=.fields #[.int 0 s1.toks,.int j t,.int 1 (s1.toks+1)] }).objs.size=s1.heap.objs.size+1:=Heap.size_push ..
 refine call_list_range (n:=j.toNat) (I1.ok.hd hc) (IsRange.new ..) (small_one (by decide) (by decide) (by omega) (by omega)) (by rw [rangeSize_one];split <;> omega) (by omega) fun h' tk acc c' kk hn it=>?_
 obtain⟨i1,i2⟩:=it
 have fr:H1 (s1.heap.objs.size+1)=none:=I1.hok.fresh (Nat.le_succ _)
 dsimp only at hn ⊢
 rw [hz] at hn ⊢
 refine⟨.ref _,_,I2.laid (t':=tk) (a:=s1.heap.objs.size+1) (o:=.lst (pK j.toNat)) kk (by show _<=s1.heap.objs.size+1;rw [hz];exact Nat.le_refl _) ⟨?_,acc.toList,c',?_,?_⟩,rfl,q _ fr⟩
 ·simp [pK];rw [sizeLine_eq];omega
 ·have:=rW acc.toList 0 (fun j v hv=>by
   obtain⟨t,e⟩:=i2 j v (by simpa using hv)
   exact⟨t,by rw [e];congr 1;omega⟩)
  rw [Array.length_toList,i1] at this
  rw [pK,List.range_eq_range']
  exact this
 ·simpa using hn
end
end L2
namespace M
open PySem PySem.Spec PyProof.Rows L2
section
variable{X:Cx}{K:PySem.W.Frag}{μ μ':Fp}{H H':Hp}{S S':ac}{pos:Pos}
noncomputable def oU(S:ac):D->Option (List D)
 | .lst xs=>some xs
 | .ref r=>match S[r]? with | some (.lst xs)=>some xs | _=>none
 | _=>none
theorem wl{v:V}{d:D}{ds:List D}(s:SOk K μ S H)(r:Rep K μ H v d)(h:oU S d=some ds):∃ a vs,v=.ref a/\H a=some (.lst vs)/\Reps K μ H vs ds:=by
 cases r with
 | lst hd n rr=>cases h;exact⟨_,_,rfl,hd,rr⟩
 | ref hr=>
  rename_i a i
  unfold oU at h
  dsimp only at h
  cases q:S[i]? with
  | none=>rw [q] at h;cases h
  | some c=>
   rw [q] at h
   have ck:=s.cell _ _ _ hr q
   cases c with
   | lst xs=>cases h;obtain⟨vs,e,rr⟩:=ck;exact⟨a,vs,rfl,e,rr⟩
   | dct ks xs=>cases h
 | _=>cases h
noncomputable def qa:D->Bool
 | .ref _=>true
 | _=>false
noncomputable def aO(S:ac)(x y:D):Option D:=if qa x||qa y then (oU S x).bind fun xs=>(oU S y).bind fun ys=>if xs.length+ys.length<=sizeLine then some (.lst (xs++ys)) else none else KZ S x y
theorem NG:OpR X (binaryOp .Add) (nw X.K aO):=OpR.imp (OpR.or JD RA) fun x y H Q ⟨μ,S,dx,dy,dz,hS,h1,h2,h3,post⟩=>by
 unfold aO at h3
 split at h3
 ·obtain⟨xs,e1,h3⟩:=Option.bind_eq_some_iff.mp h3
  obtain⟨ys,e2,h3⟩:=Option.bind_eq_some_iff.mp h3
  split at h3
  ·rename_i hl
   cases h3
   obtain⟨a,vs,rfl,q1,r1⟩:=wl hS h1 e1
   obtain⟨b,ws,rfl,q2,r2⟩:=wl hS h2 e2
   have l1:=r1.length
   have l2:=r2.length
   exact .inl ⟨a,b,vs,ws,rfl,rfl,q1,q2,by omega,fun p hp=>post.lst hS hp (r1.append r2)⟩
  ·cases h3
 ·exact .inr ⟨μ,S,dx,dy,dz,hS,h1,h2,h3,post⟩
noncomputable def jU:List Int->Int
 | []=>0
 | [a]=>a
 | a::r=>max a (jU r)
theorem pQ:∀ {ns:List Int},ns≠[]->jU ns∈ns/\∀ a∈ns,a<=jU ns
 | [a],_=>⟨by simp [jU],fun b hb=>by simp at hb;simp [jU,hb]⟩
 | a::b::r,_=>by
  obtain⟨h1,h2⟩:=pQ (ns:=b::r) (by simp)
  show max a (jU (b::r))∈_/\∀ c∈_,c<=max a (jU (b::r))
  generalize jU (b::r)=m at h1 h2
  refine⟨?_,fun c hc=>?_⟩
  ·by_cases h:m<=a
   ·rw [Int.max_eq_left h];exact List.mem_cons_self
   ·rw [Int.max_eq_right (by omega)];exact List.mem_cons_of_mem _ h1
  ·rcases List.mem_cons.mp hc with rfl | hc
   ·exact Int.le_max_left _ _
   ·exact Int.le_trans (h2 c hc) (Int.le_max_right _ _)
theorem Ao{ns:List Int}{m:Int}(h0:ns≠[])(h1:m∈ns)(h2:∀ a∈ns,a<=m):m=jU ns:=by
 obtain⟨g1,g2⟩:=pQ h0
 have:=h2 _ g1
 have:=g2 _ h1
 omega
noncomputable def lO(S:ac):List D->Option D
 | [d]=>(qD S d).bind fun ns=>if ns.isEmpty then none else some (.int (jU ns))
 | ds=>Qd S ds
theorem CallR.or{f:Value}{r r':List V->Hp->VK->Prop}(h:CallR X f r)(h':CallR X f r'):CallR X f (fun xs H Q=>r xs H Q\/r' xs H Q):=by
 intro pins s σ H xs us Q I rv q
 rcases q with q | q
 ·exact h pins s σ H xs us Q I rv q
 ·exact h' pins s σ H xs us Q I rv q
theorem HU(hc:X.calm=true):CallR X (.builtin "max") (Je X.K (aN lO)):=CallR.imp (CallR.or (HP hc) (HV hc)) fun xs H Q ⟨μ,S,ds,d,S',hS,hr,hm,post⟩=>by
 obtain⟨rfl,hm'⟩:=el hm
 match ds,hr,hm,hm' with
 | [d0],hr,hm,hm'=>
  obtain⟨ns,h1,h2⟩:=Option.bind_eq_some_iff.mp hm'
  split at h2
  ·cases h2
  ·rename_i h0
   cases h2
   have h0:ns≠[]:=fun z=>h0 (by rw [z];rfl)
   obtain⟨v,rfl,rv⟩:=hr.one
   obtain⟨b,rfl,hq,h64⟩:=Dk hS rv h1
   refine .inl ⟨b,ns,rfl,hq,h0,fun m m1 m2=>?_⟩
   rw [Ao h0 m1 m2]
   exact post.here hS (.int _)
 | [],hr,hm,hm'=>cases hm'
 | _::_::_,hr,hm,hm'=>exact .inr ⟨μ,_,_,d,_,hS,hr,hm,post⟩
noncomputable def fJ(ms:MA):ME:=fun env S=>(ms env S).bind fun p=>match p.1 with | [.int j]=>if 0<=j/\j<=1000 then some (.lst (bT 0 j.toNat),p.2) else none | _=>none
theorem Cc(n:Nat):Reps K μ H (pK n) (bT 0 n):=by
 unfold pK bT
 generalize List.range n=l
 induction l with
 | nil=>exact .nil
 | cons a r ih=>rw [List.map_cons,List.map_cons,Int.zero_add];exact .cons (.int _) ih
theorem LR{a:Expr}{ms:MA}{p p2 pos2:Pos}(hc:X.calm=true)(hm:X.mg "list" = none)(hm2:X.mg "range" = none)(hg:Gl X "list")(hg2:Gl X "range")(ha:DA X [a] ms)(hs:starEach [a] X.env=[(false,eval a X.env)]) :
  DE X (.Call (.Name "list" p) [.Call (.Name "range" p2) [a] [] pos2] [] pos) (fJ ms):=PE.imp (xL hc hm hm2 hg hg2 ha hs) fun σ H Q ⟨μ,S,env,d,S',hS,hE,h,post⟩=>by
 obtain⟨⟨ds,S1⟩,h1,h⟩:=Option.bind_eq_some_iff.mp h
 refine⟨μ,S,env,ds,S1,hS,hE,h1,fun vs H1 μ1 e1 s1 r1=>?_⟩
 dsimp only at h
 split at h
 ·rename_i j
  split at h
  ·rename_i hj
   cases h
   obtain⟨v,rfl,rv⟩:=r1.one
   exact⟨j,by rw [rv.int_inv],hj.1,hj.2,fun q hq=>(post.ext e1).lst s1 hq (Cc _)⟩
  ·cases h
 ·cases h
noncomputable def gp(t:MT)(body:MS):Nat->bn->ac->Option oq
 | 0,_,_=>none
 | f+1,env,S=>(t env S).bind fun p=>if p.1=true then (body env p.2).bind fun o=>match o with
   | .nx e s=>gp t body f e s
   | .ct e s=>gp t body f e s
   | .bk e s=>some (.nx e s)
   | .rt d s=>some (.rt d s)
  else some (.nx env p.2)
noncomputable def fG(t:MT)(body:MS):MS:=gp t body 5000
theorem Lz{c:Expr}{body:List Stmt}{t:MT}{mb:MS}(hp:PassesOwn (model X.prog X.w) X.A X.env X.xe)(hc:DT X c t)(hb:vD X body mb):DS X (.While c body [] pos) (fG t mb):=PS.imp (Jj hp hc hb) fun E σ H ⟨μ,S,env,o,hS,hE,hm,post⟩=>by
 refine⟨fun n σ' H'=>∃ μ' S' env' o',Ext μ H μ' H'/\SOk X.K μ' S' H'/\EOk X.K μ' H' σ' env'/\gp t mb n env' S'=some o'/\PostS X.K μ' H' o' E,⟨5000,μ,S,env,o,hS.ext,hS,hE,hm,post⟩,?_⟩
 rintro n σ' H' ⟨μ',S',env',o',e',s',r',hl,post'⟩
 cases n with
 | zero=>cases hl
 | succ n=>
  obtain⟨⟨b,S1⟩,h1,hl⟩:=Option.bind_eq_some_iff.mp hl
  refine⟨μ',S',env',b,S1,s',r',h1,fun H2 μ2 e2 s2=>?_⟩
  have eT:Ext μ H μ2 H2:=e'.trans e2
  have pT:PostS X.K μ2 H2 o' E:=post'.ext e2
  cases b with
  | false=>cases hl;dsimp only;rw [if_neg Bool.false_ne_true];exact pT σ' H2 μ2 s2.ext s2 (r'.mono e2)
  | true=>
   dsimp only
   rw [if_pos rfl]
   obtain⟨o4,h4,hl⟩:=Option.bind_eq_some_iff.mp hl
   refine⟨fun σ2 H2=>∃ μ2 S2 env2 o2,Ext μ H μ2 H2/\SOk X.K μ2 S2 H2/\EOk X.K μ2 H2 σ2 env2/\gp t mb n env2 S2=some o2/\PostS X.K μ2 H2 o2 E,fun σ2 H2 ⟨μ2,S2,env2,o2,q1,q2,q3,q4,q5⟩=>⟨n,by omega,μ2,S2,env2,o2,q1,q2,q3,q4,q5⟩,?_⟩
   refine⟨μ2,S1,env',o4,s2,r'.mono e2,h4,?_⟩
   cases o4 with
   | nx e5 s5=>exact fun σ6 H6 μ6 e6 s6 r6=>⟨μ6,s5,e5,o',eT.trans e6,s6,r6,hl,pT.ext e6⟩
   | ct e5 s5=>exact fun σ6 H6 μ6 e6 s6 r6=>⟨μ6,s5,e5,o',eT.trans e6,s6,r6,hl,pT.ext e6⟩
   | bk e5 s5=>cases hl;exact pT
   | rt d5 s5=>cases hl;exact pT
end
end M
namespace M
open PySem PySem.Spec PyProof.Rows L2
inductive TabRel:List (bB×Value)->List (bB×D)->Prop
 | nil:TabRel [] []
 | cons {k:bB} {v:Value} {d:D} {vs:List (bB×Value)} {ds:List (bB×D)} (x:V) (h:RelV x v) (r:∀ K μ H,Rep K μ H x d) (t:TabRel vs ds):TabRel ((k,v)::vs) ((k,d)::ds)
theorem TabRel.val{k:bB}:∀ {vs ds},TabRel vs ds->∀ {d},iV ds k=some d->∃ v x,valueAt vs k=some v/\RelV x v/\∀ K μ H,Rep K μ H x d
 | _,_,.nil,d,h=>by cases h
 | _,_,.cons (k:=k') (v:=v) x h r t,d,q=>by
  unfold iV at q
  split at q
  ·rename_i e;cases q;refine⟨v,x,?_,h,r⟩;simp only at e;simp [valueAt,e]
  ·rename_i e
   obtain⟨v',x',h1,h2,h3⟩:=TabRel.val t q
   refine⟨v',x',?_,h2,h3⟩
   simp only at e
   rw [<- h1]
   simp [valueAt,e]
structure uJ(w:World)(K:PySem.W.Frag)(mg:Str->Option Value)(x:Str)(l:List (bB×D)):Prop where
 ex:∃ (a:Addr) (vs:List (bB×Value)),mg x=some (.ref a)/\(∀ (P:Program) (h:Heap),K.In h->h.DictOf (bZ P w) a vs)/\TabRel vs l
section
variable{X:Cx}
theorem Ks{a:Addr}{vs:List (bB×Value)}(hd:∀ (P:Program) (h:Heap),X.K.In h->h.DictOf (bZ P X.w) a vs):IxR X (fun x y H Q=>∃ k v z,x=.ref a/\y=kV k/\valueAt vs k=some v/\RelV z v/\Q z H):=by
 intro value slice pins s σ H x y v u Q I rx ry h hs
 obtain⟨k,v',z,rfl,rfl,hv,rz,q⟩:=h
 cases rx
 have dd:=hd X.prog s.heap I.kIn
 exact tail_any dd.typeIs F.slot_dict_getitem.lookup (wpAny_getItem_of (wn ry) dd.mapOf hv ⟨z,H,I.tok _,rz,q⟩) hs
noncomputable def dP(l:List (bB×D))(mi:ME):ME:=fun env S=>(mi env S).bind fun p=>(fg p.1).bind fun k=>(iV l k).bind fun d=>some (d,p.2)
theorem LN{x:Str}{l:List (bB×D)}{i:Expr}{mi:ME}{p pos:Pos}(g:uJ X.w X.K X.mg x l)(hg:Gl X x)(hx:(x == ("__debug__":Str))=false)(hi:DE X i mi)(hs:nu i:=by intro _ _;rfl):DE X (.Subscript (.Name x p) i pos) (dP l mi):=by
 obtain⟨a,vs,h1,h2,h3⟩:=g.ex
 refine PE.imp (Ju (Ks h2) (xM (v:=.ref a) hg h1 rfl hx) hi hs) fun σ H Q ⟨μ,S,env,d,S',hS,hE,hm,post⟩=>?_
 obtain⟨⟨y,S1⟩,e1,hm⟩:=Option.bind_eq_some_iff.mp hm
 obtain⟨k,e2,hm⟩:=Option.bind_eq_some_iff.mp hm
 obtain⟨d',e3,hm⟩:=Option.bind_eq_some_iff.mp hm
 cases hm
 obtain⟨v,z,v1,v2,v3⟩:=h3.val e3
 exact⟨μ,S,env,y,_,hS,hE,e1,fun u H1 μ1 ex s1 r1=>⟨k,v,z,rfl,mY e2 r1,v1,v2,post _ H1 μ1 ex s1 (v3 _ _ _)⟩⟩
end
theorem zp{w:World}{K:PySem.W.Frag}{a:Addr}{es:Array DictEntry}{n:Nat}(hl:K.lookup a=some ⟨.type "dict",none,.dict es n,#[]⟩){vs:List (bB×Value)}(hp:∀ P,Pairs (bZ P w) es.toList vs)(hk:∀ P,KeysOf (bZ P w) es)(hn:(vs.map (·.1)).Nodup) :
  ∀ (P:Program) (h:Heap),K.In h->h.DictOf (bZ P w) a vs:=fun P h KX=>⟨_,es,n,KX a _ hl,⟨rfl,rfl,rfl⟩,rfl,hk P,hp P,hn⟩
inductive TabLit(w:World):List DictEntry->List (bB×Value)->Prop
 | nil:TabLit w [] []
 | cons {x:Str} {t:Tok} {v:Value} {es:List DictEntry} {vs:List (bB×Value)} (h:TabLit w es vs):TabLit w (⟨PyData.keyHash w.params x,.str x t,v⟩::es) ((.inr x,v)::vs)
theorem TabLit.pairs{w:World}{P:Program}:∀ {es vs},TabLit w es vs->Pairs (bZ P w) es vs
 | _,_,.nil=>.nil
 | _,_,.cons (x:=x) (t:=t) h=>.cons (wn (k:=.inr x) (show RelV (V.str x) (Value.str x t) from ⟨t,rfl⟩)) rfl h.pairs
theorem TabLit.keys{w:World}{P:Program}:∀ {es vs},TabLit w es vs->∀ e∈es,∃ k,(bZ P w).is k e.key=true/\e.hash=(bZ P w).hash k
 | _,_,.nil,e,h=>by simp at h
 | _,_,.cons (x:=x) (t:=t) h,e,he=>by
  rcases List.mem_cons.mp he with rfl | he
  ·exact⟨.inr x,wn (k:=.inr x) (show RelV (V.str x) (Value.str x t) from ⟨t,rfl⟩),rfl⟩
  ·exact h.keys e he
theorem IB{w:World}{K:PySem.W.Frag}{mg:Str->Option Value}{x:Str}{a:Addr}{es:List DictEntry}{n:Nat}{vs:List (bB×Value)}{l:List (bB×D)}(hg:mg x=some (.ref a))(hl:K.lookup a=some ⟨.type "dict",none,.dict es.toArray n,#[]⟩)(t:TabLit w es vs)(hn:(vs.map (·.1)).Nodup)(r:TabRel vs l):uJ w K mg x l:=
 ⟨a,vs,hg,zp hl (fun P=>by simpa using t.pairs) (fun P e he=>t.keys e (by simpa using he)) hn,r⟩
end M
namespace M
open PySem PySem.Spec PyProof.Rows L2
section
variable{X:Cx}{K:PySem.W.Frag}{μ:Fp}{H:Hp}{S:ac}
noncomputable def mJ:MF:=fun o ds S=>match ds with
 | [x]=>if rh S o=true then (gO S o).bind fun ys=>if cK 40 x=true/\ys.all (cK 39)=true/\ys.length<=sizeLine then (ys.findIdx? fun d=>jD d x).bind fun j=>some (.int (j:Nat),S) else none else none
 | _=>none
theorem uv{pins:List (Addr×Obj)}{σ:L2.St}{s:Shared}(I:Inv X pins σ H s){x:D}:∀ {vs:List V} {us:List Value} {ds:List D},Vals vs us->Reps X.K μ H vs ds->(∀ d∈ds,cK 39 d=true) ->
  us.map (eC X.K μ H x)=ds.map fun d=>jD d x
 | _,_,_,.nil,.nil,_=>rfl
 | _,_,_,.cons rv tv,.cons r t,ok=>by
  rw [List.map_cons,List.map_cons,pz I rv r (ok _ List.mem_cons_self),uv I tv t fun d m=>ok d (List.mem_cons_of_mem _ m)]
theorem JI(hu:X.A.units+64<cLine):MtR X "list.index" (Ms X.K mJ):=by
 intro pins s σ H x vs v us Q I rx rv h
 obtain⟨μ,S,dx,ds,d,S',hS,r1,r2,h,post⟩:=h
 unfold mJ at h
 split at h
 ·rename_i y
  split at h
  ·rename_i hl
   obtain⟨a,ws,es,rfl,hq,hse,re⟩:=oV hS r1 hl
   rw [hse] at h
   dsimp only [Option.bind_some] at h
   split at h
   ·rename_i hk
    obtain⟨j,hj,h⟩:=Option.bind_eq_some_iff.mp h
    cases h
    cases rx
    obtain⟨w,rfl,rw0⟩:=r2.one
    obtain⟨u,rfl,ru⟩:=rv.one
    obtain⟨its,rvs,⟨⟨cls,dd,data,sl⟩,n,e,hc,hdd,hd⟩,hz⟩:=I.list hq
    simp only at hc hdd hd
    subst hc hdd hd
    have ok:=List.all_eq_true.mp hk.2.1
    have em:=uv (x:=y) I rvs re ok
    have ln:its.length=es.length:=by rw [<- re.length,rvs.length]
    obtain⟨hj1,hj2,hj3⟩:=List.findIdx?_eq_some_iff_getElem.mp hj
    have at_:∀ (m:Nat) (h1:m<its.length) (h2:m<es.length),eC X.K μ H y its[m]=jD es[m] y:=fun m h1 h2=>by
     have:(its.map (eC X.K μ H y))[m]?=(es.map fun d=>jD d y)[m]?:=by rw [em]
     rw [List.getElem?_map,List.getElem?_map,List.getElem?_eq_getElem h1,List.getElem?_eq_getElem h2] at this
     simpa using this
    have sz:sizeLine<2 ^ 63 - 1:=by decide
    refine call_meets F.slot_list_index ⟨_,e,rfl⟩ F.entry_list_index (F.args_list_index_2 _ _) (SeqAt.list_indexAt a its.toArray n none sl u (eC X.K μ H y) j (by simpa [ln] using hj1) (by have:=hk.2.2;omega) ?_ ?_) ⟨e,fun w' hw'=>?_,?_⟩
    ·rw [List.getElem_toArray,at_ j (by omega) hj1];exact hj2
    ·intro m hm hmj
     rw [List.getElem_toArray,at_ m (by simpa using hm) (by omega)]
     have:=hj3 m hmj
     simpa using this
    ·exact ga I (by show X.A.units+1+40<cLine;omega) ru rw0 hk.1 rvs re ok w' (by simpa using hw')
    ·exact⟨.int _,H,I.tok _,⟨_,rfl⟩,post.here hS (.int _)⟩
   ·cases h
  ·cases h
 ·cases h
theorem uH{o:Expr}{name:Str}{env:Env}{w:Sem Value}(h:(match o with | .Call _ _ _ _=>false | _=>true)=true):attributeBase o name env w=w:=by
 cases o <;> first | rfl | cases h
end
end M
namespace M
open PySem PySem.Spec PyProof.Rows L2
section
variable{X:Cx}{K:PySem.W.Frag}{μ μ':Fp}{H H':Hp}{S S':ac}{tg iter:Expr}{pos:Pos}
noncomputable def EU(g:MG)(t:MT)(e:ME)(r:Nat):Nat->Nat->bn->ac->Option (List D×ac)
 | 0,_,_,_=>none
 | f+1,i,env,S=>match S[r]? with
  | some (.lst xs)=>match xs[i]? with
   | none=>some ([],S)
   | some d=>(g d env S).bind fun p=>(t p.1 p.2).bind fun b=>if b.1=true then (e p.1 b.2).bind fun y=>(EU g t e r f (i+1) p.1 y.2).bind fun z=>some (y.1::z.1,z.2) else EU g t e r f (i+1) p.1 b.2
  | _=>none
end
end M
namespace L2
open PySem PySem.Spec PyProof.Rows
section
variable{X:Cx}
end
end L2
namespace M
open PySem PySem.Spec PyProof.Rows L2
section
variable{X:Cx}{K:PySem.W.Frag}{μ μ':Fp}{H H':Hp}{S:ac}
noncomputable def fAddS(S:ac)(x y:D):Option D:=match x,y with
 | .str a,.str b=>if a.length+b.length<=sizeLine then some (.str (a++b)) else none
 | _,_=>none
noncomputable def fStr1(S:ac)(ds:List D):Option D:=match ds with
 | [.int i]=>if i.natAbs.log2<1920 then some (.str (toString i)) else none
 | [.non]=>some (.str "None")
 | _=>none
noncomputable def fmtD:D->Option Str
 | .str y=>if y.length<=sizeLine then some y else none
 | .int i=>if i.natAbs.log2<1920 then some (toString i) else none
 | _=>none
noncomputable def RJ:List ME->Str->ME
 | [],out=>fun _ S=>some (.str out,S)
 | m::r,out=>fun env S=>(m env S).bind fun p=>match p.1 with
  | .str y=>if (out++y).length<=sizeLine then RJ r (out++y) env p.2 else none
  | _=>none
inductive DEs(X:Cx):List Expr->List ME->Prop
 | nil:DEs X [] []
 | cons {e:Expr} {m:ME} {es:List Expr} {ms:List ME} (h:DE X e m) (t:DEs X es ms):DEs X (e::es) (m::ms)
noncomputable def Ep:List D->Option (List Str)
 | []=>some []
 | .str x::r=>(Ep r).bind fun xs=>some (x::xs)
 | _::_=>none
noncomputable def fJoin:MF:=fun o ds S=>match o,ds with
 | .str sep,[y]=>(gO S y).bind fun xs=>(Ep xs).bind fun ys=>if (ys.map (·.length)).sum+ys.length * sep.length<=16777216 then some (.str (Str.join sep ys),S) else none
 | _,_=>none
noncomputable def isStrB:D->Bool
 | .str _=>true
 | _=>false
end
end M
namespace HT
open PySem PyProof.Rows
section
variable{prog:Program}{w:World}{A:Around}{E:Value->Shared->Prop}{s:Shared}
end
end HT
namespace L2
open PySem PySem.Spec PyProof.Rows
section
variable{X:Cx}
end
end L2
namespace M
open PySem PySem.Spec PyProof.Rows L2
section
variable{X:Cx}{K:PySem.W.Frag}{μ μ':Fp}{H H':Hp}{S:ac}
end
end M
namespace HT
open PySem PyProof.Rows
section
variable{prog:Program}{w:World}{A:Around}{E:Value->Shared->Prop}{s:Shared}
end
end HT
namespace L2
open PySem PySem.Spec PyProof.Rows
section
variable{X:Cx}
end
end L2
namespace M
open PySem PySem.Spec PyProof.Rows L2
section
variable{X:Cx}{K:PySem.W.Frag}{μ:Fp}{H:Hp}{S:ac}
end
end M
namespace HT
open PySem PyProof.Rows PySem.Spec SeqAt
end HT
namespace M
open PySem PySem.Spec PyProof.Rows L2
section
variable{X:Cx}{K:PySem.W.Frag}{μ:Fp}{H:Hp}{S:ac}
end
end M
namespace L2
open PySem PySem.Spec PyProof.Rows
end L2
namespace M
open PySem L2 PyProof.Rows
section
variable{X:Cx}{K:PySem.W.Frag}{H:Hp}{pos:Pos}
inductive iMs(K:PySem.W.Frag)(m:MA)(σ:L2.St)(H:Hp)(R:It->Hp->Prop):Prop
 | mk (μ:Fp) (S:ac) (env:bn) (xs:List D) (S':ac) (hS:SOk K μ S H) (hE:EOk K μ H σ env) (h:m env S=some (xs,S')) (post:∀ J H' μ',Ext μ H μ' H'->SOk K μ' S' H'->(∀ μ2 H2,Eg K μ2 H2 J xs)->R J H')
noncomputable def CP(g:MG)(t:MT)(e:ME):List D->bn->ac->Option (List D×bn×ac)
 | [],env,S=>some ([],env,S)
 | d::ds,env,S=>(g d env S).bind fun p=>(t p.1 p.2).bind fun b=>if b.1=true then (e p.1 b.2).bind fun q=>(CP g t e ds p.1 q.2).bind fun r=>some (q.1::r.1,r.2) else CP g t e ds p.1 b.2
noncomputable def Ka(g:MG)(t:MT)(mi2:MA)(g2:MG)(t2:MT)(e:ME):List D->bn->ac->Option (List D×ac)
 | [],_,S=>some ([],S)
 | d::ds,env,S=>(g d env S).bind fun p=>(t p.1 p.2).bind fun b=>if b.1=true then (mi2 p.1 b.2).bind fun q=>(CP g2 t2 e q.1 p.1 q.2).bind fun r=>(Ka g t mi2 g2 t2 e ds r.2.1 r.2.2).bind fun z=>some (r.1++z.1,z.2) else Ka g t mi2 g2 t2 e ds p.1 b.2
variable{elt tg iter tg2 iter2:Expr}{ifs ifs2:List Expr}{scope:Scope}{spos py:Pos}{N':List Str}{cap:List (Option Nat)}{mi mi2:MA}{g g2:MG}{t t2:MT}{me:ME}{y:Str}{i:Nat}
end
end M
namespace M
open PySem PySem.Spec PyProof.Rows L2
structure Pu(P:Program)(w:World)(K:PySem.W.Frag)(mg:Str->Option Value)(base:Heap)(k:Nat)(a:Addr)(n:Nat)(f:List D->ac->Option (D×ac)):Prop where
 ex:∃ (fd:FuncData) (ps:List Str),ps.length=n/\FnOk P w K mg base FD k a fd ps (IN K n f)/\PySem.W.keepIn K (.ref a)=true/\Binds K fd ps []
theorem Fn.at{P:Program}{w:World}{K:PySem.W.Frag}{mg:Str->Option Value}{base:Heap}{k n:Nat}{x:Str}{a:Addr}{f:List D->ac->Option (D×ac)}(F:Fn P w K mg base k x n f)(h:mg x=some (.ref a)):Pu P w K mg base k a n f:=by
 obtain⟨b,fd,ps,h1,h2,h3,h4,h5⟩:=F.ex
 rw [h] at h3;cases h3
 exact⟨fd,ps,h1,h2,h4,h5⟩
inductive FRel(P:Program)(w:World)(K:PySem.W.Frag)(mg:Str->Option Value)(base:Heap)(k:Nat):List (bB×Value)->List (bB×Nat×(List D->ac->Option (D×ac)))->Prop
 | nil:FRel P w K mg base k [] []
 | cons {y:bB} {a:Addr} {n:Nat} {f:List D->ac->Option (D×ac)} {vs:List (bB×Value)} {l:List (bB×Nat×(List D->ac->Option (D×ac)))} (h:Pu P w K mg base k a n f) (t:FRel P w K mg base k vs l):FRel P w K mg base k ((y,.ref a)::vs) ((y,n,f)::l)
noncomputable def zn:List (bB×Nat×(List D->ac->Option (D×ac)))->bB->Option (Nat×(List D->ac->Option (D×ac)))
 | [],_=>none
 | (y,p)::l,k=>if y=k then some p else zn l k
section
variable{P:Program}{w:World}{K:PySem.W.Frag}{mg:Str->Option Value}{base:Heap}{k:Nat}
theorem FRel.val{y:bB}{p:Nat×(List D->ac->Option (D×ac))}:∀ {vs l},FRel P w K mg base k vs l->zn l y=some p->∃ a,valueAt vs y=some (.ref a)/\Pu P w K mg base k a p.1 p.2
 | _,_,.nil,q=>by cases q
 | _,_,.cons (y:=y') (a:=a) h t,q=>by
  unfold zn at q
  split at q
  ·rename_i e;cases q;exact⟨a,by simp [valueAt,e],h⟩
  ·rename_i e
   obtain⟨b,h1,h2⟩:=FRel.val t q
   refine⟨b,?_,h2⟩
   rw [<- h1]
   simp [valueAt,e]
structure FTab(P:Program)(w:World)(K:PySem.W.Frag)(mg:Str->Option Value)(base:Heap)(k:Nat)(x:Str)(l:List (bB×Nat×(List D->ac->Option (D×ac)))):Prop where
 ex:∃ (a:Addr) (vs:List (bB×Value)),mg x=some (.ref a)/\(∀ (P:Program) (h:Heap),K.In h->h.DictOf (bZ P w) a vs)/\FRel P w K mg base k vs l
end
theorem EOk.setN{K:PySem.W.Frag}{μ:Fp}{H:Hp}{x:Option V}:∀ {σ:L2.St} {env:bn} (i:Nat),EOk K μ H σ env->EOk K μ H (σ.set i x) (env.set i none)
 | _,_,_,.nil=>.nil
 | _,_,0,.no t=>.no t
 | _,_,0,.yes _ t=>.no t
 | _,_,i+1,.no t=>.no (EOk.setN i t)
 | _,_,i+1,.yes h t=>.yes h (EOk.setN i t)
section
variable{X:Cx}{k i:Nat}{x b:Str}{e ix:Expr}{es:List Expr}{mi:ME}{ms:MA}{p pb pt ps pa pc pr:Pos}{l:List (bB×Nat×(List D->ac->Option (D×ac)))}
theorem Jz{t:TA}(hN:X.N[i]?=some b)(hv:TY X.env.scope b)(hr:Room k X.A)(ha:PA X (e::es) t)(hd:(b == ("__debug__":Str))=false)(hc:(b == ("__classdict__":Str))=false)
  (he:starEach (e::es) X.env=(false,eval e X.env)::starEach es X.env) (hpl:(backTo pc (starEach es X.env)).any (·.1)=false) :
  PE X (.Call (.Name b p) (e::es) [] pc) (fun σ H Q=>∃ a n f,σ[i]?=some (some (.ref a))/\Pu X.prog X.w X.K X.mg X.base k a n f/\Eo (IN X.K n f) [] E0 t σ H Q):=by
 intro pins s σ H Q I ⟨a,n,f,hσ,F,h⟩
 obtain⟨fd,qs,hn,F,hk,hb⟩:=F.ex
 refine wpAny_Call_Name_kw (db (Jr hN hv hd hc pins s σ H (fun v H'=>v=.ref a/\H'=H) I ⟨_,hσ,rfl,rfl⟩) fun u s1 ⟨v,H1,I1,r,e1,e2⟩=>?_)
 subst e1 e2
 cases r
 refine PySem.W.callWith_K (h₀:=X.base) I1.ok.mod.kin hk (db (ha pc pins s1 σ H1 _ I1 h) fun us s2 ⟨vs,H2,I2,r2,q⟩=>⟨I2.kIn,?_⟩) he hpl
 exact Cb F hr hb .nil JB I2 r2 q
noncomputable def jd(l:List (bB×Nat×(List D->ac->Option (D×ac))))(i:Nat)(mi:ME)(ms:MA):MS:=fun env S=>(mi env S).bind fun p=>(fg p.1).bind fun k=>(zn l k).bind fun q=>(ms (env.set i none) p.2).bind fun r=>if r.1.length=q.1 then (q.2 r.1 r.2).bind fun z=>some (.rt z.1 z.2) else none
theorem Lx(g:FTab X.prog X.w X.K X.mg X.base k x l)(hg:Gl X x)(hx:(x == ("__debug__":Str))=false)(hi:DE X ix mi)(hs:nu ix)(hr:Room k X.A)(ha:DA X (e::es) ms)(nd:X.N.Nodup)(hN:X.N[i]?=some b)(hl:Mt X.env.scope b)(hv:TY X.env.scope b)
  (hf:X.fn b=true\/X.env.scope.names.lookup b=some .local) (hd:(b == ("__debug__":Str))=false) (hc:(b == ("__classdict__":Str))=false) (hlen:i<X.N.length)
  (he:starEach (e::es) X.env=(false,eval e X.env)::starEach es X.env) (hpl:(backTo pc (starEach es X.env)).any (·.1)=false) :
  vD X [.Assign [.Name b pb] (.Subscript (.Name x pt) ix ps) pa,.Return (some (.Call (.Name b p) (e::es) [] pc)) pr] (jd l i mi ms):=by
 obtain⟨a,vs,h1,h2,h3⟩:=g.ex
 intro pins s σ H E I h
 have hlσ:i < σ.length:=by
  have:σ.length=X.N.length:=I.len
  omega
 refine zL (Jk (i:=i) nd hN hl (Ju (Ks h2) (xM (v:=.ref a) hg h1 rfl hx) hi hs) rfl hf) (Ew (Jl (Jz hN hv hr ha hd hc he hpl))) pins s σ H E I ?_
 obtain⟨μ,S,env,o,hS,hE,hm,post⟩:=h
 obtain⟨⟨y,S1⟩,e1,hm⟩:=Option.bind_eq_some_iff.mp hm
 obtain⟨z,e2,hm⟩:=Option.bind_eq_some_iff.mp hm
 obtain⟨q,e3,hm⟩:=Option.bind_eq_some_iff.mp hm
 obtain⟨fa,v1,F⟩:=h3.val e3
 refine⟨μ,S,env,y,S1,hS,hE,e1,fun u H1 μ1 ex s1 r1=>⟨z,.ref fa,.ref fa,rfl,mY e2 r1,v1,rfl,?_⟩⟩
 obtain⟨⟨ws,S2⟩,e4,hm⟩:=Option.bind_eq_some_iff.mp hm
 dsimp only at hm
 split at hm
 ·rename_i hn
  obtain⟨⟨d,S3⟩,e5,hm⟩:=Option.bind_eq_some_iff.mp hm
  cases hm
  refine⟨fa,q.1,q.2,by rw [List.getElem?_set_self hlσ],F,zu ⟨μ1,S1,env.set i none,d,S3,s1,(hE.mono ex).setN i,?_,Post.ext ex post⟩⟩
  show (ms (env.set i none) S1).bind _=_
  rw [e4]
  exact(if_pos hn).trans e5
 ·cases hm
end
inductive FNs(mg:Str->Option Value):List (bB×Value)->List (Str×Str)->Prop
 | nil:FNs mg [] []
 | cons {x y:Str} {a:Addr} {vs:List (bB×Value)} {l:List (Str×Str)} (h:mg y=some (.ref a)) (t:FNs mg vs l):FNs mg ((.inr x,.ref a)::vs) ((x,y)::l)
structure FNm(w:World)(K:PySem.W.Frag)(mg:Str->Option Value)(x:Str)(l:List (Str×Str)):Prop where
 ex:∃ (a:Addr) (vs:List (bB×Value)),mg x=some (.ref a)/\(∀ (P:Program) (h:Heap),K.In h->h.DictOf (bZ P w) a vs)/\FNs mg vs l
theorem SA{w:World}{K:PySem.W.Frag}{mg:Str->Option Value}{x:Str}{a:Addr}{es:List DictEntry}{n:Nat}{vs:List (bB×Value)}{l:List (Str×Str)}(hg:mg x=some (.ref a))(hl:K.lookup a=some ⟨.type "dict",none,.dict es.toArray n,#[]⟩)(t:TabLit w es vs)(hn:(vs.map (·.1)).Nodup)(r:FNs mg vs l):FNm w K mg x l:=
 ⟨a,vs,hg,zp hl (fun P=>by simpa using t.pairs) (fun P e he=>t.keys e (by simpa using he)) hn,r⟩
section
variable{P:Program}{w:World}{K:PySem.W.Frag}{mg:Str->Option Value}{base:Heap}{k:Nat}
def FFs(P:Program)(w:World)(K:PySem.W.Frag)(mg:Str->Option Value)(base:Heap)(k:Nat):List (Str×Str)->List (bB×Nat×(List D->ac->Option (D×ac)))->Prop
 | [],[]=>True
 | (x,y)::l,(z,n,f)::r=>z=.inr x/\Fn P w K mg base k y n f/\FFs P w K mg base k l r
 | _,_=>False
theorem FNs.rel:∀ {vs l r},FNs mg vs l->FFs P w K mg base k l r->FRel P w K mg base k vs r
 | _,_,[],.nil,_=>.nil
 | _,_,(z,n,f)::r,.cons h t,q=>by
  obtain⟨q1,q2,q3⟩:=q
  subst q1
  exact .cons (q2.at h) (t.rel q3)
theorem Oh{x:Str}{l:List (Str×Str)}{r:List (bB×Nat×(List D->ac->Option (D×ac)))}(T:FNm w K mg x l)(h:FFs P w K mg base k l r):FTab P w K mg base k x r:=by
 obtain⟨a,vs,h1,h2,h3⟩:=T.ex
 exact⟨a,vs,h1,h2,h3.rel h⟩
theorem FRel.up{k':Nat}(h:k<=k'):∀ {vs l},FRel P w K mg base k vs l->FRel P w K mg base k' vs l
 | _,_,.nil=>.nil
 | _,_,.cons q t=>.cons (by obtain⟨fd,ps,a,b,c⟩:=q.ex;exact⟨fd,ps,a,b.mono h,c⟩) (t.up h)
theorem FTab.up{k':Nat}{x:Str}{l:List (bB×Nat×(List D->ac->Option (D×ac)))}(T:FTab P w K mg base k x l)(h:k<=k'):FTab P w K mg base k' x l:=by
 obtain⟨a,vs,h1,h2,h3⟩:=T.ex
 exact⟨a,vs,h1,h2,h3.up h⟩
end
end M
namespace MI
open PySem PySem.Spec PyProof.Rows L2 M
@[irreducible] noncomputable def mC(d:D):ME:=M.mC d
theorem tF{d:D}:mC d=M.mC d:=by unfold mC;rfl
@[irreducible] noncomputable def ab(i:Nat):ME:=M.ab i
theorem EH{i:Nat}:ab i=M.ab i:=by unfold ab;rfl
@[irreducible] noncomputable def au(f:ac->D->D->Option D)(a b:ME):ME:=M.au f a b
theorem jW{f:ac->D->D->Option D}{a b:ME}:au f a b=M.au f a b:=by unfold au;rfl
@[irreducible] noncomputable def aw(m:ME):MT:=M.aw m
theorem tw{m:ME}:aw m=M.aw m:=by unfold aw;rfl
@[irreducible] noncomputable def cV(f g:ac->D->D->Option D)(a b c:ME):ME:=M.cV f g a b c
theorem pR{f g:ac->D->D->Option D}{a b c:ME}:cV f g a b c=M.cV f g a b c:=by unfold cV;rfl
@[irreducible] noncomputable def cS(m:ME):MT:=M.cS m
theorem yk{m:ME}:cS m=M.cS m:=by unfold cS;rfl
@[irreducible] noncomputable def cT(a b:MT):MT:=M.cT a b
theorem tG{a b:MT}:cT a b=M.cT a b:=by unfold cT;rfl
@[irreducible] noncomputable def fH(a b:MT):MT:=M.fH a b
theorem yl{a b:MT}:fH a b=M.fH a b:=by unfold fH;rfl
@[irreducible] noncomputable def du(a:MT):MT:=M.du a
theorem AC{a:MT}:du a=M.du a:=by unfold du;rfl
@[irreducible] noncomputable def dB(a b:ME):ME:=M.Kc a b
theorem EW{a b:ME}:dB a b=M.Kc a b:=by unfold dB;rfl
@[irreducible] noncomputable def we(a b:ME):ME:=M.RI a b
theorem JS{a b:ME}:we a b=M.RI a b:=by unfold we;rfl
@[irreducible] noncomputable def ic(a:ME):ME:=M.JU a
theorem AB{a:ME}:ic a=M.JU a:=by unfold ic;rfl
@[irreducible] noncomputable def lN(t:MT)(a b:ME):ME:=M.lN t a b
theorem JY{t:MT}{a b:ME}:lN t a b=M.lN t a b:=by unfold lN;rfl
@[irreducible] noncomputable def ag:MA:=M.ag 
theorem ym  : ag  = M.ag  := by unfold ag;rfl
@[irreducible] noncomputable def aa(a:ME)(r:MA):MA:=M.aa a r
theorem AK{a:ME}{r:MA}:aa a r=M.aa a r:=by unfold aa;rfl
@[irreducible] noncomputable def aS(ms:MA):ME:=M.aS ms
theorem EJ{ms:MA}:aS ms=M.aS ms:=by unfold aS;rfl
@[irreducible] noncomputable def di(ms:MA):ME:=M.di ms
theorem EO{ms:MA}:di ms=M.di ms:=by unfold di;rfl
@[irreducible] noncomputable def eV(ms:MA):ME:=M.eV ms
theorem AE{ms:MA}:eV ms=M.eV ms:=by unfold eV;rfl
@[irreducible] noncomputable def EI(f:ac->D->Option D)(a:ME):ME:=M.EI f a
theorem JR{f:ac->D->Option D}{a:ME}:EI f a=M.EI f a:=by unfold EI;rfl
@[irreducible] noncomputable def bF:MO:=M.bF 
theorem wc  : bF  = M.bF  := by unfold bF;rfl
@[irreducible] noncomputable def ca(m:ME):MO:=M.ca m
theorem AA{m:ME}:ca m=M.ca m:=by unfold ca;rfl
@[irreducible] noncomputable def bE(a:ME)(lo hi:MO):ME:=M.bE a lo hi
theorem wa{a:ME}{lo hi:MO}:bE a lo hi=M.bE a lo hi:=by unfold bE;rfl
@[irreducible] noncomputable def bi(f:List D->ac->Option (D×ac))(ms:MA):ME:=M.bi f ms
theorem ie{f:List D->ac->Option (D×ac)}{ms:MA}:bi f ms=M.bi f ms:=by unfold bi;rfl
@[irreducible] noncomputable def dQ(T:String)(m:ME):ME:=M.dQ T m
theorem EQ{T:String}{m:ME}:dQ T m=M.dQ T m:=by unfold dQ;rfl
@[irreducible] noncomputable def ai(n:Nat)(f:List D->ac->Option (D×ac))(ms:MA):ME:=M.ai n f ms
theorem pS{n:Nat}{f:List D->ac->Option (D×ac)}{ms:MA}:ai n f ms=M.ai n f ms:=by unfold ai;rfl
@[irreducible] noncomputable def aY:MS:=M.aY 
theorem oP  : aY  = M.aY  := by unfold aY;rfl
@[irreducible] noncomputable def az(a b:MS):MS:=M.az a b
theorem EK{a b:MS}:az a b=M.az a b:=by unfold az;rfl
@[irreducible] noncomputable def aV(m:ME):MS:=M.aV m
theorem EL{m:ME}:aV m=M.aV m:=by unfold aV;rfl
@[irreducible] noncomputable def ee(m:ME):MS:=M.ee m
theorem AH{m:ME}:ee m=M.ee m:=by unfold ee;rfl
@[irreducible] noncomputable def bG(t:MT)(a b:MS):MS:=M.bG t a b
theorem ER{t:MT}{a b:MS}:bG t a b=M.bG t a b:=by unfold bG;rfl
@[irreducible] noncomputable def ah(i:Nat):MG:=M.ah i
theorem pk{i:Nat}:ah i=M.ah i:=by unfold ah;rfl
@[irreducible] noncomputable def aM:uL:=M.aM 
theorem Bd  : aM  = M.aM  := by unfold aM;rfl
@[irreducible] noncomputable def af(g:MG)(gs:uL):uL:=M.af g gs
theorem wH{g:MG}{gs:uL}:af g gs=M.af g gs:=by unfold af;rfl
@[irreducible] noncomputable def aZ(n:Nat)(gs:uL):MG:=M.aZ n gs
theorem mI{n:Nat}{gs:uL}:aZ n gs=M.aZ n gs:=by unfold aZ;rfl
@[irreducible] noncomputable def gv(o i:ME):MG:=M.gv o i
theorem Bc{o i:ME}:gv o i=M.gv o i:=by unfold gv;rfl
@[irreducible] noncomputable def aG(m:ME)(g:MG):MS:=M.aG m g
theorem iJ{m:ME}{g:MG}:aG m g=M.aG m g:=by unfold aG;rfl
@[irreducible] noncomputable def bO(ms:MA):MA:=M.bO ms
theorem tD{ms:MA}:bO ms=M.bO ms:=by unfold bO;rfl
@[irreducible] noncomputable def dU(ms:MA):MA:=M.dU ms
theorem tB{ms:MA}:dU ms=M.dU ms:=by unfold dU;rfl
@[irreducible] noncomputable def gt(mi:MA)(g:MG)(body:MS):MS:=M.gt mi g body
theorem ES{mi:MA}{g:MG}{body:MS}:gt mi g body=M.gt mi g body:=by unfold gt;rfl
@[irreducible] noncomputable def bJ(mi:MA)(g:MG)(t:MT)(e:ME)(cap:List (Option Nat)):ME:=M.bJ mi g t e cap
theorem tE{mi:MA}{g:MG}{t:MT}{e:ME}{cap:List (Option Nat)}:bJ mi g t e cap=M.bJ mi g t e cap:=by unfold bJ;rfl
@[irreducible] noncomputable def da(m:ME):MA:=M.da m
theorem yn{m:ME}:da m=M.da m:=by unfold da;rfl
@[irreducible] noncomputable def bX:MT:=M.bX 
theorem Az  : bX  = M.bX  := by unfold bX;rfl
@[irreducible] noncomputable def eU(f:MF)(o:ME)(ms:MA):ME:=M.eU f o ms
theorem AD{f:MF}{o:ME}{ms:MA}:eU f o ms=M.eU f o ms:=by unfold eU;rfl
@[irreducible] noncomputable def gu(ms:MA):MA:=M.gu ms
theorem AG{ms:MA}:gu ms=M.gu ms:=by unfold gu;rfl
@[irreducible] noncomputable def nz(i j:Nat)(ms:MA):MS:=M.nz i j ms
theorem EM{i j:Nat}{ms:MA}:nz i j ms=M.nz i j ms:=by unfold nz;rfl
@[irreducible] noncomputable def kD(o:ME)(ms:MA):ME:=M.kD o ms
theorem EV{o:ME}{ms:MA}:kD o ms=M.kD o ms:=by unfold kD;rfl
@[irreducible] noncomputable def nV(ms:MA):MA:=M.nV ms
theorem EG{ms:MA}:nV ms=M.nV ms:=by unfold nV;rfl
@[irreducible] noncomputable def iG(ms:List (ME×ME)):ME:=M.iG ms
theorem AJ{ms:List (ME×ME)}:iG ms=M.iG ms:=by unfold iG;rfl
@[irreducible] noncomputable def fK(ms:List (ME×ME)):ME:=M.fK ms
theorem wj{ms:List (ME×ME)}:fK ms=M.fK ms:=by unfold fK;rfl
@[irreducible] noncomputable def fI(f:MF)(o:ME)(ms:MA):ME:=M.fI f o ms
theorem wf{f:MF}{o:ME}{ms:MA}:fI f o ms=M.fI f o ms:=by unfold fI;rfl
@[irreducible] noncomputable def gb(m:ME)(g:MG)(body:MS):MS:=M.gb m g body
theorem AF{m:ME}{g:MG}{body:MS}:gb m g body=M.gb m g body:=by unfold gb;rfl
@[irreducible] noncomputable def fJ(ms:MA):ME:=M.fJ ms
theorem wg{ms:MA}:fJ ms=M.fJ ms:=by unfold fJ;rfl
@[irreducible] noncomputable def fG(t:MT)(body:MS):MS:=M.fG t body
theorem vY{t:MT}{body:MS}:fG t body=M.fG t body:=by unfold fG;rfl
@[irreducible] noncomputable def dP(l:List (bB×D))(a:ME):ME:=M.dP l a
theorem vZ{l:List (bB×D)}{a:ME}:dP l a=M.dP l a:=by unfold dP;rfl
@[irreducible] noncomputable def jd(l:List (bB×Nat×(List D->ac->Option (D×ac))))(i:Nat)(mi:ME)(ms:MA):MS:=M.jd l i mi ms
theorem AI{i:Nat}{mi:ME}{ms:MA}:jd l i mi ms=M.jd l i mi ms:=by unfold jd;rfl
theorem CQ{f:List D->ac->Option (D×ac)}:ai 0 f ag=M.ai 0 f M.ag:=by rw [pS,ym]
theorem CN{f:ac->D->D->Option D}{a b:ME}:aw (au f a b)=M.aw (M.au f a b):=by rw [tw,jW]
theorem CO{f g:ac->D->D->Option D}{a b c:ME}:aw (cV f g a b c)=M.aw (M.cV f g a b c):=by rw [tw,pR]
theorem nX{m:ME}{i:Nat}:aG m (ah i)=M.aG m (M.ah i):=by rw [iJ,pk]
theorem AL{mi:MA}{g:MG}{t:MT}{e:ME}{cap:List (Option Nat)}{i:Nat}:aG (bJ mi g t e cap) (ah i)=M.aG (M.bJ mi g t e cap) (M.ah i):=by rw [iJ,pk,tE]
section
variable{X:Cx}{e:Expr}{es:List Expr}{s:Stmt}{ss:List Stmt}
theorem ci{m m':ME}(h:m=m')(d:DE X e m'):DE X e m:=by rw [h];exact d
theorem By{m m':MT}(h:m=m')(d:DT X e m'):DT X e m:=by rw [h];exact d
theorem Fx{m m':MT}(h:m=m')(d:DW X e m'):DW X e m:=by rw [h];exact d
theorem Qn{m m':MA}(h:m=m')(d:DA X es m'):DA X es m:=by rw [h];exact d
theorem Qm{o:Option Expr}{m m':MO}(h:m=m')(d:DO X o m'):DO X o m:=by rw [h];exact d
theorem Fy{m m':MG}(h:m=m')(d:DG X e m'):DG X e m:=by rw [h];exact d
theorem Mc{m m':uL}(h:m=m')(d:Ug X es m'):Ug X es m:=by rw [h];exact d
theorem wS{tg:Expr}{m m':MA}(h:m=m')(d:DI X tg e m'):DI X tg e m:=by rw [h];exact d
theorem Tz{m m':MT}(h:m=m')(d:Qt X es m'):Qt X es m:=by rw [h];exact d
theorem ju{m m':MS}(h:m=m')(d:DS X s m'):DS X s m:=by rw [h];exact d
theorem DQ{m m':MS}(h:m=m')(d:vD X ss m'):vD X ss m:=by rw [h];exact d
end
end MI
namespace MI
open PySem PySem.Spec PyProof.Rows L2 M
inductive GI where
 | fn (n:Nat) (f:List D->ac->Option (D×ac))
 | con (d:D)
 | blt
 | tab (l:List (bB×D))
 | ftab (l:List (bB×Nat×(List D->ac->Option (D×ac))))
structure CI where
 N:List Str
 sc:Scope
 all:Bool
 gs:List (Str×GI)
 mt:List Nat
def GOk(X:Cx)(k:Nat)(x:Str):GI->Prop
 | .fn n f=>Fn X.prog X.w X.K X.mg X.base k x n f
 | .con d=>GC X.K X.mg x d
 | .blt=>X.mg x=none
 | .tab l=>uJ X.w X.K X.mg x l
 | .ftab l=>FTab X.prog X.w X.K X.mg X.base k x l
structure jE(k:Nat)(c:CI)(X:Cx):Prop where
 N:X.N=c.N
 nd:c.N.Nodup
 sc:X.env.scope=c.sc
 fk:c.sc.kind=.function
 fn:c.all=true->∀ x,X.fn x=true
 calm:X.calm=true
 room:Room k X.A
 xe:X.xe=fun _ _=>False
 gs:∀ p∈c.gs,GOk X k p.1 p.2
def iz:ME:=fun _ _=>none
def vv:MT:=fun _ _=>none
def jX:MS:=fun _ _=>none
def vw:MA:=fun _ _=>none
def KB:MG:=fun _ _ _=>none
section
variable{X:Cx}{k:Nat}{c:CI}{e:Expr}{pos:Pos}
theorem cj:DE X e iz:=fun _ _ _ _ _ _ ⟨_,_,_,_,_,_,_,h,_⟩=>by cases h
theorem pB:DT X e vv:=fun _ _ _ _ _ _ ⟨_,_,_,_,_,_,_,h,_⟩=>by cases h
theorem lP{s:Stmt}:DS X s jX:=fun _ _ _ _ _ _ ⟨_,_,_,_,_,_,h,_⟩=>by cases h
theorem LC{s:Stmt}{g:MG}:DS X s (aG iz g):=by
 rw [show aG iz g=jX from by rw [iJ];rfl]
 exact lP
theorem SX{s:List Stmt}:vD X s jX:=fun _ _ _ _ _ _ ⟨_,_,_,_,_,_,h,_⟩=>by cases h
theorem da_no{es:List Expr}:DA X es vw:=fun _ _ _ _ _ _ _ ⟨_,_,_,_,_,_,_,h,_⟩=>by cases h
theorem uy{tg:Expr}:DI X tg e vw:=fun _ _ _ _ _ _ ⟨_,_,_,_,_,_,_,h,_⟩=>by cases h
theorem Bt:DG X e KB:=fun _ _ _ _ _ _ _ _ _ ⟨_,_,_,_,_,_,_,_,_,h,_⟩=>by cases h
def oa(x:Str):List Str->Option Nat
 | []=>none
 | y::r=>if x == y then some 0 else (oa x r).map (· + 1)
theorem cW{x:Str}:∀ {l:List Str} {i:Nat},oa x l=some i->l[i]?=some x
 | y::r,i,h=>by
  unfold oa at h
  split at h
  ·rename_i e;cases h;simp at e;simp [e]
  ·cases q:oa x r with
   | none=>rw [q] at h;cases h
   | some j=>rw [q] at h;cases h;simpa using cW q
def eW(x:Str):Bool:=!(x == ("__debug__":Str)) && !(x == ("__classdict__":Str)) && !(x == ("__name__":Str))
theorem cQ{x:Str}(h:eW x=true):(x == ("__debug__":Str))=false:=by
 unfold eW at h;rw [Bool.and_eq_true,Bool.and_eq_true] at h;simpa only [Bool.not_eq_true'] using h.1.1
theorem zX{x:Str}(h:eW x=true):(x == ("__classdict__":Str))=false:=by
 unfold eW at h;rw [Bool.and_eq_true,Bool.and_eq_true] at h;simpa only [Bool.not_eq_true'] using h.1.2
theorem ib{x:Str}(h:eW x=true):x ≠ "__name__":=by
 unfold eW at h;rw [Bool.and_eq_true,Bool.and_eq_true] at h
 have:=h.2
 rw [Bool.not_eq_true'] at this
 intro z;rw [z] at this;simp at this
def Qa(c:CI)(x:Str):Option GI:=match c.sc.names.lookup x with | some .globalImplicit=>if eW x then c.gs.lookup x else none | _=>none
theorem jh{g:GI}{x:Str}(C:jE k c X)(h:Qa c x=some g):Gl X x/\eW x=true/\GOk X k x g:=by
 unfold Qa at h
 split at h
 ·rename_i e
  split at h
  ·rename_i o
   refine⟨?_,o,C.gs _ (PySem.mem_of_lookup h)⟩
   show X.env.scope.names.lookup x=_
   rw [C.sc,e]
  ·cases h
 ·cases h
def Du(c:CI)(x:Str):ME:=match c.sc.names.lookup x with
 | some .globalImplicit=>match Qa c x with | some (.con d)=>mC d | _=>iz
 | some .local=>match oa x c.N with | some i=>if eW x then ab i else iz | none=>iz
 | some .cell=>match oa x c.N with | some i=>if eW x then ab i else iz | none=>iz
 | some .free=>match oa x c.N with | some i=>if eW x then ab i else iz | none=>iz
 | _=>iz
theorem oh(C:jE k c X){x:Str}(hv:TY c.sc x):DE X (.Name x pos) (match oa x c.N with | some i=>if eW x then ab i else iz | none=>iz):=by
 split
 ·rename_i i e
  split
  ·rename_i o
   exact ci EH <| M.Th (by rw [C.N];exact cW e) (by rw [C.sc];exact hv) (cQ o) (zX o)
  ·exact cj
 ·exact cj
theorem Hj(C:jE k c X)(x:Str):DE X (.Name x pos) (Du c x):=by
 unfold Du
 split
 ·split
  ·rename_i d e
   obtain⟨g,o,G⟩:=jh C e
   exact ci tF <| M.OV G g (cQ o)
  ·exact cj
 ·rename_i e;exact oh C (.inl e)
 ·rename_i e;exact oh C (.inr (.inl e))
 ·rename_i e;exact oh C (.inr (.inr e))
 ·exact cj
def Fl:Const->ME
 | .int i=>mC (.int i)
 | .bool b=>mC (.bl b)
 | .none=>mC .non
 | .str x=>mC (.str x)
 | _=>iz
theorem Dx(v:Const){j:Nat}:DE X (.Constant v j pos) (Fl v):=by
 cases v <;> first | exact ci tF <| M.Tr | exact ci tF <| M.de_bl | exact ci tF <| M.To | exact ci tF <| M.Tk | exact cj
def Lk(z:Bool)(op:Operator)(a b:ME):ME:=match op with
 | .Add=>au aO a b
 | .Sub=>au nB a b
 | .Mult=>au cB a b
 | .Mod=>au lD a b
 | .FloorDiv=>au Hg a b
 | .Pow=>au vy a b
 | _=>iz
theorem Lj{z:Bool}{op:Operator}{a b:Expr}{ma mb:ME}(ha:DE X a ma)(hb:DE X b mb):DE X (.BinOp a op b pos) (Lk z op ma mb):=by
 cases op <;> first | exact cj | skip
 ·exact ci jW <| M.wO NG ha hb
 ·exact ci jW <| M.wO Ru ha hb
 ·exact ci jW <| M.wO NF ha hb
 ·exact ci jW <| M.wO Ry ha hb
 ·exact ci jW <| M.wO Rv ha hb
 ·exact ci jW <| M.wO Rz ha hb
def evUn(op:UnaryOp)(a:ME):ME:=match op with
 | .Not=>ic a
 | .USub=>EI SF a
 | _=>iz
theorem Oz{op:UnaryOp}{a:Expr}{ma:ME}(ha:DE X a ma):DE X (.UnaryOp op a pos) (evUn op ma):=by
 cases op <;> first | exact cj | skip
 ·exact ci AB <| M.OT ha
 ·exact ci JR <| M.de_un Mw ha
def DP:CmpOp->Option (ac->D->D->Option D)
 | .Eq=>some bU
 | .NotEq=>some ij
 | .Lt=>some Ov
 | .LtE=>some Ow
 | .Gt=>some fGt
 | .GtE=>some fGe
 | .In=>some oo
 | .NotIn=>some qg
 | .Is=>some ut
 | .IsNot=>some kf
theorem nk{op:CmpOp}{f:ac->D->D->Option D}(r:Room k X.A)(h:DP op=some f):OpR X (compareOp op) (nw X.K f):=by
 cases op <;> cases h
 ·exact op_Eq r.units
 ·exact op_Ne r.units
 ·exact op_Lt
 ·exact op_Le
 ·exact op_Gt
 ·exact op_Ge
 ·exact op_Is
 ·exact JF
 ·exact op_In r.units
 ·exact JE r.units
def lq:Expr->Bool
 | .Set _ _ _=>false
 | _=>true
theorem iI{op:CmpOp}(h:lq e=true):behindInMarks op e=false:=by cases e <;> first | rfl | cases h
theorem jJ(h:lq e=true)(x:Value):foldedSetIterable e X.env x=pure x:=by cases e <;> first | rfl | cases h
def Li(c:CI)(E:CI->Expr->ME)(a:Expr)(ops:List CmpOp)(bs:List Expr):ME:=match ops,bs with
 | [op],[b]=>if lq b then (match DP op with | some f=>au f (E c a) (E c b) | none=>iz) else iz
 | [op,op'],[b,d]=>if lq d then (match DP op,DP op' with | some f,some g=>cV f g (E c a) (E c b) (E c d) | _,_=>iz) else iz
 | _,_=>iz
def Dy(c:CI)(E:CI->Expr->ME)(a:Expr)(ops:List CmpOp)(bs:List Expr):MT:=match ops,bs with
 | [op],[b]=>if lq b then (match DP op with | some f=>aw (au f (E c a) (E c b)) | none=>vv) else vv
 | [op,op'],[b,d]=>if lq d then (match DP op,DP op' with | some f,some g=>aw (cV f g (E c a) (E c b) (E c d)) | _,_=>vv) else vv
 | _,_=>vv
section
variable{E:CI->Expr->ME}{T:CI->Expr->MT}
theorem Lh(C:jE k c X)(hE:∀ e,DE X e (E c e)){a:Expr}{ops:List CmpOp}{bs:List Expr}:DE X (.Compare a ops bs pos) (Li c E a ops bs):=by
 unfold Li
 split
 ·split
  ·rename_i hm
   split
   ·rename_i f h;exact ci jW <| M.Tt (nk C.room h) (hE _) (hE _) (iI hm)
   ·exact cj
  ·exact cj
 ·split
  ·rename_i hm
   split
   ·rename_i f g h1 h2;exact ci pR <| M.LU (nk C.room h1) (nk C.room h2) (hE _) (hE _) (hE _) (iI hm)
   ·exact cj
  ·exact cj
 ·exact cj
theorem Ho(C:jE k c X)(hE:∀ e,DE X e (E c e)){a:Expr}{ops:List CmpOp}{bs:List Expr}:DT X (.Compare a ops bs pos) (Dy c E a ops bs):=by
 unfold Dy
 split
 ·split
  ·rename_i hm
   split
   ·rename_i f h;exact By CN <| M.SW (nk C.room h) (hE _) (hE _) (iI hm)
   ·exact pB
  ·exact pB
 ·split
  ·rename_i hm
   split
   ·rename_i f g h1 h2;exact By CO <| M.Lw (nk C.room h1) (nk C.room h2) (hE _) (hE _) (hE _) (iI hm)
   ·exact pB
  ·exact pB
 ·exact pB
def Bg(f:ME->ME->ME):List ME->ME
 | []=>iz
 | [m]=>m
 | m::r=>f m (Bg f r)
def ui(f:MT->MT->MT):List MT->MT
 | []=>vv
 | [m]=>m
 | m::r=>f m (ui f r)
theorem wJ{E:Expr->ME}(hE:∀ e,DE X e (E e)):∀ vs:List Expr,DE X (.BoolOp .And vs pos) (Bg dB (vs.map E))
 | []=>cj
 | [e]=>LP (hE e)
 | e::e'::r=>ci EW <| M.Pa (hE e) (wJ hE (e'::r))
theorem Bf{E:Expr->ME}(hE:∀ e,DE X e (E e)):∀ vs:List Expr,DE X (.BoolOp .Or vs pos) (Bg we (vs.map E))
 | []=>cj
 | [e]=>LP (hE e)
 | e::e'::r=>ci JS <| M.Tl (hE e) (Bf hE (e'::r))
theorem GZ{E:Expr->MT}(hE:∀ e,DT X e (E e)):∀ vs:List Expr,DT X (.BoolOp .And vs pos) (ui cT (vs.map E))
 | []=>pB
 | [e]=>OG (Fq (hE e))
 | e::e'::r=>OG (Fx tG <| M.Ls (hE e) (foldT_andW hE (e'::r) (by simp)))
where foldT_andW {E:Expr->MT} (hE:∀ e,DT X e (E e)):∀ vs:List Expr,vs≠[]->DW X (.BoolOp .And vs pos) (ui cT (vs.map E))
 | [],h=>absurd rfl h
 | [e],_=>Fq (hE e)
 | e::e'::r,_=>Fx tG <| M.Ls (hE e) (foldT_andW hE (e'::r) (by simp))
theorem KD{E:Expr->MT}(hE:∀ e,DT X e (E e)):∀ vs:List Expr,DT X (.BoolOp .Or vs pos) (ui fH (vs.map E))
 | []=>pB
 | [e]=>OG (Lr (hE e))
 | e::e'::r=>OG (Fx yl <| M.Qi (hE e) (foldT_orW hE (e'::r) (by simp)))
where foldT_orW {E:Expr->MT} (hE:∀ e,DT X e (E e)):∀ vs:List Expr,vs≠[]->DW X (.BoolOp .Or vs pos) (ui fH (vs.map E))
 | [],h=>absurd rfl h
 | [e],_=>Lr (hE e)
 | e::e'::r,_=>Fx yl <| M.Qi (hE e) (foldT_orW hE (e'::r) (by simp))
def cr:Expr->Bool
 | .Starred _ _=>false
 | _=>true
theorem bN{es:List Expr}(h:cr e=true):starEach (e::es) X.env=(false,eval e X.env)::starEach es X.env:=by cases e <;> first | rfl | cases h
theorem gN:∀ {es:List Expr},es.all cr=true->(backTo pos (starEach es X.env)).any (·.1)=false
 | [],_=>rfl
 | e::es,h=>by
  rw [List.all_cons,Bool.and_eq_true] at h
  rw [bN h.1]
  show (false||(backTo pos (starEach es X.env)).any (·.1))=false
  rw [gN h.2];rfl
def wM(E:Expr->ME):List Expr->MA
 | []=>ag
 | e::r=>if cr e then aa (E e) (wM E r) else vw
theorem eZ{E:Expr->ME}(hE:∀ e,DE X e (E e)):∀ es:List Expr,DA X es (wM E es)
 | []=>Qn ym <| M.Tu
 | e::r=>by
  unfold wM
  split
  ·rename_i h;exact Qn AK <| M.Pc (hE e) (eZ hE r) (bN h)
  ·exact da_no
def evO(E:Expr->ME):Option Expr->MO
 | none=>bF
 | some e=>ca (E e)
theorem Le{E:Expr->ME}(hE:∀ e,DE X e (E e)):∀ o:Option Expr,DO X o (evO E o)
 | none=>Qm wc <| M.OQ
 | some e=>Qm AA <| M.OP (hE e)
def zq(c:CI):Expr->Option (List (bB×D))
 | .Name x _=>match Qa c x with | some (.tab l)=>some l | _=>none
 | _=>none
theorem BJ{a:Expr}{l:List (bB×D)}(C:jE k c X)(h:zq c a=some l):∃ x p,a=.Name x p/\Gl X x/\eW x=true/\uJ X.w X.K X.mg x l:=by
 unfold zq at h
 split at h
 ·split at h
  ·rename_i e
   cases h
   obtain⟨g,o,G⟩:=jh C e
   exact⟨_,_,rfl,g,o,G⟩
  ·cases h
 ·cases h
def Qf(c:CI)(E:Expr->ME)(a i:Expr):ME:=match i with
 | .Slice lo hi st _=>match st with | none=>bE (E a) (evO E lo) (evO E hi) | some st=>(match lo,hi with | none,none=>iz | _,_=>iz)
 | i=>match zq c a with | some l=>dP l (E i) | none=>au av (E a) (E i)
theorem Hi(C:jE k c X){E:Expr->ME}(hE:∀ e,DE X e (E e))(a i:Expr)(hs:nu i:=by intro _ _;rfl):DE X (.Subscript a i pos) (match zq c a with | some l=>dP l (E i) | none=>au av (E a) (E i)):=by
 cases ht:zq c a with
 | none=>exact ci jW <| M.Tq (by have:=C.room.units;omega) (hE a) (hE _) hs
 | some l=>
  obtain⟨x,p,rfl,g,o,G⟩:=BJ C ht
  exact ci vZ (M.LN G g (cQ o) (hE _) hs)
theorem Lb(C:jE k c X){E:Expr->ME}(hE:∀ e,DE X e (E e))(a i:Expr):DE X (.Subscript a i pos) (Qf c E a i):=by
 cases i with
 | Slice lo hi st p=>
  cases st with
  | none=>exact ci wa <| M.LO (hE a) (Le hE lo) (Le hE hi)
  | some st=>
   cases lo with
   | none=>
    cases hi with
    | none=>exact cj
    | some _=>exact cj
   | some _=>exact cj
 | _=>exact Hi C hE a _
def sP:Expr->Option Str
 | .Name x _=>some x
 | _=>none
theorem mj{x:Str}(h:sP e=some x):∃ p,e=.Name x p:=by cases e <;> cases h;exact⟨_,rfl⟩
def uE:Expr->Option (Str×List Expr)
 | .Call f es [] _=>(sP f).map fun x=>(x,es)
 | _=>none
theorem mR{x:Str}{es:List Expr}(h:uE e=some (x,es)):∃ p p2,e=.Call (.Name x p) es [] p2:=by
 cases e with
 | Call f es' ks p2=>
  cases ks with
  | nil=>
   obtain⟨y,h1,h2⟩:=Option.map_eq_some_iff.mp h
   cases h2
   obtain⟨p,rfl⟩:=mj h1
   exact⟨p,p2,rfl⟩
  | cons _ _=>cases h
 | _=>cases h
def nG(c:CI)(x:Str):Bool:=match Qa c x with | some .blt=>true | _=>false
theorem mD{x:Str}(C:jE k c X)(h:nG c x=true):X.mg x=none/\Gl X x/\eW x=true:=by
 unfold nG at h
 split at h
 ·rename_i e;obtain⟨a,b,d⟩:=jh C e;exact⟨d,a,b⟩
 ·cases h
def BQ(c:CI)(es:List Expr):Option Expr:=match es with
 | [e1]=>match uE e1 with
  | some (y,[a])=>if y == "set" && nG c y&&cr a then some a else none
  | _=>none
 | _=>none
theorem zx{es:List Expr}{a:Expr}(h:BQ c es=some a):∃ p p2,es=[.Call (.Name "set" p) [a] [] p2]/\nG c "set" = true/\cr a=true:=by
 unfold BQ at h
 split at h
 ·split at h
  ·rename_i hc
   split at h
   ·rename_i hb
    cases h
    rw [Bool.and_eq_true,Bool.and_eq_true] at hb
    obtain⟨p,p2,rfl⟩:=mR hc
    have z:=hb.1.1
    rw [beq_iff_eq] at z;subst z
    exact⟨p,p2,rfl,hb.1.2,hb.2⟩
   ·cases h
  ·cases h
 ·cases h
def sy(c:CI)(es:List Expr):Option Expr:=match es with
 | [e1]=>match uE e1 with
  | some (y,[a])=>if y == "range" && nG c y&&cr a then some a else none
  | _=>none
 | _=>none
theorem uX{es:List Expr}{a:Expr}(h:sy c es=some a):∃ p p2,es=[.Call (.Name "range" p) [a] [] p2]/\nG c "range" = true/\cr a=true:=by
 unfold sy at h
 split at h
 ·split at h
  ·rename_i hc
   split at h
   ·rename_i hb
    cases h
    rw [Bool.and_eq_true,Bool.and_eq_true] at hb
    obtain⟨p,p2,rfl⟩:=mR hc
    have z:=hb.1.1
    rw [beq_iff_eq] at z;subst z
    exact⟨p,p2,rfl,hb.1.2,hb.2⟩
   ·cases h
  ·cases h
 ·cases h
def TJ(z:Bool)(x:Str):Option (List D->ac->Option (D×ac)):=
 if x == "len" then some (aN fO) else if x == "int" then some (aN kP) else if x == "max" then some (aN lO) else if x == "min" then some (aN Bl)
 else if x == "list" then some (aN (cm .lst)) else if x == "tuple" then some (aN (cm .tup)) else if x == "all" then some (aN yJ) else none
theorem Pi{zz:Bool}{x:Str}{f:List D->ac->Option (D×ac)}{es:List Expr}{ms:MA}{p:Pos}(C:jE k c X)(h:TJ zz x=some f)(hm:X.mg x=none)(hg:Gl X x)(o:eW x=true)(hs:(e::es).all cr=true)(ha:DA X (e::es) ms) :
  DE X (.Call (.Name x p) (e::es) [] pos) (bi f ms):=by
 rw [List.all_cons,Bool.and_eq_true] at hs
 have q1:=bN (X:=X) (es:=es) hs.1
 have q2:=gN (X:=X) (pos:=pos) hs.2
 unfold TJ at h
 split at h
 ·rename_i z;cases h;rw [beq_iff_eq] at z;subst z;exact ci ie <| M.pC Md hm boot_len ha hg (ib o) (cQ o) q1 q2
 split at h
 ·rename_i z;cases h;rw [beq_iff_eq] at z;subst z;exact ci ie <| M.qm Me hm boot_int ha hg (ib o) (cQ o) q1 q2
 split at h
 ·rename_i z;cases h;rw [beq_iff_eq] at z;subst z;exact ci ie <| M.pC (HU C.calm) hm boot_max ha hg (ib o) (cQ o) q1 q2
 split at h
 ·rename_i z;cases h;rw [beq_iff_eq] at z;subst z;exact ci ie <| M.pC (HS C.calm) hm boot_min ha hg (ib o) (cQ o) q1 q2
 split at h
 ·rename_i z;cases h;rw [beq_iff_eq] at z;subst z;exact ci ie <| M.qm HW hm boot_list ha hg (ib o) (cQ o) q1 q2
 split at h
 ·rename_i z;cases h;rw [beq_iff_eq] at z;subst z;exact ci ie <| M.qm DV hm boot_tuple ha hg (ib o) (cQ o) q1 q2
 split at h
 ·rename_i z;cases h;rw [beq_iff_eq] at z;subst z;exact ci ie <| M.pC (Mf C.calm) hm boot_all ha hg (ib o) (cQ o) q1 q2
 cases h
def QC(x:Str):Option String:=if x == "int" then some "int" else if x == "bool" then some "bool" else if x == "str" then some "str" else if x == "tuple" then some "tuple" else if x == "list" then some "list" else if x == "dict" then some "dict" else none
theorem Ek{x:Str}{T:String}(h:QC x=some T):bootBuiltins x=some (.type T)/\(T = "int"\/T = "bool"\/T = "str"\/T = "tuple"\/T = "list"\/T = "dict"):=by
 unfold QC at h
 split at h
 ·rename_i z;cases h;rw [beq_iff_eq] at z;subst z;exact⟨boot_int,by simp⟩
 split at h
 ·rename_i z;cases h;rw [beq_iff_eq] at z;subst z;exact⟨boot_bool,by simp⟩
 split at h
 ·rename_i z;cases h;rw [beq_iff_eq] at z;subst z;exact⟨boot_str,by simp⟩
 split at h
 ·rename_i z;cases h;rw [beq_iff_eq] at z;subst z;exact⟨boot_tuple,by simp⟩
 split at h
 ·rename_i z;cases h;rw [beq_iff_eq] at z;subst z;exact⟨boot_list,by simp⟩
 split at h
 ·rename_i z;cases h;rw [beq_iff_eq] at z;subst z;exact⟨boot_dict,by simp⟩
 cases h
def Qg(c:CI)(E:Expr->ME):List Expr->ME
 | [a,t]=>match sP t with
  | some y=>match Qa c y,QC y with | some .blt,some T=>if cr a then dQ T (E a) else iz | _,_=>iz
  | none=>iz
 | _=>iz
def yM(c:CI)(E:Expr->ME)(x:Str)(es:List Expr):ME:=match Qa c x with
 | some (.fn n f)=>match es with
  | []=>if n == 0 then ai 0 f ag else iz
  | e::r=>if (e::r).all cr then ai n f (wM E (e::r)) else iz
 | some .blt=>if x == "isinstance" then Qg c E es else match (if x == "len" then BQ c es else none) with
  | some a=>iz
  | none=>match (if x == "list" then sy c es else none) with
  | some a=>fJ (wM E [a])
  | none=>match TJ (c.mt.contains 400000) x,es with
   | some f,e::r=>if (e::r).all cr then bi f (wM E (e::r)) else iz
   | _,_=>iz
 | _=>iz
theorem Hq(C:jE k c X){E:Expr->ME}(hE:∀ e,DE X e (E e)){x:Str}{es:List Expr}{p:Pos}:DE X (.Call (.Name x p) es [] pos) (yM c E x es):=by
 unfold yM
 split
 ·rename_i n f hg
  obtain⟨g,o,G⟩:=jh C hg
  split
  ·split
   ·rename_i hn
    have:n=0:=by simpa using hn
    subst this
    exact ci CQ <| M.LV G C.room g (cQ o)
   ·exact cj
  ·split
   ·rename_i hs
    have hs':=hs
    rw [List.all_cons,Bool.and_eq_true] at hs
    exact ci pS <| M.OZ G C.room (eZ hE _) g (cQ o) (bN hs.1) (gN hs.2)
   ·exact cj
 ·rename_i hg
  obtain⟨g,o,G⟩:=jh C hg
  split
  ·rename_i z
   rw [beq_iff_eq] at z;subst z
   unfold Qg
   split
   ·split
    ·rename_i y hy
     obtain⟨p2,rfl⟩:=mj hy
     split
     ·rename_i T h1 h2
      obtain⟨g',o',G'⟩:=jh C h1
      split
      ·rename_i hs
       exact ci EQ <| M.HD G G' (Ek h2).1 (hE _) (Ek h2).2 g g' (ib o') (cQ o') (bN hs) rfl rfl
      ·exact cj
     ·exact cj
    ·exact cj
   ·exact cj
  ·split
   ·rename_i a ha
    split at ha
    ·rename_i z
     rw [beq_iff_eq] at z;subst z
     obtain⟨p3,p4,rfl,hb,hs⟩:=zx ha
     obtain⟨m2,g2,o2⟩:=mD C hb
     exact cj
    ·cases ha
   ·split
    ·rename_i a ha
     split at ha
     ·rename_i z
      rw [beq_iff_eq] at z;subst z
      obtain⟨p3,p4,rfl,hb,hs⟩:=uX ha
      obtain⟨m2,g2,o2⟩:=mD C hb
      exact ci wg (M.LR C.calm G m2 g g2 (eZ hE _) (bN hs))
     ·cases ha
    ·split
     ·rename_i _ f e r hf
      split
      ·rename_i hs
       exact Pi C (by assumption) G g o hs (eZ hE _)
      ·exact cj
     ·exact cj
 ·exact cj
def Ea:Expr->Option (Expr×Str×Pos)
 | .Attribute o nm ap=>some (o,nm,ap)
 | _=>none
theorem BC{o:Expr}{nm:Str}{ap:Pos}(h:Ea e=some (o,nm,ap)):e=.Attribute o nm ap:=by cases e <;> cases h;rfl
def JK(x:Str):Option MF:=if x == "append" then some cZ else if x == "insert" then some iK else if x == "count" then some ng else if x == "index" then some mJ else none
theorem JJ{x:Str}{f:MF}(C:jE k c X)(h:JK x=some f):∃ id,Slot "list" x id/\typeOf (.builtin id)=pure (.type "method_descriptor")/\MtR X id (Ms X.K f):=by
 unfold JK at h
 split at h
 ·rename_i z;cases h;rw [beq_iff_eq] at z;subst z;exact⟨_,F.slot_list_append,F.type_list_append,Gq⟩
 split at h
 ·rename_i z;cases h;rw [beq_iff_eq] at z;subst z;exact⟨_,F.slot_list_insert,F.type_list_insert,Go⟩
 split at h
 ·rename_i z;cases h;rw [beq_iff_eq] at z;subst z;exact⟨_,F.slot_list_count,F.type_list_count,Ac C.room.units⟩
 split at h
 ·rename_i z;cases h;rw [beq_iff_eq] at z;subst z;exact⟨_,F.slot_list_index,F.type_list_index,JI C.room.units⟩
 cases h
def Cv(x:Str):Option MF:=if x == "update" then some um else none
theorem Gr{x:Str}{f:MF}(C:jE k c X)(h:Cv x=some f):∃ id,Slot "dict" x id/\typeOf (.builtin id)=pure (.type "method_descriptor")/\MtR X id (Ms X.K f):=by
 unfold Cv at h
 split at h
 ·rename_i z;cases h;rw [beq_iff_eq] at z;subst z;exact⟨_,F.slot_dict_update,F.type_dict_update,NN⟩
 cases h
theorem zv:∀ {es:List Expr},es.all cr=true->(backTo pos (starEach es X.env)).all (fun x=>!x.1)=true
 | [],_=>rfl
 | e::es,h=>by
  rw [List.all_cons,Bool.and_eq_true] at h
  rw [bN h.1]
  show (true&&(backTo pos (starEach es X.env)).all (fun x=>!x.1))=true
  rw [zv h.2];rfl
def QV(o:Expr):Bool:=match o with | .Call _ _ _ _=>false | _=>true
def yL(z:Bool)(E:Expr->ME)(o:Expr)(nm:Str)(ap cp:Pos)(es:List Expr):ME:=match QV o,es with
 | true,e::r=>if (e::r).all cr&&(decide ((e::r).length<30)&&ap.endLine == cp.line) then
   (if nm == "count" then kD (E o) (wM E (e::r)) else match Cv nm with | some f=>fI f (E o) (wM E (e::r)) | none=>match JK nm with | some f=>eU f (E o) (wM E (e::r)) | none=>iz) else iz
 | _,_=>iz
theorem Hk{z:Bool}(C:jE k c X){E:Expr->ME}(hE:∀ e,DE X e (E e)){o:Expr}{nm:Str}{ap:Pos}{es:List Expr}:DE X (.Call (.Attribute o nm ap) es [] pos) (yL z E o nm ap pos es):=by
 unfold yL
 split
 ·rename_i e r hx
  split
  ·rename_i h
   rw [Bool.and_eq_true,Bool.and_eq_true] at h
   have hs:=h.1
   rw [List.all_cons,Bool.and_eq_true] at hs
   have few:((backTo pos (starEach (e::r) X.env)).all (fun x=>!x.1)&&(backToKw pos (keywordEach [] X.env)).all (fun x=>x.1.isSome)&&decide ((e::r).length+([]:List Keyword).length+(if ([]:List Keyword).isEmpty then 0 else 1)<30))=true:=by
    rw [zv h.1]
    show (true&&decide ((e::r).length+0+0<30))=true
    exact h.2.1
   split
   ·rename_i hc
    rw [beq_iff_eq] at hc;subst hc
    exact ci EV (M.Ts C.room.units (hE _) (eZ hE _) (uH hx) few h.2.2 (bN hs.1) (gN hs.2))
   ·split
    ·rename_i f hf
     obtain⟨id,h1,h2,h3⟩:=Gr C hf
     exact ci wf (M.LQ h1 h2 h3 (hE _) (eZ hE _) (uH hx) few h.2.2 (bN hs.1) (gN hs.2))
    ·split
     ·rename_i f hf
      obtain⟨id,h1,h2,h3⟩:=JJ C hf
      exact ci AD (M.Fu h1 h2 h3 (hE _) (eZ hE _) (uH hx) few h.2.2 (bN hs.1) (gN hs.2))
     ·exact cj
  ·exact cj
 ·exact cj
def zY:Expr->Bool
 | .Slice _ _ _ _=>false
 | _=>true
def Hm(G:Expr->MG):List Expr->uL
 | []=>aM
 | e::r=>af (if cr e then G e else KB) (Hm G r)
def rA(c:CI)(x:Str):MG:=match c.sc.names.lookup x,oa x c.N with
 | some .local,some i=>ah i
 | some .cell,some i=>if c.all then ah i else KB
 | _,_=>KB
def OC(c:CI)(E:Expr->ME):Expr->MG
 | .Name x _=>rA c x
 | .Subscript o i _=>if zY i then gv (E o) (E i) else KB
 | _=>KB
def OD(c:CI)(E:Expr->ME):Expr->MG
 | .Tuple es _ _=>if es.all cr then aZ es.length (Hm (fun e=>match e with | .Tuple es _ _=>if es.all cr then aZ es.length (Hm (OC c E) es) else KB | e=>OC c E e) es) else KB
 | e=>OC c E e
theorem OA(C:jE k c X)(x:Str):DG X (.Name x pos) (rA c x):=by
 unfold rA
 split
 ·rename_i h1 h2
  exact Fy pk <| M.Ft (by rw [C.N];exact C.nd) (by rw [C.N];exact cW h2) (by rw [C.sc];exact .inl h1) (.inr (by rw [C.sc];exact h1))
 ·rename_i h1 h2
  split
  ·rename_i ha
   exact Fy pk <| M.Ft (by rw [C.N];exact C.nd) (by rw [C.N];exact cW h2) (by rw [C.sc];exact .inr h1) (.inl (C.fn ha x))
  ·exact Bt
 ·exact Bt
theorem OB(C:jE k c X){E:Expr->ME}(hE:∀ e,DE X e (E e))(e:Expr):DG X e (OC c E e):=by
 cases e with
 | Name x p=>exact OA C x
 | Subscript o i p=>
  show DG X _ (if zY i then gv (E o) (E i) else KB)
  split
  ·rename_i h
   refine Fy Bc (M.Td (hE o) (hE i) ?_)
   cases i <;> first | (intro _;rfl) | cases h
  ·exact Bt
 | _=>exact Bt
theorem qp{es:List Expr}(h:cr e=true):assignEach (e::es) X.env=(false,assign e X.env)::assignEach es X.env:=by cases e <;> first | rfl | cases h
theorem zc:∀ {es:List Expr},es.all cr=true->(assignEach es X.env).length=es.length/\(assignEach es X.env).findIdx? (·.1)=none
 | [],_=>⟨rfl,rfl⟩
 | e::es,h=>by
  rw [List.all_cons,Bool.and_eq_true] at h
  rw [qp h.1]
  obtain⟨a,b⟩:=zc h.2
  exact⟨by simp [a],by simp [List.findIdx?_cons,b]⟩
theorem Fk{G:Expr->MG}(hG:∀ e,DG X e (G e)):∀ es:List Expr,es.all cr=true->Ug X es (Hm G es)
 | [],_=>Mc Bd <| M.OS
 | e::r,h=>by
  rw [List.all_cons,Bool.and_eq_true] at h
  unfold Hm
  rw [if_pos h.1]
  exact Mc wH <| M.LL (hG e) (Fk hG r h.2) (by rw [qp h.1];rfl)
theorem Fj(C:jE k c X){G:Expr->MG}(hG:∀ e,DG X e (G e))(es:List Expr)(j:Nat):DG X (.Tuple es j pos) (if es.all cr then aZ es.length (Hm G es) else KB):=by
 split
 ·rename_i h
  exact Fy mI <| M.Tc C.calm (Fk hG es h) (zc h).1 (zc h).2
 ·exact Bt
theorem qj(C:jE k c X){E:Expr->ME}(hE:∀ e,DE X e (E e))(e:Expr):DG X e (OD c E e):=by
 have h1:=OB C hE
 cases e with
 | Tuple es j p=>
  refine Fj C (fun e=>?_) es j
  cases e with
  | Tuple es j p=>exact Fj C h1 es j
  | _=>exact h1 _
 | _=>exact h1 _
def evI(c:CI)(E:Expr->ME)(tg it:Expr):MA:=match uE it with
 | some (x,es)=>if x == "enumerate" && nG c x then (match tg,es with
   | .Tuple _ _ _,[a]=>if cr a then gu (wM E [a]) else vw
   | _,_=>vw) else if x == "zip" && nG c x then (match tg,es with
   | .Tuple _ _ tp,[a,b]=>if cr a&&cr b then (nV (wM E [a,b])) else vw
   | _,_=>vw) else if x == "range" && nG c x then (match es with
   | [a]=>if cr a then bO (wM E [a]) else vw
   | [a,b]=>if cr a&&cr b then dU (wM E [a,b]) else vw
   | _=>vw) else da (E it)
 | none=>da (E it)
theorem Dv(C:jE k c X){E:Expr->ME}(hE:∀ e,DE X e (E e)){tg it:Expr}:DI X tg it (evI c E tg it):=by
 unfold evI
 split
 ·rename_i x es he
  obtain⟨p,p2,rfl⟩:=mR he
  split
  ·rename_i hx
   rw [Bool.and_eq_true] at hx
   obtain⟨m,g,o⟩:=mD C hx.2
   have z:=hx.1
   rw [beq_iff_eq] at z;subst z
   split
   ·split
    ·rename_i h
     exact wS AG (M.OR m (eZ hE _) g (bN h))
    ·exact uy
   ·exact uy
  split
  ·rename_i hx
   rw [Bool.and_eq_true] at hx
   obtain⟨m,g,o⟩:=mD C hx.2
   have z:=hx.1
   rw [beq_iff_eq] at z;subst z
   split
   ·split
    ·rename_i h
     rw [Bool.and_eq_true] at h
     exact wS EG (M.Tb m (eZ hE _) g (by rw [bN h.1,bN h.2];rfl) (bN h.2))
    ·exact uy
   ·exact uy
  split
  ·rename_i hx
   rw [Bool.and_eq_true] at hx
   obtain⟨m,g,o⟩:=mD C hx.2
   have z:=hx.1
   rw [beq_iff_eq] at z;subst z
   split
   ·split
    ·rename_i h
     exact wS tD <| M.HB m (eZ hE _) g (bN h)
    ·exact uy
   ·split
    ·rename_i h
     rw [Bool.and_eq_true] at h
     exact wS tB <| M.HA m (eZ hE _) g (by rw [bN h.1,bN h.2];rfl) (bN h.2)
    ·exact uy
   ·exact uy
  ·exact wS yn <| M.DM (hE _)
 ·exact wS yn <| M.DM (hE _)
def PX(c:CI)(it:Expr):Bool:=match uE it with | some (x,_)=>(x == "enumerate" || x == "zip" || x == "range")&&nG c x | none=>false
def lU(scope sc:Scope):Scope:={ scope with names:=scope.names.map fun x=>match x with | (n,k)=>if (k == NameKind.free&&sc.kind == .function&&sc.names.lookup n == some .cell)=true then (n,.cell) else (n,k) }
theorem PC(scope:Scope)(env:Env):relabel scope env=lU scope env.scope:=rfl
def BB(scope:Scope):List Str:=(scope.names.filter fun x=>x.2 == .local && !(x.1 == (".0":Str))).map (·.1)++(scope.names.filter fun x=>x.2 == .free).map (·.1)
def yZ(c:CI)(scope:Scope):List (Option Nat):=(scope.names.filter fun x=>x.2 == .local && !(x.1 == (".0":Str))).map (fun _=>none)++(scope.names.filter fun x=>x.2 == .free).map (fun x=>oa x.1 c.N)
def TK(c:CI)(scope:Scope):Bool:=
 scope.kind == .function&&(scope.names.all fun x=>x.2 != .cell)&&(scope.names.all fun x=>x.2 != .local||scope.names.lookup x.1 == some .local)
 && (scope.names.all fun x=>x.2 != .free||c.sc.names.lookup x.1 == some .cell||c.sc.names.lookup x.1 == some .free)
 && vA c.N (BB scope) (fun y=>c.sc.names.lookup y) (fun y=>(lU scope c.sc).names.lookup y) (yZ c scope) (BB scope)&&decide (BB scope).Nodup
def Mg(c:CI)(scope:Scope):CI:=⟨BB scope,lU scope c.sc,false,c.gs,c.mt⟩
theorem Fz{scope:Scope}(C:jE k c X)(h:TK c scope=true):BlockOk X (BB scope) scope (yZ c scope)/\∀ A s H fp,jE k (Mg c scope) (pG X (BB scope) scope A s H fp):=by
 unfold TK at h
 simp only [Bool.and_eq_true,decide_eq_true_eq,beq_iff_eq] at h
 obtain⟨⟨⟨⟨⟨h1,h2⟩,h3⟩,h4⟩,h5⟩,h6⟩:=h
 refine⟨blk h6 h1 h2 h3 ?_ ?_,fun A s H fp=>⟨rfl,h6,?_,h1,(fun z=>nomatch z),C.calm,C.room,rfl,C.gs⟩⟩
 ·show (scope.names.all fun x=>x.2 != .free||X.env.scope.names.lookup x.1 == some .cell||X.env.scope.names.lookup x.1 == some .free)=true
  rw [C.sc];exact h4
 ·show vA X.N (BB scope) (fun y=>X.env.scope.names.lookup y) (fun y=>(lU scope X.env.scope).names.lookup y) (yZ c scope) (BB scope)=true
  rw [C.sc,C.N];exact h5
 ·show lU scope X.env.scope=_
  rw [C.sc];rfl
def evTs(T:Expr->MT):List Expr->MT
 | []=>bX
 | [e]=>T e
 | _=>vv
theorem Fg{T:Expr->MT}(hT:∀ e,DT X e (T e)):∀ es:List Expr,Qt X es (evTs T es)
 | []=>Tz Az <| M.Lu
 | [e]=>OE (hT e)
 | _::_::_=>fun _ _ _ _ _ _ ⟨_,_,_,_,_,_,_,h,_⟩=>by cases h
def mK(c:CI)(E:CI->Expr->ME)(T:CI->Expr->MT)(elt:Expr)(gens:List Comprehension)(scope:Scope)(line:Nat):ME:=match gens with
 | [⟨tg,it,ifs,a⟩]=>if a == 0&&lq it&&TK c scope then if c.mt.contains (line+100000) then iz else bJ (evI c (E c) tg it) (OD (Mg c scope) (E (Mg c scope)) tg) (evTs (T (Mg c scope)) ifs) (E (Mg c scope) elt) (yZ c scope) else iz
 | _=>iz
theorem wL(C:jE k c X)(hE:∀ c X,jE k c X->∀ e,DE X e (E c e))(hT:∀ c X,jE k c X->∀ e,DT X e (T c e)){elt:Expr}{gens:List Comprehension}{scope:Scope}{line:Nat}:DE X (.ListComp elt gens scope pos) (mK c E T elt gens scope line):=by
 unfold mK
 split
 ·rename_i tg it ifs a
  split
  ·rename_i h
   simp only [Bool.and_eq_true,beq_iff_eq] at h
   obtain⟨⟨h0,h1⟩,h2⟩:=h
   subst h0
   obtain⟨B,C'⟩:=Fz C h2
   split
   ·exact cj
   ·exact ci tE <| M.OY C.calm B (Dv C (hE _ _ C)) (fun A s H fp=>qj (C' A s H fp) (hE _ _ (C' A s H fp)) tg) (fun A s H fp=>Fg (hT _ _ (C' A s H fp)) ifs) (fun A s H fp=>hE _ _ (C' A s H fp) elt) (jJ h1)
  ·exact cj
 ·exact cj
def SR(E:Expr->ME):List (Option Expr)->List Expr->Option (List (ME×ME))
 | [],[]=>some []
 | some k::ks,v::vs=>(SR E ks vs).bind fun r=>some ((E k,E v)::r)
 | _,_=>none
theorem Fh{E:Expr->ME}(hE:∀ e,DE X e (E e)):∀ {ks:List (Option Expr)} {vs:List Expr} {ms:List (ME×ME)},SR E ks vs=some ms->DPs X pos ks vs ms/\ks.all (·.isSome)=true/\ks.length=vs.length
 | [],[],ms,h=>by cases h;exact⟨OO,rfl,rfl⟩
 | some k::ks,v::vs,ms,h=>by
  obtain⟨r,h1,h2⟩:=Option.bind_eq_some_iff.mp h
  cases h2
  obtain⟨a,b,d⟩:=Fh hE h1
  exact⟨LF (hE k) (hE v) a,by rw [List.all_cons,b];rfl,by rw [List.length_cons,List.length_cons,d]⟩
 | [],_::_,_,h=>by cases h
 | none::_,_,_,h=>by cases h
 | some _::_,[],_,h=>by cases h
def Dw(c:CI)(E:Expr->ME)(ks:List (Option Expr))(vs:List Expr)(line:Nat):ME:=match ks with
 | []=>if vs.isEmpty && !c.mt.contains line then mC (.dct [] []) else iz
 | k::r=>if (k::r).length<=15 then (match SR E (k::r) vs with | some ms=>if c.mt.contains line then fK ms else iG ms | none=>iz) else iz
theorem Hn{E:Expr->ME}(hE:∀ e,DE X e (E e))(ks:List (Option Expr))(vs:List Expr)(line:Nat):DE X (.Dict ks vs pos) (Dw c E ks vs line):=by
 unfold Dw
 split
 ·split
  ·rename_i h
   rw [Bool.and_eq_true] at h
   have:vs=[]:=by simpa using h.1
   subst this
   exact ci tF <| M.OW
  ·exact cj
 ·rename_i k r
  split
  ·rename_i hl
   split
   ·rename_i ms h
    obtain⟨a,b,d⟩:=Fh (pos:=pos) hE h
    split
    ·exact ci wj (M.LS a b d (by simp) hl)
    ·exact ci AJ (M.OX a b d (by simp) hl)
   ·exact cj
  ·exact cj
def Lf(E:Expr->ME):List Expr->ME
 | []=>iz
 | _=>iz
theorem Hl{E:Expr->ME}(hE:∀ e,DE X e (E e)):∀ es:List Expr,DE X (.JoinedStr es pos) (Lf E es)
 | []=>cj
 | _::_=>cj
def Qh(E:Expr->ME)(v:Expr)(cv:Int)(f:Option Expr):ME:=match cv,f with
 | _,_=>iz
theorem Lg{E:Expr->ME}(hE:∀ e,DE X e (E e)){v:Expr}{cv:Int}{f:Option Expr}:DE X (.FormattedValue v cv f pos) (Qh E v cv f):=by
 exact cj
def Pz(E:CI->Expr->ME)(T:CI->Expr->MT)(c:CI):Expr->ME
 | .Constant v _ _=>Fl v
 | .Name x _=>Du c x
 | .BinOp a op b p=>Lk (c.mt.contains (p.line+200000)) op (E c a) (E c b)
 | .UnaryOp op a _=>evUn op (E c a)
 | .Compare a ops bs _=>Li c E a ops bs
 | .BoolOp op vs _=>match op with | .And=>Bg dB (vs.map (E c)) | .Or=>Bg we (vs.map (E c))
 | .IfExp t a b _=>lN (T c t) (E c a) (E c b)
 | .Tuple es _ _=>aS (wM (E c) es)
 | .List es pos=>if c.mt.contains pos.line then eV (wM (E c) es) else di (wM (E c) es)
 | .Dict ks vs pos=>Dw c (E c) ks vs pos.line
 | .Subscript a i _=>Qf c (E c) a i
 | .Call f es ks p=>match sP f,Ea f,ks with | some x,_,[]=>yM c (E c) x es | none,some (o,nm,ap),[]=>yL (c.mt.contains 500000) (E c) o nm ap p es | _,_,_=>iz
 | .ListComp elt gens scope p=>mK c E T elt gens scope p.line
 | .JoinedStr es _=>Lf (E c) es
 | .FormattedValue v cv f _=>Qh (E c) v cv f
 | _=>iz
def Px(E:CI->Expr->ME)(T:CI->Expr->MT)(c:CI):Expr->MT
 | .UnaryOp op a p=>match op with | .Not=>du (T c a) | op=>cS (E c (.UnaryOp op a p))
 | .BoolOp op vs _=>match op with | .And=>ui cT (vs.map (T c)) | .Or=>ui fH (vs.map (T c))
 | .Compare a ops bs _=>Dy c E a ops bs
 | .IfExp _ _ _ _=>vv
 | e=>cS (E c e)
theorem IM(hE:∀ c X,jE k c X->∀ e,DE X e (E c e))(hT:∀ c X,jE k c X->∀ e,DT X e (T c e))(C:jE k c X)(e:Expr):DE X e (Pz E T c e):=by
 have h1:=hE c X C
 have h2:=hT c X C
 cases e with
 | Constant v j p=>exact Dx v
 | Name x p=>exact Hj C x
 | BinOp a op b p=>
  show DE X _ (Lk (c.mt.contains (p.line+200000)) op (E c a) (E c b))
  exact Lj (z:=c.mt.contains (p.line+200000)) (h1 a) (h1 b)
 | UnaryOp op a p=>exact Oz (h1 a)
 | Compare a ops bs p=>exact Lh C h1
 | BoolOp op vs p=>cases op with | And=>exact wJ h1 vs | Or=>exact Bf h1 vs
 | IfExp t a b p=>exact ci JY <| M.de_if (h2 t) (h1 a) (h1 b)
 | Tuple es j p=>exact ci EJ <| M.Tj (eZ h1 es)
 | List es p=>
  show DE X _ (if c.mt.contains p.line then eV (wM (E c) es) else di (wM (E c) es))
  split
  ·exact ci AE <| M.OU (eZ h1 es)
  ·exact ci EO <| M.Tp (eZ h1 es)
 | Dict ks vs p=>exact Hn h1 ks vs p.line
 | Subscript a i p=>exact Lb C h1 a i
 | Call f es ks p=>
  show DE X _ (match sP f,Ea f,ks with | some x,_,[]=>yM c (E c) x es | none,some (o,nm,ap),[]=>yL (c.mt.contains 500000) (E c) o nm ap p es | _,_,_=>iz)
  split
  ·rename_i x h
   obtain⟨p2,rfl⟩:=mj h
   exact Hq C h1
  ·rename_i o nm ap _ ha
   have:=BC ha
   subst this
   exact Hk C h1
  ·exact cj
 | ListComp elt gens scope p=>exact wL C hE hT
 | JoinedStr es p=>exact Hl h1 es
 | FormattedValue v cv f p=>exact Lg h1
 | _=>exact cj
theorem IK(hE:∀ c X,jE k c X->∀ e,DE X e (E c e))(hT:∀ c X,jE k c X->∀ e,DT X e (T c e))(C:jE k c X)(e:Expr):DT X e (Px E T c e):=by
 have h1:=hE c X C
 have h2:=hT c X C
 cases e with
 | UnaryOp op a p=>cases op <;> first | exact By AC <| M.SV (h2 a) | exact By yk <| M.Bn (h1 _)
 | BoolOp op vs p=>cases op with | And=>exact GZ h2 vs | Or=>exact KD h2 vs
 | Compare a ops bs p=>exact Ho C h1
 | IfExp t a b p=>exact pB
 | _=>exact By yk <| M.Bn (h1 _)
def ev:Nat->(CI->Expr->ME)×(CI->Expr->MT)
 | 0=>(fun _ _=>iz,fun _ _=>vv)
 | n+1=>(Pz (ev n).1 (ev n).2,Px (ev n).1 (ev n).2)
theorem qO:∀ n:Nat,(∀ c X,jE k c X->∀ e,DE X e ((ev n).1 c e))/\(∀ c X,jE k c X->∀ e,DT X e ((ev n).2 c e))
 | 0=>⟨fun _ _ _ _=>cj,fun _ _ _ _=>pB⟩
 | n+1=>⟨fun _ _ C e=>IM (qO n).1 (qO n).2 C e,fun _ _ C e=>IK (qO n).1 (qO n).2 C e⟩
def ls:Expr->Bool
 | .ListComp _ _ _ _=>false
 | .SetComp _ _ _ _=>false
 | .DictComp _ _ _ _ _=>false
 | _=>true
theorem hU{t:Option Expr}{l:Nat}(h:ls e=true):swapsWith e t l X.env=pure false:=by cases e <;> first | rfl | cases h
def wz:Expr->Bool
 | .Tuple _ _ _=>true
 | .List _ _=>true
 | _=>false
theorem Cp{t:Expr}(h:wz t=false\/wz e=false):swappedStores [t] e X.env=pure none:=by
 rcases h with h | h
 ·cases t <;> first | rfl | cases h
 ·cases t <;> first | rfl | (cases e <;> first | rfl | cases h)
def Ln(c:CI)(E:CI->Expr->ME)(T:CI->Expr->MT)(x:Str)(px:Pos)(e:Expr):MS:=match e with
 | .ListComp elt gens scope p=>if c.all&&(c.sc.names.lookup x == some .local&&px.line == p.line && !(scope.names.any fun y=>y.1 == x&&(y.2 == .local||y.2 == .cell))) then aG (mK c E T elt gens scope p.line) (rA c x) else if c.all&&c.sc.names.lookup x == some .cell then aG (mK c E T elt gens scope p.line) (rA c x) else jX
 | e=>if ls e then aG (E c e) (rA c x) else jX
def Rj:Expr->Option (Str×Pos×Str×Pos)
 | .Tuple [.Name x px,.Name y py] _ _=>some (x,px,y,py)
 | _=>none
theorem Gg{t:Expr}{x y:Str}{px py:Pos}(h:Rj t=some (x,px,y,py)):∃ k p,t=.Tuple [.Name x px,.Name y py] k p:=by
 unfold Rj at h
 split at h
 ·cases h;exact⟨_,_,rfl⟩
 ·cases h
def QD:Expr->Option (Expr×Expr)
 | .Tuple [a,b] _ _=>some (a,b)
 | _=>none
theorem FL{t a b:Expr}(h:QD t=some (a,b)):∃ k p,t=.Tuple [a,b] k p:=by
 unfold QD at h
 split at h
 ·cases h;exact⟨_,_,rfl⟩
 ·cases h
theorem BL{x y:Str}{px py p p2:Pos}{k k2:Nat}{a b:Expr}(h:(X.env.kindOf x == some NameKind.local&&X.env.kindOf y == some NameKind.local)=false):swappedStores [.Tuple [.Name x px,.Name y py] k p] (.Tuple [a,b] k2 p2) X.env=pure none:=by
 unfold swappedStores
 simp only
 split
 ·rfl
 split
 ·rfl
 rw [if_pos]
 generalize hg:List.filterMap _ [Expr.Name x px,Expr.Name y py]=L
 have hL:L.length<=1:=by
  rw [<- hg,List.filterMap_cons,List.filterMap_cons]
  cases hx:(X.env.kindOf x == some NameKind.local) with
  | false=>simp only [hx,Bool.false_and,Bool.false_eq_true,if_false];split <;> simp
  | true=>
   have hy:(X.env.kindOf y == some NameKind.local)=false:=by rw [hx,Bool.true_and] at h;exact h
   simp only [hy,Bool.false_and,Bool.false_eq_true,if_false];split <;> simp
 have h2:(L.length != [Expr.Name x px,Expr.Name y py].length)=true:=by
  rw [bne_iff_ne];show L.length≠2;omega
 rw [h2];rfl
def EC(c:CI)(x y:Str):Bool:=!(c.sc.names.lookup x == some .local&&c.sc.names.lookup y == some .local)
def Fi(c:CI)(E:CI->Expr->ME)(t e:Expr):Option MS:=match Rj t,QD e with
 | some (x,px,y,py),some (a,b)=>if EC c x y then some (aG (E c e) (OD c (E c) t)) else match oa x c.N,oa y c.N with
  | some i,some j=>if (c.all&&c.sc.names.lookup x == some .local&&c.sc.names.lookup y == some .local && !(x == y)&&py.line == px.line&&sD a&&sD b && !(foldedForSure 8 a&&foldedForSure 8 b) && !(constantsAlone 8 a&&constantsAlone 8 b) && !(i == j))=true then some (nz i j (wM (E c) [a,b])) else none
  | _,_=>none
 | _,_=>none
theorem Ld(C:jE k c X){E:CI->Expr->ME}(hE:∀ e,DE X e (E c e)){t:Expr}{m:MS}(h:Fi c E t e=some m):DS X (.Assign [t] e pos) m:=by
 unfold Fi at h
 split at h
 ·rename_i x px y py a b h1 h2
  obtain⟨k1,p1,rfl⟩:=Gg h1
  obtain⟨k2,p2,rfl⟩:=FL h2
  split at h
  ·rename_i hn
   cases h
   refine ju iJ <| M.LD (hE _) (qj C hE _) rfl (BL ?_) rfl
   unfold EC at hn
   rw [Bool.not_eq_true'] at hn
   show (X.env.scope.names.lookup x == some NameKind.local&&X.env.scope.names.lookup y == some NameKind.local)=false
   rw [C.sc];exact hn
  split at h
  ·rename_i i j hi hj
   split at h
   ·rename_i hc
    cases h
    simp only [Bool.and_eq_true,beq_iff_eq,Bool.not_eq_true'] at hc
    obtain⟨⟨⟨⟨⟨⟨⟨⟨⟨_,hx⟩,hy⟩,hne⟩,hl⟩,ha⟩,hb⟩,hf⟩,hcn⟩,hij⟩:=hc
    have hx':X.env.scope.names.lookup x=some .local:=by rw [C.sc];exact hx
    have hy':X.env.scope.names.lookup y=some .local:=by rw [C.sc];exact hy
    have hbk:X.env.blockKind=.function:=by unfold Env.blockKind;rw [C.sc,C.fk];rfl
    exact ju EM (M.SZ C.calm (by rw [C.N];exact C.nd) (by rw [C.N];exact cW hi) (by rw [C.N];exact cW hj) (by simpa using hij) hx' hy' (eZ hE _) (IH hbk hx' hy' hne (by simpa using hl) ha hb hf hcn))
   ·cases h
  ·cases h
 ·cases h
def Lo(c:CI)(E:CI->Expr->ME)(T:CI->Expr->MT)(t e:Expr):MS:=match t with
 | .Name x px=>Ln c E T x px e
 | t=>match Fi c E t e with
 | some m=>m
 | none=>if ls e&&cr t&&(!wz t || !wz e) then aG (E c e) (OD c (E c) t) else jX
theorem oT{m:ME}{s:Stmt}:DS X s (aG m KB):=fun _ _ _ _ _ _ ⟨_,_,_,_,_,_,h,_⟩=>by
 rw [iJ] at h
 obtain⟨_,_,h⟩:=Option.bind_eq_some_iff.mp h
 cases h
theorem Hr(C:jE k c X)(hE:∀ c X,jE k c X->∀ e,DE X e (E c e))(hT:∀ c X,jE k c X->∀ e,DT X e (T c e)){x:Str}{px:Pos}:DS X (.Assign [.Name x px] e pos) (Ln c E T x px e):=by
 have h1:=hE c X C
 have gen:∀ e,ls e=true->DS X (.Assign [.Name x px] e pos) (aG (E c e) (rA c x)):=fun e hn=>by
  unfold rA
  split
  ·rename_i h1' h2
   exact ju nX <| M.DB (by rw [C.N];exact C.nd) (by rw [C.N];exact cW h2) (by rw [C.sc];exact .inl h1') (h1 e) (hU hn) (.inr (by rw [C.sc];exact h1'))
  ·rename_i h1' h2
   split
   ·rename_i ha
    exact ju nX <| M.DB (by rw [C.N];exact C.nd) (by rw [C.N];exact cW h2) (by rw [C.sc];exact .inr h1') (h1 e) (hU hn) (.inl (C.fn ha x))
   ·exact oT
  ·exact oT
 cases e with
 | ListComp elt gens scope p=>
  show DS X _ (if c.all&&(c.sc.names.lookup x == some .local&&px.line == p.line && !(scope.names.any fun y=>y.1 == x&&(y.2 == .local||y.2 == .cell))) then aG (mK c E T elt gens scope p.line) (rA c x) else if c.all&&c.sc.names.lookup x == some .cell then aG (mK c E T elt gens scope p.line) (rA c x) else jX)
  split
  ·rename_i hw
   rw [Bool.and_eq_true] at hw
   have hw1:=hw.2
   simp only [Bool.and_eq_true,beq_iff_eq] at hw1
   have hl:=hw1.1.1
   unfold rA
   rw [hl]
   cases hi:oa x c.N with
   | none=>exact oT
   | some i=>
    have sw:(pure (X.env.blockKind == .function&&X.env.scope.names.lookup x == some .local&&px.line == p.line && !(scope.names.any fun y=>y.1 == x&&(y.2 == .local||y.2 == .cell))):Sem Bool)=pure true:=by
     have hb:X.env.blockKind=.function:=by unfold Env.blockKind;rw [C.sc,C.fk];rfl
     rw [hb,C.sc]
     have:=hw.2
     simp only [Bool.and_assoc] at this ⊢
     rw [this];rfl
    unfold mK
    split
    ·rename_i tg it ifs a
     split
     ·rename_i h
      simp only [Bool.and_eq_true,beq_iff_eq] at h
      obtain⟨⟨h0,h1'⟩,h2⟩:=h
      subst h0
      obtain⟨B,C'⟩:=Fz C h2
      split
      ·exact LC
      ·exact ju AL <| M.Dz (by rw [C.N];exact C.nd) (by rw [C.N];exact cW hi) (by rw [C.sc];exact .inl hl) C.calm B (Dv C (hE _ _ C)) (fun A s H fp=>qj (C' A s H fp) (hE _ _ (C' A s H fp)) tg) (fun A s H fp=>Fg (hT _ _ (C' A s H fp)) ifs) (fun A s H fp=>hE _ _ (C' A s H fp) elt) sw (jJ h1') (.inr (by rw [C.sc];exact hl))
     ·intro _ _ _ _ _ _ ⟨_,_,_,_,_,_,h,_⟩
      rw [iJ] at h
      obtain⟨_,z,h⟩:=Option.bind_eq_some_iff.mp h
      cases z
    ·intro _ _ _ _ _ _ ⟨_,_,_,_,_,_,h,_⟩
     rw [iJ] at h
     obtain⟨_,z,h⟩:=Option.bind_eq_some_iff.mp h
     cases z
  ·split
   ·rename_i hw
    rw [Bool.and_eq_true,beq_iff_eq] at hw
    unfold rA
    rw [hw.2]
    cases hi:oa x c.N with
    | none=>exact oT
    | some i=>
     dsimp only
     rw [if_pos hw.1]
     refine ju nX <| M.DB (by rw [C.N];exact C.nd) (by rw [C.N];exact cW hi) (by rw [C.sc];exact .inr hw.2) (wL C hE hT) ?_ (.inl (C.fn hw.1 x))
     show (pure (X.env.blockKind == .function&&X.env.scope.names.lookup x == some .local&&px.line == p.line && !(scope.names.any fun y=>y.1 == x&&(y.2 == .local||y.2 == .cell))):Sem Bool)=pure false
     rw [C.sc,hw.2]
     have:((some NameKind.cell:Option NameKind) == some .local)=false:=by decide
     rw [this,Bool.and_false];rfl
   ·exact lP
 | SetComp _ _ _ _=>exact lP
 | DictComp _ _ _ _ _=>exact lP
 | _=>exact gen _ rfl
theorem Lm(C:jE k c X)(hE:∀ c X,jE k c X->∀ e,DE X e (E c e))(hT:∀ c X,jE k c X->∀ e,DT X e (T c e)){t:Expr}:DS X (.Assign [t] e pos) (Lo c E T t e):=by
 have gen:∀ t,DS X (.Assign [t] e pos) (match Fi c E t e with | some m=>m | none=>if ls e&&cr t&&(!wz t || !wz e) then aG (E c e) (OD c (E c) t) else jX):=fun t=>by
  split
  ·rename_i h
   exact Ld C (hE _ _ C) h
  split
  ·rename_i h
   simp only [Bool.and_eq_true,Bool.or_eq_true,Bool.not_eq_true'] at h
   refine ju iJ <| M.LD (hE _ _ C e) (qj C (hE _ _ C) t) (hU h.1.1) (Cp h.2) ?_
   rw [qp h.1.2];rfl
  ·exact lP
 cases t with
 | Name x px=>exact Hr C hE hT
 | _=>exact gen _
def uQ:List MS->MS
 | []=>aY
 | [m]=>m
 | m::r=>az m (uQ r)
theorem lf{F:Stmt->MS}(h:∀ s,DS X s (F s)):∀ ss:List Stmt,vD X ss (uQ (ss.map F))
 | []=>DQ oP <| M.OI
 | [s]=>OH (h s)
 | s::s'::r=>DQ EK <| M.Ly (h s) (lf h (s'::r))
def Di:Expr->Bool
 | .Constant (.str _) _ _=>true
 | _=>false
def Py(E:CI->Expr->ME)(T:CI->Expr->MT)(F:CI->Stmt->MS)(c:CI):Stmt->MS
 | .Return o _=>match o with | some e=>aV (E c e) | none=>fun _ S=>some (.rt .non S)
 | .Pass _=>aY
 | .Break _=>fun env S=>some (.bk env S)
 | .Continue _=>fun env S=>some (.ct env S)
 | .Expr e _=>if Di e then aY else if ls e then ee (E c e) else jX
 | .If t a b _=>bG (T c t) (uQ (a.map (F c))) (uQ (b.map (F c)))
 | .Assign ts e _=>match ts with | [t]=>Lo c E T t e | _=>jX
 | .While tst body els _=>match els with | []=>fG (T c tst) (uQ (body.map (F c))) | _=>jX
 | .For tg it body els _=>match els with | []=>if lq it then (if PX c it then gt (evI c (E c) tg it) (OD c (E c) tg) (uQ (body.map (F c))) else gb (E c it) (OD c (E c) tg) (uQ (body.map (F c)))) else jX | _=>jX
 | _=>jX
theorem IL{F:CI->Stmt->MS}(hE:∀ c X,jE k c X->∀ e,DE X e (E c e))(hT:∀ c X,jE k c X->∀ e,DT X e (T c e))(hF:∀ c X,jE k c X->∀ e,DS X e (F c e))(C:jE k c X)(s:Stmt):DS X s (Py E T F c s):=by
 have h1:=hE c X C
 have h2:=hT c X C
 have h3:=hF c X C
 cases s with
 | Return o p=>cases o with | none=>exact OJ | some e=>exact ju EL <| M.SY (h1 e)
 | Pass p=>exact ju oP <| M.OK
 | Break p=>exact LB
 | Continue p=>exact Bo
 | Expr e p=>
  show DS X _ (if Di e then aY else if ls e then ee (E c e) else jX)
  split
  ·rename_i h
   unfold Di at h
   split at h
   ·exact ju oP <| M.Ta
   ·cases h
  ·split
   ·rename_i h;exact ju AH <| M.ON (h1 e) (hU h)
   ·exact lP
 | If t a b p=>exact ju ER <| M.ds_if (h2 t) (lf h3 a) (lf h3 b)
 | Assign ts e p=>
  show DS X _ (match ts with | [t]=>Lo c E T t e | _=>jX)
  split
  ·exact Lm C hE hT
  ·exact lP
 | While tst body els p=>
  cases els with
  | nil=>exact ju vY <| M.Lz (by rw [C.xe];exact PassesOwn.never) (h2 tst) (lf h3 body)
  | cons _ _=>exact lP
 | For tg it body els p=>
  cases els with
  | nil=>
   show DS X _ (if lq it then (if PX c it then gt (evI c (E c) tg it) (OD c (E c) tg) (uQ (body.map (F c))) else gb (E c it) (OD c (E c) tg) (uQ (body.map (F c)))) else jX)
   split
   ·rename_i h
    split
    ·exact ju ES <| M.LA (by rw [C.xe];exact PassesOwn.never) C.calm (Dv C h1) (qj C h1 tg) (lf h3 body) (jJ h)
    ·exact ju AF <| M.OM (by rw [C.xe];exact PassesOwn.never) C.calm (h1 it) (qj C h1 tg) (lf h3 body) (jJ h)
   ·exact lP
  | cons _ _=>exact lP
 | _=>exact lP
def evS(n:Nat):Nat->CI->Stmt->MS
 | 0=>fun _ _=>jX
 | m+1=>Py (ev n).1 (ev n).2 (evS n m)
theorem Lc(n:Nat):∀ m:Nat,∀ c X,jE k c X->∀ s,DS X s (evS n m c s)
 | 0=>fun _ _ _ _=>lP
 | m+1=>fun _ _ C s=>IL (qO n).1 (qO n).2 (Lc n m) C s
def Tw:Stmt->Option (Str×Str×Expr)
 | .Assign [.Name b _] (.Subscript (.Name x _) (.Subscript o q p) _) _=>some (b,x,.Subscript o q p)
 | _=>none
theorem HG{s:Stmt}{b x:Str}{ix:Expr}(h:Tw s=some (b,x,ix)):nu ix/\∃ pb pt ps pa,s=.Assign [.Name b pb] (.Subscript (.Name x pt) ix ps) pa:=by
 unfold Tw at h
 split at h
 ·cases h;exact⟨by intro _ _;rfl,_,_,_,_,rfl⟩
 ·cases h
def Tv:Stmt->Option (Str×Expr×List Expr)
 | .Return (some (.Call (.Name b _) (e::es) [] _)) _=>some (b,e,es)
 | _=>none
theorem HF{s:Stmt}{b:Str}{e:Expr}{es:List Expr}(h:Tv s=some (b,e,es)):∃ p pc pr,s=.Return (some (.Call (.Name b p) (e::es) [] pc)) pr:=by
 unfold Tv at h
 split at h
 ·cases h;exact⟨_,_,_,rfl⟩
 ·cases h
def Qj(c:CI)(b x:Str)(ix:Expr)(e:Expr)(es:List Expr):Option MS:=match oa b c.N,Qa c x with
 | some i,some (.ftab l)=>if eW b&&c.sc.names.lookup b == some .local&&(e::es).all cr then some (jd l i ((ev 40).1 c ix) (wM ((ev 40).1 c) (e::es))) else none
 | _,_=>none
def yS(c:CI):List Stmt->Option MS
 | [s,t]=>match Tw s,Tv t with
  | some (b,x,ix),some (b',e,es)=>if b' == b then Qj c b x ix e es else none
  | _,_=>none
 | _=>none
theorem Hz(C:jE k c X){body:List Stmt}{m:MS}(h:yS c body=some m):vD X body m:=by
 unfold yS at h
 split at h
 ·rename_i s t
  split at h
  ·rename_i b x ix b' e es h1 h2
   obtain⟨hs,pb,pt,ps,pa,rfl⟩:=HG h1
   obtain⟨p,pc,pr,rfl⟩:=HF h2
   split at h
   ·rename_i hb
    rw [beq_iff_eq] at hb;subst hb
    unfold Qj at h
    split at h
    ·rename_i i l hi hg
     obtain⟨g,o,G⟩:=jh C hg
     split at h
     ·rename_i hc
      simp only [Bool.and_eq_true,beq_iff_eq] at hc
      obtain⟨⟨o1,h3⟩,h4⟩:=hc
      cases h
      rw [List.all_cons,Bool.and_eq_true] at h4
      exact DQ AI <| M.Lx G g (cQ o) ((qO 40).1 _ _ C ix) hs C.room (eZ ((qO 40).1 _ _ C) _) (by rw [C.N];exact C.nd) (by rw [C.N];exact cW hi) (by rw [C.sc];exact .inl h3) (by rw [C.sc];exact .inl h3) (.inr (by rw [C.sc];exact h3)) (cQ o1) (zX o1)
       (by rw [C.N];exact(List.getElem?_eq_some_iff.mp (cW hi)).1) (bN h4.1) (gN h4.2)
     ·cases h
    ·cases h
   ·cases h
  ·cases h
 ·cases h
def gL(c:CI)(body:List Stmt):MS:=match yS c body with
 | some m=>m
 | none=>uQ (body.map (evS 40 20 c))
theorem Ll(C:jE k c X)(body:List Stmt):vD X body (gL c body):=by
 unfold gL
 cases h:yS c body with
 | some m=>exact Hz C h
 | none=>exact lf (Lc 40 20 c X C) body
end
end
def iy(N:List Str)(st:Stmt)(gs:List (Str×GI))(mt:List Nat):CI:=⟨N,ay st,true,gs,mt⟩
def GK(P:Program)(w:World)(K:PySem.W.Frag)(mg:Str->Option Value)(base:Heap)(k:Nat)(p:Str×GI):Prop:=match p.2 with
 | .fn n f=>Fn P w K mg base k p.1 n f
 | .con d=>GC K mg p.1 d
 | .blt=>mg p.1=none
 | .tab l=>uJ w K mg p.1 l
 | .ftab l=>FTab P w K mg base k p.1 l
theorem bz{P:Program}{w:World}{K:PySem.W.Frag}{mg:Str->Option Value}{base:Heap}{k:Nat}{x:Str}{st:Stmt}{N ps:List Str}{gs:List (Str×GI)}{mt:List Nat}
  (F:bK K mg x st) (Sc:aT N ps (ay st)) (hb:zi x st ps) (hg:∀ p∈gs,GK P w K mg base k p) :
  Fn P w K mg base (k+1) x ps.length (aP N (gL (iy N st gs mt) (aI st)) ps.length):=
 Tf F Sc hb fun a cdv A outer s H E hr=>Ll (k:=k) ⟨rfl,Sc.nd,rfl,Sc.kind,fun _ _=>rfl,rfl,hr,rfl,fun p hp=>by
  have:=hg p hp
  obtain⟨x,g⟩:=p
  cases g <;> exact this⟩ _
end MI
namespace MI
open PySem PySem.Spec PyProof.Rows L2 M
def GKs(P:Program)(w:World)(K:PySem.W.Frag)(mg:Str->Option Value)(base:Heap)(k:Nat):List (Str×GI)->Prop
 | []=>True
 | p::r=>GK P w K mg base k p/\GKs P w K mg base k r
theorem GKs.mem{P:Program}{w:World}{K:PySem.W.Frag}{mg:Str->Option Value}{base:Heap}{k:Nat}:∀ {gs:List (Str×GI)},GKs P w K mg base k gs->∀ p∈gs,GK P w K mg base k p
 | q::r,h,p,hp=>by
  rcases List.mem_cons.mp hp with rfl | hp
  ·exact h.1
  ·exact GKs.mem h.2 p hp
theorem RP{P:Program}{w:World}{K:PySem.W.Frag}{mg:Str->Option Value}{k:Nat}{st:Stmt}{N:List Str}{gs:List (Str×GI)}{mt:List Nat}{fa:Addr}(F:bK K mg "law" st)(hfa:mg "law" = some (.ref fa))(Sc:aT N ["_law_script"] (ay st))
  (hbt:∀ (kV doc pm:Value) (an:Option Addr) (cdv ct v:Value),bindArgs (PySem.W.fnOf "law" "law" (iL st) (aI st) (ay st) .none kV doc pm an cdv ct) ⟨[v],[]⟩=pure [(("_law_script":Str),v)])
  (hg:∀ base,GKs P w K mg base k gs) :
  ∃ fd:FuncData,(∀ (s:Shared) (v:Value),BindsTo s fd ⟨[v],[]⟩ [("_law_script",v)])/\∀ base:Heap,K.In base->base.Ns mainGlobals mg->FnOk P w K mg base FD (k+1) fa fd ["_law_script"] (IN K 1 (aP N (gL (iy N st gs mt) (aI st)) 1)):=
 RO F hfa Sc hbt fun base a cdv A outer s H E hr=>Ll (k:=k) ⟨rfl,Sc.nd,rfl,Sc.kind,fun _ _=>rfl,rfl,hr,rfl,fun p hp=>by
  have:=GKs.mem (hg base) p hp
  obtain⟨x,g⟩:=p
  cases g <;> exact this⟩ _
end MI
namespace MI
open PySem PySem.Spec PyProof.Rows L2 M
section
variable{P:List Value->Prop}
theorem iW(h:P []):∀ us:List Value,us.length=0->P us:=fun us e=>by rw [List.eq_nil_of_length_eq_zero e];exact h
theorem cA{n:Nat}(h:∀ a,∀ us:List Value,us.length=n->P (a::us)):∀ us:List Value,us.length=n+1->P us:=fun us e=>by
 cases us with
 | nil=>cases e
 | cons a us=>exact h a us (Nat.succ.inj e)
end
def Jc(N:List Str)(st:Stmt)(gs:List (Str×GI))(mt:List Nat)(x:Str)(a:Nat):Nat->List D->ac->Option (D×ac)
 | 0=>fun _ _=>none
 | n+1=>aP N (gL (iy N st ((x,.fn a (Jc N st gs mt x a n))::gs) mt) (aI st)) a
section
variable{P:Program}{w:World}{K:PySem.W.Frag}{mg:Str->Option Value}{base:Heap}{k:Nat}{x:Str}{st:Stmt}{N ps:List Str}{gs:List (Str×GI)}{mt:List Nat}
theorem GK.up{k':Nat}(h:k<=k'):∀ {p:Str×GI},GK P w K mg base k p->GK P w K mg base k' p
 | (_,.fn _ _),g=>Fn.up g h
 | (_,.con _),g=>g
 | (_,.blt),g=>g
 | (_,.tab _),g=>g
 | (_,.ftab _),g=>FTab.up g h
theorem Om(F:bK K mg x st)(Sc:aT N ps (ay st))(hb:zi x st ps):Fn P w K mg base (k+1) x ps.length (fun _ _=>none):=by
 obtain⟨a,fd,F,hmg⟩:=F.ex
 exact Qc F Sc hmg (F.binds hb) fun cdv A outer s H E hr=>⟨jX,SX,fun ds S d S' _ _ _ h=>by cases h⟩
theorem Jb(F:bK K mg x st)(Sc:aT N ps (ay st))(hb:zi x st ps)(hg:GKs P w K mg base k gs):∀ n,Fn P w K mg base (k+1+n) x ps.length (Jc N st gs mt x ps.length n)
 | 0=>Om F Sc hb
 | n+1=>bz (k:=k+1+n) F Sc hb fun p hp=>by
  rcases List.mem_cons.mp hp with rfl | hp
  ·exact Jb F Sc hb hg n
  ·exact GK.up (by omega) (GKs.mem hg p hp)
end
def kE(P:Params)(x:Str)(t:Nat)(v:Value):DictEntry:=⟨PyData.keyHash P x,.str x t,v⟩
def kC(x:Str)(t l n a b:Nat)(u v:Value)(c d:Nat):Obj:=⟨.type "code",none,.fields #[.str x t,.str x (t+1),.str "/claim/cut.py" (t+2),.int l 0,.int n 0,.int 0 0,.int 0 0,.int 3 0,.ref a,.bool true,.int 181 0,.ref b,.none,u,v,.ref c,.int d 0,.int l 0,.str "/claim/cut.py" (d+1)],#[]⟩
def kF(x:Str)(st:Stmt)(m:Str)(t c:Nat):Obj:=⟨.type "function",none,.func (PySem.W.fnOf x x (iL st) (aI st) (ay st) .none .none .none (.str m t) none (.ref c) .none),#[]⟩
theorem cO{K:PySem.W.Frag}{h:Heap}{mg:Str->Option Value}(X:K.In h)(G:h.Ns mainGlobals mg){x:Str}{st:Stmt}(m:Str)(f t c:Nat)(e:(PySem.W.nsIn K mainGlobals x,K.lookup f,PySem.W.codeIn K (.ref c) x,PySem.W.keepIn K (.ref f))=(some (some (.ref f)),some (kF x st m t c),true,true)):bK K mg x st:=by
 have e1:=congrArg (·.1) e
 have e2:=congrArg (·.2.1) e
 have e3:=congrArg (·.2.2.1) e
 have e4:=congrArg (·.2.2.2) e
 exact⟨_,_,Su (st:=st) (show K.lookup f=some ⟨.type "function",none,.func (PySem.W.fnOf x x (iL st) (aI st) (ay st) .none .none .none (.str m t) none (.ref c) .none),#[]⟩ from e2) e3 e4,PySem.W.mg_of X G e1⟩
theorem ja{N:List Str}{c:CI}{b:List Stmt}{m:MS}{n:Nat}(h:gL c b=m):aP N (gL c b) n=aP N m n:=by rw [h]
end MI
namespace MI
open PySem PySem.Spec PyProof.Rows L2 M
section
variable{env e:bn}{S S':ac}{x y d:D}{f g:ac->D->D->Option D}{a b c:ME}{ms:MA}{t u:MT}{k l:Bool}{p q:MS}{tg:MG}
@[simp high] theorem ob{α β:Type}{a:α}{f:α->Option β}:(some a).bind f=f a:=id rfl
@[simp high] theorem obn{α β:Type}{f:α->Option β}:(none:Option α).bind f=none:=id rfl
@[simp high] theorem oj{α:Type}{a:Option α}:(some a).join=a:=rfl
@[simp high] theorem bH{α:Type}{a:α}{l:List α}:(a::l)[0]?=some a:=rfl
@[simp high] theorem bM{α:Type}{a b:α}{l:List α}:(a::b::l)[1]?=some b:=rfl
@[simp high] theorem bL{α:Type}{a:α}{l:List α}{i:Nat}:(a::l)[i+1]?=l[i]?:=rfl
@[simp high] theorem dY{α:Type}{a b:α}{l:List α}:(a::l).set 0 b=b::l:=rfl
@[simp high] theorem eR{α:Type}{a b:α}{l:List α}{i:Nat}:(a::l).set (i+1) b=a::l.set i b:=rfl
def vx(S:ac)(z:D):Option (D×ac):=some (z,S)
@[simp] theorem ak:vx S d=some (d,S):=rfl
@[simp] theorem bd:mC d env S=some (d,S):=by rw [tF];rfl
@[simp] theorem aj{i:Nat}:ab i env S=(env[i]?).join.bind (vx S):=by rw [EH];rfl
def Se(f:ac->D->D->Option D)(x:D)(q:D×ac):Option (D×ac):=(f q.2 x q.1).bind (vx q.2)
def kOp1(f:ac->D->D->Option D)(b:ME)(env:bn)(q:D×ac):Option (D×ac):=(b env q.2).bind (Se f q.1)
@[simp] theorem aq:kOp1 f b env (x,S)=(b env S).bind (Se f x):=id rfl
@[simp] theorem ar:Se f x (y,S)=(f S x y).bind (vx S):=id rfl
@[simp] theorem aE:au f a b env S=(a env S).bind (kOp1 f b env):=by rw [jW];rfl
def PL(q:D×ac):Option (Bool×ac):=match q.1 with | .bl k=>some (k,q.2) | _=>none
@[simp] theorem aC:PL (.bl k,S)=some (k,S):=id rfl
@[simp] theorem aF:aw a env S=(a env S).bind PL:=by rw [tw];rfl
def Sj(g:ac->D->D->Option D)(y:D)(q:D×ac):Option (D×ac):=(g q.2 y q.1).bind (vx q.2)
def Kq(g:ac->D->D->Option D)(c:ME)(env:bn)(y:D)(S:ac)(z:D):Option (D×ac):=match z with
 | .bl true=>(c env S).bind (Sj g y)
 | .bl false=>some (.bl false,S)
 | _=>none
def Oa(f g:ac->D->D->Option D)(c:ME)(env:bn)(x:D)(q:D×ac):Option (D×ac):=(f q.2 x q.1).bind (Kq g c env q.1 q.2)
def Sk(f g:ac->D->D->Option D)(b c:ME)(env:bn)(q:D×ac):Option (D×ac):=(b env q.2).bind (Oa f g c env q.1)
@[simp] theorem kCh1_s:Sk f g b c env (x,S)=(b env S).bind (Oa f g c env x):=id rfl
@[simp] theorem kCh2_s:Oa f g c env x (y,S)=(f S x y).bind (Kq g c env y S):=id rfl
@[simp] theorem kChz_t:Kq g c env y S (.bl true)=(c env S).bind (Sj g y):=id rfl
@[simp] theorem kChz_f:Kq g c env y S (.bl false)=some (.bl false,S):=id rfl
@[simp] theorem kCh3_s:Sj g y (x,S)=(g S y x).bind (vx S):=id rfl
@[simp] theorem mChain_s:cV f g a b c env S=(a env S).bind (Sk f g b c env):=by
 rw [pR];unfold M.cV Sk Oa Kq
 congr 1
def AN(q:D×ac):Option (Bool×ac):=(se q.2 q.1).bind fun k=>some (k,q.2)
@[simp] theorem eh:AN (.bl k,S)=some (k,S):=id rfl
@[simp] theorem kTru_n:AN (.non,S)=some (false,S):=id rfl
@[simp] theorem kTru_i{i:Int}:AN (.int i,S)=some (i != 0,S):=id rfl
@[simp] theorem kTru_t{xs:List D}:AN (.tup xs,S)=some (!xs.isEmpty,S):=id rfl
@[simp] theorem kTru_l{xs:List D}:AN (.lst xs,S)=some (!xs.isEmpty,S):=id rfl
@[simp] theorem dw:cS a env S=(a env S).bind AN:=by rw [yk];rfl
def Kr(u:MT)(env:bn)(q:Bool×ac):Option (Bool×ac):=if q.1=true then u env q.2 else some (false,q.2)
def Sd(u:MT)(env:bn)(q:Bool×ac):Option (Bool×ac):=if q.1=true then some (true,q.2) else u env q.2
def PP(q:Bool×ac):Option (Bool×ac):=some (!q.1,q.2)
@[simp] theorem jM:Kr u env (true,S)=u env S:=id rfl
@[simp] theorem rO:Kr u env (false,S)=some (false,S):=id rfl
@[simp] theorem yx:Sd u env (true,S)=some (true,S):=id rfl
@[simp] theorem my:Sd u env (false,S)=u env S:=id rfl
@[simp] theorem hZ:PP (k,S)=some (!k,S):=id rfl
@[simp] theorem hX:cT t u env S=(t env S).bind (Kr u env):=by rw [tG];rfl
@[simp] theorem jb:fH t u env S=(t env S).bind (Sd u env):=by rw [yl];rfl
@[simp] theorem hV:du t env S=(t env S).bind PP:=by rw [AC];rfl
@[simp] theorem jK:bX env S=some (true,S):=by rw [Az];rfl
def Ob(b:ME)(env:bn)(q:D×ac):Option (D×ac):=(se q.2 q.1).bind fun k=>if k=true then b env q.2 else some (q.1,q.2)
def PN(b:ME)(env:bn)(q:D×ac):Option (D×ac):=(se q.2 q.1).bind fun k=>if k=true then some (q.1,q.2) else b env q.2
@[simp] theorem tU:Ob b env (.bl true,S)=b env S:=id rfl
@[simp] theorem Sl:Ob b env (.bl false,S)=some (.bl false,S):=id rfl
@[simp] theorem kOr_t:PN b env (.bl true,S)=some (.bl true,S):=id rfl
@[simp] theorem kOr_f:PN b env (.bl false,S)=b env S:=id rfl
@[simp] theorem nY:dB a b env S=(a env S).bind (Ob b env):=by rw [EW];rfl
@[simp] theorem PK:we a b env S=(a env S).bind (PN b env):=by rw [JS];rfl
def AQ(q:D×ac):Option (D×ac):=(se q.2 q.1).bind fun k=>some (.bl (!k),q.2)
@[simp] theorem NV{xs:List D}:AQ (.lst xs,S)=some (.bl (!!xs.isEmpty),S):=id rfl
@[simp] theorem kNotV_t{xs:List D}:AQ (.tup xs,S)=some (.bl (!!xs.isEmpty),S):=id rfl
@[simp] theorem kOr_c{d:D}{ds:List D}:PN b env (.lst (d::ds),S)=some (.lst (d::ds),S):=id rfl
@[simp] theorem kOr_e:PN b env (.lst [],S)=b env S:=id rfl
@[simp] theorem kNotV_s:AQ (.bl k,S)=some (.bl (!k),S):=id rfl
@[simp] theorem EN:ic a env S=(a env S).bind AQ:=by rw [AB];rfl
def kIf(a b:ME)(env:bn)(q:Bool×ac):Option (D×ac):=if q.1=true then a env q.2 else b env q.2
@[simp] theorem tN:kIf a b env (true,S)=a env S:=id rfl
@[simp] theorem wp:kIf a b env (false,S)=b env S:=id rfl
@[simp] theorem jc:lN t a b env S=(t env S).bind (kIf a b env):=by rw [JY];rfl
@[simp] theorem ax:ag env S=some ([],S):=by rw [ym];rfl
def Dc(x:D)(q:List D×ac):Option (List D×ac):=some (x::q.1,q.2)
def Kp(ms:MA)(env:bn)(q:D×ac):Option (List D×ac):=(ms env q.2).bind (Dc q.1)
@[simp] theorem al{xs:List D}:Dc x (xs,S)=some (x::xs,S):=id rfl
@[simp] theorem am:Kp ms env (x,S)=(ms env S).bind (Dc x):=id rfl
@[simp] theorem ao:aa a ms env S=(a env S).bind (Kp ms env):=by rw [AK];rfl
def cn(q:List D×ac):Option (D×ac):=if q.1.length<=sizeLine then some (.tup q.1,q.2) else none
def jG(q:List D×ac):Option (D×ac):=if q.1.length<=sizeLine then some (.lst q.1,q.2) else none
def qA(q:List D×ac):Option (D×ac):=if q.1.length<=sizeLine then some (.ref q.2.length,q.2++[.lst q.1]) else none
theorem sz{n:Nat}(h:n<=1000):n<=sizeLine:=Nat.le_trans h (by decide)
theorem aU{xs:List D}(h:xs.length<=1000):cn (xs,S)=some (.tup xs,S):=if_pos (sz h)
theorem cG{xs:List D}(h:xs.length<=1000):jG (xs,S)=some (.lst xs,S):=if_pos (sz h)
theorem kH{xs:List D}(h:xs.length<=1000):qA (xs,S)=some (.ref S.length,S++[.lst xs]):=if_pos (sz h)
@[simp] theorem be:aS ms env S=(ms env S).bind cn:=by rw [EJ];rfl
@[simp] theorem gq:di ms env S=(ms env S).bind jG:=by rw [EO];rfl
@[simp] theorem oQ:eV ms env S=(ms env S).bind qA:=by rw [AE];rfl
def PU(f:List D->ac->Option (D×ac))(q:List D×ac):Option (D×ac):=f q.1 q.2
@[simp] theorem bS{f:List D->ac->Option (D×ac)}{xs:List D}:PU f (xs,S)=f xs S:=id rfl
@[simp] theorem bR{f:List D->ac->Option (D×ac)}:bi f ms env S=(ms env S).bind (PU f):=by rw [ie];rfl
def pZ(n:Nat)(f:List D->ac->Option (D×ac))(q:List D×ac):Option (D×ac):=if q.1.length=n then f q.1 q.2 else none
@[simp] theorem kCallN_0{f:List D->ac->Option (D×ac)}:pZ 0 f ([],S)=f [] S:=id rfl
@[simp] theorem AS{f:List D->ac->Option (D×ac)}:pZ 1 f ([x],S)=f [x] S:=id rfl
@[simp] theorem aR{f:List D->ac->Option (D×ac)}:pZ 2 f ([x,y],S)=f [x,y] S:=id rfl
@[simp] theorem bx{f:List D->ac->Option (D×ac)}{z:D}:pZ 3 f ([x,y,z],S)=f [x,y,z] S:=id rfl
@[simp] theorem tT{f:List D->ac->Option (D×ac)}{z w:D}:pZ 4 f ([x,y,z,w],S)=f [x,y,z,w] S:=id rfl
@[simp] theorem aB{n:Nat}{f:List D->ac->Option (D×ac)}:ai n f ms env S=(ms env S).bind (pZ n f):=by rw [pS];rfl
def kIsI(T:String)(q:D×ac):Option (D×ac):=(kO T q.2 q.1).bind (vx q.2)
@[simp] theorem Kn{T:String}:kIsI T (x,S)=(kO T S x).bind (vx S):=id rfl
@[simp] theorem JX{T:String}:dQ T a env S=(a env S).bind (kIsI T):=by rw [EQ];rfl
def kUn(f:ac->D->Option D)(q:D×ac):Option (D×ac):=(f q.2 q.1).bind (vx q.2)
@[simp] theorem kUn_s{f:ac->D->Option D}:kUn f (x,S)=(f S x).bind (vx S):=id rfl
@[simp] theorem mUn_s{f:ac->D->Option D}:EI f a env S=(a env S).bind (kUn f):=by rw [JR];rfl
@[simp] theorem cR:bF env S=some (none,S):=by rw [wc];rfl
def PM(q:D×ac):Option (Option Int×ac):=match q.1 with | .int i=>some (some i,q.2) | _=>none
@[simp] theorem dC{i:Int}:PM (.int i,S)=some (some i,S):=id rfl
@[simp] theorem dA:ca a env S=(a env S).bind PM:=by rw [AA];rfl
def jF(x:D)(l:Option Int)(q:Option Int×ac):Option (D×ac):=match x with
 | .tup xs=>some (.tup (iB xs l q.1),q.2)
 | .lst xs=>some (.lst (iB xs l q.1),q.2)
 | .rol xs=>some (.lst (iB xs l q.1),q.2)
 | .ref r=>match q.2[r]? with | some (.lst xs)=>some (.lst (iB xs l q.1),q.2) | _=>none
 | _=>none
def RX(hi:MO)(env:bn)(x:D)(q:Option Int×ac):Option (D×ac):=(hi env q.2).bind (jF x q.1)
def kSl1(lo hi:MO)(env:bn)(q:D×ac):Option (D×ac):=(lo env q.2).bind (RX hi env q.1)
@[simp] theorem fM{lo hi:MO}:kSl1 lo hi env (x,S)=(lo env S).bind (RX hi env x):=id rfl
@[simp] theorem fL{hi:MO}{l:Option Int}:RX hi env x (l,S)=(hi env S).bind (jF x l):=id rfl
@[simp] theorem mx{xs:List D}{l h:Option Int}:jF (.tup xs) l (h,S)=some (.tup (iB xs l h),S):=id rfl
@[simp] theorem RW{xs:List D}{l h:Option Int}:jF (.lst xs) l (h,S)=some (.lst (iB xs l h),S):=id rfl
@[simp] theorem kSl3_r{xs:List D}{l h:Option Int}:jF (.rol xs) l (h,S)=some (.lst (iB xs l h),S):=id rfl
@[simp] theorem cJ{lo hi:MO}:bE a lo hi env S=(a env S).bind (kSl1 lo hi env):=by rw [wa];rfl
@[simp] theorem bt:aY env S=some (.nx env S):=by rw [oP];rfl
def Kk(q:MS):oq->Option oq
 | .nx e S=>q e S
 | .rt d S=>some (.rt d S)
 | .bk e S=>some (.bk e S)
 | .ct e S=>some (.ct e S)
@[simp] theorem aD:Kk q (.nx e S)=q e S:=id rfl
@[simp] theorem bQ:Kk q (.rt d S)=some (.rt d S):=id rfl
@[simp] theorem kSeq_bk:Kk q (.bk e S)=some (.bk e S):=id rfl
@[simp] theorem kSeq_ct:Kk q (.ct e S)=some (.ct e S):=id rfl
@[simp] theorem aK:az p q env S=(p env S).bind (Kk q):=by rw [EK];unfold M.az;congr 1;funext o;cases o <;> rfl
def kRt(q:D×ac):Option oq:=some (.rt q.1 q.2)
@[simp] theorem bq:kRt (d,S)=some (.rt d S):=id rfl
@[simp] theorem aX:aV a env S=(a env S).bind kRt:=by rw [EL];rfl
def PQ(env:bn)(q:D×ac):Option oq:=some (.nx env q.2)
@[simp] theorem lA:PQ env (d,S)=some (.nx env S):=id rfl
@[simp] theorem lx:ee a env S=(a env S).bind (PQ env):=by rw [AH];rfl
def Sg(p q:MS)(env:bn)(r:Bool×ac):Option oq:=if r.1=true then p env r.2 else q env r.2
@[simp] theorem bP:Sg p q env (true,S)=p env S:=id rfl
@[simp] theorem bI:Sg p q env (false,S)=q env S:=id rfl
@[simp] theorem bj:bG t p q env S=(t env S).bind (Sg p q env):=by rw [ER];rfl
def kNx(q:bn×ac):Option oq:=some (.nx q.1 q.2)
@[simp] theorem bD:kNx (e,S)=some (.nx e S):=id rfl
def kAsg(tg:MG)(env:bn)(q:D×ac):Option oq:=(tg q.1 env q.2).bind kNx
@[simp] theorem bg:kAsg tg env (d,S)=(tg d env S).bind kNx:=id rfl
@[simp] theorem bf:aG a tg env S=(a env S).bind (kAsg tg env):=by rw [iJ];rfl
@[simp] theorem aJ{i:Nat}:ah i d env S=some (env.set i (some d),S):=by rw [pk];rfl
@[simp] theorem bW:aM [] env S=some (env,S):=by rw [Bd];rfl
def kGs(gs:uL)(r:List D)(q:bn×ac):Option (bn×ac):=gs r q.1 q.2
@[simp] theorem cU{gs:uL}{r:List D}:kGs gs r (e,S)=gs r e S:=id rfl
@[simp] theorem bC{gs:uL}{r:List D}:af tg gs (d::r) env S=(tg d env S).bind (kGs gs r):=by rw [wH];rfl
theorem gTupD_of{n:Nat}{gs:uL}{xs:List D}(h:xs.length=n):aZ n gs (.tup xs) env S=gs xs env S:=by rw [mI];exact if_pos h
@[simp] theorem cx{gs:uL}:aZ 2 gs (.tup [x,y]) env S=gs [x,y] env S:=by rw [mI];rfl
@[simp] theorem yD{gs:uL}{z:D}:aZ 3 gs (.tup [x,y,z]) env S=gs [x,y,z] env S:=by rw [mI];rfl
@[simp] theorem rR{gs:uL}{z w:D}:aZ 4 gs (.tup [x,y,z,w]) env S=gs [x,y,z,w] env S:=by rw [mI];rfl
def AO(env:bn)(d:D)(r:Nat)(k:Int)(S:ac):Option (bn×ac):=match S[r]? with
 | some (.lst xs)=>(GP xs.length k).bind fun j=>some (env,S.set r (.lst (xs.set j d)))
 | _=>none
def EX(env:bn)(d o:D)(q:D×ac):Option (bn×ac):=match o,q.1 with
 | .ref r,.int k=>AO env d r k q.2
 | _,_=>none
def Kj(i:ME)(env:bn)(d:D)(q:D×ac):Option (bn×ac):=(i env q.2).bind (EX env d q.1)
@[simp] theorem kSub1_s:Kj a env d (x,S)=(a env S).bind (EX env d x):=id rfl
@[simp] theorem kSub2_s{r:Nat}{i:Int}:EX env d (.ref r) (.int i,S)=AO env d r i S:=id rfl
theorem tK{r:Nat}{i:Int}{xs:List D}{j:Nat}(h:S[r]?=some (.lst xs))(hj:GP xs.length i=some j):AO env d r i S=some (env,S.set r (.lst (xs.set j d))):=by
 unfold AO;rw [h];show (GP xs.length i).bind _=_;rw [hj];rfl
@[simp] theorem gSubD_s:gv a b d env S=(a env S).bind (Kj b env d):=by
 rw [Bc];unfold M.gv Kj EX AO;congr 1
def kFor(tg:MG)(p:MS)(env:bn)(q:List D×ac):Option oq:=cE tg p q.1 env q.2
@[simp] theorem mz{xs:List D}:kFor tg p env (xs,S)=cE tg p xs env S:=id rfl
@[simp] theorem mw:gt ms tg p env S=(ms env S).bind (kFor tg p env):=by rw [ES];rfl
def GJ(tg:MG)(p:MS)(xs:List D):oq->Option oq
 | .nx e s=>cE tg p xs e s
 | .ct e s=>cE tg p xs e s
 | .bk e s=>some (.nx e s)
 | .rt d s=>some (.rt d s)
def kLp1(tg:MG)(p:MS)(xs:List D)(q:bn×ac):Option oq:=(p q.1 q.2).bind (GJ tg p xs)
@[simp] theorem pY{xs:List D}:kLp1 tg p xs (e,S)=(p e S).bind (GJ tg p xs):=id rfl
@[simp] theorem oY{xs:List D}:GJ tg p xs (.nx e S)=cE tg p xs e S:=id rfl
@[simp] theorem kLp2_ct{xs:List D}:GJ tg p xs (.ct e S)=cE tg p xs e S:=id rfl
@[simp] theorem kLp2_bk{xs:List D}:GJ tg p xs (.bk e S)=some (.nx e S):=id rfl
@[simp] theorem EY{xs:List D}:GJ tg p xs (.rt d S)=some (.rt d S):=id rfl
@[simp] theorem mForL_nil:cE tg p [] env S=some (.nx env S):=id rfl
theorem gY{xs:List D}:cE tg p (d::xs) env S=(tg d env S).bind (kLp1 tg p xs):=by
 show (tg d env S).bind _=_
 first | rfl | (congr 1;funext q;show (p q.1 q.2).bind _=(p q.1 q.2).bind _;congr 1;funext o;cases o <;> rfl)
def Db(q:D×ac):Option (List D×ac):=match q.1 with | .lst xs=>some (xs,q.2) | .rol xs=>some (xs,q.2) | .tup xs=>some (xs,q.2) | _=>none
@[simp] theorem yy{xs:List D}:Db (.lst xs,S)=some (xs,S):=id rfl
@[simp] theorem kItS_r{xs:List D}:Db (.rol xs,S)=some (xs,S):=id rfl
@[simp] theorem Km{xs:List D}:Db (.tup xs,S)=some (xs,S):=id rfl
@[simp] theorem dj:da a env S=(a env S).bind Db:=by rw [yn];rfl
def GH(q:List D×ac):Option (List D×ac):=match q.1 with | [.int j]=>if -(2 ^ 62)<=j/\j<2 ^ 62 then some (bT 0 j.toNat,q.2) else none | _=>none
theorem je{j:Int}(h:-1000000<=j)(h':j<=1000000):GH ([.int j],S)=some (bT 0 j.toNat,S):=if_pos ⟨by omega,by omega⟩
@[simp] theorem dN:bO ms env S=(ms env S).bind GH:=by rw [tD];rfl
def kR2(q:List D×ac):Option (List D×ac):=match q.1 with | [.int i,.int j]=>if -(2 ^ 62)<=i/\i<2 ^ 62/\-(2 ^ 62)<=j/\j<2 ^ 62 then some (bT i (j - i).toNat,q.2) else none | _=>none
@[simp] theorem mRange2_s:dU ms env S=(ms env S).bind kR2:=by rw [tB];rfl
def De(q:List D×ac):Option (D×ac):=some (.lst q.1,q.2)
def mB(g:MG)(t:MT)(e:ME)(cap:List (Option Nat))(env:bn)(q:List D×ac):Option (D×ac):=if q.1.length<=sizeLine then (dk g t e q.1 (uD cap env) q.2).bind De else none
theorem jf{cap:List (Option Nat)}{xs:List D}(h:xs.length<=1000):mB tg t a cap env (xs,S)=(dk tg t a xs (uD cap env) S).bind De:=if_pos (sz h)
@[simp] theorem kI{xs:List D}:De (xs,S)=some (.lst xs,S):=id rfl
@[simp] theorem bV{cap:List (Option Nat)}:bJ ms tg t a cap env S=(ms env S).bind (mB tg t a cap env):=by rw [tE];rfl
def Sh(x:D)(q:List D×ac):Option (List D×ac):=some (x::q.1,q.2)
def Si(g:MG)(t:MT)(e:ME)(xs:List D)(env:bn)(q:D×ac):Option (List D×ac):=(dk g t e xs env q.2).bind (Sh q.1)
def NZ(g:MG)(t:MT)(e:ME)(xs:List D)(env:bn)(q:Bool×ac):Option (List D×ac):=if q.1=true then (e env q.2).bind (Si g t e xs env) else dk g t e xs env q.2
def kCl1(g:MG)(t:MT)(e:ME)(xs:List D)(q:bn×ac):Option (List D×ac):=(t q.1 q.2).bind (NZ g t e xs q.1)
@[simp] theorem tS{xs:List D}:kCl1 tg t a xs (e,S)=(t e S).bind (NZ tg t a xs e):=id rfl
@[simp] theorem tR{xs:List D}:NZ tg t a xs e (true,S)=(a e S).bind (Si tg t a xs e):=id rfl
@[simp] theorem Df{xs:List D}:NZ tg t a xs e (false,S)=dk tg t a xs e S:=id rfl
@[simp] theorem tQ{xs:List D}:Si tg t a xs e (d,S)=(dk tg t a xs e S).bind (Sh d):=id rfl
@[simp] theorem tP{xs:List D}:Sh d (xs,S)=some (d::xs,S):=id rfl
@[simp] theorem RL:dk tg t a [] env S=some ([],S):=id rfl
theorem gc{xs:List D}:dk tg t a (d::xs) env S=(tg d env S).bind (kCl1 tg t a xs):=id rfl
section
variable{g2:MG}{t2:MT}{xs:List D}{mi2:MA}
end
def yz(n:Nat)(f:List D->ac->Option (D×ac))(q:List D×ac):Option oq:=if q.1.length=n then (f q.1 q.2).bind kRt else none
def PR(l:List (bB×Nat×(List D->ac->Option (D×ac))))(i:Nat)(ms:MA)(env:bn)(q:D×ac):Option oq:=(fg q.1).bind fun k=>(zn l k).bind fun p=>(ms (env.set i none) q.2).bind (yz p.1 p.2)
theorem Ko{l:List (bB×Nat×(List D->ac->Option (D×ac)))}{i n:Nat}{f:List D->ac->Option (D×ac)}{k:bB}(h:fg d=some k)(h':zn l k=some (n,f)):PR l i ms env (d,S)=(ms (env.set i none) S).bind (yz n f):=by
 show (fg d).bind _=_
 rw [h];show (zn l k).bind _=_;rw [h'];rfl
theorem GM{n:Nat}{f:List D->ac->Option (D×ac)}{xs:List D}(h:xs.length=n):yz n f (xs,S)=(f xs S).bind kRt:=if_pos h
theorem NQ{l:List (bB×Nat×(List D->ac->Option (D×ac)))}{i:Nat}:jd l i a ms env S=(a env S).bind (PR l i ms env):=by rw [AI];rfl
@[simp] theorem js{i j:Int}:aO S (.int i) (.int j)=some (.int (i+j)):=id rfl
theorem gE{xs ys:List D}(h:xs.length+ys.length<=1000):aO S (.tup xs) (.tup ys)=some (.tup (xs++ys)):=if_pos (sz h)
theorem Dr{xs ys:List D}(h:xs.length+ys.length<=1000):aO S (.lst xs) (.lst ys)=some (.lst (xs++ys)):=if_pos (sz h)
@[simp] theorem yG{i j:Int}:nB S (.int i) (.int j)=some (.int (i - j)):=id rfl
@[simp] theorem fLt_i{i j:Int}:Ov S (.int i) (.int j)=some (.bl (decide (i<j))):=id rfl
@[simp] theorem fLe_i{i j:Int}:Ow S (.int i) (.int j)=some (.bl (decide (i<=j))):=id rfl
@[simp] theorem Qe{i j:Int}:fGt S (.int i) (.int j)=some (.bl (decide (j<i))):=id rfl
@[simp] theorem fGe_i{i j:Int}:fGe S (.int i) (.int j)=some (.bl (decide (j<=i))):=id rfl
@[simp] theorem fNeg_i{i:Int}:SF S (.int i)=some (.int (-i)):=id rfl
theorem jo{i j:Int}(h:0<j):lD S (.int i) (.int j)=some (.int (i % j)):=if_pos (decide_eq_true h)
theorem KW{i j:Int}(h:0<j)(h':j<1073741824):Hg S (.int i) (.int j)=some (.int (i / j)):=if_pos (by show (decide (0<j)&&decide (j<1073741824))=true;rw [decide_eq_true h,decide_eq_true h'];rfl)
theorem KM{i j:Int}(h:(decide (0<=j)&&decide (j<=1000000)&&decide (i.natAbs<2 ^ 64))=true):vy S (.int i) (.int j)=some (.int (i ^ j.toNat)):=if_pos h
theorem jn{i j:Int}(h:oI i j=true):cB S (.int i) (.int j)=some (.int (i * j)):=if_pos h
theorem pO{i j:Int}(h:-18446744073709551616<i)(h':i<18446744073709551616):oI i j=true:=by
 unfold oI;rw [decide_eq_true (p:=i.natAbs<18446744073709551616) (by omega)];rfl
theorem xX{i j:Int}(h:-18446744073709551616<j)(h':j<18446744073709551616):oI i j=true:=by
 unfold oI;rw [decide_eq_true (p:=j.natAbs<18446744073709551616) (by omega)];simp
@[simp] theorem fIx_t{xs:List D}{i:Int}:av S (.tup xs) (.int i)=lc xs i:=id rfl
@[simp] theorem Fd{xs:List D}{i:Int}:av S (.lst xs) (.int i)=lc xs i:=id rfl
@[simp] theorem fIx_r{xs:List D}{i:Int}:av S (.rol xs) (.int i)=lc xs i:=id rfl
theorem pq{r:Nat}{xs:List D}{i:Int}(h:S[r]?=some (.lst xs)):av S (.ref r) (.int i)=lc xs i:=by
 have:gO S (.ref r)=some xs:=by simp only [gO,h]
 have t:zr S (.ref r)=none:=by simp only [zr,h]
 unfold av;rw [t]
 show (gO S (.ref r)).bind _=_;rw [this];rfl
theorem Mn{α:Type}{xs:List α}{i:Int}(h0:0<=i)(h:i<xs.length):lc xs i=some (xs[i.toNat]'(by omega)):=by
 unfold lc GP;rw [if_pos h0,if_pos h];show xs[i.toNat]?=_;rw [List.getElem?_eq_getElem]
@[simp] theorem Dq{xs:List D}:aN fO [.tup xs] S=some (.int xs.length,S):=id rfl
@[simp] theorem SJ{xs:List D}:aN fO [.lst xs] S=some (.int xs.length,S):=id rfl
@[simp] theorem SI{xs:List D}:aN fO [.rol xs] S=some (.int xs.length,S):=id rfl
@[simp] theorem fInt1_i{i:Int}:aN kP [.int i] S=some (.int i,S):=id rfl
@[simp] theorem pv:aN kP [.bl k] S=some (.int (if k then 1 else 0),S):=id rfl
@[simp] theorem Ou{i j:Int}:aN lO [.int i,.int j] S=some (.int (if j>i then j else i),S):=id rfl
@[simp] theorem Os{i j:Int}:aN Bl [.int i,.int j] S=some (.int (if j<i then j else i),S):=id rfl
@[simp] theorem fSeq1_t{g:List D->D}{xs:List D}:aN (cm g) [.tup xs] S=some (g xs,S):=id rfl
@[simp] theorem eS{g:List D->D}{xs:List D}:aN (cm g) [.lst xs] S=some (g xs,S):=id rfl
theorem KY{xs:List D}{bs:List Bool}(h:lI xs=some bs):aN yJ [.lst xs] S=some (.bl (bs.all id),S):=by
 show ((lI xs).bind _).bind _=_;rw [h];rfl
@[simp] theorem jP:ut S x .non=some (.bl (lB x .non)):=id rfl
@[simp] theorem fIs_b:ut S x (.bl k)=some (.bl (lB x (.bl k))):=id rfl
@[simp] theorem kN:kf S x .non=some (.bl (!lB x .non)):=id rfl
@[simp] theorem fIsNot_b:kf S x (.bl k)=some (.bl (!lB x (.bl k))):=id rfl
theorem lF(h:cK 40 x=true)(h':cK 40 y=true):bU S x y=some (.bl (jD x y)):=if_pos ⟨h,h'⟩
theorem ur(h:cK 40 x=true)(h':cK 40 y=true):ij S x y=some (.bl (!jD x y)):=if_pos ⟨h,h'⟩
@[simp] theorem iA{i j:Int}:bU S (.int i) (.int j)=some (.bl (i == j)):=lF (by simp [cK]) (by simp [cK])
@[simp] theorem KN{i j:Int}:ij S (.int i) (.int j)=some (.bl (!(i == j))):=ur (by simp [cK]) (by simp [cK])
@[simp] theorem fEq_bb:bU S (.bl k) (.bl l)=some (.bl (k == l)):=lF (by simp [cK]) (by simp [cK])
@[simp] theorem cI{i j:Str}:bU S (.str i) (.str j)=some (.bl (i == j)):=lF (by simp [cK]) (by simp [cK])
@[simp] theorem qh{i j:Str}:ij S (.str i) (.str j)=some (.bl (!(i == j))):=ur (by simp [cK]) (by simp [cK])
theorem kg{ys:List D}(hs:gO S y=some ys)(h:cK 40 x=true)(h':ys.all (cK 39)=true):oo S x y=some (.bl (ys.any fun d=>jD d x)):=by
 unfold oo;rw [hs];exact if_pos ⟨h,h'⟩
theorem Hb{ys:List D}(hs:gO S y=some ys)(h:cK 40 x=true)(h':ys.all (cK 39)=true):qg S x y=some (.bl (!ys.any fun d=>jD d x)):=by
 unfold qg;rw [hs];exact if_pos ⟨h,h'⟩
theorem Oq{xs:List D}{k:Int}(h0:0<=k)(h1:k<=100000)(h:xs.length * k.toNat<=1000):cB S (.tup xs) (.int k)=some (.tup (List.replicate k.toNat xs).flatten):=if_pos ⟨by omega,by omega,sz h⟩
def dR(f:MF)(x:D)(q:List D×ac):Option (D×ac):=f x q.1 q.2
def oX(f:MF)(ms:MA)(env:bn)(q:D×ac):Option (D×ac):=if rh q.2 q.1=true then (ms env q.2).bind (dR f q.1) else none
@[simp] theorem lv{f:MF}:eU f a ms env S=(a env S).bind (oX f ms env):=by rw [AD];rfl
@[simp] theorem kMeth_l{f:MF}{xs:List D}:oX f ms env (.lst xs,S)=(ms env S).bind (dR f (.lst xs)):=id rfl
theorem rN{f:MF}{r:Nat}{xs:List D}(h:S[r]?=some (.lst xs)):oX f ms env (.ref r,S)=(ms env S).bind (dR f (.ref r)):=by
 unfold oX;exact if_pos (by simp only [rh,h])
@[simp] theorem fh{f:MF}{xs:List D}:dR f x (xs,S)=f x xs S:=id rfl
theorem qi{r:Nat}{xs:List D}(h:S[r]?=some (.lst xs))(hz:xs.length<1000):cZ (.ref r) [y] S=some (.non,S.set r (.lst (xs++[y]))):=by
 simp only [cZ,h];exact if_pos (Nat.lt_of_lt_of_le hz (by decide))
theorem He{r:Nat}{xs:List D}{i:Int}(h:S[r]?=some (.lst xs))(hz:xs.length<1000)(h0:0<=i)(h1:i<=100000):iK (.ref r) [.int i,y] S=some (.non,S.set r (.lst (jZ xs i y))):=by
 simp only [iK,h];exact if_pos ⟨Nat.lt_of_lt_of_le hz (by decide),by omega,by omega⟩
def EZ(q:List D×ac):Option (List D×ac):=match q.1 with | [.tup xs]=>some (ft 0 xs,q.2) | _=>none
@[simp] theorem kEnum_s{xs:List D}:EZ ([.tup xs],S)=some (ft 0 xs,S):=id rfl
@[simp] theorem oS:gu ms env S=(ms env S).bind EZ:=by rw [AG];rfl
theorem Oe{ns:List Int}(h:ns.length<64):qD S (.lst (ns.map .int))=some ns:=by
 unfold qD
 rw [if_pos (show rh S (.lst (ns.map D.int))=true from rfl)]
 show (og (ns.map D.int)).bind _=_
 rw [tY];exact if_pos h
def kPar(i j:Nat)(env:bn)(q:List D×ac):Option oq:=match q.1 with | [v,w]=>some (.nx ((env.set i (some v)).set j (some w)) q.2) | _=>none
@[simp] theorem RH{i j:Nat}:nz i j ms env S=(ms env S).bind (kPar i j env):=by rw [EM];rfl
@[simp] theorem Sa{i j:Nat}:kPar i j env ([x,y],S)=some (.nx ((env.set i (some x)).set j (some y)) S):=id rfl
def NY(ms:MA)(env:bn)(q:D×ac):Option (D×ac):=if Iy q.1=true then (ms env q.2).bind (dR fE q.1) else if rh q.2 q.1=true then (ms env q.2).bind (dR ng q.1) else none
@[simp] theorem Kb:kD a ms env S=(a env S).bind (NY ms env):=by rw [EV];rfl
@[simp] theorem kCnt_t{xs:List D}:NY ms env (.tup xs,S)=(ms env S).bind (dR fE (.tup xs)):=id rfl
@[simp] theorem kCnt_l{xs:List D}:NY ms env (.lst xs,S)=(ms env S).bind (dR ng (.lst xs)):=id rfl
theorem Hh{xs:List D}(h:cK 40 x=true)(h':xs.all (cK 39)=true):fE (.tup xs) [x] S=some (.int (xs.countP fun d=>jD d x),S):=by
 show (if Iy (.tup xs)=true then uu (.tup xs) [x] S else none)=_
 rw [if_pos (show Iy (.tup xs)=true from rfl)]
 exact if_pos ⟨h,h'⟩
def kZip(q:List D×ac):Option (List D×ac):=match q.1 with | [.tup xs,.tup ys]=>some (jS xs ys,q.2) | _=>none
@[simp] theorem kZip_s{xs ys:List D}:kZip ([.tup xs,.tup ys],S)=some (jS xs ys,S):=id rfl
@[simp] theorem mZip_s:nV ms env S=(ms env S).bind kZip:=by rw [EG];rfl
@[simp] theorem Ik{xs ys:List D}:jS (x::xs) (y::ys)=.tup [x,y]::jS xs ys:=id rfl
@[simp] theorem zipD_nl{xs:List D}:jS [] xs=[]:=by cases xs <;> rfl
@[simp] theorem zipD_nr{xs:List D}:jS xs []=[]:=by cases xs <;> rfl
def RY(k:bB)(d:D)(z:List (bB×D)×ac):Option (List (bB×D)×ac):=some ((k,d)::z.1,z.2)
def NU(r:List (ME×ME))(env:bn)(k:bB)(q:D×ac):Option (List (bB×D)×ac):=(jV r env q.2).bind (RY k q.1)
def kPr2(b:ME)(r:List (ME×ME))(env:bn)(S:ac)(k:bB):Option (List (bB×D)×ac):=(b env S).bind (NU r env k)
def RZ(b:ME)(r:List (ME×ME))(env:bn)(q:D×ac):Option (List (bB×D)×ac):=(fg q.1).bind (kPr2 b r env q.2)
@[simp] theorem nW:jV [] env S=some ([],S):=id rfl
@[simp] theorem mr{r:List (ME×ME)}:jV ((a,b)::r) env S=(a env S).bind (RZ b r env):=id rfl
@[simp] theorem kPr1_i{i:Int}{r:List (ME×ME)}:RZ b r env (.int i,S)=(b env S).bind (NU r env (.inl i)):=id rfl
@[simp] theorem CZ{i:Str}{r:List (ME×ME)}:RZ b r env (.str i,S)=(b env S).bind (NU r env (.inr i)):=id rfl
@[simp] theorem CY{k:bB}{r:List (ME×ME)}:NU r env k (d,S)=(jV r env S).bind (RY k d):=id rfl
@[simp] theorem CW{k:bB}{z:List (bB×D)}:RY k d (z,S)=some ((k,d)::z,S):=id rfl
def tO(z:List (bB×D)×ac):Option (D×ac):=if z.1.length<=15 then some (.dct ((cD [] z.1).map (·.1)) ((cD [] z.1).map (·.2)),z.2) else none
def yA(z:List (bB×D)×ac):Option (D×ac):=if z.1.length<=15 then some (.ref z.2.length,z.2++[.dct ((cD [] z.1).map (·.1)) ((cD [] z.1).map (·.2))]) else none
@[simp] theorem ET{ps:List (ME×ME)}:iG ps env S=(jV ps env S).bind tO:=by rw [AJ];rfl
@[simp] theorem JZ{ps:List (ME×ME)}:fK ps env S=(jV ps env S).bind yA:=by rw [wj];rfl
theorem AW{k:bB}:∀ {l:List (bB×D)},k ∉ l.map (·.1)->GX l k=false
 | [],_=>rfl
 | p::r,h=>by
  rw [List.map_cons,List.mem_cons,not_or] at h
  unfold GX;rw [if_neg (fun z=>h.1 z.symm)];exact AW h.2
theorem nU:∀ {l m:List (bB×D)},((m++l).map (·.1)).Nodup->cD m l=m++l
 | [],m,_=>by rw [List.append_nil];rfl
 | p::r,m,h=>by
  show cD (Jf m p.1 p.2) r=_
  have hn:p.1 ∉ m.map (·.1):=by
   rw [List.map_append,List.map_cons,List.nodup_append] at h
   intro z;exact h.2.2 _ z _ List.mem_cons_self rfl
  unfold Jf;rw [AW hn,if_neg Bool.false_ne_true]
  rw [nU (by rw [List.append_assoc];exact h),List.append_assoc];rfl
theorem pP{l:List (bB×D)}(h:(l.map (·.1)).Nodup):cD [] l=l:=nU (m:=[]) h
theorem AR{l:List (bB×D)}(h:(l.map (·.1)).Nodup)(hl:l.length<=15):tO (l,S)=some (.dct (l.map (·.1)) (l.map (·.2)),S):=by
 unfold tO;rw [if_pos hl];simp only [pP h]
theorem GN{l:List (bB×D)}(h:(l.map (·.1)).Nodup)(hl:l.length<=15):yA (l,S)=some (.ref S.length,S++[.dct (l.map (·.1)) (l.map (·.2))]):=by
 unfold yA;rw [if_pos hl];simp only [pP h]
theorem wX{α β:Type}:∀ (l:List (α×β)),(l.map (·.1)).zip (l.map (·.2))=l
 | []=>rfl
 | p::r=>by rw [List.map_cons,List.map_cons,List.zip_cons_cons,wX r]
@[simp] theorem fIx_dct{ks:List bB}{vs:List D}:av S (.dct ks vs) y=(fg y).bind (iV (ks.zip vs)):=id rfl
theorem kDict_nd{l:List (bB×D)}(h:(l.map (·.1)).Nodup)(hl:l.length<=15):tO (l,S)=some (.dct (l.map (·.1)) (l.map (·.2)),S):=by
 unfold tO;rw [if_pos hl];simp only [pP h]
theorem fIx_d{l:List (bB×D)}{k:bB}(h:fg y=some k):av S (.dct (l.map (·.1)) (l.map (·.2))) y=iV l k:=by
 show (fg y).bind (fun k=>iV ((l.map (·.1)).zip (l.map (·.2))) k)=_
 rw [h,wX];rfl
theorem SK{r:Nat}{l:List (bB×D)}{k:bB}(hr:S[r]?=some (.dct (l.map (·.1)) (l.map (·.2))))(h:fg y=some k):av S (.ref r) y=iV l k:=by
 have:zr S (.ref r)=some l:=by simp only [zr,hr,wX]
 unfold av;rw [this];show (fg y).bind _=_;rw [h];rfl
def tL(f:MF)(ms:MA)(env:bn)(q:D×ac):Option (D×ac):=if LW q.2 q.1=true then (ms env q.2).bind (dR f q.1) else none
def tJ(l:List (bB×D))(q:D×ac):Option (D×ac):=(fg q.1).bind fun k=>(iV l k).bind fun d=>some (d,q.2)
@[simp] theorem tz{l:List (bB×D)}:dP l a env S=(a env S).bind (tJ l):=by rw [vZ];rfl
@[simp] theorem JV{f:MF}:fI f a ms env S=(a env S).bind (tL f ms env):=by rw [wf];rfl
@[simp] theorem kMethD_d{f:MF}{ks:List bB}{vs:List D}:tL f ms env (.dct ks vs,S)=(ms env S).bind (dR f (.dct ks vs)):=id rfl
theorem Kl{f:MF}{r:Nat}{ks:List bB}{vs:List D}(h:S[r]?=some (.dct ks vs)):tL f ms env (.ref r,S)=(ms env S).bind (dR f (.ref r)):=by
 unfold tL;exact if_pos (by simp only [LW,h])
@[simp] theorem valD_nil{k:bB}:iV [] k=none:=id rfl
@[simp] theorem valD_cons{k k':bB}{l:List (bB×D)}:iV ((k',d)::l) k=if k'=k then some d else iV l k:=id rfl
@[simp] theorem keyOf_i{i:Int}:fg (.int i)=some (.inl i):=id rfl
@[simp] theorem yv{i:Str}:fg (.str i)=some (.inr i):=id rfl
theorem Op{r:Nat}{l m:List (bB×D)}(hr:S[r]?=some (.dct (l.map (·.1)) (l.map (·.2))))(hl:l.length+m.length<=1000) :
  um (.ref r) [.dct (m.map (·.1)) (m.map (·.2))] S=some (.non,S.set r (.dct ((cD l m).map (·.1)) ((cD l m).map (·.2)))):=by
 simp only [um,hr,wX]
 exact if_pos (by rw [List.length_map,List.length_map];exact sz hl)
def oZ(tg:MG)(p:MS)(env:bn)(q:D×ac):Option oq:=match q.1 with
 | .ref r=>eX tg p r 2000 0 env q.2
 | .lst xs=>cE tg p xs env q.2
 | .rol xs=>cE tg p xs env q.2
 | .tup xs=>cE tg p xs env q.2
 | _=>none
@[simp] theorem oR:gb a tg p env S=(a env S).bind (oZ tg p env):=by rw [AF];rfl
@[simp] theorem NX{xs:List D}:oZ tg p env (.lst xs,S)=cE tg p xs env S:=id rfl
@[simp] theorem kForD_o{xs:List D}:oZ tg p env (.rol xs,S)=cE tg p xs env S:=id rfl
@[simp] theorem kForD_t{xs:List D}:oZ tg p env (.tup xs,S)=cE tg p xs env S:=id rfl
@[simp] theorem kForD_r{r:Nat}:oZ tg p env (.ref r,S)=eX tg p r 2000 0 env S:=id rfl
def GG(tg:MG)(p:MS)(r f i:Nat):oq->Option oq
 | .nx e s=>eX tg p r f i e s
 | .ct e s=>eX tg p r f i e s
 | .bk e s=>some (.nx e s)
 | .rt d s=>some (.rt d s)
def kRl1(tg:MG)(p:MS)(r f i:Nat)(q:bn×ac):Option oq:=(p q.1 q.2).bind (GG tg p r f i)
@[simp] theorem kRl1_s{r f i:Nat}:kRl1 tg p r f i (e,S)=(p e S).bind (GG tg p r f i):=id rfl
@[simp] theorem kRl2_nx{r f i:Nat}:GG tg p r f i (.nx e S)=eX tg p r f i e S:=id rfl
@[simp] theorem kRl2_ct{r f i:Nat}:GG tg p r f i (.ct e S)=eX tg p r f i e S:=id rfl
@[simp] theorem kRl2_bk{r f i:Nat}:GG tg p r f i (.bk e S)=some (.nx e S):=id rfl
@[simp] theorem kRl2_rt{r f i:Nat}:GG tg p r f i (.rt d S)=some (.rt d S):=id rfl
theorem RK{r f i:Nat}{xs:List D}(h:S[r]?=some (.lst xs))(hx:xs.length<=i):eX tg p r (f+1) i env S=some (.nx env S):=by
 have hx':xs[i]?=none:=by simpa using hx
 unfold eX;rw [h];simp only [hx']
def Da(q:List D×ac):Option (D×ac):=match q.1 with | [.int j]=>if 0<=j/\j<=1000 then some (.lst (bT 0 j.toNat),q.2) else none | _=>none
@[simp] theorem JW:fJ ms env S=(ms env S).bind Da:=by rw [wg];rfl
theorem GL{j:Int}(h0:0<=j)(h1:j<=1000):Da ([.int j],S)=some (.lst (bT 0 j.toNat),S):=if_pos ⟨h0,h1⟩
def RU(t:MT)(p:MS)(f:Nat):oq->Option oq
 | .nx e s=>gp t p f e s
 | .ct e s=>gp t p f e s
 | .bk e s=>some (.nx e s)
 | .rt d s=>some (.rt d s)
def kWh(t:MT)(p:MS)(f:Nat)(env:bn)(q:Bool×ac):Option oq:=if q.1=true then (p env q.2).bind (RU t p f) else some (.nx env q.2)
@[simp] theorem JQ:fG t p env S=gp t p 5000 env S:=by rw [vY];rfl
theorem GA{f:Nat}:gp t p (f+1) env S=(t env S).bind (kWh t p f env):=by
 show (t env S).bind _=_
 first | rfl | (congr 1;done)
@[simp] theorem kWh_t{f:Nat}:kWh t p f env (true,S)=(p env S).bind (RU t p f):=id rfl
@[simp] theorem kWh_f{f:Nat}:kWh t p f env (false,S)=some (.nx env S):=id rfl
@[simp] theorem NT{f:Nat}:RU t p f (.nx e S)=gp t p f e S:=id rfl
theorem Ot{ns:List Int}(h:ns.length<64)(h0:ns≠[]):aN lO [.lst (ns.map .int)] S=some (.int (jU ns),S):=by
 show ((lO S [.lst (ns.map D.int)]).bind _)=_
 have:lO S [.lst (ns.map D.int)]=some (.int (jU ns)):=by
  show ((qD S (.lst (ns.map D.int))).bind _)=_
  rw [Oe h]
  show (if ns.isEmpty=true then none else some (D.int (jU ns)))=_
  rw [if_neg (by cases ns with | nil=>exact absurd rfl h0 | cons _ _=>simp)]
 rw [this];rfl
theorem Fe{x y:D}{xs ys:List D}(h:(qa x||qa y)=true)(h1:oU S x=some xs)(h2:oU S y=some ys)(hl:xs.length+ys.length<=1000):aO S x y=some (.lst (xs++ys)):=by
 unfold aO;rw [if_pos h,h1,h2];exact if_pos (sz hl)
theorem szM{n:Nat}(h:n<=1000000):n<=sizeLine:=Nat.le_trans h (by decide)
theorem FM:∀ ys:List Str,Ep (ys.map .str)=some ys
 | []=>rfl
 | y::r=>by
  have:=FM r
  show (Ep (r.map .str)).bind _=_
  rw [this];rfl
def Nz:oq->Option (D×ac)
 | .rt d S'=>some (d,S')
 | .nx _ S'=>some (.non,S')
 | .bk _ _=>none
 | .ct _ _=>none
@[simp] theorem aH:Nz (.rt d S)=some (d,S):=id rfl
@[simp] theorem outM_nx:Nz (.nx e S)=some (.non,S):=id rfl
theorem bb{N:List Str}{m:MS}{n:Nat}{ds:List D}{S:ac}(h:ds.length=n):aP N m n ds S=(m (aA N ds) S).bind Nz:=by
 unfold aP;rw [if_pos h];first | rfl | (congr 1;funext o;cases o <;> rfl)
@[simp] theorem rep0:List.replicate 0 (none:Option D)=[]:=id rfl
end
end MI
namespace MI
open PySem PySem.Spec PyProof.Rows L2 M
def rL:MS:=
 az (bG (aw (au fGt (au av (ab 0) (mC (.int 0))) (mC (.int 0)))) (az (aG (au lD (au av (ab 0) (mC (.int 0))) (ab 1)) (ah 2)) (az (aG (au Hg (au av (ab 0) (mC (.int 0))) (ab 1)) (gv (ab 0) (mC (.int 0)))) (aV (ab 2)))) (aY)) (az (aG (au aO (au av (ab 0) (mC (.int 2))) (mC (.int 1))) (gv (ab 0) (mC (.int 2)))) (az (aG (au lD (au aO (au aO (au cB (au av (ab 0) (mC (.int 1))) (mC (.int 48271))) (mC (.int 12345))) (au cB (mC (.int 7)) (au av (ab 0) (mC (.int 2))))) (mC (.int 2147483647))) (gv (ab 0) (mC (.int 1)))) (aV (au lD (au Hg (au lD (au cB (au av (ab 0) (mC (.int 1))) (au av (ab 0) (mC (.int 1)))) (mC (.int 1999999973))) (mC (.int 64))) (ab 1)))))
def CV:MS:=
 az (aG (mC (.int 1)) (ah 0)) (az (gt (bO (aa (mC (.int 10)) (ag))) (ah 1) (aG (au cB (ab 0) (au vy (mC (.int 10)) (mC (.int 60)))) (ah 0))) (aV (ab 0)))
def mX:MS:=
 az (bG (aw (au Ov (ab 1) (bi (aN fO) (aa (ab 0) (ag))))) (aV (au av (ab 0) (ab 1))) (aY)) (aV (mC (.int 0)))
def rM(cellAt far:List D->ac->Option (D×ac)):MS:=
 az (aG (ai 2 cellAt (aa (ab 0) (aa (au lD (ab 1) (bi (aN lO) (aa (mC (.int 1)) (aa (bi (aN fO) (aa (ab 0) (ag))) (ag))))) (ag)))) (ah 2)) (az (aG (au lD (au cB (au aO (au aO (au lD (ab 2) (mC (.int 2147483629))) (au cB (au cB (mC (.int 7919)) (ab 1)) (ab 1))) (mC (.int 11))) (mC (.int 48271))) (mC (.int 2147483647))) (ah 3)) (az (aG (au lD (au aO (au aO (au cB (ab 3) (mC (.int 39373))) (au cB (mC (.int 7)) (ab 1))) (mC (.int 1))) (mC (.int 2147483629))) (ah 3)) (az (bG (aw (au Ov (ab 2) (au vy (mC (.int 10)) (mC (.int 18))))) (aG (mC (.int 0)) (ah 2)) (aY)) (aV (eV (aa (au lD (ab 2) (ai 0 far ag)) (aa (ab 3) (aa (mC (.int 0)) (ag)))))))))
theorem TR{a b c:D}:lc [a,b,c] 0=some a/\lc [a,b,c] 1=some b/\lc [a,b,c] 2=some c:=⟨rfl,rfl,rfl⟩
def Pk(S:ac)(r:Nat):Prop:=∃ a b c:Int,S[r]?=some (.lst [.int a,.int b,.int c])/\0<=a/\0<=b/\b<2147483647
def p60:Int:=1000000000000000000000000000000000000000000000000000000000000
theorem Ro:(10:Int) ^ (60:Int).toNat=p60:=by decide +kernel
theorem Rn:p60.natAbs<=2 ^ (200 * 1):=by decide +kernel
theorem Nx:0<p60:=by decide +kernel
theorem Ny{i:Int}(h:i.natAbs<2 ^ 4000):oI i p60=true:=by
 unfold oI
 rw [decide_eq_true h,decide_eq_true (p:=p60.natAbs<2 ^ 4000) (by decide +kernel)]
 simp
def KL:MS:=aG (au cB (ab 0) (au vy (mC (.int 10)) (mC (.int 60)))) (ah 0)
theorem SE{S:ac}:vy S (.int 10) (.int 60)=some (.int p60):=by
 have h:=KM (S:=S) (i:=10) (j:=60) (by decide +kernel)
 rw [Ro] at h
 exact h
theorem KJ{S:ac}{a p:Int}{o:Option D}(h1:vy S (.int 10) (.int 60)=some (.int p))(h2:cB S (.int a) (.int p)=some (.int (a * p))):KL [some (.int a),o] S=some (.nx [some (.int (a * p)),o] S):=by
 simp [KL,h1,h2]
theorem Oo{S:ac}{a:Int}{o:Option D}(h:oI a p60=true):KL [some (.int a),o] S=some (.nx [some (.int (a * p60)),o] S):=KJ SE (jn h)
theorem farL{S:ac}{B:Nat}(hB:∀ i:Int,i.natAbs<B->oI i p60=true)(l:List D):∀ (a:Int) (o:Option D),0<a->a.natAbs * 2 ^ (200 * l.length)<B->∃ q o',cE (ah 1) KL l [some (.int a),o] S=some (.nx [some (.int q),o'] S)/\0<q:=by
 induction l with
 | nil=>exact fun a o h _=>⟨a,o,rfl,h⟩
 | cons d l ih=>
  intro a o h hb
  have h1:a.natAbs<B:=Nat.lt_of_le_of_lt (Nat.le_mul_of_pos_right _ (Nat.pow_pos (by decide))) hb
  obtain⟨q,o',e,hq⟩:=ih (a * p60) (some d) (Int.mul_pos h Nx) (by
   rw [Int.natAbs_mul]
   refine Nat.lt_of_le_of_lt ?_ hb
   rw [List.length_cons,Nat.mul_add,Nat.pow_add,Nat.mul_assoc]
   refine Nat.mul_le_mul_left _ ?_
   rw [Nat.mul_comm]
   exact Nat.mul_le_mul_left _ Rn)
  refine⟨q,o',?_,hq⟩
  rw [gY,aJ,ob,pY]
  show (KL [some (.int a),some d] S).bind _=_
  rw [Oo (hB a h1),ob,oY]
  exact e
theorem KI{S:ac}{N:List Str}(hN:N.length=2):∃ q:Int,aP N CV 0 [] S=some (.int q,S)/\0<q:=by
 obtain⟨q,o',e,hq⟩:=farL (S:=S) (fun i h=>Ny h) (bT 0 10) 1 none (by decide) (by decide +kernel)
 refine⟨q,?_,hq⟩
 rw [bb (show ([]:List D).length=0 from rfl)]
 have:aA N []=[none,none]:=by simp [aA,hN,List.replicate]
 rw [this]
 have k1:GH ([.int 10],S)=some (bT 0 10,S):=je (by decide) (by decide)
 have e':cE (ah 1) (aG (au cB (ab 0) (au vy (mC (.int 10)) (mC (.int 60)))) (ah 0)) (bT 0 10) [some (.int 1),none] S=some (.nx [some (.int q),o'] S):=e
 simp only [CV,aK,bf,bd,ob,bg,aJ,dY,bD,aD,mw,dN,ao,am,ax,al,k1,mz,e',aX,aj,bH,oj,ak,bq,aH]
theorem Gb{S:ac}{r:Nat}{m:Int}{N:List Str}(hN:N.length=3)(h:Pk S r)(h0:0<m)(h1:m<1073741824) :
  ∃ q S',aP N rL 2 [.ref r,.int m] S=some (.int q,S')/\0<=q/\q<m/\Pk S' r/\(∀ j,j≠r->S'[j]?=S[j]?)/\S'.length=S.length:=by
 obtain⟨a,b,c,h,ha,hb,hb'⟩:=h
 have hr:r<S.length:=(List.getElem?_eq_some_iff.mp h).1
 have hm:∀ x:Int,0<=x % m/\x % m<m:=fun x=>⟨Int.emod_nonneg _ (by omega),Int.emod_lt_of_pos _ h0⟩
 have hst:aA N [.ref r,.int m]=[some (.ref r),some (.int m),none]:=by simp [aA,hN]
 rw [bb (show [D.ref r,D.int m].length=2 from rfl),hst]
 have hs:∀ c:uO,(S.set r c)[r]?=some c:=fun c=>List.getElem?_set_self hr
 by_cases hp:0<a
 ·refine⟨a % m,S.set r (.lst [.int (a / m),.int b,.int c]),?_,(hm a).1,(hm a).2,⟨a / m,b,c,hs _,Int.ediv_nonneg ha (by omega),hb,hb'⟩,fun j hj=>by rw [List.getElem?_set_ne (Ne.symm hj)],by simp⟩
  have w:=tK (env:=[some (.ref r),some (.int m),some (.int (a % m))]) (d:=.int (a / m)) h (show GP _ 0=some 0 from rfl)
  simp [rL,pq h,hp,jo h0,KW h0 h1,TR,w]
 ·have hB:∀ x:Int,0<=x % 2147483647/\x % 2147483647<2147483647:=fun x=>⟨Int.emod_nonneg _ (by decide),Int.emod_lt_of_pos _ (by decide)⟩
  let b':=(b * 48271+12345+7 * (c+1)) % 2147483647
  have hb2:=hB (b * 48271+12345+7 * (c+1))
  have m3:oI b' b'=true:=pO (by omega) (by omega)
  have s1:(S.set r (.lst [.int a,.int b,.int (c+1)]))[r]?=some (.lst [.int a,.int b,.int (c+1)]):=hs _
  have s2:((S.set r (.lst [.int a,.int b,.int (c+1)])).set r (.lst [.int a,.int b',.int (c+1)]))[r]?=some (.lst [.int a,.int b',.int (c+1)]):=List.getElem?_set_self (by simpa using hr)
  refine⟨b' * b' % 1999999973 / 64 % m,(S.set r (.lst [.int a,.int b,.int (c+1)])).set r (.lst [.int a,.int b',.int (c+1)]),?_,(hm _).1,(hm _).2,⟨a,b',c+1,s2,ha,(hB _).1,(hB _).2⟩,fun j hj=>by rw [List.getElem?_set_ne (Ne.symm hj),List.getElem?_set_ne (Ne.symm hj)],by simp⟩
  have e1:cB (S.set r (.lst [.int a,.int b,.int (c+1)])) (.int b) (.int 48271)=some (.int (b * 48271)):=jn (xX (by decide) (by decide))
  have e2:cB (S.set r (.lst [.int a,.int b,.int (c+1)])) (.int 7) (.int (c+1))=some (.int (7 * (c+1))):=jn (pO (by decide) (by decide))
  have e3:∀ S x,lD S (.int x) (.int 2147483647)=some (.int (x % 2147483647)):=fun _ _=>jo (by decide)
  have e4:∀ S x,lD S (.int x) (.int 1999999973)=some (.int (x % 1999999973)):=fun _ _=>jo (by decide)
  have e5:∀ S x,Hg S (.int x) (.int 64)=some (.int (x / 64)):=fun _ _=>KW (by decide) (by decide)
  have w1:=tK (env:=[some (.ref r),some (.int m),none]) (d:=.int (c+1)) h (show GP _ 2=some 2 from rfl)
  have w2:=tK (env:=[some (.ref r),some (.int m),none]) (d:=.int b') s1 (show GP _ 1=some 1 from rfl)
  simp [rL,pq h,pq s1,pq s2,hp,jo h0,TR,e1,e2,e3,e4,e5,w1]
  rw [show (b * 48271+12345+7 * (c+1)) % 2147483647=b' from rfl,w2]
  simp [pq (hs _),TR,jn m3,e4,e5,jo h0]
theorem Bx{S:ac}{ns:List Int}{k:Int}{N:List Str}(hN:N.length=2)(h0:0<=k):∃ v,aP N mX 2 [.rol (ns.map .int),.int k] S=some (.int v,S):=by
 rw [bb (show [D.rol (ns.map .int),D.int k].length=2 from rfl)]
 have hst:aA N [D.rol (ns.map .int),D.int k]=[some (D.rol (ns.map .int)),some (.int k)]:=by simp [aA,hN]
 rw [hst]
 by_cases h:k<ns.length
 ·have e:lc (ns.map D.int) k=some (.int (ns[k.toNat]'(by omega))):=by
   rw [Mn h0 (by simpa using h)];simp
  exact⟨ns[k.toNat]'(by omega),by simp [mX,h,e]⟩
 ·exact⟨0,by simp [mX,h]⟩
theorem Ud{S:ac}{a b c:Int}(ha:0<=a)(hb:0<=b)(hb':b<2147483647):Pk (S++[.lst [.int a,.int b,.int c]]) S.length:=⟨a,b,c,by simp,ha,hb,hb'⟩
theorem GD{S:ac}{ns:List Int}{k:Int}{N:List Str}{cellAt far:List D->ac->Option (D×ac)}(hN:N.length=4)(h0:0<=k)(h1:k<=100000)
  (hc:∀ S k,0<=k->∃ v,cellAt [.rol (ns.map .int),.int k] S=some (.int v,S)) (hf:∀ S,∃ q,far [] S=some (.int q,S)/\0<q) :
  ∃ a b,aP N (rM cellAt far) 2 [.rol (ns.map .int),.int k] S=some (.ref S.length,S++[.lst [.int a,.int b,.int 0]])/\0<=a/\0<=b/\b<2147483647:=by
 rw [bb (show [D.rol (ns.map .int),D.int k].length=2 from rfl)]
 have hst:aA N [D.rol (ns.map .int),D.int k]=[some (D.rol (ns.map .int)),some (.int k),none,none]:=by simp [aA,hN,List.replicate]
 rw [hst]
 have hmx:0<(if (ns.length:Int)>1 then (ns.length:Int) else 1):=by split <;> omega
 obtain⟨v,hv⟩:=hc S (k % (if (ns.length:Int)>1 then (ns.length:Int) else 1)) (Int.emod_nonneg _ (by omega))
 obtain⟨q,hq,q0⟩:=hf S
 have e1:∀ S x,lD S (.int x) (.int 2147483629)=some (.int (x % 2147483629)):=fun _ _=>jo (by decide)
 have e2:∀ S x,lD S (.int x) (.int 2147483647)=some (.int (x % 2147483647)):=fun _ _=>jo (by decide)
 have e3:∀ S x,lD S (.int x) (.int q)=some (.int (x % q)):=fun _ _=>jo q0
 have p1:∀ S,cB S (.int 7919) (.int k)=some (.int (7919 * k)):=fun _=>jn (pO (by decide) (by decide))
 have p2:∀ S,cB S (.int (7919 * k)) (.int k)=some (.int (7919 * k * k)):=fun _=>jn (xX (by omega) (by omega))
 have p3:∀ S x,cB S (.int x) (.int 48271)=some (.int (x * 48271)):=fun _ _=>jn (xX (by decide) (by decide))
 have p4:∀ S x,cB S (.int x) (.int 39373)=some (.int (x * 39373)):=fun _ _=>jn (xX (by decide) (by decide))
 have p5:∀ S,cB S (.int 7) (.int k)=some (.int (7 * k)):=fun _=>jn (pO (by decide) (by decide))
 have pw:∀ S,vy S (.int 10) (.int 18)=some (.int 1000000000000000000):=fun S=>by
  have h:=KM (S:=S) (i:=10) (j:=18) (by decide +kernel)
  rwa [show (10:Int) ^ (18:Int).toNat=1000000000000000000 by decide +kernel] at h
 have hb:∀ x:Int,0<=x % 2147483629/\x % 2147483629<2147483647:=fun x=>⟨Int.emod_nonneg _ (by decide),by have:=Int.emod_lt_of_pos x (show (0:Int)<2147483629 by decide);omega⟩
 have kl:∀ S x y,qA ([.int x,.int y,.int 0],S)=some (.ref S.length,S++[.lst [.int x,.int y,.int 0]]):=fun _ _ _=>kH (by simp)
 by_cases h:v<1000000000000000000
 ·refine⟨0 % q,(((v % 2147483629+7919 * k * k+11) * 48271 % 2147483647) * 39373+7 * k+1) % 2147483629,?_,Int.emod_nonneg _ (by omega),(hb _).1,(hb _).2⟩
  simp [-Int.zero_emod,rM,jo hmx,hv,e1,e2,e3,p1,p2,p3,p4,p5,pw,h,hq,kl]
 ·refine⟨v % q,(((v % 2147483629+7919 * k * k+11) * 48271 % 2147483647) * 39373+7 * k+1) % 2147483629,?_,Int.emod_nonneg _ (by omega),(hb _).1,(hb _).2⟩
  simp [rM,jo hmx,hv,e1,e2,e3,p1,p2,p3,p4,p5,pw,h,hq,kl]
theorem uh{tg:MG}{p:MS}(I:bn->ac->Prop):∀ (xs:List D),(∀ d∈xs,∀ env S,I env S->∃ env1 S1 env2 S2,tg d env S=some (env1,S1)/\p env1 S1=some (.nx env2 S2)/\I env2 S2) ->
  ∀ env S,I env S->∃ env' S',cE tg p xs env S=some (.nx env' S')/\I env' S'
 | [],_,env,S,h=>⟨env,S,rfl,h⟩
 | d::xs,hs,env,S,h=>by
  obtain⟨env1,S1,env2,S2,e1,e2,h2⟩:=hs d List.mem_cons_self env S h
  obtain⟨env',S',e3,h3⟩:=uh I xs (fun d hd=>hs d (List.mem_cons_of_mem _ hd)) env2 S2 h2
  exact⟨env',S',by rw [gY,e1,ob,pY,e2,ob,oY,e3],h3⟩
theorem Cw{lo:Int}{n:Nat}{d:D}(h:d∈bT lo n):∃ i:Nat,i<n/\d=.int (lo+(i:Int)):=by
 obtain⟨i,hi⟩:=List.mem_iff_getElem?.mp h
 exact⟨i,sx lo n i d hi⟩
def nr:D->Bool
 | .ref _=>false
 | _=>true
end MI
namespace MI
open PySem PySem.Spec PyProof.Rows L2 M
abbrev PF:=List D->ac->Option (D×ac)
def qt(pick:PF):Prop:=∀ (S:ac) (r:Nat) (m:Int),Pk S r->0<m->m<1073741824->∃ q S',pick [.ref r,.int m] S=some (.int q,S')/\0<=q/\q<m/\Pk S' r/\(∀ j,j≠r->S'[j]?=S[j]?)/\S'.length=S.length
def yr(pick:PF):MS:=
 az (aG (au av (di (aa (mC (.str "rows")) (aa (mC (.str "readers")) (aa (mC (.str "writers")) (aa (mC (.str "turns")) (aa (mC (.str "passes")) (ag))))))) (ai 2 pick (aa (ab 0) (aa (mC (.int 5)) (ag))))) (ah 1)) (az (aG (au av (di (aa (mC (.int 0)) (aa (mC (.int 0)) (aa (mC (.int 1)) (aa (mC (.int 2)) (aa (mC (.int 3)) (aa (mC (.int 5)) (ag)))))))) (ai 2 pick (aa (ab 0) (aa (mC (.int 6)) (ag))))) (ah 2)) (az (aG (au cB (au av (di (aa (mC (.int 0)) (aa (mC (.int 1)) (aa (mC (.int 2)) (aa (mC (.int 9)) (ag)))))) (ai 2 pick (aa (ab 0) (aa (mC (.int 4)) (ag))))) (bi (aN kP) (aa (au bU (ab 1) (mC (.str "passes"))) (ag)))) (ah 3)) (aV (aS (aa (ab 1) (aa (ab 2) (aa (ab 3) (aa (ai 2 pick (aa (ab 0) (aa (mC (.int 2)) (ag)))) (ag)))))))))
theorem Po{q:Int}(h0:0<=q)(h1:q<6):∃ i:Int,lc [D.int 0,D.int 0,D.int 1,D.int 2,D.int 3,D.int 5] q=some (.int i)/\0<=i/\i<=5:=by
 obtain rfl | rfl | rfl | rfl | rfl | rfl:q=0\/q=1\/q=2\/q=3\/q=4\/q=5:=by omega
 all_goals exact⟨_,rfl,by decide,by decide⟩
theorem Ml{q:Int}(h0:0<=q)(h1:q<4):∃ i:Int,lc [D.int 0,D.int 1,D.int 2,D.int 9] q=some (.int i)/\0<=i/\i<=9:=by
 obtain rfl | rfl | rfl | rfl:q=0\/q=1\/q=2\/q=3:=by omega
 all_goals exact⟨_,rfl,by decide,by decide⟩
def dM:List D:=[.str "out",.str "out",.str "out",.str "reads",.str "reads",.str "rising",.str "writes",.str "raised"]
theorem Dn{tg:MG}{p:MS}{lo:Int}(I:Nat->bn->ac->Prop)(n:Nat)(step:∀ i,i<n->∀ env S,I i env S->∃ env1 S1 env2 S2,tg (.int (lo+(i:Int))) env S=some (env1,S1)/\p env1 S1=some (.nx env2 S2)/\I (i+1) env2 S2) :
  ∀ env S,I 0 env S->∃ env' S',cE tg p (bT lo n) env S=some (.nx env' S')/\I n env' S':=by
 have gen:∀ (m k:Nat),k+m=n->∀ env S,I k env S->∃ env' S',cE tg p ((List.range' k m).map fun(i:Nat)=>D.int (lo+(i:Int))) env S=some (.nx env' S')/\I n env' S':=by
  intro m
  induction m with
  | zero=>exact fun k hk env S h=>⟨env,S,rfl,by rw [<- hk];exact h⟩
  | succ m ih=>
   intro k hk env S h
   obtain⟨env1,S1,env2,S2,e1,e2,h2⟩:=step k (by omega) env S h
   obtain⟨env',S',e3,h3⟩:=ih (k+1) (by omega) env2 S2 h2
   refine⟨env',S',?_,h3⟩
   rw [List.range'_succ,List.map_cons,gY,e1,ob,pY,e2,ob,oY,e3]
 intro env S h
 have:=gen n 0 (by omega) env S h
 unfold bT
 rw [List.range_eq_range']
 exact this
def EntOk(n:Int)(xs:List D)(d:D):Prop:=∃ (g:Int) (w:Str) (m:Int) (t:D),d=.tup [.int g,.str w,.int m,t]/\0<=g/\g<n/\(w = "read"\/w = "write")/\0<=m/\m<=999/\(t=.non\/∃ k,t=.int k/\1<=k/\k<=9)/\lc xs g=some (.str "out")
theorem EntOk.up{n n':Int}{xs:List D}{d:D}(h:EntOk n xs d)(hn:n<=n'):EntOk n' xs d:=by
 obtain⟨g,w,m,t,e,h0,h1,r⟩:=h
 exact⟨g,w,m,t,e,h0,by omega,r⟩
theorem GU{α:Type}(xs:List α)(i:Int)(y:α):(jZ xs i y).Perm (y::xs):=by
 unfold jZ
 refine List.perm_middle.trans ?_
 rw [List.take_append_drop]
theorem KP{S:ac}{q:Nat}{xs:List D}(h:S[q]?=some (.lst xs)):aN fO [.ref q] S=some (.int xs.length,S):=by
 have e:gO S (.ref q)=some xs:=by simp only [gO,h]
 show ((gO S (.ref q)).bind _).bind _=_
 rw [e];rfl
theorem qe{S:ac}{g:List D->D}{q:Nat}{xs:List D}(h:S[q]?=some (.lst xs)):aN (cm g) [.ref q] S=some (g xs,S):=by
 have e:gO S (.ref q)=some xs:=by simp only [gO,h]
 show ((gO S (.ref q)).bind _).bind _=_
 rw [e];rfl
theorem sv(lo:Int)(n:Nat):(bT lo n).length=n:=by unfold bT;simp
end MI
namespace MI
open PySem PySem.Spec PyProof.Rows L2 M
def Dg(x:Str):Prop:=x = "rows"\/x = "readers"\/x = "writers"\/x = "turns"\/x = "passes"
theorem Pn{q:Int}(h0:0<=q)(h1:q<5):∃ x:Str,lc [D.str "rows",D.str "readers",D.str "writers",D.str "turns",D.str "passes"] q=some (.str x)/\Dg x:=by
 obtain rfl | rfl | rfl | rfl | rfl:q=0\/q=1\/q=2\/q=3\/q=4:=by omega
 ·exact⟨_,rfl,.inl rfl⟩
 ·exact⟨_,rfl,.inr (.inl rfl)⟩
 ·exact⟨_,rfl,.inr (.inr (.inl rfl))⟩
 ·exact⟨_,rfl,.inr (.inr (.inr (.inl rfl)))⟩
 ·exact⟨_,rfl,.inr (.inr (.inr (.inr rfl)))⟩
def Keep(r:Nat)(S S':ac):Prop:=(∀ j,j≠r->S'[j]?=S[j]?)/\S'.length=S.length
theorem Keep.trans{r:Nat}{S S' S'':ac}(h:Keep r S S')(h':Keep r S' S''):Keep r S S'':=⟨fun j z=>(h'.1 j z).trans (h.1 j z),h'.2.trans h.2⟩
theorem Keep.refl{r:Nat}{S:ac}:Keep r S S:=⟨fun _ _=>rfl,rfl⟩
structure Ub(x:Str)(a b c:Int):Prop where
 w:Dg x
 a0:0<=a
 a5:a<=5
 b0:0<=b
 b9:b<=9
 c0:0<=c
 c1:c<=1
theorem FY{pick:PF}(hp:qt pick){S:ac}{r:Nat}{N:List Str}(hN:N.length=4)(h:Pk S r):∃ x a b c S',aP N (yr pick) 1 [.ref r] S=some (.tup [.str x,.int a,.int b,.int c],S')/\Ub x a b c/\Pk S' r/\Keep r S S':=by
 have hst:aA N [D.ref r]=[some (.ref r),none,none,none]:=by simp [aA,hN,List.replicate]
 rw [bb (show [D.ref r].length=1 from rfl),hst]
 obtain⟨q1,S1,e1,l1,g1,P1,K1⟩:=hp _ _ 5 h (by decide) (by decide)
 obtain⟨q2,S2,e2,l2,g2,P2,K2⟩:=hp _ _ 6 P1 (by decide) (by decide)
 obtain⟨q3,S3,e3,l3,g3,P3,K3⟩:=hp _ _ 4 P2 (by decide) (by decide)
 obtain⟨q4,S4,e4,l4,g4,P4,K4⟩:=hp _ _ 2 P3 (by decide) (by decide)
 obtain⟨x,i1,wx⟩:=Pn l1 g1
 obtain⟨a,i2,a0,a5⟩:=Po l2 g2
 obtain⟨b,i3,b0,b9⟩:=Ml l3 g3
 have k1:∀ S,jG ([D.str "rows",D.str "readers",D.str "writers",D.str "turns",D.str "passes"],S)=some (.lst [D.str "rows",D.str "readers",D.str "writers",D.str "turns",D.str "passes"],S):=fun S=>cG (by simp)
 have k2:∀ S,jG ([D.int 0,D.int 0,D.int 1,D.int 2,D.int 3,D.int 5],S)=some (.lst [D.int 0,D.int 0,D.int 1,D.int 2,D.int 3,D.int 5],S):=fun S=>cG (by simp)
 have k3:∀ S,jG ([D.int 0,D.int 1,D.int 2,D.int 9],S)=some (.lst [D.int 0,D.int 1,D.int 2,D.int 9],S):=fun S=>cG (by simp)
 have k4:∀ S (a b c d:D),cn ([a,b,c,d],S)=some (.tup [a,b,c,d],S):=fun S a b c d=>aU (by simp)
 have m1:∀ S (z:Bool),cB S (.int b) (.int (if z=true then 1 else 0))=some (.int (b * (if z=true then 1 else 0))):=fun S z=>jn (pO (by omega) (by omega))
 refine⟨x,a,b * (if (x == ("passes":Str))=true then 1 else 0),q4,S4,?_,⟨wx,a0,a5,by split <;> omega,by split <;> omega,l4,by omega⟩,P4,Keep.trans K1 (Keep.trans K2 (Keep.trans K3 K4))⟩
 simp [-beq_iff_eq,yr,k1,k2,k3,k4,e1,e2,e3,e4,i1,i2,i3,m1]
def lz(F:PF):MS:=
 az (bG (cS (dQ "dict" (ab 1))) (az (bG (fH (du (cS (dQ "dict" (ab 0)))) (aw (au ij (bi (aN fO) (aa (ab 0) (ag))) (bi (aN fO) (aa (ab 1) (ag)))))) (aV (mC (.bl false))) (aY)) (az (aG (iz) (ah 2)) (aV (bi (aN yJ) (aa (bJ (da (ab 1)) (ah 0) (bX) (dB (au oo (ab 0) (ab 2)) (dB (ai 2 F (aa (au av (ab 3) (ab 0)) (aa (ab 0) (ag)))) (ai 2 F (aa (au av (ab 2) (ab 0)) (aa (au av (ab 1) (ab 0)) (ag)))))) [none,some 1,some 0,some 2]) (ag)))))) (aY)) (az (bG (fH (cS (dQ "list" (ab 1))) (cS (dQ "tuple" (ab 1)))) (az (bG (fH (aw (au ij (dQ "list" (ab 0)) (dQ "list" (ab 1)))) (aw (au ij (dQ "tuple" (ab 0)) (dQ "tuple" (ab 1))))) (aV (mC (.bl false))) (aY)) (aV (dB (au bU (bi (aN fO) (aa (ab 0) (ag))) (bi (aN fO) (aa (ab 1) (ag)))) (bi (aN yJ) (aa (bJ (nV (aa (ab 0) (aa (ab 1) (ag)))) (aZ 2 (af (ah 0) (af (ah 1) (aM)))) (bX) (ai 2 F (aa (ab 0) (aa (ab 1) (ag)))) [none,none]) (ag)))))) (aY)) (az (bG (aw (au ut (ab 1) (mC .non))) (aV (au ut (ab 0) (mC .non))) (aY)) (az (bG (cS (dQ "str" (ab 1))) (aV (dB (dQ "str" (ab 0)) (au bU (ab 0) (ab 1)))) (aY)) (az (bG (fH (cS (dQ "bool" (ab 1))) (cS (dQ "bool" (ab 0)))) (aV (dB (dQ "bool" (ab 0)) (dB (dQ "bool" (ab 1)) (au bU (ab 0) (ab 1))))) (aY)) (aV (dB (dQ "int" (ab 0)) (au bU (ab 0) (ab 1))))))))
def cP:Nat->D->Bool
 | 0,_=>false
 | _+1,.non=>true
 | _+1,.bl _=>true
 | _+1,.int _=>true
 | _+1,.str _=>true
 | j+1,.tup xs=>decide (xs.length<=1000)&&xs.all (cP j)
 | _+1,_=>false
theorem SL{S:ac}{d:D}{j:Nat}(h:cP j d=true):kO "dict" S d=some (.bl false)/\kO "list" S d=some (.bl false):=by
 cases j with
 | zero=>cases h
 | succ j=>cases d <;> first | exact⟨rfl,rfl⟩ | (exfalso;simp [cP] at h)
theorem nC:∀ xs:List D,(jS xs xs).length=xs.length
 | []=>rfl
 | x::r=>by rw [Ik,List.length_cons,List.length_cons,nC r]
theorem pF:∀ n:Nat,lI (List.replicate n (D.bl true))=some (List.replicate n true)
 | 0=>rfl
 | n+1=>by
  rw [List.replicate_succ,List.replicate_succ]
  have:=pF n
  simp only [lI,this];rfl
theorem SG{S:ac}{k l:Bool}:ij S (.bl k) (.bl l)=some (.bl (!(k == l))):=ur (by simp [cK]) (by simp [cK])
theorem IV{F:PF}{S:ac}{t1 t2:Option D}:∀ (xs:List D) (a b:Option D),(∀ d∈xs,F [d,d] S=some (.bl true,S))->dk (aZ 2 (af (ah 0) (af (ah 1) (aM)))) (bX) (ai 2 F (aa (ab 0) (aa (ab 1) (ag)))) (jS xs xs) [a,b] S=some (List.replicate xs.length (.bl true),S)
 | [],a,b,_=>by simp
 | x::r,a,b,h=>by
  have h1:=h x (by simp)
  have h2:=IV (t1:=t1) (t2:=t2) r (some x) (some x) fun d hd=>h d (List.mem_cons_of_mem _ hd)
  rw [Ik,gc]
  simp [h1,h2,List.replicate_succ]
theorem zI{R:Nat->PF}{N:List Str}(hN:N.length=3)(hR:∀ j,R (j+1)=aP N (lz (R j)) 2){S:ac}:∀ (j:Nat) (d:D),cP j d=true->R j [d,d] S=some (.bl true,S)
 | 0,d,h=>by cases d <;> cases h
 | j+1,d,h=>by
  have hst:aA N [d,d]=[some d,some d,none]:=by simp [aA,hN,List.replicate]
  rw [hR,bb (show [d,d].length=2 from rfl),hst]
  obtain⟨i1,i2⟩:=SL (S:=S) h
  cases d with
  | tup xs=>
   have hx:xs.length<=1000/\xs.all (cP j)=true:=by simpa [cP] using h
   have it:kO "tuple" S (.tup xs)=some (.bl true):=rfl
   have hl:=IV (F:=R j) (S:=S) (t1:=none) (t2:=none) xs none none fun d hd=>zI hN hR j d (List.all_eq_true.mp hx.2 d hd)
   have kc:mB (aZ 2 (af (ah 0) (af (ah 1) (aM)))) (bX) (ai 2 (R j) (aa (ab 0) (aa (ab 1) (ag)))) [none,none] [some (.tup xs),some (.tup xs),none] (jS xs xs,S)=some (.lst (List.replicate xs.length (.bl true)),S):=by
    rw [jf (by rw [nC];exact hx.1)]
    show (dk _ _ _ (jS xs xs) [none,none] S).bind _=_
    rw [hl];rfl
   have fa:aN yJ [.lst (List.replicate xs.length (D.bl true))] S=some (.bl true,S):=by
    rw [KY (pF _)];simp
   simp [lz,i1,i2,it,SG,kc,fa]
  | non=>simp [lz,i1,i2,show kO "tuple" S .non=some (.bl false) from rfl,lB]
  | bl k=>simp [lz,i1,i2,show kO "tuple" S (.bl k)=some (.bl false) from rfl,show kO "str" S (.bl k)=some (.bl false) from rfl,show kO "bool" S (.bl k)=some (.bl true) from rfl,lB]
  | int i=>simp [lz,i1,i2,show kO "tuple" S (.int i)=some (.bl false) from rfl,show kO "str" S (.int i)=some (.bl false) from rfl,show kO "bool" S (.int i)=some (.bl false) from rfl,show kO "int" S (.int i)=some (.bl true) from rfl,lB]
  | str x=>simp [lz,i1,i2,show kO "tuple" S (.str x)=some (.bl false) from rfl,show kO "str" S (.str x)=some (.bl true) from rfl,lB]
  | lst _=>simp [cP] at h
  | rol _=>simp [cP] at h
  | dct _ _=>simp [cP] at h
  | ref _=>simp [cP] at h
theorem jQ{S:ac}{c:uO}:(S++[c])[S.length]?=some c:=by simp
theorem FB{S:ac}{c d:uO}:(S++[c]).set S.length d=S++[d]:=by
 rw [List.set_append,if_neg (Nat.lt_irrefl _)];simp
end MI
namespace MI
open PySem PySem.Spec PyProof.Rows L2 M
inductive Wd where | out | reads | rising | writes | raised
deriving DecidableEq
def Wd.s:Wd->Str
 | .out=>"out"
 | .reads=>"reads"
 | .rising=>"rising"
 | .writes=>"writes"
 | .raised=>"raised"
theorem Wd.eq(a b:Wd):(a.s == b.s)=decide (a=b):=by cases a <;> cases b <;> decide +kernel
structure En where
 g:Nat
 wr:Bool
 m:Int
 t:Option Int
def bp(b:Bool):Str:=if b then "write" else "read"
theorem ow(b:Bool):(bp b == ("write":Str))=b:=by cases b <;> decide +kernel
theorem rB(b:Bool):(bp b == ("read":Str)) = !b:=by cases b <;> decide +kernel
def bv:Option Int->D
 | none=>.non
 | some k=>.int k
def En.d(e:En):D:=.tup [.int (e.g:Nat),.str (bp e.wr),.int e.m,bv e.t]
abbrev Rm:=List Wd×List En
def Wd.d(w:Wd):D:=.str w.s
def cq(ws:List Wd):D:=.tup (ws.map Wd.d)
def ce(es:List En):D:=.tup (es.map En.d)
def aQ(R:Rm):D:=.tup [cq R.1,ce R.2]
inductive Rw where | rows | readers | writers | turns | passes
deriving DecidableEq
def Rw.s:Rw->Str
 | .rows=>"rows"
 | .readers=>"readers"
 | .writers=>"writers"
 | .turns=>"turns"
 | .passes=>"passes"
theorem Rw.eq(a b:Rw):(a.s == b.s)=decide (a=b):=by cases a <;> cases b <;> decide +kernel
structure Rl where
 w:Rw
 a:Int
 b:Int
 c:Int
def Rl.d(r:Rl):D:=.tup [.str r.w.s,.int r.a,.int r.b,.int r.c]
structure Rl.Ok(r:Rl):Prop where
 a0:0<=r.a
 a5:r.a<=5
 b0:0<=r.b
 b9:r.b<=9
 c0:0<=r.c
 c1:r.c<=1
theorem GS{x:Str}(h:Dg x):∃ w:Rw,x=w.s:=by
 rcases h with rfl | rfl | rfl | rfl | rfl
 ·exact⟨.rows,rfl⟩
 ·exact⟨.readers,rfl⟩
 ·exact⟨.writers,rfl⟩
 ·exact⟨.turns,rfl⟩
 ·exact⟨.passes,rfl⟩
section
variable{α:Type}{enc:α->D}{p:α->Bool}{f:α->D}{t:MT}{e:ME}{rest:bn}{S:ac}
theorem Ql:∀ (xs:List α) (a:Option D),(∀ x∈xs,t (some (enc x)::rest) S=some (p x,S))->(∀ x∈xs,p x=true->e (some (enc x)::rest) S=some (f x,S))->dk (ah 0) t e (xs.map enc) (a::rest) S=some ((xs.filter p).map f,S)
 | [],a,_,_=>by simp
 | x::r,a,h,h2=>by
  have ih:=Ql r (some (enc x)) (fun y hy=>h y (List.mem_cons_of_mem _ hy)) fun y hy=>h2 y (List.mem_cons_of_mem _ hy)
  rw [List.map_cons,gc,aJ,ob,dY,tS,h x (by simp),ob]
  cases hp:p x with
  | true=>rw [tR,h2 x (by simp) hp,ob,tQ,ih,ob,tP,List.filter_cons_of_pos hp,List.map_cons]
  | false=>rw [Df,ih,List.filter_cons_of_neg (by simp [hp])]
theorem eY{cap:List (Option Nat)}{env:bn}{a:Option D}{xs:List α}(hc:uD cap env=a::rest)(hl:xs.length<=1000)(h:∀ x∈xs,t (some (enc x)::rest) S=some (p x,S))(h2:∀ x∈xs,p x=true->e (some (enc x)::rest) S=some (f x,S)) :
  mB (ah 0) t e cap env (xs.map enc,S)=some (.lst ((xs.filter p).map f),S):=by
 rw [jf (by rw [List.length_map];exact hl),hc,Ql xs a h h2,ob,kI]
theorem Qk:∀ (xs:List α) (k:Nat) (a b:Option D),(∀ i x,xs[i]?=some x->t (some (.int ((k+i:Nat):Int))::some (enc x)::rest) S=some (p x,S))->dk (aZ 2 (af (ah 0) (af (ah 1) (aM)))) t (ab 0) (ft k (xs.map enc)) (a::b::rest) S=some (((xs.zipIdx k).filter fun q=>p q.1).map fun q=>.int (q.2:Int),S)
 | [],k,a,b,_=>by simp [ft]
 | x::r,k,a,b,h=>by
  have ih:=Qk r (k+1) (some (.int (k:Int))) (some (enc x)) (fun i y hy=>by
   have:=h (i+1) y (by simpa using hy)
   rw [show k+(i+1)=k+1+i by omega] at this
   exact this)
  have h0:=h 0 x rfl
  rw [Nat.add_zero] at h0
  rw [List.map_cons,ft,gc,cx,bC,aJ,ob,dY,cU,bC,aJ,ob,eR,dY,cU,bW,ob,tS,h0,ob,List.zipIdx_cons]
  cases hp:p x with
  | true=>
   rw [tR,aj,bH,oj,ob,ak,ob,tQ,ih,ob,tP,List.filter_cons_of_pos (p:=fun q:α×Nat=>p q.1) (a:=(x,k)) hp,List.map_cons]
  | false=>rw [Df,ih,List.filter_cons_of_neg (p:=fun q:α×Nat=>p q.1) (a:=(x,k)) (by simp [hp])]
theorem yw{cap:List (Option Nat)}{env:bn}{a b:Option D}{xs:List α}(hc:uD cap env=a::b::rest)(hl:xs.length<=1000)(h:∀ (i:Nat) x,xs[i]?=some x->t (some (.int (i:Int))::some (enc x)::rest) S=some (p x,S)) :
  mB (aZ 2 (af (ah 0) (af (ah 1) (aM)))) t (ab 0) cap env (ft 0 (xs.map enc),S)=some (.lst ((xs.zipIdx.filter fun q=>p q.1).map fun q=>.int (q.2:Int)),S):=by
 rw [jf (by rw [nh,List.length_map];exact hl),hc,Qk xs 0 a b (fun i x hx=>by rw [Nat.zero_add];exact h i x hx),ob,kI]
end
theorem Mm{α:Type}{xs:List α}{i:Nat}{x:α}(h:xs[i]?=some x):lc xs (i:Int)=some x:=by
 have hl:=(List.getElem?_eq_some_iff.mp h).1
 rw [Mn (by omega) (by omega)]
 rw [List.getElem?_eq_some_iff] at h
 obtain⟨_,h⟩:=h
 simpa using h
theorem at4(x a b c:D):lc [x,a,b,c] 0=some x/\lc [x,a,b,c] 1=some a/\lc [x,a,b,c] 2=some b/\lc [x,a,b,c] 3=some c:=⟨rfl,rfl,rfl,rfl⟩
theorem at2(x a:D):lc [x,a] 0=some x/\lc [x,a] 1=some a:=⟨rfl,rfl⟩
section
variable{S:ac}{e:En}{r:Rl}{R:Rm}
theorem En.ix0:av S e.d (.int 0)=some (.int (e.g:Nat)):=rfl
theorem En.ix1:av S e.d (.int 1)=some (.str (bp e.wr)):=rfl
theorem En.ix2:av S e.d (.int 2)=some (.int e.m):=rfl
theorem En.ix3:av S e.d (.int 3)=some (bv e.t):=rfl
theorem Rl.ix0:av S r.d (.int 0)=some (.str r.w.s):=rfl
theorem Rl.ix1:av S r.d (.int 1)=some (.int r.a):=rfl
theorem Rl.ix2:av S r.d (.int 2)=some (.int r.b):=rfl
theorem Rl.ix3:av S r.d (.int 3)=some (.int r.c):=rfl
theorem Rm.ix0:av S (aQ R) (.int 0)=some (cq R.1):=rfl
theorem Rm.ix1:av S (aQ R) (.int 1)=some (ce R.2):=rfl
theorem rT{ws:List Wd}{i:Nat}{w:Wd}(h:ws[i]?=some w):av S (cq ws) (.int (i:Int))=some w.d:=by
 show lc (ws.map Wd.d) (i:Int)=_
 exact Mm (by rw [List.getElem?_map,h];rfl)
theorem Lq{es:List En}{i:Nat}{e:En}(h:es[i]?=some e):av S (ce es) (.int (i:Int))=some e.d:=by
 show lc (es.map En.d) (i:Int)=_
 exact Mm (by rw [List.getElem?_map,h];rfl)
end
theorem IW{n d i:Nat}:HT.eO n d (some (i:Int))=min i n:=by
 show (if (i:Int)<0 then ((i:Int)+(n:Int)).toNat else min (i:Int).toNat n)=_
 rw [if_neg (by omega),Int.toNat_natCast]
theorem IY{n d:Nat}:HT.eO n d none=d:=rfl
theorem HH{α:Type}(xs:List α)(i:Nat)(h:i<=xs.length):iB xs none (some (i:Int))=xs.take i:=by
 unfold iB
 rw [IW,IY,Nat.min_eq_left h];simp
theorem nj{α:Type}(xs:List α)(i:Nat)(h:i<=xs.length):iB xs (some (i:Int)) none=xs.drop i:=by
 unfold iB
 rw [IW,IY,Nat.min_eq_left h,List.take_of_length_le (by simp)]
def CU:MS:=aV (au aO (au aO (bE (ab 0) (bF) (ca (ab 1))) (aS (aa (ab 2) (ag)))) (bE (ab 0) (ca (au aO (ab 1) (mC (.int 1)))) (bF)))
theorem IQ{α:Type}(xs:List α)(i:Nat)(h:i<xs.length)(x:α):xs.take i++[x]++xs.drop (i+1)=xs.set i x:=by
 rw [List.set_eq_take_append_cons_drop,if_pos h];simp
theorem Na{N:List Str}(hN:N.length=3){S:ac}{ws:List Wd}{i:Nat}{w:Wd}(h:i<ws.length)(hl:ws.length<=100):aP N CU 3 [cq ws,.int (i:Int),w.d] S=some (cq (ws.set i w),S):=by
 have hst:aA N [cq ws,D.int (i:Int),w.d]=[some (cq ws),some (.int (i:Int)),some w.d]:=by simp [aA,hN]
 rw [bb (show [cq ws,D.int (i:Int),w.d].length=3 from rfl),hst]
 have k1:cn ([w.d],S)=some (.tup [w.d],S):=aU (by simp)
 have c1:iB (ws.map Wd.d) none (some (i:Int))=(ws.take i).map Wd.d:=by rw [HH _ _ (by rw [List.length_map];omega),List.map_take]
 have c2:iB (ws.map Wd.d) (some ((i:Int)+1)) none=(ws.drop (i+1)).map Wd.d:=by
  rw [show ((i:Int)+1)=((i+1:Nat):Int) by omega,nj _ _ (by rw [List.length_map];omega),List.map_drop]
 have a1:aO S (.tup ((ws.take i).map Wd.d)) (.tup [w.d])=some (.tup ((ws.take i).map Wd.d++[w.d])):=gE (by simp;omega)
 have a2:aO S (.tup ((ws.take i).map Wd.d++[w.d])) (.tup ((ws.drop (i+1)).map Wd.d))=some (.tup ((ws.take i).map Wd.d++[w.d]++(ws.drop (i+1)).map Wd.d)):=gE (by simp;omega)
 have e:(ws.take i).map Wd.d++[w.d]++(ws.drop (i+1)).map Wd.d=(ws.set i w).map Wd.d:=by
  rw [<- IQ ws i h w];simp
 rw [e] at a2
 simp only [CU,cq,aX,aE,cJ,aj,bH,bL,bM,oj,ob,ak,fM,cR,fL,dA,dC,mx,c1,aq,be,ao,am,ax,al,k1,ar,a1,bd,js,c2,a2,bq,aH]
end MI
namespace MI
open PySem PySem.Spec PyProof.Rows L2 M
section
variable{S:ac}{ws:List Wd}{es:List En}{ms:MA}{env:bn}
theorem SS(a b:Wd):jD a.d b.d=decide (a=b):=Wd.eq a b
theorem RB{n:Nat}:((ws.map Wd.d).all (cK n))=true:=by
 rw [List.all_eq_true];intro d hd;obtain⟨w,_,rfl⟩:=List.mem_map.mp hd;cases n <;> rfl
theorem wZ(w:Wd):fE (cq ws) [w.d] S=some (.int (ws.count w:Nat),S):=by
 have h:=Hh (S:=S) (x:=w.d) (xs:=ws.map Wd.d) rfl RB
 rw [show cq ws=.tup (ws.map Wd.d) from rfl,h]
 congr 4
 rw [List.countP_map]
 apply List.countP_congr
 intro a _
 simp [SS]
theorem ou:NY ms env (cq ws,S)=(ms env S).bind (dR fE (cq ws)):=rfl
theorem wY:aN fO [cq ws] S=some (.int (ws.length:Nat),S):=by
 rw [show cq ws=.tup (ws.map Wd.d) from rfl,Dq,List.length_map]
theorem Lp:aN fO [ce es] S=some (.int (es.length:Nat),S):=by
 rw [show ce es=.tup (es.map En.d) from rfl,Dq,List.length_map]
end
def pV(r:Rl)(ws:List Wd)(wr:Bool):Bool:=
 if ws.count .reads+ws.count .rising+ws.count .out<ws.length then false
 else if wr then decide (ws.count .reads+ws.count .rising=0)
 else decide (ws.count .rising=0)&&(decide (r.a=0)||decide (((ws.count .reads+ws.count .rising:Nat):Int)<r.a))
def yt:MS:=
 az (aG (au aO (kD (ab 1) (aa (mC (.str "reads")) (ag))) (kD (ab 1) (aa (mC (.str "rising")) (ag)))) (ah 3)) (az (bG (aw (au Ov (au aO (ab 3) (kD (ab 1) (aa (mC (.str "out")) (ag)))) (bi (aN fO) (aa (ab 1) (ag))))) (aV (mC (.bl false))) (aY)) (az (bG (aw (au bU (ab 2) (mC (.str "write")))) (aV (au bU (ab 3) (mC (.int 0)))) (aY)) (aV (dB (au bU (kD (ab 1) (aa (mC (.str "rising")) (ag))) (mC (.int 0))) (we (au bU (au av (ab 0) (mC (.int 1))) (mC (.int 0))) (au Ov (ab 3) (au av (ab 0) (mC (.int 1)))))))))
theorem Kd{N:List Str}(hN:N.length=4){S:ac}{r:Rl}{ws:List Wd}{wr:Bool}:aP N yt 3 [r.d,cq ws,.str (bp wr)] S=some (.bl (pV r ws wr),S):=by
 have hst:aA N [r.d,cq ws,D.str (bp wr)]=[some r.d,some (cq ws),some (.str (bp wr)),none]:=by simp [aA,hN,List.replicate]
 rw [bb (show [r.d,cq ws,D.str (bp wr)].length=3 from rfl),hst]
 have c1:∀ S,fE (cq ws) [.str "reads"] S=some (.int (ws.count .reads:Nat),S):=fun S=>wZ .reads
 have c2:∀ S,fE (cq ws) [.str "rising"] S=some (.int (ws.count .rising:Nat),S):=fun S=>wZ .rising
 have c3:∀ S,fE (cq ws) [.str "out"] S=some (.int (ws.count .out:Nat),S):=fun S=>wZ .out
 unfold pV
 simp only [yt,aK,bf,aE,Kb,aj,bH,bM,bL,oj,ob,ak,ou,ao,bd,am,ax,al,fh,c1,c2,c3,aq,ar,js,bg,aJ,dY,eR,bD,aD,bj,aF,bR,bS,wY,fLt_i,aC]
 by_cases h1:ws.count .reads+ws.count .rising+ws.count .out<ws.length
 ·have:decide (((ws.count Wd.reads:Nat):Int)+((ws.count Wd.rising:Nat):Int)+((ws.count Wd.out:Nat):Int)<((ws.length:Nat):Int))=true:=decide_eq_true (by omega)
  rw [this,if_pos h1];simp
 ·have:decide (((ws.count Wd.reads:Nat):Int)+((ws.count Wd.rising:Nat):Int)+((ws.count Wd.out:Nat):Int)<((ws.length:Nat):Int))=false:=decide_eq_false (by omega)
  rw [this,if_neg h1]
  cases wr with
  | true=>
   have e:(bp true == ("write":Str))=true:=ow true
   have e2:(((ws.count Wd.reads:Nat):Int)+((ws.count Wd.rising:Nat):Int) == 0)=decide (ws.count Wd.reads+ws.count Wd.rising=0):=by
    rw [Bool.eq_iff_iff];simp;omega
   simp [e,e2]
  | false=>
   have e:(bp false == ("write":Str))=false:=ow false
   have e2:(((ws.count Wd.rising:Nat):Int) == 0)=decide (ws.count Wd.rising=0):=by rw [Bool.eq_iff_iff];simp
   have e3:(r.a == 0)=decide (r.a=0):=rfl
   by_cases h2:ws.count Wd.rising=0
   ·by_cases h3:r.a=0
    ·simp [e,e2,Rl.ix1,h2,h3,ou,c2]
    ·simp [e,e2,Rl.ix1,h2,h3,ou,c2,beq_eq_false_iff_ne.mpr h3]
   ·simp [e,e2,Rl.ix1,h2,ou,c2]
theorem mf{α:Type}(xs:List α)(i:Nat):iB xs none (some (i:Int))=xs.take i:=by
 unfold iB
 rw [IW,IY];simp only [List.drop_zero,Nat.sub_zero]
 rcases Nat.le_total i xs.length with h | h
 ·rw [Nat.min_eq_left h]
 ·rw [Nat.min_eq_right h,List.take_of_length_le (Nat.le_refl _),List.take_of_length_le h]
def ni(i:Nat):D:=.int (i:Int)
def nl(l:List Nat):D:=.lst (l.map ni)
def NA(a b:List Nat):List Nat:=if a=[] then b else a
def zj(p:En->Bool)(es:List En):List Nat:=(es.zipIdx.filter fun q=>p q.1).map (·.2)
theorem oe{p:En->Bool}{es:List En}{i:Nat}(h:i∈zj p es):i<es.length:=by
 unfold zj at h
 obtain⟨q,hq,rfl⟩:=List.mem_map.mp h
 have:=(List.mem_filter.mp hq).1
 have:=List.snd_lt_of_mem_zipIdx this
 omega
theorem GQ{es:List En}:zj (fun _=>false) es=[]:=by unfold zj;simp
theorem JG{p:En->Bool}{es:List En}:D.lst ((es.zipIdx.filter fun q=>p q.1).map fun q=>.int (q.2:Int))=nl (zj p es):=by
 unfold nl zj ni;rw [List.map_map];rfl
theorem Sb{b:ME}{env:bn}{S:ac}{l:List Nat}:PN b env (nl l,S)=if l=[] then b env S else some (nl l,S):=by
 cases l with
 | nil=>rfl
 | cons _ _=>rw [if_neg (by simp)];exact kOr_c
theorem RV{S:ac}{l:List Nat}{n:Nat}:jF (nl l) none (some (n:Int),S)=some (nl (l.take n),S):=by
 unfold nl;rw [RW,mf,List.map_take]
theorem sO(n:Nat):D.lst (bT 0 n)=nl (List.range n):=by
 unfold bT nl ni;congr 1;apply List.map_congr_left;intro i _;rw [Int.zero_add]
theorem NW{S:ac}{l:List Nat}:Db (nl l,S)=some (l.map ni,S):=rfl
def Be(r:Rl)(es:List En):List Nat:=match r.w with
 | .rows=>(List.range es.length).take 1
 | .readers=>(NA (zj (fun e=>!e.wr) es) (zj (fun e=>e.wr) es)).take 1
 | .passes=>(List.range es.length).filter fun i=>decide (jU (0::(es.take i).map fun e=>e.m+1)<=r.b)
 | .turns=>(NA (zj (fun e=>decide (e.m=1)) es) (NA (zj (fun e=>e.wr) es) (zj (fun e=>!e.wr) es))).take 1
 | .writers=>(NA (zj (fun e=>e.wr) es) (zj (fun e=>!e.wr) es)).take 1
theorem qb{r:Rl}{es:List En}{i:Nat}(h:i∈Be r es):i<es.length:=by
 have ho:∀ {a b:List Nat},i∈NA a b->i∈a\/i∈b:=fun {a b} h=>by unfold NA at h;split at h <;> simp [h]
 unfold Be at h
 split at h
 ·exact List.mem_range.mp (List.mem_of_mem_take h)
 ·exact(ho (List.mem_of_mem_take h)).elim oe oe
 ·exact List.mem_range.mp (List.mem_filter.mp h).1
 ·exact(ho (List.mem_of_mem_take h)).elim oe fun h=>(ho h).elim oe oe
 ·exact(ho (List.mem_of_mem_take h)).elim oe oe
def frR:ME:=bJ (gu (aa (ab 1) (ag))) (aZ 2 (af (ah 0) (af (ah 1) (aM)))) (aw (au bU (au av (ab 1) (mC (.int 1))) (mC (.str "read")))) (ab 0) [none,none]
def frW:ME:=bJ (gu (aa (ab 1) (ag))) (aZ 2 (af (ah 0) (af (ah 1) (aM)))) (aw (au bU (au av (ab 1) (mC (.int 1))) (mC (.str "write")))) (ab 0) [none,none]
def frT:ME:=bJ (gu (aa (ab 1) (ag))) (aZ 2 (af (ah 0) (af (ah 1) (aM)))) (cT (aw (au bU (au av (ab 2) (mC (.int 0))) (mC (.str "turns")))) (aw (au bU (au av (ab 1) (mC (.int 2))) (mC (.int 1))))) (ab 0) [none,none,some 0]
def KC:ME:=bJ (da (bE (ab 2) (bF) (ca (ab 0)))) (ah 0) (bX) (au aO (au av (ab 0) (mC (.int 2))) (mC (.int 1))) [none]
def frP:ME:=bJ (bO (aa (bi (aN fO) (aa (ab 1) (ag))) (ag))) (ah 0) (aw (au Ow (bi (aN lO) (aa (au aO (di (aa (mC (.int 0)) (ag))) KC) (ag))) (au av (ab 1) (mC (.int 2))))) (ab 0) [none,some 0,some 1]
def pW:MS:=
 az (aG frR (ah 2)) (az (aG frW (ah 3)) (az (bG (aw (au bU (au av (ab 0) (mC (.int 0))) (mC (.str "rows")))) (aV (bE (fJ (aa (bi (aN fO) (aa (ab 1) (ag))) (ag))) (bF) (ca (mC (.int 1))))) (aY)) (az (bG (aw (au bU (au av (ab 0) (mC (.int 0))) (mC (.str "readers")))) (aV (bE (we (ab 2) (ab 3)) (bF) (ca (mC (.int 1))))) (aY)) (az (bG (aw (au bU (au av (ab 0) (mC (.int 0))) (mC (.str "passes")))) (aV frP) (aY)) (az (aG frT (ah 4)) (aV (bE (we (ab 4) (we (ab 3) (ab 2))) (bF) (ca (mC (.int 1))))))))))
section
variable{S:ac}{r:Rl}{es:List En}
theorem yN{ms:MA}{env:bn}:EZ ([ce es],S)=some (ft 0 (es.map En.d),S):=rfl
theorem Sx{a c d e:Option D}(hl:es.length<=100):frR [a,some (ce es),c,d,e] S=some (nl (zj (fun e=>!e.wr) es),S):=by
 have k:=yw (S:=S) (t:=aw (au bU (au av (ab 1) (mC (.int 1))) (mC (.str "read")))) (cap:=[none,none]) (env:=[a,some (ce es),c,d,e]) (enc:=En.d) (p:=fun e=>!e.wr) (xs:=es) rfl (by omega) (fun i x _=>by simp [En.ix1,-beq_iff_eq,rB])
 rw [JG (p:=fun e=>!e.wr)] at k
 simp only [frR,bV,oS,ao,aj,bH,bM,bL,oj,ob,ak,am,ax,al,yN (ms:=ag) (env:=[]),k]
theorem Sv{a c d e:Option D}(hl:es.length<=100):frW [a,some (ce es),c,d,e] S=some (nl (zj (fun e=>e.wr) es),S):=by
 have k:=yw (S:=S) (t:=aw (au bU (au av (ab 1) (mC (.int 1))) (mC (.str "write")))) (cap:=[none,none]) (env:=[a,some (ce es),c,d,e]) (enc:=En.d) (p:=fun e=>e.wr) (xs:=es) rfl (by omega) (fun i x _=>by simp [En.ix1,-beq_iff_eq,ow])
 rw [JG] at k
 simp only [frW,bV,oS,ao,aj,bH,bM,bL,oj,ob,ak,am,ax,al,yN (ms:=ag) (env:=[]),k]
theorem Sw{c d e:Option D}(hl:es.length<=100):frT [some r.d,some (ce es),c,d,e] S=some (nl (zj (fun e=>decide (r.w=.turns)&&decide (e.m=1)) es),S):=by
 have hw:(r.w.s == ("turns":Str))=decide (r.w=.turns):=Rw.eq r.w .turns
 have k:=yw (S:=S) (t:=cT (aw (au bU (au av (ab 2) (mC (.int 0))) (mC (.str "turns")))) (aw (au bU (au av (ab 1) (mC (.int 2))) (mC (.int 1))))) (cap:=[none,none,some 0]) (env:=[some r.d,some (ce es),c,d,e]) (enc:=En.d) (p:=fun e=>decide (r.w=.turns)&&decide (e.m=1)) (xs:=es) rfl (by omega) (fun i x _=>by
  cases h:decide (r.w=.turns) with
  | true=>simp [En.ix2,Rl.ix0,-beq_iff_eq,hw,h];rfl
  | false=>simp [En.ix2,Rl.ix0,-beq_iff_eq,hw,h])
 rw [JG (p:=fun e=>decide (r.w=.turns)&&decide (e.m=1))] at k
 simp only [frT,bV,oS,ao,aj,bH,bM,bL,oj,ob,ak,am,ax,al,yN (ms:=ag) (env:=[]),k]
theorem Oi{i:Nat}{b:Option D}(hl:es.length<=60):KC [some (.int (i:Int)),b,some (ce es)] S=some (.lst (((es.take i).map fun e=>e.m+1).map .int),S):=by
 have k:=eY (S:=S) (t:=bX) (e:=au aO (au av (ab 0) (mC (.int 2))) (mC (.int 1))) (cap:=[none]) (env:=[some (.int (i:Int)),b,some (ce es)]) (rest:=[]) (a:=none) (enc:=En.d) (p:=fun _=>true) (f:=fun e=>.int (e.m+1)) (xs:=es.take i) rfl (by simp;omega) (fun x _=>jK) (fun x _ _=>by simp [En.ix2])
 have e:jF (ce es) none (some (i:Int),S)=some (.tup ((es.take i).map En.d),S):=by
  rw [show ce es=.tup (es.map En.d) from rfl,mx,mf,List.map_take]
 rw [List.filter_eq_self.mpr (fun _ _=>rfl)] at k
 simp only [KC,bV,dj,cJ,aj,bH,bM,bL,oj,ob,ak,fM,cR,fL,dA,dC,e,Km,k,List.map_map]
 rfl
theorem Sy{c d e:Option D}(hl:es.length<=60):frP [some r.d,some (ce es),c,d,e] S=some (nl ((List.range es.length).filter fun i=>decide (jU (0::(es.take i).map fun e=>e.m+1)<=r.b)),S):=by
 have k:=eY (S:=S) (t:=(aw (au Ow (bi (aN lO) (aa (au aO (di (aa (mC (.int 0)) (ag))) KC) (ag))) (au av (ab 1) (mC (.int 2)))))) (e:=ab 0) (cap:=[none,some 0,some 1]) (env:=[some r.d,some (ce es),c,d,e]) (rest:=[some r.d,some (ce es)]) (a:=none) (enc:=ni) (p:=fun i=>decide (jU (0::(es.take i).map fun e=>e.m+1)<=r.b)) (f:=ni) (xs:=List.range es.length) rfl (by simp;omega) (fun i _=>by
  have h0:KC [some (ni i),some r.d,some (ce es)] S=some (.lst (((es.take i).map fun e=>e.m+1).map .int),S):=Oi hl
  have h1:jG ([.int 0],S)=some (.lst [.int 0],S):=cG (by simp)
  have h2:aO S (.lst [.int 0]) (.lst (((es.take i).map fun e=>e.m+1).map .int))=some (.lst ((0::(es.take i).map fun e=>e.m+1).map .int)):=Dr (by simp;omega)
  have h3:aN lO [.lst ((0::(es.take i).map fun e=>e.m+1).map .int)] S=some (.int (jU (0::(es.take i).map fun e=>e.m+1)),S):=Ot (by simp;omega) (by simp)
  simp only [aF,aE,bR,ao,gq,bd,ob,am,ax,al,h1,aq,h0,ar,h2,ak,bS,h3,aj,bH,bM,bL,oj,Rl.ix2,fLe_i,aC]) (fun i _ _=>by simp)
 have e1:GH ([.int (es.length:Nat)],S)=some ((List.range es.length).map ni,S):=by
  rw [je (by omega) (by omega)]
  have:=sO es.length
  simp only [nl,D.lst.injEq] at this
  rw [Int.toNat_natCast,this]
 simp only [frP,bV,dN,ao,bR,aj,bH,bM,bL,oj,ob,ak,am,ax,al,bS,Lp,e1,k]
 rfl
theorem Dl{N:List Str}(hN:N.length=5)(hl:es.length<=60):aP N pW 2 [r.d,ce es] S=some (nl (Be r es),S):=by
 have hst:aA N [r.d,ce es]=[some r.d,some (ce es),none,none,none]:=by simp [aA,hN,List.replicate]
 rw [bb (show [r.d,ce es].length=2 from rfl),hst]
 have a:(es.length:Nat)<=100:=by omega
 have w1:(r.w.s == ("rows":Str))=decide (r.w=.rows):=Rw.eq r.w .rows
 have w2:(r.w.s == ("readers":Str))=decide (r.w=.readers):=Rw.eq r.w .readers
 have w3:(r.w.s == ("passes":Str))=decide (r.w=.passes):=Rw.eq r.w .passes
 have lr:Da ([.int (es.length:Nat)],S)=some (nl (List.range es.length),S):=by rw [GL (by omega) (by omega),Int.toNat_natCast,sO]
 have s1:∀ l:List Nat,jF (nl l) none (some 1,S)=some (nl (l.take 1),S):=fun l=>RV (n:=1)
 have o1:∀ (b:ME) env (l:List Nat),PN b env (nl l,S)=if l=[] then b env S else some (nl l,S):=fun b env l=>Sb
 simp only [pW,aK,bf,Sx a,Sv a,ob,bg,aJ,dY,eR,bD,aD,bj,aF,aE,aj,bH,bM,bL,oj,ak,bd,aq,Rl.ix0,ar,cI,aC,w1,w2,w3]
 unfold Be
 cases hw:r.w <;> rw [hw] at w1 w2 w3 <;> simp [cJ,JW,Lp,lr,s1,o1,Sy hl,Sw a,hw,NA,Rl.ix0,w1,w2,w3,-beq_iff_eq]
 ·split <;> simp [s1]
 ·rw [GQ,if_pos rfl];split <;> simp [s1]
 ·split
  ·split <;> simp [s1]
  ·simp [s1]
end
end MI
namespace MI
open PySem PySem.Spec PyProof.Rows L2 M
structure ROk(R:Rm):Prop where
 out:∀ e∈R.2,R.1[e.g]?=some .out
 nd:(R.2.map (·.g)).Nodup
theorem Ct:∀ (n:Nat) (l:List Nat),l.Nodup->(∀ x∈l,x<n)->l.length<=n
 | 0,l,_,h=>by cases l with | nil=>exact Nat.le_refl _ | cons x _=>exact absurd (h x (by simp)) (by omega)
 | n+1,l,hn,h=>by
  by_cases hm:n∈l
  ·have:=Ct n (l.erase n) (hn.erase n) fun x hx=>by
    have h1:=h x (List.mem_of_mem_erase hx)
    have h2:x≠n:=fun z=>by rw [z] at hx;exact(List.Nodup.not_mem_erase hn) hx
    omega
   rw [List.length_erase_of_mem hm] at this
   omega
  ·have:=Ct n l hn fun x hx=>by
    have h1:=h x hx
    have h2:x≠n:=fun z=>hm (z ▸ hx)
    omega
   omega
theorem ROk.lt{R:Rm}(h:ROk R){e:En}(he:e∈R.2):e.g<R.1.length:=(List.getElem?_eq_some_iff.mp (h.out e he)).1
theorem ROk.len{R:Rm}(h:ROk R):R.2.length<=R.1.length:=by
 have:=Ct R.1.length (R.2.map (·.g)) h.nd fun x hx=>by obtain⟨e,he,rfl⟩:=List.mem_map.mp hx;exact h.lt he
 rwa [List.length_map] at this
structure Ev where
 w:Str
 g:Nat
def Ev.d(e:Ev):D:=.tup [.str e.w,.int (e.g:Nat)]
def mS(ws:List Wd):List Nat:=(List.range ws.length).filter fun g=>decide (ws[g]?=some .rising)&&decide (ws.count .out+1=ws.length)
def lK(r:Rl)(ws:List Wd)(es:List En):List Nat:=(Be r es).filter fun i=>match es[i]? with | some e=>pV r ws e.wr | none=>false
def pE(r:Rl)(e:En):En:={ e with m:=e.m+(if r.w=.passes then 1 else 0) }
def rn(r:Rl)(R:Rm)(i:Nat)(e:En):Rm:=(R.1.set e.g (if e.wr then .writes else .reads),(R.2.take i).map (pE r)++R.2.drop (i+1))
def lS(r:Rl)(R:Rm):Rm×List Ev:=match mS R.1 with
 | g::_=>((R.1.set g .raised,R.2),[⟨"steps",g⟩])
 | []=>match lK r R.1 R.2 with
  | i::_=>match R.2[i]? with
   | some e=>(rn r R i e,[⟨"in",e.g⟩])
   | none=>(R,[])
  | []=>(R,[])
def sh(r:Rl):Nat->Rm->Rm×List Ev
 | 0,R=>(R,[])
 | n+1,R=>let a:=lS r R;let b:=sh r n a.1;(b.1,a.2++b.2)
theorem CF(r:Rl)(es:List En):(es.map (pE r)).map (·.g)=es.map (·.g):=by rw [List.map_map];rfl
theorem Og{r:Rl}{R:Rm}{i:Nat}{e:En}(h:ROk R)(hi:R.2[i]?=some e):ROk (rn r R i e):=by
 obtain⟨ws,es⟩:=R
 have hs:es=es.take i++e::es.drop (i+1):=by
  obtain⟨hl,he⟩:=List.getElem?_eq_some_iff.mp hi
  rw [<- he,List.getElem_cons_drop,List.take_append_drop]
 have hnd:((es.take i).map (·.g)++e.g::(es.drop (i+1)).map (·.g)).Nodup:=by
  have:=h.nd
  dsimp only at this
  rw [hs] at this
  simpa using this
 rw [List.nodup_append,List.nodup_cons] at hnd
 obtain⟨n1,⟨n2,n3⟩,n4⟩:=hnd
 refine⟨fun x hx=>?_,?_⟩
 ·show (ws.set e.g _)[x.g]?=_
  have key:∃ y∈es,y.g=x.g/\x.g≠e.g:=by
   rcases List.mem_append.mp hx with hx | hx
   ·obtain⟨y,hy,rfl⟩:=List.mem_map.mp hx
    refine⟨y,List.mem_of_mem_take hy,rfl,fun z=>?_⟩
    exact n4 _ (List.mem_map.mpr ⟨y,hy,rfl⟩) _ List.mem_cons_self z
   ·refine⟨x,List.mem_of_mem_drop hx,rfl,fun z=>n2 ?_⟩
    rw [<- z];exact List.mem_map.mpr ⟨x,hx,rfl⟩
  obtain⟨y,hy,e1,ne⟩:=key
  rw [List.getElem?_set_ne (Ne.symm ne),<- e1]
  exact h.out y hy
 ·show (((es.take i).map (pE r)++es.drop (i+1)).map (·.g)).Nodup
  rw [List.map_append,CF,List.nodup_append]
  exact⟨n1,n3,fun a ha b hb=>n4 a ha b (List.mem_cons_of_mem _ hb)⟩
theorem om{ws:List Wd}{g:Nat}(h:g∈mS ws):ws[g]?=some .rising:=by
 have:=(List.mem_filter.mp h).2
 rw [Bool.and_eq_true] at this
 exact of_decide_eq_true this.1
theorem BO{r:Rl}{R:Rm}(h:ROk R):ROk (lS r R).1/\(lS r R).1.1.length=R.1.length:=by
 unfold lS
 split
 ·rename_i g l hg
  have hr:R.1[g]?=some .rising:=om (by rw [hg];exact List.mem_cons_self)
  refine⟨⟨fun e he=>?_,h.nd⟩,by simp⟩
  show (R.1.set g .raised)[e.g]?=_
  have h1:=h.out e he
  rw [List.getElem?_set_ne (fun z=>by rw [z,h1] at hr;cases hr)]
  exact h1
 ·split
  ·split
   ·rename_i e he
    exact⟨Og h he,by simp [rn]⟩
   ·exact⟨h,rfl⟩
  ·exact⟨h,rfl⟩
theorem IS{r:Rl}:∀ (n:Nat) {R:Rm},ROk R->ROk (sh r n R).1/\(sh r n R).1.1.length=R.1.length
 | 0,R,h=>⟨h,rfl⟩
 | n+1,R,h=>by
  obtain⟨h1,h2⟩:=BO (r:=r) h
  obtain⟨h3,h4⟩:=IS n h1
  exact⟨h3,h4.trans h2⟩
end MI
namespace MI
open PySem PySem.Spec PyProof.Rows L2 M
def rE:ME:=bJ (bO (aa (bi (aN fO) (aa (ab 2) (ag))) (ag))) (ah 0) (cT (aw (au bU (au av (ab 1) (ab 0)) (mC (.str "rising")))) (aw (au bU (kD (ab 1) (aa (mC (.str "out")) (ag))) (au nB (bi (aN fO) (aa (ab 1) (ag))) (mC (.int 1)))))) (ab 0) [none,some 2]
def xo(fronts lets:PF):ME:=bJ (da (ai 2 fronts (aa (ab 0) (aa (ab 3) (ag))))) (ah 0) (cS (ai 3 lets (aa (ab 1) (aa (ab 3) (aa (au av (au av (ab 2) (ab 0)) (mC (.int 1))) (ag)))))) (ab 0) [none,some 0,some 3,some 2]
def xp:ME:=bJ (da (bE (ab 3) (bF) (ca (au av (ab 7) (mC (.int 0)))))) (ah 0) (bX) (au aO (au aO (bE (ab 0) (bF) (ca (mC (.int 2)))) (aS (aa (au aO (au av (ab 0) (mC (.int 2))) (bi (aN kP) (aa (au bU (au av (ab 1) (mC (.int 0))) (mC (.str "passes"))) (ag)))) (ag)))) (bE (ab 0) (ca (mC (.int 3))) (bF))) [none,some 0]
def BR(put:PF):MS:=az (aG (ai 3 put (aa (ab 2) (aa (au av (ab 6) (mC (.int 0))) (aa (mC (.str "raised")) (ag))))) (ah 2)) (ee (eU cZ (ab 4) (aa (aS (aa (mC (.str "steps")) (aa (au av (ab 6) (mC (.int 0))) (ag)))) (ag))))
def QK(put:PF):MS:=az (aG (au av (ab 3) (au av (ab 7) (mC (.int 0)))) (aZ 4 (af (ah 8) (af (ah 9) (af (ah 10) (af (ah 11) (aM))))))) (az (aG (ai 3 put (aa (ab 2) (aa (ab 8) (aa (au av (di (aa (mC (.str "reads")) (aa (mC (.str "writes")) (ag)))) (bi (aN kP) (aa (au bU (ab 9) (mC (.str "write"))) (ag)))) (ag))))) (ah 2)) (az (aG xp (ah 12)) (az (aG (au aO (bi (aN (cm .tup)) (aa (ab 12) (ag))) (bE (ab 3) (ca (au aO (au av (ab 7) (mC (.int 0))) (mC (.int 1)))) (bF))) (ah 3)) (ee (eU cZ (ab 4) (aa (aS (aa (mC (.str "in")) (aa (ab 8) (ag)))) (ag)))))))
def pI(fronts lets put:PF):MS:=az (aG rE (ah 6)) (az (aG (xo fronts lets) (ah 7)) (bG (aw (au ij (ab 6) (di (ag)))) (BR put) (bG (aw (au ij (ab 7) (di (ag)))) (QK put) (aY))))
def nZ(fronts lets put:PF):MS:=
 az (aG (ab 1) (aZ 2 (af (ah 2) (af (ah 3) (aM))))) (az (aG (eV (ag)) (ah 4)) (az (gt (bO (aa (au cB (mC (.int 2)) (bi (aN fO) (aa (ab 2) (ag)))) (ag))) (ah 5) (pI fronts lets put)) (aV (aS (aa (aS (aa (ab 2) (aa (ab 3) (ag)))) (aa (ab 4) (ag)))))))
structure Ib(fronts lets put:PF):Prop where
 f:∀ (S:ac) (r:Rl) (es:List En),es.length<=60->fronts [r.d,ce es] S=some (nl (Be r es),S)
 l:∀ (S:ac) (r:Rl) (ws:List Wd) (wr:Bool),lets [r.d,cq ws,.str (bp wr)] S=some (.bl (pV r ws wr),S)
 p:∀ (S:ac) (ws:List Wd) (i:Nat) (w:Wd),i<ws.length->ws.length<=100->put [cq ws,.int (i:Int),w.d] S=some (cq (ws.set i w),S)
section
variable{S:ac}{ws:List Wd}{es:List En}{r:Rl}
theorem Jd{S:ac}{n:Nat}(h:n<=1000):GH ([.int (n:Int)],S)=some ((List.range n).map ni,S):=by
 rw [je (by omega) (by omega)]
 have:=sO n
 simp only [nl,D.lst.injEq] at this
 rw [Int.toNat_natCast,this]
theorem rK{S:ac}{i:Nat}{l:List Nat}:av S (nl (i::l)) (.int 0)=some (.int (i:Int)):=by
 show lc ((i::l).map ni) ((0:Nat):Int)=_
 exact Mm rfl
theorem BS{a0 a1 a3 a4 a5 a6 a7 a8 a9 b0 b1 b2:Option D}(hl:ws.length<=60):rE [a0,a1,some (cq ws),a3,a4,a5,a6,a7,a8,a9,b0,b1,b2] S=some (nl (mS ws),S):=by
 have k:=eY (S:=S) (t:=cT (aw (au bU (au av (ab 1) (ab 0)) (mC (.str "rising")))) (aw (au bU (kD (ab 1) (aa (mC (.str "out")) (ag))) (au nB (bi (aN fO) (aa (ab 1) (ag))) (mC (.int 1)))))) (e:=ab 0) (cap:=[none,some 2]) (env:=[a0,a1,some (cq ws),a3,a4,a5,a6,a7,a8,a9,b0,b1,b2]) (rest:=[some (cq ws)]) (a:=none) (enc:=ni) (p:=fun g=>decide (ws[g]?=some .rising)&&decide (ws.count .out+1=ws.length)) (f:=ni) (xs:=List.range ws.length) rfl (by simp;omega) (fun g hg=>by
  have hg:=List.mem_range.mp hg
  have e1:ws[g]?=some ws[g]:=List.getElem?_eq_getElem hg
  have e2:av S (cq ws) (ni g)=some (ws[g]).d:=rT e1
  have e3:bU S (ws[g]).d (.str "rising")=some (.bl (decide (ws[g]=.rising))):=by
   show bU S (.str (ws[g]).s) (.str "rising")=_
   rw [cI];exact congrArg (fun b=>some (D.bl b)) (Wd.eq ws[g] .rising)
  have e4:∀ S,fE (cq ws) [.str "out"] S=some (.int (ws.count .out:Nat),S):=fun S=>wZ .out
  have e5:(((ws.count Wd.out:Nat):Int) == (ws.length:Nat) - 1)=decide (ws.count .out+1=ws.length):=by rw [Bool.eq_iff_iff];simp;omega
  simp only [hX,aF,aE,aj,bH,bM,bL,oj,ob,ak,aq,e2,ar,bd,e3,aC,e1,Option.some.injEq]
  cases hd:decide (ws[g]=.rising) with
  | true=>simp only [jM,Kb,aj,bM,bH,bL,oj,ob,ak,ou,ao,bd,am,ax,al,fh,e4,aq,aE,bR,bS,wY,ar,yG,iA,aC,e5,aF,Bool.true_and]
  | false=>simp only [rO,Bool.false_and]) (fun g _ _=>by simp)
 simp only [rE,bV,dN,ao,bR,aj,bH,bM,bL,oj,ob,ak,am,ax,al,bS,wY,Jd (show ws.length<=1000 by omega),k]
 rfl
theorem FR{fronts lets put:PF}(O:Ib fronts lets put){a1 a4 a5 a6 a7 a8 a9 b0 b1 b2:Option D}(hl:es.length<=60):xo fronts lets [some r.d,a1,some (cq ws),some (ce es),a4,a5,a6,a7,a8,a9,b0,b1,b2] S=some (nl (lK r ws es),S):=by
 have hlen:(Be r es).length<=1000:=by
  have h1:(Be r es).length<=60\/(Be r es).length<=es.length:=by
   unfold Be;split
   ·left;simp;omega
   ·left;simp;omega
   ·right;exact Nat.le_trans (List.length_filter_le _ _) (by simp)
   ·left;simp;omega
   ·left;simp;omega
  omega
 have k:=eY (S:=S) (t:=cS (ai 3 lets (aa (ab 1) (aa (ab 3) (aa (au av (au av (ab 2) (ab 0)) (mC (.int 1))) (ag)))))) (e:=ab 0) (cap:=[none,some 0,some 3,some 2]) (env:=[some r.d,a1,some (cq ws),some (ce es),a4,a5,a6,a7,a8,a9,b0,b1,b2]) (rest:=[some r.d,some (ce es),some (cq ws)]) (a:=none) (enc:=ni) (p:=fun i=>match es[i]? with | some e=>pV r ws e.wr | none=>false) (f:=ni) (xs:=Be r es) rfl hlen (fun i hi=>by
  have e1:es[i]?=some (es[i]'(qb hi)):=List.getElem?_eq_getElem (qb hi)
  have e2:av S (ce es) (ni i)=some (es[i]'(qb hi)).d:=Lq e1
  simp only [dw,aB,ao,aj,bH,bM,bL,oj,ob,ak,am,aE,aq,e2,ar,bd,En.ix1,ax,al,bx,O.l,eh,e1]) (fun g _ _=>by simp)
 simp only [xo,bV,dj,aB,ao,aj,bH,bM,bL,oj,ob,ak,am,ax,al,aR,O.f S r es hl,NW,k]
 rfl
theorem TH{e:En}{b:Option D}:(au aO (au aO (bE (ab 0) (bF) (ca (mC (.int 2)))) (aS (aa (au aO (au av (ab 0) (mC (.int 2))) (bi (aN kP) (aa (au bU (au av (ab 1) (mC (.int 0))) (mC (.str "passes"))) (ag)))) (ag)))) (bE (ab 0) (ca (mC (.int 3))) (bF))) [some e.d,some r.d] S=some ((pE r e).d,S):=by
 have w3:(r.w.s == ("passes":Str))=decide (r.w=.passes):=Rw.eq r.w .passes
 have c1:jF e.d none (some 2,S)=some (.tup [.int (e.g:Nat),.str (bp e.wr)],S):=rfl
 have c2:jF e.d (some 3) (none,S)=some (.tup [bv e.t],S):=rfl
 have k1:∀ x,cn ([x],S)=some (.tup [x],S):=fun x=>aU (by simp)
 have a1:∀ x y z,aO S (.tup [x,y]) (.tup [z])=some (.tup [x,y,z]):=fun x y z=>gE (by simp)
 have a2:∀ x y z w,aO S (.tup [x,y,z]) (.tup [w])=some (.tup [x,y,z,w]):=fun x y z w=>gE (by simp)
 simp only [aE,cJ,aj,bH,bM,bL,oj,ob,ak,fM,cR,fL,dA,bd,dC,c1,aq,be,ao,am,bR,En.ix2,Rl.ix0,ar,cI,w3,ax,al,bS,pv,js,k1,a1,c2,a2]
 unfold pE En.d
 by_cases h:r.w=.passes <;> simp [h]
theorem BU{i:Nat}{l:List Nat}{a1 a2 a4 a5 a6 a8 a9 b0 b1 b2:Option D}(hl:es.length<=60):xp [some r.d,a1,a2,some (ce es),a4,a5,a6,some (nl (i::l)),a8,a9,b0,b1,b2] S=some (.lst (((es.take i).map (pE r)).map En.d),S):=by
 have k:=eY (S:=S) (t:=bX) (e:=au aO (au aO (bE (ab 0) (bF) (ca (mC (.int 2)))) (aS (aa (au aO (au av (ab 0) (mC (.int 2))) (bi (aN kP) (aa (au bU (au av (ab 1) (mC (.int 0))) (mC (.str "passes"))) (ag)))) (ag)))) (bE (ab 0) (ca (mC (.int 3))) (bF))) (cap:=[none,some 0]) (env:=[some r.d,a1,a2,some (ce es),a4,a5,a6,some (nl (i::l)),a8,a9,b0,b1,b2]) (rest:=[some r.d]) (a:=none) (enc:=En.d) (p:=fun _=>true) (f:=fun e=>(pE r e).d) (xs:=es.take i) rfl (by simp;omega) (fun x _=>jK) (fun x _ _=>TH (b:=none))
 rw [List.filter_eq_self.mpr (fun _ _=>rfl)] at k
 have e:jF (ce es) none (some (i:Int),S)=some (.tup ((es.take i).map En.d),S):=by
  rw [show ce es=.tup (es.map En.d) from rfl,mx,mf,List.map_take]
 have e0:av S (nl (i::l)) (.int 0)=some (.int (i:Int)):=rK
 simp only [xp,bV,dj,cJ,aE,aj,bH,bM,bL,oj,ob,ak,fM,cR,fL,dA,aq,bd,ar,e0,dC,e,Km,k,List.map_map]
 rfl
theorem Dp{l:List Nat}:ij S (nl l) (.lst [])=some (.bl (!decide (l=[]))):=by
 have ok:cK 40 (nl l)=true:=by
  show (l.map ni).all (cK 39)=true
  rw [List.all_eq_true];intro d hd;obtain⟨i,_,rfl⟩:=List.mem_map.mp hd;rfl
 rw [ur ok rfl]
 cases l with
 | nil=>rfl
 | cons _ _=>rfl
theorem Dt{evs:List Ev}{v:Ev}(h:evs.length<500):cZ (.ref S.length) [v.d] (S++[.lst (evs.map Ev.d)])=some (.non,S++[.lst ((evs++[v]).map Ev.d)]):=by
 rw [qi jQ (by rw [List.length_map];omega),FB];simp
theorem yK{evs:List Ev}{f:MF}{ms:MA}{env:bn}:oX f ms env (.ref S.length,S++[.lst (evs.map Ev.d)])=(ms env (S++[.lst (evs.map Ev.d)])).bind (dR f (.ref S.length)):=rN jQ
theorem FQ{fronts lets put:PF}(O:Ib fronts lets put){g:Nat}{l:List Nat}{evs:List Ev}{a0 a1 a3 a5 a7 a8 a9 b0 b1 b2:Option D}(hg:g<ws.length)(hl:ws.length<=60)(he:evs.length<500) :
  BR put [a0,a1,some (cq ws),a3,some (.ref S.length),a5,some (nl (g::l)),a7,a8,a9,b0,b1,b2] (S++[.lst (evs.map Ev.d)])=some (.nx [a0,a1,some (cq (ws.set g .raised)),a3,some (.ref S.length),a5,some (nl (g::l)),a7,a8,a9,b0,b1,b2] (S++[.lst ((evs++[Ev.mk "steps" g]).map Ev.d)])):=by
 have p1:∀ S,put [cq ws,.int (g:Int),.str "raised"] S=some (cq (ws.set g .raised),S):=fun S=>O.p S ws g .raised hg (by omega)
 have k2:∀ S (x y:D),cn ([x,y],S)=some (.tup [x,y],S):=fun S x y=>aU (by simp)
 have ap:cZ (.ref S.length) [.tup [.str "steps",.int (g:Int)]] (S++[.lst (evs.map Ev.d)])=some (.non,S++[.lst ((evs++[Ev.mk "steps" g]).map Ev.d)]):=Dt (v:=⟨"steps",g⟩) he
 simp only [BR,aK,bf,aB,ao,aj,bH,bM,bL,oj,ob,ak,am,aE,bd,aq,ar,rK,ax,al,bx,p1,bg,aJ,dY,eR,bD,aD,lx,lv,yK,be,k2,fh,ap,lA]
theorem MM{fronts lets put:PF}(O:Ib fronts lets put){i:Nat}{l:List Nat}{e:En}{evs:List Ev}{a1 a5 a6 a8 a9 b0 b1 b2:Option D}(hi:es[i]?=some e)(hg:e.g<ws.length)(hl:ws.length<=60)(hl2:es.length<=60)(he:evs.length<500) :
  ∃ c8 c9 d0 d1 d2,QK put [some r.d,a1,some (cq ws),some (ce es),some (.ref S.length),a5,a6,some (nl (i::l)),a8,a9,b0,b1,b2] (S++[.lst (evs.map Ev.d)])=some (.nx [some r.d,a1,some (cq (rn r (ws,es) i e).1),some (ce (rn r (ws,es) i e).2),some (.ref S.length),a5,a6,some (nl (i::l)),c8,c9,d0,d1,d2] (S++[.lst ((evs++[Ev.mk "in" e.g]).map Ev.d)])):=by
 have hlt:=(List.getElem?_eq_some_iff.mp hi).1
 have p1:∀ S,put [cq ws,.int (e.g:Int),(if e.wr then Wd.writes else Wd.reads).d] S=some (cq (ws.set e.g (if e.wr then .writes else .reads)),S):=fun S=>O.p S ws e.g _ hg (by omega)
 have k2:∀ S (x y:D),cn ([x,y],S)=some (.tup [x,y],S):=fun S x y=>aU (by simp)
 have l2:∀ S (x y:D),jG ([x,y],S)=some (.lst [x,y],S):=fun S x y=>cG (by simp)
 have ap:cZ (.ref S.length) [.tup [.str "in",.int (e.g:Int)]] (S++[.lst (evs.map Ev.d)])=some (.non,S++[.lst ((evs++[Ev.mk "in" e.g]).map Ev.d)]):=Dt (v:=⟨"in",e.g⟩) he
 have x1:∀ S,av S (ce es) (.int (i:Int))=some e.d:=fun S=>Lq hi
 have wd:∀ S,av S (.lst [.str "reads",.str "writes"]) (.int (if e.wr=true then 1 else 0))=some (if e.wr then Wd.writes else Wd.reads).d:=fun S=>by cases e.wr <;> rfl
 have g4:∀ env S,aZ 4 (af (ah 8) (af (ah 9) (af (ah 10) (af (ah 11) (aM))))) e.d env S=(af (ah 8) (af (ah 9) (af (ah 10) (af (ah 11) (aM))))) [.int (e.g:Nat),.str (bp e.wr),.int e.m,bv e.t] env S:=fun env S=>rR
 have cd:iB (es.map En.d) (some ((i:Int)+1)) none=(es.drop (i+1)).map En.d:=by
  rw [show ((i:Int)+1)=((i+1:Nat):Int) by omega,nj _ _ (by rw [List.length_map];omega),List.map_drop]
 have sd:∀ S,jF (ce es) (some ((i:Int)+1)) (none,S)=some (.tup ((es.drop (i+1)).map En.d),S):=fun S=>by
  rw [show ce es=.tup (es.map En.d) from rfl,mx,cd]
 have ad:∀ S,aO S (.tup (((es.take i).map (pE r)).map En.d)) (.tup ((es.drop (i+1)).map En.d))=some (ce (rn r (ws,es) i e).2):=fun S=>by
  rw [gE (by simp;omega),<- List.map_append];rfl
 refine⟨some (.int (e.g:Nat)),some (.str (bp e.wr)),some (.int e.m),some (bv e.t),some (.lst (((es.take i).map (pE r)).map En.d)),?_⟩
 ·simp only [QK,aK,bf,aE,aj,bH,bM,bL,oj,ob,ak,aq,bd,ar,rK,x1,bg,g4,bC,aJ,cU,bW,dY,eR,bD,aD,aB,ao,am,gq,ax,al,l2,bR,cI,ow,bS,pv,wd,bx,p1,BU hl2,eS,cJ,fM,dA,js,dC,fL,cR,sd,ad,lx,lv,yK,be,k2,fh,ap,lA]
  try rfl
theorem FP{fronts lets put:PF}(O:Ib fronts lets put){R:Rm}(h:ROk R)(hl:R.1.length<=50){evs:List Ev}{a1 a5 a6 a7 a8 a9 b0 b1 b2:Option D}(he:evs.length<500) :
  ∃ c6 c7 c8 c9 d0 d1 d2,pI fronts lets put [some r.d,a1,some (cq R.1),some (ce R.2),some (.ref S.length),a5,a6,a7,a8,a9,b0,b1,b2] (S++[.lst (evs.map Ev.d)])=some (.nx [some r.d,a1,some (cq (lS r R).1.1),some (ce (lS r R).1.2),some (.ref S.length),a5,c6,c7,c8,c9,d0,d1,d2] (S++[.lst ((evs++(lS r R).2).map Ev.d)])):=by
 obtain⟨ws,es⟩:=R
 have hl2:es.length<=60:=by have:=h.len;simp only at this hl;omega
 have hl1:ws.length<=60:=by simp only at hl;omega
 have k0:∀ S,jG ([],S)=some (.lst [],S):=fun S=>cG (by simp)
 have e1:∀ (T:ac) (a6:Option D),rE [some r.d,a1,some (cq ws),some (ce es),some (.ref S.length),a5,a6,a7,a8,a9,b0,b1,b2] T=some (nl (mS ws),T):=fun T a6=>BS hl1
 have e2:∀ (T:ac) (a6 a7:Option D),xo fronts lets [some r.d,a1,some (cq ws),some (ce es),some (.ref S.length),a5,a6,a7,a8,a9,b0,b1,b2] T=some (nl (lK r ws es),T):=fun T a6 a7=>FR O hl2
 unfold lS
 dsimp only
 cases hA:mS ws with
 | cons g l=>
  have hr:ws[g]?=some .rising:=om (by rw [hA];exact List.mem_cons_self)
  have hg:g<ws.length:=(List.getElem?_eq_some_iff.mp hr).1
  rw [hA] at e1
  have e3:=FQ O (S:=S) (ws:=ws) (g:=g) (l:=l) (evs:=evs) (a0:=some r.d) (a1:=a1) (a3:=some (ce es)) (a5:=a5) (a7:=some (nl (lK r ws es))) (a8:=a8) (a9:=a9) (b0:=b0) (b1:=b1) (b2:=b2) hg hl1 he
  refine⟨some (nl (g::l)),some (nl (lK r ws es)),a8,a9,b0,b1,b2,?_⟩
  simp only [pI,aK,bf,e1,e2,ob,bg,aJ,dY,eR,bD,aD,bj,aF,aE,aj,bH,bM,bL,oj,ak,aq,gq,ax,k0,ar,Dp,aC,reduceCtorEq,decide_false,Bool.not_false,bP,e3]
 | nil=>
  rw [hA] at e1
  cases hB:lK r ws es with
  | nil=>
   rw [hB] at e2
   refine⟨some (nl []),some (nl []),a8,a9,b0,b1,b2,?_⟩
   simp only [pI,aK,bf,e1,e2,ob,bg,aJ,dY,eR,bD,aD,bj,aF,aE,aj,bH,bM,bL,oj,ak,aq,gq,ax,k0,ar,Dp,aC,decide_true,Bool.not_true,bI,bt,List.append_nil]
  | cons i l=>
   rw [hB] at e2
   have hi:i∈lK r ws es:=by rw [hB];exact List.mem_cons_self
   have hlt:i<es.length:=qb (List.mem_filter.mp hi).1
   have ei:es[i]?=some es[i]:=List.getElem?_eq_getElem hlt
   have hg:(es[i]).g<ws.length:=h.lt (R:=(ws,es)) (List.getElem_mem hlt)
   obtain⟨c8,c9,d0,d1,d2,e3⟩:=MM O (S:=S) (ws:=ws) (es:=es) (r:=r) (i:=i) (l:=l) (evs:=evs) (a1:=a1) (a5:=a5) (a6:=some (nl [])) (a8:=a8) (a9:=a9) (b0:=b0) (b1:=b1) (b2:=b2) ei hg hl1 hl2 he
   dsimp only
   rw [ei]
   refine⟨some (nl []),some (nl (i::l)),c8,c9,d0,d1,d2,?_⟩
   simp only [pI,aK,bf,e1,e2,ob,bg,aJ,dY,eR,bD,aD,bj,aF,aE,aj,bH,bM,bL,oj,ak,aq,gq,ax,k0,ar,Dp,aC,decide_true,Bool.not_true,bI,reduceCtorEq,decide_false,Bool.not_false,bP,e3]
theorem Et{R:Rm}:(lS r R).2.length<=1:=by
 unfold lS
 split
 ·simp
 ·split
  ·split <;> simp
  ·simp
theorem zw{fronts lets put:PF}(O:Ib fronts lets put){N:List Str}(hN:N.length=13){R:Rm}(h:ROk R)(hl:R.1.length<=50) :
  aP N (nZ fronts lets put) 2 [r.d,aQ R] S=some (.tup [aQ (sh r (2 * R.1.length) R).1,.ref S.length],S++[.lst ((sh r (2 * R.1.length) R).2.map Ev.d)]):=by
 have hst:aA N [r.d,aQ R]=[some r.d,some (aQ R),none,none,none,none,none,none,none,none,none,none,none]:=by simp [aA,hN,List.replicate]
 rw [bb (show [r.d,aQ R].length=2 from rfl),hst]
 obtain⟨env',S',e,R',evs',c5,c6,c7,c8,c9,d0,d1,d2,o1,o2,o3,o4,rfl,rfl⟩:=Dn (tg:=ah 5) (p:=pI fronts lets put) (lo:=0) (fun i env T=>∃ (R':Rm) (evs':List Ev) (c5 c6 c7 c8 c9 d0 d1 d2:Option D),ROk R'/\R'.1.length=R.1.length/\evs'.length<=i/\(i<=2 * R.1.length->sh r (2 * R.1.length) R=((sh r (2 * R.1.length - i) R').1,evs'++(sh r (2 * R.1.length - i) R').2)) /\
   env=[some r.d,some (aQ R),some (cq R'.1),some (ce R'.2),some (.ref S.length),c5,c6,c7,c8,c9,d0,d1,d2]/\T=S++[.lst (evs'.map Ev.d)]) (2 * R.1.length) (fun i hi env T hI=>by
  obtain⟨R',evs',c5,c6,c7,c8,c9,d0,d1,d2,o1,o2,o3,o4,rfl,rfl⟩:=hI
  obtain⟨f6,f7,f8,f9,g0,g1,g2,e⟩:=FP O (r:=r) (S:=S) (R:=R') o1 (by omega) (evs:=evs') (a1:=some (aQ R)) (a5:=some (.int (0+(i:Int)))) (a6:=c6) (a7:=c7) (a8:=c8) (a9:=c9) (b0:=d0) (b1:=d1) (b2:=d2) (by omega)
  obtain⟨q1,q2⟩:=BO (r:=r) o1
  have fw:=Et (r:=r) (R:=R')
  refine⟨_,_,_,_,aJ,e,(lS r R').1,evs'++(lS r R').2,_,f6,f7,f8,f9,g0,g1,g2,q1,q2.trans o2,by rw [List.length_append];omega,fun hn=>?_,rfl,rfl⟩
  rw [o4 (by omega),show 2 * R.1.length - i=(2 * R.1.length - (i+1))+1 by omega]
  simp only [sh,List.append_assoc]) [some r.d,some (aQ R),some (cq R.1),some (ce R.2),some (.ref S.length),none,none,none,none,none,none,none,none] (S++[.lst []]) ⟨R,[],none,none,none,none,none,none,none,none,h,rfl,Nat.le_refl _,fun _=>by simp,rfl,rfl⟩
 have o5:=o4 (Nat.le_refl _)
 rw [Nat.sub_self] at o5
 simp only [sh,List.append_nil] at o5
 have k0:qA ([],S)=some (.ref S.length,S++[.lst []]):=kH (by simp)
 have k2:∀ S (x y:D),cn ([x,y],S)=some (.tup [x,y],S):=fun S x y=>aU (by simp)
 have mu:∀ S,cB S (.int 2) (.int (R.1.length:Nat))=some (.int (2 * (R.1.length:Nat))):=fun S=>jn (pO (by decide) (by decide))
 have kr:∀ S,GH ([.int (2 * (R.1.length:Nat))],S)=some (bT 0 (2 * R.1.length),S):=fun S=>by
  rw [je (by omega) (by omega)];congr 3
 have g2:∀ env S,aZ 2 (af (ah 2) (af (ah 3) (aM))) (aQ R) env S=(af (ah 2) (af (ah 3) (aM))) [cq R.1,ce R.2] env S:=fun env S=>cx
 rw [o5]
 simp only [nZ,aK,bf,aj,bH,bM,bL,oj,ob,ak,bg,g2,bC,aJ,cU,bW,dY,eR,bD,aD,oQ,ax,k0,mw,dN,ao,aE,bd,aq,bR,am,al,bS,wY,ar,mu,kr,mz,e,aX,be,k2,bq,aH]
 rfl
end
end MI
namespace MI
open PySem PySem.Spec PyProof.Rows L2 M
inductive Ak where | up | down | leave | stop
deriving DecidableEq
def Ak.s:Ak->Str
 | .up=>"up"
 | .down=>"down"
 | .leave=>"leave"
 | .stop=>"stop"
inductive Dd where
 | ask (wr:Bool) (g:Nat) (t:Option Int)
 | act (k:Ak) (g:Nat)
 | tick
def Dd.d:Dd->D
 | .ask wr g t=>.tup [.str (bp wr),.int (g:Int),bv t]
 | .act k g=>.tup [.str k.s,.int (g:Int)]
 | .tick=>.tup [.str "tick"]
def uM(t:Option Int):Prop:=∀ k,t=some k->0<=k/\k<=9
def Dd.Ok(n:Nat):Dd->Prop
 | .ask _ g t=>g<n/\uM t
 | .act _ g=>g<n
 | .tick=>True
def oW(pick:PF):MS:=
 az (aG (ai 2 pick (aa (ab 0) (aa (ab 1) (ag)))) (ah 2)) (az (aG (ai 2 pick (aa (ab 0) (aa (mC (.int 12)) (ag)))) (ah 3)) (az (bG (aw (au Ov (ab 3) (mC (.int 6)))) (aV (aS (aa (au av (di (aa (mC (.str "read")) (aa (mC (.str "write")) (ag)))) (au lD (ab 3) (mC (.int 2)))) (aa (ab 2) (aa (au av (di (aa (mC .non) (aa (mC .non) (aa (mC .non) (aa (mC (.int 0)) (aa (mC (.int 1)) (aa (mC (.int 9)) (ag)))))))) (ai 2 pick (aa (ab 0) (aa (mC (.int 6)) (ag))))) (ag)))))) (aY)) (az (bG (aw (au bU (ab 3) (mC (.int 11)))) (aV (aS (aa (mC (.str "tick")) (ag)))) (aY)) (aV (aS (aa (au av (di (aa (mC (.str "up")) (aa (mC (.str "down")) (aa (mC (.str "leave")) (aa (mC (.str "leave")) (aa (mC (.str "stop")) (ag))))))) (au nB (ab 3) (mC (.int 6)))) (aa (ab 2) (ag))))))))
theorem Pp{q:Int}(h0:0<=q)(h1:q<6):∃ t:Option Int,lc [D.non,D.non,D.non,D.int 0,D.int 1,D.int 9] q=some (bv t)/\uM t:=by
 have n:uM none:=fun k h=>by cases h
 have s:∀ j:Int,0<=j->j<=9->uM (some j):=fun j a b k h=>by cases h;exact⟨a,b⟩
 obtain rfl | rfl | rfl | rfl | rfl | rfl:q=0\/q=1\/q=2\/q=3\/q=4\/q=5:=by omega
 ·exact⟨none,rfl,n⟩
 ·exact⟨none,rfl,n⟩
 ·exact⟨none,rfl,n⟩
 ·exact⟨some 0,rfl,s 0 (by decide) (by decide)⟩
 ·exact⟨some 1,rfl,s 1 (by decide) (by decide)⟩
 ·exact⟨some 9,rfl,s 9 (by decide) (by decide)⟩
theorem TQ{q:Int}(h0:6<=q)(h1:q<11):∃ k:Ak,lc [D.str "up",D.str "down",D.str "leave",D.str "leave",D.str "stop"] (q - 6)=some (.str k.s):=by
 obtain rfl | rfl | rfl | rfl | rfl:q=6\/q=7\/q=8\/q=9\/q=10:=by omega
 ·exact⟨.up,rfl⟩
 ·exact⟨.down,rfl⟩
 ·exact⟨.leave,rfl⟩
 ·exact⟨.leave,rfl⟩
 ·exact⟨.stop,rfl⟩
theorem at_wr{q:Int}:∃ wr:Bool,lc [D.str "read",D.str "write"] (q % 2)=some (.str (bp wr)):=by
 obtain h | h:q % 2=0\/q % 2=1:=by omega
 ·exact⟨false,by rw [h];rfl⟩
 ·exact⟨true,by rw [h];rfl⟩
theorem LM{pick:PF}(hp:qt pick){S:ac}{r n:Nat}{N:List Str}(hN:N.length=4)(P:Pk S r)(h1:1<=n)(h9:n<=9):∃ (dd:Dd) (S':ac),aP N (oW pick) 2 [.ref r,.int (n:Int)] S=some (dd.d,S')/\dd.Ok n/\Pk S' r/\Keep r S S':=by
 have hst:aA N [D.ref r,.int (n:Int)]=[some (.ref r),some (.int (n:Int)),none,none]:=by simp [aA,hN,List.replicate]
 rw [bb (show [D.ref r,D.int (n:Int)].length=2 from rfl),hst]
 obtain⟨g,S1,e1,g0,g1,P1,K1⟩:=hp _ _ (n:Int) P (by omega) (by omega)
 obtain⟨q,S2,e2,q0,q1,P2,K2⟩:=hp _ _ 12 P1 (by decide) (by decide)
 obtain⟨g',rfl⟩:∃ g':Nat,g=(g':Int):=⟨g.toNat,by omega⟩
 have md:∀ S,lD S (.int q) (.int 2)=some (.int (q % 2)):=fun S=>jo (by decide)
 by_cases h6:q<6
 ·obtain⟨l,S3,e3,l0,l1,P3,K3⟩:=hp _ _ 6 P2 (by decide) (by decide)
  obtain⟨t,et,ot⟩:=Pp l0 l1
  obtain⟨wr,ew⟩:=at_wr (q:=q)
  have k1:∀ S,jG ([D.str "read",D.str "write"],S)=some (.lst [D.str "read",D.str "write"],S):=fun S=>cG (by simp)
  have k2:∀ S,jG ([D.non,D.non,D.non,D.int 0,D.int 1,D.int 9],S)=some (.lst [D.non,D.non,D.non,D.int 0,D.int 1,D.int 9],S):=fun S=>cG (by simp)
  have k3:∀ S (a b c:D),cn ([a,b,c],S)=some (.tup [a,b,c],S):=fun S a b c=>aU (by simp)
  refine⟨.ask wr g' t,S3,?_,⟨by omega,ot⟩,P3,Keep.trans K1 (Keep.trans K2 K3)⟩
  simp [oW,e1,e2,h6,k1,md,ew,e3,k2,et,k3,Dd.d]
 ·by_cases h11:q=11
  ·subst h11
   have k1:∀ S (a:D),cn ([a],S)=some (.tup [a],S):=fun S a=>aU (by simp)
   refine⟨.tick,S2,?_,trivial,P2,Keep.trans K1 K2⟩
   simp [oW,e1,e2,k1,Dd.d]
  ·obtain⟨k,ek⟩:=TQ (q:=q) (by omega) (by omega)
   have k1:∀ S,jG ([D.str "up",D.str "down",D.str "leave",D.str "leave",D.str "stop"],S)=some (.lst [D.str "up",D.str "down",D.str "leave",D.str "leave",D.str "stop"],S):=fun S=>cG (by simp)
   have k2:∀ S (a b:D),cn ([a,b],S)=some (.tup [a,b],S):=fun S a b=>aU (by simp)
   refine⟨.act k g',S2,?_,(by show g'<n;omega),P2,Keep.trans K1 K2⟩
   simp [oW,e1,e2,h6,beq_eq_false_iff_ne.mpr h11,k1,ek,k2,Dd.d]
def bu(es:List En)(g:Nat):Bool:=es.any fun e=>decide (e.g=g)
def ik(R:Rm):Dd->Bool
 | .tick=>true
 | .ask _ g _=>decide (R.1[g]?=some .out) && !bu R.2 g
 | .act .up g=>decide (R.1[g]?=some .reads)
 | .act .down g=>decide (R.1[g]?=some .writes)||decide (R.1[g]?=some .raised)
 | .act .leave g=>decide (R.1[g]?≠some .out)
 | .act .stop g=>bu R.2 g||decide (R.1[g]?=some .rising)
def yX:ME:=au oo (au av (ab 1) (mC (.int 1))) (bJ (da (ab 3)) (ah 0) (bX) (au av (ab 0) (mC (.int 0))) [none])
def TF:ME:=fK [(mC (.str "read"),dB (au bU (ab 4) (mC (.str "out"))) (ic (ab 5))),(mC (.str "write"),dB (au bU (ab 4) (mC (.str "out"))) (ic (ab 5))),(mC (.str "up"),au bU (ab 4) (mC (.str "reads")))]
def TD:ME:=iG [(mC (.str "down"),au oo (ab 4) (aS (aa (mC (.str "writes")) (aa (mC (.str "raised")) (ag))))),(mC (.str "leave"),au ij (ab 4) (mC (.str "out"))),(mC (.str "stop"),we (ab 5) (au bU (ab 4) (mC (.str "rising"))))]
def yu:MS:=
 az (aG (ab 0) (aZ 2 (af (ah 2) (af (ah 3) (aM))))) (az (bG (aw (au bU (ab 1) (aS (aa (mC (.str "tick")) (ag))))) (aV (mC (.bl true))) (aY)) (az (aG (au av (ab 2) (au av (ab 1) (mC (.int 1)))) (ah 4)) (az (aG yX (ah 5)) (az (aG TF (ah 6)) (az (ee (fI um (ab 6) (aa TD (ag)))) (aV (au av (ab 6) (au av (ab 1) (mC (.int 0))))))))))
def sQ(r:Rl)(w:Wd)(es:List En):List En:=if r.w=.turns/\w=.writes then es.map (fun e=>if e.wr then e else { e with m:=1 }) else es
def mkC:ME:=bJ (da (ab 2)) (ah 0) (bX) (lN (aw (au bU (au av (ab 0) (mC (.int 1))) (mC (.str "read")))) (au aO (au aO (bE (ab 0) (bF) (ca (mC (.int 2)))) (aS (aa (mC (.int 1)) (ag)))) (bE (ab 0) (ca (mC (.int 3))) (bF))) (ab 0)) [none]
def kG:MS:=
 az (bG (fH (aw (au ij (au av (ab 0) (mC (.int 0))) (mC (.str "turns")))) (aw (au ij (ab 1) (mC (.str "writes"))))) (aV (ab 2)) (aY)) (aV (bi (aN (cm .tup)) (aa mkC (ag))))
section
variable{S:ac}{ws:List Wd}{es:List En}{r:Rl}
theorem KU{g:Nat}:oo S (.int (g:Int)) (.lst (es.map fun e=>.int (e.g:Int)))=some (.bl (bu es g)):=by
 rw [kg (ys:=es.map fun e=>D.int (e.g:Int)) rfl rfl (by rw [List.all_eq_true];intro d hd;obtain⟨e,_,rfl⟩:=List.mem_map.mp hd;rfl)]
 unfold bu
 rw [List.any_map]
 congr 2
 induction es with
 | nil=>rfl
 | cons e l ih=>
  rw [List.any_cons,List.any_cons,ih]
  congr 1
  show ((e.g:Int) == (g:Int))=_
  rw [Bool.eq_iff_iff];simp;omega
theorem gsC{b:Option D}{cap:List (Option Nat)}{env:bn}(hc:uD cap env=[b])(hl:es.length<=100):mB (ah 0) bX (au av (ab 0) (mC (.int 0))) cap env (es.map En.d,S)=some (.lst (es.map fun e=>.int (e.g:Int)),S):=by
 have k:=eY (S:=S) (t:=bX) (e:=au av (ab 0) (mC (.int 0))) (cap:=cap) (env:=env) (rest:=[]) (a:=b) (enc:=En.d) (p:=fun _=>true) (f:=fun e=>.int (e.g:Int)) (xs:=es) hc (by omega) (fun x _=>jK) (fun x _ _=>by simp [En.ix0])
 rw [List.filter_eq_self.mpr (fun _ _=>rfl)] at k
 exact k
theorem dW:Db (ce es,S)=some (es.map En.d,S):=rfl
def Dh:Dd->Bool
 | .tick=>true
 | _=>false
theorem Dd.tick_ne{dd:Dd}:bU S dd.d (.tup [.str "tick"])=some (.bl (Dh dd)):=by
 cases dd with
 | tick=>rw [lF rfl rfl];rfl
 | ask wr g t=>
  rw [lF (by cases t <;> rfl) rfl]
  show some (D.bl (_&&false))=some (D.bl false)
  rw [Bool.and_false]
 | act k g=>
  rw [lF rfl rfl]
  show some (D.bl (_&&false))=some (D.bl false)
  rw [Bool.and_false]
theorem lE{a b:Wd}:bU S a.d (.str b.s)=some (.bl (decide (a=b))):=by
 show bU S (.str a.s) (.str b.s)=_
 rw [cI,Wd.eq]
theorem uq{a b:Wd}:ij S a.d (.str b.s)=some (.bl (!decide (a=b))):=by
 show ij S (.str a.s) (.str b.s)=_
 rw [qh,Wd.eq]
theorem KQ{a:Wd}:oo S a.d (.tup [.str "writes",.str "raised"])=some (.bl (decide (a=.writes)||decide (a=.raised))):=by
 have h:([D.str "writes",D.str "raised"].any fun d=>jD d a.d)=(decide (a=.writes)||decide (a=.raised)):=by cases a <;> decide +kernel
 rw [kg (ys:=[.str "writes",.str "raised"]) rfl rfl rfl,h]
def lH(w:Wd)(s:Bool):List (bB×D):=[(.inr "read",.bl (decide (w=.out) && !s)),(.inr "write",.bl (decide (w=.out) && !s)),(.inr "up",.bl (decide (w=.reads)))]
def lG(w:Wd)(s:Bool):List (bB×D):=[(.inr "down",.bl (decide (w=.writes)||decide (w=.raised))),(.inr "leave",.bl (!decide (w=.out))),(.inr "stop",.bl (s||decide (w=.rising)))]
theorem Ph{w:Wd}{s:Bool}{a0 a1 a2 a3 a6:Option D}:TF [a0,a1,a2,a3,some w.d,some (.bl s),a6] S=some (.ref S.length,S++[.dct ((lH w s).map (·.1)) ((lH w s).map (·.2))]):=by
 have e1:∀ S,bU S w.d (.str "out")=some (.bl (decide (w=.out))):=fun S=>lE (b:=.out)
 have e2:∀ S,bU S w.d (.str "reads")=some (.bl (decide (w=.reads))):=fun S=>lE (b:=.reads)
 have ka:∀ x:Bool,Ob (ic (ab 5)) [a0,a1,a2,a3,some w.d,some (.bl s),a6] (.bl x,S)=some (.bl (x && !s),S):=fun x=>by cases x <;> simp
 have kd:yA ([(.inr "read",.bl (decide (w=.out) && !s)),(.inr "write",.bl (decide (w=.out) && !s)),(.inr "up",.bl (decide (w=.reads)))],S)=some (.ref S.length,S++[.dct ((lH w s).map (·.1)) ((lH w s).map (·.2))]):=GN (l:=lH w s) (show [(Sum.inr "read":bB),.inr "write",.inr "up"].Nodup by decide +kernel) (by show 3<=15;decide)
 simp only [TF,JZ,mr,bd,ob,CZ,nY,aE,aj,bH,bM,bL,oj,ak,aq,ar,e1,ka,CY,e2,nW,CW,kd]
theorem Pg{w:Wd}{s:Bool}{a0 a1 a2 a3 a6:Option D}:TD [a0,a1,a2,a3,some w.d,some (.bl s),a6] S=some (.dct ((lG w s).map (·.1)) ((lG w s).map (·.2)),S):=by
 have e1:∀ S,ij S w.d (.str "out")=some (.bl (!decide (w=.out))):=fun S=>uq (b:=.out)
 have e2:∀ S,bU S w.d (.str "rising")=some (.bl (decide (w=.rising))):=fun S=>lE (b:=.rising)
 have k2:∀ S (x y:D),cn ([x,y],S)=some (.tup [x,y],S):=fun S x y=>aU (by simp)
 have ka:PN (au bU (ab 4) (mC (.str "rising"))) [a0,a1,a2,a3,some w.d,some (.bl s),a6] (.bl s,S)=some (.bl (s||decide (w=.rising)),S):=by cases s <;> simp [e2]
 have kd:tO ([(.inr "down",.bl (decide (w=.writes)||decide (w=.raised))),(.inr "leave",.bl (!decide (w=.out))),(.inr "stop",.bl (s||decide (w=.rising)))],S)=some (.dct ((lG w s).map (·.1)) ((lG w s).map (·.2)),S):=AR (l:=lG w s) (show [(Sum.inr "down":bB),.inr "leave",.inr "stop"].Nodup by decide +kernel) (by show 3<=15;decide)
 simp only [TD,ET,mr,bd,ob,CZ,aE,aj,bH,bM,bL,oj,ak,aq,be,ao,am,ax,al,k2,ar,KQ,CY,e1,PK,ka,nW,CW,kd]
def fP:Dd->Str
 | .ask wr _ _=>bp wr
 | .act k _=>k.s
 | .tick=>"tick"
def ba:Dd->Nat
 | .ask _ g _=>g
 | .act _ g=>g
 | .tick=>0
theorem TC{w:Wd}{s:Bool}{R:Rm}{dd:Dd}(hs:s=bu R.2 (ba dd))(hw:R.1[ba dd]?=some w)(ht:dd≠.tick):iV (cD (lH w s) (lG w s)) (.inr (fP dd))=some (.bl (ik R dd)):=by
 have hm:cD (lH w s) (lG w s)=lH w s++lG w s:=nU (show [(Sum.inr "read":bB),.inr "write",.inr "up",.inr "down",.inr "leave",.inr "stop"].Nodup by decide +kernel)
 rw [hm]
 cases dd with
 | tick=>exact absurd rfl ht
 | ask wr g t=>
  simp only [ba] at hw hs
  cases wr
  ·simp (decide:=true) [lH,lG,iV,fP,bp,ik,hw,hs]
  ·simp (decide:=true) [lH,lG,iV,fP,bp,ik,hw,hs]
 | act k g=>
  simp only [ba] at hw hs
  cases k <;> simp (decide:=true) [lH,lG,iV,fP,Ak.s,ik,hw,hs]
theorem Pf{N:List Str}(hN:N.length=7){R:Rm}{dd:Dd}(hl:R.2.length<=60)(hd:dd.Ok R.1.length):∃ T,aP N yu 2 [aQ R,dd.d] S=some (.bl (ik R dd),S++T):=by
 have hst:aA N [aQ R,dd.d]=[some (aQ R),some dd.d,none,none,none,none,none]:=by simp [aA,hN,List.replicate]
 rw [bb (show [aQ R,dd.d].length=2 from rfl),hst]
 obtain⟨ws,es⟩:=R
 have k1:∀ S (x:D),cn ([x],S)=some (.tup [x],S):=fun S x=>aU (by simp)
 have g2:∀ env S,aZ 2 (af (ah 2) (af (ah 3) (aM))) (aQ (ws,es)) env S=(af (ah 2) (af (ah 3) (aM))) [cq ws,ce es] env S:=fun env S=>cx
 by_cases ht:dd=.tick
 ·subst ht
  refine⟨[],?_⟩
  simp only [yu,aK,bf,aj,bH,bM,bL,oj,ob,ak,bg,g2,bC,aJ,cU,bW,dY,eR,bD,aD,bj,aF,aE,aq,be,ao,bd,am,ax,al,k1,ar,Dd.tick_ne,aC,bP,aX,bq,bQ,aH,List.append_nil,ik,Dh]
 ·have hf:Dh dd=false:=by cases dd <;> first | rfl | exact absurd rfl ht
  have x1:∀ S,av S dd.d (.int 1)=some (.int (ba dd:Int)):=fun S=>by cases dd <;> first | rfl | exact absurd rfl ht
  have x0:∀ S,av S dd.d (.int 0)=some (.str (fP dd)):=fun S=>by cases dd <;> first | rfl | exact absurd rfl ht
  have hg:ba dd<ws.length:=by cases dd with
   | ask _ _ _=>exact hd.1
   | act _ _=>exact hd
   | tick=>exact absurd rfl ht
  have hw:ws[ba dd]?=some ws[ba dd]:=List.getElem?_eq_getElem hg
  have xw:∀ S,av S (cq ws) (.int (ba dd:Int))=some (ws[ba dd]).d:=fun S=>rT hw
  have st:∀ (S:ac) (a4 a5 a6:Option D),yX [some (aQ (ws,es)),some dd.d,some (cq ws),some (ce es),a4,a5,a6] S=some (.bl (bu es (ba dd)),S):=fun S a4 a5 a6=>by
   simp only [yX,aE,aj,bH,bM,bL,oj,ob,ak,aq,bd,ar,x1,bV,dj,dW,gsC (es:=es) (cap:=[none]) (env:=[some (aQ (ws,es)),some dd.d,some (cq ws),some (ce es),a4,a5,a6]) rfl (by simp only at hl;omega),KU]
  have up:um (.ref S.length) [.dct ((lG (ws[ba dd]) (bu es (ba dd))).map (·.1)) ((lG (ws[ba dd]) (bu es (ba dd))).map (·.2))] (S++[.dct ((lH (ws[ba dd]) (bu es (ba dd))).map (·.1)) ((lH (ws[ba dd]) (bu es (ba dd))).map (·.2))])=some (.non,S++[.dct ((cD (lH (ws[ba dd]) (bu es (ba dd))) (lG (ws[ba dd]) (bu es (ba dd)))).map (·.1)) ((cD (lH (ws[ba dd]) (bu es (ba dd))) (lG (ws[ba dd]) (bu es (ba dd)))).map (·.2))]):=by
   rw [Op jQ (by show 3+3<=1000;decide),FB]
  have md:∀ f ms env (c:List bB) (d:List D),tL f ms env (.ref S.length,S++[.dct c d])=(ms env (S++[.dct c d])).bind (dR f (.ref S.length)):=fun f ms env c d=>Kl jQ
  have fin:av (S++[.dct ((cD (lH (ws[ba dd]) (bu es (ba dd))) (lG (ws[ba dd]) (bu es (ba dd)))).map (·.1)) ((cD (lH (ws[ba dd]) (bu es (ba dd))) (lG (ws[ba dd]) (bu es (ba dd)))).map (·.2))]) (.ref S.length) (.str (fP dd))=some (.bl (ik (ws,es) dd)):=by
   rw [SK jQ yv];exact TC rfl hw ht
  refine⟨[.dct ((cD (lH (ws[ba dd]) (bu es (ba dd))) (lG (ws[ba dd]) (bu es (ba dd)))).map (·.1)) ((cD (lH (ws[ba dd]) (bu es (ba dd))) (lG (ws[ba dd]) (bu es (ba dd)))).map (·.2))],?_⟩
  simp only [yu,aK,bf,aj,bH,bM,bL,oj,ob,ak,bg,g2,bC,aJ,cU,bW,dY,eR,bD,aD,bj,aF,aE,aq,be,ao,bd,am,ax,al,k1,ar,Dd.tick_ne,hf,aC,bI,bt,x1,xw,st,Ph,lx,JV,md,Pg,fh,up,lA,aX,x0,fin,bq,aH]
theorem mk_d{e:En}:(lN (aw (au bU (au av (ab 0) (mC (.int 1))) (mC (.str "read")))) (au aO (au aO (bE (ab 0) (bF) (ca (mC (.int 2)))) (aS (aa (mC (.int 1)) (ag)))) (bE (ab 0) (ca (mC (.int 3))) (bF))) (ab 0)) [some e.d] S=some ((if e.wr then e else { e with m:=1 }:En).d,S):=by
 have c1:jF e.d none (some 2,S)=some (.tup [.int (e.g:Nat),.str (bp e.wr)],S):=rfl
 have c2:jF e.d (some 3) (none,S)=some (.tup [bv e.t],S):=rfl
 have k1:∀ x,cn ([x],S)=some (.tup [x],S):=fun x=>aU (by simp)
 have a1:∀ x y z,aO S (.tup [x,y]) (.tup [z])=some (.tup [x,y,z]):=fun x y z=>gE (by simp)
 have a2:∀ x y z w,aO S (.tup [x,y,z]) (.tup [w])=some (.tup [x,y,z,w]):=fun x y z w=>gE (by simp)
 have wr:(bp e.wr == ("read":Str)) = !e.wr:=rB e.wr
 simp only [jc,aF,aE,aj,bH,oj,ob,ak,aq,bd,ar,En.ix1,cI,wr,aC]
 cases h:e.wr with
 | true=>simp
 | false=>
  simp only [Bool.not_false,tN,aE,cJ,aj,bH,oj,ob,ak,fM,cR,fL,dA,bd,dC,c1,aq,be,ao,am,ax,al,k1,ar,a1,c2,a2]
  unfold En.d
  simp [h]
theorem CD{N:List Str}(hN:N.length=3){w:Wd}(hl:es.length<=60):aP N kG 3 [r.d,w.d,ce es] S=some (ce (sQ r w es),S):=by
 have hst:aA N [r.d,w.d,ce es]=[some r.d,some w.d,some (ce es)]:=by simp [aA,hN]
 rw [bb (show [r.d,w.d,ce es].length=3 from rfl),hst]
 have w1:(r.w.s == ("turns":Str))=decide (r.w=.turns):=Rw.eq r.w .turns
 have e1:ij S (.str r.w.s) (.str "turns")=some (.bl (!decide (r.w=.turns))):=by rw [qh,w1]
 have e2:ij S w.d (.str "writes")=some (.bl (!decide (w=.writes))):=uq (b:=.writes)
 have k:=eY (S:=S) (t:=bX) (e:=lN (aw (au bU (au av (ab 0) (mC (.int 1))) (mC (.str "read")))) (au aO (au aO (bE (ab 0) (bF) (ca (mC (.int 2)))) (aS (aa (mC (.int 1)) (ag)))) (bE (ab 0) (ca (mC (.int 3))) (bF))) (ab 0)) (cap:=[none]) (env:=[some r.d,some w.d,some (ce es)]) (rest:=[]) (a:=none) (enc:=En.d) (p:=fun _=>true) (f:=fun e=>(if e.wr then e else { e with m:=1 }:En).d) (xs:=es) rfl (by omega) (fun x _=>jK) (fun x _ _=>mk_d)
 rw [List.filter_eq_self.mpr (fun _ _=>rfl)] at k
 have kc:mkC [some r.d,some w.d,some (ce es)] S=some (.lst (es.map fun e=>(if e.wr then e else { e with m:=1 }:En).d),S):=by
  simp only [mkC,bV,dj,aj,bH,bM,bL,oj,ob,ak,dW,k]
 unfold sQ
 by_cases h1:r.w=.turns
 ·rw [decide_eq_true h1] at e1
  by_cases h2:w=.writes
  ·rw [if_pos ⟨h1,h2⟩]
   rw [decide_eq_true h2] at e2
   simp only [kG,aK,bj,jb,aF,aE,aj,bH,bM,bL,oj,ob,ak,aq,bd,ar,Rl.ix0,e1,Bool.not_true,aC,my,e2,bI,bt,aD,aX,bR,ao,kc,am,ax,al,bS,eS,bq,aH]
   unfold ce;rw [List.map_map];rfl
  ·rw [if_neg (fun z=>h2 z.2)]
   rw [decide_eq_false h2] at e2
   simp only [kG,aK,bj,jb,aF,aE,aj,bH,bM,bL,oj,ob,ak,aq,bd,ar,Rl.ix0,e1,Bool.not_true,Bool.not_false,aC,my,e2,bP,aX,bq,bQ,aH]
 ·rw [if_neg (fun z=>h1 z.1)]
  rw [decide_eq_false h1] at e1
  simp only [kG,aK,bj,jb,aF,aE,aj,bH,bM,bL,oj,ob,ak,aq,bd,ar,Rl.ix0,e1,Bool.not_false,aC,yx,bP,aX,bq,bQ,aH]
end
end MI
namespace MI
open PySem PySem.Spec PyProof.Rows L2 M
def dX(l:List Ev):D:=.tup (l.map Ev.d)
def aW(r:Rl)(R:Rm):Rm×List Ev:=sh r (2 * R.1.length) R
def lJ(wr:Bool)(g:Nat)(t:Option Int):En:=⟨g,wr,0,if t=some 0 then some 1 else t⟩
def uI(r:Rl)(R:Rm)(wr:Bool)(g:Nat)(t:Option Int):Rm×List Ev:=
 let a:=aW r (R.1,R.2++[lJ wr g t])
 if bu a.1.2 g=false then a
 else if t=some 0 then ((a.1.1,a.1.2.filter fun e=>decide (e.g≠g)),a.2++[⟨"no",g⟩])
 else (a.1,a.2++[⟨"waits",g⟩])
def gk(e:En):En:={ e with t:=e.t.map (· - 1) }
def ia(r:Rl)(R:Rm):Rm×List Ev:=
 let a:=aW r (R.1,(R.2.map gk).filter fun e=>decide (e.t≠some 0))
 (a.1,(((R.2.map gk).filter fun e=>decide (e.t=some 0)).map fun e=>⟨"ends",e.g⟩)++a.2)
def fN(k:Ak)(g:Nat):List Ev:=match k with
 | .up=>[]
 | .stop=>[⟨"ends",g⟩]
 | .down=>[⟨"down",g⟩]
 | .leave=>[⟨"out",g⟩]
def gl(k:Ak)(w:Wd):Wd:=match k with
 | .up=>.rising
 | .down=>.reads
 | .leave=>.out
 | .stop=>if w=.rising then .reads else .out
def qq(r:Rl)(k:Ak)(w:Wd)(g:Nat)(es:List En):List En:=(if k=.down\/k=.leave then sQ r w es else es).filter fun e=>decide (e.g≠g)
def lR(r:Rl)(R:Rm)(k:Ak)(g:Nat)(w:Wd):Rm×List Ev:=
 let a:=aW r (R.1.set g (gl k w),qq r k w g R.2)
 (a.1,fN k g++a.2++(if a.1.1[g]?=some .rising then [⟨"waits",g⟩] else []))
def gj(r:Rl)(R:Rm)(dd:Dd):Option (Rm×List Ev):=
 if ik R dd=false then none else match dd with
 | .tick=>some (ia r R)
 | .ask wr g t=>some (uI r R wr g t)
 | .act k g=>if k=.up/\(r.c=0\/Wd.rising∈R.1) then some (R,[⟨"no",g⟩]) else match R.1[g]? with
  | some w=>some (lR r R k g w)
  | none=>none
theorem iH{es:List En}{g:Nat}(h:bu es g=false){e:En}(he:e∈es):e.g≠g:=fun z=>by
 have:bu es g=true:=List.any_eq_true.mpr ⟨e,he,by simp [z]⟩
 rw [h] at this;cases this
theorem ROk.filter{ws:List Wd}{es:List En}(h:ROk (ws,es))(p:En->Bool):ROk (ws,es.filter p):=
 ⟨fun e he=>h.out e (List.mem_filter.mp he).1,List.Sublist.nodup (List.Sublist.map _ (List.filter_sublist)) h.nd⟩
theorem ROk.mapE{ws:List Wd}{es:List En}(h:ROk (ws,es))(f:En->En)(hf:∀ e,(f e).g=e.g):ROk (ws,es.map f):=
 ⟨fun e he=>by obtain⟨x,hx,rfl⟩:=List.mem_map.mp he;rw [hf];exact h.out x hx,by
  show ((es.map f).map (·.g)).Nodup
  rw [List.map_map,show ((·.g) ∘ f)=(fun e:En=>e.g) from funext hf];exact h.nd⟩
theorem ROk.setW{ws:List Wd}{es:List En}(h:ROk (ws,es))(g:Nat)(w:Wd)(hg:∀ e∈es,e.g≠g):ROk (ws.set g w,es):=
 ⟨fun e he=>by show (ws.set g w)[e.g]?=_;rw [List.getElem?_set_ne (Ne.symm (hg e he))];exact h.out e he,h.nd⟩
theorem dr{r:Rl}{R:Rm}(h:ROk R):ROk (aW r R).1/\(aW r R).1.1.length=R.1.length:=IS _ h
theorem zb{R:Rm}{wr:Bool}{g:Nat}{t:Option Int}(h:ROk R)(hw:R.1[g]?=some .out)(hs:bu R.2 g=false):ROk (R.1,R.2++[lJ wr g t]):=
 ⟨fun e he=>by
  rcases List.mem_append.mp he with he | he
  ·exact h.out e he
  ·rw [List.mem_singleton.mp he];exact hw,by
  show ((R.2++[lJ wr g t]).map (·.g)).Nodup
  rw [List.map_append,List.nodup_append]
  refine⟨h.nd,by simp,fun a ha b hb=>?_⟩
  obtain⟨e,he,rfl⟩:=List.mem_map.mp ha
  simp [lJ] at hb
  rw [hb];exact iH hs he⟩
theorem RF{r:Rl}{w:Wd}{ws:List Wd}{es:List En}(h:ROk (ws,es)):ROk (ws,sQ r w es):=by
 unfold sQ;split
 ·exact h.mapE _ fun e=>by split <;> rfl
 ·exact h
theorem zf{r:Rl}{k:Ak}{w:Wd}{g:Nat}{ws:List Wd}{es:List En}(h:ROk (ws,es))(w':Wd):ROk (ws.set g w',qq r k w g es):=by
 unfold qq
 refine ROk.setW (ROk.filter ?_ _) g w' fun e he=>of_decide_eq_true (List.mem_filter.mp he).2
 split
 ·exact RF h
 ·exact h
theorem kQ{r:Rl}{R:Rm}{dd:Dd}{x:Rm×List Ev}(h:ROk R)(hx:gj r R dd=some x):ROk x.1/\x.1.1.length=R.1.length:=by
 unfold gj at hx
 split at hx
 ·cases hx
 ·rename_i hc
  have hc:ik R dd=true:=by simpa using hc
  cases dd with
  | tick=>
   cases hx
   obtain⟨a,b⟩:=dr (r:=r) (R:=(R.1,(R.2.map gk).filter fun e=>decide (e.t≠some 0))) (ROk.filter (ROk.mapE h gk fun e=>rfl) _)
   exact⟨a,b⟩
  | ask wr g t=>
   cases hx
   simp only [ik,Bool.and_eq_true,decide_eq_true_eq,Bool.not_eq_true'] at hc
   obtain⟨a,b⟩:=dr (r:=r) (zb (wr:=wr) (t:=t) h hc.1 hc.2)
   unfold uI
   dsimp only
   split
   ·exact⟨a,b⟩
   ·split
    ·exact⟨ROk.filter a _,b⟩
    ·exact⟨a,b⟩
  | act k g=>
   dsimp only at hx
   split at hx
   ·cases hx;exact⟨h,rfl⟩
   ·split at hx
    ·rename_i w hw
     cases hx
     obtain⟨a,b⟩:=dr (r:=r) (zf (r:=r) (k:=k) (w:=w) (g:=g) h (gl k w))
     exact⟨a,b.trans (by simp)⟩
    ·cases hx
def TV:ME:=bJ (da (au av (ab 1) (mC (.int 1)))) (ah 0) (bX) (au av (ab 0) (mC (.int 0))) [none]
def Eb:ME:=bJ (da (au av (ab 1) (mC (.int 1)))) (ah 0) (aw (au ij (au av (ab 0) (mC (.int 0))) (ab 1))) (ab 0) [none,some 4]
def tI(settled:PF):MS:=
 az (aG (ab 2) (aZ 3 (af (ah 3) (af (ah 4) (af (ah 5) (aM)))))) (az (aG (aS (aa (ab 4) (aa (ab 3) (aa (mC (.int 0)) (aa (lN (aw (au bU (ab 5) (mC (.int 0)))) (mC (.int 1)) (ab 5)) (ag)))))) (ah 6)) (az (aG (ai 2 settled (aa (ab 0) (aa (aS (aa (au av (ab 1) (mC (.int 0))) (aa (au aO (au av (ab 1) (mC (.int 1))) (aS (aa (ab 6) (ag)))) (ag)))) (ag)))) (aZ 2 (af (ah 1) (af (ah 7) (aM))))) (az (bG (aw (au qg (ab 4) TV)) (aV (aS (aa (ab 1) (aa (bi (aN (cm .tup)) (aa (ab 7) (ag))) (ag))))) (aY)) (az (bG (aw (au bU (ab 5) (mC (.int 0)))) (aV (aS (aa (aS (aa (au av (ab 1) (mC (.int 0))) (aa (bi (aN (cm .tup)) (aa Eb (ag))) (ag)))) (aa (bi (aN (cm .tup)) (aa (au aO (ab 7) (di (aa (aS (aa (mC (.str "no")) (aa (ab 4) (ag)))) (ag)))) (ag))) (ag))))) (aY)) (aV (aS (aa (ab 1) (aa (bi (aN (cm .tup)) (aa (au aO (ab 7) (di (aa (aS (aa (mC (.str "waits")) (aa (ab 4) (ag)))) (ag)))) (ag))) (ag)))))))))
def yR:ME:=bJ (da (ab 4)) (ah 0) (bX) (au aO (bE (ab 0) (bF) (ca (mC (.int 3)))) (aS (aa (lN (aw (au ut (au av (ab 0) (mC (.int 3))) (mC .non))) (mC .non) (au nB (au av (ab 0) (mC (.int 3))) (mC (.int 1)))) (ag)))) [none]
def DK:ME:=bJ (da (ab 5)) (ah 0) (aw (au bU (au av (ab 0) (mC (.int 3))) (mC (.int 0)))) (aS (aa (mC (.str "ends")) (aa (au av (ab 0) (mC (.int 0))) (ag)))) [none]
def DH:ME:=bJ (da (ab 5)) (ah 0) (aw (au ij (au av (ab 0) (mC (.int 3))) (mC (.int 0)))) (ab 0) [none]
def ux(settled:PF):MS:=az (aG yR (ah 5)) (az (aG DK (ah 6)) (az (aG (ai 2 settled (aa (ab 0) (aa (aS (aa (ab 3) (aa (bi (aN (cm .tup)) (aa DH (ag))) (ag)))) (ag)))) (aZ 2 (af (ah 1) (af (ah 7) (aM))))) (aV (aS (aa (ab 1) (aa (bi (aN (cm .tup)) (aa (au aO (ab 6) (ab 7)) (ag))) (ag)))))))
def yQ:ME:=au cB (di (aa (aS (aa (lN (aw (au bU (ab 8) (mC (.str "stop")))) (mC (.str "ends")) (lN (aw (au bU (ab 8) (mC (.str "down")))) (mC (.str "down")) (mC (.str "out")))) (aa (ab 9) (ag)))) (ag))) (bi (aN kP) (aa (au ij (ab 8) (mC (.str "up"))) (ag)))
def yP:ME:=au av (iG [(mC (.str "up"),mC (.str "rising")),(mC (.str "down"),mC (.str "reads")),(mC (.str "leave"),mC (.str "out")),(mC (.str "stop"),au av (di (aa (mC (.str "out")) (aa (mC (.str "reads")) (ag)))) (bi (aN kP) (aa (au bU (ab 10) (mC (.str "rising"))) (ag))))]) (ab 8)
def DF:ME:=au cB (di (aa (aS (aa (mC (.str "waits")) (aa (ab 9) (ag)))) (ag))) (bi (aN kP) (aa (au bU (au av (au av (ab 1) (mC (.int 0))) (ab 9)) (mC (.str "rising"))) (ag)))
def DJ:ME:=bJ (da (ab 4)) (ah 0) (aw (au ij (au av (ab 0) (mC (.int 0))) (ab 1))) (ab 0) [none,some 9]
def LI(settled marked put:PF):MS:=az (aG (au av (ab 3) (ab 9)) (ah 10)) (az (aG yQ (ah 11)) (az (bG (aw (au oo (ab 8) (aS (aa (mC (.str "down")) (aa (mC (.str "leave")) (ag)))))) (aG (ai 3 marked (aa (ab 0) (aa (ab 10) (aa (ab 4) (ag))))) (ah 4)) (aY)) (az (aG (bi (aN (cm .tup)) (aa DJ (ag))) (ah 4)) (az (aG yP (ah 12)) (az (aG (ai 2 settled (aa (ab 0) (aa (aS (aa (ai 3 put (aa (ab 3) (aa (ab 9) (aa (ab 12) (ag))))) (aa (ab 4) (ag)))) (ag)))) (aZ 2 (af (ah 1) (af (ah 7) (aM))))) (az (aG DF (ah 13)) (aV (aS (aa (ab 1) (aa (bi (aN (cm .tup)) (aa (au aO (au aO (ab 11) (ab 7)) (ab 13)) (ag))) (ag)))))))))))
def jL(can asked settled marked put:PF):MS:=
 az (bG (du (cS (ai 2 can (aa (ab 1) (aa (ab 2) (ag)))))) (aV (mC .non)) (aY)) (az (aG (ab 1) (aZ 2 (af (ah 3) (af (ah 4) (aM))))) (az (bG (aw (au bU (au av (ab 2) (mC (.int 0))) (mC (.str "tick")))) (ux settled) (aY)) (az (aG (bE (ab 2) (bF) (ca (mC (.int 2)))) (aZ 2 (af (ah 8) (af (ah 9) (aM))))) (az (bG (aw (au oo (ab 8) (aS (aa (mC (.str "read")) (aa (mC (.str "write")) (ag)))))) (aV (ai 3 asked (aa (ab 0) (aa (ab 1) (aa (ab 2) (ag)))))) (aY)) (az (bG (cT (aw (au bU (ab 8) (mC (.str "up")))) (fH (aw (au bU (au av (ab 0) (mC (.int 3))) (mC (.int 0)))) (aw (au oo (mC (.str "rising")) (ab 3))))) (aV (aS (aa (ab 1) (aa (aS (aa (aS (aa (mC (.str "no")) (aa (ab 9) (ag)))) (ag))) (ag))))) (aY)) (LI settled marked put))))))
end MI
namespace MI
open PySem PySem.Spec PyProof.Rows L2 M
def nq(settled:PF):Prop:=∀ (S:ac) (r:Rl) (R:Rm),ROk R->R.1.length<=50->settled [r.d,aQ R] S=some (.tup [aQ (aW r R).1,.ref S.length],S++[.lst ((aW r R).2.map Ev.d)])
theorem mW{r:Rl}:∀ (n:Nat) {R:Rm},(sh r n R).2.length<=n
 | 0,R=>Nat.le_refl _
 | n+1,R=>by
  have h1:=Et (r:=r) (R:=R)
  have h2:=mW (r:=r) n (R:=(lS r R).1)
  show ((lS r R).2++(sh r n (lS r R).1).2).length<=_
  rw [List.length_append];omega
section
variable{S:ac}{ws:List Wd}{es:List En}{r:Rl}{R:Rm}
theorem jp{t:Option Int}:bU S (bv t) (.int 0)=some (.bl (decide (t=some 0))):=by
 cases t with
 | none=>exact lF rfl rfl
 | some k=>
  show bU S (.int k) (.int 0)=_
  rw [iA];congr 2;rw [Bool.eq_iff_iff];simp
theorem Bk{t:Option Int}:ij S (bv t) (.int 0)=some (.bl (!decide (t=some 0))):=by
 cases t with
 | none=>exact ur rfl rfl
 | some k=>
  show ij S (.int k) (.int 0)=_
  rw [KN];congr 3;rw [Bool.eq_iff_iff];simp
theorem Ja{g:Nat}{b:Option D}{cap:List (Option Nat)}{env:bn}(hc:uD cap env=[b,some (.int (g:Int))])(hl:es.length<=100):mB (ah 0) (aw (au ij (au av (ab 0) (mC (.int 0))) (ab 1))) (ab 0) cap env (es.map En.d,S)=some (.lst ((es.filter fun e=>decide (e.g≠g)).map En.d),S):=by
 exact eY (S:=S) (t:=aw (au ij (au av (ab 0) (mC (.int 0))) (ab 1))) (e:=ab 0) (cap:=cap) (env:=env) (rest:=[some (.int (g:Int))]) (a:=b) (enc:=En.d) (p:=fun e=>decide (e.g≠g)) (f:=En.d) (xs:=es) hc (by omega) (fun x _=>by
  have:(!((x.g:Int) == (g:Int)))=decide (x.g≠g):=by rw [Bool.eq_iff_iff];simp;omega
  simp [En.ix0,-beq_iff_eq,this]) (fun x _ _=>by simp)
theorem La{S:ac}{l:List Ev}:aN (cm .tup) [.ref S.length] (S++[.lst (l.map Ev.d)])=some (dX l,S++[.lst (l.map Ev.d)]):=qe jQ
theorem SQ{S:ac}{l:List Ev}{v:Ev}(h:l.length<=500):aO (S++[.lst (l.map Ev.d)]) (.ref S.length) (.lst [v.d])=some (.lst ((l++[v]).map Ev.d)):=by
 rw [Fe (xs:=l.map Ev.d) (ys:=[v.d]) rfl (by simp only [oU,jQ]) rfl (by simp;omega)];simp
theorem Ff{S:ac}{k l:List Ev}(h:l.length<=500)(h':k.length<=400):aO (S++[.lst (l.map Ev.d)]) (.lst (k.map Ev.d)) (.ref S.length)=some (.lst ((k++l).map Ev.d)):=by
 rw [Fe (xs:=k.map Ev.d) (ys:=l.map Ev.d) rfl rfl (by simp only [oU,jQ]) (by simp;omega)];simp
theorem Hc{g:Nat}:qg S (.int (g:Int)) (.lst (es.map fun e=>.int (e.g:Int)))=some (.bl (!bu es g)):=by
 have h:=KU (S:=S) (es:=es) (g:=g)
 have ok:(es.map fun e=>D.int (e.g:Int)).all (cK 39)=true:=by rw [List.all_eq_true];intro d hd;obtain⟨e,_,rfl⟩:=List.mem_map.mp hd;rfl
 rw [kg (ys:=es.map fun e=>D.int (e.g:Int)) rfl rfl ok] at h
 rw [Hb (ys:=es.map fun e=>D.int (e.g:Int)) rfl rfl ok]
 simp only [Option.some.injEq,D.bl.injEq] at h
 rw [h]
theorem HZ{settled:PF}(O:nq settled){N:List Str}(hN:N.length=8){wr:Bool}{g:Nat}{t:Option Int}(h:ROk R)(hl:R.1.length<=50)(hw:R.1[g]?=some .out)(hs:bu R.2 g=false) :
  ∃ T,aP N (tI settled) 3 [r.d,aQ R,(Dd.ask wr g t).d] S=some (.tup [aQ (uI r R wr g t).1,dX (uI r R wr g t).2],S++T):=by
 have hst:aA N [r.d,aQ R,(Dd.ask wr g t).d]=[some r.d,some (aQ R),some (Dd.ask wr g t).d,none,none,none,none,none]:=by simp [aA,hN,List.replicate]
 rw [bb (show [r.d,aQ R,(Dd.ask wr g t).d].length=3 from rfl),hst]
 have hA:=zb (wr:=wr) (t:=t) h hw hs
 have hO:=O S r (R.1,R.2++[lJ wr g t]) hA hl
 obtain⟨q1,q2⟩:=dr (r:=r) hA
 have qf:(aW r (R.1,R.2++[lJ wr g t])).2.length<=100:=Nat.le_trans (mW _) (by show 2 * R.1.length<=100;omega)
 have ql:(aW r (R.1,R.2++[lJ wr g t])).1.2.length<=50:=Nat.le_trans q1.len (by rw [q2];exact hl)
 unfold uI
 generalize hE:aW r (R.1,R.2++[lJ wr g t])=A at *
 obtain⟨R',evs⟩:=A
 dsimp only at *
 have k2:∀ S (x y:D),cn ([x,y],S)=some (.tup [x,y],S):=fun S x y=>aU (by simp)
 have k1:∀ S (x:D),cn ([x],S)=some (.tup [x],S):=fun S x=>aU (by simp)
 have l1:∀ S (x:D),jG ([x],S)=some (.lst [x],S):=fun S x=>cG (by simp)
 have k4:∀ S (x y z w:D),cn ([x,y,z,w],S)=some (.tup [x,y,z,w],S):=fun S x y z w=>aU (by simp)
 have g3:∀ env S,aZ 3 (af (ah 3) (af (ah 4) (af (ah 5) (aM)))) (Dd.ask wr g t).d env S=(af (ah 3) (af (ah 4) (af (ah 5) (aM)))) [.str (bp wr),.int (g:Int),bv t] env S:=fun env S=>yD
 have kif:∀ env:bn,kIf (mC (.int 1)) (ab 5) [some r.d,some (aQ R),some (Dd.ask wr g t).d,some (.str (bp wr)),some (.int (g:Int)),some (bv t),none,none] (decide (t=some 0),S)=some (bv (if t=some 0 then some 1 else t),S):=fun env=>by
  by_cases ht:t=some 0
  ·simp [ht];rfl
  ·simp [ht]
 have ad:∀ S,aO S (ce R.2) (.tup [.tup [.int (g:Int),.str (bp wr),.int 0,bv (if t=some 0 then some 1 else t)]])=some (ce (R.2++[lJ wr g t])):=fun S=>by
  have:=h.len
  rw [show ce R.2=.tup (R.2.map En.d) from rfl,gE (by simp;omega)]
  unfold ce;rw [List.map_append];rfl
 have hO':settled [r.d,.tup [cq R.1,ce (R.2++[lJ wr g t])]] S=some (.tup [aQ R',.ref S.length],S++[.lst (evs.map Ev.d)]):=hO
 have gs:∀ (T:ac) (a6:Option D),TV [some r.d,some (aQ R'),some (Dd.ask wr g t).d,some (.str (bp wr)),some (.int (g:Int)),some (bv t),a6,some (.ref S.length)] T=some (.lst (R'.2.map fun e=>.int (e.g:Int)),T):=fun T a6=>by
  simp only [TV,bV,dj,aE,aj,bH,bM,bL,oj,ob,ak,aq,bd,ar,Rm.ix1,dW,gsC (es:=R'.2) (cap:=[none]) (env:=[some r.d,some (aQ R'),some (Dd.ask wr g t).d,some (.str (bp wr)),some (.int (g:Int)),some (bv t),a6,some (.ref S.length)]) rfl (by omega)]
 have rs:∀ (T:ac) (a6:Option D),Eb [some r.d,some (aQ R'),some (Dd.ask wr g t).d,some (.str (bp wr)),some (.int (g:Int)),some (bv t),a6,some (.ref S.length)] T=some (.lst ((R'.2.filter fun e=>decide (e.g≠g)).map En.d),T):=fun T a6=>by
  simp only [Eb,bV,dj,aE,aj,bH,bM,bL,oj,ob,ak,aq,bd,ar,Rm.ix1,dW,Ja (es:=R'.2) (g:=g) (cap:=[none,some 4]) (env:=[some r.d,some (aQ R'),some (Dd.ask wr g t).d,some (.str (bp wr)),some (.int (g:Int)),some (bv t),a6,some (.ref S.length)]) rfl (by omega)]
 have no:∀ w:Str,aO (S++[.lst (evs.map Ev.d)]) (.ref S.length) (.lst [.tup [.str w,.int (g:Int)]])=some (.lst ((evs++[Ev.mk w g]).map Ev.d)):=fun w=>SQ (v:=⟨w,g⟩) (by omega)
 refine⟨[.lst (evs.map Ev.d)],?_⟩
 simp only [tI,aK,bf,aj,bH,bM,bL,oj,ob,ak,bg,g3,bC,aJ,cU,bW,dY,eR,bD,aD,be,ao,am,bd,jc,aF,aE,aq,ar,jp,aC,kif [],ax,al,k4,aB,Rm.ix0,Rm.ix1,k1,ad,k2,aR,hO',cx,bj,gs,Hc]
 cases hb:bu R'.2 g with
 | false=>simp only [Bool.not_false,bP,aX,be,ao,aj,bH,bM,bL,oj,ob,ak,am,bR,ax,al,bS,La,k2,bq,bQ,aH,if_pos]
 | true=>
  simp only [Bool.not_true,bI,bt,ob,aD,reduceCtorEq,if_neg,not_false_eq_true]
  by_cases ht:t=some 0
  ·have fe:∀ S,bU S (bv t) (.int 0)=some (.bl true):=fun S=>by rw [jp,decide_eq_true ht]
   simp only [if_pos ht,aK,bj,aF,fe,aC,bP,aX,be,ao,aj,bH,bM,bL,oj,ob,ak,am,aE,aq,bd,ar,Rm.ix0,bR,rs,ax,al,bS,eS,k2,gq,l1,no,bq,bQ,aH]
   rfl
  ·have fe:∀ S,bU S (bv t) (.int 0)=some (.bl false):=fun S=>by rw [jp,decide_eq_false ht]
   simp only [if_neg ht,aK,bj,aF,fe,aC,bI,bt,ob,aD,aX,be,ao,aj,bH,bM,bL,oj,ak,am,aE,aq,bd,ar,bR,ax,al,bS,eS,k2,gq,l1,no,bq,aH]
   rfl
end
end MI
namespace MI
open PySem PySem.Spec PyProof.Rows L2 M
structure Uf(can asked settled marked put:PF):Prop where
 c:∀ (S:ac) (R:Rm) (dd:Dd),R.2.length<=60->dd.Ok R.1.length->∃ T,can [aQ R,dd.d] S=some (.bl (ik R dd),S++T)
 a:∀ (S:ac) (r:Rl) (R:Rm) (wr:Bool) (g:Nat) (t:Option Int),ROk R->R.1.length<=50->R.1[g]?=some .out->bu R.2 g=false->∃ T,asked [r.d,aQ R,(Dd.ask wr g t).d] S=some (.tup [aQ (uI r R wr g t).1,dX (uI r R wr g t).2],S++T)
 s:nq settled
 m:∀ (S:ac) (r:Rl) (w:Wd) (es:List En),es.length<=60->marked [r.d,w.d,ce es] S=some (ce (sQ r w es),S)
 p:∀ (S:ac) (ws:List Wd) (i:Nat) (w:Wd),i<ws.length->ws.length<=100->put [cq ws,.int (i:Int),w.d] S=some (cq (ws.set i w),S)
section
variable{S:ac}{ws:List Wd}{es:List En}{r:Rl}{R:Rm}
theorem Tg{e:En}:(au aO (bE (ab 0) (bF) (ca (mC (.int 3)))) (aS (aa (lN (aw (au ut (au av (ab 0) (mC (.int 3))) (mC .non))) (mC .non) (au nB (au av (ab 0) (mC (.int 3))) (mC (.int 1)))) (ag)))) [some e.d] S=some ((gk e).d,S):=by
 have c1:jF e.d none (some 3,S)=some (.tup [.int (e.g:Nat),.str (bp e.wr),.int e.m],S):=rfl
 have k1:∀ x,cn ([x],S)=some (.tup [x],S):=fun x=>aU (by simp)
 have a2:∀ x y z w,aO S (.tup [x,y,z]) (.tup [w])=some (.tup [x,y,z,w]):=fun x y z w=>gE (by simp)
 have cu:∀ a b c d:D,iB [a,b,c,d] none (some 3)=[a,b,c]:=fun _ _ _ _=>rfl
 obtain⟨g,wr,m,t⟩:=e
 cases t with
 | none=>simp [at4,cu,bv,lB,k1,a2,gk,En.d]
 | some k=>simp [at4,cu,bv,lB,k1,a2,gk,En.d]
theorem Hw{settled:PF}(O:nq settled){a2 a5 a6 a7 a8 a9 b0 b1 b2 b3:Option D}(h:ROk R)(hl:R.1.length<=50) :
  ∃ T,(ux settled [some r.d,some (aQ R),a2,some (cq R.1),some (ce R.2),a5,a6,a7,a8,a9,b0,b1,b2,b3] S).bind Nz=some (.tup [aQ (ia r R).1,dX (ia r R).2],S++T)/\ux settled [some r.d,some (aQ R),a2,some (cq R.1),some (ce R.2),a5,a6,a7,a8,a9,b0,b1,b2,b3] S=some (.rt (.tup [aQ (ia r R).1,dX (ia r R).2]) (S++T)):=by
 have hle:=h.len
 have f1:yR [some r.d,some (aQ R),a2,some (cq R.1),some (ce R.2),a5,a6,a7,a8,a9,b0,b1,b2,b3] S=some (.lst ((R.2.map gk).map En.d),S):=by
  have k:=eY (S:=S) (t:=bX) (e:=au aO (bE (ab 0) (bF) (ca (mC (.int 3)))) (aS (aa (lN (aw (au ut (au av (ab 0) (mC (.int 3))) (mC .non))) (mC .non) (au nB (au av (ab 0) (mC (.int 3))) (mC (.int 1)))) (ag)))) (cap:=[none]) (env:=[some r.d,some (aQ R),a2,some (cq R.1),some (ce R.2),a5,a6,a7,a8,a9,b0,b1,b2,b3]) (rest:=[]) (a:=none) (enc:=En.d) (p:=fun _=>true) (f:=fun e=>(gk e).d) (xs:=R.2) rfl (by omega) (fun x _=>jK) (fun x _ _=>Tg)
  rw [List.filter_eq_self.mpr (fun _ _=>rfl)] at k
  simp only [yR,bV,dj,aj,bH,bM,bL,oj,ob,ak,dW,k,List.map_map]
  rfl
 generalize hF:R.2.map gk=fs at f1
 have hfl:fs.length<=50:=by rw [<- hF,List.length_map];omega
 have k2:∀ S (x y:D),cn ([x,y],S)=some (.tup [x,y],S):=fun S x y=>aU (by simp)
 have f2:DK [some r.d,some (aQ R),a2,some (cq R.1),some (ce R.2),some (.lst (fs.map En.d)),a6,a7,a8,a9,b0,b1,b2,b3] S=some (.lst (((fs.filter fun e=>decide (e.t=some 0)).map fun e=>Ev.mk "ends" e.g).map Ev.d),S):=by
  have k:=eY (S:=S) (t:=aw (au bU (au av (ab 0) (mC (.int 3))) (mC (.int 0)))) (e:=aS (aa (mC (.str "ends")) (aa (au av (ab 0) (mC (.int 0))) (ag)))) (cap:=[none]) (env:=[some r.d,some (aQ R),a2,some (cq R.1),some (ce R.2),some (.lst (fs.map En.d)),a6,a7,a8,a9,b0,b1,b2,b3]) (rest:=[]) (a:=none) (enc:=En.d) (p:=fun e=>decide (e.t=some 0)) (f:=fun e=>(Ev.mk "ends" e.g).d) (xs:=fs) rfl (by omega) (fun x _=>by simp [En.ix3,jp]) (fun x _ _=>by simp [En.ix0,k2,Ev.d])
  simp only [DK,bV,dj,aj,bH,bM,bL,oj,ob,ak,yy,k,List.map_map]
  rfl
 have f3:∀ a6,DH [some r.d,some (aQ R),a2,some (cq R.1),some (ce R.2),some (.lst (fs.map En.d)),a6,a7,a8,a9,b0,b1,b2,b3] S=some (.lst ((fs.filter fun e=>decide (e.t≠some 0)).map En.d),S):=fun a6=>by
  have k:=eY (S:=S) (t:=aw (au ij (au av (ab 0) (mC (.int 3))) (mC (.int 0)))) (e:=ab 0) (cap:=[none]) (env:=[some r.d,some (aQ R),a2,some (cq R.1),some (ce R.2),some (.lst (fs.map En.d)),a6,a7,a8,a9,b0,b1,b2,b3]) (rest:=[]) (a:=none) (enc:=En.d) (p:=fun e=>decide (e.t≠some 0)) (f:=En.d) (xs:=fs) rfl (by omega) (fun x _=>by simp [En.ix3,Bk]) (fun x _ _=>by simp)
  simp only [DH,bV,dj,aj,bH,bM,bL,oj,ob,ak,yy,k]
 have hA:ROk (R.1,fs.filter fun e=>decide (e.t≠some 0)):=by rw [<- hF];exact ROk.filter (ROk.mapE h gk fun e=>rfl) _
 have hO:=O S r (R.1,fs.filter fun e=>decide (e.t≠some 0)) hA hl
 have qf:(aW r (R.1,fs.filter fun e=>decide (e.t≠some 0))).2.length<=100:=Nat.le_trans (mW _) (by show 2 * R.1.length<=100;omega)
 unfold ia
 rw [hF]
 generalize hE:aW r (R.1,fs.filter fun e=>decide (e.t≠some 0))=A at *
 obtain⟨R',evs⟩:=A
 dsimp only at *
 have hO':settled [r.d,.tup [cq R.1,.tup ((fs.filter fun e=>decide (e.t≠some 0)).map En.d)]] S=some (.tup [aQ R',.ref S.length],S++[.lst (evs.map Ev.d)]):=hO
 have ad:=Ff (S:=S) (k:=(fs.filter fun e=>decide (e.t=some 0)).map fun e=>Ev.mk "ends" e.g) (l:=evs) (by omega) (by rw [List.length_map];exact Nat.le_trans (List.length_filter_le _ _) (by omega))
 have key:ux settled [some r.d,some (aQ R),a2,some (cq R.1),some (ce R.2),a5,a6,a7,a8,a9,b0,b1,b2,b3] S=some (.rt (.tup [aQ R',dX (((fs.filter fun e=>decide (e.t=some 0)).map fun e=>Ev.mk "ends" e.g)++evs)]) (S++[.lst (evs.map Ev.d)])):=by
  simp only [ux,aK,bf,f1,ob,bg,aJ,dY,eR,bD,aD,f2,aB,ao,aj,bH,bM,bL,oj,ak,am,be,bR,f3,ax,al,bS,eS,k2,aR,hO',cx,bC,cU,bW,aX,aE,aq,ar,ad,bq]
  rfl
 exact⟨[.lst (evs.map Ev.d)],by rw [key,ob,aH],key⟩
theorem yH{xs:List D}{k:Int}(h0:0<=k)(h1:k<=100000)(h:xs.length * k.toNat<=1000):cB S (.lst xs) (.int k)=some (.lst (List.replicate k.toNat xs).flatten):=if_pos ⟨by omega,by omega,sz h⟩
theorem KO{x:D}{b:Bool}:cB S (.lst [x]) (.int (if b=true then 1 else 0))=some (.lst (if b=true then [x] else [])):=by
 cases b
 ·exact yH (by decide) (by decide) (by simp)
 ·exact yH (by decide) (by decide) (by simp)
theorem akS(k j:Ak):(k.s == j.s)=decide (k=j):=by cases k <;> cases j <;> decide +kernel
theorem yI{k j:Ak}:bU S (.str k.s) (.str j.s)=some (.bl (decide (k=j))):=by rw [cI,akS]
theorem DL{k:Ak}{g:Nat}{a0 a1 a2 a3 a4 a5 a6 a7 b0 b1 b2 b3:Option D}:yQ [a0,a1,a2,a3,a4,a5,a6,a7,some (.str k.s),some (.int (g:Int)),b0,b1,b2,b3] S=some (.lst ((fN k g).map Ev.d),S):=by
 have e1:bU S (.str k.s) (.str "stop")=some (.bl (decide (k=.stop))):=yI (j:=.stop)
 have e2:bU S (.str k.s) (.str "down")=some (.bl (decide (k=.down))):=yI (j:=.down)
 have e3:ij S (.str k.s) (.str "up")=some (.bl (!decide (k=.up))):=by rw [qh];exact congrArg (fun b=>some (D.bl (!b))) (akS k .up)
 have k2:∀ S (x y:D),cn ([x,y],S)=some (.tup [x,y],S):=fun S x y=>aU (by simp)
 have l1:∀ S (x:D),jG ([x],S)=some (.lst [x],S):=fun S x=>cG (by simp)
 cases k <;> simp only [yQ,aE,gq,ao,be,jc,aF,aj,bH,bM,bL,oj,ob,ak,aq,bd,ar,e1,e2,e3,aC,reduceCtorEq,decide_false,decide_true,tN,wp,am,ax,al,k2,l1,bR,bS,pv,KO,fN] <;> rfl
theorem DD{k:Ak}{w:Wd}{a0 a1 a2 a3 a4 a5 a6 a7 a9 b1 b2 b3:Option D}:yP [a0,a1,a2,a3,a4,a5,a6,a7,some (.str k.s),a9,some w.d,b1,b2,b3] S=some ((gl k w).d,S):=by
 have e1:bU S w.d (.str "rising")=some (.bl (decide (w=.rising))):=lE (b:=.rising)
 have l2:∀ S (x y:D),jG ([x,y],S)=some (.lst [x,y],S):=fun S x y=>cG (by simp)
 have ix:av S (.lst [.str "out",.str "reads"]) (.int (if decide (w=.rising)=true then 1 else 0))=some (if w=.rising then Wd.reads else Wd.out).d:=by by_cases h:w=.rising <;> simp [h] <;> rfl
 have kd:∀ x,tO ([(.inr "up",.str "rising"),(.inr "down",.str "reads"),(.inr "leave",.str "out"),(.inr "stop",x)],S)=some (.dct ([((Sum.inr "up":bB),D.str "rising"),(.inr "down",.str "reads"),(.inr "leave",.str "out"),(.inr "stop",x)].map (·.1)) ([((Sum.inr "up":bB),D.str "rising"),(.inr "down",.str "reads"),(.inr "leave",.str "out"),(.inr "stop",x)].map (·.2)),S):=fun x=>AR (show [(Sum.inr "up":bB),.inr "down",.inr "leave",.inr "stop"].Nodup by decide +kernel) (by show 4<=15;decide)
 have fx:∀ x,av S (.dct ([((Sum.inr "up":bB),D.str "rising"),(.inr "down",.str "reads"),(.inr "leave",.str "out"),(.inr "stop",x)].map (·.1)) ([((Sum.inr "up":bB),D.str "rising"),(.inr "down",.str "reads"),(.inr "leave",.str "out"),(.inr "stop",x)].map (·.2))) (.str k.s)=some (match k with | .up=>.str "rising" | .down=>.str "reads" | .leave=>.str "out" | .stop=>x):=fun x=>by
  rw [fIx_d yv];cases k <;> simp (decide:=true) [Ak.s]
 simp only [yP,aE,ET,mr,bd,ob,CZ,CY,gq,ao,am,ax,al,l2,aq,bR,aj,bH,bM,bL,oj,ak,ar,e1,bS,pv,ix,nW,CW,kd,fx]
 cases k <;> rfl
theorem Hx{g:Nat}{R':Rm}{w:Wd}{a0 a2 a3 a4 a5 a6 a7 a8 b0 b1 b2 b3:Option D}(hw:R'.1[g]?=some w):DF [a0,some (aQ R'),a2,a3,a4,a5,a6,a7,a8,some (.int (g:Int)),b0,b1,b2,b3] S=some (.lst ((if w=.rising then [Ev.mk "waits" g] else []).map Ev.d),S):=by
 have k2:∀ S (x y:D),cn ([x,y],S)=some (.tup [x,y],S):=fun S x y=>aU (by simp)
 have l1:∀ S (x:D),jG ([x],S)=some (.lst [x],S):=fun S x=>cG (by simp)
 have x1:av S (cq R'.1) (.int (g:Int))=some w.d:=rT hw
 have e1:bU S w.d (.str "rising")=some (.bl (decide (w=.rising))):=lE (b:=.rising)
 simp only [DF,aE,gq,ao,be,bd,ob,am,aj,bH,bM,bL,oj,ak,ax,al,k2,l1,aq,bR,ar,Rm.ix0,x1,e1,bS,pv,KO]
 by_cases h:w=.rising <;> simp [h] <;> rfl
theorem Hy{g:Nat}{a0 a1 a2 a3 a5 a6 a7 a8 b0 b1 b2 b3:Option D}(hl:es.length<=100):DJ [a0,a1,a2,a3,some (ce es),a5,a6,a7,a8,some (.int (g:Int)),b0,b1,b2,b3] S=some (.lst ((es.filter fun e=>decide (e.g≠g)).map En.d),S):=by
 simp only [DJ,bV,dj,aj,bH,bM,bL,oj,ob,ak,dW,Ja (es:=es) (g:=g) (cap:=[none,some 9]) (env:=[a0,a1,a2,a3,some (ce es),a5,a6,a7,a8,some (.int (g:Int)),b0,b1,b2,b3]) rfl hl]
theorem SO{k:Ak}:oo S (.str k.s) (.tup [.str "down",.str "leave"])=some (.bl (decide (k=.down\/k=.leave))):=by
 have h:([D.str "down",D.str "leave"].any fun d=>jD d (.str k.s))=decide (k=.down\/k=.leave):=by cases k <;> decide +kernel
 rw [kg (ys:=[.str "down",.str "leave"]) rfl rfl rfl,h]
theorem NO{w:Wd}:(sQ r w es).length=es.length:=by unfold sQ;split <;> simp
theorem LH{can asked settled marked put:PF}(O:Uf can asked settled marked put){k:Ak}{g:Nat}{w:Wd}{a2 a5 a6 a7 b0 b1 b2 b3:Option D}(h:ROk R)(hl:R.1.length<=50)(hw:R.1[g]?=some w) :
  ∃ T,LI settled marked put [some r.d,some (aQ R),a2,some (cq R.1),some (ce R.2),a5,a6,a7,some (.str k.s),some (.int (g:Int)),b0,b1,b2,b3] S=some (.rt (.tup [aQ (lR r R k g w).1,dX (lR r R k g w).2]) (S++T)):=by
 have hle:=h.len
 have hg:g<R.1.length:=(List.getElem?_eq_some_iff.mp hw).1
 have x1:∀ S,av S (cq R.1) (.int (g:Int))=some w.d:=fun S=>rT hw
 have k2:∀ S (x y:D),cn ([x,y],S)=some (.tup [x,y],S):=fun S x y=>aU (by simp)
 have mk:∀ env S,env=[some r.d,some (aQ R),a2,some (cq R.1),some (ce R.2),a5,a6,a7,some (.str k.s),some (.int (g:Int)),some w.d,some (.lst ((fN k g).map Ev.d)),b2,b3]->bG (aw (au oo (ab 8) (aS (aa (mC (.str "down")) (aa (mC (.str "leave")) (ag)))))) (aG (ai 3 marked (aa (ab 0) (aa (ab 10) (aa (ab 4) (ag))))) (ah 4)) (aY) env S=some (.nx [some r.d,some (aQ R),a2,some (cq R.1),some (ce (if k=.down\/k=.leave then sQ r w R.2 else R.2)),a5,a6,a7,some (.str k.s),some (.int (g:Int)),some w.d,some (.lst ((fN k g).map Ev.d)),b2,b3] S):=fun env S he=>by
  subst he
  simp only [bj,aF,aE,aj,bH,bM,bL,oj,ob,ak,aq,be,ao,bd,am,ax,al,k2,ar,SO,aC]
  by_cases hk:k=.down\/k=.leave
  ·rw [decide_eq_true hk,if_pos hk]
   simp only [bP,bf,aB,ao,aj,bH,bM,bL,oj,ob,ak,am,ax,al,bx,O.m S r w R.2 (by omega),bg,aJ,dY,eR,bD]
  ·rw [decide_eq_false hk,if_neg hk]
   simp only [bI,bt]
 have hel:(if k=.down\/k=.leave then sQ r w R.2 else R.2).length<=100:=by split <;> (try rw [NO]) <;> omega
 have hA:=zf (r:=r) (k:=k) (w:=w) (g:=g) h (gl k w)
 have hO:=O.s S r (R.1.set g (gl k w),qq r k w g R.2) hA (by simp;exact hl)
 obtain⟨q1,q2⟩:=dr (r:=r) hA
 have qf:(aW r (R.1.set g (gl k w),qq r k w g R.2)).2.length<=100:=Nat.le_trans (mW _) (by show 2 * (R.1.set g (gl k w)).length<=100;rw [List.length_set];omega)
 have pp:∀ S,put [cq R.1,.int (g:Int),(gl k w).d] S=some (cq (R.1.set g (gl k w)),S):=fun S=>O.p S R.1 g _ hg (by omega)
 unfold lR
 generalize hE:aW r (R.1.set g (gl k w),qq r k w g R.2)=A at *
 obtain⟨R',evs⟩:=A
 dsimp only at *
 have hg':g<R'.1.length:=by rw [q2,List.length_set];exact hg
 have hw':R'.1[g]?=some R'.1[g]:=List.getElem?_eq_getElem hg'
 have hO':settled [r.d,.tup [cq (R.1.set g (gl k w)),.tup (((if k=.down\/k=.leave then sQ r w R.2 else R.2).filter fun e=>decide (e.g≠g)).map En.d)]] S=some (.tup [aQ R',.ref S.length],S++[.lst (evs.map Ev.d)]):=hO
 have fl:(fN k g).length<=1:=by cases k <;> simp [fN]
 have ad:=Ff (S:=S) (k:=fN k g) (l:=evs) (by omega) (by omega)
 have ad2:aO (S++[.lst (evs.map Ev.d)]) (.lst ((fN k g++evs).map Ev.d)) (.lst ((if R'.1[g]=.rising then [Ev.mk "waits" g] else []).map Ev.d))=some (.lst ((fN k g++evs++(if R'.1[g]=.rising then [Ev.mk "waits" g] else [])).map Ev.d)):=by
  rw [Dr (by rw [List.length_map,List.length_map,List.length_append];split <;> simp <;> omega),<- List.map_append]
 refine⟨[.lst (evs.map Ev.d)],?_⟩
 rw [hw']
 simp only [LI,aK,bf,aE,aj,bH,bM,bL,oj,ob,ak,aq,ar,x1,bg,aJ,dY,eR,bD,aD,DL,mk _ _ rfl,bR,ao,Hy hel,am,ax,al,bS,eS,DD,aB,be,bx,pp,k2,aR,hO',cx,bC,cU,bW,Hx hw',aX,ad,ad2,bq,Option.some.injEq]
 rfl
theorem vO{S:ac}:oo S (.str "rising") (cq ws)=some (.bl (decide (Wd.rising∈ws))):=by
 rw [kg (ys:=ws.map Wd.d) rfl rfl RB]
 congr 2
 rw [List.any_map]
 induction ws with
 | nil=>rfl
 | cons a l ih=>
  rw [List.any_cons,ih]
  show (jD a.d (Wd.rising).d||_)=_
  rw [SS,Bool.eq_iff_iff]
  simp
  constructor
  ·rintro(h | h)
   ·exact .inl h.symm
   ·exact .inr h
  ·rintro(h | h)
   ·exact .inl h.symm
   ·exact .inr h
theorem Bu{dd:Dd}(h:dd≠.tick):(fP dd == ("tick":Str))=false:=by
 cases dd with
 | tick=>exact absurd rfl h
 | ask wr g t=>show (bp wr == ("tick":Str))=false;cases wr <;> decide +kernel
 | act k g=>show (k.s == ("tick":Str))=false;cases k <;> decide +kernel
theorem KS{x:Str}{b:Bool}(hb:([D.str "read",D.str "write"].any fun d=>jD d (.str x))=b):oo S (.str x) (.tup [.str "read",.str "write"])=some (.bl b):=by
 rw [kg (ys:=[.str "read",.str "write"]) rfl rfl rfl,hb]
def gM:Option (Rm×List Ev)->D
 | none=>.non
 | some x=>.tup [aQ x.1,dX x.2]
theorem LG{can asked settled marked put:PF}(O:Uf can asked settled marked put){N:List Str}(hN:N.length=14){dd:Dd}(h:ROk R)(hl:R.1.length<=50)(hd:dd.Ok R.1.length) :
  ∃ T,aP N (jL can asked settled marked put) 3 [r.d,aQ R,dd.d] S=some (gM (gj r R dd),S++T):=by
 have hst:aA N [r.d,aQ R,dd.d]=[some r.d,some (aQ R),some dd.d,none,none,none,none,none,none,none,none,none,none,none]:=by simp [aA,hN,List.replicate]
 rw [bb (show [r.d,aQ R,dd.d].length=3 from rfl),hst]
 have hle:=h.len
 obtain⟨T0,hc⟩:=O.c S R dd (by omega) hd
 have g2:∀ env S,aZ 2 (af (ah 3) (af (ah 4) (aM))) (aQ R) env S=(af (ah 3) (af (ah 4) (aM))) [cq R.1,ce R.2] env S:=fun env S=>cx
 have k2:∀ S (x y:D),cn ([x,y],S)=some (.tup [x,y],S):=fun S x y=>aU (by simp)
 have k1:∀ S (x:D),cn ([x],S)=some (.tup [x],S):=fun S x=>aU (by simp)
 unfold gj
 cases hb:ik R dd with
 | false=>
  rw [hb] at hc
  refine⟨T0,?_⟩
  simp only [jL,aK,bj,hV,dw,aB,ao,aj,bH,bM,bL,oj,ob,ak,am,ax,al,aR,hc,eh,hZ,Bool.not_false,bP,aX,bd,bq,bQ,aH,if_pos,gM]
 | true=>
  rw [hb] at hc
  rw [if_neg (by decide)]
  by_cases ht:dd=.tick
  ·subst ht
   have xt:∀ S,av S (Dd.tick).d (.int 0)=some (.str "tick"):=fun S=>rfl
   have et:∀ S,bU S (.str "tick") (.str "tick")=some (.bl true):=fun S=>by rw [cI,beq_self_eq_true]
   obtain⟨T,_,e⟩:=Hw O.s (S:=S++T0) (r:=r) (R:=R) (a2:=some (Dd.tick).d) (a5:=none) (a6:=none) (a7:=none) (a8:=none) (a9:=none) (b0:=none) (b1:=none) (b2:=none) (b3:=none) h hl
   refine⟨T0++T,?_⟩
   simp only [jL,aK,bj,hV,dw,aB,ao,aj,bH,bM,bL,oj,ob,ak,am,ax,al,aR,hc,eh,hZ,Bool.not_true,bI,bt,aD,bf,bg,g2,bC,aJ,cU,bW,dY,eR,bD,aF,aE,aq,bd,ar,xt,et,aC,bP,e,bQ,aH,List.append_assoc,gM]
  ·have et0:=Bu ht
   cases dd with
   | tick=>exact absurd rfl ht
   | ask wr g t=>
    have x0:∀ S,av S (Dd.ask wr g t).d (.int 0)=some (.str (bp wr)):=fun S=>rfl
    have et:∀ S,bU S (.str (bp wr)) (.str "tick")=some (.bl false):=fun S=>by rw [cI];exact congrArg (fun b=>some (D.bl b)) et0
    have sl:∀ S,jF (Dd.ask wr g t).d none (some 2,S)=some (.tup [.str (bp wr),.int (g:Int)],S):=fun S=>rfl
    simp only [ik,Bool.and_eq_true,decide_eq_true_eq,Bool.not_eq_true'] at hb
    obtain⟨T,e⟩:=O.a (S++T0) r R wr g t h hl hb.1 hb.2
    have fi:∀ S,oo S (.str (bp wr)) (.tup [.str "read",.str "write"])=some (.bl true):=fun S=>KS (by cases wr <;> decide +kernel)
    refine⟨T0++T,?_⟩
    simp only [jL,aK,bj,hV,dw,aB,ao,aj,bH,bM,bL,oj,ob,ak,am,ax,al,aR,hc,eh,hZ,Bool.not_true,bI,bt,aD,bf,bg,g2,bC,aJ,cU,bW,dY,eR,bD,aF,aE,aq,bd,ar,x0,et,aC,cJ,fM,cR,fL,dA,dC,sl,cx,be,k2,fi,bP,aX,bx,e,bq,bQ,aH,List.append_assoc,gM]
   | act k g=>
    have x0:∀ S,av S (Dd.act k g).d (.int 0)=some (.str k.s):=fun S=>rfl
    have et:∀ S,bU S (.str k.s) (.str "tick")=some (.bl false):=fun S=>by rw [cI];exact congrArg (fun b=>some (D.bl b)) et0
    have sl:∀ S,jF (Dd.act k g).d none (some 2,S)=some (.tup [.str k.s,.int (g:Int)],S):=fun S=>rfl
    have fi:∀ S,oo S (.str k.s) (.tup [.str "read",.str "write"])=some (.bl false):=fun S=>KS (by cases k <;> decide +kernel)
    have fu:∀ S,bU S (.str k.s) (.str "up")=some (.bl (decide (k=.up))):=fun S=>yI (j:=.up)
    have fc:(r.c == 0)=decide (r.c=0):=rfl
    have hg:g<R.1.length:=hd
    have hw:R.1[g]?=some R.1[g]:=List.getElem?_eq_getElem hg
    have ev1:D.tup [.tup [.str "no",.int (g:Int)]]=dX [⟨"no",g⟩]:=rfl
    obtain⟨T,e⟩:=LH O (S:=S++T0) (r:=r) (R:=R) (k:=k) (g:=g) (a2:=some (Dd.act k g).d) (a5:=none) (a6:=none) (a7:=none) (b0:=none) (b1:=none) (b2:=none) (b3:=none) h hl hw
    by_cases hu:k=.up/\(r.c=0\/Wd.rising∈R.1)
    ·refine⟨T0,?_⟩
     dsimp only
     rw [if_pos hu]
     have hu1:=decide_eq_true hu.1
     by_cases hz:r.c=0
     ·simp only [jL,aK,bj,hV,dw,aB,ao,aj,bH,bM,bL,oj,ob,ak,am,ax,al,aR,hc,eh,hZ,Bool.not_true,bI,bt,aD,bf,bg,g2,bC,aJ,cU,bW,dY,eR,bD,aF,aE,aq,bd,ar,x0,et,aC,cJ,fM,cR,fL,dA,dC,sl,cx,be,k2,fi,hX,fu,hu1,jM,jb,Rl.ix3,iA,fc,decide_eq_true hz,yx,bP,aX,k1,bq,bQ,aH,gM,ev1]
     ·have hr:Wd.rising∈R.1:=hu.2.resolve_left hz
      simp only [jL,aK,bj,hV,dw,aB,ao,aj,bH,bM,bL,oj,ob,ak,am,ax,al,aR,hc,eh,hZ,Bool.not_true,bI,bt,aD,bf,bg,g2,bC,aJ,cU,bW,dY,eR,bD,aF,aE,aq,bd,ar,x0,et,aC,cJ,fM,cR,fL,dA,dC,sl,cx,be,k2,fi,hX,fu,hu1,jM,jb,Rl.ix3,iA,fc,decide_eq_false hz,my,vO,decide_eq_true hr,bP,aX,k1,bq,bQ,aH,gM,ev1]
    ·refine⟨T0++T,?_⟩
     dsimp only
     rw [if_neg hu,hw]
     dsimp only
     have tst:∀ (T:ac) (a5 a6 a7 b0 b1 b2 b3:Option D),cT (aw (au bU (ab 8) (mC (.str "up")))) (fH (aw (au bU (au av (ab 0) (mC (.int 3))) (mC (.int 0)))) (aw (au oo (mC (.str "rising")) (ab 3)))) [some r.d,some (aQ R),some (Dd.act k g).d,some (cq R.1),some (ce R.2),a5,a6,a7,some (.str k.s),some (.int (g:Int)),b0,b1,b2,b3] T=some (false,T):=fun T a5 a6 a7 b0 b1 b2 b3=>by
      simp only [hX,aF,aE,aj,bH,bM,bL,oj,ob,ak,aq,bd,ar,fu,aC]
      by_cases hk:k=.up
      ·have hz:¬ r.c=0:=fun z=>hu ⟨hk,.inl z⟩
       have hr:¬ Wd.rising∈R.1:=fun z=>hu ⟨hk,.inr z⟩
       rw [decide_eq_true hk]
       simp only [jM,jb,aF,aE,aj,bH,bM,bL,oj,ob,ak,aq,bd,ar,Rl.ix3,iA,fc,decide_eq_false hz,aC,my,vO,decide_eq_false hr]
      ·rw [decide_eq_false hk,rO]
     simp only [jL,aK,bj,hV,dw,aB,ao,aj,bH,bM,bL,oj,ob,ak,am,ax,al,aR,hc,eh,hZ,Bool.not_true,bI,bt,aD,bf,bg,g2,bC,aJ,cU,bW,dY,eR,bD,aF,aE,aq,bd,ar,x0,et,aC,cJ,fM,cR,fL,dA,dC,sl,cx,be,k2,fi,tst,e,aH,List.append_assoc,gM]
end
end MI
namespace MI
open PySem PySem.Spec PyProof.Rows L2 M
def Grow(r:Nat)(S S':ac):Prop:=S.length<=S'.length/\∀ j,j<S.length->j≠r->S'[j]?=S[j]?
theorem Grow.of{r:Nat}{S S':ac}(h:Keep r S S'):Grow r S S':=⟨Nat.le_of_eq h.2.symm,fun j _ hj=>h.1 j hj⟩
theorem Grow.trans{r:Nat}{S S' S'':ac}(h:Grow r S S')(h':Grow r S' S''):Grow r S S'':=⟨Nat.le_trans h.1 h'.1,fun j hj hr=>(h'.2 j (Nat.lt_of_lt_of_le hj h.1) hr).trans (h.2 j hj hr)⟩
theorem Pk.appT{S T:ac}{r:Nat}(h:Pk S r):Pk (S++T) r:=by
 obtain⟨a,b,d,h,z⟩:=h
 exact⟨a,b,d,by rw [List.getElem?_append_left (List.getElem?_eq_some_iff.mp h).1];exact h,z⟩
theorem Pk.lt{S:ac}{r:Nat}(h:Pk S r):r<S.length:=by
 obtain⟨a,b,d,h,z⟩:=h
 exact(List.getElem?_eq_some_iff.mp h).1
theorem at_rw{q:Int}(h0:0<=q)(h1:q<8):∃ w:Wd,lc dM q=some w.d:=by
 obtain rfl | rfl | rfl | rfl | rfl | rfl | rfl | rfl:q=0\/q=1\/q=2\/q=3\/q=4\/q=5\/q=6\/q=7:=by omega
 ·exact⟨.out,rfl⟩
 ·exact⟨.out,rfl⟩
 ·exact⟨.out,rfl⟩
 ·exact⟨.reads,rfl⟩
 ·exact⟨.reads,rfl⟩
 ·exact⟨.rising,rfl⟩
 ·exact⟨.writes,rfl⟩
 ·exact⟨.raised,rfl⟩
theorem Ei{pick:PF}(hp:qt pick){r:Nat}:∀ (l:List D) (a:Option D) (S:ac),Pk S r->∃ (ws:List Wd) (S':ac),dk (ah 0) bX (au av (ab 2) (ai 2 pick (aa (ab 1) (aa (mC (.int 8)) (ag))))) l [a,some (.ref r),some (.lst dM)] S=some (ws.map Wd.d,S')/\ws.length=l.length/\Pk S' r/\Keep r S S'
 | [],a,S,h=>⟨[],S,rfl,rfl,h,Keep.refl⟩
 | d::l,a,S,h=>by
  obtain⟨q,S1,e1,l1,g1,P1,K1⟩:=hp _ _ 8 h (by decide) (by decide)
  obtain⟨w,i1⟩:=at_rw l1 g1
  obtain⟨ws,S',e,hl,P',K'⟩:=Ei hp l (some d) S1 P1
  refine⟨w::ws,S',?_,by simp [hl],P',Keep.trans K1 K'⟩
  rw [gc]
  simp only [aJ,dY,ob,tS,jK,tR,aE,aj,bH,bM,bL,oj,ak,aq,aB,ao,am,bd,ax,al,aR,e1,ar,Fd,i1,tQ,e,tP,List.map_cons]
def qc(pick:PF):MS:=bG (cT (aw (au bU (au av (ab 3) (ab 5)) (mC (.str "out")))) (aw (au fGt (ai 2 pick (aa (ab 0) (aa (mC (.int 4)) (ag)))) (mC (.int 0))))) (az (aG (au av (di (aa (mC (.str "read")) (aa (mC (.str "write")) (ag)))) (ai 2 pick (aa (ab 0) (aa (mC (.int 2)) (ag))))) (ah 6)) (az (aG (au av (di (aa (mC (.int 0)) (aa (mC (.int 0)) (aa (mC (.int 1)) (aa (mC (.int 1)) (aa (mC (.int 2)) (aa (mC (.int 8)) (aa (mC (.int 9)) (aa (mC (.int 999)) (ag)))))))))) (ai 2 pick (aa (ab 0) (aa (mC (.int 8)) (ag))))) (ah 7)) (az (aG (aS (aa (ab 5) (aa (ab 6) (aa (ab 7) (aa (au av (di (aa (mC .non) (aa (mC .non) (aa (mC (.int 1)) (aa (mC (.int 9)) (ag)))))) (ai 2 pick (aa (ab 0) (aa (mC (.int 4)) (ag))))) (ag)))))) (ah 8)) (ee (eU iK (ab 4) (aa (ai 2 pick (aa (ab 0) (aa (au aO (bi (aN fO) (aa (ab 4) (ag))) (mC (.int 1))) (ag)))) (aa (ab 8) (ag)))))))) (aY)
def pX(pick:PF):MS:=
 az (aG (di (aa (mC (.str "out")) (aa (mC (.str "out")) (aa (mC (.str "out")) (aa (mC (.str "reads")) (aa (mC (.str "reads")) (aa (mC (.str "rising")) (aa (mC (.str "writes")) (aa (mC (.str "raised")) (ag)))))))))) (ah 2)) (az (aG (bi (aN (cm .tup)) (aa (bJ (bO (aa (ab 1) (ag))) (ah 0) (bX) (au av (ab 2) (ai 2 pick (aa (ab 1) (aa (mC (.int 8)) (ag))))) [none,some 0,some 2]) (ag))) (ah 3)) (az (aG (eV (ag)) (ah 4)) (az (gt (bO (aa (ab 1) (ag))) (ah 5) (qc pick)) (aV (aS (aa (ab 3) (aa (bi (aN (cm .tup)) (aa (ab 4) (ag))) (ag))))))))
theorem TM{q:Int}(h0:0<=q)(h1:q<8):∃ i:Int,lc [D.int 0,D.int 0,D.int 1,D.int 1,D.int 2,D.int 8,D.int 9,D.int 999] q=some (.int i)/\0<=i/\i<=999:=by
 obtain rfl | rfl | rfl | rfl | rfl | rfl | rfl | rfl:q=0\/q=1\/q=2\/q=3\/q=4\/q=5\/q=6\/q=7:=by omega
 all_goals exact⟨_,rfl,by decide,by decide⟩
theorem TN{q:Int}(h0:0<=q)(h1:q<4):∃ t:Option Int,lc [D.non,D.non,D.int 1,D.int 9] q=some (bv t)/\∀ k,t=some k->1<=k/\k<=9:=by
 obtain rfl | rfl | rfl | rfl:q=0\/q=1\/q=2\/q=3:=by omega
 ·exact⟨none,rfl,fun k h=>by cases h⟩
 ·exact⟨none,rfl,fun k h=>by cases h⟩
 ·exact⟨some 1,rfl,fun k h=>by cases h;decide⟩
 ·exact⟨some 9,rfl,fun k h=>by cases h;decide⟩
theorem Qp{q:Int}(h0:0<=q)(h1:q<2):∃ wr:Bool,lc [D.str "read",D.str "write"] q=some (.str (bp wr)):=by
 obtain rfl | rfl:q=0\/q=1:=by omega
 ·exact⟨false,rfl⟩
 ·exact⟨true,rfl⟩
structure uN(R:Rm):Prop where
 ok:ROk R
 m0:∀ e∈R.2,0<=e.m/\e.m<=999
 t1:∀ e∈R.2,∀ k,e.t=some k->1<=k/\k<=9
theorem JL{es:List En}{i:Int}{e:En}:jZ (es.map En.d) i e.d=(jZ es i e).map En.d:=by
 unfold jZ;simp
theorem Ha{pick:PF}(hp:qt pick){S:ac}{r q i:Nat}{n:Int}{ws:List Wd}{es:List En}{o6 o7 o8:Option D}(hq:q≠r)(P:Pk S r)(hc:S[q]?=some (.lst (es.map En.d)))(hi:i<ws.length)
  (F:uN (ws,es)) (hg:∀ e∈es,e.g<i) (hl:es.length<=i) (hi5:i<=500) :
  ∃ p6 p7 p8 es' S',qc pick [some (.ref r),some (.int n),some (.lst dM),some (cq ws),some (.ref q),some (.int (i:Int)),o6,o7,o8] S=some (.nx [some (.ref r),some (.int n),some (.lst dM),some (cq ws),some (.ref q),some (.int (i:Int)),p6,p7,p8] S') /\
   Pk S' r/\S'[q]?=some (.lst (es'.map En.d))/\uN (ws,es')/\(∀ e∈es',e.g<i+1)/\es'.length<=i+1/\S'.length=S.length/\∀ j,j≠r->j≠q->S'[j]?=S[j]?:=by
 have up:∀ e∈es,e.g<i+1:=fun e h=>by have:=hg e h;omega
 have hw:ws[i]?=some ws[i]:=List.getElem?_eq_getElem hi
 have x1:∀ S,av S (cq ws) (.int (i:Int))=some (ws[i]).d:=fun S=>rT hw
 have fe:∀ S,bU S (ws[i]).d (.str "out")=some (.bl (decide (ws[i]=.out))):=fun S=>lE (b:=.out)
 by_cases hb:ws[i]=.out
 ·obtain⟨q1,S1,e1,l1,g1,P1,K1⟩:=hp _ _ 4 P (by decide) (by decide)
  by_cases h0:0<q1
  ·obtain⟨q2,S2,e2,l2,g2,P2,K2⟩:=hp _ _ 2 P1 (by decide) (by decide)
   obtain⟨q3,S3,e3,l3,g3,P3,K3⟩:=hp _ _ 8 P2 (by decide) (by decide)
   obtain⟨q4,S4,e4,l4,g4,P4,K4⟩:=hp _ _ 4 P3 (by decide) (by decide)
   obtain⟨q5,S5,e5,l5,g5,P5,K5⟩:=hp _ _ ((es.length:Int)+1) P4 (by omega) (by omega)
   have c4:S4[q]?=some (.lst (es.map En.d)):=by rw [K4.1 q hq,K3.1 q hq,K2.1 q hq,K1.1 q hq,hc]
   have c5:S5[q]?=some (.lst (es.map En.d)):=by rw [K5.1 q hq,c4]
   obtain⟨wr,i2⟩:=Qp l2 g2
   obtain⟨m,i3,m0,m9⟩:=TM l3 g3
   obtain⟨t,i4,ht⟩:=TN l4 g4
   have k1:∀ S,jG ([D.int 0,D.int 0,D.int 1,D.int 1,D.int 2,D.int 8,D.int 9,D.int 999],S)=some (.lst [D.int 0,D.int 0,D.int 1,D.int 1,D.int 2,D.int 8,D.int 9,D.int 999],S):=fun S=>cG (by simp)
   have k2:∀ S,jG ([D.non,D.non,D.int 1,D.int 9],S)=some (.lst [D.non,D.non,D.int 1,D.int 9],S):=fun S=>cG (by simp)
   have k3:∀ S,jG ([D.str "read",D.str "write"],S)=some (.lst [D.str "read",D.str "write"],S):=fun S=>cG (by simp)
   have k4:∀ S (a b c d:D),cn ([a,b,c,d],S)=some (.tup [a,b,c,d],S):=fun S a b c d=>aU (by simp)
   have ql:q<S5.length:=(List.getElem?_eq_some_iff.mp c5).1
   have hpm:=GU es q5 ⟨i,wr,m,t⟩
   have ins:iK (.ref q) [.int q5,.tup [.int (i:Int),.str (bp wr),.int m,bv t]] S5=some (.non,S5.set q (.lst ((jZ es q5 ⟨i,wr,m,t⟩).map En.d))):=by
    rw [<- JL];exact He c5 (by rw [List.length_map];omega) l5 (by omega)
   have km:∀ ms env,oX iK ms env (.ref q,S4)=(ms env S4).bind (dR iK (.ref q)):=fun ms env=>rN c4
   have fl:aN fO [.ref q] S4=some (.int (es.length:Nat),S4):=by rw [KP c4,List.length_map]
   refine⟨some (.str (bp wr)),some (.int m),some (.tup [.int (i:Int),.str (bp wr),.int m,bv t]),jZ es q5 ⟨i,wr,m,t⟩,S5.set q (.lst ((jZ es q5 ⟨i,wr,m,t⟩).map En.d)),?_,?_,List.getElem?_set_self ql,?_,fun e h=>?_,?_,?_,fun j jr jq=>?_⟩
   ·simp only [qc,bj,hX,aF,aE,aj,bH,bM,bL,oj,ob,ak,aq,ar,x1,bd,fe,decide_eq_true hb,aC,jM,aB,ao,am,ax,al,aR,e1,Qe,decide_eq_true h0,bP,aK,bf,gq,k1,e2,Fd,i2,bg,aJ,dY,eR,bD,aD,k2,e3,i3,be,k3,e4,i4,k4,lx,lv,km,bR,bS,fl,js,e5,fh,ins,lA]
   ·obtain⟨a,b,c,h,z⟩:=P5
    exact⟨a,b,c,by rw [List.getElem?_set_ne hq];exact h,z⟩
   ·have hmem:∀ {x:En},x∈jZ es q5 ⟨i,wr,m,t⟩->x=⟨i,wr,m,t⟩\/x∈es:=fun h=>List.mem_cons.mp (hpm.mem_iff.mp h)
    refine⟨⟨fun e h=>?_,?_⟩,fun e h=>?_,fun e h=>?_⟩
    ·rcases hmem h with rfl | h
     ·show ws[i]?=_;rw [hw,hb]
     ·exact F.ok.out e h
    ·show ((jZ es q5 ⟨i,wr,m,t⟩).map (·.g)).Nodup
     rw [(hpm.map (·.g)).nodup_iff,List.map_cons,List.nodup_cons]
     refine⟨fun z=>?_,F.ok.nd⟩
     obtain⟨e,h1,h2⟩:=List.mem_map.mp z
     have:=hg e h1
     simp only at h2
     omega
    ·rcases hmem h with rfl | h
     ·exact⟨m0,m9⟩
     ·exact F.m0 e h
    ·rcases hmem h with rfl | h
     ·exact ht
     ·exact F.t1 e h
   ·rcases List.mem_cons.mp (hpm.mem_iff.mp h) with rfl | h
    ·exact Nat.lt_succ_self _
    ·exact up e h
   ·rw [hpm.length_eq,List.length_cons];omega
   ·rw [List.length_set,K5.2,K4.2,K3.2,K2.2,K1.2]
   ·rw [List.getElem?_set_ne (Ne.symm jq),K5.1 j jr,K4.1 j jr,K3.1 j jr,K2.1 j jr,K1.1 j jr]
  ·refine⟨o6,o7,o8,es,S1,?_,P1,by rw [K1.1 q hq];exact hc,F,up,by omega,K1.2,fun j jr _=>K1.1 j jr⟩
   simp only [qc,bj,hX,aF,aE,aj,bH,bM,bL,oj,ob,ak,aq,ar,x1,bd,fe,decide_eq_true hb,aC,jM,aB,ao,am,ax,al,aR,e1,Qe,decide_eq_false h0,bI,bt]
 ·refine⟨o6,o7,o8,es,S,?_,P,hc,F,up,by omega,rfl,fun j _ _=>rfl⟩
  simp only [qc,bj,hX,aF,aE,aj,bH,bM,bL,oj,ob,ak,aq,ar,x1,bd,fe,decide_eq_false hb,aC,rO,bI,bt]
theorem Dm{pick:PF}(hp:qt pick){S:ac}{r n:Nat}{N:List Str}(hN:N.length=9)(P:Pk S r)(h1:1<=n)(h5:n<=5) :
  ∃ (R:Rm) (S':ac),aP N (pX pick) 2 [.ref r,.int (n:Int)] S=some (aQ R,S')/\R.1.length=n/\uN R/\Pk S' r/\Grow r S S':=by
 have hst:aA N [D.ref r,D.int (n:Int)]=[some (.ref r),some (.int (n:Int)),none,none,none,none,none,none,none]:=by simp [aA,hN,List.replicate]
 rw [bb (show [D.ref r,D.int (n:Int)].length=2 from rfl),hst]
 obtain⟨ws,S1,e1,hl,P1,K1⟩:=Ei hp (bT 0 n) none S P
 rw [sv] at hl
 have hq:S1.length≠r:=fun z=>by have:=P1.lt;omega
 have P2:Pk (S1++[.lst []]) r:=P1.appT
 have k1:∀ S,jG ([.str "out",.str "out",.str "out",.str "reads",.str "reads",.str "rising",.str "writes",.str "raised"],S)=some (.lst dM,S):=fun S=>cG (by simp)
 have kr:∀ S,GH ([.int (n:Int)],S)=some (bT 0 n,S):=fun S=>by rw [je (by omega) (by omega),Int.toNat_natCast]
 have kc:∀ b1 b2 b3 b4 b5 b6,mB (ah 0) bX (au av (ab 2) (ai 2 pick (aa (ab 1) (aa (mC (.int 8)) (ag))))) [none,some 0,some 2] [some (.ref r),some (.int (n:Int)),some (.lst dM),b1,b2,b3,b4,b5,b6] (bT 0 n,S)=some (.lst (ws.map Wd.d),S1):=fun b1 b2 b3 b4 b5 b6=>by
  rw [jf (by rw [sv];omega),show uD [none,some 0,some 2] [some (D.ref r),some (D.int (n:Int)),some (D.lst dM),b1,b2,b3,b4,b5,b6]=[none,some (.ref r),some (.lst dM)] from rfl,e1,ob,kI]
 have kl:qA ([],S1)=some (.ref S1.length,S1++[.lst []]):=kH (by simp)
 obtain⟨env',S',e2,o5,o6,o7,o8,es,rfl,P3,hc,F,hg,hle,hz,fr⟩:=Dn (tg:=ah 5) (p:=qc pick) (lo:=0) (fun i env S=>∃ o5 o6 o7 o8 es,env=[some (.ref r),some (.int (n:Int)),some (.lst dM),some (cq ws),some (.ref S1.length),o5,o6,o7,o8]/\Pk S r/\S[S1.length]?=some (.lst (es.map En.d))/\uN (ws,es)/\(∀ e∈es,e.g<i)/\es.length<=i/\S.length=S1.length+1/\∀ j,j≠r->j<S1.length->S[j]?=S1[j]?) n
  (fun i hi env S hI=>by
   obtain⟨o5,o6,o7,o8,es,rfl,P,hc,F,hg,hle,hz,fr⟩:=hI
   obtain⟨p6,p7,p8,es',S',e,P',hc',F',hg',hle',hz',fr'⟩:=Ha hp (n:=(n:Int)) (o6:=o6) (o7:=o7) (o8:=o8) hq P hc (show i<ws.length by omega) F hg hle (by omega)
   refine⟨_,_,_,_,aJ,?_,some (.int (i:Int)),p6,p7,p8,es',rfl,P',hc',F',hg',hle',by omega,fun j jr jl=>(fr' j jr (by omega)).trans (fr j jr jl)⟩
   rw [show (0:Int)+(i:Int)=i by omega]
   exact e)
  [some (.ref r),some (.int (n:Int)),some (.lst dM),some (cq ws),some (.ref S1.length),none,none,none,none] (S1++[.lst []]) ⟨none,none,none,none,[],rfl,P2,by simp,⟨⟨fun e h=>by simp at h,by simp⟩,fun e h=>by simp at h,fun e h=>by simp at h⟩,fun e h=>by simp at h,by simp,by simp,fun j _ jl=>List.getElem?_append_left jl⟩
 have kt:∀ S (a b:D),cn ([a,b],S)=some (.tup [a,b],S):=fun S a b=>aU (by simp)
 have fs:aN (cm .tup) [.lst (ws.map Wd.d)] S1=some (cq ws,S1):=eS
 have fe:aN (cm .tup) [.ref S1.length] S'=some (ce es,S'):=qe hc
 refine⟨(ws,es),S',?_,hl,F,P3,⟨by rw [hz,K1.2];omega,fun j jl jr=>(fr j jr (by rw [K1.2];exact jl)).trans (K1.1 j jr)⟩⟩
 simp only [pX,aK,bf,gq,ao,bd,ob,am,ax,al,k1,bg,aJ,dY,eR,bD,aD,bR,bV,dN,aj,bH,bM,bL,oj,ak,kr,kc,bS,fs,oQ,kl,mw,mz,e2,aX,be,fe,kt,bq,aH]
 rfl
theorem uk{α:Type}{x:α}:∀ n:Nat,(List.replicate n [x]).flatten=List.replicate n x
 | 0=>rfl
 | n+1=>by rw [List.replicate_succ,List.flatten_cons,uk n,List.replicate_succ];rfl
def xE(deed done:PF):MS:=az (aG (ai 2 deed (aa (ab 0) (aa (ab 2) (ag)))) (ah 7)) (az (aG (ai 3 done (aa (ab 1) (aa (ab 4) (aa (ab 7) (ag))))) (ah 8)) (bG (aw (au kf (ab 8) (mC .non))) (az (ee (eU cZ (ab 5) (aa (ab 7) (ag)))) (aG (au av (ab 8) (mC (.int 0))) (ah 4))) (aY)))
def CT(deed done:PF):MS:=
 az (aG (aS (aa (au cB (aS (aa (mC (.str "out")) (ag))) (ab 2)) (aa (aS (ag)) (ag)))) (ah 4)) (az (aG (eV (ag)) (ah 5)) (az (gt (bO (aa (ab 3) (ag))) (ah 6) (xE deed done)) (aV (aS (aa (bi (aN (cm .tup)) (aa (ab 5) (ag))) (aa (ab 4) (ag)))))))
structure Qs(deed done:PF):Prop where
 de:∀ (S:ac) (r n:Nat),Pk S r->1<=n->n<=5->∃ (dd:Dd) (S':ac),deed [.ref r,.int (n:Int)] S=some (dd.d,S')/\dd.Ok n/\Pk S' r/\Keep r S S'
 dn:∀ (S:ac) (rl:Rl) (R:Rm) (dd:Dd),ROk R->R.1.length<=50->dd.Ok R.1.length->∃ T,done [rl.d,aQ R,dd.d] S=some (gM (gj rl R dd),S++T)
def kh(n:Nat):Rm:=(List.replicate n .out,[])
theorem Ht{n:Nat}:ROk (kh n):=⟨fun e h=>by simp [kh] at h,by simp [kh]⟩
inductive Behind(r:Rl)(n:Nat):List Dd->Rm->Prop
 | nil:Behind r n [] (kh n)
 | snoc {l:List Dd} {R:Rm} {d:Dd} {x:Rm×List Ev} (h:Behind r n l R) (hd:d.Ok n) (e:gj r R d=some x):Behind r n (l++[d]) x.1
theorem Behind.ok{r:Rl}{n:Nat}{l:List Dd}{R:Rm}(h:Behind r n l R):ROk R/\R.1.length=n:=by
 induction h with
 | nil=>exact⟨Ht,by simp [kh]⟩
 | snoc h hd e ih=>obtain⟨a,b⟩:=kQ ih.1 e;exact⟨a,b.trans ih.2⟩
theorem MU{deed done:PF}(O:Qs deed done){S:ac}{r n m:Nat}{rl:Rl}{N:List Str}(hN:N.length=9)(P:Pk S r)(h1:1<=n)(h5:n<=5)(hm:m<=400) :
  ∃ (l:List Dd) (R:Rm) (S':ac),aP N (CT deed done) 4 [.ref r,rl.d,.int (n:Int),.int (m:Int)] S=some (.tup [.tup (l.map Dd.d),aQ R],S')/\Behind rl n l R/\l.length<=m/\Pk S' r/\Grow r S S':=by
 have hst:aA N [D.ref r,rl.d,D.int (n:Int),D.int (m:Int)]=[some (.ref r),some rl.d,some (.int (n:Int)),some (.int (m:Int)),none,none,none,none,none]:=by simp [aA,hN,List.replicate]
 rw [bb (show [D.ref r,rl.d,D.int (n:Int),D.int (m:Int)].length=4 from rfl),hst]
 have hq:S.length≠r:=fun z=>by have:=P.lt;omega
 have k1:∀ S (x:D),cn ([x],S)=some (.tup [x],S):=fun S x=>aU (by simp)
 have k0:∀ S,cn ([],S)=some (.tup [],S):=fun S=>aU (by simp)
 have k2:∀ S (x y:D),cn ([x,y],S)=some (.tup [x,y],S):=fun S x y=>aU (by simp)
 have kl:qA ([],S)=some (.ref S.length,S++[.lst []]):=kH (by simp)
 have mu:∀ S,cB S (.tup [.str "out"]) (.int (n:Int))=some (cq (kh n).1):=fun S=>by
  rw [Oq (by omega) (by omega) (by simp;omega),Int.toNat_natCast]
  show some (D.tup _)=some (D.tup ((List.replicate n Wd.out).map Wd.d))
  congr 2
  rw [List.map_replicate,uk];rfl
 have kr:∀ S,GH ([.int (m:Int)],S)=some (bT 0 m,S):=fun S=>by rw [je (by omega) (by omega),Int.toNat_natCast]
 obtain⟨env',S',e2,R,l,o6,o7,o8,rfl,P3,hc,B,hle,hz,fr⟩:=Dn (tg:=ah 6) (p:=xE deed done) (lo:=0) (fun i env T=>∃ (R:Rm) (l:List Dd) (o6 o7 o8:Option D),env=[some (.ref r),some rl.d,some (.int (n:Int)),some (.int (m:Int)),some (aQ R),some (.ref S.length),o6,o7,o8]/\Pk T r/\T[S.length]?=some (.lst (l.map Dd.d))/\Behind rl n l R/\l.length<=i/\S.length<=T.length/\∀ j,j≠r->j<S.length->T[j]?=S[j]?) m
  (fun i hi env T hI=>by
   obtain⟨R,l,o6,o7,o8,rfl,P,hc,B,hle,hz,fr⟩:=hI
   obtain⟨ok,hn⟩:=B.ok
   obtain⟨dd,S1,e1,od,P1,K1⟩:=O.de T r n P h1 h5
   obtain⟨T2,e3⟩:=O.dn S1 rl R dd ok (by omega) (by rw [hn];exact od)
   have hql:S.length<T.length:=(List.getElem?_eq_some_iff.mp hc).1
   have c1:(S1++T2)[S.length]?=some (.lst (l.map Dd.d)):=by
    rw [List.getElem?_append_left (by rw [K1.2];exact hql),K1.1 _ hq,hc]
   have fr1:∀ j,j≠r->j<S.length->(S1++T2)[j]?=S[j]?:=fun j jr jl=>by
    rw [List.getElem?_append_left (by rw [K1.2];omega),K1.1 j jr,fr j jr jl]
   cases hd:gj rl R dd with
   | none=>
    rw [hd] at e3
    have e3':done [rl.d,aQ R,dd.d] S1=some (.non,S1++T2):=e3
    refine⟨_,_,_,_,aJ,?_,R,l,some (.int (0+(i:Int))),some dd.d,some .non,rfl,P1.appT,c1,B,by omega,by simp;rw [K1.2];omega,fr1⟩
    simp only [xE,aK,bf,aB,ao,aj,bH,bM,bL,oj,ob,ak,am,ax,al,aR,e1,bg,aJ,dY,eR,bD,aD,bx,e3',bj,aF,aE,aq,bd,ar,kN,lB,Bool.not_true,aC,bI,bt]
   | some x=>
    rw [hd] at e3
    have e3':done [rl.d,aQ R,dd.d] S1=some (.tup [aQ x.1,dX x.2],S1++T2):=e3
    have ap:cZ (.ref S.length) [dd.d] (S1++T2)=some (.non,(S1++T2).set S.length (.lst ((l++[dd]).map Dd.d))):=by
     rw [qi c1 (by rw [List.length_map];omega)];simp
    have km:∀ f ms env,oX f ms env (.ref S.length,S1++T2)=(ms env (S1++T2)).bind (dR f (.ref S.length)):=fun f ms env=>rN c1
    have hql2:S.length<(S1++T2).length:=(List.getElem?_eq_some_iff.mp c1).1
    refine⟨_,_,_,_,aJ,?_,x.1,l++[dd],some (.int (0+(i:Int))),some dd.d,some (.tup [aQ x.1,dX x.2]),rfl,?_,List.getElem?_set_self hql2,B.snoc od hd,by simp;omega,by rw [List.length_set];omega,fun j jr jl=>?_⟩
    ·simp only [xE,aK,bf,aB,ao,aj,bH,bM,bL,oj,ob,ak,am,ax,al,aR,e1,bg,aJ,dY,eR,bD,aD,bx,e3',bj,aF,aE,aq,bd,ar,kN,lB,Bool.not_false,aC,bP,lx,lv,km,fh,ap,lA,fIx_t,at2]
    ·obtain⟨a,b,c,h,z⟩:=P1.appT (T:=T2)
     exact⟨a,b,c,by rw [List.getElem?_set_ne hq];exact h,z⟩
    ·rw [List.getElem?_set_ne (by omega)];exact fr1 j jr jl)
  [some (.ref r),some rl.d,some (.int (n:Int)),some (.int (m:Int)),some (aQ (kh n)),some (.ref S.length),none,none,none] (S++[.lst []]) ⟨kh n,[],none,none,none,rfl,P.appT,by simp,.nil,Nat.le_refl _,by simp,fun j _ jl=>List.getElem?_append_left jl⟩
 have fe:aN (cm .tup) [.ref S.length] S'=some (.tup (l.map Dd.d),S'):=qe hc
 refine⟨l,R,S',?_,B,hle,P3,⟨hz,fun j jl jr=>fr j jr jl⟩⟩
 have er:∀ S,cn ([cq (kh n).1,.tup []],S)=some (aQ (kh n),S):=fun S=>k2 S _ _
 simp only [CT,aK,bf,be,ao,aE,bd,ob,am,ax,al,k1,aq,aj,bH,bM,bL,oj,ak,ar,mu,k0,er,bg,aJ,dY,eR,bD,aD,oQ,kl,mw,dN,kr,mz,e2,aX,bR,bS,fe,k2,bq,aH]
end MI
namespace MI
open PySem PySem.Spec PyProof.Rows L2 M
section
variable{α:Type}{enc:α->D}{p:Nat->α->Bool}{f:Nat->α->D}{t:MT}{e:ME}{rest:bn}{S:ac}
theorem LY:∀ (xs:List α) (k:Nat) (a b:Option D),(∀ i x,xs[i]?=some x->t (some (.int ((k+i:Nat):Int))::some (enc x)::rest) S=some (p (k+i) x,S))->(∀ i x,xs[i]?=some x->e (some (.int ((k+i:Nat):Int))::some (enc x)::rest) S=some (f (k+i) x,S))->dk (aZ 2 (af (ah 0) (af (ah 1) (aM)))) t e (ft k (xs.map enc)) (a::b::rest) S=some (((xs.zipIdx k).filter fun q=>p q.2 q.1).map fun q=>f q.2 q.1,S)
 | [],k,a,b,_,_=>by simp [ft]
 | x::r,k,a,b,h,h2=>by
  have ih:=LY r (k+1) (some (.int (k:Int))) (some (enc x)) (fun i y hy=>by
   have:=h (i+1) y (by simpa using hy)
   rw [show k+(i+1)=k+1+i by omega] at this
   exact this) (fun i y hy=>by
   have:=h2 (i+1) y (by simpa using hy)
   rw [show k+(i+1)=k+1+i by omega] at this
   exact this)
  have h0:=h 0 x rfl
  have h20:=h2 0 x rfl
  rw [Nat.add_zero] at h0 h20
  rw [List.map_cons,ft,gc,cx,bC,aJ,ob,dY,cU,bC,aJ,ob,eR,dY,cU,bW,ob,tS,h0,ob,List.zipIdx_cons]
  cases hp:p k x with
  | true=>
   rw [tR,h20,ob,tQ,ih,ob,tP,List.filter_cons_of_pos (p:=fun q:α×Nat=>p q.2 q.1) (a:=(x,k)) hp,List.map_cons]
  | false=>rw [Df,ih,List.filter_cons_of_neg (p:=fun q:α×Nat=>p q.2 q.1) (a:=(x,k)) (by simp [hp])]
theorem NS{cap:List (Option Nat)}{env:bn}{a b:Option D}{xs:List α}(hc:uD cap env=a::b::rest)(hl:xs.length<=1000)(h:∀ (i:Nat) x,xs[i]?=some x->t (some (.int (i:Int))::some (enc x)::rest) S=some (p i x,S))(h2:∀ (i:Nat) x,xs[i]?=some x->e (some (.int (i:Int))::some (enc x)::rest) S=some (f i x,S)) :
  mB (aZ 2 (af (ah 0) (af (ah 1) (aM)))) t e cap env (ft 0 (xs.map enc),S)=some (.lst ((xs.zipIdx.filter fun q=>p q.2 q.1).map fun q=>f q.2 q.1),S):=by
 rw [jf (by rw [nh,List.length_map];exact hl),hc,LY xs 0 a b (fun i x hx=>by rw [Nat.zero_add];exact h i x hx) (fun i x hx=>by rw [Nat.zero_add];exact h2 i x hx),ob,kI]
end
def rP(p:Wd->Bool)(ws:List Wd):List Nat:=(ws.zipIdx.filter fun q=>p q.1).map (·.2)
theorem mem_zi{α:Type}{xs:List α}{x:α}{i:Nat}:(x,i)∈xs.zipIdx↔xs[i]?=some x:=by
 rw [List.mem_zipIdx_iff_getElem?]
theorem mem_ixW{p:Wd->Bool}{ws:List Wd}{i:Nat}:i∈rP p ws↔∃ w,ws[i]?=some w/\p w=true:=by
 unfold rP
 rw [List.mem_map]
 constructor
 ·rintro⟨⟨w,j⟩,h,rfl⟩
  obtain⟨h1,h2⟩:=List.mem_filter.mp h
  exact⟨w,mem_zi.mp h1,h2⟩
 ·rintro⟨w,h1,h2⟩
  exact⟨(w,i),List.mem_filter.mpr ⟨mem_zi.mpr h1,h2⟩,rfl⟩
def nt(l:List Nat):D:=.tup (l.map ni)
theorem Od{p:Wd->Bool}{ws:List Wd}:D.lst ((ws.zipIdx.filter fun q=>p q.1).map fun q=>.int (q.2:Int))=nl (rP p ws):=by
 unfold nl rP ni;rw [List.map_map];rfl
def Ch:MS:=aV (bi (aN (cm .tup)) (aa (bJ (gu (aa (au av (ab 0) (mC (.int 0))) (ag))) (aZ 2 (af (ah 0) (af (ah 1) (aM)))) (aw (au oo (ab 1) (ab 2))) (ab 0) [none,none,some 1]) (ag)))
theorem Eh{ws:List Wd}{S:ac}:EZ ([cq ws],S)=some (ft 0 (ws.map Wd.d),S):=rfl
theorem SM{S:ac}{w:Wd}{l:List Wd}:oo S w.d (cq l)=some (.bl (decide (w∈l))):=by
 rw [kg (ys:=l.map Wd.d) rfl rfl RB]
 congr 2
 rw [List.any_map]
 induction l with
 | nil=>rfl
 | cons a l ih=>
  rw [List.any_cons,ih]
  show (jD a.d w.d||_)=_
  rw [SS,Bool.eq_iff_iff]
  simp
  constructor
  ·rintro(h | h)
   ·exact .inl h.symm
   ·exact .inr h
  ·rintro(h | h)
   ·exact .inl h.symm
   ·exact .inr h
theorem Sr{N:List Str}(hN:N.length=2){S:ac}{R:Rm}{l:List Wd}(hl:R.1.length<=100):aP N Ch 2 [aQ R,cq l] S=some (nt (rP (fun w=>decide (w∈l)) R.1),S):=by
 have hst:aA N [aQ R,cq l]=[some (aQ R),some (cq l)]:=by simp [aA,hN]
 rw [bb (show [aQ R,cq l].length=2 from rfl),hst]
 have k:=yw (S:=S) (t:=aw (au oo (ab 1) (ab 2))) (cap:=[none,none,some 1]) (env:=[some (aQ R),some (cq l)]) (rest:=[some (cq l)]) (a:=none) (b:=none) (enc:=Wd.d) (p:=fun w=>decide (w∈l)) (xs:=R.1) rfl (by omega) (fun i x _=>by simp only [aF,aE,aj,bH,bM,bL,oj,ob,ak,aq,ar,SM,aC])
 rw [Od (p:=fun w=>decide (w∈l))] at k
 have fs:aN (cm .tup) [nl (rP (fun w=>decide (w∈l)) R.1)] S=some (nt (rP (fun w=>decide (w∈l)) R.1),S):=eS
 simp only [Ch,aX,bR,ao,bV,oS,aE,aj,bH,bM,bL,oj,ob,ak,aq,bd,ar,Rm.ix0,am,ax,al,Eh,k,bS,fs,bq,aH]
def jH(R:Rm)(g:Nat):D:=if R.1[g]?=some .rising then .str "up" else match R.2.find? fun e=>decide (e.g=g) with
 | some e=>.str (bp e.wr)
 | none=>.non
def lT:MS:=bG (aw (au bU (au av (ab 2) (mC (.int 0))) (ab 1))) (aV (au av (ab 2) (mC (.int 1)))) (aY)
def lV(gw:PF):MS:=az (bG (aw (au oo (ab 1) (ai 2 gw (aa (ab 0) (aa (aS (aa (mC (.str "rising")) (ag))) (ag)))))) (aV (mC (.str "up"))) (aY)) (az (gb (au av (ab 0) (mC (.int 1))) (ah 2) lT) (aV (mC .non)))
def Mr(gw:PF):Prop:=∀ (S:ac) (R:Rm) (l:List Wd),R.1.length<=100->gw [aQ R,cq l] S=some (nt (rP (fun w=>decide (w∈l)) R.1),S)
theorem SN{S:ac}{g:Nat}{l:List Nat}:oo S (.int (g:Int)) (nt l)=some (.bl (decide (g∈l))):=by
 rw [kg (ys:=l.map ni) rfl rfl (by rw [List.all_eq_true];intro d hd;obtain⟨i,_,rfl⟩:=List.mem_map.mp hd;rfl)]
 congr 2
 rw [List.any_map]
 induction l with
 | nil=>rfl
 | cons a l ih=>
  rw [List.any_cons,ih]
  show (((a:Int) == (g:Int))||_)=_
  rw [Bool.eq_iff_iff]
  simp
  constructor
  ·rintro(h | h)
   ·exact .inl (by omega)
   ·exact .inr h
  ·rintro(h | h)
   ·exact .inl (by omega)
   ·exact .inr h
theorem vE{S:ac}{R:Rm}{g:Nat}:∀ (es:List En) (a:Option D),cE (ah 2) lT (es.map En.d) [some (aQ R),some (.int (g:Int)),a] S=(match es.find? fun e=>decide (e.g=g) with | some e=>some (.rt (.str (bp e.wr)) S) | none=>some (.nx [some (aQ R),some (.int (g:Int)),match es.getLast? with | some e=>some e.d | none=>a] S))
 | [],a=>by simp
 | e::l,a=>by
  have ih:=vE (S:=S) (R:=R) (g:=g) l (some e.d)
  have c:((e.g:Int) == (g:Int))=decide (e.g=g):=by rw [Bool.eq_iff_iff];simp;omega
  rw [List.map_cons,gY,aJ,ob,eR,eR,dY,pY]
  simp only [lT,bj,aF,aE,aj,bH,bM,bL,oj,ob,ak,aq,bd,ar,En.ix0,iA,c,aC,List.find?_cons]
  cases hd:decide (e.g=g) with
  | true=>simp only [bP,aX,aE,aj,bH,bM,bL,oj,ob,ak,aq,bd,ar,En.ix1,bq,EY]
  | false=>
   rw [bI,bt,ob,oY]
   show cE (ah 2) lT _ _ _=_
   rw [ih]
   cases hf:l.find? fun e=>decide (e.g=g) with
   | some x=>rfl
   | none=>
    dsimp only
    congr 4
    cases l with
    | nil=>rfl
    | cons y l=>rw [List.getLast?_cons_cons];cases hh:(y::l).getLast? with
     | none=>simp at hh
     | some z=>rfl
theorem Iq{gw:PF}(O:Mr gw){N:List Str}(hN:N.length=3){S:ac}{R:Rm}{g:Nat}(hl:R.1.length<=100):aP N (lV gw) 2 [aQ R,.int (g:Int)] S=some (jH R g,S):=by
 have hst:aA N [aQ R,.int (g:Int)]=[some (aQ R),some (.int (g:Int)),none]:=by simp [aA,hN,List.replicate]
 rw [bb (show [aQ R,D.int (g:Int)].length=2 from rfl),hst]
 have o1:gw [aQ R,.tup [.str "rising"]] S=some (nt (rP (fun w=>decide (w∈[Wd.rising])) R.1),S):=O S R [.rising] hl
 have k1:cn ([.str "rising"],S)=some (.tup [.str "rising"],S):=aU (by simp)
 have mm:decide (g∈rP (fun w=>decide (w∈[Wd.rising])) R.1)=decide (R.1[g]?=some .rising):=by
  rw [decide_eq_decide,mem_ixW]
  constructor
  ·rintro⟨w,h1,h2⟩;rw [h1];simpa using h2
  ·intro h;exact⟨.rising,h,by simp⟩
 have ek:oZ (ah 2) lT [some (aQ R),some (.int (g:Int)),none] (ce R.2,S)=cE (ah 2) lT (R.2.map En.d) [some (aQ R),some (.int (g:Int)),none] S:=rfl
 simp only [lV,aK,bj,aF,aE,aj,bH,bM,bL,oj,ob,ak,aq,aB,ao,am,be,bd,ax,al,k1,aR,o1,ar,SN,mm,aC]
 unfold jH
 by_cases h:R.1[g]?=some .rising
 ·rw [decide_eq_true h,if_pos h];simp
 ·rw [decide_eq_false h,if_neg h]
  simp only [bI,bt,ob,aD,aK,oR,aE,aj,bH,bM,bL,oj,ak,aq,bd,ar,Rm.ix1,ek,vE]
  cases R.2.find? fun e=>decide (e.g=g) with
  | some e=>simp
  | none=>simp
def cz(ws:List Wd)(g:Nat):List Wd:=(ws.zipIdx.filter fun q=>!decide (q.1=.out) && !decide (q.2=g)).map (·.1)
def dE(r:Rl)(R:Rm)(g:Nat):Bool:=
 if R.1[g]?=some .rising then (cz R.1 g).isEmpty else match R.2.find? fun e=>decide (e.g=g) with
 | none=>false
 | some e=>if e.wr then (cz R.1 g).isEmpty else (cz R.1 g).all (fun w=>decide (w=.reads))&&(decide (r.a=0)||decide (((cz R.1 g).length:Int)<r.a))
def uB:ME:=bJ (gu (aa (au av (ab 1) (mC (.int 0))) (ag))) (aZ 2 (af (ah 0) (af (ah 1) (aM)))) (cT (aw (au ij (ab 1) (mC (.str "out")))) (aw (au ij (ab 0) (ab 2)))) (ab 1) [none,none,some 2]
def Mb:ME:=bJ (da (ab 4)) (ah 0) (bX) (au bU (ab 0) (mC (.str "reads"))) [none]
def fZ(wait:PF):MS:=
 az (aG (ai 2 wait (aa (ab 1) (aa (ab 2) (ag)))) (ah 3)) (az (bG (aw (au ut (ab 3) (mC .non))) (aV (mC (.bl false))) (aY)) (az (aG uB (ah 4)) (az (bG (aw (au ij (ab 3) (mC (.str "read")))) (aV (ic (ab 4))) (aY)) (az (aG (au av (ab 0) (mC (.int 1))) (ah 5)) (aV (dB (bi (aN yJ) (aa Mb (ag))) (we (au bU (ab 5) (mC (.int 0))) (au Ov (bi (aN fO) (aa (ab 4) (ag))) (ab 5)))))))))
def qr(wait:PF):Prop:=∀ (S:ac) (R:Rm) (g:Nat),R.1.length<=100->wait [aQ R,.int (g:Int)] S=some (jH R g,S)
section
variable{S:ac}{R:Rm}{r:Rl}{g:Nat}
theorem mQ{a0 a3 a4 a5:Option D}(hl:R.1.length<=100):uB [a0,some (aQ R),some (.int (g:Int)),a3,a4,a5] S=some (.lst ((cz R.1 g).map Wd.d),S):=by
 have k:=NS (S:=S) (t:=cT (aw (au ij (ab 1) (mC (.str "out")))) (aw (au ij (ab 0) (ab 2)))) (e:=ab 1) (cap:=[none,none,some 2]) (env:=[a0,some (aQ R),some (.int (g:Int)),a3,a4,a5]) (rest:=[some (.int (g:Int))]) (a:=none) (b:=none) (enc:=Wd.d) (p:=fun i w=>!decide (w=.out) && !decide (i=g)) (f:=fun _ w=>w.d) (xs:=R.1) rfl (by omega) (fun i w _=>by
  have e1:ij S w.d (.str "out")=some (.bl (!decide (w=.out))):=uq (b:=.out)
  have c:((i:Int) == (g:Int))=decide (i=g):=by rw [Bool.eq_iff_iff];simp;omega
  simp only [hX,aF,aE,aj,bH,bM,bL,oj,ob,ak,aq,bd,ar,e1,aC]
  cases hd:decide (w=.out) with
  | true=>simp
  | false=>simp only [Bool.not_false,jM,aF,aE,aj,bH,bM,bL,oj,ob,ak,aq,ar,KN,c,aC,Bool.true_and]) (fun i w _=>by simp)
 simp only [uB,bV,oS,ao,aE,aj,bH,bM,bL,oj,ob,ak,aq,bd,ar,Rm.ix0,am,ax,al,Eh,k]
 unfold cz
 rw [List.map_map];rfl
theorem uG{α:Type}{p:α->Bool}:∀ l:List α,lI (l.map fun x=>D.bl (p x))=some (l.map p)
 | []=>rfl
 | x::l=>by
  have:=uG (p:=p) l
  rw [List.map_cons,List.map_cons]
  simp only [lI,this];rfl
theorem Ma{l:List Wd}{a0 a1 a2 a3 a5:Option D}(hl:l.length<=100):Mb [a0,a1,a2,a3,some (.lst (l.map Wd.d)),a5] S=some (.lst (l.map fun w=>.bl (decide (w=.reads))),S):=by
 have k:=eY (S:=S) (t:=bX) (e:=au bU (ab 0) (mC (.str "reads"))) (cap:=[none]) (env:=[a0,a1,a2,a3,some (.lst (l.map Wd.d)),a5]) (rest:=[]) (a:=none) (enc:=Wd.d) (p:=fun _=>true) (f:=fun w=>.bl (decide (w=.reads))) (xs:=l) rfl (by omega) (fun x _=>jK) (fun x _ _=>by
  have e1:bU S x.d (.str "reads")=some (.bl (decide (x=.reads))):=lE (b:=.reads)
  simp only [aE,aj,bH,oj,ob,ak,aq,bd,ar,e1])
 rw [List.filter_eq_self.mpr (fun _ _=>rfl)] at k
 simp only [Mb,bV,dj,aj,bH,bM,bL,oj,ob,ak,yy,k]
theorem Pl:(cz R.1 g).length<=R.1.length:=by
 unfold cz;rw [List.length_map];exact Nat.le_trans (List.length_filter_le _ _) (by simp)
theorem HK{wait:PF}(O:qr wait){N:List Str}(hN:N.length=6)(hl:R.1.length<=100):aP N (fZ wait) 3 [r.d,aQ R,.int (g:Int)] S=some (.bl (dE r R g),S):=by
 have hst:aA N [r.d,aQ R,.int (g:Int)]=[some r.d,some (aQ R),some (.int (g:Int)),none,none,none]:=by simp [aA,hN,List.replicate]
 rw [bb (show [r.d,aQ R,D.int (g:Int)].length=3 from rfl),hst]
 have bl:=Pl (R:=R) (g:=g)
 unfold dE
 have e1:=O S R g hl
 have fa:aN yJ [.lst ((cz R.1 g).map fun w=>.bl (decide (w=.reads)))] S=some (.bl ((cz R.1 g).all fun w=>decide (w=.reads)),S):=by
  rw [KY (uG _)];congr 3;rw [List.all_map];rfl
 have fl:aN fO [.lst ((cz R.1 g).map Wd.d)] S=some (.int ((cz R.1 g).length:Nat),S):=by rw [SJ,List.length_map]
 have nb:AQ (.lst ((cz R.1 g).map Wd.d),S)=some (.bl (cz R.1 g).isEmpty,S):=by
  rw [NV];cases cz R.1 g <;> rfl
 unfold jH at e1
 by_cases h:R.1[g]?=some .rising
 ·rw [if_pos h] at e1 ⊢
  have ne:ij S (.str "up") (.str "read")=some (.bl true):=by rw [qh];rfl
  simp only [fZ,aK,bf,aB,ao,aj,bH,bM,bL,oj,ob,ak,am,ax,al,aR,e1,bg,aJ,dY,eR,bD,aD,bj,aF,aE,aq,bd,ar,jP,lB,aC,bI,bt,mQ hl,ne,bP,aX,EN,nb,bq,bQ,aH]
 ·rw [if_neg h] at e1 ⊢
  cases hf:R.2.find? fun e=>decide (e.g=g) with
  | none=>
   rw [hf] at e1
   simp only [fZ,aK,bf,aB,ao,aj,bH,bM,bL,oj,ob,ak,am,ax,al,aR,e1,bg,aJ,dY,eR,bD,aD,bj,aF,aE,aq,bd,ar,jP,lB,aC,bP,aX,bq,bQ,aH]
  | some e=>
   rw [hf] at e1
   dsimp only at e1 ⊢
   have ne:ij S (.str (bp e.wr)) (.str "read")=some (.bl e.wr):=by rw [qh,rB,Bool.not_not]
   cases hw:e.wr with
   | true=>
    rw [hw] at e1 ne
    simp only [fZ,aK,bf,aB,ao,aj,bH,bM,bL,oj,ob,ak,am,ax,al,aR,e1,bg,aJ,dY,eR,bD,aD,bj,aF,aE,aq,bd,ar,jP,lB,aC,bI,bt,mQ hl,ne,bP,aX,EN,nb,bq,bQ,aH,if_pos]
   | false=>
    rw [hw] at e1 ne
    have e3:(r.a == 0)=decide (r.a=0):=rfl
    simp only [fZ,aK,bf,aB,ao,aj,bH,bM,bL,oj,ob,ak,am,ax,al,aR,e1,bg,aJ,dY,eR,bD,aD,bj,aF,aE,aq,bd,ar,jP,lB,aC,bI,bt,mQ hl,ne,aX,nY,bR,Ma (show (cz R.1 g).length<=100 by omega),bS,fa,Rl.ix1,Bool.false_eq_true,if_false]
    cases hA:(cz R.1 g).all fun w=>decide (w=.reads) with
    | false=>simp
    | true=>
     cases hz:decide (r.a=0) with
     | true=>simp [e3,hz]
     | false=>simp [e3,hz,fl,-beq_iff_eq]
end
end MI
namespace MI
open PySem PySem.Spec PyProof.Rows L2 M
def yF:List (bB×D):=[(.inr "rows",.non),(.inr "readers",.str "read"),(.inr "writers",.str "write"),(.inr "turns",.str "write")]
def BG:List (bB×D):=[(.inr "read",.str "reads"),(.inr "write",.str "writes")]
def SD:Rw->D
 | .rows=>.non
 | .readers=>.str "read"
 | _=>.str "write"
def rp(w:Rw)(e:En):Bool:=match w with
 | .rows=>false
 | .readers=>!e.wr
 | _=>e.wr
theorem SC{S:ac}{w:Rw}(h:w≠.passes):tJ yF (.str w.s,S)=some (SD w,S):=by
 cases w <;> first | exact absurd rfl h | simp (decide:=true) [tJ,fg,iV,yF,SD,Rw.s]
theorem Im{S:ac}{b:Bool}:tJ BG (.str (bp b),S)=some ((if b then Wd.writes else Wd.reads).d,S):=by
 cases b <;> simp (decide:=true) [tJ,fg,iV,BG,bp,Wd.d,Wd.s]
theorem Oy{S:ac}{w:Rw}{e:En}:bU S (.str (bp e.wr)) (SD w)=some (.bl (rp w e)):=by
 have h1:bU S (.str (bp e.wr)) (.str "read")=some (.bl (!e.wr)):=by rw [cI,rB]
 have h2:bU S (.str (bp e.wr)) (.str "write")=some (.bl e.wr):=by rw [cI,ow]
 cases w with
 | rows=>exact lF rfl rfl
 | readers=>exact h1
 | _=>exact h2
def kn(w:Rw)(e:En):Bool:=decide (w=.turns)&&decide (e.m=1)
def jN(w:Rw)(es:List En):List Nat:=(es.filter (kn w)).map (·.g)++(es.filter (rp w)).map (·.g)++es.map (·.g)
def ny:Option Nat->D
 | none=>.non
 | some g=>.int (g:Int)
def uj:ME:=bJ (da (ab 1)) (ah 0) (cT (aw (au bU (ab 1) (mC (.str "turns")))) (aw (au bU (au av (ab 0) (mC (.int 2))) (mC (.int 1))))) (au av (ab 0) (mC (.int 0))) [none,some 0]
def KF:ME:=bJ (da (ab 1)) (ah 0) (aw (au bU (au av (ab 0) (mC (.int 1))) (dP yF (ab 1)))) (au av (ab 0) (mC (.int 0))) [none,some 0]
def KH:ME:=bJ (da (ab 1)) (ah 0) (bX) (au av (ab 0) (mC (.int 0))) [none]
def ll:MS:=az (aG uj (ah 2)) (az (aG KF (ah 3)) (az (aG (au aO (au aO (ab 2) (ab 3)) KH) (ah 4)) (aV (lN (cS (ab 4)) (au av (ab 4) (mC (.int 0))) (mC .non)))))
section
variable{S:ac}{es:List En}{w:Rw}{r:Rl}{R:Rm}
theorem Cq{l:List En}:D.lst (l.map fun e=>.int (e.g:Int))=nl (l.map (·.g)):=by unfold nl;rw [List.map_map];rfl
theorem Bh{a2 a3 a4:Option D}(hl:es.length<=100):uj [some (.str w.s),some (ce es),a2,a3,a4] S=some (nl ((es.filter (kn w)).map (·.g)),S):=by
 have hw:(w.s == ("turns":Str))=decide (w=.turns):=Rw.eq w .turns
 have k:=eY (S:=S) (t:=cT (aw (au bU (ab 1) (mC (.str "turns")))) (aw (au bU (au av (ab 0) (mC (.int 2))) (mC (.int 1))))) (e:=au av (ab 0) (mC (.int 0))) (cap:=[none,some 0]) (env:=[some (.str w.s),some (ce es),a2,a3,a4]) (rest:=[some (.str w.s)]) (a:=none) (enc:=En.d) (p:=kn w) (f:=fun e=>.int (e.g:Int)) (xs:=es) rfl (by omega) (fun x _=>by
  unfold kn
  cases h:decide (w=.turns) with
  | true=>simp [En.ix2,-beq_iff_eq,hw,h];rfl
  | false=>simp [-beq_iff_eq,hw,h]) (fun x _ _=>by simp [En.ix0])
 simp only [uj,bV,dj,aj,bH,bM,bL,oj,ob,ak,dW,k,Cq]
theorem KE{a2 a3 a4:Option D}(hw:w≠.passes)(hl:es.length<=100):KF [some (.str w.s),some (ce es),a2,a3,a4] S=some (nl ((es.filter (rp w)).map (·.g)),S):=by
 have k:=eY (S:=S) (t:=aw (au bU (au av (ab 0) (mC (.int 1))) (dP yF (ab 1)))) (e:=au av (ab 0) (mC (.int 0))) (cap:=[none,some 0]) (env:=[some (.str w.s),some (ce es),a2,a3,a4]) (rest:=[some (.str w.s)]) (a:=none) (enc:=En.d) (p:=rp w) (f:=fun e=>.int (e.g:Int)) (xs:=es) rfl (by omega) (fun x _=>by
  simp only [aF,aE,aj,bH,bM,bL,oj,ob,ak,aq,bd,ar,En.ix1,tz,SC hw,Oy,aC]) (fun x _ _=>by simp [En.ix0])
 simp only [KF,bV,dj,aj,bH,bM,bL,oj,ob,ak,dW,k,Cq]
theorem KG{a0 a2 a3 a4:Option D}(hl:es.length<=100):KH [a0,some (ce es),a2,a3,a4] S=some (nl (es.map (·.g)),S):=by
 have k:=gsC (S:=S) (es:=es) (b:=none) (cap:=[none]) (env:=[a0,some (ce es),a2,a3,a4]) rfl hl
 simp only [KH,bV,dj,aj,bH,bM,bL,oj,ob,ak,dW,k,Cq]
theorem JH{a b:List Nat}(h:a.length+b.length<=1000):aO S (nl a) (nl b)=some (nl (a++b)):=by
 unfold nl;rw [Dr (by simp;omega),<- List.map_append]
theorem yE{N:List Str}(hN:N.length=5)(hw:w≠.passes)(hl:es.length<=100):aP N ll 2 [.str w.s,ce es] S=some (ny (jN w es).head?,S):=by
 have hst:aA N [.str w.s,ce es]=[some (.str w.s),some (ce es),none,none,none]:=by simp [aA,hN,List.replicate]
 rw [bb (show [D.str w.s,ce es].length=2 from rfl),hst]
 have l1:=List.length_filter_le (kn w) es
 have l2:=List.length_filter_le (rp w) es
 have a1:aO S (nl ((es.filter (kn w)).map (·.g))) (nl ((es.filter (rp w)).map (·.g)))=some (nl ((es.filter (kn w)).map (·.g)++(es.filter (rp w)).map (·.g))):=JH (by simp;omega)
 have a2:aO S (nl ((es.filter (kn w)).map (·.g)++(es.filter (rp w)).map (·.g))) (nl (es.map (·.g)))=some (nl (jN w es)):=JH (by simp;omega)
 have tr:AN (nl (jN w es),S)=some (!decide (jN w es=[]),S):=by
  cases jN w es <;> rfl
 simp only [ll,aK,bf,Bh hl,KE hw hl,ob,bg,aJ,dY,eR,bD,aD,aE,aj,bH,bM,bL,oj,ak,aq,ar,a1,KG hl,a2,aX,jc,dw,tr]
 cases hf:jN w es with
 | nil=>simp [ny]
 | cons g l=>simp [ny,rK]
def lZ(r:Rl)(R:Rm):List En->Option Nat
 | []=>none
 | e::l=>if dE r R e.g then some e.g else if r.b<=e.m then none else lZ r R l
def qx(r:Rl)(R:Rm):Option Nat:=if r.w=.passes then lZ r R R.2 else match (jN r.w R.2).head? with
 | none=>none
 | some g=>if dE r R g then some g else none
def nv(cg:PF):Prop:=(∀ (S:ac) (r:Rl) (R:Rm) (g:Nat),R.1.length<=100->cg [r.d,aQ R,.int (g:Int)] S=some (.bl (dE r R g),S))/\(∀ (S:ac) (r:Rl) (ws:List Wd),ws.length<=100->cg [r.d,aQ (ws,[]),.non] S=some (.bl false,S))
def sM(cg:PF):MS:=az (bG (cS (ai 3 cg (aa (ab 0) (aa (ab 1) (aa (ab 2) (ag)))))) (aV (ab 2)) (aY)) (bG (aw (au fGe (ab 4) (au av (ab 0) (mC (.int 2))))) (aV (mC .non)) (aY))
def Gm:MG:=aZ 4 (af (ah 2) (af (ah 3) (af (ah 4) (af (ah 5) (aM)))))
def lj(cg:PF):MS:=az (gb (au av (ab 1) (mC (.int 1))) Gm (sM cg)) (aV (mC .non))
theorem NK{e:En}{a0 a1 a2 a3 a4 a5:Option D}:Gm e.d [a0,a1,a2,a3,a4,a5] S=some ([a0,a1,some (.int (e.g:Int)),some (.str (bp e.wr)),some (.int e.m),some (bv e.t)],S):=by
 have g4:Gm e.d [a0,a1,a2,a3,a4,a5] S=(af (ah 2) (af (ah 3) (af (ah 4) (af (ah 5) (aM))))) [.int (e.g:Nat),.str (bp e.wr),.int e.m,bv e.t] [a0,a1,a2,a3,a4,a5] S:=rR
 rw [g4]
 simp only [bC,aJ,ob,cU,bW,dY,eR]
def npEnd:Option Nat->Option D->Option D->Option D->Option D->Option D->Option D->ac->oq->Prop
 | some g,_,_,_,_,_,_,S,o=>o=.rt (.int (g:Int)) S
 | none,a0,a1,_,_,_,_,S,o=>o=.rt .non S\/∃ b2 b3 b4 b5,o=.nx [a0,a1,b2,b3,b4,b5] S
theorem vS{cg:PF}(O:nv cg)(hl:R.1.length<=100):∀ (es:List En) (a2 a3 a4 a5:Option D),∃ o,cE Gm (sM cg) (es.map En.d) [some r.d,some (aQ R),a2,a3,a4,a5] S=some o/\npEnd (lZ r R es) (some r.d) (some (aQ R)) a2 a3 a4 a5 S o
 | [],a2,a3,a4,a5=>⟨.nx [some r.d,some (aQ R),a2,a3,a4,a5] S,by simp,.inr ⟨_,_,_,_,rfl⟩⟩
 | e::l,a2,a3,a4,a5=>by
  obtain⟨o,ih,q⟩:=vS O hl l (some (.int (e.g:Int))) (some (.str (bp e.wr))) (some (.int e.m)) (some (bv e.t))
  have c1:=O.1 S r R e.g hl
  rw [List.map_cons,gY,NK,ob,pY]
  simp only [sM,aK,bj,dw,aB,ao,aj,bH,bM,bL,oj,ob,ak,am,ax,al,bx,c1,eh]
  unfold lZ
  cases hc:dE r R e.g with
  | true=>exact⟨.rt (.int (e.g:Int)) S,by simp,rfl⟩
  | false=>
   rw [if_neg (by decide)]
   by_cases hb:r.b<=e.m
   ·rw [if_pos hb]
    refine⟨.rt .non S,?_,.inl rfl⟩
    simp [Rl.ix2,hb]
   ·rw [if_neg hb]
    refine⟨o,?_,?_⟩
    ·have:¬ (e.m≥r.b):=hb
     simp [Rl.ix2,this,-ge_iff_le]
     exact ih
    ·cases hp:lZ r R l with
     | none=>rw [hp] at q;exact q
     | some g=>rw [hp] at q;exact q
theorem xV{cg:PF}(O:nv cg){N:List Str}(hN:N.length=6)(hl:R.1.length<=100):aP N (lj cg) 2 [r.d,aQ R] S=some (ny (lZ r R R.2),S):=by
 have hst:aA N [r.d,aQ R]=[some r.d,some (aQ R),none,none,none,none]:=by simp [aA,hN,List.replicate]
 rw [bb (show [r.d,aQ R].length=2 from rfl),hst]
 obtain⟨o,e,q⟩:=vS (S:=S) (r:=r) O hl R.2 none none none none
 have ek:oZ Gm (sM cg) [some r.d,some (aQ R),none,none,none,none] (ce R.2,S)=cE Gm (sM cg) (R.2.map En.d) [some r.d,some (aQ R),none,none,none,none] S:=rfl
 simp only [lj,aK,oR,aE,aj,bH,bM,bL,oj,ob,ak,aq,bd,ar,Rm.ix1,ek,e]
 cases hp:lZ r R R.2 with
 | none=>
  rw [hp] at q
  rcases q with rfl | ⟨b2,b3,b4,b5,rfl⟩ <;> simp [ny]
 | some g=>
  rw [hp] at q
  have q:o=.rt (.int (g:Int)) S:=q
  subst q;simp [ny]
def nR(np fm cg:PF):MS:=az (bG (aw (au bU (au av (ab 0) (mC (.int 0))) (mC (.str "passes")))) (aV (ai 2 np (aa (ab 0) (aa (ab 1) (ag))))) (aY)) (az (aG (ai 2 fm (aa (au av (ab 0) (mC (.int 0))) (aa (au av (ab 1) (mC (.int 1))) (ag)))) (ah 2)) (aV (lN (cS (ai 3 cg (aa (ab 0) (aa (ab 1) (aa (ab 2) (ag)))))) (ab 2) (mC .non))))
theorem GY(h:(jN w es).head?=none):es=[]:=by
 have:jN w es=[]:=by simpa using h
 unfold jN at this
 rw [List.append_eq_nil_iff] at this
 simpa using this.2
theorem Cs{np fm cg:PF}(hp:∀ (S:ac) (r:Rl) (R:Rm),R.1.length<=100->np [r.d,aQ R] S=some (ny (lZ r R R.2),S))(hf:∀ (S:ac) (w:Rw) (es:List En),w≠.passes->es.length<=100->fm [.str w.s,ce es] S=some (ny (jN w es).head?,S))(hc:nv cg)
  {N:List Str} (hN:N.length=3) (hl:R.1.length<=100) (hl2:R.2.length<=100):aP N (nR np fm cg) 2 [r.d,aQ R] S=some (ny (qx r R),S):=by
 have hst:aA N [r.d,aQ R]=[some r.d,some (aQ R),none]:=by simp [aA,hN,List.replicate]
 rw [bb (show [r.d,aQ R].length=2 from rfl),hst]
 have w3:(r.w.s == ("passes":Str))=decide (r.w=.passes):=Rw.eq r.w .passes
 unfold qx
 simp only [nR,aK,bj,aF,aE,aj,bH,bM,bL,oj,ob,ak,aq,bd,ar,Rl.ix0,cI,w3,aC]
 by_cases hw:r.w=.passes
 ·rw [decide_eq_true hw,if_pos hw]
  simp only [bP,aX,aB,ao,aj,bH,bM,bL,oj,ob,ak,am,ax,al,aR,hp S r R hl,bq,bQ,aH]
 ·rw [decide_eq_false hw,if_neg hw]
  have f1:=hf S r.w R.2 hw hl2
  simp only [bI,bt,ob,aD,aK,bf,aB,ao,aE,aj,bH,bM,bL,oj,ak,aq,bd,ar,Rl.ix0,Rm.ix1,am,ax,al,aR,f1,bg,aJ,dY,eR,bD,aX,jc,dw,bx]
  cases hh:(jN r.w R.2).head? with
  | none=>
   obtain⟨ws,es⟩:=R
   have:es=[]:=GY hh
   subst this
   have c2:=hc.2 S r ws hl
   simp only [ny,c2,ob,eh]
   simp
  | some g=>
   have c1:=hc.1 S r R g hl
   simp only [ny,c1,ob,eh]
   cases dE r R g <;> simp [ny]
end
end MI
namespace MI
open PySem PySem.Spec PyProof.Rows L2 M
section
variable{ws:List Wd}{es:List En}{r:Rl}{R:Rm}{g:Nat}
def Ie(ws:List Wd):List Wd:=ws.filter fun w=>!decide (w=.out)
theorem BF{α:Type}{p:α->Bool}:∀ (xs:List α) (k:Nat),((xs.zipIdx k).filter fun q=>p q.1).map (·.1)=xs.filter p
 | [],_=>rfl
 | x::l,k=>by
  rw [List.zipIdx_cons,List.filter_cons,List.filter_cons]
  have ih:=BF (p:=p) l (k+1)
  split
  ·rw [List.map_cons,ih]
  ·exact ih
theorem DX(h:ws[g]?=some .out):cz ws g=Ie ws:=by
 unfold cz Ie
 rw [<- BF ws 0]
 congr 1
 apply List.filter_congr
 intro q hq
 have hq':ws[q.2]?=some q.1:=mem_zi.mp (show (q.1,q.2)∈ws.zipIdx from hq)
 by_cases hg:q.2=g
 ·rw [hg,h] at hq'
  have:=Option.some.inj hq'
  simp [<- this]
 ·simp [hg]
theorem besK{p:Wd->Bool}:∀ (ws:List Wd) (k g:Nat) (w:Wd),ws[g]?=some w->p w=true->((ws.zipIdx k).filter fun q=>p q.1 && !decide (q.2=k+g)).length+1=(ws.filter p).length
 | [],k,g,w,h,_=>by simp at h
 | x::l,k,0,w,h,hp=>by
  simp at h;subst h
  rw [List.zipIdx_cons,List.filter_cons,List.filter_cons,if_pos hp,List.length_cons,<- BF l (k+1),List.length_map]
  simp only [hp,Nat.add_zero,decide_true,Bool.not_true,Bool.and_false,Bool.false_eq_true,if_false]
  congr 2
  apply List.filter_congr
  intro q hq
  have:k+1<=q.2:=(List.mem_zipIdx hq).1
  have hne:q.2≠k:=by omega
  simp [hne]
 | x::l,k,g+1,w,h,hp=>by
  have ih:=besK (p:=p) l (k+1) g w (by simpa using h) hp
  have e:k+(g+1)=(k+1)+g:=by omega
  rw [e,List.zipIdx_cons,List.filter_cons,List.filter_cons]
  have hne:¬ (k=k+1+g):=by omega
  cases hx:p x with
  | false=>simp only [hx,Bool.false_and,Bool.false_eq_true,if_false];exact ih
  | true=>simp only [hx,hne,decide_false,Bool.not_false,Bool.and_self,if_true,List.length_cons];omega
theorem yB:(Ie ws).length+ws.count .out=ws.length:=by
 unfold Ie
 have:=List.length_eq_countP_add_countP (fun w:Wd=>w == .out) (l:=ws)
 rw [List.count,this,List.countP_eq_length_filter,Nat.add_comm]
 congr 1
 rw [List.countP_eq_length_filter]
 congr 1
 apply List.filter_congr
 intro w _
 cases w <;> rfl
theorem Mo(h:ws[g]?=some .rising):(cz ws g).isEmpty=decide (ws.count .out+1=ws.length):=by
 have k:=besK (p:=fun w=>!decide (w=.out)) ws 0 g .rising h rfl
 have l:=yB (ws:=ws)
 unfold Ie at l
 unfold cz
 simp only [Nat.zero_add] at k
 rw [Bool.eq_iff_iff,decide_eq_true_eq,List.isEmpty_iff,List.map_eq_nil_iff]
 constructor
 ·intro e;rw [e] at k;simp only [List.length_nil] at k;omega
 ·intro e;apply List.eq_nil_of_length_eq_zero;omega
theorem cnt5:∀ ws:List Wd,ws.count .out+ws.count .reads+ws.count .rising+ws.count .writes+ws.count .raised=ws.length
 | []=>rfl
 | w::l=>by
  have:=cnt5 l
  cases w <;> simp [List.count_cons] <;> omega
theorem GV:(Ie ws).all (fun w=>decide (w=.reads))=decide (ws.count .out+ws.count .reads=ws.length):=by
 have l:=yB (ws:=ws)
 have c:(Ie ws).countP (fun w=>decide (w=.reads))=ws.count .reads:=by
  unfold Ie
  rw [List.countP_filter,List.count]
  congr 1
  funext w;cases w <;> rfl
 have d:=List.countP_le_length (p:=fun w:Wd=>decide (w=.reads)) (l:=Ie ws)
 rw [Bool.eq_iff_iff,decide_eq_true_eq,List.all_eq_true]
 have e:=List.countP_eq_length (p:=fun w:Wd=>decide (w=.reads)) (l:=Ie ws)
 constructor
 ·intro h;have:=e.mpr h;omega
 ·intro h;exact e.mp (by omega)
theorem On(h:ROk R){e:En}(he:e∈R.2):(R.2.find? fun x=>decide (x.g=e.g))=some e:=by
 have hn:=h.nd
 generalize R.2=es at hn he
 induction es with
 | nil=>cases he
 | cons x l ih=>
  rw [List.map_cons,List.nodup_cons] at hn
  rw [List.find?_cons]
  rcases List.mem_cons.mp he with rfl | he
  ·simp
  ·have:x.g≠e.g:=fun z=>hn.1 (by rw [z];exact List.mem_map.mpr ⟨e,he,rfl⟩)
   simp only [this,decide_false]
   exact ih hn.2 he
theorem RM(h:ROk R){e:En}(he:e∈R.2):dE r R e.g=pV r R.1 e.wr:=by
 have ho:=h.out e he
 unfold dE pV
 rw [ho,if_neg (by simp),On h he,DX ho]
 have c:=cnt5 R.1
 have l:=yB (ws:=R.1)
 dsimp only
 cases hw:e.wr with
 | true=>
  simp only [if_true]
  by_cases h1:R.1.count .reads+R.1.count .rising+R.1.count .out<R.1.length
  ·rw [if_pos h1]
   cases hi:Ie R.1 with
   | nil=>rw [hi] at l;simp at l;omega
   | cons _ _=>rfl
  ·rw [if_neg h1]
   rw [Bool.eq_iff_iff,List.isEmpty_iff,decide_eq_true_eq]
   constructor
   ·intro hi;rw [hi] at l;simp at l;omega
   ·intro hi;apply List.eq_nil_of_length_eq_zero;omega
 | false=>
  simp only [Bool.false_eq_true,if_false,GV]
  by_cases h1:R.1.count .reads+R.1.count .rising+R.1.count .out<R.1.length
  ·rw [if_pos h1,decide_eq_false (by omega)];rfl
  ·rw [if_neg h1]
   by_cases h2:R.1.count .rising=0
   ·have:(Ie R.1).length=R.1.count .reads+R.1.count .rising:=by omega
    rw [this,decide_eq_true (by omega),decide_eq_true h2]
   ·rw [decide_eq_false (by omega),decide_eq_false h2];rfl
theorem wq{p:Wd->Bool}:∀ (ws:List Wd) (k:Nat),((ws.zipIdx k).filter fun q=>p q.1).map (·.2)=(List.range' k ws.length).filter fun i=>match ws[i - k]? with | some w=>p w | none=>false
 | [],k=>rfl
 | w::l,k=>by
  have ih:=wq (p:=p) l (k+1)
  rw [List.zipIdx_cons,List.length_cons,List.range'_succ,List.filter_cons,List.filter_cons]
  have e:(List.range' (k+1) l.length).filter (fun i=>match (w::l)[i - k]? with | some w=>p w | none=>false)=(List.range' (k+1) l.length).filter fun i=>match l[i - (k+1)]? with | some w=>p w | none=>false:=by
   apply List.filter_congr
   intro i hi
   have:k+1<=i:=(List.mem_range'_1.mp hi).1
   rw [show i - k=(i - (k+1))+1 by omega,List.getElem?_cons_succ]
  simp only [Nat.sub_self,List.getElem?_cons_zero]
  cases hp:p w with
  | true=>rw [if_pos rfl,if_pos rfl,List.map_cons,ih,e]
  | false=>rw [if_neg (by decide),if_neg (by decide),ih,e]
theorem ul{α:Type}{p q:α->Bool}:∀ {l:List α},(∀ x∈l,p x=q x)->l.find? p=l.find? q
 | [],_=>rfl
 | x::l,h=>by rw [List.find?_cons,List.find?_cons,h x List.mem_cons_self,ul fun y hy=>h y (List.mem_cons_of_mem _ hy)]
theorem FZ:(rP (fun w=>decide (w=.rising)) R.1).find? (dE r R)=(mS R.1).head?:=by
 have e:rP (fun w=>decide (w=.rising)) R.1=(List.range R.1.length).filter fun i=>match R.1[i]? with | some w=>decide (w=.rising) | none=>false:=by
  have k:=wq (p:=fun w=>decide (w=.rising)) R.1 0
  rw [List.range_eq_range']
  exact k
 rw [e,List.find?_filter]
 unfold mS
 rw [List.head?_filter]
 apply ul
 intro i hi
 by_cases h:R.1[i]?=some .rising
 ·rw [h]
  have:dE r R i=(cz R.1 i).isEmpty:=by unfold dE;rw [if_pos h]
  simp only [decide_true,Bool.true_and]
  rw [this,Mo h]
  simp
 ·rw [decide_eq_false h,Bool.false_and]
  cases hw:R.1[i]? with
  | none=>rfl
  | some w=>
   have:¬ (w=.rising):=fun z=>h (by rw [hw,z])
   simp [this]
theorem AT{p:En->Bool}:∀ (es:List En) (k:Nat),(((es.zipIdx k).filter fun q=>p q.1).map (·.2)).head?=(es.findIdx? p).map (· + k)
 | [],_=>rfl
 | e::l,k=>by
  have ih:=AT (p:=p) l (k+1)
  rw [List.zipIdx_cons,List.filter_cons,List.findIdx?_cons]
  cases hp:p e with
  | true=>simp
  | false=>
   simp only [Bool.false_eq_true,if_false]
   rw [ih]
   cases l.findIdx? p with
   | none=>rfl
   | some i=>simp;omega
theorem jg{p:En->Bool}{es:List En}:(zj p es).head?=es.findIdx? p:=by
 unfold zj;rw [AT];simp
theorem wK{p:En->Bool}:∀ es:List En,((es.filter p).map (·.g)).head?=(es.findIdx? p).bind fun i=>es[i]?.map (·.g)
 | []=>rfl
 | e::l=>by
  have ih:=wK (p:=p) l
  rw [List.filter_cons,List.findIdx?_cons]
  cases hp:p e with
  | true=>simp
  | false=>
   simp only [Bool.false_eq_true,if_false]
   rw [ih]
   cases l.findIdx? p with
   | none=>rfl
   | some i=>simp
theorem rQ{a b:List Nat}:(NA a b).head?=a.head?.or b.head?:=by
 unfold NA;cases a <;> simp
theorem AV{a b:List Nat}:(a++b).head?=a.head?.or b.head?:=by cases a <;> simp
theorem mZ{l:List Nat}:(l.take 1).head?=l.head?:=by cases l <;> simp
theorem ke{p q:En->Bool}(hpq:∀ e,p e = !q e){es:List En}(h:es.findIdx? p=none):es.findIdx? q=(if es=[] then none else some 0):=by
 cases es with
 | nil=>rfl
 | cons e l=>
  rw [List.findIdx?_eq_none_iff] at h
  have:=h e List.mem_cons_self
  rw [hpq] at this
  have hq:q e=true:=by simpa using this
  rw [List.findIdx?_cons,hq];simp
def zk(es:List En)(o:Option Nat):Option Nat:=o.bind fun i=>es[i]?.map (·.g)
theorem Mp:(es.map (·.g)).head?=zk es (if es=[] then none else some 0):=by cases es <;> simp [zk]
theorem Fc{p:En->Bool}{i:Nat}(h:es.findIdx? p=some i):i<es.length:=(List.findIdx?_eq_some_iff_getElem.mp h).1
theorem Ol(hw:r.w≠.passes):(jN r.w es).head?=zk es (Be r es).head?:=by
 have f0:∀ p,((es.filter p).map (·.g)).head?=zk es (es.findIdx? p):=fun p=>wK es
 have ff:es.findIdx? (fun _=>false)=none:=by rw [List.findIdx?_eq_none_iff];intros;rfl
 unfold jN Be
 rw [AV,AV,f0,f0,Mp]
 cases hr:r.w with
 | passes=>exact absurd hr hw
 | rows=>
  have e1:kn .rows=fun _=>false:=rfl
  have e2:rp .rows=fun _=>false:=rfl
  rw [e1,e2,ff,mZ]
  cases es <;> simp [zk,List.range_succ_eq_map]
 | readers=>
  have e1:kn .readers=fun _=>false:=rfl
  have e2:rp .readers=fun e=>!e.wr:=rfl
  dsimp only
  rw [e1,e2,ff,mZ,rQ,jg,jg]
  show (zk es _).or _=_
  cases hf:es.findIdx? fun e=>!e.wr with
  | none=>rw [ke (q:=fun e=>e.wr) (fun _=>rfl) hf];rfl
  | some i=>have:=Fc hf;simp [zk,List.getElem?_eq_getElem this]
 | writers=>
  have e1:kn .writers=fun _=>false:=rfl
  have e2:rp .writers=fun e=>e.wr:=rfl
  dsimp only
  rw [e1,e2,ff,mZ,rQ,jg,jg]
  show (zk es _).or _=_
  cases hf:es.findIdx? fun e=>e.wr with
  | none=>rw [ke (q:=fun e=>!e.wr) (fun e=>by simp) hf];rfl
  | some i=>have:=Fc hf;simp [zk,List.getElem?_eq_getElem this]
 | turns=>
  have e1:kn .turns=fun e=>decide (e.m=1):=by funext e;simp [kn]
  have e2:rp .turns=fun e=>e.wr:=rfl
  dsimp only
  rw [e1,e2,mZ,rQ,rQ,jg,jg,jg]
  cases hm:es.findIdx? fun e=>decide (e.m=1) with
  | some i=>have:=Fc hm;simp [zk,List.getElem?_eq_getElem this]
  | none=>
   show (zk es _).or _=_
   cases hf:es.findIdx? fun e=>e.wr with
   | none=>rw [ke (q:=fun e=>!e.wr) (fun e=>by simp) hf];rfl
   | some i=>have:=Fc hf;simp [zk,List.getElem?_eq_getElem this]
theorem maxL_le{b:Int}{l:List Int}:jU (0::l)<=b↔0<=b/\∀ x∈l,x<=b:=by
 obtain⟨h1,h2⟩:=pQ (ns:=0::l) (by simp)
 constructor
 ·intro h
  exact⟨Int.le_trans (h2 0 List.mem_cons_self) h,fun x hx=>Int.le_trans (h2 x (List.mem_cons_of_mem _ hx)) h⟩
 ·intro⟨h0,h⟩
  rcases List.mem_cons.mp h1 with e | e
  ·rw [e];exact h0
  ·exact h _ e
def zP(r:Rl)(ws:List Wd)(es:List En)(i:Nat):Bool:=(match es[i]? with | some e=>pV r ws e.wr | none=>false)&&decide (jU (0::(es.take i).map fun e=>e.m+1)<=r.b)
theorem vQ(hb:0<=r.b)(hc:∀ e∈es,dE r R e.g=pV r R.1 e.wr):∀ (l p:List En),es=p++l->(∀ e∈p,e.m+1<=r.b)->lZ r R l=zk es ((List.range' p.length l.length).find? (zP r R.1 es))
 | [],p,_,_=>by simp [lZ,zk]
 | e::l,p,he,hp=>by
  have ei:es[p.length]?=some e:=by rw [he];simp
  have et:es.take p.length=p:=by rw [he];simp
  have hm:e∈es:=by rw [he];simp
  have q0:zP r R.1 es p.length=pV r R.1 e.wr:=by
   unfold zP
   rw [ei,et]
   have:jU (0::p.map fun e=>e.m+1)<=r.b:=maxL_le.mpr ⟨hb,fun x hx=>by obtain⟨y,hy,rfl⟩:=List.mem_map.mp hx;exact hp y hy⟩
   simp [this]
  rw [List.length_cons,List.range'_succ,List.find?_cons,q0]
  unfold lZ
  rw [hc e hm]
  cases hl:pV r R.1 e.wr with
  | true=>simp [zk,ei]
  | false=>
   rw [if_neg (by decide)]
   by_cases hbm:r.b<=e.m
   ·rw [if_pos hbm]
    have:(List.range' (p.length+1) l.length).find? (zP r R.1 es)=none:=by
     rw [List.find?_eq_none]
     intro i hi
     have h1:=(List.mem_range'_1.mp hi).1
     have:¬ (jU (0::(es.take i).map fun e=>e.m+1)<=r.b):=fun z=>by
      have:=(maxL_le.mp z).2 (e.m+1) (List.mem_map.mpr ⟨e,?_,rfl⟩)
      ·omega
      ·rw [List.mem_take_iff_getElem]
       refine⟨p.length,?_,?_⟩
       ·have:=(List.getElem?_eq_some_iff.mp ei).1;omega
       ·exact(List.getElem?_eq_some_iff.mp ei).2
     unfold zP;rw [decide_eq_false this,Bool.and_false];decide
    rw [this];rfl
   ·rw [if_neg hbm]
    have ih:=vQ hb hc l (p++[e]) (by rw [he];simp) (fun x hx=>by
     rcases List.mem_append.mp hx with hx | hx
     ·exact hp x hx
     ·have:x=e:=by simpa using hx
      rw [this];omega)
    rw [ih];simp
theorem Oj(hw:r.w≠.passes):(Be r es).length<=1:=by
 unfold Be
 cases hr:r.w <;> first | exact absurd hr hw | (simp only [List.length_take];omega)
theorem NL(h:ROk R)(hb:0<=r.b):qx r R=zk R.2 (lK r R.1 R.2).head?:=by
 have hc:∀ e∈R.2,dE r R e.g=pV r R.1 e.wr:=fun e he=>RM h he
 unfold qx
 by_cases hw:r.w=.passes
 ·rw [if_pos hw,vQ hb hc R.2 [] rfl (fun _ z=>by cases z)]
  congr 1
  unfold lK Be
  rw [hw]
  dsimp only
  rw [List.filter_filter,List.head?_filter,List.length_nil,<- List.range_eq_range']
  rfl
 ·rw [if_neg hw,Ol hw]
  have h1:=Oj (es:=R.2) hw
  unfold lK
  cases hf:Be r R.2 with
  | nil=>rfl
  | cons i l=>
   rw [hf] at h1
   have:l=[]:=by cases l with | nil=>rfl | cons _ _=>simp at h1
   subst this
   have hi:i<R.2.length:=qb (r:=r) (by rw [hf];exact List.mem_cons_self)
   have ei:R.2[i]?=some R.2[i]:=List.getElem?_eq_getElem hi
   have:=hc R.2[i] (List.getElem_mem hi)
   simp only [List.head?_cons,zk,Option.bind_some,ei,Option.map_some,List.filter_cons,this]
   cases pV r R.1 (R.2[i]).wr <;> simp [ei]
def nN(r:Rl)(R:Rm):Option Ev:=match (rP (fun w=>decide (w=.rising)) R.1).find? (dE r R) with
 | some g=>some ⟨"steps",g⟩
 | none=>(qx r R).map fun g=>⟨"in",g⟩
inductive Ef(r:Rl)(R:Rm):Option Ev->Rm->List Ev->Prop
 | up (g:Nat) (h:R.1[g]?=some .rising):Ef r R (some ⟨"steps",g⟩) (R.1.set g .raised,R.2) [⟨"steps",g⟩]
 | go (i:Nat) (e:En) (h:R.2[i]?=some e):Ef r R (some ⟨"in",e.g⟩) (rn r R i e) [⟨"in",e.g⟩]
 | no:Ef r R none R []
theorem wP(h:ROk R)(hb:0<=r.b):Ef r R (nN r R) (lS r R).1 (lS r R).2:=by
 unfold nN lS
 rw [FZ,NL h hb]
 cases ha:mS R.1 with
 | cons g l=>exact .up g (om (by rw [ha];exact List.mem_cons_self))
 | nil=>
  dsimp only [List.head?_nil]
  cases hs:lK r R.1 R.2 with
  | nil=>exact .no
  | cons i l=>
   have hi:i<R.2.length:=qb (r:=r) (List.mem_filter.mp (show i∈lK r R.1 R.2 by rw [hs];exact List.mem_cons_self)).1
   have ei:R.2[i]?=some R.2[i]:=List.getElem?_eq_getElem hi
   simp only [List.head?_cons,zk,Option.bind_some,ei,Option.map_some]
   exact .go i _ ei
def RE(R:Rm):Nat:=R.2.length+R.1.count .rising
theorem kR{a b:Wd}:∀ {ws:List Wd} {i:Nat},ws[i]?=some a->a≠b->∀ c,(ws.set i b).count c+(if a=c then 1 else 0)=ws.count c+(if b=c then 1 else 0)
 | [],i,h,_,c=>by simp at h
 | w::l,0,h,hn,c=>by
  simp at h;subst h
  rw [List.set_cons_zero,List.count_cons,List.count_cons]
  by_cases h1:w=c <;> by_cases h2:b=c <;> simp [h1,h2] <;> omega
 | w::l,i+1,h,hn,c=>by
  have:=kR (i:=i) (ws:=l) (by simpa using h) hn c
  rw [List.set_cons_succ,List.count_cons,List.count_cons]
  omega
theorem FN{o:Option Ev}{R':Rm}{l:List Ev}(h:ROk R)(s:Ef r R o R' l):(o=none/\R'=R/\l=[])\/(∃ v,o=some v/\l=[v]/\RE R'+1=RE R):=by
 cases s with
 | no=>exact .inl ⟨rfl,rfl,rfl⟩
 | up g hg=>
  refine .inr ⟨_,rfl,rfl,?_⟩
  have:=kR (b:=.raised) hg (by decide) .rising
  simp only [RE]
  simp at this
  omega
 | go i e hi=>
  refine .inr ⟨_,rfl,rfl,?_⟩
  have ho:=h.out e (List.mem_of_getElem? hi)
  have hl:=(List.getElem?_eq_some_iff.mp hi).1
  have hc:(R.1.set e.g (if e.wr then .writes else .reads)).count .rising=R.1.count .rising:=by
   cases e.wr with
   | true=>have:=kR (b:=.writes) ho (by decide) .rising;simpa using this
   | false=>have:=kR (b:=.reads) ho (by decide) .rising;simpa using this
  simp only [RE,rn,hc,List.length_append,List.length_map,List.length_take,List.length_drop]
  omega
theorem RD(h:ROk R):RE R<=2 * R.1.length:=by
 have:=h.len
 have:=List.count_le_length (a:=Wd.rising) (l:=R.1)
 unfold RE;omega
theorem zy(h:nN r R=none)(hk:ROk R)(hb:0<=r.b):∀ n,sh r n R=(R,[])
 | 0=>rfl
 | n+1=>by
  have s:=wP hk hb
  rw [h] at s
  have e:lS r R=(R,[]):=by
   generalize hq:lS r R=q at s
   obtain⟨a,b⟩:=q
   dsimp only at s
   cases s;rfl
  show ((sh r n (lS r R).1).1,(lS r R).2++(sh r n (lS r R).1).2)=_
  rw [e,zy h hk hb n];rfl
end
end MI
namespace MI
open PySem PySem.Spec PyProof.Rows L2 M
section
variable{S:ac}{ws:List Wd}{es:List En}{r:Rl}{R:Rm}{g:Nat}
theorem Ox{l:List Nat}:oo S .non (nt l)=some (.bl false):=by
 rw [kg (ys:=l.map ni) rfl rfl (by rw [List.all_eq_true];intro d hd;obtain⟨i,_,rfl⟩:=List.mem_map.mp hd;rfl)]
 congr 2
 rw [List.any_eq_false]
 intro d hd;obtain⟨i,_,rfl⟩:=List.mem_map.mp hd
 show ¬ (false=true);decide
theorem Ip{gw:PF}(O:Mr gw){N:List Str}(hN:N.length=3)(hl:ws.length<=100):aP N (lV gw) 2 [aQ (ws,[]),.non] S=some (.non,S):=by
 have hst:aA N [aQ (ws,[]),.non]=[some (aQ (ws,[])),some .non,none]:=by simp [aA,hN,List.replicate]
 rw [bb (show [aQ (ws,[]),D.non].length=2 from rfl),hst]
 have o1:gw [aQ (ws,[]),.tup [.str "rising"]] S=some (nt (rP (fun w=>decide (w∈[Wd.rising])) ws),S):=O S (ws,[]) [.rising] hl
 have k1:cn ([.str "rising"],S)=some (.tup [.str "rising"],S):=aU (by simp)
 have ek:∀ env,oZ (ah 2) lT env (ce [],S)=some (.nx env S):=fun env=>by show cE (ah 2) lT [] env S=_;simp
 simp only [lV,aK,bj,aF,aE,aj,bH,bM,bL,oj,ob,ak,aq,aB,ao,am,be,bd,ax,al,k1,aR,o1,ar,Ox,aC,bI,bt,aD,oR,Rm.ix1,ek,aX,bq,aH]
theorem HJ{wait:PF}(O:∀ S:ac,wait [aQ (ws,[]),.non] S=some (.non,S)){N:List Str}(hN:N.length=6):aP N (fZ wait) 3 [r.d,aQ (ws,[]),.non] S=some (.bl false,S):=by
 have hst:aA N [r.d,aQ (ws,[]),.non]=[some r.d,some (aQ (ws,[])),some .non,none,none,none]:=by simp [aA,hN,List.replicate]
 rw [bb (show [r.d,aQ (ws,[]),D.non].length=3 from rfl),hst]
 simp only [fZ,aK,bf,aB,ao,aj,bH,bM,bL,oj,ob,ak,am,ax,al,aR,O,bg,aJ,dY,eR,bD,aD,bj,aF,aE,aq,bd,ar,jP,lB,aC,bP,aX,bq,bQ,aH]
def lh:MS:=az (aG (ab 0) (aZ 2 (af (ah 3) (af (ah 4) (aM))))) (aV (aS (aa (au aO (au aO (bE (ab 3) (bF) (ca (ab 1))) (aS (aa (ab 2) (ag)))) (bE (ab 3) (ca (au aO (ab 1) (mC (.int 1)))) (bF))) (aa (ab 4) (ag)))))
theorem xa{N:List Str}(hN:N.length=5){w:Wd}(h:g<R.1.length)(hl:R.1.length<=100):aP N lh 3 [aQ R,.int (g:Int),w.d] S=some (aQ (R.1.set g w,R.2),S):=by
 have hst:aA N [aQ R,.int (g:Int),w.d]=[some (aQ R),some (.int (g:Int)),some w.d,none,none]:=by simp [aA,hN,List.replicate]
 rw [bb (show [aQ R,D.int (g:Int),w.d].length=3 from rfl),hst]
 have g2:∀ env S,aZ 2 (af (ah 3) (af (ah 4) (aM))) (aQ R) env S=(af (ah 3) (af (ah 4) (aM))) [cq R.1,ce R.2] env S:=fun env S=>cx
 have c1:jF (cq R.1) none (some (g:Int),S)=some (.tup ((R.1.take g).map Wd.d),S):=by
  rw [show cq R.1=.tup (R.1.map Wd.d) from rfl,mx,mf,List.map_take]
 have c2:jF (cq R.1) (some ((g:Int)+1)) (none,S)=some (.tup ((R.1.drop (g+1)).map Wd.d),S):=by
  rw [show cq R.1=.tup (R.1.map Wd.d) from rfl,mx,show ((g:Int)+1)=((g+1:Nat):Int) by omega,nj _ _ (by rw [List.length_map];omega),List.map_drop]
 have k1:∀ x,cn ([x],S)=some (.tup [x],S):=fun x=>aU (by simp)
 have k2:∀ x y,cn ([x,y],S)=some (.tup [x,y],S):=fun x y=>aU (by simp)
 have a1:aO S (.tup ((R.1.take g).map Wd.d)) (.tup [w.d])=some (.tup ((R.1.take g++[w]).map Wd.d)):=by rw [gE (by simp;omega)];simp
 have a2:aO S (.tup ((R.1.take g++[w]).map Wd.d)) (.tup ((R.1.drop (g+1)).map Wd.d))=some (cq (R.1.set g w)):=by
  rw [gE (by simp;omega),<- List.map_append,IQ _ _ h];rfl
 simp only [lh,aK,bf,aj,bH,bM,bL,oj,ob,ak,bg,g2,bC,aJ,cU,bW,dY,eR,bD,aD,aX,be,ao,aE,cJ,fM,cR,fL,dA,dC,c1,aq,am,ax,al,k1,ar,a1,bd,js,c2,a2,k2,bq,aH]
 rfl
theorem PV:∀ {es:List En} {i:Nat} {e:En},(es.map (·.g)).Nodup->es[i]?=some e->(es.map fun x=>D.int (x.g:Int)).findIdx? (fun d=>jD d (.int (e.g:Int)))=some i
 | [],i,e,_,h=>by simp at h
 | x::l,0,e,_,h=>by
  simp at h;subst h
  rw [List.map_cons,List.findIdx?_cons]
  have:jD (.int (x.g:Int)) (.int (x.g:Int))=true:=by show ((x.g:Int) == (x.g:Int))=true;simp
  rw [this];rfl
 | x::l,i+1,e,hn,h=>by
  rw [List.map_cons,List.nodup_cons] at hn
  have h':l[i]?=some e:=by simpa using h
  have ih:=PV hn.2 h'
  rw [List.map_cons,List.findIdx?_cons]
  have:jD (.int (x.g:Int)) (.int (e.g:Int))=false:=by
   show ((x.g:Int) == (e.g:Int))=false
   rw [beq_eq_false_iff_ne]
   intro z
   have:x.g=e.g:=by omega
   exact hn.1 (by rw [this];exact List.mem_map.mpr ⟨e,List.mem_of_getElem? h',rfl⟩)
  rw [this,ih];rfl
theorem Sf(hn:(es.map (·.g)).Nodup){i:Nat}{e:En}(h:es[i]?=some e)(hl:es.length<=100):mJ (.lst (es.map fun x=>D.int (x.g:Int))) [.int (e.g:Int)] S=some (.int (i:Int),S):=by
 unfold mJ
 have h1:rh S (.lst (es.map fun x=>D.int (x.g:Int)))=true:=rfl
 have h2:gO S (.lst (es.map fun x=>D.int (x.g:Int)))=some (es.map fun x=>D.int (x.g:Int)):=rfl
 have h3:cK 40 (.int (e.g:Int))=true/\(es.map fun x=>D.int (x.g:Int)).all (cK 39)=true/\(es.map fun x=>D.int (x.g:Int)).length<=sizeLine:=by
  refine⟨rfl,?_,sz (by rw [List.length_map];omega)⟩
  rw [List.all_eq_true];intro d hd;obtain⟨x,_,rfl⟩:=List.mem_map.mp hd;rfl
 dsimp only
 rw [if_pos h1,h2]
 show (if _ then _ else none)=_
 rw [if_pos h3,PV hn h];rfl
def yo:ME:=bJ (da (ab 6)) (aZ 4 (af (ah 0) (af (ah 1) (af (ah 2) (af (ah 3) (aM)))))) (bX) (aS (aa (ab 0) (aa (ab 1) (aa (au aO (ab 2) (mC (.int 1))) (aa (ab 3) (ag)))))) [none,none,none,none]
def liGs:ME:=bJ (da (ab 4)) (ah 0) (bX) (au av (ab 0) (mC (.int 0))) [none]
def pM(ww:PF):MS:=az (aG (ab 1) (aZ 2 (af (ah 3) (af (ah 4) (aM))))) (az (aG (eU mJ liGs (aa (ab 2) (ag))) (ah 5)) (az (aG (bE (ab 4) (bF) (ca (ab 5))) (ah 6)) (az (bG (aw (au bU (au av (ab 0) (mC (.int 0))) (mC (.str "passes")))) (aG (bi (aN (cm .tup)) (aa yo (ag))) (ah 6)) (aY)) (aV (ai 3 ww (aa (aS (aa (ab 3) (aa (au aO (ab 6) (bE (ab 4) (ca (au aO (ab 5) (mC (.int 1)))) (bF))) (ag)))) (aa (ab 2) (aa (dP BG (au av (au av (ab 4) (ab 5)) (mC (.int 1)))) (ag)))))))))
theorem LX{en:MG}{t:ME}{f:En->D}(he:∀ (e:En) (a b c d:Option D),en e.d [a,b,c,d] S=some ([some (.int (e.g:Int)),some (.str (bp e.wr)),some (.int e.m),some (bv e.t)],S))(ht:∀ e:En,t [some (.int (e.g:Int)),some (.str (bp e.wr)),some (.int e.m),some (bv e.t)] S=some (f e,S)) :
  ∀ (es:List En) (a b c d:Option D),dk en bX t (es.map En.d) [a,b,c,d] S=some (es.map f,S)
 | [],a,b,c,d=>by simp
 | e::l,a,b,c,d=>by
  have ih:=LX he ht l (some (.int (e.g:Int))) (some (.str (bp e.wr))) (some (.int e.m)) (some (bv e.t))
  rw [List.map_cons,gc,he,ob,tS,jK,ob,tR,ht,ob,tQ,ih,ob,tP,List.map_cons]
def Qy(e:En):En:={ e with m:=e.m+1 }
theorem CS{a0 a1 a2 a3 a4 a5:Option D}(hl:es.length<=100):yo [a0,a1,a2,a3,a4,a5,some (ce es)] S=some (.lst ((es.map Qy).map En.d),S):=by
 have k:=LX (S:=S) (en:=aZ 4 (af (ah 0) (af (ah 1) (af (ah 2) (af (ah 3) (aM)))))) (t:=aS (aa (ab 0) (aa (ab 1) (aa (au aO (ab 2) (mC (.int 1))) (aa (ab 3) (ag)))))) (f:=fun e=>(Qy e).d) (fun e a b c d=>by
  have g4:aZ 4 (af (ah 0) (af (ah 1) (af (ah 2) (af (ah 3) (aM))))) e.d [a,b,c,d] S=(af (ah 0) (af (ah 1) (af (ah 2) (af (ah 3) (aM))))) [.int (e.g:Nat),.str (bp e.wr),.int e.m,bv e.t] [a,b,c,d] S:=rR
  rw [g4];simp only [bC,aJ,ob,cU,bW,dY,eR]) (fun e=>by
  have k4:∀ x y z w,cn ([x,y,z,w],S)=some (.tup [x,y,z,w],S):=fun x y z w=>aU (by simp)
  simp only [be,ao,aj,bH,bM,bL,oj,ob,ak,am,aE,aq,bd,ar,js,ax,al,k4]
  rfl) es none none none none
 simp only [yo,bV,dj,aj,bH,bM,bL,oj,ob,ak,dW]
 rw [jf (by rw [List.length_map];omega)]
 show (dk _ bX _ (es.map En.d) [none,none,none,none] S).bind _=_
 rw [k,ob,kI,List.map_map];rfl
theorem GB{ww:PF}(hw:∀ (S:ac) (R:Rm) (g:Nat) (w:Wd),g<R.1.length->R.1.length<=100->ww [aQ R,.int (g:Int),w.d] S=some (aQ (R.1.set g w,R.2),S)){N:List Str}(hN:N.length=7)(h:ROk R){i:Nat}{e:En}(hi:R.2[i]?=some e)(hl:R.1.length<=50) :
  aP N (pM ww) 3 [r.d,aQ R,.int (e.g:Int)] S=some (aQ (rn r R i e),S):=by
 have hst:aA N [r.d,aQ R,.int (e.g:Int)]=[some r.d,some (aQ R),some (.int (e.g:Int)),none,none,none,none]:=by simp [aA,hN,List.replicate]
 rw [bb (show [r.d,aQ R,D.int (e.g:Int)].length=3 from rfl),hst]
 have hle:=h.len
 have hil:=(List.getElem?_eq_some_iff.mp hi).1
 have g2:∀ env S,aZ 2 (af (ah 3) (af (ah 4) (aM))) (aQ R) env S=(af (ah 3) (af (ah 4) (aM))) [cq R.1,ce R.2] env S:=fun env S=>cx
 have gs:∀ env:bn,mB (ah 0) bX (au av (ab 0) (mC (.int 0))) [none] env (R.2.map En.d,S)=some (.lst (R.2.map fun e=>.int (e.g:Int)),S):=fun env=>gsC (b:=none) rfl (by omega)
 have km:∀ (ms:MA) env,oX mJ ms env (.lst (R.2.map fun e=>.int (e.g:Int)),S)=(ms env S).bind (dR mJ (.lst (R.2.map fun e=>.int (e.g:Int)))):=fun ms env=>rfl
 have ki:=Sf (S:=S) h.nd hi (by omega)
 have c1:jF (ce R.2) none (some (i:Int),S)=some (ce (R.2.take i),S):=by
  rw [show ce R.2=.tup (R.2.map En.d) from rfl,mx,mf];unfold ce;rw [List.map_take]
 have c2:jF (ce R.2) (some ((i:Int)+1)) (none,S)=some (ce (R.2.drop (i+1)),S):=by
  rw [show ce R.2=.tup (R.2.map En.d) from rfl,mx,show ((i:Int)+1)=((i+1:Nat):Int) by omega,nj _ _ (by rw [List.length_map];omega)];unfold ce;rw [List.map_drop]
 have w3:(r.w.s == ("passes":Str))=decide (r.w=.passes):=Rw.eq r.w .passes
 have x1:av S (ce R.2) (.int (i:Int))=some e.d:=Lq hi
 have k2:∀ x y,cn ([x,y],S)=some (.tup [x,y],S):=fun x y=>aU (by simp)
 have ad:∀ l:List En,l.length<=60->aO S (ce l) (ce (R.2.drop (i+1)))=some (ce (l++R.2.drop (i+1))):=fun l hl'=>by
  unfold ce;rw [gE (by simp;omega),<- List.map_append]
 have wi:=fun l=>hw S (R.1,l) e.g (if e.wr then .writes else .reads) (h.lt (List.mem_of_getElem? hi)) (show R.1.length<=100 by omega)
 have wi':∀ l,ww [.tup [cq R.1,ce l],.int (e.g:Int),(if e.wr then Wd.writes else Wd.reads).d] S=some (aQ (R.1.set e.g (if e.wr then .writes else .reads),l),S):=wi
 have sq:aN (cm .tup) [.lst (((R.2.take i).map Qy).map En.d)] S=some (ce ((R.2.take i).map Qy),S):=by rw [eS];rfl
 simp only [pM,liGs,aK,bf,aj,bH,bM,bL,oj,ob,ak,bg,g2,bC,aJ,cU,bW,dY,eR,bD,aD,lv,bV,dj,dW,gs,km,ao,am,ax,al,fh,ki,cJ,fM,cR,fL,dA,dC,c1,bj,aF,aE,aq,bd,ar,Rl.ix0,cI,w3,aC]
 by_cases hp:r.w=.passes
 ·rw [decide_eq_true hp]
  have e1:(R.2.take i).map (pE r)=(R.2.take i).map Qy:=by
   apply List.map_congr_left;intro x _;simp [pE,Qy,hp]
  simp only [bP,bf,bR,ao,CS (es:=R.2.take i) (by simp;omega),ob,am,ax,al,bS,sq,bg,aJ,dY,eR,bD,aD,aX,aB,be,aj,bH,bM,bL,oj,ak,aE,aq,cJ,fM,dA,bd,ar,js,dC,fL,cR,c2,ad _ (show ((R.2.take i).map Qy).length<=60 by simp;omega),k2,tz,x1,En.ix1,Im,bx,wi',bq,aH]
  unfold rn;rw [e1]
 ·rw [decide_eq_false hp]
  have e1:(R.2.take i).map (pE r)=R.2.take i:=by
   have:∀ x:En,pE r x=x:=fun x=>by simp [pE,hp]
   rw [List.map_congr_left (fun x _=>this x),List.map_id']
  simp only [bI,bt,ob,aD,aX,aB,ao,be,aj,bH,bM,bL,oj,ak,am,aE,aq,cJ,fM,dA,bd,ar,js,dC,fL,cR,c2,ad _ (show (R.2.take i).length<=60 by simp;omega),ax,al,k2,tz,x1,En.ix1,Im,bx,wi',bq,aH]
  unfold rn;rw [e1]
def rq:Option Ev->D
 | none=>.non
 | some v=>v.d
def uA(cg:PF):MS:=bG (cS (ai 3 cg (aa (ab 0) (aa (ab 1) (aa (ab 2) (ag)))))) (aV (aS (aa (mC (.str "steps")) (aa (ab 2) (ag))))) (aY)
def nS(gw cg nx:PF):MS:=az (gb (ai 2 gw (aa (ab 1) (aa (aS (aa (mC (.str "rising")) (ag))) (ag)))) (ah 2) (uA cg)) (az (aG (ai 2 nx (aa (ab 0) (aa (ab 1) (ag)))) (ah 2)) (aV (lN (aw (au ut (ab 2) (mC .non))) (mC .non) (aS (aa (mC (.str "in")) (aa (ab 2) (ag)))))))
theorem wQ{cg:PF}(O:nv cg)(hl:R.1.length<=100):∀ (l:List Nat) (a:Option D),∃ b,cE (ah 2) (uA cg) (l.map ni) [some r.d,some (aQ R),a] S=some (match l.find? (dE r R) with | some g=>.rt (Ev.mk "steps" g).d S | none=>.nx [some r.d,some (aQ R),b] S)
 | [],a=>⟨a,by simp⟩
 | g::l,a=>by
  obtain⟨b,ih⟩:=wQ O hl l (some (ni g))
  refine⟨b,?_⟩
  have c1:cg [r.d,aQ R,ni g] S=some (.bl (dE r R g),S):=O.1 S r R g hl
  have k2:∀ x y,cn ([x,y],S)=some (.tup [x,y],S):=fun x y=>aU (by simp)
  rw [List.map_cons,gY,aJ,ob,eR,eR,dY,pY]
  simp only [uA,bj,dw,aB,ao,aj,bH,bM,bL,oj,ob,ak,am,ax,al,bx,c1,eh,List.find?_cons]
  cases hc:dE r R g with
  | true=>simp only [bP,aX,be,ao,bd,ob,am,aj,bH,bM,bL,oj,ak,ax,al,k2,bq,EY];rfl
  | false=>
   rw [bI,bt,ob,oY]
   exact ih
theorem DN{gw cg nx:PF}(hg:Mr gw)(O:nv cg)(hn:∀ (S:ac) (r:Rl) (R:Rm),R.1.length<=100->R.2.length<=100->nx [r.d,aQ R] S=some (ny (qx r R),S)){N:List Str}(hN:N.length=3)(hl:R.1.length<=100)(hl2:R.2.length<=100) :
  aP N (nS gw cg nx) 2 [r.d,aQ R] S=some (rq (nN r R),S):=by
 have hst:aA N [r.d,aQ R]=[some r.d,some (aQ R),none]:=by simp [aA,hN,List.replicate]
 rw [bb (show [r.d,aQ R].length=2 from rfl),hst]
 have o1:gw [aQ R,.tup [.str "rising"]] S=some (nt (rP (fun w=>decide (w∈[Wd.rising])) R.1),S):=hg S R [.rising] hl
 have k1:cn ([.str "rising"],S)=some (.tup [.str "rising"],S):=aU (by simp)
 have k2:∀ x y,cn ([x,y],S)=some (.tup [x,y],S):=fun x y=>aU (by simp)
 obtain⟨b,e⟩:=wQ (S:=S) (r:=r) O hl (rP (fun w=>decide (w∈[Wd.rising])) R.1) none
 have ek:oZ (ah 2) (uA cg) [some r.d,some (aQ R),none] (nt (rP (fun w=>decide (w∈[Wd.rising])) R.1),S)=cE (ah 2) (uA cg) ((rP (fun w=>decide (w∈[Wd.rising])) R.1).map ni) [some r.d,some (aQ R),none] S:=rfl
 have ew:(fun w=>decide (w∈[Wd.rising]))=fun w=>decide (w=Wd.rising):=by funext w;simp
 unfold nN
 simp only [nS,aK,oR,aB,ao,aj,bH,bM,bL,oj,ob,ak,am,be,bd,ax,al,k1,aR,o1,ek,e]
 rw [ew]
 cases hf:(rP (fun w=>decide (w=Wd.rising)) R.1).find? (dE r R) with
 | some g=>simp only [bQ,ob,aH,rq]
 | none=>
  have n1:=hn S r R hl hl2
  simp only [aD,aK,bf,aB,ao,aj,bH,bM,bL,oj,ob,ak,am,ax,al,aR,n1,bg,aJ,dY,eR,bD,aX,jc,aF,aE,aq,bd,ar,jP]
  cases qx r R with
  | none=>simp [ny,lB,rq]
  | some g=>simp [ny,lB,rq,k2,Ev.d]
def lY(ww li:PF):MS:=az (aG (ab 2) (aZ 2 (af (ah 3) (af (ah 4) (aM))))) (az (bG (aw (au bU (ab 3) (mC (.str "steps")))) (aV (ai 3 ww (aa (ab 1) (aa (ab 4) (aa (mC (.str "raised")) (ag)))))) (aY)) (aV (ai 3 li (aa (ab 0) (aa (ab 1) (aa (ab 4) (ag)))))))
theorem BA{ww li:PF}(hw:∀ (S:ac) (R:Rm) (g:Nat) (w:Wd),g<R.1.length->R.1.length<=100->ww [aQ R,.int (g:Int),w.d] S=some (aQ (R.1.set g w,R.2),S))
  (hi:∀ (S:ac) (r:Rl) (R:Rm) (i:Nat) (e:En),ROk R->R.2[i]?=some e->R.1.length<=50->li [r.d,aQ R,.int (e.g:Int)] S=some (aQ (rn r R i e),S)) {N:List Str} (hN:N.length=5) (h:ROk R) (hl:R.1.length<=50) {v:Ev} {R':Rm} {l:List Ev} (s:Ef r R (some v) R' l) :
  aP N (lY ww li) 3 [r.d,aQ R,v.d] S=some (aQ R',S):=by
 have hst:aA N [r.d,aQ R,v.d]=[some r.d,some (aQ R),some v.d,none,none]:=by simp [aA,hN,List.replicate]
 rw [bb (show [r.d,aQ R,v.d].length=3 from rfl),hst]
 have g2:∀ env S,aZ 2 (af (ah 3) (af (ah 4) (aM))) v.d env S=(af (ah 3) (af (ah 4) (aM))) [.str v.w,.int (v.g:Nat)] env S:=fun env S=>cx
 simp only [lY,aK,bf,aj,bH,bM,bL,oj,ob,ak,bg,g2,bC,aJ,cU,bW,dY,eR,bD,aD,bj,aF,aE,aq,bd,ar,cI]
 cases s with
 | up g hg=>
  have e1:(("steps":Str) == ("steps":Str))=true:=by decide
  have w1:ww [aQ R,.int (g:Int),.str "raised"] S=some (aQ (R.1.set g .raised,R.2),S):=hw S R g .raised (List.getElem?_eq_some_iff.mp hg).1 (by omega)
  simp only [e1,aC,bP,aX,aB,ao,aj,bH,bM,bL,oj,ob,ak,am,bd,ax,al,bx,w1,bq,bQ,aH]
 | go i e he=>
  have e1:(("in":Str) == ("steps":Str))=false:=by decide
  have w1:=hi S r R i e h he hl
  simp only [e1,aC,bI,bt,aD,aX,aB,ao,aj,bH,bM,bL,oj,ob,ak,am,ax,al,bx,w1,bq,aH]
def BP(br co:PF):MS:=az (aG (ai 3 br (aa (ab 0) (aa (ab 1) (aa (ab 3) (ag))))) (ah 1)) (az (ee (eU cZ (ab 2) (aa (ab 3) (ag)))) (aG (ai 2 co (aa (ab 0) (aa (ab 1) (ag)))) (ah 3)))
def BM:MT:=aw (au kf (ab 3) (mC .non))
def lW(br co:PF):MS:=az (aG (eV (ag)) (ah 2)) (az (aG (ai 2 co (aa (ab 0) (aa (ab 1) (ag)))) (ah 3)) (az (fG BM (BP br co)) (aV (aS (aa (ab 1) (aa (bi (aN (cm .tup)) (aa (ab 2) (ag))) (ag)))))))
structure Ua(br co:PF):Prop where
 c:∀ (S:ac) (r:Rl) (R:Rm),R.1.length<=100->R.2.length<=100->co [r.d,aQ R] S=some (rq (nN r R),S)
 b:∀ (S:ac) (r:Rl) (R:Rm) (v:Ev) (R':Rm) (l:List Ev),ROk R->R.1.length<=50->Ef r R (some v) R' l->br [r.d,aQ R,v.d] S=some (aQ R',S)
theorem vJ{br co:PF}(O:Ua br co)(hb:0<=r.b):∀ (n f:Nat) (R:Rm) (evs:List Ev),ROk R->R.1.length<=50->RE R<=n->n<f->evs.length+n<=400 ->
  gp BM (BP br co) f [some r.d,some (aQ R),some (.ref S.length),some (rq (nN r R))] (S++[.lst (evs.map Ev.d)])=some (.nx [some r.d,some (aQ (sh r n R).1),some (.ref S.length),some .non] (S++[.lst ((evs++(sh r n R).2).map Ev.d)]))
 | n,0,R,evs,_,_,_,hf,_=>by omega
 | n,f+1,R,evs,h,hl,hm,hf,he=>by
  have s:=wP (r:=r) h hb
  rw [GA]
  simp only [BM,aF,aE,aj,bH,bM,bL,oj,ob,ak,aq,bd,ar,kN]
  rcases FN h s with ⟨h1,h2,h3⟩ | ⟨v,h1,h2,h3⟩
  ·rw [h1,zy h1 h hb n]
   simp only [rq,lB,Bool.not_true,aC,ob,kWh_f,List.append_nil]
  ·cases n with
   | zero=>omega
   | succ n=>
    obtain⟨q1,q2⟩:=BO (r:=r) h
    have ih:=vJ O hb n f (lS r R).1 (evs++[v]) q1 (by omega) (by omega) (by omega) (by simp;omega)
    rw [h1] at s ⊢
    have b1:∀ S,br [r.d,aQ R,v.d] S=some (aQ (lS r R).1,S):=fun S=>O.b S r R v _ _ h hl s
    have c1:∀ S,co [r.d,aQ (lS r R).1] S=some (rq (nN r (lS r R).1),S):=fun S=>O.c S r _ (by omega) (by have:=q1.len;omega)
    have ap:cZ (.ref S.length) [v.d] (S++[.lst (evs.map Ev.d)])=some (.non,S++[.lst ((evs++[v]).map Ev.d)]):=Dt (by omega)
    have nn:lB (rq (some v)) .non=false:=rfl
    have ev:rq (some v)=v.d:=rfl
    rw [nn]
    simp only [Bool.not_false,aC,ob,kWh_t,BP,aK,bf,aB,ao,aj,bH,bM,bL,oj,ak,am,ax,al,bx,ev,b1,bg,aJ,dY,eR,bD,aD,lx,lv,yK,fh,ap,lA,aR,c1,NT]
    have e2:sh r (n+1) R=((sh r n (lS r R).1).1,(lS r R).2++(sh r n (lS r R).1).2):=rfl
    rw [e2,h2,<- List.append_assoc]
    exact ih
theorem xH{br co:PF}(O:Ua br co)(hb:0<=r.b){N:List Str}(hN:N.length=4)(h:ROk R)(hl:R.1.length<=50) :
  aP N (lW br co) 2 [r.d,aQ R] S=some (.tup [aQ (aW r R).1,dX (aW r R).2],S++[.lst ((aW r R).2.map Ev.d)]):=by
 have hst:aA N [r.d,aQ R]=[some r.d,some (aQ R),none,none]:=by simp [aA,hN,List.replicate]
 rw [bb (show [r.d,aQ R].length=2 from rfl),hst]
 have k0:qA ([],S)=some (.ref S.length,S++[.lst []]):=kH (by simp)
 have c1:∀ S,co [r.d,aQ R] S=some (rq (nN r R),S):=fun S=>O.c S r _ (by omega) (by have:=h.len;omega)
 have lp:=vJ (S:=S) O hb (2 * R.1.length) 5000 R [] h hl (RD h) (by omega) (by simp;omega)
 simp only [List.map_nil,List.nil_append] at lp
 have k2:∀ S x y,cn ([x,y],S)=some (.tup [x,y],S):=fun S x y=>aU (by simp)
 unfold aW
 simp only [lW,aK,bf,oQ,ax,ob,k0,bg,aJ,dY,eR,bD,aD,aB,ao,aj,bH,bM,bL,oj,ak,am,al,aR,c1,JQ,lp,aX,be,bR,bS,La,k2,bq,aH]
end
end MI
namespace MI
open PySem PySem.Spec PyProof.Rows L2 M
section
variable{S:ac}{r:Rl}{R:Rm}
end
end MI
namespace MI
open PySem PySem.Spec PyProof.Rows L2 M
section
variable{r:Rl}
structure Calm(ws:List Wd):Prop where
 only:∀ w∈ws,w=.out\/w=.reads
 one:1<=ws.count .reads
theorem Calm.set{ws:List Wd}(c:Calm ws){g:Nat}(hg:ws[g]?=some .out):Calm (ws.set g .reads)/\(ws.set g .reads).count .reads=ws.count .reads+1:=by
 have h:=kR (b:=.reads) hg (by decide) .reads
 simp at h
 have:=c.one
 refine⟨⟨fun w hw=>?_,by omega⟩,h⟩
 rcases List.mem_or_eq_of_mem_set hw with z | z
 ·exact c.only w z
 ·exact .inr z
end
end MI
namespace MI
open PySem PySem.Spec PyProof.Rows L2 M
section
variable{α:Type}{enc:α->D}{p:α->Bool}{f:α->D}{t:MT}{e:ME}{rest:bn}{S:ac}{r:Nat}{xs:List α}
end
section
variable{r:Rl}{es:List En}
end
end MI
namespace MI
open PySem PySem.Spec PyProof.Rows L2
open M hiding mC ab au aw cV cS cT fH du dB we ic lN ag aa aS di eV EI bF ca bE bi dQ ai aY az aV ee bG ah aM af aZ gv aG bO dU gt bJ da bX eU gu nz kD nV iG fK fI gb fJ fG dP
section
variable{α:Type}{enc:α->D}{f:α->Nat->D}{e:ME}{mi:MA}{S:ac}{n:Nat}{c:Option D}
end
section
variable{S:ac}{n:Nat}{a:Option D}
end
def oF(wait:PF):MS:=
 az (bG (aw (au bU (au av (ab 1) (mC (.int 0))) (mC (.str "tick")))) (aV (mC (.bl true))) (aY)) (az (aG (bE (ab 1) (bF) (ca (mC (.int 2)))) (aZ 2 (af (ah 2) (af (ah 3) (aM))))) (az (aG (au av (au av (ab 0) (mC (.int 0))) (ab 3)) (ah 4)) (az (bG (aw (au bU (ab 2) (mC (.str "up")))) (aV (au bU (ab 4) (mC (.str "reads")))) (aY)) (az (bG (aw (au bU (ab 2) (mC (.str "down")))) (aV (au oo (ab 4) (mC (.tup [.str "writes",.str "raised"])))) (aY)) (az (bG (aw (au bU (ab 2) (mC (.str "leave")))) (aV (au ij (ab 4) (mC (.str "out")))) (aY)) (az (bG (aw (au bU (ab 2) (mC (.str "stop")))) (aV (au kf (ai 2 wait (aa (ab 0) (aa (ab 3) (ag)))) (mC .non))) (aY)) (aV (dB (au bU (ab 4) (mC (.str "out"))) (au ut (ai 2 wait (aa (ab 0) (aa (ab 3) (ag)))) (mC .non))))))))))
theorem Do{es:List En}{g:Nat}:(es.find? fun e=>decide (e.g=g)).isSome=bu es g:=by
 unfold bu;rw [List.isSome_find?]
theorem le{R:Rm}{g:Nat}:lB (jH R g) .non = !(decide (R.1[g]?=some .rising)||bu R.2 g):=by
 unfold jH
 rw [<- Do]
 by_cases h:R.1[g]?=some .rising
 ·rw [if_pos h,decide_eq_true h];rfl
 ·rw [if_neg h,decide_eq_false h]
  cases R.2.find? fun e=>decide (e.g=g) with
  | none=>rfl
  | some e=>cases e.wr <;> rfl
theorem HL{wait:PF}(O:qr wait){N:List Str}(hN:N.length=5){S:ac}{R:Rm}{dd:Dd}(hl:R.1.length<=100)(hd:dd.Ok R.1.length)(ht:dd≠.tick):aP N (oF wait) 2 [aQ R,dd.d] S=some (.bl (ik R dd),S):=by
 have hst:aA N [aQ R,dd.d]=[some (aQ R),some dd.d,none,none,none]:=by simp [aA,hN,List.replicate]
 rw [bb (show [aQ R,dd.d].length=2 from rfl),hst]
 have x0:∀ S,av S dd.d (.int 0)=some (.str (fP dd)):=fun S=>by cases dd <;> first | rfl | exact absurd rfl ht
 have tk:bU S (.str (fP dd)) (.str "tick")=some (.bl false):=by rw [cI,Bu ht]
 have hg:ba dd<R.1.length:=by cases dd with
  | ask _ _ _=>exact hd.1
  | act _ _=>exact hd
  | tick=>exact absurd rfl ht
 have hw:R.1[ba dd]?=some R.1[ba dd]:=List.getElem?_eq_getElem hg
 have xw:∀ S,av S (cq R.1) (.int (ba dd:Int))=some (R.1[ba dd]).d:=fun S=>rT hw
 have sl:∀ S,jF dd.d none (some 2,S)=some (.tup [.str (fP dd),.int (ba dd:Int)],S):=fun S=>by cases dd <;> first | rfl | exact absurd rfl ht
 have g2:∀ x y env S,aZ 2 (af (ah 2) (af (ah 3) (aM))) (.tup [x,y]) env S=(af (ah 2) (af (ah 3) (aM))) [x,y] env S:=fun x y env S=>cx
 have rx:∀ S,av S (aQ R) (.int 0)=some (cq R.1):=fun S=>rfl
 have wt:∀ S,wait [aQ R,.int (ba dd:Int)] S=some (jH R (ba dd),S):=fun S=>O S R _ hl
 simp only [oF,aK,bj,aF,aE,aj,bH,bM,bL,oj,ob,ak,aq,bd,ar,x0,tk,aC,bI,bt,aD,bf,cJ,fM,cR,fL,dA,dC,sl,bg,g2,bC,aJ,cU,bW,dY,eR,bD,rx,xw]
 generalize hv:R.1[ba dd]=w at hw
 have e1:bU S w.d (.str "reads")=some (.bl (decide (w=.reads))):=lE (b:=.reads)
 have e2:ij S w.d (.str "out")=some (.bl (!decide (w=.out))):=uq (b:=.out)
 have e3:bU S w.d (.str "out")=some (.bl (decide (w=.out))):=lE (b:=.out)
 cases dd with
 | tick=>exact absurd rfl ht
 | act k g=>
  simp only [ba] at hw wt ⊢
  have wk:∀ j:Ak,bU S (.str (fP (.act k g))) (.str j.s)=some (.bl (decide (k=j))):=fun j=>yI
  have w1:=wk .up
  have w2:=wk .down
  have w3:=wk .leave
  have w4:=wk .stop
  simp only [Ak.s] at w1 w2 w3 w4
  cases k with
  | up=>simp only [w1,aC,ob,decide_true,bP,aX,aE,aj,bH,bM,bL,oj,ak,aq,bd,ar,e1,bq,bQ,aH,ik,hw,Option.some.injEq]
  | down=>simp (decide:=true) only [w1,w2,aC,ob,decide_true,decide_false,bI,bt,aD,bP,aK,bj,aF,aX,aE,aj,bH,bM,bL,oj,ak,aq,bd,ar,KQ,bq,bQ,aH,ik,hw,Option.some.injEq]
  | leave=>simp (decide:=true) only [w1,w2,w3,aC,ob,decide_true,decide_false,bI,bt,aD,bP,aK,bj,aF,aX,aE,aj,bH,bM,bL,oj,ak,aq,bd,ar,e2,bq,bQ,aH,ik,hw,Option.some.injEq,ne_eq,decide_not]
  | stop=>
   simp (decide:=true) only [w1,w2,w3,w4,aC,ob,decide_true,decide_false,bI,bt,aD,bP,aK,bj,aF,aX,aE,aj,bH,bM,bL,oj,ak,aq,bd,ar,aB,ao,am,ax,al,aR,wt,kN,le,bq,bQ,aH,ik,Bool.not_not,Bool.or_comm]
 | ask wr g t=>
  simp only [ba] at hw wt ⊢
  have w1:bU S (.str (fP (.ask wr g t))) (.str "up")=some (.bl false):=by rw [cI];cases wr <;> rfl
  have w2:bU S (.str (fP (.ask wr g t))) (.str "down")=some (.bl false):=by rw [cI];cases wr <;> rfl
  have w3:bU S (.str (fP (.ask wr g t))) (.str "leave")=some (.bl false):=by rw [cI];cases wr <;> rfl
  have w4:bU S (.str (fP (.ask wr g t))) (.str "stop")=some (.bl false):=by rw [cI];cases wr <;> rfl
  simp only [w1,w2,w3,w4,aC,ob,bI,bt,aD,aK,bj,aF,aX,aE,aj,bH,bM,bL,oj,ak,aq,bd,ar,nY,e3]
  by_cases hw':w=.out
  ·subst hw'
   simp only [decide_true,tU,aE,aB,ao,aj,bH,bM,bL,oj,ob,ak,am,ax,al,aR,wt,aq,bd,ar,jP,le,bq,aH,ik,hw,Option.some.injEq]
   simp
  ·simp only [decide_eq_false hw',Sl,ob,bq,aH,ik,hw,Option.some.injEq,Bool.false_and]
end MI
namespace MI
open PySem PySem.Spec PyProof.Rows L2
open M hiding mC ab au aw cV cS cT fH du dB we ic lN ag aa aS di eV EI bF ca bE bi dQ ai aY az aV ee bG ah aM af aZ gv aG bO dU gt bJ da bX eU gu nz kD nV iG fK fI gb fJ fG dP jd
section
variable{r:Rl}{R:Rm}{g:Nat}
theorem BN(h:(lS r R).1.1[g]?=some .rising):R.1[g]?=some .rising:=by
 have key:∀ (i:Nat) (w:Wd),w≠.rising->(R.1.set i w)[g]?=some .rising->R.1[g]?=some .rising:=fun i w hw q=>by
  by_cases e:i=g
  ·subst e
   by_cases hl:i<R.1.length
   ·rw [List.getElem?_set_self hl] at q;exact absurd (Option.some.inj q) hw
   ·rw [List.getElem?_eq_none (by simp;omega)] at q;cases q
  ·rwa [List.getElem?_set_ne e] at q
 unfold lS at h
 split at h
 ·exact key _ _ (by decide) h
 ·split at h
  ·split at h
   ·rename_i e _
    refine key _ _ ?_ h
    cases e.wr <;> decide
   ·exact h
  ·exact h
theorem nQ:∀ (n:Nat) {R:Rm},(sh r n R).1.1[g]?=some .rising->R.1[g]?=some .rising
 | 0,_,h=>h
 | n+1,R,h=>BN (nQ n (R:=(lS r R).1) h)
theorem FO(h:bu (lS r R).1.2 g=true):bu R.2 g=true:=by
 obtain⟨e,he,hg⟩:=List.any_eq_true.mp h
 unfold lS at he
 split at he
 ·exact List.any_eq_true.mpr ⟨e,he,hg⟩
 ·split at he
  ·split at he
   ·rcases List.mem_append.mp he with he | he
    ·obtain⟨y,hy,rfl⟩:=List.mem_map.mp he
     exact List.any_eq_true.mpr ⟨y,List.mem_of_mem_take hy,hg⟩
    ·exact List.any_eq_true.mpr ⟨e,List.mem_of_mem_drop he,hg⟩
   ·exact List.any_eq_true.mpr ⟨e,he,hg⟩
  ·exact List.any_eq_true.mpr ⟨e,he,hg⟩
theorem vL:∀ (n:Nat) {R:Rm},bu (sh r n R).1.2 g=true->bu R.2 g=true
 | 0,_,h=>h
 | n+1,R,h=>FO (vL n (R:=(lS r R).1) h)
theorem sN(h:ROk R){w:Wd}(hw:R.1[g]?=some w)(ho:w≠.out):bu R.2 g=false:=by
 cases z:bu R.2 g with
 | false=>rfl
 | true=>
  obtain⟨e,he,hg⟩:=List.any_eq_true.mp z
  have:=h.out e he
  rw [of_decide_eq_true hg,hw] at this
  exact absurd (Option.some.inj this) ho
theorem Bi{es:List En}(h:bu es g=false):(es.filter fun e=>decide (e.g≠g))=es:=by
 rw [List.filter_eq_self]
 intro e he
 exact decide_eq_true (iH h he)
end
def FC(settled:PF):Prop:=∀ (S:ac) (r:Rl) (R:Rm),0<=r.b->ROk R->R.1.length<=50->settled [r.d,aQ R] S=some (.tup [aQ (aW r R).1,dX (aW r R).2],S++[.lst ((aW r R).2.map Ev.d)])
structure DeOk(settled wait gw ww:PF):Prop where
 s:FC settled
 w:qr wait
 g:Mr gw
 ww:∀ (S:ac) (R:Rm) (g:Nat) (w:Wd),g<R.1.length->R.1.length<=100->ww [aQ R,.int (g:Int),w.d] S=some (aQ (R.1.set g w,R.2),S)
theorem Ds{S:ac}{k l:List Ev}(h:k.length<=400)(h':l.length<=400):aO S (dX k) (dX l)=some (dX (k++l)):=by
 show aO S (.tup (k.map Ev.d)) (.tup (l.map Ev.d))=_
 rw [gE (by simp;omega),<- List.map_append];rfl
theorem xn{r:Rl}{R:Rm}(hl:R.1.length<=50):(aW r R).2.length<=100:=Nat.le_trans (mW _) (by omega)
def dZ(x:Rm×List Ev):D:=.tup [aQ x.1,dX x.2]
def Ce:MS:=az (aG (ab 0) (aZ 2 (af (ah 2) (af (ah 3) (aM))))) (aV (aS (aa (ab 2) (aa (bi (aN (cm .tup)) (aa (bJ (da (ab 3)) (ah 0) (aw (au ij (au av (ab 0) (mC (.int 0))) (ab 1))) (ab 0) [none,some 1]) (ag))) (ag)))))
section
variable{S:ac}{r:Rl}{R:Rm}{g:Nat}{N:List Str}{settled wait gw ww wo sb tu ol:PF}
theorem Qw(hN:N.length=4)(hl:R.2.length<=100):aP N Ce 2 [aQ R,.int (g:Int)] S=some (aQ (R.1,R.2.filter fun e=>decide (e.g≠g)),S):=by
 have hst:aA N [aQ R,.int (g:Int)]=[some (aQ R),some (.int (g:Int)),none,none]:=by simp [aA,hN,List.replicate]
 rw [bb (show [aQ R,D.int (g:Int)].length=2 from rfl),hst]
 have g2:∀ env S,aZ 2 (af (ah 2) (af (ah 3) (aM))) (aQ R) env S=(af (ah 2) (af (ah 3) (aM))) [cq R.1,ce R.2] env S:=fun env S=>cx
 have k2:∀ x y:D,cn ([x,y],S)=some (.tup [x,y],S):=fun x y=>aU (by simp)
 have k:=Ja (S:=S) (es:=R.2) (g:=g) (b:=none) (cap:=[none,some 1]) (env:=[some (aQ R),some (.int (g:Int)),some (cq R.1),some (ce R.2)]) rfl hl
 simp only [Ce,aK,bf,aj,bH,bM,bL,oj,ob,ak,bg,g2,bC,aJ,cU,bW,dY,eR,bD,aD,aX,be,ao,bR,bV,dj,dW,k,am,ax,al,bS,eS,k2,bq,aH]
 rfl
def Cg(settled:PF):MS:=az (aG (ai 2 settled (aa (ab 0) (aa (ab 1) (ag)))) (aZ 2 (af (ah 1) (af (ah 3) (aM))))) (aV (aS (aa (ab 1) (aa (au aO (ab 2) (ab 3)) (ag)))))
def Ps(sb:PF):Prop:=∀ (S:ac) (r:Rl) (R:Rm) (l:List Ev),0<=r.b->ROk R->R.1.length<=50->l.length<=400->∃ T,sb [r.d,aQ R,dX l] S=some (dZ ((aW r R).1,l++(aW r R).2),S++T)
theorem QM(O:FC settled)(hN:N.length=4){l:List Ev}(hb:0<=r.b)(h:ROk R)(hl:R.1.length<=50)(h4:l.length<=400):∃ T,aP N (Cg settled) 3 [r.d,aQ R,dX l] S=some (dZ ((aW r R).1,l++(aW r R).2),S++T):=by
 have hst:aA N [r.d,aQ R,dX l]=[some r.d,some (aQ R),some (dX l),none]:=by simp [aA,hN,List.replicate]
 rw [bb (show [r.d,aQ R,dX l].length=3 from rfl),hst]
 have o:=O S r R hb h hl
 have fw:=xn (r:=r) hl
 have g2:∀ (x y:D) env S,aZ 2 (af (ah 1) (af (ah 3) (aM))) (.tup [x,y]) env S=(af (ah 1) (af (ah 3) (aM))) [x,y] env S:=fun x y env S=>cx
 have k2:∀ S (x y:D),cn ([x,y],S)=some (.tup [x,y],S):=fun S x y=>aU (by simp)
 have ec:∀ S,aO S (dX l) (dX (aW r R).2)=some (dX (l++(aW r R).2)):=fun S=>Ds h4 (by omega)
 refine⟨[.lst ((aW r R).2.map Ev.d)],?_⟩
 simp only [Cg,aK,bf,aB,ao,aj,bH,bM,bL,oj,ob,ak,am,ax,al,aR,o,bg,g2,bC,aJ,cU,bW,dY,eR,bD,aD,aX,be,aE,aq,ar,ec,k2,bq,aH,dZ]
def tuC:ME:=bJ (da (ab 4)) (aZ 4 (af (ah 0) (af (ah 1) (af (ah 2) (af (ah 3) (aM)))))) (bX) (aS (aa (ab 0) (aa (ab 1) (aa (lN (aw (au bU (ab 1) (mC (.str "read")))) (mC (.int 1)) (ab 2)) (aa (ab 3) (ag)))))) [none,none,none,none]
def Cf:MS:=az (aG (ab 1) (aZ 2 (af (ah 3) (af (ah 4) (aM))))) (az (bG (fH (aw (au ij (au av (ab 0) (mC (.int 0))) (mC (.str "turns")))) (aw (au ij (au av (ab 3) (ab 2)) (mC (.str "writes"))))) (aV (ab 1)) (aY)) (aV (aS (aa (ab 3) (aa (bi (aN (cm .tup)) (aa tuC (ag))) (ag))))))
theorem Ki{e:ME}{f:En->D}{cap:List (Option Nat)}{env:bn}{a b c d:Option D}{es:List En}(hc:uD cap env=[a,b,c,d])(hl:es.length<=1000)(he:∀ x:En,e [some (.int (x.g:Nat)),some (.str (bp x.wr)),some (.int x.m),some (bv x.t)] S=some (f x,S)) :
  mB (aZ 4 (af (ah 0) (af (ah 1) (af (ah 2) (af (ah 3) (aM)))))) bX e cap env (es.map En.d,S)=some (.lst (es.map f),S):=by
 rw [jf (by rw [List.length_map];exact hl),hc,LX (t:=e) (f:=f) (fun x a b c d=>?_) he,ob,kI]
 rw [show x.d=.tup [.int (x.g:Nat),.str (bp x.wr),.int x.m,bv x.t] from rfl,rR]
 simp only [bC,aJ,ob,dY,eR,cU,bW]
theorem Io{b:Bool}:(bp b == ("read":Str)) = !b:=by cases b <;> decide +kernel
def TuOk(tu:PF):Prop:=∀ (S:ac) (r:Rl) (R:Rm) (g:Nat) (w:Wd),R.1[g]?=some w->R.2.length<=100->tu [r.d,aQ R,.int (g:Int)] S=some (aQ (R.1,sQ r w R.2),S)
theorem QE(hN:N.length=5){w:Wd}(hw:R.1[g]?=some w)(hl:R.2.length<=100):aP N Cf 3 [r.d,aQ R,.int (g:Int)] S=some (aQ (R.1,sQ r w R.2),S):=by
 have hst:aA N [r.d,aQ R,.int (g:Int)]=[some r.d,some (aQ R),some (.int (g:Int)),none,none]:=by simp [aA,hN,List.replicate]
 rw [bb (show [r.d,aQ R,D.int (g:Int)].length=3 from rfl),hst]
 have g2:∀ env S,aZ 2 (af (ah 3) (af (ah 4) (aM))) (aQ R) env S=(af (ah 3) (af (ah 4) (aM))) [cq R.1,ce R.2] env S:=fun env S=>cx
 have k2:∀ x y:D,cn ([x,y],S)=some (.tup [x,y],S):=fun x y=>aU (by simp)
 have k4:∀ x y z u:D,cn ([x,y,z,u],S)=some (.tup [x,y,z,u],S):=fun x y z u=>aU (by simp)
 have xw:av S (cq R.1) (.int (g:Int))=some w.d:=rT hw
 have x0:av S r.d (.int 0)=some (.str r.w.s):=rfl
 have e1:ij S (.str r.w.s) (.str "turns")=some (.bl (!decide (r.w=.turns))):=by
  rw [qh];congr 2;cases r.w <;> decide +kernel
 have e2:ij S w.d (.str "writes")=some (.bl (!decide (w=.writes))):=uq (b:=.writes)
 have k:=Ki (S:=S) (es:=R.2) (cap:=[none,none,none,none]) (env:=[some r.d,some (aQ R),some (.int (g:Int)),some (cq R.1),some (ce R.2)]) (a:=none) (b:=none) (c:=none) (d:=none) (e:=aS (aa (ab 0) (aa (ab 1) (aa (lN (aw (au bU (ab 1) (mC (.str "read")))) (mC (.int 1)) (ab 2)) (aa (ab 3) (ag)))))) (f:=fun x=>(if x.wr then x else { x with m:=1 }).d) rfl (by omega) fun x=>by
  obtain⟨xg,xwr,xm,xt⟩:=x
  cases xwr with
  | true=>
   have:bU S (.str (bp true)) (.str "read")=some (.bl false):=by rw [cI,Io];rfl
   simp only [be,ao,aj,bH,bM,bL,oj,ob,ak,am,jc,aF,aE,aq,bd,ar,this,aC,wp,ax,al,k4]
   rfl
  | false=>
   have:bU S (.str (bp false)) (.str "read")=some (.bl true):=by rw [cI,Io];rfl
   simp only [be,ao,aj,bH,bM,bL,oj,ob,ak,am,jc,aF,aE,aq,bd,ar,this,aC,tN,ax,al,k4]
   rfl
 simp only [Cf,aK,bf,aj,bH,bM,bL,oj,ob,ak,bg,g2,bC,aJ,cU,bW,dY,eR,bD,aD,bj,jb,aF,aE,aq,bd,ar,x0,e1,aC]
 unfold sQ
 by_cases h1:r.w=.turns
 ·simp only [decide_eq_true h1,Bool.not_true,my,aF,aE,aj,bH,bM,bL,oj,ob,ak,aq,bd,ar,xw,e2,aC]
  by_cases h2:w=.writes
  ·simp only [decide_eq_true h2,Bool.not_true,bI,bt,ob,aD,aX,be,ao,aj,bH,bM,bL,oj,ak,am,bR,tuC,bV,dj,dW,k,ax,al,bS,eS,k2,bq,aH]
   rw [if_pos ⟨h1,h2⟩]
   simp only [aQ,ce,List.map_map]
   rfl
  ·simp only [decide_eq_false h2,Bool.not_false,bP,aX,aj,bH,bM,bL,oj,ob,ak,bq,bQ,aH]
   rw [if_neg (fun z=>h2 z.2)]
 ·simp only [decide_eq_false h1,Bool.not_false,yx,ob,bP,aX,aj,bH,bM,bL,oj,ak,bq,bQ,aH]
  rw [if_neg (fun z=>h1 z.1)]
def xK(settled wait wo:PF):MS:=az (aG (ab 2) (aZ 3 (af (ah 3) (af (ah 4) (af (ah 5) (aM)))))) (az (aG (ab 1) (aZ 2 (af (ah 6) (af (ah 7) (aM))))) (az (aG (aS (aa (ab 4) (aa (ab 3) (aa (mC (.int 0)) (aa (lN (aw (au bU (ab 5) (mC (.int 0)))) (mC (.int 1)) (ab 5)) (ag)))))) (ah 8)) (az (aG (ai 2 settled (aa (ab 0) (aa (aS (aa (ab 6) (aa (au aO (ab 7) (aS (aa (ab 8) (ag)))) (ag)))) (ag)))) (aZ 2 (af (ah 1) (af (ah 9) (aM))))) (az (bG (aw (au ut (ai 2 wait (aa (ab 1) (aa (ab 4) (ag)))) (mC .non))) (aV (aS (aa (ab 1) (aa (ab 9) (ag))))) (aY)) (az (bG (aw (au bU (ab 5) (mC (.int 0)))) (aV (aS (aa (ai 2 wo (aa (ab 1) (aa (ab 4) (ag)))) (aa (au aO (ab 9) (aS (aa (aS (aa (mC (.str "no")) (aa (ab 4) (ag)))) (ag)))) (ag))))) (aY)) (aV (aS (aa (ab 1) (aa (au aO (ab 9) (aS (aa (aS (aa (mC (.str "waits")) (aa (ab 4) (ag)))) (ag)))) (ag))))))))))
def TX(wo:PF):Prop:=∀ (S:ac) (R:Rm) (g:Nat),R.2.length<=100->wo [aQ R,.int (g:Int)] S=some (aQ (R.1,R.2.filter fun e=>decide (e.g≠g)),S)
theorem Pr(O:FC settled)(W:qr wait)(V:TX wo)(hN:N.length=10){wr:Bool}{t:Option Int}(hb:0<=r.b)(h:ROk R)(hl:R.1.length<=50)(hw:R.1[g]?=some .out)(hs:bu R.2 g=false):∃ T,aP N (xK settled wait wo) 3 [r.d,aQ R,(Dd.ask wr g t).d] S=some (dZ (uI r R wr g t),S++T):=by
 have hst:aA N [r.d,aQ R,(Dd.ask wr g t).d]=[some r.d,some (aQ R),some (Dd.ask wr g t).d,none,none,none,none,none,none,none]:=by simp [aA,hN,List.replicate]
 rw [bb (show [r.d,aQ R,(Dd.ask wr g t).d].length=3 from rfl),hst]
 have hle:=h.len
 have ok:=zb (wr:=wr) (t:=t) h hw hs
 have g3:∀ env S,aZ 3 (af (ah 3) (af (ah 4) (af (ah 5) (aM)))) (Dd.ask wr g t).d env S=(af (ah 3) (af (ah 4) (af (ah 5) (aM)))) [.str (bp wr),.int (g:Int),bv t] env S:=fun env S=>yD
 have g2:∀ env S,aZ 2 (af (ah 6) (af (ah 7) (aM))) (aQ R) env S=(af (ah 6) (af (ah 7) (aM))) [cq R.1,ce R.2] env S:=fun env S=>cx
 have g2':∀ (x y:D) env S,aZ 2 (af (ah 1) (af (ah 9) (aM))) (.tup [x,y]) env S=(af (ah 1) (af (ah 9) (aM))) [x,y] env S:=fun x y env S=>cx
 have k1:∀ S (x:D),cn ([x],S)=some (.tup [x],S):=fun S x=>aU (by simp)
 have k2:∀ S (x y:D),cn ([x,y],S)=some (.tup [x,y],S):=fun S x y=>aU (by simp)
 have k4:∀ S (x y z u:D),cn ([x,y,z,u],S)=some (.tup [x,y,z,u],S):=fun S x y z u=>aU (by simp)
 have hi:lN (aw (au bU (ab 5) (mC (.int 0)))) (mC (.int 1)) (ab 5) [some r.d,some (aQ R),some (Dd.ask wr g t).d,some (.str (bp wr)),some (.int (g:Int)),some (bv t),some (cq R.1),some (ce R.2),none,none] S=some (bv (if t=some 0 then some 1 else t),S):=by
  simp only [jc,aF,aE,aj,bH,bM,bL,oj,ob,ak,aq,bd,ar,jp,aC]
  by_cases z:t=some 0
  ·rw [decide_eq_true z,if_pos z];simp only [tN,bd];rfl
  ·rw [decide_eq_false z,if_neg z];simp only [wp,aj,bH,bM,bL,oj,ob,ak]
 have ed:D.tup [.int (g:Int),.str (bp wr),.int 0,bv (if t=some 0 then some 1 else t)]=(lJ wr g t).d:=rfl
 have ae:aO S (ce R.2) (.tup [(lJ wr g t).d])=some (ce (R.2++[lJ wr g t])):=by
  show aO S (.tup (R.2.map En.d)) _=_
  rw [gE (by simp;omega)];simp [ce]
 have so:=O S r (R.1,R.2++[lJ wr g t]) hb ok hl
 have so':settled [r.d,.tup [cq R.1,ce (R.2++[lJ wr g t])]] S=_:=so
 have fw:=xn (r:=r) (R:=(R.1,R.2++[lJ wr g t])) hl
 have lnS:(aW r (R.1,R.2++[lJ wr g t])).1.1.length=R.1.length:=(dr (r:=r) ok).2
 have okS:=(dr (r:=r) ok).1
 have ln2:=okS.len
 generalize hA:aW r (R.1,R.2++[lJ wr g t])=A at so' fw lnS okS ln2
 have nr:¬ A.1.1[g]?=some .rising:=fun z=>by
  rw [<- hA] at z
  have:=nQ _ z
  rw [hw] at this;cases this
 have wt:∀ S,wait [aQ A.1,.int (g:Int)] S=some (jH A.1 g,S):=fun S=>W S A.1 g (by omega)
 have vo:∀ S,wo [aQ A.1,.int (g:Int)] S=some (aQ (A.1.1,A.1.2.filter fun e=>decide (e.g≠g)),S):=fun S=>V S A.1 g (by omega)
 have e1:∀ S (w:Str),aO S (dX A.2) (.tup [.tup [.str w,.int (g:Int)]])=some (dX (A.2++[⟨w,g⟩])):=fun S w=>Ds (l:=[⟨w,g⟩]) (by omega) (by simp)
 have wb:lB (jH A.1 g) .non = !bu A.1.2 g:=by rw [le,decide_eq_false nr,Bool.false_or]
 refine⟨[.lst (A.2.map Ev.d)],?_⟩
 simp only [xK,aK,bf,aj,bH,bM,bL,oj,ob,ak,bg,g3,bC,aJ,cU,bW,dY,eR,bD,aD,g2,be,ao,bd,hi,am,ax,al,k4,ed,aB,aE,aq,k1,ar,ae,k2,aR,so',g2',bj,aF,wt,jP,wb,aC]
 unfold uI
 rw [hA]
 dsimp only
 cases hst:bu A.1.2 g with
 | false=>
  rw [if_pos rfl]
  simp only [Bool.not_false,bP,aX,be,ao,aj,bH,bM,bL,oj,ob,ak,am,ax,al,k2,bq,bQ,aH,dZ]
 | true=>
  rw [if_neg (by decide)]
  simp only [Bool.not_true,bI,bt,ob,aD,aK,bj,aF,aE,aj,bH,bM,bL,oj,ak,aq,bd,ar,jp,aC]
  by_cases z:t=some 0
  ·rw [decide_eq_true z,if_pos z]
   simp only [bP,aX,be,ao,aB,aj,bH,bM,bL,oj,ob,ak,am,ax,al,aR,vo,aE,aq,bd,k2,k1,ar,e1,bq,bQ,aH,dZ]
  ·rw [decide_eq_false z,if_neg z]
   simp only [bI,bt,ob,aD,aX,be,ao,aj,bH,bM,bL,oj,ak,am,ax,al,aE,aq,bd,k2,k1,ar,e1,bq,aH,dZ]
theorem Ed(h:ROk R){k:Ak}{w:Wd}(hs:bu R.2 g=false):qq r k w g R.2=if k=.down\/k=.leave then sQ r w R.2 else R.2:=by
 unfold qq
 refine Bi ?_
 split
 ·unfold sQ
  split
  ·unfold bu
   rw [List.any_map]
   refine Eq.trans ?_ hs
   unfold bu
   congr 1
   funext e
   show decide ((if e.wr=true then e else { e with m:=1 }).g=g)=_
   cases e.wr <;> rfl
  ·exact hs
 ·exact hs
def xI(settled wait gw ww:PF):MS:=az (aG (au av (ab 2) (mC (.int 1))) (ah 3)) (az (bG (fH (aw (au bU (au av (ab 0) (mC (.int 3))) (mC (.int 0)))) (cS (ai 2 gw (aa (ab 1) (aa (aS (aa (mC (.str "rising")) (ag))) (ag)))))) (aV (aS (aa (ab 1) (aa (aS (aa (aS (aa (mC (.str "no")) (aa (ab 3) (ag)))) (ag))) (ag))))) (aY)) (az (aG (ai 2 settled (aa (ab 0) (aa (ai 3 ww (aa (ab 1) (aa (ab 3) (aa (mC (.str "rising")) (ag))))) (ag)))) (aZ 2 (af (ah 1) (af (ah 4) (aM))))) (az (bG (aw (au ut (ai 2 wait (aa (ab 1) (aa (ab 3) (ag)))) (mC .non))) (aV (aS (aa (ab 1) (aa (ab 4) (ag))))) (aY)) (aV (aS (aa (ab 1) (aa (au aO (ab 4) (aS (aa (aS (aa (mC (.str "waits")) (aa (ab 3) (ag)))) (ag)))) (ag))))))))
theorem Qx(O:DeOk settled wait gw ww)(hN:N.length=5)(hb:0<=r.b)(h:ROk R)(hl:R.1.length<=50)(hw:R.1[g]?=some .reads):∃ T,aP N (xI settled wait gw ww) 3 [r.d,aQ R,(Dd.act .up g).d] S=some (dZ (if r.c=0\/Wd.rising∈R.1 then (R,[⟨"no",g⟩]) else lR r R .up g .reads),S++T):=by
 have hst:aA N [r.d,aQ R,(Dd.act .up g).d]=[some r.d,some (aQ R),some (Dd.act .up g).d,none,none]:=by simp [aA,hN,List.replicate]
 rw [bb (show [r.d,aQ R,(Dd.act .up g).d].length=3 from rfl),hst]
 have hg:g<R.1.length:=(List.getElem?_eq_some_iff.mp hw).1
 have x1:av S (Dd.act .up g).d (.int 1)=some (.int (g:Int)):=rfl
 have x3:av S r.d (.int 3)=some (.int r.c):=rfl
 have k1:∀ S (x:D),cn ([x],S)=some (.tup [x],S):=fun S x=>aU (by simp)
 have k2:∀ S (x y:D),cn ([x,y],S)=some (.tup [x,y],S):=fun S x y=>aU (by simp)
 have gr:gw [aQ R,.tup [.str "rising"]] S=some (nt (rP (fun w=>decide (w∈[Wd.rising])) R.1),S):=O.g S R [.rising] (by omega)
 have tr:AN (nt (rP (fun w=>decide (w∈[Wd.rising])) R.1),S)=some (decide (Wd.rising∈R.1),S):=by
  cases hx:rP (fun w=>decide (w∈[Wd.rising])) R.1 with
  | nil=>
   have:¬ Wd.rising∈R.1:=fun z=>by
    obtain⟨i,hi⟩:=List.mem_iff_getElem?.mp z
    have:i∈rP (fun w=>decide (w∈[Wd.rising])) R.1:=mem_ixW.mpr ⟨_,hi,by simp⟩
    rw [hx] at this;cases this
   rw [decide_eq_false this];rfl
  | cons i l=>
   have:i∈rP (fun w=>decide (w∈[Wd.rising])) R.1:=by rw [hx];exact List.mem_cons_self
   obtain⟨w,h1,h2⟩:=mem_ixW.mp this
   have e:w=.rising:=by simpa using h2
   subst e
   rw [decide_eq_true (List.mem_of_getElem? h1)];rfl
 have ref:(r.c=0\/Wd.rising∈R.1)->∀ env,env=[some r.d,some (aQ R),some (Dd.act .up g).d,some (.int (g:Int)),none]->fH (aw (au bU (au av (ab 0) (mC (.int 3))) (mC (.int 0)))) (cS (ai 2 gw (aa (ab 1) (aa (aS (aa (mC (.str "rising")) (ag))) (ag))))) env S=some (true,S):=fun z env he=>by
  subst he
  by_cases hc:r.c=0
  ·have:(r.c == 0)=true:=by rw [hc];rfl
   simp only [jb,aF,aE,aj,bH,bM,bL,oj,ob,ak,aq,bd,ar,x3,iA,this,aC,yx]
  ·have q:(r.c == 0)=false:=beq_eq_false_iff_ne.mpr hc
   simp only [jb,aF,aE,aj,bH,bM,bL,oj,ob,ak,aq,bd,ar,x3,iA,q,aC,my,dw,aB,ao,am,be,ax,al,k1,aR,gr,tr,decide_eq_true (z.resolve_left hc)]
 by_cases z:r.c=0\/Wd.rising∈R.1
 ·rw [if_pos z]
  refine⟨[],?_⟩
  simp only [xI,aK,bf,aE,aj,bH,bM,bL,oj,ob,ak,aq,bd,ar,x1,bg,aJ,dY,eR,bD,aD,bj,ref z _ rfl,bP,aX,be,ao,am,ax,al,k2,k1,bq,bQ,aH,List.append_nil]
  rfl
 ·rw [if_neg z]
  have hc:(r.c == 0)=false:=beq_eq_false_iff_ne.mpr fun q=>z (.inl q)
  have hr:¬ Wd.rising∈R.1:=fun q=>z (.inr q)
  have hs:=sN h hw (by decide)
  have wwo:ww [aQ R,.int (g:Int),.str "rising"] S=some (aQ (R.1.set g .rising,R.2),S):=O.ww S R g .rising hg (by omega)
  have ok:ROk (R.1.set g .rising,R.2):=h.setW g .rising fun e he=>iH hs he
  have so:=O.s S r (R.1.set g .rising,R.2) hb ok (by simp;omega)
  have fw:=xn (r:=r) (R:=(R.1.set g .rising,R.2)) (by simp;omega)
  have lnS:(aW r (R.1.set g .rising,R.2)).1.1.length=R.1.length:=(dr (r:=r) ok).2.trans (by simp)
  have ns:bu (aW r (R.1.set g .rising,R.2)).1.2 g=false:=by
   cases q:bu (aW r (R.1.set g .rising,R.2)).1.2 g with
   | false=>rfl
   | true=>have:=vL _ q;rw [hs] at this;cases this
  have aL:lR r R .up g .reads=((aW r (R.1.set g .rising,R.2)).1,(aW r (R.1.set g .rising,R.2)).2++(if (aW r (R.1.set g .rising,R.2)).1.1[g]?=some .rising then [⟨"waits",g⟩] else [])):=by
   unfold lR
   rw [Ed h hs,if_neg (by decide)]
   rfl
  rw [aL]
  generalize aW r (R.1.set g .rising,R.2)=A at so fw lnS ns
  have wt:∀ S,wait [aQ A.1,.int (g:Int)] S=some (jH A.1 g,S):=fun S=>O.w S A.1 g (by omega)
  have g2:∀ (x y:D) env S,aZ 2 (af (ah 1) (af (ah 4) (aM))) (.tup [x,y]) env S=(af (ah 1) (af (ah 4) (aM))) [x,y] env S:=fun x y env S=>cx
  have e1:∀ S (w:Str),aO S (dX A.2) (.tup [.tup [.str w,.int (g:Int)]])=some (dX (A.2++[⟨w,g⟩])):=fun S w=>Ds (l:=[⟨w,g⟩]) (by omega) (by simp)
  have wb:lB (jH A.1 g) .non = !decide (A.1.1[g]?=some .rising):=by rw [le,ns,Bool.or_false]
  refine⟨[.lst (A.2.map Ev.d)],?_⟩
  simp only [xI,aK,bf,aE,aj,bH,bM,bL,oj,ob,ak,aq,bd,ar,x1,bg,aJ,dY,eR,bD,aD,bj,jb,aF,x3,iA,hc,aC,my,dw,aB,ao,am,be,ax,al,k1,aR,gr,tr,decide_eq_false hr,bI,bt,bx,wwo,so,g2,bC,cU,bW,wt,jP,wb]
  by_cases q:A.1.1[g]?=some .rising
  ·rw [decide_eq_true q,if_pos q]
   simp only [Bool.not_true,bI,bt,ob,aD,aX,be,ao,aj,bH,bM,bL,oj,ak,am,ax,al,aE,aq,bd,k2,k1,ar,e1,bq,aH,dZ]
  ·rw [decide_eq_false q,if_neg q,List.append_nil]
   simp only [Bool.not_false,bP,aX,be,ao,aj,bH,bM,bL,oj,ob,ak,am,ax,al,k2,bq,bQ,aH,dZ]
def oD(sb ww tu:PF)(x y:Str):MS:=az (aG (au av (ab 2) (mC (.int 1))) (ah 3)) (aV (ai 3 sb (aa (ab 0) (aa (ai 3 ww (aa (ai 3 tu (aa (ab 0) (aa (ab 1) (aa (ab 3) (ag))))) (aa (ab 3) (aa (mC (.str x)) (ag))))) (aa (aS (aa (aS (aa (mC (.str y)) (aa (ab 3) (ag)))) (ag))) (ag))))))
theorem ze{k:Ak}{w w':Wd}{es:List En}(hg:g<R.1.length)(hk:gl k w=w')(hr:w'≠.rising)(he:qq r k w g R.2=es):lR r R k g w=((aW r (R.1.set g w',es)).1,fN k g++(aW r (R.1.set g w',es)).2):=by
 unfold lR
 rw [hk,he]
 dsimp only
 rw [if_neg,List.append_nil]
 intro z
 have:=nQ _ z
 rw [List.getElem?_set_self hg] at this
 exact hr (Option.some.inj this)
theorem Bq(SB:Ps sb)(WW:∀ (S:ac) (R:Rm) (g:Nat) (w:Wd),g<R.1.length->R.1.length<=100->ww [aQ R,.int (g:Int),w.d] S=some (aQ (R.1.set g w,R.2),S))(TU:TuOk tu)(hN:N.length=4)(hb:0<=r.b)(h:ROk R)(hl:R.1.length<=50){w w':Wd}{k:Ak}{y:Str}(hw:R.1[g]?=some w)(ho:w≠.out)(hk:k=.down\/k=.leave)(ht:gl k w=w')(hr:w'≠.rising)(hf:fN k g=[⟨y,g⟩]) :
  ∃ T,aP N (oD sb ww tu w'.s y) 3 [r.d,aQ R,(Dd.act k g).d] S=some (dZ (lR r R k g w),S++T):=by
 have hst:aA N [r.d,aQ R,(Dd.act k g).d]=[some r.d,some (aQ R),some (Dd.act k g).d,none]:=by simp [aA,hN,List.replicate]
 rw [bb (show [r.d,aQ R,(Dd.act k g).d].length=3 from rfl),hst]
 have hg:g<R.1.length:=(List.getElem?_eq_some_iff.mp hw).1
 have hle:=h.len
 have hs:=sN h hw ho
 have he:qq r k w g R.2=sQ r w R.2:=by rw [Ed h hs,if_pos hk]
 rw [ze hg ht hr he,hf]
 have x1:av S (Dd.act k g).d (.int 1)=some (.int (g:Int)):=rfl
 have k1:∀ S (x:D),cn ([x],S)=some (.tup [x],S):=fun S x=>aU (by simp)
 have k2:∀ S (x y:D),cn ([x,y],S)=some (.tup [x,y],S):=fun S x y=>aU (by simp)
 have t1:=TU S r R g w hw (by omega)
 have w1:ww [aQ (R.1,sQ r w R.2),.int (g:Int),.str w'.s] S=some (aQ (R.1.set g w',sQ r w R.2),S):=WW S (R.1,sQ r w R.2) g w' hg (by show R.1.length<=100;omega)
 have ok:ROk (R.1.set g w',sQ r w R.2):=by rw [<- he];exact zf h _
 obtain⟨T,s1⟩:=SB S r (R.1.set g w',sQ r w R.2) [⟨y,g⟩] hb ok (by simp;omega) (by simp)
 refine⟨T,?_⟩
 have s1':sb [r.d,aQ (R.1.set g w',sQ r w R.2),.tup [.tup [.str y,.int (g:Int)]]] S=_:=s1
 simp only [oD,aK,bf,aE,aj,bH,bM,bL,oj,ob,ak,aq,bd,ar,x1,bg,aJ,dY,eR,bD,aD,aX,aB,ao,am,ax,al,bx,t1,w1,be,k2,k1,s1',bq,aH]
def oB(sb ww wo wait:PF):MS:=az (aG (au av (ab 2) (mC (.int 1))) (ah 3)) (az (bG (aw (au bU (ai 2 wait (aa (ab 1) (aa (ab 3) (ag)))) (mC (.str "up")))) (aG (ai 3 ww (aa (ab 1) (aa (ab 3) (aa (mC (.str "reads")) (ag))))) (ah 4)) (aG (ai 2 wo (aa (ab 1) (aa (ab 3) (ag)))) (ah 4))) (aV (ai 3 sb (aa (ab 0) (aa (ab 4) (aa (aS (aa (aS (aa (mC (.str "ends")) (aa (ab 3) (ag)))) (ag))) (ag)))))))
theorem Ej:bU S (jH R g) (.str "up")=some (.bl (decide (R.1[g]?=some .rising))):=by
 unfold jH
 by_cases h:R.1[g]?=some .rising
 ·rw [if_pos h,decide_eq_true h,cI];rfl
 ·rw [if_neg h,decide_eq_false h]
  cases R.2.find? fun e=>decide (e.g=g) with
  | none=>rw [lF rfl rfl];rfl
  | some e=>
   show bU S (.str (bp e.wr)) (.str "up")=_
   rw [cI];cases e.wr <;> rfl
theorem II(SB:Ps sb)(WW:∀ (S:ac) (R:Rm) (g:Nat) (w:Wd),g<R.1.length->R.1.length<=100->ww [aQ R,.int (g:Int),w.d] S=some (aQ (R.1.set g w,R.2),S))(V:TX wo)(W:qr wait)(hN:N.length=5)(hb:0<=r.b)(h:ROk R)(hl:R.1.length<=50){w:Wd}(hw:R.1[g]?=some w)(hc:ik R (.act .stop g)=true) :
  ∃ T,aP N (oB sb ww wo wait) 3 [r.d,aQ R,(Dd.act .stop g).d] S=some (dZ (lR r R .stop g w),S++T):=by
 have hst:aA N [r.d,aQ R,(Dd.act .stop g).d]=[some r.d,some (aQ R),some (Dd.act .stop g).d,none,none]:=by simp [aA,hN,List.replicate]
 rw [bb (show [r.d,aQ R,(Dd.act .stop g).d].length=3 from rfl),hst]
 have hg:g<R.1.length:=(List.getElem?_eq_some_iff.mp hw).1
 have hle:=h.len
 have x1:av S (Dd.act .stop g).d (.int 1)=some (.int (g:Int)):=rfl
 have k1:∀ S (x:D),cn ([x],S)=some (.tup [x],S):=fun S x=>aU (by simp)
 have k2:∀ S (x y:D),cn ([x,y],S)=some (.tup [x,y],S):=fun S x y=>aU (by simp)
 have wt:wait [aQ R,.int (g:Int)] S=some (jH R g,S):=W S R g (by omega)
 have fin:∀ R':Rm,ROk R'->R'.1.length=R.1.length->lR r R .stop g w=((aW r R').1,fN .stop g++(aW r R').2)->∃ T,sb [r.d,aQ R',.tup [.tup [.str "ends",.int (g:Int)]]] S=some (dZ (lR r R .stop g w),S++T):=fun R' ok hl' ha=>by
  obtain⟨T,s1⟩:=SB S r R' [⟨"ends",g⟩] hb ok (by omega) (by simp)
  refine⟨T,?_⟩
  rw [ha];exact s1
 by_cases hr:w=.rising
 ·subst hr
  have hs:=sN h hw (by decide)
  have he:qq r .stop .rising g R.2=R.2:=by rw [Ed h hs,if_neg (by decide)]
  have w1:ww [aQ R,.int (g:Int),.str "reads"] S=some (aQ (R.1.set g .reads,R.2),S):=WW S R g .reads hg (by omega)
  obtain⟨T,s1⟩:=fin (R.1.set g .reads,R.2) (h.setW g .reads fun e q=>iH hs q) (by simp) (ze hg rfl (by decide) he)
  refine⟨T,?_⟩
  simp only [oB,aK,bf,aE,aj,bH,bM,bL,oj,ob,ak,aq,bd,ar,x1,bg,aJ,dY,eR,bD,aD,bj,aF,aB,ao,am,ax,al,aR,wt,Ej,decide_eq_true hw,aC,bP,bx,w1,aX,be,k2,k1,s1,bq,aH]
 ·have ho:w=.out:=by
   unfold ik at hc
   rw [Bool.or_eq_true] at hc
   rcases hc with q | q
   ·obtain⟨e,he,hge⟩:=List.any_eq_true.mp q
    have:=h.out e he
    rw [of_decide_eq_true hge,hw] at this
    exact Option.some.inj this
   ·have:=of_decide_eq_true q;rw [hw] at this;exact absurd (Option.some.inj this) hr
  subst ho
  have hn:¬ R.1[g]?=some .rising:=by rw [hw];intro z;cases z
  have v1:wo [aQ R,.int (g:Int)] S=some (aQ (R.1,R.2.filter fun e=>decide (e.g≠g)),S):=V S R g (by omega)
  have hset:R.1.set g .out=R.1:=by
   obtain⟨q,e⟩:=List.getElem?_eq_some_iff.mp hw
   rw [<- e];exact List.set_getElem_self q
  have ha:=ze (r:=r) (R:=R) (g:=g) (k:=.stop) (w:=.out) (w':=.out) (es:=R.2.filter fun e=>decide (e.g≠g)) hg rfl (by decide) (by unfold qq;rw [if_neg (by decide)])
  rw [hset] at ha
  obtain⟨T,s1⟩:=fin (R.1,R.2.filter fun e=>decide (e.g≠g)) (ROk.filter h _) rfl ha
  refine⟨T,?_⟩
  simp only [oB,aK,bf,aE,aj,bH,bM,bL,oj,ob,ak,aq,bd,ar,x1,bg,aJ,dY,eR,bD,aD,bj,aF,aB,ao,am,ax,al,aR,wt,Ej,decide_eq_false hn,aC,bI,v1,aX,be,k2,k1,bx,s1,bq,aH]
def oC:MS:=aV (lN (aw (au ut (ab 0) (mC .non))) (mC .non) (au nB (ab 0) (mC (.int 1))))
theorem Ke(hN:N.length=1){t:Option Int}:aP N oC 1 [bv t] S=some (bv (t.map (· - 1)),S):=by
 have hst:aA N [bv t]=[some (bv t)]:=by simp [aA,hN]
 rw [bb (show [bv t].length=1 from rfl),hst]
 cases t with
 | none=>
  have i1:lB (bv none) .non=true:=rfl
  simp only [oC,aX,jc,aF,aE,aj,bH,oj,ob,ak,aq,bd,ar,jP,i1,aC,tN,bq,aH];rfl
 | some t=>
  have i1:lB (bv (some t)) .non=false:=rfl
  have s1:nB S (bv (some t)) (.int 1)=some (bv (some (t - 1))):=yG
  simp only [oC,aX,jc,aF,aE,aj,bH,oj,ob,ak,aq,bd,ar,jP,i1,aC,wp,s1,bq,aH];rfl
def tkA(ol:PF):ME:=bJ (da (ab 4)) (aZ 4 (af (ah 0) (af (ah 1) (af (ah 2) (af (ah 3) (aM)))))) (bX) (aS (aa (ab 0) (aa (ab 1) (aa (ab 2) (aa (ai 1 ol (aa (ab 3) (ag))) (ag)))))) [none,none,none,none]
def tkB:ME:=bJ (da (ab 5)) (ah 0) (aw (au bU (au av (ab 0) (mC (.int 3))) (mC (.int 0)))) (aS (aa (mC (.str "ends")) (aa (au av (ab 0) (mC (.int 0))) (ag)))) [none]
def tkC:ME:=bJ (da (ab 5)) (ah 0) (aw (au ij (au av (ab 0) (mC (.int 3))) (mC (.int 0)))) (ab 0) [none]
def sB(sb ol:PF):MS:=az (aG (ab 1) (aZ 2 (af (ah 3) (af (ah 4) (aM))))) (az (aG (tkA ol) (ah 5)) (az (aG (bi (aN (cm .tup)) (aa tkB (ag))) (ah 6)) (az (aG (bi (aN (cm .tup)) (aa tkC (ag))) (ah 7)) (aV (ai 3 sb (aa (ab 0) (aa (aS (aa (ab 3) (aa (ab 7) (ag)))) (aa (ab 6) (ag)))))))))
theorem Iz(SB:Ps sb)(L:∀ (S:ac) (t:Option Int),ol [bv t] S=some (bv (t.map (· - 1)),S))(hN:N.length=8)(hb:0<=r.b)(h:ROk R)(hl:R.1.length<=50):∃ T,aP N (sB sb ol) 3 [r.d,aQ R,Dd.tick.d] S=some (dZ (ia r R),S++T):=by
 have hst:aA N [r.d,aQ R,Dd.tick.d]=[some r.d,some (aQ R),some Dd.tick.d,none,none,none,none,none]:=by simp [aA,hN,List.replicate]
 rw [bb (show [r.d,aQ R,Dd.tick.d].length=3 from rfl),hst]
 have hle:=h.len
 have g2:∀ env S,aZ 2 (af (ah 3) (af (ah 4) (aM))) (aQ R) env S=(af (ah 3) (af (ah 4) (aM))) [cq R.1,ce R.2] env S:=fun env S=>cx
 have k2:∀ x y:D,cn ([x,y],S)=some (.tup [x,y],S):=fun x y=>aU (by simp)
 have k4:∀ x y z u:D,cn ([x,y,z,u],S)=some (.tup [x,y,z,u],S):=fun x y z u=>aU (by simp)
 have a:=Ki (S:=S) (es:=R.2) (cap:=[none,none,none,none]) (env:=[some r.d,some (aQ R),some Dd.tick.d,some (cq R.1),some (ce R.2),none,none,none]) (a:=none) (b:=none) (c:=none) (d:=none) (e:=aS (aa (ab 0) (aa (ab 1) (aa (ab 2) (aa (ai 1 ol (aa (ab 3) (ag))) (ag)))))) (f:=fun x=>(gk x).d) rfl (by omega) fun x=>by
  simp only [be,ao,aj,bH,bM,bL,oj,ob,ak,am,aB,ax,al,AS,L,k4];rfl
 have b:=eY (S:=S) (t:=aw (au bU (au av (ab 0) (mC (.int 3))) (mC (.int 0)))) (e:=aS (aa (mC (.str "ends")) (aa (au av (ab 0) (mC (.int 0))) (ag)))) (cap:=[none]) (env:=[some r.d,some (aQ R),some Dd.tick.d,some (cq R.1),some (ce R.2),some (.lst ((R.2.map gk).map En.d)),none,none]) (rest:=[]) (a:=none) (enc:=En.d) (p:=fun e=>decide (e.t=some 0)) (f:=fun e=>Ev.d ⟨"ends",e.g⟩) (xs:=R.2.map gk) rfl (by rw [List.length_map];omega) (fun e _=>by
  have x3:av S e.d (.int 3)=some (bv e.t):=rfl
  simp only [aF,aE,aj,bH,bM,bL,oj,ob,ak,aq,bd,ar,x3,jp,aC]) (fun e _ _=>by
  simp only [be,ao,bd,ob,am,aE,aj,bH,oj,ak,aq,ar,En.ix0,ax,al,k2];rfl)
 have c:=eY (S:=S) (t:=aw (au ij (au av (ab 0) (mC (.int 3))) (mC (.int 0)))) (e:=ab 0) (cap:=[none]) (env:=[some r.d,some (aQ R),some Dd.tick.d,some (cq R.1),some (ce R.2),some (.lst ((R.2.map gk).map En.d)),some (dX (((R.2.map gk).filter fun e=>decide (e.t=some 0)).map fun e=>⟨"ends",e.g⟩)),none]) (rest:=[]) (a:=none) (enc:=En.d) (p:=fun e=>decide (e.t≠some 0)) (f:=En.d) (xs:=R.2.map gk) rfl (by rw [List.length_map];omega) (fun e _=>by
  have x3:av S e.d (.int 3)=some (bv e.t):=rfl
  simp only [aF,aE,aj,bH,bM,bL,oj,ob,ak,aq,bd,ar,x3,Bk,aC,ne_eq,decide_not]) (fun e _ _=>by simp only [aj,bH,oj,ob,ak])
 have ma:(R.2.map fun x=>(gk x).d)=(R.2.map gk).map En.d:=by rw [List.map_map];rfl
 rw [ma] at a
 have it:∀ l:List D,Db (.lst l,S)=some (l,S):=fun l=>yy
 have sb1:aN (cm .tup) [.lst (((R.2.map gk).filter fun e=>decide (e.t=some 0)).map fun e=>Ev.d ⟨"ends",e.g⟩)] S=some (dX (((R.2.map gk).filter fun e=>decide (e.t=some 0)).map fun e=>⟨"ends",e.g⟩),S):=by
  rw [eS];unfold dX;rw [List.map_map];rfl
 have sc1:aN (cm .tup) [.lst (((R.2.map gk).filter fun e=>decide (e.t≠some 0)).map En.d)] S=some (ce ((R.2.map gk).filter fun e=>decide (e.t≠some 0)),S):=eS
 obtain⟨T,s1⟩:=SB S r (R.1,(R.2.map gk).filter fun e=>decide (e.t≠some 0)) (((R.2.map gk).filter fun(e:En)=>decide (e.t=some 0)).map fun(e:En)=>Ev.mk "ends" e.g) hb (ROk.filter (ROk.mapE h gk fun e=>rfl) _) hl (by
  rw [List.length_map];exact Nat.le_trans (List.length_filter_le _ _) (by rw [List.length_map];omega))
 refine⟨T,?_⟩
 have s1':sb [r.d,.tup [cq R.1,ce ((R.2.map gk).filter fun e=>decide (e.t≠some 0))],dX (((R.2.map gk).filter fun e=>decide (e.t=some 0)).map fun e=>⟨"ends",e.g⟩)] S=some (dZ (ia r R),S++T):=s1
 simp only [sB,aK,bf,aj,bH,bM,bL,oj,ob,ak,bg,g2,bC,aJ,cU,bW,dY,eR,bD,aD,tkA,bV,dj,dW,a,bR,ao,tkB,it,b,am,ax,al,bS,sb1,tkC,c,sc1,aX,aB,be,k2,bx,s1',bq,aH]
structure BrOk(ask up down leave stop tick:PF):Prop where
 a:∀ (S:ac) (r:Rl) (R:Rm) (wr:Bool) (g:Nat) (t:Option Int),0<=r.b->ROk R->R.1.length<=50->R.1[g]?=some .out->bu R.2 g=false->∃ T,ask [r.d,aQ R,(Dd.ask wr g t).d] S=some (dZ (uI r R wr g t),S++T)
 u:∀ (S:ac) (r:Rl) (R:Rm) (g:Nat),0<=r.b->ROk R->R.1.length<=50->R.1[g]?=some .reads->∃ T,up [r.d,aQ R,(Dd.act .up g).d] S=some (dZ (if r.c=0\/Wd.rising∈R.1 then (R,[⟨"no",g⟩]) else lR r R .up g .reads),S++T)
 d:∀ (S:ac) (r:Rl) (R:Rm) (g:Nat) (w:Wd),0<=r.b->ROk R->R.1.length<=50->R.1[g]?=some w->w≠.out->∃ T,down [r.d,aQ R,(Dd.act .down g).d] S=some (dZ (lR r R .down g w),S++T)
 l:∀ (S:ac) (r:Rl) (R:Rm) (g:Nat) (w:Wd),0<=r.b->ROk R->R.1.length<=50->R.1[g]?=some w->w≠.out->∃ T,leave [r.d,aQ R,(Dd.act .leave g).d] S=some (dZ (lR r R .leave g w),S++T)
 s:∀ (S:ac) (r:Rl) (R:Rm) (g:Nat) (w:Wd),0<=r.b->ROk R->R.1.length<=50->R.1[g]?=some w->ik R (.act .stop g)=true->∃ T,stop [r.d,aQ R,(Dd.act .stop g).d] S=some (dZ (lR r R .stop g w),S++T)
 t:∀ (S:ac) (r:Rl) (R:Rm),0<=r.b->ROk R->R.1.length<=50->∃ T,tick [r.d,aQ R,Dd.tick.d] S=some (dZ (ia r R),S++T)
def brL(ask up down leave stop tick:PF):List (bB×Nat×PF):=[(.inr "read",3,ask),(.inr "write",3,ask),(.inr "up",3,up),(.inr "down",3,down),(.inr "leave",3,leave),(.inr "stop",3,stop),(.inr "tick",3,tick)]
def oE(l:List (bB×Nat×PF)):MS:=jd l 3 (au av (ab 2) (mC (.int 0))) (aa (ab 0) (aa (ab 1) (aa (ab 2) (ag))))
theorem jt{l:List (bB×Nat×PF)}{f:PF}{x y z d:D}{w:Str}(hN:N.length=4)(hx:av S z (.int 0)=some (.str w))(hv:zn l (.inr w)=some (3,f)){S':ac}(hf:f [x,y,z] S=some (d,S')):aP N (oE l) 3 [x,y,z] S=some (d,S'):=by
 have hst:aA N [x,y,z]=[some x,some y,some z,none]:=by simp [aA,hN,List.replicate]
 rw [bb (show [x,y,z].length=3 from rfl),hst]
 have kd:=fun ms env=>Ko (S:=S) (d:=.str w) (ms:=ms) (env:=env) (i:=3) (l:=l) yv hv
 have k3:yz 3 f ([x,y,z],S)=(f [x,y,z] S).bind kRt:=GM rfl
 simp only [oE,NQ,aE,aj,bH,bM,bL,oj,ob,ak,aq,bd,ar,hx,kd,dY,eR,ao,am,ax,al,k3,hf,bq,aH]
theorem Gf{ask up down leave stop tick:PF}(B:BrOk ask up down leave stop tick)(hN:N.length=4){dd:Dd}{x:Rm×List Ev}(hb:0<=r.b)(h:ROk R)(hl:R.1.length<=50)(hd:dd.Ok R.1.length)(hx:gj r R dd=some x):∃ T,aP N (oE (brL ask up down leave stop tick)) 3 [r.d,aQ R,dd.d] S=some (dZ x,S++T):=by
 unfold gj at hx
 split at hx
 ·cases hx
 rename_i hcan
 rw [Bool.not_eq_false] at hcan
 split at hx
 ·cases hx
  obtain⟨T,e⟩:=B.t S r R hb h hl
  exact⟨T,jt (w:="tick") hN rfl (by rfl) e⟩
 ·rename_i wr g t
  cases hx
  unfold ik at hcan
  rw [Bool.and_eq_true] at hcan
  obtain⟨T,e⟩:=B.a S r R wr g t hb h hl (of_decide_eq_true hcan.1) (by simpa using hcan.2)
  refine⟨T,?_⟩
  cases wr
  ·exact jt (w:="read") hN rfl (by rfl) e
  ·exact jt (w:="write") hN rfl (by rfl) e
 ·rename_i k g
  have hg:g<R.1.length:=hd
  obtain⟨w,hw⟩:∃ w,R.1[g]?=some w:=⟨_,List.getElem?_eq_getElem hg⟩
  rw [hw] at hx
  dsimp only at hx
  cases k with
  | up=>
   have hr:R.1[g]?=some .reads:=of_decide_eq_true hcan
   rw [hw] at hr;cases hr
   obtain⟨T,e⟩:=B.u S r R g hb h hl hw
   refine⟨T,jt (w:="up") hN rfl (by rfl) ?_⟩
   rw [e]
   by_cases z:r.c=0\/Wd.rising∈R.1
   ·rw [if_pos ⟨rfl,z⟩] at hx;cases hx;rw [if_pos z]
   ·rw [if_neg (fun q=>z q.2)] at hx;cases hx;rw [if_neg z]
  | down=>
   rw [if_neg (fun q=>by cases q.1)] at hx;cases hx
   have ho:w≠.out:=fun z=>by
    subst z
    have hc2:(decide (R.1[g]?=some Wd.writes)||decide (R.1[g]?=some Wd.raised))=true:=hcan
    rw [hw] at hc2;revert hc2;decide
   obtain⟨T,e⟩:=B.d S r R g w hb h hl hw ho
   exact⟨T,jt (w:="down") hN rfl (by rfl) e⟩
  | leave=>
   rw [if_neg (fun q=>by cases q.1)] at hx;cases hx
   have ho:w≠.out:=fun z=>by
    subst z
    exact(of_decide_eq_true hcan) hw
   obtain⟨T,e⟩:=B.l S r R g w hb h hl hw ho
   exact⟨T,jt (w:="leave") hN rfl (by rfl) e⟩
  | stop=>
   rw [if_neg (fun q=>by cases q.1)] at hx;cases hx
   obtain⟨T,e⟩:=B.s S r R g w hb h hl hw hcan
   exact⟨T,jt (w:="stop") hN rfl (by rfl) e⟩
end
end MI
namespace MI
open PySem PySem.Spec PyProof.Rows L2
open M hiding mC ab au aw cV cS cT fH du dB we ic lN ag aa aS di eV EI bF ca bE bi dQ ai aY az aV ee bG ah aM af aZ gv aG bO dU gt bJ da bX eU gu nz kD nV iG fK fI gb fJ fG dP jd
section
variable{S:ac}{N:List Str}{r:Rl}{R:Rm}{n:Nat}{dd:Dd}
def xJ:MS:=aV (dB (dQ "tuple" (ab 0)) (au bU (bi (aN fO) (aa (ab 0) (ag))) (ab 1)))
def Qq(f:PF):Prop:=∀ (S:ac) (xs:List D) (k:Int),f [.tup xs,.int k] S=some (.bl (decide ((xs.length:Int)=k)),S)
theorem My(hN:N.length=2){xs:List D}{k:Int}:aP N xJ 2 [.tup xs,.int k] S=some (.bl (decide ((xs.length:Int)=k)),S):=by
 have hst:aA N [D.tup xs,D.int k]=[some (.tup xs),some (.int k)]:=by simp [aA,hN]
 rw [bb (show [D.tup xs,D.int k].length=2 from rfl),hst]
 have it:kO "tuple" S (.tup xs)=some (.bl true):=rfl
 simp only [xJ,aX,nY,JX,aj,bH,bM,bL,oj,ob,ak,Kn,it,tU,aE,bR,ao,am,ax,al,bS,Dq,aq,ar,iA,bq,aH]
 rfl
def sA:MS:=aV (dB (dQ "str" (ab 0)) (au oo (ab 0) (ab 1)))
def Mq(f:PF):Prop:=∀ (S:ac) (x:Str) (ys:List Str),x∈ys->f [.str x,.tup (ys.map .str)] S=some (.bl true,S)
theorem Il(hN:N.length=2){x:Str}{ys:List Str}(h:x∈ys):aP N sA 2 [.str x,.tup (ys.map .str)] S=some (.bl true,S):=by
 have hst:aA N [D.str x,D.tup (ys.map .str)]=[some (.str x),some (.tup (ys.map .str))]:=by simp [aA,hN]
 rw [bb (show [D.str x,D.tup (ys.map .str)].length=2 from rfl),hst]
 have it:kO "str" S (.str x)=some (.bl true):=rfl
 have fi:oo S (.str x) (.tup (ys.map .str))=some (.bl true):=by
  rw [kg (ys:=ys.map .str) rfl rfl (by rw [List.all_eq_true];intro d hd;obtain⟨y,_,rfl⟩:=List.mem_map.mp hd;rfl)]
  have:((ys.map D.str).any fun d=>jD d (.str x))=true:=List.any_eq_true.mpr ⟨.str x,List.mem_map.mpr ⟨x,h,rfl⟩,by show (x == x)=true;simp⟩
  rw [this]
 simp only [sA,aX,nY,JX,aj,bH,bM,bL,oj,ob,ak,Kn,it,tU,aE,aq,ar,fi,bq,aH]
def pL:MS:=aV (dB (dQ "int" (ab 0)) (ic (dQ "bool" (ab 0))))
def rG(whole:PF):MS:=aV (dB (ai 1 whole (aa (ab 0) (ag))) (cV Ow Ow (ab 1) (ab 0) (ab 2)))
def Qu(f:PF):Prop:=∀ (S:ac) (i lo hi:Int),f [.int i,.int lo,.int hi] S=some (.bl (decide (lo<=i)&&decide (i<=hi)),S)
theorem FI(hN:N.length=1){i:Int}:aP N pL 1 [.int i] S=some (.bl true,S):=by
 have hst:aA N [D.int i]=[some (.int i)]:=by simp [aA,hN]
 rw [bb (show [D.int i].length=1 from rfl),hst]
 have i1:kO "int" S (.int i)=some (.bl true):=rfl
 have i2:kO "bool" S (.int i)=some (.bl false):=rfl
 simp [pL,i1,i2]
theorem Pj{whole:PF}(W:∀ (S:ac) (i:Int),whole [.int i] S=some (.bl true,S))(hN:N.length=3){i lo hi:Int}:aP N (rG whole) 3 [.int i,.int lo,.int hi] S=some (.bl (decide (lo<=i)&&decide (i<=hi)),S):=by
 have hst:aA N [D.int i,D.int lo,D.int hi]=[some (.int i),some (.int lo),some (.int hi)]:=by simp [aA,hN]
 rw [bb (show [D.int i,D.int lo,D.int hi].length=3 from rfl),hst]
 by_cases h:lo<=i
 ·simp [rG,W,h]
 ·simp [rG,W,h]
def lX(tof word bet:PF):MS:=az (bG (cS (ai 2 tof (aa (ab 1) (aa (mC (.int 1)) (ag))))) (aV (ai 2 word (aa (au av (ab 1) (mC (.int 0))) (aa (aS (aa (mC (.str "tick")) (ag))) (ag))))) (aY)) (az (bG (cS (ai 2 tof (aa (ab 1) (aa (mC (.int 2)) (ag))))) (aV (dB (ai 2 word (aa (au av (ab 1) (mC (.int 0))) (aa (mC (.tup [.str "up",.str "down",.str "leave",.str "stop"])) (ag)))) (ai 3 bet (aa (au av (ab 1) (mC (.int 1))) (aa (mC (.int 0)) (aa (au nB (ab 0) (mC (.int 1))) (ag))))))) (aY)) (az (bG (du (cS (ai 2 tof (aa (ab 1) (aa (mC (.int 3)) (ag)))))) (aV (mC (.bl false))) (aY)) (az (aG (ab 1) (aZ 3 (af (ah 2) (af (ah 3) (af (ah 4) (aM)))))) (aV (dB (ai 2 word (aa (ab 2) (aa (mC (.tup [.str "read",.str "write"])) (ag)))) (dB (ai 3 bet (aa (ab 3) (aa (mC (.int 0)) (aa (au nB (ab 0) (mC (.int 1))) (ag))))) (we (au ut (ab 4) (mC .non)) (ai 3 bet (aa (ab 4) (aa (mC (.int 0)) (aa (mC (.int 9)) (ag))))))))))))
theorem HC{tof word bet:PF}(T:Qq tof)(W:Mq word)(B:Qu bet)(hN:N.length=5)(hd:dd.Ok n):aP N (lX tof word bet) 2 [.int (n:Int),dd.d] S=some (.bl true,S):=by
 have hst:aA N [D.int (n:Int),dd.d]=[some (.int (n:Int)),some dd.d,none,none,none]:=by simp [aA,hN,List.replicate]
 rw [bb (show [D.int (n:Int),dd.d].length=2 from rfl),hst]
 cases dd with
 | tick=>
  have t1:tof [Dd.tick.d,.int 1] S=some (.bl true,S):=T S [.str "tick"] 1
  have x0:av S Dd.tick.d (.int 0)=some (.str "tick"):=rfl
  have k1:cn ([.str "tick"],S)=some (.tup [.str "tick"],S):=aU (by simp)
  have w1:word [.str "tick",.tup [.str "tick"]] S=some (.bl true,S):=W S "tick" ["tick"] (by simp)
  simp only [lX,aK,bj,dw,aB,ao,aj,bH,bM,bL,oj,ob,ak,am,bd,ax,al,aR,t1,eh,bP,aX,aE,aq,ar,x0,be,k1,w1,bq,bQ,aH]
 | act k g=>
  have hg:g<n:=hd
  have t1:tof [(Dd.act k g).d,.int 1] S=some (.bl false,S):=T S [.str k.s,.int (g:Int)] 1
  have t2:tof [(Dd.act k g).d,.int 2] S=some (.bl true,S):=T S [.str k.s,.int (g:Int)] 2
  have x0:av S (Dd.act k g).d (.int 0)=some (.str k.s):=rfl
  have x1:av S (Dd.act k g).d (.int 1)=some (.int (g:Int)):=rfl
  have w1:word [.str k.s,.tup [.str "up",.str "down",.str "leave",.str "stop"]] S=some (.bl true,S):=W S k.s ["up","down","leave","stop"] (by cases k <;> simp [Ak.s])
  have b1:bet [.int (g:Int),.int 0,.int ((n:Int) - 1)] S=some (.bl true,S):=by
   rw [B];congr 3;rw [decide_eq_true (by omega),decide_eq_true (by omega)];rfl
  simp only [lX,aK,bj,dw,aB,ao,aj,bH,bM,bL,oj,ob,ak,am,bd,ax,al,aR,t1,eh,bI,bt,aD,t2,bP,aX,nY,aE,aq,ar,x0,w1,tU,x1,yG,bx,b1,bq,bQ,aH]
 | ask wr g t=>
  have hg:g<n:=hd.1
  have t1:tof [(Dd.ask wr g t).d,.int 1] S=some (.bl false,S):=T S [.str (bp wr),.int (g:Int),bv t] 1
  have t2:tof [(Dd.ask wr g t).d,.int 2] S=some (.bl false,S):=T S [.str (bp wr),.int (g:Int),bv t] 2
  have t3:tof [(Dd.ask wr g t).d,.int 3] S=some (.bl true,S):=T S [.str (bp wr),.int (g:Int),bv t] 3
  have g3:∀ env S,aZ 3 (af (ah 2) (af (ah 3) (af (ah 4) (aM)))) (Dd.ask wr g t).d env S=(af (ah 2) (af (ah 3) (af (ah 4) (aM)))) [.str (bp wr),.int (g:Int),bv t] env S:=fun env S=>yD
  have w1:word [.str (bp wr),.tup [.str "read",.str "write"]] S=some (.bl true,S):=W S (bp wr) ["read","write"] (by cases wr <;> simp [bp])
  have b1:bet [.int (g:Int),.int 0,.int ((n:Int) - 1)] S=some (.bl true,S):=by
   rw [B];congr 3;rw [decide_eq_true (by omega),decide_eq_true (by omega)];rfl
  simp only [lX,aK,bj,dw,aB,ao,aj,bH,bM,bL,oj,ob,ak,am,bd,ax,al,aR,t1,eh,bI,bt,aD,t2,hV,t3,hZ,Bool.not_true,bf,bg,g3,bC,aJ,cU,bW,dY,eR,bD,aX,nY,w1,tU,aE,aq,ar,yG,bx,b1,PK,jP]
  cases t with
  | none=>
   have i1:lB (bv none) .non=true:=rfl
   simp only [i1,kOr_t,ob,bq,aH]
  | some t=>
   have i1:lB (bv (some t)) .non=false:=rfl
   obtain⟨l0,l9⟩:=hd.2 t rfl
   have b2:bet [bv (some t),.int 0,.int 9] S=some (.bl true,S):=by
    rw [show bv (some t)=.int t from rfl,B];congr 3;rw [decide_eq_true l0,decide_eq_true l9];rfl
   simp only [i1,kOr_f,aB,ao,aj,bH,bM,bL,oj,ob,ak,am,bd,ax,al,bx,b2,bq,aH]
def sC(deed can done:PF):MS:=az (bG (fH (du (cS (ai 2 deed (aa (ab 1) (aa (ab 3) (ag)))))) (du (cS (ai 2 can (aa (ab 2) (aa (ab 3) (ag))))))) (jX) (aY)) (aV (ai 3 done (aa (ab 0) (aa (ab 2) (aa (ab 3) (ag))))))
theorem Hv{x:Rm×List Ev}(h:gj r R dd=some x):ik R dd=true:=by
 unfold gj at h
 split at h
 ·cases h
 ·rename_i q;rw [Bool.not_eq_false] at q;exact q
theorem IJ{deed can done:PF}{x:Rm×List Ev}{T:ac}(hN:N.length=4)(h1:deed [.int (n:Int),dd.d] S=some (.bl true,S))(h2:can [aQ R,dd.d] S=some (.bl true,S))(h3:done [r.d,aQ R,dd.d] S=some (dZ x,S++T)):aP N (sC deed can done) 4 [r.d,.int (n:Int),aQ R,dd.d] S=some (dZ x,S++T):=by
 have hst:aA N [r.d,.int (n:Int),aQ R,dd.d]=[some r.d,some (.int (n:Int)),some (aQ R),some dd.d]:=by simp [aA,hN]
 rw [bb (show [r.d,D.int (n:Int),aQ R,dd.d].length=4 from rfl),hst]
 simp only [sC,aK,bj,jb,hV,dw,aB,ao,aj,bH,bM,bL,oj,ob,ak,am,ax,al,aR,h1,eh,hZ,Bool.not_true,my,h2,bI,bt,aD,aX,bx,h3,bq,aH]
theorem DR{wait:PF}(hN:N.length=5):aP N (oF wait) 2 [aQ R,Dd.tick.d] S=some (.bl true,S):=by
 have hst:aA N [aQ R,Dd.tick.d]=[some (aQ R),some Dd.tick.d,none,none,none]:=by simp [aA,hN,List.replicate]
 rw [bb (show [aQ R,Dd.tick.d].length=2 from rfl),hst]
 have x0:av S Dd.tick.d (.int 0)=some (.str "tick"):=rfl
 have tk:bU S (.str "tick") (.str "tick")=some (.bl true):=by rw [cI];rfl
 simp only [oF,aK,bj,aF,aE,aj,bH,bM,bL,oj,ob,ak,aq,bd,ar,x0,tk,aC,bP,aX,bq,bQ,aH]
theorem IU{x:Rm×List Ev}(h1:x.1.1.length<=50)(h2:x.1.2.length<=50)(h3:x.2.length<=500):cP 8 (dZ x)=true:=by
 obtain⟨R,l⟩:=x
 have a1:((R.1.map Wd.d).all (cP 5))=true:=by rw [List.all_eq_true];intro d hd;obtain⟨w,_,rfl⟩:=List.mem_map.mp hd;rfl
 have a2:((R.2.map En.d).all (cP 5))=true:=by
  rw [List.all_eq_true];intro d hd;obtain⟨e,_,rfl⟩:=List.mem_map.mp hd
  obtain⟨g,wr,m,t⟩:=e
  cases t <;> rfl
 have a3:((l.map Ev.d).all (cP 6))=true:=by rw [List.all_eq_true];intro d hd;obtain⟨e,_,rfl⟩:=List.mem_map.mp hd;rfl
 have b1:cP 6 (cq R.1)=true:=by show (decide ((R.1.map Wd.d).length<=1000)&&_)=true;rw [a1,Bool.and_true];exact decide_eq_true (by simp;simp only at h1;omega)
 have b2:cP 6 (ce R.2)=true:=by show (decide ((R.2.map En.d).length<=1000)&&_)=true;rw [a2,Bool.and_true];exact decide_eq_true (by simp;simp only at h2;omega)
 have b3:cP 7 (dX l)=true:=by show (decide ((l.map Ev.d).length<=1000)&&_)=true;rw [a3,Bool.and_true];exact decide_eq_true (by simp;simp only at h3;omega)
 have c1:cP 7 (aQ R)=true:=by show (true&&(cP 6 (cq R.1)&&(cP 6 (ce R.2)&&true)))=true;rw [b1,b2];rfl
 show (true&&(cP 7 (aQ R)&&(cP 7 (dX l)&&true)))=true
 rw [c1,b3];rfl
theorem Hu{x:Rm×List Ev}(h:ROk R)(hl:R.1.length<=5)(hx:gj r R dd=some x):x.2.length<=100:=by
 have hle:=h.len
 have sf:∀ R':Rm,R'.1.length=R.1.length->(aW r R').2.length<=10:=fun R' q=>Nat.le_trans (mW _) (by omega)
 unfold gj at hx
 split at hx
 ·cases hx
 rename_i hcan
 split at hx
 ·cases hx
  have:=sf (R.1,(R.2.map gk).filter fun e=>decide (e.t≠some 0)) rfl
  have q:((R.2.map gk).filter fun e=>decide (e.t=some 0)).length<=R.2.length:=Nat.le_trans (List.length_filter_le _ _) (by simp)
  unfold ia
  dsimp only
  rw [List.length_append,List.length_map]
  omega
 ·rename_i wr g t
  cases hx
  have:=sf (R.1,R.2++[lJ wr g t]) rfl
  unfold uI
  dsimp only
  split
  ·omega
  ·split
   ·rw [List.length_append,List.length_singleton];omega
   ·rw [List.length_append,List.length_singleton];omega
 ·rename_i k g
  split at hx
  ·cases hx;simp
  ·split at hx
   ·rename_i w hw
    cases hx
    have:=sf (R.1.set g (gl k w),qq r k w g R.2) (by simp)
    have f1:(fN k g).length<=1:=by cases k <;> simp [fN]
    unfold lR
    dsimp only
    rw [List.length_append,List.length_append]
    split
    ·rw [List.length_singleton];omega
    ·rw [List.length_nil];omega
   ·cases hx
end
end MI
section
set_option maxHeartbeats 4000000
namespace K15
open PySem L2 MI PyProof.Rows
open M hiding mC ab au aw cV cS cT fH du dB we ic lN ag aa aS di eV EI bF ca bE bi dQ ai aY az aV ee bG ah aM af aZ gv aG bO dU gt bJ da bX eU gu nz kD nV iG fK fI gb fJ fG dP jd
def fF(i:Nat):Stmt:=PySem.Challenge.pw_manyreaders_k15_stops_and_ticks.main.body.getD i (.Pass ⟨0,0,0,0⟩)
abbrev dg:Stmt:=fF 44
abbrev gW:Stmt:=fF 46
abbrev fW:Stmt:=fF 45
abbrev fU:Stmt:=fF 47
abbrev fT:Stmt:=fF 48
abbrev dL:Stmt:=fF 59
abbrev fY:Stmt:=fF 49
abbrev gU:Stmt:=fF 53
abbrev dJ:Stmt:=fF 51
abbrev fV:Stmt:=fF 52
abbrev df:Stmt:=fF 54
abbrev gX:Stmt:=fF 55
abbrev eN:Stmt:=fF 58
abbrev dI:Stmt:=fF 56
abbrev fX:Stmt:=fF 57
abbrev gT:Stmt:=fF 50
abbrev dh:Stmt:=fF 61
abbrev cC:Stmt:=fF 60
abbrev dG:Stmt:=fF 9
abbrev gR:Stmt:=fF 18
abbrev iN:Stmt:=fF 12
abbrev ky:Stmt:=fF 16
abbrev fR:Stmt:=fF 19
abbrev iQ:Stmt:=fF 17
abbrev kw:Stmt:=fF 21
abbrev fQ:Stmt:=fF 10
abbrev ku:Stmt:=fF 23
abbrev eJ:Stmt:=fF 22
abbrev iP:Stmt:=fF 20
abbrev dc:Stmt:=fF 11
abbrev fS:Stmt:=fF 33
abbrev gS:Stmt:=fF 34
abbrev cN:Stmt:=fF 41
abbrev kq:Stmt:=fF 40
abbrev eM:Stmt:=fF 35
abbrev dH:Stmt:=fF 36
abbrev eL:Stmt:=fF 37
abbrev gP:Stmt:=fF 39
abbrev eK:Stmt:=fF 38
abbrev pJ:Stmt:=fF 32
abbrev dF:Stmt:=fF 4
abbrev iR:Stmt:=fF 3
abbrev gQ:Stmt:=fF 1
abbrev eI:Stmt:=fF 2
abbrev iS:Stmt:=fF 29
abbrev kz:Stmt:=fF 30
abbrev iO:Stmt:=fF 31
abbrev vM:Stmt:=fF 62
def uF:List (bB×D):=[(.inr "rows",.non),(.inr "readers",(.str "read")),(.inr "writers",(.str "write")),(.inr "turns",(.str "write"))]
def iE:D:=(.int 9)
def kj:D:=(.tup [(.str "up"),(.str "down"),(.str "leave"),(.str "stop")])
def yY:D:=(.tup [(.str "read"),(.str "write")])
def nP:List (bB×D):=[(.inr "read",(.str "reads")),(.inr "write",(.str "writes"))]
def iD:D:=(.tup [(.str "writes"),(.str "raised")])
structure iF(w:World)(K:PySem.W.Frag)(mg:Str->Option Value):Prop where
 d__law_cell_at:bK K mg "_law_cell_at" dg
 d__law_far:bK K mg "_law_far" gW
 d__law_left:bK K mg "_law_left" fW
 d__law_pick:bK K mg "_law_pick" fU
 d__law_rule:bK K mg "_law_rule" fT
 d__law_formed:bK K mg "_law_formed" dL
 d__law_deed:bK K mg "_law_deed" fY
 d__law_put:bK K mg "_law_put" gU
 d__law_fronts:bK K mg "_law_fronts" dJ
 d__law_lets:bK K mg "_law_lets" fV
 d__law_settled:bK K mg "_law_settled" df
 d__law_can:bK K mg "_law_can" gX
 d__law_asked:bK K mg "_law_asked" eN
 d__law_marked:bK K mg "_law_marked" dI
 d__law_done:bK K mg "_law_done" fX
 d__law_row:bK K mg "_law_row" gT
 d__law_awaited:bK K mg "_law_awaited" dh
 d__law_same:bK K mg "_law_same" cC
 d_guests_with:bK K mg "guests_with" dG
 d_foremost:bK K mg "foremost" gR
 d_waiting:bK K mg "waiting" iN
 d_can_go:bK K mg "can_go" ky
 d_next_past:bK K mg "next_past" fR
 d_next_in:bK K mg "next_in" iQ
 d_coming:bK K mg "coming" kw
 d_with_word:bK K mg "with_word" fQ
 d_let_in:bK K mg "let_in" ku
 d_brought_by:bK K mg "brought_by" eJ
 d_settled:bK K mg "settled" iP
 d_without_wait:bK K mg "without_wait" dc
 d_bring_ask:bK K mg "bring_ask" fS
 d_bring_up:bK K mg "bring_up" gS
 d_settled_behind:bK K mg "settled_behind" cN
 d_turned:bK K mg "turned" kq
 d_bring_down:bK K mg "bring_down" eM
 d_bring_leave:bK K mg "bring_leave" dH
 d_bring_stop:bK K mg "bring_stop" eL
 d_one_less:bK K mg "one_less" gP
 d_bring_tick:bK K mg "bring_tick" eK
 d_done:bK K mg "done" pJ
 d_is_tuple_of:bK K mg "is_tuple_of" dF
 d_is_word:bK K mg "is_word" iR
 d_is_whole:bK K mg "is_whole" gQ
 d_is_between:bK K mg "is_between" eI
 d_is_deed:bK K mg "is_deed" iS
 d_can_do:bK K mg "can_do" kz
 d_stepped:bK K mg "stepped" iO
 d_law:bK K mg "law" vM
 z_all:mg "all" = none
 z_bool:mg "bool" = none
 z_dict:mg "dict" = none
 z_enumerate:mg "enumerate" = none
 z_int:mg "int" = none
 z_isinstance:mg "isinstance" = none
 z_len:mg "len" = none
 z_list:mg "list" = none
 z_max:mg "max" = none
 z_min:mg "min" = none
 z_range:mg "range" = none
 z_str:mg "str" = none
 z_tuple:mg "tuple" = none
 z_zip:mg "zip" = none
 g_BRINGS:FNm w K mg "BRINGS" [("read","bring_ask"),("write","bring_ask"),("up","bring_up"),("down","bring_down"),("leave","bring_leave"),("stop","bring_stop"),("tick","bring_tick")]
 g_FAVOURED:uJ w K mg "FAVOURED" uF
 g_GREATEST_LEFT:GC K mg "GREATEST_LEFT" iE
 g_GUEST_WORDS:GC K mg "GUEST_WORDS" kj
 g_WANTS:GC K mg "WANTS" yY
 g_WORD_WITHIN:uJ w K mg "WORD_WITHIN" nP
 g_WRITING_WORDS:GC K mg "WRITING_WORDS" iD
section
variable{P:Program}{w:World}{K:PySem.W.Frag}{mg:Str->Option Value}{base:Heap}
def eG:List Str:=["_law_script","_law_k"]
def mG:List (Str×GI):=[("len",.blt)]
def ej:=aP eG (gL (iy eG dg mG []) (aI dg)) 2
theorem qT:aT eG ["_law_script","_law_k"] (ay dg):=⟨rfl,rfl,rfl,by decide +kernel,rfl,by decide +kernel,by decide +kernel⟩
theorem qV(T:iF w K mg):Fn P w K mg base 1 "_law_cell_at" 2 ej:=
 bz T.d__law_cell_at qT (fun _ _ _ _ _ _=>cA fun _=>cA fun _=>iW rfl) (GKs.mem (gs:=mG) ⟨T.z_len,trivial⟩)
def jB:List Str:=["_law_far_here","_law_k"]
def uf:List (Str×GI):=[("range",.blt)]
def jk:=aP jB (gL (iy jB gW uf []) (aI gW)) 0
theorem zG:aT jB [] (ay gW):=⟨rfl,rfl,rfl,by decide +kernel,rfl,by decide +kernel,by decide +kernel⟩
theorem zV(T:iF w K mg):Fn P w K mg base 1 "_law_far" 0 jk:=
 bz T.d__law_far zG (fun _ _ _ _ _ _=>iW rfl) (GKs.mem (gs:=uf) ⟨T.z_range,trivial⟩)
def ir:List Str:=["_law_script","_law_k","_law_cell","_law_seed"]
def qK:List (Str×GI):=[("_law_cell_at",.fn 2 ej),("max",.blt),("_law_far",.fn 0 jk),("len",.blt)]
def gi:=aP ir (gL (iy ir fW qK [182]) (aI fW)) 2
theorem xB:aT ir ["_law_script","_law_k"] (ay fW):=⟨rfl,rfl,rfl,by decide +kernel,rfl,by decide +kernel,by decide +kernel⟩
theorem xT(T:iF w K mg):Fn P w K mg base 2 "_law_left" 2 gi:=
 bz T.d__law_left xB (fun _ _ _ _ _ _=>cA fun _=>cA fun _=>iW rfl) (GKs.mem (gs:=qK) ⟨(qV T).up (by decide),T.z_max,(zV T).up (by decide),T.z_len,trivial⟩)
def jR:List Str:=["_law_left_here","_law_many","_law_digit"]
def qI:List (Str×GI):=[]
def bh:=aP jR (gL (iy jR fU qI []) (aI fU)) 2
theorem xz:aT jR ["_law_left_here","_law_many"] (ay fU):=⟨rfl,rfl,rfl,by decide +kernel,rfl,by decide +kernel,by decide +kernel⟩
theorem gn(T:iF w K mg):Fn P w K mg base 1 "_law_pick" 2 bh:=
 bz T.d__law_pick xz (fun _ _ _ _ _ _=>cA fun _=>cA fun _=>iW rfl) (GKs.mem (gs:=qI) trivial)
def ip:List Str:=["_law_left_here","_law_word","_law_most","_law_times"]
def qH:List (Str×GI):=[("_law_pick",.fn 2 bh),("int",.blt)]
def gh:=aP ip (gL (iy ip fT qH []) (aI fT)) 1
theorem xy:aT ip ["_law_left_here"] (ay fT):=⟨rfl,rfl,rfl,by decide +kernel,rfl,by decide +kernel,by decide +kernel⟩
theorem xR(T:iF w K mg):Fn P w K mg base 2 "_law_rule" 1 gh:=
 bz T.d__law_rule xy (fun _ _ _ _ _ _=>cA fun _=>iW rfl) (GKs.mem (gs:=qH) ⟨(gn T).up (by decide),T.z_int,trivial⟩)
def fD:List Str:=["_law_left_here","_law_n","_law_words","_law_within","_law_waits","_law_g","_law_want","_law_mark","_law_entry"]
def nM:List (Str×GI):=[("tuple",.blt),("range",.blt),("_law_pick",.fn 2 bh),("len",.blt)]
def dO:=aP fD (gL (iy fD dL nM [303]) (aI dL)) 2
theorem su:aT fD ["_law_left_here","_law_n"] (ay dL):=⟨rfl,rfl,rfl,by decide +kernel,rfl,by decide +kernel,by decide +kernel⟩
theorem sK(T:iF w K mg):Fn P w K mg base 2 "_law_formed" 2 dO:=
 bz T.d__law_formed su (fun _ _ _ _ _ _=>cA fun _=>cA fun _=>iW rfl) (GKs.mem (gs:=nM) ⟨T.z_tuple,T.z_range,(gn T).up (by decide),T.z_len,trivial⟩)
def iw:List Str:=["_law_left_here","_law_n","_law_guest","_law_way"]
def qM:List (Str×GI):=[("_law_pick",.fn 2 bh)]
def ii:=aP iw (gL (iy iw fY qM []) (aI fY)) 2
theorem xD:aT iw ["_law_left_here","_law_n"] (ay fY):=⟨rfl,rfl,rfl,by decide +kernel,rfl,by decide +kernel,by decide +kernel⟩
theorem xU(T:iF w K mg):Fn P w K mg base 2 "_law_deed" 2 ii:=
 bz T.d__law_deed xD (fun _ _ _ _ _ _=>cA fun _=>cA fun _=>iW rfl) (GKs.mem (gs:=qM) ⟨(gn T).up (by decide),trivial⟩)
def jA:List Str:=["_law_within","_law_guest","_law_word"]
def ue:List (Str×GI):=[]
def dD:=aP jA (gL (iy jA gU ue []) (aI gU)) 3
theorem zF:aT jA ["_law_within","_law_guest","_law_word"] (ay gU):=⟨rfl,rfl,rfl,by decide +kernel,rfl,by decide +kernel,by decide +kernel⟩
theorem qw(T:iF w K mg):Fn P w K mg base 1 "_law_put" 3 dD:=
 bz T.d__law_put zF (fun _ _ _ _ _ _=>cA fun _=>cA fun _=>cA fun _=>iW rfl) (GKs.mem (gs:=ue) trivial)
def fC:List Str:=["_law_rule_here","_law_waits","_law_reading","_law_writing","_law_tagged"]
def nL:List (Str×GI):=[("enumerate",.blt),("list",.blt),("range",.blt),("len",.blt),("max",.blt)]
def fq:=aP fC (gL (iy fC dJ nL []) (aI dJ)) 2
theorem sr:aT fC ["_law_rule_here","_law_waits"] (ay dJ):=⟨rfl,rfl,rfl,by decide +kernel,rfl,by decide +kernel,by decide +kernel⟩
theorem sJ(T:iF w K mg):Fn P w K mg base 1 "_law_fronts" 2 fq:=
 bz T.d__law_fronts sr (fun _ _ _ _ _ _=>cA fun _=>cA fun _=>iW rfl) (GKs.mem (gs:=nL) ⟨T.z_enumerate,T.z_list,T.z_range,T.z_len,T.z_max,trivial⟩)
def iq:List Str:=["_law_rule_here","_law_within","_law_want","_law_reading"]
def qJ:List (Str×GI):=[("len",.blt)]
def ig:=aP iq (gL (iy iq fV qJ []) (aI fV)) 3
theorem xA:aT iq ["_law_rule_here","_law_within","_law_want"] (ay fV):=⟨rfl,rfl,rfl,by decide +kernel,rfl,by decide +kernel,by decide +kernel⟩
theorem xS(T:iF w K mg):Fn P w K mg base 1 "_law_lets" 3 ig:=
 bz T.d__law_lets xA (fun _ _ _ _ _ _=>cA fun _=>cA fun _=>cA fun _=>iW rfl) (GKs.mem (gs:=qJ) ⟨T.z_len,trivial⟩)
def eE:List Str:=["_law_rule_here","_law_room","_law_within","_law_waits","_law_events","_law_turn","_law_alone","_law_some","_law_guest","_law_want","_law_mark","_law_rest","_law_ahead"]
def mF:List (Str×GI):=[("range",.blt),("len",.blt),("_law_put",.fn 3 dD),("_law_fronts",.fn 2 fq),("_law_lets",.fn 3 ig),("tuple",.blt),("int",.blt)]
def cF:=aP eE (gL (iy eE df mF [241]) (aI df)) 2
theorem qS:aT eE ["_law_rule_here","_law_room"] (ay df):=⟨rfl,rfl,rfl,by decide +kernel,rfl,by decide +kernel,by decide +kernel⟩
theorem lM(T:iF w K mg):Fn P w K mg base 2 "_law_settled" 2 cF:=
 bz T.d__law_settled qS (fun _ _ _ _ _ _=>cA fun _=>cA fun _=>iW rfl) (GKs.mem (gs:=mF) ⟨T.z_range,T.z_len,(qw T).up (by decide),(sJ T).up (by decide),(xS T).up (by decide),T.z_tuple,T.z_int,trivial⟩)
def jC:List Str:=["_law_room","_law_deed_here","_law_within","_law_waits","_law_here","_law_stays","_law_fits"]
def ug:List (Str×GI):=[]
def jm:=aP jC (gL (iy jC gX ug [261]) (aI gX)) 2
theorem zH:aT jC ["_law_room","_law_deed_here"] (ay gX):=⟨rfl,rfl,rfl,by decide +kernel,rfl,by decide +kernel,by decide +kernel⟩
theorem zW(T:iF w K mg):Fn P w K mg base 1 "_law_can" 2 jm:=
 bz T.d__law_can zH (fun _ _ _ _ _ _=>cA fun _=>cA fun _=>iW rfl) (GKs.mem (gs:=ug) trivial)
def gK:List Str:=["_law_rule_here","_law_room","_law_deed_here","_law_word","_law_guest","_law_rest","_law_entry","_law_events"]
def pj:List (Str×GI):=[("_law_settled",.fn 2 cF),("tuple",.blt)]
def gD:=aP gK (gL (iy gK eN pj []) (aI eN)) 3
theorem uW:aT gK ["_law_rule_here","_law_room","_law_deed_here"] (ay eN):=⟨rfl,rfl,rfl,by decide +kernel,rfl,by decide +kernel,by decide +kernel⟩
theorem vf(T:iF w K mg):Fn P w K mg base 3 "_law_asked" 3 gD:=
 bz T.d__law_asked uW (fun _ _ _ _ _ _=>cA fun _=>cA fun _=>cA fun _=>iW rfl) (GKs.mem (gs:=pj) ⟨(lM T).up (by decide),T.z_tuple,trivial⟩)
def fB:List Str:=["_law_rule_here","_law_here","_law_waits"]
def nK:List (Str×GI):=[("tuple",.blt)]
def fo:=aP fB (gL (iy fB dI nK []) (aI dI)) 3
theorem sn:aT fB ["_law_rule_here","_law_here","_law_waits"] (ay dI):=⟨rfl,rfl,rfl,by decide +kernel,rfl,by decide +kernel,by decide +kernel⟩
theorem sI(T:iF w K mg):Fn P w K mg base 1 "_law_marked" 3 fo:=
 bz T.d__law_marked sn (fun _ _ _ _ _ _=>cA fun _=>cA fun _=>cA fun _=>iW rfl) (GKs.mem (gs:=nK) ⟨T.z_tuple,trivial⟩)
def iu:List Str:=["_law_rule_here","_law_room","_law_deed_here","_law_within","_law_waits","_law_fewer","_law_gone","_law_events","_law_word","_law_guest","_law_here","_law_first","_law_there","_law_more"]
def qL:List (Str×GI):=[("tuple",.blt),("_law_settled",.fn 2 cF),("_law_can",.fn 2 jm),("_law_asked",.fn 3 gD),("int",.blt),("_law_marked",.fn 3 fo),("_law_put",.fn 3 dD)]
def cb:=aP iu (gL (iy iu fX qL []) (aI fX)) 3
theorem xC:aT iu ["_law_rule_here","_law_room","_law_deed_here"] (ay fX):=⟨rfl,rfl,rfl,by decide +kernel,rfl,by decide +kernel,by decide +kernel⟩
theorem lm(T:iF w K mg):Fn P w K mg base 4 "_law_done" 3 cb:=
 bz T.d__law_done xC (fun _ _ _ _ _ _=>cA fun _=>cA fun _=>cA fun _=>iW rfl) (GKs.mem (gs:=qL) ⟨T.z_tuple,(lM T).up (by decide),(zW T).up (by decide),(vf T).up (by decide),T.z_int,(sI T).up (by decide),(qw T).up (by decide),trivial⟩)
def jz:List Str:=["_law_left_here","_law_rule_here","_law_n","_law_many","_law_room","_law_row_here","_law_turn","_law_deed_here","_law_found"]
def ud:List (Str×GI):=[("range",.blt),("_law_deed",.fn 2 ii),("_law_done",.fn 3 cb),("tuple",.blt)]
def hJ:=aP jz (gL (iy jz gT ud [211]) (aI gT)) 4
theorem zE:aT jz ["_law_left_here","_law_rule_here","_law_n","_law_many"] (ay gT):=⟨rfl,rfl,rfl,by decide +kernel,rfl,by decide +kernel,by decide +kernel⟩
theorem zU(T:iF w K mg):Fn P w K mg base 5 "_law_row" 4 hJ:=
 bz T.d__law_row zE (fun _ _ _ _ _ _=>cA fun _=>cA fun _=>cA fun _=>cA fun _=>iW rfl) (GKs.mem (gs:=ud) ⟨T.z_range,(xU T).up (by decide),(lm T).up (by decide),T.z_tuple,trivial⟩)
def eH:List Str:=["_law_left_here","_law_rule_here","_law_n","_law_room","_law_deeds","_law_guest","_law_word","_law_deed_here","_law_found"]
def mH:List (Str×GI):=[("range",.blt),("_law_row",.fn 4 hJ),("_law_done",.fn 3 cb),("_law_pick",.fn 2 bh)]
def dm:=aP eH (gL (iy eH dh mH [330]) (aI dh)) 3
theorem qU:aT eH ["_law_left_here","_law_rule_here","_law_n"] (ay dh):=⟨rfl,rfl,rfl,by decide +kernel,rfl,by decide +kernel,by decide +kernel⟩
theorem qW(T:iF w K mg):Fn P w K mg base 6 "_law_awaited" 3 dm:=
 bz T.d__law_awaited qU (fun _ _ _ _ _ _=>cA fun _=>cA fun _=>cA fun _=>iW rfl) (GKs.mem (gs:=mH) ⟨T.z_range,(zU T).up (by decide),(lm T).up (by decide),(gn T).up (by decide),trivial⟩)
def N__law_same:List Str:=["_law_found","_law_due","_law_keys"]
def gd:List (Str×GI):=[("isinstance",.blt),("dict",.blt),("str",.blt),("all",.blt),("list",.blt),("tuple",.blt),("bool",.blt),("int",.blt),("len",.blt),("zip",.blt)]
def gm:=Jc N__law_same cC gd [] "_law_same" 2
def cM:=gm 8
theorem xW:N__law_same.Nodup:=by decide +kernel
theorem xx:aT N__law_same ["_law_found","_law_due"] (ay cC):=⟨rfl,rfl,rfl,xW,rfl,by decide +kernel,by decide +kernel⟩
theorem xQ(T:iF w K mg):Fn P w K mg base 9 "_law_same" 2 cM:=
 Jb (gs:=gd) (k:=0) T.d__law_same xx (fun _ _ _ _ _ _=>cA fun _=>cA fun _=>iW rfl) ⟨T.z_isinstance,T.z_dict,T.z_str,T.z_all,T.z_list,T.z_tuple,T.z_bool,T.z_int,T.z_len,T.z_zip,trivial⟩ 8
def fz:List Str:=["room","words"]
def nI:List (Str×GI):=[("tuple",.blt),("enumerate",.blt)]
def cf:=aP fz (gL (iy fz dG nI []) (aI dG)) 2
theorem sj:aT fz ["room","words"] (ay dG):=⟨rfl,rfl,rfl,by decide +kernel,rfl,by decide +kernel,by decide +kernel⟩
theorem iY(T:iF w K mg):Fn P w K mg base 1 "guests_with" 2 cf:=
 bz T.d_guests_with sj (fun _ _ _ _ _ _=>cA fun _=>cA fun _=>iW rfl) (GKs.mem (gs:=nI) ⟨T.z_tuple,T.z_enumerate,trivial⟩)
def jx:List Str:=["word","waits","turned","favoured","ranked"]
def ub:List (Str×GI):=[("FAVOURED",.tab uF)]
def lC:=aP jx (gL (iy jx gR ub []) (aI gR)) 2
theorem zC:aT jx ["word","waits"] (ay gR):=⟨rfl,rfl,rfl,by decide +kernel,rfl,by decide +kernel,by decide +kernel⟩
theorem zS(T:iF w K mg):Fn P w K mg base 1 "foremost" 2 lC:=
 bz T.d_foremost zC (fun _ _ _ _ _ _=>cA fun _=>cA fun _=>iW rfl) (GKs.mem (gs:=ub) ⟨T.g_FAVOURED,trivial⟩)
def iU:List Str:=["room","guest","entry"]
def wB:List (Str×GI):=[("guests_with",.fn 2 cf)]
def bY:=aP iU (gL (iy iU iN wB []) (aI iN)) 2
theorem BV:aT iU ["room","guest"] (ay iN):=⟨rfl,rfl,rfl,by decide +kernel,rfl,by decide +kernel,by decide +kernel⟩
theorem iX(T:iF w K mg):Fn P w K mg base 2 "waiting" 2 bY:=
 bz T.d_waiting BV (fun _ _ _ _ _ _=>cA fun _=>cA fun _=>iW rfl) (GKs.mem (gs:=wB) ⟨(iY T).up (by decide),trivial⟩)
def la:List Str:=["rule","room","guest","want","beside","most"]
def Ba:List (Str×GI):=[("waiting",.fn 2 bY),("all",.blt),("enumerate",.blt),("len",.blt)]
def gy:=aP la (gL (iy la ky Ba []) (aI ky)) 3
theorem FW:aT la ["rule","room","guest"] (ay ky):=⟨rfl,rfl,rfl,by decide +kernel,rfl,by decide +kernel,by decide +kernel⟩
theorem pN(T:iF w K mg):Fn P w K mg base 3 "can_go" 3 gy:=
 bz T.d_can_go FW (fun _ _ _ _ _ _=>cA fun _=>cA fun _=>cA fun _=>iW rfl) (GKs.mem (gs:=Ba) ⟨(iX T).up (by decide),T.z_all,T.z_enumerate,T.z_len,trivial⟩)
def im:List Str:=["rule","room","guest","want","mark","left"]
def qF:List (Str×GI):=[("can_go",.fn 3 gy)]
def jO:=aP im (gL (iy im fR qF []) (aI fR)) 2
theorem xr:aT im ["rule","room"] (ay fR):=⟨rfl,rfl,rfl,by decide +kernel,rfl,by decide +kernel,by decide +kernel⟩
theorem xP(T:iF w K mg):Fn P w K mg base 4 "next_past" 2 jO:=
 bz T.d_next_past xr (fun _ _ _ _ _ _=>cA fun _=>cA fun _=>iW rfl) (GKs.mem (gs:=qF) ⟨(pN T).up (by decide),trivial⟩)
def kW:List Str:=["rule","room","guest"]
def wE:List (Str×GI):=[("foremost",.fn 2 lC),("next_past",.fn 2 jO),("can_go",.fn 3 gy)]
def kK:=aP kW (gL (iy kW iQ wE []) (aI iQ)) 2
theorem BY:aT kW ["rule","room"] (ay iQ):=⟨rfl,rfl,rfl,by decide +kernel,rfl,by decide +kernel,by decide +kernel⟩
theorem Cm(T:iF w K mg):Fn P w K mg base 5 "next_in" 2 kK:=
 bz T.d_next_in BY (fun _ _ _ _ _ _=>cA fun _=>cA fun _=>iW rfl) (GKs.mem (gs:=wE) ⟨(zS T).up (by decide),(xP T).up (by decide),(pN T).up (by decide),trivial⟩)
def mV:List Str:=["rule","room","guest"]
def AZ:List (Str×GI):=[("guests_with",.fn 2 cf),("next_in",.fn 2 kK),("can_go",.fn 3 gy)]
def kL:=aP mV (gL (iy mV kw AZ []) (aI kw)) 2
theorem FV:aT mV ["rule","room"] (ay kw):=⟨rfl,rfl,rfl,by decide +kernel,rfl,by decide +kernel,by decide +kernel⟩
theorem Gi(T:iF w K mg):Fn P w K mg base 6 "coming" 2 kL:=
 bz T.d_coming FV (fun _ _ _ _ _ _=>cA fun _=>cA fun _=>iW rfl) (GKs.mem (gs:=AZ) ⟨(iY T).up (by decide),(Cm T).up (by decide),(pN T).up (by decide),trivial⟩)
def il:List Str:=["room","guest","word","within","waits"]
def qE:List (Str×GI):=[]
def bA:=aP il (gL (iy il fQ qE []) (aI fQ)) 3
theorem xq:aT il ["room","guest","word"] (ay fQ):=⟨rfl,rfl,rfl,by decide +kernel,rfl,by decide +kernel,by decide +kernel⟩
theorem eQ(T:iF w K mg):Fn P w K mg base 1 "with_word" 3 bA:=
 bz T.d_with_word xq (fun _ _ _ _ _ _=>cA fun _=>cA fun _=>cA fun _=>iW rfl) (GKs.mem (gs:=qE) trivial)
def mU:List Str:=["rule","room","guest","within","waits","place","ahead"]
def AY:List (Str×GI):=[("with_word",.fn 3 bA),("tuple",.blt),("WORD_WITHIN",.tab nP)]
def po:=aP mU (gL (iy mU ku AY []) (aI ku)) 3
theorem FU:aT mU ["rule","room","guest"] (ay ku):=⟨rfl,rfl,rfl,by decide +kernel,rfl,by decide +kernel,by decide +kernel⟩
theorem Gh(T:iF w K mg):Fn P w K mg base 2 "let_in" 3 po:=
 bz T.d_let_in FU (fun _ _ _ _ _ _=>cA fun _=>cA fun _=>cA fun _=>iW rfl) (GKs.mem (gs:=AY) ⟨(eQ T).up (by decide),T.z_tuple,T.g_WORD_WITHIN,trivial⟩)
def gG:List Str:=["rule","room","event","word","guest"]
def pf:List (Str×GI):=[("let_in",.fn 3 po),("with_word",.fn 3 bA)]
def gz:=aP gG (gL (iy gG eJ pf []) (aI eJ)) 3
theorem uS:aT gG ["rule","room","event"] (ay eJ):=⟨rfl,rfl,rfl,by decide +kernel,rfl,by decide +kernel,by decide +kernel⟩
theorem vb(T:iF w K mg):Fn P w K mg base 3 "brought_by" 3 gz:=
 bz T.d_brought_by uS (fun _ _ _ _ _ _=>cA fun _=>cA fun _=>cA fun _=>iW rfl) (GKs.mem (gs:=pf) ⟨(Gh T).up (by decide),(eQ T).up (by decide),trivial⟩)
def kU:List Str:=["rule","room","events","event"]
def wD:List (Str×GI):=[("coming",.fn 2 kL),("brought_by",.fn 3 gz),("tuple",.blt)]
def cH:=aP kU (gL (iy kU iP wD [59]) (aI iP)) 2
theorem BX:aT kU ["rule","room"] (ay iP):=⟨rfl,rfl,rfl,by decide +kernel,rfl,by decide +kernel,by decide +kernel⟩
theorem nT(T:iF w K mg):Fn P w K mg base 7 "settled" 2 cH:=
 bz T.d_settled BX (fun _ _ _ _ _ _=>cA fun _=>cA fun _=>iW rfl) (GKs.mem (gs:=wD) ⟨(Gi T).up (by decide),(vb T).up (by decide),T.z_tuple,trivial⟩)
def eD:List Str:=["room","guest","within","waits"]
def mE:List (Str×GI):=[("tuple",.blt)]
def cy:=aP eD (gL (iy eD dc mE []) (aI dc)) 2
theorem qR:aT eD ["room","guest"] (ay dc):=⟨rfl,rfl,rfl,by decide +kernel,rfl,by decide +kernel,by decide +kernel⟩
theorem lL(T:iF w K mg):Fn P w K mg base 1 "without_wait" 2 cy:=
 bz T.d_without_wait qR (fun _ _ _ _ _ _=>cA fun _=>cA fun _=>iW rfl) (GKs.mem (gs:=mE) ⟨T.z_tuple,trivial⟩)
def io:List Str:=["rule","room","deed","want","guest","left","within","waits","entry","events"]
def qG:List (Str×GI):=[("settled",.fn 2 cH),("waiting",.fn 2 bY),("without_wait",.fn 2 cy)]
def gg:=aP io (gL (iy io fS qG []) (aI fS)) 3
theorem xu:aT io ["rule","room","deed"] (ay fS):=⟨rfl,rfl,rfl,by decide +kernel,rfl,by decide +kernel,by decide +kernel⟩
theorem oH(T:iF w K mg):Fn P w K mg base 8 "bring_ask" 3 gg:=
 bz T.d_bring_ask xu (fun _ _ _ _ _ _=>cA fun _=>cA fun _=>cA fun _=>iW rfl) (GKs.mem (gs:=qG) ⟨(nT T).up (by decide),(iX T).up (by decide),(lL T).up (by decide),trivial⟩)
def jy:List Str:=["rule","room","deed","guest","events"]
def uc:List (Str×GI):=[("settled",.fn 2 cH),("guests_with",.fn 2 cf),("with_word",.fn 3 bA),("waiting",.fn 2 bY)]
def jj:=aP jy (gL (iy jy gS uc []) (aI gS)) 3
theorem zD:aT jy ["rule","room","deed"] (ay gS):=⟨rfl,rfl,rfl,by decide +kernel,rfl,by decide +kernel,by decide +kernel⟩
theorem zT(T:iF w K mg):Fn P w K mg base 8 "bring_up" 3 jj:=
 bz T.d_bring_up zD (fun _ _ _ _ _ _=>cA fun _=>cA fun _=>cA fun _=>iW rfl) (GKs.mem (gs:=uc) ⟨(nT T).up (by decide),(iY T).up (by decide),(eQ T).up (by decide),(iX T).up (by decide),trivial⟩)
def dq:List Str:=["rule","room","first","events"]
def kJ:List (Str×GI):=[("settled",.fn 2 cH)]
def bo:=aP dq (gL (iy dq cN kJ []) (aI cN)) 3
theorem oA:aT dq ["rule","room","first"] (ay cN):=⟨rfl,rfl,rfl,by decide +kernel,rfl,by decide +kernel,by decide +kernel⟩
theorem dS(T:iF w K mg):Fn P w K mg base 8 "settled_behind" 3 bo:=
 bz T.d_settled_behind oA (fun _ _ _ _ _ _=>cA fun _=>cA fun _=>cA fun _=>iW rfl) (GKs.mem (gs:=kJ) ⟨(nT T).up (by decide),trivial⟩)
def mT:List Str:=["rule","room","guest","within","waits"]
def AX:List (Str×GI):=[("tuple",.blt)]
def gx:=aP mT (gL (iy mT kq AX []) (aI kq)) 3
theorem FT:aT mT ["rule","room","guest"] (ay kq):=⟨rfl,rfl,rfl,by decide +kernel,rfl,by decide +kernel,by decide +kernel⟩
theorem vR(T:iF w K mg):Fn P w K mg base 1 "turned" 3 gx:=
 bz T.d_turned FT (fun _ _ _ _ _ _=>cA fun _=>cA fun _=>cA fun _=>iW rfl) (GKs.mem (gs:=AX) ⟨T.z_tuple,trivial⟩)
def gJ:List Str:=["rule","room","deed","guest"]
def pi:List (Str×GI):=[("settled_behind",.fn 3 bo),("with_word",.fn 3 bA),("turned",.fn 3 gx)]
def gC:=aP gJ (gL (iy gJ eM pi []) (aI eM)) 3
theorem uV:aT gJ ["rule","room","deed"] (ay eM):=⟨rfl,rfl,rfl,by decide +kernel,rfl,by decide +kernel,by decide +kernel⟩
theorem ve(T:iF w K mg):Fn P w K mg base 9 "bring_down" 3 gC:=
 bz T.d_bring_down uV (fun _ _ _ _ _ _=>cA fun _=>cA fun _=>cA fun _=>iW rfl) (GKs.mem (gs:=pi) ⟨(dS T).up (by decide),(eQ T).up (by decide),(vR T).up (by decide),trivial⟩)
def fA:List Str:=["rule","room","deed","guest"]
def nJ:List (Str×GI):=[("settled_behind",.fn 3 bo),("with_word",.fn 3 bA),("turned",.fn 3 gx)]
def fj:=aP fA (gL (iy fA dH nJ []) (aI dH)) 3
theorem sk:aT fA ["rule","room","deed"] (ay dH):=⟨rfl,rfl,rfl,by decide +kernel,rfl,by decide +kernel,by decide +kernel⟩
theorem sH(T:iF w K mg):Fn P w K mg base 9 "bring_leave" 3 fj:=
 bz T.d_bring_leave sk (fun _ _ _ _ _ _=>cA fun _=>cA fun _=>cA fun _=>iW rfl) (GKs.mem (gs:=nJ) ⟨(dS T).up (by decide),(eQ T).up (by decide),(vR T).up (by decide),trivial⟩)
def gI:List Str:=["rule","room","deed","guest","calmer"]
def ph:List (Str×GI):=[("settled_behind",.fn 3 bo),("waiting",.fn 2 bY),("with_word",.fn 3 bA),("without_wait",.fn 2 cy)]
def gB:=aP gI (gL (iy gI eL ph []) (aI eL)) 3
theorem uU:aT gI ["rule","room","deed"] (ay eL):=⟨rfl,rfl,rfl,by decide +kernel,rfl,by decide +kernel,by decide +kernel⟩
theorem vd(T:iF w K mg):Fn P w K mg base 9 "bring_stop" 3 gB:=
 bz T.d_bring_stop uU (fun _ _ _ _ _ _=>cA fun _=>cA fun _=>cA fun _=>iW rfl) (GKs.mem (gs:=ph) ⟨(dS T).up (by decide),(iX T).up (by decide),(eQ T).up (by decide),(lL T).up (by decide),trivial⟩)
def jv:List Str:=["left"]
def tZ:List (Str×GI):=[]
def gZ:=aP jv (gL (iy jv gP tZ []) (aI gP)) 1
theorem zA:aT jv ["left"] (ay gP):=⟨rfl,rfl,rfl,by decide +kernel,rfl,by decide +kernel,by decide +kernel⟩
theorem zQ(T:iF w K mg):Fn P w K mg base 1 "one_less" 1 gZ:=
 bz T.d_one_less zA (fun _ _ _ _ _ _=>cA fun _=>iW rfl) (GKs.mem (gs:=tZ) trivial)
def gH:List Str:=["rule","room","deed","within","waits","shorter","ended","kept"]
def pg:List (Str×GI):=[("tuple",.blt),("settled_behind",.fn 3 bo),("one_less",.fn 1 gZ)]
def gA:=aP gH (gL (iy gH eK pg []) (aI eK)) 3
theorem uT:aT gH ["rule","room","deed"] (ay eK):=⟨rfl,rfl,rfl,by decide +kernel,rfl,by decide +kernel,by decide +kernel⟩
theorem vc(T:iF w K mg):Fn P w K mg base 9 "bring_tick" 3 gA:=
 bz T.d_bring_tick uT (fun _ _ _ _ _ _=>cA fun _=>cA fun _=>cA fun _=>iW rfl) (GKs.mem (gs:=pg) ⟨T.z_tuple,(dS T).up (by decide),(zQ T).up (by decide),trivial⟩)
def Bz:List (bB×Nat×(List D->ac->Option (D×ac))):=[(.inr "read",3,gg),(.inr "write",3,gg),(.inr "up",3,jj),(.inr "down",3,gC),(.inr "leave",3,fj),(.inr "stop",3,gB),(.inr "tick",3,gA)]
def uK:List Str:=["rule","room","deed","bring"]
def KA:List (Str×GI):=[("BRINGS",.ftab Bz)]
def qd:=aP uK (gL (iy uK pJ KA []) (aI pJ)) 3
theorem MN:aT uK ["rule","room","deed"] (ay pJ):=⟨rfl,rfl,rfl,by decide +kernel,rfl,by decide +kernel,by decide +kernel⟩
theorem NI(T:iF w K mg):Fn P w K mg base 10 "done" 3 qd:=
 bz T.d_done MN (fun _ _ _ _ _ _=>cA fun _=>cA fun _=>cA fun _=>iW rfl) (GKs.mem (gs:=KA) ⟨Oh T.g_BRINGS ⟨rfl,(oH T).up (by decide),rfl,(oH T).up (by decide),rfl,(zT T).up (by decide),rfl,(ve T).up (by decide),rfl,(sH T).up (by decide),rfl,(vd T).up (by decide),rfl,(vc T).up (by decide),trivial⟩,trivial⟩)
def fv:List Str:=["thing","many"]
def nH:List (Str×GI):=[("isinstance",.blt),("tuple",.blt),("len",.blt)]
def cL:=aP fv (gL (iy fv dF nH []) (aI dF)) 2
theorem si:aT fv ["thing","many"] (ay dF):=⟨rfl,rfl,rfl,by decide +kernel,rfl,by decide +kernel,by decide +kernel⟩
theorem sG(T:iF w K mg):Fn P w K mg base 1 "is_tuple_of" 2 cL:=
 bz T.d_is_tuple_of si (fun _ _ _ _ _ _=>cA fun _=>cA fun _=>iW rfl) (GKs.mem (gs:=nH) ⟨T.z_isinstance,T.z_tuple,T.z_len,trivial⟩)
def kY:List Str:=["thing","words"]
def wF:List (Str×GI):=[("isinstance",.blt),("str",.blt)]
def gf:=aP kY (gL (iy kY iR wF []) (aI iR)) 2
theorem BZ:aT kY ["thing","words"] (ay iR):=⟨rfl,rfl,rfl,by decide +kernel,rfl,by decide +kernel,by decide +kernel⟩
theorem Cn(T:iF w K mg):Fn P w K mg base 1 "is_word" 2 gf:=
 bz T.d_is_word BZ (fun _ _ _ _ _ _=>cA fun _=>cA fun _=>iW rfl) (GKs.mem (gs:=wF) ⟨T.z_isinstance,T.z_str,trivial⟩)
def jw:List Str:=["thing"]
def ua:List (Str×GI):=[("isinstance",.blt),("int",.blt),("bool",.blt)]
def ji:=aP jw (gL (iy jw gQ ua []) (aI gQ)) 1
theorem zB:aT jw ["thing"] (ay gQ):=⟨rfl,rfl,rfl,by decide +kernel,rfl,by decide +kernel,by decide +kernel⟩
theorem zR(T:iF w K mg):Fn P w K mg base 1 "is_whole" 1 ji:=
 bz T.d_is_whole zB (fun _ _ _ _ _ _=>cA fun _=>iW rfl) (GKs.mem (gs:=ua) ⟨T.z_isinstance,T.z_int,T.z_bool,trivial⟩)
def gF:List Str:=["thing","low","high"]
def pe:List (Str×GI):=[("is_whole",.fn 1 ji)]
def cY:=aP gF (gL (iy gF eI pe []) (aI eI)) 3
theorem uR:aT gF ["thing","low","high"] (ay eI):=⟨rfl,rfl,rfl,by decide +kernel,rfl,by decide +kernel,by decide +kernel⟩
theorem uZ(T:iF w K mg):Fn P w K mg base 2 "is_between" 3 cY:=
 bz T.d_is_between uR (fun _ _ _ _ _ _=>cA fun _=>cA fun _=>cA fun _=>iW rfl) (GKs.mem (gs:=pe) ⟨(zR T).up (by decide),trivial⟩)
def kZ:List Str:=["n","thing","want","guest","left"]
def wG:List (Str×GI):=[("is_tuple_of",.fn 2 cL),("is_word",.fn 2 gf),("WANTS",.con yY),("is_between",.fn 3 cY),("GUEST_WORDS",.con kj),("GREATEST_LEFT",.con iE)]
def iT:=aP kZ (gL (iy kZ iS wG []) (aI iS)) 2
theorem Ca:aT kZ ["n","thing"] (ay iS):=⟨rfl,rfl,rfl,by decide +kernel,rfl,by decide +kernel,by decide +kernel⟩
theorem Co(T:iF w K mg):Fn P w K mg base 3 "is_deed" 2 iT:=
 bz T.d_is_deed Ca (fun _ _ _ _ _ _=>cA fun _=>cA fun _=>iW rfl) (GKs.mem (gs:=wG) ⟨(sG T).up (by decide),(Cn T).up (by decide),T.g_WANTS,(uZ T).up (by decide),T.g_GUEST_WORDS,T.g_GREATEST_LEFT,trivial⟩)
def lb:List Str:=["room","deed","word","guest","within"]
def Bb:List (Str×GI):=[("WRITING_WORDS",.con iD),("waiting",.fn 2 bY)]
def kM:=aP lb (gL (iy lb kz Bb []) (aI kz)) 2
theorem FX:aT lb ["room","deed"] (ay kz):=⟨rfl,rfl,rfl,by decide +kernel,rfl,by decide +kernel,by decide +kernel⟩
theorem Gj(T:iF w K mg):Fn P w K mg base 3 "can_do" 2 kM:=
 bz T.d_can_do FX (fun _ _ _ _ _ _=>cA fun _=>cA fun _=>iW rfl) (GKs.mem (gs:=Bb) ⟨T.g_WRITING_WORDS,(iX T).up (by decide),trivial⟩)
def kT:List Str:=["rule","n","room","deed"]
def wC:List (Str×GI):=[("done",.fn 3 qd),("is_deed",.fn 2 iT),("can_do",.fn 2 kM)]
def ge:=aP kT (gL (iy kT iO wC []) (aI iO)) 4
theorem BW:aT kT ["rule","n","room","deed"] (ay iO):=⟨rfl,rfl,rfl,by decide +kernel,rfl,by decide +kernel,by decide +kernel⟩
theorem Ck(T:iF w K mg):Fn P w K mg base 11 "stepped" 4 ge:=
 bz T.d_stepped BW (fun _ _ _ _ _ _=>cA fun _=>cA fun _=>cA fun _=>cA fun _=>iW rfl) (GKs.mem (gs:=wC) ⟨(NI T).up (by decide),(Co T).up (by decide),(Gj T).up (by decide),trivial⟩)
def BE:List Str:=["_law_script","_law_k","_law_left_here","_law_turn","_law_rule_here","_law_n","_law_room","_law_guest","_law_due","_law_times"]
def PZ:List (Str×GI):=[("range",.blt),("max",.blt),("_law_left",.fn 2 gi),("min",.blt),("len",.blt),("_law_rule",.fn 1 gh),("_law_formed",.fn 2 dO),("_law_awaited",.fn 3 dm),("_law_done",.fn 3 cb),("_law_pick",.fn 2 bh),("_law_same",.fn 2 cM),("stepped",.fn 4 ge)]
def Bj:=aP BE (gL (iy BE vM PZ []) (aI vM)) 1
theorem QL:aT BE ["_law_script"] (ay vM):=⟨rfl,rfl,rfl,by decide +kernel,rfl,by decide +kernel,by decide +kernel⟩
theorem Ss(T:iF w K mg):GKs P w K mg base 11 PZ:=⟨T.z_range,T.z_max,(xT T).up (by decide),T.z_min,T.z_len,(xR T).up (by decide),(sK T).up (by decide),(qW T).up (by decide),(lm T).up (by decide),(gn T).up (by decide),(xQ T).up (by decide),(Ck T).up (by decide),trivial⟩
end
theorem TW{l:PySem.W.OpenLaw}{w:World}{K:PySem.W.Frag}{h:Heap}{mg:Str->Option Value}{fa:Addr}(X:K.In h)(G:h.Ns mainGlobals mg)(hfa:mg "law" = some (.ref fa))(T:iF w K mg) :
  ∃ fd:FuncData,(∀ (s:Shared) (v:Value),BindsTo s fd ⟨[v],[]⟩ [("_law_script",v)])/\∀ base:Heap,K.In base->base.Ns mainGlobals mg->FnOk l.prog w K mg base FD 12 fa fd ["_law_script"] (IN K 1 Bj):=
 RP T.d_law hfa QL (fun _ _ _ _ _ _ _=>rfl) fun base=>Ss T
theorem walk{l:PySem.W.OpenLaw}{q:Program}{loose:List Str}{XP:(Str->Option Value)->Heap->Prop}{YP:World->Heap->Prop}{d:DefRec}{K:Params->PySem.W.Frag}(hn:l.most=some 63)(hdf:d.params.defaults=[])(hnm:d.name = "law")
  (hY:∀ (w:World) (h:Heap),YP w h->(K w.params).In h) (hlaw:∀ ns:List Int,ns.length<=63->∃ S',Bj [.rol (ns.map .int)] []=some (.bl true,S'))
  (F:∀ (w:World) (mg:Str->Option Value) (h:Heap),(K w.params).In h->h.Ns mainGlobals mg->iF w (K w.params) mg) :
  PySem.W.WalkO q loose XP YP l.row.toRowW d [] (fun f vs=>PySem.call f vs):=
 L2.Mv (n:=63) (k:=12) (x:="_law_script") (CX:=fun _=>FD) (sp:=fun w=>IN (K w.params) 1 Bj) hn (by decide) hdf ⟨rfl,by decide,by decide⟩ hY
  (fun w mg fa h KX G hmg=>TW KX G (hnm ▸ hmg) (F w mg h KX G)) (fun _ _ a ns hl _ hS=>RN hlaw hl hS) fun _ _ _ _ _ z=>z
end K15
end
section
set_option maxHeartbeats 4000000
namespace K15
open PySem L2 MI PyProof.Rows
open M hiding mC ab au aw cV cS cT fH du dB we ic lN ag aa aS di eV EI bF ca bE bi dQ ai aY az aV ee bG ah aM af aZ gv aG bO dU gt bJ da bX eU gu nz kD nV iG fK fI gb fJ fG dP jd
def tm:MS:=
 mX
theorem qZ:ej=aP eG tm 2:=ja rfl
def CL:MS:=
 CV
theorem Am:jk=aP jB CL 0:=ja rfl
def Aw:MS:=
 rM ej jk
theorem yf:gi=aP ir Aw 2:=ja rfl
def Au:MS:=
 rL
theorem yd:bh=aP jR Au 2:=ja rfl
def At:MS:=
 yr bh
theorem yc:gh=aP ip At 1:=ja rfl
def vt:MS:=
 pX bh
theorem sX:dO=aP fD vt 2:=ja rfl
def Ay:MS:=
 oW bh
theorem yh:ii=aP iw Ay 2:=ja rfl
def CK:MS:=
 CU
theorem Al:dD=aP jA CK 3:=ja rfl
def vq:MS:=
 pW
theorem sW:fq=aP fC vq 2:=ja rfl
def Av:MS:=
 yt
theorem ye:ig=aP iq Av 3:=ja rfl
def tj:MS:=
 nZ fq ig dD
theorem qY:cF=aP eE tj 2:=ja rfl
def CM:MS:=
 yu
theorem An:jm=aP jC CM 2:=ja rfl
def yj:MS:=
 tI cF
theorem vm:gD=aP gK yj 3:=ja rfl
def vp:MS:=
 kG
theorem sV:fo=aP fB vp 3:=ja rfl
def Ax:MS:=
 jL jm gD cF fo dD
theorem yg:cb=aP iu Ax 3:=ja rfl
def CJ:MS:=
 CT ii cb
theorem Aj:hJ=aP jz CJ 4:=ja rfl
def mq:MS:=
 az (aG (au av (ai 4 hJ (aa (ab 0) (aa (ab 1) (aa (ab 2) (aa (au aO (mC (.int 2)) (ai 2 bh (aa (ab 0) (aa (mC (.int 12)) (ag))))) (ag)))))) (mC (.int 1))) (ah 3)) (az (aG (eV (ag)) (ah 4)) (az (gt (bO (aa (ab 2) (ag))) (ah 5) (az (aG (au av (di (aa (mC (.str "read")) (aa (mC (.str "write")) (ag)))) (ai 2 bh (aa (ab 0) (aa (mC (.int 2)) (ag))))) (ah 6)) (ee (eU cZ (ab 4) (aa (aS (aa (ab 6) (aa (ab 5) (aa (au av (di (aa (mC .non) (aa (mC (.int 1)) (aa (mC (.int 1)) (aa (mC (.int 2)) (aa (mC (.int 3)) (aa (mC (.int 9)) (ag)))))))) (ai 2 bh (aa (ab 0) (aa (mC (.int 6)) (ag))))) (ag))))) (ag)))))) (az (aG (au aO (ab 4) (au cB (di (aa (aS (aa (mC (.str "up")) (aa (ai 2 bh (aa (ab 0) (aa (ab 2) (ag)))) (ag)))) (ag))) (ai 2 bh (aa (ab 0) (aa (mC (.int 2)) (ag)))))) (ah 4)) (az (gb (ab 4) (ah 7) (az (aG (ai 3 cb (aa (ab 1) (aa (ab 3) (aa (ab 7) (ag))))) (ah 8)) (aG (lN (aw (au ut (ab 8) (mC .non))) (ab 3) (au av (ab 8) (mC (.int 0)))) (ah 3)))) (aV (ab 3))))))
theorem rg:dm=aP eH mq 3:=ja rfl
def qz(cM:List D->ac->Option (D×ac)):MS:=
 lz cM
theorem yb(j:Nat):gm (j+1)=aP N__law_same (qz (gm j)) 2:=by
 unfold gm
 show aP N__law_same (gL (iy N__law_same cC (("_law_same",.fn 2 (Jc N__law_same cC gd [] "_law_same" 2 j))::gd) []) (aI cC)) 2=_
 generalize Jc N__law_same cC gd [] "_law_same" 2 j=F
 rw [show gL (iy N__law_same cC (("_law_same",.fn 2 F)::gd) []) (aI cC)=qz F from rfl]
def vn:MS:=
 Ch
theorem sT:cf=aP fz vn 2:=ja rfl
def CH:MS:=
 ll
theorem Ah:lC=aP jx CH 2:=ja rfl
def Gx:MS:=
 lV cf
theorem sR:bY=aP iU Gx 2:=ja rfl
def JP:MS:=
 fZ bY
theorem vU:gy=aP la JP 3:=ja rfl
def Ar:MS:=
 lj gy
theorem xZ:jO=aP im Ar 2:=ja rfl
def Gz:MS:=
 nR jO lC gy
theorem CA:kK=aP kW Gz 2:=ja rfl
def JO:MS:=
 nS cf gy kK
theorem Gv:kL=aP mV JO 2:=ja rfl
def Ap:MS:=
 lh
theorem xY:bA=aP il Ap 3:=ja rfl
def JM:MS:=
 pM bA
theorem Gu:po=aP mU JM 3:=ja rfl
def yi:MS:=
 lY bA po
theorem vh:gz=aP gG yi 3:=ja rfl
def Gy:MS:=
 lW gz kL
theorem Cz:cH=aP kU Gy 2:=ja rfl
def mn:MS:=
 az (aG (ab 0) (aZ 2 (af (ah 2) (af (ah 3) (aM))))) (aV (aS (aa (ab 2) (aa (bi (aN (cm .tup)) (aa (bJ (da (ab 3)) (ah 0) (aw (au ij (au av (ab 0) (mC (.int 0))) (ab 1))) (ab 0) [none,some 1]) (ag))) (ag)))))
theorem qX:cy=aP eD mn 2:=ja rfl
def qy:MS:=
 az (aG (ab 2) (aZ 3 (af (ah 3) (af (ah 4) (af (ah 5) (aM)))))) (az (aG (ab 1) (aZ 2 (af (ah 6) (af (ah 7) (aM))))) (az (aG (aS (aa (ab 4) (aa (ab 3) (aa (mC (.int 0)) (aa (lN (aw (au bU (ab 5) (mC (.int 0)))) (mC (.int 1)) (ab 5)) (ag)))))) (ah 8)) (az (aG (ai 2 cH (aa (ab 0) (aa (aS (aa (ab 6) (aa (au aO (ab 7) (aS (aa (ab 8) (ag)))) (ag)))) (ag)))) (aZ 2 (af (ah 1) (af (ah 9) (aM))))) (az (bG (aw (au ut (ai 2 bY (aa (ab 1) (aa (ab 4) (ag)))) (mC .non))) (aV (aS (aa (ab 1) (aa (ab 9) (ag))))) (aY)) (az (bG (aw (au bU (ab 5) (mC (.int 0)))) (aV (aS (aa (ai 2 cy (aa (ab 1) (aa (ab 4) (ag)))) (aa (au aO (ab 9) (aS (aa (aS (aa (mC (.str "no")) (aa (ab 4) (ag)))) (ag)))) (ag))))) (aY)) (aV (aS (aa (ab 1) (aa (au aO (ab 9) (aS (aa (aS (aa (mC (.str "waits")) (aa (ab 4) (ag)))) (ag)))) (ag))))))))))
theorem ya:gg=aP io qy 3:=ja rfl
def tf:MS:=
 az (aG (au av (ab 2) (mC (.int 1))) (ah 3)) (az (bG (fH (aw (au bU (au av (ab 0) (mC (.int 3))) (mC (.int 0)))) (cS (ai 2 cf (aa (ab 1) (aa (aS (aa (mC (.str "rising")) (ag))) (ag)))))) (aV (aS (aa (ab 1) (aa (aS (aa (aS (aa (mC (.str "no")) (aa (ab 3) (ag)))) (ag))) (ag))))) (aY)) (az (aG (ai 2 cH (aa (ab 0) (aa (ai 3 bA (aa (ab 1) (aa (ab 3) (aa (mC (.str "rising")) (ag))))) (ag)))) (aZ 2 (af (ah 1) (af (ah 4) (aM))))) (az (bG (aw (au ut (ai 2 bY (aa (ab 1) (aa (ab 3) (ag)))) (mC .non))) (aV (aS (aa (ab 1) (aa (ab 4) (ag))))) (aY)) (aV (aS (aa (ab 1) (aa (au aO (ab 4) (aS (aa (aS (aa (mC (.str "waits")) (aa (ab 3) (ag)))) (ag)))) (ag))))))))
theorem Ai:jj=aP jy tf 3:=ja rfl
def kA:MS:=
 az (aG (ai 2 cH (aa (ab 0) (aa (ab 1) (ag)))) (aZ 2 (af (ah 1) (af (ah 3) (aM))))) (aV (aS (aa (ab 1) (aa (au aO (ab 2) (ab 3)) (ag)))))
theorem oJ:bo=aP dq kA 3:=ja rfl
def Aq:MS:=
 az (aG (ab 1) (aZ 2 (af (ah 3) (af (ah 4) (aM))))) (az (bG (fH (aw (au ij (au av (ab 0) (mC (.int 0))) (mC (.str "turns")))) (aw (au ij (au av (ab 3) (ab 2)) (mC (.str "writes"))))) (aV (ab 1)) (aY)) (aV (aS (aa (ab 3) (aa (bi (aN (cm .tup)) (aa (bJ (da (ab 4)) (aZ 4 (af (ah 0) (af (ah 1) (af (ah 2) (af (ah 3) (aM)))))) (bX) (aS (aa (ab 0) (aa (ab 1) (aa (lN (aw (au bU (ab 1) (mC (.str "read")))) (mC (.int 1)) (ab 2)) (aa (ab 3) (ag)))))) [none,none,none,none]) (ag))) (ag))))))
theorem Gs:gx=aP mT Aq 3:=ja rfl
def oO:MS:=
 az (aG (au av (ab 2) (mC (.int 1))) (ah 3)) (aV (ai 3 bo (aa (ab 0) (aa (ai 3 bA (aa (ai 3 gx (aa (ab 0) (aa (ab 1) (aa (ab 3) (ag))))) (aa (ab 3) (aa (mC (.str "reads")) (ag))))) (aa (aS (aa (aS (aa (mC (.str "down")) (aa (ab 3) (ag)))) (ag))) (ag))))))
theorem vk:gC=aP gJ oO 3:=ja rfl
def nE:MS:=
 az (aG (au av (ab 2) (mC (.int 1))) (ah 3)) (aV (ai 3 bo (aa (ab 0) (aa (ai 3 bA (aa (ai 3 gx (aa (ab 0) (aa (ab 1) (aa (ab 3) (ag))))) (aa (ab 3) (aa (mC (.str "out")) (ag))))) (aa (aS (aa (aS (aa (mC (.str "out")) (aa (ab 3) (ag)))) (ag))) (ag))))))
theorem sU:fj=aP fA nE 3:=ja rfl
def oN:MS:=
 az (aG (au av (ab 2) (mC (.int 1))) (ah 3)) (az (bG (aw (au bU (ai 2 bY (aa (ab 1) (aa (ab 3) (ag)))) (mC (.str "up")))) (aG (ai 3 bA (aa (ab 1) (aa (ab 3) (aa (mC (.str "reads")) (ag))))) (ah 4)) (aG (ai 2 cy (aa (ab 1) (aa (ab 3) (ag)))) (ah 4))) (aV (ai 3 bo (aa (ab 0) (aa (ab 4) (aa (aS (aa (aS (aa (mC (.str "ends")) (aa (ab 3) (ag)))) (ag))) (ag)))))))
theorem vj:gB=aP gI oN 3:=ja rfl
def sY:MS:=
 aV (lN (aw (au ut (ab 0) (mC .non))) (mC .non) (au nB (ab 0) (mC (.int 1))))
theorem Af:gZ=aP jv sY 1:=ja rfl
def oM:MS:=
 az (aG (ab 1) (aZ 2 (af (ah 3) (af (ah 4) (aM))))) (az (aG (bJ (da (ab 4)) (aZ 4 (af (ah 0) (af (ah 1) (af (ah 2) (af (ah 3) (aM)))))) (bX) (aS (aa (ab 0) (aa (ab 1) (aa (ab 2) (aa (ai 1 gZ (aa (ab 3) (ag))) (ag)))))) [none,none,none,none]) (ah 5)) (az (aG (bi (aN (cm .tup)) (aa (bJ (da (ab 5)) (ah 0) (aw (au bU (au av (ab 0) (mC (.int 3))) (mC (.int 0)))) (aS (aa (mC (.str "ends")) (aa (au av (ab 0) (mC (.int 0))) (ag)))) [none]) (ag))) (ah 6)) (az (aG (bi (aN (cm .tup)) (aa (bJ (da (ab 5)) (ah 0) (aw (au ij (au av (ab 0) (mC (.int 3))) (mC (.int 0)))) (ab 0) [none]) (ag))) (ah 7)) (aV (ai 3 bo (aa (ab 0) (aa (aS (aa (ab 3) (aa (ab 7) (ag)))) (aa (ab 6) (ag)))))))))
theorem vi:gA=aP gH oM 3:=ja rfl
def JN:MS:=
 jd Bz 3 (au av (ab 2) (mC (.int 0))) (aa (ab 0) (aa (ab 1) (aa (ab 2) (ag))))
theorem NP:qd=aP uK JN 3:=ja rfl
def nD:MS:=
 aV (dB (dQ "tuple" (ab 0)) (au bU (bi (aN fO) (aa (ab 0) (ag))) (ab 1)))
theorem sS:cL=aP fv nD 2:=ja rfl
def vW:MS:=
 aV (dB (dQ "str" (ab 0)) (au oo (ab 0) (ab 1)))
theorem CB:gf=aP kY vW 2:=ja rfl
def sZ:MS:=
 aV (dB (dQ "int" (ab 0)) (ic (dQ "bool" (ab 0))))
theorem Ag:ji=aP jw sZ 1:=ja rfl
def oK:MS:=
 aV (dB (ai 1 ji (aa (ab 0) (ag))) (cV Ow Ow (ab 1) (ab 0) (ab 2)))
theorem vg:cY=aP gF oK 3:=ja rfl
def vX:MS:=
 az (bG (cS (ai 2 cL (aa (ab 1) (aa (mC (.int 1)) (ag))))) (aV (ai 2 gf (aa (au av (ab 1) (mC (.int 0))) (aa (aS (aa (mC (.str "tick")) (ag))) (ag))))) (aY)) (az (bG (cS (ai 2 cL (aa (ab 1) (aa (mC (.int 2)) (ag))))) (aV (dB (ai 2 gf (aa (au av (ab 1) (mC (.int 0))) (aa (mC kj) (ag)))) (ai 3 cY (aa (au av (ab 1) (mC (.int 1))) (aa (mC (.int 0)) (aa (au nB (ab 0) (mC (.int 1))) (ag))))))) (aY)) (az (bG (du (cS (ai 2 cL (aa (ab 1) (aa (mC (.int 3)) (ag)))))) (aV (mC (.bl false))) (aY)) (az (aG (ab 1) (aZ 3 (af (ah 2) (af (ah 3) (af (ah 4) (aM)))))) (aV (dB (ai 2 gf (aa (ab 2) (aa (mC yY) (ag)))) (dB (ai 3 cY (aa (ab 3) (aa (mC (.int 0)) (aa (au nB (ab 0) (mC (.int 1))) (ag))))) (we (au ut (ab 4) (mC .non)) (ai 3 cY (aa (ab 4) (aa (mC (.int 0)) (aa (mC iE) (ag))))))))))))
theorem CC:iT=aP kZ vX 2:=ja rfl
def As:MS:=
 az (bG (aw (au bU (au av (ab 1) (mC (.int 0))) (mC (.str "tick")))) (aV (mC (.bl true))) (aY)) (az (aG (bE (ab 1) (bF) (ca (mC (.int 2)))) (aZ 2 (af (ah 2) (af (ah 3) (aM))))) (az (aG (au av (au av (ab 0) (mC (.int 0))) (ab 3)) (ah 4)) (az (bG (aw (au bU (ab 2) (mC (.str "up")))) (aV (au bU (ab 4) (mC (.str "reads")))) (aY)) (az (bG (aw (au bU (ab 2) (mC (.str "down")))) (aV (au oo (ab 4) (mC iD))) (aY)) (az (bG (aw (au bU (ab 2) (mC (.str "leave")))) (aV (au ij (ab 4) (mC (.str "out")))) (aY)) (az (bG (aw (au bU (ab 2) (mC (.str "stop")))) (aV (au kf (ai 2 bY (aa (ab 0) (aa (ab 3) (ag)))) (mC .non))) (aY)) (aV (dB (au bU (ab 4) (mC (.str "out"))) (au ut (ai 2 bY (aa (ab 0) (aa (ab 3) (ag)))) (mC .non))))))))))
theorem Gw:kM=aP lb As 2:=ja rfl
def vV:MS:=
 az (bG (fH (du (cS (ai 2 iT (aa (ab 1) (aa (ab 3) (ag)))))) (du (cS (ai 2 kM (aa (ab 2) (aa (ab 3) (ag))))))) (jX) (aY)) (aV (ai 3 qd (aa (ab 0) (aa (ab 2) (aa (ab 3) (ag))))))
theorem Cy:ge=aP kT vV 4:=ja rfl
def PJ:MS:=
 az (gt (bO (aa (bi (aN lO) (aa (mC (.int 3)) (aa (bi (aN Bl) (aa (bi (aN fO) (aa (ab 0) (ag))) (aa (mC (.int 8)) (ag)))) (ag)))) (ag))) (ah 1) (az (aG (ai 2 gi (aa (ab 0) (aa (ab 1) (ag)))) (ah 2)) (gt (bO (aa (mC (.int 4)) (ag))) (ah 3) (az (nz 4 5 (aa (ai 1 gh (aa (ab 2) (ag))) (aa (au aO (mC (.int 1)) (ai 2 bh (aa (ab 2) (aa (mC (.int 5)) (ag))))) (ag)))) (az (aG (lN (aw (au bU (ai 2 bh (aa (ab 2) (aa (mC (.int 3)) (ag)))) (mC (.int 0)))) (ai 2 dO (aa (ab 2) (aa (ab 5) (ag)))) (ai 3 dm (aa (ab 2) (aa (ab 4) (aa (ab 5) (ag)))))) (ah 6)) (az (gt (bO (aa (ab 5) (ag))) (ah 7) (az (aG (ai 3 cb (aa (ab 4) (aa (ab 6) (aa (aS (aa (mC (.str "stop")) (aa (ab 7) (ag)))) (ag))))) (ah 8)) (bG (cT (aw (au kf (ab 8) (mC .non))) (du (cS (ai 2 cM (aa (ai 4 ge (aa (ab 4) (aa (ab 5) (aa (ab 6) (aa (aS (aa (mC (.str "stop")) (aa (ab 7) (ag)))) (ag)))))) (aa (ab 8) (ag))))))) (aV (mC (.bl false))) (aY)))) (gt (bO (aa (mC (.int 10)) (ag))) (ah 9) (az (aG (ai 3 cb (aa (ab 4) (aa (ab 6) (aa (aS (aa (mC (.str "tick")) (ag))) (ag))))) (ah 8)) (az (bG (du (cS (ai 2 cM (aa (ai 4 ge (aa (ab 4) (aa (ab 5) (aa (ab 6) (aa (aS (aa (mC (.str "tick")) (ag))) (ag)))))) (aa (ab 8) (ag)))))) (aV (mC (.bl false))) (aY)) (aG (au av (ab 8) (mC (.int 0))) (ah 6))))))))))) (aV (mC (.bl true)))
theorem RG:Bj=aP BE PJ 1:=ja rfl
end K15
end
section
namespace K15
open PySem MI PySem.Spec PyProof.Rows L2
open M hiding mC ab au aw cV cS cT fH du dB we ic lN ag aa aS di eV EI bF ca bE bi dQ ai aY az aV ee bG ah aM af aZ gv aG bO dU gt bJ da bX eU gu nz kD nV iG fK fI gb fJ fG dP jd
theorem jT:qt bh:=fun S r m h h0 h1=>by rw [yd];exact Gb rfl h h0 h1
theorem left{S:ac}{ns:List Int}{k:Int}(h0:0<=k)(h1:k<=100000):∃ a b,gi [.rol (ns.map .int),.int k] S=some (.ref S.length,S++[.lst [.int a,.int b,.int 0]])/\0<=a/\0<=b/\b<2147483647:=by
 rw [yf]
 exact GD (N:=ir) (cellAt:=ej) (far:=jk) rfl h0 h1 (fun S k h=>by rw [qZ];exact Bx (N:=eG) rfl h) (fun S=>by rw [Am];exact KI (N:=jB) rfl)
theorem PH(S:ac)(ws:List Wd)(i:Nat)(w:Wd)(h:i<ws.length)(hl:ws.length<=100):dD [cq ws,.int (i:Int),w.d] S=some (cq (ws.set i w),S):=by
 rw [Al];exact Na (N:=jA) rfl h hl
theorem seOk:Ib fq ig dD:=
 ⟨fun S r es hl=>by rw [sW];exact Dl (N:=fC) rfl hl,fun S r ws wr=>by rw [ye];exact Kd (N:=iq) rfl,PH⟩
theorem vK:nq cF:=fun S r R h hl=>by
 rw [qY];exact zw seOk (N:=eE) rfl h hl
theorem doOk:Uf jm gD cF fo dD:=
 ⟨fun S R dd hl hd=>by rw [An];exact Pf (N:=jC) rfl hl hd,
 fun S r R wr g t h hl hw hs=>by rw [vm];exact HZ vK (N:=gK) rfl h hl hw hs,
 vK,fun S r w es hl=>by rw [sV];exact CD (N:=fB) rfl hl,PH⟩
theorem rowOk:Qs ii cb:=
 ⟨fun S r n P h1 h5=>by rw [yh];exact LM jT (N:=iw) rfl P h1 (by omega),
 fun S rl R dd h hl hd=>by rw [yg];exact LG doOk (N:=iu) rfl h hl hd⟩
theorem row{S:ac}{r n m:Nat}{rl:Rl}(P:Pk S r)(h1:1<=n)(h5:n<=5)(hm:m<=400):∃ (l:List Dd) (R:Rm) (S':ac),hJ [.ref r,rl.d,.int (n:Int),.int (m:Int)] S=some (.tup [.tup (l.map Dd.d),aQ R],S')/\Behind rl n l R/\l.length<=m/\Pk S' r/\Grow r S S':=by
 rw [Aj];exact MU rowOk (N:=jz) rfl P h1 h5 hm
theorem Sz{S:ac}{r n:Nat}(P:Pk S r)(h1:1<=n)(h5:n<=5):∃ (R:Rm) (S':ac),dO [.ref r,.int (n:Int)] S=some (aQ R,S')/\R.1.length=n/\uN R/\Pk S' r/\Grow r S S':=by
 rw [sX];exact Dm jT (N:=fD) rfl P h1 h5
theorem rule{S:ac}{r:Nat}(P:Pk S r):∃ (rl:Rl) (S':ac),gh [.ref r] S=some (rl.d,S')/\rl.Ok/\Pk S' r/\Keep r S S':=by
 rw [yc]
 obtain⟨x,a,b,c,S',e,R,P',K⟩:=FY (pick:=bh) jT (N:=ip) rfl P
 obtain⟨w,rfl⟩:=GS R.w
 exact⟨⟨w,a,b,c⟩,S',e,⟨R.a0,R.a5,R.b0,R.b9,R.c0,R.c1⟩,P',K⟩
theorem Of:Mr cf:=fun S R l hl=>by rw [sT];exact Sr (N:=fz) rfl hl
theorem rV:qr bY:=fun S R g hl=>by rw [sR];exact Iq Of (N:=iU) rfl hl
theorem yU:nv gy:=⟨fun S r R g hl=>by rw [vU];exact HK rV (N:=la) rfl hl,fun S r ws hl=>by rw [vU];exact HJ (fun S=>by rw [sR];exact Ip Of (N:=iU) rfl hl) (N:=la) rfl⟩
theorem RC(S:ac)(r:Rl)(R:Rm)(hl:R.1.length<=100)(hl2:R.2.length<=100):kK [r.d,aQ R] S=some (ny (qx r R),S):=by
 rw [CA]
 exact Cs (fun S r R hl=>by rw [xZ];exact xV yU (N:=im) rfl hl) (fun S w es hw hl=>by rw [Ah];exact yE (N:=jx) rfl hw hl) yU (N:=kW) rfl hl hl2
theorem LZ(S:ac)(r:Rl)(R:Rm)(hl:R.1.length<=100)(hl2:R.2.length<=100):kL [r.d,aQ R] S=some (rq (nN r R),S):=by
 rw [Gv];exact DN Of yU RC (N:=mV) rfl hl hl2
theorem FH(S:ac)(R:Rm)(g:Nat)(w:Wd)(h:g<R.1.length)(hl:R.1.length<=100):bA [aQ R,.int (g:Int),w.d] S=some (aQ (R.1.set g w,R.2),S):=by
 rw [xY];exact xa (N:=il) rfl h hl
theorem stOk:Ua gz kL:=⟨LZ,fun S r R v R' l h hl s=>by
 rw [vh]
 exact BA FH (fun S r R i e h hi hl=>by rw [Gu];exact GB FH (N:=mU) rfl h hi hl) (N:=gG) rfl h hl s⟩
theorem Ji{S:ac}{r:Rl}{R:Rm}(hb:0<=r.b)(h:ROk R)(hl:R.1.length<=50):cH [r.d,aQ R] S=some (.tup [aQ (aW r R).1,dX (aW r R).2],S++[.lst ((aW r R).2.map Ev.d)]):=by
 rw [Cz];exact xH stOk hb (N:=kU) rfl h hl
theorem MR{S:ac}{d:D}(h:cP 8 d=true):cM [d,d] S=some (.bl true,S):=zI (R:=gm) (N:=N__law_same) rfl yb 8 d h
theorem IR:FC cH:=fun S r R hb h hl=>Ji hb h hl
theorem woOk:TX cy:=fun S R g hl=>by rw [qX,show mn=Ce from rfl];exact Qw (N:=eD) rfl hl
theorem MQ:Ps bo:=fun S r R l hb h hl h4=>by rw [oJ,show kA=Cg cH from rfl];exact QM IR (N:=dq) rfl hb h hl h4
theorem tuOk:TuOk gx:=fun S r R g w hw hl=>by rw [Gs,show Aq=Cf from rfl];exact QE (N:=mT) rfl hw hl
theorem olOk(S:ac)(t:Option Int):gZ [bv t] S=some (bv (t.map (· - 1)),S):=by rw [Af,show sY=oC from rfl];exact Ke (N:=jv) rfl
theorem deOk:DeOk cH bY cf bA:=⟨IR,rV,Of,FH⟩
theorem brOk:BrOk gg jj gC fj gB gA:=
 ⟨fun S r R wr g t hb h hl hw hs=>by rw [ya,show qy=xK cH bY cy from rfl];exact Pr IR rV woOk (N:=io) rfl hb h hl hw hs,
 fun S r R g hb h hl hw=>by rw [Ai,show tf=xI cH bY cf bA from rfl];exact Qx deOk (N:=jy) rfl hb h hl hw,
 fun S r R g w hb h hl hw ho=>by rw [vk,show oO=oD bo bA gx Wd.reads.s "down" from rfl];exact Bq MQ FH tuOk (N:=gJ) rfl hb h hl hw ho (.inl rfl) rfl (by decide) rfl,
 fun S r R g w hb h hl hw ho=>by rw [sU,show nE=oD bo bA gx Wd.out.s "out" from rfl];exact Bq MQ FH tuOk (N:=fA) rfl hb h hl hw ho (.inr rfl) rfl (by decide) rfl,
 fun S r R g w hb h hl hw hc=>by rw [vj,show oN=oB bo bA cy bY from rfl];exact II MQ FH woOk rV (N:=gI) rfl hb h hl hw hc,
 fun S r R hb h hl=>by rw [vi,show oM=sB bo gZ from rfl];exact Iz MQ olOk (N:=gH) rfl hb h hl⟩
theorem pdone{S:ac}{r:Rl}{R:Rm}{dd:Dd}{x:Rm×List Ev}(hb:0<=r.b)(h:ROk R)(hl:R.1.length<=50)(hd:dd.Ok R.1.length)(hx:gj r R dd=some x):∃ T,qd [r.d,aQ R,dd.d] S=some (dZ x,S++T):=by
 rw [NP,show JN=oE (brL gg jj gC fj gB gA) from rfl];exact Gf brOk (N:=uK) rfl hb h hl hd hx
theorem tofOk:Qq cL:=fun S xs k=>by rw [sS,show nD=xJ from rfl];exact My (N:=fv) rfl
theorem Qv:Mq gf:=fun S x ys h=>by rw [CB,show vW=sA from rfl];exact Il (N:=kY) rfl h
theorem betOk:Qu cY:=fun S i lo hi=>by rw [vg,show oK=rG ji from rfl];exact Pj (fun S i=>by rw [Ag,show sZ=pL from rfl];exact FI (N:=jw) rfl) (N:=gF) rfl
theorem Sn{S:ac}{n:Nat}{dd:Dd}(hd:dd.Ok n):iT [.int (n:Int),dd.d] S=some (.bl true,S):=by
 rw [CC,show vX=lX cL gf cY from rfl];exact HC tofOk Qv betOk (N:=kZ) rfl hd
theorem canDo{S:ac}{R:Rm}{dd:Dd}(hl:R.1.length<=100)(hd:dd.Ok R.1.length)(hc:ik R dd=true):kM [aQ R,dd.d] S=some (.bl true,S):=by
 rw [Gw,show As=oF bY from rfl]
 by_cases ht:dd=.tick
 ·subst ht;exact DR (N:=lb) rfl
 ·rw [HL rV (N:=lb) rfl hl hd ht,hc]
theorem Es{S:ac}{r:Rl}{R:Rm}{n:Nat}{dd:Dd}{x:Rm×List Ev}(hb:0<=r.b)(h:ROk R)(hn:R.1.length=n)(h5:n<=5)(hd:dd.Ok n)(hx:gj r R dd=some x):∃ T,ge [r.d,.int (n:Int),aQ R,dd.d] S=some (dZ x,S++T):=by
 subst hn
 obtain⟨T,e⟩:=pdone (S:=S) hb h (by omega) hd hx
 refine⟨T,?_⟩
 rw [Cy,show vV=sC iT kM qd from rfl]
 exact IJ (N:=kT) rfl (Sn hd) (canDo (by omega) hd (Hv hx)) e
theorem IT{S:ac}{r:Rl}{R:Rm}{dd:Dd}{x:Rm×List Ev}(h:ROk R)(hl:R.1.length<=5)(hx:gj r R dd=some x):cM [dZ x,dZ x] S=some (.bl true,S):=by
 obtain⟨h1,h2⟩:=kQ h hx
 have h3:=h1.len
 have h4:=Hu h hl hx
 exact MR (IU (by omega) (by omega) (by omega))
theorem tH{S:ac}{r:Rl}{R:Rm}{dd:Dd}(h:ROk R)(hl:R.1.length<=50)(hd:dd.Ok R.1.length):∃ T,cb [r.d,aQ R,dd.d] S=some (gM (gj r R dd),S++T):=rowOk.dn S r R dd h hl hd
theorem Uc{S:ac}{r q:Nat}{c:uO}(P:Pk S r)(h:q≠r):Pk (S.set q c) r:=by
 obtain⟨a,b,d,e,z⟩:=P
 exact⟨a,b,d,by rw [List.getElem?_set_ne h];exact e,z⟩
def Mi:ME:=au av (ai 4 hJ (aa (ab 0) (aa (ab 1) (aa (ab 2) (aa (au aO (mC (.int 2)) (ai 2 bh (aa (ab 0) (aa (mC (.int 12)) (ag))))) (ag)))))) (mC (.int 1))
def Mh:ME:=au av (di (aa (mC (.str "read")) (aa (mC (.str "write")) (ag)))) (ai 2 bh (aa (ab 0) (aa (mC (.int 2)) (ag))))
def Mk:ME:=aS (aa (ab 6) (aa (ab 5) (aa (au av (di (aa (mC .non) (aa (mC (.int 1)) (aa (mC (.int 1)) (aa (mC (.int 2)) (aa (mC (.int 3)) (aa (mC (.int 9)) (ag)))))))) (ai 2 bh (aa (ab 0) (aa (mC (.int 6)) (ag))))) (ag))))
def za:MS:=az (aG Mh (ah 6)) (ee (eU cZ (ab 4) (aa Mk (ag))))
def DZ:ME:=au aO (ab 4) (au cB (di (aa (aS (aa (mC (.str "up")) (aa (ai 2 bh (aa (ab 0) (aa (ab 2) (ag)))) (ag)))) (ag))) (ai 2 bh (aa (ab 0) (aa (mC (.int 2)) (ag)))))
def DY:ME:=lN (aw (au ut (ab 8) (mC .non))) (ab 3) (au av (ab 8) (mC (.int 0)))
def Mj:MS:=az (aG (ai 3 cb (aa (ab 1) (aa (ab 3) (aa (ab 7) (ag))))) (ah 8)) (aG DY (ah 3))
def Qo:MS:=az (aG Mi (ah 3)) (az (aG (eV (ag)) (ah 4)) (az (gt (bO (aa (ab 2) (ag))) (ah 5) za) (az (aG DZ (ah 4)) (az (gb (ab 4) (ah 7) Mj) (aV (ab 3))))))
theorem at_aw{q:Int}(h0:0<=q)(h1:q<6):∃ t:Option Int,lc [D.non,D.int 1,D.int 1,D.int 2,D.int 3,D.int 9] q=some (bv t)/\uM t:=by
 have:q=0\/q=1\/q=2\/q=3\/q=4\/q=5:=by omega
 rcases this with rfl | rfl | rfl | rfl | rfl | rfl
 ·exact⟨none,rfl,fun k z=>by cases z⟩
 ·exact⟨some 1,rfl,fun k z=>by cases z;decide⟩
 ·exact⟨some 1,rfl,fun k z=>by cases z;decide⟩
 ·exact⟨some 2,rfl,fun k z=>by cases z;decide⟩
 ·exact⟨some 3,rfl,fun k z=>by cases z;decide⟩
 ·exact⟨some 9,rfl,fun k z=>by cases z;decide⟩
theorem HY{S:ac}{q c n g:Nat}{l:List Dd}{a1 a2 a3 a6 a7 a8:Option D}(P:Pk S q)(hq:c≠q)(hc:S[c]?=some (.lst (l.map Dd.d)))(hl:l.length<=100)(hd:∀ d∈l,d.Ok n)(hg:g<n):∃ (l':List Dd) (b6:Option D) (S':ac),za [some (.ref q),a1,a2,a3,some (.ref c),some (.int (g:Int)),a6,a7,a8] S=some (.nx [some (.ref q),a1,a2,a3,some (.ref c),some (.int (g:Int)),b6,a7,a8] S')/\Pk S' q/\S'[c]?=some (.lst (l'.map Dd.d))/\l'.length<=l.length+1/\∀ d∈l',d.Ok n:=by
 obtain⟨m,S1,e1,m0,m1,P1,K1⟩:=jT _ _ 2 P (by decide) (by decide)
 obtain⟨wr,hwr⟩:=Qp m0 m1
 obtain⟨j,S2,e2,j0,j1,P2,K2⟩:=jT _ _ 6 P1 (by decide) (by decide)
 obtain⟨t,ht,hlf⟩:=at_aw j0 j1
 have k2:∀ S,jG ([.str "read",.str "write"],S)=some (.lst [.str "read",.str "write"],S):=fun S=>cG (by simp)
 have k6:∀ S,jG ([D.non,D.int 1,D.int 1,D.int 2,D.int 3,D.int 9],S)=some (.lst [D.non,D.int 1,D.int 1,D.int 2,D.int 3,D.int 9],S):=fun S=>cG (by simp)
 have k3:∀ S (x y z:D),cn ([x,y,z],S)=some (.tup [x,y,z],S):=fun S x y z=>aU (by simp)
 have xl:∀ S,av S (.lst [.str "read",.str "write"]) (.int m)=some (.str (bp wr)):=fun S=>by rw [Fd];exact hwr
 have xt:∀ S,av S (.lst [D.non,D.int 1,D.int 1,D.int 2,D.int 3,D.int 9]) (.int j)=some (bv t):=fun S=>by rw [Fd];exact ht
 have c1:S1[c]?=some (.lst (l.map Dd.d)):=by rw [K1.1 c hq];exact hc
 have c2:S2[c]?=some (.lst (l.map Dd.d)):=by rw [K2.1 c hq];exact c1
 have ap:cZ (.ref c) [(Dd.ask wr g t).d] S2=some (.non,S2.set c (.lst ((l++[Dd.ask wr g t]).map Dd.d))):=by
  rw [qi c2 (by rw [List.length_map];omega)];simp
 have km:∀ f ms env,oX f ms env (.ref c,S1)=(ms env S1).bind (dR f (.ref c)):=fun f ms env=>rN c1
 have ed:D.tup [.str (bp wr),.int (g:Int),bv t]=(Dd.ask wr g t).d:=rfl
 refine⟨l++[Dd.ask wr g t],some (.str (bp wr)),S2.set c (.lst ((l++[Dd.ask wr g t]).map Dd.d)),?_,Uc P2 hq,List.getElem?_set_self (List.getElem?_eq_some_iff.mp c2).1,by simp,fun d hd'=>?_⟩
 ·simp only [za,aK,bf,Mh,aE,gq,ao,bd,ob,am,ax,al,k2,aq,aB,aj,bH,bM,bL,oj,ak,aR,e1,ar,xl,bg,aJ,dY,eR,bD,aD,lx,lv,km,Mk,be,k6,e2,xt,k3,ed,fh,ap,lA]
 ·rcases List.mem_append.mp hd' with z | z
  ·exact hd d z
  ·rw [List.mem_singleton.mp z];exact⟨hg,hlf⟩
theorem Pm{S:ac}{q n:Nat}{r:Rl}{R:Rm}{dd:Dd}{a2 a4 a5 a6 a8:Option D}(P:Pk S q)(h:ROk R)(hn:R.1.length=n)(h5:n<=5)(hd:dd.Ok n):∃ R' b8 S',Mj [some (.ref q),some r.d,a2,some (aQ R),a4,a5,a6,some dd.d,a8] S=some (.nx [some (.ref q),some r.d,a2,some (aQ R'),a4,a5,a6,some dd.d,b8] S')/\R'.1.length=n/\ROk R'/\Pk S' q:=by
 obtain⟨T,e2⟩:=tH (S:=S) (r:=r) (R:=R) (dd:=dd) h (by omega) (by rw [hn];exact hd)
 cases hx:gj r R dd with
 | none=>
  rw [hx] at e2
  have i1:lB (gM none) .non=true:=rfl
  refine⟨R,some (gM none),S++T,?_,hn,h,P.appT⟩
  simp only [Mj,aK,bf,aB,ao,aj,bH,bM,bL,oj,ob,ak,am,ax,al,bx,e2,bg,aJ,dY,eR,bD,aD,DY,jc,aF,aE,aq,bd,ar,jP,i1,aC,tN]
 | some x=>
  rw [hx] at e2
  have i1:lB (gM (some x)) .non=false:=rfl
  have x0:∀ S,av S (gM (some x)) (.int 0)=some (aQ x.1):=fun S=>rfl
  refine⟨x.1,some (gM (some x)),S++T,?_,(kQ h hx).2.trans hn,(kQ h hx).1,P.appT⟩
  simp only [Mj,aK,bf,aB,ao,aj,bH,bM,bL,oj,ob,ak,am,ax,al,bx,e2,bg,aJ,dY,eR,bD,aD,DY,jc,aF,aE,aq,bd,ar,jP,i1,aC,wp,x0]
theorem HX{S:ac}{q n:Nat}{r:Rl}(P:Pk S q)(h1:1<=n)(h5:n<=5):∃ (R:Rm) (S':ac),dm [.ref q,r.d,.int (n:Int)] S=some (aQ R,S')/\R.1.length=n/\ROk R/\Pk S' q:=by
 rw [rg,show mq=Qo from rfl,bb (show [D.ref q,r.d,D.int (n:Int)].length=3 from rfl),show aA eH [D.ref q,r.d,D.int (n:Int)]=[some (.ref q),some r.d,some (.int (n:Int)),none,none,none,none,none,none] from rfl]
 obtain⟨j,S1,e1,j0,j1,P1,K1⟩:=jT _ _ 12 P (by decide) (by decide)
 obtain⟨k,hk⟩:∃ k:Nat,2+j=(k:Int):=⟨(2+j).toNat,by omega⟩
 obtain⟨l0,R0,S2,e2,B,_,P2,G2⟩:=row (rl:=r) (n:=n) (m:=k) P1 h1 h5 (by omega)
 have xi:∀ S,av S (.tup [.tup (l0.map Dd.d),aQ R0]) (.int 1)=some (aQ R0):=fun S=>rfl
 have rf:Mi [some (.ref q),some r.d,some (.int (n:Int)),none,none,none,none,none,none] S=some (aQ R0,S2):=by
  simp only [Mi,aE,aB,ao,aj,bH,bM,bL,oj,ob,ak,am,bd,aq,ax,al,aR,e1,ar,js,hk,tT,e2,xi]
 have kl:qA ([],S2)=some (.ref S2.length,S2++[.lst []]):=kH (by simp)
 have hq:S2.length≠q:=fun z=>by have:=P2.lt;omega
 have kr:∀ S,GH ([.int (n:Int)],S)=some (bT 0 n,S):=fun S=>by rw [je (by omega) (by omega)];rfl
 obtain⟨env',S3,e3,l,b5,b6,rfl,P3,hc,hl,hd⟩:=Dn (tg:=ah 5) (p:=za) (lo:=0) (fun i env T=>∃ (l:List Dd) (b5 b6:Option D),env=[some (.ref q),some r.d,some (.int (n:Int)),some (aQ R0),some (.ref S2.length),b5,b6,none,none]/\Pk T q/\T[S2.length]?=some (.lst (l.map Dd.d))/\l.length<=i/\∀ d∈l,d.Ok n) n (fun g hg env T hI=>by
  obtain⟨l,b5,b6,rfl,P,hc,hl,hd⟩:=hI
  obtain⟨l',c6,S',e,P',hc',hl',hd'⟩:=HY (g:=g) (a1:=some r.d) (a2:=some (.int (n:Int))) (a3:=some (aQ R0)) (a6:=b6) (a7:=none) (a8:=none) P hq hc (by omega) hd hg
  rw [show ((g:Nat):Int)=0+(g:Int) by omega] at e
  exact⟨_,_,_,_,aJ,e,_,_,_,rfl,P',hc',by omega,hd'⟩) [some (.ref q),some r.d,some (.int (n:Int)),some (aQ R0),some (.ref S2.length),none,none,none,none] (S2++[.lst []]) ⟨[],_,_,rfl,P2.appT,by simp,Nat.le_refl _,fun d z=>by cases z⟩
 obtain⟨m,S4,e4,m0,m1,P4,K4⟩:=jT _ _ (n:Int) P3 (by omega) (by omega)
 obtain⟨g,hg⟩:∃ g:Nat,m=(g:Int):=⟨m.toNat,by omega⟩
 subst hg
 obtain⟨i,S5,e5,i0,i1,P5,K5⟩:=jT _ _ 2 P4 (by decide) (by decide)
 have c5:S5[S2.length]?=some (.lst (l.map Dd.d)):=by rw [K5.1 _ hq,K4.1 _ hq];exact hc
 obtain⟨L,mo,hL⟩:∃ L:List Dd,DZ [some (.ref q),some r.d,some (.int (n:Int)),some (aQ R0),some (.ref S2.length),b5,b6,none,none] S3=some (.lst (L.map Dd.d),S5)/\∀ d∈L,d.Ok n:=by
  have k1:∀ S (x:D),jG ([x],S)=some (.lst [x],S):=fun S x=>cG (by simp)
  have k2:∀ S (x y:D),cn ([x,y],S)=some (.tup [x,y],S):=fun S x y=>aU (by simp)
  have mu:∀ S,cB S (.lst [.tup [.str "up",.int (g:Int)]]) (.int i)=some (.lst (List.replicate i.toNat (Dd.act .up g).d)):=fun S=>by
   rw [yH (by omega) (by omega) (by simp;omega),uk];rfl
  have ad:aO S5 (.ref S2.length) (.lst (List.replicate i.toNat (Dd.act .up g).d))=some (.lst ((l++List.replicate i.toNat (Dd.act .up g)).map Dd.d)):=by
   unfold aO
   rw [if_pos (show (qa (D.ref S2.length)||qa (D.lst (List.replicate i.toNat (Dd.act .up g).d)))=true from rfl)]
   have:oU S5 (.ref S2.length)=some (l.map Dd.d):=by
    show (match S5[S2.length]? with | some (.lst xs)=>some xs | _=>none)=_
    rw [c5]
   rw [this,ob]
   show (some (List.replicate i.toNat (Dd.act .up g).d)).bind _=_
   rw [ob,if_pos (sz (by simp;omega)),List.map_append,List.map_replicate]
  refine⟨l++List.replicate i.toNat (Dd.act .up g),?_,fun d hd'=>?_⟩
  ·simp only [DZ,aE,aj,bH,bM,bL,oj,ob,ak,aq,gq,ao,be,bd,am,aB,ax,al,aR,e4,k2,k1,e5,ar,mu,ad]
  ·rcases List.mem_append.mp hd' with z | z
   ·exact hd d z
   ·rw [(List.mem_replicate.mp z).2];show g<n;omega
 obtain⟨env',S7,e7,R,b7,b8,rfl,hl7,ok7,P7⟩:=uh (tg:=ah 7) (p:=Mj) (fun env T=>∃ (R:Rm) (b7 b8:Option D),env=[some (.ref q),some r.d,some (.int (n:Int)),some (aQ R),some (.lst (L.map Dd.d)),b5,b6,b7,b8]/\R.1.length=n/\ROk R/\Pk T q) (L.map Dd.d) (fun d hd' env T hI=>by
  obtain⟨dd,hdd,rfl⟩:=List.mem_map.mp hd'
  obtain⟨R,b7,b8,rfl,hl,ok,P⟩:=hI
  obtain⟨R',c8,S',e,hl',ok',P'⟩:=Pm (a2:=some (.int (n:Int))) (a4:=some (.lst (L.map Dd.d))) (a5:=b5) (a6:=b6) (a8:=b8) (r:=r) P ok hl h5 (hL dd hdd)
  exact⟨_,_,_,_,aJ,e,_,_,_,rfl,hl',ok',P'⟩) [some (.ref q),some r.d,some (.int (n:Int)),some (aQ R0),some (.lst (L.map Dd.d)),b5,b6,none,none] S5 ⟨R0,_,_,rfl,B.ok.2,B.ok.1,P5⟩
 refine⟨R,S7,?_,hl7,ok7,P7⟩
 simp only [Qo,aK,bf,rf,ob,bg,aJ,dY,eR,bD,aD,oQ,ax,kl,mw,dN,ao,aj,bH,bM,bL,oj,ak,am,al,kr,mz,e3,mo,oR,NX,e7,aX,bq,aH]
def Er:ME:=aS (aa (mC (.str "stop")) (aa (ab 7) (ag)))
def IA:ME:=aS (aa (mC (.str "tick")) (ag))
def zo:MS:=az (aG (ai 3 cb (aa (ab 4) (aa (ab 6) (aa Er (ag))))) (ah 8)) (bG (cT (aw (au kf (ab 8) (mC .non))) (du (cS (ai 2 cM (aa (ai 4 ge (aa (ab 4) (aa (ab 5) (aa (ab 6) (aa Er (ag)))))) (aa (ab 8) (ag))))))) (aV (mC (.bl false))) (aY))
def El:MS:=az (aG (ai 3 cb (aa (ab 4) (aa (ab 6) (aa IA (ag))))) (ah 8)) (az (bG (du (cS (ai 2 cM (aa (ai 4 ge (aa (ab 4) (aa (ab 5) (aa (ab 6) (aa IA (ag)))))) (aa (ab 8) (ag)))))) (aV (mC (.bl false))) (aY)) (aG (au av (ab 8) (mC (.int 0))) (ah 6)))
def Eu:ME:=lN (aw (au bU (ai 2 bh (aa (ab 2) (aa (mC (.int 3)) (ag)))) (mC (.int 0)))) (ai 2 dO (aa (ab 2) (aa (ab 5) (ag)))) (ai 3 dm (aa (ab 2) (aa (ab 4) (aa (ab 5) (ag)))))
def Em:MS:=az (nz 4 5 (aa (ai 1 gh (aa (ab 2) (ag))) (aa (au aO (mC (.int 1)) (ai 2 bh (aa (ab 2) (aa (mC (.int 5)) (ag))))) (ag)))) (az (aG Eu (ah 6)) (az (gt (bO (aa (ab 5) (ag))) (ah 7) zo) (gt (bO (aa (mC (.int 10)) (ag))) (ah 9) El)))
def turn:MS:=az (aG (ai 2 gi (aa (ab 0) (aa (ab 1) (ag)))) (ah 2)) (gt (bO (aa (mC (.int 4)) (ag))) (ah 3) Em)
theorem Iw{S:ac}{n g:Nat}{r:Rl}{R:Rm}{a0 a1 a2 a3 a8 a9:Option D}(hb:0<=r.b)(h:ROk R)(hn:R.1.length=n)(h5:n<=5)(hg:g<n):∃ b8 T,zo [a0,a1,a2,a3,some r.d,some (.int (n:Int)),some (aQ R),some (.int (g:Int)),a8,a9] S=some (.nx [a0,a1,a2,a3,some r.d,some (.int (n:Int)),some (aQ R),some (.int (g:Int)),b8,a9] (S++T)):=by
 have k2:∀ S (x y:D),cn ([x,y],S)=some (.tup [x,y],S):=fun S x y=>aU (by simp)
 have hd:(Dd.act .stop g).Ok n:=hg
 have ed:D.tup [.str "stop",.int (g:Int)]=(Dd.act .stop g).d:=rfl
 obtain⟨T,e2⟩:=tH (S:=S) (r:=r) (R:=R) (dd:=.act .stop g) h (by omega) (by rw [hn];exact hd)
 cases hx:gj r R (.act .stop g) with
 | none=>
  rw [hx] at e2
  have i1:lB (gM none) .non=true:=rfl
  refine⟨some (gM none),T,?_⟩
  simp only [zo,Er,aK,bf,aB,ao,aj,bH,bM,bL,oj,ob,ak,am,be,bd,ax,al,k2,ed,bx,e2,bg,aJ,dY,eR,bD,aD,bj,hX,aF,aE,aq,ar,kN,i1,Bool.not_true,aC,rO,bI,bt]
 | some x=>
  rw [hx] at e2
  have dn:gM (some x)=dZ x:=rfl
  rw [dn] at e2
  have i1:lB (dZ x) .non=false:=rfl
  obtain⟨T1,e1⟩:=Es (S:=S++T) hb h hn h5 hd hx
  have sm:=fun S=>IT (S:=S) h (by omega) hx
  refine⟨some (dZ x),T++T1,?_⟩
  simp only [zo,Er,aK,bf,aB,ao,aj,bH,bM,bL,oj,ob,ak,am,be,bd,ax,al,k2,ed,bx,e2,bg,aJ,dY,eR,bD,aD,bj,hX,aF,aE,aq,ar,kN,i1,Bool.not_false,aC,jM,hV,dw,tT,e1,aR,sm,eh,hZ,Bool.not_true,bI,bt,List.append_assoc]
theorem Iv{S:ac}{n:Nat}{r:Rl}{R:Rm}{a0 a1 a2 a3 a7 a8 a9:Option D}(hb:0<=r.b)(h:ROk R)(hn:R.1.length=n)(h5:n<=5):∃ R' b8 T,El [a0,a1,a2,a3,some r.d,some (.int (n:Int)),some (aQ R),a7,a8,a9] S=some (.nx [a0,a1,a2,a3,some r.d,some (.int (n:Int)),some (aQ R'),a7,b8,a9] (S++T))/\R'.1.length=n/\ROk R':=by
 have k1:∀ S (x:D),cn ([x],S)=some (.tup [x],S):=fun S x=>aU (by simp)
 have ed:D.tup [.str "tick"]=Dd.tick.d:=rfl
 obtain⟨T,e2⟩:=tH (S:=S) (r:=r) (R:=R) (dd:=.tick) h (by omega) trivial
 have hx:gj r R .tick=some (ia r R):=rfl
 rw [hx] at e2
 have dn:gM (some (ia r R))=dZ (ia r R):=rfl
 rw [dn] at e2
 obtain⟨T1,e1⟩:=Es (S:=S++T) hb h hn h5 (dd:=.tick) trivial hx
 have sm:=fun S=>IT (S:=S) h (by omega) hx
 have x0:∀ S,av S (dZ (ia r R)) (.int 0)=some (aQ (ia r R).1):=fun S=>rfl
 refine⟨(ia r R).1,some (dZ (ia r R)),T++T1,?_,(kQ h hx).2.trans hn,(kQ h hx).1⟩
 simp only [El,IA,aK,bf,aB,ao,aj,bH,bM,bL,oj,ob,ak,am,be,bd,ax,al,k1,ed,bx,e2,bg,aJ,dY,eR,bD,aD,bj,hV,dw,tT,e1,aR,sm,eh,hZ,Bool.not_true,bI,bt,aE,aq,ar,x0,List.append_assoc]
theorem Ix{S:ac}{q:Nat}{a0 a1 a3 a4 a5 a6 a7 a8 a9:Option D}(P:Pk S q):∃ b4 b5 b6 b7 b8 b9 S',Em [a0,a1,some (.ref q),a3,a4,a5,a6,a7,a8,a9] S=some (.nx [a0,a1,some (.ref q),a3,b4,b5,b6,b7,b8,b9] S')/\Pk S' q:=by
 obtain⟨r,S1,e1,Rk,P1,K1⟩:=rule P
 obtain⟨m,S2,e2,m0,m5,P2,K2⟩:=jT _ _ 5 P1 (by decide) (by decide)
 obtain⟨n,hn⟩:∃ n:Nat,1+m=(n:Int):=⟨(1+m).toNat,by omega⟩
 obtain⟨i,S5,e5,i0,i1,P5,K5⟩:=jT _ _ 3 P2 (by decide) (by decide)
 have rm:∃ (R:Rm) (S6:ac),Eu [a0,a1,some (.ref q),a3,some r.d,some (.int (n:Int)),a6,a7,a8,a9] S2=some (aQ R,S6)/\R.1.length=n/\ROk R/\Pk S6 q:=by
  by_cases z:i=0
  ·obtain⟨R,S6,e6,hl,F,P6,_⟩:=Sz (n:=n) P5 (by omega) (by omega)
   refine⟨R,S6,?_,hl,F.ok,P6⟩
   have hz:(i == 0)=true:=by rw [z];rfl
   simp only [Eu,jc,aF,aE,aB,ao,aj,bH,bM,bL,oj,ob,ak,am,bd,ax,al,aR,e5,aq,ar,iA,hz,aC,tN,e6]
  ·obtain⟨R,S6,e6,hl,ok,P6⟩:=HX (n:=n) (r:=r) P5 (by omega) (by omega)
   refine⟨R,S6,?_,hl,ok,P6⟩
   have hz:(i == 0)=false:=beq_eq_false_iff_ne.mpr z
   simp only [Eu,jc,aF,aE,aB,ao,aj,bH,bM,bL,oj,ob,ak,am,bd,ax,al,aR,e5,aq,ar,iA,hz,aC,wp,bx,e6]
 obtain⟨R,S6,e6,hl,ok,P6⟩:=rm
 have kr:∀ S,GH ([.int (n:Int)],S)=some (bT 0 n,S):=fun S=>by rw [je (by omega) (by omega)];rfl
 have kt:∀ S,GH ([.int 10],S)=some (bT 0 10,S):=fun S=>je (by decide) (by decide)
 obtain⟨env',S7,e7,b7,b8,rfl,P7⟩:=Dn (tg:=ah 7) (p:=zo) (lo:=0) (fun _ env T=>∃ b7 b8,env=[a0,a1,some (.ref q),a3,some r.d,some (.int (n:Int)),some (aQ R),b7,b8,a9]/\Pk T q) n (fun g hg env T hI=>by
  obtain⟨b7,b8,rfl,P⟩:=hI
  obtain⟨c8,U,e⟩:=Iw (S:=T) (g:=g) (a0:=a0) (a1:=a1) (a2:=some (.ref q)) (a3:=a3) (a8:=b8) (a9:=a9) Rk.b0 ok hl (by omega) hg
  rw [show ((g:Nat):Int)=0+(g:Int) by omega] at e
  exact⟨_,_,_,_,aJ,e,_,_,rfl,P.appT⟩) [a0,a1,some (.ref q),a3,some r.d,some (.int (n:Int)),some (aQ R),a7,a8,a9] S6 ⟨_,_,rfl,P6⟩
 obtain⟨env',S8,e8,R8,c8,c9,rfl,hl8,ok8,P8⟩:=Dn (tg:=ah 9) (p:=El) (lo:=0) (fun _ env T=>∃ (R8:Rm) (c8 c9:Option D),env=[a0,a1,some (.ref q),a3,some r.d,some (.int (n:Int)),some (aQ R8),b7,c8,c9]/\R8.1.length=n/\ROk R8/\Pk T q) 10 (fun g hg env T hI=>by
  obtain⟨R8,c8,c9,rfl,hl8,ok8,P⟩:=hI
  obtain⟨R9,d8,U,e,hl9,ok9⟩:=Iv (S:=T) (a0:=a0) (a1:=a1) (a2:=some (.ref q)) (a3:=a3) (a7:=b7) (a8:=c8) (a9:=some (.int (0+(g:Int)))) Rk.b0 ok8 hl8 (by omega)
  exact⟨_,_,_,_,aJ,e,_,_,_,rfl,hl9,ok9,P.appT⟩) [a0,a1,some (.ref q),a3,some r.d,some (.int (n:Int)),some (aQ R),b7,b8,a9] S7 ⟨R,_,_,rfl,hl,ok,P7⟩
 refine⟨some r.d,some (.int (n:Int)),some (aQ R8),b7,c8,c9,S8,?_,P8⟩
 simp only [Em,aK,RH,ao,aB,aj,bH,bM,bL,oj,ob,ak,am,ax,al,AS,e1,aE,bd,aq,aR,e2,ar,js,hn,Sa,dY,eR,aD,bf,e6,bg,aJ,bD,mw,dN,kr,mz,e7,kt,e8]
theorem Mx{S:ac}{ns:List Int}{k:Int}{a2 a3 a4 a5 a6 a7 a8 a9:Option D}(h0:0<=k)(h1:k<=100000) :
  ∃ b2 b3 b4 b5 b6 b7 b8 b9 S',turn [some (.rol (ns.map .int)),some (.int k),a2,a3,a4,a5,a6,a7,a8,a9] S=some (.nx [some (.rol (ns.map .int)),some (.int k),b2,b3,b4,b5,b6,b7,b8,b9] S'):=by
 obtain⟨p,q,e1,p0,q0,q1⟩:=left (S:=S) (ns:=ns) h0 h1
 have P1:=Ud (S:=S) (c:=0) p0 q0 q1
 have kr:∀ S,GH ([.int 4],S)=some (bT 0 4,S):=fun S=>je (by decide) (by decide)
 obtain⟨env',S5,e5,b3,b4,b5,b6,b7,b8,b9,rfl,P5⟩:=Dn (tg:=ah 3) (p:=Em) (lo:=0) (fun _ env T=>∃ b3 b4 b5 b6 b7 b8 b9,env=[some (.rol (ns.map .int)),some (.int k),some (.ref S.length),b3,b4,b5,b6,b7,b8,b9]/\Pk T S.length) 4 (fun j hj env T hI=>by
  obtain⟨b3,b4,b5,b6,b7,b8,b9,rfl,P⟩:=hI
  obtain⟨c4,c5,c6,c7,c8,c9,S',e,P'⟩:=Ix (S:=T) (q:=S.length) (a0:=some (.rol (ns.map .int))) (a1:=some (.int k)) (a3:=some (.int (0+(j:Int)))) (a4:=b4) (a5:=b5) (a6:=b6) (a7:=b7) (a8:=b8) (a9:=b9) P
  exact⟨_,_,_,_,aJ,e,_,_,_,_,_,_,_,rfl,P'⟩) [some (.rol (ns.map .int)),some (.int k),some (.ref S.length),a3,a4,a5,a6,a7,a8,a9] (S++[.lst [.int p,.int q,.int 0]]) ⟨_,_,_,_,_,_,_,rfl,P1⟩
 refine⟨some (.ref S.length),b3,b4,b5,b6,b7,b8,b9,S5,?_⟩
 simp only [turn,aK,bf,aB,ao,aj,bH,bM,bL,oj,ob,ak,am,ax,al,aR,e1,bg,aJ,dY,eR,bD,aD,mw,dN,bd,kr,mz,e5]
theorem Kf:∀ ns:List Int,ns.length<=63->∃ S',Bj [.rol (ns.map .int)] []=some (.bl true,S'):=fun ns hl=>by
 rw [RG,bb (show [D.rol (ns.map .int)].length=1 from rfl),show aA BE [D.rol (ns.map .int)]=[some (.rol (ns.map .int)),none,none,none,none,none,none,none,none,none] from rfl]
 have hm:PJ=az (gt (bO (aa (bi (aN lO) (aa (mC (.int 3)) (aa (bi (aN Bl) (aa (bi (aN fO) (aa (ab 0) (ag))) (aa (mC (.int 8)) (ag)))) (ag)))) (ag))) (ah 1) turn) (aV (mC (.bl true))):=rfl
 rw [hm]
 generalize hk:(if (if (8:Int)<(ns.length:Int) then 8 else (ns.length:Int))>3 then (if (8:Int)<(ns.length:Int) then 8 else (ns.length:Int)) else 3)=k
 have hk':0<=k/\k<=26:=by rw [<- hk];split <;> (try split) <;> omega
 have k1:GH ([.int k],[])=some (bT 0 k.toNat,[]):=je (by omega) (by omega)
 obtain⟨env',S',e,a1,a2,a3,a4,a5,a6,a7,a8,a9,rfl⟩:=uh (tg:=ah 1) (p:=turn) (fun env _=>∃ a1 a2 a3 a4 a5 a6 a7 a8 a9,env=[some (.rol (ns.map .int)),a1,a2,a3,a4,a5,a6,a7,a8,a9]) (bT 0 k.toNat) (fun d hd env S hI=>by
  obtain⟨a1,a2,a3,a4,a5,a6,a7,a8,a9,rfl⟩:=hI
  obtain⟨i,hi,rfl⟩:=Cw hd
  obtain⟨b2,b3,b4,b5,b6,b7,b8,b9,S2,e⟩:=Mx (S:=S) (ns:=ns) (k:=0+(i:Int)) (a2:=a2) (a3:=a3) (a4:=a4) (a5:=a5) (a6:=a6) (a7:=a7) (a8:=a8) (a9:=a9) (by omega) (by omega)
  exact⟨_,_,_,_,aJ,e,_,_,_,_,_,_,_,_,_,rfl⟩) [some (.rol (ns.map .int)),none,none,none,none,none,none,none,none,none] [] ⟨_,_,_,_,_,_,_,_,_,rfl⟩
 refine⟨S',?_⟩
 simp only [aK,mw,dN,ao,aE,bd,ob,aq,bR,am,aj,bH,oj,ak,ax,al,bS,SI,Os,Ou,List.length_map,hk,k1,mz,e,aD,aX,bq,aH]
end K15
end
def PySem.W.Fast.tw15068265245421906814:=0
def PySem.W.Fast.tw1260324877755689981:=0
def PySem.W.Fast.tw15653555909446489196:=0
def PySem.W.Fast.tw14880562019278615815:=0
def PySem.W.Fast.tw11575890150242273444:=0
def PySem.W.Fast.tw17981147812135360426:=0
def PySem.W.Fast.tw7914288334693154770:=0
def PySem.W.Fast.tw6621025032880597287:=0
def PySem.W.Fast.tw12742536842001148574:=0
def PySem.W.Fast.tw3550917187166044181:=0
def PySem.W.Fast.tw17428647164418477798:=0
def PySem.W.Fast.tw6422850266915055496:=0
def PySem.W.Fast.tw5212111645997476019:=0
def PySem.W.Fast.tw16607461759236309435:=0
def PySem.W.Fast.tw10007621456273817254:=0
def PySem.W.Fast.tw2348641599523111620:=0
def PySem.W.Fast.tw14724101161802648690:=0
def PySem.W.Fast.tw7406590044459450109:=0
def PySem.W.Fast.tw16455655954603872056:=0
def PySem.W.Fast.tw10012561943116948418:=0
def PySem.W.Fast.tw1086799619018403701:=0
def PySem.W.Fast.tw18054268648134209106:=0
def PySem.W.Fast.tw13778855614151613423:=0
def PySem.W.Fast.tw14781345447519357693:=0
def PySem.W.Fast.tw10629653280246561378:=0
def PySem.W.Fast.tw17779855496869766200:=0
def PySem.W.Fast.tw13502942726397476362:=0
def PySem.W.Fast.tw2514098772377623464:=0
def PySem.W.Fast.tw2767691954960339118:=0
def PySem.W.Fast.tw17968652395324935890:=0
def PySem.W.Fast.tw8801388130281054955:=0
def PySem.W.Fast.tw4289994495320451842:=0
def PySem.W.Fast.tw4678085072979450783:=0
def PySem.W.Fast.tw10860838317549370327:=0
def PySem.W.Fast.tw9264809530298607848:=0
def PySem.W.Fast.tw9202748971291966012:=0
def PySem.W.Fast.tw14558221317100572755:=0
def PySem.W.Fast.tw9901730265637161478:=0
def PySem.W.Fast.tw11203726524366257959:=0
def PySem.W.Fast.tw15603106056172418786:=0
def PySem.W.Fast.tw2547274919935419953:=0
def PySem.W.Fast.tw10608335804996470199:=0
def PySem.W.Fast.tw16787984793722552458:=0
def PySem.W.Fast.tw4667720199391890136:=0
def PySem.W.Fast.tw6058097178482176685:=0
def PySem.W.Fast.tw6692174043982519482:=0
def PySem.W.Fast.tw12944298731263381686:=0
def PySem.W.Fast.tw3024122775295704600:=0
def PySem.W.Fast.tw10672541346469888258:=0
def PySem.W.Fast.tw8170259811724609023:=0
def PySem.W.Fast.tw17355146491193008568:=0
def PySem.W.Fast.tw2849905956768405010:=0
def PySem.W.Fast.tw3038532781890309097:=0
def PySem.W.Fast.tw4220448884725153273:=0
def PySem.W.Fast.tw13476062557100265443:=0
def PySem.W.Fast.tw12509694835290965940:=0
def PySem.W.Fast.tw14050455257641979467:=0
def PySem.W.Fast.tw4604337194556375034:=0
def PySem.W.Fast.tw10379463359408217694:=0
def PySem.W.Fast.tw514109522554807998:=0
def PySem.W.Fast.tw14004680092166262977:=0
def PySem.W.Fast.tw2274776048385493292:=0
def PySem.W.Fast.tw11183771782770683498:=0
def PySem.W.Fast.tw17619963330033578275:=0
def PySem.W.Fast.tw3806767203510924592:=0
def PySem.W.Fast.tw7095766065906145161:=0
def PySem.W.Fast.tw15929964161513686865:=0
def PySem.W.Fast.tw3362296492613108970:=0
def PySem.W.Fast.tw7684846592073973514:=0
def PySem.W.Fast.tw7326186495686161099:=0
def PySem.W.Fast.tw14670389795065167928:=0
def PySem.W.Fast.tw1443420593380220819:=0
def PySem.W.Fast.tw16757520164854961628:=0
def PySem.W.Fast.tw7484600834358031556:=0
def PySem.W.Fast.tw5262618995826964782:=0
def PySem.W.Fast.tw4445814987909138215:=0
def PySem.W.Fast.tw4360037919627316636:=0
def PySem.W.Fast.tw5859247521791942323:=0
def PySem.W.Fast.tw3323623169165090467:=0
def PySem.W.Fast.tw5944973961993059330:=0
def PySem.W.Fast.tw8457884284129168893:=0
def PySem.W.Fast.tw8067177869390761827:=0
def PySem.W.Fast.tw7865139971634214621:=0
def PySem.W.Fast.tw15637922992719551089:=0
def PySem.W.Fast.tw8407090345540297677:=0
def PySem.W.Fast.tw4422970837945624136:=0
def PySem.W.Fast.tw5398177396901042298:=0
def PySem.W.Fast.tw14474077004563952870:=0
def PySem.W.Fast.tw18335684265112549463:=0
def PySem.W.Fast.tw6018243532006085556:=0
def PySem.W.Fast.tw2656126487144910680:=0
def PySem.W.Fast.tw16299574471805644696:=0
def PySem.W.Fast.tw249979502313268758:=0
def PySem.W.Fast.tw11144460439217028186:=0
def PySem.W.Fast.tw11410021941350566761:=0
def PySem.W.Fast.tw613026606478792374:=0
def PySem.W.Fast.tw9071025556923489687:=0
def PySem.W.Fast.tw330862812008536361:=0
def PySem.W.Fast.tw11726855225693595578:=0
def PySem.W.Fast.tw14374203939320326766:=0
def PySem.W.Fast.tw17509234242815267703:=0
def PySem.W.Fast.tw14074822178306427709:=0
def PySem.W.Fast.tw14403542620595856147:=0
def PySem.W.Fast.tw16837449845776652747:=0
def PySem.W.Fast.tw9998503568337975730:=0
def PySem.W.Fast.tw3155392477772050487:=0
def PySem.W.Fast.tw17097430622776169511:=0
def PySem.W.Fast.tw8362962138537765077:=0
def PySem.W.Fast.tw2490823139739449867:=0
def PySem.W.Fast.tw6750212567014112884:=0
def PySem.W.Fast.tw5370798796109843109:=0
def PySem.W.Fast.tw6469919844274894020:=0
def PySem.W.Fast.tw5910725376923274894:PySem.Program:=PySem.Challenge.pw_manyreaders_k15_stops_and_ticks
theorem PySem.W.Fast.te5910725376923274894:PySem.Challenge.pw_manyreaders_k15_stops_and_ticks=PySem.W.Fast.tw5910725376923274894:=rfl
namespace K15
open PySem
def c0:Stmt:=fF 0
def c5:Stmt:=fF 5
def c6:Stmt:=fF 6
def c7:Stmt:=fF 7
def c8:Stmt:=fF 8
def c13:Stmt:=fF 13
def c14:Stmt:=fF 14
def c15:Stmt:=fF 15
def c24:Stmt:=fF 24
def c25:Stmt:=fF 25
def c26:Stmt:=fF 26
def c27:Stmt:=fF 27
def c28:Stmt:=fF 28
def c42:Stmt:=fF 42
def c43:Stmt:=fF 43
def pw2:Program:={ PySem.Challenge.pw_manyreaders_k15_stops_and_ticks with main:={ PySem.Challenge.pw_manyreaders_k15_stops_and_ticks.main with body:=[c0,gQ,eI,iR,dF,c5,c6,c7,c8,dG,fQ,dc,iN,c13,c14,c15,ky,iQ,gR,fR,iP,kw,eJ,ku,c24,c25,c26,c27,c28,iS,kz,iO,pJ,fS,gS,eM,dH,eL,eK,gP,kq,cN,c42,c43,dg,fW,gW,fU,fT,fY,gT,dJ,fV,gU,df,gX,dI,fX,eN,dL,cC,dh,vM] } }
def lw:PySem.W.OpenLaw:={ PySem.Challenge.rw_manyreaders_k15_stops_and_ticks with prog:=pw2 }
theorem lw_eq:PySem.Challenge.rw_manyreaders_k15_stops_and_ticks=lw:=by kernel_rfl
end K15
namespace K15
open PySem L2 MI PyProof.Rows M
def kf0(P:Params):PySem.W.Frag:=[(3,⟨.type "dict",none,.dict #[kE P "__name__" 165 (.str "law_manyreaders_k15_stops_and_ticks" 549),kE P "__doc__" 166 .none,kE P "__package__" 167 .none,kE P "__loader__" 168 (.builtin "__main__.__loader__#opaque"),kE P "__spec__" 169 .none,kE P "__annotations__" 170 (.ref 6),kE P "__builtins__" 171 (.ref 4),kE P "__file__" 173 (.str "/claim/cut.py" 172),kE P "__cached__" 174 .none,kE P "is_whole" 195 (.ref 21),kE P "is_between" 204 (.ref 28),kE P "is_word" 212 (.ref 35),kE P "is_tuple_of" 220 (.ref 42),kE P "WRITING_WORDS" 225 (.ref 43),kE P "WANTS" 228 (.ref 44),kE P "GREATEST_LEFT" 230 (.int 9 229),kE P "guests_with" 236 (.ref 49),kE P "with_word" 247 (.ref 56),kE P "without_wait" 253 (.ref 61),kE P "waiting" 262 (.ref 68),kE P "FAVOURED" 276 (.ref 69),kE P "WORD_WITHIN" 283 (.ref 70),kE P "can_go" 289 (.ref 75),kE P "next_in" 298 (.ref 82),kE P "foremost" 304 (.ref 87),kE P "next_past" 316 (.ref 94),kE P "settled" 326 (.ref 101),kE P "coming" 335 (.ref 108),kE P "brought_by" 346 (.ref 115),kE P "let_in" 352 (.ref 120),kE P "GuestError" 372 (.ref 130),kE P "NoDeed" 397 (.ref 150),kE P "GUEST_WORDS" 404 (.ref 153),kE P "is_deed" 415 (.ref 160),kE P "can_do" 426 (.ref 167),kE P "stepped" 436 (.ref 174),kE P "done" 446 (.ref 181),kE P "bring_ask" 462 (.ref 188),kE P "bring_up" 473 (.ref 195),kE P "bring_down" 483 (.ref 202),kE P "bring_leave" 493 (.ref 209),kE P "bring_stop" 504 (.ref 216),kE P "bring_tick" 510 (.ref 221),kE P "one_less" 517 (.ref 228),kE P "turned" 523 (.ref 233),kE P "settled_behind" 533 (.ref 240),kE P "BRINGS" 548 (.ref 241),kE P "_law_cell_at" 558 (.ref 248),kE P "_law_left" 568 (.ref 255),kE P "_law_far" 576 (.ref 262),kE P "_law_pick" 585 (.ref 269),kE P "_law_rule" 595 (.ref 276),kE P "_law_deed" 605 (.ref 283),kE P "_law_row" 620 (.ref 290),kE P "_law_fronts" 626 (.ref 295),kE P "_law_lets" 636 (.ref 302),kE P "_law_put" 645 (.ref 309),kE P "_law_settled" 651 (.ref 314),kE P "_law_can" 657 (.ref 319),kE P "_law_marked" 663 (.ref 324),kE P "_law_done" 669 (.ref 329),kE P "_law_asked" 675 (.ref 334),kE P "_law_formed" 681 (.ref 339),kE P "_law_same" 687 (.ref 344),kE P "_law_awaited" 702 (.ref 351),kE P "law" 718 (.ref 358)] 66,#[]⟩),(20,kC "is_whole" 189 2 1 15 16 (.ref 17) (.ref 18) 19 193),(21,kF "is_whole" gQ "manyreaders.kinds" 187 20),(27,kC "is_between" 196 4 3 22 23 (.ref 24) (.ref 25) 26 202),(28,kF "is_between" eI "manyreaders.kinds" 187 27),(34,kC "is_word" 205 6 2 29 30 (.ref 31) (.ref 32) 33 210),(35,kF "is_word" iR "manyreaders.kinds" 187 34),(41,kC "is_tuple_of" 213 8 2 36 37 (.ref 38) (.ref 39) 40 218)]
def kf1(P:Params):PySem.W.Frag:=[(42,kF "is_tuple_of" dF "manyreaders.kinds" 187 41),(43,⟨.type "tuple",none,.seq #[.str "writes" 223,.str "raised" 224] 0,#[]⟩),(44,⟨.type "tuple",none,.seq #[.str "read" 226,.str "write" 227] 0,#[]⟩),(48,kC "guests_with" 231 14 2 45 46 .none .none 47 234),(49,kF "guests_with" dG "manyreaders.rooms" 221 48),(55,kC "with_word" 237 16 3 50 51 (.ref 52) (.ref 53) 54 245),(56,kF "with_word" fQ "manyreaders.rooms" 221 55),(60,kC "without_wait" 248 19 2 57 58 .none .none 59 251)]
def kf2(P:Params):PySem.W.Frag:=[(61,kF "without_wait" dc "manyreaders.rooms" 221 60),(67,kC "waiting" 254 22 2 62 63 (.ref 64) (.ref 65) 66 260),(68,kF "waiting" iN "manyreaders.rooms" 221 67),(69,⟨.type "dict",none,.dict #[kE P "rows" 265 .none,kE P "readers" 266 (.str "read" 267),kE P "writers" 268 (.str "write" 269),kE P "turns" 270 (.str "write" 271)] 4,#[]⟩),(70,⟨.type "dict",none,.dict #[kE P "read" 277 (.str "reads" 278),kE P "write" 279 (.str "writes" 280)] 2,#[]⟩),(74,kC "can_go" 284 32 3 71 72 .none .none 73 287),(75,kF "can_go" ky "manyreaders.doors" 263 74),(81,kC "next_in" 290 41 2 76 77 (.ref 78) (.ref 79) 80 296)]
def kf3(P:Params):PySem.W.Frag:=[(82,kF "next_in" iQ "manyreaders.doors" 263 81),(86,kC "foremost" 299 46 2 83 84 .none .none 85 302),(87,kF "foremost" gR "manyreaders.doors" 263 86),(93,kC "next_past" 305 51 2 88 89 (.ref 90) (.ref 91) 92 314),(94,kF "next_past" fR "manyreaders.doors" 263 93),(100,kC "settled" 317 58 2 95 96 (.ref 97) (.ref 98) 99 324),(101,kF "settled" iP "manyreaders.doors" 263 100),(107,kC "coming" 327 66 2 102 103 (.ref 104) (.ref 105) 106 333)]
def kf4(P:Params):PySem.W.Frag:=[(108,kF "coming" kw "manyreaders.doors" 263 107),(114,kC "brought_by" 336 72 3 109 110 (.ref 111) (.ref 112) 113 344),(115,kF "brought_by" eJ "manyreaders.doors" 263 114),(119,kC "let_in" 347 77 3 116 117 .none .none 118 350),(120,kF "let_in" ku "manyreaders.doors" 263 119),(153,⟨.type "tuple",none,.seq #[.str "up" 400,.str "down" 401,.str "leave" 402,.str "stop" 403] 0,#[]⟩),(159,kC "is_deed" 405 93 2 154 155 (.ref 156) (.ref 157) 158 413),(160,kF "is_deed" iS "manyreaders.deeds" 398 159)]
def kf5(P:Params):PySem.W.Frag:=[(166,kC "can_do" 416 102 2 161 162 (.ref 163) (.ref 164) 165 424),(167,kF "can_do" kz "manyreaders.deeds" 398 166),(173,kC "stepped" 427 116 4 168 169 (.ref 170) (.ref 171) 172 434),(174,kF "stepped" iO "manyreaders.deeds" 398 173),(180,kC "done" 437 120 3 175 176 (.ref 177) (.ref 178) 179 444),(181,kF "done" pJ "manyreaders.deeds" 398 180),(187,kC "bring_ask" 447 123 3 182 183 (.ref 184) (.ref 185) 186 460),(188,kF "bring_ask" fS "manyreaders.deeds" 398 187)]
def kf6(P:Params):PySem.W.Frag:=[(194,kC "bring_up" 463 133 3 189 190 (.ref 191) (.ref 192) 193 471),(195,kF "bring_up" gS "manyreaders.deeds" 398 194),(201,kC "bring_down" 474 141 3 196 197 (.ref 198) (.ref 199) 200 481),(202,kF "bring_down" eM "manyreaders.deeds" 398 201),(208,kC "bring_leave" 484 144 3 203 204 (.ref 205) (.ref 206) 207 491),(209,kF "bring_leave" dH "manyreaders.deeds" 398 208),(215,kC "bring_stop" 494 147 3 210 211 (.ref 212) (.ref 213) 214 502),(216,kF "bring_stop" eL "manyreaders.deeds" 398 215)]
def kf7(P:Params):PySem.W.Frag:=[(220,kC "bring_tick" 505 154 3 217 218 .none .none 219 508),(221,kF "bring_tick" eK "manyreaders.deeds" 398 220),(227,kC "one_less" 511 160 1 222 223 (.ref 224) (.ref 225) 226 515),(228,kF "one_less" gP "manyreaders.deeds" 398 227),(232,kC "turned" 518 162 3 229 230 .none .none 231 521),(233,kF "turned" kq "manyreaders.deeds" 398 232),(239,kC "settled_behind" 524 167 3 234 235 (.ref 236) (.ref 237) 238 531),(240,kF "settled_behind" cN "manyreaders.deeds" 398 239)]
def kf8(P:Params):PySem.W.Frag:=[(241,⟨.type "dict",none,.dict #[kE P "read" 534 (.ref 188),kE P "write" 535 (.ref 188),kE P "up" 536 (.ref 195),kE P "down" 537 (.ref 202),kE P "leave" 538 (.ref 209),kE P "stop" 539 (.ref 216),kE P "tick" 540 (.ref 221)] 7,#[]⟩),(247,kC "_law_cell_at" 551 172 2 242 243 (.ref 244) (.ref 245) 246 556),(248,kF "_law_cell_at" dg "law_manyreaders_k15_stops_and_ticks" 549 247),(254,kC "_law_left" 559 176 2 249 250 (.ref 251) (.ref 252) 253 566),(255,kF "_law_left" fW "law_manyreaders_k15_stops_and_ticks" 549 254),(261,kC "_law_far" 569 183 0 256 257 (.ref 258) (.ref 259) 260 574),(262,kF "_law_far" gW "law_manyreaders_k15_stops_and_ticks" 549 261),(268,kC "_law_pick" 577 188 2 263 264 (.ref 265) (.ref 266) 267 583)]
def kf9(P:Params):PySem.W.Frag:=[(269,kF "_law_pick" fU "law_manyreaders_k15_stops_and_ticks" 549 268),(275,kC "_law_rule" 586 196 1 270 271 (.ref 272) (.ref 273) 274 593),(276,kF "_law_rule" fT "law_manyreaders_k15_stops_and_ticks" 549 275),(282,kC "_law_deed" 596 201 2 277 278 (.ref 279) (.ref 280) 281 603),(283,kF "_law_deed" fY "law_manyreaders_k15_stops_and_ticks" 549 282),(289,kC "_law_row" 606 209 4 284 285 (.ref 286) (.ref 287) 288 618),(290,kF "_law_row" gT "law_manyreaders_k15_stops_and_ticks" 549 289),(294,kC "_law_fronts" 621 219 2 291 292 .none .none 293 624)]
def kf10(P:Params):PySem.W.Frag:=[(295,kF "_law_fronts" dJ "law_manyreaders_k15_stops_and_ticks" 549 294),(301,kC "_law_lets" 627 230 3 296 297 (.ref 298) (.ref 299) 300 634),(302,kF "_law_lets" fV "law_manyreaders_k15_stops_and_ticks" 549 301),(308,kC "_law_put" 637 237 3 303 304 (.ref 305) (.ref 306) 307 643),(309,kF "_law_put" gU "law_manyreaders_k15_stops_and_ticks" 549 308),(313,kC "_law_settled" 646 239 2 310 311 .none .none 312 649),(314,kF "_law_settled" df "law_manyreaders_k15_stops_and_ticks" 549 313),(318,kC "_law_can" 652 255 2 315 316 .none .none 317 655)]
def kf11(P:Params):PySem.W.Frag:=[(319,kF "_law_can" gX "law_manyreaders_k15_stops_and_ticks" 549 318),(323,kC "_law_marked" 658 264 3 320 321 .none .none 322 661),(324,kF "_law_marked" dI "law_manyreaders_k15_stops_and_ticks" 549 323),(328,kC "_law_done" 664 268 3 325 326 .none .none 327 667),(329,kF "_law_done" fX "law_manyreaders_k15_stops_and_ticks" 549 328),(333,kC "_law_asked" 670 291 3 330 331 .none .none 332 673),(334,kF "_law_asked" eN "law_manyreaders_k15_stops_and_ticks" 549 333),(338,kC "_law_formed" 676 300 2 335 336 .none .none 337 679)]
def kf12(P:Params):PySem.W.Frag:=[(339,kF "_law_formed" dL "law_manyreaders_k15_stops_and_ticks" 549 338),(343,kC "_law_same" 682 311 2 340 341 .none .none 342 685),(344,kF "_law_same" cC "law_manyreaders_k15_stops_and_ticks" 549 343),(350,kC "_law_awaited" 688 328 3 345 346 (.ref 347) (.ref 348) 349 700),(351,kF "_law_awaited" dh "law_manyreaders_k15_stops_and_ticks" 549 350),(357,kC "law" 703 339 1 352 353 (.ref 354) (.ref 355) 356 716),(358,kF "law" vM "law_manyreaders_k15_stops_and_ticks" 549 357)]
def eg(P:Params):PySem.W.Frag:=(((kf0 P)++((kf1 P)++(kf2 P)))++((kf3 P)++((kf4 P)++(kf5 P))))++(((kf6 P)++((kf7 P)++(kf8 P)))++(((kf9 P)++(kf10 P))++((kf11 P)++(kf12 P))))
def kads:List Addr:=[3,20,21,27,28,34,35,41,42,43,44,48,49,55,56,60,61,67,68,69,70,74,75,81,82,86,87,93,94,100,101,107,108,114,115,119,120,153,159,160,166,167,173,174,180,181,187,188,194,195,201,202,208,209,215,216,220,221,227,228,232,233,239,240,241,247,248,254,255,261,262,268,269,275,276,282,283,289,290,294,295,301,302,308,309,313,314,318,319,323,324,328,329,333,334,338,339,343,344,350,351,357,358]
theorem txt{w:World}{h:Heap}{mg:Str->Option Value}(X:(eg w.params).In h)(G:h.Ns mainGlobals mg):iF w (eg w.params) mg:=
 ⟨cO X G "law_manyreaders_k15_stops_and_ticks" 248 549 247 (by kernel_rfl),cO X G "law_manyreaders_k15_stops_and_ticks" 262 549 261 (by kernel_rfl),cO X G "law_manyreaders_k15_stops_and_ticks" 255 549 254 (by kernel_rfl),cO X G "law_manyreaders_k15_stops_and_ticks" 269 549 268 (by kernel_rfl),cO X G "law_manyreaders_k15_stops_and_ticks" 276 549 275 (by kernel_rfl),cO X G "law_manyreaders_k15_stops_and_ticks" 339 549 338 (by kernel_rfl),cO X G "law_manyreaders_k15_stops_and_ticks" 283 549 282 (by kernel_rfl),cO X G "law_manyreaders_k15_stops_and_ticks" 309 549 308 (by kernel_rfl),cO X G "law_manyreaders_k15_stops_and_ticks" 295 549 294 (by kernel_rfl),cO X G "law_manyreaders_k15_stops_and_ticks" 302 549 301 (by kernel_rfl),cO X G "law_manyreaders_k15_stops_and_ticks" 314 549 313 (by kernel_rfl),cO X G "law_manyreaders_k15_stops_and_ticks" 319 549 318 (by kernel_rfl),cO X G "law_manyreaders_k15_stops_and_ticks" 334 549 333 (by kernel_rfl),cO X G "law_manyreaders_k15_stops_and_ticks" 324 549 323 (by kernel_rfl),cO X G "law_manyreaders_k15_stops_and_ticks" 329 549 328 (by kernel_rfl),cO X G "law_manyreaders_k15_stops_and_ticks" 290 549 289 (by kernel_rfl),cO X G "law_manyreaders_k15_stops_and_ticks" 351 549 350 (by kernel_rfl),cO X G "law_manyreaders_k15_stops_and_ticks" 344 549 343 (by kernel_rfl),cO X G "manyreaders.rooms" 49 221 48 (by kernel_rfl),cO X G "manyreaders.doors" 87 263 86 (by kernel_rfl),cO X G "manyreaders.rooms" 68 221 67 (by kernel_rfl),cO X G "manyreaders.doors" 75 263 74 (by kernel_rfl),cO X G "manyreaders.doors" 94 263 93 (by kernel_rfl),cO X G "manyreaders.doors" 82 263 81 (by kernel_rfl),cO X G "manyreaders.doors" 108 263 107 (by kernel_rfl),cO X G "manyreaders.rooms" 56 221 55 (by kernel_rfl),cO X G "manyreaders.doors" 120 263 119 (by kernel_rfl),cO X G "manyreaders.doors" 115 263 114 (by kernel_rfl),cO X G "manyreaders.doors" 101 263 100 (by kernel_rfl),cO X G "manyreaders.rooms" 61 221 60 (by kernel_rfl),cO X G "manyreaders.deeds" 188 398 187 (by kernel_rfl),cO X G "manyreaders.deeds" 195 398 194 (by kernel_rfl),cO X G "manyreaders.deeds" 240 398 239 (by kernel_rfl),cO X G "manyreaders.deeds" 233 398 232 (by kernel_rfl),cO X G "manyreaders.deeds" 202 398 201 (by kernel_rfl),cO X G "manyreaders.deeds" 209 398 208 (by kernel_rfl),cO X G "manyreaders.deeds" 216 398 215 (by kernel_rfl),cO X G "manyreaders.deeds" 228 398 227 (by kernel_rfl),cO X G "manyreaders.deeds" 221 398 220 (by kernel_rfl),cO X G "manyreaders.deeds" 181 398 180 (by kernel_rfl),cO X G "manyreaders.kinds" 42 187 41 (by kernel_rfl),cO X G "manyreaders.kinds" 35 187 34 (by kernel_rfl),cO X G "manyreaders.kinds" 21 187 20 (by kernel_rfl),cO X G "manyreaders.kinds" 28 187 27 (by kernel_rfl),cO X G "manyreaders.deeds" 160 398 159 (by kernel_rfl),cO X G "manyreaders.deeds" 167 398 166 (by kernel_rfl),cO X G "manyreaders.deeds" 174 398 173 (by kernel_rfl),cO X G "law_manyreaders_k15_stops_and_ticks" 358 549 357 (by kernel_rfl),PySem.W.mg_none_of X G (by kernel_rfl),PySem.W.mg_none_of X G (by kernel_rfl),PySem.W.mg_none_of X G (by kernel_rfl),PySem.W.mg_none_of X G (by kernel_rfl),PySem.W.mg_none_of X G (by kernel_rfl),PySem.W.mg_none_of X G (by kernel_rfl),PySem.W.mg_none_of X G (by kernel_rfl),PySem.W.mg_none_of X G (by kernel_rfl),PySem.W.mg_none_of X G (by kernel_rfl),PySem.W.mg_none_of X G (by kernel_rfl),PySem.W.mg_none_of X G (by kernel_rfl),PySem.W.mg_none_of X G (by kernel_rfl),PySem.W.mg_none_of X G (by kernel_rfl),PySem.W.mg_none_of X G (by kernel_rfl),SA (PySem.W.mg_of X G (show PySem.W.nsIn (eg w.params) mainGlobals "BRINGS" = some (some (.ref 241)) by kernel_rfl)) (show (eg w.params).lookup 241=some ⟨.type "dict",none,.dict #[⟨PyData.keyHash w.params "read",.str "read" 534,.ref 188⟩,⟨PyData.keyHash w.params "write",.str "write" 535,.ref 188⟩,⟨PyData.keyHash w.params "up",.str "up" 536,.ref 195⟩,⟨PyData.keyHash w.params "down",.str "down" 537,.ref 202⟩,⟨PyData.keyHash w.params "leave",.str "leave" 538,.ref 209⟩,⟨PyData.keyHash w.params "stop",.str "stop" 539,.ref 216⟩,⟨PyData.keyHash w.params "tick",.str "tick" 540,.ref 221⟩] 7,#[]⟩ by kernel_rfl) (.cons (.cons (.cons (.cons (.cons (.cons (.cons (.nil)))))))) (show List.Nodup ([.inr "read",.inr "write",.inr "up",.inr "down",.inr "leave",.inr "stop",.inr "tick"]:List bB) by decide +kernel) (.cons (PySem.W.mg_of X G (show PySem.W.nsIn (eg w.params) mainGlobals "bring_ask" = some (some (.ref 188)) by kernel_rfl)) (.cons (PySem.W.mg_of X G (show PySem.W.nsIn (eg w.params) mainGlobals "bring_ask" = some (some (.ref 188)) by kernel_rfl)) (.cons (PySem.W.mg_of X G (show PySem.W.nsIn (eg w.params) mainGlobals "bring_up" = some (some (.ref 195)) by kernel_rfl)) (.cons (PySem.W.mg_of X G (show PySem.W.nsIn (eg w.params) mainGlobals "bring_down" = some (some (.ref 202)) by kernel_rfl)) (.cons (PySem.W.mg_of X G (show PySem.W.nsIn (eg w.params) mainGlobals "bring_leave" = some (some (.ref 209)) by kernel_rfl)) (.cons (PySem.W.mg_of X G (show PySem.W.nsIn (eg w.params) mainGlobals "bring_stop" = some (some (.ref 216)) by kernel_rfl)) (.cons (PySem.W.mg_of X G (show PySem.W.nsIn (eg w.params) mainGlobals "bring_tick" = some (some (.ref 221)) by kernel_rfl)) (.nil)))))))),IB (PySem.W.mg_of X G (show PySem.W.nsIn (eg w.params) mainGlobals "FAVOURED" = some (some (.ref 69)) by kernel_rfl)) (show (eg w.params).lookup 69=some ⟨.type "dict",none,.dict #[⟨PyData.keyHash w.params "rows",.str "rows" 265,.none⟩,⟨PyData.keyHash w.params "readers",.str "readers" 266,.str "read" 267⟩,⟨PyData.keyHash w.params "writers",.str "writers" 268,.str "write" 269⟩,⟨PyData.keyHash w.params "turns",.str "turns" 270,.str "write" 271⟩] 4,#[]⟩ by kernel_rfl) (.cons (.cons (.cons (.cons (.nil))))) (show List.Nodup ([.inr "rows",.inr "readers",.inr "writers",.inr "turns"]:List bB) by decide +kernel) (.cons .non rfl (fun _ _ _=>.non) (.cons (V.str "read") ⟨_,rfl⟩ (fun _ _ _=>.str _) (.cons (V.str "write") ⟨_,rfl⟩ (fun _ _ _=>.str _) (.cons (V.str "write") ⟨_,rfl⟩ (fun _ _ _=>.str _) (.nil))))),⟨_,V.int 9,PySem.W.mg_of X G (show PySem.W.nsIn (eg w.params) mainGlobals "GREATEST_LEFT" = some (some (.int 9 229)) by kernel_rfl),⟨_,rfl⟩,fun μ H=>.int _⟩,⟨_,.ref 153,PySem.W.mg_of X G (show PySem.W.nsIn (eg w.params) mainGlobals "GUEST_WORDS" = some (some (.ref 153)) by kernel_rfl),rfl,fun μ H=>.ktup (vs:=[V.str "up",V.str "down",V.str "leave",V.str "stop"]) ⟨_,_,_,(show (eg w.params).lookup 153=some ⟨.type "tuple",none,.seq #[.str "up" 400,.str "down" 401,.str "leave" 402,.str "stop" 403] 0,#[]⟩ by kernel_rfl),rfl,rfl,rfl,(show 4<=sizeLine by decide),.cons ⟨_,rfl⟩ (.cons ⟨_,rfl⟩ (.cons ⟨_,rfl⟩ (.cons ⟨_,rfl⟩ (.nil))))⟩ (.cons (.str _) (.cons (.str _) (.cons (.str _) (.cons (.str _) (.nil)))))⟩,⟨_,.ref 44,PySem.W.mg_of X G (show PySem.W.nsIn (eg w.params) mainGlobals "WANTS" = some (some (.ref 44)) by kernel_rfl),rfl,fun μ H=>.ktup (vs:=[V.str "read",V.str "write"]) ⟨_,_,_,(show (eg w.params).lookup 44=some ⟨.type "tuple",none,.seq #[.str "read" 226,.str "write" 227] 0,#[]⟩ by kernel_rfl),rfl,rfl,rfl,(show 2<=sizeLine by decide),.cons ⟨_,rfl⟩ (.cons ⟨_,rfl⟩ (.nil))⟩ (.cons (.str _) (.cons (.str _) (.nil)))⟩,IB (PySem.W.mg_of X G (show PySem.W.nsIn (eg w.params) mainGlobals "WORD_WITHIN" = some (some (.ref 70)) by kernel_rfl)) (show (eg w.params).lookup 70=some ⟨.type "dict",none,.dict #[⟨PyData.keyHash w.params "read",.str "read" 277,.str "reads" 278⟩,⟨PyData.keyHash w.params "write",.str "write" 279,.str "writes" 280⟩] 2,#[]⟩ by kernel_rfl) (.cons (.cons (.nil))) (show List.Nodup ([.inr "read",.inr "write"]:List bB) by decide +kernel) (.cons (V.str "reads") ⟨_,rfl⟩ (fun _ _ _=>.str _) (.cons (V.str "writes") ⟨_,rfl⟩ (fun _ _ _=>.str _) (.nil))),⟨_,.ref 43,PySem.W.mg_of X G (show PySem.W.nsIn (eg w.params) mainGlobals "WRITING_WORDS" = some (some (.ref 43)) by kernel_rfl),rfl,fun μ H=>.ktup (vs:=[V.str "writes",V.str "raised"]) ⟨_,_,_,(show (eg w.params).lookup 43=some ⟨.type "tuple",none,.seq #[.str "writes" 223,.str "raised" 224] 0,#[]⟩ by kernel_rfl),rfl,rfl,rfl,(show 2<=sizeLine by decide),.cons ⟨_,rfl⟩ (.cons ⟨_,rfl⟩ (.nil))⟩ (.cons (.str _) (.cons (.str _) (.nil)))⟩⟩
end K15
open PySem PySem.W PyProof.Rows
set_option maxRecDepth 100000 in
set_option maxHeartbeats 0 in
theorem PySem.Challenge.cw_manyreaders_k15_stops_and_ticks_holds : PySem.Challenge.rw_manyreaders_k15_stops_and_ticks.Holds := by
 rw [K15.lw_eq];w_on;o_law;o_head (kHook K15.eg K15.kads (fun _=>by kernel_rfl));(case hw=>w_witness2)
 exact K15.walk (l:=K15.lw) rfl rfl rfl (fun w h Y=>PySem.W.kIn_of Y) K15.Kf fun w mg h KX G=>K15.txt KX G

end
